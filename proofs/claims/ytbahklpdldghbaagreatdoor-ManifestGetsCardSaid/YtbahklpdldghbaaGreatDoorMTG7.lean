/- Any bytes are a manifest's, which may be, and has just them, or none's, told why (up to 400 bytes). The law ManifestGets answers true for every input. The package-level variables that it reaches are as the program's text lays them (tied). -/
import Derived.Test.YtbahklpdldghbaaGreatDoorMTG6
import Derived.Test.YtbahklpdldghbaaGreatDoorChecked
import Derived.Shelf.Pu.Clone
import Derived.Ground.NamesProg
import Derived.Shelf.Strings.OnBuilder
import Derived.Test.YtbahklpdldghbaaGreatDoorProg
import Derived.Shelf.SlicesQ.Reverse
import Derived.Lib.OwnBridge
import Derived.ProofKit
import Derived.OpenShut
import Derived.Maps.Keyed
import Derived.DeepKeys4
import Derived.WideMake
import Derived.WideShapes
import Derived.SliceStrings
import Derived.SizedLaws
import Derived.Lib.SmallJoins
import Derived.ChangeSlices
import Derived.Deep.OwnShut
import Derived.Deep.Grids
section
namespace Go.Proofs.YtbahklpdldghbaaGreatDoor.Blk
open Go.RowKit Go.Lib Go.Shelf
def cloneRen : Ren := { f := fun | 25 => 71 | n => n, t := fun | 3 => 3 | 4 => 4 | 5 => 5 | 9 => 9 | 37 => 93 | 47 => 171 | n => n, g := fun n => n }
theorem cloneLays : LaysPu.n25 Tryz.prog cloneRen := ⟨by kernel_rfl, by kernel_rfl, by kernel_rfl, fun _ => by kernel_rfl, fun _ => by kernel_rfl, fun _ => by kernel_rfl, by kernel_rfl, by kernel_rfl, fun _ => by kernel_rfl, fun _ => by kernel_rfl, fun _ => by kernel_rfl, by kernel_rfl, by kernel_rfl, fun _ => by kernel_rfl, fun _ => by kernel_rfl, fun _ => by kernel_rfl, by kernel_rfl, by kernel_rfl, fun _ => by kernel_rfl, fun _ => by kernel_rfl, fun _ => by kernel_rfl, by kernel_rfl, by kernel_rfl, fun _ => by kernel_rfl, fun _ => by kernel_rfl, fun _ => by kernel_rfl, by kernel_rfl, by kernel_rfl, fun _ => by kernel_rfl, fun _ => by kernel_rfl, fun _ => by kernel_rfl, by kernel_rfl, by kernel_rfl, fun _ => by kernel_rfl, fun _ => by kernel_rfl, fun _ => by kernel_rfl, by kernel_rfl⟩
theorem clone_any (s : ByteArray) (w : World) (h : s.size ≤ 281474976710656) :
    Calls Tryz.prog 49 #[.string s] w fun e w' => e = .returned (.string s) ∧ Below w.heap.size w w' := by
  go_enter Tryz.func49, Tryz.ntmps49
  go_wp2_with (go_at_call 71; refine ((show Calls Tryz.prog 71 #[.string s] _ fun e w' => e = .returned (.string s) ∧ Below _ _ w' from AnyPu.stringslite_Clone cloneLays s _ h)).mono ?_; rintro e w' ⟨rfl, hb⟩)
  go_ret
  exact ⟨rfl, by assumption⟩
end Go.Proofs.YtbahklpdldghbaaGreatDoor.Blk
end
section
namespace Go.Proofs
open Go.Shelf
def Tryz.layJoin_ren : Go.Shelf.Ren := ⟨fun | 156 => 48 | 165 => 68 | 166 => 69 | 169 => 70 | 240 => 89 | 241 => 90 | 276 => 112 | 277 => 113 | n => n, fun | 31 => 47 | 9 => 9 | 3 => 3 | 4 => 4 | 0 => 0 | 20 => 20 | 72 => 149 | 76 => 75 | 70 => 147 | 37 => 93 | 75 => 27 | 127 => 171 | 164 => 81 | 5 => 5 | 80 => 113 | n => n, fun | n => n⟩
theorem Tryz.layJoin : Go.Proofs.Lays.n156 Tryz.prog Tryz.layJoin_ren := {
  mixed := by kernel_rfl
  f156 := Tryz.func48.trans (congrArg some (by kernel_rfl))
  f165 := Tryz.func68.trans (congrArg some (by kernel_rfl))
  f166 := Tryz.func69.trans (congrArg some (by kernel_rfl))
  f169 := Tryz.func70.trans (congrArg some (by kernel_rfl))
  f240 := Tryz.func89.trans (congrArg some (by kernel_rfl))
  f241 := Tryz.func90.trans (congrArg some (by kernel_rfl))
  f276 := Tryz.func112.trans (congrArg some (by kernel_rfl))
  f277 := Tryz.func113.trans (congrArg some (by kernel_rfl))
  t0 := Tryz.underlying0
  a0 := Tryz.isAgg0
  z0 := Tryz.sizeOf0
  v0 := Tryz.zeroValue0
  t3 := Tryz.underlying3
  a3 := Tryz.isAgg3
  z3 := Tryz.sizeOf3
  v3 := Tryz.zeroValue3
  t4 := Tryz.underlying4
  a4 := Tryz.isAgg4
  z4 := Tryz.sizeOf4
  v4 := Tryz.zeroValue4
  t9 := Tryz.underlying9
  a9 := Tryz.isAgg9
  z9 := Tryz.sizeOf9
  v9 := Tryz.zeroValue9
  t20 := Tryz.underlying20
  a20 := Tryz.isAgg20
  z20 := Tryz.sizeOf20
  v20 := Tryz.zeroValue20
  t31 := Tryz.underlying47
  a31 := Tryz.isAgg47
  z31 := Tryz.sizeOf47
  v31 := Tryz.zeroValue47
  t37 := Tryz.underlying93
  a37 := Tryz.isAgg93
  z37 := Tryz.sizeOf93
  v37 := Tryz.zeroValue93
  t70 := Tryz.underlying147
  a70 := Tryz.isAgg147
  z70 := Tryz.sizeOf147
  v70 := Tryz.zeroValue147
  t72 := Tryz.underlying149
  a72 := Tryz.isAgg149
  z72 := Tryz.sizeOf149
  v72 := Tryz.zeroValue149
  t75 := Tryz.underlying27
  a75 := Tryz.isAgg27
  z75 := Tryz.sizeOf27
  v75 := Tryz.zeroValue27
  t76 := Tryz.underlying75
  a76 := Tryz.isAgg75
  z76 := Tryz.sizeOf75
  v76 := Tryz.zeroValue75
  t127 := Tryz.underlying171
  a127 := Tryz.isAgg171
  z127 := Tryz.sizeOf171
  v127 := Tryz.zeroValue171
  t164 := Tryz.underlying81
  a164 := Tryz.isAgg81
  z164 := Tryz.sizeOf81
  v164 := Tryz.zeroValue81 }
theorem Tryz.layJoinX : Builder.Extra Tryz.prog Tryz.layJoin_ren := {
  sizeBuilder := by kernel_rfl
  liesBuilder := by kernel_rfl
  t5 := Tryz.underlying5
  a5 := Tryz.isAgg5
  z5 := Tryz.sizeOf5
  v5 := Tryz.zeroValue5
  infoByte := by kernel_rfl
  cellsByte := by kernel_rfl
  sizeByte := by kernel_rfl
  neB5 := by decide }
end Go.Proofs
end
section
namespace Go.Proofs.YtbahklpdldghbaaGreatDoor.Blk
open Go Go.RowKit Go.Lib RowG
theorem cat_list (ts : List ByteArray) : (catK ts).data.toList = (ts.map (·.data.toList)).flatten := by
  have h : ∀ (ts : List ByteArray) (acc : ByteArray), (ts.foldl (· ++ ·) acc).data.toList = acc.data.toList ++ (ts.map (·.data.toList)).flatten := fun ts => by
    induction ts with
    | nil => intro acc; simp
    | cons a r ih => intro acc; rw [List.foldl_cons, ih]; simp
  exact h ts _
theorem join_flat (ts : List ByteArray) : Lib.join (ts.map (·.data.toList)) [] = (catK ts).data.toList := by
  rw [cat_list]
  cases ts with
  | nil => rfl
  | cons a r => rw [List.map_cons, Lib.join_cons]; simp [Lib.joinTail]; rfl
theorem join_any (A : Option Addr) (c : Nat) (ts : List ByteArray) (w : World) (hl : ts.length ≤ 1000) (hc : ts.length ≤ c) (hz : (catK ts).size ≤ 100000) (hA : RIn txR w A ts) :
    Calls Tryz.prog 48 #[.slice A ts.length c, .string ⟨#[]⟩] w fun e w' => e = .returned (.string (catK ts)) ∧ Below w.heap.size w w' := by
  rcases Nat.eq_zero_or_pos ts.length with h0 | h0
  · obtain rfl := List.eq_nil_of_length_eq_zero h0;exact (Any.strings_Join_none Tryz.layJoin Tryz.layJoinX A c ⟨#[]⟩ w).mono fun e w' ⟨h1, h2⟩ => ⟨h1, by rw [h2]; exact Below.refl _ _⟩
  · obtain ⟨b, o, rfl, hb⟩ := hA.addr h0;have hj : Lib.join (ts.map (·.data.toList)) (⟨#[]⟩ : ByteArray).data.toList = (catK ts).data.toList := join_flat ts;have hlen : (catK ts).data.toList.length = (catK ts).size := by rw [Array.length_toList]; rfl
    refine (Any.strings_Join Tryz.layJoin Tryz.layJoinX b o c ts ⟨#[]⟩ w (fun j x hx => ?_) hb (by omega) hc (by rw [hj, hlen]; omega)).mono fun e w' ⟨h1, h2⟩ => ⟨?_, h2⟩
    · obtain ⟨b', o', e, -, hcell⟩ := tx_cell hA hx;cases e;exact hcell
    · rw [h1, hj]
end Go.Proofs.YtbahklpdldghbaaGreatDoor.Blk
end
section
namespace Go.Proofs.YtbahklpdldghbaaGreatDoor.Blk
open Go Go.RowKit Go.Lib RowG Num
set_option maxRecDepth 100000 in
set_option maxHeartbeats 4000000 in
theorem cut_full (A : Option Addr) (c : Nat) (ts : List ByteArray) (w : World) (hl : ts.length ≤ 1000) (hc : ts.length ≤ c) (hz : (catK ts).size ≤ 20000) (hA : RIn txR w A ts) :
    Calls Tryz.prog 32 #[.slice A ts.length c] w fun e v => ∃ g, e = .returned (.slice (some ⟨g, 0, none⟩) (cntK (catK ts).size) (cntK (catK ts).size)) ∧ w.heap.size ≤ g ∧ RIn txR v (some ⟨g, 0, none⟩) (cutK (catK ts)) ∧ Below w.heap.size w v := by
  refine Kn.calls Tryz.func32 rfl Tryz.ntmps32 rfl (.cons (t := 0) rfl .nil) fun fa0 fh0 => ?_;refine wp_seq_k fun K1 hK1 => ?_;refine wp_region_lit ?_;refine Kn.pure fh0 rfl rfl .none (Kn.ex_assign fh0 .const) fun fa1 fh1 => ?_;clear fh0 fa0;refine wpList_nil ?_;refine hK1 _ _ ?_;clear hK1 K1;have hj := join_any A c ts w hl hc (by omega) hA;refine wp_seq_k fun K2 hK2 => ?_;refine wp_region_lit ?_;refine Kn.pure fh1 rfl rfl .none (Kn.ex_move fh1 (.tmp rfl)) fun fa2 fh2 => ?_;clear fh1 fa1;refine Kn.call fh2 rfl rfl .none (Kn.ex_call fh2 (.cons (.tmp rfl) (.cons .const .nil))) Tryz.call48 (hj) fun e w1 hp => ?_;obtain ⟨rfl, hb1⟩ := hp;refine ⟨_, rfl, fun fa3 fh3 => ?_⟩;clear fh2 fa2;refine Kn.pure fh3 rfl rfl .none (Kn.ex_assign fh3 (.tmp rfl)) fun fa4 fh4 => ?_;clear fh3 fa3;refine wpList_nil ?_;refine hK2 _ _ ?_;clear hK2 K2;replace fh4 := fh4.cut (.cons (t := 3) rfl (.cons (t := 2) rfl .nil));obtain ⟨s, hs⟩ : ∃ s, catK ts = s := ⟨_, rfl⟩;rw [hs] at fh4 hz ⊢;obtain ⟨N, hN⟩ : ∃ N, cntK s.size = N := ⟨_, rfl⟩;have hct := count_any s.size w1 (by omega);rw [hN] at hct;have hN2 : N ≤ 400 := by rw [← hN]; unfold cntK; omega
  obtain ⟨w2, hmk, hO2, hb2⟩ := makeG (P := Tryz.prog) txR elemTx8 (⟨#[]⟩ : ByteArray) (by rfl) w1 N (by show N * 1 ≤ _; omega) (by decide) (by omega);have hH2 := hold_of_own hO2;clear hO2 hj hs;obtain ⟨g, hg⟩ : ∃ q, w1.heap.size = q := ⟨_, rfl⟩;rw [hg] at hmk hH2;have hgw : w.heap.size ≤ g := by rw [← hg]; exact hb1.size
  have hB2 : Below w.heap.size w w2 := hb1.trans (hb2.mono hb1.size);clear hb1 hb2 hg hA;refine wp_seq_k fun K3 hK3 => ?_;refine wp_region_lit ?_;refine Kn.pure fh4 rfl rfl .none (Kn.ex_move fh4 (.tmp rfl)) fun fa5 fh5 => ?_;clear fh4 fa4;refine Kn.step fh5 rfl rfl .none (Kn.ex_len fh5 (.tmp rfl)) fun Ko hKo => ?_;go_simp;(try go_bits);refine hKo _ _ fun fa6 fh6 => ?_;clear hKo Ko fh5 fa5;refine Kn.call fh6 rfl rfl .none (Kn.ex_call fh6 (.cons (.tmp rfl) .nil)) Tryz.call27 (hct) fun e w1b hp => ?_;obtain ⟨rfl, rfl⟩ := hp;refine ⟨_, rfl, fun fa7 fh7 => ?_⟩;clear fh6 fa6;refine Kn.known fh7 rfl rfl .none (Kn.ex_makeSlice fh7 (.tmp rfl) (.tmp rfl)) hmk fun fa8 fh8 => ?_;clear fh7 fa7;refine Kn.pure fh8 rfl rfl .none (Kn.ex_assign fh8 (.tmp rfl)) fun fa9 fh9 => ?_;clear fh8 fa8;refine wpList_nil ?_;refine hK3 _ _ ?_;clear hK3 K3;replace fh9 := fh9.cut (.cons (t := 4) rfl (.cons (t := 3) rfl (.cons (t := 2) rfl .nil)));clear hmk hct;refine wp_seq_k fun K4 hK4 => ?_;refine wp_seq_k fun K5 hK5 => ?_;refine wp_region_lit ?_;refine Kn.pure fh9 rfl rfl .none (Kn.ex_move fh9 (.tmp rfl)) fun fa10 fh10 => ?_;clear fh9 fa9;refine Kn.step fh10 rfl rfl .none (Kn.ex_len fh10 (.tmp rfl)) fun Ko hKo => ?_;go_simp;(try go_bits);refine hKo _ _ fun fa11 fh11 => ?_;clear hKo Ko fh10 fa10;refine Kn.pure fh11 rfl rfl .none (Kn.ex_move fh11 .const) fun fa12 fh12 => ?_;clear fh11 fa11;refine wpList_nil ?_;refine hK5 _ _ ?_;clear hK5 K5;replace fh12 := fh12.cut (.cons (t := 15) rfl (.cons (t := 14) rfl (.cons (t := 4) rfl (.cons (t := 3) rfl (.cons (t := 2) rfl .nil)))));refine wp_block ?_;refine Kn.loop (fun m fr u => ∃ (i : Nat) (ls : List ByteArray), Kn.Kn 35 [(15, .int .i64 (i : Int)), (14, .int .i64 (N : Int)), (4, .slice (some ⟨g, 0, none⟩) N N), (3, .string s)] fr ∧ i + m = N ∧ ls.length = N ∧ Hid (∀ j, j < i → ls[j]? = (cutK s)[j]?) ∧ Hid (Hold txR u g ls) ∧ Hid (Below w.heap.size w u)) N ⟨0, List.replicate N ⟨#[]⟩, fh12.cut (.turn (t := 15) rfl rfl (.cons (t := 14) rfl (.cons (t := 4) rfl (.cons (t := 3) rfl .nil)))), by omega, by simp, Lib.hid (fun j hj => by omega), hH2, hB2⟩ ?_;clear fh12 fa12;intro m6 fa13 u hI Kl6 hKl6;obtain ⟨i, ls, fh13, hi, hll, HE, HH, HB⟩ := hI
  by_cases hlt : i < N
  · have hic : i < cntK s.size := by omega
    have hsz := size_any s.size (i : Int) u (by omega);have hst := szK_step hic;obtain ⟨z, hzz⟩ : ∃ z, szK s.size (i : Int) = z := ⟨_, rfl⟩;rw [hzz] at hsz hst;obtain ⟨p, hp⟩ : ∃ p, 64 * i = p := ⟨_, rfl⟩;have hps : p ≤ s.size := by unfold cntK at hic; omega
    obtain ⟨e1, he1⟩ : ∃ q, p + z = q := ⟨_, rfl⟩;have he2 : e1 = min s.size (64 * (i + 1)) := by omega
    have hbk : blkK s i = s.extract p e1 := by unfold blkK; rw [hp, Nat.min_eq_right hps, ← he2]
    obtain ⟨q, hq⟩ : ∃ q, s.extract p e1 = q := ⟨_, rfl⟩;rw [hq] at hbk;have r1 : (i : Int) * 64 = (p : Int) := by omega
    have r2 : (p : Int) + (z : Int) = (e1 : Int) := by omega
    have hes : e1 ≤ s.size := by omega
    have hpe : p ≤ e1 := by omega
    have hqs : q.size ≤ 281474976710656 := by rw [← hq, ByteArray.size_extract]; omega
    have hsl : ∀ v, (Instr.sliceAt 9 (.string s) (some (.int .i64 (p : Int))) (some (.int .i64 (e1 : Int))) none).run Tryz.prog v = .ok (.string q) v := fun v => by
      have := run_slice_string (P := Tryz.prog) v 9 s .i64 .i64 p e1 Tryz.underlying9 (by omega) (by omega) (by omega);rw [Int.toNat_natCast, Int.toNat_natCast, hq] at this;rw [run_sliceAt_string _ _ _ _ _ _ Tryz.underlying9];exact this
    have hcl := clone_any q u hqs;have hcu := cutK_at hic;rw [hbk] at hcu;clear hst hp he1 he2 hq hbk hzz;refine wp_seq_k fun K7 hK7 => ?_;refine wp_region_lit ?_;refine Kn.step fh13 rfl rfl .none (Kn.ex_bin fh13 (.tmp rfl) (.tmp rfl)) fun Ko hKo => ?_;go_simp;(try go_bits);refine hKo _ _ fun fa14 fh14 => ?_;clear hKo Ko fh13 fa13;refine wpList_nil ?_;refine hK7 _ _ ?_;clear hK7 K7;refine wp_seq_k fun K8 hK8 => ?_;refine Kn.yes fh14 (.tmp rfl) ?_;refine wp_skip ?_;refine hK8 _ _ ?_;clear hK8 K8;replace fh14 := fh14.cut (.cons (t := 15) rfl (.cons (t := 14) rfl (.cons (t := 4) rfl (.cons (t := 3) rfl .nil))));refine wp_seq_k fun K9 hK9 => ?_;refine wp_block ?_;refine wp_seq_k fun K10 hK10 => ?_;refine wp_region_lit ?_;refine Kn.pure fh14 rfl rfl .none (Kn.ex_move fh14 (.tmp rfl)) fun fa15 fh15 => ?_;clear fh14 fa14;refine Kn.pure fh15 rfl rfl .none (Kn.ex_assign fh15 (.tmp rfl)) fun fa16 fh16 => ?_;clear fh15 fa15;refine wpList_nil ?_;refine hK10 _ _ ?_;clear hK10 K10;replace fh16 := fh16.cut (.cons (t := 5) rfl (.cons (t := 15) rfl (.cons (t := 14) rfl (.cons (t := 4) rfl (.cons (t := 3) rfl .nil)))));refine wp_seq_k fun K11 hK11 => ?_;refine wp_region_lit ?_;refine Kn.pure fh16 rfl rfl .none (Kn.ex_move fh16 (.tmp rfl)) fun fa17 fh17 => ?_;clear fh16 fa16;refine Kn.step fh17 rfl rfl .none (Kn.ex_bin fh17 (.tmp rfl) .const) fun Ko hKo => ?_;go_simp;(try go_bits);refine hKo _ _ fun fa18 fh18 => ?_;clear hKo Ko fh17 fa17;refine Kn.pure fh18 rfl rfl .none (Kn.ex_assign fh18 (.tmp rfl)) fun fa19 fh19 => ?_;clear fh18 fa18;refine wpList_nil ?_;refine hK11 _ _ ?_;clear hK11 K11;replace fh19 := fh19.cut (.cons (t := 6) rfl (.cons (t := 5) rfl (.cons (t := 15) rfl (.cons (t := 14) rfl (.cons (t := 4) rfl (.cons (t := 3) rfl .nil))))));clear r1;refine wp_region_lit ?_;refine Kn.pure fh19 rfl rfl .none (Kn.ex_move fh19 (.tmp rfl)) fun fa20 fh20 => ?_;clear fh19 fa19;refine Kn.pure fh20 rfl rfl .none (Kn.ex_move fh20 (.tmp rfl)) fun fa21 fh21 => ?_;clear fh20 fa20;refine Kn.pure fh21 rfl rfl .none (Kn.ex_move fh21 (.tmp rfl)) fun fa22 fh22 => ?_;clear fh21 fa21;refine Kn.pure fh22 rfl rfl .none (Kn.ex_move fh22 (.tmp rfl)) fun fa23 fh23 => ?_;clear fh22 fa22;refine Kn.pure fh23 rfl rfl .none (Kn.ex_move fh23 (.tmp rfl)) fun fa24 fh24 => ?_;clear fh23 fa23;refine Kn.pure fh24 rfl rfl .none (Kn.ex_move fh24 (.tmp rfl)) fun fa25 fh25 => ?_;clear fh24 fa24;refine Kn.step fh25 rfl rfl .none (Kn.ex_len fh25 (.tmp rfl)) fun Ko hKo => ?_;go_simp;(try go_bits);refine hKo _ _ fun fa26 fh26 => ?_;clear hKo Ko fh25 fa25;refine Kn.pure fh26 rfl rfl .none (Kn.ex_move fh26 (.tmp rfl)) fun fa27 fh27 => ?_;clear fh26 fa26;refine Kn.call fh27 rfl rfl .none (Kn.ex_call fh27 (.cons (.tmp rfl) (.cons (.tmp rfl) .nil))) Tryz.call50 (hsz) fun e u1 hp => ?_;obtain ⟨rfl, rfl⟩ := hp;refine ⟨_, rfl, fun fa28 fh28 => ?_⟩;clear fh27 fa27;refine Kn.step fh28 rfl rfl .none (Kn.ex_bin fh28 (.tmp rfl) (.tmp rfl)) fun Ko hKo => ?_;go_simp;(try go_bits);refine hKo _ _ fun fa29 fh29 => ?_;clear hKo Ko fh28 fa28;refine Kn.known fh29 rfl rfl .none (Kn.ex_sliceLH fh29 (.tmp rfl) (.tmp rfl) (.tmp rfl)) (hsl u) fun fa30 fh30 => ?_;clear fh29 fa29;refine Kn.call fh30 rfl rfl .none (Kn.ex_call fh30 (.cons (.tmp rfl) .nil)) Tryz.call49 (hcl) fun e u2 hp => ?_;obtain ⟨rfl, hb2⟩ := hp;refine ⟨_, rfl, fun fa31 fh31 => ?_⟩;clear fh30 fa30;obtain ⟨u3, hst, hH3, hr1, hr2, hr3⟩ := (HH.out.on hb2).store1 (P := Tryz.prog) (e := 9) i (by omega) q (.string q) rfl rfl (fun w p c h1 h2 => store_tx8 q w p c h1 h2);have HB3 : Hid (Below w.heap.size w u3) := Lib.hid ((HB.out.trans (hb2.mono HB.out.size)).trans (hr3 _ hgw));clear hb2 hcl hsl r2 hsz hr1 hr2 hr3;refine Kn.step fh31 rfl rfl .none (Kn.ex_indexAddr fh31 (.tmp rfl) (.tmp rfl)) fun Ko hKo => ?_;go_simp;(try go_bits);refine hKo _ _ fun fa32 fh32 => ?_;clear hKo Ko fh31 fa31;refine Kn.stepU fh32 rfl .none (Kn.ex_store fh32 (.tmp rfl) (.tmp rfl)) fun Ko hKo => ?_;refine Kn.satU_run8 hst ?_;refine hKo _ ?_;clear hKo Ko;refine wpList_nil ?_;refine Kn.block_normal ?_;refine hK9 _ _ ?_;clear hK9 K9;replace fh32 := fh32.cut (.cons (t := 15) rfl (.cons (t := 14) rfl (.cons (t := 4) rfl (.cons (t := 3) rfl .nil))));refine wp_region_lit ?_;refine Kn.step fh32 rfl rfl .none (Kn.ex_bin fh32 (.tmp rfl) .const) fun Ko hKo => ?_;go_simp;(try go_bits);refine hKo _ _ fun fa33 fh33 => ?_;clear hKo Ko fh32 fa32;refine Kn.pure fh33 rfl rfl .none (Kn.ex_move fh33 (.tmp rfl)) fun fa34 fh34 => ?_;clear fh33 fa33;refine wpList_nil ?_;replace fh34 := fh34.cut (.cons (t := 15) rfl (.cons (t := 14) rfl (.cons (t := 4) rfl (.cons (t := 3) rfl .nil))))
    exact hKl6 (m6 - 1) _ _ (by omega) ⟨i + 1, ls.set i q, fh34.cut (.turn (t := 15) rfl (by go_num) (.cons (t := 14) rfl (.cons (t := 4) rfl (.cons (t := 3) rfl .nil)))), by omega, by rw [List.length_set]; exact hll, Lib.hid (fun j hj => by
      by_cases e : i = j
      · subst e; rw [List.getElem?_set_self (by omega), hcu]
      · rw [List.getElem?_set_ne e]; exact HE.out j (by omega)), hH3, HB3⟩
  have hin : i = N := by omega
  subst hin
  have hls : ls = cutK s := by
    apply List.ext_getElem?
    intro j
    by_cases hj : j < ls.length
    · exact HE.out j (by omega)
    · rw [List.getElem?_eq_none (by omega), List.getElem?_eq_none (by rw [cutK_len]; omega)]
  subst hls;refine wp_seq_k fun K7 hK7 => ?_;refine wp_region_lit ?_;refine Kn.step fh13 rfl rfl .none (Kn.ex_bin fh13 (.tmp rfl) (.tmp rfl)) fun Ko hKo => ?_;go_simp;(try go_bits);refine hKo _ _ fun fa14 fh14 => ?_;clear hKo Ko fh13 fa13;refine wpList_nil ?_;refine hK7 _ _ ?_;clear hK7 K7;refine wp_seq_k fun K8 hK8 => ?_;refine Kn.no fh14 (.tmp rfl) ?_;replace fh14 := fh14.cut (.cons (t := 15) rfl (.cons (t := 14) rfl (.cons (t := 4) rfl (.cons (t := 3) rfl .nil))));refine wp_exit ?_;refine Kn.then_exit ?_;clear hK8 K8;refine Kn.then_exit ?_;clear hKl6 Kl6;refine Kn.block_exit ?_;refine hK4 _ _ ?_;clear hK4 K4;replace fh14 := fh14.cut (.cons (t := 4) rfl .nil);refine wp_seq_k fun K9 hK9 => ?_;refine wp_region_lit ?_;refine Kn.pure fh14 rfl rfl .none (Kn.ex_move fh14 (.tmp rfl)) fun fa15 fh15 => ?_;clear fh14 fa14;refine Kn.pure fh15 rfl rfl .none (Kn.ex_assign fh15 (.tmp rfl)) fun fa16 fh16 => ?_;clear fh15 fa15;refine wpList_nil ?_;refine hK9 _ _ ?_;clear hK9 K9;replace fh16 := fh16.cut (.cons (t := 2) rfl .nil);refine wp_ret ?_;exact Kn.ret1 fh16 rfl rfl ⟨g, by rw [hN], hgw, HH.out.rin, HB.out⟩
end Go.Proofs.YtbahklpdldghbaaGreatDoor.Blk
end
section
namespace Go.Proofs.YtbahklpdldghbaaGreatDoor.Kn
open Go
end Go.Proofs.YtbahklpdldghbaaGreatDoor.Kn
namespace Go.Proofs.YtbahklpdldghbaaGreatDoor.Mrk
open Go Go.RowKit Go.Lib RowG
def upD (i n : Nat) (d : ByteArray) (pf : List ByteArray) : ByteArray :=
  if h : n < 2 then d
  else
    have hk := hf_in (n := n) (by omega)
    if i < hf n then sm (c1 ++ upD i (hf n) d pf.dropLast ++ pf.getLastD ByteArray.empty)
    else sm (c1 ++ pf.getLastD ByteArray.empty ++ upD (i - hf n) (n - hf n) d pf.dropLast)
termination_by n
def errno (c : Int) : Value := .iface 52 (.int .i64 c)
def fault (i c : Int) : Value := .iface 54 (.agg #[.int .i64 i, errno c])
def InR (i n : Int) : Prop := 0 ≤ i ∧ i < n ∧ n ≤ 1048576
instance (i n : Int) : Decidable (InR i n) := by unfold InR; infer_instance
def Fine (i n : Nat) (d : ByteArray) (pf : List ByteArray) : Prop := pf.length = stF i n ∧ d.size = 32 ∧ ∀ p ∈ pf, p.size = 32
instance (i n : Nat) (d : ByteArray) (pf : List ByteArray) : Decidable (Fine i n d pf) := by unfold Fine; infer_instance
def chkV (root : ByteArray) (i n : Int) (s : ByteArray) (pf : List ByteArray) : Value :=
  if InR i n then (if Fine i.toNat n.toNat (sm (c0 ++ s)) pf then (if upD i.toNat n.toNat (sm (c0 ++ s)) pf = root then .nilIface else fault i 11) else errno 11) else errno 2
end Go.Proofs.YtbahklpdldghbaaGreatDoor.Mrk
end
section
namespace Go.Proofs.YtbahklpdldghbaaGreatDoor.Kn
open Go
section
variable {P : Program} {n : Nat} {l : List (Nat × Value)} {a : Act} {w : World}
theorem retSS {fn : Func} {R : Ending → World → Prop} {p q : Tmp} {ty tz : TypeId} {g k : Nat} {cs ds : Array Value} {d e : TypeDesc} (h : Kn n l a) (hr : fn.results = #[.cell p ty, .cell q tz]) (hp : find l p = some (.pointer (some ⟨g, 0, none⟩))) (hq : find l q = some (.pointer (some ⟨k, 0, none⟩))) (hs : St.St w g ty cs) (hu : P.underlying ty = some d) (hd : St.rowD d = true) (hi : (P.info? ty).map (·.size) = some cs.size) (hs2 : St.St w k tz ds) (hu2 : P.underlying tz = some e) (hd2 : St.rowD e = true) (hi2 : (P.info? tz).map (·.size) = some ds.size) (H : R (.returned (.tuple #[.agg cs, .agg ds])) w) : bodyPost P fn R .ret a w := by
  have e1 := h.get p _ hp;have e2 := h.get q _ hq;simp only [Act.eval] at e1 e2;have l1 : (loadVar ty ⟨g, 0, none⟩).run P w = .ok (.agg cs) w := hs.load hu hd hi;have l2 : (loadVar tz ⟨k, 0, none⟩).run P w = .ok (.agg ds) w := hs2.load hu2 hd2 hi2;refine bodyPost_ret (v := .tuple #[.agg cs, .agg ds]) ?_ h.defers H;have h1 : a.tmps[p]?.getD undef = .pointer (some ⟨g, 0, none⟩) := by simpa using e1
  have h2 : a.tmps[q]?.getD undef = .pointer (some ⟨k, 0, none⟩) := by simpa using e2
  simp [results, hr, h1, h2, asAddr, l1, l2]
end
end Go.Proofs.YtbahklpdldghbaaGreatDoor.Kn
namespace Go.Proofs.YtbahklpdldghbaaGreatDoor.Mrk
open Go Go.RowKit Go.Lib RowG
def blen (x : Nat) : Nat := if x = 0 then 0 else Nat.log2 x + 1
theorem log2_is {x k : Nat} (h1 : 2 ^ k ≤ x) (h2 : x < 2 ^ (k + 1)) : Nat.log2 x = k := by
  have h0 : x ≠ 0 := by have := Nat.two_pow_pos k; omega
  have a1 := (Nat.le_log2 h0 (k := k)).2 h1;have a2 := (Nat.log2_lt h0 (k := k + 1)).2 h2;omega
theorem blen_div {x q k : Nat} (hq : x / 2 ^ k = q) (h : 0 < q) : blen x = k + blen q := by
  have h0 : q ≠ 0 := by omega
  have hx : x ≠ 0 := by intro e; subst e; simp at hq; omega
  rw [blen, blen, if_neg h0, if_neg hx]
  have e : Nat.log2 x = k + Nat.log2 q := by
    have b1 := Nat.log2_self_le h0;have b2 := Nat.lt_log2_self (n := q);subst hq;refine log2_is ?_ ?_
    · rw [Nat.pow_add, Nat.mul_comm];exact Nat.le_trans (Nat.mul_le_mul_right _ b1) (Nat.div_mul_le_self _ _)
    · rw [Nat.add_assoc, Nat.pow_add, Nat.mul_comm];exact (Nat.div_lt_iff_lt_mul (Nat.two_pow_pos k)).1 b2
  omega
def hp (n : Nat) : Nat := 2 ^ Nat.log2 (n - 1)
theorem hp_in {n : Nat} (h : 2 ≤ n) : 1 ≤ hp n ∧ hp n < n ∧ n ≤ 2 * hp n := by
  have h0 : n - 1 ≠ 0 := by omega
  have b1 := Nat.log2_self_le h0;have b2 := Nat.lt_log2_self (n := n - 1);have b3 := Nat.two_pow_pos (Nat.log2 (n - 1));rw [Nat.pow_succ] at b2;unfold hp;omega
theorem blen_8 {k : Nat} (hk : k < 256) : blen k ≤ 8 := by
  unfold blen
  split
  · omega
  · rename_i h;have := (Nat.log2_lt h (k := 8)).2 hk;omega
theorem len8 {t : ByteArray} {k b : Nat} (ht : t.size = 256 ∧ ∀ i, i < 256 → (t.data.getD i 0).toNat = blen i) (hk : k < 256) (hb : blen k = b) (w : World) : (Instr.index 9 (.string t) (.int .u8 (k : Int))).run Tryz.prog w = .ok (.int .u8 (b : Int)) w := by
  have h := ht.2 k hk;have hs := ht.1;have hk2 : k < t.size := by omega
  have hk3 : k < t.data.size := hk2
  have e : t.data.getD k 0 = t[k] := by
    show t.data.getD k 0 = t.data[k];simp only [Array.getD, dif_pos hk3]
    rfl
  rw [e, hb] at h;simp [Instr.index, Sem.run_bind, run_underlying Tryz.underlying9, asIntOf, Result.andThen, hk2, h]
set_option maxRecDepth 100000 in
set_option maxHeartbeats 400000 in
theorem len64_any (x : Nat) (w : World) (hx : x < 16777216) :
    Calls Tryz.prog 105 #[.int .u64 (x : Int)] w fun e w' => e = .returned (.int .i64 (blen x : Int)) ∧ w = w' := by
  refine Kn.calls Tryz.func105 rfl Tryz.ntmps105 rfl (.cons (t := 0) rfl .nil) fun fa0 fh0 => ?_;refine wp_seq_k fun K1 hK1 => ?_;refine wp_region_lit ?_;refine Kn.pure fh0 rfl rfl .none (Kn.ex_assign fh0 .const) fun fa1 fh1 => ?_;clear fh0 fa0;refine wpList_nil ?_;refine hK1 _ _ ?_;clear hK1 K1;have q0 : ¬ (4294967296 : Int) ≤ (x : Int) := by omega
  refine wp_seq_k fun K2 hK2 => ?_;refine wp_seq_k fun K3 hK3 => ?_;refine wp_region_lit ?_;refine Kn.pure fh1 rfl rfl .none (Kn.ex_move fh1 (.tmp rfl)) fun fa2 fh2 => ?_;clear fh1 fa1;refine Kn.step fh2 rfl rfl .none (Kn.ex_bin fh2 (.tmp rfl) .const) fun Ko hKo => ?_;go_simp;(try go_bits);refine hKo _ _ fun fa3 fh3 => ?_;clear hKo Ko fh2 fa2;refine wpList_nil ?_;refine hK3 _ _ ?_;clear hK3 K3;replace fh3 := fh3.cut (.cons (t := 4) rfl (.cons (t := 2) rfl (.cons (t := 0) rfl .nil)));refine Kn.no fh3 (.tmp rfl) ?_;refine wp_skip ?_;refine hK2 _ _ ?_;clear hK2 K2;replace fh3 := fh3.cut (.cons (t := 2) rfl (.cons (t := 0) rfl .nil))
  by_cases h1 : (65536 : Int) ≤ (x : Int)
  · obtain ⟨y, hy⟩ : ∃ y, x / 65536 = y := ⟨_, rfl⟩;have ry : (x : Int) / 65536 = (y : Int) := by omega
    have y_lt : y < 256 := by omega
    have y_0 : 0 < y := by omega
    have HY : Hid (x / 2 ^ 16 = y) := Lib.hid hy;clear hy;have q2 : ¬ (256 : Int) ≤ (y : Int) := by omega
    refine wp_seq_k fun K4 hK4 => ?_;refine wp_seq_k fun K5 hK5 => ?_;refine wp_region_lit ?_;refine Kn.pure fh3 rfl rfl .none (Kn.ex_move fh3 (.tmp rfl)) fun fa4 fh4 => ?_;clear fh3 fa3;refine Kn.step fh4 rfl rfl .none (Kn.ex_bin fh4 (.tmp rfl) .const) fun Ko hKo => ?_;go_simp;(try go_bits);refine hKo _ _ fun fa5 fh5 => ?_;clear hKo Ko fh4 fa4;refine wpList_nil ?_;refine hK5 _ _ ?_;clear hK5 K5;replace fh5 := fh5.cut (.cons (t := 8) rfl (.cons (t := 2) rfl (.cons (t := 0) rfl .nil)));refine Kn.yes fh5 (.tmp rfl) ?_;replace fh5 := fh5.cut (.cons (t := 2) rfl (.cons (t := 0) rfl .nil));refine wp_seq_k fun K6 hK6 => ?_;refine wp_region_lit ?_;refine Kn.pure fh5 rfl rfl .none (Kn.ex_move fh5 (.tmp rfl)) fun fa6 fh6 => ?_;clear fh5 fa5;refine Kn.step fh6 rfl rfl .none (Kn.ex_bin fh6 (.tmp rfl) .const) fun Ko hKo => ?_;go_simp;(try go_bits);refine hKo _ _ fun fa7 fh7 => ?_;clear hKo Ko fh6 fa6;refine Kn.pure fh7 rfl rfl .none (Kn.ex_assign fh7 (.tmp rfl)) fun fa8 fh8 => ?_;clear fh7 fa7;refine wpList_nil ?_;refine hK6 _ _ ?_;clear hK6 K6;replace fh8 := fh8.cut (.cons (t := 0) rfl (.cons (t := 2) rfl .nil));refine wp_region_lit ?_;refine Kn.pure fh8 rfl rfl .none (Kn.ex_move fh8 (.tmp rfl)) fun fa9 fh9 => ?_;clear fh8 fa8;refine Kn.step fh9 rfl rfl .none (Kn.ex_bin fh9 (.tmp rfl) .const) fun Ko hKo => ?_;go_simp;(try go_bits);refine hKo _ _ fun fa10 fh10 => ?_;clear hKo Ko fh9 fa9;refine Kn.pure fh10 rfl rfl .none (Kn.ex_assign fh10 (.tmp rfl)) fun fa11 fh11 => ?_;clear fh10 fa10;refine wpList_nil ?_;refine hK4 _ _ ?_;clear hK4 K4;replace fh11 := fh11.cut (.cons (t := 2) rfl (.cons (t := 0) rfl .nil));clear ry;refine wp_seq_k fun K7 hK7 => ?_;refine wp_seq_k fun K8 hK8 => ?_;refine wp_region_lit ?_;refine Kn.pure fh11 rfl rfl .none (Kn.ex_move fh11 (.tmp rfl)) fun fa12 fh12 => ?_;clear fh11 fa11;refine Kn.step fh12 rfl rfl .none (Kn.ex_bin fh12 (.tmp rfl) .const) fun Ko hKo => ?_;go_simp;(try go_bits);refine hKo _ _ fun fa13 fh13 => ?_;clear hKo Ko fh12 fa12;refine wpList_nil ?_;refine hK8 _ _ ?_;clear hK8 K8;replace fh13 := fh13.cut (.cons (t := 14) rfl (.cons (t := 2) rfl (.cons (t := 0) rfl .nil)));refine Kn.no fh13 (.tmp rfl) ?_;refine wp_skip ?_;refine hK7 _ _ ?_;clear hK7 K7;replace fh13 := fh13.cut (.cons (t := 2) rfl (.cons (t := 0) rfl .nil));obtain ⟨b, hb⟩ : ∃ b, blen y = b := ⟨_, rfl⟩;have hb8 : b ≤ 8 := by have := blen_8 y_lt; omega
    have hbx : blen x = 16 + b := by rw [← hb]; exact blen_div (k := 16) HY.out (by omega)
    obtain ⟨c, hc⟩ : ∃ c, blen x = c := ⟨_, rfl⟩;have rc : (16 : Int) + (b : Int) = (c : Int) := by omega
    have HC := Lib.hid hc;clear hc hbx;refine wp_seq_k fun K9 hK9 => ?_;refine wp_region_lit ?_;refine Kn.pure fh13 rfl rfl .none (Kn.ex_move fh13 (.tmp rfl)) fun fa14 fh14 => ?_;clear fh13 fa13;refine Kn.pure fh14 rfl rfl .none (Kn.ex_move fh14 (.tmp rfl)) fun fa15 fh15 => ?_;clear fh14 fa14;refine Kn.step fh15 rfl rfl .none (Kn.ex_convert fh15 (.tmp rfl)) fun Ko hKo => ?_;go_simp;(try go_bits);refine hKo _ _ fun fa16 fh16 => ?_;clear hKo Ko fh15 fa15;refine Kn.known fh16 rfl rfl .none (Kn.ex_index fh16 .const (.tmp rfl)) (len8 (by decide +kernel) y_lt hb _) fun fa17 fh17 => ?_;clear fh16 fa16;clear hb;refine Kn.step fh17 rfl rfl .none (Kn.ex_convert fh17 (.tmp rfl)) fun Ko hKo => ?_;go_simp;(try go_bits);refine hKo _ _ fun fa18 fh18 => ?_;clear hKo Ko fh17 fa17;refine Kn.step fh18 rfl rfl .none (Kn.ex_bin fh18 (.tmp rfl) (.tmp rfl)) fun Ko hKo => ?_;go_simp;(try go_bits);try rw [rc]
    refine hKo _ _ fun fa19 fh19 => ?_;clear hKo Ko fh18 fa18;refine Kn.pure fh19 rfl rfl .none (Kn.ex_assign fh19 (.tmp rfl)) fun fa20 fh20 => ?_;clear fh19 fa19;refine wpList_nil ?_;refine hK9 _ _ ?_;clear hK9 K9;replace fh20 := fh20.cut (.cons (t := 2) rfl .nil);refine wp_ret ?_;exact Kn.ret1 fh20 rfl rfl ⟨by rw [HC.out], rfl⟩
  refine wp_seq_k fun K4 hK4 => ?_;refine wp_seq_k fun K5 hK5 => ?_;refine wp_region_lit ?_;refine Kn.pure fh3 rfl rfl .none (Kn.ex_move fh3 (.tmp rfl)) fun fa4 fh4 => ?_;clear fh3 fa3;refine Kn.step fh4 rfl rfl .none (Kn.ex_bin fh4 (.tmp rfl) .const) fun Ko hKo => ?_;go_simp;(try go_bits);refine hKo _ _ fun fa5 fh5 => ?_;clear hKo Ko fh4 fa4;refine wpList_nil ?_;refine hK5 _ _ ?_;clear hK5 K5;replace fh5 := fh5.cut (.cons (t := 8) rfl (.cons (t := 2) rfl (.cons (t := 0) rfl .nil)));refine Kn.no fh5 (.tmp rfl) ?_;refine wp_skip ?_;refine hK4 _ _ ?_;clear hK4 K4;replace fh5 := fh5.cut (.cons (t := 2) rfl (.cons (t := 0) rfl .nil))
  by_cases h2 : (256 : Int) ≤ (x : Int)
  · obtain ⟨y, hy⟩ : ∃ y, x / 256 = y := ⟨_, rfl⟩;have ry : (x : Int) / 256 = (y : Int) := by omega
    have y_lt : y < 256 := by omega
    have y_0 : 0 < y := by omega
    have HY : Hid (x / 2 ^ 8 = y) := Lib.hid hy;clear hy;have q2 : ¬ (256 : Int) ≤ (y : Int) := by omega
    refine wp_seq_k fun K6 hK6 => ?_;refine wp_seq_k fun K7 hK7 => ?_;refine wp_region_lit ?_;refine Kn.pure fh5 rfl rfl .none (Kn.ex_move fh5 (.tmp rfl)) fun fa6 fh6 => ?_;clear fh5 fa5;refine Kn.step fh6 rfl rfl .none (Kn.ex_bin fh6 (.tmp rfl) .const) fun Ko hKo => ?_;go_simp;(try go_bits);refine hKo _ _ fun fa7 fh7 => ?_;clear hKo Ko fh6 fa6;refine wpList_nil ?_;refine hK7 _ _ ?_;clear hK7 K7;replace fh7 := fh7.cut (.cons (t := 14) rfl (.cons (t := 2) rfl (.cons (t := 0) rfl .nil)));refine Kn.yes fh7 (.tmp rfl) ?_;replace fh7 := fh7.cut (.cons (t := 2) rfl (.cons (t := 0) rfl .nil));refine wp_seq_k fun K8 hK8 => ?_;refine wp_region_lit ?_;refine Kn.pure fh7 rfl rfl .none (Kn.ex_move fh7 (.tmp rfl)) fun fa8 fh8 => ?_;clear fh7 fa7;refine Kn.step fh8 rfl rfl .none (Kn.ex_bin fh8 (.tmp rfl) .const) fun Ko hKo => ?_;go_simp;(try go_bits);refine hKo _ _ fun fa9 fh9 => ?_;clear hKo Ko fh8 fa8;refine Kn.pure fh9 rfl rfl .none (Kn.ex_assign fh9 (.tmp rfl)) fun fa10 fh10 => ?_;clear fh9 fa9;refine wpList_nil ?_;refine hK8 _ _ ?_;clear hK8 K8;replace fh10 := fh10.cut (.cons (t := 0) rfl (.cons (t := 2) rfl .nil));refine wp_region_lit ?_;refine Kn.pure fh10 rfl rfl .none (Kn.ex_move fh10 (.tmp rfl)) fun fa11 fh11 => ?_;clear fh10 fa10;refine Kn.step fh11 rfl rfl .none (Kn.ex_bin fh11 (.tmp rfl) .const) fun Ko hKo => ?_;go_simp;(try go_bits);refine hKo _ _ fun fa12 fh12 => ?_;clear hKo Ko fh11 fa11;refine Kn.pure fh12 rfl rfl .none (Kn.ex_assign fh12 (.tmp rfl)) fun fa13 fh13 => ?_;clear fh12 fa12;refine wpList_nil ?_;refine hK6 _ _ ?_;clear hK6 K6;replace fh13 := fh13.cut (.cons (t := 2) rfl (.cons (t := 0) rfl .nil));clear ry;obtain ⟨b, hb⟩ : ∃ b, blen y = b := ⟨_, rfl⟩;have hb8 : b ≤ 8 := by have := blen_8 y_lt; omega
    have hbx : blen x = 8 + b := by rw [← hb]; exact blen_div (k := 8) HY.out (by omega)
    obtain ⟨c, hc⟩ : ∃ c, blen x = c := ⟨_, rfl⟩;have rc : (8 : Int) + (b : Int) = (c : Int) := by omega
    have HC := Lib.hid hc;clear hc hbx;refine wp_seq_k fun K9 hK9 => ?_;refine wp_region_lit ?_;refine Kn.pure fh13 rfl rfl .none (Kn.ex_move fh13 (.tmp rfl)) fun fa14 fh14 => ?_;clear fh13 fa13;refine Kn.pure fh14 rfl rfl .none (Kn.ex_move fh14 (.tmp rfl)) fun fa15 fh15 => ?_;clear fh14 fa14;refine Kn.step fh15 rfl rfl .none (Kn.ex_convert fh15 (.tmp rfl)) fun Ko hKo => ?_;go_simp;(try go_bits);refine hKo _ _ fun fa16 fh16 => ?_;clear hKo Ko fh15 fa15;refine Kn.known fh16 rfl rfl .none (Kn.ex_index fh16 .const (.tmp rfl)) (len8 (by decide +kernel) y_lt hb _) fun fa17 fh17 => ?_;clear fh16 fa16;clear hb;refine Kn.step fh17 rfl rfl .none (Kn.ex_convert fh17 (.tmp rfl)) fun Ko hKo => ?_;go_simp;(try go_bits);refine hKo _ _ fun fa18 fh18 => ?_;clear hKo Ko fh17 fa17;refine Kn.step fh18 rfl rfl .none (Kn.ex_bin fh18 (.tmp rfl) (.tmp rfl)) fun Ko hKo => ?_;go_simp;(try go_bits);try rw [rc]
    refine hKo _ _ fun fa19 fh19 => ?_;clear hKo Ko fh18 fa18;refine Kn.pure fh19 rfl rfl .none (Kn.ex_assign fh19 (.tmp rfl)) fun fa20 fh20 => ?_;clear fh19 fa19;refine wpList_nil ?_;refine hK9 _ _ ?_;clear hK9 K9;replace fh20 := fh20.cut (.cons (t := 2) rfl .nil);refine wp_ret ?_;exact Kn.ret1 fh20 rfl rfl ⟨by rw [HC.out], rfl⟩
  have x_lt : x < 256 := by omega
  refine wp_seq_k fun K6 hK6 => ?_;refine wp_seq_k fun K7 hK7 => ?_;refine wp_region_lit ?_;refine Kn.pure fh5 rfl rfl .none (Kn.ex_move fh5 (.tmp rfl)) fun fa6 fh6 => ?_;clear fh5 fa5;refine Kn.step fh6 rfl rfl .none (Kn.ex_bin fh6 (.tmp rfl) .const) fun Ko hKo => ?_;go_simp;(try go_bits);refine hKo _ _ fun fa7 fh7 => ?_;clear hKo Ko fh6 fa6;refine wpList_nil ?_;refine hK7 _ _ ?_;clear hK7 K7;replace fh7 := fh7.cut (.cons (t := 14) rfl (.cons (t := 2) rfl (.cons (t := 0) rfl .nil)));refine Kn.no fh7 (.tmp rfl) ?_;refine wp_skip ?_;refine hK6 _ _ ?_;clear hK6 K6;replace fh7 := fh7.cut (.cons (t := 2) rfl (.cons (t := 0) rfl .nil));obtain ⟨b, hb⟩ : ∃ b, blen x = b := ⟨_, rfl⟩;have hb8 : b ≤ 8 := by have := blen_8 x_lt; omega
  have hbx : blen x = 0 + b := by rw [← hb]; simp
  obtain ⟨c, hc⟩ : ∃ c, blen x = c := ⟨_, rfl⟩;have rc : (0 : Int) + (b : Int) = (c : Int) := by omega
  have HC := Lib.hid hc;clear hc hbx;refine wp_seq_k fun K8 hK8 => ?_;refine wp_region_lit ?_;refine Kn.pure fh7 rfl rfl .none (Kn.ex_move fh7 (.tmp rfl)) fun fa8 fh8 => ?_;clear fh7 fa7;refine Kn.pure fh8 rfl rfl .none (Kn.ex_move fh8 (.tmp rfl)) fun fa9 fh9 => ?_;clear fh8 fa8;refine Kn.step fh9 rfl rfl .none (Kn.ex_convert fh9 (.tmp rfl)) fun Ko hKo => ?_;go_simp;(try go_bits);refine hKo _ _ fun fa10 fh10 => ?_;clear hKo Ko fh9 fa9;refine Kn.known fh10 rfl rfl .none (Kn.ex_index fh10 .const (.tmp rfl)) (len8 (by decide +kernel) x_lt hb _) fun fa11 fh11 => ?_;clear fh10 fa10;clear hb;refine Kn.step fh11 rfl rfl .none (Kn.ex_convert fh11 (.tmp rfl)) fun Ko hKo => ?_;go_simp;(try go_bits);refine hKo _ _ fun fa12 fh12 => ?_;clear hKo Ko fh11 fa11;refine Kn.step fh12 rfl rfl .none (Kn.ex_bin fh12 (.tmp rfl) (.tmp rfl)) fun Ko hKo => ?_;go_simp;(try go_bits);try rw [rc]
  refine hKo _ _ fun fa13 fh13 => ?_;clear hKo Ko fh12 fa12;refine Kn.pure fh13 rfl rfl .none (Kn.ex_assign fh13 (.tmp rfl)) fun fa14 fh14 => ?_;clear fh13 fa13;refine wpList_nil ?_;refine hK8 _ _ ?_;clear hK8 K8;replace fh14 := fh14.cut (.cons (t := 2) rfl .nil);refine wp_ret ?_;exact Kn.ret1 fh14 rfl rfl ⟨by rw [HC.out], rfl⟩
set_option maxRecDepth 100000 in
set_option maxHeartbeats 400000 in
theorem len_any (x : Nat) (w : World) (hx : x < 16777216) :
    Calls Tryz.prog 80 #[.int .u64 (x : Int)] w fun e w' => e = .returned (.int .i64 (blen x : Int)) ∧ w = w' := by
  refine Kn.calls Tryz.func80 rfl Tryz.ntmps80 rfl (.cons (t := 0) rfl .nil) fun fa0 fh0 => ?_;refine wp_seq_k fun K1 hK1 => ?_;refine wp_region_lit ?_;refine Kn.pure fh0 rfl rfl .none (Kn.ex_assign fh0 .const) fun fa1 fh1 => ?_;clear fh0 fa0;refine wpList_nil ?_;refine hK1 _ _ ?_;clear hK1 K1;refine wp_seq_k fun K2 hK2 => ?_;refine Kn.no fh1 .const ?_;refine wp_skip ?_;refine hK2 _ _ ?_;clear hK2 K2;refine wp_seq_k fun K3 hK3 => ?_;refine wp_region_lit ?_;refine Kn.pure fh1 rfl rfl .none (Kn.ex_move fh1 (.tmp rfl)) fun fa2 fh2 => ?_;clear fh1 fa1;refine Kn.call fh2 rfl rfl .none (Kn.ex_call fh2 (.cons (.tmp rfl) .nil)) Tryz.call105 (len64_any x w hx) fun e w1 hp => ?_;obtain ⟨rfl, rfl⟩ := hp;refine ⟨_, rfl, fun fa3 fh3 => ?_⟩;clear fh2 fa2;refine Kn.pure fh3 rfl rfl .none (Kn.ex_assign fh3 (.tmp rfl)) fun fa4 fh4 => ?_;clear fh3 fa3;refine wpList_nil ?_;refine hK3 _ _ ?_;clear hK3 K3;replace fh4 := fh4.cut (.cons (t := 2) rfl .nil);refine wp_ret ?_;exact Kn.ret1 fh4 rfl rfl ⟨rfl, rfl⟩
theorem shl_one (b : Nat) (hb : b ≤ 24) : wrap64 (2 ^ b) = ((2 ^ b : Nat) : Int) := (show ∀ b, b ≤ 24 → wrap64 (2 ^ b) = ((2 ^ b : Nat) : Int) by decide +kernel) b hb
theorem split_math {n : Nat} (h2 : 2 ≤ n) (hn : n ≤ 1048576) : ∃ m b p : Nat, n - 1 = m ∧ m < 16777216 ∧ blen m = b + 1 ∧ b ≤ 24 ∧ wrap64 (2 ^ b) = (p : Int) ∧ hp n = p ∧ 1 ≤ p ∧ p < n := by
  have h0 : n - 1 ≠ 0 := by omega
  have hlt : n - 1 < 16777216 := by omega
  have hb24 : Nat.log2 (n - 1) ≤ 24 := by
    have e : (16777216 : Nat) = 2 ^ 24 := by decide
    have := (Nat.log2_lt (n := n - 1) h0 (k := 24)).2 (by rw [← e]; exact hlt);omega
  have hpi := hp_in h2;exact ⟨n - 1, Nat.log2 (n - 1), hp n, rfl, hlt, by rw [blen, if_neg h0], hb24, shl_one _ hb24, rfl, hpi.1, hpi.2.1⟩
set_option maxRecDepth 100000 in
set_option maxHeartbeats 400000 in
theorem split_any (f n : Nat) (w : World) (h2 : 2 ≤ n) (hn : n ≤ 1048576) (hf : f ≤ 1048576) :
    Calls Tryz.prog 92 #[.agg #[.int .i64 (f : Int), .int .i64 (n : Int)]] w fun e w' => e = .returned (.tuple #[.agg #[.int .i64 (f : Int), .int .i64 (hp n : Int)], .agg #[.int .i64 ((f + hp n : Nat) : Int), .int .i64 ((n - hp n : Nat) : Int)]]) ∧ Below w.heap.size w w' := by
  refine Kn.calls Tryz.func92 rfl Tryz.ntmps92 rfl (.cons (t := 0) rfl .nil) fun fa0 fh0 => ?_;refine wp_seq_k fun K1 hK1 => ?_;refine wp_region_lit ?_;refine Kn.step fh0 rfl rfl .none (Kn.ex_box fh0 (.tmp rfl)) fun Ko hKo => ?_;go_simp;(try go_bits);refine hKo _ _ fun fa1 fh1 => ?_;clear hKo Ko fh0 fa0;refine Kn.step fh1 rfl rfl .none Kn.ex_alloc fun Ko hKo => ?_;go_simp;(try go_bits);refine hKo _ _ fun fa2 fh2 => ?_;clear hKo Ko fh1 fa1;refine Kn.step fh2 rfl rfl .none Kn.ex_alloc fun Ko hKo => ?_;go_simp;(try go_bits);refine hKo _ _ fun fa3 fh3 => ?_;clear hKo Ko fh2 fa2;refine wpList_nil ?_;refine hK1 _ _ ?_;clear hK1 K1;replace fh3 := fh3.cut (.cons (t := 3) rfl (.cons (t := 2) rfl (.cons (t := 1) rfl .nil)));refine Kn.gen (fun u => (St.St u w.heap.size 157 #[.int .i64 (f : Int), .int .i64 (n : Int)] ∧ St.St u (w.heap.size + 1) 157 #[.int .i64 0, .int .i64 0] ∧ St.St u (w.heap.size + 1 + 1) 157 #[.int .i64 0, .int .i64 0]) ∧ Below w.heap.size w u) ⟨⟨((St.St.new w _ _).alloc _).alloc _, (by have := (St.St.new (w.alloc (.cells #[.int .i64 (f : Int), .int .i64 (n : Int)] 157)) 157 #[.int .i64 0, .int .i64 0]).alloc (.cells #[.int .i64 0, .int .i64 0] 157); simpa using this), (by have := St.St.new ((w.alloc (.cells #[.int .i64 (f : Int), .int .i64 (n : Int)] 157)).alloc (.cells #[.int .i64 0, .int .i64 0] 157)) 157 #[.int .i64 0, .int .i64 0]; simpa using this)⟩, (((Below.refl _ w).alloc (Nat.le_refl _) _).alloc (by simp) _).alloc (by simp [Nat.add_assoc]) _⟩ fun u hu => ?_;obtain ⟨⟨hs1, hs2, hs3⟩, hb⟩ := hu;obtain ⟨g, hg⟩ : ∃ g, w.heap.size = g := ⟨_, rfl⟩;obtain ⟨g1, hg1⟩ : ∃ k, g + 1 = k := ⟨_, rfl⟩;obtain ⟨g2, hg2⟩ : ∃ k, g1 + 1 = k := ⟨_, rfl⟩;rw [hg, hg1, hg2] at hs3 fh3;rw [hg, hg1] at hs2;rw [hg] at hs1;have c10 := hs1.cell 0 rfl;have c11 := hs1.cell 1 rfl;obtain ⟨m, b, p, hm, hm24, hb1, hb24, hsl, hp1, hp0, hpn⟩ := split_math h2 hn;have rm : (n : Int) - 1 = (m : Int) := by omega
  have hlen := fun v => len_any m v hm24;obtain ⟨b1, hb1e⟩ : ∃ k, b + 1 = k := ⟨_, rfl⟩;rw [hb1, hb1e] at hlen;have rb : (b1 : Int) - 1 = (b : Int) := by omega
  have HSL := Lib.hid hsl;have HP := Lib.hid hp1;clear hsl hp1 hb1;obtain ⟨s, hs⟩ : ∃ s, f + p = s := ⟨_, rfl⟩;obtain ⟨r, hr⟩ : ∃ r, n - p = r := ⟨_, rfl⟩;have rs : (f : Int) + (p : Int) = (s : Int) := by omega
  have rr : (n : Int) - (p : Int) = (r : Int) := by omega
  have HS := Lib.hid hs;have HR := Lib.hid hr;have HS1 := Lib.hid hs1;have HS2 := Lib.hid hs2;have HS3 := Lib.hid hs3;have HB := Lib.hid hb;have hg12 : g1 ≠ g2 := by omega
  have hl2 : w.heap.size ≤ g1 ∧ w.heap.size ≤ g2 ∧ g < g1 ∧ g1 < g2 := by omega
  have HH := Lib.hid hl2;clear hs hr hg1 hg2 hs1 hs2 hs3 hb hg hm hl2 hb1e hm24;refine wp_seq_k fun K2 hK2 => ?_;refine wp_region_lit ?_;refine Kn.step fh3 rfl rfl .none (Kn.ex_fieldAddr fh3 (.tmp rfl)) fun Ko hKo => ?_;go_simp;(try go_bits);refine hKo _ _ fun fa4 fh4 => ?_;clear hKo Ko fh3 fa3;refine Kn.step fh4 rfl rfl .none (Kn.ex_load fh4 (.tmp rfl)) fun Ko hKo => ?_;go_simp;(try go_bits);refine hKo _ _ fun fa5 fh5 => ?_;clear hKo Ko fh4 fa4;refine Kn.step fh5 rfl rfl .none (Kn.ex_bin fh5 (.tmp rfl) .const) fun Ko hKo => ?_;go_simp;(try go_bits);try rw [rm]
  refine hKo _ _ fun fa6 fh6 => ?_;clear hKo Ko fh5 fa5;refine Kn.step fh6 rfl rfl .none (Kn.ex_convert fh6 (.tmp rfl)) fun Ko hKo => ?_;go_simp;(try go_bits);refine hKo _ _ fun fa7 fh7 => ?_;clear hKo Ko fh6 fa6;refine Kn.call fh7 rfl rfl .none (Kn.ex_call fh7 (.cons (.tmp rfl) .nil)) Tryz.call80 (hlen _) fun e u1 hp => ?_;obtain ⟨rfl, rfl⟩ := hp;refine ⟨_, rfl, fun fa8 fh8 => ?_⟩;clear fh7 fa7;refine Kn.step fh8 rfl rfl .none (Kn.ex_bin fh8 (.tmp rfl) .const) fun Ko hKo => ?_;go_simp;(try go_bits);try rw [rb]
  refine hKo _ _ fun fa9 fh9 => ?_;clear hKo Ko fh8 fa8;refine Kn.step fh9 rfl rfl .none (Kn.ex_bin fh9 .const (.tmp rfl)) fun Ko hKo => ?_;go_simp;(try go_bits);try rw [HSL.out]
  refine hKo _ _ fun fa10 fh10 => ?_;clear hKo Ko fh9 fa9;refine Kn.pure fh10 rfl rfl .none (Kn.ex_assign fh10 (.tmp rfl)) fun fa11 fh11 => ?_;clear fh10 fa10;refine wpList_nil ?_;refine hK2 _ _ ?_;clear hK2 K2;replace fh11 := fh11.cut (.cons (t := 4) rfl (.cons (t := 3) rfl (.cons (t := 2) rfl (.cons (t := 1) rfl .nil))));clear hlen HSL rm rb;refine wp_seq_k fun K3 hK3 => ?_;refine Kn.anyU (fun u => St.St u g 157 #[.int .i64 (f : Int), .int .i64 (n : Int)] ∧ (∃ x, St.St u g1 157 x ∧ x.size = 2) ∧ (∃ x, St.St u g2 157 x ∧ x.size = 2) ∧ Below w.heap.size w u) (fun u u' => (St.St u g1 157 #[.int .i64 (f : Int), .int .i64 (p : Int)] → St.St u' g1 157 #[.int .i64 (f : Int), .int .i64 (p : Int)]) ∧ (St.St u g2 157 #[.int .i64 (s : Int), .int .i64 (r : Int)] → St.St u' g2 157 #[.int .i64 (s : Int), .int .i64 (r : Int)])) (Kn.TL [Kn.Is (.pointer (some ⟨g, 0, none⟩)), Kn.Is (.int .i64 (f : Int)), Kn.Is (.int .i64 (p : Int)), Kn.Is (.agg #[.int .i64 (f : Int), .int .i64 (p : Int)]), Kn.Is (.pointer (some ⟨g, 0, none⟩)), Kn.Is (.int .i64 (f : Int)), Kn.Is (.int .i64 (p : Int)), Kn.Is (.int .i64 (s : Int)), Kn.Is (.pointer (some ⟨g, 1, none⟩)), Kn.Is (.int .i64 (n : Int)), Kn.Is (.int .i64 (p : Int)), Kn.Is (.int .i64 (r : Int)), Kn.Is (.agg #[.int .i64 (s : Int), .int .i64 (r : Int)]), (fun _ u => St.St u g1 157 #[.int .i64 (f : Int), .int .i64 (p : Int)]), (fun _ u => St.St u g2 157 #[.int .i64 (s : Int), .int .i64 (r : Int)])]) (by kernel_rfl) fh11 (by kernel_rfl) (by kernel_rfl) rfl (Kn.Keeps.all (.cons Kn.Is.keep (.cons Kn.Is.keep (.cons Kn.Is.keep (.cons Kn.Is.keep (.cons Kn.Is.keep (.cons Kn.Is.keep (.cons Kn.Is.keep (.cons Kn.Is.keep (.cons Kn.Is.keep (.cons Kn.Is.keep (.cons Kn.Is.keep (.cons Kn.Is.keep (.cons Kn.Is.keep (.cons (fun _ _ _ hG h => hG.1 h) (.cons (fun _ _ _ hG h => hG.2 h) .nil)))))))))))))))) ⟨HS1.out.drewN 1, ⟨_, HS2.out.drewN 1, rfl⟩, ⟨_, HS3.out.drewN 1, rfl⟩, Own.below_drewN HB.out 1⟩ ⟨?_, ?_, ?_, ?_, ?_, ?_, ?_, ?_, ?_, ?_, ?_, ?_, ?_, ?_, ?_, trivial⟩ ?_
  · refine Kn.ok fun fa12 u2 L fh12 hS hH => ?_;refine Kn.aop fh12 .none (Kn.ex_fieldAddr fh12 (.tmp rfl)) fun Ko hKo => ?_;go_simp;(try go_bits);exact hKo _ _ rfl hS (⟨fun h => h, fun h => h⟩)
  · refine Kn.ok fun fa12 u2 L fh12 hS hH => ?_;replace fh12 := fh12.more (show fa12.eval (.tmp 12) = .pointer (some ⟨g, 0, none⟩) from hH 0 12 rfl rfl);have qk := hS.1.cell 0 rfl;refine Kn.aop fh12 .none (Kn.ex_load fh12 (.tmp rfl)) fun Ko hKo => ?_;go_simp;(try go_bits);exact hKo _ _ rfl hS (⟨fun h => h, fun h => h⟩)
  · refine Kn.ok fun fa12 u2 L fh12 hS hH => ?_;exact Kn.apure fh12 .none (Kn.ex_move fh12 (.tmp rfl)) rfl hS (⟨fun h => h, fun h => h⟩)
  · refine Kn.ok fun fa12 u2 L fh12 hS hH => ?_;replace fh12 := fh12.more (show fa12.eval (.tmp 13) = .int .i64 (f : Int) from hH 1 13 rfl rfl);replace fh12 := fh12.more (show fa12.eval (.tmp 14) = .int .i64 (p : Int) from hH 2 14 rfl rfl);refine Kn.aop fh12 .none (Kn.ex_build fh12 (.cons (.tmp rfl) (.cons (.tmp rfl) .nil))) fun Ko hKo => ?_;go_simp;(try go_bits);exact hKo _ _ rfl hS (⟨fun h => h, fun h => h⟩)
  · refine Kn.ok fun fa12 u2 L fh12 hS hH => ?_;refine Kn.aop fh12 .none (Kn.ex_fieldAddr fh12 (.tmp rfl)) fun Ko hKo => ?_;go_simp;(try go_bits);exact hKo _ _ rfl hS (⟨fun h => h, fun h => h⟩)
  · refine Kn.ok fun fa12 u2 L fh12 hS hH => ?_;replace fh12 := fh12.more (show fa12.eval (.tmp 16) = .pointer (some ⟨g, 0, none⟩) from hH 4 16 rfl rfl);have qk := hS.1.cell 0 rfl;refine Kn.aop fh12 .none (Kn.ex_load fh12 (.tmp rfl)) fun Ko hKo => ?_;go_simp;(try go_bits);exact hKo _ _ rfl hS (⟨fun h => h, fun h => h⟩)
  · refine Kn.ok fun fa12 u2 L fh12 hS hH => ?_;exact Kn.apure fh12 .none (Kn.ex_move fh12 (.tmp rfl)) rfl hS (⟨fun h => h, fun h => h⟩)
  · refine Kn.ok fun fa12 u2 L fh12 hS hH => ?_;replace fh12 := fh12.more (show fa12.eval (.tmp 17) = .int .i64 (f : Int) from hH 5 17 rfl rfl);replace fh12 := fh12.more (show fa12.eval (.tmp 18) = .int .i64 (p : Int) from hH 6 18 rfl rfl);refine Kn.aop fh12 .none (Kn.ex_bin fh12 (.tmp rfl) (.tmp rfl)) fun Ko hKo => ?_;go_simp;(try go_bits);try rw [rs]
    exact hKo _ _ rfl hS (⟨fun h => h, fun h => h⟩)
  · refine Kn.ok fun fa12 u2 L fh12 hS hH => ?_;refine Kn.aop fh12 .none (Kn.ex_fieldAddr fh12 (.tmp rfl)) fun Ko hKo => ?_;go_simp;(try go_bits);exact hKo _ _ rfl hS (⟨fun h => h, fun h => h⟩)
  · refine Kn.ok fun fa12 u2 L fh12 hS hH => ?_;replace fh12 := fh12.more (show fa12.eval (.tmp 20) = .pointer (some ⟨g, 1, none⟩) from hH 8 20 rfl rfl);have qk := hS.1.cell 1 rfl;refine Kn.aop fh12 .none (Kn.ex_load fh12 (.tmp rfl)) fun Ko hKo => ?_;go_simp;(try go_bits);exact hKo _ _ rfl hS (⟨fun h => h, fun h => h⟩)
  · refine Kn.ok fun fa12 u2 L fh12 hS hH => ?_;exact Kn.apure fh12 .none (Kn.ex_move fh12 (.tmp rfl)) rfl hS (⟨fun h => h, fun h => h⟩)
  · refine Kn.ok fun fa12 u2 L fh12 hS hH => ?_;replace fh12 := fh12.more (show fa12.eval (.tmp 21) = .int .i64 (n : Int) from hH 9 21 rfl rfl);replace fh12 := fh12.more (show fa12.eval (.tmp 22) = .int .i64 (p : Int) from hH 10 22 rfl rfl);refine Kn.aop fh12 .none (Kn.ex_bin fh12 (.tmp rfl) (.tmp rfl)) fun Ko hKo => ?_;go_simp;(try go_bits);try rw [rr]
    exact hKo _ _ rfl hS (⟨fun h => h, fun h => h⟩)
  · refine Kn.ok fun fa12 u2 L fh12 hS hH => ?_;replace fh12 := fh12.more (show fa12.eval (.tmp 19) = .int .i64 (s : Int) from hH 7 19 rfl rfl);replace fh12 := fh12.more (show fa12.eval (.tmp 23) = .int .i64 (r : Int) from hH 11 23 rfl rfl);refine Kn.aop fh12 .none (Kn.ex_build fh12 (.cons (.tmp rfl) (.cons (.tmp rfl) .nil))) fun Ko hKo => ?_;go_simp;(try go_bits);exact hKo _ _ rfl hS (⟨fun h => h, fun h => h⟩)
  · refine Kn.ok fun fa12 u2 L fh12 hS hH => ?_;replace fh12 := fh12.more (show fa12.eval (.tmp 15) = .agg #[.int .i64 (f : Int), .int .i64 (p : Int)] from hH 3 15 rfl rfl);obtain ⟨k1, ⟨x, k2, hx⟩, ⟨y, k3, hy⟩, k4⟩ := hS;obtain ⟨hst, hS2, hB2⟩ := k2.store (P := Tryz.prog) (cells := #[.int .i64 (f : Int), .int .i64 (p : Int)]) (by kernel_rfl) hx (by simp [Value.oneCell']);have hg0 := HH.out;have hne : g2 ≠ g1 := by omega
    have hne0 : g ≠ g1 := by omega
    refine Kn.aopU fh12 rfl .none (Kn.ex_store fh12 (.tmp rfl) (.tmp rfl)) fun Ko hKo => ?_;refine Kn.satU_runA hst ?_;exact hKo _ hS2 ⟨k1.setRow hne0 _, ⟨_, hS2, rfl⟩, ⟨y, k3.setRow hne _, hy⟩, k4.trans (hB2 _ (by omega))⟩ ⟨fun _ => hS2, fun h => h.setRow hne _⟩
  · refine Kn.ok fun fa12 u2 L fh12 hS hH => ?_;replace fh12 := fh12.more (show fa12.eval (.tmp 24) = .agg #[.int .i64 (s : Int), .int .i64 (r : Int)] from hH 12 24 rfl rfl);obtain ⟨k1, ⟨x, k2, hx⟩, ⟨y, k3, hy⟩, k4⟩ := hS;obtain ⟨hst, hS2, hB2⟩ := k3.store (P := Tryz.prog) (cells := #[.int .i64 (s : Int), .int .i64 (r : Int)]) (by kernel_rfl) hy (by simp [Value.oneCell']);have hg0 := HH.out;have hne : g1 ≠ g2 := by omega
    have hne0 : g ≠ g2 := by omega
    refine Kn.aopU fh12 rfl .none (Kn.ex_store fh12 (.tmp rfl) (.tmp rfl)) fun Ko hKo => ?_;refine Kn.satU_runA hst ?_;exact hKo _ hS2 ⟨k1.setRow hne0 _, ⟨x, k2.setRow hne _, hx⟩, ⟨_, hS2, rfl⟩, k4.trans (hB2 _ (by omega))⟩ ⟨fun h => h.setRow hne _, fun _ => hS2⟩
  intro fa12 u3 fh12 hS hT hU;clear fh11 fa11;clear hT;refine hK3 _ _ ?_;clear hK3 K3;replace fh12 := fh12.cut (.cons (t := 3) rfl (.cons (t := 2) rfl .nil));obtain ⟨v5, hS5⟩ := hU 13 _ rfl rfl;obtain ⟨v4, hS4⟩ := hU 14 _ rfl rfl;replace hS5 : St.St u3 g1 157 #[.int .i64 (f : Int), .int .i64 (p : Int)] := hS5;replace hS4 : St.St u3 g2 157 #[.int .i64 (s : Int), .int .i64 (r : Int)] := hS4;have hBB := hS.2.2.2;clear hS hU;refine wp_ret ?_;exact Kn.retSS fh12 rfl rfl rfl hS5 Tryz.underlying157 rfl (by kernel_rfl) hS4 Tryz.underlying157 rfl (by kernel_rfl) ⟨by rw [HP.out, HS.out, HR.out], hBB⟩
end Go.Proofs.YtbahklpdldghbaaGreatDoor.Mrk
end
section
namespace Go.Proofs.YtbahklpdldghbaaGreatDoor.Mrk
open Go Go.RowKit Go.Lib RowG
theorem hfL_pow (n : Nat) : ∀ (d k j : Nat), n - k ≤ d → k = 2 ^ j → k < n → ∃ i, hfL k n = 2 ^ i := by
  intro d
  induction d with
  | zero => intro k j h hk h1; omega
  | succ d ih =>
    intro k j h hk h1
    by_cases h2 : 2 * k < n
    · have h0 : 0 < k := by rw [hk]; exact Nat.two_pow_pos j
      rw [hfL_step h0 h2];exact ih (2 * k) (j + 1) (by omega) (by rw [hk, Nat.pow_succ, Nat.mul_comm]) h2
    · rw [hfL_end h2];exact ⟨j, hk⟩
theorem hf_hp {n : Nat} (h : 2 ≤ n) : hf n = hp n := by
  obtain ⟨i, hi⟩ := hfL_pow n (n - 1) 1 0 (Nat.le_refl _) rfl (by omega);have e : hf n = 2 ^ i := hi;have hk := hf_in h;rw [e] at hk ⊢;have : Nat.log2 (n - 1) = i := log2_is (by omega) (by rw [Nat.pow_succ]; omega);rw [hp, this]
theorem hf_half {n d : Nat} (h : 2 ≤ n) (hd : n ≤ 2 ^ d) : 1 ≤ d ∧ hf n ≤ 2 ^ (d - 1) ∧ n - hf n ≤ 2 ^ (d - 1) := by
  cases d with
  | zero => simp at hd; omega
  | succ d =>
    have hk := hf_in h;rw [Nat.add_sub_cancel]
    have h1 : hf n ≤ 2 ^ d := by
      rw [hf_hp h, hp];refine Nat.pow_le_pow_right (by omega) ?_;have := (Nat.log2_lt (n := n - 1) (by omega) (k := d + 1)).2 (by omega);omega
    omega
def besF (f i n : Nat) : List (Nat × Nat) :=
  if h : n < 2 then []
  else
    have hk := hf_in (n := n) (by omega)
    if i < hf n then besF f i (hf n) ++ [(f + hf n, n - hf n)] else besF (f + hf n) (i - hf n) (n - hf n) ++ [(f, hf n)]
termination_by n
theorem besF_l {f i n : Nat} (h : 2 ≤ n) (hi : i < hf n) : besF f i n = besF f i (hf n) ++ [(f + hf n, n - hf n)] := by rw [besF, dif_neg (by omega), if_pos hi]
theorem besF_r {f i n : Nat} (h : 2 ≤ n) (hi : ¬ i < hf n) : besF f i n = besF (f + hf n) (i - hf n) (n - hf n) ++ [(f, hf n)] := by rw [besF, dif_neg (by omega), if_neg hi]
def Rt (bl : List ByteArray) (f n : Nat) : ByteArray := (rootP ((bl.drop f).take n)).1
theorem Rt_size (bl : List ByteArray) (f n : Nat) : (Rt bl f n).size = 32 := rootP_size _
theorem take_part {α : Type} (bl : List α) (f n k : Nat) (h : k ≤ n) : ((bl.drop f).take n).take k = (bl.drop f).take k := by rw [List.take_take, Nat.min_eq_left h]
theorem drop_part {α : Type} (bl : List α) (f n k : Nat) : ((bl.drop f).take n).drop k = (bl.drop (f + k)).take (n - k) := by rw [List.drop_take, List.drop_drop]
theorem part_len {α : Type} (bl : List α) (f n : Nat) (h : f + n ≤ bl.length) : ((bl.drop f).take n).length = n := by rw [List.length_take, List.length_drop]; omega
theorem Rt_1 {bl : List ByteArray} {f : Nat} {s : ByteArray} (h : bl[f]? = some s) : Rt bl f 1 = sm (c0 ++ s) := by
  have hlt := (List.getElem?_eq_some_iff.1 h).1
  have e : (bl.drop f).take 1 = [s] := by
    rw [List.drop_eq_getElem_cons hlt];have := (List.getElem?_eq_some_iff.1 h).2;simp [this]
  rw [Rt, e, rootP_1]
theorem Rt_2 {bl : List ByteArray} {f n : Nat} (h : 2 ≤ n) (hl : f + n ≤ bl.length) : Rt bl f n = sm (c1 ++ Rt bl f (hf n) ++ Rt bl (f + hf n) (n - hf n)) := by
  have hk := hf_in h;have e := part_len bl f n hl;rw [Rt, rootP_2 (by rw [e]; exact h), e, take_part _ _ _ _ (by omega), drop_part]
  rfl
theorem Rt_all (bl : List ByteArray) : Rt bl 0 bl.length = (rootP bl).1 := by rw [Rt, List.drop_zero, List.take_length]
def InT (f n a b : Nat) : Prop :=
  (a = f ∧ b = n) ∨ (if h : n < 2 then False else
    have hk := hf_in (n := n) (by omega)
    InT f (hf n) a b ∨ InT (f + hf n) (n - hf n) a b)
termination_by n
theorem InT_self (f n : Nat) : InT f n f n := by rw [InT]; exact .inl ⟨rfl, rfl⟩
theorem InT_1 {f n a b : Nat} (h : n < 2) (h1 : InT f n a b) : a = f ∧ b = n := by
  rw [InT, dif_pos h] at h1;rcases h1 with h1 | h1
  · exact h1
  · exact h1.elim
theorem InT_2 {f n a b : Nat} (h : 2 ≤ n) : InT f n a b ↔ (a = f ∧ b = n) ∨ InT f (hf n) a b ∨ InT (f + hf n) (n - hf n) a b := by rw [InT, dif_neg (by omega)]
end Go.Proofs.YtbahklpdldghbaaGreatDoor.Mrk
end
section
namespace Go.Proofs.YtbahklpdldghbaaGreatDoor.Kn
open Go
section
variable {P : Program} {a : Act} {w : World} {Q : Exit → Act → World → Prop}
theorem genL {ops : Array Oper} {K : Exit → Act → World → Prop} {rest : List Oper} (S : World → Prop) (hS : S w) (H : ∀ u, S u → wpList P ops K rest a u) : wpList P ops K rest a w := H w hS
end
end Go.Proofs.YtbahklpdldghbaaGreatDoor.Kn
namespace Go.Proofs.YtbahklpdldghbaaGreatDoor.Mrk
open Go Go.RowKit Go.Lib RowG
theorem loadS {P : Program} {w : World} {g : Nat} {T : TypeId} {cs : Array Value} {d : TypeDesc} (h : St.St w g T cs) (hu : P.underlying T = some d) (hd : St.rowD d = true) (hi : (P.info? T).map (·.size) = some cs.size) : (Instr.loadAt T (.pointer (some ⟨g, 0, none⟩))).run P w = .ok (.agg cs) w := h.load hu hd hi
def Off (A : Option Addr) (g : Nat) : Prop := ∀ a : Addr, A = some a → a.block ≠ g
theorem Off.own {A : Option Addr} {g n c : Nat} (h : Off A g) : some g ≠ (Value.slice A n c).ownBlock := fun e => by
  cases A with
  | none => cases e
  | some a =>
    simp only [Value.ownBlock, Option.some.injEq] at e;exact h a rfl e.symm
theorem Off.kept {A : Option Addr} {g g' n c : Nat} {v v' : World} (h : Off A g) (hk : Own.Kept v v' (Value.slice A n c).ownBlock g') (hg : g < v.heap.size) : Off (some ⟨g', 0, none⟩) g := fun a e => by
  injection e with e
  subst e;rcases hk.at' with h1 | h1
  · intro e2;subst e2;exact h.own h1.symm
  · show g' ≠ g;omega
def BesI (_w : World) (I N m f k i : Nat) (acc : List (Nat × Nat)) : Prop := besF 0 I N = besF f i k ++ acc.reverse ∧ k ≤ 2 ^ m ∧ acc.length + m = 20 ∧ I = f + i ∧ i < k ∧ f + k ≤ N
theorem BesI.l {w : World} {I N m f k i p s r : Nat} {acc : List (Nat × Nat)} (h : BesI w I N m f k i acc) (h2 : 2 ≤ k) (hp1 : hp k = p) (hs : f + hp k = s) (hr : k - hp k = r) (hi : I < s) : BesI w I N (m - 1) f p i (acc ++ [(s, r)]) ∧ 1 ≤ m := by
  obtain ⟨h1, h3, h4, h5, h6, h7⟩ := h;have hk := hf_in h2;have hh := hf_half h2 h3;rw [← hf_hp h2] at hp1 hs hr;subst hp1 hs hr;refine ⟨⟨?_, hh.2.1, ?_, h5, by omega, by omega⟩, hh.1⟩
  · rw [h1, besF_l h2 (by omega), List.reverse_append];simp
  · rw [List.length_append, List.length_singleton]; omega
theorem BesI.r {w : World} {I N m f k i p s r : Nat} {acc : List (Nat × Nat)} (h : BesI w I N m f k i acc) (h2 : 2 ≤ k) (hp1 : hp k = p) (hs : f + hp k = s) (hr : k - hp k = r) (hi : ¬ I < s) : BesI w I N (m - 1) s r (i - p) (acc ++ [(f, p)]) ∧ 1 ≤ m := by
  obtain ⟨h1, h3, h4, h5, h6, h7⟩ := h;have hk := hf_in h2;have hh := hf_half h2 h3;rw [← hf_hp h2] at hp1 hs hr;subst hp1 hs hr;refine ⟨⟨?_, hh.2.2, ?_, by omega, by omega, by omega⟩, hh.1⟩
  · rw [h1, besF_r h2 (by omega), List.reverse_append];simp
  · rw [List.length_append, List.length_singleton]; omega
end Go.Proofs.YtbahklpdldghbaaGreatDoor.Mrk
end
section
namespace Go.Proofs.YtbahklpdldghbaaGreatDoor.Mrk
open Go Go.RowKit Go.Lib RowG
theorem txc {w : World} {A : Option Addr} {ts : List ByteArray} (h : RIn txR w A ts) {k : Nat} {s : ByteArray} (hk : ts[k]? = some s) : ∃ b o, A = some ⟨b, o, none⟩ ∧ b < w.heap.size ∧ w.cell? ⟨b, o + k, none⟩ = some (.string s) := by
  obtain ⟨b, o, h1, h2, h3⟩ := h k s hk;have h4 := h3 0 (.string s) rfl;have e : o + (k * txR.size + 0) = o + k := by show o + (k * 1 + 0) = _; omega
  rw [e] at h4;exact ⟨b, o, h1, h2, h4⟩
end Go.Proofs.YtbahklpdldghbaaGreatDoor.Mrk
end
section
namespace Go.Proofs.YtbahklpdldghbaaGreatDoor.Mrk
open Go Go.RowKit Go.Lib RowG
theorem tx_cell {w : World} {b o i : Nat} {l : List ByteArray} {a : ByteArray} (h : RIn txR w (some ⟨b, o, none⟩) l) (hi : l[i]? = some a) : w.cell? ⟨b, o + i, none⟩ = some (.string a) := by
  have := h.cell (j := 0) (u := .string a) hi rfl
  rwa [show i * txR.size + 0 = i from Nat.mul_one i] at this
structure KitAt (w : World) (bk ok bh oh : Nat) : Prop where
  k : Sha.NIn w (some ⟨bk, ok, none⟩) Sha.kk
  h : Sha.NIn w (some ⟨bh, oh, none⟩) Sha.hh
theorem KitAt.on {w w' : World} {bk ok bh oh : Nat} (h : KitAt w bk ok bh oh) (hb : Below w.heap.size w w') : KitAt w' bk ok bh oh := ⟨h.k.below hb, h.h.below hb⟩
theorem KitAt.drew {w : World} {bk ok bh oh : Nat} (h : KitAt w bk ok bh oh) : KitAt w.drew bk ok bh oh := ⟨h.k, h.h⟩
end Go.Proofs.YtbahklpdldghbaaGreatDoor.Mrk
end
section
namespace Go.Proofs.YtbahklpdldghbaaGreatDoor.Mrk
open Go Go.RowKit Go.Lib RowG
theorem sum_new (ts : List ByteArray) (w : World) (hT : Sha.Tabs w) (hn : (ts.length : Int) ≤ 9223372036854775807) (hl : ((Sha.cat (fun k => ts.getD k ByteArray.empty) ts.length).length : Int) ≤ 35184372088832) :
    Calls Tryz.prog 74 #[.slice (some ⟨w.heap.size, 0, none⟩) ts.length ts.length] (w.alloc (.cells (ts.map Value.string).toArray 9)) fun e w' => e = .returned (.string (Sha.digB (Sha.cat (fun k => ts.getD k ByteArray.empty) ts.length))) ∧ Below w.heap.size w w' := by
  have hb0 := (Below.refl w.heap.size w).alloc (Nat.le_refl _) (.cells (ts.map Value.string).toArray 9);refine (Sha.sum_any (some ⟨w.heap.size, 0, none⟩) ts.length ts.length (fun k => ts.getD k ByteArray.empty) _ (hT.below hb0 hT.size) (fun k hk => ⟨_, _, rfl, (St.St.new w _ _).lt, by simp, ?_⟩) hn hl).mono fun e w' h => ⟨h.1, hb0.trans (h.2.mono hb0.size)⟩;rw [Nat.zero_add];exact (St.St.new w 9 (ts.map Value.string).toArray).cell k (by simp [hk])
theorem data_len (a : ByteArray) : a.data.toList.length = a.size := by rw [Array.length_toList]; rfl
theorem cat2 (a b : ByteArray) : Sha.cat (fun k => [a, b].getD k ByteArray.empty) 2 = (a ++ b).data.toList := by
  simp [Sha.cat, ByteArray.data_append]
theorem cat3 (a b c : ByteArray) : Sha.cat (fun k => [a, b, c].getD k ByteArray.empty) 3 = (a ++ b ++ c).data.toList := by
  simp [Sha.cat, ByteArray.data_append]
theorem cat1 (a : ByteArray) : Sha.cat (fun k => [a].getD k ByteArray.empty) 1 = a.data.toList := by
  simp [Sha.cat]
theorem sum1 (a : ByteArray) (w : World) (hT : Sha.Tabs w) (hs : a.size ≤ 100000) :
    Calls Tryz.prog 74 #[.slice (some ⟨w.heap.size, 0, none⟩) 1 1] (w.alloc (.cells #[.string a] 9)) fun e w' => e = .returned (.string (sm a)) ∧ Below w.heap.size w w' := by
  have h := sum_new [a] w hT (by simp) (by rw [show [a].length = 1 from rfl, cat1, data_len]; omega);rw [show [a].length = 1 from rfl, cat1] at h;exact h
theorem sum2 (a b : ByteArray) (w : World) (hT : Sha.Tabs w) (hs : (a ++ b).size ≤ 100000) :
    Calls Tryz.prog 74 #[.slice (some ⟨w.heap.size, 0, none⟩) 2 2] (w.alloc (.cells #[.string a, .string b] 9)) fun e w' => e = .returned (.string (sm (a ++ b))) ∧ Below w.heap.size w w' := by
  have h := sum_new [a, b] w hT (by simp) (by rw [show [a, b].length = 2 from rfl, cat2, data_len]; omega);rw [show [a, b].length = 2 from rfl, cat2] at h;exact h
theorem sum3 (a b c : ByteArray) (w : World) (hT : Sha.Tabs w) (hs : (a ++ b ++ c).size ≤ 100000) :
    Calls Tryz.prog 74 #[.slice (some ⟨w.heap.size, 0, none⟩) 3 3] (w.alloc (.cells #[.string a, .string b, .string c] 9)) fun e w' => e = .returned (.string (sm (a ++ b ++ c))) ∧ Below w.heap.size w w' := by
  have h := sum_new [a, b, c] w hT (by simp) (by rw [show [a, b, c].length = 3 from rfl, cat3, data_len]; omega);rw [show [a, b, c].length = 3 from rfl, cat3] at h;exact h
set_option maxRecDepth 100000 in
set_option maxHeartbeats 600000 in
theorem leaf_any (s : ByteArray) (w : World) (hs : s.size ≤ 90000) (hT : Sha.Tabs w) :
    Calls Tryz.prog 91 #[.string s] w fun e w' => e = .returned (.string (sm (c0 ++ s))) ∧ Below w.heap.size w w' := by
  refine Kn.calls Tryz.func91 rfl Tryz.ntmps91 rfl (.cons (t := 0) rfl .nil) fun fa0 fh0 => ?_;refine wp_seq_k fun K1 hK1 => ?_;refine wp_region_lit ?_;refine Kn.pure fh0 rfl rfl .none (Kn.ex_assign fh0 .const) fun fa1 fh1 => ?_;clear fh0 fa0;refine wpList_nil ?_;refine hK1 _ _ ?_;clear hK1 K1;have hs2 := Lib.hid (sum2 c0 s w hT (by rw [ByteArray.size_append]; show 1 + s.size ≤ 100000; omega));refine wp_seq_k fun K2 hK2 => ?_;refine wp_region_lit ?_;refine Kn.pure fh1 rfl rfl .none (Kn.ex_move fh1 (.tmp rfl)) fun fa2 fh2 => ?_;clear fh1 fa1;refine Kn.step fh2 rfl rfl .none (Kn.ex_buildSlice fh2 (.cons .const (.cons (.tmp rfl) .nil))) fun Ko hKo => ?_;go_simp;(try go_bits);refine hKo _ _ fun fa3 fh3 => ?_;clear hKo Ko fh2 fa2;refine Kn.call fh3 rfl rfl .none (Kn.ex_call fh3 (.cons (.tmp rfl) .nil)) Tryz.call74 (hs2.out) fun e w1 hp => ?_;obtain ⟨rfl, hb⟩ := hp;refine ⟨_, rfl, fun fa4 fh4 => ?_⟩;clear fh3 fa3;refine Kn.pure fh4 rfl rfl .none (Kn.ex_assign fh4 (.tmp rfl)) fun fa5 fh5 => ?_;clear fh4 fa4;refine wpList_nil ?_;refine hK2 _ _ ?_;clear hK2 K2;replace fh5 := fh5.cut (.cons (t := 2) rfl .nil);refine wp_ret ?_;exact Kn.ret1 fh5 rfl rfl ⟨rfl, hb⟩
set_option maxRecDepth 100000 in
set_option maxHeartbeats 600000 in
theorem node_any (a b : ByteArray) (w : World) (ha : a.size ≤ 40000) (hb' : b.size ≤ 40000) (hT : Sha.Tabs w) :
    Calls Tryz.prog 93 #[.string a, .string b] w fun e w' => e = .returned (.string (sm (c1 ++ a ++ b))) ∧ Below w.heap.size w w' := by
  refine Kn.calls Tryz.func93 rfl Tryz.ntmps93 rfl (.cons (t := 0) rfl (.cons (t := 1) rfl .nil)) fun fa0 fh0 => ?_;refine wp_seq_k fun K1 hK1 => ?_;refine wp_region_lit ?_;refine Kn.pure fh0 rfl rfl .none (Kn.ex_assign fh0 .const) fun fa1 fh1 => ?_;clear fh0 fa0;refine wpList_nil ?_;refine hK1 _ _ ?_;clear hK1 K1;have hs3 := Lib.hid (sum3 c1 a b w hT (by rw [ByteArray.size_append, ByteArray.size_append]; show 1 + a.size + b.size ≤ 100000; omega));refine wp_seq_k fun K2 hK2 => ?_;refine wp_region_lit ?_;refine Kn.pure fh1 rfl rfl .none (Kn.ex_move fh1 (.tmp rfl)) fun fa2 fh2 => ?_;clear fh1 fa1;refine Kn.pure fh2 rfl rfl .none (Kn.ex_move fh2 (.tmp rfl)) fun fa3 fh3 => ?_;clear fh2 fa2;refine Kn.step fh3 rfl rfl .none (Kn.ex_buildSlice fh3 (.cons .const (.cons (.tmp rfl) (.cons (.tmp rfl) .nil)))) fun Ko hKo => ?_;go_simp;(try go_bits);refine hKo _ _ fun fa4 fh4 => ?_;clear hKo Ko fh3 fa3;refine Kn.call fh4 rfl rfl .none (Kn.ex_call fh4 (.cons (.tmp rfl) .nil)) Tryz.call74 (hs3.out) fun e w1 hp => ?_;obtain ⟨rfl, hb⟩ := hp;refine ⟨_, rfl, fun fa5 fh5 => ?_⟩;clear fh4 fa4;refine Kn.pure fh5 rfl rfl .none (Kn.ex_assign fh5 (.tmp rfl)) fun fa6 fh6 => ?_;clear fh5 fa5;refine wpList_nil ?_;refine hK2 _ _ ?_;clear hK2 K2;replace fh6 := fh6.cut (.cons (t := 4) rfl .nil);refine wp_ret ?_;exact Kn.ret1 fh6 rfl rfl ⟨rfl, hb⟩
end Go.Proofs.YtbahklpdldghbaaGreatDoor.Mrk
end
section
namespace Go.Proofs.YtbahklpdldghbaaGreatDoor.Kn
open Go
section
variable {n : Nat} {l : List (Nat × Value)} {a : Act} {d : Option Tmp} {t : TypeId} {p : String} {af : Array Edge} {g : Option (Nat × Bool)} {x y z : Operand} {vx vy vz : Value}
theorem ex_makeMapN {e : TypeId} (h : Kn n l a) (hx : Val l x vx) : execOp a.eval ⟨d, .makeMap e (some x), t, p, af, g⟩ = vl (Instr.makeMap e (some vx)) := by simp only [execOp, Option.map, h.val hx]
theorem ex_mapPut {e : TypeId} (h : Kn n l a) (hx : Val l x vx) (hy : Val l y vy) (hz : Val l z vz) : execOp a.eval ⟨d, .mapUpdate e x y z, t, p, af, g⟩ = ul (Instr.mapUpdate e vx vy vz) := by simp only [execOp, h.val hx, h.val hy, h.val hz]
end
end Go.Proofs.YtbahklpdldghbaaGreatDoor.Kn
namespace Go.Proofs.YtbahklpdldghbaaGreatDoor.Mrk
open Go Go.RowKit Go.Lib Go.Maps
theorem laidOutS : laidOutB Tryz.prog = true := by kernel_rfl
theorem rowS : (157 : TypeId) < Tryz.prog.types.size := of_decide_eq_true (by kernel_rfl)
theorem deepS : Tryz.prog.keyTypeAt 2 157 = true := by kernel_rfl
set_option maxRecDepth 100000 in
theorem lawS : WideMaps.KeyLaw Tryz.prog 157 := deep_law_laid laidOutS (m := 2) (by omega) rowS deepS (by rw [Tryz.underlying157])
theorem kSpan : Keyed Tryz.prog 157 := Keyed.of_law lawS
def keyV (a b : Nat) : Value := .agg #[.int .i64 (a : Int), .int .i64 (b : Int)]
def digV (s : ByteArray) : Value := .agg #[.string s]
theorem keyV_inj {a b c d : Nat} (h : keyV a b = keyV c d) : a = c ∧ b = d := by
  unfold keyV at h;simp only [Value.agg.injEq, Array.mk.injEq, List.cons.injEq, Value.int.injEq] at h;omega
theorem keyS {a b : Nat} (ha : a ≤ 1000000) (hb : b ≤ 1000000) : ∃ l, keyOf Tryz.prog 157 (keyV a b) = some l := by
  have h1 : Tryz.prog.keyType 157 = true := by kernel_rfl
  have hc : Tryz.prog.cellsOf 157 = 2 := by kernel_rfl
  have hi : Tryz.prog.cellsOf 3 = 1 := by kernel_rfl
  have h2 : (keyV a b).formed Tryz.prog 157 = true := by simp [keyV, Value.formed, Tryz.underlying157, hc]
  obtain ⟨m, hm⟩ : ∃ m, Tryz.prog.types.size = m + 1 := ⟨Tryz.prog.types.size - 1, by kernel_rfl⟩;have w1 : (Lit.int .i64 (a : Int)).wf = true := WalkArith.wf_i64 (by omega);have w2 : (Lit.int .i64 (b : Int)).wf = true := WalkArith.wf_i64 (by omega)
  have h3 : Tryz.prog.keyLits (Tryz.prog.types.size + 1) 157 [.int .i64 (a : Int), .int .i64 (b : Int)] = some [.int .i64 (a : Int), .int .i64 (b : Int)] := by
    rw [hm];simp [Program.keyLits, Tryz.underlying157, Tryz.underlying3, hc, hi, w1, w2]
  refine ⟨.string (keyBytes [.int .i64 (a : Int), .int .i64 (b : Int)]), ?_⟩;unfold keyOf;rw [Tryz.underlying157];simp only [h1, h2, Bool.and_self, if_true];rw [show (keyV a b).cells.toList = [.int .i64 (a : Int), .int .i64 (b : Int)] by simp [keyV, Value.cells], h3]
  rfl
def MapAt (w : World) (g : Nat) (R : Nat → Nat → ByteArray) (p : Nat → Nat → Prop) : Prop := ∃ es clock, w.heap[g]? = some (.map es clock) ∧ (∀ e ∈ es.toList, ∃ a b : Nat, e.key = keyV a b ∧ a ≤ 1000000 ∧ b ≤ 1000000 ∧ e.val = digV (R a b)) ∧ ∀ a b, p a b → ∃ e ∈ es.toList, e.key = keyV a b
variable {w w' : World} {g : Nat} {R : Nat → Nat → ByteArray} {p q : Nat → Nat → Prop}
theorem MapAt.lt (h : MapAt w g R p) : g < w.heap.size := by
  obtain ⟨es, c, h1, _⟩ := h;exact (Array.getElem?_eq_some_iff.1 h1).1
theorem MapAt.at (h : MapAt w g R p) (e : w'.heap[g]? = w.heap[g]?) : MapAt w' g R p := by
  obtain ⟨es, c, h1, h2⟩ := h;exact ⟨es, c, e.trans h1, h2⟩
theorem MapAt.on (h : MapAt w g R p) (hb : Below w.heap.size w w') : MapAt w' g R p := h.at (hb.block g h.lt)
theorem MapAt.mono (h : MapAt w g R p) (hq : ∀ a b, q a b → p a b) : MapAt w g R q := by
  obtain ⟨es, c, h1, h2, h3⟩ := h;exact ⟨es, c, h1, h2, fun a b hab => h3 a b (hq a b hab)⟩
theorem MapAt.new (w : World) : MapAt (w.alloc (.map #[] 0)) w.heap.size R (fun _ _ => False) := ⟨#[], 0, heap_alloc_new w _, fun e he => by simp at he, fun a b h => h.elim⟩
theorem MapAt.has (h : MapAt w g R p) {a b : Nat} (hp : p a b) (ha : a ≤ 1000000) (hb : b ≤ 1000000) : (Instr.lookup 152 (.map (some g)) (keyV a b) false).run Tryz.prog w = .ok (digV (R a b)) w := by
  obtain ⟨es, c, hg, h1, h2⟩ := h;obtain ⟨l, hl⟩ := keyS ha hb;rcases kSpan.find w hl es.toList (fun e he => by obtain ⟨x, y, e1, e2, e3, _⟩ := h1 e he; rw [e1]; exact keyS e2 e3) with ⟨hf, hn⟩ | ⟨j, e0, hf, hj, hk⟩
  · obtain ⟨e, he, hk⟩ := h2 a b hp;exact absurd hk (hn e he)
  · obtain ⟨x, y, e1, _, _, e4⟩ := h1 e0 (List.mem_of_getElem? hj);obtain ⟨rfl, rfl⟩ := keyV_inj (e1.symm.trans hk);simp [Instr.lookup, run_underlying Tryz.underlying152, MapKept.run_getObj_map hg, kSpan.check w _ hl, hf, e4, Result.andThen]
theorem MapAt.put (h : MapAt w g R p) {a b : Nat} (ha : a ≤ 1000000) (hb : b ≤ 1000000) :
    ∃ w', (Instr.mapUpdate 152 (.map (some g)) (keyV a b) (digV (R a b))).run Tryz.prog w = .ok () w' ∧ MapAt w' g R (fun x y => (x = a ∧ y = b) ∨ p x y) ∧ (∀ k, k ≠ g → w'.heap[k]? = w.heap[k]?) ∧ w'.heap.size = w.heap.size ∧ ∀ B, B ≤ g → Below B w w' := by
  have hlt := h.lt;obtain ⟨es, c, hg, h1, h2⟩ := h;obtain ⟨l, hl⟩ := keyS ha hb
  have key : ∀ es' c', (Instr.mapUpdate 152 (.map (some g)) (keyV a b) (digV (R a b))).run Tryz.prog w = .ok () { w with heap := w.heap.setIfInBounds g (.map es' c') } →
      (∀ e ∈ es'.toList, ∃ a b : Nat, e.key = keyV a b ∧ a ≤ 1000000 ∧ b ≤ 1000000 ∧ e.val = digV (R a b)) → (∀ x y, ((x = a ∧ y = b) ∨ p x y) → ∃ e ∈ es'.toList, e.key = keyV x y) →
      ∃ w', (Instr.mapUpdate 152 (.map (some g)) (keyV a b) (digV (R a b))).run Tryz.prog w = .ok () w' ∧ MapAt w' g R (fun x y => (x = a ∧ y = b) ∨ p x y) ∧ (∀ k, k ≠ g → w'.heap[k]? = w.heap[k]?) ∧ w'.heap.size = w.heap.size ∧ ∀ B, B ≤ g → Below B w w' := fun es' c' hr k1 k2 => by
    refine ⟨_, hr, ⟨es', c', by simp [hlt], k1, k2⟩, fun b hne => by simp [Array.getElem?_setIfInBounds_ne (Ne.symm hne)], by simp, fun B hB => ⟨rfl, rfl, rfl, by simp, fun b hbB => ?_⟩⟩;simp only;rw [Array.getElem?_setIfInBounds_ne (by omega)]
  rcases kSpan.find w hl es.toList (fun e he => by obtain ⟨x, y, e1, e2, e3, _⟩ := h1 e he; rw [e1]; exact keyS e2 e3) with ⟨hf, hn⟩ | ⟨j, e0, hf, hj, hk⟩
  · refine key (es.push ⟨keyV a b, digV (R a b), c⟩) (c + 1) ?_ (fun e he => ?_) (fun x y hxy => ?_)
    · simp [Instr.mapUpdate, run_underlying Tryz.underlying152, MapKept.run_getObj_map hg, kSpan.check w false hl, hf, MapKept.run_setObj_map _ hg, Result.andThen]
    · simp only [Array.toList_push, List.mem_append, List.mem_singleton] at he;rcases he with he | rfl
      · exact h1 e he
      · exact ⟨a, b, rfl, ha, hb, rfl⟩
    · rcases hxy with ⟨rfl, rfl⟩ | hxy
      · exact ⟨⟨keyV x y, digV (R x y), c⟩, by simp, rfl⟩
      · obtain ⟨e, he, hk⟩ := h2 x y hxy;exact ⟨e, by simp [List.mem_append]; exact .inl (by simpa using he), hk⟩
  · obtain ⟨x0, y0, e1, e2, e3, e4⟩ := h1 e0 (List.mem_of_getElem? hj);obtain ⟨rfl, rfl⟩ := keyV_inj (e1.symm.trans hk);have hj2 : es[j]? = some e0 := by simpa using hj
    have hmod : es.modify j (fun e' => { e' with key := keyV x0 y0, val := digV (R x0 y0) }) = es := by
      apply Array.ext'
      rw [Array.toList_modify]
      apply List.ext_getElem?
      intro i;rw [List.getElem?_modify]
      by_cases hij : j = i
      · subst hij;simp only [if_true];rw [hj];obtain ⟨k0, v0, n0⟩ := e0;simp only at e1 e4;subst e1 e4
        rfl
      · simp [hij]
    refine key es c ?_ h1 (fun x y hxy => ?_)
    · have hst := kSpan.stays w hl;simp [Instr.mapUpdate, run_underlying Tryz.underlying152, MapKept.run_getObj_map hg, kSpan.check w false hl, hf, hj2, hk, hst, MapKept.run_setObj_map _ hg, Result.andThen, hmod]
    · rcases hxy with ⟨rfl, rfl⟩ | hxy
      · exact ⟨e0, List.mem_of_getElem? hj, e1⟩
      · exact h2 x y hxy
end Go.Proofs.YtbahklpdldghbaaGreatDoor.Mrk
end
section
namespace Go.Proofs.YtbahklpdldghbaaGreatDoor.Mrk
open Go Go.RowKit Go.Lib RowG
theorem MapAt.or {w : World} {g : Nat} {R : Nat → Nat → ByteArray} {p q : Nat → Nat → Prop} (h : MapAt w g R p) (k : MapAt w g R q) : MapAt w g R (fun a b => p a b ∨ q a b) := by
  obtain ⟨es, c, h1, h2, h3⟩ := h;obtain ⟨es', c', k1, k2, k3⟩ := k;have e := h1.symm.trans k1;simp only [Option.some.injEq, Obj.map.injEq] at e;obtain ⟨rfl, -⟩ := e;exact ⟨es, c, h1, h2, fun a b hab => hab.elim (h3 a b) (k3 a b)⟩
theorem MapAt.same {w w' : World} {g : Nat} {R : Nat → Nat → ByteArray} {q : Nat → Nat → Prop} {a b : Nat} (h : MapAt w g R q) (ha : a ≤ 1000000) (hb : b ≤ 1000000) (hr : (Instr.mapUpdate 152 (.map (some g)) (keyV a b) (digV (R a b))).run Tryz.prog w = .ok () w') : MapAt w' g R q := by
  obtain ⟨w2, hr2, hm, _⟩ := h.put ha hb;rw [hr] at hr2;injection hr2 with _ e
  subst e;exact hm.mono fun x y h => .inr h
structure LayIn (bl : List ByteArray) (A : Option Addr) (gt gm N : Nat) (u : World) : Prop where
  tabs : Sha.Tabs u
  tree : St.St u gt 154 #[.map (some gm), .int .i64 (N : Int)]
  row : RIn txR u A bl
  off : Off A gm
  ne : gt ≠ gm
  hg : 4 ≤ gm
  lt : gm < u.heap.size
theorem LayIn.only {bl : List ByteArray} {A : Option Addr} {gt gm N : Nat} {u u' : World} (h : LayIn bl A gt gm N u) (ho : Sha.Only gm u u') : LayIn bl A gt gm N u' :=
  ⟨h.tabs.only ho h.hg, (ho.block gt h.tree.lt h.ne).trans h.tree, fun i a hi => by
    obtain ⟨b, o, e, hlt, h1⟩ := h.row i a hi
    exact ⟨b, o, e, Nat.lt_of_lt_of_le hlt ho.size, fun j u hu => (ho.cell (p := ⟨b, o + (i * txR.size + j), none⟩) hlt (h.off ⟨b, o, none⟩ e)).trans (h1 j u hu)⟩, h.off, h.ne, h.hg, Nat.lt_of_lt_of_le h.lt ho.size⟩
theorem LayIn.on {bl : List ByteArray} {A : Option Addr} {gt gm N : Nat} {u u' : World} (h : LayIn bl A gt gm N u) (hb : Below u.heap.size u u') : LayIn bl A gt gm N u' := h.only (Sha.Only.of_below hb)
theorem LayIn.drew {bl : List ByteArray} {A : Option Addr} {gt gm N : Nat} {u : World} (h : LayIn bl A gt gm N u) : LayIn bl A gt gm N u.drew := h.only ⟨rfl, rfl, rfl, Nat.le_refl _, fun _ _ _ => rfl⟩
theorem St.only {w w' : World} {g b : Nat} {t : TypeId} {cs : Array Value} (h : St.St w g t cs) (ho : Sha.Only b w w') (hne : g ≠ b) : St.St w' g t cs := (ho.block g h.lt hne).trans h
def Subs (f n a b : Nat) : Prop := 2 ≤ n ∧ (InT f (hf n) a b ∨ InT (f + hf n) (n - hf n) a b)
theorem InT_subs {f n a b : Nat} (h : InT f n a b) : (a = f ∧ b = n) ∨ Subs f n a b := by
  rcases Nat.lt_or_ge n 2 with h2 | h2
  · exact .inl (InT_1 h2 h)
  · rcases (InT_2 h2).1 h with h | h
    · exact .inl h
    · exact .inr ⟨h2, h⟩
set_option maxRecDepth 100000 in
set_option maxHeartbeats 600000 in
theorem all_any (gt gm N : Nat) (w : World) (hS : St.St w gt 154 #[.map (some gm), .int .i64 (N : Int)]) :
    Calls Tryz.prog 73 #[.pointer (some ⟨gt, 0, none⟩)] w fun e w' => e = .returned (keyV 0 N) ∧ Below w.heap.size w w' := by
  refine Kn.calls Tryz.func73 rfl Tryz.ntmps73 rfl (.cons (t := 0) rfl .nil) fun fa0 fh0 => ?_;refine wp_seq_k fun K1 hK1 => ?_;refine wp_region_lit ?_;refine Kn.step fh0 rfl rfl .none Kn.ex_alloc fun Ko hKo => ?_;go_simp;(try go_bits);refine hKo _ _ fun fa1 fh1 => ?_;clear hKo Ko fh0 fa0;refine wpList_nil ?_;refine hK1 _ _ ?_;clear hK1 K1;refine Kn.gen (fun u => St.St u w.heap.size 157 #[.int .i64 0, .int .i64 0] ∧ Below w.heap.size w u) ⟨St.St.new _ _ _, (Below.refl _ w).alloc (Nat.le_refl _) _⟩ fun u hu => ?_;obtain ⟨g, hg⟩ : ∃ g, w.heap.size = g := ⟨_, rfl⟩;obtain ⟨hS0, hb0⟩ := hu;have hSt := hS.on hb0;have c1 := hSt.cell 1 rfl;have HB := Lib.hid (And.intro hb0 (Nat.le_of_eq hg));rw [hg] at hS0 fh1;obtain ⟨hst, hSn, hBn⟩ := hS0.store (P := Tryz.prog) (cells := #[.int .i64 ((0 : Nat) : Int), .int .i64 ((N : Nat) : Int)]) (by kernel_rfl) rfl (by simp [Value.oneCell']);clear hb0 hg hSt hS hS0;refine wp_seq_k fun K2 hK2 => ?_;refine wp_region_lit ?_;refine Kn.pure fh1 rfl rfl .none (Kn.ex_move fh1 (.tmp rfl)) fun fa2 fh2 => ?_;clear fh1 fa1;refine Kn.pure fh2 rfl rfl .none (Kn.ex_nilCheck fh2 (.tmp rfl)) fun fa3 fh3 => ?_;clear fh2 fa2;refine Kn.step fh3 rfl rfl .none (Kn.ex_fieldAddr fh3 (.tmp rfl)) fun Ko hKo => ?_;go_simp;(try go_bits);refine hKo _ _ fun fa4 fh4 => ?_;clear hKo Ko fh3 fa3;refine Kn.step fh4 rfl rfl .none (Kn.ex_load fh4 (.tmp rfl)) fun Ko hKo => ?_;go_simp;(try go_bits);refine hKo _ _ fun fa5 fh5 => ?_;clear hKo Ko fh4 fa4;refine Kn.step fh5 rfl rfl .none (Kn.ex_build fh5 (.cons .const (.cons (.tmp rfl) .nil))) fun Ko hKo => ?_;go_simp;(try go_bits);refine hKo _ _ fun fa6 fh6 => ?_;clear hKo Ko fh5 fa5;refine Kn.stepU fh6 rfl .none (Kn.ex_store fh6 (.tmp rfl) (.tmp rfl)) fun Ko hKo => ?_;refine Kn.satU_runA hst ?_;refine hKo _ ?_;clear hKo Ko;refine wpList_nil ?_;refine hK2 _ _ ?_;clear hK2 K2;replace fh6 := fh6.cut (.cons (t := 2) rfl .nil);refine wp_ret ?_;exact Kn.retS fh6 rfl rfl hSn Tryz.underlying157 rfl (by kernel_rfl) ⟨rfl, HB.out.1.trans (hBn _ HB.out.2)⟩
set_option maxRecDepth 100000 in
set_option maxHeartbeats 600000 in
theorem part_any (gt gm N a b : Nat) (R : Nat → Nat → ByteArray) (p : Nat → Nat → Prop) (w : World) (hS : St.St w gt 154 #[.map (some gm), .int .i64 (N : Int)]) (hM : MapAt w gm R p) (hp : p a b) (ha : a ≤ 1000000) (hb : b ≤ 1000000) (hR : (R a b).size ≤ 32) :
    Calls Tryz.prog 75 #[.pointer (some ⟨gt, 0, none⟩), .agg #[.int .i64 ((a : Nat) : Int), .int .i64 ((b : Nat) : Int)]] w fun e w' => e = .returned (.string (R a b)) ∧ Below w.heap.size w w' := by
  refine Kn.calls Tryz.func75 rfl Tryz.ntmps75 rfl (.cons (t := 0) rfl (.cons (t := 1) rfl .nil)) fun fa0 fh0 => ?_;refine wp_seq_k fun K1 hK1 => ?_;refine wp_region_lit ?_;refine Kn.step fh0 rfl rfl .none (Kn.ex_box fh0 (.tmp rfl)) fun Ko hKo => ?_;go_simp;(try go_bits);refine hKo _ _ fun fa1 fh1 => ?_;clear hKo Ko fh0 fa0;refine Kn.pure fh1 rfl rfl .none (Kn.ex_assign fh1 .const) fun fa2 fh2 => ?_;clear fh1 fa1;refine wpList_nil ?_;refine hK1 _ _ ?_;clear hK1 K1;replace fh2 := fh2.cut (.cons (t := 4) rfl (.cons (t := 3) rfl (.cons (t := 0) rfl .nil)));refine Kn.gen (fun u => St.St u w.heap.size 157 #[.int .i64 ((a : Nat) : Int), .int .i64 ((b : Nat) : Int)] ∧ Below w.heap.size w u) ⟨St.St.new _ _ _, (Below.refl _ w).alloc (Nat.le_refl _) _⟩ fun u hu => ?_;obtain ⟨g, hg⟩ : ∃ g, w.heap.size = g := ⟨_, rfl⟩;obtain ⟨hS0, hb0⟩ := hu;have c0 := (hS.on hb0).drew.cell 0 rfl;have hhas : (Instr.lookup 152 (.map (some gm)) (.agg #[.int .i64 ((a : Nat) : Int), .int .i64 ((b : Nat) : Int)]) false).run Tryz.prog u.drew = .ok (.agg #[.string (R a b)]) u.drew := ((hM.on hb0).at (w' := u.drew) rfl).has hp ha hb;have hcl := Lib.hid (fun v => Blk.clone_any (R a b) v (by omega));have HB := Lib.hid hb0;rw [hg] at hS0 fh2;have hld := loadS hS0.drew Tryz.underlying157 rfl (by kernel_rfl);clear hb0 hg hS0;refine wp_seq_k fun K2 hK2 => ?_;refine Kn.tail 7 (by kernel_rfl) (by kernel_rfl) rfl rfl ?_;refine Kn.spure fh2 rfl rfl .none (Kn.ex_move fh2 (.tmp rfl)) fun fa3 fh3 => ?_;clear fh2 fa2;refine Kn.spure fh3 rfl rfl .none (Kn.ex_nilCheck fh3 (.tmp rfl)) fun fa4 fh4 => ?_;clear fh3 fa3;refine Kn.sstep fh4 rfl rfl .none (Kn.ex_fieldAddr fh4 (.tmp rfl)) fun Ko hKo => ?_;go_simp;(try go_bits);refine hKo _ fun fa5 fh5 => ?_;clear hKo Ko fh4 fa4;refine Kn.sstep fh5 rfl rfl .none (Kn.ex_load fh5 (.tmp rfl)) fun Ko hKo => ?_;go_simp;(try go_bits);refine hKo _ fun fa6 fh6 => ?_;clear hKo Ko fh5 fa5;refine Kn.sstep fh6 rfl rfl .none (Kn.ex_load fh6 (.tmp rfl)) fun Ko hKo => ?_;rw [hld];refine hKo _ fun fa7 fh7 => ?_;clear hKo Ko fh6 fa6;refine Kn.sstep fh7 rfl rfl .none (Kn.ex_lookup fh7 (.tmp rfl) (.tmp rfl)) fun Ko hKo => ?_;rw [hhas];refine hKo _ fun fa8 fh8 => ?_;clear hKo Ko fh7 fa7;refine Kn.sstep fh8 rfl rfl .none (Kn.ex_field fh8 (.tmp rfl)) fun Ko hKo => ?_;go_simp;(try go_bits);refine hKo _ fun fa9 fh9 => ?_;clear hKo Ko fh8 fa8;refine wpStill_nil ?_;refine Kn.call fh9 rfl rfl .none (Kn.ex_call fh9 (.cons (.tmp rfl) .nil)) Tryz.call49 (hcl.out _) fun e w1 hp => ?_;obtain ⟨rfl, hb1⟩ := hp;refine ⟨_, rfl, fun fa10 fh10 => ?_⟩;clear fh9 fa9;refine Kn.pure fh10 rfl rfl .none (Kn.ex_assign fh10 (.tmp rfl)) fun fa11 fh11 => ?_;clear fh10 fa10;refine wpList_nil ?_;refine hK2 _ _ ?_;clear hK2 K2;replace fh11 := fh11.cut (.cons (t := 4) rfl .nil);refine wp_ret ?_;exact Kn.ret1 fh11 rfl rfl ⟨rfl, HB.out.trans (Below.mono (Own.undrew hb1) HB.out.size)⟩
set_option maxRecDepth 100000 in
set_option maxHeartbeats 600000 in
theorem lay_any (bl : List ByteArray) (A : Option Addr) (c gt gm N : Nat) (hN : bl.length ≤ 1000000) (hsz : ∀ b ∈ bl, b.size ≤ 300) (_hbc : bl.length ≤ c) (_hcm : c ≤ maxLen) : ∀ (n f : Nat) (p : Nat → Nat → Prop) (w : World), 1 ≤ n → f + n ≤ bl.length → LayIn bl A gt gm N w → MapAt w gm (Rt bl) p →
    Calls Tryz.prog 72 #[.pointer (some ⟨gt, 0, none⟩), .agg #[.int .i64 ((f : Nat) : Int), .int .i64 ((n : Nat) : Int)], .slice A bl.length c] w fun e w' => e = .returned (.string (Rt bl f n)) ∧ MapAt w' gm (Rt bl) (InT f n) ∧ (∀ q, MapAt w gm (Rt bl) q → MapAt w' gm (Rt bl) q) ∧ Sha.Only gm w w' := by
  intro n
  induction n using Nat.strongRecOn with
  | _ n ih0 =>
  intro f p w hn0 hfn hL hM;have ih : ∀ m, m < n → ∀ (f : Nat) (p : Nat → Nat → Prop) (w : World), 1 ≤ m → f + m ≤ bl.length → LayIn bl A gt gm N w → MapAt w gm (Rt bl) p → Calls Tryz.prog 72 #[.pointer (some ⟨gt, 0, none⟩), .agg #[.int .i64 ((f : Nat) : Int), .int .i64 ((m : Nat) : Int)], .slice A bl.length c] w fun e w' => e = .returned (.string (Rt bl f m)) ∧ MapAt w' gm (Rt bl) (InT f m) ∧ (∀ q, MapAt w gm (Rt bl) q → MapAt w' gm (Rt bl) q) ∧ Sha.Only gm w w' := ih0;clear ih0;refine Kn.calls Tryz.func72 rfl Tryz.ntmps72 rfl (.cons (t := 0) rfl (.cons (t := 1) rfl (.cons (t := 2) rfl .nil))) fun fa0 fh0 => ?_;refine wp_seq_k fun K1 hK1 => ?_;refine wp_region_lit ?_;refine Kn.step fh0 rfl rfl .none (Kn.ex_box fh0 (.tmp rfl)) fun Ko hKo => ?_;go_simp;(try go_bits);refine hKo _ _ fun fa1 fh1 => ?_;clear hKo Ko fh0 fa0;refine Kn.pure fh1 rfl rfl .none (Kn.ex_assign fh1 .const) fun fa2 fh2 => ?_;clear fh1 fa1;refine wpList_nil ?_;refine hK1 _ _ ?_;clear hK1 K1;replace fh2 := fh2.cut (.cons (t := 6) rfl (.cons (t := 4) rfl (.cons (t := 0) rfl (.cons (t := 2) rfl .nil))));refine Kn.gen (fun u => St.St u w.heap.size 157 #[.int .i64 ((f : Nat) : Int), .int .i64 ((n : Nat) : Int)] ∧ Below w.heap.size w u) ⟨St.St.new _ _ _, (Below.refl _ w).alloc (Nat.le_refl _) _⟩ fun u hu => ?_;obtain ⟨g4, hg⟩ : ∃ g, w.heap.size = g := ⟨_, rfl⟩;obtain ⟨hS4, hb0⟩ := hu;have hLu := hL.on hb0;have hgm4 : g4 ≠ gm := by have := hL.lt; omega
  rw [hg] at hS4 fh2;have HM0 : Hid (MapAt u gm (Rt bl) p) := Lib.hid (hM.on hb0);have HB : Hid (Sha.Only gm w u ∧ ∀ q, MapAt w gm (Rt bl) q → MapAt u gm (Rt bl) q) := Lib.hid ⟨Sha.Only.of_below hb0, fun q h => h.on hb0⟩;clear hg hb0 hM hL;refine wp_seq_k fun K2 hK2 => ?_;refine wp_region_lit ?_;refine Kn.pure fh2 rfl rfl .none (Kn.ex_assign fh2 .const) fun fa3 fh3 => ?_;clear fh2 fa2;refine wpList_nil ?_;refine hK2 _ _ ?_;clear hK2 K2;refine wp_seq_k fun K3 hK3 => ?_;refine Kn.join (fun fr v => Kn.Kn 41 [(0, .pointer (some ⟨gt, 0, none⟩)), (4, .pointer (some ⟨g4, 0, none⟩)), (7, .string (Rt bl f n))] fr ∧ Hid ((fun v => LayIn bl A gt gm N v ∧ St.St v g4 157 #[.int .i64 ((f : Nat) : Int), .int .i64 ((n : Nat) : Int)] ∧ MapAt v gm (Rt bl) (Subs f n) ∧ (∀ q, MapAt u gm (Rt bl) q → MapAt v gm (Rt bl) q) ∧ Sha.Only gm u v) v)) ?_ ?_
  · have c1 := hS4.cell 1 rfl
    by_cases hn1 : n = 1
    · subst hn1;have hflt : f < bl.length := by omega
      obtain ⟨s, hs⟩ : ∃ s, bl[f]? = some s := ⟨bl[f]'(by omega), List.getElem?_eq_getElem (by omega)⟩;have hss := hsz s (List.mem_of_getElem? hs);have hlf : Calls Tryz.prog 91 #[.string s] u fun e v => e = .returned (.string (Rt bl f 1)) ∧ Below u.heap.size u v := by rw [Rt_1 hs]; exact leaf_any s u (by omega) hLu.tabs
      obtain ⟨ba, oa, rfl, -, cx⟩ := txc hLu.row hs;have c0 := hS4.cell 0 rfl;have HLF := Lib.hid hlf;have HL := Lib.hid hLu;have HS := Lib.hid hS4;clear hlf hs hLu hS4;refine wp_seq_k fun K4 hK4 => ?_;refine wp_region_lit ?_;refine Kn.step fh3 rfl rfl .none (Kn.ex_fieldAddr fh3 (.tmp rfl)) fun Ko hKo => ?_;go_simp;(try go_bits);refine hKo _ _ fun fa4 fh4 => ?_;clear hKo Ko fh3 fa3;refine Kn.step fh4 rfl rfl .none (Kn.ex_load fh4 (.tmp rfl)) fun Ko hKo => ?_;go_simp;(try go_bits);refine hKo _ _ fun fa5 fh5 => ?_;clear hKo Ko fh4 fa4;refine Kn.step fh5 rfl rfl .none (Kn.ex_bin fh5 (.tmp rfl) .const) fun Ko hKo => ?_;go_simp;(try go_bits);refine hKo _ _ fun fa6 fh6 => ?_;clear hKo Ko fh5 fa5;refine wpList_nil ?_;refine hK4 _ _ ?_;clear hK4 K4;replace fh6 := fh6.cut (.cons (t := 12) rfl (.cons (t := 7) rfl (.cons (t := 4) rfl (.cons (t := 0) rfl (.cons (t := 2) rfl .nil)))));refine Kn.yes fh6 (.tmp rfl) ?_;replace fh6 := fh6.cut (.cons (t := 7) rfl (.cons (t := 4) rfl (.cons (t := 0) rfl (.cons (t := 2) rfl .nil))));refine wp_region_lit ?_;refine Kn.pure fh6 rfl rfl .none (Kn.ex_move fh6 (.tmp rfl)) fun fa7 fh7 => ?_;clear fh6 fa6;refine Kn.step fh7 rfl rfl .none (Kn.ex_fieldAddr fh7 (.tmp rfl)) fun Ko hKo => ?_;go_simp;(try go_bits);refine hKo _ _ fun fa8 fh8 => ?_;clear hKo Ko fh7 fa7;refine Kn.step fh8 rfl rfl .none (Kn.ex_load fh8 (.tmp rfl)) fun Ko hKo => ?_;go_simp;(try go_bits);refine hKo _ _ fun fa9 fh9 => ?_;clear hKo Ko fh8 fa8;refine Kn.step fh9 rfl rfl .none (Kn.ex_indexAddr fh9 (.tmp rfl) (.tmp rfl)) fun Ko hKo => ?_;go_simp;(try go_bits);refine hKo _ _ fun fa10 fh10 => ?_;clear hKo Ko fh9 fa9;refine Kn.step fh10 rfl rfl .none (Kn.ex_load fh10 (.tmp rfl)) fun Ko hKo => ?_;go_simp;(try go_bits);refine hKo _ _ fun fa11 fh11 => ?_;clear hKo Ko fh10 fa10;refine Kn.call fh11 rfl rfl .none (Kn.ex_call fh11 (.cons (.tmp rfl) .nil)) Tryz.call91 (HLF.out) fun e v hp => ?_;obtain ⟨rfl, hb⟩ := hp;refine ⟨_, rfl, fun fa12 fh12 => ?_⟩;clear fh11 fa11;refine Kn.pure fh12 rfl rfl .none (Kn.ex_assign fh12 (.tmp rfl)) fun fa13 fh13 => ?_;clear fh12 fa12;refine wpList_nil ?_;replace fh13 := fh13.cut (.cons (t := 7) rfl (.cons (t := 4) rfl (.cons (t := 0) rfl .nil)));exact ⟨fh13.cut (.cons (t := 0) rfl (.cons (t := 4) rfl (.cons (t := 7) rfl .nil))), Lib.hid ⟨HL.out.on hb, HS.out.on hb, ((HM0.out.on hb).mono fun a b h => absurd h.1 (by omega)), fun q h => h.on hb, Sha.Only.of_below hb⟩⟩
    have h2 : 2 ≤ n := by omega
    have e1 : ((n : Int) == 1) = false := by rw [beq_eq_false_iff_ne]; omega
    refine wp_seq_k fun K4 hK4 => ?_;refine wp_region_lit ?_;refine Kn.step fh3 rfl rfl .none (Kn.ex_fieldAddr fh3 (.tmp rfl)) fun Ko hKo => ?_;go_simp;(try go_bits);refine hKo _ _ fun fa4 fh4 => ?_;clear hKo Ko fh3 fa3;refine Kn.step fh4 rfl rfl .none (Kn.ex_load fh4 (.tmp rfl)) fun Ko hKo => ?_;go_simp;(try go_bits);refine hKo _ _ fun fa5 fh5 => ?_;clear hKo Ko fh4 fa4;refine Kn.step fh5 rfl rfl .none (Kn.ex_bin fh5 (.tmp rfl) .const) fun Ko hKo => ?_;go_simp;(try go_bits);refine hKo _ _ fun fa6 fh6 => ?_;clear hKo Ko fh5 fa5;refine wpList_nil ?_;refine hK4 _ _ ?_;clear hK4 K4;replace fh6 := fh6.cut (.cons (t := 12) rfl (.cons (t := 7) rfl (.cons (t := 4) rfl (.cons (t := 0) rfl (.cons (t := 2) rfl .nil)))));clear e1 c1;refine Kn.no fh6 (.tmp rfl) ?_;replace fh6 := fh6.cut (.cons (t := 7) rfl (.cons (t := 4) rfl (.cons (t := 0) rfl (.cons (t := 2) rfl .nil))));obtain ⟨k, hk⟩ : ∃ k, hf n = k := ⟨_, rfl⟩;obtain ⟨s, hs⟩ : ∃ s, f + k = s := ⟨_, rfl⟩;obtain ⟨r, hr⟩ : ∃ r, n - k = r := ⟨_, rfl⟩;have hkk := hf_in h2;rw [hk] at hkk;have hsp := split_any f n u h2 (by omega) (by omega);rw [← hf_hp h2, hk, hs, hr] at hsp;have hsplit : Rt bl f n = sm (c1 ++ Rt bl f k ++ Rt bl s r) := by rw [Rt_2 h2 hfn, hk, hs, hr]
    have hsub : ∀ a b, InT f k a b ∨ InT s r a b → Subs f n a b ∨ False := fun a b h => .inl ⟨h2, by rw [hk, hs, hr]; exact h⟩;have hsub2 : ∀ a b, Subs f n a b → InT f k a b ∨ InT s r a b := fun a b h => by have := h.2; rwa [hk, hs, hr] at this
    have HSPL := Lib.hid hsplit;have HSUB := Lib.hid hsub2;have hih1 := fun v p h1 h2 => ih k (by omega) f p v (by omega) (by omega) h1 h2;have hih2 := fun v p h1 h2 => ih r (by omega) s p v (by omega) (by omega) h1 h2;replace hih1 := Lib.hid hih1;replace hih2 := Lib.hid hih2;have hlo := Lib.hid (loadS hS4 Tryz.underlying157 rfl (by kernel_rfl));have HL := Lib.hid hLu;have HS4 := Lib.hid hS4;have hgl : gm < u.heap.size ∧ g4 < u.heap.size := ⟨hLu.lt, hS4.lt⟩;have HGL := Lib.hid hgl;clear hsplit hsub hsub2 hk hs hr hkk h2 hn1 hLu hS4 hgl ih;refine wp_seq_k fun K5 hK5 => ?_;refine wp_region_lit ?_;refine Kn.known fh6 rfl rfl .none (Kn.ex_load fh6 (.tmp rfl)) hlo.out fun fa7 fh7 => ?_;clear fh6 fa6;clear hlo;refine Kn.call fh7 rfl rfl .none (Kn.ex_call fh7 (.cons (.tmp rfl) .nil)) Tryz.call92 (hsp) fun e v1 hp => ?_;obtain ⟨rfl, hbs⟩ := hp;refine ⟨_, rfl, fun fa8 fh8 => ?_⟩;clear fh7 fa7;refine Kn.pure fh8 rfl rfl .none (Kn.ex_move fh8 (.tmp rfl)) fun fa9 fh9 => ?_;clear fh8 fa8;refine Kn.pure fh9 rfl rfl .none (Kn.ex_extract fh9 (.tmp rfl) rfl) fun fa10 fh10 => ?_;clear fh9 fa9;refine Kn.pure fh10 rfl rfl .none (Kn.ex_extract fh10 (.tmp rfl) rfl) fun fa11 fh11 => ?_;clear fh10 fa10;refine Kn.step fh11 rfl rfl .none Kn.ex_alloc fun Ko hKo => ?_;go_simp;(try go_bits);refine hKo _ _ fun fa12 fh12 => ?_;clear hKo Ko fh11 fa11;refine Kn.step fh12 rfl rfl .none Kn.ex_alloc fun Ko hKo => ?_;go_simp;(try go_bits);refine hKo _ _ fun fa13 fh13 => ?_;clear hKo Ko fh12 fa12;have hv1 := hbs.size;refine Kn.genL (fun x => St.St x v1.heap.size 157 #[.int .i64 0, .int .i64 0] ∧ St.St x (v1.heap.size + 1) 157 #[.int .i64 0, .int .i64 0] ∧ Below u.heap.size u x) ⟨(St.St.new v1 _ _).alloc _, (by have := St.St.new (v1.alloc (.cells #[.int .i64 0, .int .i64 0] 157)) 157 #[.int .i64 0, .int .i64 0]; simpa using this), (hbs.alloc hv1 _).alloc (by simp; omega) _⟩ fun v3 hv3 => ?_;clear hbs hsp;obtain ⟨g8, hg8⟩ : ∃ k, v1.heap.size = k := ⟨_, rfl⟩;obtain ⟨g9, hg9⟩ : ∃ k, g8 + 1 = k := ⟨_, rfl⟩;rw [hg8, hg9] at hv3 fh13;have hne89 : g8 ≠ g9 := by omega
    have hv8 : u.heap.size ≤ g8 := by omega
    have hv9 : u.heap.size ≤ g9 := by omega
    clear hg8 hg9 hv1;obtain ⟨hS8, hS9, hBv⟩ := hv3;obtain ⟨hst, hSn, hBn⟩ := hS8.store (P := Tryz.prog) (cells := #[.int .i64 ((f : Nat) : Int), .int .i64 ((k : Nat) : Int)]) (by kernel_rfl) rfl (by simp [Value.oneCell']);refine Kn.stepU fh13 rfl .none (Kn.ex_store fh13 (.tmp rfl) (.tmp rfl)) fun Ko hKo => ?_;refine Kn.satU_runA hst ?_;refine hKo _ ?_;clear hKo Ko;refine Kn.genL (fun x => St.St x g8 157 #[.int .i64 ((f : Nat) : Int), .int .i64 ((k : Nat) : Int)] ∧ St.St x g9 157 #[.int .i64 0, .int .i64 0] ∧ Below u.heap.size u x) ⟨hSn, hS9.setRow (Ne.symm hne89) _, hBv.trans (hBn _ hv8)⟩ fun v4 huv4 => ?_;clear hst hSn hBn hS8 hS9 hBv;obtain ⟨hS8, hS9, hBv⟩ := huv4;obtain ⟨hst, hSn, hBn⟩ := hS9.store (P := Tryz.prog) (cells := #[.int .i64 ((s : Nat) : Int), .int .i64 ((r : Nat) : Int)]) (by kernel_rfl) rfl (by simp [Value.oneCell']);refine Kn.stepU fh13 rfl .none (Kn.ex_store fh13 (.tmp rfl) (.tmp rfl)) fun Ko hKo => ?_;refine Kn.satU_runA hst ?_;refine hKo _ ?_;clear hKo Ko;refine Kn.genL (fun x => St.St x g8 157 #[.int .i64 ((f : Nat) : Int), .int .i64 ((k : Nat) : Int)] ∧ St.St x g9 157 #[.int .i64 ((s : Nat) : Int), .int .i64 ((r : Nat) : Int)] ∧ Below u.heap.size u x) ⟨hS8.setRow hne89 _, hSn, hBv.trans (hBn _ hv9)⟩ fun v5 huv5 => ?_;clear hst hSn hBn hS9 hS8 hBv;obtain ⟨hS8, hS9, hBv⟩ := huv5;refine wpList_nil ?_;refine hK5 _ _ ?_;clear hK5 K5;replace fh13 := fh13.cut (.cons (t := 9) rfl (.cons (t := 8) rfl (.cons (t := 7) rfl (.cons (t := 4) rfl (.cons (t := 0) rfl (.cons (t := 2) rfl .nil))))));have hne8 : g8 ≠ gm := by have := HGL.out; omega
    have hne9 : g9 ≠ gm := by have := HGL.out; omega
    have HV5 : Hid (LayIn bl A gt gm N v5 ∧ St.St v5 g8 157 #[.int .i64 ((f : Nat) : Int), .int .i64 ((k : Nat) : Int)] ∧ St.St v5 g9 157 #[.int .i64 ((s : Nat) : Int), .int .i64 ((r : Nat) : Int)] ∧ St.St v5 g4 157 #[.int .i64 ((f : Nat) : Int), .int .i64 ((n : Nat) : Int)] ∧ (∀ q, MapAt u gm (Rt bl) q → MapAt v5 gm (Rt bl) q) ∧ Sha.Only gm u v5) := Lib.hid ⟨HL.out.on hBv, hS8, hS9, HS4.out.on hBv, fun q h => h.on hBv, Sha.Only.of_below hBv⟩;clear hS8 hS9 hBv hne89 hv8 hv9;replace fh13 := fh13.cut (.cons (t := 9) rfl (.cons (t := 8) rfl (.cons (t := 4) rfl (.cons (t := 0) rfl (.cons (t := 2) rfl .nil)))));refine Kn.any (fun x => LayIn bl A gt gm N x ∧ St.St x g8 157 #[.int .i64 ((f : Nat) : Int), .int .i64 ((k : Nat) : Int)] ∧ St.St x g9 157 #[.int .i64 ((s : Nat) : Int), .int .i64 ((r : Nat) : Int)] ∧ St.St x g4 157 #[.int .i64 ((f : Nat) : Int), .int .i64 ((n : Nat) : Int)] ∧ (∀ q, MapAt u gm (Rt bl) q → MapAt x gm (Rt bl) q) ∧ Sha.Only gm u x) (fun x x' => ∀ q, MapAt x gm (Rt bl) q → MapAt x' gm (Rt bl) q) (Kn.TL [Kn.Is (.pointer (some ⟨gt, 0, none⟩)), Kn.Is (.agg #[.int .i64 ((f : Nat) : Int), .int .i64 ((k : Nat) : Int)]), Kn.Is (.slice A bl.length c), (fun (v : Value) (x : World) => v = .string (Rt bl f k) ∧ MapAt x gm (Rt bl) (InT f k)), Kn.Is (.pointer (some ⟨gt, 0, none⟩)), Kn.Is (.agg #[.int .i64 ((s : Nat) : Int), .int .i64 ((r : Nat) : Int)]), Kn.Is (.slice A bl.length c), (fun (v : Value) (x : World) => v = .string (Rt bl s r) ∧ MapAt x gm (Rt bl) (InT s r)), (fun (v : Value) (x : World) => v = .string (Rt bl f n) ∧ MapAt x gm (Rt bl) (InT f k) ∧ MapAt x gm (Rt bl) (InT s r)), (fun (v : Value) (x : World) => v = .string (Rt bl f n) ∧ MapAt x gm (Rt bl) (InT f k) ∧ MapAt x gm (Rt bl) (InT s r))]) (by kernel_rfl) fh13 (by kernel_rfl) (by kernel_rfl) rfl (Kn.Keeps.all (.cons Kn.Is.keep (.cons Kn.Is.keep (.cons Kn.Is.keep (.cons (fun _ _ _ hG h => ⟨h.1, hG _ h.2⟩) (.cons Kn.Is.keep (.cons Kn.Is.keep (.cons Kn.Is.keep (.cons (fun _ _ _ hG h => ⟨h.1, hG _ h.2⟩) (.cons (fun _ _ _ hG h => ⟨h.1, hG _ h.2.1, hG _ h.2.2⟩) (.cons (fun _ _ _ hG h => ⟨h.1, hG _ h.2.1, hG _ h.2.2⟩) .nil))))))))))) ⟨HV5.out.1.drew, HV5.out.2.1.drew, HV5.out.2.2.1.drew, HV5.out.2.2.2.1.drew, fun q h => (HV5.out.2.2.2.2.1 q h).at rfl, HV5.out.2.2.2.2.2.drew⟩ ⟨?_, ?_, ?_, ?_, ?_, ?_, ?_, ?_, ?_, ?_, trivial⟩ ?_
    · refine Kn.ok fun fa14 x L fh14 hS hH => ?_;exact Kn.apure fh14 .none (Kn.ex_move fh14 (.tmp rfl)) rfl hS (fun _ h => h)
    · refine Kn.ok fun fa14 x L fh14 hS hH => ?_;have hld := loadS hS.2.1 Tryz.underlying157 rfl (by kernel_rfl);exact Kn.aop fh14 .none (Kn.ex_load fh14 (.tmp rfl)) fun Ko hKo => by rw [hld]; exact hKo _ _ rfl hS (fun _ h => h)
    · refine Kn.ok fun fa14 x L fh14 hS hH => ?_;exact Kn.apure fh14 .none (Kn.ex_move fh14 (.tmp rfl)) rfl hS (fun _ h => h)
    · refine Kn.ok fun fa14 x L fh14 hS hH => ?_;replace fh14 := fh14.more (show fa14.eval (.tmp 24) = .pointer (some ⟨gt, 0, none⟩) from hH 0 24 rfl rfl);replace fh14 := fh14.more (show fa14.eval (.tmp 25) = .agg #[.int .i64 ((f : Nat) : Int), .int .i64 ((k : Nat) : Int)] from hH 1 25 rfl rfl);replace fh14 := fh14.more (show fa14.eval (.tmp 26) = .slice A bl.length c from hH 2 26 rfl rfl);refine Kn.acall fh14 .none (Kn.ex_call fh14 (.cons (.tmp rfl) (.cons (.tmp rfl) (.cons (.tmp rfl) .nil)))) Tryz.call72 (hih1.out _ _ hS.1 (hS.2.2.2.2.1 _ HM0.out)) fun e x2 hp => ?_;obtain ⟨rfl, hm, hmo, ho⟩ := hp;exact ⟨_, rfl, ⟨rfl, hm⟩, ⟨hS.1.only ho, St.only hS.2.1 ho hne8, St.only hS.2.2.1 ho hne9, St.only hS.2.2.2.1 ho hgm4, fun q h => hmo q (hS.2.2.2.2.1 q h), hS.2.2.2.2.2.trans ho⟩, hmo⟩
    · refine Kn.ok fun fa14 x L fh14 hS hH => ?_;exact Kn.apure fh14 .none (Kn.ex_move fh14 (.tmp rfl)) rfl hS (fun _ h => h)
    · refine Kn.ok fun fa14 x L fh14 hS hH => ?_;have hld := loadS hS.2.2.1 Tryz.underlying157 rfl (by kernel_rfl);exact Kn.aop fh14 .none (Kn.ex_load fh14 (.tmp rfl)) fun Ko hKo => by rw [hld]; exact hKo _ _ rfl hS (fun _ h => h)
    · refine Kn.ok fun fa14 x L fh14 hS hH => ?_;exact Kn.apure fh14 .none (Kn.ex_move fh14 (.tmp rfl)) rfl hS (fun _ h => h)
    · refine Kn.ok fun fa14 x L fh14 hS hH => ?_;replace fh14 := fh14.more (show fa14.eval (.tmp 28) = .pointer (some ⟨gt, 0, none⟩) from hH 4 28 rfl rfl);replace fh14 := fh14.more (show fa14.eval (.tmp 29) = .agg #[.int .i64 ((s : Nat) : Int), .int .i64 ((r : Nat) : Int)] from hH 5 29 rfl rfl);replace fh14 := fh14.more (show fa14.eval (.tmp 30) = .slice A bl.length c from hH 6 30 rfl rfl);refine Kn.acall fh14 .none (Kn.ex_call fh14 (.cons (.tmp rfl) (.cons (.tmp rfl) (.cons (.tmp rfl) .nil)))) Tryz.call72 (hih2.out _ _ hS.1 (hS.2.2.2.2.1 _ HM0.out)) fun e x2 hp => ?_;obtain ⟨rfl, hm, hmo, ho⟩ := hp;exact ⟨_, rfl, ⟨rfl, hm⟩, ⟨hS.1.only ho, St.only hS.2.1 ho hne8, St.only hS.2.2.1 ho hne9, St.only hS.2.2.2.1 ho hgm4, fun q h => hmo q (hS.2.2.2.2.1 q h), hS.2.2.2.2.2.trans ho⟩, hmo⟩
    · refine Kn.ok fun fa14 x L fh14 hS hH => ?_;obtain ⟨e27, hm027⟩ : (fun (v : Value) (x : World) => v = .string (Rt bl f k) ∧ MapAt x gm (Rt bl) (InT f k)) (fa14.eval (.tmp 27)) x := hH 3 27 rfl rfl;replace fh14 := fh14.more e27;clear e27;obtain ⟨e31, hm031⟩ : (fun (v : Value) (x : World) => v = .string (Rt bl s r) ∧ MapAt x gm (Rt bl) (InT s r)) (fa14.eval (.tmp 31)) x := hH 7 31 rfl rfl;replace fh14 := fh14.more e31;clear e31;refine Kn.acall fh14 .none (Kn.ex_call fh14 (.cons (.tmp rfl) (.cons (.tmp rfl) .nil))) Tryz.call93 (node_any (Rt bl f k) (Rt bl s r) _ (by rw [Rt_size]; omega) (by rw [Rt_size]; omega) hS.1.tabs) fun e x2 hp => ?_;obtain ⟨rfl, hb⟩ := hp;exact ⟨_, rfl, ⟨by rw [HSPL.out], hm027.on hb, hm031.on hb⟩, ⟨hS.1.only (Sha.Only.of_below hb), St.only hS.2.1 (Sha.Only.of_below hb) hne8, St.only hS.2.2.1 (Sha.Only.of_below hb) hne9, St.only hS.2.2.2.1 (Sha.Only.of_below hb) hgm4, fun q h => (fun _ h => MapAt.on h hb) q (hS.2.2.2.2.1 q h), hS.2.2.2.2.2.trans (Sha.Only.of_below hb)⟩, (fun _ h => MapAt.on h hb)⟩
    · refine Kn.ok fun fa14 x L fh14 hS hH => ?_;obtain ⟨e32, hm032, hm132⟩ : (fun (v : Value) (x : World) => v = .string (Rt bl f n) ∧ MapAt x gm (Rt bl) (InT f k) ∧ MapAt x gm (Rt bl) (InT s r)) (fa14.eval (.tmp 32)) x := hH 8 32 rfl rfl;replace fh14 := fh14.more e32;clear e32;exact Kn.apure fh14 .none (Kn.ex_assign fh14 (.tmp rfl)) ⟨rfl, hm032, hm132⟩ hS (fun _ h => h)
    intro fa14 v6 fh14 hS hT;clear fh13 fa13;obtain ⟨e7, hm07, hm17⟩ : (fun (v : Value) (x : World) => v = .string (Rt bl f n) ∧ MapAt x gm (Rt bl) (InT f k) ∧ MapAt x gm (Rt bl) (InT s r)) (fa14.eval (.tmp 7)) v6 := hT 9 7 rfl;replace fh14 := fh14.more e7;clear hT;replace fh14 := fh14.cut (.cons (t := 7) rfl (.cons (t := 4) rfl (.cons (t := 0) rfl .nil)));exact ⟨fh14.cut (.cons (t := 0) rfl (.cons (t := 4) rfl (.cons (t := 7) rfl .nil))), Lib.hid ⟨hS.1, hS.2.2.2.1, (hm07.or hm17).mono HSUB.out, hS.2.2.2.2.1, hS.2.2.2.2.2⟩⟩
  clear fh3 fa3;intro fa4 v hJ;obtain ⟨fh4, HJ⟩ := hJ;refine hK3 _ _ ?_;clear hK3 K3;have hL2 := HJ.out.1;have c0 := hL2.tree.drew.cell 0 rfl;have hld := loadS HJ.out.2.1.drew Tryz.underlying157 rfl (by kernel_rfl);have hMp : MapAt v.drew gm (Rt bl) (Subs f n) := HJ.out.2.2.1.at rfl;obtain ⟨v9, hput, hM9, hot, hsz9, hB9⟩ := hMp.put (a := f) (b := n) (by omega) (by omega);have hO9 : Sha.Only gm v.drew v9 := ⟨(hB9 gm (Nat.le_refl _)).os, (hB9 gm (Nat.le_refl _)).tape, (hB9 gm (Nat.le_refl _)).output, (hB9 gm (Nat.le_refl _)).size, fun k _ hne => hot k hne⟩;have HF : Hid (MapAt v9 gm (Rt bl) (InT f n) ∧ (∀ q, MapAt w gm (Rt bl) q → MapAt v9 gm (Rt bl) q) ∧ Sha.Only gm w v9) := Lib.hid ⟨hM9.mono fun a b h => InT_subs h, fun q h => ((HJ.out.2.2.2.1 q (HB.out.2 q h)).at (w' := v.drew) rfl).same (by omega) (by omega) hput, (HB.out.1.trans HJ.out.2.2.2.2).drew.trans hO9⟩;have HPUT : Hid ((Instr.mapUpdate 152 (.map (some gm)) (.agg #[.int .i64 ((f : Nat) : Int), .int .i64 ((n : Nat) : Int)]) (.agg #[.string (Rt bl f n)])).run Tryz.prog v.drew = .ok () v9) := Lib.hid hput;clear hM9 hot hsz9 hB9 hO9 hMp hL2 hput;refine wp_seq_k fun K4 hK4 => ?_;refine Kn.tail 7 (by kernel_rfl) (by kernel_rfl) rfl rfl ?_;refine Kn.spure fh4 rfl rfl .none (Kn.ex_move fh4 (.tmp rfl)) fun fa5 fh5 => ?_;clear fh4 fa4;refine Kn.spure fh5 rfl rfl .none (Kn.ex_nilCheck fh5 (.tmp rfl)) fun fa6 fh6 => ?_;clear fh5 fa5;refine Kn.sstep fh6 rfl rfl .none (Kn.ex_fieldAddr fh6 (.tmp rfl)) fun Ko hKo => ?_;go_simp;(try go_bits);refine hKo _ fun fa7 fh7 => ?_;clear hKo Ko fh6 fa6;refine Kn.sstep fh7 rfl rfl .none (Kn.ex_load fh7 (.tmp rfl)) fun Ko hKo => ?_;go_simp;(try go_bits);refine hKo _ fun fa8 fh8 => ?_;clear hKo Ko fh7 fa7;refine Kn.sstep fh8 rfl rfl .none (Kn.ex_load fh8 (.tmp rfl)) fun Ko hKo => ?_;rw [hld];refine hKo _ fun fa9 fh9 => ?_;clear hKo Ko fh8 fa8;refine Kn.spure fh9 rfl rfl .none (Kn.ex_move fh9 (.tmp rfl)) fun fa10 fh10 => ?_;clear fh9 fa9;refine Kn.sstep fh10 rfl rfl .none (Kn.ex_build fh10 (.cons (.tmp rfl) .nil)) fun Ko hKo => ?_;go_simp;(try go_bits);refine hKo _ fun fa11 fh11 => ?_;clear hKo Ko fh10 fa10;refine wpStill_nil ?_;refine Kn.stepU fh11 rfl .none (Kn.ex_mapPut fh11 (.tmp rfl) (.tmp rfl) (.tmp rfl)) fun Ko hKo => ?_;refine Kn.satU_runA HPUT.out ?_;refine hKo _ ?_;clear hKo Ko;refine wpList_nil ?_;refine hK4 _ _ ?_;clear hK4 K4;replace fh11 := fh11.cut (.cons (t := 7) rfl .nil);refine wp_seq_k fun K5 hK5 => ?_;refine wp_region_lit ?_;refine Kn.pure fh11 rfl rfl .none (Kn.ex_move fh11 (.tmp rfl)) fun fa12 fh12 => ?_;clear fh11 fa11;refine Kn.pure fh12 rfl rfl .none (Kn.ex_assign fh12 (.tmp rfl)) fun fa13 fh13 => ?_;clear fh12 fa12;refine wpList_nil ?_;refine hK5 _ _ ?_;clear hK5 K5;replace fh13 := fh13.cut (.cons (t := 6) rfl .nil);refine wp_ret ?_;exact Kn.ret1 fh13 rfl rfl ⟨rfl, HF.out⟩
end Go.Proofs.YtbahklpdldghbaaGreatDoor.Mrk
end
section
namespace Go.Proofs.YtbahklpdldghbaaGreatDoor.Mrk
open Go Go.RowKit Go.Lib RowG
def TreeAt (bl : List ByteArray) (gt gm : Nat) (u : World) : Prop := St.St u gt 154 #[.map (some gm), .int .i64 (bl.length : Int)] ∧ MapAt u gm (Rt bl) (fun a b => 1 ≤ bl.length ∧ InT 0 bl.length a b)
theorem TreeAt.on {bl : List ByteArray} {gt gm : Nat} {u u' : World} (h : TreeAt bl gt gm u) (hb : Below u.heap.size u u') : TreeAt bl gt gm u' := ⟨h.1.on hb, h.2.on hb⟩
theorem TreeAt.lt {bl : List ByteArray} {gt gm : Nat} {u : World} (h : TreeAt bl gt gm u) : gt < u.heap.size ∧ gm < u.heap.size := ⟨h.1.lt, h.2.lt⟩
theorem run_makeMapN (x : Int) (w : World) : (Instr.makeMap 152 (some (.int .i64 x))).run Tryz.prog w = .ok (.map (some w.heap.size)) (w.alloc (.map #[] 0)) := by
  simp [Instr.makeMap, run_underlying Tryz.underlying152, asInt, asIntOf, Result.andThen]
set_option maxRecDepth 100000 in
set_option maxHeartbeats 600000 in
theorem new_any (bl : List ByteArray) (A : Option Addr) (c : Nat) (w : World) (hN : bl.length ≤ 1000000) (hsz : ∀ b ∈ bl, b.size ≤ 300) (hbc : bl.length ≤ c) (hcm : c ≤ maxLen) (hR : RIn txR w A bl) (hT : Sha.Tabs w) :
    Calls Tryz.prog 51 #[.slice A bl.length c] w fun e w' => ∃ gt gm, e = .returned (.pointer (some ⟨gt, 0, none⟩)) ∧ TreeAt bl gt gm w' ∧ Below w.heap.size w w' := by
  refine Kn.calls Tryz.func51 rfl Tryz.ntmps51 rfl (.cons (t := 0) rfl .nil) fun fa0 fh0 => ?_;refine wp_seq_k fun K1 hK1 => ?_;refine wp_region_lit ?_;refine Kn.pure fh0 rfl rfl .none (Kn.ex_assign fh0 .const) fun fa1 fh1 => ?_;clear fh0 fa0;refine wpList_nil ?_;refine hK1 _ _ ?_;clear hK1 K1;refine wp_seq_k fun K2 hK2 => ?_;refine wp_region_lit ?_;refine Kn.pure fh1 rfl rfl .none (Kn.ex_move fh1 (.tmp rfl)) fun fa2 fh2 => ?_;clear fh1 fa1;refine Kn.step fh2 rfl rfl .none (Kn.ex_len fh2 (.tmp rfl)) fun Ko hKo => ?_;go_simp;(try go_bits);refine hKo _ _ fun fa3 fh3 => ?_;clear hKo Ko fh2 fa2;refine Kn.step fh3 rfl rfl .none (Kn.ex_bin fh3 .const (.tmp rfl)) fun Ko hKo => ?_;go_simp;(try go_bits);refine hKo _ _ fun fa4 fh4 => ?_;clear hKo Ko fh3 fa3;refine Kn.known fh4 rfl rfl .none (Kn.ex_makeMapN fh4 (.tmp rfl)) (run_makeMapN _ _) fun fa5 fh5 => ?_;clear fh4 fa4;refine Kn.pure fh5 rfl rfl .none (Kn.ex_move fh5 (.tmp rfl)) fun fa6 fh6 => ?_;clear fh5 fa5;refine Kn.step fh6 rfl rfl .none (Kn.ex_len fh6 (.tmp rfl)) fun Ko hKo => ?_;go_simp;(try go_bits);refine hKo _ _ fun fa7 fh7 => ?_;clear hKo Ko fh6 fa6;refine Kn.step fh7 rfl rfl .none (Kn.ex_build fh7 (.cons (.tmp rfl) (.cons (.tmp rfl) .nil))) fun Ko hKo => ?_;go_simp;(try go_bits);refine hKo _ _ fun fa8 fh8 => ?_;clear hKo Ko fh7 fa7;refine Kn.step fh8 rfl rfl .none (Kn.ex_box fh8 (.tmp rfl)) fun Ko hKo => ?_;go_simp;(try go_bits);refine hKo _ _ fun fa9 fh9 => ?_;clear hKo Ko fh8 fa8;refine Kn.pure fh9 rfl rfl .none (Kn.ex_assign fh9 (.tmp rfl)) fun fa10 fh10 => ?_;clear fh9 fa9;refine wpList_nil ?_;refine hK2 _ _ ?_;clear hK2 K2;replace fh10 := fh10.cut (.cons (t := 3) rfl (.cons (t := 2) rfl (.cons (t := 0) rfl .nil)));refine Kn.gen (fun u => St.St u (w.heap.size + 1) 154 #[.map (some w.heap.size), .int .i64 (bl.length : Int)] ∧ MapAt u w.heap.size (Rt bl) (fun _ _ => False) ∧ Below w.heap.size w u) ⟨(by have := St.St.new (w.alloc (.map #[] 0)) 154 #[.map (some w.heap.size), .int .i64 (bl.length : Int)]; simpa using this), (MapAt.new w).on ((Below.refl _ _).alloc (Nat.le_refl _) _), ((Below.refl _ w).alloc (Nat.le_refl _) _).alloc (by simp) _⟩ fun u hu => ?_;obtain ⟨hS0, hM0, hb0⟩ := hu;have hgs := hT.size
  have hoff : 0 < bl.length → Off A w.heap.size := fun h0 a e => by
    obtain ⟨b, o, e2, hlt⟩ := hR.addr h0;rw [e2] at e;injection e with e
    subst e;show b ≠ _;omega
  have hT0 := hT.below hb0 hT.size;have hR0 := hR.on hb0;obtain ⟨gm, hgm⟩ : ∃ g, w.heap.size = g := ⟨_, rfl⟩;rw [hgm] at hS0 hM0 fh10 hoff;have hgmle : 4 ≤ gm := by omega
  have HB : Hid (Below w.heap.size w u ∧ w.heap.size ≤ gm) := Lib.hid ⟨hb0, by omega⟩;obtain ⟨gt, hgt⟩ : ∃ g, gm + 1 = g := ⟨_, rfl⟩;rw [hgt] at hS0 fh10;have hne : gt ≠ gm := by omega
  have c1 := hS0.cell 1 rfl;have HN := Lib.hid hN;clear hgm hgt hgs hb0
  by_cases h0 : 0 < bl.length
  · have hLI : LayIn bl A gt gm bl.length u := ⟨hT0, hS0, hR0, hoff (by omega), hne, hgmle, hM0.lt⟩;have h1 : 1 ≤ bl.length := by omega
    have hall := all_any gt gm bl.length u hS0;have hly := Lib.hid (fun v q h1 h2 => lay_any bl A c gt gm bl.length hN hsz hbc hcm bl.length 0 q v (by omega) (by omega) h1 h2);have HL := Lib.hid hLI;have HM := Lib.hid hM0;have HH := Lib.hid h1;clear hLI hT0 hS0 hR0 hoff hM0 h1;refine wp_seq_k fun K3 hK3 => ?_;refine wp_seq_k fun K4 hK4 => ?_;refine wp_region_lit ?_;refine Kn.pure fh10 rfl rfl .none (Kn.ex_move fh10 (.tmp rfl)) fun fa11 fh11 => ?_;clear fh10 fa10;refine Kn.pure fh11 rfl rfl .none (Kn.ex_nilCheck fh11 (.tmp rfl)) fun fa12 fh12 => ?_;clear fh11 fa11;refine Kn.step fh12 rfl rfl .none (Kn.ex_fieldAddr fh12 (.tmp rfl)) fun Ko hKo => ?_;go_simp;(try go_bits);refine hKo _ _ fun fa13 fh13 => ?_;clear hKo Ko fh12 fa12;refine Kn.step fh13 rfl rfl .none (Kn.ex_load fh13 (.tmp rfl)) fun Ko hKo => ?_;go_simp;(try go_bits);refine hKo _ _ fun fa14 fh14 => ?_;clear hKo Ko fh13 fa13;refine Kn.step fh14 rfl rfl .none (Kn.ex_bin fh14 (.tmp rfl) .const) fun Ko hKo => ?_;go_simp;(try go_bits);refine hKo _ _ fun fa15 fh15 => ?_;clear hKo Ko fh14 fa14;refine wpList_nil ?_;refine hK4 _ _ ?_;clear hK4 K4;replace fh15 := fh15.cut (.cons (t := 16) rfl (.cons (t := 3) rfl (.cons (t := 2) rfl (.cons (t := 0) rfl .nil))));clear c1 h0;refine Kn.yes fh15 (.tmp rfl) ?_;replace fh15 := fh15.cut (.cons (t := 3) rfl (.cons (t := 2) rfl (.cons (t := 0) rfl .nil)));refine wp_region_lit ?_;refine Kn.pure fh15 rfl rfl .none (Kn.ex_move fh15 (.tmp rfl)) fun fa16 fh16 => ?_;clear fh15 fa15;refine Kn.pure fh16 rfl rfl .none (Kn.ex_move fh16 (.tmp rfl)) fun fa17 fh17 => ?_;clear fh16 fa16;refine Kn.call fh17 rfl rfl .none (Kn.ex_call fh17 (.cons (.tmp rfl) .nil)) Tryz.call73 (hall) fun e u1 hp => ?_;obtain ⟨rfl, hb1⟩ := hp;refine ⟨_, rfl, fun fa18 fh18 => ?_⟩;clear fh17 fa17;refine Kn.pure fh18 rfl rfl .none (Kn.ex_move fh18 (.tmp rfl)) fun fa19 fh19 => ?_;clear fh18 fa18;refine Kn.call fh19 rfl rfl .none (Kn.ex_call fh19 (.cons (.tmp rfl) (.cons (.tmp rfl) (.cons (.tmp rfl) .nil)))) Tryz.call72 (hly.out _ _ (HL.out.on hb1) (HM.out.on hb1)) fun e u2 hp => ?_;obtain ⟨rfl, hm2, -, ho2⟩ := hp;refine ⟨_, rfl, fun fa20 fh20 => ?_⟩;clear fh19 fa19;refine wpList_nil ?_;refine hK3 _ _ ?_;clear hK3 K3;replace fh20 := fh20.cut (.cons (t := 3) rfl (.cons (t := 2) rfl .nil));have HF : Hid (TreeAt bl gt gm u2 ∧ Below w.heap.size w u2) := Lib.hid ⟨⟨(HL.out.on hb1).only ho2 |>.tree, hm2.mono fun a b h => h.2⟩, (HB.out.1.trans (hb1.mono HB.out.1.size)).trans (ho2.below HB.out.2 (Nat.le_trans HB.out.1.size hb1.size))⟩;clear hb1 hm2 ho2;refine wp_seq_k fun K5 hK5 => ?_;refine wp_region_lit ?_;refine Kn.pure fh20 rfl rfl .none (Kn.ex_move fh20 (.tmp rfl)) fun fa21 fh21 => ?_;clear fh20 fa20;refine Kn.pure fh21 rfl rfl .none (Kn.ex_assign fh21 (.tmp rfl)) fun fa22 fh22 => ?_;clear fh21 fa21;refine wpList_nil ?_;refine hK5 _ _ ?_;clear hK5 K5;replace fh22 := fh22.cut (.cons (t := 2) rfl .nil);refine wp_ret ?_;exact Kn.ret1 fh22 rfl rfl ⟨gt, gm, rfl, HF.out⟩
  have hz : bl.length = 0 := by omega
  have HZ := Lib.hid hz;have HF : Hid (TreeAt bl gt gm u ∧ Below w.heap.size w u) := Lib.hid ⟨⟨hS0, hM0.mono fun a b h => by omega⟩, HB.out.1⟩;clear hz;refine wp_seq_k fun K3 hK3 => ?_;refine wp_seq_k fun K4 hK4 => ?_;refine wp_region_lit ?_;refine Kn.pure fh10 rfl rfl .none (Kn.ex_move fh10 (.tmp rfl)) fun fa11 fh11 => ?_;clear fh10 fa10;refine Kn.pure fh11 rfl rfl .none (Kn.ex_nilCheck fh11 (.tmp rfl)) fun fa12 fh12 => ?_;clear fh11 fa11;refine Kn.step fh12 rfl rfl .none (Kn.ex_fieldAddr fh12 (.tmp rfl)) fun Ko hKo => ?_;go_simp;(try go_bits);refine hKo _ _ fun fa13 fh13 => ?_;clear hKo Ko fh12 fa12;refine Kn.step fh13 rfl rfl .none (Kn.ex_load fh13 (.tmp rfl)) fun Ko hKo => ?_;go_simp;(try go_bits);refine hKo _ _ fun fa14 fh14 => ?_;clear hKo Ko fh13 fa13;refine Kn.step fh14 rfl rfl .none (Kn.ex_bin fh14 (.tmp rfl) .const) fun Ko hKo => ?_;go_simp;(try go_bits);refine hKo _ _ fun fa15 fh15 => ?_;clear hKo Ko fh14 fa14;refine wpList_nil ?_;refine hK4 _ _ ?_;clear hK4 K4;replace fh15 := fh15.cut (.cons (t := 16) rfl (.cons (t := 3) rfl (.cons (t := 2) rfl (.cons (t := 0) rfl .nil))));refine Kn.no fh15 (.tmp rfl) ?_;refine wp_skip ?_;refine hK3 _ _ ?_;clear hK3 K3;replace fh15 := fh15.cut (.cons (t := 3) rfl (.cons (t := 2) rfl .nil));refine wp_seq_k fun K5 hK5 => ?_;refine wp_region_lit ?_;refine Kn.pure fh15 rfl rfl .none (Kn.ex_move fh15 (.tmp rfl)) fun fa16 fh16 => ?_;clear fh15 fa15;refine Kn.pure fh16 rfl rfl .none (Kn.ex_assign fh16 (.tmp rfl)) fun fa17 fh17 => ?_;clear fh16 fa16;refine wpList_nil ?_;refine hK5 _ _ ?_;clear hK5 K5;replace fh17 := fh17.cut (.cons (t := 2) rfl .nil);refine wp_ret ?_;exact Kn.ret1 fh17 rfl rfl ⟨gt, gm, rfl, HF.out⟩
set_option maxRecDepth 100000 in
set_option maxHeartbeats 600000 in
theorem troot_any (bl : List ByteArray) (gt gm : Nat) (w : World) (hN : bl.length ≤ 1000000) (hTr : TreeAt bl gt gm w) (hT : Sha.Tabs w) :
    Calls Tryz.prog 52 #[.pointer (some ⟨gt, 0, none⟩)] w fun e w' => e = .returned (.string (rootP bl).1) ∧ Below w.heap.size w w' := by
  refine Kn.calls Tryz.func52 rfl Tryz.ntmps52 rfl (.cons (t := 0) rfl .nil) fun fa0 fh0 => ?_;refine wp_seq_k fun K1 hK1 => ?_;refine wp_region_lit ?_;refine Kn.pure fh0 rfl rfl .none (Kn.ex_assign fh0 .const) fun fa1 fh1 => ?_;clear fh0 fa0;refine wpList_nil ?_;refine hK1 _ _ ?_;clear hK1 K1;refine wp_seq_k fun K2 hK2 => ?_;refine wp_seq_k fun K3 hK3 => ?_;refine wp_region_lit ?_;refine Kn.pure fh1 rfl rfl .none (Kn.ex_move fh1 (.tmp rfl)) fun fa2 fh2 => ?_;clear fh1 fa1;refine Kn.step fh2 rfl rfl .none (Kn.ex_bin fh2 (.tmp rfl) .const) fun Ko hKo => ?_;go_simp;(try go_bits);refine hKo _ _ fun fa3 fh3 => ?_;clear hKo Ko fh2 fa2;refine wpList_nil ?_;refine hK3 _ _ ?_;clear hK3 K3;replace fh3 := fh3.cut (.cons (t := 4) rfl (.cons (t := 2) rfl (.cons (t := 0) rfl .nil)));refine Kn.no fh3 (.tmp rfl) ?_;refine wp_skip ?_;refine hK2 _ _ ?_;clear hK2 K2;replace fh3 := fh3.cut (.cons (t := 2) rfl (.cons (t := 0) rfl .nil));have c1 := hTr.1.cell 1 rfl
  by_cases h0 : bl.length = 0
  · have e0 : ((bl.length : Int) == 0) = true := by rw [h0]; rfl
    have HS := Lib.hid (sum1 c2 w hT (by decide));have H0 := Lib.hid h0;clear h0;refine wp_seq_k fun K4 hK4 => ?_;refine wp_seq_k fun K5 hK5 => ?_;refine wp_region_lit ?_;refine Kn.pure fh3 rfl rfl .none (Kn.ex_move fh3 (.tmp rfl)) fun fa4 fh4 => ?_;clear fh3 fa3;refine Kn.pure fh4 rfl rfl .none (Kn.ex_nilCheck fh4 (.tmp rfl)) fun fa5 fh5 => ?_;clear fh4 fa4;refine Kn.step fh5 rfl rfl .none (Kn.ex_fieldAddr fh5 (.tmp rfl)) fun Ko hKo => ?_;go_simp;(try go_bits);refine hKo _ _ fun fa6 fh6 => ?_;clear hKo Ko fh5 fa5;refine Kn.step fh6 rfl rfl .none (Kn.ex_load fh6 (.tmp rfl)) fun Ko hKo => ?_;go_simp;(try go_bits);refine hKo _ _ fun fa7 fh7 => ?_;clear hKo Ko fh6 fa6;refine Kn.step fh7 rfl rfl .none (Kn.ex_bin fh7 (.tmp rfl) .const) fun Ko hKo => ?_;go_simp;(try go_bits);refine hKo _ _ fun fa8 fh8 => ?_;clear hKo Ko fh7 fa7;refine wpList_nil ?_;refine hK5 _ _ ?_;clear hK5 K5;replace fh8 := fh8.cut (.cons (t := 9) rfl (.cons (t := 2) rfl (.cons (t := 0) rfl .nil)));clear e0 c1;refine Kn.yes fh8 (.tmp rfl) ?_;replace fh8 := fh8.cut (.cons (t := 2) rfl (.cons (t := 0) rfl .nil));refine wp_seq_k fun K6 hK6 => ?_;refine wp_region_lit ?_;refine Kn.step fh8 rfl rfl .none (Kn.ex_buildSlice fh8 (.cons .const .nil)) fun Ko hKo => ?_;go_simp;(try go_bits);refine hKo _ _ fun fa9 fh9 => ?_;clear hKo Ko fh8 fa8;refine Kn.call fh9 rfl rfl .none (Kn.ex_call fh9 (.cons (.tmp rfl) .nil)) Tryz.call74 (HS.out) fun e w1 hp => ?_;obtain ⟨rfl, hb⟩ := hp;refine ⟨_, rfl, fun fa10 fh10 => ?_⟩;clear fh9 fa9;refine Kn.pure fh10 rfl rfl .none (Kn.ex_assign fh10 (.tmp rfl)) fun fa11 fh11 => ?_;clear fh10 fa10;refine wpList_nil ?_;refine hK6 _ _ ?_;clear hK6 K6;replace fh11 := fh11.cut (.cons (t := 2) rfl (.cons (t := 0) rfl .nil));refine wp_ret ?_;refine Kn.then_ret ?_;exact Kn.ret1 fh11 rfl rfl ⟨by rw [rootP_0 H0.out], hb⟩
  have e0 : ((bl.length : Int) == 0) = false := by rw [beq_eq_false_iff_ne]; omega
  have hall := all_any gt gm bl.length w hTr.1;have H0 := Lib.hid h0;have hpt := Lib.hid (fun v (h : TreeAt bl gt gm v) => part_any gt gm bl.length 0 bl.length (Rt bl) _ v h.1 h.2 ⟨by omega, InT_self _ _⟩ (by omega) hN (by rw [Rt_size]; omega));have HT := Lib.hid hTr;clear h0 hTr;refine wp_seq_k fun K4 hK4 => ?_;refine wp_seq_k fun K5 hK5 => ?_;refine wp_region_lit ?_;refine Kn.pure fh3 rfl rfl .none (Kn.ex_move fh3 (.tmp rfl)) fun fa4 fh4 => ?_;clear fh3 fa3;refine Kn.pure fh4 rfl rfl .none (Kn.ex_nilCheck fh4 (.tmp rfl)) fun fa5 fh5 => ?_;clear fh4 fa4;refine Kn.step fh5 rfl rfl .none (Kn.ex_fieldAddr fh5 (.tmp rfl)) fun Ko hKo => ?_;go_simp;(try go_bits);refine hKo _ _ fun fa6 fh6 => ?_;clear hKo Ko fh5 fa5;refine Kn.step fh6 rfl rfl .none (Kn.ex_load fh6 (.tmp rfl)) fun Ko hKo => ?_;go_simp;(try go_bits);refine hKo _ _ fun fa7 fh7 => ?_;clear hKo Ko fh6 fa6;refine Kn.step fh7 rfl rfl .none (Kn.ex_bin fh7 (.tmp rfl) .const) fun Ko hKo => ?_;go_simp;(try go_bits);refine hKo _ _ fun fa8 fh8 => ?_;clear hKo Ko fh7 fa7;refine wpList_nil ?_;refine hK5 _ _ ?_;clear hK5 K5;replace fh8 := fh8.cut (.cons (t := 9) rfl (.cons (t := 2) rfl (.cons (t := 0) rfl .nil)));clear e0 c1;refine Kn.no fh8 (.tmp rfl) ?_;refine wp_skip ?_;refine hK4 _ _ ?_;clear hK4 K4;replace fh8 := fh8.cut (.cons (t := 2) rfl (.cons (t := 0) rfl .nil));refine wp_seq_k fun K6 hK6 => ?_;refine wp_region_lit ?_;refine Kn.pure fh8 rfl rfl .none (Kn.ex_move fh8 (.tmp rfl)) fun fa9 fh9 => ?_;clear fh8 fa8;refine Kn.pure fh9 rfl rfl .none (Kn.ex_move fh9 (.tmp rfl)) fun fa10 fh10 => ?_;clear fh9 fa9;refine Kn.call fh10 rfl rfl .none (Kn.ex_call fh10 (.cons (.tmp rfl) .nil)) Tryz.call73 (hall) fun e w1 hp => ?_;obtain ⟨rfl, hb1⟩ := hp;refine ⟨_, rfl, fun fa11 fh11 => ?_⟩;clear fh10 fa10;refine Kn.call fh11 rfl rfl .none (Kn.ex_call fh11 (.cons (.tmp rfl) (.cons (.tmp rfl) .nil))) Tryz.call75 (hpt.out _ (HT.out.on hb1)) fun e w2 hp => ?_;obtain ⟨rfl, hb2⟩ := hp;refine ⟨_, rfl, fun fa12 fh12 => ?_⟩;clear fh11 fa11;refine Kn.pure fh12 rfl rfl .none (Kn.ex_assign fh12 (.tmp rfl)) fun fa13 fh13 => ?_;clear fh12 fa12;refine wpList_nil ?_;refine hK6 _ _ ?_;clear hK6 K6;replace fh13 := fh13.cut (.cons (t := 2) rfl .nil);refine wp_ret ?_;exact Kn.ret1 fh13 rfl rfl ⟨by rw [Rt_all], hb1.trans (hb2.mono hb1.size)⟩
set_option maxRecDepth 100000 in
set_option maxHeartbeats 600000 in
theorem root_any (bl : List ByteArray) (A : Option Addr) (c : Nat) (w : World) (hN : bl.length ≤ 1000000) (hsz : ∀ b ∈ bl, b.size ≤ 300) (hbc : bl.length ≤ c) (hcm : c ≤ maxLen) (hR : RIn txR w A bl) (hT : Sha.Tabs w) :
    Calls Tryz.prog 33 #[.slice A bl.length c] w fun e w' => e = .returned (.string (rootP bl).1) ∧ Below w.heap.size w w' := by
  refine Kn.calls Tryz.func33 rfl Tryz.ntmps33 rfl (.cons (t := 0) rfl .nil) fun fa0 fh0 => ?_;refine wp_seq_k fun K1 hK1 => ?_;refine wp_region_lit ?_;refine Kn.pure fh0 rfl rfl .none (Kn.ex_assign fh0 .const) fun fa1 fh1 => ?_;clear fh0 fa0;refine wpList_nil ?_;refine hK1 _ _ ?_;clear hK1 K1;have hn := new_any bl A c w hN hsz hbc hcm hR hT;have HT := Lib.hid hT;clear hT;refine wp_seq_k fun K2 hK2 => ?_;refine wp_region_lit ?_;refine Kn.pure fh1 rfl rfl .none (Kn.ex_move fh1 (.tmp rfl)) fun fa2 fh2 => ?_;clear fh1 fa1;refine Kn.call fh2 rfl rfl .none (Kn.ex_call fh2 (.cons (.tmp rfl) .nil)) Tryz.call51 (hn) fun e w1 hp => ?_;obtain ⟨gt, gm, rfl, htr, hb1⟩ := hp;refine ⟨_, rfl, fun fa3 fh3 => ?_⟩;clear fh2 fa2;refine Kn.call fh3 rfl rfl .none (Kn.ex_call fh3 (.cons (.tmp rfl) .nil)) Tryz.call52 (troot_any bl gt gm w1 hN htr (HT.out.below hb1 HT.out.size)) fun e w2 hp => ?_;obtain ⟨rfl, hb2⟩ := hp;refine ⟨_, rfl, fun fa4 fh4 => ?_⟩;clear fh3 fa3;refine Kn.pure fh4 rfl rfl .none (Kn.ex_assign fh4 (.tmp rfl)) fun fa5 fh5 => ?_;clear fh4 fa4;refine wpList_nil ?_;refine hK2 _ _ ?_;clear hK2 K2;replace fh5 := fh5.cut (.cons (t := 2) rfl .nil);refine wp_ret ?_;exact Kn.ret1 fh5 rfl rfl ⟨rfl, hb1.trans (hb2.mono hb1.size)⟩
end Go.Proofs.YtbahklpdldghbaaGreatDoor.Mrk
end
section
namespace Go.Proofs.YtbahklpdldghbaaGreatDoor.Edg
end Go.Proofs.YtbahklpdldghbaaGreatDoor.Edg
namespace Go.Proofs.YtbahklpdldghbaaGreatDoor.Man
open Go Go.RowKit Go.Lib RowG Edg Csr Shd
theorem blk_small (s : ByteArray) : ∀ b ∈ Blk.cutK s, b.size ≤ 300 := fun b hb => by
  obtain ⟨k, hk, rfl⟩ := List.getElem_of_mem hb;have hk2 : k < Blk.cntK s.size := by rwa [Blk.cutK_len] at hk
  have e := Blk.cutK_at hk2;rw [List.getElem?_eq_getElem hk] at e;injection e with e
  rw [e, Blk.blkK_size hk2];unfold Blk.szK
  split <;> omega
theorem made_of (v : Int) (N E : Nat) (A : Option Addr) (ca : Nat) (xs ys : List (Int × Int)) (w : World) (hv : 1 ≤ v ∧ v ≤ 1099511627776) (hA : EIn w A xs) (hg : Edg.Good (N : Int) xs) (hn : NormOf xs ys) (hN : N ≤ 300) (hx : xs.length ≤ 200) (hE : 1 ≤ E) (hE2 : E ≤ 9223372036854775807) (hc : cutM N E ≤ 64) (hT : Sha.Tabs w) :
    Made (N : Int) (E : Int) (.slice A xs.length ca) ys.length (manF v N E ys).sh (partsF ys N E (cutM N E)) (Blk.cutK (allF ys N E)) (manF v N E ys).r w := by
  have hyg := hn.good hg;have hyl : ys.length ≤ 200 := by have := hn.len; omega
  have hG := man_good (v := v) hv.1 hv.2 hN hyl hE hc;have hpl : (partsF ys N E (cutM N E)).length = cutM N E := partsF_len _ _ _ _;have hsl : (manF v N E ys).sh.length = cutM N E := man_len v N E ys;have hsm : (Blk.catK (partsF ys N E (cutM N E))).size ≤ 12064 := parts_small hN hyl hc;have hbl : (Blk.cutK (allF ys N E)).length = Blk.cntK (allF ys N E).size := Blk.cutK_len _
  have hbl2 : (Blk.cutK (allF ys N E)).length ≤ 200 := by
    rw [hbl];unfold allF Blk.cntK;omega
  refine ⟨?_, fun A' u hb hA' => ?_, by rw [hsl]; exact hc, hG.y, ?_, by omega, fun A' u hb hA' => ?_, fun B d u hb hB h1 h2 => ?_⟩
  · refine (build_yes N A ca xs w hA hg).mono fun e u ⟨g, zs, he, hz, hR, hb⟩ => ⟨⟨g, he, fun u1 h1 => ?_, ?_⟩, hb⟩
    · obtain rfl : ys = zs := hn.unique hz;exact edges_any u1 _ g N ys (hR.on h1)
    · obtain rfl : ys = zs := hn.unique hz;refine (split_m u _ g hR hE hE2 hc).mono fun e u' ⟨A', he, hA', hb', _⟩ => ⟨⟨A', by rw [hpl]; exact he, hA'⟩, hb'⟩
  · rw [hpl, hsl];exact (table_all A' (cutM N E) u hn.srt hyg hE hA').mono fun e u' ⟨gt, he, hH, hb'⟩ => ⟨⟨some ⟨gt, 0, none⟩, cutM N E, he, hH.rin, Nat.le_refl _, by unfold maxLen; omega⟩, hb'⟩
  · have h := hG.b;unfold blkI tot at h;rw [← h, hbl]
    rfl
  · have h := Blk.cut_full A' (partsF ys N E (cutM N E)).length (partsF ys N E (cutM N E)) u (by omega) (Nat.le_refl _) (by omega) hA';exact h.mono fun e u' ⟨g, he, hg', hI, hb'⟩ => ⟨⟨g, _, he.trans (by rw [hbl]; rfl), hg', hI, by rw [hbl]; exact Nat.le_refl _, by unfold maxLen; unfold Blk.cntK; omega⟩, hb'⟩
  · exact Mrk.root_any (Blk.cutK (allF ys N E)) B d u (by omega) (blk_small _) h1 h2 hB (hT.below hb hT.size)
theorem make_yes (v : Int) (N E : Nat) (A : Option Addr) (ca : Nat) (xs ys : List (Int × Int)) (w : World) (hv : 1 ≤ v ∧ v ≤ 1099511627776) (hA : EIn w A xs) (hg : Edg.Good (N : Int) xs) (hn : NormOf xs ys) (hN : N ≤ 300) (hx : xs.length ≤ 200) (hE : 1 ≤ E) (hE2 : E ≤ 9223372036854775807) (hc : cutM N E ≤ 64) (hT : Sha.Tabs w) :
    Calls Tryz.prog 18 #[.int .i64 v, .int .i64 (N : Int), .int .i64 (E : Int), .slice A xs.length ca] w fun e w' => (∃ g A c B d, e = .returned (.tuple #[.pointer (some ⟨g, 0, none⟩), .nilIface]) ∧ VAt (manF v N E ys) (Blk.cutK (allF ys N E)) A c B d g w') ∧ Below w.heap.size w w' := by
  have h := make_made v (N : Int) (E : Int) (.slice A xs.length ca) ys.length _ _ _ _ w hv (made_of v N E A ca xs ys w hv hA hg hn hN hx hE hE2 hc hT)
  have e : (⟨v, (N : Int), (ys.length : Int), (manF v N E ys).sh, ((Blk.cutK (allF ys N E)).length : Int), (manF v N E ys).r⟩ : MF) = manF v N E ys := by
    rw [Blk.cutK_len]
    rfl
  rw [e] at h;exact h
end Go.Proofs.YtbahklpdldghbaaGreatDoor.Man
end
section
namespace Go.Proofs.YtbahklpdldghbaaGreatDoor.Man
open Go Go.RowKit Go.Lib RowG Edg Csr Shd
theorem make_zero (w : World) (hT : Sha.Tabs w) : Calls Tryz.prog 18 #[.int .i64 1, .int .i64 0, .int .i64 8, .slice none 0 0] w fun e w' => (∃ m bl g A c B d, e = .returned (.tuple #[.pointer (some ⟨g, 0, none⟩), .nilIface]) ∧ VAt m bl A c B d g w' ∧ Good m ∧ m.v = 1 ∧ m.sh.length = 0 ∧ bl.length = 0) ∧ Below w.heap.size w w' := by
  have h0 : cutM 0 8 = 0 := cutM_0 (by decide);have h := make_yes 1 0 8 none 0 [] [] w (by decide) (EIn.nil _ _) ⟨by decide, by decide, by decide, fun e h => by cases h⟩ ⟨List.Pairwise.nil, fun e => Iff.rfl⟩ (by decide) (by decide) (by decide) (by decide) (by rw [h0]; decide) hT;refine h.mono fun e w' ⟨⟨g, A, c, B, d, he, hV⟩, hb⟩ => ⟨⟨_, _, g, A, c, B, d, he, hV, man_good (by decide) (by decide) (by decide) (by decide) (by decide) (by rw [h0]; decide), rfl, by rw [man_len, h0], ?_⟩, hb⟩;rw [Blk.cutK_len];unfold allF;rw [h0]
  rfl
set_option maxRecDepth 100000 in
set_option maxHeartbeats 1000000 in
theorem awake10 (w : World) (hT : Sha.Tabs w) :
    Calls Tryz.prog 6 #[] w fun e w' => e = .returned (.bool true) ∧ Below w.heap.size w w' := by
  refine Kn.calls Tryz.func6 rfl Tryz.ntmps6 rfl .nil fun fa0 fh0 => ?_;refine wp_seq_k fun K1 hK1 => ?_;refine wp_region_lit ?_;refine Kn.pure fh0 rfl rfl .none (Kn.ex_assign fh0 .const) fun fa1 fh1 => ?_;clear fh0 fa0;refine wpList_nil ?_;refine hK1 _ _ ?_;clear hK1 K1;have hmk := make_zero w hT;refine wp_seq_k fun K2 hK2 => ?_;refine wp_region_lit ?_;refine Kn.call fh1 rfl rfl .none (Kn.ex_call fh1 (.cons .const (.cons .const (.cons .const (.cons .const .nil))))) Tryz.call18 (hmk) fun e u1 hp => ?_;obtain ⟨⟨m, bl, g, A, c, B, d, rfl, hV, hG, hv, hs, hl⟩, hb1⟩ := hp;refine ⟨_, rfl, fun fa2 fh2 => ?_⟩;clear fh1 fa1;refine Kn.pure fh2 rfl rfl .none (Kn.ex_move fh2 (.tmp rfl)) fun fa3 fh3 => ?_;clear fh2 fa2;refine Kn.pure fh3 rfl rfl .none (Kn.ex_extract fh3 (.tmp rfl) rfl) fun fa4 fh4 => ?_;clear fh3 fa3;refine Kn.pure fh4 rfl rfl .none (Kn.ex_extract fh4 (.tmp rfl) rfl) fun fa5 fh5 => ?_;clear fh4 fa4;refine Kn.pure fh5 rfl rfl .none (Kn.ex_assign fh5 (.tmp rfl)) fun fa6 fh6 => ?_;clear fh5 fa5;refine Kn.pure fh6 rfl rfl .none (Kn.ex_assign fh6 (.tmp rfl)) fun fa7 fh7 => ?_;clear fh6 fa6;refine wpList_nil ?_;refine hK2 _ _ ?_;clear hK2 K2;replace fh7 := fh7.cut (.cons (t := 2) rfl (.cons (t := 1) rfl (.cons (t := 0) rfl .nil)));have hld := ld_M hV.stc;have hck := check_v m A c u1 hV.mi (by rw [hG.r]; decide);rw [chkV_good hG] at hck;have k0 := hV.stc.cell 0 rfl;have k3 := hV.stc.cell 3 rfl;have k6 := hV.stc.cell 6 rfl;rw [hv] at k0;rw [hs] at k3;rw [hl] at k6;have HB := Lib.hid hb1;clear hmk hV hb1 hv hs hl hT;refine wp_seq_k fun K3 hK3 => ?_;refine wp_region_lit ?_;refine Kn.pure fh7 rfl rfl .none (Kn.ex_move fh7 (.tmp rfl)) fun fa8 fh8 => ?_;clear fh7 fa7;refine Kn.step fh8 rfl rfl .none (Kn.ex_bin fh8 (.tmp rfl) .const) fun Ko hKo => ?_;go_simp;(try go_bits);refine hKo _ _ fun fa9 fh9 => ?_;clear hKo Ko fh8 fa8;refine Kn.pure fh9 rfl rfl .none (Kn.ex_move fh9 (.tmp rfl)) fun fa10 fh10 => ?_;clear fh9 fa9;refine Kn.pure fh10 rfl rfl (.some rfl rfl rfl) (Kn.ex_move fh10 (.tmp rfl)) fun fa11 fh11 => ?_;clear fh10 fa10;refine Kn.step fh11 rfl rfl (.some rfl rfl rfl) (Kn.ex_bin fh11 (.tmp rfl) .const) fun Ko hKo => ?_;go_simp;(try go_bits);refine hKo _ _ fun fa12 fh12 => ?_;clear hKo Ko fh11 fa11;refine Kn.pure fh12 rfl rfl .none (Kn.ex_pick fh12 (.tmp rfl) (.tmp rfl)) fun fa13 fh13 => ?_;clear fh12 fa12;refine Kn.pure fh13 rfl rfl .none (Kn.ex_move fh13 (.tmp rfl)) fun fa14 fh14 => ?_;clear fh13 fa13;refine Kn.pure fh14 rfl rfl (.some rfl rfl rfl) (Kn.ex_move fh14 (.tmp rfl)) fun fa15 fh15 => ?_;clear fh14 fa14;refine Kn.pure fh15 rfl rfl (.some rfl rfl rfl) (Kn.ex_nilCheck fh15 (.tmp rfl)) fun fa16 fh16 => ?_;clear fh15 fa15;refine Kn.step fh16 rfl rfl (.some rfl rfl rfl) (Kn.ex_fieldAddr fh16 (.tmp rfl)) fun Ko hKo => ?_;go_simp;(try go_bits);refine hKo _ _ fun fa17 fh17 => ?_;clear hKo Ko fh16 fa16;refine Kn.step fh17 rfl rfl (.some rfl rfl rfl) (Kn.ex_fieldAddr fh17 (.tmp rfl)) fun Ko hKo => ?_;go_simp;(try go_bits);refine hKo _ _ fun fa18 fh18 => ?_;clear hKo Ko fh17 fa17;refine Kn.step fh18 rfl rfl (.some rfl rfl rfl) (Kn.ex_load fh18 (.tmp rfl)) fun Ko hKo => ?_;go_simp;(try go_bits);refine hKo _ _ fun fa19 fh19 => ?_;clear hKo Ko fh18 fa18;refine Kn.step fh19 rfl rfl (.some rfl rfl rfl) (Kn.ex_bin fh19 (.tmp rfl) .const) fun Ko hKo => ?_;go_simp;(try go_bits);refine hKo _ _ fun fa20 fh20 => ?_;clear hKo Ko fh19 fa19;refine Kn.pure fh20 rfl rfl .none (Kn.ex_pick fh20 (.tmp rfl) (.tmp rfl)) fun fa21 fh21 => ?_;clear fh20 fa20;refine Kn.pure fh21 rfl rfl .none (Kn.ex_move fh21 (.tmp rfl)) fun fa22 fh22 => ?_;clear fh21 fa21;refine Kn.pure fh22 rfl rfl (.some rfl rfl rfl) (Kn.ex_move fh22 (.tmp rfl)) fun fa23 fh23 => ?_;clear fh22 fa22;refine Kn.pure fh23 rfl rfl (.some rfl rfl rfl) (Kn.ex_nilCheck fh23 (.tmp rfl)) fun fa24 fh24 => ?_;clear fh23 fa23;refine Kn.step fh24 rfl rfl (.some rfl rfl rfl) (Kn.ex_fieldAddr fh24 (.tmp rfl)) fun Ko hKo => ?_;go_simp;(try go_bits);refine hKo _ _ fun fa25 fh25 => ?_;clear hKo Ko fh24 fa24;refine Kn.step fh25 rfl rfl (.some rfl rfl rfl) (Kn.ex_load fh25 (.tmp rfl)) fun Ko hKo => ?_;go_simp;(try go_bits);refine hKo _ _ fun fa26 fh26 => ?_;clear hKo Ko fh25 fa25;refine Kn.step fh26 rfl rfl (.some rfl rfl rfl) (Kn.ex_len fh26 (.tmp rfl)) fun Ko hKo => ?_;go_simp;(try go_bits);refine hKo _ _ fun fa27 fh27 => ?_;clear hKo Ko fh26 fa26;refine Kn.step fh27 rfl rfl (.some rfl rfl rfl) (Kn.ex_bin fh27 (.tmp rfl) .const) fun Ko hKo => ?_;go_simp;(try go_bits);refine hKo _ _ fun fa28 fh28 => ?_;clear hKo Ko fh27 fa27;refine Kn.pure fh28 rfl rfl .none (Kn.ex_pick fh28 (.tmp rfl) (.tmp rfl)) fun fa29 fh29 => ?_;clear fh28 fa28;refine Kn.pure fh29 rfl rfl .none (Kn.ex_move fh29 (.tmp rfl)) fun fa30 fh30 => ?_;clear fh29 fa29;refine Kn.pure fh30 rfl rfl (.some rfl rfl rfl) (Kn.ex_move fh30 (.tmp rfl)) fun fa31 fh31 => ?_;clear fh30 fa30;refine Kn.pure fh31 rfl rfl (.some rfl rfl rfl) (Kn.ex_nilCheck fh31 (.tmp rfl)) fun fa32 fh32 => ?_;clear fh31 fa31;refine Kn.step fh32 rfl rfl (.some rfl rfl rfl) (Kn.ex_fieldAddr fh32 (.tmp rfl)) fun Ko hKo => ?_;go_simp;(try go_bits);refine hKo _ _ fun fa33 fh33 => ?_;clear hKo Ko fh32 fa32;refine Kn.step fh33 rfl rfl (.some rfl rfl rfl) (Kn.ex_fieldAddr fh33 (.tmp rfl)) fun Ko hKo => ?_;go_simp;(try go_bits);refine hKo _ _ fun fa34 fh34 => ?_;clear hKo Ko fh33 fa33;refine Kn.step fh34 rfl rfl (.some rfl rfl rfl) (Kn.ex_load fh34 (.tmp rfl)) fun Ko hKo => ?_;go_simp;(try go_bits);refine hKo _ _ fun fa35 fh35 => ?_;clear hKo Ko fh34 fa34;refine Kn.step fh35 rfl rfl (.some rfl rfl rfl) (Kn.ex_len fh35 (.tmp rfl)) fun Ko hKo => ?_;go_simp;(try go_bits);refine hKo _ _ fun fa36 fh36 => ?_;clear hKo Ko fh35 fa35;refine Kn.step fh36 rfl rfl (.some rfl rfl rfl) (Kn.ex_bin fh36 (.tmp rfl) .const) fun Ko hKo => ?_;go_simp;(try go_bits);refine hKo _ _ fun fa37 fh37 => ?_;clear hKo Ko fh36 fa36;refine Kn.pure fh37 rfl rfl .none (Kn.ex_pick fh37 (.tmp rfl) (.tmp rfl)) fun fa38 fh38 => ?_;clear fh37 fa37;refine Kn.pure fh38 rfl rfl .none (Kn.ex_move fh38 (.tmp rfl)) fun fa39 fh39 => ?_
  clear fh38 fa38;refine Kn.pure fh39 rfl rfl (.some rfl rfl rfl) (Kn.ex_move fh39 (.tmp rfl)) fun fa40 fh40 => ?_;clear fh39 fa39;refine Kn.pure fh40 rfl rfl (.some rfl rfl rfl) (Kn.ex_nilCheck fh40 (.tmp rfl)) fun fa41 fh41 => ?_;clear fh40 fa40;refine Kn.step fh41 rfl rfl (.some rfl rfl rfl) (Kn.ex_fieldAddr fh41 (.tmp rfl)) fun Ko hKo => ?_;go_simp;(try go_bits);refine hKo _ _ fun fa42 fh42 => ?_;clear hKo Ko fh41 fa41;refine Kn.known fh42 rfl rfl (.some rfl rfl rfl) (Kn.ex_load fh42 (.tmp rfl)) hld fun fa43 fh43 => ?_;clear fh42 fa42;refine Kn.call fh43 rfl rfl (.some rfl rfl rfl) (Kn.ex_call fh43 (.cons (.tmp rfl) .nil)) Tryz.call15 (hck) fun e u2 hp => ?_;obtain ⟨rfl, hb2⟩ := hp;refine ⟨_, rfl, fun fa44 fh44 => ?_⟩;clear fh43 fa43;refine Kn.step fh44 rfl rfl (.some rfl rfl rfl) (Kn.ex_bin fh44 (.tmp rfl) .const) fun Ko hKo => ?_;go_simp;(try go_bits);refine hKo _ _ fun fa45 fh45 => ?_;clear hKo Ko fh44 fa44;refine Kn.pure fh45 rfl rfl .none (Kn.ex_pick fh45 (.tmp rfl) (.tmp rfl)) fun fa46 fh46 => ?_;clear fh45 fa45;refine Kn.pure fh46 rfl rfl .none (Kn.ex_assign fh46 (.tmp rfl)) fun fa47 fh47 => ?_;clear fh46 fa46;refine wpList_nil ?_;refine hK3 _ _ ?_;clear hK3 K3;replace fh47 := fh47.cut (.cons (t := 0) rfl .nil);refine wp_ret ?_;exact Kn.ret1 fh47 rfl rfl ⟨rfl, HB.out.trans (hb2.mono HB.out.size)⟩
end Go.Proofs.YtbahklpdldghbaaGreatDoor.Man
end
section
namespace Go.Proofs.YtbahklpdldghbaaGreatDoor.Man
open Go Go.RowKit Go.Lib RowG
theorem code10 {HT : World → Prop} (hon : ∀ u v, HT u → Below u.heap.size u v → HT v) (hT : ∀ u, HT u → Sha.Tabs u) : Code10 HT where
  hon := hon
  awake := fun u h => awake10 u (hT u h)
  check := fun m A c u hF hM _ => (check_v m A c u hM hF.r).mono fun e v ⟨he, hb⟩ => ⟨⟨_, he, fun g => chkV_good g, fun g => by obtain ⟨k, _, hk⟩ := chkV_not g; exact ⟨_, _, hk⟩⟩, hb⟩
  put := fun m A c u hF hM _ => by
    by_cases g : Good m
    · exact (put_good m A c u g hM hF.r).mono fun e v ⟨⟨s, he, hs⟩, hb⟩ => ⟨⟨s, _, he, fun _ => ⟨rfl, hs⟩, fun q => absurd g q⟩, hb⟩
    · exact (put_not m A c u g hM hF.r).mono fun e v ⟨⟨t, y, he⟩, hb⟩ => ⟨⟨_, _, he, fun q => absurd q g, fun _ => ⟨t, y, rfl⟩⟩, hb⟩
  same := fun a b A B c d u hA hB _ => sameM_any a b A B c d u hA hB
  total := fun m A c u hG hM _ => totalC_any m A c u hM hG.y
  whereIn := fun m A c k u hG hM hk _ => where_in m A c k u hG hM hk
end Go.Proofs.YtbahklpdldghbaaGreatDoor.Man
end
section
namespace Go.Proofs.YtbahklpdldghbaaGreatDoor.Oct
open Go.RowKit Go.Lib
theorem short_told (s : ByteArray) (p : Int) (w : World) (x b : Int) (e : Value) (hs : s.size ≤ maxLen) (h0 : 0 ≤ p) (h1 : p ≤ s.size) (hx : shX s p = x) (hb : shN s p = b) (he : shE s p = e) :
    Calls Tryz.prog 53 #[.string s, .int .i64 p] w fun r w' => r = .returned (.tuple #[.int .i64 x, .int .i64 b, e]) ∧ w = w' := by
  subst hx hb he; exact short_parts s p w hs h0 h1
set_option maxRecDepth 100000 in
set_option maxHeartbeats 1000000 in
theorem text_ok (s : ByteArray) (p most : Int) (w : World) (x b : Nat) (hs : s.size ≤ 281474976710656) (h0 : 0 ≤ p) (h1 : p ≤ s.size) (hx : shX s p = (x : Int)) (hb : shN s p = (b : Int)) (he : shE s p = .nilIface) (hm : (x : Int) ≤ most) (hl : b + x ≤ s.size) :
    Calls Tryz.prog 35 #[.string s, .int .i64 p, .int .i64 most] w fun e w' => e = .returned (.tuple #[.string (s.extract b (b + x)), .int .i64 ((b : Int) + (x : Int)), .nilIface]) ∧ Below w.heap.size w w' := by
  have HS := Lib.hid (show s.size ≤ maxLen by unfold maxLen; omega);have HX := Lib.hid hx;have HB := Lib.hid hb;have HE := Lib.hid he;have HZ := Lib.hid hs;have hs2 : (s.size : Int) ≤ 281474976710656 := by omega
  have hz : (s.extract b (b + x)).size ≤ 281474976710656 := by simp [ByteArray.size_extract]; omega
  have HZ2 := Lib.hid hz;clear hx hb he hs hz
  go_enter Tryz.func35, Tryz.ntmps35
  go_wp2_with (first | (go_at_call 53; refine (short_told _ _ _ _ _ _ HS.out h0 h1 HX.out HB.out HE.out).mono ?_; rintro e w' ⟨rfl, rfl⟩) | (go_at_call 49; refine (clone_any _ _ HZ2.out).mono ?_; rintro e w' ⟨rfl, hbw⟩))
  go_ret3
  exact ⟨rfl, by assumption⟩
set_option maxRecDepth 100000 in
set_option maxHeartbeats 1000000 in
theorem text_few (s : ByteArray) (p most : Int) (w : World) (x b : Nat) (hs : s.size ≤ maxLen) (h0 : 0 ≤ p) (h1 : p ≤ s.size) (hx : shX s p = (x : Int)) (hb : shN s p = (b : Int)) (he : shE s p = .nilIface) (hm : (x : Int) ≤ most) (hbl : b ≤ s.size) (hl : s.size < b + x) :
    Calls Tryz.prog 35 #[.string s, .int .i64 p, .int .i64 most] w fun e w' => e = .returned (.tuple #[.string ⟨#[]⟩, .int .i64 p, faultV s.size 3]) ∧ w = w' := by
  have HS := Lib.hid hs;have HX := Lib.hid hx;have HB := Lib.hid hb;have HE := Lib.hid he;unfold maxLen at hs;clear hx hb he
  go_enter Tryz.func35, Tryz.ntmps35
  go_wp2_with (first | (go_at_call 53; refine (short_told _ _ _ _ _ _ HS.out h0 h1 HX.out HB.out HE.out).mono ?_; rintro e w' ⟨rfl, rfl⟩) | (go_at_call 54; refine (fault_any _ _ _).mono ?_; rintro e w' ⟨rfl, rfl⟩))
  go_ret3
  exact ⟨rfl, rfl⟩
set_option maxRecDepth 100000 in
set_option maxHeartbeats 1000000 in
theorem text_err (s : ByteArray) (p most q c : Int) (w : World) (hs : s.size ≤ maxLen) (h0 : 0 ≤ p) (h1 : p ≤ s.size) (he : shE s p = faultV q c) :
    Calls Tryz.prog 35 #[.string s, .int .i64 p, .int .i64 most] w fun e w' => e = .returned (.tuple #[.string ⟨#[]⟩, .int .i64 p, faultV q c]) ∧ w = w' := by
  have HS := Lib.hid hs;have HE := Lib.hid he;clear he hs;unfold faultV at HE
  go_enter Tryz.func35, Tryz.ntmps35
  go_wp2_with (first | (go_at_call 53; refine (short_told _ _ _ _ _ _ HS.out h0 h1 rfl rfl HE.out).mono ?_; rintro e w' ⟨rfl, rfl⟩))
  go_ret3
  exact ⟨rfl, rfl⟩
end Go.Proofs.YtbahklpdldghbaaGreatDoor.Oct
end
section
namespace Go.Proofs.YtbahklpdldghbaaGreatDoor.Man
open Go Go.RowKit Go.Lib RowG Oct Gap
def posN (s : ByteArray) (a : Int) : Nat → Int
  | 0 => a
  | k + 1 => (rdG s (posN s a k)).2.1
def valN (s : ByteArray) (a : Int) (k : Nat) : Int := (rdG s (posN s a k)).1
def errN (s : ByteArray) (a : Int) (k : Nat) : Int := (rdG s (posN s a k)).2.2.1
def okN (s : ByteArray) (a : Int) : Nat → Nat
  | 0 => 0
  | n + 1 => if okN s a n = n ∧ errN s a n = 0 then n + 1 else okN s a n
theorem okN_le (s : ByteArray) (a : Int) : ∀ n, okN s a n ≤ n
  | 0 => Nat.le_refl _
  | n + 1 => by
    rw [okN];have := okN_le s a n
    split <;> omega
theorem okN_all {s : ByteArray} {a : Int} : ∀ {n}, (∀ i, i < n → errN s a i = 0) → okN s a n = n
  | 0, _ => rfl
  | n + 1, h => by rw [okN, if_pos ⟨okN_all fun i hi => h i (by omega), h n (by omega)⟩]
theorem okN_fail {s : ByteArray} {a : Int} {j : Nat} (h1 : ∀ i, i < j → errN s a i = 0) (h2 : errN s a j ≠ 0) : ∀ n, j < n → okN s a n = j
  | 0, h => by omega
  | n + 1, h => by
    by_cases e : j = n
    · subst e;rw [okN, if_neg (fun q => h2 q.2), okN_all h1]
    · have ih := okN_fail h1 h2 n (by omega);rw [okN, if_neg (fun q => by omega), ih]
theorem okN_spec {s : ByteArray} {a : Int} : ∀ n, (∀ i, i < okN s a n → errN s a i = 0) ∧ (okN s a n < n → errN s a (okN s a n) ≠ 0)
  | 0 => ⟨fun i hi => absurd hi (Nat.not_lt_zero _), fun h => absurd h (Nat.lt_irrefl _)⟩
  | n + 1 => by
    have ih := okN_spec (s := s) (a := a) n;have hl := okN_le s a n;rw [okN]
    split
    · rename_i h;refine ⟨fun i hi => ?_, fun q => absurd q (Nat.lt_irrefl _)⟩
      by_cases e : i = n
      · subst e; exact h.2
      · exact ih.1 i (by omega)
    · rename_i h;refine ⟨ih.1, fun _ => ?_⟩;rcases Nat.lt_or_ge (okN s a n) n with q | q
      · exact ih.2 q
      · have e : okN s a n = n := by omega
        rw [e];exact fun h0 => h ⟨e, h0⟩
def rdX (s : ByteArray) (a : Int) (n : Nat) : Value := if okN s a n = n then .nilIface else gE (errN s a (okN s a n)) (rdG s (posN s a (okN s a n))).2.2.2
theorem rdG_eta (s : ByteArray) (p : Int) : rdG s p = ((rdG s p).1, (rdG s p).2.1, (rdG s p).2.2.1, (rdG s p).2.2.2) := rfl
theorem rdG_ok0 {s : ByteArray} {p : Int} (h : (rdG s p).2.2.1 = 0) : (0 ≤ (rdG s p).1 ∧ (rdG s p).1 ≤ 72057594037927935) ∧ 0 ≤ p ∧ p < (rdG s p).2.1 ∧ (rdG s p).2.1 ≤ s.size ∧ s.data.toList.take (rdG s p).2.1.toNat = s.data.toList.take p.toNat ++ short (rdG s p).1.toNat := by
  have e : rdG s p = ((rdG s p).1, (rdG s p).2.1, 0, (rdG s p).2.2.2) := by conv => lhs; rw [rdG_eta, h]
  obtain ⟨h1, h2, h3, h4, -, h6, h7, h8⟩ := rdG_ok e;refine ⟨h1, h2, h3, h4, ?_⟩;have hs := (short_of_rd _ h6).1;rw [h7, h8];obtain ⟨q, rfl⟩ := Int.eq_ofNat_of_zero_le h2;rw [Int.toNat_natCast] at hs ⊢;rw [Int.toNat_natCast, hs, show ((q : Int) + ((rd (s.data.toList.drop q)).2.1 : Int)).toNat = q + (rd (s.data.toList.drop q)).2.1 by omega, List.take_add]
theorem rdG_no {s : ByteArray} {p : Int} (h0 : 0 ≤ p) (h1 : p ≤ s.size) (h : (rdG s p).2.2.1 ≠ 0) : ∃ q c, gE (rdG s p).2.2.1 (rdG s p).2.2.2 = flV q c ∧ (c = 4 ∨ c = 3) ∧ 0 ≤ q := by
  unfold rdG at h ⊢;rw [if_neg (by omega)] at h ⊢
  split at h
  · exact absurd rfl h
  · rename_i h2;rw [if_neg h2]
    split
    · exact ⟨_, _, gE_e (by show (3 : Int) ≠ 0; omega), .inr rfl, Int.natCast_nonneg _⟩
    · exact ⟨_, _, gE_e (by show (4 : Int) ≠ 0; omega), .inl rfl, h0⟩
def wrN (s : ByteArray) (a : Int) : Nat → List UInt8
  | 0 => []
  | k + 1 => wrN s a k ++ short (valN s a k).toNat
theorem take_pos {s : ByteArray} {a : Int} (h0 : 0 ≤ a) (h1 : a ≤ s.size) : ∀ k, (∀ i, i < k → errN s a i = 0) → (0 ≤ posN s a k ∧ posN s a k ≤ s.size) ∧ s.data.toList.take (posN s a k).toNat = s.data.toList.take a.toNat ++ wrN s a k ∧ ∀ i, i < k → 0 ≤ valN s a i ∧ valN s a i ≤ 72057594037927935
  | 0, _ => ⟨⟨h0, h1⟩, by simp [posN, wrN], fun i hi => absurd hi (Nat.not_lt_zero _)⟩
  | k + 1, h => by
    obtain ⟨⟨i1, i2⟩, i3, i4⟩ := take_pos h0 h1 k fun i hi => h i (by omega);obtain ⟨g1, g2, g3, g4, g5⟩ := rdG_ok0 (h k (by omega));refine ⟨⟨by show 0 ≤ (rdG s (posN s a k)).2.1; omega, g4⟩, ?_, fun i hi => ?_⟩
    · show s.data.toList.take (rdG s (posN s a k)).2.1.toNat = _;rw [g5, i3, wrN, List.append_assoc]
      rfl
    · by_cases e : i = k
      · subst e; exact g1
      · exact i4 i (by omega)
theorem rdX_no {s : ByteArray} {a : Int} {n : Nat} (h0 : 0 ≤ a) (h1 : a ≤ s.size) (h : okN s a n < n) : ∃ q c, rdX s a n = flV q c ∧ (c = 4 ∨ c = 3) ∧ 0 ≤ q := by
  obtain ⟨g1, g2⟩ := okN_spec (s := s) (a := a) n;have hp := (take_pos h0 h1 _ g1).1;unfold rdX;rw [if_neg (by omega)];exact rdG_no hp.1 hp.2 (g2 h)
theorem rdX_yes {s : ByteArray} {a : Int} {n : Nat} (h : okN s a n = n) : rdX s a n = .nilIface := if_pos h
theorem ext_data (s : ByteArray) (a b : Nat) : (s.extract a b).data.toList = (s.data.toList.drop a).take (b - a) := by
  rw [ByteArray.data_extract, Array.toList_extract, List.extract_eq_take_drop]
theorem text_u (s : ByteArray) (p : Int) (w : World) (hs : s.size ≤ 400) (h0 : 0 ≤ p) (h1 : p ≤ s.size) :
    Calls Tryz.prog 35 #[.string s, .int .i64 p, .int .i64 72057594037927935] w fun e w' => (∃ r q x, e = .returned (.tuple #[.string r, .int .i64 q, x]) ∧ ((x = .nilIface ∧ 0 ≤ q ∧ q ≤ s.size ∧ s.data.toList.take q.toNat = s.data.toList.take p.toNat ++ (short r.size ++ r.data.toList) ∧ r.size ≤ 400) ∨ ∃ a c, x = flV a c ∧ (c = 4 ∨ c = 3) ∧ 0 ≤ a)) ∧ Below w.heap.size w w' := by
  obtain ⟨P, rfl⟩ := Int.eq_ofNat_of_zero_le h0;have hml : s.size ≤ maxLen := by unfold maxLen; omega
  rcases rd_code (s.data.toList.drop P) with h | h | h
  · obtain ⟨g1, g2, g3, g4, g5⟩ := short_of_rd _ h;obtain ⟨x, hx⟩ : ∃ x, (rd (s.data.toList.drop P)).1 = x := ⟨_, rfl⟩;obtain ⟨y, hy⟩ : ∃ y, (rd (s.data.toList.drop P)).2.1 = y := ⟨_, rfl⟩;have hl : (s.data.toList.drop P).length = s.size - P := by rw [List.length_drop]; rfl
    rw [hl, hy] at g3;rw [hx, hy] at g1;rw [hx] at g2;have e1 : shX s (P : Int) = (x : Int) := by unfold shX; rw [Int.toNat_natCast, hx]
    have e2 : shN s (P : Int) = ((P + y : Nat) : Int) := by unfold shN; rw [Int.toNat_natCast, hy]; omega
    have e3 : shE s (P : Int) = .nilIface := by unfold shE rdErr; rw [Int.toNat_natCast, h]; rfl
    by_cases hf : P + y + x ≤ s.size
    · refine (text_ok s P 72057594037927935 w x (P + y) (by omega) h0 h1 e1 e2 e3 (by omega) hf).mono fun e w' ⟨he, hb⟩ => ⟨⟨_, _, _, he, .inl ⟨rfl, by omega, by omega, ?_, ?_⟩⟩, hb⟩
      · have hz : (s.extract (P + y) (P + y + x)).size = x := by rw [ByteArray.size_extract]; omega
        rw [hz, ext_data, show (((P + y : Nat) : Int) + (x : Int)).toNat = P + y + x by omega, Int.toNat_natCast, g1, show P + y + x - (P + y) = x by omega, List.take_add, List.take_add, List.append_assoc]
      · have hz : (s.extract (P + y) (P + y + x)).size = x := by rw [ByteArray.size_extract]; omega
        omega
    · refine (text_few s P 72057594037927935 w x (P + y) hml h0 h1 e1 e2 e3 (by omega) (by omega) (by omega)).mono fun e w' ⟨he, hw⟩ => ?_;subst hw;exact ⟨⟨_, _, _, he, .inr ⟨s.size, 3, rfl, .inr rfl, by omega⟩⟩, Below.refl _ _⟩
  · have e3 : shE s (P : Int) = faultV s.size 3 := by unfold shE rdErr; rw [Int.toNat_natCast, h]; rfl
    refine (text_err s P 72057594037927935 s.size 3 w hml h0 h1 e3).mono fun e w' ⟨he, hw⟩ => ?_;subst hw;exact ⟨⟨_, _, _, he, .inr ⟨s.size, 3, rfl, .inr rfl, by omega⟩⟩, Below.refl _ _⟩
  · have e3 : shE s (P : Int) = faultV P 4 := by unfold shE rdErr; rw [Int.toNat_natCast, h]; rfl
    refine (text_err s P 72057594037927935 P 4 w hml h0 h1 e3).mono fun e w' ⟨he, hw⟩ => ?_;subst hw;exact ⟨⟨_, _, _, he, .inr ⟨P, 4, rfl, .inl rfl, by omega⟩⟩, Below.refl _ _⟩
def posP (s : ByteArray) (a : Int) : Nat → Int
  | 0 => a
  | k + 1 => posN s (posP s a k) 2
def pairP (s : ByteArray) (a : Int) (k : Nat) : Int × Int := (valN s (posP s a k) 0, valN s (posP s a k) 1)
def pairs (s : ByteArray) (a : Int) (k : Nat) : List (Int × Int) := (List.range k).map (pairP s a)
theorem pairs_len (s : ByteArray) (a : Int) (k : Nat) : (pairs s a k).length = k := by simp [pairs]
theorem pairs_at {s : ByteArray} {a : Int} {k i : Nat} (h : i < k) : (pairs s a k)[i]? = some (pairP s a i) := by simp [pairs, h]
theorem pairs_succ (s : ByteArray) (a : Int) (k : Nat) : pairs s a (k + 1) = pairs s a k ++ [pairP s a k] := by simp [pairs, List.range_succ]
theorem shB_app1 (l : List (Int × Int)) (p : Int × Int) : shB (l ++ [p]) = shB l ++ (short p.1.toNat ++ short p.2.toNat) := by simp [shB]
theorem pair_next {s : ByteArray} {a : Int} {k : Nat} (h0 : 0 ≤ posP s a k) (h1 : posP s a k ≤ s.size) (hk : okN s (posP s a k) 2 = 2) :
    (0 ≤ posP s a (k + 1) ∧ posP s a (k + 1) ≤ s.size) ∧ s.data.toList.take (posP s a (k + 1)).toNat = s.data.toList.take (posP s a k).toNat ++ (short (pairP s a k).1.toNat ++ short (pairP s a k).2.toNat) ∧ (0 ≤ (pairP s a k).1 ∧ (pairP s a k).1 ≤ 72057594037927935) ∧ 0 ≤ (pairP s a k).2 ∧ (pairP s a k).2 ≤ 72057594037927935 := by
  have hs := (okN_spec (s := s) (a := posP s a k) 2).1;rw [hk] at hs;obtain ⟨g1, g2, g3⟩ := take_pos h0 h1 2 hs;refine ⟨g1, ?_, g3 0 (by omega), g3 1 (by omega)⟩;show s.data.toList.take (posN s (posP s a k) 2).toNat = _;rw [g2]
  rfl
end Go.Proofs.YtbahklpdldghbaaGreatDoor.Man
end
section
namespace Go.Proofs.YtbahklpdldghbaaGreatDoor.Kn
open Go
section
variable {P : Program} {n : Nat} {l : List (Nat × Value)} {a : Act} {w : World}
theorem results_c3 {fn : Func} {p u x : Tmp} {ty : TypeId} (h : fn.results = #[.cell p ty, .tmp u, .tmp x]) (tmps : Array Value) (P : Program) (w : World) :
    (results fn tmps).run P w = ((asAddr (tmps.getD p undef)).run P w).andThen fun a w₁ => ((loadVar ty a).run P w₁).andThen fun v w₂ => .ok (.tuple #[v, tmps.getD u undef, tmps.getD x undef]) w₂ := by
  simp only [results, h];simp [Sem.run_bind, Result.andThen]
theorem retC3 {fn : Func} {R : Ending → World → Prop} {p u z : Tmp} {ty : TypeId} {A : Addr} {v x y : Value} (h : Kn n l a) (hr : fn.results = #[.cell p ty, .tmp u, .tmp z]) (hp : find l p = some (.pointer (some A))) (hx : find l u = some x) (hy : find l z = some y) (hl : (loadVar ty A).run P w = .ok v w) (H : R (.returned (.tuple #[v, x, y])) w) : bodyPost P fn R .ret a w := by
  have e1 := h.get p _ hp;have e2 := h.get u x hx;have e3 := h.get z y hy;simp only [Act.eval] at e1 e2 e3;refine bodyPost_ret (v := .tuple #[v, x, y]) ?_ h.defers H;rw [results_c3 hr, e1, e2, e3];have ha : (asAddr (.pointer (some A))).run P w = .ok A w := rfl;rw [ha];show ((loadVar ty A).run P w).andThen _ = _;rw [hl]
  rfl
end
end Go.Proofs.YtbahklpdldghbaaGreatDoor.Kn
namespace Go.Proofs.YtbahklpdldghbaaGreatDoor.Man
open Go Go.RowKit Go.Lib RowG Oct Gap
def PRow (b : Nat) (ps : List Addr) (u : World) : Prop := b < u.heap.size ∧ ∀ k p, ps[k]? = some p → u.cell? ⟨b, k, none⟩ = some (.pointer (some p))
theorem PRow.at {b : Nat} {ps : List Addr} {u u' : World} (h : PRow b ps u) (hs : u.heap.size ≤ u'.heap.size) (e : u'.heap[b]? = u.heap[b]?) : PRow b ps u' := ⟨Nat.lt_of_lt_of_le h.1 hs, fun k p hk => by have := h.2 k p hk; simp only [World.cell?] at this ⊢; rw [e]; exact this⟩
theorem PRow.on {b : Nat} {ps : List Addr} {u u' : World} (h : PRow b ps u) (hb : Below u.heap.size u u') : PRow b ps u' := h.at hb.size (hb.block b h.1)
theorem PRow.new {ps : List Addr} (u : World) (T : TypeId) : PRow u.heap.size ps (u.alloc (.cells (ps.map fun p => Value.pointer (some p)).toArray T)) := ⟨by simp, fun k p hk => (St.St.new u T _).cell k (by simp [hk])⟩
set_option maxRecDepth 100000 in
set_option maxHeartbeats 2000000 in
theorem shorts_any (s : ByteArray) (a : Int) (b c : Nat) (ps : List Addr) (J : Nat → World → Prop) (w : World) (hs : s.size ≤ maxLen) (hpl : ps.length ≤ 1000) (hrow : ∀ k u, J k u → PRow b ps u) (h0 : J 0 w) (hput : ∀ k u p, J k u → ps[k]? = some p → ∃ u', (Instr.storeAt 3 (.pointer (some p)) (.int .i64 (valN s a k))).run Tryz.prog u = .ok () u' ∧ J (k + 1) u') :
    Calls Tryz.prog 34 #[.string s, .int .i64 a, .slice (some ⟨b, 0, none⟩) ps.length c] w fun e w' => e = .returned (.tuple #[.int .i64 (posN s a (okN s a ps.length)), rdX s a ps.length]) ∧ J (okN s a ps.length) w' := by
  refine Kn.Z.cl Tryz.func34 rfl Tryz.ntmps34 rfl (.c 0 rfl (.c 1 rfl (.c 2 rfl .n))) ?_;have HR := Lib.hid hrow;have HP := Lib.hid hput;have HJ0 := Lib.hid h0;obtain ⟨n, hn⟩ : ∃ n, ps.length = n := ⟨_, rfl⟩;intro fa fh;rw [hn] at fh;have HN := Lib.hid hn;have hn9 : n ≤ 1000 := by omega
  clear hrow hput h0 hn hpl
  revert fa
  refine Kn.Z.f fun K1 hK1=>?_;refine Kn.Z.u (.a .c (.a .c .n)) ?_;refine Kn.Z.e hK1 ?_;clear hK1 K1;refine Kn.Z.q fun K2 hK2=>?_;refine Kn.Z.f fun K3 hK3=>?_;refine Kn.Z.u (.m (.t rfl) .n) ?_;refine Kn.Z.s .o (.len (.t rfl)) fun Ko Kp=>?_;go_simp;(try go_bits);refine Kp _ _ ?_;clear Kp Ko;refine Kn.Z.u (.m .c .n) ?_;refine Kn.Z.e hK3 ?_;clear hK3 K3;refine Kn.Z.b ?_;intro fb fg;refine Kn.loop (fun m fr v => ∃ (j : Nat), Kn.Kn 36 [(0, .string s), (1, .int .i64 (posN s a j)), (13, .slice (some ⟨b, 0, none⟩) n c), (14, .int .i64 (n : Int)), (15, .int .i64 (j : Int))] fr ∧ Hid (j + m = n ∧ ∀ i, i < j → errN s a i = 0) ∧ Hid (J j v)) n ⟨0, fg.cut (.c 0 rfl (.u 1 rfl rfl (.c 13 rfl (.c 14 rfl (.u 15 rfl (by go_num) .n))))), Lib.hid ⟨by omega, fun i h => absurd h (Nat.not_lt_zero _)⟩, HJ0⟩ ?_;clear fg fb;intro m4 fa v hI Kl4 hKl4;obtain ⟨j, fh, hj, HV⟩ := hI;have hjle : j ≤ n := by have := hj.out.1; omega
  by_cases hlt : j < n
  · have hlti : (j : Int) < (n : Int) := by omega
    obtain ⟨p, hp⟩ : ∃ p, ps[j]? = some p := ⟨ps[j]'(by rw [HN.out]; exact hlt), List.getElem?_eq_getElem _⟩;have cp := (HR.out j v HV.out).2 j p hp;have hsh := short_g s (posN s a j) v hs;obtain ⟨x, hx⟩ : ∃ x, (rdG s (posN s a j)).1 = x := ⟨_, rfl⟩;obtain ⟨y, hy⟩ : ∃ y, (rdG s (posN s a j)).2.1 = y := ⟨_, rfl⟩;obtain ⟨c0, hc0⟩ : ∃ c0, (rdG s (posN s a j)).2.2.1 = c0 := ⟨_, rfl⟩;obtain ⟨q, hq⟩ : ∃ q, (rdG s (posN s a j)).2.2.2 = q := ⟨_, rfl⟩;have hpn : posN s a (j + 1) = y := hy;have HPN := Lib.hid hpn;have hee : errN s a j = c0 := hc0;have HE := Lib.hid hee;have hvv : valN s a j = x := hx;obtain ⟨v2, hst, hJ2⟩ := HP.out j v p HV.out hp;rw [hvv] at hst;have HJ2 := Lib.hid hJ2;have HXQ : Hid (rdX s a n = if okN s a n = n then .nilIface else gE (errN s a (okN s a n)) (rdG s (posN s a (okN s a n))).2.2.2) := Lib.hid rfl;have HQQ := Lib.hid hq;rw [hx, hy, hc0, hq] at hsh;clear hx hy hc0 hq hpn hee hvv hp hJ2
    by_cases he : c0 = 0
    rotate_left
    · rw [gE_e he] at hsh
      revert fa
      refine Kn.Z.f fun K5 hK5=>?_;refine Kn.Z.s .o (.bin (.t rfl) (.t rfl)) fun Ko Kp=>?_;go_simp;(try go_bits);refine Kp _ _ ?_;clear Kp Ko;refine Kn.Z.e hK5 ?_;clear hK5 K5;refine Kn.Z.q fun K6 hK6=>?_;refine Kn.Z.y (.t rfl) ?_;refine Kn.Z.j hK6 ?_;clear hK6 K6;refine Kn.Z.t (.c 0 rfl (.c 1 rfl (.c 13 rfl (.c 14 rfl (.c 15 rfl .n))))) ?_;refine Kn.Z.q fun K7 hK7=>?_;refine Kn.Z.b ?_;refine Kn.Z.f fun K8 hK8=>?_;refine Kn.Z.s .o (.indexAddr (.t rfl) (.t rfl)) fun Ko Kp=>?_;go_simp;(try go_bits);refine Kp _ _ ?_;clear Kp Ko;refine Kn.Z.s .o (.load (.t rfl)) fun Ko Kp=>?_;go_simp;(try go_bits);refine Kp _ _ ?_;clear Kp Ko;refine Kn.Z.u (.a (.t rfl) .n) ?_;refine Kn.Z.e hK8 ?_;clear hK8 K8;refine Kn.Z.f fun K9 hK9=>?_;refine Kn.Z.u (.m (.t rfl) (.m (.t rfl) .n)) ?_;refine Kn.Z.c .o (.call (.c (.t rfl) (.c (.t rfl) .n))) Tryz.call53 (hsh) fun e vx hp=>?_;obtain ⟨rfl, rfl⟩ := hp;refine ⟨_,rfl,?_⟩;refine Kn.Z.u (.m (.t rfl) (.x (.t rfl) rfl (.x (.t rfl) rfl (.x (.t rfl) rfl (.a (.t rfl) (.a (.t rfl) (.a (.t rfl) .n))))))) ?_;refine Kn.Z.e hK9 ?_;clear hK9 K9;refine Kn.Z.q fun K10 hK10=>?_;refine Kn.Z.f fun K11 hK11=>?_;refine Kn.Z.u (.m (.t rfl) .n) ?_;refine Kn.Z.s .o (.bin (.t rfl) .c) fun Ko Kp=>?_;go_simp;(try go_bits);refine Kp _ _ ?_;clear Kp Ko;refine Kn.Z.e hK11 ?_;clear hK11 K11;refine Kn.Z.t (.c 27 rfl (.c 12 rfl (.c 11 rfl (.c 10 rfl (.c 9 rfl (.c 0 rfl (.c 1 rfl (.c 13 rfl (.c 14 rfl (.c 15 rfl .n)))))))))) ?_;refine Kn.Z.y (.t rfl) ?_;refine Kn.Z.f fun K12 hK12=>?_;refine Kn.Z.u (.m (.t rfl) (.m (.t rfl) (.a (.t rfl) (.a (.t rfl) .n)))) ?_;refine Kn.Z.e hK12 ?_;clear hK12 K12;intro fa fh;refine wp_ret ?_;refine Kn.then_ret ?_;refine Kn.block_ret ?_;refine Kn.then_ret ?_;refine Kn.then_ret ?_;refine Kn.block_ret ?_;refine Kn.then_ret ?_;have hk := okN_fail hj.out.2 (by rw [HE.out]; exact he) n hlt;exact Kn.ret2 (v := .int .i64 (posN s a j)) (x := .iface 54 (.agg #[.int .i64 q, .iface 52 (.int .i64 c0)])) fh rfl rfl rfl ⟨by rw [HN.out, hk, HXQ.out, hk, if_neg (by omega), HE.out, HQQ.out, gE_e he], by rw [HN.out, hk]; exact HV.out⟩
    subst he;rw [gE_0] at hsh
    revert fa
    refine Kn.Z.f fun K5 hK5=>?_;refine Kn.Z.s .o (.bin (.t rfl) (.t rfl)) fun Ko Kp=>?_;go_simp;(try go_bits);refine Kp _ _ ?_;clear Kp Ko;refine Kn.Z.e hK5 ?_;clear hK5 K5;refine Kn.Z.q fun K6 hK6=>?_;refine Kn.Z.y (.t rfl) ?_;refine Kn.Z.j hK6 ?_;clear hK6 K6;refine Kn.Z.t (.c 0 rfl (.c 1 rfl (.c 13 rfl (.c 14 rfl (.c 15 rfl .n))))) ?_;refine Kn.Z.q fun K7 hK7=>?_;refine Kn.Z.b ?_;refine Kn.Z.f fun K8 hK8=>?_;refine Kn.Z.s .o (.indexAddr (.t rfl) (.t rfl)) fun Ko Kp=>?_;go_simp;(try go_bits);refine Kp _ _ ?_;clear Kp Ko;refine Kn.Z.s .o (.load (.t rfl)) fun Ko Kp=>?_;go_simp;(try go_bits);refine Kp _ _ ?_;clear Kp Ko;refine Kn.Z.u (.a (.t rfl) .n) ?_;refine Kn.Z.e hK8 ?_;clear hK8 K8;refine Kn.Z.f fun K9 hK9=>?_;refine Kn.Z.u (.m (.t rfl) (.m (.t rfl) .n)) ?_;refine Kn.Z.c .o (.call (.c (.t rfl) (.c (.t rfl) .n))) Tryz.call53 (hsh) fun e vx hp=>?_;obtain ⟨rfl, rfl⟩ := hp;refine ⟨_,rfl,?_⟩;refine Kn.Z.u (.m (.t rfl) (.x (.t rfl) rfl (.x (.t rfl) rfl (.x (.t rfl) rfl (.a (.t rfl) (.a (.t rfl) (.a (.t rfl) .n))))))) ?_;refine Kn.Z.e hK9 ?_;clear hK9 K9;refine Kn.Z.q fun K10 hK10=>?_;refine Kn.Z.f fun K11 hK11=>?_;refine Kn.Z.u (.m (.t rfl) .n) ?_;refine Kn.Z.s .o (.bin (.t rfl) .c) fun Ko Kp=>?_;go_simp;(try go_bits);refine Kp _ _ ?_;clear Kp Ko;refine Kn.Z.e hK11 ?_;clear hK11 K11;refine Kn.Z.t (.c 27 rfl (.c 12 rfl (.c 11 rfl (.c 10 rfl (.c 9 rfl (.c 0 rfl (.c 1 rfl (.c 13 rfl (.c 14 rfl (.c 15 rfl .n)))))))))) ?_;refine Kn.Z.no (.t rfl) ?_;refine Kn.Z.j hK10 ?_;clear hK10 K10;clear hsh cp;refine Kn.Z.r ?_;refine Kn.Z.u (.m (.t rfl) (.m (.t rfl) (.m (.t rfl) (.e .o (fun _ h=>Kn.ex_nilCheck h (.t rfl)) .n)))) ?_;refine Kn.Z.su .o (.store (.t rfl) (.t rfl)) fun Ko Kp=>?_;refine Kn.satU_runA hst ?_;refine Kp _ ?_;clear Kp Ko;refine Kn.Z.u (.a (.t rfl) .n) ?_;intro fb fg;refine wpList_nil ?_;refine Kn.block_normal ?_;refine hK7 _ _ ?_;clear hK7 K7
    revert fb
    refine Kn.Z.t (.c 1 rfl (.c 0 rfl (.c 13 rfl (.c 14 rfl (.c 15 rfl .n))))) ?_;clear hst;refine Kn.Z.r ?_;refine Kn.Z.s .o (.bin (.t rfl) .c) fun Ko Kp=>?_;go_simp;(try go_bits);refine Kp _ _ ?_;clear Kp Ko;refine Kn.Z.u (.m (.t rfl) .n) ?_;intro fb fg;refine wpList_nil ?_;replace fg := fg.cut (.c 15 rfl (.c 1 rfl (.c 0 rfl (.c 13 rfl (.c 14 rfl .n)))));have hj1 := hj.out.1
    exact hKl4 (m4 - 1) _ _ (by omega) ⟨j + 1, fg.cut (.c 0 rfl (.u 1 rfl (by rw [HPN.out]; rfl) (.c 13 rfl (.c 14 rfl (.u 15 rfl (by go_num) .n))))), Lib.hid ⟨by omega, fun i hi => by
      by_cases e : i = j
      · subst e; exact HE.out
      · exact hj.out.2 i (by omega)⟩, HJ2⟩
  have hlti : ¬ (j : Int) < (n : Int) := by omega
  obtain rfl : j = n := by omega
  have hk := okN_all hj.out.2
  revert fa
  refine Kn.Z.f fun K5 hK5=>?_;refine Kn.Z.s .o (.bin (.t rfl) (.t rfl)) fun Ko Kp=>?_;go_simp;(try go_bits);refine Kp _ _ ?_;clear Kp Ko;refine Kn.Z.e hK5 ?_;clear hK5 K5;refine Kn.Z.q fun K6 hK6=>?_;refine Kn.Z.no (.t rfl) ?_;refine Kn.Z.t (.c 0 rfl (.c 1 rfl (.c 13 rfl (.c 14 rfl (.c 15 rfl .n))))) ?_;intro fb fg;refine wp_exit ?_;refine Kn.then_exit ?_;clear hK6 K6;refine Kn.then_exit ?_;clear hKl4 Kl4;refine Kn.block_exit ?_;refine hK2 _ _ ?_;clear hK2 K2
  revert fb
  refine Kn.Z.f fun K7 hK7=>?_;refine Kn.Z.u (.m (.t rfl) (.a (.t rfl) (.a .c .n))) ?_;refine Kn.Z.e hK7 ?_;clear hK7 K7;intro fa fh;refine wp_ret ?_;exact Kn.ret2 fh rfl rfl rfl ⟨by rw [HN.out, hk, rdX_yes hk], by rw [HN.out, hk]; exact HV.out⟩
structure RK (w : World) (g g5 : Nat) (cs : Array Value) (mn : Int) (u : World) : Prop where
  st : St.St u g 25 cs
  mt : St.St u g5 3 #[.int .i64 mn]
  bl : Below w.heap.size w u
  ge : w.heap.size ≤ g
  ge5 : w.heap.size ≤ g5
  ne : g ≠ g5
theorem RK.on {w u u' : World} {g g5 : Nat} {cs : Array Value} {mn : Int} (h : RK w g g5 cs mn u) (hb : Below u.heap.size u u') : RK w g g5 cs mn u' := ⟨h.st.on hb, h.mt.on hb, h.bl.trans (hb.mono h.bl.size), h.ge, h.ge5, h.ne⟩
theorem RK.put {w u : World} {g g5 : Nat} {cs : Array Value} {mn : Int} (h : RK w g g5 cs mn u) {x : Value} {e : TypeId} (i : Nat) (hs : ∀ (w : World) (p : Addr) (c : Value), w.cell? p = some c → w.frozen? p = false → (Instr.storeAt e (.pointer (some p)) x).run Tryz.prog w = .ok () (w.setCell p x)) (hi : i < cs.size) :
    ∃ u', (Instr.storeAt e (.pointer (some ⟨g, i, none⟩)) x).run Tryz.prog u = .ok () u' ∧ RK w g g5 (cs.setIfInBounds i x) mn u' ∧ (∀ b, b ≠ g → u'.heap[b]? = u.heap[b]?) ∧ u'.heap.size = u.heap.size := by
  obtain ⟨c, hc⟩ : ∃ c, cs[i]? = some c := ⟨cs[i], by simp [hi]⟩;exact ⟨_, hs u _ c (h.st.cell i hc) (h.st.free i), ⟨h.st.put i x, h.mt.setCell (fun q => h.ne q.symm) x, h.bl.trans ((Below.refl w.heap.size u).setCell h.ge x |>.mono (Nat.le_refl _)), h.ge, h.ge5, h.ne⟩, fun b hb => heap_setCell_other u _ b x hb, by simp [World.setCell]⟩
theorem RK.put5 {w u : World} {g g5 : Nat} {cs : Array Value} {mn : Int} (h : RK w g g5 cs mn u) (x : Int) :
    ∃ u', (Instr.storeAt 3 (.pointer (some ⟨g5, 0, none⟩)) (.int .i64 x)).run Tryz.prog u = .ok () u' ∧ RK w g g5 cs x u' ∧ (∀ b, b ≠ g5 → u'.heap[b]? = u.heap[b]?) ∧ u'.heap.size = u.heap.size :=
  ⟨_, sI x u _ _ (h.mt.cell 0 rfl) (h.mt.free 0), ⟨h.st.setCell h.ne _, h.mt.put 0 _, h.bl.trans ((Below.refl w.heap.size u).setCell h.ge5 _ |>.mono (Nat.le_refl _)), h.ge, h.ge5, h.ne⟩, fun b hb => heap_setCell_other u _ b _ hb, by simp [World.setCell]⟩
theorem setR {u : World} {g : Nat} {b : Nat} {ps : List Addr} {u' : World} (h : PRow b ps u) (hb : b ≠ g) (e : ∀ b, b ≠ g → u'.heap[b]? = u.heap[b]?) (hs : u'.heap.size = u.heap.size) : PRow b ps u' := h.at (Nat.le_of_eq hs.symm) (e b hb)
def hcs (s : ByteArray) (k : Nat) : Array Value := #[.int .i64 (if 0 < k then valN s 0 0 else 0), .int .i64 (if 1 < k then valN s 0 1 else 0), .int .i64 (if 2 < k then valN s 0 2 else 0), .slice none 0 0, .int .i64 0, .string ⟨#[]⟩]
def ROut (s : ByteArray) (B : Nat) (e : Ending) (u : World) : Prop := ∃ cs q x, e = .returned (.tuple #[.agg cs, .int .i64 q, x]) ∧ cs.size = 6 ∧ cs.all (·.oneCell') = true ∧
  ((x = .nilIface ∧ ∃ m A c, cs = #[.int .i64 m.v, .int .i64 m.n, .int .i64 m.e, .slice A m.sh.length c, .int .i64 m.b, .string m.r] ∧ MIn m A c u ∧ (∀ b o z, A = some ⟨b, o, z⟩ → B ≤ b) ∧ Fit m ∧ 0 ≤ q ∧ q ≤ s.size ∧ putM m = s.data.toList.take q.toNat) ∨ ∃ p c, x = flV p c ∧ (c = 4 ∨ c = 3) ∧ 0 ≤ p)
theorem store_ip {w : World} {g : Nat} {l : List (Int × Int)} (h : Hold ipR w g l) (k : Nat) (hk : k < l.length) (j : Nat) (hj : j < 2) (x : Int) :
    ∃ w', (Instr.storeAt 3 (.pointer (some ⟨g, k * 2 + j, none⟩)) (.int .i64 x)).run Tryz.prog w = .ok () w' ∧ Hold ipR w' g (l.set k (if j = 0 then (x, byt l k) else (fst l k, x))) ∧ (∀ b, b ≠ g → w'.heap[b]? = w.heap[b]?) ∧ w'.heap.size = w.heap.size ∧ ∀ B, B ≤ g → Below B w w' := by
  have e0 : l.getD k (0, 0) = l[k] := by rw [List.getD_eq_getElem?_getD, List.getElem?_eq_getElem hk]; rfl
  obtain ⟨c1, f1⟩ : (∃ c, w.cell? ⟨g, k * 2 + j, none⟩ = some c) ∧ w.frozen? ⟨g, k * 2 + j, none⟩ = false := by
    have h2 := h.there hk j hj;exact ⟨Option.isSome_iff_exists.1 h2.1, h2.2⟩
  obtain ⟨c, hc⟩ := c1;refine ⟨_, sI x w _ c hc f1, ⟨by simp [World.setCell]; exact h.1, fun i a hi j' u hu => ?_⟩, fun b hb => heap_setCell_other w _ b _ hb, by simp [World.setCell], fun B hB => (Below.refl B w).setCell hB _⟩;have hj' : j' < 2 := by have := (List.getElem?_eq_some_iff.1 hu).1; exact this
  have hil : i < l.length := by have := (List.getElem?_eq_some_iff.1 hi).1; simpa using this
  rw [World.frozen?_setCell];have hold := fun (u0 : Value) (h0 : (ipR.enc l[i])[j']? = some u0) => h.2 i l[i] (List.getElem?_eq_getElem hil) j' u0 h0
  by_cases e : i = k
  · subst e;rw [List.getElem?_set_self hk] at hi;injection hi with hi
    subst hi
    by_cases ej : j' = j
    · subst ej;obtain ⟨u0, hu0⟩ : ∃ u0, (ipR.enc l[i])[j']? = some u0 := ⟨(ipR.enc l[i])[j']'(by exact hj'), List.getElem?_eq_getElem _⟩;refine ⟨?_, (hold u0 hu0).2⟩;show (w.setCell ⟨g, i * 2 + j', none⟩ (.int .i64 x)).cell? ⟨g, i * 2 + j', none⟩ = some u;rw [World.cell?_setCell_same' _ _ _ (by rw [hc]; rfl)];rcases (show j' = 0 ∨ j' = 1 by omega) with rfl | rfl
      · exact hu
      · exact hu
    · have hu2 : (ipR.enc l[i])[j']? = some u := by
        rw [← hu];unfold fst byt;rw [e0];rcases (show (j' = 0 ∧ j = 1) ∨ (j' = 1 ∧ j = 0) by omega) with ⟨rfl, rfl⟩ | ⟨rfl, rfl⟩ <;> rfl
      refine ⟨?_, (hold u hu2).2⟩;rw [World.cell?_setCell_other _ _ _ _ (by simp; show ¬ i * 2 + j = i * 2 + j'; omega)];exact (hold u hu2).1
  · rw [List.getElem?_set_ne (fun q => e q.symm)] at hi;obtain ⟨g1, g2⟩ := h.2 i a hi j' u hu;refine ⟨?_, g2⟩;rw [World.cell?_setCell_other _ _ _ _ (by simp; show ¬ k * 2 + j = i * 2 + j'; omega)];exact g1
theorem elemSH : Own.Elem Tryz.prog 23 42 (.agg #[.int .i64 0, .int .i64 0]) ipR.size 16 := ⟨Tryz.underlying23, by kernel_rfl, rfl, by decide⟩
theorem hold_of {w : World} {B g n cap : Nat} {l : List (Int × Int)} (h : ROwn ipR 42 w B (some ⟨g, 0, none⟩) n cap l) : Hold ipR w g l := hold_of_own h
end Go.Proofs.YtbahklpdldghbaaGreatDoor.Man
end
section
namespace Go.Proofs.YtbahklpdldghbaaGreatDoor.Kn
open Go
def predB (md : Region.Mode) (ops : Array Oper) : Nat → Nat → Nat → Bool
  | 0, _, _ => false
  | f + 1, j, i => match ops[j]? with
    | some o => o.after.any fun e => Region.binds md e && (Nat.beq e.on i || predB md ops f e.on i)
    | none => false
section
variable {P : Program} {n : Nat} {l l2 : List (Nat × Value)} {ops : Array Oper} {Q : Exit → Act → World → Prop} {md : Region.Mode} {S : World → Prop} {G : World → World → Prop} {T : Nat → Value → World → Prop} {F : Nat → Nat → Value → Value → Prop}
def Cl (md : Region.Mode) (ops : Array Oper) (listed : Array Bool) : Prop := ∀ j o, ops[j]? = some o → listed.getD j false = true → ∀ e ∈ o.after, Region.binds md e = true → listed.getD e.on false = true
theorem Cl.pred {listed : Array Bool} (h : Cl md ops listed) : ∀ f j i, listed.getD j false = true → predB md ops f j i = true → listed.getD i false = true
  | 0, _, _, _, hp => by cases hp
  | f + 1, j, i, hj, hp => by
    rw [predB] at hp
    cases ho : ops[j]? with
    | none => rw [ho] at hp; cases hp
    | some o =>
      rw [ho] at hp;obtain ⟨e, he, h2⟩ := Array.any_eq_true'.1 hp;simp only [Bool.and_eq_true, Bool.or_eq_true] at h2;have h3 := h j o ho hj e he h2.1;rcases h2.2 with h4 | h4
      · rw [Nat.eq_of_beq_eq_true h4] at h3;exact h3
      · exact h.pred f e.on i h3 h4
def Old (md : Region.Mode) (ops : Array Oper) (fuel : Nat) (l2 : List (Nat × Value)) (i : Nat) (a : Act) : Prop := ∀ t v j, find l2 t = some v → (ops[j]?).bind (·.dst) = some t → predB md ops fuel j i = true → a.eval (.tmp t) = v
def OkO (P : Program) (n : Nat) (l l2 : List (Nat × Value)) (md : Region.Mode) (ops : Array Oper) (fuel : Nat) (Q : Exit → Act → World → Prop) (S : World → Prop) (G : World → World → Prop) (T : Nat → Value → World → Prop) (F : Nat → Nat → Value → Value → Prop) (i : Nat) (o : Oper) : Prop :=
  ∀ a w L, Kn n l a → Old md ops fuel l2 i a → S w → One ops T L a w → Two ops F L a → Ahead md o L → Op1 P ops Q S G T F i o L a w
def OksO (P : Program) (n : Nat) (l l2 : List (Nat × Value)) (md : Region.Mode) (ops : Array Oper) (fuel : Nat) (Q : Exit → Act → World → Prop) (S : World → Prop) (G : World → World → Prop) (T : Nat → Value → World → Prop) (F : Nat → Nat → Value → Value → Prop) : Nat → List Oper → Prop
  | _, [] => True
  | k, o :: r => OkO P n l l2 md ops fuel Q S G T F k o ∧ OksO P n l l2 md ops fuel Q S G T F (k + 1) r
theorem OksO.at {fuel : Nat} {r : List Oper} {k : Nat} (h : OksO P n l l2 md ops fuel Q S G T F k r) {j : Nat} {o : Oper} (hj : r[j]? = some o) : OkO P n l l2 md ops fuel Q S G T F (k + j) o := by
  induction r generalizing k j with
  | nil => simp at hj
  | cons x r ih =>
    cases j with
    | zero => simp at hj; subst hj; exact h.1
    | succ j =>
      have := ih h.2 (j := j) (by simpa using hj)
      rwa [show k + 1 + j = k + (j + 1) by omega] at this
def Still (ops : Array Oper) (l2 : List (Nat × Value)) (listed : Array Bool) (a : Act) : Prop := ∀ t v j, find l2 t = some v → (ops[j]?).bind (·.dst) = some t → listed.getD j false = false → a.eval (.tmp t) = v
theorem wpAny_regO {fu : Nat} (hback : backB md ops = true) (hap : apartB ops = true) (hfr : freshB n l ops = true) (hT : ∀ i v w w', G w w' → T i v w → T i v w') (hok : OksO P n l l2 md ops fu Q S G T F 0 ops.toList)
    (hend : ∀ a w, Kn n l a → S w → (∀ j d, (ops[j]?).bind (·.dst) = some d → T j (a.eval (.tmp d)) w) → (∀ j o, ops[j]? = some o → o.dst = none → ∃ v, T j v w) → Q .normal a w) :
    ∀ (fuel : Nat) (listed : Array Bool) (a : Act) (w : World), listed.toList.countP (fun b => !b) ≤ fuel → Reg n l ops S T F listed a w → Cl md ops listed → Still ops l2 listed a → wpAny P md ops Q fuel listed a w := by
  have fin : ∀ (listed : Array Bool) (a : Act) (w : World), Reg n l ops S T F listed a w → Region.ready md ops listed = [] → Q .normal a w := fun listed a w h hr => by
    have al : ∀ j d, (ops[j]?).bind (·.dst) = some d → listed.getD j false = true := fun j d hj => by
      have hjs : j < ops.size := by
        cases hj2 : ops[j]? with
        | none => rw [hj2] at hj; cases hj
        | some x => exact (Array.getElem?_eq_some_iff.1 hj2).1
      exact all_listed hback h.size hr j hjs
    exact hend a w h.kn h.ok (fun j d hj => h.slots j d hj (al j d hj)) fun j o hj hd => h.stores j o hj hd (all_listed hback h.size hr j (Array.getElem?_eq_some_iff.1 hj).1)
  intro fuel
  induction fuel with
  | zero =>
    intro listed a w hc h _ _
    have hr : Region.ready md ops listed = [] := by
      cases hr : Region.ready md ops listed with
      | nil => rfl
      | cons i r =>
        exfalso
        have hi := (mem_ready.1 (show i ∈ Region.ready md ops listed by rw [hr]; exact List.mem_cons_self)).1
        have hil : i < listed.size := by
          rcases Nat.lt_or_ge i listed.size with h' | h'
          · exact h'
          · simp [Array.getElem?_eq_none h'] at hi
        have hz : listed.toList.countP (fun b => !b) = 0 := by omega
        rw [List.countP_eq_zero] at hz;have := hz listed[i] (by simp);simp [hil] at hi;simp [hi] at this
    exact ⟨hr, fin listed a w h hr⟩
  | succ fuel ih =>
    intro listed a w hc h hcl hst;refine ⟨fin listed a w h, fun i hi => ?_⟩;obtain ⟨hun, o, ho, hall⟩ := mem_ready.1 hi
    have hil : i < listed.size := by
      rcases Nat.lt_or_ge i listed.size with h' | h'
      · exact h'
      · simp [Array.getElem?_eq_none h'] at hun
    have hunf : listed.getD i false = false := by
      simp [hil] at hun ⊢;exact hun
    have hcount : (listed.setIfInBounds i true).toList.countP (fun b => !b) ≤ fuel := by
      have hli : listed[i] = false := by simpa [hil] using hun
      rw [Array.toList_setIfInBounds, List.countP_set (by simpa using hil)];simp only [Array.getElem_toList, hli];simp only [Bool.not_false, Bool.not_true, if_true, Bool.false_eq_true, if_false];omega
    have hcl2 : Cl md ops (listed.setIfInBounds i true) := fun j x hj hlj e he hb => by
      have keep : listed.getD e.on false = true → (listed.setIfInBounds i true).getD e.on false = true := fun q => by
        by_cases e1 : i = e.on
        · rw [← e1];simp [hil]
        · rwa [getD_set_ne false e1]
      by_cases e1 : i = j
      · subst e1;rw [ho] at hj;injection hj with hj
        subst hj;exact keep (hall e he hb)
      · rw [getD_set_ne false e1] at hlj;exact keep (hcl j x hj hlj e he hb)
    have hst2 : ∀ v, Still ops l2 (listed.setIfInBounds i true) (a.put o.dst v) := fun v t u j hf hj hlj => by
      have hij : i ≠ j := fun e1 => by
        subst e1;simp [hil] at hlj
      rw [getD_set_ne false hij] at hlj;have h0 := hst t u j hf hj hlj
      cases hd : o.dst with
      | none => exact h0
      | some d =>
        have hi2 : i < ops.size := (Array.getElem?_eq_some_iff.1 ho).1
        have hjs : j < ops.size := by
          cases hj2 : ops[j]? with
          | none => rw [hj2] at hj; cases hj
          | some x => exact (Array.getElem?_eq_some_iff.1 hj2).1
        have h2 := List.all_eq_true.1 (List.all_eq_true.1 hap i (List.mem_range.2 hi2)) j (List.mem_range.2 hjs);rw [show (ops[i]?).bind (·.dst) = some d by rw [ho]; exact hd, hj, beq_no hij] at h2;have hde : d ≠ t := fun e' => by subst e'; simp at h2
        rw [eval_put_ne v hde];exact h0
    have hok' := hok.at (j := i) (o := o) (by rw [Array.getElem?_toList]; exact ho);rw [Nat.zero_add] at hok'
    have hs := hok' a w (fun k => listed.getD k false = true) h.kn (fun t u j hf hj hp => hst t u j hf hj (by
      cases hlj : listed.getD j false with
      | false => rfl
      | true => rw [hcl.pred fu j i hlj hp] at hunf; cases hunf)) h.ok (fun k d hk hd => h.slots k d hd hk) (fun j k d e hne hj hk hd he => h.pairs j k d e hne hd he hj hk) (fun j hj => by
      obtain ⟨e, he, he2⟩ := List.any_eq_true.1 hj;simp only [Bool.and_eq_true] at he2;have := Nat.eq_of_beq_eq_true he2.2;subst this
      exact hall e (Array.mem_toList_iff.1 he) he2.1)
    unfold Op1 at hs;unfold wpOp;simp only [ho]
    split
    · rename_i hw;rw [if_pos hw] at hs;refine .inl (Oper.wp_mono (fun a' w' hx => ?_) hs);obtain ⟨v, rfl, hv, hS, hG, hF⟩ := hx;exact ih _ _ _ hcount (h.next hap hfr ho hv hS (fun j u hu => hT j u _ _ hG hu) hF) hcl2 (hst2 v)
    · rename_i hw;rw [if_neg hw] at hs;exact ih _ _ _ hcount (h.next hap hfr ho hs.1 h.ok (fun j u hu => hu) hs.2) hcl2 (hst2 _)
theorem anyO {id : Nat} {os : List Oper} {a : Act} {w : World} (S : World → Prop) (G : World → World → Prop) (T : Nat → Value → World → Prop) (hm : P.follows .mixedOrders = true) (h : Kn n l a) (h2 : Kn n l2 a) (hback : backB .any os.toArray = true) (hap : apartB os.toArray = true) (hfr : freshB n l os.toArray = true)
    (hT : ∀ i v w w', G w w' → T i v w → T i v w') (hS : S w.drew) (hok : OksO P n l l2 .any os.toArray os.length Q S G T F0 0 os)
    (hend : ∀ a w, Kn n l a → S w → (∀ j d, (os.toArray[j]?).bind (·.dst) = some d → T j (a.eval (.tmp d)) w) → (∀ j o, os.toArray[j]? = some o → o.dst = none → ∃ v, T j v w) → Q .normal a w) : (Code.region id os.toArray true).wp P Q a w := by
  refine wp_region_any hm (wpAny_regO (S := S) (G := G) (T := T) (F := F0) (l2 := l2) (fu := os.length) hback hap hfr hT (by simpa using hok) hend _ _ _ _ ?_ ⟨h, by simp, hS, fun j d hj hl => ?_, fun i j d e _ _ _ hl _ => ?_, fun j o hj hd hl => ?_⟩ (fun j o hj hl => ?_) fun t v j hf hj hl => h2.get t v hf)
  · refine Nat.le_trans List.countP_le_length ?_;simp
  · rw [getD_replicate_false] at hl; cases hl
  · rw [getD_replicate_false] at hl; cases hl
  · rw [getD_replicate_false] at hl; cases hl
  · rw [getD_replicate_false] at hl; cases hl
theorem okO {fu : Nat} {i : Nat} {o : Oper} (h : ∀ a w L, Kn n l a → Old md ops fu l2 i a → S w → Has md ops T o a w → Op1 P ops Q S G T F i o L a w) : OkO P n l l2 md ops fu Q S G T F i o := fun a w L h1 h0 h2 h3 _ h5 => h a w L h1 h0 h2 fun j d hj hd => h3 j d (h5 j hj) hd
end
end Go.Proofs.YtbahklpdldghbaaGreatDoor.Kn
end
section
namespace Go.Proofs.YtbahklpdldghbaaGreatDoor.Man
open Go Go.RowKit Go.Lib RowG Oct Gap
theorem sQ (A : Option Addr) (n c0 : Nat) (w : World) (p : Addr) (c : Value) (h1 : w.cell? p = some c) (h2 : w.frozen? p = false) : (Instr.storeAt 23 (.pointer (some p)) (.slice A n c0)).run Tryz.prog w = .ok () (w.setCell p (.slice A n c0)) := by
  refine Num.satU_run ?_;go_simp
def hps (g g5 : Nat) : List Addr := [⟨g, 0, none⟩, ⟨g, 1, none⟩, ⟨g, 2, none⟩, ⟨g5, 0, none⟩]
def JH (s : ByteArray) (w : World) (g g5 b : Nat) (k : Nat) (u : World) : Prop := RK w g g5 (hcs s k) (if 3 < k then valN s 0 3 else 0) u ∧ PRow b (hps g g5) u ∧ b ≠ g ∧ b ≠ g5
theorem JH.put {s : ByteArray} {w : World} {g g5 b k : Nat} {u : World} {p : Addr} (h : JH s w g g5 b k u) (hp : (hps g g5)[k]? = some p) : ∃ u', (Instr.storeAt 3 (.pointer (some p)) (.int .i64 (valN s 0 k))).run Tryz.prog u = .ok () u' ∧ JH s w g g5 b (k + 1) u' := by
  obtain ⟨hR, hb, n1, n2⟩ := h;have hk4 : k < 4 := (List.getElem?_eq_some_iff.1 hp).1;rcases (show k = 0 ∨ k = 1 ∨ k = 2 ∨ k = 3 by omega) with rfl | rfl | rfl | rfl
  · injection hp with hp
    subst hp;obtain ⟨u', h1, h2, h3, h4⟩ := hR.put 0 (sI (valN s 0 0)) (by simp [hcs]);exact ⟨u', h1, h2, setR hb n1 h3 h4, n1, n2⟩
  · injection hp with hp
    subst hp;obtain ⟨u', h1, h2, h3, h4⟩ := hR.put 1 (sI (valN s 0 1)) (by simp [hcs]);exact ⟨u', h1, h2, setR hb n1 h3 h4, n1, n2⟩
  · injection hp with hp
    subst hp;obtain ⟨u', h1, h2, h3, h4⟩ := hR.put 2 (sI (valN s 0 2)) (by simp [hcs]);exact ⟨u', h1, h2, setR hb n1 h3 h4, n1, n2⟩
  · injection hp with hp
    subst hp;obtain ⟨u', h1, h2, h3, h4⟩ := hR.put5 (valN s 0 3);exact ⟨u', h1, h2, setR hb n2 h3 h4, n1, n2⟩
def JP (s : ByteArray) (a : Int) (w : World) (g g5 gs b i : Nat) (cs : Array Value) (mn : Int) (ls : List (Int × Int)) (u0 : World) (k : Nat) (u : World) : Prop :=
  (RK w g g5 cs mn u ∧ PRow b [⟨gs, i * 2, none⟩, ⟨gs, i * 2 + 1, none⟩] u ∧ b ≠ gs) ∧ ((∀ b, b ≠ gs → u.heap[b]? = u0.heap[b]?) ∧ u.heap.size = u0.heap.size) ∧
  ∃ l, Hold ipR u gs l ∧ l.length = ls.length ∧ (∀ j, j ≠ i → l[j]? = ls[j]?) ∧ (0 < k → fst l i = valN s a 0) ∧ (1 < k → byt l i = valN s a 1)
theorem rk_turn {w u u' : World} {g g5 gs : Nat} {cs : Array Value} {mn : Int} (h : RK w g g5 cs mn u) (n1 : g ≠ gs) (n2 : g5 ≠ gs) (he : ∀ b, b ≠ gs → u'.heap[b]? = u.heap[b]?) (hb : ∀ B, B ≤ gs → Below B u u') (hw : w.heap.size ≤ gs) : RK w g g5 cs mn u' := ⟨(he g n1).trans h.st, (he g5 n2).trans h.mt, h.bl.trans (hb _ hw), h.ge, h.ge5, h.ne⟩
theorem fst_set {l : List (Int × Int)} {i : Nat} {p : Int × Int} (h : i < l.length) : fst (l.set i p) i = p.1 ∧ byt (l.set i p) i = p.2 := by
  unfold fst byt;rw [List.getD_eq_getElem?_getD, List.getElem?_set_self h];exact ⟨rfl, rfl⟩
theorem JP.put {s : ByteArray} {a : Int} {w : World} {g g5 gs b i k : Nat} {cs : Array Value} {mn : Int} {ls : List (Int × Int)} {u0 u : World} {p : Addr} (hn : g ≠ gs ∧ g5 ≠ gs ∧ w.heap.size ≤ gs) (hi : i < ls.length) (h : JP s a w g g5 gs b i cs mn ls u0 k u) (hp : ([⟨gs, i * 2, none⟩, ⟨gs, i * 2 + 1, none⟩] : List Addr)[k]? = some p) :
    ∃ u', (Instr.storeAt 3 (.pointer (some p)) (.int .i64 (valN s a k))).run Tryz.prog u = .ok () u' ∧ JP s a w g g5 gs b i cs mn ls u0 (k + 1) u' := by
  obtain ⟨⟨hR, hb, n1⟩, ⟨he, hz⟩, l, hH, hl, ho, h0, h1⟩ := h
  have gen : ∀ j, j < 2 → ∃ u', (Instr.storeAt 3 (.pointer (some ⟨gs, i * 2 + j, none⟩)) (.int .i64 (valN s a k))).run Tryz.prog u = .ok () u' ∧ (RK w g g5 cs mn u' ∧ PRow b [⟨gs, i * 2, none⟩, ⟨gs, i * 2 + 1, none⟩] u' ∧ b ≠ gs) ∧ ((∀ b, b ≠ gs → u'.heap[b]? = u0.heap[b]?) ∧ u'.heap.size = u0.heap.size) ∧ Hold ipR u' gs (l.set i (if j = 0 then (valN s a k, byt l i) else (fst l i, valN s a k))) := fun j hj => by
    obtain ⟨u', g1, g2, g3, g4, g5'⟩ := store_ip hH i (by omega) j hj (valN s a k);exact ⟨u', g1, ⟨rk_turn hR hn.1 hn.2.1 g3 g5' hn.2.2, setR hb n1 g3 g4, n1⟩, ⟨fun b hb => (g3 b hb).trans (he b hb), g4.trans hz⟩, g2⟩
  have hk2 : k < 2 := (List.getElem?_eq_some_iff.1 hp).1;rcases (show k = 0 ∨ k = 1 by omega) with rfl | rfl
  · injection hp with hp
    subst hp;obtain ⟨u', g1, g2, g3, g4⟩ := gen 0 (by omega);refine ⟨u', g1, g2, g3, _, g4, by rw [List.length_set, hl], fun j hj => by rw [List.getElem?_set_ne (fun q => hj q.symm)]; exact ho j hj, fun _ => ?_, fun q => by omega⟩;exact (fst_set (by omega)).1
  · injection hp with hp
    subst hp;obtain ⟨u', g1, g2, g3, g4⟩ := gen 1 (by omega);refine ⟨u', g1, g2, g3, _, g4, by rw [List.length_set, hl], fun j hj => by rw [List.getElem?_set_ne (fun q => hj q.symm)]; exact ho j hj, fun _ => ?_, fun _ => ?_⟩
    · rw [(fst_set (by omega)).1];exact h0 (by omega)
    · exact (fst_set (by omega)).2
def JB (s : ByteArray) (a : Int) (w : World) (g g5 gs b : Nat) (v n e : Int) (N0 : Nat) (mn : Int) (ls : List (Int × Int)) (k : Nat) (u : World) : Prop :=
  RK w g g5 #[.int .i64 v, .int .i64 n, .int .i64 e, .slice (some ⟨gs, 0, none⟩) N0 N0, .int .i64 (if 0 < k then valN s a 0 else 0), .string ⟨#[]⟩] mn u ∧ PRow b [⟨g, 4, none⟩] u ∧ b ≠ g ∧ Hold ipR u gs ls
theorem JB.put {s : ByteArray} {a : Int} {w : World} {g g5 gs b k : Nat} {v n e : Int} {N0 : Nat} {mn : Int} {ls : List (Int × Int)} {u : World} {p : Addr} (hn : g ≠ gs) (h : JB s a w g g5 gs b v n e N0 mn ls k u) (hp : ([⟨g, 4, none⟩] : List Addr)[k]? = some p) :
    ∃ u', (Instr.storeAt 3 (.pointer (some p)) (.int .i64 (valN s a k))).run Tryz.prog u = .ok () u' ∧ JB s a w g g5 gs b v n e N0 mn ls (k + 1) u' := by
  obtain ⟨hR, hb, n1, hH⟩ := h;have hk1 : k < 1 := (List.getElem?_eq_some_iff.1 hp).1;obtain rfl : k = 0 := by omega
  · injection hp with hp
    subst hp;obtain ⟨u', h1, h2, h3, h4⟩ := hR.put 4 (sI (valN s a 0)) (by simp);exact ⟨u', h1, h2, setR hb n1 h3 h4, n1, hH.at (Nat.le_of_eq h4.symm) (h3 gs (fun q => hn q.symm))⟩
def PSl (gs i : Nat) : Value → World → Prop := fun v u => ∃ b, v = .slice (some ⟨b, 0, none⟩) 2 2 ∧ PRow b [⟨gs, i * 2, none⟩, ⟨gs, i * 2 + 1, none⟩] u ∧ b ≠ gs
def JK (s : ByteArray) (a : Int) (gs i : Nat) (ls : List (Int × Int)) (u : World) : Prop := ∃ l, Hold ipR u gs l ∧ l.length = ls.length ∧ (∀ j, j ≠ i → l[j]? = ls[j]?) ∧ (okN s a 2 = 2 → fst l i = valN s a 0 ∧ byt l i = valN s a 1)
def GP (s : ByteArray) (a : Int) (gs i : Nat) (ls : List (Int × Int)) (u u' : World) : Prop := (∀ v, PSl gs i v u → PSl gs i v u') ∧ (JK s a gs i ls u → JK s a gs i ls u')
theorem GP.refl (s : ByteArray) (a : Int) (gs i : Nat) (ls : List (Int × Int)) (u : World) : GP s a gs i ls u u := ⟨fun _ h => h, fun h => h⟩
def RV (s : ByteArray) (a : Int) (gs i : Nat) (ls : List (Int × Int)) (x : Value) : Value → World → Prop := fun v u => v = x ∧ JK s a gs i ls u
theorem RV.keep {s : ByteArray} {a : Int} {gs i : Nat} {ls : List (Int × Int)} {x : Value} : ∀ v u u', GP s a gs i ls u u' → RV s a gs i ls x v u → RV s a gs i ls x v u' := fun _ _ _ hG h => ⟨h.1, hG.2 h.2⟩
def SP (w : World) (g g5 gs i : Nat) (cs : Array Value) (mn : Int) (ls : List (Int × Int)) (u : World) : Prop := RK w g g5 cs mn u ∧ ∃ l, Hold ipR u gs l ∧ l.length = ls.length ∧ ∀ j, j ≠ i → l[j]? = ls[j]?
theorem SP.on {w : World} {g g5 gs i : Nat} {cs : Array Value} {mn : Int} {ls : List (Int × Int)} {u u' : World} (h : SP w g g5 gs i cs mn ls u) (hb : Below u.heap.size u u') : SP w g g5 gs i cs mn ls u' := ⟨h.1.on hb, by obtain ⟨l, h1, h2⟩ := h.2; exact ⟨l, h1.on hb, h2⟩⟩
theorem GP.below {s : ByteArray} {a : Int} {gs i : Nat} {ls : List (Int × Int)} {u u' : World} (hb : Below u.heap.size u u') : GP s a gs i ls u u' := ⟨fun _ ⟨b, h1, h2, h3⟩ => ⟨b, h1, h2.on hb, h3⟩, fun ⟨l, h1, h2⟩ => ⟨l, h1.on hb, h2⟩⟩
theorem pair_call (s : ByteArray) (a : Int) (w : World) (g g5 gs i : Nat) (cs : Array Value) (mn : Int) (ls : List (Int × Int)) (b : Nat) (u : World) (hs : s.size ≤ maxLen) (hn : g ≠ gs ∧ g5 ≠ gs ∧ w.heap.size ≤ gs) (hi : i < ls.length) (hS : SP w g g5 gs i cs mn ls u) (hb : PRow b [⟨gs, i * 2, none⟩, ⟨gs, i * 2 + 1, none⟩] u) (hbn : b ≠ gs) :
    Calls Tryz.prog 34 #[.string s, .int .i64 a, .slice (some ⟨b, 0, none⟩) 2 2] u fun e u' => e = .returned (.tuple #[.int .i64 (posN s a (okN s a 2)), rdX s a 2]) ∧ JK s a gs i ls u' ∧ SP w g g5 gs i cs mn ls u' ∧ GP s a gs i ls u u' := by
  obtain ⟨hR, l0, hH, hl, ho⟩ := hS;refine (shorts_any s a b 2 [⟨gs, i * 2, none⟩, ⟨gs, i * 2 + 1, none⟩] (JP s a w g g5 gs b i cs mn ls u) u hs (by simp) (fun k u' h => h.1.2.1) ⟨⟨hR, hb, hbn⟩, ⟨fun _ _ => rfl, rfl⟩, l0, hH, hl, ho, fun q => by omega, fun q => by omega⟩ (fun k u' p h hp => h.put hn hi hp)).mono fun e u' ⟨he, ⟨hR', hb', _⟩, ⟨hh, hz⟩, l, h1, h2, h3, h4, h5⟩ => ?_;have hJ : JK s a gs i ls u' := ⟨l, h1, h2, h3, fun q => ⟨h4 (by show 0 < okN s a 2; omega), h5 (by show 1 < okN s a 2; omega)⟩⟩;exact ⟨he, hJ, ⟨hR', l, h1, h2, h3⟩, fun v ⟨b', e1, e2, e3⟩ => ⟨b', e1, e2.at (Nat.le_of_eq hz.symm) (hh b' e3), e3⟩, fun _ => hJ⟩
structure PrOk (s : ByteArray) (a : Int) (i : Nat) : Prop where
  lo : 0 ≤ posP s a i
  hi : posP s a i ≤ s.size
  tk : s.data.toList.take (posP s a i).toNat = s.data.toList.take a.toNat ++ shB (pairs s a i)
  bd : ∀ p ∈ pairs s a i, (0 ≤ p.1 ∧ p.1 ≤ 72057594037927935) ∧ 0 ≤ p.2 ∧ p.2 ≤ 72057594037927935
theorem PrOk.start {s : ByteArray} {a : Int} (h0 : 0 ≤ a) (h1 : a ≤ s.size) : PrOk s a 0 := ⟨h0, h1, by show s.data.toList.take a.toNat = _ ++ []; rw [List.append_nil], fun p hp => by cases hp⟩
theorem PrOk.next {s : ByteArray} {a : Int} {i : Nat} (h : PrOk s a i) (hk : okN s (posP s a i) 2 = 2) : PrOk s a (i + 1) := by
  obtain ⟨g1, g2, g3, g4⟩ := pair_next h.lo h.hi hk;refine ⟨g1.1, g1.2, by rw [g2, h.tk, pairs_succ, shB_app1, List.append_assoc], fun p hp => ?_⟩;rw [pairs_succ, List.mem_append, List.mem_singleton] at hp;rcases hp with hp | rfl
  · exact h.bd p hp
  · exact ⟨g3, g4⟩
theorem one_6 (a b c e : Int) (A : Option Addr) (n k : Nat) (r : ByteArray) : (#[.int .i64 a, .int .i64 b, .int .i64 c, .slice A n k, .int .i64 e, .string r] : Array Value).all (·.oneCell') = true := by simp [Value.oneCell']
theorem read_all {s : ByteArray} {N0 : Nat} {q : Int} {r : ByteArray} (h4 : okN s 0 4 = 4) (hN : valN s 0 3 = (N0 : Int)) (hp : PrOk s (posN s 0 4) N0) (h1 : okN s (posP s (posN s 0 4) N0) 1 = 1) (hq : s.data.toList.take q.toNat = s.data.toList.take (posN s (posP s (posN s 0 4) N0) 1).toNat ++ (short r.size ++ r.data.toList)) :
    putM ⟨valN s 0 0, valN s 0 1, valN s 0 2, pairs s (posN s 0 4) N0, valN s (posP s (posN s 0 4) N0) 0, r⟩ = s.data.toList.take q.toNat := by
  have g4 := (okN_spec (s := s) (a := 0) 4).1;rw [h4] at g4;have g1 := (okN_spec (s := s) (a := posP s (posN s 0 4) N0) 1).1;rw [h1] at g1;obtain ⟨-, t4, -⟩ := take_pos (s := s) (a := 0) (Int.le_refl _) (by omega) 4 g4;obtain ⟨-, t1, -⟩ := take_pos hp.lo hp.hi 1 g1;rw [hq, t1, hp.tk, t4];unfold putM;simp only [wrN, pairs_len, hN, Int.toNat_natCast, List.nil_append, List.append_assoc, Int.toNat_zero, List.take_zero]
set_option maxRecDepth 100000 in
set_option maxHeartbeats 2000000 in
theorem read_any (s : ByteArray) (w : World) (h400 : s.size ≤ 400) :
    Calls Tryz.prog 19 #[.string s] w fun e w' => ROut s w.heap.size e w' ∧ Below w.heap.size w w' := by
  have hml : s.size ≤ maxLen := by unfold maxLen; omega
  refine Kn.calls Tryz.func19 rfl Tryz.ntmps19 rfl (.cons (t := 0) rfl .nil) fun fa0 fh0 => ?_;refine wp_seq_k fun K1 hK1 => ?_;refine wp_region_lit ?_;refine Kn.step fh0 rfl rfl .none Kn.ex_alloc fun Ko hKo => ?_;go_simp;(try go_bits);refine hKo _ _ fun fa1 fh1 => ?_;clear hKo Ko fh0 fa0;refine Kn.pure fh1 rfl rfl .none (Kn.ex_assign fh1 .const) fun fa2 fh2 => ?_;clear fh1 fa1;refine Kn.pure fh2 rfl rfl .none (Kn.ex_assign fh2 .const) fun fa3 fh3 => ?_;clear fh2 fa2;refine wpList_nil ?_;refine hK1 _ _ ?_;clear hK1 K1;refine Kn.gen (fun u => St.St u w.heap.size 25 #[.int .i64 0, .int .i64 0, .int .i64 0, .slice none 0 0, .int .i64 0, .string ⟨#[]⟩] ∧ Below w.heap.size w u) ⟨St.St.new w _ _, (Below.refl _ w).alloc (Nat.le_refl _) _⟩ fun u1 hu1 => ?_;obtain ⟨g, hg⟩ : ∃ g, w.heap.size = g := ⟨_, rfl⟩
  have hst : ∃ u2, (Instr.storeAt 3 (.pointer (some ⟨u1.heap.size, 0, none⟩)) (.int .i64 0)).run Tryz.prog (u1.alloc (.cells #[.int .i64 0] 3)) = .ok () u2 ∧ RK w g u1.heap.size (hcs s 0) 0 u2 := by
    have hn := St.St.new u1 3 #[.int .i64 0];have hlt := hu1.1.lt;rw [hg] at hlt;refine ⟨_, sI 0 _ _ _ (hn.cell 0 rfl) (hn.free 0), ?_, hn.put 0 _, ?_, Nat.le_of_eq hg, hu1.2.size, by omega⟩
    · have := hu1.1.alloc (.cells #[.int .i64 0] 3);rw [hg] at this;exact this.setCell (by show g ≠ u1.heap.size; omega) _
    · exact (hu1.2.trans ((Below.refl _ u1).alloc hu1.2.size _)).trans ((Below.refl w.heap.size _).setCell (show w.heap.size ≤ u1.heap.size from hu1.2.size) _)
  rw [hg] at fh3;obtain ⟨u2, hst, hR2⟩ := hst;obtain ⟨g5, hg5⟩ : ∃ g5, u1.heap.size = g5 := ⟨_, rfl⟩;rw [hg5] at hst hR2;clear hu1;refine wp_seq_k fun K2 hK2 => ?_;refine wp_region_lit ?_;refine Kn.step fh3 rfl rfl .none Kn.ex_alloc fun Ko hKo => ?_;go_simp;(try go_bits);refine hKo _ _ fun fa4 fh4 => ?_;clear hKo Ko fh3 fa3;refine Kn.stepU fh4 rfl .none (Kn.ex_store fh4 (.tmp rfl) .const) fun Ko hKo => ?_;refine Kn.satU_runA hst ?_;refine hKo _ ?_;clear hKo Ko;refine wpList_nil ?_;refine hK2 _ _ ?_;clear hK2 K2;clear hst hg hg5;have HR2 := Lib.hid hR2;clear hR2;obtain ⟨b, hbe⟩ : ∃ b, u2.heap.size = b := ⟨_, rfl⟩
  have hJ0 : JH s w g g5 b 0 (u2.alloc (.cells #[.pointer (some ⟨g, 0, none⟩), .pointer (some ⟨g, 1, none⟩), .pointer (some ⟨g, 2, none⟩), .pointer (some ⟨g5, 0, none⟩)] 77)) := by
    have h1 := HR2.out.st.lt;have h2 := HR2.out.mt.lt;have := PRow.new (ps := hps g g5) u2 77;rw [hbe] at this;exact ⟨HR2.out.on ((Below.refl _ u2).alloc (Nat.le_refl _) _), this, by omega, by omega⟩
  have hsh := shorts_any s 0 b 4 (hps g g5) (JH s w g g5 b) _ hml (by simp [hps]) (fun k u h => h.2.1) hJ0 (fun k u p h hp => h.put hp);have HSH : Hid (Calls Tryz.prog 34 #[.string s, .int .i64 0, .slice (some ⟨b, 0, none⟩) 4 4] (u2.alloc (.cells #[.pointer (some ⟨g, 0, none⟩), .pointer (some ⟨g, 1, none⟩), .pointer (some ⟨g, 2, none⟩), .pointer (some ⟨g5, 0, none⟩)] 77)) fun e w' => e = .returned (.tuple #[.int .i64 (posN s 0 (okN s 0 4)), rdX s 0 4]) ∧ JH s w g g5 b (okN s 0 4) w') := Lib.hid hsh;clear hsh hJ0;refine wp_seq_k fun K3 hK3 => ?_;refine wp_seq_k fun K4 hK4 => ?_;refine wp_region_lit ?_;refine Kn.pure fh4 rfl rfl .none (Kn.ex_move fh4 (.tmp rfl)) fun fa5 fh5 => ?_;clear fh4 fa4;refine Kn.step fh5 rfl rfl .none (Kn.ex_fieldAddr fh5 (.tmp rfl)) fun Ko hKo => ?_;go_simp;(try go_bits);refine hKo _ _ fun fa6 fh6 => ?_;clear hKo Ko fh5 fa5;refine Kn.step fh6 rfl rfl .none (Kn.ex_fieldAddr fh6 (.tmp rfl)) fun Ko hKo => ?_;go_simp;(try go_bits);refine hKo _ _ fun fa7 fh7 => ?_;clear hKo Ko fh6 fa6;refine Kn.step fh7 rfl rfl .none (Kn.ex_fieldAddr fh7 (.tmp rfl)) fun Ko hKo => ?_;go_simp;(try go_bits);refine hKo _ _ fun fa8 fh8 => ?_;clear hKo Ko fh7 fa7;refine Kn.step fh8 rfl rfl .none (Kn.ex_buildSlice fh8 (.cons (.tmp rfl) (.cons (.tmp rfl) (.cons (.tmp rfl) (.cons (.tmp rfl) .nil))))) fun Ko hKo => ?_;go_simp;try rw [hbe]
  refine hKo _ _ fun fa9 fh9 => ?_;clear hKo Ko fh8 fa8;refine Kn.call fh9 rfl rfl .none (Kn.ex_call fh9 (.cons (.tmp rfl) (.cons .const (.cons (.tmp rfl) .nil)))) Tryz.call34 (HSH.out) fun e u3 hp => ?_;obtain ⟨rfl, hJ3⟩ := hp;refine ⟨_, rfl, fun fa10 fh10 => ?_⟩;clear fh9 fa9;refine Kn.pure fh10 rfl rfl .none (Kn.ex_move fh10 (.tmp rfl)) fun fa11 fh11 => ?_;clear fh10 fa10;refine Kn.pure fh11 rfl rfl .none (Kn.ex_extract fh11 (.tmp rfl) rfl) fun fa12 fh12 => ?_;clear fh11 fa11;refine Kn.pure fh12 rfl rfl .none (Kn.ex_extract fh12 (.tmp rfl) rfl) fun fa13 fh13 => ?_;clear fh12 fa12;refine Kn.pure fh13 rfl rfl .none (Kn.ex_assign fh13 (.tmp rfl)) fun fa14 fh14 => ?_;clear fh13 fa13;refine Kn.pure fh14 rfl rfl .none (Kn.ex_assign fh14 (.tmp rfl)) fun fa15 fh15 => ?_;clear fh14 fa14;refine wpList_nil ?_;refine hK4 _ _ ?_;clear hK4 K4;replace fh15 := fh15.cut (.cons (t := 4) rfl (.cons (t := 3) rfl (.cons (t := 5) rfl (.cons (t := 2) rfl (.cons (t := 0) rfl .nil)))));have HR3 := Lib.hid hJ3.1;clear HSH hJ3 hbe HR2;obtain ⟨K4, hK4⟩ : ∃ K, okN s 0 4 = K := ⟨_, rfl⟩;have hK4l := okN_le s 0 4;rw [hK4] at hK4l
  by_cases h4 : K4 = 4
  rotate_left
  · obtain ⟨q, ce, hx, hc, hq⟩ := rdX_no (s := s) (a := 0) (n := 4) (Int.le_refl _) (by omega) (by rw [hK4]; omega);rw [hx] at fh15;unfold flV at fh15;have HCQ := Lib.hid (And.intro hc hq);clear hx hc hq;have HR3' : Hid (RK w g g5 #[.int .i64 (if 0 < K4 then valN s 0 0 else 0), .int .i64 (if 1 < K4 then valN s 0 1 else 0), .int .i64 (if 2 < K4 then valN s 0 2 else 0), .slice none 0 0, .int .i64 0, .string ⟨#[]⟩] (if 3 < K4 then valN s 0 3 else 0) u3) := Lib.hid (by rw [← hK4]; exact HR3.out);obtain ⟨z0, hz0⟩ : ∃ z, (if 0 < K4 then valN s 0 0 else 0) = z := ⟨_, rfl⟩;obtain ⟨z1, hz1⟩ : ∃ z, (if 1 < K4 then valN s 0 1 else 0) = z := ⟨_, rfl⟩;obtain ⟨z2, hz2⟩ : ∃ z, (if 2 < K4 then valN s 0 2 else 0) = z := ⟨_, rfl⟩;rw [hz0, hz1, hz2] at HR3';clear hz0 hz1 hz2 HR3;refine wp_seq_k fun K5 hK5 => ?_;refine wp_region_lit ?_;refine Kn.pure fh15 rfl rfl .none (Kn.ex_move fh15 (.tmp rfl)) fun fa16 fh16 => ?_;clear fh15 fa15;refine Kn.step fh16 rfl rfl .none (Kn.ex_bin fh16 (.tmp rfl) .const) fun Ko hKo => ?_;go_simp;(try go_bits);refine hKo _ _ fun fa17 fh17 => ?_;clear hKo Ko fh16 fa16;refine wpList_nil ?_;refine hK5 _ _ ?_;clear hK5 K5;replace fh17 := fh17.cut (.cons (t := 18) rfl (.cons (t := 4) rfl (.cons (t := 3) rfl (.cons (t := 5) rfl (.cons (t := 2) rfl (.cons (t := 0) rfl .nil))))));refine Kn.yes fh17 (.tmp rfl) ?_;replace fh17 := fh17.cut (.cons (t := 4) rfl (.cons (t := 3) rfl (.cons (t := 5) rfl (.cons (t := 2) rfl (.cons (t := 0) rfl .nil)))));have hld := loadM HR3'.out.st Tryz.underlying25 rfl (by kernel_rfl);obtain ⟨hst, hSn, hBn⟩ := HR3'.out.st.store (P := Tryz.prog) (cells := #[.int .i64 z0, .int .i64 z1, .int .i64 z2, .slice none 0 0, .int .i64 0, .string ⟨#[]⟩]) (by kernel_rfl) rfl (one_6 _ _ _ _ _ _ _ _);refine wp_seq_k fun K6 hK6 => ?_;refine wp_region_lit ?_;refine Kn.known fh17 rfl rfl .none (Kn.ex_load fh17 (.tmp rfl)) hld fun fa18 fh18 => ?_;clear fh17 fa17;refine Kn.pure fh18 rfl rfl .none (Kn.ex_move fh18 (.tmp rfl)) fun fa19 fh19 => ?_;clear fh18 fa18;refine Kn.pure fh19 rfl rfl .none (Kn.ex_move fh19 (.tmp rfl)) fun fa20 fh20 => ?_;clear fh19 fa19;refine Kn.stepU fh20 rfl .none (Kn.ex_store fh20 (.tmp rfl) (.tmp rfl)) fun Ko hKo => ?_;refine Kn.satU_runA hst ?_;refine hKo _ ?_;clear hKo Ko;refine Kn.pure fh20 rfl rfl .none (Kn.ex_assign fh20 (.tmp rfl)) fun fa21 fh21 => ?_;clear fh20 fa20;refine Kn.pure fh21 rfl rfl .none (Kn.ex_assign fh21 (.tmp rfl)) fun fa22 fh22 => ?_;clear fh21 fa21;refine wpList_nil ?_;refine hK6 _ _ ?_;clear hK6 K6;replace fh22 := fh22.cut (.cons (t := 4) rfl (.cons (t := 3) rfl (.cons (t := 5) rfl (.cons (t := 2) rfl (.cons (t := 0) rfl .nil)))));refine wp_ret ?_;refine Kn.then_ret ?_;exact Kn.retC3 fh22 rfl rfl rfl rfl (hSn.load Tryz.underlying25 rfl (by kernel_rfl)) ⟨⟨_, _, _, rfl, rfl, one_6 _ _ _ _ _ _ _ _, .inr ⟨_, _, rfl, HCQ.out⟩⟩, HR3'.out.bl.trans (hBn _ HR3'.out.ge)⟩
  subst h4;have g4 := (okN_spec (s := s) (a := 0) 4).1;rw [hK4] at g4;obtain ⟨t1, t2, t3⟩ := take_pos (s := s) (a := 0) (Int.le_refl _) (by omega) 4 g4;have hx := rdX_yes hK4;rw [hx, hK4] at fh15;have HK4 := Lib.hid hK4;have hm0 := t3 3 (by omega);obtain ⟨N0, hN0⟩ := Int.eq_ofNat_of_zero_le hm0.1;have HN0 := Lib.hid hN0;have HV := Lib.hid t3
  have HR4 : Hid (RK w g g5 #[.int .i64 (valN s 0 0), .int .i64 (valN s 0 1), .int .i64 (valN s 0 2), .slice none 0 0, .int .i64 0, .string ⟨#[]⟩] (N0 : Int) u3) := Lib.hid (by
    have := HR3.out;rw [hK4] at this;rw [← hN0]
    exact this)
  rw [hN0] at hm0;obtain ⟨v0, hv0⟩ : ∃ x, valN s 0 0 = x := ⟨_, rfl⟩;obtain ⟨v1, hv1⟩ : ∃ x, valN s 0 1 = x := ⟨_, rfl⟩;obtain ⟨v2, hv2⟩ : ∃ x, valN s 0 2 = x := ⟨_, rfl⟩;rw [hv0, hv1, hv2] at HR4;have HV0 := Lib.hid hv0;have HV1 := Lib.hid hv1;have HV2 := Lib.hid hv2;obtain ⟨a0, ha0⟩ : ∃ a, posN s 0 4 = a := ⟨_, rfl⟩;rw [ha0] at t1 fh15;have HA0 := Lib.hid ha0;clear hK4 hK4l g4 t2 t3 hx hN0 HR3 hv0 hv1 hv2 ha0;have m0 := HR4.out.mt.cell 0 rfl;refine wp_seq_k fun K5 hK5 => ?_;refine wp_region_lit ?_;refine Kn.pure fh15 rfl rfl .none (Kn.ex_move fh15 (.tmp rfl)) fun fa16 fh16 => ?_;clear fh15 fa15;refine Kn.step fh16 rfl rfl .none (Kn.ex_bin fh16 (.tmp rfl) .const) fun Ko hKo => ?_;go_simp;(try go_bits);refine hKo _ _ fun fa17 fh17 => ?_;clear hKo Ko fh16 fa16;refine wpList_nil ?_;refine hK5 _ _ ?_;clear hK5 K5;replace fh17 := fh17.cut (.cons (t := 18) rfl (.cons (t := 4) rfl (.cons (t := 3) rfl (.cons (t := 5) rfl (.cons (t := 2) rfl (.cons (t := 0) rfl .nil))))));refine Kn.no fh17 (.tmp rfl) ?_;refine wp_skip ?_;refine hK3 _ _ ?_;clear hK3 K3;replace fh17 := fh17.cut (.cons (t := 4) rfl (.cons (t := 3) rfl (.cons (t := 5) rfl (.cons (t := 2) rfl (.cons (t := 0) rfl .nil)))))
  by_cases hm : 64 < N0
  · have hmi : (64 : Int) < (N0 : Int) := by omega
    have hhk := HR4.out.on (show Below u3.heap.size u3 u3.drew from ⟨rfl, rfl, rfl, Nat.le_refl _, fun _ _ => rfl⟩);have HLD : Hid (∀ u, RK w g g5 #[.int .i64 v0, .int .i64 v1, .int .i64 v2, .slice none 0 0, .int .i64 0, .string ⟨#[]⟩] (N0 : Int) u → (Instr.loadAt 25 (.pointer (some ⟨g, 0, none⟩))).run Tryz.prog u = .ok (.agg #[.int .i64 v0, .int .i64 v1, .int .i64 v2, .slice none 0 0, .int .i64 0, .string ⟨#[]⟩]) u) := Lib.hid (fun u h => loadM h.st Tryz.underlying25 rfl (by kernel_rfl))
    have HST : Hid (∀ u, RK w g g5 #[.int .i64 v0, .int .i64 v1, .int .i64 v2, .slice none 0 0, .int .i64 0, .string ⟨#[]⟩] (N0 : Int) u → ∃ u', (Instr.storeAt 25 (.pointer (some ⟨g, 0, none⟩)) (.agg #[.int .i64 v0, .int .i64 v1, .int .i64 v2, .slice none 0 0, .int .i64 0, .string ⟨#[]⟩])).run Tryz.prog u = .ok () u' ∧ RK w g g5 #[.int .i64 v0, .int .i64 v1, .int .i64 v2, .slice none 0 0, .int .i64 0, .string ⟨#[]⟩] (N0 : Int) u') := Lib.hid (fun u h => by
      obtain ⟨h1, h2, h3⟩ := h.st.store (P := Tryz.prog) (cells := #[.int .i64 v0, .int .i64 v1, .int .i64 v2, .slice none 0 0, .int .i64 0, .string ⟨#[]⟩]) (by kernel_rfl) rfl (one_6 _ _ _ _ _ _ _ _);refine ⟨_, h1, h2, ?_, h.bl.trans (h3 _ h.ge), h.ge, h.ge5, h.ne⟩
      exact (setRow_other u g g5 _ (fun q => h.ne q.symm)).trans h.mt)
    refine wp_seq_k fun K6 hK6 => ?_;refine wp_seq_k fun K7 hK7 => ?_;refine wp_region_lit ?_;refine Kn.step fh17 rfl rfl .none (Kn.ex_load fh17 (.tmp rfl)) fun Ko hKo => ?_;go_simp;(try go_bits);refine hKo _ _ fun fa18 fh18 => ?_;clear hKo Ko fh17 fa17;refine Kn.step fh18 rfl rfl .none (Kn.ex_bin fh18 (.tmp rfl) .const) fun Ko hKo => ?_;go_simp;(try go_bits);refine hKo _ _ fun fa19 fh19 => ?_;clear hKo Ko fh18 fa18;refine wpList_nil ?_;refine hK7 _ _ ?_;clear hK7 K7;replace fh19 := fh19.cut (.cons (t := 23) rfl (.cons (t := 4) rfl (.cons (t := 3) rfl (.cons (t := 5) rfl (.cons (t := 2) rfl (.cons (t := 0) rfl .nil))))));refine Kn.yes fh19 (.tmp rfl) ?_;replace fh19 := fh19.cut (.cons (t := 4) rfl (.cons (t := 3) rfl (.cons (t := 5) rfl (.cons (t := 2) rfl (.cons (t := 0) rfl .nil)))));refine wp_seq_k fun K8 hK8 => ?_;have hOld19 := fh19.cut (.cons (t := 3) rfl .nil);replace fh19 := fh19.cut (.cons (t := 5) rfl (.cons (t := 2) rfl (.cons (t := 0) rfl .nil)));refine Kn.anyO (fun u => RK w g g5 #[.int .i64 v0, .int .i64 v1, .int .i64 v2, .slice none 0 0, .int .i64 0, .string ⟨#[]⟩] (N0 : Int) u) (fun _ _ => True) (Kn.TL [Kn.Is (.agg #[.int .i64 v0, .int .i64 v1, .int .i64 v2, .slice none 0 0, .int .i64 0, .string ⟨#[]⟩]), Kn.Is (.int .i64 a0), Kn.Is (flV 3 4), Kn.Is (undef), Kn.Is (.int .i64 a0), Kn.Is (flV 3 4)]) (by kernel_rfl) fh19 hOld19 (by kernel_rfl) (by kernel_rfl) rfl (Kn.Keeps.all (.cons Kn.Is.keep (.cons Kn.Is.keep (.cons Kn.Is.keep (.cons Kn.Is.keep (.cons Kn.Is.keep (.cons Kn.Is.keep .nil))))))) hhk ⟨?_, ?_, ?_, ?_, ?_, ?_, trivial⟩ ?_
    · refine Kn.okO fun fa20 x L fh20 hOl hS hH => ?_;exact Kn.aop fh20 .none (Kn.ex_load fh20 (.tmp rfl)) fun Ko hKo => by rw [(HLD.out _ hS)]; exact hKo _ _ rfl hS trivial
    · refine Kn.okO fun fa20 x L fh20 hOl hS hH => ?_;replace fh20 := fh20.more (show fa20.eval (.tmp 3) = .int .i64 a0 from hOl 3 _ 4 rfl rfl (by kernel_rfl));exact Kn.apure fh20 .none (Kn.ex_move fh20 (.tmp rfl)) rfl hS trivial
    · refine Kn.okO fun fa20 x L fh20 hOl hS hH => ?_;refine Kn.acall fh20 .none (Kn.ex_call fh20 (.cons .const .nil)) Tryz.call26 (wrong_v 3 x) fun e x2 hp => ?_;obtain ⟨rfl, rfl⟩ := hp;exact ⟨_, rfl, rfl, hS, trivial⟩
    · refine Kn.okO fun fa20 x L fh20 hOl hS hH => ?_;replace fh20 := fh20.more (show fa20.eval (.tmp 24) = .agg #[.int .i64 v0, .int .i64 v1, .int .i64 v2, .slice none 0 0, .int .i64 0, .string ⟨#[]⟩] from hH 0 24 rfl rfl);obtain ⟨x9, hst9, hS9⟩ := HST.out x hS;refine Kn.aopU fh20 rfl .none (Kn.ex_store fh20 (.tmp rfl) (.tmp rfl)) fun Ko hKo => ?_;refine Kn.satU_runA hst9 ?_;exact hKo _ rfl hS9 trivial
    · refine Kn.okO fun fa20 x L fh20 hOl hS hH => ?_;replace fh20 := fh20.more (show fa20.eval (.tmp 25) = .int .i64 a0 from hH 1 25 rfl rfl);exact Kn.apure fh20 .none (Kn.ex_assign fh20 (.tmp rfl)) rfl hS trivial
    · refine Kn.okO fun fa20 x L fh20 hOl hS hH => ?_;replace fh20 := fh20.more (show fa20.eval (.tmp 26) = flV 3 4 from hH 2 26 rfl rfl);exact Kn.apure fh20 .none (Kn.ex_assign fh20 (.tmp rfl)) rfl hS trivial
    intro fa20 v9 fh20 hS hT hU;clear hOld19;clear fh19 fa19;replace fh20 := fh20.more (show fa20.eval (.tmp 3) = .int .i64 a0 from hT 4 3 rfl);replace fh20 := fh20.more (show fa20.eval (.tmp 4) = flV 3 4 from hT 5 4 rfl);clear hT;refine hK8 _ _ ?_;clear hK8 K8;refine wp_ret ?_;refine Kn.then_ret ?_;exact Kn.retC3 fh20 rfl rfl rfl rfl (hS.st.load Tryz.underlying25 rfl (by kernel_rfl)) ⟨⟨_, _, _, rfl, rfl, one_6 _ _ _ _ _ _ _ _, .inr ⟨_, _, rfl, .inl rfl, by omega⟩⟩, hS.bl⟩
  have hmi : ¬ (64 : Int) < (N0 : Int) := by omega
  obtain ⟨u4, hmk, hO4, hb4⟩ := makeG (P := Tryz.prog) ipR elemSH (0, 0) rfl u3 N0 (by show N0 * 2 ≤ 1000000; omega) (by omega) (by omega);obtain ⟨gs, hgs⟩ : ∃ q, u3.heap.size = q := ⟨_, rfl⟩;rw [hgs] at hmk hO4;have hH4 := hold_of hO4;have hR4 := HR4.out.on hb4
  have hgl : g ≠ gs ∧ g5 ≠ gs ∧ w.heap.size ≤ gs := by
    have h1 := HR4.out.st.lt;have h2 := HR4.out.mt.lt;have h3 := HR4.out.bl.size;omega
  obtain ⟨u5, hst, hR5, hh5, hz5⟩ := hR4.put 3 (sQ (some ⟨gs, 0, none⟩) N0 N0) (by simp);have HR5 : Hid (RK w g g5 #[.int .i64 v0, .int .i64 v1, .int .i64 v2, .slice (some ⟨gs, 0, none⟩) N0 N0, .int .i64 0, .string ⟨#[]⟩] (N0 : Int) u5) := Lib.hid hR5;have HH5 : Hid (Hold ipR u5 gs (List.replicate N0 (0, 0))) := Lib.hid (hH4.at (Nat.le_of_eq hz5.symm) (hh5 gs (fun q => hgl.1 q.symm)));clear hO4 hb4 hgs hH4 hR4 hR5 hh5 hz5;refine wp_seq_k fun K6 hK6 => ?_;refine wp_seq_k fun K7 hK7 => ?_;refine wp_region_lit ?_;refine Kn.step fh17 rfl rfl .none (Kn.ex_load fh17 (.tmp rfl)) fun Ko hKo => ?_;go_simp;(try go_bits);refine hKo _ _ fun fa18 fh18 => ?_;clear hKo Ko fh17 fa17;refine Kn.step fh18 rfl rfl .none (Kn.ex_bin fh18 (.tmp rfl) .const) fun Ko hKo => ?_;go_simp;(try go_bits);refine hKo _ _ fun fa19 fh19 => ?_;clear hKo Ko fh18 fa18;refine wpList_nil ?_;refine hK7 _ _ ?_;clear hK7 K7;replace fh19 := fh19.cut (.cons (t := 23) rfl (.cons (t := 4) rfl (.cons (t := 3) rfl (.cons (t := 5) rfl (.cons (t := 2) rfl (.cons (t := 0) rfl .nil))))));refine Kn.no fh19 (.tmp rfl) ?_;refine wp_skip ?_;refine hK6 _ _ ?_;clear hK6 K6;replace fh19 := fh19.cut (.cons (t := 4) rfl (.cons (t := 3) rfl (.cons (t := 5) rfl (.cons (t := 2) rfl (.cons (t := 0) rfl .nil)))));refine wp_seq_k fun K8 hK8 => ?_;refine wp_region_lit ?_;refine Kn.step fh19 rfl rfl .none (Kn.ex_load fh19 (.tmp rfl)) fun Ko hKo => ?_;go_simp;(try go_bits);refine hKo _ _ fun fa20 fh20 => ?_;clear hKo Ko fh19 fa19;refine Kn.known fh20 rfl rfl .none (Kn.ex_makeSlice fh20 (.tmp rfl) (.tmp rfl)) hmk fun fa21 fh21 => ?_;clear fh20 fa20;refine Kn.step fh21 rfl rfl .none (Kn.ex_fieldAddr fh21 (.tmp rfl)) fun Ko hKo => ?_;go_simp;(try go_bits);refine hKo _ _ fun fa22 fh22 => ?_;clear hKo Ko fh21 fa21;refine Kn.stepU fh22 rfl .none (Kn.ex_store fh22 (.tmp rfl) (.tmp rfl)) fun Ko hKo => ?_;refine Kn.satU_runA hst ?_;refine hKo _ ?_;clear hKo Ko;refine wpList_nil ?_;refine hK8 _ _ ?_;clear hK8 K8;replace fh22 := fh22.cut (.cons (t := 4) rfl (.cons (t := 3) rfl (.cons (t := 2) rfl (.cons (t := 0) rfl .nil))));clear hmk hst m0 HR4;have k3 := HR5.out.st.cell 3 rfl;refine wp_seq_k fun K9 hK9 => ?_;refine wp_seq_k fun K10 hK10 => ?_;refine wp_region_lit ?_;refine Kn.step fh22 rfl rfl .none (Kn.ex_fieldAddr fh22 (.tmp rfl)) fun Ko hKo => ?_;go_simp;(try go_bits);refine hKo _ _ fun fa23 fh23 => ?_;clear hKo Ko fh22 fa22;refine Kn.step fh23 rfl rfl .none (Kn.ex_load fh23 (.tmp rfl)) fun Ko hKo => ?_;go_simp;(try go_bits);refine hKo _ _ fun fa24 fh24 => ?_;clear hKo Ko fh23 fa23;refine Kn.step fh24 rfl rfl .none (Kn.ex_len fh24 (.tmp rfl)) fun Ko hKo => ?_;go_simp;(try go_bits);refine hKo _ _ fun fa25 fh25 => ?_;clear hKo Ko fh24 fa24;refine Kn.pure fh25 rfl rfl .none (Kn.ex_move fh25 .const) fun fa26 fh26 => ?_;clear fh25 fa25;refine wpList_nil ?_;refine hK10 _ _ ?_;clear hK10 K10;replace fh26 := fh26.cut (.cons (t := 33) rfl (.cons (t := 32) rfl (.cons (t := 4) rfl (.cons (t := 3) rfl (.cons (t := 2) rfl (.cons (t := 0) rfl .nil))))));clear k3;refine wp_block ?_;refine Kn.loop (fun mm fr v => ∃ (i : Nat) (at9 : Int) (ls : List (Int × Int)), Kn.Kn 83 [(0, .string s), (2, .pointer (some ⟨g, 0, none⟩)), (3, .int .i64 at9), (32, .int .i64 (N0 : Int)), (33, .int .i64 (i : Int))] fr ∧ Hid (i + mm = N0 ∧ at9 = posP s a0 i ∧ ls.length = N0 ∧ ∀ j, j < i → ls[j]? = some (pairP s a0 j)) ∧ Hid (PrOk s a0 i) ∧ Hid (RK w g g5 #[.int .i64 v0, .int .i64 v1, .int .i64 v2, .slice (some ⟨gs, 0, none⟩) N0 N0, .int .i64 0, .string ⟨#[]⟩] (N0 : Int) v ∧ Hold ipR v gs ls)) N0 ⟨0, a0, List.replicate N0 (0, 0), fh26.cut (.cons (t := 0) rfl (.cons (t := 2) rfl (.turn (t := 3) rfl rfl (.cons (t := 32) rfl (.turn (t := 33) rfl (by go_num) .nil))))), Lib.hid ⟨by omega, rfl, by simp, fun j h => absurd h (Nat.not_lt_zero _)⟩, Lib.hid (PrOk.start t1.1 t1.2), Lib.hid ⟨HR5.out, HH5.out⟩⟩ ?_;clear fh26 fa26;intro m11 fa27 v hI Kl11 hKl11;obtain ⟨i, at9, ls, fh27, hi, HPO, HK⟩ := hI;have hile : i ≤ N0 := by have := hi.out.1; omega
  by_cases hlt : i < N0
  · have hlti : (i : Int) < (N0 : Int) := by omega
    have k3 := HK.out.1.st.cell 3 rfl;have n1 : ¬ (N0 : Int) ≤ (i : Int) := by omega
    have n2 : ¬ (i : Int) < 0 := by omega
    refine wp_seq_k fun K12 hK12 => ?_;refine wp_region_lit ?_;refine Kn.step fh27 rfl rfl .none (Kn.ex_bin fh27 (.tmp rfl) (.tmp rfl)) fun Ko hKo => ?_;go_simp;(try go_bits);refine hKo _ _ fun fa28 fh28 => ?_;clear hKo Ko fh27 fa27;refine wpList_nil ?_;refine hK12 _ _ ?_;clear hK12 K12;refine wp_seq_k fun K13 hK13 => ?_;refine Kn.yes fh28 (.tmp rfl) ?_;refine wp_skip ?_;refine hK13 _ _ ?_;clear hK13 K13;replace fh28 := fh28.cut (.cons (t := 0) rfl (.cons (t := 2) rfl (.cons (t := 3) rfl (.cons (t := 32) rfl (.cons (t := 33) rfl .nil)))));refine wp_seq_k fun K14 hK14 => ?_;refine wp_block ?_;refine wp_seq_k fun K15 hK15 => ?_;refine wp_region_lit ?_;refine Kn.pure fh28 rfl rfl .none (Kn.ex_move fh28 (.tmp rfl)) fun fa29 fh29 => ?_;clear fh28 fa28;refine Kn.pure fh29 rfl rfl .none (Kn.ex_assign fh29 (.tmp rfl)) fun fa30 fh30 => ?_;clear fh29 fa29;refine wpList_nil ?_;refine hK15 _ _ ?_;clear hK15 K15;replace fh30 := fh30.cut (.cons (t := 6) rfl (.cons (t := 0) rfl (.cons (t := 2) rfl (.cons (t := 3) rfl (.cons (t := 32) rfl (.cons (t := 33) rfl .nil))))));refine wp_seq_k fun K16 hK16 => ?_;refine wp_region_lit ?_;refine Kn.step fh30 rfl rfl .none (Kn.ex_fieldAddr fh30 (.tmp rfl)) fun Ko hKo => ?_;go_simp;(try go_bits);refine hKo _ _ fun fa31 fh31 => ?_;clear hKo Ko fh30 fa30;refine Kn.step fh31 rfl rfl .none (Kn.ex_load fh31 (.tmp rfl)) fun Ko hKo => ?_;go_simp;(try go_bits);refine hKo _ _ fun fa32 fh32 => ?_;clear hKo Ko fh31 fa31;refine Kn.pure fh32 rfl rfl .none (Kn.ex_move fh32 (.tmp rfl)) fun fa33 fh33 => ?_;clear fh32 fa32;refine Kn.step fh33 rfl rfl .none (Kn.ex_indexAddr fh33 (.tmp rfl) (.tmp rfl)) fun Ko hKo => ?_;go_simp;(try go_bits);refine hKo _ _ fun fa34 fh34 => ?_;clear hKo Ko fh33 fa33;refine Kn.pure fh34 rfl rfl .none (Kn.ex_assign fh34 (.tmp rfl)) fun fa35 fh35 => ?_;clear fh34 fa34;refine wpList_nil ?_;refine hK16 _ _ ?_;clear hK16 K16;replace fh35 := fh35.cut (.cons (t := 7) rfl (.cons (t := 0) rfl (.cons (t := 2) rfl (.cons (t := 3) rfl (.cons (t := 32) rfl (.cons (t := 33) rfl .nil))))));clear k3 n1 n2;have hHs := HK.out.2;have hhk : SP w g g5 gs i #[.int .i64 v0, .int .i64 v1, .int .i64 v2, .slice (some ⟨gs, 0, none⟩) N0 N0, .int .i64 0, .string ⟨#[]⟩] (N0 : Int) ls v.drew := ⟨HK.out.1.on ⟨rfl, rfl, rfl, Nat.le_refl _, fun _ _ => rfl⟩, ls, hHs, rfl, fun _ _ => rfl⟩;obtain ⟨X, hX⟩ : ∃ X, rdX s at9 2 = X := ⟨_, rfl⟩;obtain ⟨pn, hpn⟩ : ∃ p, posN s at9 (okN s at9 2) = p := ⟨_, rfl⟩;have HX := Lib.hid hX;have HPN := Lib.hid hpn
    have HCL : Hid (∀ b u, SP w g g5 gs i #[.int .i64 v0, .int .i64 v1, .int .i64 v2, .slice (some ⟨gs, 0, none⟩) N0 N0, .int .i64 0, .string ⟨#[]⟩] (N0 : Int) ls u → PRow b [⟨gs, i * 2, none⟩, ⟨gs, i * 2 + 1, none⟩] u → b ≠ gs → Calls Tryz.prog 34 #[.string s, .int .i64 at9, .slice (some ⟨b, 0, none⟩) 2 2] u fun e u' => e = .returned (.tuple #[.int .i64 pn, X]) ∧ JK s at9 gs i ls u' ∧ SP w g g5 gs i #[.int .i64 v0, .int .i64 v1, .int .i64 v2, .slice (some ⟨gs, 0, none⟩) N0 N0, .int .i64 0, .string ⟨#[]⟩] (N0 : Int) ls u' ∧ GP s at9 gs i ls u u') := Lib.hid (fun b u h1 h2 h3 => by
      rw [← hX, ← hpn]
      exact pair_call s at9 w g g5 gs i _ _ ls b u hml hgl (by have := hi.out.2.2.1; omega) h1 h2 h3)
    have HNB : Hid (∀ u, SP w g g5 gs i #[.int .i64 v0, .int .i64 v1, .int .i64 v2, .slice (some ⟨gs, 0, none⟩) N0 N0, .int .i64 0, .string ⟨#[]⟩] (N0 : Int) ls u → PSl gs i (.slice (some ⟨u.heap.size, 0, none⟩) 2 2) (u.alloc (.cells #[.pointer (some ⟨gs, i * 2, none⟩), .pointer (some ⟨gs, i * 2 + 1, none⟩)] 77))) := Lib.hid (fun u h => by
      obtain ⟨l, h1, -⟩ := h.2;have h2 := h1.1
      exact ⟨u.heap.size, rfl, PRow.new (ps := [⟨gs, i * 2, none⟩, ⟨gs, i * 2 + 1, none⟩]) u 77, by omega⟩)
    clear hX hpn hHs;refine wp_seq_k fun K17 hK17 => ?_;have hOld35 := fh35.cut (.cons (t := 3) rfl .nil);replace fh35 := fh35.cut (.cons (t := 7) rfl (.cons (t := 0) rfl (.cons (t := 2) rfl (.cons (t := 32) rfl (.cons (t := 33) rfl .nil)))));refine Kn.anyO (fun u => SP w g g5 gs i #[.int .i64 v0, .int .i64 v1, .int .i64 v2, .slice (some ⟨gs, 0, none⟩) N0 N0, .int .i64 0, .string ⟨#[]⟩] (N0 : Int) ls u) (GP s at9 gs i ls) (Kn.TL [Kn.Is (.string s), Kn.Is (.int .i64 at9), Kn.Is (.pointer (some ⟨gs, i * 2, none⟩)), Kn.Is (.pointer (some ⟨gs, i * 2, none⟩)), Kn.Is (.pointer (some ⟨gs, i * 2, none⟩)), Kn.Is (.pointer (some ⟨gs, i * 2, none⟩)), Kn.Is (.pointer (some ⟨gs, i * 2, none⟩)), Kn.Is (.pointer (some ⟨gs, i * 2 + 1, none⟩)), (PSl gs i), (RV s at9 gs i ls (.tuple #[.int .i64 pn, X])), (RV s at9 gs i ls (.tuple #[.int .i64 pn, X])), Kn.Is (.int .i64 pn), (RV s at9 gs i ls (X)), Kn.Is (.int .i64 pn), (RV s at9 gs i ls (X))]) (by kernel_rfl) fh35 hOld35 (by kernel_rfl) (by kernel_rfl) rfl (Kn.Keeps.all (.cons Kn.Is.keep (.cons Kn.Is.keep (.cons Kn.Is.keep (.cons Kn.Is.keep (.cons Kn.Is.keep (.cons Kn.Is.keep (.cons Kn.Is.keep (.cons Kn.Is.keep (.cons (fun v _ _ hG h => hG.1 v h) (.cons RV.keep (.cons RV.keep (.cons Kn.Is.keep (.cons RV.keep (.cons Kn.Is.keep (.cons RV.keep .nil)))))))))))))))) hhk ⟨?_, ?_, ?_, ?_, ?_, ?_, ?_, ?_, ?_, ?_, ?_, ?_, ?_, ?_, ?_, trivial⟩ ?_
    · refine Kn.okO fun fa36 x L fh36 hOl hS hH => ?_;exact Kn.apure fh36 .none (Kn.ex_move fh36 (.tmp rfl)) rfl hS (GP.refl _ _ _ _ _ _)
    · refine Kn.okO fun fa36 x L fh36 hOl hS hH => ?_;replace fh36 := fh36.more (show fa36.eval (.tmp 3) = .int .i64 at9 from hOl 3 _ 13 rfl rfl (by kernel_rfl));exact Kn.apure fh36 .none (Kn.ex_move fh36 (.tmp rfl)) rfl hS (GP.refl _ _ _ _ _ _)
    · refine Kn.okO fun fa36 x L fh36 hOl hS hH => ?_;exact Kn.apure fh36 .none (Kn.ex_move fh36 (.tmp rfl)) rfl hS (GP.refl _ _ _ _ _ _)
    · refine Kn.okO fun fa36 x L fh36 hOl hS hH => ?_;replace fh36 := fh36.more (show fa36.eval (.tmp 43) = .pointer (some ⟨gs, i * 2, none⟩) from hH 2 43 rfl rfl);exact Kn.apure fh36 .none (Kn.ex_nilCheck fh36 (.tmp rfl)) rfl hS (GP.refl _ _ _ _ _ _)
    · refine Kn.okO fun fa36 x L fh36 hOl hS hH => ?_;replace fh36 := fh36.more (show fa36.eval (.tmp 44) = .pointer (some ⟨gs, i * 2, none⟩) from hH 3 44 rfl rfl);refine Kn.aop fh36 .none (Kn.ex_fieldAddr fh36 (.tmp rfl)) fun Ko hKo => ?_;go_simp;(try go_bits);exact hKo _ _ rfl hS (GP.refl _ _ _ _ _ _)
    · refine Kn.okO fun fa36 x L fh36 hOl hS hH => ?_;exact Kn.apure fh36 .none (Kn.ex_move fh36 (.tmp rfl)) rfl hS (GP.refl _ _ _ _ _ _)
    · refine Kn.okO fun fa36 x L fh36 hOl hS hH => ?_;replace fh36 := fh36.more (show fa36.eval (.tmp 46) = .pointer (some ⟨gs, i * 2, none⟩) from hH 5 46 rfl rfl);exact Kn.apure fh36 .none (Kn.ex_nilCheck fh36 (.tmp rfl)) rfl hS (GP.refl _ _ _ _ _ _)
    · refine Kn.okO fun fa36 x L fh36 hOl hS hH => ?_;replace fh36 := fh36.more (show fa36.eval (.tmp 47) = .pointer (some ⟨gs, i * 2, none⟩) from hH 6 47 rfl rfl);refine Kn.aop fh36 .none (Kn.ex_fieldAddr fh36 (.tmp rfl)) fun Ko hKo => ?_;go_simp;(try go_bits);exact hKo _ _ rfl hS (GP.refl _ _ _ _ _ _)
    · refine Kn.okO fun fa36 x L fh36 hOl hS hH => ?_;replace fh36 := fh36.more (show fa36.eval (.tmp 45) = .pointer (some ⟨gs, i * 2, none⟩) from hH 4 45 rfl rfl);replace fh36 := fh36.more (show fa36.eval (.tmp 48) = .pointer (some ⟨gs, i * 2 + 1, none⟩) from hH 7 48 rfl rfl);refine Kn.aop fh36 .none (Kn.ex_buildSlice fh36 (.cons (.tmp rfl) (.cons (.tmp rfl) .nil))) fun Ko hKo => ?_;go_simp;(try go_bits);exact hKo _ _ (HNB.out _ hS) (hS.on ((Below.refl _ x).alloc (Nat.le_refl _) _)) (GP.below ((Below.refl _ x).alloc (Nat.le_refl _) _))
    · refine Kn.okO fun fa36 x L fh36 hOl hS hH => ?_;replace fh36 := fh36.more (show fa36.eval (.tmp 41) = .string s from hH 0 41 rfl rfl);replace fh36 := fh36.more (show fa36.eval (.tmp 42) = .int .i64 at9 from hH 1 42 rfl rfl);obtain ⟨b49, e49, hP49, hn49⟩ : (PSl gs i) (fa36.eval (.tmp 49)) x := hH 8 49 rfl rfl;replace fh36 := fh36.more e49;clear e49;refine Kn.acall fh36 .none (Kn.ex_call fh36 (.cons (.tmp rfl) (.cons (.tmp rfl) (.cons (.tmp rfl) .nil)))) Tryz.call34 (HCL.out b49 _ hS hP49 hn49) fun e x2 hp => ?_;obtain ⟨rfl, hJx, hSx, hGx⟩ := hp;exact ⟨_, rfl, ⟨rfl, hJx⟩, hSx, hGx⟩
    · refine Kn.okO fun fa36 x L fh36 hOl hS hH => ?_;obtain ⟨e50, hJ50⟩ : (RV s at9 gs i ls (.tuple #[.int .i64 pn, X])) (fa36.eval (.tmp 50)) x := hH 9 50 rfl rfl;replace fh36 := fh36.more e50;clear e50;exact Kn.apure fh36 .none (Kn.ex_move fh36 (.tmp rfl)) ⟨rfl, hJ50⟩ hS (GP.refl _ _ _ _ _ _)
    · refine Kn.okO fun fa36 x L fh36 hOl hS hH => ?_;obtain ⟨e40, hJ40⟩ : (RV s at9 gs i ls (.tuple #[.int .i64 pn, X])) (fa36.eval (.tmp 40)) x := hH 10 40 rfl rfl;replace fh36 := fh36.more e40;clear e40;exact Kn.apure fh36 .none (Kn.ex_extract fh36 (.tmp rfl) rfl) rfl hS (GP.refl _ _ _ _ _ _)
    · refine Kn.okO fun fa36 x L fh36 hOl hS hH => ?_;obtain ⟨e40, hJ40⟩ : (RV s at9 gs i ls (.tuple #[.int .i64 pn, X])) (fa36.eval (.tmp 40)) x := hH 10 40 rfl rfl;replace fh36 := fh36.more e40;clear e40;exact Kn.apure fh36 .none (Kn.ex_extract fh36 (.tmp rfl) rfl) ⟨rfl, hJ40⟩ hS (GP.refl _ _ _ _ _ _)
    · refine Kn.okO fun fa36 x L fh36 hOl hS hH => ?_;replace fh36 := fh36.more (show fa36.eval (.tmp 51) = .int .i64 pn from hH 11 51 rfl rfl);exact Kn.apure fh36 .none (Kn.ex_assign fh36 (.tmp rfl)) rfl hS (GP.refl _ _ _ _ _ _)
    · refine Kn.okO fun fa36 x L fh36 hOl hS hH => ?_;obtain ⟨e52, hJ52⟩ : (RV s at9 gs i ls (X)) (fa36.eval (.tmp 52)) x := hH 12 52 rfl rfl;replace fh36 := fh36.more e52;clear e52;exact Kn.apure fh36 .none (Kn.ex_assign fh36 (.tmp rfl)) ⟨rfl, hJ52⟩ hS (GP.refl _ _ _ _ _ _)
    intro fa36 v9 fh36 hS hT hU;clear hOld35 hU;clear fh35 fa35;replace fh36 := fh36.more (show fa36.eval (.tmp 3) = .int .i64 pn from hT 13 3 rfl);obtain ⟨e4, hJ4⟩ : (RV s at9 gs i ls (X)) (fa36.eval (.tmp 4)) v9 := hT 14 4 rfl;replace fh36 := fh36.more e4;clear hT;refine hK17 _ _ ?_;clear hK17 K17;replace fh36 := fh36.cut (.cons (t := 4) rfl (.cons (t := 3) rfl (.cons (t := 0) rfl (.cons (t := 2) rfl (.cons (t := 32) rfl (.cons (t := 33) rfl .nil))))));clear HCL HNB hhk;have HR9 := Lib.hid hS.1;have HJ9 := Lib.hid hJ4;clear hS hJ4 e4;have hat := hi.out.2.1;have hpl := HPO.out.lo;have hph := HPO.out.hi;rw [← hat] at hpl hph;obtain ⟨K2, hK2⟩ : ∃ K, okN s at9 2 = K := ⟨_, rfl⟩;have hK2l := okN_le s at9 2;rw [hK2] at hK2l;have HK2 := Lib.hid hK2;clear hat hK2
    by_cases h2 : K2 = 2
    rotate_left
    · obtain ⟨q, ce, hx, hc, hq⟩ := rdX_no (s := s) (a := at9) (n := 2) hpl hph (by rw [HK2.out]; omega);rw [HX.out] at hx;subst hx;unfold flV at fh36;have HCQ := Lib.hid (And.intro hc hq);clear hc hq;refine wp_seq_k fun K18 hK18 => ?_;refine wp_region_lit ?_;refine Kn.pure fh36 rfl rfl .none (Kn.ex_move fh36 (.tmp rfl)) fun fa37 fh37 => ?_;clear fh36 fa36;refine Kn.step fh37 rfl rfl .none (Kn.ex_bin fh37 (.tmp rfl) .const) fun Ko hKo => ?_;go_simp;(try go_bits);refine hKo _ _ fun fa38 fh38 => ?_;clear hKo Ko fh37 fa37;refine wpList_nil ?_;refine hK18 _ _ ?_;clear hK18 K18;replace fh38 := fh38.cut (.cons (t := 54) rfl (.cons (t := 4) rfl (.cons (t := 3) rfl (.cons (t := 0) rfl (.cons (t := 2) rfl (.cons (t := 32) rfl (.cons (t := 33) rfl .nil)))))));refine Kn.yes fh38 (.tmp rfl) ?_;replace fh38 := fh38.cut (.cons (t := 4) rfl (.cons (t := 3) rfl (.cons (t := 0) rfl (.cons (t := 2) rfl (.cons (t := 32) rfl (.cons (t := 33) rfl .nil))))));have hld := loadM HR9.out.st Tryz.underlying25 rfl (by kernel_rfl);obtain ⟨hst, hSn, hBn⟩ := HR9.out.st.store (P := Tryz.prog) (cells := #[.int .i64 v0, .int .i64 v1, .int .i64 v2, .slice (some ⟨gs, 0, none⟩) N0 N0, .int .i64 0, .string ⟨#[]⟩]) (by kernel_rfl) rfl (one_6 _ _ _ _ _ _ _ _);refine wp_seq_k fun K19 hK19 => ?_;refine wp_region_lit ?_;refine Kn.known fh38 rfl rfl .none (Kn.ex_load fh38 (.tmp rfl)) hld fun fa39 fh39 => ?_;clear fh38 fa38;refine Kn.pure fh39 rfl rfl .none (Kn.ex_move fh39 (.tmp rfl)) fun fa40 fh40 => ?_;clear fh39 fa39;refine Kn.pure fh40 rfl rfl .none (Kn.ex_move fh40 (.tmp rfl)) fun fa41 fh41 => ?_;clear fh40 fa40;refine Kn.stepU fh41 rfl .none (Kn.ex_store fh41 (.tmp rfl) (.tmp rfl)) fun Ko hKo => ?_;refine Kn.satU_runA hst ?_;refine hKo _ ?_;clear hKo Ko;refine Kn.pure fh41 rfl rfl .none (Kn.ex_assign fh41 (.tmp rfl)) fun fa42 fh42 => ?_;clear fh41 fa41;refine Kn.pure fh42 rfl rfl .none (Kn.ex_assign fh42 (.tmp rfl)) fun fa43 fh43 => ?_;clear fh42 fa42;refine wpList_nil ?_;refine hK19 _ _ ?_;clear hK19 K19;replace fh43 := fh43.cut (.cons (t := 4) rfl (.cons (t := 3) rfl (.cons (t := 0) rfl (.cons (t := 2) rfl (.cons (t := 32) rfl (.cons (t := 33) rfl .nil))))));refine wp_ret ?_;refine Kn.block_ret ?_;refine Kn.then_ret ?_;refine Kn.then_ret ?_;refine Kn.block_ret ?_;refine Kn.then_ret ?_;exact Kn.retC3 fh43 rfl rfl rfl rfl (hSn.load Tryz.underlying25 rfl (by kernel_rfl)) ⟨⟨_, _, _, rfl, rfl, one_6 _ _ _ _ _ _ _ _, .inr ⟨_, _, rfl, HCQ.out⟩⟩, HR9.out.bl.trans (hBn _ HR9.out.ge)⟩
    subst h2;have hx := rdX_yes HK2.out;rw [HX.out] at hx;subst hx;obtain ⟨l9, hH9, hl9, ho9, hv9⟩ := HJ9.out;have hv9' := hv9 HK2.out;have hpn2 : pn = posP s a0 (i + 1) := by rw [← HPN.out, HK2.out, hi.out.2.1]; rfl
    have hnext := HPO.out.next (by rw [← hi.out.2.1]; exact HK2.out)
    have HL9 : Hid (l9.length = N0 ∧ ∀ j, j < i + 1 → l9[j]? = some (pairP s a0 j)) := Lib.hid ⟨by rw [hl9]; exact hi.out.2.2.1, fun j hj => by
      by_cases e : j = i
      · subst e;have hjl : j < l9.length := by have := hi.out.2.2.1; omega
        have e1 : l9.getD j (0, 0) = l9[j] := by rw [List.getD_eq_getElem?_getD, List.getElem?_eq_getElem hjl]; rfl
        unfold fst byt at hv9';rw [e1] at hv9';rw [List.getElem?_eq_getElem hjl];unfold pairP;rw [← hi.out.2.1, ← hv9'.1, ← hv9'.2]
      · rw [ho9 j e]
        exact hi.out.2.2.2 j (by omega)⟩
    have HH9 := Lib.hid hH9;have HNX := Lib.hid hnext;have HP2 := Lib.hid hpn2;clear hH9 hl9 ho9 hv9 hv9' hnext hpn2;refine wp_seq_k fun K18 hK18 => ?_;refine wp_region_lit ?_;refine Kn.pure fh36 rfl rfl .none (Kn.ex_move fh36 (.tmp rfl)) fun fa37 fh37 => ?_;clear fh36 fa36;refine Kn.step fh37 rfl rfl .none (Kn.ex_bin fh37 (.tmp rfl) .const) fun Ko hKo => ?_;go_simp;(try go_bits);refine hKo _ _ fun fa38 fh38 => ?_;clear hKo Ko fh37 fa37;refine wpList_nil ?_;refine hK18 _ _ ?_;clear hK18 K18;replace fh38 := fh38.cut (.cons (t := 54) rfl (.cons (t := 4) rfl (.cons (t := 3) rfl (.cons (t := 0) rfl (.cons (t := 2) rfl (.cons (t := 32) rfl (.cons (t := 33) rfl .nil)))))));refine Kn.no fh38 (.tmp rfl) ?_;refine wp_skip ?_;refine Kn.block_normal ?_;refine hK14 _ _ ?_;clear hK14 K14;replace fh38 := fh38.cut (.cons (t := 4) rfl (.cons (t := 3) rfl (.cons (t := 0) rfl (.cons (t := 2) rfl (.cons (t := 32) rfl (.cons (t := 33) rfl .nil))))));refine wp_region_lit ?_;refine Kn.step fh38 rfl rfl .none (Kn.ex_bin fh38 (.tmp rfl) .const) fun Ko hKo => ?_;go_simp;(try go_bits);refine hKo _ _ fun fa39 fh39 => ?_;clear hKo Ko fh38 fa38;refine Kn.pure fh39 rfl rfl .none (Kn.ex_move fh39 (.tmp rfl)) fun fa40 fh40 => ?_;clear fh39 fa39;refine wpList_nil ?_;replace fh40 := fh40.cut (.cons (t := 33) rfl (.cons (t := 4) rfl (.cons (t := 3) rfl (.cons (t := 0) rfl (.cons (t := 2) rfl (.cons (t := 32) rfl .nil))))));have hi1 := hi.out.1;exact hKl11 (m11 - 1) _ _ (by omega) ⟨i + 1, pn, l9, fh40.cut (.cons (t := 0) rfl (.cons (t := 2) rfl (.cons (t := 3) rfl (.cons (t := 32) rfl (.turn (t := 33) rfl (by go_num) .nil))))), Lib.hid ⟨by omega, HP2.out, HL9.out.1, HL9.out.2⟩, HNX, Lib.hid ⟨HR9.out, HH9.out⟩⟩
  have hlti : ¬ (i : Int) < (N0 : Int) := by omega
  obtain rfl : i = N0 := by omega
  have hls : ls = pairs s a0 i := by
    apply List.ext_getElem?
    intro j
    by_cases hj : j < i
    · rw [hi.out.2.2.2 j hj, pairs_at hj]
    · rw [List.getElem?_eq_none (by have := hi.out.2.2.1; omega), List.getElem?_eq_none (by rw [pairs_len]; omega)]
  have hat := hi.out.2.1;have hpl := HPO.out.lo;have hph := HPO.out.hi;rw [← hat] at hpl hph;obtain ⟨L, hL⟩ : ∃ L, pairs s a0 i = L := ⟨_, rfl⟩;rw [hL] at hls;subst hls;have HL := Lib.hid hL;have HAT := Lib.hid hat;obtain ⟨b, hbe⟩ : ∃ b, v.heap.size = b := ⟨_, rfl⟩
  have hJ0 : JB s at9 w g g5 gs b v0 v1 v2 i (i : Int) ls 0 (v.alloc (.cells #[.pointer (some ⟨g, 4, none⟩)] 77)) := by
    have h1 := HK.out.1.st.lt;have := PRow.new (ps := [⟨g, 4, none⟩]) v 77;rw [hbe] at this;exact ⟨HK.out.1.on ((Below.refl _ v).alloc (Nat.le_refl _) _), this, by omega, HK.out.2.on ((Below.refl _ v).alloc (Nat.le_refl _) _)⟩
  have hsh := shorts_any s at9 b 1 [⟨g, 4, none⟩] (JB s at9 w g g5 gs b v0 v1 v2 i (i : Int) ls) _ hml (by simp) (fun k u h => h.2.1) hJ0 (fun k u p h hp => h.put hgl.1 hp);have HSH : Hid (Calls Tryz.prog 34 #[.string s, .int .i64 at9, .slice (some ⟨b, 0, none⟩) 1 1] (v.alloc (.cells #[.pointer (some ⟨g, 4, none⟩)] 77)) fun e w' => e = .returned (.tuple #[.int .i64 (posN s at9 (okN s at9 1)), rdX s at9 1]) ∧ JB s at9 w g g5 gs b v0 v1 v2 i (i : Int) ls (okN s at9 1) w') := Lib.hid hsh;clear hsh hJ0 hat hL;refine wp_seq_k fun K12 hK12 => ?_;refine wp_region_lit ?_;refine Kn.step fh27 rfl rfl .none (Kn.ex_bin fh27 (.tmp rfl) (.tmp rfl)) fun Ko hKo => ?_;go_simp;(try go_bits);refine hKo _ _ fun fa28 fh28 => ?_;clear hKo Ko fh27 fa27;refine wpList_nil ?_;refine hK12 _ _ ?_;clear hK12 K12;refine wp_seq_k fun K13 hK13 => ?_;refine Kn.no fh28 (.tmp rfl) ?_;replace fh28 := fh28.cut (.cons (t := 0) rfl (.cons (t := 2) rfl (.cons (t := 3) rfl (.cons (t := 32) rfl (.cons (t := 33) rfl .nil)))));refine wp_exit ?_;refine Kn.then_exit ?_;clear hK13 K13;refine Kn.then_exit ?_;clear hKl11 Kl11;refine Kn.block_exit ?_;refine hK9 _ _ ?_;clear hK9 K9;replace fh28 := fh28.cut (.cons (t := 0) rfl (.cons (t := 2) rfl (.cons (t := 3) rfl .nil)));refine wp_seq_k fun K14 hK14 => ?_;refine wp_seq_k fun K15 hK15 => ?_;refine wp_region_lit ?_;refine Kn.pure fh28 rfl rfl .none (Kn.ex_move fh28 (.tmp rfl)) fun fa29 fh29 => ?_;clear fh28 fa28;refine Kn.pure fh29 rfl rfl .none (Kn.ex_move fh29 (.tmp rfl)) fun fa30 fh30 => ?_;clear fh29 fa29;refine Kn.step fh30 rfl rfl .none (Kn.ex_fieldAddr fh30 (.tmp rfl)) fun Ko hKo => ?_;go_simp;(try go_bits);refine hKo _ _ fun fa31 fh31 => ?_;clear hKo Ko fh30 fa30;refine Kn.step fh31 rfl rfl .none (Kn.ex_buildSlice fh31 (.cons (.tmp rfl) .nil)) fun Ko hKo => ?_;go_simp;try rw [hbe]
  refine hKo _ _ fun fa32 fh32 => ?_;clear hKo Ko fh31 fa31;refine Kn.call fh32 rfl rfl .none (Kn.ex_call fh32 (.cons (.tmp rfl) (.cons (.tmp rfl) (.cons (.tmp rfl) .nil)))) Tryz.call34 (HSH.out) fun e u6 hp => ?_;obtain ⟨rfl, hJ6⟩ := hp;refine ⟨_, rfl, fun fa33 fh33 => ?_⟩;clear fh32 fa32;refine Kn.pure fh33 rfl rfl .none (Kn.ex_move fh33 (.tmp rfl)) fun fa34 fh34 => ?_;clear fh33 fa33;refine Kn.pure fh34 rfl rfl .none (Kn.ex_extract fh34 (.tmp rfl) rfl) fun fa35 fh35 => ?_;clear fh34 fa34;refine Kn.pure fh35 rfl rfl .none (Kn.ex_extract fh35 (.tmp rfl) rfl) fun fa36 fh36 => ?_;clear fh35 fa35;refine Kn.pure fh36 rfl rfl .none (Kn.ex_assign fh36 (.tmp rfl)) fun fa37 fh37 => ?_;clear fh36 fa36;refine Kn.pure fh37 rfl rfl .none (Kn.ex_assign fh37 (.tmp rfl)) fun fa38 fh38 => ?_;clear fh37 fa37;refine wpList_nil ?_;refine hK15 _ _ ?_;clear hK15 K15;replace fh38 := fh38.cut (.cons (t := 4) rfl (.cons (t := 3) rfl (.cons (t := 0) rfl (.cons (t := 2) rfl .nil))));obtain ⟨K1, hK1⟩ : ∃ K, okN s at9 1 = K := ⟨_, rfl⟩;have hK1l := okN_le s at9 1;rw [hK1] at hK1l;rw [hK1] at hJ6;obtain ⟨zb, hzb⟩ : ∃ z, (if 0 < K1 then valN s at9 0 else 0) = z := ⟨_, rfl⟩;have HR6 : Hid (RK w g g5 #[.int .i64 v0, .int .i64 v1, .int .i64 v2, .slice (some ⟨gs, 0, none⟩) i i, .int .i64 zb, .string ⟨#[]⟩] (i : Int) u6) := Lib.hid (by rw [← hzb]; exact hJ6.1);have HH6 := Lib.hid hJ6.2.2.2;have HZB := Lib.hid hzb;have HK1 := Lib.hid hK1;clear HSH hJ6 hbe hzb hK1
  by_cases h1 : K1 = 1
  rotate_left
  · obtain ⟨q, ce, hx, hc, hq⟩ := rdX_no (s := s) (a := at9) (n := 1) hpl hph (by rw [HK1.out]; omega);rw [hx] at fh38;unfold flV at fh38;have HCQ := Lib.hid (And.intro hc hq);clear hx hc hq;refine wp_seq_k fun K16 hK16 => ?_;refine wp_region_lit ?_;refine Kn.pure fh38 rfl rfl .none (Kn.ex_move fh38 (.tmp rfl)) fun fa39 fh39 => ?_;clear fh38 fa38;refine Kn.step fh39 rfl rfl .none (Kn.ex_bin fh39 (.tmp rfl) .const) fun Ko hKo => ?_;go_simp;(try go_bits);refine hKo _ _ fun fa40 fh40 => ?_;clear hKo Ko fh39 fa39;refine wpList_nil ?_;refine hK16 _ _ ?_;clear hK16 K16;replace fh40 := fh40.cut (.cons (t := 68) rfl (.cons (t := 4) rfl (.cons (t := 3) rfl (.cons (t := 0) rfl (.cons (t := 2) rfl .nil)))));refine Kn.yes fh40 (.tmp rfl) ?_;replace fh40 := fh40.cut (.cons (t := 4) rfl (.cons (t := 3) rfl (.cons (t := 0) rfl (.cons (t := 2) rfl .nil))));have hld := loadM HR6.out.st Tryz.underlying25 rfl (by kernel_rfl);obtain ⟨hst, hSn, hBn⟩ := HR6.out.st.store (P := Tryz.prog) (cells := #[.int .i64 v0, .int .i64 v1, .int .i64 v2, .slice (some ⟨gs, 0, none⟩) i i, .int .i64 zb, .string ⟨#[]⟩]) (by kernel_rfl) rfl (one_6 _ _ _ _ _ _ _ _);refine wp_seq_k fun K17 hK17 => ?_;refine wp_region_lit ?_;refine Kn.known fh40 rfl rfl .none (Kn.ex_load fh40 (.tmp rfl)) hld fun fa41 fh41 => ?_;clear fh40 fa40;refine Kn.pure fh41 rfl rfl .none (Kn.ex_move fh41 (.tmp rfl)) fun fa42 fh42 => ?_;clear fh41 fa41;refine Kn.pure fh42 rfl rfl .none (Kn.ex_move fh42 (.tmp rfl)) fun fa43 fh43 => ?_;clear fh42 fa42;refine Kn.stepU fh43 rfl .none (Kn.ex_store fh43 (.tmp rfl) (.tmp rfl)) fun Ko hKo => ?_;refine Kn.satU_runA hst ?_;refine hKo _ ?_;clear hKo Ko;refine Kn.pure fh43 rfl rfl .none (Kn.ex_assign fh43 (.tmp rfl)) fun fa44 fh44 => ?_;clear fh43 fa43;refine Kn.pure fh44 rfl rfl .none (Kn.ex_assign fh44 (.tmp rfl)) fun fa45 fh45 => ?_;clear fh44 fa44;refine wpList_nil ?_;refine hK17 _ _ ?_;clear hK17 K17;replace fh45 := fh45.cut (.cons (t := 4) rfl (.cons (t := 3) rfl (.cons (t := 0) rfl (.cons (t := 2) rfl .nil))));refine wp_ret ?_;refine Kn.then_ret ?_;exact Kn.retC3 fh45 rfl rfl rfl rfl (hSn.load Tryz.underlying25 rfl (by kernel_rfl)) ⟨⟨_, _, _, rfl, rfl, one_6 _ _ _ _ _ _ _ _, .inr ⟨_, _, rfl, HCQ.out⟩⟩, HR6.out.bl.trans (hBn _ HR6.out.ge)⟩
  subst h1;have hx := rdX_yes HK1.out;have g1 := (okN_spec (s := s) (a := at9) 1).1;rw [HK1.out] at g1;obtain ⟨t5, t6, t7⟩ := take_pos hpl hph 1 g1;rw [hx, HK1.out] at fh38;obtain ⟨p2, hp2⟩ : ∃ p, posN s at9 1 = p := ⟨_, rfl⟩;rw [hp2] at t5 fh38;have HP2 := Lib.hid hp2;have HT7 := Lib.hid (t7 0 (by omega));have hzv : zb = valN s at9 0 := HZB.out.symm;have HZV := Lib.hid hzv;have htx := text_u s p2 u6 h400 t5.1 t5.2;clear hx g1 t6 t7 hp2 hzv hK1l;refine wp_seq_k fun K16 hK16 => ?_;refine wp_region_lit ?_;refine Kn.pure fh38 rfl rfl .none (Kn.ex_move fh38 (.tmp rfl)) fun fa39 fh39 => ?_;clear fh38 fa38;refine Kn.step fh39 rfl rfl .none (Kn.ex_bin fh39 (.tmp rfl) .const) fun Ko hKo => ?_;go_simp;(try go_bits);refine hKo _ _ fun fa40 fh40 => ?_;clear hKo Ko fh39 fa39;refine wpList_nil ?_;refine hK16 _ _ ?_;clear hK16 K16;replace fh40 := fh40.cut (.cons (t := 68) rfl (.cons (t := 4) rfl (.cons (t := 3) rfl (.cons (t := 0) rfl (.cons (t := 2) rfl .nil)))));refine Kn.no fh40 (.tmp rfl) ?_;refine wp_skip ?_;refine hK14 _ _ ?_;clear hK14 K14;replace fh40 := fh40.cut (.cons (t := 4) rfl (.cons (t := 3) rfl (.cons (t := 0) rfl (.cons (t := 2) rfl .nil))));refine wp_seq_k fun K17 hK17 => ?_;refine wp_region_lit ?_;refine Kn.pure fh40 rfl rfl .none (Kn.ex_move fh40 (.tmp rfl)) fun fa41 fh41 => ?_;clear fh40 fa40;refine Kn.pure fh41 rfl rfl .none (Kn.ex_move fh41 (.tmp rfl)) fun fa42 fh42 => ?_;clear fh41 fa41;refine Kn.call fh42 rfl rfl .none (Kn.ex_call fh42 (.cons (.tmp rfl) (.cons (.tmp rfl) (.cons .const .nil)))) Tryz.call35 (htx) fun e u7 hp => ?_;obtain ⟨⟨r, q, x, rfl, hxr⟩, hb7⟩ := hp;refine ⟨_, rfl, fun fa43 fh43 => ?_⟩;clear fh42 fa42;obtain ⟨u8, hst, hR8, hh8, hz8⟩ := (HR6.out.on hb7).put 5 (sT r) (by simp);have HR8 : Hid (RK w g g5 #[.int .i64 v0, .int .i64 v1, .int .i64 v2, .slice (some ⟨gs, 0, none⟩) i i, .int .i64 zb, .string r] (i : Int) u8) := Lib.hid hR8;have HH8 : Hid (Hold ipR u8 gs ls) := Lib.hid ((HH6.out.on hb7).at (Nat.le_of_eq hz8.symm) (hh8 gs (fun q => hgl.1 q.symm)));clear hR8 hh8 hz8 hb7 htx;refine Kn.pure fh43 rfl rfl .none (Kn.ex_move fh43 (.tmp rfl)) fun fa44 fh44 => ?_;clear fh43 fa43;refine Kn.pure fh44 rfl rfl .none (Kn.ex_extract fh44 (.tmp rfl) rfl) fun fa45 fh45 => ?_;clear fh44 fa44;refine Kn.pure fh45 rfl rfl .none (Kn.ex_extract fh45 (.tmp rfl) rfl) fun fa46 fh46 => ?_;clear fh45 fa45;refine Kn.pure fh46 rfl rfl .none (Kn.ex_extract fh46 (.tmp rfl) rfl) fun fa47 fh47 => ?_;clear fh46 fa46;refine Kn.step fh47 rfl rfl .none (Kn.ex_fieldAddr fh47 (.tmp rfl)) fun Ko hKo => ?_;go_simp;(try go_bits);refine hKo _ _ fun fa48 fh48 => ?_;clear hKo Ko fh47 fa47;refine Kn.stepU fh48 rfl .none (Kn.ex_store fh48 (.tmp rfl) (.tmp rfl)) fun Ko hKo => ?_;refine Kn.satU_runA hst ?_;refine hKo _ ?_;clear hKo Ko;refine Kn.pure fh48 rfl rfl .none (Kn.ex_assign fh48 (.tmp rfl)) fun fa49 fh49 => ?_;clear fh48 fa48;refine Kn.pure fh49 rfl rfl .none (Kn.ex_assign fh49 (.tmp rfl)) fun fa50 fh50 => ?_;clear fh49 fa49;refine wpList_nil ?_;refine hK17 _ _ ?_;clear hK17 K17;replace fh50 := fh50.cut (.cons (t := 4) rfl (.cons (t := 3) rfl (.cons (t := 2) rfl .nil)));clear hst;have HXR := Lib.hid hxr;clear hxr;have hld := loadM HR8.out.st Tryz.underlying25 rfl (by kernel_rfl);obtain ⟨hst, hSn, hBn⟩ := HR8.out.st.store (P := Tryz.prog) (cells := #[.int .i64 v0, .int .i64 v1, .int .i64 v2, .slice (some ⟨gs, 0, none⟩) i i, .int .i64 zb, .string r]) (by kernel_rfl) rfl (one_6 _ _ _ _ _ _ _ _);refine wp_seq_k fun K18 hK18 => ?_;refine wp_region_lit ?_;refine Kn.known fh50 rfl rfl .none (Kn.ex_load fh50 (.tmp rfl)) hld fun fa51 fh51 => ?_;clear fh50 fa50;refine Kn.pure fh51 rfl rfl .none (Kn.ex_move fh51 (.tmp rfl)) fun fa52 fh52 => ?_;clear fh51 fa51;refine Kn.pure fh52 rfl rfl .none (Kn.ex_move fh52 (.tmp rfl)) fun fa53 fh53 => ?_;clear fh52 fa52;refine Kn.stepU fh53 rfl .none (Kn.ex_store fh53 (.tmp rfl) (.tmp rfl)) fun Ko hKo => ?_;refine Kn.satU_runA hst ?_;refine hKo _ ?_;clear hKo Ko;refine Kn.pure fh53 rfl rfl .none (Kn.ex_assign fh53 (.tmp rfl)) fun fa54 fh54 => ?_;clear fh53 fa53;refine Kn.pure fh54 rfl rfl .none (Kn.ex_assign fh54 (.tmp rfl)) fun fa55 fh55 => ?_;clear fh54 fa54;refine wpList_nil ?_;refine hK18 _ _ ?_;clear hK18 K18;replace fh55 := fh55.cut (.cons (t := 4) rfl (.cons (t := 3) rfl (.cons (t := 2) rfl .nil)));refine wp_ret ?_;have hH9 : Hold ipR (u8.setRow g #[.int .i64 v0, .int .i64 v1, .int .i64 v2, .slice (some ⟨gs, 0, none⟩) i i, .int .i64 zb, .string r]) gs ls := HH8.out.at (by simp [World.setRow]) (setRow_other u8 g gs _ (fun q => hgl.1 q.symm));refine Kn.retC3 fh55 rfl rfl rfl rfl (hSn.load Tryz.underlying25 rfl (by kernel_rfl)) ⟨⟨_, q, x, rfl, rfl, one_6 _ _ _ _ _ _ _ _, ?_⟩, HR8.out.bl.trans (hBn _ HR8.out.ge)⟩;rcases HXR.out with ⟨hx, hq0, hq1, hq2, hr4⟩ | ⟨pe, ce, hx, hc, hp⟩
  rotate_left
  · exact .inr ⟨pe, ce, hx, hc, hp⟩
  have hll : ls.length = i := by rw [← HL.out, pairs_len]
  have hall := read_all (s := s) (N0 := i) (q := q) (r := r) HK4.out HN0.out (by rw [HA0.out]; exact HPO.out) (by rw [HA0.out, ← HAT.out]; exact HK1.out) (by rw [HA0.out, ← HAT.out, HP2.out]; exact hq2);rw [HV0.out, HV1.out, HV2.out, HA0.out, HL.out, ← HAT.out, ← HZV.out] at hall;refine .inl ⟨hx, ⟨v0, v1, v2, ls, zb, r⟩, some ⟨gs, 0, none⟩, i, by rw [hll], ⟨hH9.rin, Nat.le_of_eq hll, by unfold maxLen; omega, by show ls.length ≤ 100; omega⟩, (fun b o z e => by injection e with e; injection e with e1 e2 e3; rw [← e1]; exact hgl.2.2), ?_, hq0, hq1, hall⟩;have b0 := HV.out 0 (by omega);have b1 := HV.out 1 (by omega);have b2 := HV.out 2 (by omega);rw [HV0.out] at b0;rw [HV1.out] at b1;rw [HV2.out] at b2;have b4 := HT7.out;rw [← HZV.out] at b4;refine ⟨⟨by show -9223372036854775808 ≤ v0; omega, by show v0 ≤ _; omega⟩, ⟨by show -9223372036854775808 ≤ v1; omega, by show v1 ≤ _; omega⟩, ⟨by show -9223372036854775808 ≤ v2; omega, by show v2 ≤ _; omega⟩, ⟨by show -9223372036854775808 ≤ zb; omega, by show zb ≤ _; omega⟩, fun p hp => ?_, by show r.size ≤ maxLen; unfold maxLen; omega⟩;have := HPO.out.bd p (by rw [HL.out]; exact hp);exact ⟨⟨by omega, by omega⟩, ⟨by omega, by omega⟩⟩
end Go.Proofs.YtbahklpdldghbaaGreatDoor.Man
end
section
namespace Go.Proofs.YtbahklpdldghbaaGreatDoor.Man
open Go Go.RowKit Go.Lib RowG Oct Gap
def GOut (s : ByteArray) (e : Ending) (u : World) : Prop := (∃ m A c, Good m ∧ Fit m ∧ putM m = s.data.toList ∧ e = .returned (.tuple #[mV m A c, .nilIface]) ∧ MIn m A c u) ∨ ∃ p c, e = .returned (.tuple #[zV, flV p c]) ∧ (c = 4 ∨ c = 3) ∧ 0 ≤ p
theorem rin_row {u u' : World} {g : Nat} {A : Option Addr} {l : List (Int × Int)} (h : RIn ipR u A l) (hA : ∀ b o z, A = some ⟨b, o, z⟩ → b ≠ g) (he : ∀ b, b ≠ g → u'.heap[b]? = u.heap[b]?) (hs : u'.heap.size = u.heap.size) : RIn ipR u' A l := fun i a hi => by
  obtain ⟨b, o, e1, e2, e3⟩ := h i a hi;have eb := he b (hA b o none e1);refine ⟨b, o, e1, by omega, fun j x hx => ?_⟩;have := e3 j x hx;simp only [World.cell?] at this ⊢;rw [eb];exact this
theorem St.storeM {u : World} {g : Nat} {cs cs' : Array Value} (h : St.St u g 25 cs) (h6 : cs'.size = 6) (hc : cs.size = 6) (h1 : cs'.all (·.oneCell') = true) :
    (Instr.storeAt 25 (.pointer (some ⟨g, 0, none⟩)) (.agg cs')).run Tryz.prog u = .ok () (u.setRow g cs') ∧ St.St (u.setRow g cs') g 25 cs' ∧ ∀ B, B ≤ g → Below B u (u.setRow g cs') :=
  h.store (P := Tryz.prog) (by rw [h6]; kernel_rfl) (by omega) h1
set_option maxRecDepth 100000 in
set_option maxHeartbeats 1000000 in
theorem get_any (s : ByteArray) (w : World) (h400 : s.size ≤ 400) :
    Calls Tryz.prog 7 #[.string s] w fun e w' => GOut s e w' ∧ Below w.heap.size w w' := by
  refine Kn.calls Tryz.func7 rfl Tryz.ntmps7 rfl (.cons (t := 0) rfl .nil) fun fa0 fh0 => ?_;refine wp_seq_k fun K1 hK1 => ?_;refine wp_region_lit ?_;refine Kn.step fh0 rfl rfl .none Kn.ex_alloc fun Ko hKo => ?_;go_simp;(try go_bits);refine hKo _ _ fun fa1 fh1 => ?_;clear hKo Ko fh0 fa0;refine Kn.pure fh1 rfl rfl .none (Kn.ex_assign fh1 .const) fun fa2 fh2 => ?_;clear fh1 fa1;refine wpList_nil ?_;refine hK1 _ _ ?_;clear hK1 K1;refine Kn.gen (fun u => St.St u w.heap.size 25 #[.int .i64 0, .int .i64 0, .int .i64 0, .slice none 0 0, .int .i64 0, .string ⟨#[]⟩] ∧ Below w.heap.size w u) ⟨St.St.new w _ _, (Below.refl _ w).alloc (Nat.le_refl _) _⟩ fun u1 hu1 => ?_;obtain ⟨g, hg⟩ : ∃ g, w.heap.size = g := ⟨_, rfl⟩;have HGE : Hid (w.heap.size ≤ g) := Lib.hid (Nat.le_of_eq hg);rw [hg] at fh2;have HS1 : Hid (St.St u1 g 25 #[.int .i64 0, .int .i64 0, .int .i64 0, .slice none 0 0, .int .i64 0, .string ⟨#[]⟩]) := Lib.hid (by rw [← hg]; exact hu1.1);have HB1 := Lib.hid hu1.2;have HG1 : Hid (g < u1.heap.size) := Lib.hid HS1.out.lt;clear hg hu1;have hrd := read_any s u1 h400;refine wp_seq_k fun K2 hK2 => ?_;refine wp_region_lit ?_;refine Kn.pure fh2 rfl rfl .none (Kn.ex_move fh2 (.tmp rfl)) fun fa3 fh3 => ?_;clear fh2 fa2;refine Kn.call fh3 rfl rfl .none (Kn.ex_call fh3 (.cons (.tmp rfl) .nil)) Tryz.call19 (hrd) fun e u2 hp => ?_;obtain ⟨⟨cs, q, x, rfl, h6, h1, hx⟩, hb2⟩ := hp;refine ⟨_, rfl, fun fa4 fh4 => ?_⟩;clear fh3 fa3;refine Kn.pure fh4 rfl rfl .none (Kn.ex_move fh4 (.tmp rfl)) fun fa5 fh5 => ?_;clear fh4 fa4;refine Kn.pure fh5 rfl rfl .none (Kn.ex_extract fh5 (.tmp rfl) rfl) fun fa6 fh6 => ?_;clear fh5 fa5;refine Kn.pure fh6 rfl rfl .none (Kn.ex_extract fh6 (.tmp rfl) rfl) fun fa7 fh7 => ?_;clear fh6 fa6;refine Kn.pure fh7 rfl rfl .none (Kn.ex_extract fh7 (.tmp rfl) rfl) fun fa8 fh8 => ?_;clear fh7 fa7;refine Kn.step fh8 rfl rfl .none Kn.ex_alloc fun Ko hKo => ?_;go_simp;(try go_bits);refine hKo _ _ fun fa9 fh9 => ?_;clear hKo Ko fh8 fa8;have hn4 := St.St.new u2 25 #[.int .i64 0, .int .i64 0, .int .i64 0, .slice none 0 0, .int .i64 0, .string ⟨#[]⟩];obtain ⟨hst, hSn, hBn⟩ := St.storeM hn4 h6 rfl h1;refine Kn.stepU fh9 rfl .none (Kn.ex_store fh9 (.tmp rfl) (.tmp rfl)) fun Ko hKo => ?_;refine Kn.satU_runA hst ?_;refine hKo _ ?_;clear hKo Ko;refine Kn.pure fh9 rfl rfl .none (Kn.ex_assign fh9 (.tmp rfl)) fun fa10 fh10 => ?_;clear fh9 fa9;refine Kn.pure fh10 rfl rfl .none (Kn.ex_assign fh10 (.tmp rfl)) fun fa11 fh11 => ?_;clear fh10 fa10;refine wpList_nil ?_;refine hK2 _ _ ?_;clear hK2 K2;replace fh11 := fh11.cut (.cons (t := 6) rfl (.cons (t := 5) rfl (.cons (t := 4) rfl (.cons (t := 3) rfl (.cons (t := 2) rfl (.cons (t := 0) rfl .nil))))));have hb3 := ((Below.refl _ u2).alloc (Nat.le_refl _) (.cells #[.int .i64 0, .int .i64 0, .int .i64 0, .slice none 0 0, .int .i64 0, .string ⟨#[]⟩] 25)).trans (hBn _ (Nat.le_refl _));obtain ⟨g4, hg4⟩ : ∃ k, u2.heap.size = k := ⟨_, rfl⟩;have HS2 := Lib.hid (HS1.out.on hb2);refine Kn.gen (fun u => St.St u u2.heap.size 25 cs ∧ Below u2.heap.size u2 u) ⟨hSn, hb3⟩ fun u3 hu3 => ?_;have HB3 := Lib.hid ((HB1.out.trans (hb2.mono HB1.out.size)).trans (hu3.2.mono (Nat.le_trans HB1.out.size hb2.size)));have HS3 := Lib.hid (HS2.out.on hu3.2);have HC2 := Lib.hid hu3.2;rw [hg4] at hu3 fh11;have HS4 := Lib.hid hu3.1;have HX := Lib.hid hx;clear hst hSn hBn hn4 hb3 hb2 hrd hg4 hu3 hx HS1 HS2 HB1;obtain ⟨hst, hSn, hBn⟩ := St.storeM HS3.out (cs' := #[.int .i64 0, .int .i64 0, .int .i64 0, .slice none 0 0, .int .i64 0, .string ⟨#[]⟩]) rfl rfl (by simp [Value.oneCell']);rcases HX.out with ⟨rfl, m, A, c, rfl, hM, hAB, hF, hq0, hq1, hpm⟩ | ⟨p, ce, rfl, hc, hp⟩
  rotate_left
  · unfold flV at fh11;refine wp_seq_k fun K3 hK3 => ?_;refine wp_seq_k fun K4 hK4 => ?_;refine wp_region_lit ?_;refine Kn.pure fh11 rfl rfl .none (Kn.ex_move fh11 (.tmp rfl)) fun fa12 fh12 => ?_;clear fh11 fa11;refine Kn.step fh12 rfl rfl .none (Kn.ex_bin fh12 (.tmp rfl) .const) fun Ko hKo => ?_;go_simp;(try go_bits);refine hKo _ _ fun fa13 fh13 => ?_;clear hKo Ko fh12 fa12;refine wpList_nil ?_;refine hK4 _ _ ?_;clear hK4 K4;replace fh13 := fh13.cut (.cons (t := 15) rfl (.cons (t := 6) rfl (.cons (t := 5) rfl (.cons (t := 4) rfl (.cons (t := 3) rfl (.cons (t := 2) rfl (.cons (t := 0) rfl .nil)))))));refine Kn.yes fh13 (.tmp rfl) ?_;replace fh13 := fh13.cut (.cons (t := 6) rfl (.cons (t := 5) rfl (.cons (t := 4) rfl (.cons (t := 3) rfl (.cons (t := 2) rfl (.cons (t := 0) rfl .nil))))));refine wp_seq_k fun K5 hK5 => ?_;refine wp_region_lit ?_;refine Kn.step fh13 rfl rfl .none (Kn.ex_build fh13 .nil) fun Ko hKo => ?_;go_simp;(try go_bits);refine hKo _ _ fun fa14 fh14 => ?_;clear hKo Ko fh13 fa13;refine Kn.pure fh14 rfl rfl .none (Kn.ex_move fh14 (.tmp rfl)) fun fa15 fh15 => ?_;clear fh14 fa14;refine Kn.stepU fh15 rfl .none (Kn.ex_store fh15 (.tmp rfl) (.tmp rfl)) fun Ko hKo => ?_;refine Kn.satU_runA hst ?_;refine hKo _ ?_;clear hKo Ko;refine Kn.pure fh15 rfl rfl .none (Kn.ex_assign fh15 (.tmp rfl)) fun fa16 fh16 => ?_;clear fh15 fa15;refine wpList_nil ?_;refine hK5 _ _ ?_;clear hK5 K5;replace fh16 := fh16.cut (.cons (t := 3) rfl (.cons (t := 5) rfl (.cons (t := 4) rfl (.cons (t := 2) rfl (.cons (t := 0) rfl .nil)))));refine wp_ret ?_;refine Kn.then_ret ?_;exact Kn.retC fh16 rfl rfl rfl (hSn.load Tryz.underlying25 rfl (by kernel_rfl)) ⟨.inr ⟨_, _, rfl, hc, hp⟩, HB3.out.trans (hBn _ HGE.out)⟩
  refine wp_seq_k fun K3 hK3 => ?_;refine wp_seq_k fun K4 hK4 => ?_;refine wp_region_lit ?_;refine Kn.pure fh11 rfl rfl .none (Kn.ex_move fh11 (.tmp rfl)) fun fa12 fh12 => ?_;clear fh11 fa11;refine Kn.step fh12 rfl rfl .none (Kn.ex_bin fh12 (.tmp rfl) .const) fun Ko hKo => ?_;go_simp;(try go_bits);refine hKo _ _ fun fa13 fh13 => ?_;clear hKo Ko fh12 fa12;refine wpList_nil ?_;refine hK4 _ _ ?_;clear hK4 K4;replace fh13 := fh13.cut (.cons (t := 15) rfl (.cons (t := 6) rfl (.cons (t := 5) rfl (.cons (t := 4) rfl (.cons (t := 3) rfl (.cons (t := 2) rfl (.cons (t := 0) rfl .nil)))))));refine Kn.no fh13 (.tmp rfl) ?_;refine wp_skip ?_;refine hK3 _ _ ?_;clear hK3 K3;replace fh13 := fh13.cut (.cons (t := 5) rfl (.cons (t := 4) rfl (.cons (t := 3) rfl (.cons (t := 2) rfl (.cons (t := 0) rfl .nil)))))
  by_cases hqs : q < (s.size : Int)
  · refine wp_seq_k fun K5 hK5 => ?_;refine wp_seq_k fun K6 hK6 => ?_;refine wp_region_lit ?_;refine Kn.pure fh13 rfl rfl .none (Kn.ex_move fh13 (.tmp rfl)) fun fa14 fh14 => ?_;clear fh13 fa13;refine Kn.pure fh14 rfl rfl .none (Kn.ex_move fh14 (.tmp rfl)) fun fa15 fh15 => ?_;clear fh14 fa14;refine Kn.step fh15 rfl rfl .none (Kn.ex_len fh15 (.tmp rfl)) fun Ko hKo => ?_;go_simp;(try go_bits);refine hKo _ _ fun fa16 fh16 => ?_;clear hKo Ko fh15 fa15;refine Kn.step fh16 rfl rfl .none (Kn.ex_bin fh16 (.tmp rfl) (.tmp rfl)) fun Ko hKo => ?_;go_simp;(try go_bits);refine hKo _ _ fun fa17 fh17 => ?_;clear hKo Ko fh16 fa16;refine wpList_nil ?_;refine hK6 _ _ ?_;clear hK6 K6;replace fh17 := fh17.cut (.cons (t := 21) rfl (.cons (t := 5) rfl (.cons (t := 4) rfl (.cons (t := 3) rfl (.cons (t := 2) rfl .nil)))));refine Kn.yes fh17 (.tmp rfl) ?_;replace fh17 := fh17.cut (.cons (t := 5) rfl (.cons (t := 4) rfl (.cons (t := 3) rfl (.cons (t := 2) rfl .nil))));refine wp_seq_k fun K7 hK7 => ?_;refine wp_region_lit ?_;refine Kn.step fh17 rfl rfl .none (Kn.ex_build fh17 .nil) fun Ko hKo => ?_;go_simp;(try go_bits);refine hKo _ _ fun fa18 fh18 => ?_;clear hKo Ko fh17 fa17;refine Kn.pure fh18 rfl rfl .none (Kn.ex_move fh18 (.tmp rfl)) fun fa19 fh19 => ?_;clear fh18 fa18;refine Kn.step fh19 rfl rfl .none (Kn.ex_makeInterface fh19 .const) fun Ko hKo => ?_;go_simp;(try go_bits);refine hKo _ _ fun fa20 fh20 => ?_;clear hKo Ko fh19 fa19;refine Kn.step fh20 rfl rfl .none (Kn.ex_build fh20 (.cons (.tmp rfl) (.cons (.tmp rfl) .nil))) fun Ko hKo => ?_;go_simp;(try go_bits);refine hKo _ _ fun fa21 fh21 => ?_;clear hKo Ko fh20 fa20;refine Kn.step fh21 rfl rfl .none (Kn.ex_makeInterface fh21 (.tmp rfl)) fun Ko hKo => ?_;go_simp;(try go_bits);refine hKo _ _ fun fa22 fh22 => ?_;clear hKo Ko fh21 fa21;refine Kn.stepU fh22 rfl .none (Kn.ex_store fh22 (.tmp rfl) (.tmp rfl)) fun Ko hKo => ?_;refine Kn.satU_runA hst ?_;refine hKo _ ?_;clear hKo Ko;refine Kn.pure fh22 rfl rfl .none (Kn.ex_assign fh22 (.tmp rfl)) fun fa23 fh23 => ?_;clear fh22 fa22;refine wpList_nil ?_;refine hK7 _ _ ?_;clear hK7 K7;replace fh23 := fh23.cut (.cons (t := 3) rfl (.cons (t := 4) rfl (.cons (t := 2) rfl .nil)));refine wp_ret ?_;refine Kn.then_ret ?_;exact Kn.retC fh23 rfl rfl rfl (hSn.load Tryz.underlying25 rfl (by kernel_rfl)) ⟨.inr ⟨_, _, rfl, .inl rfl, hq0⟩, HB3.out.trans (hBn _ HGE.out)⟩
  have hqe : q = (s.size : Int) := by omega
  rw [hqe, Int.toNat_natCast, List.take_of_length_le (show s.data.toList.length ≤ s.size from Nat.le_refl _)] at hpm;have hmi : MIn m A c u3 := hM.on HC2.out;have hld := loadM HS4.out Tryz.underlying25 rfl (by kernel_rfl);have hck := check_v m A c u3 hmi hF.r;have HPM := Lib.hid hpm;have HMI := Lib.hid hmi;clear hqe hpm hM hmi;refine wp_seq_k fun K5 hK5 => ?_;refine wp_seq_k fun K6 hK6 => ?_;refine wp_region_lit ?_;refine Kn.pure fh13 rfl rfl .none (Kn.ex_move fh13 (.tmp rfl)) fun fa14 fh14 => ?_;clear fh13 fa13;refine Kn.pure fh14 rfl rfl .none (Kn.ex_move fh14 (.tmp rfl)) fun fa15 fh15 => ?_;clear fh14 fa14;refine Kn.step fh15 rfl rfl .none (Kn.ex_len fh15 (.tmp rfl)) fun Ko hKo => ?_;go_simp;(try go_bits);refine hKo _ _ fun fa16 fh16 => ?_;clear hKo Ko fh15 fa15;refine Kn.step fh16 rfl rfl .none (Kn.ex_bin fh16 (.tmp rfl) (.tmp rfl)) fun Ko hKo => ?_;go_simp;(try go_bits);refine hKo _ _ fun fa17 fh17 => ?_;clear hKo Ko fh16 fa16;refine wpList_nil ?_;refine hK6 _ _ ?_;clear hK6 K6;replace fh17 := fh17.cut (.cons (t := 21) rfl (.cons (t := 5) rfl (.cons (t := 4) rfl (.cons (t := 3) rfl (.cons (t := 2) rfl .nil)))));refine Kn.no fh17 (.tmp rfl) ?_;refine wp_skip ?_;refine hK5 _ _ ?_;clear hK5 K5;replace fh17 := fh17.cut (.cons (t := 4) rfl (.cons (t := 3) rfl (.cons (t := 2) rfl .nil)));clear hst hSn hBn;refine wp_seq_k fun K7 hK7 => ?_;refine wp_seq_k fun K8 hK8 => ?_;refine wp_region_lit ?_;refine Kn.known fh17 rfl rfl .none (Kn.ex_load fh17 (.tmp rfl)) hld fun fa18 fh18 => ?_;clear fh17 fa17;refine Kn.call fh18 rfl rfl .none (Kn.ex_call fh18 (.cons (.tmp rfl) .nil)) Tryz.call15 (hck) fun e u5 hp => ?_;obtain ⟨rfl, hb5⟩ := hp;refine ⟨_, rfl, fun fa19 fh19 => ?_⟩;clear fh18 fa18;refine Kn.pure fh19 rfl rfl .none (Kn.ex_assign fh19 (.tmp rfl)) fun fa20 fh20 => ?_;clear fh19 fa19;refine wpList_nil ?_;refine hK8 _ _ ?_;clear hK8 K8;replace fh20 := fh20.cut (.cons (t := 7) rfl (.cons (t := 4) rfl (.cons (t := 3) rfl (.cons (t := 2) rfl .nil))));have HS5 := Lib.hid (HS3.out.on hb5);have HS6 := Lib.hid (HS4.out.on hb5);have HB5 := Lib.hid (HB3.out.trans (hb5.mono HB3.out.size));have HM5 := Lib.hid (HMI.out.on hb5);clear hld hck hb5 HB3 HMI HS3 HS4
  by_cases hG : Good m
  rotate_left
  · obtain ⟨k, hk, hv⟩ := chkV_not hG;rw [hv] at fh20;unfold flV at fh20;obtain ⟨hst, hSn, hBn⟩ := St.storeM HS5.out (cs' := #[.int .i64 0, .int .i64 0, .int .i64 0, .slice none 0 0, .int .i64 0, .string ⟨#[]⟩]) rfl rfl (by simp [Value.oneCell']);refine wp_seq_k fun K9 hK9 => ?_;refine wp_region_lit ?_;refine Kn.pure fh20 rfl rfl .none (Kn.ex_move fh20 (.tmp rfl)) fun fa21 fh21 => ?_;clear fh20 fa20;refine Kn.step fh21 rfl rfl .none (Kn.ex_bin fh21 (.tmp rfl) .const) fun Ko hKo => ?_;go_simp;(try go_bits);refine hKo _ _ fun fa22 fh22 => ?_;clear hKo Ko fh21 fa21;refine wpList_nil ?_;refine hK9 _ _ ?_;clear hK9 K9;replace fh22 := fh22.cut (.cons (t := 30) rfl (.cons (t := 7) rfl (.cons (t := 4) rfl (.cons (t := 3) rfl (.cons (t := 2) rfl .nil)))));refine Kn.yes fh22 (.tmp rfl) ?_;replace fh22 := fh22.cut (.cons (t := 7) rfl (.cons (t := 4) rfl (.cons (t := 3) rfl (.cons (t := 2) rfl .nil))));refine wp_seq_k fun K10 hK10 => ?_;refine wp_region_lit ?_;refine Kn.step fh22 rfl rfl .none (Kn.ex_build fh22 .nil) fun Ko hKo => ?_;go_simp;(try go_bits);refine hKo _ _ fun fa23 fh23 => ?_;clear hKo Ko fh22 fa22;refine Kn.pure fh23 rfl rfl .none (Kn.ex_move fh23 (.tmp rfl)) fun fa24 fh24 => ?_;clear fh23 fa23;refine Kn.stepU fh24 rfl .none (Kn.ex_store fh24 (.tmp rfl) (.tmp rfl)) fun Ko hKo => ?_;refine Kn.satU_runA hst ?_;refine hKo _ ?_;clear hKo Ko;refine Kn.pure fh24 rfl rfl .none (Kn.ex_assign fh24 (.tmp rfl)) fun fa25 fh25 => ?_;clear fh24 fa24;refine wpList_nil ?_;refine hK10 _ _ ?_;clear hK10 K10;replace fh25 := fh25.cut (.cons (t := 3) rfl (.cons (t := 4) rfl (.cons (t := 2) rfl .nil)));refine wp_ret ?_;refine Kn.then_ret ?_;exact Kn.retC fh25 rfl rfl rfl (hSn.load Tryz.underlying25 rfl (by kernel_rfl)) ⟨.inr ⟨_, _, rfl, .inl rfl, hk⟩, HB5.out.trans (hBn _ HGE.out)⟩
  rw [chkV_good hG] at fh20;have hld := loadM HS6.out Tryz.underlying25 rfl (by kernel_rfl);obtain ⟨hst, hSn, hBn⟩ := St.storeM HS5.out (cs' := #[.int .i64 m.v, .int .i64 m.n, .int .i64 m.e, .slice A m.sh.length c, .int .i64 m.b, .string m.r]) rfl rfl (by simp [Value.oneCell']);refine wp_seq_k fun K9 hK9 => ?_;refine wp_region_lit ?_;refine Kn.pure fh20 rfl rfl .none (Kn.ex_move fh20 (.tmp rfl)) fun fa21 fh21 => ?_;clear fh20 fa20;refine Kn.step fh21 rfl rfl .none (Kn.ex_bin fh21 (.tmp rfl) .const) fun Ko hKo => ?_;go_simp;(try go_bits);refine hKo _ _ fun fa22 fh22 => ?_;clear hKo Ko fh21 fa21;refine wpList_nil ?_;refine hK9 _ _ ?_;clear hK9 K9;replace fh22 := fh22.cut (.cons (t := 30) rfl (.cons (t := 7) rfl (.cons (t := 4) rfl (.cons (t := 3) rfl (.cons (t := 2) rfl .nil)))));refine Kn.no fh22 (.tmp rfl) ?_;refine wp_skip ?_;refine hK7 _ _ ?_;clear hK7 K7;replace fh22 := fh22.cut (.cons (t := 4) rfl (.cons (t := 3) rfl (.cons (t := 2) rfl .nil)));refine wp_seq_k fun K10 hK10 => ?_;refine wp_region_lit ?_;refine Kn.known fh22 rfl rfl .none (Kn.ex_load fh22 (.tmp rfl)) hld fun fa23 fh23 => ?_;clear fh22 fa22;refine Kn.stepU fh23 rfl .none (Kn.ex_store fh23 (.tmp rfl) (.tmp rfl)) fun Ko hKo => ?_;refine Kn.satU_runA hst ?_;refine hKo _ ?_;clear hKo Ko;refine Kn.pure fh23 rfl rfl .none (Kn.ex_assign fh23 .const) fun fa24 fh24 => ?_;clear fh23 fa23;refine wpList_nil ?_;refine hK10 _ _ ?_;clear hK10 K10;replace fh24 := fh24.cut (.cons (t := 3) rfl (.cons (t := 2) rfl .nil));refine wp_ret ?_;refine Kn.retC fh24 rfl rfl rfl (hSn.load Tryz.underlying25 rfl (by kernel_rfl)) ⟨.inl ⟨m, A, c, hG, hF, HPM.out, rfl, ⟨?_, HM5.out.le, HM5.out.cap, HM5.out.few⟩⟩, HB5.out.trans (hBn _ HGE.out)⟩;exact rin_row HM5.out.row (fun b o z e => by have := hAB b o z e; have := HG1.out; omega) (fun b hb => setRow_other u5 g b _ hb) (by simp [World.setRow])
end Go.Proofs.YtbahklpdldghbaaGreatDoor.Man
end
section
namespace Go.Proofs.YtbahklpdldghbaaGreatDoor.Mrk
open Go Go.RowKit Go.Lib RowG
def Laid9 (u : World) : Prop := Err.ErrTab u ∧ Sha.Tabs u
end Go.Proofs.YtbahklpdldghbaaGreatDoor.Mrk
end
section
namespace Go.Proofs.YtbahklpdldghbaaGreatDoor.Man
open Go Go.RowKit Go.Lib RowG
theorem codeG : Code10G Mrk.Laid9 where
  toCode10 := code10 (fun _ _ h hb => ⟨h.1.on hb, h.2.below hb h.2.size⟩) (fun _ h => h.2)
  get := fun s u hs _ => (get_any s u hs).mono fun e v ⟨h, hb⟩ => ⟨by
    rcases h with h | ⟨p, c, he, hc, hp⟩
    · exact .inl h
    · exact .inr ⟨_, c, p, he, ⟨⟨_, _, rfl⟩, fun u h => ⟨Err.code_F p c u h.1, Err.place_F p c u h.1⟩⟩, hc, hp⟩, hb⟩
end Go.Proofs.YtbahklpdldghbaaGreatDoor.Man
end
section
namespace Go.Proofs.YtbahklpdldghbaaGreatDoor.Kn
open Go
theorem satU_run10 {Ko : World → Prop} {r : Result Unit} {v : World} (h : r = .ok () v) (H : Ko v) : Kn.SatU Ko r := by rw [h]; exact H
end Go.Proofs.YtbahklpdldghbaaGreatDoor.Kn
namespace Go.Proofs.YtbahklpdldghbaaGreatDoor.Man
open Go Go.RowKit Go.Lib RowG
def zM : MF := ⟨0, 0, 0, [], 0, ⟨#[]⟩⟩
theorem zM_in (u : World) : MIn zM none 0 u := ⟨RIn.nil, Nat.le_refl _, Nat.zero_le _, Nat.zero_le _⟩
structure K1 (HT : World → Prop) (w : World) (m : MF) (A : Option Addr) (c g : Nat) (u : World) : Prop where
  ht : HT u
  st : St.St u g 25 #[.int .i64 m.v, .int .i64 m.n, .int .i64 m.e, .slice A m.sh.length c, .int .i64 m.b, .string m.r]
  mi : MIn m A c u
  bl : Below w.heap.size w u
theorem K1.on {HT : World → Prop} {w u u' : World} {m : MF} {A : Option Addr} {c g : Nat} (hon : ∀ u v, HT u → Below u.heap.size u v → HT v) (h : K1 HT w m A c g u) (hb : Below u.heap.size u u') : K1 HT w m A c g u' := ⟨hon u u' h.ht hb, h.st.on hb, h.mi.on hb, h.bl.trans (hb.mono h.bl.size)⟩
theorem get_one {HT : World → Prop} (C : Code10G HT) (s : ByteArray) (u : World) (hs : s.size ≤ 400) (h : HT u) : Calls Tryz.prog 7 #[.string s] u fun e v => (∃ m A c x, e = .returned (.tuple #[.agg #[.int .i64 m.v, .int .i64 m.n, .int .i64 m.e, .slice A m.sh.length c, .int .i64 m.b, .string m.r], x]) ∧ MIn m A c v ∧ ((Good m ∧ Fit m ∧ putM m = s.data.toList ∧ x = .nilIface) ∨ (m = zM ∧ ∃ cd p, EV HT x cd p ∧ (cd = 4 ∨ cd = 3) ∧ 0 ≤ p))) ∧ Below u.heap.size u v :=
  (C.get s u hs h).mono fun e v ⟨h1, hb⟩ => ⟨by
    rcases h1 with ⟨m, A, c, g, f, p, he, hm⟩ | ⟨x, cd, p, he, h2, h3, h4⟩
    · exact ⟨m, A, c, _, he, hm, .inl ⟨g, f, p, rfl⟩⟩
    · exact ⟨zM, none, 0, x, he, zM_in v, .inr ⟨rfl, cd, p, h2, h3, h4⟩⟩, hb⟩
set_option maxRecDepth 100000 in
set_option maxHeartbeats 600000 in
theorem gets_all {HT : World → Prop} (C : Code10G HT) (s : ByteArray) (w : World) (hT : HT w) (hs9 : s.size ≤ maxLen) :
    Calls Tryz.prog 3 #[.string s] w fun e w' => e = .returned (.bool true) ∧ Below w.heap.size w w' := by
  unfold maxLen at hs9;refine Kn.calls Tryz.func3 rfl Tryz.ntmps3 rfl (.cons (t := 0) rfl .nil) fun fa0 fh0 => ?_;refine wp_seq_k fun K1 hK1 => ?_;refine wp_region_lit ?_;refine Kn.pure fh0 rfl rfl .none (Kn.ex_assign fh0 .const) fun fa1 fh1 => ?_;clear fh0 fa0;refine wpList_nil ?_;refine hK1 _ _ ?_;clear hK1 K1;have ha0 := C.awake w hT;refine wp_seq_k fun K2 hK2 => ?_;refine wp_seq_k fun K3 hK3 => ?_;refine wp_region_lit ?_;refine Kn.call fh1 rfl rfl .none (Kn.ex_call fh1 .nil) Tryz.call6 (ha0) fun e u1 hp => ?_;obtain ⟨rfl, hb1⟩ := hp;refine ⟨_, rfl, fun fa2 fh2 => ?_⟩;clear fh1 fa1;refine Kn.step fh2 rfl rfl .none (Kn.ex_un fh2 (.tmp rfl)) fun Ko hKo => ?_;go_simp;(try go_bits);refine hKo _ _ fun fa3 fh3 => ?_;clear hKo Ko fh2 fa2;refine wpList_nil ?_;refine hK3 _ _ ?_;clear hK3 K3;replace fh3 := fh3.cut (.cons (t := 9) rfl (.cons (t := 2) rfl (.cons (t := 0) rfl .nil)));refine Kn.no fh3 (.tmp rfl) ?_;refine wp_skip ?_;refine hK2 _ _ ?_;clear hK2 K2;replace fh3 := fh3.cut (.cons (t := 2) rfl (.cons (t := 0) rfl .nil));have hT1 := C.hon _ _ hT hb1;have HB1 := Lib.hid (And.intro hT1 hb1);clear ha0 hT hT1 hb1
  by_cases h4 : (400 : Int) < (s.size : Int)
  · refine wp_seq_k fun K4 hK4 => ?_;refine wp_seq_k fun K5 hK5 => ?_;refine wp_region_lit ?_;refine Kn.pure fh3 rfl rfl .none (Kn.ex_move fh3 (.tmp rfl)) fun fa4 fh4 => ?_;clear fh3 fa3;refine Kn.step fh4 rfl rfl .none (Kn.ex_len fh4 (.tmp rfl)) fun Ko hKo => ?_;go_simp;(try go_bits);refine hKo _ _ fun fa5 fh5 => ?_;clear hKo Ko fh4 fa4;refine Kn.step fh5 rfl rfl .none (Kn.ex_bin fh5 (.tmp rfl) .const) fun Ko hKo => ?_;go_simp;(try go_bits);refine hKo _ _ fun fa6 fh6 => ?_;clear hKo Ko fh5 fa5;refine wpList_nil ?_;refine hK5 _ _ ?_;clear hK5 K5;replace fh6 := fh6.cut (.cons (t := 12) rfl (.cons (t := 2) rfl (.cons (t := 0) rfl .nil)));refine Kn.yes fh6 (.tmp rfl) ?_;replace fh6 := fh6.cut (.cons (t := 2) rfl (.cons (t := 0) rfl .nil));refine wp_seq_k fun K6 hK6 => ?_;refine wp_region_lit ?_;refine Kn.pure fh6 rfl rfl .none (Kn.ex_assign fh6 .const) fun fa7 fh7 => ?_;clear fh6 fa6;refine wpList_nil ?_;refine hK6 _ _ ?_;clear hK6 K6;refine wp_ret ?_;refine Kn.then_ret ?_;exact Kn.ret1 fh7 rfl rfl ⟨rfl, HB1.out.2⟩
  refine wp_seq_k fun K4 hK4 => ?_;refine wp_seq_k fun K5 hK5 => ?_;refine wp_region_lit ?_;refine Kn.pure fh3 rfl rfl .none (Kn.ex_move fh3 (.tmp rfl)) fun fa4 fh4 => ?_;clear fh3 fa3;refine Kn.step fh4 rfl rfl .none (Kn.ex_len fh4 (.tmp rfl)) fun Ko hKo => ?_;go_simp;(try go_bits);refine hKo _ _ fun fa5 fh5 => ?_;clear hKo Ko fh4 fa4;refine Kn.step fh5 rfl rfl .none (Kn.ex_bin fh5 (.tmp rfl) .const) fun Ko hKo => ?_;go_simp;(try go_bits);refine hKo _ _ fun fa6 fh6 => ?_;clear hKo Ko fh5 fa5;refine wpList_nil ?_;refine hK5 _ _ ?_;clear hK5 K5;replace fh6 := fh6.cut (.cons (t := 12) rfl (.cons (t := 2) rfl (.cons (t := 0) rfl .nil)));refine Kn.no fh6 (.tmp rfl) ?_;refine wp_skip ?_;refine hK4 _ _ ?_;clear hK4 K4;replace fh6 := fh6.cut (.cons (t := 2) rfl (.cons (t := 0) rfl .nil));have hget := get_one C s u1 (by omega) HB1.out.1;clear h4;refine wp_seq_k fun K6 hK6 => ?_;refine wp_region_lit ?_;refine Kn.pure fh6 rfl rfl .none (Kn.ex_move fh6 (.tmp rfl)) fun fa7 fh7 => ?_;clear fh6 fa6;refine Kn.call fh7 rfl rfl .none (Kn.ex_call fh7 (.cons (.tmp rfl) .nil)) Tryz.call7 (hget) fun e u2 hp => ?_;obtain ⟨⟨m, A, c, x, rfl, hM, hx⟩, hb2⟩ := hp;refine ⟨_, rfl, fun fa8 fh8 => ?_⟩;clear fh7 fa7;refine Kn.pure fh8 rfl rfl .none (Kn.ex_move fh8 (.tmp rfl)) fun fa9 fh9 => ?_;clear fh8 fa8;refine Kn.pure fh9 rfl rfl .none (Kn.ex_extract fh9 (.tmp rfl) rfl) fun fa10 fh10 => ?_;clear fh9 fa9;refine Kn.pure fh10 rfl rfl .none (Kn.ex_extract fh10 (.tmp rfl) rfl) fun fa11 fh11 => ?_;clear fh10 fa10;refine Kn.step fh11 rfl rfl .none Kn.ex_alloc fun Ko hKo => ?_;go_simp;(try go_bits);refine hKo _ _ fun fa12 fh12 => ?_;clear hKo Ko fh11 fa11;obtain ⟨hst, hSn, hBn⟩ := (St.St.new u2 25 #[.int .i64 0, .int .i64 0, .int .i64 0, .slice none 0 0, .int .i64 0, .string ⟨#[]⟩]).store (P := Tryz.prog) (cells := #[.int .i64 m.v, .int .i64 m.n, .int .i64 m.e, .slice A m.sh.length c, .int .i64 m.b, .string m.r]) (by kernel_rfl) rfl (by simp [Value.oneCell']);refine Kn.stepU fh12 rfl .none (Kn.ex_store fh12 (.tmp rfl) (.tmp rfl)) fun Ko hKo => ?_;refine Kn.satU_run10 hst ?_;refine hKo _ ?_;clear hKo Ko;refine Kn.pure fh12 rfl rfl .none (Kn.ex_assign fh12 (.tmp rfl)) fun fa13 fh13 => ?_;clear fh12 fa12;refine wpList_nil ?_;refine hK6 _ _ ?_;clear hK6 K6;replace fh13 := fh13.cut (.cons (t := 4) rfl (.cons (t := 3) rfl (.cons (t := 2) rfl (.cons (t := 0) rfl .nil))));have hbn := ((Below.refl _ u2).alloc (Nat.le_refl _) (.cells #[.int .i64 0, .int .i64 0, .int .i64 0, .slice none 0 0, .int .i64 0, .string ⟨#[]⟩] 25)).trans (hBn _ (Nat.le_refl _));refine Kn.gen (fun u => K1 HT w m A c u2.heap.size u) ⟨C.hon _ _ (C.hon _ _ HB1.out.1 hb2) hbn, hSn, hM.on hbn, (HB1.out.2.trans (hb2.mono HB1.out.2.size)).trans (hbn.mono (Nat.le_trans HB1.out.2.size hb2.size))⟩ fun u3 HK3 => ?_;clear hst hSn hBn hbn hM hget HB1;obtain ⟨g, hg⟩ : ∃ g, u2.heap.size = g := ⟨_, rfl⟩;rw [hg] at HK3 fh13;clear hg hb2;have HK := Lib.hid HK3;clear HK3;have hld : ∀ u, K1 HT w m A c g u → (Instr.loadAt 25 (.pointer (some ⟨g, 0, none⟩))).run Tryz.prog u = .ok (.agg #[.int .i64 m.v, .int .i64 m.n, .int .i64 m.e, .slice A m.sh.length c, .int .i64 m.b, .string m.r]) u := fun u h => loadM h.st Tryz.underlying25 rfl (by kernel_rfl);have HLD := Lib.hid hld;clear hld;rcases hx with ⟨hG, hF, hP, rfl⟩ | ⟨hz, cd, p, hev, hcd, hp0⟩
  rotate_left
  · obtain ⟨⟨t, y, rfl⟩, hcall⟩ := hev;have HC := Lib.hid hcall;clear hcall;refine wp_seq_k fun K7 hK7 => ?_;refine wp_seq_k fun K8 hK8 => ?_;refine wp_region_lit ?_;refine Kn.pure fh13 rfl rfl .none (Kn.ex_move fh13 (.tmp rfl)) fun fa14 fh14 => ?_;clear fh13 fa13;refine Kn.step fh14 rfl rfl .none (Kn.ex_bin fh14 (.tmp rfl) .const) fun Ko hKo => ?_;go_simp;(try go_bits);refine hKo _ _ fun fa15 fh15 => ?_;clear hKo Ko fh14 fa14;refine wpList_nil ?_;refine hK8 _ _ ?_;clear hK8 K8;replace fh15 := fh15.cut (.cons (t := 19) rfl (.cons (t := 4) rfl (.cons (t := 3) rfl (.cons (t := 2) rfl (.cons (t := 0) rfl .nil)))));refine Kn.yes fh15 (.tmp rfl) ?_;replace fh15 := fh15.cut (.cons (t := 4) rfl (.cons (t := 3) rfl (.cons (t := 2) rfl (.cons (t := 0) rfl .nil))));refine wp_seq_k fun K9 hK9 => ?_;refine wp_region_lit ?_;refine Kn.pure fh15 rfl rfl .none (Kn.ex_move fh15 (.tmp rfl)) fun fa16 fh16 => ?_;clear fh15 fa15;refine Kn.call fh16 rfl rfl .none (Kn.ex_call fh16 (.cons (.tmp rfl) .nil)) Tryz.call8 ((HC.out _ HK.out.ht).1) fun e u4 hp => ?_;obtain ⟨rfl, hb4⟩ := hp;refine ⟨_, rfl, fun fa17 fh17 => ?_⟩;clear fh16 fa16;refine Kn.pure fh17 rfl rfl .none (Kn.ex_assign fh17 (.tmp rfl)) fun fa18 fh18 => ?_;clear fh17 fa17;refine wpList_nil ?_;refine hK9 _ _ ?_;clear hK9 K9;replace fh18 := fh18.cut (.cons (t := 5) rfl (.cons (t := 4) rfl (.cons (t := 3) rfl (.cons (t := 2) rfl (.cons (t := 0) rfl .nil)))));have HK4 := Lib.hid (HK.out.on C.hon hb4);clear HK hb4;have hsm := same_any m zM A none c 0 u4 HK4.out.mi (zM_in u4);rw [decide_eq_true hz] at hsm;have HSM : Hid (Calls Tryz.prog 9 #[.agg #[.int .i64 m.v, .int .i64 m.n, .int .i64 m.e, .slice A m.sh.length c, .int .i64 m.b, .string m.r], .agg #[.int .i64 0, .int .i64 0, .int .i64 0, .slice none 0 0, .int .i64 0, .string ⟨#[]⟩]] u4 fun e v => e = .returned (.bool true) ∧ Below u4.heap.size u4 v) := Lib.hid hsm;clear hsm hz;rcases hcd with rfl | rfl
    · refine wp_seq_k fun K10 hK10 => ?_;refine wp_region_lit ?_;refine Kn.known fh18 rfl rfl .none (Kn.ex_load fh18 (.tmp rfl)) (HLD.out _ HK4.out) fun fa19 fh19 => ?_;clear fh18 fa18;refine Kn.step fh19 rfl rfl .none (Kn.ex_build fh19 .nil) fun Ko hKo => ?_;go_simp;(try go_bits);refine hKo _ _ fun fa20 fh20 => ?_;clear hKo Ko fh19 fa19;refine Kn.call fh20 rfl rfl .none (Kn.ex_call fh20 (.cons (.tmp rfl) (.cons (.tmp rfl) .nil))) Tryz.call9 (HSM.out) fun e u5 hp => ?_;obtain ⟨rfl, hb5⟩ := hp;refine ⟨_, rfl, fun fa21 fh21 => ?_⟩;clear fh20 fa20;refine Kn.pure fh21 rfl rfl .none (Kn.ex_move fh21 (.tmp rfl)) fun fa22 fh22 => ?_;clear fh21 fa21;refine Kn.pure fh22 rfl rfl (.some rfl rfl rfl) (Kn.ex_move fh22 (.tmp rfl)) fun fa23 fh23 => ?_;clear fh22 fa22;refine Kn.step fh23 rfl rfl (.some rfl rfl rfl) (Kn.ex_bin fh23 (.tmp rfl) .const) fun Ko hKo => ?_;go_simp;(try go_bits);refine hKo _ _ fun fa24 fh24 => ?_;clear hKo Ko fh23 fa23;refine Kn.pure fh24 rfl rfl (.some rfl rfl rfl) (Kn.ex_move fh24 (.tmp rfl)) fun fa25 fh25 => ?_;clear fh24 fa24;refine Kn.skip fh25 rfl rfl (.some rfl rfl rfl) fun fa26 fh26 => ?_;clear fh25 fa25;refine Kn.skip fh26 rfl rfl (.some rfl rfl rfl) fun fa27 fh27 => ?_;clear fh26 fa26;refine Kn.pure fh27 rfl rfl (.some rfl rfl rfl) (Kn.ex_pick fh27 (.tmp rfl) .const) fun fa28 fh28 => ?_;clear fh27 fa27;refine Kn.pure fh28 rfl rfl .none (Kn.ex_pick fh28 (.tmp rfl) (.tmp rfl)) fun fa29 fh29 => ?_;clear fh28 fa28;refine Kn.pure fh29 rfl rfl .none (Kn.ex_move fh29 (.tmp rfl)) fun fa30 fh30 => ?_;clear fh29 fa29;refine Kn.pure fh30 rfl rfl (.some rfl rfl rfl) (Kn.ex_move fh30 (.tmp rfl)) fun fa31 fh31 => ?_;clear fh30 fa30;refine Kn.call fh31 rfl rfl (.some rfl rfl rfl) (Kn.ex_call fh31 (.cons (.tmp rfl) .nil)) Tryz.call10 ((HC.out _ (HK4.out.on C.hon hb5).ht).2) fun e u6 hp => ?_;obtain ⟨rfl, hb6⟩ := hp;refine ⟨_, rfl, fun fa32 fh32 => ?_⟩;clear fh31 fa31;refine Kn.step fh32 rfl rfl (.some rfl rfl rfl) (Kn.ex_bin fh32 (.tmp rfl) .const) fun Ko hKo => ?_;go_simp;(try go_bits);refine hKo _ _ fun fa33 fh33 => ?_;clear hKo Ko fh32 fa32;refine Kn.pure fh33 rfl rfl .none (Kn.ex_pick fh33 (.tmp rfl) (.tmp rfl)) fun fa34 fh34 => ?_;clear fh33 fa33;refine Kn.pure fh34 rfl rfl .none (Kn.ex_assign fh34 (.tmp rfl)) fun fa35 fh35 => ?_;clear fh34 fa34;refine wpList_nil ?_;refine hK10 _ _ ?_;clear hK10 K10;replace fh35 := fh35.cut (.cons (t := 2) rfl (.cons (t := 3) rfl (.cons (t := 0) rfl .nil)));refine wp_ret ?_;refine Kn.then_ret ?_;exact Kn.ret1 fh35 rfl rfl ⟨by simp, ((HK4.out.on C.hon hb5).on C.hon hb6).bl⟩
    refine wp_seq_k fun K10 hK10 => ?_;refine wp_region_lit ?_;refine Kn.known fh18 rfl rfl .none (Kn.ex_load fh18 (.tmp rfl)) (HLD.out _ HK4.out) fun fa19 fh19 => ?_;clear fh18 fa18;refine Kn.step fh19 rfl rfl .none (Kn.ex_build fh19 .nil) fun Ko hKo => ?_;go_simp;(try go_bits);refine hKo _ _ fun fa20 fh20 => ?_;clear hKo Ko fh19 fa19;refine Kn.call fh20 rfl rfl .none (Kn.ex_call fh20 (.cons (.tmp rfl) (.cons (.tmp rfl) .nil))) Tryz.call9 (HSM.out) fun e u5 hp => ?_;obtain ⟨rfl, hb5⟩ := hp;refine ⟨_, rfl, fun fa21 fh21 => ?_⟩;clear fh20 fa20;refine Kn.pure fh21 rfl rfl .none (Kn.ex_move fh21 (.tmp rfl)) fun fa22 fh22 => ?_;clear fh21 fa21;refine Kn.pure fh22 rfl rfl (.some rfl rfl rfl) (Kn.ex_move fh22 (.tmp rfl)) fun fa23 fh23 => ?_;clear fh22 fa22;refine Kn.step fh23 rfl rfl (.some rfl rfl rfl) (Kn.ex_bin fh23 (.tmp rfl) .const) fun Ko hKo => ?_;go_simp;(try go_bits);refine hKo _ _ fun fa24 fh24 => ?_;clear hKo Ko fh23 fa23;refine Kn.pure fh24 rfl rfl (.some rfl rfl rfl) (Kn.ex_move fh24 (.tmp rfl)) fun fa25 fh25 => ?_;clear fh24 fa24;refine Kn.pure fh25 rfl rfl (.some rfl rfl rfl) (Kn.ex_move fh25 (.tmp rfl)) fun fa26 fh26 => ?_;clear fh25 fa25;refine Kn.step fh26 rfl rfl (.some rfl rfl rfl) (Kn.ex_bin fh26 (.tmp rfl) .const) fun Ko hKo => ?_;go_simp;(try go_bits);refine hKo _ _ fun fa27 fh27 => ?_;clear hKo Ko fh26 fa26;refine Kn.pure fh27 rfl rfl (.some rfl rfl rfl) (Kn.ex_pick fh27 (.tmp rfl) (.tmp rfl)) fun fa28 fh28 => ?_;clear fh27 fa27;refine Kn.pure fh28 rfl rfl .none (Kn.ex_pick fh28 (.tmp rfl) (.tmp rfl)) fun fa29 fh29 => ?_;clear fh28 fa28;refine Kn.pure fh29 rfl rfl .none (Kn.ex_move fh29 (.tmp rfl)) fun fa30 fh30 => ?_;clear fh29 fa29;refine Kn.pure fh30 rfl rfl (.some rfl rfl rfl) (Kn.ex_move fh30 (.tmp rfl)) fun fa31 fh31 => ?_;clear fh30 fa30;refine Kn.call fh31 rfl rfl (.some rfl rfl rfl) (Kn.ex_call fh31 (.cons (.tmp rfl) .nil)) Tryz.call10 ((HC.out _ (HK4.out.on C.hon hb5).ht).2) fun e u6 hp => ?_;obtain ⟨rfl, hb6⟩ := hp;refine ⟨_, rfl, fun fa32 fh32 => ?_⟩;clear fh31 fa31;refine Kn.step fh32 rfl rfl (.some rfl rfl rfl) (Kn.ex_bin fh32 (.tmp rfl) .const) fun Ko hKo => ?_;go_simp;(try go_bits);refine hKo _ _ fun fa33 fh33 => ?_;clear hKo Ko fh32 fa32;refine Kn.pure fh33 rfl rfl .none (Kn.ex_pick fh33 (.tmp rfl) (.tmp rfl)) fun fa34 fh34 => ?_;clear fh33 fa33;refine Kn.pure fh34 rfl rfl .none (Kn.ex_assign fh34 (.tmp rfl)) fun fa35 fh35 => ?_;clear fh34 fa34;refine wpList_nil ?_;refine hK10 _ _ ?_;clear hK10 K10;replace fh35 := fh35.cut (.cons (t := 2) rfl (.cons (t := 3) rfl (.cons (t := 0) rfl .nil)));refine wp_ret ?_;refine Kn.then_ret ?_;exact Kn.ret1 fh35 rfl rfl ⟨by simp, ((HK4.out.on C.hon hb5).on C.hon hb6).bl⟩
  refine wp_seq_k fun K7 hK7 => ?_;refine wp_seq_k fun K8 hK8 => ?_;refine wp_region_lit ?_;refine Kn.pure fh13 rfl rfl .none (Kn.ex_move fh13 (.tmp rfl)) fun fa14 fh14 => ?_;clear fh13 fa13;refine Kn.step fh14 rfl rfl .none (Kn.ex_bin fh14 (.tmp rfl) .const) fun Ko hKo => ?_;go_simp;(try go_bits);refine hKo _ _ fun fa15 fh15 => ?_;clear hKo Ko fh14 fa14;refine wpList_nil ?_;refine hK8 _ _ ?_;clear hK8 K8;replace fh15 := fh15.cut (.cons (t := 19) rfl (.cons (t := 4) rfl (.cons (t := 3) rfl (.cons (t := 2) rfl (.cons (t := 0) rfl .nil)))));refine Kn.no fh15 (.tmp rfl) ?_;refine wp_skip ?_;refine hK7 _ _ ?_;clear hK7 K7;replace fh15 := fh15.cut (.cons (t := 3) rfl (.cons (t := 2) rfl (.cons (t := 0) rfl .nil)));refine wp_seq_k fun K9 hK9 => ?_;refine wp_region_lit ?_;refine Kn.known fh15 rfl rfl .none (Kn.ex_load fh15 (.tmp rfl)) (HLD.out _ HK.out) fun fa16 fh16 => ?_;clear fh15 fa15;refine Kn.call fh16 rfl rfl .none (Kn.ex_call fh16 (.cons (.tmp rfl) .nil)) Tryz.call11 (C.put m A c _ hF HK.out.mi HK.out.ht) fun e u4 hp => ?_;obtain ⟨⟨s1, x1, rfl, hp1, -⟩, hb4⟩ := hp;refine ⟨_, rfl, fun fa17 fh17 => ?_⟩;clear fh16 fa16;refine Kn.pure fh17 rfl rfl .none (Kn.ex_move fh17 (.tmp rfl)) fun fa18 fh18 => ?_;clear fh17 fa17;refine Kn.pure fh18 rfl rfl .none (Kn.ex_extract fh18 (.tmp rfl) rfl) fun fa19 fh19 => ?_;clear fh18 fa18;refine Kn.pure fh19 rfl rfl .none (Kn.ex_extract fh19 (.tmp rfl) rfl) fun fa20 fh20 => ?_;clear fh19 fa19;refine Kn.pure fh20 rfl rfl .none (Kn.ex_assign fh20 (.tmp rfl)) fun fa21 fh21 => ?_;clear fh20 fa20;refine Kn.pure fh21 rfl rfl .none (Kn.ex_assign fh21 (.tmp rfl)) fun fa22 fh22 => ?_;clear fh21 fa21;refine wpList_nil ?_;refine hK9 _ _ ?_;clear hK9 K9;replace fh22 := fh22.cut (.cons (t := 7) rfl (.cons (t := 6) rfl (.cons (t := 3) rfl (.cons (t := 2) rfl (.cons (t := 0) rfl .nil)))));have HK4 := Lib.hid (HK.out.on C.hon hb4);clear HK hb4;obtain ⟨rfl, e1⟩ := hp1 hG;have hwr := wrong_any m A c _ HK4.out.mi hF.r;rw [(good_iff m).2 hG] at hwr;have HWR := Lib.hid hwr
  have hss : (s1.toList == s.toList) = true := tx_eq (by
    apply ByteArray.ext
    apply Array.toList_inj.1
    rw [e1, hP])
  clear hwr hp1 e1 hP;refine wp_seq_k fun K10 hK10 => ?_;refine wp_region_lit ?_;refine Kn.known fh22 rfl rfl .none (Kn.ex_load fh22 (.tmp rfl)) (HLD.out _ HK4.out) fun fa23 fh23 => ?_;clear fh22 fa22;refine Kn.call fh23 rfl rfl .none (Kn.ex_call fh23 (.cons (.tmp rfl) .nil)) Tryz.call12 (HWR.out) fun e u5 hp => ?_;obtain ⟨rfl, hb5⟩ := hp;refine ⟨_, rfl, fun fa24 fh24 => ?_⟩;clear fh23 fa23;refine Kn.step fh24 rfl rfl .none (Kn.ex_bin fh24 (.tmp rfl) .const) fun Ko hKo => ?_;go_simp;(try go_bits);refine hKo _ _ fun fa25 fh25 => ?_;clear hKo Ko fh24 fa24;refine Kn.pure fh25 rfl rfl .none (Kn.ex_move fh25 (.tmp rfl)) fun fa26 fh26 => ?_;clear fh25 fa25;refine Kn.pure fh26 rfl rfl (.some rfl rfl rfl) (Kn.ex_move fh26 (.tmp rfl)) fun fa27 fh27 => ?_;clear fh26 fa26;refine Kn.step fh27 rfl rfl (.some rfl rfl rfl) (Kn.ex_bin fh27 (.tmp rfl) .const) fun Ko hKo => ?_;go_simp;(try go_bits);refine hKo _ _ fun fa28 fh28 => ?_;clear hKo Ko fh27 fa27;refine Kn.pure fh28 rfl rfl .none (Kn.ex_pick fh28 (.tmp rfl) (.tmp rfl)) fun fa29 fh29 => ?_;clear fh28 fa28;refine Kn.pure fh29 rfl rfl .none (Kn.ex_move fh29 (.tmp rfl)) fun fa30 fh30 => ?_;clear fh29 fa29;refine Kn.pure fh30 rfl rfl (.some rfl rfl rfl) (Kn.ex_move fh30 (.tmp rfl)) fun fa31 fh31 => ?_;clear fh30 fa30;refine Kn.pure fh31 rfl rfl (.some rfl rfl rfl) (Kn.ex_move fh31 (.tmp rfl)) fun fa32 fh32 => ?_;clear fh31 fa31;refine Kn.step fh32 rfl rfl (.some rfl rfl rfl) (Kn.ex_bin fh32 (.tmp rfl) (.tmp rfl)) fun Ko hKo => ?_;go_simp;(try go_bits);refine hKo _ _ fun fa33 fh33 => ?_;clear hKo Ko fh32 fa32;refine Kn.pure fh33 rfl rfl .none (Kn.ex_pick fh33 (.tmp rfl) (.tmp rfl)) fun fa34 fh34 => ?_;clear fh33 fa33;refine Kn.pure fh34 rfl rfl .none (Kn.ex_assign fh34 (.tmp rfl)) fun fa35 fh35 => ?_;clear fh34 fa34;refine wpList_nil ?_;refine hK10 _ _ ?_;clear hK10 K10;replace fh35 := fh35.cut (.cons (t := 2) rfl .nil);refine wp_ret ?_;exact Kn.ret1 fh35 rfl rfl ⟨by first | rfl | simp, (HK4.out.on C.hon hb5).bl⟩
end Go.Proofs.YtbahklpdldghbaaGreatDoor.Man
end
section
namespace Go.Proofs.YtbahklpdldghbaaGreatDoor.manifestGets
open Go.ChangeShapes Go.WideShapes Go.ChangeAt Go.RowKit Go.Joins
open Go.ChangeMaps (open_string shut_string)
set_option linter.unusedVariables false
set_option maxRecDepth 100000 in
theorem contract (H : Type) (enc : TypeId × Value → H) (W : World) (base : Nat) (args : Array Value) (ds gs : List (DataW H)) (before : List MemPlace)
    (hval : ∀ (j : Nat) t v, Tryz.f3.params[j]? = some t → args[j]? = some v → Value.okWide Tryz.prog W .any base t v)
    (hW : DataW.Whole enc Tryz.prog Tryz.f3.params.toList Rows.manifestGetsSpec.vars false W args.toList ds gs before)
    (hsz : (DataW.weightsEach Tryz.prog (Tryz.f3.params.toList ++ (OpenSpec.ofChange Rows.manifestGetsSpec).bare.plain.varTypes Tryz.prog) (ds ++ gs)).all (· ≤ reachBytes) = true) (hL : laidMetH Tryz.prog Rows.manifestGetsRow.laid W) :
    Calls Tryz.prog 3 args W fun e W' => ∃ v, e = .returned v ∧ Rows.manifestGetsSpec.post enc Tryz.prog Tryz.f3 false true false false W args v W' := by
  have hW' := hW;have hg := Mrk.vars_of_laid hL;obtain ⟨p, q, hA0, hV, rfl, hfz, hnd⟩ := hW;have hA : DataW.TrodAll enc Tryz.prog W 0 (fun _ => true) true Tryz.f3.params.toList args.toList ds p := hA0;rw [Tryz.params3] at hA hval hsz;obtain ⟨v0, vs0, d0, ds0, p0, q0, hargs, rfl, rfl, h0, s0⟩ := trodAll_cons hA;obtain ⟨rfl, rfl, rfl⟩ := trodAll_nil s0;obtain rfl : args = #[v0] := by cases args; simp_all
  obtain ⟨rfl, rfl⟩ := trodVars_none hV;obtain ⟨a0, rfl, rfl, rfl, w0⟩ := open_string Tryz.underlying9 (hval 0 9 v0 rfl rfl) h0;clear hA0;simp only [List.append_nil] at hW';refine (Man.gets_all Man.codeG a0 W hg w0).mono fun e W' ⟨he, hb⟩ => ?_;subst he;exact ⟨_, rfl, _, _, _, [], [], [], hW', trodAll_cons_mk (shut_bool Tryz.underlying4 _) trodAll_mk0, trodAll_cons_mk (shut_string Tryz.underlying9 w0) (trodAll_mk0), rfl, hb.frame _, fun h => by cases h⟩
theorem reads (os : Os) {H : Type} (enc : TypeId × Value → H) : ∃ places, DataW.whole enc Tryz.prog ((Mrk.laidWorld os).forCall (fun _ _ => 0) ⟨#[], #[.string ByteArray.empty], []⟩).memory Tryz.f3.params.toList Rows.manifestGetsSpec.vars false #[(.string ByteArray.empty : Value)].toList 8 = some ([.lit (.string [])], [], places) :=
  ⟨[], by kernel_rfl⟩
set_option maxRecDepth 100000 in
theorem lifted (os : Os) (started : os.Started) (H : Type) (enc : TypeId × Value → H) (F : Stop.Interp) :
    ReturnsInHanded {} Tryz.checked os 3 .any ((OpenSpec.ofChange Rows.manifestGetsSpec).preRow enc Tryz.prog Tryz.f3 Rows.manifestGetsRow.domain false Rows.manifestGetsRow.laid) (((OpenSpec.ofChange Rows.manifestGetsSpec).at F).post enc Tryz.prog Tryz.f3 false true false false) := by
  obtain ⟨places, hx⟩ := reads os enc
  refine returnsInHanded_of_row (C := Tryz.checked) (s := OpenSpec.ofChange Rows.manifestGetsSpec) Mrk.own started (by kernel_rfl) Tryz.func3
    (witness_row_at (enc := enc) (C := Tryz.checked) false (Mrk.laidWorld os) #[.string ByteArray.empty] rfl (by kernel_rfl) (by kernel_rfl) (by kernel_rfl)
      (OpenSpec.preRow_of_cond 8 hx (by kernel_rfl) (fun k hk => by cases hk) (by kernel_rfl) (Mrk.laid_met os _))) ?_
  intro W base args ds gs before hval hW _ _ hsz hL _ _;exact contract H enc W base args ds gs before hval hW hsz hL
theorem said : Rows.ManifestGetsSaid :=
  OpenClaim.holds_of_cond 3 Tryz.f3 rfl rfl rfl rfl rfl rfl rfl ⟨rfl, rfl, rfl, rfl, rfl⟩ rfl rfl rfl rfl rfl (by kernel_rfl) Tryz.func3 (by kernel_rfl)
    (of_decide_eq_true (by kernel_rfl)) (by unfold Func.isWrapper; first | (rw [if_pos (by decide +kernel)]; kernel_rfl) | (rw [if_neg (by decide +kernel)]; exact ⟨rfl, rfl⟩))
    (fun os started H enc _ F => by rw [OpenClaim.pre_eq_preRow]; exact lifted os started H enc F)
theorem plain (f : FuncId) (fn : Func) (hf : Tryz.pinned.checked.prog.funcNamed "lading/ladinglaw10.ManifestGets" = some f) (hfn : Tryz.pinned.checked.prog.funcs[f]? = some fn) :
    true = Tryz.pinned.checked.prog.looks [] ∧ ∀ (j : Nat) t, fn.params[j]? = some t → Tryz.pinned.checked.prog.wantsStandIn t = false := by
  obtain rfl : f = 3 := Option.some.inj ((show Tryz.prog.funcNamed "lading/ladinglaw10.ManifestGets" = some 3 by kernel_rfl).symm.trans hf) |>.symm;obtain rfl : fn = Tryz.f3 := (Option.some.inj (Tryz.func3.symm.trans hfn)).symm;refine ⟨by kernel_rfl, fun j t ht => ?_⟩;rw [Tryz.params3] at ht;have hm := Array.mem_of_getElem? ht;simp at hm;subst hm;exact (show Tryz.prog.wantsStandIn 9 = false by kernel_rfl)
theorem card : Rows.ManifestGetsCardSaid :=
  Claim7.holds_tied_plain_at .later [] _ _ _ _ said (fun _ h => by cases h) (by kernel_rfl) (fun _ h => by cases h) manifestGets_row_tie rfl ⟨rfl, rfl⟩ (by kernel_rfl) rfl plain (by kernel_rfl)
end Go.Proofs.YtbahklpdldghbaaGreatDoor.manifestGets
end
