/- Two manifests are one just if all of them is; unlike ones that may be have unlike bytes. The law ManifestSame answers true for every input. The package-level variables that it reaches are as the program's text lays them (tied). -/
import Derived.Test.YtbahklpdldghbaaGreatDoorMTS6
import Derived.Test.YtbahklpdldghbaaGreatDoorChecked
import Derived.Shelf.Pu.Clone
import Derived.Ground.NamesProg
import Derived.Shelf.Strings.OnBuilder
import Derived.Test.YtbahklpdldghbaaGreatDoorProg
import Derived.Shelf.SlicesQ.Reverse
import Derived.Lib.OwnBridge
import Derived.ProofKit
import Derived.OpenShut
import Derived.Maps.Keyed
import Derived.DeepKeys4
import Derived.WideMake
import Derived.WalkKit
import Derived.WalkSpells
import Derived.WalkLawsBesides
import Derived.LaidEql
import Derived.Stop.Asserts
import Derived.RowKitTokens
import Derived.Lib.Hide
import Derived.SliceStrings
import Derived.SizedLaws
import Derived.Lib.SmallJoins
import Derived.ChangeSlices
import Derived.Deep.SlicePairs
import Derived.Deep.OwnShut
import Derived.Deep.Grids
section
namespace Go.Proofs.YtbahklpdldghbaaGreatDoor.Blk
open Go.RowKit Go.Lib Go.Shelf
def cloneRen : Ren := { f := fun | 25 => 71 | n => n, t := fun | 3 => 3 | 4 => 4 | 5 => 5 | 9 => 9 | 37 => 93 | 47 => 171 | n => n, g := fun n => n }
theorem cloneLays : LaysPu.n25 Tryz.prog cloneRen := ⟨by kernel_rfl, by kernel_rfl, by kernel_rfl, fun _ => by kernel_rfl, fun _ => by kernel_rfl, fun _ => by kernel_rfl, by kernel_rfl, by kernel_rfl, fun _ => by kernel_rfl, fun _ => by kernel_rfl, fun _ => by kernel_rfl, by kernel_rfl, by kernel_rfl, fun _ => by kernel_rfl, fun _ => by kernel_rfl, fun _ => by kernel_rfl, by kernel_rfl, by kernel_rfl, fun _ => by kernel_rfl, fun _ => by kernel_rfl, fun _ => by kernel_rfl, by kernel_rfl, by kernel_rfl, fun _ => by kernel_rfl, fun _ => by kernel_rfl, fun _ => by kernel_rfl, by kernel_rfl, by kernel_rfl, fun _ => by kernel_rfl, fun _ => by kernel_rfl, fun _ => by kernel_rfl, by kernel_rfl, by kernel_rfl, fun _ => by kernel_rfl, fun _ => by kernel_rfl, fun _ => by kernel_rfl, by kernel_rfl⟩
theorem clone_any (s : ByteArray) (w : World) (h : s.size ≤ 281474976710656) :
    Calls Tryz.prog 49 #[.string s] w fun e w' => e = .returned (.string s) ∧ Below w.heap.size w w' := by
  go_enter Tryz.func49, Tryz.ntmps49
  go_wp2_with (go_at_call 71; refine ((show Calls Tryz.prog 71 #[.string s] _ fun e w' => e = .returned (.string s) ∧ Below _ _ w' from AnyPu.stringslite_Clone cloneLays s _ h)).mono ?_; rintro e w' ⟨rfl, hb⟩)
  go_ret
  exact ⟨rfl, by assumption⟩
end Go.Proofs.YtbahklpdldghbaaGreatDoor.Blk
end
section
namespace Go.Proofs
open Go.Shelf
def Tryz.layJoin_ren : Go.Shelf.Ren := ⟨fun | 156 => 48 | 165 => 68 | 166 => 69 | 169 => 70 | 240 => 89 | 241 => 90 | 276 => 112 | 277 => 113 | n => n, fun | 31 => 47 | 9 => 9 | 3 => 3 | 4 => 4 | 0 => 0 | 20 => 20 | 72 => 149 | 76 => 75 | 70 => 147 | 37 => 93 | 75 => 27 | 127 => 171 | 164 => 81 | 5 => 5 | 80 => 113 | n => n, fun | n => n⟩
theorem Tryz.layJoin : Go.Proofs.Lays.n156 Tryz.prog Tryz.layJoin_ren := {
  mixed := by kernel_rfl
  f156 := Tryz.func48.trans (congrArg some (by kernel_rfl))
  f165 := Tryz.func68.trans (congrArg some (by kernel_rfl))
  f166 := Tryz.func69.trans (congrArg some (by kernel_rfl))
  f169 := Tryz.func70.trans (congrArg some (by kernel_rfl))
  f240 := Tryz.func89.trans (congrArg some (by kernel_rfl))
  f241 := Tryz.func90.trans (congrArg some (by kernel_rfl))
  f276 := Tryz.func112.trans (congrArg some (by kernel_rfl))
  f277 := Tryz.func113.trans (congrArg some (by kernel_rfl))
  t0 := Tryz.underlying0
  a0 := Tryz.isAgg0
  z0 := Tryz.sizeOf0
  v0 := Tryz.zeroValue0
  t3 := Tryz.underlying3
  a3 := Tryz.isAgg3
  z3 := Tryz.sizeOf3
  v3 := Tryz.zeroValue3
  t4 := Tryz.underlying4
  a4 := Tryz.isAgg4
  z4 := Tryz.sizeOf4
  v4 := Tryz.zeroValue4
  t9 := Tryz.underlying9
  a9 := Tryz.isAgg9
  z9 := Tryz.sizeOf9
  v9 := Tryz.zeroValue9
  t20 := Tryz.underlying20
  a20 := Tryz.isAgg20
  z20 := Tryz.sizeOf20
  v20 := Tryz.zeroValue20
  t31 := Tryz.underlying47
  a31 := Tryz.isAgg47
  z31 := Tryz.sizeOf47
  v31 := Tryz.zeroValue47
  t37 := Tryz.underlying93
  a37 := Tryz.isAgg93
  z37 := Tryz.sizeOf93
  v37 := Tryz.zeroValue93
  t70 := Tryz.underlying147
  a70 := Tryz.isAgg147
  z70 := Tryz.sizeOf147
  v70 := Tryz.zeroValue147
  t72 := Tryz.underlying149
  a72 := Tryz.isAgg149
  z72 := Tryz.sizeOf149
  v72 := Tryz.zeroValue149
  t75 := Tryz.underlying27
  a75 := Tryz.isAgg27
  z75 := Tryz.sizeOf27
  v75 := Tryz.zeroValue27
  t76 := Tryz.underlying75
  a76 := Tryz.isAgg75
  z76 := Tryz.sizeOf75
  v76 := Tryz.zeroValue75
  t127 := Tryz.underlying171
  a127 := Tryz.isAgg171
  z127 := Tryz.sizeOf171
  v127 := Tryz.zeroValue171
  t164 := Tryz.underlying81
  a164 := Tryz.isAgg81
  z164 := Tryz.sizeOf81
  v164 := Tryz.zeroValue81 }
theorem Tryz.layJoinX : Builder.Extra Tryz.prog Tryz.layJoin_ren := {
  sizeBuilder := by kernel_rfl
  liesBuilder := by kernel_rfl
  t5 := Tryz.underlying5
  a5 := Tryz.isAgg5
  z5 := Tryz.sizeOf5
  v5 := Tryz.zeroValue5
  infoByte := by kernel_rfl
  cellsByte := by kernel_rfl
  sizeByte := by kernel_rfl
  neB5 := by decide }
end Go.Proofs
end
section
namespace Go.Proofs.YtbahklpdldghbaaGreatDoor.Blk
open Go Go.RowKit Go.Lib RowG
theorem cat_list (ts : List ByteArray) : (catK ts).data.toList = (ts.map (·.data.toList)).flatten := by
  have h : ∀ (ts : List ByteArray) (acc : ByteArray), (ts.foldl (· ++ ·) acc).data.toList = acc.data.toList ++ (ts.map (·.data.toList)).flatten := fun ts => by
    induction ts with
    | nil => intro acc; simp
    | cons a r ih => intro acc; rw [List.foldl_cons, ih]; simp
  exact h ts _
theorem join_flat (ts : List ByteArray) : Lib.join (ts.map (·.data.toList)) [] = (catK ts).data.toList := by
  rw [cat_list]
  cases ts with
  | nil => rfl
  | cons a r => rw [List.map_cons, Lib.join_cons]; simp [Lib.joinTail]; rfl
theorem join_any (A : Option Addr) (c : Nat) (ts : List ByteArray) (w : World) (hl : ts.length ≤ 1000) (hc : ts.length ≤ c) (hz : (catK ts).size ≤ 100000) (hA : RIn txR w A ts) :
    Calls Tryz.prog 48 #[.slice A ts.length c, .string ⟨#[]⟩] w fun e w' => e = .returned (.string (catK ts)) ∧ Below w.heap.size w w' := by
  rcases Nat.eq_zero_or_pos ts.length with h0 | h0
  · obtain rfl := List.eq_nil_of_length_eq_zero h0;exact (Any.strings_Join_none Tryz.layJoin Tryz.layJoinX A c ⟨#[]⟩ w).mono fun e w' ⟨h1, h2⟩ => ⟨h1, by rw [h2]; exact Below.refl _ _⟩
  · obtain ⟨b, o, rfl, hb⟩ := hA.addr h0;have hj : Lib.join (ts.map (·.data.toList)) (⟨#[]⟩ : ByteArray).data.toList = (catK ts).data.toList := join_flat ts;have hlen : (catK ts).data.toList.length = (catK ts).size := by rw [Array.length_toList]; rfl
    refine (Any.strings_Join Tryz.layJoin Tryz.layJoinX b o c ts ⟨#[]⟩ w (fun j x hx => ?_) hb (by omega) hc (by rw [hj, hlen]; omega)).mono fun e w' ⟨h1, h2⟩ => ⟨?_, h2⟩
    · obtain ⟨b', o', e, -, hcell⟩ := tx_cell hA hx;cases e;exact hcell
    · rw [h1, hj]
end Go.Proofs.YtbahklpdldghbaaGreatDoor.Blk
end
section
namespace Go.Proofs.YtbahklpdldghbaaGreatDoor.Blk
open Go Go.RowKit Go.Lib RowG Num
set_option maxRecDepth 100000 in
set_option maxHeartbeats 4000000 in
theorem cut_full (A : Option Addr) (c : Nat) (ts : List ByteArray) (w : World) (hl : ts.length ≤ 1000) (hc : ts.length ≤ c) (hz : (catK ts).size ≤ 20000) (hA : RIn txR w A ts) :
    Calls Tryz.prog 32 #[.slice A ts.length c] w fun e v => ∃ g, e = .returned (.slice (some ⟨g, 0, none⟩) (cntK (catK ts).size) (cntK (catK ts).size)) ∧ w.heap.size ≤ g ∧ RIn txR v (some ⟨g, 0, none⟩) (cutK (catK ts)) ∧ Below w.heap.size w v := by
  refine Kn.calls Tryz.func32 rfl Tryz.ntmps32 rfl (.cons (t := 0) rfl .nil) fun fa0 fh0 => ?_;refine wp_seq_k fun K1 hK1 => ?_;refine wp_region_lit ?_;refine Kn.pure fh0 rfl rfl .none (Kn.ex_assign fh0 .const) fun fa1 fh1 => ?_;clear fh0 fa0;refine wpList_nil ?_;refine hK1 _ _ ?_;clear hK1 K1;have hj := join_any A c ts w hl hc (by omega) hA;refine wp_seq_k fun K2 hK2 => ?_;refine wp_region_lit ?_;refine Kn.pure fh1 rfl rfl .none (Kn.ex_move fh1 (.tmp rfl)) fun fa2 fh2 => ?_;clear fh1 fa1;refine Kn.call fh2 rfl rfl .none (Kn.ex_call fh2 (.cons (.tmp rfl) (.cons .const .nil))) Tryz.call48 (hj) fun e w1 hp => ?_;obtain ⟨rfl, hb1⟩ := hp;refine ⟨_, rfl, fun fa3 fh3 => ?_⟩;clear fh2 fa2;refine Kn.pure fh3 rfl rfl .none (Kn.ex_assign fh3 (.tmp rfl)) fun fa4 fh4 => ?_;clear fh3 fa3;refine wpList_nil ?_;refine hK2 _ _ ?_;clear hK2 K2;replace fh4 := fh4.cut (.cons (t := 3) rfl (.cons (t := 2) rfl .nil));obtain ⟨s, hs⟩ : ∃ s, catK ts = s := ⟨_, rfl⟩;rw [hs] at fh4 hz ⊢;obtain ⟨N, hN⟩ : ∃ N, cntK s.size = N := ⟨_, rfl⟩;have hct := count_any s.size w1 (by omega);rw [hN] at hct;have hN2 : N ≤ 400 := by rw [← hN]; unfold cntK; omega
  obtain ⟨w2, hmk, hO2, hb2⟩ := makeG (P := Tryz.prog) txR elemTx8 (⟨#[]⟩ : ByteArray) (by rfl) w1 N (by show N * 1 ≤ _; omega) (by decide) (by omega);have hH2 := hold_of_own hO2;clear hO2 hj hs;obtain ⟨g, hg⟩ : ∃ q, w1.heap.size = q := ⟨_, rfl⟩;rw [hg] at hmk hH2;have hgw : w.heap.size ≤ g := by rw [← hg]; exact hb1.size
  have hB2 : Below w.heap.size w w2 := hb1.trans (hb2.mono hb1.size);clear hb1 hb2 hg hA;refine wp_seq_k fun K3 hK3 => ?_;refine wp_region_lit ?_;refine Kn.pure fh4 rfl rfl .none (Kn.ex_move fh4 (.tmp rfl)) fun fa5 fh5 => ?_;clear fh4 fa4;refine Kn.step fh5 rfl rfl .none (Kn.ex_len fh5 (.tmp rfl)) fun Ko hKo => ?_;go_simp;(try go_bits);refine hKo _ _ fun fa6 fh6 => ?_;clear hKo Ko fh5 fa5;refine Kn.call fh6 rfl rfl .none (Kn.ex_call fh6 (.cons (.tmp rfl) .nil)) Tryz.call27 (hct) fun e w1b hp => ?_;obtain ⟨rfl, rfl⟩ := hp;refine ⟨_, rfl, fun fa7 fh7 => ?_⟩;clear fh6 fa6;refine Kn.known fh7 rfl rfl .none (Kn.ex_makeSlice fh7 (.tmp rfl) (.tmp rfl)) hmk fun fa8 fh8 => ?_;clear fh7 fa7;refine Kn.pure fh8 rfl rfl .none (Kn.ex_assign fh8 (.tmp rfl)) fun fa9 fh9 => ?_;clear fh8 fa8;refine wpList_nil ?_;refine hK3 _ _ ?_;clear hK3 K3;replace fh9 := fh9.cut (.cons (t := 4) rfl (.cons (t := 3) rfl (.cons (t := 2) rfl .nil)));clear hmk hct;refine wp_seq_k fun K4 hK4 => ?_;refine wp_seq_k fun K5 hK5 => ?_;refine wp_region_lit ?_;refine Kn.pure fh9 rfl rfl .none (Kn.ex_move fh9 (.tmp rfl)) fun fa10 fh10 => ?_;clear fh9 fa9;refine Kn.step fh10 rfl rfl .none (Kn.ex_len fh10 (.tmp rfl)) fun Ko hKo => ?_;go_simp;(try go_bits);refine hKo _ _ fun fa11 fh11 => ?_;clear hKo Ko fh10 fa10;refine Kn.pure fh11 rfl rfl .none (Kn.ex_move fh11 .const) fun fa12 fh12 => ?_;clear fh11 fa11;refine wpList_nil ?_;refine hK5 _ _ ?_;clear hK5 K5;replace fh12 := fh12.cut (.cons (t := 15) rfl (.cons (t := 14) rfl (.cons (t := 4) rfl (.cons (t := 3) rfl (.cons (t := 2) rfl .nil)))));refine wp_block ?_;refine Kn.loop (fun m fr u => ∃ (i : Nat) (ls : List ByteArray), Kn.Kn 35 [(15, .int .i64 (i : Int)), (14, .int .i64 (N : Int)), (4, .slice (some ⟨g, 0, none⟩) N N), (3, .string s)] fr ∧ i + m = N ∧ ls.length = N ∧ Hid (∀ j, j < i → ls[j]? = (cutK s)[j]?) ∧ Hid (Hold txR u g ls) ∧ Hid (Below w.heap.size w u)) N ⟨0, List.replicate N ⟨#[]⟩, fh12.cut (.turn (t := 15) rfl rfl (.cons (t := 14) rfl (.cons (t := 4) rfl (.cons (t := 3) rfl .nil)))), by omega, by simp, Lib.hid (fun j hj => by omega), hH2, hB2⟩ ?_;clear fh12 fa12;intro m6 fa13 u hI Kl6 hKl6;obtain ⟨i, ls, fh13, hi, hll, HE, HH, HB⟩ := hI
  by_cases hlt : i < N
  · have hic : i < cntK s.size := by omega
    have hsz := size_any s.size (i : Int) u (by omega);have hst := szK_step hic;obtain ⟨z, hzz⟩ : ∃ z, szK s.size (i : Int) = z := ⟨_, rfl⟩;rw [hzz] at hsz hst;obtain ⟨p, hp⟩ : ∃ p, 64 * i = p := ⟨_, rfl⟩;have hps : p ≤ s.size := by unfold cntK at hic; omega
    obtain ⟨e1, he1⟩ : ∃ q, p + z = q := ⟨_, rfl⟩;have he2 : e1 = min s.size (64 * (i + 1)) := by omega
    have hbk : blkK s i = s.extract p e1 := by unfold blkK; rw [hp, Nat.min_eq_right hps, ← he2]
    obtain ⟨q, hq⟩ : ∃ q, s.extract p e1 = q := ⟨_, rfl⟩;rw [hq] at hbk;have r1 : (i : Int) * 64 = (p : Int) := by omega
    have r2 : (p : Int) + (z : Int) = (e1 : Int) := by omega
    have hes : e1 ≤ s.size := by omega
    have hpe : p ≤ e1 := by omega
    have hqs : q.size ≤ 281474976710656 := by rw [← hq, ByteArray.size_extract]; omega
    have hsl : ∀ v, (Instr.sliceAt 9 (.string s) (some (.int .i64 (p : Int))) (some (.int .i64 (e1 : Int))) none).run Tryz.prog v = .ok (.string q) v := fun v => by
      have := run_slice_string (P := Tryz.prog) v 9 s .i64 .i64 p e1 Tryz.underlying9 (by omega) (by omega) (by omega);rw [Int.toNat_natCast, Int.toNat_natCast, hq] at this;rw [run_sliceAt_string _ _ _ _ _ _ Tryz.underlying9];exact this
    have hcl := clone_any q u hqs;have hcu := cutK_at hic;rw [hbk] at hcu;clear hst hp he1 he2 hq hbk hzz;refine wp_seq_k fun K7 hK7 => ?_;refine wp_region_lit ?_;refine Kn.step fh13 rfl rfl .none (Kn.ex_bin fh13 (.tmp rfl) (.tmp rfl)) fun Ko hKo => ?_;go_simp;(try go_bits);refine hKo _ _ fun fa14 fh14 => ?_;clear hKo Ko fh13 fa13;refine wpList_nil ?_;refine hK7 _ _ ?_;clear hK7 K7;refine wp_seq_k fun K8 hK8 => ?_;refine Kn.yes fh14 (.tmp rfl) ?_;refine wp_skip ?_;refine hK8 _ _ ?_;clear hK8 K8;replace fh14 := fh14.cut (.cons (t := 15) rfl (.cons (t := 14) rfl (.cons (t := 4) rfl (.cons (t := 3) rfl .nil))));refine wp_seq_k fun K9 hK9 => ?_;refine wp_block ?_;refine wp_seq_k fun K10 hK10 => ?_;refine wp_region_lit ?_;refine Kn.pure fh14 rfl rfl .none (Kn.ex_move fh14 (.tmp rfl)) fun fa15 fh15 => ?_;clear fh14 fa14;refine Kn.pure fh15 rfl rfl .none (Kn.ex_assign fh15 (.tmp rfl)) fun fa16 fh16 => ?_;clear fh15 fa15;refine wpList_nil ?_;refine hK10 _ _ ?_;clear hK10 K10;replace fh16 := fh16.cut (.cons (t := 5) rfl (.cons (t := 15) rfl (.cons (t := 14) rfl (.cons (t := 4) rfl (.cons (t := 3) rfl .nil)))));refine wp_seq_k fun K11 hK11 => ?_;refine wp_region_lit ?_;refine Kn.pure fh16 rfl rfl .none (Kn.ex_move fh16 (.tmp rfl)) fun fa17 fh17 => ?_;clear fh16 fa16;refine Kn.step fh17 rfl rfl .none (Kn.ex_bin fh17 (.tmp rfl) .const) fun Ko hKo => ?_;go_simp;(try go_bits);refine hKo _ _ fun fa18 fh18 => ?_;clear hKo Ko fh17 fa17;refine Kn.pure fh18 rfl rfl .none (Kn.ex_assign fh18 (.tmp rfl)) fun fa19 fh19 => ?_;clear fh18 fa18;refine wpList_nil ?_;refine hK11 _ _ ?_;clear hK11 K11;replace fh19 := fh19.cut (.cons (t := 6) rfl (.cons (t := 5) rfl (.cons (t := 15) rfl (.cons (t := 14) rfl (.cons (t := 4) rfl (.cons (t := 3) rfl .nil))))));clear r1;refine wp_region_lit ?_;refine Kn.pure fh19 rfl rfl .none (Kn.ex_move fh19 (.tmp rfl)) fun fa20 fh20 => ?_;clear fh19 fa19;refine Kn.pure fh20 rfl rfl .none (Kn.ex_move fh20 (.tmp rfl)) fun fa21 fh21 => ?_;clear fh20 fa20;refine Kn.pure fh21 rfl rfl .none (Kn.ex_move fh21 (.tmp rfl)) fun fa22 fh22 => ?_;clear fh21 fa21;refine Kn.pure fh22 rfl rfl .none (Kn.ex_move fh22 (.tmp rfl)) fun fa23 fh23 => ?_;clear fh22 fa22;refine Kn.pure fh23 rfl rfl .none (Kn.ex_move fh23 (.tmp rfl)) fun fa24 fh24 => ?_;clear fh23 fa23;refine Kn.pure fh24 rfl rfl .none (Kn.ex_move fh24 (.tmp rfl)) fun fa25 fh25 => ?_;clear fh24 fa24;refine Kn.step fh25 rfl rfl .none (Kn.ex_len fh25 (.tmp rfl)) fun Ko hKo => ?_;go_simp;(try go_bits);refine hKo _ _ fun fa26 fh26 => ?_;clear hKo Ko fh25 fa25;refine Kn.pure fh26 rfl rfl .none (Kn.ex_move fh26 (.tmp rfl)) fun fa27 fh27 => ?_;clear fh26 fa26;refine Kn.call fh27 rfl rfl .none (Kn.ex_call fh27 (.cons (.tmp rfl) (.cons (.tmp rfl) .nil))) Tryz.call50 (hsz) fun e u1 hp => ?_;obtain ⟨rfl, rfl⟩ := hp;refine ⟨_, rfl, fun fa28 fh28 => ?_⟩;clear fh27 fa27;refine Kn.step fh28 rfl rfl .none (Kn.ex_bin fh28 (.tmp rfl) (.tmp rfl)) fun Ko hKo => ?_;go_simp;(try go_bits);refine hKo _ _ fun fa29 fh29 => ?_;clear hKo Ko fh28 fa28;refine Kn.known fh29 rfl rfl .none (Kn.ex_sliceLH fh29 (.tmp rfl) (.tmp rfl) (.tmp rfl)) (hsl u) fun fa30 fh30 => ?_;clear fh29 fa29;refine Kn.call fh30 rfl rfl .none (Kn.ex_call fh30 (.cons (.tmp rfl) .nil)) Tryz.call49 (hcl) fun e u2 hp => ?_;obtain ⟨rfl, hb2⟩ := hp;refine ⟨_, rfl, fun fa31 fh31 => ?_⟩;clear fh30 fa30;obtain ⟨u3, hst, hH3, hr1, hr2, hr3⟩ := (HH.out.on hb2).store1 (P := Tryz.prog) (e := 9) i (by omega) q (.string q) rfl rfl (fun w p c h1 h2 => store_tx8 q w p c h1 h2);have HB3 : Hid (Below w.heap.size w u3) := Lib.hid ((HB.out.trans (hb2.mono HB.out.size)).trans (hr3 _ hgw));clear hb2 hcl hsl r2 hsz hr1 hr2 hr3;refine Kn.step fh31 rfl rfl .none (Kn.ex_indexAddr fh31 (.tmp rfl) (.tmp rfl)) fun Ko hKo => ?_;go_simp;(try go_bits);refine hKo _ _ fun fa32 fh32 => ?_;clear hKo Ko fh31 fa31;refine Kn.stepU fh32 rfl .none (Kn.ex_store fh32 (.tmp rfl) (.tmp rfl)) fun Ko hKo => ?_;refine Kn.satU_run8 hst ?_;refine hKo _ ?_;clear hKo Ko;refine wpList_nil ?_;refine Kn.block_normal ?_;refine hK9 _ _ ?_;clear hK9 K9;replace fh32 := fh32.cut (.cons (t := 15) rfl (.cons (t := 14) rfl (.cons (t := 4) rfl (.cons (t := 3) rfl .nil))));refine wp_region_lit ?_;refine Kn.step fh32 rfl rfl .none (Kn.ex_bin fh32 (.tmp rfl) .const) fun Ko hKo => ?_;go_simp;(try go_bits);refine hKo _ _ fun fa33 fh33 => ?_;clear hKo Ko fh32 fa32;refine Kn.pure fh33 rfl rfl .none (Kn.ex_move fh33 (.tmp rfl)) fun fa34 fh34 => ?_;clear fh33 fa33;refine wpList_nil ?_;replace fh34 := fh34.cut (.cons (t := 15) rfl (.cons (t := 14) rfl (.cons (t := 4) rfl (.cons (t := 3) rfl .nil))))
    exact hKl6 (m6 - 1) _ _ (by omega) ⟨i + 1, ls.set i q, fh34.cut (.turn (t := 15) rfl (by go_num) (.cons (t := 14) rfl (.cons (t := 4) rfl (.cons (t := 3) rfl .nil)))), by omega, by rw [List.length_set]; exact hll, Lib.hid (fun j hj => by
      by_cases e : i = j
      · subst e; rw [List.getElem?_set_self (by omega), hcu]
      · rw [List.getElem?_set_ne e]; exact HE.out j (by omega)), hH3, HB3⟩
  have hin : i = N := by omega
  subst hin
  have hls : ls = cutK s := by
    apply List.ext_getElem?
    intro j
    by_cases hj : j < ls.length
    · exact HE.out j (by omega)
    · rw [List.getElem?_eq_none (by omega), List.getElem?_eq_none (by rw [cutK_len]; omega)]
  subst hls;refine wp_seq_k fun K7 hK7 => ?_;refine wp_region_lit ?_;refine Kn.step fh13 rfl rfl .none (Kn.ex_bin fh13 (.tmp rfl) (.tmp rfl)) fun Ko hKo => ?_;go_simp;(try go_bits);refine hKo _ _ fun fa14 fh14 => ?_;clear hKo Ko fh13 fa13;refine wpList_nil ?_;refine hK7 _ _ ?_;clear hK7 K7;refine wp_seq_k fun K8 hK8 => ?_;refine Kn.no fh14 (.tmp rfl) ?_;replace fh14 := fh14.cut (.cons (t := 15) rfl (.cons (t := 14) rfl (.cons (t := 4) rfl (.cons (t := 3) rfl .nil))));refine wp_exit ?_;refine Kn.then_exit ?_;clear hK8 K8;refine Kn.then_exit ?_;clear hKl6 Kl6;refine Kn.block_exit ?_;refine hK4 _ _ ?_;clear hK4 K4;replace fh14 := fh14.cut (.cons (t := 4) rfl .nil);refine wp_seq_k fun K9 hK9 => ?_;refine wp_region_lit ?_;refine Kn.pure fh14 rfl rfl .none (Kn.ex_move fh14 (.tmp rfl)) fun fa15 fh15 => ?_;clear fh14 fa14;refine Kn.pure fh15 rfl rfl .none (Kn.ex_assign fh15 (.tmp rfl)) fun fa16 fh16 => ?_;clear fh15 fa15;refine wpList_nil ?_;refine hK9 _ _ ?_;clear hK9 K9;replace fh16 := fh16.cut (.cons (t := 2) rfl .nil);refine wp_ret ?_;exact Kn.ret1 fh16 rfl rfl ⟨g, by rw [hN], hgw, HH.out.rin, HB.out⟩
end Go.Proofs.YtbahklpdldghbaaGreatDoor.Blk
end
section
namespace Go.Proofs.YtbahklpdldghbaaGreatDoor.Kn
open Go
end Go.Proofs.YtbahklpdldghbaaGreatDoor.Kn
namespace Go.Proofs.YtbahklpdldghbaaGreatDoor.Mrk
open Go Go.RowKit Go.Lib RowG
def upD (i n : Nat) (d : ByteArray) (pf : List ByteArray) : ByteArray :=
  if h : n < 2 then d
  else
    have hk := hf_in (n := n) (by omega)
    if i < hf n then sm (c1 ++ upD i (hf n) d pf.dropLast ++ pf.getLastD ByteArray.empty)
    else sm (c1 ++ pf.getLastD ByteArray.empty ++ upD (i - hf n) (n - hf n) d pf.dropLast)
termination_by n
def errno (c : Int) : Value := .iface 52 (.int .i64 c)
def fault (i c : Int) : Value := .iface 54 (.agg #[.int .i64 i, errno c])
def InR (i n : Int) : Prop := 0 ≤ i ∧ i < n ∧ n ≤ 1048576
instance (i n : Int) : Decidable (InR i n) := by unfold InR; infer_instance
def Fine (i n : Nat) (d : ByteArray) (pf : List ByteArray) : Prop := pf.length = stF i n ∧ d.size = 32 ∧ ∀ p ∈ pf, p.size = 32
instance (i n : Nat) (d : ByteArray) (pf : List ByteArray) : Decidable (Fine i n d pf) := by unfold Fine; infer_instance
def chkV (root : ByteArray) (i n : Int) (s : ByteArray) (pf : List ByteArray) : Value :=
  if InR i n then (if Fine i.toNat n.toNat (sm (c0 ++ s)) pf then (if upD i.toNat n.toNat (sm (c0 ++ s)) pf = root then .nilIface else fault i 11) else errno 11) else errno 2
end Go.Proofs.YtbahklpdldghbaaGreatDoor.Mrk
end
section
namespace Go.Proofs.YtbahklpdldghbaaGreatDoor.Kn
open Go
section
variable {P : Program} {n : Nat} {l : List (Nat × Value)} {a : Act} {w : World}
theorem retSS {fn : Func} {R : Ending → World → Prop} {p q : Tmp} {ty tz : TypeId} {g k : Nat} {cs ds : Array Value} {d e : TypeDesc} (h : Kn n l a) (hr : fn.results = #[.cell p ty, .cell q tz]) (hp : find l p = some (.pointer (some ⟨g, 0, none⟩))) (hq : find l q = some (.pointer (some ⟨k, 0, none⟩))) (hs : St.St w g ty cs) (hu : P.underlying ty = some d) (hd : St.rowD d = true) (hi : (P.info? ty).map (·.size) = some cs.size) (hs2 : St.St w k tz ds) (hu2 : P.underlying tz = some e) (hd2 : St.rowD e = true) (hi2 : (P.info? tz).map (·.size) = some ds.size) (H : R (.returned (.tuple #[.agg cs, .agg ds])) w) : bodyPost P fn R .ret a w := by
  have e1 := h.get p _ hp;have e2 := h.get q _ hq;simp only [Act.eval] at e1 e2;have l1 : (loadVar ty ⟨g, 0, none⟩).run P w = .ok (.agg cs) w := hs.load hu hd hi;have l2 : (loadVar tz ⟨k, 0, none⟩).run P w = .ok (.agg ds) w := hs2.load hu2 hd2 hi2;refine bodyPost_ret (v := .tuple #[.agg cs, .agg ds]) ?_ h.defers H;have h1 : a.tmps[p]?.getD undef = .pointer (some ⟨g, 0, none⟩) := by simpa using e1
  have h2 : a.tmps[q]?.getD undef = .pointer (some ⟨k, 0, none⟩) := by simpa using e2
  simp [results, hr, h1, h2, asAddr, l1, l2]
end
end Go.Proofs.YtbahklpdldghbaaGreatDoor.Kn
namespace Go.Proofs.YtbahklpdldghbaaGreatDoor.Mrk
open Go Go.RowKit Go.Lib RowG
def blen (x : Nat) : Nat := if x = 0 then 0 else Nat.log2 x + 1
theorem log2_is {x k : Nat} (h1 : 2 ^ k ≤ x) (h2 : x < 2 ^ (k + 1)) : Nat.log2 x = k := by
  have h0 : x ≠ 0 := by have := Nat.two_pow_pos k; omega
  have a1 := (Nat.le_log2 h0 (k := k)).2 h1;have a2 := (Nat.log2_lt h0 (k := k + 1)).2 h2;omega
theorem blen_div {x q k : Nat} (hq : x / 2 ^ k = q) (h : 0 < q) : blen x = k + blen q := by
  have h0 : q ≠ 0 := by omega
  have hx : x ≠ 0 := by intro e; subst e; simp at hq; omega
  rw [blen, blen, if_neg h0, if_neg hx]
  have e : Nat.log2 x = k + Nat.log2 q := by
    have b1 := Nat.log2_self_le h0;have b2 := Nat.lt_log2_self (n := q);subst hq;refine log2_is ?_ ?_
    · rw [Nat.pow_add, Nat.mul_comm];exact Nat.le_trans (Nat.mul_le_mul_right _ b1) (Nat.div_mul_le_self _ _)
    · rw [Nat.add_assoc, Nat.pow_add, Nat.mul_comm];exact (Nat.div_lt_iff_lt_mul (Nat.two_pow_pos k)).1 b2
  omega
def hp (n : Nat) : Nat := 2 ^ Nat.log2 (n - 1)
theorem hp_in {n : Nat} (h : 2 ≤ n) : 1 ≤ hp n ∧ hp n < n ∧ n ≤ 2 * hp n := by
  have h0 : n - 1 ≠ 0 := by omega
  have b1 := Nat.log2_self_le h0;have b2 := Nat.lt_log2_self (n := n - 1);have b3 := Nat.two_pow_pos (Nat.log2 (n - 1));rw [Nat.pow_succ] at b2;unfold hp;omega
theorem blen_8 {k : Nat} (hk : k < 256) : blen k ≤ 8 := by
  unfold blen
  split
  · omega
  · rename_i h;have := (Nat.log2_lt h (k := 8)).2 hk;omega
theorem len8 {t : ByteArray} {k b : Nat} (ht : t.size = 256 ∧ ∀ i, i < 256 → (t.data.getD i 0).toNat = blen i) (hk : k < 256) (hb : blen k = b) (w : World) : (Instr.index 9 (.string t) (.int .u8 (k : Int))).run Tryz.prog w = .ok (.int .u8 (b : Int)) w := by
  have h := ht.2 k hk;have hs := ht.1;have hk2 : k < t.size := by omega
  have hk3 : k < t.data.size := hk2
  have e : t.data.getD k 0 = t[k] := by
    show t.data.getD k 0 = t.data[k];simp only [Array.getD, dif_pos hk3]
    rfl
  rw [e, hb] at h;simp [Instr.index, Sem.run_bind, run_underlying Tryz.underlying9, asIntOf, Result.andThen, hk2, h]
set_option maxRecDepth 100000 in
set_option maxHeartbeats 400000 in
theorem len64_any (x : Nat) (w : World) (hx : x < 16777216) :
    Calls Tryz.prog 105 #[.int .u64 (x : Int)] w fun e w' => e = .returned (.int .i64 (blen x : Int)) ∧ w = w' := by
  refine Kn.calls Tryz.func105 rfl Tryz.ntmps105 rfl (.cons (t := 0) rfl .nil) fun fa0 fh0 => ?_;refine wp_seq_k fun K1 hK1 => ?_;refine wp_region_lit ?_;refine Kn.pure fh0 rfl rfl .none (Kn.ex_assign fh0 .const) fun fa1 fh1 => ?_;clear fh0 fa0;refine wpList_nil ?_;refine hK1 _ _ ?_;clear hK1 K1;have q0 : ¬ (4294967296 : Int) ≤ (x : Int) := by omega
  refine wp_seq_k fun K2 hK2 => ?_;refine wp_seq_k fun K3 hK3 => ?_;refine wp_region_lit ?_;refine Kn.pure fh1 rfl rfl .none (Kn.ex_move fh1 (.tmp rfl)) fun fa2 fh2 => ?_;clear fh1 fa1;refine Kn.step fh2 rfl rfl .none (Kn.ex_bin fh2 (.tmp rfl) .const) fun Ko hKo => ?_;go_simp;(try go_bits);refine hKo _ _ fun fa3 fh3 => ?_;clear hKo Ko fh2 fa2;refine wpList_nil ?_;refine hK3 _ _ ?_;clear hK3 K3;replace fh3 := fh3.cut (.cons (t := 4) rfl (.cons (t := 2) rfl (.cons (t := 0) rfl .nil)));refine Kn.no fh3 (.tmp rfl) ?_;refine wp_skip ?_;refine hK2 _ _ ?_;clear hK2 K2;replace fh3 := fh3.cut (.cons (t := 2) rfl (.cons (t := 0) rfl .nil))
  by_cases h1 : (65536 : Int) ≤ (x : Int)
  · obtain ⟨y, hy⟩ : ∃ y, x / 65536 = y := ⟨_, rfl⟩;have ry : (x : Int) / 65536 = (y : Int) := by omega
    have y_lt : y < 256 := by omega
    have y_0 : 0 < y := by omega
    have HY : Hid (x / 2 ^ 16 = y) := Lib.hid hy;clear hy;have q2 : ¬ (256 : Int) ≤ (y : Int) := by omega
    refine wp_seq_k fun K4 hK4 => ?_;refine wp_seq_k fun K5 hK5 => ?_;refine wp_region_lit ?_;refine Kn.pure fh3 rfl rfl .none (Kn.ex_move fh3 (.tmp rfl)) fun fa4 fh4 => ?_;clear fh3 fa3;refine Kn.step fh4 rfl rfl .none (Kn.ex_bin fh4 (.tmp rfl) .const) fun Ko hKo => ?_;go_simp;(try go_bits);refine hKo _ _ fun fa5 fh5 => ?_;clear hKo Ko fh4 fa4;refine wpList_nil ?_;refine hK5 _ _ ?_;clear hK5 K5;replace fh5 := fh5.cut (.cons (t := 8) rfl (.cons (t := 2) rfl (.cons (t := 0) rfl .nil)));refine Kn.yes fh5 (.tmp rfl) ?_;replace fh5 := fh5.cut (.cons (t := 2) rfl (.cons (t := 0) rfl .nil));refine wp_seq_k fun K6 hK6 => ?_;refine wp_region_lit ?_;refine Kn.pure fh5 rfl rfl .none (Kn.ex_move fh5 (.tmp rfl)) fun fa6 fh6 => ?_;clear fh5 fa5;refine Kn.step fh6 rfl rfl .none (Kn.ex_bin fh6 (.tmp rfl) .const) fun Ko hKo => ?_;go_simp;(try go_bits);refine hKo _ _ fun fa7 fh7 => ?_;clear hKo Ko fh6 fa6;refine Kn.pure fh7 rfl rfl .none (Kn.ex_assign fh7 (.tmp rfl)) fun fa8 fh8 => ?_;clear fh7 fa7;refine wpList_nil ?_;refine hK6 _ _ ?_;clear hK6 K6;replace fh8 := fh8.cut (.cons (t := 0) rfl (.cons (t := 2) rfl .nil));refine wp_region_lit ?_;refine Kn.pure fh8 rfl rfl .none (Kn.ex_move fh8 (.tmp rfl)) fun fa9 fh9 => ?_;clear fh8 fa8;refine Kn.step fh9 rfl rfl .none (Kn.ex_bin fh9 (.tmp rfl) .const) fun Ko hKo => ?_;go_simp;(try go_bits);refine hKo _ _ fun fa10 fh10 => ?_;clear hKo Ko fh9 fa9;refine Kn.pure fh10 rfl rfl .none (Kn.ex_assign fh10 (.tmp rfl)) fun fa11 fh11 => ?_;clear fh10 fa10;refine wpList_nil ?_;refine hK4 _ _ ?_;clear hK4 K4;replace fh11 := fh11.cut (.cons (t := 2) rfl (.cons (t := 0) rfl .nil));clear ry;refine wp_seq_k fun K7 hK7 => ?_;refine wp_seq_k fun K8 hK8 => ?_;refine wp_region_lit ?_;refine Kn.pure fh11 rfl rfl .none (Kn.ex_move fh11 (.tmp rfl)) fun fa12 fh12 => ?_;clear fh11 fa11;refine Kn.step fh12 rfl rfl .none (Kn.ex_bin fh12 (.tmp rfl) .const) fun Ko hKo => ?_;go_simp;(try go_bits);refine hKo _ _ fun fa13 fh13 => ?_;clear hKo Ko fh12 fa12;refine wpList_nil ?_;refine hK8 _ _ ?_;clear hK8 K8;replace fh13 := fh13.cut (.cons (t := 14) rfl (.cons (t := 2) rfl (.cons (t := 0) rfl .nil)));refine Kn.no fh13 (.tmp rfl) ?_;refine wp_skip ?_;refine hK7 _ _ ?_;clear hK7 K7;replace fh13 := fh13.cut (.cons (t := 2) rfl (.cons (t := 0) rfl .nil));obtain ⟨b, hb⟩ : ∃ b, blen y = b := ⟨_, rfl⟩;have hb8 : b ≤ 8 := by have := blen_8 y_lt; omega
    have hbx : blen x = 16 + b := by rw [← hb]; exact blen_div (k := 16) HY.out (by omega)
    obtain ⟨c, hc⟩ : ∃ c, blen x = c := ⟨_, rfl⟩;have rc : (16 : Int) + (b : Int) = (c : Int) := by omega
    have HC := Lib.hid hc;clear hc hbx;refine wp_seq_k fun K9 hK9 => ?_;refine wp_region_lit ?_;refine Kn.pure fh13 rfl rfl .none (Kn.ex_move fh13 (.tmp rfl)) fun fa14 fh14 => ?_;clear fh13 fa13;refine Kn.pure fh14 rfl rfl .none (Kn.ex_move fh14 (.tmp rfl)) fun fa15 fh15 => ?_;clear fh14 fa14;refine Kn.step fh15 rfl rfl .none (Kn.ex_convert fh15 (.tmp rfl)) fun Ko hKo => ?_;go_simp;(try go_bits);refine hKo _ _ fun fa16 fh16 => ?_;clear hKo Ko fh15 fa15;refine Kn.known fh16 rfl rfl .none (Kn.ex_index fh16 .const (.tmp rfl)) (len8 (by decide +kernel) y_lt hb _) fun fa17 fh17 => ?_;clear fh16 fa16;clear hb;refine Kn.step fh17 rfl rfl .none (Kn.ex_convert fh17 (.tmp rfl)) fun Ko hKo => ?_;go_simp;(try go_bits);refine hKo _ _ fun fa18 fh18 => ?_;clear hKo Ko fh17 fa17;refine Kn.step fh18 rfl rfl .none (Kn.ex_bin fh18 (.tmp rfl) (.tmp rfl)) fun Ko hKo => ?_;go_simp;(try go_bits);try rw [rc]
    refine hKo _ _ fun fa19 fh19 => ?_;clear hKo Ko fh18 fa18;refine Kn.pure fh19 rfl rfl .none (Kn.ex_assign fh19 (.tmp rfl)) fun fa20 fh20 => ?_;clear fh19 fa19;refine wpList_nil ?_;refine hK9 _ _ ?_;clear hK9 K9;replace fh20 := fh20.cut (.cons (t := 2) rfl .nil);refine wp_ret ?_;exact Kn.ret1 fh20 rfl rfl ⟨by rw [HC.out], rfl⟩
  refine wp_seq_k fun K4 hK4 => ?_;refine wp_seq_k fun K5 hK5 => ?_;refine wp_region_lit ?_;refine Kn.pure fh3 rfl rfl .none (Kn.ex_move fh3 (.tmp rfl)) fun fa4 fh4 => ?_;clear fh3 fa3;refine Kn.step fh4 rfl rfl .none (Kn.ex_bin fh4 (.tmp rfl) .const) fun Ko hKo => ?_;go_simp;(try go_bits);refine hKo _ _ fun fa5 fh5 => ?_;clear hKo Ko fh4 fa4;refine wpList_nil ?_;refine hK5 _ _ ?_;clear hK5 K5;replace fh5 := fh5.cut (.cons (t := 8) rfl (.cons (t := 2) rfl (.cons (t := 0) rfl .nil)));refine Kn.no fh5 (.tmp rfl) ?_;refine wp_skip ?_;refine hK4 _ _ ?_;clear hK4 K4;replace fh5 := fh5.cut (.cons (t := 2) rfl (.cons (t := 0) rfl .nil))
  by_cases h2 : (256 : Int) ≤ (x : Int)
  · obtain ⟨y, hy⟩ : ∃ y, x / 256 = y := ⟨_, rfl⟩;have ry : (x : Int) / 256 = (y : Int) := by omega
    have y_lt : y < 256 := by omega
    have y_0 : 0 < y := by omega
    have HY : Hid (x / 2 ^ 8 = y) := Lib.hid hy;clear hy;have q2 : ¬ (256 : Int) ≤ (y : Int) := by omega
    refine wp_seq_k fun K6 hK6 => ?_;refine wp_seq_k fun K7 hK7 => ?_;refine wp_region_lit ?_;refine Kn.pure fh5 rfl rfl .none (Kn.ex_move fh5 (.tmp rfl)) fun fa6 fh6 => ?_;clear fh5 fa5;refine Kn.step fh6 rfl rfl .none (Kn.ex_bin fh6 (.tmp rfl) .const) fun Ko hKo => ?_;go_simp;(try go_bits);refine hKo _ _ fun fa7 fh7 => ?_;clear hKo Ko fh6 fa6;refine wpList_nil ?_;refine hK7 _ _ ?_;clear hK7 K7;replace fh7 := fh7.cut (.cons (t := 14) rfl (.cons (t := 2) rfl (.cons (t := 0) rfl .nil)));refine Kn.yes fh7 (.tmp rfl) ?_;replace fh7 := fh7.cut (.cons (t := 2) rfl (.cons (t := 0) rfl .nil));refine wp_seq_k fun K8 hK8 => ?_;refine wp_region_lit ?_;refine Kn.pure fh7 rfl rfl .none (Kn.ex_move fh7 (.tmp rfl)) fun fa8 fh8 => ?_;clear fh7 fa7;refine Kn.step fh8 rfl rfl .none (Kn.ex_bin fh8 (.tmp rfl) .const) fun Ko hKo => ?_;go_simp;(try go_bits);refine hKo _ _ fun fa9 fh9 => ?_;clear hKo Ko fh8 fa8;refine Kn.pure fh9 rfl rfl .none (Kn.ex_assign fh9 (.tmp rfl)) fun fa10 fh10 => ?_;clear fh9 fa9;refine wpList_nil ?_;refine hK8 _ _ ?_;clear hK8 K8;replace fh10 := fh10.cut (.cons (t := 0) rfl (.cons (t := 2) rfl .nil));refine wp_region_lit ?_;refine Kn.pure fh10 rfl rfl .none (Kn.ex_move fh10 (.tmp rfl)) fun fa11 fh11 => ?_;clear fh10 fa10;refine Kn.step fh11 rfl rfl .none (Kn.ex_bin fh11 (.tmp rfl) .const) fun Ko hKo => ?_;go_simp;(try go_bits);refine hKo _ _ fun fa12 fh12 => ?_;clear hKo Ko fh11 fa11;refine Kn.pure fh12 rfl rfl .none (Kn.ex_assign fh12 (.tmp rfl)) fun fa13 fh13 => ?_;clear fh12 fa12;refine wpList_nil ?_;refine hK6 _ _ ?_;clear hK6 K6;replace fh13 := fh13.cut (.cons (t := 2) rfl (.cons (t := 0) rfl .nil));clear ry;obtain ⟨b, hb⟩ : ∃ b, blen y = b := ⟨_, rfl⟩;have hb8 : b ≤ 8 := by have := blen_8 y_lt; omega
    have hbx : blen x = 8 + b := by rw [← hb]; exact blen_div (k := 8) HY.out (by omega)
    obtain ⟨c, hc⟩ : ∃ c, blen x = c := ⟨_, rfl⟩;have rc : (8 : Int) + (b : Int) = (c : Int) := by omega
    have HC := Lib.hid hc;clear hc hbx;refine wp_seq_k fun K9 hK9 => ?_;refine wp_region_lit ?_;refine Kn.pure fh13 rfl rfl .none (Kn.ex_move fh13 (.tmp rfl)) fun fa14 fh14 => ?_;clear fh13 fa13;refine Kn.pure fh14 rfl rfl .none (Kn.ex_move fh14 (.tmp rfl)) fun fa15 fh15 => ?_;clear fh14 fa14;refine Kn.step fh15 rfl rfl .none (Kn.ex_convert fh15 (.tmp rfl)) fun Ko hKo => ?_;go_simp;(try go_bits);refine hKo _ _ fun fa16 fh16 => ?_;clear hKo Ko fh15 fa15;refine Kn.known fh16 rfl rfl .none (Kn.ex_index fh16 .const (.tmp rfl)) (len8 (by decide +kernel) y_lt hb _) fun fa17 fh17 => ?_;clear fh16 fa16;clear hb;refine Kn.step fh17 rfl rfl .none (Kn.ex_convert fh17 (.tmp rfl)) fun Ko hKo => ?_;go_simp;(try go_bits);refine hKo _ _ fun fa18 fh18 => ?_;clear hKo Ko fh17 fa17;refine Kn.step fh18 rfl rfl .none (Kn.ex_bin fh18 (.tmp rfl) (.tmp rfl)) fun Ko hKo => ?_;go_simp;(try go_bits);try rw [rc]
    refine hKo _ _ fun fa19 fh19 => ?_;clear hKo Ko fh18 fa18;refine Kn.pure fh19 rfl rfl .none (Kn.ex_assign fh19 (.tmp rfl)) fun fa20 fh20 => ?_;clear fh19 fa19;refine wpList_nil ?_;refine hK9 _ _ ?_;clear hK9 K9;replace fh20 := fh20.cut (.cons (t := 2) rfl .nil);refine wp_ret ?_;exact Kn.ret1 fh20 rfl rfl ⟨by rw [HC.out], rfl⟩
  have x_lt : x < 256 := by omega
  refine wp_seq_k fun K6 hK6 => ?_;refine wp_seq_k fun K7 hK7 => ?_;refine wp_region_lit ?_;refine Kn.pure fh5 rfl rfl .none (Kn.ex_move fh5 (.tmp rfl)) fun fa6 fh6 => ?_;clear fh5 fa5;refine Kn.step fh6 rfl rfl .none (Kn.ex_bin fh6 (.tmp rfl) .const) fun Ko hKo => ?_;go_simp;(try go_bits);refine hKo _ _ fun fa7 fh7 => ?_;clear hKo Ko fh6 fa6;refine wpList_nil ?_;refine hK7 _ _ ?_;clear hK7 K7;replace fh7 := fh7.cut (.cons (t := 14) rfl (.cons (t := 2) rfl (.cons (t := 0) rfl .nil)));refine Kn.no fh7 (.tmp rfl) ?_;refine wp_skip ?_;refine hK6 _ _ ?_;clear hK6 K6;replace fh7 := fh7.cut (.cons (t := 2) rfl (.cons (t := 0) rfl .nil));obtain ⟨b, hb⟩ : ∃ b, blen x = b := ⟨_, rfl⟩;have hb8 : b ≤ 8 := by have := blen_8 x_lt; omega
  have hbx : blen x = 0 + b := by rw [← hb]; simp
  obtain ⟨c, hc⟩ : ∃ c, blen x = c := ⟨_, rfl⟩;have rc : (0 : Int) + (b : Int) = (c : Int) := by omega
  have HC := Lib.hid hc;clear hc hbx;refine wp_seq_k fun K8 hK8 => ?_;refine wp_region_lit ?_;refine Kn.pure fh7 rfl rfl .none (Kn.ex_move fh7 (.tmp rfl)) fun fa8 fh8 => ?_;clear fh7 fa7;refine Kn.pure fh8 rfl rfl .none (Kn.ex_move fh8 (.tmp rfl)) fun fa9 fh9 => ?_;clear fh8 fa8;refine Kn.step fh9 rfl rfl .none (Kn.ex_convert fh9 (.tmp rfl)) fun Ko hKo => ?_;go_simp;(try go_bits);refine hKo _ _ fun fa10 fh10 => ?_;clear hKo Ko fh9 fa9;refine Kn.known fh10 rfl rfl .none (Kn.ex_index fh10 .const (.tmp rfl)) (len8 (by decide +kernel) x_lt hb _) fun fa11 fh11 => ?_;clear fh10 fa10;clear hb;refine Kn.step fh11 rfl rfl .none (Kn.ex_convert fh11 (.tmp rfl)) fun Ko hKo => ?_;go_simp;(try go_bits);refine hKo _ _ fun fa12 fh12 => ?_;clear hKo Ko fh11 fa11;refine Kn.step fh12 rfl rfl .none (Kn.ex_bin fh12 (.tmp rfl) (.tmp rfl)) fun Ko hKo => ?_;go_simp;(try go_bits);try rw [rc]
  refine hKo _ _ fun fa13 fh13 => ?_;clear hKo Ko fh12 fa12;refine Kn.pure fh13 rfl rfl .none (Kn.ex_assign fh13 (.tmp rfl)) fun fa14 fh14 => ?_;clear fh13 fa13;refine wpList_nil ?_;refine hK8 _ _ ?_;clear hK8 K8;replace fh14 := fh14.cut (.cons (t := 2) rfl .nil);refine wp_ret ?_;exact Kn.ret1 fh14 rfl rfl ⟨by rw [HC.out], rfl⟩
set_option maxRecDepth 100000 in
set_option maxHeartbeats 400000 in
theorem len_any (x : Nat) (w : World) (hx : x < 16777216) :
    Calls Tryz.prog 80 #[.int .u64 (x : Int)] w fun e w' => e = .returned (.int .i64 (blen x : Int)) ∧ w = w' := by
  refine Kn.calls Tryz.func80 rfl Tryz.ntmps80 rfl (.cons (t := 0) rfl .nil) fun fa0 fh0 => ?_;refine wp_seq_k fun K1 hK1 => ?_;refine wp_region_lit ?_;refine Kn.pure fh0 rfl rfl .none (Kn.ex_assign fh0 .const) fun fa1 fh1 => ?_;clear fh0 fa0;refine wpList_nil ?_;refine hK1 _ _ ?_;clear hK1 K1;refine wp_seq_k fun K2 hK2 => ?_;refine Kn.no fh1 .const ?_;refine wp_skip ?_;refine hK2 _ _ ?_;clear hK2 K2;refine wp_seq_k fun K3 hK3 => ?_;refine wp_region_lit ?_;refine Kn.pure fh1 rfl rfl .none (Kn.ex_move fh1 (.tmp rfl)) fun fa2 fh2 => ?_;clear fh1 fa1;refine Kn.call fh2 rfl rfl .none (Kn.ex_call fh2 (.cons (.tmp rfl) .nil)) Tryz.call105 (len64_any x w hx) fun e w1 hp => ?_;obtain ⟨rfl, rfl⟩ := hp;refine ⟨_, rfl, fun fa3 fh3 => ?_⟩;clear fh2 fa2;refine Kn.pure fh3 rfl rfl .none (Kn.ex_assign fh3 (.tmp rfl)) fun fa4 fh4 => ?_;clear fh3 fa3;refine wpList_nil ?_;refine hK3 _ _ ?_;clear hK3 K3;replace fh4 := fh4.cut (.cons (t := 2) rfl .nil);refine wp_ret ?_;exact Kn.ret1 fh4 rfl rfl ⟨rfl, rfl⟩
theorem shl_one (b : Nat) (hb : b ≤ 24) : wrap64 (2 ^ b) = ((2 ^ b : Nat) : Int) := (show ∀ b, b ≤ 24 → wrap64 (2 ^ b) = ((2 ^ b : Nat) : Int) by decide +kernel) b hb
theorem split_math {n : Nat} (h2 : 2 ≤ n) (hn : n ≤ 1048576) : ∃ m b p : Nat, n - 1 = m ∧ m < 16777216 ∧ blen m = b + 1 ∧ b ≤ 24 ∧ wrap64 (2 ^ b) = (p : Int) ∧ hp n = p ∧ 1 ≤ p ∧ p < n := by
  have h0 : n - 1 ≠ 0 := by omega
  have hlt : n - 1 < 16777216 := by omega
  have hb24 : Nat.log2 (n - 1) ≤ 24 := by
    have e : (16777216 : Nat) = 2 ^ 24 := by decide
    have := (Nat.log2_lt (n := n - 1) h0 (k := 24)).2 (by rw [← e]; exact hlt);omega
  have hpi := hp_in h2;exact ⟨n - 1, Nat.log2 (n - 1), hp n, rfl, hlt, by rw [blen, if_neg h0], hb24, shl_one _ hb24, rfl, hpi.1, hpi.2.1⟩
set_option maxRecDepth 100000 in
set_option maxHeartbeats 400000 in
theorem split_any (f n : Nat) (w : World) (h2 : 2 ≤ n) (hn : n ≤ 1048576) (hf : f ≤ 1048576) :
    Calls Tryz.prog 92 #[.agg #[.int .i64 (f : Int), .int .i64 (n : Int)]] w fun e w' => e = .returned (.tuple #[.agg #[.int .i64 (f : Int), .int .i64 (hp n : Int)], .agg #[.int .i64 ((f + hp n : Nat) : Int), .int .i64 ((n - hp n : Nat) : Int)]]) ∧ Below w.heap.size w w' := by
  refine Kn.calls Tryz.func92 rfl Tryz.ntmps92 rfl (.cons (t := 0) rfl .nil) fun fa0 fh0 => ?_;refine wp_seq_k fun K1 hK1 => ?_;refine wp_region_lit ?_;refine Kn.step fh0 rfl rfl .none (Kn.ex_box fh0 (.tmp rfl)) fun Ko hKo => ?_;go_simp;(try go_bits);refine hKo _ _ fun fa1 fh1 => ?_;clear hKo Ko fh0 fa0;refine Kn.step fh1 rfl rfl .none Kn.ex_alloc fun Ko hKo => ?_;go_simp;(try go_bits);refine hKo _ _ fun fa2 fh2 => ?_;clear hKo Ko fh1 fa1;refine Kn.step fh2 rfl rfl .none Kn.ex_alloc fun Ko hKo => ?_;go_simp;(try go_bits);refine hKo _ _ fun fa3 fh3 => ?_;clear hKo Ko fh2 fa2;refine wpList_nil ?_;refine hK1 _ _ ?_;clear hK1 K1;replace fh3 := fh3.cut (.cons (t := 3) rfl (.cons (t := 2) rfl (.cons (t := 1) rfl .nil)));refine Kn.gen (fun u => (St.St u w.heap.size 157 #[.int .i64 (f : Int), .int .i64 (n : Int)] ∧ St.St u (w.heap.size + 1) 157 #[.int .i64 0, .int .i64 0] ∧ St.St u (w.heap.size + 1 + 1) 157 #[.int .i64 0, .int .i64 0]) ∧ Below w.heap.size w u) ⟨⟨((St.St.new w _ _).alloc _).alloc _, (by have := (St.St.new (w.alloc (.cells #[.int .i64 (f : Int), .int .i64 (n : Int)] 157)) 157 #[.int .i64 0, .int .i64 0]).alloc (.cells #[.int .i64 0, .int .i64 0] 157); simpa using this), (by have := St.St.new ((w.alloc (.cells #[.int .i64 (f : Int), .int .i64 (n : Int)] 157)).alloc (.cells #[.int .i64 0, .int .i64 0] 157)) 157 #[.int .i64 0, .int .i64 0]; simpa using this)⟩, (((Below.refl _ w).alloc (Nat.le_refl _) _).alloc (by simp) _).alloc (by simp [Nat.add_assoc]) _⟩ fun u hu => ?_;obtain ⟨⟨hs1, hs2, hs3⟩, hb⟩ := hu;obtain ⟨g, hg⟩ : ∃ g, w.heap.size = g := ⟨_, rfl⟩;obtain ⟨g1, hg1⟩ : ∃ k, g + 1 = k := ⟨_, rfl⟩;obtain ⟨g2, hg2⟩ : ∃ k, g1 + 1 = k := ⟨_, rfl⟩;rw [hg, hg1, hg2] at hs3 fh3;rw [hg, hg1] at hs2;rw [hg] at hs1;have c10 := hs1.cell 0 rfl;have c11 := hs1.cell 1 rfl;obtain ⟨m, b, p, hm, hm24, hb1, hb24, hsl, hp1, hp0, hpn⟩ := split_math h2 hn;have rm : (n : Int) - 1 = (m : Int) := by omega
  have hlen := fun v => len_any m v hm24;obtain ⟨b1, hb1e⟩ : ∃ k, b + 1 = k := ⟨_, rfl⟩;rw [hb1, hb1e] at hlen;have rb : (b1 : Int) - 1 = (b : Int) := by omega
  have HSL := Lib.hid hsl;have HP := Lib.hid hp1;clear hsl hp1 hb1;obtain ⟨s, hs⟩ : ∃ s, f + p = s := ⟨_, rfl⟩;obtain ⟨r, hr⟩ : ∃ r, n - p = r := ⟨_, rfl⟩;have rs : (f : Int) + (p : Int) = (s : Int) := by omega
  have rr : (n : Int) - (p : Int) = (r : Int) := by omega
  have HS := Lib.hid hs;have HR := Lib.hid hr;have HS1 := Lib.hid hs1;have HS2 := Lib.hid hs2;have HS3 := Lib.hid hs3;have HB := Lib.hid hb;have hg12 : g1 ≠ g2 := by omega
  have hl2 : w.heap.size ≤ g1 ∧ w.heap.size ≤ g2 ∧ g < g1 ∧ g1 < g2 := by omega
  have HH := Lib.hid hl2;clear hs hr hg1 hg2 hs1 hs2 hs3 hb hg hm hl2 hb1e hm24;refine wp_seq_k fun K2 hK2 => ?_;refine wp_region_lit ?_;refine Kn.step fh3 rfl rfl .none (Kn.ex_fieldAddr fh3 (.tmp rfl)) fun Ko hKo => ?_;go_simp;(try go_bits);refine hKo _ _ fun fa4 fh4 => ?_;clear hKo Ko fh3 fa3;refine Kn.step fh4 rfl rfl .none (Kn.ex_load fh4 (.tmp rfl)) fun Ko hKo => ?_;go_simp;(try go_bits);refine hKo _ _ fun fa5 fh5 => ?_;clear hKo Ko fh4 fa4;refine Kn.step fh5 rfl rfl .none (Kn.ex_bin fh5 (.tmp rfl) .const) fun Ko hKo => ?_;go_simp;(try go_bits);try rw [rm]
  refine hKo _ _ fun fa6 fh6 => ?_;clear hKo Ko fh5 fa5;refine Kn.step fh6 rfl rfl .none (Kn.ex_convert fh6 (.tmp rfl)) fun Ko hKo => ?_;go_simp;(try go_bits);refine hKo _ _ fun fa7 fh7 => ?_;clear hKo Ko fh6 fa6;refine Kn.call fh7 rfl rfl .none (Kn.ex_call fh7 (.cons (.tmp rfl) .nil)) Tryz.call80 (hlen _) fun e u1 hp => ?_;obtain ⟨rfl, rfl⟩ := hp;refine ⟨_, rfl, fun fa8 fh8 => ?_⟩;clear fh7 fa7;refine Kn.step fh8 rfl rfl .none (Kn.ex_bin fh8 (.tmp rfl) .const) fun Ko hKo => ?_;go_simp;(try go_bits);try rw [rb]
  refine hKo _ _ fun fa9 fh9 => ?_;clear hKo Ko fh8 fa8;refine Kn.step fh9 rfl rfl .none (Kn.ex_bin fh9 .const (.tmp rfl)) fun Ko hKo => ?_;go_simp;(try go_bits);try rw [HSL.out]
  refine hKo _ _ fun fa10 fh10 => ?_;clear hKo Ko fh9 fa9;refine Kn.pure fh10 rfl rfl .none (Kn.ex_assign fh10 (.tmp rfl)) fun fa11 fh11 => ?_;clear fh10 fa10;refine wpList_nil ?_;refine hK2 _ _ ?_;clear hK2 K2;replace fh11 := fh11.cut (.cons (t := 4) rfl (.cons (t := 3) rfl (.cons (t := 2) rfl (.cons (t := 1) rfl .nil))));clear hlen HSL rm rb;refine wp_seq_k fun K3 hK3 => ?_;refine Kn.anyU (fun u => St.St u g 157 #[.int .i64 (f : Int), .int .i64 (n : Int)] ∧ (∃ x, St.St u g1 157 x ∧ x.size = 2) ∧ (∃ x, St.St u g2 157 x ∧ x.size = 2) ∧ Below w.heap.size w u) (fun u u' => (St.St u g1 157 #[.int .i64 (f : Int), .int .i64 (p : Int)] → St.St u' g1 157 #[.int .i64 (f : Int), .int .i64 (p : Int)]) ∧ (St.St u g2 157 #[.int .i64 (s : Int), .int .i64 (r : Int)] → St.St u' g2 157 #[.int .i64 (s : Int), .int .i64 (r : Int)])) (Kn.TL [Kn.Is (.pointer (some ⟨g, 0, none⟩)), Kn.Is (.int .i64 (f : Int)), Kn.Is (.int .i64 (p : Int)), Kn.Is (.agg #[.int .i64 (f : Int), .int .i64 (p : Int)]), Kn.Is (.pointer (some ⟨g, 0, none⟩)), Kn.Is (.int .i64 (f : Int)), Kn.Is (.int .i64 (p : Int)), Kn.Is (.int .i64 (s : Int)), Kn.Is (.pointer (some ⟨g, 1, none⟩)), Kn.Is (.int .i64 (n : Int)), Kn.Is (.int .i64 (p : Int)), Kn.Is (.int .i64 (r : Int)), Kn.Is (.agg #[.int .i64 (s : Int), .int .i64 (r : Int)]), (fun _ u => St.St u g1 157 #[.int .i64 (f : Int), .int .i64 (p : Int)]), (fun _ u => St.St u g2 157 #[.int .i64 (s : Int), .int .i64 (r : Int)])]) (by kernel_rfl) fh11 (by kernel_rfl) (by kernel_rfl) rfl (Kn.Keeps.all (.cons Kn.Is.keep (.cons Kn.Is.keep (.cons Kn.Is.keep (.cons Kn.Is.keep (.cons Kn.Is.keep (.cons Kn.Is.keep (.cons Kn.Is.keep (.cons Kn.Is.keep (.cons Kn.Is.keep (.cons Kn.Is.keep (.cons Kn.Is.keep (.cons Kn.Is.keep (.cons Kn.Is.keep (.cons (fun _ _ _ hG h => hG.1 h) (.cons (fun _ _ _ hG h => hG.2 h) .nil)))))))))))))))) ⟨HS1.out.drewN 1, ⟨_, HS2.out.drewN 1, rfl⟩, ⟨_, HS3.out.drewN 1, rfl⟩, Own.below_drewN HB.out 1⟩ ⟨?_, ?_, ?_, ?_, ?_, ?_, ?_, ?_, ?_, ?_, ?_, ?_, ?_, ?_, ?_, trivial⟩ ?_
  · refine Kn.ok fun fa12 u2 L fh12 hS hH => ?_;refine Kn.aop fh12 .none (Kn.ex_fieldAddr fh12 (.tmp rfl)) fun Ko hKo => ?_;go_simp;(try go_bits);exact hKo _ _ rfl hS (⟨fun h => h, fun h => h⟩)
  · refine Kn.ok fun fa12 u2 L fh12 hS hH => ?_;replace fh12 := fh12.more (show fa12.eval (.tmp 12) = .pointer (some ⟨g, 0, none⟩) from hH 0 12 rfl rfl);have qk := hS.1.cell 0 rfl;refine Kn.aop fh12 .none (Kn.ex_load fh12 (.tmp rfl)) fun Ko hKo => ?_;go_simp;(try go_bits);exact hKo _ _ rfl hS (⟨fun h => h, fun h => h⟩)
  · refine Kn.ok fun fa12 u2 L fh12 hS hH => ?_;exact Kn.apure fh12 .none (Kn.ex_move fh12 (.tmp rfl)) rfl hS (⟨fun h => h, fun h => h⟩)
  · refine Kn.ok fun fa12 u2 L fh12 hS hH => ?_;replace fh12 := fh12.more (show fa12.eval (.tmp 13) = .int .i64 (f : Int) from hH 1 13 rfl rfl);replace fh12 := fh12.more (show fa12.eval (.tmp 14) = .int .i64 (p : Int) from hH 2 14 rfl rfl);refine Kn.aop fh12 .none (Kn.ex_build fh12 (.cons (.tmp rfl) (.cons (.tmp rfl) .nil))) fun Ko hKo => ?_;go_simp;(try go_bits);exact hKo _ _ rfl hS (⟨fun h => h, fun h => h⟩)
  · refine Kn.ok fun fa12 u2 L fh12 hS hH => ?_;refine Kn.aop fh12 .none (Kn.ex_fieldAddr fh12 (.tmp rfl)) fun Ko hKo => ?_;go_simp;(try go_bits);exact hKo _ _ rfl hS (⟨fun h => h, fun h => h⟩)
  · refine Kn.ok fun fa12 u2 L fh12 hS hH => ?_;replace fh12 := fh12.more (show fa12.eval (.tmp 16) = .pointer (some ⟨g, 0, none⟩) from hH 4 16 rfl rfl);have qk := hS.1.cell 0 rfl;refine Kn.aop fh12 .none (Kn.ex_load fh12 (.tmp rfl)) fun Ko hKo => ?_;go_simp;(try go_bits);exact hKo _ _ rfl hS (⟨fun h => h, fun h => h⟩)
  · refine Kn.ok fun fa12 u2 L fh12 hS hH => ?_;exact Kn.apure fh12 .none (Kn.ex_move fh12 (.tmp rfl)) rfl hS (⟨fun h => h, fun h => h⟩)
  · refine Kn.ok fun fa12 u2 L fh12 hS hH => ?_;replace fh12 := fh12.more (show fa12.eval (.tmp 17) = .int .i64 (f : Int) from hH 5 17 rfl rfl);replace fh12 := fh12.more (show fa12.eval (.tmp 18) = .int .i64 (p : Int) from hH 6 18 rfl rfl);refine Kn.aop fh12 .none (Kn.ex_bin fh12 (.tmp rfl) (.tmp rfl)) fun Ko hKo => ?_;go_simp;(try go_bits);try rw [rs]
    exact hKo _ _ rfl hS (⟨fun h => h, fun h => h⟩)
  · refine Kn.ok fun fa12 u2 L fh12 hS hH => ?_;refine Kn.aop fh12 .none (Kn.ex_fieldAddr fh12 (.tmp rfl)) fun Ko hKo => ?_;go_simp;(try go_bits);exact hKo _ _ rfl hS (⟨fun h => h, fun h => h⟩)
  · refine Kn.ok fun fa12 u2 L fh12 hS hH => ?_;replace fh12 := fh12.more (show fa12.eval (.tmp 20) = .pointer (some ⟨g, 1, none⟩) from hH 8 20 rfl rfl);have qk := hS.1.cell 1 rfl;refine Kn.aop fh12 .none (Kn.ex_load fh12 (.tmp rfl)) fun Ko hKo => ?_;go_simp;(try go_bits);exact hKo _ _ rfl hS (⟨fun h => h, fun h => h⟩)
  · refine Kn.ok fun fa12 u2 L fh12 hS hH => ?_;exact Kn.apure fh12 .none (Kn.ex_move fh12 (.tmp rfl)) rfl hS (⟨fun h => h, fun h => h⟩)
  · refine Kn.ok fun fa12 u2 L fh12 hS hH => ?_;replace fh12 := fh12.more (show fa12.eval (.tmp 21) = .int .i64 (n : Int) from hH 9 21 rfl rfl);replace fh12 := fh12.more (show fa12.eval (.tmp 22) = .int .i64 (p : Int) from hH 10 22 rfl rfl);refine Kn.aop fh12 .none (Kn.ex_bin fh12 (.tmp rfl) (.tmp rfl)) fun Ko hKo => ?_;go_simp;(try go_bits);try rw [rr]
    exact hKo _ _ rfl hS (⟨fun h => h, fun h => h⟩)
  · refine Kn.ok fun fa12 u2 L fh12 hS hH => ?_;replace fh12 := fh12.more (show fa12.eval (.tmp 19) = .int .i64 (s : Int) from hH 7 19 rfl rfl);replace fh12 := fh12.more (show fa12.eval (.tmp 23) = .int .i64 (r : Int) from hH 11 23 rfl rfl);refine Kn.aop fh12 .none (Kn.ex_build fh12 (.cons (.tmp rfl) (.cons (.tmp rfl) .nil))) fun Ko hKo => ?_;go_simp;(try go_bits);exact hKo _ _ rfl hS (⟨fun h => h, fun h => h⟩)
  · refine Kn.ok fun fa12 u2 L fh12 hS hH => ?_;replace fh12 := fh12.more (show fa12.eval (.tmp 15) = .agg #[.int .i64 (f : Int), .int .i64 (p : Int)] from hH 3 15 rfl rfl);obtain ⟨k1, ⟨x, k2, hx⟩, ⟨y, k3, hy⟩, k4⟩ := hS;obtain ⟨hst, hS2, hB2⟩ := k2.store (P := Tryz.prog) (cells := #[.int .i64 (f : Int), .int .i64 (p : Int)]) (by kernel_rfl) hx (by simp [Value.oneCell']);have hg0 := HH.out;have hne : g2 ≠ g1 := by omega
    have hne0 : g ≠ g1 := by omega
    refine Kn.aopU fh12 rfl .none (Kn.ex_store fh12 (.tmp rfl) (.tmp rfl)) fun Ko hKo => ?_;refine Kn.satU_runA hst ?_;exact hKo _ hS2 ⟨k1.setRow hne0 _, ⟨_, hS2, rfl⟩, ⟨y, k3.setRow hne _, hy⟩, k4.trans (hB2 _ (by omega))⟩ ⟨fun _ => hS2, fun h => h.setRow hne _⟩
  · refine Kn.ok fun fa12 u2 L fh12 hS hH => ?_;replace fh12 := fh12.more (show fa12.eval (.tmp 24) = .agg #[.int .i64 (s : Int), .int .i64 (r : Int)] from hH 12 24 rfl rfl);obtain ⟨k1, ⟨x, k2, hx⟩, ⟨y, k3, hy⟩, k4⟩ := hS;obtain ⟨hst, hS2, hB2⟩ := k3.store (P := Tryz.prog) (cells := #[.int .i64 (s : Int), .int .i64 (r : Int)]) (by kernel_rfl) hy (by simp [Value.oneCell']);have hg0 := HH.out;have hne : g1 ≠ g2 := by omega
    have hne0 : g ≠ g2 := by omega
    refine Kn.aopU fh12 rfl .none (Kn.ex_store fh12 (.tmp rfl) (.tmp rfl)) fun Ko hKo => ?_;refine Kn.satU_runA hst ?_;exact hKo _ hS2 ⟨k1.setRow hne0 _, ⟨x, k2.setRow hne _, hx⟩, ⟨_, hS2, rfl⟩, k4.trans (hB2 _ (by omega))⟩ ⟨fun h => h.setRow hne _, fun _ => hS2⟩
  intro fa12 u3 fh12 hS hT hU;clear fh11 fa11;clear hT;refine hK3 _ _ ?_;clear hK3 K3;replace fh12 := fh12.cut (.cons (t := 3) rfl (.cons (t := 2) rfl .nil));obtain ⟨v5, hS5⟩ := hU 13 _ rfl rfl;obtain ⟨v4, hS4⟩ := hU 14 _ rfl rfl;replace hS5 : St.St u3 g1 157 #[.int .i64 (f : Int), .int .i64 (p : Int)] := hS5;replace hS4 : St.St u3 g2 157 #[.int .i64 (s : Int), .int .i64 (r : Int)] := hS4;have hBB := hS.2.2.2;clear hS hU;refine wp_ret ?_;exact Kn.retSS fh12 rfl rfl rfl hS5 Tryz.underlying157 rfl (by kernel_rfl) hS4 Tryz.underlying157 rfl (by kernel_rfl) ⟨by rw [HP.out, HS.out, HR.out], hBB⟩
end Go.Proofs.YtbahklpdldghbaaGreatDoor.Mrk
end
section
namespace Go.Proofs.YtbahklpdldghbaaGreatDoor.Mrk
open Go Go.RowKit Go.Lib RowG
theorem hfL_pow (n : Nat) : ∀ (d k j : Nat), n - k ≤ d → k = 2 ^ j → k < n → ∃ i, hfL k n = 2 ^ i := by
  intro d
  induction d with
  | zero => intro k j h hk h1; omega
  | succ d ih =>
    intro k j h hk h1
    by_cases h2 : 2 * k < n
    · have h0 : 0 < k := by rw [hk]; exact Nat.two_pow_pos j
      rw [hfL_step h0 h2];exact ih (2 * k) (j + 1) (by omega) (by rw [hk, Nat.pow_succ, Nat.mul_comm]) h2
    · rw [hfL_end h2];exact ⟨j, hk⟩
theorem hf_hp {n : Nat} (h : 2 ≤ n) : hf n = hp n := by
  obtain ⟨i, hi⟩ := hfL_pow n (n - 1) 1 0 (Nat.le_refl _) rfl (by omega);have e : hf n = 2 ^ i := hi;have hk := hf_in h;rw [e] at hk ⊢;have : Nat.log2 (n - 1) = i := log2_is (by omega) (by rw [Nat.pow_succ]; omega);rw [hp, this]
theorem hf_half {n d : Nat} (h : 2 ≤ n) (hd : n ≤ 2 ^ d) : 1 ≤ d ∧ hf n ≤ 2 ^ (d - 1) ∧ n - hf n ≤ 2 ^ (d - 1) := by
  cases d with
  | zero => simp at hd; omega
  | succ d =>
    have hk := hf_in h;rw [Nat.add_sub_cancel]
    have h1 : hf n ≤ 2 ^ d := by
      rw [hf_hp h, hp];refine Nat.pow_le_pow_right (by omega) ?_;have := (Nat.log2_lt (n := n - 1) (by omega) (k := d + 1)).2 (by omega);omega
    omega
def besF (f i n : Nat) : List (Nat × Nat) :=
  if h : n < 2 then []
  else
    have hk := hf_in (n := n) (by omega)
    if i < hf n then besF f i (hf n) ++ [(f + hf n, n - hf n)] else besF (f + hf n) (i - hf n) (n - hf n) ++ [(f, hf n)]
termination_by n
theorem besF_l {f i n : Nat} (h : 2 ≤ n) (hi : i < hf n) : besF f i n = besF f i (hf n) ++ [(f + hf n, n - hf n)] := by rw [besF, dif_neg (by omega), if_pos hi]
theorem besF_r {f i n : Nat} (h : 2 ≤ n) (hi : ¬ i < hf n) : besF f i n = besF (f + hf n) (i - hf n) (n - hf n) ++ [(f, hf n)] := by rw [besF, dif_neg (by omega), if_neg hi]
def Rt (bl : List ByteArray) (f n : Nat) : ByteArray := (rootP ((bl.drop f).take n)).1
theorem Rt_size (bl : List ByteArray) (f n : Nat) : (Rt bl f n).size = 32 := rootP_size _
theorem take_part {α : Type} (bl : List α) (f n k : Nat) (h : k ≤ n) : ((bl.drop f).take n).take k = (bl.drop f).take k := by rw [List.take_take, Nat.min_eq_left h]
theorem drop_part {α : Type} (bl : List α) (f n k : Nat) : ((bl.drop f).take n).drop k = (bl.drop (f + k)).take (n - k) := by rw [List.drop_take, List.drop_drop]
theorem part_len {α : Type} (bl : List α) (f n : Nat) (h : f + n ≤ bl.length) : ((bl.drop f).take n).length = n := by rw [List.length_take, List.length_drop]; omega
theorem Rt_1 {bl : List ByteArray} {f : Nat} {s : ByteArray} (h : bl[f]? = some s) : Rt bl f 1 = sm (c0 ++ s) := by
  have hlt := (List.getElem?_eq_some_iff.1 h).1
  have e : (bl.drop f).take 1 = [s] := by
    rw [List.drop_eq_getElem_cons hlt];have := (List.getElem?_eq_some_iff.1 h).2;simp [this]
  rw [Rt, e, rootP_1]
theorem Rt_2 {bl : List ByteArray} {f n : Nat} (h : 2 ≤ n) (hl : f + n ≤ bl.length) : Rt bl f n = sm (c1 ++ Rt bl f (hf n) ++ Rt bl (f + hf n) (n - hf n)) := by
  have hk := hf_in h;have e := part_len bl f n hl;rw [Rt, rootP_2 (by rw [e]; exact h), e, take_part _ _ _ _ (by omega), drop_part]
  rfl
theorem Rt_all (bl : List ByteArray) : Rt bl 0 bl.length = (rootP bl).1 := by rw [Rt, List.drop_zero, List.take_length]
def InT (f n a b : Nat) : Prop :=
  (a = f ∧ b = n) ∨ (if h : n < 2 then False else
    have hk := hf_in (n := n) (by omega)
    InT f (hf n) a b ∨ InT (f + hf n) (n - hf n) a b)
termination_by n
theorem InT_self (f n : Nat) : InT f n f n := by rw [InT]; exact .inl ⟨rfl, rfl⟩
theorem InT_1 {f n a b : Nat} (h : n < 2) (h1 : InT f n a b) : a = f ∧ b = n := by
  rw [InT, dif_pos h] at h1;rcases h1 with h1 | h1
  · exact h1
  · exact h1.elim
theorem InT_2 {f n a b : Nat} (h : 2 ≤ n) : InT f n a b ↔ (a = f ∧ b = n) ∨ InT f (hf n) a b ∨ InT (f + hf n) (n - hf n) a b := by rw [InT, dif_neg (by omega)]
end Go.Proofs.YtbahklpdldghbaaGreatDoor.Mrk
end
section
namespace Go.Proofs.YtbahklpdldghbaaGreatDoor.Kn
open Go
section
variable {P : Program} {a : Act} {w : World} {Q : Exit → Act → World → Prop}
theorem genL {ops : Array Oper} {K : Exit → Act → World → Prop} {rest : List Oper} (S : World → Prop) (hS : S w) (H : ∀ u, S u → wpList P ops K rest a u) : wpList P ops K rest a w := H w hS
end
end Go.Proofs.YtbahklpdldghbaaGreatDoor.Kn
namespace Go.Proofs.YtbahklpdldghbaaGreatDoor.Mrk
open Go Go.RowKit Go.Lib RowG
theorem loadS {P : Program} {w : World} {g : Nat} {T : TypeId} {cs : Array Value} {d : TypeDesc} (h : St.St w g T cs) (hu : P.underlying T = some d) (hd : St.rowD d = true) (hi : (P.info? T).map (·.size) = some cs.size) : (Instr.loadAt T (.pointer (some ⟨g, 0, none⟩))).run P w = .ok (.agg cs) w := h.load hu hd hi
def Off (A : Option Addr) (g : Nat) : Prop := ∀ a : Addr, A = some a → a.block ≠ g
theorem Off.own {A : Option Addr} {g n c : Nat} (h : Off A g) : some g ≠ (Value.slice A n c).ownBlock := fun e => by
  cases A with
  | none => cases e
  | some a =>
    simp only [Value.ownBlock, Option.some.injEq] at e;exact h a rfl e.symm
theorem Off.kept {A : Option Addr} {g g' n c : Nat} {v v' : World} (h : Off A g) (hk : Own.Kept v v' (Value.slice A n c).ownBlock g') (hg : g < v.heap.size) : Off (some ⟨g', 0, none⟩) g := fun a e => by
  injection e with e
  subst e;rcases hk.at' with h1 | h1
  · intro e2;subst e2;exact h.own h1.symm
  · show g' ≠ g;omega
def BesI (_w : World) (I N m f k i : Nat) (acc : List (Nat × Nat)) : Prop := besF 0 I N = besF f i k ++ acc.reverse ∧ k ≤ 2 ^ m ∧ acc.length + m = 20 ∧ I = f + i ∧ i < k ∧ f + k ≤ N
theorem BesI.l {w : World} {I N m f k i p s r : Nat} {acc : List (Nat × Nat)} (h : BesI w I N m f k i acc) (h2 : 2 ≤ k) (hp1 : hp k = p) (hs : f + hp k = s) (hr : k - hp k = r) (hi : I < s) : BesI w I N (m - 1) f p i (acc ++ [(s, r)]) ∧ 1 ≤ m := by
  obtain ⟨h1, h3, h4, h5, h6, h7⟩ := h;have hk := hf_in h2;have hh := hf_half h2 h3;rw [← hf_hp h2] at hp1 hs hr;subst hp1 hs hr;refine ⟨⟨?_, hh.2.1, ?_, h5, by omega, by omega⟩, hh.1⟩
  · rw [h1, besF_l h2 (by omega), List.reverse_append];simp
  · rw [List.length_append, List.length_singleton]; omega
theorem BesI.r {w : World} {I N m f k i p s r : Nat} {acc : List (Nat × Nat)} (h : BesI w I N m f k i acc) (h2 : 2 ≤ k) (hp1 : hp k = p) (hs : f + hp k = s) (hr : k - hp k = r) (hi : ¬ I < s) : BesI w I N (m - 1) s r (i - p) (acc ++ [(f, p)]) ∧ 1 ≤ m := by
  obtain ⟨h1, h3, h4, h5, h6, h7⟩ := h;have hk := hf_in h2;have hh := hf_half h2 h3;rw [← hf_hp h2] at hp1 hs hr;subst hp1 hs hr;refine ⟨⟨?_, hh.2.2, ?_, by omega, by omega, by omega⟩, hh.1⟩
  · rw [h1, besF_r h2 (by omega), List.reverse_append];simp
  · rw [List.length_append, List.length_singleton]; omega
end Go.Proofs.YtbahklpdldghbaaGreatDoor.Mrk
end
section
namespace Go.Proofs.YtbahklpdldghbaaGreatDoor.Mrk
open Go Go.RowKit Go.Lib RowG
theorem txc {w : World} {A : Option Addr} {ts : List ByteArray} (h : RIn txR w A ts) {k : Nat} {s : ByteArray} (hk : ts[k]? = some s) : ∃ b o, A = some ⟨b, o, none⟩ ∧ b < w.heap.size ∧ w.cell? ⟨b, o + k, none⟩ = some (.string s) := by
  obtain ⟨b, o, h1, h2, h3⟩ := h k s hk;have h4 := h3 0 (.string s) rfl;have e : o + (k * txR.size + 0) = o + k := by show o + (k * 1 + 0) = _; omega
  rw [e] at h4;exact ⟨b, o, h1, h2, h4⟩
end Go.Proofs.YtbahklpdldghbaaGreatDoor.Mrk
end
section
namespace Go.Proofs.YtbahklpdldghbaaGreatDoor.Mrk
open Go Go.RowKit Go.Lib RowG
theorem tx_cell {w : World} {b o i : Nat} {l : List ByteArray} {a : ByteArray} (h : RIn txR w (some ⟨b, o, none⟩) l) (hi : l[i]? = some a) : w.cell? ⟨b, o + i, none⟩ = some (.string a) := by
  have := h.cell (j := 0) (u := .string a) hi rfl
  rwa [show i * txR.size + 0 = i from Nat.mul_one i] at this
structure KitAt (w : World) (bk ok bh oh : Nat) : Prop where
  k : Sha.NIn w (some ⟨bk, ok, none⟩) Sha.kk
  h : Sha.NIn w (some ⟨bh, oh, none⟩) Sha.hh
theorem KitAt.on {w w' : World} {bk ok bh oh : Nat} (h : KitAt w bk ok bh oh) (hb : Below w.heap.size w w') : KitAt w' bk ok bh oh := ⟨h.k.below hb, h.h.below hb⟩
theorem KitAt.drew {w : World} {bk ok bh oh : Nat} (h : KitAt w bk ok bh oh) : KitAt w.drew bk ok bh oh := ⟨h.k, h.h⟩
end Go.Proofs.YtbahklpdldghbaaGreatDoor.Mrk
end
section
namespace Go.Proofs.YtbahklpdldghbaaGreatDoor.Mrk
open Go Go.RowKit Go.Lib RowG
theorem sum_new (ts : List ByteArray) (w : World) (hT : Sha.Tabs w) (hn : (ts.length : Int) ≤ 9223372036854775807) (hl : ((Sha.cat (fun k => ts.getD k ByteArray.empty) ts.length).length : Int) ≤ 35184372088832) :
    Calls Tryz.prog 74 #[.slice (some ⟨w.heap.size, 0, none⟩) ts.length ts.length] (w.alloc (.cells (ts.map Value.string).toArray 9)) fun e w' => e = .returned (.string (Sha.digB (Sha.cat (fun k => ts.getD k ByteArray.empty) ts.length))) ∧ Below w.heap.size w w' := by
  have hb0 := (Below.refl w.heap.size w).alloc (Nat.le_refl _) (.cells (ts.map Value.string).toArray 9);refine (Sha.sum_any (some ⟨w.heap.size, 0, none⟩) ts.length ts.length (fun k => ts.getD k ByteArray.empty) _ (hT.below hb0 hT.size) (fun k hk => ⟨_, _, rfl, (St.St.new w _ _).lt, by simp, ?_⟩) hn hl).mono fun e w' h => ⟨h.1, hb0.trans (h.2.mono hb0.size)⟩;rw [Nat.zero_add];exact (St.St.new w 9 (ts.map Value.string).toArray).cell k (by simp [hk])
theorem data_len (a : ByteArray) : a.data.toList.length = a.size := by rw [Array.length_toList]; rfl
theorem cat2 (a b : ByteArray) : Sha.cat (fun k => [a, b].getD k ByteArray.empty) 2 = (a ++ b).data.toList := by
  simp [Sha.cat, ByteArray.data_append]
theorem cat3 (a b c : ByteArray) : Sha.cat (fun k => [a, b, c].getD k ByteArray.empty) 3 = (a ++ b ++ c).data.toList := by
  simp [Sha.cat, ByteArray.data_append]
theorem cat1 (a : ByteArray) : Sha.cat (fun k => [a].getD k ByteArray.empty) 1 = a.data.toList := by
  simp [Sha.cat]
theorem sum1 (a : ByteArray) (w : World) (hT : Sha.Tabs w) (hs : a.size ≤ 100000) :
    Calls Tryz.prog 74 #[.slice (some ⟨w.heap.size, 0, none⟩) 1 1] (w.alloc (.cells #[.string a] 9)) fun e w' => e = .returned (.string (sm a)) ∧ Below w.heap.size w w' := by
  have h := sum_new [a] w hT (by simp) (by rw [show [a].length = 1 from rfl, cat1, data_len]; omega);rw [show [a].length = 1 from rfl, cat1] at h;exact h
theorem sum2 (a b : ByteArray) (w : World) (hT : Sha.Tabs w) (hs : (a ++ b).size ≤ 100000) :
    Calls Tryz.prog 74 #[.slice (some ⟨w.heap.size, 0, none⟩) 2 2] (w.alloc (.cells #[.string a, .string b] 9)) fun e w' => e = .returned (.string (sm (a ++ b))) ∧ Below w.heap.size w w' := by
  have h := sum_new [a, b] w hT (by simp) (by rw [show [a, b].length = 2 from rfl, cat2, data_len]; omega);rw [show [a, b].length = 2 from rfl, cat2] at h;exact h
theorem sum3 (a b c : ByteArray) (w : World) (hT : Sha.Tabs w) (hs : (a ++ b ++ c).size ≤ 100000) :
    Calls Tryz.prog 74 #[.slice (some ⟨w.heap.size, 0, none⟩) 3 3] (w.alloc (.cells #[.string a, .string b, .string c] 9)) fun e w' => e = .returned (.string (sm (a ++ b ++ c))) ∧ Below w.heap.size w w' := by
  have h := sum_new [a, b, c] w hT (by simp) (by rw [show [a, b, c].length = 3 from rfl, cat3, data_len]; omega);rw [show [a, b, c].length = 3 from rfl, cat3] at h;exact h
set_option maxRecDepth 100000 in
set_option maxHeartbeats 600000 in
theorem leaf_any (s : ByteArray) (w : World) (hs : s.size ≤ 90000) (hT : Sha.Tabs w) :
    Calls Tryz.prog 91 #[.string s] w fun e w' => e = .returned (.string (sm (c0 ++ s))) ∧ Below w.heap.size w w' := by
  refine Kn.calls Tryz.func91 rfl Tryz.ntmps91 rfl (.cons (t := 0) rfl .nil) fun fa0 fh0 => ?_;refine wp_seq_k fun K1 hK1 => ?_;refine wp_region_lit ?_;refine Kn.pure fh0 rfl rfl .none (Kn.ex_assign fh0 .const) fun fa1 fh1 => ?_;clear fh0 fa0;refine wpList_nil ?_;refine hK1 _ _ ?_;clear hK1 K1;have hs2 := Lib.hid (sum2 c0 s w hT (by rw [ByteArray.size_append]; show 1 + s.size ≤ 100000; omega));refine wp_seq_k fun K2 hK2 => ?_;refine wp_region_lit ?_;refine Kn.pure fh1 rfl rfl .none (Kn.ex_move fh1 (.tmp rfl)) fun fa2 fh2 => ?_;clear fh1 fa1;refine Kn.step fh2 rfl rfl .none (Kn.ex_buildSlice fh2 (.cons .const (.cons (.tmp rfl) .nil))) fun Ko hKo => ?_;go_simp;(try go_bits);refine hKo _ _ fun fa3 fh3 => ?_;clear hKo Ko fh2 fa2;refine Kn.call fh3 rfl rfl .none (Kn.ex_call fh3 (.cons (.tmp rfl) .nil)) Tryz.call74 (hs2.out) fun e w1 hp => ?_;obtain ⟨rfl, hb⟩ := hp;refine ⟨_, rfl, fun fa4 fh4 => ?_⟩;clear fh3 fa3;refine Kn.pure fh4 rfl rfl .none (Kn.ex_assign fh4 (.tmp rfl)) fun fa5 fh5 => ?_;clear fh4 fa4;refine wpList_nil ?_;refine hK2 _ _ ?_;clear hK2 K2;replace fh5 := fh5.cut (.cons (t := 2) rfl .nil);refine wp_ret ?_;exact Kn.ret1 fh5 rfl rfl ⟨rfl, hb⟩
set_option maxRecDepth 100000 in
set_option maxHeartbeats 600000 in
theorem node_any (a b : ByteArray) (w : World) (ha : a.size ≤ 40000) (hb' : b.size ≤ 40000) (hT : Sha.Tabs w) :
    Calls Tryz.prog 93 #[.string a, .string b] w fun e w' => e = .returned (.string (sm (c1 ++ a ++ b))) ∧ Below w.heap.size w w' := by
  refine Kn.calls Tryz.func93 rfl Tryz.ntmps93 rfl (.cons (t := 0) rfl (.cons (t := 1) rfl .nil)) fun fa0 fh0 => ?_;refine wp_seq_k fun K1 hK1 => ?_;refine wp_region_lit ?_;refine Kn.pure fh0 rfl rfl .none (Kn.ex_assign fh0 .const) fun fa1 fh1 => ?_;clear fh0 fa0;refine wpList_nil ?_;refine hK1 _ _ ?_;clear hK1 K1;have hs3 := Lib.hid (sum3 c1 a b w hT (by rw [ByteArray.size_append, ByteArray.size_append]; show 1 + a.size + b.size ≤ 100000; omega));refine wp_seq_k fun K2 hK2 => ?_;refine wp_region_lit ?_;refine Kn.pure fh1 rfl rfl .none (Kn.ex_move fh1 (.tmp rfl)) fun fa2 fh2 => ?_;clear fh1 fa1;refine Kn.pure fh2 rfl rfl .none (Kn.ex_move fh2 (.tmp rfl)) fun fa3 fh3 => ?_;clear fh2 fa2;refine Kn.step fh3 rfl rfl .none (Kn.ex_buildSlice fh3 (.cons .const (.cons (.tmp rfl) (.cons (.tmp rfl) .nil)))) fun Ko hKo => ?_;go_simp;(try go_bits);refine hKo _ _ fun fa4 fh4 => ?_;clear hKo Ko fh3 fa3;refine Kn.call fh4 rfl rfl .none (Kn.ex_call fh4 (.cons (.tmp rfl) .nil)) Tryz.call74 (hs3.out) fun e w1 hp => ?_;obtain ⟨rfl, hb⟩ := hp;refine ⟨_, rfl, fun fa5 fh5 => ?_⟩;clear fh4 fa4;refine Kn.pure fh5 rfl rfl .none (Kn.ex_assign fh5 (.tmp rfl)) fun fa6 fh6 => ?_;clear fh5 fa5;refine wpList_nil ?_;refine hK2 _ _ ?_;clear hK2 K2;replace fh6 := fh6.cut (.cons (t := 4) rfl .nil);refine wp_ret ?_;exact Kn.ret1 fh6 rfl rfl ⟨rfl, hb⟩
end Go.Proofs.YtbahklpdldghbaaGreatDoor.Mrk
end
section
namespace Go.Proofs.YtbahklpdldghbaaGreatDoor.Kn
open Go
section
variable {n : Nat} {l : List (Nat × Value)} {a : Act} {d : Option Tmp} {t : TypeId} {p : String} {af : Array Edge} {g : Option (Nat × Bool)} {x y z : Operand} {vx vy vz : Value}
theorem ex_makeMapN {e : TypeId} (h : Kn n l a) (hx : Val l x vx) : execOp a.eval ⟨d, .makeMap e (some x), t, p, af, g⟩ = vl (Instr.makeMap e (some vx)) := by simp only [execOp, Option.map, h.val hx]
theorem ex_mapPut {e : TypeId} (h : Kn n l a) (hx : Val l x vx) (hy : Val l y vy) (hz : Val l z vz) : execOp a.eval ⟨d, .mapUpdate e x y z, t, p, af, g⟩ = ul (Instr.mapUpdate e vx vy vz) := by simp only [execOp, h.val hx, h.val hy, h.val hz]
end
end Go.Proofs.YtbahklpdldghbaaGreatDoor.Kn
namespace Go.Proofs.YtbahklpdldghbaaGreatDoor.Mrk
open Go Go.RowKit Go.Lib Go.Maps
theorem laidOutS : laidOutB Tryz.prog = true := by kernel_rfl
theorem rowS : (157 : TypeId) < Tryz.prog.types.size := of_decide_eq_true (by kernel_rfl)
theorem deepS : Tryz.prog.keyTypeAt 2 157 = true := by kernel_rfl
set_option maxRecDepth 100000 in
theorem lawS : WideMaps.KeyLaw Tryz.prog 157 := deep_law_laid laidOutS (m := 2) (by omega) rowS deepS (by rw [Tryz.underlying157])
theorem kSpan : Keyed Tryz.prog 157 := Keyed.of_law lawS
def keyV (a b : Nat) : Value := .agg #[.int .i64 (a : Int), .int .i64 (b : Int)]
def digV (s : ByteArray) : Value := .agg #[.string s]
theorem keyV_inj {a b c d : Nat} (h : keyV a b = keyV c d) : a = c ∧ b = d := by
  unfold keyV at h;simp only [Value.agg.injEq, Array.mk.injEq, List.cons.injEq, Value.int.injEq] at h;omega
theorem keyS {a b : Nat} (ha : a ≤ 1000000) (hb : b ≤ 1000000) : ∃ l, keyOf Tryz.prog 157 (keyV a b) = some l := by
  have h1 : Tryz.prog.keyType 157 = true := by kernel_rfl
  have hc : Tryz.prog.cellsOf 157 = 2 := by kernel_rfl
  have hi : Tryz.prog.cellsOf 3 = 1 := by kernel_rfl
  have h2 : (keyV a b).formed Tryz.prog 157 = true := by simp [keyV, Value.formed, Tryz.underlying157, hc]
  obtain ⟨m, hm⟩ : ∃ m, Tryz.prog.types.size = m + 1 := ⟨Tryz.prog.types.size - 1, by kernel_rfl⟩;have w1 : (Lit.int .i64 (a : Int)).wf = true := WalkArith.wf_i64 (by omega);have w2 : (Lit.int .i64 (b : Int)).wf = true := WalkArith.wf_i64 (by omega)
  have h3 : Tryz.prog.keyLits (Tryz.prog.types.size + 1) 157 [.int .i64 (a : Int), .int .i64 (b : Int)] = some [.int .i64 (a : Int), .int .i64 (b : Int)] := by
    rw [hm];simp [Program.keyLits, Tryz.underlying157, Tryz.underlying3, hc, hi, w1, w2]
  refine ⟨.string (keyBytes [.int .i64 (a : Int), .int .i64 (b : Int)]), ?_⟩;unfold keyOf;rw [Tryz.underlying157];simp only [h1, h2, Bool.and_self, if_true];rw [show (keyV a b).cells.toList = [.int .i64 (a : Int), .int .i64 (b : Int)] by simp [keyV, Value.cells], h3]
  rfl
def MapAt (w : World) (g : Nat) (R : Nat → Nat → ByteArray) (p : Nat → Nat → Prop) : Prop := ∃ es clock, w.heap[g]? = some (.map es clock) ∧ (∀ e ∈ es.toList, ∃ a b : Nat, e.key = keyV a b ∧ a ≤ 1000000 ∧ b ≤ 1000000 ∧ e.val = digV (R a b)) ∧ ∀ a b, p a b → ∃ e ∈ es.toList, e.key = keyV a b
variable {w w' : World} {g : Nat} {R : Nat → Nat → ByteArray} {p q : Nat → Nat → Prop}
theorem MapAt.lt (h : MapAt w g R p) : g < w.heap.size := by
  obtain ⟨es, c, h1, _⟩ := h;exact (Array.getElem?_eq_some_iff.1 h1).1
theorem MapAt.at (h : MapAt w g R p) (e : w'.heap[g]? = w.heap[g]?) : MapAt w' g R p := by
  obtain ⟨es, c, h1, h2⟩ := h;exact ⟨es, c, e.trans h1, h2⟩
theorem MapAt.on (h : MapAt w g R p) (hb : Below w.heap.size w w') : MapAt w' g R p := h.at (hb.block g h.lt)
theorem MapAt.mono (h : MapAt w g R p) (hq : ∀ a b, q a b → p a b) : MapAt w g R q := by
  obtain ⟨es, c, h1, h2, h3⟩ := h;exact ⟨es, c, h1, h2, fun a b hab => h3 a b (hq a b hab)⟩
theorem MapAt.new (w : World) : MapAt (w.alloc (.map #[] 0)) w.heap.size R (fun _ _ => False) := ⟨#[], 0, heap_alloc_new w _, fun e he => by simp at he, fun a b h => h.elim⟩
theorem MapAt.has (h : MapAt w g R p) {a b : Nat} (hp : p a b) (ha : a ≤ 1000000) (hb : b ≤ 1000000) : (Instr.lookup 152 (.map (some g)) (keyV a b) false).run Tryz.prog w = .ok (digV (R a b)) w := by
  obtain ⟨es, c, hg, h1, h2⟩ := h;obtain ⟨l, hl⟩ := keyS ha hb;rcases kSpan.find w hl es.toList (fun e he => by obtain ⟨x, y, e1, e2, e3, _⟩ := h1 e he; rw [e1]; exact keyS e2 e3) with ⟨hf, hn⟩ | ⟨j, e0, hf, hj, hk⟩
  · obtain ⟨e, he, hk⟩ := h2 a b hp;exact absurd hk (hn e he)
  · obtain ⟨x, y, e1, _, _, e4⟩ := h1 e0 (List.mem_of_getElem? hj);obtain ⟨rfl, rfl⟩ := keyV_inj (e1.symm.trans hk);simp [Instr.lookup, run_underlying Tryz.underlying152, MapKept.run_getObj_map hg, kSpan.check w _ hl, hf, e4, Result.andThen]
theorem MapAt.put (h : MapAt w g R p) {a b : Nat} (ha : a ≤ 1000000) (hb : b ≤ 1000000) :
    ∃ w', (Instr.mapUpdate 152 (.map (some g)) (keyV a b) (digV (R a b))).run Tryz.prog w = .ok () w' ∧ MapAt w' g R (fun x y => (x = a ∧ y = b) ∨ p x y) ∧ (∀ k, k ≠ g → w'.heap[k]? = w.heap[k]?) ∧ w'.heap.size = w.heap.size ∧ ∀ B, B ≤ g → Below B w w' := by
  have hlt := h.lt;obtain ⟨es, c, hg, h1, h2⟩ := h;obtain ⟨l, hl⟩ := keyS ha hb
  have key : ∀ es' c', (Instr.mapUpdate 152 (.map (some g)) (keyV a b) (digV (R a b))).run Tryz.prog w = .ok () { w with heap := w.heap.setIfInBounds g (.map es' c') } →
      (∀ e ∈ es'.toList, ∃ a b : Nat, e.key = keyV a b ∧ a ≤ 1000000 ∧ b ≤ 1000000 ∧ e.val = digV (R a b)) → (∀ x y, ((x = a ∧ y = b) ∨ p x y) → ∃ e ∈ es'.toList, e.key = keyV x y) →
      ∃ w', (Instr.mapUpdate 152 (.map (some g)) (keyV a b) (digV (R a b))).run Tryz.prog w = .ok () w' ∧ MapAt w' g R (fun x y => (x = a ∧ y = b) ∨ p x y) ∧ (∀ k, k ≠ g → w'.heap[k]? = w.heap[k]?) ∧ w'.heap.size = w.heap.size ∧ ∀ B, B ≤ g → Below B w w' := fun es' c' hr k1 k2 => by
    refine ⟨_, hr, ⟨es', c', by simp [hlt], k1, k2⟩, fun b hne => by simp [Array.getElem?_setIfInBounds_ne (Ne.symm hne)], by simp, fun B hB => ⟨rfl, rfl, rfl, by simp, fun b hbB => ?_⟩⟩;simp only;rw [Array.getElem?_setIfInBounds_ne (by omega)]
  rcases kSpan.find w hl es.toList (fun e he => by obtain ⟨x, y, e1, e2, e3, _⟩ := h1 e he; rw [e1]; exact keyS e2 e3) with ⟨hf, hn⟩ | ⟨j, e0, hf, hj, hk⟩
  · refine key (es.push ⟨keyV a b, digV (R a b), c⟩) (c + 1) ?_ (fun e he => ?_) (fun x y hxy => ?_)
    · simp [Instr.mapUpdate, run_underlying Tryz.underlying152, MapKept.run_getObj_map hg, kSpan.check w false hl, hf, MapKept.run_setObj_map _ hg, Result.andThen]
    · simp only [Array.toList_push, List.mem_append, List.mem_singleton] at he;rcases he with he | rfl
      · exact h1 e he
      · exact ⟨a, b, rfl, ha, hb, rfl⟩
    · rcases hxy with ⟨rfl, rfl⟩ | hxy
      · exact ⟨⟨keyV x y, digV (R x y), c⟩, by simp, rfl⟩
      · obtain ⟨e, he, hk⟩ := h2 x y hxy;exact ⟨e, by simp [List.mem_append]; exact .inl (by simpa using he), hk⟩
  · obtain ⟨x0, y0, e1, e2, e3, e4⟩ := h1 e0 (List.mem_of_getElem? hj);obtain ⟨rfl, rfl⟩ := keyV_inj (e1.symm.trans hk);have hj2 : es[j]? = some e0 := by simpa using hj
    have hmod : es.modify j (fun e' => { e' with key := keyV x0 y0, val := digV (R x0 y0) }) = es := by
      apply Array.ext'
      rw [Array.toList_modify]
      apply List.ext_getElem?
      intro i;rw [List.getElem?_modify]
      by_cases hij : j = i
      · subst hij;simp only [if_true];rw [hj];obtain ⟨k0, v0, n0⟩ := e0;simp only at e1 e4;subst e1 e4
        rfl
      · simp [hij]
    refine key es c ?_ h1 (fun x y hxy => ?_)
    · have hst := kSpan.stays w hl;simp [Instr.mapUpdate, run_underlying Tryz.underlying152, MapKept.run_getObj_map hg, kSpan.check w false hl, hf, hj2, hk, hst, MapKept.run_setObj_map _ hg, Result.andThen, hmod]
    · rcases hxy with ⟨rfl, rfl⟩ | hxy
      · exact ⟨e0, List.mem_of_getElem? hj, e1⟩
      · exact h2 x y hxy
end Go.Proofs.YtbahklpdldghbaaGreatDoor.Mrk
end
section
namespace Go.Proofs.YtbahklpdldghbaaGreatDoor.Mrk
open Go Go.RowKit Go.Lib RowG
theorem MapAt.or {w : World} {g : Nat} {R : Nat → Nat → ByteArray} {p q : Nat → Nat → Prop} (h : MapAt w g R p) (k : MapAt w g R q) : MapAt w g R (fun a b => p a b ∨ q a b) := by
  obtain ⟨es, c, h1, h2, h3⟩ := h;obtain ⟨es', c', k1, k2, k3⟩ := k;have e := h1.symm.trans k1;simp only [Option.some.injEq, Obj.map.injEq] at e;obtain ⟨rfl, -⟩ := e;exact ⟨es, c, h1, h2, fun a b hab => hab.elim (h3 a b) (k3 a b)⟩
theorem MapAt.same {w w' : World} {g : Nat} {R : Nat → Nat → ByteArray} {q : Nat → Nat → Prop} {a b : Nat} (h : MapAt w g R q) (ha : a ≤ 1000000) (hb : b ≤ 1000000) (hr : (Instr.mapUpdate 152 (.map (some g)) (keyV a b) (digV (R a b))).run Tryz.prog w = .ok () w') : MapAt w' g R q := by
  obtain ⟨w2, hr2, hm, _⟩ := h.put ha hb;rw [hr] at hr2;injection hr2 with _ e
  subst e;exact hm.mono fun x y h => .inr h
structure LayIn (bl : List ByteArray) (A : Option Addr) (gt gm N : Nat) (u : World) : Prop where
  tabs : Sha.Tabs u
  tree : St.St u gt 154 #[.map (some gm), .int .i64 (N : Int)]
  row : RIn txR u A bl
  off : Off A gm
  ne : gt ≠ gm
  hg : 4 ≤ gm
  lt : gm < u.heap.size
theorem LayIn.only {bl : List ByteArray} {A : Option Addr} {gt gm N : Nat} {u u' : World} (h : LayIn bl A gt gm N u) (ho : Sha.Only gm u u') : LayIn bl A gt gm N u' :=
  ⟨h.tabs.only ho h.hg, (ho.block gt h.tree.lt h.ne).trans h.tree, fun i a hi => by
    obtain ⟨b, o, e, hlt, h1⟩ := h.row i a hi
    exact ⟨b, o, e, Nat.lt_of_lt_of_le hlt ho.size, fun j u hu => (ho.cell (p := ⟨b, o + (i * txR.size + j), none⟩) hlt (h.off ⟨b, o, none⟩ e)).trans (h1 j u hu)⟩, h.off, h.ne, h.hg, Nat.lt_of_lt_of_le h.lt ho.size⟩
theorem LayIn.on {bl : List ByteArray} {A : Option Addr} {gt gm N : Nat} {u u' : World} (h : LayIn bl A gt gm N u) (hb : Below u.heap.size u u') : LayIn bl A gt gm N u' := h.only (Sha.Only.of_below hb)
theorem LayIn.drew {bl : List ByteArray} {A : Option Addr} {gt gm N : Nat} {u : World} (h : LayIn bl A gt gm N u) : LayIn bl A gt gm N u.drew := h.only ⟨rfl, rfl, rfl, Nat.le_refl _, fun _ _ _ => rfl⟩
theorem St.only {w w' : World} {g b : Nat} {t : TypeId} {cs : Array Value} (h : St.St w g t cs) (ho : Sha.Only b w w') (hne : g ≠ b) : St.St w' g t cs := (ho.block g h.lt hne).trans h
def Subs (f n a b : Nat) : Prop := 2 ≤ n ∧ (InT f (hf n) a b ∨ InT (f + hf n) (n - hf n) a b)
theorem InT_subs {f n a b : Nat} (h : InT f n a b) : (a = f ∧ b = n) ∨ Subs f n a b := by
  rcases Nat.lt_or_ge n 2 with h2 | h2
  · exact .inl (InT_1 h2 h)
  · rcases (InT_2 h2).1 h with h | h
    · exact .inl h
    · exact .inr ⟨h2, h⟩
set_option maxRecDepth 100000 in
set_option maxHeartbeats 600000 in
theorem all_any (gt gm N : Nat) (w : World) (hS : St.St w gt 154 #[.map (some gm), .int .i64 (N : Int)]) :
    Calls Tryz.prog 73 #[.pointer (some ⟨gt, 0, none⟩)] w fun e w' => e = .returned (keyV 0 N) ∧ Below w.heap.size w w' := by
  refine Kn.calls Tryz.func73 rfl Tryz.ntmps73 rfl (.cons (t := 0) rfl .nil) fun fa0 fh0 => ?_;refine wp_seq_k fun K1 hK1 => ?_;refine wp_region_lit ?_;refine Kn.step fh0 rfl rfl .none Kn.ex_alloc fun Ko hKo => ?_;go_simp;(try go_bits);refine hKo _ _ fun fa1 fh1 => ?_;clear hKo Ko fh0 fa0;refine wpList_nil ?_;refine hK1 _ _ ?_;clear hK1 K1;refine Kn.gen (fun u => St.St u w.heap.size 157 #[.int .i64 0, .int .i64 0] ∧ Below w.heap.size w u) ⟨St.St.new _ _ _, (Below.refl _ w).alloc (Nat.le_refl _) _⟩ fun u hu => ?_;obtain ⟨g, hg⟩ : ∃ g, w.heap.size = g := ⟨_, rfl⟩;obtain ⟨hS0, hb0⟩ := hu;have hSt := hS.on hb0;have c1 := hSt.cell 1 rfl;have HB := Lib.hid (And.intro hb0 (Nat.le_of_eq hg));rw [hg] at hS0 fh1;obtain ⟨hst, hSn, hBn⟩ := hS0.store (P := Tryz.prog) (cells := #[.int .i64 ((0 : Nat) : Int), .int .i64 ((N : Nat) : Int)]) (by kernel_rfl) rfl (by simp [Value.oneCell']);clear hb0 hg hSt hS hS0;refine wp_seq_k fun K2 hK2 => ?_;refine wp_region_lit ?_;refine Kn.pure fh1 rfl rfl .none (Kn.ex_move fh1 (.tmp rfl)) fun fa2 fh2 => ?_;clear fh1 fa1;refine Kn.pure fh2 rfl rfl .none (Kn.ex_nilCheck fh2 (.tmp rfl)) fun fa3 fh3 => ?_;clear fh2 fa2;refine Kn.step fh3 rfl rfl .none (Kn.ex_fieldAddr fh3 (.tmp rfl)) fun Ko hKo => ?_;go_simp;(try go_bits);refine hKo _ _ fun fa4 fh4 => ?_;clear hKo Ko fh3 fa3;refine Kn.step fh4 rfl rfl .none (Kn.ex_load fh4 (.tmp rfl)) fun Ko hKo => ?_;go_simp;(try go_bits);refine hKo _ _ fun fa5 fh5 => ?_;clear hKo Ko fh4 fa4;refine Kn.step fh5 rfl rfl .none (Kn.ex_build fh5 (.cons .const (.cons (.tmp rfl) .nil))) fun Ko hKo => ?_;go_simp;(try go_bits);refine hKo _ _ fun fa6 fh6 => ?_;clear hKo Ko fh5 fa5;refine Kn.stepU fh6 rfl .none (Kn.ex_store fh6 (.tmp rfl) (.tmp rfl)) fun Ko hKo => ?_;refine Kn.satU_runA hst ?_;refine hKo _ ?_;clear hKo Ko;refine wpList_nil ?_;refine hK2 _ _ ?_;clear hK2 K2;replace fh6 := fh6.cut (.cons (t := 2) rfl .nil);refine wp_ret ?_;exact Kn.retS fh6 rfl rfl hSn Tryz.underlying157 rfl (by kernel_rfl) ⟨rfl, HB.out.1.trans (hBn _ HB.out.2)⟩
set_option maxRecDepth 100000 in
set_option maxHeartbeats 600000 in
theorem part_any (gt gm N a b : Nat) (R : Nat → Nat → ByteArray) (p : Nat → Nat → Prop) (w : World) (hS : St.St w gt 154 #[.map (some gm), .int .i64 (N : Int)]) (hM : MapAt w gm R p) (hp : p a b) (ha : a ≤ 1000000) (hb : b ≤ 1000000) (hR : (R a b).size ≤ 32) :
    Calls Tryz.prog 75 #[.pointer (some ⟨gt, 0, none⟩), .agg #[.int .i64 ((a : Nat) : Int), .int .i64 ((b : Nat) : Int)]] w fun e w' => e = .returned (.string (R a b)) ∧ Below w.heap.size w w' := by
  refine Kn.calls Tryz.func75 rfl Tryz.ntmps75 rfl (.cons (t := 0) rfl (.cons (t := 1) rfl .nil)) fun fa0 fh0 => ?_;refine wp_seq_k fun K1 hK1 => ?_;refine wp_region_lit ?_;refine Kn.step fh0 rfl rfl .none (Kn.ex_box fh0 (.tmp rfl)) fun Ko hKo => ?_;go_simp;(try go_bits);refine hKo _ _ fun fa1 fh1 => ?_;clear hKo Ko fh0 fa0;refine Kn.pure fh1 rfl rfl .none (Kn.ex_assign fh1 .const) fun fa2 fh2 => ?_;clear fh1 fa1;refine wpList_nil ?_;refine hK1 _ _ ?_;clear hK1 K1;replace fh2 := fh2.cut (.cons (t := 4) rfl (.cons (t := 3) rfl (.cons (t := 0) rfl .nil)));refine Kn.gen (fun u => St.St u w.heap.size 157 #[.int .i64 ((a : Nat) : Int), .int .i64 ((b : Nat) : Int)] ∧ Below w.heap.size w u) ⟨St.St.new _ _ _, (Below.refl _ w).alloc (Nat.le_refl _) _⟩ fun u hu => ?_;obtain ⟨g, hg⟩ : ∃ g, w.heap.size = g := ⟨_, rfl⟩;obtain ⟨hS0, hb0⟩ := hu;have c0 := (hS.on hb0).drew.cell 0 rfl;have hhas : (Instr.lookup 152 (.map (some gm)) (.agg #[.int .i64 ((a : Nat) : Int), .int .i64 ((b : Nat) : Int)]) false).run Tryz.prog u.drew = .ok (.agg #[.string (R a b)]) u.drew := ((hM.on hb0).at (w' := u.drew) rfl).has hp ha hb;have hcl := Lib.hid (fun v => Blk.clone_any (R a b) v (by omega));have HB := Lib.hid hb0;rw [hg] at hS0 fh2;have hld := loadS hS0.drew Tryz.underlying157 rfl (by kernel_rfl);clear hb0 hg hS0;refine wp_seq_k fun K2 hK2 => ?_;refine Kn.tail 7 (by kernel_rfl) (by kernel_rfl) rfl rfl ?_;refine Kn.spure fh2 rfl rfl .none (Kn.ex_move fh2 (.tmp rfl)) fun fa3 fh3 => ?_;clear fh2 fa2;refine Kn.spure fh3 rfl rfl .none (Kn.ex_nilCheck fh3 (.tmp rfl)) fun fa4 fh4 => ?_;clear fh3 fa3;refine Kn.sstep fh4 rfl rfl .none (Kn.ex_fieldAddr fh4 (.tmp rfl)) fun Ko hKo => ?_;go_simp;(try go_bits);refine hKo _ fun fa5 fh5 => ?_;clear hKo Ko fh4 fa4;refine Kn.sstep fh5 rfl rfl .none (Kn.ex_load fh5 (.tmp rfl)) fun Ko hKo => ?_;go_simp;(try go_bits);refine hKo _ fun fa6 fh6 => ?_;clear hKo Ko fh5 fa5;refine Kn.sstep fh6 rfl rfl .none (Kn.ex_load fh6 (.tmp rfl)) fun Ko hKo => ?_;rw [hld];refine hKo _ fun fa7 fh7 => ?_;clear hKo Ko fh6 fa6;refine Kn.sstep fh7 rfl rfl .none (Kn.ex_lookup fh7 (.tmp rfl) (.tmp rfl)) fun Ko hKo => ?_;rw [hhas];refine hKo _ fun fa8 fh8 => ?_;clear hKo Ko fh7 fa7;refine Kn.sstep fh8 rfl rfl .none (Kn.ex_field fh8 (.tmp rfl)) fun Ko hKo => ?_;go_simp;(try go_bits);refine hKo _ fun fa9 fh9 => ?_;clear hKo Ko fh8 fa8;refine wpStill_nil ?_;refine Kn.call fh9 rfl rfl .none (Kn.ex_call fh9 (.cons (.tmp rfl) .nil)) Tryz.call49 (hcl.out _) fun e w1 hp => ?_;obtain ⟨rfl, hb1⟩ := hp;refine ⟨_, rfl, fun fa10 fh10 => ?_⟩;clear fh9 fa9;refine Kn.pure fh10 rfl rfl .none (Kn.ex_assign fh10 (.tmp rfl)) fun fa11 fh11 => ?_;clear fh10 fa10;refine wpList_nil ?_;refine hK2 _ _ ?_;clear hK2 K2;replace fh11 := fh11.cut (.cons (t := 4) rfl .nil);refine wp_ret ?_;exact Kn.ret1 fh11 rfl rfl ⟨rfl, HB.out.trans (Below.mono (Own.undrew hb1) HB.out.size)⟩
set_option maxRecDepth 100000 in
set_option maxHeartbeats 600000 in
theorem lay_any (bl : List ByteArray) (A : Option Addr) (c gt gm N : Nat) (hN : bl.length ≤ 1000000) (hsz : ∀ b ∈ bl, b.size ≤ 300) (_hbc : bl.length ≤ c) (_hcm : c ≤ maxLen) : ∀ (n f : Nat) (p : Nat → Nat → Prop) (w : World), 1 ≤ n → f + n ≤ bl.length → LayIn bl A gt gm N w → MapAt w gm (Rt bl) p →
    Calls Tryz.prog 72 #[.pointer (some ⟨gt, 0, none⟩), .agg #[.int .i64 ((f : Nat) : Int), .int .i64 ((n : Nat) : Int)], .slice A bl.length c] w fun e w' => e = .returned (.string (Rt bl f n)) ∧ MapAt w' gm (Rt bl) (InT f n) ∧ (∀ q, MapAt w gm (Rt bl) q → MapAt w' gm (Rt bl) q) ∧ Sha.Only gm w w' := by
  intro n
  induction n using Nat.strongRecOn with
  | _ n ih0 =>
  intro f p w hn0 hfn hL hM;have ih : ∀ m, m < n → ∀ (f : Nat) (p : Nat → Nat → Prop) (w : World), 1 ≤ m → f + m ≤ bl.length → LayIn bl A gt gm N w → MapAt w gm (Rt bl) p → Calls Tryz.prog 72 #[.pointer (some ⟨gt, 0, none⟩), .agg #[.int .i64 ((f : Nat) : Int), .int .i64 ((m : Nat) : Int)], .slice A bl.length c] w fun e w' => e = .returned (.string (Rt bl f m)) ∧ MapAt w' gm (Rt bl) (InT f m) ∧ (∀ q, MapAt w gm (Rt bl) q → MapAt w' gm (Rt bl) q) ∧ Sha.Only gm w w' := ih0;clear ih0;refine Kn.calls Tryz.func72 rfl Tryz.ntmps72 rfl (.cons (t := 0) rfl (.cons (t := 1) rfl (.cons (t := 2) rfl .nil))) fun fa0 fh0 => ?_;refine wp_seq_k fun K1 hK1 => ?_;refine wp_region_lit ?_;refine Kn.step fh0 rfl rfl .none (Kn.ex_box fh0 (.tmp rfl)) fun Ko hKo => ?_;go_simp;(try go_bits);refine hKo _ _ fun fa1 fh1 => ?_;clear hKo Ko fh0 fa0;refine Kn.pure fh1 rfl rfl .none (Kn.ex_assign fh1 .const) fun fa2 fh2 => ?_;clear fh1 fa1;refine wpList_nil ?_;refine hK1 _ _ ?_;clear hK1 K1;replace fh2 := fh2.cut (.cons (t := 6) rfl (.cons (t := 4) rfl (.cons (t := 0) rfl (.cons (t := 2) rfl .nil))));refine Kn.gen (fun u => St.St u w.heap.size 157 #[.int .i64 ((f : Nat) : Int), .int .i64 ((n : Nat) : Int)] ∧ Below w.heap.size w u) ⟨St.St.new _ _ _, (Below.refl _ w).alloc (Nat.le_refl _) _⟩ fun u hu => ?_;obtain ⟨g4, hg⟩ : ∃ g, w.heap.size = g := ⟨_, rfl⟩;obtain ⟨hS4, hb0⟩ := hu;have hLu := hL.on hb0;have hgm4 : g4 ≠ gm := by have := hL.lt; omega
  rw [hg] at hS4 fh2;have HM0 : Hid (MapAt u gm (Rt bl) p) := Lib.hid (hM.on hb0);have HB : Hid (Sha.Only gm w u ∧ ∀ q, MapAt w gm (Rt bl) q → MapAt u gm (Rt bl) q) := Lib.hid ⟨Sha.Only.of_below hb0, fun q h => h.on hb0⟩;clear hg hb0 hM hL;refine wp_seq_k fun K2 hK2 => ?_;refine wp_region_lit ?_;refine Kn.pure fh2 rfl rfl .none (Kn.ex_assign fh2 .const) fun fa3 fh3 => ?_;clear fh2 fa2;refine wpList_nil ?_;refine hK2 _ _ ?_;clear hK2 K2;refine wp_seq_k fun K3 hK3 => ?_;refine Kn.join (fun fr v => Kn.Kn 41 [(0, .pointer (some ⟨gt, 0, none⟩)), (4, .pointer (some ⟨g4, 0, none⟩)), (7, .string (Rt bl f n))] fr ∧ Hid ((fun v => LayIn bl A gt gm N v ∧ St.St v g4 157 #[.int .i64 ((f : Nat) : Int), .int .i64 ((n : Nat) : Int)] ∧ MapAt v gm (Rt bl) (Subs f n) ∧ (∀ q, MapAt u gm (Rt bl) q → MapAt v gm (Rt bl) q) ∧ Sha.Only gm u v) v)) ?_ ?_
  · have c1 := hS4.cell 1 rfl
    by_cases hn1 : n = 1
    · subst hn1;have hflt : f < bl.length := by omega
      obtain ⟨s, hs⟩ : ∃ s, bl[f]? = some s := ⟨bl[f]'(by omega), List.getElem?_eq_getElem (by omega)⟩;have hss := hsz s (List.mem_of_getElem? hs);have hlf : Calls Tryz.prog 91 #[.string s] u fun e v => e = .returned (.string (Rt bl f 1)) ∧ Below u.heap.size u v := by rw [Rt_1 hs]; exact leaf_any s u (by omega) hLu.tabs
      obtain ⟨ba, oa, rfl, -, cx⟩ := txc hLu.row hs;have c0 := hS4.cell 0 rfl;have HLF := Lib.hid hlf;have HL := Lib.hid hLu;have HS := Lib.hid hS4;clear hlf hs hLu hS4;refine wp_seq_k fun K4 hK4 => ?_;refine wp_region_lit ?_;refine Kn.step fh3 rfl rfl .none (Kn.ex_fieldAddr fh3 (.tmp rfl)) fun Ko hKo => ?_;go_simp;(try go_bits);refine hKo _ _ fun fa4 fh4 => ?_;clear hKo Ko fh3 fa3;refine Kn.step fh4 rfl rfl .none (Kn.ex_load fh4 (.tmp rfl)) fun Ko hKo => ?_;go_simp;(try go_bits);refine hKo _ _ fun fa5 fh5 => ?_;clear hKo Ko fh4 fa4;refine Kn.step fh5 rfl rfl .none (Kn.ex_bin fh5 (.tmp rfl) .const) fun Ko hKo => ?_;go_simp;(try go_bits);refine hKo _ _ fun fa6 fh6 => ?_;clear hKo Ko fh5 fa5;refine wpList_nil ?_;refine hK4 _ _ ?_;clear hK4 K4;replace fh6 := fh6.cut (.cons (t := 12) rfl (.cons (t := 7) rfl (.cons (t := 4) rfl (.cons (t := 0) rfl (.cons (t := 2) rfl .nil)))));refine Kn.yes fh6 (.tmp rfl) ?_;replace fh6 := fh6.cut (.cons (t := 7) rfl (.cons (t := 4) rfl (.cons (t := 0) rfl (.cons (t := 2) rfl .nil))));refine wp_region_lit ?_;refine Kn.pure fh6 rfl rfl .none (Kn.ex_move fh6 (.tmp rfl)) fun fa7 fh7 => ?_;clear fh6 fa6;refine Kn.step fh7 rfl rfl .none (Kn.ex_fieldAddr fh7 (.tmp rfl)) fun Ko hKo => ?_;go_simp;(try go_bits);refine hKo _ _ fun fa8 fh8 => ?_;clear hKo Ko fh7 fa7;refine Kn.step fh8 rfl rfl .none (Kn.ex_load fh8 (.tmp rfl)) fun Ko hKo => ?_;go_simp;(try go_bits);refine hKo _ _ fun fa9 fh9 => ?_;clear hKo Ko fh8 fa8;refine Kn.step fh9 rfl rfl .none (Kn.ex_indexAddr fh9 (.tmp rfl) (.tmp rfl)) fun Ko hKo => ?_;go_simp;(try go_bits);refine hKo _ _ fun fa10 fh10 => ?_;clear hKo Ko fh9 fa9;refine Kn.step fh10 rfl rfl .none (Kn.ex_load fh10 (.tmp rfl)) fun Ko hKo => ?_;go_simp;(try go_bits);refine hKo _ _ fun fa11 fh11 => ?_;clear hKo Ko fh10 fa10;refine Kn.call fh11 rfl rfl .none (Kn.ex_call fh11 (.cons (.tmp rfl) .nil)) Tryz.call91 (HLF.out) fun e v hp => ?_;obtain ⟨rfl, hb⟩ := hp;refine ⟨_, rfl, fun fa12 fh12 => ?_⟩;clear fh11 fa11;refine Kn.pure fh12 rfl rfl .none (Kn.ex_assign fh12 (.tmp rfl)) fun fa13 fh13 => ?_;clear fh12 fa12;refine wpList_nil ?_;replace fh13 := fh13.cut (.cons (t := 7) rfl (.cons (t := 4) rfl (.cons (t := 0) rfl .nil)));exact ⟨fh13.cut (.cons (t := 0) rfl (.cons (t := 4) rfl (.cons (t := 7) rfl .nil))), Lib.hid ⟨HL.out.on hb, HS.out.on hb, ((HM0.out.on hb).mono fun a b h => absurd h.1 (by omega)), fun q h => h.on hb, Sha.Only.of_below hb⟩⟩
    have h2 : 2 ≤ n := by omega
    have e1 : ((n : Int) == 1) = false := by rw [beq_eq_false_iff_ne]; omega
    refine wp_seq_k fun K4 hK4 => ?_;refine wp_region_lit ?_;refine Kn.step fh3 rfl rfl .none (Kn.ex_fieldAddr fh3 (.tmp rfl)) fun Ko hKo => ?_;go_simp;(try go_bits);refine hKo _ _ fun fa4 fh4 => ?_;clear hKo Ko fh3 fa3;refine Kn.step fh4 rfl rfl .none (Kn.ex_load fh4 (.tmp rfl)) fun Ko hKo => ?_;go_simp;(try go_bits);refine hKo _ _ fun fa5 fh5 => ?_;clear hKo Ko fh4 fa4;refine Kn.step fh5 rfl rfl .none (Kn.ex_bin fh5 (.tmp rfl) .const) fun Ko hKo => ?_;go_simp;(try go_bits);refine hKo _ _ fun fa6 fh6 => ?_;clear hKo Ko fh5 fa5;refine wpList_nil ?_;refine hK4 _ _ ?_;clear hK4 K4;replace fh6 := fh6.cut (.cons (t := 12) rfl (.cons (t := 7) rfl (.cons (t := 4) rfl (.cons (t := 0) rfl (.cons (t := 2) rfl .nil)))));clear e1 c1;refine Kn.no fh6 (.tmp rfl) ?_;replace fh6 := fh6.cut (.cons (t := 7) rfl (.cons (t := 4) rfl (.cons (t := 0) rfl (.cons (t := 2) rfl .nil))));obtain ⟨k, hk⟩ : ∃ k, hf n = k := ⟨_, rfl⟩;obtain ⟨s, hs⟩ : ∃ s, f + k = s := ⟨_, rfl⟩;obtain ⟨r, hr⟩ : ∃ r, n - k = r := ⟨_, rfl⟩;have hkk := hf_in h2;rw [hk] at hkk;have hsp := split_any f n u h2 (by omega) (by omega);rw [← hf_hp h2, hk, hs, hr] at hsp;have hsplit : Rt bl f n = sm (c1 ++ Rt bl f k ++ Rt bl s r) := by rw [Rt_2 h2 hfn, hk, hs, hr]
    have hsub : ∀ a b, InT f k a b ∨ InT s r a b → Subs f n a b ∨ False := fun a b h => .inl ⟨h2, by rw [hk, hs, hr]; exact h⟩;have hsub2 : ∀ a b, Subs f n a b → InT f k a b ∨ InT s r a b := fun a b h => by have := h.2; rwa [hk, hs, hr] at this
    have HSPL := Lib.hid hsplit;have HSUB := Lib.hid hsub2;have hih1 := fun v p h1 h2 => ih k (by omega) f p v (by omega) (by omega) h1 h2;have hih2 := fun v p h1 h2 => ih r (by omega) s p v (by omega) (by omega) h1 h2;replace hih1 := Lib.hid hih1;replace hih2 := Lib.hid hih2;have hlo := Lib.hid (loadS hS4 Tryz.underlying157 rfl (by kernel_rfl));have HL := Lib.hid hLu;have HS4 := Lib.hid hS4;have hgl : gm < u.heap.size ∧ g4 < u.heap.size := ⟨hLu.lt, hS4.lt⟩;have HGL := Lib.hid hgl;clear hsplit hsub hsub2 hk hs hr hkk h2 hn1 hLu hS4 hgl ih;refine wp_seq_k fun K5 hK5 => ?_;refine wp_region_lit ?_;refine Kn.known fh6 rfl rfl .none (Kn.ex_load fh6 (.tmp rfl)) hlo.out fun fa7 fh7 => ?_;clear fh6 fa6;clear hlo;refine Kn.call fh7 rfl rfl .none (Kn.ex_call fh7 (.cons (.tmp rfl) .nil)) Tryz.call92 (hsp) fun e v1 hp => ?_;obtain ⟨rfl, hbs⟩ := hp;refine ⟨_, rfl, fun fa8 fh8 => ?_⟩;clear fh7 fa7;refine Kn.pure fh8 rfl rfl .none (Kn.ex_move fh8 (.tmp rfl)) fun fa9 fh9 => ?_;clear fh8 fa8;refine Kn.pure fh9 rfl rfl .none (Kn.ex_extract fh9 (.tmp rfl) rfl) fun fa10 fh10 => ?_;clear fh9 fa9;refine Kn.pure fh10 rfl rfl .none (Kn.ex_extract fh10 (.tmp rfl) rfl) fun fa11 fh11 => ?_;clear fh10 fa10;refine Kn.step fh11 rfl rfl .none Kn.ex_alloc fun Ko hKo => ?_;go_simp;(try go_bits);refine hKo _ _ fun fa12 fh12 => ?_;clear hKo Ko fh11 fa11;refine Kn.step fh12 rfl rfl .none Kn.ex_alloc fun Ko hKo => ?_;go_simp;(try go_bits);refine hKo _ _ fun fa13 fh13 => ?_;clear hKo Ko fh12 fa12;have hv1 := hbs.size;refine Kn.genL (fun x => St.St x v1.heap.size 157 #[.int .i64 0, .int .i64 0] ∧ St.St x (v1.heap.size + 1) 157 #[.int .i64 0, .int .i64 0] ∧ Below u.heap.size u x) ⟨(St.St.new v1 _ _).alloc _, (by have := St.St.new (v1.alloc (.cells #[.int .i64 0, .int .i64 0] 157)) 157 #[.int .i64 0, .int .i64 0]; simpa using this), (hbs.alloc hv1 _).alloc (by simp; omega) _⟩ fun v3 hv3 => ?_;clear hbs hsp;obtain ⟨g8, hg8⟩ : ∃ k, v1.heap.size = k := ⟨_, rfl⟩;obtain ⟨g9, hg9⟩ : ∃ k, g8 + 1 = k := ⟨_, rfl⟩;rw [hg8, hg9] at hv3 fh13;have hne89 : g8 ≠ g9 := by omega
    have hv8 : u.heap.size ≤ g8 := by omega
    have hv9 : u.heap.size ≤ g9 := by omega
    clear hg8 hg9 hv1;obtain ⟨hS8, hS9, hBv⟩ := hv3;obtain ⟨hst, hSn, hBn⟩ := hS8.store (P := Tryz.prog) (cells := #[.int .i64 ((f : Nat) : Int), .int .i64 ((k : Nat) : Int)]) (by kernel_rfl) rfl (by simp [Value.oneCell']);refine Kn.stepU fh13 rfl .none (Kn.ex_store fh13 (.tmp rfl) (.tmp rfl)) fun Ko hKo => ?_;refine Kn.satU_runA hst ?_;refine hKo _ ?_;clear hKo Ko;refine Kn.genL (fun x => St.St x g8 157 #[.int .i64 ((f : Nat) : Int), .int .i64 ((k : Nat) : Int)] ∧ St.St x g9 157 #[.int .i64 0, .int .i64 0] ∧ Below u.heap.size u x) ⟨hSn, hS9.setRow (Ne.symm hne89) _, hBv.trans (hBn _ hv8)⟩ fun v4 huv4 => ?_;clear hst hSn hBn hS8 hS9 hBv;obtain ⟨hS8, hS9, hBv⟩ := huv4;obtain ⟨hst, hSn, hBn⟩ := hS9.store (P := Tryz.prog) (cells := #[.int .i64 ((s : Nat) : Int), .int .i64 ((r : Nat) : Int)]) (by kernel_rfl) rfl (by simp [Value.oneCell']);refine Kn.stepU fh13 rfl .none (Kn.ex_store fh13 (.tmp rfl) (.tmp rfl)) fun Ko hKo => ?_;refine Kn.satU_runA hst ?_;refine hKo _ ?_;clear hKo Ko;refine Kn.genL (fun x => St.St x g8 157 #[.int .i64 ((f : Nat) : Int), .int .i64 ((k : Nat) : Int)] ∧ St.St x g9 157 #[.int .i64 ((s : Nat) : Int), .int .i64 ((r : Nat) : Int)] ∧ Below u.heap.size u x) ⟨hS8.setRow hne89 _, hSn, hBv.trans (hBn _ hv9)⟩ fun v5 huv5 => ?_;clear hst hSn hBn hS9 hS8 hBv;obtain ⟨hS8, hS9, hBv⟩ := huv5;refine wpList_nil ?_;refine hK5 _ _ ?_;clear hK5 K5;replace fh13 := fh13.cut (.cons (t := 9) rfl (.cons (t := 8) rfl (.cons (t := 7) rfl (.cons (t := 4) rfl (.cons (t := 0) rfl (.cons (t := 2) rfl .nil))))));have hne8 : g8 ≠ gm := by have := HGL.out; omega
    have hne9 : g9 ≠ gm := by have := HGL.out; omega
    have HV5 : Hid (LayIn bl A gt gm N v5 ∧ St.St v5 g8 157 #[.int .i64 ((f : Nat) : Int), .int .i64 ((k : Nat) : Int)] ∧ St.St v5 g9 157 #[.int .i64 ((s : Nat) : Int), .int .i64 ((r : Nat) : Int)] ∧ St.St v5 g4 157 #[.int .i64 ((f : Nat) : Int), .int .i64 ((n : Nat) : Int)] ∧ (∀ q, MapAt u gm (Rt bl) q → MapAt v5 gm (Rt bl) q) ∧ Sha.Only gm u v5) := Lib.hid ⟨HL.out.on hBv, hS8, hS9, HS4.out.on hBv, fun q h => h.on hBv, Sha.Only.of_below hBv⟩;clear hS8 hS9 hBv hne89 hv8 hv9;replace fh13 := fh13.cut (.cons (t := 9) rfl (.cons (t := 8) rfl (.cons (t := 4) rfl (.cons (t := 0) rfl (.cons (t := 2) rfl .nil)))));refine Kn.any (fun x => LayIn bl A gt gm N x ∧ St.St x g8 157 #[.int .i64 ((f : Nat) : Int), .int .i64 ((k : Nat) : Int)] ∧ St.St x g9 157 #[.int .i64 ((s : Nat) : Int), .int .i64 ((r : Nat) : Int)] ∧ St.St x g4 157 #[.int .i64 ((f : Nat) : Int), .int .i64 ((n : Nat) : Int)] ∧ (∀ q, MapAt u gm (Rt bl) q → MapAt x gm (Rt bl) q) ∧ Sha.Only gm u x) (fun x x' => ∀ q, MapAt x gm (Rt bl) q → MapAt x' gm (Rt bl) q) (Kn.TL [Kn.Is (.pointer (some ⟨gt, 0, none⟩)), Kn.Is (.agg #[.int .i64 ((f : Nat) : Int), .int .i64 ((k : Nat) : Int)]), Kn.Is (.slice A bl.length c), (fun (v : Value) (x : World) => v = .string (Rt bl f k) ∧ MapAt x gm (Rt bl) (InT f k)), Kn.Is (.pointer (some ⟨gt, 0, none⟩)), Kn.Is (.agg #[.int .i64 ((s : Nat) : Int), .int .i64 ((r : Nat) : Int)]), Kn.Is (.slice A bl.length c), (fun (v : Value) (x : World) => v = .string (Rt bl s r) ∧ MapAt x gm (Rt bl) (InT s r)), (fun (v : Value) (x : World) => v = .string (Rt bl f n) ∧ MapAt x gm (Rt bl) (InT f k) ∧ MapAt x gm (Rt bl) (InT s r)), (fun (v : Value) (x : World) => v = .string (Rt bl f n) ∧ MapAt x gm (Rt bl) (InT f k) ∧ MapAt x gm (Rt bl) (InT s r))]) (by kernel_rfl) fh13 (by kernel_rfl) (by kernel_rfl) rfl (Kn.Keeps.all (.cons Kn.Is.keep (.cons Kn.Is.keep (.cons Kn.Is.keep (.cons (fun _ _ _ hG h => ⟨h.1, hG _ h.2⟩) (.cons Kn.Is.keep (.cons Kn.Is.keep (.cons Kn.Is.keep (.cons (fun _ _ _ hG h => ⟨h.1, hG _ h.2⟩) (.cons (fun _ _ _ hG h => ⟨h.1, hG _ h.2.1, hG _ h.2.2⟩) (.cons (fun _ _ _ hG h => ⟨h.1, hG _ h.2.1, hG _ h.2.2⟩) .nil))))))))))) ⟨HV5.out.1.drew, HV5.out.2.1.drew, HV5.out.2.2.1.drew, HV5.out.2.2.2.1.drew, fun q h => (HV5.out.2.2.2.2.1 q h).at rfl, HV5.out.2.2.2.2.2.drew⟩ ⟨?_, ?_, ?_, ?_, ?_, ?_, ?_, ?_, ?_, ?_, trivial⟩ ?_
    · refine Kn.ok fun fa14 x L fh14 hS hH => ?_;exact Kn.apure fh14 .none (Kn.ex_move fh14 (.tmp rfl)) rfl hS (fun _ h => h)
    · refine Kn.ok fun fa14 x L fh14 hS hH => ?_;have hld := loadS hS.2.1 Tryz.underlying157 rfl (by kernel_rfl);exact Kn.aop fh14 .none (Kn.ex_load fh14 (.tmp rfl)) fun Ko hKo => by rw [hld]; exact hKo _ _ rfl hS (fun _ h => h)
    · refine Kn.ok fun fa14 x L fh14 hS hH => ?_;exact Kn.apure fh14 .none (Kn.ex_move fh14 (.tmp rfl)) rfl hS (fun _ h => h)
    · refine Kn.ok fun fa14 x L fh14 hS hH => ?_;replace fh14 := fh14.more (show fa14.eval (.tmp 24) = .pointer (some ⟨gt, 0, none⟩) from hH 0 24 rfl rfl);replace fh14 := fh14.more (show fa14.eval (.tmp 25) = .agg #[.int .i64 ((f : Nat) : Int), .int .i64 ((k : Nat) : Int)] from hH 1 25 rfl rfl);replace fh14 := fh14.more (show fa14.eval (.tmp 26) = .slice A bl.length c from hH 2 26 rfl rfl);refine Kn.acall fh14 .none (Kn.ex_call fh14 (.cons (.tmp rfl) (.cons (.tmp rfl) (.cons (.tmp rfl) .nil)))) Tryz.call72 (hih1.out _ _ hS.1 (hS.2.2.2.2.1 _ HM0.out)) fun e x2 hp => ?_;obtain ⟨rfl, hm, hmo, ho⟩ := hp;exact ⟨_, rfl, ⟨rfl, hm⟩, ⟨hS.1.only ho, St.only hS.2.1 ho hne8, St.only hS.2.2.1 ho hne9, St.only hS.2.2.2.1 ho hgm4, fun q h => hmo q (hS.2.2.2.2.1 q h), hS.2.2.2.2.2.trans ho⟩, hmo⟩
    · refine Kn.ok fun fa14 x L fh14 hS hH => ?_;exact Kn.apure fh14 .none (Kn.ex_move fh14 (.tmp rfl)) rfl hS (fun _ h => h)
    · refine Kn.ok fun fa14 x L fh14 hS hH => ?_;have hld := loadS hS.2.2.1 Tryz.underlying157 rfl (by kernel_rfl);exact Kn.aop fh14 .none (Kn.ex_load fh14 (.tmp rfl)) fun Ko hKo => by rw [hld]; exact hKo _ _ rfl hS (fun _ h => h)
    · refine Kn.ok fun fa14 x L fh14 hS hH => ?_;exact Kn.apure fh14 .none (Kn.ex_move fh14 (.tmp rfl)) rfl hS (fun _ h => h)
    · refine Kn.ok fun fa14 x L fh14 hS hH => ?_;replace fh14 := fh14.more (show fa14.eval (.tmp 28) = .pointer (some ⟨gt, 0, none⟩) from hH 4 28 rfl rfl);replace fh14 := fh14.more (show fa14.eval (.tmp 29) = .agg #[.int .i64 ((s : Nat) : Int), .int .i64 ((r : Nat) : Int)] from hH 5 29 rfl rfl);replace fh14 := fh14.more (show fa14.eval (.tmp 30) = .slice A bl.length c from hH 6 30 rfl rfl);refine Kn.acall fh14 .none (Kn.ex_call fh14 (.cons (.tmp rfl) (.cons (.tmp rfl) (.cons (.tmp rfl) .nil)))) Tryz.call72 (hih2.out _ _ hS.1 (hS.2.2.2.2.1 _ HM0.out)) fun e x2 hp => ?_;obtain ⟨rfl, hm, hmo, ho⟩ := hp;exact ⟨_, rfl, ⟨rfl, hm⟩, ⟨hS.1.only ho, St.only hS.2.1 ho hne8, St.only hS.2.2.1 ho hne9, St.only hS.2.2.2.1 ho hgm4, fun q h => hmo q (hS.2.2.2.2.1 q h), hS.2.2.2.2.2.trans ho⟩, hmo⟩
    · refine Kn.ok fun fa14 x L fh14 hS hH => ?_;obtain ⟨e27, hm027⟩ : (fun (v : Value) (x : World) => v = .string (Rt bl f k) ∧ MapAt x gm (Rt bl) (InT f k)) (fa14.eval (.tmp 27)) x := hH 3 27 rfl rfl;replace fh14 := fh14.more e27;clear e27;obtain ⟨e31, hm031⟩ : (fun (v : Value) (x : World) => v = .string (Rt bl s r) ∧ MapAt x gm (Rt bl) (InT s r)) (fa14.eval (.tmp 31)) x := hH 7 31 rfl rfl;replace fh14 := fh14.more e31;clear e31;refine Kn.acall fh14 .none (Kn.ex_call fh14 (.cons (.tmp rfl) (.cons (.tmp rfl) .nil))) Tryz.call93 (node_any (Rt bl f k) (Rt bl s r) _ (by rw [Rt_size]; omega) (by rw [Rt_size]; omega) hS.1.tabs) fun e x2 hp => ?_;obtain ⟨rfl, hb⟩ := hp;exact ⟨_, rfl, ⟨by rw [HSPL.out], hm027.on hb, hm031.on hb⟩, ⟨hS.1.only (Sha.Only.of_below hb), St.only hS.2.1 (Sha.Only.of_below hb) hne8, St.only hS.2.2.1 (Sha.Only.of_below hb) hne9, St.only hS.2.2.2.1 (Sha.Only.of_below hb) hgm4, fun q h => (fun _ h => MapAt.on h hb) q (hS.2.2.2.2.1 q h), hS.2.2.2.2.2.trans (Sha.Only.of_below hb)⟩, (fun _ h => MapAt.on h hb)⟩
    · refine Kn.ok fun fa14 x L fh14 hS hH => ?_;obtain ⟨e32, hm032, hm132⟩ : (fun (v : Value) (x : World) => v = .string (Rt bl f n) ∧ MapAt x gm (Rt bl) (InT f k) ∧ MapAt x gm (Rt bl) (InT s r)) (fa14.eval (.tmp 32)) x := hH 8 32 rfl rfl;replace fh14 := fh14.more e32;clear e32;exact Kn.apure fh14 .none (Kn.ex_assign fh14 (.tmp rfl)) ⟨rfl, hm032, hm132⟩ hS (fun _ h => h)
    intro fa14 v6 fh14 hS hT;clear fh13 fa13;obtain ⟨e7, hm07, hm17⟩ : (fun (v : Value) (x : World) => v = .string (Rt bl f n) ∧ MapAt x gm (Rt bl) (InT f k) ∧ MapAt x gm (Rt bl) (InT s r)) (fa14.eval (.tmp 7)) v6 := hT 9 7 rfl;replace fh14 := fh14.more e7;clear hT;replace fh14 := fh14.cut (.cons (t := 7) rfl (.cons (t := 4) rfl (.cons (t := 0) rfl .nil)));exact ⟨fh14.cut (.cons (t := 0) rfl (.cons (t := 4) rfl (.cons (t := 7) rfl .nil))), Lib.hid ⟨hS.1, hS.2.2.2.1, (hm07.or hm17).mono HSUB.out, hS.2.2.2.2.1, hS.2.2.2.2.2⟩⟩
  clear fh3 fa3;intro fa4 v hJ;obtain ⟨fh4, HJ⟩ := hJ;refine hK3 _ _ ?_;clear hK3 K3;have hL2 := HJ.out.1;have c0 := hL2.tree.drew.cell 0 rfl;have hld := loadS HJ.out.2.1.drew Tryz.underlying157 rfl (by kernel_rfl);have hMp : MapAt v.drew gm (Rt bl) (Subs f n) := HJ.out.2.2.1.at rfl;obtain ⟨v9, hput, hM9, hot, hsz9, hB9⟩ := hMp.put (a := f) (b := n) (by omega) (by omega);have hO9 : Sha.Only gm v.drew v9 := ⟨(hB9 gm (Nat.le_refl _)).os, (hB9 gm (Nat.le_refl _)).tape, (hB9 gm (Nat.le_refl _)).output, (hB9 gm (Nat.le_refl _)).size, fun k _ hne => hot k hne⟩;have HF : Hid (MapAt v9 gm (Rt bl) (InT f n) ∧ (∀ q, MapAt w gm (Rt bl) q → MapAt v9 gm (Rt bl) q) ∧ Sha.Only gm w v9) := Lib.hid ⟨hM9.mono fun a b h => InT_subs h, fun q h => ((HJ.out.2.2.2.1 q (HB.out.2 q h)).at (w' := v.drew) rfl).same (by omega) (by omega) hput, (HB.out.1.trans HJ.out.2.2.2.2).drew.trans hO9⟩;have HPUT : Hid ((Instr.mapUpdate 152 (.map (some gm)) (.agg #[.int .i64 ((f : Nat) : Int), .int .i64 ((n : Nat) : Int)]) (.agg #[.string (Rt bl f n)])).run Tryz.prog v.drew = .ok () v9) := Lib.hid hput;clear hM9 hot hsz9 hB9 hO9 hMp hL2 hput;refine wp_seq_k fun K4 hK4 => ?_;refine Kn.tail 7 (by kernel_rfl) (by kernel_rfl) rfl rfl ?_;refine Kn.spure fh4 rfl rfl .none (Kn.ex_move fh4 (.tmp rfl)) fun fa5 fh5 => ?_;clear fh4 fa4;refine Kn.spure fh5 rfl rfl .none (Kn.ex_nilCheck fh5 (.tmp rfl)) fun fa6 fh6 => ?_;clear fh5 fa5;refine Kn.sstep fh6 rfl rfl .none (Kn.ex_fieldAddr fh6 (.tmp rfl)) fun Ko hKo => ?_;go_simp;(try go_bits);refine hKo _ fun fa7 fh7 => ?_;clear hKo Ko fh6 fa6;refine Kn.sstep fh7 rfl rfl .none (Kn.ex_load fh7 (.tmp rfl)) fun Ko hKo => ?_;go_simp;(try go_bits);refine hKo _ fun fa8 fh8 => ?_;clear hKo Ko fh7 fa7;refine Kn.sstep fh8 rfl rfl .none (Kn.ex_load fh8 (.tmp rfl)) fun Ko hKo => ?_;rw [hld];refine hKo _ fun fa9 fh9 => ?_;clear hKo Ko fh8 fa8;refine Kn.spure fh9 rfl rfl .none (Kn.ex_move fh9 (.tmp rfl)) fun fa10 fh10 => ?_;clear fh9 fa9;refine Kn.sstep fh10 rfl rfl .none (Kn.ex_build fh10 (.cons (.tmp rfl) .nil)) fun Ko hKo => ?_;go_simp;(try go_bits);refine hKo _ fun fa11 fh11 => ?_;clear hKo Ko fh10 fa10;refine wpStill_nil ?_;refine Kn.stepU fh11 rfl .none (Kn.ex_mapPut fh11 (.tmp rfl) (.tmp rfl) (.tmp rfl)) fun Ko hKo => ?_;refine Kn.satU_runA HPUT.out ?_;refine hKo _ ?_;clear hKo Ko;refine wpList_nil ?_;refine hK4 _ _ ?_;clear hK4 K4;replace fh11 := fh11.cut (.cons (t := 7) rfl .nil);refine wp_seq_k fun K5 hK5 => ?_;refine wp_region_lit ?_;refine Kn.pure fh11 rfl rfl .none (Kn.ex_move fh11 (.tmp rfl)) fun fa12 fh12 => ?_;clear fh11 fa11;refine Kn.pure fh12 rfl rfl .none (Kn.ex_assign fh12 (.tmp rfl)) fun fa13 fh13 => ?_;clear fh12 fa12;refine wpList_nil ?_;refine hK5 _ _ ?_;clear hK5 K5;replace fh13 := fh13.cut (.cons (t := 6) rfl .nil);refine wp_ret ?_;exact Kn.ret1 fh13 rfl rfl ⟨rfl, HF.out⟩
end Go.Proofs.YtbahklpdldghbaaGreatDoor.Mrk
end
section
namespace Go.Proofs.YtbahklpdldghbaaGreatDoor.Mrk
open Go Go.RowKit Go.Lib RowG
def TreeAt (bl : List ByteArray) (gt gm : Nat) (u : World) : Prop := St.St u gt 154 #[.map (some gm), .int .i64 (bl.length : Int)] ∧ MapAt u gm (Rt bl) (fun a b => 1 ≤ bl.length ∧ InT 0 bl.length a b)
theorem TreeAt.on {bl : List ByteArray} {gt gm : Nat} {u u' : World} (h : TreeAt bl gt gm u) (hb : Below u.heap.size u u') : TreeAt bl gt gm u' := ⟨h.1.on hb, h.2.on hb⟩
theorem TreeAt.lt {bl : List ByteArray} {gt gm : Nat} {u : World} (h : TreeAt bl gt gm u) : gt < u.heap.size ∧ gm < u.heap.size := ⟨h.1.lt, h.2.lt⟩
theorem run_makeMapN (x : Int) (w : World) : (Instr.makeMap 152 (some (.int .i64 x))).run Tryz.prog w = .ok (.map (some w.heap.size)) (w.alloc (.map #[] 0)) := by
  simp [Instr.makeMap, run_underlying Tryz.underlying152, asInt, asIntOf, Result.andThen]
set_option maxRecDepth 100000 in
set_option maxHeartbeats 600000 in
theorem new_any (bl : List ByteArray) (A : Option Addr) (c : Nat) (w : World) (hN : bl.length ≤ 1000000) (hsz : ∀ b ∈ bl, b.size ≤ 300) (hbc : bl.length ≤ c) (hcm : c ≤ maxLen) (hR : RIn txR w A bl) (hT : Sha.Tabs w) :
    Calls Tryz.prog 51 #[.slice A bl.length c] w fun e w' => ∃ gt gm, e = .returned (.pointer (some ⟨gt, 0, none⟩)) ∧ TreeAt bl gt gm w' ∧ Below w.heap.size w w' := by
  refine Kn.calls Tryz.func51 rfl Tryz.ntmps51 rfl (.cons (t := 0) rfl .nil) fun fa0 fh0 => ?_;refine wp_seq_k fun K1 hK1 => ?_;refine wp_region_lit ?_;refine Kn.pure fh0 rfl rfl .none (Kn.ex_assign fh0 .const) fun fa1 fh1 => ?_;clear fh0 fa0;refine wpList_nil ?_;refine hK1 _ _ ?_;clear hK1 K1;refine wp_seq_k fun K2 hK2 => ?_;refine wp_region_lit ?_;refine Kn.pure fh1 rfl rfl .none (Kn.ex_move fh1 (.tmp rfl)) fun fa2 fh2 => ?_;clear fh1 fa1;refine Kn.step fh2 rfl rfl .none (Kn.ex_len fh2 (.tmp rfl)) fun Ko hKo => ?_;go_simp;(try go_bits);refine hKo _ _ fun fa3 fh3 => ?_;clear hKo Ko fh2 fa2;refine Kn.step fh3 rfl rfl .none (Kn.ex_bin fh3 .const (.tmp rfl)) fun Ko hKo => ?_;go_simp;(try go_bits);refine hKo _ _ fun fa4 fh4 => ?_;clear hKo Ko fh3 fa3;refine Kn.known fh4 rfl rfl .none (Kn.ex_makeMapN fh4 (.tmp rfl)) (run_makeMapN _ _) fun fa5 fh5 => ?_;clear fh4 fa4;refine Kn.pure fh5 rfl rfl .none (Kn.ex_move fh5 (.tmp rfl)) fun fa6 fh6 => ?_;clear fh5 fa5;refine Kn.step fh6 rfl rfl .none (Kn.ex_len fh6 (.tmp rfl)) fun Ko hKo => ?_;go_simp;(try go_bits);refine hKo _ _ fun fa7 fh7 => ?_;clear hKo Ko fh6 fa6;refine Kn.step fh7 rfl rfl .none (Kn.ex_build fh7 (.cons (.tmp rfl) (.cons (.tmp rfl) .nil))) fun Ko hKo => ?_;go_simp;(try go_bits);refine hKo _ _ fun fa8 fh8 => ?_;clear hKo Ko fh7 fa7;refine Kn.step fh8 rfl rfl .none (Kn.ex_box fh8 (.tmp rfl)) fun Ko hKo => ?_;go_simp;(try go_bits);refine hKo _ _ fun fa9 fh9 => ?_;clear hKo Ko fh8 fa8;refine Kn.pure fh9 rfl rfl .none (Kn.ex_assign fh9 (.tmp rfl)) fun fa10 fh10 => ?_;clear fh9 fa9;refine wpList_nil ?_;refine hK2 _ _ ?_;clear hK2 K2;replace fh10 := fh10.cut (.cons (t := 3) rfl (.cons (t := 2) rfl (.cons (t := 0) rfl .nil)));refine Kn.gen (fun u => St.St u (w.heap.size + 1) 154 #[.map (some w.heap.size), .int .i64 (bl.length : Int)] ∧ MapAt u w.heap.size (Rt bl) (fun _ _ => False) ∧ Below w.heap.size w u) ⟨(by have := St.St.new (w.alloc (.map #[] 0)) 154 #[.map (some w.heap.size), .int .i64 (bl.length : Int)]; simpa using this), (MapAt.new w).on ((Below.refl _ _).alloc (Nat.le_refl _) _), ((Below.refl _ w).alloc (Nat.le_refl _) _).alloc (by simp) _⟩ fun u hu => ?_;obtain ⟨hS0, hM0, hb0⟩ := hu;have hgs := hT.size
  have hoff : 0 < bl.length → Off A w.heap.size := fun h0 a e => by
    obtain ⟨b, o, e2, hlt⟩ := hR.addr h0;rw [e2] at e;injection e with e
    subst e;show b ≠ _;omega
  have hT0 := hT.below hb0 hT.size;have hR0 := hR.on hb0;obtain ⟨gm, hgm⟩ : ∃ g, w.heap.size = g := ⟨_, rfl⟩;rw [hgm] at hS0 hM0 fh10 hoff;have hgmle : 4 ≤ gm := by omega
  have HB : Hid (Below w.heap.size w u ∧ w.heap.size ≤ gm) := Lib.hid ⟨hb0, by omega⟩;obtain ⟨gt, hgt⟩ : ∃ g, gm + 1 = g := ⟨_, rfl⟩;rw [hgt] at hS0 fh10;have hne : gt ≠ gm := by omega
  have c1 := hS0.cell 1 rfl;have HN := Lib.hid hN;clear hgm hgt hgs hb0
  by_cases h0 : 0 < bl.length
  · have hLI : LayIn bl A gt gm bl.length u := ⟨hT0, hS0, hR0, hoff (by omega), hne, hgmle, hM0.lt⟩;have h1 : 1 ≤ bl.length := by omega
    have hall := all_any gt gm bl.length u hS0;have hly := Lib.hid (fun v q h1 h2 => lay_any bl A c gt gm bl.length hN hsz hbc hcm bl.length 0 q v (by omega) (by omega) h1 h2);have HL := Lib.hid hLI;have HM := Lib.hid hM0;have HH := Lib.hid h1;clear hLI hT0 hS0 hR0 hoff hM0 h1;refine wp_seq_k fun K3 hK3 => ?_;refine wp_seq_k fun K4 hK4 => ?_;refine wp_region_lit ?_;refine Kn.pure fh10 rfl rfl .none (Kn.ex_move fh10 (.tmp rfl)) fun fa11 fh11 => ?_;clear fh10 fa10;refine Kn.pure fh11 rfl rfl .none (Kn.ex_nilCheck fh11 (.tmp rfl)) fun fa12 fh12 => ?_;clear fh11 fa11;refine Kn.step fh12 rfl rfl .none (Kn.ex_fieldAddr fh12 (.tmp rfl)) fun Ko hKo => ?_;go_simp;(try go_bits);refine hKo _ _ fun fa13 fh13 => ?_;clear hKo Ko fh12 fa12;refine Kn.step fh13 rfl rfl .none (Kn.ex_load fh13 (.tmp rfl)) fun Ko hKo => ?_;go_simp;(try go_bits);refine hKo _ _ fun fa14 fh14 => ?_;clear hKo Ko fh13 fa13;refine Kn.step fh14 rfl rfl .none (Kn.ex_bin fh14 (.tmp rfl) .const) fun Ko hKo => ?_;go_simp;(try go_bits);refine hKo _ _ fun fa15 fh15 => ?_;clear hKo Ko fh14 fa14;refine wpList_nil ?_;refine hK4 _ _ ?_;clear hK4 K4;replace fh15 := fh15.cut (.cons (t := 16) rfl (.cons (t := 3) rfl (.cons (t := 2) rfl (.cons (t := 0) rfl .nil))));clear c1 h0;refine Kn.yes fh15 (.tmp rfl) ?_;replace fh15 := fh15.cut (.cons (t := 3) rfl (.cons (t := 2) rfl (.cons (t := 0) rfl .nil)));refine wp_region_lit ?_;refine Kn.pure fh15 rfl rfl .none (Kn.ex_move fh15 (.tmp rfl)) fun fa16 fh16 => ?_;clear fh15 fa15;refine Kn.pure fh16 rfl rfl .none (Kn.ex_move fh16 (.tmp rfl)) fun fa17 fh17 => ?_;clear fh16 fa16;refine Kn.call fh17 rfl rfl .none (Kn.ex_call fh17 (.cons (.tmp rfl) .nil)) Tryz.call73 (hall) fun e u1 hp => ?_;obtain ⟨rfl, hb1⟩ := hp;refine ⟨_, rfl, fun fa18 fh18 => ?_⟩;clear fh17 fa17;refine Kn.pure fh18 rfl rfl .none (Kn.ex_move fh18 (.tmp rfl)) fun fa19 fh19 => ?_;clear fh18 fa18;refine Kn.call fh19 rfl rfl .none (Kn.ex_call fh19 (.cons (.tmp rfl) (.cons (.tmp rfl) (.cons (.tmp rfl) .nil)))) Tryz.call72 (hly.out _ _ (HL.out.on hb1) (HM.out.on hb1)) fun e u2 hp => ?_;obtain ⟨rfl, hm2, -, ho2⟩ := hp;refine ⟨_, rfl, fun fa20 fh20 => ?_⟩;clear fh19 fa19;refine wpList_nil ?_;refine hK3 _ _ ?_;clear hK3 K3;replace fh20 := fh20.cut (.cons (t := 3) rfl (.cons (t := 2) rfl .nil));have HF : Hid (TreeAt bl gt gm u2 ∧ Below w.heap.size w u2) := Lib.hid ⟨⟨(HL.out.on hb1).only ho2 |>.tree, hm2.mono fun a b h => h.2⟩, (HB.out.1.trans (hb1.mono HB.out.1.size)).trans (ho2.below HB.out.2 (Nat.le_trans HB.out.1.size hb1.size))⟩;clear hb1 hm2 ho2;refine wp_seq_k fun K5 hK5 => ?_;refine wp_region_lit ?_;refine Kn.pure fh20 rfl rfl .none (Kn.ex_move fh20 (.tmp rfl)) fun fa21 fh21 => ?_;clear fh20 fa20;refine Kn.pure fh21 rfl rfl .none (Kn.ex_assign fh21 (.tmp rfl)) fun fa22 fh22 => ?_;clear fh21 fa21;refine wpList_nil ?_;refine hK5 _ _ ?_;clear hK5 K5;replace fh22 := fh22.cut (.cons (t := 2) rfl .nil);refine wp_ret ?_;exact Kn.ret1 fh22 rfl rfl ⟨gt, gm, rfl, HF.out⟩
  have hz : bl.length = 0 := by omega
  have HZ := Lib.hid hz;have HF : Hid (TreeAt bl gt gm u ∧ Below w.heap.size w u) := Lib.hid ⟨⟨hS0, hM0.mono fun a b h => by omega⟩, HB.out.1⟩;clear hz;refine wp_seq_k fun K3 hK3 => ?_;refine wp_seq_k fun K4 hK4 => ?_;refine wp_region_lit ?_;refine Kn.pure fh10 rfl rfl .none (Kn.ex_move fh10 (.tmp rfl)) fun fa11 fh11 => ?_;clear fh10 fa10;refine Kn.pure fh11 rfl rfl .none (Kn.ex_nilCheck fh11 (.tmp rfl)) fun fa12 fh12 => ?_;clear fh11 fa11;refine Kn.step fh12 rfl rfl .none (Kn.ex_fieldAddr fh12 (.tmp rfl)) fun Ko hKo => ?_;go_simp;(try go_bits);refine hKo _ _ fun fa13 fh13 => ?_;clear hKo Ko fh12 fa12;refine Kn.step fh13 rfl rfl .none (Kn.ex_load fh13 (.tmp rfl)) fun Ko hKo => ?_;go_simp;(try go_bits);refine hKo _ _ fun fa14 fh14 => ?_;clear hKo Ko fh13 fa13;refine Kn.step fh14 rfl rfl .none (Kn.ex_bin fh14 (.tmp rfl) .const) fun Ko hKo => ?_;go_simp;(try go_bits);refine hKo _ _ fun fa15 fh15 => ?_;clear hKo Ko fh14 fa14;refine wpList_nil ?_;refine hK4 _ _ ?_;clear hK4 K4;replace fh15 := fh15.cut (.cons (t := 16) rfl (.cons (t := 3) rfl (.cons (t := 2) rfl (.cons (t := 0) rfl .nil))));refine Kn.no fh15 (.tmp rfl) ?_;refine wp_skip ?_;refine hK3 _ _ ?_;clear hK3 K3;replace fh15 := fh15.cut (.cons (t := 3) rfl (.cons (t := 2) rfl .nil));refine wp_seq_k fun K5 hK5 => ?_;refine wp_region_lit ?_;refine Kn.pure fh15 rfl rfl .none (Kn.ex_move fh15 (.tmp rfl)) fun fa16 fh16 => ?_;clear fh15 fa15;refine Kn.pure fh16 rfl rfl .none (Kn.ex_assign fh16 (.tmp rfl)) fun fa17 fh17 => ?_;clear fh16 fa16;refine wpList_nil ?_;refine hK5 _ _ ?_;clear hK5 K5;replace fh17 := fh17.cut (.cons (t := 2) rfl .nil);refine wp_ret ?_;exact Kn.ret1 fh17 rfl rfl ⟨gt, gm, rfl, HF.out⟩
set_option maxRecDepth 100000 in
set_option maxHeartbeats 600000 in
theorem troot_any (bl : List ByteArray) (gt gm : Nat) (w : World) (hN : bl.length ≤ 1000000) (hTr : TreeAt bl gt gm w) (hT : Sha.Tabs w) :
    Calls Tryz.prog 52 #[.pointer (some ⟨gt, 0, none⟩)] w fun e w' => e = .returned (.string (rootP bl).1) ∧ Below w.heap.size w w' := by
  refine Kn.calls Tryz.func52 rfl Tryz.ntmps52 rfl (.cons (t := 0) rfl .nil) fun fa0 fh0 => ?_;refine wp_seq_k fun K1 hK1 => ?_;refine wp_region_lit ?_;refine Kn.pure fh0 rfl rfl .none (Kn.ex_assign fh0 .const) fun fa1 fh1 => ?_;clear fh0 fa0;refine wpList_nil ?_;refine hK1 _ _ ?_;clear hK1 K1;refine wp_seq_k fun K2 hK2 => ?_;refine wp_seq_k fun K3 hK3 => ?_;refine wp_region_lit ?_;refine Kn.pure fh1 rfl rfl .none (Kn.ex_move fh1 (.tmp rfl)) fun fa2 fh2 => ?_;clear fh1 fa1;refine Kn.step fh2 rfl rfl .none (Kn.ex_bin fh2 (.tmp rfl) .const) fun Ko hKo => ?_;go_simp;(try go_bits);refine hKo _ _ fun fa3 fh3 => ?_;clear hKo Ko fh2 fa2;refine wpList_nil ?_;refine hK3 _ _ ?_;clear hK3 K3;replace fh3 := fh3.cut (.cons (t := 4) rfl (.cons (t := 2) rfl (.cons (t := 0) rfl .nil)));refine Kn.no fh3 (.tmp rfl) ?_;refine wp_skip ?_;refine hK2 _ _ ?_;clear hK2 K2;replace fh3 := fh3.cut (.cons (t := 2) rfl (.cons (t := 0) rfl .nil));have c1 := hTr.1.cell 1 rfl
  by_cases h0 : bl.length = 0
  · have e0 : ((bl.length : Int) == 0) = true := by rw [h0]; rfl
    have HS := Lib.hid (sum1 c2 w hT (by decide));have H0 := Lib.hid h0;clear h0;refine wp_seq_k fun K4 hK4 => ?_;refine wp_seq_k fun K5 hK5 => ?_;refine wp_region_lit ?_;refine Kn.pure fh3 rfl rfl .none (Kn.ex_move fh3 (.tmp rfl)) fun fa4 fh4 => ?_;clear fh3 fa3;refine Kn.pure fh4 rfl rfl .none (Kn.ex_nilCheck fh4 (.tmp rfl)) fun fa5 fh5 => ?_;clear fh4 fa4;refine Kn.step fh5 rfl rfl .none (Kn.ex_fieldAddr fh5 (.tmp rfl)) fun Ko hKo => ?_;go_simp;(try go_bits);refine hKo _ _ fun fa6 fh6 => ?_;clear hKo Ko fh5 fa5;refine Kn.step fh6 rfl rfl .none (Kn.ex_load fh6 (.tmp rfl)) fun Ko hKo => ?_;go_simp;(try go_bits);refine hKo _ _ fun fa7 fh7 => ?_;clear hKo Ko fh6 fa6;refine Kn.step fh7 rfl rfl .none (Kn.ex_bin fh7 (.tmp rfl) .const) fun Ko hKo => ?_;go_simp;(try go_bits);refine hKo _ _ fun fa8 fh8 => ?_;clear hKo Ko fh7 fa7;refine wpList_nil ?_;refine hK5 _ _ ?_;clear hK5 K5;replace fh8 := fh8.cut (.cons (t := 9) rfl (.cons (t := 2) rfl (.cons (t := 0) rfl .nil)));clear e0 c1;refine Kn.yes fh8 (.tmp rfl) ?_;replace fh8 := fh8.cut (.cons (t := 2) rfl (.cons (t := 0) rfl .nil));refine wp_seq_k fun K6 hK6 => ?_;refine wp_region_lit ?_;refine Kn.step fh8 rfl rfl .none (Kn.ex_buildSlice fh8 (.cons .const .nil)) fun Ko hKo => ?_;go_simp;(try go_bits);refine hKo _ _ fun fa9 fh9 => ?_;clear hKo Ko fh8 fa8;refine Kn.call fh9 rfl rfl .none (Kn.ex_call fh9 (.cons (.tmp rfl) .nil)) Tryz.call74 (HS.out) fun e w1 hp => ?_;obtain ⟨rfl, hb⟩ := hp;refine ⟨_, rfl, fun fa10 fh10 => ?_⟩;clear fh9 fa9;refine Kn.pure fh10 rfl rfl .none (Kn.ex_assign fh10 (.tmp rfl)) fun fa11 fh11 => ?_;clear fh10 fa10;refine wpList_nil ?_;refine hK6 _ _ ?_;clear hK6 K6;replace fh11 := fh11.cut (.cons (t := 2) rfl (.cons (t := 0) rfl .nil));refine wp_ret ?_;refine Kn.then_ret ?_;exact Kn.ret1 fh11 rfl rfl ⟨by rw [rootP_0 H0.out], hb⟩
  have e0 : ((bl.length : Int) == 0) = false := by rw [beq_eq_false_iff_ne]; omega
  have hall := all_any gt gm bl.length w hTr.1;have H0 := Lib.hid h0;have hpt := Lib.hid (fun v (h : TreeAt bl gt gm v) => part_any gt gm bl.length 0 bl.length (Rt bl) _ v h.1 h.2 ⟨by omega, InT_self _ _⟩ (by omega) hN (by rw [Rt_size]; omega));have HT := Lib.hid hTr;clear h0 hTr;refine wp_seq_k fun K4 hK4 => ?_;refine wp_seq_k fun K5 hK5 => ?_;refine wp_region_lit ?_;refine Kn.pure fh3 rfl rfl .none (Kn.ex_move fh3 (.tmp rfl)) fun fa4 fh4 => ?_;clear fh3 fa3;refine Kn.pure fh4 rfl rfl .none (Kn.ex_nilCheck fh4 (.tmp rfl)) fun fa5 fh5 => ?_;clear fh4 fa4;refine Kn.step fh5 rfl rfl .none (Kn.ex_fieldAddr fh5 (.tmp rfl)) fun Ko hKo => ?_;go_simp;(try go_bits);refine hKo _ _ fun fa6 fh6 => ?_;clear hKo Ko fh5 fa5;refine Kn.step fh6 rfl rfl .none (Kn.ex_load fh6 (.tmp rfl)) fun Ko hKo => ?_;go_simp;(try go_bits);refine hKo _ _ fun fa7 fh7 => ?_;clear hKo Ko fh6 fa6;refine Kn.step fh7 rfl rfl .none (Kn.ex_bin fh7 (.tmp rfl) .const) fun Ko hKo => ?_;go_simp;(try go_bits);refine hKo _ _ fun fa8 fh8 => ?_;clear hKo Ko fh7 fa7;refine wpList_nil ?_;refine hK5 _ _ ?_;clear hK5 K5;replace fh8 := fh8.cut (.cons (t := 9) rfl (.cons (t := 2) rfl (.cons (t := 0) rfl .nil)));clear e0 c1;refine Kn.no fh8 (.tmp rfl) ?_;refine wp_skip ?_;refine hK4 _ _ ?_;clear hK4 K4;replace fh8 := fh8.cut (.cons (t := 2) rfl (.cons (t := 0) rfl .nil));refine wp_seq_k fun K6 hK6 => ?_;refine wp_region_lit ?_;refine Kn.pure fh8 rfl rfl .none (Kn.ex_move fh8 (.tmp rfl)) fun fa9 fh9 => ?_;clear fh8 fa8;refine Kn.pure fh9 rfl rfl .none (Kn.ex_move fh9 (.tmp rfl)) fun fa10 fh10 => ?_;clear fh9 fa9;refine Kn.call fh10 rfl rfl .none (Kn.ex_call fh10 (.cons (.tmp rfl) .nil)) Tryz.call73 (hall) fun e w1 hp => ?_;obtain ⟨rfl, hb1⟩ := hp;refine ⟨_, rfl, fun fa11 fh11 => ?_⟩;clear fh10 fa10;refine Kn.call fh11 rfl rfl .none (Kn.ex_call fh11 (.cons (.tmp rfl) (.cons (.tmp rfl) .nil))) Tryz.call75 (hpt.out _ (HT.out.on hb1)) fun e w2 hp => ?_;obtain ⟨rfl, hb2⟩ := hp;refine ⟨_, rfl, fun fa12 fh12 => ?_⟩;clear fh11 fa11;refine Kn.pure fh12 rfl rfl .none (Kn.ex_assign fh12 (.tmp rfl)) fun fa13 fh13 => ?_;clear fh12 fa12;refine wpList_nil ?_;refine hK6 _ _ ?_;clear hK6 K6;replace fh13 := fh13.cut (.cons (t := 2) rfl .nil);refine wp_ret ?_;exact Kn.ret1 fh13 rfl rfl ⟨by rw [Rt_all], hb1.trans (hb2.mono hb1.size)⟩
set_option maxRecDepth 100000 in
set_option maxHeartbeats 600000 in
theorem root_any (bl : List ByteArray) (A : Option Addr) (c : Nat) (w : World) (hN : bl.length ≤ 1000000) (hsz : ∀ b ∈ bl, b.size ≤ 300) (hbc : bl.length ≤ c) (hcm : c ≤ maxLen) (hR : RIn txR w A bl) (hT : Sha.Tabs w) :
    Calls Tryz.prog 33 #[.slice A bl.length c] w fun e w' => e = .returned (.string (rootP bl).1) ∧ Below w.heap.size w w' := by
  refine Kn.calls Tryz.func33 rfl Tryz.ntmps33 rfl (.cons (t := 0) rfl .nil) fun fa0 fh0 => ?_;refine wp_seq_k fun K1 hK1 => ?_;refine wp_region_lit ?_;refine Kn.pure fh0 rfl rfl .none (Kn.ex_assign fh0 .const) fun fa1 fh1 => ?_;clear fh0 fa0;refine wpList_nil ?_;refine hK1 _ _ ?_;clear hK1 K1;have hn := new_any bl A c w hN hsz hbc hcm hR hT;have HT := Lib.hid hT;clear hT;refine wp_seq_k fun K2 hK2 => ?_;refine wp_region_lit ?_;refine Kn.pure fh1 rfl rfl .none (Kn.ex_move fh1 (.tmp rfl)) fun fa2 fh2 => ?_;clear fh1 fa1;refine Kn.call fh2 rfl rfl .none (Kn.ex_call fh2 (.cons (.tmp rfl) .nil)) Tryz.call51 (hn) fun e w1 hp => ?_;obtain ⟨gt, gm, rfl, htr, hb1⟩ := hp;refine ⟨_, rfl, fun fa3 fh3 => ?_⟩;clear fh2 fa2;refine Kn.call fh3 rfl rfl .none (Kn.ex_call fh3 (.cons (.tmp rfl) .nil)) Tryz.call52 (troot_any bl gt gm w1 hN htr (HT.out.below hb1 HT.out.size)) fun e w2 hp => ?_;obtain ⟨rfl, hb2⟩ := hp;refine ⟨_, rfl, fun fa4 fh4 => ?_⟩;clear fh3 fa3;refine Kn.pure fh4 rfl rfl .none (Kn.ex_assign fh4 (.tmp rfl)) fun fa5 fh5 => ?_;clear fh4 fa4;refine wpList_nil ?_;refine hK2 _ _ ?_;clear hK2 K2;replace fh5 := fh5.cut (.cons (t := 2) rfl .nil);refine wp_ret ?_;exact Kn.ret1 fh5 rfl rfl ⟨rfl, hb1.trans (hb2.mono hb1.size)⟩
end Go.Proofs.YtbahklpdldghbaaGreatDoor.Mrk
end
section
namespace Go.Proofs.YtbahklpdldghbaaGreatDoor.Edg
end Go.Proofs.YtbahklpdldghbaaGreatDoor.Edg
namespace Go.Proofs.YtbahklpdldghbaaGreatDoor.Man
open Go Go.RowKit Go.Lib RowG Edg Csr Shd
theorem blk_small (s : ByteArray) : ∀ b ∈ Blk.cutK s, b.size ≤ 300 := fun b hb => by
  obtain ⟨k, hk, rfl⟩ := List.getElem_of_mem hb;have hk2 : k < Blk.cntK s.size := by rwa [Blk.cutK_len] at hk
  have e := Blk.cutK_at hk2;rw [List.getElem?_eq_getElem hk] at e;injection e with e
  rw [e, Blk.blkK_size hk2];unfold Blk.szK
  split <;> omega
theorem made_of (v : Int) (N E : Nat) (A : Option Addr) (ca : Nat) (xs ys : List (Int × Int)) (w : World) (hv : 1 ≤ v ∧ v ≤ 1099511627776) (hA : EIn w A xs) (hg : Edg.Good (N : Int) xs) (hn : NormOf xs ys) (hN : N ≤ 300) (hx : xs.length ≤ 200) (hE : 1 ≤ E) (hE2 : E ≤ 9223372036854775807) (hc : cutM N E ≤ 64) (hT : Sha.Tabs w) :
    Made (N : Int) (E : Int) (.slice A xs.length ca) ys.length (manF v N E ys).sh (partsF ys N E (cutM N E)) (Blk.cutK (allF ys N E)) (manF v N E ys).r w := by
  have hyg := hn.good hg;have hyl : ys.length ≤ 200 := by have := hn.len; omega
  have hG := man_good (v := v) hv.1 hv.2 hN hyl hE hc;have hpl : (partsF ys N E (cutM N E)).length = cutM N E := partsF_len _ _ _ _;have hsl : (manF v N E ys).sh.length = cutM N E := man_len v N E ys;have hsm : (Blk.catK (partsF ys N E (cutM N E))).size ≤ 12064 := parts_small hN hyl hc;have hbl : (Blk.cutK (allF ys N E)).length = Blk.cntK (allF ys N E).size := Blk.cutK_len _
  have hbl2 : (Blk.cutK (allF ys N E)).length ≤ 200 := by
    rw [hbl];unfold allF Blk.cntK;omega
  refine ⟨?_, fun A' u hb hA' => ?_, by rw [hsl]; exact hc, hG.y, ?_, by omega, fun A' u hb hA' => ?_, fun B d u hb hB h1 h2 => ?_⟩
  · refine (build_yes N A ca xs w hA hg).mono fun e u ⟨g, zs, he, hz, hR, hb⟩ => ⟨⟨g, he, fun u1 h1 => ?_, ?_⟩, hb⟩
    · obtain rfl : ys = zs := hn.unique hz;exact edges_any u1 _ g N ys (hR.on h1)
    · obtain rfl : ys = zs := hn.unique hz;refine (split_m u _ g hR hE hE2 hc).mono fun e u' ⟨A', he, hA', hb', _⟩ => ⟨⟨A', by rw [hpl]; exact he, hA'⟩, hb'⟩
  · rw [hpl, hsl];exact (table_all A' (cutM N E) u hn.srt hyg hE hA').mono fun e u' ⟨gt, he, hH, hb'⟩ => ⟨⟨some ⟨gt, 0, none⟩, cutM N E, he, hH.rin, Nat.le_refl _, by unfold maxLen; omega⟩, hb'⟩
  · have h := hG.b;unfold blkI tot at h;rw [← h, hbl]
    rfl
  · have h := Blk.cut_full A' (partsF ys N E (cutM N E)).length (partsF ys N E (cutM N E)) u (by omega) (Nat.le_refl _) (by omega) hA';exact h.mono fun e u' ⟨g, he, hg', hI, hb'⟩ => ⟨⟨g, _, he.trans (by rw [hbl]; rfl), hg', hI, by rw [hbl]; exact Nat.le_refl _, by unfold maxLen; unfold Blk.cntK; omega⟩, hb'⟩
  · exact Mrk.root_any (Blk.cutK (allF ys N E)) B d u (by omega) (blk_small _) h1 h2 hB (hT.below hb hT.size)
theorem make_yes (v : Int) (N E : Nat) (A : Option Addr) (ca : Nat) (xs ys : List (Int × Int)) (w : World) (hv : 1 ≤ v ∧ v ≤ 1099511627776) (hA : EIn w A xs) (hg : Edg.Good (N : Int) xs) (hn : NormOf xs ys) (hN : N ≤ 300) (hx : xs.length ≤ 200) (hE : 1 ≤ E) (hE2 : E ≤ 9223372036854775807) (hc : cutM N E ≤ 64) (hT : Sha.Tabs w) :
    Calls Tryz.prog 18 #[.int .i64 v, .int .i64 (N : Int), .int .i64 (E : Int), .slice A xs.length ca] w fun e w' => (∃ g A c B d, e = .returned (.tuple #[.pointer (some ⟨g, 0, none⟩), .nilIface]) ∧ VAt (manF v N E ys) (Blk.cutK (allF ys N E)) A c B d g w') ∧ Below w.heap.size w w' := by
  have h := make_made v (N : Int) (E : Int) (.slice A xs.length ca) ys.length _ _ _ _ w hv (made_of v N E A ca xs ys w hv hA hg hn hN hx hE hE2 hc hT)
  have e : (⟨v, (N : Int), (ys.length : Int), (manF v N E ys).sh, ((Blk.cutK (allF ys N E)).length : Int), (manF v N E ys).r⟩ : MF) = manF v N E ys := by
    rw [Blk.cutK_len]
    rfl
  rw [e] at h;exact h
end Go.Proofs.YtbahklpdldghbaaGreatDoor.Man
end
section
namespace Go.Proofs.YtbahklpdldghbaaGreatDoor.Err
open Go.RowKit Go.Extern.Stop Go.Stop Go.Extern
theorem mkF (p : Addr) (w : World) : (ReflectliteValue.mk 54 p ReflectliteValue.flagAddr).run Tryz.prog w = .ok (.agg #[.pointer (some ⟨4, 54, none⟩), .pointer (some p), .int .u64 409]) w := by kernel_rfl
theorem partsF (a : Addr) (w : World) : (ReflectliteValue.parts (.agg #[.pointer (some ⟨4, 54, none⟩), .pointer (some a), .int .u64 153])).run Tryz.prog w = .ok (some (54, a, 153)) w := by kernel_rfl
end Go.Proofs.YtbahklpdldghbaaGreatDoor.Err
end
section
namespace Go.Proofs.YtbahklpdldghbaaGreatDoor.Err
open Go.RowKit Go.Extern.Stop Go.Stop Go.Extern
def ErrTab (w : World) : Prop := w.cell? ⟨0, 0, none⟩ = some (.iface 118 (.agg #[.pointer (some ⟨4, 27, none⟩)]))
theorem ErrTab.lt {w : World} (h : ErrTab w) : 0 < w.heap.size := by
  unfold ErrTab at h;rcases Nat.lt_or_ge 0 w.heap.size with h0 | h0
  · exact h0
  · simp [World.cell?, Array.getElem?_eq_none h0] at h
theorem ErrTab.below {B : Nat} {w w' : World} (h : ErrTab w) (hb : Below B w w') (hB : 0 < B) : ErrTab w' := (hb.cell (p := ⟨0, 0, none⟩) hB).trans h
theorem ErrTab.on {w w' : World} (h : ErrTab w) (hb : Below w.heap.size w w') : ErrTab w' := h.below hb h.lt
theorem ErrTab.alloc {w : World} (h : ErrTab w) (o : Obj) : ErrTab (w.alloc o) := (World.cell?_alloc_lt w o ⟨0, 0, none⟩ h.lt).trans h
end Go.Proofs.YtbahklpdldghbaaGreatDoor.Err
end
section
namespace Go.Proofs.YtbahklpdldghbaaGreatDoor.Err
open Go.RowKit Go.Extern.Stop Go.Stop Go.Extern
def faultV (p : Int) (c : Int) : Value := .iface 54 (.agg #[.int .i64 p, .iface 52 (.int .i64 c)])
end Go.Proofs.YtbahklpdldghbaaGreatDoor.Err
end
section
namespace Go.Proofs.YtbahklpdldghbaaGreatDoor.Man
open Go Go.RowKit Go.Lib RowG Edg Csr Shd
theorem make_zero (w : World) (hT : Sha.Tabs w) : Calls Tryz.prog 18 #[.int .i64 1, .int .i64 0, .int .i64 8, .slice none 0 0] w fun e w' => (∃ m bl g A c B d, e = .returned (.tuple #[.pointer (some ⟨g, 0, none⟩), .nilIface]) ∧ VAt m bl A c B d g w' ∧ Good m ∧ m.v = 1 ∧ m.sh.length = 0 ∧ bl.length = 0) ∧ Below w.heap.size w w' := by
  have h0 : cutM 0 8 = 0 := cutM_0 (by decide);have h := make_yes 1 0 8 none 0 [] [] w (by decide) (EIn.nil _ _) ⟨by decide, by decide, by decide, fun e h => by cases h⟩ ⟨List.Pairwise.nil, fun e => Iff.rfl⟩ (by decide) (by decide) (by decide) (by decide) (by rw [h0]; decide) hT;refine h.mono fun e w' ⟨⟨g, A, c, B, d, he, hV⟩, hb⟩ => ⟨⟨_, _, g, A, c, B, d, he, hV, man_good (by decide) (by decide) (by decide) (by decide) (by decide) (by rw [h0]; decide), rfl, by rw [man_len, h0], ?_⟩, hb⟩;rw [Blk.cutK_len];unfold allF;rw [h0]
  rfl
set_option maxRecDepth 100000 in
set_option maxHeartbeats 1000000 in
theorem awake10 (w : World) (hT : Sha.Tabs w) :
    Calls Tryz.prog 6 #[] w fun e w' => e = .returned (.bool true) ∧ Below w.heap.size w w' := by
  refine Kn.calls Tryz.func6 rfl Tryz.ntmps6 rfl .nil fun fa0 fh0 => ?_;refine wp_seq_k fun K1 hK1 => ?_;refine wp_region_lit ?_;refine Kn.pure fh0 rfl rfl .none (Kn.ex_assign fh0 .const) fun fa1 fh1 => ?_;clear fh0 fa0;refine wpList_nil ?_;refine hK1 _ _ ?_;clear hK1 K1;have hmk := make_zero w hT;refine wp_seq_k fun K2 hK2 => ?_;refine wp_region_lit ?_;refine Kn.call fh1 rfl rfl .none (Kn.ex_call fh1 (.cons .const (.cons .const (.cons .const (.cons .const .nil))))) Tryz.call18 (hmk) fun e u1 hp => ?_;obtain ⟨⟨m, bl, g, A, c, B, d, rfl, hV, hG, hv, hs, hl⟩, hb1⟩ := hp;refine ⟨_, rfl, fun fa2 fh2 => ?_⟩;clear fh1 fa1;refine Kn.pure fh2 rfl rfl .none (Kn.ex_move fh2 (.tmp rfl)) fun fa3 fh3 => ?_;clear fh2 fa2;refine Kn.pure fh3 rfl rfl .none (Kn.ex_extract fh3 (.tmp rfl) rfl) fun fa4 fh4 => ?_;clear fh3 fa3;refine Kn.pure fh4 rfl rfl .none (Kn.ex_extract fh4 (.tmp rfl) rfl) fun fa5 fh5 => ?_;clear fh4 fa4;refine Kn.pure fh5 rfl rfl .none (Kn.ex_assign fh5 (.tmp rfl)) fun fa6 fh6 => ?_;clear fh5 fa5;refine Kn.pure fh6 rfl rfl .none (Kn.ex_assign fh6 (.tmp rfl)) fun fa7 fh7 => ?_;clear fh6 fa6;refine wpList_nil ?_;refine hK2 _ _ ?_;clear hK2 K2;replace fh7 := fh7.cut (.cons (t := 2) rfl (.cons (t := 1) rfl (.cons (t := 0) rfl .nil)));have hld := ld_M hV.stc;have hck := check_v m A c u1 hV.mi (by rw [hG.r]; decide);rw [chkV_good hG] at hck;have k0 := hV.stc.cell 0 rfl;have k3 := hV.stc.cell 3 rfl;have k6 := hV.stc.cell 6 rfl;rw [hv] at k0;rw [hs] at k3;rw [hl] at k6;have HB := Lib.hid hb1;clear hmk hV hb1 hv hs hl hT;refine wp_seq_k fun K3 hK3 => ?_;refine wp_region_lit ?_;refine Kn.pure fh7 rfl rfl .none (Kn.ex_move fh7 (.tmp rfl)) fun fa8 fh8 => ?_;clear fh7 fa7;refine Kn.step fh8 rfl rfl .none (Kn.ex_bin fh8 (.tmp rfl) .const) fun Ko hKo => ?_;go_simp;(try go_bits);refine hKo _ _ fun fa9 fh9 => ?_;clear hKo Ko fh8 fa8;refine Kn.pure fh9 rfl rfl .none (Kn.ex_move fh9 (.tmp rfl)) fun fa10 fh10 => ?_;clear fh9 fa9;refine Kn.pure fh10 rfl rfl (.some rfl rfl rfl) (Kn.ex_move fh10 (.tmp rfl)) fun fa11 fh11 => ?_;clear fh10 fa10;refine Kn.step fh11 rfl rfl (.some rfl rfl rfl) (Kn.ex_bin fh11 (.tmp rfl) .const) fun Ko hKo => ?_;go_simp;(try go_bits);refine hKo _ _ fun fa12 fh12 => ?_;clear hKo Ko fh11 fa11;refine Kn.pure fh12 rfl rfl .none (Kn.ex_pick fh12 (.tmp rfl) (.tmp rfl)) fun fa13 fh13 => ?_;clear fh12 fa12;refine Kn.pure fh13 rfl rfl .none (Kn.ex_move fh13 (.tmp rfl)) fun fa14 fh14 => ?_;clear fh13 fa13;refine Kn.pure fh14 rfl rfl (.some rfl rfl rfl) (Kn.ex_move fh14 (.tmp rfl)) fun fa15 fh15 => ?_;clear fh14 fa14;refine Kn.pure fh15 rfl rfl (.some rfl rfl rfl) (Kn.ex_nilCheck fh15 (.tmp rfl)) fun fa16 fh16 => ?_;clear fh15 fa15;refine Kn.step fh16 rfl rfl (.some rfl rfl rfl) (Kn.ex_fieldAddr fh16 (.tmp rfl)) fun Ko hKo => ?_;go_simp;(try go_bits);refine hKo _ _ fun fa17 fh17 => ?_;clear hKo Ko fh16 fa16;refine Kn.step fh17 rfl rfl (.some rfl rfl rfl) (Kn.ex_fieldAddr fh17 (.tmp rfl)) fun Ko hKo => ?_;go_simp;(try go_bits);refine hKo _ _ fun fa18 fh18 => ?_;clear hKo Ko fh17 fa17;refine Kn.step fh18 rfl rfl (.some rfl rfl rfl) (Kn.ex_load fh18 (.tmp rfl)) fun Ko hKo => ?_;go_simp;(try go_bits);refine hKo _ _ fun fa19 fh19 => ?_;clear hKo Ko fh18 fa18;refine Kn.step fh19 rfl rfl (.some rfl rfl rfl) (Kn.ex_bin fh19 (.tmp rfl) .const) fun Ko hKo => ?_;go_simp;(try go_bits);refine hKo _ _ fun fa20 fh20 => ?_;clear hKo Ko fh19 fa19;refine Kn.pure fh20 rfl rfl .none (Kn.ex_pick fh20 (.tmp rfl) (.tmp rfl)) fun fa21 fh21 => ?_;clear fh20 fa20;refine Kn.pure fh21 rfl rfl .none (Kn.ex_move fh21 (.tmp rfl)) fun fa22 fh22 => ?_;clear fh21 fa21;refine Kn.pure fh22 rfl rfl (.some rfl rfl rfl) (Kn.ex_move fh22 (.tmp rfl)) fun fa23 fh23 => ?_;clear fh22 fa22;refine Kn.pure fh23 rfl rfl (.some rfl rfl rfl) (Kn.ex_nilCheck fh23 (.tmp rfl)) fun fa24 fh24 => ?_;clear fh23 fa23;refine Kn.step fh24 rfl rfl (.some rfl rfl rfl) (Kn.ex_fieldAddr fh24 (.tmp rfl)) fun Ko hKo => ?_;go_simp;(try go_bits);refine hKo _ _ fun fa25 fh25 => ?_;clear hKo Ko fh24 fa24;refine Kn.step fh25 rfl rfl (.some rfl rfl rfl) (Kn.ex_load fh25 (.tmp rfl)) fun Ko hKo => ?_;go_simp;(try go_bits);refine hKo _ _ fun fa26 fh26 => ?_;clear hKo Ko fh25 fa25;refine Kn.step fh26 rfl rfl (.some rfl rfl rfl) (Kn.ex_len fh26 (.tmp rfl)) fun Ko hKo => ?_;go_simp;(try go_bits);refine hKo _ _ fun fa27 fh27 => ?_;clear hKo Ko fh26 fa26;refine Kn.step fh27 rfl rfl (.some rfl rfl rfl) (Kn.ex_bin fh27 (.tmp rfl) .const) fun Ko hKo => ?_;go_simp;(try go_bits);refine hKo _ _ fun fa28 fh28 => ?_;clear hKo Ko fh27 fa27;refine Kn.pure fh28 rfl rfl .none (Kn.ex_pick fh28 (.tmp rfl) (.tmp rfl)) fun fa29 fh29 => ?_;clear fh28 fa28;refine Kn.pure fh29 rfl rfl .none (Kn.ex_move fh29 (.tmp rfl)) fun fa30 fh30 => ?_;clear fh29 fa29;refine Kn.pure fh30 rfl rfl (.some rfl rfl rfl) (Kn.ex_move fh30 (.tmp rfl)) fun fa31 fh31 => ?_;clear fh30 fa30;refine Kn.pure fh31 rfl rfl (.some rfl rfl rfl) (Kn.ex_nilCheck fh31 (.tmp rfl)) fun fa32 fh32 => ?_;clear fh31 fa31;refine Kn.step fh32 rfl rfl (.some rfl rfl rfl) (Kn.ex_fieldAddr fh32 (.tmp rfl)) fun Ko hKo => ?_;go_simp;(try go_bits);refine hKo _ _ fun fa33 fh33 => ?_;clear hKo Ko fh32 fa32;refine Kn.step fh33 rfl rfl (.some rfl rfl rfl) (Kn.ex_fieldAddr fh33 (.tmp rfl)) fun Ko hKo => ?_;go_simp;(try go_bits);refine hKo _ _ fun fa34 fh34 => ?_;clear hKo Ko fh33 fa33;refine Kn.step fh34 rfl rfl (.some rfl rfl rfl) (Kn.ex_load fh34 (.tmp rfl)) fun Ko hKo => ?_;go_simp;(try go_bits);refine hKo _ _ fun fa35 fh35 => ?_;clear hKo Ko fh34 fa34;refine Kn.step fh35 rfl rfl (.some rfl rfl rfl) (Kn.ex_len fh35 (.tmp rfl)) fun Ko hKo => ?_;go_simp;(try go_bits);refine hKo _ _ fun fa36 fh36 => ?_;clear hKo Ko fh35 fa35;refine Kn.step fh36 rfl rfl (.some rfl rfl rfl) (Kn.ex_bin fh36 (.tmp rfl) .const) fun Ko hKo => ?_;go_simp;(try go_bits);refine hKo _ _ fun fa37 fh37 => ?_;clear hKo Ko fh36 fa36;refine Kn.pure fh37 rfl rfl .none (Kn.ex_pick fh37 (.tmp rfl) (.tmp rfl)) fun fa38 fh38 => ?_;clear fh37 fa37;refine Kn.pure fh38 rfl rfl .none (Kn.ex_move fh38 (.tmp rfl)) fun fa39 fh39 => ?_
  clear fh38 fa38;refine Kn.pure fh39 rfl rfl (.some rfl rfl rfl) (Kn.ex_move fh39 (.tmp rfl)) fun fa40 fh40 => ?_;clear fh39 fa39;refine Kn.pure fh40 rfl rfl (.some rfl rfl rfl) (Kn.ex_nilCheck fh40 (.tmp rfl)) fun fa41 fh41 => ?_;clear fh40 fa40;refine Kn.step fh41 rfl rfl (.some rfl rfl rfl) (Kn.ex_fieldAddr fh41 (.tmp rfl)) fun Ko hKo => ?_;go_simp;(try go_bits);refine hKo _ _ fun fa42 fh42 => ?_;clear hKo Ko fh41 fa41;refine Kn.known fh42 rfl rfl (.some rfl rfl rfl) (Kn.ex_load fh42 (.tmp rfl)) hld fun fa43 fh43 => ?_;clear fh42 fa42;refine Kn.call fh43 rfl rfl (.some rfl rfl rfl) (Kn.ex_call fh43 (.cons (.tmp rfl) .nil)) Tryz.call15 (hck) fun e u2 hp => ?_;obtain ⟨rfl, hb2⟩ := hp;refine ⟨_, rfl, fun fa44 fh44 => ?_⟩;clear fh43 fa43;refine Kn.step fh44 rfl rfl (.some rfl rfl rfl) (Kn.ex_bin fh44 (.tmp rfl) .const) fun Ko hKo => ?_;go_simp;(try go_bits);refine hKo _ _ fun fa45 fh45 => ?_;clear hKo Ko fh44 fa44;refine Kn.pure fh45 rfl rfl .none (Kn.ex_pick fh45 (.tmp rfl) (.tmp rfl)) fun fa46 fh46 => ?_;clear fh45 fa45;refine Kn.pure fh46 rfl rfl .none (Kn.ex_assign fh46 (.tmp rfl)) fun fa47 fh47 => ?_;clear fh46 fa46;refine wpList_nil ?_;refine hK3 _ _ ?_;clear hK3 K3;replace fh47 := fh47.cut (.cons (t := 0) rfl .nil);refine wp_ret ?_;exact Kn.ret1 fh47 rfl rfl ⟨rfl, HB.out.trans (hb2.mono HB.out.size)⟩
end Go.Proofs.YtbahklpdldghbaaGreatDoor.Man
end
section
namespace Go.Proofs.YtbahklpdldghbaaGreatDoor.Man
open Go Go.RowKit Go.Lib RowG
theorem code10 {HT : World → Prop} (hon : ∀ u v, HT u → Below u.heap.size u v → HT v) (hT : ∀ u, HT u → Sha.Tabs u) : Code10 HT where
  hon := hon
  awake := fun u h => awake10 u (hT u h)
  check := fun m A c u hF hM _ => (check_v m A c u hM hF.r).mono fun e v ⟨he, hb⟩ => ⟨⟨_, he, fun g => chkV_good g, fun g => by obtain ⟨k, _, hk⟩ := chkV_not g; exact ⟨_, _, hk⟩⟩, hb⟩
  put := fun m A c u hF hM _ => by
    by_cases g : Good m
    · exact (put_good m A c u g hM hF.r).mono fun e v ⟨⟨s, he, hs⟩, hb⟩ => ⟨⟨s, _, he, fun _ => ⟨rfl, hs⟩, fun q => absurd g q⟩, hb⟩
    · exact (put_not m A c u g hM hF.r).mono fun e v ⟨⟨t, y, he⟩, hb⟩ => ⟨⟨_, _, he, fun q => absurd q g, fun _ => ⟨t, y, rfl⟩⟩, hb⟩
  same := fun a b A B c d u hA hB _ => sameM_any a b A B c d u hA hB
  total := fun m A c u hG hM _ => totalC_any m A c u hM hG.y
  whereIn := fun m A c k u hG hM hk _ => where_in m A c k u hG hM hk
theorem codeS : Code10 Sha.Tabs := code10 (fun _ _ h hb => h.below hb h.size) (fun _ h => h)
end Go.Proofs.YtbahklpdldghbaaGreatDoor.Man
end
section
namespace Go.Proofs.YtbahklpdldghbaaGreatDoor.Man
open Go Go.RowKit Go.Lib RowG
structure K2 (HT : World → Prop) (w : World) (a b : MF) (A B : Option Addr) (c d g g2 : Nat) (u : World) : Prop where
  ht : HT u
  sa : St.St u g 25 #[.int .i64 a.v, .int .i64 a.n, .int .i64 a.e, .slice A a.sh.length c, .int .i64 a.b, .string a.r]
  sb : St.St u g2 25 #[.int .i64 b.v, .int .i64 b.n, .int .i64 b.e, .slice B b.sh.length d, .int .i64 b.b, .string b.r]
  ra : RIn ipR u A a.sh
  rb : RIn ipR u B b.sh
  bl : Below w.heap.size w u
theorem K2.on {HT : World → Prop} {w u u' : World} {a b : MF} {A B : Option Addr} {c d g g2 : Nat} (hon : ∀ u v, HT u → Below u.heap.size u v → HT v) (h : K2 HT w a b A B c d g g2 u) (hb : Below u.heap.size u u') : K2 HT w a b A B c d g g2 u' := ⟨hon u u' h.ht hb, h.sa.on hb, h.sb.on hb, h.ra.on hb, h.rb.on hb, h.bl.trans (hb.mono h.bl.size)⟩
theorem small_m {m : MF} (h : greatM m = false) : m.sh.length ≤ 80 ∧ m.r.size ≤ 100 := by
  unfold greatM at h;rw [Bool.or_eq_false_iff] at h;have h1 := of_decide_eq_false h.1;have h2 := of_decide_eq_false h.2;omega
set_option maxRecDepth 100000 in
set_option maxHeartbeats 600000 in
theorem same_all {HT : World → Prop} (C : Code10 HT) (a b : MF) (A B : Option Addr) (c d : Nat) (w : World) (hT : HT w) (hFa : Fit a) (hFb : Fit b) (hla : a.sh.length ≤ c) (hca : c ≤ maxLen) (hlb : b.sh.length ≤ d) (hdb : d ≤ maxLen) (hA : RIn ipR w A a.sh) (hB : RIn ipR w B b.sh) :
    Calls Tryz.prog 4 #[mV a A c, mV b B d] w fun e w' => e = .returned (.bool true) ∧ Below w.heap.size w w' := by
  unfold mV;refine Kn.calls Tryz.func4 rfl Tryz.ntmps4 rfl (.cons (t := 0) rfl (.cons (t := 1) rfl .nil)) fun fa0 fh0 => ?_;refine wp_seq_k fun K1 hK1 => ?_;refine wp_region_lit ?_;refine Kn.step fh0 rfl rfl .none (Kn.ex_box fh0 (.tmp rfl)) fun Ko hKo => ?_;go_simp;(try go_bits);refine hKo _ _ fun fa1 fh1 => ?_;clear hKo Ko fh0 fa0;refine Kn.step fh1 rfl rfl .none (Kn.ex_box fh1 (.tmp rfl)) fun Ko hKo => ?_;go_simp;(try go_bits);refine hKo _ _ fun fa2 fh2 => ?_;clear hKo Ko fh1 fa1;refine Kn.pure fh2 rfl rfl .none (Kn.ex_assign fh2 .const) fun fa3 fh3 => ?_;clear fh2 fa2;refine wpList_nil ?_;refine hK1 _ _ ?_;clear hK1 K1;replace fh3 := fh3.cut (.cons (t := 4) rfl (.cons (t := 3) rfl (.cons (t := 2) rfl .nil)));refine Kn.gen (fun u => K2 HT w a b A B c d w.heap.size (w.heap.size + 1) u) ⟨C.hon _ _ hT (((Below.refl _ w).alloc (Nat.le_refl _) _).alloc (by simp) _), (St.St.new w _ _).alloc _, (by have := St.St.new (w.alloc (.cells #[.int .i64 a.v, .int .i64 a.n, .int .i64 a.e, .slice A a.sh.length c, .int .i64 a.b, .string a.r] 25)) 25 #[.int .i64 b.v, .int .i64 b.n, .int .i64 b.e, .slice B b.sh.length d, .int .i64 b.b, .string b.r]; simpa using this), hA.on (((Below.refl _ w).alloc (Nat.le_refl _) _).alloc (by simp) _), hB.on (((Below.refl _ w).alloc (Nat.le_refl _) _).alloc (by simp) _), ((Below.refl _ w).alloc (Nat.le_refl _) _).alloc (by simp) _⟩ fun u0 HK0 => ?_;obtain ⟨g, hg⟩ : ∃ g, w.heap.size = g := ⟨_, rfl⟩;obtain ⟨g2, hg2⟩ : ∃ k, g + 1 = k := ⟨_, rfl⟩;rw [hg, hg2] at HK0 fh3;clear hg hg2 hA hB hT;have ha0 := C.awake u0 HK0.ht;refine wp_seq_k fun K2 hK2 => ?_;refine wp_seq_k fun K3 hK3 => ?_;refine wp_region_lit ?_;refine Kn.call fh3 rfl rfl .none (Kn.ex_call fh3 .nil) Tryz.call6 (ha0) fun e u1 hp => ?_;obtain ⟨rfl, hb1⟩ := hp;refine ⟨_, rfl, fun fa4 fh4 => ?_⟩;clear fh3 fa3;refine Kn.step fh4 rfl rfl .none (Kn.ex_un fh4 (.tmp rfl)) fun Ko hKo => ?_;go_simp;(try go_bits);refine hKo _ _ fun fa5 fh5 => ?_;clear hKo Ko fh4 fa4;refine wpList_nil ?_;refine hK3 _ _ ?_;clear hK3 K3;replace fh5 := fh5.cut (.cons (t := 11) rfl (.cons (t := 4) rfl (.cons (t := 3) rfl (.cons (t := 2) rfl .nil))));refine Kn.no fh5 (.tmp rfl) ?_;refine wp_skip ?_;refine hK2 _ _ ?_;clear hK2 K2;replace fh5 := fh5.cut (.cons (t := 4) rfl (.cons (t := 3) rfl (.cons (t := 2) rfl .nil)));have HK1 := Lib.hid (HK0.on C.hon hb1);clear ha0 HK0 hb1;have hga := great_m a A c u1 (Nat.le_trans hla hca) hFa.r;have hlda := loadM HK1.out.sa Tryz.underlying25 rfl (by kernel_rfl)
  by_cases ga : greatM a = true
  · rw [ga] at hga;refine wp_seq_k fun K4 hK4 => ?_;refine wp_seq_k fun K5 hK5 => ?_;refine wp_region_lit ?_;refine Kn.known fh5 rfl rfl .none (Kn.ex_load fh5 (.tmp rfl)) hlda fun fa6 fh6 => ?_;clear fh5 fa5;refine Kn.call fh6 rfl rfl .none (Kn.ex_call fh6 (.cons (.tmp rfl) .nil)) Tryz.call13 (hga) fun e u2 hp => ?_;obtain ⟨rfl, hb2⟩ := hp;refine ⟨_, rfl, fun fa7 fh7 => ?_⟩;clear fh6 fa6;refine Kn.pure fh7 rfl rfl .none (Kn.ex_move fh7 (.tmp rfl)) fun fa8 fh8 => ?_;clear fh7 fa7;refine Kn.skip fh8 rfl rfl (.some rfl rfl rfl) fun fa9 fh9 => ?_;clear fh8 fa8;refine Kn.skip fh9 rfl rfl (.some rfl rfl rfl) fun fa10 fh10 => ?_;clear fh9 fa9;refine Kn.pure fh10 rfl rfl .none (Kn.ex_pick fh10 (.tmp rfl) .const) fun fa11 fh11 => ?_;clear fh10 fa10;refine wpList_nil ?_;refine hK5 _ _ ?_;clear hK5 K5;replace fh11 := fh11.cut (.cons (t := 17) rfl (.cons (t := 4) rfl (.cons (t := 3) rfl (.cons (t := 2) rfl .nil))));refine Kn.yes fh11 (.tmp rfl) ?_;replace fh11 := fh11.cut (.cons (t := 4) rfl (.cons (t := 3) rfl (.cons (t := 2) rfl .nil)));refine wp_seq_k fun K6 hK6 => ?_;refine wp_region_lit ?_;refine Kn.pure fh11 rfl rfl .none (Kn.ex_assign fh11 .const) fun fa12 fh12 => ?_;clear fh11 fa11;refine wpList_nil ?_;refine hK6 _ _ ?_;clear hK6 K6;refine wp_ret ?_;refine Kn.then_ret ?_;exact Kn.ret1 fh12 rfl rfl ⟨rfl, HK1.out.bl.trans (hb2.mono HK1.out.bl.size)⟩
  have ga' := Bool.eq_false_iff.2 ga;rw [ga'] at hga;have hgb : ∀ u2, Below u1.heap.size u1 u2 → Calls Tryz.prog 13 #[.agg #[.int .i64 b.v, .int .i64 b.n, .int .i64 b.e, .slice B b.sh.length d, .int .i64 b.b, .string b.r]] u2 fun e w' => e = .returned (.bool (greatM b)) ∧ Below u2.heap.size u2 w' := fun u2 _ => great_m b B d u2 (Nat.le_trans hlb hdb) hFb.r;have hldb : ∀ u2, Below u1.heap.size u1 u2 → (Instr.loadAt 25 (.pointer (some ⟨g2, 0, none⟩))).run Tryz.prog u2 = .ok (.agg #[.int .i64 b.v, .int .i64 b.n, .int .i64 b.e, .slice B b.sh.length d, .int .i64 b.b, .string b.r]) u2 := fun u2 h => loadM (HK1.out.sb.on h) Tryz.underlying25 rfl (by kernel_rfl)
  by_cases gb : greatM b = true
  · rw [gb] at hgb;refine wp_seq_k fun K4 hK4 => ?_;refine wp_seq_k fun K5 hK5 => ?_;refine wp_region_lit ?_;refine Kn.known fh5 rfl rfl .none (Kn.ex_load fh5 (.tmp rfl)) hlda fun fa6 fh6 => ?_;clear fh5 fa5;refine Kn.call fh6 rfl rfl .none (Kn.ex_call fh6 (.cons (.tmp rfl) .nil)) Tryz.call13 (hga) fun e u2 hp => ?_;obtain ⟨rfl, hb2⟩ := hp;refine ⟨_, rfl, fun fa7 fh7 => ?_⟩;clear fh6 fa6;have hgb2 := hgb u2 hb2;have hldb2 := hldb u2 hb2;refine Kn.pure fh7 rfl rfl .none (Kn.ex_move fh7 (.tmp rfl)) fun fa8 fh8 => ?_;clear fh7 fa7;refine Kn.known fh8 rfl rfl (.some rfl rfl rfl) (Kn.ex_load fh8 (.tmp rfl)) hldb2 fun fa9 fh9 => ?_;clear fh8 fa8;refine Kn.call fh9 rfl rfl (.some rfl rfl rfl) (Kn.ex_call fh9 (.cons (.tmp rfl) .nil)) Tryz.call13 (hgb2) fun e u3 hp => ?_;obtain ⟨rfl, hb3⟩ := hp;refine ⟨_, rfl, fun fa10 fh10 => ?_⟩;clear fh9 fa9;refine Kn.pure fh10 rfl rfl .none (Kn.ex_pick fh10 (.tmp rfl) (.tmp rfl)) fun fa11 fh11 => ?_;clear fh10 fa10;refine wpList_nil ?_;refine hK5 _ _ ?_;clear hK5 K5;replace fh11 := fh11.cut (.cons (t := 17) rfl (.cons (t := 4) rfl (.cons (t := 3) rfl (.cons (t := 2) rfl .nil))));refine Kn.yes fh11 (.tmp rfl) ?_;replace fh11 := fh11.cut (.cons (t := 4) rfl (.cons (t := 3) rfl (.cons (t := 2) rfl .nil)));refine wp_seq_k fun K6 hK6 => ?_;refine wp_region_lit ?_;refine Kn.pure fh11 rfl rfl .none (Kn.ex_assign fh11 .const) fun fa12 fh12 => ?_;clear fh11 fa11;refine wpList_nil ?_;refine hK6 _ _ ?_;clear hK6 K6;refine wp_ret ?_;refine Kn.then_ret ?_;exact Kn.ret1 fh12 rfl rfl ⟨rfl, (HK1.out.on C.hon hb2 |>.on C.hon hb3).bl⟩
  have gb' := Bool.eq_false_iff.2 gb;rw [gb'] at hgb;refine wp_seq_k fun K4 hK4 => ?_;refine wp_seq_k fun K5 hK5 => ?_;refine wp_region_lit ?_;refine Kn.known fh5 rfl rfl .none (Kn.ex_load fh5 (.tmp rfl)) hlda fun fa6 fh6 => ?_;clear fh5 fa5;refine Kn.call fh6 rfl rfl .none (Kn.ex_call fh6 (.cons (.tmp rfl) .nil)) Tryz.call13 (hga) fun e u2 hp => ?_;obtain ⟨rfl, hb2⟩ := hp;refine ⟨_, rfl, fun fa7 fh7 => ?_⟩;clear fh6 fa6;have hgb2 := hgb u2 hb2;have hldb2 := hldb u2 hb2;refine Kn.pure fh7 rfl rfl .none (Kn.ex_move fh7 (.tmp rfl)) fun fa8 fh8 => ?_;clear fh7 fa7;refine Kn.known fh8 rfl rfl (.some rfl rfl rfl) (Kn.ex_load fh8 (.tmp rfl)) hldb2 fun fa9 fh9 => ?_;clear fh8 fa8;refine Kn.call fh9 rfl rfl (.some rfl rfl rfl) (Kn.ex_call fh9 (.cons (.tmp rfl) .nil)) Tryz.call13 (hgb2) fun e u3 hp => ?_;obtain ⟨rfl, hb3⟩ := hp;refine ⟨_, rfl, fun fa10 fh10 => ?_⟩;clear fh9 fa9;refine Kn.pure fh10 rfl rfl .none (Kn.ex_pick fh10 (.tmp rfl) (.tmp rfl)) fun fa11 fh11 => ?_;clear fh10 fa10;refine wpList_nil ?_;refine hK5 _ _ ?_;clear hK5 K5;replace fh11 := fh11.cut (.cons (t := 17) rfl (.cons (t := 4) rfl (.cons (t := 3) rfl (.cons (t := 2) rfl .nil))));refine Kn.no fh11 (.tmp rfl) ?_;refine wp_skip ?_;refine hK4 _ _ ?_;clear hK4 K4;replace fh11 := fh11.cut (.cons (t := 4) rfl (.cons (t := 3) rfl (.cons (t := 2) rfl .nil)));have HK3 := Lib.hid ((HK1.out.on C.hon hb2).on C.hon hb3);have hsa := small_m ga';have hsb := small_m gb';clear hga hgb hlda hldb HK1 hb2 hb3 ga gb ga' gb' hgb2 hldb2;have hMa : ∀ u, K2 HT w a b A B c d g g2 u → MIn a A c u := fun u h => ⟨h.ra, hla, hca, by omega⟩;have hMb : ∀ u, K2 HT w a b A B c d g g2 u → MIn b B d u := fun u h => ⟨h.rb, hlb, hdb, by omega⟩;have HMA := Lib.hid hMa;have HMB := Lib.hid hMb;have hlda : ∀ u, K2 HT w a b A B c d g g2 u → (Instr.loadAt 25 (.pointer (some ⟨g, 0, none⟩))).run Tryz.prog u = .ok (.agg #[.int .i64 a.v, .int .i64 a.n, .int .i64 a.e, .slice A a.sh.length c, .int .i64 a.b, .string a.r]) u := fun u h => loadM h.sa Tryz.underlying25 rfl (by kernel_rfl);have hldb : ∀ u, K2 HT w a b A B c d g g2 u → (Instr.loadAt 25 (.pointer (some ⟨g2, 0, none⟩))).run Tryz.prog u = .ok (.agg #[.int .i64 b.v, .int .i64 b.n, .int .i64 b.e, .slice B b.sh.length d, .int .i64 b.b, .string b.r]) u := fun u h => loadM h.sb Tryz.underlying25 rfl (by kernel_rfl);have HLA := Lib.hid hlda;have HLB := Lib.hid hldb;clear hMa hMb hlda hldb hla hlb hsa hsb;obtain ⟨r, hr⟩ : ∃ r, decide (a = b) = r := ⟨_, rfl⟩;have HR := Lib.hid hr;have hrs := fun u h => same_any a b A B c d u (HMA.out u h) (HMB.out u h);have hcs := fun u h => C.same a b A B c d u (HMA.out u h) (HMB.out u h) h.ht;simp only [hr] at hrs hcs;have HRS := Lib.hid hrs;have HCS := Lib.hid hcs;clear hrs hcs hr;refine wp_seq_k fun K6 hK6 => ?_;refine wp_region_lit ?_;refine Kn.known fh11 rfl rfl .none (Kn.ex_load fh11 (.tmp rfl)) (HLA.out _ HK3.out) fun fa12 fh12 => ?_;clear fh11 fa11;refine Kn.known fh12 rfl rfl .none (Kn.ex_load fh12 (.tmp rfl)) (HLB.out _ HK3.out) fun fa13 fh13 => ?_;clear fh12 fa12;refine Kn.call fh13 rfl rfl .none (Kn.ex_call fh13 (.cons (.tmp rfl) (.cons (.tmp rfl) .nil))) Tryz.call9 (HRS.out _ HK3.out) fun e u4 hp => ?_;obtain ⟨rfl, hb4⟩ := hp;refine ⟨_, rfl, fun fa14 fh14 => ?_⟩;clear fh13 fa13;refine Kn.pure fh14 rfl rfl .none (Kn.ex_assign fh14 (.tmp rfl)) fun fa15 fh15 => ?_;clear fh14 fa14;refine wpList_nil ?_;refine hK6 _ _ ?_;clear hK6 K6;replace fh15 := fh15.cut (.cons (t := 5) rfl (.cons (t := 4) rfl (.cons (t := 3) rfl (.cons (t := 2) rfl .nil))));have HK4 := Lib.hid (HK3.out.on C.hon hb4);clear HK3 hb4;have rr : (r != r) = false := by cases r <;> rfl
  have rr2 : (r == r) = true := by cases r <;> rfl
  refine wp_seq_k fun K7 hK7 => ?_;refine wp_seq_k fun K8 hK8 => ?_;refine wp_region_lit ?_;refine Kn.known fh15 rfl rfl .none (Kn.ex_load fh15 (.tmp rfl)) (HLA.out _ HK4.out) fun fa16 fh16 => ?_;clear fh15 fa15;refine Kn.known fh16 rfl rfl .none (Kn.ex_load fh16 (.tmp rfl)) (HLB.out _ HK4.out) fun fa17 fh17 => ?_;clear fh16 fa16;refine Kn.call fh17 rfl rfl .none (Kn.ex_call fh17 (.cons (.tmp rfl) (.cons (.tmp rfl) .nil))) Tryz.call14 (HCS.out _ HK4.out) fun e u5 hp => ?_;obtain ⟨rfl, hb5⟩ := hp;refine ⟨_, rfl, fun fa18 fh18 => ?_⟩;clear fh17 fa17;refine Kn.pure fh18 rfl rfl .none (Kn.ex_move fh18 (.tmp rfl)) fun fa19 fh19 => ?_;clear fh18 fa18;refine Kn.step fh19 rfl rfl .none (Kn.ex_bin fh19 (.tmp rfl) (.tmp rfl)) fun Ko hKo => ?_;go_simp;(try go_bits);refine hKo _ _ fun fa20 fh20 => ?_;clear hKo Ko fh19 fa19;refine wpList_nil ?_;refine hK8 _ _ ?_;clear hK8 K8;replace fh20 := fh20.cut (.cons (t := 25) rfl (.cons (t := 5) rfl (.cons (t := 4) rfl (.cons (t := 3) rfl (.cons (t := 2) rfl .nil)))));refine Kn.no fh20 (.tmp rfl) ?_;refine wp_skip ?_;refine hK7 _ _ ?_;clear hK7 K7;replace fh20 := fh20.cut (.cons (t := 5) rfl (.cons (t := 4) rfl (.cons (t := 3) rfl (.cons (t := 2) rfl .nil))));have HK5 := Lib.hid (HK4.out.on C.hon hb5);clear HK4 hb5 rr rr2;refine wp_seq_k fun K9 hK9 => ?_;refine wp_region_lit ?_;refine Kn.known fh20 rfl rfl .none (Kn.ex_load fh20 (.tmp rfl)) (HLA.out _ HK5.out) fun fa21 fh21 => ?_;clear fh20 fa20;refine Kn.call fh21 rfl rfl .none (Kn.ex_call fh21 (.cons (.tmp rfl) .nil)) Tryz.call11 (C.put a A c _ hFa (HMA.out _ HK5.out) HK5.out.ht) fun e u6 hp => ?_;obtain ⟨⟨s1, x1, rfl, hp1, hn1⟩, hb6⟩ := hp;refine ⟨_, rfl, fun fa22 fh22 => ?_⟩;clear fh21 fa21;refine Kn.pure fh22 rfl rfl .none (Kn.ex_move fh22 (.tmp rfl)) fun fa23 fh23 => ?_;clear fh22 fa22;refine Kn.pure fh23 rfl rfl .none (Kn.ex_extract fh23 (.tmp rfl) rfl) fun fa24 fh24 => ?_;clear fh23 fa23;refine Kn.pure fh24 rfl rfl .none (Kn.ex_extract fh24 (.tmp rfl) rfl) fun fa25 fh25 => ?_;clear fh24 fa24;refine Kn.pure fh25 rfl rfl .none (Kn.ex_assign fh25 (.tmp rfl)) fun fa26 fh26 => ?_;clear fh25 fa25;refine Kn.pure fh26 rfl rfl .none (Kn.ex_assign fh26 (.tmp rfl)) fun fa27 fh27 => ?_;clear fh26 fa26;refine wpList_nil ?_;refine hK9 _ _ ?_;clear hK9 K9;replace fh27 := fh27.cut (.cons (t := 7) rfl (.cons (t := 6) rfl (.cons (t := 5) rfl (.cons (t := 4) rfl (.cons (t := 3) rfl .nil)))));have HK6 := Lib.hid (HK5.out.on C.hon hb6);clear HK5 hb6;refine wp_seq_k fun K10 hK10 => ?_;refine wp_region_lit ?_;refine Kn.known fh27 rfl rfl .none (Kn.ex_load fh27 (.tmp rfl)) (HLB.out _ HK6.out) fun fa28 fh28 => ?_;clear fh27 fa27;refine Kn.call fh28 rfl rfl .none (Kn.ex_call fh28 (.cons (.tmp rfl) .nil)) Tryz.call11 (C.put b B d _ hFb (HMB.out _ HK6.out) HK6.out.ht) fun e u7 hp => ?_;obtain ⟨⟨s2, x2, rfl, hp2, hn2⟩, hb7⟩ := hp;refine ⟨_, rfl, fun fa29 fh29 => ?_⟩;clear fh28 fa28;refine Kn.pure fh29 rfl rfl .none (Kn.ex_move fh29 (.tmp rfl)) fun fa30 fh30 => ?_;clear fh29 fa29;refine Kn.pure fh30 rfl rfl .none (Kn.ex_extract fh30 (.tmp rfl) rfl) fun fa31 fh31 => ?_;clear fh30 fa30;refine Kn.pure fh31 rfl rfl .none (Kn.ex_extract fh31 (.tmp rfl) rfl) fun fa32 fh32 => ?_;clear fh31 fa31;refine Kn.pure fh32 rfl rfl .none (Kn.ex_assign fh32 (.tmp rfl)) fun fa33 fh33 => ?_;clear fh32 fa32;refine Kn.pure fh33 rfl rfl .none (Kn.ex_assign fh33 (.tmp rfl)) fun fa34 fh34 => ?_;clear fh33 fa33;refine wpList_nil ?_;refine hK10 _ _ ?_;clear hK10 K10;replace fh34 := fh34.cut (.cons (t := 9) rfl (.cons (t := 8) rfl (.cons (t := 7) rfl (.cons (t := 6) rfl (.cons (t := 5) rfl (.cons (t := 4) rfl .nil))))));have HK7 := Lib.hid (HK6.out.on C.hon hb7);clear HK6 hb7
  by_cases g1 : Good a
  rotate_left
  · obtain ⟨t, y, rfl⟩ := hn1 g1;refine wp_seq_k fun K11 hK11 => ?_;refine wp_region_lit ?_;refine Kn.pure fh34 rfl rfl .none (Kn.ex_move fh34 (.tmp rfl)) fun fa35 fh35 => ?_;clear fh34 fa34;refine Kn.step fh35 rfl rfl .none (Kn.ex_bin fh35 (.tmp rfl) .const) fun Ko hKo => ?_;go_simp;(try go_bits);refine hKo _ _ fun fa36 fh36 => ?_;clear hKo Ko fh35 fa35;refine Kn.pure fh36 rfl rfl .none (Kn.ex_move fh36 (.tmp rfl)) fun fa37 fh37 => ?_;clear fh36 fa36;refine Kn.skip fh37 rfl rfl (.some rfl rfl rfl) fun fa38 fh38 => ?_;clear fh37 fa37;refine Kn.skip fh38 rfl rfl (.some rfl rfl rfl) fun fa39 fh39 => ?_;clear fh38 fa38;refine Kn.pure fh39 rfl rfl .none (Kn.ex_pick fh39 (.tmp rfl) .const) fun fa40 fh40 => ?_;clear fh39 fa39;refine Kn.pure fh40 rfl rfl .none (Kn.ex_move fh40 (.tmp rfl)) fun fa41 fh41 => ?_;clear fh40 fa40;refine Kn.skip fh41 rfl rfl (.some rfl rfl rfl) fun fa42 fh42 => ?_;clear fh41 fa41;refine Kn.skip fh42 rfl rfl (.some rfl rfl rfl) fun fa43 fh43 => ?_;clear fh42 fa42;refine Kn.skip fh43 rfl rfl (.some rfl rfl rfl) fun fa44 fh44 => ?_;clear fh43 fa43;refine Kn.skip fh44 rfl rfl (.some rfl rfl rfl) fun fa45 fh45 => ?_;clear fh44 fa44;refine Kn.skip fh45 rfl rfl (.some rfl rfl rfl) fun fa46 fh46 => ?_;clear fh45 fa45;refine Kn.pure fh46 rfl rfl .none (Kn.ex_pick fh46 (.tmp rfl) .const) fun fa47 fh47 => ?_;clear fh46 fa46;refine Kn.pure fh47 rfl rfl .none (Kn.ex_assign fh47 (.tmp rfl)) fun fa48 fh48 => ?_;clear fh47 fa47;refine wpList_nil ?_;refine hK11 _ _ ?_;clear hK11 K11;replace fh48 := fh48.cut (.cons (t := 4) rfl .nil);refine wp_ret ?_;exact Kn.ret1 fh48 rfl rfl ⟨rfl, HK7.out.bl⟩
  obtain ⟨rfl, e1⟩ := hp1 g1
  by_cases g3 : Good b
  rotate_left
  · obtain ⟨t, y, rfl⟩ := hn2 g3;refine wp_seq_k fun K11 hK11 => ?_;refine wp_region_lit ?_;refine Kn.pure fh34 rfl rfl .none (Kn.ex_move fh34 (.tmp rfl)) fun fa35 fh35 => ?_;clear fh34 fa34;refine Kn.step fh35 rfl rfl .none (Kn.ex_bin fh35 (.tmp rfl) .const) fun Ko hKo => ?_;go_simp;(try go_bits);refine hKo _ _ fun fa36 fh36 => ?_;clear hKo Ko fh35 fa35;refine Kn.pure fh36 rfl rfl .none (Kn.ex_move fh36 (.tmp rfl)) fun fa37 fh37 => ?_;clear fh36 fa36;refine Kn.pure fh37 rfl rfl (.some rfl rfl rfl) (Kn.ex_move fh37 (.tmp rfl)) fun fa38 fh38 => ?_;clear fh37 fa37;refine Kn.step fh38 rfl rfl (.some rfl rfl rfl) (Kn.ex_bin fh38 (.tmp rfl) .const) fun Ko hKo => ?_;go_simp;(try go_bits);refine hKo _ _ fun fa39 fh39 => ?_;clear hKo Ko fh38 fa38;refine Kn.pure fh39 rfl rfl .none (Kn.ex_pick fh39 (.tmp rfl) (.tmp rfl)) fun fa40 fh40 => ?_;clear fh39 fa39;refine Kn.pure fh40 rfl rfl .none (Kn.ex_move fh40 (.tmp rfl)) fun fa41 fh41 => ?_;clear fh40 fa40;refine Kn.skip fh41 rfl rfl (.some rfl rfl rfl) fun fa42 fh42 => ?_;clear fh41 fa41;refine Kn.skip fh42 rfl rfl (.some rfl rfl rfl) fun fa43 fh43 => ?_;clear fh42 fa42;refine Kn.skip fh43 rfl rfl (.some rfl rfl rfl) fun fa44 fh44 => ?_;clear fh43 fa43;refine Kn.skip fh44 rfl rfl (.some rfl rfl rfl) fun fa45 fh45 => ?_;clear fh44 fa44;refine Kn.skip fh45 rfl rfl (.some rfl rfl rfl) fun fa46 fh46 => ?_;clear fh45 fa45;refine Kn.pure fh46 rfl rfl .none (Kn.ex_pick fh46 (.tmp rfl) .const) fun fa47 fh47 => ?_;clear fh46 fa46;refine Kn.pure fh47 rfl rfl .none (Kn.ex_assign fh47 (.tmp rfl)) fun fa48 fh48 => ?_;clear fh47 fa47;refine wpList_nil ?_;refine hK11 _ _ ?_;clear hK11 K11;replace fh48 := fh48.cut (.cons (t := 4) rfl .nil);refine wp_ret ?_;exact Kn.ret1 fh48 rfl rfl ⟨rfl, HK7.out.bl⟩
  obtain ⟨rfl, e2⟩ := hp2 g3
  have hs : (s1.toList == s2.toList) = r := by
    rw [← HR.out]
    by_cases hab : a = b
    · rw [decide_eq_true hab];refine tx_eq ?_
      apply ByteArray.ext
      apply Array.toList_inj.1
      rw [e1, e2, hab]
    · rw [decide_eq_false hab];exact tx_ne fun h => hab (putM_inj g1 g3 (by rw [← e1, ← e2, h]))
  have rr2 : (r == r) = true := by cases r <;> rfl
  clear hp1 hp2 hn1 hn2 e1 e2;refine wp_seq_k fun K11 hK11 => ?_;refine wp_region_lit ?_;refine Kn.pure fh34 rfl rfl .none (Kn.ex_move fh34 (.tmp rfl)) fun fa35 fh35 => ?_;clear fh34 fa34;refine Kn.step fh35 rfl rfl .none (Kn.ex_bin fh35 (.tmp rfl) .const) fun Ko hKo => ?_;go_simp;(try go_bits);refine hKo _ _ fun fa36 fh36 => ?_;clear hKo Ko fh35 fa35;refine Kn.pure fh36 rfl rfl .none (Kn.ex_move fh36 (.tmp rfl)) fun fa37 fh37 => ?_;clear fh36 fa36;refine Kn.pure fh37 rfl rfl (.some rfl rfl rfl) (Kn.ex_move fh37 (.tmp rfl)) fun fa38 fh38 => ?_;clear fh37 fa37;refine Kn.step fh38 rfl rfl (.some rfl rfl rfl) (Kn.ex_bin fh38 (.tmp rfl) .const) fun Ko hKo => ?_;go_simp;(try go_bits);refine hKo _ _ fun fa39 fh39 => ?_;clear hKo Ko fh38 fa38;refine Kn.pure fh39 rfl rfl .none (Kn.ex_pick fh39 (.tmp rfl) (.tmp rfl)) fun fa40 fh40 => ?_;clear fh39 fa39;refine Kn.pure fh40 rfl rfl .none (Kn.ex_move fh40 (.tmp rfl)) fun fa41 fh41 => ?_;clear fh40 fa40;refine Kn.pure fh41 rfl rfl (.some rfl rfl rfl) (Kn.ex_move fh41 (.tmp rfl)) fun fa42 fh42 => ?_;clear fh41 fa41;refine Kn.pure fh42 rfl rfl (.some rfl rfl rfl) (Kn.ex_move fh42 (.tmp rfl)) fun fa43 fh43 => ?_;clear fh42 fa42;refine Kn.step fh43 rfl rfl (.some rfl rfl rfl) (Kn.ex_bin fh43 (.tmp rfl) (.tmp rfl)) fun Ko hKo => ?_;go_simp;(try go_bits);refine hKo _ _ fun fa44 fh44 => ?_;clear hKo Ko fh43 fa43;refine Kn.pure fh44 rfl rfl (.some rfl rfl rfl) (Kn.ex_move fh44 (.tmp rfl)) fun fa45 fh45 => ?_;clear fh44 fa44;refine Kn.step fh45 rfl rfl (.some rfl rfl rfl) (Kn.ex_bin fh45 (.tmp rfl) (.tmp rfl)) fun Ko hKo => ?_;go_simp;(try go_bits);refine hKo _ _ fun fa46 fh46 => ?_;clear hKo Ko fh45 fa45;refine Kn.pure fh46 rfl rfl .none (Kn.ex_pick fh46 (.tmp rfl) (.tmp rfl)) fun fa47 fh47 => ?_;clear fh46 fa46;refine Kn.pure fh47 rfl rfl .none (Kn.ex_assign fh47 (.tmp rfl)) fun fa48 fh48 => ?_;clear fh47 fa47;refine wpList_nil ?_;refine hK11 _ _ ?_;clear hK11 K11;replace fh48 := fh48.cut (.cons (t := 4) rfl .nil);refine wp_ret ?_;exact Kn.ret1 fh48 rfl rfl ⟨by first | rfl | simp, HK7.out.bl⟩
end Go.Proofs.YtbahklpdldghbaaGreatDoor.Man
end
section
namespace Go.Proofs.YtbahklpdldghbaaGreatDoor.Agg6
open Go.ChangeShapes Go.WideShapes Go.RowKit Go.Joins Go.Deep
theorem array6 {a : Array Value} (h : a.size = 6) : ∃ c0 c1 c2 c3 c4 c5, a = #[c0, c1, c2, c3, c4, c5] := by
  obtain ⟨l⟩ := a
  match l, h with
  | [c0, c1, c2, c3, c4, c5], _ => exact ⟨c0, c1, c2, c3, c4, c5, rfl⟩
section
variable {H : Type} {enc : TypeId × Value → H} {P : Program} {w : World} {base : Nat} {spare : Nat → Bool} {held : Bool}
theorem open_agg6 {r : Reach} {b0 : Nat} {t : TypeId} {f0 f1 f2 f3 f4 f5 : Field} {v : Value} {d : DataW H} {p : List MemPlace} (hs : P.underlying t = some (.struct #[f0, f1, f2, f3, f4, f5])) (hone : oneCellFields P #[f0, f1, f2, f3, f4, f5] = true) (hC : P.cellsOf t = 6)
    (hv : Value.okWide P w r b0 t v) (h : DataW.Trod enc P w base spare held t v d p) :
    ∃ (v0 v1 v2 v3 v4 v5 : Value) (y0 y1 y2 y3 y4 y5 : DataW H × List MemPlace) (n : Nat), v = .agg #[v0, v1, v2, v3, v4, v5] ∧ d = .agg [y0.1, y1.1, y2.1, y3.1, y4.1, y5.1] ∧ p = y0.2 ++ (y1.2 ++ (y2.2 ++ (y3.2 ++ (y4.2 ++ y5.2)))) ∧
      DataW.trod enc P w base spare held n f0.type [v0] = some y0 ∧ DataW.trod enc P w base spare held n f1.type [v1] = some y1 ∧ DataW.trod enc P w base spare held n f2.type [v2] = some y2 ∧ DataW.trod enc P w base spare held n f3.type [v3] = some y3 ∧ DataW.trod enc P w base spare held n f4.type [v4] = some y4 ∧ DataW.trod enc P w base spare held n f5.type [v5] = some y5 := by
  obtain ⟨cs, rfl, hsz⟩ := okWide_struct hs hv;obtain ⟨c0, c1, c2, c3, c4, c5, rfl⟩ := array6 (hsz.trans hC);obtain ⟨fuel, hf⟩ := h;obtain ⟨xs, n, _, hx, hl, hlen, hg⟩ := DataW.trod_struct hs hf
  match xs, hlen with
  | [y0, y1, y2, y3, y4, y5], _ =>
    obtain ⟨o0, k0⟩ := hone_of hone 0 f0 rfl;obtain ⟨o1, k1⟩ := hone_of hone 1 f1 rfl;obtain ⟨o2, k2⟩ := hone_of hone 2 f2 rfl;obtain ⟨o3, k3⟩ := hone_of hone 3 f3 rfl;obtain ⟨o4, k4⟩ := hone_of hone 4 f4 rfl;obtain ⟨o5, k5⟩ := hone_of hone 5 f5 rfl;simp only [Prod.mk.injEq] at hx;refine ⟨c0, c1, c2, c3, c4, c5, y0, y1, y2, y3, y4, y5, n, rfl, by simpa using hx.1, by simpa using hx.2, ?_, ?_, ?_, ?_, ?_, ?_⟩
    · simpa [Value.cells, o0, k0] using hg 0 f0 rfl
    · simpa [Value.cells, o1, k1] using hg 1 f1 rfl
    · simpa [Value.cells, o2, k2] using hg 2 f2 rfl
    · simpa [Value.cells, o3, k3] using hg 3 f3 rfl
    · simpa [Value.cells, o4, k4] using hg 4 f4 rfl
    · simpa [Value.cells, o5, k5] using hg 5 f5 rfl
end
theorem shards_in1 {H : Type} {enc : TypeId × Value → H} {W : World} {base : Nat} {spare : Nat → Bool} {held : Bool} {fuel : Nat} {u : Value} {x : DataW H × List MemPlace} (hf : DataW.trod enc Tryz.prog W base spare held fuel 23 [u] = some x) :
    ∃ A n c, ∃ l : List (Int × Int), u = .slice A n c ∧ n = l.length ∧ n ≤ c ∧ c ≤ maxLen ∧ RowG.RIn RowG.ipR W A l ∧ ∀ p ∈ l, (-9223372036854775808 ≤ p.1 ∧ p.1 ≤ 9223372036854775807) ∧ (-9223372036854775808 ≤ p.2 ∧ p.2 ≤ 9223372036854775807) := by
  rcases Deep.open_slice_pairs Tryz.underlying23 Tryz.underlying42 (by kernel_rfl) rfl rfl (by kernel_rfl) (by kernel_rfl) hf with ⟨hcs, _⟩ | ⟨a, len, cap, m, n', V0, V1, D0, D1, P0, P1, hcs, _, hl, hm, hmm, _, hi⟩
  · simp at hcs;subst hcs;exact ⟨_, _, _, [], rfl, rfl, Nat.le_refl _, Nat.zero_le _, RowG.RIn.nil, fun p h => by cases h⟩
  · simp at hcs;subst hcs;have hnm : len ≤ m := by rw [hmm]; split <;> omega
    have hv : ∀ i, i < len → ∃ p q : Int, V0 i = .int .i64 p ∧ V1 i = .int .i64 q ∧ (Lit.int .i64 p).wf = true ∧ (Lit.int .i64 q).wf = true := fun i hin => by
      obtain ⟨_, _, h3, h4⟩ := hi i (by omega);obtain ⟨p, e1, _, w1⟩ := DataW.trod_int Tryz.underlying3 h3;obtain ⟨q, e2, _, w2⟩ := DataW.trod_int Tryz.underlying3 h4;exact ⟨p, q, by simpa using e1, by simpa using e2, w1, w2⟩
    refine ⟨_, _, _, (List.range len).map fun i => (RowKit.intOf (V0 i), RowKit.intOf (V1 i)), rfl, by simp, hl, hm, fun i p hp => ?_, fun p hp => ?_⟩
    · have hin : i < len := by
        have := (List.getElem?_eq_some_iff.1 hp).1
        simpa using this
      have hpe : p = (RowKit.intOf (V0 i), RowKit.intOf (V1 i)) := by
        rw [List.getElem?_map, List.getElem?_range hin] at hp
        simpa using hp.symm
      obtain ⟨h1, h2, _, _⟩ := hi i (by omega);obtain ⟨q1, q2, e1, e2, _, _⟩ := hv i hin;obtain ⟨b, off, spot⟩ := a;have hspot : spot = none := by simpa [Addr.add] using World.cell?_spot (hi 0 (by omega)).1
      subst hspot;rw [RowG.addr_add] at h1 h2;rw [hpe, e1, e2];rw [e1] at h1;rw [e2] at h2;refine ⟨b, off, rfl, World.block_lt_of_cell? _ _ h1, fun j v hj => ?_⟩
      match j, hj with
      | 0, hj =>
        injection hj with hj
        subst hj;exact h1
      | 1, hj =>
        injection hj with hj
        subst hj;exact h2
      | j + 2, hj => simp [RowG.ipR] at hj
    · obtain ⟨i, hir, rfl⟩ := List.mem_map.1 hp;have hin : i < len := List.mem_range.1 hir;obtain ⟨q1, q2, e1, e2, w1, w2⟩ := hv i hin;rw [e1, e2];exact ⟨bounds_i64 w1, bounds_i64 w2⟩
end Go.Proofs.YtbahklpdldghbaaGreatDoor.Agg6
end
section
namespace Go.Proofs.YtbahklpdldghbaaGreatDoor.manifestSame
open Go.ChangeShapes Go.WideShapes Go.ChangeAt Go.RowKit Go.Joins
open Go.ChangeMaps (open_string shut_string)
set_option linter.unusedVariables false
theorem laidOut : laidOutB Tryz.prog = true := by kernel_rfl
set_option maxRecDepth 100000 in
theorem contract (H : Type) (enc : TypeId × Value → H) (W : World) (base : Nat) (args : Array Value) (ds gs : List (DataW H)) (before : List MemPlace)
    (hval : ∀ (j : Nat) t v, Tryz.f4.params[j]? = some t → args[j]? = some v → Value.okWide Tryz.prog W .any base t v)
    (hW : DataW.Whole enc Tryz.prog Tryz.f4.params.toList Rows.manifestSameSpec.vars false W args.toList ds gs before)
    (hsz : (DataW.weightsEach Tryz.prog (Tryz.f4.params.toList ++ (OpenSpec.ofChange Rows.manifestSameSpec).bare.plain.varTypes Tryz.prog) (ds ++ gs)).all (· ≤ reachBytes) = true) (hL : laidMetH Tryz.prog Rows.manifestSameRow.laid W) :
    Calls Tryz.prog 4 args W fun e W' => ∃ v, e = .returned v ∧ Rows.manifestSameSpec.post enc Tryz.prog Tryz.f4 false true false false W args v W' := by
  have hW' := hW;have hg := Sha.tabs_of_laid hL;obtain ⟨p, q, hA0, hV, rfl, hfz, hnd⟩ := hW;have hA : DataW.TrodAll enc Tryz.prog W 0 (fun _ => true) true Tryz.f4.params.toList args.toList ds p := hA0;rw [Tryz.params4] at hA hval hsz;obtain ⟨v0, vs0, d0, ds0, p0, q0, hargs, rfl, rfl, h0, s0⟩ := trodAll_cons hA;obtain ⟨v1, vs1, d1, ds1, p1, q1, rfl, rfl, rfl, h1, s1⟩ := trodAll_cons s0;obtain ⟨rfl, rfl, rfl⟩ := trodAll_nil s1;obtain rfl : args = #[v0, v1] := by cases args; simp_all
  obtain ⟨rfl, rfl⟩ := trodVars_none hV;have k0 := h0;have lt0 : ∀ x ∈ p0, x.block < W.heap.size := by obtain ⟨m, hm⟩ := k0; exact DataW.trod_lt m _ _ _ hm
  obtain ⟨u0_0, u0_1, u0_2, u0_3, u0_4, u0_5, g0_0, g0_1, g0_2, g0_3, g0_4, g0_5, fu0, rfl, rfl, rfl, t0_0, t0_1, t0_2, t0_3, t0_4, t0_5⟩ := Agg6.open_agg6 Tryz.underlying25 (by kernel_rfl) (show Tryz.prog.cellsOf 25 = 6 by kernel_rfl) (hval 0 25 v0 rfl rfl) h0;obtain ⟨e0_0, cc0_0, -, z0_0⟩ := DataW.trod_int Tryz.underlying3 t0_0;simp at cc0_0;subst cc0_0;have bz0_0 := bounds_i64 z0_0;obtain ⟨e0_1, cc0_1, -, z0_1⟩ := DataW.trod_int Tryz.underlying3 t0_1;simp at cc0_1;subst cc0_1;have bz0_1 := bounds_i64 z0_1;obtain ⟨e0_2, cc0_2, -, z0_2⟩ := DataW.trod_int Tryz.underlying3 t0_2;simp at cc0_2;subst cc0_2;have bz0_2 := bounds_i64 z0_2;obtain ⟨A0, n0, c0, l0, rfl, e0, nc0, cm0, r0, b0⟩ := Agg6.shards_in1 (show DataW.trod enc Tryz.prog W 0 (fun _ => true) true fu0 23 [u0_3] = some g0_3 from t0_3);subst e0;have m0 : l0.length ≤ maxLen := Nat.le_trans nc0 cm0;obtain ⟨e0_4, cc0_4, -, z0_4⟩ := DataW.trod_int Tryz.underlying3 t0_4;simp at cc0_4;subst cc0_4;have bz0_4 := bounds_i64 z0_4;obtain ⟨s0_5, cc0_5, -, z0_5⟩ := DataW.trod_string Tryz.underlying9 t0_5;simp at cc0_5;subst cc0_5;have k1 := h1;have lt1 : ∀ x ∈ p1, x.block < W.heap.size := by obtain ⟨m, hm⟩ := k1; exact DataW.trod_lt m _ _ _ hm
  obtain ⟨u1_0, u1_1, u1_2, u1_3, u1_4, u1_5, g1_0, g1_1, g1_2, g1_3, g1_4, g1_5, fu1, rfl, rfl, rfl, t1_0, t1_1, t1_2, t1_3, t1_4, t1_5⟩ := Agg6.open_agg6 Tryz.underlying25 (by kernel_rfl) (show Tryz.prog.cellsOf 25 = 6 by kernel_rfl) (hval 1 25 v1 rfl rfl) h1;obtain ⟨e1_0, cc1_0, -, z1_0⟩ := DataW.trod_int Tryz.underlying3 t1_0;simp at cc1_0;subst cc1_0;have bz1_0 := bounds_i64 z1_0;obtain ⟨e1_1, cc1_1, -, z1_1⟩ := DataW.trod_int Tryz.underlying3 t1_1;simp at cc1_1;subst cc1_1;have bz1_1 := bounds_i64 z1_1;obtain ⟨e1_2, cc1_2, -, z1_2⟩ := DataW.trod_int Tryz.underlying3 t1_2;simp at cc1_2;subst cc1_2;have bz1_2 := bounds_i64 z1_2;obtain ⟨A1, n1, c1, l1, rfl, e1, nc1, cm1, r1, b1⟩ := Agg6.shards_in1 (show DataW.trod enc Tryz.prog W 0 (fun _ => true) true fu1 23 [u1_3] = some g1_3 from t1_3);subst e1;have m1 : l1.length ≤ maxLen := Nat.le_trans nc1 cm1;obtain ⟨e1_4, cc1_4, -, z1_4⟩ := DataW.trod_int Tryz.underlying3 t1_4;simp at cc1_4;subst cc1_4;have bz1_4 := bounds_i64 z1_4;obtain ⟨s1_5, cc1_5, -, z1_5⟩ := DataW.trod_string Tryz.underlying9 t1_5;simp at cc1_5;subst cc1_5;clear hA0;refine (Man.same_all Man.codeS ⟨e0_0, e0_1, e0_2, l0, e0_4, s0_5⟩ ⟨e1_0, e1_1, e1_2, l1, e1_4, s1_5⟩ A0 A1 c0 c1 W hg ⟨bz0_0, bz0_1, bz0_2, bz0_4, b0, z0_5⟩ ⟨bz1_0, bz1_1, bz1_2, bz1_4, b1, z1_5⟩ nc0 cm0 nc1 cm1 r0 r1).mono fun e W' ⟨he, hb⟩ => ?_;subst he;exact ⟨_, rfl, _, _, _, [], _, [], hW', trodAll_cons_mk (shut_bool Tryz.underlying4 _) trodAll_mk0, trodAll_cons_mk (Below.trod laidOut (by kernel_rfl) (of_decide_eq_true (by kernel_rfl)) k0 hb lt0) (trodAll_cons_mk (Below.trod laidOut (by kernel_rfl) (of_decide_eq_true (by kernel_rfl)) k1 hb lt1) (trodAll_mk0)), rfl, hb.frame _, fun h => by cases h⟩
theorem reads (os : Os) {H : Type} (enc : TypeId × Value → H) : ∃ places, DataW.whole enc Tryz.prog ((Sha.laidWorld os).forCall (fun _ _ => 0) ⟨#[], #[.agg #[.int .i64 0, .int .i64 0, .int .i64 0, .slice none 0 0, .int .i64 0, .string ByteArray.empty], .agg #[.int .i64 0, .int .i64 0, .int .i64 0, .slice none 0 0, .int .i64 0, .string ByteArray.empty]], []⟩).memory Tryz.f4.params.toList Rows.manifestSameSpec.vars false #[(.agg #[.int .i64 0, .int .i64 0, .int .i64 0, .slice none 0 0, .int .i64 0, .string ByteArray.empty] : Value), (.agg #[.int .i64 0, .int .i64 0, .int .i64 0, .slice none 0 0, .int .i64 0, .string ByteArray.empty] : Value)].toList 8 = some ([.agg [.lit (.int .i64 0), .lit (.int .i64 0), .lit (.int .i64 0), .nil, .lit (.int .i64 0), .lit (.string [])], .agg [.lit (.int .i64 0), .lit (.int .i64 0), .lit (.int .i64 0), .nil, .lit (.int .i64 0), .lit (.string [])]], [], places) :=
  ⟨[], by kernel_rfl⟩
set_option maxRecDepth 100000 in
theorem lifted (os : Os) (started : os.Started) (H : Type) (enc : TypeId × Value → H) (F : Stop.Interp) :
    ReturnsInHanded {} Tryz.checked os 4 .any ((OpenSpec.ofChange Rows.manifestSameSpec).preRow enc Tryz.prog Tryz.f4 Rows.manifestSameRow.domain false Rows.manifestSameRow.laid) (((OpenSpec.ofChange Rows.manifestSameSpec).at F).post enc Tryz.prog Tryz.f4 false true false false) := by
  obtain ⟨places, hx⟩ := reads os enc
  refine returnsInHanded_of_row (C := Tryz.checked) (s := OpenSpec.ofChange Rows.manifestSameSpec) Sha.own started (by kernel_rfl) Tryz.func4
    (witness_row_at (enc := enc) (C := Tryz.checked) false (Sha.laidWorld os) #[.agg #[.int .i64 0, .int .i64 0, .int .i64 0, .slice none 0 0, .int .i64 0, .string ByteArray.empty], .agg #[.int .i64 0, .int .i64 0, .int .i64 0, .slice none 0 0, .int .i64 0, .string ByteArray.empty]] rfl (by kernel_rfl) (by kernel_rfl) (by kernel_rfl)
      (OpenSpec.preRow_of_cond 8 hx (by kernel_rfl) (fun k hk => by cases hk) (by kernel_rfl) (Sha.laid_met os _))) ?_
  intro W base args ds gs before hval hW _ _ hsz hL _ _;exact contract H enc W base args ds gs before hval hW hsz hL
theorem said : Rows.ManifestSameSaid :=
  OpenClaim.holds_of_cond 4 Tryz.f4 rfl rfl rfl rfl rfl rfl rfl ⟨rfl, rfl, rfl, rfl, rfl⟩ rfl rfl rfl rfl rfl (by kernel_rfl) Tryz.func4 (by kernel_rfl)
    (of_decide_eq_true (by kernel_rfl)) (by unfold Func.isWrapper; first | (rw [if_pos (by decide +kernel)]; kernel_rfl) | (rw [if_neg (by decide +kernel)]; exact ⟨rfl, rfl⟩))
    (fun os started H enc _ F => by rw [OpenClaim.pre_eq_preRow]; exact lifted os started H enc F)
theorem plain (f : FuncId) (fn : Func) (hf : Tryz.pinned.checked.prog.funcNamed "lading/ladinglaw10.ManifestSame" = some f) (hfn : Tryz.pinned.checked.prog.funcs[f]? = some fn) :
    true = Tryz.pinned.checked.prog.looks [] ∧ ∀ (j : Nat) t, fn.params[j]? = some t → Tryz.pinned.checked.prog.wantsStandIn t = false := by
  obtain rfl : f = 4 := Option.some.inj ((show Tryz.prog.funcNamed "lading/ladinglaw10.ManifestSame" = some 4 by kernel_rfl).symm.trans hf) |>.symm;obtain rfl : fn = Tryz.f4 := (Option.some.inj (Tryz.func4.symm.trans hfn)).symm;refine ⟨by kernel_rfl, fun j t ht => ?_⟩;rw [Tryz.params4] at ht;have hm := Array.mem_of_getElem? ht;simp at hm;subst hm;exact (show Tryz.prog.wantsStandIn 25 = false by kernel_rfl)
theorem card : Rows.ManifestSameCardSaid :=
  Claim7.holds_tied_plain_at .later [] _ _ _ _ said (fun _ h => by cases h) (by kernel_rfl) (fun _ h => by cases h) manifestSame_row_tie rfl ⟨rfl, rfl⟩ (by kernel_rfl) rfl plain (by kernel_rfl)
end Go.Proofs.YtbahklpdldghbaaGreatDoor.manifestSame
end
