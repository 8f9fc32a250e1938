/- Any texts are cut as the document says: all blocks but the last one have 64 bytes, which has at least one; together they are the texts (up to 20 texts of 1000 bytes). The law BlockCuts answers true for every input. No condition. -/
import Derived.Test.YtkbkdbnmpicidaaMCu1
import Derived.Test.YtkbkdbnmpicidaaChecked
import Derived.Shelf.Pu.Clone
import Derived.Ground.NamesProg
import Derived.Shelf.Strings.OnBuilder
import Derived.Test.YtkbkdbnmpicidaaProg
import Derived.OpenShut
import Derived.Lib.SmallJoins
import Derived.Test.YtkbkdbnmpicidaaRows
import Derived.WalkKit
import Derived.ProofKit
import Derived.ShutString
import Derived.SliceStrings
section
namespace Go.Proofs.Ytkbkdbnmpicidaa.Blk
open Go.RowKit Go.Lib Go.Shelf
def cloneRen : Ren := { f := fun | 25 => 15 | n => n, t := fun | 3 => 3 | 4 => 4 | 5 => 5 | 9 => 9 | 37 => 38 | 47 => 45 | n => n, g := fun n => n }
theorem cloneLays : LaysPu.n25 Try.prog cloneRen := ⟨by kernel_rfl, by kernel_rfl, by kernel_rfl, fun _ => by kernel_rfl, fun _ => by kernel_rfl, fun _ => by kernel_rfl, by kernel_rfl, by kernel_rfl, fun _ => by kernel_rfl, fun _ => by kernel_rfl, fun _ => by kernel_rfl, by kernel_rfl, by kernel_rfl, fun _ => by kernel_rfl, fun _ => by kernel_rfl, fun _ => by kernel_rfl, by kernel_rfl, by kernel_rfl, fun _ => by kernel_rfl, fun _ => by kernel_rfl, fun _ => by kernel_rfl, by kernel_rfl, by kernel_rfl, fun _ => by kernel_rfl, fun _ => by kernel_rfl, fun _ => by kernel_rfl, by kernel_rfl, by kernel_rfl, fun _ => by kernel_rfl, fun _ => by kernel_rfl, fun _ => by kernel_rfl, by kernel_rfl, by kernel_rfl, fun _ => by kernel_rfl, fun _ => by kernel_rfl, fun _ => by kernel_rfl, by kernel_rfl⟩
theorem clone_any (s : ByteArray) (w : World) (h : s.size ≤ 281474976710656) :
    Calls Try.prog 11 #[.string s] w fun e w' => e = .returned (.string s) ∧ Below w.heap.size w w' := by
  go_enter Try.func11, Try.ntmps11
  go_wp2_with (go_at_call 15; refine ((show Calls Try.prog 15 #[.string s] _ fun e w' => e = .returned (.string s) ∧ Below _ _ w' from AnyPu.stringslite_Clone cloneLays s _ h)).mono ?_; rintro e w' ⟨rfl, hb⟩)
  go_ret
  exact ⟨rfl, by assumption⟩
end Go.Proofs.Ytkbkdbnmpicidaa.Blk
end
section
namespace Go.Proofs
open Go.Shelf
def Try.layJoin_ren : Go.Shelf.Ren := ⟨fun | 156 => 10 | 165 => 12 | 166 => 13 | 169 => 14 | 240 => 16 | 241 => 17 | 276 => 18 | 277 => 19 | n => n, fun | 31 => 22 | 9 => 9 | 3 => 3 | 4 => 4 | 0 => 0 | 20 => 20 | 72 => 40 | 76 => 42 | 70 => 37 | 37 => 38 | 75 => 30 | 127 => 45 | 164 => 46 | 5 => 5 | 80 => 44 | n => n, fun | n => n⟩
theorem Try.layJoin : Go.Proofs.Lays.n156 Try.prog Try.layJoin_ren := {
  mixed := by kernel_rfl
  f156 := Try.func10.trans (congrArg some (by kernel_rfl))
  f165 := Try.func12.trans (congrArg some (by kernel_rfl))
  f166 := Try.func13.trans (congrArg some (by kernel_rfl))
  f169 := Try.func14.trans (congrArg some (by kernel_rfl))
  f240 := Try.func16.trans (congrArg some (by kernel_rfl))
  f241 := Try.func17.trans (congrArg some (by kernel_rfl))
  f276 := Try.func18.trans (congrArg some (by kernel_rfl))
  f277 := Try.func19.trans (congrArg some (by kernel_rfl))
  t0 := Try.underlying0
  a0 := Try.isAgg0
  z0 := Try.sizeOf0
  v0 := Try.zeroValue0
  t3 := Try.underlying3
  a3 := Try.isAgg3
  z3 := Try.sizeOf3
  v3 := Try.zeroValue3
  t4 := Try.underlying4
  a4 := Try.isAgg4
  z4 := Try.sizeOf4
  v4 := Try.zeroValue4
  t9 := Try.underlying9
  a9 := Try.isAgg9
  z9 := Try.sizeOf9
  v9 := Try.zeroValue9
  t20 := Try.underlying20
  a20 := Try.isAgg20
  z20 := Try.sizeOf20
  v20 := Try.zeroValue20
  t31 := Try.underlying22
  a31 := Try.isAgg22
  z31 := Try.sizeOf22
  v31 := Try.zeroValue22
  t37 := Try.underlying38
  a37 := Try.isAgg38
  z37 := Try.sizeOf38
  v37 := Try.zeroValue38
  t70 := Try.underlying37
  a70 := Try.isAgg37
  z70 := Try.sizeOf37
  v70 := Try.zeroValue37
  t72 := Try.underlying40
  a72 := Try.isAgg40
  z72 := Try.sizeOf40
  v72 := Try.zeroValue40
  t75 := Try.underlying30
  a75 := Try.isAgg30
  z75 := Try.sizeOf30
  v75 := Try.zeroValue30
  t76 := Try.underlying42
  a76 := Try.isAgg42
  z76 := Try.sizeOf42
  v76 := Try.zeroValue42
  t127 := Try.underlying45
  a127 := Try.isAgg45
  z127 := Try.sizeOf45
  v127 := Try.zeroValue45
  t164 := Try.underlying46
  a164 := Try.isAgg46
  z164 := Try.sizeOf46
  v164 := Try.zeroValue46 }
theorem Try.layJoinX : Builder.Extra Try.prog Try.layJoin_ren := {
  sizeBuilder := by kernel_rfl
  liesBuilder := by kernel_rfl
  t5 := Try.underlying5
  a5 := Try.isAgg5
  z5 := Try.sizeOf5
  v5 := Try.zeroValue5
  infoByte := by kernel_rfl
  cellsByte := by kernel_rfl
  sizeByte := by kernel_rfl
  neB5 := by decide }
end Go.Proofs
end
section
namespace Go.Proofs.Ytkbkdbnmpicidaa.Blk
open Go Go.RowKit Go.Lib RowG
theorem cat_list (ts : List ByteArray) : (catK ts).data.toList = (ts.map (·.data.toList)).flatten := by
  have h : ∀ (ts : List ByteArray) (acc : ByteArray), (ts.foldl (· ++ ·) acc).data.toList = acc.data.toList ++ (ts.map (·.data.toList)).flatten := fun ts => by
    induction ts with
    | nil => intro acc; simp
    | cons a r ih => intro acc; rw [List.foldl_cons, ih]; simp
  exact h ts _
theorem join_flat (ts : List ByteArray) : Lib.join (ts.map (·.data.toList)) [] = (catK ts).data.toList := by
  rw [cat_list]
  cases ts with
  | nil => rfl
  | cons a r => rw [List.map_cons, Lib.join_cons]; simp [Lib.joinTail]; rfl
theorem join_any (A : Option Addr) (c : Nat) (ts : List ByteArray) (w : World) (hl : ts.length ≤ 1000) (hc : ts.length ≤ c) (hz : (catK ts).size ≤ 100000) (hA : RIn txR w A ts) :
    Calls Try.prog 10 #[.slice A ts.length c, .string ⟨#[]⟩] w fun e w' => e = .returned (.string (catK ts)) ∧ Below w.heap.size w w' := by
  rcases Nat.eq_zero_or_pos ts.length with h0 | h0
  · obtain rfl := List.eq_nil_of_length_eq_zero h0;exact (Any.strings_Join_none Try.layJoin Try.layJoinX A c ⟨#[]⟩ w).mono fun e w' ⟨h1, h2⟩ => ⟨h1, by rw [h2]; exact Below.refl _ _⟩
  · obtain ⟨b, o, rfl, hb⟩ := hA.addr h0;have hj : Lib.join (ts.map (·.data.toList)) (⟨#[]⟩ : ByteArray).data.toList = (catK ts).data.toList := join_flat ts;have hlen : (catK ts).data.toList.length = (catK ts).size := by rw [Array.length_toList]; rfl
    refine (Any.strings_Join Try.layJoin Try.layJoinX b o c ts ⟨#[]⟩ w (fun j x hx => ?_) hb (by omega) hc (by rw [hj, hlen]; omega)).mono fun e w' ⟨h1, h2⟩ => ⟨?_, h2⟩
    · obtain ⟨b', o', e, -, hcell⟩ := tx_cell hA hx;cases e;exact hcell
    · rw [h1, hj]
end Go.Proofs.Ytkbkdbnmpicidaa.Blk
end
section
namespace Go.Proofs.Ytkbkdbnmpicidaa.Blk
open Go Go.RowKit Go.Lib RowG Num
set_option maxRecDepth 100000 in
set_option maxHeartbeats 4000000 in
theorem cut_any (A : Option Addr) (c : Nat) (ts : List ByteArray) (w : World) (hl : ts.length ≤ 1000) (hc : ts.length ≤ c) (hz : (catK ts).size ≤ 20000) (hA : RIn txR w A ts) :
    Calls Try.prog 6 #[.slice A ts.length c] w fun e v => ∃ A' c', e = .returned (.slice A' (cntK (catK ts).size) c') ∧ RIn txR v A' (cutK (catK ts)) ∧ Below w.heap.size w v := by
  refine Kn.calls Try.func6 rfl Try.ntmps6 rfl (.cons (t := 0) rfl .nil) fun fa0 fh0 => ?_;refine wp_seq_k fun K1 hK1 => ?_;refine wp_region_lit ?_;refine Kn.pure fh0 rfl rfl .none (Kn.ex_assign fh0 .const) fun fa1 fh1 => ?_;clear fh0 fa0;refine wpList_nil ?_;refine hK1 _ _ ?_;clear hK1 K1;have hj := join_any A c ts w hl hc (by omega) hA;refine wp_seq_k fun K2 hK2 => ?_;refine wp_region_lit ?_;refine Kn.pure fh1 rfl rfl .none (Kn.ex_move fh1 (.tmp rfl)) fun fa2 fh2 => ?_;clear fh1 fa1;refine Kn.call fh2 rfl rfl .none (Kn.ex_call fh2 (.cons (.tmp rfl) (.cons .const .nil))) Try.call10 (hj) fun e w1 hp => ?_;obtain ⟨rfl, hb1⟩ := hp;refine ⟨_, rfl, fun fa3 fh3 => ?_⟩;clear fh2 fa2;refine Kn.pure fh3 rfl rfl .none (Kn.ex_assign fh3 (.tmp rfl)) fun fa4 fh4 => ?_;clear fh3 fa3;refine wpList_nil ?_;refine hK2 _ _ ?_;clear hK2 K2;replace fh4 := fh4.cut (.cons (t := 3) rfl (.cons (t := 2) rfl .nil));obtain ⟨s, hs⟩ : ∃ s, catK ts = s := ⟨_, rfl⟩;rw [hs] at fh4 hz ⊢;obtain ⟨N, hN⟩ : ∃ N, cntK s.size = N := ⟨_, rfl⟩;have hct := count_any s.size w1 (by omega);rw [hN] at hct;have hN2 : N ≤ 400 := by rw [← hN]; unfold cntK; omega
  obtain ⟨w2, hmk, hO2, hb2⟩ := makeG (P := Try.prog) txR elemTx8 (⟨#[]⟩ : ByteArray) (by rfl) w1 N (by show N * 1 ≤ _; omega) (by decide) (by omega);have hH2 := hold_of_own hO2;clear hO2 hj hs;obtain ⟨g, hg⟩ : ∃ q, w1.heap.size = q := ⟨_, rfl⟩;rw [hg] at hmk hH2;have hgw : w.heap.size ≤ g := by rw [← hg]; exact hb1.size
  have hB2 : Below w.heap.size w w2 := hb1.trans (hb2.mono hb1.size);clear hb1 hb2 hg hA;refine wp_seq_k fun K3 hK3 => ?_;refine wp_region_lit ?_;refine Kn.pure fh4 rfl rfl .none (Kn.ex_move fh4 (.tmp rfl)) fun fa5 fh5 => ?_;clear fh4 fa4;refine Kn.step fh5 rfl rfl .none (Kn.ex_len fh5 (.tmp rfl)) fun Ko hKo => ?_;go_simp;(try go_bits);refine hKo _ _ fun fa6 fh6 => ?_;clear hKo Ko fh5 fa5;refine Kn.call fh6 rfl rfl .none (Kn.ex_call fh6 (.cons (.tmp rfl) .nil)) Try.call7 (hct) fun e w1b hp => ?_;obtain ⟨rfl, rfl⟩ := hp;refine ⟨_, rfl, fun fa7 fh7 => ?_⟩;clear fh6 fa6;refine Kn.known fh7 rfl rfl .none (Kn.ex_makeSlice fh7 (.tmp rfl) (.tmp rfl)) hmk fun fa8 fh8 => ?_;clear fh7 fa7;refine Kn.pure fh8 rfl rfl .none (Kn.ex_assign fh8 (.tmp rfl)) fun fa9 fh9 => ?_;clear fh8 fa8;refine wpList_nil ?_;refine hK3 _ _ ?_;clear hK3 K3;replace fh9 := fh9.cut (.cons (t := 4) rfl (.cons (t := 3) rfl (.cons (t := 2) rfl .nil)));clear hmk hct;refine wp_seq_k fun K4 hK4 => ?_;refine wp_seq_k fun K5 hK5 => ?_;refine wp_region_lit ?_;refine Kn.pure fh9 rfl rfl .none (Kn.ex_move fh9 (.tmp rfl)) fun fa10 fh10 => ?_;clear fh9 fa9;refine Kn.step fh10 rfl rfl .none (Kn.ex_len fh10 (.tmp rfl)) fun Ko hKo => ?_;go_simp;(try go_bits);refine hKo _ _ fun fa11 fh11 => ?_;clear hKo Ko fh10 fa10;refine Kn.pure fh11 rfl rfl .none (Kn.ex_move fh11 .const) fun fa12 fh12 => ?_;clear fh11 fa11;refine wpList_nil ?_;refine hK5 _ _ ?_;clear hK5 K5;replace fh12 := fh12.cut (.cons (t := 15) rfl (.cons (t := 14) rfl (.cons (t := 4) rfl (.cons (t := 3) rfl (.cons (t := 2) rfl .nil)))));refine wp_block ?_;refine Kn.loop (fun m fr u => ∃ (i : Nat) (ls : List ByteArray), Kn.Kn 35 [(15, .int .i64 (i : Int)), (14, .int .i64 (N : Int)), (4, .slice (some ⟨g, 0, none⟩) N N), (3, .string s)] fr ∧ i + m = N ∧ ls.length = N ∧ Hid (∀ j, j < i → ls[j]? = (cutK s)[j]?) ∧ Hid (Hold txR u g ls) ∧ Hid (Below w.heap.size w u)) N ⟨0, List.replicate N ⟨#[]⟩, fh12.cut (.turn (t := 15) rfl rfl (.cons (t := 14) rfl (.cons (t := 4) rfl (.cons (t := 3) rfl .nil)))), by omega, by simp, Lib.hid (fun j hj => by omega), hH2, hB2⟩ ?_;clear fh12 fa12;intro m6 fa13 u hI Kl6 hKl6;obtain ⟨i, ls, fh13, hi, hll, HE, HH, HB⟩ := hI
  by_cases hlt : i < N
  · have hic : i < cntK s.size := by omega
    have hsz := size_any s.size (i : Int) u (by omega);have hst := szK_step hic;obtain ⟨z, hzz⟩ : ∃ z, szK s.size (i : Int) = z := ⟨_, rfl⟩;rw [hzz] at hsz hst;obtain ⟨p, hp⟩ : ∃ p, 64 * i = p := ⟨_, rfl⟩;have hps : p ≤ s.size := by unfold cntK at hic; omega
    obtain ⟨e1, he1⟩ : ∃ q, p + z = q := ⟨_, rfl⟩;have he2 : e1 = min s.size (64 * (i + 1)) := by omega
    have hbk : blkK s i = s.extract p e1 := by unfold blkK; rw [hp, Nat.min_eq_right hps, ← he2]
    obtain ⟨q, hq⟩ : ∃ q, s.extract p e1 = q := ⟨_, rfl⟩;rw [hq] at hbk;have r1 : (i : Int) * 64 = (p : Int) := by omega
    have r2 : (p : Int) + (z : Int) = (e1 : Int) := by omega
    have hes : e1 ≤ s.size := by omega
    have hpe : p ≤ e1 := by omega
    have hqs : q.size ≤ 281474976710656 := by rw [← hq, ByteArray.size_extract]; omega
    have hsl : ∀ v, (Instr.sliceAt 9 (.string s) (some (.int .i64 (p : Int))) (some (.int .i64 (e1 : Int))) none).run Try.prog v = .ok (.string q) v := fun v => by
      have := run_slice_string (P := Try.prog) v 9 s .i64 .i64 p e1 Try.underlying9 (by omega) (by omega) (by omega);rw [Int.toNat_natCast, Int.toNat_natCast, hq] at this;rw [run_sliceAt_string _ _ _ _ _ _ Try.underlying9];exact this
    have hcl := clone_any q u hqs;have hcu := cutK_at hic;rw [hbk] at hcu;clear hst hp he1 he2 hq hbk hzz;refine wp_seq_k fun K7 hK7 => ?_;refine wp_region_lit ?_;refine Kn.step fh13 rfl rfl .none (Kn.ex_bin fh13 (.tmp rfl) (.tmp rfl)) fun Ko hKo => ?_;go_simp;(try go_bits);refine hKo _ _ fun fa14 fh14 => ?_;clear hKo Ko fh13 fa13;refine wpList_nil ?_;refine hK7 _ _ ?_;clear hK7 K7;refine wp_seq_k fun K8 hK8 => ?_;refine Kn.yes fh14 (.tmp rfl) ?_;refine wp_skip ?_;refine hK8 _ _ ?_;clear hK8 K8;replace fh14 := fh14.cut (.cons (t := 15) rfl (.cons (t := 14) rfl (.cons (t := 4) rfl (.cons (t := 3) rfl .nil))));refine wp_seq_k fun K9 hK9 => ?_;refine wp_block ?_;refine wp_seq_k fun K10 hK10 => ?_;refine wp_region_lit ?_;refine Kn.pure fh14 rfl rfl .none (Kn.ex_move fh14 (.tmp rfl)) fun fa15 fh15 => ?_;clear fh14 fa14;refine Kn.pure fh15 rfl rfl .none (Kn.ex_assign fh15 (.tmp rfl)) fun fa16 fh16 => ?_;clear fh15 fa15;refine wpList_nil ?_;refine hK10 _ _ ?_;clear hK10 K10;replace fh16 := fh16.cut (.cons (t := 5) rfl (.cons (t := 15) rfl (.cons (t := 14) rfl (.cons (t := 4) rfl (.cons (t := 3) rfl .nil)))));refine wp_seq_k fun K11 hK11 => ?_;refine wp_region_lit ?_;refine Kn.pure fh16 rfl rfl .none (Kn.ex_move fh16 (.tmp rfl)) fun fa17 fh17 => ?_;clear fh16 fa16;refine Kn.step fh17 rfl rfl .none (Kn.ex_bin fh17 (.tmp rfl) .const) fun Ko hKo => ?_;go_simp;(try go_bits);refine hKo _ _ fun fa18 fh18 => ?_;clear hKo Ko fh17 fa17;refine Kn.pure fh18 rfl rfl .none (Kn.ex_assign fh18 (.tmp rfl)) fun fa19 fh19 => ?_;clear fh18 fa18;refine wpList_nil ?_;refine hK11 _ _ ?_;clear hK11 K11;replace fh19 := fh19.cut (.cons (t := 6) rfl (.cons (t := 5) rfl (.cons (t := 15) rfl (.cons (t := 14) rfl (.cons (t := 4) rfl (.cons (t := 3) rfl .nil))))));clear r1;refine wp_region_lit ?_;refine Kn.pure fh19 rfl rfl .none (Kn.ex_move fh19 (.tmp rfl)) fun fa20 fh20 => ?_;clear fh19 fa19;refine Kn.pure fh20 rfl rfl .none (Kn.ex_move fh20 (.tmp rfl)) fun fa21 fh21 => ?_;clear fh20 fa20;refine Kn.pure fh21 rfl rfl .none (Kn.ex_move fh21 (.tmp rfl)) fun fa22 fh22 => ?_;clear fh21 fa21;refine Kn.pure fh22 rfl rfl .none (Kn.ex_move fh22 (.tmp rfl)) fun fa23 fh23 => ?_;clear fh22 fa22;refine Kn.pure fh23 rfl rfl .none (Kn.ex_move fh23 (.tmp rfl)) fun fa24 fh24 => ?_;clear fh23 fa23;refine Kn.pure fh24 rfl rfl .none (Kn.ex_move fh24 (.tmp rfl)) fun fa25 fh25 => ?_;clear fh24 fa24;refine Kn.step fh25 rfl rfl .none (Kn.ex_len fh25 (.tmp rfl)) fun Ko hKo => ?_;go_simp;(try go_bits);refine hKo _ _ fun fa26 fh26 => ?_;clear hKo Ko fh25 fa25;refine Kn.pure fh26 rfl rfl .none (Kn.ex_move fh26 (.tmp rfl)) fun fa27 fh27 => ?_;clear fh26 fa26;refine Kn.call fh27 rfl rfl .none (Kn.ex_call fh27 (.cons (.tmp rfl) (.cons (.tmp rfl) .nil))) Try.call8 (hsz) fun e u1 hp => ?_;obtain ⟨rfl, rfl⟩ := hp;refine ⟨_, rfl, fun fa28 fh28 => ?_⟩;clear fh27 fa27;refine Kn.step fh28 rfl rfl .none (Kn.ex_bin fh28 (.tmp rfl) (.tmp rfl)) fun Ko hKo => ?_;go_simp;(try go_bits);refine hKo _ _ fun fa29 fh29 => ?_;clear hKo Ko fh28 fa28;refine Kn.known fh29 rfl rfl .none (Kn.ex_sliceLH fh29 (.tmp rfl) (.tmp rfl) (.tmp rfl)) (hsl u) fun fa30 fh30 => ?_;clear fh29 fa29;refine Kn.call fh30 rfl rfl .none (Kn.ex_call fh30 (.cons (.tmp rfl) .nil)) Try.call11 (hcl) fun e u2 hp => ?_;obtain ⟨rfl, hb2⟩ := hp;refine ⟨_, rfl, fun fa31 fh31 => ?_⟩;clear fh30 fa30;obtain ⟨u3, hst, hH3, hr1, hr2, hr3⟩ := (HH.out.on hb2).store1 (P := Try.prog) (e := 9) i (by omega) q (.string q) rfl rfl (fun w p c h1 h2 => store_tx8 q w p c h1 h2);have HB3 : Hid (Below w.heap.size w u3) := Lib.hid ((HB.out.trans (hb2.mono HB.out.size)).trans (hr3 _ hgw));clear hb2 hcl hsl r2 hsz hr1 hr2 hr3;refine Kn.step fh31 rfl rfl .none (Kn.ex_indexAddr fh31 (.tmp rfl) (.tmp rfl)) fun Ko hKo => ?_;go_simp;(try go_bits);refine hKo _ _ fun fa32 fh32 => ?_;clear hKo Ko fh31 fa31;refine Kn.stepU fh32 rfl .none (Kn.ex_store fh32 (.tmp rfl) (.tmp rfl)) fun Ko hKo => ?_;refine Kn.satU_run8 hst ?_;refine hKo _ ?_;clear hKo Ko;refine wpList_nil ?_;refine Kn.block_normal ?_;refine hK9 _ _ ?_;clear hK9 K9;replace fh32 := fh32.cut (.cons (t := 15) rfl (.cons (t := 14) rfl (.cons (t := 4) rfl (.cons (t := 3) rfl .nil))));refine wp_region_lit ?_;refine Kn.step fh32 rfl rfl .none (Kn.ex_bin fh32 (.tmp rfl) .const) fun Ko hKo => ?_;go_simp;(try go_bits);refine hKo _ _ fun fa33 fh33 => ?_;clear hKo Ko fh32 fa32;refine Kn.pure fh33 rfl rfl .none (Kn.ex_move fh33 (.tmp rfl)) fun fa34 fh34 => ?_;clear fh33 fa33;refine wpList_nil ?_;replace fh34 := fh34.cut (.cons (t := 15) rfl (.cons (t := 14) rfl (.cons (t := 4) rfl (.cons (t := 3) rfl .nil))))
    exact hKl6 (m6 - 1) _ _ (by omega) ⟨i + 1, ls.set i q, fh34.cut (.turn (t := 15) rfl (by go_num) (.cons (t := 14) rfl (.cons (t := 4) rfl (.cons (t := 3) rfl .nil)))), by omega, by rw [List.length_set]; exact hll, Lib.hid (fun j hj => by
      by_cases e : i = j
      · subst e; rw [List.getElem?_set_self (by omega), hcu]
      · rw [List.getElem?_set_ne e]; exact HE.out j (by omega)), hH3, HB3⟩
  have hin : i = N := by omega
  subst hin
  have hls : ls = cutK s := by
    apply List.ext_getElem?
    intro j
    by_cases hj : j < ls.length
    · exact HE.out j (by omega)
    · rw [List.getElem?_eq_none (by omega), List.getElem?_eq_none (by rw [cutK_len]; omega)]
  subst hls;refine wp_seq_k fun K7 hK7 => ?_;refine wp_region_lit ?_;refine Kn.step fh13 rfl rfl .none (Kn.ex_bin fh13 (.tmp rfl) (.tmp rfl)) fun Ko hKo => ?_;go_simp;(try go_bits);refine hKo _ _ fun fa14 fh14 => ?_;clear hKo Ko fh13 fa13;refine wpList_nil ?_;refine hK7 _ _ ?_;clear hK7 K7;refine wp_seq_k fun K8 hK8 => ?_;refine Kn.no fh14 (.tmp rfl) ?_;replace fh14 := fh14.cut (.cons (t := 15) rfl (.cons (t := 14) rfl (.cons (t := 4) rfl (.cons (t := 3) rfl .nil))));refine wp_exit ?_;refine Kn.then_exit ?_;clear hK8 K8;refine Kn.then_exit ?_;clear hKl6 Kl6;refine Kn.block_exit ?_;refine hK4 _ _ ?_;clear hK4 K4;replace fh14 := fh14.cut (.cons (t := 4) rfl .nil);refine wp_seq_k fun K9 hK9 => ?_;refine wp_region_lit ?_;refine Kn.pure fh14 rfl rfl .none (Kn.ex_move fh14 (.tmp rfl)) fun fa15 fh15 => ?_;clear fh14 fa14;refine Kn.pure fh15 rfl rfl .none (Kn.ex_assign fh15 (.tmp rfl)) fun fa16 fh16 => ?_;clear fh15 fa15;refine wpList_nil ?_;refine hK9 _ _ ?_;clear hK9 K9;replace fh16 := fh16.cut (.cons (t := 2) rfl .nil);refine wp_ret ?_;exact Kn.ret1 fh16 rfl rfl ⟨some ⟨g, 0, none⟩, i, by rw [hN], HH.out.rin, HB.out⟩
end Go.Proofs.Ytkbkdbnmpicidaa.Blk
end
section
namespace Go.Proofs.Ytkbkdbnmpicidaa.Blk
open Go Go.RowKit Go.Lib RowG Num
theorem count_b (n : Nat) (u : World) (h : n ≤ 20000) : Calls Try.prog 7 #[.int .i64 n] u fun e v => e = .returned (.int .i64 (cntK n : Int)) ∧ Below u.heap.size u v := (count_any n u (by omega)).mono fun _ _ ⟨h1, h2⟩ => ⟨h1, by subst h2; exact Below.refl _ _⟩
theorem size_b (n : Nat) (i : Int) (u : World) (h : n ≤ 20000) : Calls Try.prog 8 #[.int .i64 n, .int .i64 i] u fun e v => e = .returned (.int .i64 (szK n i : Int)) ∧ Below u.heap.size u v := (size_any n i u (by omega)).mono fun _ _ ⟨h1, h2⟩ => ⟨h1, by subst h2; exact Below.refl _ _⟩
theorem awake_b (u : World) : Calls Try.prog 5 #[] u fun e v => e = .returned (.bool true) ∧ Below u.heap.size u v := awake8 count_b (fun n i u h _ _ => size_b n i u h) u
theorem cuts_law (A : Option Addr) (n c : Nat) (f : Nat → ByteArray) (w : World) (hm : n ≤ maxLen) (hr : SArg w A n (fun k => .string (f k))) (hc : n ≤ c) :
    Calls Try.prog 3 #[.slice A n c] w fun e w' => e = .returned (.bool true) ∧ Below w.heap.size w w' := by
  have h := cuts_all awake_b count_b (fun n i u h _ _ => size_b n i u h) (fun A c ts u h1 h2 h3 h4 => cut_any A c ts u (by omega) h2 h3 h4) A c ((List.range n).map f) w (by simpa using hm) (by simpa using hc) hr.rin
  rwa [List.length_map, List.length_range] at h
end Go.Proofs.Ytkbkdbnmpicidaa.Blk
end
section
namespace Go.Proofs.Ytkbkdbnmpicidaa.blockCuts
open Go.ChangeShapes Go.WideShapes Go.ChangeAt Go.RowKit Go.Joins
open Go.ChangeMaps (open_string shut_string)
set_option linter.unusedVariables false
theorem own : ownKnob Try.prog.godebug = none := by kernel_rfl
theorem laidOut : laidOutB Try.prog = true := by kernel_rfl
set_option maxRecDepth 100000 in
theorem lifted (os : Os) (started : os.Started) (H : Type) (enc : TypeId × Value → H) :
    ReturnsInHanded {} Try.checked os 3 .any (Rows.blockCutsSpec.pre6 enc Try.prog Try.f3 Rows.blockCutsRow.domain false) (Rows.blockCutsSpec.post enc Try.prog Try.f3 false true false false) := by
  refine returnsInHanded_of_change (C := Try.checked) own started (by kernel_rfl) Try.func3
    (ChangeSpec.witness6 (enc := enc) (C := Try.checked) false ⟨#[], #[.slice none 0 0], []⟩ 8 (by kernel_rfl) (by kernel_rfl) (by kernel_rfl) (by kernel_rfl)) ?_
  intro W base args ds gs before hval0 hW hcnd _;have hval : ∀ (j : Nat) t v, Try.f3.params[j]? = some t → args[j]? = some v → Value.okWide Try.prog W .any base t v := hval0;have hW' := hW;obtain ⟨p, q, hA0, hV, rfl, hfz, hnd⟩ := hW;have hA : DataW.TrodAll enc Try.prog W 0 (fun _ => true) true Try.f3.params.toList args.toList ds p := hA0;rw [Try.params3] at hA hval;obtain ⟨v0, vs0, d0, ds0, p0, q0, hargs, rfl, rfl, h0, s0⟩ := trodAll_cons hA;obtain ⟨rfl, rfl, rfl⟩ := trodAll_nil s0;obtain rfl : args = #[v0] := by cases args; simp_all
  obtain ⟨rfl, rfl⟩ := trodVars_none hV;obtain ⟨A0, n0, c0, rfl⟩ := okWide_slice Try.underlying22 (hval 0 22 v0 rfl rfl);have k0 := h0;have lt0 : ∀ x ∈ p0, x.block < W.heap.size := by obtain ⟨m, hm⟩ := k0; exact DataW.trod_lt m _ _ _ hm
  obtain ⟨f0, m0, r0, b0, cc0⟩ : ∃ f : Nat → ByteArray, n0 ≤ maxLen ∧ Blk.SArg W A0 n0 (fun k => .string (f k)) ∧ (∀ k, k < n0 → (f k).size ≤ maxLen) ∧ n0 ≤ c0 := by
    obtain ⟨fuel, hf⟩ := h0;rcases open_strings Try.underlying22 Try.underlying9 (by kernel_rfl) hf with ⟨hcs, _⟩ | ⟨x, l, c, zs, hcs, _, hl, hm, hz, _, hcell, hwz⟩
    · simp [Value.cells] at hcs;obtain ⟨rfl, rfl, rfl⟩ := hcs;exact ⟨fun _ => ByteArray.empty, Nat.zero_le _, fun k hk => by omega, fun k hk => by omega, Nat.le_refl _⟩
    · simp [Value.cells] at hcs;obtain ⟨rfl, rfl, rfl⟩ := hcs;have hzc : zs.length = c0 := by simpa using hz
      refine ⟨fun k => zs.getD k ByteArray.empty, by omega, fun k hk => ?_, fun k hk => ?_, by omega⟩
      · obtain ⟨b, off, spot⟩ := x;have hspot : spot = none := by simpa [Addr.add] using World.cell?_spot (hcell 0 (by omega))
        subst hspot;have hc := hcell k (by omega);refine ⟨b, off, rfl, ?_, by simpa [Addr.add_lit] using hc⟩;exact World.block_lt_of_cell? _ _ (by simpa [Addr.add_lit] using hc)
      · have hk2 : k < zs.length := by omega
        have e : zs.getD k ByteArray.empty = zs[k] := by simp [List.getD, List.getElem?_eq_getElem hk2]
        simp only [e];exact hwz _ (List.getElem_mem hk2)
  clear hA0 hval0;refine (Blk.cuts_law A0 n0 c0 f0 W m0 r0 cc0).mono fun e W' ⟨he, hb⟩ => ?_;subst he;exact ⟨_, rfl, _, _, _, [], _, [], hW', trodAll_cons_mk (shut_bool Try.underlying4 _) trodAll_mk0, trodAll_cons_mk (Below.trod laidOut (by kernel_rfl) (of_decide_eq_true (by kernel_rfl)) k0 hb lt0) (trodAll_mk0), rfl, hb.frame _, fun h => by cases h⟩
theorem over : Rows.blockCutsRow.holds Try.pinned (OpenSpec.ofChange Rows.blockCutsSpec) :=
  OpenClaim.holds_of_wide 3 Try.f3 rfl rfl rfl rfl rfl rfl rfl ⟨rfl, rfl, rfl, rfl, rfl⟩ rfl rfl rfl rfl rfl (by kernel_rfl) Try.func3 (by kernel_rfl)
    (of_decide_eq_true (by kernel_rfl)) (by unfold Func.isWrapper; first | (rw [if_pos (by decide +kernel)]; kernel_rfl) | (rw [if_neg (by decide +kernel)]; exact ⟨rfl, rfl⟩))
    (fun os started H enc _ => lifted os started H enc)
theorem proved : Rows.BlockCutsSaid :=
  over
end Go.Proofs.Ytkbkdbnmpicidaa.blockCuts
end
