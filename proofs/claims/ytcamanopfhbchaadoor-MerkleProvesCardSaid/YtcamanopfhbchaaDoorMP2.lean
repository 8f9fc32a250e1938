/- A part of the proof of MerkleProvesCardSaid: texts that lead to it, merged. -/
import Derived.Test.YtcamanopfhbchaaDoorMP1
import Derived.Test.YtcamanopfhbchaaDoorChecked
import Derived.WalkKit
import Derived.Below
import Derived.Maps.AppendAt
import Derived.Deep.AppendLies
import Derived.Deep.Draws
import Derived.Lib.Hide
import Derived.Lib.SmallJoins
import Derived.Laws.Rows
import Derived.Laws.Tables
import Derived.Laws.CopyOwn
import Derived.Laws.ResultCell
import Derived.OwnWalk
import Derived.IntWalk
import Derived.Shelf.SlGeneric
import Derived.Shelf.SlLaysE0
import Derived.Ground.SlgnProg
import Derived.Test.YtcamanopfhbchaaDoorProg
import Derived.Shelf.SlicesQ.Reverse
import Derived.Lib.OwnBridge
import Derived.Shelf.Pu.Clone
import Derived.Deep.MidRow
import Derived.Lib.EndianMore
import Derived.Laws.IdiomCopy
import Derived.Laws.OwnMore
import Derived.Laws.AppendOwn
import Derived.Laws.Append
section
namespace Go.Proofs.YtcamanopfhbchaaDoor.Sha
open Go.RowKit Go.Lib
set_option maxRecDepth 100000 in
set_option maxHeartbeats 4000000 in
theorem lp6 (w0 v : World) (fa0 : Act) (v1 v12 : Value) (A n2 g2 cap2 gh caph gw capw : Nat) (Hm PL W : List Nat) (Q : Exit → Act → World → Prop) (hP : ∀ d v c b w, Q (.panic c) (b.put d v) w → Q (.panic c) b w)
    (fh0 : Kn.Kn 354 [(16, .int .i64 16), (14, .slice (some ⟨gw, 0, none⟩) 16 capw), (13, .int .i64 (A : Int)), (12, v12), (7, .slice (some ⟨g2, 0, none⟩) n2 cap2), (1, v1)] fa0)
    (HWl : Hid (W.length = 64)) (HWb : Hid (∀ i, wd W i < 4294967296)) (HWhi : Hid (∀ i, 16 ≤ i → i < 64 → wd W i = nextW W i))
    (hS : Ws w0 v gw capw (W.take 16) gh caph Hm g2 cap2 PL)
    (hQ : ∀ a v gw capw, Kn.Kn 354 [(14, .slice (some ⟨gw, 0, none⟩) 64 capw), (13, .int .i64 (A : Int)), (12, v12), (7, .slice (some ⟨g2, 0, none⟩) n2 cap2), (1, v1)] a → Ws w0 v gw capw W gh caph Hm g2 cap2 PL → Q .normal a v) :
    (Code.block 10 (.loop (bodyS 5))).wp Tryd.prog Q fa0 v := by
  refine wp_block ?_;refine Kn.loop (fun m fr v => ∃ (k gw capw : Nat), Kn.Kn 354 [(16, .int .i64 (k : Int)), (14, .slice (some ⟨gw, 0, none⟩) k capw), (13, .int .i64 (A : Int)), (12, v12), (7, .slice (some ⟨g2, 0, none⟩) n2 cap2), (1, v1)] fr ∧ k + m = 64 ∧ 16 ≤ k ∧ Hid (Ws w0 v gw capw (W.take k) gh caph Hm g2 cap2 PL)) 48 ⟨16, gw, capw, fh0.cut (.cons (t := 16) rfl (.cons (t := 14) rfl (.cons (t := 13) rfl (.cons (t := 12) rfl (.cons (t := 7) rfl (.cons (t := 1) rfl .nil)))))), by omega, by omega, Lib.hid hS⟩ ?_;clear fh0 fa0;intro m1 fa1 v hI Kl1 hKl1
  conv => arg 2; whnf
  obtain ⟨k, gw, capw, fh1, hk, hk16, HS⟩ := hI;clear hS
  by_cases hlt : k < 64
  · refine wp_seq_k fun K2 hK2 => ?_;refine wp_seq_k fun K3 hK3 => ?_;refine wp_region_lit ?_;refine Kn.pure fh1 rfl rfl .none (Kn.ex_move fh1 (.tmp rfl)) fun fa2 fh2 => ?_;clear fh1 fa1;have qd : decide ((k : Int) < 64) = true := decide_eq_true (by omega);refine Kn.step fh2 rfl rfl .none (Kn.ex_bin fh2 (.tmp rfl) .const) fun Ko hKo => ?_;go_simp;(try go_bits);refine hKo _ _ fun fa3 fh3 => ?_;clear hKo Ko fh2 fa2;clear qd;refine wpList_nil ?_;refine hK3 _ _ ?_;clear hK3 K3;replace fh3 := fh3.cut (.cons (t := 129) rfl (.cons (t := 16) rfl (.cons (t := 14) rfl (.cons (t := 13) rfl (.cons (t := 12) rfl (.cons (t := 7) rfl (.cons (t := 1) rfl .nil)))))));refine Kn.yes fh3 (.tmp rfl) ?_;refine wp_skip ?_;refine hK2 _ _ ?_;clear hK2 K2;replace fh3 := fh3.cut (.cons (t := 16) rfl (.cons (t := 14) rfl (.cons (t := 13) rfl (.cons (t := 12) rfl (.cons (t := 7) rfl (.cons (t := 1) rfl .nil))))));refine wp_seq_k fun K4 hK4 => ?_;refine wp_block ?_;obtain ⟨i0, hi0⟩ : ∃ a, k = a + 16 := ⟨k - 16, by omega⟩;have HI0 := Lib.hid hi0;have r16 : (k : Int) - 16 = (i0 : Int) := by omega
    have hi0k : i0 < k := by omega
    have hcl : ∀ j, j < k → v.cell? ⟨gw, j, none⟩ = some (.int .i64 ((wd W j : Nat) : Int)) := fun j hj => by
      rw [HS.out.ow.cell (by rw [List.length_take, HWl.out]; omega), wd_take _ _ _ hj]
    obtain ⟨i1, hi1⟩ : ∃ i, i0 + 1 = i := ⟨_, rfl⟩;have r15 : (k : Int) - 15 = (i1 : Int) := by omega
    have hi1k : i1 < k := by omega
    obtain ⟨i9, hi9⟩ : ∃ i, i0 + 9 = i := ⟨_, rfl⟩;have r7 : (k : Int) - 7 = (i9 : Int) := by omega
    have hi9k : i9 < k := by omega
    obtain ⟨i14, hi14⟩ : ∃ i, i0 + 14 = i := ⟨_, rfl⟩;have r2 : (k : Int) - 2 = (i14 : Int) := by omega
    have hi14k : i14 < k := by omega
    have c0 := hcl i0 (by omega);have b0 := HWb.out i0;obtain ⟨x0, hx0⟩ : ∃ x, wd W i0 = x := ⟨_, rfl⟩;rw [hx0] at c0 b0;have c1 := hcl i1 (by omega);have b1 := HWb.out i1;obtain ⟨x1, hx1⟩ : ∃ x, wd W i1 = x := ⟨_, rfl⟩;rw [hx1] at c1 b1;have c9 := hcl i9 (by omega);have b9 := HWb.out i9;obtain ⟨x9, hx9⟩ : ∃ x, wd W i9 = x := ⟨_, rfl⟩;rw [hx9] at c9 b9;have c14 := hcl i14 (by omega);have b14 := HWb.out i14;obtain ⟨x14, hx14⟩ : ∃ x, wd W i14 = x := ⟨_, rfl⟩;rw [hx14] at c14 b14;have HY : Hid (wd W k = (x0 + sg0 x1 + x9 + sg1 x14) % 4294967296) := Lib.hid (by rw [HWhi.out k hk16 hlt, HI0.out, next_eq, hi1, hi9, hi14, hx0, hx1, hx9, hx14]);clear hcl hx0 hx1 hx9 hx14 hi0 hi1 hi9 hi14 HI0;refine wp_seq_k fun K5 hK5 => ?_;refine Kn.still (by kernel_rfl) (by kernel_rfl) ?_;refine Kn.spure fh3 rfl rfl .none (Kn.ex_move fh3 (.tmp rfl)) fun fa4 fh4 => ?_;clear fh3 fa3;refine Kn.spure fh4 rfl rfl .none (Kn.ex_move fh4 (.tmp rfl)) fun fa5 fh5 => ?_;clear fh4 fa4;refine Kn.sstep fh5 rfl rfl .none (Kn.ex_bin fh5 (.tmp rfl) .const) fun Ko hKo => ?_;go_simp;(try go_bits);refine hKo _ fun fa6 fh6 => ?_;clear hKo Ko fh5 fa5;refine Kn.sstep fh6 rfl rfl .none (Kn.ex_indexAddr fh6 (.tmp rfl) (.tmp rfl)) fun Ko hKo => ?_;go_simp;(try go_bits);refine hKo _ fun fa7 fh7 => ?_;clear hKo Ko fh6 fa6;refine Kn.sstep fh7 rfl rfl .none (Kn.ex_load fh7 (.tmp rfl)) fun Ko hKo => ?_;go_simp;(try go_bits);refine hKo _ fun fa8 fh8 => ?_;clear hKo Ko fh7 fa7;refine Kn.spure fh8 rfl rfl .none (Kn.ex_move fh8 (.tmp rfl)) fun fa9 fh9 => ?_;clear fh8 fa8;refine Kn.spure fh9 rfl rfl .none (Kn.ex_move fh9 (.tmp rfl)) fun fa10 fh10 => ?_;clear fh9 fa9;refine Kn.sstep fh10 rfl rfl .none (Kn.ex_bin fh10 (.tmp rfl) .const) fun Ko hKo => ?_;go_simp;(try go_bits);refine hKo _ fun fa11 fh11 => ?_;clear hKo Ko fh10 fa10;refine Kn.sstep fh11 rfl rfl .none (Kn.ex_indexAddr fh11 (.tmp rfl) (.tmp rfl)) fun Ko hKo => ?_;go_simp;(try go_bits);refine hKo _ fun fa12 fh12 => ?_;clear hKo Ko fh11 fa11;refine Kn.sstep fh12 rfl rfl .none (Kn.ex_load fh12 (.tmp rfl)) fun Ko hKo => ?_;go_simp;(try go_bits);refine hKo _ fun fa13 fh13 => ?_;clear hKo Ko fh12 fa12;refine Kn.spure fh13 rfl rfl .none (Kn.ex_assign fh13 (.tmp rfl)) fun fa14 fh14 => ?_;clear fh13 fa13;refine Kn.spure fh14 rfl rfl .none (Kn.ex_assign fh14 (.tmp rfl)) fun fa15 fh15 => ?_;clear fh14 fa14;refine wpStill_nil ?_;refine hK5 _ _ ?_;clear hK5 K5;replace fh15 := fh15.cut (.cons (t := 18) rfl (.cons (t := 17) rfl (.cons (t := 16) rfl (.cons (t := 14) rfl (.cons (t := 13) rfl (.cons (t := 12) rfl (.cons (t := 7) rfl (.cons (t := 1) rfl .nil))))))));obtain ⟨ya, hya, bya⟩ := rotN x1 7 (by omega) b1;obtain ⟨yb, hyb, byb⟩ := rotN x1 18 (by omega) b1;obtain ⟨yc, hyc⟩ : ∃ y, x1 / 8 = y := ⟨_, rfl⟩;have byc : yc < 4294967296 := by omega
    obtain ⟨yd, hyd, byd, jd⟩ := xorN ya yb bya byb;obtain ⟨s0, hye, bs0, je⟩ := xorN yd yc byd byc;have Hs0 : Hid (sg0 x1 = s0) := Lib.hid (by rw [sg0, hya, hyb, hyc, hyd, hye]);have Hya := Lib.hid hya;have Hyb := Lib.hid hyb;have Hyc := Lib.hid hyc;clear hya hyb hyc hyd hye;refine wp_seq_k fun K6 hK6 => ?_;refine wp_region_lit ?_;refine Kn.pure fh15 rfl rfl .none (Kn.ex_move fh15 (.tmp rfl)) fun fa16 fh16 => ?_;clear fh15 fa15;refine Kn.call fh16 rfl rfl .none (Kn.ex_call fh16 (.cons (.tmp rfl) (.cons .const .nil))) Tryd.call54 (turn_l x1 7 7 ya _ b1 rfl (by omega) Hya.out) fun e wx hp => ?_;obtain ⟨rfl, q1, rfl⟩ := hp;refine ⟨_, rfl, fun fa17 fh17 => ?_⟩;clear fh16 fa16;refine Kn.pure fh17 rfl rfl .none (Kn.ex_move fh17 (.tmp rfl)) fun fa18 fh18 => ?_;clear fh17 fa17;refine Kn.call fh18 rfl rfl .none (Kn.ex_call fh18 (.cons (.tmp rfl) (.cons .const .nil))) Tryd.call54 (turn_l x1 18 18 yb _ b1 rfl (by omega) Hyb.out) fun e wx hp => ?_;obtain ⟨rfl, q2, rfl⟩ := hp;refine ⟨_, rfl, fun fa19 fh19 => ?_⟩;clear fh18 fa18;refine Kn.step fh19 rfl rfl .none (Kn.ex_bin fh19 (.tmp rfl) (.tmp rfl)) fun Ko hKo => ?_;go_simp;(try go_bits);refine hKo _ _ fun fa20 fh20 => ?_;clear hKo Ko fh19 fa19;refine Kn.pure fh20 rfl rfl .none (Kn.ex_move fh20 (.tmp rfl)) fun fa21 fh21 => ?_;clear fh20 fa20;refine Kn.call fh21 rfl rfl .none (Kn.ex_call fh21 (.cons (.tmp rfl) (.cons .const .nil))) Tryd.call55 (half3 x1 yc _ b1 Hyc.out) fun e wx hp => ?_;obtain ⟨rfl, rfl⟩ := hp;refine ⟨_, rfl, fun fa22 fh22 => ?_⟩;clear fh21 fa21;refine Kn.step fh22 rfl rfl .none (Kn.ex_bin fh22 (.tmp rfl) (.tmp rfl)) fun Ko hKo => ?_;go_simp;(try go_bits);refine hKo _ _ fun fa23 fh23 => ?_;clear hKo Ko fh22 fa22;refine Kn.pure fh23 rfl rfl .none (Kn.ex_assign fh23 (.tmp rfl)) fun fa24 fh24 => ?_;clear fh23 fa23;refine wpList_nil ?_;refine hK6 _ _ ?_;clear hK6 K6;replace fh24 := fh24.cut (.cons (t := 19) rfl (.cons (t := 18) rfl (.cons (t := 16) rfl (.cons (t := 14) rfl (.cons (t := 13) rfl (.cons (t := 12) rfl (.cons (t := 7) rfl (.cons (t := 1) rfl .nil))))))));clear jd je Hya Hyb Hyc bya byb byc byd;obtain ⟨ya, hya, bya⟩ := rotN x14 17 (by omega) b14;obtain ⟨yb, hyb, byb⟩ := rotN x14 19 (by omega) b14;obtain ⟨yc, hyc⟩ : ∃ y, x14 / 1024 = y := ⟨_, rfl⟩;have byc : yc < 4294967296 := by omega
    obtain ⟨yd, hyd, byd, jd⟩ := xorN ya yb bya byb;obtain ⟨s1, hye, bs1, je⟩ := xorN yd yc byd byc;have Hs1 : Hid (sg1 x14 = s1) := Lib.hid (by rw [sg1, hya, hyb, hyc, hyd, hye]);have Hya := Lib.hid hya;have Hyb := Lib.hid hyb;have Hyc := Lib.hid hyc;clear hya hyb hyc hyd hye;refine wp_seq_k fun K7 hK7 => ?_;refine wp_region_lit ?_;refine Kn.pure fh24 rfl rfl .none (Kn.ex_move fh24 (.tmp rfl)) fun fa25 fh25 => ?_;clear fh24 fa24;refine Kn.call fh25 rfl rfl .none (Kn.ex_call fh25 (.cons (.tmp rfl) (.cons .const .nil))) Tryd.call54 (turn_l x14 17 17 ya _ b14 rfl (by omega) Hya.out) fun e wx hp => ?_;obtain ⟨rfl, q3, rfl⟩ := hp;refine ⟨_, rfl, fun fa26 fh26 => ?_⟩;clear fh25 fa25;refine Kn.pure fh26 rfl rfl .none (Kn.ex_move fh26 (.tmp rfl)) fun fa27 fh27 => ?_;clear fh26 fa26;refine Kn.call fh27 rfl rfl .none (Kn.ex_call fh27 (.cons (.tmp rfl) (.cons .const .nil))) Tryd.call54 (turn_l x14 19 19 yb _ b14 rfl (by omega) Hyb.out) fun e wx hp => ?_;obtain ⟨rfl, q4, rfl⟩ := hp;refine ⟨_, rfl, fun fa28 fh28 => ?_⟩;clear fh27 fa27;refine Kn.step fh28 rfl rfl .none (Kn.ex_bin fh28 (.tmp rfl) (.tmp rfl)) fun Ko hKo => ?_;go_simp;(try go_bits);refine hKo _ _ fun fa29 fh29 => ?_;clear hKo Ko fh28 fa28;refine Kn.pure fh29 rfl rfl .none (Kn.ex_move fh29 (.tmp rfl)) fun fa30 fh30 => ?_;clear fh29 fa29;refine Kn.call fh30 rfl rfl .none (Kn.ex_call fh30 (.cons (.tmp rfl) (.cons .const .nil))) Tryd.call55 (half10 x14 yc _ b14 Hyc.out) fun e wx hp => ?_;obtain ⟨rfl, rfl⟩ := hp;refine ⟨_, rfl, fun fa31 fh31 => ?_⟩;clear fh30 fa30;refine Kn.step fh31 rfl rfl .none (Kn.ex_bin fh31 (.tmp rfl) (.tmp rfl)) fun Ko hKo => ?_;go_simp;(try go_bits);refine hKo _ _ fun fa32 fh32 => ?_;clear hKo Ko fh31 fa31;refine Kn.pure fh32 rfl rfl .none (Kn.ex_assign fh32 (.tmp rfl)) fun fa33 fh33 => ?_;clear fh32 fa32;refine wpList_nil ?_;refine hK7 _ _ ?_;clear hK7 K7;replace fh33 := fh33.cut (.cons (t := 20) rfl (.cons (t := 19) rfl (.cons (t := 16) rfl (.cons (t := 14) rfl (.cons (t := 13) rfl (.cons (t := 12) rfl (.cons (t := 7) rfl (.cons (t := 1) rfl .nil))))))));clear jd je Hya Hyb Hyc bya byb byc byd;refine Kn.gen (fun u => Ws w0 u gw capw (W.take k) gh caph Hm g2 cap2 PL ∧ u.cell? ⟨gw, i0, none⟩ = some (.int .i64 (x0 : Int)) ∧ u.cell? ⟨gw, i9, none⟩ = some (.int .i64 (x9 : Int))) ⟨HS.out.drewN _, c0, c9⟩ fun u ⟨hSu, d0, d9⟩ => ?_;clear c0 c1 c9 c14;obtain ⟨z1, hz1⟩ : ∃ z, x0 + s0 = z := ⟨_, rfl⟩;obtain ⟨z2, hz2⟩ : ∃ z, z1 + x9 = z := ⟨_, rfl⟩;obtain ⟨z3, hz3⟩ : ∃ z, z2 + s1 = z := ⟨_, rfl⟩;obtain ⟨y, hy⟩ : ∃ y, z3 % 4294967296 = y := ⟨_, rfl⟩;have a1 : (x0 : Int) + (s0 : Int) = (z1 : Int) := by omega
    have a2 : (z1 : Int) + (x9 : Int) = (z2 : Int) := by omega
    have a3 : (z2 : Int) + (s1 : Int) = (z3 : Int) := by omega
    have a4 : (z3 : Int) % 4294967296 = (y : Int) := by omega
    have l1 : z1 < 18000000000 := by omega
    have l2 : z2 < 18000000000 := by omega
    have l3 : z3 < 18000000000 := by omega
    have HYY : Hid (wd W k = y) := Lib.hid (by rw [HY.out, Hs0.out, Hs1.out, hz1, hz2, hz3, hy]);clear hz1 hz2 hz3 hy HY HS;obtain ⟨gn, capn, vn, hrun, hown, hbel, hkep⟩ := push1 w0 u.drew 25 gw capw k y (W.take k) hSu.ow.drew (by rw [List.length_take, HWl.out]; omega) (below_drew hSu.old) (by omega);have HN := Lib.hid (hSu.drew.push hown hbel hkep);clear hown hbel hkep hSu;refine Sha.knPush 16 (by kernel_rfl) fh33 (by kernel_rfl) rfl rfl rfl rfl rfl (fun _ _ _ _ _ h => hP _ _ _ _ _ h) rfl rfl fun fa34 fh34 => ?_;clear fh33 fa33;refine Kn.spure fh34 rfl rfl .none (Kn.ex_move fh34 (.tmp rfl)) fun fa35 fh35 => ?_;clear fh34 fa34;refine Kn.spure fh35 rfl rfl .none (Kn.ex_move fh35 (.tmp rfl)) fun fa36 fh36 => ?_;clear fh35 fa35;refine Kn.sstep fh36 rfl rfl .none (Kn.ex_bin fh36 (.tmp rfl) .const) fun Ko hKo => ?_;go_simp;(try go_bits);refine hKo _ fun fa37 fh37 => ?_;clear hKo Ko fh36 fa36;refine Kn.sstep fh37 rfl rfl .none (Kn.ex_indexAddr fh37 (.tmp rfl) (.tmp rfl)) fun Ko hKo => ?_;go_simp;(try go_bits);refine hKo _ fun fa38 fh38 => ?_;clear hKo Ko fh37 fa37;refine Kn.sstep fh38 rfl rfl .none (Kn.ex_load fh38 (.tmp rfl)) fun Ko hKo => ?_;go_simp;(try go_bits);refine hKo _ fun fa39 fh39 => ?_;clear hKo Ko fh38 fa38;refine Kn.spure fh39 rfl rfl .none (Kn.ex_move fh39 (.tmp rfl)) fun fa40 fh40 => ?_;clear fh39 fa39;refine Kn.sstep fh40 rfl rfl .none (Kn.ex_bin fh40 (.tmp rfl) (.tmp rfl)) fun Ko hKo => ?_;go_simp;(try go_bits);refine hKo _ fun fa41 fh41 => ?_;clear hKo Ko fh40 fa40;refine Kn.spure fh41 rfl rfl .none (Kn.ex_move fh41 (.tmp rfl)) fun fa42 fh42 => ?_;clear fh41 fa41;refine Kn.spure fh42 rfl rfl .none (Kn.ex_move fh42 (.tmp rfl)) fun fa43 fh43 => ?_;clear fh42 fa42;refine Kn.sstep fh43 rfl rfl .none (Kn.ex_bin fh43 (.tmp rfl) .const) fun Ko hKo => ?_;go_simp;(try go_bits);refine hKo _ fun fa44 fh44 => ?_;clear hKo Ko fh43 fa43;refine Kn.sstep fh44 rfl rfl .none (Kn.ex_indexAddr fh44 (.tmp rfl) (.tmp rfl)) fun Ko hKo => ?_;go_simp;(try go_bits);refine hKo _ fun fa45 fh45 => ?_;clear hKo Ko fh44 fa44;refine Kn.sstep fh45 rfl rfl .none (Kn.ex_load fh45 (.tmp rfl)) fun Ko hKo => ?_;go_simp;(try go_bits);refine hKo _ fun fa46 fh46 => ?_;clear hKo Ko fh45 fa45;refine Kn.sstep fh46 rfl rfl .none (Kn.ex_bin fh46 (.tmp rfl) (.tmp rfl)) fun Ko hKo => ?_;go_simp;(try go_bits);refine hKo _ fun fa47 fh47 => ?_;clear hKo Ko fh46 fa46;refine Kn.spure fh47 rfl rfl .none (Kn.ex_move fh47 (.tmp rfl)) fun fa48 fh48 => ?_;clear fh47 fa47;refine Kn.sstep fh48 rfl rfl .none (Kn.ex_bin fh48 (.tmp rfl) (.tmp rfl)) fun Ko hKo => ?_;go_simp;(try go_bits);refine hKo _ fun fa49 fh49 => ?_;clear hKo Ko fh48 fa48;refine Kn.sstep fh49 rfl rfl .none (Kn.ex_bin fh49 (.tmp rfl) .const) fun Ko hKo => ?_;go_simp;(try go_bits);refine hKo _ fun fa50 fh50 => ?_;clear hKo Ko fh49 fa49;refine wpStill_nil ?_;refine Kn.step fh50 rfl rfl .none (Kn.ex_buildSlice fh50 (.cons (.tmp rfl) .nil)) fun Ko hKo => ?_;go_simp;(try go_bits);refine hKo _ _ fun fa51 fh51 => ?_;clear hKo Ko fh50 fa50;refine Kn.known fh51 rfl rfl .none (Kn.ex_append fh51 (.cons (.tmp rfl) (.cons (.tmp rfl) .nil))) hrun fun fa52 fh52 => ?_;clear fh51 fa51;clear hrun;refine Kn.pure fh52 rfl rfl .none (Kn.ex_assign fh52 (.tmp rfl)) fun fa53 fh53 => ?_;clear fh52 fa52;refine wpList_nil ?_;refine Kn.block_normal ?_;refine hK4 _ _ ?_;clear hK4 K4;replace fh53 := fh53.cut (.cons (t := 14) rfl (.cons (t := 16) rfl (.cons (t := 13) rfl (.cons (t := 12) rfl (.cons (t := 7) rfl (.cons (t := 1) rfl .nil))))));clear d0 d9 a1 a2 a3 a4 r16 r15 r7 r2;refine wp_region_lit ?_;refine Kn.pure fh53 rfl rfl .none (Kn.ex_move fh53 (.tmp rfl)) fun fa54 fh54 => ?_;clear fh53 fa53;refine Kn.step fh54 rfl rfl .none (Kn.ex_bin fh54 (.tmp rfl) .const) fun Ko hKo => ?_;go_simp;(try go_bits);refine hKo _ _ fun fa55 fh55 => ?_;clear hKo Ko fh54 fa54;refine Kn.pure fh55 rfl rfl .none (Kn.ex_assign fh55 (.tmp rfl)) fun fa56 fh56 => ?_;clear fh55 fa55;refine wpList_nil ?_;replace fh56 := fh56.cut (.cons (t := 16) rfl (.cons (t := 14) rfl (.cons (t := 13) rfl (.cons (t := 12) rfl (.cons (t := 7) rfl (.cons (t := 1) rfl .nil))))));exact hKl1 (m1 - 1) _ _ (by omega) ⟨k + 1, gn, capn, fh56.cut (.turn (t := 16) rfl (by go_num) (.cons (t := 14) rfl (.cons (t := 13) rfl (.cons (t := 12) rfl (.cons (t := 7) rfl (.cons (t := 1) rfl .nil)))))), by omega, by omega, Lib.hid (by rw [take_snoc' W k (by rw [HWl.out]; omega), HYY.out]; exact HN.out)⟩
  · obtain rfl : k = 64 := by omega
    refine wp_seq_k fun K2 hK2 => ?_;refine wp_seq_k fun K3 hK3 => ?_;refine wp_region_lit ?_;refine Kn.pure fh1 rfl rfl .none (Kn.ex_move fh1 (.tmp rfl)) fun fa2 fh2 => ?_;clear fh1 fa1;have qd : decide (((64 : Nat) : Int) < 64) = false := decide_eq_false (by omega);refine Kn.step fh2 rfl rfl .none (Kn.ex_bin fh2 (.tmp rfl) .const) fun Ko hKo => ?_;go_simp;(try go_bits);refine hKo _ _ fun fa3 fh3 => ?_;clear hKo Ko fh2 fa2;clear qd;refine wpList_nil ?_;refine hK3 _ _ ?_;clear hK3 K3;replace fh3 := fh3.cut (.cons (t := 129) rfl (.cons (t := 16) rfl (.cons (t := 14) rfl (.cons (t := 13) rfl (.cons (t := 12) rfl (.cons (t := 7) rfl (.cons (t := 1) rfl .nil)))))));refine Kn.no fh3 (.tmp rfl) ?_;replace fh3 := fh3.cut (.cons (t := 16) rfl (.cons (t := 14) rfl (.cons (t := 13) rfl (.cons (t := 12) rfl (.cons (t := 7) rfl (.cons (t := 1) rfl .nil))))));refine wp_exit ?_;refine Kn.then_exit ?_;clear hK2 K2;refine Kn.then_exit ?_;clear hKl1 Kl1;refine Kn.block_exit ?_;replace fh3 := fh3.cut (.cons (t := 14) rfl (.cons (t := 13) rfl (.cons (t := 12) rfl (.cons (t := 7) rfl (.cons (t := 1) rfl .nil)))));exact hQ _ _ gw capw fh3 (by have := HS.out; rwa [List.take_of_length_le (by rw [HWl.out]; exact Nat.le_refl _)] at this)
end Go.Proofs.YtcamanopfhbchaaDoor.Sha
end
section
namespace Go.Proofs.YtcamanopfhbchaaDoor.Sha
open Go.RowKit Go.Lib
theorem nin_cell {w0 v : World} {b o : Nat} {l : List Nat} (h : NIn w0 (some ⟨b, o, none⟩) l) (hb : Below w0.heap.size w0 v) {k : Nat} (hk : k < l.length) : v.cell? ⟨b, o + k, none⟩ = some (.int .i64 ((wd l k : Nat) : Int)) := by
  obtain ⟨b', o', e, hlt, hc⟩ := h k hk;cases e;exact (hb.cell (p := ⟨b, o + k, none⟩) hlt).trans hc
theorem kk_lt (k : Nat) : wd kk k < 4294967296 := by
  rcases Nat.lt_or_ge k 64 with h | h
  · have : ∀ i : Fin 64, wd kk i.val < 4294967296 := by decide +kernel
    exact this ⟨k, h⟩
  · have : wd kk k = 0 := by unfold wd; rw [List.getD_eq_getElem?_getD, List.getElem?_eq_none (by exact h)]; rfl
    omega
theorem rn_new8 (u : World) (a b c d e f g h n : Nat) (hn : n = u.heap.size) : RN (u.alloc (.cells #[.int .i64 (a : Int), .int .i64 (b : Int), .int .i64 (c : Int), .int .i64 (d : Int), .int .i64 (e : Int), .int .i64 (f : Int), .int .i64 (g : Int), .int .i64 (h : Int)] 3)) n (V8.list ⟨a, b, c, d, e, f, g, h⟩) :=
  ⟨by simp; omega, fun k hk => by
    rw [World.cell?_alloc_at _ _ _ _ hn];have hk8 : k < 8 := hk
    match k, hk8 with
    | 0, _ => rfl
    | 1, _ => rfl
    | 2, _ => rfl
    | 3, _ => rfl
    | 4, _ => rfl
    | 5, _ => rfl
    | 6, _ => rfl
    | 7, _ => rfl⟩
set_option maxRecDepth 100000 in
set_option maxHeartbeats 4000000 in
theorem lp7 (w0 v : World) (fa0 : Act) (v12 : Value) (A n2 g2 cap2 gh caph gw capw gv cv bk ok ck : Nat) (Hm PL W : List Nat) (c0 : V8) (Q : Exit → Act → World → Prop)
    (fh0 : Kn.Kn 354 [(22, .int .i64 0), (21, .slice (some ⟨gv, 0, none⟩) 8 cv), (14, .slice (some ⟨gw, 0, none⟩) 64 capw), (13, .int .i64 (A : Int)), (12, v12), (7, .slice (some ⟨g2, 0, none⟩) n2 cap2), (1, .slice (some ⟨bk, ok, none⟩) 64 ck)] fa0)
    (HWl : Hid (W.length = 64)) (HWb : Hid (∀ i, wd W i < 4294967296)) (HCb : Hid (∀ k i, wd (rnds c0 W k).list i < 4294967296)) (HK : Hid (NIn w0 (some ⟨bk, ok, none⟩) kk))
    (hS : Ws w0 v gw capw W gh caph Hm g2 cap2 PL) (hV : RN v gv c0.list) (hgv : gv ≠ gh)
    (hQ : ∀ a v gv cv, Kn.Kn 354 [(21, .slice (some ⟨gv, 0, none⟩) 8 cv), (14, .slice (some ⟨gw, 0, none⟩) 64 capw), (13, .int .i64 (A : Int)), (12, v12), (7, .slice (some ⟨g2, 0, none⟩) n2 cap2), (1, .slice (some ⟨bk, ok, none⟩) 64 ck)] a → Ws w0 v gw capw W gh caph Hm g2 cap2 PL → RN v gv (rnds c0 W 64).list → gv ≠ gh → Q .normal a v) :
    (Code.block 12 (.loop (bodyS 6))).wp Tryd.prog Q fa0 v := by
  refine wp_block ?_;refine Kn.loop (fun m fr v => ∃ (k gv cv : Nat), Kn.Kn 354 [(22, .int .i64 (k : Int)), (21, .slice (some ⟨gv, 0, none⟩) 8 cv), (14, .slice (some ⟨gw, 0, none⟩) 64 capw), (13, .int .i64 (A : Int)), (12, v12), (7, .slice (some ⟨g2, 0, none⟩) n2 cap2), (1, .slice (some ⟨bk, ok, none⟩) 64 ck)] fr ∧ k + m = 64 ∧ Hid (Ws w0 v gw capw W gh caph Hm g2 cap2 PL) ∧ Hid (RN v gv (rnds c0 W k).list) ∧ gv ≠ gh) 64 ⟨0, gv, cv, fh0.cut (.cons (t := 22) rfl (.cons (t := 21) rfl (.cons (t := 14) rfl (.cons (t := 13) rfl (.cons (t := 12) rfl (.cons (t := 7) rfl (.cons (t := 1) rfl .nil))))))), rfl, Lib.hid hS, Lib.hid hV, hgv⟩ ?_;clear fh0 fa0;intro m1 fa1 v hI Kl1 hKl1
  conv => arg 2; whnf
  obtain ⟨k, gv, cv, fh1, hk, HS, HV, hgv⟩ := hI;clear hS hV
  by_cases hlt : k < 64
  · refine wp_seq_k fun K2 hK2 => ?_;refine wp_seq_k fun K3 hK3 => ?_;refine wp_region_lit ?_;refine Kn.pure fh1 rfl rfl .none (Kn.ex_move fh1 (.tmp rfl)) fun fa2 fh2 => ?_;clear fh1 fa1;have qd : decide ((k : Int) < 64) = true := decide_eq_true (by omega);refine Kn.step fh2 rfl rfl .none (Kn.ex_bin fh2 (.tmp rfl) .const) fun Ko hKo => ?_;go_simp;(try go_bits);refine hKo _ _ fun fa3 fh3 => ?_;clear hKo Ko fh2 fa2;clear qd;refine wpList_nil ?_;refine hK3 _ _ ?_;clear hK3 K3;replace fh3 := fh3.cut (.cons (t := 181) rfl (.cons (t := 22) rfl (.cons (t := 21) rfl (.cons (t := 14) rfl (.cons (t := 13) rfl (.cons (t := 12) rfl (.cons (t := 7) rfl (.cons (t := 1) rfl .nil))))))));refine Kn.yes fh3 (.tmp rfl) ?_;refine wp_skip ?_;refine hK2 _ _ ?_;clear hK2 K2;replace fh3 := fh3.cut (.cons (t := 22) rfl (.cons (t := 21) rfl (.cons (t := 14) rfl (.cons (t := 13) rfl (.cons (t := 12) rfl (.cons (t := 7) rfl (.cons (t := 1) rfl .nil)))))));refine wp_seq_k fun K4 hK4 => ?_;refine wp_block ?_;obtain ⟨s, hs⟩ : ∃ s, rnds c0 W k = s := ⟨_, rfl⟩;rw [hs] at HV;have HST : Hid (rnds c0 W (k + 1) = step s (wd kk k) (wd W k)) := Lib.hid (by rw [rnds, hs]);have hbd : ∀ i, wd s.list i < 4294967296 := by rw [← hs]; exact HCb.out k
    clear hs;obtain ⟨xa, xb, xc, xd, xe, xf, xg, xh⟩ := s;have ba : xa < 4294967296 := hbd 0;have bb : xb < 4294967296 := hbd 1;have bc : xc < 4294967296 := hbd 2;have bd : xd < 4294967296 := hbd 3;have be : xe < 4294967296 := hbd 4;have bf : xf < 4294967296 := hbd 5;have bg : xg < 4294967296 := hbd 6;have bh : xh < 4294967296 := hbd 7;have c_a : v.cell? ⟨gv, 0, none⟩ = some (.int .i64 (xa : Int)) := HV.out.2 0 (show 0 < 8 by decide);have c_b : v.cell? ⟨gv, 1, none⟩ = some (.int .i64 (xb : Int)) := HV.out.2 1 (show 1 < 8 by decide);have c_c : v.cell? ⟨gv, 2, none⟩ = some (.int .i64 (xc : Int)) := HV.out.2 2 (show 2 < 8 by decide);have c_d : v.cell? ⟨gv, 3, none⟩ = some (.int .i64 (xd : Int)) := HV.out.2 3 (show 3 < 8 by decide);have c_e : v.cell? ⟨gv, 4, none⟩ = some (.int .i64 (xe : Int)) := HV.out.2 4 (show 4 < 8 by decide);have c_f : v.cell? ⟨gv, 5, none⟩ = some (.int .i64 (xf : Int)) := HV.out.2 5 (show 5 < 8 by decide);have c_g : v.cell? ⟨gv, 6, none⟩ = some (.int .i64 (xg : Int)) := HV.out.2 6 (show 6 < 8 by decide);have c_h : v.cell? ⟨gv, 7, none⟩ = some (.int .i64 (xh : Int)) := HV.out.2 7 (show 7 < 8 by decide);obtain ⟨xw, hxw⟩ : ∃ x, wd W k = x := ⟨_, rfl⟩;obtain ⟨xk, hxk⟩ : ∃ x, wd kk k = x := ⟨_, rfl⟩;rw [hxw, hxk] at HST;have bw : xw < 4294967296 := by rw [← hxw]; exact HWb.out k
    have bk2 : xk < 4294967296 := by rw [← hxk]; exact kk_lt k
    have c_w : v.cell? ⟨gw, k, none⟩ = some (.int .i64 (xw : Int)) := by rw [← hxw]; exact HS.out.ow.cell (by rw [HWl.out]; exact hlt)
    have c_k : v.cell? ⟨bk, ok + k, none⟩ = some (.int .i64 (xk : Int)) := by rw [← hxk]; exact nin_cell HK.out HS.out.old (by exact hlt)
    clear hxw hxk hbd;obtain ⟨ya, hya, bya⟩ := rotN xe 6 (by omega) be;obtain ⟨yb, hyb, byb⟩ := rotN xe 11 (by omega) be;obtain ⟨yc, hyc, byc⟩ := rotN xe 25 (by omega) be;obtain ⟨yd, hyd, byd, jd⟩ := xorN ya yb bya byb;obtain ⟨s1, hye, bds1, je⟩ := xorN yd yc byd byc;have Hs1 : Hid (bs1 xe = s1) := Lib.hid (by rw [bs1, hya, hyb, hyc, hyd, hye]);have Hya := Lib.hid hya;have Hyb := Lib.hid hyb;have Hyc := Lib.hid hyc;clear hya hyb hyc hyd hye;refine wp_seq_k fun K5 hK5 => ?_;refine Kn.any (fun u => ∃ q, u = World.drewN v q) (fun u u' => ∃ q, u' = World.drewN u q) (Kn.TL [Kn.Is (Value.slice (some ⟨gv, 0, none⟩) 8 cv), Kn.Is (Value.pointer (some ⟨gv, 4, none⟩)), Kn.Is (Value.int .i64 (xe : Int)), Kn.Is (Value.int .i64 (ya : Int)), Kn.Is (Value.slice (some ⟨gv, 0, none⟩) 8 cv), Kn.Is (Value.pointer (some ⟨gv, 4, none⟩)), Kn.Is (Value.int .i64 (xe : Int)), Kn.Is (Value.int .i64 (yb : Int)), Kn.Is (Value.int .i64 (yd : Int)), Kn.Is (Value.slice (some ⟨gv, 0, none⟩) 8 cv), Kn.Is (Value.pointer (some ⟨gv, 4, none⟩)), Kn.Is (Value.int .i64 (xe : Int)), Kn.Is (Value.int .i64 (yc : Int)), Kn.Is (Value.int .i64 (s1 : Int)), Kn.Is (Value.int .i64 (s1 : Int))]) (by kernel_rfl) fh3 (by kernel_rfl) (by kernel_rfl) rfl (Kn.Keeps.all (.cons Kn.Is.keep (.cons Kn.Is.keep (.cons Kn.Is.keep (.cons Kn.Is.keep (.cons Kn.Is.keep (.cons Kn.Is.keep (.cons Kn.Is.keep (.cons Kn.Is.keep (.cons Kn.Is.keep (.cons Kn.Is.keep (.cons Kn.Is.keep (.cons Kn.Is.keep (.cons Kn.Is.keep (.cons Kn.Is.keep (.cons Kn.Is.keep .nil)))))))))))))))) ⟨1, rfl⟩ ⟨?_, ?_, ?_, ?_, ?_, ?_, ?_, ?_, ?_, ?_, ?_, ?_, ?_, ?_, ?_, trivial⟩ ?_
    · refine Kn.ok fun fa4 u L fh4 hS hH => ?_;obtain ⟨q, rfl⟩ := hS;exact Kn.apure fh4 .none (Kn.ex_move fh4 (.tmp rfl)) rfl ⟨q, rfl⟩ ⟨0, rfl⟩
    · refine Kn.ok fun fa4 u L fh4 hS hH => ?_;replace fh4 := fh4.more (show fa4.eval (.tmp 184) = Value.slice (some ⟨gv, 0, none⟩) 8 cv from hH 0 184 rfl rfl);obtain ⟨q, rfl⟩ := hS;refine Kn.aop fh4 .none (Kn.ex_indexAddr fh4 (.tmp rfl) .const) fun Ko hKo => ?_;go_simp;(try go_bits);exact hKo _ _ rfl ⟨q, rfl⟩ ⟨0, rfl⟩
    · refine Kn.ok fun fa4 u L fh4 hS hH => ?_;replace fh4 := fh4.more (show fa4.eval (.tmp 185) = Value.pointer (some ⟨gv, 4, none⟩) from hH 1 185 rfl rfl);obtain ⟨q, rfl⟩ := hS;refine Kn.aop fh4 .none (Kn.ex_load fh4 (.tmp rfl)) fun Ko hKo => ?_;go_simp;(try go_bits);exact hKo _ _ rfl ⟨q, rfl⟩ ⟨0, rfl⟩
    · refine Kn.ok fun fa4 u L fh4 hS hH => ?_;replace fh4 := fh4.more (show fa4.eval (.tmp 186) = Value.int .i64 (xe : Int) from hH 2 186 rfl rfl);obtain ⟨q, rfl⟩ := hS;refine Kn.acall fh4 .none (Kn.ex_call fh4 (.cons (.tmp rfl) (.cons .const .nil))) Tryd.call54 (turn_l xe 6 6 ya _ be rfl (by omega) Hya.out) fun e u2 hp => ?_;obtain ⟨rfl, q2, rfl⟩ := hp;exact ⟨_, rfl, rfl, ⟨_, World.drewN_drewN _ _ _⟩, ⟨_, rfl⟩⟩
    · refine Kn.ok fun fa4 u L fh4 hS hH => ?_;obtain ⟨q, rfl⟩ := hS;exact Kn.apure fh4 .none (Kn.ex_move fh4 (.tmp rfl)) rfl ⟨q, rfl⟩ ⟨0, rfl⟩
    · refine Kn.ok fun fa4 u L fh4 hS hH => ?_;replace fh4 := fh4.more (show fa4.eval (.tmp 188) = Value.slice (some ⟨gv, 0, none⟩) 8 cv from hH 4 188 rfl rfl);obtain ⟨q, rfl⟩ := hS;refine Kn.aop fh4 .none (Kn.ex_indexAddr fh4 (.tmp rfl) .const) fun Ko hKo => ?_;go_simp;(try go_bits);exact hKo _ _ rfl ⟨q, rfl⟩ ⟨0, rfl⟩
    · refine Kn.ok fun fa4 u L fh4 hS hH => ?_;replace fh4 := fh4.more (show fa4.eval (.tmp 189) = Value.pointer (some ⟨gv, 4, none⟩) from hH 5 189 rfl rfl);obtain ⟨q, rfl⟩ := hS;refine Kn.aop fh4 .none (Kn.ex_load fh4 (.tmp rfl)) fun Ko hKo => ?_;go_simp;(try go_bits);exact hKo _ _ rfl ⟨q, rfl⟩ ⟨0, rfl⟩
    · refine Kn.ok fun fa4 u L fh4 hS hH => ?_;replace fh4 := fh4.more (show fa4.eval (.tmp 190) = Value.int .i64 (xe : Int) from hH 6 190 rfl rfl);obtain ⟨q, rfl⟩ := hS;refine Kn.acall fh4 .none (Kn.ex_call fh4 (.cons (.tmp rfl) (.cons .const .nil))) Tryd.call54 (turn_l xe 11 11 yb _ be rfl (by omega) Hyb.out) fun e u2 hp => ?_;obtain ⟨rfl, q2, rfl⟩ := hp;exact ⟨_, rfl, rfl, ⟨_, World.drewN_drewN _ _ _⟩, ⟨_, rfl⟩⟩
    · refine Kn.ok fun fa4 u L fh4 hS hH => ?_;replace fh4 := fh4.more (show fa4.eval (.tmp 187) = Value.int .i64 (ya : Int) from hH 3 187 rfl rfl);replace fh4 := fh4.more (show fa4.eval (.tmp 191) = Value.int .i64 (yb : Int) from hH 7 191 rfl rfl);obtain ⟨q, rfl⟩ := hS;refine Kn.aop fh4 .none (Kn.ex_bin fh4 (.tmp rfl) (.tmp rfl)) fun Ko hKo => ?_;go_simp;(try go_bits);exact hKo _ _ rfl ⟨q, rfl⟩ ⟨0, rfl⟩
    · refine Kn.ok fun fa4 u L fh4 hS hH => ?_;obtain ⟨q, rfl⟩ := hS;exact Kn.apure fh4 .none (Kn.ex_move fh4 (.tmp rfl)) rfl ⟨q, rfl⟩ ⟨0, rfl⟩
    · refine Kn.ok fun fa4 u L fh4 hS hH => ?_;replace fh4 := fh4.more (show fa4.eval (.tmp 193) = Value.slice (some ⟨gv, 0, none⟩) 8 cv from hH 9 193 rfl rfl);obtain ⟨q, rfl⟩ := hS;refine Kn.aop fh4 .none (Kn.ex_indexAddr fh4 (.tmp rfl) .const) fun Ko hKo => ?_;go_simp;(try go_bits);exact hKo _ _ rfl ⟨q, rfl⟩ ⟨0, rfl⟩
    · refine Kn.ok fun fa4 u L fh4 hS hH => ?_;replace fh4 := fh4.more (show fa4.eval (.tmp 194) = Value.pointer (some ⟨gv, 4, none⟩) from hH 10 194 rfl rfl);obtain ⟨q, rfl⟩ := hS;refine Kn.aop fh4 .none (Kn.ex_load fh4 (.tmp rfl)) fun Ko hKo => ?_;go_simp;(try go_bits);exact hKo _ _ rfl ⟨q, rfl⟩ ⟨0, rfl⟩
    · refine Kn.ok fun fa4 u L fh4 hS hH => ?_;replace fh4 := fh4.more (show fa4.eval (.tmp 195) = Value.int .i64 (xe : Int) from hH 11 195 rfl rfl);obtain ⟨q, rfl⟩ := hS;refine Kn.acall fh4 .none (Kn.ex_call fh4 (.cons (.tmp rfl) (.cons .const .nil))) Tryd.call54 (turn_l xe 25 25 yc _ be rfl (by omega) Hyc.out) fun e u2 hp => ?_;obtain ⟨rfl, q2, rfl⟩ := hp;exact ⟨_, rfl, rfl, ⟨_, World.drewN_drewN _ _ _⟩, ⟨_, rfl⟩⟩
    · refine Kn.ok fun fa4 u L fh4 hS hH => ?_;replace fh4 := fh4.more (show fa4.eval (.tmp 192) = Value.int .i64 (yd : Int) from hH 8 192 rfl rfl);replace fh4 := fh4.more (show fa4.eval (.tmp 196) = Value.int .i64 (yc : Int) from hH 12 196 rfl rfl);obtain ⟨q, rfl⟩ := hS;refine Kn.aop fh4 .none (Kn.ex_bin fh4 (.tmp rfl) (.tmp rfl)) fun Ko hKo => ?_;go_simp;(try go_bits);exact hKo _ _ rfl ⟨q, rfl⟩ ⟨0, rfl⟩
    · refine Kn.ok fun fa4 u L fh4 hS hH => ?_;replace fh4 := fh4.more (show fa4.eval (.tmp 197) = Value.int .i64 (s1 : Int) from hH 13 197 rfl rfl);obtain ⟨q, rfl⟩ := hS;exact Kn.apure fh4 .none (Kn.ex_assign fh4 (.tmp rfl)) rfl ⟨q, rfl⟩ ⟨0, rfl⟩
    intro fa4 v3 fh4 hS hT;clear fh3 fa3;replace fh4 := fh4.more (show fa4.eval (.tmp 23) = Value.int .i64 (s1 : Int) from hT 14 23 rfl);clear hT;refine hK5 _ _ ?_;clear hK5 K5;obtain ⟨q3, rfl⟩ := hS;clear jd je Hya Hyb Hyc bya byb byc byd;obtain ⟨ya, hya, bya, jya⟩ := andN xe xf be bf;obtain ⟨ne, hne⟩ : ∃ n, 4294967295 - xe = n := ⟨_, rfl⟩;have bne : ne < 4294967296 := by omega
    have jne : 4294967295 - (xe : Int) = (ne : Int) := by omega
    obtain ⟨yb, hyb, byb, jyb⟩ := andN ne xg bne bg;obtain ⟨ch, hch, bch, jch⟩ := xorN ya yb bya byb;have Hch : Hid (chs xe xf xg = ch) := Lib.hid (by rw [chs, hya, hne, hyb, hch]);clear hya hne hyb hch;refine wp_seq_k fun K6 hK6 => ?_;refine Kn.still (by kernel_rfl) (by kernel_rfl) ?_;refine Kn.spure fh4 rfl rfl .none (Kn.ex_move fh4 (.tmp rfl)) fun fa5 fh5 => ?_;clear fh4 fa4;refine Kn.sstep fh5 rfl rfl .none (Kn.ex_indexAddr fh5 (.tmp rfl) .const) fun Ko hKo => ?_;go_simp;(try go_bits);refine hKo _ fun fa6 fh6 => ?_;clear hKo Ko fh5 fa5;refine Kn.sstep fh6 rfl rfl .none (Kn.ex_load fh6 (.tmp rfl)) fun Ko hKo => ?_;go_simp;(try go_bits);refine hKo _ fun fa7 fh7 => ?_;clear hKo Ko fh6 fa6;refine Kn.spure fh7 rfl rfl .none (Kn.ex_move fh7 (.tmp rfl)) fun fa8 fh8 => ?_;clear fh7 fa7;refine Kn.sstep fh8 rfl rfl .none (Kn.ex_indexAddr fh8 (.tmp rfl) .const) fun Ko hKo => ?_;go_simp;(try go_bits);refine hKo _ fun fa9 fh9 => ?_;clear hKo Ko fh8 fa8;refine Kn.sstep fh9 rfl rfl .none (Kn.ex_load fh9 (.tmp rfl)) fun Ko hKo => ?_;go_simp;(try go_bits);refine hKo _ fun fa10 fh10 => ?_;clear hKo Ko fh9 fa9;refine Kn.sstep fh10 rfl rfl .none (Kn.ex_bin fh10 (.tmp rfl) (.tmp rfl)) fun Ko hKo => ?_;go_simp;(try go_bits);refine hKo _ fun fa11 fh11 => ?_;clear hKo Ko fh10 fa10;refine Kn.spure fh11 rfl rfl .none (Kn.ex_move fh11 (.tmp rfl)) fun fa12 fh12 => ?_;clear fh11 fa11;refine Kn.sstep fh12 rfl rfl .none (Kn.ex_indexAddr fh12 (.tmp rfl) .const) fun Ko hKo => ?_;go_simp;(try go_bits);refine hKo _ fun fa13 fh13 => ?_;clear hKo Ko fh12 fa12;refine Kn.sstep fh13 rfl rfl .none (Kn.ex_load fh13 (.tmp rfl)) fun Ko hKo => ?_;go_simp;(try go_bits);refine hKo _ fun fa14 fh14 => ?_;clear hKo Ko fh13 fa13;refine Kn.sstep fh14 rfl rfl .none (Kn.ex_bin fh14 .const (.tmp rfl)) fun Ko hKo => ?_;go_simp;(try go_bits);refine hKo _ fun fa15 fh15 => ?_;clear hKo Ko fh14 fa14;refine Kn.spure fh15 rfl rfl .none (Kn.ex_move fh15 (.tmp rfl)) fun fa16 fh16 => ?_;clear fh15 fa15;refine Kn.sstep fh16 rfl rfl .none (Kn.ex_indexAddr fh16 (.tmp rfl) .const) fun Ko hKo => ?_;go_simp;(try go_bits);refine hKo _ fun fa17 fh17 => ?_;clear hKo Ko fh16 fa16;refine Kn.sstep fh17 rfl rfl .none (Kn.ex_load fh17 (.tmp rfl)) fun Ko hKo => ?_;go_simp;(try go_bits);refine hKo _ fun fa18 fh18 => ?_;clear hKo Ko fh17 fa17;refine Kn.sstep fh18 rfl rfl .none (Kn.ex_bin fh18 (.tmp rfl) (.tmp rfl)) fun Ko hKo => ?_;go_simp;(try go_bits);refine hKo _ fun fa19 fh19 => ?_;clear hKo Ko fh18 fa18;refine Kn.sstep fh19 rfl rfl .none (Kn.ex_bin fh19 (.tmp rfl) (.tmp rfl)) fun Ko hKo => ?_;go_simp;(try go_bits);refine hKo _ fun fa20 fh20 => ?_;clear hKo Ko fh19 fa19;refine Kn.spure fh20 rfl rfl .none (Kn.ex_assign fh20 (.tmp rfl)) fun fa21 fh21 => ?_;clear fh20 fa20;refine wpStill_nil ?_;refine hK6 _ _ ?_;clear hK6 K6;replace fh21 := fh21.cut (.cons (t := 24) rfl (.cons (t := 23) rfl (.cons (t := 22) rfl (.cons (t := 21) rfl (.cons (t := 14) rfl (.cons (t := 13) rfl (.cons (t := 12) rfl (.cons (t := 7) rfl (.cons (t := 1) rfl .nil)))))))));clear jya jne jyb jch bya bne byb;obtain ⟨z1, hz1⟩ : ∃ z, xh + s1 = z := ⟨_, rfl⟩;obtain ⟨z2, hz2⟩ : ∃ z, z1 + ch = z := ⟨_, rfl⟩;obtain ⟨z3, hz3⟩ : ∃ z, z2 + xk = z := ⟨_, rfl⟩;obtain ⟨z4, hz4⟩ : ∃ z, z3 + xw = z := ⟨_, rfl⟩;obtain ⟨t, ht⟩ : ∃ y, z4 % 4294967296 = y := ⟨_, rfl⟩;have a1 : (xh : Int) + (s1 : Int) = (z1 : Int) := by omega
    have a2 : (z1 : Int) + (ch : Int) = (z2 : Int) := by omega
    have a3 : (z2 : Int) + (xk : Int) = (z3 : Int) := by omega
    have a4 : (z3 : Int) + (xw : Int) = (z4 : Int) := by omega
    have a5 : (z4 : Int) % 4294967296 = (t : Int) := by omega
    have l1 : z1 < 22000000000 := by omega
    have l2 : z2 < 22000000000 := by omega
    have l3 : z3 < 22000000000 := by omega
    have l4 : z4 < 22000000000 := by omega
    have bt1 : t < 4294967296 := by omega
    have HT1 : Hid (t1 ⟨xa, xb, xc, xd, xe, xf, xg, xh⟩ xk xw = t) := Lib.hid (by rw [t1]; simp only []; rw [Hs1.out, Hch.out, hz1, hz2, hz3, hz4, ht]);clear hz1 hz2 hz3 hz4 ht;have hlti : (k : Int) < 64 := by omega
    refine wp_seq_k fun K7 hK7 => ?_;refine Kn.still (by kernel_rfl) (by kernel_rfl) ?_;refine Kn.spure fh21 rfl rfl .none (Kn.ex_move fh21 (.tmp rfl)) fun fa22 fh22 => ?_;clear fh21 fa21;refine Kn.sstep fh22 rfl rfl .none (Kn.ex_indexAddr fh22 (.tmp rfl) .const) fun Ko hKo => ?_;go_simp;(try go_bits);refine hKo _ fun fa23 fh23 => ?_;clear hKo Ko fh22 fa22;refine Kn.sstep fh23 rfl rfl .none (Kn.ex_load fh23 (.tmp rfl)) fun Ko hKo => ?_;go_simp;(try go_bits);refine hKo _ fun fa24 fh24 => ?_;clear hKo Ko fh23 fa23;refine Kn.spure fh24 rfl rfl .none (Kn.ex_move fh24 (.tmp rfl)) fun fa25 fh25 => ?_;clear fh24 fa24;refine Kn.sstep fh25 rfl rfl .none (Kn.ex_bin fh25 (.tmp rfl) (.tmp rfl)) fun Ko hKo => ?_;go_simp;(try go_bits);refine hKo _ fun fa26 fh26 => ?_;clear hKo Ko fh25 fa25;refine Kn.spure fh26 rfl rfl .none (Kn.ex_move fh26 (.tmp rfl)) fun fa27 fh27 => ?_;clear fh26 fa26;refine Kn.sstep fh27 rfl rfl .none (Kn.ex_bin fh27 (.tmp rfl) (.tmp rfl)) fun Ko hKo => ?_;go_simp;(try go_bits);refine hKo _ fun fa28 fh28 => ?_;clear hKo Ko fh27 fa27;refine Kn.spure fh28 rfl rfl .none (Kn.ex_move fh28 (.tmp rfl)) fun fa29 fh29 => ?_;clear fh28 fa28;refine Kn.spure fh29 rfl rfl .none (Kn.ex_move fh29 (.tmp rfl)) fun fa30 fh30 => ?_;clear fh29 fa29;refine Kn.sstep fh30 rfl rfl .none (Kn.ex_indexAddr fh30 (.tmp rfl) (.tmp rfl)) fun Ko hKo => ?_;go_simp;(try go_bits);refine hKo _ fun fa31 fh31 => ?_;clear hKo Ko fh30 fa30;refine Kn.sstep fh31 rfl rfl .none (Kn.ex_load fh31 (.tmp rfl)) fun Ko hKo => ?_;go_simp;(try go_bits);refine hKo _ fun fa32 fh32 => ?_;clear hKo Ko fh31 fa31;refine Kn.sstep fh32 rfl rfl .none (Kn.ex_bin fh32 (.tmp rfl) (.tmp rfl)) fun Ko hKo => ?_;go_simp;(try go_bits);refine hKo _ fun fa33 fh33 => ?_;clear hKo Ko fh32 fa32;refine Kn.spure fh33 rfl rfl .none (Kn.ex_move fh33 (.tmp rfl)) fun fa34 fh34 => ?_;clear fh33 fa33;refine Kn.spure fh34 rfl rfl .none (Kn.ex_move fh34 (.tmp rfl)) fun fa35 fh35 => ?_;clear fh34 fa34;refine Kn.sstep fh35 rfl rfl .none (Kn.ex_indexAddr fh35 (.tmp rfl) (.tmp rfl)) fun Ko hKo => ?_;go_simp;(try go_bits);refine hKo _ fun fa36 fh36 => ?_;clear hKo Ko fh35 fa35;refine Kn.sstep fh36 rfl rfl .none (Kn.ex_load fh36 (.tmp rfl)) fun Ko hKo => ?_;go_simp;(try go_bits);refine hKo _ fun fa37 fh37 => ?_;clear hKo Ko fh36 fa36;refine Kn.sstep fh37 rfl rfl .none (Kn.ex_bin fh37 (.tmp rfl) (.tmp rfl)) fun Ko hKo => ?_;go_simp;(try go_bits);refine hKo _ fun fa38 fh38 => ?_;clear hKo Ko fh37 fa37;refine Kn.sstep fh38 rfl rfl .none (Kn.ex_bin fh38 (.tmp rfl) .const) fun Ko hKo => ?_;go_simp;(try go_bits);try rw [a5]
    refine hKo _ fun fa39 fh39 => ?_;clear hKo Ko fh38 fa38;refine Kn.spure fh39 rfl rfl .none (Kn.ex_assign fh39 (.tmp rfl)) fun fa40 fh40 => ?_;clear fh39 fa39;refine wpStill_nil ?_;refine hK7 _ _ ?_;clear hK7 K7;replace fh40 := fh40.cut (.cons (t := 25) rfl (.cons (t := 22) rfl (.cons (t := 21) rfl (.cons (t := 14) rfl (.cons (t := 13) rfl (.cons (t := 12) rfl (.cons (t := 7) rfl (.cons (t := 1) rfl .nil))))))));clear a1 a2 a3 a4 a5 l1 l2 l3 l4 Hs1 Hch bds1 bch c_w c_k hlti;obtain ⟨ya, hya, bya⟩ := rotN xa 2 (by omega) ba;obtain ⟨yb, hyb, byb⟩ := rotN xa 13 (by omega) ba;obtain ⟨yc, hyc, byc⟩ := rotN xa 22 (by omega) ba;obtain ⟨yd, hyd, byd, jd⟩ := xorN ya yb bya byb;obtain ⟨s0, hye, bds0, je⟩ := xorN yd yc byd byc;have Hs0 : Hid (bs0 xa = s0) := Lib.hid (by rw [bs0, hya, hyb, hyc, hyd, hye]);have Hya := Lib.hid hya;have Hyb := Lib.hid hyb;have Hyc := Lib.hid hyc;clear hya hyb hyc hyd hye;refine Kn.gen (fun u => ∃ q, u = v.drewN q) ⟨q3 + 1 + 1, rfl⟩ fun u ⟨q5, hu5⟩ => ?_;subst hu5;refine wp_seq_k fun K8 hK8 => ?_;refine Kn.any (fun u => ∃ q, u = World.drewN v q) (fun u u' => ∃ q, u' = World.drewN u q) (Kn.TL [Kn.Is (Value.slice (some ⟨gv, 0, none⟩) 8 cv), Kn.Is (Value.pointer (some ⟨gv, 0, none⟩)), Kn.Is (Value.int .i64 (xa : Int)), Kn.Is (Value.int .i64 (ya : Int)), Kn.Is (Value.slice (some ⟨gv, 0, none⟩) 8 cv), Kn.Is (Value.pointer (some ⟨gv, 0, none⟩)), Kn.Is (Value.int .i64 (xa : Int)), Kn.Is (Value.int .i64 (yb : Int)), Kn.Is (Value.int .i64 (yd : Int)), Kn.Is (Value.slice (some ⟨gv, 0, none⟩) 8 cv), Kn.Is (Value.pointer (some ⟨gv, 0, none⟩)), Kn.Is (Value.int .i64 (xa : Int)), Kn.Is (Value.int .i64 (yc : Int)), Kn.Is (Value.int .i64 (s0 : Int)), Kn.Is (Value.int .i64 (s0 : Int))]) (by kernel_rfl) fh40 (by kernel_rfl) (by kernel_rfl) rfl (Kn.Keeps.all (.cons Kn.Is.keep (.cons Kn.Is.keep (.cons Kn.Is.keep (.cons Kn.Is.keep (.cons Kn.Is.keep (.cons Kn.Is.keep (.cons Kn.Is.keep (.cons Kn.Is.keep (.cons Kn.Is.keep (.cons Kn.Is.keep (.cons Kn.Is.keep (.cons Kn.Is.keep (.cons Kn.Is.keep (.cons Kn.Is.keep (.cons Kn.Is.keep .nil)))))))))))))))) ⟨q5 + 1, rfl⟩ ⟨?_, ?_, ?_, ?_, ?_, ?_, ?_, ?_, ?_, ?_, ?_, ?_, ?_, ?_, ?_, trivial⟩ ?_
    · refine Kn.ok fun fa41 u L fh41 hS hH => ?_;obtain ⟨q, rfl⟩ := hS;exact Kn.apure fh41 .none (Kn.ex_move fh41 (.tmp rfl)) rfl ⟨q, rfl⟩ ⟨0, rfl⟩
    · refine Kn.ok fun fa41 u L fh41 hS hH => ?_;replace fh41 := fh41.more (show fa41.eval (.tmp 232) = Value.slice (some ⟨gv, 0, none⟩) 8 cv from hH 0 232 rfl rfl);obtain ⟨q, rfl⟩ := hS;refine Kn.aop fh41 .none (Kn.ex_indexAddr fh41 (.tmp rfl) .const) fun Ko hKo => ?_;go_simp;(try go_bits);exact hKo _ _ rfl ⟨q, rfl⟩ ⟨0, rfl⟩
    · refine Kn.ok fun fa41 u L fh41 hS hH => ?_;replace fh41 := fh41.more (show fa41.eval (.tmp 233) = Value.pointer (some ⟨gv, 0, none⟩) from hH 1 233 rfl rfl);obtain ⟨q, rfl⟩ := hS;refine Kn.aop fh41 .none (Kn.ex_load fh41 (.tmp rfl)) fun Ko hKo => ?_;go_simp;(try go_bits);exact hKo _ _ rfl ⟨q, rfl⟩ ⟨0, rfl⟩
    · refine Kn.ok fun fa41 u L fh41 hS hH => ?_;replace fh41 := fh41.more (show fa41.eval (.tmp 234) = Value.int .i64 (xa : Int) from hH 2 234 rfl rfl);obtain ⟨q, rfl⟩ := hS;refine Kn.acall fh41 .none (Kn.ex_call fh41 (.cons (.tmp rfl) (.cons .const .nil))) Tryd.call54 (turn_l xa 2 2 ya _ ba rfl (by omega) Hya.out) fun e u2 hp => ?_;obtain ⟨rfl, q2, rfl⟩ := hp;exact ⟨_, rfl, rfl, ⟨_, World.drewN_drewN _ _ _⟩, ⟨_, rfl⟩⟩
    · refine Kn.ok fun fa41 u L fh41 hS hH => ?_;obtain ⟨q, rfl⟩ := hS;exact Kn.apure fh41 .none (Kn.ex_move fh41 (.tmp rfl)) rfl ⟨q, rfl⟩ ⟨0, rfl⟩
    · refine Kn.ok fun fa41 u L fh41 hS hH => ?_;replace fh41 := fh41.more (show fa41.eval (.tmp 236) = Value.slice (some ⟨gv, 0, none⟩) 8 cv from hH 4 236 rfl rfl);obtain ⟨q, rfl⟩ := hS;refine Kn.aop fh41 .none (Kn.ex_indexAddr fh41 (.tmp rfl) .const) fun Ko hKo => ?_;go_simp;(try go_bits);exact hKo _ _ rfl ⟨q, rfl⟩ ⟨0, rfl⟩
    · refine Kn.ok fun fa41 u L fh41 hS hH => ?_;replace fh41 := fh41.more (show fa41.eval (.tmp 237) = Value.pointer (some ⟨gv, 0, none⟩) from hH 5 237 rfl rfl);obtain ⟨q, rfl⟩ := hS;refine Kn.aop fh41 .none (Kn.ex_load fh41 (.tmp rfl)) fun Ko hKo => ?_;go_simp;(try go_bits);exact hKo _ _ rfl ⟨q, rfl⟩ ⟨0, rfl⟩
    · refine Kn.ok fun fa41 u L fh41 hS hH => ?_;replace fh41 := fh41.more (show fa41.eval (.tmp 238) = Value.int .i64 (xa : Int) from hH 6 238 rfl rfl);obtain ⟨q, rfl⟩ := hS;refine Kn.acall fh41 .none (Kn.ex_call fh41 (.cons (.tmp rfl) (.cons .const .nil))) Tryd.call54 (turn_l xa 13 13 yb _ ba rfl (by omega) Hyb.out) fun e u2 hp => ?_;obtain ⟨rfl, q2, rfl⟩ := hp;exact ⟨_, rfl, rfl, ⟨_, World.drewN_drewN _ _ _⟩, ⟨_, rfl⟩⟩
    · refine Kn.ok fun fa41 u L fh41 hS hH => ?_;replace fh41 := fh41.more (show fa41.eval (.tmp 235) = Value.int .i64 (ya : Int) from hH 3 235 rfl rfl);replace fh41 := fh41.more (show fa41.eval (.tmp 239) = Value.int .i64 (yb : Int) from hH 7 239 rfl rfl);obtain ⟨q, rfl⟩ := hS;refine Kn.aop fh41 .none (Kn.ex_bin fh41 (.tmp rfl) (.tmp rfl)) fun Ko hKo => ?_;go_simp;(try go_bits);exact hKo _ _ rfl ⟨q, rfl⟩ ⟨0, rfl⟩
    · refine Kn.ok fun fa41 u L fh41 hS hH => ?_;obtain ⟨q, rfl⟩ := hS;exact Kn.apure fh41 .none (Kn.ex_move fh41 (.tmp rfl)) rfl ⟨q, rfl⟩ ⟨0, rfl⟩
    · refine Kn.ok fun fa41 u L fh41 hS hH => ?_;replace fh41 := fh41.more (show fa41.eval (.tmp 241) = Value.slice (some ⟨gv, 0, none⟩) 8 cv from hH 9 241 rfl rfl);obtain ⟨q, rfl⟩ := hS;refine Kn.aop fh41 .none (Kn.ex_indexAddr fh41 (.tmp rfl) .const) fun Ko hKo => ?_;go_simp;(try go_bits);exact hKo _ _ rfl ⟨q, rfl⟩ ⟨0, rfl⟩
    · refine Kn.ok fun fa41 u L fh41 hS hH => ?_;replace fh41 := fh41.more (show fa41.eval (.tmp 242) = Value.pointer (some ⟨gv, 0, none⟩) from hH 10 242 rfl rfl);obtain ⟨q, rfl⟩ := hS;refine Kn.aop fh41 .none (Kn.ex_load fh41 (.tmp rfl)) fun Ko hKo => ?_;go_simp;(try go_bits);exact hKo _ _ rfl ⟨q, rfl⟩ ⟨0, rfl⟩
    · refine Kn.ok fun fa41 u L fh41 hS hH => ?_;replace fh41 := fh41.more (show fa41.eval (.tmp 243) = Value.int .i64 (xa : Int) from hH 11 243 rfl rfl);obtain ⟨q, rfl⟩ := hS;refine Kn.acall fh41 .none (Kn.ex_call fh41 (.cons (.tmp rfl) (.cons .const .nil))) Tryd.call54 (turn_l xa 22 22 yc _ ba rfl (by omega) Hyc.out) fun e u2 hp => ?_;obtain ⟨rfl, q2, rfl⟩ := hp;exact ⟨_, rfl, rfl, ⟨_, World.drewN_drewN _ _ _⟩, ⟨_, rfl⟩⟩
    · refine Kn.ok fun fa41 u L fh41 hS hH => ?_;replace fh41 := fh41.more (show fa41.eval (.tmp 240) = Value.int .i64 (yd : Int) from hH 8 240 rfl rfl);replace fh41 := fh41.more (show fa41.eval (.tmp 244) = Value.int .i64 (yc : Int) from hH 12 244 rfl rfl);obtain ⟨q, rfl⟩ := hS;refine Kn.aop fh41 .none (Kn.ex_bin fh41 (.tmp rfl) (.tmp rfl)) fun Ko hKo => ?_;go_simp;(try go_bits);exact hKo _ _ rfl ⟨q, rfl⟩ ⟨0, rfl⟩
    · refine Kn.ok fun fa41 u L fh41 hS hH => ?_;replace fh41 := fh41.more (show fa41.eval (.tmp 245) = Value.int .i64 (s0 : Int) from hH 13 245 rfl rfl);obtain ⟨q, rfl⟩ := hS;exact Kn.apure fh41 .none (Kn.ex_assign fh41 (.tmp rfl)) rfl ⟨q, rfl⟩ ⟨0, rfl⟩
    intro fa41 v5 fh41 hS hT;clear fh40 fa40;replace fh41 := fh41.more (show fa41.eval (.tmp 26) = Value.int .i64 (s0 : Int) from hT 14 26 rfl);clear hT;refine hK8 _ _ ?_;clear hK8 K8;obtain ⟨q6, rfl⟩ := hS;clear jd je Hya Hyb Hyc bya byb byc byd;obtain ⟨ya, hya, bya, jya⟩ := andN xa xb ba bb;obtain ⟨yb, hyb, byb, jyb⟩ := andN xa xc ba bc;obtain ⟨yc, hyc, byc, jyc⟩ := andN xb xc bb bc;obtain ⟨yd, hyd, byd, jyd⟩ := xorN ya yb bya byb;obtain ⟨ma, hma, bma, jma⟩ := xorN yd yc byd byc;have Hma : Hid (maj xa xb xc = ma) := Lib.hid (by rw [maj, hya, hyb, hyc, hyd, hma]);clear hya hyb hyc hyd hma;refine wp_seq_k fun K9 hK9 => ?_;refine Kn.still (by kernel_rfl) (by kernel_rfl) ?_;refine Kn.spure fh41 rfl rfl .none (Kn.ex_move fh41 (.tmp rfl)) fun fa42 fh42 => ?_;clear fh41 fa41;refine Kn.sstep fh42 rfl rfl .none (Kn.ex_indexAddr fh42 (.tmp rfl) .const) fun Ko hKo => ?_;go_simp;(try go_bits);refine hKo _ fun fa43 fh43 => ?_;clear hKo Ko fh42 fa42;refine Kn.sstep fh43 rfl rfl .none (Kn.ex_load fh43 (.tmp rfl)) fun Ko hKo => ?_;go_simp;(try go_bits);refine hKo _ fun fa44 fh44 => ?_;clear hKo Ko fh43 fa43;refine Kn.spure fh44 rfl rfl .none (Kn.ex_move fh44 (.tmp rfl)) fun fa45 fh45 => ?_;clear fh44 fa44;refine Kn.sstep fh45 rfl rfl .none (Kn.ex_indexAddr fh45 (.tmp rfl) .const) fun Ko hKo => ?_;go_simp;(try go_bits);refine hKo _ fun fa46 fh46 => ?_;clear hKo Ko fh45 fa45;refine Kn.sstep fh46 rfl rfl .none (Kn.ex_load fh46 (.tmp rfl)) fun Ko hKo => ?_;go_simp;(try go_bits);refine hKo _ fun fa47 fh47 => ?_;clear hKo Ko fh46 fa46;refine Kn.sstep fh47 rfl rfl .none (Kn.ex_bin fh47 (.tmp rfl) (.tmp rfl)) fun Ko hKo => ?_;go_simp;(try go_bits);refine hKo _ fun fa48 fh48 => ?_;clear hKo Ko fh47 fa47;refine Kn.spure fh48 rfl rfl .none (Kn.ex_move fh48 (.tmp rfl)) fun fa49 fh49 => ?_;clear fh48 fa48;refine Kn.sstep fh49 rfl rfl .none (Kn.ex_indexAddr fh49 (.tmp rfl) .const) fun Ko hKo => ?_;go_simp;(try go_bits);refine hKo _ fun fa50 fh50 => ?_;clear hKo Ko fh49 fa49;refine Kn.sstep fh50 rfl rfl .none (Kn.ex_load fh50 (.tmp rfl)) fun Ko hKo => ?_;go_simp;(try go_bits);refine hKo _ fun fa51 fh51 => ?_;clear hKo Ko fh50 fa50;refine Kn.spure fh51 rfl rfl .none (Kn.ex_move fh51 (.tmp rfl)) fun fa52 fh52 => ?_;clear fh51 fa51;refine Kn.sstep fh52 rfl rfl .none (Kn.ex_indexAddr fh52 (.tmp rfl) .const) fun Ko hKo => ?_;go_simp;(try go_bits);refine hKo _ fun fa53 fh53 => ?_;clear hKo Ko fh52 fa52;refine Kn.sstep fh53 rfl rfl .none (Kn.ex_load fh53 (.tmp rfl)) fun Ko hKo => ?_;go_simp;(try go_bits);refine hKo _ fun fa54 fh54 => ?_;clear hKo Ko fh53 fa53;refine Kn.sstep fh54 rfl rfl .none (Kn.ex_bin fh54 (.tmp rfl) (.tmp rfl)) fun Ko hKo => ?_;go_simp;(try go_bits);refine hKo _ fun fa55 fh55 => ?_;clear hKo Ko fh54 fa54;refine Kn.sstep fh55 rfl rfl .none (Kn.ex_bin fh55 (.tmp rfl) (.tmp rfl)) fun Ko hKo => ?_;go_simp;(try go_bits);refine hKo _ fun fa56 fh56 => ?_;clear hKo Ko fh55 fa55;refine Kn.spure fh56 rfl rfl .none (Kn.ex_move fh56 (.tmp rfl)) fun fa57 fh57 => ?_;clear fh56 fa56;refine Kn.sstep fh57 rfl rfl .none (Kn.ex_indexAddr fh57 (.tmp rfl) .const) fun Ko hKo => ?_;go_simp;(try go_bits);refine hKo _ fun fa58 fh58 => ?_;clear hKo Ko fh57 fa57;refine Kn.sstep fh58 rfl rfl .none (Kn.ex_load fh58 (.tmp rfl)) fun Ko hKo => ?_;go_simp;(try go_bits);refine hKo _ fun fa59 fh59 => ?_;clear hKo Ko fh58 fa58;refine Kn.spure fh59 rfl rfl .none (Kn.ex_move fh59 (.tmp rfl)) fun fa60 fh60 => ?_;clear fh59 fa59;refine Kn.sstep fh60 rfl rfl .none (Kn.ex_indexAddr fh60 (.tmp rfl) .const) fun Ko hKo => ?_;go_simp;(try go_bits);refine hKo _ fun fa61 fh61 => ?_;clear hKo Ko fh60 fa60;refine Kn.sstep fh61 rfl rfl .none (Kn.ex_load fh61 (.tmp rfl)) fun Ko hKo => ?_;go_simp;(try go_bits);refine hKo _ fun fa62 fh62 => ?_;clear hKo Ko fh61 fa61;refine Kn.sstep fh62 rfl rfl .none (Kn.ex_bin fh62 (.tmp rfl) (.tmp rfl)) fun Ko hKo => ?_;go_simp;(try go_bits);refine hKo _ fun fa63 fh63 => ?_;clear hKo Ko fh62 fa62;refine Kn.sstep fh63 rfl rfl .none (Kn.ex_bin fh63 (.tmp rfl) (.tmp rfl)) fun Ko hKo => ?_;go_simp;(try go_bits);refine hKo _ fun fa64 fh64 => ?_;clear hKo Ko fh63 fa63;refine Kn.spure fh64 rfl rfl .none (Kn.ex_assign fh64 (.tmp rfl)) fun fa65 fh65 => ?_;clear fh64 fa64;refine wpStill_nil ?_;refine hK9 _ _ ?_;clear hK9 K9;replace fh65 := fh65.cut (.cons (t := 27) rfl (.cons (t := 26) rfl (.cons (t := 25) rfl (.cons (t := 22) rfl (.cons (t := 21) rfl (.cons (t := 14) rfl (.cons (t := 13) rfl (.cons (t := 12) rfl (.cons (t := 7) rfl (.cons (t := 1) rfl .nil))))))))));clear jya jyb jyc jyd jma bya byb byc byd;obtain ⟨z1, hz1⟩ : ∃ z, s0 + ma = z := ⟨_, rfl⟩;obtain ⟨p, hp⟩ : ∃ y, z1 % 4294967296 = y := ⟨_, rfl⟩;have a1 : (s0 : Int) + (ma : Int) = (z1 : Int) := by omega
    have a2 : (z1 : Int) % 4294967296 = (p : Int) := by omega
    have l1 : z1 < 22000000000 := by omega
    have bp : p < 4294967296 := by omega
    have HT2 : Hid (t2 ⟨xa, xb, xc, xd, xe, xf, xg, xh⟩ = p) := Lib.hid (by rw [t2]; simp only []; rw [Hs0.out, Hma.out, hz1, hp]);clear hz1 hp;refine wp_seq_k fun K10 hK10 => ?_;refine wp_region_lit ?_;refine Kn.pure fh65 rfl rfl .none (Kn.ex_move fh65 (.tmp rfl)) fun fa66 fh66 => ?_;clear fh65 fa65;refine Kn.pure fh66 rfl rfl .none (Kn.ex_move fh66 (.tmp rfl)) fun fa67 fh67 => ?_;clear fh66 fa66;refine Kn.step fh67 rfl rfl .none (Kn.ex_bin fh67 (.tmp rfl) (.tmp rfl)) fun Ko hKo => ?_;go_simp;(try go_bits);refine hKo _ _ fun fa68 fh68 => ?_;clear hKo Ko fh67 fa67;refine Kn.step fh68 rfl rfl .none (Kn.ex_bin fh68 (.tmp rfl) .const) fun Ko hKo => ?_;go_simp;(try go_bits);try rw [a2]
    refine hKo _ _ fun fa69 fh69 => ?_;clear hKo Ko fh68 fa68;refine Kn.pure fh69 rfl rfl .none (Kn.ex_assign fh69 (.tmp rfl)) fun fa70 fh70 => ?_;clear fh69 fa69;refine wpList_nil ?_;refine hK10 _ _ ?_;clear hK10 K10;replace fh70 := fh70.cut (.cons (t := 28) rfl (.cons (t := 25) rfl (.cons (t := 22) rfl (.cons (t := 21) rfl (.cons (t := 14) rfl (.cons (t := 13) rfl (.cons (t := 12) rfl (.cons (t := 7) rfl (.cons (t := 1) rfl .nil)))))))));clear a1 a2 l1 Hs0 Hma bds0 bma;obtain ⟨z1, hz1⟩ : ∃ z, t + p = z := ⟨_, rfl⟩;obtain ⟨na, hna⟩ : ∃ y, z1 % 4294967296 = y := ⟨_, rfl⟩;obtain ⟨z2, hz2⟩ : ∃ z, xd + t = z := ⟨_, rfl⟩;obtain ⟨ne, hne⟩ : ∃ y, z2 % 4294967296 = y := ⟨_, rfl⟩;have a1 : (t : Int) + (p : Int) = (z1 : Int) := by omega
    have a2 : (z1 : Int) % 4294967296 = (na : Int) := by omega
    have a3 : (xd : Int) + (t : Int) = (z2 : Int) := by omega
    have a4 : (z2 : Int) % 4294967296 = (ne : Int) := by omega
    have l1 : z1 < 22000000000 := by omega
    have l2 : z2 < 22000000000 := by omega
    have HN : Hid (rnds c0 W (k + 1) = ⟨na, xa, xb, xc, ne, xe, xf, xg⟩) := Lib.hid (by rw [HST.out, step, HT1.out, HT2.out]; simp only []; rw [hz1, hna, hz2, hne]);clear hz1 hna hz2 hne HT1 HT2 HST;refine Kn.gen (fun u => ∃ q, u = v.drewN q) ⟨q6 + 1, rfl⟩ fun u ⟨q7, hu7⟩ => ?_;subst hu7;refine Kn.tail 28 (by kernel_rfl) (by kernel_rfl) rfl rfl ?_;refine Kn.spure fh70 rfl rfl .none (Kn.ex_move fh70 (.tmp rfl)) fun fa71 fh71 => ?_;clear fh70 fa70;refine Kn.spure fh71 rfl rfl .none (Kn.ex_move fh71 (.tmp rfl)) fun fa72 fh72 => ?_;clear fh71 fa71;refine Kn.sstep fh72 rfl rfl .none (Kn.ex_bin fh72 (.tmp rfl) (.tmp rfl)) fun Ko hKo => ?_;go_simp;(try go_bits);refine hKo _ fun fa73 fh73 => ?_;clear hKo Ko fh72 fa72;refine Kn.sstep fh73 rfl rfl .none (Kn.ex_bin fh73 (.tmp rfl) .const) fun Ko hKo => ?_;go_simp;(try go_bits);try rw [a2]
    refine hKo _ fun fa74 fh74 => ?_;clear hKo Ko fh73 fa73;refine Kn.spure fh74 rfl rfl .none (Kn.ex_move fh74 (.tmp rfl)) fun fa75 fh75 => ?_;clear fh74 fa74;refine Kn.sstep fh75 rfl rfl .none (Kn.ex_indexAddr fh75 (.tmp rfl) .const) fun Ko hKo => ?_;go_simp;(try go_bits);refine hKo _ fun fa76 fh76 => ?_;clear hKo Ko fh75 fa75;refine Kn.sstep fh76 rfl rfl .none (Kn.ex_load fh76 (.tmp rfl)) fun Ko hKo => ?_;go_simp;(try go_bits);refine hKo _ fun fa77 fh77 => ?_;clear hKo Ko fh76 fa76;refine Kn.spure fh77 rfl rfl .none (Kn.ex_move fh77 (.tmp rfl)) fun fa78 fh78 => ?_;clear fh77 fa77;refine Kn.sstep fh78 rfl rfl .none (Kn.ex_indexAddr fh78 (.tmp rfl) .const) fun Ko hKo => ?_;go_simp;(try go_bits);refine hKo _ fun fa79 fh79 => ?_;clear hKo Ko fh78 fa78;refine Kn.sstep fh79 rfl rfl .none (Kn.ex_load fh79 (.tmp rfl)) fun Ko hKo => ?_;go_simp;(try go_bits);refine hKo _ fun fa80 fh80 => ?_;clear hKo Ko fh79 fa79;refine Kn.spure fh80 rfl rfl .none (Kn.ex_move fh80 (.tmp rfl)) fun fa81 fh81 => ?_;clear fh80 fa80;refine Kn.sstep fh81 rfl rfl .none (Kn.ex_indexAddr fh81 (.tmp rfl) .const) fun Ko hKo => ?_;go_simp;(try go_bits);refine hKo _ fun fa82 fh82 => ?_;clear hKo Ko fh81 fa81;refine Kn.sstep fh82 rfl rfl .none (Kn.ex_load fh82 (.tmp rfl)) fun Ko hKo => ?_;go_simp;(try go_bits);refine hKo _ fun fa83 fh83 => ?_;clear hKo Ko fh82 fa82;refine Kn.spure fh83 rfl rfl .none (Kn.ex_move fh83 (.tmp rfl)) fun fa84 fh84 => ?_;clear fh83 fa83;refine Kn.sstep fh84 rfl rfl .none (Kn.ex_indexAddr fh84 (.tmp rfl) .const) fun Ko hKo => ?_;go_simp;(try go_bits);refine hKo _ fun fa85 fh85 => ?_;clear hKo Ko fh84 fa84;refine Kn.sstep fh85 rfl rfl .none (Kn.ex_load fh85 (.tmp rfl)) fun Ko hKo => ?_;go_simp;(try go_bits);refine hKo _ fun fa86 fh86 => ?_;clear hKo Ko fh85 fa85;refine Kn.spure fh86 rfl rfl .none (Kn.ex_move fh86 (.tmp rfl)) fun fa87 fh87 => ?_;clear fh86 fa86;refine Kn.sstep fh87 rfl rfl .none (Kn.ex_bin fh87 (.tmp rfl) (.tmp rfl)) fun Ko hKo => ?_;go_simp;(try go_bits);refine hKo _ fun fa88 fh88 => ?_;clear hKo Ko fh87 fa87;refine Kn.sstep fh88 rfl rfl .none (Kn.ex_bin fh88 (.tmp rfl) .const) fun Ko hKo => ?_;go_simp;(try go_bits);try rw [a4]
    refine hKo _ fun fa89 fh89 => ?_;clear hKo Ko fh88 fa88;refine Kn.spure fh89 rfl rfl .none (Kn.ex_move fh89 (.tmp rfl)) fun fa90 fh90 => ?_;clear fh89 fa89;refine Kn.sstep fh90 rfl rfl .none (Kn.ex_indexAddr fh90 (.tmp rfl) .const) fun Ko hKo => ?_;go_simp;(try go_bits);refine hKo _ fun fa91 fh91 => ?_;clear hKo Ko fh90 fa90;refine Kn.sstep fh91 rfl rfl .none (Kn.ex_load fh91 (.tmp rfl)) fun Ko hKo => ?_;go_simp;(try go_bits);refine hKo _ fun fa92 fh92 => ?_;clear hKo Ko fh91 fa91;refine Kn.spure fh92 rfl rfl .none (Kn.ex_move fh92 (.tmp rfl)) fun fa93 fh93 => ?_;clear fh92 fa92;refine Kn.sstep fh93 rfl rfl .none (Kn.ex_indexAddr fh93 (.tmp rfl) .const) fun Ko hKo => ?_;go_simp;(try go_bits);refine hKo _ fun fa94 fh94 => ?_;clear hKo Ko fh93 fa93;refine Kn.sstep fh94 rfl rfl .none (Kn.ex_load fh94 (.tmp rfl)) fun Ko hKo => ?_;go_simp;(try go_bits);refine hKo _ fun fa95 fh95 => ?_;clear hKo Ko fh94 fa94;refine Kn.spure fh95 rfl rfl .none (Kn.ex_move fh95 (.tmp rfl)) fun fa96 fh96 => ?_;clear fh95 fa95;refine Kn.sstep fh96 rfl rfl .none (Kn.ex_indexAddr fh96 (.tmp rfl) .const) fun Ko hKo => ?_;go_simp;(try go_bits);refine hKo _ fun fa97 fh97 => ?_;clear hKo Ko fh96 fa96;refine Kn.sstep fh97 rfl rfl .none (Kn.ex_load fh97 (.tmp rfl)) fun Ko hKo => ?_;go_simp;(try go_bits);refine hKo _ fun fa98 fh98 => ?_;clear hKo Ko fh97 fa97;refine wpStill_nil ?_;refine Kn.step fh98 rfl rfl .none (Kn.ex_buildSlice fh98 (.cons (.tmp rfl) (.cons (.tmp rfl) (.cons (.tmp rfl) (.cons (.tmp rfl) (.cons (.tmp rfl) (.cons (.tmp rfl) (.cons (.tmp rfl) (.cons (.tmp rfl) .nil))))))))) fun Ko hKo => ?_;go_simp;(try go_bits);refine hKo _ _ fun fa99 fh99 => ?_;clear hKo Ko fh98 fa98;refine Kn.pure fh99 rfl rfl .none (Kn.ex_assign fh99 (.tmp rfl)) fun fa100 fh100 => ?_;clear fh99 fa99;refine wpList_nil ?_;refine Kn.block_normal ?_;refine hK4 _ _ ?_;clear hK4 K4;replace fh100 := fh100.cut (.cons (t := 21) rfl (.cons (t := 22) rfl (.cons (t := 14) rfl (.cons (t := 13) rfl (.cons (t := 12) rfl (.cons (t := 7) rfl (.cons (t := 1) rfl .nil)))))));clear a1 a2 a3 a4 l1 l2 c_a c_b c_c c_d c_e c_f c_g c_h;refine wp_region_lit ?_;refine Kn.pure fh100 rfl rfl .none (Kn.ex_move fh100 (.tmp rfl)) fun fa101 fh101 => ?_;clear fh100 fa100;refine Kn.step fh101 rfl rfl .none (Kn.ex_bin fh101 (.tmp rfl) .const) fun Ko hKo => ?_;go_simp;(try go_bits);refine hKo _ _ fun fa102 fh102 => ?_;clear hKo Ko fh101 fa101;refine Kn.pure fh102 rfl rfl .none (Kn.ex_assign fh102 (.tmp rfl)) fun fa103 fh103 => ?_;clear fh102 fa102;refine wpList_nil ?_;replace fh103 := fh103.cut (.cons (t := 22) rfl (.cons (t := 21) rfl (.cons (t := 14) rfl (.cons (t := 13) rfl (.cons (t := 12) rfl (.cons (t := 7) rfl (.cons (t := 1) rfl .nil)))))));exact hKl1 (m1 - 1) _ _ (by omega) ⟨k + 1, _, _, fh103.cut (.turn (t := 22) rfl (by go_num) (.cons (t := 21) rfl (.cons (t := 14) rfl (.cons (t := 13) rfl (.cons (t := 12) rfl (.cons (t := 7) rfl (.cons (t := 1) rfl .nil))))))), by omega, Lib.hid ((HS.out.drewN _).alloc _), Lib.hid (by rw [HN.out]; refine rn_new8 _ _ _ _ _ _ _ _ _ _ ?_; rfl), (by have := HS.out.oh.lt'; show _ ≠ gh; simp; omega)⟩
  · obtain rfl : k = 64 := by omega
    refine wp_seq_k fun K2 hK2 => ?_;refine wp_seq_k fun K3 hK3 => ?_;refine wp_region_lit ?_;refine Kn.pure fh1 rfl rfl .none (Kn.ex_move fh1 (.tmp rfl)) fun fa2 fh2 => ?_;clear fh1 fa1;have qd : decide (((64 : Nat) : Int) < 64) = false := decide_eq_false (by omega);refine Kn.step fh2 rfl rfl .none (Kn.ex_bin fh2 (.tmp rfl) .const) fun Ko hKo => ?_;go_simp;(try go_bits);refine hKo _ _ fun fa3 fh3 => ?_;clear hKo Ko fh2 fa2;clear qd;refine wpList_nil ?_;refine hK3 _ _ ?_;clear hK3 K3;replace fh3 := fh3.cut (.cons (t := 181) rfl (.cons (t := 22) rfl (.cons (t := 21) rfl (.cons (t := 14) rfl (.cons (t := 13) rfl (.cons (t := 12) rfl (.cons (t := 7) rfl (.cons (t := 1) rfl .nil))))))));refine Kn.no fh3 (.tmp rfl) ?_;replace fh3 := fh3.cut (.cons (t := 22) rfl (.cons (t := 21) rfl (.cons (t := 14) rfl (.cons (t := 13) rfl (.cons (t := 12) rfl (.cons (t := 7) rfl (.cons (t := 1) rfl .nil)))))));refine wp_exit ?_;refine Kn.then_exit ?_;clear hK2 K2;refine Kn.then_exit ?_;clear hKl1 Kl1;refine Kn.block_exit ?_;replace fh3 := fh3.cut (.cons (t := 21) rfl (.cons (t := 14) rfl (.cons (t := 13) rfl (.cons (t := 12) rfl (.cons (t := 7) rfl (.cons (t := 1) rfl .nil))))));exact hQ _ _ gv cv fh3 HS.out HV.out hgv
end Go.Proofs.YtcamanopfhbchaaDoor.Sha
end
section
namespace Go.Proofs.YtcamanopfhbchaaDoor.Sha
open Go.RowKit Go.Lib
theorem own_set {w : World} {B g cap : Nat} {l : List Nat} (h : OwnI w B g cap l) (k n : Nat) : OwnI (w.setCell ⟨g, k, none⟩ (.int .i64 (n : Int))) B g cap (l.set k n) := by
  have := (World.ownsRow.stored h k (.int .i64 (n : Int))).1;unfold OwnI;rw [List.length_set, List.map_set];exact this
theorem own_other {w : World} {B g g' cap k : Nat} {l : List Nat} {u : Value} (h : OwnI w B g cap l) (hne : g ≠ g') : OwnI (w.setCell ⟨g', k, none⟩ u) B g cap l := ownsRow_setCell_other h (by simp [Value.ownBlock]; exact hne) u
theorem rn_other {w : World} {g g' k : Nat} {l : List Nat} {u : Value} (h : RN w g l) (hne : g ≠ g') : RN (w.setCell ⟨g', k, none⟩ u) g l := ⟨by simpa [World.setCell] using h.1, fun j hj => by
  rw [World.cell?_setCell_far _ _ _ _ (Ne.symm hne)]; exact h.2 j hj⟩
set_option maxRecDepth 100000 in
set_option maxHeartbeats 4000000 in
theorem lp8 (w0 v : World) (fa0 : Act) (v1 : Value) (A n2 g2 cap2 gh caph gv cv : Nat) (Hm PL : List Nat) (s : V8) (Q : Exit → Act → World → Prop)
    (fh0 : Kn.Kn 354 [(29, .int .i64 0), (21, .slice (some ⟨gv, 0, none⟩) 8 cv), (13, .int .i64 (A : Int)), (12, .slice (some ⟨gh, 0, none⟩) 8 caph), (7, .slice (some ⟨g2, 0, none⟩) n2 cap2), (1, v1)] fa0)
    (HHl : Hid (Hm.length = 8)) (HHb : Hid (∀ i, wd Hm i < 4294967296)) (HSb : Hid (∀ i, wd s.list i < 4294967296)) (hgv : gv ≠ gh) (hne : gh ≠ g2)
    (ho : OwnI v w0.heap.size gh caph Hm) (hb2 : OwnI v w0.heap.size g2 cap2 PL) (hold : Below w0.heap.size w0 v) (hV : RN v gv s.list)
    (hQ : ∀ a v, Kn.Kn 354 [(13, .int .i64 (A : Int)), (12, .slice (some ⟨gh, 0, none⟩) 8 caph), (7, .slice (some ⟨g2, 0, none⟩) n2 cap2), (1, v1)] a → OwnI v w0.heap.size gh caph (mix Hm s 8) → OwnI v w0.heap.size g2 cap2 PL → Below w0.heap.size w0 v → Q .normal a v) :
    (Code.block 14 (.loop (bodyS 7))).wp Tryd.prog Q fa0 v := by
  refine wp_block ?_;refine Kn.loop (fun m fr v => ∃ (k : Nat), Kn.Kn 354 [(29, .int .i64 (k : Int)), (21, .slice (some ⟨gv, 0, none⟩) 8 cv), (13, .int .i64 (A : Int)), (12, .slice (some ⟨gh, 0, none⟩) 8 caph), (7, .slice (some ⟨g2, 0, none⟩) n2 cap2), (1, v1)] fr ∧ k + m = 8 ∧ Hid (OwnI v w0.heap.size gh caph (mix Hm s k)) ∧ Hid (OwnI v w0.heap.size g2 cap2 PL) ∧ Hid (Below w0.heap.size w0 v) ∧ Hid (RN v gv s.list)) 8 ⟨0, fh0.cut (.cons (t := 29) rfl (.cons (t := 21) rfl (.cons (t := 13) rfl (.cons (t := 12) rfl (.cons (t := 7) rfl (.cons (t := 1) rfl .nil)))))), rfl, Lib.hid ho, Lib.hid hb2, Lib.hid hold, Lib.hid hV⟩ ?_;clear fh0 fa0;intro m1 fa1 v hI Kl1 hKl1
  conv => arg 2; whnf
  obtain ⟨k, fh1, hk, HO, HB, HL, HV⟩ := hI;clear ho hb2 hold hV
  by_cases hlt : k < 8
  · refine wp_seq_k fun K2 hK2 => ?_;refine wp_seq_k fun K3 hK3 => ?_;refine wp_region_lit ?_;refine Kn.pure fh1 rfl rfl .none (Kn.ex_move fh1 (.tmp rfl)) fun fa2 fh2 => ?_;clear fh1 fa1;have qd : decide ((k : Int) < 8) = true := decide_eq_true (by omega);refine Kn.step fh2 rfl rfl .none (Kn.ex_bin fh2 (.tmp rfl) .const) fun Ko hKo => ?_;go_simp;(try go_bits);refine hKo _ _ fun fa3 fh3 => ?_;clear hKo Ko fh2 fa2;clear qd;refine wpList_nil ?_;refine hK3 _ _ ?_;clear hK3 K3;replace fh3 := fh3.cut (.cons (t := 303) rfl (.cons (t := 29) rfl (.cons (t := 21) rfl (.cons (t := 13) rfl (.cons (t := 12) rfl (.cons (t := 7) rfl (.cons (t := 1) rfl .nil)))))));refine Kn.yes fh3 (.tmp rfl) ?_;refine wp_skip ?_;refine hK2 _ _ ?_;clear hK2 K2;replace fh3 := fh3.cut (.cons (t := 29) rfl (.cons (t := 21) rfl (.cons (t := 13) rfl (.cons (t := 12) rfl (.cons (t := 7) rfl (.cons (t := 1) rfl .nil))))));refine wp_seq_k fun K4 hK4 => ?_;refine wp_block ?_;have hlti : (k : Int) < 8 := by omega
    obtain ⟨x, hx⟩ : ∃ x, wd Hm k = x := ⟨_, rfl⟩;obtain ⟨y, hy⟩ : ∃ y, wd s.list k = y := ⟨_, rfl⟩;have bx : x < 4294967296 := by rw [← hx]; exact HHb.out k
    have by' : y < 4294967296 := by rw [← hy]; exact HSb.out k
    have cx : v.cell? ⟨gh, k, none⟩ = some (.int .i64 (x : Int)) := by rw [HO.out.cell (by rw [mix_len, HHl.out]; exact hlt), mix_at _ _ _ _ (Nat.le_refl _), hx]
    have cy : v.cell? ⟨gv, k, none⟩ = some (.int .i64 (y : Int)) := by rw [HV.out.2 k (by exact hlt), hy]
    have fx : v.frozen? ⟨gh, k, none⟩ = false := World.ownsRow.frozenAt HO.out k;obtain ⟨z, hz⟩ : ∃ z, x + y = z := ⟨_, rfl⟩;obtain ⟨n, hn⟩ : ∃ n, z % 4294967296 = n := ⟨_, rfl⟩;have a1 : (x : Int) + (y : Int) = (z : Int) := by omega
    have a2 : (z : Int) % 4294967296 = (n : Int) := by omega
    have l1 : z < 22000000000 := by omega
    have HM : Hid (mix Hm s (k + 1) = (mix Hm s k).set k n) := Lib.hid (by rw [mix, hx, hy, hz, hn]);clear hx hy hz hn;refine Kn.tail 13 (by kernel_rfl) (by kernel_rfl) rfl rfl ?_;refine Kn.spure fh3 rfl rfl .none (Kn.ex_move fh3 (.tmp rfl)) fun fa4 fh4 => ?_;clear fh3 fa3;refine Kn.spure fh4 rfl rfl .none (Kn.ex_move fh4 (.tmp rfl)) fun fa5 fh5 => ?_;clear fh4 fa4;refine Kn.spure fh5 rfl rfl .none (Kn.ex_move fh5 (.tmp rfl)) fun fa6 fh6 => ?_;clear fh5 fa5;refine Kn.spure fh6 rfl rfl .none (Kn.ex_move fh6 (.tmp rfl)) fun fa7 fh7 => ?_;clear fh6 fa6;refine Kn.sstep fh7 rfl rfl .none (Kn.ex_indexAddr fh7 (.tmp rfl) (.tmp rfl)) fun Ko hKo => ?_;go_simp;(try go_bits);refine hKo _ fun fa8 fh8 => ?_;clear hKo Ko fh7 fa7;refine Kn.sstep fh8 rfl rfl .none (Kn.ex_load fh8 (.tmp rfl)) fun Ko hKo => ?_;go_simp;(try go_bits);refine hKo _ fun fa9 fh9 => ?_;clear hKo Ko fh8 fa8;refine Kn.spure fh9 rfl rfl .none (Kn.ex_move fh9 (.tmp rfl)) fun fa10 fh10 => ?_;clear fh9 fa9;refine Kn.spure fh10 rfl rfl .none (Kn.ex_move fh10 (.tmp rfl)) fun fa11 fh11 => ?_;clear fh10 fa10;refine Kn.sstep fh11 rfl rfl .none (Kn.ex_indexAddr fh11 (.tmp rfl) (.tmp rfl)) fun Ko hKo => ?_;go_simp;(try go_bits);refine hKo _ fun fa12 fh12 => ?_;clear hKo Ko fh11 fa11;refine Kn.sstep fh12 rfl rfl .none (Kn.ex_load fh12 (.tmp rfl)) fun Ko hKo => ?_;go_simp;(try go_bits);refine hKo _ fun fa13 fh13 => ?_;clear hKo Ko fh12 fa12;refine Kn.sstep fh13 rfl rfl .none (Kn.ex_bin fh13 (.tmp rfl) (.tmp rfl)) fun Ko hKo => ?_;go_simp;(try go_bits);refine hKo _ fun fa14 fh14 => ?_;clear hKo Ko fh13 fa13;refine Kn.sstep fh14 rfl rfl .none (Kn.ex_bin fh14 (.tmp rfl) .const) fun Ko hKo => ?_;go_simp;(try go_bits);try rw [a2]
    refine hKo _ fun fa15 fh15 => ?_;clear hKo Ko fh14 fa14;refine Kn.sstep fh15 rfl rfl .none (Kn.ex_indexAddr fh15 (.tmp rfl) (.tmp rfl)) fun Ko hKo => ?_;go_simp;(try go_bits);refine hKo _ fun fa16 fh16 => ?_;clear hKo Ko fh15 fa15;refine wpStill_nil ?_;refine Kn.stepU fh16 rfl .none (Kn.ex_store fh16 (.tmp rfl) (.tmp rfl)) fun Ko hKo => ?_;go_simp;(try go_bits);refine hKo _ ?_;clear hKo Ko;refine wpList_nil ?_;refine Kn.block_normal ?_;refine hK4 _ _ ?_;clear hK4 K4;replace fh16 := fh16.cut (.cons (t := 29) rfl (.cons (t := 21) rfl (.cons (t := 13) rfl (.cons (t := 12) rfl (.cons (t := 7) rfl (.cons (t := 1) rfl .nil))))));clear cx cy fx a1 a2 l1;have HO2 := Lib.hid (own_set (w := v.drew) HO.out k n);have HB2 := Lib.hid (own_other (w := v.drew) HB.out (k := k) (u := .int .i64 (n : Int)) (Ne.symm hne));have HV2 := Lib.hid (rn_other (w := v.drew) HV.out (k := k) (u := .int .i64 (n : Int)) hgv);have HL2 := Lib.hid ((below_drew HL.out).setCell (p := ⟨gh, k, none⟩) HO.out.ge (.int .i64 (n : Int)));rw [← HM.out] at HO2;refine wp_region_lit ?_;refine Kn.pure fh16 rfl rfl .none (Kn.ex_move fh16 (.tmp rfl)) fun fa17 fh17 => ?_;clear fh16 fa16;refine Kn.step fh17 rfl rfl .none (Kn.ex_bin fh17 (.tmp rfl) .const) fun Ko hKo => ?_;go_simp;(try go_bits);refine hKo _ _ fun fa18 fh18 => ?_;clear hKo Ko fh17 fa17;refine Kn.pure fh18 rfl rfl .none (Kn.ex_assign fh18 (.tmp rfl)) fun fa19 fh19 => ?_;clear fh18 fa18;refine wpList_nil ?_;replace fh19 := fh19.cut (.cons (t := 29) rfl (.cons (t := 21) rfl (.cons (t := 13) rfl (.cons (t := 12) rfl (.cons (t := 7) rfl (.cons (t := 1) rfl .nil))))));exact hKl1 (m1 - 1) _ _ (by omega) ⟨k + 1, fh19.cut (.turn (t := 29) rfl (by go_num) (.cons (t := 21) rfl (.cons (t := 13) rfl (.cons (t := 12) rfl (.cons (t := 7) rfl (.cons (t := 1) rfl .nil)))))), by omega, HO2, HB2, HL2, HV2⟩
  · obtain rfl : k = 8 := by omega
    refine wp_seq_k fun K2 hK2 => ?_;refine wp_seq_k fun K3 hK3 => ?_;refine wp_region_lit ?_;refine Kn.pure fh1 rfl rfl .none (Kn.ex_move fh1 (.tmp rfl)) fun fa2 fh2 => ?_;clear fh1 fa1;have qd : decide (((8 : Nat) : Int) < 8) = false := decide_eq_false (by omega);refine Kn.step fh2 rfl rfl .none (Kn.ex_bin fh2 (.tmp rfl) .const) fun Ko hKo => ?_;go_simp;(try go_bits);refine hKo _ _ fun fa3 fh3 => ?_;clear hKo Ko fh2 fa2;clear qd;refine wpList_nil ?_;refine hK3 _ _ ?_;clear hK3 K3;replace fh3 := fh3.cut (.cons (t := 303) rfl (.cons (t := 29) rfl (.cons (t := 21) rfl (.cons (t := 13) rfl (.cons (t := 12) rfl (.cons (t := 7) rfl (.cons (t := 1) rfl .nil)))))));refine Kn.no fh3 (.tmp rfl) ?_;replace fh3 := fh3.cut (.cons (t := 29) rfl (.cons (t := 21) rfl (.cons (t := 13) rfl (.cons (t := 12) rfl (.cons (t := 7) rfl (.cons (t := 1) rfl .nil))))));refine wp_exit ?_;refine Kn.then_exit ?_;clear hK2 K2;refine Kn.then_exit ?_;clear hKl1 Kl1;refine Kn.block_exit ?_;replace fh3 := fh3.cut (.cons (t := 13) rfl (.cons (t := 12) rfl (.cons (t := 7) rfl (.cons (t := 1) rfl .nil))));exact hQ _ _ fh3 HO.out HB.out HL.out
end Go.Proofs.YtcamanopfhbchaaDoor.Sha
end
section
namespace Go.Proofs.YtcamanopfhbchaaDoor.Sha
open Go.RowKit Go.Lib
theorem conv4 (u : World) (a b c d : Nat) (ha : a < 256) (hb : b < 256) (hc : c < 256) (hd : d < 256) : (convert 107 9 (.slice (some ⟨u.heap.size, 0, none⟩) 4 4)).run Tryd.prog (u.alloc (.cells #[.int .u8 (a : Int), .int .u8 (b : Int), .int .u8 (c : Int), .int .u8 (d : Int)] 5)) = .ok (.string ⟨[UInt8.ofNat a, UInt8.ofNat b, UInt8.ofNat c, UInt8.ofNat d].toArray⟩) (u.alloc (.cells #[.int .u8 (a : Int), .int .u8 (b : Int), .int .u8 (c : Int), .int .u8 (d : Int)] 5)) := by
  have e : ∀ n, n < 256 → ((UInt8.ofNat n).toNat : Int) = (n : Int) := fun n hn => by rw [UInt8.toNat_ofNat']; omega
  exact run_convert_bytes_back (P := Tryd.prog) _ 107 9 5 ⟨u.heap.size, 0, none⟩ 4 [UInt8.ofNat a, UInt8.ofNat b, UInt8.ofNat c, UInt8.ofNat d] Tryd.underlying107 Tryd.underlying5 Tryd.underlying9 (fun j hj => by
    rw [addr_add, World.cell?_alloc_at _ _ _ _ rfl];have hj4 : j < 4 := hj
    match j, hj4 with
    | 0, _ => (simp; omega)
    | 1, _ => (simp; omega)
    | 2, _ => (simp; omega)
    | 3, _ => (simp; omega))
set_option maxRecDepth 100000 in
set_option maxHeartbeats 4000000 in
theorem lp9 (w0 v : World) (fa0 : Act) (gh caph : Nat) (Hm : List Nat) (Q : Exit → Act → World → Prop) (hP : ∀ d v c b w, Q (.panic c) (b.put d v) w → Q (.panic c) b w)
    (fh0 : Kn.Kn 354 [(31, .int .i64 0), (30, .string ⟨#[]⟩), (12, .slice (some ⟨gh, 0, none⟩) 8 caph)] fa0)
    (HHl : Hid (Hm.length = 8)) (HHb : Hid (∀ i, wd Hm i < 4294967296)) (ho : OwnI v w0.heap.size gh caph Hm) (hold : Below w0.heap.size w0 v)
    (hQ : ∀ a v S, Kn.Kn 354 [(30, .string S)] a → S.data.toList = outB Hm 8 → Below w0.heap.size w0 v → Q .normal a v) :
    (Code.block 16 (.loop (bodyS 8))).wp Tryd.prog Q fa0 v := by
  refine wp_block ?_;refine Kn.loop (fun m fr v => ∃ (k : Nat) (S : ByteArray), Kn.Kn 354 [(31, .int .i64 (k : Int)), (30, .string S), (12, .slice (some ⟨gh, 0, none⟩) 8 caph)] fr ∧ k + m = 8 ∧ Hid (S.data.toList = outB Hm k) ∧ S.size ≤ 32 ∧ Hid (OwnI v w0.heap.size gh caph Hm) ∧ Hid (Below w0.heap.size w0 v)) 8 ⟨0, ⟨#[]⟩, fh0.cut (.cons (t := 31) rfl (.cons (t := 30) rfl (.cons (t := 12) rfl .nil))), rfl, Lib.hid rfl, (by show 0 ≤ 32; omega), Lib.hid ho, Lib.hid hold⟩ ?_;clear fh0 fa0;intro m1 fa1 v hI Kl1 hKl1
  conv => arg 2; whnf
  obtain ⟨k, S, fh1, hk, HD, hSs, HO, HL⟩ := hI;clear ho hold
  by_cases hlt : k < 8
  · refine wp_seq_k fun K2 hK2 => ?_;refine wp_seq_k fun K3 hK3 => ?_;refine wp_region_lit ?_;refine Kn.pure fh1 rfl rfl .none (Kn.ex_move fh1 (.tmp rfl)) fun fa2 fh2 => ?_;clear fh1 fa1;have qd : decide ((k : Int) < 8) = true := decide_eq_true (by omega);refine Kn.step fh2 rfl rfl .none (Kn.ex_bin fh2 (.tmp rfl) .const) fun Ko hKo => ?_;go_simp;(try go_bits);refine hKo _ _ fun fa3 fh3 => ?_;clear hKo Ko fh2 fa2;clear qd;refine wpList_nil ?_;refine hK3 _ _ ?_;clear hK3 K3;replace fh3 := fh3.cut (.cons (t := 320) rfl (.cons (t := 31) rfl (.cons (t := 30) rfl (.cons (t := 12) rfl .nil))));refine Kn.yes fh3 (.tmp rfl) ?_;refine wp_skip ?_;refine hK2 _ _ ?_;clear hK2 K2;replace fh3 := fh3.cut (.cons (t := 31) rfl (.cons (t := 30) rfl (.cons (t := 12) rfl .nil)));refine wp_seq_k fun K4 hK4 => ?_;refine wp_block ?_;have hlti : (k : Int) < 8 := by omega
    obtain ⟨x, hx⟩ : ∃ x, wd Hm k = x := ⟨_, rfl⟩;have bx : x < 4294967296 := by rw [← hx]; exact HHb.out k
    have cx : v.cell? ⟨gh, k, none⟩ = some (.int .i64 (x : Int)) := by rw [HO.out.cell (by rw [HHl.out]; exact hlt), hx]
    obtain ⟨b3, h3⟩ : ∃ b, x / 16777216 = b := ⟨_, rfl⟩;obtain ⟨p2, hp2⟩ : ∃ b, x / 65536 = b := ⟨_, rfl⟩;obtain ⟨b2, h2⟩ : ∃ b, p2 % 256 = b := ⟨_, rfl⟩;obtain ⟨p1, hp1⟩ : ∃ b, x / 256 = b := ⟨_, rfl⟩;obtain ⟨b1, h1⟩ : ∃ b, p1 % 256 = b := ⟨_, rfl⟩;obtain ⟨b0, hb0⟩ : ∃ b, x % 256 = b := ⟨_, rfl⟩;have a3 : (x : Int) / 16777216 = (b3 : Int) := by omega
    have a2p : (x : Int) / 65536 = (p2 : Int) := by omega
    have a2 : (p2 : Int) % 256 = (b2 : Int) := by omega
    have a1p : (x : Int) / 256 = (p1 : Int) := by omega
    have a1 : (p1 : Int) % 256 = (b1 : Int) := by omega
    have a0 : (x : Int) % 256 = (b0 : Int) := by omega
    have l3 : b3 < 256 := by omega
    have l2 : b2 < 256 := by omega
    have l1 : b1 < 256 := by omega
    have l0 : b0 < 256 := by omega
    have q3 : IntKind.u8.wrap (b3 : Int) = (b3 : Int) := IntWalk.u8_in _ (by omega);have q2 : IntKind.u8.wrap (b2 : Int) = (b2 : Int) := IntWalk.u8_in _ (by omega);have q1 : IntKind.u8.wrap (b1 : Int) = (b1 : Int) := IntWalk.u8_in _ (by omega);have q0 : IntKind.u8.wrap (b0 : Int) = (b0 : Int) := IntWalk.u8_in _ (by omega)
    have HW : Hid (w4 (wd Hm k) = [UInt8.ofNat b3, UInt8.ofNat b2, UInt8.ofNat b1, UInt8.ofNat b0]) := Lib.hid (by
      rw [hx, w4, byteOf, byteOf, byteOf, byteOf, h3, hp2, h2, hp1, h1, hb0, Nat.mod_eq_of_lt l3])
    clear hx h3 hp2 h2 hp1 h1 hb0;have hcv := conv4 v.drew b3 b2 b1 b0 l3 l2 l1 l0;obtain ⟨U, hU⟩ : ∃ U : ByteArray, (⟨[UInt8.ofNat b3, UInt8.ofNat b2, UInt8.ofNat b1, UInt8.ofNat b0].toArray⟩ : ByteArray) = U := ⟨_, rfl⟩;rw [hU] at hcv;have HUd : Hid (U.data.toList = w4 (wd Hm k)) := Lib.hid (by rw [HW.out, ← hU]);have hUs : U.size = 4 := by rw [← hU]; rfl
    clear hU;have hSk : S.size = 4 * k := by show S.data.toList.length = 4 * k; rw [HD.out, outB_len]
    have HSk := Lib.hid hSk;clear hSk;refine Sha.knPush 26 (by kernel_rfl) fh3 (by kernel_rfl) rfl rfl rfl rfl rfl (fun _ _ _ _ _ h => hP _ _ _ _ _ h) rfl rfl fun fa4 fh4 => ?_;clear fh3 fa3;refine Kn.spure fh4 rfl rfl .none (Kn.ex_move fh4 (.tmp rfl)) fun fa5 fh5 => ?_;clear fh4 fa4;refine Kn.spure fh5 rfl rfl .none (Kn.ex_move fh5 (.tmp rfl)) fun fa6 fh6 => ?_;clear fh5 fa5;refine Kn.sstep fh6 rfl rfl .none (Kn.ex_indexAddr fh6 (.tmp rfl) (.tmp rfl)) fun Ko hKo => ?_;go_simp;(try go_bits);refine hKo _ fun fa7 fh7 => ?_;clear hKo Ko fh6 fa6;refine Kn.sstep fh7 rfl rfl .none (Kn.ex_load fh7 (.tmp rfl)) fun Ko hKo => ?_;go_simp;(try go_bits);refine hKo _ fun fa8 fh8 => ?_;clear hKo Ko fh7 fa7;refine Kn.sstep fh8 rfl rfl .none (Kn.ex_bin fh8 (.tmp rfl) .const) fun Ko hKo => ?_;go_simp;(try go_bits);try rw [a3]
    refine hKo _ fun fa9 fh9 => ?_;clear hKo Ko fh8 fa8;refine Kn.sstep fh9 rfl rfl .none (Kn.ex_convert fh9 (.tmp rfl)) fun Ko hKo => ?_;go_simp;(try go_bits);refine hKo _ fun fa10 fh10 => ?_;clear hKo Ko fh9 fa9;refine Kn.spure fh10 rfl rfl .none (Kn.ex_move fh10 (.tmp rfl)) fun fa11 fh11 => ?_;clear fh10 fa10;refine Kn.spure fh11 rfl rfl .none (Kn.ex_move fh11 (.tmp rfl)) fun fa12 fh12 => ?_;clear fh11 fa11;refine Kn.sstep fh12 rfl rfl .none (Kn.ex_indexAddr fh12 (.tmp rfl) (.tmp rfl)) fun Ko hKo => ?_;go_simp;(try go_bits);refine hKo _ fun fa13 fh13 => ?_;clear hKo Ko fh12 fa12;refine Kn.sstep fh13 rfl rfl .none (Kn.ex_load fh13 (.tmp rfl)) fun Ko hKo => ?_;go_simp;(try go_bits);refine hKo _ fun fa14 fh14 => ?_;clear hKo Ko fh13 fa13;refine Kn.sstep fh14 rfl rfl .none (Kn.ex_bin fh14 (.tmp rfl) .const) fun Ko hKo => ?_;go_simp;(try go_bits);try rw [a2p]
    refine hKo _ fun fa15 fh15 => ?_;clear hKo Ko fh14 fa14;refine Kn.sstep fh15 rfl rfl .none (Kn.ex_bin fh15 (.tmp rfl) .const) fun Ko hKo => ?_;go_simp;(try go_bits);try rw [a2]
    refine hKo _ fun fa16 fh16 => ?_;clear hKo Ko fh15 fa15;refine Kn.sstep fh16 rfl rfl .none (Kn.ex_convert fh16 (.tmp rfl)) fun Ko hKo => ?_;go_simp;(try go_bits);refine hKo _ fun fa17 fh17 => ?_;clear hKo Ko fh16 fa16;refine Kn.spure fh17 rfl rfl .none (Kn.ex_move fh17 (.tmp rfl)) fun fa18 fh18 => ?_;clear fh17 fa17;refine Kn.spure fh18 rfl rfl .none (Kn.ex_move fh18 (.tmp rfl)) fun fa19 fh19 => ?_;clear fh18 fa18;refine Kn.sstep fh19 rfl rfl .none (Kn.ex_indexAddr fh19 (.tmp rfl) (.tmp rfl)) fun Ko hKo => ?_;go_simp;(try go_bits);refine hKo _ fun fa20 fh20 => ?_;clear hKo Ko fh19 fa19;refine Kn.sstep fh20 rfl rfl .none (Kn.ex_load fh20 (.tmp rfl)) fun Ko hKo => ?_;go_simp;(try go_bits);refine hKo _ fun fa21 fh21 => ?_;clear hKo Ko fh20 fa20;refine Kn.sstep fh21 rfl rfl .none (Kn.ex_bin fh21 (.tmp rfl) .const) fun Ko hKo => ?_;go_simp;(try go_bits);try rw [a1p]
    refine hKo _ fun fa22 fh22 => ?_;clear hKo Ko fh21 fa21;refine Kn.sstep fh22 rfl rfl .none (Kn.ex_bin fh22 (.tmp rfl) .const) fun Ko hKo => ?_;go_simp;(try go_bits);try rw [a1]
    refine hKo _ fun fa23 fh23 => ?_;clear hKo Ko fh22 fa22;refine Kn.sstep fh23 rfl rfl .none (Kn.ex_convert fh23 (.tmp rfl)) fun Ko hKo => ?_;go_simp;(try go_bits);refine hKo _ fun fa24 fh24 => ?_;clear hKo Ko fh23 fa23;refine Kn.spure fh24 rfl rfl .none (Kn.ex_move fh24 (.tmp rfl)) fun fa25 fh25 => ?_;clear fh24 fa24;refine Kn.spure fh25 rfl rfl .none (Kn.ex_move fh25 (.tmp rfl)) fun fa26 fh26 => ?_;clear fh25 fa25;refine Kn.sstep fh26 rfl rfl .none (Kn.ex_indexAddr fh26 (.tmp rfl) (.tmp rfl)) fun Ko hKo => ?_;go_simp;(try go_bits);refine hKo _ fun fa27 fh27 => ?_;clear hKo Ko fh26 fa26;refine Kn.sstep fh27 rfl rfl .none (Kn.ex_load fh27 (.tmp rfl)) fun Ko hKo => ?_;go_simp;(try go_bits);refine hKo _ fun fa28 fh28 => ?_;clear hKo Ko fh27 fa27;refine Kn.sstep fh28 rfl rfl .none (Kn.ex_bin fh28 (.tmp rfl) .const) fun Ko hKo => ?_;go_simp;(try go_bits);try rw [a0]
    refine hKo _ fun fa29 fh29 => ?_;clear hKo Ko fh28 fa28;refine Kn.sstep fh29 rfl rfl .none (Kn.ex_convert fh29 (.tmp rfl)) fun Ko hKo => ?_;go_simp;(try go_bits);refine hKo _ fun fa30 fh30 => ?_;clear hKo Ko fh29 fa29;refine wpStill_nil ?_;refine Kn.step fh30 rfl rfl .none (Kn.ex_buildSlice fh30 (.cons (.tmp rfl) (.cons (.tmp rfl) (.cons (.tmp rfl) (.cons (.tmp rfl) .nil))))) fun Ko hKo => ?_;go_simp;(try go_bits);refine hKo _ _ fun fa31 fh31 => ?_;clear hKo Ko fh30 fa30;refine Kn.known fh31 rfl rfl .none (Kn.ex_convert fh31 (.tmp rfl)) hcv fun fa32 fh32 => ?_;clear fh31 fa31;clear hcv;refine Kn.step fh32 rfl rfl .none (Kn.ex_bin fh32 (.tmp rfl) (.tmp rfl)) fun Ko hKo => ?_;go_simp;rw [if_neg (by omega)];refine hKo _ _ fun fa33 fh33 => ?_;clear hKo Ko fh32 fa32;refine Kn.pure fh33 rfl rfl .none (Kn.ex_assign fh33 (.tmp rfl)) fun fa34 fh34 => ?_;clear fh33 fa33;refine wpList_nil ?_;refine Kn.block_normal ?_;refine hK4 _ _ ?_;clear hK4 K4;replace fh34 := fh34.cut (.cons (t := 30) rfl (.cons (t := 31) rfl (.cons (t := 12) rfl .nil)));clear cx a3 a2p a2 a1p a1 a0 q3 q2 q1 q0;have hn : (S ++ U).size = S.size + 4 := by rw [ByteArray.size_append, hUs]
    have HN := Lib.hid hn;clear hn;refine wp_region_lit ?_;refine Kn.pure fh34 rfl rfl .none (Kn.ex_move fh34 (.tmp rfl)) fun fa35 fh35 => ?_;clear fh34 fa34;refine Kn.step fh35 rfl rfl .none (Kn.ex_bin fh35 (.tmp rfl) .const) fun Ko hKo => ?_;go_simp;(try go_bits);refine hKo _ _ fun fa36 fh36 => ?_;clear hKo Ko fh35 fa35;refine Kn.pure fh36 rfl rfl .none (Kn.ex_assign fh36 (.tmp rfl)) fun fa37 fh37 => ?_;clear fh36 fa36;refine wpList_nil ?_;replace fh37 := fh37.cut (.cons (t := 31) rfl (.cons (t := 30) rfl (.cons (t := 12) rfl .nil)));exact hKl1 (m1 - 1) _ _ (by omega) ⟨k + 1, S ++ U, fh37.cut (.turn (t := 31) rfl (by go_num) (.cons (t := 30) rfl (.cons (t := 12) rfl .nil))), by omega, Lib.hid (by rw [outB, ← HD.out, ← HUd.out]; simp), (by have := HN.out; have := HSk.out; omega), Lib.hid (HO.out.drew.alloc _), Lib.hid ((below_drew HL.out).alloc HL.out.size _)⟩
  · obtain rfl : k = 8 := by omega
    refine wp_seq_k fun K2 hK2 => ?_;refine wp_seq_k fun K3 hK3 => ?_;refine wp_region_lit ?_;refine Kn.pure fh1 rfl rfl .none (Kn.ex_move fh1 (.tmp rfl)) fun fa2 fh2 => ?_;clear fh1 fa1;have qd : decide (((8 : Nat) : Int) < 8) = false := decide_eq_false (by omega);refine Kn.step fh2 rfl rfl .none (Kn.ex_bin fh2 (.tmp rfl) .const) fun Ko hKo => ?_;go_simp;(try go_bits);refine hKo _ _ fun fa3 fh3 => ?_;clear hKo Ko fh2 fa2;clear qd;refine wpList_nil ?_;refine hK3 _ _ ?_;clear hK3 K3;replace fh3 := fh3.cut (.cons (t := 320) rfl (.cons (t := 31) rfl (.cons (t := 30) rfl (.cons (t := 12) rfl .nil))));refine Kn.no fh3 (.tmp rfl) ?_;replace fh3 := fh3.cut (.cons (t := 31) rfl (.cons (t := 30) rfl (.cons (t := 12) rfl .nil)));refine wp_exit ?_;refine Kn.then_exit ?_;clear hK2 K2;refine Kn.then_exit ?_;clear hKl1 Kl1;refine Kn.block_exit ?_;replace fh3 := fh3.cut (.cons (t := 30) rfl .nil);exact hQ _ _ S fh3 HD.out HL.out
end Go.Proofs.YtcamanopfhbchaaDoor.Sha
end
section
namespace Go.Proofs.YtcamanopfhbchaaDoor.Sha
open Go.RowKit Go.Lib
theorem v8_list (c : List Nat) (h : c.length = 8) : (v8 c).list = c := by
  match c, h with
  | [a, b, c, d, e, f, g, h], _ => rfl
theorem ok_list {v : V8} (h : v.ok) (i : Nat) : wd v.list i < 4294967296 := by
  obtain ⟨h0, h1, h2, h3, h4, h5, h6, h7⟩ := h
  match i with
  | 0 => exact h0
  | 1 => exact h1
  | 2 => exact h2
  | 3 => exact h3
  | 4 => exact h4
  | 5 => exact h5
  | 6 => exact h6
  | 7 => exact h7
  | i + 8 => exact (show (0 : Nat) < 4294967296 by omega)
theorem ws_start {w0 v : World} {gh caph g2 cap2 : Nat} {Hm PL : List Nat} (hb : Below w0.heap.size w0 v) (ho : OwnI v w0.heap.size gh caph Hm) (hb2 : OwnI v w0.heap.size g2 cap2 PL) (hne : gh ≠ g2) : Ws w0 (v.alloc (.cells #[] 3)) v.heap.size 0 [] gh caph Hm g2 cap2 PL :=
  ⟨OwnI.new _ _ hb.size, ho.alloc _, hb2.alloc _, hb.alloc hb.size _, Nat.ne_of_gt hb2.lt', Nat.ne_of_gt ho.lt', hne⟩
theorem ws_kept {w0 v v' : World} {gw capw gh caph g2 cap2 g' : Nat} {lw Hm PL : List Nat} {o : Obj} (h : Ws w0 v gw capw lw gh caph Hm g2 cap2 PL) (hk : Kept (v.alloc o) v' v.heap.size g') (hb : Below w0.heap.size w0 v') : Ws w0 v' gw capw lw gh caph Hm g2 cap2 PL :=
  ⟨hk.own (Nat.ne_of_lt h.ow.lt') (h.ow.alloc _), hk.own (Nat.ne_of_lt h.oh.lt') (h.oh.alloc _), hk.own (Nat.ne_of_lt h.ob.lt') (h.ob.alloc _), hb, h.n1, h.n2, h.n3⟩
set_option maxRecDepth 100000 in
set_option maxHeartbeats 8000000 in
theorem refSum_any (t : ByteArray) (bk ok bh oh ck ch : Nat) (w : World) (ht : t.size ≤ 440) (hK : NIn w (some ⟨bk, ok, none⟩) kk) (hH : NIn w (some ⟨bh, oh, none⟩) hh) :
    Calls Tryd.prog 42 #[.string t, .slice (some ⟨bk, ok, none⟩) 64 ck, .slice (some ⟨bh, oh, none⟩) 8 ch] w fun e w' => e = .returned (.string (digB t.data.toList)) ∧ Below w.heap.size w w' := by
  have HK := Lib.hid hK;have HH := Lib.hid hH;clear hK hH;obtain ⟨n, hn⟩ : ∃ n, t.size = n := ⟨_, rfl⟩;obtain ⟨T, hT⟩ : ∃ T, t.data.toList = T := ⟨_, rfl⟩;have HTn : Hid (T.length = n) := Lib.hid (by rw [← hT, ← hn]; rfl);have HT := Lib.hid hT;have HN := Lib.hid hn;have hn400 : n ≤ 440 := by omega
  rw [hT];clear hT hn;refine Kn.calls Tryd.func42 rfl Tryd.ntmps42 rfl (.cons (t := 0) rfl (.cons (t := 1) rfl (.cons (t := 2) rfl .nil))) fun fa0 fh0 => ?_;refine wp_seq_k fun K1 hK1 => ?_;refine wp_region_lit ?_;refine Kn.pure fh0 rfl rfl .none (Kn.ex_assign fh0 .const) fun fa1 fh1 => ?_;clear fh0 fa0;refine wpList_nil ?_;refine hK1 _ _ ?_;clear hK1 K1;refine wp_seq_k fun K2 hK2 => ?_;refine wp_region_lit ?_;refine Kn.step fh1 rfl rfl .none (Kn.ex_buildSlice fh1 .nil) fun Ko hKo => ?_;go_simp;(try go_bits);refine hKo _ _ fun fa2 fh2 => ?_;clear hKo Ko fh1 fa1;refine Kn.pure fh2 rfl rfl .none (Kn.ex_assign fh2 (.tmp rfl)) fun fa3 fh3 => ?_;clear fh2 fa2;refine wpList_nil ?_;refine hK2 _ _ ?_;clear hK2 K2;replace fh3 := fh3.cut (.cons (t := 7) rfl (.cons (t := 6) rfl (.cons (t := 0) rfl (.cons (t := 1) rfl (.cons (t := 2) rfl .nil)))));refine wp_seq_k fun K3 hK3 => ?_;refine wp_seq_k fun K4 hK4 => ?_;refine wp_region_lit ?_;refine Kn.pure fh3 rfl rfl .none (Kn.ex_assign fh3 .const) fun fa4 fh4 => ?_;clear fh3 fa3;refine wpList_nil ?_;refine hK4 _ _ ?_;clear hK4 K4;refine wp_block ?_;refine Kn.loop (fun m fr v => ∃ (k g cap : Nat), Kn.Kn 354 [(8, .int .i64 (k : Int)), (7, .slice (some ⟨g, 0, none⟩) k cap), (0, .string t), (1, .slice (some ⟨bk, ok, none⟩) 64 ck), (2, .slice (some ⟨bh, oh, none⟩) 8 ch)] fr ∧ k + m = n ∧ Hid (OwnI v w.heap.size g cap (nb (T.take k))) ∧ Hid (Below w.heap.size w v)) n ⟨0, w.heap.size, 0, fh4.cut (.cons (t := 8) rfl (.cons (t := 7) rfl (.cons (t := 0) rfl (.cons (t := 1) rfl (.cons (t := 2) rfl .nil))))), by omega, Lib.hid (OwnI.new w _ (Nat.le_refl _)), Lib.hid ((Below.refl _ _).alloc (Nat.le_refl _) _)⟩ ?_;clear fh4 fa4;intro m5 fa5 v hI Kl5 hKl5;obtain ⟨k, g, cap, fh5, hk, HO, HB⟩ := hI
  by_cases hlt : k < n
  · have hkt : k < t.size := by have := HN.out; omega
    have hns : (n : Int) = (t.size : Int) := by have := HN.out; omega
    refine wp_seq_k fun K6 hK6 => ?_;refine wp_seq_k fun K7 hK7 => ?_;refine wp_region_lit ?_;refine Kn.pure fh5 rfl rfl .none (Kn.ex_move fh5 (.tmp rfl)) fun fa6 fh6 => ?_;clear fh5 fa5;refine Kn.pure fh6 rfl rfl .none (Kn.ex_move fh6 (.tmp rfl)) fun fa7 fh7 => ?_;clear fh6 fa6;refine Kn.step fh7 rfl rfl .none (Kn.ex_len fh7 (.tmp rfl)) fun Ko hKo => ?_;go_simp;(try go_bits);refine hKo _ _ fun fa8 fh8 => ?_;clear hKo Ko fh7 fa7;have qd : decide ((k : Int) < (t.size : Int)) = true := decide_eq_true (by omega);have qd2 : decide (k < t.size) = true := decide_eq_true (by omega);refine Kn.step fh8 rfl rfl .none (Kn.ex_bin fh8 (.tmp rfl) (.tmp rfl)) fun Ko hKo => ?_;go_simp;(try go_bits);refine hKo _ _ fun fa9 fh9 => ?_;clear hKo Ko fh8 fa8;clear qd qd2;refine wpList_nil ?_;refine hK7 _ _ ?_;clear hK7 K7;replace fh9 := fh9.cut (.cons (t := 36) rfl (.cons (t := 8) rfl (.cons (t := 7) rfl (.cons (t := 0) rfl (.cons (t := 1) rfl (.cons (t := 2) rfl .nil))))));refine Kn.yes fh9 (.tmp rfl) ?_;refine wp_skip ?_;refine hK6 _ _ ?_;clear hK6 K6;replace fh9 := fh9.cut (.cons (t := 8) rfl (.cons (t := 7) rfl (.cons (t := 0) rfl (.cons (t := 1) rfl (.cons (t := 2) rfl .nil)))));refine wp_seq_k fun K8 hK8 => ?_;refine wp_block ?_;obtain ⟨x, hx⟩ : ∃ x, t[k].toNat = x := ⟨_, rfl⟩;have hxl : x < 256 := by rw [← hx]; exact t[k].toNat_lt
    have HX : Hid (nb (T.take (k + 1)) = nb (T.take k) ++ [x]) := Lib.hid (by
      rw [← HT.out, List.take_succ_eq_append_getElem (by simpa using hkt)]; simp [nb]; rw [← hx]; rfl)
    obtain ⟨gn, capn, vn, hrun, hown, hbel, hkep⟩ := push1 w v 25 g cap k x (nb (T.take k)) HO.out (by rw [nb, List.length_map, List.length_take, HTn.out]; omega) HB.out (by omega);rw [← HX.out] at hown;have HOn := Lib.hid hown;have HBn := Lib.hid hbel;clear hown hbel hkep;refine wp_region_lit ?_;refine Kn.pure fh9 rfl rfl .none (Kn.ex_move fh9 (.tmp rfl)) fun fa10 fh10 => ?_;clear fh9 fa9;refine Kn.pure fh10 rfl rfl .none (Kn.ex_move fh10 (.tmp rfl)) fun fa11 fh11 => ?_;clear fh10 fa10;refine Kn.pure fh11 rfl rfl .none (Kn.ex_move fh11 (.tmp rfl)) fun fa12 fh12 => ?_;clear fh11 fa11;refine Kn.step fh12 rfl rfl .none (Kn.ex_index fh12 (.tmp rfl) (.tmp rfl)) fun Ko hKo => ?_;go_simp;(try go_bits);refine hKo _ _ fun fa13 fh13 => ?_;clear hKo Ko fh12 fa12;refine Kn.step fh13 rfl rfl .none (Kn.ex_convert fh13 (.tmp rfl)) fun Ko hKo => ?_;go_simp;(try go_bits);refine hKo _ _ fun fa14 fh14 => ?_;clear hKo Ko fh13 fa13;refine Kn.step fh14 rfl rfl .none (Kn.ex_buildSlice fh14 (.cons (.tmp rfl) .nil)) fun Ko hKo => ?_;go_simp;(try go_bits);refine hKo _ _ fun fa15 fh15 => ?_;clear hKo Ko fh14 fa14;refine Kn.known fh15 rfl rfl .none (Kn.ex_append fh15 (.cons (.tmp rfl) (.cons (.tmp rfl) .nil))) hrun fun fa16 fh16 => ?_;clear fh15 fa15;clear hrun;refine Kn.pure fh16 rfl rfl .none (Kn.ex_assign fh16 (.tmp rfl)) fun fa17 fh17 => ?_;clear fh16 fa16;refine wpList_nil ?_;refine Kn.block_normal ?_;refine hK8 _ _ ?_;clear hK8 K8;replace fh17 := fh17.cut (.cons (t := 7) rfl (.cons (t := 8) rfl (.cons (t := 0) rfl (.cons (t := 1) rfl (.cons (t := 2) rfl .nil)))));refine wp_region_lit ?_;refine Kn.pure fh17 rfl rfl .none (Kn.ex_move fh17 (.tmp rfl)) fun fa18 fh18 => ?_;clear fh17 fa17;refine Kn.step fh18 rfl rfl .none (Kn.ex_bin fh18 (.tmp rfl) .const) fun Ko hKo => ?_;go_simp;(try go_bits);refine hKo _ _ fun fa19 fh19 => ?_;clear hKo Ko fh18 fa18;refine Kn.pure fh19 rfl rfl .none (Kn.ex_assign fh19 (.tmp rfl)) fun fa20 fh20 => ?_;clear fh19 fa19;refine wpList_nil ?_;replace fh20 := fh20.cut (.cons (t := 8) rfl (.cons (t := 7) rfl (.cons (t := 0) rfl (.cons (t := 1) rfl (.cons (t := 2) rfl .nil)))));exact hKl5 (m5 - 1) _ _ (by omega) ⟨k + 1, gn, capn, fh20.cut (.turn (t := 8) rfl (by go_num) (.cons (t := 7) rfl (.cons (t := 0) rfl (.cons (t := 1) rfl (.cons (t := 2) rfl .nil))))), by omega, HOn, HBn⟩
  obtain rfl : k = n := by omega
  have hns : (k : Int) = (t.size : Int) := by have := HN.out; omega
  have HO1 : Hid (OwnI v w.heap.size g cap (nb T)) := Lib.hid (by have := HO.out; rwa [List.take_of_length_le (by rw [HTn.out]; exact Nat.le_refl _)] at this);clear HO;refine wp_seq_k fun K6 hK6 => ?_;refine wp_seq_k fun K7 hK7 => ?_;refine wp_region_lit ?_;refine Kn.pure fh5 rfl rfl .none (Kn.ex_move fh5 (.tmp rfl)) fun fa6 fh6 => ?_;clear fh5 fa5;refine Kn.pure fh6 rfl rfl .none (Kn.ex_move fh6 (.tmp rfl)) fun fa7 fh7 => ?_;clear fh6 fa6;refine Kn.step fh7 rfl rfl .none (Kn.ex_len fh7 (.tmp rfl)) fun Ko hKo => ?_;go_simp;(try go_bits);refine hKo _ _ fun fa8 fh8 => ?_;clear hKo Ko fh7 fa7;have qd : decide ((k : Int) < (t.size : Int)) = false := decide_eq_false (by omega);have qd2 : decide (k < t.size) = false := decide_eq_false (by omega);refine Kn.step fh8 rfl rfl .none (Kn.ex_bin fh8 (.tmp rfl) (.tmp rfl)) fun Ko hKo => ?_;go_simp;(try go_bits);refine hKo _ _ fun fa9 fh9 => ?_;clear hKo Ko fh8 fa8;clear qd qd2;refine wpList_nil ?_;refine hK7 _ _ ?_;clear hK7 K7;replace fh9 := fh9.cut (.cons (t := 36) rfl (.cons (t := 8) rfl (.cons (t := 7) rfl (.cons (t := 0) rfl (.cons (t := 1) rfl (.cons (t := 2) rfl .nil))))));refine Kn.no fh9 (.tmp rfl) ?_;replace fh9 := fh9.cut (.cons (t := 8) rfl (.cons (t := 7) rfl (.cons (t := 0) rfl (.cons (t := 1) rfl (.cons (t := 2) rfl .nil)))));refine wp_exit ?_;refine Kn.then_exit ?_;clear hK6 K6;refine Kn.then_exit ?_;clear hKl5 Kl5;refine Kn.block_exit ?_;refine hK3 _ _ ?_;clear hK3 K3;replace fh9 := fh9.cut (.cons (t := 7) rfl (.cons (t := 0) rfl (.cons (t := 1) rfl (.cons (t := 2) rfl .nil))));clear hk hlt;obtain ⟨g1, cap1, v1, hrun, hown, hbel, hkep⟩ := push1 w v 25 g cap k 128 (nb T) HO1.out (by rw [nb, List.length_map, HTn.out]) HB.out (by omega);have HO2 := Lib.hid hown;have HB2 := Lib.hid hbel;clear hown hbel hkep HO1 HB;obtain ⟨z, hz⟩ : ∃ z, (119 - k % 64) % 64 = z := ⟨_, rfl⟩;have HZ := Lib.hid hz;have hz64 : z < 64 := by omega
  clear hz;refine wp_seq_k fun K8 hK8 => ?_;refine wp_region_lit ?_;refine Kn.pure fh9 rfl rfl .none (Kn.ex_move fh9 (.tmp rfl)) fun fa10 fh10 => ?_;clear fh9 fa9;refine Kn.step fh10 rfl rfl .none (Kn.ex_buildSlice fh10 (.cons .const .nil)) fun Ko hKo => ?_;go_simp;(try go_bits);refine hKo _ _ fun fa11 fh11 => ?_;clear hKo Ko fh10 fa10;refine Kn.known fh11 rfl rfl .none (Kn.ex_append fh11 (.cons (.tmp rfl) (.cons (.tmp rfl) .nil))) hrun fun fa12 fh12 => ?_;clear fh11 fa11;clear hrun;refine Kn.pure fh12 rfl rfl .none (Kn.ex_assign fh12 (.tmp rfl)) fun fa13 fh13 => ?_;clear fh12 fa12;refine wpList_nil ?_;refine hK8 _ _ ?_;clear hK8 K8;replace fh13 := fh13.cut (.cons (t := 7) rfl (.cons (t := 0) rfl (.cons (t := 1) rfl (.cons (t := 2) rfl .nil))));refine wp_seq_k fun K9 hK9 => ?_;refine wp_block ?_;refine Kn.loop (fun m fr v => ∃ (j L g cap : Nat), Kn.Kn 354 [(7, .slice (some ⟨g, 0, none⟩) L cap), (0, .string t), (1, .slice (some ⟨bk, ok, none⟩) 64 ck), (2, .slice (some ⟨bh, oh, none⟩) 8 ch)] fr ∧ j + m = z ∧ Hid (L = k + 1 + j) ∧ L ≤ 540 ∧ Hid (OwnI v w.heap.size g cap (nb T ++ [128] ++ List.replicate j 0)) ∧ Hid (Below w.heap.size w v)) z ⟨0, k + 1, g1, cap1, fh13.cut (.cons (t := 7) rfl (.cons (t := 0) rfl (.cons (t := 1) rfl (.cons (t := 2) rfl .nil)))), by omega, Lib.hid rfl, by omega, Lib.hid (by simpa using HO2.out), HB2⟩ ?_;clear fh13 fa13;intro m10 fa14 v hI Kl10 hKl10;obtain ⟨j, L, g, cap, fh14, hj, HL, hL5, HO, HB⟩ := hI;clear HO2 HB2
  by_cases hjz : j < z
  · have htest : ((L : Int) % 64 != 56) = true := bne_iff_ne.2 (by have := HL.out; have := HZ.out; omega);refine wp_seq_k fun K11 hK11 => ?_;refine wp_seq_k fun K12 hK12 => ?_;refine wp_region_lit ?_;refine Kn.pure fh14 rfl rfl .none (Kn.ex_move fh14 (.tmp rfl)) fun fa15 fh15 => ?_;clear fh14 fa14;refine Kn.step fh15 rfl rfl .none (Kn.ex_len fh15 (.tmp rfl)) fun Ko hKo => ?_;go_simp;(try go_bits);refine hKo _ _ fun fa16 fh16 => ?_;clear hKo Ko fh15 fa15;refine Kn.step fh16 rfl rfl .none (Kn.ex_bin fh16 (.tmp rfl) .const) fun Ko hKo => ?_;go_simp;(try go_bits);refine hKo _ _ fun fa17 fh17 => ?_;clear hKo Ko fh16 fa16;refine Kn.step fh17 rfl rfl .none (Kn.ex_bin fh17 (.tmp rfl) .const) fun Ko hKo => ?_;go_simp;(try go_bits);refine hKo _ _ fun fa18 fh18 => ?_;clear hKo Ko fh17 fa17;clear htest;refine wpList_nil ?_;refine hK12 _ _ ?_;clear hK12 K12;replace fh18 := fh18.cut (.cons (t := 52) rfl (.cons (t := 7) rfl (.cons (t := 0) rfl (.cons (t := 1) rfl (.cons (t := 2) rfl .nil)))));refine Kn.yes fh18 (.tmp rfl) ?_;refine wp_skip ?_;refine hK11 _ _ ?_;clear hK11 K11;replace fh18 := fh18.cut (.cons (t := 7) rfl (.cons (t := 0) rfl (.cons (t := 1) rfl (.cons (t := 2) rfl .nil))));refine wp_block ?_;obtain ⟨gn, capn, vn, hrun, hown, hbel, hkep⟩ := push1 w v 25 g cap L 0 (nb T ++ [128] ++ List.replicate j 0) HO.out (by rw [HL.out]; simp [nb, HTn.out]; omega) HB.out (by omega);have HOn := Lib.hid hown;have HBn := Lib.hid hbel;clear hown hbel hkep;refine wp_region_lit ?_;refine Kn.pure fh18 rfl rfl .none (Kn.ex_move fh18 (.tmp rfl)) fun fa19 fh19 => ?_;clear fh18 fa18;refine Kn.step fh19 rfl rfl .none (Kn.ex_buildSlice fh19 (.cons .const .nil)) fun Ko hKo => ?_;go_simp;(try go_bits);refine hKo _ _ fun fa20 fh20 => ?_;clear hKo Ko fh19 fa19;refine Kn.known fh20 rfl rfl .none (Kn.ex_append fh20 (.cons (.tmp rfl) (.cons (.tmp rfl) .nil))) hrun fun fa21 fh21 => ?_;clear fh20 fa20;clear hrun;refine Kn.pure fh21 rfl rfl .none (Kn.ex_assign fh21 (.tmp rfl)) fun fa22 fh22 => ?_;clear fh21 fa21;refine wpList_nil ?_;refine Kn.block_normal ?_;replace fh22 := fh22.cut (.cons (t := 7) rfl (.cons (t := 0) rfl (.cons (t := 1) rfl (.cons (t := 2) rfl .nil))));exact hKl10 (m10 - 1) _ _ (by omega) ⟨j + 1, L + 1, gn, capn, fh22.cut (.cons (t := 7) rfl (.cons (t := 0) rfl (.cons (t := 1) rfl (.cons (t := 2) rfl .nil)))), by omega, Lib.hid (by rw [HL.out]; omega), by have := HL.out; omega, Lib.hid (by rw [List.replicate_succ', ← List.append_assoc]; exact HOn.out), HBn⟩
  obtain rfl : j = z := by omega
  have htest : ((L : Int) % 64 != 56) = false := by
    have : (L : Int) % 64 = 56 := by have := HL.out; have := HZ.out; omega
    rw [this]; rfl
  have h8n : 8 * (t.size : Int) = ((8 * k : Nat) : Int) := by have := HN.out; omega
  refine wp_seq_k fun K11 hK11 => ?_;refine wp_seq_k fun K12 hK12 => ?_;refine wp_region_lit ?_;refine Kn.pure fh14 rfl rfl .none (Kn.ex_move fh14 (.tmp rfl)) fun fa15 fh15 => ?_;clear fh14 fa14;refine Kn.step fh15 rfl rfl .none (Kn.ex_len fh15 (.tmp rfl)) fun Ko hKo => ?_;go_simp;(try go_bits);refine hKo _ _ fun fa16 fh16 => ?_;clear hKo Ko fh15 fa15;refine Kn.step fh16 rfl rfl .none (Kn.ex_bin fh16 (.tmp rfl) .const) fun Ko hKo => ?_;go_simp;(try go_bits);refine hKo _ _ fun fa17 fh17 => ?_;clear hKo Ko fh16 fa16;refine Kn.step fh17 rfl rfl .none (Kn.ex_bin fh17 (.tmp rfl) .const) fun Ko hKo => ?_;go_simp;(try go_bits);refine hKo _ _ fun fa18 fh18 => ?_;clear hKo Ko fh17 fa17;clear htest;refine wpList_nil ?_;refine hK12 _ _ ?_;clear hK12 K12;replace fh18 := fh18.cut (.cons (t := 52) rfl (.cons (t := 7) rfl (.cons (t := 0) rfl (.cons (t := 1) rfl (.cons (t := 2) rfl .nil)))));refine Kn.no fh18 (.tmp rfl) ?_;replace fh18 := fh18.cut (.cons (t := 7) rfl (.cons (t := 0) rfl (.cons (t := 1) rfl (.cons (t := 2) rfl .nil))));refine wp_exit ?_;refine Kn.then_exit ?_;clear hK11 K11;refine Kn.then_exit ?_;clear hKl10 Kl10;refine Kn.block_exit ?_;refine hK9 _ _ ?_;clear hK9 K9;clear hj hjz;obtain ⟨l, hl⟩ : ∃ l, nb T ++ [128] ++ List.replicate j 0 = l := ⟨_, rfl⟩;rw [hl] at HO;have HLl : Hid (L = l.length) := Lib.hid (by rw [HL.out, ← hl]; simp [nb, HTn.out]; omega);have Hl := Lib.hid hl;clear hl;obtain ⟨q8, hq8⟩ : ∃ q, 8 * k = q := ⟨_, rfl⟩;rw [hq8] at h8n;have hqb : q8 ≤ 3600 := by omega
  refine wp_seq_k fun K13 hK13 => ?_;refine wp_region_lit ?_;refine Kn.pure fh18 rfl rfl .none (Kn.ex_move fh18 (.tmp rfl)) fun fa19 fh19 => ?_;clear fh18 fa18;refine Kn.step fh19 rfl rfl .none (Kn.ex_len fh19 (.tmp rfl)) fun Ko hKo => ?_;go_simp;(try go_bits);refine hKo _ _ fun fa20 fh20 => ?_;clear hKo Ko fh19 fa19;refine Kn.step fh20 rfl rfl .none (Kn.ex_bin fh20 .const (.tmp rfl)) fun Ko hKo => ?_;go_simp;(try go_bits);refine hKo _ _ fun fa21 fh21 => ?_;clear hKo Ko fh20 fa20;refine Kn.pure fh21 rfl rfl .none (Kn.ex_assign fh21 (.tmp rfl)) fun fa22 fh22 => ?_;clear fh21 fa21;refine wpList_nil ?_;refine hK13 _ _ ?_;clear hK13 K13;replace fh22 := fh22.cut (.cons (t := 9) rfl (.cons (t := 7) rfl (.cons (t := 1) rfl (.cons (t := 2) rfl .nil))));refine wp_seq_k fun K14 hK14 => ?_;refine wp_region_lit ?_;refine Kn.step fh22 rfl rfl .none (Kn.ex_buildSlice fh22 .nil) fun Ko hKo => ?_;go_simp;(try go_bits);refine hKo _ _ fun fa23 fh23 => ?_;clear hKo Ko fh22 fa22;refine Kn.pure fh23 rfl rfl .none (Kn.ex_assign fh23 (.tmp rfl)) fun fa24 fh24 => ?_;clear fh23 fa23;refine wpList_nil ?_;refine hK14 _ _ ?_;clear hK14 K14;replace fh24 := fh24.cut (.cons (t := 10) rfl (.cons (t := 9) rfl (.cons (t := 7) rfl (.cons (t := 1) rfl (.cons (t := 2) rfl .nil)))));clear h8n;refine wp_seq_k fun K15 hK15 => ?_;refine wp_seq_k fun K16 hK16 => ?_;refine wp_region_lit ?_;refine Kn.pure fh24 rfl rfl .none (Kn.ex_assign fh24 .const) fun fa25 fh25 => ?_;clear fh24 fa24;refine wpList_nil ?_;refine hK16 _ _ ?_;clear hK16 K16;refine wp_block ?_;refine Kn.loop (fun m fr v => ∃ (i q gt capt : Nat), Kn.Kn 354 [(11, .int .i64 (i : Int)), (9, .int .i64 (q : Int)), (10, .slice (some ⟨gt, 0, none⟩) i capt), (7, .slice (some ⟨g, 0, none⟩) L cap), (1, .slice (some ⟨bk, ok, none⟩) 64 ck), (2, .slice (some ⟨bh, oh, none⟩) 8 ch)] fr ∧ i + m = 8 ∧ q ≤ 3600 ∧ Hid (q = q8 / 256 ^ i) ∧ gt ≠ g ∧ Hid (OwnI v w.heap.size gt capt (tailL q8 i)) ∧ Hid (OwnI v w.heap.size g cap l) ∧ Hid (Below w.heap.size w v)) 8 ⟨0, q8, _, 0, fh25.cut (.cons (t := 11) rfl (.cons (t := 9) rfl (.cons (t := 10) rfl (.cons (t := 7) rfl (.cons (t := 1) rfl (.cons (t := 2) rfl .nil)))))), rfl, hqb, Lib.hid (by simp), (by have := HO.out.lt'; omega), Lib.hid (by rw [tailL_zero]; exact OwnI.new _ _ HB.out.size), Lib.hid (HO.out.alloc _), Lib.hid (HB.out.alloc HB.out.size _)⟩ ?_;clear fh25 fa25;intro m17 fa26 v hI Kl17 hKl17;obtain ⟨i, q, gt, capt, fh26, hi, hq, HQ, hgt, HOt, HO, HB⟩ := hI
  by_cases hi8 : i < 8
  · refine wp_seq_k fun K18 hK18 => ?_;refine wp_seq_k fun K19 hK19 => ?_;refine wp_region_lit ?_;refine Kn.pure fh26 rfl rfl .none (Kn.ex_move fh26 (.tmp rfl)) fun fa27 fh27 => ?_;clear fh26 fa26;have qd : decide ((i : Int) < 8) = true := decide_eq_true (by omega);refine Kn.step fh27 rfl rfl .none (Kn.ex_bin fh27 (.tmp rfl) .const) fun Ko hKo => ?_;go_simp;(try go_bits);refine hKo _ _ fun fa28 fh28 => ?_;clear hKo Ko fh27 fa27;clear qd;refine wpList_nil ?_;refine hK19 _ _ ?_;clear hK19 K19;replace fh28 := fh28.cut (.cons (t := 61) rfl (.cons (t := 11) rfl (.cons (t := 9) rfl (.cons (t := 10) rfl (.cons (t := 7) rfl (.cons (t := 1) rfl (.cons (t := 2) rfl .nil)))))));refine Kn.yes fh28 (.tmp rfl) ?_;refine wp_skip ?_;refine hK18 _ _ ?_;clear hK18 K18;replace fh28 := fh28.cut (.cons (t := 11) rfl (.cons (t := 9) rfl (.cons (t := 10) rfl (.cons (t := 7) rfl (.cons (t := 1) rfl (.cons (t := 2) rfl .nil))))));refine wp_seq_k fun K20 hK20 => ?_;refine wp_block ?_;obtain ⟨x, hx⟩ : ∃ x, q % 256 = x := ⟨_, rfl⟩;have ax : (q : Int) % 256 = (x : Int) := by omega
    obtain ⟨q', hq'⟩ : ∃ x, q / 256 = x := ⟨_, rfl⟩;have aq : (q : Int) / 256 = (q' : Int) := by omega
    have hq'b : q' ≤ 3600 := by omega
    have HTL := Lib.hid (tailL_len q8 i (by omega));obtain ⟨gn, capn, vn, hrun, hown, hbel, hkep⟩ := pushM w (v.alloc (.cells #[.int .i64 (x : Int)] 3)) 25 v.heap.size 1 1 i capt gt 0 [x] (tailL q8 i) (OwnI.one v _ x HB.out.size) rfl HTL.out.symm (by omega) ((HOt.out.alloc _).news) (HB.out.alloc HB.out.size _) (by omega);have HOn : Hid (OwnI vn w.heap.size gn capn (tailL q8 (i + 1))) := Lib.hid (by rw [tailL_succ _ _ hi8, ← HQ.out, hx]; exact hown);have hgl := HO.out.lt';have HO2 := Lib.hid (hkep.own (Nat.ne_of_lt hgl) (HO.out.alloc _))
    have hgn : gn ≠ g := by
      rcases hkep.at' with e | e
      · omega
      · simp at e; omega
    have HBn := Lib.hid hbel;have HQ2 : Hid (q' = q8 / 256 ^ (i + 1)) := Lib.hid (by rw [← hq', HQ.out, Nat.pow_succ, Nat.div_div_eq_div_mul]);clear hown hbel hkep hx hq';refine wp_seq_k fun K21 hK21 => ?_;refine wp_region_lit ?_;refine Kn.pure fh28 rfl rfl .none (Kn.ex_move fh28 (.tmp rfl)) fun fa29 fh29 => ?_;clear fh28 fa28;refine Kn.step fh29 rfl rfl .none (Kn.ex_bin fh29 (.tmp rfl) .const) fun Ko hKo => ?_;go_simp;(try go_bits);try rw [ax]
    refine hKo _ _ fun fa30 fh30 => ?_;clear hKo Ko fh29 fa29;refine Kn.step fh30 rfl rfl .none (Kn.ex_buildSlice fh30 (.cons (.tmp rfl) .nil)) fun Ko hKo => ?_;go_simp;(try go_bits);refine hKo _ _ fun fa31 fh31 => ?_;clear hKo Ko fh30 fa30;refine Kn.pure fh31 rfl rfl .none (Kn.ex_move fh31 (.tmp rfl)) fun fa32 fh32 => ?_;clear fh31 fa31;refine Kn.known fh32 rfl rfl .none (Kn.ex_append fh32 (.cons (.tmp rfl) (.cons (.tmp rfl) .nil))) hrun fun fa33 fh33 => ?_;clear fh32 fa32;clear hrun;refine Kn.pure fh33 rfl rfl .none (Kn.ex_assign fh33 (.tmp rfl)) fun fa34 fh34 => ?_;clear fh33 fa33;refine wpList_nil ?_;refine hK21 _ _ ?_;clear hK21 K21;replace fh34 := fh34.cut (.cons (t := 10) rfl (.cons (t := 11) rfl (.cons (t := 9) rfl (.cons (t := 7) rfl (.cons (t := 1) rfl (.cons (t := 2) rfl .nil))))));refine wp_region_lit ?_;refine Kn.pure fh34 rfl rfl .none (Kn.ex_move fh34 (.tmp rfl)) fun fa35 fh35 => ?_;clear fh34 fa34;refine Kn.step fh35 rfl rfl .none (Kn.ex_bin fh35 (.tmp rfl) .const) fun Ko hKo => ?_;go_simp;(try go_bits);try rw [aq]
    refine hKo _ _ fun fa36 fh36 => ?_;clear hKo Ko fh35 fa35;refine Kn.pure fh36 rfl rfl .none (Kn.ex_assign fh36 (.tmp rfl)) fun fa37 fh37 => ?_;clear fh36 fa36;refine wpList_nil ?_;refine Kn.block_normal ?_;refine hK20 _ _ ?_;clear hK20 K20;replace fh37 := fh37.cut (.cons (t := 9) rfl (.cons (t := 10) rfl (.cons (t := 11) rfl (.cons (t := 7) rfl (.cons (t := 1) rfl (.cons (t := 2) rfl .nil))))));clear ax aq;refine wp_region_lit ?_;refine Kn.pure fh37 rfl rfl .none (Kn.ex_move fh37 (.tmp rfl)) fun fa38 fh38 => ?_;clear fh37 fa37;refine Kn.step fh38 rfl rfl .none (Kn.ex_bin fh38 (.tmp rfl) .const) fun Ko hKo => ?_;go_simp;(try go_bits);refine hKo _ _ fun fa39 fh39 => ?_;clear hKo Ko fh38 fa38;refine Kn.pure fh39 rfl rfl .none (Kn.ex_assign fh39 (.tmp rfl)) fun fa40 fh40 => ?_;clear fh39 fa39;refine wpList_nil ?_;replace fh40 := fh40.cut (.cons (t := 11) rfl (.cons (t := 9) rfl (.cons (t := 10) rfl (.cons (t := 7) rfl (.cons (t := 1) rfl (.cons (t := 2) rfl .nil))))));exact hKl17 (m17 - 1) _ _ (by omega) ⟨i + 1, q', gn, capn, fh40.cut (.turn (t := 11) rfl (by go_num) (.cons (t := 9) rfl (.turn (t := 10) rfl (by rw [Nat.add_comm]) (.cons (t := 7) rfl (.cons (t := 1) rfl (.cons (t := 2) rfl .nil)))))), by omega, hq'b, HQ2, hgn, HOn, HO2, HBn⟩
  obtain rfl : i = 8 := by omega
  have HTL := Lib.hid (tailL_len q8 8 (by omega));refine wp_seq_k fun K18 hK18 => ?_;refine wp_seq_k fun K19 hK19 => ?_;refine wp_region_lit ?_;refine Kn.pure fh26 rfl rfl .none (Kn.ex_move fh26 (.tmp rfl)) fun fa27 fh27 => ?_;clear fh26 fa26;have qd : decide (((8 : Nat) : Int) < 8) = false := decide_eq_false (by omega);refine Kn.step fh27 rfl rfl .none (Kn.ex_bin fh27 (.tmp rfl) .const) fun Ko hKo => ?_;go_simp;(try go_bits);refine hKo _ _ fun fa28 fh28 => ?_;clear hKo Ko fh27 fa27;clear qd;refine wpList_nil ?_;refine hK19 _ _ ?_;clear hK19 K19;replace fh28 := fh28.cut (.cons (t := 61) rfl (.cons (t := 11) rfl (.cons (t := 9) rfl (.cons (t := 10) rfl (.cons (t := 7) rfl (.cons (t := 1) rfl (.cons (t := 2) rfl .nil)))))));refine Kn.no fh28 (.tmp rfl) ?_;replace fh28 := fh28.cut (.cons (t := 11) rfl (.cons (t := 9) rfl (.cons (t := 10) rfl (.cons (t := 7) rfl (.cons (t := 1) rfl (.cons (t := 2) rfl .nil))))));refine wp_exit ?_;refine Kn.then_exit ?_;clear hK18 K18;refine Kn.then_exit ?_;clear hKl17 Kl17;refine Kn.block_exit ?_;refine hK15 _ _ ?_;clear hK15 K15;replace fh28 := fh28.cut (.cons (t := 10) rfl (.cons (t := 7) rfl (.cons (t := 1) rfl (.cons (t := 2) rfl .nil))));clear hi hi8;obtain ⟨g2, cap2, v2, hrun, hown, hbel, hkep⟩ := pushM w v 25 g cap L 8 capt gt 0 l (tailL q8 8) HO.out HLl.out HTL.out.symm (by omega) HOt.out.news HB.out (by omega);have HB2 := Lib.hid hbel;obtain ⟨PL, hPL⟩ : ∃ PL, T ++ ending k = PL := ⟨_, rfl⟩;obtain ⟨M, hM⟩ : ∃ M, (L + 8) / 64 = M := ⟨_, rfl⟩;have HLM : Hid (L + 8 = 64 * M) := Lib.hid (by have := HL.out; have := HZ.out; omega)
  have e1 : nb PL = l ++ tailL q8 8 := by
    rw [← hPL, ← Hl.out, ← hq8, tailL_all, ending, HZ.out];simp [nb]
  have HBL : Hid (OwnI v2 w.heap.size g2 cap2 (nb PL)) := Lib.hid (by rw [e1]; exact hown);have HPn : Hid ((nb PL).length = L + 8) := Lib.hid (by rw [e1, List.length_append, ← HLl.out, HTL.out]);have HPl : Hid (PL.length = 64 * M) := Lib.hid (by rw [← HLM.out, ← HPn.out, nb, List.length_map]);have HPL := Lib.hid hPL;clear hown hbel hkep hPL hM e1 HOt HO HB HLl Hl HQ hq HZ;refine wp_seq_k fun K20 hK20 => ?_;refine wp_region_lit ?_;refine Kn.pure fh28 rfl rfl .none (Kn.ex_move fh28 (.tmp rfl)) fun fa29 fh29 => ?_;clear fh28 fa28;refine Kn.pure fh29 rfl rfl .none (Kn.ex_move fh29 (.tmp rfl)) fun fa30 fh30 => ?_;clear fh29 fa29;refine Kn.known fh30 rfl rfl .none (Kn.ex_append fh30 (.cons (.tmp rfl) (.cons (.tmp rfl) .nil))) hrun fun fa31 fh31 => ?_;clear fh30 fa30;clear hrun;refine Kn.pure fh31 rfl rfl .none (Kn.ex_assign fh31 (.tmp rfl)) fun fa32 fh32 => ?_;clear fh31 fa31;refine wpList_nil ?_;refine hK20 _ _ ?_;clear hK20 K20;replace fh32 := fh32.cut (.cons (t := 7) rfl (.cons (t := 1) rfl (.cons (t := 2) rfl .nil)));have HNh := Lib.hid (NIn.below HH.out HB2.out);obtain ⟨gh, caph, v3, hrun, hown, hbel, hkep⟩ := pushM w (v2.alloc (.cells #[] 3)) 25 v2.heap.size 0 0 8 ch bh oh [] hh (OwnI.new v2 _ HB2.out.size) rfl rfl (by omega) (NIn.news (HNh.out.below ((Below.refl _ _).alloc (Nat.le_refl _) _))) (HB2.out.alloc HB2.out.size _) (by omega);have HB3 := Lib.hid hbel;have hg2l := HBL.out.lt';have HBL3 := Lib.hid (hkep.own (Nat.ne_of_lt hg2l) (HBL.out.alloc _));have HOh : Hid (OwnI v3 w.heap.size gh caph (blocks PL 0)) := Lib.hid hown
  have hgh : gh ≠ g2 := by
    rcases hkep.at' with e | e
    · omega
    · simp at e; omega
  clear hown hbel hkep HBL HNh HB2;obtain ⟨n2, hn2⟩ : ∃ n, L + 8 = n := ⟨_, rfl⟩;have HN2 := Lib.hid hn2;have hn2b : n2 ≤ 548 := by omega
  rw [hn2] at HPn HLM;replace fh32 := fh32.cut (.turn (t := 7) rfl (by rw [hn2]) (.cons (t := 1) rfl (.cons (t := 2) rfl .nil)));clear hn2;refine wp_seq_k fun K21 hK21 => ?_;refine wp_region_lit ?_;refine Kn.step fh32 rfl rfl .none (Kn.ex_buildSlice fh32 .nil) fun Ko hKo => ?_;go_simp;(try go_bits);refine hKo _ _ fun fa33 fh33 => ?_;clear hKo Ko fh32 fa32;refine Kn.pure fh33 rfl rfl .none (Kn.ex_move fh33 (.tmp rfl)) fun fa34 fh34 => ?_;clear fh33 fa33;refine Kn.known fh34 rfl rfl .none (Kn.ex_append fh34 (.cons (.tmp rfl) (.cons (.tmp rfl) .nil))) hrun fun fa35 fh35 => ?_;clear fh34 fa34;clear hrun;refine Kn.pure fh35 rfl rfl .none (Kn.ex_assign fh35 (.tmp rfl)) fun fa36 fh36 => ?_;clear fh35 fa35;refine wpList_nil ?_;refine hK21 _ _ ?_;clear hK21 K21;replace fh36 := fh36.cut (.cons (t := 12) rfl (.cons (t := 7) rfl (.cons (t := 1) rfl .nil)));refine wp_seq_k fun K22 hK22 => ?_;refine wp_seq_k fun K23 hK23 => ?_;refine wp_region_lit ?_;refine Kn.pure fh36 rfl rfl .none (Kn.ex_assign fh36 .const) fun fa37 fh37 => ?_;clear fh36 fa36;refine wpList_nil ?_;refine hK23 _ _ ?_;clear hK23 K23;refine wp_block ?_;refine Kn.loop (fun m fr v => ∃ (p A : Nat), Kn.Kn 354 [(13, .int .i64 (A : Int)), (12, .slice (some ⟨gh, 0, none⟩) 8 caph), (7, .slice (some ⟨g2, 0, none⟩) n2 cap2), (1, .slice (some ⟨bk, ok, none⟩) 64 ck)] fr ∧ p + m = M ∧ Hid (A = 64 * p) ∧ A ≤ n2 ∧ Hid (OwnI v w.heap.size gh caph (blocks PL p)) ∧ Hid (OwnI v w.heap.size g2 cap2 (nb PL)) ∧ Hid (Below w.heap.size w v)) M ⟨0, 0, fh37.cut (.cons (t := 13) rfl (.cons (t := 12) rfl (.cons (t := 7) rfl (.cons (t := 1) rfl .nil)))), by omega, Lib.hid rfl, by omega, HOh, HBL3, HB3⟩ ?_;clear fh37 fa37;intro m24 fa38 v hI Kl24 hKl24;obtain ⟨p, A, fh38, hp, HA, hAn, HOh, HBL, HB⟩ := hI
  by_cases hpM : p < M
  · have hAL : A + 64 ≤ n2 := by have := HA.out; have := HLM.out; omega
    refine wp_seq_k fun K25 hK25 => ?_;refine wp_seq_k fun K26 hK26 => ?_;refine wp_region_lit ?_;refine Kn.pure fh38 rfl rfl .none (Kn.ex_move fh38 (.tmp rfl)) fun fa39 fh39 => ?_;clear fh38 fa38;refine Kn.pure fh39 rfl rfl .none (Kn.ex_move fh39 (.tmp rfl)) fun fa40 fh40 => ?_;clear fh39 fa39;refine Kn.step fh40 rfl rfl .none (Kn.ex_len fh40 (.tmp rfl)) fun Ko hKo => ?_;go_simp;(try go_bits);refine hKo _ _ fun fa41 fh41 => ?_;clear hKo Ko fh40 fa40;have qd : decide ((A : Int) < (n2 : Int)) = true := decide_eq_true (by omega);have qd2 : decide (A < n2) = true := decide_eq_true (by omega);refine Kn.step fh41 rfl rfl .none (Kn.ex_bin fh41 (.tmp rfl) (.tmp rfl)) fun Ko hKo => ?_;go_simp;(try go_bits);refine hKo _ _ fun fa42 fh42 => ?_;clear hKo Ko fh41 fa41;clear qd qd2;refine wpList_nil ?_;refine hK26 _ _ ?_;clear hK26 K26;replace fh42 := fh42.cut (.cons (t := 80) rfl (.cons (t := 13) rfl (.cons (t := 12) rfl (.cons (t := 7) rfl (.cons (t := 1) rfl .nil)))));refine Kn.yes fh42 (.tmp rfl) ?_;refine wp_skip ?_;refine hK25 _ _ ?_;clear hK25 K25;replace fh42 := fh42.cut (.cons (t := 13) rfl (.cons (t := 12) rfl (.cons (t := 7) rfl (.cons (t := 1) rfl .nil))));refine wp_seq_k fun K27 hK27 => ?_;refine wp_block ?_;obtain ⟨r, hr⟩ : ∃ r, (PL.drop (64 * p)).take 64 = r := ⟨_, rfl⟩;obtain ⟨Hm, hHm⟩ : ∃ h, blocks PL p = h := ⟨_, rfl⟩;rw [hHm] at HOh;have HNext : Hid (blocks PL (p + 1) = comp Hm r) := Lib.hid (by rw [blocks, hHm, hr]);have HHl : Hid (Hm.length = 8) := Lib.hid (by rw [← hHm]; exact blocks_len _ _);have HHb : Hid (∀ i, wd Hm i < 4294967296) := Lib.hid (by rw [← hHm]; exact blocks_lt _ _);have HBt : Hid (∀ j, j < 64 → wd (nb PL) (A + j) = bt r j) := Lib.hid (fun j hj => by rw [wd_nb, HA.out, ← hr, bt_piece _ _ _ hj]);obtain ⟨Ws, hW⟩ : ∃ W, sched r = W := ⟨_, rfl⟩;have HWl : Hid (Ws.length = 64) := Lib.hid (by rw [← hW]; exact spB_len _ _);have HWb : Hid (∀ i, wd Ws i < 4294967296) := Lib.hid (by rw [← hW]; exact spB_lt _ _);have HWlo : Hid (∀ i, i < 16 → wd Ws i = be4 r i) := Lib.hid (by rw [← hW]; exact sched_lo r);have HWhi : Hid (∀ i, 16 ≤ i → i < 64 → wd Ws i = nextW Ws i) := Lib.hid (by rw [← hW]; exact sched_hi r);have HWd := Lib.hid hW;have HCb : Hid (∀ k i, wd (rnds (v8 Hm) Ws k).list i < 4294967296) := Lib.hid (fun k i => ok_list (rnds_ok _ _ (v8_ok _ HHb.out) k) i);clear hr hHm hW;have HS0 := Lib.hid (ws_start HB.out HOh.out HBL.out hgh);clear HB HOh HBL;refine wp_seq_k fun K28 hK28 => ?_;refine wp_region_lit ?_;refine Kn.step fh42 rfl rfl .none (Kn.ex_buildSlice fh42 .nil) fun Ko hKo => ?_;go_simp;(try go_bits);refine hKo _ _ fun fa43 fh43 => ?_;clear hKo Ko fh42 fa42;refine Kn.pure fh43 rfl rfl .none (Kn.ex_assign fh43 (.tmp rfl)) fun fa44 fh44 => ?_;clear fh43 fa43;refine wpList_nil ?_;refine hK28 _ _ ?_;clear hK28 K28;replace fh44 := fh44.cut (.cons (t := 14) rfl (.cons (t := 13) rfl (.cons (t := 12) rfl (.cons (t := 7) rfl (.cons (t := 1) rfl .nil)))));refine wp_seq_k fun K29 hK29 => ?_;refine wp_seq_k fun K30 hK30 => ?_;refine wp_region_lit ?_;refine Kn.pure fh44 rfl rfl .none (Kn.ex_assign fh44 .const) fun fa45 fh45 => ?_;clear fh44 fa44;refine wpList_nil ?_;refine hK30 _ _ ?_;clear hK30 K30;refine lp5 w _ _ _ _ A n2 g2 cap2 gh caph _ _ r Hm (nb PL) Ws _ (Kn.PI.then (Kn.PI.block (Kn.PI.then (Kn.PI.then (Kn.PI.block (Kn.PI.then Kn.PI.body)))))) (fh45.cut (.cons (t := 15) rfl (.cons (t := 14) rfl (.cons (t := 13) rfl (.cons (t := 12) rfl (.cons (t := 7) rfl (.cons (t := 1) rfl .nil))))))) hAL (by omega) HPn HWl HWlo HBt HS0.out fun fa46 u1 gw capw fh46 hS1 => ?_;clear HS0 HBt fh45 fa45;refine hK29 _ _ ?_;clear hK29 K29;refine wp_seq_k fun K31 hK31 => ?_;refine wp_seq_k fun K32 hK32 => ?_;refine wp_region_lit ?_;refine Kn.pure fh46 rfl rfl .none (Kn.ex_assign fh46 .const) fun fa47 fh47 => ?_;clear fh46 fa46;refine wpList_nil ?_;refine hK32 _ _ ?_;clear hK32 K32;refine lp6 w _ _ _ _ A n2 g2 cap2 gh caph _ _ Hm (nb PL) Ws _ (Kn.PI.then (Kn.PI.block (Kn.PI.then (Kn.PI.then (Kn.PI.block (Kn.PI.then Kn.PI.body)))))) (fh47.cut (.cons (t := 16) rfl (.cons (t := 14) rfl (.cons (t := 13) rfl (.cons (t := 12) rfl (.cons (t := 7) rfl (.cons (t := 1) rfl .nil))))))) HWl HWb HWhi hS1 fun fa48 u2 gw capw fh48 hS2 => ?_;clear hS1 fh47 fa47;refine hK31 _ _ ?_;clear hK31 K31;obtain ⟨gv, cv, u3, hrun, hown, hbel, hkep⟩ := pushM w (u2.alloc (.cells #[] 3)) 25 u2.heap.size 0 0 8 caph gh 0 [] Hm (OwnI.new u2 _ hS2.old.size) rfl HHl.out.symm (by omega) ((hS2.oh.alloc _).news) (hS2.old.alloc hS2.old.size _) (by omega);have hS3 := Lib.hid (ws_kept hS2 hkep hbel);have HV3 : Hid (RN u3 gv (v8 Hm).list) := Lib.hid (by rw [v8_list Hm HHl.out]; exact hown.rn)
    have hgvh : gv ≠ gh := by
      have := hS2.oh.lt';rcases hkep.at' with e | e
      · omega
      · simp at e; omega
    clear hown hbel hkep hS2;refine wp_seq_k fun K33 hK33 => ?_;refine wp_region_lit ?_;refine Kn.step fh48 rfl rfl .none (Kn.ex_buildSlice fh48 .nil) fun Ko hKo => ?_;go_simp;(try go_bits);refine hKo _ _ fun fa49 fh49 => ?_;clear hKo Ko fh48 fa48;refine Kn.pure fh49 rfl rfl .none (Kn.ex_move fh49 (.tmp rfl)) fun fa50 fh50 => ?_;clear fh49 fa49;refine Kn.known fh50 rfl rfl .none (Kn.ex_append fh50 (.cons (.tmp rfl) (.cons (.tmp rfl) .nil))) hrun fun fa51 fh51 => ?_;clear fh50 fa50;clear hrun;refine Kn.pure fh51 rfl rfl .none (Kn.ex_assign fh51 (.tmp rfl)) fun fa52 fh52 => ?_;clear fh51 fa51;refine wpList_nil ?_;refine hK33 _ _ ?_;clear hK33 K33;replace fh52 := fh52.cut (.cons (t := 21) rfl (.cons (t := 14) rfl (.cons (t := 13) rfl (.cons (t := 12) rfl (.cons (t := 7) rfl (.cons (t := 1) rfl .nil))))));refine wp_seq_k fun K34 hK34 => ?_;refine wp_seq_k fun K35 hK35 => ?_;refine wp_region_lit ?_;refine Kn.pure fh52 rfl rfl .none (Kn.ex_assign fh52 .const) fun fa53 fh53 => ?_;clear fh52 fa52;refine wpList_nil ?_;refine hK35 _ _ ?_;clear hK35 K35;refine lp7 w _ _ _ A n2 g2 cap2 gh caph gw capw gv cv bk ok ck Hm (nb PL) Ws (v8 Hm) _ (fh53.cut (.cons (t := 22) rfl (.cons (t := 21) rfl (.cons (t := 14) rfl (.cons (t := 13) rfl (.cons (t := 12) rfl (.cons (t := 7) rfl (.cons (t := 1) rfl .nil)))))))) HWl HWb HCb HK hS3.out HV3.out hgvh fun fa54 u4 gv cv fh54 hS4 hV4 hgv4 => ?_;clear hS3 HV3 fh53 fa53;refine hK34 _ _ ?_;clear hK34 K34;replace fh54 := fh54.cut (.cons (t := 21) rfl (.cons (t := 13) rfl (.cons (t := 12) rfl (.cons (t := 7) rfl (.cons (t := 1) rfl .nil)))));refine wp_seq_k fun K36 hK36 => ?_;refine wp_region_lit ?_;refine Kn.pure fh54 rfl rfl .none (Kn.ex_assign fh54 .const) fun fa55 fh55 => ?_;clear fh54 fa54;refine wpList_nil ?_;refine hK36 _ _ ?_;clear hK36 K36;refine lp8 w _ _ _ A n2 g2 cap2 gh caph gv cv Hm (nb PL) (rnds (v8 Hm) Ws 64) _ (fh55.cut (.cons (t := 29) rfl (.cons (t := 21) rfl (.cons (t := 13) rfl (.cons (t := 12) rfl (.cons (t := 7) rfl (.cons (t := 1) rfl .nil))))))) HHl HHb (Lib.hid (HCb.out 64)) hgv4 hgh hS4.oh hS4.ob hS4.old hV4 fun fa56 u5 fh56 hO5 hB5 hL5' => ?_;clear hS4 hV4 fh55 fa55;refine Kn.block_normal ?_;refine hK27 _ _ ?_;clear hK27 K27;have HO5 := Lib.hid hO5;have HB5 := Lib.hid hB5;have HL5 := Lib.hid hL5';clear hO5 hB5 hL5';refine wp_region_lit ?_;refine Kn.pure fh56 rfl rfl .none (Kn.ex_move fh56 (.tmp rfl)) fun fa57 fh57 => ?_;clear fh56 fa56;refine Kn.step fh57 rfl rfl .none (Kn.ex_bin fh57 (.tmp rfl) .const) fun Ko hKo => ?_;go_simp;(try go_bits);refine hKo _ _ fun fa58 fh58 => ?_;clear hKo Ko fh57 fa57;refine Kn.pure fh58 rfl rfl .none (Kn.ex_assign fh58 (.tmp rfl)) fun fa59 fh59 => ?_;clear fh58 fa58;refine wpList_nil ?_;replace fh59 := fh59.cut (.cons (t := 13) rfl (.cons (t := 12) rfl (.cons (t := 7) rfl (.cons (t := 1) rfl .nil))));exact hKl24 (m24 - 1) _ _ (by omega) ⟨p + 1, A + 64, fh59.cut (.turn (t := 13) rfl (by go_num) (.cons (t := 12) rfl (.cons (t := 7) rfl (.cons (t := 1) rfl .nil)))), by omega, Lib.hid (by rw [HA.out]; omega), by omega, Lib.hid (by rw [HNext.out, comp, HWd.out]; exact HO5.out), HB5, HL5⟩
  obtain rfl : p = M := by omega
  have hAe : A = n2 := by have := HA.out; have := HLM.out; omega
  refine wp_seq_k fun K25 hK25 => ?_;refine wp_seq_k fun K26 hK26 => ?_;refine wp_region_lit ?_;refine Kn.pure fh38 rfl rfl .none (Kn.ex_move fh38 (.tmp rfl)) fun fa39 fh39 => ?_;clear fh38 fa38;refine Kn.pure fh39 rfl rfl .none (Kn.ex_move fh39 (.tmp rfl)) fun fa40 fh40 => ?_;clear fh39 fa39;refine Kn.step fh40 rfl rfl .none (Kn.ex_len fh40 (.tmp rfl)) fun Ko hKo => ?_;go_simp;(try go_bits);refine hKo _ _ fun fa41 fh41 => ?_;clear hKo Ko fh40 fa40;have qd : decide ((A : Int) < (n2 : Int)) = false := decide_eq_false (by omega);have qd2 : decide (A < n2) = false := decide_eq_false (by omega);refine Kn.step fh41 rfl rfl .none (Kn.ex_bin fh41 (.tmp rfl) (.tmp rfl)) fun Ko hKo => ?_;go_simp;(try go_bits);refine hKo _ _ fun fa42 fh42 => ?_;clear hKo Ko fh41 fa41;clear qd qd2;refine wpList_nil ?_;refine hK26 _ _ ?_;clear hK26 K26;replace fh42 := fh42.cut (.cons (t := 80) rfl (.cons (t := 13) rfl (.cons (t := 12) rfl (.cons (t := 7) rfl (.cons (t := 1) rfl .nil)))));refine Kn.no fh42 (.tmp rfl) ?_;replace fh42 := fh42.cut (.cons (t := 13) rfl (.cons (t := 12) rfl (.cons (t := 7) rfl (.cons (t := 1) rfl .nil))));refine wp_exit ?_;refine Kn.then_exit ?_;clear hK25 K25;refine Kn.then_exit ?_;clear hKl24 Kl24;refine Kn.block_exit ?_;refine hK22 _ _ ?_;clear hK22 K22;replace fh42 := fh42.cut (.cons (t := 12) rfl .nil);have HB9 := Lib.hid HB.out;have HO9 := Lib.hid HOh.out;refine wp_seq_k fun K27 hK27 => ?_;refine wp_region_lit ?_;refine Kn.pure fh42 rfl rfl .none (Kn.ex_assign fh42 .const) fun fa43 fh43 => ?_;clear fh42 fa42;refine wpList_nil ?_;refine hK27 _ _ ?_;clear hK27 K27;refine wp_seq_k fun K28 hK28 => ?_;refine wp_seq_k fun K29 hK29 => ?_;refine wp_region_lit ?_;refine Kn.pure fh43 rfl rfl .none (Kn.ex_assign fh43 .const) fun fa44 fh44 => ?_;clear fh43 fa43;refine wpList_nil ?_;refine hK29 _ _ ?_;clear hK29 K29;refine lp9 w _ _ gh caph (blocks PL p) _ (Kn.PI.then Kn.PI.body) (fh44.cut (.cons (t := 31) rfl (.cons (t := 30) rfl (.cons (t := 12) rfl .nil)))) (Lib.hid (blocks_len _ _)) (Lib.hid (blocks_lt _ _)) HO9.out HB9.out fun fa45 u9 S fh45 hD9 hB9 => ?_;clear fh44 fa44;refine hK28 _ _ ?_;clear hK28 K28;refine wp_seq_k fun K30 hK30 => ?_;refine wp_region_lit ?_;refine Kn.pure fh45 rfl rfl .none (Kn.ex_move fh45 (.tmp rfl)) fun fa46 fh46 => ?_;clear fh45 fa45;refine Kn.pure fh46 rfl rfl .none (Kn.ex_assign fh46 (.tmp rfl)) fun fa47 fh47 => ?_;clear fh46 fa46;refine wpList_nil ?_;refine hK30 _ _ ?_;clear hK30 K30;replace fh47 := fh47.cut (.cons (t := 6) rfl .nil);refine wp_ret ?_;refine Kn.ret1 fh47 rfl rfl ⟨?_, hB9⟩
  congr 2
  unfold digB dig;rw [HTn.out, HPL.out, HPl.out, Nat.mul_div_cancel_left p (by omega), ← hD9]
end Go.Proofs.YtcamanopfhbchaaDoor.Sha
end
section
namespace Go.Proofs.YtcamanopfhbchaaDoor.Mrk
open Go Go.RowKit Go.Lib
def sm (x : ByteArray) : ByteArray := Sha.digB x.data.toList
theorem sm_size (x : ByteArray) : (sm x).size = 32 := Sha.digB_size _
def hfL (k n : Nat) : Nat := if 0 < k ∧ 2 * k < n then hfL (2 * k) n else k
termination_by n - k
def hf (n : Nat) : Nat := hfL 1 n
theorem hfL_step {k n : Nat} (h0 : 0 < k) (h : 2 * k < n) : hfL k n = hfL (2 * k) n := by rw [hfL, if_pos ⟨h0, h⟩]
theorem hfL_end {k n : Nat} (h : ¬ 2 * k < n) : hfL k n = k := by rw [hfL, if_neg (fun q => h q.2)]
theorem hfL_in (n : Nat) : ∀ (d k : Nat), n - k ≤ d → 0 < k → k < n → k ≤ hfL k n ∧ hfL k n < n ∧ n ≤ 2 * hfL k n := by
  intro d
  induction d with
  | zero => intro k h h0 h1; omega
  | succ d ih =>
    intro k h h0 h1
    by_cases h2 : 2 * k < n
    · rw [hfL_step h0 h2];have := ih (2 * k) (by omega) (by omega) h2;omega
    · rw [hfL_end h2];omega
theorem hf_in {n : Nat} (h : 2 ≤ n) : 1 ≤ hf n ∧ hf n < n ∧ n ≤ 2 * hf n := hfL_in n (n - 1) 1 (Nat.le_refl _) (by omega) (by omega)
abbrev Pr := ByteArray × ByteArray
def c0 : ByteArray := ⟨#[0]⟩
def c1 : ByteArray := ⟨#[1]⟩
def c2 : ByteArray := ⟨#[2]⟩
def pr (x : ByteArray) : Pr := (x, sm x)
def rootP (bl : List ByteArray) : ByteArray × List Pr :=
  if h0 : bl.length = 0 then (sm c2, [pr c2])
  else if h1 : bl.length = 1 then (sm (c0 ++ bl[0]), [pr (c0 ++ bl[0])])
  else
    have hk := hf_in (n := bl.length) (by omega);have : (bl.take (hf bl.length)).length < bl.length := by rw [List.length_take]; omega
    have : (bl.drop (hf bl.length)).length < bl.length := by rw [List.length_drop]; omega
    (sm (c1 ++ (rootP (bl.take (hf bl.length))).1 ++ (rootP (bl.drop (hf bl.length))).1),
      (rootP (bl.take (hf bl.length))).2 ++ (rootP (bl.drop (hf bl.length))).2 ++ [pr (c1 ++ (rootP (bl.take (hf bl.length))).1 ++ (rootP (bl.drop (hf bl.length))).1)])
termination_by bl.length
theorem rootP_0 {bl : List ByteArray} (h : bl.length = 0) : rootP bl = (sm c2, [pr c2]) := by rw [rootP, dif_pos h]
theorem rootP_1 (b : ByteArray) : rootP [b] = (sm (c0 ++ b), [pr (c0 ++ b)]) := by rw [rootP, dif_neg (by simp), dif_pos (show [b].length = 1 from rfl)]; rfl
theorem rootP_2 {bl : List ByteArray} (h : 2 ≤ bl.length) : rootP bl = (sm (c1 ++ (rootP (bl.take (hf bl.length))).1 ++ (rootP (bl.drop (hf bl.length))).1),
      (rootP (bl.take (hf bl.length))).2 ++ (rootP (bl.drop (hf bl.length))).2 ++ [pr (c1 ++ (rootP (bl.take (hf bl.length))).1 ++ (rootP (bl.drop (hf bl.length))).1)]) := by
  rw [rootP, dif_neg (by omega), dif_neg (by omega)]
theorem rootP_size (bl : List ByteArray) : (rootP bl).1.size = 32 := by
  rcases Nat.lt_or_ge bl.length 2 with h | h
  · rcases Nat.lt_or_ge bl.length 1 with h0 | h0
    · rw [rootP_0 (by omega)]; exact sm_size _
    · match bl, h, h0 with
      | [b], _, _ => rw [rootP_1]; exact sm_size _
  · rw [rootP_2 h]; exact sm_size _
theorem rootP_pairs : ∀ (d : Nat) (bl : List ByteArray), bl.length ≤ d → 1 ≤ (rootP bl).2.length ∧ (rootP bl).2.length ≤ 2 * bl.length + 1 ∧ (1 ≤ bl.length → (rootP bl).2.length + 1 ≤ 2 * bl.length) := by
  intro d
  induction d with
  | zero => intro bl h; rw [rootP_0 (by omega)]; simp; omega
  | succ d ih =>
    intro bl h;rcases Nat.lt_or_ge bl.length 2 with h2 | h2
    · rcases Nat.lt_or_ge bl.length 1 with h0 | h0
      · rw [rootP_0 (by omega)]; simp; omega
      · match bl, h2, h0 with
        | [b], _, _ => rw [rootP_1]; simp
    · have hk := hf_in h2;have e1 : (bl.take (hf bl.length)).length = hf bl.length := by rw [List.length_take]; omega
      have e2 : (bl.drop (hf bl.length)).length = bl.length - hf bl.length := by rw [List.length_drop]
      obtain ⟨a1, a2, a3⟩ := ih (bl.take (hf bl.length)) (by omega);obtain ⟨b1, b2, b3⟩ := ih (bl.drop (hf bl.length)) (by omega);rw [rootP_2 h2];simp only [List.length_append, List.length_singleton];rw [e1] at a3;rw [e2] at b3;have := a3 (by omega);have := b3 (by omega);omega
def proofF (i : Nat) (bl : List ByteArray) : List ByteArray :=
  if h : bl.length < 2 then []
  else
    have hk := hf_in (n := bl.length) (by omega);have : (bl.take (hf bl.length)).length < bl.length := by rw [List.length_take]; omega
    have : (bl.drop (hf bl.length)).length < bl.length := by rw [List.length_drop]; omega
    if i < hf bl.length then proofF i (bl.take (hf bl.length)) ++ [(rootP (bl.drop (hf bl.length))).1]
    else proofF (i - hf bl.length) (bl.drop (hf bl.length)) ++ [(rootP (bl.take (hf bl.length))).1]
termination_by bl.length
theorem proofF_0 {i : Nat} {bl : List ByteArray} (h : bl.length < 2) : proofF i bl = [] := by rw [proofF, dif_pos h]
theorem proofF_l {i : Nat} {bl : List ByteArray} (h : 2 ≤ bl.length) (hi : i < hf bl.length) : proofF i bl = proofF i (bl.take (hf bl.length)) ++ [(rootP (bl.drop (hf bl.length))).1] := by rw [proofF, dif_neg (by omega), if_pos hi]
theorem proofF_r {i : Nat} {bl : List ByteArray} (h : 2 ≤ bl.length) (hi : ¬ i < hf bl.length) : proofF i bl = proofF (i - hf bl.length) (bl.drop (hf bl.length)) ++ [(rootP (bl.take (hf bl.length))).1] := by rw [proofF, dif_neg (by omega), if_neg hi]
def stF (i n : Nat) : Nat :=
  if h : n < 2 then 0
  else
    have hk := hf_in (n := n) (by omega)
    if i < hf n then 1 + stF i (hf n) else 1 + stF (i - hf n) (n - hf n)
termination_by n
theorem stF_0 {i n : Nat} (h : n < 2) : stF i n = 0 := by rw [stF, dif_pos h]
theorem stF_l {i n : Nat} (h : 2 ≤ n) (hi : i < hf n) : stF i n = 1 + stF i (hf n) := by rw [stF, dif_neg (by omega), if_pos hi]
theorem stF_r {i n : Nat} (h : 2 ≤ n) (hi : ¬ i < hf n) : stF i n = 1 + stF (i - hf n) (n - hf n) := by rw [stF, dif_neg (by omega), if_neg hi]
theorem stF_le : ∀ (d i n : Nat), n ≤ d → stF i n ≤ n := by
  intro d
  induction d with
  | zero => intro i n h; rw [stF_0 (by omega)]; omega
  | succ d ih =>
    intro i n h;rcases Nat.lt_or_ge n 2 with h2 | h2
    · rw [stF_0 h2]; omega
    · have hk := hf_in h2
      by_cases hi : i < hf n
      · rw [stF_l h2 hi]; have := ih i (hf n) (by omega); omega
      · rw [stF_r h2 hi]; have := ih (i - hf n) (n - hf n) (by omega); omega
theorem proofF_len : ∀ (d i : Nat) (bl : List ByteArray), bl.length ≤ d → (proofF i bl).length = stF i bl.length := by
  intro d
  induction d with
  | zero => intro i bl h; rw [proofF_0 (by omega), stF_0 (by omega)]; rfl
  | succ d ih =>
    intro i bl h;rcases Nat.lt_or_ge bl.length 2 with h2 | h2
    · rw [proofF_0 h2, stF_0 h2]; rfl
    · have hk := hf_in h2;have e1 : (bl.take (hf bl.length)).length = hf bl.length := by rw [List.length_take]; omega
      have e2 : (bl.drop (hf bl.length)).length = bl.length - hf bl.length := by rw [List.length_drop]
      by_cases hi : i < hf bl.length
      · rw [proofF_l h2 hi, stF_l h2 hi, List.length_append, ih i _ (by omega), e1]; simp; omega
      · rw [proofF_r h2 hi, stF_r h2 hi, List.length_append, ih _ _ (by omega), e2]; simp; omega
def upF (i n : Nat) (x : ByteArray) (pf : List ByteArray) : ByteArray × List Pr :=
  if h : n < 2 then (sm x, [pr x])
  else
    have hk := hf_in (n := n) (by omega)
    if i < hf n then
      (let u := upF i (hf n) x pf.dropLast
       let y := c1 ++ u.1 ++ pf.getLastD ByteArray.empty
       (sm y, u.2 ++ [pr y]))
    else
      (let u := upF (i - hf n) (n - hf n) x pf.dropLast
       let y := c1 ++ pf.getLastD ByteArray.empty ++ u.1
       (sm y, u.2 ++ [pr y]))
termination_by n
theorem upF_0 {i n : Nat} {x : ByteArray} {pf : List ByteArray} (h : n < 2) : upF i n x pf = (sm x, [pr x]) := by rw [upF, dif_pos h]
theorem upF_l {i n : Nat} {x : ByteArray} {pf : List ByteArray} (h : 2 ≤ n) (hi : i < hf n) : upF i n x pf = (sm (c1 ++ (upF i (hf n) x pf.dropLast).1 ++ pf.getLastD ByteArray.empty), (upF i (hf n) x pf.dropLast).2 ++ [pr (c1 ++ (upF i (hf n) x pf.dropLast).1 ++ pf.getLastD ByteArray.empty)]) := by rw [upF, dif_neg (by omega), if_pos hi]
theorem upF_r {i n : Nat} {x : ByteArray} {pf : List ByteArray} (h : 2 ≤ n) (hi : ¬ i < hf n) : upF i n x pf = (sm (c1 ++ pf.getLastD ByteArray.empty ++ (upF (i - hf n) (n - hf n) x pf.dropLast).1), (upF (i - hf n) (n - hf n) x pf.dropLast).2 ++ [pr (c1 ++ pf.getLastD ByteArray.empty ++ (upF (i - hf n) (n - hf n) x pf.dropLast).1)]) := by rw [upF, dif_neg (by omega), if_neg hi]
def clash (l : List Pr) : Bool := decide (∃ a ∈ l, ∃ b ∈ l, a.2 = b.2 ∧ a.1 ≠ b.1)
end Go.Proofs.YtcamanopfhbchaaDoor.Mrk
end
section
namespace Go.Proofs.YtcamanopfhbchaaDoor.Mrk
open Go Go.RowKit Go.Lib
theorem noclash {l : List Pr} (h : clash l = false) {x y : ByteArray} (hx : pr x ∈ l) (hy : pr y ∈ l) (e : sm x = sm y) : x = y := by
  have h2 := of_decide_eq_false h;exact Classical.byContradiction fun hn => h2 ⟨pr x, hx, pr y, hy, e, hn⟩
theorem noclash_sub {l m : List Pr} (h : clash l = false) (hs : ∀ p ∈ m, p ∈ l) : clash m = false := by
  have h2 := of_decide_eq_false h;exact decide_eq_false fun ⟨a, ha, b, hb, q⟩ => h2 ⟨a, hs a ha, b, hs b hb, q⟩
theorem app_inj {a b c d : ByteArray} (hs : a.size = c.size) (h : a ++ b = c ++ d) : a = c ∧ b = d := by
  have h2 : a.data.toList ++ b.data.toList = c.data.toList ++ d.data.toList := by
    have := congrArg (fun x : ByteArray => x.data.toList) h
    simpa using this
  have hl : a.data.toList.length = c.data.toList.length := hs;obtain ⟨e1, e2⟩ := List.append_inj h2 hl;exact ⟨ByteArray.ext (Array.ext' e1), ByteArray.ext (Array.ext' e2)⟩
theorem app3_inj {p a b c d : ByteArray} (hs : a.size = c.size) (h : p ++ a ++ b = p ++ c ++ d) : a = c ∧ b = d := by
  have h1 : (p ++ a).size = (p ++ c).size := by rw [ByteArray.size_append, ByteArray.size_append, hs]
  obtain ⟨e1, e2⟩ := app_inj h1 h;exact ⟨(app_inj rfl e1).2, e2⟩
theorem up_size (x : ByteArray) (i n : Nat) (pf : List ByteArray) : (upF i n x pf).1.size = 32 := by
  rcases Nat.lt_or_ge n 2 with h | h
  · rw [upF_0 h]; exact sm_size _
  · by_cases hi : i < hf n
    · rw [upF_l h hi]; exact sm_size _
    · rw [upF_r h hi]; exact sm_size _
theorem last_of {pf : List ByteArray} (h : 1 ≤ pf.length) : pf = pf.dropLast ++ [pf.getLastD ByteArray.empty] := by
  have hne : pf ≠ [] := fun e => by rw [e] at h; simp at h
  rw [List.getLastD_eq_getLast?, List.getLast?_eq_some_getLast hne];exact (List.dropLast_concat_getLast hne).symm
theorem up_root : ∀ (d : Nat) (bl : List ByteArray) (i : Nat) (b : ByteArray), bl.length ≤ d → bl[i]? = some b → (upF i bl.length (c0 ++ b) (proofF i bl)).1 = (rootP bl).1 := by
  intro d
  induction d with
  | zero => intro bl i b h hb; have := (List.getElem?_eq_some_iff.1 hb).1; omega
  | succ d ih =>
    intro bl i b h hb;have hil := (List.getElem?_eq_some_iff.1 hb).1;rcases Nat.lt_or_ge bl.length 2 with h2 | h2
    · match bl, h2, hil, hb with
      | [x], _, hil, hb =>
        have : i = 0 := by simp at hil; exact hil
        subst this;simp at hb;subst hb;rw [upF_0 (by simp), rootP_1]
    · have hk := hf_in h2;have e1 : (bl.take (hf bl.length)).length = hf bl.length := by rw [List.length_take]; omega
      have e2 : (bl.drop (hf bl.length)).length = bl.length - hf bl.length := List.length_drop
      by_cases hi : i < hf bl.length
      · have hb2 : (bl.take (hf bl.length))[i]? = some b := by rw [List.getElem?_take, if_pos hi]; exact hb
        have := ih (bl.take (hf bl.length)) i b (by omega) hb2;rw [e1] at this;rw [upF_l h2 hi, proofF_l h2 hi, List.dropLast_concat, List.getLastD_concat, this, rootP_2 h2]
      · have hb2 : (bl.drop (hf bl.length))[i - hf bl.length]? = some b := by rw [List.getElem?_drop, show hf bl.length + (i - hf bl.length) = i by omega]; exact hb
        have := ih (bl.drop (hf bl.length)) (i - hf bl.length) b (by omega) hb2;rw [e2] at this;rw [upF_r h2 hi, proofF_r h2 hi, List.dropLast_concat, List.getLastD_concat, this, rootP_2 h2]
theorem up_is : ∀ (d : Nat) (bl : List ByteArray) (i : Nat) (b s : ByteArray) (pf : List ByteArray), bl.length ≤ d → bl[i]? = some b → pf.length = stF i bl.length → (∀ p ∈ pf, p.size = 32) →
    (upF i bl.length (c0 ++ s) pf).1 = (rootP bl).1 → clash ((rootP bl).2 ++ (upF i bl.length (c0 ++ s) pf).2) = false → s = b ∧ pf = proofF i bl := by
  intro d
  induction d with
  | zero => intro bl i b s pf h hb; have := (List.getElem?_eq_some_iff.1 hb).1; omega
  | succ d ih =>
    intro bl i b s pf h hb hpl hps he hc;have hil := (List.getElem?_eq_some_iff.1 hb).1;rcases Nat.lt_or_ge bl.length 2 with h2 | h2
    · match bl, h2, hil, hb, hpl, he, hc with
      | [x], _, hil, hb, hpl, he, hc =>
        have : i = 0 := by simp at hil; exact hil
        subst this;simp at hb;subst hb;rw [stF_0 (by simp)] at hpl;rw [upF_0 (by simp), rootP_1] at he hc;have e := noclash hc (x := c0 ++ s) (y := c0 ++ x) (by simp) (by simp) he;exact ⟨(app_inj rfl e).2, by rw [List.eq_nil_of_length_eq_zero hpl, proofF_0 (by simp)]⟩
    · have hk := hf_in h2;have e1 : (bl.take (hf bl.length)).length = hf bl.length := by rw [List.length_take]; omega
      have e2 : (bl.drop (hf bl.length)).length = bl.length - hf bl.length := List.length_drop
      by_cases hi : i < hf bl.length
      · rw [stF_l h2 hi] at hpl;have hlast := last_of (pf := pf) (by omega);rw [upF_l h2 hi, rootP_2 h2] at he hc;simp only at he hc;have e := noclash hc (x := c1 ++ (upF i (hf bl.length) (c0 ++ s) pf.dropLast).1 ++ pf.getLastD ByteArray.empty) (by simp) (by simp) he;obtain ⟨f1, f2⟩ := app3_inj (by rw [up_size, rootP_size]) e;have hb2 : (bl.take (hf bl.length))[i]? = some b := by rw [List.getElem?_take, if_pos hi]; exact hb
        have := ih (bl.take (hf bl.length)) i b s pf.dropLast (by omega) hb2 (by rw [List.length_dropLast, e1]; omega) (fun p hp => hps p (List.dropLast_subset _ hp)) (by rw [e1]; exact f1) (by
          rw [e1];refine noclash_sub hc fun p hp => ?_;simp only [List.mem_append] at hp ⊢;rcases hp with hp | hp
          · exact .inl (.inl (.inl hp))
          · exact .inr (.inl hp))
        refine ⟨this.1, ?_⟩;rw [hlast, this.2, f2, ← proofF_l h2 hi]
      · rw [stF_r h2 hi] at hpl;have hlast := last_of (pf := pf) (by omega);have hlsz : (pf.getLastD ByteArray.empty).size = 32 := hps _ (by rw [hlast]; simp);rw [upF_r h2 hi, rootP_2 h2] at he hc;simp only at he hc;have e := noclash hc (x := c1 ++ pf.getLastD ByteArray.empty ++ (upF (i - hf bl.length) (bl.length - hf bl.length) (c0 ++ s) pf.dropLast).1) (by simp) (by simp) he;obtain ⟨f1, f2⟩ := app3_inj (by rw [hlsz, rootP_size]) e;have hb2 : (bl.drop (hf bl.length))[i - hf bl.length]? = some b := by rw [List.getElem?_drop, show hf bl.length + (i - hf bl.length) = i by omega]; exact hb
        have := ih (bl.drop (hf bl.length)) (i - hf bl.length) b s pf.dropLast (by omega) hb2 (by rw [List.length_dropLast, e2]; omega) (fun p hp => hps p (List.dropLast_subset _ hp)) (by rw [e2]; exact f2) (by
          rw [e2];refine noclash_sub hc fun p hp => ?_;simp only [List.mem_append] at hp ⊢;rcases hp with hp | hp
          · exact .inl (.inl (.inr hp))
          · exact .inr (.inl hp))
        refine ⟨this.1, ?_⟩;rw [hlast, this.2, f1, ← proofF_r h2 hi]
end Go.Proofs.YtcamanopfhbchaaDoor.Mrk
end
section
namespace Go.Proofs.YtcamanopfhbchaaDoor.Own
open Go Go.RowKit Go.Lib
structure Kept (v v' : World) (r : Option Nat) (g' : Nat) : Prop where
  at' : r = some g' ∨ v.heap.size ≤ g'
  lt : g' < v'.heap.size
  size : v.heap.size ≤ v'.heap.size
  grown : v.grownBy v' r
theorem Kept.row {v v' : World} {r : Option Nat} {g' B size n : Nat} {e : TypeId} {d : Value} {xs : List Value} (h : Kept v v' r g') (ho : v.ownsRow B e size d n xs) (hne : d.ownBlock = none ∨ d.ownBlock ≠ r) : v'.ownsRow B e size d n xs := ho.kept h.grown hne
theorem Kept.cell {v v' : World} {r : Option Nat} {g' b o : Nat} (h : Kept v v' r g') (hlt : b < v.heap.size) (hne : some b ≠ r) : v'.cell? ⟨b, o, none⟩ = v.cell? ⟨b, o, none⟩ := h.grown.cell_far ⟨b, o, none⟩ hlt hne
structure Elem (P : Program) (T e : TypeId) (z : Value) (size bytes : Nat) : Prop where
  under : P.underlying T = some (.slice e)
  info : (P.info? e).map (fun i => (i.zero, i.size, i.bytes)) = some (some z, size, bytes)
  cells : z.cells.size = size
  pos : 0 < size
section
variable {P : Program} {T e : TypeId} {z : Value} {size bytes : Nat}
theorem Elem.parts (h : Elem P T e z size bytes) : ∃ i, P.info? e = some i ∧ i.zero = some z ∧ i.size = size ∧ i.bytes = bytes := by
  have hi := h.info
  cases hq : P.info? e with
  | none => rw [hq] at hi; cases hi
  | some i =>
    rw [hq] at hi;simp only [Option.map_some, Option.some.injEq, Prod.mk.injEq] at hi;exact ⟨i, rfl, hi.1, hi.2.1, hi.2.2⟩
theorem append (h : Elem P T e z size bytes) (w0 v : World) (ty : TypeId) (A : Option Addr) (n cap m c : Nat) (xs : List Value) (hO : v.ownsRow w0.heap.size e size (.slice A n cap) n xs)
    (b : Addr) (news : List Value) (hl : news.length = m * size) (hnews : ∀ j u, news[j]? = some u → v.cell? (b.add j) = some u) (h1 : ∀ u ∈ news, u.oneCell' = true) (hp : 0 < n + m) (hmax : n + m ≤ maxLen) (hby : (n + m) * bytes ≤ 140737488355328) (hb : Below w0.heap.size w0 v) :
    ∃ g' cap' v', (Builtin.append_ #[T, T] ty #[.slice A n cap, .slice (some b) m c]).run P v = .ok (.slice (some ⟨g', 0, none⟩) (n + m) cap') v' ∧
      v'.ownsRow w0.heap.size e size (.slice (some ⟨g', 0, none⟩) (n + m) cap') (n + m) (xs ++ news) ∧ Below w0.heap.size w0 v' ∧ Kept v v' (Value.slice A n cap).ownBlock g' := by
  obtain ⟨i, hi, hz0, hz1, hz2⟩ := h.parts;obtain ⟨v1, v', hrun, h3, h4, _, h5⟩ := run_append_own_at (P := P) (w := v) w0.heap.size T ty e i z size bytes h.under hi hz0 hz1 hz2 h.cells h.pos (.slice A n cap) n xs hO b m c news hl hnews h1 hmax hby hb.size;obtain ⟨g', cap', rfl, h6, h7⟩ := h3.form hp;refine ⟨g', cap', v', hrun, h3, hb.grown h4 hb.size (fun k hk => (hO.lt k hk).1), ?_, h7, h4.size, h4⟩;rcases h5 with h | h
  · exact .inl (by rw [← h]; rfl)
  · simp [Value.ownBlock] at h; exact .inr (by omega)
theorem new_row (w : World) (B : Nat) (e : TypeId) (size : Nat) (hB : B ≤ w.heap.size) : (w.alloc (.cells #[] e)).ownsRow B e size (.slice (some ⟨w.heap.size, 0, none⟩) 0 0) 0 [] :=
  ⟨by simp, .inr ⟨w.heap.size, 0, #[], rfl, hB, heap_alloc_new _ _, Nat.le_refl _, Nat.zero_le _, by simp, by simp⟩⟩
theorem row_on {w w' : World} {B size n : Nat} {e : TypeId} {d : Value} {xs : List Value} (h : w.ownsRow B e size d n xs) (hb : Below w.heap.size w w') : w'.ownsRow B e size d n xs := by
  obtain ⟨h1, h2⟩ := h;refine ⟨h1, ?_⟩;rcases h2 with h2 | ⟨g, cap, cur, e1, e2, e3, e4⟩
  · exact .inl h2
  · refine .inr ⟨g, cap, cur, e1, e2, ?_, e4⟩
    rw [hb.block g (by
      rcases Nat.lt_or_ge g w.heap.size with h | h
      · exact h
      · rw [Array.getElem?_eq_none h] at e3; cases e3)]
    exact e3
theorem below_drew {B : Nat} {w w' : World} (h : Below B w w') : Below B w w'.drew := ⟨h.1, h.2, h.3, h.4, h.5⟩
theorem undrew {B : Nat} {w w' : World} (h : Below B w.drew w') : Below B w w' := ⟨h.1, h.2, h.3, h.4, h.5⟩
theorem below_drewN {B : Nat} {w w' : World} (h : Below B w w') (n : Nat) : Below B w (w'.drewN n) := ⟨h.1, h.2, h.3, h.4, h.5⟩
end
end Go.Proofs.YtcamanopfhbchaaDoor.Own
end
section
namespace Go.Proofs.YtcamanopfhbchaaDoor.St
open Go Go.RowKit Go.Lib
def rowD : TypeDesc → Bool
  | .struct _ => true
  | .array _ _ => true
  | _ => false
def St (w : World) (g : Nat) (T : TypeId) (cs : Array Value) : Prop := w.heap[g]? = some (.cells cs T (0, 0))
section
variable {w w' : World} {g : Nat} {T : TypeId} {cs : Array Value}
theorem St.lt (h : St w g T cs) : g < w.heap.size := (Array.getElem?_eq_some_iff.1 h).1
theorem St.on (h : St w g T cs) (hb : Below w.heap.size w w') : St w' g T cs := (hb.block g h.lt).trans h
theorem St.below {B : Nat} (h : St w g T cs) (hb : Below B w w') (hg : g < B) : St w' g T cs := (hb.block g hg).trans h
theorem St.new (w : World) (T : TypeId) (cs : Array Value) : St (w.alloc (.cells cs T)) w.heap.size T cs := heap_alloc_new w _
theorem St.alloc (h : St w g T cs) (o : Obj) : St (w.alloc o) g T cs := ((Below.refl w.heap.size w).alloc (Nat.le_refl _) o |>.block g h.lt).trans h
theorem St.drew (h : St w g T cs) : St w.drew g T cs := h
theorem St.drewN (h : St w g T cs) (n : Nat) : St (w.drewN n) g T cs := h
theorem St.cell (h : St w g T cs) (i : Nat) {v : Value} (hv : cs[i]? = some v) : w.cell? ⟨g, i, none⟩ = some v := (cell_of_row w g i cs T (0, 0) h).trans hv
theorem St.free (h : St w g T cs) (i : Nat) : w.frozen? ⟨g, i, none⟩ = false := frozen_of_row w g i cs T h
theorem St.setRow (h : St w g T cs) {k : Nat} (hk : g ≠ k) (xs : Array Value) : St (w.setRow k xs) g T cs := (setRow_other w k g xs hk).trans h
theorem St.setCell (h : St w g T cs) {a : Addr} (hk : g ≠ a.block) (v : Value) : St (w.setCell a v) g T cs := (heap_setCell_other w a g v hk).trans h
theorem St.put (h : St w g T cs) (i : Nat) (v : Value) : St (w.setCell ⟨g, i, none⟩ v) g T (cs.setIfInBounds i v) := heap_setCell_same w g i cs T v h
theorem St.kept {r : Option Nat} {g' : Nat} (h : St w g T cs) (hk : Own.Kept w w' r g') (hne : some g ≠ r) : St w' g T cs := (hk.grown.block g h.lt hne).trans h
theorem St.store {P : Program} {cells : Array Value} (h : St w g T cs) (hi : (P.info? T).map (·.size) = some cells.size) (ho : cs.size = cells.size) (h1 : cells.all (·.oneCell') = true) :
    (Instr.storeAt T (.pointer (some ⟨g, 0, none⟩)) (.agg cells)).run P w = .ok () (w.setRow g cells) ∧ St (w.setRow g cells) g T cells ∧ ∀ B, B ≤ g → Below B w (w.setRow g cells) := by
  refine ⟨?_, setRow_heap w g cs cells T (0, 0) h, fun B hB => below_setRow (Below.refl B w) hB cells⟩;have hs := run_storeVar_row (P := P) w g T T cs cells h hi ho h1;simp only [Instr.storeAt, Instr.sureAddr, Sem.run_bind, Sem.run_pure, Result.andThen_ok];exact hs
theorem St.load {P : Program} {d : TypeDesc} (h : St w g T cs) (hu : P.underlying T = some d) (hd : rowD d = true) (hi : (P.info? T).map (·.size) = some cs.size) :
    (loadVar T ⟨g, 0, none⟩).run P w = .ok (.agg cs) w := by
  cases d <;> first | exact run_loadVar_row w g T T cs (0, 0) _ h hu rfl hi | cases hd
end
end Go.Proofs.YtcamanopfhbchaaDoor.St
namespace Go.Proofs.YtcamanopfhbchaaDoor.Kn
open Go
section
variable {P : Program} {n : Nat} {l : List (Nat × Value)} {a : Act} {w : World}
theorem retS {fn : Func} {R : Ending → World → Prop} {p : Tmp} {ty : TypeId} {g : Nat} {cs : Array Value} {d : TypeDesc} (h : Kn n l a) (hr : fn.results = #[.cell p ty]) (hp : find l p = some (.pointer (some ⟨g, 0, none⟩))) (hs : St.St w g ty cs) (hu : P.underlying ty = some d) (hd : St.rowD d = true) (hi : (P.info? ty).map (·.size) = some cs.size) (H : R (.returned (.agg cs)) w) : bodyPost P fn R .ret a w := by
  have e1 := h.get p _ hp;simp only [Act.eval] at e1;refine bodyPost_ret (v := .agg cs) ?_ h.defers H;cases d <;> first | exact results_cell_row hr _ w g ty cs (0, 0) _ e1 hs hu rfl hi | cases hd
end
end Go.Proofs.YtcamanopfhbchaaDoor.Kn
end
section
namespace Go.Proofs.YtcamanopfhbchaaDoor.RowG
open Go Go.RowKit Go.Lib
structure Rw (α : Type) where
  enc : α → List Value
  size : Nat
  len : ∀ a, (enc a).length = size
  one : ∀ a u, u ∈ enc a → u.oneCell' = true
variable {α : Type} (R : Rw α)
theorem addr_add (b o j : Nat) : (⟨b, o, none⟩ : Addr).add j = ⟨b, o + j, none⟩ := by unfold Addr.add; split <;> simp_all
def cs (l : List α) : List Value := l.flatMap R.enc
theorem cs_len (l : List α) : (cs R l).length = l.length * R.size := by
  induction l with
  | nil => simp [cs]
  | cons a l ih =>
    unfold cs at ih ⊢;rw [List.flatMap_cons, List.length_append, ih, R.len, List.length_cons, Nat.add_mul];omega
theorem cs_app (l m : List α) : cs R (l ++ m) = cs R l ++ cs R m := List.flatMap_append
theorem cs_one (l : List α) : ∀ u ∈ cs R l, u.oneCell' = true := fun u hu => by
  obtain ⟨a, _, h⟩ := List.mem_flatMap.1 hu;exact R.one a u h
theorem cs_at : ∀ (l : List α) (i j : Nat) (a : α) (u : Value), l[i]? = some a → (R.enc a)[j]? = some u → (cs R l)[i * R.size + j]? = some u
  | [], i, j, a, u, h, _ => by simp at h
  | x :: l, 0, j, a, u, h, hu => by
    simp at h;subst h;have hj := (List.getElem?_eq_some_iff.1 hu).1;unfold cs;rw [List.flatMap_cons, Nat.zero_mul, Nat.zero_add, List.getElem?_append_left hj];exact hu
  | x :: l, i + 1, j, a, u, h, hu => by
    have ih := cs_at l i j a u (by simpa using h) hu;unfold cs at ih ⊢;rw [List.flatMap_cons, List.getElem?_append_right (by rw [R.len, Nat.add_mul]; omega), R.len, show (i + 1) * R.size + j - R.size = i * R.size + j by rw [Nat.add_mul]; omega];exact ih
theorem cs_of (hs : 0 < R.size) : ∀ (l : List α) (k : Nat) (u : Value), (cs R l)[k]? = some u → ∃ a, l[k / R.size]? = some a ∧ (R.enc a)[k % R.size]? = some u
  | [], k, u, h => by simp [cs] at h
  | x :: l, k, u, h => by
    unfold cs at h;rw [List.flatMap_cons] at h;rcases Nat.lt_or_ge k R.size with hk | hk
    · rw [List.getElem?_append_left (by rw [R.len]; exact hk)] at h;rw [Nat.div_eq_of_lt hk, Nat.mod_eq_of_lt hk];exact ⟨x, rfl, h⟩
    · rw [List.getElem?_append_right (by rw [R.len]; exact hk), R.len] at h;obtain ⟨a, h1, h2⟩ := cs_of hs l (k - R.size) u h;have e1 : k / R.size = (k - R.size) / R.size + 1 := by rw [Nat.div_eq_sub_div hs hk]
      have e2 : (k - R.size) % R.size = k % R.size := (Nat.mod_eq_sub_mod hk).symm;exact ⟨a, by rw [e1]; simpa using h1, by rw [← e2]; exact h2⟩
def RIn (w : World) (A : Option Addr) (l : List α) : Prop := ∀ (i : Nat) (a : α), l[i]? = some a → ∃ b o, A = some ⟨b, o, none⟩ ∧ b < w.heap.size ∧ ∀ (j : Nat) (u : Value), (R.enc a)[j]? = some u → w.cell? ⟨b, o + (i * R.size + j), none⟩ = some u
variable {R} {w w' : World} {A : Option Addr} {l : List α}
theorem RIn.nil : RIn R w A [] := fun i a h => by simp at h
theorem RIn.on (h : RIn R w A l) (hb : Below w.heap.size w w') : RIn R w' A l := fun i a hi => by
  obtain ⟨b, o, e, hlt, h1⟩ := h i a hi;exact ⟨b, o, e, Nat.lt_of_lt_of_le hlt hb.size, fun j u hu => (hb.cell (p := ⟨b, o + (i * R.size + j), none⟩) hlt).trans (h1 j u hu)⟩
theorem RIn.drewN (h : RIn R w A l) (n : Nat) : RIn R (w.drewN n) A l := h
theorem RIn.drew (h : RIn R w A l) : RIn R w.drew A l := h
theorem RIn.cell {b o : Nat} (h : RIn R w (some ⟨b, o, none⟩) l) {i j : Nat} {a : α} {u : Value} (hi : l[i]? = some a) (hu : (R.enc a)[j]? = some u) : w.cell? ⟨b, o + (i * R.size + j), none⟩ = some u := by
  obtain ⟨b', o', e, _, h1⟩ := h i a hi;cases e;exact h1 j u hu
theorem RIn.addr (h : RIn R w A l) (hl : 0 < l.length) : ∃ b o, A = some ⟨b, o, none⟩ ∧ b < w.heap.size := by
  obtain ⟨b, o, e, hlt, _⟩ := h 0 l[0] (List.getElem?_eq_getElem hl);exact ⟨b, o, e, hlt⟩
theorem RIn.take (h : RIn R w A l) (k : Nat) : RIn R w A (l.take k) := fun i a hi => h i a (by
  rw [List.getElem?_take] at hi
  split at hi
  · exact hi
  · cases hi)
theorem RIn.drop {b o : Nat} (h : RIn R w (some ⟨b, o, none⟩) l) (k : Nat) : RIn R w (some ⟨b, o + k * R.size, none⟩) (l.drop k) := fun i a hi => by
  rw [List.getElem?_drop] at hi;obtain ⟨b', o', e, hlt, h1⟩ := h (k + i) a hi;cases e;refine ⟨b, _, rfl, hlt, fun j u hu => ?_⟩;have := h1 j u hu;rw [Nat.add_mul] at this;rw [show o + k * R.size + (i * R.size + j) = o + (k * R.size + i * R.size + j) by omega];exact this
theorem RIn.news {b o : Nat} (h : RIn R w (some ⟨b, o, none⟩) l) (hs : 0 < R.size) : ∀ j u, (cs R l)[j]? = some u → w.cell? ((⟨b, o, none⟩ : Addr).add j) = some u := fun j u hu => by
  obtain ⟨a, h1, h2⟩ := cs_of R hs l j u hu;have := h.cell h1 h2;rw [addr_add]
  rwa [Nat.mul_comm, Nat.div_add_mod] at this
def ROwn (R : Rw α) (e : TypeId) (w : World) (B : Nat) (A : Option Addr) (n cap : Nat) (l : List α) : Prop := n = l.length ∧ w.ownsRow B e R.size (.slice A n cap) n (cs R l)
variable {e : TypeId} {B n cap : Nat}
theorem ROwn.rin (h : ROwn R e w B A n cap l) : RIn R w A l := fun i a hi => by
  have hl := (List.getElem?_eq_some_iff.1 hi).1;obtain ⟨g, cap', ef, hb, hlt⟩ := h.2.form (by rw [h.1]; omega);simp only [Value.slice.injEq] at ef;obtain ⟨rfl, _, _⟩ := ef;refine ⟨g, 0, rfl, hlt, fun j u hu => ?_⟩;have := h.2.cells (g := g) rfl _ _ (cs_at R l i j a u hi hu)
  rwa [addr_add] at this
theorem ROwn.ge {g : Nat} (h : ROwn R e w B (some ⟨g, 0, none⟩) n cap l) : B ≤ g := (h.2.lt g rfl).1
theorem ROwn.lt {g : Nat} (h : ROwn R e w B (some ⟨g, 0, none⟩) n cap l) : g < w.heap.size := (h.2.lt g rfl).2
theorem ROwn.alloc (h : ROwn R e w B A n cap l) (o : Obj) : ROwn R e (w.alloc o) B A n cap l := ⟨h.1, h.2.alloc o⟩
theorem ROwn.drew (h : ROwn R e w B A n cap l) : ROwn R e w.drew B A n cap l := h
theorem ROwn.on (h : ROwn R e w B A n cap l) (hb : Below w.heap.size w w') : ROwn R e w' B A n cap l := ⟨h.1, Own.row_on h.2 hb⟩
theorem ROwn.none : ROwn R e w B none 0 0 [] := ⟨rfl, World.ownsRow_nil _ _ _ _⟩
theorem ROwn.new (hB : B ≤ w.heap.size) : ROwn R e (w.alloc (.cells #[] e)) B (some ⟨w.heap.size, 0, Option.none⟩) 0 0 [] := ⟨rfl, Own.new_row _ _ _ _ hB⟩
theorem ROwn.kept {r : Option Nat} {g' : Nat} (h : ROwn R e w B A n cap l) (hk : Own.Kept w w' r g') (hne : (Value.slice A n cap).ownBlock = Option.none ∨ (Value.slice A n cap).ownBlock ≠ r) : ROwn R e w' B A n cap l := ⟨h.1, hk.row h.2 hne⟩
theorem ROwn.le (h : ROwn R e w B A n cap l) : n ≤ cap ∧ cap ≤ maxLen := by
  rcases h.2.2 with ⟨hv, hn⟩ | ⟨g, cap', cur, hv, _, _, h1, h2, _⟩
  · injection hv with _ e1 e2
    exact ⟨by omega, by rw [e2]; exact Nat.zero_le _⟩
  · injection hv with _ e1 e2
    subst e2;exact ⟨h1, h2⟩
theorem ROwn.mono {B' : Nat} (h : ROwn R e w B A n cap l) (hB : B' ≤ B) : ROwn R e w B' A n cap l := by
  refine ⟨h.1, h.2.1, ?_⟩;rcases h.2.2 with hn | ⟨g, cap', cur, hv, hb, rest⟩
  · exact .inl hn
  · exact .inr ⟨g, cap', cur, hv, Nat.le_trans hB hb, rest⟩
theorem ROwn.pushM {P : Program} {T : TypeId} {z : Value} {bytes : Nat} {w0 v : World} (hE : Own.Elem P T e z R.size bytes) (ty : TypeId) (m c b o : Nat) (src : List α) (hO : ROwn R e v w0.heap.size A n cap l) (hS : RIn R v (some ⟨b, o, Option.none⟩) src) (hm : m = src.length) (hp : 0 < n + m) (hb : Below w0.heap.size w0 v) (hmax : n + m ≤ 1000000) (hby : bytes ≤ 100000) :
    ∃ g' cap' v', (Builtin.append_ #[T, T] ty #[.slice A n cap, .slice (some ⟨b, o, Option.none⟩) m c]).run P v = .ok (.slice (some ⟨g', 0, Option.none⟩) (n + m) cap') v' ∧
      ROwn R e v' w0.heap.size (some ⟨g', 0, Option.none⟩) (n + m) cap' (l ++ src) ∧ Below w0.heap.size w0 v' ∧ Own.Kept v v' (Value.slice A n cap).ownBlock g' := by
  obtain ⟨g', cap', v', h1, h2, h3, h4⟩ := Own.append hE w0 v ty A n cap m c (cs R l) hO.2 ⟨b, o, Option.none⟩ (cs R src) (by rw [cs_len, hm]) (hS.news hE.pos) (cs_one R _) hp (by unfold maxLen; omega) (by
    have : (n + m) * bytes ≤ 1000000 * 100000 := Nat.mul_le_mul hmax hby
    omega) hb
  exact ⟨g', cap', v', h1, ⟨by rw [List.length_append, ← hO.1, hm], by rw [cs_app]; exact h2⟩, h3, h4⟩
theorem ROwn.push1 {P : Program} {T : TypeId} {z : Value} {bytes : Nat} {w0 v : World} (hE : Own.Elem P T e z R.size bytes) (ty : TypeId) (x : α) (ca : Array Value) (hca : ca = (R.enc x).toArray) (hO : ROwn R e v w0.heap.size A n cap l) (hb : Below w0.heap.size w0 v) (hmax : n ≤ 999999) (hby : bytes ≤ 100000) :
    ∃ g' cap' v', (Builtin.append_ #[T, T] ty #[.slice A n cap, .slice (some ⟨v.heap.size, 0, Option.none⟩) 1 1]).run P (v.alloc (.cells ca e)) = .ok (.slice (some ⟨g', 0, Option.none⟩) (n + 1) cap') v' ∧
      ROwn R e v' w0.heap.size (some ⟨g', 0, Option.none⟩) (n + 1) cap' (l ++ [x]) ∧ Below w0.heap.size w0 v' ∧ Own.Kept (v.alloc (.cells ca e)) v' (Value.slice A n cap).ownBlock g' := by
  subst hca
  obtain ⟨g', cap', v', h1, h2, h3, h4⟩ := Own.append hE w0 (v.alloc (.cells (R.enc x).toArray e)) ty A n cap 1 1 (cs R l) (hO.2.alloc _) ⟨v.heap.size, 0, Option.none⟩ (R.enc x) (by rw [R.len, Nat.one_mul]) (fun j u hu => World.news_of_block (cs := (R.enc x).toArray) (heap_alloc_new v _) j u (by simpa using hu)) (R.one x) (by omega) (by unfold maxLen; omega) (by
    have : (n + 1) * bytes ≤ 1000000 * 100000 := Nat.mul_le_mul (by omega) hby
    omega) (hb.alloc hb.size _)
  exact ⟨g', cap', v', h1, ⟨by rw [List.length_append, ← hO.1]; rfl, by rw [cs_app]; simpa [cs] using h2⟩, h3, h4⟩
def txR : Rw ByteArray := ⟨fun s => [.string s], 1, fun _ => rfl, fun _ u hu => by simp at hu; subst hu; rfl⟩
def prR : Rw (ByteArray × ByteArray) := ⟨fun p => [.string p.1, .string p.2], 2, fun _ => rfl, fun _ u hu => by
  simp at hu
  rcases hu with rfl | rfl <;> rfl⟩
end Go.Proofs.YtcamanopfhbchaaDoor.RowG
end
section
namespace Go.Proofs.YtcamanopfhbchaaDoor.Num
open Go Go.RowKit Go.Lib
def nt (l : List Int) (i : Nat) : Int := l.getD i 0
theorem nt_at (l : List Int) (i : Nat) (h : i < l.length) : nt l i = l[i] := by simp [nt, List.getD, List.getElem?_eq_getElem h]
def iV (n : Int) : Value := .int .i64 n
theorem addr_add (b o j : Nat) : (⟨b, o, none⟩ : Addr).add j = ⟨b, o + j, none⟩ := by unfold Addr.add; split <;> simp_all
def IIn (w : World) (A : Option Addr) (l : List Int) : Prop := ∀ i, i < l.length → ∃ b o, A = some ⟨b, o, none⟩ ∧ b < w.heap.size ∧ w.cell? ⟨b, o + i, none⟩ = some (.int .i64 (nt l i))
theorem IIn.on {w w' : World} {A : Option Addr} {l : List Int} (h : IIn w A l) (hb : Below w.heap.size w w') : IIn w' A l := fun i hi => by
  obtain ⟨b, o, e, hlt, h1⟩ := h i hi;exact ⟨b, o, e, Nat.lt_of_lt_of_le hlt hb.size, (hb.cell (p := ⟨b, o + i, none⟩) hlt).trans h1⟩
theorem IIn.drewN {w : World} {A : Option Addr} {l : List Int} (h : IIn w A l) (n : Nat) : IIn (w.drewN n) A l := h
theorem IIn.nil (w : World) (A : Option Addr) : IIn w A [] := fun i hi => absurd hi (by simp)
theorem IIn.cells {w : World} {b o : Nat} {l : List Int} (h : IIn w (some ⟨b, o, none⟩) l) {i : Nat} (hi : i < l.length) : w.cell? ⟨b, o + i, none⟩ = some (.int .i64 (nt l i)) := by
  obtain ⟨b', o', e, _, h1⟩ := h i hi;cases e;exact h1
theorem ints_one (l : List Int) : ∀ u ∈ l.map iV, u.oneCell' = true := fun u hu => by obtain ⟨n, _, rfl⟩ := List.mem_map.1 hu; rfl
theorem IIn.news {w : World} {b o : Nat} {l : List Int} (h : IIn w (some ⟨b, o, none⟩) l) : ∀ j u, (l.map iV)[j]? = some u → w.cell? ((⟨b, o, none⟩ : Addr).add j) = some u := fun j u hu => by
  have hj : j < l.length := by
    rcases Nat.lt_or_ge j l.length with h' | h'
    · exact h'
    · rw [List.getElem?_eq_none (by simpa using h')] at hu; cases hu
  rw [addr_add, h.cells hj, nt_at _ _ hj];rw [List.getElem?_map, List.getElem?_eq_getElem hj] at hu;exact hu
def OwnI (w : World) (B : Nat) (A : Option Addr) (n cap : Nat) (l : List Int) : Prop := n = l.length ∧ w.ownsRow B 3 1 (.slice A n cap) n (l.map iV)
theorem OwnI.iin {w : World} {B : Nat} {A : Option Addr} {n cap : Nat} {l : List Int} (h : OwnI w B A n cap l) : IIn w A l := fun i hi => by
  obtain ⟨g, cap', e, hb, hlt⟩ := h.2.form (by rw [h.1]; omega);simp only [Value.slice.injEq] at e;obtain ⟨rfl, _, _⟩ := e;have hc := h.2.cells (g := g) rfl;have a1 := hc i _ (by rw [List.getElem?_map, List.getElem?_eq_getElem hi]; rfl);rw [addr_add] at a1;exact ⟨g, 0, rfl, hlt, by rw [nt_at _ _ hi]; exact a1⟩
theorem OwnI.ge {w : World} {B g n cap : Nat} {l : List Int} (h : OwnI w B (some ⟨g, 0, none⟩) n cap l) : B ≤ g := (h.2.lt g rfl).1
theorem OwnI.lt {w : World} {B g n cap : Nat} {l : List Int} (h : OwnI w B (some ⟨g, 0, none⟩) n cap l) : g < w.heap.size := (h.2.lt g rfl).2
theorem OwnI.alloc {w : World} {B n cap : Nat} {A : Option Addr} {l : List Int} (h : OwnI w B A n cap l) (o : Obj) : OwnI (w.alloc o) B A n cap l := ⟨h.1, h.2.alloc o⟩
theorem OwnI.drew {w : World} {B n cap : Nat} {A : Option Addr} {l : List Int} (h : OwnI w B A n cap l) : OwnI w.drew B A n cap l := h
theorem OwnI.on {w w' : World} {B n cap : Nat} {A : Option Addr} {l : List Int} (h : OwnI w B A n cap l) (hb : Below w.heap.size w w') : OwnI w' B A n cap l := ⟨h.1, Own.row_on h.2 hb⟩
theorem OwnI.none (w : World) (B : Nat) : OwnI w B none 0 0 [] := ⟨rfl, World.ownsRow_nil _ _ _ _⟩
theorem OwnI.new (w : World) (B : Nat) (hB : B ≤ w.heap.size) : OwnI (w.alloc (.cells #[] 3)) B (some ⟨w.heap.size, 0, Option.none⟩) 0 0 [] := ⟨rfl, Own.new_row _ _ _ _ hB⟩
theorem OwnI.kept {v v' : World} {r : Option Nat} {g' B n cap : Nat} {A : Option Addr} {l : List Int} (h : OwnI v B A n cap l) (hk : Own.Kept v v' r g') (hne : (Value.slice A n cap).ownBlock = Option.none ∨ (Value.slice A n cap).ownBlock ≠ r) : OwnI v' B A n cap l := ⟨h.1, hk.row h.2 hne⟩
theorem elemI : Own.Elem Tryd.prog 25 3 (.int .i64 0) 1 8 := ⟨Tryd.underlying25, by kernel_rfl, rfl, by decide⟩
theorem push1 (w0 v : World) (ty : TypeId) (A : Option Addr) (n cap : Nat) (l : List Int) (e : Int) (hO : OwnI v w0.heap.size A n cap l) (hb : Below w0.heap.size w0 v) (hn : n ≤ 100000) :
    ∃ g' cap' v', (Builtin.append_ #[25, 25] ty #[.slice A n cap, .slice (some ⟨v.heap.size, 0, none⟩) 1 1]).run Tryd.prog (v.alloc (.cells #[.int .i64 e] 3)) = .ok (.slice (some ⟨g', 0, none⟩) (n + 1) cap') v' ∧
      OwnI v' w0.heap.size (some ⟨g', 0, none⟩) (n + 1) cap' (l ++ [e]) ∧ Below w0.heap.size w0 v' ∧ Own.Kept (v.alloc (.cells #[.int .i64 e] 3)) v' (Value.slice A n cap).ownBlock g' := by
  obtain ⟨g', cap', v', h1, h2, h3, h4⟩ := Own.append elemI w0 (v.alloc (.cells #[.int .i64 e] 3)) ty A n cap 1 1 (l.map iV) (hO.2.alloc _) ⟨v.heap.size, 0, none⟩ [.int .i64 e] rfl (World.news_of_block (cs := #[.int .i64 e]) (heap_alloc_new v _)) (by simp [Value.oneCell']) (by omega) (by unfold maxLen; omega) (by omega) (hb.alloc hb.size _);exact ⟨g', cap', v', h1, ⟨by rw [List.length_append, ← hO.1]; rfl, by rw [List.map_append]; exact h2⟩, h3, h4⟩
end Go.Proofs.YtcamanopfhbchaaDoor.Num
end
section
namespace Go.Proofs.YtcamanopfhbchaaDoor.Num
open Go Go.RowKit Go.Lib
structure But (X : Nat → Prop) (u u' : World) : Prop where
  size : u.heap.size ≤ u'.heap.size
  block : ∀ b, b < u.heap.size → ¬ X b → u'.heap[b]? = u.heap[b]?
theorem But.of_below {u u' : World} {X : Nat → Prop} (h : Below u.heap.size u u') : But X u u' := ⟨h.size, fun b hb _ => h.block b hb⟩
theorem But.mono {X Y : Nat → Prop} {u u' : World} (h : But X u u') (hx : ∀ b, b < u.heap.size → X b → Y b) : But Y u u' := ⟨h.size, fun b hb hn => h.block b hb fun hxb => hn (hx b hb hxb)⟩
theorem But.trans {X : Nat → Prop} {u u' u'' : World} (h : But X u u') (h' : But X u' u'') : But X u u'' := ⟨Nat.le_trans h.size h'.size, fun b hb hn => (h'.block b (Nat.lt_of_lt_of_le hb h.size) hn).trans (h.block b hb hn)⟩
theorem But.cell {X : Nat → Prop} {u u' : World} (h : But X u u') {b o : Nat} (hb : b < u.heap.size) (hn : ¬ X b) : u'.cell? ⟨b, o, none⟩ = u.cell? ⟨b, o, none⟩ := by simp only [World.cell?, h.block b hb hn]
section
variable {X : Nat → Prop} {u u' : World}
theorem But.st (h : But X u u') {g : Nat} {T : TypeId} {cs : Array Value} (hs : St.St u g T cs) (hn : ¬ X g) : St.St u' g T cs := (h.block g hs.lt hn).trans hs
theorem But.own (h : But X u u') {B g n cap : Nat} {l : List Int} (hO : OwnI u B (some ⟨g, 0, none⟩) n cap l) (hn : ¬ X g) : OwnI u' B (some ⟨g, 0, none⟩) n cap l := by
  obtain ⟨h1, h2, h3⟩ := hO;refine ⟨h1, h2, ?_⟩;rcases h3 with ⟨hv, hn0⟩ | ⟨g', cap', cur, hv, hB, hg, rest⟩
  · exact .inl ⟨hv, hn0⟩
  · have hv2 := hv;simp only [Value.slice.injEq, Option.some.injEq, Addr.mk.injEq] at hv2;obtain ⟨⟨e, _, _⟩, _, _⟩ := hv2;subst e;exact .inr ⟨g, cap', cur, hv, hB, (h.block g (Array.getElem?_eq_some_iff.1 hg).1 hn).trans hg, rest⟩
theorem But.iin (h : But X u u') {A : Option Addr} {l : List Int} (hA : IIn u A l) (hn : ∀ b o, A = some ⟨b, o, none⟩ → ¬ X b) : IIn u' A l := fun i hi => by
  obtain ⟨b, o, e, hlt, h1⟩ := hA i hi;exact ⟨b, o, e, Nat.lt_of_lt_of_le hlt h.size, (h.cell hlt (hn b o e)).trans h1⟩
end
def LIn (w : World) (A : Option Addr) (ls : List (List Int)) : Prop := ∀ (i : Nat) l, ls[i]? = some l → ∃ b o Y c, A = some ⟨b, o, none⟩ ∧ b < w.heap.size ∧ w.cell? ⟨b, o + i, none⟩ = some (.slice Y l.length c) ∧ IIn w Y l
theorem LIn.on {w w' : World} {A : Option Addr} {ls : List (List Int)} (h : LIn w A ls) (hb : Below w.heap.size w w') : LIn w' A ls := fun i l hi => by
  obtain ⟨b, o, Y, c, e, hlt, h1, h2⟩ := h i l hi;exact ⟨b, o, Y, c, e, Nat.lt_of_lt_of_le hlt hb.size, (hb.cell (p := ⟨b, o + i, none⟩) hlt).trans h1, h2.on hb⟩
theorem LIn.nil (w : World) (A : Option Addr) : LIn w A [] := fun i l h => by simp at h
def LOwn (w0 u : World) (A : Option Addr) (n cap : Nat) (ls : List (List Int)) (X : Nat → Prop) : Prop := n = ls.length ∧ ∃ vs : List Value, u.ownsRow w0.heap.size 25 1 (.slice A n cap) n vs ∧ (∀ b, (Value.slice A n cap).ownBlock = some b → ¬ X b) ∧
  ∀ (i : Nat) l, ls[i]? = some l → ∃ Y c, vs[i]? = some (Value.slice Y l.length c) ∧ IIn u Y l ∧ ∀ b o, Y = some ⟨b, o, none⟩ → w0.heap.size ≤ b ∧ b < u.heap.size ∧ ¬ X b ∧ (Value.slice A n cap).ownBlock ≠ some b
theorem LOwn.nil (w0 u : World) (X : Nat → Prop) : LOwn w0 u none 0 0 [] X := ⟨rfl, [], World.ownsRow_nil _ _ _ _, fun b h => by simp [Value.ownBlock] at h, fun i l h => by simp at h⟩
section
variable {w0 u u' : World} {A : Option Addr} {n cap : Nat} {ls : List (List Int)} {X Y : Nat → Prop}
theorem LOwn.via (h : LOwn w0 u A n cap ls X) (hb : But X u u') : LOwn w0 u' A n cap ls X := by
  obtain ⟨h0, vs, ⟨h1, h1b⟩, h2, h3⟩ := h;refine ⟨h0, vs, ⟨h1, ?_⟩, h2, fun i l hi => ?_⟩
  · rcases h1b with hn | ⟨g, cap', cur, hv, hB, hg, rest⟩
    · exact .inl hn
    · exact .inr ⟨g, cap', cur, hv, hB, (hb.block g (Array.getElem?_eq_some_iff.1 hg).1 (h2 g (by rw [hv]; rfl))).trans hg, rest⟩
  · obtain ⟨Z, c, e1, e2, e3⟩ := h3 i l hi;exact ⟨Z, c, e1, hb.iin e2 (fun b o e => (e3 b o e).2.2.1), fun b o e => ⟨(e3 b o e).1, Nat.lt_of_lt_of_le (e3 b o e).2.1 hb.size, (e3 b o e).2.2⟩⟩
theorem LOwn.on (h : LOwn w0 u A n cap ls X) (hb : Below u.heap.size u u') : LOwn w0 u' A n cap ls X := h.via (But.of_below hb)
theorem LOwn.le (h : LOwn w0 u A n cap ls X) : n ≤ cap ∧ cap ≤ maxLen := by
  obtain ⟨h0, vs, h1, _⟩ := h;rcases h1.2 with ⟨hv, hn⟩ | ⟨g, cap', cur, hv, _, _, h1, h2, _⟩
  · injection hv with _ e1 e2
    exact ⟨by omega, by rw [e2]; exact Nat.zero_le _⟩
  · injection hv with _ e1 e2
    subst e2;exact ⟨h1, h2⟩
end
end Go.Proofs.YtcamanopfhbchaaDoor.Num
end
section
namespace Go.Proofs.YtcamanopfhbchaaDoor.Kn
open Go
theorem satU_run9 {Ko : World → Prop} {r : Result Unit} {v : World} (h : r = .ok () v) (H : Ko v) : Kn.SatU Ko r := by rw [h]; exact H
end Go.Proofs.YtcamanopfhbchaaDoor.Kn
namespace Go.Proofs.YtcamanopfhbchaaDoor.Mrk
open Go Go.RowKit Go.Lib RowG
def upD (i n : Nat) (d : ByteArray) (pf : List ByteArray) : ByteArray :=
  if h : n < 2 then d
  else
    have hk := hf_in (n := n) (by omega)
    if i < hf n then sm (c1 ++ upD i (hf n) d pf.dropLast ++ pf.getLastD ByteArray.empty)
    else sm (c1 ++ pf.getLastD ByteArray.empty ++ upD (i - hf n) (n - hf n) d pf.dropLast)
termination_by n
theorem upD_0 {i n : Nat} {d : ByteArray} {pf : List ByteArray} (h : n < 2) : upD i n d pf = d := by rw [upD, dif_pos h]
theorem upD_l {i n : Nat} {d : ByteArray} {pf : List ByteArray} (h : 2 ≤ n) (hi : i < hf n) : upD i n d pf = sm (c1 ++ upD i (hf n) d pf.dropLast ++ pf.getLastD ByteArray.empty) := by rw [upD, dif_neg (by omega), if_pos hi]
theorem upD_r {i n : Nat} {d : ByteArray} {pf : List ByteArray} (h : 2 ≤ n) (hi : ¬ i < hf n) : upD i n d pf = sm (c1 ++ pf.getLastD ByteArray.empty ++ upD (i - hf n) (n - hf n) d pf.dropLast) := by rw [upD, dif_neg (by omega), if_neg hi]
theorem upD_up (x : ByteArray) : ∀ (m n i : Nat) (pf : List ByteArray), n ≤ m → (upF i n x pf).1 = upD i n (sm x) pf := by
  intro m
  induction m with
  | zero => intro n i pf h; rw [upF_0 (by omega), upD_0 (by omega)]
  | succ m ih =>
    intro n i pf h;rcases Nat.lt_or_ge n 2 with h2 | h2
    · rw [upF_0 h2, upD_0 h2]
    · have hk := hf_in h2
      by_cases hi : i < hf n
      · rw [upF_l h2 hi, upD_l h2 hi, ih _ _ _ (by omega)]
      · rw [upF_r h2 hi, upD_r h2 hi, ih _ _ _ (by omega)]
theorem proof_sizes : ∀ (d i : Nat) (bl : List ByteArray), bl.length ≤ d → ∀ p ∈ proofF i bl, p.size = 32 := by
  intro d
  induction d with
  | zero => intro i bl h p hp; rw [proofF_0 (by omega)] at hp; cases hp
  | succ d ih =>
    intro i bl h p hp;rcases Nat.lt_or_ge bl.length 2 with h2 | h2
    · rw [proofF_0 h2] at hp; cases hp
    · have hk := hf_in h2
      by_cases hi : i < hf bl.length
      · rw [proofF_l h2 hi, List.mem_append, List.mem_singleton] at hp;rcases hp with hp | rfl
        · exact ih _ _ (by rw [List.length_take]; omega) p hp
        · exact rootP_size _
      · rw [proofF_r h2 hi, List.mem_append, List.mem_singleton] at hp;rcases hp with hp | rfl
        · exact ih _ _ (by rw [List.length_drop]; omega) p hp
        · exact rootP_size _
def errno (c : Int) : Value := .iface 71 (.int .i64 c)
def fault (i c : Int) : Value := .iface 76 (.agg #[.int .i64 i, errno c])
def InR (i n : Int) : Prop := 0 ≤ i ∧ i < n ∧ n ≤ 1048576
instance (i n : Int) : Decidable (InR i n) := by unfold InR; infer_instance
def Fine (i n : Nat) (d : ByteArray) (pf : List ByteArray) : Prop := pf.length = stF i n ∧ d.size = 32 ∧ ∀ p ∈ pf, p.size = 32
instance (i n : Nat) (d : ByteArray) (pf : List ByteArray) : Decidable (Fine i n d pf) := by unfold Fine; infer_instance
def stI (i n : Int) : Int := if InR i n then ((stF i.toNat n.toNat : Nat) : Int) else 0
def upV (i n : Int) (d : ByteArray) (pf : List ByteArray) : Value × Value :=
  if InR i n then (if Fine i.toNat n.toNat d pf then (.string (upD i.toNat n.toNat d pf), .nilIface) else (.string ⟨#[]⟩, errno 11)) else (.string ⟨#[]⟩, errno 2)
def chkV (root : ByteArray) (i n : Int) (s : ByteArray) (pf : List ByteArray) : Value :=
  if InR i n then (if Fine i.toNat n.toNat (sm (c0 ++ s)) pf then (if upD i.toNat n.toNat (sm (c0 ++ s)) pf = root then .nilIface else fault i 11) else errno 11) else errno 2
structure Code9 (HT : World → Prop) (T : List ByteArray → Value → World → Prop) : Prop where
  hon : ∀ u v, HT u → Below u.heap.size u v → HT v
  on : ∀ bl x u u', T bl x u → Below u.heap.size u u' → T bl x u'
  leaf : ∀ (s : ByteArray) (u : World), s.size ≤ 400 → HT u → Calls Tryd.prog 27 #[.string s] u fun e v => e = .returned (.string (sm (c0 ++ s))) ∧ Below u.heap.size u v
  node : ∀ (a b : ByteArray) (u : World), a.size ≤ 300 → b.size ≤ 300 → HT u → Calls Tryd.prog 29 #[.string a, .string b] u fun e v => e = .returned (.string (sm (c1 ++ a ++ b))) ∧ Below u.heap.size u v
  root : ∀ (A : Option Addr) (c : Nat) (bl : List ByteArray) (u : World), bl.length ≤ 100 → (∀ b ∈ bl, b.size ≤ 300) → bl.length ≤ c → c ≤ maxLen → RIn txR u A bl → HT u → Calls Tryd.prog 14 #[.slice A bl.length c] u fun e v => e = .returned (.string (rootP bl).1) ∧ Below u.heap.size u v
  new : ∀ (A : Option Addr) (c : Nat) (bl : List ByteArray) (u : World), bl.length ≤ 100 → (∀ b ∈ bl, b.size ≤ 300) → bl.length ≤ c → c ≤ maxLen → RIn txR u A bl → HT u → Calls Tryd.prog 11 #[.slice A bl.length c] u fun e v => ∃ x, e = .returned x ∧ T bl x v ∧ Below u.heap.size u v
  troot : ∀ (bl : List ByteArray) (x : Value) (u : World), T bl x u → Calls Tryd.prog 13 #[x] u fun e v => e = .returned (.string (rootP bl).1) ∧ Below u.heap.size u v
  tlen : ∀ (bl : List ByteArray) (x : Value) (u : World), T bl x u → Calls Tryd.prog 15 #[x] u fun e v => e = .returned (.int .i64 (bl.length : Int)) ∧ Below u.heap.size u v
  tproof : ∀ (bl : List ByteArray) (x : Value) (k : Nat) (u : World), T bl x u → k < bl.length → Calls Tryd.prog 16 #[x, .int .i64 (k : Int)] u fun e v => ∃ A c, e = .returned (.tuple #[.slice A (proofF k bl).length c, .nilIface]) ∧ RIn txR v A (proofF k bl) ∧ (proofF k bl).length ≤ c ∧ c ≤ maxLen ∧ Below u.heap.size u v
  tnone : ∀ (bl : List ByteArray) (x : Value) (i : Int) (u : World), T bl x u → i < 0 ∨ (bl.length : Int) ≤ i → Calls Tryd.prog 16 #[x, .int .i64 i] u fun e v => ∃ A c, e = .returned (.tuple #[.slice A 0 c, errno 2]) ∧ Below u.heap.size u v
  nroot : ∀ u : World, HT u → Calls Tryd.prog 13 #[.pointer none] u fun e v => e = .returned (.string ⟨#[]⟩) ∧ Below u.heap.size u v
  nlen : ∀ u : World, HT u → Calls Tryd.prog 15 #[.pointer none] u fun e v => e = .returned (.int .i64 0) ∧ Below u.heap.size u v
  nproof : ∀ (i : Int) (u : World), HT u → Calls Tryd.prog 16 #[.pointer none, .int .i64 i] u fun e v => ∃ A c, e = .returned (.tuple #[.slice A 0 c, errno 1]) ∧ Below u.heap.size u v
  steps : ∀ (i n : Int) (u : World), HT u → Calls Tryd.prog 19 #[.int .i64 i, .int .i64 n] u fun e v => e = .returned (.int .i64 (stI i n)) ∧ Below u.heap.size u v
  up : ∀ (i n : Int) (d : ByteArray) (A : Option Addr) (c : Nat) (pf : List ByteArray) (u : World), pf.length ≤ 100 → pf.length ≤ c → c ≤ maxLen → RIn txR u A pf → HT u → Calls Tryd.prog 24 #[.int .i64 i, .int .i64 n, .string d, .slice A pf.length c] u fun e v => e = .returned (.tuple #[(upV i n d pf).1, (upV i n d pf).2]) ∧ Below u.heap.size u v
  check : ∀ (root : ByteArray) (i n : Int) (s : ByteArray) (A : Option Addr) (c : Nat) (pf : List ByteArray) (u : World), s.size ≤ 400 → pf.length ≤ 100 → pf.length ≤ c → c ≤ maxLen → RIn txR u A pf → HT u → Calls Tryd.prog 20 #[.string root, .int .i64 i, .int .i64 n, .string s, .slice A pf.length c] u fun e v => e = .returned (chkV root i n s pf) ∧ Below u.heap.size u v
end Go.Proofs.YtcamanopfhbchaaDoor.Mrk
end
section
namespace Go.Proofs.YtcamanopfhbchaaDoor.Kn
open Go
section
variable {P : Program} {n : Nat} {l : List (Nat × Value)} {a : Act} {w : World}
theorem satU_runA {Ko : World → Prop} {r : Result Unit} {v : World} (h : r = .ok () v) (H : Ko v) : Kn.SatU Ko r := by rw [h]; exact H
theorem retSS {fn : Func} {R : Ending → World → Prop} {p q : Tmp} {ty tz : TypeId} {g k : Nat} {cs ds : Array Value} {d e : TypeDesc} (h : Kn n l a) (hr : fn.results = #[.cell p ty, .cell q tz]) (hp : find l p = some (.pointer (some ⟨g, 0, none⟩))) (hq : find l q = some (.pointer (some ⟨k, 0, none⟩))) (hs : St.St w g ty cs) (hu : P.underlying ty = some d) (hd : St.rowD d = true) (hi : (P.info? ty).map (·.size) = some cs.size) (hs2 : St.St w k tz ds) (hu2 : P.underlying tz = some e) (hd2 : St.rowD e = true) (hi2 : (P.info? tz).map (·.size) = some ds.size) (H : R (.returned (.tuple #[.agg cs, .agg ds])) w) : bodyPost P fn R .ret a w := by
  have e1 := h.get p _ hp;have e2 := h.get q _ hq;simp only [Act.eval] at e1 e2;have l1 : (loadVar ty ⟨g, 0, none⟩).run P w = .ok (.agg cs) w := hs.load hu hd hi;have l2 : (loadVar tz ⟨k, 0, none⟩).run P w = .ok (.agg ds) w := hs2.load hu2 hd2 hi2;refine bodyPost_ret (v := .tuple #[.agg cs, .agg ds]) ?_ h.defers H;have h1 : a.tmps[p]?.getD undef = .pointer (some ⟨g, 0, none⟩) := by simpa using e1
  have h2 : a.tmps[q]?.getD undef = .pointer (some ⟨k, 0, none⟩) := by simpa using e2
  simp [results, hr, h1, h2, asAddr, l1, l2]
end
end Go.Proofs.YtcamanopfhbchaaDoor.Kn
namespace Go.Proofs.YtcamanopfhbchaaDoor.Mrk
open Go Go.RowKit Go.Lib RowG
def blen (x : Nat) : Nat := if x = 0 then 0 else Nat.log2 x + 1
theorem log2_is {x k : Nat} (h1 : 2 ^ k ≤ x) (h2 : x < 2 ^ (k + 1)) : Nat.log2 x = k := by
  have h0 : x ≠ 0 := by have := Nat.two_pow_pos k; omega
  have a1 := (Nat.le_log2 h0 (k := k)).2 h1;have a2 := (Nat.log2_lt h0 (k := k + 1)).2 h2;omega
theorem blen_div {x q k : Nat} (hq : x / 2 ^ k = q) (h : 0 < q) : blen x = k + blen q := by
  have h0 : q ≠ 0 := by omega
  have hx : x ≠ 0 := by intro e; subst e; simp at hq; omega
  rw [blen, blen, if_neg h0, if_neg hx]
  have e : Nat.log2 x = k + Nat.log2 q := by
    have b1 := Nat.log2_self_le h0;have b2 := Nat.lt_log2_self (n := q);subst hq;refine log2_is ?_ ?_
    · rw [Nat.pow_add, Nat.mul_comm];exact Nat.le_trans (Nat.mul_le_mul_right _ b1) (Nat.div_mul_le_self _ _)
    · rw [Nat.add_assoc, Nat.pow_add, Nat.mul_comm];exact (Nat.div_lt_iff_lt_mul (Nat.two_pow_pos k)).1 b2
  omega
def hp (n : Nat) : Nat := 2 ^ Nat.log2 (n - 1)
theorem hp_in {n : Nat} (h : 2 ≤ n) : 1 ≤ hp n ∧ hp n < n ∧ n ≤ 2 * hp n := by
  have h0 : n - 1 ≠ 0 := by omega
  have b1 := Nat.log2_self_le h0;have b2 := Nat.lt_log2_self (n := n - 1);have b3 := Nat.two_pow_pos (Nat.log2 (n - 1));rw [Nat.pow_succ] at b2;unfold hp;omega
set_option maxRecDepth 100000 in
set_option maxHeartbeats 400000 in
theorem isOf_any (i n : Int) (w : World) :
    Calls Tryd.prog 37 #[.int .i64 i, .int .i64 n] w fun e w' => e = .returned (.bool (decide (0 ≤ i ∧ i < n))) ∧ w = w' := by
  refine Kn.calls Tryd.func37 rfl Tryd.ntmps37 rfl (.cons (t := 0) rfl (.cons (t := 1) rfl .nil)) fun fa0 fh0 => ?_;refine wp_seq_k fun K1 hK1 => ?_;refine wp_region_lit ?_;refine Kn.pure fh0 rfl rfl .none (Kn.ex_assign fh0 .const) fun fa1 fh1 => ?_;clear fh0 fa0;refine wpList_nil ?_;refine hK1 _ _ ?_;clear hK1 K1
  by_cases h0 : i < 0
  · have q1 : ¬ (0 ≤ i) := by omega
    have q2 : ¬ (0 ≤ i ∧ i < n) := by omega
    refine wp_seq_k fun K2 hK2 => ?_;refine wp_region_lit ?_;refine Kn.pure fh1 rfl rfl .none (Kn.ex_move fh1 (.tmp rfl)) fun fa2 fh2 => ?_;clear fh1 fa1;refine Kn.step fh2 rfl rfl .none (Kn.ex_bin fh2 (.tmp rfl) .const) fun Ko hKo => ?_;go_simp;(try go_bits);refine hKo _ _ fun fa3 fh3 => ?_;clear hKo Ko fh2 fa2;refine Kn.pure fh3 rfl rfl .none (Kn.ex_move fh3 (.tmp rfl)) fun fa4 fh4 => ?_;clear fh3 fa3;refine Kn.skip fh4 rfl rfl (.some rfl rfl rfl) fun fa5 fh5 => ?_;clear fh4 fa4;refine Kn.skip fh5 rfl rfl (.some rfl rfl rfl) fun fa6 fh6 => ?_;clear fh5 fa5;refine Kn.skip fh6 rfl rfl (.some rfl rfl rfl) fun fa7 fh7 => ?_;clear fh6 fa6;refine Kn.pure fh7 rfl rfl .none (Kn.ex_pick fh7 (.tmp rfl) .const) fun fa8 fh8 => ?_;clear fh7 fa7;refine Kn.pure fh8 rfl rfl .none (Kn.ex_assign fh8 (.tmp rfl)) fun fa9 fh9 => ?_;clear fh8 fa8;refine wpList_nil ?_;refine hK2 _ _ ?_;clear hK2 K2;replace fh9 := fh9.cut (.cons (t := 4) rfl .nil);refine wp_ret ?_;exact Kn.ret1 fh9 rfl rfl ⟨by rw [decide_eq_false q2], rfl⟩
  have q1 : 0 ≤ i := by omega
  refine wp_seq_k fun K2 hK2 => ?_;refine wp_region_lit ?_;refine Kn.pure fh1 rfl rfl .none (Kn.ex_move fh1 (.tmp rfl)) fun fa2 fh2 => ?_;clear fh1 fa1;refine Kn.step fh2 rfl rfl .none (Kn.ex_bin fh2 (.tmp rfl) .const) fun Ko hKo => ?_;go_simp;(try go_bits);refine hKo _ _ fun fa3 fh3 => ?_;clear hKo Ko fh2 fa2;refine Kn.pure fh3 rfl rfl .none (Kn.ex_move fh3 (.tmp rfl)) fun fa4 fh4 => ?_;clear fh3 fa3;refine Kn.pure fh4 rfl rfl (.some rfl rfl rfl) (Kn.ex_move fh4 (.tmp rfl)) fun fa5 fh5 => ?_;clear fh4 fa4;refine Kn.pure fh5 rfl rfl (.some rfl rfl rfl) (Kn.ex_move fh5 (.tmp rfl)) fun fa6 fh6 => ?_;clear fh5 fa5;refine Kn.step fh6 rfl rfl (.some rfl rfl rfl) (Kn.ex_bin fh6 (.tmp rfl) (.tmp rfl)) fun Ko hKo => ?_;go_simp;(try go_bits);refine hKo _ _ fun fa7 fh7 => ?_;clear hKo Ko fh6 fa6;refine Kn.pure fh7 rfl rfl .none (Kn.ex_pick fh7 (.tmp rfl) (.tmp rfl)) fun fa8 fh8 => ?_;clear fh7 fa7;refine Kn.pure fh8 rfl rfl .none (Kn.ex_assign fh8 (.tmp rfl)) fun fa9 fh9 => ?_;clear fh8 fa8;refine wpList_nil ?_;refine hK2 _ _ ?_;clear hK2 K2;replace fh9 := fh9.cut (.cons (t := 4) rfl .nil);refine wp_ret ?_;exact Kn.ret1 fh9 rfl rfl ⟨by simp [q1], rfl⟩
set_option maxRecDepth 100000 in
set_option maxHeartbeats 400000 in
theorem isDigest_any (s : ByteArray) (w : World) :
    Calls Tryd.prog 40 #[.string s] w fun e w' => e = .returned (.bool (decide (s.size = 32))) ∧ w = w' := by
  refine Kn.calls Tryd.func40 rfl Tryd.ntmps40 rfl (.cons (t := 0) rfl .nil) fun fa0 fh0 => ?_;refine wp_seq_k fun K1 hK1 => ?_;refine wp_region_lit ?_;refine Kn.pure fh0 rfl rfl .none (Kn.ex_assign fh0 .const) fun fa1 fh1 => ?_;clear fh0 fa0;refine wpList_nil ?_;refine hK1 _ _ ?_;clear hK1 K1;refine wp_seq_k fun K2 hK2 => ?_;refine wp_region_lit ?_;refine Kn.pure fh1 rfl rfl .none (Kn.ex_move fh1 (.tmp rfl)) fun fa2 fh2 => ?_;clear fh1 fa1;refine Kn.step fh2 rfl rfl .none (Kn.ex_len fh2 (.tmp rfl)) fun Ko hKo => ?_;go_simp;(try go_bits);refine hKo _ _ fun fa3 fh3 => ?_;clear hKo Ko fh2 fa2;refine Kn.step fh3 rfl rfl .none (Kn.ex_bin fh3 (.tmp rfl) .const) fun Ko hKo => ?_;go_simp;(try go_bits);refine hKo _ _ fun fa4 fh4 => ?_;clear hKo Ko fh3 fa3;refine Kn.pure fh4 rfl rfl .none (Kn.ex_assign fh4 (.tmp rfl)) fun fa5 fh5 => ?_;clear fh4 fa4;refine wpList_nil ?_;refine hK2 _ _ ?_;clear hK2 K2;replace fh5 := fh5.cut (.cons (t := 2) rfl .nil);refine wp_ret ?_
  exact Kn.ret1 fh5 rfl rfl ⟨by
    rcases Nat.decEq s.size 32 with h | h
    · have : ¬ (s.size : Int) = 32 := by omega
      simp [h, this]
    · simp [h], rfl⟩
theorem blen_8 {k : Nat} (hk : k < 256) : blen k ≤ 8 := by
  unfold blen
  split
  · omega
  · rename_i h;have := (Nat.log2_lt h (k := 8)).2 hk;omega
theorem len8 {t : ByteArray} {k b : Nat} (ht : t.size = 256 ∧ ∀ i, i < 256 → (t.data.getD i 0).toNat = blen i) (hk : k < 256) (hb : blen k = b) (w : World) : (Instr.index 9 (.string t) (.int .u8 (k : Int))).run Tryd.prog w = .ok (.int .u8 (b : Int)) w := by
  have h := ht.2 k hk;have hs := ht.1;have hk2 : k < t.size := by omega
  have hk3 : k < t.data.size := hk2
  have e : t.data.getD k 0 = t[k] := by
    show t.data.getD k 0 = t.data[k];simp only [Array.getD, dif_pos hk3]
    rfl
  rw [e, hb] at h;simp [Instr.index, Sem.run_bind, run_underlying Tryd.underlying9, asIntOf, Result.andThen, hk2, h]
set_option maxRecDepth 100000 in
set_option maxHeartbeats 400000 in
theorem len64_any (x : Nat) (w : World) (hx : x < 16777216) :
    Calls Tryd.prog 68 #[.int .u64 (x : Int)] w fun e w' => e = .returned (.int .i64 (blen x : Int)) ∧ w = w' := by
  refine Kn.calls Tryd.func68 rfl Tryd.ntmps68 rfl (.cons (t := 0) rfl .nil) fun fa0 fh0 => ?_;refine wp_seq_k fun K1 hK1 => ?_;refine wp_region_lit ?_;refine Kn.pure fh0 rfl rfl .none (Kn.ex_assign fh0 .const) fun fa1 fh1 => ?_;clear fh0 fa0;refine wpList_nil ?_;refine hK1 _ _ ?_;clear hK1 K1;have q0 : ¬ (4294967296 : Int) ≤ (x : Int) := by omega
  refine wp_seq_k fun K2 hK2 => ?_;refine wp_seq_k fun K3 hK3 => ?_;refine wp_region_lit ?_;refine Kn.pure fh1 rfl rfl .none (Kn.ex_move fh1 (.tmp rfl)) fun fa2 fh2 => ?_;clear fh1 fa1;refine Kn.step fh2 rfl rfl .none (Kn.ex_bin fh2 (.tmp rfl) .const) fun Ko hKo => ?_;go_simp;(try go_bits);refine hKo _ _ fun fa3 fh3 => ?_;clear hKo Ko fh2 fa2;refine wpList_nil ?_;refine hK3 _ _ ?_;clear hK3 K3;replace fh3 := fh3.cut (.cons (t := 4) rfl (.cons (t := 2) rfl (.cons (t := 0) rfl .nil)));refine Kn.no fh3 (.tmp rfl) ?_;refine wp_skip ?_;refine hK2 _ _ ?_;clear hK2 K2;replace fh3 := fh3.cut (.cons (t := 2) rfl (.cons (t := 0) rfl .nil))
  by_cases h1 : (65536 : Int) ≤ (x : Int)
  · obtain ⟨y, hy⟩ : ∃ y, x / 65536 = y := ⟨_, rfl⟩;have ry : (x : Int) / 65536 = (y : Int) := by omega
    have y_lt : y < 256 := by omega
    have y_0 : 0 < y := by omega
    have HY : Hid (x / 2 ^ 16 = y) := Lib.hid hy;clear hy;have q2 : ¬ (256 : Int) ≤ (y : Int) := by omega
    refine wp_seq_k fun K4 hK4 => ?_;refine wp_seq_k fun K5 hK5 => ?_;refine wp_region_lit ?_;refine Kn.pure fh3 rfl rfl .none (Kn.ex_move fh3 (.tmp rfl)) fun fa4 fh4 => ?_;clear fh3 fa3;refine Kn.step fh4 rfl rfl .none (Kn.ex_bin fh4 (.tmp rfl) .const) fun Ko hKo => ?_;go_simp;(try go_bits);refine hKo _ _ fun fa5 fh5 => ?_;clear hKo Ko fh4 fa4;refine wpList_nil ?_;refine hK5 _ _ ?_;clear hK5 K5;replace fh5 := fh5.cut (.cons (t := 8) rfl (.cons (t := 2) rfl (.cons (t := 0) rfl .nil)));refine Kn.yes fh5 (.tmp rfl) ?_;replace fh5 := fh5.cut (.cons (t := 2) rfl (.cons (t := 0) rfl .nil));refine wp_seq_k fun K6 hK6 => ?_;refine wp_region_lit ?_;refine Kn.pure fh5 rfl rfl .none (Kn.ex_move fh5 (.tmp rfl)) fun fa6 fh6 => ?_;clear fh5 fa5;refine Kn.step fh6 rfl rfl .none (Kn.ex_bin fh6 (.tmp rfl) .const) fun Ko hKo => ?_;go_simp;(try go_bits);refine hKo _ _ fun fa7 fh7 => ?_;clear hKo Ko fh6 fa6;refine Kn.pure fh7 rfl rfl .none (Kn.ex_assign fh7 (.tmp rfl)) fun fa8 fh8 => ?_;clear fh7 fa7;refine wpList_nil ?_;refine hK6 _ _ ?_;clear hK6 K6;replace fh8 := fh8.cut (.cons (t := 0) rfl (.cons (t := 2) rfl .nil));refine wp_region_lit ?_;refine Kn.pure fh8 rfl rfl .none (Kn.ex_move fh8 (.tmp rfl)) fun fa9 fh9 => ?_;clear fh8 fa8;refine Kn.step fh9 rfl rfl .none (Kn.ex_bin fh9 (.tmp rfl) .const) fun Ko hKo => ?_;go_simp;(try go_bits);refine hKo _ _ fun fa10 fh10 => ?_;clear hKo Ko fh9 fa9;refine Kn.pure fh10 rfl rfl .none (Kn.ex_assign fh10 (.tmp rfl)) fun fa11 fh11 => ?_;clear fh10 fa10;refine wpList_nil ?_;refine hK4 _ _ ?_;clear hK4 K4;replace fh11 := fh11.cut (.cons (t := 2) rfl (.cons (t := 0) rfl .nil));clear ry;refine wp_seq_k fun K7 hK7 => ?_;refine wp_seq_k fun K8 hK8 => ?_;refine wp_region_lit ?_;refine Kn.pure fh11 rfl rfl .none (Kn.ex_move fh11 (.tmp rfl)) fun fa12 fh12 => ?_;clear fh11 fa11;refine Kn.step fh12 rfl rfl .none (Kn.ex_bin fh12 (.tmp rfl) .const) fun Ko hKo => ?_;go_simp;(try go_bits);refine hKo _ _ fun fa13 fh13 => ?_;clear hKo Ko fh12 fa12;refine wpList_nil ?_;refine hK8 _ _ ?_;clear hK8 K8;replace fh13 := fh13.cut (.cons (t := 14) rfl (.cons (t := 2) rfl (.cons (t := 0) rfl .nil)));refine Kn.no fh13 (.tmp rfl) ?_;refine wp_skip ?_;refine hK7 _ _ ?_;clear hK7 K7;replace fh13 := fh13.cut (.cons (t := 2) rfl (.cons (t := 0) rfl .nil));obtain ⟨b, hb⟩ : ∃ b, blen y = b := ⟨_, rfl⟩;have hb8 : b ≤ 8 := by have := blen_8 y_lt; omega
    have hbx : blen x = 16 + b := by rw [← hb]; exact blen_div (k := 16) HY.out (by omega)
    obtain ⟨c, hc⟩ : ∃ c, blen x = c := ⟨_, rfl⟩;have rc : (16 : Int) + (b : Int) = (c : Int) := by omega
    have HC := Lib.hid hc;clear hc hbx;refine wp_seq_k fun K9 hK9 => ?_;refine wp_region_lit ?_;refine Kn.pure fh13 rfl rfl .none (Kn.ex_move fh13 (.tmp rfl)) fun fa14 fh14 => ?_;clear fh13 fa13;refine Kn.pure fh14 rfl rfl .none (Kn.ex_move fh14 (.tmp rfl)) fun fa15 fh15 => ?_;clear fh14 fa14;refine Kn.step fh15 rfl rfl .none (Kn.ex_convert fh15 (.tmp rfl)) fun Ko hKo => ?_;go_simp;(try go_bits);refine hKo _ _ fun fa16 fh16 => ?_;clear hKo Ko fh15 fa15;refine Kn.known fh16 rfl rfl .none (Kn.ex_index fh16 .const (.tmp rfl)) (len8 (by decide +kernel) y_lt hb _) fun fa17 fh17 => ?_;clear fh16 fa16;clear hb;refine Kn.step fh17 rfl rfl .none (Kn.ex_convert fh17 (.tmp rfl)) fun Ko hKo => ?_;go_simp;(try go_bits);refine hKo _ _ fun fa18 fh18 => ?_;clear hKo Ko fh17 fa17;refine Kn.step fh18 rfl rfl .none (Kn.ex_bin fh18 (.tmp rfl) (.tmp rfl)) fun Ko hKo => ?_;go_simp;(try go_bits);try rw [rc]
    refine hKo _ _ fun fa19 fh19 => ?_;clear hKo Ko fh18 fa18;refine Kn.pure fh19 rfl rfl .none (Kn.ex_assign fh19 (.tmp rfl)) fun fa20 fh20 => ?_;clear fh19 fa19;refine wpList_nil ?_;refine hK9 _ _ ?_;clear hK9 K9;replace fh20 := fh20.cut (.cons (t := 2) rfl .nil);refine wp_ret ?_;exact Kn.ret1 fh20 rfl rfl ⟨by rw [HC.out], rfl⟩
  refine wp_seq_k fun K4 hK4 => ?_;refine wp_seq_k fun K5 hK5 => ?_;refine wp_region_lit ?_;refine Kn.pure fh3 rfl rfl .none (Kn.ex_move fh3 (.tmp rfl)) fun fa4 fh4 => ?_;clear fh3 fa3;refine Kn.step fh4 rfl rfl .none (Kn.ex_bin fh4 (.tmp rfl) .const) fun Ko hKo => ?_;go_simp;(try go_bits);refine hKo _ _ fun fa5 fh5 => ?_;clear hKo Ko fh4 fa4;refine wpList_nil ?_;refine hK5 _ _ ?_;clear hK5 K5;replace fh5 := fh5.cut (.cons (t := 8) rfl (.cons (t := 2) rfl (.cons (t := 0) rfl .nil)));refine Kn.no fh5 (.tmp rfl) ?_;refine wp_skip ?_;refine hK4 _ _ ?_;clear hK4 K4;replace fh5 := fh5.cut (.cons (t := 2) rfl (.cons (t := 0) rfl .nil))
  by_cases h2 : (256 : Int) ≤ (x : Int)
  · obtain ⟨y, hy⟩ : ∃ y, x / 256 = y := ⟨_, rfl⟩;have ry : (x : Int) / 256 = (y : Int) := by omega
    have y_lt : y < 256 := by omega
    have y_0 : 0 < y := by omega
    have HY : Hid (x / 2 ^ 8 = y) := Lib.hid hy;clear hy;have q2 : ¬ (256 : Int) ≤ (y : Int) := by omega
    refine wp_seq_k fun K6 hK6 => ?_;refine wp_seq_k fun K7 hK7 => ?_;refine wp_region_lit ?_;refine Kn.pure fh5 rfl rfl .none (Kn.ex_move fh5 (.tmp rfl)) fun fa6 fh6 => ?_;clear fh5 fa5;refine Kn.step fh6 rfl rfl .none (Kn.ex_bin fh6 (.tmp rfl) .const) fun Ko hKo => ?_;go_simp;(try go_bits);refine hKo _ _ fun fa7 fh7 => ?_;clear hKo Ko fh6 fa6;refine wpList_nil ?_;refine hK7 _ _ ?_;clear hK7 K7;replace fh7 := fh7.cut (.cons (t := 14) rfl (.cons (t := 2) rfl (.cons (t := 0) rfl .nil)));refine Kn.yes fh7 (.tmp rfl) ?_;replace fh7 := fh7.cut (.cons (t := 2) rfl (.cons (t := 0) rfl .nil));refine wp_seq_k fun K8 hK8 => ?_;refine wp_region_lit ?_;refine Kn.pure fh7 rfl rfl .none (Kn.ex_move fh7 (.tmp rfl)) fun fa8 fh8 => ?_;clear fh7 fa7;refine Kn.step fh8 rfl rfl .none (Kn.ex_bin fh8 (.tmp rfl) .const) fun Ko hKo => ?_;go_simp;(try go_bits);refine hKo _ _ fun fa9 fh9 => ?_;clear hKo Ko fh8 fa8;refine Kn.pure fh9 rfl rfl .none (Kn.ex_assign fh9 (.tmp rfl)) fun fa10 fh10 => ?_;clear fh9 fa9;refine wpList_nil ?_;refine hK8 _ _ ?_;clear hK8 K8;replace fh10 := fh10.cut (.cons (t := 0) rfl (.cons (t := 2) rfl .nil));refine wp_region_lit ?_;refine Kn.pure fh10 rfl rfl .none (Kn.ex_move fh10 (.tmp rfl)) fun fa11 fh11 => ?_;clear fh10 fa10;refine Kn.step fh11 rfl rfl .none (Kn.ex_bin fh11 (.tmp rfl) .const) fun Ko hKo => ?_;go_simp;(try go_bits);refine hKo _ _ fun fa12 fh12 => ?_;clear hKo Ko fh11 fa11;refine Kn.pure fh12 rfl rfl .none (Kn.ex_assign fh12 (.tmp rfl)) fun fa13 fh13 => ?_;clear fh12 fa12;refine wpList_nil ?_;refine hK6 _ _ ?_;clear hK6 K6;replace fh13 := fh13.cut (.cons (t := 2) rfl (.cons (t := 0) rfl .nil));clear ry;obtain ⟨b, hb⟩ : ∃ b, blen y = b := ⟨_, rfl⟩;have hb8 : b ≤ 8 := by have := blen_8 y_lt; omega
    have hbx : blen x = 8 + b := by rw [← hb]; exact blen_div (k := 8) HY.out (by omega)
    obtain ⟨c, hc⟩ : ∃ c, blen x = c := ⟨_, rfl⟩;have rc : (8 : Int) + (b : Int) = (c : Int) := by omega
    have HC := Lib.hid hc;clear hc hbx;refine wp_seq_k fun K9 hK9 => ?_;refine wp_region_lit ?_;refine Kn.pure fh13 rfl rfl .none (Kn.ex_move fh13 (.tmp rfl)) fun fa14 fh14 => ?_;clear fh13 fa13;refine Kn.pure fh14 rfl rfl .none (Kn.ex_move fh14 (.tmp rfl)) fun fa15 fh15 => ?_;clear fh14 fa14;refine Kn.step fh15 rfl rfl .none (Kn.ex_convert fh15 (.tmp rfl)) fun Ko hKo => ?_;go_simp;(try go_bits);refine hKo _ _ fun fa16 fh16 => ?_;clear hKo Ko fh15 fa15;refine Kn.known fh16 rfl rfl .none (Kn.ex_index fh16 .const (.tmp rfl)) (len8 (by decide +kernel) y_lt hb _) fun fa17 fh17 => ?_;clear fh16 fa16;clear hb;refine Kn.step fh17 rfl rfl .none (Kn.ex_convert fh17 (.tmp rfl)) fun Ko hKo => ?_;go_simp;(try go_bits);refine hKo _ _ fun fa18 fh18 => ?_;clear hKo Ko fh17 fa17;refine Kn.step fh18 rfl rfl .none (Kn.ex_bin fh18 (.tmp rfl) (.tmp rfl)) fun Ko hKo => ?_;go_simp;(try go_bits);try rw [rc]
    refine hKo _ _ fun fa19 fh19 => ?_;clear hKo Ko fh18 fa18;refine Kn.pure fh19 rfl rfl .none (Kn.ex_assign fh19 (.tmp rfl)) fun fa20 fh20 => ?_;clear fh19 fa19;refine wpList_nil ?_;refine hK9 _ _ ?_;clear hK9 K9;replace fh20 := fh20.cut (.cons (t := 2) rfl .nil);refine wp_ret ?_;exact Kn.ret1 fh20 rfl rfl ⟨by rw [HC.out], rfl⟩
  have x_lt : x < 256 := by omega
  refine wp_seq_k fun K6 hK6 => ?_;refine wp_seq_k fun K7 hK7 => ?_;refine wp_region_lit ?_;refine Kn.pure fh5 rfl rfl .none (Kn.ex_move fh5 (.tmp rfl)) fun fa6 fh6 => ?_;clear fh5 fa5;refine Kn.step fh6 rfl rfl .none (Kn.ex_bin fh6 (.tmp rfl) .const) fun Ko hKo => ?_;go_simp;(try go_bits);refine hKo _ _ fun fa7 fh7 => ?_;clear hKo Ko fh6 fa6;refine wpList_nil ?_;refine hK7 _ _ ?_;clear hK7 K7;replace fh7 := fh7.cut (.cons (t := 14) rfl (.cons (t := 2) rfl (.cons (t := 0) rfl .nil)));refine Kn.no fh7 (.tmp rfl) ?_;refine wp_skip ?_;refine hK6 _ _ ?_;clear hK6 K6;replace fh7 := fh7.cut (.cons (t := 2) rfl (.cons (t := 0) rfl .nil));obtain ⟨b, hb⟩ : ∃ b, blen x = b := ⟨_, rfl⟩;have hb8 : b ≤ 8 := by have := blen_8 x_lt; omega
  have hbx : blen x = 0 + b := by rw [← hb]; simp
  obtain ⟨c, hc⟩ : ∃ c, blen x = c := ⟨_, rfl⟩;have rc : (0 : Int) + (b : Int) = (c : Int) := by omega
  have HC := Lib.hid hc;clear hc hbx;refine wp_seq_k fun K8 hK8 => ?_;refine wp_region_lit ?_;refine Kn.pure fh7 rfl rfl .none (Kn.ex_move fh7 (.tmp rfl)) fun fa8 fh8 => ?_;clear fh7 fa7;refine Kn.pure fh8 rfl rfl .none (Kn.ex_move fh8 (.tmp rfl)) fun fa9 fh9 => ?_;clear fh8 fa8;refine Kn.step fh9 rfl rfl .none (Kn.ex_convert fh9 (.tmp rfl)) fun Ko hKo => ?_;go_simp;(try go_bits);refine hKo _ _ fun fa10 fh10 => ?_;clear hKo Ko fh9 fa9;refine Kn.known fh10 rfl rfl .none (Kn.ex_index fh10 .const (.tmp rfl)) (len8 (by decide +kernel) x_lt hb _) fun fa11 fh11 => ?_;clear fh10 fa10;clear hb;refine Kn.step fh11 rfl rfl .none (Kn.ex_convert fh11 (.tmp rfl)) fun Ko hKo => ?_;go_simp;(try go_bits);refine hKo _ _ fun fa12 fh12 => ?_;clear hKo Ko fh11 fa11;refine Kn.step fh12 rfl rfl .none (Kn.ex_bin fh12 (.tmp rfl) (.tmp rfl)) fun Ko hKo => ?_;go_simp;(try go_bits);try rw [rc]
  refine hKo _ _ fun fa13 fh13 => ?_;clear hKo Ko fh12 fa12;refine Kn.pure fh13 rfl rfl .none (Kn.ex_assign fh13 (.tmp rfl)) fun fa14 fh14 => ?_;clear fh13 fa13;refine wpList_nil ?_;refine hK8 _ _ ?_;clear hK8 K8;replace fh14 := fh14.cut (.cons (t := 2) rfl .nil);refine wp_ret ?_;exact Kn.ret1 fh14 rfl rfl ⟨by rw [HC.out], rfl⟩
set_option maxRecDepth 100000 in
set_option maxHeartbeats 400000 in
theorem len_any (x : Nat) (w : World) (hx : x < 16777216) :
    Calls Tryd.prog 60 #[.int .u64 (x : Int)] w fun e w' => e = .returned (.int .i64 (blen x : Int)) ∧ w = w' := by
  refine Kn.calls Tryd.func60 rfl Tryd.ntmps60 rfl (.cons (t := 0) rfl .nil) fun fa0 fh0 => ?_;refine wp_seq_k fun K1 hK1 => ?_;refine wp_region_lit ?_;refine Kn.pure fh0 rfl rfl .none (Kn.ex_assign fh0 .const) fun fa1 fh1 => ?_;clear fh0 fa0;refine wpList_nil ?_;refine hK1 _ _ ?_;clear hK1 K1;refine wp_seq_k fun K2 hK2 => ?_;refine Kn.no fh1 .const ?_;refine wp_skip ?_;refine hK2 _ _ ?_;clear hK2 K2;refine wp_seq_k fun K3 hK3 => ?_;refine wp_region_lit ?_;refine Kn.pure fh1 rfl rfl .none (Kn.ex_move fh1 (.tmp rfl)) fun fa2 fh2 => ?_;clear fh1 fa1;refine Kn.call fh2 rfl rfl .none (Kn.ex_call fh2 (.cons (.tmp rfl) .nil)) Tryd.call68 (len64_any x w hx) fun e w1 hp => ?_;obtain ⟨rfl, rfl⟩ := hp;refine ⟨_, rfl, fun fa3 fh3 => ?_⟩;clear fh2 fa2;refine Kn.pure fh3 rfl rfl .none (Kn.ex_assign fh3 (.tmp rfl)) fun fa4 fh4 => ?_;clear fh3 fa3;refine wpList_nil ?_;refine hK3 _ _ ?_;clear hK3 K3;replace fh4 := fh4.cut (.cons (t := 2) rfl .nil);refine wp_ret ?_;exact Kn.ret1 fh4 rfl rfl ⟨rfl, rfl⟩
theorem shl_one (b : Nat) (hb : b ≤ 24) : wrap64 (2 ^ b) = ((2 ^ b : Nat) : Int) := (show ∀ b, b ≤ 24 → wrap64 (2 ^ b) = ((2 ^ b : Nat) : Int) by decide +kernel) b hb
theorem split_math {n : Nat} (h2 : 2 ≤ n) (hn : n ≤ 1048576) : ∃ m b p : Nat, n - 1 = m ∧ m < 16777216 ∧ blen m = b + 1 ∧ b ≤ 24 ∧ wrap64 (2 ^ b) = (p : Int) ∧ hp n = p ∧ 1 ≤ p ∧ p < n := by
  have h0 : n - 1 ≠ 0 := by omega
  have hlt : n - 1 < 16777216 := by omega
  have hb24 : Nat.log2 (n - 1) ≤ 24 := by
    have e : (16777216 : Nat) = 2 ^ 24 := by decide
    have := (Nat.log2_lt (n := n - 1) h0 (k := 24)).2 (by rw [← e]; exact hlt);omega
  have hpi := hp_in h2;exact ⟨n - 1, Nat.log2 (n - 1), hp n, rfl, hlt, by rw [blen, if_neg h0], hb24, shl_one _ hb24, rfl, hpi.1, hpi.2.1⟩
set_option maxRecDepth 100000 in
set_option maxHeartbeats 400000 in
theorem split_any (f n : Nat) (w : World) (h2 : 2 ≤ n) (hn : n ≤ 1048576) (hf : f ≤ 1048576) :
    Calls Tryd.prog 45 #[.agg #[.int .i64 (f : Int), .int .i64 (n : Int)]] w fun e w' => e = .returned (.tuple #[.agg #[.int .i64 (f : Int), .int .i64 (hp n : Int)], .agg #[.int .i64 ((f + hp n : Nat) : Int), .int .i64 ((n - hp n : Nat) : Int)]]) ∧ Below w.heap.size w w' := by
  refine Kn.calls Tryd.func45 rfl Tryd.ntmps45 rfl (.cons (t := 0) rfl .nil) fun fa0 fh0 => ?_;refine wp_seq_k fun K1 hK1 => ?_;refine wp_region_lit ?_;refine Kn.step fh0 rfl rfl .none (Kn.ex_box fh0 (.tmp rfl)) fun Ko hKo => ?_;go_simp;(try go_bits);refine hKo _ _ fun fa1 fh1 => ?_;clear hKo Ko fh0 fa0;refine Kn.step fh1 rfl rfl .none Kn.ex_alloc fun Ko hKo => ?_;go_simp;(try go_bits);refine hKo _ _ fun fa2 fh2 => ?_;clear hKo Ko fh1 fa1;refine Kn.step fh2 rfl rfl .none Kn.ex_alloc fun Ko hKo => ?_;go_simp;(try go_bits);refine hKo _ _ fun fa3 fh3 => ?_;clear hKo Ko fh2 fa2;refine wpList_nil ?_;refine hK1 _ _ ?_;clear hK1 K1;replace fh3 := fh3.cut (.cons (t := 3) rfl (.cons (t := 2) rfl (.cons (t := 1) rfl .nil)));refine Kn.gen (fun u => (St.St u w.heap.size 65 #[.int .i64 (f : Int), .int .i64 (n : Int)] ∧ St.St u (w.heap.size + 1) 65 #[.int .i64 0, .int .i64 0] ∧ St.St u (w.heap.size + 1 + 1) 65 #[.int .i64 0, .int .i64 0]) ∧ Below w.heap.size w u) ⟨⟨((St.St.new w _ _).alloc _).alloc _, (by have := (St.St.new (w.alloc (.cells #[.int .i64 (f : Int), .int .i64 (n : Int)] 65)) 65 #[.int .i64 0, .int .i64 0]).alloc (.cells #[.int .i64 0, .int .i64 0] 65); simpa using this), (by have := St.St.new ((w.alloc (.cells #[.int .i64 (f : Int), .int .i64 (n : Int)] 65)).alloc (.cells #[.int .i64 0, .int .i64 0] 65)) 65 #[.int .i64 0, .int .i64 0]; simpa using this)⟩, (((Below.refl _ w).alloc (Nat.le_refl _) _).alloc (by simp) _).alloc (by simp [Nat.add_assoc]) _⟩ fun u hu => ?_;obtain ⟨⟨hs1, hs2, hs3⟩, hb⟩ := hu;obtain ⟨g, hg⟩ : ∃ g, w.heap.size = g := ⟨_, rfl⟩;obtain ⟨g1, hg1⟩ : ∃ k, g + 1 = k := ⟨_, rfl⟩;obtain ⟨g2, hg2⟩ : ∃ k, g1 + 1 = k := ⟨_, rfl⟩;rw [hg, hg1, hg2] at hs3 fh3;rw [hg, hg1] at hs2;rw [hg] at hs1;have c10 := hs1.cell 0 rfl;have c11 := hs1.cell 1 rfl;obtain ⟨m, b, p, hm, hm24, hb1, hb24, hsl, hp1, hp0, hpn⟩ := split_math h2 hn;have rm : (n : Int) - 1 = (m : Int) := by omega
  have hlen := fun v => len_any m v hm24;obtain ⟨b1, hb1e⟩ : ∃ k, b + 1 = k := ⟨_, rfl⟩;rw [hb1, hb1e] at hlen;have rb : (b1 : Int) - 1 = (b : Int) := by omega
  have HSL := Lib.hid hsl;have HP := Lib.hid hp1;clear hsl hp1 hb1;obtain ⟨s, hs⟩ : ∃ s, f + p = s := ⟨_, rfl⟩;obtain ⟨r, hr⟩ : ∃ r, n - p = r := ⟨_, rfl⟩;have rs : (f : Int) + (p : Int) = (s : Int) := by omega
  have rr : (n : Int) - (p : Int) = (r : Int) := by omega
  have HS := Lib.hid hs;have HR := Lib.hid hr;have HS1 := Lib.hid hs1;have HS2 := Lib.hid hs2;have HS3 := Lib.hid hs3;have HB := Lib.hid hb;have hg12 : g1 ≠ g2 := by omega
  have hl2 : w.heap.size ≤ g1 ∧ w.heap.size ≤ g2 ∧ g < g1 ∧ g1 < g2 := by omega
  have HH := Lib.hid hl2;clear hs hr hg1 hg2 hs1 hs2 hs3 hb hg hm hl2 hb1e hm24;refine wp_seq_k fun K2 hK2 => ?_;refine wp_region_lit ?_;refine Kn.step fh3 rfl rfl .none (Kn.ex_fieldAddr fh3 (.tmp rfl)) fun Ko hKo => ?_;go_simp;(try go_bits);refine hKo _ _ fun fa4 fh4 => ?_;clear hKo Ko fh3 fa3;refine Kn.step fh4 rfl rfl .none (Kn.ex_load fh4 (.tmp rfl)) fun Ko hKo => ?_;go_simp;(try go_bits);refine hKo _ _ fun fa5 fh5 => ?_;clear hKo Ko fh4 fa4;refine Kn.step fh5 rfl rfl .none (Kn.ex_bin fh5 (.tmp rfl) .const) fun Ko hKo => ?_;go_simp;(try go_bits);try rw [rm]
  refine hKo _ _ fun fa6 fh6 => ?_;clear hKo Ko fh5 fa5;refine Kn.step fh6 rfl rfl .none (Kn.ex_convert fh6 (.tmp rfl)) fun Ko hKo => ?_;go_simp;(try go_bits);refine hKo _ _ fun fa7 fh7 => ?_;clear hKo Ko fh6 fa6;refine Kn.call fh7 rfl rfl .none (Kn.ex_call fh7 (.cons (.tmp rfl) .nil)) Tryd.call60 (hlen _) fun e u1 hp => ?_;obtain ⟨rfl, rfl⟩ := hp;refine ⟨_, rfl, fun fa8 fh8 => ?_⟩;clear fh7 fa7;refine Kn.step fh8 rfl rfl .none (Kn.ex_bin fh8 (.tmp rfl) .const) fun Ko hKo => ?_;go_simp;(try go_bits);try rw [rb]
  refine hKo _ _ fun fa9 fh9 => ?_;clear hKo Ko fh8 fa8;refine Kn.step fh9 rfl rfl .none (Kn.ex_bin fh9 .const (.tmp rfl)) fun Ko hKo => ?_;go_simp;(try go_bits);try rw [HSL.out]
  refine hKo _ _ fun fa10 fh10 => ?_;clear hKo Ko fh9 fa9;refine Kn.pure fh10 rfl rfl .none (Kn.ex_assign fh10 (.tmp rfl)) fun fa11 fh11 => ?_;clear fh10 fa10;refine wpList_nil ?_;refine hK2 _ _ ?_;clear hK2 K2;replace fh11 := fh11.cut (.cons (t := 4) rfl (.cons (t := 3) rfl (.cons (t := 2) rfl (.cons (t := 1) rfl .nil))));clear hlen HSL rm rb;refine wp_seq_k fun K3 hK3 => ?_;refine Kn.anyU (fun u => St.St u g 65 #[.int .i64 (f : Int), .int .i64 (n : Int)] ∧ (∃ x, St.St u g1 65 x ∧ x.size = 2) ∧ (∃ x, St.St u g2 65 x ∧ x.size = 2) ∧ Below w.heap.size w u) (fun u u' => (St.St u g1 65 #[.int .i64 (f : Int), .int .i64 (p : Int)] → St.St u' g1 65 #[.int .i64 (f : Int), .int .i64 (p : Int)]) ∧ (St.St u g2 65 #[.int .i64 (s : Int), .int .i64 (r : Int)] → St.St u' g2 65 #[.int .i64 (s : Int), .int .i64 (r : Int)])) (Kn.TL [Kn.Is (.pointer (some ⟨g, 0, none⟩)), Kn.Is (.int .i64 (f : Int)), Kn.Is (.int .i64 (p : Int)), Kn.Is (.agg #[.int .i64 (f : Int), .int .i64 (p : Int)]), Kn.Is (.pointer (some ⟨g, 0, none⟩)), Kn.Is (.int .i64 (f : Int)), Kn.Is (.int .i64 (p : Int)), Kn.Is (.int .i64 (s : Int)), Kn.Is (.pointer (some ⟨g, 1, none⟩)), Kn.Is (.int .i64 (n : Int)), Kn.Is (.int .i64 (p : Int)), Kn.Is (.int .i64 (r : Int)), Kn.Is (.agg #[.int .i64 (s : Int), .int .i64 (r : Int)]), (fun _ u => St.St u g1 65 #[.int .i64 (f : Int), .int .i64 (p : Int)]), (fun _ u => St.St u g2 65 #[.int .i64 (s : Int), .int .i64 (r : Int)])]) (by kernel_rfl) fh11 (by kernel_rfl) (by kernel_rfl) rfl (Kn.Keeps.all (.cons Kn.Is.keep (.cons Kn.Is.keep (.cons Kn.Is.keep (.cons Kn.Is.keep (.cons Kn.Is.keep (.cons Kn.Is.keep (.cons Kn.Is.keep (.cons Kn.Is.keep (.cons Kn.Is.keep (.cons Kn.Is.keep (.cons Kn.Is.keep (.cons Kn.Is.keep (.cons Kn.Is.keep (.cons (fun _ _ _ hG h => hG.1 h) (.cons (fun _ _ _ hG h => hG.2 h) .nil)))))))))))))))) ⟨HS1.out.drewN 1, ⟨_, HS2.out.drewN 1, rfl⟩, ⟨_, HS3.out.drewN 1, rfl⟩, Own.below_drewN HB.out 1⟩ ⟨?_, ?_, ?_, ?_, ?_, ?_, ?_, ?_, ?_, ?_, ?_, ?_, ?_, ?_, ?_, trivial⟩ ?_
  · refine Kn.ok fun fa12 u2 L fh12 hS hH => ?_;refine Kn.aop fh12 .none (Kn.ex_fieldAddr fh12 (.tmp rfl)) fun Ko hKo => ?_;go_simp;(try go_bits);exact hKo _ _ rfl hS (⟨fun h => h, fun h => h⟩)
  · refine Kn.ok fun fa12 u2 L fh12 hS hH => ?_;replace fh12 := fh12.more (show fa12.eval (.tmp 12) = .pointer (some ⟨g, 0, none⟩) from hH 0 12 rfl rfl);have qk := hS.1.cell 0 rfl;refine Kn.aop fh12 .none (Kn.ex_load fh12 (.tmp rfl)) fun Ko hKo => ?_;go_simp;(try go_bits);exact hKo _ _ rfl hS (⟨fun h => h, fun h => h⟩)
  · refine Kn.ok fun fa12 u2 L fh12 hS hH => ?_;exact Kn.apure fh12 .none (Kn.ex_move fh12 (.tmp rfl)) rfl hS (⟨fun h => h, fun h => h⟩)
  · refine Kn.ok fun fa12 u2 L fh12 hS hH => ?_;replace fh12 := fh12.more (show fa12.eval (.tmp 13) = .int .i64 (f : Int) from hH 1 13 rfl rfl);replace fh12 := fh12.more (show fa12.eval (.tmp 14) = .int .i64 (p : Int) from hH 2 14 rfl rfl);refine Kn.aop fh12 .none (Kn.ex_build fh12 (.cons (.tmp rfl) (.cons (.tmp rfl) .nil))) fun Ko hKo => ?_;go_simp;(try go_bits);exact hKo _ _ rfl hS (⟨fun h => h, fun h => h⟩)
  · refine Kn.ok fun fa12 u2 L fh12 hS hH => ?_;refine Kn.aop fh12 .none (Kn.ex_fieldAddr fh12 (.tmp rfl)) fun Ko hKo => ?_;go_simp;(try go_bits);exact hKo _ _ rfl hS (⟨fun h => h, fun h => h⟩)
  · refine Kn.ok fun fa12 u2 L fh12 hS hH => ?_;replace fh12 := fh12.more (show fa12.eval (.tmp 16) = .pointer (some ⟨g, 0, none⟩) from hH 4 16 rfl rfl);have qk := hS.1.cell 0 rfl;refine Kn.aop fh12 .none (Kn.ex_load fh12 (.tmp rfl)) fun Ko hKo => ?_;go_simp;(try go_bits);exact hKo _ _ rfl hS (⟨fun h => h, fun h => h⟩)
  · refine Kn.ok fun fa12 u2 L fh12 hS hH => ?_;exact Kn.apure fh12 .none (Kn.ex_move fh12 (.tmp rfl)) rfl hS (⟨fun h => h, fun h => h⟩)
  · refine Kn.ok fun fa12 u2 L fh12 hS hH => ?_;replace fh12 := fh12.more (show fa12.eval (.tmp 17) = .int .i64 (f : Int) from hH 5 17 rfl rfl);replace fh12 := fh12.more (show fa12.eval (.tmp 18) = .int .i64 (p : Int) from hH 6 18 rfl rfl);refine Kn.aop fh12 .none (Kn.ex_bin fh12 (.tmp rfl) (.tmp rfl)) fun Ko hKo => ?_;go_simp;(try go_bits);try rw [rs]
    exact hKo _ _ rfl hS (⟨fun h => h, fun h => h⟩)
  · refine Kn.ok fun fa12 u2 L fh12 hS hH => ?_;refine Kn.aop fh12 .none (Kn.ex_fieldAddr fh12 (.tmp rfl)) fun Ko hKo => ?_;go_simp;(try go_bits);exact hKo _ _ rfl hS (⟨fun h => h, fun h => h⟩)
  · refine Kn.ok fun fa12 u2 L fh12 hS hH => ?_;replace fh12 := fh12.more (show fa12.eval (.tmp 20) = .pointer (some ⟨g, 1, none⟩) from hH 8 20 rfl rfl);have qk := hS.1.cell 1 rfl;refine Kn.aop fh12 .none (Kn.ex_load fh12 (.tmp rfl)) fun Ko hKo => ?_;go_simp;(try go_bits);exact hKo _ _ rfl hS (⟨fun h => h, fun h => h⟩)
  · refine Kn.ok fun fa12 u2 L fh12 hS hH => ?_;exact Kn.apure fh12 .none (Kn.ex_move fh12 (.tmp rfl)) rfl hS (⟨fun h => h, fun h => h⟩)
  · refine Kn.ok fun fa12 u2 L fh12 hS hH => ?_;replace fh12 := fh12.more (show fa12.eval (.tmp 21) = .int .i64 (n : Int) from hH 9 21 rfl rfl);replace fh12 := fh12.more (show fa12.eval (.tmp 22) = .int .i64 (p : Int) from hH 10 22 rfl rfl);refine Kn.aop fh12 .none (Kn.ex_bin fh12 (.tmp rfl) (.tmp rfl)) fun Ko hKo => ?_;go_simp;(try go_bits);try rw [rr]
    exact hKo _ _ rfl hS (⟨fun h => h, fun h => h⟩)
  · refine Kn.ok fun fa12 u2 L fh12 hS hH => ?_;replace fh12 := fh12.more (show fa12.eval (.tmp 19) = .int .i64 (s : Int) from hH 7 19 rfl rfl);replace fh12 := fh12.more (show fa12.eval (.tmp 23) = .int .i64 (r : Int) from hH 11 23 rfl rfl);refine Kn.aop fh12 .none (Kn.ex_build fh12 (.cons (.tmp rfl) (.cons (.tmp rfl) .nil))) fun Ko hKo => ?_;go_simp;(try go_bits);exact hKo _ _ rfl hS (⟨fun h => h, fun h => h⟩)
  · refine Kn.ok fun fa12 u2 L fh12 hS hH => ?_;replace fh12 := fh12.more (show fa12.eval (.tmp 15) = .agg #[.int .i64 (f : Int), .int .i64 (p : Int)] from hH 3 15 rfl rfl);obtain ⟨k1, ⟨x, k2, hx⟩, ⟨y, k3, hy⟩, k4⟩ := hS;obtain ⟨hst, hS2, hB2⟩ := k2.store (P := Tryd.prog) (cells := #[.int .i64 (f : Int), .int .i64 (p : Int)]) (by kernel_rfl) hx (by simp [Value.oneCell']);have hg0 := HH.out;have hne : g2 ≠ g1 := by omega
    have hne0 : g ≠ g1 := by omega
    refine Kn.aopU fh12 rfl .none (Kn.ex_store fh12 (.tmp rfl) (.tmp rfl)) fun Ko hKo => ?_;refine Kn.satU_runA hst ?_;exact hKo _ hS2 ⟨k1.setRow hne0 _, ⟨_, hS2, rfl⟩, ⟨y, k3.setRow hne _, hy⟩, k4.trans (hB2 _ (by omega))⟩ ⟨fun _ => hS2, fun h => h.setRow hne _⟩
  · refine Kn.ok fun fa12 u2 L fh12 hS hH => ?_;replace fh12 := fh12.more (show fa12.eval (.tmp 24) = .agg #[.int .i64 (s : Int), .int .i64 (r : Int)] from hH 12 24 rfl rfl);obtain ⟨k1, ⟨x, k2, hx⟩, ⟨y, k3, hy⟩, k4⟩ := hS;obtain ⟨hst, hS2, hB2⟩ := k3.store (P := Tryd.prog) (cells := #[.int .i64 (s : Int), .int .i64 (r : Int)]) (by kernel_rfl) hy (by simp [Value.oneCell']);have hg0 := HH.out;have hne : g1 ≠ g2 := by omega
    have hne0 : g ≠ g2 := by omega
    refine Kn.aopU fh12 rfl .none (Kn.ex_store fh12 (.tmp rfl) (.tmp rfl)) fun Ko hKo => ?_;refine Kn.satU_runA hst ?_;exact hKo _ hS2 ⟨k1.setRow hne0 _, ⟨x, k2.setRow hne _, hx⟩, ⟨_, hS2, rfl⟩, k4.trans (hB2 _ (by omega))⟩ ⟨fun h => h.setRow hne _, fun _ => hS2⟩
  intro fa12 u3 fh12 hS hT hU;clear fh11 fa11;clear hT;refine hK3 _ _ ?_;clear hK3 K3;replace fh12 := fh12.cut (.cons (t := 3) rfl (.cons (t := 2) rfl .nil));obtain ⟨v5, hS5⟩ := hU 13 _ rfl rfl;obtain ⟨v4, hS4⟩ := hU 14 _ rfl rfl;replace hS5 : St.St u3 g1 65 #[.int .i64 (f : Int), .int .i64 (p : Int)] := hS5;replace hS4 : St.St u3 g2 65 #[.int .i64 (s : Int), .int .i64 (r : Int)] := hS4;have hBB := hS.2.2.2;clear hS hU;refine wp_ret ?_;exact Kn.retSS fh12 rfl rfl rfl hS5 Tryd.underlying65 rfl (by kernel_rfl) hS4 Tryd.underlying65 rfl (by kernel_rfl) ⟨by rw [HP.out, HS.out, HR.out], hBB⟩
end Go.Proofs.YtcamanopfhbchaaDoor.Mrk
end
section
namespace Go.Proofs.YtcamanopfhbchaaDoor.Mrk
open Go Go.RowKit Go.Lib RowG
theorem hfL_pow (n : Nat) : ∀ (d k j : Nat), n - k ≤ d → k = 2 ^ j → k < n → ∃ i, hfL k n = 2 ^ i := by
  intro d
  induction d with
  | zero => intro k j h hk h1; omega
  | succ d ih =>
    intro k j h hk h1
    by_cases h2 : 2 * k < n
    · have h0 : 0 < k := by rw [hk]; exact Nat.two_pow_pos j
      rw [hfL_step h0 h2];exact ih (2 * k) (j + 1) (by omega) (by rw [hk, Nat.pow_succ, Nat.mul_comm]) h2
    · rw [hfL_end h2];exact ⟨j, hk⟩
theorem hf_hp {n : Nat} (h : 2 ≤ n) : hf n = hp n := by
  obtain ⟨i, hi⟩ := hfL_pow n (n - 1) 1 0 (Nat.le_refl _) rfl (by omega);have e : hf n = 2 ^ i := hi;have hk := hf_in h;rw [e] at hk ⊢;have : Nat.log2 (n - 1) = i := log2_is (by omega) (by rw [Nat.pow_succ]; omega);rw [hp, this]
theorem hf_half {n d : Nat} (h : 2 ≤ n) (hd : n ≤ 2 ^ d) : 1 ≤ d ∧ hf n ≤ 2 ^ (d - 1) ∧ n - hf n ≤ 2 ^ (d - 1) := by
  cases d with
  | zero => simp at hd; omega
  | succ d =>
    have hk := hf_in h;rw [Nat.add_sub_cancel]
    have h1 : hf n ≤ 2 ^ d := by
      rw [hf_hp h, hp];refine Nat.pow_le_pow_right (by omega) ?_;have := (Nat.log2_lt (n := n - 1) (by omega) (k := d + 1)).2 (by omega);omega
    omega
def besF (f i n : Nat) : List (Nat × Nat) :=
  if h : n < 2 then []
  else
    have hk := hf_in (n := n) (by omega)
    if i < hf n then besF f i (hf n) ++ [(f + hf n, n - hf n)] else besF (f + hf n) (i - hf n) (n - hf n) ++ [(f, hf n)]
termination_by n
theorem besF_0 {f i n : Nat} (h : n < 2) : besF f i n = [] := by rw [besF, dif_pos h]
theorem besF_l {f i n : Nat} (h : 2 ≤ n) (hi : i < hf n) : besF f i n = besF f i (hf n) ++ [(f + hf n, n - hf n)] := by rw [besF, dif_neg (by omega), if_pos hi]
theorem besF_r {f i n : Nat} (h : 2 ≤ n) (hi : ¬ i < hf n) : besF f i n = besF (f + hf n) (i - hf n) (n - hf n) ++ [(f, hf n)] := by rw [besF, dif_neg (by omega), if_neg hi]
theorem besF_len : ∀ (m n f i : Nat), n ≤ m → (besF f i n).length = stF i n := by
  intro m
  induction m with
  | zero => intro n f i h; rw [besF_0 (by omega), stF_0 (by omega)]; rfl
  | succ m ih =>
    intro n f i h;rcases Nat.lt_or_ge n 2 with h2 | h2
    · rw [besF_0 h2, stF_0 h2]; rfl
    · have hk := hf_in h2
      by_cases hi : i < hf n
      · rw [besF_l h2 hi, stF_l h2 hi, List.length_append, ih _ _ _ (by omega), List.length_singleton]; omega
      · rw [besF_r h2 hi, stF_r h2 hi, List.length_append, ih _ _ _ (by omega), List.length_singleton]; omega
theorem besF_in : ∀ (m n f i : Nat), n ≤ m → ∀ p ∈ besF f i n, f ≤ p.1 ∧ 1 ≤ p.2 ∧ p.1 + p.2 ≤ f + n := by
  intro m
  induction m with
  | zero => intro n f i h p hp; rw [besF_0 (by omega)] at hp; cases hp
  | succ m ih =>
    intro n f i h p hp;rcases Nat.lt_or_ge n 2 with h2 | h2
    · rw [besF_0 h2] at hp; cases hp
    · have hk := hf_in h2
      by_cases hi : i < hf n
      · rw [besF_l h2 hi, List.mem_append, List.mem_singleton] at hp;rcases hp with hp | rfl
        · have := ih _ _ _ (by omega) p hp; omega
        · show f ≤ f + hf n ∧ 1 ≤ n - hf n ∧ f + hf n + (n - hf n) ≤ f + n;omega
      · rw [besF_r h2 hi, List.mem_append, List.mem_singleton] at hp;rcases hp with hp | rfl
        · have := ih _ _ _ (by omega) p hp; omega
        · show f ≤ f ∧ 1 ≤ hf n ∧ f + hf n ≤ f + n;omega
def upS (i : Nat) (d : ByteArray) (x : (Nat × Nat) × ByteArray) : ByteArray := if i < x.1.1 then sm (c1 ++ d ++ x.2) else sm (c1 ++ x.2 ++ d)
theorem up_fold : ∀ (m n f i : Nat) (pf : List ByteArray) (d : ByteArray), n ≤ m → i < n → pf.length = stF i n → ((besF f i n).zip pf).foldl (upS (f + i)) d = upD i n d pf := by
  intro m
  induction m with
  | zero => intro n f i pf d h hi; omega
  | succ m ih =>
    intro n f i pf d h hin hl;rcases Nat.lt_or_ge n 2 with h2 | h2
    · rw [besF_0 h2, upD_0 h2]; rfl
    · have hk := hf_in h2
      have hl1 : pf.length = (pf.length - 1) + 1 := by
        by_cases hi : i < hf n
        · rw [stF_l h2 hi] at hl; omega
        · rw [stF_r h2 hi] at hl; omega
      have hne : pf ≠ [] := fun e => by rw [e] at hl1; simp at hl1
      have hdec : pf = pf.dropLast ++ [pf.getLastD ByteArray.empty] := by
        rw [List.getLastD_eq_getLast?, List.getLast?_eq_some_getLast hne];exact (List.dropLast_concat_getLast hne).symm
      by_cases hi : i < hf n
      · have hd : pf.dropLast.length = stF i (hf n) := by rw [List.length_dropLast, hl, stF_l h2 hi]; omega
        rw [upD_l h2 hi, besF_l h2 hi]
        conv => lhs; rw [hdec]
        rw [List.zip_append (by rw [besF_len _ _ _ _ (Nat.le_refl _), hd]), List.foldl_append, ih _ _ _ _ _ (by omega) hi hd];simp only [List.zip_cons_cons, List.zip_nil_left, List.foldl_cons, List.foldl_nil, upS];rw [if_pos (by omega)]
      · have hd : pf.dropLast.length = stF (i - hf n) (n - hf n) := by rw [List.length_dropLast, hl, stF_r h2 hi]; omega
        rw [upD_r h2 hi, besF_r h2 hi]
        conv => lhs; rw [hdec]
        have e : f + i = f + hf n + (i - hf n) := by omega
        rw [List.zip_append (by rw [besF_len _ _ _ _ (Nat.le_refl _), hd]), List.foldl_append, e, ih _ _ _ _ _ (by omega) (by omega) hd];simp only [List.zip_cons_cons, List.zip_nil_left, List.foldl_cons, List.foldl_nil, upS];rw [if_neg (by omega)]
def Rt (bl : List ByteArray) (f n : Nat) : ByteArray := (rootP ((bl.drop f).take n)).1
theorem Rt_size (bl : List ByteArray) (f n : Nat) : (Rt bl f n).size = 32 := rootP_size _
theorem take_part {α : Type} (bl : List α) (f n k : Nat) (h : k ≤ n) : ((bl.drop f).take n).take k = (bl.drop f).take k := by rw [List.take_take, Nat.min_eq_left h]
theorem drop_part {α : Type} (bl : List α) (f n k : Nat) : ((bl.drop f).take n).drop k = (bl.drop (f + k)).take (n - k) := by rw [List.drop_take, List.drop_drop]
theorem part_len {α : Type} (bl : List α) (f n : Nat) (h : f + n ≤ bl.length) : ((bl.drop f).take n).length = n := by rw [List.length_take, List.length_drop]; omega
theorem Rt_1 {bl : List ByteArray} {f : Nat} {s : ByteArray} (h : bl[f]? = some s) : Rt bl f 1 = sm (c0 ++ s) := by
  have hlt := (List.getElem?_eq_some_iff.1 h).1
  have e : (bl.drop f).take 1 = [s] := by
    rw [List.drop_eq_getElem_cons hlt];have := (List.getElem?_eq_some_iff.1 h).2;simp [this]
  rw [Rt, e, rootP_1]
theorem Rt_2 {bl : List ByteArray} {f n : Nat} (h : 2 ≤ n) (hl : f + n ≤ bl.length) : Rt bl f n = sm (c1 ++ Rt bl f (hf n) ++ Rt bl (f + hf n) (n - hf n)) := by
  have hk := hf_in h;have e := part_len bl f n hl;rw [Rt, rootP_2 (by rw [e]; exact h), e, take_part _ _ _ _ (by omega), drop_part]
  rfl
theorem Rt_all (bl : List ByteArray) : Rt bl 0 bl.length = (rootP bl).1 := by rw [Rt, List.drop_zero, List.take_length]
theorem proof_bes (bl : List ByteArray) : ∀ (m n f i : Nat), n ≤ m → f + n ≤ bl.length → proofF i ((bl.drop f).take n) = (besF f i n).map fun p => Rt bl p.1 p.2 := by
  intro m
  induction m with
  | zero => intro n f i h hl; rw [besF_0 (by omega), proofF_0 (by rw [part_len _ _ _ hl]; omega)]; rfl
  | succ m ih =>
    intro n f i h hl;have e := part_len bl f n hl;rcases Nat.lt_or_ge n 2 with h2 | h2
    · rw [besF_0 h2, proofF_0 (by rw [e]; exact h2)]; rfl
    · have hk := hf_in h2
      by_cases hi : i < hf n
      · rw [proofF_l (by rw [e]; exact h2) (by rw [e]; exact hi), e, take_part _ _ _ _ (by omega), drop_part, besF_l h2 hi, List.map_append, ih _ _ _ (by omega) (by omega)]
        rfl
      · rw [proofF_r (by rw [e]; exact h2) (by rw [e]; exact hi), e, take_part _ _ _ _ (by omega), drop_part, besF_r h2 hi, List.map_append, ih _ _ _ (by omega) (by omega)]
        rfl
def InT (f n a b : Nat) : Prop :=
  (a = f ∧ b = n) ∨ (if h : n < 2 then False else
    have hk := hf_in (n := n) (by omega)
    InT f (hf n) a b ∨ InT (f + hf n) (n - hf n) a b)
termination_by n
theorem InT_self (f n : Nat) : InT f n f n := by rw [InT]; exact .inl ⟨rfl, rfl⟩
theorem InT_1 {f n a b : Nat} (h : n < 2) (h1 : InT f n a b) : a = f ∧ b = n := by
  rw [InT, dif_pos h] at h1;rcases h1 with h1 | h1
  · exact h1
  · exact h1.elim
theorem InT_2 {f n a b : Nat} (h : 2 ≤ n) : InT f n a b ↔ (a = f ∧ b = n) ∨ InT f (hf n) a b ∨ InT (f + hf n) (n - hf n) a b := by rw [InT, dif_neg (by omega)]
theorem bes_inT : ∀ (m n f i : Nat), n ≤ m → ∀ p ∈ besF f i n, InT f n p.1 p.2 := by
  intro m
  induction m with
  | zero => intro n f i h p hp; rw [besF_0 (by omega)] at hp; cases hp
  | succ m ih =>
    intro n f i h p hp;rcases Nat.lt_or_ge n 2 with h2 | h2
    · rw [besF_0 h2] at hp; cases hp
    · have hk := hf_in h2
      by_cases hi : i < hf n
      · rw [besF_l h2 hi, List.mem_append, List.mem_singleton] at hp;rcases hp with hp | rfl
        · exact (InT_2 h2).2 (.inr (.inl (ih _ _ _ (by omega) p hp)))
        · exact (InT_2 h2).2 (.inr (.inr (InT_self _ _)))
      · rw [besF_r h2 hi, List.mem_append, List.mem_singleton] at hp;rcases hp with hp | rfl
        · exact (InT_2 h2).2 (.inr (.inr (ih _ _ _ (by omega) p hp)))
        · exact (InT_2 h2).2 (.inr (.inl (InT_self _ _)))
def spR : Rw (Nat × Nat) := ⟨fun p => [.int .i64 (p.1 : Int), .int .i64 (p.2 : Int)], 2, fun _ => rfl, fun _ u hu => by
  simp at hu
  rcases hu with rfl | rfl <;> rfl⟩
end Go.Proofs.YtcamanopfhbchaaDoor.Mrk
end
section
namespace Go.Proofs
open Go.Shelf
def Tryd.layReverse_ren : Go.Shelf.Ren := ⟨fun | 35 => 48 | n => n, fun | 22 => 73 | 23 => 65 | 3 => 3 | 4 => 4 | 0 => 0 | n => n, fun | n => n⟩
theorem Tryd.layReverse : Go.Proofs.SlLaysE0.n35 Tryd.prog Tryd.layReverse_ren := {
  mixed := by kernel_rfl
  f35 := ⟨Tryd.f48.name, by decide, Tryd.func48.trans (congrArg some (by kernel_rfl))⟩
  t0 := Tryd.underlying0
  a0 := Tryd.isAgg0
  z0 := Tryd.sizeOf0
  v0 := Tryd.zeroValue0
  t3 := Tryd.underlying3
  a3 := Tryd.isAgg3
  z3 := Tryd.sizeOf3
  v3 := Tryd.zeroValue3
  t4 := Tryd.underlying4
  a4 := Tryd.isAgg4
  z4 := Tryd.sizeOf4
  v4 := Tryd.zeroValue4
  t22 := Tryd.underlying73
  a22 := Tryd.isAgg73
  z22 := Tryd.sizeOf73
  v22 := Tryd.zeroValue73 }
end Go.Proofs
end
section
namespace Go.Proofs.YtcamanopfhbchaaDoor.Mrk
open Go Go.RowKit Go.Lib RowG Go.Shelf Go.Sort
theorem enc_get {x : Nat × Nat} {j : Nat} {u : Value} (h : (spR.enc x)[j]? = some u) : j < 2 ∧ (spR.enc x)[j]! = u := by
  match j, h with
  | 0, h => exact ⟨by omega, by injection h⟩
  | 1, h => exact ⟨by omega, by injection h⟩
  | j + 2, h => cases h
theorem get_enc {x : Nat × Nat} {j : Nat} (h : j < 2) : (spR.enc x)[j]? = some ((spR.enc x)[j]!) := by
  match j, h with
  | 0, _ => rfl
  | 1, _ => rfl
theorem holdsK_rin {w : World} {g : Nat} {l : List (Nat × Nat)} (h : RIn spR w (some ⟨g, 0, none⟩) l) (hf : ∀ j, w.frozen? ⟨g, j, none⟩ = false) : HoldsK spR.enc 2 w g 0 l.toArray := fun j hj => by
  rw [size_flatK] at hj;have hi : j / 2 < l.length := by simp at hj; omega
  have e : l.toArray[j / 2]! = l[j / 2] := by simp [hi]
  have hm : j % 2 < 2 := Nat.mod_lt _ (by omega);have hc := h.cell (i := j / 2) (j := j % 2) (List.getElem?_eq_getElem hi) (get_enc hm);have e2 : 0 + (j / 2 * spR.size + j % 2) = 0 + j := by show 0 + (j / 2 * 2 + j % 2) = _; omega
  rw [e2] at hc;rw [get_flatK spR.enc 2 l.toArray j hj, e];exact ⟨hc, hf _⟩
theorem rin_holdsK {w : World} {g : Nat} {d : Array (Nat × Nat)} (hg : g < w.heap.size) (h : HoldsK spR.enc 2 w g 0 d) : RIn spR w (some ⟨g, 0, none⟩) d.toList := fun i a hi => by
  refine ⟨g, 0, rfl, hg, fun j u hu => ?_⟩;have hlt : i < d.size := by have := (List.getElem?_eq_some_iff.1 hi).1; simpa using this
  have ha : d[i]! = a := by
    have := (List.getElem?_eq_some_iff.1 hi).2;rw [getElem!_pos d i hlt]
    simpa using this
  obtain ⟨hj, hu2⟩ := enc_get hu;have h1 := h (i * 2 + j) (by rw [size_flatK]; omega);rw [get_flatK spR.enc 2 d _ (by omega), show (i * 2 + j) / 2 = i by omega, show (i * 2 + j) % 2 = j by omega, ha, hu2] at h1;exact h1.1
theorem reverse_any (w0 : World) (A : Option Addr) (n c : Nat) (l : List (Nat × Nat)) (w : World) (hO : ROwn spR 65 w w0.heap.size A n c l) (hB : Below w0.heap.size w0 w) (hn : n ≤ 1000000) :
    Calls Tryd.prog 48 #[.slice A n c] w fun e w' => e = .returned (.tuple #[]) ∧ RIn spR w' A l.reverse ∧ Below w0.heap.size w0 w' := by
  rcases Nat.eq_zero_or_pos n with h0 | h0
  · subst h0;obtain rfl : l = [] := List.eq_nil_of_length_eq_zero hO.1.symm;exact (AnyQ.slices_Reverse_empty Tryd.layReverse A c w).mono fun e w' ⟨he, hw⟩ => ⟨he, RIn.nil, by rw [hw]; exact hB⟩
  · obtain ⟨hl, hown⟩ := hO;have hR : RIn spR w A l := ROwn.rin (R := spR) ⟨hl, hown⟩;rcases hown.2 with ⟨_, hz⟩ | ⟨g, cap, cur, hv, hg, hb, _⟩
    · omega
    · injection hv with e1 e2 e3
      subst e1 e3;have hlt : g < w.heap.size := (Array.getElem?_eq_some_iff.1 hb).1;have hH := holdsK_rin hR (fun j => frozen_of_row w g j cur _ hb);have hs : l.toArray.size = n := by simpa using hl.symm
      have hcall := AnyQ.slices_Reverse Tryd.layReverse 2 Tryd.isAgg65 Tryd.sizeOf65 spR.enc (fun _ => rfl) (fun x v hv => spR.one x v hv) g 0 c l.toArray w hH (by rw [hs]; omega);rw [hs] at hcall;refine hcall.mono fun e w' ⟨he, q, hw⟩ => ⟨he, ?_, ?_⟩
      · have hh := holdsK_putRowK spR.enc 2 (Sort.ahead w q) g 0 l.toArray l.toArray.reverse (holdsK_ahead spR.enc 2 w q g 0 l.toArray hH) (by simp);rw [← hw] at hh;have hsz : w'.heap.size = w.heap.size := by rw [hw]; simp [putRowK, putRow, mapBlock, Sort.ahead]
        have := rin_holdsK (by rw [hsz]; exact hlt) hh
        simpa using this
      · rw [hw];exact below_putRow hB hg
end Go.Proofs.YtcamanopfhbchaaDoor.Mrk
end
section
namespace Go.Proofs.YtcamanopfhbchaaDoor.Kn
open Go
section
variable {P : Program} {a : Act} {w : World} {Q : Exit → Act → World → Prop}
theorem genL {ops : Array Oper} {K : Exit → Act → World → Prop} {rest : List Oper} (S : World → Prop) (hS : S w) (H : ∀ u, S u → wpList P ops K rest a u) : wpList P ops K rest a w := H w hS
end
end Go.Proofs.YtcamanopfhbchaaDoor.Kn
namespace Go.Proofs.YtcamanopfhbchaaDoor.Mrk
open Go Go.RowKit Go.Lib RowG
theorem elemSp : Own.Elem Tryd.prog 73 65 (.agg #[.int .i64 0, .int .i64 0]) spR.size 16 := ⟨Tryd.underlying73, by kernel_rfl, rfl, by decide⟩
theorem loadS {P : Program} {w : World} {g : Nat} {T : TypeId} {cs : Array Value} {d : TypeDesc} (h : St.St w g T cs) (hu : P.underlying T = some d) (hd : St.rowD d = true) (hi : (P.info? T).map (·.size) = some cs.size) : (Instr.loadAt T (.pointer (some ⟨g, 0, none⟩))).run P w = .ok (.agg cs) w := h.load hu hd hi
theorem ROwn.at2 {α : Type} {R : Rw α} {e : TypeId} {w w' : World} {B n cap : Nat} {A : Option Addr} {l : List α} (h : ROwn R e w B A n cap l) (he : ∀ a : Addr, A = some a → w'.heap[a.block]? = w.heap[a.block]?) : ROwn R e w' B A n cap l := by
  obtain ⟨h1, h2, h3⟩ := h;refine ⟨h1, h2, ?_⟩;rcases h3 with h3 | ⟨g, cap', cur, e1, e2, e3, e4⟩
  · exact .inl h3
  · refine .inr ⟨g, cap', cur, e1, e2, ?_, e4⟩;have e5 := e1;injection e5 with e6 _ _
    exact (he _ e6).trans e3
def Off (A : Option Addr) (g : Nat) : Prop := ∀ a : Addr, A = some a → a.block ≠ g
theorem Off.own {A : Option Addr} {g n c : Nat} (h : Off A g) : some g ≠ (Value.slice A n c).ownBlock := fun e => by
  cases A with
  | none => cases e
  | some a =>
    simp only [Value.ownBlock, Option.some.injEq] at e;exact h a rfl e.symm
theorem Off.kept {A : Option Addr} {g g' n c : Nat} {v v' : World} (h : Off A g) (hk : Own.Kept v v' (Value.slice A n c).ownBlock g') (hg : g < v.heap.size) : Off (some ⟨g', 0, none⟩) g := fun a e => by
  injection e with e
  subst e;rcases hk.at' with h1 | h1
  · intro e2;subst e2;exact h.own h1.symm
  · show g' ≠ g;omega
def BesI (_w : World) (I N m f k i : Nat) (acc : List (Nat × Nat)) : Prop := besF 0 I N = besF f i k ++ acc.reverse ∧ k ≤ 2 ^ m ∧ acc.length + m = 20 ∧ I = f + i ∧ i < k ∧ f + k ≤ N
theorem BesI.l {w : World} {I N m f k i p s r : Nat} {acc : List (Nat × Nat)} (h : BesI w I N m f k i acc) (h2 : 2 ≤ k) (hp1 : hp k = p) (hs : f + hp k = s) (hr : k - hp k = r) (hi : I < s) : BesI w I N (m - 1) f p i (acc ++ [(s, r)]) ∧ 1 ≤ m := by
  obtain ⟨h1, h3, h4, h5, h6, h7⟩ := h;have hk := hf_in h2;have hh := hf_half h2 h3;rw [← hf_hp h2] at hp1 hs hr;subst hp1 hs hr;refine ⟨⟨?_, hh.2.1, ?_, h5, by omega, by omega⟩, hh.1⟩
  · rw [h1, besF_l h2 (by omega), List.reverse_append];simp
  · rw [List.length_append, List.length_singleton]; omega
theorem BesI.r {w : World} {I N m f k i p s r : Nat} {acc : List (Nat × Nat)} (h : BesI w I N m f k i acc) (h2 : 2 ≤ k) (hp1 : hp k = p) (hs : f + hp k = s) (hr : k - hp k = r) (hi : ¬ I < s) : BesI w I N (m - 1) s r (i - p) (acc ++ [(f, p)]) ∧ 1 ≤ m := by
  obtain ⟨h1, h3, h4, h5, h6, h7⟩ := h;have hk := hf_in h2;have hh := hf_half h2 h3;rw [← hf_hp h2] at hp1 hs hr;subst hp1 hs hr;refine ⟨⟨?_, hh.2.2, ?_, by omega, by omega, by omega⟩, hh.1⟩
  · rw [h1, besF_r h2 (by omega), List.reverse_append];simp
  · rw [List.length_append, List.length_singleton]; omega
set_option maxRecDepth 100000 in
set_option maxHeartbeats 600000 in
theorem beside_any (I N : Nat) (w : World) (hI : I < N) (hN : N ≤ 1048576) :
    Calls Tryd.prog 38 #[.int .i64 (I : Int), .int .i64 (N : Int)] w fun e w' => ∃ A c, e = .returned (.slice A (besF 0 I N).length c) ∧ RIn spR w' A (besF 0 I N) ∧ Below w.heap.size w w' := by
  refine Kn.calls Tryd.func38 rfl Tryd.ntmps38 rfl (.cons (t := 0) rfl (.cons (t := 1) rfl .nil)) fun fa0 fh0 => ?_;refine wp_seq_k fun K1 hK1 => ?_;refine wp_region_lit ?_;refine Kn.pure fh0 rfl rfl .none (Kn.ex_assign fh0 .const) fun fa1 fh1 => ?_;clear fh0 fa0;refine wpList_nil ?_;refine hK1 _ _ ?_;clear hK1 K1;refine wp_seq_k fun K2 hK2 => ?_;refine wp_region_lit ?_;refine Kn.pure fh1 rfl rfl .none (Kn.ex_assign fh1 .const) fun fa2 fh2 => ?_;clear fh1 fa1;refine wpList_nil ?_;refine hK2 _ _ ?_;clear hK2 K2;have hN1 := Lib.hid hN;obtain ⟨hst0, hS0, hB0⟩ := (St.St.new w 65 #[.int .i64 0, .int .i64 0]).store (P := Tryd.prog) (cells := #[.int .i64 0, .int .i64 (N : Int)]) (by kernel_rfl) rfl (by simp [Value.oneCell']);refine wp_seq_k fun K3 hK3 => ?_;refine wp_region_lit ?_;refine Kn.pure fh2 rfl rfl .none (Kn.ex_move fh2 (.tmp rfl)) fun fa3 fh3 => ?_;clear fh2 fa2;refine Kn.step fh3 rfl rfl .none (Kn.ex_build fh3 (.cons .const (.cons (.tmp rfl) .nil))) fun Ko hKo => ?_;go_simp;(try go_bits);refine hKo _ _ fun fa4 fh4 => ?_;clear hKo Ko fh3 fa3;refine Kn.step fh4 rfl rfl .none Kn.ex_alloc fun Ko hKo => ?_;go_simp;(try go_bits);refine hKo _ _ fun fa5 fh5 => ?_;clear hKo Ko fh4 fa4;refine Kn.stepU fh5 rfl .none (Kn.ex_store fh5 (.tmp rfl) (.tmp rfl)) fun Ko hKo => ?_;refine Kn.satU_runA hst0 ?_;refine hKo _ ?_;clear hKo Ko;refine wpList_nil ?_;refine hK3 _ _ ?_;clear hK3 K3;replace fh5 := fh5.cut (.cons (t := 6) rfl (.cons (t := 5) rfl (.cons (t := 4) rfl (.cons (t := 0) rfl .nil))));refine Kn.gen (fun u => St.St u w.heap.size 65 #[.int .i64 ((0 : Nat) : Int), .int .i64 (N : Int)] ∧ Below w.heap.size w u) ⟨hS0, ((Below.refl _ w).alloc (Nat.le_refl _) _).trans (hB0 _ (Nat.le_refl _))⟩ fun u0 hu => ?_;clear hst0 hS0 hB0;obtain ⟨hS0, hb0⟩ := hu;obtain ⟨g, hg⟩ : ∃ g, w.heap.size = g := ⟨_, rfl⟩;rw [hg] at hS0 fh5;have HG := Lib.hid hg;clear hg
  have hb00 : BesI w I N 20 0 N I [] := ⟨by simp, by have e : (1048576 : Nat) = 2 ^ 20 := by decide
                                                     rw [← e]; exact hN1.out, rfl, by omega, hI, by omega⟩
  have HBI := Lib.hid hb00;clear hb00;refine wp_seq_k fun K4 hK4 => ?_;refine wp_block ?_;refine Kn.loop (fun m fr v => ∃ (A : Option Addr) (n c f k i : Nat) (acc : List (Nat × Nat)), Kn.Kn 36 [(0, .int .i64 (I : Int)), (5, .slice A n c), (6, .pointer (some ⟨g, 0, none⟩))] fr ∧ Hid (BesI w I N m f k i acc) ∧ St.St v g 65 #[.int .i64 (f : Int), .int .i64 (k : Int)] ∧ ROwn spR 65 v w.heap.size A n c acc ∧ Off A g ∧ Below w.heap.size w v) 20 ⟨none, 0, 0, 0, N, I, [], fh5.cut (.cons (t := 0) rfl (.cons (t := 5) rfl (.cons (t := 6) rfl .nil))), HBI, hS0, ROwn.none, (fun _ e => by cases e), hb0⟩ ?_;clear fh5 fa5;intro m5 fa6 v hI Kl5 hKl5;obtain ⟨A, n, c, f, k, i, acc, fh6, HI, hS, hO, hF, hB⟩ := hI;have hf20 : f ≤ 1048576 := by have := HI.out.2.2.2.2.2; have := hN1.out; omega
  have hk20 : k ≤ 1048576 := by have := HI.out.2.2.2.2.2; have := hN1.out; omega
  have hn20 : n ≤ 20 := by have := HI.out.2.2.1; have := hO.1; omega
  have c0 := hS.cell 0 rfl;have c1 := hS.cell 1 rfl
  by_cases h2 : (1 : Int) < (k : Int)
  · refine wp_seq_k fun K6 hK6 => ?_;refine wp_seq_k fun K7 hK7 => ?_;refine wp_region_lit ?_;refine Kn.step fh6 rfl rfl .none (Kn.ex_fieldAddr fh6 (.tmp rfl)) fun Ko hKo => ?_;go_simp;(try go_bits);refine hKo _ _ fun fa7 fh7 => ?_;clear hKo Ko fh6 fa6;refine Kn.step fh7 rfl rfl .none (Kn.ex_load fh7 (.tmp rfl)) fun Ko hKo => ?_;go_simp;(try go_bits);refine hKo _ _ fun fa8 fh8 => ?_;clear hKo Ko fh7 fa7;refine Kn.step fh8 rfl rfl .none (Kn.ex_bin fh8 (.tmp rfl) .const) fun Ko hKo => ?_;go_simp;(try go_bits);refine hKo _ _ fun fa9 fh9 => ?_;clear hKo Ko fh8 fa8;refine wpList_nil ?_;refine hK7 _ _ ?_;clear hK7 K7;replace fh9 := fh9.cut (.cons (t := 13) rfl (.cons (t := 0) rfl (.cons (t := 5) rfl (.cons (t := 6) rfl .nil))));refine Kn.yes fh9 (.tmp rfl) ?_;refine wp_skip ?_;refine hK6 _ _ ?_;clear hK6 K6;replace fh9 := fh9.cut (.cons (t := 0) rfl (.cons (t := 5) rfl (.cons (t := 6) rfl .nil)));refine wp_block ?_;clear c0 c1;obtain ⟨p, hp1⟩ : ∃ p, hp k = p := ⟨_, rfl⟩;obtain ⟨s, hs⟩ : ∃ s, f + hp k = s := ⟨_, rfl⟩;obtain ⟨r, hr⟩ : ∃ r, k - hp k = r := ⟨_, rfl⟩;have hsp := split_any f k v (by omega) hk20 hf20;rw [hs, hr, hp1] at hsp;have HL := Lib.hid (fun h => HI.out.l (by omega) hp1 hs hr h);have HR := Lib.hid (fun h => HI.out.r (by omega) hp1 hs hr h);clear hp1 hs hr h2;have hlo := loadS hS Tryd.underlying65 rfl (by kernel_rfl);have HLO := Lib.hid hlo;have hgv := hS.lt;have HS := Lib.hid hS;have HO := Lib.hid hO;have HB := Lib.hid hB;clear hS hO hB hlo;refine wp_seq_k fun K8 hK8 => ?_;refine wp_region_lit ?_;refine Kn.known fh9 rfl rfl .none (Kn.ex_load fh9 (.tmp rfl)) HLO.out fun fa10 fh10 => ?_;clear fh9 fa9;clear HLO;refine Kn.call fh10 rfl rfl .none (Kn.ex_call fh10 (.cons (.tmp rfl) .nil)) Tryd.call45 (hsp) fun e v1 hp => ?_;obtain ⟨rfl, hbs⟩ := hp;refine ⟨_, rfl, fun fa11 fh11 => ?_⟩;clear fh10 fa10;refine Kn.pure fh11 rfl rfl .none (Kn.ex_move fh11 (.tmp rfl)) fun fa12 fh12 => ?_;clear fh11 fa11;refine Kn.pure fh12 rfl rfl .none (Kn.ex_extract fh12 (.tmp rfl) rfl) fun fa13 fh13 => ?_;clear fh12 fa12;refine Kn.pure fh13 rfl rfl .none (Kn.ex_extract fh13 (.tmp rfl) rfl) fun fa14 fh14 => ?_;clear fh13 fa13;refine Kn.step fh14 rfl rfl .none Kn.ex_alloc fun Ko hKo => ?_;go_simp;(try go_bits);refine hKo _ _ fun fa15 fh15 => ?_;clear hKo Ko fh14 fa14;refine Kn.step fh15 rfl rfl .none Kn.ex_alloc fun Ko hKo => ?_;go_simp;(try go_bits);refine hKo _ _ fun fa16 fh16 => ?_;clear hKo Ko fh15 fa15;have hv1 := hbs.size;refine Kn.genL (fun u => St.St u v1.heap.size 65 #[.int .i64 0, .int .i64 0] ∧ St.St u (v1.heap.size + 1) 65 #[.int .i64 0, .int .i64 0] ∧ Below v.heap.size v u) ⟨(St.St.new v1 _ _).alloc _, (by have := St.St.new (v1.alloc (.cells #[.int .i64 0, .int .i64 0] 65)) 65 #[.int .i64 0, .int .i64 0]; simpa using this), (hbs.alloc hv1 _).alloc (by simp; omega) _⟩ fun v3 hv3 => ?_;clear hbs hsp;obtain ⟨g7, hg7⟩ : ∃ k, v1.heap.size = k := ⟨_, rfl⟩;obtain ⟨g8, hg8⟩ : ∃ k, g7 + 1 = k := ⟨_, rfl⟩;rw [hg7, hg8] at hv3 fh16;have hne78 : g7 ≠ g8 := by omega
    have hv7 : v.heap.size ≤ g7 := by omega
    have hv8 : v.heap.size ≤ g8 := by omega
    clear hg7 hg8 hv1;obtain ⟨hS7, hS8, hBv⟩ := hv3;obtain ⟨hst, hSn, hBn⟩ := hS7.store (P := Tryd.prog) (cells := #[.int .i64 (f : Int), .int .i64 (p : Int)]) (by kernel_rfl) rfl (by simp [Value.oneCell']);refine Kn.stepU fh16 rfl .none (Kn.ex_store fh16 (.tmp rfl) (.tmp rfl)) fun Ko hKo => ?_;refine Kn.satU_runA hst ?_;refine hKo _ ?_;clear hKo Ko;refine Kn.genL (fun u => St.St u g7 65 #[.int .i64 (f : Int), .int .i64 (p : Int)] ∧ St.St u g8 65 #[.int .i64 0, .int .i64 0] ∧ Below v.heap.size v u) ⟨hSn, hS8.setRow (Ne.symm hne78) _, hBv.trans (hBn _ hv7)⟩ fun v4 huv4 => ?_;clear hst hSn hBn hS7 hS8 hBv;obtain ⟨hS7, hS8, hBv⟩ := huv4;obtain ⟨hst, hSn, hBn⟩ := hS8.store (P := Tryd.prog) (cells := #[.int .i64 (s : Int), .int .i64 (r : Int)]) (by kernel_rfl) rfl (by simp [Value.oneCell']);refine Kn.stepU fh16 rfl .none (Kn.ex_store fh16 (.tmp rfl) (.tmp rfl)) fun Ko hKo => ?_;refine Kn.satU_runA hst ?_;refine hKo _ ?_;clear hKo Ko;refine Kn.genL (fun u => St.St u g7 65 #[.int .i64 (f : Int), .int .i64 (p : Int)] ∧ St.St u g8 65 #[.int .i64 (s : Int), .int .i64 (r : Int)] ∧ Below v.heap.size v u) ⟨hS7.setRow hne78 _, hSn, hBv.trans (hBn _ hv8)⟩ fun v5 huv5 => ?_;clear hst hSn hBn hS8 hS7 hBv;obtain ⟨hS7, hS8, hBv⟩ := huv5;refine wpList_nil ?_;refine hK8 _ _ ?_;clear hK8 K8;replace fh16 := fh16.cut (.cons (t := 8) rfl (.cons (t := 7) rfl (.cons (t := 0) rfl (.cons (t := 5) rfl (.cons (t := 6) rfl .nil)))));have c7 := hS7.cell 0 rfl;have c8 := hS8.cell 0 rfl
    by_cases hI2 : (I : Int) < (s : Int)
    · have hnx := HL.out (by omega);clear HL HR;have HN := Lib.hid hnx;clear hnx;have hSg := HS.out.on hBv;have hOg := HO.out.on hBv;have hgv5 : g < v5.heap.size := hSg.lt;have hld := loadS hS7 Tryd.underlying65 rfl (by kernel_rfl);obtain ⟨hst, hSn, hBn⟩ := hSg.store (P := Tryd.prog) (cells := #[.int .i64 (f : Int), .int .i64 (p : Int)]) (by kernel_rfl) rfl (by simp [Value.oneCell']);have hgne : g ≠ g8 := by omega
      have hSb := hS8.setRow (k := g) (Ne.symm hgne) #[.int .i64 (f : Int), .int .i64 (p : Int)];have hOn := ROwn.at2 hOg (w' := v5.setRow g #[.int .i64 (f : Int), .int .i64 (p : Int)]) (fun a e => setRow_other v5 g a.block #[.int .i64 (f : Int), .int .i64 (p : Int)] (hF a e));have hbe := (HB.out.trans (hBv.mono HB.out.size)).trans (hBn w.heap.size (by have := HG.out; omega));refine wp_seq_k fun K9 hK9 => ?_;refine wp_region_lit ?_;refine Kn.pure fh16 rfl rfl .none (Kn.ex_move fh16 (.tmp rfl)) fun fa17 fh17 => ?_;clear fh16 fa16;refine Kn.step fh17 rfl rfl .none (Kn.ex_fieldAddr fh17 (.tmp rfl)) fun Ko hKo => ?_;go_simp;(try go_bits);refine hKo _ _ fun fa18 fh18 => ?_;clear hKo Ko fh17 fa17;refine Kn.step fh18 rfl rfl .none (Kn.ex_load fh18 (.tmp rfl)) fun Ko hKo => ?_;go_simp;(try go_bits);refine hKo _ _ fun fa19 fh19 => ?_;clear hKo Ko fh18 fa18;refine Kn.step fh19 rfl rfl .none (Kn.ex_bin fh19 (.tmp rfl) (.tmp rfl)) fun Ko hKo => ?_;go_simp;(try go_bits);refine hKo _ _ fun fa20 fh20 => ?_;clear hKo Ko fh19 fa19;refine wpList_nil ?_;refine hK9 _ _ ?_;clear hK9 K9;replace fh20 := fh20.cut (.cons (t := 22) rfl (.cons (t := 8) rfl (.cons (t := 7) rfl (.cons (t := 0) rfl (.cons (t := 5) rfl (.cons (t := 6) rfl .nil))))));clear c7 c8;refine Kn.yes fh20 (.tmp rfl) ?_;replace fh20 := fh20.cut (.cons (t := 8) rfl (.cons (t := 7) rfl (.cons (t := 0) rfl (.cons (t := 5) rfl (.cons (t := 6) rfl .nil)))));refine wp_seq_k fun K10 hK10 => ?_;refine wp_region_lit ?_;refine Kn.known fh20 rfl rfl .none (Kn.ex_load fh20 (.tmp rfl)) hld fun fa21 fh21 => ?_;clear fh20 fa20;refine Kn.stepU fh21 rfl .none (Kn.ex_store fh21 (.tmp rfl) (.tmp rfl)) fun Ko hKo => ?_;refine Kn.satU_runA hst ?_;refine hKo _ ?_;clear hKo Ko;refine wpList_nil ?_;refine hK10 _ _ ?_;clear hK10 K10;replace fh21 := fh21.cut (.cons (t := 8) rfl (.cons (t := 0) rfl (.cons (t := 5) rfl (.cons (t := 6) rfl .nil))));refine Kn.gen (fun u => St.St u g 65 #[.int .i64 (f : Int), .int .i64 (p : Int)] ∧ St.St u g8 65 #[.int .i64 (s : Int), .int .i64 (r : Int)] ∧ ROwn spR 65 u w.heap.size A n c acc ∧ Below w.heap.size w u) ⟨hSn, hSb, hOn, hbe⟩ fun v6 hv6 => ?_;clear hst hSn hBn hSb hOn hbe hld hSg hOg;obtain ⟨hS6, hSb, hO6, hB6⟩ := hv6;have hld := loadS hSb Tryd.underlying65 rfl (by kernel_rfl);have hg6 := hS6.lt;obtain ⟨g', c', v7, hrun, hO7, hB7, hK7⟩ := hO6.push1 (P := Tryd.prog) elemSp 73 (s, r) #[.int .i64 (s : Int), .int .i64 (r : Int)] rfl hB6 (by omega) (by decide);have hS9 := (hS6.alloc (.cells #[.int .i64 (s : Int), .int .i64 (r : Int)] 65)).kept hK7 hF.own;have hF9 := hF.kept hK7 (by simp; omega);have H9 := Lib.hid (And.intro hS9 (And.intro hO7 (And.intro hF9 hB7)));clear hS9 hO7 hF9 hB7 hK7 hS6 hO6 hB6;refine wp_region_lit ?_;refine Kn.pure fh21 rfl rfl .none (Kn.ex_move fh21 (.tmp rfl)) fun fa22 fh22 => ?_;clear fh21 fa21;refine Kn.known fh22 rfl rfl .none (Kn.ex_load fh22 (.tmp rfl)) hld fun fa23 fh23 => ?_;clear fh22 fa22;refine Kn.step fh23 rfl rfl .none (Kn.ex_buildSlice fh23 (.cons (.tmp rfl) .nil)) fun Ko hKo => ?_;go_simp;(try go_bits);refine hKo _ _ fun fa24 fh24 => ?_;clear hKo Ko fh23 fa23;refine Kn.known fh24 rfl rfl .none (Kn.ex_append fh24 (.cons (.tmp rfl) (.cons (.tmp rfl) .nil))) hrun fun fa25 fh25 => ?_;clear fh24 fa24;refine Kn.pure fh25 rfl rfl .none (Kn.ex_assign fh25 (.tmp rfl)) fun fa26 fh26 => ?_;clear fh25 fa25;refine wpList_nil ?_;refine Kn.block_normal ?_;replace fh26 := fh26.cut (.cons (t := 5) rfl (.cons (t := 0) rfl (.cons (t := 6) rfl .nil)));have hm1 := HN.out.2;exact hKl5 (m5 - 1) _ _ (by omega) ⟨some ⟨g', 0, none⟩, n + 1, c', f, p, i, acc ++ [(s, r)], fh26.cut (.cons (t := 0) rfl (.cons (t := 5) rfl (.cons (t := 6) rfl .nil))), Lib.hid HN.out.1, H9.out.1, H9.out.2.1, H9.out.2.2.1, H9.out.2.2.2⟩
    have hnx := HR.out (by omega);clear HL HR;have HN := Lib.hid hnx;clear hnx;have hSg := HS.out.on hBv;have hOg := HO.out.on hBv;have hgv5 : g < v5.heap.size := hSg.lt;have hld := loadS hS8 Tryd.underlying65 rfl (by kernel_rfl);obtain ⟨hst, hSn, hBn⟩ := hSg.store (P := Tryd.prog) (cells := #[.int .i64 (s : Int), .int .i64 (r : Int)]) (by kernel_rfl) rfl (by simp [Value.oneCell']);have hgne : g ≠ g7 := by omega
    have hSb := hS7.setRow (k := g) (Ne.symm hgne) #[.int .i64 (s : Int), .int .i64 (r : Int)];have hOn := ROwn.at2 hOg (w' := v5.setRow g #[.int .i64 (s : Int), .int .i64 (r : Int)]) (fun a e => setRow_other v5 g a.block #[.int .i64 (s : Int), .int .i64 (r : Int)] (hF a e));have hbe := (HB.out.trans (hBv.mono HB.out.size)).trans (hBn w.heap.size (by have := HG.out; omega));refine wp_seq_k fun K9 hK9 => ?_;refine wp_region_lit ?_;refine Kn.pure fh16 rfl rfl .none (Kn.ex_move fh16 (.tmp rfl)) fun fa17 fh17 => ?_;clear fh16 fa16;refine Kn.step fh17 rfl rfl .none (Kn.ex_fieldAddr fh17 (.tmp rfl)) fun Ko hKo => ?_;go_simp;(try go_bits);refine hKo _ _ fun fa18 fh18 => ?_;clear hKo Ko fh17 fa17;refine Kn.step fh18 rfl rfl .none (Kn.ex_load fh18 (.tmp rfl)) fun Ko hKo => ?_;go_simp;(try go_bits);refine hKo _ _ fun fa19 fh19 => ?_;clear hKo Ko fh18 fa18;refine Kn.step fh19 rfl rfl .none (Kn.ex_bin fh19 (.tmp rfl) (.tmp rfl)) fun Ko hKo => ?_;go_simp;(try go_bits);refine hKo _ _ fun fa20 fh20 => ?_;clear hKo Ko fh19 fa19;refine wpList_nil ?_;refine hK9 _ _ ?_;clear hK9 K9;replace fh20 := fh20.cut (.cons (t := 22) rfl (.cons (t := 8) rfl (.cons (t := 7) rfl (.cons (t := 0) rfl (.cons (t := 5) rfl (.cons (t := 6) rfl .nil))))));clear c7 c8;refine Kn.no fh20 (.tmp rfl) ?_;replace fh20 := fh20.cut (.cons (t := 8) rfl (.cons (t := 7) rfl (.cons (t := 0) rfl (.cons (t := 5) rfl (.cons (t := 6) rfl .nil)))));refine wp_seq_k fun K10 hK10 => ?_;refine wp_region_lit ?_;refine Kn.known fh20 rfl rfl .none (Kn.ex_load fh20 (.tmp rfl)) hld fun fa21 fh21 => ?_;clear fh20 fa20;refine Kn.stepU fh21 rfl .none (Kn.ex_store fh21 (.tmp rfl) (.tmp rfl)) fun Ko hKo => ?_;refine Kn.satU_runA hst ?_;refine hKo _ ?_;clear hKo Ko;refine wpList_nil ?_;refine hK10 _ _ ?_;clear hK10 K10;replace fh21 := fh21.cut (.cons (t := 7) rfl (.cons (t := 0) rfl (.cons (t := 5) rfl (.cons (t := 6) rfl .nil))));refine Kn.gen (fun u => St.St u g 65 #[.int .i64 (s : Int), .int .i64 (r : Int)] ∧ St.St u g7 65 #[.int .i64 (f : Int), .int .i64 (p : Int)] ∧ ROwn spR 65 u w.heap.size A n c acc ∧ Below w.heap.size w u) ⟨hSn, hSb, hOn, hbe⟩ fun v6 hv6 => ?_;clear hst hSn hBn hSb hOn hbe hld hSg hOg;obtain ⟨hS6, hSb, hO6, hB6⟩ := hv6;have hld := loadS hSb Tryd.underlying65 rfl (by kernel_rfl);have hg6 := hS6.lt;obtain ⟨g', c', v7, hrun, hO7, hB7, hK7⟩ := hO6.push1 (P := Tryd.prog) elemSp 73 (f, p) #[.int .i64 (f : Int), .int .i64 (p : Int)] rfl hB6 (by omega) (by decide);have hS9 := (hS6.alloc (.cells #[.int .i64 (f : Int), .int .i64 (p : Int)] 65)).kept hK7 hF.own;have hF9 := hF.kept hK7 (by simp; omega);have H9 := Lib.hid (And.intro hS9 (And.intro hO7 (And.intro hF9 hB7)));clear hS9 hO7 hF9 hB7 hK7 hS6 hO6 hB6;refine wp_region_lit ?_;refine Kn.pure fh21 rfl rfl .none (Kn.ex_move fh21 (.tmp rfl)) fun fa22 fh22 => ?_;clear fh21 fa21;refine Kn.known fh22 rfl rfl .none (Kn.ex_load fh22 (.tmp rfl)) hld fun fa23 fh23 => ?_;clear fh22 fa22;refine Kn.step fh23 rfl rfl .none (Kn.ex_buildSlice fh23 (.cons (.tmp rfl) .nil)) fun Ko hKo => ?_;go_simp;(try go_bits);refine hKo _ _ fun fa24 fh24 => ?_;clear hKo Ko fh23 fa23;refine Kn.known fh24 rfl rfl .none (Kn.ex_append fh24 (.cons (.tmp rfl) (.cons (.tmp rfl) .nil))) hrun fun fa25 fh25 => ?_;clear fh24 fa24;refine Kn.pure fh25 rfl rfl .none (Kn.ex_assign fh25 (.tmp rfl)) fun fa26 fh26 => ?_;clear fh25 fa25;refine wpList_nil ?_;refine Kn.block_normal ?_;replace fh26 := fh26.cut (.cons (t := 5) rfl (.cons (t := 0) rfl (.cons (t := 6) rfl .nil)));have hm1 := HN.out.2;exact hKl5 (m5 - 1) _ _ (by omega) ⟨some ⟨g', 0, none⟩, n + 1, c', s, r, i - p, acc ++ [(f, p)], fh26.cut (.cons (t := 0) rfl (.cons (t := 5) rfl (.cons (t := 6) rfl .nil))), Lib.hid HN.out.1, H9.out.1, H9.out.2.1, H9.out.2.2.1, H9.out.2.2.2⟩
  refine wp_seq_k fun K6 hK6 => ?_;refine wp_seq_k fun K7 hK7 => ?_;refine wp_region_lit ?_;refine Kn.step fh6 rfl rfl .none (Kn.ex_fieldAddr fh6 (.tmp rfl)) fun Ko hKo => ?_;go_simp;(try go_bits);refine hKo _ _ fun fa7 fh7 => ?_;clear hKo Ko fh6 fa6;refine Kn.step fh7 rfl rfl .none (Kn.ex_load fh7 (.tmp rfl)) fun Ko hKo => ?_;go_simp;(try go_bits);refine hKo _ _ fun fa8 fh8 => ?_;clear hKo Ko fh7 fa7;refine Kn.step fh8 rfl rfl .none (Kn.ex_bin fh8 (.tmp rfl) .const) fun Ko hKo => ?_;go_simp;(try go_bits);refine hKo _ _ fun fa9 fh9 => ?_;clear hKo Ko fh8 fa8;refine wpList_nil ?_;refine hK7 _ _ ?_;clear hK7 K7;replace fh9 := fh9.cut (.cons (t := 13) rfl (.cons (t := 0) rfl (.cons (t := 5) rfl (.cons (t := 6) rfl .nil))));refine Kn.no fh9 (.tmp rfl) ?_;replace fh9 := fh9.cut (.cons (t := 0) rfl (.cons (t := 5) rfl (.cons (t := 6) rfl .nil)));refine wp_exit ?_;refine Kn.then_exit ?_;clear hK6 K6;refine Kn.then_exit ?_;clear hKl5 Kl5;refine Kn.block_exit ?_;refine hK4 _ _ ?_;clear hK4 K4;replace fh9 := fh9.cut (.cons (t := 5) rfl .nil)
  have hbes : besF 0 I N = acc.reverse := by
    have h := HI.out.1;rw [besF_0 (f := f) (n := k) (by omega), List.nil_append] at h;exact h
  have HBE := Lib.hid hbes;have hla := hO.1;have HLA := Lib.hid hla;have hrev := fun q => reverse_any w A n c acc (v.drewN q) (ROwn.at2 hO (fun _ _ => rfl)) (Own.below_drewN hB q) (by omega);clear hbes hla;refine wp_seq_k fun K8 hK8 => ?_;refine wp_region_lit ?_;refine Kn.pure fh9 rfl rfl .none (Kn.ex_move fh9 (.tmp rfl)) fun fa10 fh10 => ?_;clear fh9 fa9;refine Kn.call fh10 rfl rfl .none (Kn.ex_call fh10 (.cons (.tmp rfl) .nil)) Tryd.call48 (reverse_any w A n c acc v hO hB (by omega)) fun e w9 hp => ?_;obtain ⟨rfl, hR9, hB9⟩ := hp;refine ⟨_, rfl, fun fa11 fh11 => ?_⟩;clear fh10 fa10;refine wpList_nil ?_;refine hK8 _ _ ?_;clear hK8 K8;replace fh11 := fh11.cut (.cons (t := 5) rfl .nil);refine wp_seq_k fun K9 hK9 => ?_;refine wp_region_lit ?_;refine Kn.pure fh11 rfl rfl .none (Kn.ex_move fh11 (.tmp rfl)) fun fa12 fh12 => ?_;clear fh11 fa11;refine Kn.pure fh12 rfl rfl .none (Kn.ex_assign fh12 (.tmp rfl)) fun fa13 fh13 => ?_;clear fh12 fa12;refine wpList_nil ?_;refine hK9 _ _ ?_;clear hK9 K9;replace fh13 := fh13.cut (.cons (t := 4) rfl .nil);refine wp_ret ?_;exact Kn.ret1 fh13 rfl rfl ⟨A, c, by rw [HBE.out, List.length_reverse, ← HLA.out], by rw [HBE.out]; exact hR9, hB9⟩
end Go.Proofs.YtcamanopfhbchaaDoor.Mrk
end
section
namespace Go.Proofs.YtcamanopfhbchaaDoor.Blk
open Go.RowKit Go.Lib Go.Shelf
def cloneRen : Ren := { f := fun | 25 => 53 | n => n, t := fun | 3 => 3 | 4 => 4 | 5 => 5 | 9 => 9 | 37 => 107 | 47 => 129 | n => n, g := fun n => n }
theorem cloneLays : LaysPu.n25 Tryd.prog cloneRen := ⟨by kernel_rfl, by kernel_rfl, by kernel_rfl, fun _ => by kernel_rfl, fun _ => by kernel_rfl, fun _ => by kernel_rfl, by kernel_rfl, by kernel_rfl, fun _ => by kernel_rfl, fun _ => by kernel_rfl, fun _ => by kernel_rfl, by kernel_rfl, by kernel_rfl, fun _ => by kernel_rfl, fun _ => by kernel_rfl, fun _ => by kernel_rfl, by kernel_rfl, by kernel_rfl, fun _ => by kernel_rfl, fun _ => by kernel_rfl, fun _ => by kernel_rfl, by kernel_rfl, by kernel_rfl, fun _ => by kernel_rfl, fun _ => by kernel_rfl, fun _ => by kernel_rfl, by kernel_rfl, by kernel_rfl, fun _ => by kernel_rfl, fun _ => by kernel_rfl, fun _ => by kernel_rfl, by kernel_rfl, by kernel_rfl, fun _ => by kernel_rfl, fun _ => by kernel_rfl, fun _ => by kernel_rfl, by kernel_rfl⟩
theorem clone_any (s : ByteArray) (w : World) (h : s.size ≤ 281474976710656) :
    Calls Tryd.prog 41 #[.string s] w fun e w' => e = .returned (.string s) ∧ Below w.heap.size w w' := by
  go_enter Tryd.func41, Tryd.ntmps41
  go_wp2_with (go_at_call 53; refine ((show Calls Tryd.prog 53 #[.string s] _ fun e w' => e = .returned (.string s) ∧ Below _ _ w' from AnyPu.stringslite_Clone cloneLays s _ h)).mono ?_; rintro e w' ⟨rfl, hb⟩)
  go_ret
  exact ⟨rfl, by assumption⟩
end Go.Proofs.YtcamanopfhbchaaDoor.Blk
end
section
namespace Go.Proofs.YtcamanopfhbchaaDoor.Mrk
open Go Go.RowKit Go.Lib RowG
theorem dn {B : Nat} {w w' : World} (h : Below B w w') (n : Nat) : Below B w (w'.drewN n) := ⟨h.os, h.tape, h.output, h.size, h.block⟩
theorem txc {w : World} {A : Option Addr} {ts : List ByteArray} (h : RIn txR w A ts) {k : Nat} {s : ByteArray} (hk : ts[k]? = some s) : ∃ b o, A = some ⟨b, o, none⟩ ∧ b < w.heap.size ∧ w.cell? ⟨b, o + k, none⟩ = some (.string s) := by
  obtain ⟨b, o, h1, h2, h3⟩ := h k s hk;have h4 := h3 0 (.string s) rfl;have e : o + (k * txR.size + 0) = o + k := by show o + (k * 1 + 0) = _; omega
  rw [e] at h4;exact ⟨b, o, h1, h2, h4⟩
theorem rin_new (v : World) (e : TypeId) (l : List ByteArray) (ca : Array Value) (hca : ca = (l.map Value.string).toArray) : RIn txR (v.alloc (.cells ca e)) (some ⟨v.heap.size, 0, Option.none⟩) l := fun i a hi => by
  subst hca;refine ⟨v.heap.size, 0, rfl, by simp, fun j u hj => ?_⟩
  have : j = 0 ∧ u = .string a := by
    cases j with
    | zero => simp [txR] at hj; exact ⟨rfl, hj.symm⟩
    | succ j => simp [txR] at hj
  obtain ⟨rfl, rfl⟩ := this;rw [show 0 + (i * txR.size + 0) = i by show 0 + (i * 1 + 0) = i; omega];rw [cell_of_row _ v.heap.size i _ e (0, 0) (heap_alloc_new v _)];rw [List.getElem?_toArray, List.getElem?_map, hi]
  rfl
def greatB (bl : List ByteArray) : Bool := decide (20 < bl.length) || bl.any fun b => decide (100 < b.size)
theorem small_of {bl : List ByteArray} (h : greatB bl = false) : bl.length ≤ 20 ∧ ∀ b ∈ bl, b.size ≤ 100 := by
  unfold greatB at h;rw [Bool.or_eq_false_iff] at h;refine ⟨by have := of_decide_eq_false h.1; omega, fun b hb => ?_⟩;have := List.any_eq_false.1 h.2 b hb
  simpa using this
set_option maxRecDepth 100000 in
set_option maxHeartbeats 4000000 in
theorem great_any (A : Option Addr) (c : Nat) (bl : List ByteArray) (w : World) (hl : bl.length ≤ maxLen) (hA : RIn txR w A bl) :
    Calls Tryd.prog 9 #[.slice A bl.length c] w fun e w' => e = .returned (.bool (greatB bl)) ∧ w = w' := by
  unfold maxLen at hl;refine Kn.calls Tryd.func9 rfl Tryd.ntmps9 rfl (.cons (t := 0) rfl .nil) fun fa0 fh0 => ?_;refine wp_seq_k fun K1 hK1 => ?_;refine wp_region_lit ?_;refine Kn.pure fh0 rfl rfl .none (Kn.ex_assign fh0 .const) fun fa1 fh1 => ?_;clear fh0 fa0;refine wpList_nil ?_;refine hK1 _ _ ?_;clear hK1 K1;unfold greatB
  by_cases h1 : (20 : Int) < (bl.length : Int)
  · rw [show (decide (20 < bl.length) || bl.any fun b => decide (100 < b.size)) = true by rw [show decide (20 < bl.length) = true from decide_eq_true (by omega)]; rfl];refine wp_seq_k fun K2 hK2 => ?_;refine wp_seq_k fun K3 hK3 => ?_;refine wp_region_lit ?_;refine Kn.pure fh1 rfl rfl .none (Kn.ex_move fh1 (.tmp rfl)) fun fa2 fh2 => ?_;clear fh1 fa1;refine Kn.step fh2 rfl rfl .none (Kn.ex_len fh2 (.tmp rfl)) fun Ko hKo => ?_;go_simp;(try go_bits);refine hKo _ _ fun fa3 fh3 => ?_;clear hKo Ko fh2 fa2;refine Kn.step fh3 rfl rfl .none (Kn.ex_bin fh3 (.tmp rfl) .const) fun Ko hKo => ?_;go_simp;(try go_bits);refine hKo _ _ fun fa4 fh4 => ?_;clear hKo Ko fh3 fa3;refine wpList_nil ?_;refine hK3 _ _ ?_;clear hK3 K3;replace fh4 := fh4.cut (.cons (t := 7) rfl (.cons (t := 2) rfl (.cons (t := 0) rfl .nil)));refine Kn.yes fh4 (.tmp rfl) ?_;replace fh4 := fh4.cut (.cons (t := 2) rfl (.cons (t := 0) rfl .nil));refine wp_seq_k fun K4 hK4 => ?_;refine wp_region_lit ?_;refine Kn.pure fh4 rfl rfl .none (Kn.ex_assign fh4 .const) fun fa5 fh5 => ?_;clear fh4 fa4;refine wpList_nil ?_;refine hK4 _ _ ?_;clear hK4 K4;refine wp_ret ?_;refine Kn.then_ret ?_;exact Kn.ret1 fh5 rfl rfl ⟨rfl, rfl⟩
  rw [show (decide (20 < bl.length) || bl.any fun b => decide (100 < b.size)) = (bl.any fun b => decide (100 < b.size)) by rw [show decide (20 < bl.length) = false from decide_eq_false (by omega)]; rfl];obtain ⟨N, hN⟩ : ∃ N, bl.length = N := ⟨_, rfl⟩;rw [hN] at fh1 h1;refine wp_seq_k fun K2 hK2 => ?_;refine wp_seq_k fun K3 hK3 => ?_;refine wp_region_lit ?_;refine Kn.pure fh1 rfl rfl .none (Kn.ex_move fh1 (.tmp rfl)) fun fa2 fh2 => ?_;clear fh1 fa1;refine Kn.step fh2 rfl rfl .none (Kn.ex_len fh2 (.tmp rfl)) fun Ko hKo => ?_;go_simp;(try go_bits);refine hKo _ _ fun fa3 fh3 => ?_;clear hKo Ko fh2 fa2;refine Kn.step fh3 rfl rfl .none (Kn.ex_bin fh3 (.tmp rfl) .const) fun Ko hKo => ?_;go_simp;(try go_bits);refine hKo _ _ fun fa4 fh4 => ?_;clear hKo Ko fh3 fa3;refine wpList_nil ?_;refine hK3 _ _ ?_;clear hK3 K3;replace fh4 := fh4.cut (.cons (t := 7) rfl (.cons (t := 2) rfl (.cons (t := 0) rfl .nil)));refine Kn.no fh4 (.tmp rfl) ?_;refine wp_skip ?_;refine hK2 _ _ ?_;clear hK2 K2;replace fh4 := fh4.cut (.cons (t := 2) rfl (.cons (t := 0) rfl .nil));refine wp_seq_k fun K4 hK4 => ?_;refine wp_seq_k fun K5 hK5 => ?_;refine wp_region_lit ?_;refine Kn.pure fh4 rfl rfl .none (Kn.ex_move fh4 (.tmp rfl)) fun fa5 fh5 => ?_;clear fh4 fa4;refine Kn.step fh5 rfl rfl .none (Kn.ex_len fh5 (.tmp rfl)) fun Ko hKo => ?_;go_simp;(try go_bits);refine hKo _ _ fun fa6 fh6 => ?_;clear hKo Ko fh5 fa5;refine Kn.pure fh6 rfl rfl .none (Kn.ex_move fh6 .const) fun fa7 fh7 => ?_;clear fh6 fa6;refine wpList_nil ?_;refine hK5 _ _ ?_;clear hK5 K5;replace fh7 := fh7.cut (.cons (t := 10) rfl (.cons (t := 9) rfl (.cons (t := 8) rfl (.cons (t := 2) rfl .nil))));refine wp_block ?_;refine Kn.loop (fun m fr u => ∃ (i : Nat), Kn.Kn 18 [(10, .int .i64 (i : Int)), (9, .int .i64 (N : Int)), (8, .slice A N c)] fr ∧ i + m = N ∧ (∀ j, j < i → ∀ b, bl[j]? = some b → b.size ≤ 100) ∧ w = u) N ⟨0, fh7.cut (.turn (t := 10) rfl rfl (.cons (t := 9) rfl (.cons (t := 8) rfl .nil))), by omega, fun j hj => by omega, rfl⟩ ?_;clear fh7 fa7;intro m6 fa8 u hI Kl6 hKl6;obtain ⟨i, fh8, hi, hs, rfl⟩ := hI
  by_cases hlt : i < N
  · obtain ⟨s, hs2⟩ : ∃ s, bl[i]? = some s := ⟨bl[i], List.getElem?_eq_getElem (by omega)⟩;obtain ⟨ba, oa, rfl, -, ca⟩ := txc hA hs2;refine wp_seq_k fun K7 hK7 => ?_;refine wp_region_lit ?_;refine Kn.step fh8 rfl rfl .none (Kn.ex_bin fh8 (.tmp rfl) (.tmp rfl)) fun Ko hKo => ?_;go_simp;(try go_bits);refine hKo _ _ fun fa9 fh9 => ?_;clear hKo Ko fh8 fa8;refine wpList_nil ?_;refine hK7 _ _ ?_;clear hK7 K7;refine wp_seq_k fun K8 hK8 => ?_;refine Kn.yes fh9 (.tmp rfl) ?_;refine wp_skip ?_;refine hK8 _ _ ?_;clear hK8 K8;replace fh9 := fh9.cut (.cons (t := 10) rfl (.cons (t := 9) rfl (.cons (t := 8) rfl .nil)));refine wp_seq_k fun K9 hK9 => ?_;refine wp_block ?_;refine wp_seq_k fun K10 hK10 => ?_;refine wp_region_lit ?_;refine Kn.step fh9 rfl rfl .none (Kn.ex_indexAddr fh9 (.tmp rfl) (.tmp rfl)) fun Ko hKo => ?_;go_simp;(try go_bits);refine hKo _ _ fun fa10 fh10 => ?_;clear hKo Ko fh9 fa9;refine Kn.step fh10 rfl rfl .none (Kn.ex_load fh10 (.tmp rfl)) fun Ko hKo => ?_;go_simp;(try go_bits);refine hKo _ _ fun fa11 fh11 => ?_;clear hKo Ko fh10 fa10;refine Kn.pure fh11 rfl rfl .none (Kn.ex_assign fh11 (.tmp rfl)) fun fa12 fh12 => ?_;clear fh11 fa11;refine wpList_nil ?_;refine hK10 _ _ ?_;clear hK10 K10;replace fh12 := fh12.cut (.cons (t := 4) rfl (.cons (t := 10) rfl (.cons (t := 9) rfl (.cons (t := 8) rfl .nil))))
    by_cases h2 : (100 : Int) < (s.size : Int)
    · rw [show (bl.any fun b => decide (100 < b.size)) = true from List.any_eq_true.2 ⟨s, List.mem_of_getElem? hs2, decide_eq_true (by omega)⟩];refine wp_seq_k fun K11 hK11 => ?_;refine wp_region_lit ?_;refine Kn.pure fh12 rfl rfl .none (Kn.ex_move fh12 (.tmp rfl)) fun fa13 fh13 => ?_;clear fh12 fa12;refine Kn.step fh13 rfl rfl .none (Kn.ex_len fh13 (.tmp rfl)) fun Ko hKo => ?_;go_simp;(try go_bits);refine hKo _ _ fun fa14 fh14 => ?_;clear hKo Ko fh13 fa13;refine Kn.step fh14 rfl rfl .none (Kn.ex_bin fh14 (.tmp rfl) .const) fun Ko hKo => ?_;go_simp;(try go_bits);refine hKo _ _ fun fa15 fh15 => ?_;clear hKo Ko fh14 fa14;refine wpList_nil ?_;refine hK11 _ _ ?_;clear hK11 K11;replace fh15 := fh15.cut (.cons (t := 16) rfl (.cons (t := 10) rfl (.cons (t := 9) rfl (.cons (t := 8) rfl .nil))));refine Kn.yes fh15 (.tmp rfl) ?_;replace fh15 := fh15.cut (.cons (t := 10) rfl (.cons (t := 9) rfl (.cons (t := 8) rfl .nil)));refine wp_seq_k fun K12 hK12 => ?_;refine wp_region_lit ?_;refine Kn.pure fh15 rfl rfl .none (Kn.ex_assign fh15 .const) fun fa16 fh16 => ?_;clear fh15 fa15;refine wpList_nil ?_;refine hK12 _ _ ?_;clear hK12 K12;refine wp_ret ?_;refine Kn.block_ret ?_;refine Kn.then_ret ?_;refine Kn.then_ret ?_;refine Kn.block_ret ?_;refine Kn.then_ret ?_;exact Kn.ret1 fh16 rfl rfl ⟨rfl, rfl⟩
    refine wp_seq_k fun K11 hK11 => ?_;refine wp_region_lit ?_;refine Kn.pure fh12 rfl rfl .none (Kn.ex_move fh12 (.tmp rfl)) fun fa13 fh13 => ?_;clear fh12 fa12;refine Kn.step fh13 rfl rfl .none (Kn.ex_len fh13 (.tmp rfl)) fun Ko hKo => ?_;go_simp;(try go_bits);refine hKo _ _ fun fa14 fh14 => ?_;clear hKo Ko fh13 fa13;refine Kn.step fh14 rfl rfl .none (Kn.ex_bin fh14 (.tmp rfl) .const) fun Ko hKo => ?_;go_simp;(try go_bits);refine hKo _ _ fun fa15 fh15 => ?_;clear hKo Ko fh14 fa14;refine wpList_nil ?_;refine hK11 _ _ ?_;clear hK11 K11;replace fh15 := fh15.cut (.cons (t := 16) rfl (.cons (t := 10) rfl (.cons (t := 9) rfl (.cons (t := 8) rfl .nil))));refine Kn.no fh15 (.tmp rfl) ?_;refine wp_skip ?_;refine Kn.block_normal ?_;refine hK9 _ _ ?_;clear hK9 K9;replace fh15 := fh15.cut (.cons (t := 10) rfl (.cons (t := 9) rfl (.cons (t := 8) rfl .nil)));refine wp_region_lit ?_;refine Kn.step fh15 rfl rfl .none (Kn.ex_bin fh15 (.tmp rfl) .const) fun Ko hKo => ?_;go_simp;(try go_bits);refine hKo _ _ fun fa16 fh16 => ?_;clear hKo Ko fh15 fa15;refine Kn.pure fh16 rfl rfl .none (Kn.ex_move fh16 (.tmp rfl)) fun fa17 fh17 => ?_;clear fh16 fa16;refine wpList_nil ?_;replace fh17 := fh17.cut (.cons (t := 10) rfl (.cons (t := 9) rfl (.cons (t := 8) rfl .nil)))
    exact hKl6 (m6 - 1) _ _ (by omega) ⟨i + 1, fh17.cut (.turn (t := 10) rfl (by go_num) (.cons (t := 9) rfl (.cons (t := 8) rfl .nil))), by omega, (fun j hj b hb => by
      by_cases e : j = i
      · subst e; rw [hs2] at hb; cases hb; omega
      · exact hs j (by omega) b hb), rfl⟩
  have hfa : (bl.any fun b => decide (100 < b.size)) = false := List.any_eq_false.2 fun b hb => by
    obtain ⟨j, hj⟩ := List.getElem?_of_mem hb;have := hs j (by have := (List.getElem?_eq_some_iff.1 hj).1; omega) b hj
    simpa using this
  refine wp_seq_k fun K7 hK7 => ?_;refine wp_region_lit ?_;refine Kn.step fh8 rfl rfl .none (Kn.ex_bin fh8 (.tmp rfl) (.tmp rfl)) fun Ko hKo => ?_;go_simp;(try go_bits);refine hKo _ _ fun fa9 fh9 => ?_;clear hKo Ko fh8 fa8;refine wpList_nil ?_;refine hK7 _ _ ?_;clear hK7 K7;refine wp_seq_k fun K8 hK8 => ?_;refine Kn.no fh9 (.tmp rfl) ?_;replace fh9 := fh9.cut (.cons (t := 10) rfl (.cons (t := 9) rfl (.cons (t := 8) rfl .nil)));refine wp_exit ?_;refine Kn.then_exit ?_;clear hK8 K8;refine Kn.then_exit ?_;clear hKl6 Kl6;refine Kn.block_exit ?_;refine hK4 _ _ ?_;clear hK4 K4;replace fh9 := fh9.cut .nil;refine wp_seq_k fun K9 hK9 => ?_;refine wp_region_lit ?_;refine Kn.pure fh9 rfl rfl .none (Kn.ex_assign fh9 .const) fun fa10 fh10 => ?_;clear fh9 fa9;refine wpList_nil ?_;refine hK9 _ _ ?_;clear hK9 K9;refine wp_ret ?_;exact Kn.ret1 fh10 rfl rfl ⟨by rw [hfa], rfl⟩
def abc : List ByteArray := [⟨#[97]⟩, ⟨#[98]⟩, ⟨#[99]⟩]
theorem stF_2_3 : stF 2 3 = 1 := by decide +kernel
theorem stF_0_3 : stF 0 3 = 2 := by decide +kernel
theorem abc_proof : (proofF 2 abc).length = 1 := by rw [proofF_len 3 2 abc (Nat.le_refl _)]; exact stF_2_3
theorem abc_fine : Fine 2 3 (sm (c0 ++ ⟨#[99]⟩)) (proofF 2 abc) ∧ Fine 2 3 (sm (c0 ++ ⟨#[100]⟩)) (proofF 2 abc) := by
  have h1 : (proofF 2 abc).length = stF 2 3 := proofF_len 3 2 abc (Nat.le_refl _);have h2 : ∀ p ∈ proofF 2 abc, p.size = 32 := proof_sizes 3 2 abc (Nat.le_refl _);exact ⟨⟨h1, sm_size _, h2⟩, ⟨h1, sm_size _, h2⟩⟩
theorem abc_c : upD 2 3 (sm (c0 ++ ⟨#[99]⟩)) (proofF 2 abc) = (rootP abc).1 := by
  have := up_root 3 abc 2 ⟨#[99]⟩ (Nat.le_refl _) rfl
  rwa [show abc.length = 3 from rfl, upD_up _ 3 _ _ _ (Nat.le_refl _)] at this
theorem abc_x : ¬ sm (c1 ++ sm (c1 ++ sm (c0 ++ ⟨#[97]⟩) ++ sm (c0 ++ ⟨#[98]⟩)) ++ sm (c0 ++ ⟨#[100]⟩)) = sm (c1 ++ sm (c1 ++ sm (c0 ++ ⟨#[97]⟩) ++ sm (c0 ++ ⟨#[98]⟩)) ++ sm (c0 ++ ⟨#[99]⟩)) := by decide +kernel
theorem hf_3 : hf 3 = 2 := by decide +kernel
theorem hf_2 : hf 2 = 1 := by decide +kernel
theorem abc_root : (rootP abc).1 = sm (c1 ++ sm (c1 ++ sm (c0 ++ ⟨#[97]⟩) ++ sm (c0 ++ ⟨#[98]⟩)) ++ sm (c0 ++ ⟨#[99]⟩)) := by
  have e1 : (rootP [(⟨#[97]⟩ : ByteArray), ⟨#[98]⟩]).1 = sm (c1 ++ sm (c0 ++ ⟨#[97]⟩) ++ sm (c0 ++ ⟨#[98]⟩)) := by
    rw [rootP_2 (by decide), show hf [(⟨#[97]⟩ : ByteArray), ⟨#[98]⟩].length = 1 from hf_2];show sm (c1 ++ (rootP [⟨#[97]⟩]).1 ++ (rootP [⟨#[98]⟩]).1) = _;rw [rootP_1, rootP_1]
  unfold abc;rw [rootP_2 (by decide), show hf [(⟨#[97]⟩ : ByteArray), ⟨#[98]⟩, ⟨#[99]⟩].length = 2 from hf_3];show sm (c1 ++ (rootP [⟨#[97]⟩, ⟨#[98]⟩]).1 ++ (rootP [⟨#[99]⟩]).1) = _;rw [e1, rootP_1]
theorem abc_pf : proofF 2 abc = [sm (c1 ++ sm (c0 ++ ⟨#[97]⟩) ++ sm (c0 ++ ⟨#[98]⟩))] := by
  have e1 : (rootP [(⟨#[97]⟩ : ByteArray), ⟨#[98]⟩]).1 = sm (c1 ++ sm (c0 ++ ⟨#[97]⟩) ++ sm (c0 ++ ⟨#[98]⟩)) := by
    rw [rootP_2 (by decide), show hf [(⟨#[97]⟩ : ByteArray), ⟨#[98]⟩].length = 1 from hf_2];show sm (c1 ++ (rootP [⟨#[97]⟩]).1 ++ (rootP [⟨#[98]⟩]).1) = _;rw [rootP_1, rootP_1]
  unfold abc;rw [proofF_r (by decide) (by rw [show hf [(⟨#[97]⟩ : ByteArray), ⟨#[98]⟩, ⟨#[99]⟩].length = 2 from hf_3]; omega), show hf [(⟨#[97]⟩ : ByteArray), ⟨#[98]⟩, ⟨#[99]⟩].length = 2 from hf_3];show proofF 0 [⟨#[99]⟩] ++ [(rootP [⟨#[97]⟩, ⟨#[98]⟩]).1] = _;rw [e1, proofF_0 (by decide)]
  rfl
theorem abc_d : ¬ upD 2 3 (sm (c0 ++ ⟨#[100]⟩)) (proofF 2 abc) = (rootP abc).1 := by
  rw [abc_pf, abc_root, upD_r (by decide) (by rw [hf_3]; omega), hf_3, upD_0 (by decide)];exact abc_x
theorem chk_c : chkV (rootP abc).1 2 3 ⟨#[99]⟩ (proofF 2 abc) = .nilIface := by
  unfold chkV;rw [if_pos (by decide), show Int.toNat 2 = 2 from rfl, show Int.toNat 3 = 3 from rfl, if_pos (show Fine _ _ _ _ from abc_fine.1), if_pos (show upD _ _ _ _ = _ from abc_c)]
theorem chk_d : chkV (rootP abc).1 2 3 ⟨#[100]⟩ (proofF 2 abc) = fault 2 11 := by
  unfold chkV;rw [if_pos (by decide), show Int.toNat 2 = 2 from rfl, show Int.toNat 3 = 3 from rfl, if_pos (show Fine _ _ _ _ from abc_fine.2), if_neg (show ¬ upD _ _ _ _ = _ from abc_d)]
theorem stI_23 : stI 2 3 = 1 := by
  unfold stI;rw [if_pos (by decide)];show ((stF 2 3 : Nat) : Int) = 1;rw [stF_2_3]
  rfl
theorem stI_03 : stI 0 3 = 2 := by
  unfold stI;rw [if_pos (by decide)];show ((stF 0 3 : Nat) : Int) = 2;rw [stF_0_3]
  rfl
set_option maxRecDepth 100000 in
set_option maxHeartbeats 4000000 in
theorem awake9 {HT : World → Prop} {T : List ByteArray → Value → World → Prop} (C : Code9 HT T) (w : World) (hT : HT w) :
    Calls Tryd.prog 8 #[] w fun e w' => e = .returned (.bool true) ∧ Below w.heap.size w w' := by
  refine Kn.calls Tryd.func8 rfl Tryd.ntmps8 rfl .nil fun fa0 fh0 => ?_;refine wp_seq_k fun K1 hK1 => ?_;refine wp_region_lit ?_;refine Kn.pure fh0 rfl rfl .none (Kn.ex_assign fh0 .const) fun fa1 fh1 => ?_;clear fh0 fa0;refine wpList_nil ?_;refine hK1 _ _ ?_;clear hK1 K1
  have hab : ∀ b ∈ abc, b.size ≤ 300 := fun b hb => by
    unfold abc at hb;simp only [List.mem_cons, List.not_mem_nil, or_false] at hb;rcases hb with rfl | rfl | rfl <;> decide
  have hnw := C.new (some ⟨w.heap.size, 0, none⟩) 3 abc (w.alloc (.cells #[.string ⟨#[97]⟩, .string ⟨#[98]⟩, .string ⟨#[99]⟩] 9)) (by decide) hab (by decide) (by decide) (rin_new w 9 abc _ rfl) (C.hon _ _ hT ((Below.refl _ w).alloc (Nat.le_refl _) _));refine wp_seq_k fun K2 hK2 => ?_;refine wp_region_lit ?_;refine Kn.step fh1 rfl rfl .none (Kn.ex_buildSlice fh1 (.cons .const (.cons .const (.cons .const .nil)))) fun Ko hKo => ?_;go_simp;(try go_bits);refine hKo _ _ fun fa2 fh2 => ?_;clear hKo Ko fh1 fa1;refine Kn.call fh2 rfl rfl .none (Kn.ex_call fh2 (.cons (.tmp rfl) .nil)) Tryd.call11 (hnw) fun e w1 hp => ?_;obtain ⟨x, rfl, hX, hb1⟩ := hp;refine ⟨_, rfl, fun fa3 fh3 => ?_⟩;clear fh2 fa2;refine Kn.pure fh3 rfl rfl .none (Kn.ex_assign fh3 (.tmp rfl)) fun fa4 fh4 => ?_;clear fh3 fa3;refine wpList_nil ?_;refine hK2 _ _ ?_;clear hK2 K2;replace fh4 := fh4.cut (.cons (t := 1) rfl (.cons (t := 0) rfl .nil));have hB1 : Below w.heap.size w w1 := ((Below.refl _ w).alloc (Nat.le_refl _) _).trans (hb1.mono (by simp));clear hb1 hnw;have hpf := C.tproof abc x 2 w1 hX (by decide);refine wp_seq_k fun K3 hK3 => ?_;refine wp_region_lit ?_;refine Kn.pure fh4 rfl rfl .none (Kn.ex_move fh4 (.tmp rfl)) fun fa5 fh5 => ?_;clear fh4 fa4;refine Kn.call fh5 rfl rfl .none (Kn.ex_call fh5 (.cons (.tmp rfl) (.cons .const .nil))) Tryd.call16 (hpf) fun e w2 hp => ?_;obtain ⟨A2, c2, rfl, hR2, hc2, hm2, hb2⟩ := hp;refine ⟨_, rfl, fun fa6 fh6 => ?_⟩;clear fh5 fa5;refine Kn.pure fh6 rfl rfl .none (Kn.ex_move fh6 (.tmp rfl)) fun fa7 fh7 => ?_;clear fh6 fa6;refine Kn.pure fh7 rfl rfl .none (Kn.ex_extract fh7 (.tmp rfl) rfl) fun fa8 fh8 => ?_;clear fh7 fa7;refine Kn.pure fh8 rfl rfl .none (Kn.ex_extract fh8 (.tmp rfl) rfl) fun fa9 fh9 => ?_;clear fh8 fa8;refine Kn.pure fh9 rfl rfl .none (Kn.ex_assign fh9 (.tmp rfl)) fun fa10 fh10 => ?_;clear fh9 fa9;refine Kn.pure fh10 rfl rfl .none (Kn.ex_assign fh10 (.tmp rfl)) fun fa11 fh11 => ?_;clear fh10 fa10;refine wpList_nil ?_;refine hK3 _ _ ?_;clear hK3 K3;replace fh11 := fh11.cut (.cons (t := 3) rfl (.cons (t := 2) rfl (.cons (t := 1) rfl (.cons (t := 0) rfl .nil))));rw [abc_proof] at fh11 hc2;have hX2 := C.on _ _ _ _ hX hb2;have hB2 := hB1.trans (hb2.mono hB1.size);clear hX hb2 hB1 hpf;have st1 := fun u h => C.steps 2 3 u h;have st2 := fun u h => C.steps 0 3 u h;rw [stI_23] at st1;rw [stI_03] at st2;have ck1 := fun u h hh => C.check (rootP abc).1 2 3 ⟨#[99]⟩ A2 c2 (proofF 2 abc) u (by decide) (by rw [abc_proof]; omega) (by rw [abc_proof]; exact hc2) hm2 h hh;have ck2 := fun u h hh => C.check (rootP abc).1 2 3 ⟨#[100]⟩ A2 c2 (proofF 2 abc) u (by decide) (by rw [abc_proof]; omega) (by rw [abc_proof]; exact hc2) hm2 h hh;rw [chk_c, abc_proof] at ck1;rw [chk_d, abc_proof] at ck2;unfold fault errno at ck2;refine wp_seq_k fun K4 hK4 => ?_;refine wp_region_lit ?_;refine Kn.call fh11 rfl rfl .none (Kn.ex_call fh11 (.cons .const (.cons .const .nil))) Tryd.call19 (st1 w2 (C.hon _ _ hT hB2)) fun e w3 hp => ?_;obtain ⟨rfl, hb3⟩ := hp;refine ⟨_, rfl, fun fa12 fh12 => ?_⟩;clear fh11 fa11;clear st1;refine Kn.step fh12 rfl rfl .none (Kn.ex_bin fh12 (.tmp rfl) .const) fun Ko hKo => ?_;go_simp;(try go_bits);refine hKo _ _ fun fa13 fh13 => ?_;clear hKo Ko fh12 fa12;refine Kn.pure fh13 rfl rfl .none (Kn.ex_move fh13 (.tmp rfl)) fun fa14 fh14 => ?_;clear fh13 fa13;refine Kn.call fh14 rfl rfl (.some rfl rfl rfl) (Kn.ex_call fh14 (.cons .const (.cons .const .nil))) Tryd.call19 (st2 w3 (C.hon _ _ hT (hB2.trans (hb3.mono hB2.size)))) fun e w4 hp => ?_;obtain ⟨rfl, hb4⟩ := hp;refine ⟨_, rfl, fun fa15 fh15 => ?_⟩;clear fh14 fa14;have hX4 := C.on _ _ _ _ (C.on _ _ _ _ hX2 hb3) hb4;have hR4 := (hR2.on hb3).on hb4;have hB4 := hB2.trans ((hb3.trans (hb4.mono hb3.size)).mono hB2.size);clear hX2 hR2 hB2 hb3 hb4 st2;refine Kn.step fh15 rfl rfl (.some rfl rfl rfl) (Kn.ex_bin fh15 (.tmp rfl) .const) fun Ko hKo => ?_;go_simp;(try go_bits);refine hKo _ _ fun fa16 fh16 => ?_;clear hKo Ko fh15 fa15;refine Kn.pure fh16 rfl rfl .none (Kn.ex_pick fh16 (.tmp rfl) (.tmp rfl)) fun fa17 fh17 => ?_;clear fh16 fa16;refine Kn.pure fh17 rfl rfl .none (Kn.ex_move fh17 (.tmp rfl)) fun fa18 fh18 => ?_;clear fh17 fa17;refine Kn.pure fh18 rfl rfl (.some rfl rfl rfl) (Kn.ex_move fh18 (.tmp rfl)) fun fa19 fh19 => ?_;clear fh18 fa18;refine Kn.step fh19 rfl rfl (.some rfl rfl rfl) (Kn.ex_bin fh19 (.tmp rfl) .const) fun Ko hKo => ?_;go_simp;(try go_bits);refine hKo _ _ fun fa20 fh20 => ?_;clear hKo Ko fh19 fa19;refine Kn.pure fh20 rfl rfl .none (Kn.ex_pick fh20 (.tmp rfl) (.tmp rfl)) fun fa21 fh21 => ?_;clear fh20 fa20;refine Kn.pure fh21 rfl rfl .none (Kn.ex_move fh21 (.tmp rfl)) fun fa22 fh22 => ?_;clear fh21 fa21;refine Kn.pure fh22 rfl rfl (.some rfl rfl rfl) (Kn.ex_move fh22 (.tmp rfl)) fun fa23 fh23 => ?_;clear fh22 fa22;refine Kn.step fh23 rfl rfl (.some rfl rfl rfl) (Kn.ex_len fh23 (.tmp rfl)) fun Ko hKo => ?_;go_simp;(try go_bits);refine hKo _ _ fun fa24 fh24 => ?_;clear hKo Ko fh23 fa23;refine Kn.step fh24 rfl rfl (.some rfl rfl rfl) (Kn.ex_bin fh24 (.tmp rfl) .const) fun Ko hKo => ?_;go_simp;(try go_bits);refine hKo _ _ fun fa25 fh25 => ?_;clear hKo Ko fh24 fa24;refine Kn.pure fh25 rfl rfl .none (Kn.ex_pick fh25 (.tmp rfl) (.tmp rfl)) fun fa26 fh26 => ?_;clear fh25 fa25;refine Kn.pure fh26 rfl rfl .none (Kn.ex_move fh26 (.tmp rfl)) fun fa27 fh27 => ?_;clear fh26 fa26;refine Kn.pure fh27 rfl rfl (.some rfl rfl rfl) (Kn.ex_move fh27 (.tmp rfl)) fun fa28 fh28 => ?_;clear fh27 fa27;refine Kn.call fh28 rfl rfl (.some rfl rfl rfl) (Kn.ex_call fh28 (.cons (.tmp rfl) .nil)) Tryd.call13 (C.troot abc x w4 hX4) fun e w5 hp => ?_;obtain ⟨rfl, hb5⟩ := hp;refine ⟨_, rfl, fun fa29 fh29 => ?_⟩;clear fh28 fa28;refine Kn.pure fh29 rfl rfl (.some rfl rfl rfl) (Kn.ex_move fh29 (.tmp rfl)) fun fa30 fh30 => ?_;clear fh29 fa29;refine Kn.call fh30 rfl rfl (.some rfl rfl rfl) (Kn.ex_call fh30 (.cons (.tmp rfl) (.cons .const (.cons .const (.cons .const (.cons (.tmp rfl) .nil)))))) Tryd.call20 (ck1 w5 (hR4.on hb5) (C.hon _ _ hT (hB4.trans (hb5.mono hB4.size)))) fun e w6 hp => ?_
  obtain ⟨rfl, hb6⟩ := hp;refine ⟨_, rfl, fun fa31 fh31 => ?_⟩;clear fh30 fa30;have hX6 := C.on _ _ _ _ (C.on _ _ _ _ hX4 hb5) hb6;have hR6 := (hR4.on hb5).on hb6;have hB6 := hB4.trans ((hb5.trans (hb6.mono hb5.size)).mono hB4.size);clear hX4 hR4 hB4 hb5 hb6 ck1;refine Kn.step fh31 rfl rfl (.some rfl rfl rfl) (Kn.ex_bin fh31 (.tmp rfl) .const) fun Ko hKo => ?_;go_simp;(try go_bits);refine hKo _ _ fun fa32 fh32 => ?_;clear hKo Ko fh31 fa31;refine Kn.pure fh32 rfl rfl .none (Kn.ex_pick fh32 (.tmp rfl) (.tmp rfl)) fun fa33 fh33 => ?_;clear fh32 fa32;refine Kn.pure fh33 rfl rfl .none (Kn.ex_move fh33 (.tmp rfl)) fun fa34 fh34 => ?_;clear fh33 fa33;refine Kn.pure fh34 rfl rfl (.some rfl rfl rfl) (Kn.ex_move fh34 (.tmp rfl)) fun fa35 fh35 => ?_;clear fh34 fa34;refine Kn.call fh35 rfl rfl (.some rfl rfl rfl) (Kn.ex_call fh35 (.cons (.tmp rfl) .nil)) Tryd.call13 (C.troot abc x w6 hX6) fun e w7 hp => ?_;obtain ⟨rfl, hb7⟩ := hp;refine ⟨_, rfl, fun fa36 fh36 => ?_⟩;clear fh35 fa35;refine Kn.pure fh36 rfl rfl (.some rfl rfl rfl) (Kn.ex_move fh36 (.tmp rfl)) fun fa37 fh37 => ?_;clear fh36 fa36;refine Kn.call fh37 rfl rfl (.some rfl rfl rfl) (Kn.ex_call fh37 (.cons (.tmp rfl) (.cons .const (.cons .const (.cons .const (.cons (.tmp rfl) .nil)))))) Tryd.call20 (ck2 w7 (hR6.on hb7) (C.hon _ _ hT (hB6.trans (hb7.mono hB6.size)))) fun e w8 hp => ?_;obtain ⟨rfl, hb8⟩ := hp;refine ⟨_, rfl, fun fa38 fh38 => ?_⟩;clear fh37 fa37;refine Kn.step fh38 rfl rfl (.some rfl rfl rfl) (Kn.ex_bin fh38 (.tmp rfl) .const) fun Ko hKo => ?_;go_simp;(try go_bits);refine hKo _ _ fun fa39 fh39 => ?_;clear hKo Ko fh38 fa38;refine Kn.pure fh39 rfl rfl .none (Kn.ex_pick fh39 (.tmp rfl) (.tmp rfl)) fun fa40 fh40 => ?_;clear fh39 fa39;refine Kn.pure fh40 rfl rfl .none (Kn.ex_assign fh40 (.tmp rfl)) fun fa41 fh41 => ?_;clear fh40 fa40;refine wpList_nil ?_;refine hK4 _ _ ?_;clear hK4 K4;replace fh41 := fh41.cut (.cons (t := 0) rfl .nil);refine wp_ret ?_;exact Kn.ret1 fh41 rfl rfl ⟨rfl, hB6.trans ((hb7.trans (hb8.mono hb7.size)).mono hB6.size)⟩
end Go.Proofs.YtcamanopfhbchaaDoor.Mrk
end
section
namespace Go.Proofs.YtcamanopfhbchaaDoor.Kn
open Go
section
variable {P : Program} {n : Nat} {l : List (Nat × Value)} {a : Act}
theorem ex_nilCheck {d : Option Tmp} {t : TypeId} {p : String} {af : Array Edge} {g : Option (Nat × Bool)} {x : Operand} {q : Addr} (h : Kn n l a) (hx : Val l x (.pointer (some q))) : execOp a.eval ⟨d, .nilCheck x, t, p, af, g⟩ = vl (Pure.pure (.pointer (some q))) := by simp only [execOp, h.val hx]; rfl
end
end Go.Proofs.YtcamanopfhbchaaDoor.Kn
namespace Go.Proofs.YtcamanopfhbchaaDoor.Num
open Go Go.RowKit Go.Lib
def HoldI (w : World) (g : Nat) (l : List Int) : Prop := ∀ i, i < l.length → w.cell? ⟨g, i, none⟩ = some (.int .i64 (nt l i)) ∧ w.frozen? ⟨g, i, none⟩ = false
theorem HoldI.iin {w : World} {g : Nat} {l : List Int} (h : HoldI w g l) : IIn w (some ⟨g, 0, none⟩) l := fun i hi => by
  obtain ⟨h1, _⟩ := h i hi;exact ⟨g, 0, rfl, World.block_lt_of_cell? _ _ h1, by rw [Nat.zero_add]; exact h1⟩
theorem HoldI.at {w w' : World} {g : Nat} {l : List Int} (h : HoldI w g l) (e : w'.heap[g]? = w.heap[g]?) : HoldI w' g l := fun i hi => by
  obtain ⟨h1, h2⟩ := h i hi;exact ⟨by simp only [World.cell?, e]; exact h1, by simp only [World.frozen?, e]; exact h2⟩
theorem HoldI.on {w w' : World} {g : Nat} {l : List Int} (h : HoldI w g l) (hb : Below w.heap.size w w') : HoldI w' g l := fun i hi => by
  have hlt : g < w.heap.size := World.block_lt_of_cell? _ _ (h i hi).1;exact h.at (hb.block g hlt) i hi
theorem HoldI.drewN {w : World} {g : Nat} {l : List Int} (h : HoldI w g l) (q : Nat) : HoldI (w.drewN q) g l := h
theorem HoldI.drew {w : World} {g : Nat} {l : List Int} (h : HoldI w g l) : HoldI w.drew g l := h
theorem nt_set (l : List Int) (k i : Nat) (e : Int) (hi : i < l.length) : nt (l.set k e) i = if i = k then e else nt l i := by
  rw [nt_at _ _ (by simpa using hi), nt_at _ _ hi, List.getElem_set]
  by_cases h : i = k
  · subst h; simp
  · rw [if_neg (fun q => h q.symm), if_neg h]
theorem satU_run {r : Result Unit} {v : World} (H : Kn.SatU (fun w' => w' = v) r) : r = .ok () v := by
  cases r with
  | ok y w' => cases H; rfl
  | halt y w' => exact H.elim
theorem sat_run {r : Result Value} {x : Value} {v : World} (H : Kn.Sat (fun y w' => y = x ∧ w' = v) r) : r = .ok x v := by
  cases r with
  | ok y w' => obtain ⟨rfl, rfl⟩ := H; rfl
  | halt y w' => exact H.elim
theorem HoldI.store {w : World} {g : Nat} {l : List Int} (h : HoldI w g l) (k : Nat) (hk : k < l.length) (a : Int) :
    ∃ w', (Instr.storeAt 3 (.pointer (some ⟨g, k, none⟩)) (.int .i64 a)).run Tryd.prog w = .ok () w' ∧ HoldI w' g (l.set k a) ∧ (∀ b, b ≠ g → w'.heap[b]? = w.heap[b]?) ∧ w'.heap.size = w.heap.size ∧ (∀ B, B ≤ g → Below B w w') := by
  obtain ⟨c1, f1⟩ := h k hk;have hd : (w.setCell ⟨g, k, none⟩ (.int .i64 a)).heap.size = w.heap.size := by simp [World.setCell]
  refine ⟨w.setCell ⟨g, k, none⟩ (.int .i64 a), ?_, fun i hi => ?_, fun b hb => heap_setCell_other w _ b _ hb, hd, fun B hB => (Below.refl B w).setCell hB _⟩
  · refine satU_run ?_;go_simp;try simp [c1, f1]
  · have hi' : i < l.length := by simpa using hi
    rw [World.frozen?_setCell, nt_set l k i a hi'];refine ⟨?_, (h i hi').2⟩
    by_cases e : i = k
    · subst e;rw [if_pos rfl, World.cell?_setCell_same' _ _ _ (by rw [c1]; rfl)]
    · rw [if_neg e, World.cell?_setCell_other _ _ _ _ (by simp)];exact (h i hi').1
end Go.Proofs.YtcamanopfhbchaaDoor.Num
end
section
namespace Go.Proofs.YtcamanopfhbchaaDoor.RowG
open Go Go.RowKit Go.Lib
variable {α : Type} {R : Rw α} {e : TypeId} {B : Nat} {F : List α}
structure PreG (R : Rw α) (e : TypeId) (B : Nat) (F : List α) (u u' : World) : Prop where
  size : u.heap.size ≤ u'.heap.size
  old : ∀ b, b < B → u'.heap[b]? = u.heap[b]?
  ones : ∀ (b : Nat) (c : Array Value), c.size = R.size → u.heap[b]? = some (.cells c e (0, 0)) → u'.heap[b]? = some (.cells c e (0, 0))
  rows : ∀ (A : Option Addr) (k c : Nat), k ≤ F.length → ROwn R e u B A k c (F.take k) → ROwn R e u' B A k c (F.take k)
theorem PreG.refl (u : World) : PreG R e B F u u := ⟨Nat.le_refl _, fun _ _ => rfl, fun _ _ _ h => h, fun _ _ _ _ h => h⟩
theorem PreG.of_below {u u' : World} (h : Below u.heap.size u u') (hB : B ≤ u.heap.size) : PreG R e B F u u' :=
  ⟨h.size, fun b hb => h.block b (by omega), fun b c _ hc => (h.block b (Array.getElem?_eq_some_iff.1 hc).1).trans hc, fun _ _ _ _ hr => hr.on h⟩
def TK (R : Rw α) (e : TypeId) (B : Nat) (F : List α) (k : Nat) : Value → World → Prop := fun v u => ∃ A c, v = .slice A k c ∧ ROwn R e u B A k c (F.take k)
theorem TK.keep {k : Nat} (hk : k ≤ F.length) : ∀ v u u', PreG R e B F u u' → TK R e B F k v u → TK R e B F k v u' := fun _ _ _ hG ⟨A, c, h1, h2⟩ => ⟨A, c, h1, hG.rows A k c hk h2⟩
def TB (R : Rw α) (e : TypeId) (B : Nat) (x : α) : Value → World → Prop := fun v u => ∃ b, v = .slice (some ⟨b, 0, none⟩) 1 1 ∧ B ≤ b ∧ u.heap[b]? = some (.cells (R.enc x).toArray e (0, 0))
theorem TB.keep {x : α} : ∀ v u u', PreG R e B F u u' → TB R e B x v u → TB R e B x v u' := fun _ _ _ hG ⟨b, h1, hB, h2⟩ => ⟨b, h1, hB, hG.ones b _ (by simp [R.len]) h2⟩
theorem TB.own {u : World} {b : Nat} {x : α} (hB : B ≤ b) (h : u.heap[b]? = some (.cells (R.enc x).toArray e (0, 0))) : ROwn R e u B (some ⟨b, 0, none⟩) 1 1 [x] := by
  refine ⟨rfl, by rw [cs_len]; rfl, .inr ⟨b, 1, _, rfl, hB, h, Nat.le_refl _, by unfold maxLen; omega, by simp [R.len], ?_⟩⟩;have : (R.enc x).length = 1 * R.size := by rw [R.len, Nat.one_mul]
  simp only [cs, List.flatMap_cons, List.flatMap_nil, List.append_nil];rw [← this, List.take_length]
def T0 (R : Rw α) (e : TypeId) (B : Nat) (F : List α) : Value → World → Prop := fun v u => ∃ b, v = .slice (some ⟨b, 0, none⟩) 0 0 ∧ ROwn R e u B (some ⟨b, 0, none⟩) 0 0 (F.take 0)
theorem T0.keep : ∀ v u u', PreG R e B F u u' → T0 R e B F v u → T0 R e B F v u' := fun _ _ _ hG ⟨b, h1, h2⟩ => ⟨b, h1, hG.rows _ 0 0 (Nat.zero_le _) h2⟩
theorem TB.rin {u : World} {b : Nat} {x : α} (h : u.heap[b]? = some (.cells (R.enc x).toArray e (0, 0))) : RIn R u (some ⟨b, 0, none⟩) [x] := fun i a hi => by
  have hS : St.St u b e (R.enc x).toArray := h
  cases i with
  | zero =>
    simp at hi;subst hi;refine ⟨b, 0, rfl, hS.lt, fun j v hv => ?_⟩;rw [Nat.zero_mul, Nat.zero_add, Nat.zero_add];exact hS.cell j (by simpa using hv)
  | succ i => simp at hi
theorem take_cs (l : List α) (k : Nat) : cs R (l.take k) = (cs R l).take (k * R.size) := by
  apply List.ext_getElem?
  intro i;rw [List.getElem?_take]
  induction l generalizing k i with
  | nil => simp [cs]
  | cons x l ih =>
    cases k with
    | zero => simp [cs]
    | succ k =>
      have e1 : cs R ((x :: l).take (k + 1)) = R.enc x ++ cs R (l.take k) := by simp [cs]
      have e2 : cs R (x :: l) = R.enc x ++ cs R l := by simp [cs]
      rw [e1, e2];rcases Nat.lt_or_ge i R.size with h | h
      · rw [List.getElem?_append_left (by rw [R.len]; exact h), List.getElem?_append_left (by rw [R.len]; exact h), if_pos (by rw [Nat.add_mul]; omega)]
      · rw [List.getElem?_append_right (by rw [R.len]; exact h), List.getElem?_append_right (by rw [R.len]; exact h), R.len, ih k (i - R.size)];have : (i - R.size < k * R.size) = (i < (k + 1) * R.size) := by rw [Nat.add_mul]; apply propext; omega
        simp only [this]
theorem push_pre {P : Program} {T : TypeId} {z : Value} {bytes : Nat} {v w0 : World} {A : Option Addr} {n cap : Nat} (hE : Own.Elem P T e z R.size bytes) (ty : TypeId) (m c b o : Nat) (src : List α) (hw0 : B = w0.heap.size) (hO : ROwn R e v B A n cap (F.take n)) (hS : RIn R v (some ⟨b, o, none⟩) src) (hm : m = src.length) (hsrc : (F.drop n).take m = src) (hnm : n + m ≤ F.length) (hm0 : 0 < m) (hn0 : 0 < n ∨ cap = 0) (hb : Below w0.heap.size w0 v) (hmax : n + m ≤ 1000000) (hby : bytes ≤ 100000) :
    ∃ v' u', (Builtin.append_ #[T, T] ty #[.slice A n cap, .slice (some ⟨b, o, none⟩) m c]).run P v = .ok v' u' ∧ TK R e B F (n + m) v' u' ∧ Below w0.heap.size w0 u' ∧ PreG R e B F v u' := by
  subst hw0;have htake : F.take n ++ src = F.take (n + m) := by rw [← hsrc, List.take_add]
  obtain ⟨g', cap', v', h1, h2, h3, h4⟩ := hO.pushM hE ty m c b o src hS hm (by omega) hb hmax hby;rw [htake] at h2;refine ⟨_, v', h1, ⟨_, _, rfl, h2⟩, h3, ?_⟩;have hpos := hE.pos;rcases hO.2.2 with ⟨hv, hn⟩ | ⟨g, cap2, cur, hv, hBg, hg, hnc, hcm, hcs, htk⟩
  · -- nil: all is new
    injection hv with hA _ _
    subst hA;have hr : v.grownBy v' none := h4.grown
    exact ⟨h4.size, fun b hb2 => hr.block b (Nat.lt_of_lt_of_le hb2 hb.size) (by simp), fun b c _ hc => (hr.block b (Array.getElem?_eq_some_iff.1 hc).1 (by simp)).trans hc, fun A' k c' _ hR => hR.kept h4 (by
      cases hq : (Value.slice A' k c').ownBlock with
      | none => exact .inl rfl
      | some q => exact .inr (by simp [Value.ownBlock]))⟩
  · injection hv with hA _ hcap
    subst hA hcap;obtain ⟨i, hi, hz0, hz1, hz2⟩ := hE.parts;have hnl : (cs R src).length = m * R.size := by rw [cs_len, hm]
    have hfl : (cs R (F.take n)).length = n * R.size := by
      rw [cs_len, List.length_take]
      congr 1
      omega
    by_cases hroom : n + m ≤ cap
    · have hex := run_append_room (P := P) v T ty e i hE.under hi g n cap cur hg ⟨b, o, none⟩ m c (cs R src) (by rw [hnl, hz1]) (hS.news hpos) (cs_one R _) hroom (by
        rw [hz1, hnl, hcs, ← Nat.add_mul]
        exact Nat.mul_le_mul_right _ hroom)
      rw [h1] at hex;injection hex with _ hv'
      rw [hz1, hnl] at hv'
      have hcap0 : 0 < n := by
        rcases hn0 with h | h
        · exact h
        · omega
      have hsz1 : cur.size ≠ R.size := by
        rw [hcs];intro h;have : 2 * R.size ≤ cap * R.size := Nat.mul_le_mul_right _ (by omega);omega
      refine ⟨h4.size, fun b2 hb2 => ?_, fun b2 c2 hc2 hh => ?_, fun A' k c' hk hR => ?_⟩
      · rw [hv'];exact setRow_other v g b2 _ (by omega)
      · rw [hv']
        rw [setRow_other v g b2 _ (fun he => by
          subst he;rw [hg] at hh;injection hh with hh
          injection hh with hh _ _
          exact hsz1 (by rw [hh]; exact hc2))]
        exact hh
      · refine ⟨hR.1, hR.2.1, ?_⟩;rcases hR.2.2 with hn2 | ⟨g2, cap2, cur2, hv2, hB2, hg2, hnc2, hcm2, hcs2, htk2⟩
        · exact .inl hn2
        · right
          by_cases hgg : g2 = g
          · subst hgg;rw [hg] at hg2;injection hg2 with hg2
            injection hg2 with hg2 _ _
            subst hg2;refine ⟨g2, cap2, _, hv2, hB2, by rw [hv']; exact setRow_heap v g2 cur _ e (0, 0) hg, hnc2, hcm2, ?_, ?_⟩
            · have hle : n * R.size + m * R.size ≤ cap * R.size := by rw [← Nat.add_mul]; exact Nat.mul_le_mul_right _ hroom
              simp only [List.size_toArray, List.length_append, List.length_take, List.length_drop, Array.length_toList, hnl, hcs] at *;omega
            · -- each cell is F's
              simp only at *
              have hcn : ∀ j, j < n * R.size → cur.toList[j]? = (cs R F)[j]? := fun j hj => by
                have := congrArg (fun q => q[j]?) htk;simp only [List.getElem?_take, if_pos hj] at this;rw [this, take_cs, List.getElem?_take, if_pos hj]
              have hck : ∀ j, j < k * R.size → cur.toList[j]? = (cs R F)[j]? := fun j hj => by
                have := congrArg (fun q => q[j]?) htk2;simp only [List.getElem?_take, if_pos hj] at this;rw [this, take_cs, List.getElem?_take, if_pos hj]
              have hsr : ∀ j, j < m * R.size → (cs R src)[j]? = (cs R F)[n * R.size + j]? := fun j hj => by
                have e3 : cs R (F.take (n + m)) = cs R (F.take n) ++ cs R src := by rw [← htake, cs_app]
                have e4 : (cs R (F.take n) ++ cs R src)[n * R.size + j]? = (cs R src)[j]? := by
                  rw [List.getElem?_append_right (by rw [hfl]; omega), hfl, Nat.add_sub_cancel_left]
                rw [← e4, ← e3, take_cs, List.getElem?_take, if_pos (by rw [Nat.add_mul]; omega)]
              have hcl : cur.toList.length = cap * R.size := by rw [Array.length_toList, hcs]
              have hle : n * R.size + m * R.size ≤ cap * R.size := by rw [← Nat.add_mul]; exact Nat.mul_le_mul_right _ hroom
              have hkc : k * R.size ≤ cap * R.size := by rw [← hcs, hcs2]; exact Nat.mul_le_mul_right _ hnc2
              rw [take_cs]
              apply List.ext_getElem?
              intro j;rw [List.getElem?_take, List.getElem?_take]
              by_cases hjk : j < k * R.size
              · rw [if_pos hjk, if_pos hjk];have hl1 : (cur.toList.take (n * R.size)).length = n * R.size := by rw [List.length_take]; omega
                rcases Nat.lt_or_ge j (n * R.size) with hj1 | hj1
                · rw [List.append_assoc, List.getElem?_append_left (by rw [hl1]; exact hj1), List.getElem?_take, if_pos hj1];exact hcn j hj1
                · rcases Nat.lt_or_ge j (n * R.size + m * R.size) with hj2 | hj2
                  · rw [List.append_assoc, List.getElem?_append_right (by rw [hl1]; exact hj1), hl1, List.getElem?_append_left (by rw [hnl]; omega), hsr _ (by omega)]
                    congr 1
                    omega
                  · rw [List.getElem?_append_right (by rw [List.length_append, hl1, hnl]; exact hj2), List.length_append, hl1, hnl, List.getElem?_drop, show n * R.size + m * R.size + (j - (n * R.size + m * R.size)) = j by omega];exact hck j hjk
              · rw [if_neg hjk, if_neg hjk]
          · exact ⟨g2, cap2, cur2, hv2, hB2, by rw [hv', setRow_other v g g2 _ hgg]; exact hg2, hnc2, hcm2, hcs2, htk2⟩
    · -- it grows: all is new
      have holds : ∀ j u, (cs R (F.take n))[j]? = some u → v.cell? ((⟨g, 0, none⟩ : Addr).add j) = some u := fun j u hu => by
        have := hO.2.cells (g := g) rfl j u hu;exact this
      have hby2 : (n + m) * i.bytes ≤ 1000000 * 100000 := by rw [hz2]; exact Nat.mul_le_mul hmax hby
      have hex := run_append_grow (P := P) v T ty e i z hE.under hi hz0 ⟨g, 0, none⟩ n cap (cs R (F.take n)) (by rw [hfl, hz1]) holds ⟨b, o, none⟩ m c (cs R src) (by rw [hnl, hz1]) (hS.news hpos) (by omega) (by omega) (growslice_fits (by omega) (by omega));rw [h1] at hex;injection hex with _ hv'
      have hbel : Below v.heap.size v v' := by rw [hv']; exact ((Below.refl _ v).drew).alloc (Nat.le_refl _) _
      exact PreG.of_below hbel hb.size
end Go.Proofs.YtcamanopfhbchaaDoor.RowG
end
