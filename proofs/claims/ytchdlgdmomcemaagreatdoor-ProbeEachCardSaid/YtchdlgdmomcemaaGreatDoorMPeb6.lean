/- A part of the proof of ProbeEachCardSaid: texts that lead to it, merged. -/
import Derived.Test.YtchdlgdmomcemaaGreatDoorMPeb5
import Derived.Test.YtchdlgdmomcemaaGreatDoorChecked
import Derived.Shelf.Pu.Clone
import Derived.Ground.NamesProg
import Derived.Shelf.Strings.OnBuilder
import Derived.Test.YtchdlgdmomcemaaGreatDoorProg
import Derived.Shelf.SlicesQ.Reverse
import Derived.Lib.OwnBridge
import Derived.ProofKit
import Derived.OpenShut
import Derived.Maps.Keyed
import Derived.DeepKeys4
import Derived.WideMake
import Derived.WalkKit
import Derived.WalkSpells
import Derived.WalkLawsBesides
import Derived.LaidEql
import Derived.Stop.Asserts
import Derived.RowKitTokens
import Derived.Lib.Hide
import Derived.Shelf.Abstract
import Derived.StillTailTactics
import Derived.Deep.QuietTactic
import Derived.BigCall
import Derived.Deep.LoopGhost
import Derived.Defers
import Derived.Recover
import Derived.Lib.AppendStr
import Derived.Lib.UnsafeStr
import Derived.Lib.BufferRead
import Derived.Laws.IdiomStrings
import Derived.Shelf.SlGeneric
import Derived.Shelf.SlicesE.Clone
import Derived.Ground.SlgnProg
section
namespace Go.Proofs.YtchdlgdmomcemaaGreatDoor.Blk
open Go.RowKit Go.Lib Go.Shelf
def cloneRen : Ren := { f := fun | 25 => 50 | n => n, t := fun | 3 => 3 | 4 => 4 | 5 => 5 | 9 => 9 | 37 => 136 | 47 => 137 | n => n, g := fun n => n }
theorem cloneLays : LaysPu.n25 Tryz.prog cloneRen := ⟨by kernel_rfl, by kernel_rfl, by kernel_rfl, fun _ => by kernel_rfl, fun _ => by kernel_rfl, fun _ => by kernel_rfl, by kernel_rfl, by kernel_rfl, fun _ => by kernel_rfl, fun _ => by kernel_rfl, fun _ => by kernel_rfl, by kernel_rfl, by kernel_rfl, fun _ => by kernel_rfl, fun _ => by kernel_rfl, fun _ => by kernel_rfl, by kernel_rfl, by kernel_rfl, fun _ => by kernel_rfl, fun _ => by kernel_rfl, fun _ => by kernel_rfl, by kernel_rfl, by kernel_rfl, fun _ => by kernel_rfl, fun _ => by kernel_rfl, fun _ => by kernel_rfl, by kernel_rfl, by kernel_rfl, fun _ => by kernel_rfl, fun _ => by kernel_rfl, fun _ => by kernel_rfl, by kernel_rfl, by kernel_rfl, fun _ => by kernel_rfl, fun _ => by kernel_rfl, fun _ => by kernel_rfl, by kernel_rfl⟩
theorem clone_any (s : ByteArray) (w : World) (h : s.size ≤ 281474976710656) :
    Calls Tryz.prog 23 #[.string s] w fun e w' => e = .returned (.string s) ∧ Below w.heap.size w w' := by
  go_enter Tryz.func23, Tryz.ntmps23
  go_wp2_with (go_at_call 50; refine ((show Calls Tryz.prog 50 #[.string s] _ fun e w' => e = .returned (.string s) ∧ Below _ _ w' from AnyPu.stringslite_Clone cloneLays s _ h)).mono ?_; rintro e w' ⟨rfl, hb⟩)
  go_ret
  exact ⟨rfl, by assumption⟩
end Go.Proofs.YtchdlgdmomcemaaGreatDoor.Blk
end
section
namespace Go.Proofs
open Go.Shelf
def Tryz.layJoin_ren : Go.Shelf.Ren := ⟨fun | 156 => 73 | 165 => 97 | 166 => 98 | 169 => 99 | 240 => 122 | 241 => 123 | 276 => 141 | 277 => 142 | n => n, fun | 31 => 35 | 9 => 9 | 3 => 3 | 4 => 4 | 0 => 0 | 20 => 20 | 72 => 176 | 76 => 46 | 70 => 174 | 37 => 136 | 75 => 29 | 127 => 137 | 164 => 104 | 5 => 5 | 80 => 133 | n => n, fun | n => n⟩
theorem Tryz.layJoin : Go.Proofs.Lays.n156 Tryz.prog Tryz.layJoin_ren := {
  mixed := by kernel_rfl
  f156 := Tryz.func73.trans (congrArg some (by kernel_rfl))
  f165 := Tryz.func97.trans (congrArg some (by kernel_rfl))
  f166 := Tryz.func98.trans (congrArg some (by kernel_rfl))
  f169 := Tryz.func99.trans (congrArg some (by kernel_rfl))
  f240 := Tryz.func122.trans (congrArg some (by kernel_rfl))
  f241 := Tryz.func123.trans (congrArg some (by kernel_rfl))
  f276 := Tryz.func141.trans (congrArg some (by kernel_rfl))
  f277 := Tryz.func142.trans (congrArg some (by kernel_rfl))
  t0 := Tryz.underlying0
  a0 := Tryz.isAgg0
  z0 := Tryz.sizeOf0
  v0 := Tryz.zeroValue0
  t3 := Tryz.underlying3
  a3 := Tryz.isAgg3
  z3 := Tryz.sizeOf3
  v3 := Tryz.zeroValue3
  t4 := Tryz.underlying4
  a4 := Tryz.isAgg4
  z4 := Tryz.sizeOf4
  v4 := Tryz.zeroValue4
  t9 := Tryz.underlying9
  a9 := Tryz.isAgg9
  z9 := Tryz.sizeOf9
  v9 := Tryz.zeroValue9
  t20 := Tryz.underlying20
  a20 := Tryz.isAgg20
  z20 := Tryz.sizeOf20
  v20 := Tryz.zeroValue20
  t31 := Tryz.underlying35
  a31 := Tryz.isAgg35
  z31 := Tryz.sizeOf35
  v31 := Tryz.zeroValue35
  t37 := Tryz.underlying136
  a37 := Tryz.isAgg136
  z37 := Tryz.sizeOf136
  v37 := Tryz.zeroValue136
  t70 := Tryz.underlying174
  a70 := Tryz.isAgg174
  z70 := Tryz.sizeOf174
  v70 := Tryz.zeroValue174
  t72 := Tryz.underlying176
  a72 := Tryz.isAgg176
  z72 := Tryz.sizeOf176
  v72 := Tryz.zeroValue176
  t75 := Tryz.underlying29
  a75 := Tryz.isAgg29
  z75 := Tryz.sizeOf29
  v75 := Tryz.zeroValue29
  t76 := Tryz.underlying46
  a76 := Tryz.isAgg46
  z76 := Tryz.sizeOf46
  v76 := Tryz.zeroValue46
  t127 := Tryz.underlying137
  a127 := Tryz.isAgg137
  z127 := Tryz.sizeOf137
  v127 := Tryz.zeroValue137
  t164 := Tryz.underlying104
  a164 := Tryz.isAgg104
  z164 := Tryz.sizeOf104
  v164 := Tryz.zeroValue104 }
theorem Tryz.layJoinX : Builder.Extra Tryz.prog Tryz.layJoin_ren := {
  sizeBuilder := by kernel_rfl
  liesBuilder := by kernel_rfl
  t5 := Tryz.underlying5
  a5 := Tryz.isAgg5
  z5 := Tryz.sizeOf5
  v5 := Tryz.zeroValue5
  infoByte := by kernel_rfl
  cellsByte := by kernel_rfl
  sizeByte := by kernel_rfl
  neB5 := by decide }
end Go.Proofs
end
section
namespace Go.Proofs.YtchdlgdmomcemaaGreatDoor.Blk
open Go Go.RowKit Go.Lib RowG
theorem cat_list (ts : List ByteArray) : (catK ts).data.toList = (ts.map (·.data.toList)).flatten := by
  have h : ∀ (ts : List ByteArray) (acc : ByteArray), (ts.foldl (· ++ ·) acc).data.toList = acc.data.toList ++ (ts.map (·.data.toList)).flatten := fun ts => by
    induction ts with
    | nil => intro acc; simp
    | cons a r ih => intro acc; rw [List.foldl_cons, ih]; simp
  exact h ts _
theorem join_flat (ts : List ByteArray) : Lib.join (ts.map (·.data.toList)) [] = (catK ts).data.toList := by
  rw [cat_list]
  cases ts with
  | nil => rfl
  | cons a r => rw [List.map_cons, Lib.join_cons]; simp [Lib.joinTail]; rfl
theorem join_any (A : Option Addr) (c : Nat) (ts : List ByteArray) (w : World) (hl : ts.length ≤ 1000) (hc : ts.length ≤ c) (hz : (catK ts).size ≤ 100000) (hA : RIn txR w A ts) :
    Calls Tryz.prog 73 #[.slice A ts.length c, .string ⟨#[]⟩] w fun e w' => e = .returned (.string (catK ts)) ∧ Below w.heap.size w w' := by
  rcases Nat.eq_zero_or_pos ts.length with h0 | h0
  · obtain rfl := List.eq_nil_of_length_eq_zero h0;exact (Any.strings_Join_none Tryz.layJoin Tryz.layJoinX A c ⟨#[]⟩ w).mono fun e w' ⟨h1, h2⟩ => ⟨h1, by rw [h2]; exact Below.refl _ _⟩
  · obtain ⟨b, o, rfl, hb⟩ := hA.addr h0;have hj : Lib.join (ts.map (·.data.toList)) (⟨#[]⟩ : ByteArray).data.toList = (catK ts).data.toList := join_flat ts;have hlen : (catK ts).data.toList.length = (catK ts).size := by rw [Array.length_toList]; rfl
    refine (Any.strings_Join Tryz.layJoin Tryz.layJoinX b o c ts ⟨#[]⟩ w (fun j x hx => ?_) hb (by omega) hc (by rw [hj, hlen]; omega)).mono fun e w' ⟨h1, h2⟩ => ⟨?_, h2⟩
    · obtain ⟨b', o', e, -, hcell⟩ := tx_cell hA hx;cases e;exact hcell
    · rw [h1, hj]
end Go.Proofs.YtchdlgdmomcemaaGreatDoor.Blk
end
section
namespace Go.Proofs.YtchdlgdmomcemaaGreatDoor.Blk
open Go Go.RowKit Go.Lib RowG Num
set_option maxRecDepth 100000 in
set_option maxHeartbeats 4000000 in
theorem cut_full (A : Option Addr) (c : Nat) (ts : List ByteArray) (w : World) (hl : ts.length ≤ 1000) (hc : ts.length ≤ c) (hz : (catK ts).size ≤ 20000) (hA : RIn txR w A ts) :
    Calls Tryz.prog 46 #[.slice A ts.length c] w fun e v => ∃ g, e = .returned (.slice (some ⟨g, 0, none⟩) (cntK (catK ts).size) (cntK (catK ts).size)) ∧ w.heap.size ≤ g ∧ RIn txR v (some ⟨g, 0, none⟩) (cutK (catK ts)) ∧ Below w.heap.size w v := by
  refine Kn.Z.cl Tryz.func46 rfl Tryz.ntmps46 rfl (.c 0 rfl .n) ?_;refine Kn.Z.f fun K1 hK1=>?_;refine Kn.Z.u (.a .c .n) ?_;refine Kn.Z.e hK1 ?_;clear hK1 K1;have hj := join_any A c ts w hl hc (by omega) hA;refine Kn.Z.f fun K2 hK2=>?_;refine Kn.Z.u (.m (.t rfl) .n) ?_;refine Kn.Z.c .o (.call (.c (.t rfl) (.c .c .n))) Tryz.call73 (hj) fun e w1 hp=>?_;obtain ⟨rfl, hb1⟩ := hp;refine ⟨_,rfl,?_⟩;refine Kn.Z.u (.a (.t rfl) .n) ?_;refine Kn.Z.e hK2 ?_;clear hK2 K2;obtain ⟨s, hs⟩ : ∃ s, catK ts = s := ⟨_, rfl⟩;intro fa fh;rw [hs] at fh hz ⊢;obtain ⟨N, hN⟩ : ∃ N, cntK s.size = N := ⟨_, rfl⟩;have hct := count_any s.size w1 (by omega);rw [hN] at hct;have hN2 : N ≤ 400 := by rw [← hN]; unfold cntK; omega
  obtain ⟨w2, hmk, hO2, hb2⟩ := makeG (P := Tryz.prog) txR elemTx8 (⟨#[]⟩ : ByteArray) (by rfl) w1 N (by show N * 1 ≤ _; omega) (by decide) (by omega);have hH2 := hold_of_own hO2;clear hO2 hj hs;obtain ⟨g, hg⟩ : ∃ q, w1.heap.size = q := ⟨_, rfl⟩;rw [hg] at hmk hH2;have hgw : w.heap.size ≤ g := by rw [← hg]; exact hb1.size
  have hB2 : Below w.heap.size w w2 := hb1.trans (hb2.mono hb1.size);clear hb1 hb2 hg hA
  revert fa
  refine Kn.Z.f fun K3 hK3=>?_;refine Kn.Z.u (.m (.t rfl) .n) ?_;refine Kn.Z.s .o (.len (.t rfl)) fun Ko Kp=>?_;go_simp;(try go_bits);refine Kp _ _ ?_;clear Kp Ko;refine Kn.Z.c .o (.call (.c (.t rfl) .n)) Tryz.call45 (hct) fun e w1b hp=>?_;obtain ⟨rfl, rfl⟩ := hp;refine ⟨_,rfl,?_⟩;refine Kn.Z.k .o (.makeSlice (.t rfl) (.t rfl)) hmk ?_;refine Kn.Z.u (.a (.t rfl) .n) ?_;refine Kn.Z.e hK3 ?_;clear hK3 K3;clear hmk hct;refine Kn.Z.q fun K4 hK4=>?_;refine Kn.Z.f fun K5 hK5=>?_;refine Kn.Z.u (.m (.t rfl) .n) ?_;refine Kn.Z.s .o (.len (.t rfl)) fun Ko Kp=>?_;go_simp;(try go_bits);refine Kp _ _ ?_;clear Kp Ko;refine Kn.Z.u (.m .c .n) ?_;refine Kn.Z.e hK5 ?_;clear hK5 K5;refine Kn.Z.b ?_;intro fa fh;refine Kn.loop (fun m fr u => ∃ (i : Nat) (ls : List ByteArray), Kn.Kn 35 [(15, .int .i64 (i : Int)), (14, .int .i64 (N : Int)), (4, .slice (some ⟨g, 0, none⟩) N N), (3, .string s)] fr ∧ i + m = N ∧ ls.length = N ∧ Hid (∀ j, j < i → ls[j]? = (cutK s)[j]?) ∧ Hid (Hold txR u g ls) ∧ Hid (Below w.heap.size w u)) N ⟨0, List.replicate N ⟨#[]⟩, fh.cut (.u 15 rfl rfl (.c 14 rfl (.c 4 rfl (.c 3 rfl .n)))), by omega, by simp, Lib.hid (fun j hj => by omega), hH2, hB2⟩ ?_;clear fh fa;intro m6 fb u hI Kl6 hKl6;obtain ⟨i, ls, fg, hi, hll, HE, HH, HB⟩ := hI
  by_cases hlt : i < N
  · have hic : i < cntK s.size := by omega
    have hsz := size_any s.size (i : Int) u (by omega);have hst := szK_step hic;obtain ⟨z, hzz⟩ : ∃ z, szK s.size (i : Int) = z := ⟨_, rfl⟩;rw [hzz] at hsz hst;obtain ⟨p, hp⟩ : ∃ p, 64 * i = p := ⟨_, rfl⟩;have hps : p ≤ s.size := by unfold cntK at hic; omega
    obtain ⟨e1, he1⟩ : ∃ q, p + z = q := ⟨_, rfl⟩;have he2 : e1 = min s.size (64 * (i + 1)) := by omega
    have hbk : blkK s i = s.extract p e1 := by unfold blkK; rw [hp, Nat.min_eq_right hps, ← he2]
    obtain ⟨q, hq⟩ : ∃ q, s.extract p e1 = q := ⟨_, rfl⟩;rw [hq] at hbk;have r1 : (i : Int) * 64 = (p : Int) := by omega
    have r2 : (p : Int) + (z : Int) = (e1 : Int) := by omega
    have hes : e1 ≤ s.size := by omega
    have hpe : p ≤ e1 := by omega
    have hqs : q.size ≤ 281474976710656 := by rw [← hq, ByteArray.size_extract]; omega
    have hsl : ∀ v, (Instr.sliceAt 9 (.string s) (some (.int .i64 (p : Int))) (some (.int .i64 (e1 : Int))) none).run Tryz.prog v = .ok (.string q) v := fun v => by
      have := run_slice_string (P := Tryz.prog) v 9 s .i64 .i64 p e1 Tryz.underlying9 (by omega) (by omega) (by omega);rw [Int.toNat_natCast, Int.toNat_natCast, hq] at this;rw [run_sliceAt_string _ _ _ _ _ _ Tryz.underlying9];exact this
    have hcl := clone_any q u hqs;have hcu := cutK_at hic;rw [hbk] at hcu;clear hst hp he1 he2 hq hbk hzz
    revert fb
    refine Kn.Z.f fun K7 hK7=>?_;refine Kn.Z.s .o (.bin (.t rfl) (.t rfl)) fun Ko Kp=>?_;go_simp;(try go_bits);refine Kp _ _ ?_;clear Kp Ko;refine Kn.Z.e hK7 ?_;clear hK7 K7;refine Kn.Z.q fun K8 hK8=>?_;refine Kn.Z.y (.t rfl) ?_;refine Kn.Z.j hK8 ?_;clear hK8 K8;refine Kn.Z.t (.c 15 rfl (.c 14 rfl (.c 4 rfl (.c 3 rfl .n)))) ?_;refine Kn.Z.q fun K9 hK9=>?_;refine Kn.Z.b ?_;refine Kn.Z.f fun K10 hK10=>?_;refine Kn.Z.u (.m (.t rfl) (.a (.t rfl) .n)) ?_;refine Kn.Z.e hK10 ?_;clear hK10 K10;refine Kn.Z.f fun K11 hK11=>?_;refine Kn.Z.u (.m (.t rfl) .n) ?_;refine Kn.Z.s .o (.bin (.t rfl) .c) fun Ko Kp=>?_;go_simp;(try go_bits);refine Kp _ _ ?_;clear Kp Ko;refine Kn.Z.u (.a (.t rfl) .n) ?_;refine Kn.Z.e hK11 ?_;clear hK11 K11;clear r1;refine Kn.Z.r ?_;refine Kn.Z.u (.m (.t rfl) (.m (.t rfl) (.m (.t rfl) (.m (.t rfl) (.m (.t rfl) (.m (.t rfl) .n)))))) ?_;refine Kn.Z.s .o (.len (.t rfl)) fun Ko Kp=>?_;go_simp;(try go_bits);refine Kp _ _ ?_;clear Kp Ko;refine Kn.Z.u (.m (.t rfl) .n) ?_;refine Kn.Z.c .o (.call (.c (.t rfl) (.c (.t rfl) .n))) Tryz.call74 (hsz) fun e u1 hp=>?_;obtain ⟨rfl, rfl⟩ := hp;refine ⟨_,rfl,?_⟩;refine Kn.Z.s .o (.bin (.t rfl) (.t rfl)) fun Ko Kp=>?_;go_simp;(try go_bits);refine Kp _ _ ?_;clear Kp Ko;refine Kn.Z.k .o (.sliceLH (.t rfl) (.t rfl) (.t rfl)) (hsl u) ?_;refine Kn.Z.c .o (.call (.c (.t rfl) .n)) Tryz.call23 (hcl) fun e u2 hp=>?_;obtain ⟨rfl, hb2⟩ := hp;refine ⟨_,rfl,?_⟩;obtain ⟨u3, hst, hH3, hr1, hr2, hr3⟩ := (HH.out.on hb2).store1 (P := Tryz.prog) (e := 9) i (by omega) q (.string q) rfl rfl (fun w p c h1 h2 => store_tx8 q w p c h1 h2);have HB3 : Hid (Below w.heap.size w u3) := Lib.hid ((HB.out.trans (hb2.mono HB.out.size)).trans (hr3 _ hgw));clear hb2 hcl hsl r2 hsz hr1 hr2 hr3;refine Kn.Z.s .o (.indexAddr (.t rfl) (.t rfl)) fun Ko Kp=>?_;go_simp;(try go_bits);refine Kp _ _ ?_;clear Kp Ko;refine Kn.Z.su .o (.store (.t rfl) (.t rfl)) fun Ko Kp=>?_;refine Kn.satU_run8 hst ?_;refine Kp _ ?_;clear Kp Ko;intro fa fh;refine wpList_nil ?_;refine Kn.block_normal ?_;refine hK9 _ _ ?_;clear hK9 K9
    revert fa
    refine Kn.Z.t (.c 15 rfl (.c 14 rfl (.c 4 rfl (.c 3 rfl .n)))) ?_;refine Kn.Z.r ?_;refine Kn.Z.s .o (.bin (.t rfl) .c) fun Ko Kp=>?_;go_simp;(try go_bits);refine Kp _ _ ?_;clear Kp Ko;refine Kn.Z.u (.m (.t rfl) .n) ?_;intro fa fh;refine wpList_nil ?_;replace fh := fh.cut (.c 15 rfl (.c 14 rfl (.c 4 rfl (.c 3 rfl .n))))
    exact hKl6 (m6 - 1) _ _ (by omega) ⟨i + 1, ls.set i q, fh.cut (.u 15 rfl (by go_num) (.c 14 rfl (.c 4 rfl (.c 3 rfl .n)))), by omega, by rw [List.length_set]; exact hll, Lib.hid (fun j hj => by
      by_cases e : i = j
      · subst e; rw [List.getElem?_set_self (by omega), hcu]
      · rw [List.getElem?_set_ne e]; exact HE.out j (by omega)), hH3, HB3⟩
  have hin : i = N := by omega
  subst hin
  have hls : ls = cutK s := by
    apply List.ext_getElem?
    intro j
    by_cases hj : j < ls.length
    · exact HE.out j (by omega)
    · rw [List.getElem?_eq_none (by omega), List.getElem?_eq_none (by rw [cutK_len]; omega)]
  subst hls
  revert fb
  refine Kn.Z.f fun K7 hK7=>?_;refine Kn.Z.s .o (.bin (.t rfl) (.t rfl)) fun Ko Kp=>?_;go_simp;(try go_bits);refine Kp _ _ ?_;clear Kp Ko;refine Kn.Z.e hK7 ?_;clear hK7 K7;refine Kn.Z.q fun K8 hK8=>?_;refine Kn.Z.no (.t rfl) ?_;refine Kn.Z.t (.c 15 rfl (.c 14 rfl (.c 4 rfl (.c 3 rfl .n)))) ?_;intro fa fh;refine wp_exit ?_;refine Kn.then_exit ?_;clear hK8 K8;refine Kn.then_exit ?_;clear hKl6 Kl6;refine Kn.block_exit ?_;refine hK4 _ _ ?_;clear hK4 K4
  revert fa
  refine Kn.Z.f fun K9 hK9=>?_;refine Kn.Z.u (.m (.t rfl) (.a (.t rfl) .n)) ?_;refine Kn.Z.e hK9 ?_;clear hK9 K9;intro fa fh;refine wp_ret ?_;exact Kn.ret1 fh rfl rfl ⟨g, by rw [hN], hgw, HH.out.rin, HB.out⟩
end Go.Proofs.YtchdlgdmomcemaaGreatDoor.Blk
end
section
namespace Go.Proofs.YtchdlgdmomcemaaGreatDoor.Kn
open Go
end Go.Proofs.YtchdlgdmomcemaaGreatDoor.Kn
namespace Go.Proofs.YtchdlgdmomcemaaGreatDoor.Mrk
open Go Go.RowKit Go.Lib RowG
def InR (i n : Int) : Prop := 0 ≤ i ∧ i < n ∧ n ≤ 1048576
instance (i n : Int) : Decidable (InR i n) := by unfold InR; infer_instance
def Fine (i n : Nat) (d : ByteArray) (pf : List ByteArray) : Prop := pf.length = stF i n ∧ d.size = 32 ∧ ∀ p ∈ pf, p.size = 32
instance (i n : Nat) (d : ByteArray) (pf : List ByteArray) : Decidable (Fine i n d pf) := by unfold Fine; infer_instance
end Go.Proofs.YtchdlgdmomcemaaGreatDoor.Mrk
end
section
namespace Go.Proofs.YtchdlgdmomcemaaGreatDoor.Kn
open Go
section
variable {P : Program} {n : Nat} {l : List (Nat × Value)} {a : Act} {w : World}
theorem retSS {fn : Func} {R : Ending → World → Prop} {p q : Tmp} {ty tz : TypeId} {g k : Nat} {cs ds : Array Value} {d e : TypeDesc} (h : Kn n l a) (hr : fn.results = #[.cell p ty, .cell q tz]) (hp : find l p = some (.pointer (some ⟨g, 0, none⟩))) (hq : find l q = some (.pointer (some ⟨k, 0, none⟩))) (hs : St.St w g ty cs) (hu : P.underlying ty = some d) (hd : St.rowD d = true) (hi : (P.info? ty).map (·.size) = some cs.size) (hs2 : St.St w k tz ds) (hu2 : P.underlying tz = some e) (hd2 : St.rowD e = true) (hi2 : (P.info? tz).map (·.size) = some ds.size) (H : R (.returned (.tuple #[.agg cs, .agg ds])) w) : bodyPost P fn R .ret a w := by
  have e1 := h.get p _ hp;have e2 := h.get q _ hq;simp only [Act.eval] at e1 e2;have l1 : (loadVar ty ⟨g, 0, none⟩).run P w = .ok (.agg cs) w := hs.load hu hd hi;have l2 : (loadVar tz ⟨k, 0, none⟩).run P w = .ok (.agg ds) w := hs2.load hu2 hd2 hi2;refine bodyPost_ret (v := .tuple #[.agg cs, .agg ds]) ?_ h.defers H;have h1 : a.tmps[p]?.getD undef = .pointer (some ⟨g, 0, none⟩) := by simpa using e1
  have h2 : a.tmps[q]?.getD undef = .pointer (some ⟨k, 0, none⟩) := by simpa using e2
  simp [results, hr, h1, h2, asAddr, l1, l2]
end
end Go.Proofs.YtchdlgdmomcemaaGreatDoor.Kn
namespace Go.Proofs.YtchdlgdmomcemaaGreatDoor.Mrk
open Go Go.RowKit Go.Lib RowG
def blen (x : Nat) : Nat := if x = 0 then 0 else Nat.log2 x + 1
theorem log2_is {x k : Nat} (h1 : 2 ^ k ≤ x) (h2 : x < 2 ^ (k + 1)) : Nat.log2 x = k := by
  have h0 : x ≠ 0 := by have := Nat.two_pow_pos k; omega
  have a1 := (Nat.le_log2 h0 (k := k)).2 h1;have a2 := (Nat.log2_lt h0 (k := k + 1)).2 h2;omega
theorem blen_div {x q k : Nat} (hq : x / 2 ^ k = q) (h : 0 < q) : blen x = k + blen q := by
  have h0 : q ≠ 0 := by omega
  have hx : x ≠ 0 := by intro e; subst e; simp at hq; omega
  rw [blen, blen, if_neg h0, if_neg hx]
  have e : Nat.log2 x = k + Nat.log2 q := by
    have b1 := Nat.log2_self_le h0;have b2 := Nat.lt_log2_self (n := q);subst hq;refine log2_is ?_ ?_
    · rw [Nat.pow_add, Nat.mul_comm];exact Nat.le_trans (Nat.mul_le_mul_right _ b1) (Nat.div_mul_le_self _ _)
    · rw [Nat.add_assoc, Nat.pow_add, Nat.mul_comm];exact (Nat.div_lt_iff_lt_mul (Nat.two_pow_pos k)).1 b2
  omega
def hp (n : Nat) : Nat := 2 ^ Nat.log2 (n - 1)
theorem hp_in {n : Nat} (h : 2 ≤ n) : 1 ≤ hp n ∧ hp n < n ∧ n ≤ 2 * hp n := by
  have h0 : n - 1 ≠ 0 := by omega
  have b1 := Nat.log2_self_le h0;have b2 := Nat.lt_log2_self (n := n - 1);have b3 := Nat.two_pow_pos (Nat.log2 (n - 1));rw [Nat.pow_succ] at b2;unfold hp;omega
theorem blen_8 {k : Nat} (hk : k < 256) : blen k ≤ 8 := by
  unfold blen
  split
  · omega
  · rename_i h;have := (Nat.log2_lt h (k := 8)).2 hk;omega
theorem len8 {t : ByteArray} {k b : Nat} (ht : t.size = 256 ∧ ∀ i, i < 256 → (t.data.getD i 0).toNat = blen i) (hk : k < 256) (hb : blen k = b) (w : World) : (Instr.index 9 (.string t) (.int .u8 (k : Int))).run Tryz.prog w = .ok (.int .u8 (b : Int)) w := by
  have h := ht.2 k hk;have hs := ht.1;have hk2 : k < t.size := by omega
  have hk3 : k < t.data.size := hk2
  have e : t.data.getD k 0 = t[k] := by
    show t.data.getD k 0 = t.data[k];simp only [Array.getD, dif_pos hk3]
    rfl
  rw [e, hb] at h;simp [Instr.index, Sem.run_bind, run_underlying Tryz.underlying9, asIntOf, Result.andThen, hk2, h]
set_option maxRecDepth 100000 in
set_option maxHeartbeats 400000 in
theorem len64_any (x : Nat) (w : World) (hx : x < 16777216) :
    Calls Tryz.prog 116 #[.int .u64 (x : Int)] w fun e w' => e = .returned (.int .i64 (blen x : Int)) ∧ w = w' := by
  refine Kn.Z.cl Tryz.func116 rfl Tryz.ntmps116 rfl (.c 0 rfl .n) ?_;refine Kn.Z.f fun K1 hK1=>?_;refine Kn.Z.u (.a .c .n) ?_;refine Kn.Z.e hK1 ?_;clear hK1 K1;have q0 : ¬ (4294967296 : Int) ≤ (x : Int) := by omega
  refine Kn.Z.q fun K2 hK2=>?_;refine Kn.Z.f fun K3 hK3=>?_;refine Kn.Z.u (.m (.t rfl) .n) ?_;refine Kn.Z.s .o (.bin (.t rfl) .c) fun Ko Kp=>?_;go_simp;(try go_bits);refine Kp _ _ ?_;clear Kp Ko;refine Kn.Z.e hK3 ?_;clear hK3 K3;refine Kn.Z.no (.t rfl) ?_;refine Kn.Z.j hK2 ?_;clear hK2 K2
  by_cases h1 : (65536 : Int) ≤ (x : Int)
  · obtain ⟨y, hy⟩ : ∃ y, x / 65536 = y := ⟨_, rfl⟩;have ry : (x : Int) / 65536 = (y : Int) := by omega
    have y_lt : y < 256 := by omega
    have y_0 : 0 < y := by omega
    have HY : Hid (x / 2 ^ 16 = y) := Lib.hid hy;clear hy;have q2 : ¬ (256 : Int) ≤ (y : Int) := by omega
    refine Kn.Z.q fun K4 hK4=>?_;refine Kn.Z.f fun K5 hK5=>?_;refine Kn.Z.u (.m (.t rfl) .n) ?_;refine Kn.Z.s .o (.bin (.t rfl) .c) fun Ko Kp=>?_;go_simp;(try go_bits);refine Kp _ _ ?_;clear Kp Ko;refine Kn.Z.e hK5 ?_;clear hK5 K5;refine Kn.Z.y (.t rfl) ?_;refine Kn.Z.f fun K6 hK6=>?_;refine Kn.Z.u (.m (.t rfl) .n) ?_;refine Kn.Z.s .o (.bin (.t rfl) .c) fun Ko Kp=>?_;go_simp;(try go_bits);refine Kp _ _ ?_;clear Kp Ko;refine Kn.Z.u (.a (.t rfl) .n) ?_;refine Kn.Z.e hK6 ?_;clear hK6 K6;refine Kn.Z.r ?_;refine Kn.Z.u (.m (.t rfl) .n) ?_;refine Kn.Z.s .o (.bin (.t rfl) .c) fun Ko Kp=>?_;go_simp;(try go_bits);refine Kp _ _ ?_;clear Kp Ko;refine Kn.Z.u (.a (.t rfl) .n) ?_;refine Kn.Z.e hK4 ?_;clear hK4 K4;refine Kn.Z.t (.c 2 rfl (.c 0 rfl .n)) ?_;clear ry;refine Kn.Z.q fun K7 hK7=>?_;refine Kn.Z.f fun K8 hK8=>?_;refine Kn.Z.u (.m (.t rfl) .n) ?_;refine Kn.Z.s .o (.bin (.t rfl) .c) fun Ko Kp=>?_;go_simp;(try go_bits);refine Kp _ _ ?_;clear Kp Ko;refine Kn.Z.e hK8 ?_;clear hK8 K8;refine Kn.Z.no (.t rfl) ?_;refine Kn.Z.j hK7 ?_;clear hK7 K7;obtain ⟨b, hb⟩ : ∃ b, blen y = b := ⟨_, rfl⟩;have hb8 : b ≤ 8 := by have := blen_8 y_lt; omega
    have hbx : blen x = 16 + b := by rw [← hb]; exact blen_div (k := 16) HY.out (by omega)
    obtain ⟨c, hc⟩ : ∃ c, blen x = c := ⟨_, rfl⟩;have rc : (16 : Int) + (b : Int) = (c : Int) := by omega
    have HC := Lib.hid hc;clear hc hbx;refine Kn.Z.f fun K9 hK9=>?_;refine Kn.Z.u (.m (.t rfl) (.m (.t rfl) .n)) ?_;refine Kn.Z.s .o (.convert (.t rfl)) fun Ko Kp=>?_;go_simp;(try go_bits);refine Kp _ _ ?_;clear Kp Ko;refine Kn.Z.k .o (.index .c (.t rfl)) (len8 (by decide +kernel) y_lt hb _) ?_;clear hb;refine Kn.Z.s .o (.convert (.t rfl)) fun Ko Kp=>?_;go_simp;(try go_bits);refine Kp _ _ ?_;clear Kp Ko;refine Kn.Z.s .o (.bin (.t rfl) (.t rfl)) fun Ko Kp=>?_;go_simp;(try go_bits);try rw [rc]
    refine Kp _ _ ?_;clear Kp Ko;refine Kn.Z.u (.a (.t rfl) .n) ?_;refine Kn.Z.e hK9 ?_;clear hK9 K9;refine Kn.Z.t (.c 2 rfl .n) ?_;intro fa fh;refine wp_ret ?_;exact Kn.ret1 fh rfl rfl ⟨by rw [HC.out], rfl⟩
  refine Kn.Z.q fun K4 hK4=>?_;refine Kn.Z.f fun K5 hK5=>?_;refine Kn.Z.u (.m (.t rfl) .n) ?_;refine Kn.Z.s .o (.bin (.t rfl) .c) fun Ko Kp=>?_;go_simp;(try go_bits);refine Kp _ _ ?_;clear Kp Ko;refine Kn.Z.e hK5 ?_;clear hK5 K5;refine Kn.Z.no (.t rfl) ?_;refine Kn.Z.j hK4 ?_;clear hK4 K4
  by_cases h2 : (256 : Int) ≤ (x : Int)
  · obtain ⟨y, hy⟩ : ∃ y, x / 256 = y := ⟨_, rfl⟩;have ry : (x : Int) / 256 = (y : Int) := by omega
    have y_lt : y < 256 := by omega
    have y_0 : 0 < y := by omega
    have HY : Hid (x / 2 ^ 8 = y) := Lib.hid hy;clear hy;have q2 : ¬ (256 : Int) ≤ (y : Int) := by omega
    refine Kn.Z.q fun K6 hK6=>?_;refine Kn.Z.f fun K7 hK7=>?_;refine Kn.Z.u (.m (.t rfl) .n) ?_;refine Kn.Z.s .o (.bin (.t rfl) .c) fun Ko Kp=>?_;go_simp;(try go_bits);refine Kp _ _ ?_;clear Kp Ko;refine Kn.Z.e hK7 ?_;clear hK7 K7;refine Kn.Z.y (.t rfl) ?_;refine Kn.Z.f fun K8 hK8=>?_;refine Kn.Z.u (.m (.t rfl) .n) ?_;refine Kn.Z.s .o (.bin (.t rfl) .c) fun Ko Kp=>?_;go_simp;(try go_bits);refine Kp _ _ ?_;clear Kp Ko;refine Kn.Z.u (.a (.t rfl) .n) ?_;refine Kn.Z.e hK8 ?_;clear hK8 K8;refine Kn.Z.r ?_;refine Kn.Z.u (.m (.t rfl) .n) ?_;refine Kn.Z.s .o (.bin (.t rfl) .c) fun Ko Kp=>?_;go_simp;(try go_bits);refine Kp _ _ ?_;clear Kp Ko;refine Kn.Z.u (.a (.t rfl) .n) ?_;refine Kn.Z.e hK6 ?_;clear hK6 K6;refine Kn.Z.t (.c 2 rfl (.c 0 rfl .n)) ?_;clear ry;obtain ⟨b, hb⟩ : ∃ b, blen y = b := ⟨_, rfl⟩;have hb8 : b ≤ 8 := by have := blen_8 y_lt; omega
    have hbx : blen x = 8 + b := by rw [← hb]; exact blen_div (k := 8) HY.out (by omega)
    obtain ⟨c, hc⟩ : ∃ c, blen x = c := ⟨_, rfl⟩;have rc : (8 : Int) + (b : Int) = (c : Int) := by omega
    have HC := Lib.hid hc;clear hc hbx;refine Kn.Z.f fun K9 hK9=>?_;refine Kn.Z.u (.m (.t rfl) (.m (.t rfl) .n)) ?_;refine Kn.Z.s .o (.convert (.t rfl)) fun Ko Kp=>?_;go_simp;(try go_bits);refine Kp _ _ ?_;clear Kp Ko;refine Kn.Z.k .o (.index .c (.t rfl)) (len8 (by decide +kernel) y_lt hb _) ?_;clear hb;refine Kn.Z.s .o (.convert (.t rfl)) fun Ko Kp=>?_;go_simp;(try go_bits);refine Kp _ _ ?_;clear Kp Ko;refine Kn.Z.s .o (.bin (.t rfl) (.t rfl)) fun Ko Kp=>?_;go_simp;(try go_bits);try rw [rc]
    refine Kp _ _ ?_;clear Kp Ko;refine Kn.Z.u (.a (.t rfl) .n) ?_;refine Kn.Z.e hK9 ?_;clear hK9 K9;intro fa fh;refine wp_ret ?_;exact Kn.ret1 fh rfl rfl ⟨by rw [HC.out], rfl⟩
  have x_lt : x < 256 := by omega
  refine Kn.Z.q fun K6 hK6=>?_;refine Kn.Z.f fun K7 hK7=>?_;refine Kn.Z.u (.m (.t rfl) .n) ?_;refine Kn.Z.s .o (.bin (.t rfl) .c) fun Ko Kp=>?_;go_simp;(try go_bits);refine Kp _ _ ?_;clear Kp Ko;refine Kn.Z.e hK7 ?_;clear hK7 K7;refine Kn.Z.no (.t rfl) ?_;refine Kn.Z.j hK6 ?_;clear hK6 K6;obtain ⟨b, hb⟩ : ∃ b, blen x = b := ⟨_, rfl⟩;have hb8 : b ≤ 8 := by have := blen_8 x_lt; omega
  have hbx : blen x = 0 + b := by rw [← hb]; simp
  obtain ⟨c, hc⟩ : ∃ c, blen x = c := ⟨_, rfl⟩;have rc : (0 : Int) + (b : Int) = (c : Int) := by omega
  have HC := Lib.hid hc;clear hc hbx;refine Kn.Z.f fun K8 hK8=>?_;refine Kn.Z.u (.m (.t rfl) (.m (.t rfl) .n)) ?_;refine Kn.Z.s .o (.convert (.t rfl)) fun Ko Kp=>?_;go_simp;(try go_bits);refine Kp _ _ ?_;clear Kp Ko;refine Kn.Z.k .o (.index .c (.t rfl)) (len8 (by decide +kernel) x_lt hb _) ?_;clear hb;refine Kn.Z.s .o (.convert (.t rfl)) fun Ko Kp=>?_;go_simp;(try go_bits);refine Kp _ _ ?_;clear Kp Ko;refine Kn.Z.s .o (.bin (.t rfl) (.t rfl)) fun Ko Kp=>?_;go_simp;(try go_bits);try rw [rc]
  refine Kp _ _ ?_;clear Kp Ko;refine Kn.Z.u (.a (.t rfl) .n) ?_;refine Kn.Z.e hK8 ?_;clear hK8 K8;refine Kn.Z.t (.c 2 rfl .n) ?_;intro fa fh;refine wp_ret ?_;exact Kn.ret1 fh rfl rfl ⟨by rw [HC.out], rfl⟩
set_option maxRecDepth 100000 in
set_option maxHeartbeats 400000 in
theorem len_any (x : Nat) (w : World) (hx : x < 16777216) :
    Calls Tryz.prog 90 #[.int .u64 (x : Int)] w fun e w' => e = .returned (.int .i64 (blen x : Int)) ∧ w = w' := by
  refine Kn.Z.cl Tryz.func90 rfl Tryz.ntmps90 rfl (.c 0 rfl .n) ?_;refine Kn.Z.f fun K1 hK1=>?_;refine Kn.Z.u (.a .c .n) ?_;refine Kn.Z.e hK1 ?_;clear hK1 K1;refine Kn.Z.q fun K2 hK2=>?_;refine Kn.Z.no .c ?_;refine Kn.Z.j hK2 ?_;clear hK2 K2;refine Kn.Z.f fun K3 hK3=>?_;refine Kn.Z.u (.m (.t rfl) .n) ?_;refine Kn.Z.c .o (.call (.c (.t rfl) .n)) Tryz.call116 (len64_any x w hx) fun e w1 hp=>?_;obtain ⟨rfl, rfl⟩ := hp;refine ⟨_,rfl,?_⟩;refine Kn.Z.u (.a (.t rfl) .n) ?_;refine Kn.Z.e hK3 ?_;clear hK3 K3;intro fa fh;refine wp_ret ?_;exact Kn.ret1 fh rfl rfl ⟨rfl, rfl⟩
theorem shl_one (b : Nat) (hb : b ≤ 24) : wrap64 (2 ^ b) = ((2 ^ b : Nat) : Int) := (show ∀ b, b ≤ 24 → wrap64 (2 ^ b) = ((2 ^ b : Nat) : Int) by decide +kernel) b hb
theorem split_math {n : Nat} (h2 : 2 ≤ n) (hn : n ≤ 1048576) : ∃ m b p : Nat, n - 1 = m ∧ m < 16777216 ∧ blen m = b + 1 ∧ b ≤ 24 ∧ wrap64 (2 ^ b) = (p : Int) ∧ hp n = p ∧ 1 ≤ p ∧ p < n := by
  have h0 : n - 1 ≠ 0 := by omega
  have hlt : n - 1 < 16777216 := by omega
  have hb24 : Nat.log2 (n - 1) ≤ 24 := by
    have e : (16777216 : Nat) = 2 ^ 24 := by decide
    have := (Nat.log2_lt (n := n - 1) h0 (k := 24)).2 (by rw [← e]; exact hlt);omega
  have hpi := hp_in h2;exact ⟨n - 1, Nat.log2 (n - 1), hp n, rfl, hlt, by rw [blen, if_neg h0], hb24, shl_one _ hb24, rfl, hpi.1, hpi.2.1⟩
set_option maxRecDepth 100000 in
set_option maxHeartbeats 400000 in
theorem split_any (f n : Nat) (w : World) (h2 : 2 ≤ n) (hn : n ≤ 1048576) (hf : f ≤ 1048576) :
    Calls Tryz.prog 125 #[.agg #[.int .i64 (f : Int), .int .i64 (n : Int)]] w fun e w' => e = .returned (.tuple #[.agg #[.int .i64 (f : Int), .int .i64 (hp n : Int)], .agg #[.int .i64 ((f + hp n : Nat) : Int), .int .i64 ((n - hp n : Nat) : Int)]]) ∧ Below w.heap.size w w' := by
  refine Kn.Z.cl Tryz.func125 rfl Tryz.ntmps125 rfl (.c 0 rfl .n) ?_;refine Kn.Z.f fun K1 hK1=>?_;refine Kn.Z.s .o (.box (.t rfl)) fun Ko Kp=>?_;go_simp;(try go_bits);refine Kp _ _ ?_;clear Kp Ko;refine Kn.Z.s .o .alloc fun Ko Kp=>?_;go_simp;(try go_bits);refine Kp _ _ ?_;clear Kp Ko;refine Kn.Z.s .o .alloc fun Ko Kp=>?_;go_simp;(try go_bits);refine Kp _ _ ?_;clear Kp Ko;refine Kn.Z.e hK1 ?_;clear hK1 K1;refine Kn.Z.g (fun u => (St.St u w.heap.size 184 #[.int .i64 (f : Int), .int .i64 (n : Int)] ∧ St.St u (w.heap.size + 1) 184 #[.int .i64 0, .int .i64 0] ∧ St.St u (w.heap.size + 1 + 1) 184 #[.int .i64 0, .int .i64 0]) ∧ Below w.heap.size w u) ⟨⟨((St.St.new w _ _).alloc _).alloc _, (by have := (St.St.new (w.alloc (.cells #[.int .i64 (f : Int), .int .i64 (n : Int)] 184)) 184 #[.int .i64 0, .int .i64 0]).alloc (.cells #[.int .i64 0, .int .i64 0] 184); simpa using this), (by have := St.St.new ((w.alloc (.cells #[.int .i64 (f : Int), .int .i64 (n : Int)] 184)).alloc (.cells #[.int .i64 0, .int .i64 0] 184)) 184 #[.int .i64 0, .int .i64 0]; simpa using this)⟩, (((Below.refl _ w).alloc (Nat.le_refl _) _).alloc (by simp) _).alloc (by simp [Nat.add_assoc]) _⟩ fun u hu => ?_;obtain ⟨⟨hs1, hs2, hs3⟩, hb⟩ := hu;obtain ⟨g, hg⟩ : ∃ g, w.heap.size = g := ⟨_, rfl⟩;obtain ⟨g1, hg1⟩ : ∃ k, g + 1 = k := ⟨_, rfl⟩;obtain ⟨g2, hg2⟩ : ∃ k, g1 + 1 = k := ⟨_, rfl⟩;intro fb fg;rw [hg, hg1, hg2] at hs3 fg;rw [hg, hg1] at hs2;rw [hg] at hs1;have c10 := hs1.cell 0 rfl;have c11 := hs1.cell 1 rfl;obtain ⟨m, b, p, hm, hm24, hb1, hb24, hsl, hp1, hp0, hpn⟩ := split_math h2 hn;have rm : (n : Int) - 1 = (m : Int) := by omega
  have hlen := fun v => len_any m v hm24;obtain ⟨b1, hb1e⟩ : ∃ k, b + 1 = k := ⟨_, rfl⟩;rw [hb1, hb1e] at hlen;have rb : (b1 : Int) - 1 = (b : Int) := by omega
  have HSL := Lib.hid hsl;have HP := Lib.hid hp1;clear hsl hp1 hb1;obtain ⟨s, hs⟩ : ∃ s, f + p = s := ⟨_, rfl⟩;obtain ⟨r, hr⟩ : ∃ r, n - p = r := ⟨_, rfl⟩;have rs : (f : Int) + (p : Int) = (s : Int) := by omega
  have rr : (n : Int) - (p : Int) = (r : Int) := by omega
  have HS := Lib.hid hs;have HR := Lib.hid hr;have HS1 := Lib.hid hs1;have HS2 := Lib.hid hs2;have HS3 := Lib.hid hs3;have HB := Lib.hid hb;have hg12 : g1 ≠ g2 := by omega
  have hl2 : w.heap.size ≤ g1 ∧ w.heap.size ≤ g2 ∧ g < g1 ∧ g1 < g2 := by omega
  have HH := Lib.hid hl2;clear hs hr hg1 hg2 hs1 hs2 hs3 hb hg hm hl2 hb1e hm24
  revert fb
  refine Kn.Z.f fun K2 hK2=>?_;refine Kn.Z.s .o (.fieldAddr (.t rfl)) fun Ko Kp=>?_;go_simp;(try go_bits);refine Kp _ _ ?_;clear Kp Ko;refine Kn.Z.s .o (.load (.t rfl)) fun Ko Kp=>?_;go_simp;(try go_bits);refine Kp _ _ ?_;clear Kp Ko;refine Kn.Z.s .o (.bin (.t rfl) .c) fun Ko Kp=>?_;go_simp;(try go_bits);try rw [rm]
  refine Kp _ _ ?_;clear Kp Ko;refine Kn.Z.s .o (.convert (.t rfl)) fun Ko Kp=>?_;go_simp;(try go_bits);refine Kp _ _ ?_;clear Kp Ko;refine Kn.Z.c .o (.call (.c (.t rfl) .n)) Tryz.call90 (hlen _) fun e u1 hp=>?_;obtain ⟨rfl, rfl⟩ := hp;refine ⟨_,rfl,?_⟩;refine Kn.Z.s .o (.bin (.t rfl) .c) fun Ko Kp=>?_;go_simp;(try go_bits);try rw [rb]
  refine Kp _ _ ?_;clear Kp Ko;refine Kn.Z.s .o (.bin .c (.t rfl)) fun Ko Kp=>?_;go_simp;(try go_bits);try rw [HSL.out]
  refine Kp _ _ ?_;clear Kp Ko;refine Kn.Z.u (.a (.t rfl) .n) ?_;refine Kn.Z.e hK2 ?_;clear hK2 K2;refine Kn.Z.t (.c 4 rfl (.c 3 rfl (.c 2 rfl (.c 1 rfl .n)))) ?_;clear hlen HSL rm rb;refine Kn.Z.q fun K3 hK3=>?_;intro fb fg;refine Kn.anyU (fun u => St.St u g 184 #[.int .i64 (f : Int), .int .i64 (n : Int)] ∧ (∃ x, St.St u g1 184 x ∧ x.size = 2) ∧ (∃ x, St.St u g2 184 x ∧ x.size = 2) ∧ Below w.heap.size w u) (fun u u' => (St.St u g1 184 #[.int .i64 (f : Int), .int .i64 (p : Int)] → St.St u' g1 184 #[.int .i64 (f : Int), .int .i64 (p : Int)]) ∧ (St.St u g2 184 #[.int .i64 (s : Int), .int .i64 (r : Int)] → St.St u' g2 184 #[.int .i64 (s : Int), .int .i64 (r : Int)])) (Kn.TL [Kn.Is (.pointer (some ⟨g, 0, none⟩)), Kn.Is (.int .i64 (f : Int)), Kn.Is (.int .i64 (p : Int)), Kn.Is (.agg #[.int .i64 (f : Int), .int .i64 (p : Int)]), Kn.Is (.pointer (some ⟨g, 0, none⟩)), Kn.Is (.int .i64 (f : Int)), Kn.Is (.int .i64 (p : Int)), Kn.Is (.int .i64 (s : Int)), Kn.Is (.pointer (some ⟨g, 1, none⟩)), Kn.Is (.int .i64 (n : Int)), Kn.Is (.int .i64 (p : Int)), Kn.Is (.int .i64 (r : Int)), Kn.Is (.agg #[.int .i64 (s : Int), .int .i64 (r : Int)]), (fun _ u => St.St u g1 184 #[.int .i64 (f : Int), .int .i64 (p : Int)]), (fun _ u => St.St u g2 184 #[.int .i64 (s : Int), .int .i64 (r : Int)])]) (by kernel_rfl) fg (by kernel_rfl) (by kernel_rfl) rfl (Kn.Keeps.all (.cons Kn.Is.keep (.cons Kn.Is.keep (.cons Kn.Is.keep (.cons Kn.Is.keep (.cons Kn.Is.keep (.cons Kn.Is.keep (.cons Kn.Is.keep (.cons Kn.Is.keep (.cons Kn.Is.keep (.cons Kn.Is.keep (.cons Kn.Is.keep (.cons Kn.Is.keep (.cons Kn.Is.keep (.cons (fun _ _ _ hG h => hG.1 h) (.cons (fun _ _ _ hG h => hG.2 h) .nil)))))))))))))))) ⟨HS1.out.drewN 1, ⟨_, HS2.out.drewN 1, rfl⟩, ⟨_, HS3.out.drewN 1, rfl⟩, Own.below_drewN HB.out 1⟩ ⟨?_, ?_, ?_, ?_, ?_, ?_, ?_, ?_, ?_, ?_, ?_, ?_, ?_, ?_, ?_, trivial⟩ ?_
  · refine Kn.ok fun fa u2 L fh hS hH => ?_;refine Kn.aop fh .none (Kn.ex_fieldAddr fh (.t rfl)) fun Ko hKo => ?_;go_simp;(try go_bits);exact hKo _ _ rfl hS (⟨fun h => h, fun h => h⟩)
  · refine Kn.ok fun fa u2 L fh hS hH => ?_;replace fh:=fh.more (hH 0 12 rfl rfl);have qk := hS.1.cell 0 rfl;refine Kn.aop fh .none (Kn.ex_load fh (.t rfl)) fun Ko hKo => ?_;go_simp;(try go_bits);exact hKo _ _ rfl hS (⟨fun h => h, fun h => h⟩)
  · refine Kn.ok fun fa u2 L fh hS hH => ?_;exact Kn.apure fh .none (Kn.ex_move fh (.t rfl)) rfl hS (⟨fun h => h, fun h => h⟩)
  · refine Kn.ok fun fa u2 L fh hS hH => ?_;replace fh:=fh.more (hH 1 13 rfl rfl);replace fh:=fh.more (hH 2 14 rfl rfl);refine Kn.aop fh .none (Kn.ex_build fh (.cons (.t rfl) (.cons (.t rfl) .nil))) fun Ko hKo => ?_;go_simp;(try go_bits);exact hKo _ _ rfl hS (⟨fun h => h, fun h => h⟩)
  · refine Kn.ok fun fa u2 L fh hS hH => ?_;refine Kn.aop fh .none (Kn.ex_fieldAddr fh (.t rfl)) fun Ko hKo => ?_;go_simp;(try go_bits);exact hKo _ _ rfl hS (⟨fun h => h, fun h => h⟩)
  · refine Kn.ok fun fa u2 L fh hS hH => ?_;replace fh:=fh.more (hH 4 16 rfl rfl);have qk := hS.1.cell 0 rfl;refine Kn.aop fh .none (Kn.ex_load fh (.t rfl)) fun Ko hKo => ?_;go_simp;(try go_bits);exact hKo _ _ rfl hS (⟨fun h => h, fun h => h⟩)
  · refine Kn.ok fun fa u2 L fh hS hH => ?_;exact Kn.apure fh .none (Kn.ex_move fh (.t rfl)) rfl hS (⟨fun h => h, fun h => h⟩)
  · refine Kn.ok fun fa u2 L fh hS hH => ?_;replace fh:=fh.more (hH 5 17 rfl rfl);replace fh:=fh.more (hH 6 18 rfl rfl);refine Kn.aop fh .none (Kn.ex_bin fh (.t rfl) (.t rfl)) fun Ko hKo => ?_;go_simp;(try go_bits);try rw [rs]
    exact hKo _ _ rfl hS (⟨fun h => h, fun h => h⟩)
  · refine Kn.ok fun fa u2 L fh hS hH => ?_;refine Kn.aop fh .none (Kn.ex_fieldAddr fh (.t rfl)) fun Ko hKo => ?_;go_simp;(try go_bits);exact hKo _ _ rfl hS (⟨fun h => h, fun h => h⟩)
  · refine Kn.ok fun fa u2 L fh hS hH => ?_;replace fh:=fh.more (hH 8 20 rfl rfl);have qk := hS.1.cell 1 rfl;refine Kn.aop fh .none (Kn.ex_load fh (.t rfl)) fun Ko hKo => ?_;go_simp;(try go_bits);exact hKo _ _ rfl hS (⟨fun h => h, fun h => h⟩)
  · refine Kn.ok fun fa u2 L fh hS hH => ?_;exact Kn.apure fh .none (Kn.ex_move fh (.t rfl)) rfl hS (⟨fun h => h, fun h => h⟩)
  · refine Kn.ok fun fa u2 L fh hS hH => ?_;replace fh:=fh.more (hH 9 21 rfl rfl);replace fh:=fh.more (hH 10 22 rfl rfl);refine Kn.aop fh .none (Kn.ex_bin fh (.t rfl) (.t rfl)) fun Ko hKo => ?_;go_simp;(try go_bits);try rw [rr]
    exact hKo _ _ rfl hS (⟨fun h => h, fun h => h⟩)
  · refine Kn.ok fun fa u2 L fh hS hH => ?_;replace fh:=fh.more (hH 7 19 rfl rfl);replace fh:=fh.more (hH 11 23 rfl rfl);refine Kn.aop fh .none (Kn.ex_build fh (.cons (.t rfl) (.cons (.t rfl) .nil))) fun Ko hKo => ?_;go_simp;(try go_bits);exact hKo _ _ rfl hS (⟨fun h => h, fun h => h⟩)
  · refine Kn.ok fun fa u2 L fh hS hH => ?_;replace fh:=fh.more (hH 3 15 rfl rfl);obtain ⟨k1, ⟨x, k2, hx⟩, ⟨y, k3, hy⟩, k4⟩ := hS;obtain ⟨hst, hS2, hB2⟩ := k2.store (P := Tryz.prog) (cells := #[.int .i64 (f : Int), .int .i64 (p : Int)]) (by kernel_rfl) hx (by simp [Value.oneCell']);have hg0 := HH.out;have hne : g2 ≠ g1 := by omega
    have hne0 : g ≠ g1 := by omega
    refine Kn.aopU fh rfl .none (Kn.ex_store fh (.t rfl) (.t rfl)) fun Ko hKo => ?_;refine Kn.satU_runA hst ?_;exact hKo _ hS2 ⟨k1.setRow hne0 _, ⟨_, hS2, rfl⟩, ⟨y, k3.setRow hne _, hy⟩, k4.trans (hB2 _ (by omega))⟩ ⟨fun _ => hS2, fun h => h.setRow hne _⟩
  · refine Kn.ok fun fa u2 L fh hS hH => ?_;replace fh:=fh.more (hH 12 24 rfl rfl);obtain ⟨k1, ⟨x, k2, hx⟩, ⟨y, k3, hy⟩, k4⟩ := hS;obtain ⟨hst, hS2, hB2⟩ := k3.store (P := Tryz.prog) (cells := #[.int .i64 (s : Int), .int .i64 (r : Int)]) (by kernel_rfl) hy (by simp [Value.oneCell']);have hg0 := HH.out;have hne : g1 ≠ g2 := by omega
    have hne0 : g ≠ g2 := by omega
    refine Kn.aopU fh rfl .none (Kn.ex_store fh (.t rfl) (.t rfl)) fun Ko hKo => ?_;refine Kn.satU_runA hst ?_;exact hKo _ hS2 ⟨k1.setRow hne0 _, ⟨x, k2.setRow hne _, hx⟩, ⟨_, hS2, rfl⟩, k4.trans (hB2 _ (by omega))⟩ ⟨fun h => h.setRow hne _, fun _ => hS2⟩
  intro fa u3 fh hS hT hU;clear fg fb;clear hT;refine hK3 _ _ ?_;clear hK3 K3
  revert fa
  refine Kn.Z.t (.c 3 rfl (.c 2 rfl .n)) ?_;obtain ⟨v5, hS5⟩ := hU 13 _ rfl rfl;obtain ⟨v4, hS4⟩ := hU 14 _ rfl rfl;replace hS5 : St.St u3 g1 184 #[.int .i64 (f : Int), .int .i64 (p : Int)] := hS5;replace hS4 : St.St u3 g2 184 #[.int .i64 (s : Int), .int .i64 (r : Int)] := hS4;have hBB := hS.2.2.2;clear hS hU;intro fa fh;refine wp_ret ?_;exact Kn.retSS fh rfl rfl rfl hS5 Tryz.underlying184 rfl (by kernel_rfl) hS4 Tryz.underlying184 rfl (by kernel_rfl) ⟨by rw [HP.out, HS.out, HR.out], hBB⟩
end Go.Proofs.YtchdlgdmomcemaaGreatDoor.Mrk
end
section
namespace Go.Proofs.YtchdlgdmomcemaaGreatDoor.Mrk
open Go Go.RowKit Go.Lib RowG
theorem hfL_pow (n : Nat) : ∀ (d k j : Nat), n - k ≤ d → k = 2 ^ j → k < n → ∃ i, hfL k n = 2 ^ i := by
  intro d
  induction d with
  | zero => intro k j h hk h1; omega
  | succ d ih =>
    intro k j h hk h1
    by_cases h2 : 2 * k < n
    · have h0 : 0 < k := by rw [hk]; exact Nat.two_pow_pos j
      rw [hfL_step h0 h2];exact ih (2 * k) (j + 1) (by omega) (by rw [hk, Nat.pow_succ, Nat.mul_comm]) h2
    · rw [hfL_end h2];exact ⟨j, hk⟩
theorem hf_hp {n : Nat} (h : 2 ≤ n) : hf n = hp n := by
  obtain ⟨i, hi⟩ := hfL_pow n (n - 1) 1 0 (Nat.le_refl _) rfl (by omega);have e : hf n = 2 ^ i := hi;have hk := hf_in h;rw [e] at hk ⊢;have : Nat.log2 (n - 1) = i := log2_is (by omega) (by rw [Nat.pow_succ]; omega);rw [hp, this]
def besF (f i n : Nat) : List (Nat × Nat) :=
  if h : n < 2 then []
  else
    have hk := hf_in (n := n) (by omega)
    if i < hf n then besF f i (hf n) ++ [(f + hf n, n - hf n)] else besF (f + hf n) (i - hf n) (n - hf n) ++ [(f, hf n)]
termination_by n
def Rt (bl : List ByteArray) (f n : Nat) : ByteArray := (rootP ((bl.drop f).take n)).1
theorem Rt_size (bl : List ByteArray) (f n : Nat) : (Rt bl f n).size = 32 := rootP_size _
theorem take_part {α : Type} (bl : List α) (f n k : Nat) (h : k ≤ n) : ((bl.drop f).take n).take k = (bl.drop f).take k := by rw [List.take_take, Nat.min_eq_left h]
theorem drop_part {α : Type} (bl : List α) (f n k : Nat) : ((bl.drop f).take n).drop k = (bl.drop (f + k)).take (n - k) := by rw [List.drop_take, List.drop_drop]
theorem part_len {α : Type} (bl : List α) (f n : Nat) (h : f + n ≤ bl.length) : ((bl.drop f).take n).length = n := by rw [List.length_take, List.length_drop]; omega
theorem Rt_1 {bl : List ByteArray} {f : Nat} {s : ByteArray} (h : bl[f]? = some s) : Rt bl f 1 = sm (c0 ++ s) := by
  have hlt := (List.getElem?_eq_some_iff.1 h).1
  have e : (bl.drop f).take 1 = [s] := by
    rw [List.drop_eq_getElem_cons hlt];have := (List.getElem?_eq_some_iff.1 h).2;simp [this]
  rw [Rt, e, rootP_1]
theorem Rt_2 {bl : List ByteArray} {f n : Nat} (h : 2 ≤ n) (hl : f + n ≤ bl.length) : Rt bl f n = sm (c1 ++ Rt bl f (hf n) ++ Rt bl (f + hf n) (n - hf n)) := by
  have hk := hf_in h;have e := part_len bl f n hl;rw [Rt, rootP_2 (by rw [e]; exact h), e, take_part _ _ _ _ (by omega), drop_part]
  rfl
theorem Rt_all (bl : List ByteArray) : Rt bl 0 bl.length = (rootP bl).1 := by rw [Rt, List.drop_zero, List.take_length]
def InT (f n a b : Nat) : Prop :=
  (a = f ∧ b = n) ∨ (if h : n < 2 then False else
    have hk := hf_in (n := n) (by omega)
    InT f (hf n) a b ∨ InT (f + hf n) (n - hf n) a b)
termination_by n
theorem InT_self (f n : Nat) : InT f n f n := by rw [InT]; exact .inl ⟨rfl, rfl⟩
theorem InT_1 {f n a b : Nat} (h : n < 2) (h1 : InT f n a b) : a = f ∧ b = n := by
  rw [InT, dif_pos h] at h1;rcases h1 with h1 | h1
  · exact h1
  · exact h1.elim
theorem InT_2 {f n a b : Nat} (h : 2 ≤ n) : InT f n a b ↔ (a = f ∧ b = n) ∨ InT f (hf n) a b ∨ InT (f + hf n) (n - hf n) a b := by rw [InT, dif_neg (by omega)]
end Go.Proofs.YtchdlgdmomcemaaGreatDoor.Mrk
end
section
namespace Go.Proofs.YtchdlgdmomcemaaGreatDoor.Kn
open Go
section
variable {P : Program} {a : Act} {w : World} {Q : Exit → Act → World → Prop}
theorem genL {ops : Array Oper} {K : Exit → Act → World → Prop} {rest : List Oper} (S : World → Prop) (hS : S w) (H : ∀ u, S u → wpList P ops K rest a u) : wpList P ops K rest a w := H w hS
end
end Go.Proofs.YtchdlgdmomcemaaGreatDoor.Kn
namespace Go.Proofs.YtchdlgdmomcemaaGreatDoor.Mrk
open Go Go.RowKit Go.Lib RowG
theorem loadS {P : Program} {w : World} {g : Nat} {T : TypeId} {cs : Array Value} {d : TypeDesc} (h : St.St w g T cs) (hu : P.underlying T = some d) (hd : St.rowD d = true) (hi : (P.info? T).map (·.size) = some cs.size) : (Instr.loadAt T (.pointer (some ⟨g, 0, none⟩))).run P w = .ok (.agg cs) w := h.load hu hd hi
def Off (A : Option Addr) (g : Nat) : Prop := ∀ a : Addr, A = some a → a.block ≠ g
end Go.Proofs.YtchdlgdmomcemaaGreatDoor.Mrk
end
section
namespace Go.Proofs.YtchdlgdmomcemaaGreatDoor.Mrk
open Go Go.RowKit Go.Lib RowG
theorem txc {w : World} {A : Option Addr} {ts : List ByteArray} (h : RIn txR w A ts) {k : Nat} {s : ByteArray} (hk : ts[k]? = some s) : ∃ b o, A = some ⟨b, o, none⟩ ∧ b < w.heap.size ∧ w.cell? ⟨b, o + k, none⟩ = some (.string s) := by
  obtain ⟨b, o, h1, h2, h3⟩ := h k s hk;have h4 := h3 0 (.string s) rfl;have e : o + (k * txR.size + 0) = o + k := by show o + (k * 1 + 0) = _; omega
  rw [e] at h4;exact ⟨b, o, h1, h2, h4⟩
end Go.Proofs.YtchdlgdmomcemaaGreatDoor.Mrk
end
section
namespace Go.Proofs.YtchdlgdmomcemaaGreatDoor.Mrk
open Go Go.RowKit Go.Lib RowG
theorem sum_new (ts : List ByteArray) (w : World) (hT : Sha.Tabs w) (hn : (ts.length : Int) ≤ 9223372036854775807) (hl : ((Sha.cat (fun k => ts.getD k ByteArray.empty) ts.length).length : Int) ≤ 35184372088832) :
    Calls Tryz.prog 102 #[.slice (some ⟨w.heap.size, 0, none⟩) ts.length ts.length] (w.alloc (.cells (ts.map Value.string).toArray 9)) fun e w' => e = .returned (.string (Sha.digB (Sha.cat (fun k => ts.getD k ByteArray.empty) ts.length))) ∧ Below w.heap.size w w' := by
  have hb0 := (Below.refl w.heap.size w).alloc (Nat.le_refl _) (.cells (ts.map Value.string).toArray 9);refine (Sha.sum_any (some ⟨w.heap.size, 0, none⟩) ts.length ts.length (fun k => ts.getD k ByteArray.empty) _ (hT.below hb0 hT.size) (fun k hk => ⟨_, _, rfl, (St.St.new w _ _).lt, by simp, ?_⟩) hn hl).mono fun e w' h => ⟨h.1, hb0.trans (h.2.mono hb0.size)⟩;rw [Nat.zero_add];exact (St.St.new w 9 (ts.map Value.string).toArray).cell k (by simp [hk])
theorem data_len (a : ByteArray) : a.data.toList.length = a.size := by rw [Array.length_toList]; rfl
theorem cat2 (a b : ByteArray) : Sha.cat (fun k => [a, b].getD k ByteArray.empty) 2 = (a ++ b).data.toList := by
  simp [Sha.cat, ByteArray.data_append]
theorem cat3 (a b c : ByteArray) : Sha.cat (fun k => [a, b, c].getD k ByteArray.empty) 3 = (a ++ b ++ c).data.toList := by
  simp [Sha.cat, ByteArray.data_append]
theorem cat1 (a : ByteArray) : Sha.cat (fun k => [a].getD k ByteArray.empty) 1 = a.data.toList := by
  simp [Sha.cat]
theorem sum1 (a : ByteArray) (w : World) (hT : Sha.Tabs w) (hs : a.size ≤ 100000) :
    Calls Tryz.prog 102 #[.slice (some ⟨w.heap.size, 0, none⟩) 1 1] (w.alloc (.cells #[.string a] 9)) fun e w' => e = .returned (.string (sm a)) ∧ Below w.heap.size w w' := by
  have h := sum_new [a] w hT (by simp) (by rw [show [a].length = 1 from rfl, cat1, data_len]; omega);rw [show [a].length = 1 from rfl, cat1] at h;exact h
theorem sum2 (a b : ByteArray) (w : World) (hT : Sha.Tabs w) (hs : (a ++ b).size ≤ 100000) :
    Calls Tryz.prog 102 #[.slice (some ⟨w.heap.size, 0, none⟩) 2 2] (w.alloc (.cells #[.string a, .string b] 9)) fun e w' => e = .returned (.string (sm (a ++ b))) ∧ Below w.heap.size w w' := by
  have h := sum_new [a, b] w hT (by simp) (by rw [show [a, b].length = 2 from rfl, cat2, data_len]; omega);rw [show [a, b].length = 2 from rfl, cat2] at h;exact h
theorem sum3 (a b c : ByteArray) (w : World) (hT : Sha.Tabs w) (hs : (a ++ b ++ c).size ≤ 100000) :
    Calls Tryz.prog 102 #[.slice (some ⟨w.heap.size, 0, none⟩) 3 3] (w.alloc (.cells #[.string a, .string b, .string c] 9)) fun e w' => e = .returned (.string (sm (a ++ b ++ c))) ∧ Below w.heap.size w w' := by
  have h := sum_new [a, b, c] w hT (by simp) (by rw [show [a, b, c].length = 3 from rfl, cat3, data_len]; omega);rw [show [a, b, c].length = 3 from rfl, cat3] at h;exact h
set_option maxRecDepth 100000 in
set_option maxHeartbeats 600000 in
theorem leaf_any (s : ByteArray) (w : World) (hs : s.size ≤ 90000) (hT : Sha.Tabs w) :
    Calls Tryz.prog 124 #[.string s] w fun e w' => e = .returned (.string (sm (c0 ++ s))) ∧ Below w.heap.size w w' := by
  refine Kn.Z.cl Tryz.func124 rfl Tryz.ntmps124 rfl (.c 0 rfl .n) ?_;refine Kn.Z.f fun K1 hK1=>?_;refine Kn.Z.u (.a .c .n) ?_;refine Kn.Z.e hK1 ?_;clear hK1 K1;have hs2 := Lib.hid (sum2 c0 s w hT (by rw [ByteArray.size_append]; show 1 + s.size ≤ 100000; omega));refine Kn.Z.f fun K2 hK2=>?_;refine Kn.Z.u (.m (.t rfl) .n) ?_;refine Kn.Z.s .o (.buildSlice (.c .c (.c (.t rfl) .n))) fun Ko Kp=>?_;go_simp;(try go_bits);refine Kp _ _ ?_;clear Kp Ko;refine Kn.Z.c .o (.call (.c (.t rfl) .n)) Tryz.call102 (hs2.out) fun e w1 hp=>?_;obtain ⟨rfl, hb⟩ := hp;refine ⟨_,rfl,?_⟩;refine Kn.Z.u (.a (.t rfl) .n) ?_;refine Kn.Z.e hK2 ?_;clear hK2 K2;intro fb fg;refine wp_ret ?_;exact Kn.ret1 fg rfl rfl ⟨rfl, hb⟩
set_option maxRecDepth 100000 in
set_option maxHeartbeats 600000 in
theorem node_any (a b : ByteArray) (w : World) (ha : a.size ≤ 40000) (hb' : b.size ≤ 40000) (hT : Sha.Tabs w) :
    Calls Tryz.prog 126 #[.string a, .string b] w fun e w' => e = .returned (.string (sm (c1 ++ a ++ b))) ∧ Below w.heap.size w w' := by
  refine Kn.Z.cl Tryz.func126 rfl Tryz.ntmps126 rfl (.c 0 rfl (.c 1 rfl .n)) ?_;refine Kn.Z.f fun K1 hK1=>?_;refine Kn.Z.u (.a .c .n) ?_;refine Kn.Z.e hK1 ?_;clear hK1 K1;have hs3 := Lib.hid (sum3 c1 a b w hT (by rw [ByteArray.size_append, ByteArray.size_append]; show 1 + a.size + b.size ≤ 100000; omega));refine Kn.Z.f fun K2 hK2=>?_;refine Kn.Z.u (.m (.t rfl) (.m (.t rfl) .n)) ?_;refine Kn.Z.s .o (.buildSlice (.c .c (.c (.t rfl) (.c (.t rfl) .n)))) fun Ko Kp=>?_;go_simp;(try go_bits);refine Kp _ _ ?_;clear Kp Ko;refine Kn.Z.c .o (.call (.c (.t rfl) .n)) Tryz.call102 (hs3.out) fun e w1 hp=>?_;obtain ⟨rfl, hb⟩ := hp;refine ⟨_,rfl,?_⟩;refine Kn.Z.u (.a (.t rfl) .n) ?_;refine Kn.Z.e hK2 ?_;clear hK2 K2;intro fa fh;refine wp_ret ?_;exact Kn.ret1 fh rfl rfl ⟨rfl, hb⟩
end Go.Proofs.YtchdlgdmomcemaaGreatDoor.Mrk
end
section
namespace Go.Proofs.YtchdlgdmomcemaaGreatDoor.Kn
open Go
section
variable {n : Nat} {l : List (Nat × Value)} {a : Act} {d : Option Tmp} {t : TypeId} {p : String} {af : Array Edge} {g : Option (Nat × Bool)} {x y z : Operand} {vx vy vz : Value}
theorem ex_makeMapN {e : TypeId} (h : Kn n l a) (hx : Val l x vx) : execOp a.eval ⟨d, .makeMap e (some x), t, p, af, g⟩ = vl (Instr.makeMap e (some vx)) := by simp only [execOp, Option.map, h.val hx]
theorem ex_mapPut {e : TypeId} (h : Kn n l a) (hx : Val l x vx) (hy : Val l y vy) (hz : Val l z vz) : execOp a.eval ⟨d, .mapUpdate e x y z, t, p, af, g⟩ = ul (Instr.mapUpdate e vx vy vz) := by simp only [execOp, h.val hx, h.val hy, h.val hz]
end
end Go.Proofs.YtchdlgdmomcemaaGreatDoor.Kn
namespace Go.Proofs.YtchdlgdmomcemaaGreatDoor.Mrk
open Go Go.RowKit Go.Lib Go.Maps
theorem laidOutS : laidOutB Tryz.prog = true := by kernel_rfl
theorem rowS : (184 : TypeId) < Tryz.prog.types.size := of_decide_eq_true (by kernel_rfl)
theorem deepS : Tryz.prog.keyTypeAt 2 184 = true := by kernel_rfl
set_option maxRecDepth 100000 in
theorem lawS : WideMaps.KeyLaw Tryz.prog 184 := deep_law_laid laidOutS (m := 2) (by omega) rowS deepS (by rw [Tryz.underlying184])
theorem kSpan : Keyed Tryz.prog 184 := Keyed.of_law lawS
def keyV (a b : Nat) : Value := .agg #[.int .i64 (a : Int), .int .i64 (b : Int)]
def digV (s : ByteArray) : Value := .agg #[.string s]
theorem keyV_inj {a b c d : Nat} (h : keyV a b = keyV c d) : a = c ∧ b = d := by
  unfold keyV at h;simp only [Value.agg.injEq, Array.mk.injEq, List.cons.injEq, Value.int.injEq] at h;omega
theorem keyS {a b : Nat} (ha : a ≤ 1000000) (hb : b ≤ 1000000) : ∃ l, keyOf Tryz.prog 184 (keyV a b) = some l := by
  have h1 : Tryz.prog.keyType 184 = true := by kernel_rfl
  have hc : Tryz.prog.cellsOf 184 = 2 := by kernel_rfl
  have hi : Tryz.prog.cellsOf 3 = 1 := by kernel_rfl
  have h2 : (keyV a b).formed Tryz.prog 184 = true := by simp [keyV, Value.formed, Tryz.underlying184, hc]
  obtain ⟨m, hm⟩ : ∃ m, Tryz.prog.types.size = m + 1 := ⟨Tryz.prog.types.size - 1, by kernel_rfl⟩;have w1 : (Lit.int .i64 (a : Int)).wf = true := WalkArith.wf_i64 (by omega);have w2 : (Lit.int .i64 (b : Int)).wf = true := WalkArith.wf_i64 (by omega)
  have h3 : Tryz.prog.keyLits (Tryz.prog.types.size + 1) 184 [.int .i64 (a : Int), .int .i64 (b : Int)] = some [.int .i64 (a : Int), .int .i64 (b : Int)] := by
    rw [hm];simp [Program.keyLits, Tryz.underlying184, Tryz.underlying3, hc, hi, w1, w2]
  refine ⟨.string (keyBytes [.int .i64 (a : Int), .int .i64 (b : Int)]), ?_⟩;unfold keyOf;rw [Tryz.underlying184];simp only [h1, h2, Bool.and_self, if_true];rw [show (keyV a b).cells.toList = [.int .i64 (a : Int), .int .i64 (b : Int)] by simp [keyV, Value.cells], h3]
  rfl
def MapAt (w : World) (g : Nat) (R : Nat → Nat → ByteArray) (p : Nat → Nat → Prop) : Prop := ∃ es clock, w.heap[g]? = some (.map es clock) ∧ (∀ e ∈ es.toList, ∃ a b : Nat, e.key = keyV a b ∧ a ≤ 1000000 ∧ b ≤ 1000000 ∧ e.val = digV (R a b)) ∧ ∀ a b, p a b → ∃ e ∈ es.toList, e.key = keyV a b
variable {w w' : World} {g : Nat} {R : Nat → Nat → ByteArray} {p q : Nat → Nat → Prop}
theorem MapAt.lt (h : MapAt w g R p) : g < w.heap.size := by
  obtain ⟨es, c, h1, _⟩ := h;exact (Array.getElem?_eq_some_iff.1 h1).1
theorem MapAt.at (h : MapAt w g R p) (e : w'.heap[g]? = w.heap[g]?) : MapAt w' g R p := by
  obtain ⟨es, c, h1, h2⟩ := h;exact ⟨es, c, e.trans h1, h2⟩
theorem MapAt.on (h : MapAt w g R p) (hb : Below w.heap.size w w') : MapAt w' g R p := h.at (hb.block g h.lt)
theorem MapAt.mono (h : MapAt w g R p) (hq : ∀ a b, q a b → p a b) : MapAt w g R q := by
  obtain ⟨es, c, h1, h2, h3⟩ := h;exact ⟨es, c, h1, h2, fun a b hab => h3 a b (hq a b hab)⟩
theorem MapAt.new (w : World) : MapAt (w.alloc (.map #[] 0)) w.heap.size R (fun _ _ => False) := ⟨#[], 0, heap_alloc_new w _, fun e he => by simp at he, fun a b h => h.elim⟩
theorem MapAt.has (h : MapAt w g R p) {a b : Nat} (hp : p a b) (ha : a ≤ 1000000) (hb : b ≤ 1000000) : (Instr.lookup 179 (.map (some g)) (keyV a b) false).run Tryz.prog w = .ok (digV (R a b)) w := by
  obtain ⟨es, c, hg, h1, h2⟩ := h;obtain ⟨l, hl⟩ := keyS ha hb;rcases kSpan.find w hl es.toList (fun e he => by obtain ⟨x, y, e1, e2, e3, _⟩ := h1 e he; rw [e1]; exact keyS e2 e3) with ⟨hf, hn⟩ | ⟨j, e0, hf, hj, hk⟩
  · obtain ⟨e, he, hk⟩ := h2 a b hp;exact absurd hk (hn e he)
  · obtain ⟨x, y, e1, _, _, e4⟩ := h1 e0 (List.mem_of_getElem? hj);obtain ⟨rfl, rfl⟩ := keyV_inj (e1.symm.trans hk);simp [Instr.lookup, run_underlying Tryz.underlying179, MapKept.run_getObj_map hg, kSpan.check w _ hl, hf, e4, Result.andThen]
theorem MapAt.put (h : MapAt w g R p) {a b : Nat} (ha : a ≤ 1000000) (hb : b ≤ 1000000) :
    ∃ w', (Instr.mapUpdate 179 (.map (some g)) (keyV a b) (digV (R a b))).run Tryz.prog w = .ok () w' ∧ MapAt w' g R (fun x y => (x = a ∧ y = b) ∨ p x y) ∧ (∀ k, k ≠ g → w'.heap[k]? = w.heap[k]?) ∧ w'.heap.size = w.heap.size ∧ ∀ B, B ≤ g → Below B w w' := by
  have hlt := h.lt;obtain ⟨es, c, hg, h1, h2⟩ := h;obtain ⟨l, hl⟩ := keyS ha hb
  have key : ∀ es' c', (Instr.mapUpdate 179 (.map (some g)) (keyV a b) (digV (R a b))).run Tryz.prog w = .ok () { w with heap := w.heap.setIfInBounds g (.map es' c') } →
      (∀ e ∈ es'.toList, ∃ a b : Nat, e.key = keyV a b ∧ a ≤ 1000000 ∧ b ≤ 1000000 ∧ e.val = digV (R a b)) → (∀ x y, ((x = a ∧ y = b) ∨ p x y) → ∃ e ∈ es'.toList, e.key = keyV x y) →
      ∃ w', (Instr.mapUpdate 179 (.map (some g)) (keyV a b) (digV (R a b))).run Tryz.prog w = .ok () w' ∧ MapAt w' g R (fun x y => (x = a ∧ y = b) ∨ p x y) ∧ (∀ k, k ≠ g → w'.heap[k]? = w.heap[k]?) ∧ w'.heap.size = w.heap.size ∧ ∀ B, B ≤ g → Below B w w' := fun es' c' hr k1 k2 => by
    refine ⟨_, hr, ⟨es', c', by simp [hlt], k1, k2⟩, fun b hne => by simp [Array.getElem?_setIfInBounds_ne (Ne.symm hne)], by simp, fun B hB => ⟨rfl, rfl, rfl, by simp, fun b hbB => ?_⟩⟩;simp only;rw [Array.getElem?_setIfInBounds_ne (by omega)]
  rcases kSpan.find w hl es.toList (fun e he => by obtain ⟨x, y, e1, e2, e3, _⟩ := h1 e he; rw [e1]; exact keyS e2 e3) with ⟨hf, hn⟩ | ⟨j, e0, hf, hj, hk⟩
  · refine key (es.push ⟨keyV a b, digV (R a b), c⟩) (c + 1) ?_ (fun e he => ?_) (fun x y hxy => ?_)
    · simp [Instr.mapUpdate, run_underlying Tryz.underlying179, MapKept.run_getObj_map hg, kSpan.check w false hl, hf, MapKept.run_setObj_map _ hg, Result.andThen]
    · simp only [Array.toList_push, List.mem_append, List.mem_singleton] at he;rcases he with he | rfl
      · exact h1 e he
      · exact ⟨a, b, rfl, ha, hb, rfl⟩
    · rcases hxy with ⟨rfl, rfl⟩ | hxy
      · exact ⟨⟨keyV x y, digV (R x y), c⟩, by simp, rfl⟩
      · obtain ⟨e, he, hk⟩ := h2 x y hxy;exact ⟨e, by simp [List.mem_append]; exact .inl (by simpa using he), hk⟩
  · obtain ⟨x0, y0, e1, e2, e3, e4⟩ := h1 e0 (List.mem_of_getElem? hj);obtain ⟨rfl, rfl⟩ := keyV_inj (e1.symm.trans hk);have hj2 : es[j]? = some e0 := by simpa using hj
    have hmod : es.modify j (fun e' => { e' with key := keyV x0 y0, val := digV (R x0 y0) }) = es := by
      apply Array.ext'
      rw [Array.toList_modify]
      apply List.ext_getElem?
      intro i;rw [List.getElem?_modify]
      by_cases hij : j = i
      · subst hij;simp only [if_true];rw [hj];obtain ⟨k0, v0, n0⟩ := e0;simp only at e1 e4;subst e1 e4
        rfl
      · simp [hij]
    refine key es c ?_ h1 (fun x y hxy => ?_)
    · have hst := kSpan.stays w hl;simp [Instr.mapUpdate, run_underlying Tryz.underlying179, MapKept.run_getObj_map hg, kSpan.check w false hl, hf, hj2, hk, hst, MapKept.run_setObj_map _ hg, Result.andThen, hmod]
    · rcases hxy with ⟨rfl, rfl⟩ | hxy
      · exact ⟨e0, List.mem_of_getElem? hj, e1⟩
      · exact h2 x y hxy
end Go.Proofs.YtchdlgdmomcemaaGreatDoor.Mrk
end
section
namespace Go.Proofs.YtchdlgdmomcemaaGreatDoor.Mrk
open Go Go.RowKit Go.Lib RowG
theorem MapAt.or {w : World} {g : Nat} {R : Nat → Nat → ByteArray} {p q : Nat → Nat → Prop} (h : MapAt w g R p) (k : MapAt w g R q) : MapAt w g R (fun a b => p a b ∨ q a b) := by
  obtain ⟨es, c, h1, h2, h3⟩ := h;obtain ⟨es', c', k1, k2, k3⟩ := k;have e := h1.symm.trans k1;simp only [Option.some.injEq, Obj.map.injEq] at e;obtain ⟨rfl, -⟩ := e;exact ⟨es, c, h1, h2, fun a b hab => hab.elim (h3 a b) (k3 a b)⟩
theorem MapAt.same {w w' : World} {g : Nat} {R : Nat → Nat → ByteArray} {q : Nat → Nat → Prop} {a b : Nat} (h : MapAt w g R q) (ha : a ≤ 1000000) (hb : b ≤ 1000000) (hr : (Instr.mapUpdate 179 (.map (some g)) (keyV a b) (digV (R a b))).run Tryz.prog w = .ok () w') : MapAt w' g R q := by
  obtain ⟨w2, hr2, hm, _⟩ := h.put ha hb;rw [hr] at hr2;injection hr2 with _ e
  subst e;exact hm.mono fun x y h => .inr h
structure LayIn (bl : List ByteArray) (A : Option Addr) (gt gm N : Nat) (u : World) : Prop where
  tabs : Sha.Tabs u
  tree : St.St u gt 181 #[.map (some gm), .int .i64 (N : Int)]
  row : RIn txR u A bl
  off : Off A gm
  ne : gt ≠ gm
  hg : 4 ≤ gm
  lt : gm < u.heap.size
theorem LayIn.only {bl : List ByteArray} {A : Option Addr} {gt gm N : Nat} {u u' : World} (h : LayIn bl A gt gm N u) (ho : Sha.Only gm u u') : LayIn bl A gt gm N u' :=
  ⟨h.tabs.only ho h.hg, (ho.block gt h.tree.lt h.ne).trans h.tree, fun i a hi => by
    obtain ⟨b, o, e, hlt, h1⟩ := h.row i a hi
    exact ⟨b, o, e, Nat.lt_of_lt_of_le hlt ho.size, fun j u hu => (ho.cell (p := ⟨b, o + (i * txR.size + j), none⟩) hlt (h.off ⟨b, o, none⟩ e)).trans (h1 j u hu)⟩, h.off, h.ne, h.hg, Nat.lt_of_lt_of_le h.lt ho.size⟩
theorem LayIn.on {bl : List ByteArray} {A : Option Addr} {gt gm N : Nat} {u u' : World} (h : LayIn bl A gt gm N u) (hb : Below u.heap.size u u') : LayIn bl A gt gm N u' := h.only (Sha.Only.of_below hb)
theorem LayIn.drew {bl : List ByteArray} {A : Option Addr} {gt gm N : Nat} {u : World} (h : LayIn bl A gt gm N u) : LayIn bl A gt gm N u.drew := h.only ⟨rfl, rfl, rfl, Nat.le_refl _, fun _ _ _ => rfl⟩
theorem St.only {w w' : World} {g b : Nat} {t : TypeId} {cs : Array Value} (h : St.St w g t cs) (ho : Sha.Only b w w') (hne : g ≠ b) : St.St w' g t cs := (ho.block g h.lt hne).trans h
def Subs (f n a b : Nat) : Prop := 2 ≤ n ∧ (InT f (hf n) a b ∨ InT (f + hf n) (n - hf n) a b)
theorem InT_subs {f n a b : Nat} (h : InT f n a b) : (a = f ∧ b = n) ∨ Subs f n a b := by
  rcases Nat.lt_or_ge n 2 with h2 | h2
  · exact .inl (InT_1 h2 h)
  · rcases (InT_2 h2).1 h with h | h
    · exact .inl h
    · exact .inr ⟨h2, h⟩
set_option maxRecDepth 100000 in
set_option maxHeartbeats 600000 in
theorem all_any (gt gm N : Nat) (w : World) (hS : St.St w gt 181 #[.map (some gm), .int .i64 (N : Int)]) :
    Calls Tryz.prog 101 #[.pointer (some ⟨gt, 0, none⟩)] w fun e w' => e = .returned (keyV 0 N) ∧ Below w.heap.size w w' := by
  refine Kn.calls Tryz.func101 rfl Tryz.ntmps101 rfl (.cons (t := 0) rfl .nil) fun fa0 fh0 => ?_;refine wp_seq_k fun K1 hK1 => ?_;refine wp_region_lit ?_;refine Kn.step fh0 rfl rfl .none Kn.ex_alloc fun Ko hKo => ?_;go_simp;(try go_bits);refine hKo _ _ fun fa1 fh1 => ?_;clear hKo Ko fh0 fa0;refine wpList_nil ?_;refine hK1 _ _ ?_;clear hK1 K1;refine Kn.gen (fun u => St.St u w.heap.size 184 #[.int .i64 0, .int .i64 0] ∧ Below w.heap.size w u) ⟨St.St.new _ _ _, (Below.refl _ w).alloc (Nat.le_refl _) _⟩ fun u hu => ?_;obtain ⟨g, hg⟩ : ∃ g, w.heap.size = g := ⟨_, rfl⟩;obtain ⟨hS0, hb0⟩ := hu;have hSt := hS.on hb0;have c1 := hSt.cell 1 rfl;have HB := Lib.hid (And.intro hb0 (Nat.le_of_eq hg));rw [hg] at hS0 fh1;obtain ⟨hst, hSn, hBn⟩ := hS0.store (P := Tryz.prog) (cells := #[.int .i64 ((0 : Nat) : Int), .int .i64 ((N : Nat) : Int)]) (by kernel_rfl) rfl (by simp [Value.oneCell']);clear hb0 hg hSt hS hS0;refine wp_seq_k fun K2 hK2 => ?_;refine wp_region_lit ?_;refine Kn.pure fh1 rfl rfl .none (Kn.ex_move fh1 (.tmp rfl)) fun fa2 fh2 => ?_;clear fh1 fa1;refine Kn.pure fh2 rfl rfl .none (Kn.ex_nilCheck fh2 (.tmp rfl)) fun fa3 fh3 => ?_;clear fh2 fa2;refine Kn.step fh3 rfl rfl .none (Kn.ex_fieldAddr fh3 (.tmp rfl)) fun Ko hKo => ?_;go_simp;(try go_bits);refine hKo _ _ fun fa4 fh4 => ?_;clear hKo Ko fh3 fa3;refine Kn.step fh4 rfl rfl .none (Kn.ex_load fh4 (.tmp rfl)) fun Ko hKo => ?_;go_simp;(try go_bits);refine hKo _ _ fun fa5 fh5 => ?_;clear hKo Ko fh4 fa4;refine Kn.step fh5 rfl rfl .none (Kn.ex_build fh5 (.cons .const (.cons (.tmp rfl) .nil))) fun Ko hKo => ?_;go_simp;(try go_bits);refine hKo _ _ fun fa6 fh6 => ?_;clear hKo Ko fh5 fa5;refine Kn.stepU fh6 rfl .none (Kn.ex_store fh6 (.tmp rfl) (.tmp rfl)) fun Ko hKo => ?_;refine Kn.satU_runA hst ?_;refine hKo _ ?_;clear hKo Ko;refine wpList_nil ?_;refine hK2 _ _ ?_;clear hK2 K2;replace fh6 := fh6.cut (.cons (t := 2) rfl .nil);refine wp_ret ?_;exact Kn.retS fh6 rfl rfl hSn Tryz.underlying184 rfl (by kernel_rfl) ⟨rfl, HB.out.1.trans (hBn _ HB.out.2)⟩
set_option maxRecDepth 100000 in
set_option maxHeartbeats 600000 in
theorem part_any (gt gm N a b : Nat) (R : Nat → Nat → ByteArray) (p : Nat → Nat → Prop) (w : World) (hS : St.St w gt 181 #[.map (some gm), .int .i64 (N : Int)]) (hM : MapAt w gm R p) (hp : p a b) (ha : a ≤ 1000000) (hb : b ≤ 1000000) (hR : (R a b).size ≤ 32) :
    Calls Tryz.prog 103 #[.pointer (some ⟨gt, 0, none⟩), .agg #[.int .i64 ((a : Nat) : Int), .int .i64 ((b : Nat) : Int)]] w fun e w' => e = .returned (.string (R a b)) ∧ Below w.heap.size w w' := by
  refine Kn.calls Tryz.func103 rfl Tryz.ntmps103 rfl (.cons (t := 0) rfl (.cons (t := 1) rfl .nil)) fun fa0 fh0 => ?_;refine wp_seq_k fun K1 hK1 => ?_;refine wp_region_lit ?_;refine Kn.step fh0 rfl rfl .none (Kn.ex_box fh0 (.tmp rfl)) fun Ko hKo => ?_;go_simp;(try go_bits);refine hKo _ _ fun fa1 fh1 => ?_;clear hKo Ko fh0 fa0;refine Kn.pure fh1 rfl rfl .none (Kn.ex_assign fh1 .const) fun fa2 fh2 => ?_;clear fh1 fa1;refine wpList_nil ?_;refine hK1 _ _ ?_;clear hK1 K1;replace fh2 := fh2.cut (.cons (t := 4) rfl (.cons (t := 3) rfl (.cons (t := 0) rfl .nil)));refine Kn.gen (fun u => St.St u w.heap.size 184 #[.int .i64 ((a : Nat) : Int), .int .i64 ((b : Nat) : Int)] ∧ Below w.heap.size w u) ⟨St.St.new _ _ _, (Below.refl _ w).alloc (Nat.le_refl _) _⟩ fun u hu => ?_;obtain ⟨g, hg⟩ : ∃ g, w.heap.size = g := ⟨_, rfl⟩;obtain ⟨hS0, hb0⟩ := hu;have c0 := (hS.on hb0).drew.cell 0 rfl;have hhas : (Instr.lookup 179 (.map (some gm)) (.agg #[.int .i64 ((a : Nat) : Int), .int .i64 ((b : Nat) : Int)]) false).run Tryz.prog u.drew = .ok (.agg #[.string (R a b)]) u.drew := ((hM.on hb0).at (w' := u.drew) rfl).has hp ha hb;have hcl := Lib.hid (fun v => Blk.clone_any (R a b) v (by omega));have HB := Lib.hid hb0;rw [hg] at hS0 fh2;have hld := loadS hS0.drew Tryz.underlying184 rfl (by kernel_rfl);clear hb0 hg hS0;refine wp_seq_k fun K2 hK2 => ?_;refine Kn.tail 7 (by kernel_rfl) (by kernel_rfl) rfl rfl ?_;refine Kn.spure fh2 rfl rfl .none (Kn.ex_move fh2 (.tmp rfl)) fun fa3 fh3 => ?_;clear fh2 fa2;refine Kn.spure fh3 rfl rfl .none (Kn.ex_nilCheck fh3 (.tmp rfl)) fun fa4 fh4 => ?_;clear fh3 fa3;refine Kn.sstep fh4 rfl rfl .none (Kn.ex_fieldAddr fh4 (.tmp rfl)) fun Ko hKo => ?_;go_simp;(try go_bits);refine hKo _ fun fa5 fh5 => ?_;clear hKo Ko fh4 fa4;refine Kn.sstep fh5 rfl rfl .none (Kn.ex_load fh5 (.tmp rfl)) fun Ko hKo => ?_;go_simp;(try go_bits);refine hKo _ fun fa6 fh6 => ?_;clear hKo Ko fh5 fa5;refine Kn.sstep fh6 rfl rfl .none (Kn.ex_load fh6 (.tmp rfl)) fun Ko hKo => ?_;rw [hld];refine hKo _ fun fa7 fh7 => ?_;clear hKo Ko fh6 fa6;refine Kn.sstep fh7 rfl rfl .none (Kn.ex_lookup fh7 (.tmp rfl) (.tmp rfl)) fun Ko hKo => ?_;rw [hhas];refine hKo _ fun fa8 fh8 => ?_;clear hKo Ko fh7 fa7;refine Kn.sstep fh8 rfl rfl .none (Kn.ex_field fh8 (.tmp rfl)) fun Ko hKo => ?_;go_simp;(try go_bits);refine hKo _ fun fa9 fh9 => ?_;clear hKo Ko fh8 fa8;refine wpStill_nil ?_;refine Kn.call fh9 rfl rfl .none (Kn.ex_call fh9 (.cons (.tmp rfl) .nil)) Tryz.call23 (hcl.out _) fun e w1 hp => ?_;obtain ⟨rfl, hb1⟩ := hp;refine ⟨_, rfl, fun fa10 fh10 => ?_⟩;clear fh9 fa9;refine Kn.pure fh10 rfl rfl .none (Kn.ex_assign fh10 (.tmp rfl)) fun fa11 fh11 => ?_;clear fh10 fa10;refine wpList_nil ?_;refine hK2 _ _ ?_;clear hK2 K2;replace fh11 := fh11.cut (.cons (t := 4) rfl .nil);refine wp_ret ?_;exact Kn.ret1 fh11 rfl rfl ⟨rfl, HB.out.trans (Below.mono (Own.undrew hb1) HB.out.size)⟩
set_option maxRecDepth 100000 in
set_option maxHeartbeats 600000 in
theorem lay_any (bl : List ByteArray) (A : Option Addr) (c gt gm N : Nat) (hN : bl.length ≤ 1000000) (hsz : ∀ b ∈ bl, b.size ≤ 300) (_hbc : bl.length ≤ c) (_hcm : c ≤ maxLen) : ∀ (n f : Nat) (p : Nat → Nat → Prop) (w : World), 1 ≤ n → f + n ≤ bl.length → LayIn bl A gt gm N w → MapAt w gm (Rt bl) p →
    Calls Tryz.prog 100 #[.pointer (some ⟨gt, 0, none⟩), .agg #[.int .i64 ((f : Nat) : Int), .int .i64 ((n : Nat) : Int)], .slice A bl.length c] w fun e w' => e = .returned (.string (Rt bl f n)) ∧ MapAt w' gm (Rt bl) (InT f n) ∧ (∀ q, MapAt w gm (Rt bl) q → MapAt w' gm (Rt bl) q) ∧ Sha.Only gm w w' := by
  intro n
  induction n using Nat.strongRecOn with
  | _ n ih0 =>
  intro f p w hn0 hfn hL hM;have ih : ∀ m, m < n → ∀ (f : Nat) (p : Nat → Nat → Prop) (w : World), 1 ≤ m → f + m ≤ bl.length → LayIn bl A gt gm N w → MapAt w gm (Rt bl) p → Calls Tryz.prog 100 #[.pointer (some ⟨gt, 0, none⟩), .agg #[.int .i64 ((f : Nat) : Int), .int .i64 ((m : Nat) : Int)], .slice A bl.length c] w fun e w' => e = .returned (.string (Rt bl f m)) ∧ MapAt w' gm (Rt bl) (InT f m) ∧ (∀ q, MapAt w gm (Rt bl) q → MapAt w' gm (Rt bl) q) ∧ Sha.Only gm w w' := ih0;clear ih0;refine Kn.calls Tryz.func100 rfl Tryz.ntmps100 rfl (.cons (t := 0) rfl (.cons (t := 1) rfl (.cons (t := 2) rfl .nil))) fun fa0 fh0 => ?_;refine wp_seq_k fun K1 hK1 => ?_;refine wp_region_lit ?_;refine Kn.step fh0 rfl rfl .none (Kn.ex_box fh0 (.tmp rfl)) fun Ko hKo => ?_;go_simp;(try go_bits);refine hKo _ _ fun fa1 fh1 => ?_;clear hKo Ko fh0 fa0;refine Kn.pure fh1 rfl rfl .none (Kn.ex_assign fh1 .const) fun fa2 fh2 => ?_;clear fh1 fa1;refine wpList_nil ?_;refine hK1 _ _ ?_;clear hK1 K1;replace fh2 := fh2.cut (.cons (t := 6) rfl (.cons (t := 4) rfl (.cons (t := 0) rfl (.cons (t := 2) rfl .nil))));refine Kn.gen (fun u => St.St u w.heap.size 184 #[.int .i64 ((f : Nat) : Int), .int .i64 ((n : Nat) : Int)] ∧ Below w.heap.size w u) ⟨St.St.new _ _ _, (Below.refl _ w).alloc (Nat.le_refl _) _⟩ fun u hu => ?_;obtain ⟨g4, hg⟩ : ∃ g, w.heap.size = g := ⟨_, rfl⟩;obtain ⟨hS4, hb0⟩ := hu;have hLu := hL.on hb0;have hgm4 : g4 ≠ gm := by have := hL.lt; omega
  rw [hg] at hS4 fh2;have HM0 : Hid (MapAt u gm (Rt bl) p) := Lib.hid (hM.on hb0);have HB : Hid (Sha.Only gm w u ∧ ∀ q, MapAt w gm (Rt bl) q → MapAt u gm (Rt bl) q) := Lib.hid ⟨Sha.Only.of_below hb0, fun q h => h.on hb0⟩;clear hg hb0 hM hL;refine wp_seq_k fun K2 hK2 => ?_;refine wp_region_lit ?_;refine Kn.pure fh2 rfl rfl .none (Kn.ex_assign fh2 .const) fun fa3 fh3 => ?_;clear fh2 fa2;refine wpList_nil ?_;refine hK2 _ _ ?_;clear hK2 K2;refine wp_seq_k fun K3 hK3 => ?_;refine Kn.join (fun fr v => Kn.Kn 41 [(0, .pointer (some ⟨gt, 0, none⟩)), (4, .pointer (some ⟨g4, 0, none⟩)), (7, .string (Rt bl f n))] fr ∧ Hid ((fun v => LayIn bl A gt gm N v ∧ St.St v g4 184 #[.int .i64 ((f : Nat) : Int), .int .i64 ((n : Nat) : Int)] ∧ MapAt v gm (Rt bl) (Subs f n) ∧ (∀ q, MapAt u gm (Rt bl) q → MapAt v gm (Rt bl) q) ∧ Sha.Only gm u v) v)) ?_ ?_
  · have c1 := hS4.cell 1 rfl
    by_cases hn1 : n = 1
    · subst hn1;have hflt : f < bl.length := by omega
      obtain ⟨s, hs⟩ : ∃ s, bl[f]? = some s := ⟨bl[f]'(by omega), List.getElem?_eq_getElem (by omega)⟩;have hss := hsz s (List.mem_of_getElem? hs);have hlf : Calls Tryz.prog 124 #[.string s] u fun e v => e = .returned (.string (Rt bl f 1)) ∧ Below u.heap.size u v := by rw [Rt_1 hs]; exact leaf_any s u (by omega) hLu.tabs
      obtain ⟨ba, oa, rfl, -, cx⟩ := txc hLu.row hs;have c0 := hS4.cell 0 rfl;have HLF := Lib.hid hlf;have HL := Lib.hid hLu;have HS := Lib.hid hS4;clear hlf hs hLu hS4;refine wp_seq_k fun K4 hK4 => ?_;refine wp_region_lit ?_;refine Kn.step fh3 rfl rfl .none (Kn.ex_fieldAddr fh3 (.tmp rfl)) fun Ko hKo => ?_;go_simp;(try go_bits);refine hKo _ _ fun fa4 fh4 => ?_;clear hKo Ko fh3 fa3;refine Kn.step fh4 rfl rfl .none (Kn.ex_load fh4 (.tmp rfl)) fun Ko hKo => ?_;go_simp;(try go_bits);refine hKo _ _ fun fa5 fh5 => ?_;clear hKo Ko fh4 fa4;refine Kn.step fh5 rfl rfl .none (Kn.ex_bin fh5 (.tmp rfl) .const) fun Ko hKo => ?_;go_simp;(try go_bits);refine hKo _ _ fun fa6 fh6 => ?_;clear hKo Ko fh5 fa5;refine wpList_nil ?_;refine hK4 _ _ ?_;clear hK4 K4;replace fh6 := fh6.cut (.cons (t := 12) rfl (.cons (t := 7) rfl (.cons (t := 4) rfl (.cons (t := 0) rfl (.cons (t := 2) rfl .nil)))));refine Kn.yes fh6 (.tmp rfl) ?_;replace fh6 := fh6.cut (.cons (t := 7) rfl (.cons (t := 4) rfl (.cons (t := 0) rfl (.cons (t := 2) rfl .nil))));refine wp_region_lit ?_;refine Kn.pure fh6 rfl rfl .none (Kn.ex_move fh6 (.tmp rfl)) fun fa7 fh7 => ?_;clear fh6 fa6;refine Kn.step fh7 rfl rfl .none (Kn.ex_fieldAddr fh7 (.tmp rfl)) fun Ko hKo => ?_;go_simp;(try go_bits);refine hKo _ _ fun fa8 fh8 => ?_;clear hKo Ko fh7 fa7;refine Kn.step fh8 rfl rfl .none (Kn.ex_load fh8 (.tmp rfl)) fun Ko hKo => ?_;go_simp;(try go_bits);refine hKo _ _ fun fa9 fh9 => ?_;clear hKo Ko fh8 fa8;refine Kn.step fh9 rfl rfl .none (Kn.ex_indexAddr fh9 (.tmp rfl) (.tmp rfl)) fun Ko hKo => ?_;go_simp;(try go_bits);refine hKo _ _ fun fa10 fh10 => ?_;clear hKo Ko fh9 fa9;refine Kn.step fh10 rfl rfl .none (Kn.ex_load fh10 (.tmp rfl)) fun Ko hKo => ?_;go_simp;(try go_bits);refine hKo _ _ fun fa11 fh11 => ?_;clear hKo Ko fh10 fa10;refine Kn.call fh11 rfl rfl .none (Kn.ex_call fh11 (.cons (.tmp rfl) .nil)) Tryz.call124 (HLF.out) fun e v hp => ?_;obtain ⟨rfl, hb⟩ := hp;refine ⟨_, rfl, fun fa12 fh12 => ?_⟩;clear fh11 fa11;refine Kn.pure fh12 rfl rfl .none (Kn.ex_assign fh12 (.tmp rfl)) fun fa13 fh13 => ?_;clear fh12 fa12;refine wpList_nil ?_;replace fh13 := fh13.cut (.cons (t := 7) rfl (.cons (t := 4) rfl (.cons (t := 0) rfl .nil)));exact ⟨fh13.cut (.cons (t := 0) rfl (.cons (t := 4) rfl (.cons (t := 7) rfl .nil))), Lib.hid ⟨HL.out.on hb, HS.out.on hb, ((HM0.out.on hb).mono fun a b h => absurd h.1 (by omega)), fun q h => h.on hb, Sha.Only.of_below hb⟩⟩
    have h2 : 2 ≤ n := by omega
    have e1 : ((n : Int) == 1) = false := by rw [beq_eq_false_iff_ne]; omega
    refine wp_seq_k fun K4 hK4 => ?_;refine wp_region_lit ?_;refine Kn.step fh3 rfl rfl .none (Kn.ex_fieldAddr fh3 (.tmp rfl)) fun Ko hKo => ?_;go_simp;(try go_bits);refine hKo _ _ fun fa4 fh4 => ?_;clear hKo Ko fh3 fa3;refine Kn.step fh4 rfl rfl .none (Kn.ex_load fh4 (.tmp rfl)) fun Ko hKo => ?_;go_simp;(try go_bits);refine hKo _ _ fun fa5 fh5 => ?_;clear hKo Ko fh4 fa4;refine Kn.step fh5 rfl rfl .none (Kn.ex_bin fh5 (.tmp rfl) .const) fun Ko hKo => ?_;go_simp;(try go_bits);refine hKo _ _ fun fa6 fh6 => ?_;clear hKo Ko fh5 fa5;refine wpList_nil ?_;refine hK4 _ _ ?_;clear hK4 K4;replace fh6 := fh6.cut (.cons (t := 12) rfl (.cons (t := 7) rfl (.cons (t := 4) rfl (.cons (t := 0) rfl (.cons (t := 2) rfl .nil)))));clear e1 c1;refine Kn.no fh6 (.tmp rfl) ?_;replace fh6 := fh6.cut (.cons (t := 7) rfl (.cons (t := 4) rfl (.cons (t := 0) rfl (.cons (t := 2) rfl .nil))));obtain ⟨k, hk⟩ : ∃ k, hf n = k := ⟨_, rfl⟩;obtain ⟨s, hs⟩ : ∃ s, f + k = s := ⟨_, rfl⟩;obtain ⟨r, hr⟩ : ∃ r, n - k = r := ⟨_, rfl⟩;have hkk := hf_in h2;rw [hk] at hkk;have hsp := split_any f n u h2 (by omega) (by omega);rw [← hf_hp h2, hk, hs, hr] at hsp;have hsplit : Rt bl f n = sm (c1 ++ Rt bl f k ++ Rt bl s r) := by rw [Rt_2 h2 hfn, hk, hs, hr]
    have hsub : ∀ a b, InT f k a b ∨ InT s r a b → Subs f n a b ∨ False := fun a b h => .inl ⟨h2, by rw [hk, hs, hr]; exact h⟩;have hsub2 : ∀ a b, Subs f n a b → InT f k a b ∨ InT s r a b := fun a b h => by have := h.2; rwa [hk, hs, hr] at this
    have HSPL := Lib.hid hsplit;have HSUB := Lib.hid hsub2;have hih1 := fun v p h1 h2 => ih k (by omega) f p v (by omega) (by omega) h1 h2;have hih2 := fun v p h1 h2 => ih r (by omega) s p v (by omega) (by omega) h1 h2;replace hih1 := Lib.hid hih1;replace hih2 := Lib.hid hih2;have hlo := Lib.hid (loadS hS4 Tryz.underlying184 rfl (by kernel_rfl));have HL := Lib.hid hLu;have HS4 := Lib.hid hS4;have hgl : gm < u.heap.size ∧ g4 < u.heap.size := ⟨hLu.lt, hS4.lt⟩;have HGL := Lib.hid hgl;clear hsplit hsub hsub2 hk hs hr hkk h2 hn1 hLu hS4 hgl ih;refine wp_seq_k fun K5 hK5 => ?_;refine wp_region_lit ?_;refine Kn.known fh6 rfl rfl .none (Kn.ex_load fh6 (.tmp rfl)) hlo.out fun fa7 fh7 => ?_;clear fh6 fa6;clear hlo;refine Kn.call fh7 rfl rfl .none (Kn.ex_call fh7 (.cons (.tmp rfl) .nil)) Tryz.call125 (hsp) fun e v1 hp => ?_;obtain ⟨rfl, hbs⟩ := hp;refine ⟨_, rfl, fun fa8 fh8 => ?_⟩;clear fh7 fa7;refine Kn.pure fh8 rfl rfl .none (Kn.ex_move fh8 (.tmp rfl)) fun fa9 fh9 => ?_;clear fh8 fa8;refine Kn.pure fh9 rfl rfl .none (Kn.ex_extract fh9 (.tmp rfl) rfl) fun fa10 fh10 => ?_;clear fh9 fa9;refine Kn.pure fh10 rfl rfl .none (Kn.ex_extract fh10 (.tmp rfl) rfl) fun fa11 fh11 => ?_;clear fh10 fa10;refine Kn.step fh11 rfl rfl .none Kn.ex_alloc fun Ko hKo => ?_;go_simp;(try go_bits);refine hKo _ _ fun fa12 fh12 => ?_;clear hKo Ko fh11 fa11;refine Kn.step fh12 rfl rfl .none Kn.ex_alloc fun Ko hKo => ?_;go_simp;(try go_bits);refine hKo _ _ fun fa13 fh13 => ?_;clear hKo Ko fh12 fa12;have hv1 := hbs.size;refine Kn.genL (fun x => St.St x v1.heap.size 184 #[.int .i64 0, .int .i64 0] ∧ St.St x (v1.heap.size + 1) 184 #[.int .i64 0, .int .i64 0] ∧ Below u.heap.size u x) ⟨(St.St.new v1 _ _).alloc _, (by have := St.St.new (v1.alloc (.cells #[.int .i64 0, .int .i64 0] 184)) 184 #[.int .i64 0, .int .i64 0]; simpa using this), (hbs.alloc hv1 _).alloc (by simp; omega) _⟩ fun v3 hv3 => ?_;clear hbs hsp;obtain ⟨g8, hg8⟩ : ∃ k, v1.heap.size = k := ⟨_, rfl⟩;obtain ⟨g9, hg9⟩ : ∃ k, g8 + 1 = k := ⟨_, rfl⟩;rw [hg8, hg9] at hv3 fh13;have hne89 : g8 ≠ g9 := by omega
    have hv8 : u.heap.size ≤ g8 := by omega
    have hv9 : u.heap.size ≤ g9 := by omega
    clear hg8 hg9 hv1;obtain ⟨hS8, hS9, hBv⟩ := hv3;obtain ⟨hst, hSn, hBn⟩ := hS8.store (P := Tryz.prog) (cells := #[.int .i64 ((f : Nat) : Int), .int .i64 ((k : Nat) : Int)]) (by kernel_rfl) rfl (by simp [Value.oneCell']);refine Kn.stepU fh13 rfl .none (Kn.ex_store fh13 (.tmp rfl) (.tmp rfl)) fun Ko hKo => ?_;refine Kn.satU_runA hst ?_;refine hKo _ ?_;clear hKo Ko;refine Kn.genL (fun x => St.St x g8 184 #[.int .i64 ((f : Nat) : Int), .int .i64 ((k : Nat) : Int)] ∧ St.St x g9 184 #[.int .i64 0, .int .i64 0] ∧ Below u.heap.size u x) ⟨hSn, hS9.setRow (Ne.symm hne89) _, hBv.trans (hBn _ hv8)⟩ fun v4 huv4 => ?_;clear hst hSn hBn hS8 hS9 hBv;obtain ⟨hS8, hS9, hBv⟩ := huv4;obtain ⟨hst, hSn, hBn⟩ := hS9.store (P := Tryz.prog) (cells := #[.int .i64 ((s : Nat) : Int), .int .i64 ((r : Nat) : Int)]) (by kernel_rfl) rfl (by simp [Value.oneCell']);refine Kn.stepU fh13 rfl .none (Kn.ex_store fh13 (.tmp rfl) (.tmp rfl)) fun Ko hKo => ?_;refine Kn.satU_runA hst ?_;refine hKo _ ?_;clear hKo Ko;refine Kn.genL (fun x => St.St x g8 184 #[.int .i64 ((f : Nat) : Int), .int .i64 ((k : Nat) : Int)] ∧ St.St x g9 184 #[.int .i64 ((s : Nat) : Int), .int .i64 ((r : Nat) : Int)] ∧ Below u.heap.size u x) ⟨hS8.setRow hne89 _, hSn, hBv.trans (hBn _ hv9)⟩ fun v5 huv5 => ?_;clear hst hSn hBn hS9 hS8 hBv;obtain ⟨hS8, hS9, hBv⟩ := huv5;refine wpList_nil ?_;refine hK5 _ _ ?_;clear hK5 K5;replace fh13 := fh13.cut (.cons (t := 9) rfl (.cons (t := 8) rfl (.cons (t := 7) rfl (.cons (t := 4) rfl (.cons (t := 0) rfl (.cons (t := 2) rfl .nil))))));have hne8 : g8 ≠ gm := by have := HGL.out; omega
    have hne9 : g9 ≠ gm := by have := HGL.out; omega
    have HV5 : Hid (LayIn bl A gt gm N v5 ∧ St.St v5 g8 184 #[.int .i64 ((f : Nat) : Int), .int .i64 ((k : Nat) : Int)] ∧ St.St v5 g9 184 #[.int .i64 ((s : Nat) : Int), .int .i64 ((r : Nat) : Int)] ∧ St.St v5 g4 184 #[.int .i64 ((f : Nat) : Int), .int .i64 ((n : Nat) : Int)] ∧ (∀ q, MapAt u gm (Rt bl) q → MapAt v5 gm (Rt bl) q) ∧ Sha.Only gm u v5) := Lib.hid ⟨HL.out.on hBv, hS8, hS9, HS4.out.on hBv, fun q h => h.on hBv, Sha.Only.of_below hBv⟩;clear hS8 hS9 hBv hne89 hv8 hv9;replace fh13 := fh13.cut (.cons (t := 9) rfl (.cons (t := 8) rfl (.cons (t := 4) rfl (.cons (t := 0) rfl (.cons (t := 2) rfl .nil)))));refine Kn.any (fun x => LayIn bl A gt gm N x ∧ St.St x g8 184 #[.int .i64 ((f : Nat) : Int), .int .i64 ((k : Nat) : Int)] ∧ St.St x g9 184 #[.int .i64 ((s : Nat) : Int), .int .i64 ((r : Nat) : Int)] ∧ St.St x g4 184 #[.int .i64 ((f : Nat) : Int), .int .i64 ((n : Nat) : Int)] ∧ (∀ q, MapAt u gm (Rt bl) q → MapAt x gm (Rt bl) q) ∧ Sha.Only gm u x) (fun x x' => ∀ q, MapAt x gm (Rt bl) q → MapAt x' gm (Rt bl) q) (Kn.TL [Kn.Is (.pointer (some ⟨gt, 0, none⟩)), Kn.Is (.agg #[.int .i64 ((f : Nat) : Int), .int .i64 ((k : Nat) : Int)]), Kn.Is (.slice A bl.length c), (fun (v : Value) (x : World) => v = .string (Rt bl f k) ∧ MapAt x gm (Rt bl) (InT f k)), Kn.Is (.pointer (some ⟨gt, 0, none⟩)), Kn.Is (.agg #[.int .i64 ((s : Nat) : Int), .int .i64 ((r : Nat) : Int)]), Kn.Is (.slice A bl.length c), (fun (v : Value) (x : World) => v = .string (Rt bl s r) ∧ MapAt x gm (Rt bl) (InT s r)), (fun (v : Value) (x : World) => v = .string (Rt bl f n) ∧ MapAt x gm (Rt bl) (InT f k) ∧ MapAt x gm (Rt bl) (InT s r)), (fun (v : Value) (x : World) => v = .string (Rt bl f n) ∧ MapAt x gm (Rt bl) (InT f k) ∧ MapAt x gm (Rt bl) (InT s r))]) (by kernel_rfl) fh13 (by kernel_rfl) (by kernel_rfl) rfl (Kn.Keeps.all (.cons Kn.Is.keep (.cons Kn.Is.keep (.cons Kn.Is.keep (.cons (fun _ _ _ hG h => ⟨h.1, hG _ h.2⟩) (.cons Kn.Is.keep (.cons Kn.Is.keep (.cons Kn.Is.keep (.cons (fun _ _ _ hG h => ⟨h.1, hG _ h.2⟩) (.cons (fun _ _ _ hG h => ⟨h.1, hG _ h.2.1, hG _ h.2.2⟩) (.cons (fun _ _ _ hG h => ⟨h.1, hG _ h.2.1, hG _ h.2.2⟩) .nil))))))))))) ⟨HV5.out.1.drew, HV5.out.2.1.drew, HV5.out.2.2.1.drew, HV5.out.2.2.2.1.drew, fun q h => (HV5.out.2.2.2.2.1 q h).at rfl, HV5.out.2.2.2.2.2.drew⟩ ⟨?_, ?_, ?_, ?_, ?_, ?_, ?_, ?_, ?_, ?_, trivial⟩ ?_
    · refine Kn.ok fun fa14 x L fh14 hS hH => ?_;exact Kn.apure fh14 .none (Kn.ex_move fh14 (.tmp rfl)) rfl hS (fun _ h => h)
    · refine Kn.ok fun fa14 x L fh14 hS hH => ?_;have hld := loadS hS.2.1 Tryz.underlying184 rfl (by kernel_rfl);exact Kn.aop fh14 .none (Kn.ex_load fh14 (.tmp rfl)) fun Ko hKo => by rw [hld]; exact hKo _ _ rfl hS (fun _ h => h)
    · refine Kn.ok fun fa14 x L fh14 hS hH => ?_;exact Kn.apure fh14 .none (Kn.ex_move fh14 (.tmp rfl)) rfl hS (fun _ h => h)
    · refine Kn.ok fun fa14 x L fh14 hS hH => ?_;replace fh14 := fh14.more (show fa14.eval (.tmp 24) = .pointer (some ⟨gt, 0, none⟩) from hH 0 24 rfl rfl);replace fh14 := fh14.more (show fa14.eval (.tmp 25) = .agg #[.int .i64 ((f : Nat) : Int), .int .i64 ((k : Nat) : Int)] from hH 1 25 rfl rfl);replace fh14 := fh14.more (show fa14.eval (.tmp 26) = .slice A bl.length c from hH 2 26 rfl rfl);refine Kn.acall fh14 .none (Kn.ex_call fh14 (.cons (.tmp rfl) (.cons (.tmp rfl) (.cons (.tmp rfl) .nil)))) Tryz.call100 (hih1.out _ _ hS.1 (hS.2.2.2.2.1 _ HM0.out)) fun e x2 hp => ?_;obtain ⟨rfl, hm, hmo, ho⟩ := hp;exact ⟨_, rfl, ⟨rfl, hm⟩, ⟨hS.1.only ho, St.only hS.2.1 ho hne8, St.only hS.2.2.1 ho hne9, St.only hS.2.2.2.1 ho hgm4, fun q h => hmo q (hS.2.2.2.2.1 q h), hS.2.2.2.2.2.trans ho⟩, hmo⟩
    · refine Kn.ok fun fa14 x L fh14 hS hH => ?_;exact Kn.apure fh14 .none (Kn.ex_move fh14 (.tmp rfl)) rfl hS (fun _ h => h)
    · refine Kn.ok fun fa14 x L fh14 hS hH => ?_;have hld := loadS hS.2.2.1 Tryz.underlying184 rfl (by kernel_rfl);exact Kn.aop fh14 .none (Kn.ex_load fh14 (.tmp rfl)) fun Ko hKo => by rw [hld]; exact hKo _ _ rfl hS (fun _ h => h)
    · refine Kn.ok fun fa14 x L fh14 hS hH => ?_;exact Kn.apure fh14 .none (Kn.ex_move fh14 (.tmp rfl)) rfl hS (fun _ h => h)
    · refine Kn.ok fun fa14 x L fh14 hS hH => ?_;replace fh14 := fh14.more (show fa14.eval (.tmp 28) = .pointer (some ⟨gt, 0, none⟩) from hH 4 28 rfl rfl);replace fh14 := fh14.more (show fa14.eval (.tmp 29) = .agg #[.int .i64 ((s : Nat) : Int), .int .i64 ((r : Nat) : Int)] from hH 5 29 rfl rfl);replace fh14 := fh14.more (show fa14.eval (.tmp 30) = .slice A bl.length c from hH 6 30 rfl rfl);refine Kn.acall fh14 .none (Kn.ex_call fh14 (.cons (.tmp rfl) (.cons (.tmp rfl) (.cons (.tmp rfl) .nil)))) Tryz.call100 (hih2.out _ _ hS.1 (hS.2.2.2.2.1 _ HM0.out)) fun e x2 hp => ?_;obtain ⟨rfl, hm, hmo, ho⟩ := hp;exact ⟨_, rfl, ⟨rfl, hm⟩, ⟨hS.1.only ho, St.only hS.2.1 ho hne8, St.only hS.2.2.1 ho hne9, St.only hS.2.2.2.1 ho hgm4, fun q h => hmo q (hS.2.2.2.2.1 q h), hS.2.2.2.2.2.trans ho⟩, hmo⟩
    · refine Kn.ok fun fa14 x L fh14 hS hH => ?_;obtain ⟨e27, hm027⟩ : (fun (v : Value) (x : World) => v = .string (Rt bl f k) ∧ MapAt x gm (Rt bl) (InT f k)) (fa14.eval (.tmp 27)) x := hH 3 27 rfl rfl;replace fh14 := fh14.more e27;clear e27;obtain ⟨e31, hm031⟩ : (fun (v : Value) (x : World) => v = .string (Rt bl s r) ∧ MapAt x gm (Rt bl) (InT s r)) (fa14.eval (.tmp 31)) x := hH 7 31 rfl rfl;replace fh14 := fh14.more e31;clear e31;refine Kn.acall fh14 .none (Kn.ex_call fh14 (.cons (.tmp rfl) (.cons (.tmp rfl) .nil))) Tryz.call126 (node_any (Rt bl f k) (Rt bl s r) _ (by rw [Rt_size]; omega) (by rw [Rt_size]; omega) hS.1.tabs) fun e x2 hp => ?_;obtain ⟨rfl, hb⟩ := hp;exact ⟨_, rfl, ⟨by rw [HSPL.out], hm027.on hb, hm031.on hb⟩, ⟨hS.1.only (Sha.Only.of_below hb), St.only hS.2.1 (Sha.Only.of_below hb) hne8, St.only hS.2.2.1 (Sha.Only.of_below hb) hne9, St.only hS.2.2.2.1 (Sha.Only.of_below hb) hgm4, fun q h => (fun _ h => MapAt.on h hb) q (hS.2.2.2.2.1 q h), hS.2.2.2.2.2.trans (Sha.Only.of_below hb)⟩, (fun _ h => MapAt.on h hb)⟩
    · refine Kn.ok fun fa14 x L fh14 hS hH => ?_;obtain ⟨e32, hm032, hm132⟩ : (fun (v : Value) (x : World) => v = .string (Rt bl f n) ∧ MapAt x gm (Rt bl) (InT f k) ∧ MapAt x gm (Rt bl) (InT s r)) (fa14.eval (.tmp 32)) x := hH 8 32 rfl rfl;replace fh14 := fh14.more e32;clear e32;exact Kn.apure fh14 .none (Kn.ex_assign fh14 (.tmp rfl)) ⟨rfl, hm032, hm132⟩ hS (fun _ h => h)
    intro fa14 v6 fh14 hS hT;clear fh13 fa13;obtain ⟨e7, hm07, hm17⟩ : (fun (v : Value) (x : World) => v = .string (Rt bl f n) ∧ MapAt x gm (Rt bl) (InT f k) ∧ MapAt x gm (Rt bl) (InT s r)) (fa14.eval (.tmp 7)) v6 := hT 9 7 rfl;replace fh14 := fh14.more e7;clear hT;replace fh14 := fh14.cut (.cons (t := 7) rfl (.cons (t := 4) rfl (.cons (t := 0) rfl .nil)));exact ⟨fh14.cut (.cons (t := 0) rfl (.cons (t := 4) rfl (.cons (t := 7) rfl .nil))), Lib.hid ⟨hS.1, hS.2.2.2.1, (hm07.or hm17).mono HSUB.out, hS.2.2.2.2.1, hS.2.2.2.2.2⟩⟩
  clear fh3 fa3;intro fa4 v hJ;obtain ⟨fh4, HJ⟩ := hJ;refine hK3 _ _ ?_;clear hK3 K3;have hL2 := HJ.out.1;have c0 := hL2.tree.drew.cell 0 rfl;have hld := loadS HJ.out.2.1.drew Tryz.underlying184 rfl (by kernel_rfl);have hMp : MapAt v.drew gm (Rt bl) (Subs f n) := HJ.out.2.2.1.at rfl;obtain ⟨v9, hput, hM9, hot, hsz9, hB9⟩ := hMp.put (a := f) (b := n) (by omega) (by omega);have hO9 : Sha.Only gm v.drew v9 := ⟨(hB9 gm (Nat.le_refl _)).os, (hB9 gm (Nat.le_refl _)).tape, (hB9 gm (Nat.le_refl _)).output, (hB9 gm (Nat.le_refl _)).size, fun k _ hne => hot k hne⟩;have HF : Hid (MapAt v9 gm (Rt bl) (InT f n) ∧ (∀ q, MapAt w gm (Rt bl) q → MapAt v9 gm (Rt bl) q) ∧ Sha.Only gm w v9) := Lib.hid ⟨hM9.mono fun a b h => InT_subs h, fun q h => ((HJ.out.2.2.2.1 q (HB.out.2 q h)).at (w' := v.drew) rfl).same (by omega) (by omega) hput, (HB.out.1.trans HJ.out.2.2.2.2).drew.trans hO9⟩;have HPUT : Hid ((Instr.mapUpdate 179 (.map (some gm)) (.agg #[.int .i64 ((f : Nat) : Int), .int .i64 ((n : Nat) : Int)]) (.agg #[.string (Rt bl f n)])).run Tryz.prog v.drew = .ok () v9) := Lib.hid hput;clear hM9 hot hsz9 hB9 hO9 hMp hL2 hput;refine wp_seq_k fun K4 hK4 => ?_;refine Kn.tail 7 (by kernel_rfl) (by kernel_rfl) rfl rfl ?_;refine Kn.spure fh4 rfl rfl .none (Kn.ex_move fh4 (.tmp rfl)) fun fa5 fh5 => ?_;clear fh4 fa4;refine Kn.spure fh5 rfl rfl .none (Kn.ex_nilCheck fh5 (.tmp rfl)) fun fa6 fh6 => ?_;clear fh5 fa5;refine Kn.sstep fh6 rfl rfl .none (Kn.ex_fieldAddr fh6 (.tmp rfl)) fun Ko hKo => ?_;go_simp;(try go_bits);refine hKo _ fun fa7 fh7 => ?_;clear hKo Ko fh6 fa6;refine Kn.sstep fh7 rfl rfl .none (Kn.ex_load fh7 (.tmp rfl)) fun Ko hKo => ?_;go_simp;(try go_bits);refine hKo _ fun fa8 fh8 => ?_;clear hKo Ko fh7 fa7;refine Kn.sstep fh8 rfl rfl .none (Kn.ex_load fh8 (.tmp rfl)) fun Ko hKo => ?_;rw [hld];refine hKo _ fun fa9 fh9 => ?_;clear hKo Ko fh8 fa8;refine Kn.spure fh9 rfl rfl .none (Kn.ex_move fh9 (.tmp rfl)) fun fa10 fh10 => ?_;clear fh9 fa9;refine Kn.sstep fh10 rfl rfl .none (Kn.ex_build fh10 (.cons (.tmp rfl) .nil)) fun Ko hKo => ?_;go_simp;(try go_bits);refine hKo _ fun fa11 fh11 => ?_;clear hKo Ko fh10 fa10;refine wpStill_nil ?_;refine Kn.stepU fh11 rfl .none (Kn.ex_mapPut fh11 (.tmp rfl) (.tmp rfl) (.tmp rfl)) fun Ko hKo => ?_;refine Kn.satU_runA HPUT.out ?_;refine hKo _ ?_;clear hKo Ko;refine wpList_nil ?_;refine hK4 _ _ ?_;clear hK4 K4;replace fh11 := fh11.cut (.cons (t := 7) rfl .nil);refine wp_seq_k fun K5 hK5 => ?_;refine wp_region_lit ?_;refine Kn.pure fh11 rfl rfl .none (Kn.ex_move fh11 (.tmp rfl)) fun fa12 fh12 => ?_;clear fh11 fa11;refine Kn.pure fh12 rfl rfl .none (Kn.ex_assign fh12 (.tmp rfl)) fun fa13 fh13 => ?_;clear fh12 fa12;refine wpList_nil ?_;refine hK5 _ _ ?_;clear hK5 K5;replace fh13 := fh13.cut (.cons (t := 6) rfl .nil);refine wp_ret ?_;exact Kn.ret1 fh13 rfl rfl ⟨rfl, HF.out⟩
end Go.Proofs.YtchdlgdmomcemaaGreatDoor.Mrk
end
section
namespace Go.Proofs.YtchdlgdmomcemaaGreatDoor.Mrk
open Go Go.RowKit Go.Lib RowG
def TreeAt (bl : List ByteArray) (gt gm : Nat) (u : World) : Prop := St.St u gt 181 #[.map (some gm), .int .i64 (bl.length : Int)] ∧ MapAt u gm (Rt bl) (fun a b => 1 ≤ bl.length ∧ InT 0 bl.length a b)
theorem TreeAt.on {bl : List ByteArray} {gt gm : Nat} {u u' : World} (h : TreeAt bl gt gm u) (hb : Below u.heap.size u u') : TreeAt bl gt gm u' := ⟨h.1.on hb, h.2.on hb⟩
theorem run_makeMapN (x : Int) (w : World) : (Instr.makeMap 179 (some (.int .i64 x))).run Tryz.prog w = .ok (.map (some w.heap.size)) (w.alloc (.map #[] 0)) := by
  simp [Instr.makeMap, run_underlying Tryz.underlying179, asInt, asIntOf, Result.andThen]
set_option maxRecDepth 100000 in
set_option maxHeartbeats 600000 in
theorem new_any (bl : List ByteArray) (A : Option Addr) (c : Nat) (w : World) (hN : bl.length ≤ 1000000) (hsz : ∀ b ∈ bl, b.size ≤ 300) (hbc : bl.length ≤ c) (hcm : c ≤ maxLen) (hR : RIn txR w A bl) (hT : Sha.Tabs w) :
    Calls Tryz.prog 75 #[.slice A bl.length c] w fun e w' => ∃ gt gm, e = .returned (.pointer (some ⟨gt, 0, none⟩)) ∧ TreeAt bl gt gm w' ∧ Below w.heap.size w w' := by
  refine Kn.Z.cl Tryz.func75 rfl Tryz.ntmps75 rfl (.c 0 rfl .n) ?_;refine Kn.Z.f fun K1 hK1=>?_;refine Kn.Z.u (.a .c .n) ?_;refine Kn.Z.e hK1 ?_;clear hK1 K1;refine Kn.Z.f fun K2 hK2=>?_;refine Kn.Z.u (.m (.t rfl) .n) ?_;refine Kn.Z.s .o (.len (.t rfl)) fun Ko Kp=>?_;go_simp;(try go_bits);refine Kp _ _ ?_;clear Kp Ko;refine Kn.Z.s .o (.bin .c (.t rfl)) fun Ko Kp=>?_;go_simp;(try go_bits);refine Kp _ _ ?_;clear Kp Ko;refine Kn.Z.k .o (fun _ h=>Kn.ex_makeMapN h (.t rfl)) (run_makeMapN _ _) ?_;refine Kn.Z.u (.m (.t rfl) .n) ?_;refine Kn.Z.s .o (.len (.t rfl)) fun Ko Kp=>?_;go_simp;(try go_bits);refine Kp _ _ ?_;clear Kp Ko;refine Kn.Z.s .o (.build (.c (.t rfl) (.c (.t rfl) .n))) fun Ko Kp=>?_;go_simp;(try go_bits);refine Kp _ _ ?_;clear Kp Ko;refine Kn.Z.s .o (.box (.t rfl)) fun Ko Kp=>?_;go_simp;(try go_bits);refine Kp _ _ ?_;clear Kp Ko;refine Kn.Z.u (.a (.t rfl) .n) ?_;refine Kn.Z.e hK2 ?_;clear hK2 K2;refine Kn.Z.g (fun u => St.St u (w.heap.size + 1) 181 #[.map (some w.heap.size), .int .i64 (bl.length : Int)] ∧ MapAt u w.heap.size (Rt bl) (fun _ _ => False) ∧ Below w.heap.size w u) ⟨(by have := St.St.new (w.alloc (.map #[] 0)) 181 #[.map (some w.heap.size), .int .i64 (bl.length : Int)]; simpa using this), (MapAt.new w).on ((Below.refl _ _).alloc (Nat.le_refl _) _), ((Below.refl _ w).alloc (Nat.le_refl _) _).alloc (by simp) _⟩ fun u hu => ?_;obtain ⟨hS0, hM0, hb0⟩ := hu;have hgs := hT.size
  have hoff : 0 < bl.length → Off A w.heap.size := fun h0 a e => by
    obtain ⟨b, o, e2, hlt⟩ := hR.addr h0;rw [e2] at e;injection e with e
    subst e;show b ≠ _;omega
  have hT0 := hT.below hb0 hT.size;have hR0 := hR.on hb0;obtain ⟨gm, hgm⟩ : ∃ g, w.heap.size = g := ⟨_, rfl⟩;intro fa fh;rw [hgm] at hS0 hM0 fh hoff;have hgmle : 4 ≤ gm := by omega
  have HB : Hid (Below w.heap.size w u ∧ w.heap.size ≤ gm) := Lib.hid ⟨hb0, by omega⟩;obtain ⟨gt, hgt⟩ : ∃ g, gm + 1 = g := ⟨_, rfl⟩;rw [hgt] at hS0 fh;have hne : gt ≠ gm := by omega
  have c1 := hS0.cell 1 rfl;have HN := Lib.hid hN;clear hgm hgt hgs hb0
  by_cases h0 : 0 < bl.length
  · have hLI : LayIn bl A gt gm bl.length u := ⟨hT0, hS0, hR0, hoff (by omega), hne, hgmle, hM0.lt⟩;have h1 : 1 ≤ bl.length := by omega
    have hall := all_any gt gm bl.length u hS0;have hly := Lib.hid (fun v q h1 h2 => lay_any bl A c gt gm bl.length hN hsz hbc hcm bl.length 0 q v (by omega) (by omega) h1 h2);have HL := Lib.hid hLI;have HM := Lib.hid hM0;have HH := Lib.hid h1;clear hLI hT0 hS0 hR0 hoff hM0 h1
    revert fa
    refine Kn.Z.q fun K3 hK3=>?_;refine Kn.Z.f fun K4 hK4=>?_;refine Kn.Z.u (.m (.t rfl) (.e .o (fun _ h=>Kn.ex_nilCheck h (.t rfl)) .n)) ?_;refine Kn.Z.s .o (.fieldAddr (.t rfl)) fun Ko Kp=>?_;go_simp;(try go_bits);refine Kp _ _ ?_;clear Kp Ko;refine Kn.Z.s .o (.load (.t rfl)) fun Ko Kp=>?_;go_simp;(try go_bits);refine Kp _ _ ?_;clear Kp Ko;refine Kn.Z.s .o (.bin (.t rfl) .c) fun Ko Kp=>?_;go_simp;(try go_bits);refine Kp _ _ ?_;clear Kp Ko;refine Kn.Z.e hK4 ?_;clear hK4 K4;refine Kn.Z.t (.c 16 rfl (.c 3 rfl (.c 2 rfl (.c 0 rfl .n)))) ?_;clear c1 h0;refine Kn.Z.y (.t rfl) ?_;refine Kn.Z.r ?_;refine Kn.Z.u (.m (.t rfl) (.m (.t rfl) .n)) ?_;refine Kn.Z.c .o (.call (.c (.t rfl) .n)) Tryz.call101 (hall) fun e u1 hp=>?_;obtain ⟨rfl, hb1⟩ := hp;refine ⟨_,rfl,?_⟩;refine Kn.Z.u (.m (.t rfl) .n) ?_;refine Kn.Z.c .o (.call (.c (.t rfl) (.c (.t rfl) (.c (.t rfl) .n)))) Tryz.call100 (hly.out _ _ (HL.out.on hb1) (HM.out.on hb1)) fun e u2 hp=>?_;obtain ⟨rfl, hm2, -, ho2⟩ := hp;refine ⟨_,rfl,?_⟩;refine Kn.Z.e hK3 ?_;clear hK3 K3;have HF : Hid (TreeAt bl gt gm u2 ∧ Below w.heap.size w u2) := Lib.hid ⟨⟨(HL.out.on hb1).only ho2 |>.tree, hm2.mono fun a b h => h.2⟩, (HB.out.1.trans (hb1.mono HB.out.1.size)).trans (ho2.below HB.out.2 (Nat.le_trans HB.out.1.size hb1.size))⟩;clear hb1 hm2 ho2;refine Kn.Z.f fun K5 hK5=>?_;refine Kn.Z.u (.m (.t rfl) (.a (.t rfl) .n)) ?_;refine Kn.Z.e hK5 ?_;clear hK5 K5;refine Kn.Z.t (.c 2 rfl .n) ?_;intro fa fh;refine wp_ret ?_;exact Kn.ret1 fh rfl rfl ⟨gt, gm, rfl, HF.out⟩
  have hz : bl.length = 0 := by omega
  have HZ := Lib.hid hz;have HF : Hid (TreeAt bl gt gm u ∧ Below w.heap.size w u) := Lib.hid ⟨⟨hS0, hM0.mono fun a b h => by omega⟩, HB.out.1⟩;clear hz
  revert fa
  refine Kn.Z.q fun K3 hK3=>?_;refine Kn.Z.f fun K4 hK4=>?_;refine Kn.Z.u (.m (.t rfl) (.e .o (fun _ h=>Kn.ex_nilCheck h (.t rfl)) .n)) ?_;refine Kn.Z.s .o (.fieldAddr (.t rfl)) fun Ko Kp=>?_;go_simp;(try go_bits);refine Kp _ _ ?_;clear Kp Ko;refine Kn.Z.s .o (.load (.t rfl)) fun Ko Kp=>?_;go_simp;(try go_bits);refine Kp _ _ ?_;clear Kp Ko;refine Kn.Z.s .o (.bin (.t rfl) .c) fun Ko Kp=>?_;go_simp;(try go_bits);refine Kp _ _ ?_;clear Kp Ko;refine Kn.Z.e hK4 ?_;clear hK4 K4;refine Kn.Z.t (.c 16 rfl (.c 3 rfl (.c 2 rfl (.c 0 rfl .n)))) ?_;refine Kn.Z.no (.t rfl) ?_;refine Kn.Z.j hK3 ?_;clear hK3 K3;refine Kn.Z.f fun K5 hK5=>?_;refine Kn.Z.u (.m (.t rfl) (.a (.t rfl) .n)) ?_;refine Kn.Z.e hK5 ?_;clear hK5 K5;intro fb fg;refine wp_ret ?_;exact Kn.ret1 fg rfl rfl ⟨gt, gm, rfl, HF.out⟩
set_option maxRecDepth 100000 in
set_option maxHeartbeats 600000 in
theorem troot_any (bl : List ByteArray) (gt gm : Nat) (w : World) (hN : bl.length ≤ 1000000) (hTr : TreeAt bl gt gm w) (hT : Sha.Tabs w) :
    Calls Tryz.prog 76 #[.pointer (some ⟨gt, 0, none⟩)] w fun e w' => e = .returned (.string (rootP bl).1) ∧ Below w.heap.size w w' := by
  refine Kn.Z.cl Tryz.func76 rfl Tryz.ntmps76 rfl (.c 0 rfl .n) ?_;refine Kn.Z.f fun K1 hK1=>?_;refine Kn.Z.u (.a .c .n) ?_;refine Kn.Z.e hK1 ?_;clear hK1 K1;refine Kn.Z.q fun K2 hK2=>?_;refine Kn.Z.f fun K3 hK3=>?_;refine Kn.Z.u (.m (.t rfl) .n) ?_;refine Kn.Z.s .o (.bin (.t rfl) .c) fun Ko Kp=>?_;go_simp;(try go_bits);refine Kp _ _ ?_;clear Kp Ko;refine Kn.Z.e hK3 ?_;clear hK3 K3;refine Kn.Z.no (.t rfl) ?_;refine Kn.Z.j hK2 ?_;clear hK2 K2;have c1 := hTr.1.cell 1 rfl
  by_cases h0 : bl.length = 0
  · have e0 : ((bl.length : Int) == 0) = true := by rw [h0]; rfl
    have HS := Lib.hid (sum1 c2 w hT (by decide));have H0 := Lib.hid h0;clear h0;refine Kn.Z.q fun K4 hK4=>?_;refine Kn.Z.f fun K5 hK5=>?_;refine Kn.Z.u (.m (.t rfl) (.e .o (fun _ h=>Kn.ex_nilCheck h (.t rfl)) .n)) ?_;refine Kn.Z.s .o (.fieldAddr (.t rfl)) fun Ko Kp=>?_;go_simp;(try go_bits);refine Kp _ _ ?_;clear Kp Ko;refine Kn.Z.s .o (.load (.t rfl)) fun Ko Kp=>?_;go_simp;(try go_bits);refine Kp _ _ ?_;clear Kp Ko;refine Kn.Z.s .o (.bin (.t rfl) .c) fun Ko Kp=>?_;go_simp;(try go_bits);refine Kp _ _ ?_;clear Kp Ko;refine Kn.Z.e hK5 ?_;clear hK5 K5;clear e0 c1;refine Kn.Z.y (.t rfl) ?_;refine Kn.Z.f fun K6 hK6=>?_;refine Kn.Z.s .o (.buildSlice (.c .c .n)) fun Ko Kp=>?_;go_simp;(try go_bits);refine Kp _ _ ?_;clear Kp Ko;refine Kn.Z.c .o (.call (.c (.t rfl) .n)) Tryz.call102 (HS.out) fun e w1 hp=>?_;obtain ⟨rfl, hb⟩ := hp;refine ⟨_,rfl,?_⟩;refine Kn.Z.u (.a (.t rfl) .n) ?_;refine Kn.Z.e hK6 ?_;clear hK6 K6;refine Kn.Z.t (.c 2 rfl (.c 0 rfl .n)) ?_;intro fb fg;refine wp_ret ?_;refine Kn.then_ret ?_;exact Kn.ret1 fg rfl rfl ⟨by rw [rootP_0 H0.out], hb⟩
  have e0 : ((bl.length : Int) == 0) = false := by rw [beq_eq_false_iff_ne]; omega
  have hall := all_any gt gm bl.length w hTr.1;have H0 := Lib.hid h0;have hpt := Lib.hid (fun v (h : TreeAt bl gt gm v) => part_any gt gm bl.length 0 bl.length (Rt bl) _ v h.1 h.2 ⟨by omega, InT_self _ _⟩ (by omega) hN (by rw [Rt_size]; omega));have HT := Lib.hid hTr;clear h0 hTr;refine Kn.Z.q fun K4 hK4=>?_;refine Kn.Z.f fun K5 hK5=>?_;refine Kn.Z.u (.m (.t rfl) (.e .o (fun _ h=>Kn.ex_nilCheck h (.t rfl)) .n)) ?_;refine Kn.Z.s .o (.fieldAddr (.t rfl)) fun Ko Kp=>?_;go_simp;(try go_bits);refine Kp _ _ ?_;clear Kp Ko;refine Kn.Z.s .o (.load (.t rfl)) fun Ko Kp=>?_;go_simp;(try go_bits);refine Kp _ _ ?_;clear Kp Ko;refine Kn.Z.s .o (.bin (.t rfl) .c) fun Ko Kp=>?_;go_simp;(try go_bits);refine Kp _ _ ?_;clear Kp Ko;refine Kn.Z.e hK5 ?_;clear hK5 K5;clear e0 c1;refine Kn.Z.no (.t rfl) ?_;refine Kn.Z.j hK4 ?_;clear hK4 K4;refine Kn.Z.f fun K6 hK6=>?_;refine Kn.Z.u (.m (.t rfl) (.m (.t rfl) .n)) ?_;refine Kn.Z.c .o (.call (.c (.t rfl) .n)) Tryz.call101 (hall) fun e w1 hp=>?_;obtain ⟨rfl, hb1⟩ := hp;refine ⟨_,rfl,?_⟩;refine Kn.Z.c .o (.call (.c (.t rfl) (.c (.t rfl) .n))) Tryz.call103 (hpt.out _ (HT.out.on hb1)) fun e w2 hp=>?_;obtain ⟨rfl, hb2⟩ := hp;refine ⟨_,rfl,?_⟩;refine Kn.Z.u (.a (.t rfl) .n) ?_;refine Kn.Z.e hK6 ?_;clear hK6 K6;refine Kn.Z.t (.c 2 rfl .n) ?_;intro fb fg;refine wp_ret ?_;exact Kn.ret1 fg rfl rfl ⟨by rw [Rt_all], hb1.trans (hb2.mono hb1.size)⟩
set_option maxRecDepth 100000 in
set_option maxHeartbeats 600000 in
theorem root_any (bl : List ByteArray) (A : Option Addr) (c : Nat) (w : World) (hN : bl.length ≤ 1000000) (hsz : ∀ b ∈ bl, b.size ≤ 300) (hbc : bl.length ≤ c) (hcm : c ≤ maxLen) (hR : RIn txR w A bl) (hT : Sha.Tabs w) :
    Calls Tryz.prog 47 #[.slice A bl.length c] w fun e w' => e = .returned (.string (rootP bl).1) ∧ Below w.heap.size w w' := by
  refine Kn.Z.cl Tryz.func47 rfl Tryz.ntmps47 rfl (.c 0 rfl .n) ?_;refine Kn.Z.f fun K1 hK1=>?_;refine Kn.Z.u (.a .c .n) ?_;refine Kn.Z.e hK1 ?_;clear hK1 K1;have hn := new_any bl A c w hN hsz hbc hcm hR hT;have HT := Lib.hid hT;clear hT;refine Kn.Z.f fun K2 hK2=>?_;refine Kn.Z.u (.m (.t rfl) .n) ?_;refine Kn.Z.c .o (.call (.c (.t rfl) .n)) Tryz.call75 (hn) fun e w1 hp=>?_;obtain ⟨gt, gm, rfl, htr, hb1⟩ := hp;refine ⟨_,rfl,?_⟩;refine Kn.Z.c .o (.call (.c (.t rfl) .n)) Tryz.call76 (troot_any bl gt gm w1 hN htr (HT.out.below hb1 HT.out.size)) fun e w2 hp=>?_;obtain ⟨rfl, hb2⟩ := hp;refine ⟨_,rfl,?_⟩;refine Kn.Z.u (.a (.t rfl) .n) ?_;refine Kn.Z.e hK2 ?_;clear hK2 K2;intro fb fg;refine wp_ret ?_;exact Kn.ret1 fg rfl rfl ⟨rfl, hb1.trans (hb2.mono hb1.size)⟩
end Go.Proofs.YtchdlgdmomcemaaGreatDoor.Mrk
end
section
namespace Go.Proofs.YtchdlgdmomcemaaGreatDoor.Edg
theorem norm_ex : ∀ xs : List (Int × Int), ∃ ys, NormOf xs ys
  | [] => ⟨[], List.Pairwise.nil, fun e => Iff.rfl⟩
  | a :: xs => by
    obtain ⟨ys, hs, hm⟩ := norm_ex xs;refine ⟨ys.filter (fun x => lessB x a) ++ a :: ys.filter (fun x => lessB a x), ?_, fun e => ?_⟩
    · unfold Srt at *;rw [List.pairwise_append];refine ⟨hs.filter _, List.pairwise_cons.2 ⟨fun b hb => (List.mem_filter.1 hb).2, hs.filter _⟩, fun b hb c hc => ?_⟩;have h1 := (List.mem_filter.1 hb).2;rcases List.mem_cons.1 hc with rfl | hc
      · exact h1
      · exact less_trans h1 (List.mem_filter.1 hc).2
    · rw [List.mem_append, List.mem_cons, List.mem_cons, List.mem_filter, List.mem_filter, hm]
      constructor
      · rintro (h | h | h)
        · exact .inr h.1
        · exact .inl h
        · exact .inr h.1
      · rintro (h | h)
        · exact .inr (.inl h)
        · cases h1 : lessB e a with
          | true => exact .inl ⟨h, rfl⟩
          | false =>
            cases h2 : lessB a e with
            | true => exact .inr (.inr ⟨h, rfl⟩)
            | false => exact .inr (.inl (less_eq h1 h2))
end Go.Proofs.YtchdlgdmomcemaaGreatDoor.Edg
namespace Go.Proofs.YtchdlgdmomcemaaGreatDoor.Man
open Go Go.RowKit Go.Lib RowG Edg Csr Shd
theorem blk_small (s : ByteArray) : ∀ b ∈ Blk.cutK s, b.size ≤ 300 := fun b hb => by
  obtain ⟨k, hk, rfl⟩ := List.getElem_of_mem hb;have hk2 : k < Blk.cntK s.size := by rwa [Blk.cutK_len] at hk
  have e := Blk.cutK_at hk2;rw [List.getElem?_eq_getElem hk] at e;injection e with e
  rw [e, Blk.blkK_size hk2];unfold Blk.szK
  split <;> omega
theorem made_of (v : Int) (N E : Nat) (A : Option Addr) (ca : Nat) (xs ys : List (Int × Int)) (w : World) (hv : 1 ≤ v ∧ v ≤ 1099511627776) (hA : EIn w A xs) (hg : Edg.Good (N : Int) xs) (hn : NormOf xs ys) (hN : N ≤ 300) (hx : xs.length ≤ 200) (hE : 1 ≤ E) (hE2 : E ≤ 9223372036854775807) (hc : cutM N E ≤ 64) (hT : Sha.Tabs w) :
    Made (N : Int) (E : Int) (.slice A xs.length ca) ys.length (manF v N E ys).sh (partsF ys N E (cutM N E)) (Blk.cutK (allF ys N E)) (manF v N E ys).r w := by
  have hyg := hn.good hg;have hyl : ys.length ≤ 200 := by have := hn.len; omega
  have hG := man_good (v := v) hv.1 hv.2 hN hyl hE hc;have hpl : (partsF ys N E (cutM N E)).length = cutM N E := partsF_len _ _ _ _;have hsl : (manF v N E ys).sh.length = cutM N E := man_len v N E ys;have hsm : (Blk.catK (partsF ys N E (cutM N E))).size ≤ 12064 := parts_small hN hyl hc;have hbl : (Blk.cutK (allF ys N E)).length = Blk.cntK (allF ys N E).size := Blk.cutK_len _
  have hbl2 : (Blk.cutK (allF ys N E)).length ≤ 200 := by
    rw [hbl];unfold allF Blk.cntK;omega
  refine ⟨?_, fun A' u hb hA' => ?_, by rw [hsl]; exact hc, hG.y, ?_, by omega, fun A' u hb hA' => ?_, fun B d u hb hB h1 h2 => ?_⟩
  · refine (build_yes N A ca xs w hA hg).mono fun e u ⟨g, zs, he, hz, hR, hb⟩ => ⟨⟨g, he, fun u1 h1 => ?_, ?_⟩, hb⟩
    · obtain rfl : ys = zs := hn.unique hz;exact edges_any u1 _ g N ys (hR.on h1)
    · obtain rfl : ys = zs := hn.unique hz;refine (split_m u _ g hR hE hE2 hc).mono fun e u' ⟨A', he, hA', hb', _⟩ => ⟨⟨A', by rw [hpl]; exact he, hA'⟩, hb'⟩
  · rw [hpl, hsl];exact (table_all A' (cutM N E) u hn.srt hyg hE hA').mono fun e u' ⟨gt, he, hH, hb'⟩ => ⟨⟨some ⟨gt, 0, none⟩, cutM N E, he, hH.rin, Nat.le_refl _, by unfold maxLen; omega⟩, hb'⟩
  · have h := hG.b;unfold blkI tot at h;rw [← h, hbl]
    rfl
  · have h := Blk.cut_full A' (partsF ys N E (cutM N E)).length (partsF ys N E (cutM N E)) u (by omega) (Nat.le_refl _) (by omega) hA';exact h.mono fun e u' ⟨g, he, hg', hI, hb'⟩ => ⟨⟨g, _, he.trans (by rw [hbl]; rfl), hg', hI, by rw [hbl]; exact Nat.le_refl _, by unfold maxLen; unfold Blk.cntK; omega⟩, hb'⟩
  · exact Mrk.root_any (Blk.cutK (allF ys N E)) B d u (by omega) (blk_small _) h1 h2 hB (hT.below hb hT.size)
theorem make_yes (v : Int) (N E : Nat) (A : Option Addr) (ca : Nat) (xs ys : List (Int × Int)) (w : World) (hv : 1 ≤ v ∧ v ≤ 1099511627776) (hA : EIn w A xs) (hg : Edg.Good (N : Int) xs) (hn : NormOf xs ys) (hN : N ≤ 300) (hx : xs.length ≤ 200) (hE : 1 ≤ E) (hE2 : E ≤ 9223372036854775807) (hc : cutM N E ≤ 64) (hT : Sha.Tabs w) :
    Calls Tryz.prog 20 #[.int .i64 v, .int .i64 (N : Int), .int .i64 (E : Int), .slice A xs.length ca] w fun e w' => (∃ g A c B d, e = .returned (.tuple #[.pointer (some ⟨g, 0, none⟩), .nilIface]) ∧ VAt (manF v N E ys) (Blk.cutK (allF ys N E)) A c B d g w') ∧ Below w.heap.size w w' := by
  have h := make_made v (N : Int) (E : Int) (.slice A xs.length ca) ys.length _ _ _ _ w hv (made_of v N E A ca xs ys w hv hA hg hn hN hx hE hE2 hc hT)
  have e : (⟨v, (N : Int), (ys.length : Int), (manF v N E ys).sh, ((Blk.cutK (allF ys N E)).length : Int), (manF v N E ys).r⟩ : MF) = manF v N E ys := by
    rw [Blk.cutK_len]
    rfl
  rw [e] at h;exact h
theorem make_none (v n E : Int) (A : Option Addr) (ca : Nat) (xs : List (Int × Int)) (w : World) (hv : 1 ≤ v ∧ v ≤ 1099511627776) (hA : EIn w A xs) (hg : ¬ Edg.Good n xs) :
    Calls Tryz.prog 20 #[.int .i64 v, .int .i64 n, .int .i64 E, .slice A xs.length ca] w fun e w' => e = .returned (.tuple #[.pointer none, Edg.faultV (wrongP n xs) 10]) ∧ Below w.heap.size w w' :=
  make_graph v n E (.slice A xs.length ca) _ _ w hv (build_no n A ca xs w hA hg)
theorem make_unsplit (v : Int) (N : Nat) (E : Int) (A : Option Addr) (ca : Nat) (xs : List (Int × Int)) (w : World) (hv : 1 ≤ v ∧ v ≤ 1099511627776) (hA : EIn w A xs) (hg : Edg.Good (N : Int) xs) (hE2 : E ≤ 9223372036854775807) (h : E < 1 ∨ 64 < cutM N E.toNat) :
    Calls Tryz.prog 20 #[.int .i64 v, .int .i64 (N : Int), .int .i64 E, .slice A xs.length ca] w fun e w' => e = .returned (.tuple #[.pointer none, erV (if E < 1 then 1 else 6)]) ∧ Below w.heap.size w w' :=
  make_split v (N : Int) E (.slice A xs.length ca) _ _ w hv ((build_yes N A ca xs w hA hg).mono fun e u ⟨g, zs, he, hz, hR, hb⟩ => ⟨⟨⟨g, 0, none⟩, he, by
    by_cases h1 : E < 1
    · rw [if_pos h1];refine (split_arg E ⟨g, 0, none⟩ u h1).mono fun e u' ⟨he, hw⟩ => ?_;subst hw;exact ⟨⟨none, he⟩, Below.refl _ _⟩
    · rw [if_neg h1];obtain ⟨D, rfl⟩ := Int.eq_ofNat_of_zero_le (show 0 ≤ E by omega);have h2 : 64 < cutM N D := by rcases h with h | h; exact absurd h h1; exact h
      have hN1 : 1 ≤ N := by
        rcases Nat.eq_zero_or_pos N with h | h
        · rw [h, cutM_0 (by omega)] at h2;omega
        · exact h
      refine (split_long D u _ g N zs hR (by omega) (by omega) hN1 (by rw [← cutM_cut (by omega) hN1]; exact h2)).mono fun e u' ⟨he, hw⟩ => ?_;subst hw
      exact ⟨⟨none, he⟩, Below.refl _ _⟩⟩, hb⟩)
end Go.Proofs.YtchdlgdmomcemaaGreatDoor.Man
end
section
namespace Go.Proofs.YtchdlgdmomcemaaGreatDoor.Err
open Go.RowKit Go.Extern.Stop Go.Stop Go.Extern
theorem one_match.{u} (m : Array Value → Sort u) (v : Value) (f : (v : Value) → m #[v]) (g : (x : Array Value) → m x) : ReflectliteValue.method.match_2 m #[v] f g = f v := rfl
theorem two_match.{u} (m : Array Value → Sort u) (v x : Value) (f : (v x : Value) → m #[v, x]) (g : (x : Array Value) → m x) : ReflectliteValue.set.match_3 m #[v, x] f g = f v x := rfl
theorem methodKind (n : Nat) (h : Value) (w : World) : (Go.method (n + 1) 154 (.agg #[h]) "Kind").run Tryz.prog w = .ok (169, h) w := by kernel_rfl
theorem methodElem (n : Nat) (h : Value) (w : World) : (Go.method (n + 1) 154 (.agg #[h]) "Elem").run Tryz.prog w = .ok (185, .agg #[h]) w := by kernel_rfl
theorem methodImplements (n : Nat) (h : Value) (w : World) : (Go.method (n + 1) 154 (.agg #[h]) "Implements").run Tryz.prog w = .ok (186, .agg #[h]) w := by kernel_rfl
theorem methodAssignableTo (n : Nat) (h : Value) (w : World) : (Go.method (n + 1) 154 (.agg #[h]) "AssignableTo").run Tryz.prog w = .ok (183, .agg #[h]) w := by kernel_rfl
theorem valueOfPE (t : Addr) (w : World) : (ReflectliteValue.unpack (.iface 79 (.pointer (some t)))).run Tryz.prog w
    = .ok (.agg #[.pointer (some ⟨4, 79, none⟩), .pointer (some ⟨w.heap.size, 0, none⟩), .int .u64 150]) (w.alloc (.cells #[.pointer (some t)] 79)) := by kernel_rfl
theorem typePE (a : Addr) (w : World) : (ReflectliteValue.methodAny (ReflectliteValue.valueError "reflectlite.Value.Type" 0) (fun t _ _ _ => ReflectliteType.toType t) #[.agg #[.pointer (some ⟨4, 79, none⟩), .pointer (some a), .int .u64 150]]).run Tryz.prog w
    = .ok (.iface 154 (.agg #[.pointer (some ⟨4, 79, none⟩)])) w := by kernel_rfl
theorem kindPE (w : World) : ((ReflectliteType.abiMethod fun t => (fun a : Nat => Value.int IntKind.u8 (a : Int)) <$> Rtype.kind t) #[.pointer (some ⟨4, 79, none⟩)]).run Tryz.prog w = .ok (.int .u8 22) w := by kernel_rfl
theorem kindE (w : World) : ((ReflectliteType.abiMethod fun t => (fun a : Nat => Value.int IntKind.u8 (a : Int)) <$> Rtype.kind t) #[.pointer (some ⟨4, 66, none⟩)]).run Tryz.prog w = .ok (.int .u8 2) w := by kernel_rfl
theorem partsPE (a : Addr) (w : World) : (ReflectliteValue.parts (.agg #[.pointer (some ⟨4, 79, none⟩), .pointer (some a), .int .u64 150])).run Tryz.prog w = .ok (some (79, a, 150)) w := by kernel_rfl
theorem isNilPE (a p : Addr) (W : World) (ha : W.cell? a = some (.pointer (some p))) :
    (ReflectliteValue.method (ReflectliteValue.valueError "reflectlite.Value.IsNil" 0) ReflectliteValue.isNil #[.agg #[.pointer (some ⟨4, 79, none⟩), .pointer (some a), .int .u64 150]]).run Tryz.prog W = .ok (.bool false) W := by
  delta ReflectliteValue.method
  rw [one_match];simp only [Sem.run_bind, partsPE, Result.andThen];simp [ReflectliteValue.isNil, loadVar, isAgg, underlying, Tryz.underlying79, ha, Result.andThen]
theorem elemPE (w : World) : (ReflectliteType.method ReflectliteType.elem #[.agg #[.pointer (some ⟨4, 79, none⟩)]]).run Tryz.prog w = .ok (.iface 154 (.agg #[.pointer (some ⟨4, 66, none⟩)])) w := by kernel_rfl
theorem implementsE (w : World) : (ReflectliteType.relation "Implements" ReflectliteType.implements_ #[.agg #[.pointer (some ⟨4, 66, none⟩)], .iface 154 (.agg #[.pointer (some ⟨4, 29, none⟩)])]).run Tryz.prog w = .ok (.bool true) w := by kernel_rfl
theorem typeOfE (v : Value) (w : World) : (ReflectliteType.typeOf #[.iface 66 v]).run Tryz.prog w = .ok (.iface 154 (.agg #[.pointer (some ⟨4, 66, none⟩)])) w := by kernel_rfl
theorem elemOfPE (w : World) : (Rtype.elem? 79).run Tryz.prog w = .ok (some 66) w := by kernel_rfl
theorem mkE (p : Addr) (w : World) : (ReflectliteValue.mk 66 p ReflectliteValue.flagAddr).run Tryz.prog w = .ok (.agg #[.pointer (some ⟨4, 66, none⟩), .pointer (some p), .int .u64 386]) w := by kernel_rfl
theorem elemVE (a p : Addr) (W : World) (ha : W.cell? a = some (.pointer (some p))) :
    (ReflectliteValue.method (ReflectliteValue.valueError "reflectlite.Value.Elem" 0) ReflectliteValue.elem #[.agg #[.pointer (some ⟨4, 79, none⟩), .pointer (some a), .int .u64 150]]).run Tryz.prog W
      = .ok (.agg #[.pointer (some ⟨4, 66, none⟩), .pointer (some p), .int .u64 386]) W := by
  delta ReflectliteValue.method
  rw [one_match];simp only [Sem.run_bind, partsPE, Result.andThen];simp [ReflectliteValue.elem, loadVar, isAgg, underlying, Tryz.underlying79, ha, Result.andThen, elemOfPE, mkE]
theorem partsAE (a : Addr) (w : World) : (ReflectliteValue.parts (.agg #[.pointer (some ⟨4, 66, none⟩), .pointer (some a), .int .u64 386])).run Tryz.prog w = .ok (some (66, a, 386)) w := by kernel_rfl
theorem partsE (a : Addr) (w : World) : (ReflectliteValue.parts (.agg #[.pointer (some ⟨4, 66, none⟩), .pointer (some a), .int .u64 130])).run Tryz.prog w = .ok (some (66, a, 130)) w := by kernel_rfl
theorem directE (w : World) : (Rtype.directlyAssignable 66 66).run Tryz.prog w = .ok true w := by kernel_rfl
theorem assignableEE (w : World) : (ReflectliteType.relation "AssignableTo" ReflectliteType.assignableTo #[.agg #[.pointer (some ⟨4, 66, none⟩)], .iface 154 (.agg #[.pointer (some ⟨4, 66, none⟩)])]).run Tryz.prog w = .ok (.bool true) w := by kernel_rfl
theorem valueOfE (c : Int) (w : World) : (ReflectliteValue.unpack (.iface 66 (.int .i64 c))).run Tryz.prog w
    = .ok (.agg #[.pointer (some ⟨4, 66, none⟩), .pointer (some ⟨w.heap.size, 0, none⟩), .int .u64 130]) (w.alloc (.cells #[.int .i64 c] 66)) := by kernel_rfl
theorem setE (ta b : Addr) (c : Int) (old : Value) (W : World) (hb : W.cell? b = some (.int .i64 c)) (ht : W.cell? ta = some old) (hf : W.frozen? ta = false) :
    (ReflectliteValue.set #[.agg #[.pointer (some ⟨4, 66, none⟩), .pointer (some ta), .int .u64 386], .agg #[.pointer (some ⟨4, 66, none⟩), .pointer (some b), .int .u64 130]]).run Tryz.prog W
      = .ok (.tuple #[]) (W.setCell ta (.int .i64 c)) := by
  delta ReflectliteValue.set
  rw [two_match];simp only [Sem.run_bind, partsAE, partsE, Result.andThen];simp [ReflectliteValue.flagAddr, loadVar, isAgg, underlying, Tryz.underlying66, hb, Result.andThen, directE, storeVar, Value.cells, storeCells, Addr.add];rw [run_store Tryz.prog W ta _ _ (by rfl)];simp [ht, hf]
end Go.Proofs.YtchdlgdmomcemaaGreatDoor.Err
end
section
namespace Go.Proofs.YtchdlgdmomcemaaGreatDoor.Err
open Go.RowKit Go.Extern.Stop Go.Stop Go.Extern
def ErrTab (w : World) : Prop := w.cell? ⟨0, 0, none⟩ = some (.iface 154 (.agg #[.pointer (some ⟨4, 29, none⟩)]))
theorem ErrTab.lt {w : World} (h : ErrTab w) : 0 < w.heap.size := by
  unfold ErrTab at h;rcases Nat.lt_or_ge 0 w.heap.size with h0 | h0
  · exact h0
  · simp [World.cell?, Array.getElem?_eq_none h0] at h
theorem ErrTab.alloc {w : World} (h : ErrTab w) (o : Obj) : ErrTab (w.alloc o) := (World.cell?_alloc_lt w o ⟨0, 0, none⟩ h.lt).trans h
set_option maxHeartbeats 4000000 in
theorem as_EE (c : Int) (t : Addr) (old : Value) (w : World) (hg : ErrTab w) (ht0 : w.cell? t = some old) (hf0 : w.frozen? t = false) :
    Calls Tryz.prog 33 #[.iface 66 (.int .i64 c), .iface 79 (.pointer (some t))] w fun ev w' => ev = .returned (.bool true) ∧ w'.cell? t = some (.int .i64 c) ∧ Below t.block w w' := by
  have h0 := @run_callFunc_extern Tryz.prog 56 _ (fun args => ReflectliteValue.unpack (args.getD 0 (.tuple #[]))) Tryz.func56 (by kernel_rfl) (by kernel_rfl) (by kernel_rfl) (by kernel_rfl);have h1 := @run_callFunc_extern Tryz.prog 57 _ (ReflectliteValue.methodAny (ReflectliteValue.valueError "reflectlite.Value.Type" 0) (fun t _ _ _ => ReflectliteType.toType t)) Tryz.func57 (by kernel_rfl) (by kernel_rfl) (by kernel_rfl) (by kernel_rfl);have h2 := @run_callFunc_extern Tryz.prog 58 _ (ReflectliteValue.method (ReflectliteValue.valueError "reflectlite.Value.IsNil" 0) ReflectliteValue.isNil) Tryz.func58 (by kernel_rfl) (by kernel_rfl) (by kernel_rfl) (by kernel_rfl);have h3 := @run_callFunc_extern Tryz.prog 169 _ (ReflectliteType.abiMethod fun t => do pure (.int .u8 (← Rtype.kind t))) Tryz.func169 (by kernel_rfl) (by kernel_rfl) (by kernel_rfl) (by kernel_rfl);have h4 := @run_callFunc_extern Tryz.prog 185 _ (ReflectliteType.method ReflectliteType.elem) Tryz.func185 (by kernel_rfl) (by kernel_rfl) (by kernel_rfl) (by kernel_rfl);have h5 := @run_callFunc_extern Tryz.prog 186 _ (ReflectliteType.relation "Implements" ReflectliteType.implements_) Tryz.func186 (by kernel_rfl) (by kernel_rfl) (by kernel_rfl) (by kernel_rfl);have h6 := @run_callFunc_extern Tryz.prog 84 _ (ReflectliteType.typeOf) Tryz.func84 (by kernel_rfl) (by kernel_rfl) (by kernel_rfl) (by kernel_rfl);have h7 := @run_callFunc_extern Tryz.prog 183 _ (ReflectliteType.relation "AssignableTo" ReflectliteType.assignableTo) Tryz.func183 (by kernel_rfl) (by kernel_rfl) (by kernel_rfl) (by kernel_rfl);have h8 := @run_callFunc_extern Tryz.prog 85 _ (ReflectliteValue.method (ReflectliteValue.valueError "reflectlite.Value.Elem" 0) ReflectliteValue.elem) Tryz.func85 (by kernel_rfl) (by kernel_rfl) (by kernel_rfl) (by kernel_rfl);have h9 := @run_callFunc_extern Tryz.prog 86 _ (ReflectliteValue.set) Tryz.func86 (by kernel_rfl) (by kernel_rfl) (by kernel_rfl) (by kernel_rfl);have tO1 := typeOfE;have mA := methodAssignableTo;have f6 := valueOfPE;have f7 := typePE;have mK := methodKind;have mE := methodElem;have mI := methodImplements;have k27 := kindPE;have k25 := kindE;have e27 := elemPE;have i25 := implementsE
  have htl : t.block < w.heap.size := by
    rcases Nat.lt_or_ge t.block w.heap.size with h | h
    · exact h
    · simp [World.cell?, Array.getElem?_eq_none h] at ht0
  have hb3 : Below t.block w (((w.alloc (.cells #[.pointer (some t)] 79)).alloc (.cells #[.pointer (some ⟨4, 79, none⟩), .pointer (some ⟨w.heap.size, 0, none⟩), .int .u64 150] 107)).alloc (.cells #[.pointer (some ⟨4, 79, none⟩), .pointer (some ⟨w.heap.size, 0, none⟩), .int .u64 150] 107)) := (((Below.refl _ _).alloc (by omega) _).alloc (by simp; omega) _).alloc (by simp; omega) _;have HB3 := Lib.hid hb3;clear hb3;have n8 := isNilPE ⟨w.heap.size, 0, none⟩ t ((w.alloc (.cells #[.pointer (some t)] 79)).alloc (.cells #[.pointer (some ⟨4, 79, none⟩), .pointer (some ⟨w.heap.size, 0, none⟩), .int .u64 150] 107)) (by simp);have HG := Lib.hid ((hg.alloc (.cells #[.pointer (some t)] 79)).alloc (.cells #[.pointer (some ⟨4, 79, none⟩), .pointer (some ⟨w.heap.size, 0, none⟩), .int .u64 150] 107));have hg3 := HG.out;unfold ErrTab at hg3;have aEE := assignableEE;have vE := valueOfE;have el := elemVE ⟨w.heap.size, 0, none⟩ t (((w.alloc (.cells #[.pointer (some t)] 79)).alloc (.cells #[.pointer (some ⟨4, 79, none⟩), .pointer (some ⟨w.heap.size, 0, none⟩), .int .u64 150] 107)).alloc (.cells #[.pointer (some ⟨4, 79, none⟩), .pointer (some ⟨w.heap.size, 0, none⟩), .int .u64 150] 107)) (by rw [World.cell?_alloc_lt _ _ ⟨w.heap.size, 0, none⟩ (by simp; omega)]; simp);have htW : ((((w.alloc (.cells #[.pointer (some t)] 79)).alloc (.cells #[.pointer (some ⟨4, 79, none⟩), .pointer (some ⟨w.heap.size, 0, none⟩), .int .u64 150] 107)).alloc (.cells #[.pointer (some ⟨4, 79, none⟩), .pointer (some ⟨w.heap.size, 0, none⟩), .int .u64 150] 107)).alloc (.cells #[.int .i64 c] 66)).cell? t = some old := by rw [World.cell?_alloc_lt _ _ t (by simp; omega), World.cell?_alloc_lt _ _ t (by simp; omega), World.cell?_alloc_lt _ _ t (by simp; omega), World.cell?_alloc_lt _ _ t (by simpa using htl)]; exact ht0
  have HTW := Lib.hid htW
  have st := setE t ⟨w.heap.size + 1 + 1 + 1, 0, none⟩ c old ((((w.alloc (.cells #[.pointer (some t)] 79)).alloc (.cells #[.pointer (some ⟨4, 79, none⟩), .pointer (some ⟨w.heap.size, 0, none⟩), .int .u64 150] 107)).alloc (.cells #[.pointer (some ⟨4, 79, none⟩), .pointer (some ⟨w.heap.size, 0, none⟩), .int .u64 150] 107)).alloc (.cells #[.int .i64 c] 66))
    (by rw [World.cell?_alloc_at _ _ _ _ (by simp)]; rfl) htW (by rw [World.frozen?_alloc_old _ _ t (by simp; omega), World.frozen?_alloc_old _ _ t (by simp; omega), World.frozen?_alloc_old _ _ t (by simp; omega), World.frozen?_alloc_old _ _ t (by simp; omega)]; exact hf0)
  clear hg htW
  go_enter Tryz.func33, Tryz.ntmps33
  go_wp2
  refine wp_loop_rounds 1 ?_;rw [rounds_succ]
  go_wp2
  go_ret
  exact ⟨rfl, World.cell?_setCell_same _ _ _ HTW.out, (HB3.out.alloc (by simp; omega) _).setCell (Nat.le_refl _) _⟩
end Go.Proofs.YtchdlgdmomcemaaGreatDoor.Err
end
section
namespace Go.Proofs.YtchdlgdmomcemaaGreatDoor.Err
open Go.RowKit Go.Extern.Stop Go.Stop Go.Extern
def errnoV (c : Int) : Value := .iface 66 (.int .i64 c)
set_option maxHeartbeats 1000000 in
theorem code_E (c : Int) (w : World) (hg : ErrTab w) : Calls Tryz.prog 14 #[errnoV c] w fun e w' => e = .returned (.int .i64 c) ∧ Below w.heap.size w w' := by
  have hg1 := Lib.hid (hg.alloc (.cells #[.int .i64 0] 66));clear hg;unfold errnoV
  go_enter Tryz.func14, Tryz.ntmps14
  go_wp2_with (go_at_call 33; refine (as_EE c ⟨w.heap.size, 0, none⟩ (.int .i64 0) _ hg1.out (by simp) (by simp)).mono ?_; rintro e w1 ⟨rfl, hc1, hb1⟩; refine Hid.out ?_)
  refine Lib.hid ?_;have HB := Lib.hid (((Below.refl w.heap.size w).alloc (Nat.le_refl _) _).trans hb1);clear hb1
  go_wp2
  go_ret
  exact ⟨rfl, HB.out⟩
end Go.Proofs.YtchdlgdmomcemaaGreatDoor.Err
end
section
namespace Go.Proofs.YtchdlgdmomcemaaGreatDoor.Man
open Go Go.RowKit Go.Lib RowG Edg Csr Shd
def MkOut (v n E : Int) (xs : List (Int × Int)) (p x : Value) (u : World) : Prop :=
  (¬ (1 ≤ v ∧ v ≤ 1099511627776) ∧ p = .pointer none ∧ x = erV 13) ∨
  ((1 ≤ v ∧ v ≤ 1099511627776) ∧ ¬ Edg.Good n xs ∧ p = .pointer none ∧ x = Edg.faultV (wrongP n xs) 10) ∨
  ((1 ≤ v ∧ v ≤ 1099511627776) ∧ Edg.Good n xs ∧ (E < 1 ∨ 64 < cutM n.toNat E.toNat) ∧ p = .pointer none ∧ x = erV (if E < 1 then 1 else 6)) ∨
  ((1 ≤ v ∧ v ≤ 1099511627776) ∧ Edg.Good n xs ∧ (1 ≤ E ∧ cutM n.toNat E.toNat ≤ 64) ∧ x = .nilIface ∧ ∃ g A c B d, p = .pointer (some ⟨g, 0, none⟩) ∧ ∀ ys, NormOf xs ys → VAt (manF v n.toNat E.toNat ys) (Blk.cutK (allF ys n.toNat E.toNat)) A c B d g u)
theorem make_any (v n E : Int) (A : Option Addr) (ca : Nat) (xs : List (Int × Int)) (w : World) (hA : EIn w A xs) (hn : n ≤ 300) (hx : xs.length ≤ 200) (hE2 : E ≤ 9223372036854775807) (hT : Sha.Tabs w) :
    Calls Tryz.prog 20 #[.int .i64 v, .int .i64 n, .int .i64 E, .slice A xs.length ca] w fun e w' => (∃ p x, e = .returned (.tuple #[p, x]) ∧ MkOut v n E xs p x w') ∧ Below w.heap.size w w' := by
  by_cases hv : 1 ≤ v ∧ v ≤ 1099511627776
  · by_cases hg : Edg.Good n xs
    · obtain ⟨N, rfl⟩ := Int.eq_ofNat_of_zero_le hg.lo
      by_cases hE : E < 1 ∨ 64 < cutM N E.toNat
      · exact (make_unsplit v N E A ca xs w hv hA hg hE2 hE).mono fun e w' ⟨he, hb⟩ => ⟨⟨_, _, he, .inr (.inr (.inl ⟨hv, hg, by rw [Int.toNat_natCast]; exact hE, rfl, rfl⟩))⟩, hb⟩
      · obtain ⟨D, rfl⟩ := Int.eq_ofNat_of_zero_le (show 0 ≤ E by omega);rw [Int.toNat_natCast] at hE;obtain ⟨ys, hy⟩ := norm_ex xs;refine (make_yes v N D A ca xs ys w hv hA hg hy (by omega) hx (by omega) (by omega) (by omega) hT).mono fun e w' ⟨⟨g, A', c, B, d, he, hV⟩, hb⟩ => ⟨⟨_, _, he, .inr (.inr (.inr ⟨hv, hg, ⟨by omega, by rw [Int.toNat_natCast, Int.toNat_natCast]; omega⟩, rfl, g, A', c, B, d, rfl, fun zs hz => ?_⟩))⟩, hb⟩;rw [Int.toNat_natCast, Int.toNat_natCast, hz.unique hy];exact hV
    · exact (make_none v n E A ca xs w hv hA hg).mono fun e w' ⟨he, hb⟩ => ⟨⟨_, _, he, .inr (.inl ⟨hv, hg, rfl, rfl⟩)⟩, hb⟩
  · exact (make_version v n E (.slice A xs.length ca) w hv).mono fun e w' ⟨he, hb⟩ => ⟨⟨_, _, he, .inl ⟨hv, rfl, rfl⟩⟩, hb⟩
end Go.Proofs.YtchdlgdmomcemaaGreatDoor.Man
end
section
namespace Go.Proofs.YtchdlgdmomcemaaGreatDoor.Blk
open Go Go.RowKit Go.Lib RowG Num
theorem But.rin {B : Nat} {u u' : World} {A : Option Addr} {ts : List ByteArray} (hb : But (fun b => b < B) u u') (h : RIn txR u A ts) (hA : ∀ b o, A = some ⟨b, o, none⟩ → B ≤ b) : RIn txR u' A ts := fun i a hi => by
  obtain ⟨b, o, e, hlt, h1⟩ := h i a hi;exact ⟨b, o, e, Nat.lt_of_lt_of_le hlt hb.size, fun j x hx => (hb.cell hlt (by have := hA b o e; omega)).trans (h1 j x hx)⟩
set_option maxRecDepth 100000 in
set_option maxHeartbeats 4000000 in
theorem of1_any (i : Int) (g : Nat) (A : Option Addr) (c : Nat) (ts : List ByteArray) (w : World) (hS : w.cell? ⟨g, 0, none⟩ = some (.slice A ts.length c)) (hA : RIn txR w A ts) (hl : ts.length ≤ maxLen) (hsm : ∀ s ∈ ts, s.size ≤ 281474976710656) :
    Calls Tryz.prog 24 #[.int .i64 i, .pointer (some ⟨g, 0, none⟩)] w fun e w' => Tells ts i e ∧ Below w.heap.size w w' := by
  unfold maxLen at hl;refine Kn.Z.cl Tryz.func24 rfl Tryz.ntmps24 rfl (.c 0 rfl (.c 1 rfl .n)) ?_;refine Kn.Z.f fun K1 hK1=>?_;refine Kn.Z.u (.a .c (.a .c .n)) ?_;refine Kn.Z.e hK1 ?_;clear hK1 K1
  by_cases h1 : i < 0
  · refine Kn.Z.q fun K2 hK2=>?_;refine Kn.Z.f fun K3 hK3=>?_;refine Kn.Z.u (.m (.t rfl) .n) ?_;refine Kn.Z.s .o (.bin (.t rfl) .c) fun Ko Kp=>?_;go_simp;(try go_bits);refine Kp _ _ ?_;clear Kp Ko;refine Kn.Z.u (.m (.t rfl) (.k (.s rfl rfl rfl) (.k (.s rfl rfl rfl) (.k (.s rfl rfl rfl) (.k (.s rfl rfl rfl) (.e .o (.pick (.t rfl) .c) .n)))))) ?_;refine Kn.Z.e hK3 ?_;clear hK3 K3;refine Kn.Z.y (.t rfl) ?_;refine Kn.Z.f fun K4 hK4=>?_;refine Kn.Z.s .o (.makeInterface .c) fun Ko Kp=>?_;go_simp;(try go_bits);refine Kp _ _ ?_;clear Kp Ko;refine Kn.Z.u (.a .c (.a (.t rfl) .n)) ?_;refine Kn.Z.e hK4 ?_;clear hK4 K4;refine Kn.Z.t (.c 4 rfl (.c 3 rfl (.c 0 rfl (.c 1 rfl .n)))) ?_;intro fb fg;refine wp_ret ?_;refine Kn.then_ret ?_;exact Kn.ret2 fg rfl rfl rfl ⟨.inl ⟨.inl h1, rfl⟩, Below.refl _ _⟩
  by_cases h2 : (ts.length : Int) ≤ i
  · refine Kn.Z.q fun K2 hK2=>?_;refine Kn.Z.f fun K3 hK3=>?_;refine Kn.Z.u (.m (.t rfl) .n) ?_;refine Kn.Z.s .o (.bin (.t rfl) .c) fun Ko Kp=>?_;go_simp;(try go_bits);refine Kp _ _ ?_;clear Kp Ko;refine Kn.Z.u (.m (.t rfl) (.e (.s rfl rfl rfl) (.move (.t rfl)) .n)) ?_;refine Kn.Z.s (.s rfl rfl rfl) (.load (.t rfl)) fun Ko Kp=>?_;go_simp;(try go_bits);refine Kp _ _ ?_;clear Kp Ko;refine Kn.Z.s (.s rfl rfl rfl) (.len (.t rfl)) fun Ko Kp=>?_;go_simp;(try go_bits);refine Kp _ _ ?_;clear Kp Ko;refine Kn.Z.s (.s rfl rfl rfl) (.bin (.t rfl) (.t rfl)) fun Ko Kp=>?_;go_simp;(try go_bits);refine Kp _ _ ?_;clear Kp Ko;refine Kn.Z.u (.e .o (.pick (.t rfl) (.t rfl)) .n) ?_;refine Kn.Z.e hK3 ?_;clear hK3 K3;refine Kn.Z.y (.t rfl) ?_;refine Kn.Z.f fun K4 hK4=>?_;refine Kn.Z.s .o (.makeInterface .c) fun Ko Kp=>?_;go_simp;(try go_bits);refine Kp _ _ ?_;clear Kp Ko;refine Kn.Z.u (.a .c (.a (.t rfl) .n)) ?_;refine Kn.Z.e hK4 ?_;clear hK4 K4;refine Kn.Z.t (.c 4 rfl (.c 3 rfl (.c 0 rfl (.c 1 rfl .n)))) ?_;intro fb fg;refine wp_ret ?_;refine Kn.then_ret ?_;exact Kn.ret2 fg rfl rfl rfl ⟨.inl ⟨.inr h2, rfl⟩, Below.refl _ _⟩
  obtain ⟨k, rfl⟩ := Int.eq_ofNat_of_zero_le (show 0 ≤ i by omega);have hk : k < ts.length := by omega
  obtain ⟨s, hs⟩ : ∃ s, ts[k]? = some s := ⟨ts[k], List.getElem?_eq_getElem hk⟩;obtain ⟨ba, oa, rfl, -, cs⟩ := tx_cell hA hs;have hcl := clone_any s w (hsm s (List.mem_of_getElem? hs));refine Kn.Z.q fun K2 hK2=>?_;refine Kn.Z.f fun K3 hK3=>?_;refine Kn.Z.u (.m (.t rfl) .n) ?_;refine Kn.Z.s .o (.bin (.t rfl) .c) fun Ko Kp=>?_;go_simp;(try go_bits);refine Kp _ _ ?_;clear Kp Ko;refine Kn.Z.u (.m (.t rfl) (.e (.s rfl rfl rfl) (.move (.t rfl)) .n)) ?_;refine Kn.Z.s (.s rfl rfl rfl) (.load (.t rfl)) fun Ko Kp=>?_;go_simp;(try go_bits);refine Kp _ _ ?_;clear Kp Ko;refine Kn.Z.s (.s rfl rfl rfl) (.len (.t rfl)) fun Ko Kp=>?_;go_simp;(try go_bits);refine Kp _ _ ?_;clear Kp Ko;refine Kn.Z.s (.s rfl rfl rfl) (.bin (.t rfl) (.t rfl)) fun Ko Kp=>?_;go_simp;(try go_bits);refine Kp _ _ ?_;clear Kp Ko;refine Kn.Z.u (.e .o (.pick (.t rfl) (.t rfl)) .n) ?_;refine Kn.Z.e hK3 ?_;clear hK3 K3;refine Kn.Z.no (.t rfl) ?_;refine Kn.Z.j hK2 ?_;clear hK2 K2;refine Kn.Z.f fun K4 hK4=>?_;refine Kn.Z.s .o (.load (.t rfl)) fun Ko Kp=>?_;go_simp;(try go_bits);refine Kp _ _ ?_;clear Kp Ko;refine Kn.Z.u (.m (.t rfl) .n) ?_;refine Kn.Z.s .o (.indexAddr (.t rfl) (.t rfl)) fun Ko Kp=>?_;go_simp;(try go_bits);refine Kp _ _ ?_;clear Kp Ko;refine Kn.Z.s .o (.load (.t rfl)) fun Ko Kp=>?_;go_simp;(try go_bits);refine Kp _ _ ?_;clear Kp Ko;refine Kn.Z.c .o (.call (.c (.t rfl) .n)) Tryz.call23 (hcl) fun e w1 hp=>?_;obtain ⟨rfl, hb1⟩ := hp;refine ⟨_,rfl,?_⟩;refine Kn.Z.u (.a (.t rfl) (.a .c .n)) ?_;refine Kn.Z.e hK4 ?_;clear hK4 K4;refine Kn.Z.t (.c 4 rfl (.c 3 rfl .n)) ?_;intro fb fg;refine wp_ret ?_;exact Kn.ret2 fg rfl rfl rfl ⟨.inr ⟨k, s, rfl, hs, rfl⟩, hb1⟩
set_option maxRecDepth 100000 in
set_option maxHeartbeats 4000000 in
theorem of_any (A : Option Addr) (c : Nat) (ts : List ByteArray) (w : World) (hl : ts.length ≤ 1000) (hsm : ∀ s ∈ ts, s.size ≤ 281474976710656) (hA : RIn txR w A ts) :
    Calls Tryz.prog 8 #[.slice A ts.length c] w fun e v => ∃ x, e = .returned x ∧ IsSrc x ts w.heap.size v ∧ Below w.heap.size w v := by
  refine Kn.Z.cl Tryz.func8 rfl Tryz.ntmps8 rfl (.c 0 rfl .n) ?_;refine Kn.Z.f fun K1 hK1=>?_;refine Kn.Z.u (.a .c .n) ?_;refine Kn.Z.e hK1 ?_;clear hK1 K1;obtain ⟨N, hN⟩ : ∃ N, ts.length = N := ⟨_, rfl⟩;intro fb fg;rw [hN] at fg;obtain ⟨w1, hmk, hO1, hb1⟩ := makeG (P := Tryz.prog) txR elemTx8 (⟨#[]⟩ : ByteArray) (by rfl) w N (by show N * 1 ≤ _; omega) (by decide) (by omega);have hH1 := hold_of_own hO1;have hgl := hH1.1;clear hO1
  revert fb
  refine Kn.Z.f fun K2 hK2=>?_;refine Kn.Z.u (.m (.t rfl) .n) ?_;refine Kn.Z.s .o (.len (.t rfl)) fun Ko Kp=>?_;go_simp;(try go_bits);refine Kp _ _ ?_;clear Kp Ko;refine Kn.Z.k .o (.makeSlice (.t rfl) (.t rfl)) hmk ?_;refine Kn.Z.s .o .alloc fun Ko Kp=>?_;go_simp;(try go_bits);refine Kp _ _ ?_;clear Kp Ko;refine Kn.Z.su .o (.store (.t rfl) (.t rfl)) fun Ko Kp=>?_;go_simp;(try go_bits);refine Kp _ ?_;clear Kp Ko;refine Kn.Z.e hK2 ?_;clear hK2 K2;refine Kn.Z.g (fun u => Hold txR u w.heap.size (List.replicate N ⟨#[]⟩) ∧ St.St u w1.heap.size 35 #[(.slice (some ⟨w.heap.size, 0, none⟩) N N)] ∧ Below w.heap.size w u) ⟨hH1.on ((Below.refl _ _).alloc (Nat.le_refl _) _), St.St.new w1 _ _, hb1.alloc hb1.size _⟩ fun w2 hu => ?_;clear hmk hH1 hb1;obtain ⟨hH2, hS2, hb2⟩ := hu;obtain ⟨gv, hgv⟩ : ∃ q, w1.heap.size = q := ⟨_, rfl⟩;intro fb fg;rw [hgv] at fg hS2 hgl;clear hgv
  revert fb
  refine Kn.Z.q fun K3 hK3=>?_;refine Kn.Z.f fun K4 hK4=>?_;refine Kn.Z.u (.m (.t rfl) .n) ?_;refine Kn.Z.s .o (.len (.t rfl)) fun Ko Kp=>?_;go_simp;(try go_bits);refine Kp _ _ ?_;clear Kp Ko;refine Kn.Z.u (.m .c .n) ?_;refine Kn.Z.e hK4 ?_;clear hK4 K4;refine Kn.Z.b ?_;intro fa fh;refine Kn.loop (fun m fr u => ∃ (i : Nat) (ls : List ByteArray), Kn.Kn 23 [(11, .int .i64 (i : Int)), (10, .int .i64 (N : Int)), (9, .slice A N c), (3, .pointer (some ⟨gv, 0, none⟩))] fr ∧ i + m = N ∧ ls.length = N ∧ Hid (∀ j, j < i → ls[j]? = ts[j]?) ∧ Hid (Hold txR u w.heap.size ls) ∧ Hid (St.St u gv 35 #[(.slice (some ⟨w.heap.size, 0, none⟩) N N)]) ∧ Hid (Below w.heap.size w u)) N ⟨0, List.replicate N ⟨#[]⟩, fh.cut (.u 11 rfl rfl (.c 10 rfl (.c 9 rfl (.c 3 rfl .n)))), by omega, by simp, Lib.hid (fun j hj => by omega), hH2, hS2, hb2⟩ ?_;clear fh fa;intro m5 fb u hI Kl5 hKl5;obtain ⟨i, ls, fg, hi, hll, HE, HH, HSv, HB⟩ := hI
  by_cases hlt : i < N
  · obtain ⟨s, hs⟩ : ∃ s, ts[i]? = some s := ⟨ts[i], List.getElem?_eq_getElem (by omega)⟩;obtain ⟨ba, oa, rfl, -, csx⟩ := tx_cell (hA.on HB.out) hs;have hcl := fun v => clone_any s v (hsm s (List.mem_of_getElem? hs));obtain ⟨ln, hln⟩ : ∃ l, ls.set i s = l := ⟨_, rfl⟩
    revert fb
    refine Kn.Z.f fun K6 hK6=>?_;refine Kn.Z.s .o (.bin (.t rfl) (.t rfl)) fun Ko Kp=>?_;go_simp;(try go_bits);refine Kp _ _ ?_;clear Kp Ko;refine Kn.Z.e hK6 ?_;clear hK6 K6;refine Kn.Z.q fun K7 hK7=>?_;refine Kn.Z.y (.t rfl) ?_;refine Kn.Z.j hK7 ?_;clear hK7 K7;refine Kn.Z.t (.c 11 rfl (.c 10 rfl (.c 9 rfl (.c 3 rfl .n)))) ?_;refine Kn.Z.q fun K8 hK8=>?_;refine Kn.Z.b ?_;refine Kn.Z.f fun K9 hK9=>?_;refine Kn.Z.u (.m (.t rfl) .n) ?_;refine Kn.Z.s .o (.indexAddr (.t rfl) (.t rfl)) fun Ko Kp=>?_;go_simp;(try go_bits);refine Kp _ _ ?_;clear Kp Ko;refine Kn.Z.s .o (.load (.t rfl)) fun Ko Kp=>?_;go_simp;(try go_bits);refine Kp _ _ ?_;clear Kp Ko;refine Kn.Z.u (.a (.t rfl) (.a (.t rfl) .n)) ?_;refine Kn.Z.e hK9 ?_;clear hK9 K9;refine Kn.Z.t (.c 5 rfl (.c 4 rfl (.c 11 rfl (.c 10 rfl (.c 9 rfl (.c 3 rfl .n)))))) ?_;clear csx;intro fb fg;refine Kn.anyU (fun u => (∃ l2, l2.length = N ∧ l2.set i s = ln ∧ Hold txR u w.heap.size l2) ∧ St.St u gv 35 #[(.slice (some ⟨w.heap.size, 0, none⟩) N N)] ∧ Below w.heap.size w u) (fun u u' => Hold txR u w.heap.size ln → Hold txR u' w.heap.size ln) (Kn.TL [Kn.Is ((.slice (some ⟨w.heap.size, 0, none⟩) N N)), Kn.Is (.int .i64 (i : Int)), Kn.Is (.string s), Kn.Is (.string s), Kn.Is (.pointer (some ⟨w.heap.size, i, none⟩)), (fun _ u => Hold txR u w.heap.size ln)]) (by kernel_rfl) fg (by kernel_rfl) (by kernel_rfl) rfl (Kn.Keeps.all (.cons Kn.Is.keep (.cons Kn.Is.keep (.cons Kn.Is.keep (.cons Kn.Is.keep (.cons Kn.Is.keep (.cons (fun _ _ _ hG h => hG h) .nil))))))) ⟨⟨ls, hll, hln, HH.out⟩, HSv.out, HB.out.drew⟩ ⟨?_, ?_, ?_, ?_, ?_, ?_, trivial⟩ ?_
    · refine Kn.ok fun fa u L fh hS hH => ?_;have qk := hS.2.1.cell 0 rfl;refine Kn.aop fh .none (Kn.ex_load fh (.t rfl)) fun Ko hKo => ?_;go_simp;(try go_bits);exact hKo _ _ rfl hS (fun h => h)
    · refine Kn.ok fun fa u L fh hS hH => ?_;exact Kn.apure fh .none (Kn.ex_move fh (.t rfl)) rfl hS (fun h => h)
    · refine Kn.ok fun fa u L fh hS hH => ?_;exact Kn.apure fh .none (Kn.ex_move fh (.t rfl)) rfl hS (fun h => h)
    · refine Kn.ok fun fa u L fh hS hH => ?_;replace fh:=fh.more (hH 2 18 rfl rfl);obtain ⟨⟨l2, k1, k2, k3⟩, k4, k5⟩ := hS;refine Kn.acall fh .none (Kn.ex_call fh (.cons (.t rfl) .nil)) Tryz.call23 (hcl u) fun e u3 hp => ?_;obtain ⟨rfl, hb3⟩ := hp;exact ⟨_, rfl, rfl, ⟨⟨l2, k1, k2, k3.on hb3⟩, k4.on hb3, k5.trans (hb3.mono k5.size)⟩, fun h => h.on hb3⟩
    · refine Kn.ok fun fa u L fh hS hH => ?_;replace fh:=fh.more (hH 0 16 rfl rfl);replace fh:=fh.more (hH 1 17 rfl rfl);refine Kn.aop fh .none (Kn.ex_indexAddr fh (.t rfl) (.t rfl)) fun Ko hKo => ?_;go_simp;(try go_bits);exact hKo _ _ (by first | rfl | (show _ = _; congr 3; omega)) hS (fun h => h)
    · refine Kn.ok fun fa u L fh hS hH => ?_;replace fh:=fh.more (hH 4 20 rfl rfl);replace fh:=fh.more (hH 3 19 rfl rfl);obtain ⟨⟨l2, k1, k2, k3⟩, k4, k5⟩ := hS;obtain ⟨u3, hst, hH3, hr1, hr2, hr3⟩ := k3.store1 (P := Tryz.prog) (e := 9) i (by omega) s (.string s) rfl rfl (fun w p c h1 h2 => store_tx8 s w p c h1 h2);refine Kn.aopU fh rfl .none (Kn.ex_store fh (.t rfl) (.t rfl)) fun Ko hKo => ?_;refine Kn.satU_run8 hst ?_;exact hKo _ (k2 ▸ hH3) ⟨⟨_, by rw [List.length_set]; exact k1, by rw [List.set_set]; exact k2, hH3⟩, (hr1 gv (by omega)).trans k4, k5.trans (hr3 _ (Nat.le_refl _))⟩ (fun _ => k2 ▸ hH3)
    intro fa u4 fh hS hT hU;clear fg fb;clear hT;refine Kn.block_normal ?_;refine hK8 _ _ ?_;clear hK8 K8
    revert fa
    refine Kn.Z.t (.c 11 rfl (.c 10 rfl (.c 9 rfl (.c 3 rfl .n)))) ?_;obtain ⟨v5, hH4⟩ := hU 5 _ rfl rfl;replace hH4 : Hold txR u4 w.heap.size ln := hH4;have hSv4 := hS.2.1;have hB4 := hS.2.2;clear hS hU;refine Kn.Z.r ?_;refine Kn.Z.s .o (.bin (.t rfl) .c) fun Ko Kp=>?_;go_simp;(try go_bits);refine Kp _ _ ?_;clear Kp Ko;refine Kn.Z.u (.m (.t rfl) .n) ?_;intro fa fh;refine wpList_nil ?_;replace fh := fh.cut (.c 11 rfl (.c 10 rfl (.c 9 rfl (.c 3 rfl .n))))
    exact hKl5 (m5 - 1) _ _ (by omega) ⟨i + 1, ln, fh.cut (.u 11 rfl (by go_num) (.c 10 rfl (.c 9 rfl (.c 3 rfl .n)))), by omega, by rw [← hln, List.length_set]; exact hll, Lib.hid (fun j hj => by
      rw [← hln]
      by_cases e : i = j
      · subst e; rw [List.getElem?_set_self (by omega), hs]
      · rw [List.getElem?_set_ne e]; exact HE.out j (by omega)), hH4, hSv4, hB4⟩
  have hin : i = N := by omega
  subst hin
  have hls : ls = ts := by
    apply List.ext_getElem?
    intro j
    by_cases hj : j < ls.length
    · exact HE.out j (by omega)
    · rw [List.getElem?_eq_none (by omega), List.getElem?_eq_none (by omega)]
  subst hls;have hen : ∀ args w, (callFunc 24 args).run Tryz.prog w = .ok (.enter 24 args) w := Go.Proofs.enters_of Tryz.func24 (by kernel_rfl) rfl
  revert fb
  refine Kn.Z.f fun K6 hK6=>?_;refine Kn.Z.s .o (.bin (.t rfl) (.t rfl)) fun Ko Kp=>?_;go_simp;(try go_bits);refine Kp _ _ ?_;clear Kp Ko;refine Kn.Z.e hK6 ?_;clear hK6 K6;refine Kn.Z.q fun K7 hK7=>?_;refine Kn.Z.no (.t rfl) ?_;refine Kn.Z.t (.c 11 rfl (.c 10 rfl (.c 9 rfl (.c 3 rfl .n)))) ?_;intro fa fh;refine wp_exit ?_;refine Kn.then_exit ?_;clear hK7 K7;refine Kn.then_exit ?_;clear hKl5 Kl5;refine Kn.block_exit ?_;refine hK3 _ _ ?_;clear hK3 K3
  revert fa
  refine Kn.Z.f fun K8 hK8=>?_;refine Kn.Z.u (.e .o (fun _ h=>Kn.ex_makeFunc h .n (.c (.t rfl) .n)) (.a (.t rfl) .n)) ?_;refine Kn.Z.e hK8 ?_;clear hK8 K8;intro fa fh;refine wp_ret ?_;refine Kn.ret1 fh rfl rfl ⟨_, rfl, ⟨24, [Value.pointer (some ⟨gv, 0, none⟩)], rfl, hen, fun u' hu j => ?_⟩, HB.out⟩;have hlt2 := HSv.out.lt;have hc : u'.cell? ⟨gv, 0, none⟩ = some (.slice (some ⟨w.heap.size, 0, none⟩) ls.length i) := by rw [hN]; exact (hu.cell hlt2 (by omega)).trans (HSv.out.cell 0 rfl)
  have hR : RIn txR u' (some ⟨w.heap.size, 0, none⟩) ls := But.rin hu HH.out.rin (fun b o e => by cases e; exact Nat.le_refl _);exact of1_any j gv _ i ls u' hc hR (by unfold maxLen; omega) hsm
end Go.Proofs.YtchdlgdmomcemaaGreatDoor.Blk
end
section
namespace Go.Proofs.YtchdlgdmomcemaaGreatDoor.Prb
open Go Go.RowKit Go.Lib RowG Edg Csr Num Shd Man
def Laid12 (u : World) : Prop := Sha.Tabs u
theorem Laid12.on (u v : World) (h : Laid12 u) (hb : Below u.heap.size u v) : Laid12 v := Sha.Tabs.below h hb (Sha.Tabs.size h)
def LaidE (u : World) : Prop := Err.ErrTab u ∧ Sha.Tabs u
theorem code_12 (c : Int) (u : World) (h : LaidE u) : Calls Tryz.prog 14 #[erV c] u fun e v => e = .returned (.int .i64 c) ∧ Below u.heap.size u v := Err.code_E c u h.1
theorem er_12 (c : Int) : ErP LaidE (erV c) c := ⟨⟨_, _, rfl⟩, fun u hu => code_12 c u hu⟩
def SrcI : SrcT := fun bl x D u => (∃ f cs, x = .func (.func f) #[] (cs : List Value).toArray ∧ (∀ (args : Array Value) (w : World), (callFunc f args).run Tryz.prog w = .ok (.enter f args) w) ∧ ∀ u', (∀ b, D b → u'.heap[b]? = u.heap[b]?) → u.heap.size ≤ u'.heap.size → ∀ i : Int, Calls Tryz.prog f ([Value.int .i64 i] ++ cs).toArray u' fun e w' => Blk.Tells bl i e ∧ Below u'.heap.size u' w') ∧ ∀ b, D b → b < u.heap.size
theorem srcI_on (bl : List ByteArray) (f : Value) (D : Nat → Prop) (u v : World) (h : SrcI bl f D u) (hD : ∀ b, D b → v.heap[b]? = u.heap[b]?) (hs : u.heap.size ≤ v.heap.size) : SrcI bl f D v := by
  obtain ⟨⟨g, cs, e1, e2, e3⟩, h2⟩ := h;exact ⟨⟨g, cs, e1, e2, fun u' hu' hs' => e3 u' (fun b hb => (hu' b hb).trans (hD b hb)) (Nat.le_trans hs hs')⟩, fun b hb => Nat.lt_of_lt_of_le (h2 b hb) hs⟩
theorem srcI_of {x : Value} {bl : List ByteArray} {B : Nat} {u : World} (h : Blk.IsSrc x bl B u) : SrcI bl x (fun b => B ≤ b ∧ b < u.heap.size) u := by
  obtain ⟨f, cs, e1, e2, e3⟩ := h;exact ⟨⟨f, cs, e1, e2, fun u' hu' hs => e3 u' ⟨hs, fun b hb hn => hu' b ⟨by omega, hb⟩⟩⟩, fun b hb => hb.2⟩
theorem of_12 (N E : Nat) (ys : List (Int × Int)) (A : Option Addr) (c : Nat) (u : World) (hV : Ver N E ys) (hA : RIn txR u A (Blk.cutK (allF ys N E))) : Calls Tryz.prog 8 #[.slice A (Blk.cutK (allF ys N E)).length c] u fun e v => (∃ f D, e = .returned f ∧ SrcI (Blk.cutK (allF ys N E)) f D v ∧ ∀ b, D b → u.heap.size ≤ b) ∧ Below u.heap.size u v := by
  have h1 : (allF ys N E).size ≤ 12064 := parts_small (by have := hV.n; omega) hV.y hV.c;refine (Blk.of_any A c _ u (by rw [Blk.cutK_len]; unfold Blk.cntK; omega) (fun s hs => by have := blk_small _ s hs; omega) hA).mono fun e v ⟨x, he, hx, hb⟩ => ⟨⟨x, _, he, srcI_of hx, fun b hb2 => hb2.1⟩, hb⟩
theorem ver_of {N E : Nat} {xs ys : List (Int × Int)} (h : Played (N : Int) (E : Int) xs) (hn : NormOf xs ys) : Ver N E ys := by
  obtain ⟨h1, h2, h3, h4, h5⟩ := h;rw [Int.toNat_natCast, Int.toNat_natCast] at h5;exact ⟨by omega, h5, by omega, by have := hn.len; omega, hn.good h3, hn.srt⟩
theorem make_yes12 (N E : Nat) (A : Option Addr) (ca : Nat) (xs ys : List (Int × Int)) (u : World) (hA : EIn u A xs) (hT : Laid12 u) (hE : (E : Int) ≤ 9223372036854775807) (h : Played (N : Int) (E : Int) xs) (hn : NormOf xs ys) : Calls Tryz.prog 20 #[.int .i64 1, .int .i64 (N : Int), .int .i64 (E : Int), .slice A xs.length ca] u fun e v => (∃ g A' c B d, e = .returned (.tuple #[.pointer (some ⟨g, 0, none⟩), .nilIface]) ∧ VAt (manF 1 N E ys) (Blk.cutK (allF ys N E)) A' c B d g v) ∧ Below u.heap.size u v := by
  obtain ⟨h1, h2, h3, h4, h5⟩ := h;refine (make_any 1 (N : Int) (E : Int) A ca xs u hA (by omega) h2 hE hT).mono fun e v ⟨⟨p, x, he, hM⟩, hb⟩ => ⟨?_, hb⟩;rcases hM with ⟨q, -⟩ | ⟨-, q, -⟩ | ⟨-, -, q, -⟩ | ⟨-, -, -, rfl, g, A', c, B, d, rfl, hV⟩
  · exact absurd ⟨by decide, by decide⟩ q
  · exact absurd h3 q
  · omega
  · have := hV ys hn;rw [Int.toNat_natCast, Int.toNat_natCast] at this;exact ⟨g, A', c, B, d, he, this⟩
theorem make_no12 (n E : Int) (A : Option Addr) (ca : Nat) (xs : List (Int × Int)) (u : World) (hA : EIn u A xs) (hT : Laid12 u) (hn : n ≤ 100) (hx : xs.length ≤ 200) (hE : E ≤ 9223372036854775807) (h : ¬ Played n E xs) : Calls Tryz.prog 20 #[.int .i64 1, .int .i64 n, .int .i64 E, .slice A xs.length ca] u fun e v => (∃ t y, e = .returned (.tuple #[.pointer none, .iface t y])) ∧ Below u.heap.size u v := by
  refine (make_any 1 n E A ca xs u hA (by omega) hx hE hT).mono fun e v ⟨⟨p, x, he, hM⟩, hb⟩ => ⟨?_, hb⟩;rcases hM with ⟨q, -⟩ | ⟨-, q, rfl, rfl⟩ | ⟨-, -, -, rfl, rfl⟩ | ⟨-, q1, q2, -⟩
  · exact absurd ⟨by decide, by decide⟩ q
  · exact ⟨_, _, he⟩
  · exact ⟨_, _, he⟩
  · exact absurd ⟨hn, hx, q1, q2⟩ h
set_option maxRecDepth 100000 in
set_option maxHeartbeats 1000000 in
theorem made_no (n E : Int) (A : Option Addr) (ca : Nat) (xs : List (Int × Int)) (w : World) (hA : EIn w A xs) (hT : Laid12 w) (hx : xs.length ≤ maxLen) (hE : E ≤ 9223372036854775807) (hno : ¬ Played n E xs) :
    Calls Tryz.prog 6 #[.int .i64 n, .slice A xs.length ca, .int .i64 E] w fun e w' => e = .returned (.pointer none) ∧ Below w.heap.size w w' := by
  unfold maxLen at hx;refine Kn.Z.cl Tryz.func6 rfl Tryz.ntmps6 rfl (.c 0 rfl (.c 1 rfl (.c 2 rfl .n))) ?_;refine Kn.Z.f fun K1 hK1=>?_;refine Kn.Z.u (.a .c .n) ?_;refine Kn.Z.e hK1 ?_;clear hK1 K1
  by_cases h1 : 200 < xs.length
  · have h2 : (200 : Int) < (xs.length : Int) := by omega
    refine Kn.Z.q fun K2 hK2=>?_;refine Kn.Z.f fun K3 hK3=>?_;refine Kn.Z.u (.m (.t rfl) .n) ?_;refine Kn.Z.s .o (.len (.t rfl)) fun Ko Kp=>?_;go_simp;(try go_bits);refine Kp _ _ ?_;clear Kp Ko;refine Kn.Z.s .o (.bin (.t rfl) .c) fun Ko Kp=>?_;go_simp;(try go_bits);refine Kp _ _ ?_;clear Kp Ko;refine Kn.Z.u (.m (.t rfl) (.k (.s rfl rfl rfl) (.k (.s rfl rfl rfl) (.e .o (.pick (.t rfl) .c) .n)))) ?_;refine Kn.Z.e hK3 ?_;clear hK3 K3;refine Kn.Z.y (.t rfl) ?_;refine Kn.Z.f fun K4 hK4=>?_;refine Kn.Z.u (.a .c .n) ?_;refine Kn.Z.e hK4 ?_;clear hK4 K4;intro fb fg;refine wp_ret ?_;refine Kn.then_ret ?_;exact Kn.ret1 fg rfl rfl ⟨rfl, Below.refl _ _⟩
  · have h2 : ¬ (200 : Int) < (xs.length : Int) := by omega
    by_cases h3 : 100 < n
    · refine Kn.Z.q fun K2 hK2=>?_;refine Kn.Z.f fun K3 hK3=>?_;refine Kn.Z.u (.m (.t rfl) .n) ?_;refine Kn.Z.s .o (.len (.t rfl)) fun Ko Kp=>?_;go_simp;(try go_bits);refine Kp _ _ ?_;clear Kp Ko;refine Kn.Z.s .o (.bin (.t rfl) .c) fun Ko Kp=>?_;go_simp;(try go_bits);refine Kp _ _ ?_;clear Kp Ko;refine Kn.Z.u (.m (.t rfl) (.e (.s rfl rfl rfl) (.move (.t rfl)) .n)) ?_;refine Kn.Z.s (.s rfl rfl rfl) (.bin (.t rfl) .c) fun Ko Kp=>?_;go_simp;(try go_bits);refine Kp _ _ ?_;clear Kp Ko;refine Kn.Z.u (.e .o (.pick (.t rfl) (.t rfl)) .n) ?_;refine Kn.Z.e hK3 ?_;clear hK3 K3;refine Kn.Z.y (.t rfl) ?_;refine Kn.Z.f fun K4 hK4=>?_;refine Kn.Z.u (.a .c .n) ?_;refine Kn.Z.e hK4 ?_;clear hK4 K4;intro fb fg;refine wp_ret ?_;refine Kn.then_ret ?_;exact Kn.ret1 fg rfl rfl ⟨rfl, Below.refl _ _⟩
    · have hmk := make_no12 n E A ca xs w hA hT (by omega) (by omega) hE hno;refine Kn.Z.q fun K2 hK2=>?_;refine Kn.Z.f fun K3 hK3=>?_;refine Kn.Z.u (.m (.t rfl) .n) ?_;refine Kn.Z.s .o (.len (.t rfl)) fun Ko Kp=>?_;go_simp;(try go_bits);refine Kp _ _ ?_;clear Kp Ko;refine Kn.Z.s .o (.bin (.t rfl) .c) fun Ko Kp=>?_;go_simp;(try go_bits);refine Kp _ _ ?_;clear Kp Ko;refine Kn.Z.u (.m (.t rfl) (.e (.s rfl rfl rfl) (.move (.t rfl)) .n)) ?_;refine Kn.Z.s (.s rfl rfl rfl) (.bin (.t rfl) .c) fun Ko Kp=>?_;go_simp;(try go_bits);refine Kp _ _ ?_;clear Kp Ko;refine Kn.Z.u (.e .o (.pick (.t rfl) (.t rfl)) .n) ?_;refine Kn.Z.e hK3 ?_;clear hK3 K3;refine Kn.Z.no (.t rfl) ?_;refine Kn.Z.j hK2 ?_;clear hK2 K2;refine Kn.Z.f fun K4 hK4=>?_;refine Kn.Z.u (.m (.t rfl) (.m (.t rfl) (.m (.t rfl) .n))) ?_;refine Kn.Z.c .o (.call (.c .c (.c (.t rfl) (.c (.t rfl) (.c (.t rfl) .n))))) Tryz.call20 (hmk) fun e w1 hp=>?_;obtain ⟨⟨t, y, rfl⟩, hb⟩ := hp;refine ⟨_,rfl,?_⟩;refine Kn.Z.u (.m (.t rfl) (.x (.t rfl) rfl (.x (.t rfl) rfl (.a (.t rfl) (.a (.t rfl) .n))))) ?_;refine Kn.Z.e hK4 ?_;clear hK4 K4;refine Kn.Z.t (.c 8 rfl (.c 7 rfl (.c 6 rfl .n))) ?_;refine Kn.Z.q fun K5 hK5=>?_;refine Kn.Z.f fun K6 hK6=>?_;refine Kn.Z.u (.m (.t rfl) .n) ?_;refine Kn.Z.s .o (.bin (.t rfl) .c) fun Ko Kp=>?_;go_simp;(try go_bits);refine Kp _ _ ?_;clear Kp Ko;refine Kn.Z.e hK6 ?_;clear hK6 K6;refine Kn.Z.y (.t rfl) ?_;refine Kn.Z.f fun K7 hK7=>?_;refine Kn.Z.u (.a .c .n) ?_;refine Kn.Z.e hK7 ?_;clear hK7 K7;intro fa fh;refine wp_ret ?_;refine Kn.then_ret ?_;exact Kn.ret1 fh rfl rfl ⟨rfl, hb⟩
set_option maxRecDepth 100000 in
set_option maxHeartbeats 1000000 in
theorem made_yes (N E : Nat) (A : Option Addr) (ca : Nat) (xs : List (Int × Int)) (w : World) (hA : EIn w A xs) (hT : Laid12 w) (hE : (E : Int) ≤ 9223372036854775807) (hp : Played (N : Int) (E : Int) xs) :
    Calls Tryz.prog 6 #[.int .i64 (N : Int), .slice A xs.length ca, .int .i64 (E : Int)] w fun e w' => (∃ ys g A' c B d, e = .returned (.pointer (some ⟨g, 0, none⟩)) ∧ NormOf xs ys ∧ Ver N E ys ∧ VAt (manF 1 N E ys) (Blk.cutK (allF ys N E)) A' c B d g w') ∧ Below w.heap.size w w' := by
  refine Kn.Z.cl Tryz.func6 rfl Tryz.ntmps6 rfl (.c 0 rfl (.c 1 rfl (.c 2 rfl .n))) ?_;refine Kn.Z.f fun K1 hK1=>?_;refine Kn.Z.u (.a .c .n) ?_;refine Kn.Z.e hK1 ?_;clear hK1 K1;obtain ⟨ys, hn⟩ := norm_ex xs;have hmk := make_yes12 N E A ca xs ys w hA hT hE hp hn;have h2 : ¬ (200 : Int) < (xs.length : Int) := by have := hp.2.1; omega
  have h3 : ¬ (100 : Int) < (N : Int) := by have := hp.1; omega
  have hve := ver_of hp hn;refine Kn.Z.q fun K2 hK2=>?_;refine Kn.Z.f fun K3 hK3=>?_;refine Kn.Z.u (.m (.t rfl) .n) ?_;refine Kn.Z.s .o (.len (.t rfl)) fun Ko Kp=>?_;go_simp;(try go_bits);refine Kp _ _ ?_;clear Kp Ko;refine Kn.Z.s .o (.bin (.t rfl) .c) fun Ko Kp=>?_;go_simp;(try go_bits);refine Kp _ _ ?_;clear Kp Ko;refine Kn.Z.u (.m (.t rfl) (.e (.s rfl rfl rfl) (.move (.t rfl)) .n)) ?_;refine Kn.Z.s (.s rfl rfl rfl) (.bin (.t rfl) .c) fun Ko Kp=>?_;go_simp;(try go_bits);refine Kp _ _ ?_;clear Kp Ko;refine Kn.Z.u (.e .o (.pick (.t rfl) (.t rfl)) .n) ?_;refine Kn.Z.e hK3 ?_;clear hK3 K3;refine Kn.Z.no (.t rfl) ?_;refine Kn.Z.j hK2 ?_;clear hK2 K2;refine Kn.Z.f fun K4 hK4=>?_;refine Kn.Z.u (.m (.t rfl) (.m (.t rfl) (.m (.t rfl) .n))) ?_;refine Kn.Z.c .o (.call (.c .c (.c (.t rfl) (.c (.t rfl) (.c (.t rfl) .n))))) Tryz.call20 (hmk) fun e w1 hp=>?_;obtain ⟨⟨g, A', c, B, d, rfl, hV⟩, hb⟩ := hp;refine ⟨_,rfl,?_⟩;refine Kn.Z.u (.m (.t rfl) (.x (.t rfl) rfl (.x (.t rfl) rfl (.a (.t rfl) (.a (.t rfl) .n))))) ?_;refine Kn.Z.e hK4 ?_;clear hK4 K4;refine Kn.Z.t (.c 8 rfl (.c 7 rfl (.c 6 rfl .n))) ?_;refine Kn.Z.q fun K5 hK5=>?_;refine Kn.Z.f fun K6 hK6=>?_;refine Kn.Z.u (.m (.t rfl) .n) ?_;refine Kn.Z.s .o (.bin (.t rfl) .c) fun Ko Kp=>?_;go_simp;(try go_bits);refine Kp _ _ ?_;clear Kp Ko;refine Kn.Z.e hK6 ?_;clear hK6 K6;refine Kn.Z.no (.t rfl) ?_;refine Kn.Z.j hK5 ?_;clear hK5 K5;refine Kn.Z.f fun K7 hK7=>?_;refine Kn.Z.u (.m (.t rfl) (.a (.t rfl) .n)) ?_;refine Kn.Z.e hK7 ?_;clear hK7 K7;intro fb fg;refine wp_ret ?_;exact Kn.ret1 fg rfl rfl ⟨⟨ys, g, A', c, B, d, rfl, hn, hve, hV⟩, hb⟩
theorem make_12 (A : Option Addr) (ca : Nat) (u : World) (hA : EIn u A [(2, 1)]) (hT : Laid12 u) : Calls Tryz.prog 20 #[.int .i64 1, .int .i64 3, .int .i64 2, .slice A 1 ca] u fun e v => (∃ g A' c B d, e = .returned (.tuple #[.pointer (some ⟨g, 0, none⟩), .nilIface]) ∧ Ver 3 2 [(2, 1)] ∧ VAt (manF 1 3 2 [(2, 1)]) (Blk.cutK (allF [(2, 1)] 3 2)) A' c B d g v) ∧ Below u.heap.size u v := by
  have hp : Played ((3 : Nat) : Int) ((2 : Nat) : Int) [(2, 1)] := ⟨by decide, by decide, ⟨by decide, by decide, by decide, fun e he => by rw [List.mem_singleton] at he; subst he; decide⟩, by decide, by decide⟩;have hn : NormOf [((2 : Int), (1 : Int))] [(2, 1)] := ⟨List.pairwise_singleton _ _, fun e => Iff.rfl⟩;exact (make_yes12 3 2 A ca [(2, 1)] [(2, 1)] u hA hT (by decide) hp hn).mono fun e v ⟨⟨g, A', c, B, d, he, hV⟩, hb⟩ => ⟨⟨g, A', c, B, d, he, ver_of hp hn, hV⟩, hb⟩
end Go.Proofs.YtchdlgdmomcemaaGreatDoor.Prb
end
section
namespace Go.Proofs.YtchdlgdmomcemaaGreatDoor.Blk
open Go Go.RowKit Go.Lib RowG
def badK (ts : List ByteArray) (n i : Nat) : Option Int := match ts[i]? with
  | none => some 9
  | some s => if s.size = szK n (i : Int) then none else some 4
def scanK (ts : List ByteArray) (n : Nat) : Nat → Nat → Option (Nat × Int)
  | _, 0 => none
  | a, c + 1 => match badK ts n a with
    | some e => some (a, e)
    | none => scanK ts n (a + 1) c
def fault (i c : Int) : Value := .iface 135 (.agg #[.int .i64 i, errno c])
def needK (f m : Nat) : Nat := if m = 0 then 0 else (f + m - 1) / 64 - f / 64 + 1
theorem empty_of {s : ByteArray} (h : s.size = 0) : s = ⟨#[]⟩ := by
  obtain ⟨⟨l⟩⟩ := s
  cases l with
  | nil => rfl
  | cons a l => simp [ByteArray.size] at h
end Go.Proofs.YtchdlgdmomcemaaGreatDoor.Blk
end
section
namespace Go.Proofs.YtchdlgdmomcemaaGreatDoor.Blk
open Go Go.RowKit Go.Lib RowG
def upK (a c : Nat) : List Int := (List.range c).map fun k => ((a + k : Nat) : Int)
def textK (ts : List ByteArray) (f m : Nat) : ByteArray := (catK ((ts.drop (f / 64)).take (needK f m))).extract (f - 64 * (f / 64)) (f - 64 * (f / 64) + m)
theorem upK_push (a c : Nat) : upK a (c + 1) = upK a c ++ [((a + c : Nat) : Int)] := by simp [upK, List.range_succ]
theorem bad_cut {s : ByteArray} {i : Nat} (h : i < cntK s.size) : badK (cutK s) s.size i = none := by
  unfold badK;rw [cutK_at h];simp only [blkK_size h, if_true]
theorem scan_cut {s : ByteArray} : ∀ (c a : Nat), a + c ≤ cntK s.size → scanK (cutK s) s.size a c = none
  | 0, _, _ => rfl
  | c + 1, a, h => by
    rw [scanK, bad_cut (by omega)];exact scan_cut c (a + 1) (by omega)
theorem catK_drop {l : List ByteArray} {a c : Nat} {s : ByteArray} (h : l[a + c]? = some s) : catK ((l.drop a).take c) ++ s = catK ((l.drop a).take (c + 1)) := catK_take (by rw [List.getElem?_drop]; exact h)
theorem cat_cut {s : ByteArray} (a : Nat) : ∀ (c : Nat), a + c ≤ cntK s.size → catK (((cutK s).drop a).take c) = s.extract (min s.size (64 * a)) (min s.size (64 * (a + c)))
  | 0, h => by
    rw [List.take_zero];show (⟨#[]⟩ : ByteArray) = _
    symm
    apply empty_of
    rw [ByteArray.size_extract];simp
  | c + 1, h => by
    rw [← catK_drop (cutK_at (by omega)), cat_cut a c (by omega), blkK, ByteArray.extract_append_extract];rw [Nat.min_eq_left (by omega), Nat.max_eq_right (by omega)]
    rfl
theorem need_le {n f m : Nat} (h : f + m ≤ n) : f / 64 + needK f m ≤ cntK n ∨ m = 0 := by
  unfold needK cntK
  by_cases hm : m = 0
  · exact .inr hm
  · rw [if_neg hm]
    left
    omega
theorem scan_whole {s : ByteArray} {f m : Nat} (h : f + m ≤ s.size) : scanK (cutK s) s.size (f / 64) (needK f m) = none := by
  rcases need_le h with h1 | h1
  · exact scan_cut _ _ h1
  · subst h1
    rfl
theorem extract_in (s : ByteArray) (a b c d : Nat) (hb : b ≤ s.size) (hd : a + d ≤ b) : (s.extract a b).extract c d = s.extract (a + c) (a + d) := by
  apply ByteArray.ext
  rw [ByteArray.data_extract, ByteArray.data_extract, ByteArray.data_extract, Array.extract_extract]
  congr 1
  omega
theorem text_whole {s : ByteArray} {f m : Nat} (h : f + m ≤ s.size) : textK (cutK s) f m = s.extract f (f + m) := by
  unfold textK
  by_cases hm : m = 0
  · subst hm;rw [Nat.add_zero, Nat.add_zero, empty_of (s := s.extract f f) (by rw [ByteArray.size_extract]; omega)]
    apply empty_of
    rw [ByteArray.size_extract];omega
  · have h1 := (need_le h).resolve_right hm;rw [cat_cut _ _ h1, Nat.min_eq_right (by omega)];rw [extract_in _ _ _ _ _ (Nat.min_le_left _ _) (by unfold needK; rw [if_neg hm]; omega)]
    congr 1 <;> omega
theorem scan_none {ts : List ByteArray} {n : Nat} : ∀ (c a : Nat), scanK ts n a c = none → ∀ i, a ≤ i → i < a + c → ∃ s, ts[i]? = some s ∧ s.size = szK n (i : Int)
  | 0, a, _, i, h1, h2 => by omega
  | c + 1, a, h, i, h1, h2 => by
    rw [scanK] at h
    cases hb : badK ts n a with
    | some e => rw [hb] at h; cases h
    | none =>
      rw [hb] at h;rcases Nat.eq_or_lt_of_le h1 with rfl | h3
      · unfold badK at hb
        cases ht : ts[a]? with
        | none => rw [ht] at hb; cases hb
        | some s =>
          rw [ht] at hb;refine ⟨s, rfl, ?_⟩;simp only at hb
          by_cases e : s.size = szK n (a : Int)
          · exact e
          · rw [if_neg e] at hb; cases hb
      · exact scan_none c (a + 1) h i (by omega) (by omega)
theorem cat_size {ts : List ByteArray} {n a : Nat} : ∀ (c : Nat), (∀ i, a ≤ i → i < a + c → ∃ s, ts[i]? = some s ∧ s.size = szK n (i : Int)) → a + c ≤ cntK n → (catK ((ts.drop a).take c)).size = min n (64 * (a + c)) - min n (64 * a)
  | 0, _, _ => by
    rw [List.take_zero];show 0 = _;simp
  | c + 1, h, hc => by
    obtain ⟨s, h1, h2⟩ := h (a + c) (by omega) (by omega);rw [← catK_drop h1, ByteArray.size_append, cat_size c (fun i h3 h4 => h i h3 (by omega)) (by omega), h2];have := szK_step (n := n) (k := a + c) (by omega);have e : 64 * (a + c + 1) = 64 * (a + (c + 1)) := by omega
    rw [e] at this;omega
theorem text_size {ts : List ByteArray} {n f m : Nat} (h : f + m ≤ n) (hs : scanK ts n (f / 64) (needK f m) = none) : (textK ts f m).size = m := by
  unfold textK;rw [ByteArray.size_extract]
  by_cases hm : m = 0
  · subst hm;omega
  · have h1 := (need_le h).resolve_right hm;rw [cat_size _ (scan_none _ _ hs) h1];unfold needK at h1 ⊢;rw [if_neg hm] at h1 ⊢;unfold cntK at h1;omega
end Go.Proofs.YtchdlgdmomcemaaGreatDoor.Blk
end
section
namespace Go.Proofs.YtchdlgdmomcemaaGreatDoor.Blk
open Go Go.RowKit Go.Lib RowG
def Read8 (ts : List ByteArray) (n f m : Nat) (J : List Int → World → Prop) (e : Ending) (v : World) : Prop := match scanK ts n (f / 64) (needK f m) with
  | some (i, c) => e = .returned (.tuple #[.string ⟨#[]⟩, fault i c]) ∧ ∃ ls, J ls v
  | none => e = .returned (.tuple #[.string (textK ts f m), .nilIface]) ∧ J (upK (f / 64) (needK f m)) v
end Go.Proofs.YtchdlgdmomcemaaGreatDoor.Blk
end
section
namespace Go.Proofs.YtchdlgdmomcemaaGreatDoor.Kd
open Go
def find : List (Nat × Value) → Nat → Option Value
  | [], _ => none
  | (k, v) :: l, t => bif Nat.beq k t then some v else find l t
def nth : List Value → Nat → Option Value
  | [], _ => none
  | v :: l, t => match t with
    | 0 => some v
    | t + 1 => nth l t
theorem nth_eq : ∀ (l : List Value) (t : Nat), nth l t = l[t]?
  | [], t => by simp [nth]
  | v :: l, 0 => by simp [nth]
  | v :: l, t + 1 => by simp [nth, nth_eq l t]
structure Kn (D : List Deferred) (n : Nat) (l : List (Nat × Value)) (a : Act) : Prop where
  defers : a.defers = D
  size : a.tmps.size = n
  get : ∀ t v, find l t = some v → a.eval (.tmp t) = v
inductive Val (l : List (Nat × Value)) : Operand → Value → Prop
  | tmp {t : Tmp} {v : Value} (h : find l t = some v) : Val l (.tmp t) v
  | const {v : Value} : Val l (.const v) v
  | global {g : Nat} : Val l (.global g) (.pointer (some ⟨g, 0, none⟩))
  | func {f : FuncId} : Val l (.func f) (.func (.func f) #[] #[])
inductive Vals (l : List (Nat × Value)) : List Operand → List Value → Prop
  | nil : Vals l [] []
  | cons {x : Operand} {v : Value} {xs : List Operand} {vs : List Value} (h : Val l x v) (t : Vals l xs vs) : Vals l (x :: xs) (v :: vs)
inductive Wants (ops : Array Oper) (l : List (Nat × Value)) : Option (Nat × Bool) → Bool → Prop
  | none : Wants ops l none true
  | some {j : Nat} {b c r : Bool} {d : Tmp} (h : (ops[j]?).bind (·.dst) = some d) (hv : find l d = some (.bool c)) (hr : (c == b) = r) : Wants ops l (some (j, b)) r
  | gone {j : Nat} {b : Bool} {d : Tmp} (h : (ops[j]?).bind (·.dst) = some d) (hv : find l d = some undef) : Wants ops l (some (j, b)) false
theorem beq_no {i j : Nat} (h : i ≠ j) : Nat.beq i j = false := by
  cases e : Nat.beq i j with
  | true => exact absurd (Nat.eq_of_beq_eq_true e) h
  | false => rfl
section
variable {P : Program} {D : List Deferred} {n : Nat} {l : List (Nat × Value)} {a : Act} {ops : Array Oper} {Q : Exit → Act → World → Prop} {w : World} {rest : List Oper}
theorem Kn.val (h : Kn D n l a) {x : Operand} {v : Value} (hv : Val l x v) : a.eval x = v := by
  cases hv with
  | tmp ht => exact h.get _ _ ht
  | const => rfl
  | global => rfl
  | func => rfl
theorem Kn.vals (h : Kn D n l a) {xs : List Operand} {vs : List Value} (hv : Vals l xs vs) : xs.toArray.map a.eval = vs.toArray := by
  have : xs.map a.eval = vs := by
    induction hv with
    | nil => rfl
    | cons h1 _ ih => rw [List.map_cons, h.val h1, ih]
  rw [List.map_toArray, this]
theorem Kn.put (h : Kn D n l a) {d : Tmp} (hd : Nat.blt d n = true) (v : Value) : Kn D n ((d, v) :: l) (a.put (some d) v) := by
  have hd' : d < a.tmps.size := by rw [h.size]; exact Nat.le_of_ble_eq_true hd
  refine ⟨h.defers, by simp [Act.put, h.size], fun t u hu => ?_⟩
  by_cases e : d = t
  · subst e;rw [find, Nat.beq_refl] at hu;simp at hu;subst hu;simp [Act.put, Act.eval, hd']
  · rw [find, beq_no e] at hu;have := h.get t u (by simpa using hu);rw [← this];simp only [Act.put, Act.eval];rw [Array.getD_eq_getD_getElem?, Array.getD_eq_getD_getElem?, Array.getElem?_setIfInBounds_ne e]
theorem Kn.wants (h : Kn D n l a) {o : Oper} {r : Bool} (hw : Wants ops l o.guard r) : Region.wanted o (yielded ops a.tmps) = r := by
  unfold Region.wanted;generalize o.guard = g at hw
  cases hw with
  | none => rfl
  | @some j b c r d hj hv hr =>
    have h1 := h.get _ _ hv
    have h2 : a.tmps[d]? = some (.bool c) := by
      simp only [Act.eval] at h1;rw [Array.getD_eq_getD_getElem?] at h1
      cases e : a.tmps[d]? with
      | none => rw [e] at h1; simp [undef] at h1
      | some u => rw [e] at h1; simp at h1; rw [h1]
    simp only [yielded, hj, Option.bind_some, h2];rw [← hr];cases c <;> cases b <;> rfl
  | @gone j b d hj hv =>
    have h1 := h.get _ _ hv
    have h2 : ∀ c, a.tmps[d]? ≠ some (.bool c) := fun c e => by
      simp only [Act.eval] at h1;rw [Array.getD_eq_getD_getElem?, e] at h1;simp [undef] at h1
    simp only [yielded, hj, Option.bind_some]
    cases e : a.tmps[d]? with
    | none => rfl
    | some u => cases u <;> first | rfl | exact absurd e (h2 _)
theorem Kn.more (h : Kn D n l a) {t : Tmp} {v : Value} (hv : a.eval (.tmp t) = v) : Kn D n ((t, v) :: l) a := by
  refine ⟨h.defers, h.size, fun s u hu => ?_⟩;rw [find] at hu
  by_cases e : t = s
  · subst e;rw [Nat.beq_refl] at hu;simp at hu;rw [hv, hu]
  · rw [beq_no e] at hu;exact h.get _ _ (by simpa using hu)
def Sat (K : Value → World → Prop) : Result Value → Prop
  | .ok v w => K v w
  | .halt _ _ => False
@[go_sem] theorem sat_ok (K : Value → World → Prop) (v : Value) (w : World) : Sat K (.ok v w) = K v w := rfl
def SatU (K : World → Prop) : Result Unit → Prop
  | .ok _ w => K w
  | .halt _ _ => False
@[go_sem] theorem satU_ok (K : World → Prop) (v : Unit) (w : World) : SatU K (.ok v w) = K w := rfl
abbrev vl (s : Sem Value) : Sem Next := do pure (.value (← s))
abbrev ul (s : Sem Unit) : Sem Next := do s; pure .skip
section exec
variable {d : Option Tmp} {t : TypeId} {p : String} {af : Array Edge} {g : Option (Nat × Bool)} {x y z : Operand} {vx vy vz : Value}
theorem ex_move (h : Kn D n l a) (hx : Val l x vx) : execOp a.eval ⟨d, .move x, t, p, af, g⟩ = vl (pure vx) := by simp only [execOp, h.val hx]; rfl
theorem ex_extract {i : Nat} {vs : Array Value} {v : Value} (h : Kn D n l a) (hx : Val l x (.tuple vs)) (hi : vs[i]? = some v) : execOp a.eval ⟨d, .extract x i, t, p, af, g⟩ = vl (pure v) := by
  simp only [execOp, h.val hx, Instr.extract, hi]
theorem ex_bin {op : BinOp} {tx ty : TypeId} (h : Kn D n l a) (hx : Val l x vx) (hy : Val l y vy) : execOp a.eval ⟨d, .binOp op tx x y ty, t, p, af, g⟩ = vl (do eqGuard op tx x y vx vy; binOp op tx vx vy) := by simp only [execOp, h.val hx, h.val hy]
theorem ex_alloc {e : TypeId} : execOp a.eval ⟨d, .alloc e, t, p, af, g⟩ = vl (Instr.alloc e true (.tuple #[])) := rfl
theorem ex_load {e : TypeId} (h : Kn D n l a) (hx : Val l x vx) : execOp a.eval ⟨d, .load e x, t, p, af, g⟩ = vl (Instr.loadAt e vx) := by simp only [execOp, h.val hx]
theorem ex_store {e : TypeId} (h : Kn D n l a) (hx : Val l x vx) (hy : Val l y vy) : execOp a.eval ⟨d, .store e x y, t, p, af, g⟩ = ul (Instr.storeAt e vx vy) := by simp only [execOp, h.val hx, h.val hy]
theorem ex_makeInterface {e : TypeId} (h : Kn D n l a) (hx : Val l x vx) : execOp a.eval ⟨d, .makeInterface e x, t, p, af, g⟩ = vl (Instr.makeInterface e vx) := by simp only [execOp, h.val hx]
theorem ex_len {ats : Array TypeId} (h : Kn D n l a) (hx : Val l x vx) : execOp a.eval ⟨d, .call { callee := .builtin .len, args := #[x], argTypes := ats }, t, p, af, g⟩ = vl (Builtin.len_ ats t #[vx]) := by
  rw [BigFrame.execOp_builtin, BigFrame.builtin_len]; simp [h.val hx]
end exec
def Nx (P : Program) (D : List Deferred) (n : Nat) (l : List (Nat × Value)) (ops : Array Oper) (Q : Exit → Act → World → Prop) (rest : List Oper) (d : Tmp) (v : Value) (w : World) : Prop := ∀ a, Kn D n ((d, v) :: l) a → wpList P ops Q rest a w
theorem run_value (s : Sem Value) (w : World) (K : Act → World → Prop) (o : Oper) (a : Act) (H : Sat (fun v w' => K (a.put o.dst v) w') (s.run P w)) (he : execOp a.eval o = vl s) : o.wp P a w K Q := by
  unfold Oper.wp;rw [he]
  cases hs : s.run P w with
  | ok v w' =>
    rw [hs] at H;simp [go_sem, hs];exact H
  | halt x w' => rw [hs] at H; exact H.elim
theorem step {o : Oper} {d : Tmp} {s : Sem Value} (h : Kn D n l a) (hd : o.dst = some d) (hdn : Nat.blt d n = true) (hw : Wants ops l o.guard true) (he : execOp a.eval o = vl s)
    (H : ∀ K : Value → World → Prop, (∀ v w', Nx P D n l ops Q rest d v w' → K v w') → Sat K (s.run P w)) : wpList P ops Q (o :: rest) a w := by
  refine wpList_step fun K hK => ?_;rw [h.wants hw, if_pos rfl];refine run_value s w K o a (H _ fun v w' hn => ?_) he;rw [hd];exact hK _ _ (hn _ (h.put hdn v))
theorem pure {o : Oper} {d : Tmp} {v : Value} (h : Kn D n l a) (hd : o.dst = some d) (hdn : Nat.blt d n = true) (hw : Wants ops l o.guard true) (he : execOp a.eval o = vl (.pure v))
    (H : Nx P D n l ops Q rest d v w) : wpList P ops Q (o :: rest) a w := step h hd hdn hw he fun _ hK => hK _ _ H
theorem stepU {o : Oper} {s : Sem Unit} (h : Kn D n l a) (hd : o.dst = none) (hw : Wants ops l o.guard true) (he : execOp a.eval o = ul s)
    (H : ∀ K : World → Prop, (∀ w', wpList P ops Q rest a w' → K w') → SatU K (s.run P w)) : wpList P ops Q (o :: rest) a w := by
  refine wpList_step fun K hK => ?_;rw [h.wants hw, if_pos rfl];unfold Oper.wp;rw [he];have := H _ fun w' hn => hK a w' hn
  cases hs : s.run P w with
  | ok v w' =>
    rw [hs] at this;simp [go_sem, hs, hd, Act.put];exact this
  | halt x w' => rw [hs] at this; exact this.elim
theorem call {o : Oper} {d : Tmp} {f : FuncId} {args : Array Value} {R : Ending → World → Prop} (h : Kn D n l a) (hd : o.dst = some d) (hdn : Nat.blt d n = true) (hw : Wants ops l o.guard true) (he : execOp a.eval o = callFunc f args)
    (hc : ∀ (args : Array Value) (w : World), (callFunc f args).run P w = .ok (.enter f args) w) (hR : Calls P f args w R)
    (H : ∀ e w', R e w' → ∃ v, e = .returned v ∧ Nx P D n l ops Q rest d v w') : wpList P ops Q (o :: rest) a w := by
  refine wpList_step fun K hK => ?_;rw [h.wants hw, if_pos rfl];unfold Oper.wp;rw [he, hc];refine hR.mono fun e w' hr => ?_;obtain ⟨v, rfl, hn⟩ := H e w' hr;show K (a.put o.dst v) w';rw [hd];exact hK _ _ (hn _ (h.put hdn v))
inductive Sub (l : List (Nat × Value)) : List (Nat × Value) → Prop
  | nil : Sub l []
  | cons {t : Nat} {v : Value} {l' : List (Nat × Value)} (h : find l t = some v) (r : Sub l l') : Sub l ((t, v) :: l')
  | turn {t : Nat} {v u : Value} {l' : List (Nat × Value)} (h : find l t = some v) (e : v = u) (r : Sub l l') : Sub l ((t, u) :: l')
theorem Sub.at {l l' : List (Nat × Value)} (h : Sub l l') {t : Nat} {v : Value} (hv : find l' t = some v) : find l t = some v := by
  induction h with
  | nil => simp [find] at hv
  | @cons s u l' h1 _ ih =>
    rw [find] at hv
    by_cases e : s = t
    · subst e; rw [Nat.beq_refl] at hv; simp at hv; rw [← hv]; exact h1
    · rw [beq_no e] at hv; exact ih (by simpa using hv)
  | @turn s u x l' h1 h2 _ ih =>
    subst h2;rw [find] at hv
    by_cases e : s = t
    · subst e; rw [Nat.beq_refl] at hv; simp at hv; rw [← hv]; exact h1
    · rw [beq_no e] at hv; exact ih (by simpa using hv)
theorem Kn.cut {l' : List (Nat × Value)} (h : Kn D n l a) (hs : Sub l l') : Kn D n l' a := ⟨h.defers, h.size, fun _ _ hv => h.get _ _ (hs.at hv)⟩
inductive Ins (args : Array Value) : List (Nat × Value) → Prop
  | nil : Ins args []
  | cons {t : Nat} {v : Value} {l' : List (Nat × Value)} (h : nth args.toList t = some v) (r : Ins args l') : Ins args ((t, v) :: l')
theorem Ins.at {args : Array Value} {l : List (Nat × Value)} (h : Ins args l) {t : Nat} {v : Value} (hv : find l t = some v) : args[t]? = some v := by
  induction h with
  | nil => simp [find] at hv
  | @cons s u l' h1 _ ih =>
    rw [find] at hv
    by_cases e : s = t
    · subst e; rw [Nat.beq_refl] at hv; simp at hv; rw [← hv]; rw [nth_eq] at h1; simpa using h1
    · rw [beq_no e] at hv; exact ih (by simpa using hv)
theorem calls {f : FuncId} {fn : Func} {c : Code} {args : Array Value} {R : Ending → World → Prop} (hf : P.funcs[f]? = some fn) (hb : fn.body = some c) (hn : fn.ntmps = n) (ha : Nat.ble args.size n = true) (hl : Ins args l)
    (H : ∀ a, Kn [] n l a → c.wp P (bodyPostD P fn R) a w) : Calls P f args w R := by
  refine calls_of_wp_defers hf hb (H _ ⟨rfl, ?_, fun t v hv => ?_⟩)
  · have := Nat.le_of_ble_eq_true ha;simp only [Array.size_append, Array.size_replicate]; omega
  · have h1 := hl.at hv
    have h2 : t < args.size := by
      rcases Nat.lt_or_ge t args.size with h | h
      · exact h
      · rw [Array.getElem?_eq_none h] at h1; cases h1
    simp only [Act.eval];rw [Array.getD_eq_getD_getElem?, Array.getElem?_append_left h2, h1]
    rfl
theorem yes {x : Operand} {c d : Code} (h : Kn D n l a) (hv : Val l x (.bool true)) (H : c.wp P Q a w) : (Code.cond x c d).wp P Q a w := wp_cond_true (h.val hv) H
theorem no {x : Operand} {c d : Code} (h : Kn D n l a) (hv : Val l x (.bool false)) (H : d.wp P Q a w) : (Code.cond x c d).wp P Q a w := wp_cond_false (h.val hv) H
theorem then_ret {K : Act → World → Prop} (h : Q .ret a w) : Exit.then K Q .ret a w := h
theorem gen {c : Code} (S : World → Prop) (hS : S w) (H : ∀ u, S u → c.wp P Q a u) : c.wp P Q a w := H w hS
end
def backB (md : Region.Mode) (ops : Array Oper) : Bool :=
  (List.range ops.size).all fun i => match ops[i]? with
    | some o => o.after.all fun e => !Region.binds md e || Nat.blt e.on i
    | none => true
def apartB (ops : Array Oper) : Bool :=
  (List.range ops.size).all fun i => (List.range ops.size).all fun j => Nat.beq i j || match (ops[i]?).bind (·.dst), (ops[j]?).bind (·.dst) with
    | some d, some e => !Nat.beq d e
    | _, _ => true
def freshB (n : Nat) (l : List (Nat × Value)) (ops : Array Oper) : Bool :=
  (List.range ops.size).all fun i => match (ops[i]?).bind (·.dst) with
    | some d => Nat.blt d n && l.all fun p => !Nat.beq p.1 d
    | none => true
section
variable {P : Program} {D : List Deferred} {n : Nat} {l : List (Nat × Value)} {ops : Array Oper} {Q : Exit → Act → World → Prop} {md : Region.Mode} {S : World → Prop} {G : World → World → Prop} {T : Nat → Value → World → Prop} {F : Nat → Nat → Value → Value → Prop}
theorem all_listed (hb : backB md ops = true) {listed : Array Bool} (hs : listed.size = ops.size) (hr : Region.ready md ops listed = []) : ∀ i, i < ops.size → listed.getD i false = true := by
  intro i
  induction i using Nat.strongRecOn with
  | _ i ih =>
    intro hi
    cases h : listed.getD i false with
    | true => rfl
    | false =>
      exfalso
      have hm : i ∈ Region.ready md ops listed := by
        refine mem_ready.2 ⟨getD_in (by omega) h, ops[i], Array.getElem?_eq_getElem hi, fun e he hbd => ?_⟩;have h1 := List.all_eq_true.1 hb i (List.mem_range.2 hi);rw [Array.getElem?_eq_getElem hi] at h1;have h2 := Array.all_eq_true_iff_forall_mem.1 h1 e he;rw [hbd] at h2;have h3 : e.on < i := by simpa using h2
        exact ih e.on h3 (by omega)
      rw [hr] at hm;cases hm
theorem Kn.other {a : Act} (h : Kn D n l a) {d : Tmp} (v : Value) (hl : l.all (fun p => !Nat.beq p.1 d) = true) : Kn D n l (a.put (some d) v) := by
  refine ⟨h.defers, by simp [Act.put, h.size], fun t u hu => ?_⟩
  have hne : d ≠ t := by
    intro e;subst e;clear h
    induction l with
    | nil => simp [find] at hu
    | cons p l ih =>
      obtain ⟨k, v⟩ := p;simp only [List.all_cons, Bool.and_eq_true, Bool.not_eq_true'] at hl;rw [find, hl.1] at hu;exact ih hl.2 hu
  rw [← h.get t u hu];simp only [Act.put, Act.eval];rw [Array.getD_eq_getD_getElem?, Array.getD_eq_getD_getElem?, Array.getElem?_setIfInBounds_ne hne]
theorem eval_put_same {a : Act} {d : Tmp} (v : Value) (h : d < a.tmps.size) : (a.put (some d) v).eval (.tmp d) = v := by simp [Act.put, Act.eval, h]
theorem eval_put_ne {a : Act} {d t : Tmp} (v : Value) (h : d ≠ t) : (a.put (some d) v).eval (.tmp t) = a.eval (.tmp t) := by
  simp only [Act.put, Act.eval];rw [Array.getD_eq_getD_getElem?, Array.getD_eq_getD_getElem?, Array.getElem?_setIfInBounds_ne h]
def Has (md : Region.Mode) (ops : Array Oper) (T : Nat → Value → World → Prop) (o : Oper) (a : Act) (w : World) : Prop :=
  ∀ j d, o.after.toList.any (fun e => Region.binds md e && Nat.beq e.on j) = true → (ops[j]?).bind (·.dst) = some d → T j (a.eval (.tmp d)) w
def Op1 (P : Program) (ops : Array Oper) (Q : Exit → Act → World → Prop) (S : World → Prop) (G : World → World → Prop) (T : Nat → Value → World → Prop) (F : Nat → Nat → Value → Value → Prop) (i : Nat) (o : Oper) (L : Nat → Prop) (a : Act) (w : World) : Prop :=
  if Region.wanted o (yielded ops a.tmps) then o.wp P a w (fun a' w' => ∃ v, a' = a.put o.dst v ∧ T i v w' ∧ S w' ∧ G w w' ∧ ∀ k d, k ≠ i → L k → (ops[k]?).bind (·.dst) = some d → F i k v (a.eval (.tmp d)) ∧ F k i (a.eval (.tmp d)) v) Q
  else T i undef w ∧ ∀ k d, k ≠ i → L k → (ops[k]?).bind (·.dst) = some d → F i k undef (a.eval (.tmp d)) ∧ F k i (a.eval (.tmp d)) undef
def Two (ops : Array Oper) (F : Nat → Nat → Value → Value → Prop) (L : Nat → Prop) (a : Act) : Prop := ∀ j k d e, j ≠ k → L j → L k → (ops[j]?).bind (·.dst) = some d → (ops[k]?).bind (·.dst) = some e → F j k (a.eval (.tmp d)) (a.eval (.tmp e))
def One (ops : Array Oper) (T : Nat → Value → World → Prop) (L : Nat → Prop) (a : Act) (w : World) : Prop := ∀ k d, L k → (ops[k]?).bind (·.dst) = some d → T k (a.eval (.tmp d)) w
def Ahead (md : Region.Mode) (o : Oper) (L : Nat → Prop) : Prop := ∀ j, o.after.toList.any (fun e => Region.binds md e && Nat.beq e.on j) = true → L j
def Ok (P : Program) (D : List Deferred) (n : Nat) (l : List (Nat × Value)) (md : Region.Mode) (ops : Array Oper) (Q : Exit → Act → World → Prop) (S : World → Prop) (G : World → World → Prop) (T : Nat → Value → World → Prop) (F : Nat → Nat → Value → Value → Prop) (i : Nat) (o : Oper) : Prop :=
  ∀ a w L, Kn D n l a → S w → One ops T L a w → Two ops F L a → Ahead md o L → Op1 P ops Q S G T F i o L a w
def Oks (P : Program) (D : List Deferred) (n : Nat) (l : List (Nat × Value)) (md : Region.Mode) (ops : Array Oper) (Q : Exit → Act → World → Prop) (S : World → Prop) (G : World → World → Prop) (T : Nat → Value → World → Prop) (F : Nat → Nat → Value → Value → Prop) : Nat → List Oper → Prop
  | _, [] => True
  | k, o :: r => Ok P D n l md ops Q S G T F k o ∧ Oks P D n l md ops Q S G T F (k + 1) r
theorem Oks.at {r : List Oper} {k : Nat} (h : Oks P D n l md ops Q S G T F k r) {j : Nat} {o : Oper} (hj : r[j]? = some o) : Ok P D n l md ops Q S G T F (k + j) o := by
  induction r generalizing k j with
  | nil => simp at hj
  | cons x r ih =>
    cases j with
    | zero => simp at hj; subst hj; exact h.1
    | succ j =>
      have := ih h.2 (j := j) (by simpa using hj)
      rwa [show k + 1 + j = k + (j + 1) by omega] at this
structure Reg (D : List Deferred) (n : Nat) (l : List (Nat × Value)) (ops : Array Oper) (S : World → Prop) (T : Nat → Value → World → Prop) (F : Nat → Nat → Value → Value → Prop) (listed : Array Bool) (a : Act) (w : World) : Prop where
  kn : Kn D n l a
  size : listed.size = ops.size
  ok : S w
  slots : ∀ j d, (ops[j]?).bind (·.dst) = some d → listed.getD j false = true → T j (a.eval (.tmp d)) w
  pairs : ∀ i j d e, i ≠ j → (ops[i]?).bind (·.dst) = some d → (ops[j]?).bind (·.dst) = some e → listed.getD i false = true → listed.getD j false = true → F i j (a.eval (.tmp d)) (a.eval (.tmp e))
theorem Reg.next (hap : apartB ops = true) (hfr : freshB n l ops = true) {listed : Array Bool} {a : Act} {w w' : World} {i : Nat} {o : Oper} {v : Value} (h : Reg D n l ops S T F listed a w) (ho : ops[i]? = some o) (hv : T i v w') (hS : S w') (hG : ∀ j u, T j u w → T j u w') (hF : ∀ k d, k ≠ i → listed.getD k false = true → (ops[k]?).bind (·.dst) = some d → F i k v (a.eval (.tmp d)) ∧ F k i (a.eval (.tmp d)) v) : Reg D n l ops S T F (listed.setIfInBounds i true) (a.put o.dst v) w' := by
  have hi : i < ops.size := (Array.getElem?_eq_some_iff.1 ho).1;have hob : (ops[i]?).bind (·.dst) = o.dst := by rw [ho]; rfl
  cases hd : o.dst with
  | none =>
    have old : ∀ j d, (ops[j]?).bind (·.dst) = some d → (listed.setIfInBounds i true).getD j false = true → listed.getD j false = true := fun j d hj hl => by
      by_cases e : i = j
      · subst e; rw [hob, hd] at hj; cases hj
      · rwa [getD_set_ne false e] at hl
    exact ⟨h.kn, by simp [h.size], hS, fun j d hj hl => hG _ _ (h.slots j d hj (old j d hj hl)), fun j k d e hne hj hk hl hm => h.pairs j k d e hne hj hk (old j d hj hl) (old k e hk hm)⟩
  | some d =>
    have h1 := List.all_eq_true.1 hfr i (List.mem_range.2 hi);rw [hob, hd] at h1;simp only [Bool.and_eq_true] at h1;have hdn : d < a.tmps.size := by rw [h.kn.size]; exact Nat.le_of_ble_eq_true h1.1
    have oth : ∀ j e, i ≠ j → (ops[j]?).bind (·.dst) = some e → (a.put (some d) v).eval (.tmp e) = a.eval (.tmp e) := fun j e hij hj => by
      have hjs : j < ops.size := by
        cases hj2 : ops[j]? with
        | none => rw [hj2] at hj; cases hj
        | some x => exact (Array.getElem?_eq_some_iff.1 hj2).1
      have h2 := List.all_eq_true.1 (List.all_eq_true.1 hap i (List.mem_range.2 hi)) j (List.mem_range.2 hjs);rw [hob, hd, hj, beq_no hij] at h2;have hde : d ≠ e := fun e' => by subst e'; simp at h2
      exact eval_put_ne v hde
    refine ⟨h.kn.other v h1.2, by simp [h.size], hS, fun j e hj hl => ?_, fun j k e f hne hj hk hl hm => ?_⟩
    · by_cases hij : i = j
      · subst hij;rw [hob, hd] at hj;obtain rfl := Option.some.inj hj;rw [eval_put_same v hdn];exact hv
      · rw [getD_set_ne false hij] at hl;rw [oth j e hij hj];exact hG _ _ (h.slots j e hj hl)
    · by_cases hij : i = j
      · subst hij;rw [hob, hd] at hj;obtain rfl := Option.some.inj hj;rw [getD_set_ne false hne] at hm;rw [eval_put_same v hdn, oth k f hne hk];exact (hF k f (fun e => hne e.symm) hm hk).1
      · rw [getD_set_ne false hij] at hl;rw [oth j e hij hj]
        by_cases hik : i = k
        · subst hik;rw [hob, hd] at hk;obtain rfl := Option.some.inj hk;rw [eval_put_same v hdn];exact (hF j e (fun e => hij e.symm) hl hj).2
        · rw [getD_set_ne false hik] at hm;rw [oth k f hik hk];exact h.pairs j k e f hne hj hk hl hm
theorem wpAny_reg (hback : backB md ops = true) (hap : apartB ops = true) (hfr : freshB n l ops = true) (hT : ∀ i v w w', G w w' → T i v w → T i v w') (hok : Oks P D n l md ops Q S G T F 0 ops.toList)
    (hend : ∀ a w, Kn D n l a → S w → (∀ j d, (ops[j]?).bind (·.dst) = some d → T j (a.eval (.tmp d)) w) → (∀ i j d e, i ≠ j → (ops[i]?).bind (·.dst) = some d → (ops[j]?).bind (·.dst) = some e → F i j (a.eval (.tmp d)) (a.eval (.tmp e))) → Q .normal a w) :
    ∀ (fuel : Nat) (listed : Array Bool) (a : Act) (w : World), listed.toList.countP (fun b => !b) ≤ fuel → Reg D n l ops S T F listed a w → wpAny P md ops Q fuel listed a w := by
  have fin : ∀ (listed : Array Bool) (a : Act) (w : World), Reg D n l ops S T F listed a w → Region.ready md ops listed = [] → Q .normal a w := fun listed a w h hr => by
    have al : ∀ j d, (ops[j]?).bind (·.dst) = some d → listed.getD j false = true := fun j d hj => by
      have hjs : j < ops.size := by
        cases hj2 : ops[j]? with
        | none => rw [hj2] at hj; cases hj
        | some x => exact (Array.getElem?_eq_some_iff.1 hj2).1
      exact all_listed hback h.size hr j hjs
    exact hend a w h.kn h.ok (fun j d hj => h.slots j d hj (al j d hj)) fun i j d e hne hi hj => h.pairs i j d e hne hi hj (al i d hi) (al j e hj)
  intro fuel
  induction fuel with
  | zero =>
    intro listed a w hc h
    have hr : Region.ready md ops listed = [] := by
      cases hr : Region.ready md ops listed with
      | nil => rfl
      | cons i r =>
        exfalso
        have hi := (mem_ready.1 (show i ∈ Region.ready md ops listed by rw [hr]; exact List.mem_cons_self)).1
        have hil : i < listed.size := by
          rcases Nat.lt_or_ge i listed.size with h' | h'
          · exact h'
          · simp [Array.getElem?_eq_none h'] at hi
        have hz : listed.toList.countP (fun b => !b) = 0 := by omega
        rw [List.countP_eq_zero] at hz;have := hz listed[i] (by simp);simp [hil] at hi;simp [hi] at this
    exact ⟨hr, fin listed a w h hr⟩
  | succ fuel ih =>
    intro listed a w hc h;refine ⟨fin listed a w h, fun i hi => ?_⟩;obtain ⟨hun, o, ho, hall⟩ := mem_ready.1 hi
    have hil : i < listed.size := by
      rcases Nat.lt_or_ge i listed.size with h' | h'
      · exact h'
      · simp [Array.getElem?_eq_none h'] at hun
    have hcount : (listed.setIfInBounds i true).toList.countP (fun b => !b) ≤ fuel := by
      have hli : listed[i] = false := by simpa [hil] using hun
      rw [Array.toList_setIfInBounds, List.countP_set (by simpa using hil)];simp only [Array.getElem_toList, hli];simp only [Bool.not_false, Bool.not_true, if_true, Bool.false_eq_true, if_false];omega
    have hok' := hok.at (j := i) (o := o) (by rw [Array.getElem?_toList]; exact ho);rw [Nat.zero_add] at hok'
    have hs := hok' a w (fun k => listed.getD k false = true) h.kn h.ok (fun k d hk hd => h.slots k d hd hk) (fun j k d e hne hj hk hd he => h.pairs j k d e hne hd he hj hk) (fun j hj => by
      obtain ⟨e, he, he2⟩ := List.any_eq_true.1 hj;simp only [Bool.and_eq_true] at he2;have := Nat.eq_of_beq_eq_true he2.2;subst this
      exact hall e (Array.mem_toList_iff.1 he) he2.1)
    unfold Op1 at hs;unfold wpOp;simp only [ho]
    split
    · rename_i hw;rw [if_pos hw] at hs;refine .inl (Oper.wp_mono (fun a' w' hx => ?_) hs);obtain ⟨v, rfl, hv, hS, hG, hF⟩ := hx;exact ih _ _ _ hcount (h.next hap hfr ho hv hS (fun j u hu => hT j u _ _ hG hu) hF)
    · rename_i hw;rw [if_neg hw] at hs;exact ih _ _ _ hcount (h.next hap hfr ho hs.1 h.ok (fun j u hu => hu) hs.2)
theorem anyF {id : Nat} {os : List Oper} {a : Act} {w : World} (S : World → Prop) (G : World → World → Prop) (T : Nat → Value → World → Prop) (F : Nat → Nat → Value → Value → Prop) (hm : P.follows .mixedOrders = true) (h : Kn D n l a) (hback : backB .any os.toArray = true) (hap : apartB os.toArray = true) (hfr : freshB n l os.toArray = true)
    (hT : ∀ i v w w', G w w' → T i v w → T i v w') (hS : S w.drew) (hok : Oks P D n l .any os.toArray Q S G T F 0 os)
    (hend : ∀ a w, Kn D n l a → S w → (∀ j d, (os.toArray[j]?).bind (·.dst) = some d → T j (a.eval (.tmp d)) w) → (∀ i j d e, i ≠ j → (os.toArray[i]?).bind (·.dst) = some d → (os.toArray[j]?).bind (·.dst) = some e → F i j (a.eval (.tmp d)) (a.eval (.tmp e))) → Q .normal a w) : (Code.region id os.toArray true).wp P Q a w := by
  refine wp_region_any hm (wpAny_reg (S := S) (G := G) (T := T) (F := F) hback hap hfr hT (by simpa using hok) hend _ _ _ _ ?_ ⟨h, by simp, hS, fun j d hj hl => ?_, fun i j d e _ _ _ hl _ => ?_⟩)
  · refine Nat.le_trans List.countP_le_length ?_;simp
  · rw [getD_replicate_false] at hl; cases hl
  · rw [getD_replicate_false] at hl; cases hl
def F0 : Nat → Nat → Value → Value → Prop := fun _ _ _ _ => True
theorem any {id : Nat} {os : List Oper} {a : Act} {w : World} (S : World → Prop) (G : World → World → Prop) (T : Nat → Value → World → Prop) (hm : P.follows .mixedOrders = true) (h : Kn D n l a) (hback : backB .any os.toArray = true) (hap : apartB os.toArray = true) (hfr : freshB n l os.toArray = true)
    (hT : ∀ i v w w', G w w' → T i v w → T i v w') (hS : S w.drew) (hok : Oks P D n l .any os.toArray Q S G T F0 0 os)
    (hend : ∀ a w, Kn D n l a → S w → (∀ j d, (os.toArray[j]?).bind (·.dst) = some d → T j (a.eval (.tmp d)) w) → Q .normal a w) : (Code.region id os.toArray true).wp P Q a w :=
  anyF S G T F0 hm h hback hap hfr hT hS hok fun a w h1 h2 h3 _ => hend a w h1 h2 h3
theorem ok {i : Nat} {o : Oper} (h : ∀ a w L, Kn D n l a → S w → Has md ops T o a w → Op1 P ops Q S G T F i o L a w) : Ok P D n l md ops Q S G T F i o := fun a w L h1 h2 h3 _ h5 => h a w L h1 h2 fun j d hj hd => h3 j d (h5 j hj) hd
theorem aopF {i : Nat} {o : Oper} {L : Nat → Prop} {a : Act} {w : World} {s : Sem Value} {l' : List (Nat × Value)} (h : Kn D n l' a) (hw : Wants ops l' o.guard true) (he : execOp a.eval o = vl s)
    (H : ∀ K : Value → World → Prop, (∀ v w', T i v w' → S w' → G w w' → (∀ k d, k ≠ i → L k → (ops[k]?).bind (·.dst) = some d → F i k v (a.eval (.tmp d)) ∧ F k i (a.eval (.tmp d)) v) → K v w') → Sat K (s.run P w)) : Op1 P ops Q S G T F i o L a w := by
  unfold Op1;rw [h.wants hw, if_pos rfl];exact run_value s w _ o a (H _ fun v w' h1 h2 h3 h4 => ⟨v, rfl, h1, h2, h3, h4⟩) he
theorem aop {i : Nat} {o : Oper} {L : Nat → Prop} {a : Act} {w : World} {s : Sem Value} {l' : List (Nat × Value)} (h : Kn D n l' a) (hw : Wants ops l' o.guard true) (he : execOp a.eval o = vl s)
    (H : ∀ K : Value → World → Prop, (∀ v w', T i v w' → S w' → G w w' → K v w') → Sat K (s.run P w)) : Op1 P ops Q S G T F0 i o L a w :=
  aopF h hw he fun K hK => H K fun v w' h1 h2 h3 => hK v w' h1 h2 h3 fun _ _ _ _ _ => ⟨trivial, trivial⟩
end
def TL : List (Value → World → Prop) → Nat → Value → World → Prop
  | [], _, _, _ => True
  | p :: _, 0, v, w => p v w
  | _ :: l, i + 1, v, w => TL l i v w
inductive Keeps (G : World → World → Prop) : List (Value → World → Prop) → Prop
  | nil : Keeps G []
  | cons {p : Value → World → Prop} {l : List (Value → World → Prop)} (h : ∀ v w w', G w w' → p v w → p v w') (r : Keeps G l) : Keeps G (p :: l)
theorem Keeps.all {G : World → World → Prop} {l : List (Value → World → Prop)} (h : Keeps G l) : ∀ i v w w', G w w' → TL l i v w → TL l i v w' := by
  induction h with
  | nil => intro i v w w' _ _; exact trivial
  | cons h1 _ ih =>
    intro i v w w' hg ht
    cases i with
    | zero => exact h1 v w w' hg ht
    | succ i => exact ih i v w w' hg ht
def Is (x : Value) : Value → World → Prop := fun v _ => v = x
theorem Is.keep {G : World → World → Prop} {x : Value} : ∀ v w w', G w w' → Is x v w → Is x v w' := fun _ _ _ _ h => h
section
variable {D : List Deferred} {n : Nat} {l : List (Nat × Value)} {a : Act} {d : Option Tmp} {t : TypeId} {p : String} {af : Array Edge} {g : Option (Nat × Bool)} {x : Operand}
theorem ex_makeFunc {fn : Fn} {fs cs : Array Operand} {us vs : List Value} (h : Kn D n l a) (hf : Vals l fs.toList us) (hc : Vals l cs.toList vs) : execOp a.eval ⟨d, .makeFunc fn fs cs, t, p, af, g⟩ = vl (Pure.pure (.func fn us.toArray vs.toArray)) := by
  have e1 : fs.map a.eval = us.toArray := by have := h.vals hf; rwa [Array.toArray_toList] at this
  have e2 : cs.map a.eval = vs.toArray := by have := h.vals hc; rwa [Array.toArray_toList] at this
  simp only [execOp, e1, e2]
  rfl
end
section
variable {P : Program} {D : List Deferred} {n : Nat} {l : List (Nat × Value)} {a : Act} {ops : Array Oper} {Q : Exit → Act → World → Prop} {w : World} {rest : List Oper}
theorem aopU {S : World → Prop} {G : World → World → Prop} {T : Nat → Value → World → Prop} {i : Nat} {o : Oper} {L : Nat → Prop} {s : Sem Unit} {l' : List (Nat × Value)} (h : Kn D n l' a) (hd : o.dst = none) (hw : Wants ops l' o.guard true) (he : execOp a.eval o = ul s)
    (H : ∀ K : World → Prop, (∀ w', T i undef w' → S w' → G w w' → K w') → SatU K (s.run P w)) : Op1 P ops Q S G T F0 i o L a w := by
  unfold Op1;rw [h.wants hw, if_pos rfl];unfold Oper.wp;rw [he];have := H _ fun w' h1 h2 h3 => (show ∃ v, a.put o.dst undef = a.put o.dst v ∧ T i v w' ∧ S w' ∧ G w w' ∧ ∀ k d, k ≠ i → L k → (ops[k]?).bind (·.dst) = some d → F0 i k v (a.eval (.tmp d)) ∧ F0 k i (a.eval (.tmp d)) v from ⟨_, rfl, h1, h2, h3, fun _ _ _ _ _ => ⟨trivial, trivial⟩⟩)
  cases hs : s.run P w with
  | ok v w' =>
    rw [hs] at this;simp [go_sem, hs];exact this
  | halt x w' => rw [hs] at this; exact this.elim
theorem ex_defer {d : Option Tmp} {t : TypeId} {p : String} {af : Array Edge} {g : Option (Nat × Bool)} {x : Operand} {fn : Fn} {cs : List Value} {xs : Array Operand} {us : List Value} {ats : Array TypeId} (h : Kn D n l a) (hf : Val l x (.func fn #[] cs.toArray)) (hx : Vals l xs.toList us) : execOp a.eval ⟨d, .defer { callee := .value x, args := xs, argTypes := ats }, t, p, af, g⟩ = (Pure.pure (Next.defer { target := .fn fn cs.toArray, args := us.toArray }) : Sem Next) := by
  have e : xs.map a.eval = us.toArray := by have := h.vals hx; rwa [Array.toArray_toList] at this
  have hv := h.val hf;simp only [execOp, resolve, hv, e];show (Pure.pure (Next.defer { target := .fn fn cs.toArray, args := #[] ++ us.toArray }) : Sem Next) = _;rw [Array.empty_append]
theorem lay {o : Oper} {dd : Deferred} (h : Kn D n l a) (hd : o.dst = none) (hw : Wants ops l o.guard true) (he : execOp a.eval o = (Pure.pure (Next.defer dd) : Sem Next)) (H : ∀ a, Kn (dd :: D) n l a → wpList P ops Q rest a w) : wpList P ops Q (o :: rest) a w := by
  refine wpList_step fun K hK => ?_;rw [h.wants hw, if_pos rfl];unfold Oper.wp;rw [he];show K (({ a with defers := dd :: a.defers } : Act).put o.dst undef) w;rw [hd];exact hK _ _ (H _ ⟨congrArg (dd :: ·) h.defers, h.size, h.get⟩)
theorem results_cells2 {fn : Func} {p u : Tmp} {tp tq : TypeId} (h : fn.results = #[.cell p tp, .cell u tq]) (tmps : Array Value) (P : Program) (w : World) :
    (results fn tmps).run P w = ((asAddr (tmps.getD p undef)).run P w).andThen fun a w₁ => ((loadVar tp a).run P w₁).andThen fun v w₂ => ((asAddr (tmps.getD u undef)).run P w₂).andThen fun b w₃ => ((loadVar tq b).run P w₃).andThen fun x w₄ => .ok (.tuple #[v, x]) w₄ := by
  simp only [results, h];simp [Sem.run_bind, Result.andThen]
theorem andThen_ok {α β : Type} (v : α) (w : World) (f : α → World → Result β) : (Result.ok v w).andThen f = f v w := rfl
theorem door {fn : Func} {R : Ending → World → Prop} {f : FuncId} {cs : List Value} {p q : Tmp} {tp tq : TypeId} {A B : Addr} {v x : Value} {w' : World} (h : Kn [{ target := .fn (.func f) cs.toArray, args := #[] }] n l a) (hr : fn.results = #[.cell p tp, .cell q tq]) (hp : find l p = some (.pointer (some A))) (hq : find l q = some (.pointer (some B)))
    (hc : ∀ (args : Array Value) (w : World), (callFunc f args).run P w = .ok (.enter f args) w) (hD : CallsD P f cs.toArray .returning w fun e u v => e = .returned (.tuple #[]) ∧ u = .returning ∧ v = w')
    (hA : (loadVar tp A).run P w' = .ok v w') (hB : (loadVar tq B).run P w' = .ok x w') (H : R (.returned (.tuple #[v, x])) w') : bodyPostD P fn R .ret a w := by
  show Leaves P fn a.tmps R a.defers .returning w;rw [h.defers];refine leaves_cons (f := f) (args := cs.toArray) (by simp) (by show (callFunc f (#[] ++ cs.toArray)).run P w = _; rw [hc, Array.empty_append]) (hD.mono ?_);rintro e u v' ⟨rfl, rfl, rfl⟩;refine ⟨.tuple #[v, x], ?_, H⟩;have h1 := h.get p _ hp;have h2 := h.get q _ hq;simp only [Act.eval] at h1 h2;have ha : ∀ (A : Addr) (u : World), (asAddr (.pointer (some A))).run P u = .ok A u := fun _ _ => rfl;rw [results_cells2 hr, h1, h2, ha, andThen_ok, hA, andThen_ok, ha, andThen_ok, hB, andThen_ok]
end
end Go.Proofs.YtchdlgdmomcemaaGreatDoor.Kd
end
section
namespace Go.Proofs.YtchdlgdmomcemaaGreatDoor.Kn
open Go
section
variable {n : Nat} {l : List (Nat × Value)} {a : Act} {d : Option Tmp} {t : TypeId} {p : String} {af : Array Edge} {g : Option (Nat × Bool)} {x : Operand}
end
end Go.Proofs.YtchdlgdmomcemaaGreatDoor.Kn
namespace Go.Proofs.YtchdlgdmomcemaaGreatDoor.Kd
open Go
section
variable {D : List Deferred} {n : Nat} {l : List (Nat × Value)} {a : Act} {d : Option Tmp} {t : TypeId} {p : String} {af : Array Edge} {g : Option (Nat × Bool)} {x : Operand}
theorem ex_callb {f : FuncId} {vs cs : List Value} {xs : Array Operand} {us : List Value} {ats : Array TypeId} (h : Kn D n l a) (hf : Val l x (.func (.func f) vs.toArray cs.toArray)) (hx : Vals l xs.toList us) : execOp a.eval ⟨d, .call { callee := .value x, args := xs, argTypes := ats }, t, p, af, g⟩ = callFunc f (vs ++ us ++ cs).toArray := by
  have e : xs.map a.eval = us.toArray := by have := h.vals hx; rwa [Array.toArray_toList] at this
  have hv := h.val hf
  have e2 : execOp a.eval ⟨d, .call { callee := .value x, args := xs, argTypes := ats }, t, p, af, g⟩ = callFunc f (vs.toArray ++ xs.map a.eval ++ cs.toArray) := by
    simp only [execOp, resolve, hv]
    rfl
  rw [e2, e];simp
end
end Go.Proofs.YtchdlgdmomcemaaGreatDoor.Kd
end
section
namespace Go.Proofs.YtchdlgdmomcemaaGreatDoor.Blk
open Go Go.RowKit Go.Lib RowG Num
set_option maxRecDepth 100000 in
set_option maxHeartbeats 4000000 in
theorem catch_idle (p q : Addr) (w : World) :
    CallsD Tryz.prog 118 [Value.pointer (some p), .pointer (some q)].toArray .returning w fun e u' w' => e = .returned (.tuple #[]) ∧ u' = .returning ∧ w' = w := by
  refine callsD_of_wpS Tryz.func118 rfl fun c₀ cs hu => ?_
  apply wpS_seq
  apply wpS_region
  simp [wpOpsS, go_sem, recoverD, hu, Tryz.ntmps118, Exit.thenS];refine wpS_cond (t := false) (by simp [Act.eval, Array.replicate]) ?_;simp only [Bool.false_eq_true, if_false];refine wpS_of_wp (wp_skip ?_);cases c₀
  simp_all [bodyPostS, results, Tryz.results118]
set_option maxRecDepth 100000 in
set_option maxHeartbeats 4000000 in
theorem ask_err (i : Int) (z : Nat) (fs : FuncId) (vs cs : List Value) (Jn : World → Prop) (w : World) (hen : ∀ (args : Array Value) (w : World), (callFunc fs args).run Tryz.prog w = .ok (.enter fs args) w) (c : Int) (hc : ∀ u, Below w.heap.size w u → Calls Tryz.prog fs (vs ++ [Value.int .i64 i] ++ cs).toArray u fun e v => e = .returned (.tuple #[.string ⟨#[]⟩, errno c]) ∧ Left8 Jn w.heap.size u v) :
    Calls Tryz.prog 92 #[.func (.func fs) vs.toArray cs.toArray, .int .i64 i, .int .i64 (z : Int)] w fun e v => e = .returned (.tuple #[.string ⟨#[]⟩, errno c]) ∧ Jn v := by
  refine Kd.calls Tryz.func92 rfl Tryz.ntmps92 rfl (.cons (t := 0) rfl (.cons (t := 1) rfl (.cons (t := 2) rfl .nil))) fun fa0 fh0 => ?_;refine wp_seq_k fun K1 hK1 => ?_;refine wp_region_lit ?_;refine Kd.step fh0 rfl rfl .none Kd.ex_alloc fun Ko hKo => ?_;go_simp;(try go_bits);refine hKo _ _ fun fa1 fh1 => ?_;clear hKo Ko fh0 fa0;refine Kd.step fh1 rfl rfl .none Kd.ex_alloc fun Ko hKo => ?_;go_simp;(try go_bits);refine hKo _ _ fun fa2 fh2 => ?_;clear hKo Ko fh1 fa1;refine wpList_nil ?_;refine hK1 _ _ ?_;clear hK1 K1;refine Kd.gen (fun u => St.St u w.heap.size 9 #[.string ⟨#[]⟩] ∧ St.St u (w.heap.size + 1) 29 #[.nilIface] ∧ Below w.heap.size w u) ⟨(St.St.new w _ _).alloc _, by have := St.St.new (w.alloc (.cells #[.string ⟨#[]⟩] 9)) 29 #[.nilIface]; rwa [show (w.alloc (.cells #[.string ⟨#[]⟩] 9)).heap.size = w.heap.size + 1 by simp] at this, ((Below.refl _ w).alloc (Nat.le_refl _) _).alloc (by simp) _⟩ fun w1 hu => ?_;obtain ⟨hS1, hE1, hb1⟩ := hu;have hlt := hE1.lt;have hcc := hc w1 hb1;clear hc hb1;unfold errno at hcc;refine wp_seq_k fun K2 hK2 => ?_;refine wp_region_lit ?_;refine Kd.pure fh2 rfl rfl .none (Kd.ex_makeFunc fh2 .nil (.cons (.tmp rfl) (.cons (.tmp rfl) .nil))) fun fa3 fh3 => ?_;clear fh2 fa2;refine Kd.lay fh3 rfl .none (Kd.ex_defer fh3 (.tmp rfl) .nil) fun fa4 fh4 => ?_;clear fh3 fa3;refine wpList_nil ?_;refine hK2 _ _ ?_;clear hK2 K2;replace fh4 := fh4.cut (.cons (t := 7) rfl (.cons (t := 6) rfl (.cons (t := 0) rfl (.cons (t := 1) rfl (.cons (t := 2) rfl .nil)))));refine wp_seq_k fun K3 hK3 => ?_;refine wp_seq_k fun K4 hK4 => ?_;refine wp_region_lit ?_;refine Kd.pure fh4 rfl rfl .none (Kd.ex_move fh4 (.tmp rfl)) fun fa5 fh5 => ?_;clear fh4 fa4;refine Kd.pure fh5 rfl rfl .none (Kd.ex_move fh5 (.tmp rfl)) fun fa6 fh6 => ?_;clear fh5 fa5;refine Kd.call fh6 rfl rfl .none (Kd.ex_callb fh6 (.tmp rfl) (.cons (.tmp rfl) .nil)) hen (hcc) fun e v hp => ?_;obtain ⟨rfl, hsz, hk, hJ⟩ := hp;refine ⟨_, rfl, fun fa7 fh7 => ?_⟩;clear fh6 fa6;have hS := (hk _ (Nat.le_refl _) (Nat.lt_of_succ_lt hlt)).trans hS1;have hE := (hk _ (Nat.le_succ _) hlt).trans hE1;have qa := St.St.cell hS 0 rfl;have qb := St.St.free hS 0;have hE2 := St.St.setCell hE (a := ⟨w.heap.size, 0, none⟩) (by simp) (.string ⟨#[]⟩);have qc := St.St.cell hE2 0 rfl;have qd := St.St.free hE2 0;have hS2 := (St.St.put hS 0 (.string ⟨#[]⟩)).setCell (a := ⟨w.heap.size + 1, 0, none⟩) (by simp) ((.iface 66 (.int .i64 c)));have hE3 := St.St.put hE2 0 ((.iface 66 (.int .i64 c)));have HJ := Lib.hid hJ;have HA : Aside w.heap.size w1.heap.size v ((v.setCell ⟨w.heap.size, 0, none⟩ (.string ⟨#[]⟩)).setCell ⟨w.heap.size + 1, 0, none⟩ ((.iface 66 (.int .i64 c)))) := ((Aside.refl v).put w.heap.size 0 _ (Nat.le_refl _) (Nat.lt_of_succ_lt hlt)).put (w.heap.size + 1) 0 _ (Nat.le_succ _) hlt;clear hJ hcc hk hsz hS1 hE1 hE hS;refine Kd.pure fh7 rfl rfl .none (Kd.ex_move fh7 (.tmp rfl)) fun fa8 fh8 => ?_;clear fh7 fa7;refine Kd.pure fh8 rfl rfl .none (Kd.ex_extract fh8 (.tmp rfl) rfl) fun fa9 fh9 => ?_;clear fh8 fa8;refine Kd.pure fh9 rfl rfl .none (Kd.ex_extract fh9 (.tmp rfl) rfl) fun fa10 fh10 => ?_;clear fh9 fa9;refine Kd.stepU fh10 rfl .none (Kd.ex_store fh10 (.tmp rfl) (.tmp rfl)) fun Ko hKo => ?_;go_simp;(try go_bits);refine hKo _ ?_;clear hKo Ko;refine Kd.stepU fh10 rfl .none (Kd.ex_store fh10 (.tmp rfl) (.tmp rfl)) fun Ko hKo => ?_;go_simp;(try go_bits);refine hKo _ ?_;clear hKo Ko;refine wpList_nil ?_;refine hK4 _ _ ?_;clear hK4 K4;replace fh10 := fh10.cut (.cons (t := 7) rfl (.cons (t := 6) rfl (.cons (t := 2) rfl .nil)));refine Kd.gen (fun u => St.St u w.heap.size 9 #[.string ⟨#[]⟩] ∧ St.St u (w.heap.size + 1) 29 #[(.iface 66 (.int .i64 c))] ∧ Aside w.heap.size w1.heap.size v u) ⟨hS2, hE3, HA⟩ fun w2 hu => ?_;clear hS2 hE2 hE3 HA qa qb qc qd;obtain ⟨hS2, hE2, HA2⟩ := hu;have qs := hS2.cell 0 rfl;have qsf := hS2.free 0;have qe := hE2.cell 0 rfl;have qef := hE2.free 0;refine wp_seq_k fun K5 hK5 => ?_;refine wp_region_lit ?_;refine Kd.step fh10 rfl rfl .none (Kd.ex_load fh10 (.tmp rfl)) fun Ko hKo => ?_;go_simp;(try go_bits);refine hKo _ _ fun fa11 fh11 => ?_;clear hKo Ko fh10 fa10;refine Kd.step fh11 rfl rfl .none (Kd.ex_bin fh11 (.tmp rfl) .const) fun Ko hKo => ?_;go_simp;(try go_bits);refine hKo _ _ fun fa12 fh12 => ?_;clear hKo Ko fh11 fa11;refine wpList_nil ?_;refine hK5 _ _ ?_;clear hK5 K5;replace fh12 := fh12.cut (.cons (t := 16) rfl (.cons (t := 7) rfl (.cons (t := 6) rfl (.cons (t := 2) rfl .nil))));refine Kd.yes fh12 (.tmp rfl) ?_;replace fh12 := fh12.cut (.cons (t := 7) rfl (.cons (t := 6) rfl (.cons (t := 2) rfl .nil)));refine wp_seq_k fun K6 hK6 => ?_;refine Kd.any (fun u => St.St u w.heap.size 9 #[.string ⟨#[]⟩] ∧ St.St u (w.heap.size + 1) 29 #[(.iface 66 (.int .i64 c))] ∧ Aside w.heap.size w1.heap.size v u) (fun _ _ => True) (Kd.TL [Kd.Is ((.iface 66 (.int .i64 c))), (fun _ _ => True), (fun _ _ => True)]) (by kernel_rfl) fh12 (by kernel_rfl) (by kernel_rfl) rfl (Kd.Keeps.all (.cons Kd.Is.keep (.cons (fun _ _ _ _ _ => trivial) (.cons (fun _ _ _ _ _ => trivial) .nil)))) ⟨hS2, hE2, HA2.trans ⟨rfl, rfl, rfl, But.of_below (Below.refl _ _).drew⟩⟩ ⟨?_, ?_, ?_, trivial⟩ ?_
  · refine Kd.ok fun fa13 u L fh13 hS hH => ?_;have qe := hS.2.1.cell 0 rfl;refine Kd.aop fh13 .none (Kd.ex_load fh13 (.tmp rfl)) fun Ko hKo => ?_;go_simp;(try go_bits);exact hKo _ _ rfl hS trivial
  · refine Kd.ok fun fa13 u L fh13 hS hH => ?_;have qs := hS.1.cell 0 rfl;have qsf := hS.1.free 0;refine Kd.aopU fh13 rfl .none (Kd.ex_store fh13 (.tmp rfl) .const) fun Ko hKo => ?_;go_simp;(try go_bits);exact hKo _ trivial ⟨hS.1.put 0 _, hS.2.1.setCell (by simp) _, hS.2.2.put w.heap.size 0 _ (Nat.le_refl _) (Nat.lt_of_succ_lt hlt)⟩ trivial
  · refine Kd.ok fun fa13 u L fh13 hS hH => ?_;replace fh13 := fh13.more (show fa13.eval (.tmp 17) = (.iface 66 (.int .i64 c)) from hH 0 17 rfl rfl);have qe := hS.2.1.cell 0 rfl;have qef := hS.2.1.free 0;refine Kd.aopU fh13 rfl .none (Kd.ex_store fh13 (.tmp rfl) (.tmp rfl)) fun Ko hKo => ?_;go_simp;(try go_bits);exact hKo _ trivial ⟨hS.1.setCell (by simp) _, hS.2.1.put 0 _, hS.2.2.put (w.heap.size + 1) 0 _ (Nat.le_succ _) hlt⟩ trivial
  intro fa13 w3 fh13 hS hT;clear fh12 fa12;clear hT;refine hK6 _ _ ?_;clear hK6 K6;refine wp_ret ?_;refine Kd.then_ret ?_;obtain ⟨hSf, hEf, HAf⟩ : St.St w3 w.heap.size 9 #[.string ⟨#[]⟩] ∧ St.St w3 (w.heap.size + 1) 29 #[(.iface 66 (.int .i64 c))] ∧ Aside w.heap.size w1.heap.size v w3 := hS;have qs1 := hSf.cell 0 rfl;have qe1 := hEf.cell 0 rfl;refine Kd.door fh13 rfl rfl rfl Tryz.call118 (catch_idle _ _ _) (v := .string ⟨#[]⟩) (x := (.iface 66 (.int .i64 c))) ?_ ?_ ⟨rfl, HJ.out _ HAf⟩
  · go_simp
  · go_simp
set_option maxRecDepth 100000 in
set_option maxHeartbeats 4000000 in
theorem ask_ok (i : Int) (z : Nat) (fs : FuncId) (vs cs : List Value) (Jn : World → Prop) (w : World) (hen : ∀ (args : Array Value) (w : World), (callFunc fs args).run Tryz.prog w = .ok (.enter fs args) w) (s : ByteArray) (hz : s.size = z) (hm : s.size ≤ maxLen) (hc : ∀ u, Below w.heap.size w u → Calls Tryz.prog fs (vs ++ [Value.int .i64 i] ++ cs).toArray u fun e v => e = .returned (.tuple #[.string s, .nilIface]) ∧ Left8 Jn w.heap.size u v) :
    Calls Tryz.prog 92 #[.func (.func fs) vs.toArray cs.toArray, .int .i64 i, .int .i64 (z : Int)] w fun e v => e = .returned (.tuple #[.string s, .nilIface]) ∧ Jn v := by
  refine Kd.calls Tryz.func92 rfl Tryz.ntmps92 rfl (.cons (t := 0) rfl (.cons (t := 1) rfl (.cons (t := 2) rfl .nil))) fun fa0 fh0 => ?_;refine wp_seq_k fun K1 hK1 => ?_;refine wp_region_lit ?_;refine Kd.step fh0 rfl rfl .none Kd.ex_alloc fun Ko hKo => ?_;go_simp;(try go_bits);refine hKo _ _ fun fa1 fh1 => ?_;clear hKo Ko fh0 fa0;refine Kd.step fh1 rfl rfl .none Kd.ex_alloc fun Ko hKo => ?_;go_simp;(try go_bits);refine hKo _ _ fun fa2 fh2 => ?_;clear hKo Ko fh1 fa1;refine wpList_nil ?_;refine hK1 _ _ ?_;clear hK1 K1;refine Kd.gen (fun u => St.St u w.heap.size 9 #[.string ⟨#[]⟩] ∧ St.St u (w.heap.size + 1) 29 #[.nilIface] ∧ Below w.heap.size w u) ⟨(St.St.new w _ _).alloc _, by have := St.St.new (w.alloc (.cells #[.string ⟨#[]⟩] 9)) 29 #[.nilIface]; rwa [show (w.alloc (.cells #[.string ⟨#[]⟩] 9)).heap.size = w.heap.size + 1 by simp] at this, ((Below.refl _ w).alloc (Nat.le_refl _) _).alloc (by simp) _⟩ fun w1 hu => ?_;obtain ⟨hS1, hE1, hb1⟩ := hu;have hlt := hE1.lt;have hcc := hc w1 hb1;clear hc hb1;refine wp_seq_k fun K2 hK2 => ?_;refine wp_region_lit ?_;refine Kd.pure fh2 rfl rfl .none (Kd.ex_makeFunc fh2 .nil (.cons (.tmp rfl) (.cons (.tmp rfl) .nil))) fun fa3 fh3 => ?_;clear fh2 fa2;refine Kd.lay fh3 rfl .none (Kd.ex_defer fh3 (.tmp rfl) .nil) fun fa4 fh4 => ?_;clear fh3 fa3;refine wpList_nil ?_;refine hK2 _ _ ?_;clear hK2 K2;replace fh4 := fh4.cut (.cons (t := 7) rfl (.cons (t := 6) rfl (.cons (t := 0) rfl (.cons (t := 1) rfl (.cons (t := 2) rfl .nil)))));refine wp_seq_k fun K3 hK3 => ?_;refine wp_seq_k fun K4 hK4 => ?_;refine wp_region_lit ?_;refine Kd.pure fh4 rfl rfl .none (Kd.ex_move fh4 (.tmp rfl)) fun fa5 fh5 => ?_;clear fh4 fa4;refine Kd.pure fh5 rfl rfl .none (Kd.ex_move fh5 (.tmp rfl)) fun fa6 fh6 => ?_;clear fh5 fa5;refine Kd.call fh6 rfl rfl .none (Kd.ex_callb fh6 (.tmp rfl) (.cons (.tmp rfl) .nil)) hen (hcc) fun e v hp => ?_;obtain ⟨rfl, hsz, hk, hJ⟩ := hp;refine ⟨_, rfl, fun fa7 fh7 => ?_⟩;clear fh6 fa6;have hS := (hk _ (Nat.le_refl _) (Nat.lt_of_succ_lt hlt)).trans hS1;have hE := (hk _ (Nat.le_succ _) hlt).trans hE1;have qa := St.St.cell hS 0 rfl;have qb := St.St.free hS 0;have hE2 := St.St.setCell hE (a := ⟨w.heap.size, 0, none⟩) (by simp) (.string s);have qc := St.St.cell hE2 0 rfl;have qd := St.St.free hE2 0;have hS2 := (St.St.put hS 0 (.string s)).setCell (a := ⟨w.heap.size + 1, 0, none⟩) (by simp) (.nilIface);have hE3 := St.St.put hE2 0 (.nilIface);have HJ := Lib.hid hJ;have HA : Aside w.heap.size w1.heap.size v ((v.setCell ⟨w.heap.size, 0, none⟩ (.string s)).setCell ⟨w.heap.size + 1, 0, none⟩ (.nilIface)) := ((Aside.refl v).put w.heap.size 0 _ (Nat.le_refl _) (Nat.lt_of_succ_lt hlt)).put (w.heap.size + 1) 0 _ (Nat.le_succ _) hlt;clear hJ hcc hk hsz hS1 hE1 hE hS;refine Kd.pure fh7 rfl rfl .none (Kd.ex_move fh7 (.tmp rfl)) fun fa8 fh8 => ?_;clear fh7 fa7;refine Kd.pure fh8 rfl rfl .none (Kd.ex_extract fh8 (.tmp rfl) rfl) fun fa9 fh9 => ?_;clear fh8 fa8;refine Kd.pure fh9 rfl rfl .none (Kd.ex_extract fh9 (.tmp rfl) rfl) fun fa10 fh10 => ?_;clear fh9 fa9;refine Kd.stepU fh10 rfl .none (Kd.ex_store fh10 (.tmp rfl) (.tmp rfl)) fun Ko hKo => ?_;go_simp;(try go_bits);refine hKo _ ?_;clear hKo Ko;refine Kd.stepU fh10 rfl .none (Kd.ex_store fh10 (.tmp rfl) (.tmp rfl)) fun Ko hKo => ?_;go_simp;(try go_bits);refine hKo _ ?_;clear hKo Ko;refine wpList_nil ?_;refine hK4 _ _ ?_;clear hK4 K4;replace fh10 := fh10.cut (.cons (t := 7) rfl (.cons (t := 6) rfl (.cons (t := 2) rfl .nil)));refine Kd.gen (fun u => St.St u w.heap.size 9 #[.string s] ∧ St.St u (w.heap.size + 1) 29 #[.nilIface] ∧ Aside w.heap.size w1.heap.size v u) ⟨hS2, hE3, HA⟩ fun w2 hu => ?_;clear hS2 hE2 hE3 HA qa qb qc qd;obtain ⟨hS2, hE2, HA2⟩ := hu;have qs := hS2.cell 0 rfl;have qsf := hS2.free 0;have qe := hE2.cell 0 rfl;have qef := hE2.free 0;refine wp_seq_k fun K5 hK5 => ?_;refine wp_region_lit ?_;refine Kd.step fh10 rfl rfl .none (Kd.ex_load fh10 (.tmp rfl)) fun Ko hKo => ?_;go_simp;(try go_bits);refine hKo _ _ fun fa11 fh11 => ?_;clear hKo Ko fh10 fa10;refine Kd.step fh11 rfl rfl .none (Kd.ex_bin fh11 (.tmp rfl) .const) fun Ko hKo => ?_;go_simp;(try go_bits);refine hKo _ _ fun fa12 fh12 => ?_;clear hKo Ko fh11 fa11;refine wpList_nil ?_;refine hK5 _ _ ?_;clear hK5 K5;replace fh12 := fh12.cut (.cons (t := 16) rfl (.cons (t := 7) rfl (.cons (t := 6) rfl (.cons (t := 2) rfl .nil))));refine Kd.no fh12 (.tmp rfl) ?_;refine wp_skip ?_;refine hK3 _ _ ?_;clear hK3 K3;replace fh12 := fh12.cut (.cons (t := 7) rfl (.cons (t := 6) rfl (.cons (t := 2) rfl .nil)));refine wp_seq_k fun K6 hK6 => ?_;refine wp_seq_k fun K7 hK7 => ?_;refine wp_region_lit ?_;refine Kd.step fh12 rfl rfl .none (Kd.ex_load fh12 (.tmp rfl)) fun Ko hKo => ?_;go_simp;(try go_bits);refine hKo _ _ fun fa13 fh13 => ?_;clear hKo Ko fh12 fa12;refine Kd.step fh13 rfl rfl .none (Kd.ex_len fh13 (.tmp rfl)) fun Ko hKo => ?_;go_simp;(try go_bits);refine hKo _ _ fun fa14 fh14 => ?_;clear hKo Ko fh13 fa13;refine Kd.pure fh14 rfl rfl .none (Kd.ex_move fh14 (.tmp rfl)) fun fa15 fh15 => ?_;clear fh14 fa14;refine Kd.step fh15 rfl rfl .none (Kd.ex_bin fh15 (.tmp rfl) (.tmp rfl)) fun Ko hKo => ?_;go_simp;(try go_bits);refine hKo _ _ fun fa16 fh16 => ?_;clear hKo Ko fh15 fa15;refine wpList_nil ?_;refine hK7 _ _ ?_;clear hK7 K7;replace fh16 := fh16.cut (.cons (t := 21) rfl (.cons (t := 7) rfl (.cons (t := 6) rfl .nil)));refine Kd.no fh16 (.tmp rfl) ?_;refine wp_skip ?_;refine hK6 _ _ ?_;clear hK6 K6;replace fh16 := fh16.cut (.cons (t := 7) rfl (.cons (t := 6) rfl .nil));refine wp_seq_k fun K8 hK8 => ?_;refine wp_region_lit ?_;refine Kd.step fh16 rfl rfl .none (Kd.ex_load fh16 (.tmp rfl)) fun Ko hKo => ?_;go_simp;(try go_bits);refine hKo _ _ fun fa17 fh17 => ?_;clear hKo Ko fh16 fa16;refine Kd.stepU fh17 rfl .none (Kd.ex_store fh17 (.tmp rfl) (.tmp rfl)) fun Ko hKo => ?_;go_simp;(try go_bits);refine hKo _ ?_;clear hKo Ko;refine Kd.stepU fh17 rfl .none (Kd.ex_store fh17 (.tmp rfl) .const) fun Ko hKo => ?_;go_simp;(try go_bits);refine hKo _ ?_;clear hKo Ko;refine wpList_nil ?_
  refine hK8 _ _ ?_;clear hK8 K8;replace fh17 := fh17.cut (.cons (t := 7) rfl (.cons (t := 6) rfl .nil));have hN : St.St (((w2.setCell ⟨w.heap.size, 0, none⟩ (.string s)).setCell ⟨w.heap.size + 1, 0, none⟩ .nilIface)) w.heap.size 9 #[.string s] ∧ St.St (((w2.setCell ⟨w.heap.size, 0, none⟩ (.string s)).setCell ⟨w.heap.size + 1, 0, none⟩ .nilIface)) (w.heap.size + 1) 29 #[.nilIface] := ⟨(hS2.put 0 _).setCell (by simp) _, (hE2.setCell (by simp) _).put 0 _⟩;refine wp_ret ?_;obtain ⟨hSf, hEf, HAf⟩ : St.St ((w2.setCell ⟨w.heap.size, 0, none⟩ (.string s)).setCell ⟨w.heap.size + 1, 0, none⟩ .nilIface) w.heap.size 9 #[.string s] ∧ St.St ((w2.setCell ⟨w.heap.size, 0, none⟩ (.string s)).setCell ⟨w.heap.size + 1, 0, none⟩ .nilIface) (w.heap.size + 1) 29 #[.nilIface] ∧ Aside w.heap.size w1.heap.size v ((w2.setCell ⟨w.heap.size, 0, none⟩ (.string s)).setCell ⟨w.heap.size + 1, 0, none⟩ .nilIface) := ⟨hN.1, hN.2, (HA2.put w.heap.size 0 _ (Nat.le_refl _) (Nat.lt_of_succ_lt hlt)).put (w.heap.size + 1) 0 _ (Nat.le_succ _) hlt⟩;have qs1 := hSf.cell 0 rfl;have qe1 := hEf.cell 0 rfl;refine Kd.door fh17 rfl rfl rfl Tryz.call118 (catch_idle _ _ _) (v := .string s) (x := .nilIface) ?_ ?_ ⟨rfl, HJ.out _ HAf⟩
  · go_simp
  · go_simp
set_option maxRecDepth 100000 in
set_option maxHeartbeats 4000000 in
theorem ask_form (i : Int) (z : Nat) (fs : FuncId) (vs cs : List Value) (Jn : World → Prop) (w : World) (hen : ∀ (args : Array Value) (w : World), (callFunc fs args).run Tryz.prog w = .ok (.enter fs args) w) (s : ByteArray) (hz : ¬ s.size = z) (hm : s.size ≤ maxLen) (hc : ∀ u, Below w.heap.size w u → Calls Tryz.prog fs (vs ++ [Value.int .i64 i] ++ cs).toArray u fun e v => e = .returned (.tuple #[.string s, .nilIface]) ∧ Left8 Jn w.heap.size u v) :
    Calls Tryz.prog 92 #[.func (.func fs) vs.toArray cs.toArray, .int .i64 i, .int .i64 (z : Int)] w fun e v => e = .returned (.tuple #[.string ⟨#[]⟩, errno 4]) ∧ Jn v := by
  refine Kd.calls Tryz.func92 rfl Tryz.ntmps92 rfl (.cons (t := 0) rfl (.cons (t := 1) rfl (.cons (t := 2) rfl .nil))) fun fa0 fh0 => ?_;refine wp_seq_k fun K1 hK1 => ?_;refine wp_region_lit ?_;refine Kd.step fh0 rfl rfl .none Kd.ex_alloc fun Ko hKo => ?_;go_simp;(try go_bits);refine hKo _ _ fun fa1 fh1 => ?_;clear hKo Ko fh0 fa0;refine Kd.step fh1 rfl rfl .none Kd.ex_alloc fun Ko hKo => ?_;go_simp;(try go_bits);refine hKo _ _ fun fa2 fh2 => ?_;clear hKo Ko fh1 fa1;refine wpList_nil ?_;refine hK1 _ _ ?_;clear hK1 K1;refine Kd.gen (fun u => St.St u w.heap.size 9 #[.string ⟨#[]⟩] ∧ St.St u (w.heap.size + 1) 29 #[.nilIface] ∧ Below w.heap.size w u) ⟨(St.St.new w _ _).alloc _, by have := St.St.new (w.alloc (.cells #[.string ⟨#[]⟩] 9)) 29 #[.nilIface]; rwa [show (w.alloc (.cells #[.string ⟨#[]⟩] 9)).heap.size = w.heap.size + 1 by simp] at this, ((Below.refl _ w).alloc (Nat.le_refl _) _).alloc (by simp) _⟩ fun w1 hu => ?_;obtain ⟨hS1, hE1, hb1⟩ := hu;have hlt := hE1.lt;have hcc := hc w1 hb1;clear hc hb1;refine wp_seq_k fun K2 hK2 => ?_;refine wp_region_lit ?_;refine Kd.pure fh2 rfl rfl .none (Kd.ex_makeFunc fh2 .nil (.cons (.tmp rfl) (.cons (.tmp rfl) .nil))) fun fa3 fh3 => ?_;clear fh2 fa2;refine Kd.lay fh3 rfl .none (Kd.ex_defer fh3 (.tmp rfl) .nil) fun fa4 fh4 => ?_;clear fh3 fa3;refine wpList_nil ?_;refine hK2 _ _ ?_;clear hK2 K2;replace fh4 := fh4.cut (.cons (t := 7) rfl (.cons (t := 6) rfl (.cons (t := 0) rfl (.cons (t := 1) rfl (.cons (t := 2) rfl .nil)))));refine wp_seq_k fun K3 hK3 => ?_;refine wp_seq_k fun K4 hK4 => ?_;refine wp_region_lit ?_;refine Kd.pure fh4 rfl rfl .none (Kd.ex_move fh4 (.tmp rfl)) fun fa5 fh5 => ?_;clear fh4 fa4;refine Kd.pure fh5 rfl rfl .none (Kd.ex_move fh5 (.tmp rfl)) fun fa6 fh6 => ?_;clear fh5 fa5;refine Kd.call fh6 rfl rfl .none (Kd.ex_callb fh6 (.tmp rfl) (.cons (.tmp rfl) .nil)) hen (hcc) fun e v hp => ?_;obtain ⟨rfl, hsz, hk, hJ⟩ := hp;refine ⟨_, rfl, fun fa7 fh7 => ?_⟩;clear fh6 fa6;have hS := (hk _ (Nat.le_refl _) (Nat.lt_of_succ_lt hlt)).trans hS1;have hE := (hk _ (Nat.le_succ _) hlt).trans hE1;have qa := St.St.cell hS 0 rfl;have qb := St.St.free hS 0;have hE2 := St.St.setCell hE (a := ⟨w.heap.size, 0, none⟩) (by simp) (.string s);have qc := St.St.cell hE2 0 rfl;have qd := St.St.free hE2 0;have hS2 := (St.St.put hS 0 (.string s)).setCell (a := ⟨w.heap.size + 1, 0, none⟩) (by simp) (.nilIface);have hE3 := St.St.put hE2 0 (.nilIface);have HJ := Lib.hid hJ;have HA : Aside w.heap.size w1.heap.size v ((v.setCell ⟨w.heap.size, 0, none⟩ (.string s)).setCell ⟨w.heap.size + 1, 0, none⟩ (.nilIface)) := ((Aside.refl v).put w.heap.size 0 _ (Nat.le_refl _) (Nat.lt_of_succ_lt hlt)).put (w.heap.size + 1) 0 _ (Nat.le_succ _) hlt;clear hJ hcc hk hsz hS1 hE1 hE hS;refine Kd.pure fh7 rfl rfl .none (Kd.ex_move fh7 (.tmp rfl)) fun fa8 fh8 => ?_;clear fh7 fa7;refine Kd.pure fh8 rfl rfl .none (Kd.ex_extract fh8 (.tmp rfl) rfl) fun fa9 fh9 => ?_;clear fh8 fa8;refine Kd.pure fh9 rfl rfl .none (Kd.ex_extract fh9 (.tmp rfl) rfl) fun fa10 fh10 => ?_;clear fh9 fa9;refine Kd.stepU fh10 rfl .none (Kd.ex_store fh10 (.tmp rfl) (.tmp rfl)) fun Ko hKo => ?_;go_simp;(try go_bits);refine hKo _ ?_;clear hKo Ko;refine Kd.stepU fh10 rfl .none (Kd.ex_store fh10 (.tmp rfl) (.tmp rfl)) fun Ko hKo => ?_;go_simp;(try go_bits);refine hKo _ ?_;clear hKo Ko;refine wpList_nil ?_;refine hK4 _ _ ?_;clear hK4 K4;replace fh10 := fh10.cut (.cons (t := 7) rfl (.cons (t := 6) rfl (.cons (t := 2) rfl .nil)));refine Kd.gen (fun u => St.St u w.heap.size 9 #[.string s] ∧ St.St u (w.heap.size + 1) 29 #[.nilIface] ∧ Aside w.heap.size w1.heap.size v u) ⟨hS2, hE3, HA⟩ fun w2 hu => ?_;clear hS2 hE2 hE3 HA qa qb qc qd;obtain ⟨hS2, hE2, HA2⟩ := hu;have qs := hS2.cell 0 rfl;have qsf := hS2.free 0;have qe := hE2.cell 0 rfl;have qef := hE2.free 0;refine wp_seq_k fun K5 hK5 => ?_;refine wp_region_lit ?_;refine Kd.step fh10 rfl rfl .none (Kd.ex_load fh10 (.tmp rfl)) fun Ko hKo => ?_;go_simp;(try go_bits);refine hKo _ _ fun fa11 fh11 => ?_;clear hKo Ko fh10 fa10;refine Kd.step fh11 rfl rfl .none (Kd.ex_bin fh11 (.tmp rfl) .const) fun Ko hKo => ?_;go_simp;(try go_bits);refine hKo _ _ fun fa12 fh12 => ?_;clear hKo Ko fh11 fa11;refine wpList_nil ?_;refine hK5 _ _ ?_;clear hK5 K5;replace fh12 := fh12.cut (.cons (t := 16) rfl (.cons (t := 7) rfl (.cons (t := 6) rfl (.cons (t := 2) rfl .nil))));refine Kd.no fh12 (.tmp rfl) ?_;refine wp_skip ?_;refine hK3 _ _ ?_;clear hK3 K3;replace fh12 := fh12.cut (.cons (t := 7) rfl (.cons (t := 6) rfl (.cons (t := 2) rfl .nil)));have qz : ((s.size : Int) != (z : Int)) = true := by rw [bne_iff_ne]; omega
  refine wp_seq_k fun K6 hK6 => ?_;refine wp_seq_k fun K7 hK7 => ?_;refine wp_region_lit ?_;refine Kd.step fh12 rfl rfl .none (Kd.ex_load fh12 (.tmp rfl)) fun Ko hKo => ?_;go_simp;(try go_bits);refine hKo _ _ fun fa13 fh13 => ?_;clear hKo Ko fh12 fa12;refine Kd.step fh13 rfl rfl .none (Kd.ex_len fh13 (.tmp rfl)) fun Ko hKo => ?_;go_simp;(try go_bits);refine hKo _ _ fun fa14 fh14 => ?_;clear hKo Ko fh13 fa13;refine Kd.pure fh14 rfl rfl .none (Kd.ex_move fh14 (.tmp rfl)) fun fa15 fh15 => ?_;clear fh14 fa14;refine Kd.step fh15 rfl rfl .none (Kd.ex_bin fh15 (.tmp rfl) (.tmp rfl)) fun Ko hKo => ?_;go_simp;(try go_bits);refine hKo _ _ fun fa16 fh16 => ?_;clear hKo Ko fh15 fa15;refine wpList_nil ?_;refine hK7 _ _ ?_;clear hK7 K7;replace fh16 := fh16.cut (.cons (t := 21) rfl (.cons (t := 7) rfl (.cons (t := 6) rfl .nil)));refine Kd.yes fh16 (.tmp rfl) ?_;replace fh16 := fh16.cut (.cons (t := 7) rfl (.cons (t := 6) rfl .nil));refine wp_seq_k fun K8 hK8 => ?_;refine wp_region_lit ?_;refine Kd.step fh16 rfl rfl .none (Kd.ex_makeInterface fh16 .const) fun Ko hKo => ?_;go_simp;(try go_bits);refine hKo _ _ fun fa17 fh17 => ?_;clear hKo Ko fh16 fa16;refine Kd.stepU fh17 rfl .none (Kd.ex_store fh17 (.tmp rfl) .const) fun Ko hKo => ?_;go_simp;(try go_bits);refine hKo _ ?_;clear hKo Ko;refine Kd.stepU fh17 rfl .none (Kd.ex_store fh17 (.tmp rfl) (.tmp rfl)) fun Ko hKo => ?_;go_simp;(try go_bits);refine hKo _ ?_;clear hKo Ko;refine wpList_nil ?_;refine hK8 _ _ ?_;clear hK8 K8;replace fh17 := fh17.cut (.cons (t := 7) rfl (.cons (t := 6) rfl .nil));have hN : St.St (((w2.setCell ⟨w.heap.size, 0, none⟩ (.string ⟨#[]⟩)).setCell ⟨w.heap.size + 1, 0, none⟩ (.iface 66 (.int .i64 4)))) w.heap.size 9 #[.string ⟨#[]⟩] ∧ St.St (((w2.setCell ⟨w.heap.size, 0, none⟩ (.string ⟨#[]⟩)).setCell ⟨w.heap.size + 1, 0, none⟩ (.iface 66 (.int .i64 4)))) (w.heap.size + 1) 29 #[(.iface 66 (.int .i64 4))] := ⟨(hS2.put 0 _).setCell (by simp) _, (hE2.setCell (by simp) _).put 0 _⟩;refine wp_ret ?_;refine Kd.then_ret ?_;obtain ⟨hSf, hEf, HAf⟩ : St.St ((w2.setCell ⟨w.heap.size, 0, none⟩ (.string ⟨#[]⟩)).setCell ⟨w.heap.size + 1, 0, none⟩ (.iface 66 (.int .i64 4))) w.heap.size 9 #[.string ⟨#[]⟩] ∧ St.St ((w2.setCell ⟨w.heap.size, 0, none⟩ (.string ⟨#[]⟩)).setCell ⟨w.heap.size + 1, 0, none⟩ (.iface 66 (.int .i64 4))) (w.heap.size + 1) 29 #[(.iface 66 (.int .i64 4))] ∧ Aside w.heap.size w1.heap.size v ((w2.setCell ⟨w.heap.size, 0, none⟩ (.string ⟨#[]⟩)).setCell ⟨w.heap.size + 1, 0, none⟩ (.iface 66 (.int .i64 4))) := ⟨hN.1, hN.2, (HA2.put w.heap.size 0 _ (Nat.le_refl _) (Nat.lt_of_succ_lt hlt)).put (w.heap.size + 1) 0 _ (Nat.le_succ _) hlt⟩;have qs1 := hSf.cell 0 rfl;have qe1 := hEf.cell 0 rfl;refine Kd.door fh17 rfl rfl rfl Tryz.call118 (catch_idle _ _ _) (v := .string ⟨#[]⟩) (x := (.iface 66 (.int .i64 4))) ?_ ?_ ⟨rfl, HJ.out _ HAf⟩
  · go_simp
  · go_simp
end Go.Proofs.YtchdlgdmomcemaaGreatDoor.Blk
end
section
namespace Go.Proofs.YtchdlgdmomcemaaGreatDoor.Blk
open Go Go.RowKit Go.Lib RowG Num
theorem max_run (t u : TypeId) (x y : Int) (w : World) : (Builtin.max_ #[t, t] u #[.int .i64 x, .int .i64 y]).run Tryz.prog w = .ok (.int .i64 (if x < y then y else x)) w := by
  by_cases h : x < y
  · rw [if_pos h];simp [Builtin.max_, Builtin.max2, go_sem, h]; try omega
  · rw [if_neg h];simp [Builtin.max_, Builtin.max2, go_sem, h]; try omega
theorem min_run (t u : TypeId) (x y : Int) (w : World) : (Builtin.min_ #[t, t] u #[.int .i64 x, .int .i64 y]).run Tryz.prog w = .ok (.int .i64 (if y < x then y else x)) w := by
  by_cases h : y < x
  · rw [if_pos h];simp [Builtin.min_, Builtin.min2, go_sem, h]; try omega
  · rw [if_neg h];simp [Builtin.min_, Builtin.min2, go_sem, h]; try omega
def askedK (ts : List ByteArray) (z i : Nat) : Value × Value := match ts[i]? with
  | none => (.string ⟨#[]⟩, .iface 66 (.int .i64 9))
  | some s => if s.size = z then (.string s, .nilIface) else (.string ⟨#[]⟩, .iface 66 (.int .i64 4))
theorem ask_src {K : List Int → (Nat → Prop) → World → Prop} {ts : List ByteArray} {fs : FuncId} {vs cs : List Value} (hen : ∀ (args : Array Value) (w : World), (callFunc fs args).run Tryz.prog w = .ok (.enter fs args) w) (hlt : ∀ ls X u, K ls X u → ∀ b, X b → b < u.heap.size)
    (hcall : ∀ ls X u (i : Int), ls.length ≤ 99999 → K ls X u → Calls Tryz.prog fs (vs ++ [Value.int .i64 i] ++ cs).toArray u fun e v => Tells ts i e ∧ K (ls ++ [i]) X v ∧ u.heap.size ≤ v.heap.size ∧ ∀ b, X b → v.heap[b]? = u.heap[b]?)
    (hgrow : ∀ ls X u u', K ls X u → Turn X u u' → K ls (fun b => X b ∨ (u.heap.size ≤ b ∧ b < u'.heap.size)) u')
    (hsm : ∀ s ∈ ts, s.size ≤ maxLen) (ls : List Int) (X : Nat → Prop) (z i : Nat) (w : World) (hn : ls.length ≤ 99999) (hK : K ls X w) :
    Calls Tryz.prog 92 #[.func (.func fs) vs.toArray cs.toArray, .int .i64 (i : Int), .int .i64 (z : Int)] w fun e v => e = .returned (.tuple #[(askedK ts z i).1, (askedK ts z i).2]) ∧ ∃ X', (∀ b, X b → X' b) ∧ K (ls ++ [(i : Int)]) X' v ∧ ∀ b, X b → v.heap[b]? = w.heap[b]? := by
  have hc : ∀ (a b : Value), (∀ e, Tells ts (i : Int) e → e = .returned (.tuple #[a, b])) → ∀ u, Below w.heap.size w u → Calls Tryz.prog fs (vs ++ [Value.int .i64 (i : Int)] ++ cs).toArray u fun e v => e = .returned (.tuple #[a, b]) ∧ Left8 (fun v => ∃ X', (∀ b, X b → X' b) ∧ K (ls ++ [(i : Int)]) X' v ∧ ∀ b, X b → v.heap[b]? = w.heap[b]?) w.heap.size u v := fun a b ht u hu => by
    refine (hcall ls _ u (i : Int) hn (hgrow _ _ _ _ hK (Turn.of_below hu))).mono fun e v ⟨h1, h2, h3, h4⟩ => ⟨ht e h1, h3, fun b k1 k2 => h4 b (.inr ⟨k1, k2⟩), fun v' ha => ⟨_, fun b e => .inl (.inl e), hgrow _ _ _ _ h2 (ha.turn fun b k1 k2 => .inr ⟨k1, k2⟩), fun b e => ?_⟩⟩;have hb := hlt _ _ _ hK b e;exact (ha.but.block b (Nat.lt_of_lt_of_le hb (Nat.le_trans hu.size h3)) (fun k => by have := k.1; omega)).trans ((h4 b (.inl e)).trans (hu.block b hb))
  unfold askedK
  cases ht : ts[i]? with
  | none =>
    refine ask_err (i : Int) z fs vs cs _ w hen 9 (hc _ _ fun e h => ?_);rcases h with ⟨-, h3⟩ | ⟨k2, s2, h3, h4, -⟩
    · exact h3
    · obtain rfl : i = k2 := by omega
      rw [ht] at h4; cases h4
  | some s =>
    have hT : ∀ e, Tells ts (i : Int) e → e = .returned (.tuple #[.string s, .nilIface]) := fun e h => by
      rcases h with ⟨h3, -⟩ | ⟨k2, s2, h3, h4, h5⟩
      · exfalso; have := (List.getElem?_eq_some_iff.1 ht).1; omega
      · obtain rfl : i = k2 := by omega
        rw [ht] at h4; cases h4; exact h5
    have hm := hsm s (List.mem_of_getElem? ht)
    by_cases hz : s.size = z
    · simp only [if_pos hz];exact ask_ok (i : Int) z fs vs cs _ w hen s hz hm (hc _ _ hT)
    · simp only [if_neg hz];exact ask_form (i : Int) z fs vs cs _ w hen s hz hm (hc _ _ hT)
theorem ext_app (t s : ByteArray) (a b : Nat) : (t ++ s).extract a b = t.extract a b ++ s.extract (a - t.size) (b - t.size) := by
  apply ByteArray.ext
  simp [Array.extract_append]
theorem ext_min (s : ByteArray) (a b : Nat) : s.extract a (min b s.size) = s.extract a b := by
  apply ByteArray.ext
  rw [ByteArray.data_extract, ByteArray.data_extract];have e : s.size = s.data.size := rfl;rw [e];rcases Nat.le_total b s.data.size with h | h
  · rw [Nat.min_eq_left h]
  · rw [Nat.min_eq_right h]
    apply Array.ext
    · simp; omega
    · intro i h1 h2;simp
theorem mk_list (s : ByteArray) : (⟨s.data.toList.toArray⟩ : ByteArray) = s := by
  cases s;simp
end Go.Proofs.YtchdlgdmomcemaaGreatDoor.Blk
end
section
namespace Go.Proofs.YtchdlgdmomcemaaGreatDoor.Blk
open Go Go.RowKit Go.Lib RowG Num
def OwnB (w : World) (v : Value) (l : List UInt8) : Prop := w.ownsRow 0 5 1 v l.length (Lib.byteCells l)
theorem OwnB.nil (w : World) : OwnB w (.slice none 0 0) [] := World.ownsRow_nil _ _ _ _
theorem OwnB.form {w : World} {v : Value} {l : List UInt8} (h : OwnB w v l) : ∃ A c, v = .slice A l.length c := by
  rcases h.2 with ⟨hv, hn⟩ | ⟨g, cap, cur, hv, _⟩
  · exact ⟨none, 0, by rw [hv, hn]⟩
  · exact ⟨_, _, hv⟩
noncomputable def uI8 : TypeInfo := (Tryz.prog.info? 5).get (by kernel_rfl)
theorem bcells_app (a b : List UInt8) : Lib.byteCells (a ++ b) = Lib.byteCells a ++ Lib.byteCells b := by simp [Lib.byteCells]
theorem OwnB.kept {w w' : World} {v : Value} {l : List UInt8} (h : OwnB w v l) (hk : ∀ b, v.ownBlock = some b → w'.heap[b]? = w.heap[b]?) : OwnB w' v l := by
  refine ⟨h.1, ?_⟩;rcases h.2 with h2 | ⟨g, cap, cur, hv, h1, h2, h3⟩
  · exact .inl h2
  · exact .inr ⟨g, cap, cur, hv, h1, (hk g (by rw [hv]; rfl)).trans h2, h3⟩
theorem OwnB.push {w : World} {v : Value} {l : List UInt8} (hO : OwnB w v l) (s : ByteArray) (ty : TypeId) (hl : l.length + s.size ≤ 100000000) :
    ∃ A' c' w', (Builtin.append_ #[136, 9] ty #[v, .string s]).run Tryz.prog w = .ok (.slice A' (l.length + s.size) c') w' ∧ OwnB w' (.slice A' (l.length + s.size) c') (l ++ s.data.toList) ∧ Turn (fun b => v.ownBlock = some b) w w' ∧ ∀ b, (Value.slice A' (l.length + s.size) c').ownBlock = some b → v.ownBlock = some b ∨ (w.heap.size ≤ b ∧ b < w'.heap.size) := by
  have hI0 : Tryz.prog.info? 5 = some uI8 := by kernel_rfl
  have hz0 : uI8.zero = some (.int .u8 0) := by kernel_rfl
  have hz1 : uI8.size = 1 := by kernel_rfl
  have hz2 : uI8.bytes = 1 := by kernel_rfl
  have own := fun base hb ho => Lib.run_append_own_string (P := Tryz.prog) (w := w) base 136 9 ty 5 uI8 Tryz.underlying136 Tryz.underlying9 hI0 hz0 hz1 hz2 v l.length (Lib.byteCells l) ho s (by unfold maxLen; omega) (by omega) hb;have hll : (l ++ s.data.toList).length = l.length + s.size := by rw [List.length_append]; rfl
  have fin : ∀ v' w', (Builtin.append_ #[136, 9] ty #[v, .string s]).run Tryz.prog w = .ok v' w' → w'.ownsRow 0 5 1 v' (l.length + s.size) (Lib.byteCells l ++ strCells s) → w.grownBy w' v.ownBlock → (∀ b, v'.ownBlock = some b → v.ownBlock = some b ∨ (w.heap.size ≤ b ∧ b < w'.heap.size)) →
      ∃ A' c' w', (Builtin.append_ #[136, 9] ty #[v, .string s]).run Tryz.prog w = .ok (.slice A' (l.length + s.size) c') w' ∧ OwnB w' (.slice A' (l.length + s.size) c') (l ++ s.data.toList) ∧ Turn (fun b => v.ownBlock = some b) w w' ∧ ∀ b, (Value.slice A' (l.length + s.size) c').ownBlock = some b → v.ownBlock = some b ∨ (w.heap.size ≤ b ∧ b < w'.heap.size) := fun v' w' hr ho hg hk => by
    have hO2 : OwnB w' v' (l ++ s.data.toList) := by
      unfold OwnB;rw [hll, bcells_app];exact ho
    obtain ⟨A', c', e⟩ := hO2.form;rw [hll] at e;subst e;exact ⟨A', c', w', hr, hO2, ⟨hg.os, hg.tape, hg.output, hg.size, fun b hb hn => hg.block b hb (fun e => hn e.symm)⟩, hk⟩
  rcases hO.2 with ⟨hv, hn⟩ | ⟨g, cap, cur, hv, _, hgc, h4, h5, h6, h7⟩
  · have hO' : w.ownsRow w.heap.size 5 1 v l.length (Lib.byteCells l) := ⟨hO.1, .inl ⟨hv, hn⟩⟩;obtain ⟨v', w', hr, ho, hg, _⟩ := own w.heap.size (Nat.le_refl _) hO';refine fin v' w' hr ⟨ho.1, ?_⟩ hg fun b hb => .inr (ho.lt b hb);rcases ho.2 with h2 | ⟨g, cap, cur, hv, _, h3⟩
    · exact .inl h2
    · exact .inr ⟨g, cap, cur, hv, Nat.zero_le _, h3⟩
  · obtain ⟨v', w', hr, ho, hg, _⟩ := own 0 (Nat.zero_le _) hO;refine fin v' w' hr ho hg ?_;have hlt := ho.lt;subst hv;have hcl : (Lib.byteCells l).length = l.length := by simp [Lib.byteCells]
    by_cases hroom : l.length + s.size ≤ cap
    · have e := Lib.run_append_room_string (P := Tryz.prog) (w := w) 136 9 ty 5 uI8 Tryz.underlying136 Tryz.underlying9 hI0 hz1 g l.length cap cur hgc s hroom (by omega);rw [hr] at e;injection e with e1 e2
      intro b hb;rw [e1] at hb;exact .inl hb
    · have holds : ∀ j u, (Lib.byteCells l)[j]? = some u → w.cell? ((⟨g, 0, none⟩ : Addr).add j) = some u := fun j u hu => by
        rw [Addr.add_lit, Nat.zero_add, cell_of_row w g j cur 5 (0, 0) hgc];rw [← h7, List.getElem?_take] at hu
        split at hu
        · simpa using hu
        · cases hu
      have e := Lib.run_append_grow_string (P := Tryz.prog) (w := w) 136 9 ty 5 uI8 (.int .u8 0) Tryz.underlying136 Tryz.underlying9 hI0 hz0 ⟨g, 0, none⟩ l.length cap (Lib.byteCells l) (by rw [hz1, hcl]; omega) holds s (by omega) (by omega) (by rw [hz2]; exact growslice_fits (by omega) (by omega));rw [hr] at e;injection e with e1 e2
      intro b hb;have := hlt b hb;rw [e1] at hb;have hb : w.heap.size = b := by simpa [Value.ownBlock] using hb
      exact .inr ⟨by omega, this.2⟩
theorem OwnB.text {w : World} {v : Value} {l : List UInt8} (h : OwnB w v l) : (convert 136 9 v).run Tryz.prog w = .ok (.string ⟨l.toArray⟩) w := by
  rcases h.2 with ⟨rfl, h0⟩ | ⟨g, cap, cur, rfl, -, -, -, -, -, -⟩
  · have hl : l = [] := List.eq_nil_of_length_eq_zero h0;subst hl;exact run_convert_nil_bytes w _ _ 5 0 Tryz.underlying136 Tryz.underlying5 Tryz.underlying9
  · have hc := World.ownsRow.cells h (g := g) rfl;exact run_convert_bytes_back (P := Tryz.prog) w _ _ 5 ⟨g, 0, none⟩ cap l Tryz.underlying136 Tryz.underlying5 Tryz.underlying9 (fun j hj => hc j _ (by simp [Lib.byteCells, List.getElem?_eq_getElem hj]))
end Go.Proofs.YtchdlgdmomcemaaGreatDoor.Blk
end
section
namespace Go.Proofs.YtchdlgdmomcemaaGreatDoor.Blk
open Go Go.RowKit Go.Lib RowG Num
set_option maxRecDepth 100000 in
set_option maxHeartbeats 8000000 in
theorem read_in (ts : List ByteArray) (n f mn : Nat) (J : List Int → World → Prop) (x : Value) (w : World) (hn : n ≤ 20000) (hfm : f + mn ≤ n) (hsm : ∀ s ∈ ts, s.size ≤ maxLen) (hS : Src8 J ts x) (hJ : J [] w) :
    Calls Tryz.prog 65 #[x, .int .i64 n, .int .i64 f, .int .i64 mn] w fun e v => Read8 ts n f mn J e v := by
  refine Kn.Z.cl Tryz.func65 rfl Tryz.ntmps65 rfl (.c 0 rfl (.c 1 rfl (.c 2 rfl (.c 3 rfl .n)))) ?_;refine Kn.Z.f fun K1 hK1=>?_;refine Kn.Z.u (.a .c (.a .c .n)) ?_;refine Kn.Z.e hK1 ?_;clear hK1 K1;obtain ⟨K, fs, vs, cs, rfl, hen, hJK, hKJ, hcall, hgrow⟩ := hS;have HK0 := Lib.hid (hJK _ _ hJ);have hlt : ∀ ls X u, K ls X u → ∀ b, X b → b < u.heap.size := fun ls X u h => (hKJ ls X u h).2;have hKj : ∀ ls X u, K ls X u → J ls u := fun ls X u h => (hKJ ls X u h).1;have hask := fun ls X z i u h1 h2 => ask_src (K := K) hen hlt hcall hgrow hsm ls X z i u h1 h2;clear hJ hJK hKJ hcall hlt hsm;have hnd := needs_in n f mn w (by omega) hfm;refine Kn.Z.q fun K2 hK2=>?_;refine Kn.Z.f fun K3 hK3=>?_;refine Kn.Z.u (.m (.t rfl) .n) ?_;refine Kn.Z.s .o (.bin (.t rfl) .c) fun Ko Kp=>?_;go_simp;(try go_bits);refine Kp _ _ ?_;clear Kp Ko;refine Kn.Z.e hK3 ?_;clear hK3 K3;refine Kn.Z.no (.t rfl) ?_;refine Kn.Z.j hK2 ?_;clear hK2 K2;refine Kn.Z.f fun K4 hK4=>?_;refine Kn.Z.u (.m (.t rfl) (.m (.t rfl) (.m (.t rfl) .n))) ?_;refine Kn.Z.c .o (.call (.c (.t rfl) (.c (.t rfl) (.c (.t rfl) .n)))) Tryz.call31 (hnd) fun e w1 hp=>?_;obtain ⟨rfl, rfl⟩ := hp;refine ⟨_,rfl,?_⟩;refine Kn.Z.u (.m (.t rfl) (.x (.t rfl) rfl (.x (.t rfl) rfl (.x (.t rfl) rfl (.a (.t rfl) (.a (.t rfl) (.a (.t rfl) .n))))))) ?_;refine Kn.Z.e hK4 ?_;clear hK4 K4;refine Kn.Z.t (.c 12 rfl (.c 11 rfl (.c 10 rfl (.c 9 rfl (.c 8 rfl (.c 0 rfl (.c 1 rfl (.c 2 rfl (.c 3 rfl .n))))))))) ?_;clear hnd;refine Kn.Z.q fun K5 hK5=>?_;refine Kn.Z.f fun K6 hK6=>?_;refine Kn.Z.u (.m (.t rfl) .n) ?_;refine Kn.Z.s .o (.bin (.t rfl) .c) fun Ko Kp=>?_;go_simp;(try go_bits);refine Kp _ _ ?_;clear Kp Ko;refine Kn.Z.e hK6 ?_;clear hK6 K6;refine Kn.Z.no (.t rfl) ?_;refine Kn.Z.j hK5 ?_;clear hK5 K5;refine Kn.Z.f fun K7 hK7=>?_;refine Kn.Z.u (.a .c .n) ?_;refine Kn.Z.e hK7 ?_;clear hK7 K7
  by_cases hm0 : mn = 0
  · subst hm0;intro fa fh;unfold ndA ndB at fh;simp only [if_true] at fh
    revert fa
    refine Kn.Z.q fun K8 hK8=>?_;refine Kn.Z.f fun K9 hK9=>?_;refine Kn.Z.u (.m (.t rfl) (.m (.t rfl) .n)) ?_;refine Kn.Z.s .o (.bin (.t rfl) (.t rfl)) fun Ko Kp=>?_;go_simp;(try go_bits);refine Kp _ _ ?_;clear Kp Ko;refine Kn.Z.s .o (.bin (.t rfl) .c) fun Ko Kp=>?_;go_simp;(try go_bits);refine Kp _ _ ?_;clear Kp Ko;refine Kn.Z.u (.m .c .n) ?_;refine Kn.Z.e hK9 ?_;clear hK9 K9;refine Kn.Z.b ?_;intro fb fg;refine Kn.loop (fun m fr u => ∃ (k : Nat), Kn.Kn 83 [(39, .int .i64 ((0 : Nat) : Int)), (38, .int .i64 0), (13, .slice none 0 0)] fr ∧ k + m = 0 ∧ w = u) 0 ⟨0, fg.cut (.u 39 rfl rfl (.c 38 rfl (.c 13 rfl .n))), by omega, rfl⟩ ?_;clear fg fb;intro m10 fa u hI Kl10 hKl10;obtain ⟨k, fh, hk, rfl⟩ := hI
    revert fa
    refine Kn.Z.f fun K11 hK11=>?_;refine Kn.Z.s .o (.bin (.t rfl) (.t rfl)) fun Ko Kp=>?_;go_simp;(try go_bits);refine Kp _ _ ?_;clear Kp Ko;refine Kn.Z.e hK11 ?_;clear hK11 K11;refine Kn.Z.q fun K12 hK12=>?_;refine Kn.Z.no (.t rfl) ?_;refine Kn.Z.t (.c 39 rfl (.c 38 rfl (.c 13 rfl .n))) ?_;intro fb fg;refine wp_exit ?_;refine Kn.then_exit ?_;clear hK12 K12;refine Kn.then_exit ?_;clear hKl10 Kl10;refine Kn.block_exit ?_;refine hK8 _ _ ?_;clear hK8 K8;have htx := (OwnB.nil w).text
    revert fb
    refine Kn.Z.f fun K13 hK13=>?_;refine Kn.Z.u (.m (.t rfl) .n) ?_;refine Kn.Z.k .o (.convert (.t rfl)) htx ?_;refine Kn.Z.u (.a (.t rfl) (.a .c .n)) ?_;refine Kn.Z.e hK13 ?_;clear hK13 K13;intro fb fg;refine wp_ret ?_;refine Kn.ret2 fg rfl rfl rfl ?_;show Read8 ts n f 0 J _ _;unfold Read8 needK;simp only [if_true, scanK];refine ⟨?_, hKj _ _ _ HK0.out⟩;rw [show textK ts f 0 = ⟨#[]⟩ from empty_of (text_size (n := n) (by omega) rfl)]
  obtain ⟨a, ha⟩ : ∃ a, f / 64 = a := ⟨_, rfl⟩;obtain ⟨b, hbb⟩ : ∃ b, (f + mn - 1) / 64 = b := ⟨_, rfl⟩;obtain ⟨N, hN⟩ : ∃ N, needK f mn = N := ⟨_, rfl⟩;have hN2 : N = b - a + 1 := by rw [← hN, needK, if_neg hm0, ha, hbb]
  have hab : a ≤ b := by omega
  have hbc : b < cntK n := by unfold cntK; omega
  have hb8 : b ≤ 400 := by omega
  have hA0 : ndA f mn = (a : Int) := by unfold ndA; rw [if_neg hm0, ha]
  have hB0 : ndB f mn = (b : Int) := by unfold ndB; rw [if_neg hm0, hbb]
  intro fa fh;rw [hA0, hB0] at fh;clear hA0 hB0;obtain ⟨sk, hsk⟩ : ∃ q, f - 64 * a = q := ⟨_, rfl⟩;obtain ⟨se, hse⟩ : ∃ q, sk + mn = q := ⟨_, rfl⟩;have hP : ∀ e v, (match scanK ts n a N with | some (i, c) => e = .returned (.tuple #[.string ⟨#[]⟩, fault i c]) ∧ ∃ ls, J ls v | none => e = .returned (.tuple #[.string ((catK ((ts.drop a).take N)).extract sk se), .nilIface]) ∧ J (upK a N) v) → Read8 ts n f mn J e v := fun e v h => by unfold Read8 textK; rw [ha, hN, hsk, hse]; exact h
  obtain ⟨r, hr⟩ : ∃ r, scanK ts n a N = r := ⟨_, rfl⟩;rw [hr] at hP;obtain ⟨d, hd⟩ : ∃ d, b - a = d := ⟨_, rfl⟩;have rd1 : (b : Int) - (a : Int) = (d : Int) := by omega
  have rd2 : (d : Int) + 1 = (N : Int) := by omega
  have hNs : N ≤ 401 := by omega
  have hNb1 : a + N ≤ b + 1 := by omega
  have hNb2 : b + 1 ≤ a + N := by omega
  have hsk1 : sk + 64 * a ≤ f := by omega
  have hsk2 : f ≤ sk + 64 * a := by omega
  have hsk3 : sk < 64 := by omega
  have hse1 : sk + mn ≤ se := by omega
  have hse2 : se ≤ sk + mn := by omega
  have hbf : 64 * b < f + mn := by omega
  clear hN2 hN ha hbb hsk hse
  revert fa
  refine Kn.Z.q fun K8 hK8=>?_;refine Kn.Z.f fun K9 hK9=>?_;refine Kn.Z.u (.m (.t rfl) (.m (.t rfl) .n)) ?_;refine Kn.Z.s .o (.bin (.t rfl) (.t rfl)) fun Ko Kp=>?_;go_simp;(try go_bits);refine Kp _ _ ?_;clear Kp Ko;refine Kn.Z.s .o (.bin (.t rfl) .c) fun Ko Kp=>?_;go_simp;(try go_bits);refine Kp _ _ ?_;clear Kp Ko;refine Kn.Z.u (.m .c .n) ?_;refine Kn.Z.e hK9 ?_;clear hK9 K9;clear rd1 rd2 hd;refine Kn.Z.b ?_;intro fb fg;refine Kn.loop (fun m fr u => ∃ (k i : Nat) (bv : Value) (X : Nat → Prop), Kn.Kn 83 [(39, .int .i64 (k : Int)), (38, .int .i64 (N : Int)), (13, bv), (10, .int .i64 (a : Int)), (0, .func (.func fs) vs.toArray cs.toArray), (1, .int .i64 (n : Int)), (2, .int .i64 (f : Int)), (3, .int .i64 (mn : Int))] fr ∧ k + m = N ∧ a + k = i ∧ scanK ts n i (N - k) = r ∧ (k < N → (catK ((ts.drop a).take k)).size = 64 * k) ∧ (catK ((ts.drop a).take k)).size ≤ 64 * k ∧ Hid (OwnB u bv ((catK ((ts.drop a).take k)).extract sk se).data.toList) ∧ Hid (K (upK a k) X u) ∧ Hid (∀ b, bv.ownBlock = some b → X b)) N ⟨0, a, .slice none 0 0, fun _ => False, fg.cut (.u 39 rfl rfl (.c 38 rfl (.c 13 rfl (.c 10 rfl (.c 0 rfl (.c 1 rfl (.c 2 rfl (.c 3 rfl .n)))))))), by omega, by omega, by rw [Nat.sub_zero]; exact hr, fun _ => rfl, Nat.le_refl _, Lib.hid (by rw [List.take_zero, show (catK []).extract sk se = ⟨#[]⟩ from empty_of (by rw [ByteArray.size_extract]; show min se 0 - sk = 0; omega)]; exact OwnB.nil _), HK0, Lib.hid (fun b e => by cases e)⟩ ?_;clear fg fb;intro m10 fa u hI Kl10 hKl10;obtain ⟨k, i, bv, X, fh, hk, hi, hsn, hcz, hcs, HO, HK, HX⟩ := hI
  by_cases hlk : k < N
  · have hib : i ≤ b := by omega
    have hic : i < cntK n := by omega
    rw [show N - k = (N - (k + 1)) + 1 by omega, scanK] at hsn;have rik : (a : Int) + (k : Int) = (i : Int) := by omega
    have hsz := size_any n (i : Int) u (by omega);have hza := szK_at hic;obtain ⟨z, hz⟩ : ∃ z, szK n (i : Int) = z := ⟨_, rfl⟩;rw [hz] at hza hsz;have hcl := hask (upK a k) X z i u (by simp [upK]; omega) HK.out;rw [show upK a k ++ [(i : Int)] = upK a (k + 1) by rw [upK_push, hi]] at hcl;have hsz0 := hcz hlk;clear hcz HK
    revert fa
    refine Kn.Z.f fun K11 hK11=>?_;refine Kn.Z.s .o (.bin (.t rfl) (.t rfl)) fun Ko Kp=>?_;go_simp;(try go_bits);refine Kp _ _ ?_;clear Kp Ko;refine Kn.Z.e hK11 ?_;clear hK11 K11;refine Kn.Z.q fun K12 hK12=>?_;refine Kn.Z.y (.t rfl) ?_;refine Kn.Z.j hK12 ?_;clear hK12 K12;refine Kn.Z.t (.c 39 rfl (.c 38 rfl (.c 13 rfl (.c 10 rfl (.c 0 rfl (.c 1 rfl (.c 2 rfl (.c 3 rfl .n)))))))) ?_;refine Kn.Z.q fun K13 hK13=>?_;refine Kn.Z.b ?_;refine Kn.Z.f fun K14 hK14=>?_;refine Kn.Z.u (.m (.t rfl) (.a (.t rfl) .n)) ?_;refine Kn.Z.e hK14 ?_;clear hK14 K14;refine Kn.Z.f fun K15 hK15=>?_;refine Kn.Z.u (.m (.t rfl) (.m (.t rfl) .n)) ?_;refine Kn.Z.s .o (.bin (.t rfl) (.t rfl)) fun Ko Kp=>?_;go_simp;(try go_bits);refine Kp _ _ ?_;clear Kp Ko;refine Kn.Z.u (.a (.t rfl) .n) ?_;refine Kn.Z.e hK15 ?_;clear hK15 K15;unfold askedK at hcl;intro fb fg
    cases ht : ts[i]? with
    | none =>
      rw [ht] at hcl;simp only at hcl;have hbd : badK ts n i = some 9 := by unfold badK; rw [ht]
      rw [hbd] at hsn;subst hsn;refine wp_seq_k fun K16 hK16 => ?_;refine wp_region_lit ?_;refine Kn.pure fg rfl rfl .none (Kn.ex_move fg (.t rfl)) fun fa fh => ?_;clear fg fb;refine Kn.pure fh rfl rfl .none (Kn.ex_move fh (.t rfl)) fun fb fg => ?_;clear fh fa;refine Kn.pure fg rfl rfl .none (Kn.ex_move fg (.t rfl)) fun fa fh => ?_;clear fg fb;refine Kn.pure fh rfl rfl .none (Kn.ex_move fh (.t rfl)) fun fb fg => ?_;clear fh fa;refine Kn.call fg rfl rfl .none (Kn.ex_call fg (.cons (.t rfl) (.cons (.t rfl) .nil))) Tryz.call74 (hsz) fun e u1 hp => ?_;obtain ⟨rfl, rfl⟩ := hp;refine ⟨_, rfl, fun fa fh => ?_⟩;clear fg fb;refine Kn.call fh rfl rfl .none (Kn.ex_call fh (.cons (.t rfl) (.cons (.t rfl) (.cons (.t rfl) .nil)))) Tryz.call92 (hcl) fun e u2 hp => ?_;obtain ⟨rfl, X2, -, hK2, -⟩ := hp;refine ⟨_, rfl, fun fb fg => ?_⟩;clear fh fa;refine Kn.pure fg rfl rfl .none (Kn.ex_move fg (.t rfl)) fun fa fh => ?_;clear fg fb;refine Kn.pure fh rfl rfl .none (Kn.ex_extract fh (.t rfl) rfl) fun fb fg => ?_;clear fh fa;refine Kn.pure fg rfl rfl .none (Kn.ex_extract fg (.t rfl) rfl) fun fa fh => ?_;clear fg fb;refine Kn.pure fh rfl rfl .none (Kn.ex_assign fh (.t rfl)) fun fb fg => ?_;clear fh fa;refine Kn.pure fg rfl rfl .none (Kn.ex_assign fg (.t rfl)) fun fa fh => ?_;clear fg fb;refine wpList_nil ?_;refine hK16 _ _ ?_;clear hK16 K16;replace fh := fh.cut (.c 17 rfl (.c 16 rfl (.c 15 rfl (.c 39 rfl (.c 38 rfl (.c 13 rfl (.c 10 rfl (.c 0 rfl (.c 1 rfl (.c 2 rfl (.c 3 rfl .n)))))))))));refine wp_seq_k fun K17 hK17 => ?_;refine wp_seq_k fun K18 hK18 => ?_;refine wp_region_lit ?_;refine Kn.pure fh rfl rfl .none (Kn.ex_move fh (.t rfl)) fun fb fg => ?_;clear fh fa;refine Kn.step fg rfl rfl .none (Kn.ex_bin fg (.t rfl) .const) fun Ko hKo => ?_;go_simp;(try go_bits);refine hKo _ _ fun fa fh => ?_;clear hKo Ko fg fb;refine wpList_nil ?_;refine hK18 _ _ ?_;clear hK18 K18;replace fh := fh.cut (.c 55 rfl (.c 17 rfl (.c 16 rfl (.c 15 rfl (.c 39 rfl (.c 38 rfl (.c 13 rfl (.c 10 rfl (.c 0 rfl (.c 1 rfl (.c 2 rfl (.c 3 rfl .n))))))))))));refine Kn.yes fh (.t rfl) ?_;replace fh := fh.cut (.c 17 rfl (.c 16 rfl (.c 15 rfl (.c 39 rfl (.c 38 rfl (.c 13 rfl (.c 10 rfl (.c 0 rfl (.c 1 rfl (.c 2 rfl (.c 3 rfl .n)))))))))));refine wp_seq_k fun K19 hK19 => ?_;refine wp_region_lit ?_;refine Kn.pure fh rfl rfl .none (Kn.ex_move fh (.t rfl)) fun fb fg => ?_;clear fh fa;refine Kn.pure fg rfl rfl .none (Kn.ex_move fg (.t rfl)) fun fa fh => ?_;clear fg fb;refine Kn.step fh rfl rfl .none (Kn.ex_build fh (.cons (.t rfl) (.cons (.t rfl) .nil))) fun Ko hKo => ?_;go_simp;(try go_bits);refine hKo _ _ fun fb fg => ?_;clear hKo Ko fh fa;refine Kn.step fg rfl rfl .none (Kn.ex_makeInterface fg (.t rfl)) fun Ko hKo => ?_;go_simp;(try go_bits);refine hKo _ _ fun fa fh => ?_;clear hKo Ko fg fb;refine Kn.pure fh rfl rfl .none (Kn.ex_assign fh .const) fun fb fg => ?_;clear fh fa;refine Kn.pure fg rfl rfl .none (Kn.ex_assign fg (.t rfl)) fun fa fh => ?_;clear fg fb;refine wpList_nil ?_;refine hK19 _ _ ?_;clear hK19 K19;replace fh := fh.cut (.c 9 rfl (.c 8 rfl (.c 16 rfl (.c 15 rfl (.c 39 rfl (.c 38 rfl (.c 13 rfl (.c 10 rfl (.c 0 rfl (.c 1 rfl (.c 2 rfl (.c 3 rfl .n))))))))))));refine wp_ret ?_;refine Kn.then_ret ?_;refine Kn.block_ret ?_;refine Kn.then_ret ?_;refine Kn.then_ret ?_;refine Kn.block_ret ?_;refine Kn.then_ret ?_;exact Kn.ret2 fh rfl rfl rfl (hP _ _ ⟨rfl, _, hKj _ _ _ hK2⟩)
    | some s =>
      rw [ht] at hcl;simp only at hcl;have hbd : badK ts n i = if s.size = z then none else some 4 := by unfold badK; rw [ht]; simp only [hz]
      by_cases g2 : s.size = z
      · simp only [if_pos g2] at hcl;rw [hbd, if_pos g2] at hsn;simp only at hsn;have hct := catK_drop (l := ts) (a := a) (c := k) (s := s) (by rw [hi]; exact ht);obtain ⟨t0, ht0⟩ : ∃ t, catK ((ts.drop a).take k) = t := ⟨_, rfl⟩;rw [ht0] at hct hcs hsz0 HO;obtain ⟨p, hp⟩ : ∃ p, 64 * i = p := ⟨_, rfl⟩;obtain ⟨bg, hbg⟩ : ∃ q, sk - 64 * k = q := ⟨_, rfl⟩;obtain ⟨e1, he1⟩ : ∃ q, se - 64 * k = q := ⟨_, rfl⟩;obtain ⟨en, hen2⟩ : ∃ q, min e1 z = q := ⟨_, rfl⟩;have hfa : 64 * a ≤ f := by omega
        have rp : (i : Int) * 64 = (p : Int) := by omega
        have hmx : ∀ u, (Builtin.max_ #[3, 3] 3 #[.int .i64 ((f : Int) - (p : Int)), .int .i64 0]).run Tryz.prog u = .ok (.int .i64 (bg : Int)) u := fun u => by
          rw [max_run, show (if (f : Int) - (p : Int) < 0 then (0 : Int) else (f : Int) - (p : Int)) = (bg : Int) by split <;> omega]
        have r3 : (f : Int) + (mn : Int) = ((f + mn : Nat) : Int) := by omega
        obtain ⟨fm, hfm2⟩ : ∃ q, f + mn = q := ⟨_, rfl⟩;have r4 : (f : Int) + (mn : Int) = (fm : Int) := by omega
        have r5 : (fm : Int) - (p : Int) = (e1 : Int) := by omega
        have hmi : ∀ u, (Builtin.min_ #[3, 3] 3 #[.int .i64 (e1 : Int), .int .i64 (z : Int)]).run Tryz.prog u = .ok (.int .i64 (en : Int)) u := fun u => by
          rw [min_run, show (if (z : Int) < (e1 : Int) then (z : Int) else (e1 : Int)) = (en : Int) by split <;> omega]
        have hbe : bg ≤ en := by
          by_cases hk0 : k = 0
          · subst hk0; omega
          · omega
        obtain ⟨q, hq⟩ : ∃ q, s.extract bg en = q := ⟨_, rfl⟩;have hqs : q.size ≤ 64 := by rw [← hq, ByteArray.size_extract]; omega
        have hsl : ∀ v, (Instr.sliceAt 9 (.string s) (some (.int .i64 (bg : Int))) (some (.int .i64 (en : Int))) none).run Tryz.prog v = .ok (.string q) v := fun v => by
          have := run_slice_string (P := Tryz.prog) v 9 s .i64 .i64 bg en Tryz.underlying9 (by omega) (by omega) (by omega);rw [Int.toNat_natCast, Int.toNat_natCast, hq] at this;rw [run_sliceAt_string _ _ _ _ _ _ Tryz.underlying9];exact this
        have hnew : (catK ((ts.drop a).take (k + 1))).extract sk se = t0.extract sk se ++ q := by
          rw [← hct, ext_app, hsz0, hbg, he1, ← ext_min s bg e1, g2, hen2, hq]
        have hnsz : (catK ((ts.drop a).take (k + 1))).size = 64 * k + z := by rw [← hct, ByteArray.size_append, hsz0, g2]
        have hls : (t0.extract sk se).data.toList.length ≤ 30000 := by
          have : (t0.extract sk se).data.toList.length = (t0.extract sk se).size := by rw [Array.length_toList]; rfl
          rw [this, ByteArray.size_extract]; omega
        have hfp : -9223372036854775808 ≤ (f : Int) - (p : Int) ∧ (f : Int) - (p : Int) ≤ 9223372036854775807 := by omega
        have hnext : k + 1 < N → z = 64 := fun h => by rw [hza]; unfold cntK at hbc; omega
        have hpn : p ≤ 30000 := by omega
        have hz64 : z ≤ 64 := by omega
        clear hct ht0 hq hen2 he1 hbg hp hfm2 hfa r3 hza;refine wp_seq_k fun K16 hK16 => ?_;refine wp_region_lit ?_;refine Kn.pure fg rfl rfl .none (Kn.ex_move fg (.t rfl)) fun fa fh => ?_;clear fg fb;refine Kn.pure fh rfl rfl .none (Kn.ex_move fh (.t rfl)) fun fb fg => ?_;clear fh fa;refine Kn.pure fg rfl rfl .none (Kn.ex_move fg (.t rfl)) fun fa fh => ?_;clear fg fb;refine Kn.pure fh rfl rfl .none (Kn.ex_move fh (.t rfl)) fun fb fg => ?_;clear fh fa;refine Kn.call fg rfl rfl .none (Kn.ex_call fg (.cons (.t rfl) (.cons (.t rfl) .nil))) Tryz.call74 (hsz) fun e u1 hp => ?_;obtain ⟨rfl, rfl⟩ := hp;refine ⟨_, rfl, fun fa fh => ?_⟩;clear fg fb;refine Kn.call fh rfl rfl .none (Kn.ex_call fh (.cons (.t rfl) (.cons (.t rfl) (.cons (.t rfl) .nil)))) Tryz.call92 (hcl) fun e u2 hp => ?_;obtain ⟨rfl, X2, hX2, hK2, hkp⟩ := hp;refine ⟨_, rfl, fun fb fg => ?_⟩;clear fh fa;refine Kn.pure fg rfl rfl .none (Kn.ex_move fg (.t rfl)) fun fa fh => ?_;clear fg fb;refine Kn.pure fh rfl rfl .none (Kn.ex_extract fh (.t rfl) rfl) fun fb fg => ?_;clear fh fa;refine Kn.pure fg rfl rfl .none (Kn.ex_extract fg (.t rfl) rfl) fun fa fh => ?_;clear fg fb;refine Kn.pure fh rfl rfl .none (Kn.ex_assign fh (.t rfl)) fun fb fg => ?_;clear fh fa;refine Kn.pure fg rfl rfl .none (Kn.ex_assign fg (.t rfl)) fun fa fh => ?_;clear fg fb;refine wpList_nil ?_;refine hK16 _ _ ?_;clear hK16 K16;replace fh := fh.cut (.c 17 rfl (.c 16 rfl (.c 15 rfl (.c 39 rfl (.c 38 rfl (.c 13 rfl (.c 10 rfl (.c 0 rfl (.c 1 rfl (.c 2 rfl (.c 3 rfl .n)))))))))));have hO2 := HO.out.kept (w' := u2) fun b e => hkp b (HX.out b e);obtain ⟨A3, c3, u3, hrun, hO3, ht3, hx3⟩ := hO2.push q 136 (by omega)
        have HN : Hid (∃ X3, OwnB u3 (.slice A3 ((t0.extract sk se).data.toList.length + q.size) c3) ((catK ((ts.drop a).take (k + 1))).extract sk se).data.toList ∧ K (upK a (k + 1)) X3 u3 ∧ ∀ b, (Value.slice A3 ((t0.extract sk se).data.toList.length + q.size) c3).ownBlock = some b → X3 b) := Lib.hid ⟨_, (by
            rw [hnew, show ((t0.extract sk se) ++ q).data.toList = (t0.extract sk se).data.toList ++ q.data.toList by simp]
            exact hO3), hgrow _ _ _ _ hK2 ⟨ht3.os, ht3.tape, ht3.output, ht3.but.mono fun b _ e => hX2 b (HX.out b e)⟩, fun b e => by
              rcases hx3 b e with h | h
              · exact .inl (hX2 b (HX.out b h))
              · exact .inr h⟩
        clear hO2 hO3 ht3 hx3 hK2 hkp hX2 HO HX hcl hnew;refine wp_seq_k fun K17 hK17 => ?_;refine wp_seq_k fun K18 hK18 => ?_;refine wp_region_lit ?_;refine Kn.pure fh rfl rfl .none (Kn.ex_move fh (.t rfl)) fun fb fg => ?_;clear fh fa;refine Kn.step fg rfl rfl .none (Kn.ex_bin fg (.t rfl) .const) fun Ko hKo => ?_;go_simp;(try go_bits);refine hKo _ _ fun fa fh => ?_;clear hKo Ko fg fb;refine wpList_nil ?_;refine hK18 _ _ ?_;clear hK18 K18;replace fh := fh.cut (.c 55 rfl (.c 17 rfl (.c 16 rfl (.c 15 rfl (.c 39 rfl (.c 38 rfl (.c 13 rfl (.c 10 rfl (.c 0 rfl (.c 1 rfl (.c 2 rfl (.c 3 rfl .n))))))))))));refine Kn.no fh (.t rfl) ?_;refine wp_skip ?_;refine hK17 _ _ ?_;clear hK17 K17;replace fh := fh.cut (.c 16 rfl (.c 15 rfl (.c 39 rfl (.c 38 rfl (.c 13 rfl (.c 10 rfl (.c 0 rfl (.c 1 rfl (.c 2 rfl (.c 3 rfl .n))))))))));refine wp_seq_k fun K19 hK19 => ?_;refine wp_region_lit ?_;refine Kn.pure fh rfl rfl .none (Kn.ex_move fh (.t rfl)) fun fb fg => ?_;clear fh fa;refine Kn.step fg rfl rfl .none (Kn.ex_bin fg (.t rfl) .const) fun Ko hKo => ?_;go_simp;(try go_bits);refine hKo _ _ fun fa fh => ?_;clear hKo Ko fg fb;refine Kn.pure fh rfl rfl .none (Kn.ex_assign fh (.t rfl)) fun fb fg => ?_;clear fh fa;refine wpList_nil ?_;refine hK19 _ _ ?_;clear hK19 K19;replace fg := fg.cut (.c 18 rfl (.c 16 rfl (.c 39 rfl (.c 38 rfl (.c 13 rfl (.c 10 rfl (.c 0 rfl (.c 1 rfl (.c 2 rfl (.c 3 rfl .n))))))))));clear rp;refine wp_seq_k fun K20 hK20 => ?_;refine wp_region_lit ?_;refine Kn.pure fg rfl rfl .none (Kn.ex_move fg (.t rfl)) fun fa fh => ?_;clear fg fb;refine Kn.pure fh rfl rfl .none (Kn.ex_move fh (.t rfl)) fun fb fg => ?_;clear fh fa;refine Kn.step fg rfl rfl .none (Kn.ex_bin fg (.t rfl) (.t rfl)) fun Ko hKo => ?_;go_simp;(try go_bits);refine hKo _ _ fun fa fh => ?_;clear hKo Ko fg fb;refine Kn.known fh rfl rfl .none (Kn.ex_max fh (.cons (.t rfl) (.cons .const .nil))) (hmx u2) fun fb fg => ?_;clear fh fa;refine Kn.pure fg rfl rfl .none (Kn.ex_move fg (.t rfl)) fun fa fh => ?_;clear fg fb;refine Kn.pure fh rfl rfl .none (Kn.ex_move fh (.t rfl)) fun fb fg => ?_;clear fh fa;refine Kn.step fg rfl rfl .none (Kn.ex_bin fg (.t rfl) (.t rfl)) fun Ko hKo => ?_;go_simp;(try go_bits);refine hKo _ _ fun fa fh => ?_;clear hKo Ko fg fb;refine Kn.pure fh rfl rfl .none (Kn.ex_move fh (.t rfl)) fun fb fg => ?_;clear fh fa;refine Kn.step fg rfl rfl .none (Kn.ex_bin fg (.t rfl) (.t rfl)) fun Ko hKo => ?_;go_simp;(try go_bits);refine hKo _ _ fun fa fh => ?_;clear hKo Ko fg fb;refine Kn.pure fh rfl rfl .none (Kn.ex_move fh (.t rfl)) fun fb fg => ?_;clear fh fa;refine Kn.step fg rfl rfl .none (Kn.ex_len fg (.t rfl)) fun Ko hKo => ?_;go_simp;(try go_bits);refine hKo _ _ fun fa fh => ?_;clear hKo Ko fg fb;refine Kn.known fh rfl rfl .none (Kn.ex_min fh (.cons (.t rfl) (.cons (.t rfl) .nil))) (hmi u2) fun fb fg => ?_;clear fh fa;refine Kn.pure fg rfl rfl .none (Kn.ex_assign fg (.t rfl)) fun fa fh => ?_;clear fg fb;refine Kn.pure fh rfl rfl .none (Kn.ex_assign fh (.t rfl)) fun fb fg => ?_;clear fh fa;refine wpList_nil ?_;refine hK20 _ _ ?_;clear hK20 K20;replace fg := fg.cut (.c 20 rfl (.c 19 rfl (.c 16 rfl (.c 39 rfl (.c 38 rfl (.c 13 rfl (.c 10 rfl (.c 0 rfl (.c 1 rfl (.c 2 rfl (.c 3 rfl .n)))))))))));clear r4 r5 hfp hmx hmi;refine wp_region_lit ?_;refine Kn.pure fg rfl rfl .none (Kn.ex_move fg (.t rfl)) fun fa fh => ?_;clear fg fb;refine Kn.pure fh rfl rfl .none (Kn.ex_move fh (.t rfl)) fun fb fg => ?_;clear fh fa;refine Kn.pure fg rfl rfl .none (Kn.ex_move fg (.t rfl)) fun fa fh => ?_;clear fg fb;refine Kn.pure fh rfl rfl .none (Kn.ex_move fh (.t rfl)) fun fb fg => ?_;clear fh fa;refine Kn.known fg rfl rfl .none (Kn.ex_sliceLH fg (.t rfl) (.t rfl) (.t rfl)) (hsl u2) fun fa fh => ?_;clear fg fb;refine Kn.known fh rfl rfl .none (Kn.ex_append fh (.cons (.t rfl) (.cons (.t rfl) .nil))) hrun fun fb fg => ?_;clear fh fa;refine Kn.pure fg rfl rfl .none (Kn.ex_assign fg (.t rfl)) fun fa fh => ?_;clear fg fb;refine wpList_nil ?_;refine Kn.block_normal ?_;refine hK13 _ _ ?_;clear hK13 K13;replace fh := fh.cut (.c 13 rfl (.c 39 rfl (.c 38 rfl (.c 10 rfl (.c 0 rfl (.c 1 rfl (.c 2 rfl (.c 3 rfl .n))))))));clear hrun hsl;obtain ⟨X3, hO3, hK3, hx3⟩ := HN.out;clear rik;refine wp_region_lit ?_;refine Kn.step fh rfl rfl .none (Kn.ex_bin fh (.t rfl) .const) fun Ko hKo => ?_;go_simp;(try go_bits);refine hKo _ _ fun fb fg => ?_;clear hKo Ko fh fa;refine Kn.pure fg rfl rfl .none (Kn.ex_move fg (.t rfl)) fun fa fh => ?_;clear fg fb;refine wpList_nil ?_;replace fh := fh.cut (.c 39 rfl (.c 13 rfl (.c 38 rfl (.c 10 rfl (.c 0 rfl (.c 1 rfl (.c 2 rfl (.c 3 rfl .n))))))));exact hKl10 (m10 - 1) _ _ (by omega) ⟨k + 1, i + 1, _, X3, fh.cut (.u 39 rfl (by go_num) (.c 38 rfl (.c 13 rfl (.c 10 rfl (.c 0 rfl (.c 1 rfl (.c 2 rfl (.c 3 rfl .n)))))))), by omega, by omega, hsn, fun h => by rw [hnsz, hnext h]; omega, by rw [hnsz]; omega, Lib.hid hO3, Lib.hid hK3, Lib.hid hx3⟩
      simp only [if_neg g2] at hcl;rw [hbd, if_neg g2] at hsn;subst hsn;refine wp_seq_k fun K16 hK16 => ?_;refine wp_region_lit ?_;refine Kn.pure fg rfl rfl .none (Kn.ex_move fg (.t rfl)) fun fa fh => ?_;clear fg fb;refine Kn.pure fh rfl rfl .none (Kn.ex_move fh (.t rfl)) fun fb fg => ?_;clear fh fa;refine Kn.pure fg rfl rfl .none (Kn.ex_move fg (.t rfl)) fun fa fh => ?_;clear fg fb;refine Kn.pure fh rfl rfl .none (Kn.ex_move fh (.t rfl)) fun fb fg => ?_;clear fh fa;refine Kn.call fg rfl rfl .none (Kn.ex_call fg (.cons (.t rfl) (.cons (.t rfl) .nil))) Tryz.call74 (hsz) fun e u1 hp => ?_;obtain ⟨rfl, rfl⟩ := hp;refine ⟨_, rfl, fun fa fh => ?_⟩;clear fg fb;refine Kn.call fh rfl rfl .none (Kn.ex_call fh (.cons (.t rfl) (.cons (.t rfl) (.cons (.t rfl) .nil)))) Tryz.call92 (hcl) fun e u2 hp => ?_;obtain ⟨rfl, X2, -, hK2, -⟩ := hp;refine ⟨_, rfl, fun fb fg => ?_⟩;clear fh fa;refine Kn.pure fg rfl rfl .none (Kn.ex_move fg (.t rfl)) fun fa fh => ?_;clear fg fb;refine Kn.pure fh rfl rfl .none (Kn.ex_extract fh (.t rfl) rfl) fun fb fg => ?_;clear fh fa;refine Kn.pure fg rfl rfl .none (Kn.ex_extract fg (.t rfl) rfl) fun fa fh => ?_;clear fg fb;refine Kn.pure fh rfl rfl .none (Kn.ex_assign fh (.t rfl)) fun fb fg => ?_;clear fh fa;refine Kn.pure fg rfl rfl .none (Kn.ex_assign fg (.t rfl)) fun fa fh => ?_;clear fg fb;refine wpList_nil ?_;refine hK16 _ _ ?_;clear hK16 K16;replace fh := fh.cut (.c 17 rfl (.c 16 rfl (.c 15 rfl (.c 39 rfl (.c 38 rfl (.c 13 rfl (.c 10 rfl (.c 0 rfl (.c 1 rfl (.c 2 rfl (.c 3 rfl .n)))))))))));refine wp_seq_k fun K17 hK17 => ?_;refine wp_seq_k fun K18 hK18 => ?_;refine wp_region_lit ?_;refine Kn.pure fh rfl rfl .none (Kn.ex_move fh (.t rfl)) fun fb fg => ?_;clear fh fa;refine Kn.step fg rfl rfl .none (Kn.ex_bin fg (.t rfl) .const) fun Ko hKo => ?_;go_simp;(try go_bits);refine hKo _ _ fun fa fh => ?_;clear hKo Ko fg fb;refine wpList_nil ?_;refine hK18 _ _ ?_;clear hK18 K18;replace fh := fh.cut (.c 55 rfl (.c 17 rfl (.c 16 rfl (.c 15 rfl (.c 39 rfl (.c 38 rfl (.c 13 rfl (.c 10 rfl (.c 0 rfl (.c 1 rfl (.c 2 rfl (.c 3 rfl .n))))))))))));refine Kn.yes fh (.t rfl) ?_;replace fh := fh.cut (.c 17 rfl (.c 16 rfl (.c 15 rfl (.c 39 rfl (.c 38 rfl (.c 13 rfl (.c 10 rfl (.c 0 rfl (.c 1 rfl (.c 2 rfl (.c 3 rfl .n)))))))))));refine wp_seq_k fun K19 hK19 => ?_;refine wp_region_lit ?_;refine Kn.pure fh rfl rfl .none (Kn.ex_move fh (.t rfl)) fun fb fg => ?_;clear fh fa;refine Kn.pure fg rfl rfl .none (Kn.ex_move fg (.t rfl)) fun fa fh => ?_;clear fg fb;refine Kn.step fh rfl rfl .none (Kn.ex_build fh (.cons (.t rfl) (.cons (.t rfl) .nil))) fun Ko hKo => ?_;go_simp;(try go_bits);refine hKo _ _ fun fb fg => ?_;clear hKo Ko fh fa;refine Kn.step fg rfl rfl .none (Kn.ex_makeInterface fg (.t rfl)) fun Ko hKo => ?_;go_simp;(try go_bits);refine hKo _ _ fun fa fh => ?_;clear hKo Ko fg fb;refine Kn.pure fh rfl rfl .none (Kn.ex_assign fh .const) fun fb fg => ?_;clear fh fa;refine Kn.pure fg rfl rfl .none (Kn.ex_assign fg (.t rfl)) fun fa fh => ?_;clear fg fb;refine wpList_nil ?_;refine hK19 _ _ ?_;clear hK19 K19;replace fh := fh.cut (.c 9 rfl (.c 8 rfl (.c 16 rfl (.c 15 rfl (.c 39 rfl (.c 38 rfl (.c 13 rfl (.c 10 rfl (.c 0 rfl (.c 1 rfl (.c 2 rfl (.c 3 rfl .n))))))))))));refine wp_ret ?_;refine Kn.then_ret ?_;refine Kn.block_ret ?_;refine Kn.then_ret ?_;refine Kn.then_ret ?_;refine Kn.block_ret ?_;refine Kn.then_ret ?_;exact Kn.ret2 fh rfl rfl rfl (hP _ _ ⟨rfl, _, hKj _ _ _ hK2⟩)
  have hkn : k = N := by omega
  subst hkn;rw [Nat.sub_self, scanK] at hsn;subst hsn;have htx := HO.out.text;rw [mk_list] at htx
  revert fa
  refine Kn.Z.f fun K11 hK11=>?_;refine Kn.Z.s .o (.bin (.t rfl) (.t rfl)) fun Ko Kp=>?_;go_simp;(try go_bits);refine Kp _ _ ?_;clear Kp Ko;refine Kn.Z.e hK11 ?_;clear hK11 K11;refine Kn.Z.q fun K12 hK12=>?_;refine Kn.Z.no (.t rfl) ?_;refine Kn.Z.t (.c 39 rfl (.c 38 rfl (.c 13 rfl (.c 10 rfl (.c 0 rfl (.c 1 rfl (.c 2 rfl (.c 3 rfl .n)))))))) ?_;intro fb fg;refine wp_exit ?_;refine Kn.then_exit ?_;clear hK12 K12;refine Kn.then_exit ?_;clear hKl10 Kl10;refine Kn.block_exit ?_;refine hK8 _ _ ?_;clear hK8 K8
  revert fb
  refine Kn.Z.f fun K13 hK13=>?_;refine Kn.Z.u (.m (.t rfl) .n) ?_;refine Kn.Z.k .o (.convert (.t rfl)) htx ?_;refine Kn.Z.u (.a (.t rfl) (.a .c .n)) ?_;refine Kn.Z.e hK13 ?_;clear hK13 K13;refine Kn.Z.t (.c 9 rfl (.c 8 rfl .n)) ?_;intro fb fg;refine wp_ret ?_;exact Kn.ret2 fg rfl rfl rfl (hP _ _ ⟨rfl, hKj _ _ _ HK.out⟩)
end Go.Proofs.YtchdlgdmomcemaaGreatDoor.Blk
end
section
namespace Go.Proofs.YtchdlgdmomcemaaGreatDoor.Shd
open Go Go.RowKit Go.Lib Oct Num Gap RowG Edg Csr
section
variable {s : ByteArray} {N v : Int}
theorem degree_q {q : Int} (hs : s.size ≤ maxLen) (hN0 : 0 ≤ N) (hN : N ≤ 4096) (hr : seekR s N v = .inr q) (w : World) : Calls Tryz.prog 29 #[.string s, .int .i64 N, .int .i64 v] w fun e w' => e = .returned (.tuple #[.int .i64 (cnt s q N).1, gE (cnt s q N).2.2.1 (cnt s q N).2.2.2]) ∧ Below w.heap.size w w' := by
  refine (degree_g s N v w hs hN0 hN).mono fun e w' ⟨hb, h⟩ => ?_;rw [hr] at h;rcases h with ⟨T', X', h1, -⟩ | ⟨q', h1, h2⟩
  · cases h1
  · cases h1; exact ⟨h2, hb⟩
theorem degree_ok {q : Int} (hs : s.size ≤ maxLen) (hN0 : 0 ≤ N) (hN : N ≤ 4096) (hr : seekR s N v = .inr q) (hc : (cnt s q N).2.2.1 = 0) (w : World) : Calls Tryz.prog 29 #[.string s, .int .i64 N, .int .i64 v] w fun e w' => e = .returned (.tuple #[.int .i64 (cnt s q N).1, .nilIface]) ∧ Below w.heap.size w w' := by
  have h := degree_q hs hN0 hN hr w;rw [hc, gE_0] at h;exact h
theorem degree_in7 {q nx : Int} {l : List Int} (hs : s.size ≤ maxLen) (hN0 : 0 ≤ N) (hN : N ≤ 4096) (hr : seekR s N v = .inr q) (hg : gtC s q N v = .inr (l, nx)) (w : World) : Calls Tryz.prog 29 #[.string s, .int .i64 N, .int .i64 v] w fun e w' => e = .returned (.tuple #[.int .i64 (l.length : Int), .nilIface]) ∧ Below w.heap.size w w' := by
  obtain ⟨h1, h2, -⟩ := got_more hg;have h := degree_ok hs hN0 hN hr h1 w;rw [h2] at h;exact h
end
end Go.Proofs.YtchdlgdmomcemaaGreatDoor.Shd
end
section
namespace Go.Proofs.YtchdlgdmomcemaaGreatDoor.Prb
open Go Go.RowKit Go.Lib RowG Edg Csr Num Shd Man Gap
theorem cnt_src {ts : List ByteArray} {fid : FuncId} {vs cs : List Value} {p : Nat} {Sp : Nat → World → Prop} {w : World} (hp : p < w.heap.size) (hen : ∀ (args : Array Value) (w : World), (callFunc fid args).run Tryz.prog w = .ok (.enter fid args) w)
    (hon : ∀ n u v, Sp n u → Fr p (p + 1) w u → (∀ b, b < w.heap.size → v.heap[b]? = u.heap[b]?) → u.heap.size ≤ v.heap.size → Sp n v)
    (hcall : ∀ n u (i : Int), n ≤ 99999 → Sp n u → Fr p (p + 1) w u → Calls Tryz.prog fid (vs ++ [Value.int .i64 i] ++ cs).toArray u fun e v => Blk.Tells ts i e ∧ Sp (n + 1) v ∧ Fr p (p + 1) u v) :
    Blk.Src8 (fun ls v => Sp ls.length v ∧ Fr p (p + 1) w v) ts (.func (.func fid) vs.toArray cs.toArray) := by
  refine ⟨fun ls X v => (Sp ls.length v ∧ Fr p (p + 1) w v) ∧ ∀ b, X b → w.heap.size ≤ b ∧ b < v.heap.size, fid, vs, cs, rfl, hen, fun _ _ h => ⟨h, fun _ e => e.elim⟩, fun _ _ _ h => ⟨h.1, fun b e => (h.2 b e).2⟩, fun ls X u i hn h => ?_, fun ls X u u' h ht => ?_⟩
  · refine (hcall ls.length u i hn h.1.1 h.1.2).mono fun e v ⟨h1, h2, h3⟩ => ⟨h1, ⟨⟨by rw [List.length_append]; exact h2, h.1.2.trans h3⟩, fun b e => ⟨(h.2 b e).1, Nat.lt_of_lt_of_le (h.2 b e).2 h3.size⟩⟩, h3.size, fun b e => h3.block b (h.2 b e).2 (.inr (by have := (h.2 b e).1; omega))⟩
  · have hs := h.1.2.size;have keep : ∀ b, b < w.heap.size → u'.heap[b]? = u.heap[b]? := fun b hb => ht.but.block b (by omega) fun e => by have := (h.2 b e).1; omega
    refine ⟨⟨hon _ _ _ h.1.1 h.1.2 keep ht.but.size, ⟨ht.os.trans h.1.2.os, ht.tape.trans h.1.2.tape, ht.output.trans h.1.2.output, Nat.le_trans hs ht.but.size, fun b hb hne => (keep b hb).trans (h.1.2.block b hb hne)⟩⟩, fun b e => ?_⟩;rcases e with e | e
    · exact ⟨(h.2 b e).1, Nat.lt_of_lt_of_le (h.2 b e).2 ht.but.size⟩
    · exact ⟨by omega, e.2⟩
theorem up_len (a c : Nat) : (Blk.upK a c).length = c := by simp [Blk.upK]
section
variable {N E k : Nat} {ys : List (Int × Int)}
theorem need_nk (hE : 1 ≤ E) (hk : k < N) : Blk.needK (offK ys N E k) (lenK ys N E k) = nK ys N E k := by
  have h := len_3 (ys := ys) hk hE;have h2 := nk_int (ys := ys) hE hk;have h3 : offK ys N E k / 64 ≤ (offK ys N E k + lenK ys N E k - 1) / 64 := Nat.div_le_div_right (by omega);unfold nA nB Blk.ndA Blk.ndB at h2;rw [if_neg (by omega), if_neg (by omega)] at h2;unfold Blk.needK;rw [if_neg (by omega)];omega
theorem at_part (hV : Ver N E ys) (hk : k < N) : ∃ q nx, seekR (partF ys N E (k / E)) (N : Int) (k : Int) = .inr q ∧ gtC (partF ys N E (k / E)) q (N : Int) (k : Int) = .inr (trg ys (k : Int), nx) := by
  have hi := node_cut hV.e1 hk;obtain ⟨-, hgs⟩ := gs_part hV.srt hV.good hV.e1 hi;obtain ⟨-, -, -, -, h5⟩ := seek_of_gs hgs;have hE := hV.e1;have hm : k / E * E + k % E = k := Nat.div_add_mod' k E;have hlt : k % E < E := Nat.mod_lt _ hE;have hll : (lP ys N E (k / E)).length = min E (N - k / E * E) := by unfold lP; rw [lsR_len]
  obtain ⟨q, nx, h6, h7⟩ := h5 (k % E) (by rw [hll]; omega);have e1 : fP E (k / E) + ((k % E : Nat) : Int) = (k : Int) := by unfold fP; omega
  rw [e1] at h6 h7;refine ⟨q, nx, h6, ?_⟩;rw [h7]
  have e3 : (lP ys N E (k / E))[k % E]? = some (trg ys (k : Int)) := by
    unfold lP lsR;rw [List.getElem?_map, List.getElem?_range (by omega)];show some (rowsF ys (k / E * E) (k % E)) = _;unfold rowsF
    congr 2
  have e2 : ∀ h, (lP ys N E (k / E))[k % E]'h = trg ys (k : Int) := fun h => by
    have := List.getElem?_eq_getElem h;rw [e3] at this;injection this with this
    exact this.symm
  rw [e2]
end
end Go.Proofs.YtchdlgdmomcemaaGreatDoor.Prb
end
section
namespace Go.Proofs.YtchdlgdmomcemaaGreatDoor.Man
open Go Go.RowKit Go.Lib RowG
theorem bind_okM {α β : Type} {P : Program} {s : Sem α} {f : α → Sem β} {w w' : World} {a : α} (h : s.run P w = .ok a w') : (s >>= f).run P w = (f a).run P w' := by
  rw [Sem.run_bind, h]
  rfl
def shV (p : Int × Int) : Value := .agg #[.int .i64 p.1, .int .i64 p.2]
theorem eq_shV (p q : Int × Int) (w : World) : (Op.equalIn 10000 98 (shV p) (shV q)).run Tryz.prog w = .ok (decide (p = q)) w := by
  have u3 := Tryz.underlying3;have a3 := Tryz.isAgg3;have z3 := Tryz.sizeOf3;have hS : Tryz.prog.underlying 98 = some (.struct (Tryz.prog.fieldsOf 98)) := by kernel_rfl
  have hp : Tryz.prog.stoodInHeld 98 = false := by kernel_rfl
  obtain ⟨a, b⟩ := p;obtain ⟨c, d⟩ := q;simp only [shV];rw [show (10000 : Nat) = 9999 + 1 from rfl, run_equalIn_agg w 9999 98 _ _ hS hp];simp only [Program.fieldsOf, Tryz.underlying98];go_simp
  by_cases h1 : a = c <;> by_cases h2 : b = d <;> simp [h1, h2]
theorem neq_shV (x y : Operand) (a b c d : Int) (r : Bool) (hr : (!decide ((a, b) = (c, d))) = r) (w : World) : (do eqGuard .neq 98 x y (.agg #[.int .i64 a, .int .i64 b]) (.agg #[.int .i64 c, .int .i64 d]); binOp .neq 98 (.agg #[.int .i64 a, .int .i64 b]) (.agg #[.int .i64 c, .int .i64 d]) : Sem Value).run Tryz.prog w = .ok (.bool r) w := by
  have h1 : (eqGuard .neq 98 x y (shV (a, b)) (shV (c, d))).run Tryz.prog w = .ok () w := run_eqGuard_agg w .neq _ x y _ _ (by kernel_rfl);have h2 := eq_shV (a, b) (c, d) w;simp only [shV] at h1 h2;refine (bind_okM h1).trans ?_;rw [run_neq_struct, h2, ← hr];simp
set_option maxRecDepth 100000 in
set_option maxHeartbeats 1000000 in
theorem equalS_any (l1 l2 : List (Int × Int)) (A B : Option Addr) (c d : Nat) (w : World) (hA : RIn ipR w A l1) (hB : RIn ipR w B l2) (h1 : l1.length ≤ 100) :
    Calls Tryz.prog 68 #[.slice A l1.length c, .slice B l2.length d] w fun e w' => e = .returned (.bool (decide (l1 = l2))) ∧ Below w.heap.size w w' := by
  refine Kn.Z.cl Tryz.func68 rfl Tryz.ntmps68 rfl (.c 0 rfl (.c 1 rfl .n)) ?_;refine Kn.Z.f fun K1 hK1=>?_;refine Kn.Z.u (.a .c .n) ?_;refine Kn.Z.e hK1 ?_;clear hK1 K1
  by_cases hl : l1.length = l2.length
  rotate_left
  · have hli : ((l1.length : Int) != (l2.length : Int)) = true := by rw [bne_iff_ne]; omega
    have hln : (l1.length != l2.length) = true := by rw [bne_iff_ne]; exact hl
    refine Kn.Z.q fun K2 hK2=>?_;refine Kn.Z.f fun K3 hK3=>?_;refine Kn.Z.u (.m (.t rfl) .n) ?_;refine Kn.Z.s .o (.len (.t rfl)) fun Ko Kp=>?_;go_simp;(try go_bits);refine Kp _ _ ?_;clear Kp Ko;refine Kn.Z.u (.m (.t rfl) .n) ?_;refine Kn.Z.s .o (.len (.t rfl)) fun Ko Kp=>?_;go_simp;(try go_bits);refine Kp _ _ ?_;clear Kp Ko;refine Kn.Z.s .o (.bin (.t rfl) (.t rfl)) fun Ko Kp=>?_;go_simp;(try go_bits);refine Kp _ _ ?_;clear Kp Ko;refine Kn.Z.e hK3 ?_;clear hK3 K3;refine Kn.Z.y (.t rfl) ?_;refine Kn.Z.f fun K4 hK4=>?_;refine Kn.Z.u (.a .c .n) ?_;refine Kn.Z.e hK4 ?_;clear hK4 K4;intro fb fg;refine wp_ret ?_;refine Kn.then_ret ?_;exact Kn.ret1 fg rfl rfl ⟨by rw [decide_eq_false fun h : l1 = l2 => hl (by rw [h])], Below.refl _ _⟩
  have hli : ((l1.length : Int) != (l2.length : Int)) = false := by rw [hl]; simp
  have hln : (l1.length != l2.length) = false := by rw [hl]; simp
  refine Kn.Z.q fun K2 hK2=>?_;refine Kn.Z.f fun K3 hK3=>?_;refine Kn.Z.u (.m (.t rfl) .n) ?_;refine Kn.Z.s .o (.len (.t rfl)) fun Ko Kp=>?_;go_simp;(try go_bits);refine Kp _ _ ?_;clear Kp Ko;refine Kn.Z.u (.m (.t rfl) .n) ?_;refine Kn.Z.s .o (.len (.t rfl)) fun Ko Kp=>?_;go_simp;(try go_bits);refine Kp _ _ ?_;clear Kp Ko;refine Kn.Z.s .o (.bin (.t rfl) (.t rfl)) fun Ko Kp=>?_;go_simp;(try go_bits);refine Kp _ _ ?_;clear Kp Ko;refine Kn.Z.e hK3 ?_;clear hK3 K3;refine Kn.Z.no (.t rfl) ?_;refine Kn.Z.j hK2 ?_;clear hK2 K2;clear hli hln;obtain ⟨L, hL⟩ : ∃ L, l1.length = L := ⟨_, rfl⟩;have hL2 : l2.length = L := by rw [← hl, hL]
  intro fa fh;rw [hL] at fh h1;rw [hL2] at fh;have HL := Lib.hid hL;have HL2 := Lib.hid hL2;have HA := Lib.hid hA;have HB := Lib.hid hB;clear hL hL2 hl hA hB
  revert fa
  refine Kn.Z.q fun K4 hK4=>?_;refine Kn.Z.f fun K5 hK5=>?_;refine Kn.Z.u (.m (.t rfl) .n) ?_;refine Kn.Z.s .o (.len (.t rfl)) fun Ko Kp=>?_;go_simp;(try go_bits);refine Kp _ _ ?_;clear Kp Ko;refine Kn.Z.u (.m .c .n) ?_;refine Kn.Z.e hK5 ?_;clear hK5 K5;refine Kn.Z.b ?_;intro fb fg;refine Kn.loop (fun m fr v => ∃ (j : Nat), Kn.Kn 26 [(0, .slice A L c), (1, .slice B L d), (12, .int .i64 (L : Int)), (13, .int .i64 (j : Int))] fr ∧ Hid (j + m = L ∧ ∀ q, q < j → fst l1 q = fst l2 q ∧ byt l1 q = byt l2 q) ∧ Hid (Below w.heap.size w v)) L ⟨0, fg.cut (.c 0 rfl (.c 1 rfl (.c 12 rfl (.u 13 rfl (by go_num) .n)))), Lib.hid ⟨by omega, fun q h => absurd h (Nat.not_lt_zero _)⟩, Lib.hid (Below.refl _ _)⟩ ?_;clear fg fb;intro m6 fa v hI Kl6 hKl6;obtain ⟨j, fh, hj, HV⟩ := hI;have hjle : j ≤ L := by have := hj.out.1; omega
  by_cases hlt : j < L
  · have hlti : (j : Int) < (L : Int) := by omega
    obtain ⟨b1, o1, hA1, -, c1, c2⟩ := ipc (HA.out.on HV.out) (show j < l1.length by have := HL.out; omega);obtain ⟨b2, o2, hB1, -, c3, c4⟩ := ipc (HB.out.on HV.out) (show j < l2.length by have := HL2.out; omega);subst hA1 hB1;obtain ⟨f1, hf1⟩ : ∃ x, fst l1 j = x := ⟨_, rfl⟩;obtain ⟨y1, hy1⟩ : ∃ x, byt l1 j = x := ⟨_, rfl⟩;obtain ⟨f2, hf2⟩ : ∃ x, fst l2 j = x := ⟨_, rfl⟩;obtain ⟨y2, hy2⟩ : ∃ x, byt l2 j = x := ⟨_, rfl⟩;rw [hf1] at c1;rw [hy1] at c2;rw [hf2] at c3;rw [hy2] at c4;have HF1 := Lib.hid hf1;have HY1 := Lib.hid hy1;have HF2 := Lib.hid hf2;have HY2 := Lib.hid hy2;have HP1 := Lib.hid (ld_sh (w := v.drew) c1 c2);have HP2 := Lib.hid (ld_sh (w := v.drew) c3 c4);have HD := Lib.hid (HV.out.trans ((show Below v.heap.size v v.drew from ⟨rfl, rfl, rfl, Nat.le_refl _, fun _ _ => rfl⟩).mono HV.out.size));clear hf1 hy1 hf2 hy2 c1 c2 c3 c4
    revert fa
    refine Kn.Z.f fun K7 hK7=>?_;refine Kn.Z.s .o (.bin (.t rfl) (.t rfl)) fun Ko Kp=>?_;go_simp;(try go_bits);refine Kp _ _ ?_;clear Kp Ko;refine Kn.Z.e hK7 ?_;clear hK7 K7;refine Kn.Z.q fun K8 hK8=>?_;refine Kn.Z.y (.t rfl) ?_;refine Kn.Z.j hK8 ?_;clear hK8 K8;refine Kn.Z.t (.c 0 rfl (.c 1 rfl (.c 12 rfl (.c 13 rfl .n)))) ?_;refine Kn.Z.q fun K9 hK9=>?_;refine Kn.Z.b ?_;refine Kn.Z.f fun K10 hK10=>?_;refine Kn.Z.u (.m (.t rfl) (.a (.t rfl) .n)) ?_;refine Kn.Z.e hK10 ?_;clear hK10 K10
    by_cases he : (f1, y1) = (f2, y2)
    rotate_left
    · have HNE := Lib.hid (neq_shV (r := true) · · f1 y1 f2 y2 (by rw [decide_eq_false he]; rfl) v.drew);refine Kn.Z.q fun K11 hK11=>?_;refine Kn.Z.st (by kernel_rfl) (by kernel_rfl) ?_;refine Kn.Z.us (.m (.t rfl) (.m (.t rfl) .n)) ?_;refine Kn.Z.ss .o (.indexAddr (.t rfl) (.t rfl)) fun Ko Kp=>?_;go_simp;(try go_bits);refine Kp _ ?_;clear Kp Ko;refine Kn.Z.ss .o (.load (.t rfl)) fun Ko Kp=>?_;rw [HP1.out];refine Kp _ ?_;clear Kp Ko;refine Kn.Z.us (.m (.t rfl) (.m (.t rfl) .n)) ?_;refine Kn.Z.ss .o (.indexAddr (.t rfl) (.t rfl)) fun Ko Kp=>?_;go_simp;(try go_bits);refine Kp _ ?_;clear Kp Ko;refine Kn.Z.ss .o (.load (.t rfl)) fun Ko Kp=>?_;rw [HP2.out];refine Kp _ ?_;clear Kp Ko;refine Kn.Z.ss .o (.bin (.t rfl) (.t rfl)) fun Ko Kp=>?_;rw [(HNE.out _ _)];refine Kp _ ?_;clear Kp Ko;refine Kn.Z.se hK11 ?_;clear hK11 K11;refine Kn.Z.t (.c 24 rfl (.c 0 rfl (.c 1 rfl (.c 12 rfl (.c 13 rfl .n))))) ?_;refine Kn.Z.y (.t rfl) ?_;refine Kn.Z.f fun K12 hK12=>?_;refine Kn.Z.u (.a .c .n) ?_;refine Kn.Z.e hK12 ?_;clear hK12 K12;intro fb fg;refine wp_ret ?_;refine Kn.block_ret ?_;refine Kn.then_ret ?_;refine Kn.then_ret ?_;refine Kn.block_ret ?_;refine Kn.then_ret ?_;have hne : ¬ l1 = l2 := fun h => he (by rw [← HF1.out, ← HY1.out, ← HF2.out, ← HY2.out, h]);exact Kn.ret1 fg rfl rfl ⟨by rw [decide_eq_false hne], HD.out⟩
    have HNE := Lib.hid (neq_shV (r := false) · · f1 y1 f2 y2 (by rw [decide_eq_true he]; rfl) v.drew);have HE := Lib.hid he;clear he;refine Kn.Z.q fun K11 hK11=>?_;refine Kn.Z.st (by kernel_rfl) (by kernel_rfl) ?_;refine Kn.Z.us (.m (.t rfl) (.m (.t rfl) .n)) ?_;refine Kn.Z.ss .o (.indexAddr (.t rfl) (.t rfl)) fun Ko Kp=>?_;go_simp;(try go_bits);refine Kp _ ?_;clear Kp Ko;refine Kn.Z.ss .o (.load (.t rfl)) fun Ko Kp=>?_;rw [HP1.out];refine Kp _ ?_;clear Kp Ko;refine Kn.Z.us (.m (.t rfl) (.m (.t rfl) .n)) ?_;refine Kn.Z.ss .o (.indexAddr (.t rfl) (.t rfl)) fun Ko Kp=>?_;go_simp;(try go_bits);refine Kp _ ?_;clear Kp Ko;refine Kn.Z.ss .o (.load (.t rfl)) fun Ko Kp=>?_;rw [HP2.out];refine Kp _ ?_;clear Kp Ko;refine Kn.Z.ss .o (.bin (.t rfl) (.t rfl)) fun Ko Kp=>?_;rw [(HNE.out _ _)];refine Kp _ ?_;clear Kp Ko;refine Kn.Z.se hK11 ?_;clear hK11 K11;refine Kn.Z.t (.c 24 rfl (.c 0 rfl (.c 1 rfl (.c 12 rfl (.c 13 rfl .n))))) ?_;refine Kn.Z.no (.t rfl) ?_;intro fa fh;refine wp_skip ?_;refine Kn.block_normal ?_;refine hK9 _ _ ?_;clear hK9 K9
    revert fa
    refine Kn.Z.r ?_;refine Kn.Z.s .o (.bin (.t rfl) .c) fun Ko Kp=>?_;go_simp;(try go_bits);refine Kp _ _ ?_;clear Kp Ko;refine Kn.Z.u (.m (.t rfl) .n) ?_;intro fa fh;refine wpList_nil ?_;replace fh := fh.cut (.c 13 rfl (.c 0 rfl (.c 1 rfl (.c 12 rfl .n))));have hj' := hj.out.1
    exact hKl6 (m6 - 1) _ _ (by omega) ⟨j + 1, fh.cut (.c 0 rfl (.c 1 rfl (.c 12 rfl (.u 13 rfl (by go_num) .n)))), Lib.hid ⟨by omega, fun q hq => by
        by_cases e : q = j
        · subst e;have h9 := HE.out;rw [HF1.out, HY1.out, HF2.out, HY2.out];injection h9 with e1 e2
          exact ⟨e1, e2⟩
        · exact hj.out.2 q (by omega)⟩, HD⟩
  have hlti : ¬ (j : Int) < (L : Int) := by omega
  obtain rfl : j = L := by omega
  revert fa
  refine Kn.Z.f fun K7 hK7=>?_;refine Kn.Z.s .o (.bin (.t rfl) (.t rfl)) fun Ko Kp=>?_;go_simp;(try go_bits);refine Kp _ _ ?_;clear Kp Ko;refine Kn.Z.e hK7 ?_;clear hK7 K7;refine Kn.Z.q fun K8 hK8=>?_;refine Kn.Z.no (.t rfl) ?_;refine Kn.Z.t (.c 0 rfl (.c 1 rfl (.c 12 rfl (.c 13 rfl .n)))) ?_;intro fb fg;refine wp_exit ?_;refine Kn.then_exit ?_;clear hK8 K8;refine Kn.then_exit ?_;clear hKl6 Kl6;refine Kn.block_exit ?_;refine hK4 _ _ ?_;clear hK4 K4
  revert fb
  refine Kn.Z.f fun K9 hK9=>?_;refine Kn.Z.u (.a .c .n) ?_;refine Kn.Z.e hK9 ?_;clear hK9 K9;intro fa fh;refine wp_ret ?_;exact Kn.ret1 fh rfl rfl ⟨by rw [decide_eq_true (sh_ext (HL.out.trans HL2.out.symm) fun q hq => hj.out.2 q (by have := HL.out; omega))], HV.out⟩
set_option maxRecDepth 100000 in
set_option maxHeartbeats 1000000 in
theorem where_in (m : MF) (A : Option Addr) (c : Nat) (k : Nat) (w : World) (hG : Good m) (hM : MIn m A c w) (hk : (k : Int) < m.n) :
    Calls Tryz.prog 55 #[.agg #[.int .i64 m.v, .int .i64 m.n, .int .i64 m.e, .slice A m.sh.length c, .int .i64 m.b, .string m.r], .int .i64 (k : Int)] w fun e w' => (∃ i, i < m.sh.length ∧ fst m.sh i ≤ (k : Int) ∧ (i + 1 < m.sh.length → (k : Int) < fst m.sh (i + 1)) ∧ e = .returned (.tuple #[.int .i64 (i : Int), .int .i64 (totK m.sh i), .nilIface])) ∧ Below w.heap.size w w' := by
  refine Kn.Z.cl Tryz.func55 rfl Tryz.ntmps55 rfl (.c 0 rfl (.c 1 rfl .n)) ?_;refine Kn.Z.f fun K1 hK1=>?_;refine Kn.Z.s .o (.box (.t rfl)) fun Ko Kp=>?_;go_simp;(try go_bits);refine Kp _ _ ?_;clear Kp Ko;refine Kn.Z.u (.a .c (.a .c (.a .c .n))) ?_;refine Kn.Z.e hK1 ?_;clear hK1 K1;refine Kn.Z.g (fun u => KM w m A c w.heap.size u) ⟨St.St.new _ _ _, hM.on ((Below.refl _ w).alloc (Nat.le_refl _) _), (Below.refl _ w).alloc (Nat.le_refl _) _⟩ fun u hu => ?_;obtain ⟨g, hg⟩ : ∃ g, w.heap.size = g := ⟨_, rfl⟩;intro fa fh;rw [hg] at hu fh;have hr32 := hG.r;have hck := check_v m A c u hu.mi (by rw [hr32]; decide);rw [chkV_good hG] at hck;have HLM := Lib.hid (loadM hu.st Tryz.underlying34 rfl (by kernel_rfl));have HU := Lib.hid hu;clear hg hM hu hr32
  revert fa
  refine Kn.Z.q fun K2 hK2=>?_;refine Kn.Z.f fun K3 hK3=>?_;refine Kn.Z.k .o (.load (.t rfl)) HLM.out ?_;refine Kn.Z.c .o (.call (.c (.t rfl) .n)) Tryz.call21 (hck) fun e u1 hp=>?_;obtain ⟨rfl, hb1⟩ := hp;refine ⟨_,rfl,?_⟩;refine Kn.Z.u (.a (.t rfl) .n) ?_;refine Kn.Z.e hK3 ?_;clear hK3 K3;refine Kn.Z.f fun K4 hK4=>?_;refine Kn.Z.u (.m (.t rfl) .n) ?_;refine Kn.Z.s .o (.bin (.t rfl) .c) fun Ko Kp=>?_;go_simp;(try go_bits);refine Kp _ _ ?_;clear Kp Ko;refine Kn.Z.e hK4 ?_;clear hK4 K4;refine Kn.Z.no (.t rfl) ?_;refine Kn.Z.j hK2 ?_;clear hK2 K2;have HU1 := Lib.hid (HU.out.on hb1);clear hck HLM HU hb1;have k1 := HU1.out.st.cell 1 rfl;have qn0 := hG.n0;have qn1 := hG.n1;obtain ⟨n0, hn0⟩ : ∃ x, m.n = x := ⟨_, rfl⟩;rw [hn0] at k1 qn0 qn1 hk;have HN := Lib.hid hn0;clear hn0;refine Kn.Z.q fun K5 hK5=>?_;refine Kn.Z.f fun K6 hK6=>?_;refine Kn.Z.s .o (.fieldAddr (.t rfl)) fun Ko Kp=>?_;go_simp;(try go_bits);refine Kp _ _ ?_;clear Kp Ko;refine Kn.Z.s .o (.load (.t rfl)) fun Ko Kp=>?_;go_simp;(try go_bits);refine Kp _ _ ?_;clear Kp Ko;refine Kn.Z.s .o (.bin (.t rfl) .c) fun Ko Kp=>?_;go_simp;(try go_bits);refine Kp _ _ ?_;clear Kp Ko;refine Kn.Z.u (.m (.t rfl) .n) ?_;refine Kn.Z.c .o (.call (.c .c (.c (.t rfl) (.c (.t rfl) .n)))) Tryz.call41 (isFrom_yes 0 (n0 - 1) (k : Int) u1 (by omega)) fun e ux hp=>?_;obtain ⟨rfl, rfl⟩ := hp;refine ⟨_,rfl,?_⟩;refine Kn.Z.s .o (.un (.t rfl)) fun Ko Kp=>?_;go_simp;(try go_bits);refine Kp _ _ ?_;clear Kp Ko;refine Kn.Z.e hK6 ?_;clear hK6 K6;refine Kn.Z.t (.c 20 rfl (.c 6 rfl (.c 5 rfl (.c 4 rfl (.c 2 rfl (.c 1 rfl .n)))))) ?_;refine Kn.Z.no (.t rfl) ?_;refine Kn.Z.j hK5 ?_;clear hK5 K5;have hlk : m.sh.length ≠ 0 := fun h => by have := hG.c0.1 h; have := HN.out; omega
  have hf0 : fst m.sh 0 = 0 := by
    have := hG.f 0 (by omega);unfold badF at this;omega
  have hlb := hG.c;have hstep := fun i (h : i < m.sh.length) => hG.y i h;have htk := totK_in hG;have HST := Lib.hid hstep;have HTK := Lib.hid htk;clear hstep htk;obtain ⟨L, hL⟩ : ∃ L, m.sh.length = L := ⟨_, rfl⟩;have k3 := HU1.out.st.cell 3 rfl;have hLc := HU1.out.mi.le;have hcm := HU1.out.mi.cap;unfold maxLen at hcm;rw [hL] at k3 hlk hlb hLc;have HL := Lib.hid hL;have hk4 : k ≤ 4096 := by omega
  clear hL k1;obtain ⟨sh0, hsh⟩ : ∃ s, m.sh = s := ⟨_, rfl⟩;rw [hsh] at hf0;have HSH := Lib.hid hsh;clear hsh;refine Kn.Z.f fun K7 hK7=>?_;refine Kn.Z.u (.a .c (.a .c .n)) ?_;refine Kn.Z.e hK7 ?_;clear hK7 K7;refine Kn.Z.q fun K8 hK8=>?_;refine Kn.Z.b ?_;intro fb fg;refine Kn.loop (fun mm fr v => ∃ (i : Nat) (t : Int), Kn.Kn 51 [(1, .int .i64 (k : Int)), (2, .pointer (some ⟨g, 0, none⟩)), (8, .int .i64 (i : Int)), (9, .int .i64 t)] fr ∧ Hid (i + mm + 1 = L ∧ t = totK sh0 i ∧ fst sh0 i ≤ (k : Int)) ∧ v = u1) (L - 1) ⟨0, 0, fg.cut (.c 1 rfl (.c 2 rfl (.u 8 rfl (by go_num) (.u 9 rfl rfl .n)))), Lib.hid ⟨by omega, rfl, by rw [hf0]; omega⟩, rfl⟩ ?_;clear fg fb;intro m9 fa v hI Kl9 hKl9;obtain ⟨i, t, fh, hi, rfl⟩ := hI;have hi9 := hi.out.1;have hiL : i < L := by omega
  clear hi9;have htb := HTK.out i (by have := HL.out; omega);rw [HSH.out, ← hi.out.2.1] at htb;obtain ⟨i1, hi1⟩ : ∃ x, i + 1 = x := ⟨_, rfl⟩;have ri : (i : Int) + 1 = (i1 : Int) := by omega
  have HI1 := Lib.hid hi1;have hib : i ≤ 64 := by omega
  clear hi1
  by_cases hlt : i1 < L
  rotate_left
  · have hlti : ¬ (i1 : Int) < (L : Int) := by omega
    revert fa
    refine Kn.Z.q fun K10 hK10=>?_;refine Kn.Z.f fun K11 hK11=>?_;refine Kn.Z.u (.m (.t rfl) .n) ?_;refine Kn.Z.s .o (.bin (.t rfl) .c) fun Ko Kp=>?_;go_simp;(try go_bits);try rw [ri]
    refine Kp _ _ ?_;clear Kp Ko;refine Kn.Z.s .o (.fieldAddr (.t rfl)) fun Ko Kp=>?_;go_simp;(try go_bits);refine Kp _ _ ?_;clear Kp Ko;refine Kn.Z.s .o (.load (.t rfl)) fun Ko Kp=>?_;go_simp;(try go_bits);refine Kp _ _ ?_;clear Kp Ko;refine Kn.Z.s .o (.len (.t rfl)) fun Ko Kp=>?_;go_simp;(try go_bits);refine Kp _ _ ?_;clear Kp Ko;refine Kn.Z.s .o (.bin (.t rfl) (.t rfl)) fun Ko Kp=>?_;go_simp;(try go_bits);refine Kp _ _ ?_;clear Kp Ko;refine Kn.Z.u (.m (.t rfl) (.k (.s rfl rfl rfl) (.k (.s rfl rfl rfl) (.k (.s rfl rfl rfl) (.k (.s rfl rfl rfl) (.k (.s rfl rfl rfl) (.k (.s rfl rfl rfl) (.k (.s rfl rfl rfl) (.k (.s rfl rfl rfl) (.k (.s rfl rfl rfl) (.e .o (.pick (.t rfl) .c) .n))))))))))) ?_;refine Kn.Z.e hK11 ?_;clear hK11 K11;refine Kn.Z.t (.c 38 rfl (.c 1 rfl (.c 2 rfl (.c 8 rfl (.c 9 rfl .n))))) ?_;refine Kn.Z.no (.t rfl) ?_;intro fb fg;refine wp_exit ?_;refine Kn.then_exit ?_;clear hK10 K10;refine Kn.then_exit ?_;clear hKl9 Kl9;refine Kn.block_exit ?_;refine hK8 _ _ ?_;clear hK8 K8
    revert fb
    refine Kn.Z.f fun K12 hK12=>?_;refine Kn.Z.u (.m (.t rfl) (.m (.t rfl) (.a (.t rfl) (.a (.t rfl) (.a .c .n))))) ?_;refine Kn.Z.e hK12 ?_;clear hK12 K12;intro fa fh;refine wp_ret ?_;exact Kn.ret3 fh rfl rfl rfl rfl ⟨⟨i, by rw [HL.out]; exact hiL, by rw [HSH.out]; exact hi.out.2.2, by rw [HL.out, HSH.out, HI1.out]; exact fun h => absurd h hlt, by rw [hi.out.2.1, HSH.out]⟩, HU1.out.bl⟩
  have hlti : (i1 : Int) < (L : Int) := by omega
  obtain ⟨ba, oa, hAe, -, cf, -⟩ := ipc HU1.out.mi.row (show i1 < m.sh.length by have := HL.out; omega);obtain ⟨b2, o2, hAe2, -, -, cb⟩ := ipc HU1.out.mi.row (show i < m.sh.length by have := HL.out; omega);rw [hAe] at k3 hAe2;cases hAe2;have hyb := HST.out i (by have := HL.out; omega);rw [HSH.out] at cf cb hyb;obtain ⟨f, hf⟩ : ∃ x, fst sh0 i1 = x := ⟨_, rfl⟩;obtain ⟨y, hy⟩ : ∃ x, byt sh0 i = x := ⟨_, rfl⟩;rw [hf] at cf;rw [hy] at cb hyb;have HF := Lib.hid hf;have HY := Lib.hid hy;clear hf hy;have n1 : ¬ (i1 : Int) < 0 := by omega
  have n2 : ¬ (L : Int) ≤ (i1 : Int) := by omega
  have n3 : ¬ (L : Int) ≤ (i : Int) := by omega
  have n4 : ¬ (i : Int) < 0 := by omega
  by_cases hfk : f ≤ (k : Int)
  rotate_left
  · revert fa
    refine Kn.Z.q fun K10 hK10=>?_;refine Kn.Z.f fun K11 hK11=>?_;refine Kn.Z.u (.m (.t rfl) .n) ?_;refine Kn.Z.s .o (.bin (.t rfl) .c) fun Ko Kp=>?_;go_simp;(try go_bits);try rw [ri]
    refine Kp _ _ ?_;clear Kp Ko;refine Kn.Z.s .o (.fieldAddr (.t rfl)) fun Ko Kp=>?_;go_simp;(try go_bits);refine Kp _ _ ?_;clear Kp Ko;refine Kn.Z.s .o (.load (.t rfl)) fun Ko Kp=>?_;go_simp;(try go_bits);refine Kp _ _ ?_;clear Kp Ko;refine Kn.Z.s .o (.len (.t rfl)) fun Ko Kp=>?_;go_simp;(try go_bits);refine Kp _ _ ?_;clear Kp Ko;refine Kn.Z.s .o (.bin (.t rfl) (.t rfl)) fun Ko Kp=>?_;go_simp;(try go_bits);refine Kp _ _ ?_;clear Kp Ko;refine Kn.Z.u (.m (.t rfl) .n) ?_;refine Kn.Z.s (.s rfl rfl rfl) (.fieldAddr (.t rfl)) fun Ko Kp=>?_;go_simp;(try go_bits);refine Kp _ _ ?_;clear Kp Ko;refine Kn.Z.s (.s rfl rfl rfl) (.load (.t rfl)) fun Ko Kp=>?_;go_simp;(try go_bits);refine Kp _ _ ?_;clear Kp Ko;refine Kn.Z.u (.e (.s rfl rfl rfl) (.move (.t rfl)) .n) ?_;refine Kn.Z.s (.s rfl rfl rfl) (.bin (.t rfl) .c) fun Ko Kp=>?_;go_simp;(try go_bits);try rw [ri]
    refine Kp _ _ ?_;clear Kp Ko;refine Kn.Z.s (.s rfl rfl rfl) (.indexAddr (.t rfl) (.t rfl)) fun Ko Kp=>?_;go_simp;(try go_bits);refine Kp _ _ ?_;clear Kp Ko;refine Kn.Z.s (.s rfl rfl rfl) (.fieldAddr (.t rfl)) fun Ko Kp=>?_;go_simp;(try go_bits);refine Kp _ _ ?_;clear Kp Ko;refine Kn.Z.s (.s rfl rfl rfl) (.load (.t rfl)) fun Ko Kp=>?_;go_simp;(try go_bits);refine Kp _ _ ?_;clear Kp Ko;refine Kn.Z.u (.e (.s rfl rfl rfl) (.move (.t rfl)) .n) ?_;refine Kn.Z.s (.s rfl rfl rfl) (.bin (.t rfl) (.t rfl)) fun Ko Kp=>?_;go_simp;(try go_bits);refine Kp _ _ ?_;clear Kp Ko;refine Kn.Z.u (.e .o (.pick (.t rfl) (.t rfl)) .n) ?_;refine Kn.Z.e hK11 ?_;clear hK11 K11;refine Kn.Z.t (.c 38 rfl (.c 1 rfl (.c 2 rfl (.c 8 rfl (.c 9 rfl .n))))) ?_;refine Kn.Z.no (.t rfl) ?_;intro fb fg;refine wp_exit ?_;refine Kn.then_exit ?_;clear hK10 K10;refine Kn.then_exit ?_;clear hKl9 Kl9;refine Kn.block_exit ?_;refine hK8 _ _ ?_;clear hK8 K8
    revert fb
    refine Kn.Z.f fun K12 hK12=>?_;refine Kn.Z.u (.m (.t rfl) (.m (.t rfl) (.a (.t rfl) (.a (.t rfl) (.a .c .n))))) ?_;refine Kn.Z.e hK12 ?_;clear hK12 K12;intro fa fh;refine wp_ret ?_;exact Kn.ret3 fh rfl rfl rfl rfl ⟨⟨i, by rw [HL.out]; exact hiL, by rw [HSH.out]; exact hi.out.2.2, by rw [HL.out, HSH.out, HI1.out]; exact fun _ => by rw [HF.out]; omega, by rw [hi.out.2.1, HSH.out]⟩, HU1.out.bl⟩
  revert fa
  refine Kn.Z.q fun K10 hK10=>?_;refine Kn.Z.f fun K11 hK11=>?_;refine Kn.Z.u (.m (.t rfl) .n) ?_;refine Kn.Z.s .o (.bin (.t rfl) .c) fun Ko Kp=>?_;go_simp;(try go_bits);try rw [ri]
  refine Kp _ _ ?_;clear Kp Ko;refine Kn.Z.s .o (.fieldAddr (.t rfl)) fun Ko Kp=>?_;go_simp;(try go_bits);refine Kp _ _ ?_;clear Kp Ko;refine Kn.Z.s .o (.load (.t rfl)) fun Ko Kp=>?_;go_simp;(try go_bits);refine Kp _ _ ?_;clear Kp Ko;refine Kn.Z.s .o (.len (.t rfl)) fun Ko Kp=>?_;go_simp;(try go_bits);refine Kp _ _ ?_;clear Kp Ko;refine Kn.Z.s .o (.bin (.t rfl) (.t rfl)) fun Ko Kp=>?_;go_simp;(try go_bits);refine Kp _ _ ?_;clear Kp Ko;refine Kn.Z.u (.m (.t rfl) .n) ?_;refine Kn.Z.s (.s rfl rfl rfl) (.fieldAddr (.t rfl)) fun Ko Kp=>?_;go_simp;(try go_bits);refine Kp _ _ ?_;clear Kp Ko;refine Kn.Z.s (.s rfl rfl rfl) (.load (.t rfl)) fun Ko Kp=>?_;go_simp;(try go_bits);refine Kp _ _ ?_;clear Kp Ko;refine Kn.Z.u (.e (.s rfl rfl rfl) (.move (.t rfl)) .n) ?_;refine Kn.Z.s (.s rfl rfl rfl) (.bin (.t rfl) .c) fun Ko Kp=>?_;go_simp;(try go_bits);try rw [ri]
  refine Kp _ _ ?_;clear Kp Ko;refine Kn.Z.s (.s rfl rfl rfl) (.indexAddr (.t rfl) (.t rfl)) fun Ko Kp=>?_;go_simp;(try go_bits);refine Kp _ _ ?_;clear Kp Ko;refine Kn.Z.s (.s rfl rfl rfl) (.fieldAddr (.t rfl)) fun Ko Kp=>?_;go_simp;(try go_bits);refine Kp _ _ ?_;clear Kp Ko;refine Kn.Z.s (.s rfl rfl rfl) (.load (.t rfl)) fun Ko Kp=>?_;go_simp;(try go_bits);refine Kp _ _ ?_;clear Kp Ko;refine Kn.Z.u (.e (.s rfl rfl rfl) (.move (.t rfl)) .n) ?_;refine Kn.Z.s (.s rfl rfl rfl) (.bin (.t rfl) (.t rfl)) fun Ko Kp=>?_;go_simp;(try go_bits);refine Kp _ _ ?_;clear Kp Ko;refine Kn.Z.u (.e .o (.pick (.t rfl) (.t rfl)) .n) ?_;refine Kn.Z.e hK11 ?_;clear hK11 K11;refine Kn.Z.t (.c 38 rfl (.c 1 rfl (.c 2 rfl (.c 8 rfl (.c 9 rfl .n))))) ?_;refine Kn.Z.y (.t rfl) ?_;refine Kn.Z.j hK10 ?_;clear hK10 K10;refine Kn.Z.b ?_;refine Kn.Z.f fun K12 hK12=>?_;refine Kn.Z.u (.m (.t rfl) .n) ?_;refine Kn.Z.s .o (.fieldAddr (.t rfl)) fun Ko Kp=>?_;go_simp;(try go_bits);refine Kp _ _ ?_;clear Kp Ko;refine Kn.Z.s .o (.load (.t rfl)) fun Ko Kp=>?_;go_simp;(try go_bits);refine Kp _ _ ?_;clear Kp Ko;refine Kn.Z.u (.m (.t rfl) .n) ?_;refine Kn.Z.s .o (.indexAddr (.t rfl) (.t rfl)) fun Ko Kp=>?_;go_simp;(try go_bits);refine Kp _ _ ?_;clear Kp Ko;refine Kn.Z.s .o (.fieldAddr (.t rfl)) fun Ko Kp=>?_;go_simp;(try go_bits);refine Kp _ _ ?_;clear Kp Ko;refine Kn.Z.s .o (.load (.t rfl)) fun Ko Kp=>?_;go_simp;(try go_bits);refine Kp _ _ ?_;clear Kp Ko;refine Kn.Z.s .o (.bin (.t rfl) (.t rfl)) fun Ko Kp=>?_;go_simp;(try go_bits);refine Kp _ _ ?_;clear Kp Ko;refine Kn.Z.u (.a (.t rfl) .n) ?_;refine Kn.Z.e hK12 ?_;clear hK12 K12;refine Kn.Z.t (.c 9 rfl (.c 1 rfl (.c 2 rfl (.c 8 rfl .n)))) ?_;refine Kn.Z.r ?_;refine Kn.Z.u (.m (.t rfl) .n) ?_;refine Kn.Z.s .o (.bin (.t rfl) .c) fun Ko Kp=>?_;go_simp;(try go_bits);try rw [ri]
  refine Kp _ _ ?_;clear Kp Ko;refine Kn.Z.u (.a (.t rfl) .n) ?_;intro fb fg;refine wpList_nil ?_;refine Kn.block_normal ?_;replace fg := fg.cut (.c 8 rfl (.c 9 rfl (.c 1 rfl (.c 2 rfl .n))));have hi9 := hi.out.1;have hi8 := HI1.out;exact hKl9 (m9 - 1) _ _ (by omega) ⟨i1, t + y, fg.cut (.c 1 rfl (.c 2 rfl (.u 8 rfl rfl (.c 9 rfl .n)))), Lib.hid ⟨by omega, by rw [← HI1.out, hi.out.2.1, ← HY.out]; rfl, by rw [HF.out]; exact hfk⟩, rfl⟩
set_option maxRecDepth 100000 in
set_option maxHeartbeats 1000000 in
theorem where_out (m : MF) (A : Option Addr) (c : Nat) (k : Int) (w : World) (hG : Good m) (hM : MIn m A c w) (hk : k < 0 ∨ m.n ≤ k) :
    Calls Tryz.prog 55 #[.agg #[.int .i64 m.v, .int .i64 m.n, .int .i64 m.e, .slice A m.sh.length c, .int .i64 m.b, .string m.r], .int .i64 k] w fun e w' => e = .returned (.tuple #[.int .i64 0, .int .i64 0, .iface 66 (.int .i64 2)]) ∧ Below w.heap.size w w' := by
  refine Kn.Z.cl Tryz.func55 rfl Tryz.ntmps55 rfl (.c 0 rfl (.c 1 rfl .n)) ?_;refine Kn.Z.f fun K1 hK1=>?_;refine Kn.Z.s .o (.box (.t rfl)) fun Ko Kp=>?_;go_simp;(try go_bits);refine Kp _ _ ?_;clear Kp Ko;refine Kn.Z.u (.a .c (.a .c (.a .c .n))) ?_;refine Kn.Z.e hK1 ?_;clear hK1 K1;refine Kn.Z.g (fun u => KM w m A c w.heap.size u) ⟨St.St.new _ _ _, hM.on ((Below.refl _ w).alloc (Nat.le_refl _) _), (Below.refl _ w).alloc (Nat.le_refl _) _⟩ fun u hu => ?_;obtain ⟨g, hg⟩ : ∃ g, w.heap.size = g := ⟨_, rfl⟩;intro fa fh;rw [hg] at hu fh;have hr32 := hG.r;have hck := check_v m A c u hu.mi (by rw [hr32]; decide);rw [chkV_good hG] at hck;have HLM := Lib.hid (loadM hu.st Tryz.underlying34 rfl (by kernel_rfl));have HU := Lib.hid hu;clear hg hM hu hr32
  revert fa
  refine Kn.Z.q fun K2 hK2=>?_;refine Kn.Z.f fun K3 hK3=>?_;refine Kn.Z.k .o (.load (.t rfl)) HLM.out ?_;refine Kn.Z.c .o (.call (.c (.t rfl) .n)) Tryz.call21 (hck) fun e u1 hp=>?_;obtain ⟨rfl, hb1⟩ := hp;refine ⟨_,rfl,?_⟩;refine Kn.Z.u (.a (.t rfl) .n) ?_;refine Kn.Z.e hK3 ?_;clear hK3 K3;refine Kn.Z.f fun K4 hK4=>?_;refine Kn.Z.u (.m (.t rfl) .n) ?_;refine Kn.Z.s .o (.bin (.t rfl) .c) fun Ko Kp=>?_;go_simp;(try go_bits);refine Kp _ _ ?_;clear Kp Ko;refine Kn.Z.e hK4 ?_;clear hK4 K4;refine Kn.Z.no (.t rfl) ?_;refine Kn.Z.j hK2 ?_;clear hK2 K2;have HU1 := Lib.hid (HU.out.on hb1);clear hck HLM HU hb1;have k1 := HU1.out.st.cell 1 rfl;have qn0 := hG.n0;have qn1 := hG.n1;obtain ⟨n0, hn0⟩ : ∃ x, m.n = x := ⟨_, rfl⟩;rw [hn0] at k1 qn0 qn1 hk;have HN := Lib.hid hn0;clear hn0;refine Kn.Z.q fun K5 hK5=>?_;refine Kn.Z.f fun K6 hK6=>?_;refine Kn.Z.s .o (.fieldAddr (.t rfl)) fun Ko Kp=>?_;go_simp;(try go_bits);refine Kp _ _ ?_;clear Kp Ko;refine Kn.Z.s .o (.load (.t rfl)) fun Ko Kp=>?_;go_simp;(try go_bits);refine Kp _ _ ?_;clear Kp Ko;refine Kn.Z.s .o (.bin (.t rfl) .c) fun Ko Kp=>?_;go_simp;(try go_bits);refine Kp _ _ ?_;clear Kp Ko;refine Kn.Z.u (.m (.t rfl) .n) ?_;refine Kn.Z.c .o (.call (.c .c (.c (.t rfl) (.c (.t rfl) .n)))) Tryz.call41 (isFrom_no 0 (n0 - 1) k u1 (by omega)) fun e ux hp=>?_;obtain ⟨rfl, rfl⟩ := hp;refine ⟨_,rfl,?_⟩;refine Kn.Z.s .o (.un (.t rfl)) fun Ko Kp=>?_;go_simp;(try go_bits);refine Kp _ _ ?_;clear Kp Ko;refine Kn.Z.e hK6 ?_;clear hK6 K6;refine Kn.Z.t (.c 20 rfl (.c 6 rfl (.c 5 rfl (.c 4 rfl (.c 2 rfl (.c 1 rfl .n)))))) ?_;refine Kn.Z.y (.t rfl) ?_;refine Kn.Z.f fun K7 hK7=>?_;refine Kn.Z.s .o (.makeInterface .c) fun Ko Kp=>?_;go_simp;(try go_bits);refine Kp _ _ ?_;clear Kp Ko;refine Kn.Z.u (.a .c (.a .c (.a (.t rfl) .n))) ?_;refine Kn.Z.e hK7 ?_;clear hK7 K7;intro fb fg;refine wp_ret ?_;refine Kn.then_ret ?_;exact Kn.ret3 fg rfl rfl rfl rfl ⟨rfl, HU1.out.bl⟩
end Go.Proofs.YtchdlgdmomcemaaGreatDoor.Man
end
section
namespace Go.Proofs
open Go.Shelf
def Tryz.layCloneS_ren : Go.Shelf.Ren := ⟨fun | 41 => 49 | n => n, fun | 22 => 32 | 23 => 98 | 4 => 4 | n => n, fun | n => n⟩
theorem Tryz.layCloneS : Go.Proofs.SlLaysE0.n41 Tryz.prog Tryz.layCloneS_ren := {
  mixed := by kernel_rfl
  f41 := ⟨Tryz.f49.name, by decide, Tryz.func49.trans (congrArg some (by kernel_rfl))⟩
  t4 := Tryz.underlying4
  a4 := Tryz.isAgg4
  z4 := Tryz.sizeOf4
  v4 := Tryz.zeroValue4
  t22 := Tryz.underlying32
  a22 := Tryz.isAgg32
  z22 := Tryz.sizeOf32
  v22 := Tryz.zeroValue32 }
end Go.Proofs
end
