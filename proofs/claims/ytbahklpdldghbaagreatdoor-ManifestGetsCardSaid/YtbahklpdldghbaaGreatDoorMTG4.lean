/- A part of the proof of ManifestGetsCardSaid: texts that lead to it, merged. -/
import Derived.Test.YtbahklpdldghbaaGreatDoorMTG3
import Derived.StillTailTactics
import Derived.Laws.IdiomStrings
import Derived.Lib.AppendStr
import Derived.Lib.FrozenHead
import Derived.Laws.Rows
import Derived.Laws.CopyOwn
import Derived.IntWalk
import Derived.Shelf.SlGeneric
import Derived.Shelf.SlSortCmp.SmallK
import Derived.Shelf.SlicesG.Cmp
import Derived.Shelf.SlicesE.Clone
import Derived.Shelf.SlicesQ.Equal
import Derived.Shelf.SlicesG.Clone
import Derived.Shelf.SlicesG.Equal
import Derived.Shelf.SlicesG.SearchI
import Derived.Ground.SlsfProg
import Derived.Ground.SlgcProg
import Derived.Ground.SlgnProg
import Derived.Ground.SlgqProg
import Derived.Test.YtbahklpdldghbaaGreatDoorProg
import Derived.Shelf.SlSortCmp.InsertionK
import Derived.Laws.StructEq
import Derived.Deep.MidRow
import Derived.Lib.EndianMore
import Derived.Laws.IdiomCopy
import Derived.Lib.SliceRun
import Derived.Shelf.SlSortCmp.NoneTotal
import Derived.Lib.OwnBridge
section
namespace Go.Proofs.YtbahklpdldghbaaGreatDoor.Gap
open Go Go.RowKit Go.Lib Oct Num
def manyB (N : Int) : Bool := decide (0 ≤ N ∧ N ≤ 4096)
def nodeB (N v : Int) : Bool := decide (0 ≤ v ∧ v < N)
theorem manyB_yes {N : Int} (h0 : 0 ≤ N) (h1 : N ≤ 4096) : manyB N = true := decide_eq_true ⟨h0, h1⟩
theorem manyB_no {N : Int} (h : N < 0 ∨ 4096 < N) : manyB N = false := decide_eq_false (by omega)
theorem nodeB_yes {N v : Int} (h0 : 0 ≤ v) (h1 : v < N) : nodeB N v = true := decide_eq_true ⟨h0, h1⟩
theorem nodeB_no {N v : Int} (h : v < 0 ∨ N ≤ v) : nodeB N v = false := decide_eq_false (by omega)
def flt (p : Int) (E : Value) : Value := .iface 54 (.agg #[.int .i64 p, E])
def gE (e a : Int) : Value := if e = 0 then .nilIface else Oct.faultV a e
theorem gE_0 (a : Int) : gE 0 a = .nilIface := rfl
theorem gE_e {e a : Int} (h : e ≠ 0) : gE e a = .iface 54 (.agg #[.int .i64 a, .iface 52 (.int .i64 e)]) := by unfold gE; rw [if_neg h]; rfl
theorem rd_code : ∀ (l : List UInt8), (rd l).2.2 = 0 ∨ (rd l).2.2 = 3 ∨ (rd l).2.2 = 4 := by
  have H : ∀ (m : Nat) (nf : Bool) (l : List UInt8), (rdF m nf l).2.2 = 0 ∨ (rdF m nf l).2.2 = 3 ∨ (rdF m nf l).2.2 = 4 := by
    intro m
    induction m with
    | zero => intro nf l; rw [rdF]; simp
    | succ m ih =>
      intro nf l
      cases l with
      | nil => rw [rdF]; simp
      | cons b r =>
        rw [rdF];have := ih true r
        split
        · simp
        split
        · simp
        split
        · simp
        · exact this
  exact H 8 false
theorem short_g (s : ByteArray) (p : Int) (w : World) (hs : s.size ≤ maxLen) :
    Calls Tryz.prog 53 #[.string s, .int .i64 p] w fun e w' => e = .returned (.tuple #[.int .i64 (rdG s p).1, .int .i64 (rdG s p).2.1, gE (rdG s p).2.2.1 (rdG s p).2.2.2]) ∧ w = w' := by
  by_cases hp : p < 0 ∨ (s.size : Int) < p
  · refine (short_arg s p w hs hp).mono fun e w' ⟨he, hw⟩ => ⟨?_, hw⟩;rw [he];unfold rdG;rw [if_pos hp]
    rfl
  · refine (short_any s p w hs (by omega) (by omega)).mono fun e w' ⟨he, hw⟩ => ⟨?_, hw⟩;rw [he];unfold rdG shortAns rdErr gE;rw [if_neg hp]
    by_cases h0 : (rd (s.data.toList.drop p.toNat)).2.2 = 0
    · simp [h0]
    · have hz := rdF_err 8 false _ h0;have hz2 : rd (s.data.toList.drop p.toNat) = (0, 0, (rd (s.data.toList.drop p.toNat)).2.2) := hz
      by_cases h3 : (rd (s.data.toList.drop p.toNat)).2.2 = 3
      · rw [hz2, h3];simp
      · have h4 : (rd (s.data.toList.drop p.toNat)).2.2 = 4 := by
          rcases rd_code (s.data.toList.drop p.toNat) with h | h | h
          · exact absurd h h0
          · exact absurd h h3
          · exact h
        rw [hz2, h4];simp
set_option maxRecDepth 100000 in
set_option maxHeartbeats 2000000 in
theorem turned_g (s : ByteArray) (p : Int) (w : World) (hs : s.size ≤ maxLen) :
    Calls Tryz.prog 111 #[.string s, .int .i64 p] w fun e w' => e = .returned (.tuple #[.int .i64 (bkI (rdG s p).1), .int .i64 (rdG s p).2.1, gE (rdG s p).2.2.1 (rdG s p).2.2.2]) ∧ w = w' := by
  rcases hg : rdG s p with ⟨x, nx, e, a⟩;have hsh := short_g s p w hs;rw [hg] at hsh
  have hx : 0 ≤ x ∧ x ≤ 72057594037927935 := by
    by_cases he : e = 0
    · subst he; exact (rdG_ok hg).1
    · have := (rdG_bad hg he).1; omega
  have hbk := back_any x w (by omega)
  have e1 : backOf x = bkI x := by
    unfold backOf bkI;rw [if_neg (by omega)]
    split <;> omega
  rw [e1] at hbk;refine Kn.calls Tryz.func111 rfl Tryz.ntmps111 rfl (.cons (t := 0) rfl (.cons (t := 1) rfl .nil)) fun fa0 fh0 => ?_;refine wp_seq_k fun K1 hK1 => ?_;refine wp_region_lit ?_;refine Kn.pure fh0 rfl rfl .none (Kn.ex_assign fh0 .const) fun fa1 fh1 => ?_;clear fh0 fa0;refine Kn.pure fh1 rfl rfl .none (Kn.ex_assign fh1 .const) fun fa2 fh2 => ?_;clear fh1 fa1;refine Kn.pure fh2 rfl rfl .none (Kn.ex_assign fh2 .const) fun fa3 fh3 => ?_;clear fh2 fa2;refine wpList_nil ?_;refine hK1 _ _ ?_;clear hK1 K1;refine wp_seq_k fun K2 hK2 => ?_;refine wp_region_lit ?_;refine Kn.pure fh3 rfl rfl .none (Kn.ex_move fh3 (.tmp rfl)) fun fa4 fh4 => ?_;clear fh3 fa3;refine Kn.pure fh4 rfl rfl .none (Kn.ex_move fh4 (.tmp rfl)) fun fa5 fh5 => ?_;clear fh4 fa4;refine Kn.call fh5 rfl rfl .none (Kn.ex_call fh5 (.cons (.tmp rfl) (.cons (.tmp rfl) .nil))) Tryz.call53 (hsh) fun e w1 hp => ?_;obtain ⟨rfl, rfl⟩ := hp;refine ⟨_, rfl, fun fa6 fh6 => ?_⟩;clear fh5 fa5;refine Kn.pure fh6 rfl rfl .none (Kn.ex_move fh6 (.tmp rfl)) fun fa7 fh7 => ?_;clear fh6 fa6;refine Kn.pure fh7 rfl rfl .none (Kn.ex_extract fh7 (.tmp rfl) rfl) fun fa8 fh8 => ?_;clear fh7 fa7;refine Kn.pure fh8 rfl rfl .none (Kn.ex_extract fh8 (.tmp rfl) rfl) fun fa9 fh9 => ?_;clear fh8 fa8;refine Kn.pure fh9 rfl rfl .none (Kn.ex_extract fh9 (.tmp rfl) rfl) fun fa10 fh10 => ?_;clear fh9 fa9;refine Kn.pure fh10 rfl rfl .none (Kn.ex_assign fh10 (.tmp rfl)) fun fa11 fh11 => ?_;clear fh10 fa10;refine Kn.pure fh11 rfl rfl .none (Kn.ex_assign fh11 (.tmp rfl)) fun fa12 fh12 => ?_;clear fh11 fa11;refine Kn.pure fh12 rfl rfl .none (Kn.ex_assign fh12 (.tmp rfl)) fun fa13 fh13 => ?_;clear fh12 fa12;refine wpList_nil ?_;refine hK2 _ _ ?_;clear hK2 K2;replace fh13 := fh13.cut (.cons (t := 9) rfl (.cons (t := 8) rfl (.cons (t := 7) rfl (.cons (t := 6) rfl (.cons (t := 5) rfl (.cons (t := 4) rfl .nil))))));clear hsh;refine wp_seq_k fun K3 hK3 => ?_;refine wp_region_lit ?_;refine Kn.pure fh13 rfl rfl .none (Kn.ex_move fh13 (.tmp rfl)) fun fa14 fh14 => ?_;clear fh13 fa13;refine Kn.call fh14 rfl rfl .none (Kn.ex_call fh14 (.cons (.tmp rfl) .nil)) Tryz.call124 (hbk) fun e w1 hp => ?_;obtain ⟨rfl, rfl⟩ := hp;refine ⟨_, rfl, fun fa15 fh15 => ?_⟩;clear fh14 fa14;refine Kn.pure fh15 rfl rfl .none (Kn.ex_move fh15 (.tmp rfl)) fun fa16 fh16 => ?_;clear fh15 fa15;refine Kn.pure fh16 rfl rfl .none (Kn.ex_move fh16 (.tmp rfl)) fun fa17 fh17 => ?_;clear fh16 fa16;refine Kn.pure fh17 rfl rfl .none (Kn.ex_assign fh17 (.tmp rfl)) fun fa18 fh18 => ?_;clear fh17 fa17;refine Kn.pure fh18 rfl rfl .none (Kn.ex_assign fh18 (.tmp rfl)) fun fa19 fh19 => ?_;clear fh18 fa18;refine Kn.pure fh19 rfl rfl .none (Kn.ex_assign fh19 (.tmp rfl)) fun fa20 fh20 => ?_;clear fh19 fa19;refine wpList_nil ?_;refine hK3 _ _ ?_;clear hK3 K3;replace fh20 := fh20.cut (.cons (t := 6) rfl (.cons (t := 5) rfl (.cons (t := 4) rfl .nil)));refine wp_ret ?_;exact Kn.ret3 fh20 rfl rfl rfl rfl ⟨rfl, rfl⟩
set_option maxRecDepth 100000 in
set_option maxHeartbeats 2000000 in
theorem isMany_any (N : Int) (w : World) :
    Calls Tryz.prog 110 #[.int .i64 N] w fun e w' => e = .returned (.bool (manyB N)) ∧ w = w' := by
  refine Kn.calls Tryz.func110 rfl Tryz.ntmps110 rfl (.cons (t := 0) rfl .nil) fun fa0 fh0 => ?_;refine wp_seq_k fun K1 hK1 => ?_;refine wp_region_lit ?_;refine Kn.pure fh0 rfl rfl .none (Kn.ex_assign fh0 .const) fun fa1 fh1 => ?_;clear fh0 fa0;refine wpList_nil ?_;refine hK1 _ _ ?_;clear hK1 K1
  by_cases h1 : N < 0
  · have q1 : ¬ 0 ≤ N := by omega
    refine wp_seq_k fun K2 hK2 => ?_;refine wp_region_lit ?_;refine Kn.pure fh1 rfl rfl .none (Kn.ex_move fh1 (.tmp rfl)) fun fa2 fh2 => ?_;clear fh1 fa1;refine Kn.step fh2 rfl rfl .none (Kn.ex_bin fh2 (.tmp rfl) .const) fun Ko hKo => ?_;go_simp;(try go_bits);refine hKo _ _ fun fa3 fh3 => ?_;clear hKo Ko fh2 fa2;refine Kn.pure fh3 rfl rfl .none (Kn.ex_move fh3 (.tmp rfl)) fun fa4 fh4 => ?_;clear fh3 fa3;refine Kn.skip fh4 rfl rfl (.some rfl rfl rfl) fun fa5 fh5 => ?_;clear fh4 fa4;refine Kn.skip fh5 rfl rfl (.some rfl rfl rfl) fun fa6 fh6 => ?_;clear fh5 fa5;refine Kn.pure fh6 rfl rfl .none (Kn.ex_pick fh6 (.tmp rfl) .const) fun fa7 fh7 => ?_;clear fh6 fa6;refine Kn.pure fh7 rfl rfl .none (Kn.ex_assign fh7 (.tmp rfl)) fun fa8 fh8 => ?_;clear fh7 fa7;refine wpList_nil ?_;refine hK2 _ _ ?_;clear hK2 K2;replace fh8 := fh8.cut (.cons (t := 2) rfl .nil);refine wp_ret ?_;exact Kn.ret1 fh8 rfl rfl ⟨by rw [manyB_no (.inl h1)], rfl⟩
  have h0 : 0 ≤ N := by omega
  by_cases h2 : 4096 < N
  · have q1 : ¬ N ≤ 4096 := by omega
    refine wp_seq_k fun K2 hK2 => ?_;refine wp_region_lit ?_;refine Kn.pure fh1 rfl rfl .none (Kn.ex_move fh1 (.tmp rfl)) fun fa2 fh2 => ?_;clear fh1 fa1;refine Kn.step fh2 rfl rfl .none (Kn.ex_bin fh2 (.tmp rfl) .const) fun Ko hKo => ?_;go_simp;(try go_bits);refine hKo _ _ fun fa3 fh3 => ?_;clear hKo Ko fh2 fa2;refine Kn.pure fh3 rfl rfl .none (Kn.ex_move fh3 (.tmp rfl)) fun fa4 fh4 => ?_;clear fh3 fa3;refine Kn.pure fh4 rfl rfl (.some rfl rfl rfl) (Kn.ex_move fh4 (.tmp rfl)) fun fa5 fh5 => ?_;clear fh4 fa4;refine Kn.step fh5 rfl rfl (.some rfl rfl rfl) (Kn.ex_bin fh5 (.tmp rfl) .const) fun Ko hKo => ?_;go_simp;(try go_bits);refine hKo _ _ fun fa6 fh6 => ?_;clear hKo Ko fh5 fa5;refine Kn.pure fh6 rfl rfl .none (Kn.ex_pick fh6 (.tmp rfl) (.tmp rfl)) fun fa7 fh7 => ?_;clear fh6 fa6;refine Kn.pure fh7 rfl rfl .none (Kn.ex_assign fh7 (.tmp rfl)) fun fa8 fh8 => ?_;clear fh7 fa7;refine wpList_nil ?_;refine hK2 _ _ ?_;clear hK2 K2;replace fh8 := fh8.cut (.cons (t := 2) rfl .nil);refine wp_ret ?_;exact Kn.ret1 fh8 rfl rfl ⟨by rw [manyB_no (.inr h2)], rfl⟩
  have q1 : N ≤ 4096 := by omega
  refine wp_seq_k fun K2 hK2 => ?_;refine wp_region_lit ?_;refine Kn.pure fh1 rfl rfl .none (Kn.ex_move fh1 (.tmp rfl)) fun fa2 fh2 => ?_;clear fh1 fa1;refine Kn.step fh2 rfl rfl .none (Kn.ex_bin fh2 (.tmp rfl) .const) fun Ko hKo => ?_;go_simp;(try go_bits);refine hKo _ _ fun fa3 fh3 => ?_;clear hKo Ko fh2 fa2;refine Kn.pure fh3 rfl rfl .none (Kn.ex_move fh3 (.tmp rfl)) fun fa4 fh4 => ?_;clear fh3 fa3;refine Kn.pure fh4 rfl rfl (.some rfl rfl rfl) (Kn.ex_move fh4 (.tmp rfl)) fun fa5 fh5 => ?_;clear fh4 fa4;refine Kn.step fh5 rfl rfl (.some rfl rfl rfl) (Kn.ex_bin fh5 (.tmp rfl) .const) fun Ko hKo => ?_;go_simp;(try go_bits);refine hKo _ _ fun fa6 fh6 => ?_;clear hKo Ko fh5 fa5;refine Kn.pure fh6 rfl rfl .none (Kn.ex_pick fh6 (.tmp rfl) (.tmp rfl)) fun fa7 fh7 => ?_;clear fh6 fa6;refine Kn.pure fh7 rfl rfl .none (Kn.ex_assign fh7 (.tmp rfl)) fun fa8 fh8 => ?_;clear fh7 fa7;refine wpList_nil ?_;refine hK2 _ _ ?_;clear hK2 K2;replace fh8 := fh8.cut (.cons (t := 2) rfl .nil);refine wp_ret ?_;exact Kn.ret1 fh8 rfl rfl ⟨by rw [manyB_yes h0 q1], rfl⟩
set_option maxRecDepth 100000 in
set_option maxHeartbeats 2000000 in
theorem isNode_any (N v : Int) (w : World) :
    Calls Tryz.prog 88 #[.int .i64 N, .int .i64 v] w fun e w' => e = .returned (.bool (nodeB N v)) ∧ w = w' := by
  refine Kn.calls Tryz.func88 rfl Tryz.ntmps88 rfl (.cons (t := 0) rfl (.cons (t := 1) rfl .nil)) fun fa0 fh0 => ?_;refine wp_seq_k fun K1 hK1 => ?_;refine wp_region_lit ?_;refine Kn.pure fh0 rfl rfl .none (Kn.ex_assign fh0 .const) fun fa1 fh1 => ?_;clear fh0 fa0;refine wpList_nil ?_;refine hK1 _ _ ?_;clear hK1 K1
  by_cases h1 : v < 0
  · have q1 : ¬ 0 ≤ v := by omega
    refine wp_seq_k fun K2 hK2 => ?_;refine wp_region_lit ?_;refine Kn.pure fh1 rfl rfl .none (Kn.ex_move fh1 (.tmp rfl)) fun fa2 fh2 => ?_;clear fh1 fa1;refine Kn.step fh2 rfl rfl .none (Kn.ex_bin fh2 (.tmp rfl) .const) fun Ko hKo => ?_;go_simp;(try go_bits);refine hKo _ _ fun fa3 fh3 => ?_;clear hKo Ko fh2 fa2;refine Kn.pure fh3 rfl rfl .none (Kn.ex_move fh3 (.tmp rfl)) fun fa4 fh4 => ?_;clear fh3 fa3;refine Kn.skip fh4 rfl rfl (.some rfl rfl rfl) fun fa5 fh5 => ?_;clear fh4 fa4;refine Kn.skip fh5 rfl rfl (.some rfl rfl rfl) fun fa6 fh6 => ?_;clear fh5 fa5;refine Kn.skip fh6 rfl rfl (.some rfl rfl rfl) fun fa7 fh7 => ?_;clear fh6 fa6;refine Kn.pure fh7 rfl rfl .none (Kn.ex_pick fh7 (.tmp rfl) .const) fun fa8 fh8 => ?_;clear fh7 fa7;refine Kn.pure fh8 rfl rfl .none (Kn.ex_assign fh8 (.tmp rfl)) fun fa9 fh9 => ?_;clear fh8 fa8;refine wpList_nil ?_;refine hK2 _ _ ?_;clear hK2 K2;replace fh9 := fh9.cut (.cons (t := 4) rfl .nil);refine wp_ret ?_;exact Kn.ret1 fh9 rfl rfl ⟨by rw [nodeB_no (.inl h1)], rfl⟩
  have h0 : 0 ≤ v := by omega
  by_cases h2 : N ≤ v
  · have q1 : ¬ v < N := by omega
    refine wp_seq_k fun K2 hK2 => ?_;refine wp_region_lit ?_;refine Kn.pure fh1 rfl rfl .none (Kn.ex_move fh1 (.tmp rfl)) fun fa2 fh2 => ?_;clear fh1 fa1;refine Kn.step fh2 rfl rfl .none (Kn.ex_bin fh2 (.tmp rfl) .const) fun Ko hKo => ?_;go_simp;(try go_bits);refine hKo _ _ fun fa3 fh3 => ?_;clear hKo Ko fh2 fa2;refine Kn.pure fh3 rfl rfl .none (Kn.ex_move fh3 (.tmp rfl)) fun fa4 fh4 => ?_;clear fh3 fa3;refine Kn.pure fh4 rfl rfl (.some rfl rfl rfl) (Kn.ex_move fh4 (.tmp rfl)) fun fa5 fh5 => ?_;clear fh4 fa4;refine Kn.pure fh5 rfl rfl (.some rfl rfl rfl) (Kn.ex_move fh5 (.tmp rfl)) fun fa6 fh6 => ?_;clear fh5 fa5;refine Kn.step fh6 rfl rfl (.some rfl rfl rfl) (Kn.ex_bin fh6 (.tmp rfl) (.tmp rfl)) fun Ko hKo => ?_;go_simp;(try go_bits);refine hKo _ _ fun fa7 fh7 => ?_;clear hKo Ko fh6 fa6;refine Kn.pure fh7 rfl rfl .none (Kn.ex_pick fh7 (.tmp rfl) (.tmp rfl)) fun fa8 fh8 => ?_;clear fh7 fa7;refine Kn.pure fh8 rfl rfl .none (Kn.ex_assign fh8 (.tmp rfl)) fun fa9 fh9 => ?_;clear fh8 fa8;refine wpList_nil ?_;refine hK2 _ _ ?_;clear hK2 K2;replace fh9 := fh9.cut (.cons (t := 4) rfl .nil);refine wp_ret ?_;exact Kn.ret1 fh9 rfl rfl ⟨by rw [nodeB_no (.inr h2)], rfl⟩
  have h3 : v < N := by omega
  refine wp_seq_k fun K2 hK2 => ?_;refine wp_region_lit ?_;refine Kn.pure fh1 rfl rfl .none (Kn.ex_move fh1 (.tmp rfl)) fun fa2 fh2 => ?_;clear fh1 fa1;refine Kn.step fh2 rfl rfl .none (Kn.ex_bin fh2 (.tmp rfl) .const) fun Ko hKo => ?_;go_simp;(try go_bits);refine hKo _ _ fun fa3 fh3 => ?_;clear hKo Ko fh2 fa2;refine Kn.pure fh3 rfl rfl .none (Kn.ex_move fh3 (.tmp rfl)) fun fa4 fh4 => ?_;clear fh3 fa3;refine Kn.pure fh4 rfl rfl (.some rfl rfl rfl) (Kn.ex_move fh4 (.tmp rfl)) fun fa5 fh5 => ?_;clear fh4 fa4;refine Kn.pure fh5 rfl rfl (.some rfl rfl rfl) (Kn.ex_move fh5 (.tmp rfl)) fun fa6 fh6 => ?_;clear fh5 fa5;refine Kn.step fh6 rfl rfl (.some rfl rfl rfl) (Kn.ex_bin fh6 (.tmp rfl) (.tmp rfl)) fun Ko hKo => ?_;go_simp;(try go_bits);refine hKo _ _ fun fa7 fh7 => ?_;clear hKo Ko fh6 fa6;refine Kn.pure fh7 rfl rfl .none (Kn.ex_pick fh7 (.tmp rfl) (.tmp rfl)) fun fa8 fh8 => ?_;clear fh7 fa7;refine Kn.pure fh8 rfl rfl .none (Kn.ex_assign fh8 (.tmp rfl)) fun fa9 fh9 => ?_;clear fh8 fa8;refine wpList_nil ?_;refine hK2 _ _ ?_;clear hK2 K2;replace fh9 := fh9.cut (.cons (t := 4) rfl .nil);refine wp_ret ?_;exact Kn.ret1 fh9 rfl rfl ⟨by rw [nodeB_yes h0 h3], rfl⟩
set_option maxRecDepth 100000 in
set_option maxHeartbeats 2000000 in
theorem gfault_any (p : Int) (T : TypeId) (X : Value) (w : World) :
    Calls Tryz.prog 85 #[.int .i64 p, .iface T X] w fun e w' => e = .returned (flt p (.iface T X)) ∧ w = w' := by
  refine Kn.calls Tryz.func85 rfl Tryz.ntmps85 rfl (.cons (t := 0) rfl (.cons (t := 1) rfl .nil)) fun fa0 fh0 => ?_;refine wp_seq_k fun K1 hK1 => ?_;refine wp_region_lit ?_;refine Kn.pure fh0 rfl rfl .none (Kn.ex_assign fh0 .const) fun fa1 fh1 => ?_;clear fh0 fa0;refine wpList_nil ?_;refine hK1 _ _ ?_;clear hK1 K1;refine wp_seq_k fun K2 hK2 => ?_;refine wp_region_lit ?_;refine Kn.pure fh1 rfl rfl .none (Kn.ex_move fh1 (.tmp rfl)) fun fa2 fh2 => ?_;clear fh1 fa1;refine Kn.pure fh2 rfl rfl .none (Kn.ex_move fh2 (.tmp rfl)) fun fa3 fh3 => ?_;clear fh2 fa2;refine Kn.step fh3 rfl rfl .none (Kn.ex_build fh3 (.cons (.tmp rfl) (.cons (.tmp rfl) .nil))) fun Ko hKo => ?_;go_simp;(try go_bits);refine hKo _ _ fun fa4 fh4 => ?_;clear hKo Ko fh3 fa3;refine Kn.step fh4 rfl rfl .none (Kn.ex_makeInterface fh4 (.tmp rfl)) fun Ko hKo => ?_;go_simp;(try go_bits);refine hKo _ _ fun fa5 fh5 => ?_;clear hKo Ko fh4 fa4;refine Kn.pure fh5 rfl rfl .none (Kn.ex_assign fh5 (.tmp rfl)) fun fa6 fh6 => ?_;clear fh5 fa5;refine wpList_nil ?_;refine hK2 _ _ ?_;clear hK2 K2;replace fh6 := fh6.cut (.cons (t := 4) rfl .nil);refine wp_ret ?_;exact Kn.ret1 fh6 rfl rfl ⟨rfl, rfl⟩
set_option maxRecDepth 100000 in
set_option maxHeartbeats 2000000 in
theorem check_ok (N v : Int) (w : World) (h0 : 0 ≤ N) (h1 : N ≤ 4096) (h2 : 0 ≤ v) (h3 : v < N) :
    Calls Tryz.prog 84 #[.int .i64 N, .int .i64 v] w fun e w' => e = .returned (.nilIface) ∧ w = w' := by
  refine Kn.calls Tryz.func84 rfl Tryz.ntmps84 rfl (.cons (t := 0) rfl (.cons (t := 1) rfl .nil)) fun fa0 fh0 => ?_;refine wp_seq_k fun K1 hK1 => ?_;refine wp_region_lit ?_;refine Kn.pure fh0 rfl rfl .none (Kn.ex_assign fh0 .const) fun fa1 fh1 => ?_;clear fh0 fa0;refine wpList_nil ?_;refine hK1 _ _ ?_;clear hK1 K1;have hm := isMany_any N w;rw [manyB_yes h0 h1] at hm;refine wp_seq_k fun K2 hK2 => ?_;refine wp_seq_k fun K3 hK3 => ?_;refine wp_region_lit ?_;refine Kn.pure fh1 rfl rfl .none (Kn.ex_move fh1 (.tmp rfl)) fun fa2 fh2 => ?_;clear fh1 fa1;refine Kn.call fh2 rfl rfl .none (Kn.ex_call fh2 (.cons (.tmp rfl) .nil)) Tryz.call110 (hm) fun e w1 hp => ?_;obtain ⟨rfl, rfl⟩ := hp;refine ⟨_, rfl, fun fa3 fh3 => ?_⟩;clear fh2 fa2;refine Kn.step fh3 rfl rfl .none (Kn.ex_un fh3 (.tmp rfl)) fun Ko hKo => ?_;go_simp;(try go_bits);refine hKo _ _ fun fa4 fh4 => ?_;clear hKo Ko fh3 fa3;refine wpList_nil ?_;refine hK3 _ _ ?_;clear hK3 K3;replace fh4 := fh4.cut (.cons (t := 7) rfl (.cons (t := 4) rfl (.cons (t := 0) rfl (.cons (t := 1) rfl .nil))));clear hm;refine Kn.no fh4 (.tmp rfl) ?_;refine wp_skip ?_;refine hK2 _ _ ?_;clear hK2 K2;replace fh4 := fh4.cut (.cons (t := 4) rfl (.cons (t := 0) rfl (.cons (t := 1) rfl .nil)));have hn := isNode_any N v w;rw [nodeB_yes h2 h3] at hn;refine wp_seq_k fun K4 hK4 => ?_;refine wp_seq_k fun K5 hK5 => ?_;refine wp_region_lit ?_;refine Kn.pure fh4 rfl rfl .none (Kn.ex_move fh4 (.tmp rfl)) fun fa5 fh5 => ?_;clear fh4 fa4;refine Kn.pure fh5 rfl rfl .none (Kn.ex_move fh5 (.tmp rfl)) fun fa6 fh6 => ?_;clear fh5 fa5;refine Kn.call fh6 rfl rfl .none (Kn.ex_call fh6 (.cons (.tmp rfl) (.cons (.tmp rfl) .nil))) Tryz.call88 (hn) fun e w1 hp => ?_;obtain ⟨rfl, rfl⟩ := hp;refine ⟨_, rfl, fun fa7 fh7 => ?_⟩;clear fh6 fa6;refine Kn.step fh7 rfl rfl .none (Kn.ex_un fh7 (.tmp rfl)) fun Ko hKo => ?_;go_simp;(try go_bits);refine hKo _ _ fun fa8 fh8 => ?_;clear hKo Ko fh7 fa7;refine wpList_nil ?_;refine hK5 _ _ ?_;clear hK5 K5;replace fh8 := fh8.cut (.cons (t := 12) rfl (.cons (t := 4) rfl .nil));clear hn;refine Kn.no fh8 (.tmp rfl) ?_;refine wp_skip ?_;refine hK4 _ _ ?_;clear hK4 K4;replace fh8 := fh8.cut (.cons (t := 4) rfl .nil);refine wp_seq_k fun K6 hK6 => ?_;refine wp_region_lit ?_;refine Kn.pure fh8 rfl rfl .none (Kn.ex_assign fh8 .const) fun fa9 fh9 => ?_;clear fh8 fa8;refine wpList_nil ?_;refine hK6 _ _ ?_;clear hK6 K6;refine wp_ret ?_;exact Kn.ret1 fh9 rfl rfl ⟨rfl, rfl⟩
set_option maxRecDepth 100000 in
set_option maxHeartbeats 2000000 in
theorem gcount_g (s : ByteArray) (p N : Int) (w : World) (hs : s.size ≤ maxLen) (h0 : 0 ≤ N) (h1 : N ≤ 4096) :
    Calls Tryz.prog 86 #[.string s, .int .i64 p, .int .i64 N] w fun e w' => e = .returned (.tuple #[.int .i64 (cnt s p N).1, .int .i64 (cnt s p N).2.1, gE (cnt s p N).2.2.1 (cnt s p N).2.2.2]) ∧ w = w' := by
  refine Kn.calls Tryz.func86 rfl Tryz.ntmps86 rfl (.cons (t := 0) rfl (.cons (t := 1) rfl (.cons (t := 2) rfl .nil))) fun fa0 fh0 => ?_;refine wp_seq_k fun K1 hK1 => ?_;refine wp_region_lit ?_;refine Kn.pure fh0 rfl rfl .none (Kn.ex_assign fh0 .const) fun fa1 fh1 => ?_;clear fh0 fa0;refine Kn.pure fh1 rfl rfl .none (Kn.ex_assign fh1 .const) fun fa2 fh2 => ?_;clear fh1 fa1;refine Kn.pure fh2 rfl rfl .none (Kn.ex_assign fh2 .const) fun fa3 fh3 => ?_;clear fh2 fa2;refine wpList_nil ?_;refine hK1 _ _ ?_;clear hK1 K1;have hm := isMany_any N w;rw [manyB_yes h0 h1] at hm;refine wp_seq_k fun K2 hK2 => ?_;refine wp_seq_k fun K3 hK3 => ?_;refine wp_region_lit ?_;refine Kn.pure fh3 rfl rfl .none (Kn.ex_move fh3 (.tmp rfl)) fun fa4 fh4 => ?_;clear fh3 fa3;refine Kn.call fh4 rfl rfl .none (Kn.ex_call fh4 (.cons (.tmp rfl) .nil)) Tryz.call110 (hm) fun e w1 hp => ?_;obtain ⟨rfl, rfl⟩ := hp;refine ⟨_, rfl, fun fa5 fh5 => ?_⟩;clear fh4 fa4;refine Kn.step fh5 rfl rfl .none (Kn.ex_un fh5 (.tmp rfl)) fun Ko hKo => ?_;go_simp;(try go_bits);refine hKo _ _ fun fa6 fh6 => ?_;clear hKo Ko fh5 fa5;refine wpList_nil ?_;refine hK3 _ _ ?_;clear hK3 K3;replace fh6 := fh6.cut (.cons (t := 14) rfl (.cons (t := 8) rfl (.cons (t := 7) rfl (.cons (t := 6) rfl (.cons (t := 0) rfl (.cons (t := 1) rfl (.cons (t := 2) rfl .nil)))))));clear hm;refine Kn.no fh6 (.tmp rfl) ?_;refine wp_skip ?_;refine hK2 _ _ ?_;clear hK2 K2;replace fh6 := fh6.cut (.cons (t := 8) rfl (.cons (t := 7) rfl (.cons (t := 6) rfl (.cons (t := 0) rfl (.cons (t := 1) rfl (.cons (t := 2) rfl .nil))))));have hsh := short_g s p w hs;rcases hg : rdG s p with ⟨x, nx, e, a⟩;rw [hg] at hsh;simp only at hsh
  by_cases he : e = 0
  · subst he;rw [gE_0] at hsh;obtain ⟨⟨hx0, hx1⟩, -, hpn, hns, rfl, -⟩ := rdG_ok hg
    by_cases hxN : N < x
    · have HR : Hid (cnt s p N = (0, p, 4, p)) := Lib.hid (by unfold cnt; rw [hg, if_pos ⟨rfl, hxN⟩]);clear hg;refine wp_seq_k fun K4 hK4 => ?_;refine wp_region_lit ?_;refine Kn.pure fh6 rfl rfl .none (Kn.ex_move fh6 (.tmp rfl)) fun fa7 fh7 => ?_;clear fh6 fa6;refine Kn.pure fh7 rfl rfl .none (Kn.ex_move fh7 (.tmp rfl)) fun fa8 fh8 => ?_;clear fh7 fa7;refine Kn.call fh8 rfl rfl .none (Kn.ex_call fh8 (.cons (.tmp rfl) (.cons (.tmp rfl) .nil))) Tryz.call53 (hsh) fun e w1 hp => ?_;obtain ⟨rfl, rfl⟩ := hp;refine ⟨_, rfl, fun fa9 fh9 => ?_⟩;clear fh8 fa8;refine Kn.pure fh9 rfl rfl .none (Kn.ex_move fh9 (.tmp rfl)) fun fa10 fh10 => ?_;clear fh9 fa9;refine Kn.pure fh10 rfl rfl .none (Kn.ex_extract fh10 (.tmp rfl) rfl) fun fa11 fh11 => ?_;clear fh10 fa10;refine Kn.pure fh11 rfl rfl .none (Kn.ex_extract fh11 (.tmp rfl) rfl) fun fa12 fh12 => ?_;clear fh11 fa11;refine Kn.pure fh12 rfl rfl .none (Kn.ex_extract fh12 (.tmp rfl) rfl) fun fa13 fh13 => ?_;clear fh12 fa12;refine Kn.pure fh13 rfl rfl .none (Kn.ex_assign fh13 (.tmp rfl)) fun fa14 fh14 => ?_;clear fh13 fa13;refine Kn.pure fh14 rfl rfl .none (Kn.ex_assign fh14 (.tmp rfl)) fun fa15 fh15 => ?_;clear fh14 fa14;refine Kn.pure fh15 rfl rfl .none (Kn.ex_assign fh15 (.tmp rfl)) fun fa16 fh16 => ?_;clear fh15 fa15;refine wpList_nil ?_;refine hK4 _ _ ?_;clear hK4 K4;replace fh16 := fh16.cut (.cons (t := 11) rfl (.cons (t := 10) rfl (.cons (t := 9) rfl (.cons (t := 8) rfl (.cons (t := 7) rfl (.cons (t := 6) rfl (.cons (t := 1) rfl (.cons (t := 2) rfl .nil))))))));clear hsh;refine wp_seq_k fun K5 hK5 => ?_;refine wp_seq_k fun K6 hK6 => ?_;refine wp_region_lit ?_;refine Kn.pure fh16 rfl rfl .none (Kn.ex_move fh16 (.tmp rfl)) fun fa17 fh17 => ?_;clear fh16 fa16;refine Kn.step fh17 rfl rfl .none (Kn.ex_bin fh17 (.tmp rfl) .const) fun Ko hKo => ?_;go_simp;(try go_bits);refine hKo _ _ fun fa18 fh18 => ?_;clear hKo Ko fh17 fa17;refine wpList_nil ?_;refine hK6 _ _ ?_;clear hK6 K6;replace fh18 := fh18.cut (.cons (t := 27) rfl (.cons (t := 11) rfl (.cons (t := 10) rfl (.cons (t := 9) rfl (.cons (t := 8) rfl (.cons (t := 7) rfl (.cons (t := 6) rfl (.cons (t := 1) rfl (.cons (t := 2) rfl .nil)))))))));refine Kn.no fh18 (.tmp rfl) ?_;refine wp_skip ?_;refine hK5 _ _ ?_;clear hK5 K5;replace fh18 := fh18.cut (.cons (t := 10) rfl (.cons (t := 9) rfl (.cons (t := 8) rfl (.cons (t := 7) rfl (.cons (t := 6) rfl (.cons (t := 1) rfl (.cons (t := 2) rfl .nil)))))));refine wp_seq_k fun K7 hK7 => ?_;refine wp_seq_k fun K8 hK8 => ?_;refine wp_region_lit ?_;refine Kn.pure fh18 rfl rfl .none (Kn.ex_move fh18 (.tmp rfl)) fun fa19 fh19 => ?_;clear fh18 fa18;refine Kn.pure fh19 rfl rfl .none (Kn.ex_move fh19 (.tmp rfl)) fun fa20 fh20 => ?_;clear fh19 fa19;refine Kn.step fh20 rfl rfl .none (Kn.ex_bin fh20 (.tmp rfl) (.tmp rfl)) fun Ko hKo => ?_;go_simp;(try go_bits);refine hKo _ _ fun fa21 fh21 => ?_;clear hKo Ko fh20 fa20;refine wpList_nil ?_;refine hK8 _ _ ?_;clear hK8 K8;replace fh21 := fh21.cut (.cons (t := 32) rfl (.cons (t := 10) rfl (.cons (t := 9) rfl (.cons (t := 8) rfl (.cons (t := 7) rfl (.cons (t := 6) rfl (.cons (t := 1) rfl .nil)))))));refine Kn.yes fh21 (.tmp rfl) ?_;replace fh21 := fh21.cut (.cons (t := 10) rfl (.cons (t := 9) rfl (.cons (t := 8) rfl (.cons (t := 7) rfl (.cons (t := 6) rfl (.cons (t := 1) rfl .nil))))));have hf := gfault_any p 52 (.int .i64 4) w;unfold flt at hf;refine wp_seq_k fun K9 hK9 => ?_;refine wp_region_lit ?_;refine Kn.pure fh21 rfl rfl .none (Kn.ex_move fh21 (.tmp rfl)) fun fa22 fh22 => ?_;clear fh21 fa21;refine Kn.pure fh22 rfl rfl .none (Kn.ex_move fh22 (.tmp rfl)) fun fa23 fh23 => ?_;clear fh22 fa22;refine Kn.step fh23 rfl rfl .none (Kn.ex_makeInterface fh23 .const) fun Ko hKo => ?_;go_simp;(try go_bits);refine hKo _ _ fun fa24 fh24 => ?_;clear hKo Ko fh23 fa23;refine Kn.call fh24 rfl rfl .none (Kn.ex_call fh24 (.cons (.tmp rfl) (.cons (.tmp rfl) .nil))) Tryz.call85 (hf) fun e w1 hp => ?_;obtain ⟨rfl, rfl⟩ := hp;refine ⟨_, rfl, fun fa25 fh25 => ?_⟩;clear fh24 fa24;refine Kn.pure fh25 rfl rfl .none (Kn.ex_assign fh25 .const) fun fa26 fh26 => ?_;clear fh25 fa25;refine Kn.pure fh26 rfl rfl .none (Kn.ex_assign fh26 (.tmp rfl)) fun fa27 fh27 => ?_;clear fh26 fa26;refine Kn.pure fh27 rfl rfl .none (Kn.ex_assign fh27 (.tmp rfl)) fun fa28 fh28 => ?_;clear fh27 fa27;refine wpList_nil ?_;refine hK9 _ _ ?_;clear hK9 K9;replace fh28 := fh28.cut (.cons (t := 8) rfl (.cons (t := 7) rfl (.cons (t := 6) rfl (.cons (t := 10) rfl (.cons (t := 9) rfl .nil)))));refine wp_ret ?_;refine Kn.then_ret ?_;exact Kn.ret3 fh28 rfl rfl rfl rfl ⟨by rw [HR.out]; rfl, rfl⟩
    have HR : Hid (cnt s p N = (x, nx, 0, 0)) := Lib.hid (by unfold cnt; rw [hg, if_neg (fun h => hxN h.2)]);clear hg;refine wp_seq_k fun K4 hK4 => ?_;refine wp_region_lit ?_;refine Kn.pure fh6 rfl rfl .none (Kn.ex_move fh6 (.tmp rfl)) fun fa7 fh7 => ?_;clear fh6 fa6;refine Kn.pure fh7 rfl rfl .none (Kn.ex_move fh7 (.tmp rfl)) fun fa8 fh8 => ?_;clear fh7 fa7;refine Kn.call fh8 rfl rfl .none (Kn.ex_call fh8 (.cons (.tmp rfl) (.cons (.tmp rfl) .nil))) Tryz.call53 (hsh) fun e w1 hp => ?_;obtain ⟨rfl, rfl⟩ := hp;refine ⟨_, rfl, fun fa9 fh9 => ?_⟩;clear fh8 fa8;refine Kn.pure fh9 rfl rfl .none (Kn.ex_move fh9 (.tmp rfl)) fun fa10 fh10 => ?_;clear fh9 fa9;refine Kn.pure fh10 rfl rfl .none (Kn.ex_extract fh10 (.tmp rfl) rfl) fun fa11 fh11 => ?_;clear fh10 fa10;refine Kn.pure fh11 rfl rfl .none (Kn.ex_extract fh11 (.tmp rfl) rfl) fun fa12 fh12 => ?_;clear fh11 fa11;refine Kn.pure fh12 rfl rfl .none (Kn.ex_extract fh12 (.tmp rfl) rfl) fun fa13 fh13 => ?_;clear fh12 fa12;refine Kn.pure fh13 rfl rfl .none (Kn.ex_assign fh13 (.tmp rfl)) fun fa14 fh14 => ?_;clear fh13 fa13;refine Kn.pure fh14 rfl rfl .none (Kn.ex_assign fh14 (.tmp rfl)) fun fa15 fh15 => ?_;clear fh14 fa14;refine Kn.pure fh15 rfl rfl .none (Kn.ex_assign fh15 (.tmp rfl)) fun fa16 fh16 => ?_;clear fh15 fa15;refine wpList_nil ?_;refine hK4 _ _ ?_;clear hK4 K4;replace fh16 := fh16.cut (.cons (t := 11) rfl (.cons (t := 10) rfl (.cons (t := 9) rfl (.cons (t := 8) rfl (.cons (t := 7) rfl (.cons (t := 6) rfl (.cons (t := 1) rfl (.cons (t := 2) rfl .nil))))))));clear hsh;refine wp_seq_k fun K5 hK5 => ?_;refine wp_seq_k fun K6 hK6 => ?_;refine wp_region_lit ?_;refine Kn.pure fh16 rfl rfl .none (Kn.ex_move fh16 (.tmp rfl)) fun fa17 fh17 => ?_;clear fh16 fa16;refine Kn.step fh17 rfl rfl .none (Kn.ex_bin fh17 (.tmp rfl) .const) fun Ko hKo => ?_;go_simp;(try go_bits);refine hKo _ _ fun fa18 fh18 => ?_;clear hKo Ko fh17 fa17;refine wpList_nil ?_;refine hK6 _ _ ?_;clear hK6 K6;replace fh18 := fh18.cut (.cons (t := 27) rfl (.cons (t := 11) rfl (.cons (t := 10) rfl (.cons (t := 9) rfl (.cons (t := 8) rfl (.cons (t := 7) rfl (.cons (t := 6) rfl (.cons (t := 1) rfl (.cons (t := 2) rfl .nil)))))))));refine Kn.no fh18 (.tmp rfl) ?_;refine wp_skip ?_;refine hK5 _ _ ?_;clear hK5 K5;replace fh18 := fh18.cut (.cons (t := 10) rfl (.cons (t := 9) rfl (.cons (t := 8) rfl (.cons (t := 7) rfl (.cons (t := 6) rfl (.cons (t := 1) rfl (.cons (t := 2) rfl .nil)))))));refine wp_seq_k fun K7 hK7 => ?_;refine wp_seq_k fun K8 hK8 => ?_;refine wp_region_lit ?_;refine Kn.pure fh18 rfl rfl .none (Kn.ex_move fh18 (.tmp rfl)) fun fa19 fh19 => ?_;clear fh18 fa18;refine Kn.pure fh19 rfl rfl .none (Kn.ex_move fh19 (.tmp rfl)) fun fa20 fh20 => ?_;clear fh19 fa19;refine Kn.step fh20 rfl rfl .none (Kn.ex_bin fh20 (.tmp rfl) (.tmp rfl)) fun Ko hKo => ?_;go_simp;(try go_bits);refine hKo _ _ fun fa21 fh21 => ?_;clear hKo Ko fh20 fa20;refine wpList_nil ?_;refine hK8 _ _ ?_;clear hK8 K8;replace fh21 := fh21.cut (.cons (t := 32) rfl (.cons (t := 10) rfl (.cons (t := 9) rfl (.cons (t := 8) rfl (.cons (t := 7) rfl (.cons (t := 6) rfl (.cons (t := 1) rfl .nil)))))));refine Kn.no fh21 (.tmp rfl) ?_;refine wp_skip ?_;refine hK7 _ _ ?_;clear hK7 K7;replace fh21 := fh21.cut (.cons (t := 10) rfl (.cons (t := 9) rfl (.cons (t := 8) rfl (.cons (t := 7) rfl (.cons (t := 6) rfl .nil)))));refine wp_seq_k fun K9 hK9 => ?_;refine wp_region_lit ?_;refine Kn.pure fh21 rfl rfl .none (Kn.ex_move fh21 (.tmp rfl)) fun fa22 fh22 => ?_;clear fh21 fa21;refine Kn.pure fh22 rfl rfl .none (Kn.ex_move fh22 (.tmp rfl)) fun fa23 fh23 => ?_;clear fh22 fa22;refine Kn.pure fh23 rfl rfl .none (Kn.ex_assign fh23 (.tmp rfl)) fun fa24 fh24 => ?_;clear fh23 fa23;refine Kn.pure fh24 rfl rfl .none (Kn.ex_assign fh24 (.tmp rfl)) fun fa25 fh25 => ?_;clear fh24 fa24;refine Kn.pure fh25 rfl rfl .none (Kn.ex_assign fh25 .const) fun fa26 fh26 => ?_;clear fh25 fa25;refine wpList_nil ?_;refine hK9 _ _ ?_;clear hK9 K9;replace fh26 := fh26.cut (.cons (t := 8) rfl (.cons (t := 7) rfl (.cons (t := 6) rfl .nil)));refine wp_ret ?_;exact Kn.ret3 fh26 rfl rfl rfl rfl ⟨by rw [HR.out]; rfl, rfl⟩
  obtain ⟨rfl, rfl, -⟩ := rdG_bad hg he;have HR : Hid (cnt s nx N = (0, nx, e, a)) := Lib.hid (by unfold cnt; rw [hg, if_neg (fun h => he h.1)]);have HE : Hid (gE e a = .iface 54 (.agg #[.int .i64 a, .iface 52 (.int .i64 e)])) := Lib.hid (gE_e he);rw [HE.out] at hsh;clear hg he;refine wp_seq_k fun K4 hK4 => ?_;refine wp_region_lit ?_;refine Kn.pure fh6 rfl rfl .none (Kn.ex_move fh6 (.tmp rfl)) fun fa7 fh7 => ?_;clear fh6 fa6;refine Kn.pure fh7 rfl rfl .none (Kn.ex_move fh7 (.tmp rfl)) fun fa8 fh8 => ?_;clear fh7 fa7;refine Kn.call fh8 rfl rfl .none (Kn.ex_call fh8 (.cons (.tmp rfl) (.cons (.tmp rfl) .nil))) Tryz.call53 (hsh) fun e w1 hp => ?_;obtain ⟨rfl, rfl⟩ := hp;refine ⟨_, rfl, fun fa9 fh9 => ?_⟩;clear fh8 fa8;refine Kn.pure fh9 rfl rfl .none (Kn.ex_move fh9 (.tmp rfl)) fun fa10 fh10 => ?_;clear fh9 fa9;refine Kn.pure fh10 rfl rfl .none (Kn.ex_extract fh10 (.tmp rfl) rfl) fun fa11 fh11 => ?_;clear fh10 fa10;refine Kn.pure fh11 rfl rfl .none (Kn.ex_extract fh11 (.tmp rfl) rfl) fun fa12 fh12 => ?_;clear fh11 fa11;refine Kn.pure fh12 rfl rfl .none (Kn.ex_extract fh12 (.tmp rfl) rfl) fun fa13 fh13 => ?_;clear fh12 fa12;refine Kn.pure fh13 rfl rfl .none (Kn.ex_assign fh13 (.tmp rfl)) fun fa14 fh14 => ?_;clear fh13 fa13;refine Kn.pure fh14 rfl rfl .none (Kn.ex_assign fh14 (.tmp rfl)) fun fa15 fh15 => ?_;clear fh14 fa14;refine Kn.pure fh15 rfl rfl .none (Kn.ex_assign fh15 (.tmp rfl)) fun fa16 fh16 => ?_;clear fh15 fa15;refine wpList_nil ?_;refine hK4 _ _ ?_;clear hK4 K4;replace fh16 := fh16.cut (.cons (t := 11) rfl (.cons (t := 10) rfl (.cons (t := 9) rfl (.cons (t := 8) rfl (.cons (t := 7) rfl (.cons (t := 6) rfl (.cons (t := 1) rfl (.cons (t := 2) rfl .nil))))))));clear hsh;refine wp_seq_k fun K5 hK5 => ?_;refine wp_seq_k fun K6 hK6 => ?_;refine wp_region_lit ?_;refine Kn.pure fh16 rfl rfl .none (Kn.ex_move fh16 (.tmp rfl)) fun fa17 fh17 => ?_;clear fh16 fa16;refine Kn.step fh17 rfl rfl .none (Kn.ex_bin fh17 (.tmp rfl) .const) fun Ko hKo => ?_;go_simp;(try go_bits);refine hKo _ _ fun fa18 fh18 => ?_;clear hKo Ko fh17 fa17;refine wpList_nil ?_;refine hK6 _ _ ?_;clear hK6 K6;replace fh18 := fh18.cut (.cons (t := 27) rfl (.cons (t := 11) rfl (.cons (t := 10) rfl (.cons (t := 9) rfl (.cons (t := 8) rfl (.cons (t := 7) rfl (.cons (t := 6) rfl (.cons (t := 1) rfl (.cons (t := 2) rfl .nil)))))))));refine Kn.yes fh18 (.tmp rfl) ?_;replace fh18 := fh18.cut (.cons (t := 11) rfl (.cons (t := 10) rfl (.cons (t := 9) rfl (.cons (t := 8) rfl (.cons (t := 7) rfl (.cons (t := 6) rfl (.cons (t := 1) rfl (.cons (t := 2) rfl .nil))))))));refine wp_seq_k fun K7 hK7 => ?_;refine wp_region_lit ?_;refine Kn.pure fh18 rfl rfl .none (Kn.ex_move fh18 (.tmp rfl)) fun fa19 fh19 => ?_;clear fh18 fa18;refine Kn.pure fh19 rfl rfl .none (Kn.ex_move fh19 (.tmp rfl)) fun fa20 fh20 => ?_;clear fh19 fa19;refine Kn.pure fh20 rfl rfl .none (Kn.ex_assign fh20 .const) fun fa21 fh21 => ?_;clear fh20 fa20;refine Kn.pure fh21 rfl rfl .none (Kn.ex_assign fh21 (.tmp rfl)) fun fa22 fh22 => ?_;clear fh21 fa21;refine Kn.pure fh22 rfl rfl .none (Kn.ex_assign fh22 (.tmp rfl)) fun fa23 fh23 => ?_;clear fh22 fa22;refine wpList_nil ?_;refine hK7 _ _ ?_;clear hK7 K7;replace fh23 := fh23.cut (.cons (t := 8) rfl (.cons (t := 7) rfl (.cons (t := 6) rfl (.cons (t := 10) rfl (.cons (t := 9) rfl (.cons (t := 1) rfl (.cons (t := 2) rfl .nil)))))));refine wp_ret ?_;refine Kn.then_ret ?_;exact Kn.ret3 fh23 rfl rfl rfl rfl ⟨by rw [HR.out, HE.out]; rfl, rfl⟩
theorem cntC_ok {s : ByteArray} {p N x nx a : Int} (h : cnt s p N = (x, nx, 0, a)) : rdG s p = (x, nx, 0, a) ∧ x ≤ N := by
  unfold cnt at h
  split at h
  · simp at h
  · rename_i hn;rw [h] at hn;exact ⟨h, by simp at hn; omega⟩
end Go.Proofs.YtbahklpdldghbaaGreatDoor.Gap
end
section
namespace Go.Proofs.YtbahklpdldghbaaGreatDoor.Gap
open Go Go.RowKit Go.Lib Oct Num
set_option maxRecDepth 100000 in
set_option maxHeartbeats 2000000 in
theorem step_first (s : ByteArray) (p v : Int) (A : Option Addr) (c : Nat) (w : World) (hs : s.size ≤ maxLen) (hv0 : 0 ≤ v) (hv1 : v ≤ 4096) :
    Calls Tryz.prog 87 #[.string s, .int .i64 p, .int .i64 v, .slice A 0 c] w fun e w' => e = .returned (.tuple #[.int .i64 (v + bkI (rdG s p).1), .int .i64 (rdG s p).2.1, gE (rdG s p).2.2.1 (rdG s p).2.2.2]) ∧ w = w' := by
  rcases hg : rdG s p with ⟨x, nx, e, a⟩
  have hx : 0 ≤ x ∧ x ≤ 72057594037927935 := by
    by_cases he : e = 0
    · subst he; exact (rdG_ok hg).1
    · have := (rdG_bad hg he).1; omega
  refine Kn.calls Tryz.func87 rfl Tryz.ntmps87 rfl (.cons (t := 0) rfl (.cons (t := 1) rfl (.cons (t := 2) rfl (.cons (t := 3) rfl .nil)))) fun fa0 fh0 => ?_;refine wp_seq_k fun K1 hK1 => ?_;refine wp_region_lit ?_;refine Kn.pure fh0 rfl rfl .none (Kn.ex_assign fh0 .const) fun fa1 fh1 => ?_;clear fh0 fa0;refine Kn.pure fh1 rfl rfl .none (Kn.ex_assign fh1 .const) fun fa2 fh2 => ?_;clear fh1 fa1;refine Kn.pure fh2 rfl rfl .none (Kn.ex_assign fh2 .const) fun fa3 fh3 => ?_;clear fh2 fa2;refine wpList_nil ?_;refine hK1 _ _ ?_;clear hK1 K1;have hsh := turned_g s p w hs;rw [hg] at hsh;simp only at hsh;obtain ⟨b, hb⟩ : ∃ b, bkI x = b := ⟨_, rfl⟩;have hbb : -72057594037927936 ≤ b ∧ b ≤ 72057594037927936 := by rw [← hb]; unfold bkI; split <;> omega
  obtain ⟨t, ht⟩ : ∃ t, v + b = t := ⟨_, rfl⟩;have htb : -72057594037927936 ≤ t ∧ t ≤ 72057594037932032 := by omega
  rw [hb] at hsh;simp only [hb];rw [ht];clear hg hb hx;refine wp_seq_k fun K2 hK2 => ?_;refine wp_seq_k fun K3 hK3 => ?_;refine wp_region_lit ?_;refine Kn.pure fh3 rfl rfl .none (Kn.ex_move fh3 (.tmp rfl)) fun fa4 fh4 => ?_;clear fh3 fa3;refine Kn.step fh4 rfl rfl .none (Kn.ex_len fh4 (.tmp rfl)) fun Ko hKo => ?_;go_simp;(try go_bits);refine hKo _ _ fun fa5 fh5 => ?_;clear hKo Ko fh4 fa4;refine Kn.step fh5 rfl rfl .none (Kn.ex_bin fh5 (.tmp rfl) .const) fun Ko hKo => ?_;go_simp;(try go_bits);refine hKo _ _ fun fa6 fh6 => ?_;clear hKo Ko fh5 fa5;refine wpList_nil ?_;refine hK3 _ _ ?_;clear hK3 K3;replace fh6 := fh6.cut (.cons (t := 19) rfl (.cons (t := 10) rfl (.cons (t := 9) rfl (.cons (t := 8) rfl (.cons (t := 0) rfl (.cons (t := 1) rfl (.cons (t := 2) rfl (.cons (t := 3) rfl .nil))))))));refine Kn.yes fh6 (.tmp rfl) ?_;replace fh6 := fh6.cut (.cons (t := 10) rfl (.cons (t := 9) rfl (.cons (t := 8) rfl (.cons (t := 0) rfl (.cons (t := 1) rfl (.cons (t := 2) rfl (.cons (t := 3) rfl .nil)))))));refine wp_seq_k fun K4 hK4 => ?_;refine wp_region_lit ?_;refine Kn.pure fh6 rfl rfl .none (Kn.ex_move fh6 (.tmp rfl)) fun fa7 fh7 => ?_;clear fh6 fa6;refine Kn.pure fh7 rfl rfl .none (Kn.ex_move fh7 (.tmp rfl)) fun fa8 fh8 => ?_;clear fh7 fa7;refine Kn.call fh8 rfl rfl .none (Kn.ex_call fh8 (.cons (.tmp rfl) (.cons (.tmp rfl) .nil))) Tryz.call111 (hsh) fun e w1 hp => ?_;obtain ⟨rfl, rfl⟩ := hp;refine ⟨_, rfl, fun fa9 fh9 => ?_⟩;clear fh8 fa8;refine Kn.pure fh9 rfl rfl .none (Kn.ex_move fh9 (.tmp rfl)) fun fa10 fh10 => ?_;clear fh9 fa9;refine Kn.pure fh10 rfl rfl .none (Kn.ex_extract fh10 (.tmp rfl) rfl) fun fa11 fh11 => ?_;clear fh10 fa10;refine Kn.pure fh11 rfl rfl .none (Kn.ex_extract fh11 (.tmp rfl) rfl) fun fa12 fh12 => ?_;clear fh11 fa11;refine Kn.pure fh12 rfl rfl .none (Kn.ex_extract fh12 (.tmp rfl) rfl) fun fa13 fh13 => ?_;clear fh12 fa12;refine Kn.pure fh13 rfl rfl .none (Kn.ex_assign fh13 (.tmp rfl)) fun fa14 fh14 => ?_;clear fh13 fa13;refine Kn.pure fh14 rfl rfl .none (Kn.ex_assign fh14 (.tmp rfl)) fun fa15 fh15 => ?_;clear fh14 fa14;refine Kn.pure fh15 rfl rfl .none (Kn.ex_assign fh15 (.tmp rfl)) fun fa16 fh16 => ?_;clear fh15 fa15;refine wpList_nil ?_;refine hK4 _ _ ?_;clear hK4 K4;replace fh16 := fh16.cut (.cons (t := 13) rfl (.cons (t := 12) rfl (.cons (t := 11) rfl (.cons (t := 10) rfl (.cons (t := 9) rfl (.cons (t := 8) rfl (.cons (t := 0) rfl (.cons (t := 1) rfl (.cons (t := 2) rfl (.cons (t := 3) rfl .nil))))))))));clear hsh;refine wp_seq_k fun K5 hK5 => ?_;refine wp_region_lit ?_;refine Kn.pure fh16 rfl rfl .none (Kn.ex_move fh16 (.tmp rfl)) fun fa17 fh17 => ?_;clear fh16 fa16;refine Kn.pure fh17 rfl rfl .none (Kn.ex_move fh17 (.tmp rfl)) fun fa18 fh18 => ?_;clear fh17 fa17;refine Kn.step fh18 rfl rfl .none (Kn.ex_bin fh18 (.tmp rfl) (.tmp rfl)) fun Ko hKo => ?_;go_simp;(try go_bits);try rw [ht]
  try go_simp
  (try go_bits);refine hKo _ _ fun fa19 fh19 => ?_;clear hKo Ko fh18 fa18;refine Kn.pure fh19 rfl rfl .none (Kn.ex_move fh19 (.tmp rfl)) fun fa20 fh20 => ?_;clear fh19 fa19;refine Kn.pure fh20 rfl rfl .none (Kn.ex_move fh20 (.tmp rfl)) fun fa21 fh21 => ?_;clear fh20 fa20;refine Kn.pure fh21 rfl rfl .none (Kn.ex_assign fh21 (.tmp rfl)) fun fa22 fh22 => ?_;clear fh21 fa21;refine Kn.pure fh22 rfl rfl .none (Kn.ex_assign fh22 (.tmp rfl)) fun fa23 fh23 => ?_;clear fh22 fa22;refine Kn.pure fh23 rfl rfl .none (Kn.ex_assign fh23 (.tmp rfl)) fun fa24 fh24 => ?_;clear fh23 fa23;refine wpList_nil ?_;refine hK5 _ _ ?_;clear hK5 K5;replace fh24 := fh24.cut (.cons (t := 10) rfl (.cons (t := 9) rfl (.cons (t := 8) rfl (.cons (t := 0) rfl (.cons (t := 1) rfl (.cons (t := 3) rfl .nil))))));refine wp_ret ?_;refine Kn.then_ret ?_;exact Kn.ret3 fh24 rfl rfl rfl rfl ⟨rfl, rfl⟩
set_option maxRecDepth 100000 in
set_option maxHeartbeats 2000000 in
theorem step_next (s : ByteArray) (p v y : Int) (g o n c : Nat) (w : World) (hs : s.size ≤ maxLen) (hn0 : 0 < n) (hn1 : n ≤ 100000) (hy0 : 0 ≤ y) (hy1 : y ≤ 4096) (hc : w.cell? ⟨g, o + (n - 1), none⟩ = some (.int .i64 y)) :
    Calls Tryz.prog 87 #[.string s, .int .i64 p, .int .i64 v, .slice (some ⟨g, o, none⟩) n c] w fun e w' => e = .returned (.tuple #[.int .i64 (y + (rdG s p).1 + 1), .int .i64 (rdG s p).2.1, gE (rdG s p).2.2.1 (rdG s p).2.2.2]) ∧ w = w' := by
  rcases hg : rdG s p with ⟨x, nx, e, a⟩
  have hx : 0 ≤ x ∧ x ≤ 72057594037927935 := by
    by_cases he : e = 0
    · subst he; exact (rdG_ok hg).1
    · have := (rdG_bad hg he).1; omega
  refine Kn.calls Tryz.func87 rfl Tryz.ntmps87 rfl (.cons (t := 0) rfl (.cons (t := 1) rfl (.cons (t := 2) rfl (.cons (t := 3) rfl .nil)))) fun fa0 fh0 => ?_;refine wp_seq_k fun K1 hK1 => ?_;refine wp_region_lit ?_;refine Kn.pure fh0 rfl rfl .none (Kn.ex_assign fh0 .const) fun fa1 fh1 => ?_;clear fh0 fa0;refine Kn.pure fh1 rfl rfl .none (Kn.ex_assign fh1 .const) fun fa2 fh2 => ?_;clear fh1 fa1;refine Kn.pure fh2 rfl rfl .none (Kn.ex_assign fh2 .const) fun fa3 fh3 => ?_;clear fh2 fa2;refine wpList_nil ?_;refine hK1 _ _ ?_;clear hK1 K1;have hsh := short_g s p w hs;rw [hg] at hsh;simp only at hsh ⊢;obtain ⟨j, hj⟩ : ∃ j, n = j + 1 := ⟨n - 1, by omega⟩;have rj : (n : Int) - 1 = (j : Int) := by omega
  have hjn : j < n := by omega
  rw [show n - 1 = j by omega] at hc;have q0 : ((n : Int) == 0) = false := by rw [beq_eq_false_iff_ne]; omega
  have q1 : (n == 0) = false := by rw [beq_eq_false_iff_ne]; omega
  obtain ⟨t0, ht0⟩ : ∃ t, y + 1 = t := ⟨_, rfl⟩;obtain ⟨t, ht⟩ : ∃ t, t0 + x = t := ⟨_, rfl⟩;have htb : 0 ≤ t ∧ t ≤ 72057594037932032 := by omega
  have htb0 : 0 ≤ t0 ∧ t0 ≤ 4097 := by omega
  rw [show y + x + 1 = t by omega];clear hg hj hn0 hx;refine wp_seq_k fun K2 hK2 => ?_;refine wp_seq_k fun K3 hK3 => ?_;refine wp_region_lit ?_;refine Kn.pure fh3 rfl rfl .none (Kn.ex_move fh3 (.tmp rfl)) fun fa4 fh4 => ?_;clear fh3 fa3;refine Kn.step fh4 rfl rfl .none (Kn.ex_len fh4 (.tmp rfl)) fun Ko hKo => ?_;go_simp;(try go_bits);refine hKo _ _ fun fa5 fh5 => ?_;clear hKo Ko fh4 fa4;refine Kn.step fh5 rfl rfl .none (Kn.ex_bin fh5 (.tmp rfl) .const) fun Ko hKo => ?_;go_simp;(try go_bits);refine hKo _ _ fun fa6 fh6 => ?_;clear hKo Ko fh5 fa5;refine wpList_nil ?_;refine hK3 _ _ ?_;clear hK3 K3;replace fh6 := fh6.cut (.cons (t := 19) rfl (.cons (t := 10) rfl (.cons (t := 9) rfl (.cons (t := 8) rfl (.cons (t := 0) rfl (.cons (t := 1) rfl (.cons (t := 2) rfl (.cons (t := 3) rfl .nil))))))));refine Kn.no fh6 (.tmp rfl) ?_;refine wp_skip ?_;refine hK2 _ _ ?_;clear hK2 K2;replace fh6 := fh6.cut (.cons (t := 10) rfl (.cons (t := 9) rfl (.cons (t := 8) rfl (.cons (t := 0) rfl (.cons (t := 1) rfl (.cons (t := 3) rfl .nil))))));refine wp_seq_k fun K4 hK4 => ?_;refine wp_region_lit ?_;refine Kn.pure fh6 rfl rfl .none (Kn.ex_move fh6 (.tmp rfl)) fun fa7 fh7 => ?_;clear fh6 fa6;refine Kn.pure fh7 rfl rfl .none (Kn.ex_move fh7 (.tmp rfl)) fun fa8 fh8 => ?_;clear fh7 fa7;refine Kn.call fh8 rfl rfl .none (Kn.ex_call fh8 (.cons (.tmp rfl) (.cons (.tmp rfl) .nil))) Tryz.call53 (hsh) fun e w1 hp => ?_;obtain ⟨rfl, rfl⟩ := hp;refine ⟨_, rfl, fun fa9 fh9 => ?_⟩;clear fh8 fa8;refine Kn.pure fh9 rfl rfl .none (Kn.ex_move fh9 (.tmp rfl)) fun fa10 fh10 => ?_;clear fh9 fa9;refine Kn.pure fh10 rfl rfl .none (Kn.ex_extract fh10 (.tmp rfl) rfl) fun fa11 fh11 => ?_;clear fh10 fa10;refine Kn.pure fh11 rfl rfl .none (Kn.ex_extract fh11 (.tmp rfl) rfl) fun fa12 fh12 => ?_;clear fh11 fa11;refine Kn.pure fh12 rfl rfl .none (Kn.ex_extract fh12 (.tmp rfl) rfl) fun fa13 fh13 => ?_;clear fh12 fa12;refine Kn.pure fh13 rfl rfl .none (Kn.ex_assign fh13 (.tmp rfl)) fun fa14 fh14 => ?_;clear fh13 fa13;refine Kn.pure fh14 rfl rfl .none (Kn.ex_assign fh14 (.tmp rfl)) fun fa15 fh15 => ?_;clear fh14 fa14;refine Kn.pure fh15 rfl rfl .none (Kn.ex_assign fh15 (.tmp rfl)) fun fa16 fh16 => ?_;clear fh15 fa15;refine wpList_nil ?_;refine hK4 _ _ ?_;clear hK4 K4;replace fh16 := fh16.cut (.cons (t := 16) rfl (.cons (t := 15) rfl (.cons (t := 14) rfl (.cons (t := 10) rfl (.cons (t := 9) rfl (.cons (t := 8) rfl (.cons (t := 3) rfl .nil)))))));clear hsh;refine wp_seq_k fun K5 hK5 => ?_;refine wp_region_lit ?_;refine Kn.pure fh16 rfl rfl .none (Kn.ex_move fh16 (.tmp rfl)) fun fa17 fh17 => ?_;clear fh16 fa16;refine Kn.pure fh17 rfl rfl .none (Kn.ex_move fh17 (.tmp rfl)) fun fa18 fh18 => ?_;clear fh17 fa17;refine Kn.step fh18 rfl rfl .none (Kn.ex_len fh18 (.tmp rfl)) fun Ko hKo => ?_;go_simp;(try go_bits);refine hKo _ _ fun fa19 fh19 => ?_;clear hKo Ko fh18 fa18;refine Kn.step fh19 rfl rfl .none (Kn.ex_bin fh19 (.tmp rfl) .const) fun Ko hKo => ?_;go_simp;(try go_bits);try simp only [rj]
  refine hKo _ _ fun fa20 fh20 => ?_;clear hKo Ko fh19 fa19;refine Kn.step fh20 rfl rfl .none (Kn.ex_indexAddr fh20 (.tmp rfl) (.tmp rfl)) fun Ko hKo => ?_;go_simp;(try go_bits);refine hKo _ _ fun fa21 fh21 => ?_;clear hKo Ko fh20 fa20;refine Kn.step fh21 rfl rfl .none (Kn.ex_load fh21 (.tmp rfl)) fun Ko hKo => ?_;go_simp;(try go_bits);refine hKo _ _ fun fa22 fh22 => ?_;clear hKo Ko fh21 fa21;refine Kn.step fh22 rfl rfl .none (Kn.ex_bin fh22 (.tmp rfl) .const) fun Ko hKo => ?_;go_simp;(try go_bits);try rw [ht0]
  try go_simp
  (try go_bits);refine hKo _ _ fun fa23 fh23 => ?_;clear hKo Ko fh22 fa22;refine Kn.pure fh23 rfl rfl .none (Kn.ex_move fh23 (.tmp rfl)) fun fa24 fh24 => ?_;clear fh23 fa23;refine Kn.step fh24 rfl rfl .none (Kn.ex_bin fh24 (.tmp rfl) (.tmp rfl)) fun Ko hKo => ?_;go_simp;(try go_bits);try rw [ht]
  try go_simp
  (try go_bits);refine hKo _ _ fun fa25 fh25 => ?_;clear hKo Ko fh24 fa24;refine Kn.pure fh25 rfl rfl .none (Kn.ex_move fh25 (.tmp rfl)) fun fa26 fh26 => ?_;clear fh25 fa25;refine Kn.pure fh26 rfl rfl .none (Kn.ex_move fh26 (.tmp rfl)) fun fa27 fh27 => ?_;clear fh26 fa26;refine Kn.pure fh27 rfl rfl .none (Kn.ex_assign fh27 (.tmp rfl)) fun fa28 fh28 => ?_;clear fh27 fa27;refine Kn.pure fh28 rfl rfl .none (Kn.ex_assign fh28 (.tmp rfl)) fun fa29 fh29 => ?_;clear fh28 fa28;refine Kn.pure fh29 rfl rfl .none (Kn.ex_assign fh29 (.tmp rfl)) fun fa30 fh30 => ?_;clear fh29 fa29;refine wpList_nil ?_;refine hK5 _ _ ?_;clear hK5 K5;replace fh30 := fh30.cut (.cons (t := 10) rfl (.cons (t := 9) rfl (.cons (t := 8) rfl .nil)));refine wp_ret ?_;exact Kn.ret3 fh30 rfl rfl rfl rfl ⟨rfl, rfl⟩
theorem sliceH0 (g o n c b : Nat) (v : World) (h : b ≤ c) (_hc : c ≤ 9223372036854775807) : (Instr.sliceAt 58 (.slice (some ⟨g, o, none⟩) n c) none (some (.int .i64 (b : Int))) none).run Tryz.prog v = .ok (.slice (some ⟨g, o, none⟩) b c) v := by
  refine sat_run ?_;go_simp;(try go_bits);try simp [h]
def CRet (w : World) (p : Int) (r : (Int × Int) ⊕ (List Int × Int)) (e : Ending) (w' : World) : Prop := Below w.heap.size w w' ∧ ((∃ x a, r = .inl (x, a) ∧ (x = 1 ∨ x = 2 ∨ x = 3 ∨ x = 4) ∧ e = .returned (.tuple #[.slice none 0 0, .int .i64 p, faultV a x])) ∨ ∃ l nx g, r = .inr (l, nx) ∧ e = .returned (.tuple #[.slice (some ⟨g, 0, none⟩) l.length l.length, .int .i64 nx, .nilIface]) ∧ HoldI w' g l ∧ w.heap.size ≤ g ∧ g < w'.heap.size)
def gtC (s : ByteArray) (p N v : Int) : (Int × Int) ⊕ (List Int × Int) := if (cnt s p N).2.2.1 = 0 then gtF s N (cnt s p N).1.toNat true v (cnt s p N).2.1 else .inl ((cnt s p N).2.2.1, (cnt s p N).2.2.2)
theorem cntC_bad {s : ByteArray} {p N x nx e a : Int} (h : cnt s p N = (x, nx, e, a)) (he : e ≠ 0) : x = 0 ∧ nx = p ∧ (e = 1 ∨ e = 2 ∨ e = 3 ∨ e = 4) := by
  unfold cnt at h
  split at h
  · simp only [Prod.mk.injEq] at h;obtain ⟨rfl, rfl, rfl, rfl⟩ := h;exact ⟨rfl, rfl, .inr (.inr (.inr rfl))⟩
  · obtain ⟨h1, h2, h3⟩ := rdG_bad h he;exact ⟨h1, h2, by rcases h3 with e | e | e <;> simp [e]⟩
theorem set_done (done : List Int) (t : Int) (k : Nat) : (done ++ List.replicate (k + 1) 0).set done.length t = done ++ [t] ++ List.replicate k 0 := by
  rw [List.set_append_right _ _ (Nat.le_refl _), Nat.sub_self, List.replicate_succ, List.set_cons_zero];simp
theorem nt_done (done : List Int) (x : List Int) (k : Nat) (h : k < done.length) : nt (done ++ x) k = nt done k := by
  rw [nt_at _ _ (by simp; omega), nt_at _ _ h, List.getElem_append_left h]
theorem nt_last (done : List Int) (y : Int) : nt (done ++ [y]) done.length = y := by
  rw [nt_at _ _ (by simp)]; simp
set_option maxRecDepth 100000 in
set_option maxHeartbeats 2000000 in
theorem gGet_any (s : ByteArray) (p N v : Int) (w : World) (hs : s.size ≤ maxLen) (hN : N ≤ 4096) (hv0 : 0 ≤ v) (hv1 : v < N) :
    Calls Tryz.prog 67 #[.string s, .int .i64 p, .int .i64 N, .int .i64 v] w (CRet w p (gtC s p N v)) := by
  refine Kn.calls Tryz.func67 rfl Tryz.ntmps67 rfl (.cons (t := 0) rfl (.cons (t := 1) rfl (.cons (t := 2) rfl (.cons (t := 3) rfl .nil)))) fun fa0 fh0 => ?_;refine wp_seq_k fun K1 hK1 => ?_;refine wp_region_lit ?_;refine Kn.pure fh0 rfl rfl .none (Kn.ex_assign fh0 .const) fun fa1 fh1 => ?_;clear fh0 fa0;refine Kn.pure fh1 rfl rfl .none (Kn.ex_assign fh1 .const) fun fa2 fh2 => ?_;clear fh1 fa1;refine Kn.pure fh2 rfl rfl .none (Kn.ex_assign fh2 .const) fun fa3 fh3 => ?_;clear fh2 fa2;refine wpList_nil ?_;refine hK1 _ _ ?_;clear hK1 K1;have hc := check_ok N v w (by omega) hN hv0 hv1;have hcn := gcount_g s p N w hs (by omega) hN;rcases hg : cnt s p N with ⟨x, nx, e, a⟩;rw [hg] at hcn;simp only at hcn;refine wp_seq_k fun K2 hK2 => ?_;refine wp_seq_k fun K3 hK3 => ?_;refine wp_region_lit ?_;refine Kn.pure fh3 rfl rfl .none (Kn.ex_move fh3 (.tmp rfl)) fun fa4 fh4 => ?_;clear fh3 fa3;refine Kn.pure fh4 rfl rfl .none (Kn.ex_move fh4 (.tmp rfl)) fun fa5 fh5 => ?_;clear fh4 fa4;refine Kn.call fh5 rfl rfl .none (Kn.ex_call fh5 (.cons (.tmp rfl) (.cons (.tmp rfl) .nil))) Tryz.call84 (hc) fun e w1 hp => ?_;obtain ⟨rfl, rfl⟩ := hp;refine ⟨_, rfl, fun fa6 fh6 => ?_⟩;clear fh5 fa5;refine Kn.pure fh6 rfl rfl .none (Kn.ex_assign fh6 (.tmp rfl)) fun fa7 fh7 => ?_;clear fh6 fa6;refine wpList_nil ?_;refine hK3 _ _ ?_;clear hK3 K3;replace fh7 := fh7.cut (.cons (t := 11) rfl (.cons (t := 10) rfl (.cons (t := 9) rfl (.cons (t := 8) rfl (.cons (t := 0) rfl (.cons (t := 1) rfl (.cons (t := 2) rfl (.cons (t := 3) rfl .nil))))))));clear hc;refine wp_seq_k fun K4 hK4 => ?_;refine wp_region_lit ?_;refine Kn.pure fh7 rfl rfl .none (Kn.ex_move fh7 (.tmp rfl)) fun fa8 fh8 => ?_;clear fh7 fa7;refine Kn.step fh8 rfl rfl .none (Kn.ex_bin fh8 (.tmp rfl) .const) fun Ko hKo => ?_;go_simp;(try go_bits);refine hKo _ _ fun fa9 fh9 => ?_;clear hKo Ko fh8 fa8;refine wpList_nil ?_;refine hK4 _ _ ?_;clear hK4 K4;replace fh9 := fh9.cut (.cons (t := 24) rfl (.cons (t := 11) rfl (.cons (t := 10) rfl (.cons (t := 9) rfl (.cons (t := 8) rfl (.cons (t := 0) rfl (.cons (t := 1) rfl (.cons (t := 2) rfl (.cons (t := 3) rfl .nil)))))))));refine Kn.no fh9 (.tmp rfl) ?_;refine wp_skip ?_;refine hK2 _ _ ?_;clear hK2 K2;replace fh9 := fh9.cut (.cons (t := 10) rfl (.cons (t := 9) rfl (.cons (t := 8) rfl (.cons (t := 0) rfl (.cons (t := 1) rfl (.cons (t := 2) rfl (.cons (t := 3) rfl .nil)))))))
  by_cases he : e = 0
  · subst he;rw [gE_0] at hcn;obtain ⟨hx0, hxN⟩ := cntC_ok hg;obtain ⟨⟨hx1, -⟩, hp0, hpn, hns, rfl, -⟩ := rdG_ok hx0;obtain ⟨X, rfl⟩ := Int.eq_ofNat_of_zero_le hx1;have HR : Hid (gtC s p N v = gtF s N X true v nx) := Lib.hid (by unfold gtC; rw [hg]; simp);have hX : X ≤ 4096 := by omega
    clear hg hx0 hxN hx1;refine wp_seq_k fun K5 hK5 => ?_;refine wp_region_lit ?_;refine Kn.pure fh9 rfl rfl .none (Kn.ex_move fh9 (.tmp rfl)) fun fa10 fh10 => ?_;clear fh9 fa9;refine Kn.pure fh10 rfl rfl .none (Kn.ex_move fh10 (.tmp rfl)) fun fa11 fh11 => ?_;clear fh10 fa10;refine Kn.pure fh11 rfl rfl .none (Kn.ex_move fh11 (.tmp rfl)) fun fa12 fh12 => ?_;clear fh11 fa11;refine Kn.call fh12 rfl rfl .none (Kn.ex_call fh12 (.cons (.tmp rfl) (.cons (.tmp rfl) (.cons (.tmp rfl) .nil)))) Tryz.call86 (hcn) fun e w1 hp => ?_;obtain ⟨rfl, rfl⟩ := hp;refine ⟨_, rfl, fun fa13 fh13 => ?_⟩;clear fh12 fa12;refine Kn.pure fh13 rfl rfl .none (Kn.ex_move fh13 (.tmp rfl)) fun fa14 fh14 => ?_;clear fh13 fa13;refine Kn.pure fh14 rfl rfl .none (Kn.ex_extract fh14 (.tmp rfl) rfl) fun fa15 fh15 => ?_;clear fh14 fa14;refine Kn.pure fh15 rfl rfl .none (Kn.ex_extract fh15 (.tmp rfl) rfl) fun fa16 fh16 => ?_;clear fh15 fa15;refine Kn.pure fh16 rfl rfl .none (Kn.ex_extract fh16 (.tmp rfl) rfl) fun fa17 fh17 => ?_;clear fh16 fa16;refine Kn.pure fh17 rfl rfl .none (Kn.ex_assign fh17 (.tmp rfl)) fun fa18 fh18 => ?_;clear fh17 fa17;refine Kn.pure fh18 rfl rfl .none (Kn.ex_assign fh18 (.tmp rfl)) fun fa19 fh19 => ?_;clear fh18 fa18;refine Kn.pure fh19 rfl rfl .none (Kn.ex_assign fh19 (.tmp rfl)) fun fa20 fh20 => ?_;clear fh19 fa19;refine wpList_nil ?_;refine hK5 _ _ ?_;clear hK5 K5;replace fh20 := fh20.cut (.cons (t := 14) rfl (.cons (t := 13) rfl (.cons (t := 12) rfl (.cons (t := 10) rfl (.cons (t := 9) rfl (.cons (t := 8) rfl (.cons (t := 0) rfl (.cons (t := 1) rfl (.cons (t := 2) rfl (.cons (t := 3) rfl .nil))))))))));clear hcn;refine wp_seq_k fun K6 hK6 => ?_;refine wp_seq_k fun K7 hK7 => ?_;refine wp_region_lit ?_;refine Kn.pure fh20 rfl rfl .none (Kn.ex_move fh20 (.tmp rfl)) fun fa21 fh21 => ?_;clear fh20 fa20;refine Kn.step fh21 rfl rfl .none (Kn.ex_bin fh21 (.tmp rfl) .const) fun Ko hKo => ?_;go_simp;(try go_bits);refine hKo _ _ fun fa22 fh22 => ?_;clear hKo Ko fh21 fa21;refine wpList_nil ?_;refine hK7 _ _ ?_;clear hK7 K7;replace fh22 := fh22.cut (.cons (t := 38) rfl (.cons (t := 14) rfl (.cons (t := 13) rfl (.cons (t := 12) rfl (.cons (t := 10) rfl (.cons (t := 9) rfl (.cons (t := 8) rfl (.cons (t := 0) rfl (.cons (t := 1) rfl (.cons (t := 2) rfl (.cons (t := 3) rfl .nil)))))))))));refine Kn.no fh22 (.tmp rfl) ?_;refine wp_skip ?_;refine hK6 _ _ ?_;clear hK6 K6;replace fh22 := fh22.cut (.cons (t := 13) rfl (.cons (t := 12) rfl (.cons (t := 10) rfl (.cons (t := 9) rfl (.cons (t := 8) rfl (.cons (t := 0) rfl (.cons (t := 1) rfl (.cons (t := 2) rfl (.cons (t := 3) rfl .nil)))))))));obtain ⟨w2, hmk, hH, hbel, hlt⟩ := makeI w X (by omega);have HH2 : Hid (HoldI w2 w.heap.size ([] ++ List.replicate X 0)) := Lib.hid hH;have HB2 := Lib.hid hbel;have HL2 := Lib.hid hlt;clear hH hbel hlt;refine wp_seq_k fun K8 hK8 => ?_;refine wp_region_lit ?_;refine Kn.pure fh22 rfl rfl .none (Kn.ex_move fh22 (.tmp rfl)) fun fa23 fh23 => ?_;clear fh22 fa22;refine Kn.known fh23 rfl rfl .none (Kn.ex_makeSlice fh23 (.tmp rfl) (.tmp rfl)) hmk fun fa24 fh24 => ?_;clear fh23 fa23;refine Kn.pure fh24 rfl rfl .none (Kn.ex_assign fh24 (.tmp rfl)) fun fa25 fh25 => ?_;clear fh24 fa24;refine wpList_nil ?_;refine hK8 _ _ ?_;clear hK8 K8;replace fh25 := fh25.cut (.cons (t := 15) rfl (.cons (t := 13) rfl (.cons (t := 12) rfl (.cons (t := 10) rfl (.cons (t := 9) rfl (.cons (t := 8) rfl (.cons (t := 0) rfl (.cons (t := 1) rfl (.cons (t := 2) rfl (.cons (t := 3) rfl .nil))))))))));clear hmk;refine wp_seq_k fun K9 hK9 => ?_;refine wp_seq_k fun K10 hK10 => ?_;refine wp_region_lit ?_;refine Kn.pure fh25 rfl rfl .none (Kn.ex_move fh25 (.tmp rfl)) fun fa26 fh26 => ?_;clear fh25 fa25;refine Kn.pure fh26 rfl rfl .none (Kn.ex_move fh26 .const) fun fa27 fh27 => ?_;clear fh26 fa26;refine wpList_nil ?_;refine hK10 _ _ ?_;clear hK10 K10;replace fh27 := fh27.cut (.cons (t := 44) rfl (.cons (t := 43) rfl (.cons (t := 15) rfl (.cons (t := 13) rfl (.cons (t := 10) rfl (.cons (t := 9) rfl (.cons (t := 8) rfl (.cons (t := 0) rfl (.cons (t := 1) rfl (.cons (t := 2) rfl (.cons (t := 3) rfl .nil)))))))))));refine wp_block ?_;refine Kn.loop (fun m fr u => ∃ (i k : Nat) (n1 now : Int) (done : List Int), Kn.Kn 78 [(44, .int .i64 (i : Int)), (43, .int .i64 (X : Int)), (13, .int .i64 n1), (15, .slice (some ⟨w.heap.size, 0, none⟩) X X), (0, .string s), (1, .int .i64 p), (2, .int .i64 N), (3, .int .i64 v)] fr ∧ k ≤ m ∧ i + k = X ∧ (0 ≤ now ∧ now < N) ∧ Hid (done.length = i) ∧ Hid (0 < i → nt done (i - 1) = now) ∧ Hid (i = 0 → now = v) ∧ Hid (GotYet s N k (decide (i = 0)) now n1 done (gtC s p N v)) ∧ Hid (HoldI u w.heap.size (done ++ List.replicate k 0)) ∧ Hid (Below w.heap.size w u) ∧ Hid (w.heap.size < u.heap.size)) X ⟨0, X, nx, v, [], fh27.cut (.turn (t := 44) rfl rfl (.cons (t := 43) rfl (.cons (t := 13) rfl (.cons (t := 15) rfl (.cons (t := 0) rfl (.cons (t := 1) rfl (.cons (t := 2) rfl (.cons (t := 3) rfl .nil)))))))), Nat.le_refl _, by omega, ⟨hv0, hv1⟩, Lib.hid rfl, Lib.hid (fun h => absurd h (by decide)), Lib.hid (fun _ => rfl), Lib.hid (by rw [HR.out]; exact GotYet.start), HH2, HB2, HL2⟩ ?_;clear fh27 fa27;intro m11 fa28 u hI Kl11 hKl11;obtain ⟨i, k, n1, now, done, fh28, hkm, hik, hnow, HDl, HLa, HV0, HT, HH, HB, HL⟩ := hI;clear HH2 HB2 HL2;rcases k with _ | k
    · obtain rfl : i = X := by omega
      have HF : Hid (gtC s p N v = .inr (done, n1)) := Lib.hid HT.out.done;have HE : Hid (done.length = i) := HDl;refine wp_seq_k fun K12 hK12 => ?_;refine wp_region_lit ?_;refine Kn.step fh28 rfl rfl .none (Kn.ex_bin fh28 (.tmp rfl) (.tmp rfl)) fun Ko hKo => ?_;go_simp;(try go_bits);refine hKo _ _ fun fa29 fh29 => ?_;clear hKo Ko fh28 fa28;refine wpList_nil ?_;refine hK12 _ _ ?_;clear hK12 K12;refine wp_seq_k fun K13 hK13 => ?_;refine Kn.no fh29 (.tmp rfl) ?_;replace fh29 := fh29.cut (.cons (t := 44) rfl (.cons (t := 43) rfl (.cons (t := 13) rfl (.cons (t := 15) rfl (.cons (t := 0) rfl (.cons (t := 1) rfl (.cons (t := 2) rfl (.cons (t := 3) rfl .nil))))))));refine wp_exit ?_;refine Kn.then_exit ?_;clear hK13 K13;refine Kn.then_exit ?_;clear hKl11 Kl11;refine Kn.block_exit ?_;refine hK9 _ _ ?_;clear hK9 K9;replace fh29 := fh29.cut (.cons (t := 13) rfl (.cons (t := 15) rfl .nil));refine wp_seq_k fun K14 hK14 => ?_;refine wp_region_lit ?_;refine Kn.pure fh29 rfl rfl .none (Kn.ex_move fh29 (.tmp rfl)) fun fa30 fh30 => ?_;clear fh29 fa29;refine Kn.pure fh30 rfl rfl .none (Kn.ex_move fh30 (.tmp rfl)) fun fa31 fh31 => ?_;clear fh30 fa30;refine Kn.pure fh31 rfl rfl .none (Kn.ex_assign fh31 (.tmp rfl)) fun fa32 fh32 => ?_;clear fh31 fa31;refine Kn.pure fh32 rfl rfl .none (Kn.ex_assign fh32 (.tmp rfl)) fun fa33 fh33 => ?_;clear fh32 fa32;refine Kn.pure fh33 rfl rfl .none (Kn.ex_assign fh33 .const) fun fa34 fh34 => ?_;clear fh33 fa33;refine wpList_nil ?_;refine hK14 _ _ ?_;clear hK14 K14;replace fh34 := fh34.cut (.cons (t := 10) rfl (.cons (t := 9) rfl (.cons (t := 8) rfl .nil)));refine wp_ret ?_;exact Kn.ret3 fh34 rfl rfl rfl rfl ⟨HB.out, .inr ⟨done, n1, w.heap.size, HF.out, by rw [HE.out], by have := HH.out; rwa [List.replicate_zero, List.append_nil] at this, Nat.le_refl _, HL.out⟩⟩
    have hlt : i < X := by omega
    have hsl := sliceH0 w.heap.size 0 X X i u (by omega) (by omega);obtain ⟨t, ht⟩ : ∃ t, (if decide (i = 0) = true then now + bkI (rdG s n1).1 else now + (rdG s n1).1 + 1) = t := ⟨_, rfl⟩
    have hst : Calls Tryz.prog 87 #[.string s, .int .i64 n1, .int .i64 v, .slice (some ⟨w.heap.size, 0, none⟩) i X] u fun e w' => e = .returned (.tuple #[.int .i64 t, .int .i64 (rdG s n1).2.1, gE (rdG s n1).2.2.1 (rdG s n1).2.2.2]) ∧ u = w' := by
      by_cases hi0 : i = 0
      · subst hi0;have hv := HV0.out rfl;rw [← ht, hv];simp only [decide_true, if_true];exact step_first s n1 v (some ⟨w.heap.size, 0, none⟩) X u hs hv0 (by omega)
      · rw [← ht, decide_eq_false hi0];simp only [Bool.false_eq_true, if_false];refine step_next s n1 v now w.heap.size 0 i X u hs (by omega) (by omega) hnow.1 (by omega) ?_;have h1 := (HH.out (i - 1) (by have := HDl.out; rw [List.length_append]; omega)).1;rw [nt_done _ _ _ (by have := HDl.out; omega), HLa.out (by omega)] at h1;rw [Nat.zero_add];exact h1
    rcases hg : rdG s n1 with ⟨y, n2, e2, a2⟩;rw [hg] at hst;simp only at hst
    have hyb : 0 ≤ y ∧ y ≤ 72057594037927935 := by
      by_cases he : e2 = 0
      · subst he; exact (rdG_ok hg).1
      · have := (rdG_bad hg he).1; omega
    rw [hg] at ht;simp only at ht
    have htb : -72057594037927936 ≤ t ∧ t ≤ 72057594037932033 := by
      rw [← ht]
      split
      · unfold bkI; split <;> omega
      · omega
    have HG := Lib.hid hg;have HY := Lib.hid ht;clear hg ht hyb
    by_cases he : e2 = 0
    · subst he;rw [gE_0] at hst;refine wp_seq_k fun K12 hK12 => ?_;refine wp_region_lit ?_;refine Kn.step fh28 rfl rfl .none (Kn.ex_bin fh28 (.tmp rfl) (.tmp rfl)) fun Ko hKo => ?_;go_simp;(try go_bits);refine hKo _ _ fun fa29 fh29 => ?_;clear hKo Ko fh28 fa28;refine wpList_nil ?_;refine hK12 _ _ ?_;clear hK12 K12;refine wp_seq_k fun K13 hK13 => ?_;refine Kn.yes fh29 (.tmp rfl) ?_;refine wp_skip ?_;refine hK13 _ _ ?_;clear hK13 K13;replace fh29 := fh29.cut (.cons (t := 44) rfl (.cons (t := 43) rfl (.cons (t := 13) rfl (.cons (t := 15) rfl (.cons (t := 0) rfl (.cons (t := 1) rfl (.cons (t := 2) rfl (.cons (t := 3) rfl .nil))))))));refine wp_seq_k fun K14 hK14 => ?_;refine wp_block ?_;refine wp_seq_k fun K15 hK15 => ?_;refine wp_region_lit ?_;refine Kn.pure fh29 rfl rfl .none (Kn.ex_move fh29 (.tmp rfl)) fun fa30 fh30 => ?_;clear fh29 fa29;refine Kn.pure fh30 rfl rfl .none (Kn.ex_assign fh30 (.tmp rfl)) fun fa31 fh31 => ?_;clear fh30 fa30;refine wpList_nil ?_;refine hK15 _ _ ?_;clear hK15 K15;replace fh31 := fh31.cut (.cons (t := 16) rfl (.cons (t := 44) rfl (.cons (t := 43) rfl (.cons (t := 13) rfl (.cons (t := 15) rfl (.cons (t := 0) rfl (.cons (t := 1) rfl (.cons (t := 2) rfl (.cons (t := 3) rfl .nil)))))))));refine wp_seq_k fun K16 hK16 => ?_;refine wp_region_lit ?_;refine Kn.pure fh31 rfl rfl .none (Kn.ex_move fh31 (.tmp rfl)) fun fa32 fh32 => ?_;clear fh31 fa31;refine Kn.pure fh32 rfl rfl .none (Kn.ex_move fh32 (.tmp rfl)) fun fa33 fh33 => ?_;clear fh32 fa32;refine Kn.pure fh33 rfl rfl .none (Kn.ex_move fh33 (.tmp rfl)) fun fa34 fh34 => ?_;clear fh33 fa33;refine Kn.pure fh34 rfl rfl .none (Kn.ex_move fh34 (.tmp rfl)) fun fa35 fh35 => ?_;clear fh34 fa34;refine Kn.pure fh35 rfl rfl .none (Kn.ex_move fh35 (.tmp rfl)) fun fa36 fh36 => ?_;clear fh35 fa35;refine Kn.known fh36 rfl rfl .none (Kn.ex_sliceH fh36 (.tmp rfl) (.tmp rfl)) hsl fun fa37 fh37 => ?_;clear fh36 fa36;refine Kn.call fh37 rfl rfl .none (Kn.ex_call fh37 (.cons (.tmp rfl) (.cons (.tmp rfl) (.cons (.tmp rfl) (.cons (.tmp rfl) .nil))))) Tryz.call87 (hst) fun e w3 hp => ?_;obtain ⟨rfl, rfl⟩ := hp;refine ⟨_, rfl, fun fa38 fh38 => ?_⟩;clear fh37 fa37;refine Kn.pure fh38 rfl rfl .none (Kn.ex_move fh38 (.tmp rfl)) fun fa39 fh39 => ?_;clear fh38 fa38;refine Kn.pure fh39 rfl rfl .none (Kn.ex_extract fh39 (.tmp rfl) rfl) fun fa40 fh40 => ?_;clear fh39 fa39;refine Kn.pure fh40 rfl rfl .none (Kn.ex_extract fh40 (.tmp rfl) rfl) fun fa41 fh41 => ?_;clear fh40 fa40;refine Kn.pure fh41 rfl rfl .none (Kn.ex_extract fh41 (.tmp rfl) rfl) fun fa42 fh42 => ?_;clear fh41 fa41;refine Kn.pure fh42 rfl rfl .none (Kn.ex_assign fh42 (.tmp rfl)) fun fa43 fh43 => ?_;clear fh42 fa42;refine Kn.pure fh43 rfl rfl .none (Kn.ex_assign fh43 (.tmp rfl)) fun fa44 fh44 => ?_;clear fh43 fa43;refine Kn.pure fh44 rfl rfl .none (Kn.ex_assign fh44 (.tmp rfl)) fun fa45 fh45 => ?_;clear fh44 fa44;refine wpList_nil ?_;refine hK16 _ _ ?_;clear hK16 K16;replace fh45 := fh45.cut (.cons (t := 19) rfl (.cons (t := 18) rfl (.cons (t := 17) rfl (.cons (t := 16) rfl (.cons (t := 44) rfl (.cons (t := 43) rfl (.cons (t := 13) rfl (.cons (t := 15) rfl (.cons (t := 0) rfl (.cons (t := 1) rfl (.cons (t := 2) rfl (.cons (t := 3) rfl .nil))))))))))));clear hst hsl;refine wp_seq_k fun K17 hK17 => ?_;refine wp_seq_k fun K18 hK18 => ?_;refine wp_region_lit ?_;refine Kn.pure fh45 rfl rfl .none (Kn.ex_move fh45 (.tmp rfl)) fun fa46 fh46 => ?_;clear fh45 fa45;refine Kn.step fh46 rfl rfl .none (Kn.ex_bin fh46 (.tmp rfl) .const) fun Ko hKo => ?_;go_simp;(try go_bits);refine hKo _ _ fun fa47 fh47 => ?_;clear hKo Ko fh46 fa46;refine wpList_nil ?_;refine hK18 _ _ ?_;clear hK18 K18;replace fh47 := fh47.cut (.cons (t := 59) rfl (.cons (t := 19) rfl (.cons (t := 18) rfl (.cons (t := 17) rfl (.cons (t := 16) rfl (.cons (t := 44) rfl (.cons (t := 43) rfl (.cons (t := 13) rfl (.cons (t := 15) rfl (.cons (t := 0) rfl (.cons (t := 1) rfl (.cons (t := 2) rfl (.cons (t := 3) rfl .nil)))))))))))));refine Kn.no fh47 (.tmp rfl) ?_;refine wp_skip ?_;refine hK17 _ _ ?_;clear hK17 K17;replace fh47 := fh47.cut (.cons (t := 18) rfl (.cons (t := 17) rfl (.cons (t := 16) rfl (.cons (t := 44) rfl (.cons (t := 43) rfl (.cons (t := 13) rfl (.cons (t := 15) rfl (.cons (t := 0) rfl (.cons (t := 1) rfl (.cons (t := 2) rfl (.cons (t := 3) rfl .nil)))))))))));have hn := isNode_any N t u
      by_cases htn : t < 0 ∨ N ≤ t
      · rw [nodeB_no htn] at hn;have hf := gfault_any n1 52 (.int .i64 4) u;unfold flt at hf;have HF : Hid (gtC s p N v = .inl (4, n1)) := Lib.hid (HT.out.out HG.out (by rw [HY.out]; exact htn));clear htn;refine wp_seq_k fun K19 hK19 => ?_;refine wp_seq_k fun K20 hK20 => ?_;refine wp_region_lit ?_;refine Kn.pure fh47 rfl rfl .none (Kn.ex_move fh47 (.tmp rfl)) fun fa48 fh48 => ?_;clear fh47 fa47;refine Kn.pure fh48 rfl rfl .none (Kn.ex_move fh48 (.tmp rfl)) fun fa49 fh49 => ?_;clear fh48 fa48;refine Kn.call fh49 rfl rfl .none (Kn.ex_call fh49 (.cons (.tmp rfl) (.cons (.tmp rfl) .nil))) Tryz.call88 (hn) fun e w3 hp => ?_;obtain ⟨rfl, rfl⟩ := hp;refine ⟨_, rfl, fun fa50 fh50 => ?_⟩;clear fh49 fa49;refine Kn.step fh50 rfl rfl .none (Kn.ex_un fh50 (.tmp rfl)) fun Ko hKo => ?_;go_simp;(try go_bits);refine hKo _ _ fun fa51 fh51 => ?_;clear hKo Ko fh50 fa50;refine wpList_nil ?_;refine hK20 _ _ ?_;clear hK20 K20;replace fh51 := fh51.cut (.cons (t := 65) rfl (.cons (t := 18) rfl (.cons (t := 17) rfl (.cons (t := 16) rfl (.cons (t := 44) rfl (.cons (t := 43) rfl (.cons (t := 13) rfl (.cons (t := 15) rfl (.cons (t := 0) rfl (.cons (t := 1) rfl (.cons (t := 2) rfl (.cons (t := 3) rfl .nil))))))))))));refine Kn.yes fh51 (.tmp rfl) ?_;replace fh51 := fh51.cut (.cons (t := 18) rfl (.cons (t := 17) rfl (.cons (t := 16) rfl (.cons (t := 44) rfl (.cons (t := 43) rfl (.cons (t := 13) rfl (.cons (t := 15) rfl (.cons (t := 0) rfl (.cons (t := 1) rfl (.cons (t := 2) rfl (.cons (t := 3) rfl .nil)))))))))));refine wp_seq_k fun K21 hK21 => ?_;refine wp_region_lit ?_;refine Kn.pure fh51 rfl rfl .none (Kn.ex_move fh51 (.tmp rfl)) fun fa52 fh52 => ?_;clear fh51 fa51;refine Kn.pure fh52 rfl rfl .none (Kn.ex_move fh52 (.tmp rfl)) fun fa53 fh53 => ?_;clear fh52 fa52;refine Kn.step fh53 rfl rfl .none (Kn.ex_makeInterface fh53 .const) fun Ko hKo => ?_;go_simp;(try go_bits);refine hKo _ _ fun fa54 fh54 => ?_;clear hKo Ko fh53 fa53;refine Kn.call fh54 rfl rfl .none (Kn.ex_call fh54 (.cons (.tmp rfl) (.cons (.tmp rfl) .nil))) Tryz.call85 (hf) fun e w3 hp => ?_;obtain ⟨rfl, rfl⟩ := hp;refine ⟨_, rfl, fun fa55 fh55 => ?_⟩;clear fh54 fa54;refine Kn.pure fh55 rfl rfl .none (Kn.ex_assign fh55 .const) fun fa56 fh56 => ?_;clear fh55 fa55;refine Kn.pure fh56 rfl rfl .none (Kn.ex_assign fh56 (.tmp rfl)) fun fa57 fh57 => ?_;clear fh56 fa56;refine Kn.pure fh57 rfl rfl .none (Kn.ex_assign fh57 (.tmp rfl)) fun fa58 fh58 => ?_;clear fh57 fa57;refine wpList_nil ?_;refine hK21 _ _ ?_;clear hK21 K21;replace fh58 := fh58.cut (.cons (t := 10) rfl (.cons (t := 9) rfl (.cons (t := 8) rfl (.cons (t := 18) rfl (.cons (t := 17) rfl (.cons (t := 16) rfl (.cons (t := 44) rfl (.cons (t := 43) rfl (.cons (t := 13) rfl (.cons (t := 15) rfl (.cons (t := 0) rfl (.cons (t := 1) rfl (.cons (t := 2) rfl (.cons (t := 3) rfl .nil))))))))))))));refine wp_ret ?_;refine Kn.then_ret ?_;refine Kn.block_ret ?_;refine Kn.then_ret ?_;refine Kn.then_ret ?_;refine Kn.block_ret ?_;refine Kn.then_ret ?_;exact Kn.ret3 fh58 rfl rfl rfl rfl ⟨HB.out, .inl ⟨4, n1, HF.out, .inr (.inr (.inr rfl)), rfl⟩⟩
      rw [nodeB_yes (by omega) (by omega)] at hn;have htr : 0 ≤ t ∧ t < N := by omega
      have HT2 : Hid (GotYet s N k (decide (i + 1 = 0)) t n2 (done ++ [t]) (gtC s p N v)) := Lib.hid (by rw [decide_eq_false (by omega)]; exact HT.out.next HG.out t HY.out htn);obtain ⟨u2, hstore, hH2, -, hsz, hbel⟩ := HH.out.store i (by have := HDl.out; rw [List.length_append, List.length_replicate]; omega) t
      have HH2 : Hid (HoldI u2 w.heap.size (done ++ [t] ++ List.replicate k 0)) := Lib.hid (by
        have e := set_done done t k;rw [HDl.out] at e;rw [← e]
        exact hH2)
      have HB2 := Lib.hid (HB.out.trans (hbel w.heap.size (Nat.le_refl _)));have HL2 : Hid (w.heap.size < u2.heap.size) := Lib.hid (by rw [hsz]; exact HL.out);have HD2 : Hid ((done ++ [t]).length = i + 1) := Lib.hid (by rw [List.length_append, HDl.out]; rfl);have HA2 : Hid (0 < i + 1 → nt (done ++ [t]) (i + 1 - 1) = t) := Lib.hid (fun _ => by rw [show i + 1 - 1 = done.length by rw [HDl.out]; omega]; exact nt_last done t);have HV2 : Hid (i + 1 = 0 → t = v) := Lib.hid (fun h => absurd h (by omega));clear htn hH2 hbel hsz;refine wp_seq_k fun K19 hK19 => ?_;refine wp_seq_k fun K20 hK20 => ?_;refine wp_region_lit ?_;refine Kn.pure fh47 rfl rfl .none (Kn.ex_move fh47 (.tmp rfl)) fun fa48 fh48 => ?_;clear fh47 fa47;refine Kn.pure fh48 rfl rfl .none (Kn.ex_move fh48 (.tmp rfl)) fun fa49 fh49 => ?_;clear fh48 fa48;refine Kn.call fh49 rfl rfl .none (Kn.ex_call fh49 (.cons (.tmp rfl) (.cons (.tmp rfl) .nil))) Tryz.call88 (hn) fun e w3 hp => ?_;obtain ⟨rfl, rfl⟩ := hp;refine ⟨_, rfl, fun fa50 fh50 => ?_⟩;clear fh49 fa49;refine Kn.step fh50 rfl rfl .none (Kn.ex_un fh50 (.tmp rfl)) fun Ko hKo => ?_;go_simp;(try go_bits);refine hKo _ _ fun fa51 fh51 => ?_;clear hKo Ko fh50 fa50;refine wpList_nil ?_;refine hK20 _ _ ?_;clear hK20 K20;replace fh51 := fh51.cut (.cons (t := 65) rfl (.cons (t := 18) rfl (.cons (t := 17) rfl (.cons (t := 16) rfl (.cons (t := 44) rfl (.cons (t := 43) rfl (.cons (t := 13) rfl (.cons (t := 15) rfl (.cons (t := 0) rfl (.cons (t := 1) rfl (.cons (t := 2) rfl (.cons (t := 3) rfl .nil))))))))))));clear hn;refine Kn.no fh51 (.tmp rfl) ?_;refine wp_skip ?_;refine hK19 _ _ ?_;clear hK19 K19;replace fh51 := fh51.cut (.cons (t := 18) rfl (.cons (t := 17) rfl (.cons (t := 16) rfl (.cons (t := 44) rfl (.cons (t := 43) rfl (.cons (t := 13) rfl (.cons (t := 15) rfl (.cons (t := 0) rfl (.cons (t := 1) rfl (.cons (t := 2) rfl (.cons (t := 3) rfl .nil)))))))))));refine wp_region_lit ?_;refine Kn.pure fh51 rfl rfl .none (Kn.ex_move fh51 (.tmp rfl)) fun fa52 fh52 => ?_;clear fh51 fa51;refine Kn.pure fh52 rfl rfl .none (Kn.ex_move fh52 (.tmp rfl)) fun fa53 fh53 => ?_;clear fh52 fa52;refine Kn.pure fh53 rfl rfl .none (Kn.ex_move fh53 (.tmp rfl)) fun fa54 fh54 => ?_;clear fh53 fa53;refine Kn.pure fh54 rfl rfl .none (Kn.ex_move fh54 (.tmp rfl)) fun fa55 fh55 => ?_;clear fh54 fa54;refine Kn.step fh55 rfl rfl .none (Kn.ex_indexAddr fh55 (.tmp rfl) (.tmp rfl)) fun Ko hKo => ?_;go_simp;(try go_bits);refine hKo _ _ fun fa56 fh56 => ?_;clear hKo Ko fh55 fa55;refine Kn.stepU fh56 rfl .none (Kn.ex_store fh56 (.tmp rfl) (.tmp rfl)) fun Ko hKo => ?_;try simp only [Nat.zero_add]
      show Kn.SatU Ko ((Instr.storeAt 3 (.pointer (some ⟨w.heap.size, i, none⟩)) (.int .i64 t)).run Tryz.prog u);rw [hstore];refine hKo _ ?_;clear hKo Ko;refine Kn.pure fh56 rfl rfl .none (Kn.ex_assign fh56 (.tmp rfl)) fun fa57 fh57 => ?_;clear fh56 fa56;refine wpList_nil ?_;refine Kn.block_normal ?_;refine hK14 _ _ ?_;clear hK14 K14;replace fh57 := fh57.cut (.cons (t := 13) rfl (.cons (t := 44) rfl (.cons (t := 43) rfl (.cons (t := 15) rfl (.cons (t := 0) rfl (.cons (t := 1) rfl (.cons (t := 2) rfl (.cons (t := 3) rfl .nil))))))));clear hstore;refine wp_region_lit ?_;refine Kn.step fh57 rfl rfl .none (Kn.ex_bin fh57 (.tmp rfl) .const) fun Ko hKo => ?_;go_simp;(try go_bits);refine hKo _ _ fun fa58 fh58 => ?_;clear hKo Ko fh57 fa57;refine Kn.pure fh58 rfl rfl .none (Kn.ex_move fh58 (.tmp rfl)) fun fa59 fh59 => ?_;clear fh58 fa58;refine wpList_nil ?_;replace fh59 := fh59.cut (.cons (t := 44) rfl (.cons (t := 13) rfl (.cons (t := 43) rfl (.cons (t := 15) rfl (.cons (t := 0) rfl (.cons (t := 1) rfl (.cons (t := 2) rfl (.cons (t := 3) rfl .nil))))))));exact hKl11 (m11 - 1) _ _ (by omega) ⟨i + 1, k, n2, t, _, fh59.cut (.turn (t := 44) rfl (by go_num) (.cons (t := 43) rfl (.cons (t := 13) rfl (.cons (t := 15) rfl (.cons (t := 0) rfl (.cons (t := 1) rfl (.cons (t := 2) rfl (.cons (t := 3) rfl .nil)))))))), by omega, by omega, htr, HD2, HA2, HV2, HT2, HH2, HB2, HL2⟩
    have HE : Hid (gE e2 a2 = .iface 54 (.agg #[.int .i64 a2, .iface 52 (.int .i64 e2)])) := Lib.hid (gE_e he);rw [HE.out] at hst;have HF : Hid (gtC s p N v = .inl (e2, a2)) := Lib.hid (HT.out.bad HG.out he);have HC : Hid (e2 = 1 ∨ e2 = 2 ∨ e2 = 3 ∨ e2 = 4) := Lib.hid (by rcases (rdG_bad HG.out he).2.2 with e | e | e <;> simp [e]);clear he;refine wp_seq_k fun K12 hK12 => ?_;refine wp_region_lit ?_;refine Kn.step fh28 rfl rfl .none (Kn.ex_bin fh28 (.tmp rfl) (.tmp rfl)) fun Ko hKo => ?_;go_simp;(try go_bits);refine hKo _ _ fun fa29 fh29 => ?_;clear hKo Ko fh28 fa28;refine wpList_nil ?_;refine hK12 _ _ ?_;clear hK12 K12;refine wp_seq_k fun K13 hK13 => ?_;refine Kn.yes fh29 (.tmp rfl) ?_;refine wp_skip ?_;refine hK13 _ _ ?_;clear hK13 K13;replace fh29 := fh29.cut (.cons (t := 44) rfl (.cons (t := 43) rfl (.cons (t := 13) rfl (.cons (t := 15) rfl (.cons (t := 0) rfl (.cons (t := 1) rfl (.cons (t := 2) rfl (.cons (t := 3) rfl .nil))))))));refine wp_seq_k fun K14 hK14 => ?_;refine wp_block ?_;refine wp_seq_k fun K15 hK15 => ?_;refine wp_region_lit ?_;refine Kn.pure fh29 rfl rfl .none (Kn.ex_move fh29 (.tmp rfl)) fun fa30 fh30 => ?_;clear fh29 fa29;refine Kn.pure fh30 rfl rfl .none (Kn.ex_assign fh30 (.tmp rfl)) fun fa31 fh31 => ?_;clear fh30 fa30;refine wpList_nil ?_;refine hK15 _ _ ?_;clear hK15 K15;replace fh31 := fh31.cut (.cons (t := 16) rfl (.cons (t := 44) rfl (.cons (t := 43) rfl (.cons (t := 13) rfl (.cons (t := 15) rfl (.cons (t := 0) rfl (.cons (t := 1) rfl (.cons (t := 2) rfl (.cons (t := 3) rfl .nil)))))))));refine wp_seq_k fun K16 hK16 => ?_;refine wp_region_lit ?_;refine Kn.pure fh31 rfl rfl .none (Kn.ex_move fh31 (.tmp rfl)) fun fa32 fh32 => ?_;clear fh31 fa31;refine Kn.pure fh32 rfl rfl .none (Kn.ex_move fh32 (.tmp rfl)) fun fa33 fh33 => ?_;clear fh32 fa32;refine Kn.pure fh33 rfl rfl .none (Kn.ex_move fh33 (.tmp rfl)) fun fa34 fh34 => ?_;clear fh33 fa33;refine Kn.pure fh34 rfl rfl .none (Kn.ex_move fh34 (.tmp rfl)) fun fa35 fh35 => ?_;clear fh34 fa34;refine Kn.pure fh35 rfl rfl .none (Kn.ex_move fh35 (.tmp rfl)) fun fa36 fh36 => ?_;clear fh35 fa35;refine Kn.known fh36 rfl rfl .none (Kn.ex_sliceH fh36 (.tmp rfl) (.tmp rfl)) hsl fun fa37 fh37 => ?_;clear fh36 fa36;refine Kn.call fh37 rfl rfl .none (Kn.ex_call fh37 (.cons (.tmp rfl) (.cons (.tmp rfl) (.cons (.tmp rfl) (.cons (.tmp rfl) .nil))))) Tryz.call87 (hst) fun e w3 hp => ?_;obtain ⟨rfl, rfl⟩ := hp;refine ⟨_, rfl, fun fa38 fh38 => ?_⟩;clear fh37 fa37;refine Kn.pure fh38 rfl rfl .none (Kn.ex_move fh38 (.tmp rfl)) fun fa39 fh39 => ?_;clear fh38 fa38;refine Kn.pure fh39 rfl rfl .none (Kn.ex_extract fh39 (.tmp rfl) rfl) fun fa40 fh40 => ?_;clear fh39 fa39;refine Kn.pure fh40 rfl rfl .none (Kn.ex_extract fh40 (.tmp rfl) rfl) fun fa41 fh41 => ?_;clear fh40 fa40;refine Kn.pure fh41 rfl rfl .none (Kn.ex_extract fh41 (.tmp rfl) rfl) fun fa42 fh42 => ?_;clear fh41 fa41;refine Kn.pure fh42 rfl rfl .none (Kn.ex_assign fh42 (.tmp rfl)) fun fa43 fh43 => ?_;clear fh42 fa42;refine Kn.pure fh43 rfl rfl .none (Kn.ex_assign fh43 (.tmp rfl)) fun fa44 fh44 => ?_;clear fh43 fa43;refine Kn.pure fh44 rfl rfl .none (Kn.ex_assign fh44 (.tmp rfl)) fun fa45 fh45 => ?_;clear fh44 fa44;refine wpList_nil ?_;refine hK16 _ _ ?_;clear hK16 K16;replace fh45 := fh45.cut (.cons (t := 19) rfl (.cons (t := 18) rfl (.cons (t := 17) rfl (.cons (t := 16) rfl (.cons (t := 44) rfl (.cons (t := 43) rfl (.cons (t := 13) rfl (.cons (t := 15) rfl (.cons (t := 0) rfl (.cons (t := 1) rfl (.cons (t := 2) rfl (.cons (t := 3) rfl .nil))))))))))));clear hst hsl;refine wp_seq_k fun K17 hK17 => ?_;refine wp_seq_k fun K18 hK18 => ?_;refine wp_region_lit ?_;refine Kn.pure fh45 rfl rfl .none (Kn.ex_move fh45 (.tmp rfl)) fun fa46 fh46 => ?_;clear fh45 fa45;refine Kn.step fh46 rfl rfl .none (Kn.ex_bin fh46 (.tmp rfl) .const) fun Ko hKo => ?_;go_simp;(try go_bits);refine hKo _ _ fun fa47 fh47 => ?_;clear hKo Ko fh46 fa46;refine wpList_nil ?_;refine hK18 _ _ ?_;clear hK18 K18;replace fh47 := fh47.cut (.cons (t := 59) rfl (.cons (t := 19) rfl (.cons (t := 18) rfl (.cons (t := 17) rfl (.cons (t := 16) rfl (.cons (t := 44) rfl (.cons (t := 43) rfl (.cons (t := 13) rfl (.cons (t := 15) rfl (.cons (t := 0) rfl (.cons (t := 1) rfl (.cons (t := 2) rfl (.cons (t := 3) rfl .nil)))))))))))));refine Kn.yes fh47 (.tmp rfl) ?_;replace fh47 := fh47.cut (.cons (t := 19) rfl (.cons (t := 18) rfl (.cons (t := 17) rfl (.cons (t := 16) rfl (.cons (t := 44) rfl (.cons (t := 43) rfl (.cons (t := 13) rfl (.cons (t := 15) rfl (.cons (t := 0) rfl (.cons (t := 1) rfl (.cons (t := 2) rfl (.cons (t := 3) rfl .nil))))))))))));refine wp_seq_k fun K19 hK19 => ?_;refine wp_region_lit ?_;refine Kn.pure fh47 rfl rfl .none (Kn.ex_move fh47 (.tmp rfl)) fun fa48 fh48 => ?_;clear fh47 fa47;refine Kn.pure fh48 rfl rfl .none (Kn.ex_move fh48 (.tmp rfl)) fun fa49 fh49 => ?_;clear fh48 fa48;refine Kn.pure fh49 rfl rfl .none (Kn.ex_assign fh49 .const) fun fa50 fh50 => ?_;clear fh49 fa49;refine Kn.pure fh50 rfl rfl .none (Kn.ex_assign fh50 (.tmp rfl)) fun fa51 fh51 => ?_;clear fh50 fa50;refine Kn.pure fh51 rfl rfl .none (Kn.ex_assign fh51 (.tmp rfl)) fun fa52 fh52 => ?_;clear fh51 fa51;refine wpList_nil ?_;refine hK19 _ _ ?_;clear hK19 K19;replace fh52 := fh52.cut (.cons (t := 10) rfl (.cons (t := 9) rfl (.cons (t := 8) rfl (.cons (t := 18) rfl (.cons (t := 17) rfl (.cons (t := 16) rfl (.cons (t := 44) rfl (.cons (t := 43) rfl (.cons (t := 13) rfl (.cons (t := 15) rfl (.cons (t := 0) rfl (.cons (t := 1) rfl (.cons (t := 2) rfl (.cons (t := 3) rfl .nil))))))))))))));refine wp_ret ?_;refine Kn.then_ret ?_;refine Kn.block_ret ?_;refine Kn.then_ret ?_;refine Kn.then_ret ?_;refine Kn.block_ret ?_;refine Kn.then_ret ?_;exact Kn.ret3 fh52 rfl rfl rfl rfl ⟨HB.out, .inl ⟨e2, a2, HF.out, HC.out, rfl⟩⟩
  have HE : Hid (gE e a = .iface 54 (.agg #[.int .i64 a, .iface 52 (.int .i64 e)])) := Lib.hid (gE_e he);rw [HE.out] at hcn;have HF : Hid (gtC s p N v = .inl (e, a)) := Lib.hid (by unfold gtC; rw [hg, if_neg he]);have HC : Hid (e = 1 ∨ e = 2 ∨ e = 3 ∨ e = 4) := Lib.hid (cntC_bad hg he).2.2;clear hg he;refine wp_seq_k fun K5 hK5 => ?_;refine wp_region_lit ?_;refine Kn.pure fh9 rfl rfl .none (Kn.ex_move fh9 (.tmp rfl)) fun fa10 fh10 => ?_;clear fh9 fa9;refine Kn.pure fh10 rfl rfl .none (Kn.ex_move fh10 (.tmp rfl)) fun fa11 fh11 => ?_;clear fh10 fa10;refine Kn.pure fh11 rfl rfl .none (Kn.ex_move fh11 (.tmp rfl)) fun fa12 fh12 => ?_;clear fh11 fa11;refine Kn.call fh12 rfl rfl .none (Kn.ex_call fh12 (.cons (.tmp rfl) (.cons (.tmp rfl) (.cons (.tmp rfl) .nil)))) Tryz.call86 (hcn) fun e w1 hp => ?_;obtain ⟨rfl, rfl⟩ := hp;refine ⟨_, rfl, fun fa13 fh13 => ?_⟩;clear fh12 fa12;refine Kn.pure fh13 rfl rfl .none (Kn.ex_move fh13 (.tmp rfl)) fun fa14 fh14 => ?_;clear fh13 fa13;refine Kn.pure fh14 rfl rfl .none (Kn.ex_extract fh14 (.tmp rfl) rfl) fun fa15 fh15 => ?_;clear fh14 fa14;refine Kn.pure fh15 rfl rfl .none (Kn.ex_extract fh15 (.tmp rfl) rfl) fun fa16 fh16 => ?_;clear fh15 fa15;refine Kn.pure fh16 rfl rfl .none (Kn.ex_extract fh16 (.tmp rfl) rfl) fun fa17 fh17 => ?_;clear fh16 fa16;refine Kn.pure fh17 rfl rfl .none (Kn.ex_assign fh17 (.tmp rfl)) fun fa18 fh18 => ?_;clear fh17 fa17;refine Kn.pure fh18 rfl rfl .none (Kn.ex_assign fh18 (.tmp rfl)) fun fa19 fh19 => ?_;clear fh18 fa18;refine Kn.pure fh19 rfl rfl .none (Kn.ex_assign fh19 (.tmp rfl)) fun fa20 fh20 => ?_;clear fh19 fa19;refine wpList_nil ?_;refine hK5 _ _ ?_;clear hK5 K5;replace fh20 := fh20.cut (.cons (t := 14) rfl (.cons (t := 13) rfl (.cons (t := 12) rfl (.cons (t := 10) rfl (.cons (t := 9) rfl (.cons (t := 8) rfl (.cons (t := 0) rfl (.cons (t := 1) rfl (.cons (t := 2) rfl (.cons (t := 3) rfl .nil))))))))));clear hcn;refine wp_seq_k fun K6 hK6 => ?_;refine wp_seq_k fun K7 hK7 => ?_;refine wp_region_lit ?_;refine Kn.pure fh20 rfl rfl .none (Kn.ex_move fh20 (.tmp rfl)) fun fa21 fh21 => ?_;clear fh20 fa20;refine Kn.step fh21 rfl rfl .none (Kn.ex_bin fh21 (.tmp rfl) .const) fun Ko hKo => ?_;go_simp;(try go_bits);refine hKo _ _ fun fa22 fh22 => ?_;clear hKo Ko fh21 fa21;refine wpList_nil ?_;refine hK7 _ _ ?_;clear hK7 K7;replace fh22 := fh22.cut (.cons (t := 38) rfl (.cons (t := 14) rfl (.cons (t := 13) rfl (.cons (t := 12) rfl (.cons (t := 10) rfl (.cons (t := 9) rfl (.cons (t := 8) rfl (.cons (t := 0) rfl (.cons (t := 1) rfl (.cons (t := 2) rfl (.cons (t := 3) rfl .nil)))))))))));refine Kn.yes fh22 (.tmp rfl) ?_;replace fh22 := fh22.cut (.cons (t := 14) rfl (.cons (t := 13) rfl (.cons (t := 12) rfl (.cons (t := 10) rfl (.cons (t := 9) rfl (.cons (t := 8) rfl (.cons (t := 0) rfl (.cons (t := 1) rfl (.cons (t := 2) rfl (.cons (t := 3) rfl .nil))))))))));refine wp_seq_k fun K8 hK8 => ?_;refine wp_region_lit ?_;refine Kn.pure fh22 rfl rfl .none (Kn.ex_move fh22 (.tmp rfl)) fun fa23 fh23 => ?_;clear fh22 fa22;refine Kn.pure fh23 rfl rfl .none (Kn.ex_move fh23 (.tmp rfl)) fun fa24 fh24 => ?_;clear fh23 fa23;refine Kn.pure fh24 rfl rfl .none (Kn.ex_assign fh24 .const) fun fa25 fh25 => ?_;clear fh24 fa24;refine Kn.pure fh25 rfl rfl .none (Kn.ex_assign fh25 (.tmp rfl)) fun fa26 fh26 => ?_;clear fh25 fa25;refine Kn.pure fh26 rfl rfl .none (Kn.ex_assign fh26 (.tmp rfl)) fun fa27 fh27 => ?_;clear fh26 fa26;refine wpList_nil ?_;refine hK8 _ _ ?_;clear hK8 K8;replace fh27 := fh27.cut (.cons (t := 10) rfl (.cons (t := 9) rfl (.cons (t := 8) rfl (.cons (t := 13) rfl (.cons (t := 12) rfl (.cons (t := 0) rfl (.cons (t := 1) rfl (.cons (t := 2) rfl (.cons (t := 3) rfl .nil)))))))));refine wp_ret ?_;refine Kn.then_ret ?_;exact Kn.ret3 fh27 rfl rfl rfl rfl ⟨Below.refl _ _, .inl ⟨e, a, HF.out, HC.out, rfl⟩⟩
end Go.Proofs.YtbahklpdldghbaaGreatDoor.Gap
end
section
namespace Go.Proofs.YtbahklpdldghbaaGreatDoor.Gap
open Go Go.RowKit Go.Lib Oct Num
def bs (l : List UInt8) : ByteArray := ⟨l.toArray⟩
theorem bs_app (a b : List UInt8) : bs a ++ bs b = bs (a ++ b) := by apply ByteArray.ext; simp [bs]
theorem bs_size (l : List UInt8) : (bs l).size = l.length := rfl
end Go.Proofs.YtbahklpdldghbaaGreatDoor.Gap
end
section
namespace Go.Proofs.YtbahklpdldghbaaGreatDoor.OwX
open Go Go.RowKit Go.Lib
theorem run_storeCells_free (P : Program) (g o : Nat) (t : TypeId) (fz : Nat × Nat) : ∀ (vs : List Value) (i : Nat) (cur : Array Value) (w : World), w.heap[g]? = some (.cells cur t fz) → (fz.2 = 0 ∨ cur.size ≤ fz.1) → o + i + vs.length ≤ cur.size → (∀ v ∈ vs, v.oneCell' = true) →
    (storeCells ⟨g, o, none⟩ vs i).run P w = .ok () (w.setRow g (cur.toList.take (o + i) ++ vs ++ cur.toList.drop (o + i + vs.length)).toArray) := by
  intro vs
  induction vs with
  | nil =>
    intro i cur w hg _ _ _;simp only [storeCells, List.append_nil, List.length_nil, Nat.add_zero, List.take_append_drop, Array.toArray_toList];rw [setRow_self w g cur t fz hg]
    rfl
  | cons x r ih =>
    intro i cur w hg hfz hl h1;rw [List.length_cons] at hl;have hi : o + i < cur.size := by omega
    have e1 : (⟨g, o, none⟩ : Addr).add i = ⟨g, o + i, none⟩ := Addr.add_lit _ _ _;have e2 : w.cell? ⟨g, o + i, none⟩ = some cur[o + i] := by simp [World.cell?, hg, hi]
    have e3 : w.frozen? ⟨g, o + i, none⟩ = false := by
      obtain ⟨lo, hi2⟩ := fz;simp only at hfz;simp only [World.frozen?, hg, Bool.and_eq_false_iff, decide_eq_false_iff_not];omega
    have e4 : (store ((⟨g, o, none⟩ : Addr).add i) x).run P w = .ok () (w.setRow g (cur.setIfInBounds (o + i) x)) := by
      rw [e1, run_store P w _ x _ (h1 x (by simp)), e2];simp [e3, setCell_eq_setRow w g (o + i) cur t fz x hg]
    have e5 := ih (i + 1) (cur.setIfInBounds (o + i) x) (w.setRow g (cur.setIfInBounds (o + i) x)) (setRow_heap w g cur _ t _ hg) (by simpa using hfz) (by simp; omega) (fun y hy => h1 y (by simp [hy]));simp only [storeCells, Sem.run_bind, e4, Result.andThen_ok, e5, setRow_setRow]
    congr 3
    have e6 := list_seg_step cur.toList (o + i) x r (by simp; omega)
    simpa [Array.toList_setIfInBounds, Nat.add_assoc] using e6
def OwnX (w : World) (B : Nat) (v : Value) (l : List UInt8) : Prop := ∃ g cap cur fz, v = .slice (some ⟨g, 0, none⟩) l.length cap ∧ B ≤ g ∧ w.heap[g]? = some (.cells cur 5 fz) ∧ (fz.2 = 0 ∨ cur.size ≤ fz.1) ∧ l.length ≤ cap ∧ cap ≤ maxLen ∧ cur.size = cap ∧ cur.toList.take l.length = Go.Lib.byteCells l
theorem OwnX.on {w w' : World} {B : Nat} {v : Value} {l : List UInt8} (h : OwnX w B v l) (hb : Below w.heap.size w w') : OwnX w' B v l := by
  obtain ⟨g, cap, cur, fz, h1, h2, h3, h4⟩ := h;exact ⟨g, cap, cur, fz, h1, h2, (hb.block g (Array.getElem?_eq_some_iff.1 h3).1).trans h3, h4⟩
theorem OwnX.drew {w : World} {B : Nat} {v : Value} {l : List UInt8} (h : OwnX w B v l) : OwnX w.drew B v l := h
theorem made (w : World) (B : Nat) (hB : B ≤ w.heap.size) (s : ByteArray) (hs : s.size ≤ maxLen) : ∃ v w', (convert 9 93 (.string s)).run Tryz.prog w = .ok v w' ∧ OwnX w' B v s.data.toList ∧ Below w.heap.size w w' := by
  have hge := grownCap_ge w s.size 0 5;have hm := grownCap_le_maxLen w s.size 0 5 hs
  have hsz : (bytesRow s (grownCap w s.size 0 5)).size = grownCap w s.size 0 5 := by
    unfold bytesRow;simp only [Array.size_append, Array.size_map, Array.size_replicate];have : s.data.size = s.size := rfl;omega
  refine ⟨_, _, run_bytes_of_string w 9 93 5 s Tryz.underlying9 Tryz.underlying93 Tryz.underlying5, ⟨w.heap.size, _, _, _, rfl, hB, heap_alloc_new w.drew _, .inr (Nat.le_refl _), hge, hm, hsz, ?_⟩, ((Below.refl _ _).drew).alloc (Nat.le_refl _) _⟩;have e : s.data.toList.length = (s.data.map fun b => Value.int .u8 b.toNat).toList.length := by simp
  unfold bytesRow Go.Lib.byteCells;rw [Array.toList_append, e, List.take_left, Array.toList_map]
theorem OwnX.push {w0 w : World} {v : Value} {l : List UInt8} (h : OwnX w w0.heap.size v l) (hb : Below w0.heap.size w0 w) (s : ByteArray) (ty : TypeId) (hl : l.length + s.size ≤ 100000000) :
    ∃ v' w', (Builtin.append_ #[93, 9] ty #[v, .string s]).run Tryz.prog w = .ok v' w' ∧ OwnX w' w0.heap.size v' (l ++ s.data.toList) ∧ Below w0.heap.size w0 w' := by
  obtain ⟨i0, hi, hz0, hz1, hz2⟩ : ∃ i0, Tryz.prog.info? 5 = some i0 ∧ i0.zero = some (.int .u8 0) ∧ i0.size = 1 ∧ i0.bytes = 1 := ⟨(Tryz.prog.info? 5).get (by kernel_rfl), by kernel_rfl, by kernel_rfl, by kernel_rfl, by kernel_rfl⟩;obtain ⟨g, cap, cur, fz, rfl, hB, hg, hfz, hlc, hcm, hcs, htk⟩ := h;have hll : (l ++ s.data.toList).length = l.length + s.size := by rw [List.length_append]; rfl
  have hcl : (Go.Lib.byteCells l).length = l.length := by simp [Go.Lib.byteCells]
  have hcc : Go.Lib.byteCells (l ++ s.data.toList) = Go.Lib.byteCells l ++ strCells s := by simp [Go.Lib.byteCells, strCells]
  have hsl : (strCells s).length = s.size := strCells_length s
  by_cases hroom : l.length + s.size ≤ cap
  · have hf := run_firstCells_string (P := Tryz.prog) w 1 s;have hst := run_storeCells_free Tryz.prog g l.length 5 fz (strCells s) 0 cur w hg hfz (by rw [hsl]; omega) (strCells_oneCell s);simp only [Nat.add_zero, hsl] at hst;refine ⟨.slice (some ⟨g, 0, none⟩) (l.length + s.size) cap, w.setRow g (cur.toList.take l.length ++ strCells s ++ cur.toList.drop (l.length + s.size)).toArray, ?_, ⟨g, cap, _, fz, by rw [hll], hB, setRow_heap w g cur _ _ _ hg, ?_, by rw [hll]; exact hroom, hcm, ?_, ?_⟩, below_setRow hb hB _⟩
    · simp [Builtin.append_, run_underlying Tryz.underlying93, run_underlying Tryz.underlying9, sizeOf, typeInfo, hi, hz1, Builtin.lenOf, hroom, hf, Addr.add_lit, hst]
    · rcases hfz with e | e
      · exact .inl e
      · right
        simp only [List.size_toArray, List.length_append, List.length_take, List.length_drop, Array.length_toList, hsl];omega
    · simp only [List.size_toArray, List.length_append, List.length_take, List.length_drop, Array.length_toList, hsl];omega
    · rw [htk, hcc, hll];have : l.length + s.size = (Go.Lib.byteCells l ++ strCells s).length := by rw [List.length_append, hcl, hsl]
      rw [this];exact List.take_left
  · have holds : ∀ j u, (Go.Lib.byteCells l)[j]? = some u → w.cell? ((⟨g, 0, none⟩ : Addr).add j) = some u := fun j u hu => by
      rw [Addr.add_lit, Nat.zero_add, cell_of_row w g j cur 5 fz hg];rw [← htk, List.getElem?_take] at hu
      split at hu
      · simpa using hu
      · cases hu
    have hr := run_append_grow_string (P := Tryz.prog) w 93 9 ty 5 i0 (.int .u8 0) Tryz.underlying93 Tryz.underlying9 hi hz0 ⟨g, 0, none⟩ l.length cap (Go.Lib.byteCells l) (by rw [hz1, hcl]; omega) holds s (by omega) (by omega) (by rw [hz2]; exact growslice_fits (by omega) (by omega));have hge := grownCap_ge w (l.length + s.size) cap 5;have hcm2 := grownCap_le_maxLen w (l.length + s.size) cap 5 (by unfold maxLen; omega);refine ⟨_, _, hr, ⟨w.heap.size, _, _, (0, 0), by rw [hll], hb.size, heap_alloc_new w.drew _, .inl rfl, by rw [hll]; exact hge, hcm2, ?_, ?_⟩, hb.drew.alloc hb.size _⟩
    · have hz : (Value.int IntKind.u8 0).cells.size = 1 := rfl;simp only [Array.size_append, List.size_toArray, size_zeroCells, hz, hcl, hsl];omega
    · rw [hcc, hll, Array.toList_append, Array.toList_append];have : l.length + s.size = ((Go.Lib.byteCells l).toArray.toList ++ (strCells s).toArray.toList).length := by simp [hcl, hsl]
      rw [this, List.take_left]
theorem OwnX.text {w : World} {B : Nat} {v : Value} {l : List UInt8} (h : OwnX w B v l) : (convert 93 9 v).run Tryz.prog w = .ok (.string ⟨l.toArray⟩) w := by
  obtain ⟨g, cap, cur, fz, rfl, hB, hg, hfz, hlc, hcm, hcs, htk⟩ := h;refine run_convert_bytes_back (P := Tryz.prog) w 93 9 5 ⟨g, 0, none⟩ cap l Tryz.underlying93 Tryz.underlying5 Tryz.underlying9 (fun j hj => ?_);rw [Addr.add_lit, Nat.zero_add, cell_of_row w g j cur 5 fz hg];have : (Go.Lib.byteCells l)[j]? = some (.int .u8 (l[j].toNat : Int)) := by simp [Go.Lib.byteCells, List.getElem?_eq_getElem hj]
  rw [← htk, List.getElem?_take, if_pos hj] at this
  simpa using this
end Go.Proofs.YtbahklpdldghbaaGreatDoor.OwX
end
section
namespace Go.Proofs.YtbahklpdldghbaaGreatDoor.Gap
open Go Go.RowKit Go.Lib Oct Num OwX
theorem bs_data (l : List UInt8) : (bs l).data.toList = l := by simp [bs]
theorem st1_len (first : Bool) (now t : Int) (h0 : 0 ≤ now) (h1 : now ≤ 4096) (h2 : 0 ≤ t) (h3 : t ≤ 4096) : (st1 first now t).length ≤ 9 := by
  unfold st1
  split
  · have := turn_lt (t - now) (by omega) (by omega);exact short_len9 _ (by omega)
  · exact short_len9 _ (by omega)
theorem putF_step (v : Int) (l : List Int) (k : Nat) (now t : Int) (ht : nt l k = t) (hn : now = if k = 0 then v else nt l (k - 1)) : putF v l (k + 1) = putF v l k ++ st1 (decide (k = 0)) now t := by
  subst ht hn
  cases k with
  | zero => rfl
  | succ k => rfl
set_option maxRecDepth 100000 in
set_option maxHeartbeats 2000000 in
theorem putStep_first (v t : Int) (A : Option Addr) (c : Nat) (w : World) (hv0 : 0 ≤ v) (hv1 : v ≤ 4096) (ht0 : 0 ≤ t) (ht1 : t ≤ 4096) :
    Calls Tryz.prog 109 #[.int .i64 v, .slice A 0 c, .int .i64 t] w fun e w' => e = .returned (.tuple #[.string (bs (st1 true v t)), .nilIface]) ∧ Below w.heap.size w w' := by
  refine Kn.calls Tryz.func109 rfl Tryz.ntmps109 rfl (.cons (t := 0) rfl (.cons (t := 1) rfl (.cons (t := 2) rfl .nil))) fun fa0 fh0 => ?_;refine wp_seq_k fun K1 hK1 => ?_;refine wp_region_lit ?_;refine Kn.pure fh0 rfl rfl .none (Kn.ex_assign fh0 .const) fun fa1 fh1 => ?_;clear fh0 fa0;refine Kn.pure fh1 rfl rfl .none (Kn.ex_assign fh1 .const) fun fa2 fh2 => ?_;clear fh1 fa1;refine wpList_nil ?_;refine hK1 _ _ ?_;clear hK1 K1;obtain ⟨z, hz⟩ : ∃ z, t - v = z := ⟨_, rfl⟩;have hzb : -4096 ≤ z ∧ z ≤ 4096 := by omega
  have hpt := putTurned_ok z w (by omega) (by omega);rw [show st1 true v t = short (turnOf z).toNat by rw [← hz]; rfl];refine wp_seq_k fun K2 hK2 => ?_;refine wp_seq_k fun K3 hK3 => ?_;refine wp_region_lit ?_;refine Kn.pure fh2 rfl rfl .none (Kn.ex_move fh2 (.tmp rfl)) fun fa3 fh3 => ?_;clear fh2 fa2;refine Kn.step fh3 rfl rfl .none (Kn.ex_len fh3 (.tmp rfl)) fun Ko hKo => ?_;go_simp;(try go_bits);refine hKo _ _ fun fa4 fh4 => ?_;clear hKo Ko fh3 fa3;refine Kn.step fh4 rfl rfl .none (Kn.ex_bin fh4 (.tmp rfl) .const) fun Ko hKo => ?_;go_simp;(try go_bits);refine hKo _ _ fun fa5 fh5 => ?_;clear hKo Ko fh4 fa4;refine wpList_nil ?_;refine hK3 _ _ ?_;clear hK3 K3;replace fh5 := fh5.cut (.cons (t := 10) rfl (.cons (t := 7) rfl (.cons (t := 6) rfl (.cons (t := 0) rfl (.cons (t := 1) rfl (.cons (t := 2) rfl .nil))))));refine Kn.yes fh5 (.tmp rfl) ?_;replace fh5 := fh5.cut (.cons (t := 7) rfl (.cons (t := 6) rfl (.cons (t := 0) rfl (.cons (t := 1) rfl (.cons (t := 2) rfl .nil)))));refine wp_seq_k fun K4 hK4 => ?_;refine wp_region_lit ?_;refine Kn.pure fh5 rfl rfl .none (Kn.ex_move fh5 (.tmp rfl)) fun fa6 fh6 => ?_;clear fh5 fa5;refine Kn.pure fh6 rfl rfl .none (Kn.ex_move fh6 (.tmp rfl)) fun fa7 fh7 => ?_;clear fh6 fa6;refine Kn.step fh7 rfl rfl .none (Kn.ex_bin fh7 (.tmp rfl) (.tmp rfl)) fun Ko hKo => ?_;go_simp;(try go_bits);try rw [hz]
  try go_simp
  (try go_bits);refine hKo _ _ fun fa8 fh8 => ?_;clear hKo Ko fh7 fa7;refine Kn.call fh8 rfl rfl .none (Kn.ex_call fh8 (.cons (.tmp rfl) .nil)) Tryz.call123 (hpt) fun e w1 hp => ?_;obtain ⟨rfl, hb⟩ := hp;refine ⟨_, rfl, fun fa9 fh9 => ?_⟩;clear fh8 fa8;refine Kn.pure fh9 rfl rfl .none (Kn.ex_extract fh9 (.tmp rfl) rfl) fun fa10 fh10 => ?_;clear fh9 fa9;refine Kn.pure fh10 rfl rfl .none (Kn.ex_extract fh10 (.tmp rfl) rfl) fun fa11 fh11 => ?_;clear fh10 fa10;refine Kn.pure fh11 rfl rfl .none (Kn.ex_assign fh11 (.tmp rfl)) fun fa12 fh12 => ?_;clear fh11 fa11;refine Kn.pure fh12 rfl rfl .none (Kn.ex_assign fh12 (.tmp rfl)) fun fa13 fh13 => ?_;clear fh12 fa12;refine wpList_nil ?_;refine hK4 _ _ ?_;clear hK4 K4;replace fh13 := fh13.cut (.cons (t := 7) rfl (.cons (t := 6) rfl (.cons (t := 1) rfl (.cons (t := 2) rfl .nil))));refine wp_ret ?_;refine Kn.then_ret ?_;exact Kn.ret2 fh13 rfl rfl rfl ⟨rfl, hb⟩
set_option maxRecDepth 100000 in
set_option maxHeartbeats 2000000 in
theorem putStep_next (v t y : Int) (g o n c : Nat) (w : World) (hn0 : 0 < n) (hn1 : n ≤ 100000) (hy0 : 0 ≤ y) (hy1 : y < t) (ht1 : t ≤ 4096) (hc : w.cell? ⟨g, o + (n - 1), none⟩ = some (.int .i64 y)) :
    Calls Tryz.prog 109 #[.int .i64 v, .slice (some ⟨g, o, none⟩) n c, .int .i64 t] w fun e w' => e = .returned (.tuple #[.string (bs (st1 false y t)), .nilIface]) ∧ Below w.heap.size w w' := by
  refine Kn.calls Tryz.func109 rfl Tryz.ntmps109 rfl (.cons (t := 0) rfl (.cons (t := 1) rfl (.cons (t := 2) rfl .nil))) fun fa0 fh0 => ?_;refine wp_seq_k fun K1 hK1 => ?_;refine wp_region_lit ?_;refine Kn.pure fh0 rfl rfl .none (Kn.ex_assign fh0 .const) fun fa1 fh1 => ?_;clear fh0 fa0;refine Kn.pure fh1 rfl rfl .none (Kn.ex_assign fh1 .const) fun fa2 fh2 => ?_;clear fh1 fa1;refine wpList_nil ?_;refine hK1 _ _ ?_;clear hK1 K1;obtain ⟨j, hj⟩ : ∃ j, n = j + 1 := ⟨n - 1, by omega⟩;have rj : (n : Int) - 1 = (j : Int) := by omega
  have hjn : j < n := by omega
  rw [show n - 1 = j by omega] at hc;have q0 : ((n : Int) == 0) = false := by rw [beq_eq_false_iff_ne]; omega
  have q1 : (n == 0) = false := by rw [beq_eq_false_iff_ne]; omega
  obtain ⟨z0, hz0⟩ : ∃ z, t - y = z := ⟨_, rfl⟩;obtain ⟨z, hz⟩ : ∃ z, z0 - 1 = z := ⟨_, rfl⟩;have hzb : 0 ≤ z ∧ z ≤ 4096 := by omega
  have hzb0 : 0 ≤ z0 ∧ z0 ≤ 4096 := by omega
  have hpt := putShort_ok z w (by omega) (by omega);rw [show st1 false y t = short z.toNat by rw [← hz, ← hz0]; rfl];clear hj hn0;refine wp_seq_k fun K2 hK2 => ?_;refine wp_seq_k fun K3 hK3 => ?_;refine wp_region_lit ?_;refine Kn.pure fh2 rfl rfl .none (Kn.ex_move fh2 (.tmp rfl)) fun fa3 fh3 => ?_;clear fh2 fa2;refine Kn.step fh3 rfl rfl .none (Kn.ex_len fh3 (.tmp rfl)) fun Ko hKo => ?_;go_simp;(try go_bits);refine hKo _ _ fun fa4 fh4 => ?_;clear hKo Ko fh3 fa3;refine Kn.step fh4 rfl rfl .none (Kn.ex_bin fh4 (.tmp rfl) .const) fun Ko hKo => ?_;go_simp;(try go_bits);refine hKo _ _ fun fa5 fh5 => ?_;clear hKo Ko fh4 fa4;refine wpList_nil ?_;refine hK3 _ _ ?_;clear hK3 K3;replace fh5 := fh5.cut (.cons (t := 10) rfl (.cons (t := 7) rfl (.cons (t := 6) rfl (.cons (t := 0) rfl (.cons (t := 1) rfl (.cons (t := 2) rfl .nil))))));refine Kn.no fh5 (.tmp rfl) ?_;refine wp_skip ?_;refine hK2 _ _ ?_;clear hK2 K2;replace fh5 := fh5.cut (.cons (t := 7) rfl (.cons (t := 6) rfl (.cons (t := 1) rfl (.cons (t := 2) rfl .nil))));refine wp_seq_k fun K4 hK4 => ?_;refine wp_region_lit ?_;refine Kn.pure fh5 rfl rfl .none (Kn.ex_move fh5 (.tmp rfl)) fun fa6 fh6 => ?_;clear fh5 fa5;refine Kn.pure fh6 rfl rfl .none (Kn.ex_move fh6 (.tmp rfl)) fun fa7 fh7 => ?_;clear fh6 fa6;refine Kn.pure fh7 rfl rfl .none (Kn.ex_move fh7 (.tmp rfl)) fun fa8 fh8 => ?_;clear fh7 fa7;refine Kn.step fh8 rfl rfl .none (Kn.ex_len fh8 (.tmp rfl)) fun Ko hKo => ?_;go_simp;(try go_bits);refine hKo _ _ fun fa9 fh9 => ?_;clear hKo Ko fh8 fa8;refine Kn.step fh9 rfl rfl .none (Kn.ex_bin fh9 (.tmp rfl) .const) fun Ko hKo => ?_;go_simp;(try go_bits);try simp only [rj]
  refine hKo _ _ fun fa10 fh10 => ?_;clear hKo Ko fh9 fa9;refine Kn.step fh10 rfl rfl .none (Kn.ex_indexAddr fh10 (.tmp rfl) (.tmp rfl)) fun Ko hKo => ?_;go_simp;(try go_bits);refine hKo _ _ fun fa11 fh11 => ?_;clear hKo Ko fh10 fa10;refine Kn.step fh11 rfl rfl .none (Kn.ex_load fh11 (.tmp rfl)) fun Ko hKo => ?_;go_simp;(try go_bits);refine hKo _ _ fun fa12 fh12 => ?_;clear hKo Ko fh11 fa11;refine Kn.step fh12 rfl rfl .none (Kn.ex_bin fh12 (.tmp rfl) (.tmp rfl)) fun Ko hKo => ?_;go_simp;(try go_bits);try rw [hz0]
  try go_simp
  (try go_bits);refine hKo _ _ fun fa13 fh13 => ?_;clear hKo Ko fh12 fa12;refine Kn.step fh13 rfl rfl .none (Kn.ex_bin fh13 (.tmp rfl) .const) fun Ko hKo => ?_;go_simp;(try go_bits);try rw [hz]
  try go_simp
  (try go_bits);refine hKo _ _ fun fa14 fh14 => ?_;clear hKo Ko fh13 fa13;refine Kn.call fh14 rfl rfl .none (Kn.ex_call fh14 (.cons (.tmp rfl) .nil)) Tryz.call40 (hpt) fun e w1 hp => ?_;obtain ⟨rfl, hb⟩ := hp;refine ⟨_, rfl, fun fa15 fh15 => ?_⟩;clear fh14 fa14;refine Kn.pure fh15 rfl rfl .none (Kn.ex_extract fh15 (.tmp rfl) rfl) fun fa16 fh16 => ?_;clear fh15 fa15;refine Kn.pure fh16 rfl rfl .none (Kn.ex_extract fh16 (.tmp rfl) rfl) fun fa17 fh17 => ?_;clear fh16 fa16;refine Kn.pure fh17 rfl rfl .none (Kn.ex_assign fh17 (.tmp rfl)) fun fa18 fh18 => ?_;clear fh17 fa17;refine Kn.pure fh18 rfl rfl .none (Kn.ex_assign fh18 (.tmp rfl)) fun fa19 fh19 => ?_;clear fh18 fa18;refine wpList_nil ?_;refine hK4 _ _ ?_;clear hK4 K4;replace fh19 := fh19.cut (.cons (t := 7) rfl (.cons (t := 6) rfl .nil));refine wp_ret ?_;exact Kn.ret2 fh19 rfl rfl rfl ⟨rfl, hb⟩
set_option maxRecDepth 100000 in
set_option maxHeartbeats 2000000 in
theorem gPut_any (N v : Int) (A : Option Addr) (ca f : Nat) (l : List Int) (w : World) (hN : N ≤ 4096) (hv0 : 0 ≤ v) (hv1 : v < N) (hl : l.length ≤ 100000) (hca : l.length ≤ ca) (hca2 : ca ≤ 9223372036854775807) (hA : IIn w A l) (hG : ∀ i, i < f → ¬ badT N l i) (hB : f < l.length → badT N l f) :
    Calls Tryz.prog 83 #[.int .i64 N, .int .i64 v, .slice A l.length ca] w fun e w' => e = .returned (if f < l.length then .tuple #[.string (bs []), faultV (f : Int) 10] else .tuple #[.string (bs (putF v l l.length)), .nilIface]) ∧ Below w.heap.size w w' := by
  have HA := Lib.hid hA;have HGd := Lib.hid hG;have HBd := Lib.hid hB;clear hA hG hB;refine Kn.calls Tryz.func83 rfl Tryz.ntmps83 rfl (.cons (t := 0) rfl (.cons (t := 1) rfl (.cons (t := 2) rfl .nil))) fun fa0 fh0 => ?_;refine wp_seq_k fun K1 hK1 => ?_;refine wp_region_lit ?_;refine Kn.pure fh0 rfl rfl .none (Kn.ex_assign fh0 .const) fun fa1 fh1 => ?_;clear fh0 fa0;refine Kn.pure fh1 rfl rfl .none (Kn.ex_assign fh1 .const) fun fa2 fh2 => ?_;clear fh1 fa1;refine wpList_nil ?_;refine hK1 _ _ ?_;clear hK1 K1;have hc := check_ok N v w (by omega) hN hv0 hv1;have hps := putShort_ok (l.length : Int) w (by omega) (by omega);rw [Int.toNat_natCast] at hps;have HSL : Hid ((short l.length).length ≤ 9) := Lib.hid (short_len9 _ (by omega));obtain ⟨U, hU⟩ : ∃ U, bs (short l.length) = U := ⟨_, rfl⟩;rw [show (⟨(short l.length).toArray⟩ : ByteArray) = U from hU] at hps;have hUs : U.size ≤ 9 := by rw [← hU, bs_size]; exact HSL.out
  have HU := Lib.hid hU;clear hU;refine wp_seq_k fun K2 hK2 => ?_;refine wp_seq_k fun K3 hK3 => ?_;refine wp_region_lit ?_;refine Kn.pure fh2 rfl rfl .none (Kn.ex_move fh2 (.tmp rfl)) fun fa3 fh3 => ?_;clear fh2 fa2;refine Kn.pure fh3 rfl rfl .none (Kn.ex_move fh3 (.tmp rfl)) fun fa4 fh4 => ?_;clear fh3 fa3;refine Kn.call fh4 rfl rfl .none (Kn.ex_call fh4 (.cons (.tmp rfl) (.cons (.tmp rfl) .nil))) Tryz.call84 (hc) fun e w1 hp => ?_;obtain ⟨rfl, rfl⟩ := hp;refine ⟨_, rfl, fun fa5 fh5 => ?_⟩;clear fh4 fa4;refine Kn.pure fh5 rfl rfl .none (Kn.ex_assign fh5 (.tmp rfl)) fun fa6 fh6 => ?_;clear fh5 fa5;refine wpList_nil ?_;refine hK3 _ _ ?_;clear hK3 K3;replace fh6 := fh6.cut (.cons (t := 8) rfl (.cons (t := 7) rfl (.cons (t := 6) rfl (.cons (t := 0) rfl (.cons (t := 1) rfl (.cons (t := 2) rfl .nil))))));clear hc;refine wp_seq_k fun K4 hK4 => ?_;refine wp_region_lit ?_;refine Kn.pure fh6 rfl rfl .none (Kn.ex_move fh6 (.tmp rfl)) fun fa7 fh7 => ?_;clear fh6 fa6;refine Kn.step fh7 rfl rfl .none (Kn.ex_bin fh7 (.tmp rfl) .const) fun Ko hKo => ?_;go_simp;(try go_bits);refine hKo _ _ fun fa8 fh8 => ?_;clear hKo Ko fh7 fa7;refine wpList_nil ?_;refine hK4 _ _ ?_;clear hK4 K4;replace fh8 := fh8.cut (.cons (t := 20) rfl (.cons (t := 8) rfl (.cons (t := 7) rfl (.cons (t := 6) rfl (.cons (t := 0) rfl (.cons (t := 1) rfl (.cons (t := 2) rfl .nil)))))));refine Kn.no fh8 (.tmp rfl) ?_;refine wp_skip ?_;refine hK2 _ _ ?_;clear hK2 K2;replace fh8 := fh8.cut (.cons (t := 7) rfl (.cons (t := 6) rfl (.cons (t := 0) rfl (.cons (t := 1) rfl (.cons (t := 2) rfl .nil)))));refine wp_seq_k fun K5 hK5 => ?_;refine wp_region_lit ?_;refine Kn.pure fh8 rfl rfl .none (Kn.ex_move fh8 (.tmp rfl)) fun fa9 fh9 => ?_;clear fh8 fa8;refine Kn.step fh9 rfl rfl .none (Kn.ex_len fh9 (.tmp rfl)) fun Ko hKo => ?_;go_simp;(try go_bits);refine hKo _ _ fun fa10 fh10 => ?_;clear hKo Ko fh9 fa9;refine Kn.call fh10 rfl rfl .none (Kn.ex_call fh10 (.cons (.tmp rfl) .nil)) Tryz.call40 (hps) fun e w1 hp => ?_;obtain ⟨rfl, hb1⟩ := hp;refine ⟨_, rfl, fun fa11 fh11 => ?_⟩;clear fh10 fa10;refine Kn.pure fh11 rfl rfl .none (Kn.ex_move fh11 (.tmp rfl)) fun fa12 fh12 => ?_;clear fh11 fa11;refine Kn.pure fh12 rfl rfl .none (Kn.ex_extract fh12 (.tmp rfl) rfl) fun fa13 fh13 => ?_;clear fh12 fa12;refine Kn.pure fh13 rfl rfl .none (Kn.ex_extract fh13 (.tmp rfl) rfl) fun fa14 fh14 => ?_;clear fh13 fa13;refine Kn.pure fh14 rfl rfl .none (Kn.ex_assign fh14 (.tmp rfl)) fun fa15 fh15 => ?_;clear fh14 fa14;refine Kn.pure fh15 rfl rfl .none (Kn.ex_assign fh15 (.tmp rfl)) fun fa16 fh16 => ?_;clear fh15 fa15;refine wpList_nil ?_;refine hK5 _ _ ?_;clear hK5 K5;replace fh16 := fh16.cut (.cons (t := 10) rfl (.cons (t := 9) rfl (.cons (t := 7) rfl (.cons (t := 6) rfl (.cons (t := 0) rfl (.cons (t := 1) rfl (.cons (t := 2) rfl .nil)))))));clear hps;refine wp_seq_k fun K6 hK6 => ?_;refine wp_seq_k fun K7 hK7 => ?_;refine wp_region_lit ?_;refine Kn.pure fh16 rfl rfl .none (Kn.ex_move fh16 (.tmp rfl)) fun fa17 fh17 => ?_;clear fh16 fa16;refine Kn.step fh17 rfl rfl .none (Kn.ex_bin fh17 (.tmp rfl) .const) fun Ko hKo => ?_;go_simp;(try go_bits);refine hKo _ _ fun fa18 fh18 => ?_;clear hKo Ko fh17 fa17;refine wpList_nil ?_;refine hK7 _ _ ?_;clear hK7 K7;replace fh18 := fh18.cut (.cons (t := 29) rfl (.cons (t := 10) rfl (.cons (t := 9) rfl (.cons (t := 7) rfl (.cons (t := 6) rfl (.cons (t := 0) rfl (.cons (t := 1) rfl (.cons (t := 2) rfl .nil))))))));refine Kn.no fh18 (.tmp rfl) ?_;refine wp_skip ?_;refine hK6 _ _ ?_;clear hK6 K6;replace fh18 := fh18.cut (.cons (t := 9) rfl (.cons (t := 7) rfl (.cons (t := 6) rfl (.cons (t := 0) rfl (.cons (t := 1) rfl (.cons (t := 2) rfl .nil))))));obtain ⟨bv0, w2, hmk, hO, hb2⟩ := made w1 w.heap.size hb1.size U (by unfold maxLen; omega);have HO2 : Hid (OwnX w2 w.heap.size bv0 (putF v l 0)) := Lib.hid (by rw [show putF v l 0 = U.data.toList by rw [← HU.out, bs_data]; rfl]; exact hO);have HB2 := Lib.hid (hb1.trans (hb2.mono hb1.size));clear hO hb1 hb2;refine wp_seq_k fun K8 hK8 => ?_;refine wp_region_lit ?_;refine Kn.pure fh18 rfl rfl .none (Kn.ex_move fh18 (.tmp rfl)) fun fa19 fh19 => ?_;clear fh18 fa18;refine Kn.known fh19 rfl rfl .none (Kn.ex_convert fh19 (.tmp rfl)) hmk fun fa20 fh20 => ?_;clear fh19 fa19;refine Kn.pure fh20 rfl rfl .none (Kn.ex_assign fh20 (.tmp rfl)) fun fa21 fh21 => ?_;clear fh20 fa20;refine wpList_nil ?_;refine hK8 _ _ ?_;clear hK8 K8;replace fh21 := fh21.cut (.cons (t := 11) rfl (.cons (t := 7) rfl (.cons (t := 6) rfl (.cons (t := 0) rfl (.cons (t := 1) rfl (.cons (t := 2) rfl .nil))))));clear hmk;refine wp_seq_k fun K9 hK9 => ?_;refine wp_seq_k fun K10 hK10 => ?_;refine wp_region_lit ?_;refine Kn.pure fh21 rfl rfl .none (Kn.ex_move fh21 (.tmp rfl)) fun fa22 fh22 => ?_;clear fh21 fa21;refine Kn.step fh22 rfl rfl .none (Kn.ex_len fh22 (.tmp rfl)) fun Ko hKo => ?_;go_simp;(try go_bits);refine hKo _ _ fun fa23 fh23 => ?_;clear hKo Ko fh22 fa22;refine Kn.pure fh23 rfl rfl .none (Kn.ex_move fh23 .const) fun fa24 fh24 => ?_;clear fh23 fa23;refine wpList_nil ?_;refine hK10 _ _ ?_;clear hK10 K10;refine wp_block ?_;refine Kn.loop (fun m fr u => ∃ (k : Nat) (bv : Value), Kn.Kn 78 [(35, .int .i64 (k : Int)), (34, .int .i64 (l.length : Int)), (33, .slice A l.length ca), (11, bv), (0, .int .i64 N), (1, .int .i64 v), (2, .slice A l.length ca)] fr ∧ k + m = l.length ∧ k ≤ f ∧ Hid ((putF v l k).length ≤ 9 + 9 * k) ∧ Hid (OwnX u w.heap.size bv (putF v l k)) ∧ Hid (Below w.heap.size w u)) l.length ⟨0, bv0, fh24.cut (.turn (t := 35) rfl rfl (.cons (t := 34) rfl (.cons (t := 33) rfl (.cons (t := 11) rfl (.cons (t := 0) rfl (.cons (t := 1) rfl (.cons (t := 2) rfl .nil))))))), by omega, Nat.zero_le _, Lib.hid (by have := HSL.out; rw [putF]; omega), HO2, HB2⟩ ?_;clear fh24 fa24;intro m11 fa25 u hI Kl11 hKl11;obtain ⟨k, bv, fh25, hk, hkf, HLn, HO, HB⟩ := hI;clear HO2 HB2
  by_cases hlt : k < l.length
  · obtain ⟨ba, oa, rfl, -, ca1⟩ := (HA.out.on HB.out) k hlt;obtain ⟨x, hx⟩ : ∃ x, nt l k = x := ⟨_, rfl⟩;rw [hx] at ca1;have HX := Lib.hid hx;clear hx;have hn := isNode_any N x u;refine wp_seq_k fun K12 hK12 => ?_;refine wp_region_lit ?_;refine Kn.step fh25 rfl rfl .none (Kn.ex_bin fh25 (.tmp rfl) (.tmp rfl)) fun Ko hKo => ?_;go_simp;(try go_bits);refine hKo _ _ fun fa26 fh26 => ?_;clear hKo Ko fh25 fa25;refine wpList_nil ?_;refine hK12 _ _ ?_;clear hK12 K12;refine wp_seq_k fun K13 hK13 => ?_;refine Kn.yes fh26 (.tmp rfl) ?_;refine wp_skip ?_;refine hK13 _ _ ?_;clear hK13 K13;replace fh26 := fh26.cut (.cons (t := 35) rfl (.cons (t := 34) rfl (.cons (t := 33) rfl (.cons (t := 11) rfl (.cons (t := 0) rfl (.cons (t := 1) rfl (.cons (t := 2) rfl .nil)))))));refine wp_seq_k fun K14 hK14 => ?_;refine wp_block ?_;refine wp_seq_k fun K15 hK15 => ?_;refine wp_region_lit ?_;refine Kn.pure fh26 rfl rfl .none (Kn.ex_move fh26 (.tmp rfl)) fun fa27 fh27 => ?_;clear fh26 fa26;refine Kn.step fh27 rfl rfl .none (Kn.ex_indexAddr fh27 (.tmp rfl) (.tmp rfl)) fun Ko hKo => ?_;go_simp;(try go_bits);refine hKo _ _ fun fa28 fh28 => ?_;clear hKo Ko fh27 fa27;refine Kn.step fh28 rfl rfl .none (Kn.ex_load fh28 (.tmp rfl)) fun Ko hKo => ?_;go_simp;(try go_bits);refine hKo _ _ fun fa29 fh29 => ?_;clear hKo Ko fh28 fa28;refine Kn.pure fh29 rfl rfl .none (Kn.ex_assign fh29 (.tmp rfl)) fun fa30 fh30 => ?_;clear fh29 fa29;refine Kn.pure fh30 rfl rfl .none (Kn.ex_assign fh30 (.tmp rfl)) fun fa31 fh31 => ?_;clear fh30 fa30;refine wpList_nil ?_;refine hK15 _ _ ?_;clear hK15 K15;replace fh31 := fh31.cut (.cons (t := 13) rfl (.cons (t := 12) rfl (.cons (t := 35) rfl (.cons (t := 34) rfl (.cons (t := 33) rfl (.cons (t := 11) rfl (.cons (t := 0) rfl (.cons (t := 1) rfl (.cons (t := 2) rfl .nil)))))))))
    by_cases e1 : x < 0 ∨ N ≤ x
    · rw [nodeB_no e1] at hn
      have HF : Hid (f = k) := Lib.hid (by
        rcases Nat.lt_or_ge k f with h | h
        · exact absurd (show badT N l k from by have h1 : l.getD k 0 = x := HX.out; unfold badT; rw [h1]; rcases e1 with e | e; exact .inl e; exact .inr (.inl e)) (HGd.out k h)
        · omega)
      have hf := gfault_any (k : Int) 52 (.int .i64 10) u;unfold flt at hf;refine wp_seq_k fun K16 hK16 => ?_;refine wp_seq_k fun K17 hK17 => ?_;refine wp_region_lit ?_;refine Kn.pure fh31 rfl rfl .none (Kn.ex_move fh31 (.tmp rfl)) fun fa32 fh32 => ?_;clear fh31 fa31;refine Kn.pure fh32 rfl rfl .none (Kn.ex_move fh32 (.tmp rfl)) fun fa33 fh33 => ?_;clear fh32 fa32;refine Kn.call fh33 rfl rfl .none (Kn.ex_call fh33 (.cons (.tmp rfl) (.cons (.tmp rfl) .nil))) Tryz.call88 (hn) fun e w3 hp => ?_;obtain ⟨rfl, rfl⟩ := hp;refine ⟨_, rfl, fun fa34 fh34 => ?_⟩;clear fh33 fa33;refine Kn.step fh34 rfl rfl .none (Kn.ex_un fh34 (.tmp rfl)) fun Ko hKo => ?_;go_simp;(try go_bits);refine hKo _ _ fun fa35 fh35 => ?_;clear hKo Ko fh34 fa34;refine Kn.pure fh35 rfl rfl .none (Kn.ex_move fh35 (.tmp rfl)) fun fa36 fh36 => ?_;clear fh35 fa35;refine Kn.skip fh36 rfl rfl (.some rfl rfl rfl) fun fa37 fh37 => ?_;clear fh36 fa36;refine Kn.skip fh37 rfl rfl (.some rfl rfl rfl) fun fa38 fh38 => ?_;clear fh37 fa37;refine Kn.skip fh38 rfl rfl (.some rfl rfl rfl) fun fa39 fh39 => ?_;clear fh38 fa38;refine Kn.skip fh39 rfl rfl (.gone rfl rfl) fun fa40 fh40 => ?_;clear fh39 fa39;refine Kn.skip fh40 rfl rfl (.gone rfl rfl) fun fa41 fh41 => ?_;clear fh40 fa40;refine Kn.skip fh41 rfl rfl (.gone rfl rfl) fun fa42 fh42 => ?_;clear fh41 fa41;refine Kn.skip fh42 rfl rfl (.gone rfl rfl) fun fa43 fh43 => ?_;clear fh42 fa42;refine Kn.skip fh43 rfl rfl (.gone rfl rfl) fun fa44 fh44 => ?_;clear fh43 fa43;refine Kn.skip fh44 rfl rfl (.gone rfl rfl) fun fa45 fh45 => ?_;clear fh44 fa44;refine Kn.skip fh45 rfl rfl (.gone rfl rfl) fun fa46 fh46 => ?_;clear fh45 fa45;refine Kn.skip fh46 rfl rfl (.some rfl rfl rfl) fun fa47 fh47 => ?_;clear fh46 fa46;refine Kn.pure fh47 rfl rfl .none (Kn.ex_pick fh47 (.tmp rfl) .const) fun fa48 fh48 => ?_;clear fh47 fa47;refine wpList_nil ?_;refine hK17 _ _ ?_;clear hK17 K17;replace fh48 := fh48.cut (.cons (t := 56) rfl (.cons (t := 13) rfl (.cons (t := 12) rfl (.cons (t := 35) rfl (.cons (t := 34) rfl (.cons (t := 33) rfl (.cons (t := 11) rfl (.cons (t := 0) rfl (.cons (t := 1) rfl (.cons (t := 2) rfl .nil))))))))));refine Kn.yes fh48 (.tmp rfl) ?_;replace fh48 := fh48.cut (.cons (t := 13) rfl (.cons (t := 12) rfl (.cons (t := 35) rfl (.cons (t := 34) rfl (.cons (t := 33) rfl (.cons (t := 11) rfl (.cons (t := 0) rfl (.cons (t := 1) rfl (.cons (t := 2) rfl .nil)))))))));refine wp_seq_k fun K18 hK18 => ?_;refine wp_region_lit ?_;refine Kn.pure fh48 rfl rfl .none (Kn.ex_move fh48 (.tmp rfl)) fun fa49 fh49 => ?_;clear fh48 fa48;refine Kn.step fh49 rfl rfl .none (Kn.ex_makeInterface fh49 .const) fun Ko hKo => ?_;go_simp;(try go_bits);refine hKo _ _ fun fa50 fh50 => ?_;clear hKo Ko fh49 fa49;refine Kn.call fh50 rfl rfl .none (Kn.ex_call fh50 (.cons (.tmp rfl) (.cons (.tmp rfl) .nil))) Tryz.call85 (hf) fun e w3 hp => ?_;obtain ⟨rfl, rfl⟩ := hp;refine ⟨_, rfl, fun fa51 fh51 => ?_⟩;clear fh50 fa50;refine Kn.pure fh51 rfl rfl .none (Kn.ex_assign fh51 .const) fun fa52 fh52 => ?_;clear fh51 fa51;refine Kn.pure fh52 rfl rfl .none (Kn.ex_assign fh52 (.tmp rfl)) fun fa53 fh53 => ?_;clear fh52 fa52;refine wpList_nil ?_;refine hK18 _ _ ?_;clear hK18 K18;replace fh53 := fh53.cut (.cons (t := 7) rfl (.cons (t := 6) rfl (.cons (t := 13) rfl (.cons (t := 12) rfl (.cons (t := 35) rfl (.cons (t := 34) rfl (.cons (t := 33) rfl (.cons (t := 11) rfl (.cons (t := 0) rfl (.cons (t := 1) rfl (.cons (t := 2) rfl .nil)))))))))));refine wp_ret ?_;refine Kn.then_ret ?_;refine Kn.block_ret ?_;refine Kn.then_ret ?_;refine Kn.then_ret ?_;refine Kn.block_ret ?_;refine Kn.then_ret ?_;exact Kn.ret2 fh53 rfl rfl rfl ⟨by rw [HF.out, if_pos hlt]; rfl, HB.out⟩
    rw [nodeB_yes (by omega) (by omega)] at hn;have hxr : 0 ≤ x ∧ x < N := by omega
    clear e1;have hsl := sliceH0 ba oa l.length ca k u (by omega) hca2
    by_cases hk0 : k = 0
    · subst hk0
      have hkf2 : 0 + 1 ≤ f := by
        rcases Nat.lt_or_ge 0 f with h | h
        · exact h
        · have e : f = 0 := by omega
          subst e;have h1 : l.getD 0 0 = x := HX.out;rcases HBd.out hlt with h2 | h2 | h2
          · omega
          · omega
          · omega
      have HPS : Hid (putF v l (0 + 1) = putF v l 0 ++ st1 true v x) := Lib.hid (putF_step v l 0 v x HX.out rfl);have hki : ¬ (0 : Int) < ((0 : Nat) : Int) := by omega
      have hst := putStep_first v x (some ⟨ba, oa, none⟩) ca u hv0 (by omega) hxr.1 (by omega);obtain ⟨S, hS⟩ : ∃ S, bs (st1 true v x) = S := ⟨_, rfl⟩;rw [hS] at hst;have hSs : S.size ≤ 9 := by rw [← hS, bs_size]; exact st1_len _ _ _ (by omega) (by omega) (by omega) (by omega)
      have HP : Hid (putF v l (0 + 1) = putF v l 0 ++ S.data.toList) := Lib.hid (by rw [← hS, bs_data]; exact HPS.out);clear hS HPS;refine wp_seq_k fun K16 hK16 => ?_;refine wp_seq_k fun K17 hK17 => ?_;refine wp_region_lit ?_;refine Kn.pure fh31 rfl rfl .none (Kn.ex_move fh31 (.tmp rfl)) fun fa32 fh32 => ?_;clear fh31 fa31;refine Kn.pure fh32 rfl rfl .none (Kn.ex_move fh32 (.tmp rfl)) fun fa33 fh33 => ?_;clear fh32 fa32;refine Kn.call fh33 rfl rfl .none (Kn.ex_call fh33 (.cons (.tmp rfl) (.cons (.tmp rfl) .nil))) Tryz.call88 (hn) fun e w3 hp => ?_;obtain ⟨rfl, rfl⟩ := hp;refine ⟨_, rfl, fun fa34 fh34 => ?_⟩;clear fh33 fa33;refine Kn.step fh34 rfl rfl .none (Kn.ex_un fh34 (.tmp rfl)) fun Ko hKo => ?_;go_simp;(try go_bits);refine hKo _ _ fun fa35 fh35 => ?_;clear hKo Ko fh34 fa34;refine Kn.pure fh35 rfl rfl .none (Kn.ex_move fh35 (.tmp rfl)) fun fa36 fh36 => ?_;clear fh35 fa35;refine Kn.pure fh36 rfl rfl (.some rfl rfl rfl) (Kn.ex_move fh36 (.tmp rfl)) fun fa37 fh37 => ?_;clear fh36 fa36;refine Kn.step fh37 rfl rfl (.some rfl rfl rfl) (Kn.ex_bin fh37 (.tmp rfl) .const) fun Ko hKo => ?_;go_simp;(try go_bits);refine hKo _ _ fun fa38 fh38 => ?_;clear hKo Ko fh37 fa37;refine Kn.pure fh38 rfl rfl (.some rfl rfl rfl) (Kn.ex_move fh38 (.tmp rfl)) fun fa39 fh39 => ?_;clear fh38 fa38;refine Kn.skip fh39 rfl rfl (.some rfl rfl rfl) fun fa40 fh40 => ?_;clear fh39 fa39;refine Kn.skip fh40 rfl rfl (.some rfl rfl rfl) fun fa41 fh41 => ?_;clear fh40 fa40;refine Kn.skip fh41 rfl rfl (.some rfl rfl rfl) fun fa42 fh42 => ?_;clear fh41 fa41;refine Kn.skip fh42 rfl rfl (.some rfl rfl rfl) fun fa43 fh43 => ?_;clear fh42 fa42;refine Kn.skip fh43 rfl rfl (.some rfl rfl rfl) fun fa44 fh44 => ?_;clear fh43 fa43;refine Kn.skip fh44 rfl rfl (.some rfl rfl rfl) fun fa45 fh45 => ?_;clear fh44 fa44;refine Kn.skip fh45 rfl rfl (.some rfl rfl rfl) fun fa46 fh46 => ?_;clear fh45 fa45;refine Kn.pure fh46 rfl rfl (.some rfl rfl rfl) (Kn.ex_pick fh46 (.tmp rfl) .const) fun fa47 fh47 => ?_;clear fh46 fa46;refine Kn.pure fh47 rfl rfl .none (Kn.ex_pick fh47 (.tmp rfl) (.tmp rfl)) fun fa48 fh48 => ?_;clear fh47 fa47;refine wpList_nil ?_;refine hK17 _ _ ?_;clear hK17 K17;replace fh48 := fh48.cut (.cons (t := 56) rfl (.cons (t := 13) rfl (.cons (t := 12) rfl (.cons (t := 35) rfl (.cons (t := 34) rfl (.cons (t := 33) rfl (.cons (t := 11) rfl (.cons (t := 0) rfl (.cons (t := 1) rfl (.cons (t := 2) rfl .nil))))))))));refine Kn.no fh48 (.tmp rfl) ?_;refine wp_skip ?_;refine hK16 _ _ ?_;clear hK16 K16;replace fh48 := fh48.cut (.cons (t := 13) rfl (.cons (t := 12) rfl (.cons (t := 35) rfl (.cons (t := 34) rfl (.cons (t := 33) rfl (.cons (t := 11) rfl (.cons (t := 0) rfl (.cons (t := 1) rfl (.cons (t := 2) rfl .nil)))))))));clear hn;refine wp_seq_k fun K18 hK18 => ?_;refine wp_region_lit ?_;refine Kn.pure fh48 rfl rfl .none (Kn.ex_move fh48 (.tmp rfl)) fun fa49 fh49 => ?_;clear fh48 fa48;refine Kn.pure fh49 rfl rfl .none (Kn.ex_move fh49 (.tmp rfl)) fun fa50 fh50 => ?_;clear fh49 fa49;refine Kn.pure fh50 rfl rfl .none (Kn.ex_move fh50 (.tmp rfl)) fun fa51 fh51 => ?_;clear fh50 fa50;refine Kn.known fh51 rfl rfl .none (Kn.ex_sliceH fh51 (.tmp rfl) (.tmp rfl)) hsl fun fa52 fh52 => ?_;clear fh51 fa51;refine Kn.pure fh52 rfl rfl .none (Kn.ex_move fh52 (.tmp rfl)) fun fa53 fh53 => ?_;clear fh52 fa52;refine Kn.call fh53 rfl rfl .none (Kn.ex_call fh53 (.cons (.tmp rfl) (.cons (.tmp rfl) (.cons (.tmp rfl) .nil)))) Tryz.call109 (hst) fun e u1 hp => ?_;obtain ⟨rfl, hb1⟩ := hp;refine ⟨_, rfl, fun fa54 fh54 => ?_⟩;clear fh53 fa53;refine Kn.pure fh54 rfl rfl .none (Kn.ex_move fh54 (.tmp rfl)) fun fa55 fh55 => ?_;clear fh54 fa54;refine Kn.pure fh55 rfl rfl .none (Kn.ex_extract fh55 (.tmp rfl) rfl) fun fa56 fh56 => ?_;clear fh55 fa55;refine Kn.pure fh56 rfl rfl .none (Kn.ex_extract fh56 (.tmp rfl) rfl) fun fa57 fh57 => ?_;clear fh56 fa56;refine Kn.pure fh57 rfl rfl .none (Kn.ex_assign fh57 (.tmp rfl)) fun fa58 fh58 => ?_;clear fh57 fa57;refine Kn.pure fh58 rfl rfl .none (Kn.ex_assign fh58 (.tmp rfl)) fun fa59 fh59 => ?_;clear fh58 fa58;refine wpList_nil ?_;refine hK18 _ _ ?_;clear hK18 K18;replace fh59 := fh59.cut (.cons (t := 15) rfl (.cons (t := 14) rfl (.cons (t := 35) rfl (.cons (t := 34) rfl (.cons (t := 33) rfl (.cons (t := 11) rfl (.cons (t := 0) rfl (.cons (t := 1) rfl (.cons (t := 2) rfl .nil)))))))));clear hst hsl ca1;refine wp_seq_k fun K19 hK19 => ?_;refine wp_seq_k fun K20 hK20 => ?_;refine wp_region_lit ?_;refine Kn.pure fh59 rfl rfl .none (Kn.ex_move fh59 (.tmp rfl)) fun fa60 fh60 => ?_;clear fh59 fa59;refine Kn.step fh60 rfl rfl .none (Kn.ex_bin fh60 (.tmp rfl) .const) fun Ko hKo => ?_;go_simp;(try go_bits);refine hKo _ _ fun fa61 fh61 => ?_;clear hKo Ko fh60 fa60;refine wpList_nil ?_;refine hK20 _ _ ?_;clear hK20 K20;replace fh61 := fh61.cut (.cons (t := 70) rfl (.cons (t := 15) rfl (.cons (t := 14) rfl (.cons (t := 35) rfl (.cons (t := 34) rfl (.cons (t := 33) rfl (.cons (t := 11) rfl (.cons (t := 0) rfl (.cons (t := 1) rfl (.cons (t := 2) rfl .nil))))))))));refine Kn.no fh61 (.tmp rfl) ?_;refine wp_skip ?_;refine hK19 _ _ ?_;clear hK19 K19;replace fh61 := fh61.cut (.cons (t := 14) rfl (.cons (t := 35) rfl (.cons (t := 34) rfl (.cons (t := 33) rfl (.cons (t := 11) rfl (.cons (t := 0) rfl (.cons (t := 1) rfl (.cons (t := 2) rfl .nil))))))));obtain ⟨bv2, u2, hrun, hO2, hB2⟩ := (HO.out.on hb1).push (HB.out.trans (hb1.mono HB.out.size)) S 93 (by have := HLn.out; omega);have HO2 : Hid (OwnX u2 w.heap.size bv2 (putF v l (0 + 1))) := Lib.hid (by rw [HP.out]; exact hO2);have HB2 := Lib.hid hB2;have HL2 : Hid ((putF v l (0 + 1)).length ≤ 9 + 9 * (0 + 1)) := Lib.hid (by have := HLn.out; have e : S.data.toList.length = S.size := rfl; rw [HP.out, List.length_append, e]; omega);clear hO2 hB2 hb1;refine wp_region_lit ?_;refine Kn.pure fh61 rfl rfl .none (Kn.ex_move fh61 (.tmp rfl)) fun fa62 fh62 => ?_;clear fh61 fa61;refine Kn.pure fh62 rfl rfl .none (Kn.ex_move fh62 (.tmp rfl)) fun fa63 fh63 => ?_;clear fh62 fa62;refine Kn.known fh63 rfl rfl .none (Kn.ex_append fh63 (.cons (.tmp rfl) (.cons (.tmp rfl) .nil))) hrun fun fa64 fh64 => ?_
      clear fh63 fa63;refine Kn.pure fh64 rfl rfl .none (Kn.ex_assign fh64 (.tmp rfl)) fun fa65 fh65 => ?_;clear fh64 fa64;refine wpList_nil ?_;refine Kn.block_normal ?_;refine hK14 _ _ ?_;clear hK14 K14;replace fh65 := fh65.cut (.cons (t := 11) rfl (.cons (t := 35) rfl (.cons (t := 34) rfl (.cons (t := 33) rfl (.cons (t := 0) rfl (.cons (t := 1) rfl (.cons (t := 2) rfl .nil)))))));clear hrun;refine wp_region_lit ?_;refine Kn.step fh65 rfl rfl .none (Kn.ex_bin fh65 (.tmp rfl) .const) fun Ko hKo => ?_;go_simp;(try go_bits);refine hKo _ _ fun fa66 fh66 => ?_;clear hKo Ko fh65 fa65;refine Kn.pure fh66 rfl rfl .none (Kn.ex_move fh66 (.tmp rfl)) fun fa67 fh67 => ?_;clear fh66 fa66;refine wpList_nil ?_;replace fh67 := fh67.cut (.cons (t := 35) rfl (.cons (t := 11) rfl (.cons (t := 34) rfl (.cons (t := 33) rfl (.cons (t := 0) rfl (.cons (t := 1) rfl (.cons (t := 2) rfl .nil)))))));exact hKl11 (m11 - 1) _ _ (by omega) ⟨0 + 1, bv2, fh67.cut (.turn (t := 35) rfl (by go_num) (.cons (t := 34) rfl (.cons (t := 33) rfl (.cons (t := 11) rfl (.cons (t := 0) rfl (.cons (t := 1) rfl (.cons (t := 2) rfl .nil))))))), by omega, hkf2, HL2, HO2, HB2⟩
    obtain ⟨j, hj⟩ : ∃ j, k = j + 1 := ⟨k - 1, by omega⟩;have hki : (0 : Int) < (k : Int) := by omega
    have hki2 : 0 < k := by omega
    have rj : (k : Int) - 1 = (j : Int) := by omega
    have hjl : j < l.length := by omega
    have cb1 := IIn.cells (HA.out.on HB.out) hjl;obtain ⟨y, hy⟩ : ∃ y, nt l j = y := ⟨_, rfl⟩;rw [hy] at cb1;have HYJ := Lib.hid hy;have HJ := Lib.hid hj
    have hyr : 0 ≤ y ∧ y < N := by
      have := HGd.out j (by omega);unfold badT at this;have h1 : l.getD j 0 = y := hy;rw [h1] at this;omega
    have HY : Hid (l.getD (k - 1) 0 = y) := Lib.hid (by rw [hj]; exact hy);clear hy hj
    by_cases e3 : x ≤ y
    · have HF : Hid (f = k) := Lib.hid (by
        rcases Nat.lt_or_ge k f with h | h
        · exact absurd (show badT N l k from .inr (.inr ⟨hki2, by rw [show l.getD k 0 = x from HX.out, HY.out]; exact e3⟩)) (HGd.out k h)
        · omega)
      have hf := gfault_any (k : Int) 52 (.int .i64 10) u;unfold flt at hf;refine wp_seq_k fun K16 hK16 => ?_;refine wp_seq_k fun K17 hK17 => ?_;refine wp_region_lit ?_;refine Kn.pure fh31 rfl rfl .none (Kn.ex_move fh31 (.tmp rfl)) fun fa32 fh32 => ?_;clear fh31 fa31;refine Kn.pure fh32 rfl rfl .none (Kn.ex_move fh32 (.tmp rfl)) fun fa33 fh33 => ?_;clear fh32 fa32;refine Kn.call fh33 rfl rfl .none (Kn.ex_call fh33 (.cons (.tmp rfl) (.cons (.tmp rfl) .nil))) Tryz.call88 (hn) fun e w3 hp => ?_;obtain ⟨rfl, rfl⟩ := hp;refine ⟨_, rfl, fun fa34 fh34 => ?_⟩;clear fh33 fa33;refine Kn.step fh34 rfl rfl .none (Kn.ex_un fh34 (.tmp rfl)) fun Ko hKo => ?_;go_simp;(try go_bits);refine hKo _ _ fun fa35 fh35 => ?_;clear hKo Ko fh34 fa34;refine Kn.pure fh35 rfl rfl .none (Kn.ex_move fh35 (.tmp rfl)) fun fa36 fh36 => ?_;clear fh35 fa35;refine Kn.pure fh36 rfl rfl (.some rfl rfl rfl) (Kn.ex_move fh36 (.tmp rfl)) fun fa37 fh37 => ?_;clear fh36 fa36;refine Kn.step fh37 rfl rfl (.some rfl rfl rfl) (Kn.ex_bin fh37 (.tmp rfl) .const) fun Ko hKo => ?_;go_simp;(try go_bits);refine hKo _ _ fun fa38 fh38 => ?_;clear hKo Ko fh37 fa37;refine Kn.pure fh38 rfl rfl (.some rfl rfl rfl) (Kn.ex_move fh38 (.tmp rfl)) fun fa39 fh39 => ?_;clear fh38 fa38;refine Kn.pure fh39 rfl rfl (.some rfl rfl rfl) (Kn.ex_move fh39 (.tmp rfl)) fun fa40 fh40 => ?_;clear fh39 fa39;refine Kn.pure fh40 rfl rfl (.some rfl rfl rfl) (Kn.ex_move fh40 (.tmp rfl)) fun fa41 fh41 => ?_;clear fh40 fa40;refine Kn.pure fh41 rfl rfl (.some rfl rfl rfl) (Kn.ex_move fh41 (.tmp rfl)) fun fa42 fh42 => ?_;clear fh41 fa41;refine Kn.step fh42 rfl rfl (.some rfl rfl rfl) (Kn.ex_bin fh42 (.tmp rfl) .const) fun Ko hKo => ?_;go_simp;(try go_bits);try simp only [rj]
      refine hKo _ _ fun fa43 fh43 => ?_;clear hKo Ko fh42 fa42;refine Kn.step fh43 rfl rfl (.some rfl rfl rfl) (Kn.ex_indexAddr fh43 (.tmp rfl) (.tmp rfl)) fun Ko hKo => ?_;go_simp;(try go_bits);refine hKo _ _ fun fa44 fh44 => ?_;clear hKo Ko fh43 fa43;refine Kn.step fh44 rfl rfl (.some rfl rfl rfl) (Kn.ex_load fh44 (.tmp rfl)) fun Ko hKo => ?_;go_simp;(try go_bits);refine hKo _ _ fun fa45 fh45 => ?_;clear hKo Ko fh44 fa44;refine Kn.step fh45 rfl rfl (.some rfl rfl rfl) (Kn.ex_bin fh45 (.tmp rfl) (.tmp rfl)) fun Ko hKo => ?_;go_simp;(try go_bits);refine hKo _ _ fun fa46 fh46 => ?_;clear hKo Ko fh45 fa45;refine Kn.pure fh46 rfl rfl (.some rfl rfl rfl) (Kn.ex_pick fh46 (.tmp rfl) (.tmp rfl)) fun fa47 fh47 => ?_;clear fh46 fa46;refine Kn.pure fh47 rfl rfl .none (Kn.ex_pick fh47 (.tmp rfl) (.tmp rfl)) fun fa48 fh48 => ?_;clear fh47 fa47;refine wpList_nil ?_;refine hK17 _ _ ?_;clear hK17 K17;replace fh48 := fh48.cut (.cons (t := 56) rfl (.cons (t := 13) rfl (.cons (t := 12) rfl (.cons (t := 35) rfl (.cons (t := 34) rfl (.cons (t := 33) rfl (.cons (t := 11) rfl (.cons (t := 0) rfl (.cons (t := 1) rfl (.cons (t := 2) rfl .nil))))))))));refine Kn.yes fh48 (.tmp rfl) ?_;replace fh48 := fh48.cut (.cons (t := 13) rfl (.cons (t := 12) rfl (.cons (t := 35) rfl (.cons (t := 34) rfl (.cons (t := 33) rfl (.cons (t := 11) rfl (.cons (t := 0) rfl (.cons (t := 1) rfl (.cons (t := 2) rfl .nil)))))))));refine wp_seq_k fun K18 hK18 => ?_;refine wp_region_lit ?_;refine Kn.pure fh48 rfl rfl .none (Kn.ex_move fh48 (.tmp rfl)) fun fa49 fh49 => ?_;clear fh48 fa48;refine Kn.step fh49 rfl rfl .none (Kn.ex_makeInterface fh49 .const) fun Ko hKo => ?_;go_simp;(try go_bits);refine hKo _ _ fun fa50 fh50 => ?_;clear hKo Ko fh49 fa49;refine Kn.call fh50 rfl rfl .none (Kn.ex_call fh50 (.cons (.tmp rfl) (.cons (.tmp rfl) .nil))) Tryz.call85 (hf) fun e w3 hp => ?_;obtain ⟨rfl, rfl⟩ := hp;refine ⟨_, rfl, fun fa51 fh51 => ?_⟩;clear fh50 fa50;refine Kn.pure fh51 rfl rfl .none (Kn.ex_assign fh51 .const) fun fa52 fh52 => ?_;clear fh51 fa51;refine Kn.pure fh52 rfl rfl .none (Kn.ex_assign fh52 (.tmp rfl)) fun fa53 fh53 => ?_;clear fh52 fa52;refine wpList_nil ?_;refine hK18 _ _ ?_;clear hK18 K18;replace fh53 := fh53.cut (.cons (t := 7) rfl (.cons (t := 6) rfl (.cons (t := 13) rfl (.cons (t := 12) rfl (.cons (t := 35) rfl (.cons (t := 34) rfl (.cons (t := 33) rfl (.cons (t := 11) rfl (.cons (t := 0) rfl (.cons (t := 1) rfl (.cons (t := 2) rfl .nil)))))))))));refine wp_ret ?_;refine Kn.then_ret ?_;refine Kn.block_ret ?_;refine Kn.then_ret ?_;refine Kn.then_ret ?_;refine Kn.block_ret ?_;refine Kn.then_ret ?_;exact Kn.ret2 fh53 rfl rfl rfl ⟨by rw [HF.out, if_pos hlt]; rfl, HB.out⟩
    have hkf2 : k + 1 ≤ f := by
      rcases Nat.lt_or_ge k f with h | h
      · exact h
      · have e : f = k := by omega
        subst e;have h1 : l.getD f 0 = x := HX.out;rcases HBd.out hlt with h2 | h2 | h2
        · omega
        · omega
        · rw [h1, HY.out] at h2; omega
    have HPS : Hid (putF v l (k + 1) = putF v l k ++ st1 false y x) := Lib.hid (by
      have e := putF_step v l k y x HX.out (by rw [if_neg hk0]; exact HY.out.symm)
      rwa [decide_eq_false hk0] at e)
    have hst := putStep_next v x y ba oa k ca u hki2 (by omega) hyr.1 (by omega) (by omega) (by rw [show k - 1 = j by have := HJ.out; omega]; exact cb1);obtain ⟨S, hS⟩ : ∃ S, bs (st1 false y x) = S := ⟨_, rfl⟩;rw [hS] at hst;have hSs : S.size ≤ 9 := by rw [← hS, bs_size]; exact st1_len _ _ _ (by omega) (by omega) (by omega) (by omega)
    have HP : Hid (putF v l (k + 1) = putF v l k ++ S.data.toList) := Lib.hid (by rw [← hS, bs_data]; exact HPS.out);clear hS HPS;refine wp_seq_k fun K16 hK16 => ?_;refine wp_seq_k fun K17 hK17 => ?_;refine wp_region_lit ?_;refine Kn.pure fh31 rfl rfl .none (Kn.ex_move fh31 (.tmp rfl)) fun fa32 fh32 => ?_;clear fh31 fa31;refine Kn.pure fh32 rfl rfl .none (Kn.ex_move fh32 (.tmp rfl)) fun fa33 fh33 => ?_;clear fh32 fa32;refine Kn.call fh33 rfl rfl .none (Kn.ex_call fh33 (.cons (.tmp rfl) (.cons (.tmp rfl) .nil))) Tryz.call88 (hn) fun e w3 hp => ?_;obtain ⟨rfl, rfl⟩ := hp;refine ⟨_, rfl, fun fa34 fh34 => ?_⟩;clear fh33 fa33;refine Kn.step fh34 rfl rfl .none (Kn.ex_un fh34 (.tmp rfl)) fun Ko hKo => ?_;go_simp;(try go_bits);refine hKo _ _ fun fa35 fh35 => ?_;clear hKo Ko fh34 fa34;refine Kn.pure fh35 rfl rfl .none (Kn.ex_move fh35 (.tmp rfl)) fun fa36 fh36 => ?_;clear fh35 fa35;refine Kn.pure fh36 rfl rfl (.some rfl rfl rfl) (Kn.ex_move fh36 (.tmp rfl)) fun fa37 fh37 => ?_;clear fh36 fa36;refine Kn.step fh37 rfl rfl (.some rfl rfl rfl) (Kn.ex_bin fh37 (.tmp rfl) .const) fun Ko hKo => ?_;go_simp;(try go_bits);refine hKo _ _ fun fa38 fh38 => ?_;clear hKo Ko fh37 fa37;refine Kn.pure fh38 rfl rfl (.some rfl rfl rfl) (Kn.ex_move fh38 (.tmp rfl)) fun fa39 fh39 => ?_;clear fh38 fa38;refine Kn.pure fh39 rfl rfl (.some rfl rfl rfl) (Kn.ex_move fh39 (.tmp rfl)) fun fa40 fh40 => ?_;clear fh39 fa39;refine Kn.pure fh40 rfl rfl (.some rfl rfl rfl) (Kn.ex_move fh40 (.tmp rfl)) fun fa41 fh41 => ?_;clear fh40 fa40;refine Kn.pure fh41 rfl rfl (.some rfl rfl rfl) (Kn.ex_move fh41 (.tmp rfl)) fun fa42 fh42 => ?_;clear fh41 fa41;refine Kn.step fh42 rfl rfl (.some rfl rfl rfl) (Kn.ex_bin fh42 (.tmp rfl) .const) fun Ko hKo => ?_;go_simp;(try go_bits);try simp only [rj]
    refine hKo _ _ fun fa43 fh43 => ?_;clear hKo Ko fh42 fa42;refine Kn.step fh43 rfl rfl (.some rfl rfl rfl) (Kn.ex_indexAddr fh43 (.tmp rfl) (.tmp rfl)) fun Ko hKo => ?_;go_simp;(try go_bits);refine hKo _ _ fun fa44 fh44 => ?_;clear hKo Ko fh43 fa43;refine Kn.step fh44 rfl rfl (.some rfl rfl rfl) (Kn.ex_load fh44 (.tmp rfl)) fun Ko hKo => ?_;go_simp;(try go_bits);refine hKo _ _ fun fa45 fh45 => ?_;clear hKo Ko fh44 fa44;refine Kn.step fh45 rfl rfl (.some rfl rfl rfl) (Kn.ex_bin fh45 (.tmp rfl) (.tmp rfl)) fun Ko hKo => ?_;go_simp;(try go_bits);refine hKo _ _ fun fa46 fh46 => ?_;clear hKo Ko fh45 fa45;refine Kn.pure fh46 rfl rfl (.some rfl rfl rfl) (Kn.ex_pick fh46 (.tmp rfl) (.tmp rfl)) fun fa47 fh47 => ?_;clear fh46 fa46;refine Kn.pure fh47 rfl rfl .none (Kn.ex_pick fh47 (.tmp rfl) (.tmp rfl)) fun fa48 fh48 => ?_;clear fh47 fa47;refine wpList_nil ?_;refine hK17 _ _ ?_;clear hK17 K17;replace fh48 := fh48.cut (.cons (t := 56) rfl (.cons (t := 13) rfl (.cons (t := 12) rfl (.cons (t := 35) rfl (.cons (t := 34) rfl (.cons (t := 33) rfl (.cons (t := 11) rfl (.cons (t := 0) rfl (.cons (t := 1) rfl (.cons (t := 2) rfl .nil))))))))));refine Kn.no fh48 (.tmp rfl) ?_;refine wp_skip ?_;refine hK16 _ _ ?_;clear hK16 K16;replace fh48 := fh48.cut (.cons (t := 13) rfl (.cons (t := 12) rfl (.cons (t := 35) rfl (.cons (t := 34) rfl (.cons (t := 33) rfl (.cons (t := 11) rfl (.cons (t := 0) rfl (.cons (t := 1) rfl (.cons (t := 2) rfl .nil)))))))));clear hn;refine wp_seq_k fun K18 hK18 => ?_;refine wp_region_lit ?_;refine Kn.pure fh48 rfl rfl .none (Kn.ex_move fh48 (.tmp rfl)) fun fa49 fh49 => ?_;clear fh48 fa48;refine Kn.pure fh49 rfl rfl .none (Kn.ex_move fh49 (.tmp rfl)) fun fa50 fh50 => ?_;clear fh49 fa49;refine Kn.pure fh50 rfl rfl .none (Kn.ex_move fh50 (.tmp rfl)) fun fa51 fh51 => ?_;clear fh50 fa50;refine Kn.known fh51 rfl rfl .none (Kn.ex_sliceH fh51 (.tmp rfl) (.tmp rfl)) hsl fun fa52 fh52 => ?_;clear fh51 fa51;refine Kn.pure fh52 rfl rfl .none (Kn.ex_move fh52 (.tmp rfl)) fun fa53 fh53 => ?_;clear fh52 fa52;refine Kn.call fh53 rfl rfl .none (Kn.ex_call fh53 (.cons (.tmp rfl) (.cons (.tmp rfl) (.cons (.tmp rfl) .nil)))) Tryz.call109 (hst) fun e u1 hp => ?_;obtain ⟨rfl, hb1⟩ := hp;refine ⟨_, rfl, fun fa54 fh54 => ?_⟩;clear fh53 fa53;refine Kn.pure fh54 rfl rfl .none (Kn.ex_move fh54 (.tmp rfl)) fun fa55 fh55 => ?_;clear fh54 fa54;refine Kn.pure fh55 rfl rfl .none (Kn.ex_extract fh55 (.tmp rfl) rfl) fun fa56 fh56 => ?_;clear fh55 fa55;refine Kn.pure fh56 rfl rfl .none (Kn.ex_extract fh56 (.tmp rfl) rfl) fun fa57 fh57 => ?_;clear fh56 fa56;refine Kn.pure fh57 rfl rfl .none (Kn.ex_assign fh57 (.tmp rfl)) fun fa58 fh58 => ?_;clear fh57 fa57;refine Kn.pure fh58 rfl rfl .none (Kn.ex_assign fh58 (.tmp rfl)) fun fa59 fh59 => ?_;clear fh58 fa58;refine wpList_nil ?_;refine hK18 _ _ ?_;clear hK18 K18;replace fh59 := fh59.cut (.cons (t := 15) rfl (.cons (t := 14) rfl (.cons (t := 35) rfl (.cons (t := 34) rfl (.cons (t := 33) rfl (.cons (t := 11) rfl (.cons (t := 0) rfl (.cons (t := 1) rfl (.cons (t := 2) rfl .nil)))))))));clear hst hsl ca1;refine wp_seq_k fun K19 hK19 => ?_;refine wp_seq_k fun K20 hK20 => ?_;refine wp_region_lit ?_;refine Kn.pure fh59 rfl rfl .none (Kn.ex_move fh59 (.tmp rfl)) fun fa60 fh60 => ?_;clear fh59 fa59;refine Kn.step fh60 rfl rfl .none (Kn.ex_bin fh60 (.tmp rfl) .const) fun Ko hKo => ?_;go_simp;(try go_bits);refine hKo _ _ fun fa61 fh61 => ?_;clear hKo Ko fh60 fa60;refine wpList_nil ?_;refine hK20 _ _ ?_;clear hK20 K20;replace fh61 := fh61.cut (.cons (t := 70) rfl (.cons (t := 15) rfl (.cons (t := 14) rfl (.cons (t := 35) rfl (.cons (t := 34) rfl (.cons (t := 33) rfl (.cons (t := 11) rfl (.cons (t := 0) rfl (.cons (t := 1) rfl (.cons (t := 2) rfl .nil))))))))));refine Kn.no fh61 (.tmp rfl) ?_;refine wp_skip ?_;refine hK19 _ _ ?_;clear hK19 K19;replace fh61 := fh61.cut (.cons (t := 14) rfl (.cons (t := 35) rfl (.cons (t := 34) rfl (.cons (t := 33) rfl (.cons (t := 11) rfl (.cons (t := 0) rfl (.cons (t := 1) rfl (.cons (t := 2) rfl .nil))))))));obtain ⟨bv2, u2, hrun, hO2, hB2⟩ := (HO.out.on hb1).push (HB.out.trans (hb1.mono HB.out.size)) S 93 (by have := HLn.out; omega);have HO2 : Hid (OwnX u2 w.heap.size bv2 (putF v l (k + 1))) := Lib.hid (by rw [HP.out]; exact hO2);have HB2 := Lib.hid hB2;have HL2 : Hid ((putF v l (k + 1)).length ≤ 9 + 9 * (k + 1)) := Lib.hid (by have := HLn.out; have e : S.data.toList.length = S.size := rfl; rw [HP.out, List.length_append, e]; omega);clear hO2 hB2 hb1;refine wp_region_lit ?_;refine Kn.pure fh61 rfl rfl .none (Kn.ex_move fh61 (.tmp rfl)) fun fa62 fh62 => ?_;clear fh61 fa61;refine Kn.pure fh62 rfl rfl .none (Kn.ex_move fh62 (.tmp rfl)) fun fa63 fh63 => ?_;clear fh62 fa62;refine Kn.known fh63 rfl rfl .none (Kn.ex_append fh63 (.cons (.tmp rfl) (.cons (.tmp rfl) .nil))) hrun fun fa64 fh64 => ?_;clear fh63 fa63;refine Kn.pure fh64 rfl rfl .none (Kn.ex_assign fh64 (.tmp rfl)) fun fa65 fh65 => ?_;clear fh64 fa64;refine wpList_nil ?_;refine Kn.block_normal ?_;refine hK14 _ _ ?_;clear hK14 K14;replace fh65 := fh65.cut (.cons (t := 11) rfl (.cons (t := 35) rfl (.cons (t := 34) rfl (.cons (t := 33) rfl (.cons (t := 0) rfl (.cons (t := 1) rfl (.cons (t := 2) rfl .nil)))))));clear hrun;refine wp_region_lit ?_;refine Kn.step fh65 rfl rfl .none (Kn.ex_bin fh65 (.tmp rfl) .const) fun Ko hKo => ?_;go_simp;(try go_bits);refine hKo _ _ fun fa66 fh66 => ?_;clear hKo Ko fh65 fa65;refine Kn.pure fh66 rfl rfl .none (Kn.ex_move fh66 (.tmp rfl)) fun fa67 fh67 => ?_;clear fh66 fa66;refine wpList_nil ?_;replace fh67 := fh67.cut (.cons (t := 35) rfl (.cons (t := 11) rfl (.cons (t := 34) rfl (.cons (t := 33) rfl (.cons (t := 0) rfl (.cons (t := 1) rfl (.cons (t := 2) rfl .nil)))))));exact hKl11 (m11 - 1) _ _ (by omega) ⟨k + 1, bv2, fh67.cut (.turn (t := 35) rfl (by go_num) (.cons (t := 34) rfl (.cons (t := 33) rfl (.cons (t := 11) rfl (.cons (t := 0) rfl (.cons (t := 1) rfl (.cons (t := 2) rfl .nil))))))), by omega, hkf2, HL2, HO2, HB2⟩
  obtain rfl : k = l.length := by omega
  have hcv := HO.out.text;refine wp_seq_k fun K12 hK12 => ?_;refine wp_region_lit ?_;refine Kn.step fh25 rfl rfl .none (Kn.ex_bin fh25 (.tmp rfl) (.tmp rfl)) fun Ko hKo => ?_;go_simp;(try go_bits);refine hKo _ _ fun fa26 fh26 => ?_;clear hKo Ko fh25 fa25;refine wpList_nil ?_;refine hK12 _ _ ?_;clear hK12 K12;refine wp_seq_k fun K13 hK13 => ?_;refine Kn.no fh26 (.tmp rfl) ?_;replace fh26 := fh26.cut (.cons (t := 35) rfl (.cons (t := 34) rfl (.cons (t := 33) rfl (.cons (t := 11) rfl (.cons (t := 0) rfl (.cons (t := 1) rfl (.cons (t := 2) rfl .nil)))))));refine wp_exit ?_;refine Kn.then_exit ?_;clear hK13 K13;refine Kn.then_exit ?_;clear hKl11 Kl11;refine Kn.block_exit ?_;refine hK9 _ _ ?_;clear hK9 K9;replace fh26 := fh26.cut (.cons (t := 11) rfl .nil);refine wp_seq_k fun K14 hK14 => ?_;refine wp_region_lit ?_;refine Kn.pure fh26 rfl rfl .none (Kn.ex_move fh26 (.tmp rfl)) fun fa27 fh27 => ?_;clear fh26 fa26;refine Kn.known fh27 rfl rfl .none (Kn.ex_convert fh27 (.tmp rfl)) hcv fun fa28 fh28 => ?_;clear fh27 fa27;refine Kn.pure fh28 rfl rfl .none (Kn.ex_assign fh28 (.tmp rfl)) fun fa29 fh29 => ?_;clear fh28 fa28;refine Kn.pure fh29 rfl rfl .none (Kn.ex_assign fh29 .const) fun fa30 fh30 => ?_;clear fh29 fa29;refine wpList_nil ?_;refine hK14 _ _ ?_;clear hK14 K14;replace fh30 := fh30.cut (.cons (t := 7) rfl (.cons (t := 6) rfl .nil));refine wp_ret ?_;exact Kn.ret2 fh30 rfl rfl rfl ⟨by rw [if_neg (by omega)]; rfl, HB.out⟩
theorem gPut_good (N v : Int) (A : Option Addr) (ca : Nat) (l : List Int) (w : World) (hN : N ≤ 4096) (hv0 : 0 ≤ v) (hv1 : v < N) (hca : l.length ≤ ca) (hca2 : ca ≤ 9223372036854775807) (hA : IIn w A l) (hg : GoodT N l) :
    Calls Tryz.prog 83 #[.int .i64 N, .int .i64 v, .slice A l.length ca] w fun e w' => e = .returned (.tuple #[.string (bs (putF v l l.length)), .nilIface]) ∧ Below w.heap.size w w' := by
  have hl := hg.len (by omega);have h := gPut_any N v A ca l.length l w hN hv0 hv1 (by omega) hca hca2 hA (fun i hi => goodT_iff.1 hg i hi) (fun h => absurd h (by omega));rw [if_neg (by omega)] at h;exact h
end Go.Proofs.YtbahklpdldghbaaGreatDoor.Gap
end
section
namespace Go.Proofs.YtbahklpdldghbaaGreatDoor.Shd
open Go Go.RowKit Go.Lib Oct Num Gap
def op1 (s : ByteArray) (N a p : Int) : (Int × Int) ⊕ (Int × Nat × List (Int × Int) × Int) :=
  if (rdG s p).2.2.1 = 0 then (if (rdG s p).1 < 1 ∨ N < a + (rdG s p).1 then .inl (4, p) else match mkF s (marksN (rdG s p).1.toNat) (rdG s p).2.1 with
    | .inl e => .inl e
    | .inr (ms, b) => .inr (a, (rdG s p).1.toNat, ms, b)) else .inl ((rdG s p).2.2.1, (rdG s p).2.2.2)
def opG (s : ByteArray) (N : Int) : (Int × Int) ⊕ (Int × Nat × List (Int × Int) × Int) :=
  if (rdG s 0).2.2.1 = 0 then op1 s N (rdG s 0).1 (rdG s 0).2.1 else .inl ((rdG s 0).2.2.1, (rdG s 0).2.2.2)
theorem gsG_op (s : ByteArray) (N : Int) : gsG s N = (match opG s N with
    | .inl e => .inl e
    | .inr (a, n, ms, b) => gs3 s N a n b ms) := by
  unfold gsG opG
  by_cases h0 : (rdG s 0).2.2.1 = 0
  · rw [if_pos h0, if_pos h0];unfold gs1 op1
    by_cases h1 : (rdG s (rdG s 0).2.1).2.2.1 = 0
    · rw [if_pos h1, if_pos h1]
      by_cases h2 : (rdG s (rdG s 0).2.1).1 < 1 ∨ N < (rdG s 0).1 + (rdG s (rdG s 0).2.1).1
      · rw [if_pos h2, if_pos h2]
      · rw [if_neg h2, if_neg h2];unfold gs2
        cases mkF s (marksN (rdG s (rdG s 0).2.1).1.toNat) (rdG s (rdG s 0).2.1).2.1 with
        | inl e => rfl
        | inr x => obtain ⟨ms, b⟩ := x; rfl
    · rw [if_neg h1, if_neg h1]
  · rw [if_neg h0, if_neg h0]
theorem mkF_err {s : ByteArray} : ∀ (k : Nat) (p x a : Int), mkF s k p = .inl (x, a) → x ≠ 0
  | 0, p, x, a, h => by rw [mkF] at h; cases h
  | k + 1, p, x, a, h => by
    rw [mkF] at h
    by_cases he : (rdG s p).2.2.1 = 0
    · rw [if_pos he] at h
      cases hr : mkF s k (rdG s p).2.1 with
      | inl z =>
        rw [hr] at h;simp only at h;injection h with h
        subst h;exact mkF_err k _ x a hr
      | inr z => obtain ⟨l, q⟩ := z; rw [hr] at h; cases h
    · rw [if_neg he] at h;injection h with h
      injection h with h1 _
      rw [← h1];exact he
theorem opG_err {s : ByteArray} {N x a : Int} (h : opG s N = .inl (x, a)) : x ≠ 0 := by
  unfold opG at h
  by_cases h0 : (rdG s 0).2.2.1 = 0
  · rw [if_pos h0] at h;unfold op1 at h
    by_cases h1 : (rdG s (rdG s 0).2.1).2.2.1 = 0
    · rw [if_pos h1] at h
      by_cases h2 : (rdG s (rdG s 0).2.1).1 < 1 ∨ N < (rdG s 0).1 + (rdG s (rdG s 0).2.1).1
      · rw [if_pos h2] at h;injection h with h
        injection h with h3 _
        omega
      · rw [if_neg h2] at h
        cases hr : mkF s (marksN (rdG s (rdG s 0).2.1).1.toNat) (rdG s (rdG s 0).2.1).2.1 with
        | inl e =>
          rw [hr] at h;simp only at h;injection h with h
          subst h;exact mkF_err _ _ _ _ hr
        | inr y => obtain ⟨ms, b⟩ := y; rw [hr] at h; cases h
    · rw [if_neg h1] at h;injection h with h
      injection h with h3 _
      rw [← h3]; exact h1
  · rw [if_neg h0] at h;injection h with h
    injection h with h3 _
    rw [← h3]; exact h0
theorem mkF_len {s : ByteArray} : ∀ (k : Nat) (p : Int) (ms : List (Int × Int)) (q : Int), mkF s k p = .inr (ms, q) → ms.length = k
  | 0, p, ms, q, h => by
    rw [mkF] at h;injection h with h
    injection h with h _
    rw [← h]; rfl
  | k + 1, p, ms, q, h => by
    rw [mkF] at h
    by_cases he : (rdG s p).2.2.1 = 0
    · rw [if_pos he] at h
      cases hr : mkF s k (rdG s p).2.1 with
      | inl z => rw [hr] at h; cases h
      | inr z =>
        obtain ⟨l, q2⟩ := z;rw [hr] at h;simp only at h;injection h with h
        injection h with h _
        rw [← h, List.length_cons, mkF_len k _ l q2 hr]
    · rw [if_neg he] at h; cases h
theorem mkF_nums {s : ByteArray} : ∀ (k : Nat) (p : Int) (ms : List (Int × Int)) (q : Int), mkF s k p = .inr (ms, q) → ∀ x ∈ ms, (0 ≤ x.1 ∧ x.1 ≤ 72057594037927935) ∧ 0 ≤ x.2 ∧ x.2 ≤ s.size
  | 0, p, ms, q, h, x, hx => by
    rw [mkF] at h;injection h with h
    injection h with h _
    rw [← h] at hx;cases hx
  | k + 1, p, ms, q, h, x, hx => by
    rw [mkF] at h
    by_cases he : (rdG s p).2.2.1 = 0
    · rw [if_pos he] at h
      cases hr : mkF s k (rdG s p).2.1 with
      | inl z => rw [hr] at h; cases h
      | inr z =>
        obtain ⟨l, q2⟩ := z;rw [hr] at h;simp only at h;injection h with h
        injection h with h _
        rw [← h] at hx;rcases List.mem_cons.1 hx with e | e
        · rcases hg : rdG s p with ⟨y, n2, e0, a⟩;rw [hg] at he e;simp only at he e;subst he;obtain ⟨h1, h2, h3, h4, -⟩ := rdG_ok hg;subst e;exact ⟨h1, h2, by omega⟩
        · exact mkF_nums k _ l q2 hr x e
    · rw [if_neg he] at h; cases h
theorem opG_ok {s : ByteArray} {N a b : Int} {n : Nat} {ms : List (Int × Int)} (h : opG s N = .inr (a, n, ms, b)) : 0 ≤ a ∧ 1 ≤ n ∧ a + (n : Int) ≤ N ∧ ms.length = marksN n ∧ 0 ≤ b ∧ b ≤ s.size ∧ ∀ x ∈ ms, (0 ≤ x.1 ∧ x.1 ≤ 72057594037927935) ∧ 0 ≤ x.2 ∧ x.2 ≤ s.size := by
  unfold opG at h
  by_cases h0 : (rdG s 0).2.2.1 = 0
  · rw [if_pos h0] at h;unfold op1 at h
    by_cases h1 : (rdG s (rdG s 0).2.1).2.2.1 = 0
    · rw [if_pos h1] at h
      by_cases h2 : (rdG s (rdG s 0).2.1).1 < 1 ∨ N < (rdG s 0).1 + (rdG s (rdG s 0).2.1).1
      · rw [if_pos h2] at h; cases h
      · rw [if_neg h2] at h;rcases hg : rdG s 0 with ⟨x0, n0, e0, a0⟩;rw [hg] at h h0 h1 h2;simp only at h h0 h1 h2;subst h0;rcases hg1 : rdG s n0 with ⟨x1, n1, e1, a1⟩;rw [hg1] at h h1 h2;simp only at h h1 h2;subst h1;obtain ⟨p1, -⟩ := rdG_ok hg;obtain ⟨q1, q2, q3, q4, -⟩ := rdG_ok hg1
        cases hr : mkF s (marksN x1.toNat) n1 with
        | inl e => rw [hr] at h; cases h
        | inr y =>
          obtain ⟨ms', b'⟩ := y;rw [hr] at h;simp only at h;injection h with h
          injection h with ha h
          injection h with hn h
          injection h with hm hb
          subst ha hn hm hb;obtain ⟨r1, r2⟩ := mkF_place (marksN x1.toNat) n1 ms' b' (by omega) q4 hr;exact ⟨p1.1, by omega, by omega, mkF_len _ _ _ _ hr, r1, r2, mkF_nums _ _ _ _ hr⟩
    · rw [if_neg h1] at h; cases h
  · rw [if_neg h0] at h; cases h
end Go.Proofs.YtbahklpdldghbaaGreatDoor.Shd
end
section
namespace Go.Proofs.YtbahklpdldghbaaGreatDoor.Edg
def lessB (a b : Int × Int) : Bool := decide (a.1 < b.1) || (decide (a.1 = b.1) && decide (a.2 < b.2))
theorem less_iff (a b : Int × Int) : lessB a b = true ↔ a.1 < b.1 ∨ a.1 = b.1 ∧ a.2 < b.2 := by simp [lessB]
theorem less_irr (a : Int × Int) : lessB a a = false := by
  cases h : lessB a a with
  | false => rfl
  | true => rw [less_iff] at h; omega
theorem less_trans {a b c : Int × Int} (h1 : lessB a b = true) (h2 : lessB b c = true) : lessB a c = true := by
  rw [less_iff] at *; omega
theorem less_eq {a b : Int × Int} (h1 : lessB a b = false) (h2 : lessB b a = false) : a = b := by
  have h1' : ¬ lessB a b = true := by simp [h1]
  have h2' : ¬ lessB b a = true := by simp [h2]
  rw [less_iff] at h1' h2';exact Prod.ext (by omega) (by omega)
theorem less_asym {a b : Int × Int} (h : lessB a b = true) : lessB b a = false := by
  cases h2 : lessB b a with
  | false => rfl
  | true => have := less_trans h h2; rw [less_irr] at this; cases this
def Srt (l : List (Int × Int)) : Prop := l.Pairwise (fun a b => lessB a b = true)
structure NormOf (xs ys : List (Int × Int)) : Prop where
  srt : Srt ys
  mem : ∀ e, e ∈ ys ↔ e ∈ xs
theorem srt_unique : ∀ {l m : List (Int × Int)}, Srt l → Srt m → (∀ e, e ∈ l ↔ e ∈ m) → l = m
  | [], [], _, _, _ => rfl
  | [], b :: m, _, _, h => by have := (h b).2 List.mem_cons_self; cases this
  | a :: l, [], _, _, h => by have := (h a).1 List.mem_cons_self; cases this
  | a :: l, b :: m, hl, hm, h => by
    obtain ⟨hl1, hl2⟩ := List.pairwise_cons.1 hl;obtain ⟨hm1, hm2⟩ := List.pairwise_cons.1 hm
    have hab : a = b := by
      rcases List.mem_cons.1 ((h a).1 List.mem_cons_self) with e | e
      · exact e
      · rcases List.mem_cons.1 ((h b).2 List.mem_cons_self) with e2 | e2
        · exact e2.symm
        · have h1 := hm1 a e;have h2 := hl1 b e2;rw [less_asym h1] at h2;cases h2
    subst hab
    congr 1
    refine srt_unique hl2 hm2 fun e => ⟨fun he => ?_, fun he => ?_⟩
    · rcases List.mem_cons.1 ((h e).1 (List.mem_cons_of_mem _ he)) with rfl | h'
      · have := hl1 e he; rw [less_irr] at this; cases this
      · exact h'
    · rcases List.mem_cons.1 ((h e).2 (List.mem_cons_of_mem _ he)) with rfl | h'
      · have := hm1 e he; rw [less_irr] at this; cases this
      · exact h'
theorem NormOf.unique {xs ys zs : List (Int × Int)} (h1 : NormOf xs ys) (h2 : NormOf xs zs) : ys = zs := srt_unique h1.srt h2.srt fun e => (h1.mem e).trans (h2.mem e).symm
end Go.Proofs.YtbahklpdldghbaaGreatDoor.Edg
end
section
namespace Go.Proofs.YtbahklpdldghbaaGreatDoor.Edg
open Go Go.RowKit Go.Lib
def ed (l : List (Int × Int)) (i : Nat) : Int × Int := l.getD i (0, 0)
theorem ed_at (l : List (Int × Int)) (i : Nat) (h : i < l.length) : ed l i = l[i] := by simp [ed, List.getD, List.getElem?_eq_getElem h]
theorem take_ed (l : List (Int × Int)) (k : Nat) (h : k < l.length) : l.take (k + 1) = l.take k ++ [ed l k] := by rw [List.take_succ_eq_append_getElem h, ed_at l k h]
def eV (e : Int × Int) : Value := .agg #[.int .i64 e.1, .int .i64 e.2]
def eC : List (Int × Int) → List Value
  | [] => []
  | e :: l => .int .i64 e.1 :: .int .i64 e.2 :: eC l
theorem eC_len (l : List (Int × Int)) : (eC l).length = l.length * 2 := by
  induction l with
  | nil => rfl
  | cons e l ih => simp [eC, ih]; omega
theorem eC_app (l m : List (Int × Int)) : eC (l ++ m) = eC l ++ eC m := by
  induction l with
  | nil => rfl
  | cons e l ih => simp [eC, ih]
theorem eC_one (l : List (Int × Int)) : ∀ u ∈ eC l, u.oneCell' = true := by
  induction l with
  | nil => intro u hu; cases hu
  | cons e l ih =>
    intro u hu;rcases List.mem_cons.1 hu with rfl | hu
    · rfl
    · rcases List.mem_cons.1 hu with rfl | hu
      · rfl
      · exact ih u hu
theorem eC_at (l : List (Int × Int)) (i : Nat) (h : i < l.length) : (eC l)[i * 2]? = some (.int .i64 (ed l i).1) ∧ (eC l)[i * 2 + 1]? = some (.int .i64 (ed l i).2) := by
  induction l generalizing i with
  | nil => simp at h
  | cons e l ih =>
    cases i with
    | zero => exact ⟨rfl, rfl⟩
    | succ i =>
      have := ih i (by simpa using h);rw [show (i + 1) * 2 = i * 2 + 2 by omega, show i * 2 + 2 + 1 = (i * 2 + 1) + 2 by omega]
      simpa [eC, ed] using this
def EIn (w : World) (A : Option Addr) (l : List (Int × Int)) : Prop := ∀ i, i < l.length → ∃ b o, A = some ⟨b, o, none⟩ ∧ b < w.heap.size ∧ w.cell? ⟨b, o + i * 2, none⟩ = some (.int .i64 (ed l i).1) ∧ w.cell? ⟨b, o + i * 2 + 1, none⟩ = some (.int .i64 (ed l i).2)
theorem EIn.on {w w' : World} {A : Option Addr} {l : List (Int × Int)} (h : EIn w A l) (hb : Below w.heap.size w w') : EIn w' A l := fun i hi => by
  obtain ⟨b, o, e, hlt, h1, h2⟩ := h i hi;exact ⟨b, o, e, Nat.lt_of_lt_of_le hlt hb.size, (hb.cell (p := ⟨b, o + i * 2, none⟩) hlt).trans h1, (hb.cell (p := ⟨b, o + i * 2 + 1, none⟩) hlt).trans h2⟩
theorem EIn.below {w w' : World} {B : Nat} {A : Option Addr} {l : List (Int × Int)} (h : EIn w A l) (hb : Below B w w') (hB : w.heap.size ≤ B) : EIn w' A l := h.on (hb.mono hB)
theorem EIn.drew {w : World} {A : Option Addr} {l : List (Int × Int)} (h : EIn w A l) : EIn w.drew A l := h
theorem EIn.drewN {w : World} {A : Option Addr} {l : List (Int × Int)} (h : EIn w A l) (n : Nat) : EIn (w.drewN n) A l := h
theorem EIn.nil (w : World) (A : Option Addr) : EIn w A [] := fun i hi => absurd hi (by simp)
theorem EIn.cells {w : World} {b o : Nat} {l : List (Int × Int)} (h : EIn w (some ⟨b, o, none⟩) l) {i : Nat} (hi : i < l.length) : w.cell? ⟨b, o + i * 2, none⟩ = some (.int .i64 (ed l i).1) ∧ w.cell? ⟨b, o + i * 2 + 1, none⟩ = some (.int .i64 (ed l i).2) := by
  obtain ⟨b', o', e, _, h1, h2⟩ := h i hi;cases e;exact ⟨h1, h2⟩
theorem addr_add (b o j : Nat) : (⟨b, o, none⟩ : Addr).add j = ⟨b, o + j, none⟩ := by unfold Addr.add; split <;> simp_all
theorem EIn.news {w : World} {b o : Nat} {l : List (Int × Int)} (h : EIn w (some ⟨b, o, none⟩) l) : ∀ j u, (eC l)[j]? = some u → w.cell? ((⟨b, o, none⟩ : Addr).add j) = some u := fun j u hu => by
  have hj : j < (eC l).length := by
    rcases Nat.lt_or_ge j (eC l).length with h' | h'
    · exact h'
    · rw [List.getElem?_eq_none h'] at hu; cases hu
  rw [eC_len] at hj;rw [addr_add];have hi : j / 2 < l.length := by omega
  have h1 := h.cells hi;have h2 := eC_at l (j / 2) hi;rcases Nat.mod_two_eq_zero_or_one j with hm | hm
  · have e : j / 2 * 2 = j := by omega
    rw [e] at h1 h2;rw [h2.1] at hu;rw [h1.1, ← hu]
  · have e : j / 2 * 2 + 1 = j := by omega
    rw [Nat.add_assoc, e] at h1;rw [e] at h2;rw [h2.2] at hu;rw [h1.2, ← hu]
def OwnE (w : World) (B : Nat) (A : Option Addr) (n cap : Nat) (l : List (Int × Int)) : Prop := n = l.length ∧ w.ownsRow B 134 2 (.slice A n cap) n (eC l)
theorem OwnE.ein {w : World} {B : Nat} {A : Option Addr} {n cap : Nat} {l : List (Int × Int)} (h : OwnE w B A n cap l) : EIn w A l := fun i hi => by
  obtain ⟨g, cap', e, hb, hlt⟩ := h.2.form (by rw [h.1]; omega);simp only [Value.slice.injEq] at e;obtain ⟨rfl, _, _⟩ := e;have hc := h.2.cells (g := g) rfl;have h1 := eC_at l i hi;have a1 := hc _ _ h1.1;have a2 := hc _ _ h1.2;rw [addr_add] at a1 a2;exact ⟨g, 0, rfl, hlt, a1, by rw [Nat.add_assoc]; exact a2⟩
theorem OwnE.ge {w : World} {B g n cap : Nat} {l : List (Int × Int)} (h : OwnE w B (some ⟨g, 0, none⟩) n cap l) : B ≤ g := (h.2.lt g rfl).1
theorem OwnE.lt {w : World} {B g n cap : Nat} {l : List (Int × Int)} (h : OwnE w B (some ⟨g, 0, none⟩) n cap l) : g < w.heap.size := (h.2.lt g rfl).2
theorem OwnE.alloc {w : World} {B n cap : Nat} {A : Option Addr} {l : List (Int × Int)} (h : OwnE w B A n cap l) (o : Obj) : OwnE (w.alloc o) B A n cap l := ⟨h.1, h.2.alloc o⟩
theorem OwnE.drew {w : World} {B n cap : Nat} {A : Option Addr} {l : List (Int × Int)} (h : OwnE w B A n cap l) : OwnE w.drew B A n cap l := h
theorem OwnE.on {w w' : World} {B n cap : Nat} {A : Option Addr} {l : List (Int × Int)} (h : OwnE w B A n cap l) (hb : Below w.heap.size w w') : OwnE w' B A n cap l := ⟨h.1, Own.row_on h.2 hb⟩
theorem OwnE.none (w : World) (B : Nat) : OwnE w B none 0 0 [] := ⟨rfl, World.ownsRow_nil _ _ _ _⟩
theorem OwnE.new (w : World) (B : Nat) (hB : B ≤ w.heap.size) : OwnE (w.alloc (.cells #[] 134)) B (some ⟨w.heap.size, 0, Option.none⟩) 0 0 [] := ⟨rfl, Own.new_row _ _ _ _ hB⟩
theorem OwnE.kept {v v' : World} {r : Option Nat} {g' B n cap : Nat} {A : Option Addr} {l : List (Int × Int)} (h : OwnE v B A n cap l) (hk : Own.Kept v v' r g') (hne : (Value.slice A n cap).ownBlock = Option.none ∨ (Value.slice A n cap).ownBlock ≠ r) : OwnE v' B A n cap l := ⟨h.1, hk.row h.2 hne⟩
theorem elemE : Own.Elem Tryz.prog 65 134 (.agg #[.int .i64 0, .int .i64 0]) 2 16 := ⟨Tryz.underlying65, by kernel_rfl, rfl, by decide⟩
theorem push1 (w0 v : World) (ty : TypeId) (A : Option Addr) (n cap : Nat) (l : List (Int × Int)) (e : Int × Int) (hO : OwnE v w0.heap.size A n cap l) (hb : Below w0.heap.size w0 v) (hn : n ≤ 100000) :
    ∃ g' cap' v', (Builtin.append_ #[65, 65] ty #[.slice A n cap, .slice (some ⟨v.heap.size, 0, none⟩) 1 1]).run Tryz.prog (v.alloc (.cells #[.int .i64 e.1, .int .i64 e.2] 134)) = .ok (.slice (some ⟨g', 0, none⟩) (n + 1) cap') v' ∧
      OwnE v' w0.heap.size (some ⟨g', 0, none⟩) (n + 1) cap' (l ++ [e]) ∧ Below w0.heap.size w0 v' ∧ Own.Kept (v.alloc (.cells #[.int .i64 e.1, .int .i64 e.2] 134)) v' (Value.slice A n cap).ownBlock g' := by
  obtain ⟨g', cap', v', h1, h2, h3, h4⟩ := Own.append elemE w0 (v.alloc (.cells #[.int .i64 e.1, .int .i64 e.2] 134)) ty A n cap 1 1 (eC l) (hO.2.alloc _) ⟨v.heap.size, 0, none⟩ [.int .i64 e.1, .int .i64 e.2] rfl (World.news_of_block (cs := #[.int .i64 e.1, .int .i64 e.2]) (heap_alloc_new v _)) (by simp [Value.oneCell']) (by omega) (by unfold maxLen; omega) (by omega) (hb.alloc hb.size _);exact ⟨g', cap', v', h1, ⟨by rw [List.length_append, ← hO.1]; rfl, by rw [eC_app]; exact h2⟩, h3, h4⟩
theorem pushM (w0 v : World) (ty : TypeId) (A : Option Addr) (n cap m c b o : Nat) (l src : List (Int × Int)) (hO : OwnE v w0.heap.size A n cap l) (hS : EIn v (some ⟨b, o, none⟩) src) (hm : m = src.length) (hp : 0 < n + m) (hb : Below w0.heap.size w0 v) (hn : n + m ≤ 100000) :
    ∃ g' cap' v', (Builtin.append_ #[65, 65] ty #[.slice A n cap, .slice (some ⟨b, o, none⟩) m c]).run Tryz.prog v = .ok (.slice (some ⟨g', 0, none⟩) (n + m) cap') v' ∧
      OwnE v' w0.heap.size (some ⟨g', 0, none⟩) (n + m) cap' (l ++ src) ∧ Below w0.heap.size w0 v' ∧ Own.Kept v v' (Value.slice A n cap).ownBlock g' := by
  obtain ⟨g', cap', v', h1, h2, h3, h4⟩ := Own.append elemE w0 v ty A n cap m c (eC l) hO.2 ⟨b, o, none⟩ (eC src) (by rw [eC_len, hm]) hS.news (eC_one _) hp (by unfold maxLen; omega) (by omega) hb;exact ⟨g', cap', v', h1, ⟨by rw [List.length_append, ← hO.1, hm], by rw [eC_app]; exact h2⟩, h3, h4⟩
end Go.Proofs.YtbahklpdldghbaaGreatDoor.Edg
end
section
namespace Go.Proofs.YtbahklpdldghbaaGreatDoor.Num
open Go Go.RowKit Go.Lib
def trg (xs : List (Int × Int)) (v : Int) : List Int := (xs.filter fun e => e.1 == v).map (·.2)
theorem trg_len (xs : List (Int × Int)) (v : Int) : (trg xs v).length ≤ xs.length := by unfold trg; rw [List.length_map]; exact List.length_filter_le _ _
def bgn (xs : List (Int × Int)) (v : Int) : Nat := xs.countP fun e => decide (e.1 < v)
theorem bgn_le (xs : List (Int × Int)) (v : Int) : bgn xs v ≤ xs.length := List.countP_le_length
end Go.Proofs.YtbahklpdldghbaaGreatDoor.Num
end
section
namespace Go.Proofs
open Go.Shelf
def Tryz.layCmp_ren : Go.Shelf.Ren := ⟨fun | 5 => 81 | 7 => 106 | n => n, fun | 22 => 3 | 3 => 3 | 4 => 4 | n => n, fun | n => n⟩
theorem Tryz.layCmp : Go.Proofs.SlLaysC2.n5 Tryz.prog Tryz.layCmp_ren := {
  mixed := by kernel_rfl
  f5 := ⟨Tryz.f81.name, by decide, Tryz.func81.trans (congrArg some (by kernel_rfl))⟩
  f7 := ⟨Tryz.f106.name, by decide, Tryz.func106.trans (congrArg some (by kernel_rfl))⟩
  t3 := Tryz.underlying3
  a3 := Tryz.isAgg3
  z3 := Tryz.sizeOf3
  v3 := Tryz.zeroValue3
  t4 := Tryz.underlying4
  a4 := Tryz.isAgg4
  z4 := Tryz.sizeOf4
  v4 := Tryz.zeroValue4
  t22 := Tryz.underlying3
  a22 := Tryz.isAgg3
  z22 := Tryz.sizeOf3
  v22 := Tryz.zeroValue3 }
def Tryz.laySort_ren : Go.Shelf.Ren := ⟨fun | 6 => 60 | 15 => 80 | 14 => 79 | 28 => 104 | 29 => 105 | 20 => 96 | 21 => 97 | 22 => 98 | 23 => 99 | 24 => 100 | 25 => 101 | 26 => 102 | 27 => 103 | 46 => 117 | 47 => 118 | 48 => 119 | 49 => 120 | 50 => 121 | 57 => 126 | n => n, fun | 22 => 65 | 24 => 134 | 25 => 136 | 3 => 3 | 39 => 164 | 0 => 0 | 53 => 177 | 55 => 194 | 4 => 4 | 46 => 186 | 45 => 185 | 50 => 190 | 5 => 5 | 9 => 9 | 66 => 203 | 70 => 77 | 76 => 211 | 77 => 212 | n => n, fun | n => n⟩
theorem Tryz.laySort : Go.Proofs.SlLaysF0.n6 Tryz.prog Tryz.laySort_ren := {
  mixed := by kernel_rfl
  f6 := ⟨Tryz.f60.name, by decide, Tryz.func60.trans (congrArg some (by kernel_rfl))⟩
  f14 := ⟨Tryz.f79.name, by decide, Tryz.func79.trans (congrArg some (by kernel_rfl))⟩
  f15 := Tryz.func80.trans (congrArg some (by kernel_rfl))
  f20 := ⟨Tryz.f96.name, by decide, Tryz.func96.trans (congrArg some (by kernel_rfl))⟩
  f21 := ⟨Tryz.f97.name, by decide, Tryz.func97.trans (congrArg some (by kernel_rfl))⟩
  f22 := ⟨Tryz.f98.name, by decide, Tryz.func98.trans (congrArg some (by kernel_rfl))⟩
  f23 := ⟨Tryz.f99.name, by decide, Tryz.func99.trans (congrArg some (by kernel_rfl))⟩
  f24 := ⟨Tryz.f100.name, by decide, Tryz.func100.trans (congrArg some (by kernel_rfl))⟩
  f25 := ⟨Tryz.f101.name, by decide, Tryz.func101.trans (congrArg some (by kernel_rfl))⟩
  f26 := ⟨Tryz.f102.name, by decide, Tryz.func102.trans (congrArg some (by kernel_rfl))⟩
  f27 := ⟨Tryz.f103.name, by decide, Tryz.func103.trans (congrArg some (by kernel_rfl))⟩
  f28 := Tryz.func104.trans (congrArg some (by kernel_rfl))
  f29 := Tryz.func105.trans (congrArg some (by kernel_rfl))
  f46 := ⟨Tryz.f117.name, by decide, Tryz.func117.trans (congrArg some (by kernel_rfl))⟩
  f47 := Tryz.func118.trans (congrArg some (by kernel_rfl))
  f48 := Tryz.func119.trans (congrArg some (by kernel_rfl))
  f49 := ⟨Tryz.f120.name, by decide, Tryz.func120.trans (congrArg some (by kernel_rfl))⟩
  f50 := ⟨Tryz.f121.name, by decide, Tryz.func121.trans (congrArg some (by kernel_rfl))⟩
  f57 := ⟨Tryz.f126.name, by decide, Tryz.func126.trans (congrArg some (by kernel_rfl))⟩
  t0 := Tryz.underlying0
  a0 := Tryz.isAgg0
  z0 := Tryz.sizeOf0
  v0 := Tryz.zeroValue0
  t3 := Tryz.underlying3
  a3 := Tryz.isAgg3
  z3 := Tryz.sizeOf3
  v3 := Tryz.zeroValue3
  t4 := Tryz.underlying4
  a4 := Tryz.isAgg4
  z4 := Tryz.sizeOf4
  v4 := Tryz.zeroValue4
  t5 := Tryz.underlying5
  a5 := Tryz.isAgg5
  z5 := Tryz.sizeOf5
  v5 := Tryz.zeroValue5
  t9 := Tryz.underlying9
  a9 := Tryz.isAgg9
  z9 := Tryz.sizeOf9
  v9 := Tryz.zeroValue9
  t22 := Tryz.underlying65
  a22 := Tryz.isAgg65
  z22 := Tryz.sizeOf65
  v22 := Tryz.zeroValue65
  t25 := Tryz.underlying136
  a25 := Tryz.isAgg136
  z25 := Tryz.sizeOf136
  v25 := Tryz.zeroValue136
  t39 := Tryz.underlying164
  a39 := Tryz.isAgg164
  z39 := Tryz.sizeOf164
  v39 := Tryz.zeroValue164
  t45 := Tryz.underlying185
  a45 := Tryz.isAgg185
  z45 := Tryz.sizeOf185
  v45 := Tryz.zeroValue185
  t46 := Tryz.underlying186
  a46 := Tryz.isAgg186
  z46 := Tryz.sizeOf186
  v46 := Tryz.zeroValue186
  t50 := Tryz.underlying190
  a50 := Tryz.isAgg190
  z50 := Tryz.sizeOf190
  v50 := Tryz.zeroValue190
  t53 := Tryz.underlying177
  a53 := Tryz.isAgg177
  z53 := Tryz.sizeOf177
  v53 := Tryz.zeroValue177
  t55 := Tryz.underlying194
  a55 := Tryz.isAgg194
  z55 := Tryz.sizeOf194
  v55 := Tryz.zeroValue194
  t66 := Tryz.underlying203
  a66 := Tryz.isAgg203
  z66 := Tryz.sizeOf203
  v66 := Tryz.zeroValue203
  t70 := Tryz.underlying77
  a70 := Tryz.isAgg77
  z70 := Tryz.sizeOf77
  v70 := Tryz.zeroValue77
  t76 := Tryz.underlying211
  a76 := Tryz.isAgg211
  z76 := Tryz.sizeOf211
  v76 := Tryz.zeroValue211
  t77 := Tryz.underlying212
  a77 := Tryz.isAgg212
  z77 := Tryz.sizeOf212
  v77 := Tryz.zeroValue212 }
def Tryz.layClone_ren : Go.Shelf.Ren := ⟨fun | 41 => 59 | n => n, fun | 22 => 65 | 23 => 134 | 4 => 4 | n => n, fun | n => n⟩
theorem Tryz.layClone : Go.Proofs.SlLaysE0.n41 Tryz.prog Tryz.layClone_ren := {
  mixed := by kernel_rfl
  f41 := ⟨Tryz.f59.name, by decide, Tryz.func59.trans (congrArg some (by kernel_rfl))⟩
  t4 := Tryz.underlying4
  a4 := Tryz.isAgg4
  z4 := Tryz.sizeOf4
  v4 := Tryz.zeroValue4
  t22 := Tryz.underlying65
  a22 := Tryz.isAgg65
  z22 := Tryz.sizeOf65
  v22 := Tryz.zeroValue65 }
def Tryz.layCloneI_ren : Go.Shelf.Ren := ⟨fun | 41 => 108 | n => n, fun | 22 => 58 | 23 => 3 | 4 => 4 | n => n, fun | n => n⟩
theorem Tryz.layCloneI : Go.Proofs.SlLaysN.n41 Tryz.prog Tryz.layCloneI_ren := {
  mixed := by kernel_rfl
  f41 := ⟨Tryz.f108.name, by decide, Tryz.func108.trans (congrArg some (by kernel_rfl))⟩
  t4 := Tryz.underlying4
  a4 := Tryz.isAgg4
  z4 := Tryz.sizeOf4
  v4 := Tryz.zeroValue4
  t22 := Tryz.underlying58
  a22 := Tryz.isAgg58
  z22 := Tryz.sizeOf58
  v22 := Tryz.zeroValue58
  t23 := Tryz.underlying3
  a23 := Tryz.isAgg3
  z23 := Tryz.sizeOf3
  v23 := Tryz.zeroValue3
  i23 := by kernel_rfl }
end Go.Proofs
end
section
namespace Go.Proofs.YtbahklpdldghbaaGreatDoor.Edg
open Go Go.RowKit Go.Lib
def badB (n : Int) (e : Int × Int) : Bool := decide (e.1 < 0) || decide (e.2 < 0) || decide (n ≤ e.1) || decide (n ≤ e.2)
end Go.Proofs.YtbahklpdldghbaaGreatDoor.Edg
end
section
namespace Go.Proofs.YtbahklpdldghbaaGreatDoor.Edg
open Go Go.RowKit Go.Lib Go.Shelf Go.Sort
def cmpI (x y : Int × Int) : Int := if x.1 = y.1 then Lib.compareInt x.2 y.2 else Lib.compareInt x.1 y.1
theorem cmp_any (a b : Int) (w : World) : Calls Tryz.prog 81 #[.int .i64 a, .int .i64 b] w fun e w' => e = .returned (.int .i64 (Lib.compareInt a b)) ∧ w' = w := AnyG.cmp_Compare_int Tryz.layCmp a b w
set_option maxRecDepth 100000 in
set_option maxHeartbeats 2000000 in
theorem compare_a (a b c d : Int) (w : World) (h : (a != c) = true) :
    Calls Tryz.prog 61 #[.agg #[.int .i64 a, .int .i64 b], .agg #[.int .i64 c, .int .i64 d]] w fun e w' => e = .returned (.int .i64 (Lib.compareInt a c)) ∧ ∃ q os', w' = grow (w.drewN q) os' := by
  refine Kn.calls Tryz.func61 rfl Tryz.ntmps61 rfl (.cons (t := 0) rfl (.cons (t := 1) rfl .nil)) fun fa0 fh0 => ?_;refine wp_seq_k fun K1 hK1 => ?_;refine wp_region_lit ?_;refine Kn.step fh0 rfl rfl .none (Kn.ex_box fh0 (.tmp rfl)) fun Ko hKo => ?_;go_simp;(try go_bits);refine hKo _ _ fun fa1 fh1 => ?_;clear hKo Ko fh0 fa0;refine Kn.step fh1 rfl rfl .none (Kn.ex_box fh1 (.tmp rfl)) fun Ko hKo => ?_;go_simp;(try go_bits);refine hKo _ _ fun fa2 fh2 => ?_;clear hKo Ko fh1 fa1;refine Kn.pure fh2 rfl rfl .none (Kn.ex_assign fh2 .const) fun fa3 fh3 => ?_;clear fh2 fa2;refine wpList_nil ?_;refine hK1 _ _ ?_;clear hK1 K1;replace fh3 := fh3.cut (.cons (t := 4) rfl (.cons (t := 3) rfl (.cons (t := 2) rfl .nil)));refine wp_seq_k fun K2 hK2 => ?_;refine wp_seq_k fun K3 hK3 => ?_;refine wp_region_lit ?_;refine Kn.step fh3 rfl rfl .none (Kn.ex_fieldAddr fh3 (.tmp rfl)) fun Ko hKo => ?_;go_simp;(try go_bits);refine hKo _ _ fun fa4 fh4 => ?_;clear hKo Ko fh3 fa3;refine Kn.step fh4 rfl rfl .none (Kn.ex_load fh4 (.tmp rfl)) fun Ko hKo => ?_;go_simp;(try go_bits);refine hKo _ _ fun fa5 fh5 => ?_;clear hKo Ko fh4 fa4;refine Kn.step fh5 rfl rfl .none (Kn.ex_fieldAddr fh5 (.tmp rfl)) fun Ko hKo => ?_;go_simp;(try go_bits);refine hKo _ _ fun fa6 fh6 => ?_;clear hKo Ko fh5 fa5;refine Kn.step fh6 rfl rfl .none (Kn.ex_load fh6 (.tmp rfl)) fun Ko hKo => ?_;go_simp;(try go_bits);refine hKo _ _ fun fa7 fh7 => ?_;clear hKo Ko fh6 fa6;refine Kn.step fh7 rfl rfl .none (Kn.ex_bin fh7 (.tmp rfl) (.tmp rfl)) fun Ko hKo => ?_;go_simp;(try go_bits);refine hKo _ _ fun fa8 fh8 => ?_;clear hKo Ko fh7 fa7;refine wpList_nil ?_;refine hK3 _ _ ?_;clear hK3 K3;replace fh8 := fh8.cut (.cons (t := 9) rfl (.cons (t := 4) rfl (.cons (t := 3) rfl (.cons (t := 2) rfl .nil))));refine Kn.yes fh8 (.tmp rfl) ?_;replace fh8 := fh8.cut (.cons (t := 4) rfl (.cons (t := 3) rfl (.cons (t := 2) rfl .nil)));refine wp_seq_k fun K4 hK4 => ?_;refine wp_region_lit ?_;refine Kn.step fh8 rfl rfl .none (Kn.ex_fieldAddr fh8 (.tmp rfl)) fun Ko hKo => ?_;go_simp;(try go_bits);refine hKo _ _ fun fa9 fh9 => ?_;clear hKo Ko fh8 fa8;refine Kn.step fh9 rfl rfl .none (Kn.ex_load fh9 (.tmp rfl)) fun Ko hKo => ?_;go_simp;(try go_bits);refine hKo _ _ fun fa10 fh10 => ?_;clear hKo Ko fh9 fa9;refine Kn.step fh10 rfl rfl .none (Kn.ex_fieldAddr fh10 (.tmp rfl)) fun Ko hKo => ?_;go_simp;(try go_bits);refine hKo _ _ fun fa11 fh11 => ?_;clear hKo Ko fh10 fa10;refine Kn.step fh11 rfl rfl .none (Kn.ex_load fh11 (.tmp rfl)) fun Ko hKo => ?_;go_simp;(try go_bits);refine hKo _ _ fun fa12 fh12 => ?_;clear hKo Ko fh11 fa11;refine Kn.call fh12 rfl rfl .none (Kn.ex_call fh12 (.cons (.tmp rfl) (.cons (.tmp rfl) .nil))) Tryz.call81 (cmp_any _ _ _) fun e w1 hp => ?_;obtain ⟨rfl, rfl⟩ := hp;refine ⟨_, rfl, fun fa13 fh13 => ?_⟩;clear fh12 fa12;refine Kn.pure fh13 rfl rfl .none (Kn.ex_assign fh13 (.tmp rfl)) fun fa14 fh14 => ?_;clear fh13 fa13;refine wpList_nil ?_;refine hK4 _ _ ?_;clear hK4 K4;replace fh14 := fh14.cut (.cons (t := 4) rfl (.cons (t := 3) rfl (.cons (t := 2) rfl .nil)));refine wp_ret ?_;refine Kn.then_ret ?_;exact Kn.ret1 fh14 rfl rfl ⟨rfl, 0, _, by rw [alloc_eq_grow, alloc_eq_grow, grow_grow]; rfl⟩
set_option maxRecDepth 100000 in
set_option maxHeartbeats 2000000 in
theorem compare_b (a b c d : Int) (w : World) (h : (a != c) = false) :
    Calls Tryz.prog 61 #[.agg #[.int .i64 a, .int .i64 b], .agg #[.int .i64 c, .int .i64 d]] w fun e w' => e = .returned (.int .i64 (Lib.compareInt b d)) ∧ ∃ q os', w' = grow (w.drewN q) os' := by
  refine Kn.calls Tryz.func61 rfl Tryz.ntmps61 rfl (.cons (t := 0) rfl (.cons (t := 1) rfl .nil)) fun fa0 fh0 => ?_;refine wp_seq_k fun K1 hK1 => ?_;refine wp_region_lit ?_;refine Kn.step fh0 rfl rfl .none (Kn.ex_box fh0 (.tmp rfl)) fun Ko hKo => ?_;go_simp;(try go_bits);refine hKo _ _ fun fa1 fh1 => ?_;clear hKo Ko fh0 fa0;refine Kn.step fh1 rfl rfl .none (Kn.ex_box fh1 (.tmp rfl)) fun Ko hKo => ?_;go_simp;(try go_bits);refine hKo _ _ fun fa2 fh2 => ?_;clear hKo Ko fh1 fa1;refine Kn.pure fh2 rfl rfl .none (Kn.ex_assign fh2 .const) fun fa3 fh3 => ?_;clear fh2 fa2;refine wpList_nil ?_;refine hK1 _ _ ?_;clear hK1 K1;replace fh3 := fh3.cut (.cons (t := 4) rfl (.cons (t := 3) rfl (.cons (t := 2) rfl .nil)));refine wp_seq_k fun K2 hK2 => ?_;refine wp_seq_k fun K3 hK3 => ?_;refine wp_region_lit ?_;refine Kn.step fh3 rfl rfl .none (Kn.ex_fieldAddr fh3 (.tmp rfl)) fun Ko hKo => ?_;go_simp;(try go_bits);refine hKo _ _ fun fa4 fh4 => ?_;clear hKo Ko fh3 fa3;refine Kn.step fh4 rfl rfl .none (Kn.ex_load fh4 (.tmp rfl)) fun Ko hKo => ?_;go_simp;(try go_bits);refine hKo _ _ fun fa5 fh5 => ?_;clear hKo Ko fh4 fa4;refine Kn.step fh5 rfl rfl .none (Kn.ex_fieldAddr fh5 (.tmp rfl)) fun Ko hKo => ?_;go_simp;(try go_bits);refine hKo _ _ fun fa6 fh6 => ?_;clear hKo Ko fh5 fa5;refine Kn.step fh6 rfl rfl .none (Kn.ex_load fh6 (.tmp rfl)) fun Ko hKo => ?_;go_simp;(try go_bits);refine hKo _ _ fun fa7 fh7 => ?_;clear hKo Ko fh6 fa6;refine Kn.step fh7 rfl rfl .none (Kn.ex_bin fh7 (.tmp rfl) (.tmp rfl)) fun Ko hKo => ?_;go_simp;(try go_bits);refine hKo _ _ fun fa8 fh8 => ?_;clear hKo Ko fh7 fa7;refine wpList_nil ?_;refine hK3 _ _ ?_;clear hK3 K3;replace fh8 := fh8.cut (.cons (t := 9) rfl (.cons (t := 4) rfl (.cons (t := 3) rfl (.cons (t := 2) rfl .nil))));refine Kn.no fh8 (.tmp rfl) ?_;refine wp_skip ?_;refine hK2 _ _ ?_;clear hK2 K2;replace fh8 := fh8.cut (.cons (t := 4) rfl (.cons (t := 3) rfl (.cons (t := 2) rfl .nil)));refine wp_seq_k fun K4 hK4 => ?_;refine wp_region_lit ?_;refine Kn.step fh8 rfl rfl .none (Kn.ex_fieldAddr fh8 (.tmp rfl)) fun Ko hKo => ?_;go_simp;(try go_bits);refine hKo _ _ fun fa9 fh9 => ?_;clear hKo Ko fh8 fa8;refine Kn.step fh9 rfl rfl .none (Kn.ex_load fh9 (.tmp rfl)) fun Ko hKo => ?_;go_simp;(try go_bits);refine hKo _ _ fun fa10 fh10 => ?_;clear hKo Ko fh9 fa9;refine Kn.step fh10 rfl rfl .none (Kn.ex_fieldAddr fh10 (.tmp rfl)) fun Ko hKo => ?_;go_simp;(try go_bits);refine hKo _ _ fun fa11 fh11 => ?_;clear hKo Ko fh10 fa10;refine Kn.step fh11 rfl rfl .none (Kn.ex_load fh11 (.tmp rfl)) fun Ko hKo => ?_;go_simp;(try go_bits);refine hKo _ _ fun fa12 fh12 => ?_;clear hKo Ko fh11 fa11;refine Kn.call fh12 rfl rfl .none (Kn.ex_call fh12 (.cons (.tmp rfl) (.cons (.tmp rfl) .nil))) Tryz.call81 (cmp_any _ _ _) fun e w1 hp => ?_;obtain ⟨rfl, rfl⟩ := hp;refine ⟨_, rfl, fun fa13 fh13 => ?_⟩;clear fh12 fa12;refine Kn.pure fh13 rfl rfl .none (Kn.ex_assign fh13 (.tmp rfl)) fun fa14 fh14 => ?_;clear fh13 fa13;refine wpList_nil ?_;refine hK4 _ _ ?_;clear hK4 K4;replace fh14 := fh14.cut (.cons (t := 4) rfl .nil);refine wp_ret ?_;exact Kn.ret1 fh14 rfl rfl ⟨rfl, 0, _, by rw [alloc_eq_grow, alloc_eq_grow, grow_grow]; rfl⟩
theorem compare_any (x y : Int × Int) (w : World) : Calls Tryz.prog 61 #[.agg #[.int .i64 x.1, .int .i64 x.2], .agg #[.int .i64 y.1, .int .i64 y.2]] w fun e w' => e = .returned (.int .i64 (cmpI x y)) ∧ ∃ q os', w' = grow (w.drewN q) os' := by
  obtain ⟨a, b⟩ := x;obtain ⟨c, d⟩ := y
  by_cases h : a = c
  · rw [show cmpI (a, b) (c, d) = Lib.compareInt b d by simp [cmpI, h]]; exact compare_b a b c d w (by simp [h])
  · rw [show cmpI (a, b) (c, d) = Lib.compareInt a c by simp [cmpI, h]]; exact compare_a a b c d w (by simp [h])
def encE (x : Int × Int) : List Value := [.int .i64 x.1, .int .i64 x.2]
theorem cmpLays (blk off size : Nat) (w : World) : CmpLays Tryz.prog 61 #[] encE 2 cmpI blk off size w := fun _ _ _ _ x y => compare_any x y _
theorem ltOf_cmp (x y : Int × Int) : ltOf cmpI x y = lessB x y := by
  unfold ltOf cmpI Lib.compareInt lessB
  by_cases h : x.1 = y.1
  · by_cases h1 : x.2 < y.2
    · simp [h, h1]
    · by_cases h2 : y.2 < x.2 <;> simp [h, h1, h2]
  · by_cases h1 : x.1 < y.1
    · simp [h, h1]
    · by_cases h2 : y.1 < x.1 <;> simp [h, h1, h2]
theorem swo : SWO (ltOf cmpI) where
  irrefl x := by rw [ltOf_cmp]; exact less_irr x
  trans x y z h1 h2 := by rw [ltOf_cmp] at *; exact less_trans h1 h2
  ntrans x y z h1 h2 := by
    rw [ltOf_cmp] at *
    cases h : lessB x z with
    | false => rfl
    | true =>
      have a1 : ¬ lessB x y = true := by simp [h1]
      have a2 : ¬ lessB y z = true := by simp [h2]
      rw [less_iff] at h a1 a2;omega
noncomputable def eI : TypeInfo := (Tryz.prog.info? 134).get (by kernel_rfl)
set_option maxHeartbeats 2000000 in
set_option maxRecDepth 100000 in
theorem clone_zero (a : Addr) (c : Nat) (w : World) :
    Calls Tryz.prog 59 #[.slice (some a) 0 c] w fun e w' => ∃ A' n' c', e = .returned (.slice A' n' c') ∧ OwnE w' w.heap.size A' n' c' [] ∧ Below w.heap.size w w' := by
  have q22 : ∀ (w : World) (a : Option Addr) (n c n' c' : Nat), (binOp .eql 65 (.slice a n c) (.slice none n' c')).run Tryz.prog w = .ok (.bool a.isNone) w := fun w a n c n' c' => Lib.run_eql_slice_nil w _ _ a n c n' c' Tryz.underlying65
  go_enter Tryz.func59, Tryz.ntmps59
  go_wp2_with (at_builtin; refine wpList_append_own _ rfl _ _ 65 rfl w.heap.size 134 eI (.agg #[.int .i64 0, .int .i64 0]) 2 16 Tryz.underlying65 (by kernel_rfl) (by kernel_rfl) (by kernel_rfl) (by kernel_rfl) rfl (by decide) _ _ _ rfl (World.ownsRow_made w #[] 0 (Nat.le_refl _) (Nat.zero_le _) rfl) a 0 c [] rfl rfl (by intro j u hj; simp at hj) (by intro u hu; cases hu) (by unfold maxLen; omega) (by omega) (by simp) ?_)
  intro v' w1 hown hgrow hnil
  go_wp2
  go_ret
  have hown' : w1.ownsRow w.heap.size 134 2 v' 0 [] := by simpa using hown
  have hb : Below w.heap.size w w1 := ((Below.refl _ w).alloc (Nat.le_refl _) _).grown hgrow (by simp) (by intro k hk; simp [Value.ownBlock] at hk; omega);rcases hown'.2 with ⟨hv, _⟩ | ⟨g, cap, cur, hv, _⟩
  · subst hv; exact ⟨_, _, _, rfl, ⟨rfl, hown'⟩, hb⟩
  · subst hv; exact ⟨_, _, _, rfl, ⟨rfl, hown'⟩, hb⟩
theorem clone_any (A : Option Addr) (c : Nat) (xs : List (Int × Int)) (w : World) (hx : xs.length ≤ 20000) (hA : EIn w A xs) :
    Calls Tryz.prog 59 #[.slice A xs.length c] w fun e w' => ∃ A' n' c', e = .returned (.slice A' n' c') ∧ OwnE w' w.heap.size A' n' c' xs ∧ Below w.heap.size w w' := by
  cases A with
  | none =>
    have h0 : xs = [] := by
      cases xs with
      | nil => rfl
      | cons x xs => obtain ⟨b, o, e, _⟩ := hA 0 (by simp); cases e
    subst h0;exact (AnyE.slices_Clone_nil Tryz.layClone 0 c w).mono fun e w' ⟨he, hw⟩ => ⟨none, 0, 0, he, by subst hw; exact OwnE.none _ _, by subst hw; exact Below.refl _ _⟩
  | some a =>
    rcases Nat.eq_zero_or_pos xs.length with h0 | h0
    · obtain rfl : xs = [] := List.eq_nil_of_length_eq_zero h0;exact clone_zero a c w
    · obtain ⟨b, o, e, _⟩ := hA 0 h0;cases e;refine (AnyE.slices_Clone Tryz.layClone eI (.agg #[.int .i64 0, .int .i64 0]) 2 16 (by kernel_rfl) (by kernel_rfl) (by kernel_rfl) (by kernel_rfl) rfl (by decide) Tryz.sizeOf134 b o xs.length c (eC xs) w (eC_len xs) (by unfold maxLen; omega) (by omega) (fun j u hu => by have := hA.news j u hu; rwa [addr_add] at this) (eC_one xs)).mono fun e w' hp => ?_;obtain ⟨v', he, ho, _, hb⟩ := hp;obtain ⟨g, cap, hv, _, _⟩ := ho.form h0;subst hv;exact ⟨_, _, _, he, ⟨rfl, ho⟩, hb⟩
theorem eq_run (p q : Int × Int) (w : World) : (Op.equalIn 10000 134 (eV p) (eV q)).run Tryz.prog w = .ok (decide (p = q)) w := by
  have u3 := Tryz.underlying3;have a3 := Tryz.isAgg3;have z3 := Tryz.sizeOf3;have hS : Tryz.prog.underlying 134 = some (.struct (Tryz.prog.fieldsOf 134)) := by kernel_rfl
  have hp : Tryz.prog.stoodInHeld 134 = false := by kernel_rfl
  obtain ⟨a, b⟩ := p;obtain ⟨c, d⟩ := q;simp only [eV];rw [show (10000 : Nat) = 9999 + 1 from rfl, run_equalIn_agg w 9999 134 _ _ hS hp];simp only [Program.fieldsOf, Tryz.underlying134];go_simp
  by_cases h1 : a = c <;> by_cases h2 : b = d <;> simp [h1, h2]
theorem guardE (op : BinOp) (x y : Operand) (p q : Int × Int) (w : World) : (eqGuard op 134 x y (eV p) (eV q)).run Tryz.prog w = .ok () w := run_eqGuard_agg w op _ x y _ _ (by kernel_rfl)
theorem run_bind_ok {P : Program} {α β : Type} {s : Sem α} {f : α → Sem β} {w w' : World} {a : α} (h : s.run P w = .ok a w') : (s >>= f).run P w = (f a).run P w' := by rw [Sem.run_bind, h]; rfl
theorem eqlE (x y : Operand) (a b c d : Int) (w : World) : (do eqGuard .eql 134 x y (.agg #[.int .i64 a, .int .i64 b]) (.agg #[.int .i64 c, .int .i64 d]); binOp .eql 134 (.agg #[.int .i64 a, .int .i64 b]) (.agg #[.int .i64 c, .int .i64 d]) : Sem Value).run Tryz.prog w = .ok (.bool (decide ((a, b) = (c, d)))) w := by
  have h1 := guardE .eql x y (a, b) (c, d) w;have h2 := eq_run (a, b) (c, d) w;simp only [eV] at h1 h2;refine (run_bind_ok h1).trans ?_;rw [run_eql_struct, h2]
  rfl
theorem neqE (x y : Operand) (a b c d : Int) (w : World) : (do eqGuard .neq 134 x y (.agg #[.int .i64 a, .int .i64 b]) (.agg #[.int .i64 c, .int .i64 d]); binOp .neq 134 (.agg #[.int .i64 a, .int .i64 b]) (.agg #[.int .i64 c, .int .i64 d]) : Sem Value).run Tryz.prog w = .ok (.bool (!decide ((a, b) = (c, d)))) w := by
  have h1 := guardE .neq x y (a, b) (c, d) w;have h2 := eq_run (a, b) (c, d) w;simp only [eV] at h1 h2;refine (run_bind_ok h1).trans ?_;rw [run_neq_struct, h2]
  rfl
end Go.Proofs.YtbahklpdldghbaaGreatDoor.Edg
end
section
namespace Go.Proofs.YtbahklpdldghbaaGreatDoor.Edg
open Go Go.RowKit Go.Lib
set_option maxRecDepth 100000 in
set_option maxHeartbeats 2000000 in
theorem isNode_a (n v : Int) (w : World) (h : ¬ 0 ≤ v) :
    Calls Tryz.prog 78 #[.int .i64 n, .int .i64 v] w fun e w' => e = .returned (.bool false) ∧ w = w' := by
  refine Kn.calls Tryz.func78 rfl Tryz.ntmps78 rfl (.cons (t := 0) rfl (.cons (t := 1) rfl .nil)) fun fa0 fh0 => ?_;refine wp_seq_k fun K1 hK1 => ?_;refine wp_region_lit ?_;refine Kn.pure fh0 rfl rfl .none (Kn.ex_assign fh0 .const) fun fa1 fh1 => ?_;clear fh0 fa0;refine wpList_nil ?_;refine hK1 _ _ ?_;clear hK1 K1;refine wp_seq_k fun K2 hK2 => ?_;refine wp_region_lit ?_;refine Kn.pure fh1 rfl rfl .none (Kn.ex_move fh1 (.tmp rfl)) fun fa2 fh2 => ?_;clear fh1 fa1;refine Kn.step fh2 rfl rfl .none (Kn.ex_bin fh2 (.tmp rfl) .const) fun Ko hKo => ?_;go_simp;(try go_bits);refine hKo _ _ fun fa3 fh3 => ?_;clear hKo Ko fh2 fa2;refine Kn.pure fh3 rfl rfl .none (Kn.ex_move fh3 (.tmp rfl)) fun fa4 fh4 => ?_;clear fh3 fa3;refine Kn.skip fh4 rfl rfl (.some rfl rfl rfl) fun fa5 fh5 => ?_;clear fh4 fa4;refine Kn.skip fh5 rfl rfl (.some rfl rfl rfl) fun fa6 fh6 => ?_;clear fh5 fa5;refine Kn.skip fh6 rfl rfl (.some rfl rfl rfl) fun fa7 fh7 => ?_;clear fh6 fa6;refine Kn.pure fh7 rfl rfl .none (Kn.ex_pick fh7 (.tmp rfl) .const) fun fa8 fh8 => ?_;clear fh7 fa7;refine Kn.pure fh8 rfl rfl .none (Kn.ex_assign fh8 (.tmp rfl)) fun fa9 fh9 => ?_;clear fh8 fa8;refine wpList_nil ?_;refine hK2 _ _ ?_;clear hK2 K2;replace fh9 := fh9.cut (.cons (t := 4) rfl .nil);refine wp_ret ?_;exact Kn.ret1 fh9 rfl rfl ⟨rfl, rfl⟩
set_option maxRecDepth 100000 in
set_option maxHeartbeats 2000000 in
theorem isNode_b (n v : Int) (w : World) (h : 0 ≤ v) (h2 : ¬ v < n) :
    Calls Tryz.prog 78 #[.int .i64 n, .int .i64 v] w fun e w' => e = .returned (.bool false) ∧ w = w' := by
  refine Kn.calls Tryz.func78 rfl Tryz.ntmps78 rfl (.cons (t := 0) rfl (.cons (t := 1) rfl .nil)) fun fa0 fh0 => ?_;refine wp_seq_k fun K1 hK1 => ?_;refine wp_region_lit ?_;refine Kn.pure fh0 rfl rfl .none (Kn.ex_assign fh0 .const) fun fa1 fh1 => ?_;clear fh0 fa0;refine wpList_nil ?_;refine hK1 _ _ ?_;clear hK1 K1;refine wp_seq_k fun K2 hK2 => ?_;refine wp_region_lit ?_;refine Kn.pure fh1 rfl rfl .none (Kn.ex_move fh1 (.tmp rfl)) fun fa2 fh2 => ?_;clear fh1 fa1;refine Kn.step fh2 rfl rfl .none (Kn.ex_bin fh2 (.tmp rfl) .const) fun Ko hKo => ?_;go_simp;(try go_bits);refine hKo _ _ fun fa3 fh3 => ?_;clear hKo Ko fh2 fa2;refine Kn.pure fh3 rfl rfl .none (Kn.ex_move fh3 (.tmp rfl)) fun fa4 fh4 => ?_;clear fh3 fa3;refine Kn.pure fh4 rfl rfl (.some rfl rfl rfl) (Kn.ex_move fh4 (.tmp rfl)) fun fa5 fh5 => ?_;clear fh4 fa4;refine Kn.pure fh5 rfl rfl (.some rfl rfl rfl) (Kn.ex_move fh5 (.tmp rfl)) fun fa6 fh6 => ?_;clear fh5 fa5;refine Kn.step fh6 rfl rfl (.some rfl rfl rfl) (Kn.ex_bin fh6 (.tmp rfl) (.tmp rfl)) fun Ko hKo => ?_;go_simp;(try go_bits);refine hKo _ _ fun fa7 fh7 => ?_;clear hKo Ko fh6 fa6;refine Kn.pure fh7 rfl rfl .none (Kn.ex_pick fh7 (.tmp rfl) (.tmp rfl)) fun fa8 fh8 => ?_;clear fh7 fa7;refine Kn.pure fh8 rfl rfl .none (Kn.ex_assign fh8 (.tmp rfl)) fun fa9 fh9 => ?_;clear fh8 fa8;refine wpList_nil ?_;refine hK2 _ _ ?_;clear hK2 K2;replace fh9 := fh9.cut (.cons (t := 4) rfl .nil);refine wp_ret ?_;exact Kn.ret1 fh9 rfl rfl ⟨rfl, rfl⟩
set_option maxRecDepth 100000 in
set_option maxHeartbeats 2000000 in
theorem isNode_c (n v : Int) (w : World) (h : 0 ≤ v) (h2 : v < n) :
    Calls Tryz.prog 78 #[.int .i64 n, .int .i64 v] w fun e w' => e = .returned (.bool true) ∧ w = w' := by
  refine Kn.calls Tryz.func78 rfl Tryz.ntmps78 rfl (.cons (t := 0) rfl (.cons (t := 1) rfl .nil)) fun fa0 fh0 => ?_;refine wp_seq_k fun K1 hK1 => ?_;refine wp_region_lit ?_;refine Kn.pure fh0 rfl rfl .none (Kn.ex_assign fh0 .const) fun fa1 fh1 => ?_;clear fh0 fa0;refine wpList_nil ?_;refine hK1 _ _ ?_;clear hK1 K1;refine wp_seq_k fun K2 hK2 => ?_;refine wp_region_lit ?_;refine Kn.pure fh1 rfl rfl .none (Kn.ex_move fh1 (.tmp rfl)) fun fa2 fh2 => ?_;clear fh1 fa1;refine Kn.step fh2 rfl rfl .none (Kn.ex_bin fh2 (.tmp rfl) .const) fun Ko hKo => ?_;go_simp;(try go_bits);refine hKo _ _ fun fa3 fh3 => ?_;clear hKo Ko fh2 fa2;refine Kn.pure fh3 rfl rfl .none (Kn.ex_move fh3 (.tmp rfl)) fun fa4 fh4 => ?_;clear fh3 fa3;refine Kn.pure fh4 rfl rfl (.some rfl rfl rfl) (Kn.ex_move fh4 (.tmp rfl)) fun fa5 fh5 => ?_;clear fh4 fa4;refine Kn.pure fh5 rfl rfl (.some rfl rfl rfl) (Kn.ex_move fh5 (.tmp rfl)) fun fa6 fh6 => ?_;clear fh5 fa5;refine Kn.step fh6 rfl rfl (.some rfl rfl rfl) (Kn.ex_bin fh6 (.tmp rfl) (.tmp rfl)) fun Ko hKo => ?_;go_simp;(try go_bits);refine hKo _ _ fun fa7 fh7 => ?_;clear hKo Ko fh6 fa6;refine Kn.pure fh7 rfl rfl .none (Kn.ex_pick fh7 (.tmp rfl) (.tmp rfl)) fun fa8 fh8 => ?_;clear fh7 fa7;refine Kn.pure fh8 rfl rfl .none (Kn.ex_assign fh8 (.tmp rfl)) fun fa9 fh9 => ?_;clear fh8 fa8;refine wpList_nil ?_;refine hK2 _ _ ?_;clear hK2 K2;replace fh9 := fh9.cut (.cons (t := 4) rfl .nil);refine wp_ret ?_;exact Kn.ret1 fh9 rfl rfl ⟨rfl, rfl⟩
theorem isNode_any (n v : Int) (w : World) : Calls Tryz.prog 78 #[.int .i64 n, .int .i64 v] w fun e w' => e = .returned (.bool (decide (0 ≤ v) && decide (v < n))) ∧ w = w' := by
  by_cases h : 0 ≤ v
  · by_cases h2 : v < n
    · rw [decide_eq_true h, decide_eq_true h2]; exact isNode_c n v w h h2
    · rw [decide_eq_true h, decide_eq_false h2]; exact isNode_b n v w h h2
  · rw [decide_eq_false h]; exact isNode_a n v w h
def faultV (p : Int) (c : Int) : Value := .iface 54 (.agg #[.int .i64 p, .iface 52 (.int .i64 c)])
set_option maxRecDepth 100000 in
set_option maxHeartbeats 2000000 in
theorem fault_any (p c : Int) (w : World) : Calls Tryz.prog 77 #[.int .i64 p, .int .i64 c] w fun e w' => e = .returned (faultV p c) ∧ w = w' := by
  refine Kn.calls Tryz.func77 rfl Tryz.ntmps77 rfl (.cons (t := 0) rfl (.cons (t := 1) rfl .nil)) fun fa0 fh0 => ?_;refine wp_seq_k fun K1 hK1 => ?_;refine wp_region_lit ?_;refine Kn.pure fh0 rfl rfl .none (Kn.ex_assign fh0 .const) fun fa1 fh1 => ?_;clear fh0 fa0;refine wpList_nil ?_;refine hK1 _ _ ?_;clear hK1 K1;refine wp_seq_k fun K2 hK2 => ?_;refine wp_region_lit ?_;refine Kn.pure fh1 rfl rfl .none (Kn.ex_move fh1 (.tmp rfl)) fun fa2 fh2 => ?_;clear fh1 fa1;refine Kn.pure fh2 rfl rfl .none (Kn.ex_move fh2 (.tmp rfl)) fun fa3 fh3 => ?_;clear fh2 fa2;refine Kn.step fh3 rfl rfl .none (Kn.ex_makeInterface fh3 (.tmp rfl)) fun Ko hKo => ?_;go_simp;(try go_bits);refine hKo _ _ fun fa4 fh4 => ?_;clear hKo Ko fh3 fa3;refine Kn.step fh4 rfl rfl .none (Kn.ex_build fh4 (.cons (.tmp rfl) (.cons (.tmp rfl) .nil))) fun Ko hKo => ?_;go_simp;(try go_bits);refine hKo _ _ fun fa5 fh5 => ?_;clear hKo Ko fh4 fa4;refine Kn.step fh5 rfl rfl .none (Kn.ex_makeInterface fh5 (.tmp rfl)) fun Ko hKo => ?_;go_simp;(try go_bits);refine hKo _ _ fun fa6 fh6 => ?_;clear hKo Ko fh5 fa5;refine Kn.pure fh6 rfl rfl .none (Kn.ex_assign fh6 (.tmp rfl)) fun fa7 fh7 => ?_;clear fh6 fa6;refine wpList_nil ?_;refine hK2 _ _ ?_;clear hK2 K2;replace fh7 := fh7.cut (.cons (t := 4) rfl .nil);refine wp_ret ?_;exact Kn.ret1 fh7 rfl rfl ⟨rfl, rfl⟩
def turn (xs : List (Int × Int)) : List (Int × Int) := xs.map fun e => (e.2, e.1)
end Go.Proofs.YtbahklpdldghbaaGreatDoor.Edg
end
section
namespace Go.Proofs.YtbahklpdldghbaaGreatDoor.Edg
open Go Go.RowKit Go.Lib
def HoldE (w : World) (g : Nat) (l : List (Int × Int)) : Prop := ∀ i, i < l.length → (w.cell? ⟨g, i * 2, none⟩ = some (.int .i64 (ed l i).1) ∧ w.cell? ⟨g, i * 2 + 1, none⟩ = some (.int .i64 (ed l i).2)) ∧ w.frozen? ⟨g, i * 2, none⟩ = false ∧ w.frozen? ⟨g, i * 2 + 1, none⟩ = false
theorem HoldE.ein {w : World} {g : Nat} {l : List (Int × Int)} (h : HoldE w g l) : EIn w (some ⟨g, 0, none⟩) l := fun i hi => by
  obtain ⟨⟨h1, h2⟩, _⟩ := h i hi;exact ⟨g, 0, rfl, World.block_lt_of_cell? _ _ h1, by rw [Nat.zero_add]; exact h1, by rw [Nat.zero_add]; exact h2⟩
theorem HoldE.lt {w : World} {g : Nat} {l : List (Int × Int)} (h : HoldE w g l) (hl : 0 < l.length) : g < w.heap.size := World.block_lt_of_cell? _ _ (h 0 hl).1.1
theorem HoldE.on {w w' : World} {g : Nat} {l : List (Int × Int)} (h : HoldE w g l) (hb : Below w.heap.size w w') : HoldE w' g l := fun i hi => by
  obtain ⟨⟨h1, h2⟩, h3, h4⟩ := h i hi;have hlt : g < w.heap.size := World.block_lt_of_cell? _ _ h1;have e := hb.block g hlt;have fz : ∀ o, w'.frozen? ⟨g, o, none⟩ = w.frozen? ⟨g, o, none⟩ := fun o => by simp only [World.frozen?, e]
  exact ⟨⟨(hb.cell (p := ⟨g, i * 2, none⟩) hlt).trans h1, (hb.cell (p := ⟨g, i * 2 + 1, none⟩) hlt).trans h2⟩, (fz _).trans h3, (fz _).trans h4⟩
theorem HoldE.take {w : World} {g : Nat} {l : List (Int × Int)} (h : HoldE w g l) (k : Nat) : HoldE w g (l.take k) := fun i hi => by
  have hi' : i < l.length := by simp at hi; omega
  have e : ed (l.take k) i = ed l i := by rw [ed_at _ _ hi, ed_at _ _ hi']; simp
  rw [e];exact h i hi'
theorem ed_set (l : List (Int × Int)) (k i : Nat) (e : Int × Int) (hi : i < l.length) : ed (l.set k e) i = if i = k then e else ed l i := by
  rw [ed_at _ _ (by simpa using hi), ed_at _ _ hi, List.getElem_set]
  by_cases h : i = k
  · subst h; simp
  · rw [if_neg (fun q => h q.symm), if_neg h]
theorem HoldE.store {w : World} {g : Nat} {l : List (Int × Int)} (h : HoldE w g l) (k : Nat) (hk : k < l.length) (a b : Int) :
    ∃ w', (Instr.storeAt 134 (.pointer (some ⟨g, k * 2, none⟩)) (.agg #[.int .i64 a, .int .i64 b])).run Tryz.prog w = .ok () w' ∧ HoldE w' g (l.set k (a, b)) ∧ (∀ B, B ≤ g → Below B w w') ∧ (∀ p : Addr, p.block ≠ g → w'.cell? p = w.cell? p) := by
  obtain ⟨⟨c1, c2⟩, f1, f2⟩ := h k hk
  have ht : w.there g (k * 2) 2 := fun j hj => by
    rcases (show j = 0 ∨ j = 1 by omega) with rfl | rfl
    · exact ⟨by rw [Nat.add_zero, c1]; rfl, f1⟩
    · exact ⟨by rw [c2]; rfl, f2⟩
  refine ⟨_, run_storeAt_mid w g (k * 2) 134 #[.int .i64 a, .int .i64 b] ht (by kernel_rfl) (by simp [Value.oneCell']), fun i hi => ?_, fun B hB => below_setCells_w hB _ _ _, fun p hp => World.cell?_setCells_out g _ _ _ _ (fun e => absurd e hp)⟩;have hi' : i < l.length := by simpa using hi
  rw [World.frozen?_setCells, World.frozen?_setCells, ed_set l k i (a, b) hi'];refine ⟨?_, (h i hi').2⟩
  by_cases e : i = k
  · subst e;have hin := World.cell?_setCells_in g [.int .i64 a, .int .i64 b] (i * 2) w (fun j hj => (ht j (by simpa using hj)).1);rw [if_pos rfl];exact ⟨by have := hin 0 (by simp); simpa using this, by have := hin 1 (by simp); simpa using this⟩
  · rw [if_neg e, World.cell?_setCells_out g _ _ _ _ (fun _ _ => by simp; omega), World.cell?_setCells_out g _ _ _ _ (fun _ _ => by simp; omega)];exact (h i hi').1
theorem hold_of_own {w : World} {B g n cap : Nat} {l : List (Int × Int)} (h : OwnE w B (some ⟨g, 0, none⟩) n cap l) : HoldE w g l := fun i hi => by
  have c := (OwnE.ein h).cells hi;rw [Nat.zero_add] at c;obtain ⟨hn, hl, hr⟩ := h;rcases hr with ⟨hv, _⟩ | ⟨g', cap', cur, hv, hB, hg, hle, hm, hs, ht⟩
  · cases hv
  · simp only [Value.slice.injEq, Option.some.injEq, Addr.mk.injEq] at hv;obtain ⟨⟨rfl, _, _⟩, _, _⟩ := hv;exact ⟨c, by simp [World.frozen?, hg], by simp [World.frozen?, hg]⟩
end Go.Proofs.YtbahklpdldghbaaGreatDoor.Edg
end
section
namespace Go.Proofs.YtbahklpdldghbaaGreatDoor.Kn
open Go
section
variable {P : Program} {n : Nat} {l : List (Nat × Value)} {a : Act} {ops : Array Oper} {Q : Exit → Act → World → Prop} {w : World} {rest : List Oper}
theorem ex_clear {d : Option Tmp} {t : TypeId} {p : String} {af : Array Edge} {g : Option (Nat × Bool)} {ats : Array TypeId} {xs : Array Operand} {us : List Value} (h : Kn n l a) (hx : Vals l xs.toList us) : execOp a.eval ⟨d, .call { callee := .builtin .clear, args := xs, argTypes := ats }, t, p, af, g⟩ = vl (Builtin.clear_ ats t us.toArray) := by
  rw [BigFrame.execOp_builtin, BigFrame.builtin_clear, show xs.map a.eval = us.toArray by have := h.vals hx; rwa [Array.toArray_toList] at this]
theorem known0 {o : Oper} {s : Sem Value} {v : Value} {w' : World} (h : Kn n l a) (hd : o.dst = none) (hw : Wants ops l o.guard true) (he : execOp a.eval o = vl s)
    (hr : s.run P w = .ok v w') (H : wpList P ops Q rest a w') : wpList P ops Q (o :: rest) a w := by
  refine wpList_step fun K hK => ?_;rw [h.wants hw, if_pos rfl];unfold Oper.wp;rw [he];simp [go_sem, hr, hd, Act.put];exact hK a w' H
end
end Go.Proofs.YtbahklpdldghbaaGreatDoor.Kn
namespace Go.Proofs.YtbahklpdldghbaaGreatDoor.Edg
open Go Go.RowKit Go.Lib
def ddk (l : List (Int × Int)) : Nat → List (Int × Int)
  | 0 => []
  | k + 1 => if k ≠ 0 ∧ ed l k = ed l (k - 1) then ddk l k else ddk l k ++ [ed l k]
theorem ddk_same (l : List (Int × Int)) (k : Nat) (h0 : 0 < k) (h : ed l k = ed l (k - 1)) : ddk l (k + 1) = ddk l k := by rw [ddk, if_pos ⟨by omega, h⟩]
theorem ddk_more (l : List (Int × Int)) (k : Nat) (h : k = 0 ∨ ed l k ≠ ed l (k - 1)) : ddk l (k + 1) = ddk l k ++ [ed l k] := by
  rw [ddk, if_neg];rintro ⟨h1, h2⟩;rcases h with h | h
  · exact h1 h
  · exact h h2
theorem mem_take_ed {l : List (Int × Int)} {k : Nat} {e : Int × Int} (h : e ∈ l.take k) : ∃ i, i < k ∧ i < l.length ∧ ed l i = e := by
  obtain ⟨i, hi, he⟩ := List.getElem_of_mem h;simp at hi;exact ⟨i, by omega, by omega, by rw [ed_at l i (by omega), ← he]; simp⟩
theorem ddk_mem (l : List (Int × Int)) : ∀ k, k ≤ l.length → ∀ e, e ∈ ddk l k ↔ e ∈ l.take k
  | 0, _, e => by simp [ddk]
  | k + 1, hk, e => by
    have ih := ddk_mem l k (by omega) e;rw [take_ed l k (by omega), List.mem_append, List.mem_singleton]
    by_cases h : k ≠ 0 ∧ ed l k = ed l (k - 1)
    · rw [ddk_same l k (by omega) h.2, ih];refine ⟨.inl, fun h' => h'.elim id fun q => ?_⟩;rw [q, h.2, ed_at l (k - 1) (by omega)];exact List.mem_take_iff_getElem.2 ⟨k - 1, by omega, rfl⟩
    · rw [ddk, if_neg h, List.mem_append, List.mem_singleton, ih]
def WSrt (l : List (Int × Int)) : Prop := ∀ i j, i < j → j < l.length → lessB (ed l j) (ed l i) = false
theorem ddk_srt (l : List (Int × Int)) (h : WSrt l) : ∀ k, k ≤ l.length → Srt (ddk l k)
  | 0, _ => List.Pairwise.nil
  | k + 1, hk => by
    have ih := ddk_srt l h k (by omega)
    by_cases hc : k ≠ 0 ∧ ed l k = ed l (k - 1)
    · rw [ddk_same l k (by omega) hc.2]; exact ih
    · rw [ddk, if_neg hc];unfold Srt;rw [List.pairwise_append];refine ⟨ih, by simp, fun a ha b hb => ?_⟩;rw [List.mem_singleton] at hb;subst hb;obtain ⟨i, hik, hil, rfl⟩ := mem_take_ed ((ddk_mem l k (by omega) a).1 ha);have hne : ed l k ≠ ed l (k - 1) := fun e => hc ⟨by omega, e⟩;have h1 := h i k hik (by omega)
      cases h2 : lessB (ed l i) (ed l k) with
      | true => rfl
      | false =>
        exfalso
        have e1 : ed l i = ed l k := less_eq h2 h1;rcases Nat.lt_or_ge i (k - 1) with hlt | hge
        · have h3 := h i (k - 1) hlt (by omega);have h4 := h (k - 1) k (by omega) (by omega);rw [e1] at h3;exact hne (less_eq h4 h3)
        · exact hne (by rw [← e1, show i = k - 1 by omega])
theorem ddk_norm (l xs : List (Int × Int)) (h : WSrt l) (hm : ∀ e, e ∈ l ↔ e ∈ xs) : NormOf xs (ddk l l.length) :=
  ⟨ddk_srt l h _ (Nat.le_refl _), fun e => by rw [ddk_mem l _ (Nat.le_refl _) e, List.take_length, hm]⟩
theorem HoldE.clear {w : World} {g : Nat} {l : List (Int × Int)} (h : HoldE w g l) (k c : Nat) (ty : TypeId) (hk : k < l.length) :
    ∃ w', (Builtin.clear_ #[65] ty #[.slice (some ⟨g, k * 2, none⟩) (l.length - k) c]).run Tryz.prog w = .ok (.tuple #[]) w' ∧ HoldE w' g (l.take k) ∧ ∀ B, B ≤ g → Below B w w' := by
  obtain ⟨m, hm⟩ : ∃ m, l.length - k = m + 1 := ⟨l.length - k - 1, by omega⟩;have hz : ∀ w, (zeroValue 134).run Tryz.prog w = .ok (.agg #[.int .i64 0, .int .i64 0]) w := fun w => Tryz.zeroValue134 w;have hlen : (Builtin.zeroCells (Value.agg #[.int .i64 0, .int .i64 0]).cells (m + 1)).toList.length = (m + 1) * 2 := by simp [Builtin.zeroCells, Value.cells]
  have hone : ∀ v ∈ (Builtin.zeroCells (Value.agg #[.int .i64 0, .int .i64 0]).cells (m + 1)).toList, v.oneCell' = true := fun v hv => by
    obtain ⟨i, hi, rfl⟩ := List.getElem_of_mem hv;rcases Nat.mod_two_eq_zero_or_one i with q | q <;> simp [Builtin.zeroCells, Value.cells, q, Value.oneCell']
  generalize hvs : (Builtin.zeroCells (Value.agg #[.int .i64 0, .int .i64 0]).cells (m + 1)).toList = vs at hlen hone
  have hall : ∀ j, j < vs.length → (w.cell? ⟨g, k * 2 + 0 + j, none⟩).isSome = true ∧ w.frozen? ⟨g, k * 2 + 0 + j, none⟩ = false := fun j hj => by
    have hi : k + j / 2 < l.length := by omega
    obtain ⟨⟨c1, c2⟩, f1, f2⟩ := h (k + j / 2) hi;rcases Nat.mod_two_eq_zero_or_one j with q | q
    · have e : k * 2 + 0 + j = (k + j / 2) * 2 := by omega
      rw [e, c1]; exact ⟨rfl, f1⟩
    · have e : k * 2 + 0 + j = (k + j / 2) * 2 + 1 := by omega
      rw [e, c2]; exact ⟨rfl, f2⟩
  have hst := run_storeCells_cells (P := Tryz.prog) g (k * 2) vs 0 w (fun j hj => (hall j hj).1) (fun j hj => (hall j hj).2) hone;rw [Nat.add_zero] at hst;refine ⟨w.setCells g (k * 2) vs, ?_, fun i hi => ?_, fun B hB => below_setCells_w hB _ _ _⟩
  · rw [hm];simp [Builtin.clear_, run_underlying Tryz.underlying65, hz, hvs, hst]
  · have hi' : i < k := by simp at hi; omega
    rw [World.frozen?_setCells, World.frozen?_setCells, World.cell?_setCells_out g _ _ _ _ (fun _ _ => .inl (by simp; omega)), World.cell?_setCells_out g _ _ _ _ (fun _ _ => .inl (by simp; omega))];exact h.take k i hi
end Go.Proofs.YtbahklpdldghbaaGreatDoor.Edg
end
section
namespace Go.Proofs.YtbahklpdldghbaaGreatDoor.Edg
open Go Go.RowKit Go.Lib Go.Shelf Go.Sort
theorem below_grow {B : Nat} {a w : World} (h : Go.RowKit.Below B a w) (hB : B ≤ w.heap.size) (os : Array Obj) : Go.RowKit.Below B a (grow w os) :=
  ⟨h.os, h.tape, h.output, by have := h.size; simp [grow]; omega, fun k hk => by rw [← h.block k hk]; simp only [grow]; exact Array.getElem?_append_left (by omega)⟩
theorem holdsK_of {w : World} {g : Nat} {l : List (Int × Int)} (h : HoldE w g l) : HoldsK encE 2 w g 0 l.toArray := fun j hj => by
  rw [size_flatK] at hj;have hi : j / 2 < l.length := by simp at hj; omega
  obtain ⟨⟨c1, c2⟩, f1, f2⟩ := h (j / 2) hi;have e : l.toArray[j / 2]! = ed l (j / 2) := by rw [ed_at l _ hi]; simp [hi]
  rw [get_flatK encE 2 l.toArray j hj, e, Nat.zero_add];rcases Nat.mod_two_eq_zero_or_one j with q | q
  · have ej : j / 2 * 2 = j := by omega
    rw [ej] at c1 f1;rw [q];exact ⟨c1, f1⟩
  · have ej : j / 2 * 2 + 1 = j := by omega
    rw [ej] at c2 f2;rw [q];exact ⟨c2, f2⟩
theorem hold_of_K {w : World} {g : Nat} {d : Array (Int × Int)} (h : HoldsK encE 2 w g 0 d) : HoldE w g d.toList := fun i hi => by
  have hi' : i < d.size := by simpa using hi
  have e : d[(i * 2) / 2]! = ed d.toList i := by rw [show i * 2 / 2 = i by omega, ed_at _ _ hi]; simp [hi']
  have e' : d[(i * 2 + 1) / 2]! = ed d.toList i := by rw [show (i * 2 + 1) / 2 = i by omega, ed_at _ _ hi]; simp [hi']
  have h1 := h (i * 2) (by rw [size_flatK]; omega);have h2 := h (i * 2 + 1) (by rw [size_flatK]; omega);rw [get_flatK encE 2 d _ (by omega), e, Nat.zero_add, show i * 2 % 2 = 0 by omega] at h1;rw [get_flatK encE 2 d _ (by omega), e', Nat.zero_add, show (i * 2 + 1) % 2 = 1 by omega] at h2;exact ⟨⟨h1.1, h2.1⟩, h1.2, h2.2⟩
theorem sort_any (g cap : Nat) (l : List (Int × Int)) (w : World) (hH : HoldE w g l) (hg : g < w.heap.size) (hl : l.length ≤ 20000) :
    Calls Tryz.prog 60 #[.slice (some ⟨g, 0, none⟩) l.length cap, .func (.func 61) #[] #[]] w fun e w' => e = .returned (.tuple #[]) ∧ ∃ s, s.length = l.length ∧ WSrt s ∧ (∀ e, e ∈ s ↔ e ∈ l) ∧ HoldE w' g s ∧ Go.RowKit.Below g w w' ∧ g < w'.heap.size := by
  have eg : ∀ args w, (callFunc 61 args).run Tryz.prog w = .ok (.enter 61 args) w := enters_of Tryz.func61 (by kernel_rfl) rfl;refine (AnyQ.slices_SortFunc Tryz.laySort 2 Tryz.isAgg134 Tryz.sizeOf134 encE (fun _ => rfl) (fun x v hv => by simp [encE] at hv; rcases hv with rfl | rfl <;> rfl) cmpI swo 61 #[] g 0 cap l.toArray w eg (cmpLays g 0 _ w) (holdsK_of hH) hg (by simp; omega)).mono fun e w' hp => ?_;obtain ⟨he, d', n, os, hpm, hs, rfl⟩ := hp;have hsz : d'.size = l.length := by have := hpm.1; simpa using this
  refine ⟨he, d'.toList, by simpa using hsz, fun i j hij hj => ?_, fun e => ?_, hold_of_K (holdsK_sortWorldK_c encE 2 w g 0 l.toArray d' n os (holdsK_of hH) hg (by simpa using hsz)), below_grow (below_putRow (Go.RowKit.Below.refl g w) (Nat.le_refl _)) ?_ os, lt_sortWorldK encE 2 w g 0 n d' os hg⟩
  · have hj' : j < d'.size := by simpa using hj
    have := hs i j (Nat.zero_le _) hij (by simpa using (hsz ▸ hj'));rw [ltOf_cmp] at this;rw [ed_at _ _ hj, ed_at _ _ (by simp; omega)]
    simpa [hj', Nat.lt_trans hij hj'] using this
  · have hp := hpm.2.2;have e1 : (d'.extract 0 l.toArray.size).toList = d'.toList := by simp [← hsz]
    have e2 : (l.toArray.extract 0 l.toArray.size).toList = l := by simp
    rw [e1, e2] at hp;exact hp.mem_iff
  · have := lt_sortWorldK encE 2 w g 0 n d' #[] hg;rw [sortWorldK, grow_empty] at this;exact Nat.le_of_lt this
end Go.Proofs.YtbahklpdldghbaaGreatDoor.Edg
end
section
namespace Go.Proofs.YtbahklpdldghbaaGreatDoor.Edg
open Go Go.RowKit Go.Lib
theorem badB_iff (n : Int) (e : Int × Int) : badB n e = false ↔ (0 ≤ e.1 ∧ e.1 < n) ∧ (0 ≤ e.2 ∧ e.2 < n) := by
  unfold badB;simp only [Bool.or_eq_false_iff, decide_eq_false_iff_not];omega
set_option maxRecDepth 100000 in
set_option maxHeartbeats 2000000 in
theorem check_neg (n : Int) (A : Option Addr) (c : Nat) (xs : List (Int × Int)) (w : World) (h : n < 0) :
    Calls Tryz.prog 58 #[.int .i64 n, .slice A xs.length c] w fun e w' => e = .returned (faultV (-1) 10) ∧ w = w' := by
  refine Kn.calls Tryz.func58 rfl Tryz.ntmps58 rfl (.cons (t := 0) rfl (.cons (t := 1) rfl .nil)) fun fa0 fh0 => ?_;refine wp_seq_k fun K1 hK1 => ?_;refine wp_region_lit ?_;refine Kn.pure fh0 rfl rfl .none (Kn.ex_assign fh0 .const) fun fa1 fh1 => ?_;clear fh0 fa0;refine wpList_nil ?_;refine hK1 _ _ ?_;clear hK1 K1;refine wp_seq_k fun K2 hK2 => ?_;refine wp_seq_k fun K3 hK3 => ?_;refine wp_region_lit ?_;refine Kn.pure fh1 rfl rfl .none (Kn.ex_move fh1 (.tmp rfl)) fun fa2 fh2 => ?_;clear fh1 fa1;refine Kn.step fh2 rfl rfl .none (Kn.ex_bin fh2 (.tmp rfl) .const) fun Ko hKo => ?_;go_simp;(try go_bits);refine hKo _ _ fun fa3 fh3 => ?_;clear hKo Ko fh2 fa2;refine Kn.pure fh3 rfl rfl .none (Kn.ex_move fh3 (.tmp rfl)) fun fa4 fh4 => ?_;clear fh3 fa3;refine Kn.skip fh4 rfl rfl (.some rfl rfl rfl) fun fa5 fh5 => ?_;clear fh4 fa4;refine Kn.skip fh5 rfl rfl (.some rfl rfl rfl) fun fa6 fh6 => ?_;clear fh5 fa5;refine Kn.pure fh6 rfl rfl .none (Kn.ex_pick fh6 (.tmp rfl) .const) fun fa7 fh7 => ?_;clear fh6 fa6;refine wpList_nil ?_;refine hK3 _ _ ?_;clear hK3 K3;replace fh7 := fh7.cut (.cons (t := 12) rfl (.cons (t := 4) rfl (.cons (t := 0) rfl (.cons (t := 1) rfl .nil))));refine Kn.yes fh7 (.tmp rfl) ?_;replace fh7 := fh7.cut (.cons (t := 4) rfl (.cons (t := 0) rfl (.cons (t := 1) rfl .nil)));refine wp_seq_k fun K4 hK4 => ?_;refine wp_region_lit ?_;refine Kn.call fh7 rfl rfl .none (Kn.ex_call fh7 (.cons .const (.cons .const .nil))) Tryz.call77 (fault_any (-1) 10 w) fun e w1 hp => ?_;obtain ⟨rfl, rfl⟩ := hp;refine ⟨_, rfl, fun fa8 fh8 => ?_⟩;clear fh7 fa7;refine Kn.pure fh8 rfl rfl .none (Kn.ex_assign fh8 (.tmp rfl)) fun fa9 fh9 => ?_;clear fh8 fa8;refine wpList_nil ?_;refine hK4 _ _ ?_;clear hK4 K4;replace fh9 := fh9.cut (.cons (t := 4) rfl (.cons (t := 0) rfl (.cons (t := 1) rfl .nil)));refine wp_ret ?_;refine Kn.then_ret ?_;exact Kn.ret1 fh9 rfl rfl ⟨rfl, rfl⟩
set_option maxRecDepth 100000 in
set_option maxHeartbeats 2000000 in
theorem check_big (n : Int) (A : Option Addr) (c : Nat) (xs : List (Int × Int)) (w : World) (h : ¬ n < 0) (h2 : 4096 < n) :
    Calls Tryz.prog 58 #[.int .i64 n, .slice A xs.length c] w fun e w' => e = .returned (faultV (-1) 10) ∧ w = w' := by
  refine Kn.calls Tryz.func58 rfl Tryz.ntmps58 rfl (.cons (t := 0) rfl (.cons (t := 1) rfl .nil)) fun fa0 fh0 => ?_;refine wp_seq_k fun K1 hK1 => ?_;refine wp_region_lit ?_;refine Kn.pure fh0 rfl rfl .none (Kn.ex_assign fh0 .const) fun fa1 fh1 => ?_;clear fh0 fa0;refine wpList_nil ?_;refine hK1 _ _ ?_;clear hK1 K1;refine wp_seq_k fun K2 hK2 => ?_;refine wp_seq_k fun K3 hK3 => ?_;refine wp_region_lit ?_;refine Kn.pure fh1 rfl rfl .none (Kn.ex_move fh1 (.tmp rfl)) fun fa2 fh2 => ?_;clear fh1 fa1;refine Kn.step fh2 rfl rfl .none (Kn.ex_bin fh2 (.tmp rfl) .const) fun Ko hKo => ?_;go_simp;(try go_bits);refine hKo _ _ fun fa3 fh3 => ?_;clear hKo Ko fh2 fa2;refine Kn.pure fh3 rfl rfl .none (Kn.ex_move fh3 (.tmp rfl)) fun fa4 fh4 => ?_;clear fh3 fa3;refine Kn.pure fh4 rfl rfl (.some rfl rfl rfl) (Kn.ex_move fh4 (.tmp rfl)) fun fa5 fh5 => ?_;clear fh4 fa4;refine Kn.step fh5 rfl rfl (.some rfl rfl rfl) (Kn.ex_bin fh5 (.tmp rfl) .const) fun Ko hKo => ?_;go_simp;(try go_bits);refine hKo _ _ fun fa6 fh6 => ?_;clear hKo Ko fh5 fa5;refine Kn.pure fh6 rfl rfl .none (Kn.ex_pick fh6 (.tmp rfl) (.tmp rfl)) fun fa7 fh7 => ?_;clear fh6 fa6;refine wpList_nil ?_;refine hK3 _ _ ?_;clear hK3 K3;replace fh7 := fh7.cut (.cons (t := 12) rfl (.cons (t := 4) rfl (.cons (t := 0) rfl (.cons (t := 1) rfl .nil))));refine Kn.yes fh7 (.tmp rfl) ?_;replace fh7 := fh7.cut (.cons (t := 4) rfl (.cons (t := 0) rfl (.cons (t := 1) rfl .nil)));refine wp_seq_k fun K4 hK4 => ?_;refine wp_region_lit ?_;refine Kn.call fh7 rfl rfl .none (Kn.ex_call fh7 (.cons .const (.cons .const .nil))) Tryz.call77 (fault_any (-1) 10 w) fun e w1 hp => ?_;obtain ⟨rfl, rfl⟩ := hp;refine ⟨_, rfl, fun fa8 fh8 => ?_⟩;clear fh7 fa7;refine Kn.pure fh8 rfl rfl .none (Kn.ex_assign fh8 (.tmp rfl)) fun fa9 fh9 => ?_;clear fh8 fa8;refine wpList_nil ?_;refine hK4 _ _ ?_;clear hK4 K4;replace fh9 := fh9.cut (.cons (t := 4) rfl (.cons (t := 0) rfl (.cons (t := 1) rfl .nil)));refine wp_ret ?_;refine Kn.then_ret ?_;exact Kn.ret1 fh9 rfl rfl ⟨rfl, rfl⟩
set_option maxRecDepth 100000 in
set_option maxHeartbeats 2000000 in
theorem check_long (n : Int) (A : Option Addr) (c : Nat) (xs : List (Int × Int)) (w : World) (h : ¬ n < 0) (h2 : ¬ 4096 < n) (h3 : (20000 : Int) < (xs.length : Int)) (_h4 : 20000 < xs.length) :
    Calls Tryz.prog 58 #[.int .i64 n, .slice A xs.length c] w fun e w' => e = .returned (faultV (20000) 10) ∧ w = w' := by
  refine Kn.calls Tryz.func58 rfl Tryz.ntmps58 rfl (.cons (t := 0) rfl (.cons (t := 1) rfl .nil)) fun fa0 fh0 => ?_;refine wp_seq_k fun K1 hK1 => ?_;refine wp_region_lit ?_;refine Kn.pure fh0 rfl rfl .none (Kn.ex_assign fh0 .const) fun fa1 fh1 => ?_;clear fh0 fa0;refine wpList_nil ?_;refine hK1 _ _ ?_;clear hK1 K1;refine wp_seq_k fun K2 hK2 => ?_;refine wp_seq_k fun K3 hK3 => ?_;refine wp_region_lit ?_;refine Kn.pure fh1 rfl rfl .none (Kn.ex_move fh1 (.tmp rfl)) fun fa2 fh2 => ?_;clear fh1 fa1;refine Kn.step fh2 rfl rfl .none (Kn.ex_bin fh2 (.tmp rfl) .const) fun Ko hKo => ?_;go_simp;(try go_bits);refine hKo _ _ fun fa3 fh3 => ?_;clear hKo Ko fh2 fa2;refine Kn.pure fh3 rfl rfl .none (Kn.ex_move fh3 (.tmp rfl)) fun fa4 fh4 => ?_;clear fh3 fa3;refine Kn.pure fh4 rfl rfl (.some rfl rfl rfl) (Kn.ex_move fh4 (.tmp rfl)) fun fa5 fh5 => ?_;clear fh4 fa4;refine Kn.step fh5 rfl rfl (.some rfl rfl rfl) (Kn.ex_bin fh5 (.tmp rfl) .const) fun Ko hKo => ?_;go_simp;(try go_bits);refine hKo _ _ fun fa6 fh6 => ?_;clear hKo Ko fh5 fa5;refine Kn.pure fh6 rfl rfl .none (Kn.ex_pick fh6 (.tmp rfl) (.tmp rfl)) fun fa7 fh7 => ?_;clear fh6 fa6;refine wpList_nil ?_;refine hK3 _ _ ?_;clear hK3 K3;replace fh7 := fh7.cut (.cons (t := 12) rfl (.cons (t := 4) rfl (.cons (t := 0) rfl (.cons (t := 1) rfl .nil))));refine Kn.no fh7 (.tmp rfl) ?_;refine wp_skip ?_;refine hK2 _ _ ?_;clear hK2 K2;replace fh7 := fh7.cut (.cons (t := 4) rfl (.cons (t := 0) rfl (.cons (t := 1) rfl .nil)));refine wp_seq_k fun K4 hK4 => ?_;refine wp_seq_k fun K5 hK5 => ?_;refine wp_region_lit ?_;refine Kn.pure fh7 rfl rfl .none (Kn.ex_move fh7 (.tmp rfl)) fun fa8 fh8 => ?_;clear fh7 fa7;refine Kn.step fh8 rfl rfl .none (Kn.ex_len fh8 (.tmp rfl)) fun Ko hKo => ?_;go_simp;(try go_bits);refine hKo _ _ fun fa9 fh9 => ?_;clear hKo Ko fh8 fa8;refine Kn.step fh9 rfl rfl .none (Kn.ex_bin fh9 (.tmp rfl) .const) fun Ko hKo => ?_;go_simp;(try go_bits);refine hKo _ _ fun fa10 fh10 => ?_;clear hKo Ko fh9 fa9;refine wpList_nil ?_;refine hK5 _ _ ?_;clear hK5 K5;replace fh10 := fh10.cut (.cons (t := 16) rfl (.cons (t := 4) rfl (.cons (t := 0) rfl (.cons (t := 1) rfl .nil))));refine Kn.yes fh10 (.tmp rfl) ?_;replace fh10 := fh10.cut (.cons (t := 4) rfl (.cons (t := 0) rfl (.cons (t := 1) rfl .nil)));refine wp_seq_k fun K6 hK6 => ?_;refine wp_region_lit ?_;refine Kn.call fh10 rfl rfl .none (Kn.ex_call fh10 (.cons .const (.cons .const .nil))) Tryz.call77 (fault_any (20000) 10 w) fun e w1 hp => ?_;obtain ⟨rfl, rfl⟩ := hp;refine ⟨_, rfl, fun fa11 fh11 => ?_⟩;clear fh10 fa10;refine Kn.pure fh11 rfl rfl .none (Kn.ex_assign fh11 (.tmp rfl)) fun fa12 fh12 => ?_;clear fh11 fa11;refine wpList_nil ?_;refine hK6 _ _ ?_;clear hK6 K6;replace fh12 := fh12.cut (.cons (t := 4) rfl (.cons (t := 0) rfl (.cons (t := 1) rfl .nil)));refine wp_ret ?_;refine Kn.then_ret ?_;exact Kn.ret1 fh12 rfl rfl ⟨rfl, rfl⟩
set_option maxRecDepth 100000 in
set_option maxHeartbeats 2000000 in
theorem check_any (n : Int) (A : Option Addr) (c f : Nat) (xs : List (Int × Int)) (w : World) (h1 : ¬ n < 0) (h2 : ¬ 4096 < n) (h3 : ¬ 20000 < xs.length) (hA : EIn w A xs) (hG : ∀ i, i < f → badB n (ed xs i) = false) (hB : f < xs.length → badB n (ed xs f) = true) :
    Calls Tryz.prog 58 #[.int .i64 n, .slice A xs.length c] w fun e w' => e = .returned (if f < xs.length then faultV (f : Int) 10 else .nilIface) ∧ Below w.heap.size w w' := by
  have HA := Lib.hid hA;have HG := Lib.hid hG;have HH := Lib.hid hB;clear hA hG hB;have h4 : ¬ (20000 : Int) < (xs.length : Int) := by omega
  refine Kn.calls Tryz.func58 rfl Tryz.ntmps58 rfl (.cons (t := 0) rfl (.cons (t := 1) rfl .nil)) fun fa0 fh0 => ?_;refine wp_seq_k fun K1 hK1 => ?_;refine wp_region_lit ?_;refine Kn.pure fh0 rfl rfl .none (Kn.ex_assign fh0 .const) fun fa1 fh1 => ?_;clear fh0 fa0;refine wpList_nil ?_;refine hK1 _ _ ?_;clear hK1 K1;refine wp_seq_k fun K2 hK2 => ?_;refine wp_seq_k fun K3 hK3 => ?_;refine wp_region_lit ?_;refine Kn.pure fh1 rfl rfl .none (Kn.ex_move fh1 (.tmp rfl)) fun fa2 fh2 => ?_;clear fh1 fa1;refine Kn.step fh2 rfl rfl .none (Kn.ex_bin fh2 (.tmp rfl) .const) fun Ko hKo => ?_;go_simp;(try go_bits);refine hKo _ _ fun fa3 fh3 => ?_;clear hKo Ko fh2 fa2;refine Kn.pure fh3 rfl rfl .none (Kn.ex_move fh3 (.tmp rfl)) fun fa4 fh4 => ?_;clear fh3 fa3;refine Kn.pure fh4 rfl rfl (.some rfl rfl rfl) (Kn.ex_move fh4 (.tmp rfl)) fun fa5 fh5 => ?_;clear fh4 fa4;refine Kn.step fh5 rfl rfl (.some rfl rfl rfl) (Kn.ex_bin fh5 (.tmp rfl) .const) fun Ko hKo => ?_;go_simp;(try go_bits);refine hKo _ _ fun fa6 fh6 => ?_;clear hKo Ko fh5 fa5;refine Kn.pure fh6 rfl rfl .none (Kn.ex_pick fh6 (.tmp rfl) (.tmp rfl)) fun fa7 fh7 => ?_;clear fh6 fa6;refine wpList_nil ?_;refine hK3 _ _ ?_;clear hK3 K3;replace fh7 := fh7.cut (.cons (t := 12) rfl (.cons (t := 4) rfl (.cons (t := 0) rfl (.cons (t := 1) rfl .nil))));refine Kn.no fh7 (.tmp rfl) ?_;refine wp_skip ?_;refine hK2 _ _ ?_;clear hK2 K2;replace fh7 := fh7.cut (.cons (t := 4) rfl (.cons (t := 0) rfl (.cons (t := 1) rfl .nil)));refine wp_seq_k fun K4 hK4 => ?_;refine wp_seq_k fun K5 hK5 => ?_;refine wp_region_lit ?_;refine Kn.pure fh7 rfl rfl .none (Kn.ex_move fh7 (.tmp rfl)) fun fa8 fh8 => ?_;clear fh7 fa7;refine Kn.step fh8 rfl rfl .none (Kn.ex_len fh8 (.tmp rfl)) fun Ko hKo => ?_;go_simp;(try go_bits);refine hKo _ _ fun fa9 fh9 => ?_;clear hKo Ko fh8 fa8;refine Kn.step fh9 rfl rfl .none (Kn.ex_bin fh9 (.tmp rfl) .const) fun Ko hKo => ?_;go_simp;(try go_bits);refine hKo _ _ fun fa10 fh10 => ?_;clear hKo Ko fh9 fa9;refine wpList_nil ?_;refine hK5 _ _ ?_;clear hK5 K5;replace fh10 := fh10.cut (.cons (t := 16) rfl (.cons (t := 4) rfl (.cons (t := 0) rfl (.cons (t := 1) rfl .nil))));refine Kn.no fh10 (.tmp rfl) ?_;refine wp_skip ?_;refine hK4 _ _ ?_;clear hK4 K4;replace fh10 := fh10.cut (.cons (t := 4) rfl (.cons (t := 0) rfl (.cons (t := 1) rfl .nil)));refine wp_seq_k fun K6 hK6 => ?_;refine wp_seq_k fun K7 hK7 => ?_;refine wp_region_lit ?_;refine Kn.pure fh10 rfl rfl .none (Kn.ex_move fh10 (.tmp rfl)) fun fa11 fh11 => ?_;clear fh10 fa10;refine Kn.step fh11 rfl rfl .none (Kn.ex_len fh11 (.tmp rfl)) fun Ko hKo => ?_;go_simp;(try go_bits);refine hKo _ _ fun fa12 fh12 => ?_;clear hKo Ko fh11 fa11;refine Kn.pure fh12 rfl rfl .none (Kn.ex_move fh12 .const) fun fa13 fh13 => ?_;clear fh12 fa12;refine wpList_nil ?_;refine hK7 _ _ ?_;clear hK7 K7;replace fh13 := fh13.cut (.cons (t := 20) rfl (.cons (t := 19) rfl (.cons (t := 18) rfl (.cons (t := 4) rfl (.cons (t := 0) rfl .nil)))));refine wp_block ?_;refine Kn.loop (fun m fr u => ∃ (k : Nat), Kn.Kn 40 [(20, .int .i64 (k : Int)), (18, .slice A xs.length c), (19, .int .i64 (xs.length : Int)), (0, .int .i64 n)] fr ∧ k + m = xs.length ∧ k ≤ f ∧ Hid (Below w.heap.size w u)) xs.length ⟨0, fh13.cut (.cons (t := 20) rfl (.cons (t := 18) rfl (.cons (t := 19) rfl (.cons (t := 0) rfl .nil)))), by omega, by omega, Lib.hid (Below.refl _ _)⟩ ?_;clear fh13 fa13;intro m8 fa14 u hI Kl8 hKl8;obtain ⟨k, fh14, hk, hkf, HB⟩ := hI
  by_cases hlt : k < xs.length
  · have hlt0 := hlt;obtain ⟨ba, oa, rfl, -, ca1, ca2⟩ := (HA.out.on HB.out) k hlt0;clear hlt0;obtain ⟨x1, hx1⟩ : ∃ x, (ed xs k).1 = x := ⟨_, rfl⟩;obtain ⟨x2, hx2⟩ : ∃ x, (ed xs k).2 = x := ⟨_, rfl⟩;rw [hx1] at ca1;rw [hx2] at ca2;have HX : Hid (ed xs k = (x1, x2)) := Lib.hid (by rw [← hx1, ← hx2]);clear hx1 hx2;refine wp_seq_k fun K9 hK9 => ?_;refine wp_region_lit ?_;refine Kn.step fh14 rfl rfl .none (Kn.ex_bin fh14 (.tmp rfl) (.tmp rfl)) fun Ko hKo => ?_;go_simp;(try go_bits);refine hKo _ _ fun fa15 fh15 => ?_;clear hKo Ko fh14 fa14;refine wpList_nil ?_;refine hK9 _ _ ?_;clear hK9 K9;refine wp_seq_k fun K10 hK10 => ?_;refine Kn.yes fh15 (.tmp rfl) ?_;refine wp_skip ?_;refine hK10 _ _ ?_;clear hK10 K10;replace fh15 := fh15.cut (.cons (t := 20) rfl (.cons (t := 18) rfl (.cons (t := 19) rfl (.cons (t := 0) rfl .nil))));refine wp_seq_k fun K11 hK11 => ?_;refine wp_block ?_;refine wp_seq_k fun K12 hK12 => ?_;refine wp_region_lit ?_;refine Kn.pure fh15 rfl rfl .none (Kn.ex_move fh15 (.tmp rfl)) fun fa16 fh16 => ?_;clear fh15 fa15;refine Kn.step fh16 rfl rfl .none (Kn.ex_indexAddr fh16 (.tmp rfl) (.tmp rfl)) fun Ko hKo => ?_;go_simp;(try go_bits);refine hKo _ _ fun fa17 fh17 => ?_;clear hKo Ko fh16 fa16;refine Kn.step fh17 rfl rfl .none (Kn.ex_load fh17 (.tmp rfl)) fun Ko hKo => ?_;go_simp;(try go_bits);refine hKo _ _ fun fa18 fh18 => ?_;clear hKo Ko fh17 fa17;refine Kn.step fh18 rfl rfl .none Kn.ex_alloc fun Ko hKo => ?_;go_simp;(try go_bits);refine hKo _ _ fun fa19 fh19 => ?_;clear hKo Ko fh18 fa18;refine Kn.pure fh19 rfl rfl .none (Kn.ex_assign fh19 (.tmp rfl)) fun fa20 fh20 => ?_;clear fh19 fa19;refine Kn.stepU fh20 rfl .none (Kn.ex_store fh20 (.tmp rfl) (.tmp rfl)) fun Ko hKo => ?_;go_simp;(try go_bits);refine hKo _ ?_;clear hKo Ko;refine wpList_nil ?_;refine hK12 _ _ ?_;clear hK12 K12;replace fh20 := fh20.cut (.cons (t := 5) rfl (.cons (t := 6) rfl (.cons (t := 20) rfl (.cons (t := 18) rfl (.cons (t := 19) rfl (.cons (t := 0) rfl .nil))))))
    by_cases e1 : 0 ≤ x1 ∧ x1 < n
    · have q1 : (decide (0 ≤ x1) && decide (x1 < n)) = true := by rw [decide_eq_true e1.1, decide_eq_true e1.2]; rfl
      by_cases e2 : 0 ≤ x2 ∧ x2 < n
      · have q2 : (decide (0 ≤ x2) && decide (x2 < n)) = true := by rw [decide_eq_true e2.1, decide_eq_true e2.2]; rfl
        have hkf2 : k + 1 ≤ f := by
          rcases Nat.lt_or_ge k f with h | h
          · omega
          · have hfk : f = k := by omega
            have := HH.out (by omega);rw [hfk, HX.out] at this;have g : badB n (x1, x2) = false := (badB_iff _ _).2 ⟨e1, e2⟩;rw [g] at this;cases this
        clear e1 e2 hkf;refine wp_seq_k fun K13 hK13 => ?_;refine wp_region_lit ?_;refine Kn.pure fh20 rfl rfl .none (Kn.ex_move fh20 (.tmp rfl)) fun fa21 fh21 => ?_;clear fh20 fa20;refine Kn.step fh21 rfl rfl .none (Kn.ex_fieldAddr fh21 (.tmp rfl)) fun Ko hKo => ?_;go_simp;(try go_bits);refine hKo _ _ fun fa22 fh22 => ?_;clear hKo Ko fh21 fa21;refine Kn.step fh22 rfl rfl .none (Kn.ex_load fh22 (.tmp rfl)) fun Ko hKo => ?_;go_simp;(try go_bits);refine hKo _ _ fun fa23 fh23 => ?_;clear hKo Ko fh22 fa22;refine Kn.call fh23 rfl rfl .none (Kn.ex_call fh23 (.cons (.tmp rfl) (.cons (.tmp rfl) .nil))) Tryz.call78 (isNode_any n x1 _) fun e w1 hp => ?_;obtain ⟨rfl, rfl⟩ := hp;refine ⟨_, rfl, fun fa24 fh24 => ?_⟩;clear fh23 fa23;rw [q1] at fh24;refine Kn.step fh24 rfl rfl .none (Kn.ex_un fh24 (.tmp rfl)) fun Ko hKo => ?_;go_simp;(try go_bits);refine hKo _ _ fun fa25 fh25 => ?_;clear hKo Ko fh24 fa24;refine Kn.pure fh25 rfl rfl .none (Kn.ex_move fh25 (.tmp rfl)) fun fa26 fh26 => ?_;clear fh25 fa25;refine Kn.pure fh26 rfl rfl (.some rfl rfl rfl) (Kn.ex_move fh26 (.tmp rfl)) fun fa27 fh27 => ?_;clear fh26 fa26;refine Kn.step fh27 rfl rfl (.some rfl rfl rfl) (Kn.ex_fieldAddr fh27 (.tmp rfl)) fun Ko hKo => ?_;go_simp;(try go_bits);refine hKo _ _ fun fa28 fh28 => ?_;clear hKo Ko fh27 fa27;refine Kn.step fh28 rfl rfl (.some rfl rfl rfl) (Kn.ex_load fh28 (.tmp rfl)) fun Ko hKo => ?_;go_simp;(try go_bits);refine hKo _ _ fun fa29 fh29 => ?_;clear hKo Ko fh28 fa28;refine Kn.call fh29 rfl rfl (.some rfl rfl rfl) (Kn.ex_call fh29 (.cons (.tmp rfl) (.cons (.tmp rfl) .nil))) Tryz.call78 (isNode_any n x2 _) fun e w1 hp => ?_;obtain ⟨rfl, rfl⟩ := hp;refine ⟨_, rfl, fun fa30 fh30 => ?_⟩;clear fh29 fa29;rw [q2] at fh30;refine Kn.step fh30 rfl rfl (.some rfl rfl rfl) (Kn.ex_un fh30 (.tmp rfl)) fun Ko hKo => ?_;go_simp;(try go_bits);refine hKo _ _ fun fa31 fh31 => ?_;clear hKo Ko fh30 fa30;refine Kn.pure fh31 rfl rfl .none (Kn.ex_pick fh31 (.tmp rfl) (.tmp rfl)) fun fa32 fh32 => ?_;clear fh31 fa31;refine wpList_nil ?_;refine hK13 _ _ ?_;clear hK13 K13;replace fh32 := fh32.cut (.cons (t := 36) rfl (.cons (t := 5) rfl (.cons (t := 20) rfl (.cons (t := 18) rfl (.cons (t := 19) rfl (.cons (t := 0) rfl .nil))))));refine Kn.no fh32 (.tmp rfl) ?_;refine wp_skip ?_;refine Kn.block_normal ?_;refine hK11 _ _ ?_;clear hK11 K11;replace fh32 := fh32.cut (.cons (t := 20) rfl (.cons (t := 18) rfl (.cons (t := 19) rfl (.cons (t := 0) rfl .nil))));refine wp_region_lit ?_;refine Kn.step fh32 rfl rfl .none (Kn.ex_bin fh32 (.tmp rfl) .const) fun Ko hKo => ?_;go_simp;(try go_bits);refine hKo _ _ fun fa33 fh33 => ?_;clear hKo Ko fh32 fa32;refine Kn.pure fh33 rfl rfl .none (Kn.ex_move fh33 (.tmp rfl)) fun fa34 fh34 => ?_;clear fh33 fa33;refine wpList_nil ?_;replace fh34 := fh34.cut (.cons (t := 20) rfl (.cons (t := 18) rfl (.cons (t := 19) rfl (.cons (t := 0) rfl .nil))));exact hKl8 (m8 - 1) _ _ (by omega) ⟨k + 1, fh34.cut (.turn (t := 20) rfl (by go_num) (.cons (t := 18) rfl (.cons (t := 19) rfl (.cons (t := 0) rfl .nil)))), by omega, hkf2, Lib.hid (HB.out.alloc HB.out.size _)⟩
      · have q2 : (decide (0 ≤ x2) && decide (x2 < n)) = false := by simp only [Bool.and_eq_false_iff, decide_eq_false_iff_not]; omega
        have hfk : k = f := by
          rcases Nat.lt_or_ge k f with h | h
          · have := HG.out k h; rw [HX.out, badB_iff] at this; exact absurd this (by simp only; omega)
          · omega
        subst hfk;clear e1 e2 hkf;refine wp_seq_k fun K13 hK13 => ?_;refine wp_region_lit ?_;refine Kn.pure fh20 rfl rfl .none (Kn.ex_move fh20 (.tmp rfl)) fun fa21 fh21 => ?_;clear fh20 fa20;refine Kn.step fh21 rfl rfl .none (Kn.ex_fieldAddr fh21 (.tmp rfl)) fun Ko hKo => ?_;go_simp;(try go_bits);refine hKo _ _ fun fa22 fh22 => ?_;clear hKo Ko fh21 fa21;refine Kn.step fh22 rfl rfl .none (Kn.ex_load fh22 (.tmp rfl)) fun Ko hKo => ?_;go_simp;(try go_bits);refine hKo _ _ fun fa23 fh23 => ?_;clear hKo Ko fh22 fa22;refine Kn.call fh23 rfl rfl .none (Kn.ex_call fh23 (.cons (.tmp rfl) (.cons (.tmp rfl) .nil))) Tryz.call78 (isNode_any n x1 _) fun e w1 hp => ?_;obtain ⟨rfl, rfl⟩ := hp;refine ⟨_, rfl, fun fa24 fh24 => ?_⟩;clear fh23 fa23;rw [q1] at fh24;refine Kn.step fh24 rfl rfl .none (Kn.ex_un fh24 (.tmp rfl)) fun Ko hKo => ?_;go_simp;(try go_bits);refine hKo _ _ fun fa25 fh25 => ?_;clear hKo Ko fh24 fa24;refine Kn.pure fh25 rfl rfl .none (Kn.ex_move fh25 (.tmp rfl)) fun fa26 fh26 => ?_;clear fh25 fa25;refine Kn.pure fh26 rfl rfl (.some rfl rfl rfl) (Kn.ex_move fh26 (.tmp rfl)) fun fa27 fh27 => ?_;clear fh26 fa26;refine Kn.step fh27 rfl rfl (.some rfl rfl rfl) (Kn.ex_fieldAddr fh27 (.tmp rfl)) fun Ko hKo => ?_;go_simp;(try go_bits);refine hKo _ _ fun fa28 fh28 => ?_;clear hKo Ko fh27 fa27;refine Kn.step fh28 rfl rfl (.some rfl rfl rfl) (Kn.ex_load fh28 (.tmp rfl)) fun Ko hKo => ?_;go_simp;(try go_bits);refine hKo _ _ fun fa29 fh29 => ?_;clear hKo Ko fh28 fa28;refine Kn.call fh29 rfl rfl (.some rfl rfl rfl) (Kn.ex_call fh29 (.cons (.tmp rfl) (.cons (.tmp rfl) .nil))) Tryz.call78 (isNode_any n x2 _) fun e w1 hp => ?_;obtain ⟨rfl, rfl⟩ := hp;refine ⟨_, rfl, fun fa30 fh30 => ?_⟩;clear fh29 fa29;rw [q2] at fh30;refine Kn.step fh30 rfl rfl (.some rfl rfl rfl) (Kn.ex_un fh30 (.tmp rfl)) fun Ko hKo => ?_;go_simp;(try go_bits);refine hKo _ _ fun fa31 fh31 => ?_;clear hKo Ko fh30 fa30;refine Kn.pure fh31 rfl rfl .none (Kn.ex_pick fh31 (.tmp rfl) (.tmp rfl)) fun fa32 fh32 => ?_;clear fh31 fa31;refine wpList_nil ?_;refine hK13 _ _ ?_;clear hK13 K13;replace fh32 := fh32.cut (.cons (t := 36) rfl (.cons (t := 5) rfl (.cons (t := 20) rfl (.cons (t := 18) rfl (.cons (t := 19) rfl (.cons (t := 0) rfl .nil))))));refine Kn.yes fh32 (.tmp rfl) ?_;replace fh32 := fh32.cut (.cons (t := 5) rfl (.cons (t := 20) rfl (.cons (t := 18) rfl (.cons (t := 19) rfl (.cons (t := 0) rfl .nil)))));refine wp_seq_k fun K14 hK14 => ?_;refine wp_region_lit ?_;refine Kn.pure fh32 rfl rfl .none (Kn.ex_move fh32 (.tmp rfl)) fun fa33 fh33 => ?_;clear fh32 fa32;refine Kn.call fh33 rfl rfl .none (Kn.ex_call fh33 (.cons (.tmp rfl) (.cons .const .nil))) Tryz.call77 (fault_any k 10 _) fun e w1 hp => ?_;obtain ⟨rfl, rfl⟩ := hp;refine ⟨_, rfl, fun fa34 fh34 => ?_⟩;clear fh33 fa33;refine Kn.pure fh34 rfl rfl .none (Kn.ex_assign fh34 (.tmp rfl)) fun fa35 fh35 => ?_;clear fh34 fa34;refine wpList_nil ?_;refine hK14 _ _ ?_;clear hK14 K14;replace fh35 := fh35.cut (.cons (t := 4) rfl (.cons (t := 20) rfl (.cons (t := 18) rfl (.cons (t := 19) rfl (.cons (t := 0) rfl .nil)))));refine wp_ret ?_;refine Kn.block_ret ?_;refine Kn.then_ret ?_;refine Kn.then_ret ?_;refine Kn.block_ret ?_;refine Kn.then_ret ?_;exact Kn.ret1 fh35 rfl rfl ⟨by rw [if_pos hlt], HB.out.alloc HB.out.size _⟩
    · have q1 : (decide (0 ≤ x1) && decide (x1 < n)) = false := by simp only [Bool.and_eq_false_iff, decide_eq_false_iff_not]; omega
      have hfk : k = f := by
        rcases Nat.lt_or_ge k f with h | h
        · have := HG.out k h; rw [HX.out, badB_iff] at this; exact absurd this (by simp only; omega)
        · omega
      subst hfk;clear e1 hkf;refine wp_seq_k fun K13 hK13 => ?_;refine wp_region_lit ?_;refine Kn.pure fh20 rfl rfl .none (Kn.ex_move fh20 (.tmp rfl)) fun fa21 fh21 => ?_;clear fh20 fa20;refine Kn.step fh21 rfl rfl .none (Kn.ex_fieldAddr fh21 (.tmp rfl)) fun Ko hKo => ?_;go_simp;(try go_bits);refine hKo _ _ fun fa22 fh22 => ?_;clear hKo Ko fh21 fa21;refine Kn.step fh22 rfl rfl .none (Kn.ex_load fh22 (.tmp rfl)) fun Ko hKo => ?_;go_simp;(try go_bits);refine hKo _ _ fun fa23 fh23 => ?_;clear hKo Ko fh22 fa22;refine Kn.call fh23 rfl rfl .none (Kn.ex_call fh23 (.cons (.tmp rfl) (.cons (.tmp rfl) .nil))) Tryz.call78 (isNode_any n x1 _) fun e w1 hp => ?_;obtain ⟨rfl, rfl⟩ := hp;refine ⟨_, rfl, fun fa24 fh24 => ?_⟩;clear fh23 fa23;rw [q1] at fh24;refine Kn.step fh24 rfl rfl .none (Kn.ex_un fh24 (.tmp rfl)) fun Ko hKo => ?_;go_simp;(try go_bits);refine hKo _ _ fun fa25 fh25 => ?_;clear hKo Ko fh24 fa24;refine Kn.pure fh25 rfl rfl .none (Kn.ex_move fh25 (.tmp rfl)) fun fa26 fh26 => ?_;clear fh25 fa25;refine Kn.skip fh26 rfl rfl (.some rfl rfl rfl) fun fa27 fh27 => ?_;clear fh26 fa26;refine Kn.skip fh27 rfl rfl (.some rfl rfl rfl) fun fa28 fh28 => ?_;clear fh27 fa27;refine Kn.skip fh28 rfl rfl (.some rfl rfl rfl) fun fa29 fh29 => ?_;clear fh28 fa28;refine Kn.skip fh29 rfl rfl (.some rfl rfl rfl) fun fa30 fh30 => ?_;clear fh29 fa29;refine Kn.skip fh30 rfl rfl (.some rfl rfl rfl) fun fa31 fh31 => ?_;clear fh30 fa30;refine Kn.pure fh31 rfl rfl .none (Kn.ex_pick fh31 (.tmp rfl) .const) fun fa32 fh32 => ?_;clear fh31 fa31;refine wpList_nil ?_;refine hK13 _ _ ?_;clear hK13 K13;replace fh32 := fh32.cut (.cons (t := 36) rfl (.cons (t := 5) rfl (.cons (t := 20) rfl (.cons (t := 18) rfl (.cons (t := 19) rfl (.cons (t := 0) rfl .nil))))));refine Kn.yes fh32 (.tmp rfl) ?_;replace fh32 := fh32.cut (.cons (t := 5) rfl (.cons (t := 20) rfl (.cons (t := 18) rfl (.cons (t := 19) rfl (.cons (t := 0) rfl .nil)))));refine wp_seq_k fun K14 hK14 => ?_;refine wp_region_lit ?_;refine Kn.pure fh32 rfl rfl .none (Kn.ex_move fh32 (.tmp rfl)) fun fa33 fh33 => ?_;clear fh32 fa32;refine Kn.call fh33 rfl rfl .none (Kn.ex_call fh33 (.cons (.tmp rfl) (.cons .const .nil))) Tryz.call77 (fault_any k 10 _) fun e w1 hp => ?_;obtain ⟨rfl, rfl⟩ := hp;refine ⟨_, rfl, fun fa34 fh34 => ?_⟩;clear fh33 fa33;refine Kn.pure fh34 rfl rfl .none (Kn.ex_assign fh34 (.tmp rfl)) fun fa35 fh35 => ?_;clear fh34 fa34;refine wpList_nil ?_;refine hK14 _ _ ?_;clear hK14 K14;replace fh35 := fh35.cut (.cons (t := 4) rfl (.cons (t := 20) rfl (.cons (t := 18) rfl (.cons (t := 19) rfl (.cons (t := 0) rfl .nil)))));refine wp_ret ?_;refine Kn.block_ret ?_;refine Kn.then_ret ?_;refine Kn.then_ret ?_;refine Kn.block_ret ?_;refine Kn.then_ret ?_;exact Kn.ret1 fh35 rfl rfl ⟨by rw [if_pos hlt], HB.out.alloc HB.out.size _⟩
  · obtain rfl : k = xs.length := by omega
    refine wp_seq_k fun K9 hK9 => ?_;refine wp_region_lit ?_;refine Kn.step fh14 rfl rfl .none (Kn.ex_bin fh14 (.tmp rfl) (.tmp rfl)) fun Ko hKo => ?_;go_simp;(try go_bits);refine hKo _ _ fun fa15 fh15 => ?_;clear hKo Ko fh14 fa14;refine wpList_nil ?_;refine hK9 _ _ ?_;clear hK9 K9;refine wp_seq_k fun K10 hK10 => ?_;refine Kn.no fh15 (.tmp rfl) ?_;replace fh15 := fh15.cut (.cons (t := 20) rfl (.cons (t := 18) rfl (.cons (t := 19) rfl (.cons (t := 0) rfl .nil))));refine wp_exit ?_;refine Kn.then_exit ?_;clear hK10 K10;refine Kn.then_exit ?_;clear hKl8 Kl8;refine Kn.block_exit ?_;refine hK6 _ _ ?_;clear hK6 K6;replace fh15 := fh15.cut .nil;refine wp_seq_k fun K11 hK11 => ?_;refine wp_region_lit ?_;refine Kn.pure fh15 rfl rfl .none (Kn.ex_assign fh15 .const) fun fa16 fh16 => ?_;clear fh15 fa15;refine wpList_nil ?_;refine hK11 _ _ ?_;clear hK11 K11;refine wp_ret ?_;exact Kn.ret1 fh16 rfl rfl ⟨by rw [if_neg (by omega)], HB.out⟩
end Go.Proofs.YtbahklpdldghbaaGreatDoor.Edg
end
section
namespace Go.Proofs.YtbahklpdldghbaaGreatDoor.Edg
open Go Go.RowKit Go.Lib
theorem below_drewN (B : Nat) (w : World) (q : Nat) : Below B w (w.drewN q) := ⟨rfl, rfl, rfl, Nat.le_refl _, fun _ _ => rfl⟩
def CI (w u : World) (g : Nat) (l : List (Int × Int)) (p k a : Nat) : Prop := ∃ R, HoldE u g R ∧ R.length = l.length ∧ R.take a = ddk l (p + k) ∧ (∀ j, p + k ≤ j + 1 → j < l.length → ed R j = ed l j) ∧ Below g w u
section
variable {w u : World} {g : Nat} {l : List (Int × Int)} {p k a : Nat}
theorem CI.drew (h : CI w u g l p k a) : CI w u.drew g l p k a := by
  obtain ⟨R, h1, h2, h3, h4, h5⟩ := h;exact ⟨R, h1, h2, h3, h4, h5.drew⟩
theorem CI.start (h : HoldE w g l) (q : Nat) (hd : ddk l (p + 1) = l.take p) : CI w (w.drewN q) g l p 1 p := ⟨l, h, rfl, hd.symm, fun _ _ _ => rfl, below_drewN _ _ _⟩
theorem CI.at (h : CI w u g l p k a) (hk : p + k < l.length) : (u.cell? ⟨g, p * 2 + k * 2, none⟩ = some (.int .i64 (ed l (p + k)).1) ∧ u.cell? ⟨g, p * 2 + k * 2 + 1, none⟩ = some (.int .i64 (ed l (p + k)).2)) := by
  obtain ⟨R, h1, h2, h3, h4, h5⟩ := h;have := (h1 (p + k) (by omega)).1
  rwa [h4 (p + k) (by omega) hk, show (p + k) * 2 = p * 2 + k * 2 by omega] at this
theorem CI.prev (h : CI w u g l p k a) {j : Nat} (hj : k = j + 1) (hk : p + k < l.length) : (u.cell? ⟨g, p * 2 + j * 2, none⟩ = some (.int .i64 (ed l (p + j)).1) ∧ u.cell? ⟨g, p * 2 + j * 2 + 1, none⟩ = some (.int .i64 (ed l (p + j)).2)) := by
  obtain ⟨R, h1, h2, h3, h4, h5⟩ := h;have := (h1 (p + j) (by omega)).1
  rwa [h4 (p + j) (by omega) (by omega), show (p + j) * 2 = p * 2 + j * 2 by omega] at this
theorem CI.same (h : CI w u g l p k a) (h0 : 0 < p + k) (he : ed l (p + k) = ed l (p + k - 1)) : CI w u g l p (k + 1) a := by
  obtain ⟨R, h1, h2, h3, h4, h5⟩ := h;exact ⟨R, h1, h2, by rw [← Nat.add_assoc, ddk_same l (p + k) h0 he]; exact h3, fun j hj hl => h4 j (by omega) hl, h5⟩
theorem CI.store (h : CI w u g l p k a) (ha : a + 1 ≤ p + k) (hk : p + k < l.length) {x y : Int} (he : ed l (p + k) = (x, y)) (hne : ed l (p + k) ≠ ed l (p + k - 1)) :
    ∃ u', (Instr.storeAt 134 (.pointer (some ⟨g, a * 2, none⟩)) (.agg #[.int .i64 x, .int .i64 y])).run Tryz.prog u = .ok () u' ∧ CI w u' g l p (k + 1) (a + 1) := by
  obtain ⟨R, h1, h2, h3, h4, h5⟩ := h;obtain ⟨u', r, s1, s2, -⟩ := h1.store a (by omega) x y;refine ⟨u', r, R.set a (x, y), s1, by simp [h2], ?_, fun j hj hl => ?_, h5.trans (s2 _ (Nat.le_refl _))⟩
  · rw [← Nat.add_assoc, ddk_more l (p + k) (.inr hne), ← h3, he];have hR : a < R.length := by omega
    rw [take_ed _ _ (by simpa using hR), ed_set R a a (x, y) hR, if_pos rfl, List.take_set_of_le (Nat.le_refl _)]
  · rw [ed_set R a j (x, y) (by omega), if_neg (by omega)];exact h4 j (by omega) hl
theorem CI.len (h : CI w u g l p k a) (ha : a ≤ l.length) : a = (ddk l (p + k)).length := by
  obtain ⟨R, h1, h2, h3, h4, h5⟩ := h;rw [← h3]; simp; omega
theorem CI.clear (h : CI w u g l p k a) (ha : a < l.length) (c : Nat) (ty : TypeId) :
    ∃ u', (Builtin.clear_ #[65] ty #[.slice (some ⟨g, a * 2, none⟩) (l.length - a) c]).run Tryz.prog u = .ok (.tuple #[]) u' ∧ HoldE u' g (ddk l (p + k)) ∧ Below g w u' := by
  obtain ⟨R, h1, h2, h3, h4, h5⟩ := h;obtain ⟨u', r, s1, s2⟩ := h1.clear a c ty (by omega);rw [h2] at r;rw [h3] at s1;exact ⟨u', r, s1, h5.trans (s2 _ (Nat.le_refl _))⟩
end
end Go.Proofs.YtbahklpdldghbaaGreatDoor.Edg
end
section
namespace Go.Proofs.YtbahklpdldghbaaGreatDoor.Edg
open Go Go.RowKit Go.Lib
set_option maxRecDepth 100000 in
set_option maxHeartbeats 2000000 in
theorem compact_few (A : Option Addr) (n cap : Nat) (w : World) (h : (n : Int) < 2) (_h2 : n < 2) :
    Calls Tryz.prog 62 #[.slice A n cap] w fun e w' => e = .returned (.slice A n cap) ∧ w = w' := by
  refine Kn.calls Tryz.func62 rfl Tryz.ntmps62 rfl (.cons (t := 0) rfl .nil) fun fa0 fh0 => ?_;refine wp_seq_k fun K1 hK1 => ?_;refine wp_region_lit ?_;refine Kn.pure fh0 rfl rfl .none (Kn.ex_assign fh0 .const) fun fa1 fh1 => ?_;clear fh0 fa0;refine wpList_nil ?_;refine hK1 _ _ ?_;clear hK1 K1;refine wp_seq_k fun K2 hK2 => ?_;refine wp_seq_k fun K3 hK3 => ?_;refine wp_region_lit ?_;refine Kn.pure fh1 rfl rfl .none (Kn.ex_move fh1 (.tmp rfl)) fun fa2 fh2 => ?_;clear fh1 fa1;refine Kn.step fh2 rfl rfl .none (Kn.ex_len fh2 (.tmp rfl)) fun Ko hKo => ?_;go_simp;(try go_bits);refine hKo _ _ fun fa3 fh3 => ?_;clear hKo Ko fh2 fa2;refine Kn.step fh3 rfl rfl .none (Kn.ex_bin fh3 (.tmp rfl) .const) fun Ko hKo => ?_;go_simp;(try go_bits);refine hKo _ _ fun fa4 fh4 => ?_;clear hKo Ko fh3 fa3;refine wpList_nil ?_;refine hK3 _ _ ?_;clear hK3 K3;replace fh4 := fh4.cut (.cons (t := 8) rfl (.cons (t := 2) rfl (.cons (t := 0) rfl .nil)));refine Kn.yes fh4 (.tmp rfl) ?_;replace fh4 := fh4.cut (.cons (t := 2) rfl (.cons (t := 0) rfl .nil));refine wp_seq_k fun K4 hK4 => ?_;refine wp_region_lit ?_;refine Kn.pure fh4 rfl rfl .none (Kn.ex_move fh4 (.tmp rfl)) fun fa5 fh5 => ?_;clear fh4 fa4;refine Kn.pure fh5 rfl rfl .none (Kn.ex_assign fh5 (.tmp rfl)) fun fa6 fh6 => ?_;clear fh5 fa5;refine wpList_nil ?_;refine hK4 _ _ ?_;clear hK4 K4;replace fh6 := fh6.cut (.cons (t := 2) rfl (.cons (t := 0) rfl .nil));refine wp_ret ?_;refine Kn.then_ret ?_;exact Kn.ret1 fh6 rfl rfl ⟨rfl, rfl⟩
theorem sat_run {r : Result Value} {x : Value} {v : World} (H : Kn.Sat (fun y w' => y = x ∧ w' = v) r) : r = .ok x v := by
  cases r with
  | ok y w' => obtain ⟨rfl, rfl⟩ := H; rfl
  | halt y w' => exact H.elim
theorem sliceLE (g n cap a : Nat) (v : World) (h : a ≤ n) (_h2 : n ≤ cap) (h3 : a < cap) (_h4 : cap ≤ 9223372036854775807) : (Instr.sliceAt 65 (.slice (some ⟨g, 0, none⟩) n cap) (some (.int .i64 (a : Int))) none none).run Tryz.prog v = .ok (.slice (some ⟨g, a * 2, none⟩) (n - a) (cap - a)) v := by
  refine sat_run ?_;go_simp;(try go_bits);have h5 : ¬ cap = a := by omega
  simp [h5]
theorem ddk_one (l : List (Int × Int)) (h : 0 < l.length) : ddk l 1 = l.take 1 := by rw [ddk_more l 0 (.inl rfl), take_ed l 0 h]; rfl
set_option maxRecDepth 100000 in
set_option maxHeartbeats 2000000 in
theorem compact_any (g n cap : Nat) (l : List (Int × Int)) (w : World) (hn : n = l.length) (h2 : 2 ≤ n) (hcap : n ≤ cap) (hc : cap ≤ maxLen) (hH : HoldE w g l) (hbig : n ≤ 20000) :
    Calls Tryz.prog 62 #[.slice (some ⟨g, 0, none⟩) n cap] w fun e w' => ∃ n' c', n' = (ddk l n).length ∧ e = .returned (.slice (some ⟨g, 0, none⟩) n' c') ∧ HoldE w' g (ddk l n) ∧ Below g w w' := by
  have HH := Lib.hid hH;have HL := Lib.hid hn;clear hH hn;have h3 : ¬ (n : Int) < 2 := by omega
  have h4 : ¬ n < 2 := by omega
  unfold maxLen at hc;refine Kn.calls Tryz.func62 rfl Tryz.ntmps62 rfl (.cons (t := 0) rfl .nil) fun fa0 fh0 => ?_;refine wp_seq_k fun K1 hK1 => ?_;refine wp_region_lit ?_;refine Kn.pure fh0 rfl rfl .none (Kn.ex_assign fh0 .const) fun fa1 fh1 => ?_;clear fh0 fa0;refine wpList_nil ?_;refine hK1 _ _ ?_;clear hK1 K1;refine wp_seq_k fun K2 hK2 => ?_;refine wp_seq_k fun K3 hK3 => ?_;refine wp_region_lit ?_;refine Kn.pure fh1 rfl rfl .none (Kn.ex_move fh1 (.tmp rfl)) fun fa2 fh2 => ?_;clear fh1 fa1;refine Kn.step fh2 rfl rfl .none (Kn.ex_len fh2 (.tmp rfl)) fun Ko hKo => ?_;go_simp;(try go_bits);refine hKo _ _ fun fa3 fh3 => ?_;clear hKo Ko fh2 fa2;refine Kn.step fh3 rfl rfl .none (Kn.ex_bin fh3 (.tmp rfl) .const) fun Ko hKo => ?_;go_simp;(try go_bits);refine hKo _ _ fun fa4 fh4 => ?_;clear hKo Ko fh3 fa3;refine wpList_nil ?_;refine hK3 _ _ ?_;clear hK3 K3;replace fh4 := fh4.cut (.cons (t := 8) rfl (.cons (t := 2) rfl (.cons (t := 0) rfl .nil)));refine Kn.no fh4 (.tmp rfl) ?_;refine wp_skip ?_;refine hK2 _ _ ?_;clear hK2 K2;replace fh4 := fh4.cut (.cons (t := 2) rfl (.cons (t := 0) rfl .nil));refine wp_seq_k fun K4 hK4 => ?_;refine wp_seq_k fun K5 hK5 => ?_;refine wp_region_lit ?_;refine Kn.pure fh4 rfl rfl .none (Kn.ex_assign fh4 .const) fun fa5 fh5 => ?_;clear fh4 fa4;refine wpList_nil ?_;refine hK5 _ _ ?_;clear hK5 K5;refine wp_block ?_;refine Kn.loop (fun m fr u => ∃ (i j q : Nat), Kn.Kn 61 [(3, .int .i64 (i : Int)), (0, .slice (some ⟨g, 0, none⟩) n cap)] fr ∧ i + m = n ∧ i = j + 1 ∧ Hid (ddk l i = l.take i) ∧ u = w.drewN q) (n - 1) ⟨1, 0, 0, fh5.cut (.cons (t := 3) rfl (.cons (t := 0) rfl .nil)), by omega, rfl, Lib.hid (ddk_one l (by have hl := HL.out; omega)), rfl⟩ ?_;clear fh5 fa5;intro m6 fa6 u hI Kl6 hKl6;obtain ⟨i, j, q, fh6, him, hij, HD, rfl⟩ := hI
  by_cases hlt : i < n
  · obtain ⟨⟨ca1, ca2⟩, -⟩ := HH.out i (by have hl := HL.out; omega);obtain ⟨⟨cb1, cb2⟩, -⟩ := HH.out j (by have hl := HL.out; omega);obtain ⟨x1, hx1⟩ : ∃ x, (ed l i).1 = x := ⟨_, rfl⟩;obtain ⟨x2, hx2⟩ : ∃ x, (ed l i).2 = x := ⟨_, rfl⟩;obtain ⟨y1, hy1⟩ : ∃ x, (ed l j).1 = x := ⟨_, rfl⟩;obtain ⟨y2, hy2⟩ : ∃ x, (ed l j).2 = x := ⟨_, rfl⟩;rw [hx1] at ca1;rw [hx2] at ca2;rw [hy1] at cb1;rw [hy2] at cb2;have HX : Hid (ed l i = (x1, x2)) := Lib.hid (by rw [← hx1, ← hx2]);have HY : Hid (ed l j = (y1, y2)) := Lib.hid (by rw [← hy1, ← hy2]);clear hx1 hx2 hy1 hy2;have qs : (i : Int) - 1 = (j : Int) := by omega
    have hjn : j < n := by omega
    have HIJ := Lib.hid hij;clear hij;refine wp_seq_k fun K7 hK7 => ?_;refine wp_seq_k fun K8 hK8 => ?_;refine wp_region_lit ?_;refine Kn.pure fh6 rfl rfl .none (Kn.ex_move fh6 (.tmp rfl)) fun fa7 fh7 => ?_;clear fh6 fa6;refine Kn.pure fh7 rfl rfl .none (Kn.ex_move fh7 (.tmp rfl)) fun fa8 fh8 => ?_;clear fh7 fa7;refine Kn.step fh8 rfl rfl .none (Kn.ex_len fh8 (.tmp rfl)) fun Ko hKo => ?_;go_simp;(try go_bits);refine hKo _ _ fun fa9 fh9 => ?_;clear hKo Ko fh8 fa8;refine Kn.step fh9 rfl rfl .none (Kn.ex_bin fh9 (.tmp rfl) (.tmp rfl)) fun Ko hKo => ?_;go_simp;(try go_bits);refine hKo _ _ fun fa10 fh10 => ?_;clear hKo Ko fh9 fa9;refine wpList_nil ?_;refine hK8 _ _ ?_;clear hK8 K8;replace fh10 := fh10.cut (.cons (t := 13) rfl (.cons (t := 3) rfl (.cons (t := 0) rfl .nil)));refine Kn.yes fh10 (.tmp rfl) ?_;refine wp_skip ?_;refine hK7 _ _ ?_;clear hK7 K7;replace fh10 := fh10.cut (.cons (t := 3) rfl (.cons (t := 0) rfl .nil));refine wp_seq_k fun K9 hK9 => ?_;refine wp_block ?_
    by_cases e1 : (x1, x2) = (y1, y2)
    · have q1 : decide ((x1, x2) = (y1, y2)) = true := decide_eq_true e1;have HE : Hid (ed l i = ed l (i - 1)) := Lib.hid (by have := HIJ.out; rw [show i - 1 = j by omega, HX.out, HY.out, e1]);clear e1;refine wp_seq_k fun K10 hK10 => ?_;refine Kn.still (by kernel_rfl) (by kernel_rfl) ?_;refine Kn.spure fh10 rfl rfl .none (Kn.ex_move fh10 (.tmp rfl)) fun fa11 fh11 => ?_;clear fh10 fa10;refine Kn.spure fh11 rfl rfl .none (Kn.ex_move fh11 (.tmp rfl)) fun fa12 fh12 => ?_;clear fh11 fa11;refine Kn.sstep fh12 rfl rfl .none (Kn.ex_indexAddr fh12 (.tmp rfl) (.tmp rfl)) fun Ko hKo => ?_;go_simp;(try go_bits);refine hKo _ fun fa13 fh13 => ?_;clear hKo Ko fh12 fa12;refine Kn.sstep fh13 rfl rfl .none (Kn.ex_load fh13 (.tmp rfl)) fun Ko hKo => ?_;go_simp;(try go_bits);refine hKo _ fun fa14 fh14 => ?_;clear hKo Ko fh13 fa13;refine Kn.spure fh14 rfl rfl .none (Kn.ex_move fh14 (.tmp rfl)) fun fa15 fh15 => ?_;clear fh14 fa14;refine Kn.spure fh15 rfl rfl .none (Kn.ex_move fh15 (.tmp rfl)) fun fa16 fh16 => ?_;clear fh15 fa15;refine Kn.sstep fh16 rfl rfl .none (Kn.ex_bin fh16 (.tmp rfl) .const) fun Ko hKo => ?_;go_simp;(try go_bits);refine hKo _ fun fa17 fh17 => ?_;clear hKo Ko fh16 fa16;refine Kn.sstep fh17 rfl rfl .none (Kn.ex_indexAddr fh17 (.tmp rfl) (.tmp rfl)) fun Ko hKo => ?_;go_simp;(try go_bits);refine hKo _ fun fa18 fh18 => ?_;clear hKo Ko fh17 fa17;refine Kn.sstep fh18 rfl rfl .none (Kn.ex_load fh18 (.tmp rfl)) fun Ko hKo => ?_;go_simp;(try go_bits);refine hKo _ fun fa19 fh19 => ?_;clear hKo Ko fh18 fa18;refine Kn.sstep fh19 rfl rfl .none (Kn.ex_bin fh19 (.tmp rfl) (.tmp rfl)) fun Ko hKo => ?_;rw [eqlE, q1];refine hKo _ fun fa20 fh20 => ?_;clear hKo Ko fh19 fa19;refine wpStill_nil ?_;refine hK10 _ _ ?_;clear hK10 K10;replace fh20 := fh20.cut (.cons (t := 25) rfl (.cons (t := 3) rfl (.cons (t := 0) rfl .nil)));refine Kn.yes fh20 (.tmp rfl) ?_;replace fh20 := fh20.cut (.cons (t := 3) rfl (.cons (t := 0) rfl .nil));clear ca1 ca2 cb1 cb2 q1 HX HY qs;have HC0 : Hid (CI w (w.drewN (q + 1)) g l i 1 i) := Lib.hid (CI.start HH.out (q + 1) (by have := HIJ.out; rw [ddk_same l i (by omega) HE.out, HD.out]));clear HE HD;have hi1 : i ≤ n := by omega
      have hi2 : i ≤ cap := by omega
      obtain ⟨m2, hm2⟩ : ∃ x, n - i = x := ⟨_, rfl⟩;obtain ⟨c2, hc2⟩ : ∃ x, cap - i = x := ⟨_, rfl⟩;obtain ⟨p2, hp2⟩ : ∃ x, i * 2 = x := ⟨_, rfl⟩;have HM : Hid (i + m2 = n ∧ p2 = i * 2 ∧ i + c2 = cap) := Lib.hid (by omega);have hm3 : m2 ≤ 20000 := by omega
      refine wp_seq_k fun K11 hK11 => ?_;refine wp_region_lit ?_;refine Kn.pure fh20 rfl rfl .none (Kn.ex_move fh20 (.tmp rfl)) fun fa21 fh21 => ?_;clear fh20 fa20;refine Kn.pure fh21 rfl rfl .none (Kn.ex_move fh21 (.tmp rfl)) fun fa22 fh22 => ?_;clear fh21 fa21;refine Kn.step fh22 rfl rfl .none (Kn.ex_sliceL fh22 (.tmp rfl) (.tmp rfl)) fun Ko hKo => ?_;go_simp;(try go_bits);refine hKo _ _ fun fa23 fh23 => ?_;clear hKo Ko fh22 fa22;refine Kn.pure fh23 rfl rfl .none (Kn.ex_assign fh23 (.tmp rfl)) fun fa24 fh24 => ?_;clear fh23 fa23;refine wpList_nil ?_;refine hK11 _ _ ?_;clear hK11 K11;replace fh24 := fh24.cut (.cons (t := 4) rfl (.cons (t := 3) rfl (.cons (t := 0) rfl .nil)));refine wp_seq_k fun K12 hK12 => ?_;refine wp_seq_k fun K13 hK13 => ?_;refine wp_region_lit ?_;refine Kn.pure fh24 rfl rfl .none (Kn.ex_assign fh24 .const) fun fa25 fh25 => ?_;clear fh24 fa24;refine wpList_nil ?_;refine hK13 _ _ ?_;clear hK13 K13;refine wp_block ?_;refine Kn.loop (fun m fr u => ∃ (k j2 a : Nat), Kn.Kn 61 [(5, .int .i64 (k : Int)), (3, .int .i64 (a : Int)), (4, .slice (some ⟨g, p2, none⟩) m2 c2), (0, .slice (some ⟨g, 0, none⟩) n cap)] fr ∧ k + m = m2 ∧ k = j2 + 1 ∧ a + 1 ≤ i + k ∧ Hid (CI w u g l i k a)) (m2 - 1) ⟨1, 0, i, fh25.cut (.cons (t := 5) rfl (.cons (t := 3) rfl (.turn (t := 4) rfl (by rw [if_neg (by omega)]) (.cons (t := 0) rfl .nil)))), by omega, rfl, by omega, HC0⟩ ?_;clear fh25 fa25;intro m14 fa26 u hI Kl14 hKl14;obtain ⟨k, j2, a, fh26, hkm, hkj, hak, HC⟩ := hI;clear hm2 hc2 hp2 HC0
      by_cases hlt2 : k < m2
      · have hik : i + k < l.length := by have := HM.out.1; have := HL.out; omega
        obtain ⟨ca1, ca2⟩ := HC.out.at hik;obtain ⟨cb1, cb2⟩ := HC.out.prev hkj hik;rw [← HM.out.2.1] at ca1 ca2 cb1 cb2;obtain ⟨x3, hx3⟩ : ∃ x, (ed l (i + k)).1 = x := ⟨_, rfl⟩;obtain ⟨x4, hx4⟩ : ∃ x, (ed l (i + k)).2 = x := ⟨_, rfl⟩;obtain ⟨y3, hy3⟩ : ∃ x, (ed l (i + j2)).1 = x := ⟨_, rfl⟩;obtain ⟨y4, hy4⟩ : ∃ x, (ed l (i + j2)).2 = x := ⟨_, rfl⟩;rw [hx3] at ca1;rw [hx4] at ca2;rw [hy3] at cb1;rw [hy4] at cb2;have HX2 : Hid (ed l (i + k) = (x3, x4)) := Lib.hid (by rw [← hx3, ← hx4]);have HY2 : Hid (ed l (i + k - 1) = (y3, y4)) := Lib.hid (by rw [← hy3, ← hy4, show i + k - 1 = i + j2 by omega]);clear hx3 hx4 hy3 hy4;have qs : (k : Int) - 1 = (j2 : Int) := by omega
        have hj2 : j2 < m2 := by omega
        have HIK := Lib.hid hik;have HKJ := Lib.hid hkj;clear hik hkj;refine wp_seq_k fun K15 hK15 => ?_;refine wp_seq_k fun K16 hK16 => ?_;refine wp_region_lit ?_;refine Kn.pure fh26 rfl rfl .none (Kn.ex_move fh26 (.tmp rfl)) fun fa27 fh27 => ?_;clear fh26 fa26;refine Kn.pure fh27 rfl rfl .none (Kn.ex_move fh27 (.tmp rfl)) fun fa28 fh28 => ?_;clear fh27 fa27;refine Kn.step fh28 rfl rfl .none (Kn.ex_len fh28 (.tmp rfl)) fun Ko hKo => ?_;go_simp;(try go_bits);refine hKo _ _ fun fa29 fh29 => ?_;clear hKo Ko fh28 fa28;refine Kn.step fh29 rfl rfl .none (Kn.ex_bin fh29 (.tmp rfl) (.tmp rfl)) fun Ko hKo => ?_;go_simp;(try go_bits);refine hKo _ _ fun fa30 fh30 => ?_;clear hKo Ko fh29 fa29;refine wpList_nil ?_;refine hK16 _ _ ?_;clear hK16 K16;replace fh30 := fh30.cut (.cons (t := 32) rfl (.cons (t := 5) rfl (.cons (t := 3) rfl (.cons (t := 4) rfl (.cons (t := 0) rfl .nil)))));refine Kn.yes fh30 (.tmp rfl) ?_;refine wp_skip ?_;refine hK15 _ _ ?_;clear hK15 K15;replace fh30 := fh30.cut (.cons (t := 5) rfl (.cons (t := 3) rfl (.cons (t := 4) rfl (.cons (t := 0) rfl .nil))));refine wp_seq_k fun K17 hK17 => ?_;refine wp_block ?_
        by_cases e2 : (x3, x4) = (y3, y4)
        · have q2 : (!decide ((x3, x4) = (y3, y4))) = false := by simp only [e2, decide_true, Bool.not_true]
          have HC2 : Hid (CI w u.drew g l i (k + 1) a) := Lib.hid (HC.out.drew.same (by have := HKJ.out; omega) (by rw [HX2.out, HY2.out, e2]));clear e2;refine wp_seq_k fun K18 hK18 => ?_;refine Kn.still (by kernel_rfl) (by kernel_rfl) ?_;refine Kn.spure fh30 rfl rfl .none (Kn.ex_move fh30 (.tmp rfl)) fun fa31 fh31 => ?_;clear fh30 fa30;refine Kn.spure fh31 rfl rfl .none (Kn.ex_move fh31 (.tmp rfl)) fun fa32 fh32 => ?_;clear fh31 fa31;refine Kn.sstep fh32 rfl rfl .none (Kn.ex_indexAddr fh32 (.tmp rfl) (.tmp rfl)) fun Ko hKo => ?_;go_simp;(try go_bits);refine hKo _ fun fa33 fh33 => ?_;clear hKo Ko fh32 fa32;refine Kn.sstep fh33 rfl rfl .none (Kn.ex_load fh33 (.tmp rfl)) fun Ko hKo => ?_;go_simp;(try go_bits);refine hKo _ fun fa34 fh34 => ?_;clear hKo Ko fh33 fa33;refine Kn.spure fh34 rfl rfl .none (Kn.ex_move fh34 (.tmp rfl)) fun fa35 fh35 => ?_;clear fh34 fa34;refine Kn.spure fh35 rfl rfl .none (Kn.ex_move fh35 (.tmp rfl)) fun fa36 fh36 => ?_;clear fh35 fa35;refine Kn.sstep fh36 rfl rfl .none (Kn.ex_bin fh36 (.tmp rfl) .const) fun Ko hKo => ?_;go_simp;(try go_bits);refine hKo _ fun fa37 fh37 => ?_;clear hKo Ko fh36 fa36;refine Kn.sstep fh37 rfl rfl .none (Kn.ex_indexAddr fh37 (.tmp rfl) (.tmp rfl)) fun Ko hKo => ?_;go_simp;(try go_bits);refine hKo _ fun fa38 fh38 => ?_;clear hKo Ko fh37 fa37;refine Kn.sstep fh38 rfl rfl .none (Kn.ex_load fh38 (.tmp rfl)) fun Ko hKo => ?_;go_simp;(try go_bits);refine hKo _ fun fa39 fh39 => ?_;clear hKo Ko fh38 fa38;refine Kn.sstep fh39 rfl rfl .none (Kn.ex_bin fh39 (.tmp rfl) (.tmp rfl)) fun Ko hKo => ?_;rw [neqE, q2];refine hKo _ fun fa40 fh40 => ?_;clear hKo Ko fh39 fa39;refine wpStill_nil ?_;refine hK18 _ _ ?_;clear hK18 K18;replace fh40 := fh40.cut (.cons (t := 44) rfl (.cons (t := 5) rfl (.cons (t := 3) rfl (.cons (t := 4) rfl (.cons (t := 0) rfl .nil)))));refine Kn.no fh40 (.tmp rfl) ?_;refine wp_skip ?_;refine Kn.block_normal ?_;refine hK17 _ _ ?_;clear hK17 K17;replace fh40 := fh40.cut (.cons (t := 5) rfl (.cons (t := 3) rfl (.cons (t := 4) rfl (.cons (t := 0) rfl .nil))));refine wp_region_lit ?_;refine Kn.pure fh40 rfl rfl .none (Kn.ex_move fh40 (.tmp rfl)) fun fa41 fh41 => ?_;clear fh40 fa40;refine Kn.step fh41 rfl rfl .none (Kn.ex_bin fh41 (.tmp rfl) .const) fun Ko hKo => ?_;go_simp;(try go_bits);refine hKo _ _ fun fa42 fh42 => ?_;clear hKo Ko fh41 fa41;refine Kn.pure fh42 rfl rfl .none (Kn.ex_assign fh42 (.tmp rfl)) fun fa43 fh43 => ?_;clear fh42 fa42;refine wpList_nil ?_;replace fh43 := fh43.cut (.cons (t := 5) rfl (.cons (t := 3) rfl (.cons (t := 4) rfl (.cons (t := 0) rfl .nil))));exact hKl14 (m14 - 1) _ _ (by omega) ⟨k + 1, k, a, fh43.cut (.turn (t := 5) rfl (by go_num) (.cons (t := 3) rfl (.cons (t := 4) rfl (.cons (t := 0) rfl .nil)))), by omega, rfl, by omega, HC2⟩
        · have q2 : (!decide ((x3, x4) = (y3, y4))) = true := by simp only [e2, decide_false, Bool.not_false]
          obtain ⟨u2, hst, hC2⟩ := HC.out.drew.store hak HIK.out HX2.out (by rw [HX2.out, HY2.out]; exact e2);have HC2 := Lib.hid hC2;have han : a < n := by have := HIK.out; have := HL.out; omega
          clear e2 hC2;refine wp_seq_k fun K18 hK18 => ?_;refine Kn.still (by kernel_rfl) (by kernel_rfl) ?_;refine Kn.spure fh30 rfl rfl .none (Kn.ex_move fh30 (.tmp rfl)) fun fa31 fh31 => ?_;clear fh30 fa30;refine Kn.spure fh31 rfl rfl .none (Kn.ex_move fh31 (.tmp rfl)) fun fa32 fh32 => ?_;clear fh31 fa31;refine Kn.sstep fh32 rfl rfl .none (Kn.ex_indexAddr fh32 (.tmp rfl) (.tmp rfl)) fun Ko hKo => ?_;go_simp;(try go_bits);refine hKo _ fun fa33 fh33 => ?_;clear hKo Ko fh32 fa32;refine Kn.sstep fh33 rfl rfl .none (Kn.ex_load fh33 (.tmp rfl)) fun Ko hKo => ?_;go_simp;(try go_bits);refine hKo _ fun fa34 fh34 => ?_;clear hKo Ko fh33 fa33;refine Kn.spure fh34 rfl rfl .none (Kn.ex_move fh34 (.tmp rfl)) fun fa35 fh35 => ?_;clear fh34 fa34;refine Kn.spure fh35 rfl rfl .none (Kn.ex_move fh35 (.tmp rfl)) fun fa36 fh36 => ?_;clear fh35 fa35;refine Kn.sstep fh36 rfl rfl .none (Kn.ex_bin fh36 (.tmp rfl) .const) fun Ko hKo => ?_;go_simp;(try go_bits);refine hKo _ fun fa37 fh37 => ?_;clear hKo Ko fh36 fa36;refine Kn.sstep fh37 rfl rfl .none (Kn.ex_indexAddr fh37 (.tmp rfl) (.tmp rfl)) fun Ko hKo => ?_;go_simp;(try go_bits);refine hKo _ fun fa38 fh38 => ?_;clear hKo Ko fh37 fa37;refine Kn.sstep fh38 rfl rfl .none (Kn.ex_load fh38 (.tmp rfl)) fun Ko hKo => ?_;go_simp;(try go_bits);refine hKo _ fun fa39 fh39 => ?_;clear hKo Ko fh38 fa38;refine Kn.sstep fh39 rfl rfl .none (Kn.ex_bin fh39 (.tmp rfl) (.tmp rfl)) fun Ko hKo => ?_;rw [neqE, q2];refine hKo _ fun fa40 fh40 => ?_;clear hKo Ko fh39 fa39;refine wpStill_nil ?_;refine hK18 _ _ ?_;clear hK18 K18;replace fh40 := fh40.cut (.cons (t := 44) rfl (.cons (t := 5) rfl (.cons (t := 3) rfl (.cons (t := 4) rfl (.cons (t := 0) rfl .nil)))));refine Kn.yes fh40 (.tmp rfl) ?_;replace fh40 := fh40.cut (.cons (t := 5) rfl (.cons (t := 3) rfl (.cons (t := 4) rfl (.cons (t := 0) rfl .nil))));refine wp_seq_k fun K19 hK19 => ?_;refine wp_region_lit ?_;refine Kn.pure fh40 rfl rfl .none (Kn.ex_move fh40 (.tmp rfl)) fun fa41 fh41 => ?_;clear fh40 fa40;refine Kn.pure fh41 rfl rfl .none (Kn.ex_move fh41 (.tmp rfl)) fun fa42 fh42 => ?_;clear fh41 fa41;refine Kn.pure fh42 rfl rfl .none (Kn.ex_move fh42 (.tmp rfl)) fun fa43 fh43 => ?_;clear fh42 fa42;refine Kn.pure fh43 rfl rfl .none (Kn.ex_move fh43 (.tmp rfl)) fun fa44 fh44 => ?_;clear fh43 fa43;refine Kn.step fh44 rfl rfl .none (Kn.ex_indexAddr fh44 (.tmp rfl) (.tmp rfl)) fun Ko hKo => ?_;go_simp;(try go_bits);refine hKo _ _ fun fa45 fh45 => ?_;clear hKo Ko fh44 fa44;refine Kn.step fh45 rfl rfl .none (Kn.ex_load fh45 (.tmp rfl)) fun Ko hKo => ?_;go_simp;(try go_bits);refine hKo _ _ fun fa46 fh46 => ?_;clear hKo Ko fh45 fa45;refine Kn.step fh46 rfl rfl .none (Kn.ex_indexAddr fh46 (.tmp rfl) (.tmp rfl)) fun Ko hKo => ?_;go_simp;(try go_bits);refine hKo _ _ fun fa47 fh47 => ?_;clear hKo Ko fh46 fa46;refine Kn.stepU fh47 rfl .none (Kn.ex_store fh47 (.tmp rfl) (.tmp rfl)) fun Ko hKo => ?_;rw [hst];refine hKo _ ?_;clear hKo Ko;refine wpList_nil ?_;refine hK19 _ _ ?_;clear hK19 K19;replace fh47 := fh47.cut (.cons (t := 5) rfl (.cons (t := 3) rfl (.cons (t := 4) rfl (.cons (t := 0) rfl .nil))));clear hst q2;refine wp_region_lit ?_;refine Kn.pure fh47 rfl rfl .none (Kn.ex_move fh47 (.tmp rfl)) fun fa48 fh48 => ?_;clear fh47 fa47;refine Kn.step fh48 rfl rfl .none (Kn.ex_bin fh48 (.tmp rfl) .const) fun Ko hKo => ?_;go_simp;(try go_bits);refine hKo _ _ fun fa49 fh49 => ?_;clear hKo Ko fh48 fa48;refine Kn.pure fh49 rfl rfl .none (Kn.ex_assign fh49 (.tmp rfl)) fun fa50 fh50 => ?_;clear fh49 fa49;refine wpList_nil ?_;refine Kn.block_normal ?_;refine hK17 _ _ ?_;clear hK17 K17;replace fh50 := fh50.cut (.cons (t := 3) rfl (.cons (t := 5) rfl (.cons (t := 4) rfl (.cons (t := 0) rfl .nil))));refine wp_region_lit ?_;refine Kn.pure fh50 rfl rfl .none (Kn.ex_move fh50 (.tmp rfl)) fun fa51 fh51 => ?_;clear fh50 fa50;refine Kn.step fh51 rfl rfl .none (Kn.ex_bin fh51 (.tmp rfl) .const) fun Ko hKo => ?_;go_simp;(try go_bits);refine hKo _ _ fun fa52 fh52 => ?_;clear hKo Ko fh51 fa51;refine Kn.pure fh52 rfl rfl .none (Kn.ex_assign fh52 (.tmp rfl)) fun fa53 fh53 => ?_;clear fh52 fa52;refine wpList_nil ?_;replace fh53 := fh53.cut (.cons (t := 5) rfl (.cons (t := 3) rfl (.cons (t := 4) rfl (.cons (t := 0) rfl .nil))));exact hKl14 (m14 - 1) _ _ (by omega) ⟨k + 1, k, a + 1, fh53.cut (.turn (t := 5) rfl (by go_num) (.turn (t := 3) rfl (by go_num) (.cons (t := 4) rfl (.cons (t := 0) rfl .nil)))), by omega, rfl, by omega, HC2⟩
      · have hkm2 : i + k = l.length := by have := HM.out.1; have := HL.out; omega
        have han : a < l.length := by omega
        obtain ⟨u2, hcl, hH2, hB2⟩ := HC.out.clear han (cap - a) 0;have HLN := Lib.hid (HC.out.len (Nat.le_of_lt han));rw [hkm2] at HLN;rw [hkm2] at hH2;have hl := HL.out;rw [← hl] at hcl hH2 HLN han;have HH2 := Lib.hid hH2;have HB2 := Lib.hid hB2;have hsl := sliceLE g n cap a u (by omega) hcap (by omega) (by omega);have hac : a ≤ cap := by omega
        clear hl hkm2 hH2 hB2 hkj;obtain rfl : k = m2 := by omega
        refine wp_seq_k fun K15 hK15 => ?_;refine wp_seq_k fun K16 hK16 => ?_;refine wp_region_lit ?_;refine Kn.pure fh26 rfl rfl .none (Kn.ex_move fh26 (.tmp rfl)) fun fa27 fh27 => ?_;clear fh26 fa26;refine Kn.pure fh27 rfl rfl .none (Kn.ex_move fh27 (.tmp rfl)) fun fa28 fh28 => ?_;clear fh27 fa27;refine Kn.step fh28 rfl rfl .none (Kn.ex_len fh28 (.tmp rfl)) fun Ko hKo => ?_;go_simp;(try go_bits);refine hKo _ _ fun fa29 fh29 => ?_;clear hKo Ko fh28 fa28;refine Kn.step fh29 rfl rfl .none (Kn.ex_bin fh29 (.tmp rfl) (.tmp rfl)) fun Ko hKo => ?_;go_simp;(try go_bits);refine hKo _ _ fun fa30 fh30 => ?_;clear hKo Ko fh29 fa29;refine wpList_nil ?_;refine hK16 _ _ ?_;clear hK16 K16;replace fh30 := fh30.cut (.cons (t := 32) rfl (.cons (t := 5) rfl (.cons (t := 3) rfl (.cons (t := 4) rfl (.cons (t := 0) rfl .nil)))));refine Kn.no fh30 (.tmp rfl) ?_;replace fh30 := fh30.cut (.cons (t := 5) rfl (.cons (t := 3) rfl (.cons (t := 4) rfl (.cons (t := 0) rfl .nil))));refine wp_exit ?_;refine Kn.then_exit ?_;clear hK15 K15;refine Kn.then_exit ?_;clear hKl14 Kl14;refine Kn.block_exit ?_;refine hK12 _ _ ?_;clear hK12 K12;replace fh30 := fh30.cut (.cons (t := 3) rfl (.cons (t := 0) rfl .nil));refine wp_seq_k fun K17 hK17 => ?_;refine wp_region_lit ?_;refine Kn.pure fh30 rfl rfl .none (Kn.ex_move fh30 (.tmp rfl)) fun fa31 fh31 => ?_;clear fh30 fa30;refine Kn.pure fh31 rfl rfl .none (Kn.ex_move fh31 (.tmp rfl)) fun fa32 fh32 => ?_;clear fh31 fa31;refine Kn.known fh32 rfl rfl .none (Kn.ex_sliceL fh32 (.tmp rfl) (.tmp rfl)) hsl fun fa33 fh33 => ?_;clear fh32 fa32;refine Kn.known0 fh33 rfl .none (Kn.ex_clear fh33 (.cons (.tmp rfl) .nil)) hcl ?_;refine wpList_nil ?_;refine hK17 _ _ ?_;clear hK17 K17;replace fh33 := fh33.cut (.cons (t := 3) rfl (.cons (t := 0) rfl .nil));clear hsl hcl;refine wp_seq_k fun K18 hK18 => ?_;refine wp_region_lit ?_;refine Kn.pure fh33 rfl rfl .none (Kn.ex_move fh33 (.tmp rfl)) fun fa34 fh34 => ?_;clear fh33 fa33;refine Kn.pure fh34 rfl rfl .none (Kn.ex_move fh34 (.tmp rfl)) fun fa35 fh35 => ?_;clear fh34 fa34;refine Kn.step fh35 rfl rfl .none (Kn.ex_sliceH fh35 (.tmp rfl) (.tmp rfl)) fun Ko hKo => ?_;go_simp;(try go_bits);refine hKo _ _ fun fa36 fh36 => ?_;clear hKo Ko fh35 fa35;refine Kn.pure fh36 rfl rfl .none (Kn.ex_assign fh36 (.tmp rfl)) fun fa37 fh37 => ?_;clear fh36 fa36;refine wpList_nil ?_;refine hK18 _ _ ?_;clear hK18 K18;replace fh37 := fh37.cut (.cons (t := 2) rfl (.cons (t := 3) rfl (.cons (t := 0) rfl .nil)));refine wp_ret ?_;refine Kn.block_ret ?_;refine Kn.then_ret ?_;refine Kn.then_ret ?_;refine Kn.block_ret ?_;refine Kn.then_ret ?_;exact Kn.ret1 fh37 rfl rfl ⟨_, _, HLN.out, rfl, HH2.out, HB2.out⟩
    · have q1 : decide ((x1, x2) = (y1, y2)) = false := decide_eq_false e1;have HE : Hid (ddk l (i + 1) = l.take (i + 1)) := Lib.hid (by have := HIJ.out; have hl := HL.out; rw [ddk_more l i (.inr (by rw [show i - 1 = j by omega, HX.out, HY.out]; exact e1)), HD.out, take_ed l i (by omega)]);clear e1;refine wp_seq_k fun K10 hK10 => ?_;refine Kn.still (by kernel_rfl) (by kernel_rfl) ?_;refine Kn.spure fh10 rfl rfl .none (Kn.ex_move fh10 (.tmp rfl)) fun fa11 fh11 => ?_;clear fh10 fa10;refine Kn.spure fh11 rfl rfl .none (Kn.ex_move fh11 (.tmp rfl)) fun fa12 fh12 => ?_;clear fh11 fa11;refine Kn.sstep fh12 rfl rfl .none (Kn.ex_indexAddr fh12 (.tmp rfl) (.tmp rfl)) fun Ko hKo => ?_;go_simp;(try go_bits);refine hKo _ fun fa13 fh13 => ?_;clear hKo Ko fh12 fa12;refine Kn.sstep fh13 rfl rfl .none (Kn.ex_load fh13 (.tmp rfl)) fun Ko hKo => ?_;go_simp;(try go_bits);refine hKo _ fun fa14 fh14 => ?_;clear hKo Ko fh13 fa13;refine Kn.spure fh14 rfl rfl .none (Kn.ex_move fh14 (.tmp rfl)) fun fa15 fh15 => ?_;clear fh14 fa14;refine Kn.spure fh15 rfl rfl .none (Kn.ex_move fh15 (.tmp rfl)) fun fa16 fh16 => ?_;clear fh15 fa15;refine Kn.sstep fh16 rfl rfl .none (Kn.ex_bin fh16 (.tmp rfl) .const) fun Ko hKo => ?_;go_simp;(try go_bits);refine hKo _ fun fa17 fh17 => ?_;clear hKo Ko fh16 fa16;refine Kn.sstep fh17 rfl rfl .none (Kn.ex_indexAddr fh17 (.tmp rfl) (.tmp rfl)) fun Ko hKo => ?_;go_simp;(try go_bits);refine hKo _ fun fa18 fh18 => ?_;clear hKo Ko fh17 fa17;refine Kn.sstep fh18 rfl rfl .none (Kn.ex_load fh18 (.tmp rfl)) fun Ko hKo => ?_;go_simp;(try go_bits);refine hKo _ fun fa19 fh19 => ?_;clear hKo Ko fh18 fa18;refine Kn.sstep fh19 rfl rfl .none (Kn.ex_bin fh19 (.tmp rfl) (.tmp rfl)) fun Ko hKo => ?_;rw [eqlE, q1];refine hKo _ fun fa20 fh20 => ?_;clear hKo Ko fh19 fa19;refine wpStill_nil ?_;refine hK10 _ _ ?_;clear hK10 K10;replace fh20 := fh20.cut (.cons (t := 25) rfl (.cons (t := 3) rfl (.cons (t := 0) rfl .nil)));refine Kn.no fh20 (.tmp rfl) ?_;refine wp_skip ?_;refine Kn.block_normal ?_;refine hK9 _ _ ?_;clear hK9 K9;replace fh20 := fh20.cut (.cons (t := 3) rfl (.cons (t := 0) rfl .nil));refine wp_region_lit ?_;refine Kn.pure fh20 rfl rfl .none (Kn.ex_move fh20 (.tmp rfl)) fun fa21 fh21 => ?_;clear fh20 fa20;refine Kn.step fh21 rfl rfl .none (Kn.ex_bin fh21 (.tmp rfl) .const) fun Ko hKo => ?_;go_simp;(try go_bits);refine hKo _ _ fun fa22 fh22 => ?_;clear hKo Ko fh21 fa21;refine Kn.pure fh22 rfl rfl .none (Kn.ex_assign fh22 (.tmp rfl)) fun fa23 fh23 => ?_;clear fh22 fa22;refine wpList_nil ?_;replace fh23 := fh23.cut (.cons (t := 3) rfl (.cons (t := 0) rfl .nil));exact hKl6 (m6 - 1) _ _ (by omega) ⟨i + 1, i, q + 1, fh23.cut (.turn (t := 3) rfl (by go_num) (.cons (t := 0) rfl .nil)), by omega, rfl, HE, rfl⟩
  · obtain rfl : i = n := by omega
    refine wp_seq_k fun K7 hK7 => ?_;refine wp_seq_k fun K8 hK8 => ?_;refine wp_region_lit ?_;refine Kn.pure fh6 rfl rfl .none (Kn.ex_move fh6 (.tmp rfl)) fun fa7 fh7 => ?_;clear fh6 fa6;refine Kn.pure fh7 rfl rfl .none (Kn.ex_move fh7 (.tmp rfl)) fun fa8 fh8 => ?_;clear fh7 fa7;refine Kn.step fh8 rfl rfl .none (Kn.ex_len fh8 (.tmp rfl)) fun Ko hKo => ?_;go_simp;(try go_bits);refine hKo _ _ fun fa9 fh9 => ?_;clear hKo Ko fh8 fa8;refine Kn.step fh9 rfl rfl .none (Kn.ex_bin fh9 (.tmp rfl) (.tmp rfl)) fun Ko hKo => ?_;go_simp;(try go_bits);refine hKo _ _ fun fa10 fh10 => ?_;clear hKo Ko fh9 fa9;refine wpList_nil ?_;refine hK8 _ _ ?_;clear hK8 K8;replace fh10 := fh10.cut (.cons (t := 13) rfl (.cons (t := 3) rfl (.cons (t := 0) rfl .nil)));refine Kn.no fh10 (.tmp rfl) ?_;replace fh10 := fh10.cut (.cons (t := 3) rfl (.cons (t := 0) rfl .nil));refine wp_exit ?_;refine Kn.then_exit ?_;clear hK7 K7;refine Kn.then_exit ?_;clear hKl6 Kl6;refine Kn.block_exit ?_;refine hK4 _ _ ?_;clear hK4 K4;replace fh10 := fh10.cut (.cons (t := 0) rfl .nil);refine wp_seq_k fun K9 hK9 => ?_;refine wp_region_lit ?_;refine Kn.pure fh10 rfl rfl .none (Kn.ex_move fh10 (.tmp rfl)) fun fa11 fh11 => ?_;clear fh10 fa10;refine Kn.pure fh11 rfl rfl .none (Kn.ex_assign fh11 (.tmp rfl)) fun fa12 fh12 => ?_;clear fh11 fa11;refine wpList_nil ?_;refine hK9 _ _ ?_;clear hK9 K9;replace fh12 := fh12.cut (.cons (t := 2) rfl .nil);refine wp_ret ?_;exact Kn.ret1 fh12 rfl rfl ⟨i, cap, by have hl := HL.out; rw [HD.out, hl, List.take_length], rfl, by rw [HD.out]; exact (HH.out.take _), below_drewN _ _ _⟩
end Go.Proofs.YtbahklpdldghbaaGreatDoor.Edg
end
section
namespace Go.Proofs.YtbahklpdldghbaaGreatDoor.Edg
open Go Go.RowKit Go.Lib
def RowS (w : World) (B : Nat) (A : Option Addr) (n c : Nat) (l : List (Int × Int)) : Prop := n = l.length ∧ n ≤ c ∧ c ≤ maxLen ∧ ((A = none ∧ l = []) ∨ ∃ g, A = some ⟨g, 0, none⟩ ∧ B ≤ g ∧ g < w.heap.size ∧ HoldE w g l)
theorem rowS_of_own {w : World} {B n c : Nat} {A : Option Addr} {l : List (Int × Int)} (h : OwnE w B A n c l) : RowS w B A n c l := by
  have h' := h;obtain ⟨hn, hl, hr⟩ := h';rcases hr with ⟨hv, hz⟩ | ⟨g', cap', cur, hv, hB, hg, hle, hm, hs, ht⟩
  · simp only [Value.slice.injEq] at hv;obtain ⟨rfl, rfl, rfl⟩ := hv;exact ⟨hn, Nat.le_refl _, Nat.zero_le _, .inl ⟨rfl, List.eq_nil_of_length_eq_zero hn.symm⟩⟩
  · simp only [Value.slice.injEq] at hv;obtain ⟨rfl, _, rfl⟩ := hv;exact ⟨hn, hle, hm, .inr ⟨g', rfl, hB, (Array.getElem?_eq_some_iff.1 hg).1, hold_of_own h⟩⟩
theorem sort_row (B n c : Nat) (A : Option Addr) (l : List (Int × Int)) (w : World) (h : RowS w B A n c l) (hl : l.length ≤ 20000) :
    Calls Tryz.prog 60 #[.slice A n c, .func (.func 61) #[] #[]] w fun e w' => e = .returned (.tuple #[]) ∧ ∃ s, WSrt s ∧ (∀ e, e ∈ s ↔ e ∈ l) ∧ s.length ≤ 20000 ∧ RowS w' B A n c s ∧ Below B w w' := by
  obtain ⟨rfl, hnc, hcm, ⟨rfl, rfl⟩ | ⟨g, rfl, hB, hg, hH⟩⟩ := h
  · exact (AnyF.slices_SortFunc_none Tryz.laySort none c _ w).mono fun e w' ⟨he, hw⟩ => ⟨he, [], fun i j _ hj => absurd hj (by simp), fun e => Iff.rfl, by simp, by subst hw; exact ⟨rfl, hnc, hcm, .inl ⟨rfl, rfl⟩⟩, by subst hw; exact Below.refl _ _⟩
  · refine (sort_any g c l w hH hg hl).mono fun e w' hp => ?_;obtain ⟨he, s, hs1, hs2, hs3, hs4, hs5, hs6⟩ := hp;exact ⟨he, s, hs2, hs3, by omega, ⟨hs1.symm, hnc, hcm, .inr ⟨g, rfl, hB, hs6, hs4⟩⟩, hs5.mono hB⟩
theorem compact_row (B n c : Nat) (A : Option Addr) (l : List (Int × Int)) (w : World) (h : RowS w B A n c l) (hl : l.length ≤ 20000) :
    Calls Tryz.prog 62 #[.slice A n c] w fun e w' => ∃ n' c', n' = (ddk l l.length).length ∧ e = .returned (.slice A n' c') ∧ EIn w' A (ddk l l.length) ∧ Below B w w' := by
  obtain ⟨rfl, hnc, hcm, hr⟩ := h
  have hE : EIn w A l := by
    rcases hr with ⟨rfl, rfl⟩ | ⟨g, rfl, hB, hg, hH⟩
    · exact EIn.nil _ _
    · exact hH.ein
  rcases Nat.lt_or_ge l.length 2 with h2 | h2
  · have hd : ddk l l.length = l := by
      rcases (show l.length = 0 ∨ l.length = 1 by omega) with h0 | h0
      · rw [h0, List.eq_nil_of_length_eq_zero h0]; rfl
      · rw [h0, ddk_one l (by omega), List.take_of_length_le (by omega)]
    exact (compact_few A l.length c w (by omega) h2).mono fun e w' ⟨he, hw⟩ => ⟨l.length, c, by rw [hd], he, by rw [hd, ← hw]; exact hE, by rw [← hw]; exact Below.refl _ _⟩
  · rcases hr with ⟨rfl, rfl⟩ | ⟨g, rfl, hB, hg, hH⟩
    · simp at h2
    · refine (compact_any g l.length c l w rfl h2 hnc hcm hH hl).mono fun e w' hp => ?_;obtain ⟨n', c', h1, h3, h4, h5⟩ := hp;exact ⟨n', c', h1, h3, h4.ein, h5.mono hB⟩
set_option maxRecDepth 100000 in
set_option maxHeartbeats 2000000 in
theorem norm_ok (n : Int) (A : Option Addr) (ca : Nat) (xs : List (Int × Int)) (w : World) (hx : xs.length ≤ 20000) (hA : EIn w A xs) (hck : Calls Tryz.prog 58 #[.int .i64 n, .slice A xs.length ca] w fun e w' => e = .returned .nilIface ∧ Below w.heap.size w w') :
    Calls Tryz.prog 42 #[.int .i64 n, .slice A xs.length ca] w fun e w' => ∃ A' n' c' ys, e = .returned (.tuple #[.slice A' n' c', .nilIface]) ∧ n' = ys.length ∧ NormOf xs ys ∧ EIn w' A' ys ∧ Below w.heap.size w w' := by
  refine Kn.calls Tryz.func42 rfl Tryz.ntmps42 rfl (.cons (t := 0) rfl (.cons (t := 1) rfl .nil)) fun fa0 fh0 => ?_;refine wp_seq_k fun K1 hK1 => ?_;refine wp_region_lit ?_;refine Kn.pure fh0 rfl rfl .none (Kn.ex_assign fh0 .const) fun fa1 fh1 => ?_;clear fh0 fa0;refine Kn.pure fh1 rfl rfl .none (Kn.ex_assign fh1 .const) fun fa2 fh2 => ?_;clear fh1 fa1;refine wpList_nil ?_;refine hK1 _ _ ?_;clear hK1 K1;refine wp_seq_k fun K2 hK2 => ?_;refine wp_seq_k fun K3 hK3 => ?_;refine wp_region_lit ?_;refine Kn.pure fh2 rfl rfl .none (Kn.ex_move fh2 (.tmp rfl)) fun fa3 fh3 => ?_;clear fh2 fa2;refine Kn.pure fh3 rfl rfl .none (Kn.ex_move fh3 (.tmp rfl)) fun fa4 fh4 => ?_;clear fh3 fa3;refine Kn.call fh4 rfl rfl .none (Kn.ex_call fh4 (.cons (.tmp rfl) (.cons (.tmp rfl) .nil))) Tryz.call58 (hck) fun e w1 hp => ?_;obtain ⟨rfl, hb1⟩ := hp;refine ⟨_, rfl, fun fa5 fh5 => ?_⟩;clear fh4 fa4;refine Kn.pure fh5 rfl rfl .none (Kn.ex_assign fh5 (.tmp rfl)) fun fa6 fh6 => ?_;clear fh5 fa5;refine wpList_nil ?_;refine hK3 _ _ ?_;clear hK3 K3;replace fh6 := fh6.cut (.cons (t := 6) rfl (.cons (t := 5) rfl (.cons (t := 4) rfl (.cons (t := 1) rfl .nil))));refine wp_seq_k fun K4 hK4 => ?_;refine wp_region_lit ?_;refine Kn.pure fh6 rfl rfl .none (Kn.ex_move fh6 (.tmp rfl)) fun fa7 fh7 => ?_;clear fh6 fa6;refine Kn.step fh7 rfl rfl .none (Kn.ex_bin fh7 (.tmp rfl) .const) fun Ko hKo => ?_;go_simp;(try go_bits);refine hKo _ _ fun fa8 fh8 => ?_;clear hKo Ko fh7 fa7;refine wpList_nil ?_;refine hK4 _ _ ?_;clear hK4 K4;replace fh8 := fh8.cut (.cons (t := 12) rfl (.cons (t := 6) rfl (.cons (t := 5) rfl (.cons (t := 4) rfl (.cons (t := 1) rfl .nil)))));refine Kn.no fh8 (.tmp rfl) ?_;refine wp_skip ?_;refine hK2 _ _ ?_;clear hK2 K2;replace fh8 := fh8.cut (.cons (t := 5) rfl (.cons (t := 4) rfl (.cons (t := 1) rfl .nil)));have HA1 := Lib.hid (hA.on hb1);have HB1 := Lib.hid hb1;clear hA hb1 hck;refine wp_seq_k fun K5 hK5 => ?_;refine wp_region_lit ?_;refine Kn.pure fh8 rfl rfl .none (Kn.ex_move fh8 (.tmp rfl)) fun fa9 fh9 => ?_;clear fh8 fa8;refine Kn.call fh9 rfl rfl .none (Kn.ex_call fh9 (.cons (.tmp rfl) .nil)) Tryz.call59 (clone_any A ca xs w1 hx HA1.out) fun e w2 hp => ?_;obtain ⟨A', n', c', rfl, hO, hb2⟩ := hp;refine ⟨_, rfl, fun fa10 fh10 => ?_⟩;clear fh9 fa9;refine Kn.pure fh10 rfl rfl .none (Kn.ex_assign fh10 (.tmp rfl)) fun fa11 fh11 => ?_;clear fh10 fa10;refine wpList_nil ?_;refine hK5 _ _ ?_;clear hK5 K5;replace fh11 := fh11.cut (.cons (t := 7) rfl (.cons (t := 5) rfl (.cons (t := 4) rfl .nil)));have HR2 := Lib.hid (rowS_of_own hO);have HB2 := Lib.hid hb2;clear hO hb2;refine wp_seq_k fun K6 hK6 => ?_;refine wp_region_lit ?_;refine Kn.pure fh11 rfl rfl .none (Kn.ex_move fh11 (.tmp rfl)) fun fa12 fh12 => ?_;clear fh11 fa11;refine Kn.call fh12 rfl rfl .none (Kn.ex_call fh12 (.cons (.tmp rfl) (.cons .func .nil))) Tryz.call60 (sort_row w1.heap.size n' c' A' xs w2 HR2.out hx) fun e w3 hp => ?_;obtain ⟨rfl, s, hs1, hs2, hs3, hR3, hb3⟩ := hp;refine ⟨_, rfl, fun fa13 fh13 => ?_⟩;clear fh12 fa12;refine wpList_nil ?_;refine hK6 _ _ ?_;clear hK6 K6;replace fh13 := fh13.cut (.cons (t := 7) rfl (.cons (t := 5) rfl (.cons (t := 4) rfl .nil)));have HR3 := Lib.hid hR3;have HS := Lib.hid (And.intro hs1 hs2);have HB3 := Lib.hid hb3;clear hR3 hs1 hs2 hb3;refine wp_seq_k fun K7 hK7 => ?_;refine wp_region_lit ?_;refine Kn.pure fh13 rfl rfl .none (Kn.ex_move fh13 (.tmp rfl)) fun fa14 fh14 => ?_;clear fh13 fa13;refine Kn.call fh14 rfl rfl .none (Kn.ex_call fh14 (.cons (.tmp rfl) .nil)) Tryz.call62 (compact_row w1.heap.size n' c' A' s w3 HR3.out hs3) fun e w4 hp => ?_;obtain ⟨n2, c2, hn2, rfl, hE4, hb4⟩ := hp;refine ⟨_, rfl, fun fa15 fh15 => ?_⟩;clear fh14 fa14;refine Kn.pure fh15 rfl rfl .none (Kn.ex_assign fh15 (.tmp rfl)) fun fa16 fh16 => ?_;clear fh15 fa15;refine Kn.pure fh16 rfl rfl .none (Kn.ex_assign fh16 .const) fun fa17 fh17 => ?_;clear fh16 fa16;refine wpList_nil ?_;refine hK7 _ _ ?_;clear hK7 K7;replace fh17 := fh17.cut (.cons (t := 5) rfl (.cons (t := 4) rfl .nil));refine wp_ret ?_;exact Kn.ret2 fh17 rfl rfl rfl ⟨_, _, _, _, rfl, hn2, ddk_norm s xs HS.out.1 HS.out.2, hE4, HB1.out.trans (((HB2.out.trans HB3.out).trans hb4).mono HB1.out.size)⟩
end Go.Proofs.YtbahklpdldghbaaGreatDoor.Edg
end
section
namespace Go.Proofs.YtbahklpdldghbaaGreatDoor.Edg
open Go Go.RowKit Go.Lib
theorem check_ok (n : Int) (A : Option Addr) (ca : Nat) (xs : List (Int × Int)) (w : World) (h1 : 0 ≤ n) (h2 : n ≤ 4096) (hx : xs.length ≤ 20000) (hA : EIn w A xs) (hG : ∀ e ∈ xs, badB n e = false) :
    Calls Tryz.prog 58 #[.int .i64 n, .slice A xs.length ca] w fun e w' => e = .returned .nilIface ∧ Below w.heap.size w w' := by
  have := check_any n A ca xs.length xs w (by omega) (by omega) (by omega) hA (fun i hi => by rw [ed_at xs i hi]; exact hG _ (List.getElem_mem hi)) (fun h => absurd h (by omega));rw [if_neg (by omega)] at this;exact this
end Go.Proofs.YtbahklpdldghbaaGreatDoor.Edg
end
section
namespace Go.Proofs.YtbahklpdldghbaaGreatDoor.Edg
open Go Go.RowKit Go.Lib
def firstBad (n : Int) (xs : List (Int × Int)) : Nat := xs.findIdx (badB n)
theorem firstBad_good (n : Int) (xs : List (Int × Int)) (i : Nat) (h : i < firstBad n xs) : badB n (ed xs i) = false := by
  have hl : i < xs.length := Nat.lt_of_lt_of_le h List.findIdx_le_length;rw [ed_at xs i hl];have := List.not_of_lt_findIdx h
  simpa using this
theorem firstBad_bad (n : Int) (xs : List (Int × Int)) (h : firstBad n xs < xs.length) : badB n (ed xs (firstBad n xs)) = true := by
  rw [ed_at _ _ h]; exact List.findIdx_getElem (w := h)
structure Good (n : Int) (xs : List (Int × Int)) : Prop where
  lo : 0 ≤ n
  hi : n ≤ 4096
  len : xs.length ≤ 20000
  all : ∀ e ∈ xs, badB n e = false
def wrongP (n : Int) (xs : List (Int × Int)) : Int := if n < 0 then -1 else if 4096 < n then -1 else if 20000 < xs.length then 20000 else if firstBad n xs < xs.length then (firstBad n xs : Int) else -2
theorem wrongP_good (n : Int) (xs : List (Int × Int)) : wrongP n xs = -2 ↔ Good n xs := by
  unfold wrongP
  constructor
  · intro h
    split at h
    · omega
    split at h
    · omega
    split at h
    · omega
    split at h
    · omega
    refine ⟨by omega, by omega, by omega, fun e he => ?_⟩;obtain ⟨i, hi, rfl⟩ := List.getElem_of_mem he;have := firstBad_good n xs i (by omega)
    rwa [ed_at _ _ hi] at this
  · intro h;have h1 := h.lo;have h2 := h.hi;have h3 := h.len;rw [if_neg (by omega), if_neg (by omega), if_neg (by omega), if_neg];intro hf;have := firstBad_bad n xs hf;rw [ed_at _ _ hf, h.all _ (List.getElem_mem _)] at this;cases this
theorem check_p (n : Int) (A : Option Addr) (ca : Nat) (xs : List (Int × Int)) (w : World) (hA : EIn w A xs) :
    Calls Tryz.prog 58 #[.int .i64 n, .slice A xs.length ca] w fun e w' => e = .returned (if wrongP n xs = -2 then .nilIface else faultV (wrongP n xs) 10) ∧ Below w.heap.size w w' := by
  by_cases h1 : n < 0
  · exact (check_neg n A ca xs w h1).mono fun e w' ⟨he, hw⟩ => ⟨by rw [he, wrongP, if_pos h1]; rfl, hw ▸ Below.refl _ _⟩
  by_cases h2 : 4096 < n
  · exact (check_big n A ca xs w h1 h2).mono fun e w' ⟨he, hw⟩ => ⟨by rw [he, wrongP, if_neg h1, if_pos h2]; rfl, hw ▸ Below.refl _ _⟩
  by_cases h3 : 20000 < xs.length
  · exact (check_long n A ca xs w h1 h2 (by omega) h3).mono fun e w' ⟨he, hw⟩ => ⟨by rw [he, wrongP, if_neg h1, if_neg h2, if_pos h3]; rfl, hw ▸ Below.refl _ _⟩
  refine (check_any n A ca (firstBad n xs) xs w h1 h2 h3 hA (firstBad_good n xs) (firstBad_bad n xs)).mono fun e w' ⟨he, hw⟩ => ⟨?_, hw⟩;rw [he, wrongP, if_neg h1, if_neg h2, if_neg h3]
  split
  · rw [if_neg (by omega)]
  · rw [if_pos rfl]
theorem check_yes (n : Int) (A : Option Addr) (ca : Nat) (xs : List (Int × Int)) (w : World) (hA : EIn w A xs) (hg : Good n xs) :
    Calls Tryz.prog 58 #[.int .i64 n, .slice A xs.length ca] w fun e w' => e = .returned .nilIface ∧ Below w.heap.size w w' := by
  have := check_p n A ca xs w hA
  rwa [if_pos ((wrongP_good n xs).2 hg)] at this
theorem norm_yes (n : Int) (A : Option Addr) (ca : Nat) (xs : List (Int × Int)) (w : World) (hA : EIn w A xs) (hg : Good n xs) :
    Calls Tryz.prog 42 #[.int .i64 n, .slice A xs.length ca] w fun e w' => ∃ A' n' c' ys, e = .returned (.tuple #[.slice A' n' c', .nilIface]) ∧ n' = ys.length ∧ NormOf xs ys ∧ EIn w' A' ys ∧ Below w.heap.size w w' :=
  norm_ok n A ca xs w hg.len hA (check_yes n A ca xs w hA hg)
theorem Good.of {n : Int} {xs ys : List (Int × Int)} (h : Good n xs) (hl : ys.length ≤ 20000) (hm : ∀ e ∈ ys, e ∈ xs) : Good n ys := ⟨h.lo, h.hi, hl, fun e he => h.all e (hm e he)⟩
theorem nodup_len {xs ys : List (Int × Int)} (h : ys.Pairwise (fun a b => a ≠ b)) (hm : ∀ e ∈ ys, e ∈ xs) : ys.length ≤ xs.length := by
  induction ys generalizing xs with
  | nil => exact Nat.zero_le _
  | cons y ys ih =>
    obtain ⟨h1, h2⟩ := List.pairwise_cons.1 h;have hy : y ∈ xs := hm y List.mem_cons_self;have := ih (xs := xs.erase y) h2 (fun e he => (List.mem_erase_of_ne (fun h' => h1 e he h'.symm)).2 (hm e (List.mem_cons_of_mem _ he)));rw [List.length_erase_of_mem hy] at this;have := List.length_pos_of_mem hy;simp only [List.length_cons];omega
theorem NormOf.apart {xs ys : List (Int × Int)} (h : NormOf xs ys) : ys.Pairwise (fun a b => a ≠ b) := List.Pairwise.imp (fun {a b} hl he => by subst he; rw [less_irr] at hl; cases hl) h.srt
theorem NormOf.len {xs ys : List (Int × Int)} (h : NormOf xs ys) : ys.length ≤ xs.length := nodup_len h.apart fun e he => (h.mem e).1 he
theorem NormOf.good {n : Int} {xs ys : List (Int × Int)} (h : NormOf xs ys) (hg : Good n xs) : Good n ys := hg.of (Nat.le_trans h.len hg.len) fun e he => (h.mem e).1 he
end Go.Proofs.YtbahklpdldghbaaGreatDoor.Edg
end
section
namespace Go.Proofs.YtbahklpdldghbaaGreatDoor.Csr
open Edg Num
theorem cnt_at {α : Type} (p : α → Bool) : ∀ (l : List α), l.Pairwise (fun a b => p b = true → p a = true) → ∀ i (h : i < l.length), p l[i] = decide (i < l.countP p)
  | [], _, i, h => by simp at h
  | a :: l, hp, i, h => by
    obtain ⟨h1, h2⟩ := List.pairwise_cons.1 hp
    by_cases ha : p a = true
    · rw [List.countP_cons, if_pos ha]
      cases i with
      | zero => simp [ha]
      | succ i =>
        have := cnt_at p l h2 i (by simpa using h);rw [List.getElem_cons_succ, this];simp
    · have h0 : (a :: l).countP p = 0 := by
        rw [List.countP_eq_zero];intro b hb;rcases List.mem_cons.1 hb with rfl | hb
        · exact ha
        · exact fun hpb => ha (h1 b hb hpb)
      rw [h0]
      have : ¬ p ((a :: l)[i]) = true := by
        have hm : (a :: l)[i] ∈ a :: l := List.getElem_mem h;exact (List.countP_eq_zero.1 h0) _ hm
      simp only [Bool.not_eq_true] at this;rw [this];simp
theorem bgn_at {ys : List (Int × Int)} (hs : Srt ys) (v : Int) (i : Nat) (h : i < ys.length) : (ed ys i).1 < v ↔ i < bgn ys v := by
  have := cnt_at (fun e : Int × Int => decide (e.1 < v)) ys (List.Pairwise.imp (fun {a b} hl hb => by
    rw [less_iff] at hl;simp only [decide_eq_true_eq] at hb ⊢
    omega) hs) i h
  rw [ed_at ys i h];simp only [decide_eq_decide] at this;exact this
theorem bgn_next (ys : List (Int × Int)) (v : Int) : bgn ys (v + 1) = bgn ys v + (trg ys v).length := by
  unfold bgn trg;rw [List.length_map, ← List.countP_eq_length_filter]
  induction ys with
  | nil => rfl
  | cons e ys ih =>
    rw [List.countP_cons, List.countP_cons, List.countP_cons, ih]
    have : (if decide (e.1 < v + 1) = true then 1 else 0) = (if decide (e.1 < v) = true then 1 else 0) + (if (e.1 == v) = true then 1 else 0) := by
      simp only [decide_eq_true_eq, beq_iff_eq]
      by_cases h1 : e.1 = v
      · rw [if_pos (by omega), if_neg (by omega), if_pos h1]
      · rw [if_neg h1, Nat.add_zero]
        by_cases h2 : e.1 < v
        · rw [if_pos h2, if_pos (by omega)]
        · rw [if_neg h2, if_neg (by omega)]
    omega
theorem bgn_mono (ys : List (Int × Int)) (v : Int) : bgn ys v ≤ bgn ys (v + 1) := by rw [bgn_next]; omega
theorem good_at {N : Int} {ys : List (Int × Int)} (h : Edg.Good N ys) (i : Nat) (hi : i < ys.length) : (0 ≤ (ed ys i).1 ∧ (ed ys i).1 < N) ∧ 0 ≤ (ed ys i).2 ∧ (ed ys i).2 < N := by
  have := (badB_iff _ _).1 (h.all _ (List.getElem_mem hi));rw [ed_at ys i hi];exact this
theorem bgn_0 {N : Int} {ys : List (Int × Int)} (h : Edg.Good N ys) : bgn ys 0 = 0 := by
  unfold bgn;rw [List.countP_eq_zero];intro e he;have := ((badB_iff _ _).1 (h.all e he)).1.1;simp only [decide_eq_true_eq];omega
theorem bgn_N {N : Int} {ys : List (Int × Int)} (h : Edg.Good N ys) : bgn ys N = ys.length := by
  unfold bgn;rw [List.countP_eq_length];intro e he;have := ((badB_iff _ _).1 (h.all e he)).1.2;simp only [decide_eq_true_eq];omega
def tgs (ys : List (Int × Int)) : List Int := ys.map (·.2)
theorem tgs_len (ys : List (Int × Int)) : (tgs ys).length = ys.length := by simp [tgs]
theorem tgs_at (ys : List (Int × Int)) (i : Nat) (h : i < ys.length) : nt (tgs ys) i = (ed ys i).2 := by
  rw [nt_at _ _ (by rw [tgs_len]; exact h), ed_at _ _ h]; simp [tgs]
def bgs (ys : List (Int × Int)) (N : Nat) : List Int := (List.range N).map fun (v : Nat) => (bgn ys (v : Int) : Int)
theorem bgs_len (ys : List (Int × Int)) (N : Nat) : (bgs ys N).length = N := by simp [bgs]
theorem bgs_at (ys : List (Int × Int)) (N i : Nat) (h : i < N) : nt (bgs ys N) i = (bgn ys (i : Int) : Int) := by
  rw [nt_at _ _ (by rw [bgs_len]; exact h)]; simp [bgs]
theorem trg_mid {ys : List (Int × Int)} (hs : Srt ys) (v : Int) : trg ys v = ((tgs ys).drop (bgn ys v)).take (trg ys v).length := by
  have h1 : ∀ i (h : i < ys.length), i < bgn ys v → ys[i].1 < v := fun i h hi => by have := (bgn_at hs v i h).2 hi; rwa [ed_at _ _ h] at this
  have h2 : ∀ i (h : i < ys.length), bgn ys v ≤ i → ¬ ys[i].1 < v := fun i h hi hn => by
    have := (bgn_at hs v i h).1 (by rw [ed_at _ _ h]; exact hn);omega
  have h3 : ∀ i (h : i < ys.length), i < bgn ys (v + 1) → ys[i].1 < v + 1 := fun i h hi => by have := (bgn_at hs (v + 1) i h).2 hi; rwa [ed_at _ _ h] at this
  have h4 : ∀ i (h : i < ys.length), bgn ys (v + 1) ≤ i → ¬ ys[i].1 < v + 1 := fun i h hi hn => by
    have := (bgn_at hs (v + 1) i h).1 (by rw [ed_at _ _ h]; exact hn);omega
  have hn := bgn_next ys v;have hle := bgn_le ys (v + 1)
  have ha : (ys.take (bgn ys v)).filter (fun e => e.1 == v) = [] := by
    rw [List.filter_eq_nil_iff];intro e he;obtain ⟨i, hi, rfl⟩ := List.mem_take_iff_getElem.1 he;have := h1 i (by omega) (by omega);simp only [beq_iff_eq];omega
  have hm : ((ys.drop (bgn ys v)).take (trg ys v).length).filter (fun e => e.1 == v) = (ys.drop (bgn ys v)).take (trg ys v).length := by
    rw [List.filter_eq_self];intro e he;obtain ⟨i, hi, rfl⟩ := List.mem_take_iff_getElem.1 he;rw [List.length_drop] at hi;rw [List.getElem_drop];have a := h2 (bgn ys v + i) (by omega) (by omega);have b := h3 (bgn ys v + i) (by omega) (by omega);simp only [beq_iff_eq];omega
  have hz : (ys.drop (bgn ys (v + 1))).filter (fun e => e.1 == v) = [] := by
    rw [List.filter_eq_nil_iff];intro e he;obtain ⟨i, hi, rfl⟩ := List.mem_drop_iff_getElem.1 he;have := h4 (bgn ys (v + 1) + i) (by omega) (by omega);simp only [beq_iff_eq];omega
  have hsplit : ys = ys.take (bgn ys v) ++ ((ys.drop (bgn ys v)).take (trg ys v).length ++ ys.drop (bgn ys (v + 1))) := by
    conv => lhs; rw [← List.take_append_drop (bgn ys v) ys, ← List.take_append_drop (trg ys v).length (ys.drop (bgn ys v)), List.drop_drop, ← hn]
  have hf : ys.filter (fun e => e.1 == v) = (ys.drop (bgn ys v)).take (trg ys v).length := by
    conv => lhs; rw [hsplit, List.filter_append, List.filter_append, ha, hm, hz]
    simp
  conv => lhs; unfold trg
  rw [hf];unfold tgs;rw [← List.map_drop, ← List.map_take]
theorem trg_at {ys : List (Int × Int)} (hs : Srt ys) (v : Int) (i : Nat) (h : i < (trg ys v).length) : nt (trg ys v) i = nt (tgs ys) (bgn ys v + i) := by
  have hn := bgn_next ys v;have hle := bgn_le ys (v + 1);have hl : bgn ys v + i < (tgs ys).length := by rw [tgs_len]; omega
  rw [nt_at _ _ h, nt_at _ _ hl];have := trg_mid hs v;have e : (trg ys v)[i]? = (((tgs ys).drop (bgn ys v)).take (trg ys v).length)[i]? := by rw [← this]
  rw [List.getElem?_eq_getElem h, List.getElem?_take_of_lt h, List.getElem?_drop, List.getElem?_eq_getElem hl] at e;exact Option.some.inj e
theorem trg_up {ys : List (Int × Int)} (hs : Srt ys) (v : Int) : (trg ys v).Pairwise (· < ·) := by
  unfold trg;rw [List.pairwise_map, List.pairwise_filter];refine List.Pairwise.imp (fun {a b} hl ha hb => ?_) hs;rw [less_iff] at hl;simp only [beq_iff_eq] at ha hb;omega
theorem ed_row {ys : List (Int × Int)} (hs : Srt ys) (v : Int) (i : Nat) (h : i < (trg ys v).length) : ed ys (bgn ys v + i) = (v, nt (trg ys v) i) := by
  have hn := bgn_next ys v;have hle := bgn_le ys (v + 1);have hl : bgn ys v + i < ys.length := by omega
  rw [trg_at hs v i h, tgs_at ys _ hl];have a : ¬ (ed ys (bgn ys v + i)).1 < v := fun hc => by have := (bgn_at hs v _ hl).1 hc; omega
  have b := (bgn_at hs (v + 1) _ hl).2 (by omega);exact Prod.ext (by show (ed ys (bgn ys v + i)).1 = v; omega) rfl
end Go.Proofs.YtbahklpdldghbaaGreatDoor.Csr
end
section
namespace Go.Proofs.YtbahklpdldghbaaGreatDoor.Shd
open Go Go.RowKit Go.Lib Oct Num Gap Edg Csr
def rowsF (ys : List (Int × Int)) (f : Nat) (k : Nat) : List Int := trg ys ((f : Int) + (k : Int))
def nmF (f : Int) (R : Nat → List Int) : Nat → List Int
  | 0 => []
  | k + 1 => nmF f R k ++ (if k % 8 = 0 then [((rwF f R k).length : Int)] else [])
def shN (l : List Int) : List UInt8 := l.flatMap fun x => short x.toNat
theorem shN_app (l m : List Int) : shN (l ++ m) = shN l ++ shN m := List.flatMap_append
theorem shN_nm (f : Int) (R : Nat → List Int) : ∀ k, shN (nmF f R k) = ixF f R k
  | 0 => rfl
  | k + 1 => by
    rw [nmF, ixF, shN_app, shN_nm f R k]
    congr 1
    split <;> simp [shN]
theorem nmF_len (f : Int) (R : Nat → List Int) : ∀ k, (nmF f R k).length ≤ k
  | 0 => Nat.le_refl _
  | k + 1 => by
    rw [nmF, List.length_append];have := nmF_len f R k
    split <;> simp <;> omega
theorem nmF_mem (f : Int) (R : Nat → List Int) (M : Nat) : ∀ k, (∀ j, j < k → (rwF f R j).length ≤ M) → ∀ x ∈ nmF f R k, 0 ≤ x ∧ x ≤ (M : Int)
  | 0, _, x, h => by cases h
  | k + 1, hM, x, h => by
    rw [nmF] at h;rcases List.mem_append.1 h with e | e
    · exact nmF_mem f R M k (fun j hj => hM j (by omega)) x e
    · split at e
      · have := hM k (by omega);simp at e;omega
      · cases e
theorem shF_nm (f n : Nat) (R : Nat → List Int) : shF f n R = shN ([(f : Int), (n : Int)] ++ nmF (f : Int) R n) ++ rwF (f : Int) R n := by
  rw [shN_app, shN_nm];unfold shF shN;simp
theorem goodT_trg {N : Nat} {ys : List (Int × Int)} (hs : Srt ys) (hg : Edg.Good (N : Int) ys) (v : Int) : GoodT (N : Int) (trg ys v) := by
  refine goodT_iff.2 fun i hi hb => ?_
  have hm : ∀ j, j < (trg ys v).length → 0 ≤ nt (trg ys v) j ∧ nt (trg ys v) j < (N : Int) := fun j hj => by
    have := ed_row hs v j hj
    have hlt : bgn ys v + j < ys.length := by
      have h1 := bgn_next ys v;have h2 := bgn_le ys (v + 1);omega
    have h3 := good_at hg _ hlt;rw [this] at h3;exact h3.2
  have hu := trg_up hs v;obtain ⟨h1, h2⟩ := hm i hi;have e : (trg ys v).getD i 0 = nt (trg ys v) i := rfl;unfold badT at hb;rw [e] at hb;rcases hb with q | q | ⟨q1, q2⟩
  · omega
  · omega
  · have e2 : (trg ys v).getD (i - 1) 0 = nt (trg ys v) (i - 1) := rfl;rw [e2, nt_at _ _ hi, nt_at _ _ (show i - 1 < _ by omega)] at q2;have := List.pairwise_iff_getElem.1 hu (i - 1) i (by omega) hi (by omega);omega
theorem putF_le {N v : Int} {l : List Int} (hN : N ≤ 4096) (hv0 : 0 ≤ v) (hv1 : v ≤ 4096) (hg : GoodT N l) : ∀ k, k ≤ l.length → (putF v l k).length ≤ 9 + 9 * k
  | 0, _ => by
    have h0 : 0 ≤ N ∨ l.length = 0 := by
      rcases Nat.eq_zero_or_pos l.length with h | h
      · exact .inr h
      · have := goodT_iff.1 hg 0 h;unfold badT at this
        left; omega
    have hl : l.length ≤ 4096 := by
      rcases h0 with h | h
      · have := hg.len h; omega
      · omega
    have := short_len9 l.length (by omega);show (short l.length).length ≤ _;omega
  | k + 1, hk => by
    have hb : ∀ j, j < l.length → 0 ≤ nt l j ∧ nt l j < N := fun j hj => by
      have := goodT_iff.1 hg j hj;unfold badT at this;have e : l.getD j 0 = nt l j := rfl;rw [e] at this;omega
    rw [putF_step v l k (if k = 0 then v else nt l (k - 1)) (nt l k) rfl rfl, List.length_append];have h1 := putF_le hN hv0 hv1 hg k (by omega);have h2 := hb k (by omega)
    have h3 : 0 ≤ (if k = 0 then v else nt l (k - 1)) ∧ (if k = 0 then v else nt l (k - 1)) ≤ 4096 := by
      split
      · exact ⟨hv0, hv1⟩
      · have := hb (k - 1) (by omega); omega
    have := st1_len (decide (k = 0)) _ _ h3.1 h3.2 h2.1 (by omega);omega
theorem rwF_bound {N : Nat} {ys : List (Int × Int)} (hs : Srt ys) (hg : Edg.Good (N : Int) ys) (f : Nat) : ∀ k, f + k ≤ N → (rwF (f : Int) (rowsF ys f) k).length + 9 * bgn ys (f : Int) ≤ 9 * k + 9 * bgn ys ((f : Int) + (k : Int))
  | 0, _ => by simp [rwF]
  | k + 1, hk => by
    have hN : (N : Int) ≤ 4096 := hg.hi;have h1 := rwF_bound hs hg f k (by omega);have h2 := putF_le (v := (f : Int) + (k : Int)) hN (by omega) (by omega) (goodT_trg hs hg ((f : Int) + (k : Int))) (trg ys ((f : Int) + (k : Int))).length (Nat.le_refl _);have h3 := bgn_next ys ((f : Int) + (k : Int));rw [rwF, List.length_append, show (f : Int) + ((k + 1 : Nat) : Int) = (f : Int) + (k : Int) + 1 by omega, h3];show (rwF (f : Int) (rowsF ys f) k).length + (putF ((f : Int) + (k : Int)) (trg ys ((f : Int) + (k : Int))) (trg ys ((f : Int) + (k : Int))).length).length + _ ≤ _;omega
theorem rwF_max {N : Nat} {ys : List (Int × Int)} (hs : Srt ys) (hg : Edg.Good (N : Int) ys) (f k : Nat) (h : f + k ≤ N) : (rwF (f : Int) (rowsF ys f) k).length ≤ 216864 := by
  have h1 := rwF_bound hs hg f k h;have h2 := bgn_le ys ((f : Int) + (k : Int));have h3 := hg.len;have hN : (N : Int) ≤ 4096 := hg.hi;omega
theorem ixF_le {f : Int} {R : Nat → List Int} : ∀ k, (∀ j, j ≤ k → (rwF f R j).length < 2 ^ 50) → (ixF f R k).length ≤ 9 * k
  | 0, _ => Nat.le_refl _
  | k + 1, h => by
    rw [ixF, List.length_append];have h1 := ixF_le k (fun j hj => h j (by omega));have h2 := h k (by omega)
    split
    · have := short_len9 (rwF f R k).length (by omega);omega
    · simp; omega
end Go.Proofs.YtbahklpdldghbaaGreatDoor.Shd
end
