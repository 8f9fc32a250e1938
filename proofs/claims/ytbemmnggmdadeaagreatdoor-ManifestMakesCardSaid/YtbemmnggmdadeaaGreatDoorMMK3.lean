/- A part of the proof of ManifestMakesCardSaid: texts that lead to it, merged. -/
import Derived.Test.YtbemmnggmdadeaaGreatDoorMMK2
import Derived.IntWalk
import Derived.Deep.Upon
section
namespace Go.Proofs.YtbemmnggmdadeaaGreatDoor.Man
open Go Go.RowKit Go.Lib RowG
def mV (m : MF) (A : Option Addr) (c : Nat) : Value := .agg #[.int .i64 m.v, .int .i64 m.n, .int .i64 m.e, .slice A m.sh.length c, .int .i64 m.b, .string m.r]
structure MIn (m : MF) (A : Option Addr) (c : Nat) (u : World) : Prop where
  row : RIn ipR u A m.sh
  le : m.sh.length ≤ c
  cap : c ≤ maxLen
  few : m.sh.length ≤ 100
theorem MIn.on {m : MF} {A : Option Addr} {c : Nat} {u u' : World} (h : MIn m A c u) (hb : Below u.heap.size u u') : MIn m A c u' := ⟨h.row.on hb, h.le, h.cap, h.few⟩
theorem ipc {w : World} {A : Option Addr} {l : List (Int × Int)} (h : RIn ipR w A l) {k : Nat} (hk : k < l.length) : ∃ b o, A = some ⟨b, o, none⟩ ∧ b < w.heap.size ∧ w.cell? ⟨b, o + k * 2, none⟩ = some (.int .i64 (fst l k)) ∧ w.cell? ⟨b, o + k * 2 + 1, none⟩ = some (.int .i64 (byt l k)) := by
  obtain ⟨b, o, h1, h2, h3⟩ := h k l[k] (List.getElem?_eq_getElem hk);have e : l.getD k (0, 0) = l[k] := by rw [List.getD_eq_getElem?_getD, List.getElem?_eq_getElem hk]; rfl
  refine ⟨b, o, h1, h2, ?_, ?_⟩
  · unfold fst; rw [e]; exact h3 0 _ rfl
  · unfold byt; rw [e]; exact h3 1 _ rfl
theorem loadM {P : Program} {w : World} {g : Nat} {T : TypeId} {cs : Array Value} {d : TypeDesc} (h : St.St w g T cs) (hu : P.underlying T = some d) (hd : St.rowD d = true) (hi : (P.info? T).map (·.size) = some cs.size) : (Instr.loadAt T (.pointer (some ⟨g, 0, none⟩))).run P w = .ok (.agg cs) w := h.load hu hd hi
theorem totK_bd {sh : List (Int × Int)} (hb : ∀ j, j < sh.length → 3 ≤ byt sh j ∧ byt sh j ≤ 1048576) : ∀ k, k ≤ sh.length → 0 ≤ totK sh k ∧ totK sh k ≤ 1048576 * (k : Int) := by
  intro k
  induction k with
  | zero => intro _; exact ⟨Int.le_refl _, Int.le_refl _⟩
  | succ k ih =>
    intro hk;have h1 := ih (by omega);have h2 := hb k (by omega);show 0 ≤ totK sh k + byt sh k ∧ totK sh k + byt sh k ≤ _;omega
set_option maxRecDepth 100000 in
set_option maxHeartbeats 600000 in
theorem total_l (v0 n0 e0 b0 : Int) (r0 : ByteArray) (sh0 : List (Int × Int)) (A : Option Addr) (c : Nat) (w : World) (hA : RIn ipR w A sh0) (hfew : sh0.length ≤ 100) (hy : (∀ j, j < sh0.length → 3 ≤ byt sh0 j ∧ byt sh0 j ≤ 1048576)) :
    Calls Tryz.prog 46 #[.agg #[.int .i64 v0, .int .i64 n0, .int .i64 e0, .slice A sh0.length c, .int .i64 b0, .string r0]] w fun e w' => e = .returned (.int .i64 (totK sh0 sh0.length)) ∧ Below w.heap.size w w' := by
  refine Kn.Z.cl Tryz.func46 rfl Tryz.ntmps46 rfl (.c 0 rfl .n) ?_;refine Kn.Z.f fun K1 hK1=>?_;refine Kn.Z.s .o (.box (.t rfl)) fun Ko Kp=>?_;go_simp;(try go_bits);refine Kp _ _ ?_;clear Kp Ko;refine Kn.Z.u (.a .c .n) ?_;refine Kn.Z.e hK1 ?_;clear hK1 K1;refine Kn.Z.g (fun u => St.St u w.heap.size 40 #[.int .i64 v0, .int .i64 n0, .int .i64 e0, .slice A sh0.length c, .int .i64 b0, .string r0] ∧ Below w.heap.size w u) ⟨St.St.new _ _ _, (Below.refl _ w).alloc (Nat.le_refl _) _⟩ fun u hu => ?_;obtain ⟨g, hg⟩ : ∃ g, w.heap.size = g := ⟨_, rfl⟩;obtain ⟨hS0, hb0⟩ := hu;intro fa fh;rw [hg] at hS0 fh;have k3 := hS0.cell 3 rfl;have HB := Lib.hid hb0;have HR := Lib.hid (hA.on hb0);have HY := Lib.hid hy;obtain ⟨N0, hN0⟩ : ∃ N, sh0.length = N := ⟨_, rfl⟩;have HN := Lib.hid hN0;clear hg hb0 hA hy hN0
  revert fa
  refine Kn.Z.f fun K2 hK2=>?_;refine Kn.Z.u (.a .c .n) ?_;refine Kn.Z.e hK2 ?_;clear hK2 K2;refine Kn.Z.q fun K3 hK3=>?_;refine Kn.Z.f fun K4 hK4=>?_;refine Kn.Z.u (.a .c .n) ?_;refine Kn.Z.e hK4 ?_;clear hK4 K4;refine Kn.Z.b ?_;intro fa fh;refine Kn.loop (fun m fr v => ∃ (t : Int) (j : Nat), Kn.Kn 21 [(1, .pointer (some ⟨g, 0, none⟩)), (3, .int .i64 (t : Int)), (4, .int .i64 (j : Int))] fr ∧ Hid (j + m = N0) ∧ Hid (t = totK sh0 j) ∧ v = u) N0 ⟨0, 0, fh.cut (.c 1 rfl (.u 3 rfl rfl (.u 4 rfl (by go_num) .n))), Lib.hid (by omega), Lib.hid rfl, rfl⟩ ?_;clear fh fa;intro m5 fb v hI Kl5 hKl5;obtain ⟨t, j, fg, hj, ht, rfl⟩ := hI;have hjle : j ≤ sh0.length := by have := hj.out; have := HN.out; omega
  by_cases hlt : j < sh0.length
  · have hlti : (j : Int) < (sh0.length : Int) := by omega
    revert fb
    refine Kn.Z.q fun K6 hK6=>?_;refine Kn.Z.f fun K7 hK7=>?_;refine Kn.Z.u (.m (.t rfl) .n) ?_;refine Kn.Z.s .o (.fieldAddr (.t rfl)) fun Ko Kp=>?_;go_simp;(try go_bits);refine Kp _ _ ?_;clear Kp Ko;refine Kn.Z.s .o (.load (.t rfl)) fun Ko Kp=>?_;go_simp;(try go_bits);refine Kp _ _ ?_;clear Kp Ko;refine Kn.Z.s .o (.len (.t rfl)) fun Ko Kp=>?_;go_simp;(try go_bits);refine Kp _ _ ?_;clear Kp Ko;refine Kn.Z.s .o (.bin (.t rfl) (.t rfl)) fun Ko Kp=>?_;go_simp;(try go_bits);refine Kp _ _ ?_;clear Kp Ko;refine Kn.Z.e hK7 ?_;clear hK7 K7;refine Kn.Z.t (.c 9 rfl (.c 1 rfl (.c 3 rfl (.c 4 rfl .n)))) ?_;refine Kn.Z.y (.t rfl) ?_;refine Kn.Z.j hK6 ?_;clear hK6 K6;refine Kn.Z.q fun K8 hK8=>?_;refine Kn.Z.b ?_;obtain ⟨ba, oa, rfl, -, cf, cb⟩ := ipc HR.out hlt;have hb1 := totK_bd HY.out j (by omega);have hb2 := HY.out j hlt;rw [← ht.out] at hb1;obtain ⟨y, hy⟩ : ∃ y, byt sh0 j = y := ⟨_, rfl⟩;rw [hy] at cb hb2;have ht2 : Hid (t + y = totK sh0 (j + 1)) := Lib.hid (by rw [ht.out, ← hy]; rfl);clear hy;refine Kn.Z.r ?_;refine Kn.Z.u (.m (.t rfl) .n) ?_;refine Kn.Z.s .o (.fieldAddr (.t rfl)) fun Ko Kp=>?_;go_simp;(try go_bits);refine Kp _ _ ?_;clear Kp Ko;refine Kn.Z.s .o (.load (.t rfl)) fun Ko Kp=>?_;go_simp;(try go_bits);refine Kp _ _ ?_;clear Kp Ko;refine Kn.Z.u (.m (.t rfl) .n) ?_;refine Kn.Z.s .o (.indexAddr (.t rfl) (.t rfl)) fun Ko Kp=>?_;go_simp;(try go_bits);refine Kp _ _ ?_;clear Kp Ko;refine Kn.Z.s .o (.fieldAddr (.t rfl)) fun Ko Kp=>?_;go_simp;(try go_bits);refine Kp _ _ ?_;clear Kp Ko;refine Kn.Z.s .o (.load (.t rfl)) fun Ko Kp=>?_;go_simp;(try go_bits);refine Kp _ _ ?_;clear Kp Ko;refine Kn.Z.s .o (.bin (.t rfl) (.t rfl)) fun Ko Kp=>?_;go_simp;(try go_bits);refine Kp _ _ ?_;clear Kp Ko;refine Kn.Z.u (.a (.t rfl) .n) ?_;intro fb fg;refine wpList_nil ?_;refine Kn.block_normal ?_;refine hK8 _ _ ?_;clear hK8 K8
    revert fb
    refine Kn.Z.t (.c 3 rfl (.c 1 rfl (.c 4 rfl .n))) ?_;refine Kn.Z.r ?_;refine Kn.Z.u (.m (.t rfl) .n) ?_;refine Kn.Z.s .o (.bin (.t rfl) .c) fun Ko Kp=>?_;go_simp;(try go_bits);refine Kp _ _ ?_;clear Kp Ko;refine Kn.Z.u (.a (.t rfl) .n) ?_;intro fa fh;refine wpList_nil ?_;replace fh := fh.cut (.c 4 rfl (.c 3 rfl (.c 1 rfl .n)));have hj' := hj.out;have hlt' := HN.out;exact hKl5 (m5 - 1) _ _ (by omega) ⟨t + y, j + 1, fh.cut (.c 1 rfl (.u 3 rfl (by go_num) (.u 4 rfl (by go_num) .n))), Lib.hid (by omega), ht2, rfl⟩
  have hlti : ¬ (j : Int) < (sh0.length : Int) := by omega
  obtain rfl : j = sh0.length := by omega
  revert fb
  refine Kn.Z.q fun K6 hK6=>?_;refine Kn.Z.f fun K7 hK7=>?_;refine Kn.Z.u (.m (.t rfl) .n) ?_;refine Kn.Z.s .o (.fieldAddr (.t rfl)) fun Ko Kp=>?_;go_simp;(try go_bits);refine Kp _ _ ?_;clear Kp Ko;refine Kn.Z.s .o (.load (.t rfl)) fun Ko Kp=>?_;go_simp;(try go_bits);refine Kp _ _ ?_;clear Kp Ko;refine Kn.Z.s .o (.len (.t rfl)) fun Ko Kp=>?_;go_simp;(try go_bits);refine Kp _ _ ?_;clear Kp Ko;refine Kn.Z.s .o (.bin (.t rfl) (.t rfl)) fun Ko Kp=>?_;go_simp;(try go_bits);refine Kp _ _ ?_;clear Kp Ko;refine Kn.Z.e hK7 ?_;clear hK7 K7;refine Kn.Z.t (.c 9 rfl (.c 1 rfl (.c 3 rfl (.c 4 rfl .n)))) ?_;refine Kn.Z.no (.t rfl) ?_;intro fa fh;refine wp_exit ?_;refine Kn.then_exit ?_;clear hK6 K6;refine Kn.then_exit ?_;clear hKl5 Kl5;refine Kn.block_exit ?_;refine hK3 _ _ ?_;clear hK3 K3
  revert fa
  refine Kn.Z.f fun K8 hK8=>?_;refine Kn.Z.u (.m (.t rfl) (.a (.t rfl) .n)) ?_;refine Kn.Z.e hK8 ?_;clear hK8 K8;intro fa fh;refine wp_ret ?_;exact Kn.ret1 fh rfl rfl ⟨by rw [ht.out], HB.out⟩
theorem total_any (m : MF) (A : Option Addr) (c : Nat) (w : World) (hM : MIn m A c w) (hy : ∀ j, j < m.sh.length → 3 ≤ byt m.sh j ∧ byt m.sh j ≤ 1048576) :
    Calls Tryz.prog 46 #[mV m A c] w fun e w' => e = .returned (.int .i64 (tot m)) ∧ Below w.heap.size w w' := total_l m.v m.n m.e m.b m.r m.sh A c w hM.row hM.few hy
theorem wrS_f {sh : List (Int × Int)} {n : Int} {L j : Nat} (hj : j < L) (h : badF sh n j) : wrS sh n (L - j) j = 4 + 2 * (j : Int) := by
  obtain ⟨k, hk⟩ : ∃ k, L - j = k + 1 := ⟨L - j - 1, by omega⟩;rw [hk, wrS, if_pos h]
theorem wrS_b {sh : List (Int × Int)} {n : Int} {L j : Nat} (hj : j < L) (h : ¬ badF sh n j) (h2 : badB sh j) : wrS sh n (L - j) j = 5 + 2 * (j : Int) := by
  obtain ⟨k, hk⟩ : ∃ k, L - j = k + 1 := ⟨L - j - 1, by omega⟩;rw [hk, wrS, if_neg h, if_pos h2]
theorem wrS_n {sh : List (Int × Int)} {n : Int} {L j : Nat} (hj : j < L) (h : ¬ badF sh n j) (h2 : ¬ badB sh j) : wrS sh n (L - j) j = wrS sh n (L - (j + 1)) (j + 1) := by
  have hk : L - j = (L - (j + 1)) + 1 := by omega
  rw [hk, wrS, if_neg h, if_neg h2]
set_option maxRecDepth 100000 in
set_option maxHeartbeats 600000 in
theorem wrong_any (m : MF) (A : Option Addr) (c : Nat) (w : World) (hM : MIn m A c w) (_hr : m.r.size ≤ maxLen) :
    Calls Tryz.prog 20 #[.agg #[.int .i64 m.v, .int .i64 m.n, .int .i64 m.e, .slice A m.sh.length c, .int .i64 m.b, .string m.r]] w fun e w' => e = .returned (.int .i64 (wrM m)) ∧ Below w.heap.size w w' := by
  refine Kn.Z.cl Tryz.func20 rfl Tryz.ntmps20 rfl (.c 0 rfl .n) ?_;refine Kn.Z.f fun K1 hK1=>?_;refine Kn.Z.s .o (.box (.t rfl)) fun Ko Kp=>?_;go_simp;(try go_bits);refine Kp _ _ ?_;clear Kp Ko;refine Kn.Z.u (.a .c .n) ?_;refine Kn.Z.e hK1 ?_;clear hK1 K1;refine Kn.Z.g (fun u => St.St u w.heap.size 40 #[.int .i64 m.v, .int .i64 m.n, .int .i64 m.e, .slice A m.sh.length c, .int .i64 m.b, .string m.r] ∧ Below w.heap.size w u) ⟨St.St.new _ _ _, (Below.refl _ w).alloc (Nat.le_refl _) _⟩ fun u hu => ?_;obtain ⟨g, hg⟩ : ∃ g, w.heap.size = g := ⟨_, rfl⟩;obtain ⟨hS0, hb0⟩ := hu;have HM := Lib.hid (hM.on hb0);have hfew := hM.few;intro fa fh;rw [hg] at hS0 fh;have HS := Lib.hid hS0;have HB := Lib.hid hb0;clear hg hb0 hM;obtain ⟨v0, hv0⟩ : ∃ x, m.v = x := ⟨_, rfl⟩;obtain ⟨n0, hn0⟩ : ∃ x, m.n = x := ⟨_, rfl⟩;obtain ⟨e0, he0⟩ : ∃ x, m.e = x := ⟨_, rfl⟩;obtain ⟨b0, hb0⟩ : ∃ x, m.b = x := ⟨_, rfl⟩;have k0 := hS0.cell 0 rfl;have k1 := hS0.cell 1 rfl;have k2 := hS0.cell 2 rfl;have k3 := hS0.cell 3 rfl;have k4 := hS0.cell 4 rfl;have k5 := hS0.cell 5 rfl;rw [hv0] at k0;rw [hn0] at k1;rw [he0] at k2;rw [hb0] at k4;have HV := Lib.hid hv0;have HN := Lib.hid hn0;have HE := Lib.hid he0;have HBB := Lib.hid hb0;have HW0 : Hid (wrM m = (if v0 < 1 ∨ 1099511627776 < v0 then 0 else if n0 < 0 ∨ 4096 < n0 then 1 else if e0 < 0 ∨ 20000 < e0 then 2 else if badC m then 3 else if wrS m.sh m.n m.sh.length 0 ≠ -1 then wrS m.sh m.n m.sh.length 0 else if m.b ≠ blkI m ∨ 2048 < blkI m then 4 + 2 * (m.sh.length : Int) else if m.r.size ≠ 32 then 5 + 2 * (m.sh.length : Int) else -1)) := Lib.hid (by rw [wrM, hv0, hn0, he0]);clear hv0 hn0 he0 hb0 hS0
  by_cases q1 : v0 < 1
  · revert fa
    refine Kn.Z.q fun K2 hK2=>?_;refine Kn.Z.f fun K3 hK3=>?_;refine Kn.Z.s .o (.fieldAddr (.t rfl)) fun Ko Kp=>?_;go_simp;(try go_bits);refine Kp _ _ ?_;clear Kp Ko;refine Kn.Z.s .o (.load (.t rfl)) fun Ko Kp=>?_;go_simp;(try go_bits);refine Kp _ _ ?_;clear Kp Ko;refine Kn.Z.s .o (.bin (.t rfl) .c) fun Ko Kp=>?_;go_simp;(try go_bits);refine Kp _ _ ?_;clear Kp Ko;refine Kn.Z.u (.m (.t rfl) (.k (.s rfl rfl rfl) (.k (.s rfl rfl rfl) (.k (.s rfl rfl rfl) (.e .o (.pick (.t rfl) .c) .n))))) ?_;refine Kn.Z.e hK3 ?_;clear hK3 K3;refine Kn.Z.y (.t rfl) ?_;refine Kn.Z.f fun K4 hK4=>?_;refine Kn.Z.u (.a .c .n) ?_;refine Kn.Z.e hK4 ?_;clear hK4 K4;intro fb fg;refine wp_ret ?_;refine Kn.then_ret ?_;exact Kn.ret1 fg rfl rfl ⟨by rw [HW0.out, if_pos (.inl q1)], HB.out⟩
  by_cases q2 : 1099511627776 < v0
  · revert fa
    refine Kn.Z.q fun K2 hK2=>?_;refine Kn.Z.f fun K3 hK3=>?_;refine Kn.Z.s .o (.fieldAddr (.t rfl)) fun Ko Kp=>?_;go_simp;(try go_bits);refine Kp _ _ ?_;clear Kp Ko;refine Kn.Z.s .o (.load (.t rfl)) fun Ko Kp=>?_;go_simp;(try go_bits);refine Kp _ _ ?_;clear Kp Ko;refine Kn.Z.s .o (.bin (.t rfl) .c) fun Ko Kp=>?_;go_simp;(try go_bits);refine Kp _ _ ?_;clear Kp Ko;refine Kn.Z.u (.m (.t rfl) .n) ?_;refine Kn.Z.s (.s rfl rfl rfl) (.fieldAddr (.t rfl)) fun Ko Kp=>?_;go_simp;(try go_bits);refine Kp _ _ ?_;clear Kp Ko;refine Kn.Z.s (.s rfl rfl rfl) (.load (.t rfl)) fun Ko Kp=>?_;go_simp;(try go_bits);refine Kp _ _ ?_;clear Kp Ko;refine Kn.Z.s (.s rfl rfl rfl) (.bin (.t rfl) .c) fun Ko Kp=>?_;go_simp;(try go_bits);refine Kp _ _ ?_;clear Kp Ko;refine Kn.Z.u (.e .o (.pick (.t rfl) (.t rfl)) .n) ?_;refine Kn.Z.e hK3 ?_;clear hK3 K3;refine Kn.Z.y (.t rfl) ?_;refine Kn.Z.f fun K4 hK4=>?_;refine Kn.Z.u (.a .c .n) ?_;refine Kn.Z.e hK4 ?_;clear hK4 K4;intro fb fg;refine wp_ret ?_;refine Kn.then_ret ?_;exact Kn.ret1 fg rfl rfl ⟨by rw [HW0.out, if_pos (.inr q2)], HB.out⟩
  have HW1 := Lib.hid (HW0.out.trans (if_neg (fun h => h.elim q1 q2)))
  revert fa
  refine Kn.Z.q fun K2 hK2=>?_;refine Kn.Z.f fun K3 hK3=>?_;refine Kn.Z.s .o (.fieldAddr (.t rfl)) fun Ko Kp=>?_;go_simp;(try go_bits);refine Kp _ _ ?_;clear Kp Ko;refine Kn.Z.s .o (.load (.t rfl)) fun Ko Kp=>?_;go_simp;(try go_bits);refine Kp _ _ ?_;clear Kp Ko;refine Kn.Z.s .o (.bin (.t rfl) .c) fun Ko Kp=>?_;go_simp;(try go_bits);refine Kp _ _ ?_;clear Kp Ko;refine Kn.Z.u (.m (.t rfl) .n) ?_;refine Kn.Z.s (.s rfl rfl rfl) (.fieldAddr (.t rfl)) fun Ko Kp=>?_;go_simp;(try go_bits);refine Kp _ _ ?_;clear Kp Ko;refine Kn.Z.s (.s rfl rfl rfl) (.load (.t rfl)) fun Ko Kp=>?_;go_simp;(try go_bits);refine Kp _ _ ?_;clear Kp Ko;refine Kn.Z.s (.s rfl rfl rfl) (.bin (.t rfl) .c) fun Ko Kp=>?_;go_simp;(try go_bits);refine Kp _ _ ?_;clear Kp Ko;refine Kn.Z.u (.e .o (.pick (.t rfl) (.t rfl)) .n) ?_;refine Kn.Z.e hK3 ?_;clear hK3 K3;refine Kn.Z.no (.t rfl) ?_;refine Kn.Z.j hK2 ?_;clear hK2 K2;have qv0 : 1 ≤ v0 ∧ v0 ≤ 1099511627776 := by omega
  clear HW0 q1 q2
  by_cases q1 : n0 < 0
  · refine Kn.Z.q fun K4 hK4=>?_;refine Kn.Z.f fun K5 hK5=>?_;refine Kn.Z.s .o (.fieldAddr (.t rfl)) fun Ko Kp=>?_;go_simp;(try go_bits);refine Kp _ _ ?_;clear Kp Ko;refine Kn.Z.s .o (.load (.t rfl)) fun Ko Kp=>?_;go_simp;(try go_bits);refine Kp _ _ ?_;clear Kp Ko;refine Kn.Z.s .o (.bin (.t rfl) .c) fun Ko Kp=>?_;go_simp;(try go_bits);refine Kp _ _ ?_;clear Kp Ko;refine Kn.Z.u (.m (.t rfl) (.k (.s rfl rfl rfl) (.k (.s rfl rfl rfl) (.k (.s rfl rfl rfl) (.e .o (.pick (.t rfl) .c) .n))))) ?_;refine Kn.Z.e hK5 ?_;clear hK5 K5;refine Kn.Z.t (.c 23 rfl (.c 2 rfl (.c 1 rfl .n))) ?_;refine Kn.Z.y (.t rfl) ?_;refine Kn.Z.f fun K6 hK6=>?_;refine Kn.Z.u (.a .c .n) ?_;refine Kn.Z.e hK6 ?_;clear hK6 K6;intro fb fg;refine wp_ret ?_;refine Kn.then_ret ?_;exact Kn.ret1 fg rfl rfl ⟨by rw [HW1.out, if_pos (.inl q1)], HB.out⟩
  by_cases q2 : 4096 < n0
  · refine Kn.Z.q fun K4 hK4=>?_;refine Kn.Z.f fun K5 hK5=>?_;refine Kn.Z.s .o (.fieldAddr (.t rfl)) fun Ko Kp=>?_;go_simp;(try go_bits);refine Kp _ _ ?_;clear Kp Ko;refine Kn.Z.s .o (.load (.t rfl)) fun Ko Kp=>?_;go_simp;(try go_bits);refine Kp _ _ ?_;clear Kp Ko;refine Kn.Z.s .o (.bin (.t rfl) .c) fun Ko Kp=>?_;go_simp;(try go_bits);refine Kp _ _ ?_;clear Kp Ko;refine Kn.Z.u (.m (.t rfl) .n) ?_;refine Kn.Z.s (.s rfl rfl rfl) (.fieldAddr (.t rfl)) fun Ko Kp=>?_;go_simp;(try go_bits);refine Kp _ _ ?_;clear Kp Ko;refine Kn.Z.s (.s rfl rfl rfl) (.load (.t rfl)) fun Ko Kp=>?_;go_simp;(try go_bits);refine Kp _ _ ?_;clear Kp Ko;refine Kn.Z.s (.s rfl rfl rfl) (.bin (.t rfl) .c) fun Ko Kp=>?_;go_simp;(try go_bits);refine Kp _ _ ?_;clear Kp Ko;refine Kn.Z.u (.e .o (.pick (.t rfl) (.t rfl)) .n) ?_;refine Kn.Z.e hK5 ?_;clear hK5 K5;refine Kn.Z.t (.c 23 rfl (.c 2 rfl (.c 1 rfl .n))) ?_;refine Kn.Z.y (.t rfl) ?_;refine Kn.Z.f fun K6 hK6=>?_;refine Kn.Z.u (.a .c .n) ?_;refine Kn.Z.e hK6 ?_;clear hK6 K6;intro fb fg;refine wp_ret ?_;refine Kn.then_ret ?_;exact Kn.ret1 fg rfl rfl ⟨by rw [HW1.out, if_pos (.inr q2)], HB.out⟩
  have HW2 := Lib.hid (HW1.out.trans (if_neg (fun h => h.elim q1 q2)));refine Kn.Z.q fun K4 hK4=>?_;refine Kn.Z.f fun K5 hK5=>?_;refine Kn.Z.s .o (.fieldAddr (.t rfl)) fun Ko Kp=>?_;go_simp;(try go_bits);refine Kp _ _ ?_;clear Kp Ko;refine Kn.Z.s .o (.load (.t rfl)) fun Ko Kp=>?_;go_simp;(try go_bits);refine Kp _ _ ?_;clear Kp Ko;refine Kn.Z.s .o (.bin (.t rfl) .c) fun Ko Kp=>?_;go_simp;(try go_bits);refine Kp _ _ ?_;clear Kp Ko;refine Kn.Z.u (.m (.t rfl) .n) ?_;refine Kn.Z.s (.s rfl rfl rfl) (.fieldAddr (.t rfl)) fun Ko Kp=>?_;go_simp;(try go_bits);refine Kp _ _ ?_;clear Kp Ko;refine Kn.Z.s (.s rfl rfl rfl) (.load (.t rfl)) fun Ko Kp=>?_;go_simp;(try go_bits);refine Kp _ _ ?_;clear Kp Ko;refine Kn.Z.s (.s rfl rfl rfl) (.bin (.t rfl) .c) fun Ko Kp=>?_;go_simp;(try go_bits);refine Kp _ _ ?_;clear Kp Ko;refine Kn.Z.u (.e .o (.pick (.t rfl) (.t rfl)) .n) ?_;refine Kn.Z.e hK5 ?_;clear hK5 K5;refine Kn.Z.t (.c 23 rfl (.c 2 rfl (.c 1 rfl .n))) ?_;refine Kn.Z.no (.t rfl) ?_;refine Kn.Z.j hK4 ?_;clear hK4 K4;have qn0 : 0 ≤ n0 ∧ n0 ≤ 4096 := by omega
  clear HW1 q1 q2
  by_cases q1 : e0 < 0
  · refine Kn.Z.q fun K6 hK6=>?_;refine Kn.Z.f fun K7 hK7=>?_;refine Kn.Z.s .o (.fieldAddr (.t rfl)) fun Ko Kp=>?_;go_simp;(try go_bits);refine Kp _ _ ?_;clear Kp Ko;refine Kn.Z.s .o (.load (.t rfl)) fun Ko Kp=>?_;go_simp;(try go_bits);refine Kp _ _ ?_;clear Kp Ko;refine Kn.Z.s .o (.bin (.t rfl) .c) fun Ko Kp=>?_;go_simp;(try go_bits);refine Kp _ _ ?_;clear Kp Ko;refine Kn.Z.u (.m (.t rfl) (.k (.s rfl rfl rfl) (.k (.s rfl rfl rfl) (.k (.s rfl rfl rfl) (.e .o (.pick (.t rfl) .c) .n))))) ?_;refine Kn.Z.e hK7 ?_;clear hK7 K7;refine Kn.Z.y (.t rfl) ?_;refine Kn.Z.f fun K8 hK8=>?_;refine Kn.Z.u (.a .c .n) ?_;refine Kn.Z.e hK8 ?_;clear hK8 K8;intro fb fg;refine wp_ret ?_;refine Kn.then_ret ?_;exact Kn.ret1 fg rfl rfl ⟨by rw [HW2.out, if_pos (.inl q1)], HB.out⟩
  by_cases q2 : 20000 < e0
  · refine Kn.Z.q fun K6 hK6=>?_;refine Kn.Z.f fun K7 hK7=>?_;refine Kn.Z.s .o (.fieldAddr (.t rfl)) fun Ko Kp=>?_;go_simp;(try go_bits);refine Kp _ _ ?_;clear Kp Ko;refine Kn.Z.s .o (.load (.t rfl)) fun Ko Kp=>?_;go_simp;(try go_bits);refine Kp _ _ ?_;clear Kp Ko;refine Kn.Z.s .o (.bin (.t rfl) .c) fun Ko Kp=>?_;go_simp;(try go_bits);refine Kp _ _ ?_;clear Kp Ko;refine Kn.Z.u (.m (.t rfl) .n) ?_;refine Kn.Z.s (.s rfl rfl rfl) (.fieldAddr (.t rfl)) fun Ko Kp=>?_;go_simp;(try go_bits);refine Kp _ _ ?_;clear Kp Ko;refine Kn.Z.s (.s rfl rfl rfl) (.load (.t rfl)) fun Ko Kp=>?_;go_simp;(try go_bits);refine Kp _ _ ?_;clear Kp Ko;refine Kn.Z.s (.s rfl rfl rfl) (.bin (.t rfl) .c) fun Ko Kp=>?_;go_simp;(try go_bits);refine Kp _ _ ?_;clear Kp Ko;refine Kn.Z.u (.e .o (.pick (.t rfl) (.t rfl)) .n) ?_;refine Kn.Z.e hK7 ?_;clear hK7 K7;refine Kn.Z.y (.t rfl) ?_;refine Kn.Z.f fun K8 hK8=>?_;refine Kn.Z.u (.a .c .n) ?_;refine Kn.Z.e hK8 ?_;clear hK8 K8;intro fb fg;refine wp_ret ?_;refine Kn.then_ret ?_;exact Kn.ret1 fg rfl rfl ⟨by rw [HW2.out, if_pos (.inr q2)], HB.out⟩
  have HW3 := Lib.hid (HW2.out.trans (if_neg (fun h => h.elim q1 q2)));refine Kn.Z.q fun K6 hK6=>?_;refine Kn.Z.f fun K7 hK7=>?_;refine Kn.Z.s .o (.fieldAddr (.t rfl)) fun Ko Kp=>?_;go_simp;(try go_bits);refine Kp _ _ ?_;clear Kp Ko;refine Kn.Z.s .o (.load (.t rfl)) fun Ko Kp=>?_;go_simp;(try go_bits);refine Kp _ _ ?_;clear Kp Ko;refine Kn.Z.s .o (.bin (.t rfl) .c) fun Ko Kp=>?_;go_simp;(try go_bits);refine Kp _ _ ?_;clear Kp Ko;refine Kn.Z.u (.m (.t rfl) .n) ?_;refine Kn.Z.s (.s rfl rfl rfl) (.fieldAddr (.t rfl)) fun Ko Kp=>?_;go_simp;(try go_bits);refine Kp _ _ ?_;clear Kp Ko;refine Kn.Z.s (.s rfl rfl rfl) (.load (.t rfl)) fun Ko Kp=>?_;go_simp;(try go_bits);refine Kp _ _ ?_;clear Kp Ko;refine Kn.Z.s (.s rfl rfl rfl) (.bin (.t rfl) .c) fun Ko Kp=>?_;go_simp;(try go_bits);refine Kp _ _ ?_;clear Kp Ko;refine Kn.Z.u (.e .o (.pick (.t rfl) (.t rfl)) .n) ?_;refine Kn.Z.e hK7 ?_;clear hK7 K7;refine Kn.Z.no (.t rfl) ?_;refine Kn.Z.j hK6 ?_;clear hK6 K6;have qe0 : 0 ≤ e0 ∧ e0 ≤ 20000 := by omega
  clear HW2 q1 q2;have HL : Hid (badC m ↔ (64 < m.sh.length ∨ (m.sh.length = 0 ∧ 0 < n0) ∨ (0 < m.sh.length ∧ n0 = 0))) := Lib.hid (by unfold badC; rw [HN.out]);obtain ⟨L, hLL⟩ : ∃ L, m.sh.length = L := ⟨_, rfl⟩;rw [hLL] at k3 hfew;have HLL := Lib.hid hLL;clear hLL k0 k2
  by_cases q1 : (64 : Int) < (L : Int)
  · refine Kn.Z.q fun K8 hK8=>?_;refine Kn.Z.f fun K9 hK9=>?_;refine Kn.Z.s .o (.fieldAddr (.t rfl)) fun Ko Kp=>?_;go_simp;(try go_bits);refine Kp _ _ ?_;clear Kp Ko;refine Kn.Z.s .o (.load (.t rfl)) fun Ko Kp=>?_;go_simp;(try go_bits);refine Kp _ _ ?_;clear Kp Ko;refine Kn.Z.s .o (.len (.t rfl)) fun Ko Kp=>?_;go_simp;(try go_bits);refine Kp _ _ ?_;clear Kp Ko;refine Kn.Z.s .o (.bin (.t rfl) .c) fun Ko Kp=>?_;go_simp;(try go_bits);refine Kp _ _ ?_;clear Kp Ko;refine Kn.Z.u (.m (.t rfl) (.k (.s rfl rfl rfl) (.k (.s rfl rfl rfl) (.k (.s rfl rfl rfl) (.k (.s rfl rfl rfl) (.k (.s rfl rfl rfl) (.k (.gone rfl rfl) (.k (.gone rfl rfl) (.k (.gone rfl rfl) (.k (.s rfl rfl rfl) (.e .o (.pick (.t rfl) .c) (.m (.t rfl) (.k (.s rfl rfl rfl) (.k (.s rfl rfl rfl) (.k (.s rfl rfl rfl) (.k (.s rfl rfl rfl) (.k (.s rfl rfl rfl) (.k (.gone rfl rfl) (.k (.gone rfl rfl) (.k (.gone rfl rfl) (.k (.s rfl rfl rfl) (.e .o (.pick (.t rfl) .c) .n)))))))))))))))))))))) ?_;refine Kn.Z.e hK9 ?_;clear hK9 K9;refine Kn.Z.t (.c 57 rfl (.c 2 rfl (.c 1 rfl .n))) ?_;refine Kn.Z.y (.t rfl) ?_;refine Kn.Z.f fun K10 hK10=>?_;refine Kn.Z.u (.a .c .n) ?_;refine Kn.Z.e hK10 ?_;clear hK10 K10;intro fb fg;refine wp_ret ?_;refine Kn.then_ret ?_;exact Kn.ret1 fg rfl rfl ⟨by rw [HW3.out, if_pos (HL.out.2 (.inl (by rw [HLL.out]; omega)))], HB.out⟩
  by_cases q2 : L = 0
  · have qz : ((L : Int) == 0) = true := by rw [q2]; rfl
    have qz2 : ¬ (0 : Int) < (L : Int) := by omega
    have qz3 : ¬ 0 < L := by omega
    have HQ2 := Lib.hid q2;clear q2
    by_cases q3 : 0 < n0
    · refine Kn.Z.q fun K8 hK8=>?_;refine Kn.Z.f fun K9 hK9=>?_;refine Kn.Z.s .o (.fieldAddr (.t rfl)) fun Ko Kp=>?_;go_simp;(try go_bits);refine Kp _ _ ?_;clear Kp Ko;refine Kn.Z.s .o (.load (.t rfl)) fun Ko Kp=>?_;go_simp;(try go_bits);refine Kp _ _ ?_;clear Kp Ko;refine Kn.Z.s .o (.len (.t rfl)) fun Ko Kp=>?_;go_simp;(try go_bits);refine Kp _ _ ?_;clear Kp Ko;refine Kn.Z.s .o (.bin (.t rfl) .c) fun Ko Kp=>?_;go_simp;(try go_bits);refine Kp _ _ ?_;clear Kp Ko;refine Kn.Z.u (.m (.t rfl) .n) ?_;refine Kn.Z.s (.s rfl rfl rfl) (.fieldAddr (.t rfl)) fun Ko Kp=>?_;go_simp;(try go_bits);refine Kp _ _ ?_;clear Kp Ko;refine Kn.Z.s (.s rfl rfl rfl) (.load (.t rfl)) fun Ko Kp=>?_;go_simp;(try go_bits);refine Kp _ _ ?_;clear Kp Ko;refine Kn.Z.s (.s rfl rfl rfl) (.len (.t rfl)) fun Ko Kp=>?_;go_simp;(try go_bits);refine Kp _ _ ?_;clear Kp Ko;refine Kn.Z.s (.s rfl rfl rfl) (.bin (.t rfl) .c) fun Ko Kp=>?_;go_simp;(try go_bits);refine Kp _ _ ?_;clear Kp Ko;refine Kn.Z.u (.e (.s rfl rfl rfl) (.move (.t rfl)) .n) ?_;refine Kn.Z.s (.s rfl rfl rfl) (.fieldAddr (.t rfl)) fun Ko Kp=>?_;go_simp;(try go_bits);refine Kp _ _ ?_;clear Kp Ko;refine Kn.Z.s (.s rfl rfl rfl) (.load (.t rfl)) fun Ko Kp=>?_;go_simp;(try go_bits);refine Kp _ _ ?_;clear Kp Ko;refine Kn.Z.s (.s rfl rfl rfl) (.bin (.t rfl) .c) fun Ko Kp=>?_;go_simp;(try go_bits);refine Kp _ _ ?_;clear Kp Ko;refine Kn.Z.u (.e (.s rfl rfl rfl) (.pick (.t rfl) (.t rfl)) (.e .o (.pick (.t rfl) (.t rfl)) (.m (.t rfl) (.k (.s rfl rfl rfl) (.k (.s rfl rfl rfl) (.k (.s rfl rfl rfl) (.k (.s rfl rfl rfl) (.k (.s rfl rfl rfl) (.k (.gone rfl rfl) (.k (.gone rfl rfl) (.k (.gone rfl rfl) (.k (.s rfl rfl rfl) (.e .o (.pick (.t rfl) .c) .n))))))))))))) ?_;refine Kn.Z.e hK9 ?_;clear hK9 K9;refine Kn.Z.t (.c 57 rfl (.c 2 rfl (.c 1 rfl .n))) ?_;refine Kn.Z.y (.t rfl) ?_;refine Kn.Z.f fun K10 hK10=>?_;refine Kn.Z.u (.a .c .n) ?_;refine Kn.Z.e hK10 ?_;clear hK10 K10;intro fb fg;refine wp_ret ?_;refine Kn.then_ret ?_;exact Kn.ret1 fg rfl rfl ⟨by rw [HW3.out, if_pos (HL.out.2 (.inr (.inl ⟨by rw [HLL.out, HQ2.out], q3⟩)))], HB.out⟩
    refine Kn.Z.q fun K8 hK8=>?_;refine Kn.Z.f fun K9 hK9=>?_;refine Kn.Z.s .o (.fieldAddr (.t rfl)) fun Ko Kp=>?_;go_simp;(try go_bits);refine Kp _ _ ?_;clear Kp Ko;refine Kn.Z.s .o (.load (.t rfl)) fun Ko Kp=>?_;go_simp;(try go_bits);refine Kp _ _ ?_;clear Kp Ko;refine Kn.Z.s .o (.len (.t rfl)) fun Ko Kp=>?_;go_simp;(try go_bits);refine Kp _ _ ?_;clear Kp Ko;refine Kn.Z.s .o (.bin (.t rfl) .c) fun Ko Kp=>?_;go_simp;(try go_bits);refine Kp _ _ ?_;clear Kp Ko;refine Kn.Z.u (.m (.t rfl) .n) ?_;refine Kn.Z.s (.s rfl rfl rfl) (.fieldAddr (.t rfl)) fun Ko Kp=>?_;go_simp;(try go_bits);refine Kp _ _ ?_;clear Kp Ko;refine Kn.Z.s (.s rfl rfl rfl) (.load (.t rfl)) fun Ko Kp=>?_;go_simp;(try go_bits);refine Kp _ _ ?_;clear Kp Ko;refine Kn.Z.s (.s rfl rfl rfl) (.len (.t rfl)) fun Ko Kp=>?_;go_simp;(try go_bits);refine Kp _ _ ?_;clear Kp Ko;refine Kn.Z.s (.s rfl rfl rfl) (.bin (.t rfl) .c) fun Ko Kp=>?_;go_simp;(try go_bits);refine Kp _ _ ?_;clear Kp Ko;refine Kn.Z.u (.e (.s rfl rfl rfl) (.move (.t rfl)) .n) ?_;refine Kn.Z.s (.s rfl rfl rfl) (.fieldAddr (.t rfl)) fun Ko Kp=>?_;go_simp;(try go_bits);refine Kp _ _ ?_;clear Kp Ko;refine Kn.Z.s (.s rfl rfl rfl) (.load (.t rfl)) fun Ko Kp=>?_;go_simp;(try go_bits);refine Kp _ _ ?_;clear Kp Ko;refine Kn.Z.s (.s rfl rfl rfl) (.bin (.t rfl) .c) fun Ko Kp=>?_;go_simp;(try go_bits);refine Kp _ _ ?_;clear Kp Ko;refine Kn.Z.u (.e (.s rfl rfl rfl) (.pick (.t rfl) (.t rfl)) (.e .o (.pick (.t rfl) (.t rfl)) (.m (.t rfl) .n))) ?_;refine Kn.Z.s (.s rfl rfl rfl) (.fieldAddr (.t rfl)) fun Ko Kp=>?_;go_simp;(try go_bits);refine Kp _ _ ?_;clear Kp Ko;refine Kn.Z.s (.s rfl rfl rfl) (.load (.t rfl)) fun Ko Kp=>?_;go_simp;(try go_bits);refine Kp _ _ ?_;clear Kp Ko;refine Kn.Z.s (.s rfl rfl rfl) (.len (.t rfl)) fun Ko Kp=>?_;go_simp;(try go_bits);refine Kp _ _ ?_;clear Kp Ko;refine Kn.Z.s (.s rfl rfl rfl) (.bin (.t rfl) .c) fun Ko Kp=>?_;go_simp;(try go_bits);refine Kp _ _ ?_;clear Kp Ko;refine Kn.Z.u (.e (.s rfl rfl rfl) (.move (.t rfl)) (.k (.s rfl rfl rfl) (.k (.s rfl rfl rfl) (.k (.s rfl rfl rfl) (.e (.s rfl rfl rfl) (.pick (.t rfl) .c) (.e .o (.pick (.t rfl) (.t rfl)) .n)))))) ?_;refine Kn.Z.e hK9 ?_;clear hK9 K9;refine Kn.Z.t (.c 57 rfl (.c 2 rfl (.c 1 rfl .n))) ?_;refine Kn.Z.no (.t rfl) ?_;refine Kn.Z.j hK8 ?_;clear hK8 K8;have hc : ¬ badC m := fun h => by have := HL.out.1 h; have := HLL.out; omega
    have HW4 := Lib.hid (HW3.out.trans (if_neg hc));clear HW3 hc HL;obtain ⟨sh0, hsh⟩ : ∃ s, m.sh = s := ⟨_, rfl⟩;have HR0 : Hid (RIn ipR u A sh0) := Lib.hid (by rw [← hsh]; exact HM.out.row);have HL0 : Hid (sh0.length = L) := Lib.hid (by rw [← hsh]; exact HLL.out);have HSH := Lib.hid hsh;clear hsh;replace HW4 : Hid (wrM m = (if wrS sh0 n0 L 0 ≠ -1 then wrS sh0 n0 L 0 else if m.b ≠ blkI m ∨ 2048 < blkI m then 4 + 2 * (m.sh.length : Int) else if m.r.size ≠ 32 then 5 + 2 * (m.sh.length : Int) else -1)) := Lib.hid (by rw [HW4.out, HLL.out, HN.out, HSH.out]);refine Kn.Z.q fun K10 hK10=>?_;refine Kn.Z.f fun K11 hK11=>?_;refine Kn.Z.u (.a .c .n) ?_;refine Kn.Z.e hK11 ?_;clear hK11 K11;refine Kn.Z.b ?_;intro fb fg;refine Kn.loop (fun m fr v => ∃ (j : Nat), Kn.Kn 140 [(1, .pointer (some ⟨g, 0, none⟩)), (3, .int .i64 (j : Int))] fr ∧ Hid (j + m = L ∧ wrS sh0 n0 L 0 = wrS sh0 n0 (L - j) j) ∧ v = u) L ⟨0, fg.cut (.c 1 rfl (.u 3 rfl (by go_num) .n)), Lib.hid ⟨by omega, rfl⟩, rfl⟩ ?_;clear fg fb;intro m12 fa v hI Kl12 hKl12;obtain ⟨j, fh, hj, rfl⟩ := hI;have hjle : j ≤ L := by have := hj.out.1; omega
    by_cases hlt : j < L
    · have hlti : (j : Int) < (L : Int) := by omega
      obtain ⟨ba, oa, hA, -, cf, cb⟩ := ipc HR0.out (show j < sh0.length by have := HL0.out; omega);subst hA;obtain ⟨f, hf⟩ : ∃ x, fst sh0 j = x := ⟨_, rfl⟩;obtain ⟨y, hy⟩ : ∃ x, byt sh0 j = x := ⟨_, rfl⟩;rw [hf] at cf;rw [hy] at cb;have HF := Lib.hid hf;have HY := Lib.hid hy;clear hf hy
      revert fa
      refine Kn.Z.q fun K13 hK13=>?_;refine Kn.Z.f fun K14 hK14=>?_;refine Kn.Z.u (.m (.t rfl) .n) ?_;refine Kn.Z.s .o (.fieldAddr (.t rfl)) fun Ko Kp=>?_;go_simp;(try go_bits);refine Kp _ _ ?_;clear Kp Ko;refine Kn.Z.s .o (.load (.t rfl)) fun Ko Kp=>?_;go_simp;(try go_bits);refine Kp _ _ ?_;clear Kp Ko;refine Kn.Z.s .o (.len (.t rfl)) fun Ko Kp=>?_;go_simp;(try go_bits);refine Kp _ _ ?_;clear Kp Ko;refine Kn.Z.s .o (.bin (.t rfl) (.t rfl)) fun Ko Kp=>?_;go_simp;(try go_bits);refine Kp _ _ ?_;clear Kp Ko;refine Kn.Z.e hK14 ?_;clear hK14 K14;refine Kn.Z.t (.c 62 rfl (.c 1 rfl (.c 3 rfl .n))) ?_;refine Kn.Z.y (.t rfl) ?_;refine Kn.Z.j hK13 ?_;clear hK13 K13;refine Kn.Z.q fun K15 hK15=>?_;refine Kn.Z.b ?_;refine Kn.Z.f fun K16 hK16=>?_;refine Kn.Z.s .o (.fieldAddr (.t rfl)) fun Ko Kp=>?_;go_simp;(try go_bits);refine Kp _ _ ?_;clear Kp Ko;refine Kn.Z.s .o (.load (.t rfl)) fun Ko Kp=>?_;go_simp;(try go_bits);refine Kp _ _ ?_;clear Kp Ko;refine Kn.Z.u (.m (.t rfl) .n) ?_;refine Kn.Z.s .o (.indexAddr (.t rfl) (.t rfl)) fun Ko Kp=>?_;go_simp;(try go_bits);refine Kp _ _ ?_;clear Kp Ko;refine Kn.Z.s .o (.fieldAddr (.t rfl)) fun Ko Kp=>?_;go_simp;(try go_bits);refine Kp _ _ ?_;clear Kp Ko;refine Kn.Z.s .o (.load (.t rfl)) fun Ko Kp=>?_;go_simp;(try go_bits);refine Kp _ _ ?_;clear Kp Ko;refine Kn.Z.u (.a (.t rfl) .n) ?_;refine Kn.Z.e hK16 ?_;clear hK16 K16
      by_cases z : j = 0
      · have e0 : ((j : Int) == 0) = true := by rw [z]; rfl
        have e1 : ¬ (0 : Int) < (j : Int) := by omega
        have e1n : ¬ 0 < j := by omega
        have HZ := Lib.hid z;clear z
        by_cases fz : f = 0
        · have e2 : (f != 0) = false := by rw [fz]; rfl
          have HFZ := Lib.hid fz;clear fz;refine Kn.Z.q fun K17 hK17=>?_;refine Kn.Z.f fun K18 hK18=>?_;refine Kn.Z.u (.m (.t rfl) .n) ?_;refine Kn.Z.s .o (.bin (.t rfl) .c) fun Ko Kp=>?_;go_simp;(try go_bits);refine Kp _ _ ?_;clear Kp Ko;refine Kn.Z.u (.m (.t rfl) (.e (.s rfl rfl rfl) (.move (.t rfl)) .n)) ?_;refine Kn.Z.s (.s rfl rfl rfl) (.bin (.t rfl) .c) fun Ko Kp=>?_;go_simp;(try go_bits);refine Kp _ _ ?_;clear Kp Ko;refine Kn.Z.u (.e .o (.pick (.t rfl) (.t rfl)) (.m (.t rfl) (.e (.s rfl rfl rfl) (.move (.t rfl)) .n))) ?_;refine Kn.Z.s (.s rfl rfl rfl) (.bin (.t rfl) .c) fun Ko Kp=>?_;go_simp;(try go_bits);refine Kp _ _ ?_;clear Kp Ko;refine Kn.Z.u (.e (.s rfl rfl rfl) (.move (.t rfl)) (.k (.s rfl rfl rfl) (.k (.s rfl rfl rfl) (.k (.s rfl rfl rfl) (.k (.s rfl rfl rfl) (.k (.s rfl rfl rfl) (.k (.s rfl rfl rfl) (.k (.s rfl rfl rfl) (.k (.s rfl rfl rfl) (.k (.s rfl rfl rfl) (.k (.s rfl rfl rfl) (.k (.gone rfl rfl) (.k (.gone rfl rfl) (.k (.gone rfl rfl) (.k (.gone rfl rfl) (.k (.s rfl rfl rfl) (.e (.s rfl rfl rfl) (.pick (.t rfl) .c) (.e .o (.pick (.t rfl) (.t rfl)) .n)))))))))))))))))) ?_;refine Kn.Z.e hK18 ?_;clear hK18 K18;refine Kn.Z.t (.c 97 rfl (.c 1 rfl (.c 3 rfl .n))) ?_;refine Kn.Z.no (.t rfl) ?_;refine Kn.Z.j hK17 ?_;clear hK17 K17;have hnb : ¬ badF sh0 n0 j := by unfold badF; rw [HF.out]; have := HFZ.out; have := HZ.out; omega
          have HNB := Lib.hid hnb;clear hnb;refine Kn.Z.f fun K19 hK19=>?_;refine Kn.Z.s .o (.fieldAddr (.t rfl)) fun Ko Kp=>?_;go_simp;(try go_bits);refine Kp _ _ ?_;clear Kp Ko;refine Kn.Z.s .o (.load (.t rfl)) fun Ko Kp=>?_;go_simp;(try go_bits);refine Kp _ _ ?_;clear Kp Ko;refine Kn.Z.u (.m (.t rfl) .n) ?_;refine Kn.Z.s .o (.indexAddr (.t rfl) (.t rfl)) fun Ko Kp=>?_;go_simp;(try go_bits);refine Kp _ _ ?_;clear Kp Ko;refine Kn.Z.s .o (.fieldAddr (.t rfl)) fun Ko Kp=>?_;go_simp;(try go_bits);refine Kp _ _ ?_;clear Kp Ko;refine Kn.Z.s .o (.load (.t rfl)) fun Ko Kp=>?_;go_simp;(try go_bits);refine Kp _ _ ?_;clear Kp Ko;refine Kn.Z.u (.a (.t rfl) .n) ?_;refine Kn.Z.e hK19 ?_;clear hK19 K19
          by_cases p1 : y < 3
          · refine Kn.Z.f fun K20 hK20=>?_;refine Kn.Z.u (.m (.t rfl) .n) ?_;refine Kn.Z.s .o (.bin (.t rfl) .c) fun Ko Kp=>?_;go_simp;(try go_bits);refine Kp _ _ ?_;clear Kp Ko;refine Kn.Z.u (.m (.t rfl) (.k (.s rfl rfl rfl) (.k (.s rfl rfl rfl) (.e .o (.pick (.t rfl) .c) .n)))) ?_;refine Kn.Z.e hK20 ?_;clear hK20 K20;refine Kn.Z.t (.c 112 rfl (.c 1 rfl (.c 3 rfl .n))) ?_;refine Kn.Z.y (.t rfl) ?_;refine Kn.Z.f fun K21 hK21=>?_;refine Kn.Z.u (.m (.t rfl) .n) ?_;refine Kn.Z.s .o (.bin .c (.t rfl)) fun Ko Kp=>?_;go_simp;(try go_bits);refine Kp _ _ ?_;clear Kp Ko;refine Kn.Z.s .o (.bin .c (.t rfl)) fun Ko Kp=>?_;go_simp;(try go_bits);refine Kp _ _ ?_;clear Kp Ko;refine Kn.Z.u (.a (.t rfl) .n) ?_;refine Kn.Z.e hK21 ?_;clear hK21 K21;intro fa fh;refine wp_ret ?_;refine Kn.block_ret ?_;refine Kn.then_ret ?_;refine Kn.then_ret ?_;refine Kn.block_ret ?_;refine Kn.then_ret ?_;have e9 := hj.out.2.trans (wrS_b hlt HNB.out (show badB sh0 j from by unfold badB; rw [HY.out]; exact .inl p1));exact Kn.ret1 fh rfl rfl ⟨by rw [HW4.out, if_pos (by rw [e9]; omega), e9], HB.out⟩
          by_cases p2 : 1048576 < y
          · refine Kn.Z.f fun K20 hK20=>?_;refine Kn.Z.u (.m (.t rfl) .n) ?_;refine Kn.Z.s .o (.bin (.t rfl) .c) fun Ko Kp=>?_;go_simp;(try go_bits);refine Kp _ _ ?_;clear Kp Ko;refine Kn.Z.u (.m (.t rfl) (.e (.s rfl rfl rfl) (.move (.t rfl)) .n)) ?_;refine Kn.Z.s (.s rfl rfl rfl) (.bin (.t rfl) .c) fun Ko Kp=>?_;go_simp;(try go_bits);refine Kp _ _ ?_;clear Kp Ko;refine Kn.Z.u (.e .o (.pick (.t rfl) (.t rfl)) .n) ?_;refine Kn.Z.e hK20 ?_;clear hK20 K20;refine Kn.Z.t (.c 112 rfl (.c 1 rfl (.c 3 rfl .n))) ?_;refine Kn.Z.y (.t rfl) ?_;refine Kn.Z.f fun K21 hK21=>?_;refine Kn.Z.u (.m (.t rfl) .n) ?_;refine Kn.Z.s .o (.bin .c (.t rfl)) fun Ko Kp=>?_;go_simp;(try go_bits);refine Kp _ _ ?_;clear Kp Ko;refine Kn.Z.s .o (.bin .c (.t rfl)) fun Ko Kp=>?_;go_simp;(try go_bits);refine Kp _ _ ?_;clear Kp Ko;refine Kn.Z.u (.a (.t rfl) .n) ?_;refine Kn.Z.e hK21 ?_;clear hK21 K21;intro fa fh;refine wp_ret ?_;refine Kn.block_ret ?_;refine Kn.then_ret ?_;refine Kn.then_ret ?_;refine Kn.block_ret ?_;refine Kn.then_ret ?_;have e9 := hj.out.2.trans (wrS_b hlt HNB.out (show badB sh0 j from by unfold badB; rw [HY.out]; exact .inr p2));exact Kn.ret1 fh rfl rfl ⟨by rw [HW4.out, if_pos (by rw [e9]; omega), e9], HB.out⟩
          refine Kn.Z.f fun K20 hK20=>?_;refine Kn.Z.u (.m (.t rfl) .n) ?_;refine Kn.Z.s .o (.bin (.t rfl) .c) fun Ko Kp=>?_;go_simp;(try go_bits);refine Kp _ _ ?_;clear Kp Ko;refine Kn.Z.u (.m (.t rfl) (.e (.s rfl rfl rfl) (.move (.t rfl)) .n)) ?_;refine Kn.Z.s (.s rfl rfl rfl) (.bin (.t rfl) .c) fun Ko Kp=>?_;go_simp;(try go_bits);refine Kp _ _ ?_;clear Kp Ko;refine Kn.Z.u (.e .o (.pick (.t rfl) (.t rfl)) .n) ?_;refine Kn.Z.e hK20 ?_;clear hK20 K20;refine Kn.Z.t (.c 112 rfl (.c 1 rfl (.c 3 rfl .n))) ?_;refine Kn.Z.no (.t rfl) ?_;intro fa fh;refine wp_skip ?_;refine Kn.block_normal ?_;refine hK15 _ _ ?_;clear hK15 K15;have hnx := hj.out.2.trans (wrS_n hlt HNB.out (by unfold badB; rw [HY.out]; exact fun h => h.elim p1 p2));have hj' := hj.out.1
          revert fa
          refine Kn.Z.r ?_;refine Kn.Z.u (.m (.t rfl) .n) ?_;refine Kn.Z.s .o (.bin (.t rfl) .c) fun Ko Kp=>?_;go_simp;(try go_bits);refine Kp _ _ ?_;clear Kp Ko;refine Kn.Z.u (.a (.t rfl) .n) ?_;intro fb fg;refine wpList_nil ?_;replace fg := fg.cut (.c 3 rfl (.c 1 rfl .n));exact hKl12 (m12 - 1) _ _ (by omega) ⟨j + 1, fg.cut (.c 1 rfl (.u 3 rfl (by go_num) .n)), Lib.hid ⟨by omega, hnx⟩, rfl⟩
        have e2 : (f != 0) = true := by rw [bne_iff_ne]; exact fz
        refine Kn.Z.q fun K17 hK17=>?_;refine Kn.Z.f fun K18 hK18=>?_;refine Kn.Z.u (.m (.t rfl) .n) ?_;refine Kn.Z.s .o (.bin (.t rfl) .c) fun Ko Kp=>?_;go_simp;(try go_bits);refine Kp _ _ ?_;clear Kp Ko;refine Kn.Z.u (.m (.t rfl) (.e (.s rfl rfl rfl) (.move (.t rfl)) .n)) ?_;refine Kn.Z.s (.s rfl rfl rfl) (.bin (.t rfl) .c) fun Ko Kp=>?_;go_simp;(try go_bits);refine Kp _ _ ?_;clear Kp Ko;refine Kn.Z.u (.e .o (.pick (.t rfl) (.t rfl)) (.m (.t rfl) (.k (.s rfl rfl rfl) (.k (.s rfl rfl rfl) (.k (.s rfl rfl rfl) (.k (.gone rfl rfl) (.k (.gone rfl rfl) (.k (.gone rfl rfl) (.k (.gone rfl rfl) (.k (.gone rfl rfl) (.k (.gone rfl rfl) (.k (.gone rfl rfl) (.k (.gone rfl rfl) (.k (.gone rfl rfl) (.k (.gone rfl rfl) (.k (.gone rfl rfl) (.k (.gone rfl rfl) (.k (.gone rfl rfl) (.k (.gone rfl rfl) (.k (.gone rfl rfl) (.k (.s rfl rfl rfl) (.e .o (.pick (.t rfl) .c) .n)))))))))))))))))))))) ?_;refine Kn.Z.e hK18 ?_;clear hK18 K18;refine Kn.Z.t (.c 97 rfl (.c 1 rfl (.c 3 rfl .n))) ?_;refine Kn.Z.y (.t rfl) ?_;refine Kn.Z.f fun K19 hK19=>?_;refine Kn.Z.u (.m (.t rfl) .n) ?_;refine Kn.Z.s .o (.bin .c (.t rfl)) fun Ko Kp=>?_;go_simp;(try go_bits);refine Kp _ _ ?_;clear Kp Ko;refine Kn.Z.s .o (.bin .c (.t rfl)) fun Ko Kp=>?_;go_simp;(try go_bits);refine Kp _ _ ?_;clear Kp Ko;refine Kn.Z.u (.a (.t rfl) .n) ?_;refine Kn.Z.e hK19 ?_;clear hK19 K19;intro fb fg;refine wp_ret ?_;refine Kn.then_ret ?_;refine Kn.block_ret ?_;refine Kn.then_ret ?_;refine Kn.then_ret ?_;refine Kn.block_ret ?_;refine Kn.then_ret ?_;have hbad : badF sh0 n0 j := by unfold badF; rw [HF.out]; exact .inl ⟨HZ.out, fz⟩
        have e9 := hj.out.2.trans (wrS_f hlt hbad);exact Kn.ret1 fg rfl rfl ⟨by rw [HW4.out, if_pos (by rw [e9]; omega), e9], HB.out⟩
      have e0 : ((j : Int) == 0) = false := by rw [beq_eq_false_iff_ne]; omega
      have e1 : (0 : Int) < (j : Int) := by omega
      have e1n : 0 < j := by omega
      obtain ⟨k, hk⟩ : ∃ k, j - 1 = k := ⟨_, rfl⟩;have rk : (j : Int) - 1 = (k : Int) := by omega
      have hkL : k < L := by omega
      obtain ⟨ba2, oa2, hA2, -, cf2, -⟩ := ipc HR0.out (show k < sh0.length by have := HL0.out; omega);cases hA2;obtain ⟨f2, hf2⟩ : ∃ x, fst sh0 k = x := ⟨_, rfl⟩;rw [hf2] at cf2;have HF2 : Hid (fst sh0 (j - 1) = f2) := Lib.hid (by rw [hk]; exact hf2);have HK := Lib.hid hk;clear hf2 hk
      by_cases g1 : f ≤ f2
      · refine Kn.Z.q fun K17 hK17=>?_;refine Kn.Z.f fun K18 hK18=>?_;refine Kn.Z.u (.m (.t rfl) .n) ?_;refine Kn.Z.s .o (.bin (.t rfl) .c) fun Ko Kp=>?_;go_simp;(try go_bits);refine Kp _ _ ?_;clear Kp Ko;refine Kn.Z.u (.m (.t rfl) (.k (.s rfl rfl rfl) (.k (.s rfl rfl rfl) (.e .o (.pick (.t rfl) .c) (.m (.t rfl) (.e (.s rfl rfl rfl) (.move (.t rfl)) .n)))))) ?_;refine Kn.Z.s (.s rfl rfl rfl) (.bin (.t rfl) .c) fun Ko Kp=>?_;go_simp;(try go_bits);refine Kp _ _ ?_;clear Kp Ko;refine Kn.Z.u (.e (.s rfl rfl rfl) (.move (.t rfl)) (.e (.s rfl rfl rfl) (.move (.t rfl)) .n)) ?_;refine Kn.Z.s (.s rfl rfl rfl) (.fieldAddr (.t rfl)) fun Ko Kp=>?_;go_simp;(try go_bits);refine Kp _ _ ?_;clear Kp Ko;refine Kn.Z.s (.s rfl rfl rfl) (.load (.t rfl)) fun Ko Kp=>?_;go_simp;(try go_bits);refine Kp _ _ ?_;clear Kp Ko;refine Kn.Z.u (.e (.s rfl rfl rfl) (.move (.t rfl)) .n) ?_;refine Kn.Z.s (.s rfl rfl rfl) (.bin (.t rfl) .c) fun Ko Kp=>?_;go_simp;(try go_bits);try rw [rk]
        refine Kp _ _ ?_;clear Kp Ko;refine Kn.Z.s (.s rfl rfl rfl) (.indexAddr (.t rfl) (.t rfl)) fun Ko Kp=>?_;go_simp;(try go_bits);refine Kp _ _ ?_;clear Kp Ko;refine Kn.Z.s (.s rfl rfl rfl) (.fieldAddr (.t rfl)) fun Ko Kp=>?_;go_simp;(try go_bits);refine Kp _ _ ?_;clear Kp Ko;refine Kn.Z.s (.s rfl rfl rfl) (.load (.t rfl)) fun Ko Kp=>?_;go_simp;(try go_bits);refine Kp _ _ ?_;clear Kp Ko;refine Kn.Z.s (.s rfl rfl rfl) (.bin (.t rfl) (.t rfl)) fun Ko Kp=>?_;go_simp;(try go_bits);refine Kp _ _ ?_;clear Kp Ko;refine Kn.Z.u (.e (.s rfl rfl rfl) (.move (.t rfl)) (.k (.s rfl rfl rfl) (.k (.s rfl rfl rfl) (.k (.s rfl rfl rfl) (.k (.s rfl rfl rfl) (.e (.s rfl rfl rfl) (.pick (.t rfl) .c) (.e (.s rfl rfl rfl) (.pick (.t rfl) (.t rfl)) (.e .o (.pick (.t rfl) (.t rfl)) .n)))))))) ?_;refine Kn.Z.e hK18 ?_;clear hK18 K18;refine Kn.Z.t (.c 97 rfl (.c 1 rfl (.c 3 rfl .n))) ?_;refine Kn.Z.y (.t rfl) ?_;refine Kn.Z.f fun K19 hK19=>?_;refine Kn.Z.u (.m (.t rfl) .n) ?_;refine Kn.Z.s .o (.bin .c (.t rfl)) fun Ko Kp=>?_;go_simp;(try go_bits);refine Kp _ _ ?_;clear Kp Ko;refine Kn.Z.s .o (.bin .c (.t rfl)) fun Ko Kp=>?_;go_simp;(try go_bits);refine Kp _ _ ?_;clear Kp Ko;refine Kn.Z.u (.a (.t rfl) .n) ?_;refine Kn.Z.e hK19 ?_;clear hK19 K19;intro fb fg;refine wp_ret ?_;refine Kn.then_ret ?_;refine Kn.block_ret ?_;refine Kn.then_ret ?_;refine Kn.then_ret ?_;refine Kn.block_ret ?_;refine Kn.then_ret ?_;have hbad : badF sh0 n0 j := by unfold badF; rw [HF.out, HF2.out]; exact .inr ⟨e1n, .inl g1⟩
        have e9 := hj.out.2.trans (wrS_f hlt hbad);exact Kn.ret1 fg rfl rfl ⟨by rw [HW4.out, if_pos (by rw [e9]; omega), e9], HB.out⟩
      by_cases g2 : n0 ≤ f
      · refine Kn.Z.q fun K17 hK17=>?_;refine Kn.Z.f fun K18 hK18=>?_;refine Kn.Z.u (.m (.t rfl) .n) ?_;refine Kn.Z.s .o (.bin (.t rfl) .c) fun Ko Kp=>?_;go_simp;(try go_bits);refine Kp _ _ ?_;clear Kp Ko;refine Kn.Z.u (.m (.t rfl) (.k (.s rfl rfl rfl) (.k (.s rfl rfl rfl) (.e .o (.pick (.t rfl) .c) (.m (.t rfl) (.e (.s rfl rfl rfl) (.move (.t rfl)) .n)))))) ?_;refine Kn.Z.s (.s rfl rfl rfl) (.bin (.t rfl) .c) fun Ko Kp=>?_;go_simp;(try go_bits);refine Kp _ _ ?_;clear Kp Ko;refine Kn.Z.u (.e (.s rfl rfl rfl) (.move (.t rfl)) (.e (.s rfl rfl rfl) (.move (.t rfl)) .n)) ?_;refine Kn.Z.s (.s rfl rfl rfl) (.fieldAddr (.t rfl)) fun Ko Kp=>?_;go_simp;(try go_bits);refine Kp _ _ ?_;clear Kp Ko;refine Kn.Z.s (.s rfl rfl rfl) (.load (.t rfl)) fun Ko Kp=>?_;go_simp;(try go_bits);refine Kp _ _ ?_;clear Kp Ko;refine Kn.Z.u (.e (.s rfl rfl rfl) (.move (.t rfl)) .n) ?_;refine Kn.Z.s (.s rfl rfl rfl) (.bin (.t rfl) .c) fun Ko Kp=>?_;go_simp;(try go_bits);try rw [rk]
        refine Kp _ _ ?_;clear Kp Ko;refine Kn.Z.s (.s rfl rfl rfl) (.indexAddr (.t rfl) (.t rfl)) fun Ko Kp=>?_;go_simp;(try go_bits);refine Kp _ _ ?_;clear Kp Ko;refine Kn.Z.s (.s rfl rfl rfl) (.fieldAddr (.t rfl)) fun Ko Kp=>?_;go_simp;(try go_bits);refine Kp _ _ ?_;clear Kp Ko;refine Kn.Z.s (.s rfl rfl rfl) (.load (.t rfl)) fun Ko Kp=>?_;go_simp;(try go_bits);refine Kp _ _ ?_;clear Kp Ko;refine Kn.Z.s (.s rfl rfl rfl) (.bin (.t rfl) (.t rfl)) fun Ko Kp=>?_;go_simp;(try go_bits);refine Kp _ _ ?_;clear Kp Ko;refine Kn.Z.u (.e (.s rfl rfl rfl) (.move (.t rfl)) (.e (.s rfl rfl rfl) (.move (.t rfl)) .n)) ?_;refine Kn.Z.s (.s rfl rfl rfl) (.fieldAddr (.t rfl)) fun Ko Kp=>?_;go_simp;(try go_bits);refine Kp _ _ ?_;clear Kp Ko;refine Kn.Z.s (.s rfl rfl rfl) (.load (.t rfl)) fun Ko Kp=>?_;go_simp;(try go_bits);refine Kp _ _ ?_;clear Kp Ko;refine Kn.Z.s (.s rfl rfl rfl) (.bin (.t rfl) (.t rfl)) fun Ko Kp=>?_;go_simp;(try go_bits);refine Kp _ _ ?_;clear Kp Ko;refine Kn.Z.u (.e (.s rfl rfl rfl) (.pick (.t rfl) (.t rfl)) (.e (.s rfl rfl rfl) (.pick (.t rfl) (.t rfl)) (.e .o (.pick (.t rfl) (.t rfl)) .n))) ?_;refine Kn.Z.e hK18 ?_;clear hK18 K18;refine Kn.Z.t (.c 97 rfl (.c 1 rfl (.c 3 rfl .n))) ?_;refine Kn.Z.y (.t rfl) ?_;refine Kn.Z.f fun K19 hK19=>?_;refine Kn.Z.u (.m (.t rfl) .n) ?_;refine Kn.Z.s .o (.bin .c (.t rfl)) fun Ko Kp=>?_;go_simp;(try go_bits);refine Kp _ _ ?_;clear Kp Ko;refine Kn.Z.s .o (.bin .c (.t rfl)) fun Ko Kp=>?_;go_simp;(try go_bits);refine Kp _ _ ?_;clear Kp Ko;refine Kn.Z.u (.a (.t rfl) .n) ?_;refine Kn.Z.e hK19 ?_;clear hK19 K19;intro fb fg;refine wp_ret ?_;refine Kn.then_ret ?_;refine Kn.block_ret ?_;refine Kn.then_ret ?_;refine Kn.then_ret ?_;refine Kn.block_ret ?_;refine Kn.then_ret ?_;have hbad : badF sh0 n0 j := by unfold badF; rw [HF.out, HF2.out]; exact .inr ⟨e1n, .inr g2⟩
        have e9 := hj.out.2.trans (wrS_f hlt hbad);exact Kn.ret1 fg rfl rfl ⟨by rw [HW4.out, if_pos (by rw [e9]; omega), e9], HB.out⟩
      refine Kn.Z.q fun K17 hK17=>?_;refine Kn.Z.f fun K18 hK18=>?_;refine Kn.Z.u (.m (.t rfl) .n) ?_;refine Kn.Z.s .o (.bin (.t rfl) .c) fun Ko Kp=>?_;go_simp;(try go_bits);refine Kp _ _ ?_;clear Kp Ko;refine Kn.Z.u (.m (.t rfl) (.k (.s rfl rfl rfl) (.k (.s rfl rfl rfl) (.e .o (.pick (.t rfl) .c) (.m (.t rfl) (.e (.s rfl rfl rfl) (.move (.t rfl)) .n)))))) ?_;refine Kn.Z.s (.s rfl rfl rfl) (.bin (.t rfl) .c) fun Ko Kp=>?_;go_simp;(try go_bits);refine Kp _ _ ?_;clear Kp Ko;refine Kn.Z.u (.e (.s rfl rfl rfl) (.move (.t rfl)) (.e (.s rfl rfl rfl) (.move (.t rfl)) .n)) ?_;refine Kn.Z.s (.s rfl rfl rfl) (.fieldAddr (.t rfl)) fun Ko Kp=>?_;go_simp;(try go_bits);refine Kp _ _ ?_;clear Kp Ko;refine Kn.Z.s (.s rfl rfl rfl) (.load (.t rfl)) fun Ko Kp=>?_;go_simp;(try go_bits);refine Kp _ _ ?_;clear Kp Ko;refine Kn.Z.u (.e (.s rfl rfl rfl) (.move (.t rfl)) .n) ?_;refine Kn.Z.s (.s rfl rfl rfl) (.bin (.t rfl) .c) fun Ko Kp=>?_;go_simp;(try go_bits);try rw [rk]
      refine Kp _ _ ?_;clear Kp Ko;refine Kn.Z.s (.s rfl rfl rfl) (.indexAddr (.t rfl) (.t rfl)) fun Ko Kp=>?_;go_simp;(try go_bits);refine Kp _ _ ?_;clear Kp Ko;refine Kn.Z.s (.s rfl rfl rfl) (.fieldAddr (.t rfl)) fun Ko Kp=>?_;go_simp;(try go_bits);refine Kp _ _ ?_;clear Kp Ko;refine Kn.Z.s (.s rfl rfl rfl) (.load (.t rfl)) fun Ko Kp=>?_;go_simp;(try go_bits);refine Kp _ _ ?_;clear Kp Ko;refine Kn.Z.s (.s rfl rfl rfl) (.bin (.t rfl) (.t rfl)) fun Ko Kp=>?_;go_simp;(try go_bits);refine Kp _ _ ?_;clear Kp Ko;refine Kn.Z.u (.e (.s rfl rfl rfl) (.move (.t rfl)) (.e (.s rfl rfl rfl) (.move (.t rfl)) .n)) ?_;refine Kn.Z.s (.s rfl rfl rfl) (.fieldAddr (.t rfl)) fun Ko Kp=>?_;go_simp;(try go_bits);refine Kp _ _ ?_;clear Kp Ko;refine Kn.Z.s (.s rfl rfl rfl) (.load (.t rfl)) fun Ko Kp=>?_;go_simp;(try go_bits);refine Kp _ _ ?_;clear Kp Ko;refine Kn.Z.s (.s rfl rfl rfl) (.bin (.t rfl) (.t rfl)) fun Ko Kp=>?_;go_simp;(try go_bits);refine Kp _ _ ?_;clear Kp Ko;refine Kn.Z.u (.e (.s rfl rfl rfl) (.pick (.t rfl) (.t rfl)) (.e (.s rfl rfl rfl) (.pick (.t rfl) (.t rfl)) (.e .o (.pick (.t rfl) (.t rfl)) .n))) ?_;refine Kn.Z.e hK18 ?_;clear hK18 K18;refine Kn.Z.t (.c 97 rfl (.c 1 rfl (.c 3 rfl .n))) ?_;refine Kn.Z.no (.t rfl) ?_;refine Kn.Z.j hK17 ?_;clear hK17 K17;have hnb : ¬ badF sh0 n0 j := by unfold badF; rw [HF.out, HF2.out]; omega
      have HNB := Lib.hid hnb;clear hnb;refine Kn.Z.f fun K19 hK19=>?_;refine Kn.Z.s .o (.fieldAddr (.t rfl)) fun Ko Kp=>?_;go_simp;(try go_bits);refine Kp _ _ ?_;clear Kp Ko;refine Kn.Z.s .o (.load (.t rfl)) fun Ko Kp=>?_;go_simp;(try go_bits);refine Kp _ _ ?_;clear Kp Ko;refine Kn.Z.u (.m (.t rfl) .n) ?_;refine Kn.Z.s .o (.indexAddr (.t rfl) (.t rfl)) fun Ko Kp=>?_;go_simp;(try go_bits);refine Kp _ _ ?_;clear Kp Ko;refine Kn.Z.s .o (.fieldAddr (.t rfl)) fun Ko Kp=>?_;go_simp;(try go_bits);refine Kp _ _ ?_;clear Kp Ko;refine Kn.Z.s .o (.load (.t rfl)) fun Ko Kp=>?_;go_simp;(try go_bits);refine Kp _ _ ?_;clear Kp Ko;refine Kn.Z.u (.a (.t rfl) .n) ?_;refine Kn.Z.e hK19 ?_;clear hK19 K19
      by_cases p1 : y < 3
      · refine Kn.Z.f fun K20 hK20=>?_;refine Kn.Z.u (.m (.t rfl) .n) ?_;refine Kn.Z.s .o (.bin (.t rfl) .c) fun Ko Kp=>?_;go_simp;(try go_bits);refine Kp _ _ ?_;clear Kp Ko;refine Kn.Z.u (.m (.t rfl) (.k (.s rfl rfl rfl) (.k (.s rfl rfl rfl) (.e .o (.pick (.t rfl) .c) .n)))) ?_;refine Kn.Z.e hK20 ?_;clear hK20 K20;refine Kn.Z.t (.c 112 rfl (.c 1 rfl (.c 3 rfl .n))) ?_;refine Kn.Z.y (.t rfl) ?_;refine Kn.Z.f fun K21 hK21=>?_;refine Kn.Z.u (.m (.t rfl) .n) ?_;refine Kn.Z.s .o (.bin .c (.t rfl)) fun Ko Kp=>?_;go_simp;(try go_bits);refine Kp _ _ ?_;clear Kp Ko;refine Kn.Z.s .o (.bin .c (.t rfl)) fun Ko Kp=>?_;go_simp;(try go_bits);refine Kp _ _ ?_;clear Kp Ko;refine Kn.Z.u (.a (.t rfl) .n) ?_;refine Kn.Z.e hK21 ?_;clear hK21 K21;intro fa fh;refine wp_ret ?_;refine Kn.block_ret ?_;refine Kn.then_ret ?_;refine Kn.then_ret ?_;refine Kn.block_ret ?_;refine Kn.then_ret ?_;have e9 := hj.out.2.trans (wrS_b hlt HNB.out (show badB sh0 j from by unfold badB; rw [HY.out]; exact .inl p1));exact Kn.ret1 fh rfl rfl ⟨by rw [HW4.out, if_pos (by rw [e9]; omega), e9], HB.out⟩
      by_cases p2 : 1048576 < y
      · refine Kn.Z.f fun K20 hK20=>?_;refine Kn.Z.u (.m (.t rfl) .n) ?_;refine Kn.Z.s .o (.bin (.t rfl) .c) fun Ko Kp=>?_;go_simp;(try go_bits);refine Kp _ _ ?_;clear Kp Ko;refine Kn.Z.u (.m (.t rfl) (.e (.s rfl rfl rfl) (.move (.t rfl)) .n)) ?_;refine Kn.Z.s (.s rfl rfl rfl) (.bin (.t rfl) .c) fun Ko Kp=>?_;go_simp;(try go_bits);refine Kp _ _ ?_;clear Kp Ko;refine Kn.Z.u (.e .o (.pick (.t rfl) (.t rfl)) .n) ?_;refine Kn.Z.e hK20 ?_;clear hK20 K20;refine Kn.Z.t (.c 112 rfl (.c 1 rfl (.c 3 rfl .n))) ?_;refine Kn.Z.y (.t rfl) ?_;refine Kn.Z.f fun K21 hK21=>?_;refine Kn.Z.u (.m (.t rfl) .n) ?_;refine Kn.Z.s .o (.bin .c (.t rfl)) fun Ko Kp=>?_;go_simp;(try go_bits);refine Kp _ _ ?_;clear Kp Ko;refine Kn.Z.s .o (.bin .c (.t rfl)) fun Ko Kp=>?_;go_simp;(try go_bits);refine Kp _ _ ?_;clear Kp Ko;refine Kn.Z.u (.a (.t rfl) .n) ?_;refine Kn.Z.e hK21 ?_;clear hK21 K21;intro fa fh;refine wp_ret ?_;refine Kn.block_ret ?_;refine Kn.then_ret ?_;refine Kn.then_ret ?_;refine Kn.block_ret ?_;refine Kn.then_ret ?_;have e9 := hj.out.2.trans (wrS_b hlt HNB.out (show badB sh0 j from by unfold badB; rw [HY.out]; exact .inr p2));exact Kn.ret1 fh rfl rfl ⟨by rw [HW4.out, if_pos (by rw [e9]; omega), e9], HB.out⟩
      refine Kn.Z.f fun K20 hK20=>?_;refine Kn.Z.u (.m (.t rfl) .n) ?_;refine Kn.Z.s .o (.bin (.t rfl) .c) fun Ko Kp=>?_;go_simp;(try go_bits);refine Kp _ _ ?_;clear Kp Ko;refine Kn.Z.u (.m (.t rfl) (.e (.s rfl rfl rfl) (.move (.t rfl)) .n)) ?_;refine Kn.Z.s (.s rfl rfl rfl) (.bin (.t rfl) .c) fun Ko Kp=>?_;go_simp;(try go_bits);refine Kp _ _ ?_;clear Kp Ko;refine Kn.Z.u (.e .o (.pick (.t rfl) (.t rfl)) .n) ?_;refine Kn.Z.e hK20 ?_;clear hK20 K20;refine Kn.Z.t (.c 112 rfl (.c 1 rfl (.c 3 rfl .n))) ?_;refine Kn.Z.no (.t rfl) ?_;intro fa fh;refine wp_skip ?_;refine Kn.block_normal ?_;refine hK15 _ _ ?_;clear hK15 K15;have hnx := hj.out.2.trans (wrS_n hlt HNB.out (by unfold badB; rw [HY.out]; exact fun h => h.elim p1 p2));have hj' := hj.out.1
      revert fa
      refine Kn.Z.r ?_;refine Kn.Z.u (.m (.t rfl) .n) ?_;refine Kn.Z.s .o (.bin (.t rfl) .c) fun Ko Kp=>?_;go_simp;(try go_bits);refine Kp _ _ ?_;clear Kp Ko;refine Kn.Z.u (.a (.t rfl) .n) ?_;intro fb fg;refine wpList_nil ?_;replace fg := fg.cut (.c 3 rfl (.c 1 rfl .n));exact hKl12 (m12 - 1) _ _ (by omega) ⟨j + 1, fg.cut (.c 1 rfl (.u 3 rfl (by go_num) .n)), Lib.hid ⟨by omega, hnx⟩, rfl⟩
    have hlti : ¬ (j : Int) < (L : Int) := by omega
    obtain rfl : j = L := by omega
    revert fa
    refine Kn.Z.q fun K13 hK13=>?_;refine Kn.Z.f fun K14 hK14=>?_;refine Kn.Z.u (.m (.t rfl) .n) ?_;refine Kn.Z.s .o (.fieldAddr (.t rfl)) fun Ko Kp=>?_;go_simp;(try go_bits);refine Kp _ _ ?_;clear Kp Ko;refine Kn.Z.s .o (.load (.t rfl)) fun Ko Kp=>?_;go_simp;(try go_bits);refine Kp _ _ ?_;clear Kp Ko;refine Kn.Z.s .o (.len (.t rfl)) fun Ko Kp=>?_;go_simp;(try go_bits);refine Kp _ _ ?_;clear Kp Ko;refine Kn.Z.s .o (.bin (.t rfl) (.t rfl)) fun Ko Kp=>?_;go_simp;(try go_bits);refine Kp _ _ ?_;clear Kp Ko;refine Kn.Z.e hK14 ?_;clear hK14 K14;refine Kn.Z.t (.c 62 rfl (.c 1 rfl (.c 3 rfl .n))) ?_;refine Kn.Z.no (.t rfl) ?_;intro fb fg;refine wp_exit ?_;refine Kn.then_exit ?_;clear hK13 K13;refine Kn.then_exit ?_;clear hKl12 Kl12;refine Kn.block_exit ?_;refine hK10 _ _ ?_;clear hK10 K10;have hgood := hj.out.2;rw [Nat.sub_self, wrS] at hgood;have HGD := Lib.hid hgood;have hall := (wrS_good sh0 n0 j 0).1 hgood
    have hby : ∀ i, i < sh0.length → 3 ≤ byt sh0 i ∧ byt sh0 i ≤ 1048576 := fun i hi => by
      have := (hall i (Nat.zero_le _) (by have := HL0.out; omega)).2;unfold badB at this;omega
    have HW5 : Hid (wrM m = (if m.b ≠ blkI m ∨ 2048 < blkI m then 4 + 2 * (j : Int) else if m.r.size ≠ 32 then 5 + 2 * (j : Int) else -1)) := Lib.hid (by rw [HW4.out, if_neg (by rw [HGD.out]; simp), HLL.out]);have htot := total_any m A c _ HM.out (by rw [HSH.out]; exact hby);have htb := totK_bd hby sh0.length (Nat.le_refl _)
    have htb2 : 0 ≤ tot m ∧ tot m ≤ 104857600 := by
      unfold tot;rw [HSH.out];have := HL0.out;omega
    obtain ⟨t, ht⟩ : ∃ t, tot m = t := ⟨_, rfl⟩;rw [ht] at htot htb2;obtain ⟨q, hq⟩ : ∃ q, (t + 63) / 64 = q := ⟨_, rfl⟩;have hqb : 0 ≤ q ∧ q ≤ 1638401 := by omega
    have rq : (t + 63).tdiv 64 = q := by rw [Int.tdiv_eq_ediv_of_nonneg (by omega)]; exact hq
    have HQ : Hid (blkI m = q) := Lib.hid (by unfold blkI; rw [ht]; exact hq);have hld := loadM HS.out Tryz.underlying40 rfl (by kernel_rfl);have HTOT := Lib.hid htot;have HLDM := Lib.hid hld;clear hgood hall hby htb ht hq htot hld hlt hlti
    revert fb
    refine Kn.Z.f fun K15 hK15=>?_;refine Kn.Z.s .o (.fieldAddr (.t rfl)) fun Ko Kp=>?_;go_simp;(try go_bits);refine Kp _ _ ?_;clear Kp Ko;refine Kn.Z.s .o (.load (.t rfl)) fun Ko Kp=>?_;go_simp;(try go_bits);refine Kp _ _ ?_;clear Kp Ko;refine Kn.Z.s .o (.len (.t rfl)) fun Ko Kp=>?_;go_simp;(try go_bits);refine Kp _ _ ?_;clear Kp Ko;refine Kn.Z.s .o (.bin .c (.t rfl)) fun Ko Kp=>?_;go_simp;(try go_bits);refine Kp _ _ ?_;clear Kp Ko;refine Kn.Z.s .o (.bin .c (.t rfl)) fun Ko Kp=>?_;go_simp;(try go_bits);refine Kp _ _ ?_;clear Kp Ko;refine Kn.Z.u (.a (.t rfl) .n) ?_;refine Kn.Z.e hK15 ?_;clear hK15 K15;refine Kn.Z.f fun K16 hK16=>?_;refine Kn.Z.k .o (.load (.t rfl)) HLDM.out ?_;refine Kn.Z.c .o (.call (.c (.t rfl) .n)) Tryz.call46 (HTOT.out) fun e w1 hp=>?_;obtain ⟨rfl, hb1⟩ := hp;refine ⟨_,rfl,?_⟩;refine Kn.Z.s .o (.bin (.t rfl) .c) fun Ko Kp=>?_;go_simp;(try go_bits);refine Kp _ _ ?_;clear Kp Ko;refine Kn.Z.s .o (.bin (.t rfl) .c) fun Ko Kp=>?_;go_simp;(try go_bits);try rw [rq]
    try go_simp
    (try go_bits);refine Kp _ _ ?_;clear Kp Ko;refine Kn.Z.u (.a (.t rfl) .n) ?_;refine Kn.Z.e hK16 ?_;clear hK16 K16;refine Kn.Z.t (.c 7 rfl (.c 6 rfl (.c 1 rfl .n))) ?_;clear rq;have hS1 := HS.out.on hb1;have j4 := hS1.cell 4 rfl;have j5 := hS1.cell 5 rfl;rw [HBB.out] at j4;have HB2 := Lib.hid (HB.out.trans (hb1.mono HB.out.size));clear hS1 hb1
    by_cases p1 : b0 = q
    · have p1b : (b0 != q) = false := by rw [p1]; simp
      have HP1 := Lib.hid p1;clear p1
      by_cases p2 : 2048 < q
      · refine Kn.Z.q fun K17 hK17=>?_;refine Kn.Z.f fun K18 hK18=>?_;refine Kn.Z.s .o (.fieldAddr (.t rfl)) fun Ko Kp=>?_;go_simp;(try go_bits);refine Kp _ _ ?_;clear Kp Ko;refine Kn.Z.s .o (.load (.t rfl)) fun Ko Kp=>?_;go_simp;(try go_bits);refine Kp _ _ ?_;clear Kp Ko;refine Kn.Z.u (.m (.t rfl) .n) ?_;refine Kn.Z.s .o (.bin (.t rfl) (.t rfl)) fun Ko Kp=>?_;go_simp;(try go_bits);refine Kp _ _ ?_;clear Kp Ko;refine Kn.Z.u (.m (.t rfl) (.e (.s rfl rfl rfl) (.move (.t rfl)) .n)) ?_;refine Kn.Z.s (.s rfl rfl rfl) (.bin (.t rfl) .c) fun Ko Kp=>?_;go_simp;(try go_bits);refine Kp _ _ ?_;clear Kp Ko;refine Kn.Z.u (.e .o (.pick (.t rfl) (.t rfl)) .n) ?_;refine Kn.Z.e hK18 ?_;clear hK18 K18;refine Kn.Z.y (.t rfl) ?_;refine Kn.Z.f fun K19 hK19=>?_;refine Kn.Z.u (.m (.t rfl) (.a (.t rfl) .n)) ?_;refine Kn.Z.e hK19 ?_;clear hK19 K19;refine Kn.Z.t (.c 2 rfl (.c 6 rfl (.c 1 rfl .n))) ?_;intro fa fh;refine wp_ret ?_;refine Kn.then_ret ?_;exact Kn.ret1 fh rfl rfl ⟨by rw [HW5.out, if_pos (.inr (by rw [HQ.out]; exact p2))], HB2.out⟩
      refine Kn.Z.q fun K17 hK17=>?_;refine Kn.Z.f fun K18 hK18=>?_;refine Kn.Z.s .o (.fieldAddr (.t rfl)) fun Ko Kp=>?_;go_simp;(try go_bits);refine Kp _ _ ?_;clear Kp Ko;refine Kn.Z.s .o (.load (.t rfl)) fun Ko Kp=>?_;go_simp;(try go_bits);refine Kp _ _ ?_;clear Kp Ko;refine Kn.Z.u (.m (.t rfl) .n) ?_;refine Kn.Z.s .o (.bin (.t rfl) (.t rfl)) fun Ko Kp=>?_;go_simp;(try go_bits);refine Kp _ _ ?_;clear Kp Ko;refine Kn.Z.u (.m (.t rfl) (.e (.s rfl rfl rfl) (.move (.t rfl)) .n)) ?_;refine Kn.Z.s (.s rfl rfl rfl) (.bin (.t rfl) .c) fun Ko Kp=>?_;go_simp;(try go_bits);refine Kp _ _ ?_;clear Kp Ko;refine Kn.Z.u (.e .o (.pick (.t rfl) (.t rfl)) .n) ?_;refine Kn.Z.e hK18 ?_;clear hK18 K18;refine Kn.Z.no (.t rfl) ?_;refine Kn.Z.j hK17 ?_;clear hK17 K17;have hno : ¬ (m.b ≠ blkI m ∨ 2048 < blkI m) := by rw [HQ.out, HBB.out, HP1.out]; omega
      have HNO := Lib.hid hno;clear hno
      by_cases p3 : m.r.size = 32
      · have p3b : ((m.r.size : Int) != 32) = false := by rw [p3]; rfl
        have HP3 := Lib.hid p3;clear p3;refine Kn.Z.q fun K19 hK19=>?_;refine Kn.Z.f fun K20 hK20=>?_;refine Kn.Z.s .o (.fieldAddr (.t rfl)) fun Ko Kp=>?_;go_simp;(try go_bits);refine Kp _ _ ?_;clear Kp Ko;refine Kn.Z.s .o (.load (.t rfl)) fun Ko Kp=>?_;go_simp;(try go_bits);refine Kp _ _ ?_;clear Kp Ko;refine Kn.Z.s .o (.len (.t rfl)) fun Ko Kp=>?_;go_simp;(try go_bits);refine Kp _ _ ?_;clear Kp Ko;refine Kn.Z.s .o (.bin (.t rfl) .c) fun Ko Kp=>?_;go_simp;(try go_bits);refine Kp _ _ ?_;clear Kp Ko;refine Kn.Z.e hK20 ?_;clear hK20 K20;refine Kn.Z.t (.c 137 rfl (.c 6 rfl .n)) ?_;refine Kn.Z.no (.t rfl) ?_;refine Kn.Z.j hK19 ?_;clear hK19 K19;refine Kn.Z.f fun K21 hK21=>?_;refine Kn.Z.u (.a .c .n) ?_;refine Kn.Z.e hK21 ?_;clear hK21 K21;intro fb fg;refine wp_ret ?_;exact Kn.ret1 fg rfl rfl ⟨by rw [HW5.out, if_neg HNO.out, if_neg (by rw [HP3.out]; simp)], HB2.out⟩
      have p3b : ((m.r.size : Int) != 32) = true := by rw [bne_iff_ne]; omega
      refine Kn.Z.q fun K19 hK19=>?_;refine Kn.Z.f fun K20 hK20=>?_;refine Kn.Z.s .o (.fieldAddr (.t rfl)) fun Ko Kp=>?_;go_simp;(try go_bits);refine Kp _ _ ?_;clear Kp Ko;refine Kn.Z.s .o (.load (.t rfl)) fun Ko Kp=>?_;go_simp;(try go_bits);refine Kp _ _ ?_;clear Kp Ko;refine Kn.Z.s .o (.len (.t rfl)) fun Ko Kp=>?_;go_simp;(try go_bits);refine Kp _ _ ?_;clear Kp Ko;refine Kn.Z.s .o (.bin (.t rfl) .c) fun Ko Kp=>?_;go_simp;(try go_bits);refine Kp _ _ ?_;clear Kp Ko;refine Kn.Z.e hK20 ?_;clear hK20 K20;refine Kn.Z.t (.c 137 rfl (.c 6 rfl .n)) ?_;refine Kn.Z.y (.t rfl) ?_;refine Kn.Z.f fun K21 hK21=>?_;refine Kn.Z.u (.m (.t rfl) .n) ?_;refine Kn.Z.s .o (.bin (.t rfl) .c) fun Ko Kp=>?_;go_simp;(try go_bits);refine Kp _ _ ?_;clear Kp Ko;refine Kn.Z.u (.a (.t rfl) .n) ?_;refine Kn.Z.e hK21 ?_;clear hK21 K21;intro fb fg;refine wp_ret ?_;refine Kn.then_ret ?_;exact Kn.ret1 fg rfl rfl ⟨by rw [HW5.out, if_neg HNO.out, if_pos p3]; congr 2; omega, HB2.out⟩
    have p1b : (b0 != q) = true := by rw [bne_iff_ne]; exact p1
    refine Kn.Z.q fun K17 hK17=>?_;refine Kn.Z.f fun K18 hK18=>?_;refine Kn.Z.s .o (.fieldAddr (.t rfl)) fun Ko Kp=>?_;go_simp;(try go_bits);refine Kp _ _ ?_;clear Kp Ko;refine Kn.Z.s .o (.load (.t rfl)) fun Ko Kp=>?_;go_simp;(try go_bits);refine Kp _ _ ?_;clear Kp Ko;refine Kn.Z.u (.m (.t rfl) .n) ?_;refine Kn.Z.s .o (.bin (.t rfl) (.t rfl)) fun Ko Kp=>?_;go_simp;(try go_bits);refine Kp _ _ ?_;clear Kp Ko;refine Kn.Z.u (.m (.t rfl) (.k (.s rfl rfl rfl) (.k (.s rfl rfl rfl) (.e .o (.pick (.t rfl) .c) .n)))) ?_;refine Kn.Z.e hK18 ?_;clear hK18 K18;refine Kn.Z.y (.t rfl) ?_;refine Kn.Z.f fun K19 hK19=>?_;refine Kn.Z.u (.m (.t rfl) (.a (.t rfl) .n)) ?_;refine Kn.Z.e hK19 ?_;clear hK19 K19;refine Kn.Z.t (.c 2 rfl (.c 6 rfl (.c 1 rfl .n))) ?_;intro fa fh;refine wp_ret ?_;refine Kn.then_ret ?_;exact Kn.ret1 fh rfl rfl ⟨by rw [HW5.out, if_pos (.inl (by rw [HQ.out, HBB.out]; exact p1))], HB2.out⟩
  by_cases q3 : n0 = 0
  · have q4n : 0 < L := by omega
    have q4 : (0 : Int) < (L : Int) := by omega
    have q5 : ((L : Int) == 0) = false := by rw [beq_eq_false_iff_ne]; omega
    have q6 : (n0 == 0) = true := by rw [q3]; rfl
    have q7 := Lib.hid q3;clear q3;refine Kn.Z.q fun K8 hK8=>?_;refine Kn.Z.f fun K9 hK9=>?_;refine Kn.Z.s .o (.fieldAddr (.t rfl)) fun Ko Kp=>?_;go_simp;(try go_bits);refine Kp _ _ ?_;clear Kp Ko;refine Kn.Z.s .o (.load (.t rfl)) fun Ko Kp=>?_;go_simp;(try go_bits);refine Kp _ _ ?_;clear Kp Ko;refine Kn.Z.s .o (.len (.t rfl)) fun Ko Kp=>?_;go_simp;(try go_bits);refine Kp _ _ ?_;clear Kp Ko;refine Kn.Z.s .o (.bin (.t rfl) .c) fun Ko Kp=>?_;go_simp;(try go_bits);refine Kp _ _ ?_;clear Kp Ko;refine Kn.Z.u (.m (.t rfl) .n) ?_;refine Kn.Z.s (.s rfl rfl rfl) (.fieldAddr (.t rfl)) fun Ko Kp=>?_;go_simp;(try go_bits);refine Kp _ _ ?_;clear Kp Ko;refine Kn.Z.s (.s rfl rfl rfl) (.load (.t rfl)) fun Ko Kp=>?_;go_simp;(try go_bits);refine Kp _ _ ?_;clear Kp Ko;refine Kn.Z.s (.s rfl rfl rfl) (.len (.t rfl)) fun Ko Kp=>?_;go_simp;(try go_bits);refine Kp _ _ ?_;clear Kp Ko;refine Kn.Z.s (.s rfl rfl rfl) (.bin (.t rfl) .c) fun Ko Kp=>?_;go_simp;(try go_bits);refine Kp _ _ ?_;clear Kp Ko;refine Kn.Z.u (.e (.s rfl rfl rfl) (.move (.t rfl)) (.k (.s rfl rfl rfl) (.k (.s rfl rfl rfl) (.k (.s rfl rfl rfl) (.e (.s rfl rfl rfl) (.pick (.t rfl) .c) (.e .o (.pick (.t rfl) (.t rfl)) (.m (.t rfl) .n))))))) ?_;refine Kn.Z.s (.s rfl rfl rfl) (.fieldAddr (.t rfl)) fun Ko Kp=>?_;go_simp;(try go_bits);refine Kp _ _ ?_;clear Kp Ko;refine Kn.Z.s (.s rfl rfl rfl) (.load (.t rfl)) fun Ko Kp=>?_;go_simp;(try go_bits);refine Kp _ _ ?_;clear Kp Ko;refine Kn.Z.s (.s rfl rfl rfl) (.len (.t rfl)) fun Ko Kp=>?_;go_simp;(try go_bits);refine Kp _ _ ?_;clear Kp Ko;refine Kn.Z.s (.s rfl rfl rfl) (.bin (.t rfl) .c) fun Ko Kp=>?_;go_simp;(try go_bits);refine Kp _ _ ?_;clear Kp Ko;refine Kn.Z.u (.e (.s rfl rfl rfl) (.move (.t rfl)) .n) ?_;refine Kn.Z.s (.s rfl rfl rfl) (.fieldAddr (.t rfl)) fun Ko Kp=>?_;go_simp;(try go_bits);refine Kp _ _ ?_;clear Kp Ko;refine Kn.Z.s (.s rfl rfl rfl) (.load (.t rfl)) fun Ko Kp=>?_;go_simp;(try go_bits);refine Kp _ _ ?_;clear Kp Ko;refine Kn.Z.s (.s rfl rfl rfl) (.bin (.t rfl) .c) fun Ko Kp=>?_;go_simp;(try go_bits);refine Kp _ _ ?_;clear Kp Ko;refine Kn.Z.u (.e (.s rfl rfl rfl) (.pick (.t rfl) (.t rfl)) (.e .o (.pick (.t rfl) (.t rfl)) .n)) ?_;refine Kn.Z.e hK9 ?_;clear hK9 K9;refine Kn.Z.t (.c 57 rfl (.c 2 rfl (.c 1 rfl .n))) ?_;refine Kn.Z.y (.t rfl) ?_;refine Kn.Z.f fun K10 hK10=>?_;refine Kn.Z.u (.a .c .n) ?_;refine Kn.Z.e hK10 ?_;clear hK10 K10;intro fb fg;refine wp_ret ?_;refine Kn.then_ret ?_;exact Kn.ret1 fg rfl rfl ⟨by rw [HW3.out, if_pos (HL.out.2 (.inr (.inr ⟨by have := HLL.out; omega, q7.out⟩)))], HB.out⟩
  have q4n : 0 < L := by omega
  have q4 : (0 : Int) < (L : Int) := by omega
  have q5 : ((L : Int) == 0) = false := by rw [beq_eq_false_iff_ne]; omega
  have q6 : (n0 == 0) = false := by rw [beq_eq_false_iff_ne]; exact q3
  have hc : ¬ badC m := fun h => by have := HL.out.1 h; have := HLL.out; omega
  clear q3;refine Kn.Z.q fun K8 hK8=>?_;refine Kn.Z.f fun K9 hK9=>?_;refine Kn.Z.s .o (.fieldAddr (.t rfl)) fun Ko Kp=>?_;go_simp;(try go_bits);refine Kp _ _ ?_;clear Kp Ko;refine Kn.Z.s .o (.load (.t rfl)) fun Ko Kp=>?_;go_simp;(try go_bits);refine Kp _ _ ?_;clear Kp Ko;refine Kn.Z.s .o (.len (.t rfl)) fun Ko Kp=>?_;go_simp;(try go_bits);refine Kp _ _ ?_;clear Kp Ko;refine Kn.Z.s .o (.bin (.t rfl) .c) fun Ko Kp=>?_;go_simp;(try go_bits);refine Kp _ _ ?_;clear Kp Ko;refine Kn.Z.u (.m (.t rfl) .n) ?_;refine Kn.Z.s (.s rfl rfl rfl) (.fieldAddr (.t rfl)) fun Ko Kp=>?_;go_simp;(try go_bits);refine Kp _ _ ?_;clear Kp Ko;refine Kn.Z.s (.s rfl rfl rfl) (.load (.t rfl)) fun Ko Kp=>?_;go_simp;(try go_bits);refine Kp _ _ ?_;clear Kp Ko;refine Kn.Z.s (.s rfl rfl rfl) (.len (.t rfl)) fun Ko Kp=>?_;go_simp;(try go_bits);refine Kp _ _ ?_;clear Kp Ko;refine Kn.Z.s (.s rfl rfl rfl) (.bin (.t rfl) .c) fun Ko Kp=>?_;go_simp;(try go_bits);refine Kp _ _ ?_;clear Kp Ko;refine Kn.Z.u (.e (.s rfl rfl rfl) (.move (.t rfl)) (.k (.s rfl rfl rfl) (.k (.s rfl rfl rfl) (.k (.s rfl rfl rfl) (.e (.s rfl rfl rfl) (.pick (.t rfl) .c) (.e .o (.pick (.t rfl) (.t rfl)) (.m (.t rfl) .n))))))) ?_;refine Kn.Z.s (.s rfl rfl rfl) (.fieldAddr (.t rfl)) fun Ko Kp=>?_;go_simp;(try go_bits);refine Kp _ _ ?_;clear Kp Ko;refine Kn.Z.s (.s rfl rfl rfl) (.load (.t rfl)) fun Ko Kp=>?_;go_simp;(try go_bits);refine Kp _ _ ?_;clear Kp Ko;refine Kn.Z.s (.s rfl rfl rfl) (.len (.t rfl)) fun Ko Kp=>?_;go_simp;(try go_bits);refine Kp _ _ ?_;clear Kp Ko;refine Kn.Z.s (.s rfl rfl rfl) (.bin (.t rfl) .c) fun Ko Kp=>?_;go_simp;(try go_bits);refine Kp _ _ ?_;clear Kp Ko;refine Kn.Z.u (.e (.s rfl rfl rfl) (.move (.t rfl)) .n) ?_;refine Kn.Z.s (.s rfl rfl rfl) (.fieldAddr (.t rfl)) fun Ko Kp=>?_;go_simp;(try go_bits);refine Kp _ _ ?_;clear Kp Ko;refine Kn.Z.s (.s rfl rfl rfl) (.load (.t rfl)) fun Ko Kp=>?_;go_simp;(try go_bits);refine Kp _ _ ?_;clear Kp Ko;refine Kn.Z.s (.s rfl rfl rfl) (.bin (.t rfl) .c) fun Ko Kp=>?_;go_simp;(try go_bits);refine Kp _ _ ?_;clear Kp Ko;refine Kn.Z.u (.e (.s rfl rfl rfl) (.pick (.t rfl) (.t rfl)) (.e .o (.pick (.t rfl) (.t rfl)) .n)) ?_;refine Kn.Z.e hK9 ?_;clear hK9 K9;refine Kn.Z.t (.c 57 rfl (.c 2 rfl (.c 1 rfl .n))) ?_;refine Kn.Z.no (.t rfl) ?_;refine Kn.Z.j hK8 ?_;clear hK8 K8;clear q1 q2 q4 q4n q5 q6;have HW4 := Lib.hid (HW3.out.trans (if_neg hc));clear HW3 hc HL;obtain ⟨sh0, hsh⟩ : ∃ s, m.sh = s := ⟨_, rfl⟩;have HR0 : Hid (RIn ipR u A sh0) := Lib.hid (by rw [← hsh]; exact HM.out.row);have HL0 : Hid (sh0.length = L) := Lib.hid (by rw [← hsh]; exact HLL.out);have HSH := Lib.hid hsh;clear hsh;replace HW4 : Hid (wrM m = (if wrS sh0 n0 L 0 ≠ -1 then wrS sh0 n0 L 0 else if m.b ≠ blkI m ∨ 2048 < blkI m then 4 + 2 * (m.sh.length : Int) else if m.r.size ≠ 32 then 5 + 2 * (m.sh.length : Int) else -1)) := Lib.hid (by rw [HW4.out, HLL.out, HN.out, HSH.out]);refine Kn.Z.q fun K10 hK10=>?_;refine Kn.Z.f fun K11 hK11=>?_;refine Kn.Z.u (.a .c .n) ?_;refine Kn.Z.e hK11 ?_;clear hK11 K11;refine Kn.Z.b ?_;intro fb fg;refine Kn.loop (fun m fr v => ∃ (j : Nat), Kn.Kn 140 [(1, .pointer (some ⟨g, 0, none⟩)), (3, .int .i64 (j : Int))] fr ∧ Hid (j + m = L ∧ wrS sh0 n0 L 0 = wrS sh0 n0 (L - j) j) ∧ v = u) L ⟨0, fg.cut (.c 1 rfl (.u 3 rfl (by go_num) .n)), Lib.hid ⟨by omega, rfl⟩, rfl⟩ ?_;clear fg fb;intro m12 fa v hI Kl12 hKl12;obtain ⟨j, fh, hj, rfl⟩ := hI;have hjle : j ≤ L := by have := hj.out.1; omega
  by_cases hlt : j < L
  · have hlti : (j : Int) < (L : Int) := by omega
    obtain ⟨ba, oa, hA, -, cf, cb⟩ := ipc HR0.out (show j < sh0.length by have := HL0.out; omega);subst hA;obtain ⟨f, hf⟩ : ∃ x, fst sh0 j = x := ⟨_, rfl⟩;obtain ⟨y, hy⟩ : ∃ x, byt sh0 j = x := ⟨_, rfl⟩;rw [hf] at cf;rw [hy] at cb;have HF := Lib.hid hf;have HY := Lib.hid hy;clear hf hy
    revert fa
    refine Kn.Z.q fun K13 hK13=>?_;refine Kn.Z.f fun K14 hK14=>?_;refine Kn.Z.u (.m (.t rfl) .n) ?_;refine Kn.Z.s .o (.fieldAddr (.t rfl)) fun Ko Kp=>?_;go_simp;(try go_bits);refine Kp _ _ ?_;clear Kp Ko;refine Kn.Z.s .o (.load (.t rfl)) fun Ko Kp=>?_;go_simp;(try go_bits);refine Kp _ _ ?_;clear Kp Ko;refine Kn.Z.s .o (.len (.t rfl)) fun Ko Kp=>?_;go_simp;(try go_bits);refine Kp _ _ ?_;clear Kp Ko;refine Kn.Z.s .o (.bin (.t rfl) (.t rfl)) fun Ko Kp=>?_;go_simp;(try go_bits);refine Kp _ _ ?_;clear Kp Ko;refine Kn.Z.e hK14 ?_;clear hK14 K14;refine Kn.Z.t (.c 62 rfl (.c 1 rfl (.c 3 rfl .n))) ?_;refine Kn.Z.y (.t rfl) ?_;refine Kn.Z.j hK13 ?_;clear hK13 K13;refine Kn.Z.q fun K15 hK15=>?_;refine Kn.Z.b ?_;refine Kn.Z.f fun K16 hK16=>?_;refine Kn.Z.s .o (.fieldAddr (.t rfl)) fun Ko Kp=>?_;go_simp;(try go_bits);refine Kp _ _ ?_;clear Kp Ko;refine Kn.Z.s .o (.load (.t rfl)) fun Ko Kp=>?_;go_simp;(try go_bits);refine Kp _ _ ?_;clear Kp Ko;refine Kn.Z.u (.m (.t rfl) .n) ?_;refine Kn.Z.s .o (.indexAddr (.t rfl) (.t rfl)) fun Ko Kp=>?_;go_simp;(try go_bits);refine Kp _ _ ?_;clear Kp Ko;refine Kn.Z.s .o (.fieldAddr (.t rfl)) fun Ko Kp=>?_;go_simp;(try go_bits);refine Kp _ _ ?_;clear Kp Ko;refine Kn.Z.s .o (.load (.t rfl)) fun Ko Kp=>?_;go_simp;(try go_bits);refine Kp _ _ ?_;clear Kp Ko;refine Kn.Z.u (.a (.t rfl) .n) ?_;refine Kn.Z.e hK16 ?_;clear hK16 K16
    by_cases z : j = 0
    · have e0 : ((j : Int) == 0) = true := by rw [z]; rfl
      have e1 : ¬ (0 : Int) < (j : Int) := by omega
      have e1n : ¬ 0 < j := by omega
      have HZ := Lib.hid z;clear z
      by_cases fz : f = 0
      · have e2 : (f != 0) = false := by rw [fz]; rfl
        have HFZ := Lib.hid fz;clear fz;refine Kn.Z.q fun K17 hK17=>?_;refine Kn.Z.f fun K18 hK18=>?_;refine Kn.Z.u (.m (.t rfl) .n) ?_;refine Kn.Z.s .o (.bin (.t rfl) .c) fun Ko Kp=>?_;go_simp;(try go_bits);refine Kp _ _ ?_;clear Kp Ko;refine Kn.Z.u (.m (.t rfl) (.e (.s rfl rfl rfl) (.move (.t rfl)) .n)) ?_;refine Kn.Z.s (.s rfl rfl rfl) (.bin (.t rfl) .c) fun Ko Kp=>?_;go_simp;(try go_bits);refine Kp _ _ ?_;clear Kp Ko;refine Kn.Z.u (.e .o (.pick (.t rfl) (.t rfl)) (.m (.t rfl) (.e (.s rfl rfl rfl) (.move (.t rfl)) .n))) ?_;refine Kn.Z.s (.s rfl rfl rfl) (.bin (.t rfl) .c) fun Ko Kp=>?_;go_simp;(try go_bits);refine Kp _ _ ?_;clear Kp Ko;refine Kn.Z.u (.e (.s rfl rfl rfl) (.move (.t rfl)) (.k (.s rfl rfl rfl) (.k (.s rfl rfl rfl) (.k (.s rfl rfl rfl) (.k (.s rfl rfl rfl) (.k (.s rfl rfl rfl) (.k (.s rfl rfl rfl) (.k (.s rfl rfl rfl) (.k (.s rfl rfl rfl) (.k (.s rfl rfl rfl) (.k (.s rfl rfl rfl) (.k (.gone rfl rfl) (.k (.gone rfl rfl) (.k (.gone rfl rfl) (.k (.gone rfl rfl) (.k (.s rfl rfl rfl) (.e (.s rfl rfl rfl) (.pick (.t rfl) .c) (.e .o (.pick (.t rfl) (.t rfl)) .n)))))))))))))))))) ?_;refine Kn.Z.e hK18 ?_;clear hK18 K18;refine Kn.Z.t (.c 97 rfl (.c 1 rfl (.c 3 rfl .n))) ?_;refine Kn.Z.no (.t rfl) ?_;refine Kn.Z.j hK17 ?_;clear hK17 K17;have hnb : ¬ badF sh0 n0 j := by unfold badF; rw [HF.out]; have := HFZ.out; have := HZ.out; omega
        have HNB := Lib.hid hnb;clear hnb;refine Kn.Z.f fun K19 hK19=>?_;refine Kn.Z.s .o (.fieldAddr (.t rfl)) fun Ko Kp=>?_;go_simp;(try go_bits);refine Kp _ _ ?_;clear Kp Ko;refine Kn.Z.s .o (.load (.t rfl)) fun Ko Kp=>?_;go_simp;(try go_bits);refine Kp _ _ ?_;clear Kp Ko;refine Kn.Z.u (.m (.t rfl) .n) ?_;refine Kn.Z.s .o (.indexAddr (.t rfl) (.t rfl)) fun Ko Kp=>?_;go_simp;(try go_bits);refine Kp _ _ ?_;clear Kp Ko;refine Kn.Z.s .o (.fieldAddr (.t rfl)) fun Ko Kp=>?_;go_simp;(try go_bits);refine Kp _ _ ?_;clear Kp Ko;refine Kn.Z.s .o (.load (.t rfl)) fun Ko Kp=>?_;go_simp;(try go_bits);refine Kp _ _ ?_;clear Kp Ko;refine Kn.Z.u (.a (.t rfl) .n) ?_;refine Kn.Z.e hK19 ?_;clear hK19 K19
        by_cases p1 : y < 3
        · refine Kn.Z.f fun K20 hK20=>?_;refine Kn.Z.u (.m (.t rfl) .n) ?_;refine Kn.Z.s .o (.bin (.t rfl) .c) fun Ko Kp=>?_;go_simp;(try go_bits);refine Kp _ _ ?_;clear Kp Ko;refine Kn.Z.u (.m (.t rfl) (.k (.s rfl rfl rfl) (.k (.s rfl rfl rfl) (.e .o (.pick (.t rfl) .c) .n)))) ?_;refine Kn.Z.e hK20 ?_;clear hK20 K20;refine Kn.Z.t (.c 112 rfl (.c 1 rfl (.c 3 rfl .n))) ?_;refine Kn.Z.y (.t rfl) ?_;refine Kn.Z.f fun K21 hK21=>?_;refine Kn.Z.u (.m (.t rfl) .n) ?_;refine Kn.Z.s .o (.bin .c (.t rfl)) fun Ko Kp=>?_;go_simp;(try go_bits);refine Kp _ _ ?_;clear Kp Ko;refine Kn.Z.s .o (.bin .c (.t rfl)) fun Ko Kp=>?_;go_simp;(try go_bits);refine Kp _ _ ?_;clear Kp Ko;refine Kn.Z.u (.a (.t rfl) .n) ?_;refine Kn.Z.e hK21 ?_;clear hK21 K21;intro fa fh;refine wp_ret ?_;refine Kn.block_ret ?_;refine Kn.then_ret ?_;refine Kn.then_ret ?_;refine Kn.block_ret ?_;refine Kn.then_ret ?_;have e9 := hj.out.2.trans (wrS_b hlt HNB.out (show badB sh0 j from by unfold badB; rw [HY.out]; exact .inl p1));exact Kn.ret1 fh rfl rfl ⟨by rw [HW4.out, if_pos (by rw [e9]; omega), e9], HB.out⟩
        by_cases p2 : 1048576 < y
        · refine Kn.Z.f fun K20 hK20=>?_;refine Kn.Z.u (.m (.t rfl) .n) ?_;refine Kn.Z.s .o (.bin (.t rfl) .c) fun Ko Kp=>?_;go_simp;(try go_bits);refine Kp _ _ ?_;clear Kp Ko;refine Kn.Z.u (.m (.t rfl) (.e (.s rfl rfl rfl) (.move (.t rfl)) .n)) ?_;refine Kn.Z.s (.s rfl rfl rfl) (.bin (.t rfl) .c) fun Ko Kp=>?_;go_simp;(try go_bits);refine Kp _ _ ?_;clear Kp Ko;refine Kn.Z.u (.e .o (.pick (.t rfl) (.t rfl)) .n) ?_;refine Kn.Z.e hK20 ?_;clear hK20 K20;refine Kn.Z.t (.c 112 rfl (.c 1 rfl (.c 3 rfl .n))) ?_;refine Kn.Z.y (.t rfl) ?_;refine Kn.Z.f fun K21 hK21=>?_;refine Kn.Z.u (.m (.t rfl) .n) ?_;refine Kn.Z.s .o (.bin .c (.t rfl)) fun Ko Kp=>?_;go_simp;(try go_bits);refine Kp _ _ ?_;clear Kp Ko;refine Kn.Z.s .o (.bin .c (.t rfl)) fun Ko Kp=>?_;go_simp;(try go_bits);refine Kp _ _ ?_;clear Kp Ko;refine Kn.Z.u (.a (.t rfl) .n) ?_;refine Kn.Z.e hK21 ?_;clear hK21 K21;intro fa fh;refine wp_ret ?_;refine Kn.block_ret ?_;refine Kn.then_ret ?_;refine Kn.then_ret ?_;refine Kn.block_ret ?_;refine Kn.then_ret ?_;have e9 := hj.out.2.trans (wrS_b hlt HNB.out (show badB sh0 j from by unfold badB; rw [HY.out]; exact .inr p2));exact Kn.ret1 fh rfl rfl ⟨by rw [HW4.out, if_pos (by rw [e9]; omega), e9], HB.out⟩
        refine Kn.Z.f fun K20 hK20=>?_;refine Kn.Z.u (.m (.t rfl) .n) ?_;refine Kn.Z.s .o (.bin (.t rfl) .c) fun Ko Kp=>?_;go_simp;(try go_bits);refine Kp _ _ ?_;clear Kp Ko;refine Kn.Z.u (.m (.t rfl) (.e (.s rfl rfl rfl) (.move (.t rfl)) .n)) ?_;refine Kn.Z.s (.s rfl rfl rfl) (.bin (.t rfl) .c) fun Ko Kp=>?_;go_simp;(try go_bits);refine Kp _ _ ?_;clear Kp Ko;refine Kn.Z.u (.e .o (.pick (.t rfl) (.t rfl)) .n) ?_;refine Kn.Z.e hK20 ?_;clear hK20 K20;refine Kn.Z.t (.c 112 rfl (.c 1 rfl (.c 3 rfl .n))) ?_;refine Kn.Z.no (.t rfl) ?_;intro fa fh;refine wp_skip ?_;refine Kn.block_normal ?_;refine hK15 _ _ ?_;clear hK15 K15;have hnx := hj.out.2.trans (wrS_n hlt HNB.out (by unfold badB; rw [HY.out]; exact fun h => h.elim p1 p2));have hj' := hj.out.1
        revert fa
        refine Kn.Z.r ?_;refine Kn.Z.u (.m (.t rfl) .n) ?_;refine Kn.Z.s .o (.bin (.t rfl) .c) fun Ko Kp=>?_;go_simp;(try go_bits);refine Kp _ _ ?_;clear Kp Ko;refine Kn.Z.u (.a (.t rfl) .n) ?_;intro fb fg;refine wpList_nil ?_;replace fg := fg.cut (.c 3 rfl (.c 1 rfl .n));exact hKl12 (m12 - 1) _ _ (by omega) ⟨j + 1, fg.cut (.c 1 rfl (.u 3 rfl (by go_num) .n)), Lib.hid ⟨by omega, hnx⟩, rfl⟩
      have e2 : (f != 0) = true := by rw [bne_iff_ne]; exact fz
      refine Kn.Z.q fun K17 hK17=>?_;refine Kn.Z.f fun K18 hK18=>?_;refine Kn.Z.u (.m (.t rfl) .n) ?_;refine Kn.Z.s .o (.bin (.t rfl) .c) fun Ko Kp=>?_;go_simp;(try go_bits);refine Kp _ _ ?_;clear Kp Ko;refine Kn.Z.u (.m (.t rfl) (.e (.s rfl rfl rfl) (.move (.t rfl)) .n)) ?_;refine Kn.Z.s (.s rfl rfl rfl) (.bin (.t rfl) .c) fun Ko Kp=>?_;go_simp;(try go_bits);refine Kp _ _ ?_;clear Kp Ko;refine Kn.Z.u (.e .o (.pick (.t rfl) (.t rfl)) (.m (.t rfl) (.k (.s rfl rfl rfl) (.k (.s rfl rfl rfl) (.k (.s rfl rfl rfl) (.k (.gone rfl rfl) (.k (.gone rfl rfl) (.k (.gone rfl rfl) (.k (.gone rfl rfl) (.k (.gone rfl rfl) (.k (.gone rfl rfl) (.k (.gone rfl rfl) (.k (.gone rfl rfl) (.k (.gone rfl rfl) (.k (.gone rfl rfl) (.k (.gone rfl rfl) (.k (.gone rfl rfl) (.k (.gone rfl rfl) (.k (.gone rfl rfl) (.k (.gone rfl rfl) (.k (.s rfl rfl rfl) (.e .o (.pick (.t rfl) .c) .n)))))))))))))))))))))) ?_;refine Kn.Z.e hK18 ?_;clear hK18 K18;refine Kn.Z.t (.c 97 rfl (.c 1 rfl (.c 3 rfl .n))) ?_;refine Kn.Z.y (.t rfl) ?_;refine Kn.Z.f fun K19 hK19=>?_;refine Kn.Z.u (.m (.t rfl) .n) ?_;refine Kn.Z.s .o (.bin .c (.t rfl)) fun Ko Kp=>?_;go_simp;(try go_bits);refine Kp _ _ ?_;clear Kp Ko;refine Kn.Z.s .o (.bin .c (.t rfl)) fun Ko Kp=>?_;go_simp;(try go_bits);refine Kp _ _ ?_;clear Kp Ko;refine Kn.Z.u (.a (.t rfl) .n) ?_;refine Kn.Z.e hK19 ?_;clear hK19 K19;intro fb fg;refine wp_ret ?_;refine Kn.then_ret ?_;refine Kn.block_ret ?_;refine Kn.then_ret ?_;refine Kn.then_ret ?_;refine Kn.block_ret ?_;refine Kn.then_ret ?_;have hbad : badF sh0 n0 j := by unfold badF; rw [HF.out]; exact .inl ⟨HZ.out, fz⟩
      have e9 := hj.out.2.trans (wrS_f hlt hbad);exact Kn.ret1 fg rfl rfl ⟨by rw [HW4.out, if_pos (by rw [e9]; omega), e9], HB.out⟩
    have e0 : ((j : Int) == 0) = false := by rw [beq_eq_false_iff_ne]; omega
    have e1 : (0 : Int) < (j : Int) := by omega
    have e1n : 0 < j := by omega
    obtain ⟨k, hk⟩ : ∃ k, j - 1 = k := ⟨_, rfl⟩;have rk : (j : Int) - 1 = (k : Int) := by omega
    have hkL : k < L := by omega
    obtain ⟨ba2, oa2, hA2, -, cf2, -⟩ := ipc HR0.out (show k < sh0.length by have := HL0.out; omega);cases hA2;obtain ⟨f2, hf2⟩ : ∃ x, fst sh0 k = x := ⟨_, rfl⟩;rw [hf2] at cf2;have HF2 : Hid (fst sh0 (j - 1) = f2) := Lib.hid (by rw [hk]; exact hf2);have HK := Lib.hid hk;clear hf2 hk
    by_cases g1 : f ≤ f2
    · refine Kn.Z.q fun K17 hK17=>?_;refine Kn.Z.f fun K18 hK18=>?_;refine Kn.Z.u (.m (.t rfl) .n) ?_;refine Kn.Z.s .o (.bin (.t rfl) .c) fun Ko Kp=>?_;go_simp;(try go_bits);refine Kp _ _ ?_;clear Kp Ko;refine Kn.Z.u (.m (.t rfl) (.k (.s rfl rfl rfl) (.k (.s rfl rfl rfl) (.e .o (.pick (.t rfl) .c) (.m (.t rfl) (.e (.s rfl rfl rfl) (.move (.t rfl)) .n)))))) ?_;refine Kn.Z.s (.s rfl rfl rfl) (.bin (.t rfl) .c) fun Ko Kp=>?_;go_simp;(try go_bits);refine Kp _ _ ?_;clear Kp Ko;refine Kn.Z.u (.e (.s rfl rfl rfl) (.move (.t rfl)) (.e (.s rfl rfl rfl) (.move (.t rfl)) .n)) ?_;refine Kn.Z.s (.s rfl rfl rfl) (.fieldAddr (.t rfl)) fun Ko Kp=>?_;go_simp;(try go_bits);refine Kp _ _ ?_;clear Kp Ko;refine Kn.Z.s (.s rfl rfl rfl) (.load (.t rfl)) fun Ko Kp=>?_;go_simp;(try go_bits);refine Kp _ _ ?_;clear Kp Ko;refine Kn.Z.u (.e (.s rfl rfl rfl) (.move (.t rfl)) .n) ?_;refine Kn.Z.s (.s rfl rfl rfl) (.bin (.t rfl) .c) fun Ko Kp=>?_;go_simp;(try go_bits);try rw [rk]
      refine Kp _ _ ?_;clear Kp Ko;refine Kn.Z.s (.s rfl rfl rfl) (.indexAddr (.t rfl) (.t rfl)) fun Ko Kp=>?_;go_simp;(try go_bits);refine Kp _ _ ?_;clear Kp Ko;refine Kn.Z.s (.s rfl rfl rfl) (.fieldAddr (.t rfl)) fun Ko Kp=>?_;go_simp;(try go_bits);refine Kp _ _ ?_;clear Kp Ko;refine Kn.Z.s (.s rfl rfl rfl) (.load (.t rfl)) fun Ko Kp=>?_;go_simp;(try go_bits);refine Kp _ _ ?_;clear Kp Ko;refine Kn.Z.s (.s rfl rfl rfl) (.bin (.t rfl) (.t rfl)) fun Ko Kp=>?_;go_simp;(try go_bits);refine Kp _ _ ?_;clear Kp Ko;refine Kn.Z.u (.e (.s rfl rfl rfl) (.move (.t rfl)) (.k (.s rfl rfl rfl) (.k (.s rfl rfl rfl) (.k (.s rfl rfl rfl) (.k (.s rfl rfl rfl) (.e (.s rfl rfl rfl) (.pick (.t rfl) .c) (.e (.s rfl rfl rfl) (.pick (.t rfl) (.t rfl)) (.e .o (.pick (.t rfl) (.t rfl)) .n)))))))) ?_;refine Kn.Z.e hK18 ?_;clear hK18 K18;refine Kn.Z.t (.c 97 rfl (.c 1 rfl (.c 3 rfl .n))) ?_;refine Kn.Z.y (.t rfl) ?_;refine Kn.Z.f fun K19 hK19=>?_;refine Kn.Z.u (.m (.t rfl) .n) ?_;refine Kn.Z.s .o (.bin .c (.t rfl)) fun Ko Kp=>?_;go_simp;(try go_bits);refine Kp _ _ ?_;clear Kp Ko;refine Kn.Z.s .o (.bin .c (.t rfl)) fun Ko Kp=>?_;go_simp;(try go_bits);refine Kp _ _ ?_;clear Kp Ko;refine Kn.Z.u (.a (.t rfl) .n) ?_;refine Kn.Z.e hK19 ?_;clear hK19 K19;intro fb fg;refine wp_ret ?_;refine Kn.then_ret ?_;refine Kn.block_ret ?_;refine Kn.then_ret ?_;refine Kn.then_ret ?_;refine Kn.block_ret ?_;refine Kn.then_ret ?_;have hbad : badF sh0 n0 j := by unfold badF; rw [HF.out, HF2.out]; exact .inr ⟨e1n, .inl g1⟩
      have e9 := hj.out.2.trans (wrS_f hlt hbad);exact Kn.ret1 fg rfl rfl ⟨by rw [HW4.out, if_pos (by rw [e9]; omega), e9], HB.out⟩
    by_cases g2 : n0 ≤ f
    · refine Kn.Z.q fun K17 hK17=>?_;refine Kn.Z.f fun K18 hK18=>?_;refine Kn.Z.u (.m (.t rfl) .n) ?_;refine Kn.Z.s .o (.bin (.t rfl) .c) fun Ko Kp=>?_;go_simp;(try go_bits);refine Kp _ _ ?_;clear Kp Ko;refine Kn.Z.u (.m (.t rfl) (.k (.s rfl rfl rfl) (.k (.s rfl rfl rfl) (.e .o (.pick (.t rfl) .c) (.m (.t rfl) (.e (.s rfl rfl rfl) (.move (.t rfl)) .n)))))) ?_;refine Kn.Z.s (.s rfl rfl rfl) (.bin (.t rfl) .c) fun Ko Kp=>?_;go_simp;(try go_bits);refine Kp _ _ ?_;clear Kp Ko;refine Kn.Z.u (.e (.s rfl rfl rfl) (.move (.t rfl)) (.e (.s rfl rfl rfl) (.move (.t rfl)) .n)) ?_;refine Kn.Z.s (.s rfl rfl rfl) (.fieldAddr (.t rfl)) fun Ko Kp=>?_;go_simp;(try go_bits);refine Kp _ _ ?_;clear Kp Ko;refine Kn.Z.s (.s rfl rfl rfl) (.load (.t rfl)) fun Ko Kp=>?_;go_simp;(try go_bits);refine Kp _ _ ?_;clear Kp Ko;refine Kn.Z.u (.e (.s rfl rfl rfl) (.move (.t rfl)) .n) ?_;refine Kn.Z.s (.s rfl rfl rfl) (.bin (.t rfl) .c) fun Ko Kp=>?_;go_simp;(try go_bits);try rw [rk]
      refine Kp _ _ ?_;clear Kp Ko;refine Kn.Z.s (.s rfl rfl rfl) (.indexAddr (.t rfl) (.t rfl)) fun Ko Kp=>?_;go_simp;(try go_bits);refine Kp _ _ ?_;clear Kp Ko;refine Kn.Z.s (.s rfl rfl rfl) (.fieldAddr (.t rfl)) fun Ko Kp=>?_;go_simp;(try go_bits);refine Kp _ _ ?_;clear Kp Ko;refine Kn.Z.s (.s rfl rfl rfl) (.load (.t rfl)) fun Ko Kp=>?_;go_simp;(try go_bits);refine Kp _ _ ?_;clear Kp Ko;refine Kn.Z.s (.s rfl rfl rfl) (.bin (.t rfl) (.t rfl)) fun Ko Kp=>?_;go_simp;(try go_bits);refine Kp _ _ ?_;clear Kp Ko;refine Kn.Z.u (.e (.s rfl rfl rfl) (.move (.t rfl)) (.e (.s rfl rfl rfl) (.move (.t rfl)) .n)) ?_;refine Kn.Z.s (.s rfl rfl rfl) (.fieldAddr (.t rfl)) fun Ko Kp=>?_;go_simp;(try go_bits);refine Kp _ _ ?_;clear Kp Ko;refine Kn.Z.s (.s rfl rfl rfl) (.load (.t rfl)) fun Ko Kp=>?_;go_simp;(try go_bits);refine Kp _ _ ?_;clear Kp Ko;refine Kn.Z.s (.s rfl rfl rfl) (.bin (.t rfl) (.t rfl)) fun Ko Kp=>?_;go_simp;(try go_bits);refine Kp _ _ ?_;clear Kp Ko;refine Kn.Z.u (.e (.s rfl rfl rfl) (.pick (.t rfl) (.t rfl)) (.e (.s rfl rfl rfl) (.pick (.t rfl) (.t rfl)) (.e .o (.pick (.t rfl) (.t rfl)) .n))) ?_;refine Kn.Z.e hK18 ?_;clear hK18 K18;refine Kn.Z.t (.c 97 rfl (.c 1 rfl (.c 3 rfl .n))) ?_;refine Kn.Z.y (.t rfl) ?_;refine Kn.Z.f fun K19 hK19=>?_;refine Kn.Z.u (.m (.t rfl) .n) ?_;refine Kn.Z.s .o (.bin .c (.t rfl)) fun Ko Kp=>?_;go_simp;(try go_bits);refine Kp _ _ ?_;clear Kp Ko;refine Kn.Z.s .o (.bin .c (.t rfl)) fun Ko Kp=>?_;go_simp;(try go_bits);refine Kp _ _ ?_;clear Kp Ko;refine Kn.Z.u (.a (.t rfl) .n) ?_;refine Kn.Z.e hK19 ?_;clear hK19 K19;intro fb fg;refine wp_ret ?_;refine Kn.then_ret ?_;refine Kn.block_ret ?_;refine Kn.then_ret ?_;refine Kn.then_ret ?_;refine Kn.block_ret ?_;refine Kn.then_ret ?_;have hbad : badF sh0 n0 j := by unfold badF; rw [HF.out, HF2.out]; exact .inr ⟨e1n, .inr g2⟩
      have e9 := hj.out.2.trans (wrS_f hlt hbad);exact Kn.ret1 fg rfl rfl ⟨by rw [HW4.out, if_pos (by rw [e9]; omega), e9], HB.out⟩
    refine Kn.Z.q fun K17 hK17=>?_;refine Kn.Z.f fun K18 hK18=>?_;refine Kn.Z.u (.m (.t rfl) .n) ?_;refine Kn.Z.s .o (.bin (.t rfl) .c) fun Ko Kp=>?_;go_simp;(try go_bits);refine Kp _ _ ?_;clear Kp Ko;refine Kn.Z.u (.m (.t rfl) (.k (.s rfl rfl rfl) (.k (.s rfl rfl rfl) (.e .o (.pick (.t rfl) .c) (.m (.t rfl) (.e (.s rfl rfl rfl) (.move (.t rfl)) .n)))))) ?_;refine Kn.Z.s (.s rfl rfl rfl) (.bin (.t rfl) .c) fun Ko Kp=>?_;go_simp;(try go_bits);refine Kp _ _ ?_;clear Kp Ko;refine Kn.Z.u (.e (.s rfl rfl rfl) (.move (.t rfl)) (.e (.s rfl rfl rfl) (.move (.t rfl)) .n)) ?_;refine Kn.Z.s (.s rfl rfl rfl) (.fieldAddr (.t rfl)) fun Ko Kp=>?_;go_simp;(try go_bits);refine Kp _ _ ?_;clear Kp Ko;refine Kn.Z.s (.s rfl rfl rfl) (.load (.t rfl)) fun Ko Kp=>?_;go_simp;(try go_bits);refine Kp _ _ ?_;clear Kp Ko;refine Kn.Z.u (.e (.s rfl rfl rfl) (.move (.t rfl)) .n) ?_;refine Kn.Z.s (.s rfl rfl rfl) (.bin (.t rfl) .c) fun Ko Kp=>?_;go_simp;(try go_bits);try rw [rk]
    refine Kp _ _ ?_;clear Kp Ko;refine Kn.Z.s (.s rfl rfl rfl) (.indexAddr (.t rfl) (.t rfl)) fun Ko Kp=>?_;go_simp;(try go_bits);refine Kp _ _ ?_;clear Kp Ko;refine Kn.Z.s (.s rfl rfl rfl) (.fieldAddr (.t rfl)) fun Ko Kp=>?_;go_simp;(try go_bits);refine Kp _ _ ?_;clear Kp Ko;refine Kn.Z.s (.s rfl rfl rfl) (.load (.t rfl)) fun Ko Kp=>?_;go_simp;(try go_bits);refine Kp _ _ ?_;clear Kp Ko;refine Kn.Z.s (.s rfl rfl rfl) (.bin (.t rfl) (.t rfl)) fun Ko Kp=>?_;go_simp;(try go_bits);refine Kp _ _ ?_;clear Kp Ko;refine Kn.Z.u (.e (.s rfl rfl rfl) (.move (.t rfl)) (.e (.s rfl rfl rfl) (.move (.t rfl)) .n)) ?_;refine Kn.Z.s (.s rfl rfl rfl) (.fieldAddr (.t rfl)) fun Ko Kp=>?_;go_simp;(try go_bits);refine Kp _ _ ?_;clear Kp Ko;refine Kn.Z.s (.s rfl rfl rfl) (.load (.t rfl)) fun Ko Kp=>?_;go_simp;(try go_bits);refine Kp _ _ ?_;clear Kp Ko;refine Kn.Z.s (.s rfl rfl rfl) (.bin (.t rfl) (.t rfl)) fun Ko Kp=>?_;go_simp;(try go_bits);refine Kp _ _ ?_;clear Kp Ko;refine Kn.Z.u (.e (.s rfl rfl rfl) (.pick (.t rfl) (.t rfl)) (.e (.s rfl rfl rfl) (.pick (.t rfl) (.t rfl)) (.e .o (.pick (.t rfl) (.t rfl)) .n))) ?_;refine Kn.Z.e hK18 ?_;clear hK18 K18;refine Kn.Z.t (.c 97 rfl (.c 1 rfl (.c 3 rfl .n))) ?_;refine Kn.Z.no (.t rfl) ?_;refine Kn.Z.j hK17 ?_;clear hK17 K17;have hnb : ¬ badF sh0 n0 j := by unfold badF; rw [HF.out, HF2.out]; omega
    have HNB := Lib.hid hnb;clear hnb;refine Kn.Z.f fun K19 hK19=>?_;refine Kn.Z.s .o (.fieldAddr (.t rfl)) fun Ko Kp=>?_;go_simp;(try go_bits);refine Kp _ _ ?_;clear Kp Ko;refine Kn.Z.s .o (.load (.t rfl)) fun Ko Kp=>?_;go_simp;(try go_bits);refine Kp _ _ ?_;clear Kp Ko;refine Kn.Z.u (.m (.t rfl) .n) ?_;refine Kn.Z.s .o (.indexAddr (.t rfl) (.t rfl)) fun Ko Kp=>?_;go_simp;(try go_bits);refine Kp _ _ ?_;clear Kp Ko;refine Kn.Z.s .o (.fieldAddr (.t rfl)) fun Ko Kp=>?_;go_simp;(try go_bits);refine Kp _ _ ?_;clear Kp Ko;refine Kn.Z.s .o (.load (.t rfl)) fun Ko Kp=>?_;go_simp;(try go_bits);refine Kp _ _ ?_;clear Kp Ko;refine Kn.Z.u (.a (.t rfl) .n) ?_;refine Kn.Z.e hK19 ?_;clear hK19 K19
    by_cases p1 : y < 3
    · refine Kn.Z.f fun K20 hK20=>?_;refine Kn.Z.u (.m (.t rfl) .n) ?_;refine Kn.Z.s .o (.bin (.t rfl) .c) fun Ko Kp=>?_;go_simp;(try go_bits);refine Kp _ _ ?_;clear Kp Ko;refine Kn.Z.u (.m (.t rfl) (.k (.s rfl rfl rfl) (.k (.s rfl rfl rfl) (.e .o (.pick (.t rfl) .c) .n)))) ?_;refine Kn.Z.e hK20 ?_;clear hK20 K20;refine Kn.Z.t (.c 112 rfl (.c 1 rfl (.c 3 rfl .n))) ?_;refine Kn.Z.y (.t rfl) ?_;refine Kn.Z.f fun K21 hK21=>?_;refine Kn.Z.u (.m (.t rfl) .n) ?_;refine Kn.Z.s .o (.bin .c (.t rfl)) fun Ko Kp=>?_;go_simp;(try go_bits);refine Kp _ _ ?_;clear Kp Ko;refine Kn.Z.s .o (.bin .c (.t rfl)) fun Ko Kp=>?_;go_simp;(try go_bits);refine Kp _ _ ?_;clear Kp Ko;refine Kn.Z.u (.a (.t rfl) .n) ?_;refine Kn.Z.e hK21 ?_;clear hK21 K21;intro fa fh;refine wp_ret ?_;refine Kn.block_ret ?_;refine Kn.then_ret ?_;refine Kn.then_ret ?_;refine Kn.block_ret ?_;refine Kn.then_ret ?_;have e9 := hj.out.2.trans (wrS_b hlt HNB.out (show badB sh0 j from by unfold badB; rw [HY.out]; exact .inl p1));exact Kn.ret1 fh rfl rfl ⟨by rw [HW4.out, if_pos (by rw [e9]; omega), e9], HB.out⟩
    by_cases p2 : 1048576 < y
    · refine Kn.Z.f fun K20 hK20=>?_;refine Kn.Z.u (.m (.t rfl) .n) ?_;refine Kn.Z.s .o (.bin (.t rfl) .c) fun Ko Kp=>?_;go_simp;(try go_bits);refine Kp _ _ ?_;clear Kp Ko;refine Kn.Z.u (.m (.t rfl) (.e (.s rfl rfl rfl) (.move (.t rfl)) .n)) ?_;refine Kn.Z.s (.s rfl rfl rfl) (.bin (.t rfl) .c) fun Ko Kp=>?_;go_simp;(try go_bits);refine Kp _ _ ?_;clear Kp Ko;refine Kn.Z.u (.e .o (.pick (.t rfl) (.t rfl)) .n) ?_;refine Kn.Z.e hK20 ?_;clear hK20 K20;refine Kn.Z.t (.c 112 rfl (.c 1 rfl (.c 3 rfl .n))) ?_;refine Kn.Z.y (.t rfl) ?_;refine Kn.Z.f fun K21 hK21=>?_;refine Kn.Z.u (.m (.t rfl) .n) ?_;refine Kn.Z.s .o (.bin .c (.t rfl)) fun Ko Kp=>?_;go_simp;(try go_bits);refine Kp _ _ ?_;clear Kp Ko;refine Kn.Z.s .o (.bin .c (.t rfl)) fun Ko Kp=>?_;go_simp;(try go_bits);refine Kp _ _ ?_;clear Kp Ko;refine Kn.Z.u (.a (.t rfl) .n) ?_;refine Kn.Z.e hK21 ?_;clear hK21 K21;intro fa fh;refine wp_ret ?_;refine Kn.block_ret ?_;refine Kn.then_ret ?_;refine Kn.then_ret ?_;refine Kn.block_ret ?_;refine Kn.then_ret ?_;have e9 := hj.out.2.trans (wrS_b hlt HNB.out (show badB sh0 j from by unfold badB; rw [HY.out]; exact .inr p2));exact Kn.ret1 fh rfl rfl ⟨by rw [HW4.out, if_pos (by rw [e9]; omega), e9], HB.out⟩
    refine Kn.Z.f fun K20 hK20=>?_;refine Kn.Z.u (.m (.t rfl) .n) ?_;refine Kn.Z.s .o (.bin (.t rfl) .c) fun Ko Kp=>?_;go_simp;(try go_bits);refine Kp _ _ ?_;clear Kp Ko;refine Kn.Z.u (.m (.t rfl) (.e (.s rfl rfl rfl) (.move (.t rfl)) .n)) ?_;refine Kn.Z.s (.s rfl rfl rfl) (.bin (.t rfl) .c) fun Ko Kp=>?_;go_simp;(try go_bits);refine Kp _ _ ?_;clear Kp Ko;refine Kn.Z.u (.e .o (.pick (.t rfl) (.t rfl)) .n) ?_;refine Kn.Z.e hK20 ?_;clear hK20 K20;refine Kn.Z.t (.c 112 rfl (.c 1 rfl (.c 3 rfl .n))) ?_;refine Kn.Z.no (.t rfl) ?_;intro fa fh;refine wp_skip ?_;refine Kn.block_normal ?_;refine hK15 _ _ ?_;clear hK15 K15;have hnx := hj.out.2.trans (wrS_n hlt HNB.out (by unfold badB; rw [HY.out]; exact fun h => h.elim p1 p2));have hj' := hj.out.1
    revert fa
    refine Kn.Z.r ?_;refine Kn.Z.u (.m (.t rfl) .n) ?_;refine Kn.Z.s .o (.bin (.t rfl) .c) fun Ko Kp=>?_;go_simp;(try go_bits);refine Kp _ _ ?_;clear Kp Ko;refine Kn.Z.u (.a (.t rfl) .n) ?_;intro fb fg;refine wpList_nil ?_;replace fg := fg.cut (.c 3 rfl (.c 1 rfl .n));exact hKl12 (m12 - 1) _ _ (by omega) ⟨j + 1, fg.cut (.c 1 rfl (.u 3 rfl (by go_num) .n)), Lib.hid ⟨by omega, hnx⟩, rfl⟩
  have hlti : ¬ (j : Int) < (L : Int) := by omega
  obtain rfl : j = L := by omega
  revert fa
  refine Kn.Z.q fun K13 hK13=>?_;refine Kn.Z.f fun K14 hK14=>?_;refine Kn.Z.u (.m (.t rfl) .n) ?_;refine Kn.Z.s .o (.fieldAddr (.t rfl)) fun Ko Kp=>?_;go_simp;(try go_bits);refine Kp _ _ ?_;clear Kp Ko;refine Kn.Z.s .o (.load (.t rfl)) fun Ko Kp=>?_;go_simp;(try go_bits);refine Kp _ _ ?_;clear Kp Ko;refine Kn.Z.s .o (.len (.t rfl)) fun Ko Kp=>?_;go_simp;(try go_bits);refine Kp _ _ ?_;clear Kp Ko;refine Kn.Z.s .o (.bin (.t rfl) (.t rfl)) fun Ko Kp=>?_;go_simp;(try go_bits);refine Kp _ _ ?_;clear Kp Ko;refine Kn.Z.e hK14 ?_;clear hK14 K14;refine Kn.Z.t (.c 62 rfl (.c 1 rfl (.c 3 rfl .n))) ?_;refine Kn.Z.no (.t rfl) ?_;intro fb fg;refine wp_exit ?_;refine Kn.then_exit ?_;clear hK13 K13;refine Kn.then_exit ?_;clear hKl12 Kl12;refine Kn.block_exit ?_;refine hK10 _ _ ?_;clear hK10 K10;have hgood := hj.out.2;rw [Nat.sub_self, wrS] at hgood;have HGD := Lib.hid hgood;have hall := (wrS_good sh0 n0 j 0).1 hgood
  have hby : ∀ i, i < sh0.length → 3 ≤ byt sh0 i ∧ byt sh0 i ≤ 1048576 := fun i hi => by
    have := (hall i (Nat.zero_le _) (by have := HL0.out; omega)).2;unfold badB at this;omega
  have HW5 : Hid (wrM m = (if m.b ≠ blkI m ∨ 2048 < blkI m then 4 + 2 * (j : Int) else if m.r.size ≠ 32 then 5 + 2 * (j : Int) else -1)) := Lib.hid (by rw [HW4.out, if_neg (by rw [HGD.out]; simp), HLL.out]);have htot := total_any m A c _ HM.out (by rw [HSH.out]; exact hby);have htb := totK_bd hby sh0.length (Nat.le_refl _)
  have htb2 : 0 ≤ tot m ∧ tot m ≤ 104857600 := by
    unfold tot;rw [HSH.out];have := HL0.out;omega
  obtain ⟨t, ht⟩ : ∃ t, tot m = t := ⟨_, rfl⟩;rw [ht] at htot htb2;obtain ⟨q, hq⟩ : ∃ q, (t + 63) / 64 = q := ⟨_, rfl⟩;have hqb : 0 ≤ q ∧ q ≤ 1638401 := by omega
  have rq : (t + 63).tdiv 64 = q := by rw [Int.tdiv_eq_ediv_of_nonneg (by omega)]; exact hq
  have HQ : Hid (blkI m = q) := Lib.hid (by unfold blkI; rw [ht]; exact hq);have hld := loadM HS.out Tryz.underlying40 rfl (by kernel_rfl);have HTOT := Lib.hid htot;have HLDM := Lib.hid hld;clear hgood hall hby htb ht hq htot hld hlt hlti
  revert fb
  refine Kn.Z.f fun K15 hK15=>?_;refine Kn.Z.s .o (.fieldAddr (.t rfl)) fun Ko Kp=>?_;go_simp;(try go_bits);refine Kp _ _ ?_;clear Kp Ko;refine Kn.Z.s .o (.load (.t rfl)) fun Ko Kp=>?_;go_simp;(try go_bits);refine Kp _ _ ?_;clear Kp Ko;refine Kn.Z.s .o (.len (.t rfl)) fun Ko Kp=>?_;go_simp;(try go_bits);refine Kp _ _ ?_;clear Kp Ko;refine Kn.Z.s .o (.bin .c (.t rfl)) fun Ko Kp=>?_;go_simp;(try go_bits);refine Kp _ _ ?_;clear Kp Ko;refine Kn.Z.s .o (.bin .c (.t rfl)) fun Ko Kp=>?_;go_simp;(try go_bits);refine Kp _ _ ?_;clear Kp Ko;refine Kn.Z.u (.a (.t rfl) .n) ?_;refine Kn.Z.e hK15 ?_;clear hK15 K15;refine Kn.Z.f fun K16 hK16=>?_;refine Kn.Z.k .o (.load (.t rfl)) HLDM.out ?_;refine Kn.Z.c .o (.call (.c (.t rfl) .n)) Tryz.call46 (HTOT.out) fun e w1 hp=>?_;obtain ⟨rfl, hb1⟩ := hp;refine ⟨_,rfl,?_⟩;refine Kn.Z.s .o (.bin (.t rfl) .c) fun Ko Kp=>?_;go_simp;(try go_bits);refine Kp _ _ ?_;clear Kp Ko;refine Kn.Z.s .o (.bin (.t rfl) .c) fun Ko Kp=>?_;go_simp;(try go_bits);try rw [rq]
  try go_simp
  (try go_bits);refine Kp _ _ ?_;clear Kp Ko;refine Kn.Z.u (.a (.t rfl) .n) ?_;refine Kn.Z.e hK16 ?_;clear hK16 K16;refine Kn.Z.t (.c 7 rfl (.c 6 rfl (.c 1 rfl .n))) ?_;clear rq;have hS1 := HS.out.on hb1;have j4 := hS1.cell 4 rfl;have j5 := hS1.cell 5 rfl;rw [HBB.out] at j4;have HB2 := Lib.hid (HB.out.trans (hb1.mono HB.out.size));clear hS1 hb1
  by_cases p1 : b0 = q
  · have p1b : (b0 != q) = false := by rw [p1]; simp
    have HP1 := Lib.hid p1;clear p1
    by_cases p2 : 2048 < q
    · refine Kn.Z.q fun K17 hK17=>?_;refine Kn.Z.f fun K18 hK18=>?_;refine Kn.Z.s .o (.fieldAddr (.t rfl)) fun Ko Kp=>?_;go_simp;(try go_bits);refine Kp _ _ ?_;clear Kp Ko;refine Kn.Z.s .o (.load (.t rfl)) fun Ko Kp=>?_;go_simp;(try go_bits);refine Kp _ _ ?_;clear Kp Ko;refine Kn.Z.u (.m (.t rfl) .n) ?_;refine Kn.Z.s .o (.bin (.t rfl) (.t rfl)) fun Ko Kp=>?_;go_simp;(try go_bits);refine Kp _ _ ?_;clear Kp Ko;refine Kn.Z.u (.m (.t rfl) (.e (.s rfl rfl rfl) (.move (.t rfl)) .n)) ?_;refine Kn.Z.s (.s rfl rfl rfl) (.bin (.t rfl) .c) fun Ko Kp=>?_;go_simp;(try go_bits);refine Kp _ _ ?_;clear Kp Ko;refine Kn.Z.u (.e .o (.pick (.t rfl) (.t rfl)) .n) ?_;refine Kn.Z.e hK18 ?_;clear hK18 K18;refine Kn.Z.y (.t rfl) ?_;refine Kn.Z.f fun K19 hK19=>?_;refine Kn.Z.u (.m (.t rfl) (.a (.t rfl) .n)) ?_;refine Kn.Z.e hK19 ?_;clear hK19 K19;refine Kn.Z.t (.c 2 rfl (.c 6 rfl (.c 1 rfl .n))) ?_;intro fa fh;refine wp_ret ?_;refine Kn.then_ret ?_;exact Kn.ret1 fh rfl rfl ⟨by rw [HW5.out, if_pos (.inr (by rw [HQ.out]; exact p2))], HB2.out⟩
    refine Kn.Z.q fun K17 hK17=>?_;refine Kn.Z.f fun K18 hK18=>?_;refine Kn.Z.s .o (.fieldAddr (.t rfl)) fun Ko Kp=>?_;go_simp;(try go_bits);refine Kp _ _ ?_;clear Kp Ko;refine Kn.Z.s .o (.load (.t rfl)) fun Ko Kp=>?_;go_simp;(try go_bits);refine Kp _ _ ?_;clear Kp Ko;refine Kn.Z.u (.m (.t rfl) .n) ?_;refine Kn.Z.s .o (.bin (.t rfl) (.t rfl)) fun Ko Kp=>?_;go_simp;(try go_bits);refine Kp _ _ ?_;clear Kp Ko;refine Kn.Z.u (.m (.t rfl) (.e (.s rfl rfl rfl) (.move (.t rfl)) .n)) ?_;refine Kn.Z.s (.s rfl rfl rfl) (.bin (.t rfl) .c) fun Ko Kp=>?_;go_simp;(try go_bits);refine Kp _ _ ?_;clear Kp Ko;refine Kn.Z.u (.e .o (.pick (.t rfl) (.t rfl)) .n) ?_;refine Kn.Z.e hK18 ?_;clear hK18 K18;refine Kn.Z.no (.t rfl) ?_;refine Kn.Z.j hK17 ?_;clear hK17 K17;have hno : ¬ (m.b ≠ blkI m ∨ 2048 < blkI m) := by rw [HQ.out, HBB.out, HP1.out]; omega
    have HNO := Lib.hid hno;clear hno
    by_cases p3 : m.r.size = 32
    · have p3b : ((m.r.size : Int) != 32) = false := by rw [p3]; rfl
      have HP3 := Lib.hid p3;clear p3;refine Kn.Z.q fun K19 hK19=>?_;refine Kn.Z.f fun K20 hK20=>?_;refine Kn.Z.s .o (.fieldAddr (.t rfl)) fun Ko Kp=>?_;go_simp;(try go_bits);refine Kp _ _ ?_;clear Kp Ko;refine Kn.Z.s .o (.load (.t rfl)) fun Ko Kp=>?_;go_simp;(try go_bits);refine Kp _ _ ?_;clear Kp Ko;refine Kn.Z.s .o (.len (.t rfl)) fun Ko Kp=>?_;go_simp;(try go_bits);refine Kp _ _ ?_;clear Kp Ko;refine Kn.Z.s .o (.bin (.t rfl) .c) fun Ko Kp=>?_;go_simp;(try go_bits);refine Kp _ _ ?_;clear Kp Ko;refine Kn.Z.e hK20 ?_;clear hK20 K20;refine Kn.Z.t (.c 137 rfl (.c 6 rfl .n)) ?_;refine Kn.Z.no (.t rfl) ?_;refine Kn.Z.j hK19 ?_;clear hK19 K19;refine Kn.Z.f fun K21 hK21=>?_;refine Kn.Z.u (.a .c .n) ?_;refine Kn.Z.e hK21 ?_;clear hK21 K21;intro fb fg;refine wp_ret ?_;exact Kn.ret1 fg rfl rfl ⟨by rw [HW5.out, if_neg HNO.out, if_neg (by rw [HP3.out]; simp)], HB2.out⟩
    have p3b : ((m.r.size : Int) != 32) = true := by rw [bne_iff_ne]; omega
    refine Kn.Z.q fun K19 hK19=>?_;refine Kn.Z.f fun K20 hK20=>?_;refine Kn.Z.s .o (.fieldAddr (.t rfl)) fun Ko Kp=>?_;go_simp;(try go_bits);refine Kp _ _ ?_;clear Kp Ko;refine Kn.Z.s .o (.load (.t rfl)) fun Ko Kp=>?_;go_simp;(try go_bits);refine Kp _ _ ?_;clear Kp Ko;refine Kn.Z.s .o (.len (.t rfl)) fun Ko Kp=>?_;go_simp;(try go_bits);refine Kp _ _ ?_;clear Kp Ko;refine Kn.Z.s .o (.bin (.t rfl) .c) fun Ko Kp=>?_;go_simp;(try go_bits);refine Kp _ _ ?_;clear Kp Ko;refine Kn.Z.e hK20 ?_;clear hK20 K20;refine Kn.Z.t (.c 137 rfl (.c 6 rfl .n)) ?_;refine Kn.Z.y (.t rfl) ?_;refine Kn.Z.f fun K21 hK21=>?_;refine Kn.Z.u (.m (.t rfl) .n) ?_;refine Kn.Z.s .o (.bin (.t rfl) .c) fun Ko Kp=>?_;go_simp;(try go_bits);refine Kp _ _ ?_;clear Kp Ko;refine Kn.Z.u (.a (.t rfl) .n) ?_;refine Kn.Z.e hK21 ?_;clear hK21 K21;intro fb fg;refine wp_ret ?_;refine Kn.then_ret ?_;exact Kn.ret1 fg rfl rfl ⟨by rw [HW5.out, if_neg HNO.out, if_pos p3]; congr 2; omega, HB2.out⟩
  have p1b : (b0 != q) = true := by rw [bne_iff_ne]; exact p1
  refine Kn.Z.q fun K17 hK17=>?_;refine Kn.Z.f fun K18 hK18=>?_;refine Kn.Z.s .o (.fieldAddr (.t rfl)) fun Ko Kp=>?_;go_simp;(try go_bits);refine Kp _ _ ?_;clear Kp Ko;refine Kn.Z.s .o (.load (.t rfl)) fun Ko Kp=>?_;go_simp;(try go_bits);refine Kp _ _ ?_;clear Kp Ko;refine Kn.Z.u (.m (.t rfl) .n) ?_;refine Kn.Z.s .o (.bin (.t rfl) (.t rfl)) fun Ko Kp=>?_;go_simp;(try go_bits);refine Kp _ _ ?_;clear Kp Ko;refine Kn.Z.u (.m (.t rfl) (.k (.s rfl rfl rfl) (.k (.s rfl rfl rfl) (.e .o (.pick (.t rfl) .c) .n)))) ?_;refine Kn.Z.e hK18 ?_;clear hK18 K18;refine Kn.Z.y (.t rfl) ?_;refine Kn.Z.f fun K19 hK19=>?_;refine Kn.Z.u (.m (.t rfl) (.a (.t rfl) .n)) ?_;refine Kn.Z.e hK19 ?_;clear hK19 K19;refine Kn.Z.t (.c 2 rfl (.c 6 rfl (.c 1 rfl .n))) ?_;intro fa fh;refine wp_ret ?_;refine Kn.then_ret ?_;exact Kn.ret1 fh rfl rfl ⟨by rw [HW5.out, if_pos (.inl (by rw [HQ.out, HBB.out]; exact p1))], HB2.out⟩
theorem tx_eq {a b : ByteArray} (h : a = b) : (a.toList == b.toList) = true := by subst h; simp
end Go.Proofs.YtbemmnggmdadeaaGreatDoor.Man
end
section
namespace Go.Proofs.YtbemmnggmdadeaaGreatDoor.Blk
def cntK (n : Nat) : Nat := (n + 63) / 64
def szK (n : Nat) (i : Int) : Nat := if 0 ≤ i ∧ i < (cntK n : Int) then min 64 (n - 64 * i.toNat) else 0
theorem szK_at {n k : Nat} (h : k < cntK n) : szK n (k : Int) = min 64 (n - 64 * k) := by
  unfold szK;rw [if_pos ⟨by omega, by omega⟩, Int.toNat_natCast]
theorem szK_step {n k : Nat} (h : k < cntK n) : min n (64 * k) + szK n (k : Int) = min n (64 * (k + 1)) := by
  rw [szK_at h];unfold cntK at h;omega
def catK (l : List ByteArray) : ByteArray := l.foldl (· ++ ·) ⟨#[]⟩
theorem catK_take {l : List ByteArray} {k : Nat} {s : ByteArray} (h : l[k]? = some s) : catK (l.take k) ++ s = catK (l.take (k + 1)) := by
  rw [List.take_add_one, h];simp [catK, List.foldl_append]
def blkK (s : ByteArray) (k : Nat) : ByteArray := s.extract (min s.size (64 * k)) (min s.size (64 * (k + 1)))
def cutK (s : ByteArray) : List ByteArray := (List.range (cntK s.size)).map (blkK s)
theorem cutK_len (s : ByteArray) : (cutK s).length = cntK s.size := by simp [cutK]
theorem cutK_at {s : ByteArray} {k : Nat} (h : k < cntK s.size) : (cutK s)[k]? = some (blkK s k) := by
  unfold cutK;rw [List.getElem?_map, List.getElem?_range h]
  rfl
theorem blkK_size {s : ByteArray} {k : Nat} (h : k < cntK s.size) : (blkK s k).size = szK s.size (k : Int) := by
  have := szK_step h;unfold blkK;rw [ByteArray.size_extract];omega
theorem blkK_join (s : ByteArray) (k : Nat) : s.extract 0 (min s.size (64 * k)) ++ blkK s k = s.extract 0 (min s.size (64 * (k + 1))) := by
  unfold blkK;rw [ByteArray.extract_append_extract]
  congr 1
  omega
theorem cntK_end (n : Nat) : min n (64 * cntK n) = n := by unfold cntK; omega
end Go.Proofs.YtbemmnggmdadeaaGreatDoor.Blk
end
section
namespace Go.Proofs.YtbemmnggmdadeaaGreatDoor.Num
open Go Go.RowKit Go.Lib
structure But (X : Nat → Prop) (u u' : World) : Prop where
  size : u.heap.size ≤ u'.heap.size
  block : ∀ b, b < u.heap.size → ¬ X b → u'.heap[b]? = u.heap[b]?
theorem But.of_below {u u' : World} {X : Nat → Prop} (h : Below u.heap.size u u') : But X u u' := ⟨h.size, fun b hb _ => h.block b hb⟩
theorem But.of_setCell (u : World) (a : Addr) (v : Value) : But (fun b => b = a.block) u (u.setCell a v) := ⟨by simp [World.setCell], fun b _ hn => heap_setCell_other u a b v hn⟩
theorem But.mono {X Y : Nat → Prop} {u u' : World} (h : But X u u') (hx : ∀ b, b < u.heap.size → X b → Y b) : But Y u u' := ⟨h.size, fun b hb hn => h.block b hb fun hxb => hn (hx b hb hxb)⟩
theorem But.trans {X : Nat → Prop} {u u' u'' : World} (h : But X u u') (h' : But X u' u'') : But X u u'' := ⟨Nat.le_trans h.size h'.size, fun b hb hn => (h'.block b (Nat.lt_of_lt_of_le hb h.size) hn).trans (h.block b hb hn)⟩
theorem But.cell {X : Nat → Prop} {u u' : World} (h : But X u u') {b o : Nat} (hb : b < u.heap.size) (hn : ¬ X b) : u'.cell? ⟨b, o, none⟩ = u.cell? ⟨b, o, none⟩ := by simp only [World.cell?, h.block b hb hn]
section
variable {X : Nat → Prop} {u u' : World}
theorem But.st (h : But X u u') {g : Nat} {T : TypeId} {cs : Array Value} (hs : St.St u g T cs) (hn : ¬ X g) : St.St u' g T cs := (h.block g hs.lt hn).trans hs
theorem But.own (h : But X u u') {B g n cap : Nat} {l : List Int} (hO : OwnI u B (some ⟨g, 0, none⟩) n cap l) (hn : ¬ X g) : OwnI u' B (some ⟨g, 0, none⟩) n cap l := by
  obtain ⟨h1, h2, h3⟩ := hO;refine ⟨h1, h2, ?_⟩;rcases h3 with ⟨hv, hn0⟩ | ⟨g', cap', cur, hv, hB, hg, rest⟩
  · exact .inl ⟨hv, hn0⟩
  · have hv2 := hv;simp only [Value.slice.injEq, Option.some.injEq, Addr.mk.injEq] at hv2;obtain ⟨⟨e, _, _⟩, _, _⟩ := hv2;subst e;exact .inr ⟨g, cap', cur, hv, hB, (h.block g (Array.getElem?_eq_some_iff.1 hg).1 hn).trans hg, rest⟩
theorem But.iin (h : But X u u') {A : Option Addr} {l : List Int} (hA : IIn u A l) (hn : ∀ b o, A = some ⟨b, o, none⟩ → ¬ X b) : IIn u' A l := fun i hi => by
  obtain ⟨b, o, e, hlt, h1⟩ := hA i hi;exact ⟨b, o, e, Nat.lt_of_lt_of_le hlt h.size, (h.cell hlt (hn b o e)).trans h1⟩
end
def LIn (w : World) (A : Option Addr) (ls : List (List Int)) : Prop := ∀ (i : Nat) l, ls[i]? = some l → ∃ b o Y c, A = some ⟨b, o, none⟩ ∧ b < w.heap.size ∧ w.cell? ⟨b, o + i, none⟩ = some (.slice Y l.length c) ∧ IIn w Y l
theorem LIn.on {w w' : World} {A : Option Addr} {ls : List (List Int)} (h : LIn w A ls) (hb : Below w.heap.size w w') : LIn w' A ls := fun i l hi => by
  obtain ⟨b, o, Y, c, e, hlt, h1, h2⟩ := h i l hi;exact ⟨b, o, Y, c, e, Nat.lt_of_lt_of_le hlt hb.size, (hb.cell (p := ⟨b, o + i, none⟩) hlt).trans h1, h2.on hb⟩
theorem LIn.nil (w : World) (A : Option Addr) : LIn w A [] := fun i l h => by simp at h
def LOwn (w0 u : World) (A : Option Addr) (n cap : Nat) (ls : List (List Int)) (X : Nat → Prop) : Prop := n = ls.length ∧ ∃ vs : List Value, u.ownsRow w0.heap.size 92 1 (.slice A n cap) n vs ∧ (∀ b, (Value.slice A n cap).ownBlock = some b → ¬ X b) ∧
  ∀ (i : Nat) l, ls[i]? = some l → ∃ Y c, vs[i]? = some (Value.slice Y l.length c) ∧ IIn u Y l ∧ ∀ b o, Y = some ⟨b, o, none⟩ → w0.heap.size ≤ b ∧ b < u.heap.size ∧ ¬ X b ∧ (Value.slice A n cap).ownBlock ≠ some b
theorem LOwn.nil (w0 u : World) (X : Nat → Prop) : LOwn w0 u none 0 0 [] X := ⟨rfl, [], World.ownsRow_nil _ _ _ _, fun b h => by simp [Value.ownBlock] at h, fun i l h => by simp at h⟩
section
variable {w0 u u' : World} {A : Option Addr} {n cap : Nat} {ls : List (List Int)} {X Y : Nat → Prop}
theorem LOwn.via (h : LOwn w0 u A n cap ls X) (hb : But X u u') : LOwn w0 u' A n cap ls X := by
  obtain ⟨h0, vs, ⟨h1, h1b⟩, h2, h3⟩ := h;refine ⟨h0, vs, ⟨h1, ?_⟩, h2, fun i l hi => ?_⟩
  · rcases h1b with hn | ⟨g, cap', cur, hv, hB, hg, rest⟩
    · exact .inl hn
    · exact .inr ⟨g, cap', cur, hv, hB, (hb.block g (Array.getElem?_eq_some_iff.1 hg).1 (h2 g (by rw [hv]; rfl))).trans hg, rest⟩
  · obtain ⟨Z, c, e1, e2, e3⟩ := h3 i l hi;exact ⟨Z, c, e1, hb.iin e2 (fun b o e => (e3 b o e).2.2.1), fun b o e => ⟨(e3 b o e).1, Nat.lt_of_lt_of_le (e3 b o e).2.1 hb.size, (e3 b o e).2.2⟩⟩
theorem LOwn.on (h : LOwn w0 u A n cap ls X) (hb : Below u.heap.size u u') : LOwn w0 u' A n cap ls X := h.via (But.of_below hb)
theorem LOwn.away (h : LOwn w0 u A n cap ls X) (hx : ∀ b, Y b → b < u.heap.size → w0.heap.size ≤ b → X b) : LOwn w0 u A n cap ls Y := by
  obtain ⟨h0, vs, h1, h2, h3⟩ := h;refine ⟨h0, vs, h1, fun b e hy => h2 b e (hx b hy (h1.lt b e).2 (h1.lt b e).1), fun i l hi => ?_⟩;obtain ⟨Z, c, e1, e2, e3⟩ := h3 i l hi;exact ⟨Z, c, e1, e2, fun b o e => ⟨(e3 b o e).1, (e3 b o e).2.1, fun hy => (e3 b o e).2.2.1 (hx b hy (e3 b o e).2.1 (e3 b o e).1), (e3 b o e).2.2.2⟩⟩
theorem LOwn.blk (h : LOwn w0 u A n cap ls X) : ∀ b, (Value.slice A n cap).ownBlock = some b → w0.heap.size ≤ b ∧ b < u.heap.size ∧ ¬ X b := fun b e => by
  obtain ⟨h0, vs, h1, h2, h3⟩ := h;exact ⟨(h1.lt b e).1, (h1.lt b e).2, h2 b e⟩
theorem LOwn.le (h : LOwn w0 u A n cap ls X) : n ≤ cap ∧ cap ≤ maxLen := by
  obtain ⟨h0, vs, h1, _⟩ := h;rcases h1.2 with ⟨hv, hn⟩ | ⟨g, cap', cur, hv, _, _, h1, h2, _⟩
  · injection hv with _ e1 e2
    exact ⟨by omega, by rw [e2]; exact Nat.zero_le _⟩
  · injection hv with _ e1 e2
    subst e2;exact ⟨h1, h2⟩
theorem elemLs : Own.Elem Tryz.prog 112 92 (.slice none 0 0) 1 24 := ⟨Tryz.underlying112, by kernel_rfl, rfl, by decide⟩
theorem LOwn.push (h : LOwn w0 u A n cap ls X) (hb : Below w0.heap.size w0 u) (ty : TypeId) (Z : Option Addr) (c : Nat) (l : List Int) (hn : n ≤ 1000000) (hZ : IIn u Z l) (hX : ∀ b, X b → b < u.heap.size)
    (hsep : ∀ b o, Z = some ⟨b, o, none⟩ → w0.heap.size ≤ b ∧ b < u.heap.size ∧ ¬ X b ∧ (Value.slice A n cap).ownBlock ≠ some b) :
    ∃ g' cap' v', (Builtin.append_ #[112, 112] ty #[.slice A n cap, .slice (some ⟨u.heap.size, 0, none⟩) 1 1]).run Tryz.prog (u.alloc (.cells #[.slice Z l.length c] 92)) = .ok (.slice (some ⟨g', 0, none⟩) (n + 1) cap') v' ∧
      LOwn w0 v' (some ⟨g', 0, none⟩) (n + 1) cap' (ls ++ [l]) X ∧ Below w0.heap.size w0 v' ∧ Own.Kept (u.alloc (.cells #[.slice Z l.length c] 92)) v' (Value.slice A n cap).ownBlock g' ∧ But (fun b => (Value.slice A n cap).ownBlock = some b) u v' := by
  obtain ⟨h0, vs, h1, h2, h3⟩ := h;have hal : Below u.heap.size u (u.alloc (.cells #[.slice Z l.length c] 92)) := (Below.refl _ u).alloc (Nat.le_refl _) _;have hsz : (u.alloc (.cells #[.slice Z l.length c] 92)).heap.size = u.heap.size + 1 := by simp
  obtain ⟨g', cap', v', r1, r2, r3, r4⟩ := Own.append elemLs w0 (u.alloc (.cells #[.slice Z l.length c] 92)) ty A n cap 1 1 vs (h1.alloc _) ⟨u.heap.size, 0, none⟩ [.slice Z l.length c] rfl (World.news_of_block (cs := #[.slice Z l.length c]) (heap_alloc_new u _)) (by simp [Value.oneCell']) (by omega) (by unfold maxLen; omega) (by omega) (hb.alloc hb.size _);have hvl : vs.length = n := by have := h1.1; omega
  have hbut : But (fun b => (Value.slice A n cap).ownBlock = some b) u v' := ⟨Nat.le_trans hal.size r4.size, fun b hbl hne => (r4.grown.block b (by rw [hsz]; omega) (fun e => hne e.symm)).trans (hal.block b hbl)⟩
  have hg' : (Value.slice A n cap).ownBlock = some g' ∨ u.heap.size < g' := by
    rcases r4.at' with q | q
    · exact .inl q
    · exact .inr (by rw [hsz] at q; omega)
  refine ⟨g', cap', v', r1, ⟨by rw [List.length_append, h0]; rfl, vs ++ [.slice Z l.length c], r2, fun b e hx => ?_, fun i l' hi => ?_⟩, r3, r4, hbut⟩
  · have e : g' = b := by simpa [Value.ownBlock] using e
    subst e;rcases hg' with q | q
    · exact h2 g' q hx
    · have := hX g' hx; omega
  · rcases Nat.lt_or_ge i n with hik | hik
    · rw [List.getElem?_append_left (by omega)] at hi;obtain ⟨Z', c', e1, e2, e3⟩ := h3 i l' hi;refine ⟨Z', c', by rw [List.getElem?_append_left (by omega)]; exact e1, hbut.iin e2 (fun b o e => (e3 b o e).2.2.2), fun b o e => ⟨(e3 b o e).1, Nat.lt_of_lt_of_le (e3 b o e).2.1 hbut.size, (e3 b o e).2.2.1, ?_⟩⟩;rcases hg' with q | q
      · have := (e3 b o e).2.2.2;rw [q] at this
        simpa [Value.ownBlock] using this
      · have := (e3 b o e).2.1;simp [Value.ownBlock];omega
    · have hi2 : i = n := by
        have := (List.getElem?_eq_some_iff.1 hi).1;rw [List.length_append, List.length_singleton] at this;omega
      subst hi2;rw [List.getElem?_append_right (by omega), ← h0] at hi;simp at hi;subst hi;refine ⟨Z, c, by rw [List.getElem?_append_right (by omega), hvl]; simp, hbut.iin hZ (fun b o e => (hsep b o e).2.2.2), fun b o e => ⟨(hsep b o e).1, Nat.lt_of_lt_of_le (hsep b o e).2.1 hbut.size, (hsep b o e).2.2.1, ?_⟩⟩;rcases hg' with q | q
      · have := (hsep b o e).2.2.2;rw [q] at this
        simpa [Value.ownBlock] using this
      · have := (hsep b o e).2.1;simp [Value.ownBlock];omega
end
end Go.Proofs.YtbemmnggmdadeaaGreatDoor.Num
end
section
namespace Go.Proofs.YtbemmnggmdadeaaGreatDoor.RowG
open Go Go.RowKit Go.Lib
variable {α : Type} {R : Rw α} {e : TypeId} {n cap : Nat} {A : Option Addr} {l : List α}
theorem ROwn.at' {w : World} {B : Nat} (h : ROwn R e w B A n cap l) : n = 0 ∨ ∃ g, A = some ⟨g, 0, Option.none⟩ ∧ B ≤ g ∧ g < w.heap.size := by
  rcases h.2.2 with ⟨hv, hn⟩ | ⟨g, cap', cur, hv, hb, hg, _⟩
  · left; injection hv with _ e1 _
  · right
    injection hv with e1 _ _
    exact ⟨g, e1, hb, (Array.getElem?_eq_some_iff.1 hg).1⟩
theorem tx_cell {w : World} {A : Option Addr} {ts : List ByteArray} (h : RIn txR w A ts) {k : Nat} {s : ByteArray} (hk : ts[k]? = some s) : ∃ b o, A = some ⟨b, o, none⟩ ∧ b < w.heap.size ∧ w.cell? ⟨b, o + k, none⟩ = some (.string s) := by
  obtain ⟨b, o, h1, h2, h3⟩ := h k s hk;have h4 := h3 0 (.string s) rfl;have e : o + (k * txR.size + 0) = o + k := by show o + (k * 1 + 0) = _; omega
  rw [e] at h4;exact ⟨b, o, h1, h2, h4⟩
end Go.Proofs.YtbemmnggmdadeaaGreatDoor.RowG
namespace Go.Proofs.YtbemmnggmdadeaaGreatDoor.Kn
open Go
theorem satU_run8 {Ko : World → Prop} {r : Result Unit} {v : World} (h : r = .ok () v) (H : Ko v) : Kn.SatU Ko r := by rw [h]; exact H
end Go.Proofs.YtbemmnggmdadeaaGreatDoor.Kn
namespace Go.Proofs.YtbemmnggmdadeaaGreatDoor.Blk
open Go Go.RowKit Go.Lib RowG Num
theorem elemTx8 : Own.Elem Tryz.prog 33 9 (.string ⟨#[]⟩) 1 16 := ⟨Tryz.underlying33, by kernel_rfl, rfl, by decide⟩
theorem store_tx8 (s : ByteArray) (w : World) (p : Addr) (x : Value) (h1 : w.cell? p = some x) (h2 : w.frozen? p = false) : (Instr.storeAt 9 (.pointer (some p)) (.string s)).run Tryz.prog w = .ok () (w.setCell p (.string s)) := by
  refine satU_run ?_;go_simp
def errno (c : Int) : Value := .iface 72 (.int .i64 c)
structure Aside (lo hi : Nat) (v v' : World) : Prop where
  os : v'.os = v.os
  tape : v'.tape = v.tape
  output : v'.output = v.output
  but : But (fun b => lo ≤ b ∧ b < hi) v v'
theorem Aside.of_below {lo hi : Nat} {v v' : World} (h : Below v.heap.size v v') : Aside lo hi v v' := ⟨h.os, h.tape, h.output, But.of_below h⟩
theorem Aside.refl {lo hi : Nat} (v : World) : Aside lo hi v v := .of_below (Below.refl _ _)
theorem Aside.trans {lo hi : Nat} {a b c : World} (h : Aside lo hi a b) (k : Aside lo hi b c) : Aside lo hi a c := ⟨k.os.trans h.os, k.tape.trans h.tape, k.output.trans h.output, h.but.trans k.but⟩
theorem Aside.put {lo hi : Nat} {a b : World} (h : Aside lo hi a b) (g o : Nat) (x : Value) (h1 : lo ≤ g) (h2 : g < hi) : Aside lo hi a (b.setCell ⟨g, o, none⟩ x) := h.trans ⟨rfl, rfl, rfl, (But.of_setCell b ⟨g, o, none⟩ x).mono fun b _ e => by
  subst e
  exact ⟨h1, h2⟩⟩
theorem Aside.below {B lo hi : Nat} {a b c : World} (h : Below B a b) (k : Aside lo hi b c) (hB : B ≤ lo) (hs : B ≤ a.heap.size) : Below B a c := ⟨k.os.trans h.os, k.tape.trans h.tape, k.output.trans h.output, Nat.le_trans h.size k.but.size, fun x hx => (k.but.block x (Nat.lt_of_lt_of_le hx (Nat.le_trans hs h.size)) (fun e => by omega)).trans (h.block x hx)⟩
structure Turn (X : Nat → Prop) (v v' : World) : Prop where
  os : v'.os = v.os
  tape : v'.tape = v.tape
  output : v'.output = v.output
  but : But X v v'
theorem Turn.of_below {X : Nat → Prop} {u u' : World} (h : Below u.heap.size u u') : Turn X u u' := ⟨h.os, h.tape, h.output, But.of_below h⟩
theorem Aside.turn {X : Nat → Prop} {lo hi : Nat} {v v' : World} (h : Aside lo hi v v') (hx : ∀ b, lo ≤ b → b < hi → X b) : Turn X v v' := ⟨h.os, h.tape, h.output, h.but.mono fun b _ e => hx b e.1 e.2⟩
theorem Turn.below {X : Nat → Prop} {B : Nat} {a b c : World} (h : Below B a b) (k : Turn X b c) (hX : ∀ x, X x → B ≤ x) (hs : B ≤ a.heap.size) : Below B a c := ⟨k.os.trans h.os, k.tape.trans h.tape, k.output.trans h.output, Nat.le_trans h.size k.but.size, fun x hx => (k.but.block x (Nat.lt_of_lt_of_le hx (Nat.le_trans hs h.size)) (fun e => by have := hX x e; omega)).trans (h.block x hx)⟩
end Go.Proofs.YtbemmnggmdadeaaGreatDoor.Blk
end
section
namespace Go.Proofs.YtbemmnggmdadeaaGreatDoor.Blk
open Go Go.RowKit Go.Lib
set_option maxRecDepth 100000 in
set_option maxHeartbeats 2000000 in
theorem count_any (n : Nat) (w : World) (hn : n ≤ 9223372036854775807) :
    Calls Tryz.prog 16 #[.int .i64 n] w fun e w' => e = .returned (.int .i64 (cntK n : Int)) ∧ w = w' := by
  refine Kn.calls Tryz.func16 rfl Tryz.ntmps16 rfl (.cons (t := 0) rfl .nil) fun fa0 fh0 => ?_;refine wp_seq_k fun K1 hK1 => ?_;refine wp_region_lit ?_;refine Kn.pure fh0 rfl rfl .none (Kn.ex_assign fh0 .const) fun fa1 fh1 => ?_;clear fh0 fa0;refine wpList_nil ?_;refine hK1 _ _ ?_;clear hK1 K1
  by_cases h1 : (n : Int) < 1
  · refine wp_seq_k fun K2 hK2 => ?_;refine wp_seq_k fun K3 hK3 => ?_;refine wp_region_lit ?_;refine Kn.pure fh1 rfl rfl .none (Kn.ex_move fh1 (.tmp rfl)) fun fa2 fh2 => ?_;clear fh1 fa1;refine Kn.step fh2 rfl rfl .none (Kn.ex_bin fh2 (.tmp rfl) .const) fun Ko hKo => ?_;go_simp;(try go_bits);refine hKo _ _ fun fa3 fh3 => ?_;clear hKo Ko fh2 fa2;refine wpList_nil ?_;refine hK3 _ _ ?_;clear hK3 K3;replace fh3 := fh3.cut (.cons (t := 4) rfl (.cons (t := 2) rfl (.cons (t := 0) rfl .nil)));refine Kn.yes fh3 (.tmp rfl) ?_;replace fh3 := fh3.cut (.cons (t := 2) rfl (.cons (t := 0) rfl .nil));refine wp_seq_k fun K4 hK4 => ?_;refine wp_region_lit ?_;refine Kn.pure fh3 rfl rfl .none (Kn.ex_assign fh3 .const) fun fa4 fh4 => ?_;clear fh3 fa3;refine wpList_nil ?_;refine hK4 _ _ ?_;clear hK4 K4;refine wp_ret ?_;refine Kn.then_ret ?_;obtain rfl : n = 0 := by omega
    exact Kn.ret1 fh4 rfl rfl ⟨rfl, rfl⟩
  obtain ⟨m, hm⟩ : ∃ m, n - 1 = m := ⟨_, rfl⟩;obtain ⟨c, hc⟩ : ∃ c, m / 64 = c := ⟨_, rfl⟩;obtain ⟨d, hd⟩ : ∃ d, cntK n = d := ⟨_, rfl⟩;have hcd : c + 1 = d := by unfold cntK at hd; omega
  rw [hd];have r1 : (n : Int) - 1 = (m : Int) := by omega
  have r2 : (m : Int).tdiv 64 = (c : Int) := by rw [Int.tdiv_eq_ediv_of_nonneg (by omega)]; omega
  have r3 : (c : Int) + 1 = (d : Int) := by omega
  have hc2 : c ≤ 144115188075855872 := by omega
  have hd2 : d ≤ 144115188075855873 := by omega
  clear hd hm hc hcd;refine wp_seq_k fun K2 hK2 => ?_;refine wp_seq_k fun K3 hK3 => ?_;refine wp_region_lit ?_;refine Kn.pure fh1 rfl rfl .none (Kn.ex_move fh1 (.tmp rfl)) fun fa2 fh2 => ?_;clear fh1 fa1;refine Kn.step fh2 rfl rfl .none (Kn.ex_bin fh2 (.tmp rfl) .const) fun Ko hKo => ?_;go_simp;(try go_bits);refine hKo _ _ fun fa3 fh3 => ?_;clear hKo Ko fh2 fa2;refine wpList_nil ?_;refine hK3 _ _ ?_;clear hK3 K3;replace fh3 := fh3.cut (.cons (t := 4) rfl (.cons (t := 2) rfl (.cons (t := 0) rfl .nil)));refine Kn.no fh3 (.tmp rfl) ?_;refine wp_skip ?_;refine hK2 _ _ ?_;clear hK2 K2;replace fh3 := fh3.cut (.cons (t := 2) rfl (.cons (t := 0) rfl .nil));refine wp_seq_k fun K4 hK4 => ?_;refine wp_region_lit ?_;refine Kn.pure fh3 rfl rfl .none (Kn.ex_move fh3 (.tmp rfl)) fun fa4 fh4 => ?_;clear fh3 fa3;refine Kn.step fh4 rfl rfl .none (Kn.ex_bin fh4 (.tmp rfl) .const) fun Ko hKo => ?_;go_simp;(try go_bits);refine hKo _ _ fun fa5 fh5 => ?_;clear hKo Ko fh4 fa4;refine Kn.step fh5 rfl rfl .none (Kn.ex_bin fh5 (.tmp rfl) .const) fun Ko hKo => ?_;go_simp;(try go_bits);refine hKo _ _ fun fa6 fh6 => ?_;clear hKo Ko fh5 fa5;refine Kn.step fh6 rfl rfl .none (Kn.ex_bin fh6 (.tmp rfl) .const) fun Ko hKo => ?_;go_simp;(try go_bits);refine hKo _ _ fun fa7 fh7 => ?_;clear hKo Ko fh6 fa6;refine Kn.pure fh7 rfl rfl .none (Kn.ex_assign fh7 (.tmp rfl)) fun fa8 fh8 => ?_;clear fh7 fa7;refine wpList_nil ?_;refine hK4 _ _ ?_;clear hK4 K4;replace fh8 := fh8.cut (.cons (t := 2) rfl .nil);refine wp_ret ?_;exact Kn.ret1 fh8 rfl rfl ⟨rfl, rfl⟩
set_option maxRecDepth 100000 in
set_option maxHeartbeats 2000000 in
theorem size_any (n : Nat) (i : Int) (w : World) (hn : n ≤ 9223372036854775807) :
    Calls Tryz.prog 59 #[.int .i64 n, .int .i64 i] w fun e w' => e = .returned (.int .i64 (szK n i : Int)) ∧ w = w' := by
  refine Kn.calls Tryz.func59 rfl Tryz.ntmps59 rfl (.cons (t := 0) rfl (.cons (t := 1) rfl .nil)) fun fa0 fh0 => ?_;refine wp_seq_k fun K1 hK1 => ?_;refine wp_region_lit ?_;refine Kn.pure fh0 rfl rfl .none (Kn.ex_assign fh0 .const) fun fa1 fh1 => ?_;clear fh0 fa0;refine wpList_nil ?_;refine hK1 _ _ ?_;clear hK1 K1
  by_cases h1 : i < 0
  · refine wp_seq_k fun K2 hK2 => ?_;refine wp_seq_k fun K3 hK3 => ?_;refine wp_region_lit ?_;refine Kn.pure fh1 rfl rfl .none (Kn.ex_move fh1 (.tmp rfl)) fun fa2 fh2 => ?_;clear fh1 fa1;refine Kn.step fh2 rfl rfl .none (Kn.ex_bin fh2 (.tmp rfl) .const) fun Ko hKo => ?_;go_simp;(try go_bits);refine hKo _ _ fun fa3 fh3 => ?_;clear hKo Ko fh2 fa2;refine Kn.pure fh3 rfl rfl .none (Kn.ex_move fh3 (.tmp rfl)) fun fa4 fh4 => ?_;clear fh3 fa3;refine Kn.skip fh4 rfl rfl (.some rfl rfl rfl) fun fa5 fh5 => ?_;clear fh4 fa4;refine Kn.skip fh5 rfl rfl (.some rfl rfl rfl) fun fa6 fh6 => ?_;clear fh5 fa5;refine Kn.skip fh6 rfl rfl (.some rfl rfl rfl) fun fa7 fh7 => ?_;clear fh6 fa6;refine Kn.skip fh7 rfl rfl (.some rfl rfl rfl) fun fa8 fh8 => ?_;clear fh7 fa7;refine Kn.pure fh8 rfl rfl .none (Kn.ex_pick fh8 (.tmp rfl) .const) fun fa9 fh9 => ?_;clear fh8 fa8;refine wpList_nil ?_;refine hK3 _ _ ?_;clear hK3 K3;replace fh9 := fh9.cut (.cons (t := 12) rfl (.cons (t := 4) rfl (.cons (t := 0) rfl (.cons (t := 1) rfl .nil))));refine Kn.yes fh9 (.tmp rfl) ?_;replace fh9 := fh9.cut (.cons (t := 4) rfl (.cons (t := 0) rfl (.cons (t := 1) rfl .nil)));refine wp_seq_k fun K4 hK4 => ?_;refine wp_region_lit ?_;refine Kn.pure fh9 rfl rfl .none (Kn.ex_assign fh9 .const) fun fa10 fh10 => ?_;clear fh9 fa9;refine wpList_nil ?_;refine hK4 _ _ ?_;clear hK4 K4;refine wp_ret ?_;refine Kn.then_ret ?_;rw [show szK n i = 0 by unfold szK; rw [if_neg (by omega)]];exact Kn.ret1 fh10 rfl rfl ⟨rfl, rfl⟩
  by_cases h2 : (cntK n : Int) ≤ i
  · refine wp_seq_k fun K2 hK2 => ?_;refine wp_seq_k fun K3 hK3 => ?_;refine wp_region_lit ?_;refine Kn.pure fh1 rfl rfl .none (Kn.ex_move fh1 (.tmp rfl)) fun fa2 fh2 => ?_;clear fh1 fa1;refine Kn.step fh2 rfl rfl .none (Kn.ex_bin fh2 (.tmp rfl) .const) fun Ko hKo => ?_;go_simp;(try go_bits);refine hKo _ _ fun fa3 fh3 => ?_;clear hKo Ko fh2 fa2;refine Kn.pure fh3 rfl rfl .none (Kn.ex_move fh3 (.tmp rfl)) fun fa4 fh4 => ?_;clear fh3 fa3;refine Kn.pure fh4 rfl rfl (.some rfl rfl rfl) (Kn.ex_move fh4 (.tmp rfl)) fun fa5 fh5 => ?_;clear fh4 fa4;refine Kn.pure fh5 rfl rfl (.some rfl rfl rfl) (Kn.ex_move fh5 (.tmp rfl)) fun fa6 fh6 => ?_;clear fh5 fa5;refine Kn.call fh6 rfl rfl (.some rfl rfl rfl) (Kn.ex_call fh6 (.cons (.tmp rfl) .nil)) Tryz.call16 (count_any n w hn) fun e w1 hp => ?_;obtain ⟨rfl, rfl⟩ := hp;refine ⟨_, rfl, fun fa7 fh7 => ?_⟩;clear fh6 fa6;refine Kn.step fh7 rfl rfl (.some rfl rfl rfl) (Kn.ex_bin fh7 (.tmp rfl) (.tmp rfl)) fun Ko hKo => ?_;go_simp;(try go_bits);refine hKo _ _ fun fa8 fh8 => ?_;clear hKo Ko fh7 fa7;refine Kn.pure fh8 rfl rfl .none (Kn.ex_pick fh8 (.tmp rfl) (.tmp rfl)) fun fa9 fh9 => ?_;clear fh8 fa8;refine wpList_nil ?_;refine hK3 _ _ ?_;clear hK3 K3;replace fh9 := fh9.cut (.cons (t := 12) rfl (.cons (t := 4) rfl (.cons (t := 0) rfl (.cons (t := 1) rfl .nil))));refine Kn.yes fh9 (.tmp rfl) ?_;replace fh9 := fh9.cut (.cons (t := 4) rfl (.cons (t := 0) rfl (.cons (t := 1) rfl .nil)));refine wp_seq_k fun K4 hK4 => ?_;refine wp_region_lit ?_;refine Kn.pure fh9 rfl rfl .none (Kn.ex_assign fh9 .const) fun fa10 fh10 => ?_;clear fh9 fa9;refine wpList_nil ?_;refine hK4 _ _ ?_;clear hK4 K4;refine wp_ret ?_;refine Kn.then_ret ?_;rw [show szK n i = 0 by unfold szK; rw [if_neg (by omega)]];exact Kn.ret1 fh10 rfl rfl ⟨rfl, rfl⟩
  obtain ⟨k, rfl⟩ := Int.eq_ofNat_of_zero_le (show 0 ≤ i by omega);have hk : k < cntK n := by omega
  rw [szK_at hk];obtain ⟨p, hp⟩ : ∃ p, 64 * k = p := ⟨_, rfl⟩;rw [hp];have hpn : p < n := by unfold cntK at hk; omega
  obtain ⟨q, hq⟩ : ∃ q, n - p = q := ⟨_, rfl⟩;rw [hq];have r1 : (k : Int) * 64 = (p : Int) := by omega
  have r2 : (n : Int) - (p : Int) = (q : Int) := by omega
  clear hp hq hpn hk;refine wp_seq_k fun K2 hK2 => ?_;refine wp_seq_k fun K3 hK3 => ?_;refine wp_region_lit ?_;refine Kn.pure fh1 rfl rfl .none (Kn.ex_move fh1 (.tmp rfl)) fun fa2 fh2 => ?_;clear fh1 fa1;refine Kn.step fh2 rfl rfl .none (Kn.ex_bin fh2 (.tmp rfl) .const) fun Ko hKo => ?_;go_simp;(try go_bits);refine hKo _ _ fun fa3 fh3 => ?_;clear hKo Ko fh2 fa2;refine Kn.pure fh3 rfl rfl .none (Kn.ex_move fh3 (.tmp rfl)) fun fa4 fh4 => ?_;clear fh3 fa3;refine Kn.pure fh4 rfl rfl (.some rfl rfl rfl) (Kn.ex_move fh4 (.tmp rfl)) fun fa5 fh5 => ?_;clear fh4 fa4;refine Kn.pure fh5 rfl rfl (.some rfl rfl rfl) (Kn.ex_move fh5 (.tmp rfl)) fun fa6 fh6 => ?_;clear fh5 fa5;refine Kn.call fh6 rfl rfl (.some rfl rfl rfl) (Kn.ex_call fh6 (.cons (.tmp rfl) .nil)) Tryz.call16 (count_any n w hn) fun e w1 hp => ?_;obtain ⟨rfl, rfl⟩ := hp;refine ⟨_, rfl, fun fa7 fh7 => ?_⟩;clear fh6 fa6;refine Kn.step fh7 rfl rfl (.some rfl rfl rfl) (Kn.ex_bin fh7 (.tmp rfl) (.tmp rfl)) fun Ko hKo => ?_;go_simp;(try go_bits);refine hKo _ _ fun fa8 fh8 => ?_;clear hKo Ko fh7 fa7;refine Kn.pure fh8 rfl rfl .none (Kn.ex_pick fh8 (.tmp rfl) (.tmp rfl)) fun fa9 fh9 => ?_;clear fh8 fa8;refine wpList_nil ?_;refine hK3 _ _ ?_;clear hK3 K3;replace fh9 := fh9.cut (.cons (t := 12) rfl (.cons (t := 4) rfl (.cons (t := 0) rfl (.cons (t := 1) rfl .nil))));refine Kn.no fh9 (.tmp rfl) ?_;refine wp_skip ?_;refine hK2 _ _ ?_;clear hK2 K2;replace fh9 := fh9.cut (.cons (t := 4) rfl (.cons (t := 0) rfl (.cons (t := 1) rfl .nil)));refine wp_seq_k fun K4 hK4 => ?_;refine wp_region_lit ?_;refine Kn.pure fh9 rfl rfl .none (Kn.ex_move fh9 (.tmp rfl)) fun fa10 fh10 => ?_;clear fh9 fa9;refine Kn.pure fh10 rfl rfl .none (Kn.ex_move fh10 (.tmp rfl)) fun fa11 fh11 => ?_;clear fh10 fa10;refine Kn.step fh11 rfl rfl .none (Kn.ex_bin fh11 (.tmp rfl) .const) fun Ko hKo => ?_;go_simp;(try go_bits);refine hKo _ _ fun fa12 fh12 => ?_;clear hKo Ko fh11 fa11;refine Kn.step fh12 rfl rfl .none (Kn.ex_bin fh12 (.tmp rfl) (.tmp rfl)) fun Ko hKo => ?_;go_simp;(try go_bits);refine hKo _ _ fun fa13 fh13 => ?_;clear hKo Ko fh12 fa12;refine Kn.step fh13 rfl rfl .none (Kn.ex_min fh13 (.cons .const (.cons (.tmp rfl) .nil))) fun Ko hKo => ?_;go_simp;(try go_bits);refine hKo _ _ fun fa14 fh14 => ?_;clear hKo Ko fh13 fa13;refine Kn.pure fh14 rfl rfl .none (Kn.ex_assign fh14 (.tmp rfl)) fun fa15 fh15 => ?_;clear fh14 fa14;refine wpList_nil ?_;refine hK4 _ _ ?_;clear hK4 K4;replace fh15 := fh15.cut (.cons (t := 4) rfl .nil);refine wp_ret ?_;refine Kn.ret1 fh15 rfl rfl ⟨?_, rfl⟩
  by_cases hq : 64 ≤ q
  · first | go_num | (simp [Nat.min_eq_left hq]; try omega)
  · first | go_num | (simp [Nat.min_eq_right (Nat.le_of_not_le hq)]; try omega)
end Go.Proofs.YtbemmnggmdadeaaGreatDoor.Blk
end
section
namespace Go.Proofs.YtbemmnggmdadeaaGreatDoor.Kn
open Go
theorem satU_runA {Ko : World → Prop} {r : Result Unit} {v : World} (h : r = .ok () v) (H : Ko v) : Kn.SatU Ko r := by rw [h]; exact H
end Go.Proofs.YtbemmnggmdadeaaGreatDoor.Kn
namespace Go.Proofs.YtbemmnggmdadeaaGreatDoor.Man
open Go Go.RowKit Go.Lib RowG
def flV (a c : Int) : Value := .iface 83 (.agg #[.int .i64 a, .iface 72 (.int .i64 c)])
def chkV (m : MF) : Value := if wrM m = -1 then .nilIface else flV (wrM m) 4
theorem chkV_bad {m : MF} {k : Int} (h : wrM m = k) (hk : 0 ≤ k) : chkV m = flV k 4 := by unfold chkV; rw [h, if_neg (by omega)]
theorem chkV_ok {m : MF} (h : wrM m = -1) : chkV m = .nilIface := if_pos h
theorem chkV_good {m : MF} (h : Good m) : chkV m = .nilIface := chkV_ok ((good_iff m).2 h)
def lst (sh : List (Int × Int)) (j : Nat) : Int := if j = 0 then 0 else fst sh (j - 1) + 1
structure KM (w : World) (m : MF) (A : Option Addr) (c g : Nat) (u : World) : Prop where
  st : St.St u g 40 #[.int .i64 m.v, .int .i64 m.n, .int .i64 m.e, .slice A m.sh.length c, .int .i64 m.b, .string m.r]
  mi : MIn m A c u
  bl : Below w.heap.size w u
theorem KM.on {w u u' : World} {m : MF} {A : Option Addr} {c g : Nat} (h : KM w m A c g u) (hb : Below u.heap.size u u') : KM w m A c g u' := ⟨h.st.on hb, h.mi.on hb, h.bl.trans (hb.mono h.bl.size)⟩
theorem ld_sh {b o : Nat} {x y : Value} {w : World} (h0 : w.cell? ⟨b, o, none⟩ = some x) (h1 : w.cell? ⟨b, o + 1, none⟩ = some y) : (Instr.loadAt 52 (.pointer (some ⟨b, o, none⟩))).run Tryz.prog w = .ok (.agg #[x, y]) w := by
  refine Num.sat_run ?_;go_simp
set_option maxRecDepth 100000 in
set_option maxHeartbeats 1000000 in
theorem isFrom_any (a b x : Int) (w : World) :
    Calls Tryz.prog 31 #[.int .i64 a, .int .i64 b, .int .i64 x] w fun e w' => e = .returned (.bool (decide (a ≤ x ∧ x ≤ b))) ∧ w = w' := by
  refine Kn.Z.cl Tryz.func31 rfl Tryz.ntmps31 rfl (.c 0 rfl (.c 1 rfl (.c 2 rfl .n))) ?_;refine Kn.Z.f fun K1 hK1=>?_;refine Kn.Z.u (.a .c .n) ?_;refine Kn.Z.e hK1 ?_;clear hK1 K1
  by_cases h1 : a ≤ x
  rotate_left
  · refine Kn.Z.f fun K2 hK2=>?_;refine Kn.Z.u (.m (.t rfl) (.m (.t rfl) .n)) ?_;refine Kn.Z.s .o (.bin (.t rfl) (.t rfl)) fun Ko Kp=>?_;go_simp;(try go_bits);refine Kp _ _ ?_;clear Kp Ko;refine Kn.Z.u (.m (.t rfl) (.k (.s rfl rfl rfl) (.k (.s rfl rfl rfl) (.k (.s rfl rfl rfl) (.e .o (.pick (.t rfl) .c) (.a (.t rfl) .n)))))) ?_;refine Kn.Z.e hK2 ?_;clear hK2 K2;refine Kn.Z.t (.c 6 rfl .n) ?_;intro fa fh;refine wp_ret ?_;exact Kn.ret1 fh rfl rfl ⟨by rw [decide_eq_false (fun h : a ≤ x ∧ x ≤ b => h1 h.1)], rfl⟩
  by_cases h2 : x ≤ b
  rotate_left
  · refine Kn.Z.f fun K2 hK2=>?_;refine Kn.Z.u (.m (.t rfl) (.m (.t rfl) .n)) ?_;refine Kn.Z.s .o (.bin (.t rfl) (.t rfl)) fun Ko Kp=>?_;go_simp;(try go_bits);refine Kp _ _ ?_;clear Kp Ko;refine Kn.Z.u (.m (.t rfl) (.e (.s rfl rfl rfl) (.move (.t rfl)) (.e (.s rfl rfl rfl) (.move (.t rfl)) .n))) ?_;refine Kn.Z.s (.s rfl rfl rfl) (.bin (.t rfl) (.t rfl)) fun Ko Kp=>?_;go_simp;(try go_bits);refine Kp _ _ ?_;clear Kp Ko;refine Kn.Z.u (.e .o (.pick (.t rfl) (.t rfl)) (.a (.t rfl) .n)) ?_;refine Kn.Z.e hK2 ?_;clear hK2 K2;refine Kn.Z.t (.c 6 rfl .n) ?_;intro fa fh;refine wp_ret ?_;exact Kn.ret1 fh rfl rfl ⟨by rw [decide_eq_false (fun h : a ≤ x ∧ x ≤ b => h2 h.2)], rfl⟩
  refine Kn.Z.f fun K2 hK2=>?_;refine Kn.Z.u (.m (.t rfl) (.m (.t rfl) .n)) ?_;refine Kn.Z.s .o (.bin (.t rfl) (.t rfl)) fun Ko Kp=>?_;go_simp;(try go_bits);refine Kp _ _ ?_;clear Kp Ko;refine Kn.Z.u (.m (.t rfl) (.e (.s rfl rfl rfl) (.move (.t rfl)) (.e (.s rfl rfl rfl) (.move (.t rfl)) .n))) ?_;refine Kn.Z.s (.s rfl rfl rfl) (.bin (.t rfl) (.t rfl)) fun Ko Kp=>?_;go_simp;(try go_bits);refine Kp _ _ ?_;clear Kp Ko;refine Kn.Z.u (.e .o (.pick (.t rfl) (.t rfl)) (.a (.t rfl) .n)) ?_;refine Kn.Z.e hK2 ?_;clear hK2 K2;refine Kn.Z.t (.c 6 rfl .n) ?_;intro fa fh;refine wp_ret ?_;exact Kn.ret1 fh rfl rfl ⟨by rw [decide_eq_true (⟨h1, h2⟩ : a ≤ x ∧ x ≤ b)], rfl⟩
theorem isFrom_yes (a b x : Int) (w : World) (h : a ≤ x ∧ x ≤ b) : Calls Tryz.prog 31 #[.int .i64 a, .int .i64 b, .int .i64 x] w fun e w' => e = .returned (.bool true) ∧ w = w' := by
  have := isFrom_any a b x w
  rwa [decide_eq_true h] at this
theorem isFrom_no (a b x : Int) (w : World) (h : ¬ (a ≤ x ∧ x ≤ b)) : Calls Tryz.prog 31 #[.int .i64 a, .int .i64 b, .int .i64 x] w fun e w' => e = .returned (.bool false) ∧ w = w' := by
  have := isFrom_any a b x w
  rwa [decide_eq_false h] at this
set_option maxRecDepth 100000 in
set_option maxHeartbeats 1000000 in
theorem wrong_v (a : Int) (w : World) :
    Calls Tryz.prog 55 #[.int .i64 a] w fun e w' => e = .returned (flV a 4) ∧ w = w' := by
  refine Kn.Z.cl Tryz.func55 rfl Tryz.ntmps55 rfl (.c 0 rfl .n) ?_;refine Kn.Z.f fun K1 hK1=>?_;refine Kn.Z.u (.a .c .n) ?_;refine Kn.Z.e hK1 ?_;clear hK1 K1;refine Kn.Z.f fun K2 hK2=>?_;refine Kn.Z.u (.m (.t rfl) .n) ?_;refine Kn.Z.s .o (.makeInterface .c) fun Ko Kp=>?_;go_simp;(try go_bits);refine Kp _ _ ?_;clear Kp Ko;refine Kn.Z.s .o (.build (.c (.t rfl) (.c (.t rfl) .n))) fun Ko Kp=>?_;go_simp;(try go_bits);refine Kp _ _ ?_;clear Kp Ko;refine Kn.Z.s .o (.makeInterface (.t rfl)) fun Ko Kp=>?_;go_simp;(try go_bits);refine Kp _ _ ?_;clear Kp Ko;refine Kn.Z.u (.a (.t rfl) .n) ?_;refine Kn.Z.e hK2 ?_;clear hK2 K2;intro fa fh;refine wp_ret ?_;exact Kn.ret1 fh rfl rfl ⟨rfl, rfl⟩
set_option maxRecDepth 100000 in
set_option maxHeartbeats 1000000 in
theorem totalC_l (v0 n0 e0 b0 : Int) (r0 : ByteArray) (sh0 : List (Int × Int)) (A : Option Addr) (c : Nat) (w : World) (hA : RIn ipR w A sh0) (hfew : sh0.length ≤ 100) (hy : ∀ j, j < sh0.length → 3 ≤ byt sh0 j ∧ byt sh0 j ≤ 1048576) :
    Calls Tryz.prog 30 #[.agg #[.int .i64 v0, .int .i64 n0, .int .i64 e0, .slice A sh0.length c, .int .i64 b0, .string r0]] w fun e w' => e = .returned (.int .i64 (totK sh0 sh0.length)) ∧ Below w.heap.size w w' := by
  refine Kn.Z.cl Tryz.func30 rfl Tryz.ntmps30 rfl (.c 0 rfl .n) ?_;refine Kn.Z.f fun K1 hK1=>?_;refine Kn.Z.s .o (.box (.t rfl)) fun Ko Kp=>?_;go_simp;(try go_bits);refine Kp _ _ ?_;clear Kp Ko;refine Kn.Z.u (.a .c .n) ?_;refine Kn.Z.e hK1 ?_;clear hK1 K1;refine Kn.Z.g (fun u => St.St u w.heap.size 40 #[.int .i64 v0, .int .i64 n0, .int .i64 e0, .slice A sh0.length c, .int .i64 b0, .string r0] ∧ Below w.heap.size w u) ⟨St.St.new _ _ _, (Below.refl _ w).alloc (Nat.le_refl _) _⟩ fun u hu => ?_;obtain ⟨g, hg⟩ : ∃ g, w.heap.size = g := ⟨_, rfl⟩;obtain ⟨hS0, hb0⟩ := hu;intro fa fh;rw [hg] at hS0 fh;have k3 := hS0.cell 3 rfl;have HB := Lib.hid hb0;have HR := Lib.hid (hA.on hb0);have HY := Lib.hid hy;obtain ⟨N0, hN0⟩ : ∃ N, sh0.length = N := ⟨_, rfl⟩;rw [hN0] at k3 hfew;have HN := Lib.hid hN0;clear hg hb0 hA hy hN0
  revert fa
  refine Kn.Z.f fun K2 hK2=>?_;refine Kn.Z.u (.a .c .n) ?_;refine Kn.Z.e hK2 ?_;clear hK2 K2;refine Kn.Z.q fun K3 hK3=>?_;refine Kn.Z.f fun K4 hK4=>?_;refine Kn.Z.s .o (.fieldAddr (.t rfl)) fun Ko Kp=>?_;go_simp;(try go_bits);refine Kp _ _ ?_;clear Kp Ko;refine Kn.Z.s .o (.load (.t rfl)) fun Ko Kp=>?_;go_simp;(try go_bits);refine Kp _ _ ?_;clear Kp Ko;refine Kn.Z.s .o (.len (.t rfl)) fun Ko Kp=>?_;go_simp;(try go_bits);refine Kp _ _ ?_;clear Kp Ko;refine Kn.Z.u (.m .c .n) ?_;refine Kn.Z.e hK4 ?_;clear hK4 K4;clear k3 hS0;refine Kn.Z.b ?_;intro fb fg;refine Kn.loop (fun m fr v => ∃ (t : Int) (j : Nat), Kn.Kn 19 [(3, .int .i64 t), (7, .slice A N0 c), (8, .int .i64 (N0 : Int)), (9, .int .i64 (j : Int))] fr ∧ Hid (j + m = N0 ∧ t = totK sh0 j) ∧ Hid (RIn ipR v A sh0 ∧ Below w.heap.size w v)) N0 ⟨0, 0, fg.cut (.u 3 rfl rfl (.c 7 rfl (.c 8 rfl (.u 9 rfl (by go_num) .n)))), Lib.hid ⟨by omega, rfl⟩, Lib.hid ⟨HR.out, HB.out⟩⟩ ?_;clear fg fb;intro m5 fa v hI Kl5 hKl5;obtain ⟨t, j, fh, hj, HV⟩ := hI;have hjle : j ≤ N0 := by have := hj.out.1; omega
  have hb1 := totK_bd HY.out j (by have := HN.out; omega);rw [← hj.out.2] at hb1
  by_cases hlt : j < N0
  · have hlti : (j : Int) < (N0 : Int) := by omega
    obtain ⟨ba, oa, hAe, -, cf, cb⟩ := ipc HV.out.1 (show j < sh0.length by have := HN.out; omega);subst hAe;have hb2 := HY.out j (by have := HN.out; omega);obtain ⟨y, hy⟩ : ∃ y, byt sh0 j = y := ⟨_, rfl⟩;obtain ⟨f, hf⟩ : ∃ f, fst sh0 j = f := ⟨_, rfl⟩;rw [hy] at cb hb2;rw [hf] at cf;have ht2 : Hid (t + y = totK sh0 (j + 1)) := Lib.hid (by rw [hj.out.2, ← hy]; rfl);have HLP := Lib.hid (ld_sh cf cb);clear hy hf cf cb
    revert fa
    refine Kn.Z.f fun K6 hK6=>?_;refine Kn.Z.s .o (.bin (.t rfl) (.t rfl)) fun Ko Kp=>?_;go_simp;(try go_bits);refine Kp _ _ ?_;clear Kp Ko;refine Kn.Z.e hK6 ?_;clear hK6 K6;refine Kn.Z.q fun K7 hK7=>?_;refine Kn.Z.y (.t rfl) ?_;refine Kn.Z.j hK7 ?_;clear hK7 K7;refine Kn.Z.t (.c 3 rfl (.c 7 rfl (.c 8 rfl (.c 9 rfl .n)))) ?_;refine Kn.Z.q fun K8 hK8=>?_;refine Kn.Z.b ?_;obtain ⟨hst, hSn, hBn⟩ := (St.St.new v 52 #[.int .i64 0, .int .i64 0]).store (P := Tryz.prog) (cells := #[.int .i64 f, .int .i64 y]) (by kernel_rfl) rfl (by simp [Value.oneCell']);refine Kn.Z.f fun K9 hK9=>?_;refine Kn.Z.s .o (.indexAddr (.t rfl) (.t rfl)) fun Ko Kp=>?_;go_simp;(try go_bits);refine Kp _ _ ?_;clear Kp Ko;refine Kn.Z.k .o (.load (.t rfl)) HLP.out ?_;refine Kn.Z.s .o .alloc fun Ko Kp=>?_;go_simp;(try go_bits);refine Kp _ _ ?_;clear Kp Ko;refine Kn.Z.su .o (.store (.t rfl) (.t rfl)) fun Ko Kp=>?_;refine Kn.satU_runA hst ?_;refine Kp _ ?_;clear Kp Ko;refine Kn.Z.e hK9 ?_;clear hK9 K9;have hbv := ((Below.refl _ v).alloc (Nat.le_refl _) (.cells #[.int .i64 0, .int .i64 0] 52)).trans (hBn _ (Nat.le_refl _));refine Kn.Z.g (fun u => St.St u v.heap.size 52 #[.int .i64 f, .int .i64 y] ∧ RIn ipR u (some ⟨ba, oa, none⟩) sh0 ∧ Below w.heap.size w u) ⟨hSn, ⟨HV.out.1.on hbv, HV.out.2.trans (hbv.mono HV.out.2.size)⟩⟩ fun v1 hv1 => ?_;clear hst hSn hBn hbv HLP;obtain ⟨hS9, hK9⟩ := hv1;obtain ⟨g9, hg9⟩ : ∃ q, v.heap.size = q := ⟨_, rfl⟩;intro fa fh;rw [hg9] at fh hS9;have d0 := hS9.cell 0 rfl;have d1 := hS9.cell 1 rfl;have HK9 := Lib.hid hK9;clear hg9 hK9 hS9
    revert fa
    refine Kn.Z.r ?_;refine Kn.Z.u (.m (.t rfl) .n) ?_;refine Kn.Z.s .o (.fieldAddr (.t rfl)) fun Ko Kp=>?_;go_simp;(try go_bits);refine Kp _ _ ?_;clear Kp Ko;refine Kn.Z.s .o (.load (.t rfl)) fun Ko Kp=>?_;go_simp;(try go_bits);refine Kp _ _ ?_;clear Kp Ko;refine Kn.Z.s .o (.bin (.t rfl) (.t rfl)) fun Ko Kp=>?_;go_simp;(try go_bits);refine Kp _ _ ?_;clear Kp Ko;refine Kn.Z.u (.a (.t rfl) .n) ?_;intro fb fg;refine wpList_nil ?_;refine Kn.block_normal ?_;refine hK8 _ _ ?_;clear hK8 K8
    revert fb
    refine Kn.Z.r ?_;refine Kn.Z.s .o (.bin (.t rfl) .c) fun Ko Kp=>?_;go_simp;(try go_bits);refine Kp _ _ ?_;clear Kp Ko;refine Kn.Z.u (.m (.t rfl) .n) ?_;intro fb fg;refine wpList_nil ?_;replace fg := fg.cut (.c 9 rfl (.c 3 rfl (.c 7 rfl (.c 8 rfl .n))));have hj' := hj.out.1;exact hKl5 (m5 - 1) _ _ (by omega) ⟨t + y, j + 1, fg.cut (.u 3 rfl (by go_num) (.c 7 rfl (.c 8 rfl (.u 9 rfl (by go_num) .n)))), Lib.hid ⟨by omega, ht2.out⟩, HK9⟩
  have hlti : ¬ (j : Int) < (N0 : Int) := by omega
  obtain rfl : j = N0 := by omega
  revert fa
  refine Kn.Z.f fun K6 hK6=>?_;refine Kn.Z.s .o (.bin (.t rfl) (.t rfl)) fun Ko Kp=>?_;go_simp;(try go_bits);refine Kp _ _ ?_;clear Kp Ko;refine Kn.Z.e hK6 ?_;clear hK6 K6;refine Kn.Z.q fun K7 hK7=>?_;refine Kn.Z.no (.t rfl) ?_;refine Kn.Z.t (.c 3 rfl (.c 7 rfl (.c 8 rfl (.c 9 rfl .n)))) ?_;intro fb fg;refine wp_exit ?_;refine Kn.then_exit ?_;clear hK7 K7;refine Kn.then_exit ?_;clear hKl5 Kl5;refine Kn.block_exit ?_;refine hK3 _ _ ?_;clear hK3 K3
  revert fb
  refine Kn.Z.f fun K8 hK8=>?_;refine Kn.Z.u (.m (.t rfl) (.a (.t rfl) .n)) ?_;refine Kn.Z.e hK8 ?_;clear hK8 K8;intro fb fg;refine wp_ret ?_;exact Kn.ret1 fg rfl rfl ⟨by rw [hj.out.2, HN.out], HV.out.2⟩
theorem totalC_any (m : MF) (A : Option Addr) (c : Nat) (w : World) (hM : MIn m A c w) (hy : ∀ j, j < m.sh.length → 3 ≤ byt m.sh j ∧ byt m.sh j ≤ 1048576) :
    Calls Tryz.prog 30 #[mV m A c] w fun e w' => e = .returned (.int .i64 (tot m)) ∧ Below w.heap.size w w' := totalC_l m.v m.n m.e m.b m.r m.sh A c w hM.row hM.few hy
set_option maxRecDepth 100000 in
set_option maxHeartbeats 1000000 in
theorem check_v (m : MF) (A : Option Addr) (c : Nat) (w : World) (hM : MIn m A c w) (hr : m.r.size ≤ maxLen) :
    Calls Tryz.prog 29 #[.agg #[.int .i64 m.v, .int .i64 m.n, .int .i64 m.e, .slice A m.sh.length c, .int .i64 m.b, .string m.r]] w fun e w' => e = .returned (chkV m) ∧ Below w.heap.size w w' := by
  have hr2 : m.r.size ≤ 9223372036854775807 := hr;refine Kn.Z.cl Tryz.func29 rfl Tryz.ntmps29 rfl (.c 0 rfl .n) ?_;refine Kn.Z.f fun K1 hK1=>?_;refine Kn.Z.s .o (.box (.t rfl)) fun Ko Kp=>?_;go_simp;(try go_bits);refine Kp _ _ ?_;clear Kp Ko;refine Kn.Z.u (.a .c .n) ?_;refine Kn.Z.e hK1 ?_;clear hK1 K1;refine Kn.Z.g (fun u => KM w m A c w.heap.size u) ⟨St.St.new _ _ _, hM.on ((Below.refl _ w).alloc (Nat.le_refl _) _), (Below.refl _ w).alloc (Nat.le_refl _) _⟩ fun u hu => ?_;obtain ⟨g, hg⟩ : ∃ g, w.heap.size = g := ⟨_, rfl⟩;intro fa fh;rw [hg] at hu fh;have HU := Lib.hid hu;have hfew := hM.few;have hS0 := hu.st;clear hg hM hu;obtain ⟨v0, hv0⟩ : ∃ x, m.v = x := ⟨_, rfl⟩;obtain ⟨n0, hn0⟩ : ∃ x, m.n = x := ⟨_, rfl⟩;obtain ⟨e0, he0⟩ : ∃ x, m.e = x := ⟨_, rfl⟩;obtain ⟨b0, hb0⟩ : ∃ x, m.b = x := ⟨_, rfl⟩;have k0 := hS0.cell 0 rfl;have k1 := hS0.cell 1 rfl;have k2 := hS0.cell 2 rfl;have k3 := hS0.cell 3 rfl;rw [hv0] at k0;rw [hn0] at k1;rw [he0] at k2;have HV0 := Lib.hid hv0;have HN := Lib.hid hn0;have HBB := Lib.hid hb0;have HW0 : Hid (wrM m = (if v0 < 1 ∨ 1099511627776 < v0 then 0 else if n0 < 0 ∨ 4096 < n0 then 1 else if e0 < 0 ∨ 20000 < e0 then 2 else if badC m then 3 else if wrS m.sh m.n m.sh.length 0 ≠ -1 then wrS m.sh m.n m.sh.length 0 else if m.b ≠ blkI m ∨ 2048 < blkI m then 4 + 2 * (m.sh.length : Int) else if m.r.size ≠ 32 then 5 + 2 * (m.sh.length : Int) else -1)) := Lib.hid (by rw [wrM, hv0, hn0, he0]);clear hv0 hn0 he0 hb0 hS0
  revert fa
  refine Kn.Z.q fun K2 hK2=>?_;refine Kn.Z.b ?_
  by_cases q1 : ¬ (1 ≤ v0 ∧ v0 ≤ 1099511627776)
  · refine Kn.Z.f fun K3 hK3=>?_;refine Kn.Z.s .o (.fieldAddr (.t rfl)) fun Ko Kp=>?_;go_simp;(try go_bits);refine Kp _ _ ?_;clear Kp Ko;refine Kn.Z.s .o (.load (.t rfl)) fun Ko Kp=>?_;go_simp;(try go_bits);refine Kp _ _ ?_;clear Kp Ko;refine Kn.Z.c .o (.call (.c .c (.c .c (.c (.t rfl) .n)))) Tryz.call31 (isFrom_no 1 1099511627776 v0 u q1) fun e ux hp=>?_;obtain ⟨rfl, rfl⟩ := hp;refine ⟨_,rfl,?_⟩;refine Kn.Z.s .o (.un (.t rfl)) fun Ko Kp=>?_;go_simp;(try go_bits);refine Kp _ _ ?_;clear Kp Ko;refine Kn.Z.u (.a (.t rfl) .n) ?_;refine Kn.Z.e hK3 ?_;clear hK3 K3;refine Kn.Z.y (.t rfl) ?_;refine Kn.Z.f fun K4 hK4=>?_;refine Kn.Z.c .o (.call (.c .c .n)) Tryz.call55 (wrong_v 0 u) fun e ux hp=>?_;obtain ⟨rfl, rfl⟩ := hp;refine ⟨_,rfl,?_⟩;refine Kn.Z.u (.a (.t rfl) .n) ?_;refine Kn.Z.e hK4 ?_;clear hK4 K4;intro fb fg;refine wp_ret ?_;refine Kn.block_ret ?_;refine Kn.then_ret ?_;exact Kn.ret1 fg rfl rfl ⟨by rw [chkV_bad (k := _) (HW0.out.trans (if_pos (by omega))) (by omega)], HU.out.bl⟩
  have qv0 : 1 ≤ v0 ∧ v0 ≤ 1099511627776 := by omega
  clear q1;refine Kn.Z.f fun K3 hK3=>?_;refine Kn.Z.s .o (.fieldAddr (.t rfl)) fun Ko Kp=>?_;go_simp;(try go_bits);refine Kp _ _ ?_;clear Kp Ko;refine Kn.Z.s .o (.load (.t rfl)) fun Ko Kp=>?_;go_simp;(try go_bits);refine Kp _ _ ?_;clear Kp Ko;refine Kn.Z.c .o (.call (.c .c (.c .c (.c (.t rfl) .n)))) Tryz.call31 (isFrom_yes 1 1099511627776 v0 u qv0) fun e ux hp=>?_;obtain ⟨rfl, rfl⟩ := hp;refine ⟨_,rfl,?_⟩;refine Kn.Z.s .o (.un (.t rfl)) fun Ko Kp=>?_;go_simp;(try go_bits);refine Kp _ _ ?_;clear Kp Ko;refine Kn.Z.u (.a (.t rfl) .n) ?_;refine Kn.Z.e hK3 ?_;clear hK3 K3;refine Kn.Z.no (.t rfl) ?_;have HW1 := Lib.hid (HW0.out.trans (if_neg (by omega)));clear HW0
  by_cases q1 : ¬ (0 ≤ n0 ∧ n0 ≤ 4096)
  · refine Kn.Z.f fun K4 hK4=>?_;refine Kn.Z.s .o (.fieldAddr (.t rfl)) fun Ko Kp=>?_;go_simp;(try go_bits);refine Kp _ _ ?_;clear Kp Ko;refine Kn.Z.s .o (.load (.t rfl)) fun Ko Kp=>?_;go_simp;(try go_bits);refine Kp _ _ ?_;clear Kp Ko;refine Kn.Z.c .o (.call (.c .c (.c .c (.c (.t rfl) .n)))) Tryz.call31 (isFrom_no 0 4096 n0 u q1) fun e ux hp=>?_;obtain ⟨rfl, rfl⟩ := hp;refine ⟨_,rfl,?_⟩;refine Kn.Z.s .o (.un (.t rfl)) fun Ko Kp=>?_;go_simp;(try go_bits);refine Kp _ _ ?_;clear Kp Ko;refine Kn.Z.u (.a (.t rfl) .n) ?_;refine Kn.Z.e hK4 ?_;clear hK4 K4;refine Kn.Z.t (.c 13 rfl (.c 2 rfl (.c 1 rfl .n))) ?_;refine Kn.Z.y (.t rfl) ?_;refine Kn.Z.f fun K5 hK5=>?_;refine Kn.Z.c .o (.call (.c .c .n)) Tryz.call55 (wrong_v 1 u) fun e ux hp=>?_;obtain ⟨rfl, rfl⟩ := hp;refine ⟨_,rfl,?_⟩;refine Kn.Z.u (.a (.t rfl) .n) ?_;refine Kn.Z.e hK5 ?_;clear hK5 K5;intro fa fh;refine wp_ret ?_;refine Kn.block_ret ?_;refine Kn.then_ret ?_;exact Kn.ret1 fh rfl rfl ⟨by rw [chkV_bad (k := _) (HW1.out.trans (if_pos (by omega))) (by omega)], HU.out.bl⟩
  have qn0 : 0 ≤ n0 ∧ n0 ≤ 4096 := by omega
  clear q1;refine Kn.Z.f fun K4 hK4=>?_;refine Kn.Z.s .o (.fieldAddr (.t rfl)) fun Ko Kp=>?_;go_simp;(try go_bits);refine Kp _ _ ?_;clear Kp Ko;refine Kn.Z.s .o (.load (.t rfl)) fun Ko Kp=>?_;go_simp;(try go_bits);refine Kp _ _ ?_;clear Kp Ko;refine Kn.Z.c .o (.call (.c .c (.c .c (.c (.t rfl) .n)))) Tryz.call31 (isFrom_yes 0 4096 n0 u qn0) fun e ux hp=>?_;obtain ⟨rfl, rfl⟩ := hp;refine ⟨_,rfl,?_⟩;refine Kn.Z.s .o (.un (.t rfl)) fun Ko Kp=>?_;go_simp;(try go_bits);refine Kp _ _ ?_;clear Kp Ko;refine Kn.Z.u (.a (.t rfl) .n) ?_;refine Kn.Z.e hK4 ?_;clear hK4 K4;refine Kn.Z.t (.c 13 rfl (.c 2 rfl (.c 1 rfl .n))) ?_;refine Kn.Z.no (.t rfl) ?_;have HW2 := Lib.hid (HW1.out.trans (if_neg (by omega)));clear HW1
  by_cases q1 : ¬ (0 ≤ e0 ∧ e0 ≤ 20000)
  · refine Kn.Z.f fun K5 hK5=>?_;refine Kn.Z.s .o (.fieldAddr (.t rfl)) fun Ko Kp=>?_;go_simp;(try go_bits);refine Kp _ _ ?_;clear Kp Ko;refine Kn.Z.s .o (.load (.t rfl)) fun Ko Kp=>?_;go_simp;(try go_bits);refine Kp _ _ ?_;clear Kp Ko;refine Kn.Z.c .o (.call (.c .c (.c .c (.c (.t rfl) .n)))) Tryz.call31 (isFrom_no 0 20000 e0 u q1) fun e ux hp=>?_;obtain ⟨rfl, rfl⟩ := hp;refine ⟨_,rfl,?_⟩;refine Kn.Z.s .o (.un (.t rfl)) fun Ko Kp=>?_;go_simp;(try go_bits);refine Kp _ _ ?_;clear Kp Ko;refine Kn.Z.u (.a (.t rfl) .n) ?_;refine Kn.Z.e hK5 ?_;clear hK5 K5;refine Kn.Z.y (.t rfl) ?_;refine Kn.Z.f fun K6 hK6=>?_;refine Kn.Z.c .o (.call (.c .c .n)) Tryz.call55 (wrong_v 2 u) fun e ux hp=>?_;obtain ⟨rfl, rfl⟩ := hp;refine ⟨_,rfl,?_⟩;refine Kn.Z.u (.a (.t rfl) .n) ?_;refine Kn.Z.e hK6 ?_;clear hK6 K6;intro fb fg;refine wp_ret ?_;refine Kn.block_ret ?_;refine Kn.then_ret ?_;exact Kn.ret1 fg rfl rfl ⟨by rw [chkV_bad (k := _) (HW2.out.trans (if_pos (by omega))) (by omega)], HU.out.bl⟩
  have qe0 : 0 ≤ e0 ∧ e0 ≤ 20000 := by omega
  clear q1;refine Kn.Z.f fun K5 hK5=>?_;refine Kn.Z.s .o (.fieldAddr (.t rfl)) fun Ko Kp=>?_;go_simp;(try go_bits);refine Kp _ _ ?_;clear Kp Ko;refine Kn.Z.s .o (.load (.t rfl)) fun Ko Kp=>?_;go_simp;(try go_bits);refine Kp _ _ ?_;clear Kp Ko;refine Kn.Z.c .o (.call (.c .c (.c .c (.c (.t rfl) .n)))) Tryz.call31 (isFrom_yes 0 20000 e0 u qe0) fun e ux hp=>?_;obtain ⟨rfl, rfl⟩ := hp;refine ⟨_,rfl,?_⟩;refine Kn.Z.s .o (.un (.t rfl)) fun Ko Kp=>?_;go_simp;(try go_bits);refine Kp _ _ ?_;clear Kp Ko;refine Kn.Z.u (.a (.t rfl) .n) ?_;refine Kn.Z.e hK5 ?_;clear hK5 K5;refine Kn.Z.no (.t rfl) ?_;have HW3 := Lib.hid (HW2.out.trans (if_neg (by omega)));clear HW2;have HL : Hid (badC m ↔ (64 < m.sh.length ∨ (m.sh.length = 0 ∧ 0 < n0) ∨ (0 < m.sh.length ∧ n0 = 0))) := Lib.hid (by unfold badC; rw [HN.out]);obtain ⟨L, hLL⟩ : ∃ L, m.sh.length = L := ⟨_, rfl⟩;rw [hLL] at k3 hfew;have HLL := Lib.hid hLL;clear hLL k0 k2
  by_cases q1 : (64 : Int) < (L : Int)
  · refine Kn.Z.q fun K6 hK6=>?_;refine Kn.Z.f fun K7 hK7=>?_;refine Kn.Z.s .o (.fieldAddr (.t rfl)) fun Ko Kp=>?_;go_simp;(try go_bits);refine Kp _ _ ?_;clear Kp Ko;refine Kn.Z.s .o (.load (.t rfl)) fun Ko Kp=>?_;go_simp;(try go_bits);refine Kp _ _ ?_;clear Kp Ko;refine Kn.Z.s .o (.len (.t rfl)) fun Ko Kp=>?_;go_simp;(try go_bits);refine Kp _ _ ?_;clear Kp Ko;refine Kn.Z.s .o (.bin (.t rfl) .c) fun Ko Kp=>?_;go_simp;(try go_bits);refine Kp _ _ ?_;clear Kp Ko;refine Kn.Z.u (.a (.t rfl) .n) ?_;refine Kn.Z.e hK7 ?_;clear hK7 K7;refine Kn.Z.t (.c 25 rfl (.c 2 rfl (.c 1 rfl .n))) ?_;refine Kn.Z.y (.t rfl) ?_;refine Kn.Z.j hK6 ?_;clear hK6 K6;refine Kn.Z.y (.t rfl) ?_;refine Kn.Z.f fun K8 hK8=>?_;refine Kn.Z.c .o (.call (.c .c .n)) Tryz.call55 (wrong_v 3 u) fun e ux hp=>?_;obtain ⟨rfl, rfl⟩ := hp;refine ⟨_,rfl,?_⟩;refine Kn.Z.u (.a (.t rfl) .n) ?_;refine Kn.Z.e hK8 ?_;clear hK8 K8;intro fa fh;refine wp_ret ?_;refine Kn.block_ret ?_;refine Kn.then_ret ?_;exact Kn.ret1 fh rfl rfl ⟨by rw [chkV_bad (k := _) (HW3.out.trans (if_pos (HL.out.2 (.inl (by rw [HLL.out]; omega))))) (by omega)], HU.out.bl⟩
  refine Kn.Z.q fun K6 hK6=>?_;refine Kn.Z.f fun K7 hK7=>?_;refine Kn.Z.s .o (.fieldAddr (.t rfl)) fun Ko Kp=>?_;go_simp;(try go_bits);refine Kp _ _ ?_;clear Kp Ko;refine Kn.Z.s .o (.load (.t rfl)) fun Ko Kp=>?_;go_simp;(try go_bits);refine Kp _ _ ?_;clear Kp Ko;refine Kn.Z.s .o (.len (.t rfl)) fun Ko Kp=>?_;go_simp;(try go_bits);refine Kp _ _ ?_;clear Kp Ko;refine Kn.Z.s .o (.bin (.t rfl) .c) fun Ko Kp=>?_;go_simp;(try go_bits);refine Kp _ _ ?_;clear Kp Ko;refine Kn.Z.u (.a (.t rfl) .n) ?_;refine Kn.Z.e hK7 ?_;clear hK7 K7;refine Kn.Z.t (.c 25 rfl (.c 2 rfl (.c 1 rfl .n))) ?_;refine Kn.Z.no (.t rfl) ?_;obtain ⟨p, hp⟩ : ∃ p, ((L : Int) == 0) = p := ⟨_, rfl⟩;have hp2 : (L == 0) = p := by rw [← hp, Bool.eq_iff_iff, beq_iff_eq, beq_iff_eq]; omega
  have hp3 : p = true ↔ L = 0 := by rw [← hp2, beq_iff_eq]
  obtain ⟨q, hq⟩ : ∃ q, (n0 == 0) = q := ⟨_, rfl⟩;have hq3 : q = true ↔ n0 = 0 := by rw [← hq, beq_iff_eq]
  have HP3 := Lib.hid hp3;have HQ3 := Lib.hid hq3;clear hp3 hq3
  by_cases hpq : (p != q) = true
  · have hpq4 : (p == q) = false := by cases p <;> cases q <;> first | rfl | cases hpq
    refine Kn.Z.r ?_;refine Kn.Z.s .o (.fieldAddr (.t rfl)) fun Ko Kp=>?_;go_simp;(try go_bits);refine Kp _ _ ?_;clear Kp Ko;refine Kn.Z.s .o (.load (.t rfl)) fun Ko Kp=>?_;go_simp;(try go_bits);refine Kp _ _ ?_;clear Kp Ko;refine Kn.Z.s .o (.len (.t rfl)) fun Ko Kp=>?_;go_simp;(try go_bits);refine Kp _ _ ?_;clear Kp Ko;refine Kn.Z.s .o (.bin (.t rfl) .c) fun Ko Kp=>?_;go_simp;(try go_bits);refine Kp _ _ ?_;clear Kp Ko;refine Kn.Z.s .o (.fieldAddr (.t rfl)) fun Ko Kp=>?_;go_simp;(try go_bits);refine Kp _ _ ?_;clear Kp Ko;refine Kn.Z.s .o (.load (.t rfl)) fun Ko Kp=>?_;go_simp;(try go_bits);refine Kp _ _ ?_;clear Kp Ko;refine Kn.Z.s .o (.bin (.t rfl) .c) fun Ko Kp=>?_;go_simp;(try go_bits);refine Kp _ _ ?_;clear Kp Ko;refine Kn.Z.s .o (.bin (.t rfl) (.t rfl)) fun Ko Kp=>?_;go_simp;(try go_bits);refine Kp _ _ ?_;clear Kp Ko;refine Kn.Z.u (.a (.t rfl) .n) ?_;refine Kn.Z.e hK6 ?_;clear hK6 K6;refine Kn.Z.y (.t rfl) ?_;refine Kn.Z.t (.c 2 rfl (.c 1 rfl .n)) ?_;refine Kn.Z.f fun K8 hK8=>?_;refine Kn.Z.c .o (.call (.c .c .n)) Tryz.call55 (wrong_v 3 u) fun e ux hp=>?_;obtain ⟨rfl, rfl⟩ := hp;refine ⟨_,rfl,?_⟩;refine Kn.Z.u (.a (.t rfl) .n) ?_;refine Kn.Z.e hK8 ?_;clear hK8 K8;intro fb fg;refine wp_ret ?_;refine Kn.block_ret ?_;refine Kn.then_ret ?_
    have hbad : badC m := HL.out.2 (by
      rw [HLL.out];have h1 := HP3.out;have h2 := HQ3.out
      by_cases z1 : L = 0 <;> by_cases z2 : n0 = 0
      · rw [h1.2 z1, h2.2 z2] at hpq; cases hpq
      · exact .inr (.inl ⟨z1, by omega⟩)
      · exact .inr (.inr ⟨by omega, z2⟩)
      · have e1 : p = false := Bool.eq_false_iff.2 fun h => z1 (h1.1 h);have e2 : q = false := Bool.eq_false_iff.2 fun h => z2 (h2.1 h)
        rw [e1, e2] at hpq; cases hpq)
    exact Kn.ret1 fg rfl rfl ⟨by rw [chkV_bad (k := _) (HW3.out.trans (if_pos hbad)) (by omega)], HU.out.bl⟩
  have hpq2 : (p != q) = false := Bool.eq_false_iff.2 hpq;have hpq4 : (p == q) = true := by cases p <;> cases q <;> first | rfl | cases hpq2
  clear hpq;refine Kn.Z.r ?_;refine Kn.Z.s .o (.fieldAddr (.t rfl)) fun Ko Kp=>?_;go_simp;(try go_bits);refine Kp _ _ ?_;clear Kp Ko;refine Kn.Z.s .o (.load (.t rfl)) fun Ko Kp=>?_;go_simp;(try go_bits);refine Kp _ _ ?_;clear Kp Ko;refine Kn.Z.s .o (.len (.t rfl)) fun Ko Kp=>?_;go_simp;(try go_bits);refine Kp _ _ ?_;clear Kp Ko;refine Kn.Z.s .o (.bin (.t rfl) .c) fun Ko Kp=>?_;go_simp;(try go_bits);refine Kp _ _ ?_;clear Kp Ko;refine Kn.Z.s .o (.fieldAddr (.t rfl)) fun Ko Kp=>?_;go_simp;(try go_bits);refine Kp _ _ ?_;clear Kp Ko;refine Kn.Z.s .o (.load (.t rfl)) fun Ko Kp=>?_;go_simp;(try go_bits);refine Kp _ _ ?_;clear Kp Ko;refine Kn.Z.s .o (.bin (.t rfl) .c) fun Ko Kp=>?_;go_simp;(try go_bits);refine Kp _ _ ?_;clear Kp Ko;refine Kn.Z.s .o (.bin (.t rfl) (.t rfl)) fun Ko Kp=>?_;go_simp;(try go_bits);refine Kp _ _ ?_;clear Kp Ko;refine Kn.Z.u (.a (.t rfl) .n) ?_;refine Kn.Z.e hK6 ?_;clear hK6 K6;refine Kn.Z.no (.t rfl) ?_;intro fb fg;refine wp_skip ?_;refine Kn.block_normal ?_;refine hK2 _ _ ?_;clear hK2 K2
  revert fb
  refine Kn.Z.t (.c 2 rfl (.c 1 rfl .n)) ?_
  have hLn : L = 0 ↔ n0 = 0 := by
    have e : p = q := by cases p <;> cases q <;> first | rfl | cases hpq2
    rw [← HP3.out, ← HQ3.out, e]
  have hc : ¬ badC m := fun h => by have := HL.out.1 h; have := HLL.out; omega
  have HLN := Lib.hid hLn;have HW4 := Lib.hid (HW3.out.trans (if_neg hc));clear HW3 hc HL hp hp2 hq hpq2 hpq4 HP3 HQ3 hLn;obtain ⟨sh0, hsh⟩ : ∃ s, m.sh = s := ⟨_, rfl⟩;have HL0 : Hid (sh0.length = L) := Lib.hid (by rw [← hsh]; exact HLL.out);have HSH := Lib.hid hsh;clear hsh;replace HW4 : Hid (wrM m = (if wrS sh0 n0 L 0 ≠ -1 then wrS sh0 n0 L 0 else if m.b ≠ blkI m ∨ 2048 < blkI m then 4 + 2 * (m.sh.length : Int) else if m.r.size ≠ 32 then 5 + 2 * (m.sh.length : Int) else -1)) := Lib.hid (by rw [HW4.out, HLL.out, HN.out, HSH.out]);refine Kn.Z.f fun K8 hK8=>?_;refine Kn.Z.u (.a .c .n) ?_;refine Kn.Z.e hK8 ?_;clear hK8 K8;refine Kn.Z.q fun K9 hK9=>?_;refine Kn.Z.f fun K10 hK10=>?_;refine Kn.Z.s .o (.fieldAddr (.t rfl)) fun Ko Kp=>?_;go_simp;(try go_bits);refine Kp _ _ ?_;clear Kp Ko;refine Kn.Z.s .o (.load (.t rfl)) fun Ko Kp=>?_;go_simp;(try go_bits);refine Kp _ _ ?_;clear Kp Ko;refine Kn.Z.s .o (.len (.t rfl)) fun Ko Kp=>?_;go_simp;(try go_bits);refine Kp _ _ ?_;clear Kp Ko;refine Kn.Z.u (.m .c .n) ?_;refine Kn.Z.e hK10 ?_;clear hK10 K10;clear k1 k3;refine Kn.Z.b ?_;intro fa fh;refine Kn.loop (fun mm fr v => ∃ (l : Int) (j : Nat), Kn.Kn 106 [(1, .pointer (some ⟨g, 0, none⟩)), (3, .int .i64 l), (40, .slice A L c), (41, .int .i64 (L : Int)), (42, .int .i64 (j : Int))] fr ∧ Hid (j + mm = L ∧ wrS sh0 n0 L 0 = wrS sh0 n0 (L - j) j ∧ l = lst sh0 j ∧ 0 ≤ l) ∧ Hid (KM w m A c g v)) L ⟨0, 0, fh.cut (.c 1 rfl (.u 3 rfl rfl (.c 40 rfl (.c 41 rfl (.u 42 rfl (by go_num) .n))))), Lib.hid ⟨by omega, rfl, rfl, Int.le_refl _⟩, HU⟩ ?_;clear fh fa;intro m11 fb v hI Kl11 hKl11;obtain ⟨l, j, fg, hj, HV⟩ := hI;have hjle : j ≤ L := by have := hj.out.1; omega
  have hl0 := hj.out.2.2.2
  by_cases hlt : j < L
  · have hlti : (j : Int) < (L : Int) := by omega
    have hL0 : ¬ L = 0 := by omega
    have hn1 : 1 ≤ n0 := by have := HLN.out; omega
    clear hL0;obtain ⟨ba, oa, hAe, -, cf, cb⟩ := ipc (show RIn ipR v A sh0 by rw [← HSH.out]; exact HV.out.mi.row) (show j < sh0.length by have := HL0.out; omega);subst hAe;obtain ⟨f, hf⟩ : ∃ x, fst sh0 j = x := ⟨_, rfl⟩;obtain ⟨y, hy⟩ : ∃ x, byt sh0 j = x := ⟨_, rfl⟩;rw [hf] at cf;rw [hy] at cb;have HF := Lib.hid hf;have HY := Lib.hid hy;have HLP := Lib.hid (ld_sh cf cb);clear hf hy cf cb
    revert fb
    refine Kn.Z.f fun K12 hK12=>?_;refine Kn.Z.s .o (.bin (.t rfl) (.t rfl)) fun Ko Kp=>?_;go_simp;(try go_bits);refine Kp _ _ ?_;clear Kp Ko;refine Kn.Z.e hK12 ?_;clear hK12 K12;refine Kn.Z.q fun K13 hK13=>?_;refine Kn.Z.y (.t rfl) ?_;refine Kn.Z.j hK13 ?_;clear hK13 K13;refine Kn.Z.t (.c 1 rfl (.c 3 rfl (.c 40 rfl (.c 41 rfl (.c 42 rfl .n))))) ?_;refine Kn.Z.q fun K14 hK14=>?_;refine Kn.Z.b ?_;obtain ⟨hst, hSn, hBn⟩ := (St.St.new v 52 #[.int .i64 0, .int .i64 0]).store (P := Tryz.prog) (cells := #[.int .i64 f, .int .i64 y]) (by kernel_rfl) rfl (by simp [Value.oneCell']);refine Kn.Z.f fun K15 hK15=>?_;refine Kn.Z.u (.m (.t rfl) .n) ?_;refine Kn.Z.s .o (.indexAddr (.t rfl) (.t rfl)) fun Ko Kp=>?_;go_simp;(try go_bits);refine Kp _ _ ?_;clear Kp Ko;refine Kn.Z.k .o (.load (.t rfl)) HLP.out ?_;refine Kn.Z.s .o .alloc fun Ko Kp=>?_;go_simp;(try go_bits);refine Kp _ _ ?_;clear Kp Ko;refine Kn.Z.u (.a (.t rfl) .n) ?_;refine Kn.Z.su .o (.store (.t rfl) (.t rfl)) fun Ko Kp=>?_;refine Kn.satU_runA hst ?_;refine Kp _ ?_;clear Kp Ko;refine Kn.Z.e hK15 ?_;clear hK15 K15;have hbv := ((Below.refl _ v).alloc (Nat.le_refl _) (.cells #[.int .i64 0, .int .i64 0] 52)).trans (hBn _ (Nat.le_refl _));refine Kn.Z.g (fun u => St.St u v.heap.size 52 #[.int .i64 f, .int .i64 y] ∧ KM w m (some ⟨ba, oa, none⟩) c g u) ⟨hSn, HV.out.on hbv⟩ fun v1 hv1 => ?_;clear hst hSn hBn hbv HLP;obtain ⟨hS9, hK9⟩ := hv1;obtain ⟨g9, hg9⟩ : ∃ q, v.heap.size = q := ⟨_, rfl⟩;intro fb fg;rw [hg9] at fg hS9;have d0 := hS9.cell 0 rfl;have d1 := hS9.cell 1 rfl;have HK9 := Lib.hid hK9;clear hg9 hK9 hS9;have k1 := HK9.out.st.cell 1 rfl;rw [HN.out] at k1
    by_cases q1 : ¬ (l ≤ f ∧ f ≤ n0 - 1)
    · revert fb
      refine Kn.Z.q fun K16 hK16=>?_;refine Kn.Z.f fun K17 hK17=>?_;refine Kn.Z.u (.m (.t rfl) .n) ?_;refine Kn.Z.s .o (.fieldAddr (.t rfl)) fun Ko Kp=>?_;go_simp;(try go_bits);refine Kp _ _ ?_;clear Kp Ko;refine Kn.Z.s .o (.load (.t rfl)) fun Ko Kp=>?_;go_simp;(try go_bits);refine Kp _ _ ?_;clear Kp Ko;refine Kn.Z.s .o (.bin (.t rfl) .c) fun Ko Kp=>?_;go_simp;(try go_bits);refine Kp _ _ ?_;clear Kp Ko;refine Kn.Z.s .o (.fieldAddr (.t rfl)) fun Ko Kp=>?_;go_simp;(try go_bits);refine Kp _ _ ?_;clear Kp Ko;refine Kn.Z.s .o (.load (.t rfl)) fun Ko Kp=>?_;go_simp;(try go_bits);refine Kp _ _ ?_;clear Kp Ko;refine Kn.Z.c .o (.call (.c (.t rfl) (.c (.t rfl) (.c (.t rfl) .n)))) Tryz.call31 (isFrom_no l (n0 - 1) f v1 q1) fun e ux hp=>?_;obtain ⟨rfl, rfl⟩ := hp;refine ⟨_,rfl,?_⟩;refine Kn.Z.s .o (.un (.t rfl)) fun Ko Kp=>?_;go_simp;(try go_bits);refine Kp _ _ ?_;clear Kp Ko;refine Kn.Z.u (.m (.t rfl) (.k (.s rfl rfl rfl) (.k (.s rfl rfl rfl) (.k (.s rfl rfl rfl) (.k (.gone rfl rfl) (.k (.gone rfl rfl) (.k (.gone rfl rfl) (.k (.s rfl rfl rfl) (.e .o (.pick (.t rfl) .c) .n))))))))) ?_;refine Kn.Z.e hK17 ?_;clear hK17 K17;refine Kn.Z.t (.c 63 rfl (.c 4 rfl (.c 5 rfl (.c 1 rfl (.c 3 rfl (.c 40 rfl (.c 41 rfl (.c 42 rfl .n)))))))) ?_;refine Kn.Z.y (.t rfl) ?_;refine Kn.Z.f fun K18 hK18=>?_;refine Kn.Z.u (.m (.t rfl) .n) ?_;refine Kn.Z.s .o (.bin .c (.t rfl)) fun Ko Kp=>?_;go_simp;(try go_bits);refine Kp _ _ ?_;clear Kp Ko;refine Kn.Z.s .o (.bin .c (.t rfl)) fun Ko Kp=>?_;go_simp;(try go_bits);refine Kp _ _ ?_;clear Kp Ko;refine Kn.Z.c .o (.call (.c (.t rfl) .n)) Tryz.call55 (wrong_v (4 + 2 * (j : Int)) v1) fun e ux hp=>?_;obtain ⟨rfl, rfl⟩ := hp;refine ⟨_,rfl,?_⟩;refine Kn.Z.u (.a (.t rfl) .n) ?_;refine Kn.Z.e hK18 ?_;clear hK18 K18;intro fb fg;refine wp_ret ?_;refine Kn.then_ret ?_;refine Kn.block_ret ?_;refine Kn.then_ret ?_;refine Kn.then_ret ?_;refine Kn.block_ret ?_;refine Kn.then_ret ?_
      have hbad : badF sh0 n0 j := by
        have q9 := hj.out.2.2.1;unfold badF;rw [HF.out];unfold lst at q9
        split at q9 <;> first | (rename_i z; exact .inl ⟨z, by omega⟩) | exact .inr ⟨by omega, by omega⟩
      have e9 := hj.out.2.1.trans (wrS_f hlt hbad);exact Kn.ret1 fg rfl rfl ⟨by rw [chkV_bad (k := _) (HW4.out.trans ((if_pos (by rw [e9]; omega)).trans e9)) (by omega)], HK9.out.bl⟩
    have qf : l ≤ f ∧ f ≤ n0 - 1 := by omega
    clear q1
    by_cases z : j = 0
    · have e0 : ((j : Int) == 0) = true := by rw [z]; rfl
      have e0n : (j == 0) = true := by rw [z]; rfl
      have HZ := Lib.hid z;clear z
      by_cases fz : f = 0
      · have e2 : (f != 0) = false := by rw [fz]; rfl
        have HFZ := Lib.hid fz;clear fz
        revert fb
        refine Kn.Z.q fun K16 hK16=>?_;refine Kn.Z.f fun K17 hK17=>?_;refine Kn.Z.u (.m (.t rfl) .n) ?_;refine Kn.Z.s .o (.fieldAddr (.t rfl)) fun Ko Kp=>?_;go_simp;(try go_bits);refine Kp _ _ ?_;clear Kp Ko;refine Kn.Z.s .o (.load (.t rfl)) fun Ko Kp=>?_;go_simp;(try go_bits);refine Kp _ _ ?_;clear Kp Ko;refine Kn.Z.s .o (.bin (.t rfl) .c) fun Ko Kp=>?_;go_simp;(try go_bits);refine Kp _ _ ?_;clear Kp Ko;refine Kn.Z.s .o (.fieldAddr (.t rfl)) fun Ko Kp=>?_;go_simp;(try go_bits);refine Kp _ _ ?_;clear Kp Ko;refine Kn.Z.s .o (.load (.t rfl)) fun Ko Kp=>?_;go_simp;(try go_bits);refine Kp _ _ ?_;clear Kp Ko;refine Kn.Z.c .o (.call (.c (.t rfl) (.c (.t rfl) (.c (.t rfl) .n)))) Tryz.call31 (isFrom_yes l (n0 - 1) f v1 qf) fun e ux hp=>?_;obtain ⟨rfl, rfl⟩ := hp;refine ⟨_,rfl,?_⟩;refine Kn.Z.s .o (.un (.t rfl)) fun Ko Kp=>?_;go_simp;(try go_bits);refine Kp _ _ ?_;clear Kp Ko;refine Kn.Z.u (.m (.t rfl) (.e (.s rfl rfl rfl) (.move (.t rfl)) .n)) ?_;refine Kn.Z.s (.s rfl rfl rfl) (.bin (.t rfl) .c) fun Ko Kp=>?_;go_simp;(try go_bits);refine Kp _ _ ?_;clear Kp Ko;refine Kn.Z.u (.e (.s rfl rfl rfl) (.move (.t rfl)) .n) ?_;refine Kn.Z.s (.s rfl rfl rfl) (.fieldAddr (.t rfl)) fun Ko Kp=>?_;go_simp;(try go_bits);refine Kp _ _ ?_;clear Kp Ko;refine Kn.Z.s (.s rfl rfl rfl) (.load (.t rfl)) fun Ko Kp=>?_;go_simp;(try go_bits);refine Kp _ _ ?_;clear Kp Ko;refine Kn.Z.s (.s rfl rfl rfl) (.bin (.t rfl) .c) fun Ko Kp=>?_;go_simp;(try go_bits);refine Kp _ _ ?_;clear Kp Ko;refine Kn.Z.u (.e (.s rfl rfl rfl) (.pick (.t rfl) (.t rfl)) (.e .o (.pick (.t rfl) (.t rfl)) .n)) ?_;refine Kn.Z.e hK17 ?_;clear hK17 K17;refine Kn.Z.t (.c 63 rfl (.c 4 rfl (.c 5 rfl (.c 1 rfl (.c 3 rfl (.c 40 rfl (.c 41 rfl (.c 42 rfl .n)))))))) ?_;refine Kn.Z.no (.t rfl) ?_;refine Kn.Z.j hK16 ?_;clear hK16 K16;have hnb : ¬ badF sh0 n0 j := by unfold badF; rw [HF.out]; have := HFZ.out; have := HZ.out; omega
        have HNB := Lib.hid hnb;clear hnb k1
        by_cases p1 : ¬ (3 ≤ y ∧ y ≤ 1048576)
        · refine Kn.Z.q fun K18 hK18=>?_;refine Kn.Z.f fun K19 hK19=>?_;refine Kn.Z.s .o (.fieldAddr (.t rfl)) fun Ko Kp=>?_;go_simp;(try go_bits);refine Kp _ _ ?_;clear Kp Ko;refine Kn.Z.s .o (.load (.t rfl)) fun Ko Kp=>?_;go_simp;(try go_bits);refine Kp _ _ ?_;clear Kp Ko;refine Kn.Z.c .o (.call (.c .c (.c .c (.c (.t rfl) .n)))) Tryz.call31 (isFrom_no 3 1048576 y v1 p1) fun e ux hp=>?_;obtain ⟨rfl, rfl⟩ := hp;refine ⟨_,rfl,?_⟩;refine Kn.Z.s .o (.un (.t rfl)) fun Ko Kp=>?_;go_simp;(try go_bits);refine Kp _ _ ?_;clear Kp Ko;refine Kn.Z.e hK19 ?_;clear hK19 K19;refine Kn.Z.y (.t rfl) ?_;refine Kn.Z.f fun K20 hK20=>?_;refine Kn.Z.u (.m (.t rfl) .n) ?_;refine Kn.Z.s .o (.bin .c (.t rfl)) fun Ko Kp=>?_;go_simp;(try go_bits);refine Kp _ _ ?_;clear Kp Ko;refine Kn.Z.s .o (.bin .c (.t rfl)) fun Ko Kp=>?_;go_simp;(try go_bits);refine Kp _ _ ?_;clear Kp Ko;refine Kn.Z.s .o (.bin (.t rfl) .c) fun Ko Kp=>?_;go_simp;(try go_bits);refine Kp _ _ ?_;clear Kp Ko;refine Kn.Z.c .o (.call (.c (.t rfl) .n)) Tryz.call55 (wrong_v (4 + 2 * (j : Int) + 1) v1) fun e ux hp=>?_;obtain ⟨rfl, rfl⟩ := hp;refine ⟨_,rfl,?_⟩;refine Kn.Z.u (.a (.t rfl) .n) ?_;refine Kn.Z.e hK20 ?_;clear hK20 K20;refine Kn.Z.t (.c 2 rfl (.c 5 rfl (.c 1 rfl (.c 3 rfl (.c 40 rfl (.c 41 rfl (.c 42 rfl .n))))))) ?_;intro fa fh;refine wp_ret ?_;refine Kn.then_ret ?_;refine Kn.block_ret ?_;refine Kn.then_ret ?_;refine Kn.then_ret ?_;refine Kn.block_ret ?_;refine Kn.then_ret ?_;have e9 := hj.out.2.1.trans (wrS_b hlt HNB.out (show badB sh0 j by unfold badB; rw [HY.out]; omega));exact Kn.ret1 fh rfl rfl ⟨by rw [chkV_bad (k := 4 + 2 * (j : Int) + 1) (HW4.out.trans ((if_pos (by rw [e9]; omega)).trans (e9.trans (by omega)))) (by omega)], HK9.out.bl⟩
        have qy : 3 ≤ y ∧ y ≤ 1048576 := by omega
        clear p1;refine Kn.Z.q fun K18 hK18=>?_;refine Kn.Z.f fun K19 hK19=>?_;refine Kn.Z.s .o (.fieldAddr (.t rfl)) fun Ko Kp=>?_;go_simp;(try go_bits);refine Kp _ _ ?_;clear Kp Ko;refine Kn.Z.s .o (.load (.t rfl)) fun Ko Kp=>?_;go_simp;(try go_bits);refine Kp _ _ ?_;clear Kp Ko;refine Kn.Z.c .o (.call (.c .c (.c .c (.c (.t rfl) .n)))) Tryz.call31 (isFrom_yes 3 1048576 y v1 qy) fun e ux hp=>?_;obtain ⟨rfl, rfl⟩ := hp;refine ⟨_,rfl,?_⟩;refine Kn.Z.s .o (.un (.t rfl)) fun Ko Kp=>?_;go_simp;(try go_bits);refine Kp _ _ ?_;clear Kp Ko;refine Kn.Z.e hK19 ?_;clear hK19 K19;refine Kn.Z.no (.t rfl) ?_;refine Kn.Z.j hK18 ?_;clear hK18 K18;have hnx := hj.out.2.1.trans (wrS_n hlt HNB.out (by unfold badB; rw [HY.out]; omega));have hj' := hj.out.1;refine Kn.Z.r ?_;refine Kn.Z.s .o (.fieldAddr (.t rfl)) fun Ko Kp=>?_;go_simp;(try go_bits);refine Kp _ _ ?_;clear Kp Ko;refine Kn.Z.s .o (.load (.t rfl)) fun Ko Kp=>?_;go_simp;(try go_bits);refine Kp _ _ ?_;clear Kp Ko;refine Kn.Z.s .o (.bin (.t rfl) .c) fun Ko Kp=>?_;go_simp;(try go_bits);refine Kp _ _ ?_;clear Kp Ko;refine Kn.Z.u (.a (.t rfl) .n) ?_;intro fa fh;refine wpList_nil ?_;refine Kn.block_normal ?_;refine hK14 _ _ ?_;clear hK14 K14
        revert fa
        refine Kn.Z.t (.c 3 rfl (.c 1 rfl (.c 40 rfl (.c 41 rfl (.c 42 rfl .n))))) ?_;refine Kn.Z.r ?_;refine Kn.Z.s .o (.bin (.t rfl) .c) fun Ko Kp=>?_;go_simp;(try go_bits);refine Kp _ _ ?_;clear Kp Ko;refine Kn.Z.u (.m (.t rfl) .n) ?_;intro fa fh;refine wpList_nil ?_;replace fh := fh.cut (.c 42 rfl (.c 3 rfl (.c 1 rfl (.c 40 rfl (.c 41 rfl .n)))));exact hKl11 (m11 - 1) _ _ (by omega) ⟨f + 1, j + 1, fh.cut (.c 1 rfl (.c 3 rfl (.c 40 rfl (.c 41 rfl (.u 42 rfl (by go_num) .n))))), Lib.hid ⟨by omega, hnx, by unfold lst; rw [if_neg (by omega), Nat.add_sub_cancel, HF.out], by omega⟩, HK9⟩
      have e2 : (f != 0) = true := by rw [bne_iff_ne]; exact fz
      revert fb
      refine Kn.Z.q fun K16 hK16=>?_;refine Kn.Z.f fun K17 hK17=>?_;refine Kn.Z.u (.m (.t rfl) .n) ?_;refine Kn.Z.s .o (.fieldAddr (.t rfl)) fun Ko Kp=>?_;go_simp;(try go_bits);refine Kp _ _ ?_;clear Kp Ko;refine Kn.Z.s .o (.load (.t rfl)) fun Ko Kp=>?_;go_simp;(try go_bits);refine Kp _ _ ?_;clear Kp Ko;refine Kn.Z.s .o (.bin (.t rfl) .c) fun Ko Kp=>?_;go_simp;(try go_bits);refine Kp _ _ ?_;clear Kp Ko;refine Kn.Z.s .o (.fieldAddr (.t rfl)) fun Ko Kp=>?_;go_simp;(try go_bits);refine Kp _ _ ?_;clear Kp Ko;refine Kn.Z.s .o (.load (.t rfl)) fun Ko Kp=>?_;go_simp;(try go_bits);refine Kp _ _ ?_;clear Kp Ko;refine Kn.Z.c .o (.call (.c (.t rfl) (.c (.t rfl) (.c (.t rfl) .n)))) Tryz.call31 (isFrom_yes l (n0 - 1) f v1 qf) fun e ux hp=>?_;obtain ⟨rfl, rfl⟩ := hp;refine ⟨_,rfl,?_⟩;refine Kn.Z.s .o (.un (.t rfl)) fun Ko Kp=>?_;go_simp;(try go_bits);refine Kp _ _ ?_;clear Kp Ko;refine Kn.Z.u (.m (.t rfl) (.e (.s rfl rfl rfl) (.move (.t rfl)) .n)) ?_;refine Kn.Z.s (.s rfl rfl rfl) (.bin (.t rfl) .c) fun Ko Kp=>?_;go_simp;(try go_bits);refine Kp _ _ ?_;clear Kp Ko;refine Kn.Z.u (.e (.s rfl rfl rfl) (.move (.t rfl)) .n) ?_;refine Kn.Z.s (.s rfl rfl rfl) (.fieldAddr (.t rfl)) fun Ko Kp=>?_;go_simp;(try go_bits);refine Kp _ _ ?_;clear Kp Ko;refine Kn.Z.s (.s rfl rfl rfl) (.load (.t rfl)) fun Ko Kp=>?_;go_simp;(try go_bits);refine Kp _ _ ?_;clear Kp Ko;refine Kn.Z.s (.s rfl rfl rfl) (.bin (.t rfl) .c) fun Ko Kp=>?_;go_simp;(try go_bits);refine Kp _ _ ?_;clear Kp Ko;refine Kn.Z.u (.e (.s rfl rfl rfl) (.pick (.t rfl) (.t rfl)) (.e .o (.pick (.t rfl) (.t rfl)) .n)) ?_;refine Kn.Z.e hK17 ?_;clear hK17 K17;refine Kn.Z.t (.c 63 rfl (.c 4 rfl (.c 5 rfl (.c 1 rfl (.c 3 rfl (.c 40 rfl (.c 41 rfl (.c 42 rfl .n)))))))) ?_;refine Kn.Z.y (.t rfl) ?_;refine Kn.Z.f fun K18 hK18=>?_;refine Kn.Z.u (.m (.t rfl) .n) ?_;refine Kn.Z.s .o (.bin .c (.t rfl)) fun Ko Kp=>?_;go_simp;(try go_bits);refine Kp _ _ ?_;clear Kp Ko;refine Kn.Z.s .o (.bin .c (.t rfl)) fun Ko Kp=>?_;go_simp;(try go_bits);refine Kp _ _ ?_;clear Kp Ko;refine Kn.Z.c .o (.call (.c (.t rfl) .n)) Tryz.call55 (wrong_v (4 + 2 * (j : Int)) v1) fun e ux hp=>?_;obtain ⟨rfl, rfl⟩ := hp;refine ⟨_,rfl,?_⟩;refine Kn.Z.u (.a (.t rfl) .n) ?_;refine Kn.Z.e hK18 ?_;clear hK18 K18;intro fb fg;refine wp_ret ?_;refine Kn.then_ret ?_;refine Kn.block_ret ?_;refine Kn.then_ret ?_;refine Kn.then_ret ?_;refine Kn.block_ret ?_;refine Kn.then_ret ?_;have hbad : badF sh0 n0 j := by unfold badF; rw [HF.out]; exact .inl ⟨HZ.out, fz⟩
      have e9 := hj.out.2.1.trans (wrS_f hlt hbad);exact Kn.ret1 fg rfl rfl ⟨by rw [chkV_bad (k := _) (HW4.out.trans ((if_pos (by rw [e9]; omega)).trans e9)) (by omega)], HK9.out.bl⟩
    have e0 : ((j : Int) == 0) = false := by rw [beq_eq_false_iff_ne]; omega
    have e0n : (j == 0) = false := by rw [beq_eq_false_iff_ne]; omega
    revert fb
    refine Kn.Z.q fun K16 hK16=>?_;refine Kn.Z.f fun K17 hK17=>?_;refine Kn.Z.u (.m (.t rfl) .n) ?_;refine Kn.Z.s .o (.fieldAddr (.t rfl)) fun Ko Kp=>?_;go_simp;(try go_bits);refine Kp _ _ ?_;clear Kp Ko;refine Kn.Z.s .o (.load (.t rfl)) fun Ko Kp=>?_;go_simp;(try go_bits);refine Kp _ _ ?_;clear Kp Ko;refine Kn.Z.s .o (.bin (.t rfl) .c) fun Ko Kp=>?_;go_simp;(try go_bits);refine Kp _ _ ?_;clear Kp Ko;refine Kn.Z.s .o (.fieldAddr (.t rfl)) fun Ko Kp=>?_;go_simp;(try go_bits);refine Kp _ _ ?_;clear Kp Ko;refine Kn.Z.s .o (.load (.t rfl)) fun Ko Kp=>?_;go_simp;(try go_bits);refine Kp _ _ ?_;clear Kp Ko;refine Kn.Z.c .o (.call (.c (.t rfl) (.c (.t rfl) (.c (.t rfl) .n)))) Tryz.call31 (isFrom_yes l (n0 - 1) f v1 qf) fun e ux hp=>?_;obtain ⟨rfl, rfl⟩ := hp;refine ⟨_,rfl,?_⟩;refine Kn.Z.s .o (.un (.t rfl)) fun Ko Kp=>?_;go_simp;(try go_bits);refine Kp _ _ ?_;clear Kp Ko;refine Kn.Z.u (.m (.t rfl) (.e (.s rfl rfl rfl) (.move (.t rfl)) .n)) ?_;refine Kn.Z.s (.s rfl rfl rfl) (.bin (.t rfl) .c) fun Ko Kp=>?_;go_simp;(try go_bits);refine Kp _ _ ?_;clear Kp Ko;refine Kn.Z.u (.e (.s rfl rfl rfl) (.move (.t rfl)) (.k (.s rfl rfl rfl) (.k (.s rfl rfl rfl) (.k (.s rfl rfl rfl) (.e (.s rfl rfl rfl) (.pick (.t rfl) .c) (.e .o (.pick (.t rfl) (.t rfl)) .n)))))) ?_;refine Kn.Z.e hK17 ?_;clear hK17 K17;refine Kn.Z.t (.c 63 rfl (.c 4 rfl (.c 5 rfl (.c 1 rfl (.c 3 rfl (.c 40 rfl (.c 41 rfl (.c 42 rfl .n)))))))) ?_;refine Kn.Z.no (.t rfl) ?_;refine Kn.Z.j hK16 ?_;clear hK16 K16
    have hnb : ¬ badF sh0 n0 j := by
      have q9 := hj.out.2.2.1;unfold lst at q9;rw [if_neg z] at q9;unfold badF;rw [HF.out];omega
    have HNB := Lib.hid hnb;clear hnb k1
    by_cases p1 : ¬ (3 ≤ y ∧ y ≤ 1048576)
    · refine Kn.Z.q fun K18 hK18=>?_;refine Kn.Z.f fun K19 hK19=>?_;refine Kn.Z.s .o (.fieldAddr (.t rfl)) fun Ko Kp=>?_;go_simp;(try go_bits);refine Kp _ _ ?_;clear Kp Ko;refine Kn.Z.s .o (.load (.t rfl)) fun Ko Kp=>?_;go_simp;(try go_bits);refine Kp _ _ ?_;clear Kp Ko;refine Kn.Z.c .o (.call (.c .c (.c .c (.c (.t rfl) .n)))) Tryz.call31 (isFrom_no 3 1048576 y v1 p1) fun e ux hp=>?_;obtain ⟨rfl, rfl⟩ := hp;refine ⟨_,rfl,?_⟩;refine Kn.Z.s .o (.un (.t rfl)) fun Ko Kp=>?_;go_simp;(try go_bits);refine Kp _ _ ?_;clear Kp Ko;refine Kn.Z.e hK19 ?_;clear hK19 K19;refine Kn.Z.y (.t rfl) ?_;refine Kn.Z.f fun K20 hK20=>?_;refine Kn.Z.u (.m (.t rfl) .n) ?_;refine Kn.Z.s .o (.bin .c (.t rfl)) fun Ko Kp=>?_;go_simp;(try go_bits);refine Kp _ _ ?_;clear Kp Ko;refine Kn.Z.s .o (.bin .c (.t rfl)) fun Ko Kp=>?_;go_simp;(try go_bits);refine Kp _ _ ?_;clear Kp Ko;refine Kn.Z.s .o (.bin (.t rfl) .c) fun Ko Kp=>?_;go_simp;(try go_bits);refine Kp _ _ ?_;clear Kp Ko;refine Kn.Z.c .o (.call (.c (.t rfl) .n)) Tryz.call55 (wrong_v (4 + 2 * (j : Int) + 1) v1) fun e ux hp=>?_;obtain ⟨rfl, rfl⟩ := hp;refine ⟨_,rfl,?_⟩;refine Kn.Z.u (.a (.t rfl) .n) ?_;refine Kn.Z.e hK20 ?_;clear hK20 K20;refine Kn.Z.t (.c 2 rfl (.c 5 rfl (.c 1 rfl (.c 3 rfl (.c 40 rfl (.c 41 rfl (.c 42 rfl .n))))))) ?_;intro fa fh;refine wp_ret ?_;refine Kn.then_ret ?_;refine Kn.block_ret ?_;refine Kn.then_ret ?_;refine Kn.then_ret ?_;refine Kn.block_ret ?_;refine Kn.then_ret ?_;have e9 := hj.out.2.1.trans (wrS_b hlt HNB.out (show badB sh0 j by unfold badB; rw [HY.out]; omega));exact Kn.ret1 fh rfl rfl ⟨by rw [chkV_bad (k := 4 + 2 * (j : Int) + 1) (HW4.out.trans ((if_pos (by rw [e9]; omega)).trans (e9.trans (by omega)))) (by omega)], HK9.out.bl⟩
    have qy : 3 ≤ y ∧ y ≤ 1048576 := by omega
    clear p1;refine Kn.Z.q fun K18 hK18=>?_;refine Kn.Z.f fun K19 hK19=>?_;refine Kn.Z.s .o (.fieldAddr (.t rfl)) fun Ko Kp=>?_;go_simp;(try go_bits);refine Kp _ _ ?_;clear Kp Ko;refine Kn.Z.s .o (.load (.t rfl)) fun Ko Kp=>?_;go_simp;(try go_bits);refine Kp _ _ ?_;clear Kp Ko;refine Kn.Z.c .o (.call (.c .c (.c .c (.c (.t rfl) .n)))) Tryz.call31 (isFrom_yes 3 1048576 y v1 qy) fun e ux hp=>?_;obtain ⟨rfl, rfl⟩ := hp;refine ⟨_,rfl,?_⟩;refine Kn.Z.s .o (.un (.t rfl)) fun Ko Kp=>?_;go_simp;(try go_bits);refine Kp _ _ ?_;clear Kp Ko;refine Kn.Z.e hK19 ?_;clear hK19 K19;refine Kn.Z.no (.t rfl) ?_;refine Kn.Z.j hK18 ?_;clear hK18 K18;have hnx := hj.out.2.1.trans (wrS_n hlt HNB.out (by unfold badB; rw [HY.out]; omega));have hj' := hj.out.1;refine Kn.Z.r ?_;refine Kn.Z.s .o (.fieldAddr (.t rfl)) fun Ko Kp=>?_;go_simp;(try go_bits);refine Kp _ _ ?_;clear Kp Ko;refine Kn.Z.s .o (.load (.t rfl)) fun Ko Kp=>?_;go_simp;(try go_bits);refine Kp _ _ ?_;clear Kp Ko;refine Kn.Z.s .o (.bin (.t rfl) .c) fun Ko Kp=>?_;go_simp;(try go_bits);refine Kp _ _ ?_;clear Kp Ko;refine Kn.Z.u (.a (.t rfl) .n) ?_;intro fa fh;refine wpList_nil ?_;refine Kn.block_normal ?_;refine hK14 _ _ ?_;clear hK14 K14
    revert fa
    refine Kn.Z.t (.c 3 rfl (.c 1 rfl (.c 40 rfl (.c 41 rfl (.c 42 rfl .n))))) ?_;refine Kn.Z.r ?_;refine Kn.Z.s .o (.bin (.t rfl) .c) fun Ko Kp=>?_;go_simp;(try go_bits);refine Kp _ _ ?_;clear Kp Ko;refine Kn.Z.u (.m (.t rfl) .n) ?_;intro fa fh;refine wpList_nil ?_;replace fh := fh.cut (.c 42 rfl (.c 3 rfl (.c 1 rfl (.c 40 rfl (.c 41 rfl .n)))));exact hKl11 (m11 - 1) _ _ (by omega) ⟨f + 1, j + 1, fh.cut (.c 1 rfl (.c 3 rfl (.c 40 rfl (.c 41 rfl (.u 42 rfl (by go_num) .n))))), Lib.hid ⟨by omega, hnx, by unfold lst; rw [if_neg (by omega), Nat.add_sub_cancel, HF.out], by omega⟩, HK9⟩
  have hlti : ¬ (j : Int) < (L : Int) := by omega
  obtain rfl : j = L := by omega
  revert fb
  refine Kn.Z.f fun K12 hK12=>?_;refine Kn.Z.s .o (.bin (.t rfl) (.t rfl)) fun Ko Kp=>?_;go_simp;(try go_bits);refine Kp _ _ ?_;clear Kp Ko;refine Kn.Z.e hK12 ?_;clear hK12 K12;refine Kn.Z.q fun K13 hK13=>?_;refine Kn.Z.no (.t rfl) ?_;refine Kn.Z.t (.c 1 rfl (.c 3 rfl (.c 40 rfl (.c 41 rfl (.c 42 rfl .n))))) ?_;intro fa fh;refine wp_exit ?_;refine Kn.then_exit ?_;clear hK13 K13;refine Kn.then_exit ?_;clear hKl11 Kl11;refine Kn.block_exit ?_;refine hK9 _ _ ?_;clear hK9 K9;have hgood := hj.out.2.1;rw [Nat.sub_self, wrS] at hgood;have HGD := Lib.hid hgood;have hall := (wrS_good sh0 n0 j 0).1 hgood
  have hby : ∀ i, i < sh0.length → 3 ≤ byt sh0 i ∧ byt sh0 i ≤ 1048576 := fun i hi => by
    have := (hall i (Nat.zero_le _) (by have := HL0.out; omega)).2;unfold badB at this;omega
  have HW5 : Hid (wrM m = (if m.b ≠ blkI m ∨ 2048 < blkI m then 4 + 2 * (j : Int) else if m.r.size ≠ 32 then 5 + 2 * (j : Int) else -1)) := Lib.hid (by rw [HW4.out, if_neg (by rw [HGD.out]; simp), HLL.out]);have htot : ∀ u, KM w m A c g u → Calls Tryz.prog 30 #[mV m A c] u fun e w' => e = .returned (.int .i64 (tot m)) ∧ Below u.heap.size u w' := fun u h => totalC_any m A c u h.mi (by rw [HSH.out]; exact hby);have htb := totK_bd hby sh0.length (Nat.le_refl _)
  have htb2 : 0 ≤ tot m ∧ tot m ≤ 104857600 := by
    unfold tot;rw [HSH.out];have := HL0.out;omega
  obtain ⟨t, ht⟩ := Int.eq_ofNat_of_zero_le htb2.1;rw [ht] at htot htb2;unfold mV at htot;have htc : ∀ u, Calls Tryz.prog 16 #[.int .i64 (t : Int)] u fun e w' => e = .returned (.int .i64 (Blk.cntK t : Int)) ∧ u = w' := fun u => Blk.count_any t u (by omega);obtain ⟨q, hq⟩ : ∃ q, Blk.cntK t = q := ⟨_, rfl⟩;rw [hq] at htc;have hqb : q ≤ 1638401 := by rw [← hq]; unfold Blk.cntK; omega
  have HQ : Hid (blkI m = (q : Int)) := Lib.hid (by unfold blkI; rw [ht, ← hq]; unfold Blk.cntK; omega);have hld : ∀ u, KM w m A c g u → (Instr.loadAt 40 (.pointer (some ⟨g, 0, none⟩))).run Tryz.prog u = .ok (.agg #[.int .i64 m.v, .int .i64 m.n, .int .i64 m.e, .slice A m.sh.length c, .int .i64 m.b, .string m.r]) u := fun u h => loadM h.st Tryz.underlying40 rfl (by kernel_rfl);have HTOT := Lib.hid htot;have HTC := Lib.hid htc;have HLDM := Lib.hid hld;clear hgood hall hby htb ht hq htot htc hld hlt hlti HGD HW4;have k3 := HV.out.st.cell 3 rfl;rw [HLL.out] at k3
  revert fa
  refine Kn.Z.f fun K14 hK14=>?_;refine Kn.Z.s .o (.fieldAddr (.t rfl)) fun Ko Kp=>?_;go_simp;(try go_bits);refine Kp _ _ ?_;clear Kp Ko;refine Kn.Z.s .o (.load (.t rfl)) fun Ko Kp=>?_;go_simp;(try go_bits);refine Kp _ _ ?_;clear Kp Ko;refine Kn.Z.s .o (.len (.t rfl)) fun Ko Kp=>?_;go_simp;(try go_bits);refine Kp _ _ ?_;clear Kp Ko;refine Kn.Z.s .o (.bin .c (.t rfl)) fun Ko Kp=>?_;go_simp;(try go_bits);refine Kp _ _ ?_;clear Kp Ko;refine Kn.Z.s .o (.bin .c (.t rfl)) fun Ko Kp=>?_;go_simp;(try go_bits);refine Kp _ _ ?_;clear Kp Ko;refine Kn.Z.u (.a (.t rfl) .n) ?_;refine Kn.Z.e hK14 ?_;clear hK14 K14;clear k3
  by_cases p0 : 2048 < b0
  · have HVD := Lib.hid (HV.out.on (show Below v.heap.size v v.drew from ⟨rfl, rfl, rfl, Nat.le_refl _, fun _ _ => rfl⟩));have k4 := HV.out.st.cell 4 rfl;rw [HBB.out] at k4;refine Kn.Z.q fun K15 hK15=>?_;refine Kn.Z.q fun K16 hK16=>?_;refine Kn.Z.st (by kernel_rfl) (by kernel_rfl) ?_;refine Kn.Z.ss .o (.fieldAddr (.t rfl)) fun Ko Kp=>?_;go_simp;(try go_bits);refine Kp _ ?_;clear Kp Ko;refine Kn.Z.ss .o (.load (.t rfl)) fun Ko Kp=>?_;go_simp;(try go_bits);refine Kp _ ?_;clear Kp Ko;refine Kn.Z.ss .o (.bin (.t rfl) .c) fun Ko Kp=>?_;go_simp;(try go_bits);refine Kp _ ?_;clear Kp Ko;refine Kn.Z.us (.m (.t rfl) (.k (.s rfl rfl rfl) (.k (.s rfl rfl rfl) (.k (.s rfl rfl rfl) (.k (.s rfl rfl rfl) (.k (.s rfl rfl rfl) (.k (.s rfl rfl rfl) (.e .o (.pick (.t rfl) .c) .n)))))))) ?_;refine Kn.Z.se hK16 ?_;clear hK16 K16;refine Kn.Z.t (.c 96 rfl (.c 6 rfl (.c 1 rfl .n))) ?_;refine Kn.Z.y (.t rfl) ?_;refine Kn.Z.f fun K17 hK17=>?_;refine Kn.Z.u (.m (.t rfl) .n) ?_;refine Kn.Z.c .o (.call (.c (.t rfl) .n)) Tryz.call55 (wrong_v (4 + 2 * (j : Int)) _) fun e ux hp=>?_;obtain ⟨rfl, rfl⟩ := hp;refine ⟨_,rfl,?_⟩;refine Kn.Z.u (.a (.t rfl) .n) ?_;refine Kn.Z.e hK17 ?_;clear hK17 K17;intro fa fh;refine wp_ret ?_;refine Kn.then_ret ?_;exact Kn.ret1 fh rfl rfl ⟨by rw [chkV_bad (k := _) (HW5.out.trans (if_pos (by rw [HQ.out, HBB.out]; omega))) (by omega)], HVD.out.bl⟩
  have hk4 : ∀ u, KM w m A c g u → u.cell? ⟨g, 4, none⟩ = some (.int .i64 b0) := fun u h => by have := h.st.cell 4 rfl; rwa [HBB.out] at this
  have HK4 := Lib.hid hk4;have hhk := HV.out.on (show Below v.heap.size v v.drew from ⟨rfl, rfl, rfl, Nat.le_refl _, fun _ _ => rfl⟩);clear hk4;obtain ⟨d, hd⟩ : ∃ d, (b0 != (q : Int)) = d := ⟨_, rfl⟩;have hd3 : d = true ↔ b0 ≠ (q : Int) := by rw [← hd, bne_iff_ne]
  have HD3 := Lib.hid hd3;clear hd3;intro fa fh
  cases d with
  | true =>
    refine wp_seq_k fun K15 hK15 => ?_;refine wp_seq_k fun K16 hK16 => ?_;refine Kn.any (fun u => KM w m A c g u) (fun _ _ => True) (Kn.TL [Kn.Is (.pointer (some ⟨g, 4, none⟩)), Kn.Is (.int .i64 b0), Kn.Is (.bool false), Kn.Is (.bool false), Kn.Is (.pointer (some ⟨g, 4, none⟩)), Kn.Is (.int .i64 b0), Kn.Is (.agg #[.int .i64 m.v, .int .i64 m.n, .int .i64 m.e, .slice A m.sh.length c, .int .i64 m.b, .string m.r]), Kn.Is (.int .i64 (t : Int)), Kn.Is (.int .i64 (q : Int)), Kn.Is (.bool true), Kn.Is (.bool true)]) (by kernel_rfl) fh (by kernel_rfl) (by kernel_rfl) rfl (Kn.Keeps.all (.cons Kn.Is.keep (.cons Kn.Is.keep (.cons Kn.Is.keep (.cons Kn.Is.keep (.cons Kn.Is.keep (.cons Kn.Is.keep (.cons Kn.Is.keep (.cons Kn.Is.keep (.cons Kn.Is.keep (.cons Kn.Is.keep (.cons Kn.Is.keep .nil)))))))))))) hhk ⟨?_, ?_, ?_, ?_, ?_, ?_, ?_, ?_, ?_, ?_, ?_, trivial⟩ ?_
    · refine Kn.ok fun fb x L fg hS hH => ?_;refine Kn.aop fg .none (Kn.ex_fieldAddr fg (.t rfl)) fun Ko hKo => ?_;go_simp;(try go_bits);exact hKo _ _ rfl hS trivial
    · refine Kn.ok fun fb x L fg hS hH => ?_;replace fg := fg.more (show fb.eval (.tmp 86) = .pointer (some ⟨g, 4, none⟩) from hH 0 86 rfl rfl);have k4 := HK4.out _ hS;refine Kn.aop fg .none (Kn.ex_load fg (.t rfl)) fun Ko hKo => ?_;go_simp;(try go_bits);exact hKo _ _ rfl hS trivial
    · refine Kn.ok fun fb x L fg hS hH => ?_;replace fg := fg.more (show fb.eval (.tmp 87) = .int .i64 b0 from hH 1 87 rfl rfl);refine Kn.aop fg .none (Kn.ex_bin fg (.t rfl) .const) fun Ko hKo => ?_;go_simp;(try go_bits);exact hKo _ _ rfl hS trivial
    · refine Kn.ok fun fb x L fg hS hH => ?_;replace fg := fg.more (show fb.eval (.tmp 88) = .bool false from hH 2 88 rfl rfl);exact Kn.apure fg .none (Kn.ex_move fg (.t rfl)) rfl hS trivial
    · refine Kn.ok fun fb x L fg hS hH => ?_;replace fg := fg.more (show fb.eval (.tmp 89) = .bool false from hH 3 89 rfl rfl);refine Kn.aop fg (.some rfl rfl rfl) (Kn.ex_fieldAddr fg (.t rfl)) fun Ko hKo => ?_;go_simp;(try go_bits);exact hKo _ _ rfl hS trivial
    · refine Kn.ok fun fb x L fg hS hH => ?_;replace fg := fg.more (show fb.eval (.tmp 90) = .pointer (some ⟨g, 4, none⟩) from hH 4 90 rfl rfl);replace fg := fg.more (show fb.eval (.tmp 89) = .bool false from hH 3 89 rfl rfl);have k4 := HK4.out _ hS;refine Kn.aop fg (.some rfl rfl rfl) (Kn.ex_load fg (.t rfl)) fun Ko hKo => ?_;go_simp;(try go_bits);exact hKo _ _ rfl hS trivial
    · refine Kn.ok fun fb x L fg hS hH => ?_;replace fg := fg.more (show fb.eval (.tmp 89) = .bool false from hH 3 89 rfl rfl);exact Kn.aop fg (.some rfl rfl rfl) (Kn.ex_load fg (.t rfl)) fun Ko hKo => by rw [(HLDM.out _ hS)]; exact hKo _ _ rfl hS trivial
    · refine Kn.ok fun fb x L fg hS hH => ?_;replace fg := fg.more (show fb.eval (.tmp 92) = .agg #[.int .i64 m.v, .int .i64 m.n, .int .i64 m.e, .slice A m.sh.length c, .int .i64 m.b, .string m.r] from hH 6 92 rfl rfl);replace fg := fg.more (show fb.eval (.tmp 89) = .bool false from hH 3 89 rfl rfl);refine Kn.acall fg (.some rfl rfl rfl) (Kn.ex_call fg (.cons (.t rfl) .nil)) Tryz.call30 (HTOT.out _ hS) fun e x2 hp => ?_;obtain ⟨rfl, hb⟩ := hp;exact ⟨_, rfl, rfl, (hS.on hb), trivial⟩
    · refine Kn.ok fun fb x L fg hS hH => ?_;replace fg := fg.more (show fb.eval (.tmp 93) = .int .i64 (t : Int) from hH 7 93 rfl rfl);replace fg := fg.more (show fb.eval (.tmp 89) = .bool false from hH 3 89 rfl rfl);refine Kn.acall fg (.some rfl rfl rfl) (Kn.ex_call fg (.cons (.t rfl) .nil)) Tryz.call16 (HTC.out _) fun e x2 hp => ?_;obtain ⟨rfl, rfl⟩ := hp;exact ⟨_, rfl, rfl, hS, trivial⟩
    · refine Kn.ok fun fb x L fg hS hH => ?_;replace fg := fg.more (show fb.eval (.tmp 91) = .int .i64 b0 from hH 5 91 rfl rfl);replace fg := fg.more (show fb.eval (.tmp 94) = .int .i64 (q : Int) from hH 8 94 rfl rfl);replace fg := fg.more (show fb.eval (.tmp 89) = .bool false from hH 3 89 rfl rfl);refine Kn.aop fg (.some rfl rfl rfl) (Kn.ex_bin fg (.t rfl) (.t rfl)) fun Ko hKo => ?_;go_simp;(try go_bits);exact hKo _ _ rfl hS trivial
    · refine Kn.ok fun fb x L fg hS hH => ?_;replace fg := fg.more (show fb.eval (.tmp 89) = .bool false from hH 3 89 rfl rfl);replace fg := fg.more (show fb.eval (.tmp 95) = .bool true from hH 9 95 rfl rfl);exact Kn.apure fg .none (Kn.ex_pick fg (.t rfl) (.t rfl)) rfl hS trivial
    intro fb v9 fg hS hT;clear fh fa;replace fg := fg.more (show fb.eval (.tmp 96) = .bool true from hT 10 96 rfl);clear hT;refine hK16 _ _ ?_;clear hK16 K16;refine Kn.yes fg (.t rfl) ?_;replace fg := fg.cut (.c 6 rfl (.c 1 rfl .n));refine wp_seq_k fun K17 hK17 => ?_;refine wp_region_lit ?_;refine Kn.pure fg rfl rfl .none (Kn.ex_move fg (.t rfl)) fun fa fh => ?_;clear fg fb;refine Kn.call fh rfl rfl .none (Kn.ex_call fh (.cons (.t rfl) .nil)) Tryz.call55 (wrong_v (4 + 2 * (j : Int)) v9) fun e ux hp => ?_;obtain ⟨rfl, rfl⟩ := hp;refine ⟨_, rfl, fun fb fg => ?_⟩;clear fh fa;refine Kn.pure fg rfl rfl .none (Kn.ex_assign fg (.t rfl)) fun fa fh => ?_;clear fg fb;refine wpList_nil ?_;refine hK17 _ _ ?_;clear hK17 K17;replace fh := fh.cut (.c 2 rfl (.c 6 rfl (.c 1 rfl .n)));refine wp_ret ?_;refine Kn.then_ret ?_;exact Kn.ret1 fh rfl rfl ⟨by rw [chkV_bad (k := _) (HW5.out.trans (if_pos (by rw [HQ.out, HBB.out]; have := HD3.out; simp at this; omega))) (by omega)], (Lib.hid hS).out.bl⟩
  | false =>
    refine wp_seq_k fun K15 hK15 => ?_;refine wp_seq_k fun K16 hK16 => ?_;refine Kn.any (fun u => KM w m A c g u) (fun _ _ => True) (Kn.TL [Kn.Is (.pointer (some ⟨g, 4, none⟩)), Kn.Is (.int .i64 b0), Kn.Is (.bool false), Kn.Is (.bool false), Kn.Is (.pointer (some ⟨g, 4, none⟩)), Kn.Is (.int .i64 b0), Kn.Is (.agg #[.int .i64 m.v, .int .i64 m.n, .int .i64 m.e, .slice A m.sh.length c, .int .i64 m.b, .string m.r]), Kn.Is (.int .i64 (t : Int)), Kn.Is (.int .i64 (q : Int)), Kn.Is (.bool false), Kn.Is (.bool false)]) (by kernel_rfl) fh (by kernel_rfl) (by kernel_rfl) rfl (Kn.Keeps.all (.cons Kn.Is.keep (.cons Kn.Is.keep (.cons Kn.Is.keep (.cons Kn.Is.keep (.cons Kn.Is.keep (.cons Kn.Is.keep (.cons Kn.Is.keep (.cons Kn.Is.keep (.cons Kn.Is.keep (.cons Kn.Is.keep (.cons Kn.Is.keep .nil)))))))))))) hhk ⟨?_, ?_, ?_, ?_, ?_, ?_, ?_, ?_, ?_, ?_, ?_, trivial⟩ ?_
    · refine Kn.ok fun fb x L fg hS hH => ?_;refine Kn.aop fg .none (Kn.ex_fieldAddr fg (.t rfl)) fun Ko hKo => ?_;go_simp;(try go_bits);exact hKo _ _ rfl hS trivial
    · refine Kn.ok fun fb x L fg hS hH => ?_;replace fg := fg.more (show fb.eval (.tmp 86) = .pointer (some ⟨g, 4, none⟩) from hH 0 86 rfl rfl);have k4 := HK4.out _ hS;refine Kn.aop fg .none (Kn.ex_load fg (.t rfl)) fun Ko hKo => ?_;go_simp;(try go_bits);exact hKo _ _ rfl hS trivial
    · refine Kn.ok fun fb x L fg hS hH => ?_;replace fg := fg.more (show fb.eval (.tmp 87) = .int .i64 b0 from hH 1 87 rfl rfl);refine Kn.aop fg .none (Kn.ex_bin fg (.t rfl) .const) fun Ko hKo => ?_;go_simp;(try go_bits);exact hKo _ _ rfl hS trivial
    · refine Kn.ok fun fb x L fg hS hH => ?_;replace fg := fg.more (show fb.eval (.tmp 88) = .bool false from hH 2 88 rfl rfl);exact Kn.apure fg .none (Kn.ex_move fg (.t rfl)) rfl hS trivial
    · refine Kn.ok fun fb x L fg hS hH => ?_;replace fg := fg.more (show fb.eval (.tmp 89) = .bool false from hH 3 89 rfl rfl);refine Kn.aop fg (.some rfl rfl rfl) (Kn.ex_fieldAddr fg (.t rfl)) fun Ko hKo => ?_;go_simp;(try go_bits);exact hKo _ _ rfl hS trivial
    · refine Kn.ok fun fb x L fg hS hH => ?_;replace fg := fg.more (show fb.eval (.tmp 90) = .pointer (some ⟨g, 4, none⟩) from hH 4 90 rfl rfl);replace fg := fg.more (show fb.eval (.tmp 89) = .bool false from hH 3 89 rfl rfl);have k4 := HK4.out _ hS;refine Kn.aop fg (.some rfl rfl rfl) (Kn.ex_load fg (.t rfl)) fun Ko hKo => ?_;go_simp;(try go_bits);exact hKo _ _ rfl hS trivial
    · refine Kn.ok fun fb x L fg hS hH => ?_;replace fg := fg.more (show fb.eval (.tmp 89) = .bool false from hH 3 89 rfl rfl);exact Kn.aop fg (.some rfl rfl rfl) (Kn.ex_load fg (.t rfl)) fun Ko hKo => by rw [(HLDM.out _ hS)]; exact hKo _ _ rfl hS trivial
    · refine Kn.ok fun fb x L fg hS hH => ?_;replace fg := fg.more (show fb.eval (.tmp 92) = .agg #[.int .i64 m.v, .int .i64 m.n, .int .i64 m.e, .slice A m.sh.length c, .int .i64 m.b, .string m.r] from hH 6 92 rfl rfl);replace fg := fg.more (show fb.eval (.tmp 89) = .bool false from hH 3 89 rfl rfl);refine Kn.acall fg (.some rfl rfl rfl) (Kn.ex_call fg (.cons (.t rfl) .nil)) Tryz.call30 (HTOT.out _ hS) fun e x2 hp => ?_;obtain ⟨rfl, hb⟩ := hp;exact ⟨_, rfl, rfl, (hS.on hb), trivial⟩
    · refine Kn.ok fun fb x L fg hS hH => ?_;replace fg := fg.more (show fb.eval (.tmp 93) = .int .i64 (t : Int) from hH 7 93 rfl rfl);replace fg := fg.more (show fb.eval (.tmp 89) = .bool false from hH 3 89 rfl rfl);refine Kn.acall fg (.some rfl rfl rfl) (Kn.ex_call fg (.cons (.t rfl) .nil)) Tryz.call16 (HTC.out _) fun e x2 hp => ?_;obtain ⟨rfl, rfl⟩ := hp;exact ⟨_, rfl, rfl, hS, trivial⟩
    · refine Kn.ok fun fb x L fg hS hH => ?_;replace fg := fg.more (show fb.eval (.tmp 91) = .int .i64 b0 from hH 5 91 rfl rfl);replace fg := fg.more (show fb.eval (.tmp 94) = .int .i64 (q : Int) from hH 8 94 rfl rfl);replace fg := fg.more (show fb.eval (.tmp 89) = .bool false from hH 3 89 rfl rfl);refine Kn.aop fg (.some rfl rfl rfl) (Kn.ex_bin fg (.t rfl) (.t rfl)) fun Ko hKo => ?_;go_simp;(try go_bits);exact hKo _ _ rfl hS trivial
    · refine Kn.ok fun fb x L fg hS hH => ?_;replace fg := fg.more (show fb.eval (.tmp 89) = .bool false from hH 3 89 rfl rfl);replace fg := fg.more (show fb.eval (.tmp 95) = .bool false from hH 9 95 rfl rfl);exact Kn.apure fg .none (Kn.ex_pick fg (.t rfl) (.t rfl)) rfl hS trivial
    intro fb v9 fg hS hT;clear fh fa;replace fg := fg.more (show fb.eval (.tmp 96) = .bool false from hT 10 96 rfl);clear hT;refine hK16 _ _ ?_;clear hK16 K16;refine Kn.no fg (.t rfl) ?_;refine wp_skip ?_;refine hK15 _ _ ?_;clear hK15 K15;replace fg := fg.cut (.c 6 rfl (.c 1 rfl .n));have hbq : b0 = (q : Int) := by have := HD3.out; simp at this; omega
    have HBQ := Lib.hid hbq;have k5 := hS.st.cell 5 rfl;have HS := Lib.hid hS;clear hS hbq
    by_cases p3 : m.r.size = 32
    · have p3b : ((m.r.size : Int) != 32) = false := by rw [p3]; rfl
      have HP3 := Lib.hid p3;clear p3;refine wp_seq_k fun K17 hK17 => ?_;refine wp_seq_k fun K18 hK18 => ?_;refine wp_region_lit ?_;refine Kn.step fg rfl rfl .none (Kn.ex_fieldAddr fg (.t rfl)) fun Ko hKo => ?_;go_simp;(try go_bits);refine hKo _ _ fun fa fh => ?_;clear hKo Ko fg fb;refine Kn.step fh rfl rfl .none (Kn.ex_load fh (.t rfl)) fun Ko hKo => ?_;go_simp;(try go_bits);refine hKo _ _ fun fb fg => ?_;clear hKo Ko fh fa;refine Kn.step fg rfl rfl .none (Kn.ex_len fg (.t rfl)) fun Ko hKo => ?_;go_simp;(try go_bits);refine hKo _ _ fun fa fh => ?_;clear hKo Ko fg fb;refine Kn.step fh rfl rfl .none (Kn.ex_bin fh (.t rfl) .const) fun Ko hKo => ?_;go_simp;(try go_bits);refine hKo _ _ fun fb fg => ?_;clear hKo Ko fh fa;refine wpList_nil ?_;refine hK18 _ _ ?_;clear hK18 K18;replace fg := fg.cut (.c 102 rfl (.c 6 rfl .n));refine Kn.no fg (.t rfl) ?_;refine wp_skip ?_;refine hK17 _ _ ?_;clear hK17 K17;replace fg := fg.cut .n;refine wp_seq_k fun K19 hK19 => ?_;refine wp_region_lit ?_;refine Kn.pure fg rfl rfl .none (Kn.ex_assign fg .const) fun fa fh => ?_;clear fg fb;refine wpList_nil ?_;refine hK19 _ _ ?_;clear hK19 K19;refine wp_ret ?_;exact Kn.ret1 fh rfl rfl ⟨by rw [chkV_ok (HW5.out.trans ((if_neg (by rw [HQ.out, HBB.out, HBQ.out]; have := HBQ.out; omega)).trans (if_neg (by rw [HP3.out]; simp))))], HS.out.bl⟩
    have p3b : ((m.r.size : Int) != 32) = true := by rw [bne_iff_ne]; omega
    refine wp_seq_k fun K17 hK17 => ?_;refine wp_seq_k fun K18 hK18 => ?_;refine wp_region_lit ?_;refine Kn.step fg rfl rfl .none (Kn.ex_fieldAddr fg (.t rfl)) fun Ko hKo => ?_;go_simp;(try go_bits);refine hKo _ _ fun fa fh => ?_;clear hKo Ko fg fb;refine Kn.step fh rfl rfl .none (Kn.ex_load fh (.t rfl)) fun Ko hKo => ?_;go_simp;(try go_bits);refine hKo _ _ fun fb fg => ?_;clear hKo Ko fh fa;refine Kn.step fg rfl rfl .none (Kn.ex_len fg (.t rfl)) fun Ko hKo => ?_;go_simp;(try go_bits);refine hKo _ _ fun fa fh => ?_;clear hKo Ko fg fb;refine Kn.step fh rfl rfl .none (Kn.ex_bin fh (.t rfl) .const) fun Ko hKo => ?_;go_simp;(try go_bits);refine hKo _ _ fun fb fg => ?_;clear hKo Ko fh fa;refine wpList_nil ?_;refine hK18 _ _ ?_;clear hK18 K18;replace fg := fg.cut (.c 102 rfl (.c 6 rfl .n));refine Kn.yes fg (.t rfl) ?_;replace fg := fg.cut (.c 6 rfl .n);refine wp_seq_k fun K19 hK19 => ?_;refine wp_region_lit ?_;refine Kn.pure fg rfl rfl .none (Kn.ex_move fg (.t rfl)) fun fa fh => ?_;clear fg fb;refine Kn.step fh rfl rfl .none (Kn.ex_bin fh (.t rfl) .const) fun Ko hKo => ?_;go_simp;(try go_bits);refine hKo _ _ fun fb fg => ?_;clear hKo Ko fh fa;refine Kn.call fg rfl rfl .none (Kn.ex_call fg (.cons (.t rfl) .nil)) Tryz.call55 (wrong_v (4 + 2 * (j : Int) + 1) v9) fun e ux hp => ?_;obtain ⟨rfl, rfl⟩ := hp;refine ⟨_, rfl, fun fa fh => ?_⟩;clear fg fb;refine Kn.pure fh rfl rfl .none (Kn.ex_assign fh (.t rfl)) fun fb fg => ?_;clear fh fa;refine wpList_nil ?_;refine hK19 _ _ ?_;clear hK19 K19;replace fg := fg.cut (.c 2 rfl .n);refine wp_ret ?_;refine Kn.then_ret ?_;exact Kn.ret1 fg rfl rfl ⟨by rw [chkV_bad (k := 4 + 2 * (j : Int) + 1) (HW5.out.trans ((if_neg (by rw [HQ.out, HBB.out, HBQ.out]; have := HBQ.out; omega)).trans ((if_pos p3).trans (by omega)))) (by omega)], HS.out.bl⟩
end Go.Proofs.YtbemmnggmdadeaaGreatDoor.Man
end
section
namespace Go.Proofs.YtbemmnggmdadeaaGreatDoor.Edg
def lessB (a b : Int × Int) : Bool := decide (a.1 < b.1) || (decide (a.1 = b.1) && decide (a.2 < b.2))
theorem less_iff (a b : Int × Int) : lessB a b = true ↔ a.1 < b.1 ∨ a.1 = b.1 ∧ a.2 < b.2 := by simp [lessB]
theorem less_irr (a : Int × Int) : lessB a a = false := by
  cases h : lessB a a with
  | false => rfl
  | true => rw [less_iff] at h; omega
theorem less_trans {a b c : Int × Int} (h1 : lessB a b = true) (h2 : lessB b c = true) : lessB a c = true := by
  rw [less_iff] at *; omega
theorem less_eq {a b : Int × Int} (h1 : lessB a b = false) (h2 : lessB b a = false) : a = b := by
  have h1' : ¬ lessB a b = true := by simp [h1]
  have h2' : ¬ lessB b a = true := by simp [h2]
  rw [less_iff] at h1' h2';exact Prod.ext (by omega) (by omega)
theorem less_asym {a b : Int × Int} (h : lessB a b = true) : lessB b a = false := by
  cases h2 : lessB b a with
  | false => rfl
  | true => have := less_trans h h2; rw [less_irr] at this; cases this
def Srt (l : List (Int × Int)) : Prop := l.Pairwise (fun a b => lessB a b = true)
structure NormOf (xs ys : List (Int × Int)) : Prop where
  srt : Srt ys
  mem : ∀ e, e ∈ ys ↔ e ∈ xs
theorem srt_unique : ∀ {l m : List (Int × Int)}, Srt l → Srt m → (∀ e, e ∈ l ↔ e ∈ m) → l = m
  | [], [], _, _, _ => rfl
  | [], b :: m, _, _, h => by have := (h b).2 List.mem_cons_self; cases this
  | a :: l, [], _, _, h => by have := (h a).1 List.mem_cons_self; cases this
  | a :: l, b :: m, hl, hm, h => by
    obtain ⟨hl1, hl2⟩ := List.pairwise_cons.1 hl;obtain ⟨hm1, hm2⟩ := List.pairwise_cons.1 hm
    have hab : a = b := by
      rcases List.mem_cons.1 ((h a).1 List.mem_cons_self) with e | e
      · exact e
      · rcases List.mem_cons.1 ((h b).2 List.mem_cons_self) with e2 | e2
        · exact e2.symm
        · have h1 := hm1 a e;have h2 := hl1 b e2;rw [less_asym h1] at h2;cases h2
    subst hab
    congr 1
    refine srt_unique hl2 hm2 fun e => ⟨fun he => ?_, fun he => ?_⟩
    · rcases List.mem_cons.1 ((h e).1 (List.mem_cons_of_mem _ he)) with rfl | h'
      · have := hl1 e he; rw [less_irr] at this; cases this
      · exact h'
    · rcases List.mem_cons.1 ((h e).2 (List.mem_cons_of_mem _ he)) with rfl | h'
      · have := hm1 e he; rw [less_irr] at this; cases this
      · exact h'
theorem NormOf.unique {xs ys zs : List (Int × Int)} (h1 : NormOf xs ys) (h2 : NormOf xs zs) : ys = zs := srt_unique h1.srt h2.srt fun e => (h1.mem e).trans (h2.mem e).symm
theorem srt_put {l : List (Int × Int)} {e : Int × Int} {k : Nat} (h : Srt l) (h1 : ∀ a ∈ l.take k, lessB a e = true) (h2 : ∀ b ∈ l.drop k, lessB e b = true) : Srt (l.take k ++ e :: l.drop k) := by
  have hs : Srt (l.take k ++ l.drop k) := by rw [List.take_append_drop]; exact h
  unfold Srt at *;rw [List.pairwise_append] at hs ⊢;refine ⟨hs.1, List.pairwise_cons.2 ⟨h2, hs.2.1⟩, fun a ha b hb => ?_⟩;rcases List.mem_cons.1 hb with rfl | hb
  · exact h1 a ha
  · exact hs.2.2 a ha b hb
theorem srt_drop {l : List (Int × Int)} {e : Int × Int} {k : Nat} (h : Srt l) (hk : (hk : k < l.length) → lessB e l[k] = true) : ∀ b ∈ l.drop k, lessB e b = true := by
  intro b hb;rcases Nat.lt_or_ge k l.length with hlt | hge
  · have hs : Srt (l.drop k) := List.Pairwise.drop h;rw [List.drop_eq_getElem_cons hlt] at hb hs;rcases List.mem_cons.1 hb with rfl | hb
    · exact hk hlt
    · exact less_trans (hk hlt) ((List.pairwise_cons.1 hs).1 b hb)
  · rw [List.drop_of_length_le hge] at hb; cases hb
theorem mem_put {l : List (Int × Int)} {e a : Int × Int} {k : Nat} : a ∈ l.take k ++ e :: l.drop k ↔ a = e ∨ a ∈ l := by
  rw [List.mem_append, List.mem_cons]
  conv => rhs; rw [← List.take_append_drop k l, List.mem_append]
  constructor
  · rintro (h | h | h)
    · exact .inr (.inl h)
    · exact .inl h
    · exact .inr (.inr h)
  · rintro (h | h | h)
    · exact .inr (.inl h)
    · exact .inl h
    · exact .inr (.inr h)
end Go.Proofs.YtbemmnggmdadeaaGreatDoor.Edg
end
section
namespace Go.Proofs.YtbemmnggmdadeaaGreatDoor.Edg
open Go Go.RowKit Go.Lib
def ed (l : List (Int × Int)) (i : Nat) : Int × Int := l.getD i (0, 0)
theorem ed_at (l : List (Int × Int)) (i : Nat) (h : i < l.length) : ed l i = l[i] := by simp [ed, List.getD, List.getElem?_eq_getElem h]
theorem take_ed (l : List (Int × Int)) (k : Nat) (h : k < l.length) : l.take (k + 1) = l.take k ++ [ed l k] := by rw [List.take_succ_eq_append_getElem h, ed_at l k h]
def eV (e : Int × Int) : Value := .agg #[.int .i64 e.1, .int .i64 e.2]
def eC : List (Int × Int) → List Value
  | [] => []
  | e :: l => .int .i64 e.1 :: .int .i64 e.2 :: eC l
theorem eC_len (l : List (Int × Int)) : (eC l).length = l.length * 2 := by
  induction l with
  | nil => rfl
  | cons e l ih => simp [eC, ih]; omega
theorem eC_app (l m : List (Int × Int)) : eC (l ++ m) = eC l ++ eC m := by
  induction l with
  | nil => rfl
  | cons e l ih => simp [eC, ih]
theorem eC_one (l : List (Int × Int)) : ∀ u ∈ eC l, u.oneCell' = true := by
  induction l with
  | nil => intro u hu; cases hu
  | cons e l ih =>
    intro u hu;rcases List.mem_cons.1 hu with rfl | hu
    · rfl
    · rcases List.mem_cons.1 hu with rfl | hu
      · rfl
      · exact ih u hu
theorem eC_at (l : List (Int × Int)) (i : Nat) (h : i < l.length) : (eC l)[i * 2]? = some (.int .i64 (ed l i).1) ∧ (eC l)[i * 2 + 1]? = some (.int .i64 (ed l i).2) := by
  induction l generalizing i with
  | nil => simp at h
  | cons e l ih =>
    cases i with
    | zero => exact ⟨rfl, rfl⟩
    | succ i =>
      have := ih i (by simpa using h);rw [show (i + 1) * 2 = i * 2 + 2 by omega, show i * 2 + 2 + 1 = (i * 2 + 1) + 2 by omega]
      simpa [eC, ed] using this
def EIn (w : World) (A : Option Addr) (l : List (Int × Int)) : Prop := ∀ i, i < l.length → ∃ b o, A = some ⟨b, o, none⟩ ∧ b < w.heap.size ∧ w.cell? ⟨b, o + i * 2, none⟩ = some (.int .i64 (ed l i).1) ∧ w.cell? ⟨b, o + i * 2 + 1, none⟩ = some (.int .i64 (ed l i).2)
theorem EIn.on {w w' : World} {A : Option Addr} {l : List (Int × Int)} (h : EIn w A l) (hb : Below w.heap.size w w') : EIn w' A l := fun i hi => by
  obtain ⟨b, o, e, hlt, h1, h2⟩ := h i hi;exact ⟨b, o, e, Nat.lt_of_lt_of_le hlt hb.size, (hb.cell (p := ⟨b, o + i * 2, none⟩) hlt).trans h1, (hb.cell (p := ⟨b, o + i * 2 + 1, none⟩) hlt).trans h2⟩
theorem EIn.below {w w' : World} {B : Nat} {A : Option Addr} {l : List (Int × Int)} (h : EIn w A l) (hb : Below B w w') (hB : w.heap.size ≤ B) : EIn w' A l := h.on (hb.mono hB)
theorem EIn.drew {w : World} {A : Option Addr} {l : List (Int × Int)} (h : EIn w A l) : EIn w.drew A l := h
theorem EIn.drewN {w : World} {A : Option Addr} {l : List (Int × Int)} (h : EIn w A l) (n : Nat) : EIn (w.drewN n) A l := h
theorem EIn.nil (w : World) (A : Option Addr) : EIn w A [] := fun i hi => absurd hi (by simp)
theorem EIn.cells {w : World} {b o : Nat} {l : List (Int × Int)} (h : EIn w (some ⟨b, o, none⟩) l) {i : Nat} (hi : i < l.length) : w.cell? ⟨b, o + i * 2, none⟩ = some (.int .i64 (ed l i).1) ∧ w.cell? ⟨b, o + i * 2 + 1, none⟩ = some (.int .i64 (ed l i).2) := by
  obtain ⟨b', o', e, _, h1, h2⟩ := h i hi;cases e;exact ⟨h1, h2⟩
theorem addr_add (b o j : Nat) : (⟨b, o, none⟩ : Addr).add j = ⟨b, o + j, none⟩ := by unfold Addr.add; split <;> simp_all
theorem EIn.news {w : World} {b o : Nat} {l : List (Int × Int)} (h : EIn w (some ⟨b, o, none⟩) l) : ∀ j u, (eC l)[j]? = some u → w.cell? ((⟨b, o, none⟩ : Addr).add j) = some u := fun j u hu => by
  have hj : j < (eC l).length := by
    rcases Nat.lt_or_ge j (eC l).length with h' | h'
    · exact h'
    · rw [List.getElem?_eq_none h'] at hu; cases hu
  rw [eC_len] at hj;rw [addr_add];have hi : j / 2 < l.length := by omega
  have h1 := h.cells hi;have h2 := eC_at l (j / 2) hi;rcases Nat.mod_two_eq_zero_or_one j with hm | hm
  · have e : j / 2 * 2 = j := by omega
    rw [e] at h1 h2;rw [h2.1] at hu;rw [h1.1, ← hu]
  · have e : j / 2 * 2 + 1 = j := by omega
    rw [Nat.add_assoc, e] at h1;rw [e] at h2;rw [h2.2] at hu;rw [h1.2, ← hu]
def OwnE (w : World) (B : Nat) (A : Option Addr) (n cap : Nat) (l : List (Int × Int)) : Prop := n = l.length ∧ w.ownsRow B 66 2 (.slice A n cap) n (eC l)
theorem OwnE.ein {w : World} {B : Nat} {A : Option Addr} {n cap : Nat} {l : List (Int × Int)} (h : OwnE w B A n cap l) : EIn w A l := fun i hi => by
  obtain ⟨g, cap', e, hb, hlt⟩ := h.2.form (by rw [h.1]; omega);simp only [Value.slice.injEq] at e;obtain ⟨rfl, _, _⟩ := e;have hc := h.2.cells (g := g) rfl;have h1 := eC_at l i hi;have a1 := hc _ _ h1.1;have a2 := hc _ _ h1.2;rw [addr_add] at a1 a2;exact ⟨g, 0, rfl, hlt, a1, by rw [Nat.add_assoc]; exact a2⟩
theorem OwnE.ge {w : World} {B g n cap : Nat} {l : List (Int × Int)} (h : OwnE w B (some ⟨g, 0, none⟩) n cap l) : B ≤ g := (h.2.lt g rfl).1
theorem OwnE.lt {w : World} {B g n cap : Nat} {l : List (Int × Int)} (h : OwnE w B (some ⟨g, 0, none⟩) n cap l) : g < w.heap.size := (h.2.lt g rfl).2
theorem OwnE.alloc {w : World} {B n cap : Nat} {A : Option Addr} {l : List (Int × Int)} (h : OwnE w B A n cap l) (o : Obj) : OwnE (w.alloc o) B A n cap l := ⟨h.1, h.2.alloc o⟩
theorem OwnE.drew {w : World} {B n cap : Nat} {A : Option Addr} {l : List (Int × Int)} (h : OwnE w B A n cap l) : OwnE w.drew B A n cap l := h
theorem OwnE.on {w w' : World} {B n cap : Nat} {A : Option Addr} {l : List (Int × Int)} (h : OwnE w B A n cap l) (hb : Below w.heap.size w w') : OwnE w' B A n cap l := ⟨h.1, Own.row_on h.2 hb⟩
theorem OwnE.none (w : World) (B : Nat) : OwnE w B none 0 0 [] := ⟨rfl, World.ownsRow_nil _ _ _ _⟩
theorem OwnE.new (w : World) (B : Nat) (hB : B ≤ w.heap.size) : OwnE (w.alloc (.cells #[] 66)) B (some ⟨w.heap.size, 0, Option.none⟩) 0 0 [] := ⟨rfl, Own.new_row _ _ _ _ hB⟩
theorem OwnE.kept {v v' : World} {r : Option Nat} {g' B n cap : Nat} {A : Option Addr} {l : List (Int × Int)} (h : OwnE v B A n cap l) (hk : Own.Kept v v' r g') (hne : (Value.slice A n cap).ownBlock = Option.none ∨ (Value.slice A n cap).ownBlock ≠ r) : OwnE v' B A n cap l := ⟨h.1, hk.row h.2 hne⟩
theorem elemE : Own.Elem Tryz.prog 23 66 (.agg #[.int .i64 0, .int .i64 0]) 2 16 := ⟨Tryz.underlying23, by kernel_rfl, rfl, by decide⟩
theorem push1 (w0 v : World) (ty : TypeId) (A : Option Addr) (n cap : Nat) (l : List (Int × Int)) (e : Int × Int) (hO : OwnE v w0.heap.size A n cap l) (hb : Below w0.heap.size w0 v) (hn : n ≤ 100000) :
    ∃ g' cap' v', (Builtin.append_ #[23, 23] ty #[.slice A n cap, .slice (some ⟨v.heap.size, 0, none⟩) 1 1]).run Tryz.prog (v.alloc (.cells #[.int .i64 e.1, .int .i64 e.2] 66)) = .ok (.slice (some ⟨g', 0, none⟩) (n + 1) cap') v' ∧
      OwnE v' w0.heap.size (some ⟨g', 0, none⟩) (n + 1) cap' (l ++ [e]) ∧ Below w0.heap.size w0 v' ∧ Own.Kept (v.alloc (.cells #[.int .i64 e.1, .int .i64 e.2] 66)) v' (Value.slice A n cap).ownBlock g' := by
  obtain ⟨g', cap', v', h1, h2, h3, h4⟩ := Own.append elemE w0 (v.alloc (.cells #[.int .i64 e.1, .int .i64 e.2] 66)) ty A n cap 1 1 (eC l) (hO.2.alloc _) ⟨v.heap.size, 0, none⟩ [.int .i64 e.1, .int .i64 e.2] rfl (World.news_of_block (cs := #[.int .i64 e.1, .int .i64 e.2]) (heap_alloc_new v _)) (by simp [Value.oneCell']) (by omega) (by unfold maxLen; omega) (by omega) (hb.alloc hb.size _);exact ⟨g', cap', v', h1, ⟨by rw [List.length_append, ← hO.1]; rfl, by rw [eC_app]; exact h2⟩, h3, h4⟩
theorem pushM (w0 v : World) (ty : TypeId) (A : Option Addr) (n cap m c b o : Nat) (l src : List (Int × Int)) (hO : OwnE v w0.heap.size A n cap l) (hS : EIn v (some ⟨b, o, none⟩) src) (hm : m = src.length) (hp : 0 < n + m) (hb : Below w0.heap.size w0 v) (hn : n + m ≤ 100000) :
    ∃ g' cap' v', (Builtin.append_ #[23, 23] ty #[.slice A n cap, .slice (some ⟨b, o, none⟩) m c]).run Tryz.prog v = .ok (.slice (some ⟨g', 0, none⟩) (n + m) cap') v' ∧
      OwnE v' w0.heap.size (some ⟨g', 0, none⟩) (n + m) cap' (l ++ src) ∧ Below w0.heap.size w0 v' ∧ Own.Kept v v' (Value.slice A n cap).ownBlock g' := by
  obtain ⟨g', cap', v', h1, h2, h3, h4⟩ := Own.append elemE w0 v ty A n cap m c (eC l) hO.2 ⟨b, o, none⟩ (eC src) (by rw [eC_len, hm]) hS.news (eC_one _) hp (by unfold maxLen; omega) (by omega) hb;exact ⟨g', cap', v', h1, ⟨by rw [List.length_append, ← hO.1, hm], by rw [eC_app]; exact h2⟩, h3, h4⟩
end Go.Proofs.YtbemmnggmdadeaaGreatDoor.Edg
end
section
namespace Go.Proofs.YtbemmnggmdadeaaGreatDoor.Man
open Go Go.RowKit Go.Lib RowG
def erV (c : Int) : Value := .iface 72 (.int .i64 c)
def vcs (m : MF) (A : Option Addr) (c : Nat) (B : Option Addr) (n d : Nat) : Array Value := #[.int .i64 m.v, .int .i64 m.n, .int .i64 m.e, .slice A m.sh.length c, .int .i64 m.b, .string m.r, .slice B n d]
structure VAt (m : MF) (bl : List ByteArray) (A : Option Addr) (c : Nat) (B : Option Addr) (d g : Nat) (u : World) : Prop where
  st : St.St u g 42 (vcs m A c B bl.length d)
  mi : MIn m A c u
  row : RIn txR u B bl
  le : bl.length ≤ d
  cap : d ≤ maxLen
theorem VAt.on {m : MF} {bl : List ByteArray} {A : Option Addr} {c : Nat} {B : Option Addr} {d g : Nat} {u u' : World} (h : VAt m bl A c B d g u) (hb : Below u.heap.size u u') : VAt m bl A c B d g u' := ⟨h.st.on hb, h.mi.on hb, h.row.on hb, h.le, h.cap⟩
theorem VAt.stc {m : MF} {bl : List ByteArray} {A : Option Addr} {c : Nat} {B : Option Addr} {d g : Nat} {u : World} (h : VAt m bl A c B d g u) : St.St u g 42 #[.int .i64 m.v, .int .i64 m.n, .int .i64 m.e, .slice A m.sh.length c, .int .i64 m.b, .string m.r, .slice B bl.length d] := h.st
theorem ld_M {g : Nat} {w : World} {x0 x1 x2 x3 x4 x5 x6 : Value} (h : St.St w g 42 #[x0, x1, x2, x3, x4, x5, x6]) : (Instr.loadAt 40 (.pointer (some ⟨g, 0, none⟩))).run Tryz.prog w = .ok (.agg #[x0, x1, x2, x3, x4, x5]) w := by
  have c0 := h.cell 0 rfl;have c1 := h.cell 1 rfl;have c2 := h.cell 2 rfl;have c3 := h.cell 3 rfl;have c4 := h.cell 4 rfl;have c5 := h.cell 5 rfl;refine Num.sat_run ?_;go_simp
structure KV (u0 : World) (g : Nat) (cs : Array Value) (u : World) : Prop where
  st : St.St u g 42 cs
  bl : Below u0.heap.size u0 u
  ge : u0.heap.size ≤ g
theorem KV.on {u0 u u' : World} {g : Nat} {cs : Array Value} (h : KV u0 g cs u) (hb : Below u.heap.size u u') : KV u0 g cs u' := ⟨h.st.on hb, h.bl.trans (hb.mono h.bl.size), h.ge⟩
theorem KV.put {u0 u : World} {g : Nat} {cs cs' : Array Value} {x : Value} {e : TypeId} (h : KV u0 g cs u) (i : Nat) (hs : ∀ (w : World) (p : Addr) (c : Value), w.cell? p = some c → w.frozen? p = false → (Instr.storeAt e (.pointer (some p)) x).run Tryz.prog w = .ok () (w.setCell p x)) (hi : i < cs.size) (hc : cs.setIfInBounds i x = cs') :
    ∃ w', (Instr.storeAt e (.pointer (some ⟨g, i, none⟩)) x).run Tryz.prog u = .ok () w' ∧ KV u0 g cs' w' ∧ ∀ b, b ≠ g → w'.heap[b]? = u.heap[b]? := by
  subst hc;obtain ⟨c, hc⟩ : ∃ c, cs[i]? = some c := ⟨cs[i], by simp [hi]⟩;exact ⟨_, hs u _ c (h.st.cell i hc) (h.st.free i), ⟨h.st.put i x, h.bl.trans ((Below.refl u0.heap.size u).setCell h.ge x), h.ge⟩, fun b hb => heap_setCell_other u _ b x hb⟩
theorem rin_turn {α : Type} {R : Rw α} {u u' : World} {b o : Nat} {l : List α} (h : RIn R u (some ⟨b, o, none⟩) l) (e : u'.heap[b]? = u.heap[b]?) : RIn R u' (some ⟨b, o, none⟩) l := fun i a hi => by
  obtain ⟨b1, o1, h1, h2, h3⟩ := h i a hi;cases h1;refine ⟨b, o, rfl, ?_, fun j x hx => ?_⟩
  · rcases Nat.lt_or_ge b u'.heap.size with q | q
    · exact q
    · rw [Array.getElem?_eq_none q, Array.getElem?_eq_getElem h2] at e;cases e
  · have := h3 j x hx;simp only [World.cell?] at this ⊢;rw [e];exact this
theorem sI (x : Int) (w : World) (p : Addr) (c : Value) (h1 : w.cell? p = some c) (h2 : w.frozen? p = false) : (Instr.storeAt 3 (.pointer (some p)) (.int .i64 x)).run Tryz.prog w = .ok () (w.setCell p (.int .i64 x)) := by
  refine Num.satU_run ?_;go_simp
theorem sT (x : ByteArray) (w : World) (p : Addr) (c : Value) (h1 : w.cell? p = some c) (h2 : w.frozen? p = false) : (Instr.storeAt 9 (.pointer (some p)) (.string x)).run Tryz.prog w = .ok () (w.setCell p (.string x)) := by
  refine Num.satU_run ?_;go_simp
theorem sS (A : Option Addr) (n c0 : Nat) (w : World) (p : Addr) (c : Value) (h1 : w.cell? p = some c) (h2 : w.frozen? p = false) : (Instr.storeAt 33 (.pointer (some p)) (.slice A n c0)).run Tryz.prog w = .ok () (w.setCell p (.slice A n c0)) := by
  refine Num.satU_run ?_;go_simp
set_option maxRecDepth 100000 in
set_option maxHeartbeats 1000000 in
theorem make_version (v n E : Int) (X : Value) (w : World) (hv : ¬ (1 ≤ v ∧ v ≤ 1099511627776)) :
    Calls Tryz.prog 9 #[.int .i64 v, .int .i64 n, .int .i64 E, X] w fun e w' => e = .returned (.tuple #[.pointer none, erV 13]) ∧ Below w.heap.size w w' := by
  refine Kn.calls Tryz.func9 rfl Tryz.ntmps9 rfl (.cons (t := 0) rfl (.cons (t := 1) rfl (.cons (t := 2) rfl (.cons (t := 3) rfl .nil)))) fun fa0 fh0 => ?_;refine wp_seq_k fun K1 hK1 => ?_;refine wp_region_lit ?_;refine Kn.pure fh0 rfl rfl .none (Kn.ex_assign fh0 .const) fun fa1 fh1 => ?_;clear fh0 fa0;refine Kn.pure fh1 rfl rfl .none (Kn.ex_assign fh1 .const) fun fa2 fh2 => ?_;clear fh1 fa1;refine wpList_nil ?_;refine hK1 _ _ ?_;clear hK1 K1;refine wp_seq_k fun K2 hK2 => ?_;refine wp_seq_k fun K3 hK3 => ?_;refine wp_region_lit ?_;refine Kn.pure fh2 rfl rfl .none (Kn.ex_move fh2 (.tmp rfl)) fun fa3 fh3 => ?_;clear fh2 fa2;refine Kn.call fh3 rfl rfl .none (Kn.ex_call fh3 (.cons .const (.cons .const (.cons (.tmp rfl) .nil)))) Tryz.call31 (isFrom_no 1 1099511627776 v w hv) fun e ux hp => ?_;obtain ⟨rfl, rfl⟩ := hp;refine ⟨_, rfl, fun fa4 fh4 => ?_⟩;clear fh3 fa3;refine Kn.step fh4 rfl rfl .none (Kn.ex_un fh4 (.tmp rfl)) fun Ko hKo => ?_;go_simp;(try go_bits);refine hKo _ _ fun fa5 fh5 => ?_;clear hKo Ko fh4 fa4;refine wpList_nil ?_;refine hK3 _ _ ?_;clear hK3 K3;replace fh5 := fh5.cut (.cons (t := 17) rfl (.cons (t := 9) rfl (.cons (t := 8) rfl (.cons (t := 0) rfl (.cons (t := 1) rfl (.cons (t := 2) rfl (.cons (t := 3) rfl .nil)))))));refine Kn.yes fh5 (.tmp rfl) ?_;replace fh5 := fh5.cut (.cons (t := 9) rfl (.cons (t := 8) rfl (.cons (t := 0) rfl (.cons (t := 1) rfl (.cons (t := 2) rfl (.cons (t := 3) rfl .nil))))));refine wp_seq_k fun K4 hK4 => ?_;refine wp_region_lit ?_;refine Kn.step fh5 rfl rfl .none (Kn.ex_makeInterface fh5 .const) fun Ko hKo => ?_;go_simp;(try go_bits);refine hKo _ _ fun fa6 fh6 => ?_;clear hKo Ko fh5 fa5;refine Kn.pure fh6 rfl rfl .none (Kn.ex_assign fh6 .const) fun fa7 fh7 => ?_;clear fh6 fa6;refine Kn.pure fh7 rfl rfl .none (Kn.ex_assign fh7 (.tmp rfl)) fun fa8 fh8 => ?_;clear fh7 fa7;refine wpList_nil ?_;refine hK4 _ _ ?_;clear hK4 K4;replace fh8 := fh8.cut (.cons (t := 9) rfl (.cons (t := 8) rfl (.cons (t := 0) rfl (.cons (t := 1) rfl (.cons (t := 2) rfl (.cons (t := 3) rfl .nil))))));refine wp_ret ?_;refine Kn.then_ret ?_;exact Kn.ret2 fh8 rfl rfl rfl ⟨rfl, Below.refl _ _⟩
set_option maxRecDepth 100000 in
set_option maxHeartbeats 1000000 in
theorem make_graph (v n E : Int) (X : Value) (t : TypeId) (y : Value) (w : World) (hv : 1 ≤ v ∧ v ≤ 1099511627776) (hb : Calls Tryz.prog 10 #[.int .i64 n, X] w fun e w' => e = .returned (.tuple #[.pointer none, .iface t y]) ∧ Below w.heap.size w w') :
    Calls Tryz.prog 9 #[.int .i64 v, .int .i64 n, .int .i64 E, X] w fun e w' => e = .returned (.tuple #[.pointer none, .iface t y]) ∧ Below w.heap.size w w' := by
  refine Kn.calls Tryz.func9 rfl Tryz.ntmps9 rfl (.cons (t := 0) rfl (.cons (t := 1) rfl (.cons (t := 2) rfl (.cons (t := 3) rfl .nil)))) fun fa0 fh0 => ?_;refine wp_seq_k fun K1 hK1 => ?_;refine wp_region_lit ?_;refine Kn.pure fh0 rfl rfl .none (Kn.ex_assign fh0 .const) fun fa1 fh1 => ?_;clear fh0 fa0;refine Kn.pure fh1 rfl rfl .none (Kn.ex_assign fh1 .const) fun fa2 fh2 => ?_;clear fh1 fa1;refine wpList_nil ?_;refine hK1 _ _ ?_;clear hK1 K1;refine wp_seq_k fun K2 hK2 => ?_;refine wp_seq_k fun K3 hK3 => ?_;refine wp_region_lit ?_;refine Kn.pure fh2 rfl rfl .none (Kn.ex_move fh2 (.tmp rfl)) fun fa3 fh3 => ?_;clear fh2 fa2;refine Kn.call fh3 rfl rfl .none (Kn.ex_call fh3 (.cons .const (.cons .const (.cons (.tmp rfl) .nil)))) Tryz.call31 (isFrom_yes 1 1099511627776 v w hv) fun e ux hp => ?_;obtain ⟨rfl, rfl⟩ := hp;refine ⟨_, rfl, fun fa4 fh4 => ?_⟩;clear fh3 fa3;refine Kn.step fh4 rfl rfl .none (Kn.ex_un fh4 (.tmp rfl)) fun Ko hKo => ?_;go_simp;(try go_bits);refine hKo _ _ fun fa5 fh5 => ?_;clear hKo Ko fh4 fa4;refine wpList_nil ?_;refine hK3 _ _ ?_;clear hK3 K3;replace fh5 := fh5.cut (.cons (t := 17) rfl (.cons (t := 9) rfl (.cons (t := 8) rfl (.cons (t := 0) rfl (.cons (t := 1) rfl (.cons (t := 2) rfl (.cons (t := 3) rfl .nil)))))));refine Kn.no fh5 (.tmp rfl) ?_;refine wp_skip ?_;refine hK2 _ _ ?_;clear hK2 K2;replace fh5 := fh5.cut (.cons (t := 9) rfl (.cons (t := 8) rfl (.cons (t := 0) rfl (.cons (t := 1) rfl (.cons (t := 2) rfl (.cons (t := 3) rfl .nil))))));refine wp_seq_k fun K4 hK4 => ?_;refine wp_region_lit ?_;refine Kn.pure fh5 rfl rfl .none (Kn.ex_move fh5 (.tmp rfl)) fun fa6 fh6 => ?_;clear fh5 fa5;refine Kn.pure fh6 rfl rfl .none (Kn.ex_move fh6 (.tmp rfl)) fun fa7 fh7 => ?_;clear fh6 fa6;refine Kn.call fh7 rfl rfl .none (Kn.ex_call fh7 (.cons (.tmp rfl) (.cons (.tmp rfl) .nil))) Tryz.call10 (hb) fun e u1 hp => ?_;obtain ⟨rfl, hb1⟩ := hp;refine ⟨_, rfl, fun fa8 fh8 => ?_⟩;clear fh7 fa7;refine Kn.pure fh8 rfl rfl .none (Kn.ex_move fh8 (.tmp rfl)) fun fa9 fh9 => ?_;clear fh8 fa8;refine Kn.pure fh9 rfl rfl .none (Kn.ex_extract fh9 (.tmp rfl) rfl) fun fa10 fh10 => ?_;clear fh9 fa9;refine Kn.pure fh10 rfl rfl .none (Kn.ex_extract fh10 (.tmp rfl) rfl) fun fa11 fh11 => ?_;clear fh10 fa10;refine Kn.pure fh11 rfl rfl .none (Kn.ex_assign fh11 (.tmp rfl)) fun fa12 fh12 => ?_;clear fh11 fa11;refine Kn.pure fh12 rfl rfl .none (Kn.ex_assign fh12 (.tmp rfl)) fun fa13 fh13 => ?_;clear fh12 fa12;refine wpList_nil ?_;refine hK4 _ _ ?_;clear hK4 K4;replace fh13 := fh13.cut (.cons (t := 11) rfl (.cons (t := 10) rfl (.cons (t := 9) rfl (.cons (t := 8) rfl (.cons (t := 0) rfl (.cons (t := 1) rfl (.cons (t := 2) rfl .nil)))))));refine wp_seq_k fun K5 hK5 => ?_;refine wp_seq_k fun K6 hK6 => ?_;refine wp_region_lit ?_;refine Kn.pure fh13 rfl rfl .none (Kn.ex_move fh13 (.tmp rfl)) fun fa14 fh14 => ?_;clear fh13 fa13;refine Kn.step fh14 rfl rfl .none (Kn.ex_bin fh14 (.tmp rfl) .const) fun Ko hKo => ?_;go_simp;(try go_bits);refine hKo _ _ fun fa15 fh15 => ?_;clear hKo Ko fh14 fa14;refine wpList_nil ?_;refine hK6 _ _ ?_;clear hK6 K6;replace fh15 := fh15.cut (.cons (t := 26) rfl (.cons (t := 11) rfl (.cons (t := 10) rfl (.cons (t := 9) rfl (.cons (t := 8) rfl (.cons (t := 0) rfl (.cons (t := 1) rfl (.cons (t := 2) rfl .nil))))))));refine Kn.yes fh15 (.tmp rfl) ?_;replace fh15 := fh15.cut (.cons (t := 11) rfl (.cons (t := 10) rfl (.cons (t := 9) rfl (.cons (t := 8) rfl (.cons (t := 0) rfl (.cons (t := 1) rfl (.cons (t := 2) rfl .nil)))))));refine wp_seq_k fun K7 hK7 => ?_;refine wp_region_lit ?_;refine Kn.pure fh15 rfl rfl .none (Kn.ex_move fh15 (.tmp rfl)) fun fa16 fh16 => ?_;clear fh15 fa15;refine Kn.pure fh16 rfl rfl .none (Kn.ex_assign fh16 .const) fun fa17 fh17 => ?_;clear fh16 fa16;refine Kn.pure fh17 rfl rfl .none (Kn.ex_assign fh17 (.tmp rfl)) fun fa18 fh18 => ?_;clear fh17 fa17;refine wpList_nil ?_;refine hK7 _ _ ?_;clear hK7 K7;replace fh18 := fh18.cut (.cons (t := 9) rfl (.cons (t := 8) rfl (.cons (t := 11) rfl (.cons (t := 10) rfl (.cons (t := 0) rfl (.cons (t := 1) rfl (.cons (t := 2) rfl .nil)))))));refine wp_ret ?_;refine Kn.then_ret ?_;exact Kn.ret2 fh18 rfl rfl rfl ⟨rfl, hb1⟩
set_option maxRecDepth 100000 in
set_option maxHeartbeats 1000000 in
theorem make_split (v n E : Int) (X : Value) (t : TypeId) (y : Value) (w : World) (hv : 1 ≤ v ∧ v ≤ 1099511627776) (hb : Calls Tryz.prog 10 #[.int .i64 n, X] w fun e u => (∃ g, e = .returned (.tuple #[.pointer (some g), .nilIface]) ∧ Calls Tryz.prog 11 #[.pointer (some g), .int .i64 E] u fun e u' => (∃ A, e = .returned (.tuple #[.slice A 0 0, .iface t y])) ∧ Below u.heap.size u u') ∧ Below w.heap.size w u) :
    Calls Tryz.prog 9 #[.int .i64 v, .int .i64 n, .int .i64 E, X] w fun e w' => e = .returned (.tuple #[.pointer none, .iface t y]) ∧ Below w.heap.size w w' := by
  refine Kn.calls Tryz.func9 rfl Tryz.ntmps9 rfl (.cons (t := 0) rfl (.cons (t := 1) rfl (.cons (t := 2) rfl (.cons (t := 3) rfl .nil)))) fun fa0 fh0 => ?_;refine wp_seq_k fun K1 hK1 => ?_;refine wp_region_lit ?_;refine Kn.pure fh0 rfl rfl .none (Kn.ex_assign fh0 .const) fun fa1 fh1 => ?_;clear fh0 fa0;refine Kn.pure fh1 rfl rfl .none (Kn.ex_assign fh1 .const) fun fa2 fh2 => ?_;clear fh1 fa1;refine wpList_nil ?_;refine hK1 _ _ ?_;clear hK1 K1;refine wp_seq_k fun K2 hK2 => ?_;refine wp_seq_k fun K3 hK3 => ?_;refine wp_region_lit ?_;refine Kn.pure fh2 rfl rfl .none (Kn.ex_move fh2 (.tmp rfl)) fun fa3 fh3 => ?_;clear fh2 fa2;refine Kn.call fh3 rfl rfl .none (Kn.ex_call fh3 (.cons .const (.cons .const (.cons (.tmp rfl) .nil)))) Tryz.call31 (isFrom_yes 1 1099511627776 v w hv) fun e ux hp => ?_;obtain ⟨rfl, rfl⟩ := hp;refine ⟨_, rfl, fun fa4 fh4 => ?_⟩;clear fh3 fa3;refine Kn.step fh4 rfl rfl .none (Kn.ex_un fh4 (.tmp rfl)) fun Ko hKo => ?_;go_simp;(try go_bits);refine hKo _ _ fun fa5 fh5 => ?_;clear hKo Ko fh4 fa4;refine wpList_nil ?_;refine hK3 _ _ ?_;clear hK3 K3;replace fh5 := fh5.cut (.cons (t := 17) rfl (.cons (t := 9) rfl (.cons (t := 8) rfl (.cons (t := 0) rfl (.cons (t := 1) rfl (.cons (t := 2) rfl (.cons (t := 3) rfl .nil)))))));refine Kn.no fh5 (.tmp rfl) ?_;refine wp_skip ?_;refine hK2 _ _ ?_;clear hK2 K2;replace fh5 := fh5.cut (.cons (t := 9) rfl (.cons (t := 8) rfl (.cons (t := 0) rfl (.cons (t := 1) rfl (.cons (t := 2) rfl (.cons (t := 3) rfl .nil))))));refine wp_seq_k fun K4 hK4 => ?_;refine wp_region_lit ?_;refine Kn.pure fh5 rfl rfl .none (Kn.ex_move fh5 (.tmp rfl)) fun fa6 fh6 => ?_;clear fh5 fa5;refine Kn.pure fh6 rfl rfl .none (Kn.ex_move fh6 (.tmp rfl)) fun fa7 fh7 => ?_;clear fh6 fa6;refine Kn.call fh7 rfl rfl .none (Kn.ex_call fh7 (.cons (.tmp rfl) (.cons (.tmp rfl) .nil))) Tryz.call10 (hb) fun e u1 hp => ?_;obtain ⟨⟨g, rfl, hs⟩, hb1⟩ := hp;refine ⟨_, rfl, fun fa8 fh8 => ?_⟩;clear fh7 fa7;refine Kn.pure fh8 rfl rfl .none (Kn.ex_move fh8 (.tmp rfl)) fun fa9 fh9 => ?_;clear fh8 fa8;refine Kn.pure fh9 rfl rfl .none (Kn.ex_extract fh9 (.tmp rfl) rfl) fun fa10 fh10 => ?_;clear fh9 fa9;refine Kn.pure fh10 rfl rfl .none (Kn.ex_extract fh10 (.tmp rfl) rfl) fun fa11 fh11 => ?_;clear fh10 fa10;refine Kn.pure fh11 rfl rfl .none (Kn.ex_assign fh11 (.tmp rfl)) fun fa12 fh12 => ?_;clear fh11 fa11;refine Kn.pure fh12 rfl rfl .none (Kn.ex_assign fh12 (.tmp rfl)) fun fa13 fh13 => ?_;clear fh12 fa12;refine wpList_nil ?_;refine hK4 _ _ ?_;clear hK4 K4;replace fh13 := fh13.cut (.cons (t := 11) rfl (.cons (t := 10) rfl (.cons (t := 9) rfl (.cons (t := 8) rfl (.cons (t := 0) rfl (.cons (t := 1) rfl (.cons (t := 2) rfl .nil)))))));refine wp_seq_k fun K5 hK5 => ?_;refine wp_seq_k fun K6 hK6 => ?_;refine wp_region_lit ?_;refine Kn.pure fh13 rfl rfl .none (Kn.ex_move fh13 (.tmp rfl)) fun fa14 fh14 => ?_;clear fh13 fa13;refine Kn.step fh14 rfl rfl .none (Kn.ex_bin fh14 (.tmp rfl) .const) fun Ko hKo => ?_;go_simp;(try go_bits);refine hKo _ _ fun fa15 fh15 => ?_;clear hKo Ko fh14 fa14;refine wpList_nil ?_;refine hK6 _ _ ?_;clear hK6 K6;replace fh15 := fh15.cut (.cons (t := 26) rfl (.cons (t := 11) rfl (.cons (t := 10) rfl (.cons (t := 9) rfl (.cons (t := 8) rfl (.cons (t := 0) rfl (.cons (t := 1) rfl (.cons (t := 2) rfl .nil))))))));refine Kn.no fh15 (.tmp rfl) ?_;refine wp_skip ?_;refine hK5 _ _ ?_;clear hK5 K5;replace fh15 := fh15.cut (.cons (t := 11) rfl (.cons (t := 10) rfl (.cons (t := 9) rfl (.cons (t := 8) rfl (.cons (t := 0) rfl (.cons (t := 1) rfl (.cons (t := 2) rfl .nil)))))));refine wp_seq_k fun K7 hK7 => ?_;refine wp_region_lit ?_;refine Kn.pure fh15 rfl rfl .none (Kn.ex_move fh15 (.tmp rfl)) fun fa16 fh16 => ?_;clear fh15 fa15;refine Kn.pure fh16 rfl rfl .none (Kn.ex_move fh16 (.tmp rfl)) fun fa17 fh17 => ?_;clear fh16 fa16;refine Kn.call fh17 rfl rfl .none (Kn.ex_call fh17 (.cons (.tmp rfl) (.cons (.tmp rfl) .nil))) Tryz.call11 (hs) fun e u2 hp => ?_;obtain ⟨⟨A, rfl⟩, hb2⟩ := hp;refine ⟨_, rfl, fun fa18 fh18 => ?_⟩;clear fh17 fa17;refine Kn.pure fh18 rfl rfl .none (Kn.ex_move fh18 (.tmp rfl)) fun fa19 fh19 => ?_;clear fh18 fa18;refine Kn.pure fh19 rfl rfl .none (Kn.ex_extract fh19 (.tmp rfl) rfl) fun fa20 fh20 => ?_;clear fh19 fa19;refine Kn.pure fh20 rfl rfl .none (Kn.ex_extract fh20 (.tmp rfl) rfl) fun fa21 fh21 => ?_;clear fh20 fa20;refine Kn.pure fh21 rfl rfl .none (Kn.ex_assign fh21 (.tmp rfl)) fun fa22 fh22 => ?_;clear fh21 fa21;refine Kn.pure fh22 rfl rfl .none (Kn.ex_assign fh22 (.tmp rfl)) fun fa23 fh23 => ?_;clear fh22 fa22;refine wpList_nil ?_;refine hK7 _ _ ?_;clear hK7 K7;replace fh23 := fh23.cut (.cons (t := 11) rfl (.cons (t := 12) rfl (.cons (t := 10) rfl (.cons (t := 9) rfl (.cons (t := 8) rfl (.cons (t := 0) rfl (.cons (t := 1) rfl .nil)))))));refine wp_seq_k fun K8 hK8 => ?_;refine wp_seq_k fun K9 hK9 => ?_;refine wp_region_lit ?_;refine Kn.pure fh23 rfl rfl .none (Kn.ex_move fh23 (.tmp rfl)) fun fa24 fh24 => ?_;clear fh23 fa23;refine Kn.step fh24 rfl rfl .none (Kn.ex_bin fh24 (.tmp rfl) .const) fun Ko hKo => ?_;go_simp;(try go_bits);refine hKo _ _ fun fa25 fh25 => ?_;clear hKo Ko fh24 fa24;refine wpList_nil ?_;refine hK9 _ _ ?_;clear hK9 K9;replace fh25 := fh25.cut (.cons (t := 35) rfl (.cons (t := 11) rfl (.cons (t := 12) rfl (.cons (t := 10) rfl (.cons (t := 9) rfl (.cons (t := 8) rfl (.cons (t := 0) rfl (.cons (t := 1) rfl .nil))))))));refine Kn.yes fh25 (.tmp rfl) ?_;replace fh25 := fh25.cut (.cons (t := 11) rfl (.cons (t := 12) rfl (.cons (t := 10) rfl (.cons (t := 9) rfl (.cons (t := 8) rfl (.cons (t := 0) rfl (.cons (t := 1) rfl .nil)))))));refine wp_seq_k fun K10 hK10 => ?_;refine wp_region_lit ?_;refine Kn.pure fh25 rfl rfl .none (Kn.ex_move fh25 (.tmp rfl)) fun fa26 fh26 => ?_;clear fh25 fa25;refine Kn.pure fh26 rfl rfl .none (Kn.ex_assign fh26 .const) fun fa27 fh27 => ?_;clear fh26 fa26;refine Kn.pure fh27 rfl rfl .none (Kn.ex_assign fh27 (.tmp rfl)) fun fa28 fh28 => ?_;clear fh27 fa27;refine wpList_nil ?_;refine hK10 _ _ ?_;clear hK10 K10;replace fh28 := fh28.cut (.cons (t := 9) rfl (.cons (t := 8) rfl (.cons (t := 11) rfl (.cons (t := 12) rfl (.cons (t := 10) rfl (.cons (t := 0) rfl (.cons (t := 1) rfl .nil)))))))
  refine wp_ret ?_;refine Kn.then_ret ?_;exact Kn.ret2 fh28 rfl rfl rfl ⟨rfl, hb1.trans (hb2.mono hb1.size)⟩
structure Made (n E : Int) (X : Value) (ne : Nat) (sh : List (Int × Int)) (ts bl : List ByteArray) (r : ByteArray) (w : World) : Prop where
  build : Calls Tryz.prog 10 #[.int .i64 n, X] w fun e u => (∃ g, e = .returned (.tuple #[.pointer (some ⟨g, 0, none⟩), .nilIface]) ∧
    (∀ u1, Below u.heap.size u u1 → Calls Tryz.prog 15 #[.pointer (some ⟨g, 0, none⟩)] u1 fun e u' => e = .returned (.int .i64 (ne : Int)) ∧ u1 = u') ∧
    Calls Tryz.prog 11 #[.pointer (some ⟨g, 0, none⟩), .int .i64 E] u fun e u' => (∃ A, e = .returned (.tuple #[.slice A ts.length ts.length, .nilIface]) ∧ RIn txR u' A ts) ∧ Below u.heap.size u u') ∧ Below w.heap.size w u
  table : ∀ A u, Below w.heap.size w u → RIn txR u A ts → Calls Tryz.prog 32 #[.int .i64 n, .slice A ts.length ts.length] u fun e u' => (∃ B c, e = .returned (.tuple #[.slice B sh.length c, .nilIface]) ∧ RIn ipR u' B sh ∧ sh.length ≤ c ∧ c ≤ maxLen) ∧ Below u.heap.size u u'
  few : sh.length ≤ 64
  byt : ∀ j, j < sh.length → 3 ≤ byt sh j ∧ byt sh j ≤ 1048576
  cnt : (bl.length : Int) = (totK sh sh.length + 63) / 64
  less : bl.length ≤ 2048
  cut : ∀ A u, Below w.heap.size w u → RIn txR u A ts → Calls Tryz.prog 33 #[.slice A ts.length ts.length] u fun e u' => (∃ b d, e = .returned (.slice (some ⟨b, 0, none⟩) bl.length d) ∧ u.heap.size ≤ b ∧ RIn txR u' (some ⟨b, 0, none⟩) bl ∧ bl.length ≤ d ∧ d ≤ maxLen) ∧ Below u.heap.size u u'
  root : ∀ B d u, Below w.heap.size w u → RIn txR u B bl → bl.length ≤ d → d ≤ maxLen → Calls Tryz.prog 17 #[.slice B bl.length d] u fun e u' => e = .returned (.string r) ∧ Below u.heap.size u u'
set_option maxRecDepth 100000 in
set_option maxHeartbeats 1000000 in
theorem make_made (v n E : Int) (X : Value) (ne : Nat) (sh : List (Int × Int)) (ts bl : List ByteArray) (r : ByteArray) (w : World) (hv : 1 ≤ v ∧ v ≤ 1099511627776) (hM : Made n E X ne sh ts bl r w) :
    Calls Tryz.prog 9 #[.int .i64 v, .int .i64 n, .int .i64 E, X] w fun e w' => (∃ g A c B d, e = .returned (.tuple #[.pointer (some ⟨g, 0, none⟩), .nilIface]) ∧ VAt ⟨v, n, (ne : Int), sh, (bl.length : Int), r⟩ bl A c B d g w') ∧ Below w.heap.size w w' := by
  refine Kn.calls Tryz.func9 rfl Tryz.ntmps9 rfl (.cons (t := 0) rfl (.cons (t := 1) rfl (.cons (t := 2) rfl (.cons (t := 3) rfl .nil)))) fun fa0 fh0 => ?_;refine wp_seq_k fun K1 hK1 => ?_;refine wp_region_lit ?_;refine Kn.pure fh0 rfl rfl .none (Kn.ex_assign fh0 .const) fun fa1 fh1 => ?_;clear fh0 fa0;refine Kn.pure fh1 rfl rfl .none (Kn.ex_assign fh1 .const) fun fa2 fh2 => ?_;clear fh1 fa1;refine wpList_nil ?_;refine hK1 _ _ ?_;clear hK1 K1;refine wp_seq_k fun K2 hK2 => ?_;refine wp_seq_k fun K3 hK3 => ?_;refine wp_region_lit ?_;refine Kn.pure fh2 rfl rfl .none (Kn.ex_move fh2 (.tmp rfl)) fun fa3 fh3 => ?_;clear fh2 fa2;refine Kn.call fh3 rfl rfl .none (Kn.ex_call fh3 (.cons .const (.cons .const (.cons (.tmp rfl) .nil)))) Tryz.call31 (isFrom_yes 1 1099511627776 v w hv) fun e ux hp => ?_;obtain ⟨rfl, rfl⟩ := hp;refine ⟨_, rfl, fun fa4 fh4 => ?_⟩;clear fh3 fa3;refine Kn.step fh4 rfl rfl .none (Kn.ex_un fh4 (.tmp rfl)) fun Ko hKo => ?_;go_simp;(try go_bits);refine hKo _ _ fun fa5 fh5 => ?_;clear hKo Ko fh4 fa4;refine wpList_nil ?_;refine hK3 _ _ ?_;clear hK3 K3;replace fh5 := fh5.cut (.cons (t := 17) rfl (.cons (t := 9) rfl (.cons (t := 8) rfl (.cons (t := 0) rfl (.cons (t := 1) rfl (.cons (t := 2) rfl (.cons (t := 3) rfl .nil)))))));refine Kn.no fh5 (.tmp rfl) ?_;refine wp_skip ?_;refine hK2 _ _ ?_;clear hK2 K2;replace fh5 := fh5.cut (.cons (t := 9) rfl (.cons (t := 8) rfl (.cons (t := 0) rfl (.cons (t := 1) rfl (.cons (t := 2) rfl (.cons (t := 3) rfl .nil))))));refine wp_seq_k fun K4 hK4 => ?_;refine wp_region_lit ?_;refine Kn.pure fh5 rfl rfl .none (Kn.ex_move fh5 (.tmp rfl)) fun fa6 fh6 => ?_;clear fh5 fa5;refine Kn.pure fh6 rfl rfl .none (Kn.ex_move fh6 (.tmp rfl)) fun fa7 fh7 => ?_;clear fh6 fa6;refine Kn.call fh7 rfl rfl .none (Kn.ex_call fh7 (.cons (.tmp rfl) (.cons (.tmp rfl) .nil))) Tryz.call10 (hM.build) fun e u1 hp => ?_;obtain ⟨⟨gc, rfl, hne, hs⟩, hb1⟩ := hp;refine ⟨_, rfl, fun fa8 fh8 => ?_⟩;clear fh7 fa7;refine Kn.pure fh8 rfl rfl .none (Kn.ex_move fh8 (.tmp rfl)) fun fa9 fh9 => ?_;clear fh8 fa8;refine Kn.pure fh9 rfl rfl .none (Kn.ex_extract fh9 (.tmp rfl) rfl) fun fa10 fh10 => ?_;clear fh9 fa9;refine Kn.pure fh10 rfl rfl .none (Kn.ex_extract fh10 (.tmp rfl) rfl) fun fa11 fh11 => ?_;clear fh10 fa10;refine Kn.pure fh11 rfl rfl .none (Kn.ex_assign fh11 (.tmp rfl)) fun fa12 fh12 => ?_;clear fh11 fa11;refine Kn.pure fh12 rfl rfl .none (Kn.ex_assign fh12 (.tmp rfl)) fun fa13 fh13 => ?_;clear fh12 fa12;refine wpList_nil ?_;refine hK4 _ _ ?_;clear hK4 K4;replace fh13 := fh13.cut (.cons (t := 11) rfl (.cons (t := 10) rfl (.cons (t := 9) rfl (.cons (t := 8) rfl (.cons (t := 0) rfl (.cons (t := 1) rfl (.cons (t := 2) rfl .nil)))))));refine wp_seq_k fun K5 hK5 => ?_;refine wp_seq_k fun K6 hK6 => ?_;refine wp_region_lit ?_;refine Kn.pure fh13 rfl rfl .none (Kn.ex_move fh13 (.tmp rfl)) fun fa14 fh14 => ?_;clear fh13 fa13;refine Kn.step fh14 rfl rfl .none (Kn.ex_bin fh14 (.tmp rfl) .const) fun Ko hKo => ?_;go_simp;(try go_bits);refine hKo _ _ fun fa15 fh15 => ?_;clear hKo Ko fh14 fa14;refine wpList_nil ?_;refine hK6 _ _ ?_;clear hK6 K6;replace fh15 := fh15.cut (.cons (t := 26) rfl (.cons (t := 11) rfl (.cons (t := 10) rfl (.cons (t := 9) rfl (.cons (t := 8) rfl (.cons (t := 0) rfl (.cons (t := 1) rfl (.cons (t := 2) rfl .nil))))))));refine Kn.no fh15 (.tmp rfl) ?_;refine wp_skip ?_;refine hK5 _ _ ?_;clear hK5 K5;replace fh15 := fh15.cut (.cons (t := 11) rfl (.cons (t := 10) rfl (.cons (t := 9) rfl (.cons (t := 8) rfl (.cons (t := 0) rfl (.cons (t := 1) rfl (.cons (t := 2) rfl .nil)))))));have HNE := Lib.hid hne;clear hne;refine wp_seq_k fun K7 hK7 => ?_;refine wp_region_lit ?_;refine Kn.pure fh15 rfl rfl .none (Kn.ex_move fh15 (.tmp rfl)) fun fa16 fh16 => ?_;clear fh15 fa15;refine Kn.pure fh16 rfl rfl .none (Kn.ex_move fh16 (.tmp rfl)) fun fa17 fh17 => ?_;clear fh16 fa16;refine Kn.call fh17 rfl rfl .none (Kn.ex_call fh17 (.cons (.tmp rfl) (.cons (.tmp rfl) .nil))) Tryz.call11 (hs) fun e u2 hp => ?_;obtain ⟨⟨A, rfl, hA⟩, hb2⟩ := hp;refine ⟨_, rfl, fun fa18 fh18 => ?_⟩;clear fh17 fa17;refine Kn.pure fh18 rfl rfl .none (Kn.ex_move fh18 (.tmp rfl)) fun fa19 fh19 => ?_;clear fh18 fa18;refine Kn.pure fh19 rfl rfl .none (Kn.ex_extract fh19 (.tmp rfl) rfl) fun fa20 fh20 => ?_;clear fh19 fa19;refine Kn.pure fh20 rfl rfl .none (Kn.ex_extract fh20 (.tmp rfl) rfl) fun fa21 fh21 => ?_;clear fh20 fa20;refine Kn.pure fh21 rfl rfl .none (Kn.ex_assign fh21 (.tmp rfl)) fun fa22 fh22 => ?_;clear fh21 fa21;refine Kn.pure fh22 rfl rfl .none (Kn.ex_assign fh22 (.tmp rfl)) fun fa23 fh23 => ?_;clear fh22 fa22;refine wpList_nil ?_;refine hK7 _ _ ?_;clear hK7 K7;replace fh23 := fh23.cut (.cons (t := 11) rfl (.cons (t := 12) rfl (.cons (t := 10) rfl (.cons (t := 9) rfl (.cons (t := 8) rfl (.cons (t := 0) rfl (.cons (t := 1) rfl .nil)))))));refine wp_seq_k fun K8 hK8 => ?_;refine wp_seq_k fun K9 hK9 => ?_;refine wp_region_lit ?_;refine Kn.pure fh23 rfl rfl .none (Kn.ex_move fh23 (.tmp rfl)) fun fa24 fh24 => ?_;clear fh23 fa23;refine Kn.step fh24 rfl rfl .none (Kn.ex_bin fh24 (.tmp rfl) .const) fun Ko hKo => ?_;go_simp;(try go_bits);refine hKo _ _ fun fa25 fh25 => ?_;clear hKo Ko fh24 fa24;refine wpList_nil ?_;refine hK9 _ _ ?_;clear hK9 K9;replace fh25 := fh25.cut (.cons (t := 35) rfl (.cons (t := 11) rfl (.cons (t := 12) rfl (.cons (t := 10) rfl (.cons (t := 9) rfl (.cons (t := 8) rfl (.cons (t := 0) rfl (.cons (t := 1) rfl .nil))))))));refine Kn.no fh25 (.tmp rfl) ?_;refine wp_skip ?_;refine hK8 _ _ ?_;clear hK8 K8;replace fh25 := fh25.cut (.cons (t := 11) rfl (.cons (t := 12) rfl (.cons (t := 10) rfl (.cons (t := 9) rfl (.cons (t := 8) rfl (.cons (t := 0) rfl (.cons (t := 1) rfl .nil)))))));have HA2 := Lib.hid hA;have HB2 := Lib.hid (hb1.trans (hb2.mono hb1.size));have HC2 := Lib.hid hb2;clear hs hA hb1 hb2;have hta := hM.table A u2 HB2.out HA2.out;refine wp_seq_k fun K10 hK10 => ?_;refine wp_region_lit ?_;refine Kn.pure fh25 rfl rfl .none (Kn.ex_move fh25 (.tmp rfl)) fun fa26 fh26 => ?_;clear fh25 fa25;refine Kn.pure fh26 rfl rfl .none (Kn.ex_move fh26 (.tmp rfl)) fun fa27 fh27 => ?_
  clear fh26 fa26;refine Kn.call fh27 rfl rfl .none (Kn.ex_call fh27 (.cons (.tmp rfl) (.cons (.tmp rfl) .nil))) Tryz.call32 (hta) fun e u3 hp => ?_;obtain ⟨⟨B, c, rfl, hB, hbc, hcm⟩, hb3⟩ := hp;refine ⟨_, rfl, fun fa28 fh28 => ?_⟩;clear fh27 fa27;refine Kn.pure fh28 rfl rfl .none (Kn.ex_move fh28 (.tmp rfl)) fun fa29 fh29 => ?_;clear fh28 fa28;refine Kn.pure fh29 rfl rfl .none (Kn.ex_extract fh29 (.tmp rfl) rfl) fun fa30 fh30 => ?_;clear fh29 fa29;refine Kn.pure fh30 rfl rfl .none (Kn.ex_extract fh30 (.tmp rfl) rfl) fun fa31 fh31 => ?_;clear fh30 fa30;refine Kn.pure fh31 rfl rfl .none (Kn.ex_assign fh31 (.tmp rfl)) fun fa32 fh32 => ?_;clear fh31 fa31;refine Kn.pure fh32 rfl rfl .none (Kn.ex_assign fh32 (.tmp rfl)) fun fa33 fh33 => ?_;clear fh32 fa32;refine wpList_nil ?_;refine hK10 _ _ ?_;clear hK10 K10;replace fh33 := fh33.cut (.cons (t := 11) rfl (.cons (t := 13) rfl (.cons (t := 12) rfl (.cons (t := 10) rfl (.cons (t := 9) rfl (.cons (t := 8) rfl (.cons (t := 0) rfl (.cons (t := 1) rfl .nil))))))));refine wp_seq_k fun K11 hK11 => ?_;refine wp_seq_k fun K12 hK12 => ?_;refine wp_region_lit ?_;refine Kn.pure fh33 rfl rfl .none (Kn.ex_move fh33 (.tmp rfl)) fun fa34 fh34 => ?_;clear fh33 fa33;refine Kn.step fh34 rfl rfl .none (Kn.ex_bin fh34 (.tmp rfl) .const) fun Ko hKo => ?_;go_simp;(try go_bits);refine hKo _ _ fun fa35 fh35 => ?_;clear hKo Ko fh34 fa34;refine wpList_nil ?_;refine hK12 _ _ ?_;clear hK12 K12;replace fh35 := fh35.cut (.cons (t := 44) rfl (.cons (t := 11) rfl (.cons (t := 13) rfl (.cons (t := 12) rfl (.cons (t := 10) rfl (.cons (t := 9) rfl (.cons (t := 8) rfl (.cons (t := 0) rfl (.cons (t := 1) rfl .nil)))))))));refine Kn.no fh35 (.tmp rfl) ?_;refine wp_skip ?_;refine hK11 _ _ ?_;clear hK11 K11;replace fh35 := fh35.cut (.cons (t := 13) rfl (.cons (t := 12) rfl (.cons (t := 10) rfl (.cons (t := 9) rfl (.cons (t := 8) rfl (.cons (t := 0) rfl (.cons (t := 1) rfl .nil)))))));have HB3 := Lib.hid (HB2.out.trans (hb3.mono HB2.out.size));have HC3 := Lib.hid (HC2.out.trans (hb3.mono HC2.out.size));have HA3 := Lib.hid (HA2.out.on hb3);have HR3 := Lib.hid hB;have HCP := Lib.hid (And.intro hbc hcm);have hne3 := HNE.out u3 HC3.out;clear hta hb3 HA2 HB2 HC2 hB hbc hcm HNE;refine wp_seq_k fun K13 hK13 => ?_;refine wp_region_lit ?_;refine Kn.pure fh35 rfl rfl .none (Kn.ex_move fh35 (.tmp rfl)) fun fa36 fh36 => ?_;clear fh35 fa35;refine Kn.pure fh36 rfl rfl .none (Kn.ex_move fh36 (.tmp rfl)) fun fa37 fh37 => ?_;clear fh36 fa36;refine Kn.pure fh37 rfl rfl .none (Kn.ex_move fh37 (.tmp rfl)) fun fa38 fh38 => ?_;clear fh37 fa37;refine Kn.call fh38 rfl rfl .none (Kn.ex_call fh38 (.cons (.tmp rfl) .nil)) Tryz.call15 (hne3) fun e ux hp => ?_;obtain ⟨rfl, rfl⟩ := hp;refine ⟨_, rfl, fun fa39 fh39 => ?_⟩;clear fh38 fa38;refine Kn.pure fh39 rfl rfl .none (Kn.ex_move fh39 (.tmp rfl)) fun fa40 fh40 => ?_;clear fh39 fa39;refine Kn.step fh40 rfl rfl .none (Kn.ex_build fh40 (.cons (.tmp rfl) (.cons (.tmp rfl) (.cons (.tmp rfl) (.cons (.tmp rfl) .nil))))) fun Ko hKo => ?_;go_simp;(try go_bits);refine hKo _ _ fun fa41 fh41 => ?_;clear hKo Ko fh40 fa40;refine Kn.step fh41 rfl rfl .none (Kn.ex_build fh41 (.cons (.tmp rfl) .nil)) fun Ko hKo => ?_;go_simp;(try go_bits);refine hKo _ _ fun fa42 fh42 => ?_;clear hKo Ko fh41 fa41;refine Kn.step fh42 rfl rfl .none (Kn.ex_box fh42 (.tmp rfl)) fun Ko hKo => ?_;go_simp;(try go_bits);refine hKo _ _ fun fa43 fh43 => ?_;clear hKo Ko fh42 fa42;refine Kn.pure fh43 rfl rfl .none (Kn.ex_assign fh43 (.tmp rfl)) fun fa44 fh44 => ?_;clear fh43 fa43;refine wpList_nil ?_;refine hK13 _ _ ?_;clear hK13 K13;replace fh44 := fh44.cut (.cons (t := 14) rfl (.cons (t := 12) rfl (.cons (t := 9) rfl (.cons (t := 8) rfl .nil))));refine Kn.gen (fun u => KV u3 u3.heap.size #[.int .i64 v, .int .i64 n, .int .i64 (ne : Int), .slice B sh.length c, .int .i64 0, .string ⟨#[]⟩, .slice none 0 0] u) ⟨St.St.new u3 _ _, (Below.refl _ u3).alloc (Nat.le_refl _) _, Nat.le_refl _⟩ fun u4 hu4 => ?_;obtain ⟨g, hg⟩ : ∃ g, u3.heap.size = g := ⟨_, rfl⟩;have HV4 : Hid (KV u3 g #[.int .i64 v, .int .i64 n, .int .i64 (ne : Int), .slice B sh.length c, .int .i64 0, .string ⟨#[]⟩, .slice none 0 0] u4) := Lib.hid (by rw [← hg]; exact hu4);rw [hg] at fh44;clear hg hu4 hne3;have hto := totalC_l v n (ne : Int) 0 ⟨#[]⟩ sh B c u4 (HR3.out.on HV4.out.bl) (by have := hM.few; omega) hM.byt;have htb := totK_bd hM.byt sh.length (Nat.le_refl _);have hfw := hM.few;obtain ⟨t, ht⟩ := Int.eq_ofNat_of_zero_le htb.1;rw [ht] at hto htb;have hld := ld_M HV4.out.st
  have hcn : ∀ u, Calls Tryz.prog 16 #[.int .i64 (t : Int)] u fun e u' => e = .returned (.int .i64 (bl.length : Int)) ∧ u = u' := fun u => by
    have h := Blk.count_any t u (by omega)
    rwa [show Blk.cntK t = bl.length by have := hM.cnt; rw [ht] at this; unfold Blk.cntK; omega] at h
  have HCN := Lib.hid hcn;have hls : ¬ (2048 : Int) < (bl.length : Int) := by have := hM.less; omega
  have hl9 : bl.length ≤ 2048 := hM.less;clear hcn htb ht hfw;refine wp_seq_k fun K14 hK14 => ?_;refine wp_region_lit ?_;refine Kn.pure fh44 rfl rfl .none (Kn.ex_move fh44 (.tmp rfl)) fun fa45 fh45 => ?_;clear fh44 fa44;refine Kn.pure fh45 rfl rfl .none (Kn.ex_move fh45 (.tmp rfl)) fun fa46 fh46 => ?_;clear fh45 fa45;refine Kn.pure fh46 rfl rfl .none (Kn.ex_nilCheck fh46 (.tmp rfl)) fun fa47 fh47 => ?_;clear fh46 fa46;refine Kn.step fh47 rfl rfl .none (Kn.ex_fieldAddr fh47 (.tmp rfl)) fun Ko hKo => ?_;go_simp;(try go_bits);refine hKo _ _ fun fa48 fh48 => ?_;clear hKo Ko fh47 fa47;refine Kn.known fh48 rfl rfl .none (Kn.ex_load fh48 (.tmp rfl)) hld fun fa49 fh49 => ?_;clear fh48 fa48;refine Kn.call fh49 rfl rfl .none (Kn.ex_call fh49 (.cons (.tmp rfl) .nil)) Tryz.call30 (hto) fun e u5 hp => ?_;obtain ⟨rfl, hb5⟩ := hp;refine ⟨_, rfl, fun fa50 fh50 => ?_⟩;clear fh49 fa49;refine Kn.call fh50 rfl rfl .none (Kn.ex_call fh50 (.cons (.tmp rfl) .nil)) Tryz.call16 (HCN.out u5) fun e u5x hp => ?_;obtain ⟨rfl, rfl⟩ := hp;refine ⟨_, rfl, fun fa51 fh51 => ?_⟩;clear fh50 fa50;obtain ⟨u6, hst, hV6, -⟩ := (HV4.out.on hb5).put (cs' := #[.int .i64 v, .int .i64 n, .int .i64 (ne : Int), .slice B sh.length c, .int .i64 (bl.length : Int), .string ⟨#[]⟩, .slice none 0 0]) 4 (sI (bl.length : Int)) (by simp) rfl;clear hb5;refine Kn.pure fh51 rfl rfl .none (Kn.ex_nilCheck fh51 (.tmp rfl)) fun fa52 fh52 => ?_;clear fh51 fa51;refine Kn.step fh52 rfl rfl .none (Kn.ex_fieldAddr fh52 (.tmp rfl)) fun Ko hKo => ?_;go_simp;(try go_bits);refine hKo _ _ fun fa53 fh53 => ?_;clear hKo Ko fh52 fa52;refine Kn.step fh53 rfl rfl .none (Kn.ex_fieldAddr fh53 (.tmp rfl)) fun Ko hKo => ?_;go_simp;(try go_bits);refine hKo _ _ fun fa54 fh54 => ?_;clear hKo Ko fh53 fa53;refine Kn.stepU fh54 rfl .none (Kn.ex_store fh54 (.tmp rfl) (.tmp rfl)) fun Ko hKo => ?_;refine Kn.satU_runA hst ?_;refine hKo _ ?_;clear hKo Ko;refine wpList_nil ?_;refine hK14 _ _ ?_;clear hK14 K14;replace fh54 := fh54.cut (.cons (t := 14) rfl (.cons (t := 12) rfl (.cons (t := 9) rfl (.cons (t := 8) rfl .nil))));have HV6 := Lib.hid hV6;have c4 := hV6.st.cell 4 rfl;clear hst hV6 hto hld HCN;refine wp_seq_k fun K15 hK15 => ?_;refine wp_seq_k fun K16 hK16 => ?_;refine wp_region_lit ?_;refine Kn.pure fh54 rfl rfl .none (Kn.ex_move fh54 (.tmp rfl)) fun fa55 fh55 => ?_;clear fh54 fa54;refine Kn.pure fh55 rfl rfl .none (Kn.ex_nilCheck fh55 (.tmp rfl)) fun fa56 fh56 => ?_;clear fh55 fa55;refine Kn.step fh56 rfl rfl .none (Kn.ex_fieldAddr fh56 (.tmp rfl)) fun Ko hKo => ?_;go_simp;(try go_bits);refine hKo _ _ fun fa57 fh57 => ?_;clear hKo Ko fh56 fa56;refine Kn.step fh57 rfl rfl .none (Kn.ex_fieldAddr fh57 (.tmp rfl)) fun Ko hKo => ?_;go_simp;(try go_bits);refine hKo _ _ fun fa58 fh58 => ?_;clear hKo Ko fh57 fa57;refine Kn.step fh58 rfl rfl .none (Kn.ex_load fh58 (.tmp rfl)) fun Ko hKo => ?_;go_simp;(try go_bits);refine hKo _ _ fun fa59 fh59 => ?_;clear hKo Ko fh58 fa58;refine Kn.step fh59 rfl rfl .none (Kn.ex_bin fh59 (.tmp rfl) .const) fun Ko hKo => ?_;go_simp;(try go_bits);refine hKo _ _ fun fa60 fh60 => ?_;clear hKo Ko fh59 fa59;refine wpList_nil ?_;refine hK16 _ _ ?_;clear hK16 K16;replace fh60 := fh60.cut (.cons (t := 69) rfl (.cons (t := 14) rfl (.cons (t := 12) rfl (.cons (t := 9) rfl (.cons (t := 8) rfl .nil)))));refine Kn.no fh60 (.tmp rfl) ?_;refine wp_skip ?_;refine hK15 _ _ ?_;clear hK15 K15;replace fh60 := fh60.cut (.cons (t := 14) rfl (.cons (t := 12) rfl (.cons (t := 9) rfl (.cons (t := 8) rfl .nil))));clear c4 HV4;have hcu := hM.cut A u6 (HB3.out.trans (HV6.out.bl.mono HB3.out.size)) (HA3.out.on HV6.out.bl);refine wp_seq_k fun K17 hK17 => ?_;refine wp_region_lit ?_;refine Kn.pure fh60 rfl rfl .none (Kn.ex_move fh60 (.tmp rfl)) fun fa61 fh61 => ?_;clear fh60 fa60;refine Kn.pure fh61 rfl rfl .none (Kn.ex_move fh61 (.tmp rfl)) fun fa62 fh62 => ?_;clear fh61 fa61;refine Kn.call fh62 rfl rfl .none (Kn.ex_call fh62 (.cons (.tmp rfl) .nil)) Tryz.call33 (hcu) fun e u7 hp => ?_;obtain ⟨⟨b2, d, rfl, hb2g, hB2, hbd, hdm⟩, hb7⟩ := hp;refine ⟨_, rfl, fun fa63 fh63 => ?_⟩;clear fh62 fa62;obtain ⟨u8, hst, hV8, hk8⟩ := (HV6.out.on hb7).put (cs' := #[.int .i64 v, .int .i64 n, .int .i64 (ne : Int), .slice B sh.length c, .int .i64 (bl.length : Int), .string ⟨#[]⟩, .slice (some ⟨b2, 0, none⟩) bl.length d]) 6 (sS (some ⟨b2, 0, none⟩) bl.length d) (by simp) rfl;refine Kn.pure fh63 rfl rfl .none (Kn.ex_nilCheck fh63 (.tmp rfl)) fun fa64 fh64 => ?_;clear fh63 fa63;refine Kn.step fh64 rfl rfl .none (Kn.ex_fieldAddr fh64 (.tmp rfl)) fun Ko hKo => ?_;go_simp;(try go_bits);refine hKo _ _ fun fa65 fh65 => ?_;clear hKo Ko fh64 fa64;refine Kn.stepU fh65 rfl .none (Kn.ex_store fh65 (.tmp rfl) (.tmp rfl)) fun Ko hKo => ?_;refine Kn.satU_runA hst ?_;refine hKo _ ?_;clear hKo Ko;refine wpList_nil ?_;refine hK17 _ _ ?_;clear hK17 K17;replace fh65 := fh65.cut (.cons (t := 14) rfl (.cons (t := 9) rfl (.cons (t := 8) rfl .nil)));have hbg : b2 ≠ g := by have := HV6.out.st.lt; omega
  have HR8 := Lib.hid (rin_turn hB2 (hk8 b2 hbg));have HBG := Lib.hid hbg;have HV8 := Lib.hid hV8;have c6 := hV8.st.cell 6 rfl;have HBD := Lib.hid (And.intro hbd hdm);have hro := hM.root _ d u8 (HB3.out.trans (hV8.bl.mono HB3.out.size)) HR8.out hbd hdm;clear hcu hst hV8 hbd hdm hbg hk8 hb2g hB2 hb7 HV6;refine wp_seq_k fun K18 hK18 => ?_;refine wp_region_lit ?_;refine Kn.pure fh65 rfl rfl .none (Kn.ex_move fh65 (.tmp rfl)) fun fa66 fh66 => ?_;clear fh65 fa65;refine Kn.pure fh66 rfl rfl .none (Kn.ex_move fh66 (.tmp rfl)) fun fa67 fh67 => ?_;clear fh66 fa66;refine Kn.pure fh67 rfl rfl .none (Kn.ex_nilCheck fh67 (.tmp rfl)) fun fa68 fh68 => ?_;clear fh67 fa67;refine Kn.step fh68 rfl rfl .none (Kn.ex_fieldAddr fh68 (.tmp rfl)) fun Ko hKo => ?_;go_simp;(try go_bits);refine hKo _ _ fun fa69 fh69 => ?_;clear hKo Ko fh68 fa68;refine Kn.step fh69 rfl rfl .none (Kn.ex_load fh69 (.tmp rfl)) fun Ko hKo => ?_;go_simp;(try go_bits);refine hKo _ _ fun fa70 fh70 => ?_;clear hKo Ko fh69 fa69;refine Kn.call fh70 rfl rfl .none (Kn.ex_call fh70 (.cons (.tmp rfl) .nil)) Tryz.call17 (hro) fun e u9 hp => ?_;obtain ⟨rfl, hb9⟩ := hp;refine ⟨_, rfl, fun fa71 fh71 => ?_⟩;clear fh70 fa70;obtain ⟨u10, hst, hV10, hk10⟩ := (HV8.out.on hb9).put (cs' := #[.int .i64 v, .int .i64 n, .int .i64 (ne : Int), .slice B sh.length c, .int .i64 (bl.length : Int), .string r, .slice (some ⟨b2, 0, none⟩) bl.length d]) 5 (sT r) (by simp) rfl;refine Kn.pure fh71 rfl rfl .none (Kn.ex_nilCheck fh71 (.tmp rfl)) fun fa72 fh72 => ?_;clear fh71 fa71;refine Kn.step fh72 rfl rfl .none (Kn.ex_fieldAddr fh72 (.tmp rfl)) fun Ko hKo => ?_;go_simp;(try go_bits);refine hKo _ _ fun fa73 fh73 => ?_;clear hKo Ko fh72 fa72;refine Kn.step fh73 rfl rfl .none (Kn.ex_fieldAddr fh73 (.tmp rfl)) fun Ko hKo => ?_;go_simp;(try go_bits);refine hKo _ _ fun fa74 fh74 => ?_;clear hKo Ko fh73 fa73;refine Kn.stepU fh74 rfl .none (Kn.ex_store fh74 (.tmp rfl) (.tmp rfl)) fun Ko hKo => ?_;refine Kn.satU_runA hst ?_;refine hKo _ ?_;clear hKo Ko;refine wpList_nil ?_;refine hK18 _ _ ?_;clear hK18 K18;replace fh74 := fh74.cut (.cons (t := 14) rfl (.cons (t := 9) rfl (.cons (t := 8) rfl .nil)));refine wp_seq_k fun K19 hK19 => ?_;refine wp_region_lit ?_;refine Kn.pure fh74 rfl rfl .none (Kn.ex_move fh74 (.tmp rfl)) fun fa75 fh75 => ?_;clear fh74 fa74;refine Kn.pure fh75 rfl rfl .none (Kn.ex_assign fh75 (.tmp rfl)) fun fa76 fh76 => ?_;clear fh75 fa75;refine Kn.pure fh76 rfl rfl .none (Kn.ex_assign fh76 .const) fun fa77 fh77 => ?_;clear fh76 fa76;refine wpList_nil ?_;refine hK19 _ _ ?_;clear hK19 K19;replace fh77 := fh77.cut (.cons (t := 9) rfl (.cons (t := 8) rfl .nil));refine wp_ret ?_;exact Kn.ret2 fh77 rfl rfl rfl ⟨⟨g, B, c, some ⟨b2, 0, none⟩, d, rfl, hV10.st, ⟨HR3.out.on hV10.bl, HCP.out.1, HCP.out.2, by have := hM.few; show sh.length ≤ 100; omega⟩, rin_turn (HR8.out.on hb9) (hk10 b2 HBG.out), HBD.out.1, HBD.out.2⟩, HB3.out.trans (hV10.bl.mono HB3.out.size)⟩
end Go.Proofs.YtbemmnggmdadeaaGreatDoor.Man
end
section
namespace Go.Proofs.YtbemmnggmdadeaaGreatDoor.Gap
open Go Go.RowKit Go.Lib Oct
abbrev G4 := Int × Int × Int × Int
def rdG (s : ByteArray) (p : Int) : G4 :=
  if p < 0 ∨ (s.size : Int) < p then (0, p, 1, p)
  else if (rd (s.data.toList.drop p.toNat)).2.2 = 0 then (((rd (s.data.toList.drop p.toNat)).1 : Int), p + ((rd (s.data.toList.drop p.toNat)).2.1 : Int), 0, 0)
  else if (rd (s.data.toList.drop p.toNat)).2.2 = 3 then (0, p, 3, (s.size : Int)) else (0, p, 4, p)
theorem rdG_ok {s : ByteArray} {p x nx a : Int} (h : rdG s p = (x, nx, 0, a)) : (0 ≤ x ∧ x ≤ 72057594037927935) ∧ 0 ≤ p ∧ p < nx ∧ nx ≤ s.size ∧ a = 0 ∧ (rd (s.data.toList.drop p.toNat)).2.2 = 0 ∧ x = ((rd (s.data.toList.drop p.toNat)).1 : Int) ∧ nx = p + ((rd (s.data.toList.drop p.toNat)).2.1 : Int) := by
  unfold rdG at h
  split at h
  · simp at h
  · rename_i hp
    split at h
    · rename_i h0;obtain ⟨_, h2, h3, h4, _⟩ := short_of_rd _ h0;have hl : (s.data.toList.drop p.toNat).length = s.size - p.toNat := by rw [List.length_drop]; rfl
      simp only [Prod.mk.injEq] at h;obtain ⟨rfl, rfl, -, rfl⟩ := h;exact ⟨⟨by omega, by omega⟩, by omega, by omega, by omega, rfl, h0, rfl, rfl⟩
    · split at h <;> simp at h
theorem rdG_bad {s : ByteArray} {p x nx e a : Int} (h : rdG s p = (x, nx, e, a)) (he : e ≠ 0) : x = 0 ∧ nx = p ∧ (e = 1 ∨ e = 3 ∨ e = 4) := by
  unfold rdG at h
  split at h
  · simp only [Prod.mk.injEq] at h; obtain ⟨rfl, rfl, rfl, rfl⟩ := h; exact ⟨rfl, rfl, .inl rfl⟩
  · split at h
    · simp only [Prod.mk.injEq] at h; obtain ⟨rfl, rfl, rfl, rfl⟩ := h; exact absurd rfl he
    · split at h
      · simp only [Prod.mk.injEq] at h; obtain ⟨rfl, rfl, rfl, rfl⟩ := h; exact ⟨rfl, rfl, .inr (.inl rfl)⟩
      · simp only [Prod.mk.injEq] at h; obtain ⟨rfl, rfl, rfl, rfl⟩ := h; exact ⟨rfl, rfl, .inr (.inr rfl)⟩
def cnt (s : ByteArray) (p N : Int) : G4 := if (rdG s p).2.2.1 = 0 ∧ N < (rdG s p).1 then (0, p, 4, p) else rdG s p
def skF (s : ByteArray) (at0 : Int) : Nat → Int → Int × Int × Int
  | 0, nx => (nx, 0, 0)
  | k + 1, nx => if (rdG s nx).2.2.1 = 0 then skF s at0 k (rdG s nx).2.1 else (at0, (rdG s nx).2.2.1, (rdG s nx).2.2.2)
theorem skF_ok {s : ByteArray} {at0 nx x n2 a : Int} {k : Nat} (h : rdG s nx = (x, n2, 0, a)) : skF s at0 (k + 1) nx = skF s at0 k n2 := by rw [skF, h]; simp
def bkI (x : Int) : Int := if x % 2 = 1 then -((x + 1) / 2) else x / 2
def gtF (s : ByteArray) (N : Int) : Nat → Bool → Int → Int → (Int × Int) ⊕ (List Int × Int)
  | 0, _, _, nx => .inr ([], nx)
  | k + 1, first, now, nx =>
    if (rdG s nx).2.2.1 = 0 then
      (let now' := if first then now + bkI (rdG s nx).1 else now + (rdG s nx).1 + 1
       if now' < 0 ∨ N ≤ now' then .inl (4, nx) else match gtF s N k false now' (rdG s nx).2.1 with
        | .inl e => .inl e
        | .inr (l, n2) => .inr (now' :: l, n2))
    else .inl ((rdG s nx).2.2.1, (rdG s nx).2.2.2)
def GotYet (s : ByteArray) (N : Int) (k : Nat) (first : Bool) (now nx : Int) (done : List Int) (r : (Int × Int) ⊕ (List Int × Int)) : Prop := r = (match gtF s N k first now nx with
  | .inl e => .inl e
  | .inr (l, n2) => .inr (done ++ l, n2))
theorem GotYet.start {s : ByteArray} {N : Int} {k : Nat} {now nx : Int} : GotYet s N k true now nx [] (gtF s N k true now nx) := by
  unfold GotYet
  cases gtF s N k true now nx with
  | inl e => rfl
  | inr p => obtain ⟨l, n2⟩ := p; rfl
theorem GotYet.done {s : ByteArray} {N : Int} {first : Bool} {now nx : Int} {done : List Int} {r : (Int × Int) ⊕ (List Int × Int)} (h : GotYet s N 0 first now nx done r) : r = .inr (done, nx) := by
  unfold GotYet at h;rw [gtF] at h
  simpa using h
theorem GotYet.bad {s : ByteArray} {N : Int} {k : Nat} {first : Bool} {now nx x n2 e a : Int} {done : List Int} {r : (Int × Int) ⊕ (List Int × Int)} (h : GotYet s N (k + 1) first now nx done r) (hr : rdG s nx = (x, n2, e, a)) (he : e ≠ 0) : r = .inl (e, a) := by
  unfold GotYet at h;rw [gtF, hr] at h
  simpa [he] using h
theorem GotYet.out {s : ByteArray} {N : Int} {k : Nat} {first : Bool} {now nx x n2 a : Int} {done : List Int} {r : (Int × Int) ⊕ (List Int × Int)} (h : GotYet s N (k + 1) first now nx done r) (hr : rdG s nx = (x, n2, 0, a)) (ho : (if first then now + bkI x else now + x + 1) < 0 ∨ N ≤ (if first then now + bkI x else now + x + 1)) : r = .inl (4, nx) := by
  unfold GotYet at h;rw [gtF, hr] at h;simp only [if_true] at h;rw [if_pos ho] at h;exact h
theorem GotYet.next {s : ByteArray} {N : Int} {k : Nat} {first : Bool} {now nx x n2 a : Int} {done : List Int} {r : (Int × Int) ⊕ (List Int × Int)} (h : GotYet s N (k + 1) first now nx done r) (hr : rdG s nx = (x, n2, 0, a)) (y : Int) (hy : (if first then now + bkI x else now + x + 1) = y) (ho : ¬ (y < 0 ∨ N ≤ y)) : GotYet s N k false y n2 (done ++ [y]) r := by
  unfold GotYet at *;rw [gtF, hr] at h;simp only [if_true] at h;rw [hy, if_neg ho] at h;rw [h]
  cases gtF s N k false y n2 with
  | inl e => rfl
  | inr p => obtain ⟨l, n3⟩ := p; simp
def badT (N : Int) (l : List Int) (i : Nat) : Prop := l.getD i 0 < 0 ∨ N ≤ l.getD i 0 ∨ (0 < i ∧ l.getD i 0 ≤ l.getD (i - 1) 0)
instance (N : Int) (l : List Int) (i : Nat) : Decidable (badT N l i) := by unfold badT; infer_instance
def putF (v : Int) (l : List Int) : Nat → List UInt8
  | 0 => short l.length
  | 1 => short l.length ++ short (turnOf (l.getD 0 0 - v)).toNat
  | k + 2 => putF v l (k + 1) ++ short (l.getD (k + 1) 0 - l.getD k 0 - 1).toNat
end Go.Proofs.YtbemmnggmdadeaaGreatDoor.Gap
end
section
namespace Go.Proofs.YtbemmnggmdadeaaGreatDoor.Gap
open Go Go.RowKit Go.Lib Oct Num
def st1 (first : Bool) (now t : Int) : List UInt8 := if first then short (turnOf (t - now)).toNat else short (t - now - 1).toNat
def sts : Bool → Int → List Int → List UInt8
  | _, _, [] => []
  | first, now, t :: l => st1 first now t ++ sts false t l
def Rises (N : Int) : Bool → Int → List Int → Prop
  | _, _, [] => True
  | first, now, t :: l => (0 ≤ t ∧ t < N) ∧ (first = false → now < t) ∧ Rises N false t l
theorem bk_turn (x : Int) (h0 : -36028797018963968 ≤ x) (h1 : x < 36028797018963968) : bkI ((turnOf x).toNat : Int) = x := by
  have e : turnOf x = if x < 0 then -2 * x - 1 else 2 * x := by unfold turnOf; rw [if_pos ⟨h0, h1⟩]
  rw [e];unfold bkI
  by_cases hx : x < 0
  · rw [if_pos hx, if_pos (by omega)]; omega
  · rw [if_neg hx, if_neg (by omega)]; omega
theorem turn_bk (x : Int) (h0 : 0 ≤ x) (h1 : x ≤ 72057594037927935) : turnOf (bkI x) = x := by
  unfold turnOf bkI
  split
  · rw [if_pos (by omega), if_pos (by omega)]; omega
  · rw [if_pos (by omega), if_neg (by omega)]; omega
theorem turn_lt (x : Int) (h0 : -100000 ≤ x) (h1 : x ≤ 100000) : (turnOf x).toNat < 2 ^ 56 := by
  unfold turnOf;rw [if_pos (by omega)]
  split <;> omega
theorem rdG_at {s : ByteArray} {p n : Nat} {t : List UInt8} (hn : n < 2 ^ 56) (hp : p ≤ s.size) (h : s.data.toList.drop p = short n ++ t) : rdG s (p : Int) = ((n : Int), ((p + (short n).length : Nat) : Int), 0, 0) := by
  unfold rdG;rw [if_neg (by omega), Int.toNat_natCast, h, rd_short n t hn];simp
theorem drop_app {s : ByteArray} {p : Nat} {a t : List UInt8} (h : s.data.toList.drop p = a ++ t) : s.data.toList.drop (p + a.length) = t := by
  rw [← List.drop_drop, h, List.drop_left]
theorem drop_le {s : ByteArray} {p : Nat} {a t : List UInt8} (hp : p ≤ s.size) (h : s.data.toList.drop p = a ++ t) : p + a.length ≤ s.size := by
  have := congrArg List.length h;rw [List.length_drop, List.length_append] at this;have e : s.data.toList.length = s.size := rfl;omega
theorem gtF_at {s : ByteArray} {N : Int} (hN : N ≤ 4096) : ∀ (l : List Int) (first : Bool) (now : Int) (p : Nat) (t : List UInt8), 0 ≤ now → now ≤ 4096 → Rises N first now l → p ≤ s.size → s.data.toList.drop p = sts first now l ++ t →
    gtF s N l.length first now (p : Int) = .inr (l, ((p + (sts first now l).length : Nat) : Int))
  | [], first, now, p, t, _, _, _, _, _ => by simp [gtF, sts]
  | x :: l, first, now, p, t, h0, h1, hR, hp, h => by
    obtain ⟨hx, hup, hr⟩ := hR;rw [sts, List.append_assoc] at h;have ih := gtF_at hN l false x (p + (st1 first now x).length) t (by omega) (by omega) hr (drop_le hp h) (drop_app h);rw [List.length_cons, gtF, sts, List.length_append]
    cases first with
    | true =>
      have e := rdG_at (turn_lt (x - now) (by omega) (by omega)) hp (show s.data.toList.drop p = short (turnOf (x - now)).toNat ++ _ from h);rw [e];simp only [if_true];rw [bk_turn (x - now) (by omega) (by omega), show now + (x - now) = x by omega, if_neg (by omega)];rw [show (st1 true now x) = short (turnOf (x - now)).toNat from rfl] at ih ⊢;rw [ih, Nat.add_assoc]
    | false =>
      have := hup rfl;have e := rdG_at (n := (x - now - 1).toNat) (by omega) hp (show s.data.toList.drop p = short (x - now - 1).toNat ++ _ from h);rw [e];simp only [if_true, Bool.false_eq_true, if_false];rw [show now + ((x - now - 1).toNat : Int) + 1 = x by omega, if_neg (by omega)];rw [show (st1 false now x) = short (x - now - 1).toNat from rfl] at ih ⊢;rw [ih, Nat.add_assoc]
theorem gtF_is {s : ByteArray} {N : Int} (hN : N ≤ 4096) : ∀ (k : Nat) (first : Bool) (now : Int) (p : Nat) (l : List Int) (nx : Int), 0 ≤ now → now < N → p ≤ s.size → gtF s N k first now (p : Int) = .inr (l, nx) →
    l.length = k ∧ Rises N first now l ∧ nx = ((p + (sts first now l).length : Nat) : Int) ∧ nx ≤ s.size ∧ s.data.toList.drop p = sts first now l ++ s.data.toList.drop (p + (sts first now l).length)
  | 0, first, now, p, l, nx, _, _, hp, h => by
    rw [gtF] at h;injection h with h
    injection h with h1 h2
    subst h1 h2;exact ⟨rfl, trivial, by simp [sts], by omega, by simp [sts]⟩
  | k + 1, first, now, p, l, nx, h0, h1, hp, h => by
    rw [gtF] at h;rcases hg : rdG s (p : Int) with ⟨x, n2, e, a⟩;rw [hg] at h;simp only at h
    by_cases he : e = 0
    · subst he;rw [if_pos rfl] at h;obtain ⟨⟨hx0, hx1⟩, -, hpn, hns, -, hz, hxe, hne⟩ := rdG_ok hg;rw [Int.toNat_natCast] at hz hxe hne;have hsr := short_of_rd _ hz;obtain ⟨y, hy⟩ : ∃ y, (if first = true then now + bkI x else now + x + 1) = y := ⟨_, rfl⟩;rw [hy] at h
      by_cases hb : y < 0 ∨ N ≤ y
      · rw [if_pos hb] at h; cases h
      rw [if_neg hb] at h;obtain ⟨q, hq⟩ : ∃ q : Nat, n2 = (q : Int) := ⟨n2.toNat, by omega⟩;rw [hq] at h
      cases hr : gtF s N k false y (q : Int) with
      | inl z => rw [hr] at h; cases h
      | inr z =>
        obtain ⟨l2, n3⟩ := z;rw [hr] at h;simp only at h;injection h with h
        injection h with e1 e2
        subst e1 e2;obtain ⟨i1, i2, i3, i4, i5⟩ := gtF_is hN k false y q l2 n3 (by omega) (by omega) (by omega) hr
        have hst : st1 first now y = short x.toNat := by
          unfold st1
          cases first with
          | true =>
            simp only [if_true] at hy ⊢;rw [show y - now = bkI x by omega, turn_bk x hx0 hx1]
          | false =>
            simp only [Bool.false_eq_true, if_false] at hy ⊢;rw [show y - now - 1 = x by omega]
        have hup : first = false → now < y := fun hf => by
          subst hf;simp only [Bool.false_eq_true, if_false] at hy;omega
        have hxn : x.toNat = (rd (s.data.toList.drop p)).1 := by omega
        obtain ⟨g1, g2, g3, g4, g5⟩ := hsr
        have hlen : (short x.toNat).length = (rd (s.data.toList.drop p)).2.1 := by
          have := congrArg List.length g1;rw [List.length_take] at this;rw [hxn];omega
        have hqp : q = p + (st1 first now y).length := by rw [hst, hlen]; omega
        have hd : s.data.toList.drop p = st1 first now y ++ s.data.toList.drop q := by
          rw [hqp, ← List.drop_drop, hst, hlen, hxn, g1, List.take_append_drop]
        refine ⟨by rw [List.length_cons, i1], ⟨⟨by omega, by omega⟩, hup, i2⟩, ?_, i4, ?_⟩
        · rw [sts, List.length_append, i3, hqp]; congr 1; omega
        · rw [sts, List.length_append, List.append_assoc];rw [hd, i5, hqp, Nat.add_assoc]
    · rw [if_neg he] at h; cases h
theorem skF_of_gtF {s : ByteArray} {N at0 : Int} : ∀ (k : Nat) (first : Bool) (now p : Int) (l : List Int) (nx : Int), gtF s N k first now p = .inr (l, nx) → skF s at0 k p = (nx, 0, 0)
  | 0, first, now, p, l, nx, h => by
    rw [gtF] at h;injection h with h
    injection h with h1 h2
    subst h2
    rfl
  | k + 1, first, now, p, l, nx, h => by
    rw [gtF] at h;rcases hg : rdG s p with ⟨x, n2, e, a⟩;rw [hg] at h;simp only at h
    by_cases he : e = 0
    · subst he;rw [if_pos rfl] at h;rw [skF_ok hg];obtain ⟨y, hy⟩ : ∃ y, (if first = true then now + bkI x else now + x + 1) = y := ⟨_, rfl⟩;rw [hy] at h
      by_cases hb : y < 0 ∨ N ≤ y
      · rw [if_pos hb] at h; cases h
      rw [if_neg hb] at h
      cases hr : gtF s N k false y n2 with
      | inl z => rw [hr] at h; cases h
      | inr z =>
        obtain ⟨l2, n3⟩ := z;rw [hr] at h;simp only at h;injection h with h
        injection h with e1 e2
        subst e2;exact skF_of_gtF k false y n2 l2 n3 hr
    · rw [if_neg he] at h; cases h
def lastOf (now : Int) : List Int → Int
  | [] => now
  | t :: l => lastOf t l
theorem sts_snoc : ∀ (l : List Int) (first : Bool) (now t : Int), sts first now (l ++ [t]) = sts first now l ++ st1 (first && l.isEmpty) (lastOf now l) t
  | [], first, now, t => by simp [sts, lastOf]
  | x :: l, first, now, t => by
    rw [List.cons_append, sts, sts, sts_snoc l false x t, List.append_assoc];simp [lastOf]
theorem lastOf_take (now : Int) : ∀ (l : List Int) (k : Nat), k < l.length → lastOf now (l.take (k + 1)) = l.getD k 0
  | [], k, h => absurd h (by simp)
  | x :: l, 0, _ => by simp [lastOf]
  | x :: l, k + 1, h => by
    rw [List.take_succ_cons, lastOf, lastOf_take x l k (by simpa using h)];simp
theorem putF_sts (v : Int) (l : List Int) : ∀ k, k ≤ l.length → putF v l k = short l.length ++ sts true v (l.take k)
  | 0, _ => by simp [putF, sts]
  | 1, h => by
    rw [putF, take_nt l 0 h];simp [sts, st1, nt]
  | k + 2, h => by
    rw [putF, putF_sts v l (k + 1) (by omega), take_nt l (k + 1) h, sts_snoc, ← List.append_assoc, lastOf_take v l k (by omega)]
    have e : (l.take (k + 1)).isEmpty = false := by
      cases hl : l.take (k + 1) with
      | nil => have := congrArg List.length hl; rw [List.length_take, List.length_nil] at this; omega
      | cons a b => rfl
    rw [e]
    rfl
theorem putF_all (v : Int) (l : List Int) : putF v l l.length = short l.length ++ sts true v l := by rw [putF_sts v l l.length (Nat.le_refl _), List.take_length]
theorem rises_of {N : Int} : ∀ (l : List Int) (first : Bool) (now : Int), (∀ i, i < l.length → 0 ≤ nt l i ∧ nt l i < N) → (∀ i, i + 1 < l.length → nt l i < nt l (i + 1)) → (first = false → 0 < l.length → now < nt l 0) → Rises N first now l
  | [], _, _, _, _, _ => trivial
  | x :: l, first, now, h1, h2, h3 => by
    refine ⟨h1 0 (by simp), fun hf => h3 hf (by simp), rises_of l false x (fun i hi => h1 (i + 1) (by simpa using hi)) (fun i hi => h2 (i + 1) (by simpa using hi)) (fun _ hl => h2 0 (by simpa using hl))⟩
theorem of_rises {N : Int} : ∀ (l : List Int) (first : Bool) (now : Int), Rises N first now l → (∀ i, i < l.length → 0 ≤ nt l i ∧ nt l i < N) ∧ (∀ i, i + 1 < l.length → nt l i < nt l (i + 1)) ∧ (first = false → 0 < l.length → now < nt l 0)
  | [], _, _, _ => ⟨fun i hi => absurd hi (by simp), fun i hi => absurd hi (by simp), fun _ h => absurd h (by simp)⟩
  | x :: l, first, now, ⟨hx, hup, hr⟩ => by
    obtain ⟨i1, i2, i3⟩ := of_rises l false x hr;refine ⟨fun i hi => ?_, fun i hi => ?_, fun hf _ => hup hf⟩
    · cases i with
      | zero => exact hx
      | succ i => exact i1 i (by simpa using hi)
    · cases i with
      | zero => exact i3 rfl (by simpa using hi)
      | succ i => exact i2 i (by simpa using hi)
def GoodT (N : Int) (l : List Int) : Prop := (∀ i, i < l.length → 0 ≤ nt l i ∧ nt l i < N) ∧ ∀ i, i + 1 < l.length → nt l i < nt l (i + 1)
theorem goodT_iff {N : Int} {l : List Int} : GoodT N l ↔ ∀ i, i < l.length → ¬ badT N l i := by
  constructor
  · intro ⟨h1, h2⟩ i hi hb;have := h1 i hi;rcases hb with hb | hb | ⟨hb0, hb⟩
    · unfold nt at this; omega
    · unfold nt at this; omega
    · have := h2 (i - 1) (by omega);unfold nt at this;rw [show i - 1 + 1 = i by omega] at this;omega
  · intro h;refine ⟨fun i hi => ?_, fun i hi => ?_⟩
    · have := h i hi;unfold badT at this;unfold nt;omega
    · have := h (i + 1) hi;unfold badT at this;unfold nt;rw [show i + 1 - 1 = i by omega] at this;omega
theorem GoodT.rises {N v : Int} {l : List Int} (h : GoodT N l) : Rises N true v l := rises_of l true v h.1 h.2 (fun h => by cases h)
theorem Rises.good {N v : Int} {l : List Int} (h : Rises N true v l) : GoodT N l := ⟨(of_rises l true v h).1, (of_rises l true v h).2.1⟩
theorem GoodT.le_nt {N : Int} {l : List Int} (h : GoodT N l) : ∀ i, i < l.length → (i : Int) ≤ nt l i
  | 0, hi => (h.1 0 hi).1
  | i + 1, hi => by
    have h1 := GoodT.le_nt h i (by omega);have h2 := h.2 i hi;omega
theorem GoodT.len {N : Int} {l : List Int} (h : GoodT N l) (hN : 0 ≤ N) : (l.length : Int) ≤ N := by
  rcases Nat.eq_zero_or_pos l.length with e | e
  · omega
  · have h1 := h.le_nt (l.length - 1) (by omega);have h2 := (h.1 (l.length - 1) (by omega)).2;omega
theorem row_at {s : ByteArray} {N v : Int} {l : List Int} {p : Nat} {t : List UInt8} (hN : N ≤ 4096) (hv0 : 0 ≤ v) (hv1 : v < N) (hg : GoodT N l) (hp : p ≤ s.size) (h : s.data.toList.drop p = putF v l l.length ++ t) :
    cnt s (p : Int) N = ((l.length : Int), ((p + (short l.length).length : Nat) : Int), 0, 0) ∧ gtF s N l.length true v ((p + (short l.length).length : Nat) : Int) = .inr (l, ((p + (putF v l l.length).length : Nat) : Int)) ∧ skF s (p : Int) l.length ((p + (short l.length).length : Nat) : Int) = (((p + (putF v l l.length).length : Nat) : Int), 0, 0) := by
  have hl := hg.len (by omega);rw [putF_all] at h ⊢;rw [List.append_assoc] at h;have e1 := rdG_at (n := l.length) (by omega) hp h;have e2 := gtF_at hN l true v (p + (short l.length).length) t hv0 (by omega) hg.rises (drop_le hp h) (drop_app h);rw [List.length_append, ← Nat.add_assoc];refine ⟨?_, e2, skF_of_gtF _ _ _ _ _ _ e2⟩;unfold cnt;rw [e1, if_neg (by simp; omega)]
end Go.Proofs.YtbemmnggmdadeaaGreatDoor.Gap
end
section
namespace Go.Proofs.YtbemmnggmdadeaaGreatDoor.Gap
open Go Go.RowKit Go.Lib Oct
theorem cnt_ok {s : ByteArray} {p N x nx a : Int} (h : cnt s p N = (x, nx, 0, a)) : rdG s p = (x, nx, 0, a) ∧ x ≤ N := by
  unfold cnt at h
  split at h
  · simp at h
  · rename_i hc;rw [h] at hc;exact ⟨h, by simp at hc; omega⟩
def gtG (s : ByteArray) (p N v : Int) : (Int × Int) ⊕ (List Int × Int) := if (cnt s p N).2.2.1 = 0 then gtF s N (cnt s p N).1.toNat true v (cnt s p N).2.1 else .inl ((cnt s p N).2.2.1, (cnt s p N).2.2.2)
end Go.Proofs.YtbemmnggmdadeaaGreatDoor.Gap
end
section
namespace Go.Proofs.YtbemmnggmdadeaaGreatDoor.Shd
open Go Go.RowKit Go.Lib Oct Num Gap
def rwF (f : Int) (R : Nat → List Int) : Nat → List UInt8
  | 0 => []
  | k + 1 => rwF f R k ++ putF (f + (k : Int)) (R k) (R k).length
def ixF (f : Int) (R : Nat → List Int) : Nat → List UInt8
  | 0 => []
  | k + 1 => ixF f R k ++ (if k % 8 = 0 then short (rwF f R k).length else [])
def shF (f n : Nat) (R : Nat → List Int) : List UInt8 := short f ++ short n ++ ixF (f : Int) R n ++ rwF (f : Int) R n
def mkF (s : ByteArray) : Nat → Int → (Int × Int) ⊕ (List (Int × Int) × Int)
  | 0, p => .inr ([], p)
  | k + 1, p => if (rdG s p).2.2.1 = 0 then (match mkF s k (rdG s p).2.1 with
      | .inl e => .inl e
      | .inr (l, q) => .inr (((rdG s p).1, p) :: l, q)) else .inl ((rdG s p).2.2.1, (rdG s p).2.2.2)
def rwG (s : ByteArray) (N : Int) : Nat → Int → Int → (Int × Int) ⊕ (List (List Int × Int) × Int)
  | 0, _, p => .inr ([], p)
  | k + 1, v, p => match gtG s p N v with
    | .inl e => .inl e
    | .inr (l, q) => match rwG s N k (v + 1) q with
      | .inl e => .inl e
      | .inr (ls, r) => .inr ((l, p) :: ls, r)
def marksN (n : Nat) : Nat := (n + 7) / 8
def badM (b : Int) (rows : List (List Int × Int)) : Nat → List (Int × Int) → Option Int
  | _, [] => none
  | i, (m, p) :: l => if m = (rows.getD (8 * i) ([], b)).2 - b then badM b rows (i + 1) l else some p
def gs4 (s : ByteArray) (a q : Int) (rs : List (List Int × Int)) : Option Int → (Int × Int) ⊕ (Int × List (List Int))
  | some x => .inl (4, x)
  | none => if q < s.size then .inl (4, q) else .inr (a, rs.map (·.1))
def gs3 (s : ByteArray) (N a : Int) (n : Nat) (b : Int) (ms : List (Int × Int)) : (Int × Int) ⊕ (Int × List (List Int)) :=
  match rwG s N n a b with
  | .inl e => .inl e
  | .inr (rs, q) => gs4 s a q rs (badM b rs 0 ms)
def gs2 (s : ByteArray) (N a : Int) (n : Nat) (p : Int) : (Int × Int) ⊕ (Int × List (List Int)) :=
  match mkF s (marksN n) p with
  | .inl e => .inl e
  | .inr (ms, b) => gs3 s N a n b ms
def gs1 (s : ByteArray) (N a p : Int) : (Int × Int) ⊕ (Int × List (List Int)) :=
  if (rdG s p).2.2.1 = 0 then (if (rdG s p).1 < 1 ∨ N < a + (rdG s p).1 then .inl (4, p) else gs2 s N a (rdG s p).1.toNat (rdG s p).2.1) else .inl ((rdG s p).2.2.1, (rdG s p).2.2.2)
def gsG (s : ByteArray) (N : Int) : (Int × Int) ⊕ (Int × List (List Int)) :=
  if (rdG s 0).2.2.1 = 0 then gs1 s N (rdG s 0).1 (rdG s 0).2.1 else .inl ((rdG s 0).2.2.1, (rdG s 0).2.2.2)
def MkYet (s : ByteArray) (k : Nat) (p : Int) (done : List (Int × Int)) (r : (Int × Int) ⊕ (List (Int × Int) × Int)) : Prop := r = (match mkF s k p with
  | .inl e => .inl e
  | .inr (l, q) => .inr (done ++ l, q))
theorem MkYet.start {s : ByteArray} {k : Nat} {p : Int} : MkYet s k p [] (mkF s k p) := by
  unfold MkYet
  cases mkF s k p with
  | inl e => rfl
  | inr x => obtain ⟨l, q⟩ := x; rfl
theorem MkYet.done {s : ByteArray} {p : Int} {done : List (Int × Int)} {r : (Int × Int) ⊕ (List (Int × Int) × Int)} (h : MkYet s 0 p done r) : r = .inr (done, p) := by
  unfold MkYet at h;rw [mkF] at h
  simpa using h
theorem MkYet.bad {s : ByteArray} {k : Nat} {p x n2 e a : Int} {done : List (Int × Int)} {r : (Int × Int) ⊕ (List (Int × Int) × Int)} (h : MkYet s (k + 1) p done r) (hr : rdG s p = (x, n2, e, a)) (he : e ≠ 0) : r = .inl (e, a) := by
  unfold MkYet at h;rw [mkF, hr] at h
  simpa [he] using h
theorem MkYet.next {s : ByteArray} {k : Nat} {p x n2 a : Int} {done : List (Int × Int)} {r : (Int × Int) ⊕ (List (Int × Int) × Int)} (h : MkYet s (k + 1) p done r) (hr : rdG s p = (x, n2, 0, a)) : MkYet s k n2 (done ++ [(x, p)]) r := by
  unfold MkYet at *;rw [mkF, hr] at h;simp only [if_true] at h;rw [h]
  cases mkF s k n2 with
  | inl e => rfl
  | inr y => obtain ⟨l, q⟩ := y; simp
def RwYet (s : ByteArray) (N : Int) (k : Nat) (v p : Int) (done : List (List Int × Int)) (r : (Int × Int) ⊕ (List (List Int × Int) × Int)) : Prop := r = (match rwG s N k v p with
  | .inl e => .inl e
  | .inr (l, q) => .inr (done ++ l, q))
theorem RwYet.start {s : ByteArray} {N : Int} {k : Nat} {v p : Int} : RwYet s N k v p [] (rwG s N k v p) := by
  unfold RwYet
  cases rwG s N k v p with
  | inl e => rfl
  | inr x => obtain ⟨l, q⟩ := x; rfl
theorem RwYet.done {s : ByteArray} {N v p : Int} {done : List (List Int × Int)} {r : (Int × Int) ⊕ (List (List Int × Int) × Int)} (h : RwYet s N 0 v p done r) : r = .inr (done, p) := by
  unfold RwYet at h;rw [rwG] at h
  simpa using h
theorem RwYet.bad {s : ByteArray} {N : Int} {k : Nat} {v p : Int} {e : Int × Int} {done : List (List Int × Int)} {r : (Int × Int) ⊕ (List (List Int × Int) × Int)} (h : RwYet s N (k + 1) v p done r) (hr : gtG s p N v = .inl e) : r = .inl e := by
  unfold RwYet at h;rw [rwG, hr] at h;exact h
theorem RwYet.next {s : ByteArray} {N : Int} {k : Nat} {v p q : Int} {l : List Int} {done : List (List Int × Int)} {r : (Int × Int) ⊕ (List (List Int × Int) × Int)} (h : RwYet s N (k + 1) v p done r) (hr : gtG s p N v = .inr (l, q)) : RwYet s N k (v + 1) q (done ++ [(l, p)]) r := by
  unfold RwYet at *;rw [rwG, hr] at h;simp only at h;rw [h]
  cases rwG s N k (v + 1) q with
  | inl e => rfl
  | inr y => obtain ⟨ls, q2⟩ := y; simp
theorem gtF_err {s : ByteArray} {N : Int} : ∀ (k : Nat) (first : Bool) (now p x a : Int), gtF s N k first now p = .inl (x, a) → x ≠ 0
  | 0, first, now, p, x, a, h => by rw [gtF] at h; cases h
  | k + 1, first, now, p, x, a, h => by
    rw [gtF] at h;rcases hg : rdG s p with ⟨y, n2, e, b⟩;rw [hg] at h;simp only at h
    by_cases he : e = 0
    · subst he;rw [if_pos rfl] at h;obtain ⟨t, ht⟩ : ∃ t, (if first = true then now + bkI y else now + y + 1) = t := ⟨_, rfl⟩;rw [ht] at h
      by_cases hb : t < 0 ∨ N ≤ t
      · rw [if_pos hb] at h;injection h with h
        injection h with h1 _
        omega
      rw [if_neg hb] at h
      cases hr : gtF s N k false t n2 with
      | inl z =>
        rw [hr] at h;simp only at h;injection h with h
        subst h;exact gtF_err k false t n2 x a hr
      | inr z => obtain ⟨l2, n3⟩ := z; rw [hr] at h; cases h
    · rw [if_neg he] at h;injection h with h
      injection h with h1 _
      rw [← h1];exact he
theorem gtG_err {s : ByteArray} {p N v x a : Int} (h : gtG s p N v = .inl (x, a)) : x ≠ 0 := by
  unfold gtG at h
  by_cases he : (cnt s p N).2.2.1 = 0
  · rw [if_pos he] at h; exact gtF_err _ _ _ _ _ _ h
  · rw [if_neg he] at h;injection h with h
    injection h with h1 _
    rw [← h1];exact he
theorem gtG_place {s : ByteArray} {p N v nx : Int} {l : List Int} (hN : N ≤ 4096) (hv0 : 0 ≤ v) (hv1 : v < N) (h : gtG s p N v = .inr (l, nx)) : 0 ≤ nx ∧ nx ≤ s.size := by
  unfold gtG at h;rcases hc : cnt s p N with ⟨x, n2, e, a⟩;rw [hc] at h;simp only at h
  by_cases he : e = 0
  · subst he;rw [if_pos rfl] at h;obtain ⟨hr, -⟩ := cnt_ok hc;obtain ⟨-, hp, hpn, hns, -⟩ := rdG_ok hr;obtain ⟨q, hq⟩ : ∃ q : Nat, n2 = (q : Int) := ⟨n2.toNat, by omega⟩;rw [hq] at h;obtain ⟨-, -, i3, i4, -⟩ := gtF_is hN x.toNat true v q l nx hv0 hv1 (by omega) h;exact ⟨by omega, i4⟩
  · rw [if_neg he] at h; cases h
end Go.Proofs.YtbemmnggmdadeaaGreatDoor.Shd
end
section
namespace Go.Proofs.YtbemmnggmdadeaaGreatDoor.Shd
open Go Go.RowKit Go.Lib Oct Num Gap
def rwL : Int → List (List Int) → List UInt8
  | _, [] => []
  | v, l :: r => putF v l l.length ++ rwL (v + 1) r
theorem rwL_snoc : ∀ (ls : List (List Int)) (v : Int) (l : List Int), rwL v (ls ++ [l]) = rwL v ls ++ putF (v + (ls.length : Int)) l l.length
  | [], v, l => by simp [rwL]
  | x :: ls, v, l => by
    rw [List.cons_append, rwL, rwL, rwL_snoc ls (v + 1) l, List.append_assoc, List.length_cons];rw [show v + 1 + (ls.length : Int) = v + ((ls.length + 1 : Nat) : Int) by omega]
def lsR (R : Nat → List Int) (n : Nat) : List (List Int) := (List.range n).map R
theorem lsR_len (R : Nat → List Int) (n : Nat) : (lsR R n).length = n := by simp [lsR]
theorem lsR_succ (R : Nat → List Int) (n : Nat) : lsR R (n + 1) = lsR R n ++ [R n] := by simp [lsR, List.range_succ]
theorem lsR_take (R : Nat → List Int) (n i : Nat) (h : i ≤ n) : (lsR R n).take i = lsR R i := by
  unfold lsR;rw [← List.map_take, List.take_range, Nat.min_eq_left h]
theorem rwF_rwL (f : Int) (R : Nat → List Int) : ∀ n, rwF f R n = rwL f (lsR R n)
  | 0 => rfl
  | n + 1 => by rw [rwF, rwF_rwL f R n, lsR_succ, rwL_snoc, lsR_len]
theorem rwF_le (f : Int) (R : Nat → List Int) (k : Nat) : ∀ d, (rwF f R k).length ≤ (rwF f R (k + d)).length
  | 0 => Nat.le_refl _
  | d + 1 => by
    rw [← Nat.add_assoc, rwF, List.length_append];exact Nat.le_trans (rwF_le f R k d) (Nat.le_add_right _ _)
def ixN (f : Int) (R : Nat → List Int) (m : Nat) : List Nat := (List.range m).map fun j => (rwF f R (8 * j)).length
theorem ixF_ixN (f : Int) (R : Nat → List Int) : ∀ n, ixF f R n = (ixN f R (marksN n)).flatMap short
  | 0 => by simp [ixF, ixN, marksN]
  | n + 1 => by
    rw [ixF, ixF_ixN f R n]
    by_cases h : n % 8 = 0
    · rw [if_pos h];have e : marksN (n + 1) = marksN n + 1 := by unfold marksN; omega
      have e2 : 8 * marksN n = n := by unfold marksN; omega
      rw [e];unfold ixN;rw [List.range_succ, List.map_append, List.flatMap_append];simp [e2]
    · rw [if_neg h, List.append_nil];have e : marksN (n + 1) = marksN n := by unfold marksN; omega
      rw [e]
theorem mkF_at {s : ByteArray} : ∀ (xs : List Nat) (p : Nat) (t : List UInt8), (∀ x ∈ xs, x < 2 ^ 56) → p ≤ s.size → s.data.toList.drop p = xs.flatMap short ++ t →
    ∃ ms, mkF s xs.length (p : Int) = .inr (ms, ((p + (xs.flatMap short).length : Nat) : Int)) ∧ ms.map (·.1) = xs.map fun (x : Nat) => (x : Int)
  | [], p, t, _, _, _ => ⟨[], by simp [mkF], rfl⟩
  | x :: xs, p, t, hx, hp, h => by
    rw [List.flatMap_cons, List.append_assoc] at h;have e := rdG_at (hx x (by simp)) hp h;obtain ⟨ms, h1, h2⟩ := mkF_at xs (p + (short x).length) t (fun y hy => hx y (by simp [hy])) (drop_le hp h) (drop_app h);refine ⟨((x : Int), (p : Int)) :: ms, ?_, by simp [h2]⟩;rw [List.length_cons, mkF, e];simp only [if_true];rw [h1, List.flatMap_cons, List.length_append, Nat.add_assoc]
theorem rwG_at {s : ByteArray} {N : Int} (hN : N ≤ 4096) : ∀ (ls : List (List Int)) (v : Int) (p : Nat) (t : List UInt8), 0 ≤ v → v + (ls.length : Int) ≤ N → (∀ l ∈ ls, GoodT N l) → p ≤ s.size → s.data.toList.drop p = rwL v ls ++ t →
    ∃ rs, rwG s N ls.length v (p : Int) = .inr (rs, ((p + (rwL v ls).length : Nat) : Int)) ∧ rs.map (·.1) = ls ∧ ∀ i d, i < ls.length → (rs.getD i d).2 = ((p + (rwL v (ls.take i)).length : Nat) : Int)
  | [], v, p, t, _, _, _, _, _ => ⟨[], by simp [rwG, rwL], rfl, fun i d h => absurd h (by simp)⟩
  | l :: ls, v, p, t, hv0, hv1, hg, hp, h => by
    rw [List.length_cons] at hv1;rw [rwL, List.append_assoc] at h;obtain ⟨c1, c2, c3⟩ := row_at hN hv0 (by omega) (hg l (by simp)) hp h
    have e : gtG s (p : Int) N v = .inr (l, ((p + (putF v l l.length).length : Nat) : Int)) := by
      unfold gtG;rw [c1];simp only [if_true, Int.toNat_natCast];exact c2
    obtain ⟨rs, h1, h2, h3⟩ := rwG_at hN ls (v + 1) (p + (putF v l l.length).length) t (by omega) (by omega) (fun x hx => hg x (by simp [hx])) (drop_le hp h) (drop_app h);refine ⟨(l, (p : Int)) :: rs, ?_, by simp [h2], fun i d hi => ?_⟩
    · rw [List.length_cons, rwG, e];simp only;rw [h1, rwL, List.length_append, Nat.add_assoc]
    · cases i with
      | zero => simp [rwL]
      | succ i =>
        rw [List.length_cons] at hi;have := h3 i d (by omega);rw [List.getD_cons_succ, this, List.take_succ_cons, rwL, List.length_append, Nat.add_assoc]
theorem badM_none (b : Int) (rs : List (List Int × Int)) : ∀ (ms : List (Int × Int)) (i : Nat), (∀ j m p, ms[j]? = some (m, p) → m = (rs.getD (8 * (i + j)) ([], b)).2 - b) → badM b rs i ms = none
  | [], _, _ => rfl
  | (m, p) :: ms, i, h => by
    rw [badM, if_pos (by have := h 0 m p rfl; rwa [Nat.add_zero] at this)]
    exact badM_none b rs ms (i + 1) fun j m' p' hj => by
      have := h (j + 1) m' p' (by simpa using hj)
      rwa [show i + (j + 1) = i + 1 + j by omega] at this
theorem gs_of_shF {s : ByteArray} {N : Int} {f n : Nat} {R : Nat → List Int} (hN : N ≤ 4096) (hn : 1 ≤ n) (hfn : (f : Int) + (n : Int) ≤ N) (hg : ∀ k, k < n → GoodT N (R k)) (hsz : s.size < 2 ^ 56) (h : s.data.toList = shF f n R) :
    gsG s N = .inr ((f : Int), lsR R n) := by
  unfold shF at h;rw [List.append_assoc, List.append_assoc] at h;have h0 : s.data.toList.drop 0 = short f ++ (short n ++ (ixF (f : Int) R n ++ rwF (f : Int) R n)) := by rw [List.drop_zero]; exact h
  have r1 := rdG_at (n := f) (by omega) (Nat.zero_le _) h0;have h1 := drop_app h0;have l1 := drop_le (Nat.zero_le _) h0;have r2 := rdG_at (n := n) (by omega) l1 h1;have h2 := drop_app h1;have l2 := drop_le l1 h1
  have e1 : (short f).length + (short n).length + (ixF (f : Int) R n).length + (rwF (f : Int) R n).length = s.size := by
    have := congrArg List.length h;simp only [List.length_append] at this;have e : s.data.toList.length = s.size := rfl;omega
  have hixl : (ixN (f : Int) R (marksN n)).length = marksN n := by simp [ixN]
  rw [ixF_ixN] at h2
  obtain ⟨ms, m1, m2⟩ := mkF_at (ixN (f : Int) R (marksN n)) (0 + (short f).length + (short n).length) (rwF (f : Int) R n) (fun x hx => by
    unfold ixN at hx;obtain ⟨j, hj, rfl⟩ := List.mem_map.1 hx;have hj2 := List.mem_range.1 hj;have hj8 : 8 * j ≤ n := by unfold marksN at hj2; omega
    have hle : (rwF (f : Int) R (8 * j)).length ≤ (rwF (f : Int) R n).length := by
      obtain ⟨d, hd⟩ : ∃ d, n = 8 * j + d := ⟨n - 8 * j, by omega⟩;rw [hd];exact rwF_le _ _ _ d
    omega) l2 h2
  rw [hixl, ← ixF_ixN] at m1;have h3 := drop_app h2;rw [← ixF_ixN] at h3;have l3 := drop_le l2 h2;rw [← ixF_ixN] at l3;rw [rwF_rwL] at h3
  obtain ⟨rs, w1, w2, w3⟩ := rwG_at (s := s) (N := N) hN (lsR R n) (f : Int) (0 + (short f).length + (short n).length + (ixF (f : Int) R n).length) [] (by omega) (by rw [lsR_len]; exact hfn) (fun l hl => by
    unfold lsR at hl;obtain ⟨k, hk, rfl⟩ := List.mem_map.1 hl
    exact hg k (List.mem_range.1 hk)) l3 (by rw [List.append_nil]; exact h3)
  rw [lsR_len, ← rwF_rwL] at w1;unfold gsG;rw [show ((0 : Nat) : Int) = 0 from rfl] at r1;rw [r1];simp only [if_true];unfold gs1;rw [r2];simp only [if_true];rw [if_neg (by omega), Int.toNat_natCast];unfold gs2;rw [m1];simp only;unfold gs3;rw [w1];simp only;rw [badM_none _ rs ms 0 (fun j m p hj => ?_)]
  · unfold gs4;rw [if_neg (by omega), w2]
  · have hjl : j < marksN n := by
      have := (List.getElem?_eq_some_iff.1 hj).1;have e := congrArg List.length m2;rw [List.length_map, List.length_map, hixl] at e;omega
    have hm : m = ((rwF (f : Int) R (8 * j)).length : Int) := by
      have e : (ms.map (·.1))[j]? = some m := by rw [List.getElem?_map, hj]; rfl
      rw [m2] at e;unfold ixN at e;rw [List.getElem?_map, List.getElem?_map, List.getElem?_range hjl] at e
      simpa using e.symm
    have h8 : 8 * j < n := by unfold marksN at hjl; omega
    rw [Nat.zero_add, w3 (8 * j) _ (by rw [lsR_len]; exact h8), lsR_take R n (8 * j) (by omega), ← rwF_rwL, hm];omega
theorem mkF_place {s : ByteArray} : ∀ (k : Nat) (p : Int) (ms : List (Int × Int)) (q : Int), 0 ≤ p → p ≤ s.size → mkF s k p = .inr (ms, q) → 0 ≤ q ∧ q ≤ s.size
  | 0, p, ms, q, h0, h1, hr => by
    rw [mkF] at hr;injection hr with hr
    injection hr with _ e
    omega
  | k + 1, p, ms, q, h0, h1, hr => by
    rw [mkF] at hr;rcases hg : rdG s p with ⟨x, n2, e, a⟩;rw [hg] at hr;simp only at hr
    by_cases he : e = 0
    · subst he;rw [if_pos rfl] at hr;obtain ⟨_, _, hpn, hns, _⟩ := rdG_ok hg
      cases hq : mkF s k n2 with
      | inl z => rw [hq] at hr; cases hr
      | inr z =>
        obtain ⟨l2, n3⟩ := z;rw [hq] at hr;simp only at hr;injection hr with hr
        injection hr with _ e
        subst e;exact mkF_place k n2 l2 n3 (by omega) hns hq
    · rw [if_neg he] at hr; cases hr
end Go.Proofs.YtbemmnggmdadeaaGreatDoor.Shd
end
