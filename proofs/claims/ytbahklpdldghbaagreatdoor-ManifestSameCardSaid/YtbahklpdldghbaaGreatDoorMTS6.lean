/- A part of the proof of ManifestSameCardSaid: texts that lead to it, merged. -/
import Derived.Test.YtbahklpdldghbaaGreatDoorMTS5
import Derived.Laws.MakeOwn
import Derived.Laws.IdiomStrings
import Derived.Lib.UnsafeStr
import Derived.Lib.AppendStr
import Derived.Lib.BufferRead
import Derived.Deep.RegionHeld3
import Derived.Deep.AppendLies
import Derived.Deep.DrawnRows
import Derived.Maps.AppendAt
import Derived.Laws.OwnMore
import Derived.OneCell
import Derived.Laws.AppendOwn
import Derived.Laws.Append
import Derived.Deep.Upon
section
namespace Go.Proofs.YtbahklpdldghbaaGreatDoor.Shd
open Go Go.RowKit Go.Lib Oct Num Gap RowG Edg Csr
structure AInv (w0 w : World) (XC : Array Value) (o : Option Nat) (u : World) (A : Option Addr) (n cap : Nat) (es : List (Int × Int)) : Prop where
  own : OwnE u w0.heap.size A n cap es
  away : ∀ b, (Value.slice A n cap).ownBlock = some b → o = some b ∨ w.heap.size < b
  but : But (fun b => o = some b) w u
  st : St.St u w.heap.size 102 XC
  below : Below w0.heap.size w0 u
theorem AInv.start {w0 w : World} {XC : Array Value} {A : Option Addr} {n cap : Nat} {es : List (Int × Int)} (hO : OwnE w w0.heap.size A n cap es) (hb : Below w0.heap.size w0 w) : AInv w0 w XC (Value.slice A n cap).ownBlock (w.alloc (.cells XC 102)) A n cap es :=
  ⟨hO.alloc _, fun _ h => .inl h, But.of_below ((Below.refl _ w).alloc (Nat.le_refl _) _), St.St.new _ _ _, hb.alloc hb.size _⟩
theorem AInv.push {w0 w u : World} {XC : Array Value} {o : Option Nat} {A : Option Addr} {n cap : Nat} {es : List (Int × Int)} (h : AInv w0 w XC o u A n cap es) (ho : ∀ b, o = some b → b < w.heap.size) (ty : TypeId) (e : Int × Int) (hn : n ≤ 100000) :
    ∃ g' cap' v', (Builtin.append_ #[65, 65] ty #[.slice A n cap, .slice (some ⟨u.heap.size, 0, none⟩) 1 1]).run Tryz.prog (u.alloc (.cells #[.int .i64 e.1, .int .i64 e.2] 134)) = .ok (.slice (some ⟨g', 0, none⟩) (n + 1) cap') v' ∧
      AInv w0 w XC o v' (some ⟨g', 0, none⟩) (n + 1) cap' (es ++ [e]) := by
  obtain ⟨g', cap', v', h1, h2, h3, h4⟩ := Edg.push1 w0 u ty A n cap es e h.own h.below hn;have hal : Below u.heap.size u (u.alloc (.cells #[.int .i64 e.1, .int .i64 e.2] 134)) := (Below.refl _ u).alloc (Nat.le_refl _) _;have hsz : (u.alloc (.cells #[.int .i64 e.1, .int .i64 e.2] 134)).heap.size = u.heap.size + 1 := by simp
  have hbl : ∀ b, b < u.heap.size → (Value.slice A n cap).ownBlock ≠ some b → v'.heap[b]? = u.heap[b]? := fun b hb hne => (h4.grown.block b (by rw [hsz]; omega) (fun e => hne e.symm)).trans (hal.block b hb);have hwu := h.but.size;have hst := h.st.lt;refine ⟨g', cap', v', h1, h2, fun b hb => ?_, ⟨Nat.le_trans hwu (Nat.le_trans hal.size h4.size), fun b hb hn => ?_⟩, ?_, h3⟩
  · have e1 : g' = b := by simpa [Value.ownBlock] using hb
    subst e1;rcases h4.at' with q | q
    · exact h.away _ q
    · rw [hsz] at q; right; omega
  · refine (hbl b (by omega) (fun q => ?_)).trans (h.but.block b hb hn);rcases h.away b q with r | r
    · exact hn r
    · omega
  · refine (hbl _ hst (fun q => ?_)).trans h.st;rcases h.away _ q with r | r
    · have := ho _ r; omega
    · omega
theorem tx_cell {w : World} {A : Option Addr} {ts : List ByteArray} (h : RIn txR w A ts) {k : Nat} {s : ByteArray} (hk : ts[k]? = some s) : ∃ b o, A = some ⟨b, o, none⟩ ∧ b < w.heap.size ∧ w.cell? ⟨b, o + k, none⟩ = some (.string s) := by
  obtain ⟨b, o, h1, h2, h3⟩ := h k s hk;have h4 := h3 0 (.string s) rfl;have e : o + (k * txR.size + 0) = o + k := by show o + (k * 1 + 0) = _; omega
  rw [e] at h4;exact ⟨b, o, h1, h2, h4⟩
theorem Rep.mono {w : World} {B B' g N : Nat} {ys : List (Int × Int)} (h : Rep w B g N ys) (hB : B' ≤ B) : Rep w B' g N ys := ⟨h.srt, h.good, by
  obtain ⟨gb, gt, h1, h2⟩ := h.mem
  exact ⟨gb, gt, by omega, h2⟩⟩
def tabF (F : Nat → Int) (ts : List ByteArray) (k : Nat) : List (Int × Int) := (List.range k).map fun j => (F j, ((ts.getD j ⟨#[]⟩).size : Int))
theorem tabF_len (F : Nat → Int) (ts : List ByteArray) (k : Nat) : (tabF F ts k).length = k := by simp [tabF]
theorem tabF_succ (F : Nat → Int) (ts : List ByteArray) (k : Nat) : tabF F ts (k + 1) = tabF F ts k ++ [(F k, ((ts.getD k ⟨#[]⟩).size : Int))] := by simp [tabF, List.range_succ]
set_option maxRecDepth 100000 in
set_option maxHeartbeats 8000000 in
theorem table_yes (A : Option Addr) (ca N i : Nat) (ts : List ByteArray) (F : Nat → Int) (L : Nat → List (List Int)) (w : World) (hN : N ≤ 4096) (hl : ts.length ≤ 100000) (hA : RIn txR w A ts) (hg : ∀ k s, k < i → ts[k]? = some s → s.size ≤ maxLen ∧ gsG s (N : Int) = .inr (F k, L k)) (hi : i = ts.length) :
    Calls Tryz.prog 30 #[.int .i64 (N : Int), .slice A ts.length ca] w fun e w' => ∃ gt, e = .returned (.tuple #[.slice (some ⟨gt, 0, none⟩) ts.length ts.length, .nilIface]) ∧ Hold ipR w' gt (tabF F ts ts.length) ∧ w.heap.size ≤ gt ∧ Below w.heap.size w w' := by
  refine Kn.calls Tryz.func30 rfl Tryz.ntmps30 rfl (.cons (t := 0) rfl (.cons (t := 1) rfl .nil)) fun fa0 fh0 => ?_;have HA := Lib.hid hA;have HG := Lib.hid hg;clear hA hg;refine wp_seq_k fun K1 hK1 => ?_;refine wp_region_lit ?_;refine Kn.pure fh0 rfl rfl .none (Kn.ex_assign fh0 .const) fun fa1 fh1 => ?_;clear fh0 fa0;refine Kn.pure fh1 rfl rfl .none (Kn.ex_assign fh1 .const) fun fa2 fh2 => ?_;clear fh1 fa1;refine wpList_nil ?_;refine hK1 _ _ ?_;clear hK1 K1;obtain ⟨w5, hmk, hO5, hb5⟩ := makeG (P := Tryz.prog) ipR elemSh (0, 0) rfl w ts.length (by show ts.length * 2 ≤ _; omega) (by omega) (by omega);refine wp_seq_k fun K2 hK2 => ?_;refine wp_region_lit ?_;refine Kn.pure fh2 rfl rfl .none (Kn.ex_move fh2 (.tmp rfl)) fun fa3 fh3 => ?_;clear fh2 fa2;refine Kn.step fh3 rfl rfl .none (Kn.ex_len fh3 (.tmp rfl)) fun Ko hKo => ?_;go_simp;(try go_bits);refine hKo _ _ fun fa4 fh4 => ?_;clear hKo Ko fh3 fa3;refine Kn.known fh4 rfl rfl .none (Kn.ex_makeSlice fh4 (.tmp rfl) (.tmp rfl)) hmk fun fa5 fh5 => ?_;clear fh4 fa4;refine Kn.pure fh5 rfl rfl .none (Kn.ex_assign fh5 (.tmp rfl)) fun fa6 fh6 => ?_;clear fh5 fa5;refine wpList_nil ?_;refine hK2 _ _ ?_;clear hK2 K2;replace fh6 := fh6.cut (.cons (t := 6) rfl (.cons (t := 5) rfl (.cons (t := 4) rfl (.cons (t := 0) rfl (.cons (t := 1) rfl .nil)))));clear hmk;obtain ⟨gt, hgt0⟩ : ∃ g, w.heap.size = g := ⟨_, rfl⟩;have hgw : w.heap.size ≤ gt := by omega
  rw [hgt0] at hO5 fh6;have HF5 : Hid (Fill ipR (0, 0) w5 gt ts.length (tabF F ts 0)) := Lib.hid (Fill.start hO5);have HB5 := Lib.hid hb5;clear hO5 hb5 hgt0;refine wp_seq_k fun K3 hK3 => ?_;refine wp_seq_k fun K4 hK4 => ?_;refine wp_region_lit ?_;refine Kn.pure fh6 rfl rfl .none (Kn.ex_move fh6 (.tmp rfl)) fun fa7 fh7 => ?_;clear fh6 fa6;refine Kn.step fh7 rfl rfl .none (Kn.ex_len fh7 (.tmp rfl)) fun Ko hKo => ?_;go_simp;(try go_bits);refine hKo _ _ fun fa8 fh8 => ?_;clear hKo Ko fh7 fa7;refine Kn.pure fh8 rfl rfl .none (Kn.ex_move fh8 .const) fun fa9 fh9 => ?_;clear fh8 fa8;refine wpList_nil ?_;refine hK4 _ _ ?_;clear hK4 K4;replace fh9 := fh9.cut (.cons (t := 16) rfl (.cons (t := 15) rfl (.cons (t := 14) rfl (.cons (t := 6) rfl (.cons (t := 5) rfl (.cons (t := 4) rfl (.cons (t := 0) rfl .nil)))))));refine wp_block ?_;refine Kn.loop (fun m fr u => ∃ (k : Nat), Kn.Kn 42 [(16, .int .i64 (k : Int)), (15, .int .i64 (ts.length : Int)), (14, .slice A ts.length ca), (6, .slice (some ⟨gt, 0, none⟩) ts.length ts.length), (0, .int .i64 (N : Int))] fr ∧ k + m = ts.length ∧ k ≤ i ∧ Hid (Fill ipR (0, 0) u gt ts.length (tabF F ts k)) ∧ Hid (Below w.heap.size w u)) ts.length ⟨0, fh9.cut (.turn (t := 16) rfl rfl (.cons (t := 15) rfl (.cons (t := 14) rfl (.cons (t := 6) rfl (.cons (t := 0) rfl .nil))))), by omega, by omega, HF5, HB5⟩ ?_;clear fh9 fa9;intro m5 fa10 u hI Kl5 hKl5;obtain ⟨k, fh10, hk, hki, HF, HB⟩ := hI;clear HF5 HB5
  by_cases hlt : k < ts.length
  · obtain ⟨s, hs⟩ : ∃ s, ts[k]? = some s := ⟨ts[k], List.getElem?_eq_getElem hlt⟩;obtain ⟨ba, oa, rfl, -, cs⟩ := tx_cell (HA.out.on HB.out) hs;have hki3 : k < i := by omega
    obtain ⟨hss, hgs⟩ := HG.out k s (by omega) hs;have hszm : s.size ≤ 9223372036854775807 := hss;have HTk : Hid (tabF F ts (k + 1) = tabF F ts k ++ [(F k, (s.size : Int))]) := Lib.hid (by rw [tabF_succ]; simp [List.getD, hs]);have HTl : Hid ((tabF F ts k).length = k) := Lib.hid (tabF_len F ts k);obtain ⟨fk, hfk⟩ : ∃ z, F k = z := ⟨_, rfl⟩;obtain ⟨lk, hlk⟩ : ∃ z, L k = z := ⟨_, rfl⟩;rw [hfk, hlk] at hgs;rw [hfk] at HTk;have hgt := get_any s (N : Int) u hss (by omega) (by omega)
    have hgt2 : Calls Tryz.prog 46 #[.string s, .int .i64 (N : Int)] u fun e w' => ∃ g, e = .returned (.tuple #[.agg #[.int .i64 fk, .slice (some ⟨g, 0, none⟩) lk.length lk.length], .nilIface]) ∧ LSpan w' (some ⟨g, 0, none⟩) lk u.heap.size w'.heap.size ∧ Below u.heap.size u w' := by
      refine hgt.mono fun e w' hc => ?_;obtain ⟨hb, h⟩ := hc;rw [hgs] at h;rcases h with ⟨x', a', he, -, hh⟩ | ⟨f', ls', g, he, hh, h1, h2, h3⟩
      · cases he
      · cases he; exact ⟨g, hh, h1, hb⟩
    clear hgt;clear hgs hs;refine wp_seq_k fun K6 hK6 => ?_;refine wp_region_lit ?_;refine Kn.step fh10 rfl rfl .none (Kn.ex_bin fh10 (.tmp rfl) (.tmp rfl)) fun Ko hKo => ?_;go_simp;(try go_bits);refine hKo _ _ fun fa11 fh11 => ?_;clear hKo Ko fh10 fa10;refine wpList_nil ?_;refine hK6 _ _ ?_;clear hK6 K6;refine wp_seq_k fun K7 hK7 => ?_;refine Kn.yes fh11 (.tmp rfl) ?_;refine wp_skip ?_;refine hK7 _ _ ?_;clear hK7 K7;replace fh11 := fh11.cut (.cons (t := 16) rfl (.cons (t := 15) rfl (.cons (t := 14) rfl (.cons (t := 6) rfl (.cons (t := 0) rfl .nil)))));refine wp_seq_k fun K8 hK8 => ?_;refine wp_block ?_;refine wp_seq_k fun K9 hK9 => ?_;refine wp_region_lit ?_;refine Kn.pure fh11 rfl rfl .none (Kn.ex_move fh11 (.tmp rfl)) fun fa12 fh12 => ?_;clear fh11 fa11;refine Kn.step fh12 rfl rfl .none (Kn.ex_indexAddr fh12 (.tmp rfl) (.tmp rfl)) fun Ko hKo => ?_;go_simp;(try go_bits);refine hKo _ _ fun fa13 fh13 => ?_;clear hKo Ko fh12 fa12;refine Kn.step fh13 rfl rfl .none (Kn.ex_load fh13 (.tmp rfl)) fun Ko hKo => ?_;go_simp;(try go_bits);refine hKo _ _ fun fa14 fh14 => ?_;clear hKo Ko fh13 fa13;refine Kn.pure fh14 rfl rfl .none (Kn.ex_assign fh14 (.tmp rfl)) fun fa15 fh15 => ?_;clear fh14 fa14;refine Kn.pure fh15 rfl rfl .none (Kn.ex_assign fh15 (.tmp rfl)) fun fa16 fh16 => ?_;clear fh15 fa15;refine wpList_nil ?_;refine hK9 _ _ ?_;clear hK9 K9;replace fh16 := fh16.cut (.cons (t := 8) rfl (.cons (t := 7) rfl (.cons (t := 16) rfl (.cons (t := 15) rfl (.cons (t := 14) rfl (.cons (t := 6) rfl (.cons (t := 0) rfl .nil)))))));clear cs;refine wp_seq_k fun K10 hK10 => ?_;refine wp_region_lit ?_;refine Kn.pure fh16 rfl rfl .none (Kn.ex_move fh16 (.tmp rfl)) fun fa17 fh17 => ?_;clear fh16 fa16;refine Kn.pure fh17 rfl rfl .none (Kn.ex_move fh17 (.tmp rfl)) fun fa18 fh18 => ?_;clear fh17 fa17;refine Kn.call fh18 rfl rfl .none (Kn.ex_call fh18 (.cons (.tmp rfl) (.cons (.tmp rfl) .nil))) Tryz.call46 (hgt2) fun e uc hp => ?_;obtain ⟨gq, rfl, hSp, hbc⟩ := hp;refine ⟨_, rfl, fun fa19 fh19 => ?_⟩;clear fh18 fa18;obtain ⟨ud, hud⟩ : ∃ q9, uc.alloc (.cells #[.int .i64 0, .slice none 0 0] 102) = q9 := ⟨_, rfl⟩;have hSd := St.St.new uc 102 #[.int .i64 0, .slice none 0 0];have hbd : Below uc.heap.size uc ud := by rw [← hud]; exact (Below.refl _ uc).alloc (Nat.le_refl _) _
    rw [hud] at hSd;obtain ⟨hst, hSe, hBe⟩ := hSd.store (P := Tryz.prog) (cells := #[.int .i64 fk, .slice (some ⟨gq, 0, none⟩) lk.length lk.length]) (by kernel_rfl) rfl (by simp [Value.oneCell']);have hbz1 := (hbc.trans (hbd.mono hbc.size)).trans (hBe _ hbc.size);have hgez1 := hbc.size;have hbC := hbd.trans (hBe _ (Nat.le_refl _));clear hSd hbd hBe;refine Kn.pure fh19 rfl rfl .none (Kn.ex_move fh19 (.tmp rfl)) fun fa20 fh20 => ?_;clear fh19 fa19;refine Kn.pure fh20 rfl rfl .none (Kn.ex_extract fh20 (.tmp rfl) rfl) fun fa21 fh21 => ?_;clear fh20 fa20;refine Kn.pure fh21 rfl rfl .none (Kn.ex_extract fh21 (.tmp rfl) rfl) fun fa22 fh22 => ?_;clear fh21 fa21;refine Kn.step fh22 rfl rfl .none Kn.ex_alloc fun Ko hKo => ?_;go_simp;try rw [hud]
    refine hKo _ _ fun fa23 fh23 => ?_;clear hKo Ko fh22 fa22;refine Kn.stepU fh23 rfl .none (Kn.ex_store fh23 (.tmp rfl) (.tmp rfl)) fun Ko hKo => ?_;refine Kn.satU_run hst ?_;refine hKo _ ?_;clear hKo Ko;refine Kn.pure fh23 rfl rfl .none (Kn.ex_assign fh23 (.tmp rfl)) fun fa24 fh24 => ?_;clear fh23 fa23;refine wpList_nil ?_;refine hK10 _ _ ?_;clear hK10 K10;replace fh24 := fh24.cut (.cons (t := 10) rfl (.cons (t := 9) rfl (.cons (t := 8) rfl (.cons (t := 7) rfl (.cons (t := 16) rfl (.cons (t := 15) rfl (.cons (t := 14) rfl (.cons (t := 6) rfl (.cons (t := 0) rfl .nil)))))))));clear hst hud;obtain ⟨z1, hzz⟩ : ∃ q9, ud.setRow uc.heap.size #[.int .i64 fk, .slice (some ⟨gq, 0, none⟩) lk.length lk.length] = q9 := ⟨_, rfl⟩;rw [hzz] at hSe hbz1 hbC;change Code.wp _ _ _ _ (ud.setRow uc.heap.size #[.int .i64 fk, .slice (some ⟨gq, 0, none⟩) lk.length lk.length]);rw [hzz];clear hzz;have hltz1 := hSe.lt;clear hSp;clear hbC;generalize uc.heap.size = g10 at *;have HSz1 := Lib.hid hSe;clear hSe;clear hgt2;refine wp_seq_k fun K11 hK11 => ?_;refine wp_seq_k fun K12 hK12 => ?_;refine wp_region_lit ?_;refine Kn.pure fh24 rfl rfl .none (Kn.ex_move fh24 (.tmp rfl)) fun fa25 fh25 => ?_;clear fh24 fa24;refine Kn.step fh25 rfl rfl .none (Kn.ex_bin fh25 (.tmp rfl) .const) fun Ko hKo => ?_;go_simp;(try go_bits);refine hKo _ _ fun fa26 fh26 => ?_;clear hKo Ko fh25 fa25;refine wpList_nil ?_;refine hK12 _ _ ?_;clear hK12 K12;replace fh26 := fh26.cut (.cons (t := 28) rfl (.cons (t := 10) rfl (.cons (t := 9) rfl (.cons (t := 8) rfl (.cons (t := 7) rfl (.cons (t := 16) rfl (.cons (t := 15) rfl (.cons (t := 14) rfl (.cons (t := 6) rfl (.cons (t := 0) rfl .nil))))))))));refine Kn.no fh26 (.tmp rfl) ?_;refine wp_skip ?_;refine hK11 _ _ ?_;clear hK11 K11;replace fh26 := fh26.cut (.cons (t := 9) rfl (.cons (t := 8) rfl (.cons (t := 7) rfl (.cons (t := 16) rfl (.cons (t := 15) rfl (.cons (t := 14) rfl (.cons (t := 6) rfl (.cons (t := 0) rfl .nil))))))));have c0 := HSz1.out.cell 0 rfl;obtain ⟨u2, hst, hF2, hot, hsz, hbl⟩ := (HF.out.on hbz1).pushM (P := Tryz.prog) (e := 42) (sz := 2) (by rw [HTl.out]; exact hlt) k HTl.out.symm rfl (fk, (s.size : Int)) #[.int .i64 fk, .int .i64 (s.size : Int)] rfl (by kernel_rfl);have HF2 : Hid (Fill ipR (0, 0) u2 gt ts.length (tabF F ts (k + 1))) := Lib.hid (by rw [HTk.out]; exact hF2);have HB2 := Lib.hid ((HB.out.trans (hbz1.mono HB.out.size)).trans (hbl _ hgw));clear hF2 hot hsz hbl;refine wp_region_lit ?_;refine Kn.pure fh26 rfl rfl .none (Kn.ex_move fh26 (.tmp rfl)) fun fa27 fh27 => ?_;clear fh26 fa26;refine Kn.pure fh27 rfl rfl .none (Kn.ex_move fh27 (.tmp rfl)) fun fa28 fh28 => ?_;clear fh27 fa27;refine Kn.step fh28 rfl rfl .none (Kn.ex_fieldAddr fh28 (.tmp rfl)) fun Ko hKo => ?_;go_simp;(try go_bits);refine hKo _ _ fun fa29 fh29 => ?_;clear hKo Ko fh28 fa28;refine Kn.step fh29 rfl rfl .none (Kn.ex_load fh29 (.tmp rfl)) fun Ko hKo => ?_;go_simp;(try go_bits);refine hKo _ _ fun fa30 fh30 => ?_;clear hKo Ko fh29 fa29;refine Kn.pure fh30 rfl rfl .none (Kn.ex_move fh30 (.tmp rfl)) fun fa31 fh31 => ?_;clear fh30 fa30;refine Kn.step fh31 rfl rfl .none (Kn.ex_len fh31 (.tmp rfl)) fun Ko hKo => ?_;go_simp;(try go_bits);refine hKo _ _ fun fa32 fh32 => ?_;clear hKo Ko fh31 fa31;refine Kn.step fh32 rfl rfl .none (Kn.ex_build fh32 (.cons (.tmp rfl) (.cons (.tmp rfl) .nil))) fun Ko hKo => ?_;go_simp;(try go_bits);refine hKo _ _ fun fa33 fh33 => ?_;clear hKo Ko fh32 fa32;refine Kn.step fh33 rfl rfl .none (Kn.ex_indexAddr fh33 (.tmp rfl) (.tmp rfl)) fun Ko hKo => ?_;go_simp;(try go_bits);refine hKo _ _ fun fa34 fh34 => ?_;clear hKo Ko fh33 fa33;refine Kn.stepU fh34 rfl .none (Kn.ex_store fh34 (.tmp rfl) (.tmp rfl)) fun Ko hKo => ?_;refine Kn.satU_run hst ?_;refine hKo _ ?_;clear hKo Ko;refine wpList_nil ?_;refine Kn.block_normal ?_;refine hK8 _ _ ?_;clear hK8 K8;replace fh34 := fh34.cut (.cons (t := 16) rfl (.cons (t := 15) rfl (.cons (t := 14) rfl (.cons (t := 6) rfl (.cons (t := 0) rfl .nil)))));clear hst c0;refine wp_region_lit ?_;refine Kn.step fh34 rfl rfl .none (Kn.ex_bin fh34 (.tmp rfl) .const) fun Ko hKo => ?_;go_simp;(try go_bits);refine hKo _ _ fun fa35 fh35 => ?_;clear hKo Ko fh34 fa34;refine Kn.pure fh35 rfl rfl .none (Kn.ex_move fh35 (.tmp rfl)) fun fa36 fh36 => ?_;clear fh35 fa35;refine wpList_nil ?_;replace fh36 := fh36.cut (.cons (t := 16) rfl (.cons (t := 15) rfl (.cons (t := 14) rfl (.cons (t := 6) rfl (.cons (t := 0) rfl .nil)))));exact hKl5 (m5 - 1) _ _ (by omega) ⟨k + 1, fh36.cut (.turn (t := 16) rfl (by go_num) (.cons (t := 15) rfl (.cons (t := 14) rfl (.cons (t := 6) rfl (.cons (t := 0) rfl .nil))))), by omega, by omega, HF2, HB2⟩
  obtain rfl : k = ts.length := by omega
  refine wp_seq_k fun K6 hK6 => ?_;refine wp_region_lit ?_;refine Kn.step fh10 rfl rfl .none (Kn.ex_bin fh10 (.tmp rfl) (.tmp rfl)) fun Ko hKo => ?_;go_simp;(try go_bits);refine hKo _ _ fun fa11 fh11 => ?_;clear hKo Ko fh10 fa10;refine wpList_nil ?_;refine hK6 _ _ ?_;clear hK6 K6;refine wp_seq_k fun K7 hK7 => ?_;refine Kn.no fh11 (.tmp rfl) ?_;replace fh11 := fh11.cut (.cons (t := 16) rfl (.cons (t := 15) rfl (.cons (t := 14) rfl (.cons (t := 6) rfl (.cons (t := 0) rfl .nil)))));refine wp_exit ?_;refine Kn.then_exit ?_;clear hK7 K7;refine Kn.then_exit ?_;clear hKl5 Kl5;refine Kn.block_exit ?_;refine hK3 _ _ ?_;clear hK3 K3;replace fh11 := fh11.cut (.cons (t := 6) rfl .nil);refine wp_seq_k fun K8 hK8 => ?_;refine wp_region_lit ?_;refine Kn.pure fh11 rfl rfl .none (Kn.ex_move fh11 (.tmp rfl)) fun fa12 fh12 => ?_;clear fh11 fa11;refine Kn.pure fh12 rfl rfl .none (Kn.ex_assign fh12 (.tmp rfl)) fun fa13 fh13 => ?_;clear fh12 fa12;refine Kn.pure fh13 rfl rfl .none (Kn.ex_assign fh13 .const) fun fa14 fh14 => ?_;clear fh13 fa13;refine wpList_nil ?_;refine hK8 _ _ ?_;clear hK8 K8;replace fh14 := fh14.cut (.cons (t := 5) rfl (.cons (t := 4) rfl .nil));refine wp_ret ?_;exact Kn.ret2 fh14 rfl rfl rfl ⟨gt, rfl, HF.out.full (tabF_len F ts _), hgw, HB.out⟩
end Go.Proofs.YtbahklpdldghbaaGreatDoor.Shd
end
section
namespace Go.Proofs.YtbahklpdldghbaaGreatDoor.Shd
open Go Go.RowKit Go.Lib Oct Num Gap RowG Edg Csr
theorem shF_le {N : Nat} {ys : List (Int × Int)} (hs : Srt ys) (hg : Edg.Good (N : Int) ys) (f n : Nat) (h : f + n ≤ N) : (shF f n (rowsF ys f)).length ≤ 300000 := by
  have hN : (N : Int) ≤ 4096 := hg.hi;have h1 := rwF_max hs hg f n h;have h2 := ixF_le (f := (f : Int)) (R := rowsF ys f) n (fun j hj => by have := rwF_max hs hg f j (by omega); omega);have h3 := short_len9 f (by omega);have h4 := short_len9 n (by omega);unfold shF;simp only [List.length_append];omega
theorem gs_shF {N : Nat} {ys : List (Int × Int)} (hs : Srt ys) (hg : Edg.Good (N : Int) ys) (f n : Nat) (hn : 1 ≤ n) (h : f + n ≤ N) : gsG (bs (shF f n (rowsF ys f))) (N : Int) = .inr ((f : Int), lsR (rowsF ys f) n) := by
  have hN : (N : Int) ≤ 4096 := hg.hi;have hl := shF_le hs hg f n h;exact gs_of_shF hN hn (by omega) (fun k _ => goodT_trg hs hg _) (by rw [bs_size]; omega) (bs_data _)
def cutM (N E : Nat) : Nat := (N + E - 1) / E
theorem cutM_0 {E : Nat} (hE : 1 ≤ E) : cutM 0 E = 0 := by
  unfold cutM;exact Nat.div_eq_of_lt (by omega)
theorem cutM_cut {N E : Nat} (hE : 1 ≤ E) (hN : 1 ≤ N) : cutM N E = cutN N E := by
  unfold cutM cutN;rw [show N + E - 1 = N - 1 + E by omega, Nat.add_div_right _ (by omega)]
theorem cutM_lt {N E i : Nat} (hE : 1 ≤ E) (h : i < cutM N E) : i * E < N := by
  rcases Nat.eq_zero_or_pos N with h0 | h0
  · rw [h0, cutM_0 hE] at h; omega
  · rw [cutM_cut hE h0] at h; exact cut_lt hE h0 h
theorem cutM_end {N E : Nat} (hE : 1 ≤ E) : N ≤ cutM N E * E := by
  rcases Nat.eq_zero_or_pos N with h0 | h0
  · omega
  · rw [cutM_cut hE h0]; exact cut_end hE h0
theorem cutM_le {N E : Nat} (hE : 1 ≤ E) : cutM N E ≤ N := by
  rcases Nat.eq_zero_or_pos N with h0 | h0
  · rw [h0, cutM_0 hE]; omega
  · rw [cutM_cut hE h0];unfold cutN;have := Nat.div_le_self (N - 1) E;omega
def fP (E i : Nat) : Int := ((i * E : Nat) : Int)
def lP (ys : List (Int × Int)) (N E i : Nat) : List (List Int) := lsR (rowsF ys (i * E)) (min E (N - i * E))
section
variable {N E : Nat} {ys : List (Int × Int)}
theorem gs_part (hs : Srt ys) (hg : Edg.Good (N : Int) ys) (hE : 1 ≤ E) {i : Nat} (h : i < cutM N E) : (partF ys N E i).size ≤ maxLen ∧ gsG (partF ys N E i) (N : Int) = .inr (fP E i, lP ys N E i) := by
  have h1 := cutM_lt hE h;have h2 : 1 ≤ min E (N - i * E) := by omega
  have h3 : i * E + min E (N - i * E) ≤ N := by omega
  exact ⟨by unfold partF; rw [bs_size]; have := shF_le hs hg _ _ h3; unfold maxLen; omega, gs_shF hs hg _ _ h2 h3⟩
end
section
variable {N E a : Nat} {ys : List (Int × Int)}
end
section
variable {N E : Nat} {ys : List (Int × Int)}
theorem split_m (w : World) (B g : Nat) (hR : Rep w B g N ys) (hE : 1 ≤ E) (hE2 : E ≤ 9223372036854775807) (hl : cutM N E ≤ 64) :
    Calls Tryz.prog 29 #[.pointer (some ⟨g, 0, none⟩), .int .i64 (E : Int)] w fun e w' => ∃ A, e = .returned (.tuple #[.slice A (cutM N E) (cutM N E), .nilIface]) ∧ RIn txR w' A (partsF ys N E (cutM N E)) ∧ Below w.heap.size w w' ∧ (cutM N E ≠ 0 → ∃ gs, A = some ⟨gs, 0, none⟩) := by
  rcases Nat.eq_zero_or_pos N with h0 | h0
  · refine (split_zero E w B g N ys hR hE h0).mono fun e w' ⟨he, hw⟩ => ?_;subst hw;have e0 : cutM N E = 0 := by rw [h0, cutM_0 hE]
    rw [e0];exact ⟨none, he, fun i a hi => by simp [partsF] at hi, Below.refl _ _, fun h => absurd rfl h⟩
  · rw [cutM_cut hE h0] at hl ⊢;refine (split_yes E w B g N ys hR hE hE2 h0 hl).mono fun e w' ⟨gs, he, hH, hgs, hb⟩ => ?_;exact ⟨some ⟨gs, 0, none⟩, he, hH.rin, hb, fun _ => ⟨gs, rfl⟩⟩
end
end Go.Proofs.YtbahklpdldghbaaGreatDoor.Shd
end
section
namespace Go.Proofs.YtbahklpdldghbaaGreatDoor.Man
open Go Go.RowKit Go.Lib Oct Num Gap Csr Shd
theorem shortF_len1 : ∀ (f n : Nat), (shortF f n).length ≤ f + 1
  | 0, n => by simp [shortF]
  | f + 1, n => by
    rw [shortF]
    split
    · simp
    · rw [List.length_cons];have := shortF_len1 f (n / 128);omega
theorem short_13 (n : Nat) : (short n).length ≤ 13 := shortF_len1 12 n
theorem putF_13 (v : Int) (l : List Int) : ∀ k, (putF v l k).length ≤ 13 + 13 * k
  | 0 => by rw [putF]; exact short_13 _
  | 1 => by
    rw [putF, List.length_append];have h1 := short_13 l.length;have h2 := short_13 (turnOf (l.getD 0 0 - v)).toNat;omega
  | k + 2 => by
    rw [putF, List.length_append];have h1 := putF_13 v l (k + 1);have h2 := short_13 (l.getD (k + 1) 0 - l.getD k 0 - 1).toNat;omega
theorem rwF_13 (ys : List (Int × Int)) (f : Nat) : ∀ k, (rwF (f : Int) (rowsF ys f) k).length + 13 * bgn ys (f : Int) ≤ 13 * k + 13 * bgn ys ((f : Int) + (k : Int))
  | 0 => by rw [rwF]; simp
  | k + 1 => by
    rw [rwF, List.length_append];have h1 := rwF_13 ys f k;have h2 := putF_13 ((f : Int) + (k : Int)) (rowsF ys f k) (rowsF ys f k).length;have h3 := bgn_next ys ((f : Int) + (k : Int));have e : ((f : Int) + ((k + 1 : Nat) : Int)) = (f : Int) + (k : Int) + 1 := by omega
    rw [e, h3];have h4 : (rowsF ys f k).length = (trg ys ((f : Int) + (k : Int))).length := rfl;omega
theorem ixF_13 (f : Int) (R : Nat → List Int) : ∀ k, (ixF f R k).length ≤ 13 * k
  | 0 => by rw [ixF]; simp
  | k + 1 => by
    rw [ixF, List.length_append];have h1 := ixF_13 f R k
    split
    · have := short_13 (rwF f R k).length;omega
    · simp;omega
theorem part_13 (ys : List (Int × Int)) (N E i : Nat) : (partF ys N E i).size + 13 * bgn ys ((i * E : Nat) : Int) ≤ 26 + 26 * min E (N - i * E) + 13 * bgn ys ((i * E + min E (N - i * E) : Nat) : Int) := by
  have e : (partF ys N E i).size = (shF (i * E) (min E (N - i * E)) (rowsF ys (i * E))).length := by
    unfold partF;simp [bs, ByteArray.size]
  rw [e];unfold shF;simp only [List.length_append];have h1 := short_13 (i * E);have h2 := short_13 (min E (N - i * E));have h3 := ixF_13 ((i * E : Nat) : Int) (rowsF ys (i * E)) (min E (N - i * E));have h4 := rwF_13 ys (i * E) (min E (N - i * E));have e2 : ((i * E + min E (N - i * E) : Nat) : Int) = ((i * E : Nat) : Int) + ((min E (N - i * E) : Nat) : Int) := by omega
  rw [e2];omega
theorem parts_13 (ys : List (Int × Int)) (N E : Nat) : ∀ k, (Blk.catK (partsF ys N E k)).size ≤ 26 * k + 26 * min N (k * E) + 13 * bgn ys ((min N (k * E) : Nat) : Int)
  | 0 => by
    have : Blk.catK (partsF ys N E 0) = ⟨#[]⟩ := rfl;rw [this];show 0 ≤ _;omega
  | k + 1 => by
    have h1 := parts_13 ys N E k;have h2 := part_13 ys N E k;rw [partsF_succ];have e : Blk.catK (partsF ys N E k ++ [partF ys N E k]) = Blk.catK (partsF ys N E k) ++ partF ys N E k := by simp [Blk.catK, List.foldl_append]
    rw [e, ByteArray.size_append];have e3 : (k + 1) * E = k * E + E := Nat.succ_mul k E;rw [e3];rcases Nat.lt_or_ge (k * E) N with h3 | h3
    · have e4 : min N (k * E) = k * E := by omega
      have e5 : min N (k * E + E) = k * E + min E (N - k * E) := by omega
      rw [e4] at h1;rw [e5];omega
    · have e4 : min N (k * E) = N := by omega
      have e5 : min N (k * E + E) = N := by omega
      have e6 : min E (N - k * E) = 0 := by omega
      rw [e4] at h1;rw [e5];rw [e6] at h2;simp only [Nat.add_zero, Nat.mul_zero] at h2;omega
theorem parts_small {ys : List (Int × Int)} {N E k : Nat} (hN : N ≤ 300) (hy : ys.length ≤ 200) (hk : k ≤ 64) : (Blk.catK (partsF ys N E k)).size ≤ 12064 := by
  have h1 := parts_13 ys N E k;have h2 := bgn_le ys ((min N (k * E) : Nat) : Int);omega
end Go.Proofs.YtbahklpdldghbaaGreatDoor.Man
end
section
namespace Go.Proofs.YtbahklpdldghbaaGreatDoor.Sha
def vs (f : Nat → Nat) : Nat → Nat
  | 0 => 0
  | n + 1 => vs f n + f n * 65536 ^ n
def val (l : List Nat) : Nat := vs (wd l) l.length
def Dig (l : List Nat) : Prop := ∀ j, wd l j < 65536
theorem wd_out (l : List Nat) (j : Nat) (h : l.length ≤ j) : wd l j = 0 := by
  unfold wd; rw [List.getD_eq_getElem?_getD, List.getElem?_eq_none h]; rfl
theorem wd_in (l : List Nat) (j : Nat) (h : j < l.length) : wd l j = l[j] := by
  unfold wd; rw [List.getD_eq_getElem?_getD, List.getElem?_eq_getElem h]; rfl
theorem wd_set_eq (l : List Nat) (i x : Nat) (h : i < l.length) : wd (l.set i x) i = x := by
  unfold wd; simp [List.getD_eq_getElem?_getD, h]
theorem wd_set_ne (l : List Nat) (i j x : Nat) (h : j ≠ i) : wd (l.set i x) j = wd l j := by
  unfold wd; simp only [List.getD_eq_getElem?_getD, List.getElem?_set]; rw [if_neg (by omega)]
theorem Dig.set {l : List Nat} (h : Dig l) (i x : Nat) (hx : x < 65536) : Dig (l.set i x) := by
  intro j
  by_cases e : j = i
  · subst e
    by_cases hl : j < l.length
    · rw [wd_set_eq _ _ _ hl]; exact hx
    · rw [wd_out _ _ (by simp; omega)]; omega
  · rw [wd_set_ne _ _ _ _ e]; exact h j
end Go.Proofs.YtbahklpdldghbaaGreatDoor.Sha
end
section
namespace Go.Proofs.YtbahklpdldghbaaGreatDoor.Sha
open Go.RowKit Go.Lib
theorem bc_snoc (l : List UInt8) (b : UInt8) : Go.Lib.byteCells (l ++ [b]) = Go.Lib.byteCells l ++ [Value.int .u8 b.toNat] := by simp [Go.Lib.byteCells]
theorem byteOf_nat (n : Nat) : (byteOf n).toNat = n % 256 := by
  unfold byteOf;rw [UInt8.toNat_ofNat']; omega
theorem made_list (v : Value) (n : Nat) : (madeCells #[v] n).toList = List.replicate n v := by
  apply List.ext_getElem
  · simp [madeCells]
  · intro i h1 h2;simp [madeCells, Nat.mod_one]
theorem conv_own {w : World} {base : Nat} {v : Value} {l : List UInt8} (h : w.ownsRow base 5 1 v l.length (Go.Lib.byteCells l)) :
    (convert 93 9 v).run Tryz.prog w = .ok (.string ⟨l.toArray⟩) w := by
  rcases h.2 with ⟨rfl, h0⟩ | ⟨g, cap, cur, rfl, -, -, -, -, -, -⟩
  · have hl : l = [] := List.eq_nil_of_length_eq_zero h0;subst hl;exact run_convert_nil_bytes w _ _ 5 0 Tryz.underlying93 Tryz.underlying5 Tryz.underlying9
  · exact run_convert_bytes_back (P := Tryz.prog) w _ _ 5 ⟨g, 0, none⟩ cap l Tryz.underlying93 Tryz.underlying5 Tryz.underlying9 (fun j hj => h.cells (g := g) rfl j _ (by simp [Go.Lib.byteCells, hj]))
theorem cells_new (w : World) (l : List Value) (t : TypeId) : ∀ j u, l[j]? = some u → (w.alloc (.cells l.toArray t)).cell? ((⟨w.heap.size, 0, none⟩ : Addr).add j) = some u := by
  intro j u h;have hadd : (⟨w.heap.size, 0, none⟩ : Addr).add j = ⟨w.heap.size, j, none⟩ := by unfold Addr.add; split <;> simp_all
  rw [hadd, cell_of_row _ _ _ _ _ _ (heap_alloc_new w _)]
  simpa using h
def endA (z : Nat) : List UInt8 := 128 :: List.replicate z 0
theorem be8_len (x k : Nat) : (be8 x k).length = k := by
  induction k with
  | zero => rfl
  | succ k ih => simp [be8, ih]
theorem ending_len (n : Nat) : (ending n).length = 1 + (119 - n % 64) % 64 + 8 := by simp [ending, be8_len]; omega
set_option maxRecDepth 100000 in
set_option maxHeartbeats 400000 in
theorem ending_any (n : Nat) (w : World) (hn : (n : Int) ≤ 70368744177664) :
    Calls Tryz.prog 115 #[.int .i64 (n : Int)] w fun e w' => e = .returned (.string ⟨(ending n).toArray⟩) ∧ Below w.heap.size w w' := by
  obtain ⟨i0, hi, hz0, hz1, hz2⟩ := info_parts info8;obtain ⟨z, hz⟩ : ∃ z, (119 - n % 64) % 64 = z := ⟨_, rfl⟩;have hz64 : z < 64 := by omega
  have HZ := Lib.hid hz;have hzi : (119 - (n : Int) % 64) % 64 = (z : Int) := by omega
  have hzi2 : (119 - (n : Int)) % 64 = (z : Int) := by omega
  have hmk : (Instr.makeSlice 93 (.int .i64 (1 + (z : Int))) (.int .i64 (1 + (z : Int) + 8))).run Tryz.prog w = .ok (.slice (some ⟨w.heap.size, 0, none⟩) (1 + z) (1 + z + 8)) (w.alloc (.cells (madeCells #[.int .u8 0] (1 + z + 8)) 5)) := by
    have h := run_make (P := Tryz.prog) w 93 5 i0 (.int .u8 0) Tryz.underlying93 hi hz0 .i64 .i64 (1 + (z : Int)) (1 + (z : Int) + 8) (by omega) (by omega) (by rw [hz2]; omega) (by omega);rw [hz1, show (1 + (z : Int)).toNat = 1 + z by omega, show (1 + (z : Int) + 8).toNat = 1 + z + 8 by omega, Nat.mul_one] at h;exact h
  have hm0 : (madeCells #[.int .u8 0] (1 + z + 8))[0]? = some (.int .u8 0) := by
    have h := made_list (.int .u8 0) (1 + z + 8);rw [← Array.getElem?_toList, h]; simp
  have HO : Hid ((w.alloc (.cells ((madeCells #[.int .u8 0] (1 + z + 8)).setIfInBounds 0 (.int .u8 128)) 5)).ownsRow w.heap.size 5 1 (.slice (some ⟨w.heap.size, 0, none⟩) (1 + z) (1 + z + 8)) (endA z).length (Go.Lib.byteCells (endA z))) := Lib.hid (by
    have el : (endA z).length = 1 + z := by simp [endA]; omega
    rw [el];refine ⟨by simp [Go.Lib.byteCells, endA]; omega, .inr ⟨w.heap.size, 1 + z + 8, _, rfl, Nat.le_refl _, heap_alloc_new _ _, by omega, by unfold maxLen; omega, by simp [size_madeCells], ?_⟩⟩;rw [Array.toList_setIfInBounds, made_list, show 1 + z + 8 = (z + 8) + 1 by omega, List.replicate_succ, List.set_cons_zero, Nat.mul_one, show 1 + z = z + 1 by omega, List.take_succ_cons, List.take_replicate]
    simp [Go.Lib.byteCells, endA])
  obtain ⟨x, hx⟩ : ∃ x, n * 8 = x := ⟨_, rfl⟩;have hxi : (n : Int) * 8 = (x : Int) := by omega
  have HX := Lib.hid hx;have hxb : (x : Int) ≤ 562949953421312 := by omega
  clear hz hx
  go_enter Tryz.func115, Tryz.ntmps115
  go_wp2
  clear hzi hzi2 hxi;generalize (119 - (n : Int) % 64) % 64 = q0
  go_loopw [4, 6] (fun v i wr => ∃ (k : Nat) (s : Int) (l : List UInt8), k ≤ 8 ∧ i = .int .i64 s ∧ Hid (s = 56 - 8 * (k : Int)) ∧ Hid (l = endA z ++ be8 x k) ∧ Hid (wr.ownsRow w.heap.size 5 1 v l.length (Go.Lib.byteCells l)) ∧ Hid (Below w.heap.size w wr)) (fun _ i _ => (intOf i + 8).toNat)
  case atStart => exact ⟨0, 56, endA z, by omega, rfl, Lib.hid rfl, Lib.hid (by simp [be8]), HO, Lib.hid ((Below.refl _ _).alloc (Nat.le_refl _) _)⟩
  case round =>
    clear HO hm0 hmk;obtain ⟨k, s, l, hk, rfl, HS, HL, HO, HB⟩ := hrel;have hlen : l.length ≤ 72 := by rw [HL.out]; simp [endA, be8_len]; omega
    by_cases hlt : k < 8
    · obtain ⟨sh, rfl⟩ := Int.eq_ofNat_of_zero_le (show 0 ≤ s by have := HS.out; omega);have hsh : sh ≤ 56 := by have := HS.out; omega
      obtain ⟨y, hy⟩ : ∃ y : Nat, x / 2 ^ sh % 256 = y := ⟨_, rfl⟩;have hyi : (x : Int) / 2 ^ sh % 256 = (y : Int) := by rw [← hy, Int.natCast_emod, Int.natCast_ediv, Int.natCast_pow]; rfl
      have HY := Lib.hid (show (byteOf (x / 2 ^ (56 - 8 * k))).toNat = y by rw [byteOf_nat, ← hy, show 56 - 8 * k = sh by have := HS.out; omega]);clear hy;have hs1 := HB.out.size
      go_wp2_with (at_builtin; refine wpList_append_own _ rfl _ _ 93 rfl w.heap.size 5 i0 (.int .u8 0) 1 1 Tryz.underlying93 hi hz0 hz1 hz2 rfl (by decide) _ _ _ rfl (HO.out.alloc _) ⟨wr.heap.size, 0, none⟩ 1 1 [Value.int .u8 (y : Int)] rfl rfl ?c1 ?c2 ?c3 ?c4 ?c5 ?_)
      case c1 => exact cell_one_new _ _ _
      case c2 => intro u hu; simp at hu; subst hu; rfl
      case c3 => unfold maxLen; omega
      case c4 => omega
      case c5 => simp; omega
      intro v' w1 hown' hgrow _;have HB2 := Lib.hid ((HB.out.alloc hs1 _).grown hgrow (by simp; omega) (fun k hk => (HO.out.lt k hk).1))
      have HO2 : Hid (w1.ownsRow w.heap.size 5 1 v' (l ++ [byteOf (x / 2 ^ (56 - 8 * k))]).length (Go.Lib.byteCells (l ++ [byteOf (x / 2 ^ (56 - 8 * k))]))) := Lib.hid (by
        rw [bc_snoc, HY.out]; simpa using hown')
      clear hown' hgrow
      go_wp2
      go_roundw
      case rel => exact ⟨k + 1, _, _, by omega, rfl, Lib.hid (by rw [HS.out]; omega), Lib.hid (by rw [HL.out, be8, List.append_assoc]), HO2, HB2⟩
      case measure => simp [intOf]; omega
    · have hk8 : k = 8 := by omega
      subst hk8;have hs : s = -8 := by have := HS.out; omega
      subst hs;have hcv := conv_own HO.out
      go_wp2
      go_ret
      refine ⟨?_, HB.out⟩;rw [HL.out, ← HX.out, ← HZ.out];unfold ending endA;rw [Nat.mul_comm n 8]; rfl
def CAt (w : World) (b : Nat) (c : List Nat) : Prop := ∀ i, i < 8 → w.cell? ⟨b, i, none⟩ = some (u32V (wd c i))
theorem outB_len (c : List Nat) (k : Nat) : (outB c k).length = 4 * k := by
  induction k with
  | zero => rfl
  | succ k ih => simp [outB, ih, w4]; omega
set_option maxRecDepth 100000 in
set_option maxHeartbeats 400000 in
theorem digest_any (b : Nat) (c : List Nat) (w : World) (hb : b < w.heap.size) (hc : CAt w b c) (hlt : ∀ i, wd c i < 4294967296) :
    Calls Tryz.prog 116 #[.pointer (some ⟨b, 0, none⟩)] w fun e w' => e = .returned (.string ⟨(outB c 8).toArray⟩) ∧ Below w.heap.size w w' := by
  obtain ⟨i0, hi, hz0, hz1, hz2⟩ := info_parts info8;have HC := Lib.hid hc;have HLT := Lib.hid hlt;obtain ⟨w0, hmk, hown0, hgr0⟩ := run_make_own (P := Tryz.prog) w w.heap.size 93 5 i0 (.int .u8 0) 1 Tryz.underlying93 hi hz0 hz1 .i64 .i64 32 (by rw [hz2]; omega) (by unfold maxLen; omega) (Nat.le_refl _);rw [show ((32 : Nat) : Int) = 32 by rfl] at hmk;have HO := Lib.hid hown0;have HB0 := Lib.hid ((Below.refl w.heap.size w).grown hgr0 (Nat.le_refl _) (fun k hk => by cases hk));clear hc hlt hown0 hgr0
  go_enter Tryz.func116, Tryz.ntmps116
  go_wp2
  go_loopw [3, 8] (fun v i wr => ∃ (k : Nat) (l : List UInt8), k ≤ 8 ∧ i = .int .i64 k ∧ Hid (l = outB c k) ∧ Hid (wr.ownsRow w.heap.size 5 1 v l.length (Go.Lib.byteCells l)) ∧ Hid (Below w.heap.size w wr)) (fun _ i _ => 8 - (intOf i).toNat)
  case atStart => exact ⟨0, [], by omega, rfl, Lib.hid rfl, HO, HB0⟩
  case round =>
    clear HO hmk HB0;obtain ⟨k, l, hk, rfl, HL, HO, HB⟩ := hrel;have hlen : l.length ≤ 32 := by rw [HL.out, outB_len]; omega
    by_cases hlt : k < 8
    · have hcell : wr.cell? ⟨b, k, none⟩ = some (.int .u32 (wd c k : Nat)) := (HB.out.cell (p := ⟨b, k, none⟩) hb).trans (HC.out k hlt);obtain ⟨x, hx⟩ : ∃ x, wd c k = x := ⟨_, rfl⟩;have hx32 : x < 4294967296 := by rw [← hx]; exact HLT.out k
      rw [hx] at hcell;have HX := Lib.hid hx;clear hx;obtain ⟨y1, hy1⟩ : ∃ y : Nat, (x : Int) / 16777216 = (y : Int) := ⟨x / 16777216, by omega⟩;obtain ⟨y2, hy2⟩ : ∃ y : Nat, (x : Int) / 65536 % 256 = (y : Int) := ⟨x / 65536 % 256, by omega⟩;obtain ⟨y3, hy3⟩ : ∃ y : Nat, (x : Int) / 256 % 256 = (y : Int) := ⟨x / 256 % 256, by omega⟩;obtain ⟨y4, hy4⟩ : ∃ y : Nat, (x : Int) % 256 = (y : Int) := ⟨x % 256, by omega⟩
      have HY : Hid (Go.Lib.byteCells (w4 x) = [.int .u8 (y1 : Int), .int .u8 (y2 : Int), .int .u8 (y3 : Int), .int .u8 (y4 : Int)]) := Lib.hid (by
        simp only [w4, Go.Lib.byteCells, List.map_cons, List.map_nil, byteOf_nat]
        rw [show ((x / 16777216 % 256 : Nat) : Int) = (y1 : Int) by omega, show ((x / 65536 % 256 : Nat) : Int) = (y2 : Int) by omega, show ((x / 256 % 256 : Nat) : Int) = (y3 : Int) by omega, show ((x % 256 : Nat) : Int) = (y4 : Int) by omega])
      have hs1 := HB.out.size
      go_wp2_with (at_builtin; refine wpList_append_own _ rfl _ _ 93 rfl w.heap.size 5 i0 (.int .u8 0) 1 1 Tryz.underlying93 hi hz0 hz1 hz2 rfl (by decide) _ _ _ rfl (HO.out.alloc _) ⟨wr.heap.size, 0, none⟩ 4 4 [.int .u8 (y1 : Int), .int .u8 (y2 : Int), .int .u8 (y3 : Int), .int .u8 (y4 : Int)] rfl rfl ?c1 ?c2 ?c3 ?c4 ?c5 ?_)
      case c1 => exact cells_new _ _ _
      case c2 => intro u hu; simp at hu; rcases hu with rfl | rfl | rfl | rfl <;> rfl
      case c3 => unfold maxLen; omega
      case c4 => omega
      case c5 => simp; omega
      intro v' w1 hown' hgrow _;have HB2 := Lib.hid ((HB.out.alloc hs1 _).grown hgrow (by simp; omega) (fun k hk => (HO.out.lt k hk).1))
      have HO2 : Hid (w1.ownsRow w.heap.size 5 1 v' (l ++ w4 x).length (Go.Lib.byteCells (l ++ w4 x))) := Lib.hid (by
        have e1 : (l ++ w4 x).length = l.length + 4 := by simp [w4]
        have e2 : Go.Lib.byteCells (l ++ w4 x) = Go.Lib.byteCells l ++ Go.Lib.byteCells (w4 x) := by simp [Go.Lib.byteCells]
        rw [e1, e2, HY.out]; exact hown')
      clear hown' hgrow hy1 hy2 hy3 hy4
      go_wp2
      go_roundw
      case rel => exact ⟨k + 1, _, by omega, by go_num, Lib.hid (by rw [HL.out, outB, HX.out]), HO2, HB2⟩
      case measure => simp [intOf]; omega
    · have hk8 : k = 8 := by omega
      subst hk8;have hcv := conv_own HO.out
      go_wp2
      go_ret
      exact ⟨by rw [HL.out]; rfl, HB.out⟩
end Go.Proofs.YtbahklpdldghbaaGreatDoor.Sha
end
section
namespace Go.Proofs.YtbahklpdldghbaaGreatDoor.Sha
open Go.RowKit Go.Lib
def zst : Array Value := stV (List.replicate 8 0) (List.replicate 64 0) 0
theorem zst_new {w : World} {b : Nat} {t : TypeId} (h : Row w b t zst) : StW w b t [] := ⟨List.replicate 8 0, List.replicate 64 0, by simp, by simp, .inl rfl, h⟩
theorem stV_len (c : List Nat) (r : List UInt8) (n : Nat) (hc : c.length = 8) (hr : r.length = 64) : (stV c r n).size = 73 := by simp [stV, hc, hr]
theorem zst_len : zst.size = 73 := by simp [zst, stV]
theorem stV_one (c : List Nat) (r : List UInt8) (n : Nat) : (stV c r n).all (·.oneCell') = true := by simp [stV, u32V, bV, Value.oneCell']
theorem info44 : (Tryz.prog.info? 182).map (·.size) = some 73 := by kernel_rfl
theorem cat_one (s : ByteArray) : cat (fun _ => s) 1 = s.data.toList := by simp [cat]
theorem sarg_one (w : World) (B : Nat) (s : ByteArray) (t : TypeId) (hB : B < w.heap.size) : SArg (w.alloc (.cells #[.string s] t)) B (some ⟨w.heap.size, 0, none⟩) 1 (fun _ => s) := by
  intro k hk;obtain rfl : k = 0 := by omega
  exact ⟨w.heap.size, 0, rfl, by simp, by omega, by rw [cell_of_row _ _ _ _ _ _ (heap_alloc_new w _)]; rfl⟩
theorem dig_of (l : List UInt8) (c : List Nat) (r : List UInt8) (h : l ++ ending l.length = [] ∨ Inv (l ++ ending l.length) c r) : outB c 8 = dig l ∧ ∀ i, wd c i < 4294967296 := by
  have hi := h.resolve_left (by simp [ending]);unfold dig;rw [← hi.hc];exact ⟨rfl, by rw [hi.hc]; exact blocks_lt _ _⟩
theorem info44z : (Tryz.prog.info? 182).map (·.zero) = some (some (.agg zst)) := by kernel_rfl
theorem zero44 (v : World) : (zeroValue 182).run Tryz.prog v = .ok (.agg zst) v := by
  have h := info44z
  cases hq : Tryz.prog.info? 182 with
  | none => rw [hq] at h; cases h
  | some i =>
    rw [hq] at h;have hz : i.zero = some (.agg zst) := by simpa using h
    simp [zeroValue, typeInfo, hq, hz]
set_option maxRecDepth 100000 in
set_option maxHeartbeats 400000 in
theorem sum_st (b : Nat) (t : TypeId) (l : List UInt8) (w : World) (hT : Tabs w) (hst : StW w b t l) (hl : (l.length : Int) ≤ 35184372088832) :
    Calls Tryz.prog 95 #[.pointer (some ⟨b, 0, none⟩)] w fun e w' => e = .returned (.string ⟨(dig l).toArray⟩) ∧ Below w.heap.size w w' := by
  have HT := Lib.hid hT;obtain ⟨c, r, hc, hr, hi, hrow⟩ := hst;have HI := Lib.hid hi;have HC := Lib.hid hc;have HRL := Lib.hid hr;have HR := Lib.hid hrow;have HS : Hid ((Tryz.prog.info? 182).map (·.size) = some (stV c r l.length).size) := Lib.hid (by rw [info44, stV_len _ _ _ hc hr]);have h2 := hT.size;clear hT hc hr hrow hi;have hz44 := zero44
  go_enter Tryz.func95, Tryz.ntmps95
  go_wp2_with (first | (refine wpList_load_row rfl 182 (.tmp 7) rfl b rfl t (stV c r l.length) (0, 0) _ HR.out Tryz.underlying182 rfl HS.out ?_) | (refine wpList_store_rowA rfl 182 (.tmp 3) (.tmp 8) rfl w.heap.size (stV c r l.length) rfl rfl 182 zst (heap_alloc_new _ _) HS.out (by rw [stV_len _ _ _ HC.out HRL.out, zst_len]) (stV_one _ _ _) ?_; intro w2 hw2 ho2; refine Hid.out ?_))
  refine Lib.hid ?_;have HW2 := Lib.hid hw2;have hb2 : Below w.heap.size w w2 := ((Below.refl w.heap.size w).alloc (Nat.le_refl _) _).trans (ho2.below (Nat.le_refl _) (by simp));have HB2 := Lib.hid hb2;have hs2 : w.heap.size < w2.heap.size := hw2.lt;have hcn : w2.cell? ⟨b, 72, none⟩ = some (.int .i64 (l.length : Int)) := (HB2.out.cell (p := ⟨b, 72, none⟩) HR.out.lt).trans ((HR.out.cell 72).trans (stV_n c r l.length HC.out HRL.out));clear hw2 ho2 hb2
  go_wp2_with (go_at_call 115; refine (ending_any l.length _ (by omega)).mono ?_; rintro e w3 ⟨rfl, hb3⟩; refine Hid.out ?_)
  refine Lib.hid ?_;have HB3 := Lib.hid (HB2.out.trans (hb3.mono (Nat.le_of_lt hs2)));have HW3 := Lib.hid (HW2.out.below hb3 hs2);have hs3 : w.heap.size < w3.heap.size := HW3.out.lt;clear hb3 hcn HW2;have HEL : Hid (((l.length + (cat (fun _ => (⟨(ending l.length).toArray⟩ : ByteArray)) 1).length : Nat) : Int) ≤ 70368744177664) := Lib.hid (by rw [cat_one]; simp [ending_len]; omega)
  go_wp2_with (go_at_call 94; refine (write_any w.heap.size 182 l _ 1 1 (fun _ => ⟨(ending l.length).toArray⟩) _ h2 (HT.out.below (HB3.out.alloc (Nat.le_of_lt hs3) _) h2) ⟨c, r, HC.out, HRL.out, HI.out, (Below.heap_alloc _ _ _ hs3).trans HW3.out⟩ (sarg_one _ _ _ _ hs3) HEL.out (by omega)).mono ?_; rintro e w4 ⟨rfl, hst4, ho4⟩; refine Hid.out ?_)
  refine Lib.hid ?_;rw [cat_one] at hst4;obtain ⟨c4, r4, hc4, hr4, hi4, hrow4⟩ := hst4;have HD := Lib.hid (dig_of l c4 r4 hi4);have HR4 := Lib.hid hrow4;have HC4 := Lib.hid hc4;have HB4 := Lib.hid ((HB3.out.alloc (Nat.le_of_lt hs3) _).trans (ho4.below (Nat.le_refl _) (by simp; omega)));have hs4 : w.heap.size < w4.heap.size := hrow4.lt;clear hi4 hrow4 hc4 hr4 ho4
  go_wp2_with (go_at_call 116; refine (digest_any w.heap.size c4 _ hs4 (fun i hi => (HR4.out.cell i).trans (stV_c _ _ _ _ HC4.out hi)) HD.out.2).mono ?_; rintro e w5 ⟨rfl, hb5⟩; refine Hid.out ?_)
  refine Lib.hid ?_;have HB5 := Lib.hid (HB4.out.trans (hb5.mono (Nat.le_of_lt hs4)));clear hb5
  go_wp2
  go_ret
  exact ⟨by rw [HD.out.1]; rfl, HB5.out⟩
set_option maxRecDepth 100000 in
set_option maxHeartbeats 400000 in
theorem sum_any (A : Option Addr) (n cp : Nat) (ss : Nat → ByteArray) (w : World) (hT : Tabs w) (hA : SArg w w.heap.size A n ss) (hn : (n : Int) ≤ 9223372036854775807) (hl : ((cat ss n).length : Int) ≤ 35184372088832) :
    Calls Tryz.prog 74 #[.slice A n cp] w fun e w' => e = .returned (.string ⟨(dig (cat ss n)).toArray⟩) ∧ Below w.heap.size w w' := by
  have HT := Lib.hid hT;have h2 := hT.size;have HA := Lib.hid hA;have HL := Lib.hid hl;clear hT hA hl
  have HA1 : Hid (SArg (w.alloc (.cells zst 182)) w.heap.size A n ss) := Lib.hid (by
    intro k hk;obtain ⟨b, o, e, hb, hne, hc⟩ := HA.out k hk
    exact ⟨b, o, e, by simp; omega, hne, (World.cell?_alloc_lt w _ ⟨b, o + k, none⟩ hb).trans hc⟩)
  have HL1 : Hid (((([] : List UInt8).length + (cat ss n).length : Nat) : Int) ≤ 70368744177664) := Lib.hid (by have := HL.out; simp; omega);have hz44 := zero44
  go_enter Tryz.func74, Tryz.ntmps74
  go_wp2_with (go_at_call 94; refine (write_any w.heap.size 182 [] A n cp ss (w.alloc (.cells zst 182)) h2 (HT.out.below ((Below.refl w.heap.size w).alloc (Nat.le_refl _) _) h2) (zst_new (heap_alloc_new _ _)) HA1.out HL1.out hn).mono ?_; rintro e w1 ⟨rfl, hst1, ho1⟩; refine Hid.out ?_)
  refine Lib.hid ?_;rw [List.nil_append] at hst1;have HS1 := Lib.hid hst1;have HB1 := Lib.hid (((Below.refl w.heap.size w).alloc (Nat.le_refl _) _).trans (ho1.below (Nat.le_refl _) (by simp)));have hs1 : w.heap.size < w1.heap.size := hst1.lt;clear hst1 ho1
  go_wp2_with (go_at_call 95; refine (sum_st w.heap.size 182 (cat ss n) _ (HT.out.below HB1.out h2) HS1.out HL.out).mono ?_; rintro e w2 ⟨rfl, hb2⟩; refine Hid.out ?_)
  refine Lib.hid ?_;have HB2 := Lib.hid (HB1.out.trans (hb2.mono (Nat.le_of_lt hs1)));clear hb2
  go_wp2
  go_ret
  exact ⟨rfl, HB2.out⟩
end Go.Proofs.YtbahklpdldghbaaGreatDoor.Sha
end
section
namespace Go.Proofs.YtbahklpdldghbaaGreatDoor.Sha
open Go.RowKit Go.Lib
theorem dig_len (l : List UInt8) : (dig l).length = 32 := by unfold dig; rw [outB_len]
def digB (l : List UInt8) : ByteArray := ⟨(dig l).toArray⟩
theorem digB_size (l : List UInt8) : (digB l).size = 32 := dig_len l
end Go.Proofs.YtbahklpdldghbaaGreatDoor.Sha
end
section
namespace Go.Proofs.YtbahklpdldghbaaGreatDoor.Sha
open Go.RowKit Go.Lib
def VIn (w : World) (A : Option Addr) (n : Nat) (f : Nat → Value) : Prop := ∀ k, k < n → ∃ b o, A = some ⟨b, o, none⟩ ∧ b < w.heap.size ∧ w.cell? ⟨b, o + k, none⟩ = some (f k)
end Go.Proofs.YtbahklpdldghbaaGreatDoor.Sha
end
section
namespace Go.Proofs.YtbahklpdldghbaaGreatDoor.Sha
open Go.RowKit Go.Lib
def iV (n : Nat) : Value := .int .i64 (n : Int)
def NIn (w : World) (A : Option Addr) (l : List Nat) : Prop := VIn w A l.length (fun k => .int .i64 ((wd l k : Nat) : Int))
theorem VIn.below {w w' : World} {A : Option Addr} {n : Nat} {f : Nat → Value} (h : VIn w A n f) (hb : Below w.heap.size w w') : VIn w' A n f := fun k hk => by
  obtain ⟨b, o, e, hlt, hc⟩ := h k hk;exact ⟨b, o, e, by have := hb.size; omega, (hb.cell (p := ⟨b, o + k, none⟩) hlt).trans hc⟩
theorem NIn.below {w w' : World} {A : Option Addr} {l : List Nat} (h : NIn w A l) (hb : Below w.heap.size w w') : NIn w' A l := VIn.below h hb
theorem infoI : (Tryz.prog.info? 3).map (fun i => (i.zero, i.size, i.bytes)) = some (some (.int .i64 0), 1, 8) := by kernel_rfl
end Go.Proofs.YtbahklpdldghbaaGreatDoor.Sha
end
section
namespace Go.Proofs.YtbahklpdldghbaaGreatDoor.Sha
open Go.RowKit Go.Lib
theorem retB {a b : Bool} (h : a = b) : Ending.returned (.bool a) = .returned (.bool b) := by rw [h]
end Go.Proofs.YtbahklpdldghbaaGreatDoor.Sha
end
section
namespace Go.Proofs.YtbahklpdldghbaaGreatDoor.Sha
open Go.RowKit Go.Lib
theorem own_lit {w : World} {base : Nat} {t : TypeId} (o : Nat) (ho : base ≤ o) (h : w.heap[o]? = some (.cells #[] t (0, 0))) : w.ownsRow base t 1 (.slice (some ⟨o, 0, none⟩) 0 0) 0 [] :=
  ⟨by simp, .inr ⟨o, 0, #[], rfl, ho, h, Nat.le_refl _, by unfold maxLen; omega, by simp, by simp⟩⟩
end Go.Proofs.YtbahklpdldghbaaGreatDoor.Sha
end
section
namespace Go.Proofs.YtbahklpdldghbaaGreatDoor.Sha
def nb (l : List UInt8) : List Nat := l.map UInt8.toNat
end Go.Proofs.YtbahklpdldghbaaGreatDoor.Sha
end
section
namespace Go.Proofs.YtbahklpdldghbaaGreatDoor.Sha
open Go.RowKit Go.Lib
attribute [local go_sem ↓] Go.wp_at_zero Go.wp_at_succ
def RN (w : World) (g : Nat) (l : List Nat) : Prop := g < w.heap.size ∧ ∀ k, k < l.length → w.cell? ⟨g, k, none⟩ = some (.int .i64 ((wd l k : Nat) : Int))
def OwnI (w : World) (B g cap : Nat) (l : List Nat) : Prop := w.ownsRow B 3 1 (.slice (some ⟨g, 0, none⟩) l.length cap) l.length (l.map iV)
theorem OwnI.rn {w : World} {B g cap : Nat} {l : List Nat} (h : OwnI w B g cap l) : RN w g l :=
  ⟨(h.lt g rfl).2, fun k hk => by rw [h.cellAt k (by omega), List.getElem?_map, List.getElem?_eq_getElem hk, wd_in l k hk]; rfl⟩
theorem OwnI.ge {w : World} {B g cap : Nat} {l : List Nat} (h : OwnI w B g cap l) : B ≤ g := (h.lt g rfl).1
theorem RN.grown {w w' : World} {g : Nat} {l : List Nat} {row : Option Nat} (h : RN w g l) (hg : w.grownBy w' row) (hne : some g ≠ row) : RN w' g l :=
  ⟨by have := hg.size; have := h.1; omega, fun k hk => (World.cell?_of_block (w := w) (hg.block g h.1 hne)).trans (h.2 k hk)⟩
theorem RN.alloc {w : World} {g : Nat} {l : List Nat} (h : RN w g l) (o : Obj) : RN (w.alloc o) g l :=
  ⟨by have := h.1; simp; omega, fun k hk => (World.cell?_alloc_lt w o ⟨g, k, none⟩ h.1).trans (h.2 k hk)⟩
theorem RN.drewN {w : World} {g : Nat} {l : List Nat} (h : RN w g l) (n : Nat) : RN (w.drewN n) g l := h
theorem RN.drew {w : World} {g : Nat} {l : List Nat} (h : RN w g l) : RN w.drew g l := h
theorem OwnI.grown {w w' : World} {B g cap : Nat} {l : List Nat} {row : Option Nat} (h : OwnI w B g cap l) (hg : w.grownBy w' row) (hne : some g ≠ row) : OwnI w' B g cap l := World.ownsRow.kept h hg (.inr hne)
theorem OwnI.alloc {w : World} {B g cap : Nat} {l : List Nat} (h : OwnI w B g cap l) (o : Obj) : OwnI (w.alloc o) B g cap l := World.ownsRow.alloc h o
theorem OwnI.drewN {w : World} {B g cap : Nat} {l : List Nat} (h : OwnI w B g cap l) (n : Nat) : OwnI (w.drewN n) B g cap l := h
theorem OwnI.new (w : World) (B : Nat) (hB : B ≤ w.heap.size) : OwnI (w.alloc (.cells #[] 3)) B w.heap.size 0 [] := own_lit _ hB (heap_alloc_new _ _)
theorem OwnI.one (w : World) (B x : Nat) (hB : B ≤ w.heap.size) : OwnI (w.alloc (.cells #[.int .i64 (x : Int)] 3)) B w.heap.size 1 [x] :=
  World.ownsRow_lit w #[.int .i64 (x : Int)] 1 hB (by unfold maxLen; omega) rfl
theorem addr_add (b o j : Nat) : (⟨b, o, none⟩ : Addr).add j = ⟨b, o + j, none⟩ := by unfold Addr.add; split <;> simp_all
theorem OwnI.news {w : World} {B g cap : Nat} {l : List Nat} (h : OwnI w B g cap l) : ∀ j u, (l.map iV)[j]? = some u → w.cell? ((⟨g, 0, none⟩ : Addr).add j) = some u := World.ownsRow.cells h (g := g) rfl
theorem NIn.news {w : World} {b o : Nat} {l : List Nat} (h : NIn w (some ⟨b, o, none⟩) l) : ∀ j u, (l.map iV)[j]? = some u → w.cell? ((⟨b, o, none⟩ : Addr).add j) = some u := fun j u hu => by
  have hj : j < l.length := by have := (List.getElem?_eq_some_iff.1 hu).1; simpa using this
  obtain ⟨b', o', e, _, hc⟩ := h j hj;cases e;rw [addr_add, hc, ← hu, List.getElem?_map, List.getElem?_eq_getElem hj];show some (iV (wd l j)) = some (iV l[j]);rw [wd_in l j hj]
theorem ints_one (l : List Nat) : ∀ u ∈ l.map iV, u.oneCell' = true := fun u hu => by obtain ⟨x, _, rfl⟩ := List.mem_map.1 hu; rfl
theorem RN.cut {w : World} {g : Nat} {l m : List Nat} (h : RN w g (l ++ m)) : RN w g l := ⟨h.1, fun k hk => by
  rw [h.2 k (by rw [List.length_append]; omega), wd_in (l ++ m) k (by rw [List.length_append]; omega), wd_in l k hk, List.getElem_append_left hk]⟩
theorem run_push (w : World) (ty : TypeId) (B g cap F x : Nat) (l : List Nat) (fr : Nat × Nat) (hO : OwnI w B g cap l) (hF : w.heap[F]? = some (.cells #[.int .i64 (x : Int)] 3 fr)) (hB : B ≤ w.heap.size) (hl : l.length ≤ 1000000) :
    ∃ g' cap' w', (Builtin.append_ #[58, 58] ty #[.slice (some ⟨g, 0, none⟩) l.length cap, .slice (some ⟨F, 0, none⟩) 1 1]).run Tryz.prog w = .ok (.slice (some ⟨g', 0, none⟩) (l.length + 1) cap') w' ∧ OwnI w' B g' cap' (l ++ [x]) ∧ w.grownBy w' (some g) ∧ (g' = g ∨ g' = w.heap.size) ∧ RN w' g l := by
  obtain ⟨i0, hi, hz0, hz1, hz2⟩ := info_parts infoI;have hnews : ∀ j u, ([Value.int .i64 (x : Int)] : List Value)[j]? = some u → w.cell? ((⟨F, 0, none⟩ : Addr).add j) = some u := World.news_of_block (cs := #[.int .i64 (x : Int)]) hF;have h1 : ∀ u ∈ ([Value.int .i64 (x : Int)] : List Value), u.oneCell' = true := by simp [Value.oneCell']
  obtain ⟨g', cap', w', hrun, hown, hgrow, hat, hlt⟩ := run_append_lies (P := Tryz.prog) w 58 ty B 3 i0 (.int .i64 0) 1 8 Tryz.underlying58 hi hz0 hz1 hz2 rfl (by decide) (.slice (some ⟨g, 0, none⟩) l.length cap) l.length (l.map iV) hO ⟨F, 0, none⟩ 1 1 [.int .i64 (x : Int)] rfl hnews h1 (by omega) (by unfold maxLen; omega) (by omega) hB w.heap.size rfl
  have hO2 : OwnI w' B g' cap' (l ++ [x]) := by
    unfold OwnI; rw [List.length_append, List.map_append]; exact hown
  refine ⟨g', cap', w', hrun, hO2, hgrow, ?_, ?_⟩
  · rcases hat with h | h
    · exact .inl (by simpa [Value.ownBlock] using h.symm)
    · exact .inr h
  · rcases hO.2 with ⟨h', _⟩ | ⟨gg, cc, cur, h', hbg, hg, hnc, hcm, hcs, htake⟩
    · simp at h'
    · simp only [Value.slice.injEq, Option.some.injEq, Addr.mk.injEq, and_true, true_and] at h';obtain ⟨rfl, rfl⟩ := h'
      by_cases hroom : l.length + 1 ≤ cap
      · have hr := run_append_room (P := Tryz.prog) w 58 ty 3 i0 Tryz.underlying58 hi g l.length cap cur hg ⟨F, 0, none⟩ 1 1 [.int .i64 (x : Int)] (by rw [hz1]; rfl) hnews h1 hroom (by rw [hz1]; simp at hcs ⊢; omega);rw [hrun] at hr;injection hr with hv hw
        injection hv with hv
        injection hv with hv
        injection hv with hv
        subst hv;exact hO2.rn.cut
      · have hr := run_append_grow (P := Tryz.prog) w 58 ty 3 i0 (.int .i64 0) Tryz.underlying58 hi hz0 ⟨g, 0, none⟩ l.length cap (l.map iV) (by rw [hz1]; simp) hO.news ⟨F, 0, none⟩ 1 1 [.int .i64 (x : Int)] (by rw [hz1]; rfl) hnews (by omega) (by omega) (growslice_fits (by omega) (by rw [hz2]; omega));rw [hrun] at hr;injection hr with hv hw
        rw [hw];exact (RN.drew hO.rn).alloc _
end Go.Proofs.YtbahklpdldghbaaGreatDoor.Sha
end
section
namespace Go.Proofs.YtbahklpdldghbaaGreatDoor.Sha
open Go.RowKit Go.Lib
structure Kept (v v' : World) (g g' : Nat) : Prop where
  at' : g' = g ∨ v.heap.size ≤ g'
  size : v.heap.size ≤ v'.heap.size
  own : ∀ {B g2 cap2 : Nat} {l2 : List Nat}, g2 ≠ g → OwnI v B g2 cap2 l2 → OwnI v' B g2 cap2 l2
  rn : ∀ {g2 : Nat} {l2 : List Nat}, g2 ≠ g → RN v g2 l2 → RN v' g2 l2
theorem below_drew {B : Nat} {w w' : World} (h : Below B w w') : Below B w w'.drew := ⟨h.1, h.2, h.3, h.4, h.5⟩
theorem below_drewN {B : Nat} {w w' : World} (h : Below B w w') (n : Nat) : Below B w (w'.drewN n) := ⟨h.1, h.2, h.3, h.4, h.5⟩
theorem push1 (w0 v : World) (ty : TypeId) (g cap L x : Nat) (l : List Nat) (hO : OwnI v w0.heap.size g cap l) (hL : L = l.length) (hb : Below w0.heap.size w0 v) (hl : L ≤ 1000) :
    ∃ g' cap' v', (Builtin.append_ #[58, 58] ty #[.slice (some ⟨g, 0, none⟩) L cap, .slice (some ⟨v.heap.size, 0, none⟩) 1 1]).run Tryz.prog (v.alloc (.cells #[.int .i64 (x : Int)] 3)) = .ok (.slice (some ⟨g', 0, none⟩) (L + 1) cap') v' ∧
      OwnI v' w0.heap.size g' cap' (l ++ [x]) ∧ Below w0.heap.size w0 v' ∧ Kept v v' g g' := by
  subst hL;have hs := hb.size;obtain ⟨g', cap', v', hrun, h1, h2, h3, _⟩ := run_push (v.alloc (.cells #[.int .i64 (x : Int)] 3)) ty w0.heap.size g cap v.heap.size x l (0, 0) (hO.alloc _) (heap_alloc_new _ _) (by simp; omega) (by omega);refine ⟨g', cap', v', hrun, h1, (hb.alloc hs _).grown h2 (by simp; omega) (fun k hk => by cases hk; exact hO.ge), ?_, ?_, ?_, ?_⟩
  · rcases h3 with h | h
    · exact .inl h
    · simp at h; exact .inr (by omega)
  · have := h2.size; simp at this; omega
  · intro B g2 cap2 l2 hne h;exact (h.alloc _).grown h2 (by simp; exact hne)
  · intro g2 l2 hne h;exact (h.alloc _).grown h2 (by simp; exact hne)
theorem pushM (w0 v : World) (ty : TypeId) (g cap L m c b o : Nat) (l src : List Nat) (hO : OwnI v w0.heap.size g cap l) (hL : L = l.length) (hm : m = src.length) (hp : 0 < L + m) (hsrc : ∀ j u, (src.map iV)[j]? = some u → v.cell? ((⟨b, o, none⟩ : Addr).add j) = some u) (hb : Below w0.heap.size w0 v) (hl : L + m ≤ 1000) :
    ∃ g' cap' v', (Builtin.append_ #[58, 58] ty #[.slice (some ⟨g, 0, none⟩) L cap, .slice (some ⟨b, o, none⟩) m c]).run Tryz.prog v = .ok (.slice (some ⟨g', 0, none⟩) (L + m) cap') v' ∧
      OwnI v' w0.heap.size g' cap' (l ++ src) ∧ Below w0.heap.size w0 v' ∧ Kept v v' g g' := by
  subst hL hm;have hs := hb.size;obtain ⟨i0, hi, hz0, hz1, hz2⟩ := info_parts infoI;obtain ⟨v1, v', hrun, h1, h2, _, h3⟩ := run_append_own_at (P := Tryz.prog) (w := v) w0.heap.size 58 ty 3 i0 (.int .i64 0) 1 8 Tryz.underlying58 hi hz0 hz1 hz2 rfl (by decide) (.slice (some ⟨g, 0, none⟩) l.length cap) l.length (l.map iV) hO ⟨b, o, none⟩ src.length c (src.map iV) (by simp) hsrc (ints_one _) (by unfold maxLen; omega) (by omega) hs;obtain ⟨g', cap', rfl, h4, h5⟩ := h1.form hp;refine ⟨g', cap', v', hrun, ?_, hb.grown h2 hs (fun k hk => by simp [Value.ownBlock] at hk; subst hk; exact hO.ge), ?_, h2.size, ?_, ?_⟩
  · unfold OwnI; rw [List.length_append, List.map_append]; exact h1
  · rcases h3 with h | h
    · simp [Value.ownBlock] at h; exact .inl h
    · simp [Value.ownBlock] at h; exact .inr (by omega)
  · intro B g2 cap2 l2 hne h;exact h.grown h2 (by simp [Value.ownBlock]; exact hne)
  · intro g2 l2 hne h;exact h.grown h2 (by simp [Value.ownBlock]; exact hne)
theorem OwnI.lt' {w : World} {B g cap : Nat} {l : List Nat} (h : OwnI w B g cap l) : g < w.heap.size := (h.lt g rfl).2
theorem OwnI.cell {w : World} {B g cap : Nat} {l : List Nat} (h : OwnI w B g cap l) {j : Nat} (hj : j < l.length) : w.cell? ⟨g, j, none⟩ = some (.int .i64 ((wd l j : Nat) : Int)) := h.rn.2 j hj
theorem OwnI.drew {w : World} {B g cap : Nat} {l : List Nat} (h : OwnI w B g cap l) : OwnI w.drew B g cap l := h
end Go.Proofs.YtbahklpdldghbaaGreatDoor.Sha
end
section
namespace Go.Proofs.YtbahklpdldghbaaGreatDoor.Sha
open Go.RowKit Go.Lib
structure Ws (w0 v : World) (gw capw : Nat) (lw : List Nat) (gh caph : Nat) (Hm : List Nat) (g2 cap2 : Nat) (PL : List Nat) : Prop where
  ow : OwnI v w0.heap.size gw capw lw
  oh : OwnI v w0.heap.size gh caph Hm
  ob : OwnI v w0.heap.size g2 cap2 PL
  old : Below w0.heap.size w0 v
  n1 : gw ≠ g2
  n2 : gw ≠ gh
  n3 : gh ≠ g2
section
variable {w0 v v' : World} {gw capw gh caph g2 cap2 g' cap' x : Nat} {lw Hm PL : List Nat}
theorem Ws.drew (h : Ws w0 v gw capw lw gh caph Hm g2 cap2 PL) : Ws w0 v.drew gw capw lw gh caph Hm g2 cap2 PL := ⟨h.ow.drew, h.oh.drew, h.ob.drew, below_drew h.old, h.n1, h.n2, h.n3⟩
theorem Ws.drewN (h : Ws w0 v gw capw lw gh caph Hm g2 cap2 PL) (n : Nat) : Ws w0 (v.drewN n) gw capw lw gh caph Hm g2 cap2 PL := ⟨h.ow.drewN n, h.oh.drewN n, h.ob.drewN n, below_drewN h.old n, h.n1, h.n2, h.n3⟩
theorem Ws.alloc (h : Ws w0 v gw capw lw gh caph Hm g2 cap2 PL) (o : Obj) : Ws w0 (v.alloc o) gw capw lw gh caph Hm g2 cap2 PL := ⟨h.ow.alloc o, h.oh.alloc o, h.ob.alloc o, h.old.alloc h.old.size o, h.n1, h.n2, h.n3⟩
theorem Ws.push (h : Ws w0 v gw capw lw gh caph Hm g2 cap2 PL) (ho : OwnI v' w0.heap.size g' cap' (lw ++ [x])) (hb : Below w0.heap.size w0 v') (hk : Kept v v' gw g') : Ws w0 v' g' cap' (lw ++ [x]) gh caph Hm g2 cap2 PL := by
  have h1 := h.oh.lt';have h2 := h.ob.lt';refine ⟨ho, hk.own (Ne.symm h.n2) h.oh, hk.own (Ne.symm h.n1) h.ob, hb, ?_, ?_, h.n3⟩
  · rcases hk.at' with e | e
    · rw [e]; exact h.n1
    · omega
  · rcases hk.at' with e | e
    · rw [e]; exact h.n2
    · omega
end
end Go.Proofs.YtbahklpdldghbaaGreatDoor.Sha
end
section
namespace Go.Proofs.YtbahklpdldghbaaGreatDoor.Mrk
open Go Go.RowKit Go.Lib
def sm (x : ByteArray) : ByteArray := Sha.digB x.data.toList
theorem sm_size (x : ByteArray) : (sm x).size = 32 := Sha.digB_size _
def hfL (k n : Nat) : Nat := if 0 < k ∧ 2 * k < n then hfL (2 * k) n else k
termination_by n - k
def hf (n : Nat) : Nat := hfL 1 n
theorem hfL_step {k n : Nat} (h0 : 0 < k) (h : 2 * k < n) : hfL k n = hfL (2 * k) n := by rw [hfL, if_pos ⟨h0, h⟩]
theorem hfL_end {k n : Nat} (h : ¬ 2 * k < n) : hfL k n = k := by rw [hfL, if_neg (fun q => h q.2)]
theorem hfL_in (n : Nat) : ∀ (d k : Nat), n - k ≤ d → 0 < k → k < n → k ≤ hfL k n ∧ hfL k n < n ∧ n ≤ 2 * hfL k n := by
  intro d
  induction d with
  | zero => intro k h h0 h1; omega
  | succ d ih =>
    intro k h h0 h1
    by_cases h2 : 2 * k < n
    · rw [hfL_step h0 h2];have := ih (2 * k) (by omega) (by omega) h2;omega
    · rw [hfL_end h2];omega
theorem hf_in {n : Nat} (h : 2 ≤ n) : 1 ≤ hf n ∧ hf n < n ∧ n ≤ 2 * hf n := hfL_in n (n - 1) 1 (Nat.le_refl _) (by omega) (by omega)
abbrev Pr := ByteArray × ByteArray
def c0 : ByteArray := ⟨#[0]⟩
def c1 : ByteArray := ⟨#[1]⟩
def c2 : ByteArray := ⟨#[2]⟩
def pr (x : ByteArray) : Pr := (x, sm x)
def rootP (bl : List ByteArray) : ByteArray × List Pr :=
  if h0 : bl.length = 0 then (sm c2, [pr c2])
  else if h1 : bl.length = 1 then (sm (c0 ++ bl[0]), [pr (c0 ++ bl[0])])
  else
    have hk := hf_in (n := bl.length) (by omega);have : (bl.take (hf bl.length)).length < bl.length := by rw [List.length_take]; omega
    have : (bl.drop (hf bl.length)).length < bl.length := by rw [List.length_drop]; omega
    (sm (c1 ++ (rootP (bl.take (hf bl.length))).1 ++ (rootP (bl.drop (hf bl.length))).1),
      (rootP (bl.take (hf bl.length))).2 ++ (rootP (bl.drop (hf bl.length))).2 ++ [pr (c1 ++ (rootP (bl.take (hf bl.length))).1 ++ (rootP (bl.drop (hf bl.length))).1)])
termination_by bl.length
theorem rootP_0 {bl : List ByteArray} (h : bl.length = 0) : rootP bl = (sm c2, [pr c2]) := by rw [rootP, dif_pos h]
theorem rootP_1 (b : ByteArray) : rootP [b] = (sm (c0 ++ b), [pr (c0 ++ b)]) := by rw [rootP, dif_neg (by simp), dif_pos (show [b].length = 1 from rfl)]; rfl
theorem rootP_2 {bl : List ByteArray} (h : 2 ≤ bl.length) : rootP bl = (sm (c1 ++ (rootP (bl.take (hf bl.length))).1 ++ (rootP (bl.drop (hf bl.length))).1),
      (rootP (bl.take (hf bl.length))).2 ++ (rootP (bl.drop (hf bl.length))).2 ++ [pr (c1 ++ (rootP (bl.take (hf bl.length))).1 ++ (rootP (bl.drop (hf bl.length))).1)]) := by
  rw [rootP, dif_neg (by omega), dif_neg (by omega)]
theorem rootP_size (bl : List ByteArray) : (rootP bl).1.size = 32 := by
  rcases Nat.lt_or_ge bl.length 2 with h | h
  · rcases Nat.lt_or_ge bl.length 1 with h0 | h0
    · rw [rootP_0 (by omega)]; exact sm_size _
    · match bl, h, h0 with
      | [b], _, _ => rw [rootP_1]; exact sm_size _
  · rw [rootP_2 h]; exact sm_size _
def stF (i n : Nat) : Nat :=
  if h : n < 2 then 0
  else
    have hk := hf_in (n := n) (by omega)
    if i < hf n then 1 + stF i (hf n) else 1 + stF (i - hf n) (n - hf n)
termination_by n
end Go.Proofs.YtbahklpdldghbaaGreatDoor.Mrk
end
section
namespace Go.Proofs.YtbahklpdldghbaaGreatDoor.Man
open Go Go.RowKit Go.Lib Oct Num Gap Csr Shd
def allF (ys : List (Int × Int)) (N E : Nat) : ByteArray := Blk.catK (partsF ys N E (cutM N E))
def manF (v : Int) (N E : Nat) (ys : List (Int × Int)) : MF := ⟨v, (N : Int), (ys.length : Int), tabF (fP E) (partsF ys N E (cutM N E)) (cutM N E), (Blk.cntK (allF ys N E).size : Int), (Mrk.rootP (Blk.cutK (allF ys N E))).1⟩
theorem man_len (v : Int) (N E : Nat) (ys : List (Int × Int)) : (manF v N E ys).sh.length = cutM N E := tabF_len _ _ _
theorem man_at (v : Int) {N E i : Nat} (ys : List (Int × Int)) (h : i < cutM N E) : (manF v N E ys).sh[i]? = some (((i * E : Nat) : Int), ((partF ys N E i).size : Int)) := by
  show (tabF (fP E) (partsF ys N E (cutM N E)) (cutM N E))[i]? = _;unfold tabF;rw [List.getElem?_map, List.getElem?_range h];simp only [Option.map_some];rw [List.getD_eq_getElem?_getD, partsF_at _ _ _ _ _ h]
  rfl
theorem man_fst (v : Int) {N E i : Nat} (ys : List (Int × Int)) (h : i < cutM N E) : fst (manF v N E ys).sh i = ((i * E : Nat) : Int) := by unfold fst; rw [List.getD_eq_getElem?_getD, man_at v ys h]; rfl
theorem man_byt (v : Int) {N E i : Nat} (ys : List (Int × Int)) (h : i < cutM N E) : byt (manF v N E ys).sh i = ((partF ys N E i).size : Int) := by unfold byt; rw [List.getD_eq_getElem?_getD, man_at v ys h]; rfl
theorem man_tot (v : Int) (N E : Nat) (ys : List (Int × Int)) : ∀ k, k ≤ cutM N E → totK (manF v N E ys).sh k = ((Blk.catK ((partsF ys N E (cutM N E)).take k)).size : Int)
  | 0, _ => rfl
  | k + 1, h => by
    rw [totK, man_tot v N E ys k (by omega), man_byt v ys (by omega), ← Blk.catK_take (partsF_at ys N E (cutM N E) k (by omega)), ByteArray.size_append];omega
theorem man_all (v : Int) (N E : Nat) (ys : List (Int × Int)) : tot (manF v N E ys) = ((allF ys N E).size : Int) := by
  unfold tot;rw [man_len, man_tot v N E ys _ (Nat.le_refl _), List.take_of_length_le (by rw [partsF_len]; exact Nat.le_refl _)]
  rfl
theorem ixF_1 (f : Int) (R : Nat → List Int) : ∀ k, 1 ≤ k → 1 ≤ (ixF f R k).length
  | 0, h => by omega
  | 1, _ => by
    rw [ixF, List.length_append];have := short_pos (rwF f R 0).length;simp;omega
  | k + 2, _ => by
    rw [ixF, List.length_append];have := ixF_1 f R (k + 1) (by omega);omega
theorem part_3 (ys : List (Int × Int)) {N E i : Nat} (h : 1 ≤ min E (N - i * E)) : 3 ≤ (partF ys N E i).size := by
  have e : (partF ys N E i).size = (shF (i * E) (min E (N - i * E)) (rowsF ys (i * E))).length := by
    unfold partF;exact bs_size _
  rw [e];unfold shF;simp only [List.length_append];have h1 := short_pos (i * E);have h2 := short_pos (min E (N - i * E));have h3 := ixF_1 ((i * E : Nat) : Int) (rowsF ys (i * E)) (min E (N - i * E)) h;omega
theorem man_good {v : Int} {N E : Nat} {ys : List (Int × Int)} (hv0 : 1 ≤ v) (hv1 : v ≤ 1099511627776) (hN : N ≤ 300) (hy : ys.length ≤ 200) (hE : 1 ≤ E) (hc : cutM N E ≤ 64) : Good (manF v N E ys) := by
  have hsm := parts_small (ys := ys) (N := N) (E := E) (k := cutM N E) hN hy hc;have hall := man_all v N E ys
  have hb : blkI (manF v N E ys) = (Blk.cntK (allF ys N E).size : Int) := by
    unfold blkI Blk.cntK;rw [hall];omega
  refine ⟨hv0, hv1, by show (0 : Int) ≤ (N : Int); omega, by show (N : Int) ≤ 4096; omega, by show (0 : Int) ≤ (ys.length : Int); omega, by show (ys.length : Int) ≤ 20000; omega, by rw [man_len]; exact hc, ?_, fun j hj => ?_, fun j hj => ?_, by rw [hb]; rfl, ?_, ?_⟩
  · rw [man_len]
    constructor
    · intro h;have := cutM_end (N := N) (E := E) hE;rw [h] at this;show (N : Int) = 0;omega
    · intro h;have h0 : (N : Int) = 0 := h;have : N = 0 := by omega
      rw [this, cutM_0 hE]
  · rw [man_len] at hj;have hl := cutM_lt hE hj;unfold badF;rw [man_fst v ys hj];rintro (⟨h1, h2⟩ | ⟨h1, h2⟩)
    · subst h1;simp at h2
    · have hj1 : j - 1 < cutM N E := by omega
      rw [man_fst v ys hj1] at h2
      have e : j * E = (j - 1) * E + E := by
        have : j = (j - 1) + 1 := by omega
        conv => lhs; rw [this, Nat.succ_mul]
      have hn : (manF v N E ys).n = (N : Int) := rfl;rw [hn] at h2;omega
  · rw [man_len] at hj;have hl := cutM_lt hE hj;rw [man_byt v ys hj];have h3 := part_3 ys (N := N) (E := E) (i := j) (by omega);have h4 := part_13 ys N E j;have h5 := bgn_le ys ((j * E + min E (N - j * E) : Nat) : Int);omega
  · rw [hb];have : (allF ys N E).size ≤ 12064 := hsm;unfold Blk.cntK;omega
  · exact Mrk.rootP_size _
end Go.Proofs.YtbahklpdldghbaaGreatDoor.Man
end
section
namespace Go.Proofs.YtbahklpdldghbaaGreatDoor.RowG
open Go Go.RowKit Go.Lib
variable {α : Type} {R : Rw α} {e : TypeId} {B : Nat} {F : List α}
structure PreG (R : Rw α) (e : TypeId) (B : Nat) (F : List α) (u u' : World) : Prop where
  size : u.heap.size ≤ u'.heap.size
  old : ∀ b, b < B → u'.heap[b]? = u.heap[b]?
  ones : ∀ (b : Nat) (c : Array Value), c.size = R.size → u.heap[b]? = some (.cells c e (0, 0)) → u'.heap[b]? = some (.cells c e (0, 0))
  rows : ∀ (A : Option Addr) (k c : Nat), k ≤ F.length → ROwn R e u B A k c (F.take k) → ROwn R e u' B A k c (F.take k)
theorem PreG.refl (u : World) : PreG R e B F u u := ⟨Nat.le_refl _, fun _ _ => rfl, fun _ _ _ h => h, fun _ _ _ _ h => h⟩
theorem PreG.of_below {u u' : World} (h : Below u.heap.size u u') (hB : B ≤ u.heap.size) : PreG R e B F u u' :=
  ⟨h.size, fun b hb => h.block b (by omega), fun b c _ hc => (h.block b (Array.getElem?_eq_some_iff.1 hc).1).trans hc, fun _ _ _ _ hr => hr.on h⟩
def TK (R : Rw α) (e : TypeId) (B : Nat) (F : List α) (k : Nat) : Value → World → Prop := fun v u => ∃ A c, v = .slice A k c ∧ ROwn R e u B A k c (F.take k)
theorem TK.keep {k : Nat} (hk : k ≤ F.length) : ∀ v u u', PreG R e B F u u' → TK R e B F k v u → TK R e B F k v u' := fun _ _ _ hG ⟨A, c, h1, h2⟩ => ⟨A, c, h1, hG.rows A k c hk h2⟩
def TB (R : Rw α) (e : TypeId) (B : Nat) (x : α) : Value → World → Prop := fun v u => ∃ b, v = .slice (some ⟨b, 0, none⟩) 1 1 ∧ B ≤ b ∧ u.heap[b]? = some (.cells (R.enc x).toArray e (0, 0))
theorem TB.keep {x : α} : ∀ v u u', PreG R e B F u u' → TB R e B x v u → TB R e B x v u' := fun _ _ _ hG ⟨b, h1, hB, h2⟩ => ⟨b, h1, hB, hG.ones b _ (by simp [R.len]) h2⟩
theorem TB.own {u : World} {b : Nat} {x : α} (hB : B ≤ b) (h : u.heap[b]? = some (.cells (R.enc x).toArray e (0, 0))) : ROwn R e u B (some ⟨b, 0, none⟩) 1 1 [x] := by
  refine ⟨rfl, by rw [cs_len]; rfl, .inr ⟨b, 1, _, rfl, hB, h, Nat.le_refl _, by unfold maxLen; omega, by simp [R.len], ?_⟩⟩;have : (R.enc x).length = 1 * R.size := by rw [R.len, Nat.one_mul]
  simp only [cs, List.flatMap_cons, List.flatMap_nil, List.append_nil];rw [← this, List.take_length]
def T0 (R : Rw α) (e : TypeId) (B : Nat) (F : List α) : Value → World → Prop := fun v u => ∃ b, v = .slice (some ⟨b, 0, none⟩) 0 0 ∧ ROwn R e u B (some ⟨b, 0, none⟩) 0 0 (F.take 0)
theorem T0.keep : ∀ v u u', PreG R e B F u u' → T0 R e B F v u → T0 R e B F v u' := fun _ _ _ hG ⟨b, h1, h2⟩ => ⟨b, h1, hG.rows _ 0 0 (Nat.zero_le _) h2⟩
theorem TB.rin {u : World} {b : Nat} {x : α} (h : u.heap[b]? = some (.cells (R.enc x).toArray e (0, 0))) : RIn R u (some ⟨b, 0, none⟩) [x] := fun i a hi => by
  have hS : St.St u b e (R.enc x).toArray := h
  cases i with
  | zero =>
    simp at hi;subst hi;refine ⟨b, 0, rfl, hS.lt, fun j v hv => ?_⟩;rw [Nat.zero_mul, Nat.zero_add, Nat.zero_add];exact hS.cell j (by simpa using hv)
  | succ i => simp at hi
end Go.Proofs.YtbahklpdldghbaaGreatDoor.RowG
end
section
namespace Go.Proofs.YtbahklpdldghbaaGreatDoor.RowG
open Go Go.RowKit Go.Lib
variable {α : Type} {R : Rw α} {e : TypeId} {B : Nat} {F : List α}
def TQ (R : Rw α) (e : TypeId) (B : Nat) (F : List α) (k : Nat) : Value → World → Prop := fun v u => ∃ A c, v = .slice A k c ∧ ROwn R e u B A k c (F.take k) ∧ (0 < k ∨ c = 0)
theorem TQ.keep {k : Nat} (hk : k ≤ F.length) : ∀ v u u', PreG R e B F u u' → TQ R e B F k v u → TQ R e B F k v u' := fun _ _ _ hG ⟨A, c, h1, h2, h3⟩ => ⟨A, c, h1, hG.rows A k c hk h2, h3⟩
end Go.Proofs.YtbahklpdldghbaaGreatDoor.RowG
namespace Go.Proofs.YtbahklpdldghbaaGreatDoor.Shd
open Go Go.RowKit Go.Lib Oct Num Gap RowG Edg Csr
section
variable {N E : Nat} {ys : List (Int × Int)}
theorem table_all (A : Option Addr) (ca : Nat) (w : World) (hs : Srt ys) (hg : Edg.Good (N : Int) ys) (hE : 1 ≤ E) (hA : RIn txR w A (partsF ys N E (cutM N E))) :
    Calls Tryz.prog 30 #[.int .i64 (N : Int), .slice A (cutM N E) ca] w fun e w' => ∃ gt, e = .returned (.tuple #[.slice (some ⟨gt, 0, none⟩) (cutM N E) (cutM N E), .nilIface]) ∧ Hold ipR w' gt (tabF (fP E) (partsF ys N E (cutM N E)) (cutM N E)) ∧ Below w.heap.size w w' := by
  have hN : (N : Int) ≤ 4096 := hg.hi;have hc := cutM_le (N := N) hE
  have h := table_yes A ca N (cutM N E) (partsF ys N E (cutM N E)) (fP E) (lP ys N E) w (by omega) (by rw [partsF_len]; omega) hA (fun k s _ hk => by
      have hk2 : k < cutM N E := by
        have := (List.getElem?_eq_some_iff.1 hk).1
        rwa [partsF_len] at this
      rw [partsF_at _ _ _ _ _ hk2] at hk;injection hk with hk
      subst hk
      exact gs_part hs hg hE hk2) (partsF_len ys N E _).symm
  rw [partsF_len] at h;exact h.mono fun e w' ⟨gt, he, hH, _, hb⟩ => ⟨gt, he, hH, hb⟩
end
end Go.Proofs.YtbahklpdldghbaaGreatDoor.Shd
end
