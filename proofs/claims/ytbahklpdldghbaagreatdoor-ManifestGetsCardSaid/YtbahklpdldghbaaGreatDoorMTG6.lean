/- A part of the proof of ManifestGetsCardSaid: texts that lead to it, merged. -/
import Derived.Test.YtbahklpdldghbaaGreatDoorMTG5
import Derived.Laws.MakeOwn
import Derived.Laws.IdiomStrings
import Derived.Lib.UnsafeStr
import Derived.Lib.AppendStr
import Derived.Lib.BufferRead
import Derived.Deep.RegionHeld3
import Derived.Deep.AppendLies
import Derived.Deep.DrawnRows
import Derived.Maps.AppendAt
import Derived.Laws.OwnMore
import Derived.OneCell
import Derived.Laws.AppendOwn
import Derived.Laws.Append
import Derived.Deep.Upon
section
namespace Go.Proofs.YtbahklpdldghbaaGreatDoor.Shd
open Go Go.RowKit Go.Lib Oct Num Gap RowG
def GRet (w : World) (r : (Int × Int) ⊕ (Int × List (List Int))) (e : Ending) (w' : World) : Prop := Below w.heap.size w w' ∧ ((∃ x a, r = .inl (x, a) ∧ x ≠ 0 ∧ e = .returned (.tuple #[.agg #[.int .i64 0, .slice none 0 0], faultV a x])) ∨
  ∃ f ls g, r = .inr (f, ls) ∧ e = .returned (.tuple #[.agg #[.int .i64 f, .slice (some ⟨g, 0, none⟩) ls.length ls.length], .nilIface]) ∧ LSpan w' (some ⟨g, 0, none⟩) ls w.heap.size w'.heap.size ∧ w.heap.size ≤ g ∧ g < w'.heap.size)
theorem badM_keep {b q y : Int} {rs : List (List Int × Int)} {ms : List (Int × Int)} {k : Nat} (hk : rs.length = k) (hm : k / 8 < ms.length) (h : badM b rs 0 (ms.take (marksN k)) = some y) (l : List Int) : badM b (rs ++ [(l, q)]) 0 (ms.take (marksN (k + 1))) = some y := by
  by_cases h8 : k % 8 = 0
  · rw [badM_mark hk h8 (List.getElem?_eq_getElem hm) l, h]
  · rw [badM_row hk h8 l, h]
set_option maxRecDepth 100000 in
set_option maxHeartbeats 8000000 in
theorem get_any (s : ByteArray) (N : Int) (w : World) (hs : s.size ≤ maxLen) (hN0 : 0 ≤ N) (hN : N ≤ 4096) :
    Calls Tryz.prog 46 #[.string s, .int .i64 N] w (GRet w (gsG s N)) := by
  refine Kn.Z.cl Tryz.func46 rfl Tryz.ntmps46 rfl (.c 0 rfl (.c 1 rfl .n)) ?_;refine Kn.Z.f fun K1 hK1=>?_;refine Kn.Z.s .o .alloc fun Ko Kp=>?_;go_simp;(try go_bits);refine Kp _ _ ?_;clear Kp Ko;refine Kn.Z.u (.a .c .n) ?_;refine Kn.Z.e hK1 ?_;clear hK1 K1;refine Kn.Z.g (fun v => St.St v w.heap.size 102 #[.int .i64 0, .slice none 0 0] ∧ Below w.heap.size w v) ⟨St.St.new _ _ _, (Below.refl _ w).alloc (Nat.le_refl _) _⟩ fun v0 hvv => ?_;have HS0 := Lib.hid hvv.1;have HB0 := Lib.hid hvv.2;obtain ⟨g4, hg4e⟩ : ∃ g, w.heap.size = g := ⟨_, rfl⟩;have hg4 : w.heap.size ≤ g4 := by omega
  have hg4l : g4 < v0.heap.size := by rw [← hg4e]; exact HS0.out.lt
  intro fa fh;rw [hg4e] at HS0 fh;clear hvv hg4e;have ho := open_any s N v0 hs hN0 hN;have hgs := gsG_op s N;rcases hr : opG s N with ⟨x, a⟩ | ⟨a, n, ms, b⟩
  · have hx : x ≠ 0 := opG_err hr
    have ho2 : Calls Tryz.prog 66 #[.string s, .int .i64 N] v0 fun e w' => e = .returned (.tuple #[.agg #[.int .i64 0, .int .i64 0, .slice none 0 0, .int .i64 0], .iface 54 (.agg #[.int .i64 a, .iface 52 (.int .i64 x)])]) ∧ Below v0.heap.size v0 w' := by
      refine ho.mono fun e w' hc => ?_;obtain ⟨hb, h⟩ := hc;rw [hr] at h;rcases h with ⟨x', a', he, -, hh⟩ | ⟨a', n', ms', b', g', he, -⟩
      · cases he; exact ⟨hh, hb⟩
      · cases he
    rw [hr] at hgs;have HF : Hid (gsG s N = .inl (x, a)) := Lib.hid hgs;have HX := Lib.hid hx;clear ho hr hgs hx
    revert fa
    refine Kn.Z.f fun K2 hK2=>?_;refine Kn.Z.u (.m (.t rfl) (.m (.t rfl) .n)) ?_;refine Kn.Z.c .o (.call (.c (.t rfl) (.c (.t rfl) .n))) Tryz.call66 (ho2) fun e uc hp=>?_;obtain ⟨rfl, hbc⟩ := hp;refine ⟨_,rfl,?_⟩;obtain ⟨ud, hud⟩ : ∃ q9, uc.alloc (.cells #[.int .i64 0, .int .i64 0, .slice none 0 0, .int .i64 0] 140) = q9 := ⟨_, rfl⟩;have hSd := St.St.new uc 140 #[.int .i64 0, .int .i64 0, .slice none 0 0, .int .i64 0];have hbd : Below uc.heap.size uc ud := by rw [← hud]; exact (Below.refl _ uc).alloc (Nat.le_refl _) _
    rw [hud] at hSd;obtain ⟨hst, hSe, hBe⟩ := hSd.store (P := Tryz.prog) (cells := #[.int .i64 0, .int .i64 0, .slice none 0 0, .int .i64 0]) (by kernel_rfl) rfl (by simp [Value.oneCell']);have hbz1 := (hbc.trans (hbd.mono hbc.size)).trans (hBe _ hbc.size);have hgez1 := hbc.size;have hbC := hbd.trans (hBe _ (Nat.le_refl _));clear hSd hbd hBe;refine Kn.Z.u (.m (.t rfl) (.x (.t rfl) rfl (.x (.t rfl) rfl .n))) ?_;refine Kn.Z.s .o .alloc fun Ko Kp=>?_;go_simp;try rw [hud]
    refine Kp _ _ ?_;clear Kp Ko;refine Kn.Z.su .o (.store (.t rfl) (.t rfl)) fun Ko Kp=>?_;refine Kn.satU_run hst ?_;refine Kp _ ?_;clear Kp Ko;refine Kn.Z.u (.a (.t rfl) .n) ?_;refine Kn.Z.e hK2 ?_;clear hK2 K2;clear hst hud;obtain ⟨z1, hzz⟩ : ∃ q9, ud.setRow uc.heap.size #[.int .i64 0, .int .i64 0, .slice none 0 0, .int .i64 0] = q9 := ⟨_, rfl⟩;rw [hzz] at hSe hbz1 hbC;intro fa fh;change Code.wp _ _ _ _ (ud.setRow uc.heap.size #[.int .i64 0, .int .i64 0, .slice none 0 0, .int .i64 0]);rw [hzz];clear hzz;have hltz1 := hSe.lt;clear hbC;generalize uc.heap.size = g6 at *;have HSz1 := Lib.hid hSe;clear hSe;clear ho2
    revert fa
    refine Kn.Z.q fun K3 hK3=>?_;refine Kn.Z.f fun K4 hK4=>?_;refine Kn.Z.u (.m (.t rfl) .n) ?_;refine Kn.Z.s .o (.bin (.t rfl) .c) fun Ko Kp=>?_;go_simp;(try go_bits);refine Kp _ _ ?_;clear Kp Ko;refine Kn.Z.e hK4 ?_;clear hK4 K4;refine Kn.Z.y (.t rfl) ?_;obtain ⟨hst, hS2, hB2⟩ := (HS0.out.on hbz1).store (P := Tryz.prog) (cells := #[.int .i64 0, .slice none 0 0]) (by kernel_rfl) rfl (by simp [Value.oneCell']);refine Kn.Z.f fun K5 hK5=>?_;refine Kn.Z.s .o (.build .n) fun Ko Kp=>?_;go_simp;(try go_bits);refine Kp _ _ ?_;clear Kp Ko;refine Kn.Z.u (.m (.t rfl) .n) ?_;refine Kn.Z.su .o (.store (.t rfl) (.t rfl)) fun Ko Kp=>?_;rw [hst];refine Kp _ ?_;clear Kp Ko;refine Kn.Z.u (.a (.t rfl) .n) ?_;refine Kn.Z.e hK5 ?_;clear hK5 K5;refine Kn.Z.t (.c 5 rfl (.c 7 rfl (.c 6 rfl (.c 4 rfl (.c 0 rfl (.c 1 rfl .n)))))) ?_;intro fb fg;refine wp_ret ?_;refine Kn.then_ret ?_;exact Kn.retS2 fg rfl rfl rfl hS2 Tryz.underlying102 rfl (by kernel_rfl) ⟨(HB0.out.trans (hbz1.mono HB0.out.size)).trans (hB2 _ hg4), .inl ⟨_, _, HF.out, HX.out, rfl⟩⟩
  have ho2 : Calls Tryz.prog 66 #[.string s, .int .i64 N] v0 fun e w' => ∃ gi, e = .returned (.tuple #[.agg #[.int .i64 a, .int .i64 (n : Int), .slice (some ⟨gi, 0, none⟩) (marksN n) (marksN n), .int .i64 b], .nilIface]) ∧ Hold ipR w' gi ms ∧ v0.heap.size ≤ gi ∧ Below v0.heap.size v0 w' := by
    refine ho.mono fun e w' hc => ?_;obtain ⟨hb, h⟩ := hc;rw [hr] at h;rcases h with ⟨x', a', he, -, hh⟩ | ⟨a', n', ms', b', g', he, hh, h1, h2⟩
    · cases he
    · cases he; exact ⟨g', hh, h1, h2, hb⟩
  rw [hr] at hgs;have HG : Hid (gsG s N = gs3 s N a n b ms) := Lib.hid hgs;obtain ⟨ha0, hn1, han, hml, hb0, hbs, hmn⟩ := opG_ok hr;have hn4 : n ≤ 4096 := by omega
  have HML := Lib.hid hml;have HMN := Lib.hid hmn;clear ho hr hgs hml hmn
  revert fa
  refine Kn.Z.f fun K2 hK2=>?_;refine Kn.Z.u (.m (.t rfl) (.m (.t rfl) .n)) ?_;refine Kn.Z.c .o (.call (.c (.t rfl) (.c (.t rfl) .n))) Tryz.call66 (ho2) fun e uc hp=>?_;obtain ⟨gi, rfl, hHi, hgi, hbc⟩ := hp;refine ⟨_,rfl,?_⟩;obtain ⟨ud, hud⟩ : ∃ q9, uc.alloc (.cells #[.int .i64 0, .int .i64 0, .slice none 0 0, .int .i64 0] 140) = q9 := ⟨_, rfl⟩;have hSd := St.St.new uc 140 #[.int .i64 0, .int .i64 0, .slice none 0 0, .int .i64 0];have hbd : Below uc.heap.size uc ud := by rw [← hud]; exact (Below.refl _ uc).alloc (Nat.le_refl _) _
  rw [hud] at hSd;obtain ⟨hst, hSe, hBe⟩ := hSd.store (P := Tryz.prog) (cells := #[.int .i64 a, .int .i64 (n : Int), .slice (some ⟨gi, 0, none⟩) (marksN n) (marksN n), .int .i64 b]) (by kernel_rfl) rfl (by simp [Value.oneCell']);have hbz1 := (hbc.trans (hbd.mono hbc.size)).trans (hBe _ hbc.size);have hgez1 := hbc.size;have hbC := hbd.trans (hBe _ (Nat.le_refl _));clear hSd hbd hBe;refine Kn.Z.u (.m (.t rfl) (.x (.t rfl) rfl (.x (.t rfl) rfl .n))) ?_;refine Kn.Z.s .o .alloc fun Ko Kp=>?_;go_simp;try rw [hud]
  refine Kp _ _ ?_;clear Kp Ko;refine Kn.Z.su .o (.store (.t rfl) (.t rfl)) fun Ko Kp=>?_;refine Kn.satU_run hst ?_;refine Kp _ ?_;clear Kp Ko;refine Kn.Z.u (.a (.t rfl) .n) ?_;refine Kn.Z.e hK2 ?_;clear hK2 K2;clear hst hud;obtain ⟨z1, hzz⟩ : ∃ q9, ud.setRow uc.heap.size #[.int .i64 a, .int .i64 (n : Int), .slice (some ⟨gi, 0, none⟩) (marksN n) (marksN n), .int .i64 b] = q9 := ⟨_, rfl⟩;rw [hzz] at hSe hbz1 hbC;intro fa fh;change Code.wp _ _ _ _ (ud.setRow uc.heap.size #[.int .i64 a, .int .i64 (n : Int), .slice (some ⟨gi, 0, none⟩) (marksN n) (marksN n), .int .i64 b]);rw [hzz];clear hzz;have hltz1 := hSe.lt;have HHi : Hid (Hold ipR z1 gi ms) := Lib.hid (hHi.on hbC);have hgi6 : gi < uc.heap.size := hHi.1;clear hHi;clear hbC;generalize uc.heap.size = g6 at *;have HSz1 := Lib.hid hSe;clear hSe;clear ho2;obtain ⟨w5, hmk, hO5, hb5⟩ := makeG (P := Tryz.prog) slR elemLs (none, 0, 0) rfl z1 n (by show n * 1 ≤ _; omega) (by omega) (by omega);have c1 := HSz1.out.cell 1 rfl
  revert fa
  refine Kn.Z.q fun K3 hK3=>?_;refine Kn.Z.f fun K4 hK4=>?_;refine Kn.Z.u (.m (.t rfl) .n) ?_;refine Kn.Z.s .o (.bin (.t rfl) .c) fun Ko Kp=>?_;go_simp;(try go_bits);refine Kp _ _ ?_;clear Kp Ko;refine Kn.Z.e hK4 ?_;clear hK4 K4;refine Kn.Z.no (.t rfl) ?_;refine Kn.Z.j hK3 ?_;clear hK3 K3;refine Kn.Z.f fun K5 hK5=>?_;refine Kn.Z.s .o (.fieldAddr (.t rfl)) fun Ko Kp=>?_;go_simp;(try go_bits);refine Kp _ _ ?_;clear Kp Ko;refine Kn.Z.s .o (.load (.t rfl)) fun Ko Kp=>?_;go_simp;(try go_bits);refine Kp _ _ ?_;clear Kp Ko;refine Kn.Z.k .o (.makeSlice (.t rfl) (.t rfl)) hmk ?_;refine Kn.Z.u (.a (.t rfl) .n) ?_;refine Kn.Z.e hK5 ?_;clear hK5 K5;refine Kn.Z.t (.c 8 rfl (.c 7 rfl (.c 6 rfl (.c 5 rfl (.c 4 rfl (.c 0 rfl (.c 1 rfl .n))))))) ?_;clear hmk c1;obtain ⟨gr, hgre⟩ : ∃ g, z1.heap.size = g := ⟨_, rfl⟩;intro fa fh;rw [hgre] at hO5 fh;have hg6r : g6 < gr := by rw [← hgre]; exact hltz1
  have hgir : gi < gr := by omega
  have hg4r : g4 < gr := by omega
  have HB1 := Lib.hid (HB0.out.trans (hbz1.mono HB0.out.size));have hwr : w.heap.size ≤ gr := by rw [← hgre]; exact HB1.out.size
  have HL5 : Hid (LHold w5 gr n []) := Lib.hid (LHold.start (Fill.start hO5));have HS5 : Hid (St.St w5 g6 140 #[.int .i64 a, .int .i64 (n : Int), .slice (some ⟨gi, 0, none⟩) (marksN n) (marksN n), .int .i64 b]) := Lib.hid (HSz1.out.on hb5);have HI5 := Lib.hid (HHi.out.on hb5);have HZ5 := Lib.hid ((HS0.out.on hbz1).on hb5);have HB5 := Lib.hid (HB1.out.trans (hb5.mono HB1.out.size));clear hO5 hb5 hbz1 HSz1 HHi HS0 HB0 HB1 hgre;have c1 := HS5.out.cell 1 rfl;have c3 := HS5.out.cell 3 rfl
  revert fa
  refine Kn.Z.f fun K6 hK6=>?_;refine Kn.Z.s .o (.fieldAddr (.t rfl)) fun Ko Kp=>?_;go_simp;(try go_bits);refine Kp _ _ ?_;clear Kp Ko;refine Kn.Z.s .o (.load (.t rfl)) fun Ko Kp=>?_;go_simp;(try go_bits);refine Kp _ _ ?_;clear Kp Ko;refine Kn.Z.u (.a (.t rfl) .n) ?_;refine Kn.Z.e hK6 ?_;clear hK6 K6;refine Kn.Z.f fun K7 hK7=>?_;refine Kn.Z.u (.a .c .n) ?_;refine Kn.Z.e hK7 ?_;clear hK7 K7;refine Kn.Z.q fun K8 hK8=>?_;refine Kn.Z.f fun K9 hK9=>?_;refine Kn.Z.s .o (.fieldAddr (.t rfl)) fun Ko Kp=>?_;go_simp;(try go_bits);refine Kp _ _ ?_;clear Kp Ko;refine Kn.Z.s .o (.load (.t rfl)) fun Ko Kp=>?_;go_simp;(try go_bits);refine Kp _ _ ?_;clear Kp Ko;refine Kn.Z.u (.m .c .n) ?_;refine Kn.Z.e hK9 ?_;clear hK9 K9;clear c1 c3;refine Kn.Z.b ?_;intro fb fg;refine Kn.loop (fun m fr u => ∃ (k j : Nat) (q : Int) (rs : List (List Int × Int)) (B1 : Option Int), Kn.Kn 98 [(29, .int .i64 (k : Int)), (28, .int .i64 (n : Int)), (8, .slice (some ⟨gr, 0, none⟩) n n), (9, .int .i64 q), (10, wV B1), (6, .pointer (some ⟨g6, 0, none⟩)), (0, .string s), (1, .int .i64 N), (4, .pointer (some ⟨g4, 0, none⟩))] fr ∧ k + j = n ∧ m = j ∧ (0 ≤ q ∧ q ≤ s.size) ∧ Hid (rs.length = k) ∧ Hid (RwYet s N j (a + (k : Int)) q rs (rwG s N n a b)) ∧ Hid (badM b rs 0 (ms.take (marksN k)) = B1) ∧ Hid (LHold u gr n (rs.map (·.1))) ∧ Hid (St.St u g6 140 #[.int .i64 a, .int .i64 (n : Int), .slice (some ⟨gi, 0, none⟩) (marksN n) (marksN n), .int .i64 b]) ∧ Hid (Hold ipR u gi ms) ∧ Hid (St.St u g4 102 #[.int .i64 0, .slice none 0 0]) ∧ Hid (Below w.heap.size w u)) n ⟨0, n, b, [], none, fg.cut (.u 29 rfl rfl (.c 28 rfl (.c 8 rfl (.c 9 rfl (.u 10 rfl rfl (.c 6 rfl (.c 0 rfl (.c 1 rfl (.c 4 rfl .n))))))))), by omega, rfl, by omega, Lib.hid rfl, Lib.hid (by rw [show a + ((0 : Nat) : Int) = a by omega]; exact RwYet.start), Lib.hid rfl, HL5, HS5, HI5, HZ5, HB5⟩ ?_;clear fg fb;intro m10 fa u hI Kl10 hKl10;obtain ⟨k, j, q, rs, B1, fh, hkj, hmj, hq, HRl, HT, HBm, HL, HS, HI, HZ, HB⟩ := hI;clear HL5 HS5 HI5 HZ5 HB5;rcases j with _ | j
  · obtain rfl : k = n := by omega
    have HRw : Hid (rwG s N k a b = .inr (rs, q)) := Lib.hid HT.out.done;have HG4 : Hid (gsG s N = gs4 s a q rs B1) := Lib.hid (by rw [HG.out]; unfold gs3; rw [HRw.out]; simp only; rw [← HBm.out, List.take_of_length_le (by rw [HML.out]; exact Nat.le_refl _)]);clear HT HG HRw
    revert fa
    refine Kn.Z.f fun K11 hK11=>?_;refine Kn.Z.s .o (.bin (.t rfl) (.t rfl)) fun Ko Kp=>?_;go_simp;(try go_bits);refine Kp _ _ ?_;clear Kp Ko;refine Kn.Z.e hK11 ?_;clear hK11 K11;refine Kn.Z.q fun K12 hK12=>?_;refine Kn.Z.no (.t rfl) ?_;refine Kn.Z.t (.c 29 rfl (.c 28 rfl (.c 8 rfl (.c 9 rfl (.c 10 rfl (.c 6 rfl (.c 0 rfl (.c 1 rfl (.c 4 rfl .n))))))))) ?_;intro fb fg;refine wp_exit ?_;refine Kn.then_exit ?_;clear hK12 K12;refine Kn.then_exit ?_;clear hKl10 Kl10;refine Kn.block_exit ?_;refine hK8 _ _ ?_;clear hK8 K8;rcases B1 with _ | pl
    · revert fb
      refine Kn.Z.t (.c 8 rfl (.c 9 rfl (.u 10 rfl (show wV none = .nilIface from rfl) (.c 6 rfl (.c 0 rfl (.c 4 rfl .n)))))) ?_;refine Kn.Z.q fun K13 hK13=>?_;refine Kn.Z.f fun K14 hK14=>?_;refine Kn.Z.u (.m (.t rfl) .n) ?_;refine Kn.Z.s .o (.bin (.t rfl) .c) fun Ko Kp=>?_;go_simp;(try go_bits);refine Kp _ _ ?_;clear Kp Ko;refine Kn.Z.e hK14 ?_;clear hK14 K14;refine Kn.Z.no (.t rfl) ?_;refine Kn.Z.j hK13 ?_;clear hK13 K13
      by_cases hqs : q < s.size
      · have HF : Hid (gsG s N = .inl (4, q)) := Lib.hid (by rw [HG4.out]; unfold gs4; simp only; rw [if_pos hqs]);have hf := sfault_any q 52 (.int .i64 4) u;unfold flt at hf;refine Kn.Z.q fun K15 hK15=>?_;refine Kn.Z.f fun K16 hK16=>?_;refine Kn.Z.u (.m (.t rfl) (.m (.t rfl) .n)) ?_;refine Kn.Z.s .o (.len (.t rfl)) fun Ko Kp=>?_;go_simp;(try go_bits);refine Kp _ _ ?_;clear Kp Ko;refine Kn.Z.s .o (.bin (.t rfl) (.t rfl)) fun Ko Kp=>?_;go_simp;(try go_bits);refine Kp _ _ ?_;clear Kp Ko;refine Kn.Z.e hK16 ?_;clear hK16 K16;refine Kn.Z.y (.t rfl) ?_;obtain ⟨hst, hS2, hB2⟩ := HZ.out.store (P := Tryz.prog) (cells := #[.int .i64 0, .slice none 0 0]) (by kernel_rfl) rfl (by simp [Value.oneCell']);refine Kn.Z.f fun K17 hK17=>?_;refine Kn.Z.s .o (.build .n) fun Ko Kp=>?_;go_simp;(try go_bits);refine Kp _ _ ?_;clear Kp Ko;refine Kn.Z.u (.m (.t rfl) .n) ?_;refine Kn.Z.s .o (.makeInterface .c) fun Ko Kp=>?_;go_simp;(try go_bits);refine Kp _ _ ?_;clear Kp Ko;refine Kn.Z.c .o (.call (.c (.t rfl) (.c (.t rfl) .n))) Tryz.call47 (hf) fun e wx hp=>?_;obtain ⟨rfl, rfl⟩ := hp;refine ⟨_,rfl,?_⟩;refine Kn.Z.su .o (.store (.t rfl) (.t rfl)) fun Ko Kp=>?_;rw [hst];refine Kp _ ?_;clear Kp Ko;refine Kn.Z.u (.a (.t rfl) .n) ?_;refine Kn.Z.e hK17 ?_;clear hK17 K17;refine Kn.Z.t (.c 5 rfl (.c 8 rfl (.c 6 rfl (.c 4 rfl .n)))) ?_;intro fa fh;refine wp_ret ?_;refine Kn.then_ret ?_;exact Kn.retS2 fh rfl rfl rfl hS2 Tryz.underlying102 rfl (by kernel_rfl) ⟨HB.out.trans (hB2 _ hg4), .inl ⟨_, _, HF.out, by decide, rfl⟩⟩
      have HF : Hid (gsG s N = .inr (a, rs.map (·.1))) := Lib.hid (by rw [HG4.out]; unfold gs4; simp only; rw [if_neg hqs]);have hnq : ¬ q < s.size := hqs;have HLn : Hid ((rs.map (·.1)).length = k) := Lib.hid (by rw [List.length_map]; exact HRl.out);have hLi := HL.out;have hgrl := HL.out.lt;have c0 := HS.out.cell 0 rfl;refine Kn.Z.q fun K15 hK15=>?_;refine Kn.Z.f fun K16 hK16=>?_;refine Kn.Z.u (.m (.t rfl) (.m (.t rfl) .n)) ?_;refine Kn.Z.s .o (.len (.t rfl)) fun Ko Kp=>?_;go_simp;(try go_bits);refine Kp _ _ ?_;clear Kp Ko;refine Kn.Z.s .o (.bin (.t rfl) (.t rfl)) fun Ko Kp=>?_;go_simp;(try go_bits);refine Kp _ _ ?_;clear Kp Ko;refine Kn.Z.e hK16 ?_;clear hK16 K16;refine Kn.Z.no (.t rfl) ?_;refine Kn.Z.j hK15 ?_;clear hK15 K15;obtain ⟨hst, hS2, hB2⟩ := HZ.out.store (P := Tryz.prog) (cells := #[.int .i64 a, .slice (some ⟨gr, 0, none⟩) k k]) (by kernel_rfl) rfl (by simp [Value.oneCell']);refine Kn.Z.f fun K17 hK17=>?_;refine Kn.Z.s .o (.fieldAddr (.t rfl)) fun Ko Kp=>?_;go_simp;(try go_bits);refine Kp _ _ ?_;clear Kp Ko;refine Kn.Z.s .o (.load (.t rfl)) fun Ko Kp=>?_;go_simp;(try go_bits);refine Kp _ _ ?_;clear Kp Ko;refine Kn.Z.u (.m (.t rfl) .n) ?_;refine Kn.Z.s .o (.build (.c (.t rfl) (.c (.t rfl) .n))) fun Ko Kp=>?_;go_simp;(try go_bits);refine Kp _ _ ?_;clear Kp Ko;refine Kn.Z.su .o (.store (.t rfl) (.t rfl)) fun Ko Kp=>?_;rw [hst];refine Kp _ ?_;clear Kp Ko;refine Kn.Z.u (.a .c .n) ?_;refine Kn.Z.e hK17 ?_;clear hK17 K17;refine Kn.Z.t (.c 5 rfl (.c 4 rfl .n)) ?_;intro fa fh;refine wp_ret ?_;refine Kn.retS2 fh rfl rfl rfl hS2 Tryz.underlying102 rfl (by kernel_rfl) ⟨HB.out.trans (hB2 _ hg4), .inr ⟨a, rs.map (·.1), gr, HF.out, by rw [HLn.out], (LHold.span (n := k) (hLi.up (Nat.le_of_eq (by simp)) fun b hb => setRow_other u g4 b _ (by omega))).mono hwr (Nat.le_refl _), hwr, by simpa using hgrl⟩⟩
    revert fb
    refine Kn.Z.t (.c 8 rfl (.c 9 rfl (.u 10 rfl (show wV (some pl) = .iface 54 (.agg #[.int .i64 pl, .iface 52 (.int .i64 4)]) from rfl) (.c 6 rfl (.c 0 rfl (.c 4 rfl .n)))))) ?_;have HF : Hid (gsG s N = .inl (4, pl)) := Lib.hid (by rw [HG4.out]; rfl);refine Kn.Z.q fun K13 hK13=>?_;refine Kn.Z.f fun K14 hK14=>?_;refine Kn.Z.u (.m (.t rfl) .n) ?_;refine Kn.Z.s .o (.bin (.t rfl) .c) fun Ko Kp=>?_;go_simp;(try go_bits);refine Kp _ _ ?_;clear Kp Ko;refine Kn.Z.e hK14 ?_;clear hK14 K14;refine Kn.Z.y (.t rfl) ?_;obtain ⟨hst, hS2, hB2⟩ := HZ.out.store (P := Tryz.prog) (cells := #[.int .i64 0, .slice none 0 0]) (by kernel_rfl) rfl (by simp [Value.oneCell']);refine Kn.Z.f fun K15 hK15=>?_;refine Kn.Z.s .o (.build .n) fun Ko Kp=>?_;go_simp;(try go_bits);refine Kp _ _ ?_;clear Kp Ko;refine Kn.Z.u (.m (.t rfl) .n) ?_;refine Kn.Z.su .o (.store (.t rfl) (.t rfl)) fun Ko Kp=>?_;rw [hst];refine Kp _ ?_;clear Kp Ko;refine Kn.Z.u (.a (.t rfl) .n) ?_;refine Kn.Z.e hK15 ?_;clear hK15 K15;intro fa fh;refine wp_ret ?_;refine Kn.then_ret ?_;exact Kn.retS2 fh rfl rfl rfl hS2 Tryz.underlying102 rfl (by kernel_rfl) ⟨HB.out.trans (hB2 _ hg4), .inl ⟨_, _, HF.out, by decide, rfl⟩⟩
  have hlt : k < n := by omega
  have hk8 : k / 8 < ms.length := by rw [HML.out]; unfold marksN; omega
  revert fa
  refine Kn.Z.f fun K11 hK11=>?_;refine Kn.Z.s .o (.bin (.t rfl) (.t rfl)) fun Ko Kp=>?_;go_simp;(try go_bits);refine Kp _ _ ?_;clear Kp Ko;refine Kn.Z.e hK11 ?_;clear hK11 K11;refine Kn.Z.q fun K12 hK12=>?_;refine Kn.Z.y (.t rfl) ?_;refine Kn.Z.j hK12 ?_;clear hK12 K12;refine Kn.Z.t (.c 29 rfl (.c 28 rfl (.c 8 rfl (.c 9 rfl (.c 10 rfl (.c 6 rfl (.c 0 rfl (.c 1 rfl (.c 4 rfl .n))))))))) ?_;refine Kn.Z.q fun K13 hK13=>?_;refine Kn.Z.b ?_;refine Kn.Z.f fun K14 hK14=>?_;refine Kn.Z.u (.m (.t rfl) (.a (.t rfl) .n)) ?_;refine Kn.Z.e hK14 ?_;clear hK14 K14;refine Kn.Z.q fun K15 hK15=>?_;intro fb fg;refine Kn.join (fun fr v => ∃ (B2 : Option Int) (r : Nat), Kn.Kn 98 [(29, .int .i64 (k : Int)), (28, .int .i64 (n : Int)), (8, .slice (some ⟨gr, 0, none⟩) n n), (9, .int .i64 q), (10, wV B2), (6, .pointer (some ⟨g6, 0, none⟩)), (0, .string s), (1, .int .i64 N), (4, .pointer (some ⟨g4, 0, none⟩)), (11, .int .i64 (k : Int))] fr ∧ Hid (∀ l, badM b (rs ++ [(l, q)]) 0 (ms.take (marksN (k + 1))) = B2) ∧ v = u.drewN r) ?_ ?_
  · rcases B1 with _ | pl
    · revert fb
      refine Kn.Z.t (.c 11 rfl (.c 29 rfl (.c 28 rfl (.c 8 rfl (.c 9 rfl (.u 10 rfl (show wV none = .nilIface from rfl) (.c 6 rfl (.c 0 rfl (.c 1 rfl (.c 4 rfl .n)))))))))) ?_;obtain ⟨m1, p1, hmp⟩ : ∃ m p, ms[k / 8]? = some (m, p) := ⟨_, _, List.getElem?_eq_getElem hk8⟩;have hr8 : (k : Int).tmod 8 = (k : Int) % 8 := Int.tmod_eq_emod_of_nonneg (by omega)
      by_cases h8 : k % 8 = 0
      · have q8 : ((k : Int) % 8 == 0) = true := by rw [beq_iff_eq]; omega
        obtain ⟨d, hd⟩ : ∃ d, k / 8 = d := ⟨_, rfl⟩;have hdM : d < marksN n := by rw [← hd, ← HML.out]; exact hk8
        have r2 : (k : Int).tdiv 8 = (d : Int) := by rw [Int.tdiv_eq_ediv_of_nonneg (by omega)]; omega
        have hdl : d < ms.length := by rw [← hd]; exact hk8
        have hmd : ms[d] = (m1, p1) := by rw [hd] at hmp; exact (List.getElem?_eq_some_iff.1 hmp).2
        have m0 := ip_cell0 HI.out d hdl;have m2 := ip_cell1 HI.out d hdl;rw [hmd] at m0 m2;have hmb := HMN.out (m1, p1) (hmd ▸ List.getElem_mem hdl);simp only at hmb;have c2 := HS.out.cell 2 rfl;have c3 := HS.out.cell 3 rfl;obtain ⟨dq, hdq⟩ : ∃ d, q - b = d := ⟨_, rfl⟩;have hMb : marksN n ≤ 600 := by unfold marksN; omega
        have hbm := fun l => badM_mark (b := b) (q := q) HRl.out h8 hmp l;rw [HBm.out] at hbm;simp only at hbm;rw [hdq] at hbm;have HBM := Lib.hid hbm;clear hbm hmd hmp hd h8;have hszm : s.size ≤ 9223372036854775807 := hs;generalize marksN n = M at *
        by_cases hm : m1 = dq
        · have qm : (m1 != dq) = false := by simp [hm]
          refine Kn.Z.q fun K16 hK16=>?_;refine Kn.Z.st (by kernel_rfl) (by kernel_rfl) ?_;refine Kn.Z.us (.m (.t rfl) .n) ?_;refine Kn.Z.ss .o (.bin (.t rfl) .c) fun Ko Kp=>?_;go_simp;(try go_bits);refine Kp _ ?_;clear Kp Ko;refine Kn.Z.us (.m (.t rfl) (.e (.s rfl rfl rfl) (.move (.t rfl)) .n)) ?_;refine Kn.Z.ss (.s rfl rfl rfl) (.bin (.t rfl) .c) fun Ko Kp=>?_;go_simp;(try go_bits);try rw [hr8]
          try go_simp
          (try go_bits);refine Kp _ ?_;clear Kp Ko;refine Kn.Z.ss (.s rfl rfl rfl) (.bin (.t rfl) .c) fun Ko Kp=>?_;go_simp;(try go_bits);refine Kp _ ?_;clear Kp Ko;refine Kn.Z.us (.e .o (.pick (.t rfl) (.t rfl)) (.m (.t rfl) .n)) ?_;refine Kn.Z.ss (.s rfl rfl rfl) (.fieldAddr (.t rfl)) fun Ko Kp=>?_;go_simp;(try go_bits);refine Kp _ ?_;clear Kp Ko;refine Kn.Z.ss (.s rfl rfl rfl) (.load (.t rfl)) fun Ko Kp=>?_;go_simp;(try go_bits);refine Kp _ ?_;clear Kp Ko;refine Kn.Z.us (.e (.s rfl rfl rfl) (.move (.t rfl)) .n) ?_;refine Kn.Z.ss (.s rfl rfl rfl) (.bin (.t rfl) .c) fun Ko Kp=>?_;go_simp;(try go_bits);try rw [r2]
          try go_simp
          (try go_bits);refine Kp _ ?_;clear Kp Ko;refine Kn.Z.ss (.s rfl rfl rfl) (.indexAddr (.t rfl) (.t rfl)) fun Ko Kp=>?_;go_simp;(try go_bits);refine Kp _ ?_;clear Kp Ko;refine Kn.Z.ss (.s rfl rfl rfl) (.fieldAddr (.t rfl)) fun Ko Kp=>?_;go_simp;(try go_bits);refine Kp _ ?_;clear Kp Ko;refine Kn.Z.ss (.s rfl rfl rfl) (.load (.t rfl)) fun Ko Kp=>?_;go_simp;(try go_bits);refine Kp _ ?_;clear Kp Ko;refine Kn.Z.us (.e (.s rfl rfl rfl) (.move (.t rfl)) .n) ?_;refine Kn.Z.ss (.s rfl rfl rfl) (.fieldAddr (.t rfl)) fun Ko Kp=>?_;go_simp;(try go_bits);refine Kp _ ?_;clear Kp Ko;refine Kn.Z.ss (.s rfl rfl rfl) (.load (.t rfl)) fun Ko Kp=>?_;go_simp;(try go_bits);refine Kp _ ?_;clear Kp Ko;refine Kn.Z.ss (.s rfl rfl rfl) (.bin (.t rfl) (.t rfl)) fun Ko Kp=>?_;go_simp;(try go_bits);try rw [hdq]
          try go_simp
          (try go_bits);refine Kp _ ?_;clear Kp Ko;refine Kn.Z.ss (.s rfl rfl rfl) (.bin (.t rfl) (.t rfl)) fun Ko Kp=>?_;go_simp;(try go_bits);refine Kp _ ?_;clear Kp Ko;refine Kn.Z.us (.e .o (.pick (.t rfl) (.t rfl)) .n) ?_;refine Kn.Z.se hK16 ?_;clear hK16 K16;refine Kn.Z.t (.c 52 rfl (.c 11 rfl (.c 29 rfl (.c 28 rfl (.c 8 rfl (.c 9 rfl (.c 10 rfl (.c 6 rfl (.c 0 rfl (.c 1 rfl (.c 4 rfl .n))))))))))) ?_;refine Kn.Z.no (.t rfl) ?_;intro fa fh;refine wp_skip ?_;replace fh := fh.cut (.c 11 rfl (.c 29 rfl (.c 28 rfl (.c 8 rfl (.c 9 rfl (.c 10 rfl (.c 6 rfl (.c 0 rfl (.c 1 rfl (.c 4 rfl .n))))))))));exact ⟨none, 1, fh.cut (.c 29 rfl (.c 28 rfl (.c 8 rfl (.c 9 rfl (.u 10 rfl rfl (.c 6 rfl (.c 0 rfl (.c 1 rfl (.c 4 rfl (.c 11 rfl .n)))))))))), Lib.hid (fun l => by rw [HBM.out l, if_pos hm]), rfl⟩
        have qm : (m1 != dq) = true := by simp [hm]
        have hf := sfault_any p1 52 (.int .i64 4) u.drew;refine Kn.Z.q fun K16 hK16=>?_;refine Kn.Z.st (by kernel_rfl) (by kernel_rfl) ?_;refine Kn.Z.us (.m (.t rfl) .n) ?_;refine Kn.Z.ss .o (.bin (.t rfl) .c) fun Ko Kp=>?_;go_simp;(try go_bits);refine Kp _ ?_;clear Kp Ko;refine Kn.Z.us (.m (.t rfl) (.e (.s rfl rfl rfl) (.move (.t rfl)) .n)) ?_;refine Kn.Z.ss (.s rfl rfl rfl) (.bin (.t rfl) .c) fun Ko Kp=>?_;go_simp;(try go_bits);try rw [hr8]
        try go_simp
        (try go_bits);refine Kp _ ?_;clear Kp Ko;refine Kn.Z.ss (.s rfl rfl rfl) (.bin (.t rfl) .c) fun Ko Kp=>?_;go_simp;(try go_bits);refine Kp _ ?_;clear Kp Ko;refine Kn.Z.us (.e .o (.pick (.t rfl) (.t rfl)) (.m (.t rfl) .n)) ?_;refine Kn.Z.ss (.s rfl rfl rfl) (.fieldAddr (.t rfl)) fun Ko Kp=>?_;go_simp;(try go_bits);refine Kp _ ?_;clear Kp Ko;refine Kn.Z.ss (.s rfl rfl rfl) (.load (.t rfl)) fun Ko Kp=>?_;go_simp;(try go_bits);refine Kp _ ?_;clear Kp Ko;refine Kn.Z.us (.e (.s rfl rfl rfl) (.move (.t rfl)) .n) ?_;refine Kn.Z.ss (.s rfl rfl rfl) (.bin (.t rfl) .c) fun Ko Kp=>?_;go_simp;(try go_bits);try rw [r2]
        try go_simp
        (try go_bits);refine Kp _ ?_;clear Kp Ko;refine Kn.Z.ss (.s rfl rfl rfl) (.indexAddr (.t rfl) (.t rfl)) fun Ko Kp=>?_;go_simp;(try go_bits);refine Kp _ ?_;clear Kp Ko;refine Kn.Z.ss (.s rfl rfl rfl) (.fieldAddr (.t rfl)) fun Ko Kp=>?_;go_simp;(try go_bits);refine Kp _ ?_;clear Kp Ko;refine Kn.Z.ss (.s rfl rfl rfl) (.load (.t rfl)) fun Ko Kp=>?_;go_simp;(try go_bits);refine Kp _ ?_;clear Kp Ko;refine Kn.Z.us (.e (.s rfl rfl rfl) (.move (.t rfl)) .n) ?_;refine Kn.Z.ss (.s rfl rfl rfl) (.fieldAddr (.t rfl)) fun Ko Kp=>?_;go_simp;(try go_bits);refine Kp _ ?_;clear Kp Ko;refine Kn.Z.ss (.s rfl rfl rfl) (.load (.t rfl)) fun Ko Kp=>?_;go_simp;(try go_bits);refine Kp _ ?_;clear Kp Ko;refine Kn.Z.ss (.s rfl rfl rfl) (.bin (.t rfl) (.t rfl)) fun Ko Kp=>?_;go_simp;(try go_bits);try rw [hdq]
        try go_simp
        (try go_bits);refine Kp _ ?_;clear Kp Ko;refine Kn.Z.ss (.s rfl rfl rfl) (.bin (.t rfl) (.t rfl)) fun Ko Kp=>?_;go_simp;(try go_bits);refine Kp _ ?_;clear Kp Ko;refine Kn.Z.us (.e .o (.pick (.t rfl) (.t rfl)) .n) ?_;refine Kn.Z.se hK16 ?_;clear hK16 K16;refine Kn.Z.t (.c 52 rfl (.c 11 rfl (.c 29 rfl (.c 28 rfl (.c 8 rfl (.c 9 rfl (.c 10 rfl (.c 6 rfl (.c 0 rfl (.c 1 rfl (.c 4 rfl .n))))))))))) ?_;refine Kn.Z.y (.t rfl) ?_;refine Kn.Z.r ?_;refine Kn.Z.s .o (.fieldAddr (.t rfl)) fun Ko Kp=>?_;go_simp;(try go_bits);refine Kp _ _ ?_;clear Kp Ko;refine Kn.Z.s .o (.load (.t rfl)) fun Ko Kp=>?_;go_simp;(try go_bits);refine Kp _ _ ?_;clear Kp Ko;refine Kn.Z.u (.m (.t rfl) .n) ?_;refine Kn.Z.s .o (.bin (.t rfl) .c) fun Ko Kp=>?_;go_simp;(try go_bits);try rw [r2]
        try go_simp
        (try go_bits);refine Kp _ _ ?_;clear Kp Ko;refine Kn.Z.s .o (.indexAddr (.t rfl) (.t rfl)) fun Ko Kp=>?_;go_simp;(try go_bits);refine Kp _ _ ?_;clear Kp Ko;refine Kn.Z.s .o (.fieldAddr (.t rfl)) fun Ko Kp=>?_;go_simp;(try go_bits);refine Kp _ _ ?_;clear Kp Ko;refine Kn.Z.s .o (.load (.t rfl)) fun Ko Kp=>?_;go_simp;(try go_bits);refine Kp _ _ ?_;clear Kp Ko;refine Kn.Z.s .o (.makeInterface .c) fun Ko Kp=>?_;go_simp;(try go_bits);refine Kp _ _ ?_;clear Kp Ko;refine Kn.Z.c .o (.call (.c (.t rfl) (.c (.t rfl) .n))) Tryz.call47 (hf) fun e wx hp=>?_;obtain ⟨rfl, rfl⟩ := hp;refine ⟨_,rfl,?_⟩;refine Kn.Z.u (.a (.t rfl) .n) ?_;intro fa fh;refine wpList_nil ?_;replace fh := fh.cut (.c 10 rfl (.c 11 rfl (.c 29 rfl (.c 28 rfl (.c 8 rfl (.c 9 rfl (.c 6 rfl (.c 0 rfl (.c 1 rfl (.c 4 rfl .n))))))))));exact ⟨some p1, 1, fh.cut (.c 29 rfl (.c 28 rfl (.c 8 rfl (.c 9 rfl (.u 10 rfl rfl (.c 6 rfl (.c 0 rfl (.c 1 rfl (.c 4 rfl (.c 11 rfl .n)))))))))), Lib.hid (fun l => by rw [HBM.out l, if_neg hm]), rfl⟩
      have q8 : ((k : Int) % 8 == 0) = false := by rw [beq_eq_false_iff_ne]; omega
      refine Kn.Z.q fun K16 hK16=>?_;refine Kn.Z.st (by kernel_rfl) (by kernel_rfl) ?_;refine Kn.Z.us (.m (.t rfl) .n) ?_;refine Kn.Z.ss .o (.bin (.t rfl) .c) fun Ko Kp=>?_;go_simp;(try go_bits);refine Kp _ ?_;clear Kp Ko;refine Kn.Z.us (.m (.t rfl) (.e (.s rfl rfl rfl) (.move (.t rfl)) .n)) ?_;refine Kn.Z.ss (.s rfl rfl rfl) (.bin (.t rfl) .c) fun Ko Kp=>?_;go_simp;(try go_bits);try rw [hr8]
      try go_simp
      (try go_bits);refine Kp _ ?_;clear Kp Ko;refine Kn.Z.ss (.s rfl rfl rfl) (.bin (.t rfl) .c) fun Ko Kp=>?_;go_simp;(try go_bits);refine Kp _ ?_;clear Kp Ko;refine Kn.Z.us (.e .o (.pick (.t rfl) (.t rfl)) (.m (.t rfl) (.k (.s rfl rfl rfl) (.k (.s rfl rfl rfl) (.k (.s rfl rfl rfl) (.k (.s rfl rfl rfl) (.k (.s rfl rfl rfl) (.k (.s rfl rfl rfl) (.k (.s rfl rfl rfl) (.k (.s rfl rfl rfl) (.k (.s rfl rfl rfl) (.k (.s rfl rfl rfl) (.k (.s rfl rfl rfl) (.k (.s rfl rfl rfl) (.e .o (.pick (.t rfl) .c) .n))))))))))))))) ?_;refine Kn.Z.se hK16 ?_;clear hK16 K16;refine Kn.Z.t (.c 52 rfl (.c 11 rfl (.c 29 rfl (.c 28 rfl (.c 8 rfl (.c 9 rfl (.c 10 rfl (.c 6 rfl (.c 0 rfl (.c 1 rfl (.c 4 rfl .n))))))))))) ?_;refine Kn.Z.no (.t rfl) ?_;intro fa fh;refine wp_skip ?_;replace fh := fh.cut (.c 11 rfl (.c 29 rfl (.c 28 rfl (.c 8 rfl (.c 9 rfl (.c 10 rfl (.c 6 rfl (.c 0 rfl (.c 1 rfl (.c 4 rfl .n))))))))));exact ⟨none, 1, fh.cut (.c 29 rfl (.c 28 rfl (.c 8 rfl (.c 9 rfl (.u 10 rfl rfl (.c 6 rfl (.c 0 rfl (.c 1 rfl (.c 4 rfl (.c 11 rfl .n)))))))))), Lib.hid (fun l => by rw [badM_row HRl.out h8 l, HBm.out]), rfl⟩
    revert fb
    refine Kn.Z.t (.c 11 rfl (.c 29 rfl (.c 28 rfl (.c 8 rfl (.c 9 rfl (.u 10 rfl (show wV (some pl) = .iface 54 (.agg #[.int .i64 pl, .iface 52 (.int .i64 4)]) from rfl) (.c 6 rfl (.c 0 rfl (.c 1 rfl (.c 4 rfl .n)))))))))) ?_;refine Kn.Z.q fun K16 hK16=>?_;refine Kn.Z.st (by kernel_rfl) (by kernel_rfl) ?_;refine Kn.Z.us (.m (.t rfl) .n) ?_;refine Kn.Z.ss .o (.bin (.t rfl) .c) fun Ko Kp=>?_;go_simp;(try go_bits);refine Kp _ ?_;clear Kp Ko;refine Kn.Z.us (.m (.t rfl) (.k (.s rfl rfl rfl) (.k (.s rfl rfl rfl) (.k (.s rfl rfl rfl) (.e .o (.pick (.t rfl) .c) (.m (.t rfl) (.k (.s rfl rfl rfl) (.k (.s rfl rfl rfl) (.k (.s rfl rfl rfl) (.k (.s rfl rfl rfl) (.k (.s rfl rfl rfl) (.k (.s rfl rfl rfl) (.k (.s rfl rfl rfl) (.k (.s rfl rfl rfl) (.k (.s rfl rfl rfl) (.k (.s rfl rfl rfl) (.k (.s rfl rfl rfl) (.k (.s rfl rfl rfl) (.e .o (.pick (.t rfl) .c) .n))))))))))))))))))) ?_;refine Kn.Z.se hK16 ?_;clear hK16 K16;refine Kn.Z.t (.c 52 rfl (.c 11 rfl (.c 29 rfl (.c 28 rfl (.c 8 rfl (.c 9 rfl (.c 10 rfl (.c 6 rfl (.c 0 rfl (.c 1 rfl (.c 4 rfl .n))))))))))) ?_;refine Kn.Z.no (.t rfl) ?_;intro fa fh;refine wp_skip ?_;replace fh := fh.cut (.c 11 rfl (.c 29 rfl (.c 28 rfl (.c 8 rfl (.c 9 rfl (.c 10 rfl (.c 6 rfl (.c 0 rfl (.c 1 rfl (.c 4 rfl .n))))))))));exact ⟨some pl, 1, fh.cut (.c 29 rfl (.c 28 rfl (.c 8 rfl (.c 9 rfl (.u 10 rfl rfl (.c 6 rfl (.c 0 rfl (.c 1 rfl (.c 4 rfl (.c 11 rfl .n)))))))))), Lib.hid (fun l => badM_keep HRl.out hk8 HBm.out l), rfl⟩
  clear fg fb;intro fa v hJ;obtain ⟨B2, r, fh, HB2, rfl⟩ := hJ;refine hK15 _ _ ?_;clear hK15 K15;obtain ⟨u1, hu1⟩ : ∃ x, u.drewN r = x := ⟨_, rfl⟩;have HL1 : Hid (LHold u1 gr n (rs.map (·.1))) := Lib.hid (by rw [← hu1]; exact HL.out);have HS1 : Hid (St.St u1 g6 140 #[.int .i64 a, .int .i64 (n : Int), .slice (some ⟨gi, 0, none⟩) (marksN n) (marksN n), .int .i64 b]) := Lib.hid (by rw [← hu1]; exact HS.out);have HI1 : Hid (Hold ipR u1 gi ms) := Lib.hid (by rw [← hu1]; exact HI.out);have HZ1 : Hid (St.St u1 g4 102 #[.int .i64 0, .slice none 0 0]) := Lib.hid (by rw [← hu1]; exact HZ.out);have HB1 : Hid (Below w.heap.size w u1) := Lib.hid (by rw [← hu1]; exact Own.below_drewN HB.out r);rw [hu1];clear HL HS HI HZ HB HBm hu1;have c0 := HS1.out.cell 0 rfl;obtain ⟨vv, hvv⟩ : ∃ x : Int, a + (k : Int) = x := ⟨_, rfl⟩;have hvb : 0 ≤ vv ∧ vv < N := by omega
  have hgt := gGet_any s q N vv u1 hs hN hvb.1 hvb.2;rw [hvv] at HT;have HKl : Hid (k = (rs.map (·.1)).length) := Lib.hid (by rw [List.length_map]; exact HRl.out.symm);rcases hr : gtC s q N vv with ⟨x5, a5⟩ | ⟨l5, q5⟩
  · have hgt2 : Calls Tryz.prog 67 #[.string s, .int .i64 q, .int .i64 N, .int .i64 vv] u1 fun e w' => e = .returned (.tuple #[.slice none 0 0, .int .i64 q, .iface 54 (.agg #[.int .i64 a5, .iface 52 (.int .i64 x5)])]) ∧ Below u1.heap.size u1 w' := by
      refine hgt.mono fun e w' hc => ?_;obtain ⟨hb, h⟩ := hc;rw [hr] at h;rcases h with ⟨x', a', he, -, hh⟩ | ⟨l, nx, g, he, -⟩
      · cases he; exact ⟨hh, hb⟩
      · cases he
    have HX5 : Hid (x5 ≠ 0) := Lib.hid (gtG_err hr);have HF : Hid (gsG s N = .inl (x5, a5)) := Lib.hid (by rw [HG.out]; unfold gs3; rw [HT.out.bad hr]);clear hgt hr
    revert fa
    refine Kn.Z.f fun K16 hK16=>?_;refine Kn.Z.u (.m (.t rfl) (.m (.t rfl) (.m (.t rfl) (.m (.t rfl) (.m (.t rfl) .n))))) ?_;refine Kn.Z.s .o (.fieldAddr (.t rfl)) fun Ko Kp=>?_;go_simp;(try go_bits);refine Kp _ _ ?_;clear Kp Ko;refine Kn.Z.s .o (.load (.t rfl)) fun Ko Kp=>?_;go_simp;(try go_bits);refine Kp _ _ ?_;clear Kp Ko;refine Kn.Z.u (.m (.t rfl) .n) ?_;refine Kn.Z.s .o (.bin (.t rfl) (.t rfl)) fun Ko Kp=>?_;go_simp;(try go_bits);try rw [hvv]
    try go_simp
    (try go_bits);refine Kp _ _ ?_;clear Kp Ko;refine Kn.Z.c .o (.call (.c (.t rfl) (.c (.t rfl) (.c (.t rfl) (.c (.t rfl) .n))))) Tryz.call67 (hgt2) fun e u2 hp=>?_;obtain ⟨rfl, hb2⟩ := hp;refine ⟨_,rfl,?_⟩;obtain ⟨u3, hst, hot, hsz, hbl⟩ := (HL1.out.on hb2).any k HKl.out hlt none 0 0;have HB3 := Lib.hid ((HB1.out.trans (hb2.mono HB1.out.size)).trans (hbl _ hwr));have HZ3 : Hid (St.St u3 g4 102 #[.int .i64 0, .slice none 0 0]) := Lib.hid ((hot g4 (by omega)).trans (HZ1.out.on hb2));clear hgt2 hot hsz hbl hb2;refine Kn.Z.u (.m (.t rfl) (.x (.t rfl) rfl (.x (.t rfl) rfl (.x (.t rfl) rfl .n)))) ?_;refine Kn.Z.s .o (.indexAddr (.t rfl) (.t rfl)) fun Ko Kp=>?_;go_simp;(try go_bits);refine Kp _ _ ?_;clear Kp Ko;refine Kn.Z.su .o (.store (.t rfl) (.t rfl)) fun Ko Kp=>?_;refine Kn.satU_run hst ?_;refine Kp _ ?_;clear Kp Ko;refine Kn.Z.u (.a (.t rfl) (.a (.t rfl) .n)) ?_;refine Kn.Z.e hK16 ?_;clear hK16 K16;refine Kn.Z.t (.c 7 rfl (.c 9 rfl (.c 29 rfl (.c 28 rfl (.c 8 rfl (.c 10 rfl (.c 6 rfl (.c 0 rfl (.c 1 rfl (.c 4 rfl .n)))))))))) ?_;clear hst c0;refine Kn.Z.f fun K17 hK17=>?_;refine Kn.Z.u (.m (.t rfl) .n) ?_;refine Kn.Z.s .o (.bin (.t rfl) .c) fun Ko Kp=>?_;go_simp;(try go_bits);refine Kp _ _ ?_;clear Kp Ko;refine Kn.Z.e hK17 ?_;clear hK17 K17;refine Kn.Z.y (.t rfl) ?_;obtain ⟨hst, hS2, hB2⟩ := HZ3.out.store (P := Tryz.prog) (cells := #[.int .i64 0, .slice none 0 0]) (by kernel_rfl) rfl (by simp [Value.oneCell']);refine Kn.Z.f fun K18 hK18=>?_;refine Kn.Z.s .o (.build .n) fun Ko Kp=>?_;go_simp;(try go_bits);refine Kp _ _ ?_;clear Kp Ko;refine Kn.Z.u (.m (.t rfl) .n) ?_;refine Kn.Z.su .o (.store (.t rfl) (.t rfl)) fun Ko Kp=>?_;rw [hst];refine Kp _ ?_;clear Kp Ko;refine Kn.Z.u (.a (.t rfl) .n) ?_;refine Kn.Z.e hK18 ?_;clear hK18 K18;intro fa fh;refine wp_ret ?_;refine Kn.block_ret ?_;refine Kn.then_ret ?_;refine Kn.then_ret ?_;refine Kn.block_ret ?_;refine Kn.then_ret ?_;exact Kn.retS2 fh rfl rfl rfl hS2 Tryz.underlying102 rfl (by kernel_rfl) ⟨HB3.out.trans (hB2 _ hg4), .inl ⟨_, _, HF.out, HX5.out, rfl⟩⟩
  have hgt2 : Calls Tryz.prog 67 #[.string s, .int .i64 q, .int .i64 N, .int .i64 vv] u1 fun e w' => ∃ g, e = .returned (.tuple #[.slice (some ⟨g, 0, none⟩) l5.length l5.length, .int .i64 q5, .nilIface]) ∧ HoldI w' g l5 ∧ (u1.heap.size ≤ g ∧ g < w'.heap.size) ∧ Below u1.heap.size u1 w' := by
    refine hgt.mono fun e w' hc => ?_;obtain ⟨hb, h⟩ := hc;rw [hr] at h;rcases h with ⟨x', a', he, -, hh⟩ | ⟨l, nx, g, he, hh, h1, h2, h3⟩
    · cases he
    · cases he; exact ⟨g, hh, h1, ⟨h2, h3⟩, hb⟩
  have hq5 : 0 ≤ q5 ∧ q5 ≤ s.size := gtG_place hN hvb.1 hvb.2 hr;have HT2 : Hid (RwYet s N j (a + ((k + 1 : Nat) : Int)) q5 (rs ++ [(l5, q)]) (rwG s N n a b)) := Lib.hid (by rw [show a + ((k + 1 : Nat) : Int) = vv + 1 by omega]; exact HT.out.next hr);have HRl2 : Hid ((rs ++ [(l5, q)]).length = k + 1) := Lib.hid (by rw [List.length_append, HRl.out]; rfl);have HBm2 := Lib.hid (HB2.out l5);clear hgt hr HT
  revert fa
  refine Kn.Z.f fun K16 hK16=>?_;refine Kn.Z.u (.m (.t rfl) (.m (.t rfl) (.m (.t rfl) (.m (.t rfl) (.m (.t rfl) .n))))) ?_;refine Kn.Z.s .o (.fieldAddr (.t rfl)) fun Ko Kp=>?_;go_simp;(try go_bits);refine Kp _ _ ?_;clear Kp Ko;refine Kn.Z.s .o (.load (.t rfl)) fun Ko Kp=>?_;go_simp;(try go_bits);refine Kp _ _ ?_;clear Kp Ko;refine Kn.Z.u (.m (.t rfl) .n) ?_;refine Kn.Z.s .o (.bin (.t rfl) (.t rfl)) fun Ko Kp=>?_;go_simp;(try go_bits);try rw [hvv]
  try go_simp
  (try go_bits);refine Kp _ _ ?_;clear Kp Ko;refine Kn.Z.c .o (.call (.c (.t rfl) (.c (.t rfl) (.c (.t rfl) (.c (.t rfl) .n))))) Tryz.call67 (hgt2) fun e u2 hp=>?_;obtain ⟨g7, rfl, hH7, hg7, hb2⟩ := hp;refine ⟨_,rfl,?_⟩;have hgrl : gr < u1.heap.size := HL1.out.lt;obtain ⟨u3, hst, hL3, hot, hsz, hbl⟩ := (HL1.out.on hb2).push k HKl.out hlt g7 l5 hH7 hg7.2 (by omega);have HB3 := Lib.hid ((HB1.out.trans (hb2.mono HB1.out.size)).trans (hbl _ hwr));have HZ3 : Hid (St.St u3 g4 102 #[.int .i64 0, .slice none 0 0]) := Lib.hid ((hot g4 (by omega)).trans (HZ1.out.on hb2));have HS3 : Hid (St.St u3 g6 140 #[.int .i64 a, .int .i64 (n : Int), .slice (some ⟨gi, 0, none⟩) (marksN n) (marksN n), .int .i64 b]) := Lib.hid ((hot g6 (by omega)).trans (HS1.out.on hb2));have HI3 : Hid (Hold ipR u3 gi ms) := Lib.hid ((HI1.out.on hb2).at (by omega) (hot gi (by omega)));have HL3 : Hid (LHold u3 gr n ((rs ++ [(l5, q)]).map (·.1))) := Lib.hid (by rw [List.map_append]; exact hL3);clear hgt2 hot hsz hbl hb2 hH7 hL3;refine Kn.Z.u (.m (.t rfl) (.x (.t rfl) rfl (.x (.t rfl) rfl (.x (.t rfl) rfl .n)))) ?_;refine Kn.Z.s .o (.indexAddr (.t rfl) (.t rfl)) fun Ko Kp=>?_;go_simp;(try go_bits);refine Kp _ _ ?_;clear Kp Ko;refine Kn.Z.su .o (.store (.t rfl) (.t rfl)) fun Ko Kp=>?_;refine Kn.satU_run hst ?_;refine Kp _ ?_;clear Kp Ko;refine Kn.Z.u (.a (.t rfl) (.a (.t rfl) .n)) ?_;refine Kn.Z.e hK16 ?_;clear hK16 K16;refine Kn.Z.t (.c 7 rfl (.c 9 rfl (.c 29 rfl (.c 28 rfl (.c 8 rfl (.c 10 rfl (.c 6 rfl (.c 0 rfl (.c 1 rfl (.c 4 rfl .n)))))))))) ?_;clear hst c0;refine Kn.Z.f fun K17 hK17=>?_;refine Kn.Z.u (.m (.t rfl) .n) ?_;refine Kn.Z.s .o (.bin (.t rfl) .c) fun Ko Kp=>?_;go_simp;(try go_bits);refine Kp _ _ ?_;clear Kp Ko;refine Kn.Z.e hK17 ?_;clear hK17 K17;refine Kn.Z.no (.t rfl) ?_;intro fb fg;refine wp_skip ?_;refine Kn.block_normal ?_;refine hK13 _ _ ?_;clear hK13 K13
  revert fb
  refine Kn.Z.r ?_;refine Kn.Z.s .o (.bin (.t rfl) .c) fun Ko Kp=>?_;go_simp;(try go_bits);refine Kp _ _ ?_;clear Kp Ko;refine Kn.Z.u (.m (.t rfl) .n) ?_;intro fb fg;refine wpList_nil ?_;replace fg := fg.cut (.c 29 rfl (.c 9 rfl (.c 28 rfl (.c 8 rfl (.c 10 rfl (.c 6 rfl (.c 0 rfl (.c 1 rfl (.c 4 rfl .n)))))))));exact hKl10 (m10 - 1) _ _ (by omega) ⟨k + 1, j, q5, _, _, fg.cut (.u 29 rfl (by go_num) (.c 28 rfl (.c 8 rfl (.c 9 rfl (.c 10 rfl (.c 6 rfl (.c 0 rfl (.c 1 rfl (.c 4 rfl .n))))))))), by omega, by omega, hq5, HRl2, HT2, HBm2, HL3, HS3, HI3, HZ3, HB3⟩
end Go.Proofs.YtbahklpdldghbaaGreatDoor.Shd
end
section
namespace Go.Proofs.YtbahklpdldghbaaGreatDoor.Shd
open Go Go.RowKit Go.Lib Oct Num Gap RowG Edg Csr
def cutN (N E : Nat) : Nat := (N - 1) / E + 1
def partF (ys : List (Int × Int)) (N E i : Nat) : ByteArray := bs (shF (i * E) (min E (N - i * E)) (rowsF ys (i * E)))
def partsF (ys : List (Int × Int)) (N E k : Nat) : List ByteArray := (List.range k).map (partF ys N E)
theorem partsF_len (ys : List (Int × Int)) (N E k : Nat) : (partsF ys N E k).length = k := by simp [partsF]
theorem partsF_succ (ys : List (Int × Int)) (N E k : Nat) : partsF ys N E (k + 1) = partsF ys N E k ++ [partF ys N E k] := by simp [partsF, List.range_succ]
theorem partsF_at (ys : List (Int × Int)) (N E k i : Nat) (h : i < k) : (partsF ys N E k)[i]? = some (partF ys N E i) := by simp [partsF, h]
theorem cut_lt {N E i : Nat} (hE : 1 ≤ E) (hN : 1 ≤ N) (h : i < cutN N E) : i * E < N := by
  unfold cutN at h;have h1 : i ≤ (N - 1) / E := by omega
  have := (Nat.le_div_iff_mul_le (by omega)).1 h1;omega
theorem cut_end {N E : Nat} (hE : 1 ≤ E) (hN : 1 ≤ N) : N ≤ cutN N E * E := by
  unfold cutN;have := Nat.div_add_mod (N - 1) E;have h2 := Nat.mod_lt (N - 1) (show E > 0 by omega);rw [Nat.add_mul, Nat.one_mul, Nat.mul_comm];omega
set_option maxRecDepth 100000 in
set_option maxHeartbeats 8000000 in
theorem split_zero (E : Nat) (w : World) (B g N : Nat) (ys : List (Int × Int)) (hR : Rep w B g N ys) (hE : 1 ≤ E) (hN : N = 0) :
    Calls Tryz.prog 29 #[.pointer (some ⟨g, 0, none⟩), .int .i64 (E : Int)] w fun e w' => e = .returned (.tuple #[.slice none 0 0, .nilIface]) ∧ w = w' := by
  refine Kn.Z.cl Tryz.func29 rfl Tryz.ntmps29 rfl (.c 0 rfl (.c 1 rfl .n)) ?_;refine Kn.Z.f fun K1 hK1=>?_;refine Kn.Z.u (.a .c (.a .c .n)) ?_;refine Kn.Z.e hK1 ?_;clear hK1 K1;have hno := nodes_any w B g N ys hR;have hN4 := hR.hi;have q1 : ¬ (E : Int) < 1 := by omega
  have HR := Lib.hid hR;clear hR;refine Kn.Z.q fun K2 hK2=>?_;refine Kn.Z.f fun K3 hK3=>?_;refine Kn.Z.u (.m (.t rfl) .n) ?_;refine Kn.Z.s .o (.bin (.t rfl) .c) fun Ko Kp=>?_;go_simp;(try go_bits);refine Kp _ _ ?_;clear Kp Ko;refine Kn.Z.u (.m (.t rfl) (.e (.s rfl rfl rfl) (.move (.t rfl)) .n)) ?_;refine Kn.Z.s (.s rfl rfl rfl) (.bin (.t rfl) .c) fun Ko Kp=>?_;go_simp;(try go_bits);refine Kp _ _ ?_;clear Kp Ko;refine Kn.Z.u (.e .o (.pick (.t rfl) (.t rfl)) .n) ?_;refine Kn.Z.e hK3 ?_;clear hK3 K3;refine Kn.Z.no (.t rfl) ?_;refine Kn.Z.j hK2 ?_;clear hK2 K2;subst hN;have q0 : (((0 : Nat) : Int) == 0) = true := rfl;refine Kn.Z.q fun K4 hK4=>?_;refine Kn.Z.f fun K5 hK5=>?_;refine Kn.Z.u (.m (.t rfl) .n) ?_;refine Kn.Z.c .o (.call (.c (.t rfl) .n)) Tryz.call44 (hno) fun e w1 hp=>?_;obtain ⟨rfl, rfl⟩ := hp;refine ⟨_,rfl,?_⟩;refine Kn.Z.s .o (.bin (.t rfl) .c) fun Ko Kp=>?_;go_simp;(try go_bits);refine Kp _ _ ?_;clear Kp Ko;refine Kn.Z.e hK5 ?_;clear hK5 K5;refine Kn.Z.y (.t rfl) ?_;refine Kn.Z.f fun K6 hK6=>?_;refine Kn.Z.u (.a .c (.a .c .n)) ?_;refine Kn.Z.e hK6 ?_;clear hK6 K6;intro fb fg;refine wp_ret ?_;refine Kn.then_ret ?_;exact Kn.ret2 fg rfl rfl rfl ⟨rfl, rfl⟩
set_option maxRecDepth 100000 in
set_option maxHeartbeats 8000000 in
theorem split_yes (E : Nat) (w : World) (B g N : Nat) (ys : List (Int × Int)) (hR : Rep w B g N ys) (hE : 1 ≤ E) (hE2 : E ≤ 9223372036854775807) (hN : 1 ≤ N) (hl : cutN N E ≤ 64) :
    Calls Tryz.prog 29 #[.pointer (some ⟨g, 0, none⟩), .int .i64 (E : Int)] w fun e w' => ∃ gs, e = .returned (.tuple #[.slice (some ⟨gs, 0, none⟩) (cutN N E) (cutN N E), .nilIface]) ∧ Hold txR w' gs (partsF ys N E (cutN N E)) ∧ w.heap.size ≤ gs ∧ Below w.heap.size w w' := by
  refine Kn.Z.cl Tryz.func29 rfl Tryz.ntmps29 rfl (.c 0 rfl (.c 1 rfl .n)) ?_;refine Kn.Z.f fun K1 hK1=>?_;refine Kn.Z.u (.a .c (.a .c .n)) ?_;refine Kn.Z.e hK1 ?_;clear hK1 K1;have hno := nodes_any w B g N ys hR;have hN4 := hR.hi;have q1 : ¬ (E : Int) < 1 := by omega
  have HR := Lib.hid hR;clear hR;refine Kn.Z.q fun K2 hK2=>?_;refine Kn.Z.f fun K3 hK3=>?_;refine Kn.Z.u (.m (.t rfl) .n) ?_;refine Kn.Z.s .o (.bin (.t rfl) .c) fun Ko Kp=>?_;go_simp;(try go_bits);refine Kp _ _ ?_;clear Kp Ko;refine Kn.Z.u (.m (.t rfl) (.e (.s rfl rfl rfl) (.move (.t rfl)) .n)) ?_;refine Kn.Z.s (.s rfl rfl rfl) (.bin (.t rfl) .c) fun Ko Kp=>?_;go_simp;(try go_bits);refine Kp _ _ ?_;clear Kp Ko;refine Kn.Z.u (.e .o (.pick (.t rfl) (.t rfl)) .n) ?_;refine Kn.Z.e hK3 ?_;clear hK3 K3;refine Kn.Z.no (.t rfl) ?_;refine Kn.Z.j hK2 ?_;clear hK2 K2;have q0 : ((N : Int) == 0) = false := by rw [beq_eq_false_iff_ne]; omega
  have q2 : (N == 0) = false := by rw [beq_eq_false_iff_ne]; omega
  obtain ⟨n1, hn1⟩ : ∃ j, N = j + 1 := ⟨N - 1, by omega⟩;obtain ⟨d, hd⟩ : ∃ d, n1 / E = d := ⟨_, rfl⟩;obtain ⟨C, hC⟩ : ∃ C, cutN N E = C := ⟨_, rfl⟩;have hCd : C = d + 1 := by rw [← hC, ← hd]; unfold cutN; rw [hn1]; rfl
  have hdb : d ≤ 4096 := by rw [← hd]; have := Nat.div_le_self n1 E; omega
  have r1 : (N : Int) - 1 = (n1 : Int) := by omega
  have r2 : (n1 : Int).tdiv (E : Int) = (d : Int) := by rw [Int.tdiv_eq_ediv_of_nonneg (by omega), ← hd]; rfl
  have r3 : (d : Int) + 1 = (C : Int) := by omega
  have hE0 : ¬ (E : Int) = 0 := by omega
  have hE1 : ¬ E = 0 := by omega
  have HC := Lib.hid hC;clear hn1 hd hCd;refine Kn.Z.q fun K4 hK4=>?_;refine Kn.Z.f fun K5 hK5=>?_;refine Kn.Z.u (.m (.t rfl) .n) ?_;refine Kn.Z.c .o (.call (.c (.t rfl) .n)) Tryz.call44 (hno) fun e w1 hp=>?_;obtain ⟨rfl, rfl⟩ := hp;refine ⟨_,rfl,?_⟩;refine Kn.Z.s .o (.bin (.t rfl) .c) fun Ko Kp=>?_;go_simp;(try go_bits);refine Kp _ _ ?_;clear Kp Ko;refine Kn.Z.e hK5 ?_;clear hK5 K5;refine Kn.Z.no (.t rfl) ?_;refine Kn.Z.j hK4 ?_;clear hK4 K4;refine Kn.Z.f fun K6 hK6=>?_;refine Kn.Z.u (.m (.t rfl) .n) ?_;refine Kn.Z.c .o (.call (.c (.t rfl) .n)) Tryz.call44 (hno) fun e w1 hp=>?_;obtain ⟨rfl, rfl⟩ := hp;refine ⟨_,rfl,?_⟩;refine Kn.Z.s .o (.bin (.t rfl) .c) fun Ko Kp=>?_;go_simp;(try go_bits);try rw [r1]
  try go_simp
  (try go_bits);refine Kp _ _ ?_;clear Kp Ko;refine Kn.Z.u (.m (.t rfl) .n) ?_;refine Kn.Z.s .o (.bin (.t rfl) (.t rfl)) fun Ko Kp=>?_;go_simp;(try go_bits);try rw [r2]
  try go_simp
  (try go_bits);refine Kp _ _ ?_;clear Kp Ko;refine Kn.Z.s .o (.bin (.t rfl) .c) fun Ko Kp=>?_;go_simp;(try go_bits);try rw [r3]
  try go_simp
  (try go_bits);refine Kp _ _ ?_;clear Kp Ko;refine Kn.Z.u (.a (.t rfl) .n) ?_;refine Kn.Z.e hK6 ?_;clear hK6 K6;refine Kn.Z.t (.c 6 rfl (.c 5 rfl (.c 4 rfl (.c 0 rfl (.c 1 rfl .n))))) ?_;clear r1 r2 r3 q0 q2 hno;have q6 : ¬ (64 : Int) < (C : Int) := by rw [hC] at hl; omega
  have hC64 : C ≤ 64 := by omega
  obtain ⟨w5, hmk, hO5, hb5⟩ := makeG (P := Tryz.prog) txR elemTx ⟨#[]⟩ rfl w C (by show C * 1 ≤ _; omega) (by omega) (by omega);clear hl;refine Kn.Z.q fun K7 hK7=>?_;refine Kn.Z.f fun K8 hK8=>?_;refine Kn.Z.u (.m (.t rfl) .n) ?_;refine Kn.Z.s .o (.bin (.t rfl) .c) fun Ko Kp=>?_;go_simp;(try go_bits);refine Kp _ _ ?_;clear Kp Ko;refine Kn.Z.e hK8 ?_;clear hK8 K8;refine Kn.Z.no (.t rfl) ?_;refine Kn.Z.j hK7 ?_;clear hK7 K7;refine Kn.Z.f fun K9 hK9=>?_;refine Kn.Z.u (.m (.t rfl) .n) ?_;refine Kn.Z.k .o (.makeSlice (.t rfl) (.t rfl)) hmk ?_;refine Kn.Z.u (.a (.t rfl) .n) ?_;refine Kn.Z.e hK9 ?_;clear hK9 K9;clear hmk;obtain ⟨gs, hgs⟩ : ∃ g, w.heap.size = g := ⟨_, rfl⟩;have hgw : w.heap.size ≤ gs := by omega
  intro fb fg;rw [hgs] at hO5 fg;have HF5 : Hid (Fill txR ⟨#[]⟩ w5 gs C (partsF ys N E 0)) := Lib.hid (Fill.start hO5);have HB5 := Lib.hid hb5;rw [hC];clear hO5 hb5 hgs
  revert fb
  refine Kn.Z.q fun K10 hK10=>?_;refine Kn.Z.f fun K11 hK11=>?_;refine Kn.Z.u (.m (.t rfl) (.m .c .n)) ?_;refine Kn.Z.e hK11 ?_;clear hK11 K11;refine Kn.Z.b ?_;intro fb fg;refine Kn.loop (fun m fr u => ∃ (k : Nat), Kn.Kn 61 [(33, .int .i64 (k : Int)), (32, .int .i64 (C : Int)), (7, .slice (some ⟨gs, 0, none⟩) C C), (0, .pointer (some ⟨g, 0, none⟩)), (1, .int .i64 (E : Int))] fr ∧ k + m = C ∧ Hid (Fill txR ⟨#[]⟩ u gs C (partsF ys N E k)) ∧ Hid (Below w.heap.size w u)) C ⟨0, fg.cut (.u 33 rfl rfl (.c 32 rfl (.c 7 rfl (.c 0 rfl (.c 1 rfl .n))))), by omega, HF5, HB5⟩ ?_;clear fg fb;intro m12 fa u hI Kl12 hKl12;obtain ⟨k, fh, hk, HF, HB⟩ := hI;clear HF5 HB5
  by_cases hlt : k < C
  · have hkN : k * E < N := cut_lt hE hN (by rw [HC.out]; exact hlt);obtain ⟨f, hf⟩ : ∃ f, k * E = f := ⟨_, rfl⟩;rw [hf] at hkN;have rf : (k : Int) * (E : Int) = (f : Int) := by rw [← hf]; simp
    obtain ⟨r, hr⟩ : ∃ r, N - f = r := ⟨_, rfl⟩;have rr : (N : Int) - (f : Int) = (r : Int) := by omega
    obtain ⟨mn, hmn⟩ : ∃ x, min E r = x := ⟨_, rfl⟩;have hmnb : 1 ≤ mn ∧ f + mn ≤ N := by omega
    have rmn : min (E : Int) (r : Int) = (mn : Int) := by omega
    have hno := nodes_any u B g N ys (HR.out.on HB.out);have hp := shPut_yes f mn u B g N ys (HR.out.on HB.out) hmnb.1 hmnb.2;have hPe : bs (shF f mn (rowsF ys f)) = partF ys N E k := by unfold partF; rw [hf, hr, hmn]
    rw [hPe] at hp;have HPe : Hid (partsF ys N E (k + 1) = partsF ys N E k ++ [partF ys N E k]) := Lib.hid (partsF_succ ys N E k);have HPl : Hid ((partsF ys N E k).length = k) := Lib.hid (partsF_len ys N E k);generalize partF ys N E k = S at hp HPe;clear hPe hf hr hmn
    revert fa
    refine Kn.Z.f fun K13 hK13=>?_;refine Kn.Z.s .o (.bin (.t rfl) (.t rfl)) fun Ko Kp=>?_;go_simp;(try go_bits);refine Kp _ _ ?_;clear Kp Ko;refine Kn.Z.e hK13 ?_;clear hK13 K13;refine Kn.Z.q fun K14 hK14=>?_;refine Kn.Z.y (.t rfl) ?_;refine Kn.Z.j hK14 ?_;clear hK14 K14;refine Kn.Z.t (.c 33 rfl (.c 32 rfl (.c 7 rfl (.c 0 rfl (.c 1 rfl .n))))) ?_;refine Kn.Z.q fun K15 hK15=>?_;refine Kn.Z.b ?_;refine Kn.Z.f fun K16 hK16=>?_;refine Kn.Z.u (.m (.t rfl) (.a (.t rfl) .n)) ?_;refine Kn.Z.e hK16 ?_;clear hK16 K16;refine Kn.Z.f fun K17 hK17=>?_;refine Kn.Z.u (.m (.t rfl) (.m (.t rfl) (.m (.t rfl) .n))) ?_;refine Kn.Z.s .o (.bin (.t rfl) (.t rfl)) fun Ko Kp=>?_;go_simp;(try go_bits);try rw [rf]
    try go_simp
    (try go_bits);refine Kp _ _ ?_;clear Kp Ko;refine Kn.Z.u (.m (.t rfl) (.m (.t rfl) .n)) ?_;refine Kn.Z.c .o (.call (.c (.t rfl) .n)) Tryz.call44 (hno) fun e wx hp=>?_;obtain ⟨rfl, rfl⟩ := hp;refine ⟨_,rfl,?_⟩;refine Kn.Z.u (.m (.t rfl) (.m (.t rfl) .n)) ?_;refine Kn.Z.s .o (.bin (.t rfl) (.t rfl)) fun Ko Kp=>?_;go_simp;(try go_bits);try rw [rf]
    try go_simp
    (try go_bits);refine Kp _ _ ?_;clear Kp Ko;refine Kn.Z.s .o (.bin (.t rfl) (.t rfl)) fun Ko Kp=>?_;go_simp;(try go_bits);try rw [rr]
    try go_simp
    (try go_bits);refine Kp _ _ ?_;clear Kp Ko;refine Kn.Z.s .o (.min (.c (.t rfl) (.c (.t rfl) .n))) fun Ko Kp=>?_;go_simp;(try go_bits);try rw [rmn]
    try go_simp
    refine Kp _ _ ?_;clear Kp Ko;refine Kn.Z.c .o (.call (.c (.t rfl) (.c (.t rfl) (.c (.t rfl) .n)))) Tryz.call45 (hp) fun e u1 hp=>?_;obtain ⟨rfl, hb1⟩ := hp;refine ⟨_,rfl,?_⟩;refine Kn.Z.u (.m (.t rfl) (.x (.t rfl) rfl (.x (.t rfl) rfl (.a (.t rfl) (.a (.t rfl) .n))))) ?_;refine Kn.Z.e hK17 ?_;clear hK17 K17;refine Kn.Z.t (.c 10 rfl (.c 9 rfl (.c 8 rfl (.c 33 rfl (.c 32 rfl (.c 7 rfl (.c 0 rfl (.c 1 rfl .n)))))))) ?_;clear hp hno rf rr rmn;obtain ⟨u2, hst, hF2, hot, hsz, hbl⟩ := (HF.out.on hb1).push1 (P := Tryz.prog) (e := 9) (by rw [HPl.out]; exact hlt) k HPl.out.symm S (.string S) rfl rfl (fun w p c => store_tx S w p c);have HF2 : Hid (Fill txR ⟨#[]⟩ u2 gs C (partsF ys N E (k + 1))) := Lib.hid (by rw [HPe.out]; exact hF2);have HB2 := Lib.hid ((HB.out.trans (hb1.mono HB.out.size)).trans (hbl _ hgw));clear hF2 hot hsz hbl hb1;refine Kn.Z.q fun K18 hK18=>?_;refine Kn.Z.f fun K19 hK19=>?_;refine Kn.Z.u (.m (.t rfl) .n) ?_;refine Kn.Z.s .o (.bin (.t rfl) .c) fun Ko Kp=>?_;go_simp;(try go_bits);refine Kp _ _ ?_;clear Kp Ko;refine Kn.Z.e hK19 ?_;clear hK19 K19;refine Kn.Z.no (.t rfl) ?_;refine Kn.Z.j hK18 ?_;clear hK18 K18;refine Kn.Z.r ?_;refine Kn.Z.u (.m (.t rfl) (.m (.t rfl) (.m (.t rfl) .n))) ?_;refine Kn.Z.s .o (.indexAddr (.t rfl) (.t rfl)) fun Ko Kp=>?_;go_simp;(try go_bits);refine Kp _ _ ?_;clear Kp Ko;refine Kn.Z.su .o (.store (.t rfl) (.t rfl)) fun Ko Kp=>?_;refine Kn.satU_run hst ?_;refine Kp _ ?_;clear Kp Ko;intro fb fg;refine wpList_nil ?_;refine Kn.block_normal ?_;refine hK15 _ _ ?_;clear hK15 K15;clear hst
    revert fb
    refine Kn.Z.r ?_;refine Kn.Z.s .o (.bin (.t rfl) .c) fun Ko Kp=>?_;go_simp;(try go_bits);refine Kp _ _ ?_;clear Kp Ko;refine Kn.Z.u (.m (.t rfl) .n) ?_;intro fb fg;refine wpList_nil ?_;replace fg := fg.cut (.c 33 rfl (.c 32 rfl (.c 7 rfl (.c 0 rfl (.c 1 rfl .n)))));exact hKl12 (m12 - 1) _ _ (by omega) ⟨k + 1, fg.cut (.u 33 rfl (by go_num) (.c 32 rfl (.c 7 rfl (.c 0 rfl (.c 1 rfl .n))))), by omega, HF2, HB2⟩
  obtain rfl : k = C := by omega
  revert fa
  refine Kn.Z.f fun K13 hK13=>?_;refine Kn.Z.s .o (.bin (.t rfl) (.t rfl)) fun Ko Kp=>?_;go_simp;(try go_bits);refine Kp _ _ ?_;clear Kp Ko;refine Kn.Z.e hK13 ?_;clear hK13 K13;refine Kn.Z.q fun K14 hK14=>?_;refine Kn.Z.no (.t rfl) ?_;refine Kn.Z.t (.c 33 rfl (.c 32 rfl (.c 7 rfl (.c 0 rfl (.c 1 rfl .n))))) ?_;intro fb fg;refine wp_exit ?_;refine Kn.then_exit ?_;clear hK14 K14;refine Kn.then_exit ?_;clear hKl12 Kl12;refine Kn.block_exit ?_;refine hK10 _ _ ?_;clear hK10 K10
  revert fb
  refine Kn.Z.f fun K15 hK15=>?_;refine Kn.Z.u (.m (.t rfl) (.a (.t rfl) (.a .c .n))) ?_;refine Kn.Z.e hK15 ?_;clear hK15 K15;intro fa fh;refine wp_ret ?_;exact Kn.ret2 fh rfl rfl rfl ⟨gs, rfl, HF.out.full (partsF_len ys N E k), hgw, HB.out⟩
end Go.Proofs.YtbahklpdldghbaaGreatDoor.Shd
end
section
namespace Go.Proofs.YtbahklpdldghbaaGreatDoor.Csr
open Go Go.RowKit Go.Lib Edg Num
def bk (ys : List (Int × Int)) (N k : Nat) : List Int := bgs ys k ++ List.replicate (N - k) 0
theorem bk_0 (ys : List (Int × Int)) (N : Nat) : bk ys N 0 = List.replicate N 0 := by simp [bk, bgs]
theorem bk_end (ys : List (Int × Int)) (N : Nat) : bk ys N N = bgs ys N := by simp [bk]
theorem bk_len (ys : List (Int × Int)) (N k : Nat) (h : k ≤ N) : (bk ys N k).length = N := by simp [bk, bgs]; omega
theorem bk_set (ys : List (Int × Int)) (N k : Nat) (h : k < N) : (bk ys N k).set k (bgn ys (k : Int) : Int) = bk ys N (k + 1) := by
  unfold bk;rw [show N - k = (N - (k + 1)) + 1 by omega, List.replicate_succ];have hl : (bgs ys k).length = k := bgs_len ys k;rw [List.set_append_right k _ (by omega), hl, Nat.sub_self, List.set_cons_zero];simp [bgs, List.range_succ]
def tz (ys : List (Int × Int)) (a : Nat) : List Int := tgs (ys.take a) ++ List.replicate (ys.length - a) 0
theorem tz_0 (ys : List (Int × Int)) : tz ys 0 = List.replicate ys.length 0 := by simp [tz, tgs]
theorem tz_end (ys : List (Int × Int)) : tz ys ys.length = tgs ys := by simp [tz]
theorem tz_len (ys : List (Int × Int)) (a : Nat) (h : a ≤ ys.length) : (tz ys a).length = ys.length := by simp [tz, tgs]; omega
theorem tz_set (ys : List (Int × Int)) (a : Nat) (h : a < ys.length) : (tz ys a).set a (ed ys a).2 = tz ys (a + 1) := by
  unfold tz;rw [take_ed ys a h, show ys.length - a = (ys.length - (a + 1)) + 1 by omega, List.replicate_succ];have hl : (tgs (ys.take a)).length = a := by simp [tgs]; omega
  rw [List.set_append_right a _ (by omega), hl, Nat.sub_self, List.set_cons_zero];simp [tgs]
def RMem (u : World) (B g gb gt N L : Nat) (bs ts : List Int) : Prop := (B ≤ g ∧ B ≤ gb ∧ B ≤ gt) ∧ (gb < u.heap.size ∧ gt < u.heap.size) ∧ (gb ≠ gt ∧ g ≠ gb ∧ g ≠ gt) ∧ St.St u g 107 #[.slice (some ⟨gb, 0, none⟩) N N, .slice (some ⟨gt, 0, none⟩) L L] ∧ HoldI u gb bs ∧ HoldI u gt ts
section
variable {u u' : World} {B g gb gt N L : Nat} {bs ts : List Int}
theorem RMem.on (h : RMem u B g gb gt N L bs ts) (hb : Below u.heap.size u u') : RMem u' B g gb gt N L bs ts := by
  obtain ⟨h1, h2, h3, h4, h5, h6⟩ := h;have := hb.size;exact ⟨h1, ⟨by omega, by omega⟩, h3, h4.on hb, h5.on hb, h6.on hb⟩
theorem RMem.drew (h : RMem u B g gb gt N L bs ts) : RMem u.drew B g gb gt N L bs ts := h
theorem RMem.storeB (h : RMem u B g gb gt N L bs ts) (k : Nat) (hk : k < bs.length) (x : Int) : ∃ u', (Instr.storeAt 3 (.pointer (some ⟨gb, k, none⟩)) (.int .i64 x)).run Tryz.prog u = .ok () u' ∧ RMem u' B g gb gt N L (bs.set k x) ts ∧ Below B u u' := by
  obtain ⟨h1, h2, h3, h4, h5, h6⟩ := h;obtain ⟨u', e1, e2, e3, e4, e5⟩ := h5.store k hk x;exact ⟨u', e1, ⟨h1, ⟨by omega, by omega⟩, h3, (e3 g h3.2.1).trans h4, e2, h6.at (e3 gt h3.1.symm)⟩, e5 B h1.2.1⟩
theorem RMem.storeT (h : RMem u B g gb gt N L bs ts) (k : Nat) (hk : k < ts.length) (x : Int) : ∃ u', (Instr.storeAt 3 (.pointer (some ⟨gt, k, none⟩)) (.int .i64 x)).run Tryz.prog u = .ok () u' ∧ RMem u' B g gb gt N L bs (ts.set k x) ∧ Below B u u' := by
  obtain ⟨h1, h2, h3, h4, h5, h6⟩ := h;obtain ⟨u', e1, e2, e3, e4, e5⟩ := h6.store k hk x;exact ⟨u', e1, ⟨h1, ⟨by omega, by omega⟩, h3, (e3 g h3.2.2).trans h4, h5.at (e3 gb h3.1), e2⟩, e5 B h1.2.2⟩
end
def ZRow (B n : Nat) : Value → World → Prop := fun v u => ∃ g, v = .slice (some ⟨g, 0, none⟩) n n ∧ B ≤ g ∧ g < u.heap.size ∧ HoldI u g (List.replicate n 0)
theorem ZRow.keep {B n : Nat} : ∀ v w w', Below w.heap.size w w' → ZRow B n v w → ZRow B n v w' := fun _ _ _ hb ⟨g, e, h1, h2, h3⟩ => ⟨g, e, h1, Nat.lt_of_lt_of_le h2 hb.size, h3.on hb⟩
def ZAgg (B N L : Nat) : Value → World → Prop := fun v u => ∃ gb gt, v = .agg #[.slice (some ⟨gb, 0, none⟩) N N, .slice (some ⟨gt, 0, none⟩) L L] ∧ gb ≠ gt ∧ (B ≤ gb ∧ gb < u.heap.size) ∧ (B ≤ gt ∧ gt < u.heap.size) ∧ HoldI u gb (List.replicate N 0) ∧ HoldI u gt (List.replicate L 0)
theorem ZAgg.keep {B N L : Nat} : ∀ v w w', Below w.heap.size w w' → ZAgg B N L v w → ZAgg B N L v w' := fun _ _ _ hb ⟨gb, gt, e, h1, h2, h3, h4, h5⟩ => ⟨gb, gt, e, h1, ⟨h2.1, Nat.lt_of_lt_of_le h2.2 hb.size⟩, ⟨h3.1, Nat.lt_of_lt_of_le h3.2 hb.size⟩, h4.on hb, h5.on hb⟩
def ZPtr (B N L : Nat) : Value → World → Prop := fun v u => ∃ g gb gt, v = .pointer (some ⟨g, 0, none⟩) ∧ RMem u B g gb gt N L (List.replicate N 0) (List.replicate L 0)
theorem ZPtr.keep {B N L : Nat} : ∀ v w w', Below w.heap.size w w' → ZPtr B N L v w → ZPtr B N L v w' := fun _ _ _ hb ⟨g, gb, gt, e, h⟩ => ⟨g, gb, gt, e, h.on hb⟩
def Fz : Nat → Nat → Value → Value → Prop := fun i k v u => i = 1 → k = 4 → v.ownBlock ≠ u.ownBlock
theorem box_mem {u : World} {B gb gt N L : Nat} (hB : B ≤ u.heap.size) (hne : gb ≠ gt) (h2 : B ≤ gb ∧ gb < u.heap.size) (h3 : B ≤ gt ∧ gt < u.heap.size) (h4 : HoldI u gb (List.replicate N 0)) (h5 : HoldI u gt (List.replicate L 0)) :
    RMem (u.alloc (.cells #[.slice (some ⟨gb, 0, none⟩) N N, .slice (some ⟨gt, 0, none⟩) L L] 107)) B u.heap.size gb gt N L (List.replicate N 0) (List.replicate L 0) := by
  have hb : Below u.heap.size u (u.alloc (.cells #[.slice (some ⟨gb, 0, none⟩) N N, .slice (some ⟨gt, 0, none⟩) L L] 107)) := (Below.refl _ u).alloc (Nat.le_refl _) _;exact ⟨⟨hB, h2.1, h3.1⟩, ⟨Nat.lt_of_lt_of_le h2.2 hb.size, Nat.lt_of_lt_of_le h3.2 hb.size⟩, ⟨hne, by omega, by omega⟩, St.St.new _ _ _, h4.on hb, h5.on hb⟩
set_option maxRecDepth 100000 in
set_option maxHeartbeats 2000000 in
theorem rows_any (N : Nat) (A : Option Addr) (ca : Nat) (ys : List (Int × Int)) (w : World) (hs : Srt ys) (hg : Edg.Good (N : Int) ys) (hA : EIn w A ys) :
    Calls Tryz.prog 43 #[.int .i64 (N : Int), .slice A ys.length ca] w fun e w' => ∃ g, e = .returned (.pointer (some ⟨g, 0, none⟩)) ∧ Rep w' w.heap.size g N ys ∧ Below w.heap.size w w' := by
  have hN4 : N ≤ 4096 := by have := hg.hi; omega
  have hL2 := hg.len;have HA := Lib.hid hA;clear hA;refine Kn.calls Tryz.func43 rfl Tryz.ntmps43 rfl (.cons (t := 0) rfl (.cons (t := 1) rfl .nil)) fun fa0 fh0 => ?_;refine wp_seq_k fun K1 hK1 => ?_;refine wp_region_lit ?_;refine Kn.pure fh0 rfl rfl .none (Kn.ex_assign fh0 .const) fun fa1 fh1 => ?_;clear fh0 fa0;refine wpList_nil ?_;refine hK1 _ _ ?_;clear hK1 K1;refine wp_seq_k fun K2 hK2 => ?_;refine Kn.anyF (fun u => Below w.heap.size w u) (fun u u' => Below u.heap.size u u') (Kn.TL [Kn.Is (.int .i64 (N : Int)), (ZRow w.heap.size N), Kn.Is (.slice A ys.length ca), Kn.Is (.int .i64 (ys.length : Int)), (ZRow w.heap.size ys.length), (ZAgg w.heap.size N ys.length), (ZPtr w.heap.size N ys.length), (ZPtr w.heap.size N ys.length)]) Fz (by kernel_rfl) fh1 (by kernel_rfl) (by kernel_rfl) rfl (Kn.Keeps.all (.cons Kn.Is.keep (.cons ZRow.keep (.cons Kn.Is.keep (.cons Kn.Is.keep (.cons ZRow.keep (.cons ZAgg.keep (.cons ZPtr.keep (.cons ZPtr.keep .nil))))))))) (Below.refl _ w).drew ⟨?_, ?_, ?_, ?_, ?_, ?_, ?_, ?_, trivial⟩ ?_
  · refine Kn.okF fun fa2 u L fh2 hS hO hT2 hA => ?_;exact Kn.aopF fh2 .none (Kn.ex_move fh2 (.tmp rfl)) fun Ko hKo => hKo _ _ rfl hS (Below.refl _ _) (fun _ _ _ _ _ => ⟨fun h _ => absurd h (by decide), fun _ h => absurd h (by decide)⟩)
  · refine Kn.okF fun fa2 u L fh2 hS hO hT2 hA => ?_;replace fh2 := fh2.more (show fa2.eval (.tmp 8) = .int .i64 (N : Int) from hO 0 8 (hA 0 rfl) rfl);obtain ⟨u7, hrun, hH, hbel, hlt⟩ := makeI u N (by omega);exact Kn.aopF fh2 .none (Kn.ex_makeSlice fh2 (.tmp rfl) (.tmp rfl)) fun Ko hKo => by rw [hrun]; exact hKo _ _ ⟨u.heap.size, rfl, hS.size, hlt, hH⟩ (hS.trans (hbel.mono hS.size)) hbel (fun k d hk hl hd => ⟨fun _ h4 => by subst h4; obtain ⟨g4, e4, -, hlt4, -⟩ := (show ZRow w.heap.size ys.length _ u from hO 4 d hl hd); rw [e4]; simp [Value.ownBlock]; omega, fun _ h => absurd h (by decide)⟩)
  · refine Kn.okF fun fa2 u L fh2 hS hO hT2 hA => ?_;exact Kn.aopF fh2 .none (Kn.ex_move fh2 (.tmp rfl)) fun Ko hKo => hKo _ _ rfl hS (Below.refl _ _) (fun _ _ _ _ _ => ⟨fun h _ => absurd h (by decide), fun _ h => absurd h (by decide)⟩)
  · refine Kn.okF fun fa2 u L fh2 hS hO hT2 hA => ?_;replace fh2 := fh2.more (show fa2.eval (.tmp 10) = .slice A ys.length ca from hO 2 10 (hA 2 rfl) rfl);refine Kn.aopF fh2 .none (Kn.ex_len fh2 (.tmp rfl)) fun Ko hKo => ?_;go_simp;(try go_bits);exact hKo _ _ rfl hS (Below.refl _ _) (fun _ _ _ _ _ => ⟨fun h _ => absurd h (by decide), fun _ h => absurd h (by decide)⟩)
  · refine Kn.okF fun fa2 u L fh2 hS hO hT2 hA => ?_;replace fh2 := fh2.more (show fa2.eval (.tmp 11) = .int .i64 (ys.length : Int) from hO 3 11 (hA 3 rfl) rfl);obtain ⟨u7, hrun, hH, hbel, hlt⟩ := makeI u ys.length (by omega);exact Kn.aopF fh2 .none (Kn.ex_makeSlice fh2 (.tmp rfl) (.tmp rfl)) fun Ko hKo => by rw [hrun]; exact hKo _ _ ⟨u.heap.size, rfl, hS.size, hlt, hH⟩ (hS.trans (hbel.mono hS.size)) hbel (fun k d hk hl hd => ⟨fun h _ => absurd h (by decide), fun h1 _ => by subst h1; obtain ⟨g4, e4, -, hlt4, -⟩ := (show ZRow w.heap.size N _ u from hO 1 d hl hd); rw [e4]; simp [Value.ownBlock]; omega⟩)
  · refine Kn.okF fun fa2 u L fh2 hS hO hT2 hA => ?_;obtain ⟨g9, e9, hB9, hL9, hH9⟩ : (ZRow w.heap.size N) (fa2.eval (.tmp 9)) u := hO 1 9 (hA 1 rfl) rfl;replace fh2 := fh2.more e9;obtain ⟨g12, e12, hB12, hL12, hH12⟩ : (ZRow w.heap.size ys.length) (fa2.eval (.tmp 12)) u := hO 4 12 (hA 4 rfl) rfl;replace fh2 := fh2.more e12;have hne := hT2 1 4 9 12 (by decide) (hA 1 rfl) (hA 4 rfl) rfl rfl rfl rfl;rw [e9, e12] at hne;refine Kn.aopF fh2 .none (Kn.ex_build fh2 (.cons (.tmp rfl) (.cons (.tmp rfl) .nil))) fun Ko hKo => ?_;go_simp;(try go_bits);exact hKo _ _ ⟨g9, g12, rfl, fun h => hne (by simp [Value.ownBlock, h]), ⟨hB9, hL9⟩, ⟨hB12, hL12⟩, hH9, hH12⟩ hS (Below.refl _ _) (fun _ _ _ _ _ => ⟨fun h _ => absurd h (by decide), fun _ h => absurd h (by decide)⟩)
  · refine Kn.okF fun fa2 u L fh2 hS hO hT2 hA => ?_;obtain ⟨gb13, gt13, e13, hn13, hB13, hL13, hH13, hJ13⟩ : (ZAgg w.heap.size N ys.length) (fa2.eval (.tmp 13)) u := hO 5 13 (hA 5 rfl) rfl;replace fh2 := fh2.more e13;refine Kn.aopF fh2 .none (Kn.ex_box fh2 (.tmp rfl)) fun Ko hKo => ?_;go_simp;(try go_bits);exact hKo _ _ ⟨u.heap.size, gb13, gt13, rfl, box_mem hS.size hn13 hB13 hL13 hH13 hJ13⟩ (hS.alloc hS.size _) ((Below.refl _ u).alloc (Nat.le_refl _) _) (fun _ _ _ _ _ => ⟨fun h _ => absurd h (by decide), fun _ h => absurd h (by decide)⟩)
  · refine Kn.okF fun fa2 u L fh2 hS hO hT2 hA => ?_;obtain ⟨g14, gb14, gt14, e14, hM14⟩ : (ZPtr w.heap.size N ys.length) (fa2.eval (.tmp 14)) u := hO 6 14 (hA 6 rfl) rfl;replace fh2 := fh2.more e14;exact Kn.aopF fh2 .none (Kn.ex_assign fh2 (.tmp rfl)) fun Ko hKo => hKo _ _ ⟨g14, gb14, gt14, rfl, hM14⟩ hS (Below.refl _ _) (fun _ _ _ _ _ => ⟨fun h _ => absurd h (by decide), fun _ h => absurd h (by decide)⟩)
  intro fa2 w1 fh2 hS hT hT2;clear fh1 fa1;obtain ⟨g5, gb5, gt5, e5, hM5⟩ : (ZPtr w.heap.size N ys.length) (fa2.eval (.tmp 5)) w1 := hT 7 5 rfl;replace fh2 := fh2.more e5;clear hT;refine hK2 _ _ ?_;clear hK2 K2;clear hT2 e5;have HB1 := Lib.hid hS;have HM1 := Lib.hid hM5;clear hS hM5;refine wp_seq_k fun K3 hK3 => ?_;refine wp_region_lit ?_;refine Kn.pure fh2 rfl rfl .none (Kn.ex_assign fh2 .const) fun fa3 fh3 => ?_;clear fh2 fa2;refine wpList_nil ?_;refine hK3 _ _ ?_;clear hK3 K3;refine wp_seq_k fun K4 hK4 => ?_;refine wp_seq_k fun K5 hK5 => ?_;refine wp_region_lit ?_;refine Kn.pure fh3 rfl rfl .none (Kn.ex_move fh3 (.tmp rfl)) fun fa4 fh4 => ?_;clear fh3 fa3;refine Kn.pure fh4 rfl rfl .none (Kn.ex_move fh4 .const) fun fa5 fh5 => ?_;clear fh4 fa4;refine wpList_nil ?_;refine hK5 _ _ ?_;clear hK5 K5;replace fh5 := fh5.cut (.cons (t := 16) rfl (.cons (t := 15) rfl (.cons (t := 6) rfl (.cons (t := 5) rfl (.cons (t := 4) rfl (.cons (t := 1) rfl .nil))))));refine wp_block ?_;refine Kn.loop (fun m fr u => ∃ (k : Nat), Kn.Kn 54 [(16, .int .i64 (k : Int)), (15, .int .i64 (N : Int)), (5, .pointer (some ⟨g5, 0, none⟩)), (6, .int .i64 (bgn ys (k : Int) : Int)), (1, .slice A ys.length ca)] fr ∧ k + m = N ∧ Hid (Below w.heap.size w u) ∧ Hid (RMem u w.heap.size g5 gb5 gt5 N ys.length (bk ys N k) (tz ys (bgn ys (k : Int))))) N ⟨0, fh5.cut (.turn (t := 16) rfl rfl (.cons (t := 15) rfl (.cons (t := 5) rfl (.turn (t := 6) rfl (by rw [show bgn ys ((0 : Nat) : Int) = 0 from bgn_0 hg]; rfl) (.cons (t := 1) rfl .nil))))), by omega, HB1, Lib.hid (by rw [bk_0, show bgn ys ((0 : Nat) : Int) = 0 from bgn_0 hg, tz_0]; exact HM1.out)⟩ ?_;clear fh5 fa5;intro m6 fa6 u hI Kl6 hKl6;obtain ⟨k, fh6, hk, HB, HM⟩ := hI
  by_cases hlt : k < N
  · have hb1 := bgn_mono ys (k : Int);have hb2 := bgn_le ys ((k : Int) + 1);obtain ⟨k1, hk1⟩ : ∃ k1, k + 1 = k1 := ⟨_, rfl⟩;have r1 : (k : Int) + 1 = (k1 : Int) := by omega
    rw [r1] at hb1 hb2;obtain ⟨u2, hst, hM2, hB2⟩ := HM.out.storeB k (by rw [bk_len ys N k (by omega)]; exact hlt) (bgn ys (k : Int) : Int);rw [bk_set ys N k hlt, hk1] at hM2;have HM2 := Lib.hid hM2;have HB2 := Lib.hid (HB.out.trans hB2);have c0 := HM.out.2.2.2.1.cell 0 rfl;obtain ⟨b0, hb0⟩ : ∃ b, bgn ys (k : Int) = b := ⟨_, rfl⟩;obtain ⟨b1, hbb1⟩ : ∃ b, bgn ys (k1 : Int) = b := ⟨_, rfl⟩;rw [hb0] at hb1 hst HM2 fh6;rw [hbb1] at hb1 hb2;have HB0 := Lib.hid hb0;have HBB := Lib.hid hbb1;clear hb0 hbb1 hM2 hB2;refine wp_seq_k fun K7 hK7 => ?_;refine wp_region_lit ?_;refine Kn.step fh6 rfl rfl .none (Kn.ex_bin fh6 (.tmp rfl) (.tmp rfl)) fun Ko hKo => ?_;go_simp;(try go_bits);refine hKo _ _ fun fa7 fh7 => ?_;clear hKo Ko fh6 fa6;refine wpList_nil ?_;refine hK7 _ _ ?_;clear hK7 K7;refine wp_seq_k fun K8 hK8 => ?_;refine Kn.yes fh7 (.tmp rfl) ?_;refine wp_skip ?_;refine hK8 _ _ ?_;clear hK8 K8;replace fh7 := fh7.cut (.cons (t := 16) rfl (.cons (t := 15) rfl (.cons (t := 5) rfl (.cons (t := 6) rfl (.cons (t := 1) rfl .nil)))));refine wp_seq_k fun K9 hK9 => ?_;refine wp_block ?_;refine wp_seq_k fun K10 hK10 => ?_;refine wp_region_lit ?_;refine Kn.pure fh7 rfl rfl .none (Kn.ex_move fh7 (.tmp rfl)) fun fa8 fh8 => ?_;clear fh7 fa7;refine Kn.pure fh8 rfl rfl .none (Kn.ex_assign fh8 (.tmp rfl)) fun fa9 fh9 => ?_;clear fh8 fa8;refine wpList_nil ?_;refine hK10 _ _ ?_;clear hK10 K10;replace fh9 := fh9.cut (.cons (t := 7) rfl (.cons (t := 16) rfl (.cons (t := 15) rfl (.cons (t := 5) rfl (.cons (t := 6) rfl (.cons (t := 1) rfl .nil))))));refine wp_seq_k fun K11 hK11 => ?_;refine wp_region_lit ?_;refine Kn.pure fh9 rfl rfl .none (Kn.ex_move fh9 (.tmp rfl)) fun fa10 fh10 => ?_;clear fh9 fa9;refine Kn.pure fh10 rfl rfl .none (Kn.ex_nilCheck fh10 (.tmp rfl)) fun fa11 fh11 => ?_;clear fh10 fa10;refine Kn.step fh11 rfl rfl .none (Kn.ex_fieldAddr fh11 (.tmp rfl)) fun Ko hKo => ?_;go_simp;(try go_bits);refine hKo _ _ fun fa12 fh12 => ?_;clear hKo Ko fh11 fa11;refine Kn.step fh12 rfl rfl .none (Kn.ex_load fh12 (.tmp rfl)) fun Ko hKo => ?_;go_simp;(try go_bits);refine hKo _ _ fun fa13 fh13 => ?_;clear hKo Ko fh12 fa12;refine Kn.pure fh13 rfl rfl .none (Kn.ex_move fh13 (.tmp rfl)) fun fa14 fh14 => ?_;clear fh13 fa13;refine Kn.pure fh14 rfl rfl .none (Kn.ex_move fh14 (.tmp rfl)) fun fa15 fh15 => ?_;clear fh14 fa14;refine Kn.step fh15 rfl rfl .none (Kn.ex_indexAddr fh15 (.tmp rfl) (.tmp rfl)) fun Ko hKo => ?_;go_simp;(try go_bits);refine hKo _ _ fun fa16 fh16 => ?_;clear hKo Ko fh15 fa15;refine Kn.stepU fh16 rfl .none (Kn.ex_store fh16 (.tmp rfl) (.tmp rfl)) fun Ko hKo => ?_;rw [hst];refine hKo _ ?_;clear hKo Ko;refine wpList_nil ?_;refine hK11 _ _ ?_;clear hK11 K11;replace fh16 := fh16.cut (.cons (t := 7) rfl (.cons (t := 16) rfl (.cons (t := 15) rfl (.cons (t := 5) rfl (.cons (t := 6) rfl (.cons (t := 1) rfl .nil))))));clear hst c0;refine wp_block ?_;refine Kn.loop (fun m fr v => ∃ (a : Nat), Kn.Kn 54 [(6, .int .i64 (a : Int)), (7, .int .i64 (k : Int)), (16, .int .i64 (k : Int)), (15, .int .i64 (N : Int)), (5, .pointer (some ⟨g5, 0, none⟩)), (1, .slice A ys.length ca)] fr ∧ a + m = ys.length ∧ (b0 ≤ a ∧ a ≤ b1) ∧ Hid (Below w.heap.size w v) ∧ Hid (RMem v w.heap.size g5 gb5 gt5 N ys.length (bk ys N k1) (tz ys a))) (ys.length - b0) ⟨b0, fh16.cut (.cons (t := 6) rfl (.cons (t := 7) rfl (.cons (t := 16) rfl (.cons (t := 15) rfl (.cons (t := 5) rfl (.cons (t := 1) rfl .nil)))))), by omega, ⟨by omega, hb1⟩, HB2, HM2⟩ ?_;clear fh16 fa16;intro m12 fa17 v hI Kl12 hKl12;obtain ⟨a, fh17, ha, hab, HBv, HMv⟩ := hI
    by_cases hal : a < ys.length
    · obtain ⟨ba, oa, rfl, -, ca1, ca2⟩ := (HA.out.on HBv.out) a hal;have hlo := bgn_at hs (k : Int) a hal;have hhi := bgn_at hs (k1 : Int) a hal;rw [HB0.out] at hlo;rw [HBB.out] at hhi;have hset := tz_set ys a hal;obtain ⟨x1, hx1⟩ : ∃ x, (ed ys a).1 = x := ⟨_, rfl⟩;obtain ⟨x2, hx2⟩ : ∃ x, (ed ys a).2 = x := ⟨_, rfl⟩;rw [hx1] at ca1 hlo hhi;rw [hx2] at ca2 hset;clear hx1 hx2
      by_cases e1 : x1 = (k : Int)
      · have q1 : (x1 == (k : Int)) = true := by simp [e1]
        have ha1 : a + 1 ≤ b1 := by omega
        obtain ⟨v2, hst, hM3, hB3⟩ := HMv.out.drew.storeT a (by rw [tz_len ys a (by omega)]; exact hal) x2;rw [hset] at hM3;have HM3 := Lib.hid hM3;have HB3 : Hid (Below w.heap.size w v2) := Lib.hid (HBv.out.drew.trans hB3);have c1 := HMv.out.2.2.2.1.cell 1 rfl;clear e1 hM3 hB3 hset;refine wp_seq_k fun K13 hK13 => ?_;refine wp_seq_k fun K14 hK14 => ?_;refine wp_region_lit ?_;refine Kn.pure fh17 rfl rfl .none (Kn.ex_move fh17 (.tmp rfl)) fun fa18 fh18 => ?_;clear fh17 fa17;refine Kn.pure fh18 rfl rfl .none (Kn.ex_move fh18 (.tmp rfl)) fun fa19 fh19 => ?_;clear fh18 fa18;refine Kn.step fh19 rfl rfl .none (Kn.ex_len fh19 (.tmp rfl)) fun Ko hKo => ?_;go_simp;(try go_bits);refine hKo _ _ fun fa20 fh20 => ?_;clear hKo Ko fh19 fa19;refine Kn.step fh20 rfl rfl .none (Kn.ex_bin fh20 (.tmp rfl) (.tmp rfl)) fun Ko hKo => ?_;go_simp;(try go_bits);refine hKo _ _ fun fa21 fh21 => ?_;clear hKo Ko fh20 fa20;refine Kn.pure fh21 rfl rfl .none (Kn.ex_move fh21 (.tmp rfl)) fun fa22 fh22 => ?_;clear fh21 fa21;refine Kn.pure fh22 rfl rfl (.some rfl rfl rfl) (Kn.ex_move fh22 (.tmp rfl)) fun fa23 fh23 => ?_;clear fh22 fa22;refine Kn.pure fh23 rfl rfl (.some rfl rfl rfl) (Kn.ex_move fh23 (.tmp rfl)) fun fa24 fh24 => ?_;clear fh23 fa23;refine Kn.step fh24 rfl rfl (.some rfl rfl rfl) (Kn.ex_indexAddr fh24 (.tmp rfl) (.tmp rfl)) fun Ko hKo => ?_;go_simp;(try go_bits);refine hKo _ _ fun fa25 fh25 => ?_;clear hKo Ko fh24 fa24;refine Kn.step fh25 rfl rfl (.some rfl rfl rfl) (Kn.ex_fieldAddr fh25 (.tmp rfl)) fun Ko hKo => ?_;go_simp;(try go_bits);refine hKo _ _ fun fa26 fh26 => ?_;clear hKo Ko fh25 fa25;refine Kn.step fh26 rfl rfl (.some rfl rfl rfl) (Kn.ex_load fh26 (.tmp rfl)) fun Ko hKo => ?_;go_simp;(try go_bits);refine hKo _ _ fun fa27 fh27 => ?_;clear hKo Ko fh26 fa26;refine Kn.pure fh27 rfl rfl (.some rfl rfl rfl) (Kn.ex_move fh27 (.tmp rfl)) fun fa28 fh28 => ?_;clear fh27 fa27;refine Kn.step fh28 rfl rfl (.some rfl rfl rfl) (Kn.ex_bin fh28 (.tmp rfl) (.tmp rfl)) fun Ko hKo => ?_;go_simp;(try go_bits);refine hKo _ _ fun fa29 fh29 => ?_;clear hKo Ko fh28 fa28;refine Kn.pure fh29 rfl rfl .none (Kn.ex_pick fh29 (.tmp rfl) (.tmp rfl)) fun fa30 fh30 => ?_;clear fh29 fa29;refine wpList_nil ?_;refine hK14 _ _ ?_;clear hK14 K14;replace fh30 := fh30.cut (.cons (t := 38) rfl (.cons (t := 6) rfl (.cons (t := 7) rfl (.cons (t := 16) rfl (.cons (t := 15) rfl (.cons (t := 5) rfl (.cons (t := 1) rfl .nil)))))));refine Kn.yes fh30 (.tmp rfl) ?_;refine wp_skip ?_;refine hK13 _ _ ?_;clear hK13 K13;replace fh30 := fh30.cut (.cons (t := 6) rfl (.cons (t := 7) rfl (.cons (t := 16) rfl (.cons (t := 15) rfl (.cons (t := 5) rfl (.cons (t := 1) rfl .nil))))));refine wp_block ?_;refine wp_seq_k fun K15 hK15 => ?_;refine Kn.tail 11 (by kernel_rfl) (by kernel_rfl) rfl rfl ?_;refine Kn.spure fh30 rfl rfl .none (Kn.ex_move fh30 (.tmp rfl)) fun fa31 fh31 => ?_;clear fh30 fa30;refine Kn.spure fh31 rfl rfl .none (Kn.ex_nilCheck fh31 (.tmp rfl)) fun fa32 fh32 => ?_;clear fh31 fa31;refine Kn.sstep fh32 rfl rfl .none (Kn.ex_fieldAddr fh32 (.tmp rfl)) fun Ko hKo => ?_;go_simp;(try go_bits);refine hKo _ fun fa33 fh33 => ?_;clear hKo Ko fh32 fa32;refine Kn.sstep fh33 rfl rfl .none (Kn.ex_load fh33 (.tmp rfl)) fun Ko hKo => ?_;go_simp;(try go_bits);refine hKo _ fun fa34 fh34 => ?_;clear hKo Ko fh33 fa33;refine Kn.spure fh34 rfl rfl .none (Kn.ex_move fh34 (.tmp rfl)) fun fa35 fh35 => ?_;clear fh34 fa34;refine Kn.spure fh35 rfl rfl .none (Kn.ex_move fh35 (.tmp rfl)) fun fa36 fh36 => ?_;clear fh35 fa35;refine Kn.spure fh36 rfl rfl .none (Kn.ex_move fh36 (.tmp rfl)) fun fa37 fh37 => ?_;clear fh36 fa36;refine Kn.sstep fh37 rfl rfl .none (Kn.ex_indexAddr fh37 (.tmp rfl) (.tmp rfl)) fun Ko hKo => ?_;go_simp;(try go_bits);refine hKo _ fun fa38 fh38 => ?_;clear hKo Ko fh37 fa37;refine Kn.sstep fh38 rfl rfl .none (Kn.ex_fieldAddr fh38 (.tmp rfl)) fun Ko hKo => ?_;go_simp;(try go_bits);refine hKo _ fun fa39 fh39 => ?_;clear hKo Ko fh38 fa38;refine Kn.sstep fh39 rfl rfl .none (Kn.ex_load fh39 (.tmp rfl)) fun Ko hKo => ?_;go_simp;(try go_bits);refine hKo _ fun fa40 fh40 => ?_;clear hKo Ko fh39 fa39;refine Kn.sstep fh40 rfl rfl .none (Kn.ex_indexAddr fh40 (.tmp rfl) (.tmp rfl)) fun Ko hKo => ?_;go_simp;(try go_bits);refine hKo _ fun fa41 fh41 => ?_;clear hKo Ko fh40 fa40;refine wpStill_nil ?_;refine Kn.stepU fh41 rfl .none (Kn.ex_store fh41 (.tmp rfl) (.tmp rfl)) fun Ko hKo => ?_;rw [hst];refine hKo _ ?_;clear hKo Ko;refine wpList_nil ?_;refine hK15 _ _ ?_;clear hK15 K15;replace fh41 := fh41.cut (.cons (t := 6) rfl (.cons (t := 7) rfl (.cons (t := 16) rfl (.cons (t := 15) rfl (.cons (t := 5) rfl (.cons (t := 1) rfl .nil))))));clear hst c1;refine wp_region_lit ?_;refine Kn.pure fh41 rfl rfl .none (Kn.ex_move fh41 (.tmp rfl)) fun fa42 fh42 => ?_;clear fh41 fa41;refine Kn.step fh42 rfl rfl .none (Kn.ex_bin fh42 (.tmp rfl) .const) fun Ko hKo => ?_;go_simp;(try go_bits);refine hKo _ _ fun fa43 fh43 => ?_;clear hKo Ko fh42 fa42;refine Kn.pure fh43 rfl rfl .none (Kn.ex_assign fh43 (.tmp rfl)) fun fa44 fh44 => ?_;clear fh43 fa43;refine wpList_nil ?_;refine Kn.block_normal ?_;replace fh44 := fh44.cut (.cons (t := 6) rfl (.cons (t := 7) rfl (.cons (t := 16) rfl (.cons (t := 15) rfl (.cons (t := 5) rfl (.cons (t := 1) rfl .nil))))));exact hKl12 (m12 - 1) _ _ (by omega) ⟨a + 1, fh44.cut (.turn (t := 6) rfl (by go_num) (.cons (t := 7) rfl (.cons (t := 16) rfl (.cons (t := 15) rfl (.cons (t := 5) rfl (.cons (t := 1) rfl .nil)))))), by omega, ⟨by omega, ha1⟩, HB3, HM3⟩
      · have q1 : (x1 == (k : Int)) = false := by simp [e1]
        obtain rfl : a = b1 := by omega
        clear e1 hset;refine wp_seq_k fun K13 hK13 => ?_;refine wp_seq_k fun K14 hK14 => ?_;refine wp_region_lit ?_;refine Kn.pure fh17 rfl rfl .none (Kn.ex_move fh17 (.tmp rfl)) fun fa18 fh18 => ?_;clear fh17 fa17;refine Kn.pure fh18 rfl rfl .none (Kn.ex_move fh18 (.tmp rfl)) fun fa19 fh19 => ?_;clear fh18 fa18;refine Kn.step fh19 rfl rfl .none (Kn.ex_len fh19 (.tmp rfl)) fun Ko hKo => ?_;go_simp;(try go_bits);refine hKo _ _ fun fa20 fh20 => ?_;clear hKo Ko fh19 fa19;refine Kn.step fh20 rfl rfl .none (Kn.ex_bin fh20 (.tmp rfl) (.tmp rfl)) fun Ko hKo => ?_;go_simp;(try go_bits);refine hKo _ _ fun fa21 fh21 => ?_;clear hKo Ko fh20 fa20;refine Kn.pure fh21 rfl rfl .none (Kn.ex_move fh21 (.tmp rfl)) fun fa22 fh22 => ?_;clear fh21 fa21;refine Kn.pure fh22 rfl rfl (.some rfl rfl rfl) (Kn.ex_move fh22 (.tmp rfl)) fun fa23 fh23 => ?_;clear fh22 fa22;refine Kn.pure fh23 rfl rfl (.some rfl rfl rfl) (Kn.ex_move fh23 (.tmp rfl)) fun fa24 fh24 => ?_;clear fh23 fa23;refine Kn.step fh24 rfl rfl (.some rfl rfl rfl) (Kn.ex_indexAddr fh24 (.tmp rfl) (.tmp rfl)) fun Ko hKo => ?_;go_simp;(try go_bits);refine hKo _ _ fun fa25 fh25 => ?_;clear hKo Ko fh24 fa24;refine Kn.step fh25 rfl rfl (.some rfl rfl rfl) (Kn.ex_fieldAddr fh25 (.tmp rfl)) fun Ko hKo => ?_;go_simp;(try go_bits);refine hKo _ _ fun fa26 fh26 => ?_;clear hKo Ko fh25 fa25;refine Kn.step fh26 rfl rfl (.some rfl rfl rfl) (Kn.ex_load fh26 (.tmp rfl)) fun Ko hKo => ?_;go_simp;(try go_bits);refine hKo _ _ fun fa27 fh27 => ?_;clear hKo Ko fh26 fa26;refine Kn.pure fh27 rfl rfl (.some rfl rfl rfl) (Kn.ex_move fh27 (.tmp rfl)) fun fa28 fh28 => ?_;clear fh27 fa27;refine Kn.step fh28 rfl rfl (.some rfl rfl rfl) (Kn.ex_bin fh28 (.tmp rfl) (.tmp rfl)) fun Ko hKo => ?_;go_simp;(try go_bits);refine hKo _ _ fun fa29 fh29 => ?_;clear hKo Ko fh28 fa28;refine Kn.pure fh29 rfl rfl .none (Kn.ex_pick fh29 (.tmp rfl) (.tmp rfl)) fun fa30 fh30 => ?_;clear fh29 fa29;refine wpList_nil ?_;refine hK14 _ _ ?_;clear hK14 K14;replace fh30 := fh30.cut (.cons (t := 38) rfl (.cons (t := 6) rfl (.cons (t := 7) rfl (.cons (t := 16) rfl (.cons (t := 15) rfl (.cons (t := 5) rfl (.cons (t := 1) rfl .nil)))))));refine Kn.no fh30 (.tmp rfl) ?_;replace fh30 := fh30.cut (.cons (t := 6) rfl (.cons (t := 7) rfl (.cons (t := 16) rfl (.cons (t := 15) rfl (.cons (t := 5) rfl (.cons (t := 1) rfl .nil))))));refine wp_exit ?_;refine Kn.then_exit ?_;clear hK13 K13;refine Kn.then_exit ?_;clear hKl12 Kl12;refine Kn.block_exit ?_;refine Kn.block_normal ?_;refine hK9 _ _ ?_;clear hK9 K9;replace fh30 := fh30.cut (.cons (t := 6) rfl (.cons (t := 16) rfl (.cons (t := 15) rfl (.cons (t := 5) rfl (.cons (t := 1) rfl .nil)))));clear ca1 ca2 q1;refine wp_region_lit ?_;refine Kn.step fh30 rfl rfl .none (Kn.ex_bin fh30 (.tmp rfl) .const) fun Ko hKo => ?_;go_simp;(try go_bits);refine hKo _ _ fun fa31 fh31 => ?_;clear hKo Ko fh30 fa30;refine Kn.pure fh31 rfl rfl .none (Kn.ex_move fh31 (.tmp rfl)) fun fa32 fh32 => ?_;clear fh31 fa31;refine wpList_nil ?_;replace fh32 := fh32.cut (.cons (t := 16) rfl (.cons (t := 6) rfl (.cons (t := 15) rfl (.cons (t := 5) rfl (.cons (t := 1) rfl .nil)))));exact hKl6 (m6 - 1) _ _ (by omega) ⟨k1, fh32.cut (.turn (t := 16) rfl (by rw [← r1]) (.cons (t := 15) rfl (.cons (t := 5) rfl (.turn (t := 6) rfl (by rw [HBB.out]) (.cons (t := 1) rfl .nil))))), by omega, HBv, Lib.hid (by rw [HBB.out]; exact HMv.out)⟩
    · obtain rfl : a = b1 := by omega
      refine wp_seq_k fun K13 hK13 => ?_;refine wp_seq_k fun K14 hK14 => ?_;refine wp_region_lit ?_;refine Kn.pure fh17 rfl rfl .none (Kn.ex_move fh17 (.tmp rfl)) fun fa18 fh18 => ?_;clear fh17 fa17;refine Kn.pure fh18 rfl rfl .none (Kn.ex_move fh18 (.tmp rfl)) fun fa19 fh19 => ?_;clear fh18 fa18;refine Kn.step fh19 rfl rfl .none (Kn.ex_len fh19 (.tmp rfl)) fun Ko hKo => ?_;go_simp;(try go_bits);refine hKo _ _ fun fa20 fh20 => ?_;clear hKo Ko fh19 fa19;refine Kn.step fh20 rfl rfl .none (Kn.ex_bin fh20 (.tmp rfl) (.tmp rfl)) fun Ko hKo => ?_;go_simp;(try go_bits);refine hKo _ _ fun fa21 fh21 => ?_;clear hKo Ko fh20 fa20;refine Kn.pure fh21 rfl rfl .none (Kn.ex_move fh21 (.tmp rfl)) fun fa22 fh22 => ?_;clear fh21 fa21;refine Kn.skip fh22 rfl rfl (.some rfl rfl rfl) fun fa23 fh23 => ?_;clear fh22 fa22;refine Kn.skip fh23 rfl rfl (.some rfl rfl rfl) fun fa24 fh24 => ?_;clear fh23 fa23;refine Kn.skip fh24 rfl rfl (.some rfl rfl rfl) fun fa25 fh25 => ?_;clear fh24 fa24;refine Kn.skip fh25 rfl rfl (.some rfl rfl rfl) fun fa26 fh26 => ?_;clear fh25 fa25;refine Kn.skip fh26 rfl rfl (.some rfl rfl rfl) fun fa27 fh27 => ?_;clear fh26 fa26;refine Kn.skip fh27 rfl rfl (.some rfl rfl rfl) fun fa28 fh28 => ?_;clear fh27 fa27;refine Kn.skip fh28 rfl rfl (.some rfl rfl rfl) fun fa29 fh29 => ?_;clear fh28 fa28;refine Kn.pure fh29 rfl rfl .none (Kn.ex_pick fh29 (.tmp rfl) .const) fun fa30 fh30 => ?_;clear fh29 fa29;refine wpList_nil ?_;refine hK14 _ _ ?_;clear hK14 K14;replace fh30 := fh30.cut (.cons (t := 38) rfl (.cons (t := 6) rfl (.cons (t := 7) rfl (.cons (t := 16) rfl (.cons (t := 15) rfl (.cons (t := 5) rfl (.cons (t := 1) rfl .nil)))))));refine Kn.no fh30 (.tmp rfl) ?_;replace fh30 := fh30.cut (.cons (t := 6) rfl (.cons (t := 7) rfl (.cons (t := 16) rfl (.cons (t := 15) rfl (.cons (t := 5) rfl (.cons (t := 1) rfl .nil))))));refine wp_exit ?_;refine Kn.then_exit ?_;clear hK13 K13;refine Kn.then_exit ?_;clear hKl12 Kl12;refine Kn.block_exit ?_;refine Kn.block_normal ?_;refine hK9 _ _ ?_;clear hK9 K9;replace fh30 := fh30.cut (.cons (t := 6) rfl (.cons (t := 16) rfl (.cons (t := 15) rfl (.cons (t := 5) rfl (.cons (t := 1) rfl .nil)))));refine wp_region_lit ?_;refine Kn.step fh30 rfl rfl .none (Kn.ex_bin fh30 (.tmp rfl) .const) fun Ko hKo => ?_;go_simp;(try go_bits);refine hKo _ _ fun fa31 fh31 => ?_;clear hKo Ko fh30 fa30;refine Kn.pure fh31 rfl rfl .none (Kn.ex_move fh31 (.tmp rfl)) fun fa32 fh32 => ?_;clear fh31 fa31;refine wpList_nil ?_;replace fh32 := fh32.cut (.cons (t := 16) rfl (.cons (t := 6) rfl (.cons (t := 15) rfl (.cons (t := 5) rfl (.cons (t := 1) rfl .nil)))));exact hKl6 (m6 - 1) _ _ (by omega) ⟨k1, fh32.cut (.turn (t := 16) rfl (by rw [← r1]) (.cons (t := 15) rfl (.cons (t := 5) rfl (.turn (t := 6) rfl (by rw [HBB.out]) (.cons (t := 1) rfl .nil))))), by omega, HBv, Lib.hid (by rw [HBB.out]; exact HMv.out)⟩
  · obtain rfl : k = N := by omega
    refine wp_seq_k fun K7 hK7 => ?_;refine wp_region_lit ?_;refine Kn.step fh6 rfl rfl .none (Kn.ex_bin fh6 (.tmp rfl) (.tmp rfl)) fun Ko hKo => ?_;go_simp;(try go_bits);refine hKo _ _ fun fa7 fh7 => ?_;clear hKo Ko fh6 fa6;refine wpList_nil ?_;refine hK7 _ _ ?_;clear hK7 K7;refine wp_seq_k fun K8 hK8 => ?_;refine Kn.no fh7 (.tmp rfl) ?_;replace fh7 := fh7.cut (.cons (t := 16) rfl (.cons (t := 15) rfl (.cons (t := 5) rfl (.cons (t := 6) rfl (.cons (t := 1) rfl .nil)))));refine wp_exit ?_;refine Kn.then_exit ?_;clear hK8 K8;refine Kn.then_exit ?_;clear hKl6 Kl6;refine Kn.block_exit ?_;refine hK4 _ _ ?_;clear hK4 K4;replace fh7 := fh7.cut (.cons (t := 5) rfl .nil);refine wp_seq_k fun K9 hK9 => ?_;refine wp_region_lit ?_;refine Kn.pure fh7 rfl rfl .none (Kn.ex_move fh7 (.tmp rfl)) fun fa8 fh8 => ?_;clear fh7 fa7;refine Kn.pure fh8 rfl rfl .none (Kn.ex_assign fh8 (.tmp rfl)) fun fa9 fh9 => ?_;clear fh8 fa8;refine wpList_nil ?_;refine hK9 _ _ ?_;clear hK9 K9;replace fh9 := fh9.cut (.cons (t := 4) rfl .nil);refine wp_ret ?_
    exact Kn.ret1 fh9 rfl rfl ⟨g5, rfl, ⟨hs, hg, by
      have hM := HM.out;rw [bk_end, bgn_N hg, tz_end] at hM
      exact ⟨gb5, gt5, hM.1, hM.2.1, hM.2.2.2.1, hM.2.2.2.2.1, hM.2.2.2.2.2⟩⟩, HB.out⟩
set_option maxRecDepth 100000 in
set_option maxHeartbeats 2000000 in
theorem build_yes (N : Nat) (A : Option Addr) (ca : Nat) (xs : List (Int × Int)) (w : World) (hA : EIn w A xs) (hg : Edg.Good (N : Int) xs) :
    Calls Tryz.prog 28 #[.int .i64 (N : Int), .slice A xs.length ca] w fun e w' => ∃ g ys, e = .returned (.tuple #[.pointer (some ⟨g, 0, none⟩), .nilIface]) ∧ NormOf xs ys ∧ Rep w' w.heap.size g N ys ∧ Below w.heap.size w w' := by
  refine Kn.calls Tryz.func28 rfl Tryz.ntmps28 rfl (.cons (t := 0) rfl (.cons (t := 1) rfl .nil)) fun fa0 fh0 => ?_;refine wp_seq_k fun K1 hK1 => ?_;refine wp_region_lit ?_;refine Kn.pure fh0 rfl rfl .none (Kn.ex_assign fh0 .const) fun fa1 fh1 => ?_;clear fh0 fa0;refine Kn.pure fh1 rfl rfl .none (Kn.ex_assign fh1 .const) fun fa2 fh2 => ?_;clear fh1 fa1;refine wpList_nil ?_;refine hK1 _ _ ?_;clear hK1 K1;refine wp_seq_k fun K2 hK2 => ?_;refine wp_region_lit ?_;refine Kn.pure fh2 rfl rfl .none (Kn.ex_move fh2 (.tmp rfl)) fun fa3 fh3 => ?_;clear fh2 fa2;refine Kn.pure fh3 rfl rfl .none (Kn.ex_move fh3 (.tmp rfl)) fun fa4 fh4 => ?_;clear fh3 fa3;refine Kn.call fh4 rfl rfl .none (Kn.ex_call fh4 (.cons (.tmp rfl) (.cons (.tmp rfl) .nil))) Tryz.call42 (norm_yes (N : Int) A ca xs w hA hg) fun e w1 hp => ?_;obtain ⟨A', n', c', ys, rfl, rfl, hNo, hE, hb1⟩ := hp;refine ⟨_, rfl, fun fa5 fh5 => ?_⟩;clear fh4 fa4;refine Kn.pure fh5 rfl rfl .none (Kn.ex_move fh5 (.tmp rfl)) fun fa6 fh6 => ?_;clear fh5 fa5;refine Kn.pure fh6 rfl rfl .none (Kn.ex_extract fh6 (.tmp rfl) rfl) fun fa7 fh7 => ?_;clear fh6 fa6;refine Kn.pure fh7 rfl rfl .none (Kn.ex_extract fh7 (.tmp rfl) rfl) fun fa8 fh8 => ?_;clear fh7 fa7;refine Kn.pure fh8 rfl rfl .none (Kn.ex_assign fh8 (.tmp rfl)) fun fa9 fh9 => ?_;clear fh8 fa8;refine Kn.pure fh9 rfl rfl .none (Kn.ex_assign fh9 (.tmp rfl)) fun fa10 fh10 => ?_;clear fh9 fa9;refine wpList_nil ?_;refine hK2 _ _ ?_;clear hK2 K2;replace fh10 := fh10.cut (.cons (t := 7) rfl (.cons (t := 6) rfl (.cons (t := 5) rfl (.cons (t := 4) rfl (.cons (t := 0) rfl .nil)))));have hr := rows_any N A' c' ys w1 hNo.srt (hNo.good hg) hE;refine wp_seq_k fun K3 hK3 => ?_;refine wp_seq_k fun K4 hK4 => ?_;refine wp_region_lit ?_;refine Kn.pure fh10 rfl rfl .none (Kn.ex_move fh10 (.tmp rfl)) fun fa11 fh11 => ?_;clear fh10 fa10;refine Kn.step fh11 rfl rfl .none (Kn.ex_bin fh11 (.tmp rfl) .const) fun Ko hKo => ?_;go_simp;(try go_bits);refine hKo _ _ fun fa12 fh12 => ?_;clear hKo Ko fh11 fa11;refine wpList_nil ?_;refine hK4 _ _ ?_;clear hK4 K4;replace fh12 := fh12.cut (.cons (t := 15) rfl (.cons (t := 7) rfl (.cons (t := 6) rfl (.cons (t := 5) rfl (.cons (t := 4) rfl (.cons (t := 0) rfl .nil))))));refine Kn.no fh12 (.tmp rfl) ?_;refine wp_skip ?_;refine hK3 _ _ ?_;clear hK3 K3;replace fh12 := fh12.cut (.cons (t := 6) rfl (.cons (t := 5) rfl (.cons (t := 4) rfl (.cons (t := 0) rfl .nil))));refine wp_seq_k fun K5 hK5 => ?_;refine wp_region_lit ?_;refine Kn.pure fh12 rfl rfl .none (Kn.ex_move fh12 (.tmp rfl)) fun fa13 fh13 => ?_;clear fh12 fa12;refine Kn.pure fh13 rfl rfl .none (Kn.ex_move fh13 (.tmp rfl)) fun fa14 fh14 => ?_;clear fh13 fa13;refine Kn.call fh14 rfl rfl .none (Kn.ex_call fh14 (.cons (.tmp rfl) (.cons (.tmp rfl) .nil))) Tryz.call43 (hr) fun e w2 hp => ?_;obtain ⟨g, rfl, hR, hb2⟩ := hp;refine ⟨_, rfl, fun fa15 fh15 => ?_⟩;clear fh14 fa14;refine Kn.pure fh15 rfl rfl .none (Kn.ex_assign fh15 (.tmp rfl)) fun fa16 fh16 => ?_;clear fh15 fa15;refine Kn.pure fh16 rfl rfl .none (Kn.ex_assign fh16 .const) fun fa17 fh17 => ?_;clear fh16 fa16;refine wpList_nil ?_;refine hK5 _ _ ?_;clear hK5 K5;replace fh17 := fh17.cut (.cons (t := 5) rfl (.cons (t := 4) rfl .nil));refine wp_ret ?_;exact Kn.ret2 fh17 rfl rfl rfl ⟨g, ys, rfl, hNo, ⟨hR.srt, hR.good, by obtain ⟨gb, gt, h1, h2⟩ := hR.mem; have := hb1.size; exact ⟨gb, gt, ⟨by omega, by omega, by omega⟩, h2⟩⟩, hb1.trans (hb2.mono hb1.size)⟩
end Go.Proofs.YtbahklpdldghbaaGreatDoor.Csr
end
section
namespace Go.Proofs.YtbahklpdldghbaaGreatDoor.Shd
open Go Go.RowKit Go.Lib Oct Num Gap RowG Edg Csr
structure AInv (w0 w : World) (XC : Array Value) (o : Option Nat) (u : World) (A : Option Addr) (n cap : Nat) (es : List (Int × Int)) : Prop where
  own : OwnE u w0.heap.size A n cap es
  away : ∀ b, (Value.slice A n cap).ownBlock = some b → o = some b ∨ w.heap.size < b
  but : But (fun b => o = some b) w u
  st : St.St u w.heap.size 102 XC
  below : Below w0.heap.size w0 u
theorem AInv.start {w0 w : World} {XC : Array Value} {A : Option Addr} {n cap : Nat} {es : List (Int × Int)} (hO : OwnE w w0.heap.size A n cap es) (hb : Below w0.heap.size w0 w) : AInv w0 w XC (Value.slice A n cap).ownBlock (w.alloc (.cells XC 102)) A n cap es :=
  ⟨hO.alloc _, fun _ h => .inl h, But.of_below ((Below.refl _ w).alloc (Nat.le_refl _) _), St.St.new _ _ _, hb.alloc hb.size _⟩
theorem AInv.push {w0 w u : World} {XC : Array Value} {o : Option Nat} {A : Option Addr} {n cap : Nat} {es : List (Int × Int)} (h : AInv w0 w XC o u A n cap es) (ho : ∀ b, o = some b → b < w.heap.size) (ty : TypeId) (e : Int × Int) (hn : n ≤ 100000) :
    ∃ g' cap' v', (Builtin.append_ #[65, 65] ty #[.slice A n cap, .slice (some ⟨u.heap.size, 0, none⟩) 1 1]).run Tryz.prog (u.alloc (.cells #[.int .i64 e.1, .int .i64 e.2] 134)) = .ok (.slice (some ⟨g', 0, none⟩) (n + 1) cap') v' ∧
      AInv w0 w XC o v' (some ⟨g', 0, none⟩) (n + 1) cap' (es ++ [e]) := by
  obtain ⟨g', cap', v', h1, h2, h3, h4⟩ := Edg.push1 w0 u ty A n cap es e h.own h.below hn;have hal : Below u.heap.size u (u.alloc (.cells #[.int .i64 e.1, .int .i64 e.2] 134)) := (Below.refl _ u).alloc (Nat.le_refl _) _;have hsz : (u.alloc (.cells #[.int .i64 e.1, .int .i64 e.2] 134)).heap.size = u.heap.size + 1 := by simp
  have hbl : ∀ b, b < u.heap.size → (Value.slice A n cap).ownBlock ≠ some b → v'.heap[b]? = u.heap[b]? := fun b hb hne => (h4.grown.block b (by rw [hsz]; omega) (fun e => hne e.symm)).trans (hal.block b hb);have hwu := h.but.size;have hst := h.st.lt;refine ⟨g', cap', v', h1, h2, fun b hb => ?_, ⟨Nat.le_trans hwu (Nat.le_trans hal.size h4.size), fun b hb hn => ?_⟩, ?_, h3⟩
  · have e1 : g' = b := by simpa [Value.ownBlock] using hb
    subst e1;rcases h4.at' with q | q
    · exact h.away _ q
    · rw [hsz] at q; right; omega
  · refine (hbl b (by omega) (fun q => ?_)).trans (h.but.block b hb hn);rcases h.away b q with r | r
    · exact hn r
    · omega
  · refine (hbl _ hst (fun q => ?_)).trans h.st;rcases h.away _ q with r | r
    · have := ho _ r; omega
    · omega
theorem tx_cell {w : World} {A : Option Addr} {ts : List ByteArray} (h : RIn txR w A ts) {k : Nat} {s : ByteArray} (hk : ts[k]? = some s) : ∃ b o, A = some ⟨b, o, none⟩ ∧ b < w.heap.size ∧ w.cell? ⟨b, o + k, none⟩ = some (.string s) := by
  obtain ⟨b, o, h1, h2, h3⟩ := h k s hk;have h4 := h3 0 (.string s) rfl;have e : o + (k * txR.size + 0) = o + k := by show o + (k * 1 + 0) = _; omega
  rw [e] at h4;exact ⟨b, o, h1, h2, h4⟩
theorem Rep.mono {w : World} {B B' g N : Nat} {ys : List (Int × Int)} (h : Rep w B g N ys) (hB : B' ≤ B) : Rep w B' g N ys := ⟨h.srt, h.good, by
  obtain ⟨gb, gt, h1, h2⟩ := h.mem
  exact ⟨gb, gt, by omega, h2⟩⟩
def tabF (F : Nat → Int) (ts : List ByteArray) (k : Nat) : List (Int × Int) := (List.range k).map fun j => (F j, ((ts.getD j ⟨#[]⟩).size : Int))
theorem tabF_len (F : Nat → Int) (ts : List ByteArray) (k : Nat) : (tabF F ts k).length = k := by simp [tabF]
theorem tabF_succ (F : Nat → Int) (ts : List ByteArray) (k : Nat) : tabF F ts (k + 1) = tabF F ts k ++ [(F k, ((ts.getD k ⟨#[]⟩).size : Int))] := by simp [tabF, List.range_succ]
set_option maxRecDepth 100000 in
set_option maxHeartbeats 8000000 in
theorem table_yes (A : Option Addr) (ca N i : Nat) (ts : List ByteArray) (F : Nat → Int) (L : Nat → List (List Int)) (w : World) (hN : N ≤ 4096) (hl : ts.length ≤ 100000) (hA : RIn txR w A ts) (hg : ∀ k s, k < i → ts[k]? = some s → s.size ≤ maxLen ∧ gsG s (N : Int) = .inr (F k, L k)) (hi : i = ts.length) :
    Calls Tryz.prog 30 #[.int .i64 (N : Int), .slice A ts.length ca] w fun e w' => ∃ gt, e = .returned (.tuple #[.slice (some ⟨gt, 0, none⟩) ts.length ts.length, .nilIface]) ∧ Hold ipR w' gt (tabF F ts ts.length) ∧ w.heap.size ≤ gt ∧ Below w.heap.size w w' := by
  refine Kn.Z.cl Tryz.func30 rfl Tryz.ntmps30 rfl (.c 0 rfl (.c 1 rfl .n)) ?_;have HA := Lib.hid hA;have HG := Lib.hid hg;clear hA hg;refine Kn.Z.f fun K1 hK1=>?_;refine Kn.Z.u (.a .c (.a .c .n)) ?_;refine Kn.Z.e hK1 ?_;clear hK1 K1;obtain ⟨w5, hmk, hO5, hb5⟩ := makeG (P := Tryz.prog) ipR elemSh (0, 0) rfl w ts.length (by show ts.length * 2 ≤ _; omega) (by omega) (by omega);refine Kn.Z.f fun K2 hK2=>?_;refine Kn.Z.u (.m (.t rfl) .n) ?_;refine Kn.Z.s .o (.len (.t rfl)) fun Ko Kp=>?_;go_simp;(try go_bits);refine Kp _ _ ?_;clear Kp Ko;refine Kn.Z.k .o (.makeSlice (.t rfl) (.t rfl)) hmk ?_;refine Kn.Z.u (.a (.t rfl) .n) ?_;refine Kn.Z.e hK2 ?_;clear hK2 K2;clear hmk;obtain ⟨gt, hgt0⟩ : ∃ g, w.heap.size = g := ⟨_, rfl⟩;have hgw : w.heap.size ≤ gt := by omega
  intro fa fh;rw [hgt0] at hO5 fh;have HF5 : Hid (Fill ipR (0, 0) w5 gt ts.length (tabF F ts 0)) := Lib.hid (Fill.start hO5);have HB5 := Lib.hid hb5;clear hO5 hb5 hgt0
  revert fa
  refine Kn.Z.q fun K3 hK3=>?_;refine Kn.Z.f fun K4 hK4=>?_;refine Kn.Z.u (.m (.t rfl) .n) ?_;refine Kn.Z.s .o (.len (.t rfl)) fun Ko Kp=>?_;go_simp;(try go_bits);refine Kp _ _ ?_;clear Kp Ko;refine Kn.Z.u (.m .c .n) ?_;refine Kn.Z.e hK4 ?_;clear hK4 K4;refine Kn.Z.b ?_;intro fb fg;refine Kn.loop (fun m fr u => ∃ (k : Nat), Kn.Kn 42 [(16, .int .i64 (k : Int)), (15, .int .i64 (ts.length : Int)), (14, .slice A ts.length ca), (6, .slice (some ⟨gt, 0, none⟩) ts.length ts.length), (0, .int .i64 (N : Int))] fr ∧ k + m = ts.length ∧ k ≤ i ∧ Hid (Fill ipR (0, 0) u gt ts.length (tabF F ts k)) ∧ Hid (Below w.heap.size w u)) ts.length ⟨0, fg.cut (.u 16 rfl rfl (.c 15 rfl (.c 14 rfl (.c 6 rfl (.c 0 rfl .n))))), by omega, by omega, HF5, HB5⟩ ?_;clear fg fb;intro m5 fa u hI Kl5 hKl5;obtain ⟨k, fh, hk, hki, HF, HB⟩ := hI;clear HF5 HB5
  by_cases hlt : k < ts.length
  · obtain ⟨s, hs⟩ : ∃ s, ts[k]? = some s := ⟨ts[k], List.getElem?_eq_getElem hlt⟩;obtain ⟨ba, oa, rfl, -, cs⟩ := tx_cell (HA.out.on HB.out) hs;have hki3 : k < i := by omega
    obtain ⟨hss, hgs⟩ := HG.out k s (by omega) hs;have hszm : s.size ≤ 9223372036854775807 := hss;have HTk : Hid (tabF F ts (k + 1) = tabF F ts k ++ [(F k, (s.size : Int))]) := Lib.hid (by rw [tabF_succ]; simp [List.getD, hs]);have HTl : Hid ((tabF F ts k).length = k) := Lib.hid (tabF_len F ts k);obtain ⟨fk, hfk⟩ : ∃ z, F k = z := ⟨_, rfl⟩;obtain ⟨lk, hlk⟩ : ∃ z, L k = z := ⟨_, rfl⟩;rw [hfk, hlk] at hgs;rw [hfk] at HTk;have hgt := get_any s (N : Int) u hss (by omega) (by omega)
    have hgt2 : Calls Tryz.prog 46 #[.string s, .int .i64 (N : Int)] u fun e w' => ∃ g, e = .returned (.tuple #[.agg #[.int .i64 fk, .slice (some ⟨g, 0, none⟩) lk.length lk.length], .nilIface]) ∧ LSpan w' (some ⟨g, 0, none⟩) lk u.heap.size w'.heap.size ∧ Below u.heap.size u w' := by
      refine hgt.mono fun e w' hc => ?_;obtain ⟨hb, h⟩ := hc;rw [hgs] at h;rcases h with ⟨x', a', he, -, hh⟩ | ⟨f', ls', g, he, hh, h1, h2, h3⟩
      · cases he
      · cases he; exact ⟨g, hh, h1, hb⟩
    clear hgt;clear hgs hs
    revert fa
    refine Kn.Z.f fun K6 hK6=>?_;refine Kn.Z.s .o (.bin (.t rfl) (.t rfl)) fun Ko Kp=>?_;go_simp;(try go_bits);refine Kp _ _ ?_;clear Kp Ko;refine Kn.Z.e hK6 ?_;clear hK6 K6;refine Kn.Z.q fun K7 hK7=>?_;refine Kn.Z.y (.t rfl) ?_;refine Kn.Z.j hK7 ?_;clear hK7 K7;refine Kn.Z.t (.c 16 rfl (.c 15 rfl (.c 14 rfl (.c 6 rfl (.c 0 rfl .n))))) ?_;refine Kn.Z.q fun K8 hK8=>?_;refine Kn.Z.b ?_;refine Kn.Z.f fun K9 hK9=>?_;refine Kn.Z.u (.m (.t rfl) .n) ?_;refine Kn.Z.s .o (.indexAddr (.t rfl) (.t rfl)) fun Ko Kp=>?_;go_simp;(try go_bits);refine Kp _ _ ?_;clear Kp Ko;refine Kn.Z.s .o (.load (.t rfl)) fun Ko Kp=>?_;go_simp;(try go_bits);refine Kp _ _ ?_;clear Kp Ko;refine Kn.Z.u (.a (.t rfl) (.a (.t rfl) .n)) ?_;refine Kn.Z.e hK9 ?_;clear hK9 K9;clear cs;refine Kn.Z.f fun K10 hK10=>?_;refine Kn.Z.u (.m (.t rfl) (.m (.t rfl) .n)) ?_;refine Kn.Z.c .o (.call (.c (.t rfl) (.c (.t rfl) .n))) Tryz.call46 (hgt2) fun e uc hp=>?_;obtain ⟨gq, rfl, hSp, hbc⟩ := hp;refine ⟨_,rfl,?_⟩;obtain ⟨ud, hud⟩ : ∃ q9, uc.alloc (.cells #[.int .i64 0, .slice none 0 0] 102) = q9 := ⟨_, rfl⟩;have hSd := St.St.new uc 102 #[.int .i64 0, .slice none 0 0];have hbd : Below uc.heap.size uc ud := by rw [← hud]; exact (Below.refl _ uc).alloc (Nat.le_refl _) _
    rw [hud] at hSd;obtain ⟨hst, hSe, hBe⟩ := hSd.store (P := Tryz.prog) (cells := #[.int .i64 fk, .slice (some ⟨gq, 0, none⟩) lk.length lk.length]) (by kernel_rfl) rfl (by simp [Value.oneCell']);have hbz1 := (hbc.trans (hbd.mono hbc.size)).trans (hBe _ hbc.size);have hgez1 := hbc.size;have hbC := hbd.trans (hBe _ (Nat.le_refl _));clear hSd hbd hBe;refine Kn.Z.u (.m (.t rfl) (.x (.t rfl) rfl (.x (.t rfl) rfl .n))) ?_;refine Kn.Z.s .o .alloc fun Ko Kp=>?_;go_simp;try rw [hud]
    refine Kp _ _ ?_;clear Kp Ko;refine Kn.Z.su .o (.store (.t rfl) (.t rfl)) fun Ko Kp=>?_;refine Kn.satU_run hst ?_;refine Kp _ ?_;clear Kp Ko;refine Kn.Z.u (.a (.t rfl) .n) ?_;refine Kn.Z.e hK10 ?_;clear hK10 K10;clear hst hud;obtain ⟨z1, hzz⟩ : ∃ q9, ud.setRow uc.heap.size #[.int .i64 fk, .slice (some ⟨gq, 0, none⟩) lk.length lk.length] = q9 := ⟨_, rfl⟩;rw [hzz] at hSe hbz1 hbC;intro fa fh;change Code.wp _ _ _ _ (ud.setRow uc.heap.size #[.int .i64 fk, .slice (some ⟨gq, 0, none⟩) lk.length lk.length]);rw [hzz];clear hzz;have hltz1 := hSe.lt;clear hSp;clear hbC;generalize uc.heap.size = g10 at *;have HSz1 := Lib.hid hSe;clear hSe;clear hgt2
    revert fa
    refine Kn.Z.q fun K11 hK11=>?_;refine Kn.Z.f fun K12 hK12=>?_;refine Kn.Z.u (.m (.t rfl) .n) ?_;refine Kn.Z.s .o (.bin (.t rfl) .c) fun Ko Kp=>?_;go_simp;(try go_bits);refine Kp _ _ ?_;clear Kp Ko;refine Kn.Z.e hK12 ?_;clear hK12 K12;refine Kn.Z.t (.c 28 rfl (.c 10 rfl (.c 9 rfl (.c 8 rfl (.c 7 rfl (.c 16 rfl (.c 15 rfl (.c 14 rfl (.c 6 rfl (.c 0 rfl .n)))))))))) ?_;refine Kn.Z.no (.t rfl) ?_;refine Kn.Z.j hK11 ?_;clear hK11 K11;have c0 := HSz1.out.cell 0 rfl;obtain ⟨u2, hst, hF2, hot, hsz, hbl⟩ := (HF.out.on hbz1).pushM (P := Tryz.prog) (e := 42) (sz := 2) (by rw [HTl.out]; exact hlt) k HTl.out.symm rfl (fk, (s.size : Int)) #[.int .i64 fk, .int .i64 (s.size : Int)] rfl (by kernel_rfl);have HF2 : Hid (Fill ipR (0, 0) u2 gt ts.length (tabF F ts (k + 1))) := Lib.hid (by rw [HTk.out]; exact hF2);have HB2 := Lib.hid ((HB.out.trans (hbz1.mono HB.out.size)).trans (hbl _ hgw));clear hF2 hot hsz hbl;refine Kn.Z.r ?_;refine Kn.Z.u (.m (.t rfl) (.m (.t rfl) .n)) ?_;refine Kn.Z.s .o (.fieldAddr (.t rfl)) fun Ko Kp=>?_;go_simp;(try go_bits);refine Kp _ _ ?_;clear Kp Ko;refine Kn.Z.s .o (.load (.t rfl)) fun Ko Kp=>?_;go_simp;(try go_bits);refine Kp _ _ ?_;clear Kp Ko;refine Kn.Z.u (.m (.t rfl) .n) ?_;refine Kn.Z.s .o (.len (.t rfl)) fun Ko Kp=>?_;go_simp;(try go_bits);refine Kp _ _ ?_;clear Kp Ko;refine Kn.Z.s .o (.build (.c (.t rfl) (.c (.t rfl) .n))) fun Ko Kp=>?_;go_simp;(try go_bits);refine Kp _ _ ?_;clear Kp Ko;refine Kn.Z.s .o (.indexAddr (.t rfl) (.t rfl)) fun Ko Kp=>?_;go_simp;(try go_bits);refine Kp _ _ ?_;clear Kp Ko;refine Kn.Z.su .o (.store (.t rfl) (.t rfl)) fun Ko Kp=>?_;refine Kn.satU_run hst ?_;refine Kp _ ?_;clear Kp Ko;intro fa fh;refine wpList_nil ?_;refine Kn.block_normal ?_;refine hK8 _ _ ?_;clear hK8 K8
    revert fa
    refine Kn.Z.t (.c 16 rfl (.c 15 rfl (.c 14 rfl (.c 6 rfl (.c 0 rfl .n))))) ?_;clear hst c0;refine Kn.Z.r ?_;refine Kn.Z.s .o (.bin (.t rfl) .c) fun Ko Kp=>?_;go_simp;(try go_bits);refine Kp _ _ ?_;clear Kp Ko;refine Kn.Z.u (.m (.t rfl) .n) ?_;intro fa fh;refine wpList_nil ?_;replace fh := fh.cut (.c 16 rfl (.c 15 rfl (.c 14 rfl (.c 6 rfl (.c 0 rfl .n)))));exact hKl5 (m5 - 1) _ _ (by omega) ⟨k + 1, fh.cut (.u 16 rfl (by go_num) (.c 15 rfl (.c 14 rfl (.c 6 rfl (.c 0 rfl .n))))), by omega, by omega, HF2, HB2⟩
  obtain rfl : k = ts.length := by omega
  revert fa
  refine Kn.Z.f fun K6 hK6=>?_;refine Kn.Z.s .o (.bin (.t rfl) (.t rfl)) fun Ko Kp=>?_;go_simp;(try go_bits);refine Kp _ _ ?_;clear Kp Ko;refine Kn.Z.e hK6 ?_;clear hK6 K6;refine Kn.Z.q fun K7 hK7=>?_;refine Kn.Z.no (.t rfl) ?_;refine Kn.Z.t (.c 16 rfl (.c 15 rfl (.c 14 rfl (.c 6 rfl (.c 0 rfl .n))))) ?_;intro fb fg;refine wp_exit ?_;refine Kn.then_exit ?_;clear hK7 K7;refine Kn.then_exit ?_;clear hKl5 Kl5;refine Kn.block_exit ?_;refine hK3 _ _ ?_;clear hK3 K3
  revert fb
  refine Kn.Z.f fun K8 hK8=>?_;refine Kn.Z.u (.m (.t rfl) (.a (.t rfl) (.a .c .n))) ?_;refine Kn.Z.e hK8 ?_;clear hK8 K8;intro fa fh;refine wp_ret ?_;exact Kn.ret2 fh rfl rfl rfl ⟨gt, rfl, HF.out.full (tabF_len F ts _), hgw, HB.out⟩
end Go.Proofs.YtbahklpdldghbaaGreatDoor.Shd
end
section
namespace Go.Proofs.YtbahklpdldghbaaGreatDoor.Shd
open Go Go.RowKit Go.Lib Oct Num Gap RowG Edg Csr
theorem shF_le {N : Nat} {ys : List (Int × Int)} (hs : Srt ys) (hg : Edg.Good (N : Int) ys) (f n : Nat) (h : f + n ≤ N) : (shF f n (rowsF ys f)).length ≤ 300000 := by
  have hN : (N : Int) ≤ 4096 := hg.hi;have h1 := rwF_max hs hg f n h;have h2 := ixF_le (f := (f : Int)) (R := rowsF ys f) n (fun j hj => by have := rwF_max hs hg f j (by omega); omega);have h3 := short_len9 f (by omega);have h4 := short_len9 n (by omega);unfold shF;simp only [List.length_append];omega
theorem gs_shF {N : Nat} {ys : List (Int × Int)} (hs : Srt ys) (hg : Edg.Good (N : Int) ys) (f n : Nat) (hn : 1 ≤ n) (h : f + n ≤ N) : gsG (bs (shF f n (rowsF ys f))) (N : Int) = .inr ((f : Int), lsR (rowsF ys f) n) := by
  have hN : (N : Int) ≤ 4096 := hg.hi;have hl := shF_le hs hg f n h;exact gs_of_shF hN hn (by omega) (fun k _ => goodT_trg hs hg _) (by rw [bs_size]; omega) (bs_data _)
def cutM (N E : Nat) : Nat := (N + E - 1) / E
theorem cutM_0 {E : Nat} (hE : 1 ≤ E) : cutM 0 E = 0 := by
  unfold cutM;exact Nat.div_eq_of_lt (by omega)
theorem cutM_cut {N E : Nat} (hE : 1 ≤ E) (hN : 1 ≤ N) : cutM N E = cutN N E := by
  unfold cutM cutN;rw [show N + E - 1 = N - 1 + E by omega, Nat.add_div_right _ (by omega)]
theorem cutM_lt {N E i : Nat} (hE : 1 ≤ E) (h : i < cutM N E) : i * E < N := by
  rcases Nat.eq_zero_or_pos N with h0 | h0
  · rw [h0, cutM_0 hE] at h; omega
  · rw [cutM_cut hE h0] at h; exact cut_lt hE h0 h
theorem cutM_end {N E : Nat} (hE : 1 ≤ E) : N ≤ cutM N E * E := by
  rcases Nat.eq_zero_or_pos N with h0 | h0
  · omega
  · rw [cutM_cut hE h0]; exact cut_end hE h0
theorem cutM_le {N E : Nat} (hE : 1 ≤ E) : cutM N E ≤ N := by
  rcases Nat.eq_zero_or_pos N with h0 | h0
  · rw [h0, cutM_0 hE]; omega
  · rw [cutM_cut hE h0];unfold cutN;have := Nat.div_le_self (N - 1) E;omega
def fP (E i : Nat) : Int := ((i * E : Nat) : Int)
def lP (ys : List (Int × Int)) (N E i : Nat) : List (List Int) := lsR (rowsF ys (i * E)) (min E (N - i * E))
section
variable {N E : Nat} {ys : List (Int × Int)}
theorem gs_part (hs : Srt ys) (hg : Edg.Good (N : Int) ys) (hE : 1 ≤ E) {i : Nat} (h : i < cutM N E) : (partF ys N E i).size ≤ maxLen ∧ gsG (partF ys N E i) (N : Int) = .inr (fP E i, lP ys N E i) := by
  have h1 := cutM_lt hE h;have h2 : 1 ≤ min E (N - i * E) := by omega
  have h3 : i * E + min E (N - i * E) ≤ N := by omega
  exact ⟨by unfold partF; rw [bs_size]; have := shF_le hs hg _ _ h3; unfold maxLen; omega, gs_shF hs hg _ _ h2 h3⟩
end
section
variable {N E a : Nat} {ys : List (Int × Int)}
end
section
variable {N E : Nat} {ys : List (Int × Int)}
theorem split_m (w : World) (B g : Nat) (hR : Rep w B g N ys) (hE : 1 ≤ E) (hE2 : E ≤ 9223372036854775807) (hl : cutM N E ≤ 64) :
    Calls Tryz.prog 29 #[.pointer (some ⟨g, 0, none⟩), .int .i64 (E : Int)] w fun e w' => ∃ A, e = .returned (.tuple #[.slice A (cutM N E) (cutM N E), .nilIface]) ∧ RIn txR w' A (partsF ys N E (cutM N E)) ∧ Below w.heap.size w w' ∧ (cutM N E ≠ 0 → ∃ gs, A = some ⟨gs, 0, none⟩) := by
  rcases Nat.eq_zero_or_pos N with h0 | h0
  · refine (split_zero E w B g N ys hR hE h0).mono fun e w' ⟨he, hw⟩ => ?_;subst hw;have e0 : cutM N E = 0 := by rw [h0, cutM_0 hE]
    rw [e0];exact ⟨none, he, fun i a hi => by simp [partsF] at hi, Below.refl _ _, fun h => absurd rfl h⟩
  · rw [cutM_cut hE h0] at hl ⊢;refine (split_yes E w B g N ys hR hE hE2 h0 hl).mono fun e w' ⟨gs, he, hH, hgs, hb⟩ => ?_;exact ⟨some ⟨gs, 0, none⟩, he, hH.rin, hb, fun _ => ⟨gs, rfl⟩⟩
end
end Go.Proofs.YtbahklpdldghbaaGreatDoor.Shd
end
section
namespace Go.Proofs.YtbahklpdldghbaaGreatDoor.Man
open Go Go.RowKit Go.Lib Oct Num Gap Csr Shd
theorem shortF_len1 : ∀ (f n : Nat), (shortF f n).length ≤ f + 1
  | 0, n => by simp [shortF]
  | f + 1, n => by
    rw [shortF]
    split
    · simp
    · rw [List.length_cons];have := shortF_len1 f (n / 128);omega
theorem short_13 (n : Nat) : (short n).length ≤ 13 := shortF_len1 12 n
theorem putF_13 (v : Int) (l : List Int) : ∀ k, (putF v l k).length ≤ 13 + 13 * k
  | 0 => by rw [putF]; exact short_13 _
  | 1 => by
    rw [putF, List.length_append];have h1 := short_13 l.length;have h2 := short_13 (turnOf (l.getD 0 0 - v)).toNat;omega
  | k + 2 => by
    rw [putF, List.length_append];have h1 := putF_13 v l (k + 1);have h2 := short_13 (l.getD (k + 1) 0 - l.getD k 0 - 1).toNat;omega
theorem rwF_13 (ys : List (Int × Int)) (f : Nat) : ∀ k, (rwF (f : Int) (rowsF ys f) k).length + 13 * bgn ys (f : Int) ≤ 13 * k + 13 * bgn ys ((f : Int) + (k : Int))
  | 0 => by rw [rwF]; simp
  | k + 1 => by
    rw [rwF, List.length_append];have h1 := rwF_13 ys f k;have h2 := putF_13 ((f : Int) + (k : Int)) (rowsF ys f k) (rowsF ys f k).length;have h3 := bgn_next ys ((f : Int) + (k : Int));have e : ((f : Int) + ((k + 1 : Nat) : Int)) = (f : Int) + (k : Int) + 1 := by omega
    rw [e, h3];have h4 : (rowsF ys f k).length = (trg ys ((f : Int) + (k : Int))).length := rfl;omega
theorem ixF_13 (f : Int) (R : Nat → List Int) : ∀ k, (ixF f R k).length ≤ 13 * k
  | 0 => by rw [ixF]; simp
  | k + 1 => by
    rw [ixF, List.length_append];have h1 := ixF_13 f R k
    split
    · have := short_13 (rwF f R k).length;omega
    · simp;omega
theorem part_13 (ys : List (Int × Int)) (N E i : Nat) : (partF ys N E i).size + 13 * bgn ys ((i * E : Nat) : Int) ≤ 26 + 26 * min E (N - i * E) + 13 * bgn ys ((i * E + min E (N - i * E) : Nat) : Int) := by
  have e : (partF ys N E i).size = (shF (i * E) (min E (N - i * E)) (rowsF ys (i * E))).length := by
    unfold partF;simp [bs, ByteArray.size]
  rw [e];unfold shF;simp only [List.length_append];have h1 := short_13 (i * E);have h2 := short_13 (min E (N - i * E));have h3 := ixF_13 ((i * E : Nat) : Int) (rowsF ys (i * E)) (min E (N - i * E));have h4 := rwF_13 ys (i * E) (min E (N - i * E));have e2 : ((i * E + min E (N - i * E) : Nat) : Int) = ((i * E : Nat) : Int) + ((min E (N - i * E) : Nat) : Int) := by omega
  rw [e2];omega
theorem parts_13 (ys : List (Int × Int)) (N E : Nat) : ∀ k, (Blk.catK (partsF ys N E k)).size ≤ 26 * k + 26 * min N (k * E) + 13 * bgn ys ((min N (k * E) : Nat) : Int)
  | 0 => by
    have : Blk.catK (partsF ys N E 0) = ⟨#[]⟩ := rfl;rw [this];show 0 ≤ _;omega
  | k + 1 => by
    have h1 := parts_13 ys N E k;have h2 := part_13 ys N E k;rw [partsF_succ];have e : Blk.catK (partsF ys N E k ++ [partF ys N E k]) = Blk.catK (partsF ys N E k) ++ partF ys N E k := by simp [Blk.catK, List.foldl_append]
    rw [e, ByteArray.size_append];have e3 : (k + 1) * E = k * E + E := Nat.succ_mul k E;rw [e3];rcases Nat.lt_or_ge (k * E) N with h3 | h3
    · have e4 : min N (k * E) = k * E := by omega
      have e5 : min N (k * E + E) = k * E + min E (N - k * E) := by omega
      rw [e4] at h1;rw [e5];omega
    · have e4 : min N (k * E) = N := by omega
      have e5 : min N (k * E + E) = N := by omega
      have e6 : min E (N - k * E) = 0 := by omega
      rw [e4] at h1;rw [e5];rw [e6] at h2;simp only [Nat.add_zero, Nat.mul_zero] at h2;omega
theorem parts_small {ys : List (Int × Int)} {N E k : Nat} (hN : N ≤ 300) (hy : ys.length ≤ 200) (hk : k ≤ 64) : (Blk.catK (partsF ys N E k)).size ≤ 12064 := by
  have h1 := parts_13 ys N E k;have h2 := bgn_le ys ((min N (k * E) : Nat) : Int);omega
end Go.Proofs.YtbahklpdldghbaaGreatDoor.Man
end
section
namespace Go.Proofs.YtbahklpdldghbaaGreatDoor.Sha
def vs (f : Nat → Nat) : Nat → Nat
  | 0 => 0
  | n + 1 => vs f n + f n * 65536 ^ n
def val (l : List Nat) : Nat := vs (wd l) l.length
def Dig (l : List Nat) : Prop := ∀ j, wd l j < 65536
theorem wd_out (l : List Nat) (j : Nat) (h : l.length ≤ j) : wd l j = 0 := by
  unfold wd; rw [List.getD_eq_getElem?_getD, List.getElem?_eq_none h]; rfl
theorem wd_in (l : List Nat) (j : Nat) (h : j < l.length) : wd l j = l[j] := by
  unfold wd; rw [List.getD_eq_getElem?_getD, List.getElem?_eq_getElem h]; rfl
theorem wd_set_eq (l : List Nat) (i x : Nat) (h : i < l.length) : wd (l.set i x) i = x := by
  unfold wd; simp [List.getD_eq_getElem?_getD, h]
theorem wd_set_ne (l : List Nat) (i j x : Nat) (h : j ≠ i) : wd (l.set i x) j = wd l j := by
  unfold wd; simp only [List.getD_eq_getElem?_getD, List.getElem?_set]; rw [if_neg (by omega)]
theorem Dig.set {l : List Nat} (h : Dig l) (i x : Nat) (hx : x < 65536) : Dig (l.set i x) := by
  intro j
  by_cases e : j = i
  · subst e
    by_cases hl : j < l.length
    · rw [wd_set_eq _ _ _ hl]; exact hx
    · rw [wd_out _ _ (by simp; omega)]; omega
  · rw [wd_set_ne _ _ _ _ e]; exact h j
end Go.Proofs.YtbahklpdldghbaaGreatDoor.Sha
end
section
namespace Go.Proofs.YtbahklpdldghbaaGreatDoor.Sha
open Go.RowKit Go.Lib
theorem bc_snoc (l : List UInt8) (b : UInt8) : Go.Lib.byteCells (l ++ [b]) = Go.Lib.byteCells l ++ [Value.int .u8 b.toNat] := by simp [Go.Lib.byteCells]
theorem byteOf_nat (n : Nat) : (byteOf n).toNat = n % 256 := by
  unfold byteOf;rw [UInt8.toNat_ofNat']; omega
theorem made_list (v : Value) (n : Nat) : (madeCells #[v] n).toList = List.replicate n v := by
  apply List.ext_getElem
  · simp [madeCells]
  · intro i h1 h2;simp [madeCells, Nat.mod_one]
theorem conv_own {w : World} {base : Nat} {v : Value} {l : List UInt8} (h : w.ownsRow base 5 1 v l.length (Go.Lib.byteCells l)) :
    (convert 93 9 v).run Tryz.prog w = .ok (.string ⟨l.toArray⟩) w := by
  rcases h.2 with ⟨rfl, h0⟩ | ⟨g, cap, cur, rfl, -, -, -, -, -, -⟩
  · have hl : l = [] := List.eq_nil_of_length_eq_zero h0;subst hl;exact run_convert_nil_bytes w _ _ 5 0 Tryz.underlying93 Tryz.underlying5 Tryz.underlying9
  · exact run_convert_bytes_back (P := Tryz.prog) w _ _ 5 ⟨g, 0, none⟩ cap l Tryz.underlying93 Tryz.underlying5 Tryz.underlying9 (fun j hj => h.cells (g := g) rfl j _ (by simp [Go.Lib.byteCells, hj]))
theorem cells_new (w : World) (l : List Value) (t : TypeId) : ∀ j u, l[j]? = some u → (w.alloc (.cells l.toArray t)).cell? ((⟨w.heap.size, 0, none⟩ : Addr).add j) = some u := by
  intro j u h;have hadd : (⟨w.heap.size, 0, none⟩ : Addr).add j = ⟨w.heap.size, j, none⟩ := by unfold Addr.add; split <;> simp_all
  rw [hadd, cell_of_row _ _ _ _ _ _ (heap_alloc_new w _)]
  simpa using h
def endA (z : Nat) : List UInt8 := 128 :: List.replicate z 0
theorem be8_len (x k : Nat) : (be8 x k).length = k := by
  induction k with
  | zero => rfl
  | succ k ih => simp [be8, ih]
theorem ending_len (n : Nat) : (ending n).length = 1 + (119 - n % 64) % 64 + 8 := by simp [ending, be8_len]; omega
set_option maxRecDepth 100000 in
set_option maxHeartbeats 400000 in
theorem ending_any (n : Nat) (w : World) (hn : (n : Int) ≤ 70368744177664) :
    Calls Tryz.prog 115 #[.int .i64 (n : Int)] w fun e w' => e = .returned (.string ⟨(ending n).toArray⟩) ∧ Below w.heap.size w w' := by
  obtain ⟨i0, hi, hz0, hz1, hz2⟩ := info_parts info8;obtain ⟨z, hz⟩ : ∃ z, (119 - n % 64) % 64 = z := ⟨_, rfl⟩;have hz64 : z < 64 := by omega
  have HZ := Lib.hid hz;have hzi : (119 - (n : Int) % 64) % 64 = (z : Int) := by omega
  have hzi2 : (119 - (n : Int)) % 64 = (z : Int) := by omega
  have hmk : (Instr.makeSlice 93 (.int .i64 (1 + (z : Int))) (.int .i64 (1 + (z : Int) + 8))).run Tryz.prog w = .ok (.slice (some ⟨w.heap.size, 0, none⟩) (1 + z) (1 + z + 8)) (w.alloc (.cells (madeCells #[.int .u8 0] (1 + z + 8)) 5)) := by
    have h := run_make (P := Tryz.prog) w 93 5 i0 (.int .u8 0) Tryz.underlying93 hi hz0 .i64 .i64 (1 + (z : Int)) (1 + (z : Int) + 8) (by omega) (by omega) (by rw [hz2]; omega) (by omega);rw [hz1, show (1 + (z : Int)).toNat = 1 + z by omega, show (1 + (z : Int) + 8).toNat = 1 + z + 8 by omega, Nat.mul_one] at h;exact h
  have hm0 : (madeCells #[.int .u8 0] (1 + z + 8))[0]? = some (.int .u8 0) := by
    have h := made_list (.int .u8 0) (1 + z + 8);rw [← Array.getElem?_toList, h]; simp
  have HO : Hid ((w.alloc (.cells ((madeCells #[.int .u8 0] (1 + z + 8)).setIfInBounds 0 (.int .u8 128)) 5)).ownsRow w.heap.size 5 1 (.slice (some ⟨w.heap.size, 0, none⟩) (1 + z) (1 + z + 8)) (endA z).length (Go.Lib.byteCells (endA z))) := Lib.hid (by
    have el : (endA z).length = 1 + z := by simp [endA]; omega
    rw [el];refine ⟨by simp [Go.Lib.byteCells, endA]; omega, .inr ⟨w.heap.size, 1 + z + 8, _, rfl, Nat.le_refl _, heap_alloc_new _ _, by omega, by unfold maxLen; omega, by simp [size_madeCells], ?_⟩⟩;rw [Array.toList_setIfInBounds, made_list, show 1 + z + 8 = (z + 8) + 1 by omega, List.replicate_succ, List.set_cons_zero, Nat.mul_one, show 1 + z = z + 1 by omega, List.take_succ_cons, List.take_replicate]
    simp [Go.Lib.byteCells, endA])
  obtain ⟨x, hx⟩ : ∃ x, n * 8 = x := ⟨_, rfl⟩;have hxi : (n : Int) * 8 = (x : Int) := by omega
  have HX := Lib.hid hx;have hxb : (x : Int) ≤ 562949953421312 := by omega
  clear hz hx
  go_enter Tryz.func115, Tryz.ntmps115
  go_wp2
  clear hzi hzi2 hxi;generalize (119 - (n : Int) % 64) % 64 = q0
  go_loopw [4, 6] (fun v i wr => ∃ (k : Nat) (s : Int) (l : List UInt8), k ≤ 8 ∧ i = .int .i64 s ∧ Hid (s = 56 - 8 * (k : Int)) ∧ Hid (l = endA z ++ be8 x k) ∧ Hid (wr.ownsRow w.heap.size 5 1 v l.length (Go.Lib.byteCells l)) ∧ Hid (Below w.heap.size w wr)) (fun _ i _ => (intOf i + 8).toNat)
  case atStart => exact ⟨0, 56, endA z, by omega, rfl, Lib.hid rfl, Lib.hid (by simp [be8]), HO, Lib.hid ((Below.refl _ _).alloc (Nat.le_refl _) _)⟩
  case round =>
    clear HO hm0 hmk;obtain ⟨k, s, l, hk, rfl, HS, HL, HO, HB⟩ := hrel;have hlen : l.length ≤ 72 := by rw [HL.out]; simp [endA, be8_len]; omega
    by_cases hlt : k < 8
    · obtain ⟨sh, rfl⟩ := Int.eq_ofNat_of_zero_le (show 0 ≤ s by have := HS.out; omega);have hsh : sh ≤ 56 := by have := HS.out; omega
      obtain ⟨y, hy⟩ : ∃ y : Nat, x / 2 ^ sh % 256 = y := ⟨_, rfl⟩;have hyi : (x : Int) / 2 ^ sh % 256 = (y : Int) := by rw [← hy, Int.natCast_emod, Int.natCast_ediv, Int.natCast_pow]; rfl
      have HY := Lib.hid (show (byteOf (x / 2 ^ (56 - 8 * k))).toNat = y by rw [byteOf_nat, ← hy, show 56 - 8 * k = sh by have := HS.out; omega]);clear hy;have hs1 := HB.out.size
      go_wp2_with (at_builtin; refine wpList_append_own _ rfl _ _ 93 rfl w.heap.size 5 i0 (.int .u8 0) 1 1 Tryz.underlying93 hi hz0 hz1 hz2 rfl (by decide) _ _ _ rfl (HO.out.alloc _) ⟨wr.heap.size, 0, none⟩ 1 1 [Value.int .u8 (y : Int)] rfl rfl ?c1 ?c2 ?c3 ?c4 ?c5 ?_)
      case c1 => exact cell_one_new _ _ _
      case c2 => intro u hu; simp at hu; subst hu; rfl
      case c3 => unfold maxLen; omega
      case c4 => omega
      case c5 => simp; omega
      intro v' w1 hown' hgrow _;have HB2 := Lib.hid ((HB.out.alloc hs1 _).grown hgrow (by simp; omega) (fun k hk => (HO.out.lt k hk).1))
      have HO2 : Hid (w1.ownsRow w.heap.size 5 1 v' (l ++ [byteOf (x / 2 ^ (56 - 8 * k))]).length (Go.Lib.byteCells (l ++ [byteOf (x / 2 ^ (56 - 8 * k))]))) := Lib.hid (by
        rw [bc_snoc, HY.out]; simpa using hown')
      clear hown' hgrow
      go_wp2
      go_roundw
      case rel => exact ⟨k + 1, _, _, by omega, rfl, Lib.hid (by rw [HS.out]; omega), Lib.hid (by rw [HL.out, be8, List.append_assoc]), HO2, HB2⟩
      case measure => simp [intOf]; omega
    · have hk8 : k = 8 := by omega
      subst hk8;have hs : s = -8 := by have := HS.out; omega
      subst hs;have hcv := conv_own HO.out
      go_wp2
      go_ret
      refine ⟨?_, HB.out⟩;rw [HL.out, ← HX.out, ← HZ.out];unfold ending endA;rw [Nat.mul_comm n 8]; rfl
def CAt (w : World) (b : Nat) (c : List Nat) : Prop := ∀ i, i < 8 → w.cell? ⟨b, i, none⟩ = some (u32V (wd c i))
theorem outB_len (c : List Nat) (k : Nat) : (outB c k).length = 4 * k := by
  induction k with
  | zero => rfl
  | succ k ih => simp [outB, ih, w4]; omega
set_option maxRecDepth 100000 in
set_option maxHeartbeats 400000 in
theorem digest_any (b : Nat) (c : List Nat) (w : World) (hb : b < w.heap.size) (hc : CAt w b c) (hlt : ∀ i, wd c i < 4294967296) :
    Calls Tryz.prog 116 #[.pointer (some ⟨b, 0, none⟩)] w fun e w' => e = .returned (.string ⟨(outB c 8).toArray⟩) ∧ Below w.heap.size w w' := by
  obtain ⟨i0, hi, hz0, hz1, hz2⟩ := info_parts info8;have HC := Lib.hid hc;have HLT := Lib.hid hlt;obtain ⟨w0, hmk, hown0, hgr0⟩ := run_make_own (P := Tryz.prog) w w.heap.size 93 5 i0 (.int .u8 0) 1 Tryz.underlying93 hi hz0 hz1 .i64 .i64 32 (by rw [hz2]; omega) (by unfold maxLen; omega) (Nat.le_refl _);rw [show ((32 : Nat) : Int) = 32 by rfl] at hmk;have HO := Lib.hid hown0;have HB0 := Lib.hid ((Below.refl w.heap.size w).grown hgr0 (Nat.le_refl _) (fun k hk => by cases hk));clear hc hlt hown0 hgr0
  go_enter Tryz.func116, Tryz.ntmps116
  go_wp2
  go_loopw [3, 8] (fun v i wr => ∃ (k : Nat) (l : List UInt8), k ≤ 8 ∧ i = .int .i64 k ∧ Hid (l = outB c k) ∧ Hid (wr.ownsRow w.heap.size 5 1 v l.length (Go.Lib.byteCells l)) ∧ Hid (Below w.heap.size w wr)) (fun _ i _ => 8 - (intOf i).toNat)
  case atStart => exact ⟨0, [], by omega, rfl, Lib.hid rfl, HO, HB0⟩
  case round =>
    clear HO hmk HB0;obtain ⟨k, l, hk, rfl, HL, HO, HB⟩ := hrel;have hlen : l.length ≤ 32 := by rw [HL.out, outB_len]; omega
    by_cases hlt : k < 8
    · have hcell : wr.cell? ⟨b, k, none⟩ = some (.int .u32 (wd c k : Nat)) := (HB.out.cell (p := ⟨b, k, none⟩) hb).trans (HC.out k hlt);obtain ⟨x, hx⟩ : ∃ x, wd c k = x := ⟨_, rfl⟩;have hx32 : x < 4294967296 := by rw [← hx]; exact HLT.out k
      rw [hx] at hcell;have HX := Lib.hid hx;clear hx;obtain ⟨y1, hy1⟩ : ∃ y : Nat, (x : Int) / 16777216 = (y : Int) := ⟨x / 16777216, by omega⟩;obtain ⟨y2, hy2⟩ : ∃ y : Nat, (x : Int) / 65536 % 256 = (y : Int) := ⟨x / 65536 % 256, by omega⟩;obtain ⟨y3, hy3⟩ : ∃ y : Nat, (x : Int) / 256 % 256 = (y : Int) := ⟨x / 256 % 256, by omega⟩;obtain ⟨y4, hy4⟩ : ∃ y : Nat, (x : Int) % 256 = (y : Int) := ⟨x % 256, by omega⟩
      have HY : Hid (Go.Lib.byteCells (w4 x) = [.int .u8 (y1 : Int), .int .u8 (y2 : Int), .int .u8 (y3 : Int), .int .u8 (y4 : Int)]) := Lib.hid (by
        simp only [w4, Go.Lib.byteCells, List.map_cons, List.map_nil, byteOf_nat]
        rw [show ((x / 16777216 % 256 : Nat) : Int) = (y1 : Int) by omega, show ((x / 65536 % 256 : Nat) : Int) = (y2 : Int) by omega, show ((x / 256 % 256 : Nat) : Int) = (y3 : Int) by omega, show ((x % 256 : Nat) : Int) = (y4 : Int) by omega])
      have hs1 := HB.out.size
      go_wp2_with (at_builtin; refine wpList_append_own _ rfl _ _ 93 rfl w.heap.size 5 i0 (.int .u8 0) 1 1 Tryz.underlying93 hi hz0 hz1 hz2 rfl (by decide) _ _ _ rfl (HO.out.alloc _) ⟨wr.heap.size, 0, none⟩ 4 4 [.int .u8 (y1 : Int), .int .u8 (y2 : Int), .int .u8 (y3 : Int), .int .u8 (y4 : Int)] rfl rfl ?c1 ?c2 ?c3 ?c4 ?c5 ?_)
      case c1 => exact cells_new _ _ _
      case c2 => intro u hu; simp at hu; rcases hu with rfl | rfl | rfl | rfl <;> rfl
      case c3 => unfold maxLen; omega
      case c4 => omega
      case c5 => simp; omega
      intro v' w1 hown' hgrow _;have HB2 := Lib.hid ((HB.out.alloc hs1 _).grown hgrow (by simp; omega) (fun k hk => (HO.out.lt k hk).1))
      have HO2 : Hid (w1.ownsRow w.heap.size 5 1 v' (l ++ w4 x).length (Go.Lib.byteCells (l ++ w4 x))) := Lib.hid (by
        have e1 : (l ++ w4 x).length = l.length + 4 := by simp [w4]
        have e2 : Go.Lib.byteCells (l ++ w4 x) = Go.Lib.byteCells l ++ Go.Lib.byteCells (w4 x) := by simp [Go.Lib.byteCells]
        rw [e1, e2, HY.out]; exact hown')
      clear hown' hgrow hy1 hy2 hy3 hy4
      go_wp2
      go_roundw
      case rel => exact ⟨k + 1, _, by omega, by go_num, Lib.hid (by rw [HL.out, outB, HX.out]), HO2, HB2⟩
      case measure => simp [intOf]; omega
    · have hk8 : k = 8 := by omega
      subst hk8;have hcv := conv_own HO.out
      go_wp2
      go_ret
      exact ⟨by rw [HL.out]; rfl, HB.out⟩
end Go.Proofs.YtbahklpdldghbaaGreatDoor.Sha
end
section
namespace Go.Proofs.YtbahklpdldghbaaGreatDoor.Sha
open Go.RowKit Go.Lib
def zst : Array Value := stV (List.replicate 8 0) (List.replicate 64 0) 0
theorem zst_new {w : World} {b : Nat} {t : TypeId} (h : Row w b t zst) : StW w b t [] := ⟨List.replicate 8 0, List.replicate 64 0, by simp, by simp, .inl rfl, h⟩
theorem stV_len (c : List Nat) (r : List UInt8) (n : Nat) (hc : c.length = 8) (hr : r.length = 64) : (stV c r n).size = 73 := by simp [stV, hc, hr]
theorem zst_len : zst.size = 73 := by simp [zst, stV]
theorem stV_one (c : List Nat) (r : List UInt8) (n : Nat) : (stV c r n).all (·.oneCell') = true := by simp [stV, u32V, bV, Value.oneCell']
theorem info44 : (Tryz.prog.info? 182).map (·.size) = some 73 := by kernel_rfl
theorem cat_one (s : ByteArray) : cat (fun _ => s) 1 = s.data.toList := by simp [cat]
theorem sarg_one (w : World) (B : Nat) (s : ByteArray) (t : TypeId) (hB : B < w.heap.size) : SArg (w.alloc (.cells #[.string s] t)) B (some ⟨w.heap.size, 0, none⟩) 1 (fun _ => s) := by
  intro k hk;obtain rfl : k = 0 := by omega
  exact ⟨w.heap.size, 0, rfl, by simp, by omega, by rw [cell_of_row _ _ _ _ _ _ (heap_alloc_new w _)]; rfl⟩
theorem dig_of (l : List UInt8) (c : List Nat) (r : List UInt8) (h : l ++ ending l.length = [] ∨ Inv (l ++ ending l.length) c r) : outB c 8 = dig l ∧ ∀ i, wd c i < 4294967296 := by
  have hi := h.resolve_left (by simp [ending]);unfold dig;rw [← hi.hc];exact ⟨rfl, by rw [hi.hc]; exact blocks_lt _ _⟩
theorem info44z : (Tryz.prog.info? 182).map (·.zero) = some (some (.agg zst)) := by kernel_rfl
theorem zero44 (v : World) : (zeroValue 182).run Tryz.prog v = .ok (.agg zst) v := by
  have h := info44z
  cases hq : Tryz.prog.info? 182 with
  | none => rw [hq] at h; cases h
  | some i =>
    rw [hq] at h;have hz : i.zero = some (.agg zst) := by simpa using h
    simp [zeroValue, typeInfo, hq, hz]
set_option maxRecDepth 100000 in
set_option maxHeartbeats 400000 in
theorem sum_st (b : Nat) (t : TypeId) (l : List UInt8) (w : World) (hT : Tabs w) (hst : StW w b t l) (hl : (l.length : Int) ≤ 35184372088832) :
    Calls Tryz.prog 95 #[.pointer (some ⟨b, 0, none⟩)] w fun e w' => e = .returned (.string ⟨(dig l).toArray⟩) ∧ Below w.heap.size w w' := by
  have HT := Lib.hid hT;obtain ⟨c, r, hc, hr, hi, hrow⟩ := hst;have HI := Lib.hid hi;have HC := Lib.hid hc;have HRL := Lib.hid hr;have HR := Lib.hid hrow;have HS : Hid ((Tryz.prog.info? 182).map (·.size) = some (stV c r l.length).size) := Lib.hid (by rw [info44, stV_len _ _ _ hc hr]);have h2 := hT.size;clear hT hc hr hrow hi;have hz44 := zero44
  go_enter Tryz.func95, Tryz.ntmps95
  go_wp2_with (first | (refine wpList_load_row rfl 182 (.tmp 7) rfl b rfl t (stV c r l.length) (0, 0) _ HR.out Tryz.underlying182 rfl HS.out ?_) | (refine wpList_store_rowA rfl 182 (.tmp 3) (.tmp 8) rfl w.heap.size (stV c r l.length) rfl rfl 182 zst (heap_alloc_new _ _) HS.out (by rw [stV_len _ _ _ HC.out HRL.out, zst_len]) (stV_one _ _ _) ?_; intro w2 hw2 ho2; refine Hid.out ?_))
  refine Lib.hid ?_;have HW2 := Lib.hid hw2;have hb2 : Below w.heap.size w w2 := ((Below.refl w.heap.size w).alloc (Nat.le_refl _) _).trans (ho2.below (Nat.le_refl _) (by simp));have HB2 := Lib.hid hb2;have hs2 : w.heap.size < w2.heap.size := hw2.lt;have hcn : w2.cell? ⟨b, 72, none⟩ = some (.int .i64 (l.length : Int)) := (HB2.out.cell (p := ⟨b, 72, none⟩) HR.out.lt).trans ((HR.out.cell 72).trans (stV_n c r l.length HC.out HRL.out));clear hw2 ho2 hb2
  go_wp2_with (go_at_call 115; refine (ending_any l.length _ (by omega)).mono ?_; rintro e w3 ⟨rfl, hb3⟩; refine Hid.out ?_)
  refine Lib.hid ?_;have HB3 := Lib.hid (HB2.out.trans (hb3.mono (Nat.le_of_lt hs2)));have HW3 := Lib.hid (HW2.out.below hb3 hs2);have hs3 : w.heap.size < w3.heap.size := HW3.out.lt;clear hb3 hcn HW2;have HEL : Hid (((l.length + (cat (fun _ => (⟨(ending l.length).toArray⟩ : ByteArray)) 1).length : Nat) : Int) ≤ 70368744177664) := Lib.hid (by rw [cat_one]; simp [ending_len]; omega)
  go_wp2_with (go_at_call 94; refine (write_any w.heap.size 182 l _ 1 1 (fun _ => ⟨(ending l.length).toArray⟩) _ h2 (HT.out.below (HB3.out.alloc (Nat.le_of_lt hs3) _) h2) ⟨c, r, HC.out, HRL.out, HI.out, (Below.heap_alloc _ _ _ hs3).trans HW3.out⟩ (sarg_one _ _ _ _ hs3) HEL.out (by omega)).mono ?_; rintro e w4 ⟨rfl, hst4, ho4⟩; refine Hid.out ?_)
  refine Lib.hid ?_;rw [cat_one] at hst4;obtain ⟨c4, r4, hc4, hr4, hi4, hrow4⟩ := hst4;have HD := Lib.hid (dig_of l c4 r4 hi4);have HR4 := Lib.hid hrow4;have HC4 := Lib.hid hc4;have HB4 := Lib.hid ((HB3.out.alloc (Nat.le_of_lt hs3) _).trans (ho4.below (Nat.le_refl _) (by simp; omega)));have hs4 : w.heap.size < w4.heap.size := hrow4.lt;clear hi4 hrow4 hc4 hr4 ho4
  go_wp2_with (go_at_call 116; refine (digest_any w.heap.size c4 _ hs4 (fun i hi => (HR4.out.cell i).trans (stV_c _ _ _ _ HC4.out hi)) HD.out.2).mono ?_; rintro e w5 ⟨rfl, hb5⟩; refine Hid.out ?_)
  refine Lib.hid ?_;have HB5 := Lib.hid (HB4.out.trans (hb5.mono (Nat.le_of_lt hs4)));clear hb5
  go_wp2
  go_ret
  exact ⟨by rw [HD.out.1]; rfl, HB5.out⟩
set_option maxRecDepth 100000 in
set_option maxHeartbeats 400000 in
theorem sum_any (A : Option Addr) (n cp : Nat) (ss : Nat → ByteArray) (w : World) (hT : Tabs w) (hA : SArg w w.heap.size A n ss) (hn : (n : Int) ≤ 9223372036854775807) (hl : ((cat ss n).length : Int) ≤ 35184372088832) :
    Calls Tryz.prog 74 #[.slice A n cp] w fun e w' => e = .returned (.string ⟨(dig (cat ss n)).toArray⟩) ∧ Below w.heap.size w w' := by
  have HT := Lib.hid hT;have h2 := hT.size;have HA := Lib.hid hA;have HL := Lib.hid hl;clear hT hA hl
  have HA1 : Hid (SArg (w.alloc (.cells zst 182)) w.heap.size A n ss) := Lib.hid (by
    intro k hk;obtain ⟨b, o, e, hb, hne, hc⟩ := HA.out k hk
    exact ⟨b, o, e, by simp; omega, hne, (World.cell?_alloc_lt w _ ⟨b, o + k, none⟩ hb).trans hc⟩)
  have HL1 : Hid (((([] : List UInt8).length + (cat ss n).length : Nat) : Int) ≤ 70368744177664) := Lib.hid (by have := HL.out; simp; omega);have hz44 := zero44
  go_enter Tryz.func74, Tryz.ntmps74
  go_wp2_with (go_at_call 94; refine (write_any w.heap.size 182 [] A n cp ss (w.alloc (.cells zst 182)) h2 (HT.out.below ((Below.refl w.heap.size w).alloc (Nat.le_refl _) _) h2) (zst_new (heap_alloc_new _ _)) HA1.out HL1.out hn).mono ?_; rintro e w1 ⟨rfl, hst1, ho1⟩; refine Hid.out ?_)
  refine Lib.hid ?_;rw [List.nil_append] at hst1;have HS1 := Lib.hid hst1;have HB1 := Lib.hid (((Below.refl w.heap.size w).alloc (Nat.le_refl _) _).trans (ho1.below (Nat.le_refl _) (by simp)));have hs1 : w.heap.size < w1.heap.size := hst1.lt;clear hst1 ho1
  go_wp2_with (go_at_call 95; refine (sum_st w.heap.size 182 (cat ss n) _ (HT.out.below HB1.out h2) HS1.out HL.out).mono ?_; rintro e w2 ⟨rfl, hb2⟩; refine Hid.out ?_)
  refine Lib.hid ?_;have HB2 := Lib.hid (HB1.out.trans (hb2.mono (Nat.le_of_lt hs1)));clear hb2
  go_wp2
  go_ret
  exact ⟨rfl, HB2.out⟩
end Go.Proofs.YtbahklpdldghbaaGreatDoor.Sha
end
section
namespace Go.Proofs.YtbahklpdldghbaaGreatDoor.Sha
open Go.RowKit Go.Lib
theorem dig_len (l : List UInt8) : (dig l).length = 32 := by unfold dig; rw [outB_len]
def digB (l : List UInt8) : ByteArray := ⟨(dig l).toArray⟩
theorem digB_size (l : List UInt8) : (digB l).size = 32 := dig_len l
end Go.Proofs.YtbahklpdldghbaaGreatDoor.Sha
end
section
namespace Go.Proofs.YtbahklpdldghbaaGreatDoor.Sha
open Go.RowKit Go.Lib
def VIn (w : World) (A : Option Addr) (n : Nat) (f : Nat → Value) : Prop := ∀ k, k < n → ∃ b o, A = some ⟨b, o, none⟩ ∧ b < w.heap.size ∧ w.cell? ⟨b, o + k, none⟩ = some (f k)
end Go.Proofs.YtbahklpdldghbaaGreatDoor.Sha
end
section
namespace Go.Proofs.YtbahklpdldghbaaGreatDoor.Sha
open Go.RowKit Go.Lib
def iV (n : Nat) : Value := .int .i64 (n : Int)
def NIn (w : World) (A : Option Addr) (l : List Nat) : Prop := VIn w A l.length (fun k => .int .i64 ((wd l k : Nat) : Int))
theorem VIn.below {w w' : World} {A : Option Addr} {n : Nat} {f : Nat → Value} (h : VIn w A n f) (hb : Below w.heap.size w w') : VIn w' A n f := fun k hk => by
  obtain ⟨b, o, e, hlt, hc⟩ := h k hk;exact ⟨b, o, e, by have := hb.size; omega, (hb.cell (p := ⟨b, o + k, none⟩) hlt).trans hc⟩
theorem NIn.below {w w' : World} {A : Option Addr} {l : List Nat} (h : NIn w A l) (hb : Below w.heap.size w w') : NIn w' A l := VIn.below h hb
theorem infoI : (Tryz.prog.info? 3).map (fun i => (i.zero, i.size, i.bytes)) = some (some (.int .i64 0), 1, 8) := by kernel_rfl
end Go.Proofs.YtbahklpdldghbaaGreatDoor.Sha
end
section
namespace Go.Proofs.YtbahklpdldghbaaGreatDoor.Sha
open Go.RowKit Go.Lib
theorem retB {a b : Bool} (h : a = b) : Ending.returned (.bool a) = .returned (.bool b) := by rw [h]
end Go.Proofs.YtbahklpdldghbaaGreatDoor.Sha
end
section
namespace Go.Proofs.YtbahklpdldghbaaGreatDoor.Sha
open Go.RowKit Go.Lib
theorem own_lit {w : World} {base : Nat} {t : TypeId} (o : Nat) (ho : base ≤ o) (h : w.heap[o]? = some (.cells #[] t (0, 0))) : w.ownsRow base t 1 (.slice (some ⟨o, 0, none⟩) 0 0) 0 [] :=
  ⟨by simp, .inr ⟨o, 0, #[], rfl, ho, h, Nat.le_refl _, by unfold maxLen; omega, by simp, by simp⟩⟩
end Go.Proofs.YtbahklpdldghbaaGreatDoor.Sha
end
section
namespace Go.Proofs.YtbahklpdldghbaaGreatDoor.Sha
def nb (l : List UInt8) : List Nat := l.map UInt8.toNat
end Go.Proofs.YtbahklpdldghbaaGreatDoor.Sha
end
section
namespace Go.Proofs.YtbahklpdldghbaaGreatDoor.Sha
open Go.RowKit Go.Lib
attribute [local go_sem ↓] Go.wp_at_zero Go.wp_at_succ
def RN (w : World) (g : Nat) (l : List Nat) : Prop := g < w.heap.size ∧ ∀ k, k < l.length → w.cell? ⟨g, k, none⟩ = some (.int .i64 ((wd l k : Nat) : Int))
def OwnI (w : World) (B g cap : Nat) (l : List Nat) : Prop := w.ownsRow B 3 1 (.slice (some ⟨g, 0, none⟩) l.length cap) l.length (l.map iV)
theorem OwnI.rn {w : World} {B g cap : Nat} {l : List Nat} (h : OwnI w B g cap l) : RN w g l :=
  ⟨(h.lt g rfl).2, fun k hk => by rw [h.cellAt k (by omega), List.getElem?_map, List.getElem?_eq_getElem hk, wd_in l k hk]; rfl⟩
theorem OwnI.ge {w : World} {B g cap : Nat} {l : List Nat} (h : OwnI w B g cap l) : B ≤ g := (h.lt g rfl).1
theorem RN.grown {w w' : World} {g : Nat} {l : List Nat} {row : Option Nat} (h : RN w g l) (hg : w.grownBy w' row) (hne : some g ≠ row) : RN w' g l :=
  ⟨by have := hg.size; have := h.1; omega, fun k hk => (World.cell?_of_block (w := w) (hg.block g h.1 hne)).trans (h.2 k hk)⟩
theorem RN.alloc {w : World} {g : Nat} {l : List Nat} (h : RN w g l) (o : Obj) : RN (w.alloc o) g l :=
  ⟨by have := h.1; simp; omega, fun k hk => (World.cell?_alloc_lt w o ⟨g, k, none⟩ h.1).trans (h.2 k hk)⟩
theorem RN.drewN {w : World} {g : Nat} {l : List Nat} (h : RN w g l) (n : Nat) : RN (w.drewN n) g l := h
theorem RN.drew {w : World} {g : Nat} {l : List Nat} (h : RN w g l) : RN w.drew g l := h
theorem OwnI.grown {w w' : World} {B g cap : Nat} {l : List Nat} {row : Option Nat} (h : OwnI w B g cap l) (hg : w.grownBy w' row) (hne : some g ≠ row) : OwnI w' B g cap l := World.ownsRow.kept h hg (.inr hne)
theorem OwnI.alloc {w : World} {B g cap : Nat} {l : List Nat} (h : OwnI w B g cap l) (o : Obj) : OwnI (w.alloc o) B g cap l := World.ownsRow.alloc h o
theorem OwnI.drewN {w : World} {B g cap : Nat} {l : List Nat} (h : OwnI w B g cap l) (n : Nat) : OwnI (w.drewN n) B g cap l := h
theorem OwnI.new (w : World) (B : Nat) (hB : B ≤ w.heap.size) : OwnI (w.alloc (.cells #[] 3)) B w.heap.size 0 [] := own_lit _ hB (heap_alloc_new _ _)
theorem OwnI.one (w : World) (B x : Nat) (hB : B ≤ w.heap.size) : OwnI (w.alloc (.cells #[.int .i64 (x : Int)] 3)) B w.heap.size 1 [x] :=
  World.ownsRow_lit w #[.int .i64 (x : Int)] 1 hB (by unfold maxLen; omega) rfl
theorem addr_add (b o j : Nat) : (⟨b, o, none⟩ : Addr).add j = ⟨b, o + j, none⟩ := by unfold Addr.add; split <;> simp_all
theorem OwnI.news {w : World} {B g cap : Nat} {l : List Nat} (h : OwnI w B g cap l) : ∀ j u, (l.map iV)[j]? = some u → w.cell? ((⟨g, 0, none⟩ : Addr).add j) = some u := World.ownsRow.cells h (g := g) rfl
theorem NIn.news {w : World} {b o : Nat} {l : List Nat} (h : NIn w (some ⟨b, o, none⟩) l) : ∀ j u, (l.map iV)[j]? = some u → w.cell? ((⟨b, o, none⟩ : Addr).add j) = some u := fun j u hu => by
  have hj : j < l.length := by have := (List.getElem?_eq_some_iff.1 hu).1; simpa using this
  obtain ⟨b', o', e, _, hc⟩ := h j hj;cases e;rw [addr_add, hc, ← hu, List.getElem?_map, List.getElem?_eq_getElem hj];show some (iV (wd l j)) = some (iV l[j]);rw [wd_in l j hj]
theorem ints_one (l : List Nat) : ∀ u ∈ l.map iV, u.oneCell' = true := fun u hu => by obtain ⟨x, _, rfl⟩ := List.mem_map.1 hu; rfl
theorem RN.cut {w : World} {g : Nat} {l m : List Nat} (h : RN w g (l ++ m)) : RN w g l := ⟨h.1, fun k hk => by
  rw [h.2 k (by rw [List.length_append]; omega), wd_in (l ++ m) k (by rw [List.length_append]; omega), wd_in l k hk, List.getElem_append_left hk]⟩
theorem run_push (w : World) (ty : TypeId) (B g cap F x : Nat) (l : List Nat) (fr : Nat × Nat) (hO : OwnI w B g cap l) (hF : w.heap[F]? = some (.cells #[.int .i64 (x : Int)] 3 fr)) (hB : B ≤ w.heap.size) (hl : l.length ≤ 1000000) :
    ∃ g' cap' w', (Builtin.append_ #[58, 58] ty #[.slice (some ⟨g, 0, none⟩) l.length cap, .slice (some ⟨F, 0, none⟩) 1 1]).run Tryz.prog w = .ok (.slice (some ⟨g', 0, none⟩) (l.length + 1) cap') w' ∧ OwnI w' B g' cap' (l ++ [x]) ∧ w.grownBy w' (some g) ∧ (g' = g ∨ g' = w.heap.size) ∧ RN w' g l := by
  obtain ⟨i0, hi, hz0, hz1, hz2⟩ := info_parts infoI;have hnews : ∀ j u, ([Value.int .i64 (x : Int)] : List Value)[j]? = some u → w.cell? ((⟨F, 0, none⟩ : Addr).add j) = some u := World.news_of_block (cs := #[.int .i64 (x : Int)]) hF;have h1 : ∀ u ∈ ([Value.int .i64 (x : Int)] : List Value), u.oneCell' = true := by simp [Value.oneCell']
  obtain ⟨g', cap', w', hrun, hown, hgrow, hat, hlt⟩ := run_append_lies (P := Tryz.prog) w 58 ty B 3 i0 (.int .i64 0) 1 8 Tryz.underlying58 hi hz0 hz1 hz2 rfl (by decide) (.slice (some ⟨g, 0, none⟩) l.length cap) l.length (l.map iV) hO ⟨F, 0, none⟩ 1 1 [.int .i64 (x : Int)] rfl hnews h1 (by omega) (by unfold maxLen; omega) (by omega) hB w.heap.size rfl
  have hO2 : OwnI w' B g' cap' (l ++ [x]) := by
    unfold OwnI; rw [List.length_append, List.map_append]; exact hown
  refine ⟨g', cap', w', hrun, hO2, hgrow, ?_, ?_⟩
  · rcases hat with h | h
    · exact .inl (by simpa [Value.ownBlock] using h.symm)
    · exact .inr h
  · rcases hO.2 with ⟨h', _⟩ | ⟨gg, cc, cur, h', hbg, hg, hnc, hcm, hcs, htake⟩
    · simp at h'
    · simp only [Value.slice.injEq, Option.some.injEq, Addr.mk.injEq, and_true, true_and] at h';obtain ⟨rfl, rfl⟩ := h'
      by_cases hroom : l.length + 1 ≤ cap
      · have hr := run_append_room (P := Tryz.prog) w 58 ty 3 i0 Tryz.underlying58 hi g l.length cap cur hg ⟨F, 0, none⟩ 1 1 [.int .i64 (x : Int)] (by rw [hz1]; rfl) hnews h1 hroom (by rw [hz1]; simp at hcs ⊢; omega);rw [hrun] at hr;injection hr with hv hw
        injection hv with hv
        injection hv with hv
        injection hv with hv
        subst hv;exact hO2.rn.cut
      · have hr := run_append_grow (P := Tryz.prog) w 58 ty 3 i0 (.int .i64 0) Tryz.underlying58 hi hz0 ⟨g, 0, none⟩ l.length cap (l.map iV) (by rw [hz1]; simp) hO.news ⟨F, 0, none⟩ 1 1 [.int .i64 (x : Int)] (by rw [hz1]; rfl) hnews (by omega) (by omega) (growslice_fits (by omega) (by rw [hz2]; omega));rw [hrun] at hr;injection hr with hv hw
        rw [hw];exact (RN.drew hO.rn).alloc _
end Go.Proofs.YtbahklpdldghbaaGreatDoor.Sha
end
section
namespace Go.Proofs.YtbahklpdldghbaaGreatDoor.Sha
open Go.RowKit Go.Lib
structure Kept (v v' : World) (g g' : Nat) : Prop where
  at' : g' = g ∨ v.heap.size ≤ g'
  size : v.heap.size ≤ v'.heap.size
  own : ∀ {B g2 cap2 : Nat} {l2 : List Nat}, g2 ≠ g → OwnI v B g2 cap2 l2 → OwnI v' B g2 cap2 l2
  rn : ∀ {g2 : Nat} {l2 : List Nat}, g2 ≠ g → RN v g2 l2 → RN v' g2 l2
theorem below_drew {B : Nat} {w w' : World} (h : Below B w w') : Below B w w'.drew := ⟨h.1, h.2, h.3, h.4, h.5⟩
theorem below_drewN {B : Nat} {w w' : World} (h : Below B w w') (n : Nat) : Below B w (w'.drewN n) := ⟨h.1, h.2, h.3, h.4, h.5⟩
theorem push1 (w0 v : World) (ty : TypeId) (g cap L x : Nat) (l : List Nat) (hO : OwnI v w0.heap.size g cap l) (hL : L = l.length) (hb : Below w0.heap.size w0 v) (hl : L ≤ 1000) :
    ∃ g' cap' v', (Builtin.append_ #[58, 58] ty #[.slice (some ⟨g, 0, none⟩) L cap, .slice (some ⟨v.heap.size, 0, none⟩) 1 1]).run Tryz.prog (v.alloc (.cells #[.int .i64 (x : Int)] 3)) = .ok (.slice (some ⟨g', 0, none⟩) (L + 1) cap') v' ∧
      OwnI v' w0.heap.size g' cap' (l ++ [x]) ∧ Below w0.heap.size w0 v' ∧ Kept v v' g g' := by
  subst hL;have hs := hb.size;obtain ⟨g', cap', v', hrun, h1, h2, h3, _⟩ := run_push (v.alloc (.cells #[.int .i64 (x : Int)] 3)) ty w0.heap.size g cap v.heap.size x l (0, 0) (hO.alloc _) (heap_alloc_new _ _) (by simp; omega) (by omega);refine ⟨g', cap', v', hrun, h1, (hb.alloc hs _).grown h2 (by simp; omega) (fun k hk => by cases hk; exact hO.ge), ?_, ?_, ?_, ?_⟩
  · rcases h3 with h | h
    · exact .inl h
    · simp at h; exact .inr (by omega)
  · have := h2.size; simp at this; omega
  · intro B g2 cap2 l2 hne h;exact (h.alloc _).grown h2 (by simp; exact hne)
  · intro g2 l2 hne h;exact (h.alloc _).grown h2 (by simp; exact hne)
theorem pushM (w0 v : World) (ty : TypeId) (g cap L m c b o : Nat) (l src : List Nat) (hO : OwnI v w0.heap.size g cap l) (hL : L = l.length) (hm : m = src.length) (hp : 0 < L + m) (hsrc : ∀ j u, (src.map iV)[j]? = some u → v.cell? ((⟨b, o, none⟩ : Addr).add j) = some u) (hb : Below w0.heap.size w0 v) (hl : L + m ≤ 1000) :
    ∃ g' cap' v', (Builtin.append_ #[58, 58] ty #[.slice (some ⟨g, 0, none⟩) L cap, .slice (some ⟨b, o, none⟩) m c]).run Tryz.prog v = .ok (.slice (some ⟨g', 0, none⟩) (L + m) cap') v' ∧
      OwnI v' w0.heap.size g' cap' (l ++ src) ∧ Below w0.heap.size w0 v' ∧ Kept v v' g g' := by
  subst hL hm;have hs := hb.size;obtain ⟨i0, hi, hz0, hz1, hz2⟩ := info_parts infoI;obtain ⟨v1, v', hrun, h1, h2, _, h3⟩ := run_append_own_at (P := Tryz.prog) (w := v) w0.heap.size 58 ty 3 i0 (.int .i64 0) 1 8 Tryz.underlying58 hi hz0 hz1 hz2 rfl (by decide) (.slice (some ⟨g, 0, none⟩) l.length cap) l.length (l.map iV) hO ⟨b, o, none⟩ src.length c (src.map iV) (by simp) hsrc (ints_one _) (by unfold maxLen; omega) (by omega) hs;obtain ⟨g', cap', rfl, h4, h5⟩ := h1.form hp;refine ⟨g', cap', v', hrun, ?_, hb.grown h2 hs (fun k hk => by simp [Value.ownBlock] at hk; subst hk; exact hO.ge), ?_, h2.size, ?_, ?_⟩
  · unfold OwnI; rw [List.length_append, List.map_append]; exact h1
  · rcases h3 with h | h
    · simp [Value.ownBlock] at h; exact .inl h
    · simp [Value.ownBlock] at h; exact .inr (by omega)
  · intro B g2 cap2 l2 hne h;exact h.grown h2 (by simp [Value.ownBlock]; exact hne)
  · intro g2 l2 hne h;exact h.grown h2 (by simp [Value.ownBlock]; exact hne)
theorem OwnI.lt' {w : World} {B g cap : Nat} {l : List Nat} (h : OwnI w B g cap l) : g < w.heap.size := (h.lt g rfl).2
theorem OwnI.cell {w : World} {B g cap : Nat} {l : List Nat} (h : OwnI w B g cap l) {j : Nat} (hj : j < l.length) : w.cell? ⟨g, j, none⟩ = some (.int .i64 ((wd l j : Nat) : Int)) := h.rn.2 j hj
theorem OwnI.drew {w : World} {B g cap : Nat} {l : List Nat} (h : OwnI w B g cap l) : OwnI w.drew B g cap l := h
end Go.Proofs.YtbahklpdldghbaaGreatDoor.Sha
end
section
namespace Go.Proofs.YtbahklpdldghbaaGreatDoor.Sha
open Go.RowKit Go.Lib
structure Ws (w0 v : World) (gw capw : Nat) (lw : List Nat) (gh caph : Nat) (Hm : List Nat) (g2 cap2 : Nat) (PL : List Nat) : Prop where
  ow : OwnI v w0.heap.size gw capw lw
  oh : OwnI v w0.heap.size gh caph Hm
  ob : OwnI v w0.heap.size g2 cap2 PL
  old : Below w0.heap.size w0 v
  n1 : gw ≠ g2
  n2 : gw ≠ gh
  n3 : gh ≠ g2
section
variable {w0 v v' : World} {gw capw gh caph g2 cap2 g' cap' x : Nat} {lw Hm PL : List Nat}
theorem Ws.drew (h : Ws w0 v gw capw lw gh caph Hm g2 cap2 PL) : Ws w0 v.drew gw capw lw gh caph Hm g2 cap2 PL := ⟨h.ow.drew, h.oh.drew, h.ob.drew, below_drew h.old, h.n1, h.n2, h.n3⟩
theorem Ws.drewN (h : Ws w0 v gw capw lw gh caph Hm g2 cap2 PL) (n : Nat) : Ws w0 (v.drewN n) gw capw lw gh caph Hm g2 cap2 PL := ⟨h.ow.drewN n, h.oh.drewN n, h.ob.drewN n, below_drewN h.old n, h.n1, h.n2, h.n3⟩
theorem Ws.alloc (h : Ws w0 v gw capw lw gh caph Hm g2 cap2 PL) (o : Obj) : Ws w0 (v.alloc o) gw capw lw gh caph Hm g2 cap2 PL := ⟨h.ow.alloc o, h.oh.alloc o, h.ob.alloc o, h.old.alloc h.old.size o, h.n1, h.n2, h.n3⟩
theorem Ws.push (h : Ws w0 v gw capw lw gh caph Hm g2 cap2 PL) (ho : OwnI v' w0.heap.size g' cap' (lw ++ [x])) (hb : Below w0.heap.size w0 v') (hk : Kept v v' gw g') : Ws w0 v' g' cap' (lw ++ [x]) gh caph Hm g2 cap2 PL := by
  have h1 := h.oh.lt';have h2 := h.ob.lt';refine ⟨ho, hk.own (Ne.symm h.n2) h.oh, hk.own (Ne.symm h.n1) h.ob, hb, ?_, ?_, h.n3⟩
  · rcases hk.at' with e | e
    · rw [e]; exact h.n1
    · omega
  · rcases hk.at' with e | e
    · rw [e]; exact h.n2
    · omega
end
end Go.Proofs.YtbahklpdldghbaaGreatDoor.Sha
end
section
namespace Go.Proofs.YtbahklpdldghbaaGreatDoor.Mrk
open Go Go.RowKit Go.Lib
def sm (x : ByteArray) : ByteArray := Sha.digB x.data.toList
theorem sm_size (x : ByteArray) : (sm x).size = 32 := Sha.digB_size _
def hfL (k n : Nat) : Nat := if 0 < k ∧ 2 * k < n then hfL (2 * k) n else k
termination_by n - k
def hf (n : Nat) : Nat := hfL 1 n
theorem hfL_step {k n : Nat} (h0 : 0 < k) (h : 2 * k < n) : hfL k n = hfL (2 * k) n := by rw [hfL, if_pos ⟨h0, h⟩]
theorem hfL_end {k n : Nat} (h : ¬ 2 * k < n) : hfL k n = k := by rw [hfL, if_neg (fun q => h q.2)]
theorem hfL_in (n : Nat) : ∀ (d k : Nat), n - k ≤ d → 0 < k → k < n → k ≤ hfL k n ∧ hfL k n < n ∧ n ≤ 2 * hfL k n := by
  intro d
  induction d with
  | zero => intro k h h0 h1; omega
  | succ d ih =>
    intro k h h0 h1
    by_cases h2 : 2 * k < n
    · rw [hfL_step h0 h2];have := ih (2 * k) (by omega) (by omega) h2;omega
    · rw [hfL_end h2];omega
theorem hf_in {n : Nat} (h : 2 ≤ n) : 1 ≤ hf n ∧ hf n < n ∧ n ≤ 2 * hf n := hfL_in n (n - 1) 1 (Nat.le_refl _) (by omega) (by omega)
abbrev Pr := ByteArray × ByteArray
def c0 : ByteArray := ⟨#[0]⟩
def c1 : ByteArray := ⟨#[1]⟩
def c2 : ByteArray := ⟨#[2]⟩
def pr (x : ByteArray) : Pr := (x, sm x)
def rootP (bl : List ByteArray) : ByteArray × List Pr :=
  if h0 : bl.length = 0 then (sm c2, [pr c2])
  else if h1 : bl.length = 1 then (sm (c0 ++ bl[0]), [pr (c0 ++ bl[0])])
  else
    have hk := hf_in (n := bl.length) (by omega);have : (bl.take (hf bl.length)).length < bl.length := by rw [List.length_take]; omega
    have : (bl.drop (hf bl.length)).length < bl.length := by rw [List.length_drop]; omega
    (sm (c1 ++ (rootP (bl.take (hf bl.length))).1 ++ (rootP (bl.drop (hf bl.length))).1),
      (rootP (bl.take (hf bl.length))).2 ++ (rootP (bl.drop (hf bl.length))).2 ++ [pr (c1 ++ (rootP (bl.take (hf bl.length))).1 ++ (rootP (bl.drop (hf bl.length))).1)])
termination_by bl.length
theorem rootP_0 {bl : List ByteArray} (h : bl.length = 0) : rootP bl = (sm c2, [pr c2]) := by rw [rootP, dif_pos h]
theorem rootP_1 (b : ByteArray) : rootP [b] = (sm (c0 ++ b), [pr (c0 ++ b)]) := by rw [rootP, dif_neg (by simp), dif_pos (show [b].length = 1 from rfl)]; rfl
theorem rootP_2 {bl : List ByteArray} (h : 2 ≤ bl.length) : rootP bl = (sm (c1 ++ (rootP (bl.take (hf bl.length))).1 ++ (rootP (bl.drop (hf bl.length))).1),
      (rootP (bl.take (hf bl.length))).2 ++ (rootP (bl.drop (hf bl.length))).2 ++ [pr (c1 ++ (rootP (bl.take (hf bl.length))).1 ++ (rootP (bl.drop (hf bl.length))).1)]) := by
  rw [rootP, dif_neg (by omega), dif_neg (by omega)]
theorem rootP_size (bl : List ByteArray) : (rootP bl).1.size = 32 := by
  rcases Nat.lt_or_ge bl.length 2 with h | h
  · rcases Nat.lt_or_ge bl.length 1 with h0 | h0
    · rw [rootP_0 (by omega)]; exact sm_size _
    · match bl, h, h0 with
      | [b], _, _ => rw [rootP_1]; exact sm_size _
  · rw [rootP_2 h]; exact sm_size _
def stF (i n : Nat) : Nat :=
  if h : n < 2 then 0
  else
    have hk := hf_in (n := n) (by omega)
    if i < hf n then 1 + stF i (hf n) else 1 + stF (i - hf n) (n - hf n)
termination_by n
end Go.Proofs.YtbahklpdldghbaaGreatDoor.Mrk
end
section
namespace Go.Proofs.YtbahklpdldghbaaGreatDoor.Man
open Go Go.RowKit Go.Lib Oct Num Gap Csr Shd
def allF (ys : List (Int × Int)) (N E : Nat) : ByteArray := Blk.catK (partsF ys N E (cutM N E))
def manF (v : Int) (N E : Nat) (ys : List (Int × Int)) : MF := ⟨v, (N : Int), (ys.length : Int), tabF (fP E) (partsF ys N E (cutM N E)) (cutM N E), (Blk.cntK (allF ys N E).size : Int), (Mrk.rootP (Blk.cutK (allF ys N E))).1⟩
theorem man_len (v : Int) (N E : Nat) (ys : List (Int × Int)) : (manF v N E ys).sh.length = cutM N E := tabF_len _ _ _
theorem man_at (v : Int) {N E i : Nat} (ys : List (Int × Int)) (h : i < cutM N E) : (manF v N E ys).sh[i]? = some (((i * E : Nat) : Int), ((partF ys N E i).size : Int)) := by
  show (tabF (fP E) (partsF ys N E (cutM N E)) (cutM N E))[i]? = _;unfold tabF;rw [List.getElem?_map, List.getElem?_range h];simp only [Option.map_some];rw [List.getD_eq_getElem?_getD, partsF_at _ _ _ _ _ h]
  rfl
theorem man_fst (v : Int) {N E i : Nat} (ys : List (Int × Int)) (h : i < cutM N E) : fst (manF v N E ys).sh i = ((i * E : Nat) : Int) := by unfold fst; rw [List.getD_eq_getElem?_getD, man_at v ys h]; rfl
theorem man_byt (v : Int) {N E i : Nat} (ys : List (Int × Int)) (h : i < cutM N E) : byt (manF v N E ys).sh i = ((partF ys N E i).size : Int) := by unfold byt; rw [List.getD_eq_getElem?_getD, man_at v ys h]; rfl
theorem man_tot (v : Int) (N E : Nat) (ys : List (Int × Int)) : ∀ k, k ≤ cutM N E → totK (manF v N E ys).sh k = ((Blk.catK ((partsF ys N E (cutM N E)).take k)).size : Int)
  | 0, _ => rfl
  | k + 1, h => by
    rw [totK, man_tot v N E ys k (by omega), man_byt v ys (by omega), ← Blk.catK_take (partsF_at ys N E (cutM N E) k (by omega)), ByteArray.size_append];omega
theorem man_all (v : Int) (N E : Nat) (ys : List (Int × Int)) : tot (manF v N E ys) = ((allF ys N E).size : Int) := by
  unfold tot;rw [man_len, man_tot v N E ys _ (Nat.le_refl _), List.take_of_length_le (by rw [partsF_len]; exact Nat.le_refl _)]
  rfl
theorem ixF_1 (f : Int) (R : Nat → List Int) : ∀ k, 1 ≤ k → 1 ≤ (ixF f R k).length
  | 0, h => by omega
  | 1, _ => by
    rw [ixF, List.length_append];have := short_pos (rwF f R 0).length;simp;omega
  | k + 2, _ => by
    rw [ixF, List.length_append];have := ixF_1 f R (k + 1) (by omega);omega
theorem part_3 (ys : List (Int × Int)) {N E i : Nat} (h : 1 ≤ min E (N - i * E)) : 3 ≤ (partF ys N E i).size := by
  have e : (partF ys N E i).size = (shF (i * E) (min E (N - i * E)) (rowsF ys (i * E))).length := by
    unfold partF;exact bs_size _
  rw [e];unfold shF;simp only [List.length_append];have h1 := short_pos (i * E);have h2 := short_pos (min E (N - i * E));have h3 := ixF_1 ((i * E : Nat) : Int) (rowsF ys (i * E)) (min E (N - i * E)) h;omega
theorem man_good {v : Int} {N E : Nat} {ys : List (Int × Int)} (hv0 : 1 ≤ v) (hv1 : v ≤ 1099511627776) (hN : N ≤ 300) (hy : ys.length ≤ 200) (hE : 1 ≤ E) (hc : cutM N E ≤ 64) : Good (manF v N E ys) := by
  have hsm := parts_small (ys := ys) (N := N) (E := E) (k := cutM N E) hN hy hc;have hall := man_all v N E ys
  have hb : blkI (manF v N E ys) = (Blk.cntK (allF ys N E).size : Int) := by
    unfold blkI Blk.cntK;rw [hall];omega
  refine ⟨hv0, hv1, by show (0 : Int) ≤ (N : Int); omega, by show (N : Int) ≤ 4096; omega, by show (0 : Int) ≤ (ys.length : Int); omega, by show (ys.length : Int) ≤ 20000; omega, by rw [man_len]; exact hc, ?_, fun j hj => ?_, fun j hj => ?_, by rw [hb]; rfl, ?_, ?_⟩
  · rw [man_len]
    constructor
    · intro h;have := cutM_end (N := N) (E := E) hE;rw [h] at this;show (N : Int) = 0;omega
    · intro h;have h0 : (N : Int) = 0 := h;have : N = 0 := by omega
      rw [this, cutM_0 hE]
  · rw [man_len] at hj;have hl := cutM_lt hE hj;unfold badF;rw [man_fst v ys hj];rintro (⟨h1, h2⟩ | ⟨h1, h2⟩)
    · subst h1;simp at h2
    · have hj1 : j - 1 < cutM N E := by omega
      rw [man_fst v ys hj1] at h2
      have e : j * E = (j - 1) * E + E := by
        have : j = (j - 1) + 1 := by omega
        conv => lhs; rw [this, Nat.succ_mul]
      have hn : (manF v N E ys).n = (N : Int) := rfl;rw [hn] at h2;omega
  · rw [man_len] at hj;have hl := cutM_lt hE hj;rw [man_byt v ys hj];have h3 := part_3 ys (N := N) (E := E) (i := j) (by omega);have h4 := part_13 ys N E j;have h5 := bgn_le ys ((j * E + min E (N - j * E) : Nat) : Int);omega
  · rw [hb];have : (allF ys N E).size ≤ 12064 := hsm;unfold Blk.cntK;omega
  · exact Mrk.rootP_size _
end Go.Proofs.YtbahklpdldghbaaGreatDoor.Man
end
section
namespace Go.Proofs.YtbahklpdldghbaaGreatDoor.RowG
open Go Go.RowKit Go.Lib
variable {α : Type} {R : Rw α} {e : TypeId} {B : Nat} {F : List α}
structure PreG (R : Rw α) (e : TypeId) (B : Nat) (F : List α) (u u' : World) : Prop where
  size : u.heap.size ≤ u'.heap.size
  old : ∀ b, b < B → u'.heap[b]? = u.heap[b]?
  ones : ∀ (b : Nat) (c : Array Value), c.size = R.size → u.heap[b]? = some (.cells c e (0, 0)) → u'.heap[b]? = some (.cells c e (0, 0))
  rows : ∀ (A : Option Addr) (k c : Nat), k ≤ F.length → ROwn R e u B A k c (F.take k) → ROwn R e u' B A k c (F.take k)
theorem PreG.refl (u : World) : PreG R e B F u u := ⟨Nat.le_refl _, fun _ _ => rfl, fun _ _ _ h => h, fun _ _ _ _ h => h⟩
theorem PreG.of_below {u u' : World} (h : Below u.heap.size u u') (hB : B ≤ u.heap.size) : PreG R e B F u u' :=
  ⟨h.size, fun b hb => h.block b (by omega), fun b c _ hc => (h.block b (Array.getElem?_eq_some_iff.1 hc).1).trans hc, fun _ _ _ _ hr => hr.on h⟩
def TK (R : Rw α) (e : TypeId) (B : Nat) (F : List α) (k : Nat) : Value → World → Prop := fun v u => ∃ A c, v = .slice A k c ∧ ROwn R e u B A k c (F.take k)
theorem TK.keep {k : Nat} (hk : k ≤ F.length) : ∀ v u u', PreG R e B F u u' → TK R e B F k v u → TK R e B F k v u' := fun _ _ _ hG ⟨A, c, h1, h2⟩ => ⟨A, c, h1, hG.rows A k c hk h2⟩
def TB (R : Rw α) (e : TypeId) (B : Nat) (x : α) : Value → World → Prop := fun v u => ∃ b, v = .slice (some ⟨b, 0, none⟩) 1 1 ∧ B ≤ b ∧ u.heap[b]? = some (.cells (R.enc x).toArray e (0, 0))
theorem TB.keep {x : α} : ∀ v u u', PreG R e B F u u' → TB R e B x v u → TB R e B x v u' := fun _ _ _ hG ⟨b, h1, hB, h2⟩ => ⟨b, h1, hB, hG.ones b _ (by simp [R.len]) h2⟩
theorem TB.own {u : World} {b : Nat} {x : α} (hB : B ≤ b) (h : u.heap[b]? = some (.cells (R.enc x).toArray e (0, 0))) : ROwn R e u B (some ⟨b, 0, none⟩) 1 1 [x] := by
  refine ⟨rfl, by rw [cs_len]; rfl, .inr ⟨b, 1, _, rfl, hB, h, Nat.le_refl _, by unfold maxLen; omega, by simp [R.len], ?_⟩⟩;have : (R.enc x).length = 1 * R.size := by rw [R.len, Nat.one_mul]
  simp only [cs, List.flatMap_cons, List.flatMap_nil, List.append_nil];rw [← this, List.take_length]
def T0 (R : Rw α) (e : TypeId) (B : Nat) (F : List α) : Value → World → Prop := fun v u => ∃ b, v = .slice (some ⟨b, 0, none⟩) 0 0 ∧ ROwn R e u B (some ⟨b, 0, none⟩) 0 0 (F.take 0)
theorem T0.keep : ∀ v u u', PreG R e B F u u' → T0 R e B F v u → T0 R e B F v u' := fun _ _ _ hG ⟨b, h1, h2⟩ => ⟨b, h1, hG.rows _ 0 0 (Nat.zero_le _) h2⟩
theorem TB.rin {u : World} {b : Nat} {x : α} (h : u.heap[b]? = some (.cells (R.enc x).toArray e (0, 0))) : RIn R u (some ⟨b, 0, none⟩) [x] := fun i a hi => by
  have hS : St.St u b e (R.enc x).toArray := h
  cases i with
  | zero =>
    simp at hi;subst hi;refine ⟨b, 0, rfl, hS.lt, fun j v hv => ?_⟩;rw [Nat.zero_mul, Nat.zero_add, Nat.zero_add];exact hS.cell j (by simpa using hv)
  | succ i => simp at hi
end Go.Proofs.YtbahklpdldghbaaGreatDoor.RowG
end
section
namespace Go.Proofs.YtbahklpdldghbaaGreatDoor.RowG
open Go Go.RowKit Go.Lib
variable {α : Type} {R : Rw α} {e : TypeId} {B : Nat} {F : List α}
def TQ (R : Rw α) (e : TypeId) (B : Nat) (F : List α) (k : Nat) : Value → World → Prop := fun v u => ∃ A c, v = .slice A k c ∧ ROwn R e u B A k c (F.take k) ∧ (0 < k ∨ c = 0)
theorem TQ.keep {k : Nat} (hk : k ≤ F.length) : ∀ v u u', PreG R e B F u u' → TQ R e B F k v u → TQ R e B F k v u' := fun _ _ _ hG ⟨A, c, h1, h2, h3⟩ => ⟨A, c, h1, hG.rows A k c hk h2, h3⟩
end Go.Proofs.YtbahklpdldghbaaGreatDoor.RowG
namespace Go.Proofs.YtbahklpdldghbaaGreatDoor.Shd
open Go Go.RowKit Go.Lib Oct Num Gap RowG Edg Csr
section
variable {N E : Nat} {ys : List (Int × Int)}
theorem table_all (A : Option Addr) (ca : Nat) (w : World) (hs : Srt ys) (hg : Edg.Good (N : Int) ys) (hE : 1 ≤ E) (hA : RIn txR w A (partsF ys N E (cutM N E))) :
    Calls Tryz.prog 30 #[.int .i64 (N : Int), .slice A (cutM N E) ca] w fun e w' => ∃ gt, e = .returned (.tuple #[.slice (some ⟨gt, 0, none⟩) (cutM N E) (cutM N E), .nilIface]) ∧ Hold ipR w' gt (tabF (fP E) (partsF ys N E (cutM N E)) (cutM N E)) ∧ Below w.heap.size w w' := by
  have hN : (N : Int) ≤ 4096 := hg.hi;have hc := cutM_le (N := N) hE
  have h := table_yes A ca N (cutM N E) (partsF ys N E (cutM N E)) (fP E) (lP ys N E) w (by omega) (by rw [partsF_len]; omega) hA (fun k s _ hk => by
      have hk2 : k < cutM N E := by
        have := (List.getElem?_eq_some_iff.1 hk).1
        rwa [partsF_len] at this
      rw [partsF_at _ _ _ _ _ hk2] at hk;injection hk with hk
      subst hk
      exact gs_part hs hg hE hk2) (partsF_len ys N E _).symm
  rw [partsF_len] at h;exact h.mono fun e w' ⟨gt, he, hH, _, hb⟩ => ⟨gt, he, hH, hb⟩
end
end Go.Proofs.YtbahklpdldghbaaGreatDoor.Shd
end
