/- A part of the proof of ProbeEachCardSaid: texts that lead to it, merged. -/
import Derived.Test.YtchdlgdmomcemaaGreatDoorMPeb3
import Derived.IntWalk
import Derived.Laws.MakeOwn
import Derived.Laws.IdiomStrings
import Derived.Lib.UnsafeStr
import Derived.Lib.AppendStr
import Derived.Lib.BufferRead
import Derived.Deep.RegionHeld3
import Derived.Deep.AppendLies
import Derived.Deep.DrawnRows
import Derived.Maps.AppendAt
import Derived.Laws.OwnMore
import Derived.OneCell
import Derived.Shelf.SlicesG.Equal
import Derived.Deep.Upon
section
namespace Go.Proofs.YtchdlgdmomcemaaGreatDoor.Shd
open Go Go.RowKit Go.Lib Oct Num Gap RowG
def GRet (w : World) (r : (Int × Int) ⊕ (Int × List (List Int))) (e : Ending) (w' : World) : Prop := Below w.heap.size w w' ∧ ((∃ x a, r = .inl (x, a) ∧ x ≠ 0 ∧ e = .returned (.tuple #[.agg #[.int .i64 0, .slice none 0 0], faultV a x])) ∨
  ∃ f ls g, r = .inr (f, ls) ∧ e = .returned (.tuple #[.agg #[.int .i64 f, .slice (some ⟨g, 0, none⟩) ls.length ls.length], .nilIface]) ∧ LSpan w' (some ⟨g, 0, none⟩) ls w.heap.size w'.heap.size ∧ w.heap.size ≤ g ∧ g < w'.heap.size)
theorem badM_keep {b q y : Int} {rs : List (List Int × Int)} {ms : List (Int × Int)} {k : Nat} (hk : rs.length = k) (hm : k / 8 < ms.length) (h : badM b rs 0 (ms.take (marksN k)) = some y) (l : List Int) : badM b (rs ++ [(l, q)]) 0 (ms.take (marksN (k + 1))) = some y := by
  by_cases h8 : k % 8 = 0
  · rw [badM_mark hk h8 (List.getElem?_eq_getElem hm) l, h]
  · rw [badM_row hk h8 l, h]
set_option maxRecDepth 100000 in
set_option maxHeartbeats 8000000 in
theorem get_any (s : ByteArray) (N : Int) (w : World) (hs : s.size ≤ maxLen) (hN0 : 0 ≤ N) (hN : N ≤ 4096) :
    Calls Tryz.prog 71 #[.string s, .int .i64 N] w (GRet w (gsG s N)) := by
  refine Kn.Z.cl Tryz.func71 rfl Tryz.ntmps71 rfl (.c 0 rfl (.c 1 rfl .n)) ?_;refine Kn.Z.f fun K1 hK1=>?_;refine Kn.Z.s .o .alloc fun Ko Kp=>?_;go_simp;(try go_bits);refine Kp _ _ ?_;clear Kp Ko;refine Kn.Z.u (.a .c .n) ?_;refine Kn.Z.e hK1 ?_;clear hK1 K1;refine Kn.Z.g (fun v => St.St v w.heap.size 125 #[.int .i64 0, .slice none 0 0] ∧ Below w.heap.size w v) ⟨St.St.new _ _ _, (Below.refl _ w).alloc (Nat.le_refl _) _⟩ fun v0 hvv => ?_;have HS0 := Lib.hid hvv.1;have HB0 := Lib.hid hvv.2;obtain ⟨g4, hg4e⟩ : ∃ g, w.heap.size = g := ⟨_, rfl⟩;have hg4 : w.heap.size ≤ g4 := by omega
  have hg4l : g4 < v0.heap.size := by rw [← hg4e]; exact HS0.out.lt
  intro fa fh;rw [hg4e] at HS0 fh;clear hvv hg4e;have ho := open_any s N v0 hs hN0 hN;have hgs := gsG_op s N;rcases hr : opG s N with ⟨x, a⟩ | ⟨a, n, ms, b⟩
  · have hx : x ≠ 0 := opG_err hr
    have ho2 : Calls Tryz.prog 77 #[.string s, .int .i64 N] v0 fun e w' => e = .returned (.tuple #[.agg #[.int .i64 0, .int .i64 0, .slice none 0 0, .int .i64 0], .iface 135 (.agg #[.int .i64 a, .iface 66 (.int .i64 x)])]) ∧ Below v0.heap.size v0 w' := by
      refine ho.mono fun e w' hc => ?_;obtain ⟨hb, h⟩ := hc;rw [hr] at h;rcases h with ⟨x', a', he, -, hh⟩ | ⟨a', n', ms', b', g', he, -⟩
      · cases he; exact ⟨hh, hb⟩
      · cases he
    rw [hr] at hgs;have HF : Hid (gsG s N = .inl (x, a)) := Lib.hid hgs;have HX := Lib.hid hx;clear ho hr hgs hx
    revert fa
    refine Kn.Z.f fun K2 hK2=>?_;refine Kn.Z.u (.m (.t rfl) (.m (.t rfl) .n)) ?_;refine Kn.Z.c .o (.call (.c (.t rfl) (.c (.t rfl) .n))) Tryz.call77 (ho2) fun e uc hp=>?_;obtain ⟨rfl, hbc⟩ := hp;refine ⟨_,rfl,?_⟩;obtain ⟨ud, hud⟩ : ∃ q9, uc.alloc (.cells #[.int .i64 0, .int .i64 0, .slice none 0 0, .int .i64 0] 140) = q9 := ⟨_, rfl⟩;have hSd := St.St.new uc 140 #[.int .i64 0, .int .i64 0, .slice none 0 0, .int .i64 0];have hbd : Below uc.heap.size uc ud := by rw [← hud]; exact (Below.refl _ uc).alloc (Nat.le_refl _) _
    rw [hud] at hSd;obtain ⟨hst, hSe, hBe⟩ := hSd.store (P := Tryz.prog) (cells := #[.int .i64 0, .int .i64 0, .slice none 0 0, .int .i64 0]) (by kernel_rfl) rfl (by simp [Value.oneCell']);have hbz1 := (hbc.trans (hbd.mono hbc.size)).trans (hBe _ hbc.size);have hgez1 := hbc.size;have hbC := hbd.trans (hBe _ (Nat.le_refl _));clear hSd hbd hBe;refine Kn.Z.u (.m (.t rfl) (.x (.t rfl) rfl (.x (.t rfl) rfl .n))) ?_;refine Kn.Z.s .o .alloc fun Ko Kp=>?_;go_simp;try rw [hud]
    refine Kp _ _ ?_;clear Kp Ko;refine Kn.Z.su .o (.store (.t rfl) (.t rfl)) fun Ko Kp=>?_;refine Kn.satU_run hst ?_;refine Kp _ ?_;clear Kp Ko;refine Kn.Z.u (.a (.t rfl) .n) ?_;refine Kn.Z.e hK2 ?_;clear hK2 K2;clear hst hud;obtain ⟨z1, hzz⟩ : ∃ q9, ud.setRow uc.heap.size #[.int .i64 0, .int .i64 0, .slice none 0 0, .int .i64 0] = q9 := ⟨_, rfl⟩;rw [hzz] at hSe hbz1 hbC;intro fa fh;change Code.wp _ _ _ _ (ud.setRow uc.heap.size #[.int .i64 0, .int .i64 0, .slice none 0 0, .int .i64 0]);rw [hzz];clear hzz;have hltz1 := hSe.lt;clear hbC;generalize uc.heap.size = g6 at *;have HSz1 := Lib.hid hSe;clear hSe;clear ho2
    revert fa
    refine Kn.Z.q fun K3 hK3=>?_;refine Kn.Z.f fun K4 hK4=>?_;refine Kn.Z.u (.m (.t rfl) .n) ?_;refine Kn.Z.s .o (.bin (.t rfl) .c) fun Ko Kp=>?_;go_simp;(try go_bits);refine Kp _ _ ?_;clear Kp Ko;refine Kn.Z.e hK4 ?_;clear hK4 K4;refine Kn.Z.y (.t rfl) ?_;obtain ⟨hst, hS2, hB2⟩ := (HS0.out.on hbz1).store (P := Tryz.prog) (cells := #[.int .i64 0, .slice none 0 0]) (by kernel_rfl) rfl (by simp [Value.oneCell']);refine Kn.Z.f fun K5 hK5=>?_;refine Kn.Z.s .o (.build .n) fun Ko Kp=>?_;go_simp;(try go_bits);refine Kp _ _ ?_;clear Kp Ko;refine Kn.Z.u (.m (.t rfl) .n) ?_;refine Kn.Z.su .o (.store (.t rfl) (.t rfl)) fun Ko Kp=>?_;rw [hst];refine Kp _ ?_;clear Kp Ko;refine Kn.Z.u (.a (.t rfl) .n) ?_;refine Kn.Z.e hK5 ?_;clear hK5 K5;refine Kn.Z.t (.c 5 rfl (.c 7 rfl (.c 6 rfl (.c 4 rfl (.c 0 rfl (.c 1 rfl .n)))))) ?_;intro fb fg;refine wp_ret ?_;refine Kn.then_ret ?_;exact Kn.retS2 fg rfl rfl rfl hS2 Tryz.underlying125 rfl (by kernel_rfl) ⟨(HB0.out.trans (hbz1.mono HB0.out.size)).trans (hB2 _ hg4), .inl ⟨_, _, HF.out, HX.out, rfl⟩⟩
  have ho2 : Calls Tryz.prog 77 #[.string s, .int .i64 N] v0 fun e w' => ∃ gi, e = .returned (.tuple #[.agg #[.int .i64 a, .int .i64 (n : Int), .slice (some ⟨gi, 0, none⟩) (marksN n) (marksN n), .int .i64 b], .nilIface]) ∧ Hold ipR w' gi ms ∧ v0.heap.size ≤ gi ∧ Below v0.heap.size v0 w' := by
    refine ho.mono fun e w' hc => ?_;obtain ⟨hb, h⟩ := hc;rw [hr] at h;rcases h with ⟨x', a', he, -, hh⟩ | ⟨a', n', ms', b', g', he, hh, h1, h2⟩
    · cases he
    · cases he; exact ⟨g', hh, h1, h2, hb⟩
  rw [hr] at hgs;have HG : Hid (gsG s N = gs3 s N a n b ms) := Lib.hid hgs;obtain ⟨ha0, hn1, han, hml, hb0, hbs, hmn⟩ := opG_ok hr;have hn4 : n ≤ 4096 := by omega
  have HML := Lib.hid hml;have HMN := Lib.hid hmn;clear ho hr hgs hml hmn
  revert fa
  refine Kn.Z.f fun K2 hK2=>?_;refine Kn.Z.u (.m (.t rfl) (.m (.t rfl) .n)) ?_;refine Kn.Z.c .o (.call (.c (.t rfl) (.c (.t rfl) .n))) Tryz.call77 (ho2) fun e uc hp=>?_;obtain ⟨gi, rfl, hHi, hgi, hbc⟩ := hp;refine ⟨_,rfl,?_⟩;obtain ⟨ud, hud⟩ : ∃ q9, uc.alloc (.cells #[.int .i64 0, .int .i64 0, .slice none 0 0, .int .i64 0] 140) = q9 := ⟨_, rfl⟩;have hSd := St.St.new uc 140 #[.int .i64 0, .int .i64 0, .slice none 0 0, .int .i64 0];have hbd : Below uc.heap.size uc ud := by rw [← hud]; exact (Below.refl _ uc).alloc (Nat.le_refl _) _
  rw [hud] at hSd;obtain ⟨hst, hSe, hBe⟩ := hSd.store (P := Tryz.prog) (cells := #[.int .i64 a, .int .i64 (n : Int), .slice (some ⟨gi, 0, none⟩) (marksN n) (marksN n), .int .i64 b]) (by kernel_rfl) rfl (by simp [Value.oneCell']);have hbz1 := (hbc.trans (hbd.mono hbc.size)).trans (hBe _ hbc.size);have hgez1 := hbc.size;have hbC := hbd.trans (hBe _ (Nat.le_refl _));clear hSd hbd hBe;refine Kn.Z.u (.m (.t rfl) (.x (.t rfl) rfl (.x (.t rfl) rfl .n))) ?_;refine Kn.Z.s .o .alloc fun Ko Kp=>?_;go_simp;try rw [hud]
  refine Kp _ _ ?_;clear Kp Ko;refine Kn.Z.su .o (.store (.t rfl) (.t rfl)) fun Ko Kp=>?_;refine Kn.satU_run hst ?_;refine Kp _ ?_;clear Kp Ko;refine Kn.Z.u (.a (.t rfl) .n) ?_;refine Kn.Z.e hK2 ?_;clear hK2 K2;clear hst hud;obtain ⟨z1, hzz⟩ : ∃ q9, ud.setRow uc.heap.size #[.int .i64 a, .int .i64 (n : Int), .slice (some ⟨gi, 0, none⟩) (marksN n) (marksN n), .int .i64 b] = q9 := ⟨_, rfl⟩;rw [hzz] at hSe hbz1 hbC;intro fa fh;change Code.wp _ _ _ _ (ud.setRow uc.heap.size #[.int .i64 a, .int .i64 (n : Int), .slice (some ⟨gi, 0, none⟩) (marksN n) (marksN n), .int .i64 b]);rw [hzz];clear hzz;have hltz1 := hSe.lt;have HHi : Hid (Hold ipR z1 gi ms) := Lib.hid (hHi.on hbC);have hgi6 : gi < uc.heap.size := hHi.1;clear hHi;clear hbC;generalize uc.heap.size = g6 at *;have HSz1 := Lib.hid hSe;clear hSe;clear ho2;obtain ⟨w5, hmk, hO5, hb5⟩ := makeG (P := Tryz.prog) slR elemLs (none, 0, 0) rfl z1 n (by show n * 1 ≤ _; omega) (by omega) (by omega);have c1 := HSz1.out.cell 1 rfl
  revert fa
  refine Kn.Z.q fun K3 hK3=>?_;refine Kn.Z.f fun K4 hK4=>?_;refine Kn.Z.u (.m (.t rfl) .n) ?_;refine Kn.Z.s .o (.bin (.t rfl) .c) fun Ko Kp=>?_;go_simp;(try go_bits);refine Kp _ _ ?_;clear Kp Ko;refine Kn.Z.e hK4 ?_;clear hK4 K4;refine Kn.Z.no (.t rfl) ?_;refine Kn.Z.j hK3 ?_;clear hK3 K3;refine Kn.Z.f fun K5 hK5=>?_;refine Kn.Z.s .o (.fieldAddr (.t rfl)) fun Ko Kp=>?_;go_simp;(try go_bits);refine Kp _ _ ?_;clear Kp Ko;refine Kn.Z.s .o (.load (.t rfl)) fun Ko Kp=>?_;go_simp;(try go_bits);refine Kp _ _ ?_;clear Kp Ko;refine Kn.Z.k .o (.makeSlice (.t rfl) (.t rfl)) hmk ?_;refine Kn.Z.u (.a (.t rfl) .n) ?_;refine Kn.Z.e hK5 ?_;clear hK5 K5;refine Kn.Z.t (.c 8 rfl (.c 7 rfl (.c 6 rfl (.c 5 rfl (.c 4 rfl (.c 0 rfl (.c 1 rfl .n))))))) ?_;clear hmk c1;obtain ⟨gr, hgre⟩ : ∃ g, z1.heap.size = g := ⟨_, rfl⟩;intro fa fh;rw [hgre] at hO5 fh;have hg6r : g6 < gr := by rw [← hgre]; exact hltz1
  have hgir : gi < gr := by omega
  have hg4r : g4 < gr := by omega
  have HB1 := Lib.hid (HB0.out.trans (hbz1.mono HB0.out.size));have hwr : w.heap.size ≤ gr := by rw [← hgre]; exact HB1.out.size
  have HL5 : Hid (LHold w5 gr n []) := Lib.hid (LHold.start (Fill.start hO5));have HS5 : Hid (St.St w5 g6 140 #[.int .i64 a, .int .i64 (n : Int), .slice (some ⟨gi, 0, none⟩) (marksN n) (marksN n), .int .i64 b]) := Lib.hid (HSz1.out.on hb5);have HI5 := Lib.hid (HHi.out.on hb5);have HZ5 := Lib.hid ((HS0.out.on hbz1).on hb5);have HB5 := Lib.hid (HB1.out.trans (hb5.mono HB1.out.size));clear hO5 hb5 hbz1 HSz1 HHi HS0 HB0 HB1 hgre;have c1 := HS5.out.cell 1 rfl;have c3 := HS5.out.cell 3 rfl
  revert fa
  refine Kn.Z.f fun K6 hK6=>?_;refine Kn.Z.s .o (.fieldAddr (.t rfl)) fun Ko Kp=>?_;go_simp;(try go_bits);refine Kp _ _ ?_;clear Kp Ko;refine Kn.Z.s .o (.load (.t rfl)) fun Ko Kp=>?_;go_simp;(try go_bits);refine Kp _ _ ?_;clear Kp Ko;refine Kn.Z.u (.a (.t rfl) .n) ?_;refine Kn.Z.e hK6 ?_;clear hK6 K6;refine Kn.Z.f fun K7 hK7=>?_;refine Kn.Z.u (.a .c .n) ?_;refine Kn.Z.e hK7 ?_;clear hK7 K7;refine Kn.Z.q fun K8 hK8=>?_;refine Kn.Z.f fun K9 hK9=>?_;refine Kn.Z.s .o (.fieldAddr (.t rfl)) fun Ko Kp=>?_;go_simp;(try go_bits);refine Kp _ _ ?_;clear Kp Ko;refine Kn.Z.s .o (.load (.t rfl)) fun Ko Kp=>?_;go_simp;(try go_bits);refine Kp _ _ ?_;clear Kp Ko;refine Kn.Z.u (.m .c .n) ?_;refine Kn.Z.e hK9 ?_;clear hK9 K9;clear c1 c3;refine Kn.Z.b ?_;intro fb fg;refine Kn.loop (fun m fr u => ∃ (k j : Nat) (q : Int) (rs : List (List Int × Int)) (B1 : Option Int), Kn.Kn 98 [(29, .int .i64 (k : Int)), (28, .int .i64 (n : Int)), (8, .slice (some ⟨gr, 0, none⟩) n n), (9, .int .i64 q), (10, wV B1), (6, .pointer (some ⟨g6, 0, none⟩)), (0, .string s), (1, .int .i64 N), (4, .pointer (some ⟨g4, 0, none⟩))] fr ∧ k + j = n ∧ m = j ∧ (0 ≤ q ∧ q ≤ s.size) ∧ Hid (rs.length = k) ∧ Hid (RwYet s N j (a + (k : Int)) q rs (rwG s N n a b)) ∧ Hid (badM b rs 0 (ms.take (marksN k)) = B1) ∧ Hid (LHold u gr n (rs.map (·.1))) ∧ Hid (St.St u g6 140 #[.int .i64 a, .int .i64 (n : Int), .slice (some ⟨gi, 0, none⟩) (marksN n) (marksN n), .int .i64 b]) ∧ Hid (Hold ipR u gi ms) ∧ Hid (St.St u g4 125 #[.int .i64 0, .slice none 0 0]) ∧ Hid (Below w.heap.size w u)) n ⟨0, n, b, [], none, fg.cut (.u 29 rfl rfl (.c 28 rfl (.c 8 rfl (.c 9 rfl (.u 10 rfl rfl (.c 6 rfl (.c 0 rfl (.c 1 rfl (.c 4 rfl .n))))))))), by omega, rfl, by omega, Lib.hid rfl, Lib.hid (by rw [show a + ((0 : Nat) : Int) = a by omega]; exact RwYet.start), Lib.hid rfl, HL5, HS5, HI5, HZ5, HB5⟩ ?_;clear fg fb;intro m10 fa u hI Kl10 hKl10;obtain ⟨k, j, q, rs, B1, fh, hkj, hmj, hq, HRl, HT, HBm, HL, HS, HI, HZ, HB⟩ := hI;clear HL5 HS5 HI5 HZ5 HB5;rcases j with _ | j
  · obtain rfl : k = n := by omega
    have HRw : Hid (rwG s N k a b = .inr (rs, q)) := Lib.hid HT.out.done;have HG4 : Hid (gsG s N = gs4 s a q rs B1) := Lib.hid (by rw [HG.out]; unfold gs3; rw [HRw.out]; simp only; rw [← HBm.out, List.take_of_length_le (by rw [HML.out]; exact Nat.le_refl _)]);clear HT HG HRw
    revert fa
    refine Kn.Z.f fun K11 hK11=>?_;refine Kn.Z.s .o (.bin (.t rfl) (.t rfl)) fun Ko Kp=>?_;go_simp;(try go_bits);refine Kp _ _ ?_;clear Kp Ko;refine Kn.Z.e hK11 ?_;clear hK11 K11;refine Kn.Z.q fun K12 hK12=>?_;refine Kn.Z.no (.t rfl) ?_;refine Kn.Z.t (.c 29 rfl (.c 28 rfl (.c 8 rfl (.c 9 rfl (.c 10 rfl (.c 6 rfl (.c 0 rfl (.c 1 rfl (.c 4 rfl .n))))))))) ?_;intro fb fg;refine wp_exit ?_;refine Kn.then_exit ?_;clear hK12 K12;refine Kn.then_exit ?_;clear hKl10 Kl10;refine Kn.block_exit ?_;refine hK8 _ _ ?_;clear hK8 K8;rcases B1 with _ | pl
    · revert fb
      refine Kn.Z.t (.c 8 rfl (.c 9 rfl (.u 10 rfl (show wV none = .nilIface from rfl) (.c 6 rfl (.c 0 rfl (.c 4 rfl .n)))))) ?_;refine Kn.Z.q fun K13 hK13=>?_;refine Kn.Z.f fun K14 hK14=>?_;refine Kn.Z.u (.m (.t rfl) .n) ?_;refine Kn.Z.s .o (.bin (.t rfl) .c) fun Ko Kp=>?_;go_simp;(try go_bits);refine Kp _ _ ?_;clear Kp Ko;refine Kn.Z.e hK14 ?_;clear hK14 K14;refine Kn.Z.no (.t rfl) ?_;refine Kn.Z.j hK13 ?_;clear hK13 K13
      by_cases hqs : q < s.size
      · have HF : Hid (gsG s N = .inl (4, q)) := Lib.hid (by rw [HG4.out]; unfold gs4; simp only; rw [if_pos hqs]);have hf := sfault_any q 66 (.int .i64 4) u;unfold flt at hf;refine Kn.Z.q fun K15 hK15=>?_;refine Kn.Z.f fun K16 hK16=>?_;refine Kn.Z.u (.m (.t rfl) (.m (.t rfl) .n)) ?_;refine Kn.Z.s .o (.len (.t rfl)) fun Ko Kp=>?_;go_simp;(try go_bits);refine Kp _ _ ?_;clear Kp Ko;refine Kn.Z.s .o (.bin (.t rfl) (.t rfl)) fun Ko Kp=>?_;go_simp;(try go_bits);refine Kp _ _ ?_;clear Kp Ko;refine Kn.Z.e hK16 ?_;clear hK16 K16;refine Kn.Z.y (.t rfl) ?_;obtain ⟨hst, hS2, hB2⟩ := HZ.out.store (P := Tryz.prog) (cells := #[.int .i64 0, .slice none 0 0]) (by kernel_rfl) rfl (by simp [Value.oneCell']);refine Kn.Z.f fun K17 hK17=>?_;refine Kn.Z.s .o (.build .n) fun Ko Kp=>?_;go_simp;(try go_bits);refine Kp _ _ ?_;clear Kp Ko;refine Kn.Z.u (.m (.t rfl) .n) ?_;refine Kn.Z.s .o (.makeInterface .c) fun Ko Kp=>?_;go_simp;(try go_bits);refine Kp _ _ ?_;clear Kp Ko;refine Kn.Z.c .o (.call (.c (.t rfl) (.c (.t rfl) .n))) Tryz.call72 (hf) fun e wx hp=>?_;obtain ⟨rfl, rfl⟩ := hp;refine ⟨_,rfl,?_⟩;refine Kn.Z.su .o (.store (.t rfl) (.t rfl)) fun Ko Kp=>?_;rw [hst];refine Kp _ ?_;clear Kp Ko;refine Kn.Z.u (.a (.t rfl) .n) ?_;refine Kn.Z.e hK17 ?_;clear hK17 K17;refine Kn.Z.t (.c 5 rfl (.c 8 rfl (.c 6 rfl (.c 4 rfl .n)))) ?_;intro fa fh;refine wp_ret ?_;refine Kn.then_ret ?_;exact Kn.retS2 fh rfl rfl rfl hS2 Tryz.underlying125 rfl (by kernel_rfl) ⟨HB.out.trans (hB2 _ hg4), .inl ⟨_, _, HF.out, by decide, rfl⟩⟩
      have HF : Hid (gsG s N = .inr (a, rs.map (·.1))) := Lib.hid (by rw [HG4.out]; unfold gs4; simp only; rw [if_neg hqs]);have hnq : ¬ q < s.size := hqs;have HLn : Hid ((rs.map (·.1)).length = k) := Lib.hid (by rw [List.length_map]; exact HRl.out);have hLi := HL.out;have hgrl := HL.out.lt;have c0 := HS.out.cell 0 rfl;refine Kn.Z.q fun K15 hK15=>?_;refine Kn.Z.f fun K16 hK16=>?_;refine Kn.Z.u (.m (.t rfl) (.m (.t rfl) .n)) ?_;refine Kn.Z.s .o (.len (.t rfl)) fun Ko Kp=>?_;go_simp;(try go_bits);refine Kp _ _ ?_;clear Kp Ko;refine Kn.Z.s .o (.bin (.t rfl) (.t rfl)) fun Ko Kp=>?_;go_simp;(try go_bits);refine Kp _ _ ?_;clear Kp Ko;refine Kn.Z.e hK16 ?_;clear hK16 K16;refine Kn.Z.no (.t rfl) ?_;refine Kn.Z.j hK15 ?_;clear hK15 K15;obtain ⟨hst, hS2, hB2⟩ := HZ.out.store (P := Tryz.prog) (cells := #[.int .i64 a, .slice (some ⟨gr, 0, none⟩) k k]) (by kernel_rfl) rfl (by simp [Value.oneCell']);refine Kn.Z.f fun K17 hK17=>?_;refine Kn.Z.s .o (.fieldAddr (.t rfl)) fun Ko Kp=>?_;go_simp;(try go_bits);refine Kp _ _ ?_;clear Kp Ko;refine Kn.Z.s .o (.load (.t rfl)) fun Ko Kp=>?_;go_simp;(try go_bits);refine Kp _ _ ?_;clear Kp Ko;refine Kn.Z.u (.m (.t rfl) .n) ?_;refine Kn.Z.s .o (.build (.c (.t rfl) (.c (.t rfl) .n))) fun Ko Kp=>?_;go_simp;(try go_bits);refine Kp _ _ ?_;clear Kp Ko;refine Kn.Z.su .o (.store (.t rfl) (.t rfl)) fun Ko Kp=>?_;rw [hst];refine Kp _ ?_;clear Kp Ko;refine Kn.Z.u (.a .c .n) ?_;refine Kn.Z.e hK17 ?_;clear hK17 K17;refine Kn.Z.t (.c 5 rfl (.c 4 rfl .n)) ?_;intro fa fh;refine wp_ret ?_;refine Kn.retS2 fh rfl rfl rfl hS2 Tryz.underlying125 rfl (by kernel_rfl) ⟨HB.out.trans (hB2 _ hg4), .inr ⟨a, rs.map (·.1), gr, HF.out, by rw [HLn.out], (LHold.span (n := k) (hLi.up (Nat.le_of_eq (by simp)) fun b hb => setRow_other u g4 b _ (by omega))).mono hwr (Nat.le_refl _), hwr, by simpa using hgrl⟩⟩
    revert fb
    refine Kn.Z.t (.c 8 rfl (.c 9 rfl (.u 10 rfl (show wV (some pl) = .iface 135 (.agg #[.int .i64 pl, .iface 66 (.int .i64 4)]) from rfl) (.c 6 rfl (.c 0 rfl (.c 4 rfl .n)))))) ?_;have HF : Hid (gsG s N = .inl (4, pl)) := Lib.hid (by rw [HG4.out]; rfl);refine Kn.Z.q fun K13 hK13=>?_;refine Kn.Z.f fun K14 hK14=>?_;refine Kn.Z.u (.m (.t rfl) .n) ?_;refine Kn.Z.s .o (.bin (.t rfl) .c) fun Ko Kp=>?_;go_simp;(try go_bits);refine Kp _ _ ?_;clear Kp Ko;refine Kn.Z.e hK14 ?_;clear hK14 K14;refine Kn.Z.y (.t rfl) ?_;obtain ⟨hst, hS2, hB2⟩ := HZ.out.store (P := Tryz.prog) (cells := #[.int .i64 0, .slice none 0 0]) (by kernel_rfl) rfl (by simp [Value.oneCell']);refine Kn.Z.f fun K15 hK15=>?_;refine Kn.Z.s .o (.build .n) fun Ko Kp=>?_;go_simp;(try go_bits);refine Kp _ _ ?_;clear Kp Ko;refine Kn.Z.u (.m (.t rfl) .n) ?_;refine Kn.Z.su .o (.store (.t rfl) (.t rfl)) fun Ko Kp=>?_;rw [hst];refine Kp _ ?_;clear Kp Ko;refine Kn.Z.u (.a (.t rfl) .n) ?_;refine Kn.Z.e hK15 ?_;clear hK15 K15;intro fa fh;refine wp_ret ?_;refine Kn.then_ret ?_;exact Kn.retS2 fh rfl rfl rfl hS2 Tryz.underlying125 rfl (by kernel_rfl) ⟨HB.out.trans (hB2 _ hg4), .inl ⟨_, _, HF.out, by decide, rfl⟩⟩
  have hlt : k < n := by omega
  have hk8 : k / 8 < ms.length := by rw [HML.out]; unfold marksN; omega
  revert fa
  refine Kn.Z.f fun K11 hK11=>?_;refine Kn.Z.s .o (.bin (.t rfl) (.t rfl)) fun Ko Kp=>?_;go_simp;(try go_bits);refine Kp _ _ ?_;clear Kp Ko;refine Kn.Z.e hK11 ?_;clear hK11 K11;refine Kn.Z.q fun K12 hK12=>?_;refine Kn.Z.y (.t rfl) ?_;refine Kn.Z.j hK12 ?_;clear hK12 K12;refine Kn.Z.t (.c 29 rfl (.c 28 rfl (.c 8 rfl (.c 9 rfl (.c 10 rfl (.c 6 rfl (.c 0 rfl (.c 1 rfl (.c 4 rfl .n))))))))) ?_;refine Kn.Z.q fun K13 hK13=>?_;refine Kn.Z.b ?_;refine Kn.Z.f fun K14 hK14=>?_;refine Kn.Z.u (.m (.t rfl) (.a (.t rfl) .n)) ?_;refine Kn.Z.e hK14 ?_;clear hK14 K14;refine Kn.Z.q fun K15 hK15=>?_;intro fb fg;refine Kn.join (fun fr v => ∃ (B2 : Option Int) (r : Nat), Kn.Kn 98 [(29, .int .i64 (k : Int)), (28, .int .i64 (n : Int)), (8, .slice (some ⟨gr, 0, none⟩) n n), (9, .int .i64 q), (10, wV B2), (6, .pointer (some ⟨g6, 0, none⟩)), (0, .string s), (1, .int .i64 N), (4, .pointer (some ⟨g4, 0, none⟩)), (11, .int .i64 (k : Int))] fr ∧ Hid (∀ l, badM b (rs ++ [(l, q)]) 0 (ms.take (marksN (k + 1))) = B2) ∧ v = u.drewN r) ?_ ?_
  · rcases B1 with _ | pl
    · revert fb
      refine Kn.Z.t (.c 11 rfl (.c 29 rfl (.c 28 rfl (.c 8 rfl (.c 9 rfl (.u 10 rfl (show wV none = .nilIface from rfl) (.c 6 rfl (.c 0 rfl (.c 1 rfl (.c 4 rfl .n)))))))))) ?_;obtain ⟨m1, p1, hmp⟩ : ∃ m p, ms[k / 8]? = some (m, p) := ⟨_, _, List.getElem?_eq_getElem hk8⟩;have hr8 : (k : Int).tmod 8 = (k : Int) % 8 := Int.tmod_eq_emod_of_nonneg (by omega)
      by_cases h8 : k % 8 = 0
      · have q8 : ((k : Int) % 8 == 0) = true := by rw [beq_iff_eq]; omega
        obtain ⟨d, hd⟩ : ∃ d, k / 8 = d := ⟨_, rfl⟩;have hdM : d < marksN n := by rw [← hd, ← HML.out]; exact hk8
        have r2 : (k : Int).tdiv 8 = (d : Int) := by rw [Int.tdiv_eq_ediv_of_nonneg (by omega)]; omega
        have hdl : d < ms.length := by rw [← hd]; exact hk8
        have hmd : ms[d] = (m1, p1) := by rw [hd] at hmp; exact (List.getElem?_eq_some_iff.1 hmp).2
        have m0 := ip_cell0 HI.out d hdl;have m2 := ip_cell1 HI.out d hdl;rw [hmd] at m0 m2;have hmb := HMN.out (m1, p1) (hmd ▸ List.getElem_mem hdl);simp only at hmb;have c2 := HS.out.cell 2 rfl;have c3 := HS.out.cell 3 rfl;obtain ⟨dq, hdq⟩ : ∃ d, q - b = d := ⟨_, rfl⟩;have hMb : marksN n ≤ 600 := by unfold marksN; omega
        have hbm := fun l => badM_mark (b := b) (q := q) HRl.out h8 hmp l;rw [HBm.out] at hbm;simp only at hbm;rw [hdq] at hbm;have HBM := Lib.hid hbm;clear hbm hmd hmp hd h8;have hszm : s.size ≤ 9223372036854775807 := hs;generalize marksN n = M at *
        by_cases hm : m1 = dq
        · have qm : (m1 != dq) = false := by simp [hm]
          refine Kn.Z.q fun K16 hK16=>?_;refine Kn.Z.st (by kernel_rfl) (by kernel_rfl) ?_;refine Kn.Z.us (.m (.t rfl) .n) ?_;refine Kn.Z.ss .o (.bin (.t rfl) .c) fun Ko Kp=>?_;go_simp;(try go_bits);refine Kp _ ?_;clear Kp Ko;refine Kn.Z.us (.m (.t rfl) (.e (.s rfl rfl rfl) (.move (.t rfl)) .n)) ?_;refine Kn.Z.ss (.s rfl rfl rfl) (.bin (.t rfl) .c) fun Ko Kp=>?_;go_simp;(try go_bits);try rw [hr8]
          try go_simp
          (try go_bits);refine Kp _ ?_;clear Kp Ko;refine Kn.Z.ss (.s rfl rfl rfl) (.bin (.t rfl) .c) fun Ko Kp=>?_;go_simp;(try go_bits);refine Kp _ ?_;clear Kp Ko;refine Kn.Z.us (.e .o (.pick (.t rfl) (.t rfl)) (.m (.t rfl) .n)) ?_;refine Kn.Z.ss (.s rfl rfl rfl) (.fieldAddr (.t rfl)) fun Ko Kp=>?_;go_simp;(try go_bits);refine Kp _ ?_;clear Kp Ko;refine Kn.Z.ss (.s rfl rfl rfl) (.load (.t rfl)) fun Ko Kp=>?_;go_simp;(try go_bits);refine Kp _ ?_;clear Kp Ko;refine Kn.Z.us (.e (.s rfl rfl rfl) (.move (.t rfl)) .n) ?_;refine Kn.Z.ss (.s rfl rfl rfl) (.bin (.t rfl) .c) fun Ko Kp=>?_;go_simp;(try go_bits);try rw [r2]
          try go_simp
          (try go_bits);refine Kp _ ?_;clear Kp Ko;refine Kn.Z.ss (.s rfl rfl rfl) (.indexAddr (.t rfl) (.t rfl)) fun Ko Kp=>?_;go_simp;(try go_bits);refine Kp _ ?_;clear Kp Ko;refine Kn.Z.ss (.s rfl rfl rfl) (.fieldAddr (.t rfl)) fun Ko Kp=>?_;go_simp;(try go_bits);refine Kp _ ?_;clear Kp Ko;refine Kn.Z.ss (.s rfl rfl rfl) (.load (.t rfl)) fun Ko Kp=>?_;go_simp;(try go_bits);refine Kp _ ?_;clear Kp Ko;refine Kn.Z.us (.e (.s rfl rfl rfl) (.move (.t rfl)) .n) ?_;refine Kn.Z.ss (.s rfl rfl rfl) (.fieldAddr (.t rfl)) fun Ko Kp=>?_;go_simp;(try go_bits);refine Kp _ ?_;clear Kp Ko;refine Kn.Z.ss (.s rfl rfl rfl) (.load (.t rfl)) fun Ko Kp=>?_;go_simp;(try go_bits);refine Kp _ ?_;clear Kp Ko;refine Kn.Z.ss (.s rfl rfl rfl) (.bin (.t rfl) (.t rfl)) fun Ko Kp=>?_;go_simp;(try go_bits);try rw [hdq]
          try go_simp
          (try go_bits);refine Kp _ ?_;clear Kp Ko;refine Kn.Z.ss (.s rfl rfl rfl) (.bin (.t rfl) (.t rfl)) fun Ko Kp=>?_;go_simp;(try go_bits);refine Kp _ ?_;clear Kp Ko;refine Kn.Z.us (.e .o (.pick (.t rfl) (.t rfl)) .n) ?_;refine Kn.Z.se hK16 ?_;clear hK16 K16;refine Kn.Z.t (.c 52 rfl (.c 11 rfl (.c 29 rfl (.c 28 rfl (.c 8 rfl (.c 9 rfl (.c 10 rfl (.c 6 rfl (.c 0 rfl (.c 1 rfl (.c 4 rfl .n))))))))))) ?_;refine Kn.Z.no (.t rfl) ?_;intro fa fh;refine wp_skip ?_;replace fh := fh.cut (.c 11 rfl (.c 29 rfl (.c 28 rfl (.c 8 rfl (.c 9 rfl (.c 10 rfl (.c 6 rfl (.c 0 rfl (.c 1 rfl (.c 4 rfl .n))))))))));exact ⟨none, 1, fh.cut (.c 29 rfl (.c 28 rfl (.c 8 rfl (.c 9 rfl (.u 10 rfl rfl (.c 6 rfl (.c 0 rfl (.c 1 rfl (.c 4 rfl (.c 11 rfl .n)))))))))), Lib.hid (fun l => by rw [HBM.out l, if_pos hm]), rfl⟩
        have qm : (m1 != dq) = true := by simp [hm]
        have hf := sfault_any p1 66 (.int .i64 4) u.drew;refine Kn.Z.q fun K16 hK16=>?_;refine Kn.Z.st (by kernel_rfl) (by kernel_rfl) ?_;refine Kn.Z.us (.m (.t rfl) .n) ?_;refine Kn.Z.ss .o (.bin (.t rfl) .c) fun Ko Kp=>?_;go_simp;(try go_bits);refine Kp _ ?_;clear Kp Ko;refine Kn.Z.us (.m (.t rfl) (.e (.s rfl rfl rfl) (.move (.t rfl)) .n)) ?_;refine Kn.Z.ss (.s rfl rfl rfl) (.bin (.t rfl) .c) fun Ko Kp=>?_;go_simp;(try go_bits);try rw [hr8]
        try go_simp
        (try go_bits);refine Kp _ ?_;clear Kp Ko;refine Kn.Z.ss (.s rfl rfl rfl) (.bin (.t rfl) .c) fun Ko Kp=>?_;go_simp;(try go_bits);refine Kp _ ?_;clear Kp Ko;refine Kn.Z.us (.e .o (.pick (.t rfl) (.t rfl)) (.m (.t rfl) .n)) ?_;refine Kn.Z.ss (.s rfl rfl rfl) (.fieldAddr (.t rfl)) fun Ko Kp=>?_;go_simp;(try go_bits);refine Kp _ ?_;clear Kp Ko;refine Kn.Z.ss (.s rfl rfl rfl) (.load (.t rfl)) fun Ko Kp=>?_;go_simp;(try go_bits);refine Kp _ ?_;clear Kp Ko;refine Kn.Z.us (.e (.s rfl rfl rfl) (.move (.t rfl)) .n) ?_;refine Kn.Z.ss (.s rfl rfl rfl) (.bin (.t rfl) .c) fun Ko Kp=>?_;go_simp;(try go_bits);try rw [r2]
        try go_simp
        (try go_bits);refine Kp _ ?_;clear Kp Ko;refine Kn.Z.ss (.s rfl rfl rfl) (.indexAddr (.t rfl) (.t rfl)) fun Ko Kp=>?_;go_simp;(try go_bits);refine Kp _ ?_;clear Kp Ko;refine Kn.Z.ss (.s rfl rfl rfl) (.fieldAddr (.t rfl)) fun Ko Kp=>?_;go_simp;(try go_bits);refine Kp _ ?_;clear Kp Ko;refine Kn.Z.ss (.s rfl rfl rfl) (.load (.t rfl)) fun Ko Kp=>?_;go_simp;(try go_bits);refine Kp _ ?_;clear Kp Ko;refine Kn.Z.us (.e (.s rfl rfl rfl) (.move (.t rfl)) .n) ?_;refine Kn.Z.ss (.s rfl rfl rfl) (.fieldAddr (.t rfl)) fun Ko Kp=>?_;go_simp;(try go_bits);refine Kp _ ?_;clear Kp Ko;refine Kn.Z.ss (.s rfl rfl rfl) (.load (.t rfl)) fun Ko Kp=>?_;go_simp;(try go_bits);refine Kp _ ?_;clear Kp Ko;refine Kn.Z.ss (.s rfl rfl rfl) (.bin (.t rfl) (.t rfl)) fun Ko Kp=>?_;go_simp;(try go_bits);try rw [hdq]
        try go_simp
        (try go_bits);refine Kp _ ?_;clear Kp Ko;refine Kn.Z.ss (.s rfl rfl rfl) (.bin (.t rfl) (.t rfl)) fun Ko Kp=>?_;go_simp;(try go_bits);refine Kp _ ?_;clear Kp Ko;refine Kn.Z.us (.e .o (.pick (.t rfl) (.t rfl)) .n) ?_;refine Kn.Z.se hK16 ?_;clear hK16 K16;refine Kn.Z.t (.c 52 rfl (.c 11 rfl (.c 29 rfl (.c 28 rfl (.c 8 rfl (.c 9 rfl (.c 10 rfl (.c 6 rfl (.c 0 rfl (.c 1 rfl (.c 4 rfl .n))))))))))) ?_;refine Kn.Z.y (.t rfl) ?_;refine Kn.Z.r ?_;refine Kn.Z.s .o (.fieldAddr (.t rfl)) fun Ko Kp=>?_;go_simp;(try go_bits);refine Kp _ _ ?_;clear Kp Ko;refine Kn.Z.s .o (.load (.t rfl)) fun Ko Kp=>?_;go_simp;(try go_bits);refine Kp _ _ ?_;clear Kp Ko;refine Kn.Z.u (.m (.t rfl) .n) ?_;refine Kn.Z.s .o (.bin (.t rfl) .c) fun Ko Kp=>?_;go_simp;(try go_bits);try rw [r2]
        try go_simp
        (try go_bits);refine Kp _ _ ?_;clear Kp Ko;refine Kn.Z.s .o (.indexAddr (.t rfl) (.t rfl)) fun Ko Kp=>?_;go_simp;(try go_bits);refine Kp _ _ ?_;clear Kp Ko;refine Kn.Z.s .o (.fieldAddr (.t rfl)) fun Ko Kp=>?_;go_simp;(try go_bits);refine Kp _ _ ?_;clear Kp Ko;refine Kn.Z.s .o (.load (.t rfl)) fun Ko Kp=>?_;go_simp;(try go_bits);refine Kp _ _ ?_;clear Kp Ko;refine Kn.Z.s .o (.makeInterface .c) fun Ko Kp=>?_;go_simp;(try go_bits);refine Kp _ _ ?_;clear Kp Ko;refine Kn.Z.c .o (.call (.c (.t rfl) (.c (.t rfl) .n))) Tryz.call72 (hf) fun e wx hp=>?_;obtain ⟨rfl, rfl⟩ := hp;refine ⟨_,rfl,?_⟩;refine Kn.Z.u (.a (.t rfl) .n) ?_;intro fa fh;refine wpList_nil ?_;replace fh := fh.cut (.c 10 rfl (.c 11 rfl (.c 29 rfl (.c 28 rfl (.c 8 rfl (.c 9 rfl (.c 6 rfl (.c 0 rfl (.c 1 rfl (.c 4 rfl .n))))))))));exact ⟨some p1, 1, fh.cut (.c 29 rfl (.c 28 rfl (.c 8 rfl (.c 9 rfl (.u 10 rfl rfl (.c 6 rfl (.c 0 rfl (.c 1 rfl (.c 4 rfl (.c 11 rfl .n)))))))))), Lib.hid (fun l => by rw [HBM.out l, if_neg hm]), rfl⟩
      have q8 : ((k : Int) % 8 == 0) = false := by rw [beq_eq_false_iff_ne]; omega
      refine Kn.Z.q fun K16 hK16=>?_;refine Kn.Z.st (by kernel_rfl) (by kernel_rfl) ?_;refine Kn.Z.us (.m (.t rfl) .n) ?_;refine Kn.Z.ss .o (.bin (.t rfl) .c) fun Ko Kp=>?_;go_simp;(try go_bits);refine Kp _ ?_;clear Kp Ko;refine Kn.Z.us (.m (.t rfl) (.e (.s rfl rfl rfl) (.move (.t rfl)) .n)) ?_;refine Kn.Z.ss (.s rfl rfl rfl) (.bin (.t rfl) .c) fun Ko Kp=>?_;go_simp;(try go_bits);try rw [hr8]
      try go_simp
      (try go_bits);refine Kp _ ?_;clear Kp Ko;refine Kn.Z.ss (.s rfl rfl rfl) (.bin (.t rfl) .c) fun Ko Kp=>?_;go_simp;(try go_bits);refine Kp _ ?_;clear Kp Ko;refine Kn.Z.us (.e .o (.pick (.t rfl) (.t rfl)) (.m (.t rfl) (.k (.s rfl rfl rfl) (.k (.s rfl rfl rfl) (.k (.s rfl rfl rfl) (.k (.s rfl rfl rfl) (.k (.s rfl rfl rfl) (.k (.s rfl rfl rfl) (.k (.s rfl rfl rfl) (.k (.s rfl rfl rfl) (.k (.s rfl rfl rfl) (.k (.s rfl rfl rfl) (.k (.s rfl rfl rfl) (.k (.s rfl rfl rfl) (.e .o (.pick (.t rfl) .c) .n))))))))))))))) ?_;refine Kn.Z.se hK16 ?_;clear hK16 K16;refine Kn.Z.t (.c 52 rfl (.c 11 rfl (.c 29 rfl (.c 28 rfl (.c 8 rfl (.c 9 rfl (.c 10 rfl (.c 6 rfl (.c 0 rfl (.c 1 rfl (.c 4 rfl .n))))))))))) ?_;refine Kn.Z.no (.t rfl) ?_;intro fa fh;refine wp_skip ?_;replace fh := fh.cut (.c 11 rfl (.c 29 rfl (.c 28 rfl (.c 8 rfl (.c 9 rfl (.c 10 rfl (.c 6 rfl (.c 0 rfl (.c 1 rfl (.c 4 rfl .n))))))))));exact ⟨none, 1, fh.cut (.c 29 rfl (.c 28 rfl (.c 8 rfl (.c 9 rfl (.u 10 rfl rfl (.c 6 rfl (.c 0 rfl (.c 1 rfl (.c 4 rfl (.c 11 rfl .n)))))))))), Lib.hid (fun l => by rw [badM_row HRl.out h8 l, HBm.out]), rfl⟩
    revert fb
    refine Kn.Z.t (.c 11 rfl (.c 29 rfl (.c 28 rfl (.c 8 rfl (.c 9 rfl (.u 10 rfl (show wV (some pl) = .iface 135 (.agg #[.int .i64 pl, .iface 66 (.int .i64 4)]) from rfl) (.c 6 rfl (.c 0 rfl (.c 1 rfl (.c 4 rfl .n)))))))))) ?_;refine Kn.Z.q fun K16 hK16=>?_;refine Kn.Z.st (by kernel_rfl) (by kernel_rfl) ?_;refine Kn.Z.us (.m (.t rfl) .n) ?_;refine Kn.Z.ss .o (.bin (.t rfl) .c) fun Ko Kp=>?_;go_simp;(try go_bits);refine Kp _ ?_;clear Kp Ko;refine Kn.Z.us (.m (.t rfl) (.k (.s rfl rfl rfl) (.k (.s rfl rfl rfl) (.k (.s rfl rfl rfl) (.e .o (.pick (.t rfl) .c) (.m (.t rfl) (.k (.s rfl rfl rfl) (.k (.s rfl rfl rfl) (.k (.s rfl rfl rfl) (.k (.s rfl rfl rfl) (.k (.s rfl rfl rfl) (.k (.s rfl rfl rfl) (.k (.s rfl rfl rfl) (.k (.s rfl rfl rfl) (.k (.s rfl rfl rfl) (.k (.s rfl rfl rfl) (.k (.s rfl rfl rfl) (.k (.s rfl rfl rfl) (.e .o (.pick (.t rfl) .c) .n))))))))))))))))))) ?_;refine Kn.Z.se hK16 ?_;clear hK16 K16;refine Kn.Z.t (.c 52 rfl (.c 11 rfl (.c 29 rfl (.c 28 rfl (.c 8 rfl (.c 9 rfl (.c 10 rfl (.c 6 rfl (.c 0 rfl (.c 1 rfl (.c 4 rfl .n))))))))))) ?_;refine Kn.Z.no (.t rfl) ?_;intro fa fh;refine wp_skip ?_;replace fh := fh.cut (.c 11 rfl (.c 29 rfl (.c 28 rfl (.c 8 rfl (.c 9 rfl (.c 10 rfl (.c 6 rfl (.c 0 rfl (.c 1 rfl (.c 4 rfl .n))))))))));exact ⟨some pl, 1, fh.cut (.c 29 rfl (.c 28 rfl (.c 8 rfl (.c 9 rfl (.u 10 rfl rfl (.c 6 rfl (.c 0 rfl (.c 1 rfl (.c 4 rfl (.c 11 rfl .n)))))))))), Lib.hid (fun l => badM_keep HRl.out hk8 HBm.out l), rfl⟩
  clear fg fb;intro fa v hJ;obtain ⟨B2, r, fh, HB2, rfl⟩ := hJ;refine hK15 _ _ ?_;clear hK15 K15;obtain ⟨u1, hu1⟩ : ∃ x, u.drewN r = x := ⟨_, rfl⟩;have HL1 : Hid (LHold u1 gr n (rs.map (·.1))) := Lib.hid (by rw [← hu1]; exact HL.out);have HS1 : Hid (St.St u1 g6 140 #[.int .i64 a, .int .i64 (n : Int), .slice (some ⟨gi, 0, none⟩) (marksN n) (marksN n), .int .i64 b]) := Lib.hid (by rw [← hu1]; exact HS.out);have HI1 : Hid (Hold ipR u1 gi ms) := Lib.hid (by rw [← hu1]; exact HI.out);have HZ1 : Hid (St.St u1 g4 125 #[.int .i64 0, .slice none 0 0]) := Lib.hid (by rw [← hu1]; exact HZ.out);have HB1 : Hid (Below w.heap.size w u1) := Lib.hid (by rw [← hu1]; exact Own.below_drewN HB.out r);rw [hu1];clear HL HS HI HZ HB HBm hu1;have c0 := HS1.out.cell 0 rfl;obtain ⟨vv, hvv⟩ : ∃ x : Int, a + (k : Int) = x := ⟨_, rfl⟩;have hvb : 0 ≤ vv ∧ vv < N := by omega
  have hgt := gGet_any s q N vv u1 hs hN hvb.1 hvb.2;rw [hvv] at HT;have HKl : Hid (k = (rs.map (·.1)).length) := Lib.hid (by rw [List.length_map]; exact HRl.out.symm);rcases hr : gtC s q N vv with ⟨x5, a5⟩ | ⟨l5, q5⟩
  · have hgt2 : Calls Tryz.prog 52 #[.string s, .int .i64 q, .int .i64 N, .int .i64 vv] u1 fun e w' => e = .returned (.tuple #[.slice none 0 0, .int .i64 q, .iface 135 (.agg #[.int .i64 a5, .iface 66 (.int .i64 x5)])]) ∧ Below u1.heap.size u1 w' := by
      refine hgt.mono fun e w' hc => ?_;obtain ⟨hb, h⟩ := hc;rw [hr] at h;rcases h with ⟨x', a', he, -, hh⟩ | ⟨l, nx, g, he, -⟩
      · cases he; exact ⟨hh, hb⟩
      · cases he
    have HX5 : Hid (x5 ≠ 0) := Lib.hid (gtG_err hr);have HF : Hid (gsG s N = .inl (x5, a5)) := Lib.hid (by rw [HG.out]; unfold gs3; rw [HT.out.bad hr]);clear hgt hr
    revert fa
    refine Kn.Z.f fun K16 hK16=>?_;refine Kn.Z.u (.m (.t rfl) (.m (.t rfl) (.m (.t rfl) (.m (.t rfl) (.m (.t rfl) .n))))) ?_;refine Kn.Z.s .o (.fieldAddr (.t rfl)) fun Ko Kp=>?_;go_simp;(try go_bits);refine Kp _ _ ?_;clear Kp Ko;refine Kn.Z.s .o (.load (.t rfl)) fun Ko Kp=>?_;go_simp;(try go_bits);refine Kp _ _ ?_;clear Kp Ko;refine Kn.Z.u (.m (.t rfl) .n) ?_;refine Kn.Z.s .o (.bin (.t rfl) (.t rfl)) fun Ko Kp=>?_;go_simp;(try go_bits);try rw [hvv]
    try go_simp
    (try go_bits);refine Kp _ _ ?_;clear Kp Ko;refine Kn.Z.c .o (.call (.c (.t rfl) (.c (.t rfl) (.c (.t rfl) (.c (.t rfl) .n))))) Tryz.call52 (hgt2) fun e u2 hp=>?_;obtain ⟨rfl, hb2⟩ := hp;refine ⟨_,rfl,?_⟩;obtain ⟨u3, hst, hot, hsz, hbl⟩ := (HL1.out.on hb2).any k HKl.out hlt none 0 0;have HB3 := Lib.hid ((HB1.out.trans (hb2.mono HB1.out.size)).trans (hbl _ hwr));have HZ3 : Hid (St.St u3 g4 125 #[.int .i64 0, .slice none 0 0]) := Lib.hid ((hot g4 (by omega)).trans (HZ1.out.on hb2));clear hgt2 hot hsz hbl hb2;refine Kn.Z.u (.m (.t rfl) (.x (.t rfl) rfl (.x (.t rfl) rfl (.x (.t rfl) rfl .n)))) ?_;refine Kn.Z.s .o (.indexAddr (.t rfl) (.t rfl)) fun Ko Kp=>?_;go_simp;(try go_bits);refine Kp _ _ ?_;clear Kp Ko;refine Kn.Z.su .o (.store (.t rfl) (.t rfl)) fun Ko Kp=>?_;refine Kn.satU_run hst ?_;refine Kp _ ?_;clear Kp Ko;refine Kn.Z.u (.a (.t rfl) (.a (.t rfl) .n)) ?_;refine Kn.Z.e hK16 ?_;clear hK16 K16;refine Kn.Z.t (.c 7 rfl (.c 9 rfl (.c 29 rfl (.c 28 rfl (.c 8 rfl (.c 10 rfl (.c 6 rfl (.c 0 rfl (.c 1 rfl (.c 4 rfl .n)))))))))) ?_;clear hst c0;refine Kn.Z.f fun K17 hK17=>?_;refine Kn.Z.u (.m (.t rfl) .n) ?_;refine Kn.Z.s .o (.bin (.t rfl) .c) fun Ko Kp=>?_;go_simp;(try go_bits);refine Kp _ _ ?_;clear Kp Ko;refine Kn.Z.e hK17 ?_;clear hK17 K17;refine Kn.Z.y (.t rfl) ?_;obtain ⟨hst, hS2, hB2⟩ := HZ3.out.store (P := Tryz.prog) (cells := #[.int .i64 0, .slice none 0 0]) (by kernel_rfl) rfl (by simp [Value.oneCell']);refine Kn.Z.f fun K18 hK18=>?_;refine Kn.Z.s .o (.build .n) fun Ko Kp=>?_;go_simp;(try go_bits);refine Kp _ _ ?_;clear Kp Ko;refine Kn.Z.u (.m (.t rfl) .n) ?_;refine Kn.Z.su .o (.store (.t rfl) (.t rfl)) fun Ko Kp=>?_;rw [hst];refine Kp _ ?_;clear Kp Ko;refine Kn.Z.u (.a (.t rfl) .n) ?_;refine Kn.Z.e hK18 ?_;clear hK18 K18;intro fa fh;refine wp_ret ?_;refine Kn.block_ret ?_;refine Kn.then_ret ?_;refine Kn.then_ret ?_;refine Kn.block_ret ?_;refine Kn.then_ret ?_;exact Kn.retS2 fh rfl rfl rfl hS2 Tryz.underlying125 rfl (by kernel_rfl) ⟨HB3.out.trans (hB2 _ hg4), .inl ⟨_, _, HF.out, HX5.out, rfl⟩⟩
  have hgt2 : Calls Tryz.prog 52 #[.string s, .int .i64 q, .int .i64 N, .int .i64 vv] u1 fun e w' => ∃ g, e = .returned (.tuple #[.slice (some ⟨g, 0, none⟩) l5.length l5.length, .int .i64 q5, .nilIface]) ∧ HoldI w' g l5 ∧ (u1.heap.size ≤ g ∧ g < w'.heap.size) ∧ Below u1.heap.size u1 w' := by
    refine hgt.mono fun e w' hc => ?_;obtain ⟨hb, h⟩ := hc;rw [hr] at h;rcases h with ⟨x', a', he, -, hh⟩ | ⟨l, nx, g, he, hh, h1, h2, h3⟩
    · cases he
    · cases he; exact ⟨g, hh, h1, ⟨h2, h3⟩, hb⟩
  have hq5 : 0 ≤ q5 ∧ q5 ≤ s.size := gtG_place hN hvb.1 hvb.2 hr;have HT2 : Hid (RwYet s N j (a + ((k + 1 : Nat) : Int)) q5 (rs ++ [(l5, q)]) (rwG s N n a b)) := Lib.hid (by rw [show a + ((k + 1 : Nat) : Int) = vv + 1 by omega]; exact HT.out.next hr);have HRl2 : Hid ((rs ++ [(l5, q)]).length = k + 1) := Lib.hid (by rw [List.length_append, HRl.out]; rfl);have HBm2 := Lib.hid (HB2.out l5);clear hgt hr HT
  revert fa
  refine Kn.Z.f fun K16 hK16=>?_;refine Kn.Z.u (.m (.t rfl) (.m (.t rfl) (.m (.t rfl) (.m (.t rfl) (.m (.t rfl) .n))))) ?_;refine Kn.Z.s .o (.fieldAddr (.t rfl)) fun Ko Kp=>?_;go_simp;(try go_bits);refine Kp _ _ ?_;clear Kp Ko;refine Kn.Z.s .o (.load (.t rfl)) fun Ko Kp=>?_;go_simp;(try go_bits);refine Kp _ _ ?_;clear Kp Ko;refine Kn.Z.u (.m (.t rfl) .n) ?_;refine Kn.Z.s .o (.bin (.t rfl) (.t rfl)) fun Ko Kp=>?_;go_simp;(try go_bits);try rw [hvv]
  try go_simp
  (try go_bits);refine Kp _ _ ?_;clear Kp Ko;refine Kn.Z.c .o (.call (.c (.t rfl) (.c (.t rfl) (.c (.t rfl) (.c (.t rfl) .n))))) Tryz.call52 (hgt2) fun e u2 hp=>?_;obtain ⟨g7, rfl, hH7, hg7, hb2⟩ := hp;refine ⟨_,rfl,?_⟩;have hgrl : gr < u1.heap.size := HL1.out.lt;obtain ⟨u3, hst, hL3, hot, hsz, hbl⟩ := (HL1.out.on hb2).push k HKl.out hlt g7 l5 hH7 hg7.2 (by omega);have HB3 := Lib.hid ((HB1.out.trans (hb2.mono HB1.out.size)).trans (hbl _ hwr));have HZ3 : Hid (St.St u3 g4 125 #[.int .i64 0, .slice none 0 0]) := Lib.hid ((hot g4 (by omega)).trans (HZ1.out.on hb2));have HS3 : Hid (St.St u3 g6 140 #[.int .i64 a, .int .i64 (n : Int), .slice (some ⟨gi, 0, none⟩) (marksN n) (marksN n), .int .i64 b]) := Lib.hid ((hot g6 (by omega)).trans (HS1.out.on hb2));have HI3 : Hid (Hold ipR u3 gi ms) := Lib.hid ((HI1.out.on hb2).at (by omega) (hot gi (by omega)));have HL3 : Hid (LHold u3 gr n ((rs ++ [(l5, q)]).map (·.1))) := Lib.hid (by rw [List.map_append]; exact hL3);clear hgt2 hot hsz hbl hb2 hH7 hL3;refine Kn.Z.u (.m (.t rfl) (.x (.t rfl) rfl (.x (.t rfl) rfl (.x (.t rfl) rfl .n)))) ?_;refine Kn.Z.s .o (.indexAddr (.t rfl) (.t rfl)) fun Ko Kp=>?_;go_simp;(try go_bits);refine Kp _ _ ?_;clear Kp Ko;refine Kn.Z.su .o (.store (.t rfl) (.t rfl)) fun Ko Kp=>?_;refine Kn.satU_run hst ?_;refine Kp _ ?_;clear Kp Ko;refine Kn.Z.u (.a (.t rfl) (.a (.t rfl) .n)) ?_;refine Kn.Z.e hK16 ?_;clear hK16 K16;refine Kn.Z.t (.c 7 rfl (.c 9 rfl (.c 29 rfl (.c 28 rfl (.c 8 rfl (.c 10 rfl (.c 6 rfl (.c 0 rfl (.c 1 rfl (.c 4 rfl .n)))))))))) ?_;clear hst c0;refine Kn.Z.f fun K17 hK17=>?_;refine Kn.Z.u (.m (.t rfl) .n) ?_;refine Kn.Z.s .o (.bin (.t rfl) .c) fun Ko Kp=>?_;go_simp;(try go_bits);refine Kp _ _ ?_;clear Kp Ko;refine Kn.Z.e hK17 ?_;clear hK17 K17;refine Kn.Z.no (.t rfl) ?_;intro fb fg;refine wp_skip ?_;refine Kn.block_normal ?_;refine hK13 _ _ ?_;clear hK13 K13
  revert fb
  refine Kn.Z.r ?_;refine Kn.Z.s .o (.bin (.t rfl) .c) fun Ko Kp=>?_;go_simp;(try go_bits);refine Kp _ _ ?_;clear Kp Ko;refine Kn.Z.u (.m (.t rfl) .n) ?_;intro fb fg;refine wpList_nil ?_;replace fg := fg.cut (.c 29 rfl (.c 9 rfl (.c 28 rfl (.c 8 rfl (.c 10 rfl (.c 6 rfl (.c 0 rfl (.c 1 rfl (.c 4 rfl .n)))))))));exact hKl10 (m10 - 1) _ _ (by omega) ⟨k + 1, j, q5, _, _, fg.cut (.u 29 rfl (by go_num) (.c 28 rfl (.c 8 rfl (.c 9 rfl (.c 10 rfl (.c 6 rfl (.c 0 rfl (.c 1 rfl (.c 4 rfl .n))))))))), by omega, by omega, hq5, HRl2, HT2, HBm2, HL3, HS3, HI3, HZ3, HB3⟩
end Go.Proofs.YtchdlgdmomcemaaGreatDoor.Shd
end
section
namespace Go.Proofs.YtchdlgdmomcemaaGreatDoor.Shd
open Go Go.RowKit Go.Lib Oct Num Gap RowG
def KRet (s : ByteArray) (N v : Int) (w : World) (e : Ending) (w' : World) : Prop := Below w.heap.size w w' ∧ ((∃ T X, seekR s N v = .inl (.iface T X) ∧ e = .returned (.tuple #[.int .i64 0, .iface T X])) ∨
  ∃ q, seekR s N v = .inr q ∧ e = .returned (.tuple #[.int .i64 q, .nilIface]) ∧ 0 ≤ v ∧ v < N)
def FRet2 (s : ByteArray) (N v : Int) (w : World) (e : Ending) (w' : World) : Prop := Below w.heap.size w w' ∧ ((∃ T X, seekR s N v = .inl (.iface T X) ∧ e = .returned (.tuple #[.slice none 0 0, .iface T X])) ∨
  ∃ q, seekR s N v = .inr q ∧ ((∃ x a, gtC s q N v = .inl (x, a) ∧ e = .returned (.tuple #[.slice none 0 0, faultV a x])) ∨ ∃ l nx g, gtC s q N v = .inr (l, nx) ∧ e = .returned (.tuple #[.slice (some ⟨g, 0, none⟩) l.length l.length, .nilIface]) ∧ IIn w' (some ⟨g, 0, none⟩) l ∧ w.heap.size ≤ g))
def DRet (s : ByteArray) (N v : Int) (w : World) (e : Ending) (w' : World) : Prop := Below w.heap.size w w' ∧ ((∃ T X, seekR s N v = .inl (.iface T X) ∧ e = .returned (.tuple #[.int .i64 0, .iface T X])) ∨
  ∃ q, seekR s N v = .inr q ∧ e = .returned (.tuple #[.int .i64 (cnt s q N).1, gE (cnt s q N).2.2.1 (cnt s q N).2.2.2]))
theorem skN_err {s : ByteArray} {N : Int} {j : Nat} {p : Int} (h : (skC s p N).2.1 ≠ 0) : skN s N (j + 1) p = .inl ((skC s p N).2.1, (skC s p N).2.2) := by rw [skN, if_neg h]
theorem skN_ok {s : ByteArray} {N : Int} {j : Nat} {p : Int} (h : (skC s p N).2.1 = 0) : skN s N (j + 1) p = skN s N j (skC s p N).1 := by rw [skN, if_pos h]
theorem skN_nz {s : ByteArray} {N : Int} : ∀ (j : Nat) (p : Int) (e : Int × Int), skN s N j p = .inl e → e.1 ≠ 0
  | 0, p, e, h => by rw [skN] at h; cases h
  | j + 1, p, e, h => by
    by_cases he : (skC s p N).2.1 = 0
    · rw [skN_ok he] at h; exact skN_nz j _ e h
    · rw [skN_err he] at h;injection h with h
      subst h;exact he
theorem seekR_form (s : ByteArray) (N v : Int) : (∃ T X, seekR s N v = .inl (.iface T X)) ∨ ∃ q, seekR s N v = .inr q ∧ 0 ≤ v ∧ v < N := by
  unfold seekR;rcases ho : opG s N with ⟨x, a⟩ | ⟨a, n, ms, b⟩
  · simp only;rw [gE_e (opG_err ho)];exact .inl ⟨_, _, rfl⟩
  · simp only;obtain ⟨h1, -, h2, -⟩ := opG_ok ho
    by_cases hv : v < a ∨ a + (n : Int) ≤ v
    · rw [if_pos hv];exact .inl ⟨_, _, rfl⟩
    · rw [if_neg hv];unfold seek2
      by_cases hm : (s.size : Int) - b < (ms.getD ((v - a).toNat / 8) (0, 0)).1
      · rw [if_pos hm];exact .inl ⟨_, _, rfl⟩
      · rw [if_neg hm]
        cases hk : skN s N ((v - a).toNat % 8) (b + (ms.getD ((v - a).toNat / 8) (0, 0)).1) with
        | inl e =>
          simp only;rw [gE_e (skN_nz _ _ _ hk)];exact .inl ⟨_, _, rfl⟩
        | inr q => exact .inr ⟨q, rfl, by omega, by omega⟩
set_option maxRecDepth 100000 in
set_option maxHeartbeats 8000000 in
theorem seek_any (s : ByteArray) (N v : Int) (w : World) (hs : s.size ≤ maxLen) (hN0 : 0 ≤ N) (hN : N ≤ 4096) :
    Calls Tryz.prog 51 #[.string s, .int .i64 N, .int .i64 v] w (KRet s N v w) := by
  refine Kn.Z.cl Tryz.func51 rfl Tryz.ntmps51 rfl (.c 0 rfl (.c 1 rfl (.c 2 rfl .n))) ?_;refine Kn.Z.f fun K1 hK1=>?_;refine Kn.Z.u (.a .c (.a .c .n)) ?_;refine Kn.Z.e hK1 ?_;clear hK1 K1;have ho := open_any s N w hs hN0 hN;rcases hr : opG s N with ⟨x, a⟩ | ⟨a, n, ms, b⟩
  · have hx : x ≠ 0 := opG_err hr
    have ho2 : Calls Tryz.prog 77 #[.string s, .int .i64 N] w fun e w' => e = .returned (.tuple #[.agg #[.int .i64 0, .int .i64 0, .slice none 0 0, .int .i64 0], .iface 135 (.agg #[.int .i64 a, .iface 66 (.int .i64 x)])]) ∧ Below w.heap.size w w' := by
      refine ho.mono fun e w' hc => ?_;obtain ⟨hb, h⟩ := hc;rw [hr] at h;rcases h with ⟨x', a', he, -, hh⟩ | ⟨a', n', ms', b', g', he, -⟩
      · cases he; exact ⟨hh, hb⟩
      · cases he
    have HF : Hid (seekR s N v = .inl (.iface 135 (.agg #[.int .i64 a, .iface 66 (.int .i64 x)]))) := Lib.hid (by unfold seekR; rw [hr]; simp only; rw [gE_e hx]);clear ho hr hx;refine Kn.Z.f fun K2 hK2=>?_;refine Kn.Z.u (.m (.t rfl) (.m (.t rfl) .n)) ?_;refine Kn.Z.c .o (.call (.c (.t rfl) (.c (.t rfl) .n))) Tryz.call77 (ho2) fun e uc hp=>?_;obtain ⟨rfl, hbc⟩ := hp;refine ⟨_,rfl,?_⟩;obtain ⟨ud, hud⟩ : ∃ q9, uc.alloc (.cells #[.int .i64 0, .int .i64 0, .slice none 0 0, .int .i64 0] 140) = q9 := ⟨_, rfl⟩;have hSd := St.St.new uc 140 #[.int .i64 0, .int .i64 0, .slice none 0 0, .int .i64 0];have hbd : Below uc.heap.size uc ud := by rw [← hud]; exact (Below.refl _ uc).alloc (Nat.le_refl _) _
    rw [hud] at hSd;obtain ⟨hst, hSe, hBe⟩ := hSd.store (P := Tryz.prog) (cells := #[.int .i64 0, .int .i64 0, .slice none 0 0, .int .i64 0]) (by kernel_rfl) rfl (by simp [Value.oneCell']);have hbz1 := (hbc.trans (hbd.mono hbc.size)).trans (hBe _ hbc.size);have hgez1 := hbc.size;have hbC := hbd.trans (hBe _ (Nat.le_refl _));clear hSd hbd hBe;refine Kn.Z.u (.m (.t rfl) (.x (.t rfl) rfl (.x (.t rfl) rfl .n))) ?_;refine Kn.Z.s .o .alloc fun Ko Kp=>?_;go_simp;try rw [hud]
    refine Kp _ _ ?_;clear Kp Ko;refine Kn.Z.su .o (.store (.t rfl) (.t rfl)) fun Ko Kp=>?_;refine Kn.satU_run hst ?_;refine Kp _ ?_;clear Kp Ko;refine Kn.Z.u (.a (.t rfl) .n) ?_;refine Kn.Z.e hK2 ?_;clear hK2 K2;clear hst hud;obtain ⟨z1, hzz⟩ : ∃ q9, ud.setRow uc.heap.size #[.int .i64 0, .int .i64 0, .slice none 0 0, .int .i64 0] = q9 := ⟨_, rfl⟩;rw [hzz] at hSe hbz1 hbC;intro fa fh;change Code.wp _ _ _ _ (ud.setRow uc.heap.size #[.int .i64 0, .int .i64 0, .slice none 0 0, .int .i64 0]);rw [hzz];clear hzz;have hltz1 := hSe.lt;clear hbC;generalize uc.heap.size = g8 at *;have HSz1 := Lib.hid hSe;clear hSe
    revert fa
    refine Kn.Z.q fun K3 hK3=>?_;refine Kn.Z.f fun K4 hK4=>?_;refine Kn.Z.u (.m (.t rfl) .n) ?_;refine Kn.Z.s .o (.bin (.t rfl) .c) fun Ko Kp=>?_;go_simp;(try go_bits);refine Kp _ _ ?_;clear Kp Ko;refine Kn.Z.e hK4 ?_;clear hK4 K4;refine Kn.Z.y (.t rfl) ?_;refine Kn.Z.f fun K5 hK5=>?_;refine Kn.Z.u (.m (.t rfl) (.a .c (.a (.t rfl) .n))) ?_;refine Kn.Z.e hK5 ?_;clear hK5 K5;refine Kn.Z.t (.c 7 rfl (.c 6 rfl (.c 9 rfl (.c 8 rfl (.c 0 rfl (.c 1 rfl (.c 2 rfl .n))))))) ?_;intro fb fg;refine wp_ret ?_;refine Kn.then_ret ?_;exact Kn.ret2 fg rfl rfl rfl ⟨hbz1, .inl ⟨_, _, HF.out, rfl⟩⟩
  have ho2 : Calls Tryz.prog 77 #[.string s, .int .i64 N] w fun e w' => ∃ gi, e = .returned (.tuple #[.agg #[.int .i64 a, .int .i64 (n : Int), .slice (some ⟨gi, 0, none⟩) (marksN n) (marksN n), .int .i64 b], .nilIface]) ∧ Hold ipR w' gi ms ∧ w.heap.size ≤ gi ∧ Below w.heap.size w w' := by
    refine ho.mono fun e w' hc => ?_;obtain ⟨hb, h⟩ := hc;rw [hr] at h;rcases h with ⟨x', a', he, -, hh⟩ | ⟨a', n', ms', b', g', he, hh, h1, h2⟩
    · cases he
    · cases he; exact ⟨g', hh, h1, h2, hb⟩
  obtain ⟨ha0, hn1, han, hml, hb0, hbs, hmn⟩ := opG_ok hr;have hn4 : n ≤ 4096 := by omega
  have HO := Lib.hid hr;have HMN := Lib.hid hmn;have hMb : marksN n ≤ 600 := by unfold marksN; omega
  obtain ⟨M, hM⟩ : ∃ M, marksN n = M := ⟨_, rfl⟩;have HM := Lib.hid hM;rw [hM] at hml hMb;have HML := Lib.hid hml;clear ho hr hml hmn;refine Kn.Z.f fun K2 hK2=>?_;refine Kn.Z.u (.m (.t rfl) (.m (.t rfl) .n)) ?_;refine Kn.Z.c .o (.call (.c (.t rfl) (.c (.t rfl) .n))) Tryz.call77 (ho2) fun e uc hp=>?_;obtain ⟨gi, rfl, hHi, hgi, hbc⟩ := hp;refine ⟨_,rfl,?_⟩;obtain ⟨ud, hud⟩ : ∃ q9, uc.alloc (.cells #[.int .i64 0, .int .i64 0, .slice none 0 0, .int .i64 0] 140) = q9 := ⟨_, rfl⟩;have hSd := St.St.new uc 140 #[.int .i64 0, .int .i64 0, .slice none 0 0, .int .i64 0];have hbd : Below uc.heap.size uc ud := by rw [← hud]; exact (Below.refl _ uc).alloc (Nat.le_refl _) _
  rw [hud] at hSd;obtain ⟨hst, hSe, hBe⟩ := hSd.store (P := Tryz.prog) (cells := #[.int .i64 a, .int .i64 (n : Int), .slice (some ⟨gi, 0, none⟩) (marksN n) (marksN n), .int .i64 b]) (by kernel_rfl) rfl (by simp [Value.oneCell']);have hbz1 := (hbc.trans (hbd.mono hbc.size)).trans (hBe _ hbc.size);have hgez1 := hbc.size;have hbC := hbd.trans (hBe _ (Nat.le_refl _));clear hSd hbd hBe;refine Kn.Z.u (.m (.t rfl) (.x (.t rfl) rfl (.x (.t rfl) rfl .n))) ?_;refine Kn.Z.s .o .alloc fun Ko Kp=>?_;go_simp;try rw [hud]
  refine Kp _ _ ?_;clear Kp Ko;refine Kn.Z.su .o (.store (.t rfl) (.t rfl)) fun Ko Kp=>?_;refine Kn.satU_run hst ?_;refine Kp _ ?_;clear Kp Ko;refine Kn.Z.u (.a (.t rfl) .n) ?_;refine Kn.Z.e hK2 ?_;clear hK2 K2;clear hst hud;obtain ⟨z1, hzz⟩ : ∃ q9, ud.setRow uc.heap.size #[.int .i64 a, .int .i64 (n : Int), .slice (some ⟨gi, 0, none⟩) (marksN n) (marksN n), .int .i64 b] = q9 := ⟨_, rfl⟩;rw [hzz] at hSe hbz1 hbC;intro fa fh;change Code.wp _ _ _ _ (ud.setRow uc.heap.size #[.int .i64 a, .int .i64 (n : Int), .slice (some ⟨gi, 0, none⟩) (marksN n) (marksN n), .int .i64 b]);rw [hzz];clear hzz;have hltz1 := hSe.lt;have HHi : Hid (Hold ipR z1 gi ms) := Lib.hid (hHi.on hbC);clear hHi;clear hbC;generalize uc.heap.size = g8 at *;have HSz1 := Lib.hid hSe;clear hSe;clear ho2;rw [hM] at HSz1;clear hM;have c0 := HSz1.out.cell 0 rfl;have c1 := HSz1.out.cell 1 rfl;have c2 := HSz1.out.cell 2 rfl;have c3 := HSz1.out.cell 3 rfl;obtain ⟨an, han2⟩ : ∃ z : Int, a + (n : Int) = z := ⟨_, rfl⟩
  revert fa
  refine Kn.Z.q fun K3 hK3=>?_;refine Kn.Z.f fun K4 hK4=>?_;refine Kn.Z.u (.m (.t rfl) .n) ?_;refine Kn.Z.s .o (.bin (.t rfl) .c) fun Ko Kp=>?_;go_simp;(try go_bits);refine Kp _ _ ?_;clear Kp Ko;refine Kn.Z.e hK4 ?_;clear hK4 K4;refine Kn.Z.no (.t rfl) ?_;refine Kn.Z.j hK3 ?_;clear hK3 K3
  by_cases hv : v < a ∨ an ≤ v
  · have HF : Hid (seekR s N v = .inl (.iface 66 (.int .i64 2))) := Lib.hid (by unfold seekR; rw [HO.out]; simp only; rw [if_pos (by omega)]; rfl)
    by_cases hv1 : v < a
    · refine Kn.Z.q fun K5 hK5=>?_;refine Kn.Z.f fun K6 hK6=>?_;refine Kn.Z.u (.m (.t rfl) .n) ?_;refine Kn.Z.s .o (.fieldAddr (.t rfl)) fun Ko Kp=>?_;go_simp;(try go_bits);refine Kp _ _ ?_;clear Kp Ko;refine Kn.Z.s .o (.load (.t rfl)) fun Ko Kp=>?_;go_simp;(try go_bits);refine Kp _ _ ?_;clear Kp Ko;refine Kn.Z.s .o (.bin (.t rfl) (.t rfl)) fun Ko Kp=>?_;go_simp;(try go_bits);refine Kp _ _ ?_;clear Kp Ko;refine Kn.Z.u (.m (.t rfl) (.k (.s rfl rfl rfl) (.k (.s rfl rfl rfl) (.k (.s rfl rfl rfl) (.k (.s rfl rfl rfl) (.k (.s rfl rfl rfl) (.k (.s rfl rfl rfl) (.k (.s rfl rfl rfl) (.e .o (.pick (.t rfl) .c) .n))))))))) ?_;refine Kn.Z.e hK6 ?_;clear hK6 K6;refine Kn.Z.t (.c 34 rfl (.c 9 rfl (.c 8 rfl (.c 7 rfl (.c 6 rfl (.c 0 rfl (.c 1 rfl (.c 2 rfl .n)))))))) ?_;refine Kn.Z.y (.t rfl) ?_;refine Kn.Z.f fun K7 hK7=>?_;refine Kn.Z.s .o (.makeInterface .c) fun Ko Kp=>?_;go_simp;(try go_bits);refine Kp _ _ ?_;clear Kp Ko;refine Kn.Z.u (.a .c (.a (.t rfl) .n)) ?_;refine Kn.Z.e hK7 ?_;clear hK7 K7;intro fa fh;refine wp_ret ?_;refine Kn.then_ret ?_;exact Kn.ret2 fh rfl rfl rfl ⟨hbz1, .inl ⟨_, _, HF.out, rfl⟩⟩
    have hv2 : an ≤ v := by omega
    refine Kn.Z.q fun K5 hK5=>?_;refine Kn.Z.f fun K6 hK6=>?_;refine Kn.Z.u (.m (.t rfl) .n) ?_;refine Kn.Z.s .o (.fieldAddr (.t rfl)) fun Ko Kp=>?_;go_simp;(try go_bits);refine Kp _ _ ?_;clear Kp Ko;refine Kn.Z.s .o (.load (.t rfl)) fun Ko Kp=>?_;go_simp;(try go_bits);refine Kp _ _ ?_;clear Kp Ko;refine Kn.Z.s .o (.bin (.t rfl) (.t rfl)) fun Ko Kp=>?_;go_simp;(try go_bits);refine Kp _ _ ?_;clear Kp Ko;refine Kn.Z.u (.m (.t rfl) (.e (.s rfl rfl rfl) (.move (.t rfl)) .n)) ?_;refine Kn.Z.s (.s rfl rfl rfl) (.fieldAddr (.t rfl)) fun Ko Kp=>?_;go_simp;(try go_bits);refine Kp _ _ ?_;clear Kp Ko;refine Kn.Z.s (.s rfl rfl rfl) (.load (.t rfl)) fun Ko Kp=>?_;go_simp;(try go_bits);refine Kp _ _ ?_;clear Kp Ko;refine Kn.Z.s (.s rfl rfl rfl) (.fieldAddr (.t rfl)) fun Ko Kp=>?_;go_simp;(try go_bits);refine Kp _ _ ?_;clear Kp Ko;refine Kn.Z.s (.s rfl rfl rfl) (.load (.t rfl)) fun Ko Kp=>?_;go_simp;(try go_bits);refine Kp _ _ ?_;clear Kp Ko;refine Kn.Z.s (.s rfl rfl rfl) (.bin (.t rfl) (.t rfl)) fun Ko Kp=>?_;go_simp;(try go_bits);try rw [han2]
    try go_simp
    (try go_bits);refine Kp _ _ ?_;clear Kp Ko;refine Kn.Z.s (.s rfl rfl rfl) (.bin (.t rfl) (.t rfl)) fun Ko Kp=>?_;go_simp;(try go_bits);refine Kp _ _ ?_;clear Kp Ko;refine Kn.Z.u (.e .o (.pick (.t rfl) (.t rfl)) .n) ?_;refine Kn.Z.e hK6 ?_;clear hK6 K6;refine Kn.Z.t (.c 34 rfl (.c 9 rfl (.c 8 rfl (.c 7 rfl (.c 6 rfl (.c 0 rfl (.c 1 rfl (.c 2 rfl .n)))))))) ?_;refine Kn.Z.y (.t rfl) ?_;refine Kn.Z.f fun K7 hK7=>?_;refine Kn.Z.s .o (.makeInterface .c) fun Ko Kp=>?_;go_simp;(try go_bits);refine Kp _ _ ?_;clear Kp Ko;refine Kn.Z.u (.a .c (.a (.t rfl) .n)) ?_;refine Kn.Z.e hK7 ?_;clear hK7 K7;intro fa fh;refine wp_ret ?_;refine Kn.then_ret ?_;exact Kn.ret2 fh rfl rfl rfl ⟨hbz1, .inl ⟨_, _, HF.out, rfl⟩⟩
  have hv1 : ¬ v < a := by omega
  have hv2 : ¬ an ≤ v := by omega
  have hvb : 0 ≤ v ∧ v < N := by omega
  obtain ⟨i, hi⟩ : ∃ i : Nat, v - a = (i : Int) := ⟨(v - a).toNat, by omega⟩;have hin : i < n := by omega
  obtain ⟨d, hd⟩ : ∃ d, i / 8 = d := ⟨_, rfl⟩;have r2 : (i : Int).tdiv 8 = (d : Int) := by rw [Int.tdiv_eq_ediv_of_nonneg (by omega)]; omega
  have hdM : d < M := by rw [← HM.out]; unfold marksN; omega
  have hdl : d < ms.length := by rw [HML.out]; exact hdM
  obtain ⟨m1, p1, hmp⟩ : ∃ m p, ms[d] = (m, p) := ⟨_, _, rfl⟩;have hmb := HMN.out (m1, p1) (hmp ▸ List.getElem_mem hdl);simp only at hmb;have hld := ip_load (P := Tryz.prog) (T := 144) HHi.out d hdl Tryz.underlying144 rfl (by kernel_rfl);rw [hmp] at hld
  have HF0 : Hid (seekR s N v = if (s.size : Int) - b < m1 then .inl (gE 4 p1) else match skN s N (i % 8) (b + m1) with | .inl e => .inl (gE e.1 e.2) | .inr q => .inr q) := Lib.hid (by
    unfold seekR; rw [HO.out]; simp only; rw [if_neg (by omega)];unfold seek2;rw [show (v - a).toNat = i by omega, hd, show ms.getD d (0, 0) = (m1, p1) by simp [List.getD, List.getElem?_eq_getElem hdl, hmp]]
    rfl)
  clear hmp hv;refine Kn.Z.q fun K5 hK5=>?_;refine Kn.Z.f fun K6 hK6=>?_;refine Kn.Z.u (.m (.t rfl) .n) ?_;refine Kn.Z.s .o (.fieldAddr (.t rfl)) fun Ko Kp=>?_;go_simp;(try go_bits);refine Kp _ _ ?_;clear Kp Ko;refine Kn.Z.s .o (.load (.t rfl)) fun Ko Kp=>?_;go_simp;(try go_bits);refine Kp _ _ ?_;clear Kp Ko;refine Kn.Z.s .o (.bin (.t rfl) (.t rfl)) fun Ko Kp=>?_;go_simp;(try go_bits);refine Kp _ _ ?_;clear Kp Ko;refine Kn.Z.u (.m (.t rfl) (.e (.s rfl rfl rfl) (.move (.t rfl)) .n)) ?_;refine Kn.Z.s (.s rfl rfl rfl) (.fieldAddr (.t rfl)) fun Ko Kp=>?_;go_simp;(try go_bits);refine Kp _ _ ?_;clear Kp Ko;refine Kn.Z.s (.s rfl rfl rfl) (.load (.t rfl)) fun Ko Kp=>?_;go_simp;(try go_bits);refine Kp _ _ ?_;clear Kp Ko;refine Kn.Z.s (.s rfl rfl rfl) (.fieldAddr (.t rfl)) fun Ko Kp=>?_;go_simp;(try go_bits);refine Kp _ _ ?_;clear Kp Ko;refine Kn.Z.s (.s rfl rfl rfl) (.load (.t rfl)) fun Ko Kp=>?_;go_simp;(try go_bits);refine Kp _ _ ?_;clear Kp Ko;refine Kn.Z.s (.s rfl rfl rfl) (.bin (.t rfl) (.t rfl)) fun Ko Kp=>?_;go_simp;(try go_bits);try rw [han2]
  try go_simp
  (try go_bits);refine Kp _ _ ?_;clear Kp Ko;refine Kn.Z.s (.s rfl rfl rfl) (.bin (.t rfl) (.t rfl)) fun Ko Kp=>?_;go_simp;(try go_bits);refine Kp _ _ ?_;clear Kp Ko;refine Kn.Z.u (.e .o (.pick (.t rfl) (.t rfl)) .n) ?_;refine Kn.Z.e hK6 ?_;clear hK6 K6;refine Kn.Z.t (.c 34 rfl (.c 9 rfl (.c 8 rfl (.c 7 rfl (.c 6 rfl (.c 0 rfl (.c 1 rfl (.c 2 rfl .n)))))))) ?_;refine Kn.Z.no (.t rfl) ?_;refine Kn.Z.j hK5 ?_;clear hK5 K5;clear hv1 hv2 han2 c1;refine Kn.Z.f fun K7 hK7=>?_;refine Kn.Z.u (.m (.t rfl) .n) ?_;refine Kn.Z.s .o (.fieldAddr (.t rfl)) fun Ko Kp=>?_;go_simp;(try go_bits);refine Kp _ _ ?_;clear Kp Ko;refine Kn.Z.s .o (.load (.t rfl)) fun Ko Kp=>?_;go_simp;(try go_bits);refine Kp _ _ ?_;clear Kp Ko;refine Kn.Z.s .o (.bin (.t rfl) (.t rfl)) fun Ko Kp=>?_;go_simp;(try go_bits);try rw [hi]
  try go_simp
  (try go_bits);refine Kp _ _ ?_;clear Kp Ko;refine Kn.Z.u (.a (.t rfl) .n) ?_;refine Kn.Z.e hK7 ?_;clear hK7 K7;clear c0;obtain ⟨ud, hud⟩ : ∃ q9, z1.alloc (.cells #[.int .i64 0, .int .i64 0] 144) = q9 := ⟨_, rfl⟩;have hSd := St.St.new z1 144 #[.int .i64 0, .int .i64 0];have hbd : Below z1.heap.size z1 ud := by rw [← hud]; exact (Below.refl _ z1).alloc (Nat.le_refl _) _
  rw [hud] at hSd;obtain ⟨hst, hSe, hBe⟩ := hSd.store (P := Tryz.prog) (cells := #[.int .i64 m1, .int .i64 p1]) (by kernel_rfl) rfl (by simp [Value.oneCell']);obtain ⟨z2, hz2⟩ : ∃ q9, ud.setRow z1.heap.size #[.int .i64 m1, .int .i64 p1] = q9 := ⟨_, rfl⟩;have hbz2 := hbd.trans (hBe _ (Nat.le_refl _));rw [hz2] at hSe hbz2 hst;have HB2 := Lib.hid (hbz1.trans (hbz2.mono hbz1.size));have HS2 := Lib.hid (HSz1.out.on hbz2);have HX2 := Lib.hid hSe;clear hSd hbd hBe hSe hbz2;refine Kn.Z.f fun K8 hK8=>?_;refine Kn.Z.s .o (.fieldAddr (.t rfl)) fun Ko Kp=>?_;go_simp;(try go_bits);refine Kp _ _ ?_;clear Kp Ko;refine Kn.Z.s .o (.load (.t rfl)) fun Ko Kp=>?_;go_simp;(try go_bits);refine Kp _ _ ?_;clear Kp Ko;refine Kn.Z.u (.m (.t rfl) .n) ?_;refine Kn.Z.s .o (.bin (.t rfl) .c) fun Ko Kp=>?_;go_simp;(try go_bits);try rw [r2]
  try go_simp
  (try go_bits);refine Kp _ _ ?_;clear Kp Ko;refine Kn.Z.s .o (.indexAddr (.t rfl) (.t rfl)) fun Ko Kp=>?_;go_simp;(try go_bits);refine Kp _ _ ?_;clear Kp Ko;refine Kn.Z.k .o (.load (.t rfl)) hld ?_;refine Kn.Z.s .o .alloc fun Ko Kp=>?_;go_simp;try rw [hud]
  refine Kp _ _ ?_;clear Kp Ko;refine Kn.Z.su .o (.store (.t rfl) (.t rfl)) fun Ko Kp=>?_;rw [hst];refine Kp _ ?_;clear Kp Ko;refine Kn.Z.e hK8 ?_;clear hK8 K8;refine Kn.Z.t (.c 11 rfl (.c 10 rfl (.c 9 rfl (.c 8 rfl (.c 7 rfl (.c 6 rfl (.c 0 rfl (.c 1 rfl .n)))))))) ?_;clear hst hud hld r2 c2 c3 hz2;generalize z1.heap.size = g11 at *;have c3 := HS2.out.cell 3 rfl;have d0 := HX2.out.cell 0 rfl;have d1 := HX2.out.cell 1 rfl;obtain ⟨sb, hsb⟩ : ∃ z : Int, (s.size : Int) - b = z := ⟨_, rfl⟩;have hszm : s.size ≤ 9223372036854775807 := hs
  by_cases hms : sb < m1
  · have HF : Hid (seekR s N v = .inl (.iface 135 (.agg #[.int .i64 p1, .iface 66 (.int .i64 4)]))) := Lib.hid (by rw [HF0.out, if_pos (by omega)]; rfl);have hf := sfault_any p1 66 (.int .i64 4) z2;unfold flt at hf;refine Kn.Z.q fun K9 hK9=>?_;refine Kn.Z.f fun K10 hK10=>?_;refine Kn.Z.s .o (.fieldAddr (.t rfl)) fun Ko Kp=>?_;go_simp;(try go_bits);refine Kp _ _ ?_;clear Kp Ko;refine Kn.Z.s .o (.load (.t rfl)) fun Ko Kp=>?_;go_simp;(try go_bits);refine Kp _ _ ?_;clear Kp Ko;refine Kn.Z.u (.m (.t rfl) .n) ?_;refine Kn.Z.s .o (.len (.t rfl)) fun Ko Kp=>?_;go_simp;(try go_bits);refine Kp _ _ ?_;clear Kp Ko;refine Kn.Z.s .o (.fieldAddr (.t rfl)) fun Ko Kp=>?_;go_simp;(try go_bits);refine Kp _ _ ?_;clear Kp Ko;refine Kn.Z.s .o (.load (.t rfl)) fun Ko Kp=>?_;go_simp;(try go_bits);refine Kp _ _ ?_;clear Kp Ko;refine Kn.Z.s .o (.bin (.t rfl) (.t rfl)) fun Ko Kp=>?_;go_simp;(try go_bits);try rw [hsb]
    try go_simp
    (try go_bits);refine Kp _ _ ?_;clear Kp Ko;refine Kn.Z.s .o (.bin (.t rfl) (.t rfl)) fun Ko Kp=>?_;go_simp;(try go_bits);refine Kp _ _ ?_;clear Kp Ko;refine Kn.Z.e hK10 ?_;clear hK10 K10;refine Kn.Z.y (.t rfl) ?_;refine Kn.Z.f fun K11 hK11=>?_;refine Kn.Z.s .o (.fieldAddr (.t rfl)) fun Ko Kp=>?_;go_simp;(try go_bits);refine Kp _ _ ?_;clear Kp Ko;refine Kn.Z.s .o (.load (.t rfl)) fun Ko Kp=>?_;go_simp;(try go_bits);refine Kp _ _ ?_;clear Kp Ko;refine Kn.Z.s .o (.makeInterface .c) fun Ko Kp=>?_;go_simp;(try go_bits);refine Kp _ _ ?_;clear Kp Ko;refine Kn.Z.c .o (.call (.c (.t rfl) (.c (.t rfl) .n))) Tryz.call72 (hf) fun e wx hp=>?_;obtain ⟨rfl, rfl⟩ := hp;refine ⟨_,rfl,?_⟩;refine Kn.Z.u (.a .c (.a (.t rfl) .n)) ?_;refine Kn.Z.e hK11 ?_;clear hK11 K11;refine Kn.Z.t (.c 7 rfl (.c 6 rfl (.c 11 rfl (.c 10 rfl (.c 9 rfl (.c 8 rfl (.c 0 rfl (.c 1 rfl .n)))))))) ?_;intro fb fg;refine wp_ret ?_;refine Kn.then_ret ?_;exact Kn.ret2 fg rfl rfl rfl ⟨HB2.out, .inl ⟨_, _, HF.out, rfl⟩⟩
  obtain ⟨p0, hp0⟩ : ∃ z : Int, b + m1 = z := ⟨_, rfl⟩;obtain ⟨r8, hr8⟩ : ∃ r, i % 8 = r := ⟨_, rfl⟩;have rm : (i : Int).tmod 8 = (r8 : Int) := by rw [Int.tmod_eq_emod_of_nonneg (by omega)]; omega
  have HF1 : Hid (seekR s N v = match skN s N r8 p0 with | .inl e => .inl (gE e.1 e.2) | .inr q => .inr q) := Lib.hid (by rw [HF0.out, if_neg (by omega), hp0, hr8]);have hr8b : r8 < 8 := by omega
  have hp0b : 0 ≤ p0 ∧ p0 ≤ 9223372036854775807 := by omega
  clear HF0 hr8;refine Kn.Z.q fun K9 hK9=>?_;refine Kn.Z.f fun K10 hK10=>?_;refine Kn.Z.s .o (.fieldAddr (.t rfl)) fun Ko Kp=>?_;go_simp;(try go_bits);refine Kp _ _ ?_;clear Kp Ko;refine Kn.Z.s .o (.load (.t rfl)) fun Ko Kp=>?_;go_simp;(try go_bits);refine Kp _ _ ?_;clear Kp Ko;refine Kn.Z.u (.m (.t rfl) .n) ?_;refine Kn.Z.s .o (.len (.t rfl)) fun Ko Kp=>?_;go_simp;(try go_bits);refine Kp _ _ ?_;clear Kp Ko;refine Kn.Z.s .o (.fieldAddr (.t rfl)) fun Ko Kp=>?_;go_simp;(try go_bits);refine Kp _ _ ?_;clear Kp Ko;refine Kn.Z.s .o (.load (.t rfl)) fun Ko Kp=>?_;go_simp;(try go_bits);refine Kp _ _ ?_;clear Kp Ko;refine Kn.Z.s .o (.bin (.t rfl) (.t rfl)) fun Ko Kp=>?_;go_simp;(try go_bits);try rw [hsb]
  try go_simp
  (try go_bits);refine Kp _ _ ?_;clear Kp Ko;refine Kn.Z.s .o (.bin (.t rfl) (.t rfl)) fun Ko Kp=>?_;go_simp;(try go_bits);refine Kp _ _ ?_;clear Kp Ko;refine Kn.Z.e hK10 ?_;clear hK10 K10;refine Kn.Z.no (.t rfl) ?_;refine Kn.Z.j hK9 ?_;clear hK9 K9;clear hsb;refine Kn.Z.f fun K11 hK11=>?_;refine Kn.Z.s .o (.fieldAddr (.t rfl)) fun Ko Kp=>?_;go_simp;(try go_bits);refine Kp _ _ ?_;clear Kp Ko;refine Kn.Z.s .o (.load (.t rfl)) fun Ko Kp=>?_;go_simp;(try go_bits);refine Kp _ _ ?_;clear Kp Ko;refine Kn.Z.s .o (.fieldAddr (.t rfl)) fun Ko Kp=>?_;go_simp;(try go_bits);refine Kp _ _ ?_;clear Kp Ko;refine Kn.Z.s .o (.load (.t rfl)) fun Ko Kp=>?_;go_simp;(try go_bits);refine Kp _ _ ?_;clear Kp Ko;refine Kn.Z.s .o (.bin (.t rfl) (.t rfl)) fun Ko Kp=>?_;go_simp;(try go_bits);try rw [hp0]
  try go_simp
  (try go_bits);refine Kp _ _ ?_;clear Kp Ko;refine Kn.Z.u (.a (.t rfl) .n) ?_;refine Kn.Z.e hK11 ?_;clear hK11 K11;refine Kn.Z.t (.c 12 rfl (.c 10 rfl (.c 9 rfl (.c 7 rfl (.c 6 rfl (.c 0 rfl (.c 1 rfl .n))))))) ?_;clear hp0 c3 d0 d1;refine Kn.Z.q fun K12 hK12=>?_;refine Kn.Z.f fun K13 hK13=>?_;refine Kn.Z.u (.m (.t rfl) .n) ?_;refine Kn.Z.s .o (.bin (.t rfl) .c) fun Ko Kp=>?_;go_simp;(try go_bits);try rw [rm]
  try go_simp
  (try go_bits);refine Kp _ _ ?_;clear Kp Ko;refine Kn.Z.u (.m .c .n) ?_;refine Kn.Z.e hK13 ?_;clear hK13 K13;clear rm;refine Kn.Z.b ?_;intro fa fh;refine Kn.loop (fun m fr u => ∃ (t j : Nat) (p : Int), Kn.Kn 79 [(65, .int .i64 (t : Int)), (64, .int .i64 (r8 : Int)), (12, .int .i64 p), (0, .string s), (1, .int .i64 N)] fr ∧ t + j = r8 ∧ m = j ∧ Hid (skN s N r8 p0 = skN s N j p) ∧ z2 = u) r8 ⟨0, r8, p0, fh.cut (.u 65 rfl rfl (.c 64 rfl (.c 12 rfl (.c 0 rfl (.c 1 rfl .n))))), by omega, rfl, Lib.hid rfl, rfl⟩ ?_;clear fh fa;intro m14 fb u hI Kl14 hKl14;obtain ⟨t, j, p, fg, htj, hmj, HT, rfl⟩ := hI;rcases j with _ | j
  · obtain rfl : t = r8 := by omega
    have HF : Hid (seekR s N v = .inr p) := Lib.hid (by rw [HF1.out, HT.out, skN])
    revert fb
    refine Kn.Z.f fun K15 hK15=>?_;refine Kn.Z.s .o (.bin (.t rfl) (.t rfl)) fun Ko Kp=>?_;go_simp;(try go_bits);refine Kp _ _ ?_;clear Kp Ko;refine Kn.Z.e hK15 ?_;clear hK15 K15;refine Kn.Z.q fun K16 hK16=>?_;refine Kn.Z.no (.t rfl) ?_;refine Kn.Z.t (.c 65 rfl (.c 64 rfl (.c 12 rfl (.c 0 rfl (.c 1 rfl .n))))) ?_;intro fa fh;refine wp_exit ?_;refine Kn.then_exit ?_;clear hK16 K16;refine Kn.then_exit ?_;clear hKl14 Kl14;refine Kn.block_exit ?_;refine hK12 _ _ ?_;clear hK12 K12
    revert fa
    refine Kn.Z.f fun K17 hK17=>?_;refine Kn.Z.u (.m (.t rfl) (.a (.t rfl) (.a .c .n))) ?_;refine Kn.Z.e hK17 ?_;clear hK17 K17;intro fb fg;refine wp_ret ?_;exact Kn.ret2 fg rfl rfl rfl ⟨HB2.out, .inr ⟨_, HF.out, rfl, hvb.1, hvb.2⟩⟩
  have htl : t < r8 := by omega
  have hsk := gSkip_g s p N z2 hs hN0 hN
  by_cases he : (skC s p N).2.1 = 0
  · have HT2 : Hid (skN s N r8 p0 = skN s N j (skC s p N).1) := Lib.hid (by rw [HT.out, skN_ok he]);rw [he, gE_0] at hsk;obtain ⟨p2, hp2⟩ : ∃ z, (skC s p N).1 = z := ⟨_, rfl⟩;rw [hp2] at hsk HT2;clear hp2 he
    revert fb
    refine Kn.Z.f fun K15 hK15=>?_;refine Kn.Z.s .o (.bin (.t rfl) (.t rfl)) fun Ko Kp=>?_;go_simp;(try go_bits);refine Kp _ _ ?_;clear Kp Ko;refine Kn.Z.e hK15 ?_;clear hK15 K15;refine Kn.Z.q fun K16 hK16=>?_;refine Kn.Z.y (.t rfl) ?_;refine Kn.Z.j hK16 ?_;clear hK16 K16;refine Kn.Z.t (.c 65 rfl (.c 64 rfl (.c 12 rfl (.c 0 rfl (.c 1 rfl .n))))) ?_;refine Kn.Z.q fun K17 hK17=>?_;refine Kn.Z.b ?_;refine Kn.Z.f fun K18 hK18=>?_;refine Kn.Z.u (.m (.t rfl) (.m (.t rfl) (.m (.t rfl) .n))) ?_;refine Kn.Z.c .o (.call (.c (.t rfl) (.c (.t rfl) (.c (.t rfl) .n)))) Tryz.call78 (hsk) fun e wx hp=>?_;obtain ⟨rfl, rfl⟩ := hp;refine ⟨_,rfl,?_⟩;refine Kn.Z.u (.m (.t rfl) (.x (.t rfl) rfl (.x (.t rfl) rfl (.a (.t rfl) (.a (.t rfl) .n))))) ?_;refine Kn.Z.e hK18 ?_;clear hK18 K18;clear hsk;refine Kn.Z.f fun K19 hK19=>?_;refine Kn.Z.u (.m (.t rfl) .n) ?_;refine Kn.Z.s .o (.bin (.t rfl) .c) fun Ko Kp=>?_;go_simp;(try go_bits);refine Kp _ _ ?_;clear Kp Ko;refine Kn.Z.e hK19 ?_;clear hK19 K19;refine Kn.Z.no (.t rfl) ?_;intro fb fg;refine wp_skip ?_;refine Kn.block_normal ?_;refine hK17 _ _ ?_;clear hK17 K17
    revert fb
    refine Kn.Z.t (.c 12 rfl (.c 65 rfl (.c 64 rfl (.c 0 rfl (.c 1 rfl .n))))) ?_;refine Kn.Z.r ?_;refine Kn.Z.s .o (.bin (.t rfl) .c) fun Ko Kp=>?_;go_simp;(try go_bits);refine Kp _ _ ?_;clear Kp Ko;refine Kn.Z.u (.m (.t rfl) .n) ?_;intro fb fg;refine wpList_nil ?_;replace fg := fg.cut (.c 65 rfl (.c 12 rfl (.c 64 rfl (.c 0 rfl (.c 1 rfl .n)))));exact hKl14 (m14 - 1) _ _ (by omega) ⟨t + 1, j, p2, fg.cut (.u 65 rfl (by go_num) (.c 64 rfl (.c 12 rfl (.c 0 rfl (.c 1 rfl .n))))), by omega, by omega, HT2, rfl⟩
  obtain ⟨e2, he2⟩ : ∃ z, (skC s p N).2.1 = z := ⟨_, rfl⟩;obtain ⟨a2, ha2⟩ : ∃ z, (skC s p N).2.2 = z := ⟨_, rfl⟩;obtain ⟨p2, hp2⟩ : ∃ z, (skC s p N).1 = z := ⟨_, rfl⟩;have HF : Hid (seekR s N v = .inl (gE e2 a2)) := Lib.hid (by rw [HF1.out, HT.out, skN_err he, he2, ha2]);rw [he2, ha2, hp2] at hsk;rw [he2] at he;rw [gE_e he] at hsk HF;clear he2 ha2 hp2 he
  revert fb
  refine Kn.Z.f fun K15 hK15=>?_;refine Kn.Z.s .o (.bin (.t rfl) (.t rfl)) fun Ko Kp=>?_;go_simp;(try go_bits);refine Kp _ _ ?_;clear Kp Ko;refine Kn.Z.e hK15 ?_;clear hK15 K15;refine Kn.Z.q fun K16 hK16=>?_;refine Kn.Z.y (.t rfl) ?_;refine Kn.Z.j hK16 ?_;clear hK16 K16;refine Kn.Z.t (.c 65 rfl (.c 64 rfl (.c 12 rfl (.c 0 rfl (.c 1 rfl .n))))) ?_;refine Kn.Z.q fun K17 hK17=>?_;refine Kn.Z.b ?_;refine Kn.Z.f fun K18 hK18=>?_;refine Kn.Z.u (.m (.t rfl) (.m (.t rfl) (.m (.t rfl) .n))) ?_;refine Kn.Z.c .o (.call (.c (.t rfl) (.c (.t rfl) (.c (.t rfl) .n)))) Tryz.call78 (hsk) fun e wx hp=>?_;obtain ⟨rfl, rfl⟩ := hp;refine ⟨_,rfl,?_⟩;refine Kn.Z.u (.m (.t rfl) (.x (.t rfl) rfl (.x (.t rfl) rfl (.a (.t rfl) (.a (.t rfl) .n))))) ?_;refine Kn.Z.e hK18 ?_;clear hK18 K18;clear hsk;refine Kn.Z.f fun K19 hK19=>?_;refine Kn.Z.u (.m (.t rfl) .n) ?_;refine Kn.Z.s .o (.bin (.t rfl) .c) fun Ko Kp=>?_;go_simp;(try go_bits);refine Kp _ _ ?_;clear Kp Ko;refine Kn.Z.e hK19 ?_;clear hK19 K19;refine Kn.Z.y (.t rfl) ?_;refine Kn.Z.t (.c 9 rfl (.c 12 rfl (.c 65 rfl (.c 64 rfl (.c 0 rfl (.c 1 rfl .n)))))) ?_;refine Kn.Z.f fun K20 hK20=>?_;refine Kn.Z.u (.m (.t rfl) (.a .c (.a (.t rfl) .n))) ?_;refine Kn.Z.e hK20 ?_;clear hK20 K20;intro fa fh;refine wp_ret ?_;refine Kn.block_ret ?_;refine Kn.then_ret ?_;refine Kn.then_ret ?_;refine Kn.block_ret ?_;refine Kn.then_ret ?_;exact Kn.ret2 fh rfl rfl rfl ⟨HB2.out, .inl ⟨_, _, HF.out, rfl⟩⟩
set_option maxRecDepth 100000 in
set_option maxHeartbeats 8000000 in
theorem find_g2 (s : ByteArray) (N v : Int) (w : World) (hs : s.size ≤ maxLen) (hN0 : 0 ≤ N) (hN : N ≤ 4096) :
    Calls Tryz.prog 27 #[.string s, .int .i64 N, .int .i64 v] w (FRet2 s N v w) := by
  refine Kn.Z.cl Tryz.func27 rfl Tryz.ntmps27 rfl (.c 0 rfl (.c 1 rfl (.c 2 rfl .n))) ?_;refine Kn.Z.f fun K1 hK1=>?_;refine Kn.Z.u (.a .c (.a .c .n)) ?_;refine Kn.Z.e hK1 ?_;clear hK1 K1;have hk := seek_any s N v w hs hN0 hN;rcases seekR_form s N v with ⟨T, X, hr⟩ | ⟨q, hr, hv0, hv1⟩
  · have hk2 : Calls Tryz.prog 51 #[.string s, .int .i64 N, .int .i64 v] w fun e w' => e = .returned (.tuple #[.int .i64 0, .iface T X]) ∧ Below w.heap.size w w' := by
      refine hk.mono fun e w' hc => ?_;obtain ⟨hb, h⟩ := hc;rw [hr] at h;rcases h with ⟨T', X', he, hh⟩ | ⟨q, he, -⟩
      · cases he; exact ⟨hh, hb⟩
      · cases he
    have HF := Lib.hid hr;clear hk hr;refine Kn.Z.f fun K2 hK2=>?_;refine Kn.Z.u (.m (.t rfl) (.m (.t rfl) (.m (.t rfl) .n))) ?_;refine Kn.Z.c .o (.call (.c (.t rfl) (.c (.t rfl) (.c (.t rfl) .n)))) Tryz.call51 (hk2) fun e w1 hp=>?_;obtain ⟨rfl, hb1⟩ := hp;refine ⟨_,rfl,?_⟩;refine Kn.Z.u (.m (.t rfl) (.x (.t rfl) rfl (.x (.t rfl) rfl (.a (.t rfl) (.a (.t rfl) .n))))) ?_;refine Kn.Z.e hK2 ?_;clear hK2 K2;clear hk2;refine Kn.Z.q fun K3 hK3=>?_;refine Kn.Z.f fun K4 hK4=>?_;refine Kn.Z.u (.m (.t rfl) .n) ?_;refine Kn.Z.s .o (.bin (.t rfl) .c) fun Ko Kp=>?_;go_simp;(try go_bits);refine Kp _ _ ?_;clear Kp Ko;refine Kn.Z.e hK4 ?_;clear hK4 K4;refine Kn.Z.y (.t rfl) ?_;refine Kn.Z.f fun K5 hK5=>?_;refine Kn.Z.u (.m (.t rfl) (.a .c (.a (.t rfl) .n))) ?_;refine Kn.Z.e hK5 ?_;clear hK5 K5;refine Kn.Z.t (.c 7 rfl (.c 6 rfl (.c 9 rfl (.c 8 rfl (.c 0 rfl (.c 1 rfl (.c 2 rfl .n))))))) ?_;intro fa fh;refine wp_ret ?_;refine Kn.then_ret ?_;exact Kn.ret2 fh rfl rfl rfl ⟨hb1, .inl ⟨_, _, HF.out, rfl⟩⟩
  have hk2 : Calls Tryz.prog 51 #[.string s, .int .i64 N, .int .i64 v] w fun e w' => e = .returned (.tuple #[.int .i64 q, .nilIface]) ∧ Below w.heap.size w w' := by
    refine hk.mono fun e w' hc => ?_;obtain ⟨hb, h⟩ := hc;rw [hr] at h;rcases h with ⟨T', X', he, hh⟩ | ⟨q', he, hh, -⟩
    · cases he
    · cases he; exact ⟨hh, hb⟩
  have HF := Lib.hid hr;clear hk hr;refine Kn.Z.f fun K2 hK2=>?_;refine Kn.Z.u (.m (.t rfl) (.m (.t rfl) (.m (.t rfl) .n))) ?_;refine Kn.Z.c .o (.call (.c (.t rfl) (.c (.t rfl) (.c (.t rfl) .n)))) Tryz.call51 (hk2) fun e w1 hp=>?_;obtain ⟨rfl, hb1⟩ := hp;refine ⟨_,rfl,?_⟩;refine Kn.Z.u (.m (.t rfl) (.x (.t rfl) rfl (.x (.t rfl) rfl (.a (.t rfl) (.a (.t rfl) .n))))) ?_;refine Kn.Z.e hK2 ?_;clear hK2 K2;clear hk2;refine Kn.Z.q fun K3 hK3=>?_;refine Kn.Z.f fun K4 hK4=>?_;refine Kn.Z.u (.m (.t rfl) .n) ?_;refine Kn.Z.s .o (.bin (.t rfl) .c) fun Ko Kp=>?_;go_simp;(try go_bits);refine Kp _ _ ?_;clear Kp Ko;refine Kn.Z.e hK4 ?_;clear hK4 K4;refine Kn.Z.no (.t rfl) ?_;refine Kn.Z.j hK3 ?_;clear hK3 K3;have hgt := gGet_any s q N v w1 hs hN hv0 hv1;rcases hr : gtC s q N v with ⟨x5, a5⟩ | ⟨l5, q5⟩
  · have hgt2 : Calls Tryz.prog 52 #[.string s, .int .i64 q, .int .i64 N, .int .i64 v] w1 fun e w' => e = .returned (.tuple #[.slice none 0 0, .int .i64 q, .iface 135 (.agg #[.int .i64 a5, .iface 66 (.int .i64 x5)])]) ∧ Below w1.heap.size w1 w' := by
      refine hgt.mono fun e w' hc => ?_;obtain ⟨hb, h⟩ := hc;rw [hr] at h;rcases h with ⟨x', a', he, -, hh⟩ | ⟨l, nx, g, he, -⟩
      · cases he; exact ⟨hh, hb⟩
      · cases he
    have HR := Lib.hid hr;clear hgt hr;refine Kn.Z.f fun K5 hK5=>?_;refine Kn.Z.u (.m (.t rfl) (.m (.t rfl) (.m (.t rfl) (.m (.t rfl) .n)))) ?_;refine Kn.Z.c .o (.call (.c (.t rfl) (.c (.t rfl) (.c (.t rfl) (.c (.t rfl) .n))))) Tryz.call52 (hgt2) fun e w2 hp=>?_;obtain ⟨rfl, hb2⟩ := hp;refine ⟨_,rfl,?_⟩;refine Kn.Z.u (.m (.t rfl) (.x (.t rfl) rfl (.x (.t rfl) rfl (.x (.t rfl) rfl (.a (.t rfl) (.a (.t rfl) (.a (.t rfl) .n))))))) ?_;refine Kn.Z.e hK5 ?_;clear hK5 K5;refine Kn.Z.t (.c 9 rfl (.c 10 rfl (.c 7 rfl (.c 6 rfl .n)))) ?_;clear hgt2;refine Kn.Z.f fun K6 hK6=>?_;refine Kn.Z.u (.m (.t rfl) (.m (.t rfl) (.a (.t rfl) (.a (.t rfl) .n)))) ?_;refine Kn.Z.e hK6 ?_;clear hK6 K6;intro fb fg;refine wp_ret ?_;exact Kn.ret2 fg rfl rfl rfl ⟨hb1.trans (hb2.mono hb1.size), .inr ⟨_, HF.out, .inl ⟨_, _, HR.out, rfl⟩⟩⟩
  have hgt2 : Calls Tryz.prog 52 #[.string s, .int .i64 q, .int .i64 N, .int .i64 v] w1 fun e w' => ∃ g, e = .returned (.tuple #[.slice (some ⟨g, 0, none⟩) l5.length l5.length, .int .i64 q5, .nilIface]) ∧ HoldI w' g l5 ∧ w1.heap.size ≤ g ∧ Below w1.heap.size w1 w' := by
    refine hgt.mono fun e w' hc => ?_;obtain ⟨hb, h⟩ := hc;rw [hr] at h;rcases h with ⟨x', a', he, -, hh⟩ | ⟨l, nx, g, he, hh, h1, h2, h3⟩
    · cases he
    · cases he; exact ⟨g, hh, h1, h2, hb⟩
  have HR := Lib.hid hr;clear hgt hr;refine Kn.Z.f fun K5 hK5=>?_;refine Kn.Z.u (.m (.t rfl) (.m (.t rfl) (.m (.t rfl) (.m (.t rfl) .n)))) ?_;refine Kn.Z.c .o (.call (.c (.t rfl) (.c (.t rfl) (.c (.t rfl) (.c (.t rfl) .n))))) Tryz.call52 (hgt2) fun e w2 hp=>?_;obtain ⟨g, rfl, hH, hg2, hb2⟩ := hp;refine ⟨_,rfl,?_⟩;refine Kn.Z.u (.m (.t rfl) (.x (.t rfl) rfl (.x (.t rfl) rfl (.x (.t rfl) rfl (.a (.t rfl) (.a (.t rfl) (.a (.t rfl) .n))))))) ?_;refine Kn.Z.e hK5 ?_;clear hK5 K5;refine Kn.Z.t (.c 9 rfl (.c 10 rfl (.c 7 rfl (.c 6 rfl .n)))) ?_;clear hgt2;refine Kn.Z.f fun K6 hK6=>?_;refine Kn.Z.u (.m (.t rfl) (.m (.t rfl) (.a (.t rfl) (.a (.t rfl) .n)))) ?_;refine Kn.Z.e hK6 ?_;clear hK6 K6;intro fb fg;refine wp_ret ?_;exact Kn.ret2 fg rfl rfl rfl ⟨hb1.trans (hb2.mono hb1.size), .inr ⟨_, HF.out, .inr ⟨_, _, g, HR.out, rfl, hH.iin, Nat.le_trans hb1.size hg2⟩⟩⟩
set_option maxRecDepth 100000 in
set_option maxHeartbeats 8000000 in
theorem degree_g (s : ByteArray) (N v : Int) (w : World) (hs : s.size ≤ maxLen) (hN0 : 0 ≤ N) (hN : N ≤ 4096) :
    Calls Tryz.prog 29 #[.string s, .int .i64 N, .int .i64 v] w (DRet s N v w) := by
  refine Kn.Z.cl Tryz.func29 rfl Tryz.ntmps29 rfl (.c 0 rfl (.c 1 rfl (.c 2 rfl .n))) ?_;refine Kn.Z.f fun K1 hK1=>?_;refine Kn.Z.u (.a .c (.a .c .n)) ?_;refine Kn.Z.e hK1 ?_;clear hK1 K1;have hk := seek_any s N v w hs hN0 hN;rcases seekR_form s N v with ⟨T, X, hr⟩ | ⟨q, hr, hv0, hv1⟩
  · have hk2 : Calls Tryz.prog 51 #[.string s, .int .i64 N, .int .i64 v] w fun e w' => e = .returned (.tuple #[.int .i64 0, .iface T X]) ∧ Below w.heap.size w w' := by
      refine hk.mono fun e w' hc => ?_;obtain ⟨hb, h⟩ := hc;rw [hr] at h;rcases h with ⟨T', X', he, hh⟩ | ⟨q, he, -⟩
      · cases he; exact ⟨hh, hb⟩
      · cases he
    have HF := Lib.hid hr;clear hk hr;refine Kn.Z.f fun K2 hK2=>?_;refine Kn.Z.u (.m (.t rfl) (.m (.t rfl) (.m (.t rfl) .n))) ?_;refine Kn.Z.c .o (.call (.c (.t rfl) (.c (.t rfl) (.c (.t rfl) .n)))) Tryz.call51 (hk2) fun e w1 hp=>?_;obtain ⟨rfl, hb1⟩ := hp;refine ⟨_,rfl,?_⟩;refine Kn.Z.u (.m (.t rfl) (.x (.t rfl) rfl (.x (.t rfl) rfl (.a (.t rfl) (.a (.t rfl) .n))))) ?_;refine Kn.Z.e hK2 ?_;clear hK2 K2;clear hk2;refine Kn.Z.q fun K3 hK3=>?_;refine Kn.Z.f fun K4 hK4=>?_;refine Kn.Z.u (.m (.t rfl) .n) ?_;refine Kn.Z.s .o (.bin (.t rfl) .c) fun Ko Kp=>?_;go_simp;(try go_bits);refine Kp _ _ ?_;clear Kp Ko;refine Kn.Z.e hK4 ?_;clear hK4 K4;refine Kn.Z.y (.t rfl) ?_;refine Kn.Z.t (.c 9 rfl (.c 8 rfl (.c 7 rfl (.c 6 rfl (.c 0 rfl (.c 1 rfl .n)))))) ?_;refine Kn.Z.f fun K5 hK5=>?_;refine Kn.Z.u (.m (.t rfl) (.a .c (.a (.t rfl) .n))) ?_;refine Kn.Z.e hK5 ?_;clear hK5 K5;intro fa fh;refine wp_ret ?_;refine Kn.then_ret ?_;exact Kn.ret2 fh rfl rfl rfl ⟨hb1, .inl ⟨_, _, HF.out, rfl⟩⟩
  have hk2 : Calls Tryz.prog 51 #[.string s, .int .i64 N, .int .i64 v] w fun e w' => e = .returned (.tuple #[.int .i64 q, .nilIface]) ∧ Below w.heap.size w w' := by
    refine hk.mono fun e w' hc => ?_;obtain ⟨hb, h⟩ := hc;rw [hr] at h;rcases h with ⟨T', X', he, hh⟩ | ⟨q', he, hh, -⟩
    · cases he
    · cases he; exact ⟨hh, hb⟩
  have HF := Lib.hid hr;clear hk hr;refine Kn.Z.f fun K2 hK2=>?_;refine Kn.Z.u (.m (.t rfl) (.m (.t rfl) (.m (.t rfl) .n))) ?_;refine Kn.Z.c .o (.call (.c (.t rfl) (.c (.t rfl) (.c (.t rfl) .n)))) Tryz.call51 (hk2) fun e w1 hp=>?_;obtain ⟨rfl, hb1⟩ := hp;refine ⟨_,rfl,?_⟩;refine Kn.Z.u (.m (.t rfl) (.x (.t rfl) rfl (.x (.t rfl) rfl (.a (.t rfl) (.a (.t rfl) .n))))) ?_;refine Kn.Z.e hK2 ?_;clear hK2 K2;clear hk2;refine Kn.Z.q fun K3 hK3=>?_;refine Kn.Z.f fun K4 hK4=>?_;refine Kn.Z.u (.m (.t rfl) .n) ?_;refine Kn.Z.s .o (.bin (.t rfl) .c) fun Ko Kp=>?_;go_simp;(try go_bits);refine Kp _ _ ?_;clear Kp Ko;refine Kn.Z.e hK4 ?_;clear hK4 K4;refine Kn.Z.no (.t rfl) ?_;refine Kn.Z.j hK3 ?_;clear hK3 K3;refine Kn.Z.t (.c 8 rfl (.c 7 rfl (.c 6 rfl (.c 0 rfl (.c 1 rfl .n))))) ?_;refine Kn.Z.f fun K5 hK5=>?_;refine Kn.Z.u (.m (.t rfl) (.m (.t rfl) (.m (.t rfl) .n))) ?_;refine Kn.Z.c .o (.call (.c (.t rfl) (.c (.t rfl) (.c (.t rfl) .n)))) Tryz.call54 (gCount_g s q N w1 hs hN0 hN) fun e w2 hp=>?_;obtain ⟨rfl, rfl⟩ := hp;refine ⟨_,rfl,?_⟩;refine Kn.Z.u (.x (.t rfl) rfl (.x (.t rfl) rfl (.a (.t rfl) (.a (.t rfl) .n)))) ?_;refine Kn.Z.e hK5 ?_;clear hK5 K5;refine Kn.Z.t (.c 7 rfl (.c 6 rfl .n)) ?_;intro fb fg;refine wp_ret ?_;exact Kn.ret2 fg rfl rfl rfl ⟨hb1, .inr ⟨_, HF.out, rfl⟩⟩
end Go.Proofs.YtchdlgdmomcemaaGreatDoor.Shd
end
section
namespace Go.Proofs.YtchdlgdmomcemaaGreatDoor.Shd
open Go Go.RowKit Go.Lib Oct Num Gap RowG Edg Csr
def cutN (N E : Nat) : Nat := (N - 1) / E + 1
def partF (ys : List (Int × Int)) (N E i : Nat) : ByteArray := bs (shF (i * E) (min E (N - i * E)) (rowsF ys (i * E)))
def partsF (ys : List (Int × Int)) (N E k : Nat) : List ByteArray := (List.range k).map (partF ys N E)
theorem partsF_len (ys : List (Int × Int)) (N E k : Nat) : (partsF ys N E k).length = k := by simp [partsF]
theorem partsF_succ (ys : List (Int × Int)) (N E k : Nat) : partsF ys N E (k + 1) = partsF ys N E k ++ [partF ys N E k] := by simp [partsF, List.range_succ]
theorem partsF_at (ys : List (Int × Int)) (N E k i : Nat) (h : i < k) : (partsF ys N E k)[i]? = some (partF ys N E i) := by simp [partsF, h]
theorem cut_lt {N E i : Nat} (hE : 1 ≤ E) (hN : 1 ≤ N) (h : i < cutN N E) : i * E < N := by
  unfold cutN at h;have h1 : i ≤ (N - 1) / E := by omega
  have := (Nat.le_div_iff_mul_le (by omega)).1 h1;omega
theorem cut_end {N E : Nat} (hE : 1 ≤ E) (hN : 1 ≤ N) : N ≤ cutN N E * E := by
  unfold cutN;have := Nat.div_add_mod (N - 1) E;have h2 := Nat.mod_lt (N - 1) (show E > 0 by omega);rw [Nat.add_mul, Nat.one_mul, Nat.mul_comm];omega
set_option maxRecDepth 100000 in
set_option maxHeartbeats 8000000 in
theorem split_arg (E : Int) (p : Addr) (w : World) (h : E < 1) :
    Calls Tryz.prog 42 #[.pointer (some p), .int .i64 E] w fun e w' => e = .returned (.tuple #[.slice none 0 0, errnoV 1]) ∧ w = w' := by
  refine Kn.Z.cl Tryz.func42 rfl Tryz.ntmps42 rfl (.c 0 rfl (.c 1 rfl .n)) ?_;refine Kn.Z.f fun K1 hK1=>?_;refine Kn.Z.u (.a .c (.a .c .n)) ?_;refine Kn.Z.e hK1 ?_;clear hK1 K1;refine Kn.Z.q fun K2 hK2=>?_;refine Kn.Z.f fun K3 hK3=>?_;refine Kn.Z.u (.m (.t rfl) .n) ?_;refine Kn.Z.s .o (.bin (.t rfl) .c) fun Ko Kp=>?_;go_simp;(try go_bits);refine Kp _ _ ?_;clear Kp Ko;refine Kn.Z.u (.m (.t rfl) (.e (.s rfl rfl rfl) (.move (.t rfl)) .n)) ?_;refine Kn.Z.s (.s rfl rfl rfl) (.bin (.t rfl) .c) fun Ko Kp=>?_;go_simp;(try go_bits);refine Kp _ _ ?_;clear Kp Ko;refine Kn.Z.u (.e .o (.pick (.t rfl) (.t rfl)) .n) ?_;refine Kn.Z.e hK3 ?_;clear hK3 K3;refine Kn.Z.y (.t rfl) ?_;refine Kn.Z.f fun K4 hK4=>?_;refine Kn.Z.s .o (.makeInterface .c) fun Ko Kp=>?_;go_simp;(try go_bits);refine Kp _ _ ?_;clear Kp Ko;refine Kn.Z.u (.a .c (.a (.t rfl) .n)) ?_;refine Kn.Z.e hK4 ?_;clear hK4 K4;intro fb fg;refine wp_ret ?_;refine Kn.then_ret ?_;exact Kn.ret2 fg rfl rfl rfl ⟨rfl, rfl⟩
set_option maxRecDepth 100000 in
set_option maxHeartbeats 8000000 in
theorem split_zero (E : Nat) (w : World) (B g N : Nat) (ys : List (Int × Int)) (hR : Rep w B g N ys) (hE : 1 ≤ E) (hN : N = 0) :
    Calls Tryz.prog 42 #[.pointer (some ⟨g, 0, none⟩), .int .i64 (E : Int)] w fun e w' => e = .returned (.tuple #[.slice none 0 0, .nilIface]) ∧ w = w' := by
  refine Kn.Z.cl Tryz.func42 rfl Tryz.ntmps42 rfl (.c 0 rfl (.c 1 rfl .n)) ?_;refine Kn.Z.f fun K1 hK1=>?_;refine Kn.Z.u (.a .c (.a .c .n)) ?_;refine Kn.Z.e hK1 ?_;clear hK1 K1;have hno := nodes_any w B g N ys hR;have hN4 := hR.hi;have q1 : ¬ (E : Int) < 1 := by omega
  have HR := Lib.hid hR;clear hR;refine Kn.Z.q fun K2 hK2=>?_;refine Kn.Z.f fun K3 hK3=>?_;refine Kn.Z.u (.m (.t rfl) .n) ?_;refine Kn.Z.s .o (.bin (.t rfl) .c) fun Ko Kp=>?_;go_simp;(try go_bits);refine Kp _ _ ?_;clear Kp Ko;refine Kn.Z.u (.m (.t rfl) (.e (.s rfl rfl rfl) (.move (.t rfl)) .n)) ?_;refine Kn.Z.s (.s rfl rfl rfl) (.bin (.t rfl) .c) fun Ko Kp=>?_;go_simp;(try go_bits);refine Kp _ _ ?_;clear Kp Ko;refine Kn.Z.u (.e .o (.pick (.t rfl) (.t rfl)) .n) ?_;refine Kn.Z.e hK3 ?_;clear hK3 K3;refine Kn.Z.no (.t rfl) ?_;refine Kn.Z.j hK2 ?_;clear hK2 K2;subst hN;have q0 : (((0 : Nat) : Int) == 0) = true := rfl;refine Kn.Z.q fun K4 hK4=>?_;refine Kn.Z.f fun K5 hK5=>?_;refine Kn.Z.u (.m (.t rfl) .n) ?_;refine Kn.Z.c .o (.call (.c (.t rfl) .n)) Tryz.call69 (hno) fun e w1 hp=>?_;obtain ⟨rfl, rfl⟩ := hp;refine ⟨_,rfl,?_⟩;refine Kn.Z.s .o (.bin (.t rfl) .c) fun Ko Kp=>?_;go_simp;(try go_bits);refine Kp _ _ ?_;clear Kp Ko;refine Kn.Z.e hK5 ?_;clear hK5 K5;refine Kn.Z.y (.t rfl) ?_;refine Kn.Z.f fun K6 hK6=>?_;refine Kn.Z.u (.a .c (.a .c .n)) ?_;refine Kn.Z.e hK6 ?_;clear hK6 K6;intro fb fg;refine wp_ret ?_;refine Kn.then_ret ?_;exact Kn.ret2 fg rfl rfl rfl ⟨rfl, rfl⟩
set_option maxRecDepth 100000 in
set_option maxHeartbeats 8000000 in
theorem split_long (E : Nat) (w : World) (B g N : Nat) (ys : List (Int × Int)) (hR : Rep w B g N ys) (hE : 1 ≤ E) (hE2 : E ≤ 9223372036854775807) (hN : 1 ≤ N) (hl : 64 < cutN N E) :
    Calls Tryz.prog 42 #[.pointer (some ⟨g, 0, none⟩), .int .i64 (E : Int)] w fun e w' => e = .returned (.tuple #[.slice none 0 0, errnoV 6]) ∧ w = w' := by
  refine Kn.Z.cl Tryz.func42 rfl Tryz.ntmps42 rfl (.c 0 rfl (.c 1 rfl .n)) ?_;refine Kn.Z.f fun K1 hK1=>?_;refine Kn.Z.u (.a .c (.a .c .n)) ?_;refine Kn.Z.e hK1 ?_;clear hK1 K1;have hno := nodes_any w B g N ys hR;have hN4 := hR.hi;have q1 : ¬ (E : Int) < 1 := by omega
  have HR := Lib.hid hR;clear hR;refine Kn.Z.q fun K2 hK2=>?_;refine Kn.Z.f fun K3 hK3=>?_;refine Kn.Z.u (.m (.t rfl) .n) ?_;refine Kn.Z.s .o (.bin (.t rfl) .c) fun Ko Kp=>?_;go_simp;(try go_bits);refine Kp _ _ ?_;clear Kp Ko;refine Kn.Z.u (.m (.t rfl) (.e (.s rfl rfl rfl) (.move (.t rfl)) .n)) ?_;refine Kn.Z.s (.s rfl rfl rfl) (.bin (.t rfl) .c) fun Ko Kp=>?_;go_simp;(try go_bits);refine Kp _ _ ?_;clear Kp Ko;refine Kn.Z.u (.e .o (.pick (.t rfl) (.t rfl)) .n) ?_;refine Kn.Z.e hK3 ?_;clear hK3 K3;refine Kn.Z.no (.t rfl) ?_;refine Kn.Z.j hK2 ?_;clear hK2 K2;have q0 : ((N : Int) == 0) = false := by rw [beq_eq_false_iff_ne]; omega
  have q2 : (N == 0) = false := by rw [beq_eq_false_iff_ne]; omega
  obtain ⟨n1, hn1⟩ : ∃ j, N = j + 1 := ⟨N - 1, by omega⟩;obtain ⟨d, hd⟩ : ∃ d, n1 / E = d := ⟨_, rfl⟩;obtain ⟨C, hC⟩ : ∃ C, cutN N E = C := ⟨_, rfl⟩;have hCd : C = d + 1 := by rw [← hC, ← hd]; unfold cutN; rw [hn1]; rfl
  have hdb : d ≤ 4096 := by rw [← hd]; have := Nat.div_le_self n1 E; omega
  have r1 : (N : Int) - 1 = (n1 : Int) := by omega
  have r2 : (n1 : Int).tdiv (E : Int) = (d : Int) := by rw [Int.tdiv_eq_ediv_of_nonneg (by omega), ← hd]; rfl
  have r3 : (d : Int) + 1 = (C : Int) := by omega
  have hE0 : ¬ (E : Int) = 0 := by omega
  have hE1 : ¬ E = 0 := by omega
  have HC := Lib.hid hC;clear hn1 hd hCd;refine Kn.Z.q fun K4 hK4=>?_;refine Kn.Z.f fun K5 hK5=>?_;refine Kn.Z.u (.m (.t rfl) .n) ?_;refine Kn.Z.c .o (.call (.c (.t rfl) .n)) Tryz.call69 (hno) fun e w1 hp=>?_;obtain ⟨rfl, rfl⟩ := hp;refine ⟨_,rfl,?_⟩;refine Kn.Z.s .o (.bin (.t rfl) .c) fun Ko Kp=>?_;go_simp;(try go_bits);refine Kp _ _ ?_;clear Kp Ko;refine Kn.Z.e hK5 ?_;clear hK5 K5;refine Kn.Z.no (.t rfl) ?_;refine Kn.Z.j hK4 ?_;clear hK4 K4;refine Kn.Z.f fun K6 hK6=>?_;refine Kn.Z.u (.m (.t rfl) .n) ?_;refine Kn.Z.c .o (.call (.c (.t rfl) .n)) Tryz.call69 (hno) fun e w1 hp=>?_;obtain ⟨rfl, rfl⟩ := hp;refine ⟨_,rfl,?_⟩;refine Kn.Z.s .o (.bin (.t rfl) .c) fun Ko Kp=>?_;go_simp;(try go_bits);try rw [r1]
  try go_simp
  (try go_bits);refine Kp _ _ ?_;clear Kp Ko;refine Kn.Z.u (.m (.t rfl) .n) ?_;refine Kn.Z.s .o (.bin (.t rfl) (.t rfl)) fun Ko Kp=>?_;go_simp;(try go_bits);try rw [r2]
  try go_simp
  (try go_bits);refine Kp _ _ ?_;clear Kp Ko;refine Kn.Z.s .o (.bin (.t rfl) .c) fun Ko Kp=>?_;go_simp;(try go_bits);try rw [r3]
  try go_simp
  (try go_bits);refine Kp _ _ ?_;clear Kp Ko;refine Kn.Z.u (.a (.t rfl) .n) ?_;refine Kn.Z.e hK6 ?_;clear hK6 K6;refine Kn.Z.t (.c 6 rfl (.c 5 rfl (.c 4 rfl (.c 0 rfl (.c 1 rfl .n))))) ?_;clear r1 r2 r3 q0 q2 hno;have q6 : (64 : Int) < (C : Int) := by rw [hC] at hl; omega
  refine Kn.Z.q fun K7 hK7=>?_;refine Kn.Z.f fun K8 hK8=>?_;refine Kn.Z.u (.m (.t rfl) .n) ?_;refine Kn.Z.s .o (.bin (.t rfl) .c) fun Ko Kp=>?_;go_simp;(try go_bits);refine Kp _ _ ?_;clear Kp Ko;refine Kn.Z.e hK8 ?_;clear hK8 K8;refine Kn.Z.y (.t rfl) ?_;refine Kn.Z.f fun K9 hK9=>?_;refine Kn.Z.s .o (.makeInterface .c) fun Ko Kp=>?_;go_simp;(try go_bits);refine Kp _ _ ?_;clear Kp Ko;refine Kn.Z.u (.a .c (.a (.t rfl) .n)) ?_;refine Kn.Z.e hK9 ?_;clear hK9 K9;intro fb fg;refine wp_ret ?_;refine Kn.then_ret ?_;exact Kn.ret2 fg rfl rfl rfl ⟨rfl, rfl⟩
set_option maxRecDepth 100000 in
set_option maxHeartbeats 8000000 in
theorem split_yes (E : Nat) (w : World) (B g N : Nat) (ys : List (Int × Int)) (hR : Rep w B g N ys) (hE : 1 ≤ E) (hE2 : E ≤ 9223372036854775807) (hN : 1 ≤ N) (hl : cutN N E ≤ 64) :
    Calls Tryz.prog 42 #[.pointer (some ⟨g, 0, none⟩), .int .i64 (E : Int)] w fun e w' => ∃ gs, e = .returned (.tuple #[.slice (some ⟨gs, 0, none⟩) (cutN N E) (cutN N E), .nilIface]) ∧ Hold txR w' gs (partsF ys N E (cutN N E)) ∧ w.heap.size ≤ gs ∧ Below w.heap.size w w' := by
  refine Kn.Z.cl Tryz.func42 rfl Tryz.ntmps42 rfl (.c 0 rfl (.c 1 rfl .n)) ?_;refine Kn.Z.f fun K1 hK1=>?_;refine Kn.Z.u (.a .c (.a .c .n)) ?_;refine Kn.Z.e hK1 ?_;clear hK1 K1;have hno := nodes_any w B g N ys hR;have hN4 := hR.hi;have q1 : ¬ (E : Int) < 1 := by omega
  have HR := Lib.hid hR;clear hR;refine Kn.Z.q fun K2 hK2=>?_;refine Kn.Z.f fun K3 hK3=>?_;refine Kn.Z.u (.m (.t rfl) .n) ?_;refine Kn.Z.s .o (.bin (.t rfl) .c) fun Ko Kp=>?_;go_simp;(try go_bits);refine Kp _ _ ?_;clear Kp Ko;refine Kn.Z.u (.m (.t rfl) (.e (.s rfl rfl rfl) (.move (.t rfl)) .n)) ?_;refine Kn.Z.s (.s rfl rfl rfl) (.bin (.t rfl) .c) fun Ko Kp=>?_;go_simp;(try go_bits);refine Kp _ _ ?_;clear Kp Ko;refine Kn.Z.u (.e .o (.pick (.t rfl) (.t rfl)) .n) ?_;refine Kn.Z.e hK3 ?_;clear hK3 K3;refine Kn.Z.no (.t rfl) ?_;refine Kn.Z.j hK2 ?_;clear hK2 K2;have q0 : ((N : Int) == 0) = false := by rw [beq_eq_false_iff_ne]; omega
  have q2 : (N == 0) = false := by rw [beq_eq_false_iff_ne]; omega
  obtain ⟨n1, hn1⟩ : ∃ j, N = j + 1 := ⟨N - 1, by omega⟩;obtain ⟨d, hd⟩ : ∃ d, n1 / E = d := ⟨_, rfl⟩;obtain ⟨C, hC⟩ : ∃ C, cutN N E = C := ⟨_, rfl⟩;have hCd : C = d + 1 := by rw [← hC, ← hd]; unfold cutN; rw [hn1]; rfl
  have hdb : d ≤ 4096 := by rw [← hd]; have := Nat.div_le_self n1 E; omega
  have r1 : (N : Int) - 1 = (n1 : Int) := by omega
  have r2 : (n1 : Int).tdiv (E : Int) = (d : Int) := by rw [Int.tdiv_eq_ediv_of_nonneg (by omega), ← hd]; rfl
  have r3 : (d : Int) + 1 = (C : Int) := by omega
  have hE0 : ¬ (E : Int) = 0 := by omega
  have hE1 : ¬ E = 0 := by omega
  have HC := Lib.hid hC;clear hn1 hd hCd;refine Kn.Z.q fun K4 hK4=>?_;refine Kn.Z.f fun K5 hK5=>?_;refine Kn.Z.u (.m (.t rfl) .n) ?_;refine Kn.Z.c .o (.call (.c (.t rfl) .n)) Tryz.call69 (hno) fun e w1 hp=>?_;obtain ⟨rfl, rfl⟩ := hp;refine ⟨_,rfl,?_⟩;refine Kn.Z.s .o (.bin (.t rfl) .c) fun Ko Kp=>?_;go_simp;(try go_bits);refine Kp _ _ ?_;clear Kp Ko;refine Kn.Z.e hK5 ?_;clear hK5 K5;refine Kn.Z.no (.t rfl) ?_;refine Kn.Z.j hK4 ?_;clear hK4 K4;refine Kn.Z.f fun K6 hK6=>?_;refine Kn.Z.u (.m (.t rfl) .n) ?_;refine Kn.Z.c .o (.call (.c (.t rfl) .n)) Tryz.call69 (hno) fun e w1 hp=>?_;obtain ⟨rfl, rfl⟩ := hp;refine ⟨_,rfl,?_⟩;refine Kn.Z.s .o (.bin (.t rfl) .c) fun Ko Kp=>?_;go_simp;(try go_bits);try rw [r1]
  try go_simp
  (try go_bits);refine Kp _ _ ?_;clear Kp Ko;refine Kn.Z.u (.m (.t rfl) .n) ?_;refine Kn.Z.s .o (.bin (.t rfl) (.t rfl)) fun Ko Kp=>?_;go_simp;(try go_bits);try rw [r2]
  try go_simp
  (try go_bits);refine Kp _ _ ?_;clear Kp Ko;refine Kn.Z.s .o (.bin (.t rfl) .c) fun Ko Kp=>?_;go_simp;(try go_bits);try rw [r3]
  try go_simp
  (try go_bits);refine Kp _ _ ?_;clear Kp Ko;refine Kn.Z.u (.a (.t rfl) .n) ?_;refine Kn.Z.e hK6 ?_;clear hK6 K6;refine Kn.Z.t (.c 6 rfl (.c 5 rfl (.c 4 rfl (.c 0 rfl (.c 1 rfl .n))))) ?_;clear r1 r2 r3 q0 q2 hno;have q6 : ¬ (64 : Int) < (C : Int) := by rw [hC] at hl; omega
  have hC64 : C ≤ 64 := by omega
  obtain ⟨w5, hmk, hO5, hb5⟩ := makeG (P := Tryz.prog) txR elemTx ⟨#[]⟩ rfl w C (by show C * 1 ≤ _; omega) (by omega) (by omega);clear hl;refine Kn.Z.q fun K7 hK7=>?_;refine Kn.Z.f fun K8 hK8=>?_;refine Kn.Z.u (.m (.t rfl) .n) ?_;refine Kn.Z.s .o (.bin (.t rfl) .c) fun Ko Kp=>?_;go_simp;(try go_bits);refine Kp _ _ ?_;clear Kp Ko;refine Kn.Z.e hK8 ?_;clear hK8 K8;refine Kn.Z.no (.t rfl) ?_;refine Kn.Z.j hK7 ?_;clear hK7 K7;refine Kn.Z.f fun K9 hK9=>?_;refine Kn.Z.u (.m (.t rfl) .n) ?_;refine Kn.Z.k .o (.makeSlice (.t rfl) (.t rfl)) hmk ?_;refine Kn.Z.u (.a (.t rfl) .n) ?_;refine Kn.Z.e hK9 ?_;clear hK9 K9;clear hmk;obtain ⟨gs, hgs⟩ : ∃ g, w.heap.size = g := ⟨_, rfl⟩;have hgw : w.heap.size ≤ gs := by omega
  intro fb fg;rw [hgs] at hO5 fg;have HF5 : Hid (Fill txR ⟨#[]⟩ w5 gs C (partsF ys N E 0)) := Lib.hid (Fill.start hO5);have HB5 := Lib.hid hb5;rw [hC];clear hO5 hb5 hgs
  revert fb
  refine Kn.Z.q fun K10 hK10=>?_;refine Kn.Z.f fun K11 hK11=>?_;refine Kn.Z.u (.m (.t rfl) (.m .c .n)) ?_;refine Kn.Z.e hK11 ?_;clear hK11 K11;refine Kn.Z.b ?_;intro fb fg;refine Kn.loop (fun m fr u => ∃ (k : Nat), Kn.Kn 61 [(33, .int .i64 (k : Int)), (32, .int .i64 (C : Int)), (7, .slice (some ⟨gs, 0, none⟩) C C), (0, .pointer (some ⟨g, 0, none⟩)), (1, .int .i64 (E : Int))] fr ∧ k + m = C ∧ Hid (Fill txR ⟨#[]⟩ u gs C (partsF ys N E k)) ∧ Hid (Below w.heap.size w u)) C ⟨0, fg.cut (.u 33 rfl rfl (.c 32 rfl (.c 7 rfl (.c 0 rfl (.c 1 rfl .n))))), by omega, HF5, HB5⟩ ?_;clear fg fb;intro m12 fa u hI Kl12 hKl12;obtain ⟨k, fh, hk, HF, HB⟩ := hI;clear HF5 HB5
  by_cases hlt : k < C
  · have hkN : k * E < N := cut_lt hE hN (by rw [HC.out]; exact hlt);obtain ⟨f, hf⟩ : ∃ f, k * E = f := ⟨_, rfl⟩;rw [hf] at hkN;have rf : (k : Int) * (E : Int) = (f : Int) := by rw [← hf]; simp
    obtain ⟨r, hr⟩ : ∃ r, N - f = r := ⟨_, rfl⟩;have rr : (N : Int) - (f : Int) = (r : Int) := by omega
    obtain ⟨mn, hmn⟩ : ∃ x, min E r = x := ⟨_, rfl⟩;have hmnb : 1 ≤ mn ∧ f + mn ≤ N := by omega
    have rmn : min (E : Int) (r : Int) = (mn : Int) := by omega
    have hno := nodes_any u B g N ys (HR.out.on HB.out);have hp := shPut_yes f mn u B g N ys (HR.out.on HB.out) hmnb.1 hmnb.2;have hPe : bs (shF f mn (rowsF ys f)) = partF ys N E k := by unfold partF; rw [hf, hr, hmn]
    rw [hPe] at hp;have HPe : Hid (partsF ys N E (k + 1) = partsF ys N E k ++ [partF ys N E k]) := Lib.hid (partsF_succ ys N E k);have HPl : Hid ((partsF ys N E k).length = k) := Lib.hid (partsF_len ys N E k);generalize partF ys N E k = S at hp HPe;clear hPe hf hr hmn
    revert fa
    refine Kn.Z.f fun K13 hK13=>?_;refine Kn.Z.s .o (.bin (.t rfl) (.t rfl)) fun Ko Kp=>?_;go_simp;(try go_bits);refine Kp _ _ ?_;clear Kp Ko;refine Kn.Z.e hK13 ?_;clear hK13 K13;refine Kn.Z.q fun K14 hK14=>?_;refine Kn.Z.y (.t rfl) ?_;refine Kn.Z.j hK14 ?_;clear hK14 K14;refine Kn.Z.t (.c 33 rfl (.c 32 rfl (.c 7 rfl (.c 0 rfl (.c 1 rfl .n))))) ?_;refine Kn.Z.q fun K15 hK15=>?_;refine Kn.Z.b ?_;refine Kn.Z.f fun K16 hK16=>?_;refine Kn.Z.u (.m (.t rfl) (.a (.t rfl) .n)) ?_;refine Kn.Z.e hK16 ?_;clear hK16 K16;refine Kn.Z.f fun K17 hK17=>?_;refine Kn.Z.u (.m (.t rfl) (.m (.t rfl) (.m (.t rfl) .n))) ?_;refine Kn.Z.s .o (.bin (.t rfl) (.t rfl)) fun Ko Kp=>?_;go_simp;(try go_bits);try rw [rf]
    try go_simp
    (try go_bits);refine Kp _ _ ?_;clear Kp Ko;refine Kn.Z.u (.m (.t rfl) (.m (.t rfl) .n)) ?_;refine Kn.Z.c .o (.call (.c (.t rfl) .n)) Tryz.call69 (hno) fun e wx hp=>?_;obtain ⟨rfl, rfl⟩ := hp;refine ⟨_,rfl,?_⟩;refine Kn.Z.u (.m (.t rfl) (.m (.t rfl) .n)) ?_;refine Kn.Z.s .o (.bin (.t rfl) (.t rfl)) fun Ko Kp=>?_;go_simp;(try go_bits);try rw [rf]
    try go_simp
    (try go_bits);refine Kp _ _ ?_;clear Kp Ko;refine Kn.Z.s .o (.bin (.t rfl) (.t rfl)) fun Ko Kp=>?_;go_simp;(try go_bits);try rw [rr]
    try go_simp
    (try go_bits);refine Kp _ _ ?_;clear Kp Ko;refine Kn.Z.s .o (.min (.c (.t rfl) (.c (.t rfl) .n))) fun Ko Kp=>?_;go_simp;(try go_bits);try rw [rmn]
    try go_simp
    refine Kp _ _ ?_;clear Kp Ko;refine Kn.Z.c .o (.call (.c (.t rfl) (.c (.t rfl) (.c (.t rfl) .n)))) Tryz.call70 (hp) fun e u1 hp=>?_;obtain ⟨rfl, hb1⟩ := hp;refine ⟨_,rfl,?_⟩;refine Kn.Z.u (.m (.t rfl) (.x (.t rfl) rfl (.x (.t rfl) rfl (.a (.t rfl) (.a (.t rfl) .n))))) ?_;refine Kn.Z.e hK17 ?_;clear hK17 K17;refine Kn.Z.t (.c 10 rfl (.c 9 rfl (.c 8 rfl (.c 33 rfl (.c 32 rfl (.c 7 rfl (.c 0 rfl (.c 1 rfl .n)))))))) ?_;clear hp hno rf rr rmn;obtain ⟨u2, hst, hF2, hot, hsz, hbl⟩ := (HF.out.on hb1).push1 (P := Tryz.prog) (e := 9) (by rw [HPl.out]; exact hlt) k HPl.out.symm S (.string S) rfl rfl (fun w p c => store_tx S w p c);have HF2 : Hid (Fill txR ⟨#[]⟩ u2 gs C (partsF ys N E (k + 1))) := Lib.hid (by rw [HPe.out]; exact hF2);have HB2 := Lib.hid ((HB.out.trans (hb1.mono HB.out.size)).trans (hbl _ hgw));clear hF2 hot hsz hbl hb1;refine Kn.Z.q fun K18 hK18=>?_;refine Kn.Z.f fun K19 hK19=>?_;refine Kn.Z.u (.m (.t rfl) .n) ?_;refine Kn.Z.s .o (.bin (.t rfl) .c) fun Ko Kp=>?_;go_simp;(try go_bits);refine Kp _ _ ?_;clear Kp Ko;refine Kn.Z.e hK19 ?_;clear hK19 K19;refine Kn.Z.no (.t rfl) ?_;refine Kn.Z.j hK18 ?_;clear hK18 K18;refine Kn.Z.r ?_;refine Kn.Z.u (.m (.t rfl) (.m (.t rfl) (.m (.t rfl) .n))) ?_;refine Kn.Z.s .o (.indexAddr (.t rfl) (.t rfl)) fun Ko Kp=>?_;go_simp;(try go_bits);refine Kp _ _ ?_;clear Kp Ko;refine Kn.Z.su .o (.store (.t rfl) (.t rfl)) fun Ko Kp=>?_;refine Kn.satU_run hst ?_;refine Kp _ ?_;clear Kp Ko;intro fb fg;refine wpList_nil ?_;refine Kn.block_normal ?_;refine hK15 _ _ ?_;clear hK15 K15;clear hst
    revert fb
    refine Kn.Z.r ?_;refine Kn.Z.s .o (.bin (.t rfl) .c) fun Ko Kp=>?_;go_simp;(try go_bits);refine Kp _ _ ?_;clear Kp Ko;refine Kn.Z.u (.m (.t rfl) .n) ?_;intro fb fg;refine wpList_nil ?_;replace fg := fg.cut (.c 33 rfl (.c 32 rfl (.c 7 rfl (.c 0 rfl (.c 1 rfl .n)))));exact hKl12 (m12 - 1) _ _ (by omega) ⟨k + 1, fg.cut (.u 33 rfl (by go_num) (.c 32 rfl (.c 7 rfl (.c 0 rfl (.c 1 rfl .n))))), by omega, HF2, HB2⟩
  obtain rfl : k = C := by omega
  revert fa
  refine Kn.Z.f fun K13 hK13=>?_;refine Kn.Z.s .o (.bin (.t rfl) (.t rfl)) fun Ko Kp=>?_;go_simp;(try go_bits);refine Kp _ _ ?_;clear Kp Ko;refine Kn.Z.e hK13 ?_;clear hK13 K13;refine Kn.Z.q fun K14 hK14=>?_;refine Kn.Z.no (.t rfl) ?_;refine Kn.Z.t (.c 33 rfl (.c 32 rfl (.c 7 rfl (.c 0 rfl (.c 1 rfl .n))))) ?_;intro fb fg;refine wp_exit ?_;refine Kn.then_exit ?_;clear hK14 K14;refine Kn.then_exit ?_;clear hKl12 Kl12;refine Kn.block_exit ?_;refine hK10 _ _ ?_;clear hK10 K10
  revert fb
  refine Kn.Z.f fun K15 hK15=>?_;refine Kn.Z.u (.m (.t rfl) (.a (.t rfl) (.a .c .n))) ?_;refine Kn.Z.e hK15 ?_;clear hK15 K15;intro fa fh;refine wp_ret ?_;exact Kn.ret2 fh rfl rfl rfl ⟨gs, rfl, HF.out.full (partsF_len ys N E k), hgw, HB.out⟩
end Go.Proofs.YtchdlgdmomcemaaGreatDoor.Shd
end
section
namespace Go.Proofs.YtchdlgdmomcemaaGreatDoor.Kn
open Go
section
variable {P : Program} {n : Nat} {ops : Array Oper} {Q : Exit → Act → World → Prop} {S : World → Prop} {G : World → World → Prop} {T : Nat → Value → World → Prop}
theorem askip {i : Nat} {o : Oper} {L : Nat → Prop} {a : Act} {w : World} {l' : List (Nat × Value)} (h : Kn n l' a) (hw : Wants ops l' o.guard false) (h1 : T i undef w) : Op1 P ops Q S G T F0 i o L a w := by
  unfold Op1;rw [h.wants hw, if_neg (by simp)];exact ⟨h1, fun _ _ _ _ _ => ⟨trivial, trivial⟩⟩
end
end Go.Proofs.YtchdlgdmomcemaaGreatDoor.Kn
end
section
namespace Go.Proofs.YtchdlgdmomcemaaGreatDoor.Csr
open Go Go.RowKit Go.Lib Edg Num
def bk (ys : List (Int × Int)) (N k : Nat) : List Int := bgs ys k ++ List.replicate (N - k) 0
theorem bk_0 (ys : List (Int × Int)) (N : Nat) : bk ys N 0 = List.replicate N 0 := by simp [bk, bgs]
theorem bk_end (ys : List (Int × Int)) (N : Nat) : bk ys N N = bgs ys N := by simp [bk]
theorem bk_len (ys : List (Int × Int)) (N k : Nat) (h : k ≤ N) : (bk ys N k).length = N := by simp [bk, bgs]; omega
theorem bk_set (ys : List (Int × Int)) (N k : Nat) (h : k < N) : (bk ys N k).set k (bgn ys (k : Int) : Int) = bk ys N (k + 1) := by
  unfold bk;rw [show N - k = (N - (k + 1)) + 1 by omega, List.replicate_succ];have hl : (bgs ys k).length = k := bgs_len ys k;rw [List.set_append_right k _ (by omega), hl, Nat.sub_self, List.set_cons_zero];simp [bgs, List.range_succ]
def tz (ys : List (Int × Int)) (a : Nat) : List Int := tgs (ys.take a) ++ List.replicate (ys.length - a) 0
theorem tz_0 (ys : List (Int × Int)) : tz ys 0 = List.replicate ys.length 0 := by simp [tz, tgs]
theorem tz_end (ys : List (Int × Int)) : tz ys ys.length = tgs ys := by simp [tz]
theorem tz_len (ys : List (Int × Int)) (a : Nat) (h : a ≤ ys.length) : (tz ys a).length = ys.length := by simp [tz, tgs]; omega
theorem tz_set (ys : List (Int × Int)) (a : Nat) (h : a < ys.length) : (tz ys a).set a (ed ys a).2 = tz ys (a + 1) := by
  unfold tz;rw [take_ed ys a h, show ys.length - a = (ys.length - (a + 1)) + 1 by omega, List.replicate_succ];have hl : (tgs (ys.take a)).length = a := by simp [tgs]; omega
  rw [List.set_append_right a _ (by omega), hl, Nat.sub_self, List.set_cons_zero];simp [tgs]
def RMem (u : World) (B g gb gt N L : Nat) (bs ts : List Int) : Prop := (B ≤ g ∧ B ≤ gb ∧ B ≤ gt) ∧ (gb < u.heap.size ∧ gt < u.heap.size) ∧ (gb ≠ gt ∧ g ≠ gb ∧ g ≠ gt) ∧ St.St u g 87 #[.slice (some ⟨gb, 0, none⟩) N N, .slice (some ⟨gt, 0, none⟩) L L] ∧ HoldI u gb bs ∧ HoldI u gt ts
section
variable {u u' : World} {B g gb gt N L : Nat} {bs ts : List Int}
theorem RMem.on (h : RMem u B g gb gt N L bs ts) (hb : Below u.heap.size u u') : RMem u' B g gb gt N L bs ts := by
  obtain ⟨h1, h2, h3, h4, h5, h6⟩ := h;have := hb.size;exact ⟨h1, ⟨by omega, by omega⟩, h3, h4.on hb, h5.on hb, h6.on hb⟩
theorem RMem.drew (h : RMem u B g gb gt N L bs ts) : RMem u.drew B g gb gt N L bs ts := h
theorem RMem.storeB (h : RMem u B g gb gt N L bs ts) (k : Nat) (hk : k < bs.length) (x : Int) : ∃ u', (Instr.storeAt 3 (.pointer (some ⟨gb, k, none⟩)) (.int .i64 x)).run Tryz.prog u = .ok () u' ∧ RMem u' B g gb gt N L (bs.set k x) ts ∧ Below B u u' := by
  obtain ⟨h1, h2, h3, h4, h5, h6⟩ := h;obtain ⟨u', e1, e2, e3, e4, e5⟩ := h5.store k hk x;exact ⟨u', e1, ⟨h1, ⟨by omega, by omega⟩, h3, (e3 g h3.2.1).trans h4, e2, h6.at (e3 gt h3.1.symm)⟩, e5 B h1.2.1⟩
theorem RMem.storeT (h : RMem u B g gb gt N L bs ts) (k : Nat) (hk : k < ts.length) (x : Int) : ∃ u', (Instr.storeAt 3 (.pointer (some ⟨gt, k, none⟩)) (.int .i64 x)).run Tryz.prog u = .ok () u' ∧ RMem u' B g gb gt N L bs (ts.set k x) ∧ Below B u u' := by
  obtain ⟨h1, h2, h3, h4, h5, h6⟩ := h;obtain ⟨u', e1, e2, e3, e4, e5⟩ := h6.store k hk x;exact ⟨u', e1, ⟨h1, ⟨by omega, by omega⟩, h3, (e3 g h3.2.2).trans h4, h5.at (e3 gb h3.1), e2⟩, e5 B h1.2.2⟩
end
def ZRow (B n : Nat) : Value → World → Prop := fun v u => ∃ g, v = .slice (some ⟨g, 0, none⟩) n n ∧ B ≤ g ∧ g < u.heap.size ∧ HoldI u g (List.replicate n 0)
theorem ZRow.keep {B n : Nat} : ∀ v w w', Below w.heap.size w w' → ZRow B n v w → ZRow B n v w' := fun _ _ _ hb ⟨g, e, h1, h2, h3⟩ => ⟨g, e, h1, Nat.lt_of_lt_of_le h2 hb.size, h3.on hb⟩
def ZAgg (B N L : Nat) : Value → World → Prop := fun v u => ∃ gb gt, v = .agg #[.slice (some ⟨gb, 0, none⟩) N N, .slice (some ⟨gt, 0, none⟩) L L] ∧ gb ≠ gt ∧ (B ≤ gb ∧ gb < u.heap.size) ∧ (B ≤ gt ∧ gt < u.heap.size) ∧ HoldI u gb (List.replicate N 0) ∧ HoldI u gt (List.replicate L 0)
theorem ZAgg.keep {B N L : Nat} : ∀ v w w', Below w.heap.size w w' → ZAgg B N L v w → ZAgg B N L v w' := fun _ _ _ hb ⟨gb, gt, e, h1, h2, h3, h4, h5⟩ => ⟨gb, gt, e, h1, ⟨h2.1, Nat.lt_of_lt_of_le h2.2 hb.size⟩, ⟨h3.1, Nat.lt_of_lt_of_le h3.2 hb.size⟩, h4.on hb, h5.on hb⟩
def ZPtr (B N L : Nat) : Value → World → Prop := fun v u => ∃ g gb gt, v = .pointer (some ⟨g, 0, none⟩) ∧ RMem u B g gb gt N L (List.replicate N 0) (List.replicate L 0)
theorem ZPtr.keep {B N L : Nat} : ∀ v w w', Below w.heap.size w w' → ZPtr B N L v w → ZPtr B N L v w' := fun _ _ _ hb ⟨g, gb, gt, e, h⟩ => ⟨g, gb, gt, e, h.on hb⟩
def Fz : Nat → Nat → Value → Value → Prop := fun i k v u => i = 1 → k = 4 → v.ownBlock ≠ u.ownBlock
theorem box_mem {u : World} {B gb gt N L : Nat} (hB : B ≤ u.heap.size) (hne : gb ≠ gt) (h2 : B ≤ gb ∧ gb < u.heap.size) (h3 : B ≤ gt ∧ gt < u.heap.size) (h4 : HoldI u gb (List.replicate N 0)) (h5 : HoldI u gt (List.replicate L 0)) :
    RMem (u.alloc (.cells #[.slice (some ⟨gb, 0, none⟩) N N, .slice (some ⟨gt, 0, none⟩) L L] 87)) B u.heap.size gb gt N L (List.replicate N 0) (List.replicate L 0) := by
  have hb : Below u.heap.size u (u.alloc (.cells #[.slice (some ⟨gb, 0, none⟩) N N, .slice (some ⟨gt, 0, none⟩) L L] 87)) := (Below.refl _ u).alloc (Nat.le_refl _) _;exact ⟨⟨hB, h2.1, h3.1⟩, ⟨Nat.lt_of_lt_of_le h2.2 hb.size, Nat.lt_of_lt_of_le h3.2 hb.size⟩, ⟨hne, by omega, by omega⟩, St.St.new _ _ _, h4.on hb, h5.on hb⟩
set_option maxRecDepth 100000 in
set_option maxHeartbeats 2000000 in
theorem rows_any (N : Nat) (A : Option Addr) (ca : Nat) (ys : List (Int × Int)) (w : World) (hs : Srt ys) (hg : Edg.Good (N : Int) ys) (hA : EIn w A ys) :
    Calls Tryz.prog 35 #[.int .i64 (N : Int), .slice A ys.length ca] w fun e w' => ∃ g, e = .returned (.pointer (some ⟨g, 0, none⟩)) ∧ Rep w' w.heap.size g N ys ∧ Below w.heap.size w w' := by
  have hN4 : N ≤ 4096 := by have := hg.hi; omega
  have hL2 := hg.len;have HA := Lib.hid hA;clear hA;refine Kn.Z.cl Tryz.func35 rfl Tryz.ntmps35 rfl (.c 0 rfl (.c 1 rfl .n)) ?_;refine Kn.Z.f fun K1 hK1=>?_;refine Kn.Z.u (.a .c .n) ?_;refine Kn.Z.e hK1 ?_;clear hK1 K1;refine Kn.Z.q fun K2 hK2=>?_;intro fb fg;refine Kn.anyF (fun u => Below w.heap.size w u) (fun u u' => Below u.heap.size u u') (Kn.TL [Kn.Is (.int .i64 (N : Int)), (ZRow w.heap.size N), Kn.Is (.slice A ys.length ca), Kn.Is (.int .i64 (ys.length : Int)), (ZRow w.heap.size ys.length), (ZAgg w.heap.size N ys.length), (ZPtr w.heap.size N ys.length), (ZPtr w.heap.size N ys.length)]) Fz (by kernel_rfl) fg (by kernel_rfl) (by kernel_rfl) rfl (Kn.Keeps.all (.cons Kn.Is.keep (.cons ZRow.keep (.cons Kn.Is.keep (.cons Kn.Is.keep (.cons ZRow.keep (.cons ZAgg.keep (.cons ZPtr.keep (.cons ZPtr.keep .nil))))))))) (Below.refl _ w).drew ⟨?_, ?_, ?_, ?_, ?_, ?_, ?_, ?_, trivial⟩ ?_
  · refine Kn.okF fun fa u L fh hS hO hT2 hA => ?_;exact Kn.aopF fh .none (Kn.ex_move fh (.t rfl)) fun Ko hKo => hKo _ _ rfl hS (Below.refl _ _) (fun _ _ _ _ _ => ⟨fun h _ => absurd h (by decide), fun _ h => absurd h (by decide)⟩)
  · refine Kn.okF fun fa u L fh hS hO hT2 hA => ?_;replace fh:=fh.more (hO 0 8 (hA 0 rfl) rfl);obtain ⟨u7, hrun, hH, hbel, hlt⟩ := makeI u N (by omega);exact Kn.aopF fh .none (Kn.ex_makeSlice fh (.t rfl) (.t rfl)) fun Ko hKo => by rw [hrun]; exact hKo _ _ ⟨u.heap.size, rfl, hS.size, hlt, hH⟩ (hS.trans (hbel.mono hS.size)) hbel (fun k d hk hl hd => ⟨fun _ h4 => by subst h4; obtain ⟨g4, e4, -, hlt4, -⟩ := (show ZRow w.heap.size ys.length _ u from hO 4 d hl hd); rw [e4]; simp [Value.ownBlock]; omega, fun _ h => absurd h (by decide)⟩)
  · refine Kn.okF fun fa u L fh hS hO hT2 hA => ?_;exact Kn.aopF fh .none (Kn.ex_move fh (.t rfl)) fun Ko hKo => hKo _ _ rfl hS (Below.refl _ _) (fun _ _ _ _ _ => ⟨fun h _ => absurd h (by decide), fun _ h => absurd h (by decide)⟩)
  · refine Kn.okF fun fa u L fh hS hO hT2 hA => ?_;replace fh:=fh.more (hO 2 10 (hA 2 rfl) rfl);refine Kn.aopF fh .none (Kn.ex_len fh (.t rfl)) fun Ko hKo => ?_;go_simp;(try go_bits);exact hKo _ _ rfl hS (Below.refl _ _) (fun _ _ _ _ _ => ⟨fun h _ => absurd h (by decide), fun _ h => absurd h (by decide)⟩)
  · refine Kn.okF fun fa u L fh hS hO hT2 hA => ?_;replace fh:=fh.more (hO 3 11 (hA 3 rfl) rfl);obtain ⟨u7, hrun, hH, hbel, hlt⟩ := makeI u ys.length (by omega);exact Kn.aopF fh .none (Kn.ex_makeSlice fh (.t rfl) (.t rfl)) fun Ko hKo => by rw [hrun]; exact hKo _ _ ⟨u.heap.size, rfl, hS.size, hlt, hH⟩ (hS.trans (hbel.mono hS.size)) hbel (fun k d hk hl hd => ⟨fun h _ => absurd h (by decide), fun h1 _ => by subst h1; obtain ⟨g4, e4, -, hlt4, -⟩ := (show ZRow w.heap.size N _ u from hO 1 d hl hd); rw [e4]; simp [Value.ownBlock]; omega⟩)
  · refine Kn.okF fun fa u L fh hS hO hT2 hA => ?_;obtain ⟨g9, e9, hB9, hL9, hH9⟩ : (ZRow w.heap.size N) (fa.eval (.tmp 9)) u := hO 1 9 (hA 1 rfl) rfl;replace fh := fh.more e9;obtain ⟨g12, e12, hB12, hL12, hH12⟩ : (ZRow w.heap.size ys.length) (fa.eval (.tmp 12)) u := hO 4 12 (hA 4 rfl) rfl;replace fh := fh.more e12;have hne := hT2 1 4 9 12 (by decide) (hA 1 rfl) (hA 4 rfl) rfl rfl rfl rfl;rw [e9, e12] at hne;refine Kn.aopF fh .none (Kn.ex_build fh (.cons (.t rfl) (.cons (.t rfl) .nil))) fun Ko hKo => ?_;go_simp;(try go_bits);exact hKo _ _ ⟨g9, g12, rfl, fun h => hne (by simp [Value.ownBlock, h]), ⟨hB9, hL9⟩, ⟨hB12, hL12⟩, hH9, hH12⟩ hS (Below.refl _ _) (fun _ _ _ _ _ => ⟨fun h _ => absurd h (by decide), fun _ h => absurd h (by decide)⟩)
  · refine Kn.okF fun fa u L fh hS hO hT2 hA => ?_;obtain ⟨gb13, gt13, e13, hn13, hB13, hL13, hH13, hJ13⟩ : (ZAgg w.heap.size N ys.length) (fa.eval (.tmp 13)) u := hO 5 13 (hA 5 rfl) rfl;replace fh := fh.more e13;refine Kn.aopF fh .none (Kn.ex_box fh (.t rfl)) fun Ko hKo => ?_;go_simp;(try go_bits);exact hKo _ _ ⟨u.heap.size, gb13, gt13, rfl, box_mem hS.size hn13 hB13 hL13 hH13 hJ13⟩ (hS.alloc hS.size _) ((Below.refl _ u).alloc (Nat.le_refl _) _) (fun _ _ _ _ _ => ⟨fun h _ => absurd h (by decide), fun _ h => absurd h (by decide)⟩)
  · refine Kn.okF fun fa u L fh hS hO hT2 hA => ?_;obtain ⟨g14, gb14, gt14, e14, hM14⟩ : (ZPtr w.heap.size N ys.length) (fa.eval (.tmp 14)) u := hO 6 14 (hA 6 rfl) rfl;replace fh := fh.more e14;exact Kn.aopF fh .none (Kn.ex_assign fh (.t rfl)) fun Ko hKo => hKo _ _ ⟨g14, gb14, gt14, rfl, hM14⟩ hS (Below.refl _ _) (fun _ _ _ _ _ => ⟨fun h _ => absurd h (by decide), fun _ h => absurd h (by decide)⟩)
  intro fa w1 fh hS hT hT2;clear fg fb;obtain ⟨g5, gb5, gt5, e5, hM5⟩ : (ZPtr w.heap.size N ys.length) (fa.eval (.tmp 5)) w1 := hT 7 5 rfl;replace fh := fh.more e5;clear hT;refine hK2 _ _ ?_;clear hK2 K2;clear hT2 e5;have HB1 := Lib.hid hS;have HM1 := Lib.hid hM5;clear hS hM5
  revert fa
  refine Kn.Z.f fun K3 hK3=>?_;refine Kn.Z.u (.a .c .n) ?_;refine Kn.Z.e hK3 ?_;clear hK3 K3;refine Kn.Z.q fun K4 hK4=>?_;refine Kn.Z.f fun K5 hK5=>?_;refine Kn.Z.u (.m (.t rfl) (.m .c .n)) ?_;refine Kn.Z.e hK5 ?_;clear hK5 K5;refine Kn.Z.t (.c 16 rfl (.c 15 rfl (.c 6 rfl (.c 5 rfl (.c 4 rfl (.c 1 rfl .n)))))) ?_;refine Kn.Z.b ?_;intro fb fg;refine Kn.loop (fun m fr u => ∃ (k : Nat), Kn.Kn 54 [(16, .int .i64 (k : Int)), (15, .int .i64 (N : Int)), (5, .pointer (some ⟨g5, 0, none⟩)), (6, .int .i64 (bgn ys (k : Int) : Int)), (1, .slice A ys.length ca)] fr ∧ k + m = N ∧ Hid (Below w.heap.size w u) ∧ Hid (RMem u w.heap.size g5 gb5 gt5 N ys.length (bk ys N k) (tz ys (bgn ys (k : Int))))) N ⟨0, fg.cut (.u 16 rfl rfl (.c 15 rfl (.c 5 rfl (.u 6 rfl (by rw [show bgn ys ((0 : Nat) : Int) = 0 from bgn_0 hg]; rfl) (.c 1 rfl .n))))), by omega, HB1, Lib.hid (by rw [bk_0, show bgn ys ((0 : Nat) : Int) = 0 from bgn_0 hg, tz_0]; exact HM1.out)⟩ ?_;clear fg fb;intro m6 fa u hI Kl6 hKl6;obtain ⟨k, fh, hk, HB, HM⟩ := hI
  by_cases hlt : k < N
  · have hb1 := bgn_mono ys (k : Int);have hb2 := bgn_le ys ((k : Int) + 1);obtain ⟨k1, hk1⟩ : ∃ k1, k + 1 = k1 := ⟨_, rfl⟩;have r1 : (k : Int) + 1 = (k1 : Int) := by omega
    rw [r1] at hb1 hb2;obtain ⟨u2, hst, hM2, hB2⟩ := HM.out.storeB k (by rw [bk_len ys N k (by omega)]; exact hlt) (bgn ys (k : Int) : Int);rw [bk_set ys N k hlt, hk1] at hM2;have HM2 := Lib.hid hM2;have HB2 := Lib.hid (HB.out.trans hB2);have c0 := HM.out.2.2.2.1.cell 0 rfl;obtain ⟨b0, hb0⟩ : ∃ b, bgn ys (k : Int) = b := ⟨_, rfl⟩;obtain ⟨b1, hbb1⟩ : ∃ b, bgn ys (k1 : Int) = b := ⟨_, rfl⟩;rw [hb0] at hb1 hst HM2 fh;rw [hbb1] at hb1 hb2;have HB0 := Lib.hid hb0;have HBB := Lib.hid hbb1;clear hb0 hbb1 hM2 hB2
    revert fa
    refine Kn.Z.f fun K7 hK7=>?_;refine Kn.Z.s .o (.bin (.t rfl) (.t rfl)) fun Ko Kp=>?_;go_simp;(try go_bits);refine Kp _ _ ?_;clear Kp Ko;refine Kn.Z.e hK7 ?_;clear hK7 K7;refine Kn.Z.q fun K8 hK8=>?_;refine Kn.Z.y (.t rfl) ?_;refine Kn.Z.j hK8 ?_;clear hK8 K8;refine Kn.Z.t (.c 16 rfl (.c 15 rfl (.c 5 rfl (.c 6 rfl (.c 1 rfl .n))))) ?_;refine Kn.Z.q fun K9 hK9=>?_;refine Kn.Z.b ?_;refine Kn.Z.f fun K10 hK10=>?_;refine Kn.Z.u (.m (.t rfl) (.a (.t rfl) .n)) ?_;refine Kn.Z.e hK10 ?_;clear hK10 K10;refine Kn.Z.f fun K11 hK11=>?_;refine Kn.Z.u (.m (.t rfl) (.e .o (fun _ h=>Kn.ex_nilCheck h (.t rfl)) .n)) ?_;refine Kn.Z.s .o (.fieldAddr (.t rfl)) fun Ko Kp=>?_;go_simp;(try go_bits);refine Kp _ _ ?_;clear Kp Ko;refine Kn.Z.s .o (.load (.t rfl)) fun Ko Kp=>?_;go_simp;(try go_bits);refine Kp _ _ ?_;clear Kp Ko;refine Kn.Z.u (.m (.t rfl) (.m (.t rfl) .n)) ?_;refine Kn.Z.s .o (.indexAddr (.t rfl) (.t rfl)) fun Ko Kp=>?_;go_simp;(try go_bits);refine Kp _ _ ?_;clear Kp Ko;refine Kn.Z.su .o (.store (.t rfl) (.t rfl)) fun Ko Kp=>?_;rw [hst];refine Kp _ ?_;clear Kp Ko;refine Kn.Z.e hK11 ?_;clear hK11 K11;clear hst c0;refine Kn.Z.b ?_;intro fa fh;refine Kn.loop (fun m fr v => ∃ (a : Nat), Kn.Kn 54 [(6, .int .i64 (a : Int)), (7, .int .i64 (k : Int)), (16, .int .i64 (k : Int)), (15, .int .i64 (N : Int)), (5, .pointer (some ⟨g5, 0, none⟩)), (1, .slice A ys.length ca)] fr ∧ a + m = ys.length ∧ (b0 ≤ a ∧ a ≤ b1) ∧ Hid (Below w.heap.size w v) ∧ Hid (RMem v w.heap.size g5 gb5 gt5 N ys.length (bk ys N k1) (tz ys a))) (ys.length - b0) ⟨b0, fh.cut (.c 6 rfl (.c 7 rfl (.c 16 rfl (.c 15 rfl (.c 5 rfl (.c 1 rfl .n)))))), by omega, ⟨by omega, hb1⟩, HB2, HM2⟩ ?_;clear fh fa;intro m12 fb v hI Kl12 hKl12;obtain ⟨a, fg, ha, hab, HBv, HMv⟩ := hI
    by_cases hal : a < ys.length
    · obtain ⟨ba, oa, rfl, -, ca1, ca2⟩ := (HA.out.on HBv.out) a hal;have hlo := bgn_at hs (k : Int) a hal;have hhi := bgn_at hs (k1 : Int) a hal;rw [HB0.out] at hlo;rw [HBB.out] at hhi;have hset := tz_set ys a hal;obtain ⟨x1, hx1⟩ : ∃ x, (ed ys a).1 = x := ⟨_, rfl⟩;obtain ⟨x2, hx2⟩ : ∃ x, (ed ys a).2 = x := ⟨_, rfl⟩;rw [hx1] at ca1 hlo hhi;rw [hx2] at ca2 hset;clear hx1 hx2
      by_cases e1 : x1 = (k : Int)
      · have q1 : (x1 == (k : Int)) = true := by simp [e1]
        have ha1 : a + 1 ≤ b1 := by omega
        obtain ⟨v2, hst, hM3, hB3⟩ := HMv.out.drew.storeT a (by rw [tz_len ys a (by omega)]; exact hal) x2;rw [hset] at hM3;have HM3 := Lib.hid hM3;have HB3 : Hid (Below w.heap.size w v2) := Lib.hid (HBv.out.drew.trans hB3);have c1 := HMv.out.2.2.2.1.cell 1 rfl;clear e1 hM3 hB3 hset
        revert fb
        refine Kn.Z.q fun K13 hK13=>?_;refine Kn.Z.f fun K14 hK14=>?_;refine Kn.Z.u (.m (.t rfl) (.m (.t rfl) .n)) ?_;refine Kn.Z.s .o (.len (.t rfl)) fun Ko Kp=>?_;go_simp;(try go_bits);refine Kp _ _ ?_;clear Kp Ko;refine Kn.Z.s .o (.bin (.t rfl) (.t rfl)) fun Ko Kp=>?_;go_simp;(try go_bits);refine Kp _ _ ?_;clear Kp Ko;refine Kn.Z.u (.m (.t rfl) (.e (.s rfl rfl rfl) (.move (.t rfl)) (.e (.s rfl rfl rfl) (.move (.t rfl)) .n))) ?_;refine Kn.Z.s (.s rfl rfl rfl) (.indexAddr (.t rfl) (.t rfl)) fun Ko Kp=>?_;go_simp;(try go_bits);refine Kp _ _ ?_;clear Kp Ko;refine Kn.Z.s (.s rfl rfl rfl) (.fieldAddr (.t rfl)) fun Ko Kp=>?_;go_simp;(try go_bits);refine Kp _ _ ?_;clear Kp Ko;refine Kn.Z.s (.s rfl rfl rfl) (.load (.t rfl)) fun Ko Kp=>?_;go_simp;(try go_bits);refine Kp _ _ ?_;clear Kp Ko;refine Kn.Z.u (.e (.s rfl rfl rfl) (.move (.t rfl)) .n) ?_;refine Kn.Z.s (.s rfl rfl rfl) (.bin (.t rfl) (.t rfl)) fun Ko Kp=>?_;go_simp;(try go_bits);refine Kp _ _ ?_;clear Kp Ko;refine Kn.Z.u (.e .o (.pick (.t rfl) (.t rfl)) .n) ?_;refine Kn.Z.e hK14 ?_;clear hK14 K14;refine Kn.Z.t (.c 38 rfl (.c 6 rfl (.c 7 rfl (.c 16 rfl (.c 15 rfl (.c 5 rfl (.c 1 rfl .n))))))) ?_;refine Kn.Z.y (.t rfl) ?_;refine Kn.Z.j hK13 ?_;clear hK13 K13;refine Kn.Z.b ?_;refine Kn.Z.q fun K15 hK15=>?_;intro fa fh;refine Kn.tail 11 (by kernel_rfl) (by kernel_rfl) rfl rfl ?_
        revert fa
        refine Kn.Z.us (.m (.t rfl) (.e .o (fun _ h=>Kn.ex_nilCheck h (.t rfl)) .n)) ?_;refine Kn.Z.ss .o (.fieldAddr (.t rfl)) fun Ko Kp=>?_;go_simp;(try go_bits);refine Kp _ ?_;clear Kp Ko;refine Kn.Z.ss .o (.load (.t rfl)) fun Ko Kp=>?_;go_simp;(try go_bits);refine Kp _ ?_;clear Kp Ko;refine Kn.Z.us (.m (.t rfl) (.m (.t rfl) (.m (.t rfl) .n))) ?_;refine Kn.Z.ss .o (.indexAddr (.t rfl) (.t rfl)) fun Ko Kp=>?_;go_simp;(try go_bits);refine Kp _ ?_;clear Kp Ko;refine Kn.Z.ss .o (.fieldAddr (.t rfl)) fun Ko Kp=>?_;go_simp;(try go_bits);refine Kp _ ?_;clear Kp Ko;refine Kn.Z.ss .o (.load (.t rfl)) fun Ko Kp=>?_;go_simp;(try go_bits);refine Kp _ ?_;clear Kp Ko;refine Kn.Z.ss .o (.indexAddr (.t rfl) (.t rfl)) fun Ko Kp=>?_;go_simp;(try go_bits);refine Kp _ ?_;clear Kp Ko;intro fb fg;refine wpStill_nil ?_
        revert fb
        refine Kn.Z.su .o (.store (.t rfl) (.t rfl)) fun Ko Kp=>?_;rw [hst];refine Kp _ ?_;clear Kp Ko;refine Kn.Z.e hK15 ?_;clear hK15 K15;refine Kn.Z.t (.c 6 rfl (.c 7 rfl (.c 16 rfl (.c 15 rfl (.c 5 rfl (.c 1 rfl .n)))))) ?_;clear hst c1;refine Kn.Z.r ?_;refine Kn.Z.u (.m (.t rfl) .n) ?_;refine Kn.Z.s .o (.bin (.t rfl) .c) fun Ko Kp=>?_;go_simp;(try go_bits);refine Kp _ _ ?_;clear Kp Ko;refine Kn.Z.u (.a (.t rfl) .n) ?_;intro fa fh;refine wpList_nil ?_;refine Kn.block_normal ?_;replace fh := fh.cut (.c 6 rfl (.c 7 rfl (.c 16 rfl (.c 15 rfl (.c 5 rfl (.c 1 rfl .n))))));exact hKl12 (m12 - 1) _ _ (by omega) ⟨a + 1, fh.cut (.u 6 rfl (by go_num) (.c 7 rfl (.c 16 rfl (.c 15 rfl (.c 5 rfl (.c 1 rfl .n)))))), by omega, ⟨by omega, ha1⟩, HB3, HM3⟩
      · have q1 : (x1 == (k : Int)) = false := by simp [e1]
        obtain rfl : a = b1 := by omega
        clear e1 hset
        revert fb
        refine Kn.Z.q fun K13 hK13=>?_;refine Kn.Z.f fun K14 hK14=>?_;refine Kn.Z.u (.m (.t rfl) (.m (.t rfl) .n)) ?_;refine Kn.Z.s .o (.len (.t rfl)) fun Ko Kp=>?_;go_simp;(try go_bits);refine Kp _ _ ?_;clear Kp Ko;refine Kn.Z.s .o (.bin (.t rfl) (.t rfl)) fun Ko Kp=>?_;go_simp;(try go_bits);refine Kp _ _ ?_;clear Kp Ko;refine Kn.Z.u (.m (.t rfl) (.e (.s rfl rfl rfl) (.move (.t rfl)) (.e (.s rfl rfl rfl) (.move (.t rfl)) .n))) ?_;refine Kn.Z.s (.s rfl rfl rfl) (.indexAddr (.t rfl) (.t rfl)) fun Ko Kp=>?_;go_simp;(try go_bits);refine Kp _ _ ?_;clear Kp Ko;refine Kn.Z.s (.s rfl rfl rfl) (.fieldAddr (.t rfl)) fun Ko Kp=>?_;go_simp;(try go_bits);refine Kp _ _ ?_;clear Kp Ko;refine Kn.Z.s (.s rfl rfl rfl) (.load (.t rfl)) fun Ko Kp=>?_;go_simp;(try go_bits);refine Kp _ _ ?_;clear Kp Ko;refine Kn.Z.u (.e (.s rfl rfl rfl) (.move (.t rfl)) .n) ?_;refine Kn.Z.s (.s rfl rfl rfl) (.bin (.t rfl) (.t rfl)) fun Ko Kp=>?_;go_simp;(try go_bits);refine Kp _ _ ?_;clear Kp Ko;refine Kn.Z.u (.e .o (.pick (.t rfl) (.t rfl)) .n) ?_;refine Kn.Z.e hK14 ?_;clear hK14 K14;refine Kn.Z.t (.c 38 rfl (.c 6 rfl (.c 7 rfl (.c 16 rfl (.c 15 rfl (.c 5 rfl (.c 1 rfl .n))))))) ?_;refine Kn.Z.no (.t rfl) ?_;intro fa fh;refine wp_exit ?_;refine Kn.then_exit ?_;clear hK13 K13;refine Kn.then_exit ?_;clear hKl12 Kl12;refine Kn.block_exit ?_;refine Kn.block_normal ?_;refine hK9 _ _ ?_;clear hK9 K9;clear ca1 ca2 q1
        revert fa
        refine Kn.Z.r ?_;refine Kn.Z.s .o (.bin (.t rfl) .c) fun Ko Kp=>?_;go_simp;(try go_bits);refine Kp _ _ ?_;clear Kp Ko;refine Kn.Z.u (.m (.t rfl) .n) ?_;intro fa fh;refine wpList_nil ?_;replace fh := fh.cut (.c 16 rfl (.c 6 rfl (.c 15 rfl (.c 5 rfl (.c 1 rfl .n)))));exact hKl6 (m6 - 1) _ _ (by omega) ⟨k1, fh.cut (.u 16 rfl (by rw [← r1]) (.c 15 rfl (.c 5 rfl (.u 6 rfl (by rw [HBB.out]) (.c 1 rfl .n))))), by omega, HBv, Lib.hid (by rw [HBB.out]; exact HMv.out)⟩
    · obtain rfl : a = b1 := by omega
      revert fb
      refine Kn.Z.q fun K13 hK13=>?_;refine Kn.Z.f fun K14 hK14=>?_;refine Kn.Z.u (.m (.t rfl) (.m (.t rfl) .n)) ?_;refine Kn.Z.s .o (.len (.t rfl)) fun Ko Kp=>?_;go_simp;(try go_bits);refine Kp _ _ ?_;clear Kp Ko;refine Kn.Z.s .o (.bin (.t rfl) (.t rfl)) fun Ko Kp=>?_;go_simp;(try go_bits);refine Kp _ _ ?_;clear Kp Ko;refine Kn.Z.u (.m (.t rfl) (.k (.s rfl rfl rfl) (.k (.s rfl rfl rfl) (.k (.s rfl rfl rfl) (.k (.s rfl rfl rfl) (.k (.s rfl rfl rfl) (.k (.s rfl rfl rfl) (.k (.s rfl rfl rfl) (.e .o (.pick (.t rfl) .c) .n))))))))) ?_;refine Kn.Z.e hK14 ?_;clear hK14 K14;refine Kn.Z.t (.c 38 rfl (.c 6 rfl (.c 7 rfl (.c 16 rfl (.c 15 rfl (.c 5 rfl (.c 1 rfl .n))))))) ?_;refine Kn.Z.no (.t rfl) ?_;intro fa fh;refine wp_exit ?_;refine Kn.then_exit ?_;clear hK13 K13;refine Kn.then_exit ?_;clear hKl12 Kl12;refine Kn.block_exit ?_;refine Kn.block_normal ?_;refine hK9 _ _ ?_;clear hK9 K9
      revert fa
      refine Kn.Z.r ?_;refine Kn.Z.s .o (.bin (.t rfl) .c) fun Ko Kp=>?_;go_simp;(try go_bits);refine Kp _ _ ?_;clear Kp Ko;refine Kn.Z.u (.m (.t rfl) .n) ?_;intro fa fh;refine wpList_nil ?_;replace fh := fh.cut (.c 16 rfl (.c 6 rfl (.c 15 rfl (.c 5 rfl (.c 1 rfl .n)))));exact hKl6 (m6 - 1) _ _ (by omega) ⟨k1, fh.cut (.u 16 rfl (by rw [← r1]) (.c 15 rfl (.c 5 rfl (.u 6 rfl (by rw [HBB.out]) (.c 1 rfl .n))))), by omega, HBv, Lib.hid (by rw [HBB.out]; exact HMv.out)⟩
  · obtain rfl : k = N := by omega
    revert fa
    refine Kn.Z.f fun K7 hK7=>?_;refine Kn.Z.s .o (.bin (.t rfl) (.t rfl)) fun Ko Kp=>?_;go_simp;(try go_bits);refine Kp _ _ ?_;clear Kp Ko;refine Kn.Z.e hK7 ?_;clear hK7 K7;refine Kn.Z.q fun K8 hK8=>?_;refine Kn.Z.no (.t rfl) ?_;refine Kn.Z.t (.c 16 rfl (.c 15 rfl (.c 5 rfl (.c 6 rfl (.c 1 rfl .n))))) ?_;intro fb fg;refine wp_exit ?_;refine Kn.then_exit ?_;clear hK8 K8;refine Kn.then_exit ?_;clear hKl6 Kl6;refine Kn.block_exit ?_;refine hK4 _ _ ?_;clear hK4 K4
    revert fb
    refine Kn.Z.f fun K9 hK9=>?_;refine Kn.Z.u (.m (.t rfl) (.a (.t rfl) .n)) ?_;refine Kn.Z.e hK9 ?_;clear hK9 K9;intro fb fg;refine wp_ret ?_
    exact Kn.ret1 fg rfl rfl ⟨g5, rfl, ⟨hs, hg, by
      have hM := HM.out;rw [bk_end, bgn_N hg, tz_end] at hM
      exact ⟨gb5, gt5, hM.1, hM.2.1, hM.2.2.2.1, hM.2.2.2.2.1, hM.2.2.2.2.2⟩⟩, HB.out⟩
set_option maxRecDepth 100000 in
set_option maxHeartbeats 2000000 in
theorem build_yes (N : Nat) (A : Option Addr) (ca : Nat) (xs : List (Int × Int)) (w : World) (hA : EIn w A xs) (hg : Edg.Good (N : Int) xs) :
    Calls Tryz.prog 17 #[.int .i64 (N : Int), .slice A xs.length ca] w fun e w' => ∃ g ys, e = .returned (.tuple #[.pointer (some ⟨g, 0, none⟩), .nilIface]) ∧ NormOf xs ys ∧ Rep w' w.heap.size g N ys ∧ Below w.heap.size w w' := by
  refine Kn.Z.cl Tryz.func17 rfl Tryz.ntmps17 rfl (.c 0 rfl (.c 1 rfl .n)) ?_;refine Kn.Z.f fun K1 hK1=>?_;refine Kn.Z.u (.a .c (.a .c .n)) ?_;refine Kn.Z.e hK1 ?_;clear hK1 K1;refine Kn.Z.f fun K2 hK2=>?_;refine Kn.Z.u (.m (.t rfl) (.m (.t rfl) .n)) ?_;refine Kn.Z.c .o (.call (.c (.t rfl) (.c (.t rfl) .n))) Tryz.call34 (norm_yes (N : Int) A ca xs w hA hg) fun e w1 hp=>?_;obtain ⟨A', n', c', ys, rfl, rfl, hNo, hE, hb1⟩ := hp;refine ⟨_,rfl,?_⟩;refine Kn.Z.u (.m (.t rfl) (.x (.t rfl) rfl (.x (.t rfl) rfl (.a (.t rfl) (.a (.t rfl) .n))))) ?_;refine Kn.Z.e hK2 ?_;clear hK2 K2;have hr := rows_any N A' c' ys w1 hNo.srt (hNo.good hg) hE;refine Kn.Z.q fun K3 hK3=>?_;refine Kn.Z.f fun K4 hK4=>?_;refine Kn.Z.u (.m (.t rfl) .n) ?_;refine Kn.Z.s .o (.bin (.t rfl) .c) fun Ko Kp=>?_;go_simp;(try go_bits);refine Kp _ _ ?_;clear Kp Ko;refine Kn.Z.e hK4 ?_;clear hK4 K4;refine Kn.Z.no (.t rfl) ?_;refine Kn.Z.j hK3 ?_;clear hK3 K3;refine Kn.Z.t (.c 6 rfl (.c 5 rfl (.c 4 rfl (.c 0 rfl .n)))) ?_;refine Kn.Z.f fun K5 hK5=>?_;refine Kn.Z.u (.m (.t rfl) (.m (.t rfl) .n)) ?_;refine Kn.Z.c .o (.call (.c (.t rfl) (.c (.t rfl) .n))) Tryz.call35 (hr) fun e w2 hp=>?_;obtain ⟨g, rfl, hR, hb2⟩ := hp;refine ⟨_,rfl,?_⟩;refine Kn.Z.u (.a (.t rfl) (.a .c .n)) ?_;refine Kn.Z.e hK5 ?_;clear hK5 K5;intro fb fg;refine wp_ret ?_;exact Kn.ret2 fg rfl rfl rfl ⟨g, ys, rfl, hNo, ⟨hR.srt, hR.good, by obtain ⟨gb, gt, h1, h2⟩ := hR.mem; have := hb1.size; exact ⟨gb, gt, ⟨by omega, by omega, by omega⟩, h2⟩⟩, hb1.trans (hb2.mono hb1.size)⟩
set_option maxRecDepth 100000 in
set_option maxHeartbeats 2000000 in
theorem build_no (n : Int) (A : Option Addr) (ca : Nat) (xs : List (Int × Int)) (w : World) (hA : EIn w A xs) (hg : ¬ Edg.Good n xs) :
    Calls Tryz.prog 17 #[.int .i64 n, .slice A xs.length ca] w fun e w' => e = .returned (.tuple #[.pointer none, faultV (wrongP n xs) 10]) ∧ Below w.heap.size w w' := by
  refine Kn.Z.cl Tryz.func17 rfl Tryz.ntmps17 rfl (.c 0 rfl (.c 1 rfl .n)) ?_;refine Kn.Z.f fun K1 hK1=>?_;refine Kn.Z.u (.a .c (.a .c .n)) ?_;refine Kn.Z.e hK1 ?_;clear hK1 K1;have hn := norm_no n A ca xs w hA hg;unfold faultV at hn;refine Kn.Z.f fun K2 hK2=>?_;refine Kn.Z.u (.m (.t rfl) (.m (.t rfl) .n)) ?_;refine Kn.Z.c .o (.call (.c (.t rfl) (.c (.t rfl) .n))) Tryz.call34 (hn) fun e w1 hp=>?_;obtain ⟨rfl, hb1⟩ := hp;refine ⟨_,rfl,?_⟩;refine Kn.Z.u (.m (.t rfl) (.x (.t rfl) rfl (.x (.t rfl) rfl (.a (.t rfl) (.a (.t rfl) .n))))) ?_;refine Kn.Z.e hK2 ?_;clear hK2 K2;refine Kn.Z.q fun K3 hK3=>?_;refine Kn.Z.f fun K4 hK4=>?_;refine Kn.Z.u (.m (.t rfl) .n) ?_;refine Kn.Z.s .o (.bin (.t rfl) .c) fun Ko Kp=>?_;go_simp;(try go_bits);refine Kp _ _ ?_;clear Kp Ko;refine Kn.Z.e hK4 ?_;clear hK4 K4;refine Kn.Z.y (.t rfl) ?_;refine Kn.Z.f fun K5 hK5=>?_;refine Kn.Z.u (.m (.t rfl) (.a .c (.a (.t rfl) .n))) ?_;refine Kn.Z.e hK5 ?_;clear hK5 K5;refine Kn.Z.t (.c 5 rfl (.c 4 rfl (.c 6 rfl (.c 0 rfl .n)))) ?_;intro fb fg;refine wp_ret ?_;refine Kn.then_ret ?_;exact Kn.ret2 fg rfl rfl rfl ⟨rfl, hb1⟩
end Go.Proofs.YtchdlgdmomcemaaGreatDoor.Csr
end
section
namespace Go.Proofs.YtchdlgdmomcemaaGreatDoor.Shd
open Go Go.RowKit Go.Lib Oct Num Gap RowG Edg Csr
structure AInv (w0 w : World) (XC : Array Value) (o : Option Nat) (u : World) (A : Option Addr) (n cap : Nat) (es : List (Int × Int)) : Prop where
  own : OwnE u w0.heap.size A n cap es
  away : ∀ b, (Value.slice A n cap).ownBlock = some b → o = some b ∨ w.heap.size < b
  but : But (fun b => o = some b) w u
  st : St.St u w.heap.size 125 XC
  below : Below w0.heap.size w0 u
theorem AInv.start {w0 w : World} {XC : Array Value} {A : Option Addr} {n cap : Nat} {es : List (Int × Int)} (hO : OwnE w w0.heap.size A n cap es) (hb : Below w0.heap.size w0 w) : AInv w0 w XC (Value.slice A n cap).ownBlock (w.alloc (.cells XC 125)) A n cap es :=
  ⟨hO.alloc _, fun _ h => .inl h, But.of_below ((Below.refl _ w).alloc (Nat.le_refl _) _), St.St.new _ _ _, hb.alloc hb.size _⟩
theorem AInv.push {w0 w u : World} {XC : Array Value} {o : Option Nat} {A : Option Addr} {n cap : Nat} {es : List (Int × Int)} (h : AInv w0 w XC o u A n cap es) (ho : ∀ b, o = some b → b < w.heap.size) (ty : TypeId) (e : Int × Int) (hn : n ≤ 100000) :
    ∃ g' cap' v', (Builtin.append_ #[23, 23] ty #[.slice A n cap, .slice (some ⟨u.heap.size, 0, none⟩) 1 1]).run Tryz.prog (u.alloc (.cells #[.int .i64 e.1, .int .i64 e.2] 64)) = .ok (.slice (some ⟨g', 0, none⟩) (n + 1) cap') v' ∧
      AInv w0 w XC o v' (some ⟨g', 0, none⟩) (n + 1) cap' (es ++ [e]) := by
  obtain ⟨g', cap', v', h1, h2, h3, h4⟩ := Edg.push1 w0 u ty A n cap es e h.own h.below hn;have hal : Below u.heap.size u (u.alloc (.cells #[.int .i64 e.1, .int .i64 e.2] 64)) := (Below.refl _ u).alloc (Nat.le_refl _) _;have hsz : (u.alloc (.cells #[.int .i64 e.1, .int .i64 e.2] 64)).heap.size = u.heap.size + 1 := by simp
  have hbl : ∀ b, b < u.heap.size → (Value.slice A n cap).ownBlock ≠ some b → v'.heap[b]? = u.heap[b]? := fun b hb hne => (h4.grown.block b (by rw [hsz]; omega) (fun e => hne e.symm)).trans (hal.block b hb);have hwu := h.but.size;have hst := h.st.lt;refine ⟨g', cap', v', h1, h2, fun b hb => ?_, ⟨Nat.le_trans hwu (Nat.le_trans hal.size h4.size), fun b hb hn => ?_⟩, ?_, h3⟩
  · have e1 : g' = b := by simpa [Value.ownBlock] using hb
    subst e1;rcases h4.at' with q | q
    · exact h.away _ q
    · rw [hsz] at q; right; omega
  · refine (hbl b (by omega) (fun q => ?_)).trans (h.but.block b hb hn);rcases h.away b q with r | r
    · exact hn r
    · omega
  · refine (hbl _ hst (fun q => ?_)).trans h.st;rcases h.away _ q with r | r
    · have := ho _ r; omega
    · omega
theorem tx_cell {w : World} {A : Option Addr} {ts : List ByteArray} (h : RIn txR w A ts) {k : Nat} {s : ByteArray} (hk : ts[k]? = some s) : ∃ b o, A = some ⟨b, o, none⟩ ∧ b < w.heap.size ∧ w.cell? ⟨b, o + k, none⟩ = some (.string s) := by
  obtain ⟨b, o, h1, h2, h3⟩ := h k s hk;have h4 := h3 0 (.string s) rfl;have e : o + (k * txR.size + 0) = o + k := by show o + (k * 1 + 0) = _; omega
  rw [e] at h4;exact ⟨b, o, h1, h2, h4⟩
theorem Rep.mono {w : World} {B B' g N : Nat} {ys : List (Int × Int)} (h : Rep w B g N ys) (hB : B' ≤ B) : Rep w B' g N ys := ⟨h.srt, h.good, by
  obtain ⟨gb, gt, h1, h2⟩ := h.mem
  exact ⟨gb, gt, by omega, h2⟩⟩
theorem own_lt {w : World} {B n cap : Nat} {A : Option Addr} {l : List (Int × Int)} (h : OwnE w B A n cap l) : ∀ b, (Value.slice A n cap).ownBlock = some b → B ≤ b ∧ b < w.heap.size := fun b hb => h.2.lt b hb
set_option maxRecDepth 100000 in
set_option maxHeartbeats 8000000 in
theorem appendEdges_any (A : Option Addr) (n cap : Nat) (l : List (Int × Int)) (f : Int) (B : Option Addr) (cb : Nat) (ls : List (List Int)) (B1 B2 : Nat) (w0 w : World) (hO : OwnE w w0.heap.size A n cap l) (hb0 : Below w0.heap.size w0 w) (hX : ∀ b, (Value.slice A n cap).ownBlock = some b → b < B1 ∨ B2 ≤ b) (hL : LSpan w B ls B1 B2) (hf0 : 0 ≤ f) (hf1 : f + (ls.length : Int) ≤ 4096) (hn : l.length + (edR f ls).length ≤ 100000) :
    Calls Tryz.prog 93 #[.slice A n cap, .agg #[.int .i64 f, .slice B ls.length cb]] w fun e w' => ∃ A' n' cap', e = .returned (.slice A' n' cap') ∧ OwnE w' w0.heap.size A' n' cap' (l ++ edR f ls) ∧ Below w0.heap.size w0 w' ∧ But (fun b => (Value.slice A n cap).ownBlock = some b) w w' ∧ ∀ b, (Value.slice A' n' cap').ownBlock = some b → (Value.slice A n cap).ownBlock = some b ∨ w.heap.size < b := by
  refine Kn.Z.cl Tryz.func93 rfl Tryz.ntmps93 rfl (.c 0 rfl (.c 1 rfl .n)) ?_;refine Kn.Z.f fun K1 hK1=>?_;refine Kn.Z.s .o (.box (.t rfl)) fun Ko Kp=>?_;go_simp;(try go_bits);refine Kp _ _ ?_;clear Kp Ko;refine Kn.Z.u (.a .c .n) ?_;refine Kn.Z.e hK1 ?_;clear hK1 K1;refine Kn.Z.g (fun v => AInv w0 w #[.int .i64 f, .slice B ls.length cb] (Value.slice A n cap).ownBlock v A n cap l) (AInv.start hO hb0) fun v0 hv => ?_;have H0 := Lib.hid hv;have HX : Hid (∀ b, (Value.slice A n cap).ownBlock = some b → b < B1 ∨ B2 ≤ b) := Lib.hid hX;have HLt : Hid (∀ b, (Value.slice A n cap).ownBlock = some b → b < w.heap.size) := Lib.hid (fun b hb => (own_lt hO b hb).2);have HL := Lib.hid hL;clear hv hX hL;have c1 := H0.out.st.cell 1 rfl;refine Kn.Z.q fun K2 hK2=>?_;refine Kn.Z.f fun K3 hK3=>?_;refine Kn.Z.s .o (.fieldAddr (.t rfl)) fun Ko Kp=>?_;go_simp;(try go_bits);refine Kp _ _ ?_;clear Kp Ko;refine Kn.Z.s .o (.load (.t rfl)) fun Ko Kp=>?_;go_simp;(try go_bits);refine Kp _ _ ?_;clear Kp Ko;refine Kn.Z.s .o (.len (.t rfl)) fun Ko Kp=>?_;go_simp;(try go_bits);refine Kp _ _ ?_;clear Kp Ko;refine Kn.Z.u (.m .c .n) ?_;refine Kn.Z.e hK3 ?_;clear hK3 K3;clear c1;refine Kn.Z.b ?_;intro fa fh;refine Kn.loop (fun m fr u => ∃ (k n1 cap1 : Nat) (A1 : Option Addr), Kn.Kn 35 [(12, .int .i64 (k : Int)), (11, .int .i64 (ls.length : Int)), (10, .slice B ls.length cb), (3, .pointer (some ⟨w.heap.size, 0, none⟩)), (0, .slice A1 n1 cap1)] fr ∧ k + m = ls.length ∧ Hid (AInv w0 w #[.int .i64 f, .slice B ls.length cb] (Value.slice A n cap).ownBlock u A1 n1 cap1 (l ++ edR f (ls.take k)))) ls.length ⟨0, n, cap, A, fh.cut (.u 12 rfl rfl (.c 11 rfl (.c 10 rfl (.c 3 rfl (.c 0 rfl .n))))), by omega, Lib.hid (by simpa [edR] using H0.out)⟩ ?_;clear fh fa;intro m4 fb u hI Kl4 hKl4;obtain ⟨k, n1, cap1, A1, fg, hk, HI⟩ := hI;clear H0
  by_cases hlt : k < ls.length
  · obtain ⟨row, hrow⟩ : ∃ r, ls[k]? = some r := ⟨ls[k], List.getElem?_eq_getElem hlt⟩;obtain ⟨b, o, Yr, cr, rfl, hbl, hbb, cY, hIn, hYs⟩ := HL.out k row hrow;have cY' := (HI.out.but.cell hbl (fun hx => by have := HX.out _ hx; omega)).trans cY;have HIn : Hid (∀ v, But (fun b => (Value.slice A n cap).ownBlock = some b) w v → IIn v Yr row) := Lib.hid (fun v hb => hb.iin hIn (fun b' o' e hx => by have h1 := HX.out _ hx; have h2 := hYs _ _ e; omega))
    have hq : (edR f (ls.take k)).length + row.length ≤ (edR f ls).length := by
      have h1 := edR_le ls f (k + 1);rw [edR_at ls f k row hrow, List.length_append, List.length_map] at h1;exact h1
    have HA : Hid (edR f (ls.take (k + 1)) = edR f (ls.take k) ++ row.map (fun t => (f + (k : Int), t))) := Lib.hid (edR_at ls f k row hrow);obtain ⟨fk, hfk⟩ : ∃ z, f + (k : Int) = z := ⟨_, rfl⟩;rw [hfk] at HA;have hl1 : n1 = l.length + (edR f (ls.take k)).length := by have := HI.out.own.1; rw [List.length_append] at this; exact this
    generalize edR f (ls.take k) = es at HI HA hq hl1;clear cY hIn hYs hrow hbb hbl
    revert fb
    refine Kn.Z.f fun K5 hK5=>?_;refine Kn.Z.s .o (.bin (.t rfl) (.t rfl)) fun Ko Kp=>?_;go_simp;(try go_bits);refine Kp _ _ ?_;clear Kp Ko;refine Kn.Z.e hK5 ?_;clear hK5 K5;refine Kn.Z.q fun K6 hK6=>?_;refine Kn.Z.y (.t rfl) ?_;refine Kn.Z.j hK6 ?_;clear hK6 K6;refine Kn.Z.t (.c 12 rfl (.c 11 rfl (.c 10 rfl (.c 3 rfl (.c 0 rfl .n))))) ?_;refine Kn.Z.q fun K7 hK7=>?_;refine Kn.Z.b ?_;refine Kn.Z.f fun K8 hK8=>?_;refine Kn.Z.u (.m (.t rfl) .n) ?_;refine Kn.Z.s .o (.indexAddr (.t rfl) (.t rfl)) fun Ko Kp=>?_;go_simp;(try go_bits);refine Kp _ _ ?_;clear Kp Ko;refine Kn.Z.s .o (.load (.t rfl)) fun Ko Kp=>?_;go_simp;(try go_bits);refine Kp _ _ ?_;clear Kp Ko;refine Kn.Z.u (.a (.t rfl) (.a (.t rfl) .n)) ?_;refine Kn.Z.e hK8 ?_;clear hK8 K8;clear cY';refine Kn.Z.f fun K9 hK9=>?_;refine Kn.Z.u (.m (.t rfl) .n) ?_;refine Kn.Z.s .o (.len (.t rfl)) fun Ko Kp=>?_;go_simp;(try go_bits);refine Kp _ _ ?_;clear Kp Ko;refine Kn.Z.u (.m .c .n) ?_;refine Kn.Z.e hK9 ?_;clear hK9 K9;refine Kn.Z.b ?_;intro fa fh;refine Kn.loop (fun m fr v => ∃ (j n2 cap2 : Nat) (A2 : Option Addr), Kn.Kn 35 [(19, .int .i64 (j : Int)), (18, .int .i64 (row.length : Int)), (17, .slice Yr row.length cr), (5, .int .i64 (k : Int)), (12, .int .i64 (k : Int)), (11, .int .i64 (ls.length : Int)), (10, .slice (some ⟨b, o, none⟩) ls.length cb), (3, .pointer (some ⟨w.heap.size, 0, none⟩)), (0, .slice A2 n2 cap2)] fr ∧ j + m = row.length ∧ Hid (AInv w0 w #[.int .i64 f, .slice (some ⟨b, o, none⟩) ls.length cb] (Value.slice A n cap).ownBlock v A2 n2 cap2 (l ++ es ++ (row.take j).map (fun t => (fk, t))))) row.length ⟨0, n1, cap1, A1, fh.cut (.u 19 rfl rfl (.c 18 rfl (.c 17 rfl (.c 5 rfl (.c 12 rfl (.c 11 rfl (.c 10 rfl (.c 3 rfl (.c 0 rfl .n))))))))), by omega, Lib.hid (by simpa using HI.out)⟩ ?_;clear fh fa;intro m10 fb v hI Kl10 hKl10;obtain ⟨j, n2, cap2, A2, fg, hj, HJ⟩ := hI
    by_cases hjl : j < row.length
    · obtain ⟨ba, oa, rfl, -, ca1⟩ := HIn.out v HJ.out.but j hjl;obtain ⟨x, hx⟩ : ∃ x, nt row j = x := ⟨_, rfl⟩;rw [hx] at ca1;have c0 := HJ.out.st.cell 0 rfl;have hn2 : n2 ≤ 100000 := by have := HJ.out.own.1; rw [List.length_append, List.length_append, List.length_map, List.length_take] at this; omega
      obtain ⟨g', cap3, v2, hrun, hI2⟩ := HJ.out.push HLt.out 23 (fk, x) hn2;have HJ2 : Hid (AInv w0 w #[.int .i64 f, .slice (some ⟨b, o, none⟩) ls.length cb] (Value.slice A n cap).ownBlock v2 (some ⟨g', 0, none⟩) (n2 + 1) cap3 (l ++ es ++ (row.take (j + 1)).map (fun t => (fk, t)))) := Lib.hid (by rw [take_nt row j hjl, hx, List.map_append, ← List.append_assoc]; exact hI2);clear hI2 hx
      revert fb
      refine Kn.Z.f fun K11 hK11=>?_;refine Kn.Z.s .o (.bin (.t rfl) (.t rfl)) fun Ko Kp=>?_;go_simp;(try go_bits);refine Kp _ _ ?_;clear Kp Ko;refine Kn.Z.e hK11 ?_;clear hK11 K11;refine Kn.Z.q fun K12 hK12=>?_;refine Kn.Z.y (.t rfl) ?_;refine Kn.Z.j hK12 ?_;clear hK12 K12;refine Kn.Z.t (.c 19 rfl (.c 18 rfl (.c 17 rfl (.c 5 rfl (.c 12 rfl (.c 11 rfl (.c 10 rfl (.c 3 rfl (.c 0 rfl .n))))))))) ?_;refine Kn.Z.q fun K13 hK13=>?_;refine Kn.Z.b ?_;refine Kn.Z.f fun K14 hK14=>?_;refine Kn.Z.s .o (.indexAddr (.t rfl) (.t rfl)) fun Ko Kp=>?_;go_simp;(try go_bits);refine Kp _ _ ?_;clear Kp Ko;refine Kn.Z.s .o (.load (.t rfl)) fun Ko Kp=>?_;go_simp;(try go_bits);refine Kp _ _ ?_;clear Kp Ko;refine Kn.Z.u (.a (.t rfl) .n) ?_;refine Kn.Z.e hK14 ?_;clear hK14 K14;clear ca1;refine Kn.Z.r ?_;refine Kn.Z.u (.m (.t rfl) .n) ?_;refine Kn.Z.s .o (.fieldAddr (.t rfl)) fun Ko Kp=>?_;go_simp;(try go_bits);refine Kp _ _ ?_;clear Kp Ko;refine Kn.Z.s .o (.load (.t rfl)) fun Ko Kp=>?_;go_simp;(try go_bits);refine Kp _ _ ?_;clear Kp Ko;refine Kn.Z.u (.m (.t rfl) .n) ?_;refine Kn.Z.s .o (.bin (.t rfl) (.t rfl)) fun Ko Kp=>?_;go_simp;(try go_bits);try rw [hfk]
      try go_simp
      (try go_bits);refine Kp _ _ ?_;clear Kp Ko;refine Kn.Z.u (.m (.t rfl) .n) ?_;refine Kn.Z.s .o (.build (.c (.t rfl) (.c (.t rfl) .n))) fun Ko Kp=>?_;go_simp;(try go_bits);refine Kp _ _ ?_;clear Kp Ko;refine Kn.Z.s .o (.buildSlice (.c (.t rfl) .n)) fun Ko Kp=>?_;go_simp;(try go_bits);refine Kp _ _ ?_;clear Kp Ko;refine Kn.Z.k .o (.append (.c (.t rfl) (.c (.t rfl) .n))) hrun ?_;refine Kn.Z.u (.a (.t rfl) .n) ?_;intro fb fg;refine wpList_nil ?_;refine Kn.block_normal ?_;refine hK13 _ _ ?_;clear hK13 K13
      revert fb
      refine Kn.Z.t (.c 0 rfl (.c 19 rfl (.c 18 rfl (.c 17 rfl (.c 5 rfl (.c 12 rfl (.c 11 rfl (.c 10 rfl (.c 3 rfl .n))))))))) ?_;clear hrun c0;refine Kn.Z.r ?_;refine Kn.Z.s .o (.bin (.t rfl) .c) fun Ko Kp=>?_;go_simp;(try go_bits);refine Kp _ _ ?_;clear Kp Ko;refine Kn.Z.u (.m (.t rfl) .n) ?_;intro fb fg;refine wpList_nil ?_;replace fg := fg.cut (.c 19 rfl (.c 0 rfl (.c 18 rfl (.c 17 rfl (.c 5 rfl (.c 12 rfl (.c 11 rfl (.c 10 rfl (.c 3 rfl .n)))))))));exact hKl10 (m10 - 1) _ _ (by omega) ⟨j + 1, n2 + 1, cap3, some ⟨g', 0, none⟩, fg.cut (.u 19 rfl (by go_num) (.c 18 rfl (.c 17 rfl (.c 5 rfl (.c 12 rfl (.c 11 rfl (.c 10 rfl (.c 3 rfl (.c 0 rfl .n))))))))), by omega, HJ2⟩
    obtain rfl : j = row.length := by omega
    revert fb
    refine Kn.Z.f fun K11 hK11=>?_;refine Kn.Z.s .o (.bin (.t rfl) (.t rfl)) fun Ko Kp=>?_;go_simp;(try go_bits);refine Kp _ _ ?_;clear Kp Ko;refine Kn.Z.e hK11 ?_;clear hK11 K11;refine Kn.Z.q fun K12 hK12=>?_;refine Kn.Z.no (.t rfl) ?_;refine Kn.Z.t (.c 19 rfl (.c 18 rfl (.c 17 rfl (.c 5 rfl (.c 12 rfl (.c 11 rfl (.c 10 rfl (.c 3 rfl (.c 0 rfl .n))))))))) ?_;intro fa fh;refine wp_exit ?_;refine Kn.then_exit ?_;clear hK12 K12;refine Kn.then_exit ?_;clear hKl10 Kl10;refine Kn.block_exit ?_;refine Kn.block_normal ?_;refine hK7 _ _ ?_;clear hK7 K7
    revert fa
    refine Kn.Z.r ?_;refine Kn.Z.s .o (.bin (.t rfl) .c) fun Ko Kp=>?_;go_simp;(try go_bits);refine Kp _ _ ?_;clear Kp Ko;refine Kn.Z.u (.m (.t rfl) .n) ?_;intro fa fh;refine wpList_nil ?_;replace fh := fh.cut (.c 12 rfl (.c 11 rfl (.c 10 rfl (.c 3 rfl (.c 0 rfl .n)))));exact hKl4 (m4 - 1) _ _ (by omega) ⟨k + 1, n2, cap2, A2, fh.cut (.u 12 rfl (by go_num) (.c 11 rfl (.c 10 rfl (.c 3 rfl (.c 0 rfl .n))))), by omega, Lib.hid (by have := HJ.out; rw [List.take_length, List.append_assoc, ← HA.out] at this; exact this)⟩
  obtain rfl : k = ls.length := by omega
  revert fb
  refine Kn.Z.f fun K5 hK5=>?_;refine Kn.Z.s .o (.bin (.t rfl) (.t rfl)) fun Ko Kp=>?_;go_simp;(try go_bits);refine Kp _ _ ?_;clear Kp Ko;refine Kn.Z.e hK5 ?_;clear hK5 K5;refine Kn.Z.q fun K6 hK6=>?_;refine Kn.Z.no (.t rfl) ?_;refine Kn.Z.t (.c 12 rfl (.c 11 rfl (.c 10 rfl (.c 3 rfl (.c 0 rfl .n))))) ?_;intro fa fh;refine wp_exit ?_;refine Kn.then_exit ?_;clear hK6 K6;refine Kn.then_exit ?_;clear hKl4 Kl4;refine Kn.block_exit ?_;refine hK2 _ _ ?_;clear hK2 K2
  revert fa
  refine Kn.Z.f fun K7 hK7=>?_;refine Kn.Z.u (.m (.t rfl) (.a (.t rfl) .n)) ?_;refine Kn.Z.e hK7 ?_;clear hK7 K7;intro fa fh;refine wp_ret ?_;have HE := HI.out;rw [List.take_length] at HE;exact Kn.ret1 fh rfl rfl ⟨_, _, _, rfl, HE.own, HE.below, HE.but, HE.away⟩
set_option maxRecDepth 100000 in
set_option maxHeartbeats 8000000 in
theorem join_yes (A : Option Addr) (ca N i : Nat) (ts : List ByteArray) (F : Nat → Int) (L : Nat → List (List Int)) (w : World) (hN : N ≤ 4096) (hl : ts.length ≤ 100000) (hA : RIn txR w A ts) (hg : ∀ k s, k < i + 1 → ts[k]? = some s → s.size ≤ maxLen ∧ gsG s (N : Int) = .inr (F k, L k)) (hp : ∀ j, j < i → F j = (nxJ L j : Int)) (hle : (edJ F L i).length ≤ 20000) (hi : i = ts.length) (he : nxJ L i = N) (hG : Edg.Good (N : Int) (edJ F L i)) :
    Calls Tryz.prog 67 #[.int .i64 (N : Int), .slice A ts.length ca] w fun e w' => ∃ g ys, e = .returned (.tuple #[.pointer (some ⟨g, 0, none⟩), .nilIface]) ∧ NormOf (edJ F L i) ys ∧ Rep w' w.heap.size g N ys ∧ Below w.heap.size w w' := by
  refine Kn.Z.cl Tryz.func67 rfl Tryz.ntmps67 rfl (.c 0 rfl (.c 1 rfl .n)) ?_;have HA := Lib.hid hA;have HG := Lib.hid hg;have HP := Lib.hid hp;clear hA hg hp;refine Kn.Z.f fun K1 hK1=>?_;refine Kn.Z.u (.a .c (.a .c .n)) ?_;refine Kn.Z.e hK1 ?_;clear hK1 K1;refine Kn.Z.f fun K2 hK2=>?_;refine Kn.Z.u (.a .c .n) ?_;refine Kn.Z.e hK2 ?_;clear hK2 K2;refine Kn.Z.f fun K3 hK3=>?_;refine Kn.Z.u (.a .c .n) ?_;refine Kn.Z.e hK3 ?_;clear hK3 K3;refine Kn.Z.q fun K4 hK4=>?_;refine Kn.Z.f fun K5 hK5=>?_;refine Kn.Z.u (.m (.t rfl) .n) ?_;refine Kn.Z.s .o (.len (.t rfl)) fun Ko Kp=>?_;go_simp;(try go_bits);refine Kp _ _ ?_;clear Kp Ko;refine Kn.Z.u (.m .c .n) ?_;refine Kn.Z.e hK5 ?_;clear hK5 K5;refine Kn.Z.b ?_;intro fb fg;refine Kn.loop (fun m fr u => ∃ (k n1 c1 : Nat) (A1 : Option Addr), Kn.Kn 58 [(14, .int .i64 (k : Int)), (13, .int .i64 (ts.length : Int)), (12, .slice A ts.length ca), (6, .slice A1 n1 c1), (7, .int .i64 (nxJ L k : Int)), (0, .int .i64 (N : Int)), (1, .slice A ts.length ca)] fr ∧ k + m = ts.length ∧ k ≤ i ∧ Hid (OwnE u w.heap.size A1 n1 c1 (edJ F L k)) ∧ Hid (Below w.heap.size w u)) ts.length ⟨0, 0, 0, none, fg.cut (.u 14 rfl rfl (.c 13 rfl (.c 12 rfl (.c 6 rfl (.u 7 rfl rfl (.c 0 rfl (.c 1 rfl .n))))))), by omega, by omega, Lib.hid (Edg.OwnE.none _ _), Lib.hid (Below.refl _ _)⟩ ?_;clear fg fb;intro m6 fa u hI Kl6 hKl6;obtain ⟨k, n1, c1, A1, fh, hk, hki, HO, HB⟩ := hI
  by_cases hlt : k < ts.length
  · obtain ⟨s, hs⟩ : ∃ s, ts[k]? = some s := ⟨ts[k], List.getElem?_eq_getElem hlt⟩;obtain ⟨hss, hgs⟩ := HG.out k s (by omega) hs;obtain ⟨ba, oa, rfl, -, cs⟩ := tx_cell (HA.out.on HB.out) hs;obtain ⟨hF0, hF1, hF2, -, -⟩ := seek_of_gs hgs;have HPk : Hid (k < i → F k = (nxJ L k : Int)) := Lib.hid (HP.out k);have HNx : Hid (nxJ L (k + 1) = nxJ L k + (L k).length) := Lib.hid rfl;have HEd : Hid (edJ F L (k + 1) = edJ F L k ++ edR (F k) (L k)) := Lib.hid rfl;obtain ⟨fk, hfk⟩ : ∃ z, F k = z := ⟨_, rfl⟩;obtain ⟨lk, hlk⟩ : ∃ z, L k = z := ⟨_, rfl⟩;obtain ⟨nx, hnx⟩ : ∃ z, nxJ L k = z := ⟨_, rfl⟩
    have hel : k < i → (edJ F L k).length + (edR fk lk).length ≤ 20000 := fun h => by
      have h1 := edJ_le F L (k + 1) (i - (k + 1));rw [show k + 1 + (i - (k + 1)) = i by omega, HEd.out, List.length_append, hfk, hlk] at h1;omega
    have HEl := Lib.hid hel;rw [hfk, hlk] at hgs HEd;rw [hlk] at hF1 hF2 HNx;rw [hfk] at hF0 hF1 HPk;rw [hnx] at HPk HNx fh;have hgt := get_any s (N : Int) u hss (by omega) (by omega)
    have hgt2 : Calls Tryz.prog 71 #[.string s, .int .i64 (N : Int)] u fun e w' => ∃ g, e = .returned (.tuple #[.agg #[.int .i64 fk, .slice (some ⟨g, 0, none⟩) lk.length lk.length], .nilIface]) ∧ LSpan w' (some ⟨g, 0, none⟩) lk u.heap.size w'.heap.size ∧ Below u.heap.size u w' := by
      refine hgt.mono fun e w' hc => ?_;obtain ⟨hb, h⟩ := hc;rw [hgs] at h;rcases h with ⟨x', a', he, -, hh⟩ | ⟨f', ls', g, he, hh, h1, h2, h3⟩
      · cases he
      · cases he; exact ⟨g, hh, h1, hb⟩
    clear hgt;clear hgs hel hs
    revert fa
    refine Kn.Z.f fun K7 hK7=>?_;refine Kn.Z.s .o (.bin (.t rfl) (.t rfl)) fun Ko Kp=>?_;go_simp;(try go_bits);refine Kp _ _ ?_;clear Kp Ko;refine Kn.Z.e hK7 ?_;clear hK7 K7;refine Kn.Z.q fun K8 hK8=>?_;refine Kn.Z.y (.t rfl) ?_;refine Kn.Z.j hK8 ?_;clear hK8 K8;refine Kn.Z.t (.c 14 rfl (.c 13 rfl (.c 12 rfl (.c 6 rfl (.c 7 rfl (.c 0 rfl (.c 1 rfl .n))))))) ?_;refine Kn.Z.q fun K9 hK9=>?_;refine Kn.Z.b ?_;refine Kn.Z.f fun K10 hK10=>?_;refine Kn.Z.u (.m (.t rfl) .n) ?_;refine Kn.Z.s .o (.indexAddr (.t rfl) (.t rfl)) fun Ko Kp=>?_;go_simp;(try go_bits);refine Kp _ _ ?_;clear Kp Ko;refine Kn.Z.s .o (.load (.t rfl)) fun Ko Kp=>?_;go_simp;(try go_bits);refine Kp _ _ ?_;clear Kp Ko;refine Kn.Z.u (.a (.t rfl) (.a (.t rfl) .n)) ?_;refine Kn.Z.e hK10 ?_;clear hK10 K10;clear cs;refine Kn.Z.f fun K11 hK11=>?_;refine Kn.Z.u (.m (.t rfl) (.m (.t rfl) .n)) ?_;refine Kn.Z.c .o (.call (.c (.t rfl) (.c (.t rfl) .n))) Tryz.call71 (hgt2) fun e uc hp=>?_;obtain ⟨gq, rfl, hSp, hbc⟩ := hp;refine ⟨_,rfl,?_⟩;obtain ⟨ud, hud⟩ : ∃ q9, uc.alloc (.cells #[.int .i64 0, .slice none 0 0] 125) = q9 := ⟨_, rfl⟩;have hSd := St.St.new uc 125 #[.int .i64 0, .slice none 0 0];have hbd : Below uc.heap.size uc ud := by rw [← hud]; exact (Below.refl _ uc).alloc (Nat.le_refl _) _
    rw [hud] at hSd;obtain ⟨hst, hSe, hBe⟩ := hSd.store (P := Tryz.prog) (cells := #[.int .i64 fk, .slice (some ⟨gq, 0, none⟩) lk.length lk.length]) (by kernel_rfl) rfl (by simp [Value.oneCell']);have hbz1 := (hbc.trans (hbd.mono hbc.size)).trans (hBe _ hbc.size);have hgez1 := hbc.size;have hbC := hbd.trans (hBe _ (Nat.le_refl _));clear hSd hbd hBe;refine Kn.Z.u (.m (.t rfl) (.x (.t rfl) rfl (.x (.t rfl) rfl .n))) ?_;refine Kn.Z.s .o .alloc fun Ko Kp=>?_;go_simp;try rw [hud]
    refine Kp _ _ ?_;clear Kp Ko;refine Kn.Z.su .o (.store (.t rfl) (.t rfl)) fun Ko Kp=>?_;refine Kn.satU_run hst ?_;refine Kp _ ?_;clear Kp Ko;refine Kn.Z.u (.a (.t rfl) .n) ?_;refine Kn.Z.e hK11 ?_;clear hK11 K11;refine Kn.Z.t (.c 11 rfl (.c 10 rfl (.c 8 rfl (.c 14 rfl (.c 13 rfl (.c 12 rfl (.c 6 rfl (.c 7 rfl (.c 0 rfl (.c 1 rfl .n)))))))))) ?_;clear hst hud;obtain ⟨z1, hzz⟩ : ∃ q9, ud.setRow uc.heap.size #[.int .i64 fk, .slice (some ⟨gq, 0, none⟩) lk.length lk.length] = q9 := ⟨_, rfl⟩;rw [hzz] at hSe hbz1 hbC;intro fa fh;change Code.wp _ _ _ _ (ud.setRow uc.heap.size #[.int .i64 fk, .slice (some ⟨gq, 0, none⟩) lk.length lk.length]);rw [hzz];clear hzz;have hltz1 := hSe.lt;have HSp : Hid (LSpan z1 (some ⟨gq, 0, none⟩) lk u.heap.size uc.heap.size) := Lib.hid (hSp.on hbC);clear hSp;clear hbC;generalize uc.heap.size = g10 at *;have HSz1 := Lib.hid hSe;clear hSe;clear hgt2
    revert fa
    refine Kn.Z.q fun K12 hK12=>?_;refine Kn.Z.f fun K13 hK13=>?_;refine Kn.Z.u (.m (.t rfl) .n) ?_;refine Kn.Z.s .o (.bin (.t rfl) .c) fun Ko Kp=>?_;go_simp;(try go_bits);refine Kp _ _ ?_;clear Kp Ko;refine Kn.Z.e hK13 ?_;clear hK13 K13;refine Kn.Z.no (.t rfl) ?_;refine Kn.Z.j hK12 ?_;clear hK12 K12;have c0 := HSz1.out.cell 0 rfl;have hki3 : k < i := by omega
    have hfn := HPk.out hki3;have qn : (fk != (nx : Int)) = false := by simp [hfn]
    have hel := HEl.out hki3;refine Kn.Z.q fun K14 hK14=>?_;refine Kn.Z.f fun K15 hK15=>?_;refine Kn.Z.s .o (.fieldAddr (.t rfl)) fun Ko Kp=>?_;go_simp;(try go_bits);refine Kp _ _ ?_;clear Kp Ko;refine Kn.Z.s .o (.load (.t rfl)) fun Ko Kp=>?_;go_simp;(try go_bits);refine Kp _ _ ?_;clear Kp Ko;refine Kn.Z.u (.m (.t rfl) .n) ?_;refine Kn.Z.s .o (.bin (.t rfl) (.t rfl)) fun Ko Kp=>?_;go_simp;(try go_bits);refine Kp _ _ ?_;clear Kp Ko;refine Kn.Z.e hK15 ?_;clear hK15 K15;refine Kn.Z.no (.t rfl) ?_;refine Kn.Z.j hK14 ?_;clear hK14 K14;clear qn c0;have hld := HSz1.out.load (P := Tryz.prog) Tryz.underlying125 rfl (by kernel_rfl);have hlt2 := fun b hb => (own_lt HO.out b hb).2;have hap := appendEdges_any A1 n1 c1 (edJ F L k) fk (some ⟨gq, 0, none⟩) lk.length lk u.heap.size g10 w z1 (HO.out.on hbz1) (HB.out.trans (hbz1.mono HB.out.size)) (fun b hb => .inl (hlt2 b hb)) HSp.out hF0 (by omega) (by omega);rw [← HEd.out] at hap;have HLt2 := Lib.hid hlt2;clear hlt2;refine Kn.Z.f fun K16 hK16=>?_;refine Kn.Z.u (.m (.t rfl) .n) ?_;refine Kn.Z.k .o (.load (.t rfl)) hld ?_;refine Kn.Z.c .o (.call (.c (.t rfl) (.c (.t rfl) .n))) Tryz.call93 (hap) fun e u2 hp=>?_;obtain ⟨A2, n2, c2, rfl, hO2, hb2, hbut, -⟩ := hp;refine ⟨_,rfl,?_⟩;refine Kn.Z.u (.a (.t rfl) .n) ?_;refine Kn.Z.e hK16 ?_;clear hK16 K16;refine Kn.Z.t (.c 6 rfl (.c 10 rfl (.c 14 rfl (.c 13 rfl (.c 12 rfl (.c 7 rfl (.c 0 rfl (.c 1 rfl .n)))))))) ?_;have HS2 := Lib.hid (hbut.st HSz1.out (fun hx => by have := HLt2.out _ hx; omega));have HO2 := Lib.hid hO2;have HB2 := Lib.hid hb2;clear hap hO2 hb2 hbut hld;have c1 := HS2.out.cell 1 rfl;have r1 : (nx : Int) + (lk.length : Int) = (nxJ L (k + 1) : Int) := by rw [HNx.out]; omega
    have hnxb : nx ≤ 4096 := by omega
    refine Kn.Z.r ?_;refine Kn.Z.u (.m (.t rfl) .n) ?_;refine Kn.Z.s .o (.fieldAddr (.t rfl)) fun Ko Kp=>?_;go_simp;(try go_bits);refine Kp _ _ ?_;clear Kp Ko;refine Kn.Z.s .o (.load (.t rfl)) fun Ko Kp=>?_;go_simp;(try go_bits);refine Kp _ _ ?_;clear Kp Ko;refine Kn.Z.s .o (.len (.t rfl)) fun Ko Kp=>?_;go_simp;(try go_bits);refine Kp _ _ ?_;clear Kp Ko;refine Kn.Z.s .o (.bin (.t rfl) (.t rfl)) fun Ko Kp=>?_;go_simp;(try go_bits);try rw [r1]
    try go_simp
    (try go_bits);refine Kp _ _ ?_;clear Kp Ko;refine Kn.Z.u (.a (.t rfl) .n) ?_;intro fa fh;refine wpList_nil ?_;refine Kn.block_normal ?_;refine hK9 _ _ ?_;clear hK9 K9;clear c1
    revert fa
    refine Kn.Z.r ?_;refine Kn.Z.s .o (.bin (.t rfl) .c) fun Ko Kp=>?_;go_simp;(try go_bits);refine Kp _ _ ?_;clear Kp Ko;refine Kn.Z.u (.m (.t rfl) .n) ?_;intro fa fh;refine wpList_nil ?_;replace fh := fh.cut (.c 14 rfl (.c 7 rfl (.c 6 rfl (.c 13 rfl (.c 12 rfl (.c 0 rfl (.c 1 rfl .n)))))));exact hKl6 (m6 - 1) _ _ (by omega) ⟨k + 1, n2, c2, A2, fh.cut (.u 14 rfl (by go_num) (.c 13 rfl (.c 12 rfl (.c 6 rfl (.c 7 rfl (.c 0 rfl (.c 1 rfl .n))))))), by omega, by omega, HO2, HB2⟩
  obtain rfl : k = ts.length := by omega
  revert fa
  refine Kn.Z.f fun K7 hK7=>?_;refine Kn.Z.s .o (.bin (.t rfl) (.t rfl)) fun Ko Kp=>?_;go_simp;(try go_bits);refine Kp _ _ ?_;clear Kp Ko;refine Kn.Z.e hK7 ?_;clear hK7 K7;refine Kn.Z.q fun K8 hK8=>?_;refine Kn.Z.no (.t rfl) ?_;refine Kn.Z.t (.c 14 rfl (.c 13 rfl (.c 12 rfl (.c 6 rfl (.c 7 rfl (.c 0 rfl (.c 1 rfl .n))))))) ?_;intro fb fg;refine wp_exit ?_;refine Kn.then_exit ?_;clear hK8 K8;refine Kn.then_exit ?_;clear hKl6 Kl6;refine Kn.block_exit ?_;refine hK4 _ _ ?_;clear hK4 K4;have hnN : nxJ L ts.length = N := by rw [← hi]; exact he
  rw [hnN] at fg;have qn : ((N : Int) != (N : Int)) = false := by simp
  have qn2 : (N != N) = false := by simp
  have hn1 := HO.out.1;subst hn1;have hbu := build_yes N A1 c1 (edJ F L ts.length) u HO.out.ein (by rw [← hi]; exact hG)
  revert fb
  refine Kn.Z.q fun K9 hK9=>?_;refine Kn.Z.f fun K10 hK10=>?_;refine Kn.Z.u (.m (.t rfl) (.m (.t rfl) .n)) ?_;refine Kn.Z.s .o (.bin (.t rfl) (.t rfl)) fun Ko Kp=>?_;go_simp;(try go_bits);refine Kp _ _ ?_;clear Kp Ko;refine Kn.Z.e hK10 ?_;clear hK10 K10;refine Kn.Z.no (.t rfl) ?_;refine Kn.Z.j hK9 ?_;clear hK9 K9;refine Kn.Z.f fun K11 hK11=>?_;refine Kn.Z.u (.m (.t rfl) (.m (.t rfl) .n)) ?_;refine Kn.Z.c .o (.call (.c (.t rfl) (.c (.t rfl) .n))) Tryz.call17 (hbu) fun e u2 hp=>?_;obtain ⟨g, ys, rfl, hN, hR, hb2⟩ := hp;refine ⟨_,rfl,?_⟩;refine Kn.Z.u (.x (.t rfl) rfl (.x (.t rfl) rfl (.a (.t rfl) (.a (.t rfl) .n)))) ?_;refine Kn.Z.e hK11 ?_;clear hK11 K11;refine Kn.Z.t (.c 5 rfl (.c 4 rfl .n)) ?_;intro fb fg;refine wp_ret ?_;exact Kn.ret2 fg rfl rfl rfl ⟨g, ys, rfl, by rw [hi]; exact hN, Rep.mono hR HB.out.size, HB.out.trans (hb2.mono HB.out.size)⟩
def tabF (F : Nat → Int) (ts : List ByteArray) (k : Nat) : List (Int × Int) := (List.range k).map fun j => (F j, ((ts.getD j ⟨#[]⟩).size : Int))
theorem tabF_len (F : Nat → Int) (ts : List ByteArray) (k : Nat) : (tabF F ts k).length = k := by simp [tabF]
theorem tabF_succ (F : Nat → Int) (ts : List ByteArray) (k : Nat) : tabF F ts (k + 1) = tabF F ts k ++ [(F k, ((ts.getD k ⟨#[]⟩).size : Int))] := by simp [tabF, List.range_succ]
set_option maxRecDepth 100000 in
set_option maxHeartbeats 8000000 in
theorem table_yes (A : Option Addr) (ca N i : Nat) (ts : List ByteArray) (F : Nat → Int) (L : Nat → List (List Int)) (w : World) (hN : N ≤ 4096) (hl : ts.length ≤ 100000) (hA : RIn txR w A ts) (hg : ∀ k s, k < i → ts[k]? = some s → s.size ≤ maxLen ∧ gsG s (N : Int) = .inr (F k, L k)) (hi : i = ts.length) :
    Calls Tryz.prog 43 #[.int .i64 (N : Int), .slice A ts.length ca] w fun e w' => ∃ gt, e = .returned (.tuple #[.slice (some ⟨gt, 0, none⟩) ts.length ts.length, .nilIface]) ∧ Hold ipR w' gt (tabF F ts ts.length) ∧ w.heap.size ≤ gt ∧ Below w.heap.size w w' := by
  refine Kn.Z.cl Tryz.func43 rfl Tryz.ntmps43 rfl (.c 0 rfl (.c 1 rfl .n)) ?_;have HA := Lib.hid hA;have HG := Lib.hid hg;clear hA hg;refine Kn.Z.f fun K1 hK1=>?_;refine Kn.Z.u (.a .c (.a .c .n)) ?_;refine Kn.Z.e hK1 ?_;clear hK1 K1;obtain ⟨w5, hmk, hO5, hb5⟩ := makeG (P := Tryz.prog) ipR elemSh (0, 0) rfl w ts.length (by show ts.length * 2 ≤ _; omega) (by omega) (by omega);refine Kn.Z.f fun K2 hK2=>?_;refine Kn.Z.u (.m (.t rfl) .n) ?_;refine Kn.Z.s .o (.len (.t rfl)) fun Ko Kp=>?_;go_simp;(try go_bits);refine Kp _ _ ?_;clear Kp Ko;refine Kn.Z.k .o (.makeSlice (.t rfl) (.t rfl)) hmk ?_;refine Kn.Z.u (.a (.t rfl) .n) ?_;refine Kn.Z.e hK2 ?_;clear hK2 K2;clear hmk;obtain ⟨gt, hgt0⟩ : ∃ g, w.heap.size = g := ⟨_, rfl⟩;have hgw : w.heap.size ≤ gt := by omega
  intro fa fh;rw [hgt0] at hO5 fh;have HF5 : Hid (Fill ipR (0, 0) w5 gt ts.length (tabF F ts 0)) := Lib.hid (Fill.start hO5);have HB5 := Lib.hid hb5;clear hO5 hb5 hgt0
  revert fa
  refine Kn.Z.q fun K3 hK3=>?_;refine Kn.Z.f fun K4 hK4=>?_;refine Kn.Z.u (.m (.t rfl) .n) ?_;refine Kn.Z.s .o (.len (.t rfl)) fun Ko Kp=>?_;go_simp;(try go_bits);refine Kp _ _ ?_;clear Kp Ko;refine Kn.Z.u (.m .c .n) ?_;refine Kn.Z.e hK4 ?_;clear hK4 K4;refine Kn.Z.b ?_;intro fb fg;refine Kn.loop (fun m fr u => ∃ (k : Nat), Kn.Kn 42 [(16, .int .i64 (k : Int)), (15, .int .i64 (ts.length : Int)), (14, .slice A ts.length ca), (6, .slice (some ⟨gt, 0, none⟩) ts.length ts.length), (0, .int .i64 (N : Int))] fr ∧ k + m = ts.length ∧ k ≤ i ∧ Hid (Fill ipR (0, 0) u gt ts.length (tabF F ts k)) ∧ Hid (Below w.heap.size w u)) ts.length ⟨0, fg.cut (.u 16 rfl rfl (.c 15 rfl (.c 14 rfl (.c 6 rfl (.c 0 rfl .n))))), by omega, by omega, HF5, HB5⟩ ?_;clear fg fb;intro m5 fa u hI Kl5 hKl5;obtain ⟨k, fh, hk, hki, HF, HB⟩ := hI;clear HF5 HB5
  by_cases hlt : k < ts.length
  · obtain ⟨s, hs⟩ : ∃ s, ts[k]? = some s := ⟨ts[k], List.getElem?_eq_getElem hlt⟩;obtain ⟨ba, oa, rfl, -, cs⟩ := tx_cell (HA.out.on HB.out) hs;have hki3 : k < i := by omega
    obtain ⟨hss, hgs⟩ := HG.out k s (by omega) hs;have hszm : s.size ≤ 9223372036854775807 := hss;have HTk : Hid (tabF F ts (k + 1) = tabF F ts k ++ [(F k, (s.size : Int))]) := Lib.hid (by rw [tabF_succ]; simp [List.getD, hs]);have HTl : Hid ((tabF F ts k).length = k) := Lib.hid (tabF_len F ts k);obtain ⟨fk, hfk⟩ : ∃ z, F k = z := ⟨_, rfl⟩;obtain ⟨lk, hlk⟩ : ∃ z, L k = z := ⟨_, rfl⟩;rw [hfk, hlk] at hgs;rw [hfk] at HTk;have hgt := get_any s (N : Int) u hss (by omega) (by omega)
    have hgt2 : Calls Tryz.prog 71 #[.string s, .int .i64 (N : Int)] u fun e w' => ∃ g, e = .returned (.tuple #[.agg #[.int .i64 fk, .slice (some ⟨g, 0, none⟩) lk.length lk.length], .nilIface]) ∧ LSpan w' (some ⟨g, 0, none⟩) lk u.heap.size w'.heap.size ∧ Below u.heap.size u w' := by
      refine hgt.mono fun e w' hc => ?_;obtain ⟨hb, h⟩ := hc;rw [hgs] at h;rcases h with ⟨x', a', he, -, hh⟩ | ⟨f', ls', g, he, hh, h1, h2, h3⟩
      · cases he
      · cases he; exact ⟨g, hh, h1, hb⟩
    clear hgt;clear hgs hs
    revert fa
    refine Kn.Z.f fun K6 hK6=>?_;refine Kn.Z.s .o (.bin (.t rfl) (.t rfl)) fun Ko Kp=>?_;go_simp;(try go_bits);refine Kp _ _ ?_;clear Kp Ko;refine Kn.Z.e hK6 ?_;clear hK6 K6;refine Kn.Z.q fun K7 hK7=>?_;refine Kn.Z.y (.t rfl) ?_;refine Kn.Z.j hK7 ?_;clear hK7 K7;refine Kn.Z.t (.c 16 rfl (.c 15 rfl (.c 14 rfl (.c 6 rfl (.c 0 rfl .n))))) ?_;refine Kn.Z.q fun K8 hK8=>?_;refine Kn.Z.b ?_;refine Kn.Z.f fun K9 hK9=>?_;refine Kn.Z.u (.m (.t rfl) .n) ?_;refine Kn.Z.s .o (.indexAddr (.t rfl) (.t rfl)) fun Ko Kp=>?_;go_simp;(try go_bits);refine Kp _ _ ?_;clear Kp Ko;refine Kn.Z.s .o (.load (.t rfl)) fun Ko Kp=>?_;go_simp;(try go_bits);refine Kp _ _ ?_;clear Kp Ko;refine Kn.Z.u (.a (.t rfl) (.a (.t rfl) .n)) ?_;refine Kn.Z.e hK9 ?_;clear hK9 K9;clear cs;refine Kn.Z.f fun K10 hK10=>?_;refine Kn.Z.u (.m (.t rfl) (.m (.t rfl) .n)) ?_;refine Kn.Z.c .o (.call (.c (.t rfl) (.c (.t rfl) .n))) Tryz.call71 (hgt2) fun e uc hp=>?_;obtain ⟨gq, rfl, hSp, hbc⟩ := hp;refine ⟨_,rfl,?_⟩;obtain ⟨ud, hud⟩ : ∃ q9, uc.alloc (.cells #[.int .i64 0, .slice none 0 0] 125) = q9 := ⟨_, rfl⟩;have hSd := St.St.new uc 125 #[.int .i64 0, .slice none 0 0];have hbd : Below uc.heap.size uc ud := by rw [← hud]; exact (Below.refl _ uc).alloc (Nat.le_refl _) _
    rw [hud] at hSd;obtain ⟨hst, hSe, hBe⟩ := hSd.store (P := Tryz.prog) (cells := #[.int .i64 fk, .slice (some ⟨gq, 0, none⟩) lk.length lk.length]) (by kernel_rfl) rfl (by simp [Value.oneCell']);have hbz1 := (hbc.trans (hbd.mono hbc.size)).trans (hBe _ hbc.size);have hgez1 := hbc.size;have hbC := hbd.trans (hBe _ (Nat.le_refl _));clear hSd hbd hBe;refine Kn.Z.u (.m (.t rfl) (.x (.t rfl) rfl (.x (.t rfl) rfl .n))) ?_;refine Kn.Z.s .o .alloc fun Ko Kp=>?_;go_simp;try rw [hud]
    refine Kp _ _ ?_;clear Kp Ko;refine Kn.Z.su .o (.store (.t rfl) (.t rfl)) fun Ko Kp=>?_;refine Kn.satU_run hst ?_;refine Kp _ ?_;clear Kp Ko;refine Kn.Z.u (.a (.t rfl) .n) ?_;refine Kn.Z.e hK10 ?_;clear hK10 K10;clear hst hud;obtain ⟨z1, hzz⟩ : ∃ q9, ud.setRow uc.heap.size #[.int .i64 fk, .slice (some ⟨gq, 0, none⟩) lk.length lk.length] = q9 := ⟨_, rfl⟩;rw [hzz] at hSe hbz1 hbC;intro fa fh;change Code.wp _ _ _ _ (ud.setRow uc.heap.size #[.int .i64 fk, .slice (some ⟨gq, 0, none⟩) lk.length lk.length]);rw [hzz];clear hzz;have hltz1 := hSe.lt;clear hSp;clear hbC;generalize uc.heap.size = g10 at *;have HSz1 := Lib.hid hSe;clear hSe;clear hgt2
    revert fa
    refine Kn.Z.q fun K11 hK11=>?_;refine Kn.Z.f fun K12 hK12=>?_;refine Kn.Z.u (.m (.t rfl) .n) ?_;refine Kn.Z.s .o (.bin (.t rfl) .c) fun Ko Kp=>?_;go_simp;(try go_bits);refine Kp _ _ ?_;clear Kp Ko;refine Kn.Z.e hK12 ?_;clear hK12 K12;refine Kn.Z.t (.c 28 rfl (.c 10 rfl (.c 9 rfl (.c 8 rfl (.c 7 rfl (.c 16 rfl (.c 15 rfl (.c 14 rfl (.c 6 rfl (.c 0 rfl .n)))))))))) ?_;refine Kn.Z.no (.t rfl) ?_;refine Kn.Z.j hK11 ?_;clear hK11 K11;have c0 := HSz1.out.cell 0 rfl;obtain ⟨u2, hst, hF2, hot, hsz, hbl⟩ := (HF.out.on hbz1).pushM (P := Tryz.prog) (e := 98) (sz := 2) (by rw [HTl.out]; exact hlt) k HTl.out.symm rfl (fk, (s.size : Int)) #[.int .i64 fk, .int .i64 (s.size : Int)] rfl (by kernel_rfl);have HF2 : Hid (Fill ipR (0, 0) u2 gt ts.length (tabF F ts (k + 1))) := Lib.hid (by rw [HTk.out]; exact hF2);have HB2 := Lib.hid ((HB.out.trans (hbz1.mono HB.out.size)).trans (hbl _ hgw));clear hF2 hot hsz hbl;refine Kn.Z.r ?_;refine Kn.Z.u (.m (.t rfl) (.m (.t rfl) .n)) ?_;refine Kn.Z.s .o (.fieldAddr (.t rfl)) fun Ko Kp=>?_;go_simp;(try go_bits);refine Kp _ _ ?_;clear Kp Ko;refine Kn.Z.s .o (.load (.t rfl)) fun Ko Kp=>?_;go_simp;(try go_bits);refine Kp _ _ ?_;clear Kp Ko;refine Kn.Z.u (.m (.t rfl) .n) ?_;refine Kn.Z.s .o (.len (.t rfl)) fun Ko Kp=>?_;go_simp;(try go_bits);refine Kp _ _ ?_;clear Kp Ko;refine Kn.Z.s .o (.build (.c (.t rfl) (.c (.t rfl) .n))) fun Ko Kp=>?_;go_simp;(try go_bits);refine Kp _ _ ?_;clear Kp Ko;refine Kn.Z.s .o (.indexAddr (.t rfl) (.t rfl)) fun Ko Kp=>?_;go_simp;(try go_bits);refine Kp _ _ ?_;clear Kp Ko;refine Kn.Z.su .o (.store (.t rfl) (.t rfl)) fun Ko Kp=>?_;refine Kn.satU_run hst ?_;refine Kp _ ?_;clear Kp Ko;intro fa fh;refine wpList_nil ?_;refine Kn.block_normal ?_;refine hK8 _ _ ?_;clear hK8 K8
    revert fa
    refine Kn.Z.t (.c 16 rfl (.c 15 rfl (.c 14 rfl (.c 6 rfl (.c 0 rfl .n))))) ?_;clear hst c0;refine Kn.Z.r ?_;refine Kn.Z.s .o (.bin (.t rfl) .c) fun Ko Kp=>?_;go_simp;(try go_bits);refine Kp _ _ ?_;clear Kp Ko;refine Kn.Z.u (.m (.t rfl) .n) ?_;intro fa fh;refine wpList_nil ?_;replace fh := fh.cut (.c 16 rfl (.c 15 rfl (.c 14 rfl (.c 6 rfl (.c 0 rfl .n)))));exact hKl5 (m5 - 1) _ _ (by omega) ⟨k + 1, fh.cut (.u 16 rfl (by go_num) (.c 15 rfl (.c 14 rfl (.c 6 rfl (.c 0 rfl .n))))), by omega, by omega, HF2, HB2⟩
  obtain rfl : k = ts.length := by omega
  revert fa
  refine Kn.Z.f fun K6 hK6=>?_;refine Kn.Z.s .o (.bin (.t rfl) (.t rfl)) fun Ko Kp=>?_;go_simp;(try go_bits);refine Kp _ _ ?_;clear Kp Ko;refine Kn.Z.e hK6 ?_;clear hK6 K6;refine Kn.Z.q fun K7 hK7=>?_;refine Kn.Z.no (.t rfl) ?_;refine Kn.Z.t (.c 16 rfl (.c 15 rfl (.c 14 rfl (.c 6 rfl (.c 0 rfl .n))))) ?_;intro fb fg;refine wp_exit ?_;refine Kn.then_exit ?_;clear hK7 K7;refine Kn.then_exit ?_;clear hKl5 Kl5;refine Kn.block_exit ?_;refine hK3 _ _ ?_;clear hK3 K3
  revert fb
  refine Kn.Z.f fun K8 hK8=>?_;refine Kn.Z.u (.m (.t rfl) (.a (.t rfl) (.a .c .n))) ?_;refine Kn.Z.e hK8 ?_;clear hK8 K8;intro fa fh;refine wp_ret ?_;exact Kn.ret2 fh rfl rfl rfl ⟨gt, rfl, HF.out.full (tabF_len F ts _), hgw, HB.out⟩
end Go.Proofs.YtchdlgdmomcemaaGreatDoor.Shd
end
section
namespace Go.Proofs.YtchdlgdmomcemaaGreatDoor.Shd
open Go Go.RowKit Go.Lib Oct Num Gap RowG Edg Csr
theorem shF_le {N : Nat} {ys : List (Int × Int)} (hs : Srt ys) (hg : Edg.Good (N : Int) ys) (f n : Nat) (h : f + n ≤ N) : (shF f n (rowsF ys f)).length ≤ 300000 := by
  have hN : (N : Int) ≤ 4096 := hg.hi;have h1 := rwF_max hs hg f n h;have h2 := ixF_le (f := (f : Int)) (R := rowsF ys f) n (fun j hj => by have := rwF_max hs hg f j (by omega); omega);have h3 := short_len9 f (by omega);have h4 := short_len9 n (by omega);unfold shF;simp only [List.length_append];omega
theorem gs_shF {N : Nat} {ys : List (Int × Int)} (hs : Srt ys) (hg : Edg.Good (N : Int) ys) (f n : Nat) (hn : 1 ≤ n) (h : f + n ≤ N) : gsG (bs (shF f n (rowsF ys f))) (N : Int) = .inr ((f : Int), lsR (rowsF ys f) n) := by
  have hN : (N : Int) ≤ 4096 := hg.hi;have hl := shF_le hs hg f n h;exact gs_of_shF hN hn (by omega) (fun k _ => goodT_trg hs hg _) (by rw [bs_size]; omega) (bs_data _)
def cutM (N E : Nat) : Nat := (N + E - 1) / E
theorem cutM_0 {E : Nat} (hE : 1 ≤ E) : cutM 0 E = 0 := by
  unfold cutM;exact Nat.div_eq_of_lt (by omega)
theorem cutM_cut {N E : Nat} (hE : 1 ≤ E) (hN : 1 ≤ N) : cutM N E = cutN N E := by
  unfold cutM cutN;rw [show N + E - 1 = N - 1 + E by omega, Nat.add_div_right _ (by omega)]
theorem cutM_lt {N E i : Nat} (hE : 1 ≤ E) (h : i < cutM N E) : i * E < N := by
  rcases Nat.eq_zero_or_pos N with h0 | h0
  · rw [h0, cutM_0 hE] at h; omega
  · rw [cutM_cut hE h0] at h; exact cut_lt hE h0 h
theorem cutM_end {N E : Nat} (hE : 1 ≤ E) : N ≤ cutM N E * E := by
  rcases Nat.eq_zero_or_pos N with h0 | h0
  · omega
  · rw [cutM_cut hE h0]; exact cut_end hE h0
theorem cutM_le {N E : Nat} (hE : 1 ≤ E) : cutM N E ≤ N := by
  rcases Nat.eq_zero_or_pos N with h0 | h0
  · rw [h0, cutM_0 hE]; omega
  · rw [cutM_cut hE h0];unfold cutN;have := Nat.div_le_self (N - 1) E;omega
def fP (E i : Nat) : Int := ((i * E : Nat) : Int)
def lP (ys : List (Int × Int)) (N E i : Nat) : List (List Int) := lsR (rowsF ys (i * E)) (min E (N - i * E))
section
variable {N E : Nat} {ys : List (Int × Int)}
theorem gs_part (hs : Srt ys) (hg : Edg.Good (N : Int) ys) (hE : 1 ≤ E) {i : Nat} (h : i < cutM N E) : (partF ys N E i).size ≤ maxLen ∧ gsG (partF ys N E i) (N : Int) = .inr (fP E i, lP ys N E i) := by
  have h1 := cutM_lt hE h;have h2 : 1 ≤ min E (N - i * E) := by omega
  have h3 : i * E + min E (N - i * E) ≤ N := by omega
  exact ⟨by unfold partF; rw [bs_size]; have := shF_le hs hg _ _ h3; unfold maxLen; omega, gs_shF hs hg _ _ h2 h3⟩
theorem nx_part (hE : 1 ≤ E) : ∀ k, k ≤ cutM N E → nxJ (lP ys N E) k = min (k * E) N
  | 0, _ => by simp [nxJ]
  | k + 1, h => by
    have h1 := cutM_lt hE (show k < cutM N E by omega);rw [nxJ, nx_part hE k (by omega), lP, lsR_len, Nat.succ_mul];omega
theorem ed_part (hE : 1 ≤ E) : ∀ k, k ≤ cutM N E → edJ (fP E) (lP ys N E) k = edF ys (min (k * E) N)
  | 0, _ => by simp [edJ, edF]
  | k + 1, h => by
    have h1 := cutM_lt hE (show k < cutM N E by omega);rw [edJ, ed_part hE k (by omega), show min (k * E) N = k * E by omega];show edF ys (k * E) ++ edR ((k * E : Nat) : Int) (lsR (rowsF ys (k * E)) (min E (N - k * E))) = _;rw [edF_more, Nat.succ_mul]
    congr 1
    omega
theorem nx_all (hE : 1 ≤ E) : nxJ (lP ys N E) (cutM N E) = N := by
  rw [nx_part hE _ (Nat.le_refl _)];have := cutM_end (N := N) hE;omega
theorem ed_all (hs : Srt ys) (hg : Edg.Good (N : Int) ys) (hE : 1 ≤ E) : edJ (fP E) (lP ys N E) (cutM N E) = ys := by
  rw [ed_part hE _ (Nat.le_refl _)];have := cutM_end (N := N) hE;rw [show min (cutM N E * E) N = N by omega];exact edF_all hs hg
end
section
variable {N E a : Nat} {ys : List (Int × Int)}
end
section
variable {N E : Nat} {ys : List (Int × Int)}
theorem split_m (w : World) (B g : Nat) (hR : Rep w B g N ys) (hE : 1 ≤ E) (hE2 : E ≤ 9223372036854775807) (hl : cutM N E ≤ 64) :
    Calls Tryz.prog 42 #[.pointer (some ⟨g, 0, none⟩), .int .i64 (E : Int)] w fun e w' => ∃ A, e = .returned (.tuple #[.slice A (cutM N E) (cutM N E), .nilIface]) ∧ RIn txR w' A (partsF ys N E (cutM N E)) ∧ Below w.heap.size w w' ∧ (cutM N E ≠ 0 → ∃ gs, A = some ⟨gs, 0, none⟩) := by
  rcases Nat.eq_zero_or_pos N with h0 | h0
  · refine (split_zero E w B g N ys hR hE h0).mono fun e w' ⟨he, hw⟩ => ?_;subst hw;have e0 : cutM N E = 0 := by rw [h0, cutM_0 hE]
    rw [e0];exact ⟨none, he, fun i a hi => by simp [partsF] at hi, Below.refl _ _, fun h => absurd rfl h⟩
  · rw [cutM_cut hE h0] at hl ⊢;refine (split_yes E w B g N ys hR hE hE2 h0 hl).mono fun e w' ⟨gs, he, hH, hgs, hb⟩ => ?_;exact ⟨some ⟨gs, 0, none⟩, he, hH.rin, hb, fun _ => ⟨gs, rfl⟩⟩
theorem join_all (A : Option Addr) (ca : Nat) (w : World) (hs : Srt ys) (hg : Edg.Good (N : Int) ys) (hE : 1 ≤ E) (hA : RIn txR w A (partsF ys N E (cutM N E))) :
    Calls Tryz.prog 67 #[.int .i64 (N : Int), .slice A (cutM N E) ca] w fun e w' => ∃ g, e = .returned (.tuple #[.pointer (some ⟨g, 0, none⟩), .nilIface]) ∧ Rep w' w.heap.size g N ys ∧ Below w.heap.size w w' := by
  have hN : (N : Int) ≤ 4096 := hg.hi;have hc := cutM_le (N := N) hE
  have h := join_yes A ca N (cutM N E) (partsF ys N E (cutM N E)) (fP E) (lP ys N E) w (by omega) (by rw [partsF_len]; omega) hA (fun k s _ hk => by
      have hk2 : k < cutM N E := by
        have := (List.getElem?_eq_some_iff.1 hk).1
        rwa [partsF_len] at this
      rw [partsF_at _ _ _ _ _ hk2] at hk;injection hk with hk
      subst hk;exact gs_part hs hg hE hk2) (fun j hj => by
      rw [nx_part hE j (by omega)];have := cutM_lt hE hj;unfold fP
      rw [show min (j * E) N = j * E by omega]) (by rw [ed_all hs hg hE]; exact hg.len) (partsF_len ys N E _).symm (nx_all hE) (by rw [ed_all hs hg hE]; exact hg)
  rw [partsF_len] at h;refine h.mono fun e w' ⟨g, zs, he, hn, hr, hb⟩ => ?_;rw [ed_all hs hg hE] at hn;obtain rfl : zs = ys := hn.unique ⟨hs, fun e => Iff.rfl⟩;exact ⟨g, he, hr, hb⟩
end
end Go.Proofs.YtchdlgdmomcemaaGreatDoor.Shd
end
section
namespace Go.Proofs.YtchdlgdmomcemaaGreatDoor.Blk
def cntK (n : Nat) : Nat := (n + 63) / 64
def szK (n : Nat) (i : Int) : Nat := if 0 ≤ i ∧ i < (cntK n : Int) then min 64 (n - 64 * i.toNat) else 0
def ndA (f m : Nat) : Int := if m = 0 then 0 else ((f / 64 : Nat) : Int)
def ndB (f m : Nat) : Int := if m = 0 then -1 else (((f + m - 1) / 64 : Nat) : Int)
theorem szK_at {n k : Nat} (h : k < cntK n) : szK n (k : Int) = min 64 (n - 64 * k) := by
  unfold szK;rw [if_pos ⟨by omega, by omega⟩, Int.toNat_natCast]
theorem szK_step {n k : Nat} (h : k < cntK n) : min n (64 * k) + szK n (k : Int) = min n (64 * (k + 1)) := by
  rw [szK_at h];unfold cntK at h;omega
def catK (l : List ByteArray) : ByteArray := l.foldl (· ++ ·) ⟨#[]⟩
theorem catK_take {l : List ByteArray} {k : Nat} {s : ByteArray} (h : l[k]? = some s) : catK (l.take k) ++ s = catK (l.take (k + 1)) := by
  rw [List.take_add_one, h];simp [catK, List.foldl_append]
def blkK (s : ByteArray) (k : Nat) : ByteArray := s.extract (min s.size (64 * k)) (min s.size (64 * (k + 1)))
def cutK (s : ByteArray) : List ByteArray := (List.range (cntK s.size)).map (blkK s)
theorem cutK_len (s : ByteArray) : (cutK s).length = cntK s.size := by simp [cutK]
theorem cutK_at {s : ByteArray} {k : Nat} (h : k < cntK s.size) : (cutK s)[k]? = some (blkK s k) := by
  unfold cutK;rw [List.getElem?_map, List.getElem?_range h]
  rfl
theorem blkK_size {s : ByteArray} {k : Nat} (h : k < cntK s.size) : (blkK s k).size = szK s.size (k : Int) := by
  have := szK_step h;unfold blkK;rw [ByteArray.size_extract];omega
end Go.Proofs.YtchdlgdmomcemaaGreatDoor.Blk
end
section
namespace Go.Proofs.YtchdlgdmomcemaaGreatDoor.Man
open Go Go.RowKit Go.Lib Oct Num Gap Csr Shd
theorem shortF_len1 : ∀ (f n : Nat), (shortF f n).length ≤ f + 1
  | 0, n => by simp [shortF]
  | f + 1, n => by
    rw [shortF]
    split
    · simp
    · rw [List.length_cons];have := shortF_len1 f (n / 128);omega
theorem short_13 (n : Nat) : (short n).length ≤ 13 := shortF_len1 12 n
theorem putF_13 (v : Int) (l : List Int) : ∀ k, (putF v l k).length ≤ 13 + 13 * k
  | 0 => by rw [putF]; exact short_13 _
  | 1 => by
    rw [putF, List.length_append];have h1 := short_13 l.length;have h2 := short_13 (turnOf (l.getD 0 0 - v)).toNat;omega
  | k + 2 => by
    rw [putF, List.length_append];have h1 := putF_13 v l (k + 1);have h2 := short_13 (l.getD (k + 1) 0 - l.getD k 0 - 1).toNat;omega
theorem rwF_13 (ys : List (Int × Int)) (f : Nat) : ∀ k, (rwF (f : Int) (rowsF ys f) k).length + 13 * bgn ys (f : Int) ≤ 13 * k + 13 * bgn ys ((f : Int) + (k : Int))
  | 0 => by rw [rwF]; simp
  | k + 1 => by
    rw [rwF, List.length_append];have h1 := rwF_13 ys f k;have h2 := putF_13 ((f : Int) + (k : Int)) (rowsF ys f k) (rowsF ys f k).length;have h3 := bgn_next ys ((f : Int) + (k : Int));have e : ((f : Int) + ((k + 1 : Nat) : Int)) = (f : Int) + (k : Int) + 1 := by omega
    rw [e, h3];have h4 : (rowsF ys f k).length = (trg ys ((f : Int) + (k : Int))).length := rfl;omega
theorem ixF_13 (f : Int) (R : Nat → List Int) : ∀ k, (ixF f R k).length ≤ 13 * k
  | 0 => by rw [ixF]; simp
  | k + 1 => by
    rw [ixF, List.length_append];have h1 := ixF_13 f R k
    split
    · have := short_13 (rwF f R k).length;omega
    · simp;omega
theorem part_13 (ys : List (Int × Int)) (N E i : Nat) : (partF ys N E i).size + 13 * bgn ys ((i * E : Nat) : Int) ≤ 26 + 26 * min E (N - i * E) + 13 * bgn ys ((i * E + min E (N - i * E) : Nat) : Int) := by
  have e : (partF ys N E i).size = (shF (i * E) (min E (N - i * E)) (rowsF ys (i * E))).length := by
    unfold partF;simp [bs, ByteArray.size]
  rw [e];unfold shF;simp only [List.length_append];have h1 := short_13 (i * E);have h2 := short_13 (min E (N - i * E));have h3 := ixF_13 ((i * E : Nat) : Int) (rowsF ys (i * E)) (min E (N - i * E));have h4 := rwF_13 ys (i * E) (min E (N - i * E));have e2 : ((i * E + min E (N - i * E) : Nat) : Int) = ((i * E : Nat) : Int) + ((min E (N - i * E) : Nat) : Int) := by omega
  rw [e2];omega
theorem parts_13 (ys : List (Int × Int)) (N E : Nat) : ∀ k, (Blk.catK (partsF ys N E k)).size ≤ 26 * k + 26 * min N (k * E) + 13 * bgn ys ((min N (k * E) : Nat) : Int)
  | 0 => by
    have : Blk.catK (partsF ys N E 0) = ⟨#[]⟩ := rfl;rw [this];show 0 ≤ _;omega
  | k + 1 => by
    have h1 := parts_13 ys N E k;have h2 := part_13 ys N E k;rw [partsF_succ];have e : Blk.catK (partsF ys N E k ++ [partF ys N E k]) = Blk.catK (partsF ys N E k) ++ partF ys N E k := by simp [Blk.catK, List.foldl_append]
    rw [e, ByteArray.size_append];have e3 : (k + 1) * E = k * E + E := Nat.succ_mul k E;rw [e3];rcases Nat.lt_or_ge (k * E) N with h3 | h3
    · have e4 : min N (k * E) = k * E := by omega
      have e5 : min N (k * E + E) = k * E + min E (N - k * E) := by omega
      rw [e4] at h1;rw [e5];omega
    · have e4 : min N (k * E) = N := by omega
      have e5 : min N (k * E + E) = N := by omega
      have e6 : min E (N - k * E) = 0 := by omega
      rw [e4] at h1;rw [e5];rw [e6] at h2;simp only [Nat.add_zero, Nat.mul_zero] at h2;omega
theorem parts_small {ys : List (Int × Int)} {N E k : Nat} (hN : N ≤ 300) (hy : ys.length ≤ 200) (hk : k ≤ 64) : (Blk.catK (partsF ys N E k)).size ≤ 12064 := by
  have h1 := parts_13 ys N E k;have h2 := bgn_le ys ((min N (k * E) : Nat) : Int);omega
end Go.Proofs.YtchdlgdmomcemaaGreatDoor.Man
end
section
namespace Go.Proofs.YtchdlgdmomcemaaGreatDoor.Blk
theorem empty_app (x : ByteArray) : (⟨#[]⟩ : ByteArray) ++ x = x := by
  apply ByteArray.ext
  rw [ByteArray.data_append];exact Array.empty_append
theorem app_empty (x : ByteArray) : x ++ (⟨#[]⟩ : ByteArray) = x := by
  apply ByteArray.ext
  rw [ByteArray.data_append];exact Array.append_empty
theorem foldl_app (l : List ByteArray) : ∀ x : ByteArray, l.foldl (· ++ ·) x = x ++ l.foldl (· ++ ·) ⟨#[]⟩ := by
  induction l with
  | nil => intro x; exact (app_empty x).symm
  | cons a l ih =>
    intro x;rw [List.foldl_cons, List.foldl_cons, ih (x ++ a), ih (⟨#[]⟩ ++ a), empty_app]
    apply ByteArray.ext
    simp only [ByteArray.data_append, Array.append_assoc]
theorem catK_app (a b : List ByteArray) : catK (a ++ b) = catK a ++ catK b := by
  unfold catK;rw [List.foldl_append, foldl_app b]
theorem catK_one (a : ByteArray) : catK [a] = a := empty_app a
theorem catK_piece {l : List ByteArray} {i : Nat} {s : ByteArray} (h : l[i]? = some s) : (catK l).extract (catK (l.take i)).size ((catK (l.take i)).size + s.size) = s := by
  have hlt := (List.getElem?_eq_some_iff.1 h).1
  have e : l = l.take i ++ ([s] ++ l.drop (i + 1)) := by
    have h2 := (List.getElem?_eq_some_iff.1 h).2;rw [← h2];simp
  have e2 : catK l = catK (l.take i) ++ (s ++ catK (l.drop (i + 1))) := by
    conv => lhs; rw [e]
    rw [catK_app, catK_app, catK_one]
  rw [e2];generalize catK (l.take i) = x;generalize catK (l.drop (i + 1)) = z
  apply ByteArray.ext
  rw [ByteArray.data_extract, ByteArray.data_append, ByteArray.data_append]
  apply Array.toList_inj.1
  have hx : x.size = x.data.toList.length := by rw [Array.length_toList]; rfl
  have hs : s.size = s.data.toList.length := by rw [Array.length_toList]; rfl
  rw [Array.toList_extract, Array.toList_append, Array.toList_append, hx, hs];simp [List.extract_eq_take_drop]
theorem catK_pre_le {l : List ByteArray} {i : Nat} {s : ByteArray} (h : l[i]? = some s) : (catK (l.take i)).size + s.size ≤ (catK l).size := by
  have h1 := catK_take h;have h2 : (catK (l.take (i + 1))).size = (catK (l.take i)).size + s.size := by rw [← h1, ByteArray.size_append]
  have e : catK l = catK (l.take (i + 1)) ++ catK (l.drop (i + 1)) := by rw [← catK_app, List.take_append_drop]
  rw [e, ByteArray.size_append];omega
end Go.Proofs.YtchdlgdmomcemaaGreatDoor.Blk
end
section
namespace Go.Proofs.YtchdlgdmomcemaaGreatDoor.Sha
open Go.RowKit Go.Lib
theorem bc_snoc (l : List UInt8) (b : UInt8) : Go.Lib.byteCells (l ++ [b]) = Go.Lib.byteCells l ++ [Value.int .u8 b.toNat] := by simp [Go.Lib.byteCells]
theorem byteOf_nat (n : Nat) : (byteOf n).toNat = n % 256 := by
  unfold byteOf;rw [UInt8.toNat_ofNat']; omega
theorem made_list (v : Value) (n : Nat) : (madeCells #[v] n).toList = List.replicate n v := by
  apply List.ext_getElem
  · simp [madeCells]
  · intro i h1 h2;simp [madeCells, Nat.mod_one]
theorem conv_own {w : World} {base : Nat} {v : Value} {l : List UInt8} (h : w.ownsRow base 5 1 v l.length (Go.Lib.byteCells l)) :
    (convert 136 9 v).run Tryz.prog w = .ok (.string ⟨l.toArray⟩) w := by
  rcases h.2 with ⟨rfl, h0⟩ | ⟨g, cap, cur, rfl, -, -, -, -, -, -⟩
  · have hl : l = [] := List.eq_nil_of_length_eq_zero h0;subst hl;exact run_convert_nil_bytes w _ _ 5 0 Tryz.underlying136 Tryz.underlying5 Tryz.underlying9
  · exact run_convert_bytes_back (P := Tryz.prog) w _ _ 5 ⟨g, 0, none⟩ cap l Tryz.underlying136 Tryz.underlying5 Tryz.underlying9 (fun j hj => h.cells (g := g) rfl j _ (by simp [Go.Lib.byteCells, hj]))
theorem cells_new (w : World) (l : List Value) (t : TypeId) : ∀ j u, l[j]? = some u → (w.alloc (.cells l.toArray t)).cell? ((⟨w.heap.size, 0, none⟩ : Addr).add j) = some u := by
  intro j u h;have hadd : (⟨w.heap.size, 0, none⟩ : Addr).add j = ⟨w.heap.size, j, none⟩ := by unfold Addr.add; split <;> simp_all
  rw [hadd, cell_of_row _ _ _ _ _ _ (heap_alloc_new w _)]
  simpa using h
def endA (z : Nat) : List UInt8 := 128 :: List.replicate z 0
theorem be8_len (x k : Nat) : (be8 x k).length = k := by
  induction k with
  | zero => rfl
  | succ k ih => simp [be8, ih]
theorem ending_len (n : Nat) : (ending n).length = 1 + (119 - n % 64) % 64 + 8 := by simp [ending, be8_len]; omega
set_option maxRecDepth 100000 in
set_option maxHeartbeats 400000 in
theorem ending_any (n : Nat) (w : World) (hn : (n : Int) ≤ 70368744177664) :
    Calls Tryz.prog 144 #[.int .i64 (n : Int)] w fun e w' => e = .returned (.string ⟨(ending n).toArray⟩) ∧ Below w.heap.size w w' := by
  obtain ⟨i0, hi, hz0, hz1, hz2⟩ := info_parts info8;obtain ⟨z, hz⟩ : ∃ z, (119 - n % 64) % 64 = z := ⟨_, rfl⟩;have hz64 : z < 64 := by omega
  have HZ := Lib.hid hz;have hzi : (119 - (n : Int) % 64) % 64 = (z : Int) := by omega
  have hzi2 : (119 - (n : Int)) % 64 = (z : Int) := by omega
  have hmk : (Instr.makeSlice 136 (.int .i64 (1 + (z : Int))) (.int .i64 (1 + (z : Int) + 8))).run Tryz.prog w = .ok (.slice (some ⟨w.heap.size, 0, none⟩) (1 + z) (1 + z + 8)) (w.alloc (.cells (madeCells #[.int .u8 0] (1 + z + 8)) 5)) := by
    have h := run_make (P := Tryz.prog) w 136 5 i0 (.int .u8 0) Tryz.underlying136 hi hz0 .i64 .i64 (1 + (z : Int)) (1 + (z : Int) + 8) (by omega) (by omega) (by rw [hz2]; omega) (by omega);rw [hz1, show (1 + (z : Int)).toNat = 1 + z by omega, show (1 + (z : Int) + 8).toNat = 1 + z + 8 by omega, Nat.mul_one] at h;exact h
  have hm0 : (madeCells #[.int .u8 0] (1 + z + 8))[0]? = some (.int .u8 0) := by
    have h := made_list (.int .u8 0) (1 + z + 8);rw [← Array.getElem?_toList, h]; simp
  have HO : Hid ((w.alloc (.cells ((madeCells #[.int .u8 0] (1 + z + 8)).setIfInBounds 0 (.int .u8 128)) 5)).ownsRow w.heap.size 5 1 (.slice (some ⟨w.heap.size, 0, none⟩) (1 + z) (1 + z + 8)) (endA z).length (Go.Lib.byteCells (endA z))) := Lib.hid (by
    have el : (endA z).length = 1 + z := by simp [endA]; omega
    rw [el];refine ⟨by simp [Go.Lib.byteCells, endA]; omega, .inr ⟨w.heap.size, 1 + z + 8, _, rfl, Nat.le_refl _, heap_alloc_new _ _, by omega, by unfold maxLen; omega, by simp [size_madeCells], ?_⟩⟩;rw [Array.toList_setIfInBounds, made_list, show 1 + z + 8 = (z + 8) + 1 by omega, List.replicate_succ, List.set_cons_zero, Nat.mul_one, show 1 + z = z + 1 by omega, List.take_succ_cons, List.take_replicate]
    simp [Go.Lib.byteCells, endA])
  obtain ⟨x, hx⟩ : ∃ x, n * 8 = x := ⟨_, rfl⟩;have hxi : (n : Int) * 8 = (x : Int) := by omega
  have HX := Lib.hid hx;have hxb : (x : Int) ≤ 562949953421312 := by omega
  clear hz hx
  go_enter Tryz.func144, Tryz.ntmps144
  go_wp2
  clear hzi hzi2 hxi;generalize (119 - (n : Int) % 64) % 64 = q0
  go_loopw [4, 6] (fun v i wr => ∃ (k : Nat) (s : Int) (l : List UInt8), k ≤ 8 ∧ i = .int .i64 s ∧ Hid (s = 56 - 8 * (k : Int)) ∧ Hid (l = endA z ++ be8 x k) ∧ Hid (wr.ownsRow w.heap.size 5 1 v l.length (Go.Lib.byteCells l)) ∧ Hid (Below w.heap.size w wr)) (fun _ i _ => (intOf i + 8).toNat)
  case atStart => exact ⟨0, 56, endA z, by omega, rfl, Lib.hid rfl, Lib.hid (by simp [be8]), HO, Lib.hid ((Below.refl _ _).alloc (Nat.le_refl _) _)⟩
  case round =>
    clear HO hm0 hmk;obtain ⟨k, s, l, hk, rfl, HS, HL, HO, HB⟩ := hrel;have hlen : l.length ≤ 72 := by rw [HL.out]; simp [endA, be8_len]; omega
    by_cases hlt : k < 8
    · obtain ⟨sh, rfl⟩ := Int.eq_ofNat_of_zero_le (show 0 ≤ s by have := HS.out; omega);have hsh : sh ≤ 56 := by have := HS.out; omega
      obtain ⟨y, hy⟩ : ∃ y : Nat, x / 2 ^ sh % 256 = y := ⟨_, rfl⟩;have hyi : (x : Int) / 2 ^ sh % 256 = (y : Int) := by rw [← hy, Int.natCast_emod, Int.natCast_ediv, Int.natCast_pow]; rfl
      have HY := Lib.hid (show (byteOf (x / 2 ^ (56 - 8 * k))).toNat = y by rw [byteOf_nat, ← hy, show 56 - 8 * k = sh by have := HS.out; omega]);clear hy;have hs1 := HB.out.size
      go_wp2_with (at_builtin; refine wpList_append_own _ rfl _ _ 136 rfl w.heap.size 5 i0 (.int .u8 0) 1 1 Tryz.underlying136 hi hz0 hz1 hz2 rfl (by decide) _ _ _ rfl (HO.out.alloc _) ⟨wr.heap.size, 0, none⟩ 1 1 [Value.int .u8 (y : Int)] rfl rfl ?c1 ?c2 ?c3 ?c4 ?c5 ?_)
      case c1 => exact cell_one_new _ _ _
      case c2 => intro u hu; simp at hu; subst hu; rfl
      case c3 => unfold maxLen; omega
      case c4 => omega
      case c5 => simp; omega
      intro v' w1 hown' hgrow _;have HB2 := Lib.hid ((HB.out.alloc hs1 _).grown hgrow (by simp; omega) (fun k hk => (HO.out.lt k hk).1))
      have HO2 : Hid (w1.ownsRow w.heap.size 5 1 v' (l ++ [byteOf (x / 2 ^ (56 - 8 * k))]).length (Go.Lib.byteCells (l ++ [byteOf (x / 2 ^ (56 - 8 * k))]))) := Lib.hid (by
        rw [bc_snoc, HY.out]; simpa using hown')
      clear hown' hgrow
      go_wp2
      go_roundw
      case rel => exact ⟨k + 1, _, _, by omega, rfl, Lib.hid (by rw [HS.out]; omega), Lib.hid (by rw [HL.out, be8, List.append_assoc]), HO2, HB2⟩
      case measure => simp [intOf]; omega
    · have hk8 : k = 8 := by omega
      subst hk8;have hs : s = -8 := by have := HS.out; omega
      subst hs;have hcv := conv_own HO.out
      go_wp2
      go_ret
      refine ⟨?_, HB.out⟩;rw [HL.out, ← HX.out, ← HZ.out];unfold ending endA;rw [Nat.mul_comm n 8]; rfl
def CAt (w : World) (b : Nat) (c : List Nat) : Prop := ∀ i, i < 8 → w.cell? ⟨b, i, none⟩ = some (u32V (wd c i))
theorem outB_len (c : List Nat) (k : Nat) : (outB c k).length = 4 * k := by
  induction k with
  | zero => rfl
  | succ k ih => simp [outB, ih, w4]; omega
set_option maxRecDepth 100000 in
set_option maxHeartbeats 400000 in
theorem digest_any (b : Nat) (c : List Nat) (w : World) (hb : b < w.heap.size) (hc : CAt w b c) (hlt : ∀ i, wd c i < 4294967296) :
    Calls Tryz.prog 145 #[.pointer (some ⟨b, 0, none⟩)] w fun e w' => e = .returned (.string ⟨(outB c 8).toArray⟩) ∧ Below w.heap.size w w' := by
  obtain ⟨i0, hi, hz0, hz1, hz2⟩ := info_parts info8;have HC := Lib.hid hc;have HLT := Lib.hid hlt;obtain ⟨w0, hmk, hown0, hgr0⟩ := run_make_own (P := Tryz.prog) w w.heap.size 136 5 i0 (.int .u8 0) 1 Tryz.underlying136 hi hz0 hz1 .i64 .i64 32 (by rw [hz2]; omega) (by unfold maxLen; omega) (Nat.le_refl _);rw [show ((32 : Nat) : Int) = 32 by rfl] at hmk;have HO := Lib.hid hown0;have HB0 := Lib.hid ((Below.refl w.heap.size w).grown hgr0 (Nat.le_refl _) (fun k hk => by cases hk));clear hc hlt hown0 hgr0
  go_enter Tryz.func145, Tryz.ntmps145
  go_wp2
  go_loopw [3, 8] (fun v i wr => ∃ (k : Nat) (l : List UInt8), k ≤ 8 ∧ i = .int .i64 k ∧ Hid (l = outB c k) ∧ Hid (wr.ownsRow w.heap.size 5 1 v l.length (Go.Lib.byteCells l)) ∧ Hid (Below w.heap.size w wr)) (fun _ i _ => 8 - (intOf i).toNat)
  case atStart => exact ⟨0, [], by omega, rfl, Lib.hid rfl, HO, HB0⟩
  case round =>
    clear HO hmk HB0;obtain ⟨k, l, hk, rfl, HL, HO, HB⟩ := hrel;have hlen : l.length ≤ 32 := by rw [HL.out, outB_len]; omega
    by_cases hlt : k < 8
    · have hcell : wr.cell? ⟨b, k, none⟩ = some (.int .u32 (wd c k : Nat)) := (HB.out.cell (p := ⟨b, k, none⟩) hb).trans (HC.out k hlt);obtain ⟨x, hx⟩ : ∃ x, wd c k = x := ⟨_, rfl⟩;have hx32 : x < 4294967296 := by rw [← hx]; exact HLT.out k
      rw [hx] at hcell;have HX := Lib.hid hx;clear hx;obtain ⟨y1, hy1⟩ : ∃ y : Nat, (x : Int) / 16777216 = (y : Int) := ⟨x / 16777216, by omega⟩;obtain ⟨y2, hy2⟩ : ∃ y : Nat, (x : Int) / 65536 % 256 = (y : Int) := ⟨x / 65536 % 256, by omega⟩;obtain ⟨y3, hy3⟩ : ∃ y : Nat, (x : Int) / 256 % 256 = (y : Int) := ⟨x / 256 % 256, by omega⟩;obtain ⟨y4, hy4⟩ : ∃ y : Nat, (x : Int) % 256 = (y : Int) := ⟨x % 256, by omega⟩
      have HY : Hid (Go.Lib.byteCells (w4 x) = [.int .u8 (y1 : Int), .int .u8 (y2 : Int), .int .u8 (y3 : Int), .int .u8 (y4 : Int)]) := Lib.hid (by
        simp only [w4, Go.Lib.byteCells, List.map_cons, List.map_nil, byteOf_nat]
        rw [show ((x / 16777216 % 256 : Nat) : Int) = (y1 : Int) by omega, show ((x / 65536 % 256 : Nat) : Int) = (y2 : Int) by omega, show ((x / 256 % 256 : Nat) : Int) = (y3 : Int) by omega, show ((x % 256 : Nat) : Int) = (y4 : Int) by omega])
      have hs1 := HB.out.size
      go_wp2_with (at_builtin; refine wpList_append_own _ rfl _ _ 136 rfl w.heap.size 5 i0 (.int .u8 0) 1 1 Tryz.underlying136 hi hz0 hz1 hz2 rfl (by decide) _ _ _ rfl (HO.out.alloc _) ⟨wr.heap.size, 0, none⟩ 4 4 [.int .u8 (y1 : Int), .int .u8 (y2 : Int), .int .u8 (y3 : Int), .int .u8 (y4 : Int)] rfl rfl ?c1 ?c2 ?c3 ?c4 ?c5 ?_)
      case c1 => exact cells_new _ _ _
      case c2 => intro u hu; simp at hu; rcases hu with rfl | rfl | rfl | rfl <;> rfl
      case c3 => unfold maxLen; omega
      case c4 => omega
      case c5 => simp; omega
      intro v' w1 hown' hgrow _;have HB2 := Lib.hid ((HB.out.alloc hs1 _).grown hgrow (by simp; omega) (fun k hk => (HO.out.lt k hk).1))
      have HO2 : Hid (w1.ownsRow w.heap.size 5 1 v' (l ++ w4 x).length (Go.Lib.byteCells (l ++ w4 x))) := Lib.hid (by
        have e1 : (l ++ w4 x).length = l.length + 4 := by simp [w4]
        have e2 : Go.Lib.byteCells (l ++ w4 x) = Go.Lib.byteCells l ++ Go.Lib.byteCells (w4 x) := by simp [Go.Lib.byteCells]
        rw [e1, e2, HY.out]; exact hown')
      clear hown' hgrow hy1 hy2 hy3 hy4
      go_wp2
      go_roundw
      case rel => exact ⟨k + 1, _, by omega, by go_num, Lib.hid (by rw [HL.out, outB, HX.out]), HO2, HB2⟩
      case measure => simp [intOf]; omega
    · have hk8 : k = 8 := by omega
      subst hk8;have hcv := conv_own HO.out
      go_wp2
      go_ret
      exact ⟨by rw [HL.out]; rfl, HB.out⟩
end Go.Proofs.YtchdlgdmomcemaaGreatDoor.Sha
end
section
namespace Go.Proofs.YtchdlgdmomcemaaGreatDoor.Sha
open Go.RowKit Go.Lib
def zst : Array Value := stV (List.replicate 8 0) (List.replicate 64 0) 0
theorem zst_new {w : World} {b : Nat} {t : TypeId} (h : Row w b t zst) : StW w b t [] := ⟨List.replicate 8 0, List.replicate 64 0, by simp, by simp, .inl rfl, h⟩
theorem stV_len (c : List Nat) (r : List UInt8) (n : Nat) (hc : c.length = 8) (hr : r.length = 64) : (stV c r n).size = 73 := by simp [stV, hc, hr]
theorem zst_len : zst.size = 73 := by simp [zst, stV]
theorem stV_one (c : List Nat) (r : List UInt8) (n : Nat) : (stV c r n).all (·.oneCell') = true := by simp [stV, u32V, bV, Value.oneCell']
theorem info44 : (Tryz.prog.info? 211).map (·.size) = some 73 := by kernel_rfl
theorem cat_one (s : ByteArray) : cat (fun _ => s) 1 = s.data.toList := by simp [cat]
theorem sarg_one (w : World) (B : Nat) (s : ByteArray) (t : TypeId) (hB : B < w.heap.size) : SArg (w.alloc (.cells #[.string s] t)) B (some ⟨w.heap.size, 0, none⟩) 1 (fun _ => s) := by
  intro k hk;obtain rfl : k = 0 := by omega
  exact ⟨w.heap.size, 0, rfl, by simp, by omega, by rw [cell_of_row _ _ _ _ _ _ (heap_alloc_new w _)]; rfl⟩
theorem dig_of (l : List UInt8) (c : List Nat) (r : List UInt8) (h : l ++ ending l.length = [] ∨ Inv (l ++ ending l.length) c r) : outB c 8 = dig l ∧ ∀ i, wd c i < 4294967296 := by
  have hi := h.resolve_left (by simp [ending]);unfold dig;rw [← hi.hc];exact ⟨rfl, by rw [hi.hc]; exact blocks_lt _ _⟩
theorem info44z : (Tryz.prog.info? 211).map (·.zero) = some (some (.agg zst)) := by kernel_rfl
theorem zero44 (v : World) : (zeroValue 211).run Tryz.prog v = .ok (.agg zst) v := by
  have h := info44z
  cases hq : Tryz.prog.info? 211 with
  | none => rw [hq] at h; cases h
  | some i =>
    rw [hq] at h;have hz : i.zero = some (.agg zst) := by simpa using h
    simp [zeroValue, typeInfo, hq, hz]
set_option maxRecDepth 100000 in
set_option maxHeartbeats 400000 in
theorem sum_st (b : Nat) (t : TypeId) (l : List UInt8) (w : World) (hT : Tabs w) (hst : StW w b t l) (hl : (l.length : Int) ≤ 35184372088832) :
    Calls Tryz.prog 128 #[.pointer (some ⟨b, 0, none⟩)] w fun e w' => e = .returned (.string ⟨(dig l).toArray⟩) ∧ Below w.heap.size w w' := by
  have HT := Lib.hid hT;obtain ⟨c, r, hc, hr, hi, hrow⟩ := hst;have HI := Lib.hid hi;have HC := Lib.hid hc;have HRL := Lib.hid hr;have HR := Lib.hid hrow;have HS : Hid ((Tryz.prog.info? 211).map (·.size) = some (stV c r l.length).size) := Lib.hid (by rw [info44, stV_len _ _ _ hc hr]);have h2 := hT.size;clear hT hc hr hrow hi;have hz44 := zero44
  go_enter Tryz.func128, Tryz.ntmps128
  go_wp2_with (first | (refine wpList_load_row rfl 211 (.tmp 7) rfl b rfl t (stV c r l.length) (0, 0) _ HR.out Tryz.underlying211 rfl HS.out ?_) | (refine wpList_store_rowA rfl 211 (.tmp 3) (.tmp 8) rfl w.heap.size (stV c r l.length) rfl rfl 211 zst (heap_alloc_new _ _) HS.out (by rw [stV_len _ _ _ HC.out HRL.out, zst_len]) (stV_one _ _ _) ?_; intro w2 hw2 ho2; refine Hid.out ?_))
  refine Lib.hid ?_;have HW2 := Lib.hid hw2;have hb2 : Below w.heap.size w w2 := ((Below.refl w.heap.size w).alloc (Nat.le_refl _) _).trans (ho2.below (Nat.le_refl _) (by simp));have HB2 := Lib.hid hb2;have hs2 : w.heap.size < w2.heap.size := hw2.lt;have hcn : w2.cell? ⟨b, 72, none⟩ = some (.int .i64 (l.length : Int)) := (HB2.out.cell (p := ⟨b, 72, none⟩) HR.out.lt).trans ((HR.out.cell 72).trans (stV_n c r l.length HC.out HRL.out));clear hw2 ho2 hb2
  go_wp2_with (go_at_call 144; refine (ending_any l.length _ (by omega)).mono ?_; rintro e w3 ⟨rfl, hb3⟩; refine Hid.out ?_)
  refine Lib.hid ?_;have HB3 := Lib.hid (HB2.out.trans (hb3.mono (Nat.le_of_lt hs2)));have HW3 := Lib.hid (HW2.out.below hb3 hs2);have hs3 : w.heap.size < w3.heap.size := HW3.out.lt;clear hb3 hcn HW2;have HEL : Hid (((l.length + (cat (fun _ => (⟨(ending l.length).toArray⟩ : ByteArray)) 1).length : Nat) : Int) ≤ 70368744177664) := Lib.hid (by rw [cat_one]; simp [ending_len]; omega)
  go_wp2_with (go_at_call 127; refine (write_any w.heap.size 211 l _ 1 1 (fun _ => ⟨(ending l.length).toArray⟩) _ h2 (HT.out.below (HB3.out.alloc (Nat.le_of_lt hs3) _) h2) ⟨c, r, HC.out, HRL.out, HI.out, (Below.heap_alloc _ _ _ hs3).trans HW3.out⟩ (sarg_one _ _ _ _ hs3) HEL.out (by omega)).mono ?_; rintro e w4 ⟨rfl, hst4, ho4⟩; refine Hid.out ?_)
  refine Lib.hid ?_;rw [cat_one] at hst4;obtain ⟨c4, r4, hc4, hr4, hi4, hrow4⟩ := hst4;have HD := Lib.hid (dig_of l c4 r4 hi4);have HR4 := Lib.hid hrow4;have HC4 := Lib.hid hc4;have HB4 := Lib.hid ((HB3.out.alloc (Nat.le_of_lt hs3) _).trans (ho4.below (Nat.le_refl _) (by simp; omega)));have hs4 : w.heap.size < w4.heap.size := hrow4.lt;clear hi4 hrow4 hc4 hr4 ho4
  go_wp2_with (go_at_call 145; refine (digest_any w.heap.size c4 _ hs4 (fun i hi => (HR4.out.cell i).trans (stV_c _ _ _ _ HC4.out hi)) HD.out.2).mono ?_; rintro e w5 ⟨rfl, hb5⟩; refine Hid.out ?_)
  refine Lib.hid ?_;have HB5 := Lib.hid (HB4.out.trans (hb5.mono (Nat.le_of_lt hs4)));clear hb5
  go_wp2
  go_ret
  exact ⟨by rw [HD.out.1]; rfl, HB5.out⟩
set_option maxRecDepth 100000 in
set_option maxHeartbeats 400000 in
theorem sum_any (A : Option Addr) (n cp : Nat) (ss : Nat → ByteArray) (w : World) (hT : Tabs w) (hA : SArg w w.heap.size A n ss) (hn : (n : Int) ≤ 9223372036854775807) (hl : ((cat ss n).length : Int) ≤ 35184372088832) :
    Calls Tryz.prog 102 #[.slice A n cp] w fun e w' => e = .returned (.string ⟨(dig (cat ss n)).toArray⟩) ∧ Below w.heap.size w w' := by
  have HT := Lib.hid hT;have h2 := hT.size;have HA := Lib.hid hA;have HL := Lib.hid hl;clear hT hA hl
  have HA1 : Hid (SArg (w.alloc (.cells zst 211)) w.heap.size A n ss) := Lib.hid (by
    intro k hk;obtain ⟨b, o, e, hb, hne, hc⟩ := HA.out k hk
    exact ⟨b, o, e, by simp; omega, hne, (World.cell?_alloc_lt w _ ⟨b, o + k, none⟩ hb).trans hc⟩)
  have HL1 : Hid (((([] : List UInt8).length + (cat ss n).length : Nat) : Int) ≤ 70368744177664) := Lib.hid (by have := HL.out; simp; omega);have hz44 := zero44
  go_enter Tryz.func102, Tryz.ntmps102
  go_wp2_with (go_at_call 127; refine (write_any w.heap.size 211 [] A n cp ss (w.alloc (.cells zst 211)) h2 (HT.out.below ((Below.refl w.heap.size w).alloc (Nat.le_refl _) _) h2) (zst_new (heap_alloc_new _ _)) HA1.out HL1.out hn).mono ?_; rintro e w1 ⟨rfl, hst1, ho1⟩; refine Hid.out ?_)
  refine Lib.hid ?_;rw [List.nil_append] at hst1;have HS1 := Lib.hid hst1;have HB1 := Lib.hid (((Below.refl w.heap.size w).alloc (Nat.le_refl _) _).trans (ho1.below (Nat.le_refl _) (by simp)));have hs1 : w.heap.size < w1.heap.size := hst1.lt;clear hst1 ho1
  go_wp2_with (go_at_call 128; refine (sum_st w.heap.size 211 (cat ss n) _ (HT.out.below HB1.out h2) HS1.out HL.out).mono ?_; rintro e w2 ⟨rfl, hb2⟩; refine Hid.out ?_)
  refine Lib.hid ?_;have HB2 := Lib.hid (HB1.out.trans (hb2.mono (Nat.le_of_lt hs1)));clear hb2
  go_wp2
  go_ret
  exact ⟨rfl, HB2.out⟩
end Go.Proofs.YtchdlgdmomcemaaGreatDoor.Sha
end
section
namespace Go.Proofs.YtchdlgdmomcemaaGreatDoor.Sha
open Go.RowKit Go.Lib
theorem dig_len (l : List UInt8) : (dig l).length = 32 := by unfold dig; rw [outB_len]
def digB (l : List UInt8) : ByteArray := ⟨(dig l).toArray⟩
theorem digB_size (l : List UInt8) : (digB l).size = 32 := dig_len l
end Go.Proofs.YtchdlgdmomcemaaGreatDoor.Sha
end
section
namespace Go.Proofs.YtchdlgdmomcemaaGreatDoor.Mrk
open Go Go.RowKit Go.Lib
def sm (x : ByteArray) : ByteArray := Sha.digB x.data.toList
theorem sm_size (x : ByteArray) : (sm x).size = 32 := Sha.digB_size _
def hfL (k n : Nat) : Nat := if 0 < k ∧ 2 * k < n then hfL (2 * k) n else k
termination_by n - k
def hf (n : Nat) : Nat := hfL 1 n
theorem hfL_step {k n : Nat} (h0 : 0 < k) (h : 2 * k < n) : hfL k n = hfL (2 * k) n := by rw [hfL, if_pos ⟨h0, h⟩]
theorem hfL_end {k n : Nat} (h : ¬ 2 * k < n) : hfL k n = k := by rw [hfL, if_neg (fun q => h q.2)]
theorem hfL_in (n : Nat) : ∀ (d k : Nat), n - k ≤ d → 0 < k → k < n → k ≤ hfL k n ∧ hfL k n < n ∧ n ≤ 2 * hfL k n := by
  intro d
  induction d with
  | zero => intro k h h0 h1; omega
  | succ d ih =>
    intro k h h0 h1
    by_cases h2 : 2 * k < n
    · rw [hfL_step h0 h2];have := ih (2 * k) (by omega) (by omega) h2;omega
    · rw [hfL_end h2];omega
theorem hf_in {n : Nat} (h : 2 ≤ n) : 1 ≤ hf n ∧ hf n < n ∧ n ≤ 2 * hf n := hfL_in n (n - 1) 1 (Nat.le_refl _) (by omega) (by omega)
abbrev Pr := ByteArray × ByteArray
def c0 : ByteArray := ⟨#[0]⟩
def c1 : ByteArray := ⟨#[1]⟩
def c2 : ByteArray := ⟨#[2]⟩
def pr (x : ByteArray) : Pr := (x, sm x)
def rootP (bl : List ByteArray) : ByteArray × List Pr :=
  if h0 : bl.length = 0 then (sm c2, [pr c2])
  else if h1 : bl.length = 1 then (sm (c0 ++ bl[0]), [pr (c0 ++ bl[0])])
  else
    have hk := hf_in (n := bl.length) (by omega);have : (bl.take (hf bl.length)).length < bl.length := by rw [List.length_take]; omega
    have : (bl.drop (hf bl.length)).length < bl.length := by rw [List.length_drop]; omega
    (sm (c1 ++ (rootP (bl.take (hf bl.length))).1 ++ (rootP (bl.drop (hf bl.length))).1),
      (rootP (bl.take (hf bl.length))).2 ++ (rootP (bl.drop (hf bl.length))).2 ++ [pr (c1 ++ (rootP (bl.take (hf bl.length))).1 ++ (rootP (bl.drop (hf bl.length))).1)])
termination_by bl.length
theorem rootP_0 {bl : List ByteArray} (h : bl.length = 0) : rootP bl = (sm c2, [pr c2]) := by rw [rootP, dif_pos h]
theorem rootP_1 (b : ByteArray) : rootP [b] = (sm (c0 ++ b), [pr (c0 ++ b)]) := by rw [rootP, dif_neg (by simp), dif_pos (show [b].length = 1 from rfl)]; rfl
theorem rootP_2 {bl : List ByteArray} (h : 2 ≤ bl.length) : rootP bl = (sm (c1 ++ (rootP (bl.take (hf bl.length))).1 ++ (rootP (bl.drop (hf bl.length))).1),
      (rootP (bl.take (hf bl.length))).2 ++ (rootP (bl.drop (hf bl.length))).2 ++ [pr (c1 ++ (rootP (bl.take (hf bl.length))).1 ++ (rootP (bl.drop (hf bl.length))).1)]) := by
  rw [rootP, dif_neg (by omega), dif_neg (by omega)]
theorem rootP_size (bl : List ByteArray) : (rootP bl).1.size = 32 := by
  rcases Nat.lt_or_ge bl.length 2 with h | h
  · rcases Nat.lt_or_ge bl.length 1 with h0 | h0
    · rw [rootP_0 (by omega)]; exact sm_size _
    · match bl, h, h0 with
      | [b], _, _ => rw [rootP_1]; exact sm_size _
  · rw [rootP_2 h]; exact sm_size _
def stF (i n : Nat) : Nat :=
  if h : n < 2 then 0
  else
    have hk := hf_in (n := n) (by omega)
    if i < hf n then 1 + stF i (hf n) else 1 + stF (i - hf n) (n - hf n)
termination_by n
end Go.Proofs.YtchdlgdmomcemaaGreatDoor.Mrk
end
section
namespace Go.Proofs.YtchdlgdmomcemaaGreatDoor.Man
open Go Go.RowKit Go.Lib Oct Num Gap Csr Shd
def allF (ys : List (Int × Int)) (N E : Nat) : ByteArray := Blk.catK (partsF ys N E (cutM N E))
def manF (v : Int) (N E : Nat) (ys : List (Int × Int)) : MF := ⟨v, (N : Int), (ys.length : Int), tabF (fP E) (partsF ys N E (cutM N E)) (cutM N E), (Blk.cntK (allF ys N E).size : Int), (Mrk.rootP (Blk.cutK (allF ys N E))).1⟩
theorem man_len (v : Int) (N E : Nat) (ys : List (Int × Int)) : (manF v N E ys).sh.length = cutM N E := tabF_len _ _ _
theorem man_at (v : Int) {N E i : Nat} (ys : List (Int × Int)) (h : i < cutM N E) : (manF v N E ys).sh[i]? = some (((i * E : Nat) : Int), ((partF ys N E i).size : Int)) := by
  show (tabF (fP E) (partsF ys N E (cutM N E)) (cutM N E))[i]? = _;unfold tabF;rw [List.getElem?_map, List.getElem?_range h];simp only [Option.map_some];rw [List.getD_eq_getElem?_getD, partsF_at _ _ _ _ _ h]
  rfl
theorem man_fst (v : Int) {N E i : Nat} (ys : List (Int × Int)) (h : i < cutM N E) : fst (manF v N E ys).sh i = ((i * E : Nat) : Int) := by unfold fst; rw [List.getD_eq_getElem?_getD, man_at v ys h]; rfl
theorem man_byt (v : Int) {N E i : Nat} (ys : List (Int × Int)) (h : i < cutM N E) : byt (manF v N E ys).sh i = ((partF ys N E i).size : Int) := by unfold byt; rw [List.getD_eq_getElem?_getD, man_at v ys h]; rfl
theorem man_tot (v : Int) (N E : Nat) (ys : List (Int × Int)) : ∀ k, k ≤ cutM N E → totK (manF v N E ys).sh k = ((Blk.catK ((partsF ys N E (cutM N E)).take k)).size : Int)
  | 0, _ => rfl
  | k + 1, h => by
    rw [totK, man_tot v N E ys k (by omega), man_byt v ys (by omega), ← Blk.catK_take (partsF_at ys N E (cutM N E) k (by omega)), ByteArray.size_append];omega
theorem man_all (v : Int) (N E : Nat) (ys : List (Int × Int)) : tot (manF v N E ys) = ((allF ys N E).size : Int) := by
  unfold tot;rw [man_len, man_tot v N E ys _ (Nat.le_refl _), List.take_of_length_le (by rw [partsF_len]; exact Nat.le_refl _)]
  rfl
theorem ixF_1 (f : Int) (R : Nat → List Int) : ∀ k, 1 ≤ k → 1 ≤ (ixF f R k).length
  | 0, h => by omega
  | 1, _ => by
    rw [ixF, List.length_append];have := short_pos (rwF f R 0).length;simp;omega
  | k + 2, _ => by
    rw [ixF, List.length_append];have := ixF_1 f R (k + 1) (by omega);omega
theorem part_3 (ys : List (Int × Int)) {N E i : Nat} (h : 1 ≤ min E (N - i * E)) : 3 ≤ (partF ys N E i).size := by
  have e : (partF ys N E i).size = (shF (i * E) (min E (N - i * E)) (rowsF ys (i * E))).length := by
    unfold partF;exact bs_size _
  rw [e];unfold shF;simp only [List.length_append];have h1 := short_pos (i * E);have h2 := short_pos (min E (N - i * E));have h3 := ixF_1 ((i * E : Nat) : Int) (rowsF ys (i * E)) (min E (N - i * E)) h;omega
theorem man_good {v : Int} {N E : Nat} {ys : List (Int × Int)} (hv0 : 1 ≤ v) (hv1 : v ≤ 1099511627776) (hN : N ≤ 300) (hy : ys.length ≤ 200) (hE : 1 ≤ E) (hc : cutM N E ≤ 64) : Good (manF v N E ys) := by
  have hsm := parts_small (ys := ys) (N := N) (E := E) (k := cutM N E) hN hy hc;have hall := man_all v N E ys
  have hb : blkI (manF v N E ys) = (Blk.cntK (allF ys N E).size : Int) := by
    unfold blkI Blk.cntK;rw [hall];omega
  refine ⟨hv0, hv1, by show (0 : Int) ≤ (N : Int); omega, by show (N : Int) ≤ 4096; omega, by show (0 : Int) ≤ (ys.length : Int); omega, by show (ys.length : Int) ≤ 20000; omega, by rw [man_len]; exact hc, ?_, fun j hj => ?_, fun j hj => ?_, by rw [hb]; rfl, ?_, ?_⟩
  · rw [man_len]
    constructor
    · intro h;have := cutM_end (N := N) (E := E) hE;rw [h] at this;show (N : Int) = 0;omega
    · intro h;have h0 : (N : Int) = 0 := h;have : N = 0 := by omega
      rw [this, cutM_0 hE]
  · rw [man_len] at hj;have hl := cutM_lt hE hj;unfold badF;rw [man_fst v ys hj];rintro (⟨h1, h2⟩ | ⟨h1, h2⟩)
    · subst h1;simp at h2
    · have hj1 : j - 1 < cutM N E := by omega
      rw [man_fst v ys hj1] at h2
      have e : j * E = (j - 1) * E + E := by
        have : j = (j - 1) + 1 := by omega
        conv => lhs; rw [this, Nat.succ_mul]
      have hn : (manF v N E ys).n = (N : Int) := rfl;rw [hn] at h2;omega
  · rw [man_len] at hj;have hl := cutM_lt hE hj;rw [man_byt v ys hj];have h3 := part_3 ys (N := N) (E := E) (i := j) (by omega);have h4 := part_13 ys N E j;have h5 := bgn_le ys ((j * E + min E (N - j * E) : Nat) : Int);omega
  · rw [hb];have : (allF ys N E).size ≤ 12064 := hsm;unfold Blk.cntK;omega
  · exact Mrk.rootP_size _
end Go.Proofs.YtchdlgdmomcemaaGreatDoor.Man
end
section
namespace Go.Proofs.YtchdlgdmomcemaaGreatDoor.Man
open Go Go.RowKit Go.Lib RowG
def mV (m : MF) (A : Option Addr) (c : Nat) : Value := .agg #[.int .i64 m.v, .int .i64 m.n, .int .i64 m.e, .slice A m.sh.length c, .int .i64 m.b, .string m.r]
structure MIn (m : MF) (A : Option Addr) (c : Nat) (u : World) : Prop where
  row : RIn ipR u A m.sh
  le : m.sh.length ≤ c
  cap : c ≤ maxLen
  few : m.sh.length ≤ 100
theorem MIn.on {m : MF} {A : Option Addr} {c : Nat} {u u' : World} (h : MIn m A c u) (hb : Below u.heap.size u u') : MIn m A c u' := ⟨h.row.on hb, h.le, h.cap, h.few⟩
theorem ipc {w : World} {A : Option Addr} {l : List (Int × Int)} (h : RIn ipR w A l) {k : Nat} (hk : k < l.length) : ∃ b o, A = some ⟨b, o, none⟩ ∧ b < w.heap.size ∧ w.cell? ⟨b, o + k * 2, none⟩ = some (.int .i64 (fst l k)) ∧ w.cell? ⟨b, o + k * 2 + 1, none⟩ = some (.int .i64 (byt l k)) := by
  obtain ⟨b, o, h1, h2, h3⟩ := h k l[k] (List.getElem?_eq_getElem hk);have e : l.getD k (0, 0) = l[k] := by rw [List.getD_eq_getElem?_getD, List.getElem?_eq_getElem hk]; rfl
  refine ⟨b, o, h1, h2, ?_, ?_⟩
  · unfold fst; rw [e]; exact h3 0 _ rfl
  · unfold byt; rw [e]; exact h3 1 _ rfl
theorem loadM {P : Program} {w : World} {g : Nat} {T : TypeId} {cs : Array Value} {d : TypeDesc} (h : St.St w g T cs) (hu : P.underlying T = some d) (hd : St.rowD d = true) (hi : (P.info? T).map (·.size) = some cs.size) : (Instr.loadAt T (.pointer (some ⟨g, 0, none⟩))).run P w = .ok (.agg cs) w := h.load hu hd hi
theorem totK_bd {sh : List (Int × Int)} (hb : ∀ j, j < sh.length → 3 ≤ byt sh j ∧ byt sh j ≤ 1048576) : ∀ k, k ≤ sh.length → 0 ≤ totK sh k ∧ totK sh k ≤ 1048576 * (k : Int) := by
  intro k
  induction k with
  | zero => intro _; exact ⟨Int.le_refl _, Int.le_refl _⟩
  | succ k ih =>
    intro hk;have h1 := ih (by omega);have h2 := hb k (by omega);show 0 ≤ totK sh k + byt sh k ∧ totK sh k + byt sh k ≤ _;omega
theorem wrS_f {sh : List (Int × Int)} {n : Int} {L j : Nat} (hj : j < L) (h : badF sh n j) : wrS sh n (L - j) j = 4 + 2 * (j : Int) := by
  obtain ⟨k, hk⟩ : ∃ k, L - j = k + 1 := ⟨L - j - 1, by omega⟩;rw [hk, wrS, if_pos h]
theorem wrS_b {sh : List (Int × Int)} {n : Int} {L j : Nat} (hj : j < L) (h : ¬ badF sh n j) (h2 : badB sh j) : wrS sh n (L - j) j = 5 + 2 * (j : Int) := by
  obtain ⟨k, hk⟩ : ∃ k, L - j = k + 1 := ⟨L - j - 1, by omega⟩;rw [hk, wrS, if_neg h, if_pos h2]
theorem wrS_n {sh : List (Int × Int)} {n : Int} {L j : Nat} (hj : j < L) (h : ¬ badF sh n j) (h2 : ¬ badB sh j) : wrS sh n (L - j) j = wrS sh n (L - (j + 1)) (j + 1) := by
  have hk : L - j = (L - (j + 1)) + 1 := by omega
  rw [hk, wrS, if_neg h, if_neg h2]
theorem sh_ext {a b : List (Int × Int)} (hl : a.length = b.length) (h : ∀ q, q < a.length → fst a q = fst b q ∧ byt a q = byt b q) : a = b := by
  apply List.ext_getElem hl
  intro i h1 h2;have := h i h1;unfold fst byt at this;rw [List.getD_eq_getElem?_getD, List.getD_eq_getElem?_getD, List.getElem?_eq_getElem h1, List.getElem?_eq_getElem h2] at this;exact Prod.ext this.1 this.2
end Go.Proofs.YtchdlgdmomcemaaGreatDoor.Man
end
section
namespace Go.Proofs.YtchdlgdmomcemaaGreatDoor.Csr
open Go Go.RowKit Go.Lib Edg Num
theorem equalI_any (b1 b2 : Nat) (xs ys : List Int) (w : World) (hx : xs.length ≤ 20000) (hy : ys.length ≤ 20000) (hA : HoldI w b1 xs) (hB : HoldI w b2 ys) :
    Calls Tryz.prog 40 #[.slice (some ⟨b1, 0, none⟩) xs.length xs.length, .slice (some ⟨b2, 0, none⟩) ys.length ys.length] w fun e w' => e = .returned (.bool (decide (xs = ys))) ∧ ∃ q, w' = w.drewN q := by
  refine (AnyG.slices_Equal_int Tryz.layEqualI b1 0 xs.length xs.length b2 0 ys.length ys.length xs ys w (Nat.le_refl _) (Nat.le_refl _) (by omega) (by omega) (fun j hj => by rw [Nat.zero_add]; exact (hA j hj).1) (fun j hj => by rw [Nat.zero_add]; exact (hB j hj).1)).mono fun e w' hp => ?_;obtain ⟨he, hq⟩ := hp;rw [List.take_length, List.take_length] at he;refine ⟨he.trans ?_, hq⟩
  congr 2
  rw [Bool.eq_iff_iff];simp
set_option maxRecDepth 100000 in
set_option maxHeartbeats 2000000 in
theorem sameC_any (w : World) (B B' g g' N M : Nat) (ys zs : List (Int × Int)) (hR : Rep w B g N ys) (hR2 : Rep w B' g' M zs) : Calls Tryz.prog 19 #[.pointer (some ⟨g, 0, none⟩), .pointer (some ⟨g', 0, none⟩)] w fun e w' => e = .returned (.bool (decide (N = M ∧ ys = zs))) ∧ ∃ q, w' = w.drewN q := by
  refine Kn.Z.cl Tryz.func19 rfl Tryz.ntmps19 rfl (.c 0 rfl (.c 1 rfl .n)) ?_;refine Kn.Z.f fun K1 hK1=>?_;refine Kn.Z.u (.a .c .n) ?_;refine Kn.Z.e hK1 ?_;clear hK1 K1;have hN := hR.hi;have hL := hR.len;have hM := hR2.hi;have hL2 := hR2.len;obtain ⟨gb, gt, -, -, hS, hH, hT⟩ := hR.mem;obtain ⟨gb', gt', -, -, hS', hH', hT'⟩ := hR2.mem;have c0 := fun q => (hS.drewN q).cell 0 rfl;have c1 := fun q => (hS.drewN q).cell 1 rfl;have d0 := fun q => (hS'.drewN q).cell 0 rfl;have d1 := fun q => (hS'.drewN q).cell 1 rfl;have hQ1 := fun q => equalI_any gb gb' (bgs ys N) (bgs zs M) (w.drewN q) (by rw [bgs_len]; omega) (by rw [bgs_len]; omega) (hH.drewN q) (hH'.drewN q);have hQ2 := fun q => equalI_any gt gt' (tgs ys) (tgs zs) (w.drewN q) (by rw [tgs_len]; omega) (by rw [tgs_len]; omega) (hT.drewN q) (hT'.drewN q);simp only [bgs_len] at hQ1;simp only [tgs_len] at hQ2
  by_cases hb : bgs ys N = bgs zs M
  · rw [decide_eq_true hb] at hQ1;obtain rfl : N = M := by rw [← bgs_len ys N, hb, bgs_len]
    have HF : Hid (decide (N = N ∧ ys = zs) = decide (tgs ys = tgs zs)) := Lib.hid (decide_eq_decide.2 ⟨fun h => by rw [h.2], fun h => ⟨rfl, rows_eq hR.srt hR2.srt hR.good hR2.good hb h⟩⟩);intro fb fg;rw [HF.out];generalize decide (tgs ys = tgs zs) = bb at hQ2 ⊢;have HQ1 := Lib.hid hQ1;have HQ2 := Lib.hid hQ2;clear hQ1 hQ2 HF
    revert fb
    refine Kn.Z.q fun K2 hK2=>?_;refine Kn.Z.f fun K3 hK3=>?_;refine Kn.Z.u (.m (.t rfl) .n) ?_;refine Kn.Z.s .o (.bin (.t rfl) .c) fun Ko Kp=>?_;go_simp;(try go_bits);refine Kp _ _ ?_;clear Kp Ko;refine Kn.Z.u (.m (.t rfl) (.e (.s rfl rfl rfl) (.move (.t rfl)) .n)) ?_;refine Kn.Z.s (.s rfl rfl rfl) (.bin (.t rfl) .c) fun Ko Kp=>?_;go_simp;(try go_bits);refine Kp _ _ ?_;clear Kp Ko;refine Kn.Z.u (.e .o (.pick (.t rfl) (.t rfl)) .n) ?_;refine Kn.Z.e hK3 ?_;clear hK3 K3;refine Kn.Z.no (.t rfl) ?_;refine Kn.Z.j hK2 ?_;clear hK2 K2;refine Kn.Z.q fun K4 hK4=>?_;refine Kn.Z.t (.c 0 rfl (.c 1 rfl .n)) ?_;intro fb fg;refine Kn.any (fun u => ∃ q, u = w.drewN q) (fun _ _ => True) (Kn.TL [Kn.Is (.pointer (some ⟨g, 0, none⟩)), Kn.Is (.pointer (some ⟨g, 0, none⟩)), Kn.Is (.pointer (some ⟨g, 0, none⟩)), Kn.Is (.slice (some ⟨gb, 0, none⟩) N N), Kn.Is (.pointer (some ⟨g', 0, none⟩)), Kn.Is (.pointer (some ⟨g', 0, none⟩)), Kn.Is (.pointer (some ⟨g', 0, none⟩)), Kn.Is (.slice (some ⟨gb', 0, none⟩) N N), Kn.Is (.bool true), Kn.Is (.bool true), Kn.Is (.pointer (some ⟨g, 0, none⟩)), Kn.Is (.pointer (some ⟨g, 0, none⟩)), Kn.Is (.pointer (some ⟨g, 1, none⟩)), Kn.Is (.slice (some ⟨gt, 0, none⟩) ys.length ys.length), Kn.Is (.pointer (some ⟨g', 0, none⟩)), Kn.Is (.pointer (some ⟨g', 0, none⟩)), Kn.Is (.pointer (some ⟨g', 1, none⟩)), Kn.Is (.slice (some ⟨gt', 0, none⟩) zs.length zs.length), Kn.Is (.bool bb), Kn.Is (.bool bb), Kn.Is (.bool bb)]) (by kernel_rfl) fg (by kernel_rfl) (by kernel_rfl) rfl (Kn.Keeps.all (.cons Kn.Is.keep (.cons Kn.Is.keep (.cons Kn.Is.keep (.cons Kn.Is.keep (.cons Kn.Is.keep (.cons Kn.Is.keep (.cons Kn.Is.keep (.cons Kn.Is.keep (.cons Kn.Is.keep (.cons Kn.Is.keep (.cons Kn.Is.keep (.cons Kn.Is.keep (.cons Kn.Is.keep (.cons Kn.Is.keep (.cons Kn.Is.keep (.cons Kn.Is.keep (.cons Kn.Is.keep (.cons Kn.Is.keep (.cons Kn.Is.keep (.cons Kn.Is.keep (.cons Kn.Is.keep .nil)))))))))))))))))))))) ⟨1, rfl⟩ ⟨?_, ?_, ?_, ?_, ?_, ?_, ?_, ?_, ?_, ?_, ?_, ?_, ?_, ?_, ?_, ?_, ?_, ?_, ?_, ?_, ?_, trivial⟩ ?_
    · refine Kn.ok fun fa u L fh hS hH => ?_;exact Kn.apure fh .none (Kn.ex_move fh (.t rfl)) rfl hS trivial
    · refine Kn.ok fun fa u L fh hS hH => ?_;replace fh:=fh.more (hH 0 17 rfl rfl);exact Kn.apure fh .none (Kn.ex_nilCheck fh (.t rfl)) rfl hS trivial
    · refine Kn.ok fun fa u L fh hS hH => ?_;replace fh:=fh.more (hH 1 18 rfl rfl);refine Kn.aop fh .none (Kn.ex_fieldAddr fh (.t rfl)) fun Ko hKo => ?_;go_simp;(try go_bits);exact hKo _ _ rfl hS trivial
    · refine Kn.ok fun fa u L fh hS hH => ?_;replace fh:=fh.more (hH 2 19 rfl rfl);obtain ⟨q, rfl⟩ := hS;refine Kn.aop fh .none (Kn.ex_load fh (.t rfl)) fun Ko hKo => ?_;go_simp;(try go_bits);exact hKo _ _ rfl ⟨q, rfl⟩ trivial
    · refine Kn.ok fun fa u L fh hS hH => ?_;exact Kn.apure fh .none (Kn.ex_move fh (.t rfl)) rfl hS trivial
    · refine Kn.ok fun fa u L fh hS hH => ?_;replace fh:=fh.more (hH 4 21 rfl rfl);exact Kn.apure fh .none (Kn.ex_nilCheck fh (.t rfl)) rfl hS trivial
    · refine Kn.ok fun fa u L fh hS hH => ?_;replace fh:=fh.more (hH 5 22 rfl rfl);refine Kn.aop fh .none (Kn.ex_fieldAddr fh (.t rfl)) fun Ko hKo => ?_;go_simp;(try go_bits);exact hKo _ _ rfl hS trivial
    · refine Kn.ok fun fa u L fh hS hH => ?_;replace fh:=fh.more (hH 6 23 rfl rfl);obtain ⟨q, rfl⟩ := hS;refine Kn.aop fh .none (Kn.ex_load fh (.t rfl)) fun Ko hKo => ?_;go_simp;(try go_bits);exact hKo _ _ rfl ⟨q, rfl⟩ trivial
    · refine Kn.ok fun fa u L fh hS hH => ?_;replace fh:=fh.more (hH 3 20 rfl rfl);replace fh:=fh.more (hH 7 24 rfl rfl);obtain ⟨q, rfl⟩ := hS;refine Kn.acall fh .none (Kn.ex_call fh (.cons (.t rfl) (.cons (.t rfl) .nil))) Tryz.call40 (HQ1.out q) fun e u2 hp => ?_;obtain ⟨rfl, q2, rfl⟩ := hp;exact ⟨_, rfl, rfl, ⟨q + q2, by rw [World.drewN_drewN]⟩, trivial⟩
    · refine Kn.ok fun fa u L fh hS hH => ?_;replace fh:=fh.more (hH 8 25 rfl rfl);exact Kn.apure fh .none (Kn.ex_move fh (.t rfl)) rfl hS trivial
    · refine Kn.ok fun fa u L fh hS hH => ?_;replace fh:=fh.more (hH 9 26 rfl rfl);exact Kn.apure fh (.some rfl rfl rfl) (Kn.ex_move fh (.t rfl)) rfl hS trivial
    · refine Kn.ok fun fa u L fh hS hH => ?_;replace fh:=fh.more (hH 10 27 rfl rfl);replace fh:=fh.more (hH 9 26 rfl rfl);exact Kn.apure fh (.some rfl rfl rfl) (Kn.ex_nilCheck fh (.t rfl)) rfl hS trivial
    · refine Kn.ok fun fa u L fh hS hH => ?_;replace fh:=fh.more (hH 11 28 rfl rfl);replace fh:=fh.more (hH 9 26 rfl rfl);refine Kn.aop fh (.some rfl rfl rfl) (Kn.ex_fieldAddr fh (.t rfl)) fun Ko hKo => ?_;go_simp;(try go_bits);exact hKo _ _ rfl hS trivial
    · refine Kn.ok fun fa u L fh hS hH => ?_;replace fh:=fh.more (hH 12 29 rfl rfl);replace fh:=fh.more (hH 9 26 rfl rfl);obtain ⟨q, rfl⟩ := hS;refine Kn.aop fh (.some rfl rfl rfl) (Kn.ex_load fh (.t rfl)) fun Ko hKo => ?_;go_simp;(try go_bits);exact hKo _ _ rfl ⟨q, rfl⟩ trivial
    · refine Kn.ok fun fa u L fh hS hH => ?_;replace fh:=fh.more (hH 9 26 rfl rfl);exact Kn.apure fh (.some rfl rfl rfl) (Kn.ex_move fh (.t rfl)) rfl hS trivial
    · refine Kn.ok fun fa u L fh hS hH => ?_;replace fh:=fh.more (hH 14 31 rfl rfl);replace fh:=fh.more (hH 9 26 rfl rfl);exact Kn.apure fh (.some rfl rfl rfl) (Kn.ex_nilCheck fh (.t rfl)) rfl hS trivial
    · refine Kn.ok fun fa u L fh hS hH => ?_;replace fh:=fh.more (hH 15 32 rfl rfl);replace fh:=fh.more (hH 9 26 rfl rfl);refine Kn.aop fh (.some rfl rfl rfl) (Kn.ex_fieldAddr fh (.t rfl)) fun Ko hKo => ?_;go_simp;(try go_bits);exact hKo _ _ rfl hS trivial
    · refine Kn.ok fun fa u L fh hS hH => ?_;replace fh:=fh.more (hH 16 33 rfl rfl);replace fh:=fh.more (hH 9 26 rfl rfl);obtain ⟨q, rfl⟩ := hS;refine Kn.aop fh (.some rfl rfl rfl) (Kn.ex_load fh (.t rfl)) fun Ko hKo => ?_;go_simp;(try go_bits);exact hKo _ _ rfl ⟨q, rfl⟩ trivial
    · refine Kn.ok fun fa u L fh hS hH => ?_;replace fh:=fh.more (hH 13 30 rfl rfl);replace fh:=fh.more (hH 17 34 rfl rfl);replace fh:=fh.more (hH 9 26 rfl rfl);obtain ⟨q, rfl⟩ := hS;refine Kn.acall fh (.some rfl rfl rfl) (Kn.ex_call fh (.cons (.t rfl) (.cons (.t rfl) .nil))) Tryz.call40 (HQ2.out q) fun e u2 hp => ?_;obtain ⟨rfl, q2, rfl⟩ := hp;exact ⟨_, rfl, rfl, ⟨q + q2, by rw [World.drewN_drewN]⟩, trivial⟩
    · refine Kn.ok fun fa u L fh hS hH => ?_;replace fh:=fh.more (hH 9 26 rfl rfl);replace fh:=fh.more (hH 18 35 rfl rfl);exact Kn.apure fh .none (Kn.ex_pick fh (.t rfl) (.t rfl)) rfl hS trivial
    · refine Kn.ok fun fa u L fh hS hH => ?_;replace fh:=fh.more (hH 19 36 rfl rfl);exact Kn.apure fh .none (Kn.ex_assign fh (.t rfl)) rfl hS trivial
    intro fa w1 fh hS hT;clear fg fb;replace fh:=fh.more (hT 20 4 rfl);clear hT;refine hK4 _ _ ?_;clear hK4 K4
    revert fa
    refine Kn.Z.t (.c 4 rfl .n) ?_;obtain ⟨q, rfl⟩ := hS;intro fa fh;refine wp_ret ?_;exact Kn.ret1 fh rfl rfl ⟨rfl, q, rfl⟩
  · rw [decide_eq_false hb] at hQ1;have HF : Hid (decide (N = M ∧ ys = zs) = false) := Lib.hid (decide_eq_false fun h => hb (by rw [h.1, h.2]));intro fb fg;rw [HF.out];have HQ1 := Lib.hid hQ1;clear hQ1 hQ2 HF
    revert fb
    refine Kn.Z.q fun K2 hK2=>?_;refine Kn.Z.f fun K3 hK3=>?_;refine Kn.Z.u (.m (.t rfl) .n) ?_;refine Kn.Z.s .o (.bin (.t rfl) .c) fun Ko Kp=>?_;go_simp;(try go_bits);refine Kp _ _ ?_;clear Kp Ko;refine Kn.Z.u (.m (.t rfl) (.e (.s rfl rfl rfl) (.move (.t rfl)) .n)) ?_;refine Kn.Z.s (.s rfl rfl rfl) (.bin (.t rfl) .c) fun Ko Kp=>?_;go_simp;(try go_bits);refine Kp _ _ ?_;clear Kp Ko;refine Kn.Z.u (.e .o (.pick (.t rfl) (.t rfl)) .n) ?_;refine Kn.Z.e hK3 ?_;clear hK3 K3;refine Kn.Z.no (.t rfl) ?_;refine Kn.Z.j hK2 ?_;clear hK2 K2;refine Kn.Z.q fun K4 hK4=>?_;refine Kn.Z.t (.c 0 rfl (.c 1 rfl .n)) ?_;intro fb fg;refine Kn.any (fun u => ∃ q, u = w.drewN q) (fun _ _ => True) (Kn.TL [Kn.Is (.pointer (some ⟨g, 0, none⟩)), Kn.Is (.pointer (some ⟨g, 0, none⟩)), Kn.Is (.pointer (some ⟨g, 0, none⟩)), Kn.Is (.slice (some ⟨gb, 0, none⟩) N N), Kn.Is (.pointer (some ⟨g', 0, none⟩)), Kn.Is (.pointer (some ⟨g', 0, none⟩)), Kn.Is (.pointer (some ⟨g', 0, none⟩)), Kn.Is (.slice (some ⟨gb', 0, none⟩) M M), Kn.Is (.bool false), Kn.Is (.bool false), Kn.Is (undef), Kn.Is (undef), Kn.Is (undef), Kn.Is (undef), Kn.Is (undef), Kn.Is (undef), Kn.Is (undef), Kn.Is (undef), Kn.Is (undef), Kn.Is (.bool false), Kn.Is (.bool false)]) (by kernel_rfl) fg (by kernel_rfl) (by kernel_rfl) rfl (Kn.Keeps.all (.cons Kn.Is.keep (.cons Kn.Is.keep (.cons Kn.Is.keep (.cons Kn.Is.keep (.cons Kn.Is.keep (.cons Kn.Is.keep (.cons Kn.Is.keep (.cons Kn.Is.keep (.cons Kn.Is.keep (.cons Kn.Is.keep (.cons Kn.Is.keep (.cons Kn.Is.keep (.cons Kn.Is.keep (.cons Kn.Is.keep (.cons Kn.Is.keep (.cons Kn.Is.keep (.cons Kn.Is.keep (.cons Kn.Is.keep (.cons Kn.Is.keep (.cons Kn.Is.keep (.cons Kn.Is.keep .nil)))))))))))))))))))))) ⟨1, rfl⟩ ⟨?_, ?_, ?_, ?_, ?_, ?_, ?_, ?_, ?_, ?_, ?_, ?_, ?_, ?_, ?_, ?_, ?_, ?_, ?_, ?_, ?_, trivial⟩ ?_
    · refine Kn.ok fun fa u L fh hS hH => ?_;exact Kn.apure fh .none (Kn.ex_move fh (.t rfl)) rfl hS trivial
    · refine Kn.ok fun fa u L fh hS hH => ?_;replace fh:=fh.more (hH 0 17 rfl rfl);exact Kn.apure fh .none (Kn.ex_nilCheck fh (.t rfl)) rfl hS trivial
    · refine Kn.ok fun fa u L fh hS hH => ?_;replace fh:=fh.more (hH 1 18 rfl rfl);refine Kn.aop fh .none (Kn.ex_fieldAddr fh (.t rfl)) fun Ko hKo => ?_;go_simp;(try go_bits);exact hKo _ _ rfl hS trivial
    · refine Kn.ok fun fa u L fh hS hH => ?_;replace fh:=fh.more (hH 2 19 rfl rfl);obtain ⟨q, rfl⟩ := hS;refine Kn.aop fh .none (Kn.ex_load fh (.t rfl)) fun Ko hKo => ?_;go_simp;(try go_bits);exact hKo _ _ rfl ⟨q, rfl⟩ trivial
    · refine Kn.ok fun fa u L fh hS hH => ?_;exact Kn.apure fh .none (Kn.ex_move fh (.t rfl)) rfl hS trivial
    · refine Kn.ok fun fa u L fh hS hH => ?_;replace fh:=fh.more (hH 4 21 rfl rfl);exact Kn.apure fh .none (Kn.ex_nilCheck fh (.t rfl)) rfl hS trivial
    · refine Kn.ok fun fa u L fh hS hH => ?_;replace fh:=fh.more (hH 5 22 rfl rfl);refine Kn.aop fh .none (Kn.ex_fieldAddr fh (.t rfl)) fun Ko hKo => ?_;go_simp;(try go_bits);exact hKo _ _ rfl hS trivial
    · refine Kn.ok fun fa u L fh hS hH => ?_;replace fh:=fh.more (hH 6 23 rfl rfl);obtain ⟨q, rfl⟩ := hS;refine Kn.aop fh .none (Kn.ex_load fh (.t rfl)) fun Ko hKo => ?_;go_simp;(try go_bits);exact hKo _ _ rfl ⟨q, rfl⟩ trivial
    · refine Kn.ok fun fa u L fh hS hH => ?_;replace fh:=fh.more (hH 3 20 rfl rfl);replace fh:=fh.more (hH 7 24 rfl rfl);obtain ⟨q, rfl⟩ := hS;refine Kn.acall fh .none (Kn.ex_call fh (.cons (.t rfl) (.cons (.t rfl) .nil))) Tryz.call40 (HQ1.out q) fun e u2 hp => ?_;obtain ⟨rfl, q2, rfl⟩ := hp;exact ⟨_, rfl, rfl, ⟨q + q2, by rw [World.drewN_drewN]⟩, trivial⟩
    · refine Kn.ok fun fa u L fh hS hH => ?_;replace fh:=fh.more (hH 8 25 rfl rfl);exact Kn.apure fh .none (Kn.ex_move fh (.t rfl)) rfl hS trivial
    · refine Kn.ok fun fa u L fh hS hH => ?_;replace fh:=fh.more (hH 9 26 rfl rfl);exact Kn.askip fh (.some rfl rfl rfl) rfl
    · refine Kn.ok fun fa u L fh hS hH => ?_;replace fh:=fh.more (hH 9 26 rfl rfl);exact Kn.askip fh (.some rfl rfl rfl) rfl
    · refine Kn.ok fun fa u L fh hS hH => ?_;replace fh:=fh.more (hH 9 26 rfl rfl);exact Kn.askip fh (.some rfl rfl rfl) rfl
    · refine Kn.ok fun fa u L fh hS hH => ?_;replace fh:=fh.more (hH 9 26 rfl rfl);obtain ⟨q, rfl⟩ := hS;exact Kn.askip fh (.some rfl rfl rfl) rfl
    · refine Kn.ok fun fa u L fh hS hH => ?_;replace fh:=fh.more (hH 9 26 rfl rfl);exact Kn.askip fh (.some rfl rfl rfl) rfl
    · refine Kn.ok fun fa u L fh hS hH => ?_;replace fh:=fh.more (hH 9 26 rfl rfl);exact Kn.askip fh (.some rfl rfl rfl) rfl
    · refine Kn.ok fun fa u L fh hS hH => ?_;replace fh:=fh.more (hH 9 26 rfl rfl);exact Kn.askip fh (.some rfl rfl rfl) rfl
    · refine Kn.ok fun fa u L fh hS hH => ?_;replace fh:=fh.more (hH 9 26 rfl rfl);obtain ⟨q, rfl⟩ := hS;exact Kn.askip fh (.some rfl rfl rfl) rfl
    · refine Kn.ok fun fa u L fh hS hH => ?_;replace fh:=fh.more (hH 9 26 rfl rfl);obtain ⟨q, rfl⟩ := hS;exact Kn.askip fh (.some rfl rfl rfl) rfl
    · refine Kn.ok fun fa u L fh hS hH => ?_;replace fh:=fh.more (hH 9 26 rfl rfl);exact Kn.apure fh .none (Kn.ex_pick fh (.t rfl) .const) rfl hS trivial
    · refine Kn.ok fun fa u L fh hS hH => ?_;replace fh:=fh.more (hH 19 36 rfl rfl);exact Kn.apure fh .none (Kn.ex_assign fh (.t rfl)) rfl hS trivial
    intro fa w1 fh hS hT;clear fg fb;replace fh:=fh.more (hT 20 4 rfl);clear hT;refine hK4 _ _ ?_;clear hK4 K4
    revert fa
    refine Kn.Z.t (.c 4 rfl .n) ?_;obtain ⟨q, rfl⟩ := hS;intro fa fh;refine wp_ret ?_;exact Kn.ret1 fh rfl rfl ⟨rfl, q, rfl⟩
end Go.Proofs.YtchdlgdmomcemaaGreatDoor.Csr
end
section
namespace Go.Proofs.YtchdlgdmomcemaaGreatDoor.Prb
open Go Go.RowKit Go.Lib RowG Edg Csr Num Shd Man
structure Fr (lo hi : Nat) (w w' : World) : Prop where
  os : w'.os = w.os
  tape : w'.tape = w.tape
  output : w'.output = w.output
  size : w.heap.size ≤ w'.heap.size
  block : ∀ k, k < w.heap.size → k < lo ∨ hi ≤ k → w'.heap[k]? = w.heap[k]?
section
variable {lo hi : Nat} {u v w : World}
theorem Fr.refl (lo hi : Nat) (w : World) : Fr lo hi w w := ⟨rfl, rfl, rfl, Nat.le_refl _, fun _ _ _ => rfl⟩
theorem Fr.trans (h : Fr lo hi u v) (k : Fr lo hi v w) : Fr lo hi u w :=
  ⟨k.os.trans h.os, k.tape.trans h.tape, k.output.trans h.output, Nat.le_trans h.size k.size, fun i hi' hb => (k.block i (by have := h.size; omega) hb).trans (h.block i hi' hb)⟩
theorem Fr.of_below (h : Below u.heap.size u v) : Fr lo hi u v := ⟨h.os, h.tape, h.output, h.size, fun k hk _ => h.block k hk⟩
theorem Fr.below {B : Nat} (h : Fr lo hi u v) (hb : B ≤ lo) (hB : B ≤ u.heap.size) : Below B u v := ⟨h.os, h.tape, h.output, h.size, fun k hk => h.block k (by omega) (.inl (by omega))⟩
def IAt (B : Nat) (u : World) (A : Option Addr) (l : List Int) : Prop := IIn u A l ∧ ∀ q, A = some q → B ≤ q.block
theorem IAt.fr {A : Option Addr} {l : List Int} (h : IAt hi u A l) (hf : Fr lo hi u v) : IAt hi v A l := by
  refine ⟨fun i hi' => ?_, h.2⟩;obtain ⟨b, o, e, hlt, hc⟩ := h.1 i hi';have hg := h.2 _ e;exact ⟨b, o, e, Nat.lt_of_lt_of_le hlt hf.size, by simp only [World.cell?, hf.block b hlt (.inr hg)]; exact hc⟩
theorem IAt.mono {B B' : Nat} {A : Option Addr} {l : List Int} (h : IAt B u A l) (hB : B' ≤ B) : IAt B' u A l := ⟨h.1, fun q e => Nat.le_trans hB (h.2 q e)⟩
theorem Fr.rep {B g N : Nat} {ys : List (Int × Int)} (h : Fr lo hi u v) (hR : Rep u B g N ys) (hB : hi ≤ B) : Rep v B g N ys := hR.up h.size fun b h1 h2 => h.block b h2 (.inr (by omega))
end
def offK (ys : List (Int × Int)) (N E k : Nat) : Nat := (Blk.catK ((partsF ys N E (cutM N E)).take (k / E))).size
def lenK (ys : List (Int × Int)) (N E k : Nat) : Nat := (partF ys N E (k / E)).size
def nA (ys : List (Int × Int)) (N E k : Nat) : Int := Blk.ndA (offK ys N E k) (lenK ys N E k)
def nB (ys : List (Int × Int)) (N E k : Nat) : Int := Blk.ndB (offK ys N E k) (lenK ys N E k)
def nK (ys : List (Int × Int)) (N E k : Nat) : Nat := (nB ys N E k - nA ys N E k + 1).toNat
section
variable {ys : List (Int × Int)} {N E k : Nat}
theorem len_3 (hk : k < N) (hE : 1 ≤ E) : 3 ≤ lenK ys N E k := part_3 ys (by have := Nat.div_mul_le_self k E; omega)
theorem n_ab (hE : 1 ≤ E) (hk : k < N) : 0 ≤ nA ys N E k ∧ nA ys N E k ≤ nB ys N E k := by
  have h := len_3 (ys := ys) hk hE;unfold nA nB Blk.ndA Blk.ndB;rw [if_neg (by omega), if_neg (by omega)];have : offK ys N E k / 64 ≤ (offK ys N E k + lenK ys N E k - 1) / 64 := Nat.div_le_div_right (by omega);omega
theorem nk_int (hE : 1 ≤ E) (hk : k < N) : (nK ys N E k : Int) = nB ys N E k - nA ys N E k + 1 := by
  have h := n_ab (ys := ys) hE hk;unfold nK;omega
def endK (ys : List (Int × Int)) (N E i : Nat) : Nat := (Blk.catK ((partsF ys N E (cutM N E)).take (i + 1))).size
theorem node_cut (hE : 1 ≤ E) (hk : k < N) : k / E < cutM N E := by
  rw [cutM_cut hE (by omega)];unfold cutN;have h1 : k / E ≤ (N - 1) / E := Nat.div_le_div_right (by omega);omega
theorem end_eq (hE : 1 ≤ E) (hk : k < N) : offK ys N E k + lenK ys N E k = endK ys N E (k / E) := by
  unfold offK lenK endK;rw [← Blk.catK_take (partsF_at ys N E (cutM N E) (k / E) (node_cut hE hk)), ByteArray.size_append]
theorem cat_mono (l : List ByteArray) : ∀ i j, i ≤ j → (Blk.catK (l.take i)).size ≤ (Blk.catK (l.take j)).size := by
  intro i j hij
  induction hij with
  | refl => exact Nat.le_refl _
  | @step m _ ih =>
    refine Nat.le_trans ih ?_;rcases Nat.lt_or_ge m l.length with h | h
    · rw [← Blk.catK_take (List.getElem?_eq_getElem h), ByteArray.size_append];omega
    · rw [List.take_of_length_le h, List.take_of_length_le (by omega)];exact Nat.le_refl _
theorem end_mono {i j : Nat} (h : i ≤ j) : endK ys N E i ≤ endK ys N E j := cat_mono _ _ _ (by omega)
theorem end_all {i : Nat} (h : cutM N E ≤ i + 1) : endK ys N E i = (allF ys N E).size := by
  unfold endK allF;rw [List.take_of_length_le (by rw [partsF_len]; exact h)]
theorem end_le (i : Nat) : endK ys N E i ≤ (allF ys N E).size := by
  rw [← end_all (i := max i (cutM N E)) (by omega)];exact end_mono (by omega)
theorem nB_eq (hE : 1 ≤ E) (hk : k < N) : nB ys N E k = (((endK ys N E (k / E) - 1) / 64 : Nat) : Int) ∧ 3 ≤ endK ys N E (k / E) := by
  have h := len_3 (ys := ys) hk hE;have e := end_eq (ys := ys) hE hk;unfold nB Blk.ndB;rw [if_neg (by omega), e];exact ⟨rfl, by omega⟩
theorem nB_mono {j : Nat} (hE : 1 ≤ E) (hj : j < N) (hkj : k ≤ j) : nB ys N E k ≤ nB ys N E j := by
  rw [(nB_eq hE (by omega)).1, (nB_eq hE hj).1];have h1 := end_mono (ys := ys) (N := N) (E := E) (Nat.div_le_div_right (c := E) hkj);have : (endK ys N E (k / E) - 1) / 64 ≤ (endK ys N E (j / E) - 1) / 64 := Nat.div_le_div_right (by omega);omega
theorem nB_lt (hE : 1 ≤ E) (hk : k < N) : nB ys N E k < (Blk.cntK (allF ys N E).size : Int) := by
  obtain ⟨h1, h2⟩ := nB_eq (ys := ys) hE hk;have h3 := end_le (ys := ys) (N := N) (E := E) (k / E);rw [h1];unfold Blk.cntK;omega
theorem nB_last (hE : 1 ≤ E) (hN : 1 ≤ N) : nB ys N E (N - 1) = (Blk.cntK (allF ys N E).size : Int) - 1 := by
  obtain ⟨h1, h2⟩ := nB_eq (ys := ys) (N := N) (k := N - 1) hE (by omega);have h3 : endK ys N E ((N - 1) / E) = (allF ys N E).size := end_all (by rw [cutM_cut hE hN]; unfold cutN; omega);rw [h1];rw [h3] at h2 ⊢;unfold Blk.cntK;omega
end
def lastK (ys : List (Int × Int)) (N E : Nat) : Nat → Int
  | 0 => -1
  | k + 1 => nB ys N E k
theorem last_succ (ys : List (Int × Int)) (N E k : Nat) : lastK ys N E (k + 1) = nB ys N E k := rfl
theorem last_le {ys : List (Int × Int)} {N E k : Nat} (hE : 1 ≤ E) (hk : k < N) : lastK ys N E k ≤ nB ys N E k := by
  cases k with
  | zero => have := n_ab (ys := ys) hE hk; show (-1 : Int) ≤ _; omega
  | succ k => exact nB_mono hE hk (by omega)
theorem last_end {ys : List (Int × Int)} {N E : Nat} (hE : 1 ≤ E) (hN : 1 ≤ N) : lastK ys N E N = (Blk.cntK (allF ys N E).size : Int) - 1 := by
  obtain ⟨m, rfl⟩ : ∃ m, N = m + 1 := ⟨N - 1, by omega⟩;exact nB_last hE hN
structure Ver (N E : Nat) (ys : List (Int × Int)) : Prop where
  e1 : 1 ≤ E
  c : cutM N E ≤ 64
  n : N ≤ 100
  y : ys.length ≤ 200
  good : Edg.Good (N : Int) ys
  srt : Srt ys
theorem Ver.man {N E : Nat} {ys : List (Int × Int)} (h : Ver N E ys) : Man.Good (manF 1 N E ys) := man_good (by decide) (by decide) (by have := h.n; omega) h.y h.e1 h.c
theorem Ver.cnt {N E : Nat} {ys : List (Int × Int)} (h : Ver N E ys) : Blk.cntK (allF ys N E).size ≤ 2048 := by
  have h1 := h.man.b;have h2 := h.man.b1;rw [← h1] at h2;have h3 : (manF 1 N E ys).b = (Blk.cntK (allF ys N E).size : Int) := rfl;omega
theorem Ver.nk {N E k : Nat} {ys : List (Int × Int)} (h : Ver N E ys) (hk : k < N) : nK ys N E k ≤ 2048 := by
  have h1 := nk_int (ys := ys) h.e1 hk;have h2 := n_ab (ys := ys) h.e1 hk;have h3 := nB_lt (ys := ys) h.e1 hk;have h4 := h.cnt;omega
def Played (n E : Int) (xs : List (Int × Int)) : Prop := n ≤ 100 ∧ xs.length ≤ 200 ∧ Edg.Good n xs ∧ 1 ≤ E ∧ cutM n.toNat E.toNat ≤ 64
end Go.Proofs.YtchdlgdmomcemaaGreatDoor.Prb
end
section
namespace Go.Proofs.YtchdlgdmomcemaaGreatDoor.Kn
open Go
section
variable {n : Nat} {l : List (Nat × Value)} {a : Act} {d : Option Tmp} {t : TypeId} {p : String} {af : Array Edge} {g : Option (Nat × Bool)} {x : Operand}
theorem ex_callc {f : FuncId} {cs : List Value} {xs : Array Operand} {us : List Value} {ats : Array TypeId} (h : Kn n l a) (hf : Val l x (.func (.func f) #[] cs.toArray)) (hx : Vals l xs.toList us) : execOp a.eval ⟨d, .call { callee := .value x, args := xs, argTypes := ats }, t, p, af, g⟩ = callFunc f (us ++ cs).toArray := by
  have e : xs.map a.eval = us.toArray := by have := h.vals hx; rwa [Array.toArray_toList] at this
  have hv := h.val hf
  have e2 : execOp a.eval ⟨d, .call { callee := .value x, args := xs, argTypes := ats }, t, p, af, g⟩ = callFunc f (#[] ++ xs.map a.eval ++ cs.toArray) := by
    simp only [execOp, resolve, hv]
    rfl
  rw [e2, e];simp
theorem ex_makeFunc {fn : Fn} {fs cs : Array Operand} {us vs : List Value} (h : Kn n l a) (hf : Vals l fs.toList us) (hc : Vals l cs.toList vs) : execOp a.eval ⟨d, .makeFunc fn fs cs, t, p, af, g⟩ = vl (Pure.pure (.func fn us.toArray vs.toArray)) := by
  have e1 : fs.map a.eval = us.toArray := by have := h.vals hf; rwa [Array.toArray_toList] at this
  have e2 : cs.map a.eval = vs.toArray := by have := h.vals hc; rwa [Array.toArray_toList] at this
  simp only [execOp, e1, e2]
  rfl
end
end Go.Proofs.YtchdlgdmomcemaaGreatDoor.Kn
end
section
namespace Go.Proofs.YtchdlgdmomcemaaGreatDoor.RowG
open Go Go.RowKit Go.Lib
variable {α : Type} {R : Rw α} {e : TypeId} {n cap : Nat} {A : Option Addr} {l : List α}
theorem tx_cell {w : World} {A : Option Addr} {ts : List ByteArray} (h : RIn txR w A ts) {k : Nat} {s : ByteArray} (hk : ts[k]? = some s) : ∃ b o, A = some ⟨b, o, none⟩ ∧ b < w.heap.size ∧ w.cell? ⟨b, o + k, none⟩ = some (.string s) := by
  obtain ⟨b, o, h1, h2, h3⟩ := h k s hk;have h4 := h3 0 (.string s) rfl;have e : o + (k * txR.size + 0) = o + k := by show o + (k * 1 + 0) = _; omega
  rw [e] at h4;exact ⟨b, o, h1, h2, h4⟩
end Go.Proofs.YtchdlgdmomcemaaGreatDoor.RowG
namespace Go.Proofs.YtchdlgdmomcemaaGreatDoor.Kn
open Go
theorem satU_run8 {Ko : World → Prop} {r : Result Unit} {v : World} (h : r = .ok () v) (H : Ko v) : Kn.SatU Ko r := by rw [h]; exact H
end Go.Proofs.YtchdlgdmomcemaaGreatDoor.Kn
namespace Go.Proofs.YtchdlgdmomcemaaGreatDoor.Blk
open Go Go.RowKit Go.Lib RowG Num
theorem elemTx8 : Own.Elem Tryz.prog 35 9 (.string ⟨#[]⟩) 1 16 := ⟨Tryz.underlying35, by kernel_rfl, rfl, by decide⟩
theorem store_tx8 (s : ByteArray) (w : World) (p : Addr) (x : Value) (h1 : w.cell? p = some x) (h2 : w.frozen? p = false) : (Instr.storeAt 9 (.pointer (some p)) (.string s)).run Tryz.prog w = .ok () (w.setCell p (.string s)) := by
  refine satU_run ?_;go_simp
def errno (c : Int) : Value := .iface 66 (.int .i64 c)
def Tells (ts : List ByteArray) (i : Int) (e : Ending) : Prop := ((i < 0 ∨ (ts.length : Int) ≤ i) ∧ e = .returned (.tuple #[.string ⟨#[]⟩, errno 9])) ∨ ∃ k s, i = ((k : Nat) : Int) ∧ ts[k]? = some s ∧ e = .returned (.tuple #[.string s, .nilIface])
def IsSrc (v : Value) (ts : List ByteArray) (B : Nat) (u : World) : Prop := ∃ f cs, v = .func (.func f) #[] (cs : List Value).toArray ∧ (∀ (args : Array Value) (w : World), (callFunc f args).run Tryz.prog w = .ok (.enter f args) w) ∧
  ∀ u', But (fun b => b < B) u u' → ∀ i : Int, Calls Tryz.prog f ([Value.int .i64 i] ++ cs).toArray u' fun e w' => Tells ts i e ∧ Below u'.heap.size u' w'
structure Aside (lo hi : Nat) (v v' : World) : Prop where
  os : v'.os = v.os
  tape : v'.tape = v.tape
  output : v'.output = v.output
  but : But (fun b => lo ≤ b ∧ b < hi) v v'
theorem Aside.of_below {lo hi : Nat} {v v' : World} (h : Below v.heap.size v v') : Aside lo hi v v' := ⟨h.os, h.tape, h.output, But.of_below h⟩
theorem Aside.refl {lo hi : Nat} (v : World) : Aside lo hi v v := .of_below (Below.refl _ _)
theorem Aside.trans {lo hi : Nat} {a b c : World} (h : Aside lo hi a b) (k : Aside lo hi b c) : Aside lo hi a c := ⟨k.os.trans h.os, k.tape.trans h.tape, k.output.trans h.output, h.but.trans k.but⟩
theorem Aside.put {lo hi : Nat} {a b : World} (h : Aside lo hi a b) (g o : Nat) (x : Value) (h1 : lo ≤ g) (h2 : g < hi) : Aside lo hi a (b.setCell ⟨g, o, none⟩ x) := h.trans ⟨rfl, rfl, rfl, (But.of_setCell b ⟨g, o, none⟩ x).mono fun b _ e => by
  subst e
  exact ⟨h1, h2⟩⟩
def Left8 (J : World → Prop) (lo : Nat) (u v : World) : Prop := u.heap.size ≤ v.heap.size ∧ (∀ b, lo ≤ b → b < u.heap.size → v.heap[b]? = u.heap[b]?) ∧ ∀ v', Aside lo u.heap.size v v' → J v'
structure Turn (X : Nat → Prop) (v v' : World) : Prop where
  os : v'.os = v.os
  tape : v'.tape = v.tape
  output : v'.output = v.output
  but : But X v v'
theorem Turn.of_below {X : Nat → Prop} {u u' : World} (h : Below u.heap.size u u') : Turn X u u' := ⟨h.os, h.tape, h.output, But.of_below h⟩
theorem Aside.turn {X : Nat → Prop} {lo hi : Nat} {v v' : World} (h : Aside lo hi v v') (hx : ∀ b, lo ≤ b → b < hi → X b) : Turn X v v' := ⟨h.os, h.tape, h.output, h.but.mono fun b _ e => hx b e.1 e.2⟩
def Src8 (J : List Int → World → Prop) (ts : List ByteArray) (x : Value) : Prop := ∃ (K : List Int → (Nat → Prop) → World → Prop) (f : FuncId) (vs cs : List Value), x = .func (.func f) vs.toArray cs.toArray ∧ (∀ (args : Array Value) (w : World), (callFunc f args).run Tryz.prog w = .ok (.enter f args) w) ∧
  (∀ ls u, J ls u → K ls (fun _ => False) u) ∧ (∀ ls X u, K ls X u → J ls u ∧ ∀ b, X b → b < u.heap.size) ∧
  (∀ ls X u (i : Int), ls.length ≤ 99999 → K ls X u → Calls Tryz.prog f (vs ++ [Value.int .i64 i] ++ cs).toArray u fun e v => Tells ts i e ∧ K (ls ++ [i]) X v ∧ u.heap.size ≤ v.heap.size ∧ ∀ b, X b → v.heap[b]? = u.heap[b]?) ∧
  ∀ ls X u u', K ls X u → Turn X u u' → K ls (fun b => X b ∨ (u.heap.size ≤ b ∧ b < u'.heap.size)) u'
end Go.Proofs.YtchdlgdmomcemaaGreatDoor.Blk
end
section
namespace Go.Proofs.YtchdlgdmomcemaaGreatDoor.Blk
open Go Go.RowKit Go.Lib
set_option maxRecDepth 100000 in
set_option maxHeartbeats 2000000 in
theorem count_any (n : Nat) (w : World) (hn : n ≤ 9223372036854775807) :
    Calls Tryz.prog 45 #[.int .i64 n] w fun e w' => e = .returned (.int .i64 (cntK n : Int)) ∧ w = w' := by
  refine Kn.Z.cl Tryz.func45 rfl Tryz.ntmps45 rfl (.c 0 rfl .n) ?_;refine Kn.Z.f fun K1 hK1=>?_;refine Kn.Z.u (.a .c .n) ?_;refine Kn.Z.e hK1 ?_;clear hK1 K1
  by_cases h1 : (n : Int) < 1
  · refine Kn.Z.q fun K2 hK2=>?_;refine Kn.Z.f fun K3 hK3=>?_;refine Kn.Z.u (.m (.t rfl) .n) ?_;refine Kn.Z.s .o (.bin (.t rfl) .c) fun Ko Kp=>?_;go_simp;(try go_bits);refine Kp _ _ ?_;clear Kp Ko;refine Kn.Z.e hK3 ?_;clear hK3 K3;refine Kn.Z.y (.t rfl) ?_;refine Kn.Z.f fun K4 hK4=>?_;refine Kn.Z.u (.a .c .n) ?_;refine Kn.Z.e hK4 ?_;clear hK4 K4;intro fa fh;refine wp_ret ?_;refine Kn.then_ret ?_;obtain rfl : n = 0 := by omega
    exact Kn.ret1 fh rfl rfl ⟨rfl, rfl⟩
  obtain ⟨m, hm⟩ : ∃ m, n - 1 = m := ⟨_, rfl⟩;obtain ⟨c, hc⟩ : ∃ c, m / 64 = c := ⟨_, rfl⟩;obtain ⟨d, hd⟩ : ∃ d, cntK n = d := ⟨_, rfl⟩;have hcd : c + 1 = d := by unfold cntK at hd; omega
  intro fb fg;rw [hd];have r1 : (n : Int) - 1 = (m : Int) := by omega
  have r2 : (m : Int).tdiv 64 = (c : Int) := by rw [Int.tdiv_eq_ediv_of_nonneg (by omega)]; omega
  have r3 : (c : Int) + 1 = (d : Int) := by omega
  have hc2 : c ≤ 144115188075855872 := by omega
  have hd2 : d ≤ 144115188075855873 := by omega
  clear hd hm hc hcd
  revert fb
  refine Kn.Z.q fun K2 hK2=>?_;refine Kn.Z.f fun K3 hK3=>?_;refine Kn.Z.u (.m (.t rfl) .n) ?_;refine Kn.Z.s .o (.bin (.t rfl) .c) fun Ko Kp=>?_;go_simp;(try go_bits);refine Kp _ _ ?_;clear Kp Ko;refine Kn.Z.e hK3 ?_;clear hK3 K3;refine Kn.Z.no (.t rfl) ?_;refine Kn.Z.j hK2 ?_;clear hK2 K2;refine Kn.Z.f fun K4 hK4=>?_;refine Kn.Z.u (.m (.t rfl) .n) ?_;refine Kn.Z.s .o (.bin (.t rfl) .c) fun Ko Kp=>?_;go_simp;(try go_bits);refine Kp _ _ ?_;clear Kp Ko;refine Kn.Z.s .o (.bin (.t rfl) .c) fun Ko Kp=>?_;go_simp;(try go_bits);refine Kp _ _ ?_;clear Kp Ko;refine Kn.Z.s .o (.bin (.t rfl) .c) fun Ko Kp=>?_;go_simp;(try go_bits);refine Kp _ _ ?_;clear Kp Ko;refine Kn.Z.u (.a (.t rfl) .n) ?_;refine Kn.Z.e hK4 ?_;clear hK4 K4;intro fa fh;refine wp_ret ?_;exact Kn.ret1 fh rfl rfl ⟨rfl, rfl⟩
set_option maxRecDepth 100000 in
set_option maxHeartbeats 2000000 in
theorem size_any (n : Nat) (i : Int) (w : World) (hn : n ≤ 9223372036854775807) :
    Calls Tryz.prog 74 #[.int .i64 n, .int .i64 i] w fun e w' => e = .returned (.int .i64 (szK n i : Int)) ∧ w = w' := by
  refine Kn.Z.cl Tryz.func74 rfl Tryz.ntmps74 rfl (.c 0 rfl (.c 1 rfl .n)) ?_;refine Kn.Z.f fun K1 hK1=>?_;refine Kn.Z.u (.a .c .n) ?_;refine Kn.Z.e hK1 ?_;clear hK1 K1
  by_cases h1 : i < 0
  · refine Kn.Z.q fun K2 hK2=>?_;refine Kn.Z.f fun K3 hK3=>?_;refine Kn.Z.u (.m (.t rfl) .n) ?_;refine Kn.Z.s .o (.bin (.t rfl) .c) fun Ko Kp=>?_;go_simp;(try go_bits);refine Kp _ _ ?_;clear Kp Ko;refine Kn.Z.u (.m (.t rfl) (.k (.s rfl rfl rfl) (.k (.s rfl rfl rfl) (.k (.s rfl rfl rfl) (.k (.s rfl rfl rfl) (.e .o (.pick (.t rfl) .c) .n)))))) ?_;refine Kn.Z.e hK3 ?_;clear hK3 K3;refine Kn.Z.y (.t rfl) ?_;refine Kn.Z.f fun K4 hK4=>?_;refine Kn.Z.u (.a .c .n) ?_;refine Kn.Z.e hK4 ?_;clear hK4 K4;intro fa fh;refine wp_ret ?_;refine Kn.then_ret ?_;rw [show szK n i = 0 by unfold szK; rw [if_neg (by omega)]];exact Kn.ret1 fh rfl rfl ⟨rfl, rfl⟩
  by_cases h2 : (cntK n : Int) ≤ i
  · refine Kn.Z.q fun K2 hK2=>?_;refine Kn.Z.f fun K3 hK3=>?_;refine Kn.Z.u (.m (.t rfl) .n) ?_;refine Kn.Z.s .o (.bin (.t rfl) .c) fun Ko Kp=>?_;go_simp;(try go_bits);refine Kp _ _ ?_;clear Kp Ko;refine Kn.Z.u (.m (.t rfl) (.e (.s rfl rfl rfl) (.move (.t rfl)) (.e (.s rfl rfl rfl) (.move (.t rfl)) .n))) ?_;refine Kn.Z.c (.s rfl rfl rfl) (.call (.c (.t rfl) .n)) Tryz.call45 (count_any n w hn) fun e w1 hp=>?_;obtain ⟨rfl, rfl⟩ := hp;refine ⟨_,rfl,?_⟩;refine Kn.Z.s (.s rfl rfl rfl) (.bin (.t rfl) (.t rfl)) fun Ko Kp=>?_;go_simp;(try go_bits);refine Kp _ _ ?_;clear Kp Ko;refine Kn.Z.u (.e .o (.pick (.t rfl) (.t rfl)) .n) ?_;refine Kn.Z.e hK3 ?_;clear hK3 K3;refine Kn.Z.y (.t rfl) ?_;refine Kn.Z.f fun K4 hK4=>?_;refine Kn.Z.u (.a .c .n) ?_;refine Kn.Z.e hK4 ?_;clear hK4 K4;intro fa fh;refine wp_ret ?_;refine Kn.then_ret ?_;rw [show szK n i = 0 by unfold szK; rw [if_neg (by omega)]];exact Kn.ret1 fh rfl rfl ⟨rfl, rfl⟩
  obtain ⟨k, rfl⟩ := Int.eq_ofNat_of_zero_le (show 0 ≤ i by omega);have hk : k < cntK n := by omega
  intro fb fg;rw [szK_at hk];obtain ⟨p, hp⟩ : ∃ p, 64 * k = p := ⟨_, rfl⟩;rw [hp];have hpn : p < n := by unfold cntK at hk; omega
  obtain ⟨q, hq⟩ : ∃ q, n - p = q := ⟨_, rfl⟩;rw [hq];have r1 : (k : Int) * 64 = (p : Int) := by omega
  have r2 : (n : Int) - (p : Int) = (q : Int) := by omega
  clear hp hq hpn hk
  revert fb
  refine Kn.Z.q fun K2 hK2=>?_;refine Kn.Z.f fun K3 hK3=>?_;refine Kn.Z.u (.m (.t rfl) .n) ?_;refine Kn.Z.s .o (.bin (.t rfl) .c) fun Ko Kp=>?_;go_simp;(try go_bits);refine Kp _ _ ?_;clear Kp Ko;refine Kn.Z.u (.m (.t rfl) (.e (.s rfl rfl rfl) (.move (.t rfl)) (.e (.s rfl rfl rfl) (.move (.t rfl)) .n))) ?_;refine Kn.Z.c (.s rfl rfl rfl) (.call (.c (.t rfl) .n)) Tryz.call45 (count_any n w hn) fun e w1 hp=>?_;obtain ⟨rfl, rfl⟩ := hp;refine ⟨_,rfl,?_⟩;refine Kn.Z.s (.s rfl rfl rfl) (.bin (.t rfl) (.t rfl)) fun Ko Kp=>?_;go_simp;(try go_bits);refine Kp _ _ ?_;clear Kp Ko;refine Kn.Z.u (.e .o (.pick (.t rfl) (.t rfl)) .n) ?_;refine Kn.Z.e hK3 ?_;clear hK3 K3;refine Kn.Z.no (.t rfl) ?_;refine Kn.Z.j hK2 ?_;clear hK2 K2;refine Kn.Z.f fun K4 hK4=>?_;refine Kn.Z.u (.m (.t rfl) (.m (.t rfl) .n)) ?_;refine Kn.Z.s .o (.bin (.t rfl) .c) fun Ko Kp=>?_;go_simp;(try go_bits);refine Kp _ _ ?_;clear Kp Ko;refine Kn.Z.s .o (.bin (.t rfl) (.t rfl)) fun Ko Kp=>?_;go_simp;(try go_bits);refine Kp _ _ ?_;clear Kp Ko;refine Kn.Z.s .o (.min (.c .c (.c (.t rfl) .n))) fun Ko Kp=>?_;go_simp;(try go_bits);refine Kp _ _ ?_;clear Kp Ko;refine Kn.Z.u (.a (.t rfl) .n) ?_;refine Kn.Z.e hK4 ?_;clear hK4 K4;refine Kn.Z.t (.c 4 rfl .n) ?_;intro fb fg;refine wp_ret ?_;refine Kn.ret1 fg rfl rfl ⟨?_, rfl⟩
  by_cases hq : 64 ≤ q
  · first | go_num | (simp [Nat.min_eq_left hq]; try omega)
  · first | go_num | (simp [Nat.min_eq_right (Nat.le_of_not_le hq)]; try omega)
set_option maxRecDepth 100000 in
set_option maxHeartbeats 2000000 in
theorem needs_in (n f m : Nat) (w : World) (hn : n ≤ 9223372036854775807) (hfm : f + m ≤ n) :
    Calls Tryz.prog 31 #[.int .i64 n, .int .i64 f, .int .i64 m] w fun e w' => e = .returned (.tuple #[.int .i64 (ndA f m), .int .i64 (ndB f m), .nilIface]) ∧ w = w' := by
  refine Kn.Z.cl Tryz.func31 rfl Tryz.ntmps31 rfl (.c 0 rfl (.c 1 rfl (.c 2 rfl .n))) ?_;refine Kn.Z.f fun K1 hK1=>?_;refine Kn.Z.u (.a .c (.a .c (.a .c .n))) ?_;refine Kn.Z.e hK1 ?_;clear hK1 K1;obtain ⟨d, hd⟩ : ∃ d, n - f = d := ⟨_, rfl⟩;have r1 : (n : Int) - (f : Int) = (d : Int) := by omega
  have h3 : ¬ n < f := by omega
  have h4 : ¬ d < m := by omega
  by_cases hm : m = 0
  · subst hm;intro fb fg;unfold ndA ndB;simp only [if_true];clear hd hfm
    revert fb
    refine Kn.Z.q fun K2 hK2=>?_;refine Kn.Z.f fun K3 hK3=>?_;refine Kn.Z.u (.m (.t rfl) .n) ?_;refine Kn.Z.s .o (.bin (.t rfl) .c) fun Ko Kp=>?_;go_simp;(try go_bits);refine Kp _ _ ?_;clear Kp Ko;refine Kn.Z.u (.m (.t rfl) (.e (.s rfl rfl rfl) (.move (.t rfl)) .n)) ?_;refine Kn.Z.s (.s rfl rfl rfl) (.bin (.t rfl) .c) fun Ko Kp=>?_;go_simp;(try go_bits);refine Kp _ _ ?_;clear Kp Ko;refine Kn.Z.u (.e .o (.pick (.t rfl) (.t rfl)) (.m (.t rfl) (.e (.s rfl rfl rfl) (.move (.t rfl)) (.e (.s rfl rfl rfl) (.move (.t rfl)) .n)))) ?_;refine Kn.Z.s (.s rfl rfl rfl) (.bin (.t rfl) (.t rfl)) fun Ko Kp=>?_;go_simp;(try go_bits);refine Kp _ _ ?_;clear Kp Ko;refine Kn.Z.u (.e .o (.pick (.t rfl) (.t rfl)) (.m (.t rfl) (.e (.s rfl rfl rfl) (.move (.t rfl)) (.e (.s rfl rfl rfl) (.move (.t rfl)) (.e (.s rfl rfl rfl) (.move (.t rfl)) .n))))) ?_;refine Kn.Z.s (.s rfl rfl rfl) (.bin (.t rfl) (.t rfl)) fun Ko Kp=>?_;go_simp;(try go_bits);refine Kp _ _ ?_;clear Kp Ko;refine Kn.Z.s (.s rfl rfl rfl) (.bin (.t rfl) (.t rfl)) fun Ko Kp=>?_;go_simp;(try go_bits);refine Kp _ _ ?_;clear Kp Ko;refine Kn.Z.u (.e .o (.pick (.t rfl) (.t rfl)) .n) ?_;refine Kn.Z.e hK3 ?_;clear hK3 K3;refine Kn.Z.t (.c 26 rfl (.c 8 rfl (.c 7 rfl (.c 6 rfl (.c 1 rfl (.c 2 rfl .n)))))) ?_;refine Kn.Z.no (.t rfl) ?_;refine Kn.Z.j hK2 ?_;clear hK2 K2;refine Kn.Z.q fun K4 hK4=>?_;refine Kn.Z.f fun K5 hK5=>?_;refine Kn.Z.u (.m (.t rfl) .n) ?_;refine Kn.Z.s .o (.bin (.t rfl) .c) fun Ko Kp=>?_;go_simp;(try go_bits);refine Kp _ _ ?_;clear Kp Ko;refine Kn.Z.e hK5 ?_;clear hK5 K5;refine Kn.Z.y (.t rfl) ?_;refine Kn.Z.f fun K6 hK6=>?_;refine Kn.Z.u (.a .c (.a .c (.a .c .n))) ?_;refine Kn.Z.e hK6 ?_;clear hK6 K6;intro fa fh;refine wp_ret ?_;refine Kn.then_ret ?_;exact Kn.ret3 fh rfl rfl rfl rfl ⟨rfl, rfl⟩
  obtain ⟨a, ha⟩ : ∃ a, f / 64 = a := ⟨_, rfl⟩;obtain ⟨s, hs⟩ : ∃ s, f + m = s := ⟨_, rfl⟩;obtain ⟨t, ht⟩ : ∃ t, s - 1 = t := ⟨_, rfl⟩;obtain ⟨b, hb⟩ : ∃ b, t / 64 = b := ⟨_, rfl⟩;have r2 : (f : Int).tdiv 64 = (a : Int) := by rw [Int.tdiv_eq_ediv_of_nonneg (by omega)]; omega
  have r3 : (f : Int) + (m : Int) = (s : Int) := by omega
  have r4 : (s : Int) - 1 = (t : Int) := by omega
  have r5 : (t : Int).tdiv 64 = (b : Int) := by rw [Int.tdiv_eq_ediv_of_nonneg (by omega)]; omega
  have qz : ((m : Int) == 0) = false := by rw [beq_eq_false_iff_ne]; omega
  have hs2 : s ≤ 9223372036854775807 := by omega
  have ha2 : a ≤ 144115188075855872 := by omega
  have hb2 : b ≤ 144115188075855872 := by omega
  intro fb fg;unfold ndA ndB;simp only [if_neg hm, hs, ht, ha, hb];clear hd hfm ha hs ht hb hm
  revert fb
  refine Kn.Z.q fun K2 hK2=>?_;refine Kn.Z.f fun K3 hK3=>?_;refine Kn.Z.u (.m (.t rfl) .n) ?_;refine Kn.Z.s .o (.bin (.t rfl) .c) fun Ko Kp=>?_;go_simp;(try go_bits);refine Kp _ _ ?_;clear Kp Ko;refine Kn.Z.u (.m (.t rfl) (.e (.s rfl rfl rfl) (.move (.t rfl)) .n)) ?_;refine Kn.Z.s (.s rfl rfl rfl) (.bin (.t rfl) .c) fun Ko Kp=>?_;go_simp;(try go_bits);refine Kp _ _ ?_;clear Kp Ko;refine Kn.Z.u (.e .o (.pick (.t rfl) (.t rfl)) (.m (.t rfl) (.e (.s rfl rfl rfl) (.move (.t rfl)) (.e (.s rfl rfl rfl) (.move (.t rfl)) .n)))) ?_;refine Kn.Z.s (.s rfl rfl rfl) (.bin (.t rfl) (.t rfl)) fun Ko Kp=>?_;go_simp;(try go_bits);refine Kp _ _ ?_;clear Kp Ko;refine Kn.Z.u (.e .o (.pick (.t rfl) (.t rfl)) (.m (.t rfl) (.e (.s rfl rfl rfl) (.move (.t rfl)) (.e (.s rfl rfl rfl) (.move (.t rfl)) (.e (.s rfl rfl rfl) (.move (.t rfl)) .n))))) ?_;refine Kn.Z.s (.s rfl rfl rfl) (.bin (.t rfl) (.t rfl)) fun Ko Kp=>?_;go_simp;(try go_bits);refine Kp _ _ ?_;clear Kp Ko;refine Kn.Z.s (.s rfl rfl rfl) (.bin (.t rfl) (.t rfl)) fun Ko Kp=>?_;go_simp;(try go_bits);refine Kp _ _ ?_;clear Kp Ko;refine Kn.Z.u (.e .o (.pick (.t rfl) (.t rfl)) .n) ?_;refine Kn.Z.e hK3 ?_;clear hK3 K3;refine Kn.Z.t (.c 26 rfl (.c 8 rfl (.c 7 rfl (.c 6 rfl (.c 1 rfl (.c 2 rfl .n)))))) ?_;refine Kn.Z.no (.t rfl) ?_;refine Kn.Z.j hK2 ?_;clear hK2 K2;refine Kn.Z.q fun K4 hK4=>?_;refine Kn.Z.f fun K5 hK5=>?_;refine Kn.Z.u (.m (.t rfl) .n) ?_;refine Kn.Z.s .o (.bin (.t rfl) .c) fun Ko Kp=>?_;go_simp;(try go_bits);refine Kp _ _ ?_;clear Kp Ko;refine Kn.Z.e hK5 ?_;clear hK5 K5;refine Kn.Z.no (.t rfl) ?_;refine Kn.Z.j hK4 ?_;clear hK4 K4;refine Kn.Z.f fun K6 hK6=>?_;refine Kn.Z.u (.m (.t rfl) .n) ?_;refine Kn.Z.s .o (.bin (.t rfl) .c) fun Ko Kp=>?_;go_simp;(try go_bits);refine Kp _ _ ?_;clear Kp Ko;refine Kn.Z.u (.m (.t rfl) (.m (.t rfl) .n)) ?_;refine Kn.Z.s .o (.bin (.t rfl) (.t rfl)) fun Ko Kp=>?_;go_simp;(try go_bits);refine Kp _ _ ?_;clear Kp Ko;refine Kn.Z.s .o (.bin (.t rfl) .c) fun Ko Kp=>?_;go_simp;(try go_bits);refine Kp _ _ ?_;clear Kp Ko;refine Kn.Z.s .o (.bin (.t rfl) .c) fun Ko Kp=>?_;go_simp;(try go_bits);refine Kp _ _ ?_;clear Kp Ko;refine Kn.Z.u (.a (.t rfl) (.a (.t rfl) (.a .c .n))) ?_;refine Kn.Z.e hK6 ?_;clear hK6 K6;refine Kn.Z.t (.c 8 rfl (.c 7 rfl (.c 6 rfl .n))) ?_;intro fb fg;refine wp_ret ?_;exact Kn.ret3 fg rfl rfl rfl rfl ⟨rfl, rfl⟩
end Go.Proofs.YtchdlgdmomcemaaGreatDoor.Blk
end
