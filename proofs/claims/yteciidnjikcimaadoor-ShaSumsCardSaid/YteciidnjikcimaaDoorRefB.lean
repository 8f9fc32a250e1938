/- Contracts of the document's own answer of layer 2: squares, comparisons, roots. -/
import Derived.Test.YteciidnjikcimaaDoorRefA
namespace Go.Proofs.YteciidnjikcimaaDoor.Sha
open Go.RowKit Go.Lib

set_option maxRecDepth 100000 in
set_option maxHeartbeats 400000 in
theorem square_any (x : Nat) (w : World) (hx : x < 281474976710656) :
    Calls Tryd.prog 28 #[.int .i64 (x : Int)] w fun e w' => ∃ o, Hid (o.length = 7) ∧ Hid (Dig o) ∧ Hid (val o = x * x) ∧ RetI w o e w' := by
  have D := Lib.hid (bigL_dig x hx)
  go_enter Tryd.func28, Tryd.ntmps28
  go_wp2_with (go_at_call 30; refine (big_any x _ hx).mono ?_; rintro e w1 ⟨A1, c1, rfl, hN1, hb1, hf1⟩; refine Hid.out ?_)
  refine Lib.hid ?_
  have HN1 := Lib.hid hN1
  have HB1 := Lib.hid hb1
  clear hN1 hb1
  go_wp2_with (go_at_call 30; refine (big_any x _ hx).mono ?_; rintro e w2 ⟨A2, c2, rfl, hN2, hb2, hf2⟩; refine Hid.out ?_)
  refine Lib.hid ?_
  have HN2 := Lib.hid hN2
  have HN1' := Lib.hid (HN1.out.below hb2)
  have HB2 := Lib.hid (HB1.out.trans (hb2.mono HB1.out.size))
  clear hN2 hb2 HN1
  go_wp2_with (go_at_call 29; refine (product_any (bigL x) (bigL x) A1 A2 c1 c2 _ D.out D.out HN1'.out HN2.out (by show 3 ≤ 20; decide) (by show 3 ≤ 20; decide)).mono ?_; rintro e w3 ⟨o, HL, HD, HV, A3, c3, rfl, hN3, hb3, hf3⟩; refine Hid.out ?_)
  refine Lib.hid ?_
  have HN3 := Lib.hid hN3
  have HB3 := Lib.hid (HB2.out.trans (hb3.mono HB2.out.size))
  clear hN3 hb3
  go_wp2
  go_ret
  exact ⟨o, HL, HD, Lib.hid (by rw [HV.out, bigL_val]), A3, c3, rfl, HN3.out, HB3.out, fun b o e => Nat.le_trans HB2.out.size (hf3 b o e)⟩

theorem retB {a b : Bool} (h : a = b) : Ending.returned (.bool a) = .returned (.bool b) := by rw [h]
/-- Is a number above another? -/
def moreB (a b : List Nat) : Bool := decide (val b < val a)

set_option maxRecDepth 100000 in
set_option maxHeartbeats 1000000 in
theorem more_any (a b : List Nat) (A B : Option Addr) (ca cb : Nat) (w : World) (da : Dig a) (db : Dig b) (hA : NIn w A a) (hB : NIn w B b) (la : a.length ≤ 20) (lb : b.length ≤ 20) :
    Calls Tryd.prog 31 #[.slice A a.length ca, .slice B b.length cb] w fun e w' => e = .returned (.bool (moreB a b)) ∧ w = w' := by
  have HA := Lib.hid hA
  have HB := Lib.hid hB
  have DA := Lib.hid da
  have DB := Lib.hid db
  clear hA hB da db
  go_enter Tryd.func31, Tryd.ntmps31
  go_wp2
  go_loop [5] (fun i => ∃ s : Int, i = .int .i64 s ∧ -1 ≤ s ∧ s ≤ (a.length : Int) + (b.length : Int) ∧ Hid (∀ j : Nat, s < (j : Int) → j ≤ a.length + b.length → wd a j = wd b j)) (fun i => (intOf i + 1).toNat)
  case atStart => exact ⟨_, rfl, by omega, by omega, Lib.hid (fun j h1 h2 => by omega)⟩
  case round =>
    obtain ⟨s, rfl, h1, h2, HE⟩ := hrel
    by_cases hs : 0 ≤ s
    · obtain ⟨j, rfl⟩ := Int.eq_ofNat_of_zero_le hs
      obtain ⟨x, hx⟩ : ∃ x, wd a j = x := ⟨_, rfl⟩
      obtain ⟨y, hy⟩ : ∃ y, wd b j = y := ⟨_, rfl⟩
      have HX := Lib.hid hx
      have HY := Lib.hid hy
      have hx16 : x < 65536 := by rw [← hx]; exact DA.out j
      have hy16 : y < 65536 := by rw [← hy]; exact DB.out j
      by_cases hja : j < a.length
      · by_cases hjb : j < b.length
        · skip
          obtain ⟨ba, oa, rfl, hba, hca0⟩ := HA.out j hja
          simp only [hx] at hca0
          obtain ⟨bb, ob, rfl, hbb, hcb0⟩ := HB.out j hjb
          simp only [hy] at hcb0
          clear hx hy
          by_cases hxy : x = y
          · have HN : Hid (∀ q : Nat, (j : Int) - 1 < (q : Int) → q ≤ a.length + b.length → wd a q = wd b q) := Lib.hid (fun q h3 h4 => by
              by_cases e : q = j
              · subst e; rw [HX.out, HY.out]; try exact hxy
              · exact HE.out q (by omega) h4)
            subst hxy
            go_wp2
            go_round
            case rel => exact ⟨(j : Int) - 1, rfl, by omega, by omega, HN⟩
            case measure => first | (simp [intOf]; done) | (simp [intOf]; omega)
          · have hne : ((x : Int) != (y : Int)) = true := bne_iff_ne.2 (by omega)
            have HM : Hid (moreB a b = decide ((y : Int) < (x : Int))) := Lib.hid (by
              unfold moreB
              rcases Nat.lt_or_ge y x with h | h
              · rw [decide_eq_true (show (y : Int) < (x : Int) by omega)]
                exact decide_eq_true (more_val a b j (a.length + b.length + 1) (by omega) (by omega) DA.out DB.out (by omega) (fun q h3 h4 => HE.out q (by omega) (by omega)) (by rw [HX.out, HY.out]; exact h))
              · rw [decide_eq_false (show ¬ (y : Int) < (x : Int) by omega)]
                refine decide_eq_false (Nat.not_lt.2 (Nat.le_of_lt ?_))
                exact more_val b a j (a.length + b.length + 1) (by omega) (by omega) DB.out DA.out (by omega) (fun q h3 h4 => (HE.out q (by omega) (by omega)).symm) (by rw [HX.out, HY.out]; omega))
            go_wp2
            go_ret
            refine ⟨retB (Eq.trans ?_ HM.out.symm), rfl⟩
            first | rfl | exact decide_eq_decide.2 (by omega) | exact (decide_eq_true (by omega)).symm | exact (decide_eq_false (by omega)).symm
        · skip
          obtain ⟨ba, oa, rfl, hba, hca0⟩ := HA.out j hja
          simp only [hx] at hca0
          have hyz : y = 0 := by rw [← hy]; exact wd_out b j (by omega)
          have hjbi : ¬ (j : Int) < (b.length : Int) := by omega
          clear hx hy
          subst hyz
          by_cases hxy : x = 0
          · have HN : Hid (∀ q : Nat, (j : Int) - 1 < (q : Int) → q ≤ a.length + b.length → wd a q = wd b q) := Lib.hid (fun q h3 h4 => by
              by_cases e : q = j
              · subst e; rw [HX.out, HY.out]; try exact hxy
              · exact HE.out q (by omega) h4)
            subst hxy
            go_wp2
            go_round
            case rel => exact ⟨(j : Int) - 1, rfl, by omega, by omega, HN⟩
            case measure => first | (simp [intOf]; done) | (simp [intOf]; omega)
          · have hne : ((x : Int) != (0 : Int)) = true := bne_iff_ne.2 (by omega)
            have HM : Hid (moreB a b = decide ((0 : Int) < (x : Int))) := Lib.hid (by
              unfold moreB
              rcases Nat.lt_or_ge 0 x with h | h
              · rw [decide_eq_true (show (0 : Int) < (x : Int) by omega)]
                exact decide_eq_true (more_val a b j (a.length + b.length + 1) (by omega) (by omega) DA.out DB.out (by omega) (fun q h3 h4 => HE.out q (by omega) (by omega)) (by rw [HX.out, HY.out]; exact h))
              · rw [decide_eq_false (show ¬ (0 : Int) < (x : Int) by omega)]
                refine decide_eq_false (Nat.not_lt.2 (Nat.le_of_lt ?_))
                exact more_val b a j (a.length + b.length + 1) (by omega) (by omega) DB.out DA.out (by omega) (fun q h3 h4 => (HE.out q (by omega) (by omega)).symm) (by rw [HX.out, HY.out]; omega))
            go_wp2
            go_ret
            refine ⟨retB (Eq.trans ?_ HM.out.symm), rfl⟩
            first | rfl | exact decide_eq_decide.2 (by omega) | exact (decide_eq_true (by omega)).symm | exact (decide_eq_false (by omega)).symm
      · by_cases hjb : j < b.length
        · skip
          obtain ⟨bb, ob, rfl, hbb, hcb0⟩ := HB.out j hjb
          simp only [hy] at hcb0
          have hxz : x = 0 := by rw [← hx]; exact wd_out a j (by omega)
          have hjai : ¬ (j : Int) < (a.length : Int) := by omega
          clear hx hy
          subst hxz
          by_cases hxy : 0 = y
          · have HN : Hid (∀ q : Nat, (j : Int) - 1 < (q : Int) → q ≤ a.length + b.length → wd a q = wd b q) := Lib.hid (fun q h3 h4 => by
              by_cases e : q = j
              · subst e; rw [HX.out, HY.out]; try exact hxy
              · exact HE.out q (by omega) h4)
            subst hxy
            go_wp2
            go_round
            case rel => exact ⟨(j : Int) - 1, rfl, by omega, by omega, HN⟩
            case measure => first | (simp [intOf]; done) | (simp [intOf]; omega)
          · have hne : ((0 : Int) != (y : Int)) = true := bne_iff_ne.2 (by omega)
            have HM : Hid (moreB a b = decide ((y : Int) < (0 : Int))) := Lib.hid (by
              unfold moreB
              rcases Nat.lt_or_ge y 0 with h | h
              · rw [decide_eq_true (show (y : Int) < (0 : Int) by omega)]
                exact decide_eq_true (more_val a b j (a.length + b.length + 1) (by omega) (by omega) DA.out DB.out (by omega) (fun q h3 h4 => HE.out q (by omega) (by omega)) (by rw [HX.out, HY.out]; exact h))
              · rw [decide_eq_false (show ¬ (y : Int) < (0 : Int) by omega)]
                refine decide_eq_false (Nat.not_lt.2 (Nat.le_of_lt ?_))
                exact more_val b a j (a.length + b.length + 1) (by omega) (by omega) DB.out DA.out (by omega) (fun q h3 h4 => (HE.out q (by omega) (by omega)).symm) (by rw [HX.out, HY.out]; omega))
            go_wp2
            go_ret
            refine ⟨retB (Eq.trans ?_ HM.out.symm), rfl⟩
            first | rfl | exact decide_eq_decide.2 (by omega) | exact (decide_eq_true (by omega)).symm | exact (decide_eq_false (by omega)).symm
        · skip
          have hxz : x = 0 := by rw [← hx]; exact wd_out a j (by omega)
          have hjai : ¬ (j : Int) < (a.length : Int) := by omega
          have hyz : y = 0 := by rw [← hy]; exact wd_out b j (by omega)
          have hjbi : ¬ (j : Int) < (b.length : Int) := by omega
          clear hx hy
          subst hxz
          subst hyz
          by_cases hxy : (0 : Nat) = 0
          · have HN : Hid (∀ q : Nat, (j : Int) - 1 < (q : Int) → q ≤ a.length + b.length → wd a q = wd b q) := Lib.hid (fun q h3 h4 => by
              by_cases e : q = j
              · subst e; rw [HX.out, HY.out]; try exact hxy
              · exact HE.out q (by omega) h4)
            go_wp2
            go_round
            case rel => exact ⟨(j : Int) - 1, rfl, by omega, by omega, HN⟩
            case measure => first | (simp [intOf]; done) | (simp [intOf]; omega)
          · exact absurd rfl hxy
    · have hsn : s = -1 := by omega
      subst hsn
      have HM : Hid (moreB a b = false) := Lib.hid (decide_eq_false (by
        have := same_val a b (a.length + b.length + 1) (by omega) (by omega) (fun j hj => HE.out j (by omega) (by omega))
        omega))
      go_wp2
      go_ret
      exact ⟨by rw [HM.out]; rfl, rfl⟩

theorem own_nin {w : World} {base : Nat} {l : List Nat} {g cap : Nat} (h : w.ownsRow base 3 1 (.slice (some ⟨g, 0, none⟩) l.length cap) l.length (l.map iV)) (hg : g < w.heap.size) : NIn w (some ⟨g, 0, none⟩) l := fun k hk =>
  ⟨g, 0, rfl, hg, by
    show _ = some (Value.int .i64 ((wd l k : Nat) : Int))
    rw [Nat.zero_add, h.cellAt k (by omega), List.getElem?_map, List.getElem?_eq_getElem hk, wd_in l k hk]; rfl⟩

set_option maxRecDepth 100000 in
set_option maxHeartbeats 1000000 in
theorem broken_cube (p v z : Nat) (w : World) (hp : p < 400) (h3 : v % 4294967296 = z) (h1 : v ^ 3 ≤ p * 65536 ^ 6) (h2 : p * 65536 ^ 6 < (v + 1) ^ 3) :
    Calls Tryd.prog 24 #[.int .i64 (p : Int), .bool true] w fun e w' => e = .returned (.int .i64 (z : Int)) ∧ Below w.heap.size w w' := by
  obtain ⟨i0, hi, hz0, hz1, hz2⟩ := info_parts infoI
  obtain ⟨T, hT⟩ : ∃ T, p * 65536 ^ 6 = T := ⟨_, rfl⟩
  rw [hT] at h1 h2
  have H1 := Lib.hid h1
  have H2 := Lib.hid h2
  have H3 := Lib.hid h3
  clear h3
  have HTV : Hid (val (wantL 6 p) = T) := Lib.hid ((wantL_val 6 p).trans hT)
  have HT0 : Hid (T < 137438953472 ^ 3) := Lib.hid (by rw [← hT]; have : p * 65536 ^ 6 ≤ 399 * 65536 ^ 6 := Nat.mul_le_mul_right _ (by omega); exact Nat.lt_of_le_of_lt this (by decide))
  have HDW := Lib.hid (wantL_dig 6 p (by omega))
  clear h1 h2 hT
  go_enter Tryd.func24, Tryd.ntmps24
  go_wp2
  go_loopw [6, 7] (fun u i wr => ∃ k : Nat, k ≤ 6 ∧ i = .int .i64 k ∧ Hid (wr.ownsRow w.heap.size 3 1 u (List.replicate k 0).length ((List.replicate k 0).map iV)) ∧ Hid (Below w.heap.size w wr)) (fun _ i _ => 6 - (intOf i).toNat)
  case atStart => exact ⟨0, by omega, rfl, Lib.hid ⟨by simp, .inr ⟨w.heap.size, 0, #[], rfl, Nat.le_refl _, heap_alloc_new _ _, Nat.le_refl _, by unfold maxLen; omega, by simp, by simp⟩⟩, Lib.hid ((Below.refl _ _).alloc (Nat.le_refl _) _)⟩
  case round =>
    obtain ⟨k, hk, rfl, HO, HB⟩ := hrel
    have hs1 := HB.out.size
    have hrl : (List.replicate k (0 : Nat)).length = k := List.length_replicate
    by_cases hlt : k < 6
    · have hrl2 := Lib.hid hrl
      clear hrl
      go_wp2_with (at_builtin; refine wpList_append_own _ rfl _ _ 32 rfl w.heap.size 3 i0 (.int .i64 0) 1 8 Tryd.underlying32 hi hz0 hz1 hz2 rfl (by decide) _ _ _ rfl (HO.out.alloc _) ⟨wr.heap.size, 0, none⟩ 1 1 [Value.int .i64 0] rfl rfl ?c1 ?c2 ?c3 ?c4 ?c5 ?_)
      case c1 => exact cell_one_new _ _ _
      case c2 => intro u hu; simp at hu; subst hu; rfl
      case c3 => rw [hrl2.out]; unfold maxLen; omega
      case c4 => rw [hrl2.out]; omega
      case c5 => simp; omega
      intro v' w1 hown' hgrow _
      have HB2 := Lib.hid ((HB.out.alloc hs1 _).grown hgrow (by simp; omega) (fun k hk => (HO.out.lt k hk).1))
      have HO2 : Hid (w1.ownsRow w.heap.size 3 1 v' (List.replicate (k + 1) 0).length ((List.replicate (k + 1) 0).map iV)) := Lib.hid (by
        rw [List.length_replicate, List.map_replicate, List.replicate_succ']; exact hown')
      clear hown' hgrow
      go_wp2
      go_roundw
      case rel => exact ⟨k + 1, by omega, by go_num, HO2, HB2⟩
      case measure => simp [intOf]; omega
    · have hk6 : k = 6 := by omega
      subst hk6
      clear hrl
      go_wp2_with (at_builtin; refine wpList_append_own _ rfl _ _ 32 rfl w.heap.size 3 i0 (.int .i64 0) 1 8 Tryd.underlying32 hi hz0 hz1 hz2 rfl (by decide) _ _ _ rfl (HO.out.alloc _) ⟨wr.heap.size, 0, none⟩ 1 1 [Value.int .i64 (p : Int)] rfl rfl ?d1 ?d2 ?d3 ?d4 ?d5 ?_)
      case d1 => exact cell_one_new _ _ _
      case d2 => intro u hu; simp at hu; subst hu; rfl
      case d3 => rw [List.length_replicate]; unfold maxLen; omega
      case d4 => rw [List.length_replicate]; omega
      case d5 => simp; omega
      intro v' w1 hown' hgrow _
      have HB2 := Lib.hid ((HB.out.alloc hs1 _).grown hgrow (by simp; omega) (fun k hk => (HO.out.lt k hk).1))
      obtain ⟨g, cap, rfl, hgb, hgl⟩ := hown'.form (by omega)
      have HNW : Hid (NIn w1 (some ⟨g, 0, none⟩) (wantL 6 p)) := Lib.hid (own_nin (base := w.heap.size) (cap := cap) hown' hgl)
      clear hown' hgrow
      have hwl : (wantL 6 p).length ≤ 20 := by simp [wantL]
      have hw1 : w.heap.size ≤ w1.heap.size := HB2.out.size
      go_wp2
      go_loopw [8, 9] (fun a b wr => ∃ lo hi : Nat, lo < hi ∧ hi ≤ 137438953472 ∧ a = .int .i64 lo ∧ b = .int .i64 hi ∧ Hid (lo ^ 3 ≤ T) ∧ Hid (T < hi ^ 3) ∧ Hid (Below w1.heap.size w1 wr)) (fun a b _ => (intOf b).toNat - (intOf a).toNat)
      case atStart => exact ⟨0, 137438953472, by omega, by omega, rfl, rfl, Lib.hid (by simp), HT0, Lib.hid (Below.refl _ _)⟩
      case round =>
        obtain ⟨lo, hi', hlh, hhi, rfl, rfl, HLo, HHi, HBl⟩ := hrel
        by_cases hgo : lo + 1 < hi'
        · obtain ⟨x, hx⟩ : ∃ x, (lo + hi') / 2 = x := ⟨_, rfl⟩
          have hxi : ((lo : Int) + (hi' : Int)) / 2 = (x : Int) := by omega
          have hx0 : lo < x := by omega
          have hx1 : x < hi' := by omega
          clear hx
          go_wp2_with (go_at_call 28; refine (square_any x _ (by omega)).mono ?_; rintro e w2 ⟨o2, HL2, HD2, HV2, A2, c2, rfl, hN2, hb2, hf2⟩; refine Hid.out ?_)
          refine Lib.hid ?_
          clear hxi
          have HN2 := Lib.hid hN2
          have HB3 := Lib.hid (HBl.out.trans (hb2.mono HBl.out.size))
          clear hN2 hb2
          go_wp2_with (go_at_call 30; refine (big_any x _ (by omega)).mono ?_; rintro e w3 ⟨A3, c3, rfl, hN3, hb3, hf3⟩; refine Hid.out ?_)
          refine Lib.hid ?_
          have HN3 := Lib.hid hN3
          have HN2' := Lib.hid (HN2.out.below hb3)
          have HB4 := Lib.hid (HB3.out.trans (hb3.mono HB3.out.size))
          clear hN3 hb3 HN2
          go_wp2_with (go_at_call 29; refine (product_any o2 (bigL x) A2 A3 c2 c3 _ HD2.out (bigL_dig x (by omega)) HN2'.out HN3.out (by rw [HL2.out]; decide) (by show 3 ≤ 20; decide)).mono ?_; rintro e w4 ⟨o4, HL4', HD4, HV4', A4, c4, rfl, hN4, hb4, hf4⟩; refine Hid.out ?_)
          refine Lib.hid ?_
          have HL4 := Lib.hid (show o4.length = 11 by rw [HL4'.out, HL2.out]; rfl)
          have HV4 := Lib.hid (show val o4 = x * x * x by rw [HV4'.out, HV2.out, bigL_val])
          have HN4 := Lib.hid hN4
          have HB5 := Lib.hid (HB4.out.trans (hb4.mono HB4.out.size))
          clear hN4 hb4
          obtain ⟨m, hm⟩ : ∃ m, moreB o4 (wantL 6 p) = m := ⟨_, rfl⟩
          have HM : Hid (m = decide (T < x ^ 3)) := Lib.hid (by rw [← hm]; unfold moreB; rw [HTV.out, HV4.out, show x * x * x = x ^ 3 by rw [Nat.pow_succ, Nat.pow_two]])
          go_wp2_with (go_at_call 31; refine (more_any o4 (wantL 6 p) A4 (some ⟨g, 0, none⟩) c4 cap _ HD4.out HDW.out HN4.out (HNW.out.below HB5.out) (by rw [HL4.out]; decide) hwl).mono ?_; rintro e w' ⟨rfl, rfl⟩; refine Hid.out ?_)
          refine Lib.hid ?_
          try rw [hm]
          clear hm
          by_cases hTx : T < x ^ 3
          · have hmt : m = true := by rw [HM.out]; exact decide_eq_true hTx
            subst hmt
            have HTx := Lib.hid hTx
            clear hTx
            go_wp2
            go_roundw
            case rel => exact ⟨lo, x, by omega, by omega, rfl, rfl, HLo, HTx, HB5⟩
            case measure => simp [intOf]; omega
          · have hmf : m = false := by rw [HM.out]; exact decide_eq_false hTx
            subst hmf
            have HTx := Lib.hid (Nat.le_of_not_lt hTx)
            clear hTx
            go_wp2
            go_roundw
            case rel => exact ⟨x, hi', by omega, by omega, rfl, rfl, HTx, HHi, HB5⟩
            case measure => simp [intOf]; omega
        · have hh1 : hi' = lo + 1 := by omega
          subst hh1
          have HR : Hid (lo = v) := Lib.hid (root_one 3 T lo v (by omega) HLo.out HHi.out H1.out H2.out)
          go_wp2
          go_ret
          refine ⟨retI ?_, HB2.out.trans (HBl.out.mono hw1)⟩
          rw [HR.out]; have := H3.out; omega

set_option maxRecDepth 100000 in
set_option maxHeartbeats 1000000 in
theorem broken_sq (p v z : Nat) (w : World) (hp : p < 400) (h3 : v % 4294967296 = z) (h1 : v ^ 2 ≤ p * 65536 ^ 4) (h2 : p * 65536 ^ 4 < (v + 1) ^ 2) :
    Calls Tryd.prog 24 #[.int .i64 (p : Int), .bool false] w fun e w' => e = .returned (.int .i64 (z : Int)) ∧ Below w.heap.size w w' := by
  obtain ⟨i0, hi, hz0, hz1, hz2⟩ := info_parts infoI
  obtain ⟨T, hT⟩ : ∃ T, p * 65536 ^ 4 = T := ⟨_, rfl⟩
  rw [hT] at h1 h2
  have H1 := Lib.hid h1
  have H2 := Lib.hid h2
  have H3 := Lib.hid h3
  clear h3
  have HTV : Hid (val (wantL 4 p) = T) := Lib.hid ((wantL_val 4 p).trans hT)
  have HT0 : Hid (T < 137438953472 ^ 2) := Lib.hid (by rw [← hT]; have : p * 65536 ^ 4 ≤ 399 * 65536 ^ 4 := Nat.mul_le_mul_right _ (by omega); exact Nat.lt_of_le_of_lt this (by decide))
  have HDW := Lib.hid (wantL_dig 4 p (by omega))
  clear h1 h2 hT
  go_enter Tryd.func24, Tryd.ntmps24
  go_wp2
  go_loopw [6, 7] (fun u i wr => ∃ k : Nat, k ≤ 4 ∧ i = .int .i64 k ∧ Hid (wr.ownsRow w.heap.size 3 1 u (List.replicate k 0).length ((List.replicate k 0).map iV)) ∧ Hid (Below w.heap.size w wr)) (fun _ i _ => 4 - (intOf i).toNat)
  case atStart => exact ⟨0, by omega, rfl, Lib.hid ⟨by simp, .inr ⟨w.heap.size, 0, #[], rfl, Nat.le_refl _, heap_alloc_new _ _, Nat.le_refl _, by unfold maxLen; omega, by simp, by simp⟩⟩, Lib.hid ((Below.refl _ _).alloc (Nat.le_refl _) _)⟩
  case round =>
    obtain ⟨k, hk, rfl, HO, HB⟩ := hrel
    have hs1 := HB.out.size
    have hrl : (List.replicate k (0 : Nat)).length = k := List.length_replicate
    by_cases hlt : k < 4
    · have hrl2 := Lib.hid hrl
      clear hrl
      go_wp2_with (at_builtin; refine wpList_append_own _ rfl _ _ 32 rfl w.heap.size 3 i0 (.int .i64 0) 1 8 Tryd.underlying32 hi hz0 hz1 hz2 rfl (by decide) _ _ _ rfl (HO.out.alloc _) ⟨wr.heap.size, 0, none⟩ 1 1 [Value.int .i64 0] rfl rfl ?c1 ?c2 ?c3 ?c4 ?c5 ?_)
      case c1 => exact cell_one_new _ _ _
      case c2 => intro u hu; simp at hu; subst hu; rfl
      case c3 => rw [hrl2.out]; unfold maxLen; omega
      case c4 => rw [hrl2.out]; omega
      case c5 => simp; omega
      intro v' w1 hown' hgrow _
      have HB2 := Lib.hid ((HB.out.alloc hs1 _).grown hgrow (by simp; omega) (fun k hk => (HO.out.lt k hk).1))
      have HO2 : Hid (w1.ownsRow w.heap.size 3 1 v' (List.replicate (k + 1) 0).length ((List.replicate (k + 1) 0).map iV)) := Lib.hid (by
        rw [List.length_replicate, List.map_replicate, List.replicate_succ']; exact hown')
      clear hown' hgrow
      go_wp2
      go_roundw
      case rel => exact ⟨k + 1, by omega, by go_num, HO2, HB2⟩
      case measure => simp [intOf]; omega
    · have hk6 : k = 4 := by omega
      subst hk6
      clear hrl
      go_wp2_with (at_builtin; refine wpList_append_own _ rfl _ _ 32 rfl w.heap.size 3 i0 (.int .i64 0) 1 8 Tryd.underlying32 hi hz0 hz1 hz2 rfl (by decide) _ _ _ rfl (HO.out.alloc _) ⟨wr.heap.size, 0, none⟩ 1 1 [Value.int .i64 (p : Int)] rfl rfl ?d1 ?d2 ?d3 ?d4 ?d5 ?_)
      case d1 => exact cell_one_new _ _ _
      case d2 => intro u hu; simp at hu; subst hu; rfl
      case d3 => rw [List.length_replicate]; unfold maxLen; omega
      case d4 => rw [List.length_replicate]; omega
      case d5 => simp; omega
      intro v' w1 hown' hgrow _
      have HB2 := Lib.hid ((HB.out.alloc hs1 _).grown hgrow (by simp; omega) (fun k hk => (HO.out.lt k hk).1))
      obtain ⟨g, cap, rfl, hgb, hgl⟩ := hown'.form (by omega)
      have HNW : Hid (NIn w1 (some ⟨g, 0, none⟩) (wantL 4 p)) := Lib.hid (own_nin (base := w.heap.size) (cap := cap) hown' hgl)
      clear hown' hgrow
      have hwl : (wantL 4 p).length ≤ 20 := by simp [wantL]
      have hw1 : w.heap.size ≤ w1.heap.size := HB2.out.size
      go_wp2
      go_loopw [8, 9] (fun a b wr => ∃ lo hi : Nat, lo < hi ∧ hi ≤ 137438953472 ∧ a = .int .i64 lo ∧ b = .int .i64 hi ∧ Hid (lo ^ 2 ≤ T) ∧ Hid (T < hi ^ 2) ∧ Hid (Below w1.heap.size w1 wr)) (fun a b _ => (intOf b).toNat - (intOf a).toNat)
      case atStart => exact ⟨0, 137438953472, by omega, by omega, rfl, rfl, Lib.hid (by simp), HT0, Lib.hid (Below.refl _ _)⟩
      case round =>
        obtain ⟨lo, hi', hlh, hhi, rfl, rfl, HLo, HHi, HBl⟩ := hrel
        by_cases hgo : lo + 1 < hi'
        · obtain ⟨x, hx⟩ : ∃ x, (lo + hi') / 2 = x := ⟨_, rfl⟩
          have hxi : ((lo : Int) + (hi' : Int)) / 2 = (x : Int) := by omega
          have hx0 : lo < x := by omega
          have hx1 : x < hi' := by omega
          clear hx
          go_wp2_with (go_at_call 28; refine (square_any x _ (by omega)).mono ?_; rintro e w2 ⟨o2, HL2, HD2, HV2, A2, c2, rfl, hN2, hb2, hf2⟩; refine Hid.out ?_)
          refine Lib.hid ?_
          clear hxi
          have HN2 := Lib.hid hN2
          have HB3 := Lib.hid (HBl.out.trans (hb2.mono HBl.out.size))
          clear hN2 hb2
          obtain ⟨m, hm⟩ : ∃ m, moreB o2 (wantL 4 p) = m := ⟨_, rfl⟩
          have HM : Hid (m = decide (T < x ^ 2)) := Lib.hid (by rw [← hm]; unfold moreB; rw [HTV.out, HV2.out, Nat.pow_two])
          go_wp2_with (go_at_call 31; refine (more_any o2 (wantL 4 p) A2 (some ⟨g, 0, none⟩) c2 cap _ HD2.out HDW.out HN2.out (HNW.out.below HB3.out) (by rw [HL2.out]; decide) hwl).mono ?_; rintro e w' ⟨rfl, rfl⟩; refine Hid.out ?_)
          refine Lib.hid ?_
          try rw [hm]
          clear hm
          by_cases hTx : T < x ^ 2
          · have hmt : m = true := by rw [HM.out]; exact decide_eq_true hTx
            subst hmt
            have HTx := Lib.hid hTx
            clear hTx
            go_wp2
            go_roundw
            case rel => exact ⟨lo, x, by omega, by omega, rfl, rfl, HLo, HTx, HB3⟩
            case measure => simp [intOf]; omega
          · have hmf : m = false := by rw [HM.out]; exact decide_eq_false hTx
            subst hmf
            have HTx := Lib.hid (Nat.le_of_not_lt hTx)
            clear hTx
            go_wp2
            go_roundw
            case rel => exact ⟨x, hi', by omega, by omega, rfl, rfl, HTx, HHi, HB3⟩
            case measure => simp [intOf]; omega
        · have hh1 : hi' = lo + 1 := by omega
          subst hh1
          have HR : Hid (lo = v) := Lib.hid (root_one 2 T lo v (by omega) HLo.out HHi.out H1.out H2.out)
          go_wp2
          go_ret
          refine ⟨retI ?_, HB2.out.trans (HBl.out.mono hw1)⟩
          rw [HR.out]; have := H3.out; omega

end Go.Proofs.YteciidnjikcimaaDoor.Sha
