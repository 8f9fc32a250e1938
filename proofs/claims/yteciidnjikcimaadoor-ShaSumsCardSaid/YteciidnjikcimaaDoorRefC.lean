/- Contracts of the document's own answer of layer 2: primes, the words of the rounds, digits. -/
import Derived.Test.YteciidnjikcimaaDoorRefB
namespace Go.Proofs.YteciidnjikcimaaDoor.Sha
open Go.RowKit Go.Lib
attribute [local go_sem ↓] Go.wp_at_zero Go.wp_at_succ

theorem all_take (l : List Nat) (f : Nat → Bool) (j : Nat) (h : j < l.length) : (l.take (j + 1)).all f = ((l.take j).all f && f (wd l j)) := by
  rw [List.take_succ_eq_append_getElem h, List.all_append, wd_in l j h]; simp
theorem own_lit {w : World} {base : Nat} {t : TypeId} (o : Nat) (ho : base ≤ o) (h : w.heap[o]? = some (.cells #[] t (0, 0))) : w.ownsRow base t 1 (.slice (some ⟨o, 0, none⟩) 0 0) 0 [] :=
  ⟨by simp, .inr ⟨o, 0, #[], rfl, ho, h, Nat.le_refl _, by unfold maxLen; omega, by simp, by simp⟩⟩

set_option maxRecDepth 100000 in
set_option maxHeartbeats 1000000 in
theorem primes_any (n X : Nat) (w : World) (hX : (prm X).length = n) (hL : ∀ k, k < X → (prm k).length < n) (hX4 : X ≤ 400) :
    Calls Tryd.prog 23 #[.int .i64 (n : Int)] w (RetI w (prm X)) := by
  obtain ⟨i0, hi, hz0, hz1, hz2⟩ := info_parts infoI
  have HX := Lib.hid hX
  have HL := Lib.hid hL
  have hn4 : n ≤ 400 := by have := (prm_le X).1; omega
  clear hX hL
  go_enter Tryd.func23, Tryd.ntmps23
  go_wp2
  go_loopw [3, 4] (fun v y wr => ∃ (k x L c : Nat) (A : Option Addr) (l : List Nat), k ≤ X ∧ y = .int .i64 x ∧ x ≤ 402 ∧ Hid (x = k + 2) ∧ Hid (l = prm k) ∧ L ≤ 400 ∧ Hid (L = l.length) ∧ v = .slice A L c ∧ Hid (wr.ownsRow w.heap.size 3 1 (.slice A L c) L (l.map iV)) ∧ Hid (Below w.heap.size w wr)) (fun _ y _ => X + 2 - (intOf y).toNat)
  case atStart => exact ⟨0, 2, 0, 0, some ⟨w.heap.size, 0, none⟩, [], by omega, rfl, by omega, Lib.hid rfl, Lib.hid rfl, by omega, Lib.hid rfl, rfl, Lib.hid (own_lit _ (Nat.le_refl _) (heap_alloc_new _ _)), Lib.hid ((Below.refl _ _).alloc (Nat.le_refl _) _)⟩
  case round =>
    obtain ⟨k, x, L, c, A, l, hk, rfl, hx4, HXk, HLk, hL4, HLn, rfl, HO, HB⟩ := hrel
    have hs1 := HB.out.size
    by_cases hlt : k < X
    · have hLn : L < n := by rw [HLn.out, HLk.out]; exact HL.out k hlt
      go_wp2
      go_loop [5, 6] (fun u i => ∃ (j : Nat) (b : Bool), j ≤ L ∧ i = .int .i64 j ∧ u = .bool b ∧ Hid (b = (l.take j).all (fun p => x % p != 0))) (fun _ i => L - (intOf i).toNat)
      case atStart => exact ⟨0, true, by omega, rfl, rfl, Lib.hid rfl⟩
      case round =>
        obtain ⟨j, b, hj, rfl, rfl, HBo⟩ := hrel
        by_cases hjl : j < L
        · obtain ⟨p, hp⟩ : ∃ p, wd l j = p := ⟨_, rfl⟩
          have hjl' : j < l.length := by rw [← HLn.out]; exact hjl
          have hp2 : 2 ≤ p := by rw [← hp, wd_in l j hjl', ← Nat.add_zero 2]; exact ((prm_le k).2 _ (by rw [← HLk.out]; exact List.getElem_mem hjl')).1
          have hp4 : p ≤ 402 := by
            have := ((prm_le k).2 (wd l j) (by rw [wd_in l j hjl']; rw [← HLk.out]; exact List.getElem_mem hjl')).2
            omega
          obtain ⟨g, cap, hA, hgb, hgl⟩ := HO.out.form (by omega)
          have hA' : A = some ⟨g, 0, none⟩ := by injection hA
          subst hA'
          have hcell : wr.cell? ⟨g, j, none⟩ = some (.int .i64 (p : Int)) := by
            rw [HO.out.cellAt j (by omega), List.getElem?_map, List.getElem?_eq_getElem hjl', ← hp, wd_in l j hjl']; rfl
          have HT := Lib.hid (all_take l (fun p => x % p != 0) j hjl')
          rw [hp] at HT
          clear hp hA
          have hp0 : ¬ (p : Int) = 0 := by omega
          by_cases hd : x % p = 0
          · have hdi : ((x : Int) % (p : Int) == 0) = true := beq_iff_eq.2 (by rw [← Int.natCast_emod, hd]; rfl)
            have HF : Hid (false = (l.take (j + 1)).all (fun p => x % p != 0)) := Lib.hid (by rw [HT.out, hd]; simp)
            clear hd
            go_wp2
            go_round
            case rel => exact ⟨j + 1, false, by omega, by go_num, rfl, HF⟩
            case measure => simp [intOf]; omega
          · have hdi : ((x : Int) % (p : Int) == 0) = false := beq_eq_false_iff_ne.2 (by rw [← Int.natCast_emod]; omega)
            have HF : Hid (b = (l.take (j + 1)).all (fun p => x % p != 0)) := Lib.hid (by rw [HT.out, ← HBo.out]; simp [hd])
            clear hd
            go_wp2
            go_round
            case rel => exact ⟨j + 1, b, by omega, by go_num, rfl, HF⟩
            case measure => simp [intOf]; omega
        · have hjL : j = L := by omega
          subst hjL
          have HAll : Hid (b = l.all (fun p => x % p != 0)) := Lib.hid (by rw [HBo.out, List.take_of_length_le (by rw [HLn.out]; exact Nat.le_refl _)])
          cases b with
          | true =>
            have HP : Hid (prm (k + 1) = l ++ [x]) := Lib.hid (by rw [prm, ← HLk.out, ← HXk.out, if_pos HAll.out.symm])
            go_wp2_with (at_builtin; refine wpList_append_lies _ rfl _ _ 32 rfl w.heap.size 3 i0 (.int .i64 0) 1 8 Tryd.underlying32 hi hz0 hz1 hz2 rfl (by decide) _ _ _ rfl (HO.out.alloc _) ⟨wr.heap.size, 0, none⟩ 1 1 [Value.int .i64 (x : Int)] rfl rfl (cell_one_new _ _ _) (by simp [Value.oneCell']) (by omega) (by unfold maxLen; omega) (by omega) (by simp; omega) (wr.heap.size + 1) (by simp) ?_)
            intro g cap w1 hown' hgrow hat hgl
            have HB2 := Lib.hid ((HB.out.alloc hs1 _).grown hgrow (by simp; omega) (fun k hk => (HO.out.lt k hk).1))
            have HO2 := Lib.hid hown'
            clear hown' hgrow hat
            go_wp2
            go_roundw
            case rel => exact ⟨k + 1, x + 1, j + 1, cap, some ⟨g, 0, none⟩, l ++ [x], by omega, by go_num, by have := HXk.out; omega, Lib.hid (by have := HXk.out; omega), Lib.hid HP.out.symm, by omega, Lib.hid (by rw [List.length_append, ← HLn.out]; rfl), rfl, Lib.hid (by rw [List.map_append]; exact HO2.out), HB2⟩
            case measure => simp [intOf]; have := HXk.out; omega
          | false =>
            have HP : Hid (prm (k + 1) = l) := Lib.hid (by rw [prm, ← HLk.out, ← HXk.out, if_neg (by rw [← HAll.out]; decide)])
            go_wp2
            go_roundw
            case rel => exact ⟨k + 1, x + 1, j, c, A, l, by omega, by go_num, by have := HXk.out; omega, Lib.hid (by have := HXk.out; omega), Lib.hid HP.out.symm, by omega, HLn, rfl, HO, HB⟩
            case measure => simp [intOf]; have := HXk.out; omega
    · have hkX : k = X := by omega
      subst hkX
      have hLn : L = n := by rw [HLn.out, HLk.out]; exact HX.out
      subst hLn
      go_wp2
      go_ret
      have hl : l.length = L := HLn.out.symm
      have hO := HO.out
      have e : RetI w l (.returned (.slice A L c)) wr := by
        rcases hO.2 with ⟨h1, h2⟩ | ⟨g, cap, cur, h1, hb, hg, _⟩
        · injection h1 with h1
          subst h1
          refine ⟨none, c, by rw [hl], fun q hq => ?_, HB.out, fun b o e => by cases e⟩
          omega
        · injection h1 with h1
          subst h1
          refine ⟨some ⟨g, 0, none⟩, c, by rw [hl], own_nin (base := w.heap.size) (cap := c) (by rw [hl]; exact hO) (Array.getElem?_eq_some_iff.1 hg).1, HB.out, fun b o e => by cases e; exact hb⟩
      rw [HLk.out] at e
      exact e

set_option maxRecDepth 100000 in
set_option maxHeartbeats 1000000 in
theorem refK_any (w : World) : Calls Tryd.prog 14 #[] w (RetI w kk) := by
  obtain ⟨i0, hi, hz0, hz1, hz2⟩ := info_parts infoI
  have HPL : Hid ((prm 310).length = 64) := Lib.hid prm64
  have HLL : Hid (∀ k, k < 310 → (prm k).length < 64) := Lib.hid (fun k hk => Nat.lt_of_le_of_lt (prm_mono k 309 (by omega)) (by rw [prm63]; decide))
  obtain ⟨P, hP⟩ : ∃ P, prm 310 = P := ⟨_, rfl⟩
  have hPR := primes_any 64 310
  rw [hP] at HPL hPR
  have HRT : Hid (∀ i, i < 64 → (rootC (wd P i) (wd kk i)) ^ 3 ≤ wd P i * 65536 ^ 6 ∧ wd P i * 65536 ^ 6 < (rootC (wd P i) (wd kk i) + 1) ^ 3 ∧ rootC (wd P i) (wd kk i) % 4294967296 = wd kk i ∧ wd P i < 400) := Lib.hid (by rw [← hP]; exact roots_k)
  have HPR := Lib.hid hPR
  clear hP hPR
  go_enter Tryd.func14, Tryd.ntmps14
  go_wp2_with (go_at_call 23; refine (HPR.out _ HPL.out HLL.out (by omega)).mono ?_; rintro e w1 ⟨A, cA, rfl, hN, hb1, hfr⟩; refine Hid.out ?_)
  refine Lib.hid ?_
  obtain ⟨bP, oP, rfl, hbP, _⟩ := hN 0 (by rw [HPL.out]; decide)
  have hbF : w.heap.size + 1 ≤ bP := by have := hfr bP oP rfl; simp at this; omega
  have HN := Lib.hid hN
  have hb0 : Below w.heap.size w w1 := ((Below.refl w.heap.size w).alloc (Nat.le_refl _) _).trans (hb1.mono (by simp))
  have HB1 := Lib.hid hb0
  have HO1 : Hid (w1.ownsRow w.heap.size 3 1 (.slice (some ⟨w.heap.size, 0, none⟩) 0 0) 0 []) := Lib.hid (own_lit _ (Nat.le_refl _) ((hb1.block w.heap.size (by simp)).trans (heap_alloc_new _ _)))
  have hw1 : w.heap.size < w1.heap.size := by have := hb1.size; simp at this; omega
  clear hN hb1 hb0 hfr
  have hPl : P.length = 64 := HPL.out
  rw [hPl]
  clear hPl
  go_wp2
  go_loopw [1, 3] (fun v i wr => ∃ (k c ga : Nat), k ≤ 64 ∧ i = .int .i64 k ∧ v = .slice (some ⟨ga, 0, none⟩) k c ∧ ga ≠ bP ∧ Hid (wr.ownsRow w.heap.size 3 1 (.slice (some ⟨ga, 0, none⟩) k c) k ((kk.take k).map iV)) ∧ Hid (Below w.heap.size w wr) ∧ Hid (NIn wr (some ⟨bP, oP, none⟩) P)) (fun _ i _ => 64 - (intOf i).toNat)
  case atStart => exact ⟨0, 0, w.heap.size, by omega, rfl, rfl, by omega, HO1, HB1, HN⟩
  case round =>
    clear HO1 HB1 HN
    obtain ⟨k, c, ga, hk, rfl, rfl, hga, HO, HB, HN⟩ := hrel
    have hs1 := HB.out.size
    by_cases hlt : k < 64
    · obtain ⟨b, o, hbo, hbl, hc0⟩ := HN.out k (by rw [HPL.out]; exact hlt)
      obtain ⟨rfl, rfl⟩ : bP = b ∧ oP = o := by cases hbo; exact ⟨rfl, rfl⟩
      clear hbo
      obtain ⟨p, hp⟩ : ∃ p, wd P k = p := ⟨_, rfl⟩
      simp only [hp] at hc0
      have HR := Lib.hid (HRT.out k hlt)
      rw [hp] at HR
      obtain ⟨z, hz⟩ : ∃ z, wd kk k = z := ⟨_, rfl⟩
      rw [hz] at HR
      have HZ := Lib.hid hz
      clear hp hz
      go_wp2_with (go_at_call 24; refine (broken_cube p (rootC p z) z _ HR.out.2.2.2 HR.out.2.2.1 HR.out.1 HR.out.2.1).mono ?_; rintro e w2 ⟨rfl, hb2⟩; refine Hid.out ?_)
      refine Lib.hid ?_
      have HN2 : Hid (NIn w2 (some ⟨bP, oP, none⟩) P) := Lib.hid (HN.out.below hb2)
      have HO2 : Hid (w2.ownsRow w.heap.size 3 1 (.slice (some ⟨ga, 0, none⟩) k c) k ((kk.take k).map iV)) := Lib.hid (HO.out.kept (row := none) ⟨hb2.os, hb2.tape, hb2.output, hb2.size, fun q hq _ => hb2.block q hq⟩ (by simp [Value.ownBlock]))
      have HB2 := Lib.hid (HB.out.trans (hb2.mono HB.out.size))
      have hs2 : w.heap.size ≤ w2.heap.size := HB2.out.size
      clear hb2 hc0
      go_wp2_with (at_builtin; refine wpList_append_lies _ rfl _ _ 32 rfl w.heap.size 3 i0 (.int .i64 0) 1 8 Tryd.underlying32 hi hz0 hz1 hz2 rfl (by decide) _ _ _ rfl (HO2.out.alloc _) ⟨w2.heap.size, 0, none⟩ 1 1 [Value.int .i64 (z : Int)] rfl rfl (cell_one_new _ _ _) (by simp [Value.oneCell']) (by omega) (by unfold maxLen; omega) (by omega) (by simp; omega) (w2.heap.size + 1) (by simp) ?_)
      intro g cap w3 hown' hgrow hat hgl
      have HB3 := Lib.hid ((HB2.out.alloc hs2 _).grown hgrow (by simp; omega) (fun k hk => (HO2.out.lt k hk).1))
      have hbl2 : bP < w2.heap.size := (HN2.out k (by rw [HPL.out]; exact hlt)).elim fun b h => h.elim fun o h => by cases h.1; exact h.2.1
      have hgn : g ≠ bP := by
        rcases hat with h | h
        · simp [Value.ownBlock] at h; omega
        · omega
      have HN3 : Hid (NIn w3 (some ⟨bP, oP, none⟩) P) := Lib.hid (fun q hq => by
        obtain ⟨b', o', hbo, hb', hc'⟩ := HN2.out q hq
        obtain ⟨rfl, rfl⟩ : bP = b' ∧ oP = o' := by cases hbo; exact ⟨rfl, rfl⟩
        refine ⟨bP, oP, rfl, by have := HB3.out.size; have := hgrow.size; simp at this; omega, ?_⟩
        refine (World.cell?_of_block (w := w2.alloc (.cells #[.int .i64 (z : Int)] 3)) (hgrow.block bP (by simp; omega) (by simp [Value.ownBlock]; omega))).trans ((World.cell?_alloc_lt w2 _ ⟨bP, oP + q, none⟩ hb').trans hc'))
      have HO3 : Hid (w3.ownsRow w.heap.size 3 1 (.slice (some ⟨g, 0, none⟩) (k + 1) cap) (k + 1) ((kk.take (k + 1)).map iV)) := Lib.hid (by
        rw [List.take_succ_eq_append_getElem (by simpa [kk] using hlt), List.map_append]
        have : [Value.int .i64 (z : Int)] = [kk[k]'(by simpa [kk] using hlt)].map iV := by
          rw [← HZ.out, wd_in kk k (by simpa [kk] using hlt)]; rfl
        rw [← this, List.map_take]; exact hown')
      clear hown' hgrow hat
      go_wp2
      go_roundw
      case rel => exact ⟨k + 1, cap, g, by omega, by go_num, rfl, hgn, HO3, HB3, HN3⟩
      case measure => simp [intOf]; omega
    · have hk8 : k = 64 := by omega
      subst hk8
      have hgg := HO.out.lt ga rfl
      go_wp2
      go_ret
      refine ⟨some ⟨ga, 0, none⟩, c, rfl, own_nin (base := w.heap.size) (cap := c) ?_ hgg.2, HB.out, fun b o e => by cases e; exact hgg.1⟩
      have h := HO.out
      rw [List.take_of_length_le (by decide)] at h
      exact h

set_option maxRecDepth 100000 in
set_option maxHeartbeats 1000000 in
theorem refH_any (w : World) : Calls Tryd.prog 19 #[] w (RetI w hh) := by
  obtain ⟨i0, hi, hz0, hz1, hz2⟩ := info_parts infoI
  have HPL : Hid ((prm 18).length = 8) := Lib.hid prm8
  have HLL : Hid (∀ k, k < 18 → (prm k).length < 8) := Lib.hid (fun k hk => Nat.lt_of_le_of_lt (prm_mono k 17 (by omega)) (by rw [prm7]; decide))
  obtain ⟨P, hP⟩ : ∃ P, prm 18 = P := ⟨_, rfl⟩
  have hPR := primes_any 8 18
  rw [hP] at HPL hPR
  have HRT : Hid (∀ i, i < 8 → (rootS (wd P i) (wd hh i)) ^ 2 ≤ wd P i * 65536 ^ 4 ∧ wd P i * 65536 ^ 4 < (rootS (wd P i) (wd hh i) + 1) ^ 2 ∧ rootS (wd P i) (wd hh i) % 4294967296 = wd hh i ∧ wd P i < 400) := Lib.hid (by rw [← hP]; exact roots_h)
  have HPR := Lib.hid hPR
  clear hP hPR
  go_enter Tryd.func19, Tryd.ntmps19
  go_wp2_with (go_at_call 23; refine (HPR.out _ HPL.out HLL.out (by omega)).mono ?_; rintro e w1 ⟨A, cA, rfl, hN, hb1, hfr⟩; refine Hid.out ?_)
  refine Lib.hid ?_
  obtain ⟨bP, oP, rfl, hbP, _⟩ := hN 0 (by rw [HPL.out]; decide)
  have hbF : w.heap.size + 1 ≤ bP := by have := hfr bP oP rfl; simp at this; omega
  have HN := Lib.hid hN
  have hb0 : Below w.heap.size w w1 := ((Below.refl w.heap.size w).alloc (Nat.le_refl _) _).trans (hb1.mono (by simp))
  have HB1 := Lib.hid hb0
  have HO1 : Hid (w1.ownsRow w.heap.size 3 1 (.slice (some ⟨w.heap.size, 0, none⟩) 0 0) 0 []) := Lib.hid (own_lit _ (Nat.le_refl _) ((hb1.block w.heap.size (by simp)).trans (heap_alloc_new _ _)))
  have hw1 : w.heap.size < w1.heap.size := by have := hb1.size; simp at this; omega
  clear hN hb1 hb0 hfr
  have hPl : P.length = 8 := HPL.out
  rw [hPl]
  clear hPl
  go_wp2
  go_loopw [1, 3] (fun v i wr => ∃ (k c ga : Nat), k ≤ 8 ∧ i = .int .i64 k ∧ v = .slice (some ⟨ga, 0, none⟩) k c ∧ ga ≠ bP ∧ Hid (wr.ownsRow w.heap.size 3 1 (.slice (some ⟨ga, 0, none⟩) k c) k ((hh.take k).map iV)) ∧ Hid (Below w.heap.size w wr) ∧ Hid (NIn wr (some ⟨bP, oP, none⟩) P)) (fun _ i _ => 8 - (intOf i).toNat)
  case atStart => exact ⟨0, 0, w.heap.size, by omega, rfl, rfl, by omega, HO1, HB1, HN⟩
  case round =>
    clear HO1 HB1 HN
    obtain ⟨k, c, ga, hk, rfl, rfl, hga, HO, HB, HN⟩ := hrel
    have hs1 := HB.out.size
    by_cases hlt : k < 8
    · obtain ⟨b, o, hbo, hbl, hc0⟩ := HN.out k (by rw [HPL.out]; exact hlt)
      obtain ⟨rfl, rfl⟩ : bP = b ∧ oP = o := by cases hbo; exact ⟨rfl, rfl⟩
      clear hbo
      obtain ⟨p, hp⟩ : ∃ p, wd P k = p := ⟨_, rfl⟩
      simp only [hp] at hc0
      have HR := Lib.hid (HRT.out k hlt)
      rw [hp] at HR
      obtain ⟨z, hz⟩ : ∃ z, wd hh k = z := ⟨_, rfl⟩
      rw [hz] at HR
      have HZ := Lib.hid hz
      clear hp hz
      go_wp2_with (go_at_call 24; refine (broken_sq p (rootS p z) z _ HR.out.2.2.2 HR.out.2.2.1 HR.out.1 HR.out.2.1).mono ?_; rintro e w2 ⟨rfl, hb2⟩; refine Hid.out ?_)
      refine Lib.hid ?_
      have HN2 : Hid (NIn w2 (some ⟨bP, oP, none⟩) P) := Lib.hid (HN.out.below hb2)
      have HO2 : Hid (w2.ownsRow w.heap.size 3 1 (.slice (some ⟨ga, 0, none⟩) k c) k ((hh.take k).map iV)) := Lib.hid (HO.out.kept (row := none) ⟨hb2.os, hb2.tape, hb2.output, hb2.size, fun q hq _ => hb2.block q hq⟩ (by simp [Value.ownBlock]))
      have HB2 := Lib.hid (HB.out.trans (hb2.mono HB.out.size))
      have hs2 : w.heap.size ≤ w2.heap.size := HB2.out.size
      clear hb2 hc0
      go_wp2_with (at_builtin; refine wpList_append_lies _ rfl _ _ 32 rfl w.heap.size 3 i0 (.int .i64 0) 1 8 Tryd.underlying32 hi hz0 hz1 hz2 rfl (by decide) _ _ _ rfl (HO2.out.alloc _) ⟨w2.heap.size, 0, none⟩ 1 1 [Value.int .i64 (z : Int)] rfl rfl (cell_one_new _ _ _) (by simp [Value.oneCell']) (by omega) (by unfold maxLen; omega) (by omega) (by simp; omega) (w2.heap.size + 1) (by simp) ?_)
      intro g cap w3 hown' hgrow hat hgl
      have HB3 := Lib.hid ((HB2.out.alloc hs2 _).grown hgrow (by simp; omega) (fun k hk => (HO2.out.lt k hk).1))
      have hbl2 : bP < w2.heap.size := (HN2.out k (by rw [HPL.out]; exact hlt)).elim fun b h => h.elim fun o h => by cases h.1; exact h.2.1
      have hgn : g ≠ bP := by
        rcases hat with h | h
        · simp [Value.ownBlock] at h; omega
        · omega
      have HN3 : Hid (NIn w3 (some ⟨bP, oP, none⟩) P) := Lib.hid (fun q hq => by
        obtain ⟨b', o', hbo, hb', hc'⟩ := HN2.out q hq
        obtain ⟨rfl, rfl⟩ : bP = b' ∧ oP = o' := by cases hbo; exact ⟨rfl, rfl⟩
        refine ⟨bP, oP, rfl, by have := HB3.out.size; have := hgrow.size; simp at this; omega, ?_⟩
        refine (World.cell?_of_block (w := w2.alloc (.cells #[.int .i64 (z : Int)] 3)) (hgrow.block bP (by simp; omega) (by simp [Value.ownBlock]; omega))).trans ((World.cell?_alloc_lt w2 _ ⟨bP, oP + q, none⟩ hb').trans hc'))
      have HO3 : Hid (w3.ownsRow w.heap.size 3 1 (.slice (some ⟨g, 0, none⟩) (k + 1) cap) (k + 1) ((hh.take (k + 1)).map iV)) := Lib.hid (by
        rw [List.take_succ_eq_append_getElem (by simpa [hh] using hlt), List.map_append]
        have : [Value.int .i64 (z : Int)] = [hh[k]'(by simpa [hh] using hlt)].map iV := by
          rw [← HZ.out, wd_in hh k (by simpa [hh] using hlt)]; rfl
        rw [← this, List.map_take]; exact hown')
      clear hown' hgrow hat
      go_wp2
      go_roundw
      case rel => exact ⟨k + 1, cap, g, by omega, by go_num, rfl, hgn, HO3, HB3, HN3⟩
      case measure => simp [intOf]; omega
    · have hk8 : k = 8 := by omega
      subst hk8
      have hgg := HO.out.lt ga rfl
      go_wp2
      go_ret
      refine ⟨some ⟨ga, 0, none⟩, c, rfl, own_nin (base := w.heap.size) (cap := c) ?_ hgg.2, HB.out, fun b o e => by cases e; exact hgg.1⟩
      have h := HO.out
      rw [List.take_of_length_le (by decide)] at h
      exact h

end Go.Proofs.YteciidnjikcimaaDoor.Sha
