/- Plain mathematics: numbers, words and texts of graphs, beside the library's own words for them. It names nothing of the program. -/
import Derived.Test.YtnmpcendimdoeaaGreatDoorDigMath
import Derived.Lib.ItoaNum
import Derived.Lib.IndexMore
import Derived.Lib.Atoi
import Derived.Lib.Strings
namespace Go.Proofs.YtnmpcendimdoeaaGreatDoor.Dig
open Go

theorem dec_dig (m : Nat) : Lib.decDigits m = digN m := by
  induction m using Nat.strongRecOn with
  | _ m ih =>
    by_cases h : m < 10
    · rw [digN_lt h, Lib.decDigits, dif_pos h]
    · rw [digN_ge h, Lib.decDigits, dif_neg h, ih (m / 10) (by omega)]
theorem itoa_dg (n : Int) : Lib.itoa n = dgI n := by
  unfold Lib.itoa dgI
  rw [dec_dig, dec_dig]
  split
  · rfl
  · rw [show n.toNat = n.natAbs by omega]
theorem dgt_toNat (d : Nat) (h : d < 10) : (UInt8.ofNat (48 + d)).toNat = 48 + d := by
  rw [UInt8.toNat_ofNat']; omega
theorem isD_dgt (d : Nat) (h : d < 10) : isD (UInt8.ofNat (48 + d)) = true := by
  simp only [isD, dgt_toNat d h, Bool.and_eq_true, decide_eq_true_eq]; omega
theorem digN_all (m : Nat) : (digN m).all isD = true := by
  induction m using Nat.strongRecOn with
  | _ m ih =>
    by_cases h : m < 10
    · rw [digN_lt h, List.all_cons, List.all_nil, isD_dgt m h]; rfl
    · rw [digN_ge h, List.all_append, ih (m / 10) (by omega), List.all_cons, List.all_nil, isD_dgt (m % 10) (by omega)]; rfl
theorem valD_digN (m : Nat) : valD (digN m) = m := by
  induction m using Nat.strongRecOn with
  | _ m ih =>
    by_cases h : m < 10
    · rw [digN_lt h]; simp only [valD, List.foldl_cons, List.foldl_nil, dgt_toNat m h]; omega
    · rw [digN_ge h, valD_snoc, ih (m / 10) (by omega), dgt_toNat (m % 10) (by omega)]; omega
theorem digN_len_ge (k : Nat) : ∀ m, 10 ^ k ≤ m → k + 1 ≤ (digN m).length := by
  induction k with
  | zero => intro m _; exact digN_pos m
  | succ k ih =>
    intro m h
    have h10 : ¬ m < 10 := by
      have : 1 ≤ 10 ^ k := Nat.one_le_pow _ _ (by decide)
      rw [Nat.pow_succ] at h
      omega
    rw [digN_ge h10, List.length_append]
    have := ih (m / 10) (by rw [Nat.pow_succ] at h; omega)
    simp only [List.length_cons, List.length_nil]
    omega
theorem dgt_ne (d : Nat) (h : d < 10) (h0 : 0 < d) : UInt8.ofNat (48 + d) ≠ 48 := fun e => by
  have := congrArg UInt8.toNat e
  rw [dgt_toNat d h] at this
  have h2 : (48 : UInt8).toNat = 48 := rfl
  omega
theorem digN_head (m : Nat) (h0 : 0 < m) : (digN m).head? ≠ some 48 := by
  induction m using Nat.strongRecOn with
  | _ m ih =>
    by_cases h : m < 10
    · rw [digN_lt h]
      intro e
      exact dgt_ne m h h0 (by simpa using e)
    · rw [digN_ge h]
      have hp := digN_pos (m / 10)
      have := ih (m / 10) (by omega) (by omega)
      cases hd : digN (m / 10) with
      | nil => rw [hd] at hp; simp at hp
      | cons b l => rw [hd] at this; simpa using this
theorem head_isD {l : List UInt8} (h : l.all isD = true) : l.head? ≠ some 45 := by
  cases l with
  | nil => simp
  | cons b l =>
    intro e
    simp only [List.head?_cons, Option.some.injEq] at e
    subst e
    simp [isD] at h
theorem isD_ne {b : UInt8} (h : isD b = true) (hn : b ≠ 48) : 48 < b.toNat := by
  simp only [isD, Bool.and_eq_true, decide_eq_true_eq] at h
  have : b.toNat ≠ 48 := fun e => hn (UInt8.toNat_inj.1 (by simpa using e))
  omega
theorem valD_pos : ∀ (k : Nat) (l : List UInt8), l.length = k → l.all isD = true → l ≠ [] → l.head? ≠ some 48 → 0 < valD l := by
  intro k
  induction k with
  | zero => intro l hl _ hne _; exact absurd (List.eq_nil_of_length_eq_zero hl) hne
  | succ k ih =>
    intro l hl ha hne hh
    obtain ⟨m, b, rfl⟩ : ∃ m b, l = m ++ [b] := ⟨l.dropLast, l.getLast hne, (List.dropLast_concat_getLast _).symm⟩
    rw [List.all_append, Bool.and_eq_true] at ha
    rw [valD_snoc]
    cases m with
    | nil =>
      have h1 : isD b = true := by simpa using ha.2
      have := isD_ne h1 (by simpa using hh)
      omega
    | cons c m =>
      have := ih (c :: m) (by simpa using hl) ha.1 (by simp) (by simpa using hh)
      omega
theorem canon : ∀ (k : Nat) (l : List UInt8), l.length = k → l.all isD = true → l ≠ [] → (l.head? ≠ some 48 ∨ l.length = 1) → digN (valD l) = l := by
  intro k
  induction k with
  | zero => intro l hl _ hne _; exact absurd (List.eq_nil_of_length_eq_zero hl) hne
  | succ k ih =>
    intro l hl ha hne hh
    obtain ⟨m, b, rfl⟩ : ∃ m b, l = m ++ [b] := ⟨l.dropLast, l.getLast hne, (List.dropLast_concat_getLast _).symm⟩
    rw [List.all_append, Bool.and_eq_true] at ha
    have h1 : isD b = true := by simpa using ha.2
    simp only [isD, Bool.and_eq_true, decide_eq_true_eq] at h1
    have hb : UInt8.ofNat (48 + (b.toNat - 48)) = b := by
      apply UInt8.toNat_inj.1
      rw [dgt_toNat _ (by omega)]
      omega
    rw [valD_snoc]
    cases m with
    | nil =>
      rw [show valD [] = 0 from rfl, Nat.mul_zero, Nat.zero_add, digN_lt (by omega), hb]; rfl
    | cons c m =>
      have hh2 : (c :: m).head? ≠ some 48 := by
        rcases hh with h | h
        · simpa using h
        · simp at h
      have hv := valD_pos _ (c :: m) rfl ha.1 (by simp) hh2
      rw [digN_ge (by omega), show (10 * valD (c :: m) + (b.toNat - 48)) / 10 = valD (c :: m) by omega, show (10 * valD (c :: m) + (b.toNat - 48)) % 10 = b.toNat - 48 by omega, hb, ih (c :: m) (by simpa using hl) ha.1 (by simp) (.inl hh2)]
theorem okD_iff (mn : Bool) (ds : List UInt8) : okD mn ds = true ↔ (1 ≤ ds.length ∧ ds.length ≤ 9) ∧ ds.all isD = true ∧ ¬ (ds.head? = some 48 ∧ (1 < ds.length ∨ mn = true)) := by
  unfold okD
  simp only [Bool.and_eq_true, decide_eq_true_eq, Bool.not_eq_true', Bool.and_eq_false_iff, beq_eq_false_iff_ne, Bool.or_eq_false_iff, decide_eq_false_iff_not]
  constructor
  · rintro ⟨⟨⟨h1, h2⟩, h3⟩, h4⟩
    refine ⟨⟨h1, h2⟩, h3, fun ⟨h5, h6⟩ => ?_⟩
    rcases h4 with h | ⟨h7, h8⟩
    · exact h h5
    · rcases h6 with h | h
      · exact h7 h
      · rw [h] at h8; cases h8
  · rintro ⟨⟨h1, h2⟩, h3, h4⟩
    refine ⟨⟨⟨h1, h2⟩, h3⟩, ?_⟩
    by_cases h5 : ds.head? = some 48
    · refine .inr ⟨fun h => h4 ⟨h5, .inl h⟩, ?_⟩
      cases mn with
      | false => rfl
      | true => exact absurd ⟨h5, .inr rfl⟩ h4
    · exact .inl h5
theorem dg_neg {x : Int} (h : x < 0) : dgI x = 45 :: digN x.natAbs := by unfold dgI; rw [if_pos h]
theorem dg_nn {x : Int} (h : ¬ x < 0) : dgI x = digN x.natAbs := by unfold dgI; rw [if_neg h]
theorem numOf_dg (x : Int) (h : (digN x.natAbs).length ≤ 9) : numOf (dgI x) = some x := by
  by_cases hx : x < 0
  · rw [dg_neg hx]
    unfold numOf
    have ho : okD true (digN x.natAbs) = true := (okD_iff _ _).2 ⟨⟨digN_pos _, h⟩, digN_all _, fun ⟨h1, _⟩ => digN_head _ (by omega) h1⟩
    simp only [List.head?_cons, beq_self_eq_true, if_true, List.tail_cons, ho, valD_digN]
    congr 1
    omega
  · rw [dg_nn hx]
    unfold numOf
    have h45 : ((digN x.natAbs).head? == some 45) = false := by
      rw [beq_eq_false_iff_ne]; exact head_isD (digN_all _)
    have ho : okD false (digN x.natAbs) = true := (okD_iff _ _).2 ⟨⟨digN_pos _, h⟩, digN_all _, fun ⟨h1, h2⟩ => by
      rcases h2 with h2 | h2
      · rcases Nat.eq_zero_or_pos x.natAbs with h0 | h0
        · rw [h0, digN_lt (by decide)] at h2; simp at h2
        · exact digN_head _ h0 h1
      · cases h2⟩
    simp only [h45, ho, valD_digN, if_true]
    rw [if_neg (by simp)]
    congr 1
    omega
theorem numOf_dg_none (x : Int) (h : 9 < (digN x.natAbs).length) : numOf (dgI x) = none := by
  by_cases hx : x < 0
  · rw [dg_neg hx]
    unfold numOf
    have ho : okD true (digN x.natAbs) = false := by
      rw [Bool.eq_false_iff]; intro h1; have := ((okD_iff _ _).1 h1).1.2; omega
    simp only [List.head?_cons, beq_self_eq_true, if_true, List.tail_cons, ho]
    rfl
  · rw [dg_nn hx]
    unfold numOf
    have h45 : ((digN x.natAbs).head? == some 45) = false := by
      rw [beq_eq_false_iff_ne]; exact head_isD (digN_all _)
    have ho : okD false (digN x.natAbs) = false := by
      rw [Bool.eq_false_iff]; intro h1; have := ((okD_iff _ _).1 h1).1.2; omega
    simp only [h45, ho]
    rfl
theorem small_dg (x : Int) : (digN x.natAbs).length ≤ 9 ↔ -1000000000 < x ∧ x < 1000000000 := by
  constructor
  · intro h
    have : ¬ 10 ^ 9 ≤ x.natAbs := fun h1 => by have := digN_len_ge 9 _ h1; omega
    omega
  · intro h
    exact digN_len 8 _ (by omega)
theorem decFrom_all (l : List UInt8) : ∀ acc, l.all isD = true → Lib.decFrom acc l = some (l.foldl (fun n b => 10 * n + (b.toNat - 48)) acc) := by
  induction l with
  | nil => intro acc _; rfl
  | cons b l ih =>
    intro acc h
    rw [List.all_cons, Bool.and_eq_true] at h
    have h1 := h.1
    simp only [isD, Bool.and_eq_true, decide_eq_true_eq] at h1
    have hd : Lib.digitVal b = some (b.toNat - 48) := by unfold Lib.digitVal; rw [if_pos h1]
    rw [Lib.decFrom, hd, List.foldl_cons]
    simp only
    rw [ih _ h.2, Nat.mul_comm]
theorem decNat_all (l : List UInt8) (h : l.all isD = true) (hne : l ≠ []) : Lib.decNat l = some (valD l) := by
  unfold Lib.decNat
  rw [if_neg (by simpa using hne), decFrom_all l 0 h]
  rfl
theorem trim_dg (x : Int) : Lib.trimPrefix (dgI x) [45] = digN x.natAbs := by
  by_cases hx : x < 0
  · rw [dg_neg hx]; simp [Lib.trimPrefix, Lib.hasPrefix]
  · rw [dg_nn hx]
    have h := head_isD (digN_all x.natAbs)
    cases hd : digN x.natAbs with
    | nil => simp [Lib.trimPrefix, Lib.hasPrefix]
    | cons b l =>
      rw [hd] at h
      have hb : ¬ (45 : UInt8) = b := fun e => h (by rw [← e]; rfl)
      simp [Lib.trimPrefix, Lib.hasPrefix, hb]
theorem numOf_some {l : List UInt8} {x : Int} (h : numOf l = some x) : Lib.atoi l = some x ∧ dgI x = l ∧ (digN x.natAbs).length ≤ 9 := by
  unfold numOf at h
  split at h
  · rename_i h45
    cases l with
    | nil => simp at h45
    | cons b l =>
      obtain rfl : b = 45 := by simpa using h45
      rw [List.tail_cons] at h
      split at h
      · rename_i ho
        obtain ⟨⟨h1, h2⟩, h3, h4⟩ := (okD_iff _ _).1 ho
        have hne : l ≠ [] := by intro e; rw [e] at h1; simp at h1
        have hh : l.head? ≠ some 48 := fun e => h4 ⟨e, .inr rfl⟩
        have hp := valD_pos _ l rfl h3 hne hh
        have hc := canon _ l rfl h3 hne (.inl hh)
        obtain rfl := Option.some.inj h
        have hn : (-(valD l : Int)).natAbs = valD l := by omega
        refine ⟨?_, ?_, ?_⟩
        · simp [Lib.atoi, decNat_all l h3 hne]
        · rw [dg_neg (by omega), hn, hc]
        · rw [hn, hc]; exact h2
      · cases h
  · rename_i h45
    split at h
    · rename_i ho
      obtain ⟨⟨h1, h2⟩, h3, h4⟩ := (okD_iff _ _).1 ho
      have hne : l ≠ [] := by intro e; rw [e] at h1; simp at h1
      have hh : l.head? ≠ some 48 ∨ l.length = 1 := by
        by_cases e : l.head? = some 48
        · exact .inr (by have : ¬ 1 < l.length := fun h => h4 ⟨e, .inl h⟩; omega)
        · exact .inl e
      have hc := canon _ l rfl h3 hne hh
      obtain rfl := Option.some.inj h
      have hn : ((valD l : Nat) : Int).natAbs = valD l := by omega
      refine ⟨?_, ?_, ?_⟩
      · have hd := decNat_all l h3 hne
        cases l with
        | nil => exact absurd rfl hne
        | cons b l =>
          have hb1 : isD b = true := by rw [List.all_cons, Bool.and_eq_true] at h3; exact h3.1
          have hb2 : (b == 45) = false := by rw [beq_eq_false_iff_ne]; rintro rfl; revert hb1; decide
          have hb3 : (b == 43) = false := by rw [beq_eq_false_iff_ne]; rintro rfl; revert hb1; decide
          simp only [Lib.atoi, hb2, hb3, Bool.false_eq_true, if_false, hd, Option.map_some]
      · rw [dg_nn (by omega), hn, hc]
      · rw [hn, hc]; exact h2
    · cases h
/-- The number that a text tells, as the program reckons it. -/
def numP (l : List UInt8) : Option Int := if 9 < (Lib.trimPrefix l [45]).length then none else match Lib.atoi l with
  | none => none
  | some x => if dgI x = l then some x else none
theorem numP_long {l : List UInt8} (h : 9 < (Lib.trimPrefix l [45]).length) : numP l = none := by unfold numP; rw [if_pos h]
theorem numP_none {l : List UInt8} (h : Lib.atoi l = none) : numP l = none := by unfold numP; rw [h]; split <;> rfl
theorem numP_ne {l : List UInt8} {x : Int} (h : Lib.atoi l = some x) (h2 : dgI x ≠ l) : numP l = none := by unfold numP; rw [h]; simp only; rw [if_neg h2]; split <;> rfl
theorem numP_some {l : List UInt8} {x : Int} (h0 : ¬ 9 < (Lib.trimPrefix l [45]).length) (h : Lib.atoi l = some x) (h2 : dgI x = l) : numP l = some x := by unfold numP; rw [if_neg h0, h]; simp only; rw [if_pos h2]
theorem numP_eq (l : List UInt8) : numP l = numOf l := by
  cases h : numOf l with
  | some x =>
    obtain ⟨h1, h2, h3⟩ := numOf_some h
    refine numP_some ?_ h1 h2
    rw [← h2, trim_dg]
    omega
  | none =>
    by_cases h0 : 9 < (Lib.trimPrefix l [45]).length
    · exact numP_long h0
    · cases ha : Lib.atoi l with
      | none => exact numP_none ha
      | some x =>
        by_cases e : dgI x = l
        · exfalso
          subst e
          rw [trim_dg] at h0
          rw [numOf_dg x (by omega)] at h
          cases h
        · exact numP_ne ha e
theorem trim_len (l : List UInt8) : l.length ≤ (Lib.trimPrefix l [45]).length + 1 := by
  unfold Lib.trimPrefix
  split <;> simp <;> omega
/-- A text, cut at a byte's first place. -/
def cutC (c : UInt8) : List UInt8 → List UInt8 × List UInt8 × Bool
  | [] => ([], [], false)
  | b :: l => if b = c then ([], l, true) else (b :: (cutC c l).1, (cutC c l).2.1, (cutC c l).2.2)
theorem index_one (c : UInt8) : ∀ l : List UInt8, ((cutC c l).2.2 = true → 0 ≤ Lib.index l [c] ∧ (cutC c l).1 = l.take (Lib.index l [c]).toNat ∧ (cutC c l).2.1 = l.drop ((Lib.index l [c]).toNat + 1)) ∧ ((cutC c l).2.2 = false → Lib.index l [c] = -1 ∧ (cutC c l).1 = l ∧ (cutC c l).2.1 = [])
  | [] => ⟨fun h => by simp [cutC] at h, fun _ => ⟨rfl, rfl, rfl⟩⟩
  | b :: l => by
    obtain ⟨h1, h2⟩ := index_one c l
    by_cases e : b = c
    · subst e
      have hi : Lib.index (b :: l) [b] = 0 := by unfold Lib.index; simp
      refine ⟨fun _ => ?_, fun h => ?_⟩
      · rw [hi]; simp [cutC]
      · simp [cutC] at h
    · have hp : ([c] : List UInt8).isPrefixOf (b :: l) = false := by simp only [List.isPrefixOf, Bool.and_true, beq_eq_false_iff_ne]; exact Ne.symm e
      have hc : cutC c (b :: l) = (b :: (cutC c l).1, (cutC c l).2.1, (cutC c l).2.2) := by rw [cutC, if_neg e]
      rw [hc]
      refine ⟨fun h => ?_, fun h => ?_⟩
      · obtain ⟨a1, a2, a3⟩ := h1 h
        have hne : (Lib.index l [c] == -1) = false := by rw [beq_eq_false_iff_ne]; omega
        have hi : Lib.index (b :: l) [c] = Lib.index l [c] + 1 := by
          conv => lhs; unfold Lib.index
          rw [hp, hne]; rfl
        rw [hi]
        have ht : (Lib.index l [c] + 1).toNat = (Lib.index l [c]).toNat + 1 := by omega
        refine ⟨by omega, ?_, ?_⟩
        · rw [ht, List.take_succ_cons, a2]
        · rw [ht, List.drop_succ_cons, a3]
      · obtain ⟨a1, a2, a3⟩ := h2 h
        have hi : Lib.index (b :: l) [c] = -1 := by
          conv => lhs; unfold Lib.index
          rw [hp, a1]; rfl
        exact ⟨hi, by rw [a2], a3⟩
theorem cut_one (c : UInt8) (l : List UInt8) : Lib.cut l [c] = cutC c l := by
  obtain ⟨h1, h2⟩ := index_one c l
  unfold Lib.cut
  cases h : (cutC c l).2.2 with
  | true =>
    obtain ⟨a1, a2, a3⟩ := h1 h
    rw [if_pos a1]
    exact Prod.ext a2.symm (Prod.ext a3.symm h.symm)
  | false =>
    obtain ⟨a1, a2, a3⟩ := h2 h
    rw [if_neg (by omega)]
    exact Prod.ext a2.symm (Prod.ext a3.symm h.symm)
theorem cutC_len (c : UInt8) : ∀ l : List UInt8, (cutC c l).1.length ≤ l.length ∧ (cutC c l).2.1.length ≤ l.length ∧ ((cutC c l).2.2 = true → (cutC c l).2.1.length + 1 ≤ l.length)
  | [] => ⟨Nat.le_refl _, Nat.le_refl _, fun h => by simp [cutC] at h⟩
  | b :: l => by
    obtain ⟨h1, h2, h3⟩ := cutC_len c l
    rw [cutC]
    split
    · simp
    · refine ⟨?_, ?_, fun h => ?_⟩
      · simp only [List.length_cons]; omega
      · simp only [List.length_cons]; omega
      · have := h3 h
        simp only [List.length_cons]; omega
theorem cutC_app (c : UInt8) : ∀ (a l : List UInt8), c ∉ a → cutC c (a ++ c :: l) = (a, l, true)
  | [], l, _ => by simp [cutC]
  | b :: a, l, h => by
    have h1 : b ≠ c := fun e => h (by rw [e]; exact List.mem_cons_self)
    rw [List.cons_append, cutC, if_neg h1, cutC_app c a l (fun h' => h (List.mem_cons_of_mem _ h'))]
theorem cutC_none (c : UInt8) : ∀ (a : List UInt8), c ∉ a → cutC c a = (a, [], false)
  | [], _ => rfl
  | b :: a, h => by
    have h1 : b ≠ c := fun e => h (by rw [e]; exact List.mem_cons_self)
    rw [cutC, if_neg h1, cutC_none c a (fun h' => h (List.mem_cons_of_mem _ h'))]
/-- Words, from the front. -/
def wr : List UInt8 → List (List UInt8)
  | [] => [[]]
  | b :: l => if b = 32 then [] :: wr l else (b :: (wr l).headD []) :: (wr l).tail
theorem wr_ne : ∀ l, wr l = (wr l).headD [] :: (wr l).tail
  | [] => rfl
  | b :: l => by rw [wr]; split <;> rfl
theorem wds_fold : ∀ (l : List UInt8) (ws : List (List UInt8)) (a : List UInt8), l.foldl wdStep (ws ++ [a]) = ws ++ ((a ++ (wr l).headD []) :: (wr l).tail)
  | [], ws, a => by simp [wr]
  | b :: l, ws, a => by
    rw [List.foldl_cons, wr]
    by_cases e : b = 32
    · subst e
      have h1 : wdStep (ws ++ [a]) 32 = (ws ++ [a]) ++ [[]] := by unfold wdStep; rw [if_pos rfl]
      rw [h1, wds_fold l (ws ++ [a]) [], if_pos rfl, List.nil_append, ← wr_ne l]
      simp
    · have h1 : wdStep (ws ++ [a]) b = ws ++ [a ++ [b]] := by unfold wdStep; rw [if_neg e]; simp
      rw [h1, wds_fold l ws (a ++ [b]), if_neg e]
      simp
theorem wds_wr (l : List UInt8) : wds l = wr l := by
  have := wds_fold l [] []
  rw [List.nil_append, List.nil_append, List.nil_append, ← wr_ne l] at this
  exact this
theorem wr_cut : ∀ l : List UInt8, wr l = (cutC 32 l).1 :: (if (cutC 32 l).2.2 = true then wr (cutC 32 l).2.1 else [])
  | [] => rfl
  | b :: l => by
    have h := wr_cut l
    rw [wr, cutC]
    by_cases e : b = 32
    · rw [if_pos e, if_pos e]; rfl
    · rw [if_neg e, if_neg e, h]; rfl
/-- The edge that a word tells. -/
def edgeOf (w : List UInt8) : Option (Int × Int) :=
  if (cutC 62 w).2.2 = true then (match numOf (cutC 62 w).1, numOf (cutC 62 w).2.1 with
    | some a, some b => some (a, b)
    | _, _ => none) else none
/-- The edges that words tell; the place of the one that tells none. -/
def goW (k : Nat) : List (List UInt8) → Nat ⊕ List (Int × Int)
  | [] => .inr []
  | w :: ws => match edgeOf w with
    | none => .inl k
    | some e => match goW (k + 1) ws with
      | .inl j => .inl j
      | .inr l => .inr (e :: l)
theorem goW_none {k : Nat} {w : List UInt8} {ws : List (List UInt8)} (h : edgeOf w = none) : goW k (w :: ws) = .inl k := by rw [goW, h]
theorem goW_some {k : Nat} {w : List UInt8} {ws : List (List UInt8)} {e : Int × Int} (h : edgeOf w = some e) : goW k (w :: ws) = (match goW (k + 1) ws with
      | .inl j => .inl j
      | .inr l => .inr (e :: l)) := by rw [goW, h]
/-- The graph that words tell. -/
def parseW : List (List UInt8) → Nat ⊕ (Int × List (Int × Int))
  | [] => .inl 0
  | w :: ws => match numOf w with
    | none => .inl 0
    | some n => match goW 1 ws with
      | .inl j => .inl j
      | .inr l => .inr (n, l)
/-- What is known when the first so many words are read: the rest decides. -/
def ToldYet (k : Nat) (n : Int) (done : List (Int × Int)) (rest : List (List UInt8)) (r : Nat ⊕ (Int × List (Int × Int))) : Prop := r = (match goW k rest with
      | .inl j => .inl j
      | .inr l => .inr (n, done ++ l))
theorem ToldYet.start {w : List UInt8} {ws : List (List UInt8)} {n : Int} (h : numOf w = some n) : ToldYet 1 n [] ws (parseW (w :: ws)) := by
  unfold ToldYet
  rw [parseW, h]
  cases goW 1 ws <;> rfl
theorem ToldYet.bad {k : Nat} {n : Int} {done : List (Int × Int)} {w : List UInt8} {ws : List (List UInt8)} {r : Nat ⊕ (Int × List (Int × Int))} (h : ToldYet k n done (w :: ws) r) (he : edgeOf w = none) : r = .inl k := by
  unfold ToldYet at h
  rw [goW_none he] at h
  exact h
theorem ToldYet.next {k : Nat} {n : Int} {done : List (Int × Int)} {w : List UInt8} {ws : List (List UInt8)} {r : Nat ⊕ (Int × List (Int × Int))} {e : Int × Int} (h : ToldYet k n done (w :: ws) r) (he : edgeOf w = some e) : ToldYet (k + 1) n (done ++ [e]) ws r := by
  unfold ToldYet at *
  rw [goW_some he] at h
  rw [h]
  cases goW (k + 1) ws with
  | inl j => rfl
  | inr l => simp
theorem ToldYet.done {k : Nat} {n : Int} {es : List (Int × Int)} {r : Nat ⊕ (Int × List (Int × Int))} (h : ToldYet k n es [] r) : r = .inr (n, es) := by
  unfold ToldYet at h
  rw [goW] at h
  simpa using h
theorem parse_bad {w : List UInt8} {ws : List (List UInt8)} (h : numOf w = none) : parseW (w :: ws) = .inl 0 := by rw [parseW, h]
/-- Numbers' digits hold no blank, and no arrow. -/
theorem dg_mem {x : Int} {b : UInt8} (h : b ∈ dgI x) : b = 45 ∨ isD b = true := by
  unfold dgI at h
  have ha := List.all_eq_true.1 (digN_all x.natAbs)
  split at h
  · rcases List.mem_cons.1 h with h | h
    · exact .inl h
    · exact .inr (ha b h)
  · exact .inr (ha b h)
theorem dg_blank (x : Int) : (32 : UInt8) ∉ dgI x := fun h => by
  rcases dg_mem h with h | h
  · exact absurd h (by decide)
  · revert h; decide
theorem dg_arrow (x : Int) : (62 : UInt8) ∉ dgI x := fun h => by
  rcases dg_mem h with h | h
  · exact absurd h (by decide)
  · revert h; decide
/-- An edge's word. -/
def edW (e : Int × Int) : List UInt8 := dgI e.1 ++ 62 :: dgI e.2
theorem edW_blank (e : Int × Int) : (32 : UInt8) ∉ edW e := fun h => by
  unfold edW at h
  rcases List.mem_append.1 h with h | h
  · exact dg_blank _ h
  · rcases List.mem_cons.1 h with h | h
    · exact absurd h (by decide)
    · exact dg_blank _ h
def smallB (x : Int) : Bool := decide (-1000000000 < x) && decide (x < 1000000000)
theorem small_yes {x : Int} (h : smallB x = true) : numOf (dgI x) = some x := numOf_dg x ((small_dg x).2 (by simpa [smallB] using h))
theorem small_no {x : Int} (h : smallB x = false) : numOf (dgI x) = none := numOf_dg_none x (by
  rcases Nat.lt_or_ge 9 (digN x.natAbs).length with h1 | h1
  · exact h1
  · have := (small_dg x).1 h1
    rw [smallB, decide_eq_true this.1, decide_eq_true this.2] at h
    cases h)
theorem edgeOf_edW (e : Int × Int) : edgeOf (edW e) = if smallB e.1 && smallB e.2 then some e else none := by
  unfold edgeOf edW
  rw [cutC_app 62 _ _ (dg_arrow e.1)]
  simp only [if_true]
  cases h1 : smallB e.1 with
  | false => rw [small_no h1]; simp
  | true =>
    rw [small_yes h1]
    cases h2 : smallB e.2 with
    | false => rw [small_no h2]; simp
    | true => rw [small_yes h2]; simp
/-- May all numbers be read again? -/
def fineB (n : Int) (xs : List (Int × Int)) : Bool := smallB n && xs.all fun e => smallB e.1 && smallB e.2
theorem goW_words : ∀ (xs : List (Int × Int)) (k : Nat), (xs.all (fun e => smallB e.1 && smallB e.2) = true → goW k (xs.map edW) = .inr xs) ∧ (xs.all (fun e => smallB e.1 && smallB e.2) = false → ∃ j, goW k (xs.map edW) = .inl j)
  | [], k => ⟨fun _ => rfl, fun h => by simp at h⟩
  | e :: xs, k => by
    obtain ⟨h1, h2⟩ := goW_words xs (k + 1)
    rw [List.map_cons]
    cases he : smallB e.1 && smallB e.2 with
    | false =>
      have hn : edgeOf (edW e) = none := by rw [edgeOf_edW, he]; rfl
      refine ⟨fun h => ?_, fun _ => ⟨k, goW_none hn⟩⟩
      rw [List.all_cons, he] at h
      cases h
    | true =>
      have hs : edgeOf (edW e) = some e := by rw [edgeOf_edW, he]; rfl
      refine ⟨fun h => ?_, fun h => ?_⟩
      · rw [List.all_cons, he, Bool.true_and] at h
        rw [goW_some hs, h1 h]
      · rw [List.all_cons, he, Bool.true_and] at h
        obtain ⟨j, hj⟩ := h2 h
        exact ⟨j, by rw [goW_some hs, hj]⟩
theorem wr_app (a l : List UInt8) (h : (32 : UInt8) ∉ a) : wr (a ++ 32 :: l) = a :: wr l := by rw [wr_cut, cutC_app 32 a l h]; rfl
theorem wr_one (a : List UInt8) (h : (32 : UInt8) ∉ a) : wr a = [a] := by rw [wr_cut, cutC_none 32 a h]; rfl
theorem wr_txt : ∀ (xs : List (Int × Int)) (a : List UInt8), (32 : UInt8) ∉ a → wr (a ++ xs.flatMap fun e => [32] ++ dgI e.1 ++ [62] ++ dgI e.2) = a :: xs.map edW
  | [], a, h => by simpa using wr_one a h
  | e :: xs, a, h => by
    have e1 : a ++ ((e :: xs).flatMap fun e => [32] ++ dgI e.1 ++ [62] ++ dgI e.2) = a ++ 32 :: (edW e ++ xs.flatMap fun e => [32] ++ dgI e.1 ++ [62] ++ dgI e.2) := by simp [edW]
    rw [e1, wr_app a _ h, wr_txt xs (edW e) (edW_blank e), List.map_cons]
theorem parse_txt (n : Int) (xs : List (Int × Int)) : (fineB n xs = true → parseW (wr (dgI n ++ xs.flatMap fun e => [32] ++ dgI e.1 ++ [62] ++ dgI e.2)) = .inr (n, xs)) ∧ (fineB n xs = false → ∃ j, parseW (wr (dgI n ++ xs.flatMap fun e => [32] ++ dgI e.1 ++ [62] ++ dgI e.2)) = .inl j) := by
  rw [wr_txt xs (dgI n) (dg_blank n)]
  obtain ⟨h1, h2⟩ := goW_words xs 1
  unfold fineB
  cases hn : smallB n with
  | false => exact ⟨fun h => by simp at h, fun _ => ⟨0, parse_bad (small_no hn)⟩⟩
  | true =>
    refine ⟨fun h => ?_, fun h => ?_⟩
    · rw [parseW, small_yes hn]
      simp only
      rw [h1 (by simpa using h)]
    · obtain ⟨j, hj⟩ := h2 (by simpa using h)
      refine ⟨j, ?_⟩
      rw [parseW, small_yes hn]
      simp only
      rw [hj]
end Go.Proofs.YtnmpcendimdoeaaGreatDoor.Dig
