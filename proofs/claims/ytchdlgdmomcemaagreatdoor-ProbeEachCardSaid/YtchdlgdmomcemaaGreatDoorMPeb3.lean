/- A part of the proof of ProbeEachCardSaid: texts that lead to it, merged. -/
import Derived.Test.YtchdlgdmomcemaaGreatDoorMPeb2
import Derived.IntWalk
import Derived.Shelf.SlGeneric
import Derived.Shelf.SlSortCmp.SmallK
import Derived.Shelf.SlicesG.Cmp
import Derived.Shelf.SlicesE.Clone
import Derived.Shelf.SlicesQ.Equal
import Derived.Shelf.SlicesG.Clone
import Derived.Shelf.SlicesG.Equal
import Derived.Shelf.SlicesG.SearchI
import Derived.Ground.SlsfProg
import Derived.Ground.SlgcProg
import Derived.Ground.SlgnProg
import Derived.Ground.SlgqProg
import Derived.Test.YtchdlgdmomcemaaGreatDoorProg
import Derived.Shelf.SlSortCmp.InsertionK
import Derived.Laws.StructEq
import Derived.Deep.MidRow
import Derived.Lib.EndianMore
import Derived.Laws.IdiomCopy
import Derived.Lib.SliceRun
import Derived.Shelf.SlSortCmp.NoneTotal
import Derived.Lib.OwnBridge
import Derived.Lib.AppendStr
import Derived.Laws.OwnMore
section
namespace Go.Proofs.YtchdlgdmomcemaaGreatDoor.Shd
open Go Go.RowKit Go.Lib Oct Num Gap
def op1 (s : ByteArray) (N a p : Int) : (Int × Int) ⊕ (Int × Nat × List (Int × Int) × Int) :=
  if (rdG s p).2.2.1 = 0 then (if (rdG s p).1 < 1 ∨ N < a + (rdG s p).1 then .inl (4, p) else match mkF s (marksN (rdG s p).1.toNat) (rdG s p).2.1 with
    | .inl e => .inl e
    | .inr (ms, b) => .inr (a, (rdG s p).1.toNat, ms, b)) else .inl ((rdG s p).2.2.1, (rdG s p).2.2.2)
def opG (s : ByteArray) (N : Int) : (Int × Int) ⊕ (Int × Nat × List (Int × Int) × Int) :=
  if (rdG s 0).2.2.1 = 0 then op1 s N (rdG s 0).1 (rdG s 0).2.1 else .inl ((rdG s 0).2.2.1, (rdG s 0).2.2.2)
theorem gsG_op (s : ByteArray) (N : Int) : gsG s N = (match opG s N with
    | .inl e => .inl e
    | .inr (a, n, ms, b) => gs3 s N a n b ms) := by
  unfold gsG opG
  by_cases h0 : (rdG s 0).2.2.1 = 0
  · rw [if_pos h0, if_pos h0];unfold gs1 op1
    by_cases h1 : (rdG s (rdG s 0).2.1).2.2.1 = 0
    · rw [if_pos h1, if_pos h1]
      by_cases h2 : (rdG s (rdG s 0).2.1).1 < 1 ∨ N < (rdG s 0).1 + (rdG s (rdG s 0).2.1).1
      · rw [if_pos h2, if_pos h2]
      · rw [if_neg h2, if_neg h2];unfold gs2
        cases mkF s (marksN (rdG s (rdG s 0).2.1).1.toNat) (rdG s (rdG s 0).2.1).2.1 with
        | inl e => rfl
        | inr x => obtain ⟨ms, b⟩ := x; rfl
    · rw [if_neg h1, if_neg h1]
  · rw [if_neg h0, if_neg h0]
theorem mkF_err {s : ByteArray} : ∀ (k : Nat) (p x a : Int), mkF s k p = .inl (x, a) → x ≠ 0
  | 0, p, x, a, h => by rw [mkF] at h; cases h
  | k + 1, p, x, a, h => by
    rw [mkF] at h
    by_cases he : (rdG s p).2.2.1 = 0
    · rw [if_pos he] at h
      cases hr : mkF s k (rdG s p).2.1 with
      | inl z =>
        rw [hr] at h;simp only at h;injection h with h
        subst h;exact mkF_err k _ x a hr
      | inr z => obtain ⟨l, q⟩ := z; rw [hr] at h; cases h
    · rw [if_neg he] at h;injection h with h
      injection h with h1 _
      rw [← h1];exact he
theorem opG_err {s : ByteArray} {N x a : Int} (h : opG s N = .inl (x, a)) : x ≠ 0 := by
  unfold opG at h
  by_cases h0 : (rdG s 0).2.2.1 = 0
  · rw [if_pos h0] at h;unfold op1 at h
    by_cases h1 : (rdG s (rdG s 0).2.1).2.2.1 = 0
    · rw [if_pos h1] at h
      by_cases h2 : (rdG s (rdG s 0).2.1).1 < 1 ∨ N < (rdG s 0).1 + (rdG s (rdG s 0).2.1).1
      · rw [if_pos h2] at h;injection h with h
        injection h with h3 _
        omega
      · rw [if_neg h2] at h
        cases hr : mkF s (marksN (rdG s (rdG s 0).2.1).1.toNat) (rdG s (rdG s 0).2.1).2.1 with
        | inl e =>
          rw [hr] at h;simp only at h;injection h with h
          subst h;exact mkF_err _ _ _ _ hr
        | inr y => obtain ⟨ms, b⟩ := y; rw [hr] at h; cases h
    · rw [if_neg h1] at h;injection h with h
      injection h with h3 _
      rw [← h3]; exact h1
  · rw [if_neg h0] at h;injection h with h
    injection h with h3 _
    rw [← h3]; exact h0
theorem mkF_len {s : ByteArray} : ∀ (k : Nat) (p : Int) (ms : List (Int × Int)) (q : Int), mkF s k p = .inr (ms, q) → ms.length = k
  | 0, p, ms, q, h => by
    rw [mkF] at h;injection h with h
    injection h with h _
    rw [← h]; rfl
  | k + 1, p, ms, q, h => by
    rw [mkF] at h
    by_cases he : (rdG s p).2.2.1 = 0
    · rw [if_pos he] at h
      cases hr : mkF s k (rdG s p).2.1 with
      | inl z => rw [hr] at h; cases h
      | inr z =>
        obtain ⟨l, q2⟩ := z;rw [hr] at h;simp only at h;injection h with h
        injection h with h _
        rw [← h, List.length_cons, mkF_len k _ l q2 hr]
    · rw [if_neg he] at h; cases h
theorem mkF_nums {s : ByteArray} : ∀ (k : Nat) (p : Int) (ms : List (Int × Int)) (q : Int), mkF s k p = .inr (ms, q) → ∀ x ∈ ms, (0 ≤ x.1 ∧ x.1 ≤ 72057594037927935) ∧ 0 ≤ x.2 ∧ x.2 ≤ s.size
  | 0, p, ms, q, h, x, hx => by
    rw [mkF] at h;injection h with h
    injection h with h _
    rw [← h] at hx;cases hx
  | k + 1, p, ms, q, h, x, hx => by
    rw [mkF] at h
    by_cases he : (rdG s p).2.2.1 = 0
    · rw [if_pos he] at h
      cases hr : mkF s k (rdG s p).2.1 with
      | inl z => rw [hr] at h; cases h
      | inr z =>
        obtain ⟨l, q2⟩ := z;rw [hr] at h;simp only at h;injection h with h
        injection h with h _
        rw [← h] at hx;rcases List.mem_cons.1 hx with e | e
        · rcases hg : rdG s p with ⟨y, n2, e0, a⟩;rw [hg] at he e;simp only at he e;subst he;obtain ⟨h1, h2, h3, h4, -⟩ := rdG_ok hg;subst e;exact ⟨h1, h2, by omega⟩
        · exact mkF_nums k _ l q2 hr x e
    · rw [if_neg he] at h; cases h
theorem opG_ok {s : ByteArray} {N a b : Int} {n : Nat} {ms : List (Int × Int)} (h : opG s N = .inr (a, n, ms, b)) : 0 ≤ a ∧ 1 ≤ n ∧ a + (n : Int) ≤ N ∧ ms.length = marksN n ∧ 0 ≤ b ∧ b ≤ s.size ∧ ∀ x ∈ ms, (0 ≤ x.1 ∧ x.1 ≤ 72057594037927935) ∧ 0 ≤ x.2 ∧ x.2 ≤ s.size := by
  unfold opG at h
  by_cases h0 : (rdG s 0).2.2.1 = 0
  · rw [if_pos h0] at h;unfold op1 at h
    by_cases h1 : (rdG s (rdG s 0).2.1).2.2.1 = 0
    · rw [if_pos h1] at h
      by_cases h2 : (rdG s (rdG s 0).2.1).1 < 1 ∨ N < (rdG s 0).1 + (rdG s (rdG s 0).2.1).1
      · rw [if_pos h2] at h; cases h
      · rw [if_neg h2] at h;rcases hg : rdG s 0 with ⟨x0, n0, e0, a0⟩;rw [hg] at h h0 h1 h2;simp only at h h0 h1 h2;subst h0;rcases hg1 : rdG s n0 with ⟨x1, n1, e1, a1⟩;rw [hg1] at h h1 h2;simp only at h h1 h2;subst h1;obtain ⟨p1, -⟩ := rdG_ok hg;obtain ⟨q1, q2, q3, q4, -⟩ := rdG_ok hg1
        cases hr : mkF s (marksN x1.toNat) n1 with
        | inl e => rw [hr] at h; cases h
        | inr y =>
          obtain ⟨ms', b'⟩ := y;rw [hr] at h;simp only at h;injection h with h
          injection h with ha h
          injection h with hn h
          injection h with hm hb
          subst ha hn hm hb;obtain ⟨r1, r2⟩ := mkF_place (marksN x1.toNat) n1 ms' b' (by omega) q4 hr;exact ⟨p1.1, by omega, by omega, mkF_len _ _ _ _ hr, r1, r2, mkF_nums _ _ _ _ hr⟩
    · rw [if_neg h1] at h; cases h
  · rw [if_neg h0] at h; cases h
def skN (s : ByteArray) (N : Int) : Nat → Int → (Int × Int) ⊕ Int
  | 0, p => .inr p
  | k + 1, p => if (skC s p N).2.1 = 0 then skN s N k (skC s p N).1 else .inl ((skC s p N).2.1, (skC s p N).2.2)
def seek2 (s : ByteArray) (N v a : Int) (ms : List (Int × Int)) (b : Int) : Value ⊕ Int :=
  if (s.size : Int) - b < (ms.getD ((v - a).toNat / 8) (0, 0)).1 then .inl (gE 4 (ms.getD ((v - a).toNat / 8) (0, 0)).2) else
    match skN s N ((v - a).toNat % 8) (b + (ms.getD ((v - a).toNat / 8) (0, 0)).1) with
    | .inl e => .inl (gE e.1 e.2)
    | .inr q => .inr q
def seekR (s : ByteArray) (N v : Int) : Value ⊕ Int := match opG s N with
  | .inl e => .inl (gE e.1 e.2)
  | .inr (a, n, ms, b) => if v < a ∨ a + (n : Int) ≤ v then .inl (Oct.errnoV 2) else seek2 s N v a ms b
theorem gtF_len {s : ByteArray} {N : Int} : ∀ (k : Nat) (first : Bool) (now p : Int) (l : List Int) (nx : Int), gtF s N k first now p = .inr (l, nx) → l.length = k
  | 0, first, now, p, l, nx, h => by
    rw [gtF] at h;injection h with h
    injection h with h _
    rw [← h]; rfl
  | k + 1, first, now, p, l, nx, h => by
    rw [gtF] at h;rcases hg : rdG s p with ⟨y, n2, e, b⟩;rw [hg] at h;simp only at h
    by_cases he : e = 0
    · subst he;rw [if_pos rfl] at h;obtain ⟨t, ht⟩ : ∃ t, (if first = true then now + bkI y else now + y + 1) = t := ⟨_, rfl⟩;rw [ht] at h
      by_cases hb : t < 0 ∨ N ≤ t
      · rw [if_pos hb] at h; cases h
      rw [if_neg hb] at h
      cases hr : gtF s N k false t n2 with
      | inl z => rw [hr] at h; cases h
      | inr z =>
        obtain ⟨l2, n3⟩ := z;rw [hr] at h;simp only at h;injection h with h
        injection h with h _
        rw [← h, List.length_cons, gtF_len k false t n2 l2 n3 hr]
    · rw [if_neg he] at h; cases h
theorem got_more {s : ByteArray} {p N v nx : Int} {l : List Int} (h : gtC s p N v = .inr (l, nx)) : (cnt s p N).2.2.1 = 0 ∧ (cnt s p N).1 = (l.length : Int) ∧ skC s p N = (nx, 0, 0) ∧ 0 ≤ p ∧ p ≤ s.size := by
  unfold gtC at h
  by_cases he : (cnt s p N).2.2.1 = 0
  · rw [if_pos he] at h;rcases hc : cnt s p N with ⟨x, n2, e, a⟩;rw [hc] at h he;simp only at h he;subst he;obtain ⟨hr, -⟩ := cntC_ok hc;obtain ⟨h1, h2, h3, h4, -⟩ := rdG_ok hr;have hl := gtF_len _ _ _ _ _ _ h;refine ⟨rfl, by simp only; omega, ?_, h2, by omega⟩;unfold skC;rw [hc, if_pos rfl];exact skF_of_gtF _ _ _ _ _ _ h
  · rw [if_neg he] at h; cases h
theorem rwG_len {s : ByteArray} {N : Int} : ∀ (k : Nat) (v p : Int) (rs : List (List Int × Int)) (q : Int), rwG s N k v p = .inr (rs, q) → rs.length = k
  | 0, v, p, rs, q, h => by
    rw [rwG] at h;injection h with h
    injection h with h _
    rw [← h]; rfl
  | k + 1, v, p, rs, q, h => by
    rw [rwG] at h
    cases hg : gtG s p N v with
    | inl e => rw [hg] at h; cases h
    | inr x =>
      obtain ⟨l, q1⟩ := x;rw [hg] at h;simp only at h
      cases hr : rwG s N k (v + 1) q1 with
      | inl e => rw [hr] at h; cases h
      | inr y =>
        obtain ⟨ls, r⟩ := y;rw [hr] at h;simp only at h;injection h with h
        injection h with h _
        rw [← h, List.length_cons, rwG_len k _ _ ls r hr]
theorem rwG_row {s : ByteArray} {N : Int} : ∀ (k : Nat) (v p : Int) (rs : List (List Int × Int)) (q : Int), rwG s N k v p = .inr (rs, q) → ∀ (i : Nat) (h : i < rs.length), ∃ nx, gtG s rs[i].2 N (v + (i : Int)) = .inr (rs[i].1, nx) ∧ ∀ (h2 : i + 1 < rs.length), rs[i + 1].2 = nx
  | 0, v, p, rs, q, h, i, hi => by
    have := rwG_len 0 v p rs q h;omega
  | k + 1, v, p, rs, q, h, i, hi => by
    rw [rwG] at h
    cases hg : gtG s p N v with
    | inl e => rw [hg] at h; cases h
    | inr x =>
      obtain ⟨l, q1⟩ := x;rw [hg] at h;simp only at h
      cases hr : rwG s N k (v + 1) q1 with
      | inl e => rw [hr] at h; cases h
      | inr y =>
        obtain ⟨ls, r⟩ := y;rw [hr] at h;simp only at h;injection h with h
        injection h with h _
        subst h
        cases i with
        | zero =>
          refine ⟨q1, by simpa using hg, fun h2 => ?_⟩;simp only [List.getElem_cons_succ];have hl : 0 < ls.length := by simpa using h2
          have hk := rwG_len k _ _ _ _ hr
          cases k with
          | zero => omega
          | succ k =>
            rw [rwG] at hr
            cases hg2 : gtG s q1 N (v + 1) with
            | inl e => rw [hg2] at hr; cases hr
            | inr x2 =>
              obtain ⟨l3, q3⟩ := x2;rw [hg2] at hr;simp only at hr
              cases hr2 : rwG s N k (v + 1 + 1) q3 with
              | inl e => rw [hr2] at hr; cases hr
              | inr y2 =>
                obtain ⟨ls2, r2⟩ := y2;rw [hr2] at hr;simp only at hr;injection hr with hr
                injection hr with hr _
                subst hr
                rfl
        | succ i =>
          have hi2 : i < ls.length := by simpa using hi
          obtain ⟨nx, h1, h2⟩ := rwG_row k (v + 1) q1 ls r hr i hi2;refine ⟨nx, ?_, fun h3 => ?_⟩
          · simp only [List.getElem_cons_succ];rw [show v + ((i + 1 : Nat) : Int) = v + 1 + (i : Int) by omega];exact h1
          · simp only [List.getElem_cons_succ];exact h2 (by simpa using h3)
theorem badM_all {b : Int} {rs : List (List Int × Int)} : ∀ (ms : List (Int × Int)) (i : Nat), badM b rs i ms = none → ∀ (j : Nat) (h : j < ms.length), ms[j].1 = (rs.getD (8 * (i + j)) ([], b)).2 - b
  | [], i, h, j, hj => by simp at hj
  | (m, p) :: l, i, h, j, hj => by
    rw [badM] at h
    by_cases e : m = (rs.getD (8 * i) ([], b)).2 - b
    · rw [if_pos e] at h
      cases j with
      | zero => simpa using e
      | succ j =>
        have := badM_all l (i + 1) h j (by simpa using hj);simp only [List.getElem_cons_succ];rw [this, show i + 1 + j = i + (j + 1) by omega]
    · rw [if_neg e] at h; cases h
theorem skN_rows {s : ByteArray} {N v p q : Int} {k : Nat} {rs : List (List Int × Int)} (h : rwG s N k v p = .inr (rs, q)) : ∀ (r i : Nat) (_ : i < rs.length) (_ : i + r < rs.length), skN s N r rs[i].2 = .inr rs[i + r].2
  | 0, i, _, _ => by rw [skN]; rfl
  | r + 1, i, h1, h2 => by
    obtain ⟨nx, e1, e2⟩ := rwG_row k v p rs q h i h1;obtain ⟨-, -, e3, -⟩ := got_more (v := v + (i : Int)) e1;rw [skN, e3, if_pos rfl];have h3 : i + 1 < rs.length := by omega
    have := skN_rows h r (i + 1) h3 (by omega);rw [e2 h3] at this;rw [this]
    congr 2
    congr 1
    omega
theorem gsG_parts {s : ByteArray} {N f : Int} {ls : List (List Int)} (h : gsG s N = .inr (f, ls)) : ∃ n ms b rs q, opG s N = .inr (f, n, ms, b) ∧ rwG s N n f b = .inr (rs, q) ∧ badM b rs 0 ms = none ∧ rs.map (·.1) = ls ∧ ¬ q < (s.size : Int) := by
  rw [gsG_op] at h
  cases ho : opG s N with
  | inl e => rw [ho] at h; cases h
  | inr x =>
    obtain ⟨a, n, ms, b⟩ := x;rw [ho] at h;simp only at h;unfold gs3 at h
    cases hr : rwG s N n a b with
    | inl e => rw [hr] at h; cases h
    | inr y =>
      obtain ⟨rs, q⟩ := y;rw [hr] at h;simp only at h
      cases hb : badM b rs 0 ms with
      | some z => rw [hb] at h; cases h
      | none =>
        rw [hb] at h;unfold gs4 at h;simp only at h
        by_cases hq : q < (s.size : Int)
        · rw [if_pos hq] at h; cases h
        · rw [if_neg hq] at h;injection h with h
          injection h with h1 h2
          subst h1;exact ⟨n, ms, b, rs, q, rfl, hr, hb, h2, hq⟩
theorem seek_of_gs {s : ByteArray} {N f : Int} {ls : List (List Int)} (h : gsG s N = .inr (f, ls)) : 0 ≤ f ∧ f + (ls.length : Int) ≤ N ∧ 1 ≤ ls.length ∧ (∀ v, v < f ∨ f + (ls.length : Int) ≤ v → seekR s N v = .inl (Oct.errnoV 2)) ∧
    ∀ (i : Nat) (hi : i < ls.length), ∃ q nx, seekR s N (f + (i : Int)) = .inr q ∧ gtC s q N (f + (i : Int)) = .inr (ls[i], nx) := by
  obtain ⟨n, ms, b, rs, q, ho, hr, hb, hm, hq⟩ := gsG_parts h;obtain ⟨p1, p2, p3, p4, p5, p6, p7⟩ := opG_ok ho;have hn := rwG_len _ _ _ _ _ hr;have hln : ls.length = n := by rw [← hm, List.length_map, hn]
  refine ⟨p1, by omega, by omega, fun v hv => ?_, fun i hi => ?_⟩
  · unfold seekR;rw [ho];simp only;rw [if_pos (by omega)]
  · have hi2 : i < rs.length := by omega
    obtain ⟨nx, e1, -⟩ := rwG_row n f b rs q hr i hi2;refine ⟨rs[i].2, nx, ?_, ?_⟩
    · unfold seekR;rw [ho];simp only;rw [if_neg (by omega)];have hv : (f + (i : Int) - f).toNat = i := by omega
      have hj : i / 8 < ms.length := by rw [p4]; unfold marksN; omega
      have h8 : 8 * (i / 8) < rs.length := by omega
      have hmj := badM_all ms 0 hb (i / 8) hj;rw [Nat.zero_add] at hmj;have hg1 : ms.getD (i / 8) (0, 0) = ms[i / 8] := by simp [List.getD, List.getElem?_eq_getElem hj]
      have hg2 : rs.getD (8 * (i / 8)) ([], b) = rs[8 * (i / 8)] := by simp [List.getD, List.getElem?_eq_getElem h8]
      rw [hg2] at hmj;obtain ⟨nx2, e3, -⟩ := rwG_row n f b rs q hr (8 * (i / 8)) h8;obtain ⟨-, -, -, g1, g2⟩ := got_more (v := f + ((8 * (i / 8) : Nat) : Int)) e3;have hsk := skN_rows hr (i % 8) (8 * (i / 8)) h8 (by omega);unfold seek2;rw [hv, hg1, hmj, if_neg (by omega), show b + (rs[8 * (i / 8)].2 - b) = rs[8 * (i / 8)].2 by omega, hsk];simp only
      congr 2
      congr 1
      omega
    · have : gtC s rs[i].2 N (f + (i : Int)) = .inr (rs[i].1, nx) := e1;rw [this]
      congr 2
      simp [← hm]
end Go.Proofs.YtchdlgdmomcemaaGreatDoor.Shd
end
section
namespace Go.Proofs.YtchdlgdmomcemaaGreatDoor.Edg
def lessB (a b : Int × Int) : Bool := decide (a.1 < b.1) || (decide (a.1 = b.1) && decide (a.2 < b.2))
theorem less_iff (a b : Int × Int) : lessB a b = true ↔ a.1 < b.1 ∨ a.1 = b.1 ∧ a.2 < b.2 := by simp [lessB]
theorem less_irr (a : Int × Int) : lessB a a = false := by
  cases h : lessB a a with
  | false => rfl
  | true => rw [less_iff] at h; omega
theorem less_trans {a b c : Int × Int} (h1 : lessB a b = true) (h2 : lessB b c = true) : lessB a c = true := by
  rw [less_iff] at *; omega
theorem less_eq {a b : Int × Int} (h1 : lessB a b = false) (h2 : lessB b a = false) : a = b := by
  have h1' : ¬ lessB a b = true := by simp [h1]
  have h2' : ¬ lessB b a = true := by simp [h2]
  rw [less_iff] at h1' h2';exact Prod.ext (by omega) (by omega)
theorem less_asym {a b : Int × Int} (h : lessB a b = true) : lessB b a = false := by
  cases h2 : lessB b a with
  | false => rfl
  | true => have := less_trans h h2; rw [less_irr] at this; cases this
def Srt (l : List (Int × Int)) : Prop := l.Pairwise (fun a b => lessB a b = true)
structure NormOf (xs ys : List (Int × Int)) : Prop where
  srt : Srt ys
  mem : ∀ e, e ∈ ys ↔ e ∈ xs
theorem srt_unique : ∀ {l m : List (Int × Int)}, Srt l → Srt m → (∀ e, e ∈ l ↔ e ∈ m) → l = m
  | [], [], _, _, _ => rfl
  | [], b :: m, _, _, h => by have := (h b).2 List.mem_cons_self; cases this
  | a :: l, [], _, _, h => by have := (h a).1 List.mem_cons_self; cases this
  | a :: l, b :: m, hl, hm, h => by
    obtain ⟨hl1, hl2⟩ := List.pairwise_cons.1 hl;obtain ⟨hm1, hm2⟩ := List.pairwise_cons.1 hm
    have hab : a = b := by
      rcases List.mem_cons.1 ((h a).1 List.mem_cons_self) with e | e
      · exact e
      · rcases List.mem_cons.1 ((h b).2 List.mem_cons_self) with e2 | e2
        · exact e2.symm
        · have h1 := hm1 a e;have h2 := hl1 b e2;rw [less_asym h1] at h2;cases h2
    subst hab
    congr 1
    refine srt_unique hl2 hm2 fun e => ⟨fun he => ?_, fun he => ?_⟩
    · rcases List.mem_cons.1 ((h e).1 (List.mem_cons_of_mem _ he)) with rfl | h'
      · have := hl1 e he; rw [less_irr] at this; cases this
      · exact h'
    · rcases List.mem_cons.1 ((h e).2 (List.mem_cons_of_mem _ he)) with rfl | h'
      · have := hm1 e he; rw [less_irr] at this; cases this
      · exact h'
theorem NormOf.unique {xs ys zs : List (Int × Int)} (h1 : NormOf xs ys) (h2 : NormOf xs zs) : ys = zs := srt_unique h1.srt h2.srt fun e => (h1.mem e).trans (h2.mem e).symm
end Go.Proofs.YtchdlgdmomcemaaGreatDoor.Edg
end
section
namespace Go.Proofs.YtchdlgdmomcemaaGreatDoor.Edg
open Go Go.RowKit Go.Lib
def ed (l : List (Int × Int)) (i : Nat) : Int × Int := l.getD i (0, 0)
theorem ed_at (l : List (Int × Int)) (i : Nat) (h : i < l.length) : ed l i = l[i] := by simp [ed, List.getD, List.getElem?_eq_getElem h]
theorem take_ed (l : List (Int × Int)) (k : Nat) (h : k < l.length) : l.take (k + 1) = l.take k ++ [ed l k] := by rw [List.take_succ_eq_append_getElem h, ed_at l k h]
def eV (e : Int × Int) : Value := .agg #[.int .i64 e.1, .int .i64 e.2]
def eC : List (Int × Int) → List Value
  | [] => []
  | e :: l => .int .i64 e.1 :: .int .i64 e.2 :: eC l
theorem eC_len (l : List (Int × Int)) : (eC l).length = l.length * 2 := by
  induction l with
  | nil => rfl
  | cons e l ih => simp [eC, ih]; omega
theorem eC_app (l m : List (Int × Int)) : eC (l ++ m) = eC l ++ eC m := by
  induction l with
  | nil => rfl
  | cons e l ih => simp [eC, ih]
theorem eC_one (l : List (Int × Int)) : ∀ u ∈ eC l, u.oneCell' = true := by
  induction l with
  | nil => intro u hu; cases hu
  | cons e l ih =>
    intro u hu;rcases List.mem_cons.1 hu with rfl | hu
    · rfl
    · rcases List.mem_cons.1 hu with rfl | hu
      · rfl
      · exact ih u hu
theorem eC_at (l : List (Int × Int)) (i : Nat) (h : i < l.length) : (eC l)[i * 2]? = some (.int .i64 (ed l i).1) ∧ (eC l)[i * 2 + 1]? = some (.int .i64 (ed l i).2) := by
  induction l generalizing i with
  | nil => simp at h
  | cons e l ih =>
    cases i with
    | zero => exact ⟨rfl, rfl⟩
    | succ i =>
      have := ih i (by simpa using h);rw [show (i + 1) * 2 = i * 2 + 2 by omega, show i * 2 + 2 + 1 = (i * 2 + 1) + 2 by omega]
      simpa [eC, ed] using this
def EIn (w : World) (A : Option Addr) (l : List (Int × Int)) : Prop := ∀ i, i < l.length → ∃ b o, A = some ⟨b, o, none⟩ ∧ b < w.heap.size ∧ w.cell? ⟨b, o + i * 2, none⟩ = some (.int .i64 (ed l i).1) ∧ w.cell? ⟨b, o + i * 2 + 1, none⟩ = some (.int .i64 (ed l i).2)
theorem EIn.on {w w' : World} {A : Option Addr} {l : List (Int × Int)} (h : EIn w A l) (hb : Below w.heap.size w w') : EIn w' A l := fun i hi => by
  obtain ⟨b, o, e, hlt, h1, h2⟩ := h i hi;exact ⟨b, o, e, Nat.lt_of_lt_of_le hlt hb.size, (hb.cell (p := ⟨b, o + i * 2, none⟩) hlt).trans h1, (hb.cell (p := ⟨b, o + i * 2 + 1, none⟩) hlt).trans h2⟩
theorem EIn.nil (w : World) (A : Option Addr) : EIn w A [] := fun i hi => absurd hi (by simp)
theorem EIn.cells {w : World} {b o : Nat} {l : List (Int × Int)} (h : EIn w (some ⟨b, o, none⟩) l) {i : Nat} (hi : i < l.length) : w.cell? ⟨b, o + i * 2, none⟩ = some (.int .i64 (ed l i).1) ∧ w.cell? ⟨b, o + i * 2 + 1, none⟩ = some (.int .i64 (ed l i).2) := by
  obtain ⟨b', o', e, _, h1, h2⟩ := h i hi;cases e;exact ⟨h1, h2⟩
theorem addr_add (b o j : Nat) : (⟨b, o, none⟩ : Addr).add j = ⟨b, o + j, none⟩ := by unfold Addr.add; split <;> simp_all
theorem EIn.news {w : World} {b o : Nat} {l : List (Int × Int)} (h : EIn w (some ⟨b, o, none⟩) l) : ∀ j u, (eC l)[j]? = some u → w.cell? ((⟨b, o, none⟩ : Addr).add j) = some u := fun j u hu => by
  have hj : j < (eC l).length := by
    rcases Nat.lt_or_ge j (eC l).length with h' | h'
    · exact h'
    · rw [List.getElem?_eq_none h'] at hu; cases hu
  rw [eC_len] at hj;rw [addr_add];have hi : j / 2 < l.length := by omega
  have h1 := h.cells hi;have h2 := eC_at l (j / 2) hi;rcases Nat.mod_two_eq_zero_or_one j with hm | hm
  · have e : j / 2 * 2 = j := by omega
    rw [e] at h1 h2;rw [h2.1] at hu;rw [h1.1, ← hu]
  · have e : j / 2 * 2 + 1 = j := by omega
    rw [Nat.add_assoc, e] at h1;rw [e] at h2;rw [h2.2] at hu;rw [h1.2, ← hu]
def OwnE (w : World) (B : Nat) (A : Option Addr) (n cap : Nat) (l : List (Int × Int)) : Prop := n = l.length ∧ w.ownsRow B 64 2 (.slice A n cap) n (eC l)
theorem OwnE.ein {w : World} {B : Nat} {A : Option Addr} {n cap : Nat} {l : List (Int × Int)} (h : OwnE w B A n cap l) : EIn w A l := fun i hi => by
  obtain ⟨g, cap', e, hb, hlt⟩ := h.2.form (by rw [h.1]; omega);simp only [Value.slice.injEq] at e;obtain ⟨rfl, _, _⟩ := e;have hc := h.2.cells (g := g) rfl;have h1 := eC_at l i hi;have a1 := hc _ _ h1.1;have a2 := hc _ _ h1.2;rw [addr_add] at a1 a2;exact ⟨g, 0, rfl, hlt, a1, by rw [Nat.add_assoc]; exact a2⟩
theorem OwnE.alloc {w : World} {B n cap : Nat} {A : Option Addr} {l : List (Int × Int)} (h : OwnE w B A n cap l) (o : Obj) : OwnE (w.alloc o) B A n cap l := ⟨h.1, h.2.alloc o⟩
theorem OwnE.on {w w' : World} {B n cap : Nat} {A : Option Addr} {l : List (Int × Int)} (h : OwnE w B A n cap l) (hb : Below w.heap.size w w') : OwnE w' B A n cap l := ⟨h.1, Own.row_on h.2 hb⟩
theorem OwnE.none (w : World) (B : Nat) : OwnE w B none 0 0 [] := ⟨rfl, World.ownsRow_nil _ _ _ _⟩
theorem elemE : Own.Elem Tryz.prog 23 64 (.agg #[.int .i64 0, .int .i64 0]) 2 16 := ⟨Tryz.underlying23, by kernel_rfl, rfl, by decide⟩
theorem push1 (w0 v : World) (ty : TypeId) (A : Option Addr) (n cap : Nat) (l : List (Int × Int)) (e : Int × Int) (hO : OwnE v w0.heap.size A n cap l) (hb : Below w0.heap.size w0 v) (hn : n ≤ 100000) :
    ∃ g' cap' v', (Builtin.append_ #[23, 23] ty #[.slice A n cap, .slice (some ⟨v.heap.size, 0, none⟩) 1 1]).run Tryz.prog (v.alloc (.cells #[.int .i64 e.1, .int .i64 e.2] 64)) = .ok (.slice (some ⟨g', 0, none⟩) (n + 1) cap') v' ∧
      OwnE v' w0.heap.size (some ⟨g', 0, none⟩) (n + 1) cap' (l ++ [e]) ∧ Below w0.heap.size w0 v' ∧ Own.Kept (v.alloc (.cells #[.int .i64 e.1, .int .i64 e.2] 64)) v' (Value.slice A n cap).ownBlock g' := by
  obtain ⟨g', cap', v', h1, h2, h3, h4⟩ := Own.append elemE w0 (v.alloc (.cells #[.int .i64 e.1, .int .i64 e.2] 64)) ty A n cap 1 1 (eC l) (hO.2.alloc _) ⟨v.heap.size, 0, none⟩ [.int .i64 e.1, .int .i64 e.2] rfl (World.news_of_block (cs := #[.int .i64 e.1, .int .i64 e.2]) (heap_alloc_new v _)) (by simp [Value.oneCell']) (by omega) (by unfold maxLen; omega) (by omega) (hb.alloc hb.size _);exact ⟨g', cap', v', h1, ⟨by rw [List.length_append, ← hO.1]; rfl, by rw [eC_app]; exact h2⟩, h3, h4⟩
end Go.Proofs.YtchdlgdmomcemaaGreatDoor.Edg
end
section
namespace Go.Proofs.YtchdlgdmomcemaaGreatDoor.Num
open Go Go.RowKit Go.Lib
set_option maxRecDepth 100000 in
set_option maxHeartbeats 2000000 in
theorem refInts_any (A B : Option Addr) (ca cb : Nat) (xs ys : List Int) (w : World) (hx : xs.length ≤ maxLen) (hy : ys.length ≤ maxLen) (hA : IIn w A xs) (hB : IIn w B ys) :
    Calls Tryz.prog 16 #[.slice A xs.length ca, .slice B ys.length cb] w fun e w' => e = .returned (.bool (decide (xs = ys))) ∧ ∃ q, w' = w.drewN q := by
  unfold maxLen at hx hy;have HA := Lib.hid hA;have HB := Lib.hid hB;clear hA hB;refine Kn.Z.cl Tryz.func16 rfl Tryz.ntmps16 rfl (.c 0 rfl (.c 1 rfl .n)) ?_;refine Kn.Z.f fun K1 hK1=>?_;refine Kn.Z.u (.a .c .n) ?_;refine Kn.Z.e hK1 ?_;clear hK1 K1
  by_cases hlen : xs.length = ys.length
  · have qn : ((xs.length : Int) != (ys.length : Int)) = false := by simp [hlen]
    have qn2 : (xs.length != ys.length) = false := by simp [hlen]
    have HL := Lib.hid hlen;clear hlen;refine Kn.Z.q fun K2 hK2=>?_;refine Kn.Z.f fun K3 hK3=>?_;refine Kn.Z.u (.m (.t rfl) .n) ?_;refine Kn.Z.s .o (.len (.t rfl)) fun Ko Kp=>?_;go_simp;(try go_bits);refine Kp _ _ ?_;clear Kp Ko;refine Kn.Z.u (.m (.t rfl) .n) ?_;refine Kn.Z.s .o (.len (.t rfl)) fun Ko Kp=>?_;go_simp;(try go_bits);refine Kp _ _ ?_;clear Kp Ko;refine Kn.Z.s .o (.bin (.t rfl) (.t rfl)) fun Ko Kp=>?_;go_simp;(try go_bits);refine Kp _ _ ?_;clear Kp Ko;refine Kn.Z.e hK3 ?_;clear hK3 K3;clear qn qn2;refine Kn.Z.no (.t rfl) ?_;refine Kn.Z.j hK2 ?_;clear hK2 K2;refine Kn.Z.q fun K4 hK4=>?_;refine Kn.Z.f fun K5 hK5=>?_;refine Kn.Z.u (.a .c .n) ?_;refine Kn.Z.e hK5 ?_;clear hK5 K5;refine Kn.Z.b ?_;intro fb fg;refine Kn.loop (fun m fr v => ∃ (k q : Nat), Kn.Kn 26 [(5, .int .i64 (k : Int)), (0, .slice A xs.length ca), (1, .slice B ys.length cb)] fr ∧ k + m = xs.length ∧ Hid (∀ i, i < k → nt xs i = nt ys i) ∧ v = w.drewN q) xs.length ⟨0, 0, fg.cut (.u 5 rfl rfl (.c 0 rfl (.c 1 rfl .n))), by omega, Lib.hid (fun i hi => absurd hi (by omega)), rfl⟩ ?_;clear fg fb;intro m6 fa v hI Kl6 hKl6;obtain ⟨k, q, fh, hk, HP, rfl⟩ := hI
    by_cases hlt : k < xs.length
    · have hlt2 : k < ys.length := by rw [← HL.out]; exact hlt
      obtain ⟨ba, oa, rfl, -, ca1⟩ := HA.out k hlt;obtain ⟨bb, ob, rfl, -, cb1⟩ := HB.out k hlt2;obtain ⟨x1, hx1⟩ : ∃ x, nt xs k = x := ⟨_, rfl⟩;obtain ⟨y1, hy1⟩ : ∃ x, nt ys k = x := ⟨_, rfl⟩;rw [hx1] at ca1;rw [hy1] at cb1;have HX := Lib.hid hx1;have HY := Lib.hid hy1;clear hx1 hy1
      revert fa
      refine Kn.Z.q fun K7 hK7=>?_;refine Kn.Z.f fun K8 hK8=>?_;refine Kn.Z.u (.m (.t rfl) (.m (.t rfl) .n)) ?_;refine Kn.Z.s .o (.len (.t rfl)) fun Ko Kp=>?_;go_simp;(try go_bits);refine Kp _ _ ?_;clear Kp Ko;refine Kn.Z.s .o (.bin (.t rfl) (.t rfl)) fun Ko Kp=>?_;go_simp;(try go_bits);refine Kp _ _ ?_;clear Kp Ko;refine Kn.Z.e hK8 ?_;clear hK8 K8;refine Kn.Z.t (.c 14 rfl (.c 5 rfl (.c 0 rfl (.c 1 rfl .n)))) ?_;refine Kn.Z.y (.t rfl) ?_;refine Kn.Z.j hK7 ?_;clear hK7 K7;refine Kn.Z.q fun K9 hK9=>?_;refine Kn.Z.b ?_
      by_cases e1 : x1 = y1
      · have q1 : (x1 != y1) = false := by simp [e1]
        have HE : Hid (nt xs k = nt ys k) := Lib.hid (by rw [HX.out, HY.out, e1]);clear e1;refine Kn.Z.q fun K10 hK10=>?_;refine Kn.Z.st (by kernel_rfl) (by kernel_rfl) ?_;refine Kn.Z.us (.m (.t rfl) (.m (.t rfl) .n)) ?_;refine Kn.Z.ss .o (.indexAddr (.t rfl) (.t rfl)) fun Ko Kp=>?_;go_simp;(try go_bits);refine Kp _ ?_;clear Kp Ko;refine Kn.Z.ss .o (.load (.t rfl)) fun Ko Kp=>?_;go_simp;(try go_bits);refine Kp _ ?_;clear Kp Ko;refine Kn.Z.us (.m (.t rfl) (.m (.t rfl) .n)) ?_;refine Kn.Z.ss .o (.indexAddr (.t rfl) (.t rfl)) fun Ko Kp=>?_;go_simp;(try go_bits);refine Kp _ ?_;clear Kp Ko;refine Kn.Z.ss .o (.load (.t rfl)) fun Ko Kp=>?_;go_simp;(try go_bits);refine Kp _ ?_;clear Kp Ko;refine Kn.Z.ss .o (.bin (.t rfl) (.t rfl)) fun Ko Kp=>?_;go_simp;(try go_bits);refine Kp _ ?_;clear Kp Ko;refine Kn.Z.se hK10 ?_;clear hK10 K10;refine Kn.Z.no (.t rfl) ?_;intro fb fg;refine wp_skip ?_;refine Kn.block_normal ?_;refine hK9 _ _ ?_;clear hK9 K9
        revert fb
        refine Kn.Z.t (.c 5 rfl (.c 0 rfl (.c 1 rfl .n))) ?_;refine Kn.Z.r ?_;refine Kn.Z.u (.m (.t rfl) .n) ?_;refine Kn.Z.s .o (.bin (.t rfl) .c) fun Ko Kp=>?_;go_simp;(try go_bits);refine Kp _ _ ?_;clear Kp Ko;refine Kn.Z.u (.a (.t rfl) .n) ?_;intro fa fh;refine wpList_nil ?_;replace fh := fh.cut (.c 5 rfl (.c 0 rfl (.c 1 rfl .n)));exact hKl6 (m6 - 1) _ _ (by omega) ⟨k + 1, q + 1, fh.cut (.u 5 rfl (by go_num) (.c 0 rfl (.c 1 rfl .n))), by omega, Lib.hid (fun i hi => by rcases Nat.lt_or_ge i k with h | h; exact HP.out i h; rw [show i = k by omega]; exact HE.out), rfl⟩
      · have q1 : (x1 != y1) = true := by simp [e1]
        have HE : Hid (xs ≠ ys) := Lib.hid (fun h => e1 (by rw [← HX.out, ← HY.out, h]));clear e1;refine Kn.Z.q fun K10 hK10=>?_;refine Kn.Z.st (by kernel_rfl) (by kernel_rfl) ?_;refine Kn.Z.us (.m (.t rfl) (.m (.t rfl) .n)) ?_;refine Kn.Z.ss .o (.indexAddr (.t rfl) (.t rfl)) fun Ko Kp=>?_;go_simp;(try go_bits);refine Kp _ ?_;clear Kp Ko;refine Kn.Z.ss .o (.load (.t rfl)) fun Ko Kp=>?_;go_simp;(try go_bits);refine Kp _ ?_;clear Kp Ko;refine Kn.Z.us (.m (.t rfl) (.m (.t rfl) .n)) ?_;refine Kn.Z.ss .o (.indexAddr (.t rfl) (.t rfl)) fun Ko Kp=>?_;go_simp;(try go_bits);refine Kp _ ?_;clear Kp Ko;refine Kn.Z.ss .o (.load (.t rfl)) fun Ko Kp=>?_;go_simp;(try go_bits);refine Kp _ ?_;clear Kp Ko;refine Kn.Z.ss .o (.bin (.t rfl) (.t rfl)) fun Ko Kp=>?_;go_simp;(try go_bits);refine Kp _ ?_;clear Kp Ko;refine Kn.Z.se hK10 ?_;clear hK10 K10;refine Kn.Z.y (.t rfl) ?_;refine Kn.Z.t (.c 5 rfl (.c 0 rfl (.c 1 rfl .n))) ?_;refine Kn.Z.f fun K11 hK11=>?_;refine Kn.Z.u (.a .c .n) ?_;refine Kn.Z.e hK11 ?_;clear hK11 K11;intro fa fh;refine wp_ret ?_;refine Kn.block_ret ?_;refine Kn.then_ret ?_;refine Kn.then_ret ?_;refine Kn.block_ret ?_;refine Kn.then_ret ?_;exact Kn.ret1 fh rfl rfl ⟨by rw [decide_eq_false HE.out], q + 1, rfl⟩
    · obtain rfl : k = xs.length := by omega
      have HE : Hid (xs = ys) := Lib.hid (nts_eq HL.out HP.out)
      revert fa
      refine Kn.Z.q fun K7 hK7=>?_;refine Kn.Z.f fun K8 hK8=>?_;refine Kn.Z.u (.m (.t rfl) (.m (.t rfl) .n)) ?_;refine Kn.Z.s .o (.len (.t rfl)) fun Ko Kp=>?_;go_simp;(try go_bits);refine Kp _ _ ?_;clear Kp Ko;refine Kn.Z.s .o (.bin (.t rfl) (.t rfl)) fun Ko Kp=>?_;go_simp;(try go_bits);refine Kp _ _ ?_;clear Kp Ko;refine Kn.Z.e hK8 ?_;clear hK8 K8;refine Kn.Z.t (.c 14 rfl (.c 5 rfl (.c 0 rfl (.c 1 rfl .n)))) ?_;refine Kn.Z.no (.t rfl) ?_;intro fa fh;refine wp_exit ?_;refine Kn.then_exit ?_;clear hK7 K7;refine Kn.then_exit ?_;clear hKl6 Kl6;refine Kn.block_exit ?_;refine hK4 _ _ ?_;clear hK4 K4
      revert fa
      refine Kn.Z.f fun K9 hK9=>?_;refine Kn.Z.u (.a .c .n) ?_;refine Kn.Z.e hK9 ?_;clear hK9 K9;intro fb fg;refine wp_ret ?_;exact Kn.ret1 fg rfl rfl ⟨by rw [decide_eq_true HE.out], _, rfl⟩
  · have qn : ((xs.length : Int) != (ys.length : Int)) = true := by simp; omega
    have qn2 : (xs.length != ys.length) = true := by simp [hlen]
    have HE : Hid (xs ≠ ys) := Lib.hid (fun h => hlen (by rw [h]));clear hlen;refine Kn.Z.q fun K2 hK2=>?_;refine Kn.Z.f fun K3 hK3=>?_;refine Kn.Z.u (.m (.t rfl) .n) ?_;refine Kn.Z.s .o (.len (.t rfl)) fun Ko Kp=>?_;go_simp;(try go_bits);refine Kp _ _ ?_;clear Kp Ko;refine Kn.Z.u (.m (.t rfl) .n) ?_;refine Kn.Z.s .o (.len (.t rfl)) fun Ko Kp=>?_;go_simp;(try go_bits);refine Kp _ _ ?_;clear Kp Ko;refine Kn.Z.s .o (.bin (.t rfl) (.t rfl)) fun Ko Kp=>?_;go_simp;(try go_bits);refine Kp _ _ ?_;clear Kp Ko;refine Kn.Z.e hK3 ?_;clear hK3 K3;refine Kn.Z.y (.t rfl) ?_;refine Kn.Z.f fun K4 hK4=>?_;refine Kn.Z.u (.a .c .n) ?_;refine Kn.Z.e hK4 ?_;clear hK4 K4;intro fb fg;refine wp_ret ?_;refine Kn.then_ret ?_;exact Kn.ret1 fg rfl rfl ⟨by rw [decide_eq_false HE.out], 0, rfl⟩
end Go.Proofs.YtchdlgdmomcemaaGreatDoor.Num
end
section
namespace Go.Proofs.YtchdlgdmomcemaaGreatDoor.Num
open Go Go.RowKit Go.Lib
def trg (xs : List (Int × Int)) (v : Int) : List Int := (xs.filter fun e => e.1 == v).map (·.2)
theorem trg_len (xs : List (Int × Int)) (v : Int) : (trg xs v).length ≤ xs.length := by unfold trg; rw [List.length_map]; exact List.length_filter_le _ _
def bgn (xs : List (Int × Int)) (v : Int) : Nat := xs.countP fun e => decide (e.1 < v)
theorem bgn_le (xs : List (Int × Int)) (v : Int) : bgn xs v ≤ xs.length := List.countP_le_length
end Go.Proofs.YtchdlgdmomcemaaGreatDoor.Num
end
section
namespace Go.Proofs
open Go.Shelf
def Tryz.layCmp_ren : Go.Shelf.Ren := ⟨fun | 5 => 91 | 7 => 117 | n => n, fun | 22 => 3 | 3 => 3 | 4 => 4 | n => n, fun | n => n⟩
theorem Tryz.layCmp : Go.Proofs.SlLaysC2.n5 Tryz.prog Tryz.layCmp_ren := {
  mixed := by kernel_rfl
  f5 := ⟨Tryz.f91.name, by decide, Tryz.func91.trans (congrArg some (by kernel_rfl))⟩
  f7 := ⟨Tryz.f117.name, by decide, Tryz.func117.trans (congrArg some (by kernel_rfl))⟩
  t3 := Tryz.underlying3
  a3 := Tryz.isAgg3
  z3 := Tryz.sizeOf3
  v3 := Tryz.zeroValue3
  t4 := Tryz.underlying4
  a4 := Tryz.isAgg4
  z4 := Tryz.sizeOf4
  v4 := Tryz.zeroValue4
  t22 := Tryz.underlying3
  a22 := Tryz.isAgg3
  z22 := Tryz.sizeOf3
  v22 := Tryz.zeroValue3 }
def Tryz.laySort_ren : Go.Shelf.Ren := ⟨fun | 6 => 62 | 15 => 90 | 14 => 89 | 28 => 115 | 29 => 116 | 20 => 107 | 21 => 108 | 22 => 109 | 23 => 110 | 24 => 111 | 25 => 112 | 26 => 113 | 27 => 114 | 46 => 132 | 47 => 133 | 48 => 134 | 49 => 135 | 50 => 136 | 57 => 146 | n => n, fun | 22 => 23 | 24 => 64 | 25 => 118 | 3 => 3 | 39 => 169 | 0 => 0 | 53 => 198 | 55 => 200 | 4 => 4 | 46 => 191 | 45 => 190 | 50 => 195 | 5 => 5 | 9 => 9 | 66 => 214 | 70 => 218 | 76 => 228 | 77 => 229 | n => n, fun | n => n⟩
theorem Tryz.laySort : Go.Proofs.SlLaysF0.n6 Tryz.prog Tryz.laySort_ren := {
  mixed := by kernel_rfl
  f6 := ⟨Tryz.f62.name, by decide, Tryz.func62.trans (congrArg some (by kernel_rfl))⟩
  f14 := ⟨Tryz.f89.name, by decide, Tryz.func89.trans (congrArg some (by kernel_rfl))⟩
  f15 := Tryz.func90.trans (congrArg some (by kernel_rfl))
  f20 := ⟨Tryz.f107.name, by decide, Tryz.func107.trans (congrArg some (by kernel_rfl))⟩
  f21 := ⟨Tryz.f108.name, by decide, Tryz.func108.trans (congrArg some (by kernel_rfl))⟩
  f22 := ⟨Tryz.f109.name, by decide, Tryz.func109.trans (congrArg some (by kernel_rfl))⟩
  f23 := ⟨Tryz.f110.name, by decide, Tryz.func110.trans (congrArg some (by kernel_rfl))⟩
  f24 := ⟨Tryz.f111.name, by decide, Tryz.func111.trans (congrArg some (by kernel_rfl))⟩
  f25 := ⟨Tryz.f112.name, by decide, Tryz.func112.trans (congrArg some (by kernel_rfl))⟩
  f26 := ⟨Tryz.f113.name, by decide, Tryz.func113.trans (congrArg some (by kernel_rfl))⟩
  f27 := ⟨Tryz.f114.name, by decide, Tryz.func114.trans (congrArg some (by kernel_rfl))⟩
  f28 := Tryz.func115.trans (congrArg some (by kernel_rfl))
  f29 := Tryz.func116.trans (congrArg some (by kernel_rfl))
  f46 := ⟨Tryz.f132.name, by decide, Tryz.func132.trans (congrArg some (by kernel_rfl))⟩
  f47 := Tryz.func133.trans (congrArg some (by kernel_rfl))
  f48 := Tryz.func134.trans (congrArg some (by kernel_rfl))
  f49 := ⟨Tryz.f135.name, by decide, Tryz.func135.trans (congrArg some (by kernel_rfl))⟩
  f50 := ⟨Tryz.f136.name, by decide, Tryz.func136.trans (congrArg some (by kernel_rfl))⟩
  f57 := ⟨Tryz.f146.name, by decide, Tryz.func146.trans (congrArg some (by kernel_rfl))⟩
  t0 := Tryz.underlying0
  a0 := Tryz.isAgg0
  z0 := Tryz.sizeOf0
  v0 := Tryz.zeroValue0
  t3 := Tryz.underlying3
  a3 := Tryz.isAgg3
  z3 := Tryz.sizeOf3
  v3 := Tryz.zeroValue3
  t4 := Tryz.underlying4
  a4 := Tryz.isAgg4
  z4 := Tryz.sizeOf4
  v4 := Tryz.zeroValue4
  t5 := Tryz.underlying5
  a5 := Tryz.isAgg5
  z5 := Tryz.sizeOf5
  v5 := Tryz.zeroValue5
  t9 := Tryz.underlying9
  a9 := Tryz.isAgg9
  z9 := Tryz.sizeOf9
  v9 := Tryz.zeroValue9
  t22 := Tryz.underlying23
  a22 := Tryz.isAgg23
  z22 := Tryz.sizeOf23
  v22 := Tryz.zeroValue23
  t25 := Tryz.underlying118
  a25 := Tryz.isAgg118
  z25 := Tryz.sizeOf118
  v25 := Tryz.zeroValue118
  t39 := Tryz.underlying169
  a39 := Tryz.isAgg169
  z39 := Tryz.sizeOf169
  v39 := Tryz.zeroValue169
  t45 := Tryz.underlying190
  a45 := Tryz.isAgg190
  z45 := Tryz.sizeOf190
  v45 := Tryz.zeroValue190
  t46 := Tryz.underlying191
  a46 := Tryz.isAgg191
  z46 := Tryz.sizeOf191
  v46 := Tryz.zeroValue191
  t50 := Tryz.underlying195
  a50 := Tryz.isAgg195
  z50 := Tryz.sizeOf195
  v50 := Tryz.zeroValue195
  t53 := Tryz.underlying198
  a53 := Tryz.isAgg198
  z53 := Tryz.sizeOf198
  v53 := Tryz.zeroValue198
  t55 := Tryz.underlying200
  a55 := Tryz.isAgg200
  z55 := Tryz.sizeOf200
  v55 := Tryz.zeroValue200
  t66 := Tryz.underlying214
  a66 := Tryz.isAgg214
  z66 := Tryz.sizeOf214
  v66 := Tryz.zeroValue214
  t70 := Tryz.underlying218
  a70 := Tryz.isAgg218
  z70 := Tryz.sizeOf218
  v70 := Tryz.zeroValue218
  t76 := Tryz.underlying228
  a76 := Tryz.isAgg228
  z76 := Tryz.sizeOf228
  v76 := Tryz.zeroValue228
  t77 := Tryz.underlying229
  a77 := Tryz.isAgg229
  z77 := Tryz.sizeOf229
  v77 := Tryz.zeroValue229 }
def Tryz.layClone_ren : Go.Shelf.Ren := ⟨fun | 41 => 61 | n => n, fun | 22 => 23 | 23 => 64 | 4 => 4 | n => n, fun | n => n⟩
theorem Tryz.layClone : Go.Proofs.SlLaysE0.n41 Tryz.prog Tryz.layClone_ren := {
  mixed := by kernel_rfl
  f41 := ⟨Tryz.f61.name, by decide, Tryz.func61.trans (congrArg some (by kernel_rfl))⟩
  t4 := Tryz.underlying4
  a4 := Tryz.isAgg4
  z4 := Tryz.sizeOf4
  v4 := Tryz.zeroValue4
  t22 := Tryz.underlying23
  a22 := Tryz.isAgg23
  z22 := Tryz.sizeOf23
  v22 := Tryz.zeroValue23 }
def Tryz.layCloneI_ren : Go.Shelf.Ren := ⟨fun | 41 => 138 | n => n, fun | 22 => 42 | 23 => 3 | 4 => 4 | n => n, fun | n => n⟩
theorem Tryz.layCloneI : Go.Proofs.SlLaysN.n41 Tryz.prog Tryz.layCloneI_ren := {
  mixed := by kernel_rfl
  f41 := ⟨Tryz.f138.name, by decide, Tryz.func138.trans (congrArg some (by kernel_rfl))⟩
  t4 := Tryz.underlying4
  a4 := Tryz.isAgg4
  z4 := Tryz.sizeOf4
  v4 := Tryz.zeroValue4
  t22 := Tryz.underlying42
  a22 := Tryz.isAgg42
  z22 := Tryz.sizeOf42
  v22 := Tryz.zeroValue42
  t23 := Tryz.underlying3
  a23 := Tryz.isAgg3
  z23 := Tryz.sizeOf3
  v23 := Tryz.zeroValue3
  i23 := by kernel_rfl }
def Tryz.layEqualI_ren : Go.Shelf.Ren := ⟨fun | 33 => 40 | n => n, fun | 22 => 42 | 23 => 3 | 4 => 4 | 3 => 3 | 0 => 0 | n => n, fun | n => n⟩
theorem Tryz.layEqualI : Go.Proofs.SlLaysN.n33 Tryz.prog Tryz.layEqualI_ren := {
  mixed := by kernel_rfl
  f33 := ⟨Tryz.f40.name, by decide, Tryz.func40.trans (congrArg some (by kernel_rfl))⟩
  t0 := Tryz.underlying0
  a0 := Tryz.isAgg0
  z0 := Tryz.sizeOf0
  v0 := Tryz.zeroValue0
  t3 := Tryz.underlying3
  a3 := Tryz.isAgg3
  z3 := Tryz.sizeOf3
  v3 := Tryz.zeroValue3
  t4 := Tryz.underlying4
  a4 := Tryz.isAgg4
  z4 := Tryz.sizeOf4
  v4 := Tryz.zeroValue4
  t22 := Tryz.underlying42
  a22 := Tryz.isAgg42
  z22 := Tryz.sizeOf42
  v22 := Tryz.zeroValue42
  t23 := Tryz.underlying3
  a23 := Tryz.isAgg3
  z23 := Tryz.sizeOf3
  v23 := Tryz.zeroValue3 }
end Go.Proofs
end
section
namespace Go.Proofs.YtchdlgdmomcemaaGreatDoor.Edg
open Go Go.RowKit Go.Lib
theorem eds_eq {xs ys : List (Int × Int)} (hl : xs.length = ys.length) (h : ∀ i, i < xs.length → ed xs i = ed ys i) : xs = ys := by
  apply List.ext_getElem hl
  intro i h1 h2;have := h i h1
  rwa [ed_at _ _ h1, ed_at _ _ h2] at this
def badB (n : Int) (e : Int × Int) : Bool := decide (e.1 < 0) || decide (e.2 < 0) || decide (n ≤ e.1) || decide (n ≤ e.2)
end Go.Proofs.YtchdlgdmomcemaaGreatDoor.Edg
end
section
namespace Go.Proofs.YtchdlgdmomcemaaGreatDoor.Edg
open Go Go.RowKit Go.Lib Go.Shelf Go.Sort
def cmpI (x y : Int × Int) : Int := if x.1 = y.1 then Lib.compareInt x.2 y.2 else Lib.compareInt x.1 y.1
theorem cmp_any (a b : Int) (w : World) : Calls Tryz.prog 91 #[.int .i64 a, .int .i64 b] w fun e w' => e = .returned (.int .i64 (Lib.compareInt a b)) ∧ w' = w := AnyG.cmp_Compare_int Tryz.layCmp a b w
set_option maxRecDepth 100000 in
set_option maxHeartbeats 2000000 in
theorem compare_a (a b c d : Int) (w : World) (h : (a != c) = true) :
    Calls Tryz.prog 63 #[.agg #[.int .i64 a, .int .i64 b], .agg #[.int .i64 c, .int .i64 d]] w fun e w' => e = .returned (.int .i64 (Lib.compareInt a c)) ∧ ∃ q os', w' = grow (w.drewN q) os' := by
  refine Kn.Z.cl Tryz.func63 rfl Tryz.ntmps63 rfl (.c 0 rfl (.c 1 rfl .n)) ?_;refine Kn.Z.f fun K1 hK1=>?_;refine Kn.Z.s .o (.box (.t rfl)) fun Ko Kp=>?_;go_simp;(try go_bits);refine Kp _ _ ?_;clear Kp Ko;refine Kn.Z.s .o (.box (.t rfl)) fun Ko Kp=>?_;go_simp;(try go_bits);refine Kp _ _ ?_;clear Kp Ko;refine Kn.Z.u (.a .c .n) ?_;refine Kn.Z.e hK1 ?_;clear hK1 K1;refine Kn.Z.q fun K2 hK2=>?_;refine Kn.Z.f fun K3 hK3=>?_;refine Kn.Z.s .o (.fieldAddr (.t rfl)) fun Ko Kp=>?_;go_simp;(try go_bits);refine Kp _ _ ?_;clear Kp Ko;refine Kn.Z.s .o (.load (.t rfl)) fun Ko Kp=>?_;go_simp;(try go_bits);refine Kp _ _ ?_;clear Kp Ko;refine Kn.Z.s .o (.fieldAddr (.t rfl)) fun Ko Kp=>?_;go_simp;(try go_bits);refine Kp _ _ ?_;clear Kp Ko;refine Kn.Z.s .o (.load (.t rfl)) fun Ko Kp=>?_;go_simp;(try go_bits);refine Kp _ _ ?_;clear Kp Ko;refine Kn.Z.s .o (.bin (.t rfl) (.t rfl)) fun Ko Kp=>?_;go_simp;(try go_bits);refine Kp _ _ ?_;clear Kp Ko;refine Kn.Z.e hK3 ?_;clear hK3 K3;refine Kn.Z.y (.t rfl) ?_;refine Kn.Z.f fun K4 hK4=>?_;refine Kn.Z.s .o (.fieldAddr (.t rfl)) fun Ko Kp=>?_;go_simp;(try go_bits);refine Kp _ _ ?_;clear Kp Ko;refine Kn.Z.s .o (.load (.t rfl)) fun Ko Kp=>?_;go_simp;(try go_bits);refine Kp _ _ ?_;clear Kp Ko;refine Kn.Z.s .o (.fieldAddr (.t rfl)) fun Ko Kp=>?_;go_simp;(try go_bits);refine Kp _ _ ?_;clear Kp Ko;refine Kn.Z.s .o (.load (.t rfl)) fun Ko Kp=>?_;go_simp;(try go_bits);refine Kp _ _ ?_;clear Kp Ko;refine Kn.Z.c .o (.call (.c (.t rfl) (.c (.t rfl) .n))) Tryz.call91 (cmp_any _ _ _) fun e w1 hp=>?_;obtain ⟨rfl, rfl⟩ := hp;refine ⟨_,rfl,?_⟩;refine Kn.Z.u (.a (.t rfl) .n) ?_;refine Kn.Z.e hK4 ?_;clear hK4 K4;refine Kn.Z.t (.c 4 rfl (.c 3 rfl (.c 2 rfl .n))) ?_;intro fa fh;refine wp_ret ?_;refine Kn.then_ret ?_;exact Kn.ret1 fh rfl rfl ⟨rfl, 0, _, by rw [alloc_eq_grow, alloc_eq_grow, grow_grow]; rfl⟩
set_option maxRecDepth 100000 in
set_option maxHeartbeats 2000000 in
theorem compare_b (a b c d : Int) (w : World) (h : (a != c) = false) :
    Calls Tryz.prog 63 #[.agg #[.int .i64 a, .int .i64 b], .agg #[.int .i64 c, .int .i64 d]] w fun e w' => e = .returned (.int .i64 (Lib.compareInt b d)) ∧ ∃ q os', w' = grow (w.drewN q) os' := by
  refine Kn.Z.cl Tryz.func63 rfl Tryz.ntmps63 rfl (.c 0 rfl (.c 1 rfl .n)) ?_;refine Kn.Z.f fun K1 hK1=>?_;refine Kn.Z.s .o (.box (.t rfl)) fun Ko Kp=>?_;go_simp;(try go_bits);refine Kp _ _ ?_;clear Kp Ko;refine Kn.Z.s .o (.box (.t rfl)) fun Ko Kp=>?_;go_simp;(try go_bits);refine Kp _ _ ?_;clear Kp Ko;refine Kn.Z.u (.a .c .n) ?_;refine Kn.Z.e hK1 ?_;clear hK1 K1;refine Kn.Z.q fun K2 hK2=>?_;refine Kn.Z.f fun K3 hK3=>?_;refine Kn.Z.s .o (.fieldAddr (.t rfl)) fun Ko Kp=>?_;go_simp;(try go_bits);refine Kp _ _ ?_;clear Kp Ko;refine Kn.Z.s .o (.load (.t rfl)) fun Ko Kp=>?_;go_simp;(try go_bits);refine Kp _ _ ?_;clear Kp Ko;refine Kn.Z.s .o (.fieldAddr (.t rfl)) fun Ko Kp=>?_;go_simp;(try go_bits);refine Kp _ _ ?_;clear Kp Ko;refine Kn.Z.s .o (.load (.t rfl)) fun Ko Kp=>?_;go_simp;(try go_bits);refine Kp _ _ ?_;clear Kp Ko;refine Kn.Z.s .o (.bin (.t rfl) (.t rfl)) fun Ko Kp=>?_;go_simp;(try go_bits);refine Kp _ _ ?_;clear Kp Ko;refine Kn.Z.e hK3 ?_;clear hK3 K3;refine Kn.Z.no (.t rfl) ?_;refine Kn.Z.j hK2 ?_;clear hK2 K2;refine Kn.Z.f fun K4 hK4=>?_;refine Kn.Z.s .o (.fieldAddr (.t rfl)) fun Ko Kp=>?_;go_simp;(try go_bits);refine Kp _ _ ?_;clear Kp Ko;refine Kn.Z.s .o (.load (.t rfl)) fun Ko Kp=>?_;go_simp;(try go_bits);refine Kp _ _ ?_;clear Kp Ko;refine Kn.Z.s .o (.fieldAddr (.t rfl)) fun Ko Kp=>?_;go_simp;(try go_bits);refine Kp _ _ ?_;clear Kp Ko;refine Kn.Z.s .o (.load (.t rfl)) fun Ko Kp=>?_;go_simp;(try go_bits);refine Kp _ _ ?_;clear Kp Ko;refine Kn.Z.c .o (.call (.c (.t rfl) (.c (.t rfl) .n))) Tryz.call91 (cmp_any _ _ _) fun e w1 hp=>?_;obtain ⟨rfl, rfl⟩ := hp;refine ⟨_,rfl,?_⟩;refine Kn.Z.u (.a (.t rfl) .n) ?_;refine Kn.Z.e hK4 ?_;clear hK4 K4;refine Kn.Z.t (.c 4 rfl .n) ?_;intro fa fh;refine wp_ret ?_;exact Kn.ret1 fh rfl rfl ⟨rfl, 0, _, by rw [alloc_eq_grow, alloc_eq_grow, grow_grow]; rfl⟩
theorem compare_any (x y : Int × Int) (w : World) : Calls Tryz.prog 63 #[.agg #[.int .i64 x.1, .int .i64 x.2], .agg #[.int .i64 y.1, .int .i64 y.2]] w fun e w' => e = .returned (.int .i64 (cmpI x y)) ∧ ∃ q os', w' = grow (w.drewN q) os' := by
  obtain ⟨a, b⟩ := x;obtain ⟨c, d⟩ := y
  by_cases h : a = c
  · rw [show cmpI (a, b) (c, d) = Lib.compareInt b d by simp [cmpI, h]]; exact compare_b a b c d w (by simp [h])
  · rw [show cmpI (a, b) (c, d) = Lib.compareInt a c by simp [cmpI, h]]; exact compare_a a b c d w (by simp [h])
def encE (x : Int × Int) : List Value := [.int .i64 x.1, .int .i64 x.2]
theorem cmpLays (blk off size : Nat) (w : World) : CmpLays Tryz.prog 63 #[] encE 2 cmpI blk off size w := fun _ _ _ _ x y => compare_any x y _
theorem ltOf_cmp (x y : Int × Int) : ltOf cmpI x y = lessB x y := by
  unfold ltOf cmpI Lib.compareInt lessB
  by_cases h : x.1 = y.1
  · by_cases h1 : x.2 < y.2
    · simp [h, h1]
    · by_cases h2 : y.2 < x.2 <;> simp [h, h1, h2]
  · by_cases h1 : x.1 < y.1
    · simp [h, h1]
    · by_cases h2 : y.1 < x.1 <;> simp [h, h1, h2]
theorem swo : SWO (ltOf cmpI) where
  irrefl x := by rw [ltOf_cmp]; exact less_irr x
  trans x y z h1 h2 := by rw [ltOf_cmp] at *; exact less_trans h1 h2
  ntrans x y z h1 h2 := by
    rw [ltOf_cmp] at *
    cases h : lessB x z with
    | false => rfl
    | true =>
      have a1 : ¬ lessB x y = true := by simp [h1]
      have a2 : ¬ lessB y z = true := by simp [h2]
      rw [less_iff] at h a1 a2;omega
noncomputable def eI : TypeInfo := (Tryz.prog.info? 64).get (by kernel_rfl)
set_option maxHeartbeats 2000000 in
set_option maxRecDepth 100000 in
theorem clone_zero (a : Addr) (c : Nat) (w : World) :
    Calls Tryz.prog 61 #[.slice (some a) 0 c] w fun e w' => ∃ A' n' c', e = .returned (.slice A' n' c') ∧ OwnE w' w.heap.size A' n' c' [] ∧ Below w.heap.size w w' := by
  have q22 : ∀ (w : World) (a : Option Addr) (n c n' c' : Nat), (binOp .eql 23 (.slice a n c) (.slice none n' c')).run Tryz.prog w = .ok (.bool a.isNone) w := fun w a n c n' c' => Lib.run_eql_slice_nil w _ _ a n c n' c' Tryz.underlying23
  go_enter Tryz.func61, Tryz.ntmps61
  go_wp2_with (at_builtin; refine wpList_append_own _ rfl _ _ 23 rfl w.heap.size 64 eI (.agg #[.int .i64 0, .int .i64 0]) 2 16 Tryz.underlying23 (by kernel_rfl) (by kernel_rfl) (by kernel_rfl) (by kernel_rfl) rfl (by decide) _ _ _ rfl (World.ownsRow_made w #[] 0 (Nat.le_refl _) (Nat.zero_le _) rfl) a 0 c [] rfl rfl (by intro j u hj; simp at hj) (by intro u hu; cases hu) (by unfold maxLen; omega) (by omega) (by simp) ?_)
  intro v' w1 hown hgrow hnil
  go_wp2
  go_ret
  have hown' : w1.ownsRow w.heap.size 64 2 v' 0 [] := by simpa using hown
  have hb : Below w.heap.size w w1 := ((Below.refl _ w).alloc (Nat.le_refl _) _).grown hgrow (by simp) (by intro k hk; simp [Value.ownBlock] at hk; omega);rcases hown'.2 with ⟨hv, _⟩ | ⟨g, cap, cur, hv, _⟩
  · subst hv; exact ⟨_, _, _, rfl, ⟨rfl, hown'⟩, hb⟩
  · subst hv; exact ⟨_, _, _, rfl, ⟨rfl, hown'⟩, hb⟩
theorem clone_any (A : Option Addr) (c : Nat) (xs : List (Int × Int)) (w : World) (hx : xs.length ≤ 20000) (hA : EIn w A xs) :
    Calls Tryz.prog 61 #[.slice A xs.length c] w fun e w' => ∃ A' n' c', e = .returned (.slice A' n' c') ∧ OwnE w' w.heap.size A' n' c' xs ∧ Below w.heap.size w w' := by
  cases A with
  | none =>
    have h0 : xs = [] := by
      cases xs with
      | nil => rfl
      | cons x xs => obtain ⟨b, o, e, _⟩ := hA 0 (by simp); cases e
    subst h0;exact (AnyE.slices_Clone_nil Tryz.layClone 0 c w).mono fun e w' ⟨he, hw⟩ => ⟨none, 0, 0, he, by subst hw; exact OwnE.none _ _, by subst hw; exact Below.refl _ _⟩
  | some a =>
    rcases Nat.eq_zero_or_pos xs.length with h0 | h0
    · obtain rfl : xs = [] := List.eq_nil_of_length_eq_zero h0;exact clone_zero a c w
    · obtain ⟨b, o, e, _⟩ := hA 0 h0;cases e;refine (AnyE.slices_Clone Tryz.layClone eI (.agg #[.int .i64 0, .int .i64 0]) 2 16 (by kernel_rfl) (by kernel_rfl) (by kernel_rfl) (by kernel_rfl) rfl (by decide) Tryz.sizeOf64 b o xs.length c (eC xs) w (eC_len xs) (by unfold maxLen; omega) (by omega) (fun j u hu => by have := hA.news j u hu; rwa [addr_add] at this) (eC_one xs)).mono fun e w' hp => ?_;obtain ⟨v', he, ho, _, hb⟩ := hp;obtain ⟨g, cap, hv, _, _⟩ := ho.form h0;subst hv;exact ⟨_, _, _, he, ⟨rfl, ho⟩, hb⟩
theorem eq_run (p q : Int × Int) (w : World) : (Op.equalIn 10000 64 (eV p) (eV q)).run Tryz.prog w = .ok (decide (p = q)) w := by
  have u3 := Tryz.underlying3;have a3 := Tryz.isAgg3;have z3 := Tryz.sizeOf3;have hS : Tryz.prog.underlying 64 = some (.struct (Tryz.prog.fieldsOf 64)) := by kernel_rfl
  have hp : Tryz.prog.stoodInHeld 64 = false := by kernel_rfl
  obtain ⟨a, b⟩ := p;obtain ⟨c, d⟩ := q;simp only [eV];rw [show (10000 : Nat) = 9999 + 1 from rfl, run_equalIn_agg w 9999 64 _ _ hS hp];simp only [Program.fieldsOf, Tryz.underlying64];go_simp
  by_cases h1 : a = c <;> by_cases h2 : b = d <;> simp [h1, h2]
theorem guardE (op : BinOp) (x y : Operand) (p q : Int × Int) (w : World) : (eqGuard op 64 x y (eV p) (eV q)).run Tryz.prog w = .ok () w := run_eqGuard_agg w op _ x y _ _ (by kernel_rfl)
theorem run_bind_ok {P : Program} {α β : Type} {s : Sem α} {f : α → Sem β} {w w' : World} {a : α} (h : s.run P w = .ok a w') : (s >>= f).run P w = (f a).run P w' := by rw [Sem.run_bind, h]; rfl
theorem eqlE (x y : Operand) (a b c d : Int) (w : World) : (do eqGuard .eql 64 x y (.agg #[.int .i64 a, .int .i64 b]) (.agg #[.int .i64 c, .int .i64 d]); binOp .eql 64 (.agg #[.int .i64 a, .int .i64 b]) (.agg #[.int .i64 c, .int .i64 d]) : Sem Value).run Tryz.prog w = .ok (.bool (decide ((a, b) = (c, d)))) w := by
  have h1 := guardE .eql x y (a, b) (c, d) w;have h2 := eq_run (a, b) (c, d) w;simp only [eV] at h1 h2;refine (run_bind_ok h1).trans ?_;rw [run_eql_struct, h2]
  rfl
theorem neqE (x y : Operand) (a b c d : Int) (w : World) : (do eqGuard .neq 64 x y (.agg #[.int .i64 a, .int .i64 b]) (.agg #[.int .i64 c, .int .i64 d]); binOp .neq 64 (.agg #[.int .i64 a, .int .i64 b]) (.agg #[.int .i64 c, .int .i64 d]) : Sem Value).run Tryz.prog w = .ok (.bool (!decide ((a, b) = (c, d)))) w := by
  have h1 := guardE .neq x y (a, b) (c, d) w;have h2 := eq_run (a, b) (c, d) w;simp only [eV] at h1 h2;refine (run_bind_ok h1).trans ?_;rw [run_neq_struct, h2]
  rfl
end Go.Proofs.YtchdlgdmomcemaaGreatDoor.Edg
end
section
namespace Go.Proofs.YtchdlgdmomcemaaGreatDoor.Edg
open Go Go.RowKit Go.Lib
set_option maxRecDepth 100000 in
set_option maxHeartbeats 2000000 in
theorem isNode_a (n v : Int) (w : World) (h : ¬ 0 ≤ v) :
    Calls Tryz.prog 88 #[.int .i64 n, .int .i64 v] w fun e w' => e = .returned (.bool false) ∧ w = w' := by
  refine Kn.Z.cl Tryz.func88 rfl Tryz.ntmps88 rfl (.c 0 rfl (.c 1 rfl .n)) ?_;refine Kn.Z.f fun K1 hK1=>?_;refine Kn.Z.u (.a .c .n) ?_;refine Kn.Z.e hK1 ?_;clear hK1 K1;refine Kn.Z.f fun K2 hK2=>?_;refine Kn.Z.u (.m (.t rfl) .n) ?_;refine Kn.Z.s .o (.bin (.t rfl) .c) fun Ko Kp=>?_;go_simp;(try go_bits);refine Kp _ _ ?_;clear Kp Ko;refine Kn.Z.u (.m (.t rfl) (.k (.s rfl rfl rfl) (.k (.s rfl rfl rfl) (.k (.s rfl rfl rfl) (.e .o (.pick (.t rfl) .c) (.a (.t rfl) .n)))))) ?_;refine Kn.Z.e hK2 ?_;clear hK2 K2;refine Kn.Z.t (.c 4 rfl .n) ?_;intro fb fg;refine wp_ret ?_;exact Kn.ret1 fg rfl rfl ⟨rfl, rfl⟩
set_option maxRecDepth 100000 in
set_option maxHeartbeats 2000000 in
theorem isNode_b (n v : Int) (w : World) (h : 0 ≤ v) (h2 : ¬ v < n) :
    Calls Tryz.prog 88 #[.int .i64 n, .int .i64 v] w fun e w' => e = .returned (.bool false) ∧ w = w' := by
  refine Kn.Z.cl Tryz.func88 rfl Tryz.ntmps88 rfl (.c 0 rfl (.c 1 rfl .n)) ?_;refine Kn.Z.f fun K1 hK1=>?_;refine Kn.Z.u (.a .c .n) ?_;refine Kn.Z.e hK1 ?_;clear hK1 K1;refine Kn.Z.f fun K2 hK2=>?_;refine Kn.Z.u (.m (.t rfl) .n) ?_;refine Kn.Z.s .o (.bin (.t rfl) .c) fun Ko Kp=>?_;go_simp;(try go_bits);refine Kp _ _ ?_;clear Kp Ko;refine Kn.Z.u (.m (.t rfl) (.e (.s rfl rfl rfl) (.move (.t rfl)) (.e (.s rfl rfl rfl) (.move (.t rfl)) .n))) ?_;refine Kn.Z.s (.s rfl rfl rfl) (.bin (.t rfl) (.t rfl)) fun Ko Kp=>?_;go_simp;(try go_bits);refine Kp _ _ ?_;clear Kp Ko;refine Kn.Z.u (.e .o (.pick (.t rfl) (.t rfl)) (.a (.t rfl) .n)) ?_;refine Kn.Z.e hK2 ?_;clear hK2 K2;refine Kn.Z.t (.c 4 rfl .n) ?_;intro fb fg;refine wp_ret ?_;exact Kn.ret1 fg rfl rfl ⟨rfl, rfl⟩
set_option maxRecDepth 100000 in
set_option maxHeartbeats 2000000 in
theorem isNode_c (n v : Int) (w : World) (h : 0 ≤ v) (h2 : v < n) :
    Calls Tryz.prog 88 #[.int .i64 n, .int .i64 v] w fun e w' => e = .returned (.bool true) ∧ w = w' := by
  refine Kn.Z.cl Tryz.func88 rfl Tryz.ntmps88 rfl (.c 0 rfl (.c 1 rfl .n)) ?_;refine Kn.Z.f fun K1 hK1=>?_;refine Kn.Z.u (.a .c .n) ?_;refine Kn.Z.e hK1 ?_;clear hK1 K1;refine Kn.Z.f fun K2 hK2=>?_;refine Kn.Z.u (.m (.t rfl) .n) ?_;refine Kn.Z.s .o (.bin (.t rfl) .c) fun Ko Kp=>?_;go_simp;(try go_bits);refine Kp _ _ ?_;clear Kp Ko;refine Kn.Z.u (.m (.t rfl) (.e (.s rfl rfl rfl) (.move (.t rfl)) (.e (.s rfl rfl rfl) (.move (.t rfl)) .n))) ?_;refine Kn.Z.s (.s rfl rfl rfl) (.bin (.t rfl) (.t rfl)) fun Ko Kp=>?_;go_simp;(try go_bits);refine Kp _ _ ?_;clear Kp Ko;refine Kn.Z.u (.e .o (.pick (.t rfl) (.t rfl)) (.a (.t rfl) .n)) ?_;refine Kn.Z.e hK2 ?_;clear hK2 K2;refine Kn.Z.t (.c 4 rfl .n) ?_;intro fb fg;refine wp_ret ?_;exact Kn.ret1 fg rfl rfl ⟨rfl, rfl⟩
theorem isNode_any (n v : Int) (w : World) : Calls Tryz.prog 88 #[.int .i64 n, .int .i64 v] w fun e w' => e = .returned (.bool (decide (0 ≤ v) && decide (v < n))) ∧ w = w' := by
  by_cases h : 0 ≤ v
  · by_cases h2 : v < n
    · rw [decide_eq_true h, decide_eq_true h2]; exact isNode_c n v w h h2
    · rw [decide_eq_true h, decide_eq_false h2]; exact isNode_b n v w h h2
  · rw [decide_eq_false h]; exact isNode_a n v w h
def faultV (p : Int) (c : Int) : Value := .iface 135 (.agg #[.int .i64 p, .iface 66 (.int .i64 c)])
set_option maxRecDepth 100000 in
set_option maxHeartbeats 2000000 in
theorem fault_any (p c : Int) (w : World) : Calls Tryz.prog 87 #[.int .i64 p, .int .i64 c] w fun e w' => e = .returned (faultV p c) ∧ w = w' := by
  refine Kn.Z.cl Tryz.func87 rfl Tryz.ntmps87 rfl (.c 0 rfl (.c 1 rfl .n)) ?_;refine Kn.Z.f fun K1 hK1=>?_;refine Kn.Z.u (.a .c .n) ?_;refine Kn.Z.e hK1 ?_;clear hK1 K1;refine Kn.Z.f fun K2 hK2=>?_;refine Kn.Z.u (.m (.t rfl) (.m (.t rfl) .n)) ?_;refine Kn.Z.s .o (.makeInterface (.t rfl)) fun Ko Kp=>?_;go_simp;(try go_bits);refine Kp _ _ ?_;clear Kp Ko;refine Kn.Z.s .o (.build (.c (.t rfl) (.c (.t rfl) .n))) fun Ko Kp=>?_;go_simp;(try go_bits);refine Kp _ _ ?_;clear Kp Ko;refine Kn.Z.s .o (.makeInterface (.t rfl)) fun Ko Kp=>?_;go_simp;(try go_bits);refine Kp _ _ ?_;clear Kp Ko;refine Kn.Z.u (.a (.t rfl) .n) ?_;refine Kn.Z.e hK2 ?_;clear hK2 K2;intro fb fg;refine wp_ret ?_;exact Kn.ret1 fg rfl rfl ⟨rfl, rfl⟩
end Go.Proofs.YtchdlgdmomcemaaGreatDoor.Edg
end
section
namespace Go.Proofs.YtchdlgdmomcemaaGreatDoor.Edg
open Go Go.RowKit Go.Lib
def HoldE (w : World) (g : Nat) (l : List (Int × Int)) : Prop := ∀ i, i < l.length → (w.cell? ⟨g, i * 2, none⟩ = some (.int .i64 (ed l i).1) ∧ w.cell? ⟨g, i * 2 + 1, none⟩ = some (.int .i64 (ed l i).2)) ∧ w.frozen? ⟨g, i * 2, none⟩ = false ∧ w.frozen? ⟨g, i * 2 + 1, none⟩ = false
theorem HoldE.ein {w : World} {g : Nat} {l : List (Int × Int)} (h : HoldE w g l) : EIn w (some ⟨g, 0, none⟩) l := fun i hi => by
  obtain ⟨⟨h1, h2⟩, _⟩ := h i hi;exact ⟨g, 0, rfl, World.block_lt_of_cell? _ _ h1, by rw [Nat.zero_add]; exact h1, by rw [Nat.zero_add]; exact h2⟩
theorem HoldE.take {w : World} {g : Nat} {l : List (Int × Int)} (h : HoldE w g l) (k : Nat) : HoldE w g (l.take k) := fun i hi => by
  have hi' : i < l.length := by simp at hi; omega
  have e : ed (l.take k) i = ed l i := by rw [ed_at _ _ hi, ed_at _ _ hi']; simp
  rw [e];exact h i hi'
theorem ed_set (l : List (Int × Int)) (k i : Nat) (e : Int × Int) (hi : i < l.length) : ed (l.set k e) i = if i = k then e else ed l i := by
  rw [ed_at _ _ (by simpa using hi), ed_at _ _ hi, List.getElem_set]
  by_cases h : i = k
  · subst h; simp
  · rw [if_neg (fun q => h q.symm), if_neg h]
theorem HoldE.store {w : World} {g : Nat} {l : List (Int × Int)} (h : HoldE w g l) (k : Nat) (hk : k < l.length) (a b : Int) :
    ∃ w', (Instr.storeAt 64 (.pointer (some ⟨g, k * 2, none⟩)) (.agg #[.int .i64 a, .int .i64 b])).run Tryz.prog w = .ok () w' ∧ HoldE w' g (l.set k (a, b)) ∧ (∀ B, B ≤ g → Below B w w') ∧ (∀ p : Addr, p.block ≠ g → w'.cell? p = w.cell? p) := by
  obtain ⟨⟨c1, c2⟩, f1, f2⟩ := h k hk
  have ht : w.there g (k * 2) 2 := fun j hj => by
    rcases (show j = 0 ∨ j = 1 by omega) with rfl | rfl
    · exact ⟨by rw [Nat.add_zero, c1]; rfl, f1⟩
    · exact ⟨by rw [c2]; rfl, f2⟩
  refine ⟨_, run_storeAt_mid w g (k * 2) 64 #[.int .i64 a, .int .i64 b] ht (by kernel_rfl) (by simp [Value.oneCell']), fun i hi => ?_, fun B hB => below_setCells_w hB _ _ _, fun p hp => World.cell?_setCells_out g _ _ _ _ (fun e => absurd e hp)⟩;have hi' : i < l.length := by simpa using hi
  rw [World.frozen?_setCells, World.frozen?_setCells, ed_set l k i (a, b) hi'];refine ⟨?_, (h i hi').2⟩
  by_cases e : i = k
  · subst e;have hin := World.cell?_setCells_in g [.int .i64 a, .int .i64 b] (i * 2) w (fun j hj => (ht j (by simpa using hj)).1);rw [if_pos rfl];exact ⟨by have := hin 0 (by simp); simpa using this, by have := hin 1 (by simp); simpa using this⟩
  · rw [if_neg e, World.cell?_setCells_out g _ _ _ _ (fun _ _ => by simp; omega), World.cell?_setCells_out g _ _ _ _ (fun _ _ => by simp; omega)];exact (h i hi').1
theorem hold_of_own {w : World} {B g n cap : Nat} {l : List (Int × Int)} (h : OwnE w B (some ⟨g, 0, none⟩) n cap l) : HoldE w g l := fun i hi => by
  have c := (OwnE.ein h).cells hi;rw [Nat.zero_add] at c;obtain ⟨hn, hl, hr⟩ := h;rcases hr with ⟨hv, _⟩ | ⟨g', cap', cur, hv, hB, hg, hle, hm, hs, ht⟩
  · cases hv
  · simp only [Value.slice.injEq, Option.some.injEq, Addr.mk.injEq] at hv;obtain ⟨⟨rfl, _, _⟩, _, _⟩ := hv;exact ⟨c, by simp [World.frozen?, hg], by simp [World.frozen?, hg]⟩
end Go.Proofs.YtchdlgdmomcemaaGreatDoor.Edg
end
section
namespace Go.Proofs.YtchdlgdmomcemaaGreatDoor.Kn
open Go
section
variable {P : Program} {n : Nat} {l : List (Nat × Value)} {a : Act} {ops : Array Oper} {Q : Exit → Act → World → Prop} {w : World} {rest : List Oper}
theorem ex_clear {d : Option Tmp} {t : TypeId} {p : String} {af : Array Edge} {g : Option (Nat × Bool)} {ats : Array TypeId} {xs : Array Operand} {us : List Value} (h : Kn n l a) (hx : Vals l xs.toList us) : execOp a.eval ⟨d, .call { callee := .builtin .clear, args := xs, argTypes := ats }, t, p, af, g⟩ = vl (Builtin.clear_ ats t us.toArray) := by
  rw [BigFrame.execOp_builtin, BigFrame.builtin_clear, show xs.map a.eval = us.toArray by have := h.vals hx; rwa [Array.toArray_toList] at this]
theorem known0 {o : Oper} {s : Sem Value} {v : Value} {w' : World} (h : Kn n l a) (hd : o.dst = none) (hw : Wants ops l o.guard true) (he : execOp a.eval o = vl s)
    (hr : s.run P w = .ok v w') (H : wpList P ops Q rest a w') : wpList P ops Q (o :: rest) a w := by
  refine wpList_step fun K hK => ?_;rw [h.wants hw, if_pos rfl];unfold Oper.wp;rw [he];simp [go_sem, hr, hd, Act.put];exact hK a w' H
end
end Go.Proofs.YtchdlgdmomcemaaGreatDoor.Kn
namespace Go.Proofs.YtchdlgdmomcemaaGreatDoor.Edg
open Go Go.RowKit Go.Lib
def ddk (l : List (Int × Int)) : Nat → List (Int × Int)
  | 0 => []
  | k + 1 => if k ≠ 0 ∧ ed l k = ed l (k - 1) then ddk l k else ddk l k ++ [ed l k]
theorem ddk_same (l : List (Int × Int)) (k : Nat) (h0 : 0 < k) (h : ed l k = ed l (k - 1)) : ddk l (k + 1) = ddk l k := by rw [ddk, if_pos ⟨by omega, h⟩]
theorem ddk_more (l : List (Int × Int)) (k : Nat) (h : k = 0 ∨ ed l k ≠ ed l (k - 1)) : ddk l (k + 1) = ddk l k ++ [ed l k] := by
  rw [ddk, if_neg];rintro ⟨h1, h2⟩;rcases h with h | h
  · exact h1 h
  · exact h h2
theorem mem_take_ed {l : List (Int × Int)} {k : Nat} {e : Int × Int} (h : e ∈ l.take k) : ∃ i, i < k ∧ i < l.length ∧ ed l i = e := by
  obtain ⟨i, hi, he⟩ := List.getElem_of_mem h;simp at hi;exact ⟨i, by omega, by omega, by rw [ed_at l i (by omega), ← he]; simp⟩
theorem ddk_mem (l : List (Int × Int)) : ∀ k, k ≤ l.length → ∀ e, e ∈ ddk l k ↔ e ∈ l.take k
  | 0, _, e => by simp [ddk]
  | k + 1, hk, e => by
    have ih := ddk_mem l k (by omega) e;rw [take_ed l k (by omega), List.mem_append, List.mem_singleton]
    by_cases h : k ≠ 0 ∧ ed l k = ed l (k - 1)
    · rw [ddk_same l k (by omega) h.2, ih];refine ⟨.inl, fun h' => h'.elim id fun q => ?_⟩;rw [q, h.2, ed_at l (k - 1) (by omega)];exact List.mem_take_iff_getElem.2 ⟨k - 1, by omega, rfl⟩
    · rw [ddk, if_neg h, List.mem_append, List.mem_singleton, ih]
def WSrt (l : List (Int × Int)) : Prop := ∀ i j, i < j → j < l.length → lessB (ed l j) (ed l i) = false
theorem ddk_srt (l : List (Int × Int)) (h : WSrt l) : ∀ k, k ≤ l.length → Srt (ddk l k)
  | 0, _ => List.Pairwise.nil
  | k + 1, hk => by
    have ih := ddk_srt l h k (by omega)
    by_cases hc : k ≠ 0 ∧ ed l k = ed l (k - 1)
    · rw [ddk_same l k (by omega) hc.2]; exact ih
    · rw [ddk, if_neg hc];unfold Srt;rw [List.pairwise_append];refine ⟨ih, by simp, fun a ha b hb => ?_⟩;rw [List.mem_singleton] at hb;subst hb;obtain ⟨i, hik, hil, rfl⟩ := mem_take_ed ((ddk_mem l k (by omega) a).1 ha);have hne : ed l k ≠ ed l (k - 1) := fun e => hc ⟨by omega, e⟩;have h1 := h i k hik (by omega)
      cases h2 : lessB (ed l i) (ed l k) with
      | true => rfl
      | false =>
        exfalso
        have e1 : ed l i = ed l k := less_eq h2 h1;rcases Nat.lt_or_ge i (k - 1) with hlt | hge
        · have h3 := h i (k - 1) hlt (by omega);have h4 := h (k - 1) k (by omega) (by omega);rw [e1] at h3;exact hne (less_eq h4 h3)
        · exact hne (by rw [← e1, show i = k - 1 by omega])
theorem ddk_norm (l xs : List (Int × Int)) (h : WSrt l) (hm : ∀ e, e ∈ l ↔ e ∈ xs) : NormOf xs (ddk l l.length) :=
  ⟨ddk_srt l h _ (Nat.le_refl _), fun e => by rw [ddk_mem l _ (Nat.le_refl _) e, List.take_length, hm]⟩
theorem HoldE.clear {w : World} {g : Nat} {l : List (Int × Int)} (h : HoldE w g l) (k c : Nat) (ty : TypeId) (hk : k < l.length) :
    ∃ w', (Builtin.clear_ #[23] ty #[.slice (some ⟨g, k * 2, none⟩) (l.length - k) c]).run Tryz.prog w = .ok (.tuple #[]) w' ∧ HoldE w' g (l.take k) ∧ ∀ B, B ≤ g → Below B w w' := by
  obtain ⟨m, hm⟩ : ∃ m, l.length - k = m + 1 := ⟨l.length - k - 1, by omega⟩;have hz : ∀ w, (zeroValue 64).run Tryz.prog w = .ok (.agg #[.int .i64 0, .int .i64 0]) w := fun w => Tryz.zeroValue64 w;have hlen : (Builtin.zeroCells (Value.agg #[.int .i64 0, .int .i64 0]).cells (m + 1)).toList.length = (m + 1) * 2 := by simp [Builtin.zeroCells, Value.cells]
  have hone : ∀ v ∈ (Builtin.zeroCells (Value.agg #[.int .i64 0, .int .i64 0]).cells (m + 1)).toList, v.oneCell' = true := fun v hv => by
    obtain ⟨i, hi, rfl⟩ := List.getElem_of_mem hv;rcases Nat.mod_two_eq_zero_or_one i with q | q <;> simp [Builtin.zeroCells, Value.cells, q, Value.oneCell']
  generalize hvs : (Builtin.zeroCells (Value.agg #[.int .i64 0, .int .i64 0]).cells (m + 1)).toList = vs at hlen hone
  have hall : ∀ j, j < vs.length → (w.cell? ⟨g, k * 2 + 0 + j, none⟩).isSome = true ∧ w.frozen? ⟨g, k * 2 + 0 + j, none⟩ = false := fun j hj => by
    have hi : k + j / 2 < l.length := by omega
    obtain ⟨⟨c1, c2⟩, f1, f2⟩ := h (k + j / 2) hi;rcases Nat.mod_two_eq_zero_or_one j with q | q
    · have e : k * 2 + 0 + j = (k + j / 2) * 2 := by omega
      rw [e, c1]; exact ⟨rfl, f1⟩
    · have e : k * 2 + 0 + j = (k + j / 2) * 2 + 1 := by omega
      rw [e, c2]; exact ⟨rfl, f2⟩
  have hst := run_storeCells_cells (P := Tryz.prog) g (k * 2) vs 0 w (fun j hj => (hall j hj).1) (fun j hj => (hall j hj).2) hone;rw [Nat.add_zero] at hst;refine ⟨w.setCells g (k * 2) vs, ?_, fun i hi => ?_, fun B hB => below_setCells_w hB _ _ _⟩
  · rw [hm];simp [Builtin.clear_, run_underlying Tryz.underlying23, hz, hvs, hst]
  · have hi' : i < k := by simp at hi; omega
    rw [World.frozen?_setCells, World.frozen?_setCells, World.cell?_setCells_out g _ _ _ _ (fun _ _ => .inl (by simp; omega)), World.cell?_setCells_out g _ _ _ _ (fun _ _ => .inl (by simp; omega))];exact h.take k i hi
end Go.Proofs.YtchdlgdmomcemaaGreatDoor.Edg
end
section
namespace Go.Proofs.YtchdlgdmomcemaaGreatDoor.Edg
open Go Go.RowKit Go.Lib Go.Shelf Go.Sort
theorem below_grow {B : Nat} {a w : World} (h : Go.RowKit.Below B a w) (hB : B ≤ w.heap.size) (os : Array Obj) : Go.RowKit.Below B a (grow w os) :=
  ⟨h.os, h.tape, h.output, by have := h.size; simp [grow]; omega, fun k hk => by rw [← h.block k hk]; simp only [grow]; exact Array.getElem?_append_left (by omega)⟩
theorem holdsK_of {w : World} {g : Nat} {l : List (Int × Int)} (h : HoldE w g l) : HoldsK encE 2 w g 0 l.toArray := fun j hj => by
  rw [size_flatK] at hj;have hi : j / 2 < l.length := by simp at hj; omega
  obtain ⟨⟨c1, c2⟩, f1, f2⟩ := h (j / 2) hi;have e : l.toArray[j / 2]! = ed l (j / 2) := by rw [ed_at l _ hi]; simp [hi]
  rw [get_flatK encE 2 l.toArray j hj, e, Nat.zero_add];rcases Nat.mod_two_eq_zero_or_one j with q | q
  · have ej : j / 2 * 2 = j := by omega
    rw [ej] at c1 f1;rw [q];exact ⟨c1, f1⟩
  · have ej : j / 2 * 2 + 1 = j := by omega
    rw [ej] at c2 f2;rw [q];exact ⟨c2, f2⟩
theorem hold_of_K {w : World} {g : Nat} {d : Array (Int × Int)} (h : HoldsK encE 2 w g 0 d) : HoldE w g d.toList := fun i hi => by
  have hi' : i < d.size := by simpa using hi
  have e : d[(i * 2) / 2]! = ed d.toList i := by rw [show i * 2 / 2 = i by omega, ed_at _ _ hi]; simp [hi']
  have e' : d[(i * 2 + 1) / 2]! = ed d.toList i := by rw [show (i * 2 + 1) / 2 = i by omega, ed_at _ _ hi]; simp [hi']
  have h1 := h (i * 2) (by rw [size_flatK]; omega);have h2 := h (i * 2 + 1) (by rw [size_flatK]; omega);rw [get_flatK encE 2 d _ (by omega), e, Nat.zero_add, show i * 2 % 2 = 0 by omega] at h1;rw [get_flatK encE 2 d _ (by omega), e', Nat.zero_add, show (i * 2 + 1) % 2 = 1 by omega] at h2;exact ⟨⟨h1.1, h2.1⟩, h1.2, h2.2⟩
theorem sort_any (g cap : Nat) (l : List (Int × Int)) (w : World) (hH : HoldE w g l) (hg : g < w.heap.size) (hl : l.length ≤ 20000) :
    Calls Tryz.prog 62 #[.slice (some ⟨g, 0, none⟩) l.length cap, .func (.func 63) #[] #[]] w fun e w' => e = .returned (.tuple #[]) ∧ ∃ s, s.length = l.length ∧ WSrt s ∧ (∀ e, e ∈ s ↔ e ∈ l) ∧ HoldE w' g s ∧ Go.RowKit.Below g w w' ∧ g < w'.heap.size := by
  have eg : ∀ args w, (callFunc 63 args).run Tryz.prog w = .ok (.enter 63 args) w := enters_of Tryz.func63 (by kernel_rfl) rfl;refine (AnyQ.slices_SortFunc Tryz.laySort 2 Tryz.isAgg64 Tryz.sizeOf64 encE (fun _ => rfl) (fun x v hv => by simp [encE] at hv; rcases hv with rfl | rfl <;> rfl) cmpI swo 63 #[] g 0 cap l.toArray w eg (cmpLays g 0 _ w) (holdsK_of hH) hg (by simp; omega)).mono fun e w' hp => ?_;obtain ⟨he, d', n, os, hpm, hs, rfl⟩ := hp;have hsz : d'.size = l.length := by have := hpm.1; simpa using this
  refine ⟨he, d'.toList, by simpa using hsz, fun i j hij hj => ?_, fun e => ?_, hold_of_K (holdsK_sortWorldK_c encE 2 w g 0 l.toArray d' n os (holdsK_of hH) hg (by simpa using hsz)), below_grow (below_putRow (Go.RowKit.Below.refl g w) (Nat.le_refl _)) ?_ os, lt_sortWorldK encE 2 w g 0 n d' os hg⟩
  · have hj' : j < d'.size := by simpa using hj
    have := hs i j (Nat.zero_le _) hij (by simpa using (hsz ▸ hj'));rw [ltOf_cmp] at this;rw [ed_at _ _ hj, ed_at _ _ (by simp; omega)]
    simpa [hj', Nat.lt_trans hij hj'] using this
  · have hp := hpm.2.2;have e1 : (d'.extract 0 l.toArray.size).toList = d'.toList := by simp [← hsz]
    have e2 : (l.toArray.extract 0 l.toArray.size).toList = l := by simp
    rw [e1, e2] at hp;exact hp.mem_iff
  · have := lt_sortWorldK encE 2 w g 0 n d' #[] hg;rw [sortWorldK, grow_empty] at this;exact Nat.le_of_lt this
end Go.Proofs.YtchdlgdmomcemaaGreatDoor.Edg
end
section
namespace Go.Proofs.YtchdlgdmomcemaaGreatDoor.Edg
open Go Go.RowKit Go.Lib
theorem badB_iff (n : Int) (e : Int × Int) : badB n e = false ↔ (0 ≤ e.1 ∧ e.1 < n) ∧ (0 ≤ e.2 ∧ e.2 < n) := by
  unfold badB;simp only [Bool.or_eq_false_iff, decide_eq_false_iff_not];omega
set_option maxRecDepth 100000 in
set_option maxHeartbeats 2000000 in
theorem check_neg (n : Int) (A : Option Addr) (c : Nat) (xs : List (Int × Int)) (w : World) (h : n < 0) :
    Calls Tryz.prog 60 #[.int .i64 n, .slice A xs.length c] w fun e w' => e = .returned (faultV (-1) 10) ∧ w = w' := by
  refine Kn.Z.cl Tryz.func60 rfl Tryz.ntmps60 rfl (.c 0 rfl (.c 1 rfl .n)) ?_;refine Kn.Z.f fun K1 hK1=>?_;refine Kn.Z.u (.a .c .n) ?_;refine Kn.Z.e hK1 ?_;clear hK1 K1;refine Kn.Z.q fun K2 hK2=>?_;refine Kn.Z.f fun K3 hK3=>?_;refine Kn.Z.u (.m (.t rfl) .n) ?_;refine Kn.Z.s .o (.bin (.t rfl) .c) fun Ko Kp=>?_;go_simp;(try go_bits);refine Kp _ _ ?_;clear Kp Ko;refine Kn.Z.u (.m (.t rfl) (.k (.s rfl rfl rfl) (.k (.s rfl rfl rfl) (.e .o (.pick (.t rfl) .c) .n)))) ?_;refine Kn.Z.e hK3 ?_;clear hK3 K3;refine Kn.Z.y (.t rfl) ?_;refine Kn.Z.f fun K4 hK4=>?_;refine Kn.Z.c .o (.call (.c .c (.c .c .n))) Tryz.call87 (fault_any (-1) 10 w) fun e w1 hp=>?_;obtain ⟨rfl, rfl⟩ := hp;refine ⟨_,rfl,?_⟩;refine Kn.Z.u (.a (.t rfl) .n) ?_;refine Kn.Z.e hK4 ?_;clear hK4 K4;intro fb fg;refine wp_ret ?_;refine Kn.then_ret ?_;exact Kn.ret1 fg rfl rfl ⟨rfl, rfl⟩
set_option maxRecDepth 100000 in
set_option maxHeartbeats 2000000 in
theorem check_big (n : Int) (A : Option Addr) (c : Nat) (xs : List (Int × Int)) (w : World) (h : ¬ n < 0) (h2 : 4096 < n) :
    Calls Tryz.prog 60 #[.int .i64 n, .slice A xs.length c] w fun e w' => e = .returned (faultV (-1) 10) ∧ w = w' := by
  refine Kn.Z.cl Tryz.func60 rfl Tryz.ntmps60 rfl (.c 0 rfl (.c 1 rfl .n)) ?_;refine Kn.Z.f fun K1 hK1=>?_;refine Kn.Z.u (.a .c .n) ?_;refine Kn.Z.e hK1 ?_;clear hK1 K1;refine Kn.Z.q fun K2 hK2=>?_;refine Kn.Z.f fun K3 hK3=>?_;refine Kn.Z.u (.m (.t rfl) .n) ?_;refine Kn.Z.s .o (.bin (.t rfl) .c) fun Ko Kp=>?_;go_simp;(try go_bits);refine Kp _ _ ?_;clear Kp Ko;refine Kn.Z.u (.m (.t rfl) (.e (.s rfl rfl rfl) (.move (.t rfl)) .n)) ?_;refine Kn.Z.s (.s rfl rfl rfl) (.bin (.t rfl) .c) fun Ko Kp=>?_;go_simp;(try go_bits);refine Kp _ _ ?_;clear Kp Ko;refine Kn.Z.u (.e .o (.pick (.t rfl) (.t rfl)) .n) ?_;refine Kn.Z.e hK3 ?_;clear hK3 K3;refine Kn.Z.y (.t rfl) ?_;refine Kn.Z.f fun K4 hK4=>?_;refine Kn.Z.c .o (.call (.c .c (.c .c .n))) Tryz.call87 (fault_any (-1) 10 w) fun e w1 hp=>?_;obtain ⟨rfl, rfl⟩ := hp;refine ⟨_,rfl,?_⟩;refine Kn.Z.u (.a (.t rfl) .n) ?_;refine Kn.Z.e hK4 ?_;clear hK4 K4;intro fb fg;refine wp_ret ?_;refine Kn.then_ret ?_;exact Kn.ret1 fg rfl rfl ⟨rfl, rfl⟩
set_option maxRecDepth 100000 in
set_option maxHeartbeats 2000000 in
theorem check_long (n : Int) (A : Option Addr) (c : Nat) (xs : List (Int × Int)) (w : World) (h : ¬ n < 0) (h2 : ¬ 4096 < n) (h3 : (20000 : Int) < (xs.length : Int)) (_h4 : 20000 < xs.length) :
    Calls Tryz.prog 60 #[.int .i64 n, .slice A xs.length c] w fun e w' => e = .returned (faultV (20000) 10) ∧ w = w' := by
  refine Kn.Z.cl Tryz.func60 rfl Tryz.ntmps60 rfl (.c 0 rfl (.c 1 rfl .n)) ?_;refine Kn.Z.f fun K1 hK1=>?_;refine Kn.Z.u (.a .c .n) ?_;refine Kn.Z.e hK1 ?_;clear hK1 K1;refine Kn.Z.q fun K2 hK2=>?_;refine Kn.Z.f fun K3 hK3=>?_;refine Kn.Z.u (.m (.t rfl) .n) ?_;refine Kn.Z.s .o (.bin (.t rfl) .c) fun Ko Kp=>?_;go_simp;(try go_bits);refine Kp _ _ ?_;clear Kp Ko;refine Kn.Z.u (.m (.t rfl) (.e (.s rfl rfl rfl) (.move (.t rfl)) .n)) ?_;refine Kn.Z.s (.s rfl rfl rfl) (.bin (.t rfl) .c) fun Ko Kp=>?_;go_simp;(try go_bits);refine Kp _ _ ?_;clear Kp Ko;refine Kn.Z.u (.e .o (.pick (.t rfl) (.t rfl)) .n) ?_;refine Kn.Z.e hK3 ?_;clear hK3 K3;refine Kn.Z.no (.t rfl) ?_;refine Kn.Z.j hK2 ?_;clear hK2 K2;refine Kn.Z.q fun K4 hK4=>?_;refine Kn.Z.f fun K5 hK5=>?_;refine Kn.Z.u (.m (.t rfl) .n) ?_;refine Kn.Z.s .o (.len (.t rfl)) fun Ko Kp=>?_;go_simp;(try go_bits);refine Kp _ _ ?_;clear Kp Ko;refine Kn.Z.s .o (.bin (.t rfl) .c) fun Ko Kp=>?_;go_simp;(try go_bits);refine Kp _ _ ?_;clear Kp Ko;refine Kn.Z.e hK5 ?_;clear hK5 K5;refine Kn.Z.y (.t rfl) ?_;refine Kn.Z.f fun K6 hK6=>?_;refine Kn.Z.c .o (.call (.c .c (.c .c .n))) Tryz.call87 (fault_any (20000) 10 w) fun e w1 hp=>?_;obtain ⟨rfl, rfl⟩ := hp;refine ⟨_,rfl,?_⟩;refine Kn.Z.u (.a (.t rfl) .n) ?_;refine Kn.Z.e hK6 ?_;clear hK6 K6;refine Kn.Z.t (.c 4 rfl (.c 0 rfl (.c 1 rfl .n))) ?_;intro fa fh;refine wp_ret ?_;refine Kn.then_ret ?_;exact Kn.ret1 fh rfl rfl ⟨rfl, rfl⟩
set_option maxRecDepth 100000 in
set_option maxHeartbeats 2000000 in
theorem check_any (n : Int) (A : Option Addr) (c f : Nat) (xs : List (Int × Int)) (w : World) (h1 : ¬ n < 0) (h2 : ¬ 4096 < n) (h3 : ¬ 20000 < xs.length) (hA : EIn w A xs) (hG : ∀ i, i < f → badB n (ed xs i) = false) (hB : f < xs.length → badB n (ed xs f) = true) :
    Calls Tryz.prog 60 #[.int .i64 n, .slice A xs.length c] w fun e w' => e = .returned (if f < xs.length then faultV (f : Int) 10 else .nilIface) ∧ Below w.heap.size w w' := by
  have HA := Lib.hid hA;have HG := Lib.hid hG;have HH := Lib.hid hB;clear hA hG hB;have h4 : ¬ (20000 : Int) < (xs.length : Int) := by omega
  refine Kn.Z.cl Tryz.func60 rfl Tryz.ntmps60 rfl (.c 0 rfl (.c 1 rfl .n)) ?_;refine Kn.Z.f fun K1 hK1=>?_;refine Kn.Z.u (.a .c .n) ?_;refine Kn.Z.e hK1 ?_;clear hK1 K1;refine Kn.Z.q fun K2 hK2=>?_;refine Kn.Z.f fun K3 hK3=>?_;refine Kn.Z.u (.m (.t rfl) .n) ?_;refine Kn.Z.s .o (.bin (.t rfl) .c) fun Ko Kp=>?_;go_simp;(try go_bits);refine Kp _ _ ?_;clear Kp Ko;refine Kn.Z.u (.m (.t rfl) (.e (.s rfl rfl rfl) (.move (.t rfl)) .n)) ?_;refine Kn.Z.s (.s rfl rfl rfl) (.bin (.t rfl) .c) fun Ko Kp=>?_;go_simp;(try go_bits);refine Kp _ _ ?_;clear Kp Ko;refine Kn.Z.u (.e .o (.pick (.t rfl) (.t rfl)) .n) ?_;refine Kn.Z.e hK3 ?_;clear hK3 K3;refine Kn.Z.no (.t rfl) ?_;refine Kn.Z.j hK2 ?_;clear hK2 K2;refine Kn.Z.q fun K4 hK4=>?_;refine Kn.Z.f fun K5 hK5=>?_;refine Kn.Z.u (.m (.t rfl) .n) ?_;refine Kn.Z.s .o (.len (.t rfl)) fun Ko Kp=>?_;go_simp;(try go_bits);refine Kp _ _ ?_;clear Kp Ko;refine Kn.Z.s .o (.bin (.t rfl) .c) fun Ko Kp=>?_;go_simp;(try go_bits);refine Kp _ _ ?_;clear Kp Ko;refine Kn.Z.e hK5 ?_;clear hK5 K5;refine Kn.Z.no (.t rfl) ?_;refine Kn.Z.j hK4 ?_;clear hK4 K4;refine Kn.Z.q fun K6 hK6=>?_;refine Kn.Z.f fun K7 hK7=>?_;refine Kn.Z.u (.m (.t rfl) .n) ?_;refine Kn.Z.s .o (.len (.t rfl)) fun Ko Kp=>?_;go_simp;(try go_bits);refine Kp _ _ ?_;clear Kp Ko;refine Kn.Z.u (.m .c .n) ?_;refine Kn.Z.e hK7 ?_;clear hK7 K7;refine Kn.Z.t (.c 20 rfl (.c 19 rfl (.c 18 rfl (.c 4 rfl (.c 0 rfl .n))))) ?_;refine Kn.Z.b ?_;intro fb fg;refine Kn.loop (fun m fr u => ∃ (k : Nat), Kn.Kn 40 [(20, .int .i64 (k : Int)), (18, .slice A xs.length c), (19, .int .i64 (xs.length : Int)), (0, .int .i64 n)] fr ∧ k + m = xs.length ∧ k ≤ f ∧ Hid (Below w.heap.size w u)) xs.length ⟨0, fg.cut (.c 20 rfl (.c 18 rfl (.c 19 rfl (.c 0 rfl .n)))), by omega, by omega, Lib.hid (Below.refl _ _)⟩ ?_;clear fg fb;intro m8 fa u hI Kl8 hKl8;obtain ⟨k, fh, hk, hkf, HB⟩ := hI
  by_cases hlt : k < xs.length
  · have hlt0 := hlt;obtain ⟨ba, oa, rfl, -, ca1, ca2⟩ := (HA.out.on HB.out) k hlt0;clear hlt0;obtain ⟨x1, hx1⟩ : ∃ x, (ed xs k).1 = x := ⟨_, rfl⟩;obtain ⟨x2, hx2⟩ : ∃ x, (ed xs k).2 = x := ⟨_, rfl⟩;rw [hx1] at ca1;rw [hx2] at ca2;have HX : Hid (ed xs k = (x1, x2)) := Lib.hid (by rw [← hx1, ← hx2]);clear hx1 hx2
    revert fa
    refine Kn.Z.f fun K9 hK9=>?_;refine Kn.Z.s .o (.bin (.t rfl) (.t rfl)) fun Ko Kp=>?_;go_simp;(try go_bits);refine Kp _ _ ?_;clear Kp Ko;refine Kn.Z.e hK9 ?_;clear hK9 K9;refine Kn.Z.q fun K10 hK10=>?_;refine Kn.Z.y (.t rfl) ?_;refine Kn.Z.j hK10 ?_;clear hK10 K10;refine Kn.Z.t (.c 20 rfl (.c 18 rfl (.c 19 rfl (.c 0 rfl .n)))) ?_;refine Kn.Z.q fun K11 hK11=>?_;refine Kn.Z.b ?_;refine Kn.Z.f fun K12 hK12=>?_;refine Kn.Z.u (.m (.t rfl) .n) ?_;refine Kn.Z.s .o (.indexAddr (.t rfl) (.t rfl)) fun Ko Kp=>?_;go_simp;(try go_bits);refine Kp _ _ ?_;clear Kp Ko;refine Kn.Z.s .o (.load (.t rfl)) fun Ko Kp=>?_;go_simp;(try go_bits);refine Kp _ _ ?_;clear Kp Ko;refine Kn.Z.s .o .alloc fun Ko Kp=>?_;go_simp;(try go_bits);refine Kp _ _ ?_;clear Kp Ko;refine Kn.Z.u (.a (.t rfl) .n) ?_;refine Kn.Z.su .o (.store (.t rfl) (.t rfl)) fun Ko Kp=>?_;go_simp;(try go_bits);refine Kp _ ?_;clear Kp Ko;refine Kn.Z.e hK12 ?_;clear hK12 K12
    by_cases e1 : 0 ≤ x1 ∧ x1 < n
    · have q1 : (decide (0 ≤ x1) && decide (x1 < n)) = true := by rw [decide_eq_true e1.1, decide_eq_true e1.2]; rfl
      by_cases e2 : 0 ≤ x2 ∧ x2 < n
      · have q2 : (decide (0 ≤ x2) && decide (x2 < n)) = true := by rw [decide_eq_true e2.1, decide_eq_true e2.2]; rfl
        have hkf2 : k + 1 ≤ f := by
          rcases Nat.lt_or_ge k f with h | h
          · omega
          · have hfk : f = k := by omega
            have := HH.out (by omega);rw [hfk, HX.out] at this;have g : badB n (x1, x2) = false := (badB_iff _ _).2 ⟨e1, e2⟩;rw [g] at this;cases this
        clear e1 e2 hkf;refine Kn.Z.f fun K13 hK13=>?_;refine Kn.Z.u (.m (.t rfl) .n) ?_;refine Kn.Z.s .o (.fieldAddr (.t rfl)) fun Ko Kp=>?_;go_simp;(try go_bits);refine Kp _ _ ?_;clear Kp Ko;refine Kn.Z.s .o (.load (.t rfl)) fun Ko Kp=>?_;go_simp;(try go_bits);refine Kp _ _ ?_;clear Kp Ko;refine Kn.Z.c .o (.call (.c (.t rfl) (.c (.t rfl) .n))) Tryz.call88 (isNode_any n x1 _) fun e w1 hp=>?_;obtain ⟨rfl, rfl⟩ := hp;refine ⟨_,rfl,?_⟩;intro fa fh;rw [q1] at fh
        revert fa
        refine Kn.Z.s .o (.un (.t rfl)) fun Ko Kp=>?_;go_simp;(try go_bits);refine Kp _ _ ?_;clear Kp Ko;refine Kn.Z.u (.m (.t rfl) (.e (.s rfl rfl rfl) (.move (.t rfl)) .n)) ?_;refine Kn.Z.s (.s rfl rfl rfl) (.fieldAddr (.t rfl)) fun Ko Kp=>?_;go_simp;(try go_bits);refine Kp _ _ ?_;clear Kp Ko;refine Kn.Z.s (.s rfl rfl rfl) (.load (.t rfl)) fun Ko Kp=>?_;go_simp;(try go_bits);refine Kp _ _ ?_;clear Kp Ko;refine Kn.Z.c (.s rfl rfl rfl) (.call (.c (.t rfl) (.c (.t rfl) .n))) Tryz.call88 (isNode_any n x2 _) fun e w1 hp=>?_;obtain ⟨rfl, rfl⟩ := hp;refine ⟨_,rfl,?_⟩;intro fa fh;rw [q2] at fh
        revert fa
        refine Kn.Z.s (.s rfl rfl rfl) (.un (.t rfl)) fun Ko Kp=>?_;go_simp;(try go_bits);refine Kp _ _ ?_;clear Kp Ko;refine Kn.Z.u (.e .o (.pick (.t rfl) (.t rfl)) .n) ?_;refine Kn.Z.e hK13 ?_;clear hK13 K13;refine Kn.Z.t (.c 36 rfl (.c 5 rfl (.c 20 rfl (.c 18 rfl (.c 19 rfl (.c 0 rfl .n)))))) ?_;refine Kn.Z.no (.t rfl) ?_;intro fa fh;refine wp_skip ?_;refine Kn.block_normal ?_;refine hK11 _ _ ?_;clear hK11 K11
        revert fa
        refine Kn.Z.r ?_;refine Kn.Z.s .o (.bin (.t rfl) .c) fun Ko Kp=>?_;go_simp;(try go_bits);refine Kp _ _ ?_;clear Kp Ko;refine Kn.Z.u (.m (.t rfl) .n) ?_;intro fa fh;refine wpList_nil ?_;replace fh := fh.cut (.c 20 rfl (.c 18 rfl (.c 19 rfl (.c 0 rfl .n))));exact hKl8 (m8 - 1) _ _ (by omega) ⟨k + 1, fh.cut (.u 20 rfl (by go_num) (.c 18 rfl (.c 19 rfl (.c 0 rfl .n)))), by omega, hkf2, Lib.hid (HB.out.alloc HB.out.size _)⟩
      · have q2 : (decide (0 ≤ x2) && decide (x2 < n)) = false := by simp only [Bool.and_eq_false_iff, decide_eq_false_iff_not]; omega
        have hfk : k = f := by
          rcases Nat.lt_or_ge k f with h | h
          · have := HG.out k h; rw [HX.out, badB_iff] at this; exact absurd this (by simp only; omega)
          · omega
        subst hfk;clear e1 e2 hkf;refine Kn.Z.f fun K13 hK13=>?_;refine Kn.Z.u (.m (.t rfl) .n) ?_;refine Kn.Z.s .o (.fieldAddr (.t rfl)) fun Ko Kp=>?_;go_simp;(try go_bits);refine Kp _ _ ?_;clear Kp Ko;refine Kn.Z.s .o (.load (.t rfl)) fun Ko Kp=>?_;go_simp;(try go_bits);refine Kp _ _ ?_;clear Kp Ko;refine Kn.Z.c .o (.call (.c (.t rfl) (.c (.t rfl) .n))) Tryz.call88 (isNode_any n x1 _) fun e w1 hp=>?_;obtain ⟨rfl, rfl⟩ := hp;refine ⟨_,rfl,?_⟩;intro fa fh;rw [q1] at fh
        revert fa
        refine Kn.Z.s .o (.un (.t rfl)) fun Ko Kp=>?_;go_simp;(try go_bits);refine Kp _ _ ?_;clear Kp Ko;refine Kn.Z.u (.m (.t rfl) (.e (.s rfl rfl rfl) (.move (.t rfl)) .n)) ?_;refine Kn.Z.s (.s rfl rfl rfl) (.fieldAddr (.t rfl)) fun Ko Kp=>?_;go_simp;(try go_bits);refine Kp _ _ ?_;clear Kp Ko;refine Kn.Z.s (.s rfl rfl rfl) (.load (.t rfl)) fun Ko Kp=>?_;go_simp;(try go_bits);refine Kp _ _ ?_;clear Kp Ko;refine Kn.Z.c (.s rfl rfl rfl) (.call (.c (.t rfl) (.c (.t rfl) .n))) Tryz.call88 (isNode_any n x2 _) fun e w1 hp=>?_;obtain ⟨rfl, rfl⟩ := hp;refine ⟨_,rfl,?_⟩;intro fa fh;rw [q2] at fh
        revert fa
        refine Kn.Z.s (.s rfl rfl rfl) (.un (.t rfl)) fun Ko Kp=>?_;go_simp;(try go_bits);refine Kp _ _ ?_;clear Kp Ko;refine Kn.Z.u (.e .o (.pick (.t rfl) (.t rfl)) .n) ?_;refine Kn.Z.e hK13 ?_;clear hK13 K13;refine Kn.Z.t (.c 36 rfl (.c 5 rfl (.c 20 rfl (.c 18 rfl (.c 19 rfl (.c 0 rfl .n)))))) ?_;refine Kn.Z.y (.t rfl) ?_;refine Kn.Z.f fun K14 hK14=>?_;refine Kn.Z.u (.m (.t rfl) .n) ?_;refine Kn.Z.c .o (.call (.c (.t rfl) (.c .c .n))) Tryz.call87 (fault_any k 10 _) fun e w1 hp=>?_;obtain ⟨rfl, rfl⟩ := hp;refine ⟨_,rfl,?_⟩;refine Kn.Z.u (.a (.t rfl) .n) ?_;refine Kn.Z.e hK14 ?_;clear hK14 K14;intro fb fg;refine wp_ret ?_;refine Kn.block_ret ?_;refine Kn.then_ret ?_;refine Kn.then_ret ?_;refine Kn.block_ret ?_;refine Kn.then_ret ?_;exact Kn.ret1 fg rfl rfl ⟨by rw [if_pos hlt], HB.out.alloc HB.out.size _⟩
    · have q1 : (decide (0 ≤ x1) && decide (x1 < n)) = false := by simp only [Bool.and_eq_false_iff, decide_eq_false_iff_not]; omega
      have hfk : k = f := by
        rcases Nat.lt_or_ge k f with h | h
        · have := HG.out k h; rw [HX.out, badB_iff] at this; exact absurd this (by simp only; omega)
        · omega
      subst hfk;clear e1 hkf;refine Kn.Z.f fun K13 hK13=>?_;refine Kn.Z.u (.m (.t rfl) .n) ?_;refine Kn.Z.s .o (.fieldAddr (.t rfl)) fun Ko Kp=>?_;go_simp;(try go_bits);refine Kp _ _ ?_;clear Kp Ko;refine Kn.Z.s .o (.load (.t rfl)) fun Ko Kp=>?_;go_simp;(try go_bits);refine Kp _ _ ?_;clear Kp Ko;refine Kn.Z.c .o (.call (.c (.t rfl) (.c (.t rfl) .n))) Tryz.call88 (isNode_any n x1 _) fun e w1 hp=>?_;obtain ⟨rfl, rfl⟩ := hp;refine ⟨_,rfl,?_⟩;intro fa fh;rw [q1] at fh
      revert fa
      refine Kn.Z.s .o (.un (.t rfl)) fun Ko Kp=>?_;go_simp;(try go_bits);refine Kp _ _ ?_;clear Kp Ko;refine Kn.Z.u (.m (.t rfl) (.k (.s rfl rfl rfl) (.k (.s rfl rfl rfl) (.k (.s rfl rfl rfl) (.k (.s rfl rfl rfl) (.k (.s rfl rfl rfl) (.e .o (.pick (.t rfl) .c) .n))))))) ?_;refine Kn.Z.e hK13 ?_;clear hK13 K13;refine Kn.Z.t (.c 36 rfl (.c 5 rfl (.c 20 rfl (.c 18 rfl (.c 19 rfl (.c 0 rfl .n)))))) ?_;refine Kn.Z.y (.t rfl) ?_;refine Kn.Z.f fun K14 hK14=>?_;refine Kn.Z.u (.m (.t rfl) .n) ?_;refine Kn.Z.c .o (.call (.c (.t rfl) (.c .c .n))) Tryz.call87 (fault_any k 10 _) fun e w1 hp=>?_;obtain ⟨rfl, rfl⟩ := hp;refine ⟨_,rfl,?_⟩;refine Kn.Z.u (.a (.t rfl) .n) ?_;refine Kn.Z.e hK14 ?_;clear hK14 K14;intro fb fg;refine wp_ret ?_;refine Kn.block_ret ?_;refine Kn.then_ret ?_;refine Kn.then_ret ?_;refine Kn.block_ret ?_;refine Kn.then_ret ?_;exact Kn.ret1 fg rfl rfl ⟨by rw [if_pos hlt], HB.out.alloc HB.out.size _⟩
  · obtain rfl : k = xs.length := by omega
    revert fa
    refine Kn.Z.f fun K9 hK9=>?_;refine Kn.Z.s .o (.bin (.t rfl) (.t rfl)) fun Ko Kp=>?_;go_simp;(try go_bits);refine Kp _ _ ?_;clear Kp Ko;refine Kn.Z.e hK9 ?_;clear hK9 K9;refine Kn.Z.q fun K10 hK10=>?_;refine Kn.Z.no (.t rfl) ?_;refine Kn.Z.t (.c 20 rfl (.c 18 rfl (.c 19 rfl (.c 0 rfl .n)))) ?_;intro fb fg;refine wp_exit ?_;refine Kn.then_exit ?_;clear hK10 K10;refine Kn.then_exit ?_;clear hKl8 Kl8;refine Kn.block_exit ?_;refine hK6 _ _ ?_;clear hK6 K6
    revert fb
    refine Kn.Z.f fun K11 hK11=>?_;refine Kn.Z.u (.a .c .n) ?_;refine Kn.Z.e hK11 ?_;clear hK11 K11;intro fa fh;refine wp_ret ?_;exact Kn.ret1 fh rfl rfl ⟨by rw [if_neg (by omega)], HB.out⟩
end Go.Proofs.YtchdlgdmomcemaaGreatDoor.Edg
end
section
namespace Go.Proofs.YtchdlgdmomcemaaGreatDoor.Edg
open Go Go.RowKit Go.Lib
theorem below_drewN (B : Nat) (w : World) (q : Nat) : Below B w (w.drewN q) := ⟨rfl, rfl, rfl, Nat.le_refl _, fun _ _ => rfl⟩
def CI (w u : World) (g : Nat) (l : List (Int × Int)) (p k a : Nat) : Prop := ∃ R, HoldE u g R ∧ R.length = l.length ∧ R.take a = ddk l (p + k) ∧ (∀ j, p + k ≤ j + 1 → j < l.length → ed R j = ed l j) ∧ Below g w u
section
variable {w u : World} {g : Nat} {l : List (Int × Int)} {p k a : Nat}
theorem CI.drew (h : CI w u g l p k a) : CI w u.drew g l p k a := by
  obtain ⟨R, h1, h2, h3, h4, h5⟩ := h;exact ⟨R, h1, h2, h3, h4, h5.drew⟩
theorem CI.start (h : HoldE w g l) (q : Nat) (hd : ddk l (p + 1) = l.take p) : CI w (w.drewN q) g l p 1 p := ⟨l, h, rfl, hd.symm, fun _ _ _ => rfl, below_drewN _ _ _⟩
theorem CI.at (h : CI w u g l p k a) (hk : p + k < l.length) : (u.cell? ⟨g, p * 2 + k * 2, none⟩ = some (.int .i64 (ed l (p + k)).1) ∧ u.cell? ⟨g, p * 2 + k * 2 + 1, none⟩ = some (.int .i64 (ed l (p + k)).2)) := by
  obtain ⟨R, h1, h2, h3, h4, h5⟩ := h;have := (h1 (p + k) (by omega)).1
  rwa [h4 (p + k) (by omega) hk, show (p + k) * 2 = p * 2 + k * 2 by omega] at this
theorem CI.prev (h : CI w u g l p k a) {j : Nat} (hj : k = j + 1) (hk : p + k < l.length) : (u.cell? ⟨g, p * 2 + j * 2, none⟩ = some (.int .i64 (ed l (p + j)).1) ∧ u.cell? ⟨g, p * 2 + j * 2 + 1, none⟩ = some (.int .i64 (ed l (p + j)).2)) := by
  obtain ⟨R, h1, h2, h3, h4, h5⟩ := h;have := (h1 (p + j) (by omega)).1
  rwa [h4 (p + j) (by omega) (by omega), show (p + j) * 2 = p * 2 + j * 2 by omega] at this
theorem CI.same (h : CI w u g l p k a) (h0 : 0 < p + k) (he : ed l (p + k) = ed l (p + k - 1)) : CI w u g l p (k + 1) a := by
  obtain ⟨R, h1, h2, h3, h4, h5⟩ := h;exact ⟨R, h1, h2, by rw [← Nat.add_assoc, ddk_same l (p + k) h0 he]; exact h3, fun j hj hl => h4 j (by omega) hl, h5⟩
theorem CI.store (h : CI w u g l p k a) (ha : a + 1 ≤ p + k) (hk : p + k < l.length) {x y : Int} (he : ed l (p + k) = (x, y)) (hne : ed l (p + k) ≠ ed l (p + k - 1)) :
    ∃ u', (Instr.storeAt 64 (.pointer (some ⟨g, a * 2, none⟩)) (.agg #[.int .i64 x, .int .i64 y])).run Tryz.prog u = .ok () u' ∧ CI w u' g l p (k + 1) (a + 1) := by
  obtain ⟨R, h1, h2, h3, h4, h5⟩ := h;obtain ⟨u', r, s1, s2, -⟩ := h1.store a (by omega) x y;refine ⟨u', r, R.set a (x, y), s1, by simp [h2], ?_, fun j hj hl => ?_, h5.trans (s2 _ (Nat.le_refl _))⟩
  · rw [← Nat.add_assoc, ddk_more l (p + k) (.inr hne), ← h3, he];have hR : a < R.length := by omega
    rw [take_ed _ _ (by simpa using hR), ed_set R a a (x, y) hR, if_pos rfl, List.take_set_of_le (Nat.le_refl _)]
  · rw [ed_set R a j (x, y) (by omega), if_neg (by omega)];exact h4 j (by omega) hl
theorem CI.len (h : CI w u g l p k a) (ha : a ≤ l.length) : a = (ddk l (p + k)).length := by
  obtain ⟨R, h1, h2, h3, h4, h5⟩ := h;rw [← h3]; simp; omega
theorem CI.clear (h : CI w u g l p k a) (ha : a < l.length) (c : Nat) (ty : TypeId) :
    ∃ u', (Builtin.clear_ #[23] ty #[.slice (some ⟨g, a * 2, none⟩) (l.length - a) c]).run Tryz.prog u = .ok (.tuple #[]) u' ∧ HoldE u' g (ddk l (p + k)) ∧ Below g w u' := by
  obtain ⟨R, h1, h2, h3, h4, h5⟩ := h;obtain ⟨u', r, s1, s2⟩ := h1.clear a c ty (by omega);rw [h2] at r;rw [h3] at s1;exact ⟨u', r, s1, h5.trans (s2 _ (Nat.le_refl _))⟩
end
end Go.Proofs.YtchdlgdmomcemaaGreatDoor.Edg
end
section
namespace Go.Proofs.YtchdlgdmomcemaaGreatDoor.Edg
open Go Go.RowKit Go.Lib
set_option maxRecDepth 100000 in
set_option maxHeartbeats 2000000 in
theorem compact_few (A : Option Addr) (n cap : Nat) (w : World) (h : (n : Int) < 2) (_h2 : n < 2) :
    Calls Tryz.prog 64 #[.slice A n cap] w fun e w' => e = .returned (.slice A n cap) ∧ w = w' := by
  refine Kn.Z.cl Tryz.func64 rfl Tryz.ntmps64 rfl (.c 0 rfl .n) ?_;refine Kn.Z.f fun K1 hK1=>?_;refine Kn.Z.u (.a .c .n) ?_;refine Kn.Z.e hK1 ?_;clear hK1 K1;refine Kn.Z.q fun K2 hK2=>?_;refine Kn.Z.f fun K3 hK3=>?_;refine Kn.Z.u (.m (.t rfl) .n) ?_;refine Kn.Z.s .o (.len (.t rfl)) fun Ko Kp=>?_;go_simp;(try go_bits);refine Kp _ _ ?_;clear Kp Ko;refine Kn.Z.s .o (.bin (.t rfl) .c) fun Ko Kp=>?_;go_simp;(try go_bits);refine Kp _ _ ?_;clear Kp Ko;refine Kn.Z.e hK3 ?_;clear hK3 K3;refine Kn.Z.y (.t rfl) ?_;refine Kn.Z.f fun K4 hK4=>?_;refine Kn.Z.u (.m (.t rfl) (.a (.t rfl) .n)) ?_;refine Kn.Z.e hK4 ?_;clear hK4 K4;intro fa fh;refine wp_ret ?_;refine Kn.then_ret ?_;exact Kn.ret1 fh rfl rfl ⟨rfl, rfl⟩
theorem sat_run {r : Result Value} {x : Value} {v : World} (H : Kn.Sat (fun y w' => y = x ∧ w' = v) r) : r = .ok x v := by
  cases r with
  | ok y w' => obtain ⟨rfl, rfl⟩ := H; rfl
  | halt y w' => exact H.elim
theorem sliceLE (g n cap a : Nat) (v : World) (h : a ≤ n) (_h2 : n ≤ cap) (h3 : a < cap) (_h4 : cap ≤ 9223372036854775807) : (Instr.sliceAt 23 (.slice (some ⟨g, 0, none⟩) n cap) (some (.int .i64 (a : Int))) none none).run Tryz.prog v = .ok (.slice (some ⟨g, a * 2, none⟩) (n - a) (cap - a)) v := by
  refine sat_run ?_;go_simp;(try go_bits);have h5 : ¬ cap = a := by omega
  simp [h5]
theorem ddk_one (l : List (Int × Int)) (h : 0 < l.length) : ddk l 1 = l.take 1 := by rw [ddk_more l 0 (.inl rfl), take_ed l 0 h]; rfl
set_option maxRecDepth 100000 in
set_option maxHeartbeats 2000000 in
theorem compact_any (g n cap : Nat) (l : List (Int × Int)) (w : World) (hn : n = l.length) (h2 : 2 ≤ n) (hcap : n ≤ cap) (hc : cap ≤ maxLen) (hH : HoldE w g l) (hbig : n ≤ 20000) :
    Calls Tryz.prog 64 #[.slice (some ⟨g, 0, none⟩) n cap] w fun e w' => ∃ n' c', n' = (ddk l n).length ∧ e = .returned (.slice (some ⟨g, 0, none⟩) n' c') ∧ HoldE w' g (ddk l n) ∧ Below g w w' := by
  have HH := Lib.hid hH;have HL := Lib.hid hn;clear hH hn;have h3 : ¬ (n : Int) < 2 := by omega
  have h4 : ¬ n < 2 := by omega
  unfold maxLen at hc;refine Kn.Z.cl Tryz.func64 rfl Tryz.ntmps64 rfl (.c 0 rfl .n) ?_;refine Kn.Z.f fun K1 hK1=>?_;refine Kn.Z.u (.a .c .n) ?_;refine Kn.Z.e hK1 ?_;clear hK1 K1;refine Kn.Z.q fun K2 hK2=>?_;refine Kn.Z.f fun K3 hK3=>?_;refine Kn.Z.u (.m (.t rfl) .n) ?_;refine Kn.Z.s .o (.len (.t rfl)) fun Ko Kp=>?_;go_simp;(try go_bits);refine Kp _ _ ?_;clear Kp Ko;refine Kn.Z.s .o (.bin (.t rfl) .c) fun Ko Kp=>?_;go_simp;(try go_bits);refine Kp _ _ ?_;clear Kp Ko;refine Kn.Z.e hK3 ?_;clear hK3 K3;refine Kn.Z.no (.t rfl) ?_;refine Kn.Z.j hK2 ?_;clear hK2 K2;refine Kn.Z.q fun K4 hK4=>?_;refine Kn.Z.f fun K5 hK5=>?_;refine Kn.Z.u (.a .c .n) ?_;refine Kn.Z.e hK5 ?_;clear hK5 K5;refine Kn.Z.b ?_;intro fb fg;refine Kn.loop (fun m fr u => ∃ (i j q : Nat), Kn.Kn 61 [(3, .int .i64 (i : Int)), (0, .slice (some ⟨g, 0, none⟩) n cap)] fr ∧ i + m = n ∧ i = j + 1 ∧ Hid (ddk l i = l.take i) ∧ u = w.drewN q) (n - 1) ⟨1, 0, 0, fg.cut (.c 3 rfl (.c 0 rfl .n)), by omega, rfl, Lib.hid (ddk_one l (by have hl := HL.out; omega)), rfl⟩ ?_;clear fg fb;intro m6 fa u hI Kl6 hKl6;obtain ⟨i, j, q, fh, him, hij, HD, rfl⟩ := hI
  by_cases hlt : i < n
  · obtain ⟨⟨ca1, ca2⟩, -⟩ := HH.out i (by have hl := HL.out; omega);obtain ⟨⟨cb1, cb2⟩, -⟩ := HH.out j (by have hl := HL.out; omega);obtain ⟨x1, hx1⟩ : ∃ x, (ed l i).1 = x := ⟨_, rfl⟩;obtain ⟨x2, hx2⟩ : ∃ x, (ed l i).2 = x := ⟨_, rfl⟩;obtain ⟨y1, hy1⟩ : ∃ x, (ed l j).1 = x := ⟨_, rfl⟩;obtain ⟨y2, hy2⟩ : ∃ x, (ed l j).2 = x := ⟨_, rfl⟩;rw [hx1] at ca1;rw [hx2] at ca2;rw [hy1] at cb1;rw [hy2] at cb2;have HX : Hid (ed l i = (x1, x2)) := Lib.hid (by rw [← hx1, ← hx2]);have HY : Hid (ed l j = (y1, y2)) := Lib.hid (by rw [← hy1, ← hy2]);clear hx1 hx2 hy1 hy2;have qs : (i : Int) - 1 = (j : Int) := by omega
    have hjn : j < n := by omega
    have HIJ := Lib.hid hij;clear hij
    revert fa
    refine Kn.Z.q fun K7 hK7=>?_;refine Kn.Z.f fun K8 hK8=>?_;refine Kn.Z.u (.m (.t rfl) (.m (.t rfl) .n)) ?_;refine Kn.Z.s .o (.len (.t rfl)) fun Ko Kp=>?_;go_simp;(try go_bits);refine Kp _ _ ?_;clear Kp Ko;refine Kn.Z.s .o (.bin (.t rfl) (.t rfl)) fun Ko Kp=>?_;go_simp;(try go_bits);refine Kp _ _ ?_;clear Kp Ko;refine Kn.Z.e hK8 ?_;clear hK8 K8;refine Kn.Z.t (.c 13 rfl (.c 3 rfl (.c 0 rfl .n))) ?_;refine Kn.Z.y (.t rfl) ?_;refine Kn.Z.j hK7 ?_;clear hK7 K7;refine Kn.Z.q fun K9 hK9=>?_;refine Kn.Z.b ?_
    by_cases e1 : (x1, x2) = (y1, y2)
    · have q1 : decide ((x1, x2) = (y1, y2)) = true := decide_eq_true e1;have HE : Hid (ed l i = ed l (i - 1)) := Lib.hid (by have := HIJ.out; rw [show i - 1 = j by omega, HX.out, HY.out, e1]);clear e1;refine Kn.Z.q fun K10 hK10=>?_;refine Kn.Z.st (by kernel_rfl) (by kernel_rfl) ?_;refine Kn.Z.us (.m (.t rfl) (.m (.t rfl) .n)) ?_;refine Kn.Z.ss .o (.indexAddr (.t rfl) (.t rfl)) fun Ko Kp=>?_;go_simp;(try go_bits);refine Kp _ ?_;clear Kp Ko;refine Kn.Z.ss .o (.load (.t rfl)) fun Ko Kp=>?_;go_simp;(try go_bits);refine Kp _ ?_;clear Kp Ko;refine Kn.Z.us (.m (.t rfl) (.m (.t rfl) .n)) ?_;refine Kn.Z.ss .o (.bin (.t rfl) .c) fun Ko Kp=>?_;go_simp;(try go_bits);refine Kp _ ?_;clear Kp Ko;refine Kn.Z.ss .o (.indexAddr (.t rfl) (.t rfl)) fun Ko Kp=>?_;go_simp;(try go_bits);refine Kp _ ?_;clear Kp Ko;refine Kn.Z.ss .o (.load (.t rfl)) fun Ko Kp=>?_;go_simp;(try go_bits);refine Kp _ ?_;clear Kp Ko;refine Kn.Z.ss .o (.bin (.t rfl) (.t rfl)) fun Ko Kp=>?_;rw [eqlE, q1];refine Kp _ ?_;clear Kp Ko;refine Kn.Z.se hK10 ?_;clear hK10 K10;refine Kn.Z.t (.c 25 rfl (.c 3 rfl (.c 0 rfl .n))) ?_;refine Kn.Z.y (.t rfl) ?_;clear ca1 ca2 cb1 cb2 q1 HX HY qs;have HC0 : Hid (CI w (w.drewN (q + 1)) g l i 1 i) := Lib.hid (CI.start HH.out (q + 1) (by have := HIJ.out; rw [ddk_same l i (by omega) HE.out, HD.out]));clear HE HD;have hi1 : i ≤ n := by omega
      have hi2 : i ≤ cap := by omega
      obtain ⟨m2, hm2⟩ : ∃ x, n - i = x := ⟨_, rfl⟩;obtain ⟨c2, hc2⟩ : ∃ x, cap - i = x := ⟨_, rfl⟩;obtain ⟨p2, hp2⟩ : ∃ x, i * 2 = x := ⟨_, rfl⟩;have HM : Hid (i + m2 = n ∧ p2 = i * 2 ∧ i + c2 = cap) := Lib.hid (by omega);have hm3 : m2 ≤ 20000 := by omega
      refine Kn.Z.f fun K11 hK11=>?_;refine Kn.Z.u (.m (.t rfl) (.m (.t rfl) .n)) ?_;refine Kn.Z.s .o (.sliceL (.t rfl) (.t rfl)) fun Ko Kp=>?_;go_simp;(try go_bits);refine Kp _ _ ?_;clear Kp Ko;refine Kn.Z.u (.a (.t rfl) .n) ?_;refine Kn.Z.e hK11 ?_;clear hK11 K11;refine Kn.Z.q fun K12 hK12=>?_;refine Kn.Z.f fun K13 hK13=>?_;refine Kn.Z.u (.a .c .n) ?_;refine Kn.Z.e hK13 ?_;clear hK13 K13;refine Kn.Z.b ?_;intro fb fg;refine Kn.loop (fun m fr u => ∃ (k j2 a : Nat), Kn.Kn 61 [(5, .int .i64 (k : Int)), (3, .int .i64 (a : Int)), (4, .slice (some ⟨g, p2, none⟩) m2 c2), (0, .slice (some ⟨g, 0, none⟩) n cap)] fr ∧ k + m = m2 ∧ k = j2 + 1 ∧ a + 1 ≤ i + k ∧ Hid (CI w u g l i k a)) (m2 - 1) ⟨1, 0, i, fg.cut (.c 5 rfl (.c 3 rfl (.u 4 rfl (by rw [if_neg (by omega)]) (.c 0 rfl .n)))), by omega, rfl, by omega, HC0⟩ ?_;clear fg fb;intro m14 fa u hI Kl14 hKl14;obtain ⟨k, j2, a, fh, hkm, hkj, hak, HC⟩ := hI;clear hm2 hc2 hp2 HC0
      by_cases hlt2 : k < m2
      · have hik : i + k < l.length := by have := HM.out.1; have := HL.out; omega
        obtain ⟨ca1, ca2⟩ := HC.out.at hik;obtain ⟨cb1, cb2⟩ := HC.out.prev hkj hik;rw [← HM.out.2.1] at ca1 ca2 cb1 cb2;obtain ⟨x3, hx3⟩ : ∃ x, (ed l (i + k)).1 = x := ⟨_, rfl⟩;obtain ⟨x4, hx4⟩ : ∃ x, (ed l (i + k)).2 = x := ⟨_, rfl⟩;obtain ⟨y3, hy3⟩ : ∃ x, (ed l (i + j2)).1 = x := ⟨_, rfl⟩;obtain ⟨y4, hy4⟩ : ∃ x, (ed l (i + j2)).2 = x := ⟨_, rfl⟩;rw [hx3] at ca1;rw [hx4] at ca2;rw [hy3] at cb1;rw [hy4] at cb2;have HX2 : Hid (ed l (i + k) = (x3, x4)) := Lib.hid (by rw [← hx3, ← hx4]);have HY2 : Hid (ed l (i + k - 1) = (y3, y4)) := Lib.hid (by rw [← hy3, ← hy4, show i + k - 1 = i + j2 by omega]);clear hx3 hx4 hy3 hy4;have qs : (k : Int) - 1 = (j2 : Int) := by omega
        have hj2 : j2 < m2 := by omega
        have HIK := Lib.hid hik;have HKJ := Lib.hid hkj;clear hik hkj
        revert fa
        refine Kn.Z.q fun K15 hK15=>?_;refine Kn.Z.f fun K16 hK16=>?_;refine Kn.Z.u (.m (.t rfl) (.m (.t rfl) .n)) ?_;refine Kn.Z.s .o (.len (.t rfl)) fun Ko Kp=>?_;go_simp;(try go_bits);refine Kp _ _ ?_;clear Kp Ko;refine Kn.Z.s .o (.bin (.t rfl) (.t rfl)) fun Ko Kp=>?_;go_simp;(try go_bits);refine Kp _ _ ?_;clear Kp Ko;refine Kn.Z.e hK16 ?_;clear hK16 K16;refine Kn.Z.t (.c 32 rfl (.c 5 rfl (.c 3 rfl (.c 4 rfl (.c 0 rfl .n))))) ?_;refine Kn.Z.y (.t rfl) ?_;refine Kn.Z.j hK15 ?_;clear hK15 K15;refine Kn.Z.q fun K17 hK17=>?_;refine Kn.Z.b ?_
        by_cases e2 : (x3, x4) = (y3, y4)
        · have q2 : (!decide ((x3, x4) = (y3, y4))) = false := by simp only [e2, decide_true, Bool.not_true]
          have HC2 : Hid (CI w u.drew g l i (k + 1) a) := Lib.hid (HC.out.drew.same (by have := HKJ.out; omega) (by rw [HX2.out, HY2.out, e2]));clear e2;refine Kn.Z.q fun K18 hK18=>?_;refine Kn.Z.st (by kernel_rfl) (by kernel_rfl) ?_;refine Kn.Z.us (.m (.t rfl) (.m (.t rfl) .n)) ?_;refine Kn.Z.ss .o (.indexAddr (.t rfl) (.t rfl)) fun Ko Kp=>?_;go_simp;(try go_bits);refine Kp _ ?_;clear Kp Ko;refine Kn.Z.ss .o (.load (.t rfl)) fun Ko Kp=>?_;go_simp;(try go_bits);refine Kp _ ?_;clear Kp Ko;refine Kn.Z.us (.m (.t rfl) (.m (.t rfl) .n)) ?_;refine Kn.Z.ss .o (.bin (.t rfl) .c) fun Ko Kp=>?_;go_simp;(try go_bits);refine Kp _ ?_;clear Kp Ko;refine Kn.Z.ss .o (.indexAddr (.t rfl) (.t rfl)) fun Ko Kp=>?_;go_simp;(try go_bits);refine Kp _ ?_;clear Kp Ko;refine Kn.Z.ss .o (.load (.t rfl)) fun Ko Kp=>?_;go_simp;(try go_bits);refine Kp _ ?_;clear Kp Ko;refine Kn.Z.ss .o (.bin (.t rfl) (.t rfl)) fun Ko Kp=>?_;rw [neqE, q2];refine Kp _ ?_;clear Kp Ko;refine Kn.Z.se hK18 ?_;clear hK18 K18;refine Kn.Z.t (.c 44 rfl (.c 5 rfl (.c 3 rfl (.c 4 rfl (.c 0 rfl .n))))) ?_;refine Kn.Z.no (.t rfl) ?_;intro fa fh;refine wp_skip ?_;refine Kn.block_normal ?_;refine hK17 _ _ ?_;clear hK17 K17
          revert fa
          refine Kn.Z.r ?_;refine Kn.Z.u (.m (.t rfl) .n) ?_;refine Kn.Z.s .o (.bin (.t rfl) .c) fun Ko Kp=>?_;go_simp;(try go_bits);refine Kp _ _ ?_;clear Kp Ko;refine Kn.Z.u (.a (.t rfl) .n) ?_;intro fb fg;refine wpList_nil ?_;replace fg := fg.cut (.c 5 rfl (.c 3 rfl (.c 4 rfl (.c 0 rfl .n))));exact hKl14 (m14 - 1) _ _ (by omega) ⟨k + 1, k, a, fg.cut (.u 5 rfl (by go_num) (.c 3 rfl (.c 4 rfl (.c 0 rfl .n)))), by omega, rfl, by omega, HC2⟩
        · have q2 : (!decide ((x3, x4) = (y3, y4))) = true := by simp only [e2, decide_false, Bool.not_false]
          obtain ⟨u2, hst, hC2⟩ := HC.out.drew.store hak HIK.out HX2.out (by rw [HX2.out, HY2.out]; exact e2);have HC2 := Lib.hid hC2;have han : a < n := by have := HIK.out; have := HL.out; omega
          clear e2 hC2;refine Kn.Z.q fun K18 hK18=>?_;refine Kn.Z.st (by kernel_rfl) (by kernel_rfl) ?_;refine Kn.Z.us (.m (.t rfl) (.m (.t rfl) .n)) ?_;refine Kn.Z.ss .o (.indexAddr (.t rfl) (.t rfl)) fun Ko Kp=>?_;go_simp;(try go_bits);refine Kp _ ?_;clear Kp Ko;refine Kn.Z.ss .o (.load (.t rfl)) fun Ko Kp=>?_;go_simp;(try go_bits);refine Kp _ ?_;clear Kp Ko;refine Kn.Z.us (.m (.t rfl) (.m (.t rfl) .n)) ?_;refine Kn.Z.ss .o (.bin (.t rfl) .c) fun Ko Kp=>?_;go_simp;(try go_bits);refine Kp _ ?_;clear Kp Ko;refine Kn.Z.ss .o (.indexAddr (.t rfl) (.t rfl)) fun Ko Kp=>?_;go_simp;(try go_bits);refine Kp _ ?_;clear Kp Ko;refine Kn.Z.ss .o (.load (.t rfl)) fun Ko Kp=>?_;go_simp;(try go_bits);refine Kp _ ?_;clear Kp Ko;refine Kn.Z.ss .o (.bin (.t rfl) (.t rfl)) fun Ko Kp=>?_;rw [neqE, q2];refine Kp _ ?_;clear Kp Ko;refine Kn.Z.se hK18 ?_;clear hK18 K18;refine Kn.Z.t (.c 44 rfl (.c 5 rfl (.c 3 rfl (.c 4 rfl (.c 0 rfl .n))))) ?_;refine Kn.Z.y (.t rfl) ?_;refine Kn.Z.f fun K19 hK19=>?_;refine Kn.Z.u (.m (.t rfl) (.m (.t rfl) (.m (.t rfl) (.m (.t rfl) .n)))) ?_;refine Kn.Z.s .o (.indexAddr (.t rfl) (.t rfl)) fun Ko Kp=>?_;go_simp;(try go_bits);refine Kp _ _ ?_;clear Kp Ko;refine Kn.Z.s .o (.load (.t rfl)) fun Ko Kp=>?_;go_simp;(try go_bits);refine Kp _ _ ?_;clear Kp Ko;refine Kn.Z.s .o (.indexAddr (.t rfl) (.t rfl)) fun Ko Kp=>?_;go_simp;(try go_bits);refine Kp _ _ ?_;clear Kp Ko;refine Kn.Z.su .o (.store (.t rfl) (.t rfl)) fun Ko Kp=>?_;rw [hst];refine Kp _ ?_;clear Kp Ko;refine Kn.Z.e hK19 ?_;clear hK19 K19;clear hst q2;refine Kn.Z.r ?_;refine Kn.Z.u (.m (.t rfl) .n) ?_;refine Kn.Z.s .o (.bin (.t rfl) .c) fun Ko Kp=>?_;go_simp;(try go_bits);refine Kp _ _ ?_;clear Kp Ko;refine Kn.Z.u (.a (.t rfl) .n) ?_;intro fa fh;refine wpList_nil ?_;refine Kn.block_normal ?_;refine hK17 _ _ ?_;clear hK17 K17
          revert fa
          refine Kn.Z.t (.c 3 rfl (.c 5 rfl (.c 4 rfl (.c 0 rfl .n)))) ?_;refine Kn.Z.r ?_;refine Kn.Z.u (.m (.t rfl) .n) ?_;refine Kn.Z.s .o (.bin (.t rfl) .c) fun Ko Kp=>?_;go_simp;(try go_bits);refine Kp _ _ ?_;clear Kp Ko;refine Kn.Z.u (.a (.t rfl) .n) ?_;intro fb fg;refine wpList_nil ?_;replace fg := fg.cut (.c 5 rfl (.c 3 rfl (.c 4 rfl (.c 0 rfl .n))));exact hKl14 (m14 - 1) _ _ (by omega) ⟨k + 1, k, a + 1, fg.cut (.u 5 rfl (by go_num) (.u 3 rfl (by go_num) (.c 4 rfl (.c 0 rfl .n)))), by omega, rfl, by omega, HC2⟩
      · have hkm2 : i + k = l.length := by have := HM.out.1; have := HL.out; omega
        have han : a < l.length := by omega
        obtain ⟨u2, hcl, hH2, hB2⟩ := HC.out.clear han (cap - a) 0;have HLN := Lib.hid (HC.out.len (Nat.le_of_lt han));rw [hkm2] at HLN;rw [hkm2] at hH2;have hl := HL.out;rw [← hl] at hcl hH2 HLN han;have HH2 := Lib.hid hH2;have HB2 := Lib.hid hB2;have hsl := sliceLE g n cap a u (by omega) hcap (by omega) (by omega);have hac : a ≤ cap := by omega
        clear hl hkm2 hH2 hB2 hkj;obtain rfl : k = m2 := by omega
        revert fa
        refine Kn.Z.q fun K15 hK15=>?_;refine Kn.Z.f fun K16 hK16=>?_;refine Kn.Z.u (.m (.t rfl) (.m (.t rfl) .n)) ?_;refine Kn.Z.s .o (.len (.t rfl)) fun Ko Kp=>?_;go_simp;(try go_bits);refine Kp _ _ ?_;clear Kp Ko;refine Kn.Z.s .o (.bin (.t rfl) (.t rfl)) fun Ko Kp=>?_;go_simp;(try go_bits);refine Kp _ _ ?_;clear Kp Ko;refine Kn.Z.e hK16 ?_;clear hK16 K16;refine Kn.Z.t (.c 32 rfl (.c 5 rfl (.c 3 rfl (.c 4 rfl (.c 0 rfl .n))))) ?_;refine Kn.Z.no (.t rfl) ?_;intro fa fh;refine wp_exit ?_;refine Kn.then_exit ?_;clear hK15 K15;refine Kn.then_exit ?_;clear hKl14 Kl14;refine Kn.block_exit ?_;refine hK12 _ _ ?_;clear hK12 K12
        revert fa
        refine Kn.Z.f fun K17 hK17=>?_;refine Kn.Z.u (.m (.t rfl) (.m (.t rfl) .n)) ?_;refine Kn.Z.k .o (.sliceL (.t rfl) (.t rfl)) hsl ?_;intro fb fg;refine Kn.known0 fg rfl .none (Kn.ex_clear fg (.cons (.t rfl) .nil)) hcl ?_
        revert fb
        refine Kn.Z.e hK17 ?_;clear hK17 K17;clear hsl hcl;refine Kn.Z.f fun K18 hK18=>?_;refine Kn.Z.u (.m (.t rfl) (.m (.t rfl) .n)) ?_;refine Kn.Z.s .o (.sliceH (.t rfl) (.t rfl)) fun Ko Kp=>?_;go_simp;(try go_bits);refine Kp _ _ ?_;clear Kp Ko;refine Kn.Z.u (.a (.t rfl) .n) ?_;refine Kn.Z.e hK18 ?_;clear hK18 K18;intro fb fg;refine wp_ret ?_;refine Kn.block_ret ?_;refine Kn.then_ret ?_;refine Kn.then_ret ?_;refine Kn.block_ret ?_;refine Kn.then_ret ?_;exact Kn.ret1 fg rfl rfl ⟨_, _, HLN.out, rfl, HH2.out, HB2.out⟩
    · have q1 : decide ((x1, x2) = (y1, y2)) = false := decide_eq_false e1;have HE : Hid (ddk l (i + 1) = l.take (i + 1)) := Lib.hid (by have := HIJ.out; have hl := HL.out; rw [ddk_more l i (.inr (by rw [show i - 1 = j by omega, HX.out, HY.out]; exact e1)), HD.out, take_ed l i (by omega)]);clear e1;refine Kn.Z.q fun K10 hK10=>?_;refine Kn.Z.st (by kernel_rfl) (by kernel_rfl) ?_;refine Kn.Z.us (.m (.t rfl) (.m (.t rfl) .n)) ?_;refine Kn.Z.ss .o (.indexAddr (.t rfl) (.t rfl)) fun Ko Kp=>?_;go_simp;(try go_bits);refine Kp _ ?_;clear Kp Ko;refine Kn.Z.ss .o (.load (.t rfl)) fun Ko Kp=>?_;go_simp;(try go_bits);refine Kp _ ?_;clear Kp Ko;refine Kn.Z.us (.m (.t rfl) (.m (.t rfl) .n)) ?_;refine Kn.Z.ss .o (.bin (.t rfl) .c) fun Ko Kp=>?_;go_simp;(try go_bits);refine Kp _ ?_;clear Kp Ko;refine Kn.Z.ss .o (.indexAddr (.t rfl) (.t rfl)) fun Ko Kp=>?_;go_simp;(try go_bits);refine Kp _ ?_;clear Kp Ko;refine Kn.Z.ss .o (.load (.t rfl)) fun Ko Kp=>?_;go_simp;(try go_bits);refine Kp _ ?_;clear Kp Ko;refine Kn.Z.ss .o (.bin (.t rfl) (.t rfl)) fun Ko Kp=>?_;rw [eqlE, q1];refine Kp _ ?_;clear Kp Ko;refine Kn.Z.se hK10 ?_;clear hK10 K10;refine Kn.Z.t (.c 25 rfl (.c 3 rfl (.c 0 rfl .n))) ?_;refine Kn.Z.no (.t rfl) ?_;intro fa fh;refine wp_skip ?_;refine Kn.block_normal ?_;refine hK9 _ _ ?_;clear hK9 K9
      revert fa
      refine Kn.Z.r ?_;refine Kn.Z.u (.m (.t rfl) .n) ?_;refine Kn.Z.s .o (.bin (.t rfl) .c) fun Ko Kp=>?_;go_simp;(try go_bits);refine Kp _ _ ?_;clear Kp Ko;refine Kn.Z.u (.a (.t rfl) .n) ?_;intro fb fg;refine wpList_nil ?_;replace fg := fg.cut (.c 3 rfl (.c 0 rfl .n));exact hKl6 (m6 - 1) _ _ (by omega) ⟨i + 1, i, q + 1, fg.cut (.u 3 rfl (by go_num) (.c 0 rfl .n)), by omega, rfl, HE, rfl⟩
  · obtain rfl : i = n := by omega
    revert fa
    refine Kn.Z.q fun K7 hK7=>?_;refine Kn.Z.f fun K8 hK8=>?_;refine Kn.Z.u (.m (.t rfl) (.m (.t rfl) .n)) ?_;refine Kn.Z.s .o (.len (.t rfl)) fun Ko Kp=>?_;go_simp;(try go_bits);refine Kp _ _ ?_;clear Kp Ko;refine Kn.Z.s .o (.bin (.t rfl) (.t rfl)) fun Ko Kp=>?_;go_simp;(try go_bits);refine Kp _ _ ?_;clear Kp Ko;refine Kn.Z.e hK8 ?_;clear hK8 K8;refine Kn.Z.t (.c 13 rfl (.c 3 rfl (.c 0 rfl .n))) ?_;refine Kn.Z.no (.t rfl) ?_;intro fa fh;refine wp_exit ?_;refine Kn.then_exit ?_;clear hK7 K7;refine Kn.then_exit ?_;clear hKl6 Kl6;refine Kn.block_exit ?_;refine hK4 _ _ ?_;clear hK4 K4
    revert fa
    refine Kn.Z.f fun K9 hK9=>?_;refine Kn.Z.u (.m (.t rfl) (.a (.t rfl) .n)) ?_;refine Kn.Z.e hK9 ?_;clear hK9 K9;intro fa fh;refine wp_ret ?_;exact Kn.ret1 fh rfl rfl ⟨i, cap, by have hl := HL.out; rw [HD.out, hl, List.take_length], rfl, by rw [HD.out]; exact (HH.out.take _), below_drewN _ _ _⟩
end Go.Proofs.YtchdlgdmomcemaaGreatDoor.Edg
end
section
namespace Go.Proofs.YtchdlgdmomcemaaGreatDoor.Edg
open Go Go.RowKit Go.Lib
set_option maxRecDepth 100000 in
set_option maxHeartbeats 2000000 in
theorem norm_bad (n p c : Int) (A : Option Addr) (m ca : Nat) (w : World) (hck : Calls Tryz.prog 60 #[.int .i64 n, .slice A m ca] w fun e w' => e = .returned (faultV p c) ∧ Below w.heap.size w w') :
    Calls Tryz.prog 34 #[.int .i64 n, .slice A m ca] w fun e w' => e = .returned (.tuple #[.slice none 0 0, faultV p c]) ∧ Below w.heap.size w w' := by
  unfold faultV at *;refine Kn.Z.cl Tryz.func34 rfl Tryz.ntmps34 rfl (.c 0 rfl (.c 1 rfl .n)) ?_;refine Kn.Z.f fun K1 hK1=>?_;refine Kn.Z.u (.a .c (.a .c .n)) ?_;refine Kn.Z.e hK1 ?_;clear hK1 K1;refine Kn.Z.q fun K2 hK2=>?_;refine Kn.Z.f fun K3 hK3=>?_;refine Kn.Z.u (.m (.t rfl) (.m (.t rfl) .n)) ?_;refine Kn.Z.c .o (.call (.c (.t rfl) (.c (.t rfl) .n))) Tryz.call60 (hck) fun e w1 hp=>?_;obtain ⟨rfl, hb⟩ := hp;refine ⟨_,rfl,?_⟩;refine Kn.Z.u (.a (.t rfl) .n) ?_;refine Kn.Z.e hK3 ?_;clear hK3 K3;refine Kn.Z.f fun K4 hK4=>?_;refine Kn.Z.u (.m (.t rfl) .n) ?_;refine Kn.Z.s .o (.bin (.t rfl) .c) fun Ko Kp=>?_;go_simp;(try go_bits);refine Kp _ _ ?_;clear Kp Ko;refine Kn.Z.e hK4 ?_;clear hK4 K4;refine Kn.Z.y (.t rfl) ?_;refine Kn.Z.f fun K5 hK5=>?_;refine Kn.Z.u (.m (.t rfl) (.a .c (.a (.t rfl) .n))) ?_;refine Kn.Z.e hK5 ?_;clear hK5 K5;refine Kn.Z.t (.c 5 rfl (.c 4 rfl (.c 1 rfl .n))) ?_;intro fb fg;refine wp_ret ?_;refine Kn.then_ret ?_;exact Kn.ret2 fg rfl rfl rfl ⟨rfl, hb⟩
def RowS (w : World) (B : Nat) (A : Option Addr) (n c : Nat) (l : List (Int × Int)) : Prop := n = l.length ∧ n ≤ c ∧ c ≤ maxLen ∧ ((A = none ∧ l = []) ∨ ∃ g, A = some ⟨g, 0, none⟩ ∧ B ≤ g ∧ g < w.heap.size ∧ HoldE w g l)
theorem rowS_of_own {w : World} {B n c : Nat} {A : Option Addr} {l : List (Int × Int)} (h : OwnE w B A n c l) : RowS w B A n c l := by
  have h' := h;obtain ⟨hn, hl, hr⟩ := h';rcases hr with ⟨hv, hz⟩ | ⟨g', cap', cur, hv, hB, hg, hle, hm, hs, ht⟩
  · simp only [Value.slice.injEq] at hv;obtain ⟨rfl, rfl, rfl⟩ := hv;exact ⟨hn, Nat.le_refl _, Nat.zero_le _, .inl ⟨rfl, List.eq_nil_of_length_eq_zero hn.symm⟩⟩
  · simp only [Value.slice.injEq] at hv;obtain ⟨rfl, _, rfl⟩ := hv;exact ⟨hn, hle, hm, .inr ⟨g', rfl, hB, (Array.getElem?_eq_some_iff.1 hg).1, hold_of_own h⟩⟩
theorem sort_row (B n c : Nat) (A : Option Addr) (l : List (Int × Int)) (w : World) (h : RowS w B A n c l) (hl : l.length ≤ 20000) :
    Calls Tryz.prog 62 #[.slice A n c, .func (.func 63) #[] #[]] w fun e w' => e = .returned (.tuple #[]) ∧ ∃ s, WSrt s ∧ (∀ e, e ∈ s ↔ e ∈ l) ∧ s.length ≤ 20000 ∧ RowS w' B A n c s ∧ Below B w w' := by
  obtain ⟨rfl, hnc, hcm, ⟨rfl, rfl⟩ | ⟨g, rfl, hB, hg, hH⟩⟩ := h
  · exact (AnyF.slices_SortFunc_none Tryz.laySort none c _ w).mono fun e w' ⟨he, hw⟩ => ⟨he, [], fun i j _ hj => absurd hj (by simp), fun e => Iff.rfl, by simp, by subst hw; exact ⟨rfl, hnc, hcm, .inl ⟨rfl, rfl⟩⟩, by subst hw; exact Below.refl _ _⟩
  · refine (sort_any g c l w hH hg hl).mono fun e w' hp => ?_;obtain ⟨he, s, hs1, hs2, hs3, hs4, hs5, hs6⟩ := hp;exact ⟨he, s, hs2, hs3, by omega, ⟨hs1.symm, hnc, hcm, .inr ⟨g, rfl, hB, hs6, hs4⟩⟩, hs5.mono hB⟩
theorem compact_row (B n c : Nat) (A : Option Addr) (l : List (Int × Int)) (w : World) (h : RowS w B A n c l) (hl : l.length ≤ 20000) :
    Calls Tryz.prog 64 #[.slice A n c] w fun e w' => ∃ n' c', n' = (ddk l l.length).length ∧ e = .returned (.slice A n' c') ∧ EIn w' A (ddk l l.length) ∧ Below B w w' := by
  obtain ⟨rfl, hnc, hcm, hr⟩ := h
  have hE : EIn w A l := by
    rcases hr with ⟨rfl, rfl⟩ | ⟨g, rfl, hB, hg, hH⟩
    · exact EIn.nil _ _
    · exact hH.ein
  rcases Nat.lt_or_ge l.length 2 with h2 | h2
  · have hd : ddk l l.length = l := by
      rcases (show l.length = 0 ∨ l.length = 1 by omega) with h0 | h0
      · rw [h0, List.eq_nil_of_length_eq_zero h0]; rfl
      · rw [h0, ddk_one l (by omega), List.take_of_length_le (by omega)]
    exact (compact_few A l.length c w (by omega) h2).mono fun e w' ⟨he, hw⟩ => ⟨l.length, c, by rw [hd], he, by rw [hd, ← hw]; exact hE, by rw [← hw]; exact Below.refl _ _⟩
  · rcases hr with ⟨rfl, rfl⟩ | ⟨g, rfl, hB, hg, hH⟩
    · simp at h2
    · refine (compact_any g l.length c l w rfl h2 hnc hcm hH hl).mono fun e w' hp => ?_;obtain ⟨n', c', h1, h3, h4, h5⟩ := hp;exact ⟨n', c', h1, h3, h4.ein, h5.mono hB⟩
set_option maxRecDepth 100000 in
set_option maxHeartbeats 2000000 in
theorem norm_ok (n : Int) (A : Option Addr) (ca : Nat) (xs : List (Int × Int)) (w : World) (hx : xs.length ≤ 20000) (hA : EIn w A xs) (hck : Calls Tryz.prog 60 #[.int .i64 n, .slice A xs.length ca] w fun e w' => e = .returned .nilIface ∧ Below w.heap.size w w') :
    Calls Tryz.prog 34 #[.int .i64 n, .slice A xs.length ca] w fun e w' => ∃ A' n' c' ys, e = .returned (.tuple #[.slice A' n' c', .nilIface]) ∧ n' = ys.length ∧ NormOf xs ys ∧ EIn w' A' ys ∧ Below w.heap.size w w' := by
  refine Kn.Z.cl Tryz.func34 rfl Tryz.ntmps34 rfl (.c 0 rfl (.c 1 rfl .n)) ?_;refine Kn.Z.f fun K1 hK1=>?_;refine Kn.Z.u (.a .c (.a .c .n)) ?_;refine Kn.Z.e hK1 ?_;clear hK1 K1;refine Kn.Z.q fun K2 hK2=>?_;refine Kn.Z.f fun K3 hK3=>?_;refine Kn.Z.u (.m (.t rfl) (.m (.t rfl) .n)) ?_;refine Kn.Z.c .o (.call (.c (.t rfl) (.c (.t rfl) .n))) Tryz.call60 (hck) fun e w1 hp=>?_;obtain ⟨rfl, hb1⟩ := hp;refine ⟨_,rfl,?_⟩;refine Kn.Z.u (.a (.t rfl) .n) ?_;refine Kn.Z.e hK3 ?_;clear hK3 K3;refine Kn.Z.f fun K4 hK4=>?_;refine Kn.Z.u (.m (.t rfl) .n) ?_;refine Kn.Z.s .o (.bin (.t rfl) .c) fun Ko Kp=>?_;go_simp;(try go_bits);refine Kp _ _ ?_;clear Kp Ko;refine Kn.Z.e hK4 ?_;clear hK4 K4;refine Kn.Z.no (.t rfl) ?_;refine Kn.Z.j hK2 ?_;clear hK2 K2;have HA1 := Lib.hid (hA.on hb1);have HB1 := Lib.hid hb1;clear hA hb1 hck;refine Kn.Z.f fun K5 hK5=>?_;refine Kn.Z.u (.m (.t rfl) .n) ?_;refine Kn.Z.c .o (.call (.c (.t rfl) .n)) Tryz.call61 (clone_any A ca xs w1 hx HA1.out) fun e w2 hp=>?_;obtain ⟨A', n', c', rfl, hO, hb2⟩ := hp;refine ⟨_,rfl,?_⟩;refine Kn.Z.u (.a (.t rfl) .n) ?_;refine Kn.Z.e hK5 ?_;clear hK5 K5;refine Kn.Z.t (.c 7 rfl (.c 5 rfl (.c 4 rfl .n))) ?_;have HR2 := Lib.hid (rowS_of_own hO);have HB2 := Lib.hid hb2;clear hO hb2;refine Kn.Z.f fun K6 hK6=>?_;refine Kn.Z.u (.m (.t rfl) .n) ?_;refine Kn.Z.c .o (.call (.c (.t rfl) (.c .func .n))) Tryz.call62 (sort_row w1.heap.size n' c' A' xs w2 HR2.out hx) fun e w3 hp=>?_;obtain ⟨rfl, s, hs1, hs2, hs3, hR3, hb3⟩ := hp;refine ⟨_,rfl,?_⟩;refine Kn.Z.e hK6 ?_;clear hK6 K6;have HR3 := Lib.hid hR3;have HS := Lib.hid (And.intro hs1 hs2);have HB3 := Lib.hid hb3;clear hR3 hs1 hs2 hb3;refine Kn.Z.f fun K7 hK7=>?_;refine Kn.Z.u (.m (.t rfl) .n) ?_;refine Kn.Z.c .o (.call (.c (.t rfl) .n)) Tryz.call64 (compact_row w1.heap.size n' c' A' s w3 HR3.out hs3) fun e w4 hp=>?_;obtain ⟨n2, c2, hn2, rfl, hE4, hb4⟩ := hp;refine ⟨_,rfl,?_⟩;refine Kn.Z.u (.a (.t rfl) (.a .c .n)) ?_;refine Kn.Z.e hK7 ?_;clear hK7 K7;intro fb fg;refine wp_ret ?_;exact Kn.ret2 fg rfl rfl rfl ⟨_, _, _, _, rfl, hn2, ddk_norm s xs HS.out.1 HS.out.2, hE4, HB1.out.trans (((HB2.out.trans HB3.out).trans hb4).mono HB1.out.size)⟩
end Go.Proofs.YtchdlgdmomcemaaGreatDoor.Edg
end
section
namespace Go.Proofs.YtchdlgdmomcemaaGreatDoor.Edg
open Go Go.RowKit Go.Lib
def firstBad (n : Int) (xs : List (Int × Int)) : Nat := xs.findIdx (badB n)
theorem firstBad_good (n : Int) (xs : List (Int × Int)) (i : Nat) (h : i < firstBad n xs) : badB n (ed xs i) = false := by
  have hl : i < xs.length := Nat.lt_of_lt_of_le h List.findIdx_le_length;rw [ed_at xs i hl];have := List.not_of_lt_findIdx h
  simpa using this
theorem firstBad_bad (n : Int) (xs : List (Int × Int)) (h : firstBad n xs < xs.length) : badB n (ed xs (firstBad n xs)) = true := by
  rw [ed_at _ _ h]; exact List.findIdx_getElem (w := h)
structure Good (n : Int) (xs : List (Int × Int)) : Prop where
  lo : 0 ≤ n
  hi : n ≤ 4096
  len : xs.length ≤ 20000
  all : ∀ e ∈ xs, badB n e = false
def wrongP (n : Int) (xs : List (Int × Int)) : Int := if n < 0 then -1 else if 4096 < n then -1 else if 20000 < xs.length then 20000 else if firstBad n xs < xs.length then (firstBad n xs : Int) else -2
theorem wrongP_good (n : Int) (xs : List (Int × Int)) : wrongP n xs = -2 ↔ Good n xs := by
  unfold wrongP
  constructor
  · intro h
    split at h
    · omega
    split at h
    · omega
    split at h
    · omega
    split at h
    · omega
    refine ⟨by omega, by omega, by omega, fun e he => ?_⟩;obtain ⟨i, hi, rfl⟩ := List.getElem_of_mem he;have := firstBad_good n xs i (by omega)
    rwa [ed_at _ _ hi] at this
  · intro h;have h1 := h.lo;have h2 := h.hi;have h3 := h.len;rw [if_neg (by omega), if_neg (by omega), if_neg (by omega), if_neg];intro hf;have := firstBad_bad n xs hf;rw [ed_at _ _ hf, h.all _ (List.getElem_mem _)] at this;cases this
theorem check_p (n : Int) (A : Option Addr) (ca : Nat) (xs : List (Int × Int)) (w : World) (hA : EIn w A xs) :
    Calls Tryz.prog 60 #[.int .i64 n, .slice A xs.length ca] w fun e w' => e = .returned (if wrongP n xs = -2 then .nilIface else faultV (wrongP n xs) 10) ∧ Below w.heap.size w w' := by
  by_cases h1 : n < 0
  · exact (check_neg n A ca xs w h1).mono fun e w' ⟨he, hw⟩ => ⟨by rw [he, wrongP, if_pos h1]; rfl, hw ▸ Below.refl _ _⟩
  by_cases h2 : 4096 < n
  · exact (check_big n A ca xs w h1 h2).mono fun e w' ⟨he, hw⟩ => ⟨by rw [he, wrongP, if_neg h1, if_pos h2]; rfl, hw ▸ Below.refl _ _⟩
  by_cases h3 : 20000 < xs.length
  · exact (check_long n A ca xs w h1 h2 (by omega) h3).mono fun e w' ⟨he, hw⟩ => ⟨by rw [he, wrongP, if_neg h1, if_neg h2, if_pos h3]; rfl, hw ▸ Below.refl _ _⟩
  refine (check_any n A ca (firstBad n xs) xs w h1 h2 h3 hA (firstBad_good n xs) (firstBad_bad n xs)).mono fun e w' ⟨he, hw⟩ => ⟨?_, hw⟩;rw [he, wrongP, if_neg h1, if_neg h2, if_neg h3]
  split
  · rw [if_neg (by omega)]
  · rw [if_pos rfl]
theorem check_yes (n : Int) (A : Option Addr) (ca : Nat) (xs : List (Int × Int)) (w : World) (hA : EIn w A xs) (hg : Good n xs) :
    Calls Tryz.prog 60 #[.int .i64 n, .slice A xs.length ca] w fun e w' => e = .returned .nilIface ∧ Below w.heap.size w w' := by
  have := check_p n A ca xs w hA
  rwa [if_pos ((wrongP_good n xs).2 hg)] at this
theorem check_no (n : Int) (A : Option Addr) (ca : Nat) (xs : List (Int × Int)) (w : World) (hA : EIn w A xs) (hg : ¬ Good n xs) :
    Calls Tryz.prog 60 #[.int .i64 n, .slice A xs.length ca] w fun e w' => e = .returned (faultV (wrongP n xs) 10) ∧ Below w.heap.size w w' := by
  have := check_p n A ca xs w hA
  rwa [if_neg (fun h => hg ((wrongP_good n xs).1 h))] at this
theorem norm_yes (n : Int) (A : Option Addr) (ca : Nat) (xs : List (Int × Int)) (w : World) (hA : EIn w A xs) (hg : Good n xs) :
    Calls Tryz.prog 34 #[.int .i64 n, .slice A xs.length ca] w fun e w' => ∃ A' n' c' ys, e = .returned (.tuple #[.slice A' n' c', .nilIface]) ∧ n' = ys.length ∧ NormOf xs ys ∧ EIn w' A' ys ∧ Below w.heap.size w w' :=
  norm_ok n A ca xs w hg.len hA (check_yes n A ca xs w hA hg)
theorem norm_no (n : Int) (A : Option Addr) (ca : Nat) (xs : List (Int × Int)) (w : World) (hA : EIn w A xs) (hg : ¬ Good n xs) :
    Calls Tryz.prog 34 #[.int .i64 n, .slice A xs.length ca] w fun e w' => e = .returned (.tuple #[.slice none 0 0, faultV (wrongP n xs) 10]) ∧ Below w.heap.size w w' :=
  norm_bad n (wrongP n xs) 10 A xs.length ca w (check_no n A ca xs w hA hg)
theorem Good.of {n : Int} {xs ys : List (Int × Int)} (h : Good n xs) (hl : ys.length ≤ 20000) (hm : ∀ e ∈ ys, e ∈ xs) : Good n ys := ⟨h.lo, h.hi, hl, fun e he => h.all e (hm e he)⟩
theorem nodup_len {xs ys : List (Int × Int)} (h : ys.Pairwise (fun a b => a ≠ b)) (hm : ∀ e ∈ ys, e ∈ xs) : ys.length ≤ xs.length := by
  induction ys generalizing xs with
  | nil => exact Nat.zero_le _
  | cons y ys ih =>
    obtain ⟨h1, h2⟩ := List.pairwise_cons.1 h;have hy : y ∈ xs := hm y List.mem_cons_self;have := ih (xs := xs.erase y) h2 (fun e he => (List.mem_erase_of_ne (fun h' => h1 e he h'.symm)).2 (hm e (List.mem_cons_of_mem _ he)));rw [List.length_erase_of_mem hy] at this;have := List.length_pos_of_mem hy;simp only [List.length_cons];omega
theorem NormOf.apart {xs ys : List (Int × Int)} (h : NormOf xs ys) : ys.Pairwise (fun a b => a ≠ b) := List.Pairwise.imp (fun {a b} hl he => by subst he; rw [less_irr] at hl; cases hl) h.srt
theorem NormOf.len {xs ys : List (Int × Int)} (h : NormOf xs ys) : ys.length ≤ xs.length := nodup_len h.apart fun e he => (h.mem e).1 he
theorem NormOf.good {n : Int} {xs ys : List (Int × Int)} (h : NormOf xs ys) (hg : Good n xs) : Good n ys := hg.of (Nat.le_trans h.len hg.len) fun e he => (h.mem e).1 he
end Go.Proofs.YtchdlgdmomcemaaGreatDoor.Edg
end
section
namespace Go.Proofs.YtchdlgdmomcemaaGreatDoor.Csr
open Edg Num
theorem cnt_at {α : Type} (p : α → Bool) : ∀ (l : List α), l.Pairwise (fun a b => p b = true → p a = true) → ∀ i (h : i < l.length), p l[i] = decide (i < l.countP p)
  | [], _, i, h => by simp at h
  | a :: l, hp, i, h => by
    obtain ⟨h1, h2⟩ := List.pairwise_cons.1 hp
    by_cases ha : p a = true
    · rw [List.countP_cons, if_pos ha]
      cases i with
      | zero => simp [ha]
      | succ i =>
        have := cnt_at p l h2 i (by simpa using h);rw [List.getElem_cons_succ, this];simp
    · have h0 : (a :: l).countP p = 0 := by
        rw [List.countP_eq_zero];intro b hb;rcases List.mem_cons.1 hb with rfl | hb
        · exact ha
        · exact fun hpb => ha (h1 b hb hpb)
      rw [h0]
      have : ¬ p ((a :: l)[i]) = true := by
        have hm : (a :: l)[i] ∈ a :: l := List.getElem_mem h;exact (List.countP_eq_zero.1 h0) _ hm
      simp only [Bool.not_eq_true] at this;rw [this];simp
theorem bgn_at {ys : List (Int × Int)} (hs : Srt ys) (v : Int) (i : Nat) (h : i < ys.length) : (ed ys i).1 < v ↔ i < bgn ys v := by
  have := cnt_at (fun e : Int × Int => decide (e.1 < v)) ys (List.Pairwise.imp (fun {a b} hl hb => by
    rw [less_iff] at hl;simp only [decide_eq_true_eq] at hb ⊢
    omega) hs) i h
  rw [ed_at ys i h];simp only [decide_eq_decide] at this;exact this
theorem bgn_next (ys : List (Int × Int)) (v : Int) : bgn ys (v + 1) = bgn ys v + (trg ys v).length := by
  unfold bgn trg;rw [List.length_map, ← List.countP_eq_length_filter]
  induction ys with
  | nil => rfl
  | cons e ys ih =>
    rw [List.countP_cons, List.countP_cons, List.countP_cons, ih]
    have : (if decide (e.1 < v + 1) = true then 1 else 0) = (if decide (e.1 < v) = true then 1 else 0) + (if (e.1 == v) = true then 1 else 0) := by
      simp only [decide_eq_true_eq, beq_iff_eq]
      by_cases h1 : e.1 = v
      · rw [if_pos (by omega), if_neg (by omega), if_pos h1]
      · rw [if_neg h1, Nat.add_zero]
        by_cases h2 : e.1 < v
        · rw [if_pos h2, if_pos (by omega)]
        · rw [if_neg h2, if_neg (by omega)]
    omega
theorem bgn_mono (ys : List (Int × Int)) (v : Int) : bgn ys v ≤ bgn ys (v + 1) := by rw [bgn_next]; omega
theorem good_at {N : Int} {ys : List (Int × Int)} (h : Edg.Good N ys) (i : Nat) (hi : i < ys.length) : (0 ≤ (ed ys i).1 ∧ (ed ys i).1 < N) ∧ 0 ≤ (ed ys i).2 ∧ (ed ys i).2 < N := by
  have := (badB_iff _ _).1 (h.all _ (List.getElem_mem hi));rw [ed_at ys i hi];exact this
theorem bgn_0 {N : Int} {ys : List (Int × Int)} (h : Edg.Good N ys) : bgn ys 0 = 0 := by
  unfold bgn;rw [List.countP_eq_zero];intro e he;have := ((badB_iff _ _).1 (h.all e he)).1.1;simp only [decide_eq_true_eq];omega
theorem bgn_N {N : Int} {ys : List (Int × Int)} (h : Edg.Good N ys) : bgn ys N = ys.length := by
  unfold bgn;rw [List.countP_eq_length];intro e he;have := ((badB_iff _ _).1 (h.all e he)).1.2;simp only [decide_eq_true_eq];omega
def tgs (ys : List (Int × Int)) : List Int := ys.map (·.2)
theorem tgs_len (ys : List (Int × Int)) : (tgs ys).length = ys.length := by simp [tgs]
theorem tgs_at (ys : List (Int × Int)) (i : Nat) (h : i < ys.length) : nt (tgs ys) i = (ed ys i).2 := by
  rw [nt_at _ _ (by rw [tgs_len]; exact h), ed_at _ _ h]; simp [tgs]
def bgs (ys : List (Int × Int)) (N : Nat) : List Int := (List.range N).map fun (v : Nat) => (bgn ys (v : Int) : Int)
theorem bgs_len (ys : List (Int × Int)) (N : Nat) : (bgs ys N).length = N := by simp [bgs]
theorem bgs_at (ys : List (Int × Int)) (N i : Nat) (h : i < N) : nt (bgs ys N) i = (bgn ys (i : Int) : Int) := by
  rw [nt_at _ _ (by rw [bgs_len]; exact h)]; simp [bgs]
theorem trg_mid {ys : List (Int × Int)} (hs : Srt ys) (v : Int) : trg ys v = ((tgs ys).drop (bgn ys v)).take (trg ys v).length := by
  have h1 : ∀ i (h : i < ys.length), i < bgn ys v → ys[i].1 < v := fun i h hi => by have := (bgn_at hs v i h).2 hi; rwa [ed_at _ _ h] at this
  have h2 : ∀ i (h : i < ys.length), bgn ys v ≤ i → ¬ ys[i].1 < v := fun i h hi hn => by
    have := (bgn_at hs v i h).1 (by rw [ed_at _ _ h]; exact hn);omega
  have h3 : ∀ i (h : i < ys.length), i < bgn ys (v + 1) → ys[i].1 < v + 1 := fun i h hi => by have := (bgn_at hs (v + 1) i h).2 hi; rwa [ed_at _ _ h] at this
  have h4 : ∀ i (h : i < ys.length), bgn ys (v + 1) ≤ i → ¬ ys[i].1 < v + 1 := fun i h hi hn => by
    have := (bgn_at hs (v + 1) i h).1 (by rw [ed_at _ _ h]; exact hn);omega
  have hn := bgn_next ys v;have hle := bgn_le ys (v + 1)
  have ha : (ys.take (bgn ys v)).filter (fun e => e.1 == v) = [] := by
    rw [List.filter_eq_nil_iff];intro e he;obtain ⟨i, hi, rfl⟩ := List.mem_take_iff_getElem.1 he;have := h1 i (by omega) (by omega);simp only [beq_iff_eq];omega
  have hm : ((ys.drop (bgn ys v)).take (trg ys v).length).filter (fun e => e.1 == v) = (ys.drop (bgn ys v)).take (trg ys v).length := by
    rw [List.filter_eq_self];intro e he;obtain ⟨i, hi, rfl⟩ := List.mem_take_iff_getElem.1 he;rw [List.length_drop] at hi;rw [List.getElem_drop];have a := h2 (bgn ys v + i) (by omega) (by omega);have b := h3 (bgn ys v + i) (by omega) (by omega);simp only [beq_iff_eq];omega
  have hz : (ys.drop (bgn ys (v + 1))).filter (fun e => e.1 == v) = [] := by
    rw [List.filter_eq_nil_iff];intro e he;obtain ⟨i, hi, rfl⟩ := List.mem_drop_iff_getElem.1 he;have := h4 (bgn ys (v + 1) + i) (by omega) (by omega);simp only [beq_iff_eq];omega
  have hsplit : ys = ys.take (bgn ys v) ++ ((ys.drop (bgn ys v)).take (trg ys v).length ++ ys.drop (bgn ys (v + 1))) := by
    conv => lhs; rw [← List.take_append_drop (bgn ys v) ys, ← List.take_append_drop (trg ys v).length (ys.drop (bgn ys v)), List.drop_drop, ← hn]
  have hf : ys.filter (fun e => e.1 == v) = (ys.drop (bgn ys v)).take (trg ys v).length := by
    conv => lhs; rw [hsplit, List.filter_append, List.filter_append, ha, hm, hz]
    simp
  conv => lhs; unfold trg
  rw [hf];unfold tgs;rw [← List.map_drop, ← List.map_take]
theorem trg_at {ys : List (Int × Int)} (hs : Srt ys) (v : Int) (i : Nat) (h : i < (trg ys v).length) : nt (trg ys v) i = nt (tgs ys) (bgn ys v + i) := by
  have hn := bgn_next ys v;have hle := bgn_le ys (v + 1);have hl : bgn ys v + i < (tgs ys).length := by rw [tgs_len]; omega
  rw [nt_at _ _ h, nt_at _ _ hl];have := trg_mid hs v;have e : (trg ys v)[i]? = (((tgs ys).drop (bgn ys v)).take (trg ys v).length)[i]? := by rw [← this]
  rw [List.getElem?_eq_getElem h, List.getElem?_take_of_lt h, List.getElem?_drop, List.getElem?_eq_getElem hl] at e;exact Option.some.inj e
theorem trg_up {ys : List (Int × Int)} (hs : Srt ys) (v : Int) : (trg ys v).Pairwise (· < ·) := by
  unfold trg;rw [List.pairwise_map, List.pairwise_filter];refine List.Pairwise.imp (fun {a b} hl ha hb => ?_) hs;rw [less_iff] at hl;simp only [beq_iff_eq] at ha hb;omega
theorem ed_row {ys : List (Int × Int)} (hs : Srt ys) (v : Int) (i : Nat) (h : i < (trg ys v).length) : ed ys (bgn ys v + i) = (v, nt (trg ys v) i) := by
  have hn := bgn_next ys v;have hle := bgn_le ys (v + 1);have hl : bgn ys v + i < ys.length := by omega
  rw [trg_at hs v i h, tgs_at ys _ hl];have a : ¬ (ed ys (bgn ys v + i)).1 < v := fun hc => by have := (bgn_at hs v _ hl).1 hc; omega
  have b := (bgn_at hs (v + 1) _ hl).2 (by omega);exact Prod.ext (by show (ed ys (bgn ys v + i)).1 = v; omega) rfl
theorem rows_eq {N : Nat} {ys zs : List (Int × Int)} (h1 : Srt ys) (h2 : Srt zs) (g1 : Edg.Good (N : Int) ys) (g2 : Edg.Good (N : Int) zs) (hb : bgs ys N = bgs zs N) (ht : tgs ys = tgs zs) : ys = zs := by
  have hl : ys.length = zs.length := by rw [← tgs_len ys, ← tgs_len zs, ht]
  have hv : ∀ v : Nat, v ≤ N → bgn ys (v : Int) = bgn zs (v : Int) := fun v hv => by
    rcases Nat.lt_or_ge v N with h | h
    · have a := bgs_at ys N v h;have b := bgs_at zs N v h;rw [hb, b] at a;omega
    · obtain rfl : v = N := by omega
      rw [bgn_N g1, bgn_N g2, hl]
  refine eds_eq hl fun i hi => ?_;have hi2 : i < zs.length := by omega
  have e2 : (ed ys i).2 = (ed zs i).2 := by rw [← tgs_at ys i hi, ht, tgs_at zs i hi2]
  refine Prod.ext ?_ e2;obtain ⟨⟨a0, aN⟩, -⟩ := good_at g1 i hi;obtain ⟨⟨b0, bN⟩, -⟩ := good_at g2 i hi2;obtain ⟨p, hp⟩ := Int.eq_ofNat_of_zero_le a0;obtain ⟨q, hq⟩ := Int.eq_ofNat_of_zero_le b0;have k1 := bgn_at h1 (p : Int) i hi;have k2 := bgn_at h2 (p : Int) i hi2;have k3 := bgn_at h1 (q : Int) i hi;have k4 := bgn_at h2 (q : Int) i hi2;have k5 := hv p (by omega);have k6 := hv q (by omega);rw [hp] at k1 k3 ⊢;rw [hq] at k2 k4 ⊢;omega
end Go.Proofs.YtchdlgdmomcemaaGreatDoor.Csr
end
section
namespace Go.Proofs.YtchdlgdmomcemaaGreatDoor.Shd
open Go Go.RowKit Go.Lib Oct Num Gap Edg Csr
def edR (f : Int) : List (List Int) → List (Int × Int)
  | [] => []
  | l :: ls => l.map (fun t => (f, t)) ++ edR (f + 1) ls
theorem edR_snoc : ∀ (ls : List (List Int)) (f : Int) (l : List Int), edR f (ls ++ [l]) = edR f ls ++ l.map (fun t => (f + (ls.length : Int), t))
  | [], f, l => by simp [edR]
  | x :: ls, f, l => by
    rw [List.cons_append, edR, edR_snoc ls (f + 1) l, edR, List.append_assoc, List.length_cons, show f + 1 + (ls.length : Int) = f + ((ls.length + 1 : Nat) : Int) by omega]
theorem edR_app : ∀ (a b : List (List Int)) (f : Int), edR f (a ++ b) = edR f a ++ edR (f + (a.length : Int)) b
  | [], b, f => by simp [edR]
  | x :: a, b, f => by
    rw [List.cons_append, edR, edR_app a b (f + 1), edR, List.append_assoc, List.length_cons, show f + 1 + (a.length : Int) = f + ((a.length + 1 : Nat) : Int) by omega]
theorem edR_at (ls : List (List Int)) (f : Int) (k : Nat) (l : List Int) (h : ls[k]? = some l) : edR f (ls.take (k + 1)) = edR f (ls.take k) ++ l.map (fun t => (f + (k : Int), t)) := by
  obtain ⟨hk, e⟩ := List.getElem?_eq_some_iff.1 h;rw [List.take_succ_eq_append_getElem hk, e, edR_snoc, List.length_take, Nat.min_eq_left (by omega)]
theorem edR_le (ls : List (List Int)) (f : Int) (k : Nat) : (edR f (ls.take k)).length ≤ (edR f ls).length := by
  have h : ls.take k ++ ls.drop k = ls := List.take_append_drop k ls;have e := edR_app (ls.take k) (ls.drop k) f;rw [h] at e;rw [e, List.length_append];omega
def edJ (F : Nat → Int) (L : Nat → List (List Int)) : Nat → List (Int × Int)
  | 0 => []
  | k + 1 => edJ F L k ++ edR (F k) (L k)
def nxJ (L : Nat → List (List Int)) : Nat → Nat
  | 0 => 0
  | k + 1 => nxJ L k + (L k).length
theorem edJ_le (F : Nat → Int) (L : Nat → List (List Int)) (k : Nat) : ∀ d, (edJ F L k).length ≤ (edJ F L (k + d)).length
  | 0 => Nat.le_refl _
  | d + 1 => by
    rw [← Nat.add_assoc, edJ, List.length_append];have := edJ_le F L k d;omega
def edF (ys : List (Int × Int)) : Nat → List (Int × Int)
  | 0 => []
  | k + 1 => edF ys k ++ (trg ys (k : Int)).map (fun t => ((k : Int), t))
theorem edF_take {N : Int} {ys : List (Int × Int)} (hs : Srt ys) (hg : Edg.Good N ys) : ∀ k : Nat, edF ys k = ys.take (bgn ys (k : Int))
  | 0 => by rw [edF]; have := bgn_0 hg; rw [show ((0 : Nat) : Int) = 0 from rfl, this]; rfl
  | k + 1 => by
    rw [edF, edF_take hs hg k, show ((k + 1 : Nat) : Int) = (k : Int) + 1 by omega, bgn_next];have hle : bgn ys (k : Int) + (trg ys (k : Int)).length ≤ ys.length := by rw [← bgn_next]; exact bgn_le ys _
    apply List.ext_getElem?
    intro i;have hb : bgn ys (k : Int) ≤ ys.length := bgn_le ys _;rcases Nat.lt_or_ge i (bgn ys (k : Int)) with h | h
    · rw [List.getElem?_append_left (by rw [List.length_take]; omega), List.getElem?_take, if_pos h, List.getElem?_take, if_pos (by omega)]
    · rw [List.getElem?_append_right (by rw [List.length_take]; omega), List.length_take, Nat.min_eq_left hb, List.getElem?_map];rcases Nat.lt_or_ge (i - bgn ys (k : Int)) (trg ys (k : Int)).length with h2 | h2
      · have e := ed_row hs (k : Int) (i - bgn ys (k : Int)) h2;rw [show bgn ys (k : Int) + (i - bgn ys (k : Int)) = i by omega, ed_at ys i (by omega)] at e;rw [List.getElem?_take, if_pos (by omega), List.getElem?_eq_getElem h2, List.getElem?_eq_getElem (show i < ys.length by omega), e, nt_at _ _ h2]
        rfl
      · rw [List.getElem?_eq_none h2, List.getElem?_eq_none (by rw [List.length_take]; omega)]
        rfl
theorem edF_all {N : Nat} {ys : List (Int × Int)} (hs : Srt ys) (hg : Edg.Good (N : Int) ys) : edF ys N = ys := by
  rw [edF_take hs hg, bgn_N hg, List.take_length]
def rowsF (ys : List (Int × Int)) (f : Nat) (k : Nat) : List Int := trg ys ((f : Int) + (k : Int))
theorem edF_more (ys : List (Int × Int)) (f : Nat) : ∀ m : Nat, edF ys f ++ edR (f : Int) (lsR (rowsF ys f) m) = edF ys (f + m)
  | 0 => by simp [lsR, edR]
  | m + 1 => by
    rw [lsR_succ, edR_snoc, ← List.append_assoc, edF_more ys f m, lsR_len, ← Nat.add_assoc, edF, show ((f + m : Nat) : Int) = (f : Int) + (m : Int) by omega]
    rfl
def nmF (f : Int) (R : Nat → List Int) : Nat → List Int
  | 0 => []
  | k + 1 => nmF f R k ++ (if k % 8 = 0 then [((rwF f R k).length : Int)] else [])
def shN (l : List Int) : List UInt8 := l.flatMap fun x => short x.toNat
theorem shN_app (l m : List Int) : shN (l ++ m) = shN l ++ shN m := List.flatMap_append
theorem shN_nm (f : Int) (R : Nat → List Int) : ∀ k, shN (nmF f R k) = ixF f R k
  | 0 => rfl
  | k + 1 => by
    rw [nmF, ixF, shN_app, shN_nm f R k]
    congr 1
    split <;> simp [shN]
theorem nmF_len (f : Int) (R : Nat → List Int) : ∀ k, (nmF f R k).length ≤ k
  | 0 => Nat.le_refl _
  | k + 1 => by
    rw [nmF, List.length_append];have := nmF_len f R k
    split <;> simp <;> omega
theorem nmF_mem (f : Int) (R : Nat → List Int) (M : Nat) : ∀ k, (∀ j, j < k → (rwF f R j).length ≤ M) → ∀ x ∈ nmF f R k, 0 ≤ x ∧ x ≤ (M : Int)
  | 0, _, x, h => by cases h
  | k + 1, hM, x, h => by
    rw [nmF] at h;rcases List.mem_append.1 h with e | e
    · exact nmF_mem f R M k (fun j hj => hM j (by omega)) x e
    · split at e
      · have := hM k (by omega);simp at e;omega
      · cases e
theorem shF_nm (f n : Nat) (R : Nat → List Int) : shF f n R = shN ([(f : Int), (n : Int)] ++ nmF (f : Int) R n) ++ rwF (f : Int) R n := by
  rw [shN_app, shN_nm];unfold shF shN;simp
theorem goodT_trg {N : Nat} {ys : List (Int × Int)} (hs : Srt ys) (hg : Edg.Good (N : Int) ys) (v : Int) : GoodT (N : Int) (trg ys v) := by
  refine goodT_iff.2 fun i hi hb => ?_
  have hm : ∀ j, j < (trg ys v).length → 0 ≤ nt (trg ys v) j ∧ nt (trg ys v) j < (N : Int) := fun j hj => by
    have := ed_row hs v j hj
    have hlt : bgn ys v + j < ys.length := by
      have h1 := bgn_next ys v;have h2 := bgn_le ys (v + 1);omega
    have h3 := good_at hg _ hlt;rw [this] at h3;exact h3.2
  have hu := trg_up hs v;obtain ⟨h1, h2⟩ := hm i hi;have e : (trg ys v).getD i 0 = nt (trg ys v) i := rfl;unfold badT at hb;rw [e] at hb;rcases hb with q | q | ⟨q1, q2⟩
  · omega
  · omega
  · have e2 : (trg ys v).getD (i - 1) 0 = nt (trg ys v) (i - 1) := rfl;rw [e2, nt_at _ _ hi, nt_at _ _ (show i - 1 < _ by omega)] at q2;have := List.pairwise_iff_getElem.1 hu (i - 1) i (by omega) hi (by omega);omega
theorem putF_le {N v : Int} {l : List Int} (hN : N ≤ 4096) (hv0 : 0 ≤ v) (hv1 : v ≤ 4096) (hg : GoodT N l) : ∀ k, k ≤ l.length → (putF v l k).length ≤ 9 + 9 * k
  | 0, _ => by
    have h0 : 0 ≤ N ∨ l.length = 0 := by
      rcases Nat.eq_zero_or_pos l.length with h | h
      · exact .inr h
      · have := goodT_iff.1 hg 0 h;unfold badT at this
        left; omega
    have hl : l.length ≤ 4096 := by
      rcases h0 with h | h
      · have := hg.len h; omega
      · omega
    have := short_len9 l.length (by omega);show (short l.length).length ≤ _;omega
  | k + 1, hk => by
    have hb : ∀ j, j < l.length → 0 ≤ nt l j ∧ nt l j < N := fun j hj => by
      have := goodT_iff.1 hg j hj;unfold badT at this;have e : l.getD j 0 = nt l j := rfl;rw [e] at this;omega
    rw [putF_step v l k (if k = 0 then v else nt l (k - 1)) (nt l k) rfl rfl, List.length_append];have h1 := putF_le hN hv0 hv1 hg k (by omega);have h2 := hb k (by omega)
    have h3 : 0 ≤ (if k = 0 then v else nt l (k - 1)) ∧ (if k = 0 then v else nt l (k - 1)) ≤ 4096 := by
      split
      · exact ⟨hv0, hv1⟩
      · have := hb (k - 1) (by omega); omega
    have := st1_len (decide (k = 0)) _ _ h3.1 h3.2 h2.1 (by omega);omega
theorem rwF_bound {N : Nat} {ys : List (Int × Int)} (hs : Srt ys) (hg : Edg.Good (N : Int) ys) (f : Nat) : ∀ k, f + k ≤ N → (rwF (f : Int) (rowsF ys f) k).length + 9 * bgn ys (f : Int) ≤ 9 * k + 9 * bgn ys ((f : Int) + (k : Int))
  | 0, _ => by simp [rwF]
  | k + 1, hk => by
    have hN : (N : Int) ≤ 4096 := hg.hi;have h1 := rwF_bound hs hg f k (by omega);have h2 := putF_le (v := (f : Int) + (k : Int)) hN (by omega) (by omega) (goodT_trg hs hg ((f : Int) + (k : Int))) (trg ys ((f : Int) + (k : Int))).length (Nat.le_refl _);have h3 := bgn_next ys ((f : Int) + (k : Int));rw [rwF, List.length_append, show (f : Int) + ((k + 1 : Nat) : Int) = (f : Int) + (k : Int) + 1 by omega, h3];show (rwF (f : Int) (rowsF ys f) k).length + (putF ((f : Int) + (k : Int)) (trg ys ((f : Int) + (k : Int))) (trg ys ((f : Int) + (k : Int))).length).length + _ ≤ _;omega
theorem rwF_max {N : Nat} {ys : List (Int × Int)} (hs : Srt ys) (hg : Edg.Good (N : Int) ys) (f k : Nat) (h : f + k ≤ N) : (rwF (f : Int) (rowsF ys f) k).length ≤ 216864 := by
  have h1 := rwF_bound hs hg f k h;have h2 := bgn_le ys ((f : Int) + (k : Int));have h3 := hg.len;have hN : (N : Int) ≤ 4096 := hg.hi;omega
theorem ixF_le {f : Int} {R : Nat → List Int} : ∀ k, (∀ j, j ≤ k → (rwF f R j).length < 2 ^ 50) → (ixF f R k).length ≤ 9 * k
  | 0, _ => Nat.le_refl _
  | k + 1, h => by
    rw [ixF, List.length_append];have h1 := ixF_le k (fun j hj => h j (by omega));have h2 := h k (by omega)
    split
    · have := short_len9 (rwF f R k).length (by omega);omega
    · simp; omega
end Go.Proofs.YtchdlgdmomcemaaGreatDoor.Shd
end
section
namespace Go.Proofs.YtchdlgdmomcemaaGreatDoor.Csr
open Go Go.RowKit Go.Lib Edg Num
def Mem (w : World) (B g N : Nat) (ys : List (Int × Int)) : Prop := ∃ gb gt, (B ≤ g ∧ B ≤ gb ∧ B ≤ gt) ∧ (gb < w.heap.size ∧ gt < w.heap.size) ∧ St.St w g 87 #[.slice (some ⟨gb, 0, none⟩) N N, .slice (some ⟨gt, 0, none⟩) ys.length ys.length] ∧ HoldI w gb (bgs ys N) ∧ HoldI w gt (tgs ys)
structure Rep (w : World) (B g N : Nat) (ys : List (Int × Int)) : Prop where
  srt : Srt ys
  good : Edg.Good (N : Int) ys
  mem : Mem w B g N ys
theorem Rep.on {w w' : World} {B g N : Nat} {ys : List (Int × Int)} (h : Rep w B g N ys) (hb : Below w.heap.size w w') : Rep w' B g N ys := by
  obtain ⟨gb, gt, h1, h2, h3, h4, h5⟩ := h.mem;have := hb.size;exact ⟨h.srt, h.good, gb, gt, h1, ⟨by omega, by omega⟩, h3.on hb, h4.on hb, h5.on hb⟩
theorem Rep.up {w w' : World} {B g N : Nat} {ys : List (Int × Int)} (h : Rep w B g N ys) (hs : w.heap.size ≤ w'.heap.size) (hb : ∀ b, B ≤ b → b < w.heap.size → w'.heap[b]? = w.heap[b]?) : Rep w' B g N ys := by
  obtain ⟨gb, gt, h1, h2, h3, h4, h5⟩ := h.mem;exact ⟨h.srt, h.good, gb, gt, h1, ⟨by omega, by omega⟩, (hb g h1.1 h3.lt).trans h3, h4.at (hb gb h1.2.1 h2.1), h5.at (hb gt h1.2.2 h2.2)⟩
theorem Rep.drewN {w : World} {B g N : Nat} {ys : List (Int × Int)} (h : Rep w B g N ys) (q : Nat) : Rep (w.drewN q) B g N ys := ⟨h.srt, h.good, h.mem⟩
theorem Rep.hi {w : World} {B g N : Nat} {ys : List (Int × Int)} (h : Rep w B g N ys) : N ≤ 4096 := by have := h.good.hi; omega
theorem Rep.len {w : World} {B g N : Nat} {ys : List (Int × Int)} (h : Rep w B g N ys) : ys.length ≤ 20000 := h.good.len
theorem below_of_drew {w w' : World} (h : ∃ q, w' = w.drewN q) : Below w.heap.size w w' := by
  obtain ⟨q, rfl⟩ := h;exact ⟨rfl, rfl, rfl, Nat.le_refl _, fun _ _ => rfl⟩
set_option maxRecDepth 100000 in
set_option maxHeartbeats 2000000 in
theorem nodes_any (w : World) (B g N : Nat) (ys : List (Int × Int)) (hR : Rep w B g N ys) :
    Calls Tryz.prog 69 #[.pointer (some ⟨g, 0, none⟩)] w fun e w' => e = .returned (.int .i64 (N : Int)) ∧ w = w' := by
  refine Kn.Z.cl Tryz.func69 rfl Tryz.ntmps69 rfl (.c 0 rfl .n) ?_;refine Kn.Z.f fun K1 hK1=>?_;refine Kn.Z.u (.a .c .n) ?_;refine Kn.Z.e hK1 ?_;clear hK1 K1;obtain ⟨gb, gt, -, -, hS, hH, hT⟩ := hR.mem;have c0 := hS.cell 0 rfl;have c1 := hS.cell 1 rfl;have hN := hR.hi;have hL := hR.len;refine Kn.Z.q fun K2 hK2=>?_;refine Kn.Z.f fun K3 hK3=>?_;refine Kn.Z.u (.m (.t rfl) .n) ?_;refine Kn.Z.s .o (.bin (.t rfl) .c) fun Ko Kp=>?_;go_simp;(try go_bits);refine Kp _ _ ?_;clear Kp Ko;refine Kn.Z.e hK3 ?_;clear hK3 K3;refine Kn.Z.no (.t rfl) ?_;refine Kn.Z.j hK2 ?_;clear hK2 K2;refine Kn.Z.f fun K4 hK4=>?_;refine Kn.Z.u (.m (.t rfl) (.e .o (fun _ h=>Kn.ex_nilCheck h (.t rfl)) .n)) ?_;refine Kn.Z.s .o (.fieldAddr (.t rfl)) fun Ko Kp=>?_;go_simp;(try go_bits);refine Kp _ _ ?_;clear Kp Ko;refine Kn.Z.s .o (.load (.t rfl)) fun Ko Kp=>?_;go_simp;(try go_bits);refine Kp _ _ ?_;clear Kp Ko;refine Kn.Z.s .o (.len (.t rfl)) fun Ko Kp=>?_;go_simp;(try go_bits);refine Kp _ _ ?_;clear Kp Ko;refine Kn.Z.u (.a (.t rfl) .n) ?_;refine Kn.Z.e hK4 ?_;clear hK4 K4;intro fb fg;refine wp_ret ?_;exact Kn.ret1 fg rfl rfl ⟨rfl, rfl⟩
set_option maxRecDepth 100000 in
set_option maxHeartbeats 2000000 in
theorem edges_any (w : World) (B g N : Nat) (ys : List (Int × Int)) (hR : Rep w B g N ys) :
    Calls Tryz.prog 44 #[.pointer (some ⟨g, 0, none⟩)] w fun e w' => e = .returned (.int .i64 (ys.length : Int)) ∧ w = w' := by
  refine Kn.Z.cl Tryz.func44 rfl Tryz.ntmps44 rfl (.c 0 rfl .n) ?_;refine Kn.Z.f fun K1 hK1=>?_;refine Kn.Z.u (.a .c .n) ?_;refine Kn.Z.e hK1 ?_;clear hK1 K1;obtain ⟨gb, gt, -, -, hS, hH, hT⟩ := hR.mem;have c0 := hS.cell 0 rfl;have c1 := hS.cell 1 rfl;have hN := hR.hi;have hL := hR.len;refine Kn.Z.q fun K2 hK2=>?_;refine Kn.Z.f fun K3 hK3=>?_;refine Kn.Z.u (.m (.t rfl) .n) ?_;refine Kn.Z.s .o (.bin (.t rfl) .c) fun Ko Kp=>?_;go_simp;(try go_bits);refine Kp _ _ ?_;clear Kp Ko;refine Kn.Z.e hK3 ?_;clear hK3 K3;refine Kn.Z.no (.t rfl) ?_;refine Kn.Z.j hK2 ?_;clear hK2 K2;refine Kn.Z.f fun K4 hK4=>?_;refine Kn.Z.u (.m (.t rfl) (.e .o (fun _ h=>Kn.ex_nilCheck h (.t rfl)) .n)) ?_;refine Kn.Z.s .o (.fieldAddr (.t rfl)) fun Ko Kp=>?_;go_simp;(try go_bits);refine Kp _ _ ?_;clear Kp Ko;refine Kn.Z.s .o (.load (.t rfl)) fun Ko Kp=>?_;go_simp;(try go_bits);refine Kp _ _ ?_;clear Kp Ko;refine Kn.Z.s .o (.len (.t rfl)) fun Ko Kp=>?_;go_simp;(try go_bits);refine Kp _ _ ?_;clear Kp Ko;refine Kn.Z.u (.a (.t rfl) .n) ?_;refine Kn.Z.e hK4 ?_;clear hK4 K4;intro fb fg;refine wp_ret ?_;exact Kn.ret1 fg rfl rfl ⟨rfl, rfl⟩
set_option maxRecDepth 100000 in
set_option maxHeartbeats 2000000 in
theorem begin_lo (v : Int) (hv : v < 0) (w : World) (B g N : Nat) (ys : List (Int × Int)) (hR : Rep w B g N ys) :
    Calls Tryz.prog 147 #[.pointer (some ⟨g, 0, none⟩), .int .i64 v] w fun e w' => e = .returned (.int .i64 (-1)) ∧ w = w' := by
  refine Kn.Z.cl Tryz.func147 rfl Tryz.ntmps147 rfl (.c 0 rfl (.c 1 rfl .n)) ?_;refine Kn.Z.f fun K1 hK1=>?_;refine Kn.Z.u (.a .c .n) ?_;refine Kn.Z.e hK1 ?_;clear hK1 K1;obtain ⟨gb, gt, -, -, hS, hH, hT⟩ := hR.mem;have c0 := hS.cell 0 rfl;have c1 := hS.cell 1 rfl;have hN := hR.hi;have hL := hR.len;refine Kn.Z.q fun K2 hK2=>?_;refine Kn.Z.f fun K3 hK3=>?_;refine Kn.Z.u (.m (.t rfl) .n) ?_;refine Kn.Z.s .o (.bin (.t rfl) .c) fun Ko Kp=>?_;go_simp;(try go_bits);refine Kp _ _ ?_;clear Kp Ko;refine Kn.Z.u (.m (.t rfl) (.e (.s rfl rfl rfl) (.move (.t rfl)) .n)) ?_;refine Kn.Z.s (.s rfl rfl rfl) (.bin (.t rfl) .c) fun Ko Kp=>?_;go_simp;(try go_bits);refine Kp _ _ ?_;clear Kp Ko;refine Kn.Z.u (.e .o (.pick (.t rfl) (.t rfl)) (.m (.t rfl) (.k (.s rfl rfl rfl) (.k (.s rfl rfl rfl) (.k (.s rfl rfl rfl) (.k (.s rfl rfl rfl) (.k (.s rfl rfl rfl) (.k (.s rfl rfl rfl) (.k (.s rfl rfl rfl) (.e .o (.pick (.t rfl) .c) .n)))))))))) ?_;refine Kn.Z.e hK3 ?_;clear hK3 K3;refine Kn.Z.t (.c 19 rfl (.c 4 rfl (.c 0 rfl (.c 1 rfl .n)))) ?_;refine Kn.Z.y (.t rfl) ?_;refine Kn.Z.f fun K4 hK4=>?_;refine Kn.Z.u (.a .c .n) ?_;refine Kn.Z.e hK4 ?_;clear hK4 K4;intro fb fg;refine wp_ret ?_;refine Kn.then_ret ?_;exact Kn.ret1 fg rfl rfl ⟨rfl, rfl⟩
set_option maxRecDepth 100000 in
set_option maxHeartbeats 2000000 in
theorem begin_hi (v : Int) (hv0 : ¬ v < 0) (w : World) (B g N : Nat) (ys : List (Int × Int)) (hR : Rep w B g N ys) (hv : (N : Int) < v) :
    Calls Tryz.prog 147 #[.pointer (some ⟨g, 0, none⟩), .int .i64 v] w fun e w' => e = .returned (.int .i64 (-1)) ∧ w = w' := by
  refine Kn.Z.cl Tryz.func147 rfl Tryz.ntmps147 rfl (.c 0 rfl (.c 1 rfl .n)) ?_;refine Kn.Z.f fun K1 hK1=>?_;refine Kn.Z.u (.a .c .n) ?_;refine Kn.Z.e hK1 ?_;clear hK1 K1;obtain ⟨gb, gt, -, -, hS, hH, hT⟩ := hR.mem;have c0 := hS.cell 0 rfl;have c1 := hS.cell 1 rfl;have hN := hR.hi;have hL := hR.len;refine Kn.Z.q fun K2 hK2=>?_;refine Kn.Z.f fun K3 hK3=>?_;refine Kn.Z.u (.m (.t rfl) .n) ?_;refine Kn.Z.s .o (.bin (.t rfl) .c) fun Ko Kp=>?_;go_simp;(try go_bits);refine Kp _ _ ?_;clear Kp Ko;refine Kn.Z.u (.m (.t rfl) (.e (.s rfl rfl rfl) (.move (.t rfl)) .n)) ?_;refine Kn.Z.s (.s rfl rfl rfl) (.bin (.t rfl) .c) fun Ko Kp=>?_;go_simp;(try go_bits);refine Kp _ _ ?_;clear Kp Ko;refine Kn.Z.u (.e .o (.pick (.t rfl) (.t rfl)) (.m (.t rfl) (.e (.s rfl rfl rfl) (.move (.t rfl)) (.e (.s rfl rfl rfl) (.move (.t rfl)) (.e (.s rfl rfl rfl) (fun _ h=>Kn.ex_nilCheck h (.t rfl)) .n))))) ?_;refine Kn.Z.s (.s rfl rfl rfl) (.fieldAddr (.t rfl)) fun Ko Kp=>?_;go_simp;(try go_bits);refine Kp _ _ ?_;clear Kp Ko;refine Kn.Z.s (.s rfl rfl rfl) (.load (.t rfl)) fun Ko Kp=>?_;go_simp;(try go_bits);refine Kp _ _ ?_;clear Kp Ko;refine Kn.Z.s (.s rfl rfl rfl) (.len (.t rfl)) fun Ko Kp=>?_;go_simp;(try go_bits);refine Kp _ _ ?_;clear Kp Ko;refine Kn.Z.s (.s rfl rfl rfl) (.bin (.t rfl) (.t rfl)) fun Ko Kp=>?_;go_simp;(try go_bits);refine Kp _ _ ?_;clear Kp Ko;refine Kn.Z.u (.e .o (.pick (.t rfl) (.t rfl)) .n) ?_;refine Kn.Z.e hK3 ?_;clear hK3 K3;refine Kn.Z.t (.c 19 rfl (.c 4 rfl (.c 0 rfl (.c 1 rfl .n)))) ?_;refine Kn.Z.y (.t rfl) ?_;refine Kn.Z.f fun K4 hK4=>?_;refine Kn.Z.u (.a .c .n) ?_;refine Kn.Z.e hK4 ?_;clear hK4 K4;intro fb fg;refine wp_ret ?_;refine Kn.then_ret ?_;exact Kn.ret1 fg rfl rfl ⟨rfl, rfl⟩
set_option maxRecDepth 100000 in
set_option maxHeartbeats 2000000 in
theorem begin_end (w : World) (B g N : Nat) (ys : List (Int × Int)) (hR : Rep w B g N ys) :
    Calls Tryz.prog 147 #[.pointer (some ⟨g, 0, none⟩), .int .i64 (N : Int)] w fun e w' => e = .returned (.int .i64 (bgn ys (N : Int) : Int)) ∧ w = w' := by
  refine Kn.Z.cl Tryz.func147 rfl Tryz.ntmps147 rfl (.c 0 rfl (.c 1 rfl .n)) ?_;refine Kn.Z.f fun K1 hK1=>?_;refine Kn.Z.u (.a .c .n) ?_;refine Kn.Z.e hK1 ?_;clear hK1 K1;obtain ⟨gb, gt, -, -, hS, hH, hT⟩ := hR.mem;have c0 := hS.cell 0 rfl;have c1 := hS.cell 1 rfl;have hN := hR.hi;have hL := hR.len;have p1 : ¬ ((N : Int) < 0) := by omega
  have p2 : ((N : Int) == (N : Int)) = true := by simp
  refine Kn.Z.q fun K2 hK2=>?_;refine Kn.Z.f fun K3 hK3=>?_;refine Kn.Z.u (.m (.t rfl) .n) ?_;refine Kn.Z.s .o (.bin (.t rfl) .c) fun Ko Kp=>?_;go_simp;(try go_bits);refine Kp _ _ ?_;clear Kp Ko;refine Kn.Z.u (.m (.t rfl) (.e (.s rfl rfl rfl) (.move (.t rfl)) .n)) ?_;refine Kn.Z.s (.s rfl rfl rfl) (.bin (.t rfl) .c) fun Ko Kp=>?_;go_simp;(try go_bits);refine Kp _ _ ?_;clear Kp Ko;refine Kn.Z.u (.e .o (.pick (.t rfl) (.t rfl)) (.m (.t rfl) (.e (.s rfl rfl rfl) (.move (.t rfl)) (.e (.s rfl rfl rfl) (.move (.t rfl)) (.e (.s rfl rfl rfl) (fun _ h=>Kn.ex_nilCheck h (.t rfl)) .n))))) ?_;refine Kn.Z.s (.s rfl rfl rfl) (.fieldAddr (.t rfl)) fun Ko Kp=>?_;go_simp;(try go_bits);refine Kp _ _ ?_;clear Kp Ko;refine Kn.Z.s (.s rfl rfl rfl) (.load (.t rfl)) fun Ko Kp=>?_;go_simp;(try go_bits);refine Kp _ _ ?_;clear Kp Ko;refine Kn.Z.s (.s rfl rfl rfl) (.len (.t rfl)) fun Ko Kp=>?_;go_simp;(try go_bits);refine Kp _ _ ?_;clear Kp Ko;refine Kn.Z.s (.s rfl rfl rfl) (.bin (.t rfl) (.t rfl)) fun Ko Kp=>?_;go_simp;(try go_bits);refine Kp _ _ ?_;clear Kp Ko;refine Kn.Z.u (.e .o (.pick (.t rfl) (.t rfl)) .n) ?_;refine Kn.Z.e hK3 ?_;clear hK3 K3;refine Kn.Z.t (.c 19 rfl (.c 4 rfl (.c 0 rfl (.c 1 rfl .n)))) ?_;refine Kn.Z.no (.t rfl) ?_;refine Kn.Z.j hK2 ?_;clear hK2 K2;refine Kn.Z.q fun K4 hK4=>?_;refine Kn.Z.f fun K5 hK5=>?_;refine Kn.Z.u (.m (.t rfl) (.m (.t rfl) (.e .o (fun _ h=>Kn.ex_nilCheck h (.t rfl)) .n))) ?_;refine Kn.Z.s .o (.fieldAddr (.t rfl)) fun Ko Kp=>?_;go_simp;(try go_bits);refine Kp _ _ ?_;clear Kp Ko;refine Kn.Z.s .o (.load (.t rfl)) fun Ko Kp=>?_;go_simp;(try go_bits);refine Kp _ _ ?_;clear Kp Ko;refine Kn.Z.s .o (.len (.t rfl)) fun Ko Kp=>?_;go_simp;(try go_bits);refine Kp _ _ ?_;clear Kp Ko;refine Kn.Z.s .o (.bin (.t rfl) (.t rfl)) fun Ko Kp=>?_;go_simp;(try go_bits);refine Kp _ _ ?_;clear Kp Ko;refine Kn.Z.e hK5 ?_;clear hK5 K5;refine Kn.Z.y (.t rfl) ?_;refine Kn.Z.f fun K6 hK6=>?_;refine Kn.Z.u (.m (.t rfl) (.e .o (fun _ h=>Kn.ex_nilCheck h (.t rfl)) .n)) ?_;refine Kn.Z.s .o (.fieldAddr (.t rfl)) fun Ko Kp=>?_;go_simp;(try go_bits);refine Kp _ _ ?_;clear Kp Ko;refine Kn.Z.s .o (.load (.t rfl)) fun Ko Kp=>?_;go_simp;(try go_bits);refine Kp _ _ ?_;clear Kp Ko;refine Kn.Z.s .o (.len (.t rfl)) fun Ko Kp=>?_;go_simp;(try go_bits);refine Kp _ _ ?_;clear Kp Ko;refine Kn.Z.u (.a (.t rfl) .n) ?_;refine Kn.Z.e hK6 ?_;clear hK6 K6;refine Kn.Z.t (.c 4 rfl (.c 0 rfl (.c 1 rfl .n))) ?_;intro fb fg;refine wp_ret ?_;refine Kn.then_ret ?_;exact Kn.ret1 fg rfl rfl ⟨by rw [bgn_N hR.good], rfl⟩
set_option maxRecDepth 100000 in
set_option maxHeartbeats 2000000 in
theorem begin_at (k : Nat) (w : World) (B g N : Nat) (ys : List (Int × Int)) (hR : Rep w B g N ys) (hv : k < N) :
    Calls Tryz.prog 147 #[.pointer (some ⟨g, 0, none⟩), .int .i64 (k : Int)] w fun e w' => e = .returned (.int .i64 (bgn ys (k : Int) : Int)) ∧ w = w' := by
  refine Kn.Z.cl Tryz.func147 rfl Tryz.ntmps147 rfl (.c 0 rfl (.c 1 rfl .n)) ?_;refine Kn.Z.f fun K1 hK1=>?_;refine Kn.Z.u (.a .c .n) ?_;refine Kn.Z.e hK1 ?_;clear hK1 K1;obtain ⟨gb, gt, -, -, hS, hH, hT⟩ := hR.mem;have c0 := hS.cell 0 rfl;have c1 := hS.cell 1 rfl;have hN := hR.hi;have hL := hR.len;have p0 : ¬ ((k : Int) < 0) := by omega
  have p1 : ¬ ((N : Int) < (k : Int)) := by omega
  have p2 : ((k : Int) == (N : Int)) = false := by rw [beq_eq_false_iff_ne]; omega
  have hk := (hH k (by rw [bgs_len]; exact hv)).1;rw [bgs_at ys N k hv] at hk;refine Kn.Z.q fun K2 hK2=>?_;refine Kn.Z.f fun K3 hK3=>?_;refine Kn.Z.u (.m (.t rfl) .n) ?_;refine Kn.Z.s .o (.bin (.t rfl) .c) fun Ko Kp=>?_;go_simp;(try go_bits);refine Kp _ _ ?_;clear Kp Ko;refine Kn.Z.u (.m (.t rfl) (.e (.s rfl rfl rfl) (.move (.t rfl)) .n)) ?_;refine Kn.Z.s (.s rfl rfl rfl) (.bin (.t rfl) .c) fun Ko Kp=>?_;go_simp;(try go_bits);refine Kp _ _ ?_;clear Kp Ko;refine Kn.Z.u (.e .o (.pick (.t rfl) (.t rfl)) (.m (.t rfl) (.e (.s rfl rfl rfl) (.move (.t rfl)) (.e (.s rfl rfl rfl) (.move (.t rfl)) (.e (.s rfl rfl rfl) (fun _ h=>Kn.ex_nilCheck h (.t rfl)) .n))))) ?_;refine Kn.Z.s (.s rfl rfl rfl) (.fieldAddr (.t rfl)) fun Ko Kp=>?_;go_simp;(try go_bits);refine Kp _ _ ?_;clear Kp Ko;refine Kn.Z.s (.s rfl rfl rfl) (.load (.t rfl)) fun Ko Kp=>?_;go_simp;(try go_bits);refine Kp _ _ ?_;clear Kp Ko;refine Kn.Z.s (.s rfl rfl rfl) (.len (.t rfl)) fun Ko Kp=>?_;go_simp;(try go_bits);refine Kp _ _ ?_;clear Kp Ko;refine Kn.Z.s (.s rfl rfl rfl) (.bin (.t rfl) (.t rfl)) fun Ko Kp=>?_;go_simp;(try go_bits);refine Kp _ _ ?_;clear Kp Ko;refine Kn.Z.u (.e .o (.pick (.t rfl) (.t rfl)) .n) ?_;refine Kn.Z.e hK3 ?_;clear hK3 K3;refine Kn.Z.t (.c 19 rfl (.c 4 rfl (.c 0 rfl (.c 1 rfl .n)))) ?_;refine Kn.Z.no (.t rfl) ?_;refine Kn.Z.j hK2 ?_;clear hK2 K2;refine Kn.Z.q fun K4 hK4=>?_;refine Kn.Z.f fun K5 hK5=>?_;refine Kn.Z.u (.m (.t rfl) (.m (.t rfl) (.e .o (fun _ h=>Kn.ex_nilCheck h (.t rfl)) .n))) ?_;refine Kn.Z.s .o (.fieldAddr (.t rfl)) fun Ko Kp=>?_;go_simp;(try go_bits);refine Kp _ _ ?_;clear Kp Ko;refine Kn.Z.s .o (.load (.t rfl)) fun Ko Kp=>?_;go_simp;(try go_bits);refine Kp _ _ ?_;clear Kp Ko;refine Kn.Z.s .o (.len (.t rfl)) fun Ko Kp=>?_;go_simp;(try go_bits);refine Kp _ _ ?_;clear Kp Ko;refine Kn.Z.s .o (.bin (.t rfl) (.t rfl)) fun Ko Kp=>?_;go_simp;(try go_bits);refine Kp _ _ ?_;clear Kp Ko;refine Kn.Z.e hK5 ?_;clear hK5 K5;refine Kn.Z.no (.t rfl) ?_;refine Kn.Z.j hK4 ?_;clear hK4 K4;refine Kn.Z.f fun K6 hK6=>?_;refine Kn.Z.u (.m (.t rfl) (.e .o (fun _ h=>Kn.ex_nilCheck h (.t rfl)) .n)) ?_;refine Kn.Z.s .o (.fieldAddr (.t rfl)) fun Ko Kp=>?_;go_simp;(try go_bits);refine Kp _ _ ?_;clear Kp Ko;refine Kn.Z.s .o (.load (.t rfl)) fun Ko Kp=>?_;go_simp;(try go_bits);refine Kp _ _ ?_;clear Kp Ko;refine Kn.Z.u (.m (.t rfl) .n) ?_;refine Kn.Z.s .o (.indexAddr (.t rfl) (.t rfl)) fun Ko Kp=>?_;go_simp;(try go_bits);refine Kp _ _ ?_;clear Kp Ko;refine Kn.Z.s .o (.load (.t rfl)) fun Ko Kp=>?_;go_simp;(try go_bits);refine Kp _ _ ?_;clear Kp Ko;refine Kn.Z.u (.a (.t rfl) .n) ?_;refine Kn.Z.e hK6 ?_;clear hK6 K6;refine Kn.Z.t (.c 4 rfl .n) ?_;intro fb fg;refine wp_ret ?_;exact Kn.ret1 fg rfl rfl ⟨rfl, rfl⟩
def bgI (N : Nat) (ys : List (Int × Int)) (v : Int) : Int := if v < 0 ∨ (N : Int) < v then -1 else (bgn ys v : Int)
theorem begin_any (v : Int) (w : World) (B g N : Nat) (ys : List (Int × Int)) (hR : Rep w B g N ys) : Calls Tryz.prog 147 #[.pointer (some ⟨g, 0, none⟩), .int .i64 v] w fun e w' => e = .returned (.int .i64 (bgI N ys v)) ∧ w = w' := by
  unfold bgI
  by_cases h1 : v < 0
  · rw [if_pos (.inl h1)]; exact begin_lo v h1 w B g N ys hR
  by_cases h2 : (N : Int) < v
  · rw [if_pos (.inr h2)]; exact begin_hi v h1 w B g N ys hR h2
  rw [if_neg (by omega)];obtain ⟨k, rfl⟩ := Int.eq_ofNat_of_zero_le (show 0 ≤ v by omega)
  by_cases h3 : k = N
  · subst h3; exact begin_end w B g k ys hR
  · exact begin_at k w B g N ys hR (by omega)
theorem begin_in (k : Nat) (w : World) (B g N : Nat) (ys : List (Int × Int)) (hR : Rep w B g N ys) (hk : k ≤ N) : Calls Tryz.prog 147 #[.pointer (some ⟨g, 0, none⟩), .int .i64 (k : Int)] w fun e w' => e = .returned (.int .i64 (bgn ys (k : Int) : Int)) ∧ w = w' := by
  have := begin_any (k : Int) w B g N ys hR
  rwa [bgI, if_neg (by omega)] at this
set_option maxRecDepth 100000 in
set_option maxHeartbeats 2000000 in
theorem row_in (k : Nat) (w : World) (B g N : Nat) (ys : List (Int × Int)) (hR : Rep w B g N ys) (hv : k < N) :
    Calls Tryz.prog 137 #[.pointer (some ⟨g, 0, none⟩), .int .i64 (k : Int)] w fun e w' => ∃ gt o c, e = .returned (.tuple #[.slice (some ⟨gt, o, none⟩) (trg ys (k : Int)).length c, .nilIface]) ∧ IIn w' (some ⟨gt, o, none⟩) (trg ys (k : Int)) ∧ ∃ q, w' = w.drewN q := by
  refine Kn.Z.cl Tryz.func137 rfl Tryz.ntmps137 rfl (.c 0 rfl (.c 1 rfl .n)) ?_;refine Kn.Z.f fun K1 hK1=>?_;refine Kn.Z.u (.a .c (.a .c .n)) ?_;refine Kn.Z.e hK1 ?_;clear hK1 K1;obtain ⟨gb, gt, -, -, hS, hH, hT⟩ := hR.mem;have c0 := hS.cell 0 rfl;have c1 := hS.cell 1 rfl;have hN := hR.hi;have hL := hR.len;have p0 : ¬ ((k : Int) < 0) := by omega
  have p1 : ¬ ((N : Int) ≤ (k : Int)) := by omega
  have p2 : ¬ N ≤ k := by omega
  have r1 : (k : Int) + 1 = ((k + 1 : Nat) : Int) := by omega
  have hb1 := fun v h => begin_in k v B g N ys h (by omega);have hb2 := fun v h => begin_in (k + 1) v B g N ys h (by omega);have hn : bgn ys ((k + 1 : Nat) : Int) = bgn ys (k : Int) + (trg ys (k : Int)).length := by rw [← r1]; exact bgn_next ys (k : Int)
  have hle := bgn_le ys ((k + 1 : Nat) : Int);have HT : Hid (HoldI w gt (tgs ys)) := Lib.hid hT;obtain ⟨k1, hk1⟩ : ∃ k1, k + 1 = k1 := ⟨_, rfl⟩;rw [hk1] at hb2 hn hle r1;obtain ⟨b, hb⟩ : ∃ b, bgn ys (k : Int) = b := ⟨_, rfl⟩;obtain ⟨c, hc⟩ : ∃ c, bgn ys (k1 : Int) = c := ⟨_, rfl⟩;rw [hb] at hb1 hn;rw [hc] at hb2 hn hle;have HK := Lib.hid hk1;have HBe := Lib.hid hb;have HN := Lib.hid hn;have HC1 := Lib.hid hb1;have HC2 := Lib.hid hb2;clear hk1 hb hc hb1 hb2 hT hH;obtain ⟨o, cc, hsl, ho⟩ := sliceI gt ys.length b c w.drew (by omega) hle (by omega);rw [show c - b = (trg ys (k : Int)).length by omega] at hsl;have HO := Lib.hid ho;clear ho hn;refine Kn.Z.q fun K2 hK2=>?_;refine Kn.Z.f fun K3 hK3=>?_;refine Kn.Z.u (.m (.t rfl) .n) ?_;refine Kn.Z.s .o (.bin (.t rfl) .c) fun Ko Kp=>?_;go_simp;(try go_bits);refine Kp _ _ ?_;clear Kp Ko;refine Kn.Z.e hK3 ?_;clear hK3 K3;refine Kn.Z.no (.t rfl) ?_;refine Kn.Z.j hK2 ?_;clear hK2 K2;refine Kn.Z.q fun K4 hK4=>?_;refine Kn.Z.f fun K5 hK5=>?_;refine Kn.Z.u (.m (.t rfl) .n) ?_;refine Kn.Z.s .o (.bin (.t rfl) .c) fun Ko Kp=>?_;go_simp;(try go_bits);refine Kp _ _ ?_;clear Kp Ko;refine Kn.Z.u (.m (.t rfl) (.e (.s rfl rfl rfl) (.move (.t rfl)) (.e (.s rfl rfl rfl) (.move (.t rfl)) (.e (.s rfl rfl rfl) (fun _ h=>Kn.ex_nilCheck h (.t rfl)) .n)))) ?_;refine Kn.Z.s (.s rfl rfl rfl) (.fieldAddr (.t rfl)) fun Ko Kp=>?_;go_simp;(try go_bits);refine Kp _ _ ?_;clear Kp Ko;refine Kn.Z.s (.s rfl rfl rfl) (.load (.t rfl)) fun Ko Kp=>?_;go_simp;(try go_bits);refine Kp _ _ ?_;clear Kp Ko;refine Kn.Z.s (.s rfl rfl rfl) (.len (.t rfl)) fun Ko Kp=>?_;go_simp;(try go_bits);refine Kp _ _ ?_;clear Kp Ko;refine Kn.Z.s (.s rfl rfl rfl) (.bin (.t rfl) (.t rfl)) fun Ko Kp=>?_;go_simp;(try go_bits);refine Kp _ _ ?_;clear Kp Ko;refine Kn.Z.u (.e .o (.pick (.t rfl) (.t rfl)) .n) ?_;refine Kn.Z.e hK5 ?_;clear hK5 K5;refine Kn.Z.t (.c 19 rfl (.c 5 rfl (.c 4 rfl (.c 0 rfl (.c 1 rfl .n))))) ?_;refine Kn.Z.no (.t rfl) ?_;refine Kn.Z.j hK4 ?_;clear hK4 K4;refine Kn.Z.q fun K6 hK6=>?_;refine Kn.Z.st (by kernel_rfl) (by kernel_rfl) ?_;refine Kn.Z.us (.m (.t rfl) (.e .o (fun _ h=>Kn.ex_nilCheck h (.t rfl)) .n)) ?_;refine Kn.Z.ss .o (.fieldAddr (.t rfl)) fun Ko Kp=>?_;go_simp;(try go_bits);refine Kp _ ?_;clear Kp Ko;refine Kn.Z.ss .o (.load (.t rfl)) fun Ko Kp=>?_;go_simp;(try go_bits);refine Kp _ ?_;clear Kp Ko;refine Kn.Z.us (.m (.t rfl) (.m (.t rfl) .n)) ?_;refine Kn.Z.sc .o (.call (.c (.t rfl) (.c (.t rfl) .n))) Tryz.call147 (HC1.out _ (hR.drewN 1)) ?_;refine Kn.Z.us (.m (.t rfl) (.m (.t rfl) .n)) ?_;refine Kn.Z.ss .o (.bin (.t rfl) .c) fun Ko Kp=>?_;go_simp;(try go_bits);try rw [r1]
  refine Kp _ ?_;clear Kp Ko;refine Kn.Z.sc .o (.call (.c (.t rfl) (.c (.t rfl) .n))) Tryz.call147 (HC2.out _ (hR.drewN 1)) ?_;refine Kn.Z.ss .o (.sliceLH (.t rfl) (.t rfl) (.t rfl)) fun Ko Kp=>?_;rw [hsl];refine Kp _ ?_;clear Kp Ko;refine Kn.Z.us (.a (.t rfl) (.a .c .n)) ?_;refine Kn.Z.se hK6 ?_;clear hK6 K6;refine Kn.Z.t (.c 5 rfl (.c 4 rfl .n)) ?_;intro fb fg;refine wp_ret ?_
  exact Kn.ret2 fg rfl rfl rfl ⟨gt, o, cc, rfl, fun i hi => ⟨gt, o, rfl, World.block_lt_of_cell? _ _ (HT.out (b + i) (by rw [tgs_len]; have := HN.out; omega)).1, by
    have hi2 := hi;have e := trg_at hR.srt (k : Int) i hi;rw [HBe.out] at e;have hz := (HT.out (b + i) (by rw [tgs_len]; have := HN.out; omega)).1;rw [HO.out (by have := HN.out; omega), e]
    exact hz⟩, 1, rfl⟩
theorem cloneI_any (b o c : Nat) (xs : List Int) (w : World) (hx : xs.length ≤ 20000) (hA : IIn w (some ⟨b, o, none⟩) xs) :
    Calls Tryz.prog 138 #[.slice (some ⟨b, o, none⟩) xs.length c] w fun e w' => ∃ A' n' c', e = .returned (.slice A' n' c') ∧ OwnI w' w.heap.size A' n' c' xs ∧ Below w.heap.size w w' := by
  refine (AnyG.slices_Clone_int Tryz.layCloneI b o xs.length c xs w (Nat.le_refl _) (by omega) (fun j hj => hA.cells hj)).mono fun e w' hp => ?_;obtain ⟨v', he, ho, _, hb⟩ := hp;rw [List.take_length] at ho;have ho2 := ho;obtain ⟨hl, hr⟩ := ho;rcases hr with ⟨hv, hz⟩ | ⟨g', cap', cur, hv, _⟩
  · rw [hv] at he ho2;have h0 : xs.length = 0 := by omega
    rw [h0] at ho2;exact ⟨_, _, _, he, ⟨by omega, ho2⟩, hb⟩
  · rw [hv] at he ho2;exact ⟨_, _, _, he, ⟨rfl, ho2⟩, hb⟩
set_option maxRecDepth 100000 in
set_option maxHeartbeats 2000000 in
theorem targets_in (k : Nat) (w : World) (B g N : Nat) (ys : List (Int × Int)) (hR : Rep w B g N ys) (hv : k < N) :
    Calls Tryz.prog 119 #[.pointer (some ⟨g, 0, none⟩), .int .i64 (k : Int)] w fun e w' => ∃ A' n' c', e = .returned (.tuple #[.slice A' n' c', .nilIface]) ∧ OwnI w' w.heap.size A' n' c' (trg ys (k : Int)) ∧ Below w.heap.size w w' := by
  refine Kn.Z.cl Tryz.func119 rfl Tryz.ntmps119 rfl (.c 0 rfl (.c 1 rfl .n)) ?_;refine Kn.Z.f fun K1 hK1=>?_;refine Kn.Z.u (.a .c (.a .c .n)) ?_;refine Kn.Z.e hK1 ?_;clear hK1 K1;refine Kn.Z.f fun K2 hK2=>?_;refine Kn.Z.u (.m (.t rfl) (.m (.t rfl) .n)) ?_;refine Kn.Z.c .o (.call (.c (.t rfl) (.c (.t rfl) .n))) Tryz.call137 (row_in k w B g N ys hR hv) fun e w1 hp=>?_;obtain ⟨gt, o, c, rfl, hI, q, rfl⟩ := hp;refine ⟨_,rfl,?_⟩;refine Kn.Z.u (.m (.t rfl) (.x (.t rfl) rfl (.x (.t rfl) rfl (.a (.t rfl) (.a (.t rfl) .n))))) ?_;refine Kn.Z.e hK2 ?_;clear hK2 K2;have hl := trg_len ys (k : Int);have hL := hR.len;have hc := cloneI_any gt o c (trg ys (k : Int)) (w.drewN q) (by omega) hI;intro fa fh;generalize trg ys (k : Int) = ts at hc fh hI hl ⊢
  revert fa
  refine Kn.Z.f fun K3 hK3=>?_;refine Kn.Z.u (.m (.t rfl) .n) ?_;refine Kn.Z.c .o (.call (.c (.t rfl) .n)) Tryz.call138 (hc) fun e w2 hp=>?_;obtain ⟨A', n', c', rfl, hO, hb⟩ := hp;refine ⟨_,rfl,?_⟩;refine Kn.Z.u (.m (.t rfl) (.a (.t rfl) (.a (.t rfl) .n))) ?_;refine Kn.Z.e hK3 ?_;clear hK3 K3;refine Kn.Z.t (.c 5 rfl (.c 4 rfl .n)) ?_;intro fb fg;refine wp_ret ?_;exact Kn.ret2 fg rfl rfl rfl ⟨A', n', c', rfl, hO, (below_of_drew ⟨q, rfl⟩).trans hb⟩
end Go.Proofs.YtchdlgdmomcemaaGreatDoor.Csr
end
section
namespace Go.Proofs.YtchdlgdmomcemaaGreatDoor.Num
open Go Go.RowKit Go.Lib
structure But (X : Nat → Prop) (u u' : World) : Prop where
  size : u.heap.size ≤ u'.heap.size
  block : ∀ b, b < u.heap.size → ¬ X b → u'.heap[b]? = u.heap[b]?
theorem But.of_below {u u' : World} {X : Nat → Prop} (h : Below u.heap.size u u') : But X u u' := ⟨h.size, fun b hb _ => h.block b hb⟩
theorem But.of_setCell (u : World) (a : Addr) (v : Value) : But (fun b => b = a.block) u (u.setCell a v) := ⟨by simp [World.setCell], fun b _ hn => heap_setCell_other u a b v hn⟩
theorem But.mono {X Y : Nat → Prop} {u u' : World} (h : But X u u') (hx : ∀ b, b < u.heap.size → X b → Y b) : But Y u u' := ⟨h.size, fun b hb hn => h.block b hb fun hxb => hn (hx b hb hxb)⟩
theorem But.trans {X : Nat → Prop} {u u' u'' : World} (h : But X u u') (h' : But X u' u'') : But X u u'' := ⟨Nat.le_trans h.size h'.size, fun b hb hn => (h'.block b (Nat.lt_of_lt_of_le hb h.size) hn).trans (h.block b hb hn)⟩
theorem But.cell {X : Nat → Prop} {u u' : World} (h : But X u u') {b o : Nat} (hb : b < u.heap.size) (hn : ¬ X b) : u'.cell? ⟨b, o, none⟩ = u.cell? ⟨b, o, none⟩ := by simp only [World.cell?, h.block b hb hn]
section
variable {X : Nat → Prop} {u u' : World}
theorem But.st (h : But X u u') {g : Nat} {T : TypeId} {cs : Array Value} (hs : St.St u g T cs) (hn : ¬ X g) : St.St u' g T cs := (h.block g hs.lt hn).trans hs
theorem But.own (h : But X u u') {B g n cap : Nat} {l : List Int} (hO : OwnI u B (some ⟨g, 0, none⟩) n cap l) (hn : ¬ X g) : OwnI u' B (some ⟨g, 0, none⟩) n cap l := by
  obtain ⟨h1, h2, h3⟩ := hO;refine ⟨h1, h2, ?_⟩;rcases h3 with ⟨hv, hn0⟩ | ⟨g', cap', cur, hv, hB, hg, rest⟩
  · exact .inl ⟨hv, hn0⟩
  · have hv2 := hv;simp only [Value.slice.injEq, Option.some.injEq, Addr.mk.injEq] at hv2;obtain ⟨⟨e, _, _⟩, _, _⟩ := hv2;subst e;exact .inr ⟨g, cap', cur, hv, hB, (h.block g (Array.getElem?_eq_some_iff.1 hg).1 hn).trans hg, rest⟩
theorem But.iin (h : But X u u') {A : Option Addr} {l : List Int} (hA : IIn u A l) (hn : ∀ b o, A = some ⟨b, o, none⟩ → ¬ X b) : IIn u' A l := fun i hi => by
  obtain ⟨b, o, e, hlt, h1⟩ := hA i hi;exact ⟨b, o, e, Nat.lt_of_lt_of_le hlt h.size, (h.cell hlt (hn b o e)).trans h1⟩
end
section
variable {w0 u u' : World} {A : Option Addr} {n cap : Nat} {ls : List (List Int)} {X Y : Nat → Prop}
theorem elemLs : Own.Elem Tryz.prog 123 42 (.slice none 0 0) 1 24 := ⟨Tryz.underlying123, by kernel_rfl, rfl, by decide⟩
end
end Go.Proofs.YtchdlgdmomcemaaGreatDoor.Num
end
section
namespace Go.Proofs.YtchdlgdmomcemaaGreatDoor.OwB
open Go Go.RowKit Go.Lib Num Oct Gap
def OwnB (w : World) (B : Nat) (v : Value) (l : List UInt8) : Prop := w.ownsRow B 5 1 v l.length (Lib.byteCells l)
theorem OwnB.nil (w : World) (B : Nat) : OwnB w B (.slice none 0 0) [] := World.ownsRow_nil _ _ _ _
theorem OwnB.on {w w' : World} {B : Nat} {v : Value} {l : List UInt8} (h : OwnB w B v l) (hb : Below w.heap.size w w') : OwnB w' B v l := Own.row_on h hb
theorem OwnB.form {w : World} {B : Nat} {v : Value} {l : List UInt8} (h : OwnB w B v l) : ∃ A c, v = .slice A l.length c := by
  rcases h.2 with ⟨hv, hn⟩ | ⟨g, cap, cur, hv, _⟩
  · exact ⟨none, 0, by rw [hv, hn]⟩
  · exact ⟨_, _, hv⟩
noncomputable def uI8 : TypeInfo := (Tryz.prog.info? 5).get (by kernel_rfl)
theorem bcells_app (a b : List UInt8) : Lib.byteCells (a ++ b) = Lib.byteCells a ++ Lib.byteCells b := by simp [Lib.byteCells]
theorem OwnB.push {w0 w : World} {v : Value} {l : List UInt8} (hO : OwnB w w0.heap.size v l) (hb : Below w0.heap.size w0 w) (s : ByteArray) (ty : TypeId) (hl : l.length + s.size ≤ 100000000) :
    ∃ A' c' w', (Builtin.append_ #[136, 9] ty #[v, .string s]).run Tryz.prog w = .ok (.slice A' (l.length + s.size) c') w' ∧ OwnB w' w0.heap.size (.slice A' (l.length + s.size) c') (l ++ s.data.toList) ∧ Below w0.heap.size w0 w' ∧ But (fun b => v.ownBlock = some b) w w' := by
  obtain ⟨v', w', hr, ho, hg, _⟩ := Lib.run_append_own_string (P := Tryz.prog) (w := w) w0.heap.size 136 9 ty 5 uI8 Tryz.underlying136 Tryz.underlying9 (by kernel_rfl) (by kernel_rfl) (by kernel_rfl) (by kernel_rfl) v l.length (Lib.byteCells l) hO s (by unfold maxLen; omega) (by omega) hb.size;have hll : (l ++ s.data.toList).length = l.length + s.size := by rw [List.length_append]; rfl
  have hO2 : OwnB w' w0.heap.size v' (l ++ s.data.toList) := by
    unfold OwnB;rw [hll, bcells_app];exact ho
  obtain ⟨A', c', e⟩ := hO2.form;rw [hll] at e;subst e;exact ⟨A', c', w', hr, hO2, hb.grown hg hb.size (fun k hk => (hO.lt k hk).1), ⟨hg.size, fun b hb hn => hg.block b hb (fun e => hn e.symm)⟩⟩
theorem OwnB.text {w : World} {B : Nat} {v : Value} {l : List UInt8} (h : OwnB w B v l) (hl : 0 < l.length) : (convert 136 9 v).run Tryz.prog w = .ok (.string (bs l)) w := by
  obtain ⟨g, c, rfl, _⟩ := World.ownsRow.form h hl;have hc := World.ownsRow.cells h (g := g) rfl;exact run_convert_bytes_back (P := Tryz.prog) w 136 9 5 ⟨g, 0, none⟩ c l Tryz.underlying136 Tryz.underlying5 Tryz.underlying9 (fun j hj => hc j _ (by simp [Lib.byteCells, List.getElem?_eq_getElem hj]))
theorem OwnB.apart {w : World} {B B' : Nat} {v : Value} {l : List UInt8} (h : OwnB w B v l) {A : Option Addr} {n cap : Nat} {ns : List Int} (hI : OwnI w B' A n cap ns) : ∀ b, v.ownBlock = some b → (Value.slice A n cap).ownBlock ≠ some b := fun b e e2 => by
  rcases h.2 with ⟨hv, _⟩ | ⟨g, c, cur, hv, _, hg, _⟩
  · rw [hv] at e; cases e
  rw [hv] at e;have e : g = b := by simpa [Value.ownBlock] using e
  subst e;rcases hI.2.2 with ⟨hv2, _⟩ | ⟨g2, c2, cur2, hv2, _, hg2, _⟩
  · rw [hv2] at e2; cases e2
  rw [hv2] at e2;have e2 : g2 = g := by simpa [Value.ownBlock] using e2
  subst e2;rw [hg] at hg2;injection hg2 with hg2
  injection hg2 with _ ht
  revert ht
  decide
theorem OwnB.kept {w w' : World} {B : Nat} {v : Value} {l : List UInt8} {r : Option Nat} {g' : Nat} (h : OwnB w B v l) (hk : Own.Kept w w' r g') (hne : v.ownBlock = none ∨ v.ownBlock ≠ r) : OwnB w' B v l := hk.row h hne
theorem OwnB.alloc {w : World} {B : Nat} {v : Value} {l : List UInt8} (h : OwnB w B v l) (o : Obj) : OwnB (w.alloc o) B v l := World.ownsRow.alloc h o
end Go.Proofs.YtchdlgdmomcemaaGreatDoor.OwB
end
section
namespace Go.Proofs.YtchdlgdmomcemaaGreatDoor.Shd
open Go Go.RowKit Go.Lib Oct Num Gap OwB Edg Csr
def nodesB (N f m : Int) : Bool := decide (1 ≤ m ∧ 0 ≤ f ∧ f ≤ N - m)
theorem nodesB_yes {N f m : Int} (h : 1 ≤ m ∧ 0 ≤ f ∧ f ≤ N - m) : nodesB N f m = true := decide_eq_true h
theorem shN_pos (l : List Int) (h : 0 < l.length) : 0 < (shN l).length := by
  cases l with
  | nil => simp at h
  | cons x l =>
    unfold shN;rw [List.flatMap_cons, List.length_append];have := short_pos x.toNat;omega
theorem nodesB_no {N f m : Int} (h : ¬ (1 ≤ m ∧ 0 ≤ f ∧ f ≤ N - m)) : nodesB N f m = false := decide_eq_false h
set_option maxRecDepth 100000 in
set_option maxHeartbeats 2000000 in
theorem areNodes_any (N f m : Int) (w : World) (hN0 : 0 ≤ N) (hN : N ≤ 4096) (hm : m ≤ 9223372036854775807) :
    Calls Tryz.prog 94 #[.int .i64 N, .int .i64 f, .int .i64 m] w fun e w' => e = .returned (.bool (nodesB N f m)) ∧ w = w' := by
  refine Kn.Z.cl Tryz.func94 rfl Tryz.ntmps94 rfl (.c 0 rfl (.c 1 rfl (.c 2 rfl .n))) ?_;refine Kn.Z.f fun K1 hK1=>?_;refine Kn.Z.u (.a .c .n) ?_;refine Kn.Z.e hK1 ?_;clear hK1 K1
  by_cases h1 : m < 1
  · have q1 : ¬ 1 ≤ m := by omega
    refine Kn.Z.f fun K2 hK2=>?_;refine Kn.Z.u (.m (.t rfl) .n) ?_;refine Kn.Z.s .o (.bin (.t rfl) .c) fun Ko Kp=>?_;go_simp;(try go_bits);refine Kp _ _ ?_;clear Kp Ko;refine Kn.Z.u (.m (.t rfl) (.k (.s rfl rfl rfl) (.k (.s rfl rfl rfl) (.e .o (.pick (.t rfl) .c) (.m (.t rfl) (.k (.s rfl rfl rfl) (.k (.s rfl rfl rfl) (.k (.s rfl rfl rfl) (.k (.s rfl rfl rfl) (.k (.s rfl rfl rfl) (.e .o (.pick (.t rfl) .c) (.a (.t rfl) .n)))))))))))) ?_;refine Kn.Z.e hK2 ?_;clear hK2 K2;refine Kn.Z.t (.c 6 rfl .n) ?_;intro fb fg;refine wp_ret ?_;exact Kn.ret1 fg rfl rfl ⟨by rw [nodesB_no (by omega)], rfl⟩
  have h1' : 1 ≤ m := by omega
  by_cases h2 : f < 0
  · have q1 : ¬ 0 ≤ f := by omega
    refine Kn.Z.f fun K2 hK2=>?_;refine Kn.Z.u (.m (.t rfl) .n) ?_;refine Kn.Z.s .o (.bin (.t rfl) .c) fun Ko Kp=>?_;go_simp;(try go_bits);refine Kp _ _ ?_;clear Kp Ko;refine Kn.Z.u (.m (.t rfl) (.e (.s rfl rfl rfl) (.move (.t rfl)) .n)) ?_;refine Kn.Z.s (.s rfl rfl rfl) (.bin (.t rfl) .c) fun Ko Kp=>?_;go_simp;(try go_bits);refine Kp _ _ ?_;clear Kp Ko;refine Kn.Z.u (.e .o (.pick (.t rfl) (.t rfl)) (.m (.t rfl) (.k (.s rfl rfl rfl) (.k (.s rfl rfl rfl) (.k (.s rfl rfl rfl) (.k (.s rfl rfl rfl) (.k (.s rfl rfl rfl) (.e .o (.pick (.t rfl) .c) (.a (.t rfl) .n))))))))) ?_;refine Kn.Z.e hK2 ?_;clear hK2 K2;refine Kn.Z.t (.c 6 rfl .n) ?_;intro fb fg;refine wp_ret ?_;exact Kn.ret1 fg rfl rfl ⟨by rw [nodesB_no (by omega)], rfl⟩
  have h2' : 0 ≤ f := by omega
  obtain ⟨z, hz⟩ : ∃ z, N - m = z := ⟨_, rfl⟩;have hzb : -9223372036854775807 ≤ z ∧ z ≤ 4096 := by omega
  by_cases h3 : f ≤ z
  · refine Kn.Z.f fun K2 hK2=>?_;refine Kn.Z.u (.m (.t rfl) .n) ?_;refine Kn.Z.s .o (.bin (.t rfl) .c) fun Ko Kp=>?_;go_simp;(try go_bits);refine Kp _ _ ?_;clear Kp Ko;refine Kn.Z.u (.m (.t rfl) (.e (.s rfl rfl rfl) (.move (.t rfl)) .n)) ?_;refine Kn.Z.s (.s rfl rfl rfl) (.bin (.t rfl) .c) fun Ko Kp=>?_;go_simp;(try go_bits);refine Kp _ _ ?_;clear Kp Ko;refine Kn.Z.u (.e .o (.pick (.t rfl) (.t rfl)) (.m (.t rfl) (.e (.s rfl rfl rfl) (.move (.t rfl)) (.e (.s rfl rfl rfl) (.move (.t rfl)) (.e (.s rfl rfl rfl) (.move (.t rfl)) .n))))) ?_;refine Kn.Z.s (.s rfl rfl rfl) (.bin (.t rfl) (.t rfl)) fun Ko Kp=>?_;go_simp;(try go_bits);try rw [hz]
    try go_simp
    (try go_bits);refine Kp _ _ ?_;clear Kp Ko;refine Kn.Z.s (.s rfl rfl rfl) (.bin (.t rfl) (.t rfl)) fun Ko Kp=>?_;go_simp;(try go_bits);refine Kp _ _ ?_;clear Kp Ko;refine Kn.Z.u (.e .o (.pick (.t rfl) (.t rfl)) (.a (.t rfl) .n)) ?_;refine Kn.Z.e hK2 ?_;clear hK2 K2;refine Kn.Z.t (.c 6 rfl .n) ?_;intro fb fg;refine wp_ret ?_;exact Kn.ret1 fg rfl rfl ⟨by rw [nodesB_yes (by omega)], rfl⟩
  refine Kn.Z.f fun K2 hK2=>?_;refine Kn.Z.u (.m (.t rfl) .n) ?_;refine Kn.Z.s .o (.bin (.t rfl) .c) fun Ko Kp=>?_;go_simp;(try go_bits);refine Kp _ _ ?_;clear Kp Ko;refine Kn.Z.u (.m (.t rfl) (.e (.s rfl rfl rfl) (.move (.t rfl)) .n)) ?_;refine Kn.Z.s (.s rfl rfl rfl) (.bin (.t rfl) .c) fun Ko Kp=>?_;go_simp;(try go_bits);refine Kp _ _ ?_;clear Kp Ko;refine Kn.Z.u (.e .o (.pick (.t rfl) (.t rfl)) (.m (.t rfl) (.e (.s rfl rfl rfl) (.move (.t rfl)) (.e (.s rfl rfl rfl) (.move (.t rfl)) (.e (.s rfl rfl rfl) (.move (.t rfl)) .n))))) ?_;refine Kn.Z.s (.s rfl rfl rfl) (.bin (.t rfl) (.t rfl)) fun Ko Kp=>?_;go_simp;(try go_bits);try rw [hz]
  try go_simp
  (try go_bits);refine Kp _ _ ?_;clear Kp Ko;refine Kn.Z.s (.s rfl rfl rfl) (.bin (.t rfl) (.t rfl)) fun Ko Kp=>?_;go_simp;(try go_bits);refine Kp _ _ ?_;clear Kp Ko;refine Kn.Z.u (.e .o (.pick (.t rfl) (.t rfl)) (.a (.t rfl) .n)) ?_;refine Kn.Z.e hK2 ?_;clear hK2 K2;refine Kn.Z.t (.c 6 rfl .n) ?_;intro fb fg;refine wp_ret ?_;exact Kn.ret1 fg rfl rfl ⟨by rw [nodesB_no (by omega)], rfl⟩
set_option maxRecDepth 100000 in
set_option maxHeartbeats 2000000 in
theorem sfault_any (p : Int) (T : TypeId) (X : Value) (w : World) :
    Calls Tryz.prog 72 #[.int .i64 p, .iface T X] w fun e w' => e = .returned (flt p (.iface T X)) ∧ w = w' := by
  refine Kn.Z.cl Tryz.func72 rfl Tryz.ntmps72 rfl (.c 0 rfl (.c 1 rfl .n)) ?_;refine Kn.Z.f fun K1 hK1=>?_;refine Kn.Z.u (.a .c .n) ?_;refine Kn.Z.e hK1 ?_;clear hK1 K1;refine Kn.Z.f fun K2 hK2=>?_;refine Kn.Z.u (.m (.t rfl) (.m (.t rfl) .n)) ?_;refine Kn.Z.s .o (.build (.c (.t rfl) (.c (.t rfl) .n))) fun Ko Kp=>?_;go_simp;(try go_bits);refine Kp _ _ ?_;clear Kp Ko;refine Kn.Z.s .o (.makeInterface (.t rfl)) fun Ko Kp=>?_;go_simp;(try go_bits);refine Kp _ _ ?_;clear Kp Ko;refine Kn.Z.u (.a (.t rfl) .n) ?_;refine Kn.Z.e hK2 ?_;clear hK2 K2;intro fa fh;refine wp_ret ?_;exact Kn.ret1 fh rfl rfl ⟨rfl, rfl⟩
set_option maxRecDepth 100000 in
set_option maxHeartbeats 2000000 in
theorem putShorts_any (A : Option Addr) (ca : Nat) (l : List Int) (w : World) (hl0 : 0 < l.length) (hl : l.length ≤ 1000000) (hA : IIn w A l) (hM : ∀ x ∈ l, 0 ≤ x ∧ x ≤ 72057594037927935) :
    Calls Tryz.prog 96 #[.slice A l.length ca] w fun e w' => e = .returned (.tuple #[.string (bs (shN l)), .nilIface]) ∧ Below w.heap.size w w' := by
  have HA := Lib.hid hA;have HM := Lib.hid hM;clear hA hM;refine Kn.Z.cl Tryz.func96 rfl Tryz.ntmps96 rfl (.c 0 rfl .n) ?_;refine Kn.Z.f fun K1 hK1=>?_;refine Kn.Z.u (.a .c (.a .c .n)) ?_;refine Kn.Z.e hK1 ?_;clear hK1 K1;refine Kn.Z.f fun K2 hK2=>?_;refine Kn.Z.u (.a .c .n) ?_;refine Kn.Z.e hK2 ?_;clear hK2 K2;refine Kn.Z.q fun K3 hK3=>?_;refine Kn.Z.f fun K4 hK4=>?_;refine Kn.Z.u (.m (.t rfl) .n) ?_;refine Kn.Z.s .o (.len (.t rfl)) fun Ko Kp=>?_;go_simp;(try go_bits);refine Kp _ _ ?_;clear Kp Ko;refine Kn.Z.u (.m .c .n) ?_;refine Kn.Z.e hK4 ?_;clear hK4 K4;refine Kn.Z.b ?_;intro fa fh;refine Kn.loop (fun m fr u => ∃ (k : Nat) (Ab : Option Addr) (cb : Nat), Kn.Kn 29 [(11, .int .i64 (k : Int)), (10, .int .i64 (l.length : Int)), (9, .slice A l.length ca), (4, .slice Ab (shN (l.take k)).length cb)] fr ∧ k + m = l.length ∧ Hid ((shN (l.take k)).length ≤ 9 * k) ∧ Hid (OwnB u w.heap.size (.slice Ab (shN (l.take k)).length cb) (shN (l.take k))) ∧ Hid (Below w.heap.size w u)) l.length ⟨0, none, 0, fh.cut (.u 11 rfl rfl (.c 10 rfl (.c 9 rfl (.u 4 rfl rfl .n)))), by omega, Lib.hid (by simp [shN]), Lib.hid (OwB.OwnB.nil _ _), Lib.hid (Below.refl _ _)⟩ ?_;clear fh fa;intro m5 fb u hI Kl5 hKl5;obtain ⟨k, Ab, cb, fg, hk, HLn, HO, HB⟩ := hI
  by_cases hlt : k < l.length
  · obtain ⟨ba, oa, rfl, -, ca1⟩ := (HA.out.on HB.out) k hlt;obtain ⟨x, hx⟩ : ∃ x, nt l k = x := ⟨_, rfl⟩;rw [hx] at ca1;have hxb : 0 ≤ x ∧ x ≤ 72057594037927935 := by rw [← hx, nt_at l k hlt]; exact HM.out _ (List.getElem_mem hlt)
    have hpt := putShort_ok x u hxb.1 hxb.2;obtain ⟨S, hS⟩ : ∃ S, bs (short x.toNat) = S := ⟨_, rfl⟩;rw [show (⟨(short x.toNat).toArray⟩ : ByteArray) = S from hS] at hpt;have hSs : S.size ≤ 9 := by rw [← hS, bs_size]; exact short_len9 _ (by omega)
    have HP : Hid (shN (l.take (k + 1)) = shN (l.take k) ++ S.data.toList) := Lib.hid (by rw [take_nt l k hlt, shN_app, hx, ← hS, bs_data]; simp [shN]);clear hS hx
    revert fb
    refine Kn.Z.f fun K6 hK6=>?_;refine Kn.Z.s .o (.bin (.t rfl) (.t rfl)) fun Ko Kp=>?_;go_simp;(try go_bits);refine Kp _ _ ?_;clear Kp Ko;refine Kn.Z.e hK6 ?_;clear hK6 K6;refine Kn.Z.q fun K7 hK7=>?_;refine Kn.Z.y (.t rfl) ?_;refine Kn.Z.j hK7 ?_;clear hK7 K7;refine Kn.Z.t (.c 11 rfl (.c 10 rfl (.c 9 rfl (.c 4 rfl .n)))) ?_;refine Kn.Z.q fun K8 hK8=>?_;refine Kn.Z.b ?_;refine Kn.Z.f fun K9 hK9=>?_;refine Kn.Z.s .o (.indexAddr (.t rfl) (.t rfl)) fun Ko Kp=>?_;go_simp;(try go_bits);refine Kp _ _ ?_;clear Kp Ko;refine Kn.Z.s .o (.load (.t rfl)) fun Ko Kp=>?_;go_simp;(try go_bits);refine Kp _ _ ?_;clear Kp Ko;refine Kn.Z.u (.a (.t rfl) .n) ?_;refine Kn.Z.e hK9 ?_;clear hK9 K9;refine Kn.Z.f fun K10 hK10=>?_;refine Kn.Z.u (.m (.t rfl) .n) ?_;refine Kn.Z.c .o (.call (.c (.t rfl) .n)) Tryz.call121 (hpt) fun e u1 hp=>?_;obtain ⟨rfl, hb1⟩ := hp;refine ⟨_,rfl,?_⟩;refine Kn.Z.u (.m (.t rfl) (.x (.t rfl) rfl (.x (.t rfl) rfl (.a (.t rfl) (.a (.t rfl) .n))))) ?_;refine Kn.Z.e hK10 ?_;clear hK10 K10;clear hpt ca1;refine Kn.Z.q fun K11 hK11=>?_;refine Kn.Z.f fun K12 hK12=>?_;refine Kn.Z.u (.m (.t rfl) .n) ?_;refine Kn.Z.s .o (.bin (.t rfl) .c) fun Ko Kp=>?_;go_simp;(try go_bits);refine Kp _ _ ?_;clear Kp Ko;refine Kn.Z.e hK12 ?_;clear hK12 K12;refine Kn.Z.no (.t rfl) ?_;refine Kn.Z.j hK11 ?_;clear hK11 K11;refine Kn.Z.t (.c 7 rfl (.c 11 rfl (.c 10 rfl (.c 9 rfl (.c 4 rfl .n))))) ?_;obtain ⟨Ab2, cb2, u2, hrun, hO2, hB2, -⟩ := (HO.out.on hb1).push (HB.out.trans (hb1.mono HB.out.size)) S 136 (by have := HLn.out; omega);have HLe : Hid ((shN (l.take k)).length + S.size = (shN (l.take (k + 1))).length) := Lib.hid (by rw [HP.out, List.length_append]; rfl);have HO2 : Hid (OwnB u2 w.heap.size (.slice Ab2 (shN (l.take (k + 1))).length cb2) (shN (l.take (k + 1)))) := Lib.hid (by rw [HP.out, List.length_append]; exact hO2);have HB2 := Lib.hid hB2;have HL2 : Hid ((shN (l.take (k + 1))).length ≤ 9 * (k + 1)) := Lib.hid (by have := HLn.out; have e : S.data.toList.length = S.size := rfl; rw [HP.out, List.length_append, e]; omega);clear hO2 hB2 hb1;refine Kn.Z.r ?_;refine Kn.Z.u (.m (.t rfl) (.m (.t rfl) .n)) ?_;refine Kn.Z.k .o (.append (.c (.t rfl) (.c (.t rfl) .n))) hrun ?_;refine Kn.Z.u (.a (.t rfl) .n) ?_;intro fa fh;refine wpList_nil ?_;refine Kn.block_normal ?_;refine hK8 _ _ ?_;clear hK8 K8;clear hrun
    revert fa
    refine Kn.Z.r ?_;refine Kn.Z.s .o (.bin (.t rfl) .c) fun Ko Kp=>?_;go_simp;(try go_bits);refine Kp _ _ ?_;clear Kp Ko;refine Kn.Z.u (.m (.t rfl) .n) ?_;intro fa fh;refine wpList_nil ?_;replace fh := fh.cut (.c 11 rfl (.c 4 rfl (.c 10 rfl (.c 9 rfl .n))));exact hKl5 (m5 - 1) _ _ (by omega) ⟨k + 1, Ab2, cb2, fh.cut (.u 11 rfl (by go_num) (.c 10 rfl (.c 9 rfl (.u 4 rfl (by rw [HLe.out]) .n)))), by omega, HL2, HO2, HB2⟩
  obtain rfl : k = l.length := by omega
  have hcv := HO.out.text (by rw [List.take_length]; exact shN_pos _ hl0)
  revert fb
  refine Kn.Z.f fun K6 hK6=>?_;refine Kn.Z.s .o (.bin (.t rfl) (.t rfl)) fun Ko Kp=>?_;go_simp;(try go_bits);refine Kp _ _ ?_;clear Kp Ko;refine Kn.Z.e hK6 ?_;clear hK6 K6;refine Kn.Z.q fun K7 hK7=>?_;refine Kn.Z.no (.t rfl) ?_;refine Kn.Z.t (.c 11 rfl (.c 10 rfl (.c 9 rfl (.c 4 rfl .n)))) ?_;intro fa fh;refine wp_exit ?_;refine Kn.then_exit ?_;clear hK7 K7;refine Kn.then_exit ?_;clear hKl5 Kl5;refine Kn.block_exit ?_;refine hK3 _ _ ?_;clear hK3 K3
  revert fa
  refine Kn.Z.f fun K8 hK8=>?_;refine Kn.Z.u (.m (.t rfl) .n) ?_;refine Kn.Z.k .o (.convert (.t rfl)) hcv ?_;refine Kn.Z.u (.a (.t rfl) (.a .c .n)) ?_;refine Kn.Z.e hK8 ?_;clear hK8 K8;intro fa fh;refine wp_ret ?_;exact Kn.ret2 fh rfl rfl rfl ⟨by rw [List.take_length], HB.out⟩
theorem OwnI_le {w : World} {B n cap : Nat} {A : Option Addr} {l : List Int} (h : OwnI w B A n cap l) : n ≤ cap ∧ cap ≤ 9223372036854775807 := by
  rcases h.2.2 with ⟨hv, hn⟩ | ⟨g, cap', cur, hv, _, _, h1, h2, _⟩
  · injection hv with _ e1 e2
    exact ⟨by omega, by omega⟩
  · injection hv with _ e1 e2
    subst e2;unfold maxLen at h2;exact ⟨h1, by omega⟩
set_option maxRecDepth 100000 in
set_option maxHeartbeats 2000000 in
theorem putRow_in (k : Nat) (w : World) (B g N : Nat) (ys : List (Int × Int)) (hR : Rep w B g N ys) (hk : k < N) :
    Calls Tryz.prog 95 #[.pointer (some ⟨g, 0, none⟩), .int .i64 (k : Int)] w fun e w' => e = .returned (.tuple #[.string (bs (putF (k : Int) (trg ys (k : Int)) (trg ys (k : Int)).length)), .nilIface]) ∧ Below w.heap.size w w' := by
  refine Kn.Z.cl Tryz.func95 rfl Tryz.ntmps95 rfl (.c 0 rfl (.c 1 rfl .n)) ?_;refine Kn.Z.f fun K1 hK1=>?_;refine Kn.Z.u (.a .c (.a .c .n)) ?_;refine Kn.Z.e hK1 ?_;clear hK1 K1;have ht := targets_in k w B g N ys hR hk;have hno := fun u h => nodes_any u B g N ys h;have hgd := goodT_trg hR.srt hR.good (k : Int);have hN := hR.hi;have HNo := Lib.hid hno;have HR := Lib.hid hR;clear hno hR;refine Kn.Z.f fun K2 hK2=>?_;refine Kn.Z.u (.m (.t rfl) (.m (.t rfl) .n)) ?_;refine Kn.Z.c .o (.call (.c (.t rfl) (.c (.t rfl) .n))) Tryz.call119 (ht) fun e w1 hp=>?_;obtain ⟨A', n', c', rfl, hO, hb1⟩ := hp;refine ⟨_,rfl,?_⟩;refine Kn.Z.u (.m (.t rfl) (.x (.t rfl) rfl (.x (.t rfl) rfl (.a (.t rfl) (.a (.t rfl) .n))))) ?_;refine Kn.Z.e hK2 ?_;clear hK2 K2;have hn1 := hO.1;subst hn1;have hle : (trg ys (k : Int)).length ≤ c' ∧ c' ≤ 9223372036854775807 := OwnI_le hO;have hp := gPut_good (N : Int) (k : Int) A' c' (trg ys (k : Int)) w1 (by omega) (by omega) (by omega) hle.1 hle.2 hO.iin hgd;have hno := HNo.out w1 (HR.out.on hb1);have HB1 := Lib.hid hb1;generalize putF (k : Int) (trg ys (k : Int)) (trg ys (k : Int)).length = Z at hp ⊢;generalize (trg ys (k : Int)).length = L at *;clear hO hb1 ht hgd hle;refine Kn.Z.q fun K3 hK3=>?_;refine Kn.Z.f fun K4 hK4=>?_;refine Kn.Z.u (.m (.t rfl) .n) ?_;refine Kn.Z.s .o (.bin (.t rfl) .c) fun Ko Kp=>?_;go_simp;(try go_bits);refine Kp _ _ ?_;clear Kp Ko;refine Kn.Z.e hK4 ?_;clear hK4 K4;refine Kn.Z.no (.t rfl) ?_;refine Kn.Z.j hK3 ?_;clear hK3 K3;refine Kn.Z.f fun K5 hK5=>?_;refine Kn.Z.u (.m (.t rfl) .n) ?_;refine Kn.Z.c .o (.call (.c (.t rfl) .n)) Tryz.call69 (hno) fun e w2 hp=>?_;obtain ⟨rfl, rfl⟩ := hp;refine ⟨_,rfl,?_⟩;refine Kn.Z.u (.m (.t rfl) (.m (.t rfl) .n)) ?_;refine Kn.Z.c .o (.call (.c (.t rfl) (.c (.t rfl) (.c (.t rfl) .n)))) Tryz.call120 (hp) fun e w2 hp=>?_;obtain ⟨rfl, hb2⟩ := hp;refine ⟨_,rfl,?_⟩;refine Kn.Z.u (.x (.t rfl) rfl (.x (.t rfl) rfl (.a (.t rfl) (.a (.t rfl) .n)))) ?_;refine Kn.Z.e hK5 ?_;clear hK5 K5;refine Kn.Z.t (.c 5 rfl (.c 4 rfl .n)) ?_;intro fb fg;refine wp_ret ?_;exact Kn.ret2 fg rfl rfl rfl ⟨rfl, HB1.out.trans (hb2.mono HB1.out.size)⟩
theorem own_block (w : World) (T : TypeId) (xs : Array Value) {B : Nat} (hB : B ≤ w.heap.size) (hs : xs.size ≤ 1000) : (w.alloc (.cells xs T)).ownsRow B T 1 (.slice (some ⟨w.heap.size, 0, none⟩) xs.size xs.size) xs.size xs.toList :=
  ⟨by simp, .inr ⟨w.heap.size, xs.size, xs, rfl, hB, heap_alloc_new _ _, Nat.le_refl _, by unfold maxLen; omega, by simp, by rw [Nat.mul_one, ← Array.length_toList, List.take_length]⟩⟩
set_option maxRecDepth 100000 in
set_option maxHeartbeats 2000000 in
theorem shPut_yes (f n : Nat) (w : World) (B g N : Nat) (ys : List (Int × Int)) (hR : Rep w B g N ys) (hn : 1 ≤ n) (hfn : f + n ≤ N) :
    Calls Tryz.prog 70 #[.pointer (some ⟨g, 0, none⟩), .int .i64 (f : Int), .int .i64 (n : Int)] w fun e w' => e = .returned (.tuple #[.string (bs (shF f n (rowsF ys f))), .nilIface]) ∧ Below w.heap.size w w' := by
  refine Kn.Z.cl Tryz.func70 rfl Tryz.ntmps70 rfl (.c 0 rfl (.c 1 rfl (.c 2 rfl .n))) ?_;refine Kn.Z.f fun K1 hK1=>?_;refine Kn.Z.u (.a .c (.a .c .n)) ?_;refine Kn.Z.e hK1 ?_;clear hK1 K1;have hno := nodes_any w B g N ys hR;have hN := hR.hi;have har := areNodes_any (N : Int) (f : Int) (n : Int) w (by omega) (by omega) (by omega);rw [nodesB_yes (by omega)] at har;obtain ⟨R, hRf⟩ : ∃ R, rowsF ys f = R := ⟨_, rfl⟩;have HMx : Hid (∀ k, k ≤ n → (rwF (f : Int) R k).length ≤ 216864) := Lib.hid (fun k hk => by rw [← hRf]; exact rwF_max hR.srt hR.good f k (by omega));have HRk : Hid (∀ k, R k = trg ys ((f : Int) + (k : Int))) := Lib.hid (fun k => by rw [← hRf]; rfl);have HR := Lib.hid hR;intro fa fh;rw [hRf];clear hR hRf
  revert fa
  refine Kn.Z.q fun K2 hK2=>?_;refine Kn.Z.f fun K3 hK3=>?_;refine Kn.Z.u (.m (.t rfl) .n) ?_;refine Kn.Z.s .o (.bin (.t rfl) .c) fun Ko Kp=>?_;go_simp;(try go_bits);refine Kp _ _ ?_;clear Kp Ko;refine Kn.Z.e hK3 ?_;clear hK3 K3;refine Kn.Z.no (.t rfl) ?_;refine Kn.Z.j hK2 ?_;clear hK2 K2;refine Kn.Z.q fun K4 hK4=>?_;refine Kn.Z.f fun K5 hK5=>?_;refine Kn.Z.u (.m (.t rfl) .n) ?_;refine Kn.Z.c .o (.call (.c (.t rfl) .n)) Tryz.call69 (hno) fun e w1 hp=>?_;obtain ⟨rfl, rfl⟩ := hp;refine ⟨_,rfl,?_⟩;refine Kn.Z.u (.m (.t rfl) (.m (.t rfl) .n)) ?_;refine Kn.Z.c .o (.call (.c (.t rfl) (.c (.t rfl) (.c (.t rfl) .n)))) Tryz.call94 (har) fun e w1 hp=>?_;obtain ⟨rfl, rfl⟩ := hp;refine ⟨_,rfl,?_⟩;refine Kn.Z.s .o (.un (.t rfl)) fun Ko Kp=>?_;go_simp;(try go_bits);refine Kp _ _ ?_;clear Kp Ko;refine Kn.Z.e hK5 ?_;clear hK5 K5;refine Kn.Z.no (.t rfl) ?_;refine Kn.Z.j hK4 ?_;clear hK4 K4;clear hno har;obtain ⟨u1, gn, hu1, hgn⟩ : ∃ u1 gn, w.alloc (.cells #[.int .i64 (f : Int), .int .i64 (n : Int)] 3) = u1 ∧ w.heap.size = gn := ⟨_, _, rfl, rfl⟩;have HO1 : Hid (OwnI u1 w.heap.size (some ⟨gn, 0, none⟩) 2 2 ([(f : Int), (n : Int)] ++ nmF (f : Int) R 0)) := Lib.hid (by rw [← hu1, ← hgn]; exact ⟨rfl, own_block _ _ #[.int .i64 (f : Int), .int .i64 (n : Int)] (Nat.le_refl _) (by simp)⟩);have HB1 : Hid (Below w.heap.size w u1) := Lib.hid (by rw [← hu1]; exact (Below.refl _ w).alloc (Nat.le_refl _) _);refine Kn.Z.f fun K6 hK6=>?_;refine Kn.Z.u (.m (.t rfl) (.m (.t rfl) .n)) ?_;refine Kn.Z.s .o (.buildSlice (.c (.t rfl) (.c (.t rfl) .n))) fun Ko Kp=>?_;go_simp;try rw [hu1]
  try rw [hgn]
  refine Kp _ _ ?_;clear Kp Ko;refine Kn.Z.u (.a (.t rfl) .n) ?_;refine Kn.Z.e hK6 ?_;clear hK6 K6;refine Kn.Z.t (.c 8 rfl (.c 7 rfl (.c 6 rfl (.c 0 rfl (.c 1 rfl (.c 2 rfl .n)))))) ?_;clear hu1 hgn;refine Kn.Z.f fun K7 hK7=>?_;refine Kn.Z.u (.a .c .n) ?_;refine Kn.Z.e hK7 ?_;clear hK7 K7;refine Kn.Z.q fun K8 hK8=>?_;refine Kn.Z.f fun K9 hK9=>?_;refine Kn.Z.u (.m (.t rfl) (.m .c .n)) ?_;refine Kn.Z.e hK9 ?_;clear hK9 K9;refine Kn.Z.b ?_;intro fb fg;refine Kn.loop (fun m fr u => ∃ (k gn nn cn nb cb : Nat) (Ab : Option Addr), Kn.Kn 67 [(29, .int .i64 (k : Int)), (28, .int .i64 (n : Int)), (8, .slice (some ⟨gn, 0, none⟩) nn cn), (9, .slice Ab nb cb), (0, .pointer (some ⟨g, 0, none⟩)), (1, .int .i64 (f : Int))] fr ∧ k + m = n ∧ Hid (nn = 2 + (nmF (f : Int) R k).length) ∧ Hid (nb = (rwF (f : Int) R k).length) ∧ Hid (OwnI u w.heap.size (some ⟨gn, 0, none⟩) nn cn ([(f : Int), (n : Int)] ++ nmF (f : Int) R k)) ∧ Hid (OwnB u w.heap.size (.slice Ab nb cb) (rwF (f : Int) R k)) ∧ Hid (Below w.heap.size w u)) n ⟨0, gn, 2, 2, 0, 0, none, fg.cut (.u 29 rfl rfl (.c 28 rfl (.c 8 rfl (.c 9 rfl (.c 0 rfl (.c 1 rfl .n)))))), by omega, Lib.hid rfl, Lib.hid rfl, HO1, Lib.hid (OwB.OwnB.nil _ _), HB1⟩ ?_;clear fg fb;intro m10 fa u hI Kl10 hKl10;obtain ⟨k, gn, nn, cn, nb, cb, Ab, fh, hk, HNn, HNb, HN, HO, HB⟩ := hI
  by_cases hlt : k < n
  · have hmx := HMx.out k (by omega);have hmx1 := HMx.out (k + 1) (by omega);have hnn : nn ≤ 2 + n := by have := nmF_len (f : Int) R k; have := HNn.out; omega
    have hnb : nb ≤ 216864 := by rw [HNb.out]; exact hmx
    obtain ⟨v, hv⟩ : ∃ v, f + k = v := ⟨_, rfl⟩;have hvI : (f : Int) + (k : Int) = (v : Int) := by omega
    have hvN : v < N := by omega
    have hr8 : (k : Int).tmod 8 = (k : Int) % 8 := Int.tmod_eq_emod_of_nonneg (by omega);obtain ⟨Q, hQ⟩ : ∃ Q, bs (putF (v : Int) (trg ys (v : Int)) (trg ys (v : Int)).length) = Q := ⟨_, rfl⟩
    have HRw : Hid (rwF (f : Int) R (k + 1) = rwF (f : Int) R k ++ Q.data.toList) := Lib.hid (by
      rw [← hQ, bs_data, ← hvI, ← HRk.out k]; rfl)
    have hQs : (rwF (f : Int) R k).length + Q.size ≤ 216864 := by
      have e : Q.data.toList.length = Q.size := rfl;rw [HRw.out, List.length_append, e] at hmx1;exact hmx1
    have HQ := Lib.hid hQ;clear hQ hmx hmx1 hv
    by_cases h8 : k % 8 = 0
    · have q8 : ((k : Int) % 8 == 0) = true := by rw [beq_iff_eq]; omega
      obtain ⟨g2, c2, u2, hrun, hO2, hB2, hK2⟩ := Num.push1 w u 42 (some ⟨gn, 0, none⟩) nn cn ([(f : Int), (n : Int)] ++ nmF (f : Int) R k) (nb : Int) HN.out HB.out (by omega);have HNm : Hid (nmF (f : Int) R (k + 1) = nmF (f : Int) R k ++ [(nb : Int)]) := Lib.hid (by show nmF (f : Int) R k ++ (if k % 8 = 0 then [((rwF (f : Int) R k).length : Int)] else []) = _; rw [if_pos h8, HNb.out]);have HN2 : Hid (OwnI u2 w.heap.size (some ⟨g2, 0, none⟩) (nn + 1) c2 ([(f : Int), (n : Int)] ++ nmF (f : Int) R (k + 1))) := Lib.hid (by rw [HNm.out, ← List.append_assoc]; exact hO2);have HNn2 : Hid (nn + 1 = 2 + (nmF (f : Int) R (k + 1)).length) := Lib.hid (by rw [HNm.out, List.length_append, HNn.out]; simp; omega)
      have HO2 := Lib.hid ((HO.out.alloc (.cells #[.int .i64 (nb : Int)] 3)).kept hK2 (by
        rcases hq : (Value.slice Ab nb cb).ownBlock with _ | b
        · exact .inl rfl
        · exact .inr (fun e => HO.out.apart HN.out b hq e.symm)))
      have HB2 := Lib.hid hB2;clear hO2 hB2 hK2
      revert fa
      refine Kn.Z.f fun K11 hK11=>?_;refine Kn.Z.s .o (.bin (.t rfl) (.t rfl)) fun Ko Kp=>?_;go_simp;(try go_bits);refine Kp _ _ ?_;clear Kp Ko;refine Kn.Z.e hK11 ?_;clear hK11 K11;refine Kn.Z.q fun K12 hK12=>?_;refine Kn.Z.y (.t rfl) ?_;refine Kn.Z.j hK12 ?_;clear hK12 K12;refine Kn.Z.t (.c 29 rfl (.c 28 rfl (.c 8 rfl (.c 9 rfl (.c 0 rfl (.c 1 rfl .n)))))) ?_;refine Kn.Z.q fun K13 hK13=>?_;refine Kn.Z.b ?_;refine Kn.Z.f fun K14 hK14=>?_;refine Kn.Z.u (.m (.t rfl) (.a (.t rfl) .n)) ?_;refine Kn.Z.e hK14 ?_;clear hK14 K14;refine Kn.Z.q fun K15 hK15=>?_;refine Kn.Z.f fun K16 hK16=>?_;refine Kn.Z.u (.m (.t rfl) .n) ?_;refine Kn.Z.s .o (.bin (.t rfl) .c) fun Ko Kp=>?_;go_simp;(try go_bits);try rw [hr8]
      try go_simp
      (try go_bits);refine Kp _ _ ?_;clear Kp Ko;refine Kn.Z.s .o (.bin (.t rfl) .c) fun Ko Kp=>?_;go_simp;(try go_bits);refine Kp _ _ ?_;clear Kp Ko;refine Kn.Z.e hK16 ?_;clear hK16 K16;refine Kn.Z.y (.t rfl) ?_;refine Kn.Z.r ?_;refine Kn.Z.u (.m (.t rfl) (.m (.t rfl) .n)) ?_;refine Kn.Z.s .o (.len (.t rfl)) fun Ko Kp=>?_;go_simp;(try go_bits);refine Kp _ _ ?_;clear Kp Ko;refine Kn.Z.s .o (.buildSlice (.c (.t rfl) .n)) fun Ko Kp=>?_;go_simp;(try go_bits);refine Kp _ _ ?_;clear Kp Ko;refine Kn.Z.k .o (.append (.c (.t rfl) (.c (.t rfl) .n))) hrun ?_;refine Kn.Z.u (.a (.t rfl) .n) ?_;refine Kn.Z.e hK15 ?_;clear hK15 K15;refine Kn.Z.t (.c 8 rfl (.c 10 rfl (.c 29 rfl (.c 28 rfl (.c 9 rfl (.c 0 rfl (.c 1 rfl .n))))))) ?_;clear hrun q8 hr8 h8;have hp := putRow_in v u2 B g N ys (HR.out.on HB2.out) hvN;rw [HQ.out] at hp;refine Kn.Z.f fun K17 hK17=>?_;refine Kn.Z.u (.m (.t rfl) (.m (.t rfl) (.m (.t rfl) .n))) ?_;refine Kn.Z.s .o (.bin (.t rfl) (.t rfl)) fun Ko Kp=>?_;go_simp;(try go_bits);try rw [hvI]
      try go_simp
      (try go_bits);refine Kp _ _ ?_;clear Kp Ko;refine Kn.Z.c .o (.call (.c (.t rfl) (.c (.t rfl) .n))) Tryz.call95 (hp) fun e u3 hp=>?_;obtain ⟨rfl, hb3⟩ := hp;refine ⟨_,rfl,?_⟩;refine Kn.Z.u (.m (.t rfl) (.x (.t rfl) rfl (.x (.t rfl) rfl (.a (.t rfl) (.a (.t rfl) .n))))) ?_;refine Kn.Z.e hK17 ?_;clear hK17 K17;clear hp;refine Kn.Z.q fun K18 hK18=>?_;refine Kn.Z.f fun K19 hK19=>?_;refine Kn.Z.u (.m (.t rfl) .n) ?_;refine Kn.Z.s .o (.bin (.t rfl) .c) fun Ko Kp=>?_;go_simp;(try go_bits);refine Kp _ _ ?_;clear Kp Ko;refine Kn.Z.e hK19 ?_;clear hK19 K19;refine Kn.Z.t (.c 49 rfl (.c 12 rfl (.c 11 rfl (.c 8 rfl (.c 29 rfl (.c 28 rfl (.c 9 rfl (.c 0 rfl (.c 1 rfl .n))))))))) ?_;refine Kn.Z.no (.t rfl) ?_;refine Kn.Z.j hK18 ?_;clear hK18 K18;have hb3' : Below w.heap.size w u3 := HB2.out.trans (hb3.mono HB2.out.size);obtain ⟨Ab2, cb2, u4, hrun, hO4, hB4, hbut⟩ := (HO2.out.on hb3).push hb3' Q 136 (by omega);rw [← HNb.out] at hrun hO4;have HN4 : Hid (OwnI u4 w.heap.size (some ⟨g2, 0, none⟩) (nn + 1) c2 ([(f : Int), (n : Int)] ++ nmF (f : Int) R (k + 1))) := Lib.hid (hbut.own (HN2.out.on hb3) (fun e => (HO2.out.on hb3).apart (HN2.out.on hb3) _ e rfl));have HNb2 : Hid (nb + Q.size = (rwF (f : Int) R (k + 1)).length) := Lib.hid (by rw [HRw.out, List.length_append, HNb.out]; rfl);have HO4 : Hid (OwnB u4 w.heap.size (.slice Ab2 (nb + Q.size) cb2) (rwF (f : Int) R (k + 1))) := Lib.hid (by rw [HRw.out]; exact hO4);have HB4 := Lib.hid hB4;clear hO4 hB4 hbut hb3 hb3';refine Kn.Z.r ?_;refine Kn.Z.u (.m (.t rfl) (.m (.t rfl) .n)) ?_;refine Kn.Z.k .o (.append (.c (.t rfl) (.c (.t rfl) .n))) hrun ?_;refine Kn.Z.u (.a (.t rfl) .n) ?_;intro fa fh;refine wpList_nil ?_;refine Kn.block_normal ?_;refine hK13 _ _ ?_;clear hK13 K13;clear hrun
      revert fa
      refine Kn.Z.r ?_;refine Kn.Z.s .o (.bin (.t rfl) .c) fun Ko Kp=>?_;go_simp;(try go_bits);refine Kp _ _ ?_;clear Kp Ko;refine Kn.Z.u (.m (.t rfl) .n) ?_;intro fa fh;refine wpList_nil ?_;replace fh := fh.cut (.c 29 rfl (.c 9 rfl (.c 8 rfl (.c 28 rfl (.c 0 rfl (.c 1 rfl .n))))));exact hKl10 (m10 - 1) _ _ (by omega) ⟨k + 1, g2, (nn + 1), c2, nb + Q.size, cb2, Ab2, fh.cut (.u 29 rfl (by go_num) (.c 28 rfl (.c 8 rfl (.c 9 rfl (.c 0 rfl (.c 1 rfl .n)))))), by omega, HNn2, HNb2, HN4, HO4, HB4⟩
    have q8 : ((k : Int) % 8 == 0) = false := by rw [beq_eq_false_iff_ne]; omega
    have HNm : Hid (nmF (f : Int) R (k + 1) = nmF (f : Int) R k) := Lib.hid (by show nmF (f : Int) R k ++ (if k % 8 = 0 then [((rwF (f : Int) R k).length : Int)] else []) = _; rw [if_neg h8, List.append_nil]);have HN2 : Hid (OwnI u w.heap.size (some ⟨gn, 0, none⟩) nn cn ([(f : Int), (n : Int)] ++ nmF (f : Int) R (k + 1))) := Lib.hid (by rw [HNm.out]; exact HN.out);have HNn2 : Hid (nn = 2 + (nmF (f : Int) R (k + 1)).length) := Lib.hid (by rw [HNm.out]; exact HNn.out)
    revert fa
    refine Kn.Z.f fun K11 hK11=>?_;refine Kn.Z.s .o (.bin (.t rfl) (.t rfl)) fun Ko Kp=>?_;go_simp;(try go_bits);refine Kp _ _ ?_;clear Kp Ko;refine Kn.Z.e hK11 ?_;clear hK11 K11;refine Kn.Z.q fun K12 hK12=>?_;refine Kn.Z.y (.t rfl) ?_;refine Kn.Z.j hK12 ?_;clear hK12 K12;refine Kn.Z.t (.c 29 rfl (.c 28 rfl (.c 8 rfl (.c 9 rfl (.c 0 rfl (.c 1 rfl .n)))))) ?_;refine Kn.Z.q fun K13 hK13=>?_;refine Kn.Z.b ?_;refine Kn.Z.f fun K14 hK14=>?_;refine Kn.Z.u (.m (.t rfl) (.a (.t rfl) .n)) ?_;refine Kn.Z.e hK14 ?_;clear hK14 K14;refine Kn.Z.q fun K15 hK15=>?_;refine Kn.Z.f fun K16 hK16=>?_;refine Kn.Z.u (.m (.t rfl) .n) ?_;refine Kn.Z.s .o (.bin (.t rfl) .c) fun Ko Kp=>?_;go_simp;(try go_bits);try rw [hr8]
    try go_simp
    (try go_bits);refine Kp _ _ ?_;clear Kp Ko;refine Kn.Z.s .o (.bin (.t rfl) .c) fun Ko Kp=>?_;go_simp;(try go_bits);refine Kp _ _ ?_;clear Kp Ko;refine Kn.Z.e hK16 ?_;clear hK16 K16;refine Kn.Z.no (.t rfl) ?_;refine Kn.Z.j hK15 ?_;clear hK15 K15;clear q8 hr8 h8;have hp := putRow_in v u B g N ys (HR.out.on HB.out) hvN;rw [HQ.out] at hp;refine Kn.Z.f fun K17 hK17=>?_;refine Kn.Z.u (.m (.t rfl) (.m (.t rfl) (.m (.t rfl) .n))) ?_;refine Kn.Z.s .o (.bin (.t rfl) (.t rfl)) fun Ko Kp=>?_;go_simp;(try go_bits);try rw [hvI]
    try go_simp
    (try go_bits);refine Kp _ _ ?_;clear Kp Ko;refine Kn.Z.c .o (.call (.c (.t rfl) (.c (.t rfl) .n))) Tryz.call95 (hp) fun e u3 hp=>?_;obtain ⟨rfl, hb3⟩ := hp;refine ⟨_,rfl,?_⟩;refine Kn.Z.u (.m (.t rfl) (.x (.t rfl) rfl (.x (.t rfl) rfl (.a (.t rfl) (.a (.t rfl) .n))))) ?_;refine Kn.Z.e hK17 ?_;clear hK17 K17;refine Kn.Z.t (.c 12 rfl (.c 11 rfl (.c 29 rfl (.c 28 rfl (.c 8 rfl (.c 9 rfl (.c 0 rfl (.c 1 rfl .n)))))))) ?_;clear hp;refine Kn.Z.q fun K18 hK18=>?_;refine Kn.Z.f fun K19 hK19=>?_;refine Kn.Z.u (.m (.t rfl) .n) ?_;refine Kn.Z.s .o (.bin (.t rfl) .c) fun Ko Kp=>?_;go_simp;(try go_bits);refine Kp _ _ ?_;clear Kp Ko;refine Kn.Z.e hK19 ?_;clear hK19 K19;refine Kn.Z.no (.t rfl) ?_;refine Kn.Z.j hK18 ?_;clear hK18 K18;have hb3' : Below w.heap.size w u3 := HB.out.trans (hb3.mono HB.out.size);obtain ⟨Ab2, cb2, u4, hrun, hO4, hB4, hbut⟩ := (HO.out.on hb3).push hb3' Q 136 (by omega);rw [← HNb.out] at hrun hO4;have HN4 : Hid (OwnI u4 w.heap.size (some ⟨gn, 0, none⟩) nn cn ([(f : Int), (n : Int)] ++ nmF (f : Int) R (k + 1))) := Lib.hid (hbut.own (HN2.out.on hb3) (fun e => (HO.out.on hb3).apart (HN2.out.on hb3) _ e rfl));have HNb2 : Hid (nb + Q.size = (rwF (f : Int) R (k + 1)).length) := Lib.hid (by rw [HRw.out, List.length_append, HNb.out]; rfl);have HO4 : Hid (OwnB u4 w.heap.size (.slice Ab2 (nb + Q.size) cb2) (rwF (f : Int) R (k + 1))) := Lib.hid (by rw [HRw.out]; exact hO4);have HB4 := Lib.hid hB4;clear hO4 hB4 hbut hb3 hb3';refine Kn.Z.r ?_;refine Kn.Z.u (.m (.t rfl) (.m (.t rfl) .n)) ?_;refine Kn.Z.k .o (.append (.c (.t rfl) (.c (.t rfl) .n))) hrun ?_;refine Kn.Z.u (.a (.t rfl) .n) ?_;intro fa fh;refine wpList_nil ?_;refine Kn.block_normal ?_;refine hK13 _ _ ?_;clear hK13 K13;clear hrun
    revert fa
    refine Kn.Z.r ?_;refine Kn.Z.s .o (.bin (.t rfl) .c) fun Ko Kp=>?_;go_simp;(try go_bits);refine Kp _ _ ?_;clear Kp Ko;refine Kn.Z.u (.m (.t rfl) .n) ?_;intro fa fh;refine wpList_nil ?_;replace fh := fh.cut (.c 29 rfl (.c 9 rfl (.c 28 rfl (.c 8 rfl (.c 0 rfl (.c 1 rfl .n))))));exact hKl10 (m10 - 1) _ _ (by omega) ⟨k + 1, gn, nn, cn, nb + Q.size, cb2, Ab2, fh.cut (.u 29 rfl (by go_num) (.c 28 rfl (.c 8 rfl (.c 9 rfl (.c 0 rfl (.c 1 rfl .n)))))), by omega, HNn2, HNb2, HN4, HO4, HB4⟩
  obtain rfl : k = n := by omega
  have hmx := HMx.out k (Nat.le_refl _);have hnl := nmF_len (f : Int) R k;have hnn : nn = ([(f : Int), (k : Int)] ++ nmF (f : Int) R k).length := by rw [HNn.out, List.length_append]; rfl
  have hps := putShorts_any (some ⟨gn, 0, none⟩) cn ([(f : Int), (k : Int)] ++ nmF (f : Int) R k) u (by rw [List.length_append]; simp; omega) (by rw [List.length_append]; simp; omega) HN.out.iin (fun x hx => by
    rcases List.mem_append.1 hx with e | e
    · simp at e; omega
    · have := nmF_mem (f : Int) R 216864 k (fun j hj => HMx.out j (by omega)) x e; omega)
  rw [← hnn] at hps;have HF : Hid (bs (shF f k R) = bs (shN ([(f : Int), (k : Int)] ++ nmF (f : Int) R k)) ++ bs (rwF (f : Int) R k)) := Lib.hid (by rw [bs_app, shF_nm])
  have hLs : (bs (shN ([(f : Int), (k : Int)] ++ nmF (f : Int) R k))).size ≤ 100000 := by
    rw [bs_size, shN_app, shN_nm, List.length_append];have h1 := ixF_le (f := (f : Int)) (R := R) k (fun j hj => by have := HMx.out j hj; omega);have h2 := short_len9 f (by omega);have h3 := short_len9 k (by omega);have h4 : (shN [(f : Int), (k : Int)]).length = (short f).length + (short k).length := by simp [shN]
    omega
  obtain ⟨S, hS⟩ : ∃ S, bs (shN ([(f : Int), (k : Int)] ++ nmF (f : Int) R k)) = S := ⟨_, rfl⟩;obtain ⟨U, hU⟩ : ∃ U, bs (rwF (f : Int) R k) = U := ⟨_, rfl⟩;have hUs : U.size ≤ 216864 := by rw [← hU, bs_size]; exact hmx
  have hpos : 0 < (rwF (f : Int) R k).length := by
    obtain ⟨j, hj⟩ : ∃ j, k = j + 1 := ⟨k - 1, by omega⟩;rw [hj, rwF, List.length_append, putF_all, List.length_append];have := short_pos (R j).length;omega
  rw [hS] at hps hLs HF;rw [hU] at HF;clear hS hnn hnl hmx
  revert fa
  refine Kn.Z.f fun K11 hK11=>?_;refine Kn.Z.s .o (.bin (.t rfl) (.t rfl)) fun Ko Kp=>?_;go_simp;(try go_bits);refine Kp _ _ ?_;clear Kp Ko;refine Kn.Z.e hK11 ?_;clear hK11 K11;refine Kn.Z.q fun K12 hK12=>?_;refine Kn.Z.no (.t rfl) ?_;refine Kn.Z.t (.c 29 rfl (.c 28 rfl (.c 8 rfl (.c 9 rfl (.c 0 rfl (.c 1 rfl .n)))))) ?_;intro fb fg;refine wp_exit ?_;refine Kn.then_exit ?_;clear hK12 K12;refine Kn.then_exit ?_;clear hKl10 Kl10;refine Kn.block_exit ?_;refine hK8 _ _ ?_;clear hK8 K8
  revert fb
  refine Kn.Z.f fun K13 hK13=>?_;refine Kn.Z.u (.m (.t rfl) .n) ?_;refine Kn.Z.c .o (.call (.c (.t rfl) .n)) Tryz.call96 (hps) fun e u1 hp=>?_;obtain ⟨rfl, hb1⟩ := hp;refine ⟨_,rfl,?_⟩;refine Kn.Z.u (.m (.t rfl) (.x (.t rfl) rfl (.x (.t rfl) rfl (.a (.t rfl) (.a (.t rfl) .n))))) ?_;refine Kn.Z.e hK13 ?_;clear hK13 K13;refine Kn.Z.t (.c 14 rfl (.c 13 rfl (.c 9 rfl .n))) ?_;clear hps;refine Kn.Z.q fun K14 hK14=>?_;refine Kn.Z.f fun K15 hK15=>?_;refine Kn.Z.u (.m (.t rfl) .n) ?_;refine Kn.Z.s .o (.bin (.t rfl) .c) fun Ko Kp=>?_;go_simp;(try go_bits);refine Kp _ _ ?_;clear Kp Ko;refine Kn.Z.e hK15 ?_;clear hK15 K15;refine Kn.Z.no (.t rfl) ?_;refine Kn.Z.j hK14 ?_;clear hK14 K14;have hcv := (HO.out.on hb1).text hpos;rw [hU] at hcv;clear hU hpos;refine Kn.Z.f fun K16 hK16=>?_;refine Kn.Z.u (.m (.t rfl) (.m (.t rfl) .n)) ?_;refine Kn.Z.k .o (.convert (.t rfl)) hcv ?_;refine Kn.Z.s .o (.bin (.t rfl) (.t rfl)) fun Ko Kp=>?_;go_simp;rw [if_neg (by omega)];refine Kp _ _ ?_;clear Kp Ko;refine Kn.Z.u (.a (.t rfl) (.a .c .n)) ?_;refine Kn.Z.e hK16 ?_;clear hK16 K16;intro fa fh;refine wp_ret ?_;exact Kn.ret2 fh rfl rfl rfl ⟨by rw [HF.out], HB.out.trans (hb1.mono HB.out.size)⟩
end Go.Proofs.YtchdlgdmomcemaaGreatDoor.Shd
end
section
namespace Go.Proofs.YtchdlgdmomcemaaGreatDoor.RowG
open Go Go.RowKit Go.Lib
structure Rw (α : Type) where
  enc : α → List Value
  size : Nat
  len : ∀ a, (enc a).length = size
  one : ∀ a u, u ∈ enc a → u.oneCell' = true
variable {α : Type} (R : Rw α)
theorem addr_add (b o j : Nat) : (⟨b, o, none⟩ : Addr).add j = ⟨b, o + j, none⟩ := by unfold Addr.add; split <;> simp_all
def cs (l : List α) : List Value := l.flatMap R.enc
theorem cs_len (l : List α) : (cs R l).length = l.length * R.size := by
  induction l with
  | nil => simp [cs]
  | cons a l ih =>
    unfold cs at ih ⊢;rw [List.flatMap_cons, List.length_append, ih, R.len, List.length_cons, Nat.add_mul];omega
theorem cs_one (l : List α) : ∀ u ∈ cs R l, u.oneCell' = true := fun u hu => by
  obtain ⟨a, _, h⟩ := List.mem_flatMap.1 hu;exact R.one a u h
theorem cs_at : ∀ (l : List α) (i j : Nat) (a : α) (u : Value), l[i]? = some a → (R.enc a)[j]? = some u → (cs R l)[i * R.size + j]? = some u
  | [], i, j, a, u, h, _ => by simp at h
  | x :: l, 0, j, a, u, h, hu => by
    simp at h;subst h;have hj := (List.getElem?_eq_some_iff.1 hu).1;unfold cs;rw [List.flatMap_cons, Nat.zero_mul, Nat.zero_add, List.getElem?_append_left hj];exact hu
  | x :: l, i + 1, j, a, u, h, hu => by
    have ih := cs_at l i j a u (by simpa using h) hu;unfold cs at ih ⊢;rw [List.flatMap_cons, List.getElem?_append_right (by rw [R.len, Nat.add_mul]; omega), R.len, show (i + 1) * R.size + j - R.size = i * R.size + j by rw [Nat.add_mul]; omega];exact ih
theorem cs_of (hs : 0 < R.size) : ∀ (l : List α) (k : Nat) (u : Value), (cs R l)[k]? = some u → ∃ a, l[k / R.size]? = some a ∧ (R.enc a)[k % R.size]? = some u
  | [], k, u, h => by simp [cs] at h
  | x :: l, k, u, h => by
    unfold cs at h;rw [List.flatMap_cons] at h;rcases Nat.lt_or_ge k R.size with hk | hk
    · rw [List.getElem?_append_left (by rw [R.len]; exact hk)] at h;rw [Nat.div_eq_of_lt hk, Nat.mod_eq_of_lt hk];exact ⟨x, rfl, h⟩
    · rw [List.getElem?_append_right (by rw [R.len]; exact hk), R.len] at h;obtain ⟨a, h1, h2⟩ := cs_of hs l (k - R.size) u h;have e1 : k / R.size = (k - R.size) / R.size + 1 := by rw [Nat.div_eq_sub_div hs hk]
      have e2 : (k - R.size) % R.size = k % R.size := (Nat.mod_eq_sub_mod hk).symm;exact ⟨a, by rw [e1]; simpa using h1, by rw [← e2]; exact h2⟩
def RIn (w : World) (A : Option Addr) (l : List α) : Prop := ∀ (i : Nat) (a : α), l[i]? = some a → ∃ b o, A = some ⟨b, o, none⟩ ∧ b < w.heap.size ∧ ∀ (j : Nat) (u : Value), (R.enc a)[j]? = some u → w.cell? ⟨b, o + (i * R.size + j), none⟩ = some u
variable {R} {w w' : World} {A : Option Addr} {l : List α}
theorem RIn.on (h : RIn R w A l) (hb : Below w.heap.size w w') : RIn R w' A l := fun i a hi => by
  obtain ⟨b, o, e, hlt, h1⟩ := h i a hi;exact ⟨b, o, e, Nat.lt_of_lt_of_le hlt hb.size, fun j u hu => (hb.cell (p := ⟨b, o + (i * R.size + j), none⟩) hlt).trans (h1 j u hu)⟩
theorem RIn.cell {b o : Nat} (h : RIn R w (some ⟨b, o, none⟩) l) {i j : Nat} {a : α} {u : Value} (hi : l[i]? = some a) (hu : (R.enc a)[j]? = some u) : w.cell? ⟨b, o + (i * R.size + j), none⟩ = some u := by
  obtain ⟨b', o', e, _, h1⟩ := h i a hi;cases e;exact h1 j u hu
theorem RIn.addr (h : RIn R w A l) (hl : 0 < l.length) : ∃ b o, A = some ⟨b, o, none⟩ ∧ b < w.heap.size := by
  obtain ⟨b, o, e, hlt, _⟩ := h 0 l[0] (List.getElem?_eq_getElem hl);exact ⟨b, o, e, hlt⟩
theorem RIn.news {b o : Nat} (h : RIn R w (some ⟨b, o, none⟩) l) (hs : 0 < R.size) : ∀ j u, (cs R l)[j]? = some u → w.cell? ((⟨b, o, none⟩ : Addr).add j) = some u := fun j u hu => by
  obtain ⟨a, h1, h2⟩ := cs_of R hs l j u hu;have := h.cell h1 h2;rw [addr_add]
  rwa [Nat.mul_comm, Nat.div_add_mod] at this
def ROwn (R : Rw α) (e : TypeId) (w : World) (B : Nat) (A : Option Addr) (n cap : Nat) (l : List α) : Prop := n = l.length ∧ w.ownsRow B e R.size (.slice A n cap) n (cs R l)
variable {e : TypeId} {B n cap : Nat}
theorem ROwn.rin (h : ROwn R e w B A n cap l) : RIn R w A l := fun i a hi => by
  have hl := (List.getElem?_eq_some_iff.1 hi).1;obtain ⟨g, cap', ef, hb, hlt⟩ := h.2.form (by rw [h.1]; omega);simp only [Value.slice.injEq] at ef;obtain ⟨rfl, _, _⟩ := ef;refine ⟨g, 0, rfl, hlt, fun j u hu => ?_⟩;have := h.2.cells (g := g) rfl _ _ (cs_at R l i j a u hi hu)
  rwa [addr_add] at this
theorem ROwn.lt {g : Nat} (h : ROwn R e w B (some ⟨g, 0, none⟩) n cap l) : g < w.heap.size := (h.2.lt g rfl).2
theorem ROwn.none : ROwn R e w B none 0 0 [] := ⟨rfl, World.ownsRow_nil _ _ _ _⟩
theorem ROwn.le (h : ROwn R e w B A n cap l) : n ≤ cap ∧ cap ≤ maxLen := by
  rcases h.2.2 with ⟨hv, hn⟩ | ⟨g, cap', cur, hv, _, _, h1, h2, _⟩
  · injection hv with _ e1 e2
    exact ⟨by omega, by rw [e2]; exact Nat.zero_le _⟩
  · injection hv with _ e1 e2
    subst e2;exact ⟨h1, h2⟩
def txR : Rw ByteArray := ⟨fun s => [.string s], 1, fun _ => rfl, fun _ u hu => by simp at hu; subst hu; rfl⟩
end Go.Proofs.YtchdlgdmomcemaaGreatDoor.RowG
end
section
namespace Go.Proofs.YtchdlgdmomcemaaGreatDoor.RowG
open Go Go.RowKit Go.Lib
def Hold {α : Type} (R : Rw α) (w : World) (g : Nat) (l : List α) : Prop := g < w.heap.size ∧ ∀ (i : Nat) (a : α), l[i]? = some a → ∀ (j : Nat) (u : Value), (R.enc a)[j]? = some u → w.cell? ⟨g, i * R.size + j, none⟩ = some u ∧ w.frozen? ⟨g, i * R.size + j, none⟩ = false
section
variable {α : Type} {R : Rw α} {w w' : World} {g : Nat} {l : List α}
theorem Hold.rin (h : Hold R w g l) : RIn R w (some ⟨g, 0, none⟩) l := fun i a hi => ⟨g, 0, rfl, h.1, fun j u hu => by rw [Nat.zero_add]; exact (h.2 i a hi j u hu).1⟩
theorem Hold.at (h : Hold R w g l) (hs : w.heap.size ≤ w'.heap.size) (e : w'.heap[g]? = w.heap[g]?) : Hold R w' g l := ⟨Nat.lt_of_lt_of_le h.1 hs, fun i a hi j u hu => by
  obtain ⟨h1, h2⟩ := h.2 i a hi j u hu
  exact ⟨by simp only [World.cell?, e]; exact h1, by simp only [World.frozen?, e]; exact h2⟩⟩
theorem Hold.on (h : Hold R w g l) (hb : Below w.heap.size w w') : Hold R w' g l := h.at hb.size (hb.block g h.1)
theorem Hold.cell (h : Hold R w g l) {i j : Nat} {a : α} {u : Value} (hi : l[i]? = some a) (hu : (R.enc a)[j]? = some u) : w.cell? ⟨g, i * R.size + j, none⟩ = some u := (h.2 i a hi j u hu).1
theorem Hold.there (h : Hold R w g l) {k : Nat} (hk : k < l.length) : w.there g (k * R.size) R.size := fun j hj => by
  have hj2 : j < (R.enc l[k]).length := by rw [R.len]; exact hj
  obtain ⟨h1, h2⟩ := h.2 k l[k] (List.getElem?_eq_getElem hk) j (R.enc l[k])[j] (List.getElem?_eq_getElem hj2);exact ⟨by rw [h1]; rfl, h2⟩
theorem heap_setCells_ne (b c : Nat) (hc : c ≠ b) : ∀ (vs : List Value) (o : Nat) (w : World), (w.setCells b o vs).heap[c]? = w.heap[c]?
  | [], _, _ => rfl
  | v :: r, o, w => by rw [World.setCells, heap_setCells_ne b c hc r]; exact heap_setCell_other w _ c v hc
theorem size_setCellsG (b : Nat) : ∀ (vs : List Value) (o : Nat) (w : World), (w.setCells b o vs).heap.size = w.heap.size
  | [], _, _ => rfl
  | v :: r, o, w => by rw [World.setCells, size_setCellsG b r]; simp [World.setCell]
theorem Hold.set (h : Hold R w g l) (k : Nat) (hk : k < l.length) (a : α) : Hold R (w.setCells g (k * R.size) (R.enc a)) g (l.set k a) := by
  refine ⟨by rw [size_setCellsG]; exact h.1, fun i b hi j u hu => ?_⟩;have hj : j < R.size := by have := (List.getElem?_eq_some_iff.1 hu).1; rwa [R.len] at this
  rw [World.frozen?_setCells];have ht := h.there hk
  by_cases e : i = k
  · subst e;rw [List.getElem?_set_self hk] at hi;cases hi;obtain ⟨hj2, e2⟩ := List.getElem?_eq_some_iff.1 hu;refine ⟨?_, (ht j hj).2⟩;rw [World.cell?_setCells_in g (R.enc a) (i * R.size) w (fun j' hj' => (ht j' (by rwa [R.len] at hj')).1) j hj2, e2]
  · rw [List.getElem?_set_ne (fun q => e q.symm)] at hi;obtain ⟨h1, h2⟩ := h.2 i b hi j u hu;refine ⟨?_, h2⟩;rw [World.cell?_setCells_out g (R.enc a) (k * R.size) w ⟨g, i * R.size + j, none⟩ (fun _ _ => ?_)]
    · exact h1
    · show i * R.size + j < k * R.size ∨ k * R.size + (R.enc a).length ≤ i * R.size + j;rw [R.len];rcases Nat.lt_or_gt_of_ne e with q | q
      · left
        have := Nat.mul_le_mul_right R.size (show i + 1 ≤ k from q);rw [Nat.add_mul] at this;omega
      · right
        have := Nat.mul_le_mul_right R.size (show k + 1 ≤ i from q);rw [Nat.add_mul] at this;omega
theorem setCells_rest (w : World) (g o : Nat) (vs : List Value) : (∀ b, b ≠ g → (w.setCells g o vs).heap[b]? = w.heap[b]?) ∧ (w.setCells g o vs).heap.size = w.heap.size ∧ ∀ B, B ≤ g → Below B w (w.setCells g o vs) :=
  ⟨fun b hb => heap_setCells_ne g b hb vs o w, size_setCellsG g vs o w, fun _ hB => below_setCells_w hB vs o w⟩
theorem Hold.storeM {P : Program} {e : TypeId} (h : Hold R w g l) (k : Nat) (hk : k < l.length) (a : α) (ca : Array Value) (hca : ca = (R.enc a).toArray) (hi : (P.info? e).map (·.size) = some R.size) :
    ∃ w', (Instr.storeAt e (.pointer (some ⟨g, k * R.size, none⟩)) (.agg ca)).run P w = .ok () w' ∧ Hold R w' g (l.set k a) ∧ (∀ b, b ≠ g → w'.heap[b]? = w.heap[b]?) ∧ w'.heap.size = w.heap.size ∧ ∀ B, B ≤ g → Below B w w' := by
  subst hca;obtain ⟨r1, r2, r3⟩ := setCells_rest w g (k * R.size) (R.enc a);refine ⟨w.setCells g (k * R.size) (R.enc a), ?_, h.set k hk a, r1, r2, r3⟩;have hs : (R.enc a).toArray.size = R.size := by simp [R.len]
  have := run_storeAt_mid (P := P) w g (k * R.size) e (R.enc a).toArray (by rw [hs]; exact h.there hk) (by rw [hs]; exact hi) (all_oneCell_toArray (R.one a))
  simpa using this
theorem Hold.store1 {P : Program} {e : TypeId} (h : Hold R w g l) (k : Nat) (hk : k < l.length) (a : α) (x : Value) (hx : R.enc a = [x]) (hz : R.size = 1)
    (hr : ∀ (w : World) (p : Addr) (c : Value), w.cell? p = some c → w.frozen? p = false → (Instr.storeAt e (.pointer (some p)) x).run P w = .ok () (w.setCell p x)) :
    ∃ w', (Instr.storeAt e (.pointer (some ⟨g, k, none⟩)) x).run P w = .ok () w' ∧ Hold R w' g (l.set k a) ∧ (∀ b, b ≠ g → w'.heap[b]? = w.heap[b]?) ∧ w'.heap.size = w.heap.size ∧ ∀ B, B ≤ g → Below B w w' := by
  obtain ⟨r1, r2, r3⟩ := setCells_rest w g (k * R.size) (R.enc a);refine ⟨w.setCells g (k * R.size) (R.enc a), ?_, h.set k hk a, r1, r2, r3⟩;obtain ⟨h1, h2⟩ := h.there hk 0 (by omega);rw [hz, Nat.mul_one, Nat.add_zero] at h1 h2;obtain ⟨c, hc⟩ := Option.isSome_iff_exists.1 h1;rw [hr w _ c hc h2, hx, hz, Nat.mul_one]
  rfl
theorem hold_of_own {e : TypeId} {B n cap : Nat} (h : ROwn R e w B (some ⟨g, 0, none⟩) n cap l) : Hold R w g l := ⟨h.lt, fun i a hi j u hu => by
  have c := h.rin.cell hi hu;rw [Nat.zero_add] at c;obtain ⟨hn, hl, hr⟩ := h;rcases hr with ⟨hv, _⟩ | ⟨g', cap', cur, hv, hB, hg, hle, hm, hs, ht⟩
  · cases hv
  · simp only [Value.slice.injEq, Option.some.injEq, Addr.mk.injEq] at hv;obtain ⟨⟨rfl, _, _⟩, _, _⟩ := hv
    exact ⟨c, by simp [World.frozen?, hg]⟩⟩
theorem made_cs (R : Rw α) (z : Value) (a : α) (hz : z.cells.toList = R.enc a) (hs : 0 < R.size) (n : Nat) : (madeCells z.cells (n * R.size)).toList = cs R (List.replicate n a) := by
  have hzs : z.cells.size = R.size := by rw [← Array.length_toList, hz, R.len]
  apply List.ext_getElem?
  intro k;rcases Nat.lt_or_ge k (n * R.size) with hk | hk
  · have hd : k / R.size < n := (Nat.div_lt_iff_lt_mul hs).2 hk;have hm : k % R.size < R.size := Nat.mod_lt _ hs
    have h1 := cs_at R (List.replicate n a) (k / R.size) (k % R.size) a (R.enc a)[k % R.size]! (by rw [List.getElem?_replicate, if_pos hd]) (by
      rw [List.getElem!_eq_getElem?_getD, List.getElem?_eq_getElem (by rw [R.len]; exact hm)]; rfl)
    rw [Nat.mul_comm, Nat.div_add_mod] at h1;rw [h1];simp [madeCells, hk, hzs];rw [← hz];simp [hzs, hm]
  · rw [List.getElem?_eq_none (by simp [madeCells]; exact hk), List.getElem?_eq_none (by rw [cs_len, List.length_replicate]; exact hk)]
theorem makeG {P : Program} {T e : TypeId} {z : Value} {bytes : Nat} (R : Rw α) (hE : Own.Elem P T e z R.size bytes) (a : α) (hz : z.cells.toList = R.enc a) (w : World) (n : Nat) (hn : n * R.size ≤ 1000000) (hby : bytes ≤ 100000) (hn2 : n ≤ 1000000) :
    ∃ w', (Instr.makeSlice T (.int .i64 (n : Int)) (.int .i64 (n : Int))).run P w = .ok (.slice (some ⟨w.heap.size, 0, none⟩) n n) w' ∧ ROwn R e w' w.heap.size (some ⟨w.heap.size, 0, none⟩) n n (List.replicate n a) ∧ Below w.heap.size w w' := by
  obtain ⟨i0, hi, hz0, hz1, hz2⟩ := hE.parts;have hb2 : bytes * n ≤ 100000 * 1000000 := Nat.mul_le_mul hby hn2;obtain ⟨w', h1, h2, h3⟩ := run_makeSlice_full (P := P) (w := w) w.heap.size T e i0 z R.size hE.under hi hz0 hz1 .i64 .i64 n (by omega) (by rw [hz2]; omega) (by unfold maxLen; omega) (Nat.le_refl _);rw [made_cs R z a hz hE.pos n] at h2;exact ⟨w', h1, ⟨by simp, h2⟩, (Below.refl _ w).grown h3 (Nat.le_refl _) (by intro k hk; cases hk)⟩
end
def ipR : Rw (Int × Int) := ⟨fun p => [.int .i64 p.1, .int .i64 p.2], 2, fun _ => rfl, fun _ u hu => by
  simp at hu
  rcases hu with rfl | rfl <;> rfl⟩
def slR : Rw (Option Addr × Nat × Nat) := ⟨fun p => [.slice p.1 p.2.1 p.2.2], 1, fun _ => rfl, fun _ u hu => by simp at hu; subst hu; rfl⟩
end Go.Proofs.YtchdlgdmomcemaaGreatDoor.RowG
end
section
namespace Go.Proofs.YtchdlgdmomcemaaGreatDoor.RowG
open Go Go.RowKit Go.Lib
def Fill {α : Type} (R : Rw α) (z : α) (u : World) (g n : Nat) (l : List α) : Prop := l.length ≤ n ∧ Hold R u g (l ++ List.replicate (n - l.length) z)
section
variable {α : Type} {R : Rw α} {z : α} {w w' : World} {g n : Nat} {l : List α}
theorem set_app (vs : List α) (z a : α) (m : Nat) : (vs ++ List.replicate (m + 1) z).set vs.length a = vs ++ [a] ++ List.replicate m z := by
  rw [List.set_append_right _ _ (Nat.le_refl _), Nat.sub_self, List.replicate_succ, List.set_cons_zero, List.append_assoc]
  rfl
theorem Fill.start {e : TypeId} {B cap : Nat} (h : ROwn R e w B (some ⟨g, 0, none⟩) n cap (List.replicate n z)) : Fill R z w g n [] := ⟨Nat.zero_le _, by simpa using hold_of_own h⟩
theorem Fill.on (h : Fill R z w g n l) (hb : Below w.heap.size w w') : Fill R z w' g n l := ⟨h.1, h.2.on hb⟩
theorem Fill.at (h : Fill R z w g n l) (hs : w.heap.size ≤ w'.heap.size) (e : w'.heap[g]? = w.heap[g]?) : Fill R z w' g n l := ⟨h.1, h.2.at hs e⟩
theorem Fill.lt (h : Fill R z w g n l) : g < w.heap.size := h.2.1
theorem Fill.full (h : Fill R z w g n l) (hl : l.length = n) : Hold R w g l := by
  have := h.2;rw [hl, Nat.sub_self] at this
  simpa using this
theorem Fill.next (_h : Fill R z w g n l) (hl : l.length < n) {a : α} {w' : World} (hH : Hold R w' g ((l ++ List.replicate (n - l.length) z).set l.length a)) : Fill R z w' g n (l ++ [a]) := by
  refine ⟨by rw [List.length_append]; simp; omega, ?_⟩;obtain ⟨m, hm⟩ : ∃ m, n - l.length = m + 1 := ⟨n - l.length - 1, by omega⟩;rw [hm, set_app] at hH;rw [List.length_append, show n - (l.length + [a].length) = m by simp; omega];exact hH
theorem Fill.pushM {P : Program} {e : TypeId} {sz : Nat} (h : Fill R z w g n l) (hl : l.length < n) (k : Nat) (hk : k = l.length) (hsz : R.size = sz) (a : α) (ca : Array Value) (hca : ca = (R.enc a).toArray) (hi : (P.info? e).map (·.size) = some sz) :
    ∃ w', (Instr.storeAt e (.pointer (some ⟨g, k * sz, none⟩)) (.agg ca)).run P w = .ok () w' ∧ Fill R z w' g n (l ++ [a]) ∧ (∀ b, b ≠ g → w'.heap[b]? = w.heap[b]?) ∧ w'.heap.size = w.heap.size ∧ ∀ B, B ≤ g → Below B w w' := by
  subst hk hsz;obtain ⟨w', h1, h2, h3, h4, h5⟩ := h.2.storeM (P := P) (e := e) l.length (by rw [List.length_append, List.length_replicate]; omega) a ca hca hi;exact ⟨w', h1, h.next hl h2, h3, h4, h5⟩
theorem Fill.push1 {P : Program} {e : TypeId} (h : Fill R z w g n l) (hl : l.length < n) (k : Nat) (hk : k = l.length) (a : α) (x : Value) (hx : R.enc a = [x]) (hz : R.size = 1)
    (hr : ∀ (w : World) (p : Addr) (c : Value), w.cell? p = some c → w.frozen? p = false → (Instr.storeAt e (.pointer (some p)) x).run P w = .ok () (w.setCell p x)) :
    ∃ w', (Instr.storeAt e (.pointer (some ⟨g, k, none⟩)) x).run P w = .ok () w' ∧ Fill R z w' g n (l ++ [a]) ∧ (∀ b, b ≠ g → w'.heap[b]? = w.heap[b]?) ∧ w'.heap.size = w.heap.size ∧ ∀ B, B ≤ g → Below B w w' := by
  subst hk;obtain ⟨w', h1, h2, h3, h4, h5⟩ := h.2.store1 (P := P) (e := e) l.length (by rw [List.length_append, List.length_replicate]; omega) a x hx hz hr;exact ⟨w', h1, h.next hl h2, h3, h4, h5⟩
end
theorem ip_cell0 {w : World} {g : Nat} {l : List (Int × Int)} (h : Hold ipR w g l) (i : Nat) (hi : i < l.length) : w.cell? ⟨g, i * 2, none⟩ = some (.int .i64 l[i].1) := h.cell (j := 0) (List.getElem?_eq_getElem hi) rfl
theorem ip_cell1 {w : World} {g : Nat} {l : List (Int × Int)} (h : Hold ipR w g l) (i : Nat) (hi : i < l.length) : w.cell? ⟨g, i * 2 + 1, none⟩ = some (.int .i64 l[i].2) := h.cell (j := 1) (List.getElem?_eq_getElem hi) rfl
theorem ip_load {P : Program} {w : World} {g : Nat} {l : List (Int × Int)} {T : TypeId} {d : TypeDesc} (h : Hold ipR w g l) (i : Nat) (hi : i < l.length) (hu : P.underlying T = some d) (hd : St.rowD d = true) (hs : (P.info? T).map (·.size) = some 2) :
    (loadVar T ⟨g, i * 2, none⟩).run P w = .ok (.agg #[.int .i64 l[i].1, .int .i64 l[i].2]) w := by
  have hc : w.rangeAt g (i * 2) [.int .i64 l[i].1, .int .i64 l[i].2] := fun j v hv => h.cell (j := j) (List.getElem?_eq_getElem hi) hv;cases d <;> first | exact run_loadVar_mid w g (i * 2) T _ _ hc hu rfl hs | cases hd
end Go.Proofs.YtchdlgdmomcemaaGreatDoor.RowG
namespace Go.Proofs.YtchdlgdmomcemaaGreatDoor.Kn
open Go
theorem satU_run {Ko : World → Prop} {r : Result Unit} {v : World} (h : r = .ok () v) (H : Ko v) : Kn.SatU Ko r := by rw [h]; exact H
theorem retS2 {P : Program} {n : Nat} {l : List (Nat × Value)} {a : Act} {w : World} {fn : Func} {R : Ending → World → Prop} {p u : Tmp} {ty : TypeId} {g : Nat} {cs : Array Value} {d : TypeDesc} {x : Value} (h : Kn n l a) (hr : fn.results = #[.cell p ty, .tmp u]) (hp : find l p = some (.pointer (some ⟨g, 0, none⟩))) (hx : find l u = some x) (hs : St.St w g ty cs) (hu : P.underlying ty = some d) (hd : St.rowD d = true) (hi : (P.info? ty).map (·.size) = some cs.size) (H : R (.returned (.tuple #[.agg cs, x])) w) : bodyPost P fn R .ret a w :=
  retC h hr hp hx (hs.load hu hd hi) H
end Go.Proofs.YtchdlgdmomcemaaGreatDoor.Kn
namespace Go.Proofs.YtchdlgdmomcemaaGreatDoor.Shd
open Go Go.RowKit Go.Lib Oct Num Gap RowG
theorem elemLead : Own.Elem Tryz.prog 138 144 (.agg #[.int .i64 0, .int .i64 0]) 2 16 := ⟨Tryz.underlying138, by kernel_rfl, rfl, by decide⟩
theorem elemTx : Own.Elem Tryz.prog 35 9 (.string ⟨#[]⟩) 1 16 := ⟨Tryz.underlying35, by kernel_rfl, rfl, by decide⟩
theorem elemSh : Own.Elem Tryz.prog 32 98 (.agg #[.int .i64 0, .int .i64 0]) 2 16 := ⟨Tryz.underlying32, by kernel_rfl, rfl, by decide⟩
theorem store_sl (A : Option Addr) (n c : Nat) (w : World) (p : Addr) (x : Value) (h1 : w.cell? p = some x) (h2 : w.frozen? p = false) : (Instr.storeAt 42 (.pointer (some p)) (.slice A n c)).run Tryz.prog w = .ok () (w.setCell p (.slice A n c)) := by
  refine satU_run ?_;go_simp;try simp [h1, h2]
theorem store_tx (s : ByteArray) (w : World) (p : Addr) (x : Value) (h1 : w.cell? p = some x) (h2 : w.frozen? p = false) : (Instr.storeAt 9 (.pointer (some p)) (.string s)).run Tryz.prog w = .ok () (w.setCell p (.string s)) := by
  refine satU_run ?_;go_simp;try simp [h1, h2]
def LHold (u : World) (g n : Nat) (ls : List (List Int)) : Prop := ∃ vs : List (Option Addr × Nat × Nat), vs.length = ls.length ∧ Fill slR (none, 0, 0) u g n vs ∧ ∀ (i : Nat) l, ls[i]? = some l → ∃ b c, vs[i]? = some (some ⟨b, 0, none⟩, l.length, c) ∧ HoldI u b l ∧ b < u.heap.size ∧ g < b
section
variable {u u' : World} {g n : Nat} {ls : List (List Int)}
theorem LHold.start (h : Fill slR (none, 0, 0) u g n []) : LHold u g n [] := ⟨[], rfl, h, fun i l hi => by simp at hi⟩
theorem LHold.lt (h : LHold u g n ls) : g < u.heap.size := by
  obtain ⟨vs, h1, h2, h3⟩ := h;exact h2.lt
theorem LHold.on (h : LHold u g n ls) (hb : Below u.heap.size u u') : LHold u' g n ls := by
  obtain ⟨vs, h1, h2, h3⟩ := h;refine ⟨vs, h1, h2.on hb, fun i l hi => ?_⟩;obtain ⟨b, c, e1, e2, e3, e4⟩ := h3 i l hi;exact ⟨b, c, e1, e2.on hb, Nat.lt_of_lt_of_le e3 hb.size, e4⟩
theorem LHold.up (h : LHold u g n ls) (hs : u.heap.size ≤ u'.heap.size) (hb : ∀ b, g ≤ b → u'.heap[b]? = u.heap[b]?) : LHold u' g n ls := by
  obtain ⟨vs, h1, h2, h3⟩ := h;refine ⟨vs, h1, h2.at hs (hb g (Nat.le_refl _)), fun i l hi => ?_⟩;obtain ⟨b, c, e1, e2, e3, e4⟩ := h3 i l hi;exact ⟨b, c, e1, e2.at (hb b (by omega)), by omega, e4⟩
theorem LHold.push (h : LHold u g n ls) (k : Nat) (hk : k = ls.length) (hl : k < n) (b : Nat) (l : List Int) (hb : HoldI u b l) (hbl : b < u.heap.size) (hbg : g < b) :
    ∃ u', (Instr.storeAt 42 (.pointer (some ⟨g, k, none⟩)) (.slice (some ⟨b, 0, none⟩) l.length l.length)).run Tryz.prog u = .ok () u' ∧ LHold u' g n (ls ++ [l]) ∧ (∀ b, b ≠ g → u'.heap[b]? = u.heap[b]?) ∧ u'.heap.size = u.heap.size ∧ ∀ B, B ≤ g → Below B u u' := by
  obtain ⟨vs, h1, h2, h3⟩ := h;obtain ⟨u', r1, r2, r3, r4, r5⟩ := h2.push1 (P := Tryz.prog) (e := 42) (by omega) k (by omega) (some ⟨b, 0, none⟩, l.length, l.length) (.slice (some ⟨b, 0, none⟩) l.length l.length) rfl rfl (fun w p c => store_sl _ _ _ w p c);refine ⟨u', r1, ⟨vs ++ [(some ⟨b, 0, none⟩, l.length, l.length)], by simp [h1], r2, fun i l' hi => ?_⟩, r3, r4, r5⟩;rcases Nat.lt_or_ge i ls.length with hil | hil
  · rw [List.getElem?_append_left hil] at hi;obtain ⟨b', c', e1, e2, e3, e4⟩ := h3 i l' hi;exact ⟨b', c', by rw [List.getElem?_append_left (by omega)]; exact e1, e2.at (r3 b' (by omega)), by omega, e4⟩
  · have hi2 : i = ls.length := by
      have := (List.getElem?_eq_some_iff.1 hi).1;rw [List.length_append, List.length_singleton] at this;omega
    subst hi2;rw [List.getElem?_append_right (Nat.le_refl _), Nat.sub_self] at hi;simp at hi;subst hi;exact ⟨b, l.length, by rw [List.getElem?_append_right (by omega), h1, Nat.sub_self]; rfl, hb.at (r3 b (by omega)), by omega, hbg⟩
theorem LHold.any (h : LHold u g n ls) (k : Nat) (hk : k = ls.length) (hl : k < n) (A : Option Addr) (m c : Nat) :
    ∃ u', (Instr.storeAt 42 (.pointer (some ⟨g, k, none⟩)) (.slice A m c)).run Tryz.prog u = .ok () u' ∧ (∀ b, b ≠ g → u'.heap[b]? = u.heap[b]?) ∧ u'.heap.size = u.heap.size ∧ ∀ B, B ≤ g → Below B u u' := by
  obtain ⟨vs, h1, h2, h3⟩ := h;obtain ⟨u', r1, -, r3, r4, r5⟩ := h2.push1 (P := Tryz.prog) (e := 42) (by omega) k (by omega) (A, m, c) (.slice A m c) rfl rfl (fun w p x => store_sl _ _ _ w p x);exact ⟨u', r1, r3, r4, r5⟩
end
def LSpan (w : World) (A : Option Addr) (ls : List (List Int)) (B1 B2 : Nat) : Prop := ∀ (i : Nat) l, ls[i]? = some l → ∃ b o Y c, A = some ⟨b, o, none⟩ ∧ b < w.heap.size ∧ (B1 ≤ b ∧ b < B2) ∧ w.cell? ⟨b, o + i, none⟩ = some (.slice Y l.length c) ∧ IIn w Y l ∧ ∀ b' o', Y = some ⟨b', o', none⟩ → B1 ≤ b' ∧ b' < B2
section
variable {w w' : World} {A : Option Addr} {ls : List (List Int)} {B1 B2 : Nat}
theorem LSpan.via {X : Nat → Prop} (h : LSpan w A ls B1 B2) (hb : But X w w') (hX : ∀ b, X b → b < B1 ∨ B2 ≤ b) : LSpan w' A ls B1 B2 := fun i l hi => by
  obtain ⟨b, o, Y, c, h1, h2, h3, h4, h5, h6⟩ := h i l hi;refine ⟨b, o, Y, c, h1, Nat.lt_of_lt_of_le h2 hb.size, h3, (hb.cell h2 (fun hx => by have := hX b hx; omega)).trans h4, hb.iin h5 (fun b' o' e hx => by have := hX b' hx; have := h6 b' o' e; omega), h6⟩
theorem LSpan.on (h : LSpan w A ls B1 B2) (hb : Below w.heap.size w w') : LSpan w' A ls B1 B2 := h.via (X := fun _ => False) (But.of_below hb) (fun _ h => h.elim)
theorem LHold.span {u : World} {g n : Nat} (h : LHold u g n ls) : LSpan u (some ⟨g, 0, none⟩) ls g u.heap.size := fun i l hi => by
  obtain ⟨vs, h1, h2, h3⟩ := h;obtain ⟨b, c, e1, e2, e3, e4⟩ := h3 i l hi;have hv := (List.getElem?_eq_some_iff.1 e1).1;have := h2.2.cell (i := i) (j := 0) (by rw [List.getElem?_append_left hv]; exact e1) rfl;have e : i * slR.size + 0 = i := by show i * 1 + 0 = i; omega
  rw [e] at this;refine ⟨g, 0, some ⟨b, 0, none⟩, c, rfl, h2.lt, ⟨Nat.le_refl _, h2.lt⟩, by rw [Nat.zero_add]; exact this, e2.iin, fun b' o' he => ?_⟩;cases he;exact ⟨by omega, e3⟩
theorem LSpan.mono {C1 C2 : Nat} (h : LSpan w A ls B1 B2) (h1 : C1 ≤ B1) (h2 : B2 ≤ C2) : LSpan w A ls C1 C2 := fun i l hi => by
  obtain ⟨b, o, Y, c, e1, e2, e3, e4, e5, e6⟩ := h i l hi;exact ⟨b, o, Y, c, e1, e2, by omega, e4, e5, fun b' o' e => by have := e6 b' o' e; omega⟩
end
def wV : Option Int → Value
  | none => .nilIface
  | some p => flt p (.iface 66 (.int .i64 4))
theorem badM_congr {b : Int} {r1 r2 : List (List Int × Int)} : ∀ (ms : List (Int × Int)) (i : Nat), (∀ j, j < ms.length → (r1.getD (8 * (i + j)) ([], b)).2 = (r2.getD (8 * (i + j)) ([], b)).2) → badM b r1 i ms = badM b r2 i ms
  | [], i, h => rfl
  | (m, p) :: l, i, h => by
    have ih : badM b r1 (i + 1) l = badM b r2 (i + 1) l := badM_congr l (i + 1) fun j hj => by
      have := h (j + 1) (by simpa using hj)
      rwa [show i + (j + 1) = i + 1 + j by omega] at this
    have h0 := h 0 (by simp);rw [Nat.add_zero] at h0;rw [badM, badM, h0, ih]
theorem badM_app {b : Int} {rs : List (List Int × Int)} (m p : Int) : ∀ (ms : List (Int × Int)) (i : Nat), badM b rs i (ms ++ [(m, p)]) = (match badM b rs i ms with
    | some y => some y
    | none => if m = (rs.getD (8 * (i + ms.length)) ([], b)).2 - b then none else some p)
  | [], i => by
    rw [List.nil_append, badM, badM, badM]
    rfl
  | (m', p') :: l, i => by
    rw [List.cons_append, badM, badM, badM_app m p l (i + 1), List.length_cons, show i + 1 + l.length = i + (l.length + 1) by omega]
    split <;> rfl
theorem getD_app {b : Int} {rs : List (List Int × Int)} {x : List Int × Int} {i : Nat} (h : i < rs.length) : (rs ++ [x]).getD i ([], b) = rs.getD i ([], b) := by
  simp [List.getD, List.getElem?_append_left h]
theorem badM_row {b q : Int} {rs : List (List Int × Int)} {ms : List (Int × Int)} {k : Nat} (hk : rs.length = k) (h8 : k % 8 ≠ 0) (l : List Int) : badM b (rs ++ [(l, q)]) 0 (ms.take (marksN (k + 1))) = badM b rs 0 (ms.take (marksN k)) := by
  have e : marksN (k + 1) = marksN k := by unfold marksN; omega
  rw [e];refine badM_congr _ 0 fun j hj => ?_;rw [Nat.zero_add, getD_app];rw [List.length_take] at hj;unfold marksN at hj;omega
theorem badM_mark {b q m p : Int} {rs : List (List Int × Int)} {ms : List (Int × Int)} {k : Nat} (hk : rs.length = k) (h8 : k % 8 = 0) (hm : ms[k / 8]? = some (m, p)) (l : List Int) : badM b (rs ++ [(l, q)]) 0 (ms.take (marksN (k + 1))) = (match badM b rs 0 (ms.take (marksN k)) with
    | some y => some y
    | none => if m = q - b then none else some p) := by
  obtain ⟨hl, e⟩ := List.getElem?_eq_some_iff.1 hm;have e1 : marksN (k + 1) = k / 8 + 1 := by unfold marksN; omega
  have e2 : marksN k = k / 8 := by unfold marksN; omega
  rw [e1, e2, List.take_succ_eq_append_getElem hl, e, badM_app, List.length_take, Nat.min_eq_left (by omega), Nat.zero_add]
  have e3 : (rs ++ [(l, q)]).getD (8 * (k / 8)) ([], b) = (l, q) := by
    rw [show 8 * (k / 8) = k by omega, ← hk];simp [List.getD]
  rw [e3, badM_congr (r1 := rs ++ [(l, q)]) (r2 := rs) (ms.take (k / 8)) 0 (fun j hj => by
    rw [Nat.zero_add, getD_app];rw [List.length_take] at hj
    omega)]
end Go.Proofs.YtchdlgdmomcemaaGreatDoor.Shd
end
section
namespace Go.Proofs.YtchdlgdmomcemaaGreatDoor.Shd
open Go Go.RowKit Go.Lib Oct Num Gap RowG
def ORet (w : World) (r : (Int × Int) ⊕ (Int × Nat × List (Int × Int) × Int)) (e : Ending) (w' : World) : Prop := Below w.heap.size w w' ∧ ((∃ x a, r = .inl (x, a) ∧ x ≠ 0 ∧ e = .returned (.tuple #[.agg #[.int .i64 0, .int .i64 0, .slice none 0 0, .int .i64 0], faultV a x])) ∨
  ∃ a n ms b g, r = .inr (a, n, ms, b) ∧ e = .returned (.tuple #[.agg #[.int .i64 a, .int .i64 (n : Int), .slice (some ⟨g, 0, none⟩) (marksN n) (marksN n), .int .i64 b], .nilIface]) ∧ Hold ipR w' g ms ∧ w.heap.size ≤ g)
set_option maxRecDepth 100000 in
set_option maxHeartbeats 4000000 in
theorem open_any (s : ByteArray) (N : Int) (w : World) (hs : s.size ≤ maxLen) (hN0 : 0 ≤ N) (hN : N ≤ 4096) :
    Calls Tryz.prog 77 #[.string s, .int .i64 N] w (ORet w (opG s N)) := by
  refine Kn.Z.cl Tryz.func77 rfl Tryz.ntmps77 rfl (.c 0 rfl (.c 1 rfl .n)) ?_;refine Kn.Z.f fun K1 hK1=>?_;refine Kn.Z.s .o .alloc fun Ko Kp=>?_;go_simp;(try go_bits);refine Kp _ _ ?_;clear Kp Ko;refine Kn.Z.u (.a .c .n) ?_;refine Kn.Z.e hK1 ?_;clear hK1 K1;refine Kn.Z.g (fun v => St.St v w.heap.size 140 #[.int .i64 0, .int .i64 0, .slice none 0 0, .int .i64 0] ∧ Below w.heap.size w v) ⟨St.St.new _ _ _, (Below.refl _ w).alloc (Nat.le_refl _) _⟩ fun v0 hvv => ?_;have HS0 := Lib.hid hvv.1;have HB0 := Lib.hid hvv.2;obtain ⟨g4, hg4e⟩ : ∃ g, w.heap.size = g := ⟨_, rfl⟩;have hg4 : w.heap.size ≤ g4 := by omega
  intro fa fh;rw [hg4e] at HS0 fh;clear hvv;have q1 : ¬ N < 0 := by omega
  have q2 : ¬ 4096 < N := by omega
  revert fa
  refine Kn.Z.q fun K2 hK2=>?_;refine Kn.Z.f fun K3 hK3=>?_;refine Kn.Z.u (.m (.t rfl) .n) ?_;refine Kn.Z.s .o (.bin (.t rfl) .c) fun Ko Kp=>?_;go_simp;(try go_bits);refine Kp _ _ ?_;clear Kp Ko;refine Kn.Z.u (.m (.t rfl) (.e (.s rfl rfl rfl) (.move (.t rfl)) .n)) ?_;refine Kn.Z.s (.s rfl rfl rfl) (.bin (.t rfl) .c) fun Ko Kp=>?_;go_simp;(try go_bits);refine Kp _ _ ?_;clear Kp Ko;refine Kn.Z.u (.e .o (.pick (.t rfl) (.t rfl)) .n) ?_;refine Kn.Z.e hK3 ?_;clear hK3 K3;refine Kn.Z.no (.t rfl) ?_;refine Kn.Z.j hK2 ?_;clear hK2 K2;clear q1 q2;have hsh := short_g s 0 v0 hs;rcases hg : rdG s 0 with ⟨x1, n1, e1, a1⟩;rw [hg] at hsh;simp only at hsh;have HR1 := Lib.hid hg
  by_cases he1 : e1 = 0
  · subst he1;rw [gE_0] at hsh;obtain ⟨hx1, -, -, hn1, rfl, -⟩ := rdG_ok hg;clear hg;have HO1 : Hid (opG s N = op1 s N x1 n1) := Lib.hid (by unfold opG; rw [HR1.out, if_pos rfl]);refine Kn.Z.f fun K4 hK4=>?_;refine Kn.Z.u (.m (.t rfl) .n) ?_;refine Kn.Z.c .o (.call (.c (.t rfl) (.c .c .n))) Tryz.call104 (hsh) fun e wx hp=>?_;obtain ⟨rfl, rfl⟩ := hp;refine ⟨_,rfl,?_⟩;refine Kn.Z.u (.m (.t rfl) (.x (.t rfl) rfl (.x (.t rfl) rfl (.x (.t rfl) rfl (.a (.t rfl) (.a (.t rfl) (.a (.t rfl) .n))))))) ?_;refine Kn.Z.e hK4 ?_;clear hK4 K4;refine Kn.Z.t (.c 8 rfl (.c 7 rfl (.c 6 rfl (.c 5 rfl (.c 4 rfl (.c 0 rfl (.c 1 rfl .n))))))) ?_;clear hsh;refine Kn.Z.q fun K5 hK5=>?_;refine Kn.Z.f fun K6 hK6=>?_;refine Kn.Z.u (.m (.t rfl) .n) ?_;refine Kn.Z.s .o (.bin (.t rfl) .c) fun Ko Kp=>?_;go_simp;(try go_bits);refine Kp _ _ ?_;clear Kp Ko;refine Kn.Z.e hK6 ?_;clear hK6 K6;refine Kn.Z.no (.t rfl) ?_;refine Kn.Z.j hK5 ?_;clear hK5 K5;have hsh := short_g s n1 v0 hs;rcases hg : rdG s n1 with ⟨x2, n2, e2, a2⟩;rw [hg] at hsh;simp only at hsh;have HR2 := Lib.hid hg
    by_cases he2 : e2 = 0
    · subst he2;rw [gE_0] at hsh;obtain ⟨hx2, -, -, hn2, rfl, -⟩ := rdG_ok hg;have hn2p : 0 ≤ n2 := by have := (rdG_ok hg).2.1; have := (rdG_ok hg).2.2.1; omega
      clear hg;have har := areNodes_any N x1 x2 v0 hN0 hN (by omega);refine Kn.Z.f fun K7 hK7=>?_;refine Kn.Z.u (.m (.t rfl) (.m (.t rfl) .n)) ?_;refine Kn.Z.c .o (.call (.c (.t rfl) (.c (.t rfl) .n))) Tryz.call104 (hsh) fun e wx hp=>?_;obtain ⟨rfl, rfl⟩ := hp;refine ⟨_,rfl,?_⟩;refine Kn.Z.u (.m (.t rfl) (.x (.t rfl) rfl (.x (.t rfl) rfl (.x (.t rfl) rfl (.a (.t rfl) (.a (.t rfl) (.a (.t rfl) .n))))))) ?_;refine Kn.Z.e hK7 ?_;clear hK7 K7;refine Kn.Z.t (.c 8 rfl (.c 10 rfl (.c 9 rfl (.c 7 rfl (.c 6 rfl (.c 5 rfl (.c 4 rfl (.c 0 rfl (.c 1 rfl .n))))))))) ?_;clear hsh;refine Kn.Z.q fun K8 hK8=>?_;refine Kn.Z.f fun K9 hK9=>?_;refine Kn.Z.u (.m (.t rfl) .n) ?_;refine Kn.Z.s .o (.bin (.t rfl) .c) fun Ko Kp=>?_;go_simp;(try go_bits);refine Kp _ _ ?_;clear Kp Ko;refine Kn.Z.e hK9 ?_;clear hK9 K9;refine Kn.Z.no (.t rfl) ?_;refine Kn.Z.j hK8 ?_;clear hK8 K8
      by_cases hnb : x2 < 1 ∨ N < x1 + x2
      · rw [nodesB_no (by omega)] at har;have HF : Hid (opG s N = .inl (4, n1)) := Lib.hid (by rw [HO1.out]; unfold op1; rw [HR2.out, if_pos rfl, if_pos hnb]);have hf := sfault_any n1 66 (.int .i64 4) v0;unfold flt at hf;refine Kn.Z.q fun K10 hK10=>?_;refine Kn.Z.f fun K11 hK11=>?_;refine Kn.Z.u (.m (.t rfl) (.m (.t rfl) (.m (.t rfl) .n))) ?_;refine Kn.Z.c .o (.call (.c (.t rfl) (.c (.t rfl) (.c (.t rfl) .n)))) Tryz.call94 (har) fun e wx hp=>?_;obtain ⟨rfl, rfl⟩ := hp;refine ⟨_,rfl,?_⟩;refine Kn.Z.s .o (.un (.t rfl)) fun Ko Kp=>?_;go_simp;(try go_bits);refine Kp _ _ ?_;clear Kp Ko;refine Kn.Z.e hK11 ?_;clear hK11 K11;refine Kn.Z.y (.t rfl) ?_;clear har;obtain ⟨hst, hS2, hB2⟩ := HS0.out.store (P := Tryz.prog) (cells := #[.int .i64 0, .int .i64 0, .slice none 0 0, .int .i64 0]) (by kernel_rfl) rfl (by simp [Value.oneCell']);refine Kn.Z.f fun K12 hK12=>?_;refine Kn.Z.s .o (.build .n) fun Ko Kp=>?_;go_simp;(try go_bits);refine Kp _ _ ?_;clear Kp Ko;refine Kn.Z.u (.m (.t rfl) .n) ?_;refine Kn.Z.s .o (.makeInterface .c) fun Ko Kp=>?_;go_simp;(try go_bits);refine Kp _ _ ?_;clear Kp Ko;refine Kn.Z.c .o (.call (.c (.t rfl) (.c (.t rfl) .n))) Tryz.call72 (hf) fun e wx hp=>?_;obtain ⟨rfl, rfl⟩ := hp;refine ⟨_,rfl,?_⟩;refine Kn.Z.su .o (.store (.t rfl) (.t rfl)) fun Ko Kp=>?_;rw [hst];refine Kp _ ?_;clear Kp Ko;refine Kn.Z.u (.a (.t rfl) .n) ?_;refine Kn.Z.e hK12 ?_;clear hK12 K12;refine Kn.Z.t (.c 5 rfl (.c 10 rfl (.c 9 rfl (.c 6 rfl (.c 4 rfl (.c 0 rfl .n)))))) ?_;intro fb fg;refine wp_ret ?_;refine Kn.then_ret ?_;exact Kn.retS2 fg rfl rfl rfl hS2 Tryz.underlying140 rfl (by kernel_rfl) ⟨HB0.out.trans (hB2 _ hg4), .inl ⟨_, _, HF.out, by decide, rfl⟩⟩
      rw [nodesB_yes (by omega)] at har;obtain ⟨n, rfl⟩ : ∃ n : Nat, x2 = (n : Int) := ⟨x2.toNat, by omega⟩;have hnn : 1 ≤ n ∧ n ≤ 4096 := by omega
      have HO2 : Hid (opG s N = (match mkF s (marksN n) n2 with | .inl e => .inl e | .inr (ms, b) => .inr (x1, n, ms, b))) := Lib.hid (by rw [HO1.out]; unfold op1; rw [HR2.out, if_pos rfl, if_neg hnb, Int.toNat_natCast] <;> rfl);obtain ⟨j1, hj1⟩ : ∃ j, n = j + 1 := ⟨n - 1, by omega⟩;obtain ⟨d, hd⟩ : ∃ d, j1 / 8 = d := ⟨_, rfl⟩;obtain ⟨M, hM⟩ : ∃ M, marksN n = M := ⟨_, rfl⟩;have hMd : M = d + 1 := by rw [← hM]; unfold marksN; omega
      have hMb : M ≤ 600 := by rw [← hM]; unfold marksN; omega
      have r1 : (n : Int) - 1 = (j1 : Int) := by omega
      have r2 : (j1 : Int).tdiv 8 = (d : Int) := by rw [Int.tdiv_eq_ediv_of_nonneg (by omega)]; omega
      have r3 : (d : Int) + 1 = (M : Int) := by omega
      obtain ⟨w5, hmk, hO5, hb5⟩ := makeG (P := Tryz.prog) ipR elemLead (0, 0) rfl v0 M (by show M * 2 ≤ _; omega) (by omega) (by omega);have HM := Lib.hid hM;clear hnb hM hMd hj1 hd;refine Kn.Z.q fun K10 hK10=>?_;refine Kn.Z.f fun K11 hK11=>?_;refine Kn.Z.u (.m (.t rfl) (.m (.t rfl) (.m (.t rfl) .n))) ?_;refine Kn.Z.c .o (.call (.c (.t rfl) (.c (.t rfl) (.c (.t rfl) .n)))) Tryz.call94 (har) fun e wx hp=>?_;obtain ⟨rfl, rfl⟩ := hp;refine ⟨_,rfl,?_⟩;refine Kn.Z.s .o (.un (.t rfl)) fun Ko Kp=>?_;go_simp;(try go_bits);refine Kp _ _ ?_;clear Kp Ko;refine Kn.Z.e hK11 ?_;clear hK11 K11;refine Kn.Z.no (.t rfl) ?_;refine Kn.Z.j hK10 ?_;clear hK10 K10;refine Kn.Z.t (.c 10 rfl (.c 9 rfl (.c 6 rfl (.c 5 rfl (.c 4 rfl (.c 0 rfl .n)))))) ?_;clear har;refine Kn.Z.f fun K12 hK12=>?_;refine Kn.Z.u (.m (.t rfl) .n) ?_;refine Kn.Z.s .o (.bin (.t rfl) .c) fun Ko Kp=>?_;go_simp;(try go_bits);try rw [r1]
      try go_simp
      (try go_bits);refine Kp _ _ ?_;clear Kp Ko;refine Kn.Z.s .o (.bin (.t rfl) .c) fun Ko Kp=>?_;go_simp;(try go_bits);try rw [r2]
      try go_simp
      (try go_bits);refine Kp _ _ ?_;clear Kp Ko;refine Kn.Z.s .o (.bin (.t rfl) .c) fun Ko Kp=>?_;go_simp;(try go_bits);try rw [r3]
      try go_simp
      (try go_bits);refine Kp _ _ ?_;clear Kp Ko;refine Kn.Z.k .o (.makeSlice (.t rfl) (.t rfl)) hmk ?_;refine Kn.Z.u (.a (.t rfl) .n) ?_;refine Kn.Z.e hK12 ?_;clear hK12 K12;clear hmk r1 r2 r3;obtain ⟨g5, hg5e⟩ : ∃ g, v0.heap.size = g := ⟨_, rfl⟩;have hg5w : w.heap.size ≤ g5 := by rw [← hg5e]; exact HB0.out.size
      have hg45 : g4 < g5 := by rw [← hg5e]; exact HS0.out.lt
      intro fa fh;rw [hg5e] at hO5 fh;have HF5 : Hid (Fill ipR (0, 0) w5 g5 M []) := Lib.hid (Fill.start hO5);have HS5 := Lib.hid (HS0.out.on hb5);have HB5 := Lib.hid (HB0.out.trans (hb5.mono HB0.out.size));rw [HM.out] at HO2;clear hO5 hb5 hg5e HS0 HB0 HO1 HR1 HR2
      revert fa
      refine Kn.Z.q fun K13 hK13=>?_;refine Kn.Z.f fun K14 hK14=>?_;refine Kn.Z.u (.m (.t rfl) .n) ?_;refine Kn.Z.s .o (.len (.t rfl)) fun Ko Kp=>?_;go_simp;(try go_bits);refine Kp _ _ ?_;clear Kp Ko;refine Kn.Z.u (.m .c .n) ?_;refine Kn.Z.e hK14 ?_;clear hK14 K14;refine Kn.Z.b ?_;intro fb fg;refine Kn.loop (fun m fr u => ∃ (k j : Nat) (p : Int) (done : List (Int × Int)), Kn.Kn 88 [(61, .int .i64 (k : Int)), (60, .int .i64 (M : Int)), (11, .slice (some ⟨g5, 0, none⟩) M M), (10, .int .i64 p), (0, .string s), (4, .pointer (some ⟨g4, 0, none⟩)), (6, .int .i64 x1), (9, .int .i64 (n : Int))] fr ∧ k + j = M ∧ m = j ∧ (0 ≤ p ∧ p ≤ s.size) ∧ Hid (done.length = k) ∧ Hid (MkYet s j p done (mkF s M n2)) ∧ Hid (Fill ipR (0, 0) u g5 M done) ∧ Hid (St.St u g4 140 #[.int .i64 0, .int .i64 0, .slice none 0 0, .int .i64 0]) ∧ Hid (Below w.heap.size w u)) M ⟨0, M, n2, [], fg.cut (.u 61 rfl rfl (.c 60 rfl (.c 11 rfl (.c 10 rfl (.c 0 rfl (.c 4 rfl (.c 6 rfl (.c 9 rfl .n)))))))), by omega, rfl, by omega, Lib.hid rfl, Lib.hid MkYet.start, HF5, HS5, HB5⟩ ?_;clear fg fb;intro m15 fa u hI Kl15 hKl15;obtain ⟨k, j, p, done, fh, hkj, hmj, hp, HDl, HT, HFl, HS, HB⟩ := hI;clear HF5 HS5 HB5;rcases j with _ | j
      · obtain rfl : k = M := by omega
        have HMk : Hid (mkF s k n2 = .inr (done, p)) := Lib.hid HT.out.done;have HF : Hid (opG s N = .inr (x1, n, done, p)) := Lib.hid (by rw [HO2.out, HMk.out]);have HH : Hid (Hold ipR u g5 done) := Lib.hid (HFl.out.full HDl.out);clear HT HO2
        revert fa
        refine Kn.Z.f fun K16 hK16=>?_;refine Kn.Z.s .o (.bin (.t rfl) (.t rfl)) fun Ko Kp=>?_;go_simp;(try go_bits);refine Kp _ _ ?_;clear Kp Ko;refine Kn.Z.e hK16 ?_;clear hK16 K16;refine Kn.Z.q fun K17 hK17=>?_;refine Kn.Z.no (.t rfl) ?_;refine Kn.Z.t (.c 61 rfl (.c 60 rfl (.c 11 rfl (.c 10 rfl (.c 0 rfl (.c 4 rfl (.c 6 rfl (.c 9 rfl .n)))))))) ?_;intro fb fg;refine wp_exit ?_;refine Kn.then_exit ?_;clear hK17 K17;refine Kn.then_exit ?_;clear hKl15 Kl15;refine Kn.block_exit ?_;refine hK13 _ _ ?_;clear hK13 K13;have hHo := HH.out;obtain ⟨hst, hS2, hB2⟩ := HS.out.store (P := Tryz.prog) (cells := #[.int .i64 x1, .int .i64 (n : Int), .slice (some ⟨g5, 0, none⟩) k k, .int .i64 p]) (by kernel_rfl) rfl (by simp [Value.oneCell'])
        revert fb
        refine Kn.Z.f fun K18 hK18=>?_;refine Kn.Z.u (.m (.t rfl) (.m (.t rfl) (.m (.t rfl) (.m (.t rfl) .n)))) ?_;refine Kn.Z.s .o (.build (.c (.t rfl) (.c (.t rfl) (.c (.t rfl) (.c (.t rfl) .n))))) fun Ko Kp=>?_;go_simp;(try go_bits);refine Kp _ _ ?_;clear Kp Ko;refine Kn.Z.su .o (.store (.t rfl) (.t rfl)) fun Ko Kp=>?_;rw [hst];refine Kp _ ?_;clear Kp Ko;refine Kn.Z.u (.a .c .n) ?_;refine Kn.Z.e hK18 ?_;clear hK18 K18;refine Kn.Z.t (.c 5 rfl (.c 4 rfl .n)) ?_;intro fb fg;refine wp_ret ?_;exact Kn.retS2 fg rfl rfl rfl hS2 Tryz.underlying140 rfl (by kernel_rfl) ⟨HB.out.trans (hB2 _ hg4), .inr ⟨x1, n, done, p, g5, HF.out, by rw [HM.out], hHo.at (Nat.le_of_eq (by simp)) (setRow_other u g4 g5 _ (by omega)), hg5w⟩⟩
      have hlt : k < M := by omega
      have hsh := short_g s p u hs;rcases hg : rdG s p with ⟨x3, n3, e3, a3⟩;rw [hg] at hsh;simp only at hsh;have HR3 := Lib.hid hg
      by_cases he3 : e3 = 0
      · subst he3;rw [gE_0] at hsh;obtain ⟨hx3, hp3, hpn3, hn3, rfl, -⟩ := rdG_ok hg;clear hg;have HT2 : Hid (MkYet s j n3 (done ++ [(x3, p)]) (mkF s M n2)) := Lib.hid (HT.out.next HR3.out);have HD2 : Hid ((done ++ [(x3, p)]).length = k + 1) := Lib.hid (by rw [List.length_append, HDl.out]; rfl);obtain ⟨u2, hst, hF2, hot, hsz, hbl⟩ := HFl.out.pushM (P := Tryz.prog) (e := 144) (by rw [HDl.out]; exact hlt) k HDl.out.symm (sz := 2) rfl (x3, p) #[.int .i64 x3, .int .i64 p] rfl (by kernel_rfl);have HF2 := Lib.hid hF2;have HS2 : Hid (St.St u2 g4 140 #[.int .i64 0, .int .i64 0, .slice none 0 0, .int .i64 0]) := Lib.hid ((hot g4 (by omega)).trans HS.out);have HB2 := Lib.hid (HB.out.trans (hbl _ hg5w));clear hF2 hot hsz hbl HT HDl HFl HS HB
        revert fa
        refine Kn.Z.f fun K16 hK16=>?_;refine Kn.Z.s .o (.bin (.t rfl) (.t rfl)) fun Ko Kp=>?_;go_simp;(try go_bits);refine Kp _ _ ?_;clear Kp Ko;refine Kn.Z.e hK16 ?_;clear hK16 K16;refine Kn.Z.q fun K17 hK17=>?_;refine Kn.Z.y (.t rfl) ?_;refine Kn.Z.j hK17 ?_;clear hK17 K17;refine Kn.Z.t (.c 61 rfl (.c 60 rfl (.c 11 rfl (.c 10 rfl (.c 0 rfl (.c 4 rfl (.c 6 rfl (.c 9 rfl .n)))))))) ?_;refine Kn.Z.q fun K18 hK18=>?_;refine Kn.Z.b ?_;refine Kn.Z.f fun K19 hK19=>?_;refine Kn.Z.u (.m (.t rfl) (.a (.t rfl) .n)) ?_;refine Kn.Z.e hK19 ?_;clear hK19 K19;refine Kn.Z.f fun K20 hK20=>?_;refine Kn.Z.u (.m (.t rfl) (.m (.t rfl) .n)) ?_;refine Kn.Z.c .o (.call (.c (.t rfl) (.c (.t rfl) .n))) Tryz.call104 (hsh) fun e wx hp=>?_;obtain ⟨rfl, rfl⟩ := hp;refine ⟨_,rfl,?_⟩;refine Kn.Z.u (.m (.t rfl) (.x (.t rfl) rfl (.x (.t rfl) rfl (.x (.t rfl) rfl (.a (.t rfl) (.a (.t rfl) (.a (.t rfl) .n))))))) ?_;refine Kn.Z.e hK20 ?_;clear hK20 K20;clear hsh;refine Kn.Z.q fun K21 hK21=>?_;refine Kn.Z.f fun K22 hK22=>?_;refine Kn.Z.u (.m (.t rfl) .n) ?_;refine Kn.Z.s .o (.bin (.t rfl) .c) fun Ko Kp=>?_;go_simp;(try go_bits);refine Kp _ _ ?_;clear Kp Ko;refine Kn.Z.e hK22 ?_;clear hK22 K22;refine Kn.Z.no (.t rfl) ?_;refine Kn.Z.j hK21 ?_;clear hK21 K21;refine Kn.Z.t (.c 14 rfl (.c 13 rfl (.c 12 rfl (.c 61 rfl (.c 60 rfl (.c 11 rfl (.c 10 rfl (.c 0 rfl (.c 4 rfl (.c 6 rfl (.c 9 rfl .n))))))))))) ?_;refine Kn.Z.r ?_;refine Kn.Z.u (.m (.t rfl) (.m (.t rfl) (.m (.t rfl) (.m (.t rfl) .n)))) ?_;refine Kn.Z.s .o (.build (.c (.t rfl) (.c (.t rfl) .n))) fun Ko Kp=>?_;go_simp;(try go_bits);refine Kp _ _ ?_;clear Kp Ko;refine Kn.Z.u (.m (.t rfl) .n) ?_;refine Kn.Z.s .o (.indexAddr (.t rfl) (.t rfl)) fun Ko Kp=>?_;go_simp;(try go_bits);refine Kp _ _ ?_;clear Kp Ko;refine Kn.Z.su .o (.store (.t rfl) (.t rfl)) fun Ko Kp=>?_;rw [hst];refine Kp _ ?_;clear Kp Ko;refine Kn.Z.u (.a (.t rfl) .n) ?_;intro fb fg;refine wpList_nil ?_;refine Kn.block_normal ?_;refine hK18 _ _ ?_;clear hK18 K18
        revert fb
        refine Kn.Z.t (.c 10 rfl (.c 61 rfl (.c 60 rfl (.c 11 rfl (.c 0 rfl (.c 4 rfl (.c 6 rfl (.c 9 rfl .n)))))))) ?_;clear hst;refine Kn.Z.r ?_;refine Kn.Z.s .o (.bin (.t rfl) .c) fun Ko Kp=>?_;go_simp;(try go_bits);refine Kp _ _ ?_;clear Kp Ko;refine Kn.Z.u (.m (.t rfl) .n) ?_;intro fb fg;refine wpList_nil ?_;replace fg := fg.cut (.c 61 rfl (.c 10 rfl (.c 60 rfl (.c 11 rfl (.c 0 rfl (.c 4 rfl (.c 6 rfl (.c 9 rfl .n))))))));exact hKl15 (m15 - 1) _ _ (by omega) ⟨k + 1, j, n3, _, fg.cut (.u 61 rfl (by go_num) (.c 60 rfl (.c 11 rfl (.c 10 rfl (.c 0 rfl (.c 4 rfl (.c 6 rfl (.c 9 rfl .n)))))))), by omega, by omega, by omega, HD2, HT2, HF2, HS2, HB2⟩
      clear hg
      revert fa
      refine Kn.Z.f fun K16 hK16=>?_;refine Kn.Z.s .o (.bin (.t rfl) (.t rfl)) fun Ko Kp=>?_;go_simp;(try go_bits);refine Kp _ _ ?_;clear Kp Ko;refine Kn.Z.e hK16 ?_;clear hK16 K16;refine Kn.Z.q fun K17 hK17=>?_;refine Kn.Z.y (.t rfl) ?_;refine Kn.Z.j hK17 ?_;clear hK17 K17;refine Kn.Z.t (.c 61 rfl (.c 60 rfl (.c 11 rfl (.c 10 rfl (.c 0 rfl (.c 4 rfl (.c 6 rfl (.c 9 rfl .n)))))))) ?_;refine Kn.Z.q fun K18 hK18=>?_;refine Kn.Z.b ?_;refine Kn.Z.f fun K19 hK19=>?_;refine Kn.Z.u (.m (.t rfl) (.a (.t rfl) .n)) ?_;refine Kn.Z.e hK19 ?_;clear hK19 K19;rw [gE_e he3] at hsh;have HF : Hid (opG s N = .inl (e3, a3)) := Lib.hid (by rw [HO2.out, HT.out.bad HR3.out he3]);have HE := Lib.hid he3;clear he3;refine Kn.Z.f fun K20 hK20=>?_;refine Kn.Z.u (.m (.t rfl) (.m (.t rfl) .n)) ?_;refine Kn.Z.c .o (.call (.c (.t rfl) (.c (.t rfl) .n))) Tryz.call104 (hsh) fun e wx hp=>?_;obtain ⟨rfl, rfl⟩ := hp;refine ⟨_,rfl,?_⟩;refine Kn.Z.u (.m (.t rfl) (.x (.t rfl) rfl (.x (.t rfl) rfl (.x (.t rfl) rfl (.a (.t rfl) (.a (.t rfl) (.a (.t rfl) .n))))))) ?_;refine Kn.Z.e hK20 ?_;clear hK20 K20;clear hsh;refine Kn.Z.q fun K21 hK21=>?_;refine Kn.Z.f fun K22 hK22=>?_;refine Kn.Z.u (.m (.t rfl) .n) ?_;refine Kn.Z.s .o (.bin (.t rfl) .c) fun Ko Kp=>?_;go_simp;(try go_bits);refine Kp _ _ ?_;clear Kp Ko;refine Kn.Z.e hK22 ?_;clear hK22 K22;refine Kn.Z.y (.t rfl) ?_;refine Kn.Z.t (.c 15 rfl (.c 14 rfl (.c 13 rfl (.c 12 rfl (.c 61 rfl (.c 60 rfl (.c 11 rfl (.c 10 rfl (.c 0 rfl (.c 4 rfl (.c 6 rfl (.c 9 rfl .n)))))))))))) ?_;obtain ⟨hst, hS2, hB2⟩ := HS.out.store (P := Tryz.prog) (cells := #[.int .i64 0, .int .i64 0, .slice none 0 0, .int .i64 0]) (by kernel_rfl) rfl (by simp [Value.oneCell']);refine Kn.Z.f fun K23 hK23=>?_;refine Kn.Z.s .o (.build .n) fun Ko Kp=>?_;go_simp;(try go_bits);refine Kp _ _ ?_;clear Kp Ko;refine Kn.Z.u (.m (.t rfl) .n) ?_;refine Kn.Z.su .o (.store (.t rfl) (.t rfl)) fun Ko Kp=>?_;rw [hst];refine Kp _ ?_;clear Kp Ko;refine Kn.Z.u (.a (.t rfl) .n) ?_;refine Kn.Z.e hK23 ?_;clear hK23 K23;intro fa fh;refine wp_ret ?_;refine Kn.then_ret ?_;refine Kn.block_ret ?_;refine Kn.then_ret ?_;refine Kn.then_ret ?_;refine Kn.block_ret ?_;refine Kn.then_ret ?_;exact Kn.retS2 fh rfl rfl rfl hS2 Tryz.underlying140 rfl (by kernel_rfl) ⟨HB.out.trans (hB2 _ hg4), .inl ⟨_, _, HF.out, HE.out, rfl⟩⟩
    clear hg;rw [gE_e he2] at hsh;have HF : Hid (opG s N = .inl (e2, a2)) := Lib.hid (by rw [HO1.out]; unfold op1; rw [HR2.out, if_neg he2]);have HE := Lib.hid he2;clear he2;refine Kn.Z.f fun K7 hK7=>?_;refine Kn.Z.u (.m (.t rfl) (.m (.t rfl) .n)) ?_;refine Kn.Z.c .o (.call (.c (.t rfl) (.c (.t rfl) .n))) Tryz.call104 (hsh) fun e wx hp=>?_;obtain ⟨rfl, rfl⟩ := hp;refine ⟨_,rfl,?_⟩;refine Kn.Z.u (.m (.t rfl) (.x (.t rfl) rfl (.x (.t rfl) rfl (.x (.t rfl) rfl (.a (.t rfl) (.a (.t rfl) (.a (.t rfl) .n))))))) ?_;refine Kn.Z.e hK7 ?_;clear hK7 K7;refine Kn.Z.t (.c 8 rfl (.c 10 rfl (.c 9 rfl (.c 7 rfl (.c 6 rfl (.c 5 rfl (.c 4 rfl (.c 0 rfl (.c 1 rfl .n))))))))) ?_;clear hsh;refine Kn.Z.q fun K8 hK8=>?_;refine Kn.Z.f fun K9 hK9=>?_;refine Kn.Z.u (.m (.t rfl) .n) ?_;refine Kn.Z.s .o (.bin (.t rfl) .c) fun Ko Kp=>?_;go_simp;(try go_bits);refine Kp _ _ ?_;clear Kp Ko;refine Kn.Z.e hK9 ?_;clear hK9 K9;refine Kn.Z.y (.t rfl) ?_;obtain ⟨hst, hS2, hB2⟩ := HS0.out.store (P := Tryz.prog) (cells := #[.int .i64 0, .int .i64 0, .slice none 0 0, .int .i64 0]) (by kernel_rfl) rfl (by simp [Value.oneCell']);refine Kn.Z.f fun K10 hK10=>?_;refine Kn.Z.s .o (.build .n) fun Ko Kp=>?_;go_simp;(try go_bits);refine Kp _ _ ?_;clear Kp Ko;refine Kn.Z.u (.m (.t rfl) .n) ?_;refine Kn.Z.su .o (.store (.t rfl) (.t rfl)) fun Ko Kp=>?_;rw [hst];refine Kp _ ?_;clear Kp Ko;refine Kn.Z.u (.a (.t rfl) .n) ?_;refine Kn.Z.e hK10 ?_;clear hK10 K10;intro fa fh;refine wp_ret ?_;refine Kn.then_ret ?_;exact Kn.retS2 fh rfl rfl rfl hS2 Tryz.underlying140 rfl (by kernel_rfl) ⟨HB0.out.trans (hB2 _ hg4), .inl ⟨_, _, HF.out, HE.out, rfl⟩⟩
  clear hg;rw [gE_e he1] at hsh;have HF : Hid (opG s N = .inl (e1, a1)) := Lib.hid (by unfold opG; rw [HR1.out, if_neg he1]);have HE := Lib.hid he1;clear he1;refine Kn.Z.f fun K4 hK4=>?_;refine Kn.Z.u (.m (.t rfl) .n) ?_;refine Kn.Z.c .o (.call (.c (.t rfl) (.c .c .n))) Tryz.call104 (hsh) fun e wx hp=>?_;obtain ⟨rfl, rfl⟩ := hp;refine ⟨_,rfl,?_⟩;refine Kn.Z.u (.m (.t rfl) (.x (.t rfl) rfl (.x (.t rfl) rfl (.x (.t rfl) rfl (.a (.t rfl) (.a (.t rfl) (.a (.t rfl) .n))))))) ?_;refine Kn.Z.e hK4 ?_;clear hK4 K4;refine Kn.Z.t (.c 8 rfl (.c 7 rfl (.c 6 rfl (.c 5 rfl (.c 4 rfl (.c 0 rfl (.c 1 rfl .n))))))) ?_;clear hsh;refine Kn.Z.q fun K5 hK5=>?_;refine Kn.Z.f fun K6 hK6=>?_;refine Kn.Z.u (.m (.t rfl) .n) ?_;refine Kn.Z.s .o (.bin (.t rfl) .c) fun Ko Kp=>?_;go_simp;(try go_bits);refine Kp _ _ ?_;clear Kp Ko;refine Kn.Z.e hK6 ?_;clear hK6 K6;refine Kn.Z.y (.t rfl) ?_;obtain ⟨hst, hS2, hB2⟩ := HS0.out.store (P := Tryz.prog) (cells := #[.int .i64 0, .int .i64 0, .slice none 0 0, .int .i64 0]) (by kernel_rfl) rfl (by simp [Value.oneCell']);refine Kn.Z.f fun K7 hK7=>?_;refine Kn.Z.s .o (.build .n) fun Ko Kp=>?_;go_simp;(try go_bits);refine Kp _ _ ?_;clear Kp Ko;refine Kn.Z.u (.m (.t rfl) .n) ?_;refine Kn.Z.su .o (.store (.t rfl) (.t rfl)) fun Ko Kp=>?_;rw [hst];refine Kp _ ?_;clear Kp Ko;refine Kn.Z.u (.a (.t rfl) .n) ?_;refine Kn.Z.e hK7 ?_;clear hK7 K7;intro fa fh;refine wp_ret ?_;refine Kn.then_ret ?_;exact Kn.retS2 fh rfl rfl rfl hS2 Tryz.underlying140 rfl (by kernel_rfl) ⟨HB0.out.trans (hB2 _ hg4), .inl ⟨_, _, HF.out, HE.out, rfl⟩⟩
end Go.Proofs.YtchdlgdmomcemaaGreatDoor.Shd
end
