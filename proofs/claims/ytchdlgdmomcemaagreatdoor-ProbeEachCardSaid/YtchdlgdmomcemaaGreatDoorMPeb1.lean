/- A part of the proof of ProbeEachCardSaid: texts that lead to it, merged. -/
import Derived.Test.YtchdlgdmomcemaaGreatDoorChecked
import Derived.WalkKit
import Derived.WalkSpells
import Derived.WalkLawsBesides
import Derived.Lib.Hide
import Derived.Laws.IdiomStrings
import Derived.Lib.UnsafeStr
import Derived.IntWalk
import Derived.Laws.BitsAllLaws
import Derived.Deep.RegionWith
section
namespace Go.Proofs.YtchdlgdmomcemaaGreatDoor.Oct
def shortF : Nat → Nat → List UInt8
  | 0, n => [UInt8.ofNat n]
  | f + 1, n => if n < 128 then [UInt8.ofNat n] else UInt8.ofNat (n % 128 + 128) :: shortF f (n / 128)
def short (n : Nat) : List UInt8 := shortF 12 n
theorem shortF_more : ∀ (f n : Nat), n < 128 ^ (f + 1) → shortF f n = shortF (f + 1) n := by
  intro f
  induction f with
  | zero => intro n h; simp only [shortF]; rw [if_pos (by simpa using h)]
  | succ f ih =>
    intro n h;rw [shortF, shortF]
    by_cases hn : n < 128
    · rw [if_pos hn, if_pos hn]
    · rw [if_neg hn, if_neg hn, ih (n / 128) (by rw [Nat.pow_succ] at h; omega)]
theorem short_lt (n : Nat) (h : n < 128) : short n = [UInt8.ofNat n] := by
  unfold short; rw [shortF, if_pos h]
theorem short_ge (n : Nat) (h : 128 ≤ n) (hb : n < 2 ^ 63) : short n = UInt8.ofNat (n % 128 + 128) :: short (n / 128) := by
  have e : short n = UInt8.ofNat (n % 128 + 128) :: shortF 11 (n / 128) := by unfold short; rw [shortF, if_neg (by omega)]
  rw [e]; unfold short; rw [shortF_more 11 (n / 128) (by have : (128 : Nat) ^ 12 = 2 ^ 84 := by decide
                                                         omega)]
theorem shortF_len : ∀ (f n k : Nat), n < 128 ^ (k + 1) → (shortF f n).length ≤ k + 1 := by
  intro f
  induction f with
  | zero => intro n k _; simp [shortF]
  | succ f ih =>
    intro n k h;rw [shortF]
    by_cases hn : n < 128
    · rw [if_pos hn]; simp
    · rw [if_neg hn]
      match k, h with
      | 0, h => omega
      | k + 1, h => have := ih (n / 128) k (by rw [Nat.pow_succ] at h; omega); simp; exact this
theorem short_len9 (n : Nat) (h : n < 2 ^ 63) : (short n).length ≤ 9 := shortF_len 12 n 8 (by have : (128 : Nat) ^ 9 = 2 ^ 63 := by decide
                                                                                              omega)
theorem shortF_pos (f n : Nat) : 0 < (shortF f n).length := by cases f <;> simp [shortF]; split <;> simp
theorem short_pos (n : Nat) : 0 < (short n).length := shortF_pos 12 n
def rdF : Nat → Bool → List UInt8 → Nat × Nat × Nat
  | 0, _, _ => (0, 0, 4)
  | _ + 1, _, [] => (0, 0, 3)
  | k + 1, nf, b :: r =>
    if b = 0 ∧ nf = true then (0, 0, 4) else if b.toNat < 128 then (b.toNat, 1, 0)
    else if (rdF k true r).2.2 = 0 then (b.toNat % 128 + 128 * (rdF k true r).1, (rdF k true r).2.1 + 1, 0) else (0, 0, (rdF k true r).2.2)
def rd (l : List UInt8) : Nat × Nat × Nat := rdF 8 false l
def comb (a k : Nat) (y : Nat × Nat × Nat) : Nat × Nat × Nat := if y.2.2 = 0 then (a + 128 ^ k * y.1, y.2.1 + k, 0) else (0, 0, y.2.2)
theorem comb_zero (y : Nat × Nat × Nat) (h : y.2.2 ≠ 0 → y = (0, 0, y.2.2)) : comb 0 0 y = y := by
  unfold comb
  by_cases e : y.2.2 = 0
  · rw [if_pos e]; obtain ⟨a, b, c⟩ := y; simp at e ⊢; exact e.symm
  · rw [if_neg e]; exact (h e).symm
theorem rdF_err : ∀ (m : Nat) (nf : Bool) (l : List UInt8), (rdF m nf l).2.2 ≠ 0 → rdF m nf l = (0, 0, (rdF m nf l).2.2) := by
  intro m nf l h
  match m, l with
  | 0, l => rfl
  | m + 1, [] => rfl
  | m + 1, b :: r =>
    rw [rdF] at h ⊢
    by_cases h1 : b = 0 ∧ nf = true
    · rw [if_pos h1]
    · rw [if_neg h1] at h ⊢
      by_cases h2 : b.toNat < 128
      · rw [if_pos h2] at h; simp at h
      · rw [if_neg h2] at h ⊢
        by_cases h3 : (rdF m true r).2.2 = 0
        · rw [if_pos h3] at h; simp at h
        · rw [if_neg h3]
theorem rd_start (l : List UInt8) : rd l = comb 0 0 (rdF 8 false l) := (comb_zero _ (rdF_err 8 false l)).symm
theorem comb_step (a k m : Nat) (nf : Bool) (b : UInt8) (r : List UInt8) (h0 : ¬ (b = 0 ∧ nf = true)) (h1 : ¬ b.toNat < 128) :
    comb a k (rdF (m + 1) nf (b :: r)) = comb (a + 128 ^ k * (b.toNat % 128)) (k + 1) (rdF m true r) := by
  rw [rdF, if_neg h0, if_neg h1];unfold comb
  by_cases e : (rdF m true r).2.2 = 0
  · simp only [e, if_true];refine Prod.ext ?_ (Prod.ext ?_ rfl)
    · simp only [Nat.mul_add, Nat.pow_succ]; rw [Nat.add_assoc, Nat.mul_assoc]
    · simp only; omega
  · simp only [e, if_false]
theorem comb_last (a k m : Nat) (nf : Bool) (b : UInt8) (r : List UInt8) (h0 : ¬ (b = 0 ∧ nf = true)) (h1 : b.toNat < 128) :
    comb a k (rdF (m + 1) nf (b :: r)) = (a + 128 ^ k * b.toNat, k + 1, 0) := by
  rw [rdF, if_neg h0, if_pos h1]; unfold comb; simp; omega
theorem comb_null (a k m : Nat) (b : UInt8) (r : List UInt8) (h0 : b = 0) : comb a k (rdF (m + 1) true (b :: r)) = (0, 0, 4) := by
  rw [rdF, if_pos ⟨h0, rfl⟩]; unfold comb; simp
theorem comb_end (a k m : Nat) (nf : Bool) : comb a k (rdF (m + 1) nf []) = (0, 0, 3) := by rw [rdF]; unfold comb; simp
theorem comb_out (a k : Nat) (nf : Bool) (l : List UInt8) : comb a k (rdF 0 nf l) = (0, 0, 4) := by rw [rdF]; unfold comb; simp
theorem toNat_ofNat (n : Nat) (h : n < 256) : (UInt8.ofNat n).toNat = n := by simp [UInt8.toNat_ofNat']; omega
theorem ofNat_toNat' (b : UInt8) : UInt8.ofNat b.toNat = b := by simp
theorem rdF_shortF : ∀ (f m n : Nat) (nf : Bool) (t : List UInt8), n < 128 ^ (f + 1) → n < 128 ^ m → (nf = true → 0 < n) → 0 < m →
    rdF m nf (shortF f n ++ t) = (n, (shortF f n).length, 0) := by
  intro f
  induction f with
  | zero =>
    intro m n nf t h _ hz hm
    match m, hm with
    | m + 1, _ =>
      have hn : n < 128 := by simpa using h
      show rdF (m + 1) nf (UInt8.ofNat n :: t) = _;have hv := toNat_ofNat n (by omega);rw [rdF, if_neg (by rintro ⟨e, h2⟩; have := hz h2; rw [e] at hv; simp at hv; omega), if_pos (by omega), hv]; rfl
  | succ f ih =>
    intro m n nf t h h8 hz hm
    match m, hm with
    | m + 1, _ =>
      by_cases hn : n < 128
      · have e : shortF (f + 1) n = [UInt8.ofNat n] := by rw [shortF, if_pos hn]
        rw [e];show rdF (m + 1) nf (UInt8.ofNat n :: t) = _;have hv := toNat_ofNat n (by omega);rw [rdF, if_neg (by rintro ⟨e, h2⟩; have := hz h2; rw [e] at hv; simp at hv; omega), if_pos (by omega), hv]; rfl
      · have e : shortF (f + 1) n = UInt8.ofNat (n % 128 + 128) :: shortF f (n / 128) := by rw [shortF, if_neg hn]
        rw [e, List.cons_append];have hv := toNat_ofNat (n % 128 + 128) (by omega);have hm0 : 0 < m := by rcases Nat.eq_zero_or_pos m with e | e; (· subst e; simp at h8; omega); exact e
        have := ih m (n / 128) true t (by rw [Nat.pow_succ] at h; omega) (by rw [Nat.pow_succ] at h8; omega) (fun _ => by omega) hm0;rw [rdF, if_neg (by rintro ⟨e, _⟩; rw [e] at hv; simp at hv), if_neg (by omega), this, hv];simp; omega
theorem rd_short (n : Nat) (t : List UInt8) (h : n < 2 ^ 56) : rd (short n ++ t) = (n, (short n).length, 0) :=
  rdF_shortF 12 8 n false t (by have : (128 : Nat) ^ 13 = 2 ^ 91 := by decide
                                omega) (by have : (128 : Nat) ^ 8 = 2 ^ 56 := by decide
                                           omega) (by simp) (by omega)
theorem short_of_rdF : ∀ (m f : Nat) (nf : Bool) (l : List UInt8), m ≤ f + 1 → (rdF m nf l).2.2 = 0 →
    shortF f (rdF m nf l).1 = l.take (rdF m nf l).2.1 ∧ (rdF m nf l).1 < 128 ^ m ∧ (rdF m nf l).2.1 ≤ l.length ∧ 0 < (rdF m nf l).2.1 ∧ (rdF m nf l).2.1 ≤ m ∧ (nf = true → 0 < (rdF m nf l).1) := by
  intro m
  induction m with
  | zero => intro f nf l _ h; simp [rdF] at h
  | succ m ih =>
    intro f nf l hf h
    match l with
    | [] => simp [rdF] at h
    | b :: r =>
      rw [rdF] at h ⊢
      by_cases h1 : b = 0 ∧ nf = true
      · rw [if_pos h1] at h; simp at h
      · rw [if_neg h1] at h ⊢;have hb : b.toNat < 256 := b.toNat_lt;have hpw : 128 ≤ 128 ^ (m + 1) := by rw [Nat.pow_succ]; have := Nat.pow_pos (n := m) (show 0 < 128 by omega); omega
        by_cases h2 : b.toNat < 128
        · rw [if_pos h2];refine ⟨?_, by show b.toNat < _; omega, by simp, by simp, by simp, fun hn => ?_⟩
          · show shortF f b.toNat = _;cases f <;> simp [shortF]
            intro; omega
          · show 0 < b.toNat;rcases Nat.eq_zero_or_pos b.toNat with e | e
            · exact absurd ⟨by rw [← ofNat_toNat' b, e]; rfl, hn⟩ h1
            · exact e
        · rw [if_neg h2] at h ⊢
          by_cases h3 : (rdF m true r).2.2 = 0
          · rw [if_pos h3]
            match f, hf with
            | 0, hf => have : m = 0 := by omega
                       subst this; simp [rdF] at h3
            | f + 1, hf =>
              obtain ⟨q1, q2, q3, q4, q5, q6⟩ := ih f true r (by omega) h3;have q6 := q6 rfl;refine ⟨?_, ?_, ?_, ?_, ?_, ?_⟩
              · show shortF (f + 1) (b.toNat % 128 + 128 * (rdF m true r).1) = (b :: r).take ((rdF m true r).2.1 + 1)
                rw [shortF, if_neg (by omega), List.take_succ_cons, ← q1, show (b.toNat % 128 + 128 * (rdF m true r).1) / 128 = (rdF m true r).1 by omega,
                  show (b.toNat % 128 + 128 * (rdF m true r).1) % 128 + 128 = b.toNat by omega, ofNat_toNat']
              · show b.toNat % 128 + 128 * (rdF m true r).1 < 128 ^ (m + 1);rw [Nat.pow_succ]; omega
              · simp; exact q3
              · simp
              · simp; exact q5
              · intro _; show 0 < b.toNat % 128 + 128 * (rdF m true r).1; omega
          · rw [if_neg h3] at h; exact absurd h h3
theorem short_of_rd (l : List UInt8) (h : (rd l).2.2 = 0) :
    short (rd l).1 = l.take (rd l).2.1 ∧ (rd l).1 < 2 ^ 56 ∧ (rd l).2.1 ≤ l.length ∧ 0 < (rd l).2.1 ∧ (rd l).2.1 ≤ 8 := by
  obtain ⟨a, b, c, d, e, _⟩ := short_of_rdF 8 12 false l (by omega) h
  exact ⟨a, by have : (128 : Nat) ^ 8 = 2 ^ 56 := by decide
               unfold rd; omega, c, d, e⟩
end Go.Proofs.YtchdlgdmomcemaaGreatDoor.Oct
end
section
namespace Go.Proofs.YtchdlgdmomcemaaGreatDoor.Oct
open Go.RowKit
theorem retB {a b : Bool} (h : a = b) : Ending.returned (.bool a) = .returned (.bool b) := by rw [h]
def placeB (n : Nat) (a : Int) : Bool := decide (0 ≤ a ∧ a ≤ n)
def turnB (x : Int) : Bool := decide (-36028797018963968 ≤ x ∧ x < 36028797018963968)
theorem placeB_true {n : Nat} {a : Int} (h0 : 0 ≤ a) (h1 : a ≤ n) : placeB n a = true := decide_eq_true ⟨h0, h1⟩
theorem placeB_false {n : Nat} {a : Int} (h : a < 0 ∨ n < a) : placeB n a = false := decide_eq_false (by omega)
theorem turnB_true {x : Int} (h0 : -36028797018963968 ≤ x) (h1 : x < 36028797018963968) : turnB x = true := decide_eq_true ⟨h0, h1⟩
theorem turnB_false {x : Int} (h : x < -36028797018963968 ∨ 36028797018963968 ≤ x) : turnB x = false := decide_eq_false (by omega)
def faultV (p : Int) (c : Int) : Value := .iface 135 (.agg #[.int .i64 p, .iface 66 (.int .i64 c)])
set_option maxHeartbeats 400000 in
theorem isPlace_any (s : ByteArray) (at_ : Int) (w : World) (_hs : s.size ≤ maxLen) :
    Calls Tryz.prog 129 #[.string s, .int .i64 at_] w fun e w' => e = .returned (.bool (placeB s.size at_)) ∧ w = w' := by
  unfold maxLen at _hs
  by_cases h0 : 0 ≤ at_
  · by_cases h1 : at_ ≤ s.size
    · go_enter Tryz.func129, Tryz.ntmps129
      go_wp2
      go_ret
      exact ⟨retB (by first | exact (placeB_true h0 h1).symm | exact (turnB_true h0 h1).symm | exact (placeB_false (by omega)).symm | exact (turnB_false (by omega)).symm), rfl⟩
    · go_enter Tryz.func129, Tryz.ntmps129
      go_wp2
      go_ret
      exact ⟨retB (by first | exact (placeB_true h0 h1).symm | exact (turnB_true h0 h1).symm | exact (placeB_false (by omega)).symm | exact (turnB_false (by omega)).symm), rfl⟩
  · go_enter Tryz.func129, Tryz.ntmps129
    go_wp2
    go_ret
    exact ⟨retB (by first | exact (placeB_false (by omega)).symm | exact (turnB_false (by omega)).symm), rfl⟩
set_option maxHeartbeats 400000 in
theorem fault_any (p c : Int) (w : World) :
    Calls Tryz.prog 130 #[.int .i64 p, .int .i64 c] w fun e w' => e = .returned (faultV p c) ∧ w = w' := by
  go_enter Tryz.func130, Tryz.ntmps130
  go_wp2
  go_ret
  exact ⟨rfl, rfl⟩
set_option maxHeartbeats 400000 in
theorem turns_any (x : Int) (w : World) :
    Calls Tryz.prog 150 #[.int .i64 x] w fun e w' => e = .returned (.bool (turnB x)) ∧ w = w' := by
  by_cases h0 : -36028797018963968 ≤ x
  · by_cases h1 : x < 36028797018963968
    · go_enter Tryz.func150, Tryz.ntmps150
      go_wp2
      go_ret
      exact ⟨retB (by first | exact (placeB_true h0 h1).symm | exact (turnB_true h0 h1).symm | exact (placeB_false (by omega)).symm | exact (turnB_false (by omega)).symm), rfl⟩
    · go_enter Tryz.func150, Tryz.ntmps150
      go_wp2
      go_ret
      exact ⟨retB (by first | exact (placeB_true h0 h1).symm | exact (turnB_true h0 h1).symm | exact (placeB_false (by omega)).symm | exact (turnB_false (by omega)).symm), rfl⟩
  · go_enter Tryz.func150, Tryz.ntmps150
    go_wp2
    go_ret
    exact ⟨retB (by first | exact (placeB_false (by omega)).symm | exact (turnB_false (by omega)).symm), rfl⟩
def turnOf (x : Int) : Int := if -36028797018963968 ≤ x ∧ x < 36028797018963968 then (if x < 0 then -2 * x - 1 else 2 * x) else 0
set_option maxHeartbeats 400000 in
theorem turn_any (x : Int) (w : World) :
    Calls Tryz.prog 151 #[.int .i64 x] w fun e w' => e = .returned (.int .i64 (turnOf x)) ∧ w = w' := by
  by_cases h : -36028797018963968 ≤ x ∧ x < 36028797018963968
  · obtain ⟨h0, h1⟩ := h;have hd := turnB_true h0 h1
    by_cases h2 : x < 0
    · have HT := Lib.hid (show turnOf x = -2 * x - 1 by unfold turnOf; rw [if_pos ⟨h0, h1⟩, if_pos h2])
      go_enter Tryz.func151, Tryz.ntmps151
      go_wp2_with (go_at_call 150; refine (turns_any _ _).mono ?_; rintro e w' ⟨rfl, rfl⟩)
      go_ret
      exact ⟨by rw [HT.out]; rfl, rfl⟩
    · have HT := Lib.hid (show turnOf x = 2 * x by unfold turnOf; rw [if_pos ⟨h0, h1⟩, if_neg h2])
      go_enter Tryz.func151, Tryz.ntmps151
      go_wp2_with (go_at_call 150; refine (turns_any _ _).mono ?_; rintro e w' ⟨rfl, rfl⟩)
      go_ret
      exact ⟨by rw [HT.out]; rfl, rfl⟩
  · have hd := turnB_false (x := x) (by omega);have HT := Lib.hid (show turnOf x = 0 by unfold turnOf; rw [if_neg h]);clear h
    go_enter Tryz.func151, Tryz.ntmps151
    go_wp2_with (go_at_call 150; refine (turns_any _ _).mono ?_; rintro e w' ⟨rfl, rfl⟩)
    go_ret
    exact ⟨by rw [HT.out]; rfl, rfl⟩
end Go.Proofs.YtchdlgdmomcemaaGreatDoor.Oct
end
section
namespace Go.Proofs.YtchdlgdmomcemaaGreatDoor.Oct
open Go.RowKit Go.Lib
theorem infoByte : (Tryz.prog.info? 5).map (fun i => (i.zero, i.size, i.bytes)) = some (some (.int .u8 0), 1, 1) := by kernel_rfl
theorem byteCells_snoc (l : List UInt8) (b : UInt8) : Go.Lib.byteCells (l ++ [b]) = Go.Lib.byteCells l ++ [Value.int .u8 b.toNat] := by simp [Go.Lib.byteCells]
set_option maxRecDepth 100000 in
set_option maxHeartbeats 1000000 in
theorem appendShort_any (base : Nat) (v : Value) (bs : List UInt8) (x : Nat) (w : World) (hx : (x : Int) ≤ 9223372036854775807)
    (hown : w.ownsRow base 5 1 v bs.length (Go.Lib.byteCells bs)) (hbase : base ≤ w.heap.size) (hlen : (bs.length : Int) ≤ 70368744177664) :
    Calls Tryz.prog 140 #[v, .int .i64 (x : Int)] w fun e w' => ∃ v', e = .returned v' ∧ w'.ownsRow base 5 1 v' (bs ++ short x).length (Go.Lib.byteCells (bs ++ short x)) ∧ Below base w w' := by
  obtain ⟨i0, hi, hz0, hz1, hz2⟩ := info_parts infoByte;have h9 := short_len9 x (by omega)
  go_enter Tryz.func140, Tryz.ntmps140
  go_wp2
  go_loopw [0, 1] (fun v y wr => ∃ (n : Nat) (l : List UInt8), y = .int .i64 n ∧ (n : Int) ≤ 9223372036854775807 ∧ Hid (bs ++ short x = l ++ short n) ∧ wr.ownsRow base 5 1 v l.length (Go.Lib.byteCells l) ∧ Below base w wr ∧ base ≤ wr.heap.size) (fun _ y _ => (intOf y).toNat)
  case atStart => exact ⟨x, bs, rfl, hx, Lib.hid rfl, hown, Below.refl _ _, hbase⟩
  case round =>
    obtain ⟨n, l, rfl, hn, HE, hown1, hb1, hs1⟩ := hrel;have hll : (l.length : Int) ≤ 70368744177674 := by have := congrArg List.length HE.out; simp at this; omega
    by_cases hlt : 128 ≤ n
    · have hby : IntKind.u8.wrap ((n : Int) % 128 + 128) = (n : Int) % 128 + 128 := by simp [IntKind.wrap, IntKind.bits, IntKind.signed]; omega
      go_wp2_with (at_builtin; refine wpList_append_own _ rfl _ _ 136 rfl base 5 i0 (.int .u8 0) 1 1 Tryz.underlying136 hi hz0 hz1 hz2 rfl (by decide) _ _ _ rfl (hown1.alloc _) ⟨wr.heap.size, 0, none⟩ 1 1 [Value.int .u8 ((n : Int) % 128 + 128)] rfl rfl ?c1 ?c2 ?c3 ?c4 ?c5 ?_)
      case c1 => exact cell_one_new _ _ _
      case c2 => intro u hu; simp at hu; subst hu; rfl
      case c3 => unfold maxLen; omega
      case c4 => omega
      case c5 => simp; omega
      intro v' w1 hown' hgrow _;have hb2 : Below base w w1 := (hb1.alloc hs1 _).grown hgrow (by simp; omega) (fun k hk => (hown1.lt k hk).1);have hs2 : base ≤ w1.heap.size := by have := hb2.size; omega
      go_wp2
      go_roundw
      case rel => exact ⟨n / 128, l ++ [UInt8.ofNat (n % 128 + 128)], by go_num, by omega, Lib.hid (by rw [HE.out, short_ge n hlt (by omega)]; simp), by rw [byteCells_snoc, toNat_ofNat _ (by omega)]; simpa using hown', hb2, hs2⟩
      case measure => simp [intOf]; omega
    · have hby : IntKind.u8.wrap (n : Int) = (n : Int) := by simp [IntKind.wrap, IntKind.bits, IntKind.signed]; omega
      go_wp2_with (at_builtin; refine wpList_append_own _ rfl _ _ 136 rfl base 5 i0 (.int .u8 0) 1 1 Tryz.underlying136 hi hz0 hz1 hz2 rfl (by decide) _ _ _ rfl (hown1.alloc _) ⟨wr.heap.size, 0, none⟩ 1 1 [Value.int .u8 (n : Int)] rfl rfl ?d1 ?d2 ?d3 ?d4 ?d5 ?_)
      case d1 => exact cell_one_new _ _ _
      case d2 => intro u hu; simp at hu; subst hu; rfl
      case d3 => unfold maxLen; omega
      case d4 => omega
      case d5 => simp; omega
      intro v' w1 hown' hgrow _;have hb2 : Below base w w1 := (hb1.alloc hs1 _).grown hgrow (by simp; omega) (fun k hk => (hown1.lt k hk).1)
      have HO : Hid (w1.ownsRow base 5 1 v' (bs ++ short x).length (Go.Lib.byteCells (bs ++ short x))) := Lib.hid (by
        rw [HE.out, short_lt n (by omega), byteCells_snoc, toNat_ofNat _ (by omega)]; simpa using hown')
      clear hown'
      go_wp2
      go_ret
      exact ⟨v', rfl, HO.out, hb2⟩
def errnoV (c : Int) : Value := .iface 66 (.int .i64 c)
set_option maxRecDepth 100000 in
set_option maxHeartbeats 1000000 in
theorem putShort_ok (x : Int) (w : World) (h0 : 0 ≤ x) (h1 : x ≤ 72057594037927935) :
    Calls Tryz.prog 121 #[.int .i64 x] w fun e w' => e = .returned (.tuple #[.string ⟨(short x.toNat).toArray⟩, .nilIface]) ∧ Below w.heap.size w w' := by
  obtain ⟨n, rfl⟩ := Int.eq_ofNat_of_zero_le h0;rw [Int.toNat_natCast]
  go_enter Tryz.func121, Tryz.ntmps121
  go_wp2_with (go_at_call 140; refine (appendShort_any w.heap.size _ [] n _ (by omega) (World.ownsRow_nil _ _ _ _) (Nat.le_refl _) (by simp)).mono ?_; rintro e w1 ⟨v1, rfl, hown1, hb1⟩; refine Hid.out ?_)
  refine Lib.hid ?_;rw [List.nil_append] at hown1;have hpos := short_pos n;obtain ⟨l, hl⟩ : ∃ l, l = short n := ⟨_, rfl⟩;rw [← hl] at hown1 hpos;have HL := Lib.hid hl;clear hl;rcases hown1.2 with ⟨-, h0⟩ | ⟨g, cap, cur, rfl, -, -, -, -, -, -⟩
  · omega
  · have hcv := run_convert_bytes_back (P := Tryz.prog) w1 136 9 5 ⟨g, 0, none⟩ cap l Tryz.underlying136 Tryz.underlying5 Tryz.underlying9 (fun j hj => hown1.cells (g := g) rfl j _ (by simp [Go.Lib.byteCells, hj]))
    go_wp2
    go_ret2
    exact ⟨by rw [← HL.out]; rfl, hb1⟩
end Go.Proofs.YtchdlgdmomcemaaGreatDoor.Oct
end
section
namespace Go.Proofs.YtchdlgdmomcemaaGreatDoor.Oct
open Go.RowKit Go.Lib
def rdErr (n : Nat) (p : Int) (c : Nat) : Value := if c = 0 then .nilIface else if c = 3 then faultV n 3 else faultV p c
def shortAns (s : ByteArray) (p : Int) : Value :=
  .tuple #[.int .i64 ((rd (s.data.toList.drop p.toNat)).1 : Int), .int .i64 (p + ((rd (s.data.toList.drop p.toNat)).2.1 : Int)), rdErr s.size p (rd (s.data.toList.drop p.toNat)).2.2]
set_option maxRecDepth 100000 in
set_option maxHeartbeats 1000000 in
theorem short_arg (s : ByteArray) (p : Int) (w : World) (hs : s.size ≤ maxLen) (h : p < 0 ∨ s.size < p) :
    Calls Tryz.prog 104 #[.string s, .int .i64 p] w fun e w' => e = .returned (.tuple #[.int .i64 0, .int .i64 p, faultV p 1]) ∧ w = w' := by
  have hp := placeB_false h;clear h
  go_enter Tryz.func104, Tryz.ntmps104
  go_wp2_with (first | (go_at_call 129; refine (isPlace_any _ _ _ hs).mono ?_; rintro e w' ⟨rfl, rfl⟩) | (go_at_call 130; refine (fault_any _ _ _).mono ?_; rintro e w' ⟨rfl, rfl⟩))
  go_ret3
  exact ⟨rfl, rfl⟩
theorem i64_or_nat (a b : Nat) (ha : a < 9223372036854775808) (hb : b < 9223372036854775808) : bits .or .i64 (a : Int) (b : Int) = ((a ||| b : Nat) : Int) := by
  have hx : a ||| b < 2 ^ 63 := Nat.or_lt_two_pow (by omega) (by omega);show IntKind.i64.wrap ((BitVec.ofInt 64 (a : Int) ||| BitVec.ofInt 64 (b : Int)).toNat : Int) = _;rw [BitVec.toNat_or, ofInt_u64 a (by omega), ofInt_u64 b (by omega), IntKind.wrap_i64];omega
theorem pow128 (k : Nat) : 128 ^ k = 2 ^ (7 * k) := by rw [Nat.pow_mul]
theorem pow_le_56 (k : Nat) (h : k ≤ 8) : 2 ^ (7 * k) ≤ 2 ^ 56 := Nat.pow_le_pow_right (by omega) (by omega)
theorem or_round (a k : Nat) (b : UInt8) (hk : k < 8) (ha : a < 128 ^ k) :
    bits .or .i64 (a : Int) (wrap64 ((b.toNat : Int) % 128 * 2 ^ (7 * k))) = ((a + 128 ^ k * (b.toNat % 128) : Nat) : Int) := by
  have hb := b.toNat_lt;have hp := pow_le_56 (k + 1) (by omega);have hp0 := pow_le_56 k (by omega);have he : 2 ^ (7 * (k + 1)) = 2 ^ (7 * k) * 128 := by rw [show 7 * (k + 1) = 7 * k + 7 by omega, Nat.pow_add]
  rw [pow128] at ha ⊢;generalize hP : 2 ^ (7 * k) = P at *;have hm : P * (b.toNat % 128) < P * 128 := Nat.mul_lt_mul_of_pos_left (by omega) (by rw [← hP]; exact Nat.pow_pos (by omega));have e1 : (b.toNat : Int) % 128 = ((b.toNat % 128 : Nat) : Int) := by omega
  have e2 : ((b.toNat % 128 : Nat) : Int) * (2 : Int) ^ (7 * k) = ((P * (b.toNat % 128) : Nat) : Int) := by
    rw [Nat.mul_comm P, Int.natCast_mul, ← hP, Int.natCast_pow]; rfl
  rw [e1, e2, IntWalk.wrap64_in _ (by omega), i64_or_nat _ _ (by omega) (by omega), Nat.or_comm, ← hP, ← Nat.two_pow_add_eq_or_of_lt (by omega), Nat.add_comm]
theorem or_zero (a : Nat) (ha : a < 128 ^ 8) : bits .or .i64 (a : Int) 0 = (a : Int) := by
  have h8 : (128 : Nat) ^ 8 = 2 ^ 56 := by decide
  have := i64_or_nat a 0 (by omega) (by omega)
  simpa using this
theorem byte_zero (b : UInt8) (h : b.toNat = 0) : b = 0 := by rw [← ofNat_toNat' b, h]; rfl
theorem byte_pos (b : UInt8) (h : ¬ b.toNat = 0) : ¬ b = 0 := by rintro rfl; simp at h
theorem pow_step (a k c : Nat) (ha : a < 128 ^ k) (hc : c < 128) : a + 128 ^ k * c < 128 ^ (k + 1) := by
  rw [Nat.pow_succ];have : 128 ^ k * c ≤ 128 ^ k * 127 := Nat.mul_le_mul_left _ (by omega);omega
theorem ans_of {s : ByteArray} {q : Nat} {l : List UInt8} {x n c : Nat} (hl : s.data.toList.drop q = l) (h : rd l = (x, n, c)) :
    shortAns s (q : Int) = .tuple #[.int .i64 (x : Int), .int .i64 ((q : Int) + (n : Int)), rdErr s.size q c] := by
  unfold shortAns; rw [Int.toNat_natCast, hl, h]
theorem fin_err3 {s : ByteArray} {q : Nat} {l : List UInt8} (hl : s.data.toList.drop q = l) (h : rd l = (0, 0, 3)) :
    Ending.returned (.tuple #[.int .i64 0, .int .i64 (q : Int), faultV s.size 3]) = .returned (shortAns s (q : Int)) := by rw [ans_of hl h]; simp [rdErr]
theorem fin_err4 {s : ByteArray} {q : Nat} {l : List UInt8} (hl : s.data.toList.drop q = l) (h : rd l = (0, 0, 4)) :
    Ending.returned (.tuple #[.int .i64 0, .int .i64 (q : Int), faultV q 4]) = .returned (shortAns s (q : Int)) := by rw [ans_of hl h]; simp [rdErr]
theorem fin_ok {s : ByteArray} {q : Nat} {l : List UInt8} {x n : Nat} {X N : Int} (hl : s.data.toList.drop q = l) (h : rd l = (x, n, 0)) (hX : X = (x : Int)) (hN : N = (q : Int) + (n : Int)) :
    Ending.returned (.tuple #[.int .i64 X, .int .i64 N, .nilIface]) = .returned (shortAns s (q : Int)) := by rw [ans_of hl h, hX, hN]; simp [rdErr]
theorem rd_zero {s : ByteArray} {q k a : Nat} {l : List UInt8} (hk : ¬ 0 < k) (h : q + k < s.size) (hz : s[q + k].toNat = 0) (hb : a < 128 ^ k) (hm : 8 - k = (7 - k) + 1)
    (hr : rd l = comb a k (rdF (8 - k) (decide (0 < k)) (l.drop k))) (hd : l.drop k = s[q + k] :: l.drop (k + 1)) : rd l = (0, k + 1, 0) := by
  have hb0 := byte_zero _ hz;rw [hr, hm, hd, comb_last _ _ _ _ _ _ (by simp [hk]) (by rw [hb0]; decide), hb0];have h0 : k = 0 := by omega
  subst h0;have ha : a = 0 := by simpa using hb
  subst ha
  rfl
theorem or_start (a k : Nat) (hk : ¬ 0 < k) (hb : a < 128 ^ k) : bits .or .i64 (a : Int) 0 = ((0 : Nat) : Int) := by
  have h0 : k = 0 := by omega
  subst h0;have ha : a = 0 := by simpa using hb
  subst ha;exact or_zero 0 (by decide)
theorem or_end (a k : Nat) (b : UInt8) (hk : k < 8) (ha : a < 128 ^ k) (hlo : (b.toNat : Int) < 128) :
    bits .or .i64 (a : Int) (wrap64 ((b.toNat : Int) % 128 * 2 ^ (7 * k))) = ((a + 128 ^ k * b.toNat : Nat) : Int) := by
  rw [or_round a k b hk ha, Nat.mod_eq_of_lt (by omega)]
theorem drop_cons (s : ByteArray) (p k : Nat) (h : p + k < s.size) : (s.data.toList.drop p).drop k = s[p + k] :: (s.data.toList.drop p).drop (k + 1) := by
  rw [List.drop_drop, List.drop_drop, List.drop_eq_getElem_cons (by simpa using h)]; rfl
set_option maxRecDepth 100000 in
set_option maxHeartbeats 2000000 in
theorem short_any (s : ByteArray) (p : Int) (w : World) (hs : s.size ≤ maxLen) (h0 : 0 ≤ p) (h1 : p ≤ s.size) :
    Calls Tryz.prog 104 #[.string s, .int .i64 p] w fun e w' => e = .returned (shortAns s p) ∧ w = w' := by
  have hp := placeB_true h0 h1;obtain ⟨q, rfl⟩ := Int.eq_ofNat_of_zero_le h0;have hs2 := hs;unfold maxLen at hs2;obtain ⟨l, hl⟩ : ∃ l, s.data.toList.drop q = l := ⟨_, rfl⟩;have HL := Lib.hid hl;clear hl
  go_enter Tryz.func104, Tryz.ntmps104
  go_wp2_with (first | (go_at_call 129; refine (isPlace_any _ _ _ hs).mono ?_; rintro e w' ⟨rfl, rfl⟩))
  go_loop [7, 17] (fun x i => ∃ k a : Nat, k ≤ 8 ∧ i = .int .i64 k ∧ x = .int .i64 a ∧ Hid (a < 128 ^ k) ∧ q + k ≤ s.size ∧ Hid (rd l = comb a k (rdF (8 - k) (decide (0 < k)) (l.drop k)))) (fun _ i => 8 - (intOf i).toNat)
  case atStart => exact ⟨0, 0, by omega, rfl, rfl, Lib.hid (by simp), by omega, Lib.hid (rd_start l)⟩
  case round =>
    obtain ⟨k, a, hk, rfl, rfl, HB, hq, HR⟩ := hrel
    by_cases hk8 : k < 8
    · by_cases hend : q + k = s.size
      · have HF := Lib.hid (show rd l = (0, 0, 3) by
          rw [HR.out, show 8 - k = (7 - k) + 1 by omega, ← HL.out, List.drop_drop, List.drop_of_length_le (by simp; omega)]; exact comb_end _ _ _ _)
        have hendb : ((q : Int) + (k : Int) == (s.size : Int)) = true := beq_iff_eq.2 (by omega)
        go_wp2_with (go_at_call 130; refine (fault_any _ _ _).mono ?_; rintro e w' ⟨rfl, rfl⟩)
        go_ret3
        exact ⟨fin_err3 HL.out HF.out, rfl⟩
      · have hlt : q + k < s.size := by omega
        have hendb : ((q : Int) + (k : Int) == (s.size : Int)) = false := beq_eq_false_iff_ne.2 (by omega);have HD := Lib.hid (show l.drop k = s[q + k] :: l.drop (k + 1) by rw [← HL.out]; exact drop_cons s q k hlt);have HM := Lib.hid (show 8 - k = (7 - k) + 1 by omega);have hb255 : s[q + k].toNat < 256 := s[q + k].toNat_lt;have hwb : wrap64 ((s[q + k].toNat : Nat) : Int) = ((s[q + k].toNat : Nat) : Int) := IntWalk.wrap64_in _ (by omega)
        go_wp2_with (go_at_call 130; refine (fault_any _ _ _).mono ?_; rintro e w' ⟨rfl, rfl⟩)
        · have hz : s[q + k].toNat = 0 := by assumption
          have hk0 : 0 < k := by assumption
          go_ret3
          exact ⟨fin_err4 HL.out (show rd l = (0, 0, 4) by rw [HR.out, HM.out, HD.out, decide_eq_true hk0]; exact comb_null _ _ _ _ _ (byte_zero _ hz)), rfl⟩
        · have hz : s[q + k].toNat = 0 := by assumption
          have hk0 : ¬ 0 < k := by assumption
          go_ret3
          exact ⟨fin_ok HL.out (rd_zero hk0 hlt hz HB.out HM.out HR.out HD.out) (or_start a k hk0 HB.out) (by omega), rfl⟩
        · have hz : ¬ s[q + k].toNat = 0 := by assumption
          have hlo : ((s[q + k].toNat : Nat) : Int) < 128 := by assumption
          go_ret3
          exact ⟨fin_ok HL.out (show rd l = (a + 128 ^ k * s[q + k].toNat, k + 1, 0) by
            rw [HR.out, HM.out, HD.out]; exact comb_last _ _ _ _ _ _ (fun h => byte_pos _ hz h.1) (by omega)) (or_end a k _ hk8 HB.out hlo) (by omega), rfl⟩
        · have hz : ¬ s[q + k].toNat = 0 := by assumption
          have hhi : 128 ≤ ((s[q + k].toNat : Nat) : Int) := by assumption
          go_round
          case rel => exact ⟨k + 1, a + 128 ^ k * (s[q + k].toNat % 128), by omega, by go_num, by rw [or_round a k s[q + k] hk8 HB.out], Lib.hid (pow_step _ _ _ HB.out (by omega)), by omega,
            Lib.hid (by rw [HR.out, HM.out, HD.out, comb_step _ _ _ _ _ _ (fun h => byte_pos _ hz h.1) (by omega), show 8 - (k + 1) = 7 - k by omega]; simp)⟩
          case measure => simp [intOf]; omega
    · have HF := Lib.hid (show rd l = (0, 0, 4) by
        rw [HR.out, show 8 - k = 0 by omega]; exact comb_out _ _ _ _)
      go_wp2_with (go_at_call 130; refine (fault_any _ _ _).mono ?_; rintro e w' ⟨rfl, rfl⟩)
      go_ret3
      exact ⟨fin_err4 HL.out HF.out, rfl⟩
end Go.Proofs.YtchdlgdmomcemaaGreatDoor.Oct
end
section
namespace Go.Proofs.YtchdlgdmomcemaaGreatDoor.Oct
open Go.RowKit Go.Lib
def backOf (x : Int) : Int := if x < 0 then 0 else if x % 2 = 1 then -(x / 2) - 1 else x / 2
theorem turn_range (x : Int) (h0 : -36028797018963968 ≤ x) (h1 : x < 36028797018963968) : 0 ≤ turnOf x ∧ turnOf x ≤ 72057594037927935 := by
  unfold turnOf; rw [if_pos ⟨h0, h1⟩]; split <;> omega
set_option maxRecDepth 100000 in
set_option maxHeartbeats 1000000 in
theorem back_any (x : Int) (w : World) (hx : x ≤ 9223372036854775807) :
    Calls Tryz.prog 131 #[.int .i64 x] w fun e w' => e = .returned (.int .i64 (backOf x)) ∧ w = w' := by
  by_cases h : x < 0
  · have HT := Lib.hid (show backOf x = 0 by unfold backOf; rw [if_pos h])
    go_enter Tryz.func131, Tryz.ntmps131
    go_wp2
    go_ret
    exact ⟨by rw [HT.out]; rfl, rfl⟩
  · by_cases h2 : x % 2 = 1
    · have HT := Lib.hid (show backOf x = -(x / 2) - 1 by unfold backOf; rw [if_neg h, if_pos h2]);have hb : (x % 2 == 1) = true := beq_iff_eq.2 h2;have H2 := Lib.hid h2;clear h2
      go_enter Tryz.func131, Tryz.ntmps131
      go_wp2
      go_ret
      exact ⟨by rw [HT.out]; rfl, rfl⟩
    · have HT := Lib.hid (show backOf x = x / 2 by unfold backOf; rw [if_neg h, if_neg h2]);have hb : (x % 2 == 1) = false := beq_eq_false_iff_ne.2 h2;clear h2
      go_enter Tryz.func131, Tryz.ntmps131
      go_wp2
      go_ret
      exact ⟨by rw [HT.out]; rfl, rfl⟩
set_option maxRecDepth 100000 in
set_option maxHeartbeats 1000000 in
theorem putTurned_ok (x : Int) (w : World) (h0 : -36028797018963968 ≤ x) (h1 : x < 36028797018963968) :
    Calls Tryz.prog 148 #[.int .i64 x] w fun e w' => e = .returned (.tuple #[.string ⟨(short (turnOf x).toNat).toArray⟩, .nilIface]) ∧ Below w.heap.size w w' := by
  have ht := turnB_true h0 h1;obtain ⟨r0, r1⟩ := turn_range x h0 h1
  go_enter Tryz.func148, Tryz.ntmps148
  go_wp2_with (first | (go_at_call 150; refine (turns_any _ _).mono ?_; rintro e w1 ⟨rfl, rfl⟩) | (go_at_call 151; refine (turn_any _ _).mono ?_; rintro e w1 ⟨rfl, rfl⟩) | (go_at_call 121; refine (putShort_ok _ _ r0 r1).mono ?_; rintro e w1 ⟨rfl, hb1⟩))
  go_ret2
  exact ⟨rfl, by assumption⟩
end Go.Proofs.YtchdlgdmomcemaaGreatDoor.Oct
end
