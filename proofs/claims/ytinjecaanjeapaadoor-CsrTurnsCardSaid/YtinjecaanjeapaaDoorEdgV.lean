/- What Check, Norm and the document's Wrong answer, in one word: the place of what may not be. -/
import Derived.Test.YtinjecaanjeapaaDoorEdgW
namespace Go.Proofs.YtinjecaanjeapaaDoor.Edg
open Go Go.RowKit Go.Lib

/-- The first edge that may not be. -/
def firstBad (n : Int) (xs : List (Int × Int)) : Nat := xs.findIdx (badB n)
theorem firstBad_good (n : Int) (xs : List (Int × Int)) (i : Nat) (h : i < firstBad n xs) : badB n (ed xs i) = false := by
  have hl : i < xs.length := Nat.lt_of_lt_of_le h List.findIdx_le_length
  rw [ed_at xs i hl]
  have := List.not_of_lt_findIdx h
  simpa using this
theorem firstBad_bad (n : Int) (xs : List (Int × Int)) (h : firstBad n xs < xs.length) : badB n (ed xs (firstBad n xs)) = true := by
  rw [ed_at _ _ h]; exact List.findIdx_getElem (w := h)
/-- May this graph be? -/
structure Good (n : Int) (xs : List (Int × Int)) : Prop where
  lo : 0 ≤ n
  hi : n ≤ 4096
  len : xs.length ≤ 20000
  all : ∀ e ∈ xs, badB n e = false
/-- The place of what may not be; -2: all may. -/
def wrongP (n : Int) (xs : List (Int × Int)) : Int := if n < 0 then -1 else if 4096 < n then -1 else if 20000 < xs.length then 20000 else if firstBad n xs < xs.length then (firstBad n xs : Int) else -2
theorem wrongP_good (n : Int) (xs : List (Int × Int)) : wrongP n xs = -2 ↔ Good n xs := by
  unfold wrongP
  constructor
  · intro h
    split at h
    · omega
    split at h
    · omega
    split at h
    · omega
    split at h
    · omega
    refine ⟨by omega, by omega, by omega, fun e he => ?_⟩
    obtain ⟨i, hi, rfl⟩ := List.getElem_of_mem he
    have := firstBad_good n xs i (by omega)
    rwa [ed_at _ _ hi] at this
  · intro h
    have h1 := h.lo
    have h2 := h.hi
    have h3 := h.len
    rw [if_neg (by omega), if_neg (by omega), if_neg (by omega), if_neg]
    intro hf
    have := firstBad_bad n xs hf
    rw [ed_at _ _ hf, h.all _ (List.getElem_mem _)] at this
    cases this
theorem check_p (n : Int) (A : Option Addr) (ca : Nat) (xs : List (Int × Int)) (w : World) (hA : EIn w A xs) :
    Calls Tryd.prog 34 #[.int .i64 n, .slice A xs.length ca] w fun e w' => e = .returned (if wrongP n xs = -2 then .nilIface else faultV (wrongP n xs) 10) ∧ Below w.heap.size w w' := by
  by_cases h1 : n < 0
  · exact (check_neg n A ca xs w h1).mono fun e w' ⟨he, hw⟩ => ⟨by rw [he, wrongP, if_pos h1]; rfl, hw ▸ Below.refl _ _⟩
  by_cases h2 : 4096 < n
  · exact (check_big n A ca xs w h1 h2).mono fun e w' ⟨he, hw⟩ => ⟨by rw [he, wrongP, if_neg h1, if_pos h2]; rfl, hw ▸ Below.refl _ _⟩
  by_cases h3 : 20000 < xs.length
  · exact (check_long n A ca xs w h1 h2 (by omega) h3).mono fun e w' ⟨he, hw⟩ => ⟨by rw [he, wrongP, if_neg h1, if_neg h2, if_pos h3]; rfl, hw ▸ Below.refl _ _⟩
  refine (check_any n A ca (firstBad n xs) xs w h1 h2 h3 hA (firstBad_good n xs) (firstBad_bad n xs)).mono fun e w' ⟨he, hw⟩ => ⟨?_, hw⟩
  rw [he, wrongP, if_neg h1, if_neg h2, if_neg h3]
  split
  · rw [if_neg (by omega)]
  · rw [if_pos rfl]
theorem wrong_p (n : Int) (A : Option Addr) (ca : Nat) (xs : List (Int × Int)) (w : World) (hA : EIn w A xs) :
    Calls Tryd.prog 7 #[.int .i64 n, .slice A xs.length ca] w fun e w' => e = .returned (.int .i64 (wrongP n xs)) ∧ w = w' := by
  by_cases h1 : n < 0
  · exact (wrong_neg n A ca xs w h1).mono fun e w' ⟨he, hw⟩ => ⟨by rw [he, wrongP, if_pos h1], hw⟩
  by_cases h2 : 4096 < n
  · exact (wrong_big n A ca xs w h1 h2).mono fun e w' ⟨he, hw⟩ => ⟨by rw [he, wrongP, if_neg h1, if_pos h2], hw⟩
  by_cases h3 : 20000 < xs.length
  · exact (wrong_long n A ca xs w h1 h2 (by omega) h3).mono fun e w' ⟨he, hw⟩ => ⟨by rw [he, wrongP, if_neg h1, if_neg h2, if_pos h3], hw⟩
  exact (wrong_any n A ca (firstBad n xs) xs w h1 h2 h3 hA (firstBad_good n xs) (firstBad_bad n xs)).mono fun e w' ⟨he, hw⟩ => ⟨by rw [he, wrongP, if_neg h1, if_neg h2, if_neg h3], hw⟩
theorem check_yes (n : Int) (A : Option Addr) (ca : Nat) (xs : List (Int × Int)) (w : World) (hA : EIn w A xs) (hg : Good n xs) :
    Calls Tryd.prog 34 #[.int .i64 n, .slice A xs.length ca] w fun e w' => e = .returned .nilIface ∧ Below w.heap.size w w' := by
  have := check_p n A ca xs w hA
  rwa [if_pos ((wrongP_good n xs).2 hg)] at this
theorem check_no (n : Int) (A : Option Addr) (ca : Nat) (xs : List (Int × Int)) (w : World) (hA : EIn w A xs) (hg : ¬ Good n xs) :
    Calls Tryd.prog 34 #[.int .i64 n, .slice A xs.length ca] w fun e w' => e = .returned (faultV (wrongP n xs) 10) ∧ Below w.heap.size w w' := by
  have := check_p n A ca xs w hA
  rwa [if_neg (fun h => hg ((wrongP_good n xs).1 h))] at this
theorem norm_yes (n : Int) (A : Option Addr) (ca : Nat) (xs : List (Int × Int)) (w : World) (hA : EIn w A xs) (hg : Good n xs) :
    Calls Tryd.prog 25 #[.int .i64 n, .slice A xs.length ca] w fun e w' => ∃ A' n' c' ys, e = .returned (.tuple #[.slice A' n' c', .nilIface]) ∧ n' = ys.length ∧ NormOf xs ys ∧ EIn w' A' ys ∧ Below w.heap.size w w' :=
  norm_ok n A ca xs w hg.len hA (check_yes n A ca xs w hA hg)
theorem norm_no (n : Int) (A : Option Addr) (ca : Nat) (xs : List (Int × Int)) (w : World) (hA : EIn w A xs) (hg : ¬ Good n xs) :
    Calls Tryd.prog 25 #[.int .i64 n, .slice A xs.length ca] w fun e w' => e = .returned (.tuple #[.slice none 0 0, faultV (wrongP n xs) 10]) ∧ Below w.heap.size w w' :=
  norm_bad n (wrongP n xs) 10 A xs.length ca w (check_no n A ca xs w hA hg)
/-- What an edge may be. -/
theorem Good.of {n : Int} {xs ys : List (Int × Int)} (h : Good n xs) (hl : ys.length ≤ 20000) (hm : ∀ e ∈ ys, e ∈ xs) : Good n ys := ⟨h.lo, h.hi, hl, fun e he => h.all e (hm e he)⟩
theorem nodup_len {xs ys : List (Int × Int)} (h : ys.Pairwise (fun a b => a ≠ b)) (hm : ∀ e ∈ ys, e ∈ xs) : ys.length ≤ xs.length := by
  induction ys generalizing xs with
  | nil => exact Nat.zero_le _
  | cons y ys ih =>
    obtain ⟨h1, h2⟩ := List.pairwise_cons.1 h
    have hy : y ∈ xs := hm y List.mem_cons_self
    have := ih (xs := xs.erase y) h2 (fun e he => (List.mem_erase_of_ne (fun h' => h1 e he h'.symm)).2 (hm e (List.mem_cons_of_mem _ he)))
    rw [List.length_erase_of_mem hy] at this
    have := List.length_pos_of_mem hy
    simp only [List.length_cons]
    omega
theorem NormOf.apart {xs ys : List (Int × Int)} (h : NormOf xs ys) : ys.Pairwise (fun a b => a ≠ b) := List.Pairwise.imp (fun {a b} hl he => by subst he; rw [less_irr] at hl; cases hl) h.srt
theorem NormOf.len {xs ys : List (Int × Int)} (h : NormOf xs ys) : ys.length ≤ xs.length := nodup_len h.apart fun e he => (h.mem e).1 he
theorem NormOf.count {xs ys : List (Int × Int)} (h : NormOf xs ys) (p : Int × Int → Bool) : ys.countP p ≤ xs.countP p := by
  rw [List.countP_eq_length_filter, List.countP_eq_length_filter]
  exact nodup_len (h.apart.filter _) fun e he => by
    obtain ⟨h1, h2⟩ := List.mem_filter.1 he
    exact List.mem_filter.2 ⟨(h.mem e).1 h1, h2⟩
theorem NormOf.count0 {xs ys : List (Int × Int)} (h : NormOf xs ys) (p : Int × Int → Bool) : ys.countP p = 0 ↔ xs.countP p = 0 := by
  rw [List.countP_eq_zero, List.countP_eq_zero]
  exact ⟨fun h1 e he => h1 e ((h.mem e).2 he), fun h1 e he => h1 e ((h.mem e).1 he)⟩
theorem NormOf.good {n : Int} {xs ys : List (Int × Int)} (h : NormOf xs ys) (hg : Good n xs) : Good n ys := hg.of (Nat.le_trans h.len hg.len) fun e he => (h.mem e).1 he
end Go.Proofs.YtinjecaanjeapaaDoor.Edg
