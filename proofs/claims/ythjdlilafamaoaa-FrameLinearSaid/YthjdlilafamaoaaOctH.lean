/- Contracts of layer 1 (octet): texts. -/
import Derived.Test.YthjdlilafamaoaaOctG
import Derived.Shelf.Pu.Clone
import Derived.Lib.AppendStr
import Derived.Lib.BufferRead
namespace Go.Proofs.Ythjdlilafamaoaa.Oct
open Go.RowKit Go.Lib Go.Shelf

/-- This program's numbers for the shelf's text of internal/stringslite.Clone. -/
def cloneRen : Ren := { f := fun | 25 => 20 | n => n, t := fun | 3 => 3 | 4 => 4 | 5 => 5 | 9 => 9 | 37 => 34 | 47 => 53 | n => n, g := fun n => n }
theorem cloneLays : LaysPu.n25 Try.prog cloneRen := ⟨by kernel_rfl, by kernel_rfl, by kernel_rfl, fun _ => by kernel_rfl, fun _ => by kernel_rfl, fun _ => by kernel_rfl, by kernel_rfl, by kernel_rfl, fun _ => by kernel_rfl, fun _ => by kernel_rfl, fun _ => by kernel_rfl, by kernel_rfl, by kernel_rfl, fun _ => by kernel_rfl, fun _ => by kernel_rfl, fun _ => by kernel_rfl, by kernel_rfl, by kernel_rfl, fun _ => by kernel_rfl, fun _ => by kernel_rfl, fun _ => by kernel_rfl, by kernel_rfl, by kernel_rfl, fun _ => by kernel_rfl, fun _ => by kernel_rfl, fun _ => by kernel_rfl, by kernel_rfl, by kernel_rfl, fun _ => by kernel_rfl, fun _ => by kernel_rfl, fun _ => by kernel_rfl, by kernel_rfl, by kernel_rfl, fun _ => by kernel_rfl, fun _ => by kernel_rfl, fun _ => by kernel_rfl, by kernel_rfl⟩
theorem clone0_any (s : ByteArray) (w : World) (h : s.size ≤ 281474976710656) :
    Calls Try.prog 20 #[.string s] w fun e w' => e = .returned (.string s) ∧ Below w.heap.size w w' := AnyPu.stringslite_Clone cloneLays s w h
theorem clone_any (s : ByteArray) (w : World) (h : s.size ≤ 281474976710656) :
    Calls Try.prog 17 #[.string s] w fun e w' => e = .returned (.string s) ∧ Below w.heap.size w w' := by
  go_enter Try.func17, Try.ntmps17
  go_wp2_with (go_at_call 20; refine (clone0_any _ _ h).mono ?_; rintro e w' ⟨rfl, hb⟩)
  go_ret
  exact ⟨rfl, by assumption⟩

/-- A slice of one-cell elements that came in, nil let in: element k is f k. -/
def SArg (w : World) (A : Option Addr) (n : Nat) (f : Nat → Value) : Prop := ∀ k, k < n → ∃ b o, A = some ⟨b, o, none⟩ ∧ b < w.heap.size ∧ w.cell? ⟨b, o + k, none⟩ = some (f k)
theorem SArg.below {w w' : World} {A : Option Addr} {n : Nat} {f : Nat → Value} (h : SArg w A n f) (hb : Below w.heap.size w w') : SArg w' A n f := fun k hk => by
  obtain ⟨b, o, e, hlt, hc⟩ := h k hk
  exact ⟨b, o, e, by have := hb.size; omega, (hb.cell (p := ⟨b, o + k, none⟩) hlt).trans hc⟩

/-- Texts' bytes, one behind the other: the first k. -/
def tx (ss : Nat → ByteArray) : Nat → List UInt8
  | 0 => []
  | k + 1 => tx ss k ++ (short (ss k).size ++ (ss k).data.toList)
theorem tx_mono (ss : Nat → ByteArray) (k n : Nat) (h : k ≤ n) : ∃ t, tx ss n = tx ss k ++ t := by
  induction n with
  | zero => have : k = 0 := by omega
            subst this; exact ⟨[], by simp⟩
  | succ n ih =>
    by_cases e : k = n + 1
    · subst e; exact ⟨[], by simp⟩
    · obtain ⟨t, ht⟩ := ih (by omega)
      exact ⟨t ++ (short (ss n).size ++ (ss n).data.toList), by rw [tx, ht]; simp⟩
theorem tx_split (ss : Nat → ByteArray) (k n : Nat) (h : k < n) : ∃ t, tx ss n = tx ss k ++ (short (ss k).size ++ (ss k).data.toList) ++ t := by
  obtain ⟨t, ht⟩ := tx_mono ss (k + 1) n h
  exact ⟨t, by rw [ht, tx]⟩
theorem conv_own {w : World} {base : Nat} {v : Value} {l : List UInt8} (h : w.ownsRow base 5 1 v l.length (byteCells l)) :
    (convert 34 9 v).run Try.prog w = .ok (.string ⟨l.toArray⟩) w := by
  rcases h.2 with ⟨rfl, h0⟩ | ⟨g, cap, cur, rfl, -, -, -, -, -, -⟩
  · have hl : l = [] := List.eq_nil_of_length_eq_zero h0
    subst hl
    exact run_convert_nil_bytes w _ _ 5 0 Try.underlying34 Try.underlying5 Try.underlying9
  · exact run_convert_bytes_back (P := Try.prog) w _ _ 5 ⟨g, 0, none⟩ cap l Try.underlying34 Try.underlying5 Try.underlying9 (fun j hj => h.cells (g := g) rfl j _ (by simp [byteCells, hj]))

end Go.Proofs.Ythjdlilafamaoaa.Oct
