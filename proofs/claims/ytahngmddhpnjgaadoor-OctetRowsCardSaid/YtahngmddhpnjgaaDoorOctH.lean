/- Contracts of layer 1 (octet): texts. -/
import Derived.Test.YtahngmddhpnjgaaDoorOctG
import Derived.Shelf.Pu.Clone
import Derived.Lib.AppendStr
import Derived.Lib.BufferRead
namespace Go.Proofs.YtahngmddhpnjgaaDoor.Oct
open Go.RowKit Go.Lib Go.Shelf

/-- This program's numbers for the shelf's text of internal/stringslite.Clone. -/
def cloneRen : Ren := { f := fun | 25 => 35 | n => n, t := fun | 3 => 3 | 4 => 4 | 5 => 5 | 9 => 9 | 37 => 48 | 47 => 84 | n => n, g := fun n => n }
theorem cloneLays : LaysPu.n25 Tryd.prog cloneRen := ⟨by kernel_rfl, by kernel_rfl, by kernel_rfl, fun _ => by kernel_rfl, fun _ => by kernel_rfl, fun _ => by kernel_rfl, by kernel_rfl, by kernel_rfl, fun _ => by kernel_rfl, fun _ => by kernel_rfl, fun _ => by kernel_rfl, by kernel_rfl, by kernel_rfl, fun _ => by kernel_rfl, fun _ => by kernel_rfl, fun _ => by kernel_rfl, by kernel_rfl, by kernel_rfl, fun _ => by kernel_rfl, fun _ => by kernel_rfl, fun _ => by kernel_rfl, by kernel_rfl, by kernel_rfl, fun _ => by kernel_rfl, fun _ => by kernel_rfl, fun _ => by kernel_rfl, by kernel_rfl, by kernel_rfl, fun _ => by kernel_rfl, fun _ => by kernel_rfl, fun _ => by kernel_rfl, by kernel_rfl, by kernel_rfl, fun _ => by kernel_rfl, fun _ => by kernel_rfl, fun _ => by kernel_rfl, by kernel_rfl⟩
theorem clone0_any (s : ByteArray) (w : World) (h : s.size ≤ 281474976710656) :
    Calls Tryd.prog 35 #[.string s] w fun e w' => e = .returned (.string s) ∧ Below w.heap.size w w' := AnyPu.stringslite_Clone cloneLays s w h
theorem clone_any (s : ByteArray) (w : World) (h : s.size ≤ 281474976710656) :
    Calls Tryd.prog 30 #[.string s] w fun e w' => e = .returned (.string s) ∧ Below w.heap.size w w' := by
  go_enter Tryd.func30, Tryd.ntmps30
  go_wp2_with (go_at_call 35; refine (clone0_any _ _ h).mono ?_; rintro e w' ⟨rfl, hb⟩)
  go_ret
  exact ⟨rfl, by assumption⟩

/-- A slice of one-cell elements that came in, nil let in: element k is f k. -/
def SArg (w : World) (A : Option Addr) (n : Nat) (f : Nat → Value) : Prop := ∀ k, k < n → ∃ b o, A = some ⟨b, o, none⟩ ∧ b < w.heap.size ∧ w.cell? ⟨b, o + k, none⟩ = some (f k)
theorem SArg.below {w w' : World} {A : Option Addr} {n : Nat} {f : Nat → Value} (h : SArg w A n f) (hb : Below w.heap.size w w') : SArg w' A n f := fun k hk => by
  obtain ⟨b, o, e, hlt, hc⟩ := h k hk
  exact ⟨b, o, e, by have := hb.size; omega, (hb.cell (p := ⟨b, o + k, none⟩) hlt).trans hc⟩

/-- Texts' bytes, one behind the other: the first k. -/
def tx (ss : Nat → ByteArray) : Nat → List UInt8
  | 0 => []
  | k + 1 => tx ss k ++ (short (ss k).size ++ (ss k).data.toList)
theorem tx_mono (ss : Nat → ByteArray) (k n : Nat) (h : k ≤ n) : ∃ t, tx ss n = tx ss k ++ t := by
  induction n with
  | zero => have : k = 0 := by omega
            subst this; exact ⟨[], by simp⟩
  | succ n ih =>
    by_cases e : k = n + 1
    · subst e; exact ⟨[], by simp⟩
    · obtain ⟨t, ht⟩ := ih (by omega)
      exact ⟨t ++ (short (ss n).size ++ (ss n).data.toList), by rw [tx, ht]; simp⟩
theorem tx_split (ss : Nat → ByteArray) (k n : Nat) (h : k < n) : ∃ t, tx ss n = tx ss k ++ (short (ss k).size ++ (ss k).data.toList) ++ t := by
  obtain ⟨t, ht⟩ := tx_mono ss (k + 1) n h
  exact ⟨t, by rw [ht, tx]⟩
theorem conv_own {w : World} {base : Nat} {v : Value} {l : List UInt8} (h : w.ownsRow base 5 1 v l.length (byteCells l)) :
    (convert 48 9 v).run Tryd.prog w = .ok (.string ⟨l.toArray⟩) w := by
  rcases h.2 with ⟨rfl, h0⟩ | ⟨g, cap, cur, rfl, -, -, -, -, -, -⟩
  · have hl : l = [] := List.eq_nil_of_length_eq_zero h0
    subst hl
    exact run_convert_nil_bytes w _ _ 5 0 Tryd.underlying48 Tryd.underlying5 Tryd.underlying9
  · exact run_convert_bytes_back (P := Tryd.prog) w _ _ 5 ⟨g, 0, none⟩ cap l Tryd.underlying48 Tryd.underlying5 Tryd.underlying9 (fun j hj => h.cells (g := g) rfl j _ (by simp [byteCells, hj]))

set_option maxRecDepth 100000 in
set_option maxHeartbeats 1000000 in
theorem putText_any (A : Option Addr) (n c : Nat) (ss : Nat → ByteArray) (w : World) (hn : (n : Int) ≤ 9223372036854775807) (hA : SArg w A n (fun k => .string (ss k))) (hsz : ((tx ss n).length : Int) ≤ 70368744177664) :
    Calls Tryd.prog 21 #[.slice A n c] w fun e w' => e = .returned (.string ⟨(tx ss n).toArray⟩) ∧ Below w.heap.size w w' := by
  obtain ⟨i0, hi, hz0, hz1, hz2⟩ := info_parts infoByte
  have HA := Lib.hid hA
  clear hA
  go_enter Tryd.func21, Tryd.ntmps21
  go_wp2
  go_loopw [3, 8] (fun v i wr => ∃ k : Nat, k ≤ n ∧ i = .int .i64 k ∧ Hid (wr.ownsRow w.heap.size 5 1 v (tx ss k).length (byteCells (tx ss k))) ∧ Below w.heap.size w wr) (fun _ i _ => n - (RowKit.intOf i).toNat)
  case atStart => exact ⟨0, by omega, rfl, Lib.hid (World.ownsRow_nil _ _ _ _), Below.refl _ _⟩
  case round =>
    obtain ⟨k, hk, rfl, HO, hb⟩ := hrel
    by_cases hlt : k < n
    · obtain ⟨b, o, rfl, hbl, hc0⟩ := HA.out k hlt
      have hc : wr.cell? ⟨b, o + k, none⟩ = some (.string (ss k)) := (hb.cell (p := ⟨b, o + k, none⟩) hbl).trans hc0
      have hs1 := hb.size
      have hlen : ((tx ss k).length : Int) + ((short (ss k).size).length : Int) + ((ss k).size : Int) ≤ 70368744177664 := by
        obtain ⟨t, ht⟩ := tx_split ss k n hlt
        have := congrArg List.length ht
        simp at this
        have e1 : (ss k).data.size = (ss k).size := rfl
        omega
      have HLen := Lib.hid hlen
      have hk63 : ((ss k).size : Int) ≤ 9223372036854775807 := by omega
      clear hc0 hlen
      go_wp2_with (go_at_call 28; refine (appendShort_any w.heap.size _ (tx ss k) (ss k).size _ hk63 HO.out hs1 (by have := HLen.out; omega)).mono ?_; rintro e w1 ⟨v1, rfl, hown1, hb1⟩; refine Hid.out ?_)
      refine Lib.hid ?_
      have hs2 : w.heap.size ≤ w1.heap.size := by have := hb1.size; omega
      have hL2 := HLen.out
      go_wp2_with (at_builtin; refine wpList_append_own_string _ rfl _ _ 48 9 rfl w.heap.size 5 i0 Tryd.underlying48 Tryd.underlying9 hi hz0 hz1 hz2 _ _ _ rfl hown1 (ss k) rfl ?c1 ?c2 hs2 ?_)
      case c1 => rw [List.length_append]; unfold maxLen; omega
      case c2 => rw [List.length_append]; omega
      intro v2 w2 hown2 hgrow _
      have hb2 : Below w.heap.size w w2 := (hb.trans hb1).grown hgrow hs2 (fun g hg => (hown1.lt g hg).1)
      have HO2 : Hid (w2.ownsRow w.heap.size 5 1 v2 (tx ss (k + 1)).length (byteCells (tx ss (k + 1)))) := Lib.hid (by
        have e1 : (tx ss (k + 1)).length = (tx ss k).length + (short (ss k).size).length + (ss k).size := by rw [tx]; simp [Nat.add_assoc]
        have e2 : byteCells (tx ss (k + 1)) = byteCells (tx ss k ++ short (ss k).size) ++ strCells (ss k) := by rw [tx]; simp [byteCells, strCells]
        rw [e1, e2]; exact hown2)
      clear hown2 hown1
      go_wp2
      go_roundw
      case rel => exact ⟨k + 1, by omega, by go_num, HO2, hb2⟩
      case measure => simp [RowKit.intOf]; omega
    · have HE := Lib.hid (show k = n by omega)
      have hcv := conv_own HO.out
      go_wp2
      go_ret
      exact ⟨by rw [HE.out]; rfl, hb⟩

end Go.Proofs.YtahngmddhpnjgaaDoor.Oct
