/- What strings and strconv answer, in plain words; the package-level variables that they read. -/
import Derived.Test.YtnmpcendimdoeaaGreatDoorLayB
import Derived.Test.YtnmpcendimdoeaaGreatDoorTxtMath
import Derived.Test.YtnmpcendimdoeaaGreatDoorEdgN
import Derived.Lib.SmallJoins
import Derived.Lib.AtoiErrMem
import Derived.Laws.ResultCell
import Derived.OwnWalk
import Derived.Shelf.Strings.Cut
import Derived.Shelf.Strings.Prefix
import Derived.Shelf.Strconv.Atoi
import Derived.Shelf.Strconv.ErrVar
import Derived.Shelf.Strconv.Itoa3
namespace Go.Proofs.YtnmpcendimdoeaaGreatDoor.Kn
open Go
section
variable {P : Program} {n : Nat} {l : List (Nat × Value)} {a : Act} {w : World}
theorem ret3 {fn : Func} {R : Ending → World → Prop} {t u x : Tmp} {v1 v2 v3 : Value} (h : Kn n l a) (hr : fn.results = #[.tmp t, .tmp u, .tmp x]) (h1 : find l t = some v1) (h2 : find l u = some v2) (h3 : find l x = some v3) (H : R (.returned (.tuple #[v1, v2, v3])) w) : bodyPost P fn R .ret a w :=
  bodyPost_ret (results_tmp3 hr _ _ _) h.defers (by have e1 := h.get t v1 h1; have e2 := h.get u v2 h2; have e3 := h.get x v3 h3; simp only [Act.eval] at e1 e2 e3; rw [e1, e2, e3]; exact H)
theorem retC {fn : Func} {R : Ending → World → Prop} {p u : Tmp} {ty : TypeId} {A : Addr} {v x : Value} (h : Kn n l a) (hr : fn.results = #[.cell p ty, .tmp u]) (hp : find l p = some (.pointer (some A))) (hx : find l u = some x) (hl : (loadVar ty A).run P w = .ok v w) (H : R (.returned (.tuple #[v, x])) w) : bodyPost P fn R .ret a w := by
  have e1 := h.get p _ hp
  have e2 := h.get u x hx
  simp only [Act.eval] at e1 e2
  refine bodyPost_ret (v := .tuple #[v, x]) ?_ h.defers H
  rw [results_cell_tmp hr, e1, e2]
  have ha : (asAddr (.pointer (some A))).run P w = .ok A w := rfl
  rw [ha]
  show ((loadVar ty A).run P w).andThen _ = _
  rw [hl]
  rfl
end
end Go.Proofs.YtnmpcendimdoeaaGreatDoor.Kn
namespace Go.Proofs.YtnmpcendimdoeaaGreatDoor.Txt
open Go Go.RowKit Go.Lib Go.Proofs.YtnmpcendimdoeaaGreatDoor.Dig Go.Joins Go.Shelf

theorem gT : Tryz.prog.globalNamed "internal/strconv.uint64pow10" = some 2 := by kernel_rfl
theorem gE : Tryz.prog.globalNamed "strconv.ErrSyntax" = some 3 := by kernel_rfl
/-- What the calls of strconv and strings read of package-level variables. -/
structure Vars (w : World) : Prop where
  tab : Lib.TabIs Tryz.prog w "internal/strconv.uint64pow10" .u64 Lib.pow10Tab
  err : ∃ tp p, w.var? Tryz.prog "strconv.ErrSyntax" = some #[.iface tp p]
  len : ∃ m, w.cell? ⟨1, 0, none⟩ = some (.int .i64 m)
theorem Vars.on {w w' : World} (h : Vars w) (hb : Below w.heap.size w w') : Vars w' := by
  obtain ⟨tp, p, he⟩ := h.err
  obtain ⟨m, hm⟩ := h.len
  exact ⟨tab_stays gT h.tab hb (Nat.le_refl _), ⟨tp, p, var_stays gE he hb (Nat.le_refl _)⟩, ⟨m, (hb.cell (p := ⟨1, 0, none⟩) (World.block_lt_of_cell? _ _ hm)).trans hm⟩⟩
theorem below_drewN {B : Nat} {w : World} (q : Nat) : Below B w (w.drewN q) := ⟨rfl, rfl, rfl, Nat.le_refl _, fun _ _ => rfl⟩
theorem cut_any (s : ByteArray) (c : UInt8) (w : World) (hv : Vars w) (hs : s.size ≤ 1000000) :
    Calls Tryz.prog 15 #[.string s, .string ⟨#[c]⟩] w fun e w' => e = .returned (.tuple #[.string (sbl (cutC c s.data.toList).1), .string (sbl (cutC c s.data.toList).2.1), .bool (cutC c s.data.toList).2.2]) ∧ Below w.heap.size w w' := by
  obtain ⟨m, hm⟩ := hv.len
  refine (Any.strings_Cut Tryz.layCut s ⟨#[c]⟩ m w (by omega) hm).mono fun e w' ⟨he, q, hw⟩ => ⟨?_, hw ▸ below_drewN q⟩
  rw [he, show (⟨#[c]⟩ : ByteArray).data.toList = [c] from rfl, cut_one]
  rfl
theorem trim_any (s : ByteArray) (w : World) : Calls Tryz.prog 30 #[.string s, .string ⟨#[45]⟩] w fun e w' => ∃ t : ByteArray, e = .returned (.string t) ∧ Hid (t.size = (Lib.trimPrefix s.data.toList [45]).length) ∧ w' = w :=
  (Any.strings_TrimPrefix Tryz.layTrim s ⟨#[45]⟩ w).mono fun e w' ⟨he, hw⟩ => ⟨_, he, Lib.hid rfl, hw⟩
theorem atoi_ok (s : ByteArray) (x : Int) (w : World) (hl : s.size ≤ 18) (h : Lib.atoi s.data.toList = some x) :
    Calls Tryz.prog 31 #[.string s] w fun e w' => e = .returned (.tuple #[.int .i64 x, .nilIface]) ∧ Below w.heap.size w w' :=
  (Any.strconv_Atoi { Tryz.layAtoi with } s x hl h w).mono fun e w' ⟨he, t, hw⟩ => ⟨he, hw ▸ Lib.bytesWorld_below w _ t⟩
theorem atoi_bad (s : ByteArray) (w : World) (hv : Vars w) (hl : s.size ≤ 18) (h : Lib.atoi s.data.toList = none) :
    Calls Tryz.prog 31 #[.string s] w fun e w' => ∃ t p, e = .returned (.tuple #[.int .i64 0, .iface t p]) ∧ Below w.heap.size w w' := by
  obtain ⟨tp, p, he⟩ := hv.err
  exact (Any.strconv_Atoi_err_var Tryz.layAtoi s hl h tp p w he).mono fun e w' ⟨N, he, _, _, hb⟩ => ⟨_, _, he, hb⟩
theorem below_grow {w : World} (k : Nat) (os : Array Obj) : Below w.heap.size w (Go.Sort.grow (w.drewN k) os) := Edg.below_grow (below_drewN k) (Nat.le_refl _) os
theorem itoa_any (x : Int) (w : World) (hv : Vars w) (h0 : -9223372036854775808 ≤ x) (h1 : x ≤ 9223372036854775807) :
    Calls Tryz.prog 32 #[.int .i64 x] w fun e w' => e = .returned (.string (sbl (dgI x))) ∧ Below w.heap.size w w' :=
  (Any.strconv_Itoa Tryz.layItoa x h0 h1 w hv.tab).mono fun e w' ⟨he, k, os, hw⟩ => ⟨by rw [he, itoa_dg]; rfl, hw ▸ below_grow k os⟩
theorem neqS (t : TypeId) (x y : Operand) (a b : ByteArray) (w : World) (h : (Tryz.prog.underlying t) = some .string) : (do eqGuard .neq t x y (.string a) (.string b); binOp .neq t (.string a) (.string b) : Sem Value).run Tryz.prog w = .ok (.bool (!decide (a = b))) w := by
  refine Edg.sat_run ?_
  go_simp
  rw [Go.ByteArray.toList_eq, Go.ByteArray.toList_eq]
  by_cases e : a = b
  · subst e; simp
  · have : (a.data.toList == b.data.toList) = false := by rw [beq_eq_false_iff_ne]; exact fun h => e (Go.WideShapes.bytes_inj h)
    rw [this]
    simp [e]
theorem neqV {t : TypeId} {x y : Operand} {a b : ByteArray} {r : Bool} {w : World} (h : (Tryz.prog.underlying t) = some .string) (hr : (!decide (a = b)) = r) : (do eqGuard .neq t x y (.string a) (.string b); binOp .neq t (.string a) (.string b) : Sem Value).run Tryz.prog w = .ok (.bool r) w := by
  rw [neqS _ _ _ _ _ _ h, hr]
end Go.Proofs.YtnmpcendimdoeaaGreatDoor.Txt
