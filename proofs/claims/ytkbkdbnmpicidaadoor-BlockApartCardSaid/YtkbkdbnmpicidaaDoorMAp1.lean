/- A part of the proof of BlockApartCardSaid: texts that lead to it, merged. -/
import Derived.Test.YtkbkdbnmpicidaaDoorChecked
import Derived.WalkKit
import Derived.WalkSpells
import Derived.WalkLawsBesides
import Derived.LaidEql
import Derived.Stop.Asserts
import Derived.RowKitTokens
import Derived.Lib.Hide
import Derived.Test.YtkbkdbnmpicidaaDoorCards
import Derived.Test.YtkbkdbnmpicidaaDoorTie
import Derived.ProofKit
import Derived.OpenShut
import Derived.ShutString
import Derived.Deep.DeepHandedRow
import Derived.LaidLaws
import Derived.LaidHandle
import Derived.Stop.Joined
import Derived.IntWalk
import Derived.StillTailTactics
import Derived.Deep.QuietTactic
import Derived.BigCall
import Derived.Deep.LoopGhost
import Derived.Below
import Derived.Maps.AppendAt
import Derived.Deep.AppendLies
import Derived.Deep.Draws
import Derived.Lib.SmallJoins
import Derived.Laws.Rows
import Derived.Laws.Tables
import Derived.Laws.CopyOwn
import Derived.Laws.ResultCell
import Derived.OwnWalk
import Derived.Deep.MidRow
import Derived.Laws.OwnMore
import Derived.Lib.EndianMore
import Derived.Laws.IdiomCopy
import Derived.Deep.Upon
import Derived.Shelf.Abstract
import Derived.Defers
import Derived.Recover
import Derived.Lib.AppendStr
import Derived.Lib.UnsafeStr
import Derived.Lib.BufferRead
import Derived.Laws.IdiomStrings
import Derived.SliceStrings
import Derived.SizedLaws
section
namespace Go.Proofs.YtkbkdbnmpicidaaDoor.Err
open Go.RowKit Go.Extern.Stop Go.Stop Go.Extern
theorem one_match.{u} (m : Array Value → Sort u) (v : Value) (f : (v : Value) → m #[v]) (g : (x : Array Value) → m x) : ReflectliteValue.method.match_2 m #[v] f g = f v := rfl
theorem two_match.{u} (m : Array Value → Sort u) (v x : Value) (f : (v x : Value) → m #[v, x]) (g : (x : Array Value) → m x) : ReflectliteValue.set.match_3 m #[v, x] f g = f v x := rfl
theorem methodKind (n : Nat) (h : Value) (w : World) : (Go.method (n + 1) 74 (.agg #[h]) "Kind").run Tryd.prog w = .ok (51, h) w := by kernel_rfl
theorem methodElem (n : Nat) (h : Value) (w : World) : (Go.method (n + 1) 74 (.agg #[h]) "Elem").run Tryd.prog w = .ok (64, .agg #[h]) w := by kernel_rfl
theorem methodImplements (n : Nat) (h : Value) (w : World) : (Go.method (n + 1) 74 (.agg #[h]) "Implements").run Tryd.prog w = .ok (65, .agg #[h]) w := by kernel_rfl
theorem methodAssignableTo (n : Nat) (h : Value) (w : World) : (Go.method (n + 1) 74 (.agg #[h]) "AssignableTo").run Tryd.prog w = .ok (62, .agg #[h]) w := by kernel_rfl
theorem valueOfPE (t : Addr) (w : World) : (ReflectliteValue.unpack (.iface 51 (.pointer (some t)))).run Tryd.prog w
    = .ok (.agg #[.pointer (some ⟨2, 51, none⟩), .pointer (some ⟨w.heap.size, 0, none⟩), .int .u64 150]) (w.alloc (.cells #[.pointer (some t)] 51)) := by kernel_rfl
theorem typePE (a : Addr) (w : World) : (ReflectliteValue.methodAny (ReflectliteValue.valueError "reflectlite.Value.Type" 0) (fun t _ _ _ => ReflectliteType.toType t) #[.agg #[.pointer (some ⟨2, 51, none⟩), .pointer (some a), .int .u64 150]]).run Tryd.prog w
    = .ok (.iface 74 (.agg #[.pointer (some ⟨2, 51, none⟩)])) w := by kernel_rfl
theorem kindPE (w : World) : ((ReflectliteType.abiMethod fun t => (fun a : Nat => Value.int IntKind.u8 (a : Int)) <$> Rtype.kind t) #[.pointer (some ⟨2, 51, none⟩)]).run Tryd.prog w = .ok (.int .u8 22) w := by kernel_rfl
theorem kindE (w : World) : ((ReflectliteType.abiMethod fun t => (fun a : Nat => Value.int IntKind.u8 (a : Int)) <$> Rtype.kind t) #[.pointer (some ⟨2, 28, none⟩)]).run Tryd.prog w = .ok (.int .u8 2) w := by kernel_rfl
theorem partsPE (a : Addr) (w : World) : (ReflectliteValue.parts (.agg #[.pointer (some ⟨2, 51, none⟩), .pointer (some a), .int .u64 150])).run Tryd.prog w = .ok (some (51, a, 150)) w := by kernel_rfl
theorem isNilPE (a p : Addr) (W : World) (ha : W.cell? a = some (.pointer (some p))) :
    (ReflectliteValue.method (ReflectliteValue.valueError "reflectlite.Value.IsNil" 0) ReflectliteValue.isNil #[.agg #[.pointer (some ⟨2, 51, none⟩), .pointer (some a), .int .u64 150]]).run Tryd.prog W = .ok (.bool false) W := by
  delta ReflectliteValue.method
  rw [one_match];simp only [Sem.run_bind, partsPE, Result.andThen];simp [ReflectliteValue.isNil, loadVar, isAgg, underlying, Tryd.underlying51, ha, Result.andThen]
theorem elemPE (w : World) : (ReflectliteType.method ReflectliteType.elem #[.agg #[.pointer (some ⟨2, 51, none⟩)]]).run Tryd.prog w = .ok (.iface 74 (.agg #[.pointer (some ⟨2, 28, none⟩)])) w := by kernel_rfl
theorem implementsE (w : World) : (ReflectliteType.relation "Implements" ReflectliteType.implements_ #[.agg #[.pointer (some ⟨2, 28, none⟩)], .iface 74 (.agg #[.pointer (some ⟨2, 27, none⟩)])]).run Tryd.prog w = .ok (.bool true) w := by kernel_rfl
theorem typeOfE (v : Value) (w : World) : (ReflectliteType.typeOf #[.iface 28 v]).run Tryd.prog w = .ok (.iface 74 (.agg #[.pointer (some ⟨2, 28, none⟩)])) w := by kernel_rfl
theorem elemOfPE (w : World) : (Rtype.elem? 51).run Tryd.prog w = .ok (some 28) w := by kernel_rfl
theorem mkE (p : Addr) (w : World) : (ReflectliteValue.mk 28 p ReflectliteValue.flagAddr).run Tryd.prog w = .ok (.agg #[.pointer (some ⟨2, 28, none⟩), .pointer (some p), .int .u64 386]) w := by kernel_rfl
theorem elemVE (a p : Addr) (W : World) (ha : W.cell? a = some (.pointer (some p))) :
    (ReflectliteValue.method (ReflectliteValue.valueError "reflectlite.Value.Elem" 0) ReflectliteValue.elem #[.agg #[.pointer (some ⟨2, 51, none⟩), .pointer (some a), .int .u64 150]]).run Tryd.prog W
      = .ok (.agg #[.pointer (some ⟨2, 28, none⟩), .pointer (some p), .int .u64 386]) W := by
  delta ReflectliteValue.method
  rw [one_match];simp only [Sem.run_bind, partsPE, Result.andThen];simp [ReflectliteValue.elem, loadVar, isAgg, underlying, Tryd.underlying51, ha, Result.andThen, elemOfPE, mkE]
theorem partsAE (a : Addr) (w : World) : (ReflectliteValue.parts (.agg #[.pointer (some ⟨2, 28, none⟩), .pointer (some a), .int .u64 386])).run Tryd.prog w = .ok (some (28, a, 386)) w := by kernel_rfl
theorem partsE (a : Addr) (w : World) : (ReflectliteValue.parts (.agg #[.pointer (some ⟨2, 28, none⟩), .pointer (some a), .int .u64 130])).run Tryd.prog w = .ok (some (28, a, 130)) w := by kernel_rfl
theorem directE (w : World) : (Rtype.directlyAssignable 28 28).run Tryd.prog w = .ok true w := by kernel_rfl
theorem assignableEE (w : World) : (ReflectliteType.relation "AssignableTo" ReflectliteType.assignableTo #[.agg #[.pointer (some ⟨2, 28, none⟩)], .iface 74 (.agg #[.pointer (some ⟨2, 28, none⟩)])]).run Tryd.prog w = .ok (.bool true) w := by kernel_rfl
theorem valueOfE (c : Int) (w : World) : (ReflectliteValue.unpack (.iface 28 (.int .i64 c))).run Tryd.prog w
    = .ok (.agg #[.pointer (some ⟨2, 28, none⟩), .pointer (some ⟨w.heap.size, 0, none⟩), .int .u64 130]) (w.alloc (.cells #[.int .i64 c] 28)) := by kernel_rfl
theorem setE (ta b : Addr) (c : Int) (old : Value) (W : World) (hb : W.cell? b = some (.int .i64 c)) (ht : W.cell? ta = some old) (hf : W.frozen? ta = false) :
    (ReflectliteValue.set #[.agg #[.pointer (some ⟨2, 28, none⟩), .pointer (some ta), .int .u64 386], .agg #[.pointer (some ⟨2, 28, none⟩), .pointer (some b), .int .u64 130]]).run Tryd.prog W
      = .ok (.tuple #[]) (W.setCell ta (.int .i64 c)) := by
  delta ReflectliteValue.set
  rw [two_match];simp only [Sem.run_bind, partsAE, partsE, Result.andThen];simp [ReflectliteValue.flagAddr, loadVar, isAgg, underlying, Tryd.underlying28, hb, Result.andThen, directE, storeVar, Value.cells, storeCells, Addr.add];rw [run_store Tryd.prog W ta _ _ (by rfl)];simp [ht, hf]
end Go.Proofs.YtkbkdbnmpicidaaDoor.Err
end
section
namespace Go.Proofs.YtkbkdbnmpicidaaDoor.Err
open Go.RowKit Go.Extern.Stop Go.Stop Go.Extern
def ErrTab (w : World) : Prop := w.cell? ⟨0, 0, none⟩ = some (.iface 74 (.agg #[.pointer (some ⟨2, 27, none⟩)]))
theorem ErrTab.lt {w : World} (h : ErrTab w) : 0 < w.heap.size := by
  unfold ErrTab at h;rcases Nat.lt_or_ge 0 w.heap.size with h0 | h0
  · exact h0
  · simp [World.cell?, Array.getElem?_eq_none h0] at h
theorem ErrTab.below {B : Nat} {w w' : World} (h : ErrTab w) (hb : Below B w w') (hB : 0 < B) : ErrTab w' := (hb.cell (p := ⟨0, 0, none⟩) hB).trans h
theorem ErrTab.on {w w' : World} (h : ErrTab w) (hb : Below w.heap.size w w') : ErrTab w' := h.below hb h.lt
theorem ErrTab.alloc {w : World} (h : ErrTab w) (o : Obj) : ErrTab (w.alloc o) := (World.cell?_alloc_lt w o ⟨0, 0, none⟩ h.lt).trans h
set_option maxHeartbeats 4000000 in
theorem as_EE (c : Int) (t : Addr) (old : Value) (w : World) (hg : ErrTab w) (ht0 : w.cell? t = some old) (hf0 : w.frozen? t = false) :
    Calls Tryd.prog 19 #[.iface 28 (.int .i64 c), .iface 51 (.pointer (some t))] w fun ev w' => ev = .returned (.bool true) ∧ w'.cell? t = some (.int .i64 c) ∧ Below t.block w w' := by
  have h0 := @run_callFunc_extern Tryd.prog 26 _ (fun args => ReflectliteValue.unpack (args.getD 0 (.tuple #[]))) Tryd.func26 (by kernel_rfl) (by kernel_rfl) (by kernel_rfl) (by kernel_rfl);have h1 := @run_callFunc_extern Tryd.prog 27 _ (ReflectliteValue.methodAny (ReflectliteValue.valueError "reflectlite.Value.Type" 0) (fun t _ _ _ => ReflectliteType.toType t)) Tryd.func27 (by kernel_rfl) (by kernel_rfl) (by kernel_rfl) (by kernel_rfl);have h2 := @run_callFunc_extern Tryd.prog 28 _ (ReflectliteValue.method (ReflectliteValue.valueError "reflectlite.Value.IsNil" 0) ReflectliteValue.isNil) Tryd.func28 (by kernel_rfl) (by kernel_rfl) (by kernel_rfl) (by kernel_rfl);have h3 := @run_callFunc_extern Tryd.prog 51 _ (ReflectliteType.abiMethod fun t => do pure (.int .u8 (← Rtype.kind t))) Tryd.func51 (by kernel_rfl) (by kernel_rfl) (by kernel_rfl) (by kernel_rfl);have h4 := @run_callFunc_extern Tryd.prog 64 _ (ReflectliteType.method ReflectliteType.elem) Tryd.func64 (by kernel_rfl) (by kernel_rfl) (by kernel_rfl) (by kernel_rfl);have h5 := @run_callFunc_extern Tryd.prog 65 _ (ReflectliteType.relation "Implements" ReflectliteType.implements_) Tryd.func65 (by kernel_rfl) (by kernel_rfl) (by kernel_rfl) (by kernel_rfl);have h6 := @run_callFunc_extern Tryd.prog 32 _ (ReflectliteType.typeOf) Tryd.func32 (by kernel_rfl) (by kernel_rfl) (by kernel_rfl) (by kernel_rfl);have h7 := @run_callFunc_extern Tryd.prog 62 _ (ReflectliteType.relation "AssignableTo" ReflectliteType.assignableTo) Tryd.func62 (by kernel_rfl) (by kernel_rfl) (by kernel_rfl) (by kernel_rfl);have h8 := @run_callFunc_extern Tryd.prog 33 _ (ReflectliteValue.method (ReflectliteValue.valueError "reflectlite.Value.Elem" 0) ReflectliteValue.elem) Tryd.func33 (by kernel_rfl) (by kernel_rfl) (by kernel_rfl) (by kernel_rfl);have h9 := @run_callFunc_extern Tryd.prog 34 _ (ReflectliteValue.set) Tryd.func34 (by kernel_rfl) (by kernel_rfl) (by kernel_rfl) (by kernel_rfl);have tO1 := typeOfE;have mA := methodAssignableTo;have f6 := valueOfPE;have f7 := typePE;have mK := methodKind;have mE := methodElem;have mI := methodImplements;have k27 := kindPE;have k25 := kindE;have e27 := elemPE;have i25 := implementsE
  have htl : t.block < w.heap.size := by
    rcases Nat.lt_or_ge t.block w.heap.size with h | h
    · exact h
    · simp [World.cell?, Array.getElem?_eq_none h] at ht0
  have hb3 : Below t.block w (((w.alloc (.cells #[.pointer (some t)] 51)).alloc (.cells #[.pointer (some ⟨2, 51, none⟩), .pointer (some ⟨w.heap.size, 0, none⟩), .int .u64 150] 63)).alloc (.cells #[.pointer (some ⟨2, 51, none⟩), .pointer (some ⟨w.heap.size, 0, none⟩), .int .u64 150] 63)) := (((Below.refl _ _).alloc (by omega) _).alloc (by simp; omega) _).alloc (by simp; omega) _;have HB3 := Lib.hid hb3;clear hb3;have n8 := isNilPE ⟨w.heap.size, 0, none⟩ t ((w.alloc (.cells #[.pointer (some t)] 51)).alloc (.cells #[.pointer (some ⟨2, 51, none⟩), .pointer (some ⟨w.heap.size, 0, none⟩), .int .u64 150] 63)) (by simp);have HG := Lib.hid ((hg.alloc (.cells #[.pointer (some t)] 51)).alloc (.cells #[.pointer (some ⟨2, 51, none⟩), .pointer (some ⟨w.heap.size, 0, none⟩), .int .u64 150] 63));have hg3 := HG.out;unfold ErrTab at hg3;have aEE := assignableEE;have vE := valueOfE;have el := elemVE ⟨w.heap.size, 0, none⟩ t (((w.alloc (.cells #[.pointer (some t)] 51)).alloc (.cells #[.pointer (some ⟨2, 51, none⟩), .pointer (some ⟨w.heap.size, 0, none⟩), .int .u64 150] 63)).alloc (.cells #[.pointer (some ⟨2, 51, none⟩), .pointer (some ⟨w.heap.size, 0, none⟩), .int .u64 150] 63)) (by rw [World.cell?_alloc_lt _ _ ⟨w.heap.size, 0, none⟩ (by simp; omega)]; simp);have htW : ((((w.alloc (.cells #[.pointer (some t)] 51)).alloc (.cells #[.pointer (some ⟨2, 51, none⟩), .pointer (some ⟨w.heap.size, 0, none⟩), .int .u64 150] 63)).alloc (.cells #[.pointer (some ⟨2, 51, none⟩), .pointer (some ⟨w.heap.size, 0, none⟩), .int .u64 150] 63)).alloc (.cells #[.int .i64 c] 28)).cell? t = some old := by rw [World.cell?_alloc_lt _ _ t (by simp; omega), World.cell?_alloc_lt _ _ t (by simp; omega), World.cell?_alloc_lt _ _ t (by simp; omega), World.cell?_alloc_lt _ _ t (by simpa using htl)]; exact ht0
  have HTW := Lib.hid htW
  have st := setE t ⟨w.heap.size + 1 + 1 + 1, 0, none⟩ c old ((((w.alloc (.cells #[.pointer (some t)] 51)).alloc (.cells #[.pointer (some ⟨2, 51, none⟩), .pointer (some ⟨w.heap.size, 0, none⟩), .int .u64 150] 63)).alloc (.cells #[.pointer (some ⟨2, 51, none⟩), .pointer (some ⟨w.heap.size, 0, none⟩), .int .u64 150] 63)).alloc (.cells #[.int .i64 c] 28))
    (by rw [World.cell?_alloc_at _ _ _ _ (by simp)]; rfl) htW (by rw [World.frozen?_alloc_old _ _ t (by simp; omega), World.frozen?_alloc_old _ _ t (by simp; omega), World.frozen?_alloc_old _ _ t (by simp; omega), World.frozen?_alloc_old _ _ t (by simp; omega)]; exact hf0)
  clear hg htW
  go_enter Tryd.func19, Tryd.ntmps19
  go_wp2
  refine wp_loop_rounds 1 ?_;rw [rounds_succ]
  go_wp2
  go_ret
  exact ⟨rfl, World.cell?_setCell_same _ _ _ HTW.out, (HB3.out.alloc (by simp; omega) _).setCell (Nat.le_refl _) _⟩
end Go.Proofs.YtkbkdbnmpicidaaDoor.Err
end
section
namespace Go.Proofs.YtkbkdbnmpicidaaDoor.Err
open Go.RowKit Go.Extern.Stop Go.Stop Go.Extern
def errnoV (c : Int) : Value := .iface 28 (.int .i64 c)
set_option maxHeartbeats 1000000 in
theorem code_E (c : Int) (w : World) (hg : ErrTab w) : Calls Tryd.prog 11 #[errnoV c] w fun e w' => e = .returned (.int .i64 c) ∧ Below w.heap.size w w' := by
  have hg1 := Lib.hid (hg.alloc (.cells #[.int .i64 0] 28));clear hg;unfold errnoV
  go_enter Tryd.func11, Tryd.ntmps11
  go_wp2_with (go_at_call 19; refine (as_EE c ⟨w.heap.size, 0, none⟩ (.int .i64 0) _ hg1.out (by simp) (by simp)).mono ?_; rintro e w1 ⟨rfl, hc1, hb1⟩; refine Hid.out ?_)
  refine Lib.hid ?_;have HB := Lib.hid (((Below.refl w.heap.size w).alloc (Nat.le_refl _) _).trans hb1);clear hb1
  go_wp2
  go_ret
  exact ⟨rfl, HB.out⟩
end Go.Proofs.YtkbkdbnmpicidaaDoor.Err
end
section
namespace Go.Proofs.YtkbkdbnmpicidaaDoor.Err
open Go.ChangeShapes Go.WideShapes Go.ChangeAt Go.RowKit
theorem own : ownKnob Tryd.prog.godebug = none := by kernel_rfl
theorem et : Tryd.prog.globalNamed "errors.errorType" = some 0 := by kernel_rfl
theorem rt : (Tryd.prog.cutTypes.find? (·.1 == "internal/reflectlite.rtype")).map (·.2) = some 74 := by kernel_rfl
theorem oneRow : ((List.range Tryd.prog.types.size).filter fun t => Tryd.prog.rowNamed t [101, 114, 114, 111, 114]) = [27] := by kernel_rfl
theorem handle_of_laid {W : World} (h : laidMetH Tryd.prog [("errors.errorType", Rows.laid_errors_errorType)] W) : ErrTab W := by
  have h' : laidMet Tryd.prog [] W ∧ handlesMet Tryd.prog [("errors.errorType", Rows.laid_errors_errorType)] W := h;obtain ⟨name, u, ty, e1, e2, e3, e4, e5⟩ := h'.2 _ (List.mem_singleton.2 rfl);have en : name = [101, 114, 114, 111, 114] := (Option.some.inj e1).symm;subst en;obtain rfl := Option.some.inj (rt.symm.trans e2);have hm : ty ∈ (List.range Tryd.prog.types.size).filter fun t => Tryd.prog.rowNamed t [101, 114, 114, 111, 114] := List.mem_filter.2 ⟨List.mem_range.2 e3, e4⟩;rw [oneRow] at hm;obtain rfl := List.mem_singleton.1 hm;have hh : typeHandle Tryd.prog 27 = .pointer (some ⟨2, 27, none⟩) := by kernel_rfl
  rw [hh] at e5;unfold ErrTab
  simpa using World.var?_cell et e5 0
noncomputable def laidWorld (os : Os) : World :=
  { World.holding Tryd.prog os ⟨#[], #[], []⟩ with heap := (World.holding Tryd.prog os ⟨#[], #[], []⟩).heap.modify 0 fun
      | .cells _ t frozen => .cells #[.iface 74 (.agg #[.pointer (some ⟨2, 27, none⟩)])] t frozen
      | o => o }
theorem laid_met (os : Os) (args : Array Value) : laidMetH Tryd.prog [("errors.errorType", Rows.laid_errors_errorType)] ((laidWorld os).forCall (fun _ _ => 0) ⟨#[], args, []⟩).memory :=
  laidMetH_of_parts (laidMet_nil _ _) (by kernel_rfl)
end Go.Proofs.YtkbkdbnmpicidaaDoor.Err
end
section
namespace Go.Proofs.YtkbkdbnmpicidaaDoor.Blk
def cntK (n : Nat) : Nat := (n + 63) / 64
def szK (n : Nat) (i : Int) : Nat := if 0 ≤ i ∧ i < (cntK n : Int) then min 64 (n - 64 * i.toNat) else 0
theorem szK_at {n k : Nat} (h : k < cntK n) : szK n (k : Int) = min 64 (n - 64 * k) := by
  unfold szK;rw [if_pos ⟨by omega, by omega⟩, Int.toNat_natCast]
theorem szK_step {n k : Nat} (h : k < cntK n) : min n (64 * k) + szK n (k : Int) = min n (64 * (k + 1)) := by
  rw [szK_at h];unfold cntK at h;omega
def catK (l : List ByteArray) : ByteArray := l.foldl (· ++ ·) ⟨#[]⟩
theorem catK_take {l : List ByteArray} {k : Nat} {s : ByteArray} (h : l[k]? = some s) : catK (l.take k) ++ s = catK (l.take (k + 1)) := by
  rw [List.take_add_one, h];simp [catK, List.foldl_append]
def blkK (s : ByteArray) (k : Nat) : ByteArray := s.extract (min s.size (64 * k)) (min s.size (64 * (k + 1)))
def cutK (s : ByteArray) : List ByteArray := (List.range (cntK s.size)).map (blkK s)
theorem cutK_at {s : ByteArray} {k : Nat} (h : k < cntK s.size) : (cutK s)[k]? = some (blkK s k) := by
  unfold cutK;rw [List.getElem?_map, List.getElem?_range h]
  rfl
theorem blkK_size {s : ByteArray} {k : Nat} (h : k < cntK s.size) : (blkK s k).size = szK s.size (k : Int) := by
  have := szK_step h;unfold blkK;rw [ByteArray.size_extract];omega
end Go.Proofs.YtkbkdbnmpicidaaDoor.Blk
end
section
namespace Go.Proofs.YtkbkdbnmpicidaaDoor.Kn
open Go
def find : List (Nat × Value) → Nat → Option Value
  | [], _ => none
  | (k, v) :: l, t => bif Nat.beq k t then some v else find l t
def nth : List Value → Nat → Option Value
  | [], _ => none
  | v :: l, t => match t with
    | 0 => some v
    | t + 1 => nth l t
theorem nth_eq : ∀ (l : List Value) (t : Nat), nth l t = l[t]?
  | [], t => by simp [nth]
  | v :: l, 0 => by simp [nth]
  | v :: l, t + 1 => by simp [nth, nth_eq l t]
structure Kn (n : Nat) (l : List (Nat × Value)) (a : Act) : Prop where
  defers : a.defers = []
  size : a.tmps.size = n
  get : ∀ t v, find l t = some v → a.eval (.tmp t) = v
inductive Val (l : List (Nat × Value)) : Operand → Value → Prop
  | tmp {t : Tmp} {v : Value} (h : find l t = some v) : Val l (.tmp t) v
  | const {v : Value} : Val l (.const v) v
  | global {g : Nat} : Val l (.global g) (.pointer (some ⟨g, 0, none⟩))
  | func {f : FuncId} : Val l (.func f) (.func (.func f) #[] #[])
inductive Vals (l : List (Nat × Value)) : List Operand → List Value → Prop
  | nil : Vals l [] []
  | cons {x : Operand} {v : Value} {xs : List Operand} {vs : List Value} (h : Val l x v) (t : Vals l xs vs) : Vals l (x :: xs) (v :: vs)
inductive Wants (ops : Array Oper) (l : List (Nat × Value)) : Option (Nat × Bool) → Bool → Prop
  | none : Wants ops l none true
  | some {j : Nat} {b c r : Bool} {d : Tmp} (h : (ops[j]?).bind (·.dst) = some d) (hv : find l d = some (.bool c)) (hr : (c == b) = r) : Wants ops l (some (j, b)) r
  | gone {j : Nat} {b : Bool} {d : Tmp} (h : (ops[j]?).bind (·.dst) = some d) (hv : find l d = some undef) : Wants ops l (some (j, b)) false
theorem beq_no {i j : Nat} (h : i ≠ j) : Nat.beq i j = false := by
  cases e : Nat.beq i j with
  | true => exact absurd (Nat.eq_of_beq_eq_true e) h
  | false => rfl
section
variable {P : Program} {n : Nat} {l : List (Nat × Value)} {a : Act} {ops : Array Oper} {Q : Exit → Act → World → Prop} {w : World} {rest : List Oper}
theorem Kn.val (h : Kn n l a) {x : Operand} {v : Value} (hv : Val l x v) : a.eval x = v := by
  cases hv with
  | tmp ht => exact h.get _ _ ht
  | const => rfl
  | global => rfl
  | func => rfl
theorem Kn.vals (h : Kn n l a) {xs : List Operand} {vs : List Value} (hv : Vals l xs vs) : xs.toArray.map a.eval = vs.toArray := by
  have : xs.map a.eval = vs := by
    induction hv with
    | nil => rfl
    | cons h1 _ ih => rw [List.map_cons, h.val h1, ih]
  rw [List.map_toArray, this]
theorem Kn.put (h : Kn n l a) {d : Tmp} (hd : Nat.blt d n = true) (v : Value) : Kn n ((d, v) :: l) (a.put (some d) v) := by
  have hd' : d < a.tmps.size := by rw [h.size]; exact Nat.le_of_ble_eq_true hd
  refine ⟨h.defers, by simp [Act.put, h.size], fun t u hu => ?_⟩
  by_cases e : d = t
  · subst e;rw [find, Nat.beq_refl] at hu;simp at hu;subst hu;simp [Act.put, Act.eval, hd']
  · rw [find, beq_no e] at hu;have := h.get t u (by simpa using hu);rw [← this];simp only [Act.put, Act.eval];rw [Array.getD_eq_getD_getElem?, Array.getD_eq_getD_getElem?, Array.getElem?_setIfInBounds_ne e]
theorem Kn.wants (h : Kn n l a) {o : Oper} {r : Bool} (hw : Wants ops l o.guard r) : Region.wanted o (yielded ops a.tmps) = r := by
  unfold Region.wanted;generalize o.guard = g at hw
  cases hw with
  | none => rfl
  | @some j b c r d hj hv hr =>
    have h1 := h.get _ _ hv
    have h2 : a.tmps[d]? = some (.bool c) := by
      simp only [Act.eval] at h1;rw [Array.getD_eq_getD_getElem?] at h1
      cases e : a.tmps[d]? with
      | none => rw [e] at h1; simp [undef] at h1
      | some u => rw [e] at h1; simp at h1; rw [h1]
    simp only [yielded, hj, Option.bind_some, h2];rw [← hr];cases c <;> cases b <;> rfl
  | @gone j b d hj hv =>
    have h1 := h.get _ _ hv
    have h2 : ∀ c, a.tmps[d]? ≠ some (.bool c) := fun c e => by
      simp only [Act.eval] at h1;rw [Array.getD_eq_getD_getElem?, e] at h1;simp [undef] at h1
    simp only [yielded, hj, Option.bind_some]
    cases e : a.tmps[d]? with
    | none => rfl
    | some u => cases u <;> first | rfl | exact absurd e (h2 _)
theorem Kn.more (h : Kn n l a) {t : Tmp} {v : Value} (hv : a.eval (.tmp t) = v) : Kn n ((t, v) :: l) a := by
  refine ⟨h.defers, h.size, fun s u hu => ?_⟩;rw [find] at hu
  by_cases e : t = s
  · subst e;rw [Nat.beq_refl] at hu;simp at hu;rw [hv, hu]
  · rw [beq_no e] at hu;exact h.get _ _ (by simpa using hu)
theorem Kn.nil (hd : a.defers = []) (hs : a.tmps.size = n) : Kn n [] a := ⟨hd, hs, fun t v h => by simp [find] at h⟩
def Sat (K : Value → World → Prop) : Result Value → Prop
  | .ok v w => K v w
  | .halt _ _ => False
@[go_sem] theorem sat_ok (K : Value → World → Prop) (v : Value) (w : World) : Sat K (.ok v w) = K v w := rfl
def SatU (K : World → Prop) : Result Unit → Prop
  | .ok _ w => K w
  | .halt _ _ => False
@[go_sem] theorem satU_ok (K : World → Prop) (v : Unit) (w : World) : SatU K (.ok v w) = K w := rfl
abbrev vl (s : Sem Value) : Sem Next := do pure (.value (← s))
abbrev ul (s : Sem Unit) : Sem Next := do s; pure .skip
section exec
variable {d : Option Tmp} {t : TypeId} {p : String} {af : Array Edge} {g : Option (Nat × Bool)} {x y z : Operand} {vx vy vz : Value}
theorem ex_move (h : Kn n l a) (hx : Val l x vx) : execOp a.eval ⟨d, .move x, t, p, af, g⟩ = vl (pure vx) := by simp only [execOp, h.val hx]; rfl
theorem ex_assign (h : Kn n l a) (hx : Val l x vx) : execOp a.eval ⟨d, .assign x, t, p, af, g⟩ = vl (pure vx) := by simp only [execOp, h.val hx]; rfl
theorem ex_pick {c : Operand} {b : Bool} {v : Value} (h : Kn n l a) (hc : Val l c (.bool b)) (hv : Val l (if b then x else y) v) : execOp a.eval ⟨d, .pick c x y, t, p, af, g⟩ = vl (pure v) := by
  have e : (if b then a.eval x else a.eval y) = v := by rw [← h.val hv]; cases b <;> rfl
  simp only [execOp, h.val hc]; rw [← e]; rfl
theorem ex_extract {i : Nat} {vs : Array Value} {v : Value} (h : Kn n l a) (hx : Val l x (.tuple vs)) (hi : vs[i]? = some v) : execOp a.eval ⟨d, .extract x i, t, p, af, g⟩ = vl (pure v) := by
  simp only [execOp, h.val hx, Instr.extract, hi]
theorem ex_bin {op : BinOp} {tx ty : TypeId} (h : Kn n l a) (hx : Val l x vx) (hy : Val l y vy) : execOp a.eval ⟨d, .binOp op tx x y ty, t, p, af, g⟩ = vl (do eqGuard op tx x y vx vy; binOp op tx vx vy) := by simp only [execOp, h.val hx, h.val hy]
theorem ex_un {op : UnOp} {tx : TypeId} (h : Kn n l a) (hx : Val l x vx) : execOp a.eval ⟨d, .unOp op tx x, t, p, af, g⟩ = vl (Op.unary op vx) := by simp only [execOp, h.val hx]
theorem ex_alloc {e : TypeId} : execOp a.eval ⟨d, .alloc e, t, p, af, g⟩ = vl (Instr.alloc e true (.tuple #[])) := rfl
theorem ex_load {e : TypeId} (h : Kn n l a) (hx : Val l x vx) : execOp a.eval ⟨d, .load e x, t, p, af, g⟩ = vl (Instr.loadAt e vx) := by simp only [execOp, h.val hx]
theorem ex_store {e : TypeId} (h : Kn n l a) (hx : Val l x vx) (hy : Val l y vy) : execOp a.eval ⟨d, .store e x y, t, p, af, g⟩ = ul (Instr.storeAt e vx vy) := by simp only [execOp, h.val hx, h.val hy]
theorem ex_indexAddr {e : TypeId} (h : Kn n l a) (hx : Val l x vx) (hy : Val l y vy) : execOp a.eval ⟨d, .indexAddr e x y, t, p, af, g⟩ = vl (Instr.indexAt e vx vy) := by simp only [execOp, h.val hx, h.val hy]
theorem ex_makeSlice {e : TypeId} (h : Kn n l a) (hx : Val l x vx) (hy : Val l y vy) : execOp a.eval ⟨d, .makeSlice e x y, t, p, af, g⟩ = vl (Instr.makeSlice e vx vy) := by simp only [execOp, h.val hx, h.val hy]
theorem ex_makeInterface {e : TypeId} (h : Kn n l a) (hx : Val l x vx) : execOp a.eval ⟨d, .makeInterface e x, t, p, af, g⟩ = vl (Instr.makeInterface e vx) := by simp only [execOp, h.val hx]
theorem ex_buildSlice {e : TypeId} {m : Nat} {ps : Array (Nat × Operand)} {us : List Value} (h : Kn n l a) (hx : Vals l (ps.toList.map (·.2)) us) : execOp a.eval ⟨d, .buildSlice e m ps, t, p, af, g⟩ = vl (Instr.buildSlice e m ((ps.toList.map (·.1)).zip us).toArray) := by
  have e1 : (ps.map fun (i, x) => (i, a.eval x)) = ((ps.toList.map (·.1)).zip us).toArray := by
    have := h.vals hx;rw [List.map_toArray] at this;have h2 : (ps.toList.map (·.2)).map a.eval = us := by simpa using this
    rw [← h2]
    apply Array.ext'
    simp only [Array.toList_map, List.map_map, List.zip_map'];exact List.map_congr_left fun p _ => rfl
  simp only [execOp, e1]
theorem ex_len {ats : Array TypeId} (h : Kn n l a) (hx : Val l x vx) : execOp a.eval ⟨d, .call { callee := .builtin .len, args := #[x], argTypes := ats }, t, p, af, g⟩ = vl (Builtin.len_ ats t #[vx]) := by
  rw [BigFrame.execOp_builtin, BigFrame.builtin_len]; simp [h.val hx]
theorem ex_min {ats : Array TypeId} {xs : Array Operand} {us : List Value} (h : Kn n l a) (hx : Vals l xs.toList us) : execOp a.eval ⟨d, .call { callee := .builtin .min, args := xs, argTypes := ats }, t, p, af, g⟩ = vl (Builtin.min_ ats t us.toArray) := by
  rw [BigFrame.execOp_builtin, BigFrame.builtin_min, show xs.map a.eval = us.toArray by have := h.vals hx; rwa [Array.toArray_toList] at this]
theorem ex_append {ats : Array TypeId} {xs : Array Operand} {us : List Value} (h : Kn n l a) (hx : Vals l xs.toList us) : execOp a.eval ⟨d, .call { callee := .builtin .append, args := xs, argTypes := ats }, t, p, af, g⟩ = vl (Builtin.append_ ats t us.toArray) := by
  rw [BigFrame.execOp_builtin, BigFrame.builtin_append, show xs.map a.eval = us.toArray by have := h.vals hx; rwa [Array.toArray_toList] at this]
theorem ex_call {f : FuncId} {xs : Array Operand} {us : List Value} {ats : Array TypeId} (h : Kn n l a) (hx : Vals l xs.toList us) : execOp a.eval ⟨d, .call { callee := .value (.func f), args := xs, argTypes := ats }, t, p, af, g⟩ = callFunc f us.toArray := by
  have e : xs.map a.eval = us.toArray := by have := h.vals hx; rwa [Array.toArray_toList] at this
  rw [execOp_call_go, e]; simp
end exec
def Nx (P : Program) (n : Nat) (l : List (Nat × Value)) (ops : Array Oper) (Q : Exit → Act → World → Prop) (rest : List Oper) (d : Tmp) (v : Value) (w : World) : Prop := ∀ a, Kn n ((d, v) :: l) a → wpList P ops Q rest a w
theorem run_value (s : Sem Value) (w : World) (K : Act → World → Prop) (o : Oper) (a : Act) (H : Sat (fun v w' => K (a.put o.dst v) w') (s.run P w)) (he : execOp a.eval o = vl s) : o.wp P a w K Q := by
  unfold Oper.wp;rw [he]
  cases hs : s.run P w with
  | ok v w' =>
    rw [hs] at H;simp [go_sem, hs];exact H
  | halt x w' => rw [hs] at H; exact H.elim
theorem step {o : Oper} {d : Tmp} {s : Sem Value} (h : Kn n l a) (hd : o.dst = some d) (hdn : Nat.blt d n = true) (hw : Wants ops l o.guard true) (he : execOp a.eval o = vl s)
    (H : ∀ K : Value → World → Prop, (∀ v w', Nx P n l ops Q rest d v w' → K v w') → Sat K (s.run P w)) : wpList P ops Q (o :: rest) a w := by
  refine wpList_step fun K hK => ?_;rw [h.wants hw, if_pos rfl];refine run_value s w K o a (H _ fun v w' hn => ?_) he;rw [hd];exact hK _ _ (hn _ (h.put hdn v))
theorem pure {o : Oper} {d : Tmp} {v : Value} (h : Kn n l a) (hd : o.dst = some d) (hdn : Nat.blt d n = true) (hw : Wants ops l o.guard true) (he : execOp a.eval o = vl (.pure v))
    (H : Nx P n l ops Q rest d v w) : wpList P ops Q (o :: rest) a w := step h hd hdn hw he fun _ hK => hK _ _ H
theorem known {o : Oper} {d : Tmp} {s : Sem Value} {v : Value} {w' : World} (h : Kn n l a) (hd : o.dst = some d) (hdn : Nat.blt d n = true) (hw : Wants ops l o.guard true) (he : execOp a.eval o = vl s)
    (hr : s.run P w = .ok v w') (H : Nx P n l ops Q rest d v w') : wpList P ops Q (o :: rest) a w := step h hd hdn hw he fun _ hK => by rw [hr]; exact hK _ _ H
theorem stepU {o : Oper} {s : Sem Unit} (h : Kn n l a) (hd : o.dst = none) (hw : Wants ops l o.guard true) (he : execOp a.eval o = ul s)
    (H : ∀ K : World → Prop, (∀ w', wpList P ops Q rest a w' → K w') → SatU K (s.run P w)) : wpList P ops Q (o :: rest) a w := by
  refine wpList_step fun K hK => ?_;rw [h.wants hw, if_pos rfl];unfold Oper.wp;rw [he];have := H _ fun w' hn => hK a w' hn
  cases hs : s.run P w with
  | ok v w' =>
    rw [hs] at this;simp [go_sem, hs, hd, Act.put];exact this
  | halt x w' => rw [hs] at this; exact this.elim
theorem skip {o : Oper} {d : Tmp} (h : Kn n l a) (hd : o.dst = some d) (hdn : Nat.blt d n = true) (hw : Wants ops l o.guard false) (H : Nx P n l ops Q rest d undef w) : wpList P ops Q (o :: rest) a w := by
  refine wpList_step fun K hK => ?_;rw [h.wants hw, if_neg (by simp), hd];exact hK _ _ (H _ (h.put hdn _))
theorem call {o : Oper} {d : Tmp} {f : FuncId} {args : Array Value} {R : Ending → World → Prop} (h : Kn n l a) (hd : o.dst = some d) (hdn : Nat.blt d n = true) (hw : Wants ops l o.guard true) (he : execOp a.eval o = callFunc f args)
    (hc : ∀ (args : Array Value) (w : World), (callFunc f args).run P w = .ok (.enter f args) w) (hR : Calls P f args w R)
    (H : ∀ e w', R e w' → ∃ v, e = .returned v ∧ Nx P n l ops Q rest d v w') : wpList P ops Q (o :: rest) a w := by
  refine wpList_step fun K hK => ?_;rw [h.wants hw, if_pos rfl];unfold Oper.wp;rw [he, hc];refine hR.mono fun e w' hr => ?_;obtain ⟨v, rfl, hn⟩ := H e w' hr;show K (a.put o.dst v) w';rw [hd];exact hK _ _ (hn _ (h.put hdn v))
inductive Sub (l : List (Nat × Value)) : List (Nat × Value) → Prop
  | nil : Sub l []
  | cons {t : Nat} {v : Value} {l' : List (Nat × Value)} (h : find l t = some v) (r : Sub l l') : Sub l ((t, v) :: l')
  | turn {t : Nat} {v u : Value} {l' : List (Nat × Value)} (h : find l t = some v) (e : v = u) (r : Sub l l') : Sub l ((t, u) :: l')
theorem Sub.at {l l' : List (Nat × Value)} (h : Sub l l') {t : Nat} {v : Value} (hv : find l' t = some v) : find l t = some v := by
  induction h with
  | nil => simp [find] at hv
  | @cons s u l' h1 _ ih =>
    rw [find] at hv
    by_cases e : s = t
    · subst e; rw [Nat.beq_refl] at hv; simp at hv; rw [← hv]; exact h1
    · rw [beq_no e] at hv; exact ih (by simpa using hv)
  | @turn s u x l' h1 h2 _ ih =>
    subst h2;rw [find] at hv
    by_cases e : s = t
    · subst e; rw [Nat.beq_refl] at hv; simp at hv; rw [← hv]; exact h1
    · rw [beq_no e] at hv; exact ih (by simpa using hv)
theorem Kn.cut {l' : List (Nat × Value)} (h : Kn n l a) (hs : Sub l l') : Kn n l' a := ⟨h.defers, h.size, fun _ _ hv => h.get _ _ (hs.at hv)⟩
inductive Ins (args : Array Value) : List (Nat × Value) → Prop
  | nil : Ins args []
  | cons {t : Nat} {v : Value} {l' : List (Nat × Value)} (h : nth args.toList t = some v) (r : Ins args l') : Ins args ((t, v) :: l')
theorem Ins.at {args : Array Value} {l : List (Nat × Value)} (h : Ins args l) {t : Nat} {v : Value} (hv : find l t = some v) : args[t]? = some v := by
  induction h with
  | nil => simp [find] at hv
  | @cons s u l' h1 _ ih =>
    rw [find] at hv
    by_cases e : s = t
    · subst e; rw [Nat.beq_refl] at hv; simp at hv; rw [← hv]; rw [nth_eq] at h1; simpa using h1
    · rw [beq_no e] at hv; exact ih (by simpa using hv)
theorem calls {f : FuncId} {fn : Func} {c : Code} {args : Array Value} {R : Ending → World → Prop} (hf : P.funcs[f]? = some fn) (hb : fn.body = some c) (hn : fn.ntmps = n) (ha : Nat.ble args.size n = true) (hl : Ins args l)
    (H : ∀ a, Kn n l a → c.wp P (bodyPost P fn R) a w) : Calls P f args w R := by
  refine calls_of_wp hf hb (H _ ⟨rfl, ?_, fun t v hv => ?_⟩)
  · have := Nat.le_of_ble_eq_true ha;simp only [Array.size_append, Array.size_replicate]; omega
  · have h1 := hl.at hv
    have h2 : t < args.size := by
      rcases Nat.lt_or_ge t args.size with h | h
      · exact h
      · rw [Array.getElem?_eq_none h] at h1; cases h1
    simp only [Act.eval];rw [Array.getD_eq_getD_getElem?, Array.getElem?_append_left h2, h1]
    rfl
theorem ret1 {fn : Func} {R : Ending → World → Prop} {t : Tmp} {v : Value} (h : Kn n l a) (hr : fn.results = #[.tmp t]) (hv : find l t = some v) (H : R (.returned v) w) : bodyPost P fn R .ret a w :=
  bodyPost_ret (results_tmp hr _ _ _) h.defers (by have := h.get t v hv; simp only [Act.eval] at this; rw [this]; exact H)
theorem ret2 {fn : Func} {R : Ending → World → Prop} {t u : Tmp} {v x : Value} (h : Kn n l a) (hr : fn.results = #[.tmp t, .tmp u]) (hv : find l t = some v) (hx : find l u = some x) (H : R (.returned (.tuple #[v, x])) w) : bodyPost P fn R .ret a w :=
  bodyPost_ret (results_tmp2 hr _ _ _) h.defers (by have h1 := h.get t v hv; have h2 := h.get u x hx; simp only [Act.eval] at h1 h2; rw [h1, h2]; exact H)
theorem yes {x : Operand} {c d : Code} (h : Kn n l a) (hv : Val l x (.bool true)) (H : c.wp P Q a w) : (Code.cond x c d).wp P Q a w := wp_cond_true (h.val hv) H
theorem no {x : Operand} {c d : Code} (h : Kn n l a) (hv : Val l x (.bool false)) (H : d.wp P Q a w) : (Code.cond x c d).wp P Q a w := wp_cond_false (h.val hv) H
theorem then_ret {K : Act → World → Prop} (h : Q .ret a w) : Exit.then K Q .ret a w := h
theorem then_exit {K : Act → World → Prop} {i : Nat} (h : Q (.exit i) a w) : Exit.then K Q (.exit i) a w := h
theorem block_normal {i : Nat} (h : Q .normal a w) : Exit.inBlock i Q .normal a w := h
theorem block_exit {i : Nat} (h : Q .normal a w) : Exit.inBlock i Q (.exit i) a w := by simp only [Exit.inBlock, if_pos]; exact h
theorem loop {c : Code} (I : Nat → Act → World → Prop) (m : Nat) (h0 : I m a w) (hr : ∀ m a w, I m a w → ∀ K : Act → World → Prop, (∀ m' a' w', m' < m → I m' a' w' → K a' w') → c.wp P (Exit.then K Q) a w) : (Code.loop c).wp P Q a w :=
  wp_loop_ghost I m h0 fun m a w h => hr m a w h _ fun m' _ _ hlt h' => ⟨m', hlt, h'⟩
def PI (Q : Exit → Act → World → Prop) : Prop := ∀ (d : Option Tmp) (v : Value) (c : List PanicEntry) (b : Act) (w : World), Q (.panic c) (b.put d v) w → Q (.panic c) b w
theorem PI.then {K : Act → World → Prop} (h : PI Q) : PI (Exit.then K Q) := h
theorem PI.block {i : Nat} (h : PI Q) : PI (Exit.inBlock i Q) := h
theorem PI.body {fn : Func} {R : Ending → World → Prop} : PI (bodyPost P fn R) := fun d v c b w h => by cases d <;> exact h
theorem gen {c : Code} (S : World → Prop) (hS : S w) (H : ∀ u, S u → c.wp P Q a u) : c.wp P Q a w := H w hS
end
end Go.Proofs.YtkbkdbnmpicidaaDoor.Kn
end
section
namespace Go.Proofs.YtkbkdbnmpicidaaDoor.Kn
open Go
def backB (md : Region.Mode) (ops : Array Oper) : Bool :=
  (List.range ops.size).all fun i => match ops[i]? with
    | some o => o.after.all fun e => !Region.binds md e || Nat.blt e.on i
    | none => true
def apartB (ops : Array Oper) : Bool :=
  (List.range ops.size).all fun i => (List.range ops.size).all fun j => Nat.beq i j || match (ops[i]?).bind (·.dst), (ops[j]?).bind (·.dst) with
    | some d, some e => !Nat.beq d e
    | _, _ => true
def freshB (n : Nat) (l : List (Nat × Value)) (ops : Array Oper) : Bool :=
  (List.range ops.size).all fun i => match (ops[i]?).bind (·.dst) with
    | some d => Nat.blt d n && l.all fun p => !Nat.beq p.1 d
    | none => true
section
variable {P : Program} {n : Nat} {l : List (Nat × Value)} {ops : Array Oper} {Q : Exit → Act → World → Prop} {md : Region.Mode} {S : World → Prop} {G : World → World → Prop} {T : Nat → Value → World → Prop} {F : Nat → Nat → Value → Value → Prop}
theorem all_listed (hb : backB md ops = true) {listed : Array Bool} (hs : listed.size = ops.size) (hr : Region.ready md ops listed = []) : ∀ i, i < ops.size → listed.getD i false = true := by
  intro i
  induction i using Nat.strongRecOn with
  | _ i ih =>
    intro hi
    cases h : listed.getD i false with
    | true => rfl
    | false =>
      exfalso
      have hm : i ∈ Region.ready md ops listed := by
        refine mem_ready.2 ⟨getD_in (by omega) h, ops[i], Array.getElem?_eq_getElem hi, fun e he hbd => ?_⟩;have h1 := List.all_eq_true.1 hb i (List.mem_range.2 hi);rw [Array.getElem?_eq_getElem hi] at h1;have h2 := Array.all_eq_true_iff_forall_mem.1 h1 e he;rw [hbd] at h2;have h3 : e.on < i := by simpa using h2
        exact ih e.on h3 (by omega)
      rw [hr] at hm;cases hm
theorem Kn.other {a : Act} (h : Kn n l a) {d : Tmp} (v : Value) (hl : l.all (fun p => !Nat.beq p.1 d) = true) : Kn n l (a.put (some d) v) := by
  refine ⟨h.defers, by simp [Act.put, h.size], fun t u hu => ?_⟩
  have hne : d ≠ t := by
    intro e;subst e;clear h
    induction l with
    | nil => simp [find] at hu
    | cons p l ih =>
      obtain ⟨k, v⟩ := p;simp only [List.all_cons, Bool.and_eq_true, Bool.not_eq_true'] at hl;rw [find, hl.1] at hu;exact ih hl.2 hu
  rw [← h.get t u hu];simp only [Act.put, Act.eval];rw [Array.getD_eq_getD_getElem?, Array.getD_eq_getD_getElem?, Array.getElem?_setIfInBounds_ne hne]
theorem eval_put_same {a : Act} {d : Tmp} (v : Value) (h : d < a.tmps.size) : (a.put (some d) v).eval (.tmp d) = v := by simp [Act.put, Act.eval, h]
theorem eval_put_ne {a : Act} {d t : Tmp} (v : Value) (h : d ≠ t) : (a.put (some d) v).eval (.tmp t) = a.eval (.tmp t) := by
  simp only [Act.put, Act.eval];rw [Array.getD_eq_getD_getElem?, Array.getD_eq_getD_getElem?, Array.getElem?_setIfInBounds_ne h]
def Has (md : Region.Mode) (ops : Array Oper) (T : Nat → Value → World → Prop) (o : Oper) (a : Act) (w : World) : Prop :=
  ∀ j d, o.after.toList.any (fun e => Region.binds md e && Nat.beq e.on j) = true → (ops[j]?).bind (·.dst) = some d → T j (a.eval (.tmp d)) w
def Op1 (P : Program) (ops : Array Oper) (Q : Exit → Act → World → Prop) (S : World → Prop) (G : World → World → Prop) (T : Nat → Value → World → Prop) (F : Nat → Nat → Value → Value → Prop) (i : Nat) (o : Oper) (L : Nat → Prop) (a : Act) (w : World) : Prop :=
  if Region.wanted o (yielded ops a.tmps) then o.wp P a w (fun a' w' => ∃ v, a' = a.put o.dst v ∧ T i v w' ∧ S w' ∧ G w w' ∧ ∀ k d, k ≠ i → L k → (ops[k]?).bind (·.dst) = some d → F i k v (a.eval (.tmp d)) ∧ F k i (a.eval (.tmp d)) v) Q
  else T i undef w ∧ ∀ k d, k ≠ i → L k → (ops[k]?).bind (·.dst) = some d → F i k undef (a.eval (.tmp d)) ∧ F k i (a.eval (.tmp d)) undef
def Two (ops : Array Oper) (F : Nat → Nat → Value → Value → Prop) (L : Nat → Prop) (a : Act) : Prop := ∀ j k d e, j ≠ k → L j → L k → (ops[j]?).bind (·.dst) = some d → (ops[k]?).bind (·.dst) = some e → F j k (a.eval (.tmp d)) (a.eval (.tmp e))
def One (ops : Array Oper) (T : Nat → Value → World → Prop) (L : Nat → Prop) (a : Act) (w : World) : Prop := ∀ k d, L k → (ops[k]?).bind (·.dst) = some d → T k (a.eval (.tmp d)) w
def Ahead (md : Region.Mode) (o : Oper) (L : Nat → Prop) : Prop := ∀ j, o.after.toList.any (fun e => Region.binds md e && Nat.beq e.on j) = true → L j
def Ok (P : Program) (n : Nat) (l : List (Nat × Value)) (md : Region.Mode) (ops : Array Oper) (Q : Exit → Act → World → Prop) (S : World → Prop) (G : World → World → Prop) (T : Nat → Value → World → Prop) (F : Nat → Nat → Value → Value → Prop) (i : Nat) (o : Oper) : Prop :=
  ∀ a w L, Kn n l a → S w → One ops T L a w → Two ops F L a → Ahead md o L → Op1 P ops Q S G T F i o L a w
def Oks (P : Program) (n : Nat) (l : List (Nat × Value)) (md : Region.Mode) (ops : Array Oper) (Q : Exit → Act → World → Prop) (S : World → Prop) (G : World → World → Prop) (T : Nat → Value → World → Prop) (F : Nat → Nat → Value → Value → Prop) : Nat → List Oper → Prop
  | _, [] => True
  | k, o :: r => Ok P n l md ops Q S G T F k o ∧ Oks P n l md ops Q S G T F (k + 1) r
theorem Oks.at {r : List Oper} {k : Nat} (h : Oks P n l md ops Q S G T F k r) {j : Nat} {o : Oper} (hj : r[j]? = some o) : Ok P n l md ops Q S G T F (k + j) o := by
  induction r generalizing k j with
  | nil => simp at hj
  | cons x r ih =>
    cases j with
    | zero => simp at hj; subst hj; exact h.1
    | succ j =>
      have := ih h.2 (j := j) (by simpa using hj)
      rwa [show k + 1 + j = k + (j + 1) by omega] at this
structure Reg (n : Nat) (l : List (Nat × Value)) (ops : Array Oper) (S : World → Prop) (T : Nat → Value → World → Prop) (F : Nat → Nat → Value → Value → Prop) (listed : Array Bool) (a : Act) (w : World) : Prop where
  kn : Kn n l a
  size : listed.size = ops.size
  ok : S w
  slots : ∀ j d, (ops[j]?).bind (·.dst) = some d → listed.getD j false = true → T j (a.eval (.tmp d)) w
  pairs : ∀ i j d e, i ≠ j → (ops[i]?).bind (·.dst) = some d → (ops[j]?).bind (·.dst) = some e → listed.getD i false = true → listed.getD j false = true → F i j (a.eval (.tmp d)) (a.eval (.tmp e))
  stores : ∀ j o, ops[j]? = some o → o.dst = none → listed.getD j false = true → ∃ v, T j v w
theorem Reg.next (hap : apartB ops = true) (hfr : freshB n l ops = true) {listed : Array Bool} {a : Act} {w w' : World} {i : Nat} {o : Oper} {v : Value} (h : Reg n l ops S T F listed a w) (ho : ops[i]? = some o) (hv : T i v w') (hS : S w') (hG : ∀ j u, T j u w → T j u w') (hF : ∀ k d, k ≠ i → listed.getD k false = true → (ops[k]?).bind (·.dst) = some d → F i k v (a.eval (.tmp d)) ∧ F k i (a.eval (.tmp d)) v) : Reg n l ops S T F (listed.setIfInBounds i true) (a.put o.dst v) w' := by
  have hi : i < ops.size := (Array.getElem?_eq_some_iff.1 ho).1;have hob : (ops[i]?).bind (·.dst) = o.dst := by rw [ho]; rfl
  cases hd : o.dst with
  | none =>
    have old : ∀ j d, (ops[j]?).bind (·.dst) = some d → (listed.setIfInBounds i true).getD j false = true → listed.getD j false = true := fun j d hj hl => by
      by_cases e : i = j
      · subst e; rw [hob, hd] at hj; cases hj
      · rwa [getD_set_ne false e] at hl
    exact ⟨h.kn, by simp [h.size], hS, fun j d hj hl => hG _ _ (h.slots j d hj (old j d hj hl)), fun j k d e hne hj hk hl hm => h.pairs j k d e hne hj hk (old j d hj hl) (old k e hk hm), fun j o2 hj hd2 hl => by
      by_cases e : i = j
      · subst e; exact ⟨v, hv⟩
      · rw [getD_set_ne false e] at hl;obtain ⟨u, hu⟩ := h.stores j o2 hj hd2 hl
        exact ⟨u, hG _ _ hu⟩⟩
  | some d =>
    have h1 := List.all_eq_true.1 hfr i (List.mem_range.2 hi);rw [hob, hd] at h1;simp only [Bool.and_eq_true] at h1;have hdn : d < a.tmps.size := by rw [h.kn.size]; exact Nat.le_of_ble_eq_true h1.1
    have oth : ∀ j e, i ≠ j → (ops[j]?).bind (·.dst) = some e → (a.put (some d) v).eval (.tmp e) = a.eval (.tmp e) := fun j e hij hj => by
      have hjs : j < ops.size := by
        cases hj2 : ops[j]? with
        | none => rw [hj2] at hj; cases hj
        | some x => exact (Array.getElem?_eq_some_iff.1 hj2).1
      have h2 := List.all_eq_true.1 (List.all_eq_true.1 hap i (List.mem_range.2 hi)) j (List.mem_range.2 hjs);rw [hob, hd, hj, beq_no hij] at h2;have hde : d ≠ e := fun e' => by subst e'; simp at h2
      exact eval_put_ne v hde
    refine ⟨h.kn.other v h1.2, by simp [h.size], hS, fun j e hj hl => ?_, fun j k e f hne hj hk hl hm => ?_, fun j o2 hj hd2 hl => ?_⟩
    rotate_right
    · by_cases hij : i = j
      · subst hij;rw [ho] at hj;obtain rfl := Option.some.inj hj;rw [hd] at hd2;cases hd2
      · rw [getD_set_ne false hij] at hl;obtain ⟨u, hu⟩ := h.stores j o2 hj hd2 hl;exact ⟨u, hG _ _ hu⟩
    · by_cases hij : i = j
      · subst hij;rw [hob, hd] at hj;obtain rfl := Option.some.inj hj;rw [eval_put_same v hdn];exact hv
      · rw [getD_set_ne false hij] at hl;rw [oth j e hij hj];exact hG _ _ (h.slots j e hj hl)
    · by_cases hij : i = j
      · subst hij;rw [hob, hd] at hj;obtain rfl := Option.some.inj hj;rw [getD_set_ne false hne] at hm;rw [eval_put_same v hdn, oth k f hne hk];exact (hF k f (fun e => hne e.symm) hm hk).1
      · rw [getD_set_ne false hij] at hl;rw [oth j e hij hj]
        by_cases hik : i = k
        · subst hik;rw [hob, hd] at hk;obtain rfl := Option.some.inj hk;rw [eval_put_same v hdn];exact (hF j e (fun e => hij e.symm) hl hj).2
        · rw [getD_set_ne false hik] at hm;rw [oth k f hik hk];exact h.pairs j k e f hne hj hk hl hm
theorem wpAny_reg (hback : backB md ops = true) (hap : apartB ops = true) (hfr : freshB n l ops = true) (hT : ∀ i v w w', G w w' → T i v w → T i v w') (hok : Oks P n l md ops Q S G T F 0 ops.toList)
    (hend : ∀ a w, Kn n l a → S w → (∀ j d, (ops[j]?).bind (·.dst) = some d → T j (a.eval (.tmp d)) w) → (∀ i j d e, i ≠ j → (ops[i]?).bind (·.dst) = some d → (ops[j]?).bind (·.dst) = some e → F i j (a.eval (.tmp d)) (a.eval (.tmp e))) → (∀ j o, ops[j]? = some o → o.dst = none → ∃ v, T j v w) → Q .normal a w) :
    ∀ (fuel : Nat) (listed : Array Bool) (a : Act) (w : World), listed.toList.countP (fun b => !b) ≤ fuel → Reg n l ops S T F listed a w → wpAny P md ops Q fuel listed a w := by
  have fin : ∀ (listed : Array Bool) (a : Act) (w : World), Reg n l ops S T F listed a w → Region.ready md ops listed = [] → Q .normal a w := fun listed a w h hr => by
    have al : ∀ j d, (ops[j]?).bind (·.dst) = some d → listed.getD j false = true := fun j d hj => by
      have hjs : j < ops.size := by
        cases hj2 : ops[j]? with
        | none => rw [hj2] at hj; cases hj
        | some x => exact (Array.getElem?_eq_some_iff.1 hj2).1
      exact all_listed hback h.size hr j hjs
    exact hend a w h.kn h.ok (fun j d hj => h.slots j d hj (al j d hj)) (fun i j d e hne hi hj => h.pairs i j d e hne hi hj (al i d hi) (al j e hj)) fun j o hj hd => h.stores j o hj hd (all_listed hback h.size hr j (Array.getElem?_eq_some_iff.1 hj).1)
  intro fuel
  induction fuel with
  | zero =>
    intro listed a w hc h
    have hr : Region.ready md ops listed = [] := by
      cases hr : Region.ready md ops listed with
      | nil => rfl
      | cons i r =>
        exfalso
        have hi := (mem_ready.1 (show i ∈ Region.ready md ops listed by rw [hr]; exact List.mem_cons_self)).1
        have hil : i < listed.size := by
          rcases Nat.lt_or_ge i listed.size with h' | h'
          · exact h'
          · simp [Array.getElem?_eq_none h'] at hi
        have hz : listed.toList.countP (fun b => !b) = 0 := by omega
        rw [List.countP_eq_zero] at hz;have := hz listed[i] (by simp);simp [hil] at hi;simp [hi] at this
    exact ⟨hr, fin listed a w h hr⟩
  | succ fuel ih =>
    intro listed a w hc h;refine ⟨fin listed a w h, fun i hi => ?_⟩;obtain ⟨hun, o, ho, hall⟩ := mem_ready.1 hi
    have hil : i < listed.size := by
      rcases Nat.lt_or_ge i listed.size with h' | h'
      · exact h'
      · simp [Array.getElem?_eq_none h'] at hun
    have hcount : (listed.setIfInBounds i true).toList.countP (fun b => !b) ≤ fuel := by
      have hli : listed[i] = false := by simpa [hil] using hun
      rw [Array.toList_setIfInBounds, List.countP_set (by simpa using hil)];simp only [Array.getElem_toList, hli];simp only [Bool.not_false, Bool.not_true, if_true, Bool.false_eq_true, if_false];omega
    have hok' := hok.at (j := i) (o := o) (by rw [Array.getElem?_toList]; exact ho);rw [Nat.zero_add] at hok'
    have hs := hok' a w (fun k => listed.getD k false = true) h.kn h.ok (fun k d hk hd => h.slots k d hd hk) (fun j k d e hne hj hk hd he => h.pairs j k d e hne hd he hj hk) (fun j hj => by
      obtain ⟨e, he, he2⟩ := List.any_eq_true.1 hj;simp only [Bool.and_eq_true] at he2;have := Nat.eq_of_beq_eq_true he2.2;subst this
      exact hall e (Array.mem_toList_iff.1 he) he2.1)
    unfold Op1 at hs;unfold wpOp;simp only [ho]
    split
    · rename_i hw;rw [if_pos hw] at hs;refine .inl (Oper.wp_mono (fun a' w' hx => ?_) hs);obtain ⟨v, rfl, hv, hS, hG, hF⟩ := hx;exact ih _ _ _ hcount (h.next hap hfr ho hv hS (fun j u hu => hT j u _ _ hG hu) hF)
    · rename_i hw;rw [if_neg hw] at hs;exact ih _ _ _ hcount (h.next hap hfr ho hs.1 h.ok (fun j u hu => hu) hs.2)
theorem anyFU {id : Nat} {os : List Oper} {a : Act} {w : World} (S : World → Prop) (G : World → World → Prop) (T : Nat → Value → World → Prop) (F : Nat → Nat → Value → Value → Prop) (hm : P.follows .mixedOrders = true) (h : Kn n l a) (hback : backB .any os.toArray = true) (hap : apartB os.toArray = true) (hfr : freshB n l os.toArray = true)
    (hT : ∀ i v w w', G w w' → T i v w → T i v w') (hS : S w.drew) (hok : Oks P n l .any os.toArray Q S G T F 0 os)
    (hend : ∀ a w, Kn n l a → S w → (∀ j d, (os.toArray[j]?).bind (·.dst) = some d → T j (a.eval (.tmp d)) w) → (∀ i j d e, i ≠ j → (os.toArray[i]?).bind (·.dst) = some d → (os.toArray[j]?).bind (·.dst) = some e → F i j (a.eval (.tmp d)) (a.eval (.tmp e))) → (∀ j o, os.toArray[j]? = some o → o.dst = none → ∃ v, T j v w) → Q .normal a w) : (Code.region id os.toArray true).wp P Q a w := by
  refine wp_region_any hm (wpAny_reg (S := S) (G := G) (T := T) (F := F) hback hap hfr hT (by simpa using hok) hend _ _ _ _ ?_ ⟨h, by simp, hS, fun j d hj hl => ?_, fun i j d e _ _ _ hl _ => ?_, fun j o hj hd hl => ?_⟩)
  · refine Nat.le_trans List.countP_le_length ?_;simp
  · rw [getD_replicate_false] at hl; cases hl
  · rw [getD_replicate_false] at hl; cases hl
  · rw [getD_replicate_false] at hl; cases hl
theorem anyF {id : Nat} {os : List Oper} {a : Act} {w : World} (S : World → Prop) (G : World → World → Prop) (T : Nat → Value → World → Prop) (F : Nat → Nat → Value → Value → Prop) (hm : P.follows .mixedOrders = true) (h : Kn n l a) (hback : backB .any os.toArray = true) (hap : apartB os.toArray = true) (hfr : freshB n l os.toArray = true)
    (hT : ∀ i v w w', G w w' → T i v w → T i v w') (hS : S w.drew) (hok : Oks P n l .any os.toArray Q S G T F 0 os)
    (hend : ∀ a w, Kn n l a → S w → (∀ j d, (os.toArray[j]?).bind (·.dst) = some d → T j (a.eval (.tmp d)) w) → (∀ i j d e, i ≠ j → (os.toArray[i]?).bind (·.dst) = some d → (os.toArray[j]?).bind (·.dst) = some e → F i j (a.eval (.tmp d)) (a.eval (.tmp e))) → Q .normal a w) : (Code.region id os.toArray true).wp P Q a w :=
  anyFU S G T F hm h hback hap hfr hT hS hok fun a w h1 h2 h3 h4 _ => hend a w h1 h2 h3 h4
def F0 : Nat → Nat → Value → Value → Prop := fun _ _ _ _ => True
theorem any {id : Nat} {os : List Oper} {a : Act} {w : World} (S : World → Prop) (G : World → World → Prop) (T : Nat → Value → World → Prop) (hm : P.follows .mixedOrders = true) (h : Kn n l a) (hback : backB .any os.toArray = true) (hap : apartB os.toArray = true) (hfr : freshB n l os.toArray = true)
    (hT : ∀ i v w w', G w w' → T i v w → T i v w') (hS : S w.drew) (hok : Oks P n l .any os.toArray Q S G T F0 0 os)
    (hend : ∀ a w, Kn n l a → S w → (∀ j d, (os.toArray[j]?).bind (·.dst) = some d → T j (a.eval (.tmp d)) w) → Q .normal a w) : (Code.region id os.toArray true).wp P Q a w :=
  anyF S G T F0 hm h hback hap hfr hT hS hok fun a w h1 h2 h3 _ => hend a w h1 h2 h3
theorem anyU {id : Nat} {os : List Oper} {a : Act} {w : World} (S : World → Prop) (G : World → World → Prop) (T : Nat → Value → World → Prop) (hm : P.follows .mixedOrders = true) (h : Kn n l a) (hback : backB .any os.toArray = true) (hap : apartB os.toArray = true) (hfr : freshB n l os.toArray = true)
    (hT : ∀ i v w w', G w w' → T i v w → T i v w') (hS : S w.drew) (hok : Oks P n l .any os.toArray Q S G T F0 0 os)
    (hend : ∀ a w, Kn n l a → S w → (∀ j d, (os.toArray[j]?).bind (·.dst) = some d → T j (a.eval (.tmp d)) w) → (∀ j o, os.toArray[j]? = some o → o.dst = none → ∃ v, T j v w) → Q .normal a w) : (Code.region id os.toArray true).wp P Q a w :=
  anyFU S G T F0 hm h hback hap hfr hT hS hok fun a w h1 h2 h3 _ h5 => hend a w h1 h2 h3 h5
theorem aopU {i : Nat} {o : Oper} {L : Nat → Prop} {a : Act} {w : World} {s : Sem Unit} {l' : List (Nat × Value)} (h : Kn n l' a) (hd : o.dst = none) (hw : Wants ops l' o.guard true) (he : execOp a.eval o = ul s)
    (H : ∀ K : World → Prop, (∀ w', T i undef w' → S w' → G w w' → K w') → SatU K (s.run P w)) : Op1 P ops Q S G T F0 i o L a w := by
  unfold Op1;rw [h.wants hw, if_pos rfl];unfold Oper.wp;rw [he];have := H _ fun w' h1 h2 h3 => (show ∃ v, a.put o.dst undef = a.put o.dst v ∧ T i v w' ∧ S w' ∧ G w w' ∧ ∀ k d, k ≠ i → L k → (ops[k]?).bind (·.dst) = some d → F0 i k v (a.eval (.tmp d)) ∧ F0 k i (a.eval (.tmp d)) v from ⟨_, rfl, h1, h2, h3, fun _ _ _ _ _ => ⟨trivial, trivial⟩⟩)
  cases hs : s.run P w with
  | ok v w' =>
    rw [hs] at this;simp [go_sem, hs];exact this
  | halt x w' => rw [hs] at this; exact this.elim
theorem ok {i : Nat} {o : Oper} (h : ∀ a w L, Kn n l a → S w → Has md ops T o a w → Op1 P ops Q S G T F i o L a w) : Ok P n l md ops Q S G T F i o := fun a w L h1 h2 h3 _ h5 => h a w L h1 h2 fun j d hj hd => h3 j d (h5 j hj) hd
theorem aopF {i : Nat} {o : Oper} {L : Nat → Prop} {a : Act} {w : World} {s : Sem Value} {l' : List (Nat × Value)} (h : Kn n l' a) (hw : Wants ops l' o.guard true) (he : execOp a.eval o = vl s)
    (H : ∀ K : Value → World → Prop, (∀ v w', T i v w' → S w' → G w w' → (∀ k d, k ≠ i → L k → (ops[k]?).bind (·.dst) = some d → F i k v (a.eval (.tmp d)) ∧ F k i (a.eval (.tmp d)) v) → K v w') → Sat K (s.run P w)) : Op1 P ops Q S G T F i o L a w := by
  unfold Op1;rw [h.wants hw, if_pos rfl];exact run_value s w _ o a (H _ fun v w' h1 h2 h3 h4 => ⟨v, rfl, h1, h2, h3, h4⟩) he
theorem aop {i : Nat} {o : Oper} {L : Nat → Prop} {a : Act} {w : World} {s : Sem Value} {l' : List (Nat × Value)} (h : Kn n l' a) (hw : Wants ops l' o.guard true) (he : execOp a.eval o = vl s)
    (H : ∀ K : Value → World → Prop, (∀ v w', T i v w' → S w' → G w w' → K v w') → Sat K (s.run P w)) : Op1 P ops Q S G T F0 i o L a w :=
  aopF h hw he fun K hK => H K fun v w' h1 h2 h3 => hK v w' h1 h2 h3 fun _ _ _ _ _ => ⟨trivial, trivial⟩
theorem apure {i : Nat} {o : Oper} {L : Nat → Prop} {a : Act} {w : World} {v : Value} {l' : List (Nat × Value)} (h : Kn n l' a) (hw : Wants ops l' o.guard true) (he : execOp a.eval o = vl (.pure v)) (h1 : T i v w) (h2 : S w) (h3 : G w w) : Op1 P ops Q S G T F0 i o L a w :=
  aop h hw he fun _ hK => hK _ _ h1 h2 h3
theorem acall {i : Nat} {o : Oper} {L : Nat → Prop} {a : Act} {w : World} {f : FuncId} {args : Array Value} {R : Ending → World → Prop} {l' : List (Nat × Value)} (h : Kn n l' a) (hw : Wants ops l' o.guard true) (he : execOp a.eval o = callFunc f args)
    (hc : ∀ (args : Array Value) (w : World), (callFunc f args).run P w = .ok (.enter f args) w) (hR : Calls P f args w R) (H : ∀ e w', R e w' → ∃ v, e = .returned v ∧ T i v w' ∧ S w' ∧ G w w') : Op1 P ops Q S G T F0 i o L a w := by
  unfold Op1;rw [h.wants hw, if_pos rfl];unfold Oper.wp;rw [he, hc];refine hR.mono fun e w' hr => ?_;obtain ⟨v, rfl, h1, h2, h3⟩ := H e w' hr;exact ⟨v, rfl, h1, h2, h3, fun _ _ _ _ _ => ⟨trivial, trivial⟩⟩
end
def TL : List (Value → World → Prop) → Nat → Value → World → Prop
  | [], _, _, _ => True
  | p :: _, 0, v, w => p v w
  | _ :: l, i + 1, v, w => TL l i v w
inductive Keeps (G : World → World → Prop) : List (Value → World → Prop) → Prop
  | nil : Keeps G []
  | cons {p : Value → World → Prop} {l : List (Value → World → Prop)} (h : ∀ v w w', G w w' → p v w → p v w') (r : Keeps G l) : Keeps G (p :: l)
theorem Keeps.all {G : World → World → Prop} {l : List (Value → World → Prop)} (h : Keeps G l) : ∀ i v w w', G w w' → TL l i v w → TL l i v w' := by
  induction h with
  | nil => intro i v w w' _ _; exact trivial
  | cons h1 _ ih =>
    intro i v w w' hg ht
    cases i with
    | zero => exact h1 v w w' hg ht
    | succ i => exact ih i v w w' hg ht
def Is (x : Value) : Value → World → Prop := fun v _ => v = x
theorem Is.keep {G : World → World → Prop} {x : Value} : ∀ v w w', G w w' → Is x v w → Is x v w' := fun _ _ _ _ h => h
end Go.Proofs.YtkbkdbnmpicidaaDoor.Kn
end
section
namespace Go.Proofs.YtkbkdbnmpicidaaDoor.Kn
open Go
section
variable {n : Nat} {l : List (Nat × Value)} {a : Act} {d : Option Tmp} {t : TypeId} {p : String} {af : Array Edge} {g : Option (Nat × Bool)} {x : Operand}
theorem ex_callc {f : FuncId} {cs : List Value} {xs : Array Operand} {us : List Value} {ats : Array TypeId} (h : Kn n l a) (hf : Val l x (.func (.func f) #[] cs.toArray)) (hx : Vals l xs.toList us) : execOp a.eval ⟨d, .call { callee := .value x, args := xs, argTypes := ats }, t, p, af, g⟩ = callFunc f (us ++ cs).toArray := by
  have e : xs.map a.eval = us.toArray := by have := h.vals hx; rwa [Array.toArray_toList] at this
  have hv := h.val hf
  have e2 : execOp a.eval ⟨d, .call { callee := .value x, args := xs, argTypes := ats }, t, p, af, g⟩ = callFunc f (#[] ++ xs.map a.eval ++ cs.toArray) := by
    simp only [execOp, resolve, hv]
    rfl
  rw [e2, e];simp
theorem ex_makeFunc {fn : Fn} {fs cs : Array Operand} {us vs : List Value} (h : Kn n l a) (hf : Vals l fs.toList us) (hc : Vals l cs.toList vs) : execOp a.eval ⟨d, .makeFunc fn fs cs, t, p, af, g⟩ = vl (Pure.pure (.func fn us.toArray vs.toArray)) := by
  have e1 : fs.map a.eval = us.toArray := by have := h.vals hf; rwa [Array.toArray_toList] at this
  have e2 : cs.map a.eval = vs.toArray := by have := h.vals hc; rwa [Array.toArray_toList] at this
  simp only [execOp, e1, e2]
  rfl
end
end Go.Proofs.YtkbkdbnmpicidaaDoor.Kn
end
section
namespace Go.Proofs.YtkbkdbnmpicidaaDoor.Own
open Go Go.RowKit Go.Lib
structure Kept (v v' : World) (r : Option Nat) (g' : Nat) : Prop where
  at' : r = some g' ∨ v.heap.size ≤ g'
  lt : g' < v'.heap.size
  size : v.heap.size ≤ v'.heap.size
  grown : v.grownBy v' r
theorem Kept.cell {v v' : World} {r : Option Nat} {g' b o : Nat} (h : Kept v v' r g') (hlt : b < v.heap.size) (hne : some b ≠ r) : v'.cell? ⟨b, o, none⟩ = v.cell? ⟨b, o, none⟩ := h.grown.cell_far ⟨b, o, none⟩ hlt hne
structure Elem (P : Program) (T e : TypeId) (z : Value) (size bytes : Nat) : Prop where
  under : P.underlying T = some (.slice e)
  info : (P.info? e).map (fun i => (i.zero, i.size, i.bytes)) = some (some z, size, bytes)
  cells : z.cells.size = size
  pos : 0 < size
section
variable {P : Program} {T e : TypeId} {z : Value} {size bytes : Nat}
theorem Elem.parts (h : Elem P T e z size bytes) : ∃ i, P.info? e = some i ∧ i.zero = some z ∧ i.size = size ∧ i.bytes = bytes := by
  have hi := h.info
  cases hq : P.info? e with
  | none => rw [hq] at hi; cases hi
  | some i =>
    rw [hq] at hi;simp only [Option.map_some, Option.some.injEq, Prod.mk.injEq] at hi;exact ⟨i, rfl, hi.1, hi.2.1, hi.2.2⟩
theorem append (h : Elem P T e z size bytes) (w0 v : World) (ty : TypeId) (A : Option Addr) (n cap m c : Nat) (xs : List Value) (hO : v.ownsRow w0.heap.size e size (.slice A n cap) n xs)
    (b : Addr) (news : List Value) (hl : news.length = m * size) (hnews : ∀ j u, news[j]? = some u → v.cell? (b.add j) = some u) (h1 : ∀ u ∈ news, u.oneCell' = true) (hp : 0 < n + m) (hmax : n + m ≤ maxLen) (hby : (n + m) * bytes ≤ 140737488355328) (hb : Below w0.heap.size w0 v) :
    ∃ g' cap' v', (Builtin.append_ #[T, T] ty #[.slice A n cap, .slice (some b) m c]).run P v = .ok (.slice (some ⟨g', 0, none⟩) (n + m) cap') v' ∧
      v'.ownsRow w0.heap.size e size (.slice (some ⟨g', 0, none⟩) (n + m) cap') (n + m) (xs ++ news) ∧ Below w0.heap.size w0 v' ∧ Kept v v' (Value.slice A n cap).ownBlock g' := by
  obtain ⟨i, hi, hz0, hz1, hz2⟩ := h.parts;obtain ⟨v1, v', hrun, h3, h4, _, h5⟩ := run_append_own_at (P := P) (w := v) w0.heap.size T ty e i z size bytes h.under hi hz0 hz1 hz2 h.cells h.pos (.slice A n cap) n xs hO b m c news hl hnews h1 hmax hby hb.size;obtain ⟨g', cap', rfl, h6, h7⟩ := h3.form hp;refine ⟨g', cap', v', hrun, h3, hb.grown h4 hb.size (fun k hk => (hO.lt k hk).1), ?_, h7, h4.size, h4⟩;rcases h5 with h | h
  · exact .inl (by rw [← h]; rfl)
  · simp [Value.ownBlock] at h; exact .inr (by omega)
theorem new_row (w : World) (B : Nat) (e : TypeId) (size : Nat) (hB : B ≤ w.heap.size) : (w.alloc (.cells #[] e)).ownsRow B e size (.slice (some ⟨w.heap.size, 0, none⟩) 0 0) 0 [] :=
  ⟨by simp, .inr ⟨w.heap.size, 0, #[], rfl, hB, heap_alloc_new _ _, Nat.le_refl _, Nat.zero_le _, by simp, by simp⟩⟩
theorem row_on {w w' : World} {B size n : Nat} {e : TypeId} {d : Value} {xs : List Value} (h : w.ownsRow B e size d n xs) (hb : Below w.heap.size w w') : w'.ownsRow B e size d n xs := by
  obtain ⟨h1, h2⟩ := h;refine ⟨h1, ?_⟩;rcases h2 with h2 | ⟨g, cap, cur, e1, e2, e3, e4⟩
  · exact .inl h2
  · refine .inr ⟨g, cap, cur, e1, e2, ?_, e4⟩
    rw [hb.block g (by
      rcases Nat.lt_or_ge g w.heap.size with h | h
      · exact h
      · rw [Array.getElem?_eq_none h] at e3; cases e3)]
    exact e3
end
end Go.Proofs.YtkbkdbnmpicidaaDoor.Own
end
section
namespace Go.Proofs.YtkbkdbnmpicidaaDoor.St
open Go Go.RowKit Go.Lib
def rowD : TypeDesc → Bool
  | .struct _ => true
  | .array _ _ => true
  | _ => false
def St (w : World) (g : Nat) (T : TypeId) (cs : Array Value) : Prop := w.heap[g]? = some (.cells cs T (0, 0))
section
variable {w w' : World} {g : Nat} {T : TypeId} {cs : Array Value}
theorem St.lt (h : St w g T cs) : g < w.heap.size := (Array.getElem?_eq_some_iff.1 h).1
theorem St.on (h : St w g T cs) (hb : Below w.heap.size w w') : St w' g T cs := (hb.block g h.lt).trans h
theorem St.below {B : Nat} (h : St w g T cs) (hb : Below B w w') (hg : g < B) : St w' g T cs := (hb.block g hg).trans h
theorem St.new (w : World) (T : TypeId) (cs : Array Value) : St (w.alloc (.cells cs T)) w.heap.size T cs := heap_alloc_new w _
theorem St.alloc (h : St w g T cs) (o : Obj) : St (w.alloc o) g T cs := ((Below.refl w.heap.size w).alloc (Nat.le_refl _) o |>.block g h.lt).trans h
theorem St.drew (h : St w g T cs) : St w.drew g T cs := h
theorem St.cell (h : St w g T cs) (i : Nat) {v : Value} (hv : cs[i]? = some v) : w.cell? ⟨g, i, none⟩ = some v := (cell_of_row w g i cs T (0, 0) h).trans hv
theorem St.setRow (h : St w g T cs) {k : Nat} (hk : g ≠ k) (xs : Array Value) : St (w.setRow k xs) g T cs := (setRow_other w k g xs hk).trans h
theorem St.setCell (h : St w g T cs) {a : Addr} (hk : g ≠ a.block) (v : Value) : St (w.setCell a v) g T cs := (heap_setCell_other w a g v hk).trans h
theorem St.put (h : St w g T cs) (i : Nat) (v : Value) : St (w.setCell ⟨g, i, none⟩ v) g T (cs.setIfInBounds i v) := heap_setCell_same w g i cs T v h
theorem St.store {P : Program} {cells : Array Value} (h : St w g T cs) (hi : (P.info? T).map (·.size) = some cells.size) (ho : cs.size = cells.size) (h1 : cells.all (·.oneCell') = true) :
    (Instr.storeAt T (.pointer (some ⟨g, 0, none⟩)) (.agg cells)).run P w = .ok () (w.setRow g cells) ∧ St (w.setRow g cells) g T cells ∧ ∀ B, B ≤ g → Below B w (w.setRow g cells) := by
  refine ⟨?_, setRow_heap w g cs cells T (0, 0) h, fun B hB => below_setRow (Below.refl B w) hB cells⟩;have hs := run_storeVar_row (P := P) w g T T cs cells h hi ho h1;simp only [Instr.storeAt, Instr.sureAddr, Sem.run_bind, Sem.run_pure, Result.andThen_ok];exact hs
theorem St.load {P : Program} {d : TypeDesc} (h : St w g T cs) (hu : P.underlying T = some d) (hd : rowD d = true) (hi : (P.info? T).map (·.size) = some cs.size) :
    (loadVar T ⟨g, 0, none⟩).run P w = .ok (.agg cs) w := by
  cases d <;> first | exact run_loadVar_row w g T T cs (0, 0) _ h hu rfl hi | cases hd
end
end Go.Proofs.YtkbkdbnmpicidaaDoor.St
namespace Go.Proofs.YtkbkdbnmpicidaaDoor.Kn
open Go
section
variable {P : Program} {n : Nat} {l : List (Nat × Value)} {a : Act} {w : World}
end
end Go.Proofs.YtkbkdbnmpicidaaDoor.Kn
end
section
namespace Go.Proofs.YtkbkdbnmpicidaaDoor.RowG
open Go Go.RowKit Go.Lib
structure Rw (α : Type) where
  enc : α → List Value
  size : Nat
  len : ∀ a, (enc a).length = size
  one : ∀ a u, u ∈ enc a → u.oneCell' = true
variable {α : Type} (R : Rw α)
theorem addr_add (b o j : Nat) : (⟨b, o, none⟩ : Addr).add j = ⟨b, o + j, none⟩ := by unfold Addr.add; split <;> simp_all
def cs (l : List α) : List Value := l.flatMap R.enc
theorem cs_len (l : List α) : (cs R l).length = l.length * R.size := by
  induction l with
  | nil => simp [cs]
  | cons a l ih =>
    unfold cs at ih ⊢;rw [List.flatMap_cons, List.length_append, ih, R.len, List.length_cons, Nat.add_mul];omega
theorem cs_app (l m : List α) : cs R (l ++ m) = cs R l ++ cs R m := List.flatMap_append
theorem cs_one (l : List α) : ∀ u ∈ cs R l, u.oneCell' = true := fun u hu => by
  obtain ⟨a, _, h⟩ := List.mem_flatMap.1 hu;exact R.one a u h
theorem cs_at : ∀ (l : List α) (i j : Nat) (a : α) (u : Value), l[i]? = some a → (R.enc a)[j]? = some u → (cs R l)[i * R.size + j]? = some u
  | [], i, j, a, u, h, _ => by simp at h
  | x :: l, 0, j, a, u, h, hu => by
    simp at h;subst h;have hj := (List.getElem?_eq_some_iff.1 hu).1;unfold cs;rw [List.flatMap_cons, Nat.zero_mul, Nat.zero_add, List.getElem?_append_left hj];exact hu
  | x :: l, i + 1, j, a, u, h, hu => by
    have ih := cs_at l i j a u (by simpa using h) hu;unfold cs at ih ⊢;rw [List.flatMap_cons, List.getElem?_append_right (by rw [R.len, Nat.add_mul]; omega), R.len, show (i + 1) * R.size + j - R.size = i * R.size + j by rw [Nat.add_mul]; omega];exact ih
theorem cs_of (hs : 0 < R.size) : ∀ (l : List α) (k : Nat) (u : Value), (cs R l)[k]? = some u → ∃ a, l[k / R.size]? = some a ∧ (R.enc a)[k % R.size]? = some u
  | [], k, u, h => by simp [cs] at h
  | x :: l, k, u, h => by
    unfold cs at h;rw [List.flatMap_cons] at h;rcases Nat.lt_or_ge k R.size with hk | hk
    · rw [List.getElem?_append_left (by rw [R.len]; exact hk)] at h;rw [Nat.div_eq_of_lt hk, Nat.mod_eq_of_lt hk];exact ⟨x, rfl, h⟩
    · rw [List.getElem?_append_right (by rw [R.len]; exact hk), R.len] at h;obtain ⟨a, h1, h2⟩ := cs_of hs l (k - R.size) u h;have e1 : k / R.size = (k - R.size) / R.size + 1 := by rw [Nat.div_eq_sub_div hs hk]
      have e2 : (k - R.size) % R.size = k % R.size := (Nat.mod_eq_sub_mod hk).symm;exact ⟨a, by rw [e1]; simpa using h1, by rw [← e2]; exact h2⟩
def RIn (w : World) (A : Option Addr) (l : List α) : Prop := ∀ (i : Nat) (a : α), l[i]? = some a → ∃ b o, A = some ⟨b, o, none⟩ ∧ b < w.heap.size ∧ ∀ (j : Nat) (u : Value), (R.enc a)[j]? = some u → w.cell? ⟨b, o + (i * R.size + j), none⟩ = some u
variable {R} {w w' : World} {A : Option Addr} {l : List α}
theorem RIn.nil : RIn R w A [] := fun i a h => by simp at h
theorem RIn.on (h : RIn R w A l) (hb : Below w.heap.size w w') : RIn R w' A l := fun i a hi => by
  obtain ⟨b, o, e, hlt, h1⟩ := h i a hi;exact ⟨b, o, e, Nat.lt_of_lt_of_le hlt hb.size, fun j u hu => (hb.cell (p := ⟨b, o + (i * R.size + j), none⟩) hlt).trans (h1 j u hu)⟩
theorem RIn.drew (h : RIn R w A l) : RIn R w.drew A l := h
theorem RIn.cell {b o : Nat} (h : RIn R w (some ⟨b, o, none⟩) l) {i j : Nat} {a : α} {u : Value} (hi : l[i]? = some a) (hu : (R.enc a)[j]? = some u) : w.cell? ⟨b, o + (i * R.size + j), none⟩ = some u := by
  obtain ⟨b', o', e, _, h1⟩ := h i a hi;cases e;exact h1 j u hu
theorem RIn.addr (h : RIn R w A l) (hl : 0 < l.length) : ∃ b o, A = some ⟨b, o, none⟩ ∧ b < w.heap.size := by
  obtain ⟨b, o, e, hlt, _⟩ := h 0 l[0] (List.getElem?_eq_getElem hl);exact ⟨b, o, e, hlt⟩
theorem RIn.take (h : RIn R w A l) (k : Nat) : RIn R w A (l.take k) := fun i a hi => h i a (by
  rw [List.getElem?_take] at hi
  split at hi
  · exact hi
  · cases hi)
theorem RIn.drop {b o : Nat} (h : RIn R w (some ⟨b, o, none⟩) l) (k : Nat) : RIn R w (some ⟨b, o + k * R.size, none⟩) (l.drop k) := fun i a hi => by
  rw [List.getElem?_drop] at hi;obtain ⟨b', o', e, hlt, h1⟩ := h (k + i) a hi;cases e;refine ⟨b, _, rfl, hlt, fun j u hu => ?_⟩;have := h1 j u hu;rw [Nat.add_mul] at this;rw [show o + k * R.size + (i * R.size + j) = o + (k * R.size + i * R.size + j) by omega];exact this
theorem RIn.news {b o : Nat} (h : RIn R w (some ⟨b, o, none⟩) l) (hs : 0 < R.size) : ∀ j u, (cs R l)[j]? = some u → w.cell? ((⟨b, o, none⟩ : Addr).add j) = some u := fun j u hu => by
  obtain ⟨a, h1, h2⟩ := cs_of R hs l j u hu;have := h.cell h1 h2;rw [addr_add]
  rwa [Nat.mul_comm, Nat.div_add_mod] at this
def ROwn (R : Rw α) (e : TypeId) (w : World) (B : Nat) (A : Option Addr) (n cap : Nat) (l : List α) : Prop := n = l.length ∧ w.ownsRow B e R.size (.slice A n cap) n (cs R l)
variable {e : TypeId} {B n cap : Nat}
theorem ROwn.rin (h : ROwn R e w B A n cap l) : RIn R w A l := fun i a hi => by
  have hl := (List.getElem?_eq_some_iff.1 hi).1;obtain ⟨g, cap', ef, hb, hlt⟩ := h.2.form (by rw [h.1]; omega);simp only [Value.slice.injEq] at ef;obtain ⟨rfl, _, _⟩ := ef;refine ⟨g, 0, rfl, hlt, fun j u hu => ?_⟩;have := h.2.cells (g := g) rfl _ _ (cs_at R l i j a u hi hu)
  rwa [addr_add] at this
theorem ROwn.lt {g : Nat} (h : ROwn R e w B (some ⟨g, 0, none⟩) n cap l) : g < w.heap.size := (h.2.lt g rfl).2
theorem ROwn.alloc (h : ROwn R e w B A n cap l) (o : Obj) : ROwn R e (w.alloc o) B A n cap l := ⟨h.1, h.2.alloc o⟩
theorem ROwn.drew (h : ROwn R e w B A n cap l) : ROwn R e w.drew B A n cap l := h
theorem ROwn.on (h : ROwn R e w B A n cap l) (hb : Below w.heap.size w w') : ROwn R e w' B A n cap l := ⟨h.1, Own.row_on h.2 hb⟩
theorem ROwn.none : ROwn R e w B none 0 0 [] := ⟨rfl, World.ownsRow_nil _ _ _ _⟩
theorem ROwn.new (hB : B ≤ w.heap.size) : ROwn R e (w.alloc (.cells #[] e)) B (some ⟨w.heap.size, 0, Option.none⟩) 0 0 [] := ⟨rfl, Own.new_row _ _ _ _ hB⟩
theorem ROwn.le (h : ROwn R e w B A n cap l) : n ≤ cap ∧ cap ≤ maxLen := by
  rcases h.2.2 with ⟨hv, hn⟩ | ⟨g, cap', cur, hv, _, _, h1, h2, _⟩
  · injection hv with _ e1 e2
    exact ⟨by omega, by rw [e2]; exact Nat.zero_le _⟩
  · injection hv with _ e1 e2
    subst e2;exact ⟨h1, h2⟩
theorem ROwn.mono {B' : Nat} (h : ROwn R e w B A n cap l) (hB : B' ≤ B) : ROwn R e w B' A n cap l := by
  refine ⟨h.1, h.2.1, ?_⟩;rcases h.2.2 with hn | ⟨g, cap', cur, hv, hb, rest⟩
  · exact .inl hn
  · exact .inr ⟨g, cap', cur, hv, Nat.le_trans hB hb, rest⟩
theorem ROwn.pushM {P : Program} {T : TypeId} {z : Value} {bytes : Nat} {w0 v : World} (hE : Own.Elem P T e z R.size bytes) (ty : TypeId) (m c b o : Nat) (src : List α) (hO : ROwn R e v w0.heap.size A n cap l) (hS : RIn R v (some ⟨b, o, Option.none⟩) src) (hm : m = src.length) (hp : 0 < n + m) (hb : Below w0.heap.size w0 v) (hmax : n + m ≤ 1000000) (hby : bytes ≤ 100000) :
    ∃ g' cap' v', (Builtin.append_ #[T, T] ty #[.slice A n cap, .slice (some ⟨b, o, Option.none⟩) m c]).run P v = .ok (.slice (some ⟨g', 0, Option.none⟩) (n + m) cap') v' ∧
      ROwn R e v' w0.heap.size (some ⟨g', 0, Option.none⟩) (n + m) cap' (l ++ src) ∧ Below w0.heap.size w0 v' ∧ Own.Kept v v' (Value.slice A n cap).ownBlock g' := by
  obtain ⟨g', cap', v', h1, h2, h3, h4⟩ := Own.append hE w0 v ty A n cap m c (cs R l) hO.2 ⟨b, o, Option.none⟩ (cs R src) (by rw [cs_len, hm]) (hS.news hE.pos) (cs_one R _) hp (by unfold maxLen; omega) (by
    have : (n + m) * bytes ≤ 1000000 * 100000 := Nat.mul_le_mul hmax hby
    omega) hb
  exact ⟨g', cap', v', h1, ⟨by rw [List.length_append, ← hO.1, hm], by rw [cs_app]; exact h2⟩, h3, h4⟩
def txR : Rw ByteArray := ⟨fun s => [.string s], 1, fun _ => rfl, fun _ u hu => by simp at hu; subst hu; rfl⟩
end Go.Proofs.YtkbkdbnmpicidaaDoor.RowG
end
section
namespace Go.Proofs.YtkbkdbnmpicidaaDoor.RowG
open Go Go.RowKit Go.Lib
def Hold {α : Type} (R : Rw α) (w : World) (g : Nat) (l : List α) : Prop := g < w.heap.size ∧ ∀ (i : Nat) (a : α), l[i]? = some a → ∀ (j : Nat) (u : Value), (R.enc a)[j]? = some u → w.cell? ⟨g, i * R.size + j, none⟩ = some u ∧ w.frozen? ⟨g, i * R.size + j, none⟩ = false
section
variable {α : Type} {R : Rw α} {w w' : World} {g : Nat} {l : List α}
theorem Hold.rin (h : Hold R w g l) : RIn R w (some ⟨g, 0, none⟩) l := fun i a hi => ⟨g, 0, rfl, h.1, fun j u hu => by rw [Nat.zero_add]; exact (h.2 i a hi j u hu).1⟩
theorem Hold.at (h : Hold R w g l) (hs : w.heap.size ≤ w'.heap.size) (e : w'.heap[g]? = w.heap[g]?) : Hold R w' g l := ⟨Nat.lt_of_lt_of_le h.1 hs, fun i a hi j u hu => by
  obtain ⟨h1, h2⟩ := h.2 i a hi j u hu
  exact ⟨by simp only [World.cell?, e]; exact h1, by simp only [World.frozen?, e]; exact h2⟩⟩
theorem Hold.on (h : Hold R w g l) (hb : Below w.heap.size w w') : Hold R w' g l := h.at hb.size (hb.block g h.1)
theorem Hold.cell (h : Hold R w g l) {i j : Nat} {a : α} {u : Value} (hi : l[i]? = some a) (hu : (R.enc a)[j]? = some u) : w.cell? ⟨g, i * R.size + j, none⟩ = some u := (h.2 i a hi j u hu).1
theorem Hold.there (h : Hold R w g l) {k : Nat} (hk : k < l.length) : w.there g (k * R.size) R.size := fun j hj => by
  have hj2 : j < (R.enc l[k]).length := by rw [R.len]; exact hj
  obtain ⟨h1, h2⟩ := h.2 k l[k] (List.getElem?_eq_getElem hk) j (R.enc l[k])[j] (List.getElem?_eq_getElem hj2);exact ⟨by rw [h1]; rfl, h2⟩
theorem heap_setCells_ne (b c : Nat) (hc : c ≠ b) : ∀ (vs : List Value) (o : Nat) (w : World), (w.setCells b o vs).heap[c]? = w.heap[c]?
  | [], _, _ => rfl
  | v :: r, o, w => by rw [World.setCells, heap_setCells_ne b c hc r]; exact heap_setCell_other w _ c v hc
theorem size_setCellsG (b : Nat) : ∀ (vs : List Value) (o : Nat) (w : World), (w.setCells b o vs).heap.size = w.heap.size
  | [], _, _ => rfl
  | v :: r, o, w => by rw [World.setCells, size_setCellsG b r]; simp [World.setCell]
theorem Hold.set (h : Hold R w g l) (k : Nat) (hk : k < l.length) (a : α) : Hold R (w.setCells g (k * R.size) (R.enc a)) g (l.set k a) := by
  refine ⟨by rw [size_setCellsG]; exact h.1, fun i b hi j u hu => ?_⟩;have hj : j < R.size := by have := (List.getElem?_eq_some_iff.1 hu).1; rwa [R.len] at this
  rw [World.frozen?_setCells];have ht := h.there hk
  by_cases e : i = k
  · subst e;rw [List.getElem?_set_self hk] at hi;cases hi;obtain ⟨hj2, e2⟩ := List.getElem?_eq_some_iff.1 hu;refine ⟨?_, (ht j hj).2⟩;rw [World.cell?_setCells_in g (R.enc a) (i * R.size) w (fun j' hj' => (ht j' (by rwa [R.len] at hj')).1) j hj2, e2]
  · rw [List.getElem?_set_ne (fun q => e q.symm)] at hi;obtain ⟨h1, h2⟩ := h.2 i b hi j u hu;refine ⟨?_, h2⟩;rw [World.cell?_setCells_out g (R.enc a) (k * R.size) w ⟨g, i * R.size + j, none⟩ (fun _ _ => ?_)]
    · exact h1
    · show i * R.size + j < k * R.size ∨ k * R.size + (R.enc a).length ≤ i * R.size + j;rw [R.len];rcases Nat.lt_or_gt_of_ne e with q | q
      · left
        have := Nat.mul_le_mul_right R.size (show i + 1 ≤ k from q);rw [Nat.add_mul] at this;omega
      · right
        have := Nat.mul_le_mul_right R.size (show k + 1 ≤ i from q);rw [Nat.add_mul] at this;omega
theorem setCells_rest (w : World) (g o : Nat) (vs : List Value) : (∀ b, b ≠ g → (w.setCells g o vs).heap[b]? = w.heap[b]?) ∧ (w.setCells g o vs).heap.size = w.heap.size ∧ ∀ B, B ≤ g → Below B w (w.setCells g o vs) :=
  ⟨fun b hb => heap_setCells_ne g b hb vs o w, size_setCellsG g vs o w, fun B hB => below_setCells_w hB vs o w⟩
theorem Hold.store1 {P : Program} {e : TypeId} (h : Hold R w g l) (k : Nat) (hk : k < l.length) (a : α) (x : Value) (hx : R.enc a = [x]) (hz : R.size = 1)
    (hr : ∀ (w : World) (p : Addr) (c : Value), w.cell? p = some c → w.frozen? p = false → (Instr.storeAt e (.pointer (some p)) x).run P w = .ok () (w.setCell p x)) :
    ∃ w', (Instr.storeAt e (.pointer (some ⟨g, k, none⟩)) x).run P w = .ok () w' ∧ Hold R w' g (l.set k a) ∧ (∀ b, b ≠ g → w'.heap[b]? = w.heap[b]?) ∧ w'.heap.size = w.heap.size ∧ ∀ B, B ≤ g → Below B w w' := by
  obtain ⟨r1, r2, r3⟩ := setCells_rest w g (k * R.size) (R.enc a);refine ⟨w.setCells g (k * R.size) (R.enc a), ?_, h.set k hk a, r1, r2, r3⟩;obtain ⟨h1, h2⟩ := h.there hk 0 (by omega);rw [hz, Nat.mul_one, Nat.add_zero] at h1 h2;obtain ⟨c, hc⟩ := Option.isSome_iff_exists.1 h1;rw [hr w _ c hc h2, hx, hz, Nat.mul_one]
  rfl
theorem Hold.take (h : Hold R w g l) (k : Nat) : Hold R w g (l.take k) := ⟨h.1, fun i a hi => h.2 i a (by
  rw [List.getElem?_take] at hi
  split at hi
  · exact hi
  · cases hi)⟩
theorem hold_of_own {e : TypeId} {B n cap : Nat} (h : ROwn R e w B (some ⟨g, 0, none⟩) n cap l) : Hold R w g l := ⟨h.lt, fun i a hi j u hu => by
  have c := h.rin.cell hi hu;rw [Nat.zero_add] at c;obtain ⟨hn, hl, hr⟩ := h;rcases hr with ⟨hv, _⟩ | ⟨g', cap', cur, hv, hB, hg, hle, hm, hs, ht⟩
  · cases hv
  · simp only [Value.slice.injEq, Option.some.injEq, Addr.mk.injEq] at hv;obtain ⟨⟨rfl, _, _⟩, _, _⟩ := hv
    exact ⟨c, by simp [World.frozen?, hg]⟩⟩
theorem made_cs (R : Rw α) (z : Value) (a : α) (hz : z.cells.toList = R.enc a) (hs : 0 < R.size) (n : Nat) : (madeCells z.cells (n * R.size)).toList = cs R (List.replicate n a) := by
  have hzs : z.cells.size = R.size := by rw [← Array.length_toList, hz, R.len]
  apply List.ext_getElem?
  intro k;rcases Nat.lt_or_ge k (n * R.size) with hk | hk
  · have hd : k / R.size < n := (Nat.div_lt_iff_lt_mul hs).2 hk;have hm : k % R.size < R.size := Nat.mod_lt _ hs
    have h1 := cs_at R (List.replicate n a) (k / R.size) (k % R.size) a (R.enc a)[k % R.size]! (by rw [List.getElem?_replicate, if_pos hd]) (by
      rw [List.getElem!_eq_getElem?_getD, List.getElem?_eq_getElem (by rw [R.len]; exact hm)]; rfl)
    rw [Nat.mul_comm, Nat.div_add_mod] at h1;rw [h1];simp [madeCells, hk, hzs];rw [← hz];simp [Array.getElem!_eq_getD, Array.getD, hzs, hm]
  · rw [List.getElem?_eq_none (by simp [madeCells]; exact hk), List.getElem?_eq_none (by rw [cs_len, List.length_replicate]; exact hk)]
theorem makeG {P : Program} {T e : TypeId} {z : Value} {bytes : Nat} (R : Rw α) (hE : Own.Elem P T e z R.size bytes) (a : α) (hz : z.cells.toList = R.enc a) (w : World) (n : Nat) (hn : n * R.size ≤ 1000000) (hby : bytes ≤ 100000) (hn2 : n ≤ 1000000) :
    ∃ w', (Instr.makeSlice T (.int .i64 (n : Int)) (.int .i64 (n : Int))).run P w = .ok (.slice (some ⟨w.heap.size, 0, none⟩) n n) w' ∧ ROwn R e w' w.heap.size (some ⟨w.heap.size, 0, none⟩) n n (List.replicate n a) ∧ Below w.heap.size w w' := by
  obtain ⟨i0, hi, hz0, hz1, hz2⟩ := hE.parts;have hb2 : bytes * n ≤ 100000 * 1000000 := Nat.mul_le_mul hby hn2;obtain ⟨w', h1, h2, h3⟩ := run_makeSlice_full (P := P) (w := w) w.heap.size T e i0 z R.size hE.under hi hz0 hz1 .i64 .i64 n (by omega) (by rw [hz2]; omega) (by unfold maxLen; omega) (Nat.le_refl _);rw [made_cs R z a hz hE.pos n] at h2;exact ⟨w', h1, ⟨by simp, h2⟩, (Below.refl _ w).grown h3 (Nat.le_refl _) (by intro k hk; cases hk)⟩
end
end Go.Proofs.YtkbkdbnmpicidaaDoor.RowG
end
section
namespace Go.Proofs.YtkbkdbnmpicidaaDoor.Num
open Go Go.RowKit Go.Lib
def nt (l : List Int) (i : Nat) : Int := l.getD i 0
theorem nt_at (l : List Int) (i : Nat) (h : i < l.length) : nt l i = l[i] := by simp [nt, List.getD, List.getElem?_eq_getElem h]
def iV (n : Int) : Value := .int .i64 n
theorem addr_add (b o j : Nat) : (⟨b, o, none⟩ : Addr).add j = ⟨b, o + j, none⟩ := by unfold Addr.add; split <;> simp_all
def IIn (w : World) (A : Option Addr) (l : List Int) : Prop := ∀ i, i < l.length → ∃ b o, A = some ⟨b, o, none⟩ ∧ b < w.heap.size ∧ w.cell? ⟨b, o + i, none⟩ = some (.int .i64 (nt l i))
theorem IIn.on {w w' : World} {A : Option Addr} {l : List Int} (h : IIn w A l) (hb : Below w.heap.size w w') : IIn w' A l := fun i hi => by
  obtain ⟨b, o, e, hlt, h1⟩ := h i hi;exact ⟨b, o, e, Nat.lt_of_lt_of_le hlt hb.size, (hb.cell (p := ⟨b, o + i, none⟩) hlt).trans h1⟩
theorem IIn.nil (w : World) (A : Option Addr) : IIn w A [] := fun i hi => absurd hi (by simp)
theorem IIn.cells {w : World} {b o : Nat} {l : List Int} (h : IIn w (some ⟨b, o, none⟩) l) {i : Nat} (hi : i < l.length) : w.cell? ⟨b, o + i, none⟩ = some (.int .i64 (nt l i)) := by
  obtain ⟨b', o', e, _, h1⟩ := h i hi;cases e;exact h1
theorem IIn.news {w : World} {b o : Nat} {l : List Int} (h : IIn w (some ⟨b, o, none⟩) l) : ∀ j u, (l.map iV)[j]? = some u → w.cell? ((⟨b, o, none⟩ : Addr).add j) = some u := fun j u hu => by
  have hj : j < l.length := by
    rcases Nat.lt_or_ge j l.length with h' | h'
    · exact h'
    · rw [List.getElem?_eq_none (by simpa using h')] at hu; cases hu
  rw [addr_add, h.cells hj, nt_at _ _ hj];rw [List.getElem?_map, List.getElem?_eq_getElem hj] at hu;exact hu
def OwnI (w : World) (B : Nat) (A : Option Addr) (n cap : Nat) (l : List Int) : Prop := n = l.length ∧ w.ownsRow B 3 1 (.slice A n cap) n (l.map iV)
theorem OwnI.iin {w : World} {B : Nat} {A : Option Addr} {n cap : Nat} {l : List Int} (h : OwnI w B A n cap l) : IIn w A l := fun i hi => by
  obtain ⟨g, cap', e, hb, hlt⟩ := h.2.form (by rw [h.1]; omega);simp only [Value.slice.injEq] at e;obtain ⟨rfl, _, _⟩ := e;have hc := h.2.cells (g := g) rfl;have a1 := hc i _ (by rw [List.getElem?_map, List.getElem?_eq_getElem hi]; rfl);rw [addr_add] at a1;exact ⟨g, 0, rfl, hlt, by rw [nt_at _ _ hi]; exact a1⟩
theorem OwnI.lt {w : World} {B g n cap : Nat} {l : List Int} (h : OwnI w B (some ⟨g, 0, none⟩) n cap l) : g < w.heap.size := (h.2.lt g rfl).2
theorem OwnI.alloc {w : World} {B n cap : Nat} {A : Option Addr} {l : List Int} (h : OwnI w B A n cap l) (o : Obj) : OwnI (w.alloc o) B A n cap l := ⟨h.1, h.2.alloc o⟩
theorem OwnI.drew {w : World} {B n cap : Nat} {A : Option Addr} {l : List Int} (h : OwnI w B A n cap l) : OwnI w.drew B A n cap l := h
theorem OwnI.on {w w' : World} {B n cap : Nat} {A : Option Addr} {l : List Int} (h : OwnI w B A n cap l) (hb : Below w.heap.size w w') : OwnI w' B A n cap l := ⟨h.1, Own.row_on h.2 hb⟩
theorem OwnI.none (w : World) (B : Nat) : OwnI w B none 0 0 [] := ⟨rfl, World.ownsRow_nil _ _ _ _⟩
theorem OwnI.new (w : World) (B : Nat) (hB : B ≤ w.heap.size) : OwnI (w.alloc (.cells #[] 3)) B (some ⟨w.heap.size, 0, Option.none⟩) 0 0 [] := ⟨rfl, Own.new_row _ _ _ _ hB⟩
end Go.Proofs.YtkbkdbnmpicidaaDoor.Num
end
section
namespace Go.Proofs.YtkbkdbnmpicidaaDoor.Num
open Go Go.RowKit Go.Lib
structure But (X : Nat → Prop) (u u' : World) : Prop where
  size : u.heap.size ≤ u'.heap.size
  block : ∀ b, b < u.heap.size → ¬ X b → u'.heap[b]? = u.heap[b]?
theorem But.of_below {u u' : World} {X : Nat → Prop} (h : Below u.heap.size u u') : But X u u' := ⟨h.size, fun b hb _ => h.block b hb⟩
theorem But.of_setCell (u : World) (a : Addr) (v : Value) : But (fun b => b = a.block) u (u.setCell a v) := ⟨by simp [World.setCell], fun b _ hn => heap_setCell_other u a b v hn⟩
theorem But.mono {X Y : Nat → Prop} {u u' : World} (h : But X u u') (hx : ∀ b, b < u.heap.size → X b → Y b) : But Y u u' := ⟨h.size, fun b hb hn => h.block b hb fun hxb => hn (hx b hb hxb)⟩
theorem But.trans {X : Nat → Prop} {u u' u'' : World} (h : But X u u') (h' : But X u' u'') : But X u u'' := ⟨Nat.le_trans h.size h'.size, fun b hb hn => (h'.block b (Nat.lt_of_lt_of_le hb h.size) hn).trans (h.block b hb hn)⟩
theorem But.cell {X : Nat → Prop} {u u' : World} (h : But X u u') {b o : Nat} (hb : b < u.heap.size) (hn : ¬ X b) : u'.cell? ⟨b, o, none⟩ = u.cell? ⟨b, o, none⟩ := by simp only [World.cell?, h.block b hb hn]
section
variable {X : Nat → Prop} {u u' : World}
theorem But.st (h : But X u u') {g : Nat} {T : TypeId} {cs : Array Value} (hs : St.St u g T cs) (hn : ¬ X g) : St.St u' g T cs := (h.block g hs.lt hn).trans hs
theorem But.own (h : But X u u') {B g n cap : Nat} {l : List Int} (hO : OwnI u B (some ⟨g, 0, none⟩) n cap l) (hn : ¬ X g) : OwnI u' B (some ⟨g, 0, none⟩) n cap l := by
  obtain ⟨h1, h2, h3⟩ := hO;refine ⟨h1, h2, ?_⟩;rcases h3 with ⟨hv, hn0⟩ | ⟨g', cap', cur, hv, hB, hg, rest⟩
  · exact .inl ⟨hv, hn0⟩
  · have hv2 := hv;simp only [Value.slice.injEq, Option.some.injEq, Addr.mk.injEq] at hv2;obtain ⟨⟨e, _, _⟩, _, _⟩ := hv2;subst e;exact .inr ⟨g, cap', cur, hv, hB, (h.block g (Array.getElem?_eq_some_iff.1 hg).1 hn).trans hg, rest⟩
theorem But.iin (h : But X u u') {A : Option Addr} {l : List Int} (hA : IIn u A l) (hn : ∀ b o, A = some ⟨b, o, none⟩ → ¬ X b) : IIn u' A l := fun i hi => by
  obtain ⟨b, o, e, hlt, h1⟩ := hA i hi;exact ⟨b, o, e, Nat.lt_of_lt_of_le hlt h.size, (h.cell hlt (hn b o e)).trans h1⟩
end
def LIn (w : World) (A : Option Addr) (ls : List (List Int)) : Prop := ∀ (i : Nat) l, ls[i]? = some l → ∃ b o Y c, A = some ⟨b, o, none⟩ ∧ b < w.heap.size ∧ w.cell? ⟨b, o + i, none⟩ = some (.slice Y l.length c) ∧ IIn w Y l
theorem LIn.on {w w' : World} {A : Option Addr} {ls : List (List Int)} (h : LIn w A ls) (hb : Below w.heap.size w w') : LIn w' A ls := fun i l hi => by
  obtain ⟨b, o, Y, c, e, hlt, h1, h2⟩ := h i l hi;exact ⟨b, o, Y, c, e, Nat.lt_of_lt_of_le hlt hb.size, (hb.cell (p := ⟨b, o + i, none⟩) hlt).trans h1, h2.on hb⟩
theorem LIn.nil (w : World) (A : Option Addr) : LIn w A [] := fun i l h => by simp at h
def LOwn (w0 u : World) (A : Option Addr) (n cap : Nat) (ls : List (List Int)) (X : Nat → Prop) : Prop := n = ls.length ∧ ∃ vs : List Value, u.ownsRow w0.heap.size 25 1 (.slice A n cap) n vs ∧ (∀ b, (Value.slice A n cap).ownBlock = some b → ¬ X b) ∧
  ∀ (i : Nat) l, ls[i]? = some l → ∃ Y c, vs[i]? = some (Value.slice Y l.length c) ∧ IIn u Y l ∧ ∀ b o, Y = some ⟨b, o, none⟩ → w0.heap.size ≤ b ∧ b < u.heap.size ∧ ¬ X b ∧ (Value.slice A n cap).ownBlock ≠ some b
theorem LOwn.nil (w0 u : World) (X : Nat → Prop) : LOwn w0 u none 0 0 [] X := ⟨rfl, [], World.ownsRow_nil _ _ _ _, fun b h => by simp [Value.ownBlock] at h, fun i l h => by simp at h⟩
section
variable {w0 u u' : World} {A : Option Addr} {n cap : Nat} {ls : List (List Int)} {X Y : Nat → Prop}
theorem LOwn.via (h : LOwn w0 u A n cap ls X) (hb : But X u u') : LOwn w0 u' A n cap ls X := by
  obtain ⟨h0, vs, ⟨h1, h1b⟩, h2, h3⟩ := h;refine ⟨h0, vs, ⟨h1, ?_⟩, h2, fun i l hi => ?_⟩
  · rcases h1b with hn | ⟨g, cap', cur, hv, hB, hg, rest⟩
    · exact .inl hn
    · exact .inr ⟨g, cap', cur, hv, hB, (hb.block g (Array.getElem?_eq_some_iff.1 hg).1 (h2 g (by rw [hv]; rfl))).trans hg, rest⟩
  · obtain ⟨Z, c, e1, e2, e3⟩ := h3 i l hi;exact ⟨Z, c, e1, hb.iin e2 (fun b o e => (e3 b o e).2.2.1), fun b o e => ⟨(e3 b o e).1, Nat.lt_of_lt_of_le (e3 b o e).2.1 hb.size, (e3 b o e).2.2⟩⟩
theorem LOwn.on (h : LOwn w0 u A n cap ls X) (hb : Below u.heap.size u u') : LOwn w0 u' A n cap ls X := h.via (But.of_below hb)
theorem LOwn.le (h : LOwn w0 u A n cap ls X) : n ≤ cap ∧ cap ≤ maxLen := by
  obtain ⟨h0, vs, h1, _⟩ := h;rcases h1.2 with ⟨hv, hn⟩ | ⟨g, cap', cur, hv, _, _, h1, h2, _⟩
  · injection hv with _ e1 e2
    exact ⟨by omega, by rw [e2]; exact Nat.zero_le _⟩
  · injection hv with _ e1 e2
    subst e2;exact ⟨h1, h2⟩
end
end Go.Proofs.YtkbkdbnmpicidaaDoor.Num
end
section
namespace Go.Proofs.YtkbkdbnmpicidaaDoor.Kn
open Go
section
variable {P : Program} {n : Nat} {l : List (Nat × Value)} {a : Act}
end
end Go.Proofs.YtkbkdbnmpicidaaDoor.Kn
namespace Go.Proofs.YtkbkdbnmpicidaaDoor.Num
open Go Go.RowKit Go.Lib
def HoldI (w : World) (g : Nat) (l : List Int) : Prop := ∀ i, i < l.length → w.cell? ⟨g, i, none⟩ = some (.int .i64 (nt l i)) ∧ w.frozen? ⟨g, i, none⟩ = false
theorem HoldI.iin {w : World} {g : Nat} {l : List Int} (h : HoldI w g l) : IIn w (some ⟨g, 0, none⟩) l := fun i hi => by
  obtain ⟨h1, _⟩ := h i hi;exact ⟨g, 0, rfl, World.block_lt_of_cell? _ _ h1, by rw [Nat.zero_add]; exact h1⟩
theorem HoldI.at {w w' : World} {g : Nat} {l : List Int} (h : HoldI w g l) (e : w'.heap[g]? = w.heap[g]?) : HoldI w' g l := fun i hi => by
  obtain ⟨h1, h2⟩ := h i hi;exact ⟨by simp only [World.cell?, e]; exact h1, by simp only [World.frozen?, e]; exact h2⟩
theorem HoldI.on {w w' : World} {g : Nat} {l : List Int} (h : HoldI w g l) (hb : Below w.heap.size w w') : HoldI w' g l := fun i hi => by
  have hlt : g < w.heap.size := World.block_lt_of_cell? _ _ (h i hi).1;exact h.at (hb.block g hlt) i hi
theorem HoldI.drew {w : World} {g : Nat} {l : List Int} (h : HoldI w g l) : HoldI w.drew g l := h
theorem nt_set (l : List Int) (k i : Nat) (e : Int) (hi : i < l.length) : nt (l.set k e) i = if i = k then e else nt l i := by
  rw [nt_at _ _ (by simpa using hi), nt_at _ _ hi, List.getElem_set]
  by_cases h : i = k
  · subst h; simp
  · rw [if_neg (fun q => h q.symm), if_neg h]
theorem satU_run {r : Result Unit} {v : World} (H : Kn.SatU (fun w' => w' = v) r) : r = .ok () v := by
  cases r with
  | ok y w' => cases H; rfl
  | halt y w' => exact H.elim
theorem HoldI.store {w : World} {g : Nat} {l : List Int} (h : HoldI w g l) (k : Nat) (hk : k < l.length) (a : Int) :
    ∃ w', (Instr.storeAt 3 (.pointer (some ⟨g, k, none⟩)) (.int .i64 a)).run Tryd.prog w = .ok () w' ∧ HoldI w' g (l.set k a) ∧ (∀ b, b ≠ g → w'.heap[b]? = w.heap[b]?) ∧ w'.heap.size = w.heap.size ∧ (∀ B, B ≤ g → Below B w w') := by
  obtain ⟨c1, f1⟩ := h k hk;have hd : (w.setCell ⟨g, k, none⟩ (.int .i64 a)).heap.size = w.heap.size := by simp [World.setCell]
  refine ⟨w.setCell ⟨g, k, none⟩ (.int .i64 a), ?_, fun i hi => ?_, fun b hb => heap_setCell_other w _ b _ hb, hd, fun B hB => (Below.refl B w).setCell hB _⟩
  · refine satU_run ?_;go_simp;try simp [c1, f1]
  · have hi' : i < l.length := by simpa using hi
    rw [World.frozen?_setCell, nt_set l k i a hi'];refine ⟨?_, (h i hi').2⟩
    by_cases e : i = k
    · subst e;rw [if_pos rfl, World.cell?_setCell_same' _ _ _ (by rw [c1]; rfl)]
    · rw [if_neg e, World.cell?_setCell_other _ _ _ _ (by simp [e])];exact (h i hi').1
theorem hold_of_own {w : World} {B g n cap : Nat} {l : List Int} (h : OwnI w B (some ⟨g, 0, none⟩) n cap l) : HoldI w g l := fun i hi => by
  have c := (OwnI.iin h).cells hi;rw [Nat.zero_add] at c;obtain ⟨hn, hl, hr⟩ := h;rcases hr with ⟨hv, _⟩ | ⟨g', cap', cur, hv, hB, hg, hle, hm, hs, ht⟩
  · cases hv
  · simp only [Value.slice.injEq, Option.some.injEq, Addr.mk.injEq] at hv;obtain ⟨⟨rfl, _, _⟩, _, _⟩ := hv;exact ⟨c, by simp [World.frozen?, hg]⟩
end Go.Proofs.YtkbkdbnmpicidaaDoor.Num
end
section
namespace Go.Proofs.YtkbkdbnmpicidaaDoor.RowG
open Go Go.RowKit Go.Lib
variable {α : Type} {R : Rw α} {e : TypeId} {n cap : Nat} {A : Option Addr} {l : List α}
theorem ROwn.pushAny {P : Program} {T : TypeId} {z : Value} {bytes : Nat} {w0 v : World} (hE : Own.Elem P T e z R.size bytes) (ty : TypeId) (A2 : Option Addr) (c2 : Nat) (src : List α) (hO : ROwn R e v w0.heap.size A n cap l) (hS : RIn R v A2 src) (hb : Below w0.heap.size w0 v) (hmax : n + src.length ≤ 1000000) (hby : bytes ≤ 100000) :
    ∃ A' cap' v', (Builtin.append_ #[T, T] ty #[.slice A n cap, .slice A2 src.length c2]).run P v = .ok (.slice A' (n + src.length) cap') v' ∧ ROwn R e v' w0.heap.size A' (n + src.length) cap' (l ++ src) ∧ Below w0.heap.size w0 v' := by
  rcases Nat.eq_zero_or_pos src.length with h0 | h0
  · obtain rfl : src = [] := List.eq_nil_of_length_eq_zero h0;obtain ⟨i, hi, _, hz1, _⟩ := hE.parts;refine ⟨A, cap, v, ?_, by simpa using hO, hb⟩;refine run_append_nothing v _ _ ty _ i hE.under hi A n cap hO.le.1 _ ?_
    cases A2 with
    | none => exact Src.ofNil v hE.under c2
    | some a => exact Src.ofSlice v hE.under a 0 c2 [] (by simp) (by intro j u hj; simp at hj) (by intro u hu; cases hu)
  · obtain ⟨b, o, rfl, _⟩ := hS.addr h0;obtain ⟨g', cap', v', h1, h2, h3, _⟩ := hO.pushM hE ty src.length c2 b o src hS rfl (by omega) hb hmax hby;exact ⟨_, cap', v', h1, h2, h3⟩
theorem ROwn.at' {w : World} {B : Nat} (h : ROwn R e w B A n cap l) : n = 0 ∨ ∃ g, A = some ⟨g, 0, Option.none⟩ ∧ B ≤ g ∧ g < w.heap.size := by
  rcases h.2.2 with ⟨hv, hn⟩ | ⟨g, cap', cur, hv, hb, hg, _⟩
  · left; injection hv with _ e1 _
  · right
    injection hv with e1 _ _
    exact ⟨g, e1, hb, (Array.getElem?_eq_some_iff.1 hg).1⟩
theorem tx_cell {w : World} {A : Option Addr} {ts : List ByteArray} (h : RIn txR w A ts) {k : Nat} {s : ByteArray} (hk : ts[k]? = some s) : ∃ b o, A = some ⟨b, o, none⟩ ∧ b < w.heap.size ∧ w.cell? ⟨b, o + k, none⟩ = some (.string s) := by
  obtain ⟨b, o, h1, h2, h3⟩ := h k s hk;have h4 := h3 0 (.string s) rfl;have e : o + (k * txR.size + 0) = o + k := by show o + (k * 1 + 0) = _; omega
  rw [e] at h4;exact ⟨b, o, h1, h2, h4⟩
end Go.Proofs.YtkbkdbnmpicidaaDoor.RowG
namespace Go.Proofs.YtkbkdbnmpicidaaDoor.Kn
open Go
theorem satU_run8 {Ko : World → Prop} {r : Result Unit} {v : World} (h : r = .ok () v) (H : Ko v) : Kn.SatU Ko r := by rw [h]; exact H
end Go.Proofs.YtkbkdbnmpicidaaDoor.Kn
namespace Go.Proofs.YtkbkdbnmpicidaaDoor.Blk
open Go Go.RowKit Go.Lib RowG Num
theorem elemTx8 : Own.Elem Tryd.prog 23 9 (.string ⟨#[]⟩) 1 16 := ⟨Tryd.underlying23, by kernel_rfl, rfl, by decide⟩
theorem store_tx8 (s : ByteArray) (w : World) (p : Addr) (x : Value) (h1 : w.cell? p = some x) (h2 : w.frozen? p = false) : (Instr.storeAt 9 (.pointer (some p)) (.string s)).run Tryd.prog w = .ok () (w.setCell p (.string s)) := by
  refine satU_run ?_;go_simp
def errno (c : Int) : Value := .iface 28 (.int .i64 c)
def Tells (ts : List ByteArray) (i : Int) (e : Ending) : Prop := ((i < 0 ∨ (ts.length : Int) ≤ i) ∧ e = .returned (.tuple #[.string ⟨#[]⟩, errno 9])) ∨ ∃ k s, i = ((k : Nat) : Int) ∧ ts[k]? = some s ∧ e = .returned (.tuple #[.string s, .nilIface])
def IsSrc (v : Value) (ts : List ByteArray) (B : Nat) (u : World) : Prop := ∃ f cs, v = .func (.func f) #[] (cs : List Value).toArray ∧ (∀ (args : Array Value) (w : World), (callFunc f args).run Tryd.prog w = .ok (.enter f args) w) ∧
  ∀ u', But (fun b => b < B) u u' → ∀ i : Int, Calls Tryd.prog f ([Value.int .i64 i] ++ cs).toArray u' fun e w' => Tells ts i e ∧ Below u'.heap.size u' w'
structure Aside (lo hi : Nat) (v v' : World) : Prop where
  os : v'.os = v.os
  tape : v'.tape = v.tape
  output : v'.output = v.output
  but : But (fun b => lo ≤ b ∧ b < hi) v v'
theorem Aside.of_below {lo hi : Nat} {v v' : World} (h : Below v.heap.size v v') : Aside lo hi v v' := ⟨h.os, h.tape, h.output, But.of_below h⟩
theorem Aside.refl {lo hi : Nat} (v : World) : Aside lo hi v v := .of_below (Below.refl _ _)
theorem Aside.trans {lo hi : Nat} {a b c : World} (h : Aside lo hi a b) (k : Aside lo hi b c) : Aside lo hi a c := ⟨k.os.trans h.os, k.tape.trans h.tape, k.output.trans h.output, h.but.trans k.but⟩
theorem Aside.put {lo hi : Nat} {a b : World} (h : Aside lo hi a b) (g o : Nat) (x : Value) (h1 : lo ≤ g) (h2 : g < hi) : Aside lo hi a (b.setCell ⟨g, o, none⟩ x) := h.trans ⟨rfl, rfl, rfl, (But.of_setCell b ⟨g, o, none⟩ x).mono fun b _ e => by
  subst e
  exact ⟨h1, h2⟩⟩
theorem Aside.below {B lo hi : Nat} {a b c : World} (h : Below B a b) (k : Aside lo hi b c) (hB : B ≤ lo) (hs : B ≤ a.heap.size) : Below B a c := ⟨k.os.trans h.os, k.tape.trans h.tape, k.output.trans h.output, Nat.le_trans h.size k.but.size, fun x hx => (k.but.block x (Nat.lt_of_lt_of_le hx (Nat.le_trans hs h.size)) (fun e => by omega)).trans (h.block x hx)⟩
structure Turn (X : Nat → Prop) (v v' : World) : Prop where
  os : v'.os = v.os
  tape : v'.tape = v.tape
  output : v'.output = v.output
  but : But X v v'
theorem Turn.of_below {X : Nat → Prop} {u u' : World} (h : Below u.heap.size u u') : Turn X u u' := ⟨h.os, h.tape, h.output, But.of_below h⟩
theorem Aside.turn {X : Nat → Prop} {lo hi : Nat} {v v' : World} (h : Aside lo hi v v') (hx : ∀ b, lo ≤ b → b < hi → X b) : Turn X v v' := ⟨h.os, h.tape, h.output, h.but.mono fun b _ e => hx b e.1 e.2⟩
theorem Turn.below {X : Nat → Prop} {B : Nat} {a b c : World} (h : Below B a b) (k : Turn X b c) (hX : ∀ x, X x → B ≤ x) (hs : B ≤ a.heap.size) : Below B a c := ⟨k.os.trans h.os, k.tape.trans h.tape, k.output.trans h.output, Nat.le_trans h.size k.but.size, fun x hx => (k.but.block x (Nat.lt_of_lt_of_le hx (Nat.le_trans hs h.size)) (fun e => by have := hX x e; omega)).trans (h.block x hx)⟩
theorem But.of_le {B : Nat} {u u' : World} (h : Below u.heap.size u u') : But (fun b => b < B) u u' := ⟨h.size, fun b hb _ => h.block b hb⟩
theorem empty8 : (⟨#[]⟩ : ByteArray).toList.isEmpty = true := by
  unfold ByteArray.toList ByteArray.toList.loop;simp [ByteArray.size]
end Go.Proofs.YtkbkdbnmpicidaaDoor.Blk
end
section
namespace Go.Proofs.YtkbkdbnmpicidaaDoor.Blk
open Go Go.RowKit Go.Lib
set_option maxRecDepth 100000 in
set_option maxHeartbeats 2000000 in
theorem awake8 (hcount : ∀ (n : Nat) u, n ≤ 20000 → Calls Tryd.prog 14 #[.int .i64 n] u fun e v => e = .returned (.int .i64 (cntK n : Int)) ∧ Below u.heap.size u v)
    (hsize : ∀ (n : Nat) (i : Int) u, n ≤ 20000 → -1 ≤ i → i ≤ 1000 → Calls Tryd.prog 15 #[.int .i64 n, .int .i64 i] u fun e v => e = .returned (.int .i64 (szK n i : Int)) ∧ Below u.heap.size u v)
    (w : World) : Calls Tryd.prog 6 #[] w fun e v => e = .returned (.bool true) ∧ Below w.heap.size w v := by
  refine Kn.calls Tryd.func6 rfl Tryd.ntmps6 rfl .nil fun fa0 fh0 => ?_;refine wp_seq_k fun K1 hK1 => ?_;refine wp_region_lit ?_;refine Kn.pure fh0 rfl rfl .none (Kn.ex_assign fh0 .const) fun fa1 fh1 => ?_;clear fh0 fa0;refine wpList_nil ?_;refine hK1 _ _ ?_;clear hK1 K1;have h1 := hcount 65 w (by omega);have h2 := fun u => hsize 65 1 u (by omega) (by omega) (by omega);have h3 := fun u => hsize 65 0 u (by omega) (by omega) (by omega);have e1 : ((cntK 65 : Nat) : Int) = 2 := by decide
  have e2 : ((szK 65 1 : Nat) : Int) = 1 := by decide
  have e3 : ((szK 65 0 : Nat) : Int) = 64 := by decide
  rw [e1] at h1;simp only [e2] at h2;simp only [e3] at h3;clear e1 e2 e3;refine wp_seq_k fun K2 hK2 => ?_;refine wp_region_lit ?_;refine Kn.call fh1 rfl rfl .none (Kn.ex_call fh1 (.cons .const .nil)) Tryd.call14 (h1) fun e w1 hp => ?_;obtain ⟨rfl, hb1⟩ := hp;refine ⟨_, rfl, fun fa2 fh2 => ?_⟩;clear fh1 fa1;refine Kn.step fh2 rfl rfl .none (Kn.ex_bin fh2 (.tmp rfl) .const) fun Ko hKo => ?_;go_simp;(try go_bits);refine hKo _ _ fun fa3 fh3 => ?_;clear hKo Ko fh2 fa2;refine Kn.pure fh3 rfl rfl .none (Kn.ex_move fh3 (.tmp rfl)) fun fa4 fh4 => ?_;clear fh3 fa3;refine Kn.call fh4 rfl rfl (.some rfl rfl rfl) (Kn.ex_call fh4 (.cons .const (.cons .const .nil))) Tryd.call15 (h2 w1) fun e w2 hp => ?_;obtain ⟨rfl, hb2⟩ := hp;refine ⟨_, rfl, fun fa5 fh5 => ?_⟩;clear fh4 fa4;refine Kn.step fh5 rfl rfl (.some rfl rfl rfl) (Kn.ex_bin fh5 (.tmp rfl) .const) fun Ko hKo => ?_;go_simp;(try go_bits);refine hKo _ _ fun fa6 fh6 => ?_;clear hKo Ko fh5 fa5;refine Kn.pure fh6 rfl rfl .none (Kn.ex_pick fh6 (.tmp rfl) (.tmp rfl)) fun fa7 fh7 => ?_;clear fh6 fa6;refine Kn.pure fh7 rfl rfl .none (Kn.ex_move fh7 (.tmp rfl)) fun fa8 fh8 => ?_;clear fh7 fa7;refine Kn.call fh8 rfl rfl (.some rfl rfl rfl) (Kn.ex_call fh8 (.cons .const (.cons .const .nil))) Tryd.call15 (h3 w2) fun e w3 hp => ?_;obtain ⟨rfl, hb3⟩ := hp;refine ⟨_, rfl, fun fa9 fh9 => ?_⟩;clear fh8 fa8;refine Kn.step fh9 rfl rfl (.some rfl rfl rfl) (Kn.ex_bin fh9 (.tmp rfl) .const) fun Ko hKo => ?_;go_simp;(try go_bits);refine hKo _ _ fun fa10 fh10 => ?_;clear hKo Ko fh9 fa9;refine Kn.pure fh10 rfl rfl .none (Kn.ex_pick fh10 (.tmp rfl) (.tmp rfl)) fun fa11 fh11 => ?_;clear fh10 fa10;refine Kn.pure fh11 rfl rfl .none (Kn.ex_assign fh11 (.tmp rfl)) fun fa12 fh12 => ?_;clear fh11 fa11;refine wpList_nil ?_;refine hK2 _ _ ?_;clear hK2 K2;replace fh12 := fh12.cut (.cons (t := 0) rfl .nil);refine wp_ret ?_;exact Kn.ret1 fh12 rfl rfl ⟨rfl, hb1.trans ((hb2.mono hb1.size).trans (hb3.mono (Nat.le_trans hb1.size hb2.size)))⟩
end Go.Proofs.YtkbkdbnmpicidaaDoor.Blk
end
section
namespace Go.Proofs.YtkbkdbnmpicidaaDoor.Blk
open Go Go.RowKit Go.Lib RowG Num
def Told (w0 : World) (ls : List Int) (u : World) : Prop := ∃ A cap, St.St u w0.heap.size 25 #[.slice A ls.length cap] ∧ Num.OwnI u (w0.heap.size + 1) A ls.length cap ls ∧ Below w0.heap.size w0 u
theorem Told.on {w0 u u' : World} {ls : List Int} (h : Told w0 ls u) (hb : Below u.heap.size u u') : Told w0 ls u' := by
  obtain ⟨A, cap, h1, h2, h3⟩ := h;exact ⟨A, cap, h1.on hb, h2.on hb, h3.trans (hb.mono h3.size)⟩
theorem Told.new (w0 : World) : Told w0 [] (w0.alloc (.cells #[.slice none 0 0] 25)) := ⟨none, 0, St.St.new _ _ _, Num.OwnI.none _ _, (Below.refl _ _).alloc (Nat.le_refl _) _⟩
def ToldX (w0 : World) (ls : List Int) (X : Nat → Prop) (u : World) : Prop := ∃ A cap, St.St u w0.heap.size 25 #[.slice A ls.length cap] ∧ Num.OwnI u (w0.heap.size + 1) A ls.length cap ls ∧ Below w0.heap.size w0 u ∧ ∀ b, X b → w0.heap.size < b ∧ b < u.heap.size ∧ (Value.slice A ls.length cap).ownBlock ≠ some b
theorem ToldX.turn {w0 u u' : World} {ls : List Int} {X : Nat → Prop} (h : ToldX w0 ls X u) (ht : Turn X u u') : ToldX w0 ls (fun b => X b ∨ (u.heap.size ≤ b ∧ b < u'.heap.size)) u' := by
  obtain ⟨A, cap, h1, h2, h3, h4⟩ := h;have hlt := h1.lt;refine ⟨A, cap, ht.but.st h1 (fun e => by have := (h4 _ e).1; omega), ?_, ht.below h3 (fun x e => by have := (h4 x e).1; omega) (Nat.le_refl _), fun b e => ?_⟩
  · rcases h2.2.2 with ⟨hv, hn⟩ | ⟨g, cap', cur, hv, hrest⟩
    · have : A = none ∧ ls.length = 0 ∧ cap = 0 := by injection hv with e1 e2 e3; exact ⟨e1, e2, e3⟩
      obtain ⟨rfl, h0, rfl⟩ := this;have := List.eq_nil_of_length_eq_zero h0;subst this;exact Num.OwnI.none _ _
    · have e1 : A = some ⟨g, 0, Option.none⟩ := by injection hv
      subst e1;exact ht.but.own h2 (fun e => (h4 g e).2.2 rfl)
  · rcases e with e | e
    · obtain ⟨k1, k2, k3⟩ := h4 b e;exact ⟨k1, Nat.lt_of_lt_of_le k2 ht.but.size, k3⟩
    · exact ⟨by omega, e.2, fun k => by have := (h2.2.lt b k).2; omega⟩
end Go.Proofs.YtkbkdbnmpicidaaDoor.Blk
end
section
namespace Go.Proofs.YtkbkdbnmpicidaaDoor.Blk
open Go Go.RowKit Go.Lib RowG Num
def asks (f m : Nat) : List Int := if m = 0 then [] else (List.range ((f + m - 1) / 64 - f / 64 + 1)).map fun k => ((f / 64 + k : Nat) : Int)
end Go.Proofs.YtkbkdbnmpicidaaDoor.Blk
end
section
namespace Go.Proofs.YtkbkdbnmpicidaaDoor.Blk
open Go Go.RowKit Go.Lib RowG
def BIn (w : World) (A : Option Addr) (l : List Int) : Prop := ∀ i, i < l.length → ∃ b o, A = some ⟨b, o, none⟩ ∧ b < w.heap.size ∧ w.cell? ⟨b, o + i, none⟩ = some (.int .u8 (Num.nt l i))
theorem BIn.on {w w' : World} {A : Option Addr} {l : List Int} (h : BIn w A l) (hb : Below w.heap.size w w') : BIn w' A l := fun i hi => by
  obtain ⟨b, o, e, hlt, h1⟩ := h i hi;exact ⟨b, o, e, Nat.lt_of_lt_of_le hlt hb.size, (hb.cell (p := ⟨b, o + i, none⟩) hlt).trans h1⟩
def zs (n : Nat) : ByteArray := ⟨(List.replicate n (0 : UInt8)).toArray⟩
def badK (ts : List ByteArray) (n i : Nat) : Option Int := match ts[i]? with
  | none => some 9
  | some s => if s.size = szK n (i : Int) then none else some 4
def scanK (ts : List ByteArray) (n : Nat) : Nat → Nat → Option (Nat × Int)
  | _, 0 => none
  | a, c + 1 => match badK ts n a with
    | some e => some (a, e)
    | none => scanK ts n (a + 1) c
def fault (i c : Int) : Value := .iface 49 (.agg #[.int .i64 i, errno c])
def needK (f m : Nat) : Nat := if m = 0 then 0 else (f + m - 1) / 64 - f / 64 + 1
theorem empty_of {s : ByteArray} (h : s.size = 0) : s = ⟨#[]⟩ := by
  obtain ⟨⟨l⟩⟩ := s
  cases l with
  | nil => rfl
  | cons a l => simp [ByteArray.size] at h
end Go.Proofs.YtkbkdbnmpicidaaDoor.Blk
end
section
namespace Go.Proofs.YtkbkdbnmpicidaaDoor.Blk
open Go Go.RowKit Go.Lib RowG Num
def PA (w : World) (B : Nat) (A : Option Addr) (ts : List ByteArray) (A5 : Option Addr) (n : Nat) (v : World) (u : World) : Prop := RIn txR u A ts ∧ (n = 0 ∨ ∃ g ls, A5 = some ⟨g, 0, none⟩ ∧ g < B ∧ w.heap.size ≤ g ∧ Hold txR u g ls ∧ ls.length = n) ∧ But (fun b => b < B) v u ∧ Below w.heap.size w u
set_option maxRecDepth 100000 in
set_option maxHeartbeats 8000000 in
theorem apart_all (HT : World → Prop) (hon : ∀ u v, HT u → Below u.heap.size u v → HT v)
    (hcode : ∀ (c : Int) u, HT u → Calls Tryd.prog 11 #[errno c] u fun e v => e = .returned (.int .i64 c) ∧ Below u.heap.size u v)
    (haw : ∀ u, Calls Tryd.prog 6 #[] u fun e v => e = .returned (.bool true) ∧ Below u.heap.size u v)
    (hof : ∀ (A : Option Addr) (c : Nat) (ts : List ByteArray) (u : World), ts.length ≤ 1000 → (∀ s ∈ ts, s.size ≤ 281474976710656) → RIn txR u A ts → Calls Tryd.prog 12 #[.slice A ts.length c] u fun e v => ∃ x, e = .returned x ∧ IsSrc x ts u.heap.size v ∧ Below u.heap.size u v)
    (A : Option Addr) (ca : Nat) (ts : List ByteArray) (i : Int) (w : World) (hT : HT w) (hx : ts.length ≤ maxLen) (hsm : ∀ s ∈ ts, s.size ≤ 281474976710656) (hA : RIn txR w A ts) (hi0 : -9223372036854775808 ≤ i) (hi1 : i ≤ 9223372036854775807) :
    Calls Tryd.prog 5 #[.slice A ts.length ca, .int .i64 i] w fun e w' => e = .returned (.bool true) ∧ Below w.heap.size w w' := by
  unfold maxLen at hx
  have hAlt : ∀ (j : Nat) (s : ByteArray), ts[j]? = some s → ∀ b o, A = some ⟨b, o, none⟩ → b < w.heap.size := fun j s hj b o e => by
    obtain ⟨b', o', e', hb', -⟩ := hA j s hj;rw [e] at e';cases e';exact hb'
  refine Kn.calls Tryd.func5 rfl Tryd.ntmps5 rfl (.cons (t := 0) rfl (.cons (t := 1) rfl .nil)) fun fa0 fh0 => ?_;refine wp_seq_k fun K1 hK1 => ?_;refine wp_region_lit ?_;refine Kn.pure fh0 rfl rfl .none (Kn.ex_assign fh0 .const) fun fa1 fh1 => ?_;clear fh0 fa0;refine wpList_nil ?_;refine hK1 _ _ ?_;clear hK1 K1;refine wp_seq_k fun K2 hK2 => ?_;refine wp_seq_k fun K3 hK3 => ?_;refine wp_region_lit ?_;refine Kn.call fh1 rfl rfl .none (Kn.ex_call fh1 .nil) Tryd.call6 (haw w) fun e w1 hp => ?_;obtain ⟨rfl, hb1⟩ := hp;refine ⟨_, rfl, fun fa2 fh2 => ?_⟩;clear fh1 fa1;refine Kn.step fh2 rfl rfl .none (Kn.ex_un fh2 (.tmp rfl)) fun Ko hKo => ?_;go_simp;(try go_bits);refine hKo _ _ fun fa3 fh3 => ?_;clear hKo Ko fh2 fa2;refine wpList_nil ?_;refine hK3 _ _ ?_;clear hK3 K3;replace fh3 := fh3.cut (.cons (t := 16) rfl (.cons (t := 4) rfl (.cons (t := 0) rfl (.cons (t := 1) rfl .nil))));refine Kn.no fh3 (.tmp rfl) ?_;refine wp_skip ?_;refine hK2 _ _ ?_;clear hK2 K2;replace fh3 := fh3.cut (.cons (t := 4) rfl (.cons (t := 0) rfl (.cons (t := 1) rfl .nil)));have HT1 := Lib.hid (hon _ _ hT hb1);have HT0 := Lib.hid hT;have HA1 := Lib.hid (hA.on hb1);have HB1 := Lib.hid hb1;clear hb1 hA hT
  by_cases h1 : (40 : Int) < (ts.length : Int)
  · refine wp_seq_k fun K4 hK4 => ?_;refine wp_seq_k fun K5 hK5 => ?_;refine wp_region_lit ?_;refine Kn.pure fh3 rfl rfl .none (Kn.ex_move fh3 (.tmp rfl)) fun fa4 fh4 => ?_;clear fh3 fa3;refine Kn.step fh4 rfl rfl .none (Kn.ex_len fh4 (.tmp rfl)) fun Ko hKo => ?_;go_simp;(try go_bits);refine hKo _ _ fun fa5 fh5 => ?_;clear hKo Ko fh4 fa4;refine Kn.step fh5 rfl rfl .none (Kn.ex_bin fh5 (.tmp rfl) .const) fun Ko hKo => ?_;go_simp;(try go_bits);refine hKo _ _ fun fa6 fh6 => ?_;clear hKo Ko fh5 fa5;refine wpList_nil ?_;refine hK5 _ _ ?_;clear hK5 K5;replace fh6 := fh6.cut (.cons (t := 19) rfl (.cons (t := 4) rfl (.cons (t := 0) rfl (.cons (t := 1) rfl .nil))));refine Kn.yes fh6 (.tmp rfl) ?_;replace fh6 := fh6.cut (.cons (t := 4) rfl (.cons (t := 0) rfl (.cons (t := 1) rfl .nil)));refine wp_seq_k fun K6 hK6 => ?_;refine wp_region_lit ?_;refine Kn.pure fh6 rfl rfl .none (Kn.ex_assign fh6 .const) fun fa7 fh7 => ?_;clear fh6 fa6;refine wpList_nil ?_;refine hK6 _ _ ?_;clear hK6 K6;refine wp_ret ?_;refine Kn.then_ret ?_;exact Kn.ret1 fh7 rfl rfl ⟨rfl, HB1.out⟩
  refine wp_seq_k fun K4 hK4 => ?_;refine wp_seq_k fun K5 hK5 => ?_;refine wp_region_lit ?_;refine Kn.pure fh3 rfl rfl .none (Kn.ex_move fh3 (.tmp rfl)) fun fa4 fh4 => ?_;clear fh3 fa3;refine Kn.step fh4 rfl rfl .none (Kn.ex_len fh4 (.tmp rfl)) fun Ko hKo => ?_;go_simp;(try go_bits);refine hKo _ _ fun fa5 fh5 => ?_;clear hKo Ko fh4 fa4;refine Kn.step fh5 rfl rfl .none (Kn.ex_bin fh5 (.tmp rfl) .const) fun Ko hKo => ?_;go_simp;(try go_bits);refine hKo _ _ fun fa6 fh6 => ?_;clear hKo Ko fh5 fa5;refine wpList_nil ?_;refine hK5 _ _ ?_;clear hK5 K5;replace fh6 := fh6.cut (.cons (t := 19) rfl (.cons (t := 4) rfl (.cons (t := 0) rfl (.cons (t := 1) rfl .nil))));refine Kn.no fh6 (.tmp rfl) ?_;refine wp_skip ?_;refine hK4 _ _ ?_;clear hK4 K4;replace fh6 := fh6.cut (.cons (t := 4) rfl (.cons (t := 0) rfl (.cons (t := 1) rfl .nil)));have hn40 : ts.length ≤ 40 := by omega
  clear h1 hx;have hO0 : ROwn txR 9 (w1.alloc (.cells #[] 9)) w1.heap.size (some ⟨w1.heap.size, 0, none⟩) 0 0 [] := ROwn.new (Nat.le_refl _);have hb0 : Below w1.heap.size w1 (w1.alloc (.cells #[] 9)) := (Below.refl _ w1).alloc (Nat.le_refl _) _;obtain ⟨A5, c5, w2, hrun, hO2, hb2⟩ := hO0.pushAny (P := Tryd.prog) elemTx8 23 A ca ts (HA1.out.on hb0) hb0 (by omega) (by decide);rw [Nat.zero_add] at hrun hO2;simp only [List.nil_append] at hO2;have HO2 := Lib.hid hO2;have HA2 := Lib.hid (HA1.out.on hb2);have HT2 := Lib.hid (hon _ _ HT1.out hb2);have HB2 := Lib.hid (HB1.out.trans (hb2.mono HB1.out.size));have hlt2 := hO2.at'
  have HLt2 : Hid (ts.length = 0 ∨ ∃ g, A5 = some ⟨g, 0, none⟩ ∧ w.heap.size ≤ g ∧ g < w2.heap.size) := Lib.hid (by
    rcases hlt2 with h | ⟨g, e, h1, h2⟩
    · exact .inl h
    · exact .inr ⟨g, e, Nat.le_trans HB1.out.size h1, h2⟩)
  clear hO0 hb0 hO2 hb2 HT1 HA1 HB1 hlt2;refine wp_seq_k fun K6 hK6 => ?_;refine wp_region_lit ?_;refine Kn.step fh6 rfl rfl .none (Kn.ex_buildSlice fh6 .nil) fun Ko hKo => ?_;go_simp;(try go_bits);refine hKo _ _ fun fa7 fh7 => ?_;clear hKo Ko fh6 fa6;refine Kn.pure fh7 rfl rfl .none (Kn.ex_move fh7 (.tmp rfl)) fun fa8 fh8 => ?_;clear fh7 fa7;refine Kn.known fh8 rfl rfl .none (Kn.ex_append fh8 (.cons (.tmp rfl) (.cons (.tmp rfl) .nil))) hrun fun fa9 fh9 => ?_;clear fh8 fa8;refine Kn.pure fh9 rfl rfl .none (Kn.ex_assign fh9 (.tmp rfl)) fun fa10 fh10 => ?_;clear fh9 fa9;refine wpList_nil ?_;refine hK6 _ _ ?_;clear hK6 K6;replace fh10 := fh10.cut (.cons (t := 5) rfl (.cons (t := 4) rfl (.cons (t := 0) rfl (.cons (t := 1) rfl .nil))));clear hrun;refine wp_seq_k fun K7 hK7 => ?_;refine wp_region_lit ?_;refine Kn.pure fh10 rfl rfl .none (Kn.ex_move fh10 (.tmp rfl)) fun fa11 fh11 => ?_;clear fh10 fa10;refine Kn.call fh11 rfl rfl .none (Kn.ex_call fh11 (.cons (.tmp rfl) .nil)) Tryd.call12 (hof A5 c5 ts w2 (by omega) hsm HO2.out.rin) fun e w3 hp => ?_;obtain ⟨v6, rfl, hsrc, hb3⟩ := hp;refine ⟨_, rfl, fun fa12 fh12 => ?_⟩;clear fh11 fa11;refine Kn.pure fh12 rfl rfl .none (Kn.ex_assign fh12 (.tmp rfl)) fun fa13 fh13 => ?_;clear fh12 fa12;refine wpList_nil ?_;refine hK7 _ _ ?_;clear hK7 K7;replace fh13 := fh13.cut (.cons (t := 6) rfl (.cons (t := 5) rfl (.cons (t := 4) rfl (.cons (t := 0) rfl (.cons (t := 1) rfl .nil)))));obtain ⟨fs, cs, rfl, hen, hsc⟩ := hsrc;have HSC := Lib.hid hsc
  have HP3 : Hid (PA w w2.heap.size A ts A5 ts.length w3 w3) := Lib.hid ⟨HA2.out.on hb3, by
    rcases HLt2.out with h | ⟨g, e, h1, h2⟩
    · exact .inl h
    · subst e
      exact .inr ⟨g, ts, rfl, h2, h1, (hold_of_own HO2.out).on hb3, rfl⟩, But.of_le (Below.refl _ _), HB2.out.trans (hb3.mono HB2.out.size)⟩
  clear hsc hb3 HO2 HA2 HB2 HLt2;refine wp_seq_k fun K8 hK8 => ?_;refine wp_seq_k fun K9 hK9 => ?_;refine wp_region_lit ?_;refine Kn.pure fh13 rfl rfl .none (Kn.ex_move fh13 (.tmp rfl)) fun fa14 fh14 => ?_;clear fh13 fa13;refine Kn.step fh14 rfl rfl .none (Kn.ex_len fh14 (.tmp rfl)) fun Ko hKo => ?_;go_simp;(try go_bits);refine hKo _ _ fun fa15 fh15 => ?_;clear hKo Ko fh14 fa14;refine Kn.pure fh15 rfl rfl .none (Kn.ex_move fh15 .const) fun fa16 fh16 => ?_;clear fh15 fa15;refine wpList_nil ?_;refine hK9 _ _ ?_;clear hK9 K9;replace fh16 := fh16.cut (.cons (t := 27) rfl (.cons (t := 26) rfl (.cons (t := 6) rfl (.cons (t := 5) rfl (.cons (t := 4) rfl (.cons (t := 0) rfl (.cons (t := 1) rfl .nil)))))));refine wp_block ?_;refine Kn.loop (fun m fr u => ∃ (k : Nat), Kn.Kn 97 [(27, .int .i64 (k : Int)), (26, .int .i64 (ts.length : Int)), (5, .slice A5 ts.length c5), (6, .func (.func fs) #[] cs.toArray), (0, .slice A ts.length ca), (1, .int .i64 i)] fr ∧ k + m = ts.length ∧ Hid (PA w w2.heap.size A ts A5 ts.length w3 u)) ts.length ⟨0, fh16.cut (.turn (t := 27) rfl rfl (.cons (t := 26) rfl (.cons (t := 5) rfl (.cons (t := 6) rfl (.cons (t := 0) rfl (.cons (t := 1) rfl .nil)))))), by omega, HP3⟩ ?_;clear fh16 fa16;intro m10 fa17 u hI Kl10 hKl10;obtain ⟨k, fh17, hk, HP⟩ := hI
  by_cases hlt : k < ts.length
  · obtain ⟨hA, hor, hbt, hbw⟩ := HP.out;rcases hor with h0 | ⟨g, ls, rfl, hgB, hgw, hH, hls⟩
    · omega
    obtain ⟨u2, hst, hH2, hot, hsz, hbl⟩ := hH.store1 (P := Tryd.prog) (e := 9) k (by omega) ⟨#[116, 117, 114, 110, 101, 100]⟩ (.string ⟨#[116, 117, 114, 110, 101, 100]⟩) rfl rfl (fun w p c => store_tx8 _ w p c)
    have HP2 : Hid (PA w w2.heap.size A ts (some ⟨g, 0, none⟩) ts.length w3 u2) := Lib.hid ⟨fun j s hj => by
        obtain ⟨b, o, e, hb, hc⟩ := hA j s hj
        exact ⟨b, o, e, by omega, fun q x hq => by
          have hbo : b < w.heap.size := by have := hAlt j s hj b o e; omega
          exact ((hbl _ hgw).cell (p := ⟨b, o + (j * txR.size + q), none⟩) hbo).trans (hc q x hq)⟩,
      .inr ⟨g, _, rfl, hgB, hgw, hH2, by rw [List.length_set]; exact hls⟩,
      hbt.trans ⟨Nat.le_of_eq hsz.symm, fun b _ hn => hot b (fun e => hn (by omega))⟩, hbw.trans (hbl _ hgw)⟩
    clear hA hbt hbw hH hH2 hot hbl hls;refine wp_seq_k fun K11 hK11 => ?_;refine wp_region_lit ?_;refine Kn.step fh17 rfl rfl .none (Kn.ex_bin fh17 (.tmp rfl) (.tmp rfl)) fun Ko hKo => ?_;go_simp;(try go_bits);refine hKo _ _ fun fa18 fh18 => ?_;clear hKo Ko fh17 fa17;refine wpList_nil ?_;refine hK11 _ _ ?_;clear hK11 K11;refine wp_seq_k fun K12 hK12 => ?_;refine Kn.yes fh18 (.tmp rfl) ?_;refine wp_skip ?_;refine hK12 _ _ ?_;clear hK12 K12;replace fh18 := fh18.cut (.cons (t := 27) rfl (.cons (t := 26) rfl (.cons (t := 5) rfl (.cons (t := 6) rfl (.cons (t := 0) rfl (.cons (t := 1) rfl .nil))))));refine wp_seq_k fun K13 hK13 => ?_;refine wp_block ?_;refine wp_seq_k fun K14 hK14 => ?_;refine wp_region_lit ?_;refine Kn.pure fh18 rfl rfl .none (Kn.ex_move fh18 (.tmp rfl)) fun fa19 fh19 => ?_;clear fh18 fa18;refine Kn.pure fh19 rfl rfl .none (Kn.ex_assign fh19 (.tmp rfl)) fun fa20 fh20 => ?_;clear fh19 fa19;refine wpList_nil ?_;refine hK14 _ _ ?_;clear hK14 K14;replace fh20 := fh20.cut (.cons (t := 7) rfl (.cons (t := 27) rfl (.cons (t := 26) rfl (.cons (t := 5) rfl (.cons (t := 6) rfl (.cons (t := 0) rfl (.cons (t := 1) rfl .nil)))))));refine wp_region_lit ?_;refine Kn.pure fh20 rfl rfl .none (Kn.ex_move fh20 (.tmp rfl)) fun fa21 fh21 => ?_;clear fh20 fa20;refine Kn.pure fh21 rfl rfl .none (Kn.ex_move fh21 (.tmp rfl)) fun fa22 fh22 => ?_;clear fh21 fa21;refine Kn.step fh22 rfl rfl .none (Kn.ex_indexAddr fh22 (.tmp rfl) (.tmp rfl)) fun Ko hKo => ?_;go_simp;(try go_bits);refine hKo _ _ fun fa23 fh23 => ?_;clear hKo Ko fh22 fa22;refine Kn.stepU fh23 rfl .none (Kn.ex_store fh23 (.tmp rfl) .const) fun Ko hKo => ?_;refine Kn.satU_run8 hst ?_;refine hKo _ ?_;clear hKo Ko;refine wpList_nil ?_;refine Kn.block_normal ?_;refine hK13 _ _ ?_;clear hK13 K13;replace fh23 := fh23.cut (.cons (t := 27) rfl (.cons (t := 26) rfl (.cons (t := 5) rfl (.cons (t := 6) rfl (.cons (t := 0) rfl (.cons (t := 1) rfl .nil))))));clear hst;refine wp_region_lit ?_;refine Kn.step fh23 rfl rfl .none (Kn.ex_bin fh23 (.tmp rfl) .const) fun Ko hKo => ?_;go_simp;(try go_bits);refine hKo _ _ fun fa24 fh24 => ?_;clear hKo Ko fh23 fa23;refine Kn.pure fh24 rfl rfl .none (Kn.ex_move fh24 (.tmp rfl)) fun fa25 fh25 => ?_;clear fh24 fa24;refine wpList_nil ?_;replace fh25 := fh25.cut (.cons (t := 27) rfl (.cons (t := 26) rfl (.cons (t := 5) rfl (.cons (t := 6) rfl (.cons (t := 0) rfl (.cons (t := 1) rfl .nil))))));exact hKl10 (m10 - 1) _ _ (by omega) ⟨k + 1, fh25.cut (.turn (t := 27) rfl (by go_num) (.cons (t := 26) rfl (.cons (t := 5) rfl (.cons (t := 6) rfl (.cons (t := 0) rfl (.cons (t := 1) rfl .nil)))))), by omega, HP2⟩
  clear HP3;refine wp_seq_k fun K11 hK11 => ?_;refine wp_region_lit ?_;refine Kn.step fh17 rfl rfl .none (Kn.ex_bin fh17 (.tmp rfl) (.tmp rfl)) fun Ko hKo => ?_;go_simp;(try go_bits);refine hKo _ _ fun fa18 fh18 => ?_;clear hKo Ko fh17 fa17;refine wpList_nil ?_;refine hK11 _ _ ?_;clear hK11 K11;refine wp_seq_k fun K12 hK12 => ?_;refine Kn.no fh18 (.tmp rfl) ?_;replace fh18 := fh18.cut (.cons (t := 27) rfl (.cons (t := 26) rfl (.cons (t := 5) rfl (.cons (t := 6) rfl (.cons (t := 0) rfl (.cons (t := 1) rfl .nil))))));refine wp_exit ?_;refine Kn.then_exit ?_;clear hK12 K12;refine Kn.then_exit ?_;clear hKl10 Kl10;refine Kn.block_exit ?_;refine hK8 _ _ ?_;clear hK8 K8;replace fh18 := fh18.cut (.cons (t := 6) rfl (.cons (t := 0) rfl (.cons (t := 1) rfl .nil)));have HT4 : Hid (HT u) := Lib.hid (hon _ _ HT0.out HP.out.2.2.2);have HQ0 : Hid (RIn txR u A ts ∧ But (fun b => b < w2.heap.size) w3 u ∧ Below w.heap.size w u ∧ HT u) := Lib.hid ⟨HP.out.1, HP.out.2.2.1, HP.out.2.2.2, HT4.out⟩;clear HP HT4 HT2 HT0;refine wp_seq_k fun K13 hK13 => ?_;refine wp_seq_k fun K14 hK14 => ?_;refine wp_region_lit ?_;refine Kn.pure fh18 rfl rfl .none (Kn.ex_move fh18 (.tmp rfl)) fun fa19 fh19 => ?_;clear fh18 fa18;refine Kn.step fh19 rfl rfl .none (Kn.ex_len fh19 (.tmp rfl)) fun Ko hKo => ?_;go_simp;(try go_bits);refine hKo _ _ fun fa20 fh20 => ?_;clear hKo Ko fh19 fa19;refine Kn.pure fh20 rfl rfl .none (Kn.ex_move fh20 .const) fun fa21 fh21 => ?_;clear fh20 fa20;refine wpList_nil ?_;refine hK14 _ _ ?_;clear hK14 K14;replace fh21 := fh21.cut (.cons (t := 36) rfl (.cons (t := 35) rfl (.cons (t := 6) rfl (.cons (t := 0) rfl (.cons (t := 1) rfl .nil)))));refine wp_block ?_;refine Kn.loop (fun m fr v => ∃ (j : Nat), Kn.Kn 97 [(36, .int .i64 (j : Int)), (35, .int .i64 (ts.length : Int)), (6, .func (.func fs) #[] cs.toArray), (0, .slice A ts.length ca), (1, .int .i64 i)] fr ∧ j + m = ts.length ∧ Hid (RIn txR v A ts ∧ But (fun b => b < w2.heap.size) w3 v ∧ Below w.heap.size w v ∧ HT v)) ts.length ⟨0, fh21.cut (.turn (t := 36) rfl rfl (.cons (t := 35) rfl (.cons (t := 6) rfl (.cons (t := 0) rfl (.cons (t := 1) rfl .nil))))), by omega, HQ0⟩ ?_;clear fh21 fa21;intro m15 fa22 v hI Kl15 hKl15;obtain ⟨j, fh22, hj, HQ⟩ := hI;clear HQ0
  by_cases hjl : j < ts.length
  · obtain ⟨s, hs⟩ : ∃ s, ts[j]? = some s := ⟨ts[j], List.getElem?_eq_getElem hjl⟩;have hc1 := fun u h => HSC.out u h (j : Int)
    have hc : ∀ u, But (fun b => b < w2.heap.size) w3 u → Calls Tryd.prog fs ([Value.int .i64 (j : Int)] ++ cs).toArray u fun e w' => e = .returned (.tuple #[.string s, .nilIface]) ∧ Below u.heap.size u w' := fun u h => (hc1 u h).mono fun e w' ⟨he, hb⟩ => by
      rcases he with ⟨h1, -⟩ | ⟨k2, s2, e1, e2, e3⟩
      · exfalso; omega
      · obtain rfl : k2 = j := by omega
        rw [hs] at e2;injection e2 with e2
        subst e2;exact ⟨e3, hb⟩
    have HC2 := Lib.hid hc;clear hc hc1;refine wp_seq_k fun K16 hK16 => ?_;refine wp_region_lit ?_;refine Kn.step fh22 rfl rfl .none (Kn.ex_bin fh22 (.tmp rfl) (.tmp rfl)) fun Ko hKo => ?_;go_simp;(try go_bits);refine hKo _ _ fun fa23 fh23 => ?_;clear hKo Ko fh22 fa22;refine wpList_nil ?_;refine hK16 _ _ ?_;clear hK16 K16;refine wp_seq_k fun K17 hK17 => ?_;refine Kn.yes fh23 (.tmp rfl) ?_;refine wp_skip ?_;refine hK17 _ _ ?_;clear hK17 K17;replace fh23 := fh23.cut (.cons (t := 36) rfl (.cons (t := 35) rfl (.cons (t := 6) rfl (.cons (t := 0) rfl (.cons (t := 1) rfl .nil)))));refine wp_seq_k fun K18 hK18 => ?_;refine wp_block ?_;refine wp_seq_k fun K19 hK19 => ?_;refine wp_region_lit ?_;refine Kn.pure fh23 rfl rfl .none (Kn.ex_move fh23 (.tmp rfl)) fun fa24 fh24 => ?_;clear fh23 fa23;refine Kn.pure fh24 rfl rfl .none (Kn.ex_assign fh24 (.tmp rfl)) fun fa25 fh25 => ?_;clear fh24 fa24;refine wpList_nil ?_;refine hK19 _ _ ?_;clear hK19 K19;replace fh25 := fh25.cut (.cons (t := 8) rfl (.cons (t := 36) rfl (.cons (t := 35) rfl (.cons (t := 6) rfl (.cons (t := 0) rfl (.cons (t := 1) rfl .nil))))));refine wp_seq_k fun K20 hK20 => ?_;refine wp_region_lit ?_;refine Kn.pure fh25 rfl rfl .none (Kn.ex_move fh25 (.tmp rfl)) fun fa26 fh26 => ?_;clear fh25 fa25;refine Kn.pure fh26 rfl rfl .none (Kn.ex_move fh26 (.tmp rfl)) fun fa27 fh27 => ?_;clear fh26 fa26;refine Kn.call fh27 rfl rfl .none (Kn.ex_callc fh27 (.tmp rfl) (.cons (.tmp rfl) .nil)) hen (HC2.out v HQ.out.2.1) fun e v1 hp => ?_;obtain ⟨rfl, hbv1⟩ := hp;refine ⟨_, rfl, fun fa28 fh28 => ?_⟩;clear fh27 fa27;refine Kn.pure fh28 rfl rfl .none (Kn.ex_move fh28 (.tmp rfl)) fun fa29 fh29 => ?_;clear fh28 fa28;refine Kn.pure fh29 rfl rfl .none (Kn.ex_extract fh29 (.tmp rfl) rfl) fun fa30 fh30 => ?_;clear fh29 fa29;refine Kn.pure fh30 rfl rfl .none (Kn.ex_extract fh30 (.tmp rfl) rfl) fun fa31 fh31 => ?_;clear fh30 fa30;refine Kn.pure fh31 rfl rfl .none (Kn.ex_assign fh31 (.tmp rfl)) fun fa32 fh32 => ?_;clear fh31 fa31;refine Kn.pure fh32 rfl rfl .none (Kn.ex_assign fh32 (.tmp rfl)) fun fa33 fh33 => ?_;clear fh32 fa32;refine wpList_nil ?_;refine hK20 _ _ ?_;clear hK20 K20;replace fh33 := fh33.cut (.cons (t := 10) rfl (.cons (t := 9) rfl (.cons (t := 8) rfl (.cons (t := 36) rfl (.cons (t := 35) rfl (.cons (t := 6) rfl (.cons (t := 0) rfl (.cons (t := 1) rfl .nil))))))));have HQ1 : Hid (RIn txR v1 A ts ∧ But (fun b => b < w2.heap.size) w3 v1 ∧ Below w.heap.size w v1 ∧ HT v1) := Lib.hid ⟨HQ.out.1.on hbv1, HQ.out.2.1.trans (But.of_le hbv1), HQ.out.2.2.1.trans (hbv1.mono HQ.out.2.2.1.size), hon _ _ HQ.out.2.2.2 hbv1⟩;clear hbv1 HQ;refine wp_seq_k fun K21 hK21 => ?_;refine wp_region_lit ?_;refine Kn.pure fh33 rfl rfl .none (Kn.ex_move fh33 (.tmp rfl)) fun fa34 fh34 => ?_;clear fh33 fa33;refine Kn.pure fh34 rfl rfl .none (Kn.ex_move fh34 (.tmp rfl)) fun fa35 fh35 => ?_;clear fh34 fa34;refine Kn.call fh35 rfl rfl .none (Kn.ex_callc fh35 (.tmp rfl) (.cons (.tmp rfl) .nil)) hen (HC2.out v1 HQ1.out.2.1) fun e v2 hp => ?_;obtain ⟨rfl, hbv2⟩ := hp;refine ⟨_, rfl, fun fa36 fh36 => ?_⟩;clear fh35 fa35;refine Kn.pure fh36 rfl rfl .none (Kn.ex_move fh36 (.tmp rfl)) fun fa37 fh37 => ?_;clear fh36 fa36;refine Kn.pure fh37 rfl rfl .none (Kn.ex_extract fh37 (.tmp rfl) rfl) fun fa38 fh38 => ?_;clear fh37 fa37;refine Kn.pure fh38 rfl rfl .none (Kn.ex_extract fh38 (.tmp rfl) rfl) fun fa39 fh39 => ?_;clear fh38 fa38;refine Kn.pure fh39 rfl rfl .none (Kn.ex_assign fh39 (.tmp rfl)) fun fa40 fh40 => ?_;clear fh39 fa39;refine Kn.pure fh40 rfl rfl .none (Kn.ex_assign fh40 (.tmp rfl)) fun fa41 fh41 => ?_;clear fh40 fa40;refine wpList_nil ?_;refine hK21 _ _ ?_;clear hK21 K21;replace fh41 := fh41.cut (.cons (t := 12) rfl (.cons (t := 11) rfl (.cons (t := 10) rfl (.cons (t := 9) rfl (.cons (t := 8) rfl (.cons (t := 36) rfl (.cons (t := 35) rfl (.cons (t := 6) rfl (.cons (t := 0) rfl (.cons (t := 1) rfl .nil))))))))));have HQ2 : Hid (RIn txR v2 A ts ∧ But (fun b => b < w2.heap.size) w3 v2 ∧ Below w.heap.size w v2 ∧ HT v2) := Lib.hid ⟨HQ1.out.1.on hbv2, HQ1.out.2.1.trans (But.of_le hbv2), HQ1.out.2.2.1.trans (hbv2.mono HQ1.out.2.2.1.size), hon _ _ HQ1.out.2.2.2 hbv2⟩;clear hbv2 HQ1 HC2;obtain ⟨ba, oa, rfl, -, ca1⟩ := tx_cell HQ2.out.1 hs;clear hs;refine wp_seq_k fun K22 hK22 => ?_;refine wp_region_lit ?_;refine Kn.pure fh41 rfl rfl .none (Kn.ex_move fh41 (.tmp rfl)) fun fa42 fh42 => ?_;clear fh41 fa41;refine Kn.pure fh42 rfl rfl .none (Kn.ex_move fh42 (.tmp rfl)) fun fa43 fh43 => ?_;clear fh42 fa42;refine Kn.pure fh43 rfl rfl .none (Kn.ex_move fh43 (.tmp rfl)) fun fa44 fh44 => ?_;clear fh43 fa43;refine Kn.step fh44 rfl rfl .none (Kn.ex_indexAddr fh44 (.tmp rfl) (.tmp rfl)) fun Ko hKo => ?_;go_simp;(try go_bits);refine hKo _ _ fun fa45 fh45 => ?_;clear hKo Ko fh44 fa44;refine Kn.step fh45 rfl rfl .none (Kn.ex_load fh45 (.tmp rfl)) fun Ko hKo => ?_;go_simp;(try go_bits);refine hKo _ _ fun fa46 fh46 => ?_;clear hKo Ko fh45 fa45;refine Kn.step fh46 rfl rfl .none (Kn.ex_bin fh46 (.tmp rfl) (.tmp rfl)) fun Ko hKo => ?_;go_simp;(try go_bits);refine hKo _ _ fun fa47 fh47 => ?_;clear hKo Ko fh46 fa46;refine Kn.pure fh47 rfl rfl .none (Kn.ex_move fh47 (.tmp rfl)) fun fa48 fh48 => ?_;clear fh47 fa47;refine Kn.pure fh48 rfl rfl (.some rfl rfl rfl) (Kn.ex_move fh48 (.tmp rfl)) fun fa49 fh49 => ?_;clear fh48 fa48;refine Kn.pure fh49 rfl rfl (.some rfl rfl rfl) (Kn.ex_move fh49 (.tmp rfl)) fun fa50 fh50 => ?_;clear fh49 fa49;refine Kn.pure fh50 rfl rfl (.some rfl rfl rfl) (Kn.ex_move fh50 (.tmp rfl)) fun fa51 fh51 => ?_;clear fh50 fa50;refine Kn.step fh51 rfl rfl (.some rfl rfl rfl) (Kn.ex_indexAddr fh51 (.tmp rfl) (.tmp rfl)) fun Ko hKo => ?_;go_simp;(try go_bits);refine hKo _ _ fun fa52 fh52 => ?_;clear hKo Ko fh51 fa51;refine Kn.step fh52 rfl rfl (.some rfl rfl rfl) (Kn.ex_load fh52 (.tmp rfl)) fun Ko hKo => ?_;go_simp;(try go_bits);refine hKo _ _ fun fa53 fh53 => ?_;clear hKo Ko fh52 fa52;refine Kn.step fh53 rfl rfl (.some rfl rfl rfl) (Kn.ex_bin fh53 (.tmp rfl) (.tmp rfl)) fun Ko hKo => ?_;go_simp;(try go_bits)
    refine hKo _ _ fun fa54 fh54 => ?_;clear hKo Ko fh53 fa53;refine Kn.pure fh54 rfl rfl .none (Kn.ex_pick fh54 (.tmp rfl) (.tmp rfl)) fun fa55 fh55 => ?_;clear fh54 fa54;refine Kn.pure fh55 rfl rfl .none (Kn.ex_move fh55 (.tmp rfl)) fun fa56 fh56 => ?_;clear fh55 fa55;refine Kn.pure fh56 rfl rfl (.some rfl rfl rfl) (Kn.ex_move fh56 (.tmp rfl)) fun fa57 fh57 => ?_;clear fh56 fa56;refine Kn.step fh57 rfl rfl (.some rfl rfl rfl) (Kn.ex_bin fh57 (.tmp rfl) .const) fun Ko hKo => ?_;go_simp;(try go_bits);refine hKo _ _ fun fa58 fh58 => ?_;clear hKo Ko fh57 fa57;refine Kn.pure fh58 rfl rfl .none (Kn.ex_pick fh58 (.tmp rfl) (.tmp rfl)) fun fa59 fh59 => ?_;clear fh58 fa58;refine Kn.pure fh59 rfl rfl .none (Kn.ex_move fh59 (.tmp rfl)) fun fa60 fh60 => ?_;clear fh59 fa59;refine Kn.pure fh60 rfl rfl (.some rfl rfl rfl) (Kn.ex_move fh60 (.tmp rfl)) fun fa61 fh61 => ?_;clear fh60 fa60;refine Kn.step fh61 rfl rfl (.some rfl rfl rfl) (Kn.ex_bin fh61 (.tmp rfl) .const) fun Ko hKo => ?_;go_simp;(try go_bits);refine hKo _ _ fun fa62 fh62 => ?_;clear hKo Ko fh61 fa61;refine Kn.pure fh62 rfl rfl .none (Kn.ex_pick fh62 (.tmp rfl) (.tmp rfl)) fun fa63 fh63 => ?_;clear fh62 fa62;refine wpList_nil ?_;refine hK22 _ _ ?_;clear hK22 K22;replace fh63 := fh63.cut (.cons (t := 72) rfl (.cons (t := 36) rfl (.cons (t := 35) rfl (.cons (t := 6) rfl (.cons (t := 0) rfl (.cons (t := 1) rfl .nil))))));refine Kn.no fh63 (.tmp rfl) ?_;refine wp_skip ?_;refine Kn.block_normal ?_;refine hK18 _ _ ?_;clear hK18 K18;replace fh63 := fh63.cut (.cons (t := 36) rfl (.cons (t := 35) rfl (.cons (t := 6) rfl (.cons (t := 0) rfl (.cons (t := 1) rfl .nil)))));clear ca1;refine wp_region_lit ?_;refine Kn.step fh63 rfl rfl .none (Kn.ex_bin fh63 (.tmp rfl) .const) fun Ko hKo => ?_;go_simp;(try go_bits);refine hKo _ _ fun fa64 fh64 => ?_;clear hKo Ko fh63 fa63;refine Kn.pure fh64 rfl rfl .none (Kn.ex_move fh64 (.tmp rfl)) fun fa65 fh65 => ?_;clear fh64 fa64;refine wpList_nil ?_;replace fh65 := fh65.cut (.cons (t := 36) rfl (.cons (t := 35) rfl (.cons (t := 6) rfl (.cons (t := 0) rfl (.cons (t := 1) rfl .nil)))));exact hKl15 (m15 - 1) _ _ (by omega) ⟨j + 1, fh65.cut (.turn (t := 36) rfl (by go_num) (.cons (t := 35) rfl (.cons (t := 6) rfl (.cons (t := 0) rfl (.cons (t := 1) rfl .nil))))), by omega, HQ2⟩
  refine wp_seq_k fun K16 hK16 => ?_;refine wp_region_lit ?_;refine Kn.step fh22 rfl rfl .none (Kn.ex_bin fh22 (.tmp rfl) (.tmp rfl)) fun Ko hKo => ?_;go_simp;(try go_bits);refine hKo _ _ fun fa23 fh23 => ?_;clear hKo Ko fh22 fa22;refine wpList_nil ?_;refine hK16 _ _ ?_;clear hK16 K16;refine wp_seq_k fun K17 hK17 => ?_;refine Kn.no fh23 (.tmp rfl) ?_;replace fh23 := fh23.cut (.cons (t := 36) rfl (.cons (t := 35) rfl (.cons (t := 6) rfl (.cons (t := 0) rfl (.cons (t := 1) rfl .nil)))));refine wp_exit ?_;refine Kn.then_exit ?_;clear hK17 K17;refine Kn.then_exit ?_;clear hKl15 Kl15;refine Kn.block_exit ?_;refine hK13 _ _ ?_;clear hK13 K13;replace fh23 := fh23.cut (.cons (t := 6) rfl (.cons (t := 0) rfl (.cons (t := 1) rfl .nil)));have hc := HSC.out v HQ.out.2.1 i
  by_cases hin : 0 ≤ i ∧ i < (ts.length : Int)
  · have hc2 : Calls Tryd.prog fs ([Value.int .i64 i] ++ cs).toArray v fun e w' => ∃ s, e = .returned (.tuple #[.string s, .nilIface]) ∧ Below v.heap.size v w' := hc.mono fun e w' ⟨he, hb⟩ => by
      rcases he with ⟨h1, -⟩ | ⟨k2, s2, -, -, e3⟩
      · exfalso; omega
      · exact ⟨s2, e3, hb⟩
    have q1 := hin.1;have q2 := hin.2;clear hc hin;refine wp_seq_k fun K18 hK18 => ?_;refine wp_region_lit ?_;refine Kn.pure fh23 rfl rfl .none (Kn.ex_move fh23 (.tmp rfl)) fun fa24 fh24 => ?_;clear fh23 fa23;refine Kn.pure fh24 rfl rfl .none (Kn.ex_move fh24 (.tmp rfl)) fun fa25 fh25 => ?_;clear fh24 fa24;refine Kn.call fh25 rfl rfl .none (Kn.ex_callc fh25 (.tmp rfl) (.cons (.tmp rfl) .nil)) hen (hc2) fun e v1 hp => ?_;obtain ⟨s, rfl, hbv1⟩ := hp;refine ⟨_, rfl, fun fa26 fh26 => ?_⟩;clear fh25 fa25;refine Kn.pure fh26 rfl rfl .none (Kn.ex_move fh26 (.tmp rfl)) fun fa27 fh27 => ?_;clear fh26 fa26;refine Kn.pure fh27 rfl rfl .none (Kn.ex_extract fh27 (.tmp rfl) rfl) fun fa28 fh28 => ?_;clear fh27 fa27;refine Kn.pure fh28 rfl rfl .none (Kn.ex_extract fh28 (.tmp rfl) rfl) fun fa29 fh29 => ?_;clear fh28 fa28;refine Kn.pure fh29 rfl rfl .none (Kn.ex_assign fh29 (.tmp rfl)) fun fa30 fh30 => ?_;clear fh29 fa29;refine Kn.pure fh30 rfl rfl .none (Kn.ex_assign fh30 (.tmp rfl)) fun fa31 fh31 => ?_;clear fh30 fa30;refine wpList_nil ?_;refine hK18 _ _ ?_;clear hK18 K18;replace fh31 := fh31.cut (.cons (t := 14) rfl (.cons (t := 13) rfl (.cons (t := 0) rfl (.cons (t := 1) rfl .nil))));refine wp_seq_k fun K19 hK19 => ?_;refine wp_region_lit ?_;refine Kn.pure fh31 rfl rfl .none (Kn.ex_move fh31 (.tmp rfl)) fun fa32 fh32 => ?_;clear fh31 fa31;refine Kn.step fh32 rfl rfl .none (Kn.ex_bin fh32 (.tmp rfl) .const) fun Ko hKo => ?_;go_simp;(try go_bits);refine hKo _ _ fun fa33 fh33 => ?_;clear hKo Ko fh32 fa32;refine Kn.pure fh33 rfl rfl .none (Kn.ex_move fh33 (.tmp rfl)) fun fa34 fh34 => ?_;clear fh33 fa33;refine Kn.pure fh34 rfl rfl (.some rfl rfl rfl) (Kn.ex_move fh34 (.tmp rfl)) fun fa35 fh35 => ?_;clear fh34 fa34;refine Kn.pure fh35 rfl rfl (.some rfl rfl rfl) (Kn.ex_move fh35 (.tmp rfl)) fun fa36 fh36 => ?_;clear fh35 fa35;refine Kn.step fh36 rfl rfl (.some rfl rfl rfl) (Kn.ex_len fh36 (.tmp rfl)) fun Ko hKo => ?_;go_simp;(try go_bits);refine hKo _ _ fun fa37 fh37 => ?_;clear hKo Ko fh36 fa36;refine Kn.step fh37 rfl rfl (.some rfl rfl rfl) (Kn.ex_bin fh37 (.tmp rfl) (.tmp rfl)) fun Ko hKo => ?_;go_simp;(try go_bits);refine hKo _ _ fun fa38 fh38 => ?_;clear hKo Ko fh37 fa37;refine Kn.pure fh38 rfl rfl .none (Kn.ex_pick fh38 (.tmp rfl) (.tmp rfl)) fun fa39 fh39 => ?_;clear fh38 fa38;refine Kn.pure fh39 rfl rfl .none (Kn.ex_move fh39 (.tmp rfl)) fun fa40 fh40 => ?_;clear fh39 fa39;refine Kn.skip fh40 rfl rfl (.some rfl rfl rfl) fun fa41 fh41 => ?_;clear fh40 fa40;refine Kn.skip fh41 rfl rfl (.some rfl rfl rfl) fun fa42 fh42 => ?_;clear fh41 fa41;refine Kn.skip fh42 rfl rfl (.some rfl rfl rfl) fun fa43 fh43 => ?_;clear fh42 fa42;refine Kn.skip fh43 rfl rfl (.gone rfl rfl) fun fa44 fh44 => ?_;clear fh43 fa43;refine Kn.skip fh44 rfl rfl (.gone rfl rfl) fun fa45 fh45 => ?_;clear fh44 fa44;refine Kn.skip fh45 rfl rfl (.gone rfl rfl) fun fa46 fh46 => ?_;clear fh45 fa45;refine Kn.skip fh46 rfl rfl (.some rfl rfl rfl) fun fa47 fh47 => ?_;clear fh46 fa46;refine Kn.pure fh47 rfl rfl .none (Kn.ex_pick fh47 (.tmp rfl) .const) fun fa48 fh48 => ?_;clear fh47 fa47;refine Kn.pure fh48 rfl rfl .none (Kn.ex_assign fh48 (.tmp rfl)) fun fa49 fh49 => ?_;clear fh48 fa48;refine wpList_nil ?_;refine hK19 _ _ ?_;clear hK19 K19;replace fh49 := fh49.cut (.cons (t := 4) rfl .nil);refine wp_ret ?_;exact Kn.ret1 fh49 rfl rfl ⟨rfl, HQ.out.2.2.1.trans (hbv1.mono HQ.out.2.2.1.size)⟩
  have hc2 : Calls Tryd.prog fs ([Value.int .i64 i] ++ cs).toArray v fun e w' => e = .returned (.tuple #[.string ⟨#[]⟩, .iface 28 (.int .i64 9)]) ∧ Below v.heap.size v w' := hc.mono fun e w' ⟨he, hb⟩ => by
    rcases he with ⟨-, h2⟩ | ⟨k2, s2, e1, e2, -⟩
    · exact ⟨h2, hb⟩
    · exfalso; have := (List.getElem?_eq_some_iff.1 e2).1; omega
  have qe := empty8;clear hc;refine wp_seq_k fun K18 hK18 => ?_;refine wp_region_lit ?_;refine Kn.pure fh23 rfl rfl .none (Kn.ex_move fh23 (.tmp rfl)) fun fa24 fh24 => ?_;clear fh23 fa23;refine Kn.pure fh24 rfl rfl .none (Kn.ex_move fh24 (.tmp rfl)) fun fa25 fh25 => ?_;clear fh24 fa24;refine Kn.call fh25 rfl rfl .none (Kn.ex_callc fh25 (.tmp rfl) (.cons (.tmp rfl) .nil)) hen (hc2) fun e v1 hp => ?_;obtain ⟨rfl, hbv1⟩ := hp;refine ⟨_, rfl, fun fa26 fh26 => ?_⟩;clear fh25 fa25;refine Kn.pure fh26 rfl rfl .none (Kn.ex_move fh26 (.tmp rfl)) fun fa27 fh27 => ?_;clear fh26 fa26;refine Kn.pure fh27 rfl rfl .none (Kn.ex_extract fh27 (.tmp rfl) rfl) fun fa28 fh28 => ?_;clear fh27 fa27;refine Kn.pure fh28 rfl rfl .none (Kn.ex_extract fh28 (.tmp rfl) rfl) fun fa29 fh29 => ?_;clear fh28 fa28;refine Kn.pure fh29 rfl rfl .none (Kn.ex_assign fh29 (.tmp rfl)) fun fa30 fh30 => ?_;clear fh29 fa29;refine Kn.pure fh30 rfl rfl .none (Kn.ex_assign fh30 (.tmp rfl)) fun fa31 fh31 => ?_;clear fh30 fa30;refine wpList_nil ?_;refine hK18 _ _ ?_;clear hK18 K18;replace fh31 := fh31.cut (.cons (t := 14) rfl (.cons (t := 13) rfl (.cons (t := 0) rfl (.cons (t := 1) rfl .nil))));have hcd := hcode 9 v1 (hon _ _ HQ.out.2.2.2 hbv1);unfold errno at hcd
  by_cases h0 : 0 ≤ i
  · have q2 : ¬ i < (ts.length : Int) := by omega
    refine wp_seq_k fun K19 hK19 => ?_;refine wp_region_lit ?_;refine Kn.pure fh31 rfl rfl .none (Kn.ex_move fh31 (.tmp rfl)) fun fa32 fh32 => ?_;clear fh31 fa31;refine Kn.step fh32 rfl rfl .none (Kn.ex_bin fh32 (.tmp rfl) .const) fun Ko hKo => ?_;go_simp;(try go_bits);refine hKo _ _ fun fa33 fh33 => ?_;clear hKo Ko fh32 fa32;refine Kn.pure fh33 rfl rfl .none (Kn.ex_move fh33 (.tmp rfl)) fun fa34 fh34 => ?_;clear fh33 fa33;refine Kn.pure fh34 rfl rfl (.some rfl rfl rfl) (Kn.ex_move fh34 (.tmp rfl)) fun fa35 fh35 => ?_;clear fh34 fa34;refine Kn.pure fh35 rfl rfl (.some rfl rfl rfl) (Kn.ex_move fh35 (.tmp rfl)) fun fa36 fh36 => ?_;clear fh35 fa35;refine Kn.step fh36 rfl rfl (.some rfl rfl rfl) (Kn.ex_len fh36 (.tmp rfl)) fun Ko hKo => ?_;go_simp;(try go_bits);refine hKo _ _ fun fa37 fh37 => ?_;clear hKo Ko fh36 fa36;refine Kn.step fh37 rfl rfl (.some rfl rfl rfl) (Kn.ex_bin fh37 (.tmp rfl) (.tmp rfl)) fun Ko hKo => ?_;go_simp;(try go_bits);refine hKo _ _ fun fa38 fh38 => ?_;clear hKo Ko fh37 fa37;refine Kn.pure fh38 rfl rfl .none (Kn.ex_pick fh38 (.tmp rfl) (.tmp rfl)) fun fa39 fh39 => ?_;clear fh38 fa38;refine Kn.pure fh39 rfl rfl .none (Kn.ex_move fh39 (.tmp rfl)) fun fa40 fh40 => ?_;clear fh39 fa39;refine Kn.pure fh40 rfl rfl (.some rfl rfl rfl) (Kn.ex_move fh40 (.tmp rfl)) fun fa41 fh41 => ?_;clear fh40 fa40;refine Kn.step fh41 rfl rfl (.some rfl rfl rfl) (Kn.ex_bin fh41 (.tmp rfl) .const) fun Ko hKo => ?_;go_simp;(try go_bits);refine hKo _ _ fun fa42 fh42 => ?_;clear hKo Ko fh41 fa41;refine Kn.pure fh42 rfl rfl (.some rfl rfl rfl) (Kn.ex_move fh42 (.tmp rfl)) fun fa43 fh43 => ?_;clear fh42 fa42;refine Kn.pure fh43 rfl rfl (.some rfl rfl rfl) (Kn.ex_move fh43 (.tmp rfl)) fun fa44 fh44 => ?_;clear fh43 fa43;refine Kn.call fh44 rfl rfl (.some rfl rfl rfl) (Kn.ex_call fh44 (.cons (.tmp rfl) .nil)) Tryd.call11 (hcd) fun e v2 hp => ?_;obtain ⟨rfl, hbv2⟩ := hp;refine ⟨_, rfl, fun fa45 fh45 => ?_⟩;clear fh44 fa44;refine Kn.step fh45 rfl rfl (.some rfl rfl rfl) (Kn.ex_bin fh45 (.tmp rfl) .const) fun Ko hKo => ?_;go_simp;(try go_bits);refine hKo _ _ fun fa46 fh46 => ?_;clear hKo Ko fh45 fa45;refine Kn.pure fh46 rfl rfl (.some rfl rfl rfl) (Kn.ex_pick fh46 (.tmp rfl) (.tmp rfl)) fun fa47 fh47 => ?_;clear fh46 fa46;refine Kn.pure fh47 rfl rfl .none (Kn.ex_pick fh47 (.tmp rfl) (.tmp rfl)) fun fa48 fh48 => ?_;clear fh47 fa47;refine Kn.pure fh48 rfl rfl .none (Kn.ex_assign fh48 (.tmp rfl)) fun fa49 fh49 => ?_;clear fh48 fa48;refine wpList_nil ?_;refine hK19 _ _ ?_;clear hK19 K19;replace fh49 := fh49.cut (.cons (t := 4) rfl .nil);refine wp_ret ?_;exact Kn.ret1 fh49 rfl rfl ⟨by simp, HQ.out.2.2.1.trans ((hbv1.trans (hbv2.mono hbv1.size)).mono HQ.out.2.2.1.size)⟩
  refine wp_seq_k fun K19 hK19 => ?_;refine wp_region_lit ?_;refine Kn.pure fh31 rfl rfl .none (Kn.ex_move fh31 (.tmp rfl)) fun fa32 fh32 => ?_;clear fh31 fa31;refine Kn.step fh32 rfl rfl .none (Kn.ex_bin fh32 (.tmp rfl) .const) fun Ko hKo => ?_;go_simp;(try go_bits);refine hKo _ _ fun fa33 fh33 => ?_;clear hKo Ko fh32 fa32;refine Kn.pure fh33 rfl rfl .none (Kn.ex_move fh33 (.tmp rfl)) fun fa34 fh34 => ?_;clear fh33 fa33;refine Kn.skip fh34 rfl rfl (.some rfl rfl rfl) fun fa35 fh35 => ?_;clear fh34 fa34;refine Kn.skip fh35 rfl rfl (.some rfl rfl rfl) fun fa36 fh36 => ?_;clear fh35 fa35;refine Kn.skip fh36 rfl rfl (.some rfl rfl rfl) fun fa37 fh37 => ?_;clear fh36 fa36;refine Kn.skip fh37 rfl rfl (.some rfl rfl rfl) fun fa38 fh38 => ?_;clear fh37 fa37;refine Kn.pure fh38 rfl rfl .none (Kn.ex_pick fh38 (.tmp rfl) .const) fun fa39 fh39 => ?_;clear fh38 fa38;refine Kn.pure fh39 rfl rfl .none (Kn.ex_move fh39 (.tmp rfl)) fun fa40 fh40 => ?_;clear fh39 fa39;refine Kn.pure fh40 rfl rfl (.some rfl rfl rfl) (Kn.ex_move fh40 (.tmp rfl)) fun fa41 fh41 => ?_;clear fh40 fa40;refine Kn.step fh41 rfl rfl (.some rfl rfl rfl) (Kn.ex_bin fh41 (.tmp rfl) .const) fun Ko hKo => ?_;go_simp;(try go_bits);refine hKo _ _ fun fa42 fh42 => ?_;clear hKo Ko fh41 fa41;refine Kn.pure fh42 rfl rfl (.some rfl rfl rfl) (Kn.ex_move fh42 (.tmp rfl)) fun fa43 fh43 => ?_;clear fh42 fa42;refine Kn.pure fh43 rfl rfl (.some rfl rfl rfl) (Kn.ex_move fh43 (.tmp rfl)) fun fa44 fh44 => ?_;clear fh43 fa43;refine Kn.call fh44 rfl rfl (.some rfl rfl rfl) (Kn.ex_call fh44 (.cons (.tmp rfl) .nil)) Tryd.call11 (hcd) fun e v2 hp => ?_;obtain ⟨rfl, hbv2⟩ := hp;refine ⟨_, rfl, fun fa45 fh45 => ?_⟩;clear fh44 fa44;refine Kn.step fh45 rfl rfl (.some rfl rfl rfl) (Kn.ex_bin fh45 (.tmp rfl) .const) fun Ko hKo => ?_;go_simp;(try go_bits);refine hKo _ _ fun fa46 fh46 => ?_;clear hKo Ko fh45 fa45;refine Kn.pure fh46 rfl rfl (.some rfl rfl rfl) (Kn.ex_pick fh46 (.tmp rfl) (.tmp rfl)) fun fa47 fh47 => ?_;clear fh46 fa46;refine Kn.pure fh47 rfl rfl .none (Kn.ex_pick fh47 (.tmp rfl) (.tmp rfl)) fun fa48 fh48 => ?_;clear fh47 fa47;refine Kn.pure fh48 rfl rfl .none (Kn.ex_assign fh48 (.tmp rfl)) fun fa49 fh49 => ?_;clear fh48 fa48;refine wpList_nil ?_;refine hK19 _ _ ?_;clear hK19 K19;replace fh49 := fh49.cut (.cons (t := 4) rfl .nil);refine wp_ret ?_;exact Kn.ret1 fh49 rfl rfl ⟨by simp, HQ.out.2.2.1.trans ((hbv1.trans (hbv2.mono hbv1.size)).mono HQ.out.2.2.1.size)⟩
end Go.Proofs.YtkbkdbnmpicidaaDoor.Blk
end
section
namespace Go.Proofs.YtkbkdbnmpicidaaDoor.Blk
open Go Go.RowKit Go.Lib RowG
def upK (a c : Nat) : List Int := (List.range c).map fun k => ((a + k : Nat) : Int)
def textK (ts : List ByteArray) (f m : Nat) : ByteArray := (catK ((ts.drop (f / 64)).take (needK f m))).extract (f - 64 * (f / 64)) (f - 64 * (f / 64) + m)
theorem bad_cut {s : ByteArray} {i : Nat} (h : i < cntK s.size) : badK (cutK s) s.size i = none := by
  unfold badK;rw [cutK_at h];simp only [blkK_size h, if_true]
theorem scan_cut {s : ByteArray} : ∀ (c a : Nat), a + c ≤ cntK s.size → scanK (cutK s) s.size a c = none
  | 0, _, _ => rfl
  | c + 1, a, h => by
    rw [scanK, bad_cut (by omega)];exact scan_cut c (a + 1) (by omega)
theorem catK_drop {l : List ByteArray} {a c : Nat} {s : ByteArray} (h : l[a + c]? = some s) : catK ((l.drop a).take c) ++ s = catK ((l.drop a).take (c + 1)) := catK_take (by rw [List.getElem?_drop]; exact h)
theorem cat_cut {s : ByteArray} (a : Nat) : ∀ (c : Nat), a + c ≤ cntK s.size → catK (((cutK s).drop a).take c) = s.extract (min s.size (64 * a)) (min s.size (64 * (a + c)))
  | 0, h => by
    rw [List.take_zero];show (⟨#[]⟩ : ByteArray) = _
    symm
    apply empty_of
    rw [ByteArray.size_extract];simp
  | c + 1, h => by
    rw [← catK_drop (cutK_at (by omega)), cat_cut a c (by omega), blkK, ByteArray.extract_append_extract];rw [Nat.min_eq_left (by omega), Nat.max_eq_right (by omega)]
    rfl
theorem need_le {n f m : Nat} (h : f + m ≤ n) : f / 64 + needK f m ≤ cntK n ∨ m = 0 := by
  unfold needK cntK
  by_cases hm : m = 0
  · exact .inr hm
  · rw [if_neg hm]
    left
    omega
theorem scan_whole {s : ByteArray} {f m : Nat} (h : f + m ≤ s.size) : scanK (cutK s) s.size (f / 64) (needK f m) = none := by
  rcases need_le h with h1 | h1
  · exact scan_cut _ _ h1
  · subst h1
    rfl
theorem extract_in (s : ByteArray) (a b c d : Nat) (hb : b ≤ s.size) (hd : a + d ≤ b) : (s.extract a b).extract c d = s.extract (a + c) (a + d) := by
  apply ByteArray.ext
  rw [ByteArray.data_extract, ByteArray.data_extract, ByteArray.data_extract, Array.extract_extract]
  congr 1
  omega
theorem text_whole {s : ByteArray} {f m : Nat} (h : f + m ≤ s.size) : textK (cutK s) f m = s.extract f (f + m) := by
  unfold textK
  by_cases hm : m = 0
  · subst hm;rw [Nat.add_zero, Nat.add_zero, empty_of (s := s.extract f f) (by rw [ByteArray.size_extract]; omega)]
    apply empty_of
    rw [ByteArray.size_extract];omega
  · have h1 := (need_le h).resolve_right hm;rw [cat_cut _ _ h1, Nat.min_eq_right (by omega)];rw [extract_in _ _ _ _ _ (Nat.min_le_left _ _) (by unfold needK; rw [if_neg hm]; omega)]
    congr 1 <;> omega
end Go.Proofs.YtkbkdbnmpicidaaDoor.Blk
end
section
namespace Go.Proofs.YtkbkdbnmpicidaaDoor.Blk
open Go Go.RowKit Go.Lib RowG
def Read8 (ts : List ByteArray) (n f m : Nat) (J : List Int → World → Prop) (e : Ending) (v : World) : Prop := match scanK ts n (f / 64) (needK f m) with
  | some (i, c) => e = .returned (.tuple #[.string ⟨#[]⟩, fault i c]) ∧ ∃ ls, J ls v
  | none => e = .returned (.tuple #[.string (textK ts f m), .nilIface]) ∧ J (upK (f / 64) (needK f m)) v
theorem asks_up (f m : Nat) : asks f m = upK (f / 64) (needK f m) := by
  unfold asks needK upK
  split <;> simp
theorem Read8.whole {s : ByteArray} {f m : Nat} {J : List Int → World → Prop} {e : Ending} {v : World} (hfm : f + m ≤ s.size) (h : Read8 (cutK s) s.size f m J e v) : e = .returned (.tuple #[.string (s.extract f (f + m)), .nilIface]) ∧ J (asks f m) v := by
  unfold Read8 at h;rw [scan_whole hfm, text_whole hfm] at h;rw [asks_up];exact h
end Go.Proofs.YtkbkdbnmpicidaaDoor.Blk
end
section
namespace Go.Proofs.YtkbkdbnmpicidaaDoor.Kd
open Go
def find : List (Nat × Value) → Nat → Option Value
  | [], _ => none
  | (k, v) :: l, t => bif Nat.beq k t then some v else find l t
def nth : List Value → Nat → Option Value
  | [], _ => none
  | v :: l, t => match t with
    | 0 => some v
    | t + 1 => nth l t
theorem nth_eq : ∀ (l : List Value) (t : Nat), nth l t = l[t]?
  | [], t => by simp [nth]
  | v :: l, 0 => by simp [nth]
  | v :: l, t + 1 => by simp [nth, nth_eq l t]
structure Kn (D : List Deferred) (n : Nat) (l : List (Nat × Value)) (a : Act) : Prop where
  defers : a.defers = D
  size : a.tmps.size = n
  get : ∀ t v, find l t = some v → a.eval (.tmp t) = v
inductive Val (l : List (Nat × Value)) : Operand → Value → Prop
  | tmp {t : Tmp} {v : Value} (h : find l t = some v) : Val l (.tmp t) v
  | const {v : Value} : Val l (.const v) v
  | global {g : Nat} : Val l (.global g) (.pointer (some ⟨g, 0, none⟩))
  | func {f : FuncId} : Val l (.func f) (.func (.func f) #[] #[])
inductive Vals (l : List (Nat × Value)) : List Operand → List Value → Prop
  | nil : Vals l [] []
  | cons {x : Operand} {v : Value} {xs : List Operand} {vs : List Value} (h : Val l x v) (t : Vals l xs vs) : Vals l (x :: xs) (v :: vs)
inductive Wants (ops : Array Oper) (l : List (Nat × Value)) : Option (Nat × Bool) → Bool → Prop
  | none : Wants ops l none true
  | some {j : Nat} {b c r : Bool} {d : Tmp} (h : (ops[j]?).bind (·.dst) = some d) (hv : find l d = some (.bool c)) (hr : (c == b) = r) : Wants ops l (some (j, b)) r
  | gone {j : Nat} {b : Bool} {d : Tmp} (h : (ops[j]?).bind (·.dst) = some d) (hv : find l d = some undef) : Wants ops l (some (j, b)) false
theorem beq_no {i j : Nat} (h : i ≠ j) : Nat.beq i j = false := by
  cases e : Nat.beq i j with
  | true => exact absurd (Nat.eq_of_beq_eq_true e) h
  | false => rfl
section
variable {P : Program} {D : List Deferred} {n : Nat} {l : List (Nat × Value)} {a : Act} {ops : Array Oper} {Q : Exit → Act → World → Prop} {w : World} {rest : List Oper}
theorem Kn.val (h : Kn D n l a) {x : Operand} {v : Value} (hv : Val l x v) : a.eval x = v := by
  cases hv with
  | tmp ht => exact h.get _ _ ht
  | const => rfl
  | global => rfl
  | func => rfl
theorem Kn.vals (h : Kn D n l a) {xs : List Operand} {vs : List Value} (hv : Vals l xs vs) : xs.toArray.map a.eval = vs.toArray := by
  have : xs.map a.eval = vs := by
    induction hv with
    | nil => rfl
    | cons h1 _ ih => rw [List.map_cons, h.val h1, ih]
  rw [List.map_toArray, this]
theorem Kn.put (h : Kn D n l a) {d : Tmp} (hd : Nat.blt d n = true) (v : Value) : Kn D n ((d, v) :: l) (a.put (some d) v) := by
  have hd' : d < a.tmps.size := by rw [h.size]; exact Nat.le_of_ble_eq_true hd
  refine ⟨h.defers, by simp [Act.put, h.size], fun t u hu => ?_⟩
  by_cases e : d = t
  · subst e;rw [find, Nat.beq_refl] at hu;simp at hu;subst hu;simp [Act.put, Act.eval, hd']
  · rw [find, beq_no e] at hu;have := h.get t u (by simpa using hu);rw [← this];simp only [Act.put, Act.eval];rw [Array.getD_eq_getD_getElem?, Array.getD_eq_getD_getElem?, Array.getElem?_setIfInBounds_ne e]
theorem Kn.wants (h : Kn D n l a) {o : Oper} {r : Bool} (hw : Wants ops l o.guard r) : Region.wanted o (yielded ops a.tmps) = r := by
  unfold Region.wanted;generalize o.guard = g at hw
  cases hw with
  | none => rfl
  | @some j b c r d hj hv hr =>
    have h1 := h.get _ _ hv
    have h2 : a.tmps[d]? = some (.bool c) := by
      simp only [Act.eval] at h1;rw [Array.getD_eq_getD_getElem?] at h1
      cases e : a.tmps[d]? with
      | none => rw [e] at h1; simp [undef] at h1
      | some u => rw [e] at h1; simp at h1; rw [h1]
    simp only [yielded, hj, Option.bind_some, h2];rw [← hr];cases c <;> cases b <;> rfl
  | @gone j b d hj hv =>
    have h1 := h.get _ _ hv
    have h2 : ∀ c, a.tmps[d]? ≠ some (.bool c) := fun c e => by
      simp only [Act.eval] at h1;rw [Array.getD_eq_getD_getElem?, e] at h1;simp [undef] at h1
    simp only [yielded, hj, Option.bind_some]
    cases e : a.tmps[d]? with
    | none => rfl
    | some u => cases u <;> first | rfl | exact absurd e (h2 _)
theorem Kn.more (h : Kn D n l a) {t : Tmp} {v : Value} (hv : a.eval (.tmp t) = v) : Kn D n ((t, v) :: l) a := by
  refine ⟨h.defers, h.size, fun s u hu => ?_⟩;rw [find] at hu
  by_cases e : t = s
  · subst e;rw [Nat.beq_refl] at hu;simp at hu;rw [hv, hu]
  · rw [beq_no e] at hu;exact h.get _ _ (by simpa using hu)
theorem Kn.nil (hd : a.defers = D) (hs : a.tmps.size = n) : Kn D n [] a := ⟨hd, hs, fun t v h => by simp [find] at h⟩
def Sat (K : Value → World → Prop) : Result Value → Prop
  | .ok v w => K v w
  | .halt _ _ => False
@[go_sem] theorem sat_ok (K : Value → World → Prop) (v : Value) (w : World) : Sat K (.ok v w) = K v w := rfl
def SatU (K : World → Prop) : Result Unit → Prop
  | .ok _ w => K w
  | .halt _ _ => False
@[go_sem] theorem satU_ok (K : World → Prop) (v : Unit) (w : World) : SatU K (.ok v w) = K w := rfl
abbrev vl (s : Sem Value) : Sem Next := do pure (.value (← s))
abbrev ul (s : Sem Unit) : Sem Next := do s; pure .skip
section exec
variable {d : Option Tmp} {t : TypeId} {p : String} {af : Array Edge} {g : Option (Nat × Bool)} {x y z : Operand} {vx vy vz : Value}
theorem ex_move (h : Kn D n l a) (hx : Val l x vx) : execOp a.eval ⟨d, .move x, t, p, af, g⟩ = vl (pure vx) := by simp only [execOp, h.val hx]; rfl
theorem ex_assign (h : Kn D n l a) (hx : Val l x vx) : execOp a.eval ⟨d, .assign x, t, p, af, g⟩ = vl (pure vx) := by simp only [execOp, h.val hx]; rfl
theorem ex_pick {c : Operand} {b : Bool} {v : Value} (h : Kn D n l a) (hc : Val l c (.bool b)) (hv : Val l (if b then x else y) v) : execOp a.eval ⟨d, .pick c x y, t, p, af, g⟩ = vl (pure v) := by
  have e : (if b then a.eval x else a.eval y) = v := by rw [← h.val hv]; cases b <;> rfl
  simp only [execOp, h.val hc]; rw [← e]; rfl
theorem ex_extract {i : Nat} {vs : Array Value} {v : Value} (h : Kn D n l a) (hx : Val l x (.tuple vs)) (hi : vs[i]? = some v) : execOp a.eval ⟨d, .extract x i, t, p, af, g⟩ = vl (pure v) := by
  simp only [execOp, h.val hx, Instr.extract, hi]
theorem ex_bin {op : BinOp} {tx ty : TypeId} (h : Kn D n l a) (hx : Val l x vx) (hy : Val l y vy) : execOp a.eval ⟨d, .binOp op tx x y ty, t, p, af, g⟩ = vl (do eqGuard op tx x y vx vy; binOp op tx vx vy) := by simp only [execOp, h.val hx, h.val hy]
theorem ex_un {op : UnOp} {tx : TypeId} (h : Kn D n l a) (hx : Val l x vx) : execOp a.eval ⟨d, .unOp op tx x, t, p, af, g⟩ = vl (Op.unary op vx) := by simp only [execOp, h.val hx]
theorem ex_alloc {e : TypeId} : execOp a.eval ⟨d, .alloc e, t, p, af, g⟩ = vl (Instr.alloc e true (.tuple #[])) := rfl
theorem ex_load {e : TypeId} (h : Kn D n l a) (hx : Val l x vx) : execOp a.eval ⟨d, .load e x, t, p, af, g⟩ = vl (Instr.loadAt e vx) := by simp only [execOp, h.val hx]
theorem ex_store {e : TypeId} (h : Kn D n l a) (hx : Val l x vx) (hy : Val l y vy) : execOp a.eval ⟨d, .store e x y, t, p, af, g⟩ = ul (Instr.storeAt e vx vy) := by simp only [execOp, h.val hx, h.val hy]
theorem ex_indexAddr {e : TypeId} (h : Kn D n l a) (hx : Val l x vx) (hy : Val l y vy) : execOp a.eval ⟨d, .indexAddr e x y, t, p, af, g⟩ = vl (Instr.indexAt e vx vy) := by simp only [execOp, h.val hx, h.val hy]
theorem ex_makeSlice {e : TypeId} (h : Kn D n l a) (hx : Val l x vx) (hy : Val l y vy) : execOp a.eval ⟨d, .makeSlice e x y, t, p, af, g⟩ = vl (Instr.makeSlice e vx vy) := by simp only [execOp, h.val hx, h.val hy]
theorem ex_makeInterface {e : TypeId} (h : Kn D n l a) (hx : Val l x vx) : execOp a.eval ⟨d, .makeInterface e x, t, p, af, g⟩ = vl (Instr.makeInterface e vx) := by simp only [execOp, h.val hx]
theorem ex_buildSlice {e : TypeId} {m : Nat} {ps : Array (Nat × Operand)} {us : List Value} (h : Kn D n l a) (hx : Vals l (ps.toList.map (·.2)) us) : execOp a.eval ⟨d, .buildSlice e m ps, t, p, af, g⟩ = vl (Instr.buildSlice e m ((ps.toList.map (·.1)).zip us).toArray) := by
  have e1 : (ps.map fun (i, x) => (i, a.eval x)) = ((ps.toList.map (·.1)).zip us).toArray := by
    have := h.vals hx;rw [List.map_toArray] at this;have h2 : (ps.toList.map (·.2)).map a.eval = us := by simpa using this
    rw [← h2]
    apply Array.ext'
    simp only [Array.toList_map, List.map_map, List.zip_map'];exact List.map_congr_left fun p _ => rfl
  simp only [execOp, e1]
theorem ex_len {ats : Array TypeId} (h : Kn D n l a) (hx : Val l x vx) : execOp a.eval ⟨d, .call { callee := .builtin .len, args := #[x], argTypes := ats }, t, p, af, g⟩ = vl (Builtin.len_ ats t #[vx]) := by
  rw [BigFrame.execOp_builtin, BigFrame.builtin_len]; simp [h.val hx]
theorem ex_min {ats : Array TypeId} {xs : Array Operand} {us : List Value} (h : Kn D n l a) (hx : Vals l xs.toList us) : execOp a.eval ⟨d, .call { callee := .builtin .min, args := xs, argTypes := ats }, t, p, af, g⟩ = vl (Builtin.min_ ats t us.toArray) := by
  rw [BigFrame.execOp_builtin, BigFrame.builtin_min, show xs.map a.eval = us.toArray by have := h.vals hx; rwa [Array.toArray_toList] at this]
theorem ex_append {ats : Array TypeId} {xs : Array Operand} {us : List Value} (h : Kn D n l a) (hx : Vals l xs.toList us) : execOp a.eval ⟨d, .call { callee := .builtin .append, args := xs, argTypes := ats }, t, p, af, g⟩ = vl (Builtin.append_ ats t us.toArray) := by
  rw [BigFrame.execOp_builtin, BigFrame.builtin_append, show xs.map a.eval = us.toArray by have := h.vals hx; rwa [Array.toArray_toList] at this]
theorem ex_call {f : FuncId} {xs : Array Operand} {us : List Value} {ats : Array TypeId} (h : Kn D n l a) (hx : Vals l xs.toList us) : execOp a.eval ⟨d, .call { callee := .value (.func f), args := xs, argTypes := ats }, t, p, af, g⟩ = callFunc f us.toArray := by
  have e : xs.map a.eval = us.toArray := by have := h.vals hx; rwa [Array.toArray_toList] at this
  rw [execOp_call_go, e]; simp
end exec
def Nx (P : Program) (D : List Deferred) (n : Nat) (l : List (Nat × Value)) (ops : Array Oper) (Q : Exit → Act → World → Prop) (rest : List Oper) (d : Tmp) (v : Value) (w : World) : Prop := ∀ a, Kn D n ((d, v) :: l) a → wpList P ops Q rest a w
theorem run_value (s : Sem Value) (w : World) (K : Act → World → Prop) (o : Oper) (a : Act) (H : Sat (fun v w' => K (a.put o.dst v) w') (s.run P w)) (he : execOp a.eval o = vl s) : o.wp P a w K Q := by
  unfold Oper.wp;rw [he]
  cases hs : s.run P w with
  | ok v w' =>
    rw [hs] at H;simp [go_sem, hs];exact H
  | halt x w' => rw [hs] at H; exact H.elim
theorem step {o : Oper} {d : Tmp} {s : Sem Value} (h : Kn D n l a) (hd : o.dst = some d) (hdn : Nat.blt d n = true) (hw : Wants ops l o.guard true) (he : execOp a.eval o = vl s)
    (H : ∀ K : Value → World → Prop, (∀ v w', Nx P D n l ops Q rest d v w' → K v w') → Sat K (s.run P w)) : wpList P ops Q (o :: rest) a w := by
  refine wpList_step fun K hK => ?_;rw [h.wants hw, if_pos rfl];refine run_value s w K o a (H _ fun v w' hn => ?_) he;rw [hd];exact hK _ _ (hn _ (h.put hdn v))
theorem pure {o : Oper} {d : Tmp} {v : Value} (h : Kn D n l a) (hd : o.dst = some d) (hdn : Nat.blt d n = true) (hw : Wants ops l o.guard true) (he : execOp a.eval o = vl (.pure v))
    (H : Nx P D n l ops Q rest d v w) : wpList P ops Q (o :: rest) a w := step h hd hdn hw he fun _ hK => hK _ _ H
theorem known {o : Oper} {d : Tmp} {s : Sem Value} {v : Value} {w' : World} (h : Kn D n l a) (hd : o.dst = some d) (hdn : Nat.blt d n = true) (hw : Wants ops l o.guard true) (he : execOp a.eval o = vl s)
    (hr : s.run P w = .ok v w') (H : Nx P D n l ops Q rest d v w') : wpList P ops Q (o :: rest) a w := step h hd hdn hw he fun _ hK => by rw [hr]; exact hK _ _ H
theorem stepU {o : Oper} {s : Sem Unit} (h : Kn D n l a) (hd : o.dst = none) (hw : Wants ops l o.guard true) (he : execOp a.eval o = ul s)
    (H : ∀ K : World → Prop, (∀ w', wpList P ops Q rest a w' → K w') → SatU K (s.run P w)) : wpList P ops Q (o :: rest) a w := by
  refine wpList_step fun K hK => ?_;rw [h.wants hw, if_pos rfl];unfold Oper.wp;rw [he];have := H _ fun w' hn => hK a w' hn
  cases hs : s.run P w with
  | ok v w' =>
    rw [hs] at this;simp [go_sem, hs, hd, Act.put];exact this
  | halt x w' => rw [hs] at this; exact this.elim
theorem skip {o : Oper} {d : Tmp} (h : Kn D n l a) (hd : o.dst = some d) (hdn : Nat.blt d n = true) (hw : Wants ops l o.guard false) (H : Nx P D n l ops Q rest d undef w) : wpList P ops Q (o :: rest) a w := by
  refine wpList_step fun K hK => ?_;rw [h.wants hw, if_neg (by simp), hd];exact hK _ _ (H _ (h.put hdn _))
theorem call {o : Oper} {d : Tmp} {f : FuncId} {args : Array Value} {R : Ending → World → Prop} (h : Kn D n l a) (hd : o.dst = some d) (hdn : Nat.blt d n = true) (hw : Wants ops l o.guard true) (he : execOp a.eval o = callFunc f args)
    (hc : ∀ (args : Array Value) (w : World), (callFunc f args).run P w = .ok (.enter f args) w) (hR : Calls P f args w R)
    (H : ∀ e w', R e w' → ∃ v, e = .returned v ∧ Nx P D n l ops Q rest d v w') : wpList P ops Q (o :: rest) a w := by
  refine wpList_step fun K hK => ?_;rw [h.wants hw, if_pos rfl];unfold Oper.wp;rw [he, hc];refine hR.mono fun e w' hr => ?_;obtain ⟨v, rfl, hn⟩ := H e w' hr;show K (a.put o.dst v) w';rw [hd];exact hK _ _ (hn _ (h.put hdn v))
inductive Sub (l : List (Nat × Value)) : List (Nat × Value) → Prop
  | nil : Sub l []
  | cons {t : Nat} {v : Value} {l' : List (Nat × Value)} (h : find l t = some v) (r : Sub l l') : Sub l ((t, v) :: l')
  | turn {t : Nat} {v u : Value} {l' : List (Nat × Value)} (h : find l t = some v) (e : v = u) (r : Sub l l') : Sub l ((t, u) :: l')
theorem Sub.at {l l' : List (Nat × Value)} (h : Sub l l') {t : Nat} {v : Value} (hv : find l' t = some v) : find l t = some v := by
  induction h with
  | nil => simp [find] at hv
  | @cons s u l' h1 _ ih =>
    rw [find] at hv
    by_cases e : s = t
    · subst e; rw [Nat.beq_refl] at hv; simp at hv; rw [← hv]; exact h1
    · rw [beq_no e] at hv; exact ih (by simpa using hv)
  | @turn s u x l' h1 h2 _ ih =>
    subst h2;rw [find] at hv
    by_cases e : s = t
    · subst e; rw [Nat.beq_refl] at hv; simp at hv; rw [← hv]; exact h1
    · rw [beq_no e] at hv; exact ih (by simpa using hv)
theorem Kn.cut {l' : List (Nat × Value)} (h : Kn D n l a) (hs : Sub l l') : Kn D n l' a := ⟨h.defers, h.size, fun _ _ hv => h.get _ _ (hs.at hv)⟩
inductive Ins (args : Array Value) : List (Nat × Value) → Prop
  | nil : Ins args []
  | cons {t : Nat} {v : Value} {l' : List (Nat × Value)} (h : nth args.toList t = some v) (r : Ins args l') : Ins args ((t, v) :: l')
theorem Ins.at {args : Array Value} {l : List (Nat × Value)} (h : Ins args l) {t : Nat} {v : Value} (hv : find l t = some v) : args[t]? = some v := by
  induction h with
  | nil => simp [find] at hv
  | @cons s u l' h1 _ ih =>
    rw [find] at hv
    by_cases e : s = t
    · subst e; rw [Nat.beq_refl] at hv; simp at hv; rw [← hv]; rw [nth_eq] at h1; simpa using h1
    · rw [beq_no e] at hv; exact ih (by simpa using hv)
theorem calls {f : FuncId} {fn : Func} {c : Code} {args : Array Value} {R : Ending → World → Prop} (hf : P.funcs[f]? = some fn) (hb : fn.body = some c) (hn : fn.ntmps = n) (ha : Nat.ble args.size n = true) (hl : Ins args l)
    (H : ∀ a, Kn [] n l a → c.wp P (bodyPostD P fn R) a w) : Calls P f args w R := by
  refine calls_of_wp_defers hf hb (H _ ⟨rfl, ?_, fun t v hv => ?_⟩)
  · have := Nat.le_of_ble_eq_true ha;simp only [Array.size_append, Array.size_replicate]; omega
  · have h1 := hl.at hv
    have h2 : t < args.size := by
      rcases Nat.lt_or_ge t args.size with h | h
      · exact h
      · rw [Array.getElem?_eq_none h] at h1; cases h1
    simp only [Act.eval];rw [Array.getD_eq_getD_getElem?, Array.getElem?_append_left h2, h1]
    rfl
theorem yes {x : Operand} {c d : Code} (h : Kn D n l a) (hv : Val l x (.bool true)) (H : c.wp P Q a w) : (Code.cond x c d).wp P Q a w := wp_cond_true (h.val hv) H
theorem no {x : Operand} {c d : Code} (h : Kn D n l a) (hv : Val l x (.bool false)) (H : d.wp P Q a w) : (Code.cond x c d).wp P Q a w := wp_cond_false (h.val hv) H
theorem then_ret {K : Act → World → Prop} (h : Q .ret a w) : Exit.then K Q .ret a w := h
theorem then_exit {K : Act → World → Prop} {i : Nat} (h : Q (.exit i) a w) : Exit.then K Q (.exit i) a w := h
theorem block_normal {i : Nat} (h : Q .normal a w) : Exit.inBlock i Q .normal a w := h
theorem block_exit {i : Nat} (h : Q .normal a w) : Exit.inBlock i Q (.exit i) a w := by simp only [Exit.inBlock, if_pos]; exact h
theorem loop {c : Code} (I : Nat → Act → World → Prop) (m : Nat) (h0 : I m a w) (hr : ∀ m a w, I m a w → ∀ K : Act → World → Prop, (∀ m' a' w', m' < m → I m' a' w' → K a' w') → c.wp P (Exit.then K Q) a w) : (Code.loop c).wp P Q a w :=
  wp_loop_ghost I m h0 fun m a w h => hr m a w h _ fun m' _ _ hlt h' => ⟨m', hlt, h'⟩
theorem gen {c : Code} (S : World → Prop) (hS : S w) (H : ∀ u, S u → c.wp P Q a u) : c.wp P Q a w := H w hS
end
def backB (md : Region.Mode) (ops : Array Oper) : Bool :=
  (List.range ops.size).all fun i => match ops[i]? with
    | some o => o.after.all fun e => !Region.binds md e || Nat.blt e.on i
    | none => true
def apartB (ops : Array Oper) : Bool :=
  (List.range ops.size).all fun i => (List.range ops.size).all fun j => Nat.beq i j || match (ops[i]?).bind (·.dst), (ops[j]?).bind (·.dst) with
    | some d, some e => !Nat.beq d e
    | _, _ => true
def freshB (n : Nat) (l : List (Nat × Value)) (ops : Array Oper) : Bool :=
  (List.range ops.size).all fun i => match (ops[i]?).bind (·.dst) with
    | some d => Nat.blt d n && l.all fun p => !Nat.beq p.1 d
    | none => true
section
variable {P : Program} {D : List Deferred} {n : Nat} {l : List (Nat × Value)} {ops : Array Oper} {Q : Exit → Act → World → Prop} {md : Region.Mode} {S : World → Prop} {G : World → World → Prop} {T : Nat → Value → World → Prop} {F : Nat → Nat → Value → Value → Prop}
theorem all_listed (hb : backB md ops = true) {listed : Array Bool} (hs : listed.size = ops.size) (hr : Region.ready md ops listed = []) : ∀ i, i < ops.size → listed.getD i false = true := by
  intro i
  induction i using Nat.strongRecOn with
  | _ i ih =>
    intro hi
    cases h : listed.getD i false with
    | true => rfl
    | false =>
      exfalso
      have hm : i ∈ Region.ready md ops listed := by
        refine mem_ready.2 ⟨getD_in (by omega) h, ops[i], Array.getElem?_eq_getElem hi, fun e he hbd => ?_⟩;have h1 := List.all_eq_true.1 hb i (List.mem_range.2 hi);rw [Array.getElem?_eq_getElem hi] at h1;have h2 := Array.all_eq_true_iff_forall_mem.1 h1 e he;rw [hbd] at h2;have h3 : e.on < i := by simpa using h2
        exact ih e.on h3 (by omega)
      rw [hr] at hm;cases hm
theorem Kn.other {a : Act} (h : Kn D n l a) {d : Tmp} (v : Value) (hl : l.all (fun p => !Nat.beq p.1 d) = true) : Kn D n l (a.put (some d) v) := by
  refine ⟨h.defers, by simp [Act.put, h.size], fun t u hu => ?_⟩
  have hne : d ≠ t := by
    intro e;subst e;clear h
    induction l with
    | nil => simp [find] at hu
    | cons p l ih =>
      obtain ⟨k, v⟩ := p;simp only [List.all_cons, Bool.and_eq_true, Bool.not_eq_true'] at hl;rw [find, hl.1] at hu;exact ih hl.2 hu
  rw [← h.get t u hu];simp only [Act.put, Act.eval];rw [Array.getD_eq_getD_getElem?, Array.getD_eq_getD_getElem?, Array.getElem?_setIfInBounds_ne hne]
theorem eval_put_same {a : Act} {d : Tmp} (v : Value) (h : d < a.tmps.size) : (a.put (some d) v).eval (.tmp d) = v := by simp [Act.put, Act.eval, h]
theorem eval_put_ne {a : Act} {d t : Tmp} (v : Value) (h : d ≠ t) : (a.put (some d) v).eval (.tmp t) = a.eval (.tmp t) := by
  simp only [Act.put, Act.eval];rw [Array.getD_eq_getD_getElem?, Array.getD_eq_getD_getElem?, Array.getElem?_setIfInBounds_ne h]
def Has (md : Region.Mode) (ops : Array Oper) (T : Nat → Value → World → Prop) (o : Oper) (a : Act) (w : World) : Prop :=
  ∀ j d, o.after.toList.any (fun e => Region.binds md e && Nat.beq e.on j) = true → (ops[j]?).bind (·.dst) = some d → T j (a.eval (.tmp d)) w
def Op1 (P : Program) (ops : Array Oper) (Q : Exit → Act → World → Prop) (S : World → Prop) (G : World → World → Prop) (T : Nat → Value → World → Prop) (F : Nat → Nat → Value → Value → Prop) (i : Nat) (o : Oper) (L : Nat → Prop) (a : Act) (w : World) : Prop :=
  if Region.wanted o (yielded ops a.tmps) then o.wp P a w (fun a' w' => ∃ v, a' = a.put o.dst v ∧ T i v w' ∧ S w' ∧ G w w' ∧ ∀ k d, k ≠ i → L k → (ops[k]?).bind (·.dst) = some d → F i k v (a.eval (.tmp d)) ∧ F k i (a.eval (.tmp d)) v) Q
  else T i undef w ∧ ∀ k d, k ≠ i → L k → (ops[k]?).bind (·.dst) = some d → F i k undef (a.eval (.tmp d)) ∧ F k i (a.eval (.tmp d)) undef
def Two (ops : Array Oper) (F : Nat → Nat → Value → Value → Prop) (L : Nat → Prop) (a : Act) : Prop := ∀ j k d e, j ≠ k → L j → L k → (ops[j]?).bind (·.dst) = some d → (ops[k]?).bind (·.dst) = some e → F j k (a.eval (.tmp d)) (a.eval (.tmp e))
def One (ops : Array Oper) (T : Nat → Value → World → Prop) (L : Nat → Prop) (a : Act) (w : World) : Prop := ∀ k d, L k → (ops[k]?).bind (·.dst) = some d → T k (a.eval (.tmp d)) w
def Ahead (md : Region.Mode) (o : Oper) (L : Nat → Prop) : Prop := ∀ j, o.after.toList.any (fun e => Region.binds md e && Nat.beq e.on j) = true → L j
def Ok (P : Program) (D : List Deferred) (n : Nat) (l : List (Nat × Value)) (md : Region.Mode) (ops : Array Oper) (Q : Exit → Act → World → Prop) (S : World → Prop) (G : World → World → Prop) (T : Nat → Value → World → Prop) (F : Nat → Nat → Value → Value → Prop) (i : Nat) (o : Oper) : Prop :=
  ∀ a w L, Kn D n l a → S w → One ops T L a w → Two ops F L a → Ahead md o L → Op1 P ops Q S G T F i o L a w
def Oks (P : Program) (D : List Deferred) (n : Nat) (l : List (Nat × Value)) (md : Region.Mode) (ops : Array Oper) (Q : Exit → Act → World → Prop) (S : World → Prop) (G : World → World → Prop) (T : Nat → Value → World → Prop) (F : Nat → Nat → Value → Value → Prop) : Nat → List Oper → Prop
  | _, [] => True
  | k, o :: r => Ok P D n l md ops Q S G T F k o ∧ Oks P D n l md ops Q S G T F (k + 1) r
theorem Oks.at {r : List Oper} {k : Nat} (h : Oks P D n l md ops Q S G T F k r) {j : Nat} {o : Oper} (hj : r[j]? = some o) : Ok P D n l md ops Q S G T F (k + j) o := by
  induction r generalizing k j with
  | nil => simp at hj
  | cons x r ih =>
    cases j with
    | zero => simp at hj; subst hj; exact h.1
    | succ j =>
      have := ih h.2 (j := j) (by simpa using hj)
      rwa [show k + 1 + j = k + (j + 1) by omega] at this
structure Reg (D : List Deferred) (n : Nat) (l : List (Nat × Value)) (ops : Array Oper) (S : World → Prop) (T : Nat → Value → World → Prop) (F : Nat → Nat → Value → Value → Prop) (listed : Array Bool) (a : Act) (w : World) : Prop where
  kn : Kn D n l a
  size : listed.size = ops.size
  ok : S w
  slots : ∀ j d, (ops[j]?).bind (·.dst) = some d → listed.getD j false = true → T j (a.eval (.tmp d)) w
  pairs : ∀ i j d e, i ≠ j → (ops[i]?).bind (·.dst) = some d → (ops[j]?).bind (·.dst) = some e → listed.getD i false = true → listed.getD j false = true → F i j (a.eval (.tmp d)) (a.eval (.tmp e))
theorem Reg.next (hap : apartB ops = true) (hfr : freshB n l ops = true) {listed : Array Bool} {a : Act} {w w' : World} {i : Nat} {o : Oper} {v : Value} (h : Reg D n l ops S T F listed a w) (ho : ops[i]? = some o) (hv : T i v w') (hS : S w') (hG : ∀ j u, T j u w → T j u w') (hF : ∀ k d, k ≠ i → listed.getD k false = true → (ops[k]?).bind (·.dst) = some d → F i k v (a.eval (.tmp d)) ∧ F k i (a.eval (.tmp d)) v) : Reg D n l ops S T F (listed.setIfInBounds i true) (a.put o.dst v) w' := by
  have hi : i < ops.size := (Array.getElem?_eq_some_iff.1 ho).1;have hob : (ops[i]?).bind (·.dst) = o.dst := by rw [ho]; rfl
  cases hd : o.dst with
  | none =>
    have old : ∀ j d, (ops[j]?).bind (·.dst) = some d → (listed.setIfInBounds i true).getD j false = true → listed.getD j false = true := fun j d hj hl => by
      by_cases e : i = j
      · subst e; rw [hob, hd] at hj; cases hj
      · rwa [getD_set_ne false e] at hl
    exact ⟨h.kn, by simp [h.size], hS, fun j d hj hl => hG _ _ (h.slots j d hj (old j d hj hl)), fun j k d e hne hj hk hl hm => h.pairs j k d e hne hj hk (old j d hj hl) (old k e hk hm)⟩
  | some d =>
    have h1 := List.all_eq_true.1 hfr i (List.mem_range.2 hi);rw [hob, hd] at h1;simp only [Bool.and_eq_true] at h1;have hdn : d < a.tmps.size := by rw [h.kn.size]; exact Nat.le_of_ble_eq_true h1.1
    have oth : ∀ j e, i ≠ j → (ops[j]?).bind (·.dst) = some e → (a.put (some d) v).eval (.tmp e) = a.eval (.tmp e) := fun j e hij hj => by
      have hjs : j < ops.size := by
        cases hj2 : ops[j]? with
        | none => rw [hj2] at hj; cases hj
        | some x => exact (Array.getElem?_eq_some_iff.1 hj2).1
      have h2 := List.all_eq_true.1 (List.all_eq_true.1 hap i (List.mem_range.2 hi)) j (List.mem_range.2 hjs);rw [hob, hd, hj, beq_no hij] at h2;have hde : d ≠ e := fun e' => by subst e'; simp at h2
      exact eval_put_ne v hde
    refine ⟨h.kn.other v h1.2, by simp [h.size], hS, fun j e hj hl => ?_, fun j k e f hne hj hk hl hm => ?_⟩
    · by_cases hij : i = j
      · subst hij;rw [hob, hd] at hj;obtain rfl := Option.some.inj hj;rw [eval_put_same v hdn];exact hv
      · rw [getD_set_ne false hij] at hl;rw [oth j e hij hj];exact hG _ _ (h.slots j e hj hl)
    · by_cases hij : i = j
      · subst hij;rw [hob, hd] at hj;obtain rfl := Option.some.inj hj;rw [getD_set_ne false hne] at hm;rw [eval_put_same v hdn, oth k f hne hk];exact (hF k f (fun e => hne e.symm) hm hk).1
      · rw [getD_set_ne false hij] at hl;rw [oth j e hij hj]
        by_cases hik : i = k
        · subst hik;rw [hob, hd] at hk;obtain rfl := Option.some.inj hk;rw [eval_put_same v hdn];exact (hF j e (fun e => hij e.symm) hl hj).2
        · rw [getD_set_ne false hik] at hm;rw [oth k f hik hk];exact h.pairs j k e f hne hj hk hl hm
theorem wpAny_reg (hback : backB md ops = true) (hap : apartB ops = true) (hfr : freshB n l ops = true) (hT : ∀ i v w w', G w w' → T i v w → T i v w') (hok : Oks P D n l md ops Q S G T F 0 ops.toList)
    (hend : ∀ a w, Kn D n l a → S w → (∀ j d, (ops[j]?).bind (·.dst) = some d → T j (a.eval (.tmp d)) w) → (∀ i j d e, i ≠ j → (ops[i]?).bind (·.dst) = some d → (ops[j]?).bind (·.dst) = some e → F i j (a.eval (.tmp d)) (a.eval (.tmp e))) → Q .normal a w) :
    ∀ (fuel : Nat) (listed : Array Bool) (a : Act) (w : World), listed.toList.countP (fun b => !b) ≤ fuel → Reg D n l ops S T F listed a w → wpAny P md ops Q fuel listed a w := by
  have fin : ∀ (listed : Array Bool) (a : Act) (w : World), Reg D n l ops S T F listed a w → Region.ready md ops listed = [] → Q .normal a w := fun listed a w h hr => by
    have al : ∀ j d, (ops[j]?).bind (·.dst) = some d → listed.getD j false = true := fun j d hj => by
      have hjs : j < ops.size := by
        cases hj2 : ops[j]? with
        | none => rw [hj2] at hj; cases hj
        | some x => exact (Array.getElem?_eq_some_iff.1 hj2).1
      exact all_listed hback h.size hr j hjs
    exact hend a w h.kn h.ok (fun j d hj => h.slots j d hj (al j d hj)) fun i j d e hne hi hj => h.pairs i j d e hne hi hj (al i d hi) (al j e hj)
  intro fuel
  induction fuel with
  | zero =>
    intro listed a w hc h
    have hr : Region.ready md ops listed = [] := by
      cases hr : Region.ready md ops listed with
      | nil => rfl
      | cons i r =>
        exfalso
        have hi := (mem_ready.1 (show i ∈ Region.ready md ops listed by rw [hr]; exact List.mem_cons_self)).1
        have hil : i < listed.size := by
          rcases Nat.lt_or_ge i listed.size with h' | h'
          · exact h'
          · simp [Array.getElem?_eq_none h'] at hi
        have hz : listed.toList.countP (fun b => !b) = 0 := by omega
        rw [List.countP_eq_zero] at hz;have := hz listed[i] (by simp);simp [hil] at hi;simp [hi] at this
    exact ⟨hr, fin listed a w h hr⟩
  | succ fuel ih =>
    intro listed a w hc h;refine ⟨fin listed a w h, fun i hi => ?_⟩;obtain ⟨hun, o, ho, hall⟩ := mem_ready.1 hi
    have hil : i < listed.size := by
      rcases Nat.lt_or_ge i listed.size with h' | h'
      · exact h'
      · simp [Array.getElem?_eq_none h'] at hun
    have hcount : (listed.setIfInBounds i true).toList.countP (fun b => !b) ≤ fuel := by
      have hli : listed[i] = false := by simpa [hil] using hun
      rw [Array.toList_setIfInBounds, List.countP_set (by simpa using hil)];simp only [Array.getElem_toList, hli];simp only [Bool.not_false, Bool.not_true, if_true, Bool.false_eq_true, if_false];omega
    have hok' := hok.at (j := i) (o := o) (by rw [Array.getElem?_toList]; exact ho);rw [Nat.zero_add] at hok'
    have hs := hok' a w (fun k => listed.getD k false = true) h.kn h.ok (fun k d hk hd => h.slots k d hd hk) (fun j k d e hne hj hk hd he => h.pairs j k d e hne hd he hj hk) (fun j hj => by
      obtain ⟨e, he, he2⟩ := List.any_eq_true.1 hj;simp only [Bool.and_eq_true] at he2;have := Nat.eq_of_beq_eq_true he2.2;subst this
      exact hall e (Array.mem_toList_iff.1 he) he2.1)
    unfold Op1 at hs;unfold wpOp;simp only [ho]
    split
    · rename_i hw;rw [if_pos hw] at hs;refine .inl (Oper.wp_mono (fun a' w' hx => ?_) hs);obtain ⟨v, rfl, hv, hS, hG, hF⟩ := hx;exact ih _ _ _ hcount (h.next hap hfr ho hv hS (fun j u hu => hT j u _ _ hG hu) hF)
    · rename_i hw;rw [if_neg hw] at hs;exact ih _ _ _ hcount (h.next hap hfr ho hs.1 h.ok (fun j u hu => hu) hs.2)
theorem anyF {id : Nat} {os : List Oper} {a : Act} {w : World} (S : World → Prop) (G : World → World → Prop) (T : Nat → Value → World → Prop) (F : Nat → Nat → Value → Value → Prop) (hm : P.follows .mixedOrders = true) (h : Kn D n l a) (hback : backB .any os.toArray = true) (hap : apartB os.toArray = true) (hfr : freshB n l os.toArray = true)
    (hT : ∀ i v w w', G w w' → T i v w → T i v w') (hS : S w.drew) (hok : Oks P D n l .any os.toArray Q S G T F 0 os)
    (hend : ∀ a w, Kn D n l a → S w → (∀ j d, (os.toArray[j]?).bind (·.dst) = some d → T j (a.eval (.tmp d)) w) → (∀ i j d e, i ≠ j → (os.toArray[i]?).bind (·.dst) = some d → (os.toArray[j]?).bind (·.dst) = some e → F i j (a.eval (.tmp d)) (a.eval (.tmp e))) → Q .normal a w) : (Code.region id os.toArray true).wp P Q a w := by
  refine wp_region_any hm (wpAny_reg (S := S) (G := G) (T := T) (F := F) hback hap hfr hT (by simpa using hok) hend _ _ _ _ ?_ ⟨h, by simp, hS, fun j d hj hl => ?_, fun i j d e _ _ _ hl _ => ?_⟩)
  · refine Nat.le_trans List.countP_le_length ?_;simp
  · rw [getD_replicate_false] at hl; cases hl
  · rw [getD_replicate_false] at hl; cases hl
def F0 : Nat → Nat → Value → Value → Prop := fun _ _ _ _ => True
theorem any {id : Nat} {os : List Oper} {a : Act} {w : World} (S : World → Prop) (G : World → World → Prop) (T : Nat → Value → World → Prop) (hm : P.follows .mixedOrders = true) (h : Kn D n l a) (hback : backB .any os.toArray = true) (hap : apartB os.toArray = true) (hfr : freshB n l os.toArray = true)
    (hT : ∀ i v w w', G w w' → T i v w → T i v w') (hS : S w.drew) (hok : Oks P D n l .any os.toArray Q S G T F0 0 os)
    (hend : ∀ a w, Kn D n l a → S w → (∀ j d, (os.toArray[j]?).bind (·.dst) = some d → T j (a.eval (.tmp d)) w) → Q .normal a w) : (Code.region id os.toArray true).wp P Q a w :=
  anyF S G T F0 hm h hback hap hfr hT hS hok fun a w h1 h2 h3 _ => hend a w h1 h2 h3
theorem ok {i : Nat} {o : Oper} (h : ∀ a w L, Kn D n l a → S w → Has md ops T o a w → Op1 P ops Q S G T F i o L a w) : Ok P D n l md ops Q S G T F i o := fun a w L h1 h2 h3 _ h5 => h a w L h1 h2 fun j d hj hd => h3 j d (h5 j hj) hd
theorem aopF {i : Nat} {o : Oper} {L : Nat → Prop} {a : Act} {w : World} {s : Sem Value} {l' : List (Nat × Value)} (h : Kn D n l' a) (hw : Wants ops l' o.guard true) (he : execOp a.eval o = vl s)
    (H : ∀ K : Value → World → Prop, (∀ v w', T i v w' → S w' → G w w' → (∀ k d, k ≠ i → L k → (ops[k]?).bind (·.dst) = some d → F i k v (a.eval (.tmp d)) ∧ F k i (a.eval (.tmp d)) v) → K v w') → Sat K (s.run P w)) : Op1 P ops Q S G T F i o L a w := by
  unfold Op1;rw [h.wants hw, if_pos rfl];exact run_value s w _ o a (H _ fun v w' h1 h2 h3 h4 => ⟨v, rfl, h1, h2, h3, h4⟩) he
theorem aop {i : Nat} {o : Oper} {L : Nat → Prop} {a : Act} {w : World} {s : Sem Value} {l' : List (Nat × Value)} (h : Kn D n l' a) (hw : Wants ops l' o.guard true) (he : execOp a.eval o = vl s)
    (H : ∀ K : Value → World → Prop, (∀ v w', T i v w' → S w' → G w w' → K v w') → Sat K (s.run P w)) : Op1 P ops Q S G T F0 i o L a w :=
  aopF h hw he fun K hK => H K fun v w' h1 h2 h3 => hK v w' h1 h2 h3 fun _ _ _ _ _ => ⟨trivial, trivial⟩
theorem apure {i : Nat} {o : Oper} {L : Nat → Prop} {a : Act} {w : World} {v : Value} {l' : List (Nat × Value)} (h : Kn D n l' a) (hw : Wants ops l' o.guard true) (he : execOp a.eval o = vl (.pure v)) (h1 : T i v w) (h2 : S w) (h3 : G w w) : Op1 P ops Q S G T F0 i o L a w :=
  aop h hw he fun _ hK => hK _ _ h1 h2 h3
theorem acall {i : Nat} {o : Oper} {L : Nat → Prop} {a : Act} {w : World} {f : FuncId} {args : Array Value} {R : Ending → World → Prop} {l' : List (Nat × Value)} (h : Kn D n l' a) (hw : Wants ops l' o.guard true) (he : execOp a.eval o = callFunc f args)
    (hc : ∀ (args : Array Value) (w : World), (callFunc f args).run P w = .ok (.enter f args) w) (hR : Calls P f args w R) (H : ∀ e w', R e w' → ∃ v, e = .returned v ∧ T i v w' ∧ S w' ∧ G w w') : Op1 P ops Q S G T F0 i o L a w := by
  unfold Op1;rw [h.wants hw, if_pos rfl];unfold Oper.wp;rw [he, hc];refine hR.mono fun e w' hr => ?_;obtain ⟨v, rfl, h1, h2, h3⟩ := H e w' hr;exact ⟨v, rfl, h1, h2, h3, fun _ _ _ _ _ => ⟨trivial, trivial⟩⟩
end
def TL : List (Value → World → Prop) → Nat → Value → World → Prop
  | [], _, _, _ => True
  | p :: _, 0, v, w => p v w
  | _ :: l, i + 1, v, w => TL l i v w
inductive Keeps (G : World → World → Prop) : List (Value → World → Prop) → Prop
  | nil : Keeps G []
  | cons {p : Value → World → Prop} {l : List (Value → World → Prop)} (h : ∀ v w w', G w w' → p v w → p v w') (r : Keeps G l) : Keeps G (p :: l)
theorem Keeps.all {G : World → World → Prop} {l : List (Value → World → Prop)} (h : Keeps G l) : ∀ i v w w', G w w' → TL l i v w → TL l i v w' := by
  induction h with
  | nil => intro i v w w' _ _; exact trivial
  | cons h1 _ ih =>
    intro i v w w' hg ht
    cases i with
    | zero => exact h1 v w w' hg ht
    | succ i => exact ih i v w w' hg ht
def Is (x : Value) : Value → World → Prop := fun v _ => v = x
theorem Is.keep {G : World → World → Prop} {x : Value} : ∀ v w w', G w w' → Is x v w → Is x v w' := fun _ _ _ _ h => h
section
variable {D : List Deferred} {n : Nat} {l : List (Nat × Value)} {a : Act} {d : Option Tmp} {t : TypeId} {p : String} {af : Array Edge} {g : Option (Nat × Bool)} {x : Operand}
theorem ex_callc {f : FuncId} {cs : List Value} {xs : Array Operand} {us : List Value} {ats : Array TypeId} (h : Kn D n l a) (hf : Val l x (.func (.func f) #[] cs.toArray)) (hx : Vals l xs.toList us) : execOp a.eval ⟨d, .call { callee := .value x, args := xs, argTypes := ats }, t, p, af, g⟩ = callFunc f (us ++ cs).toArray := by
  have e : xs.map a.eval = us.toArray := by have := h.vals hx; rwa [Array.toArray_toList] at this
  have hv := h.val hf
  have e2 : execOp a.eval ⟨d, .call { callee := .value x, args := xs, argTypes := ats }, t, p, af, g⟩ = callFunc f (#[] ++ xs.map a.eval ++ cs.toArray) := by
    simp only [execOp, resolve, hv]
    rfl
  rw [e2, e];simp
theorem ex_makeFunc {fn : Fn} {fs cs : Array Operand} {us vs : List Value} (h : Kn D n l a) (hf : Vals l fs.toList us) (hc : Vals l cs.toList vs) : execOp a.eval ⟨d, .makeFunc fn fs cs, t, p, af, g⟩ = vl (Pure.pure (.func fn us.toArray vs.toArray)) := by
  have e1 : fs.map a.eval = us.toArray := by have := h.vals hf; rwa [Array.toArray_toList] at this
  have e2 : cs.map a.eval = vs.toArray := by have := h.vals hc; rwa [Array.toArray_toList] at this
  simp only [execOp, e1, e2]
  rfl
end
section
variable {P : Program} {D : List Deferred} {n : Nat} {l : List (Nat × Value)} {a : Act} {ops : Array Oper} {Q : Exit → Act → World → Prop} {w : World} {rest : List Oper}
theorem aopU {S : World → Prop} {G : World → World → Prop} {T : Nat → Value → World → Prop} {i : Nat} {o : Oper} {L : Nat → Prop} {s : Sem Unit} {l' : List (Nat × Value)} (h : Kn D n l' a) (hd : o.dst = none) (hw : Wants ops l' o.guard true) (he : execOp a.eval o = ul s)
    (H : ∀ K : World → Prop, (∀ w', T i undef w' → S w' → G w w' → K w') → SatU K (s.run P w)) : Op1 P ops Q S G T F0 i o L a w := by
  unfold Op1;rw [h.wants hw, if_pos rfl];unfold Oper.wp;rw [he];have := H _ fun w' h1 h2 h3 => (show ∃ v, a.put o.dst undef = a.put o.dst v ∧ T i v w' ∧ S w' ∧ G w w' ∧ ∀ k d, k ≠ i → L k → (ops[k]?).bind (·.dst) = some d → F0 i k v (a.eval (.tmp d)) ∧ F0 k i (a.eval (.tmp d)) v from ⟨_, rfl, h1, h2, h3, fun _ _ _ _ _ => ⟨trivial, trivial⟩⟩)
  cases hs : s.run P w with
  | ok v w' =>
    rw [hs] at this;simp [go_sem, hs];exact this
  | halt x w' => rw [hs] at this; exact this.elim
theorem andThen_ok {α β : Type} (v : α) (w : World) (f : α → World → Result β) : (Result.ok v w).andThen f = f v w := rfl
end
end Go.Proofs.YtkbkdbnmpicidaaDoor.Kd
end
section
namespace Go.Proofs.YtkbkdbnmpicidaaDoor.Blk
open Go Go.RowKit Go.Lib RowG Num
def OwnB (w : World) (v : Value) (l : List UInt8) : Prop := w.ownsRow 0 5 1 v l.length (Lib.byteCells l)
theorem OwnB.nil (w : World) : OwnB w (.slice none 0 0) [] := World.ownsRow_nil _ _ _ _
theorem OwnB.form {w : World} {v : Value} {l : List UInt8} (h : OwnB w v l) : ∃ A c, v = .slice A l.length c := by
  rcases h.2 with ⟨hv, hn⟩ | ⟨g, cap, cur, hv, _⟩
  · exact ⟨none, 0, by rw [hv, hn]⟩
  · exact ⟨_, _, hv⟩
end Go.Proofs.YtkbkdbnmpicidaaDoor.Blk
end
section
namespace Go.Proofs.YtkbkdbnmpicidaaDoor.Blk
open Go Go.RowKit Go.Lib
set_option maxRecDepth 100000 in
set_option maxHeartbeats 2000000 in
theorem count_any (n : Nat) (w : World) (hn : n ≤ 9223372036854775807) :
    Calls Tryd.prog 14 #[.int .i64 n] w fun e w' => e = .returned (.int .i64 (cntK n : Int)) ∧ w = w' := by
  refine Kn.calls Tryd.func14 rfl Tryd.ntmps14 rfl (.cons (t := 0) rfl .nil) fun fa0 fh0 => ?_;refine wp_seq_k fun K1 hK1 => ?_;refine wp_region_lit ?_;refine Kn.pure fh0 rfl rfl .none (Kn.ex_assign fh0 .const) fun fa1 fh1 => ?_;clear fh0 fa0;refine wpList_nil ?_;refine hK1 _ _ ?_;clear hK1 K1
  by_cases h1 : (n : Int) < 1
  · refine wp_seq_k fun K2 hK2 => ?_;refine wp_seq_k fun K3 hK3 => ?_;refine wp_region_lit ?_;refine Kn.pure fh1 rfl rfl .none (Kn.ex_move fh1 (.tmp rfl)) fun fa2 fh2 => ?_;clear fh1 fa1;refine Kn.step fh2 rfl rfl .none (Kn.ex_bin fh2 (.tmp rfl) .const) fun Ko hKo => ?_;go_simp;(try go_bits);refine hKo _ _ fun fa3 fh3 => ?_;clear hKo Ko fh2 fa2;refine wpList_nil ?_;refine hK3 _ _ ?_;clear hK3 K3;replace fh3 := fh3.cut (.cons (t := 4) rfl (.cons (t := 2) rfl (.cons (t := 0) rfl .nil)));refine Kn.yes fh3 (.tmp rfl) ?_;replace fh3 := fh3.cut (.cons (t := 2) rfl (.cons (t := 0) rfl .nil));refine wp_seq_k fun K4 hK4 => ?_;refine wp_region_lit ?_;refine Kn.pure fh3 rfl rfl .none (Kn.ex_assign fh3 .const) fun fa4 fh4 => ?_;clear fh3 fa3;refine wpList_nil ?_;refine hK4 _ _ ?_;clear hK4 K4;refine wp_ret ?_;refine Kn.then_ret ?_;obtain rfl : n = 0 := by omega
    exact Kn.ret1 fh4 rfl rfl ⟨rfl, rfl⟩
  obtain ⟨m, hm⟩ : ∃ m, n - 1 = m := ⟨_, rfl⟩;obtain ⟨c, hc⟩ : ∃ c, m / 64 = c := ⟨_, rfl⟩;obtain ⟨d, hd⟩ : ∃ d, cntK n = d := ⟨_, rfl⟩;have hcd : c + 1 = d := by unfold cntK at hd; omega
  rw [hd];have r1 : (n : Int) - 1 = (m : Int) := by omega
  have r2 : (m : Int).tdiv 64 = (c : Int) := by rw [Int.tdiv_eq_ediv_of_nonneg (by omega)]; omega
  have r3 : (c : Int) + 1 = (d : Int) := by omega
  have hc2 : c ≤ 144115188075855872 := by omega
  have hd2 : d ≤ 144115188075855873 := by omega
  clear hd hm hc hcd;refine wp_seq_k fun K2 hK2 => ?_;refine wp_seq_k fun K3 hK3 => ?_;refine wp_region_lit ?_;refine Kn.pure fh1 rfl rfl .none (Kn.ex_move fh1 (.tmp rfl)) fun fa2 fh2 => ?_;clear fh1 fa1;refine Kn.step fh2 rfl rfl .none (Kn.ex_bin fh2 (.tmp rfl) .const) fun Ko hKo => ?_;go_simp;(try go_bits);refine hKo _ _ fun fa3 fh3 => ?_;clear hKo Ko fh2 fa2;refine wpList_nil ?_;refine hK3 _ _ ?_;clear hK3 K3;replace fh3 := fh3.cut (.cons (t := 4) rfl (.cons (t := 2) rfl (.cons (t := 0) rfl .nil)));refine Kn.no fh3 (.tmp rfl) ?_;refine wp_skip ?_;refine hK2 _ _ ?_;clear hK2 K2;replace fh3 := fh3.cut (.cons (t := 2) rfl (.cons (t := 0) rfl .nil));refine wp_seq_k fun K4 hK4 => ?_;refine wp_region_lit ?_;refine Kn.pure fh3 rfl rfl .none (Kn.ex_move fh3 (.tmp rfl)) fun fa4 fh4 => ?_;clear fh3 fa3;refine Kn.step fh4 rfl rfl .none (Kn.ex_bin fh4 (.tmp rfl) .const) fun Ko hKo => ?_;go_simp;(try go_bits);refine hKo _ _ fun fa5 fh5 => ?_;clear hKo Ko fh4 fa4;refine Kn.step fh5 rfl rfl .none (Kn.ex_bin fh5 (.tmp rfl) .const) fun Ko hKo => ?_;go_simp;(try go_bits);refine hKo _ _ fun fa6 fh6 => ?_;clear hKo Ko fh5 fa5;refine Kn.step fh6 rfl rfl .none (Kn.ex_bin fh6 (.tmp rfl) .const) fun Ko hKo => ?_;go_simp;(try go_bits);refine hKo _ _ fun fa7 fh7 => ?_;clear hKo Ko fh6 fa6;refine Kn.pure fh7 rfl rfl .none (Kn.ex_assign fh7 (.tmp rfl)) fun fa8 fh8 => ?_;clear fh7 fa7;refine wpList_nil ?_;refine hK4 _ _ ?_;clear hK4 K4;replace fh8 := fh8.cut (.cons (t := 2) rfl .nil);refine wp_ret ?_;exact Kn.ret1 fh8 rfl rfl ⟨rfl, rfl⟩
set_option maxRecDepth 100000 in
set_option maxHeartbeats 2000000 in
theorem size_any (n : Nat) (i : Int) (w : World) (hn : n ≤ 9223372036854775807) :
    Calls Tryd.prog 15 #[.int .i64 n, .int .i64 i] w fun e w' => e = .returned (.int .i64 (szK n i : Int)) ∧ w = w' := by
  refine Kn.calls Tryd.func15 rfl Tryd.ntmps15 rfl (.cons (t := 0) rfl (.cons (t := 1) rfl .nil)) fun fa0 fh0 => ?_;refine wp_seq_k fun K1 hK1 => ?_;refine wp_region_lit ?_;refine Kn.pure fh0 rfl rfl .none (Kn.ex_assign fh0 .const) fun fa1 fh1 => ?_;clear fh0 fa0;refine wpList_nil ?_;refine hK1 _ _ ?_;clear hK1 K1
  by_cases h1 : i < 0
  · refine wp_seq_k fun K2 hK2 => ?_;refine wp_seq_k fun K3 hK3 => ?_;refine wp_region_lit ?_;refine Kn.pure fh1 rfl rfl .none (Kn.ex_move fh1 (.tmp rfl)) fun fa2 fh2 => ?_;clear fh1 fa1;refine Kn.step fh2 rfl rfl .none (Kn.ex_bin fh2 (.tmp rfl) .const) fun Ko hKo => ?_;go_simp;(try go_bits);refine hKo _ _ fun fa3 fh3 => ?_;clear hKo Ko fh2 fa2;refine Kn.pure fh3 rfl rfl .none (Kn.ex_move fh3 (.tmp rfl)) fun fa4 fh4 => ?_;clear fh3 fa3;refine Kn.skip fh4 rfl rfl (.some rfl rfl rfl) fun fa5 fh5 => ?_;clear fh4 fa4;refine Kn.skip fh5 rfl rfl (.some rfl rfl rfl) fun fa6 fh6 => ?_;clear fh5 fa5;refine Kn.skip fh6 rfl rfl (.some rfl rfl rfl) fun fa7 fh7 => ?_;clear fh6 fa6;refine Kn.skip fh7 rfl rfl (.some rfl rfl rfl) fun fa8 fh8 => ?_;clear fh7 fa7;refine Kn.pure fh8 rfl rfl .none (Kn.ex_pick fh8 (.tmp rfl) .const) fun fa9 fh9 => ?_;clear fh8 fa8;refine wpList_nil ?_;refine hK3 _ _ ?_;clear hK3 K3;replace fh9 := fh9.cut (.cons (t := 12) rfl (.cons (t := 4) rfl (.cons (t := 0) rfl (.cons (t := 1) rfl .nil))));refine Kn.yes fh9 (.tmp rfl) ?_;replace fh9 := fh9.cut (.cons (t := 4) rfl (.cons (t := 0) rfl (.cons (t := 1) rfl .nil)));refine wp_seq_k fun K4 hK4 => ?_;refine wp_region_lit ?_;refine Kn.pure fh9 rfl rfl .none (Kn.ex_assign fh9 .const) fun fa10 fh10 => ?_;clear fh9 fa9;refine wpList_nil ?_;refine hK4 _ _ ?_;clear hK4 K4;refine wp_ret ?_;refine Kn.then_ret ?_;rw [show szK n i = 0 by unfold szK; rw [if_neg (by omega)]];exact Kn.ret1 fh10 rfl rfl ⟨rfl, rfl⟩
  by_cases h2 : (cntK n : Int) ≤ i
  · refine wp_seq_k fun K2 hK2 => ?_;refine wp_seq_k fun K3 hK3 => ?_;refine wp_region_lit ?_;refine Kn.pure fh1 rfl rfl .none (Kn.ex_move fh1 (.tmp rfl)) fun fa2 fh2 => ?_;clear fh1 fa1;refine Kn.step fh2 rfl rfl .none (Kn.ex_bin fh2 (.tmp rfl) .const) fun Ko hKo => ?_;go_simp;(try go_bits);refine hKo _ _ fun fa3 fh3 => ?_;clear hKo Ko fh2 fa2;refine Kn.pure fh3 rfl rfl .none (Kn.ex_move fh3 (.tmp rfl)) fun fa4 fh4 => ?_;clear fh3 fa3;refine Kn.pure fh4 rfl rfl (.some rfl rfl rfl) (Kn.ex_move fh4 (.tmp rfl)) fun fa5 fh5 => ?_;clear fh4 fa4;refine Kn.pure fh5 rfl rfl (.some rfl rfl rfl) (Kn.ex_move fh5 (.tmp rfl)) fun fa6 fh6 => ?_;clear fh5 fa5;refine Kn.call fh6 rfl rfl (.some rfl rfl rfl) (Kn.ex_call fh6 (.cons (.tmp rfl) .nil)) Tryd.call14 (count_any n w hn) fun e w1 hp => ?_;obtain ⟨rfl, rfl⟩ := hp;refine ⟨_, rfl, fun fa7 fh7 => ?_⟩;clear fh6 fa6;refine Kn.step fh7 rfl rfl (.some rfl rfl rfl) (Kn.ex_bin fh7 (.tmp rfl) (.tmp rfl)) fun Ko hKo => ?_;go_simp;(try go_bits);refine hKo _ _ fun fa8 fh8 => ?_;clear hKo Ko fh7 fa7;refine Kn.pure fh8 rfl rfl .none (Kn.ex_pick fh8 (.tmp rfl) (.tmp rfl)) fun fa9 fh9 => ?_;clear fh8 fa8;refine wpList_nil ?_;refine hK3 _ _ ?_;clear hK3 K3;replace fh9 := fh9.cut (.cons (t := 12) rfl (.cons (t := 4) rfl (.cons (t := 0) rfl (.cons (t := 1) rfl .nil))));refine Kn.yes fh9 (.tmp rfl) ?_;replace fh9 := fh9.cut (.cons (t := 4) rfl (.cons (t := 0) rfl (.cons (t := 1) rfl .nil)));refine wp_seq_k fun K4 hK4 => ?_;refine wp_region_lit ?_;refine Kn.pure fh9 rfl rfl .none (Kn.ex_assign fh9 .const) fun fa10 fh10 => ?_;clear fh9 fa9;refine wpList_nil ?_;refine hK4 _ _ ?_;clear hK4 K4;refine wp_ret ?_;refine Kn.then_ret ?_;rw [show szK n i = 0 by unfold szK; rw [if_neg (by omega)]];exact Kn.ret1 fh10 rfl rfl ⟨rfl, rfl⟩
  obtain ⟨k, rfl⟩ := Int.eq_ofNat_of_zero_le (show 0 ≤ i by omega);have hk : k < cntK n := by omega
  rw [szK_at hk];obtain ⟨p, hp⟩ : ∃ p, 64 * k = p := ⟨_, rfl⟩;rw [hp];have hpn : p < n := by unfold cntK at hk; omega
  obtain ⟨q, hq⟩ : ∃ q, n - p = q := ⟨_, rfl⟩;rw [hq];have r1 : (k : Int) * 64 = (p : Int) := by omega
  have r2 : (n : Int) - (p : Int) = (q : Int) := by omega
  clear hp hq hpn hk;refine wp_seq_k fun K2 hK2 => ?_;refine wp_seq_k fun K3 hK3 => ?_;refine wp_region_lit ?_;refine Kn.pure fh1 rfl rfl .none (Kn.ex_move fh1 (.tmp rfl)) fun fa2 fh2 => ?_;clear fh1 fa1;refine Kn.step fh2 rfl rfl .none (Kn.ex_bin fh2 (.tmp rfl) .const) fun Ko hKo => ?_;go_simp;(try go_bits);refine hKo _ _ fun fa3 fh3 => ?_;clear hKo Ko fh2 fa2;refine Kn.pure fh3 rfl rfl .none (Kn.ex_move fh3 (.tmp rfl)) fun fa4 fh4 => ?_;clear fh3 fa3;refine Kn.pure fh4 rfl rfl (.some rfl rfl rfl) (Kn.ex_move fh4 (.tmp rfl)) fun fa5 fh5 => ?_;clear fh4 fa4;refine Kn.pure fh5 rfl rfl (.some rfl rfl rfl) (Kn.ex_move fh5 (.tmp rfl)) fun fa6 fh6 => ?_;clear fh5 fa5;refine Kn.call fh6 rfl rfl (.some rfl rfl rfl) (Kn.ex_call fh6 (.cons (.tmp rfl) .nil)) Tryd.call14 (count_any n w hn) fun e w1 hp => ?_;obtain ⟨rfl, rfl⟩ := hp;refine ⟨_, rfl, fun fa7 fh7 => ?_⟩;clear fh6 fa6;refine Kn.step fh7 rfl rfl (.some rfl rfl rfl) (Kn.ex_bin fh7 (.tmp rfl) (.tmp rfl)) fun Ko hKo => ?_;go_simp;(try go_bits);refine hKo _ _ fun fa8 fh8 => ?_;clear hKo Ko fh7 fa7;refine Kn.pure fh8 rfl rfl .none (Kn.ex_pick fh8 (.tmp rfl) (.tmp rfl)) fun fa9 fh9 => ?_;clear fh8 fa8;refine wpList_nil ?_;refine hK3 _ _ ?_;clear hK3 K3;replace fh9 := fh9.cut (.cons (t := 12) rfl (.cons (t := 4) rfl (.cons (t := 0) rfl (.cons (t := 1) rfl .nil))));refine Kn.no fh9 (.tmp rfl) ?_;refine wp_skip ?_;refine hK2 _ _ ?_;clear hK2 K2;replace fh9 := fh9.cut (.cons (t := 4) rfl (.cons (t := 0) rfl (.cons (t := 1) rfl .nil)));refine wp_seq_k fun K4 hK4 => ?_;refine wp_region_lit ?_;refine Kn.pure fh9 rfl rfl .none (Kn.ex_move fh9 (.tmp rfl)) fun fa10 fh10 => ?_;clear fh9 fa9;refine Kn.pure fh10 rfl rfl .none (Kn.ex_move fh10 (.tmp rfl)) fun fa11 fh11 => ?_;clear fh10 fa10;refine Kn.step fh11 rfl rfl .none (Kn.ex_bin fh11 (.tmp rfl) .const) fun Ko hKo => ?_;go_simp;(try go_bits);refine hKo _ _ fun fa12 fh12 => ?_;clear hKo Ko fh11 fa11;refine Kn.step fh12 rfl rfl .none (Kn.ex_bin fh12 (.tmp rfl) (.tmp rfl)) fun Ko hKo => ?_;go_simp;(try go_bits);refine hKo _ _ fun fa13 fh13 => ?_;clear hKo Ko fh12 fa12;refine Kn.step fh13 rfl rfl .none (Kn.ex_min fh13 (.cons .const (.cons (.tmp rfl) .nil))) fun Ko hKo => ?_;go_simp;(try go_bits);refine hKo _ _ fun fa14 fh14 => ?_;clear hKo Ko fh13 fa13;refine Kn.pure fh14 rfl rfl .none (Kn.ex_assign fh14 (.tmp rfl)) fun fa15 fh15 => ?_;clear fh14 fa14;refine wpList_nil ?_;refine hK4 _ _ ?_;clear hK4 K4;replace fh15 := fh15.cut (.cons (t := 4) rfl .nil);refine wp_ret ?_;refine Kn.ret1 fh15 rfl rfl ⟨?_, rfl⟩
  by_cases hq : 64 ≤ q
  · first | go_num | (simp [Nat.min_eq_left hq]; try omega)
  · first | go_num | (simp [Nat.min_eq_right (Nat.le_of_not_le hq)]; try omega)
end Go.Proofs.YtkbkdbnmpicidaaDoor.Blk
end
section
namespace Go.Proofs.YtkbkdbnmpicidaaDoor.Sha
open Go.ChangeShapes
theorem weightsAll_strs {H : Type} (P : Program) (e : TypeId) (ss : List ByteArray) (s : ByteArray) (hs : s ∈ ss) : s.size ∈ DataW.weightsAll (H := H) P e (strs ss) := by
  induction ss with
  | nil => cases hs
  | cons a r ih =>
    have h0 : DataW.weightsAll (H := H) P e (strs (a :: r)) = [a.size] ++ DataW.weightsAll (H := H) P e (strs r) := by
      simp [strs, DataW.weightsAll, DataW.weights]
    rw [h0, List.mem_append];rcases List.mem_cons.1 hs with rfl | h
    · exact .inl (by simp)
    · exact .inr (ih h)
theorem sized_strs {H : Type} {P : Program} {ts : List TypeId} {ds : List (DataW H)} (h : (DataW.weightsEach P ts ds).all (· ≤ reachBytes) = true) {j : Nat} {t e : TypeId} {ss : List ByteArray} {sp : List (DataW H)} (ht : ts[j]? = some t) (hd : ds[j]? = some (.slice (strs ss) sp)) (hu : P.underlying t = some (.slice e))
    (s : ByteArray) (hs : s ∈ ss) : s.size ≤ 140737488351232 := by
  have := List.all_eq_true.1 h _ (DataW.weights_mem_each ht hd s.size (by
    simp only [DataW.weights, hu]
    exact List.mem_cons_of_mem _ (List.mem_append_left _ (weightsAll_strs P e ss s hs))))
  exact of_decide_eq_true this
end Go.Proofs.YtkbkdbnmpicidaaDoor.Sha
end
section
namespace Go.Proofs.YtkbkdbnmpicidaaDoor.Blk
open Go Go.RowKit Go.Lib RowG
open Go.ChangeShapes
def SArg (w : World) (A : Option Addr) (n : Nat) (f : Nat → Value) : Prop := ∀ k, k < n → ∃ b o, A = some ⟨b, o, none⟩ ∧ b < w.heap.size ∧ w.cell? ⟨b, o + k, none⟩ = some (f k)
def VIn (w : World) (A : Option Addr) (n : Nat) (f : Nat → Value) : Prop := SArg w A n f
theorem SArg.rin {w : World} {A : Option Addr} {n : Nat} {f : Nat → ByteArray} (h : SArg w A n (fun k => .string (f k))) : RIn txR w A ((List.range n).map f) := fun i a hi => by
  rw [List.getElem?_map] at hi;rcases Nat.lt_or_ge i n with hn | hn
  · rw [List.getElem?_range hn] at hi;simp only [Option.map_some, Option.some.injEq] at hi;subst hi;obtain ⟨b, o, h1, h2, h3⟩ := h i hn;refine ⟨b, o, h1, h2, fun j u hj => ?_⟩
    have : j = 0 ∧ u = .string (f i) := by
      cases j with
      | zero => simp [txR] at hj; exact ⟨rfl, hj.symm⟩
      | succ j => simp [txR] at hj
    obtain ⟨rfl, rfl⟩ := this;rw [show o + (i * txR.size + 0) = o + i by show o + (i * 1 + 0) = _; omega];exact h3
  · rw [List.getElem?_eq_none (by simpa using hn)] at hi;cases hi
theorem sized_strs {H : Type} {P : Program} {ts : List TypeId} {ds : List (DataW H)} (h : (DataW.weightsEach P ts ds).all (· ≤ reachBytes) = true) {j : Nat} {t e : TypeId} {ss : List ByteArray} {sp : List (DataW H)} (ht : ts[j]? = some t) (hd : ds[j]? = some (.slice (strs ss) sp)) (hu : P.underlying t = some (.slice e))
    (s : ByteArray) (hs : s ∈ ss) : s.size ≤ 140737488351232 := Sha.sized_strs h ht hd hu s hs
end Go.Proofs.YtkbkdbnmpicidaaDoor.Blk
end
