/- A part of the proof of ShardSplitsCardSaid: texts that lead to it, merged. -/
import Derived.Test.YtbcokncfkikalaaGreatDoorChecked
import Derived.WalkKit
import Derived.WalkSpells
import Derived.WalkLawsBesides
import Derived.LaidEql
import Derived.Stop.Asserts
import Derived.RowKitTokens
import Derived.Lib.Hide
import Derived.Test.YtbcokncfkikalaaGreatDoorCards
import Derived.Test.YtbcokncfkikalaaGreatDoorTie
import Derived.ProofKit
import Derived.OpenShut
import Derived.ShutString
import Derived.Deep.DeepHandedRow
import Derived.LaidLaws
import Derived.LaidHandle
import Derived.Stop.Joined
import Derived.StillTailTactics
import Derived.Deep.QuietTactic
import Derived.BigCall
import Derived.Deep.LoopGhost
import Derived.Below
import Derived.Maps.AppendAt
import Derived.Deep.AppendLies
import Derived.Deep.Draws
import Derived.Lib.SmallJoins
import Derived.Laws.Rows
import Derived.Laws.Tables
import Derived.Laws.CopyOwn
import Derived.Laws.ResultCell
import Derived.OwnWalk
import Derived.IntWalk
import Derived.Laws.IdiomStrings
import Derived.Lib.UnsafeStr
import Derived.Laws.BitsAllLaws
import Derived.Deep.RegionWith
import Derived.Deep.MidRow
import Derived.Lib.EndianMore
import Derived.Laws.IdiomCopy
import Derived.Laws.OwnMore
section
namespace Go.Proofs.YtbcokncfkikalaaGreatDoor.Err
open Go.RowKit Go.Extern.Stop Go.Stop Go.Extern
theorem one_match.{u} (m : Array Value → Sort u) (v : Value) (f : (v : Value) → m #[v]) (g : (x : Array Value) → m x) : ReflectliteValue.method.match_2 m #[v] f g = f v := rfl
theorem two_match.{u} (m : Array Value → Sort u) (v x : Value) (f : (v x : Value) → m #[v, x]) (g : (x : Array Value) → m x) : ReflectliteValue.set.match_3 m #[v, x] f g = f v x := rfl
theorem methodKind (n : Nat) (h : Value) (w : World) : (Go.method (n + 1) 139 (.agg #[h]) "Kind").run Tryz.prog w = .ok (117, h) w := by kernel_rfl
theorem methodElem (n : Nat) (h : Value) (w : World) : (Go.method (n + 1) 139 (.agg #[h]) "Elem").run Tryz.prog w = .ok (130, .agg #[h]) w := by kernel_rfl
theorem methodImplements (n : Nat) (h : Value) (w : World) : (Go.method (n + 1) 139 (.agg #[h]) "Implements").run Tryz.prog w = .ok (131, .agg #[h]) w := by kernel_rfl
theorem methodAssignableTo (n : Nat) (h : Value) (w : World) : (Go.method (n + 1) 139 (.agg #[h]) "AssignableTo").run Tryz.prog w = .ok (128, .agg #[h]) w := by kernel_rfl
theorem valueOfPE (t : Addr) (w : World) : (ReflectliteValue.unpack (.iface 79 (.pointer (some t)))).run Tryz.prog w
    = .ok (.agg #[.pointer (some ⟨1, 79, none⟩), .pointer (some ⟨w.heap.size, 0, none⟩), .int .u64 150]) (w.alloc (.cells #[.pointer (some t)] 79)) := by kernel_rfl
theorem typePE (a : Addr) (w : World) : (ReflectliteValue.methodAny (ReflectliteValue.valueError "reflectlite.Value.Type" 0) (fun t _ _ _ => ReflectliteType.toType t) #[.agg #[.pointer (some ⟨1, 79, none⟩), .pointer (some a), .int .u64 150]]).run Tryz.prog w
    = .ok (.iface 139 (.agg #[.pointer (some ⟨1, 79, none⟩)])) w := by kernel_rfl
theorem kindPE (w : World) : ((ReflectliteType.abiMethod fun t => (fun a : Nat => Value.int IntKind.u8 (a : Int)) <$> Rtype.kind t) #[.pointer (some ⟨1, 79, none⟩)]).run Tryz.prog w = .ok (.int .u8 22) w := by kernel_rfl
theorem kindE (w : World) : ((ReflectliteType.abiMethod fun t => (fun a : Nat => Value.int IntKind.u8 (a : Int)) <$> Rtype.kind t) #[.pointer (some ⟨1, 72, none⟩)]).run Tryz.prog w = .ok (.int .u8 2) w := by kernel_rfl
theorem partsPE (a : Addr) (w : World) : (ReflectliteValue.parts (.agg #[.pointer (some ⟨1, 79, none⟩), .pointer (some a), .int .u64 150])).run Tryz.prog w = .ok (some (79, a, 150)) w := by kernel_rfl
theorem isNilPE (a p : Addr) (W : World) (ha : W.cell? a = some (.pointer (some p))) :
    (ReflectliteValue.method (ReflectliteValue.valueError "reflectlite.Value.IsNil" 0) ReflectliteValue.isNil #[.agg #[.pointer (some ⟨1, 79, none⟩), .pointer (some a), .int .u64 150]]).run Tryz.prog W = .ok (.bool false) W := by
  delta ReflectliteValue.method
  rw [one_match];simp only [Sem.run_bind, partsPE, Result.andThen];simp [ReflectliteValue.isNil, loadVar, isAgg, underlying, Tryz.underlying79, ha, Result.andThen]
theorem elemPE (w : World) : (ReflectliteType.method ReflectliteType.elem #[.agg #[.pointer (some ⟨1, 79, none⟩)]]).run Tryz.prog w = .ok (.iface 139 (.agg #[.pointer (some ⟨1, 72, none⟩)])) w := by kernel_rfl
theorem implementsE (w : World) : (ReflectliteType.relation "Implements" ReflectliteType.implements_ #[.agg #[.pointer (some ⟨1, 72, none⟩)], .iface 139 (.agg #[.pointer (some ⟨1, 27, none⟩)])]).run Tryz.prog w = .ok (.bool true) w := by kernel_rfl
theorem typeOfE (v : Value) (w : World) : (ReflectliteType.typeOf #[.iface 72 v]).run Tryz.prog w = .ok (.iface 139 (.agg #[.pointer (some ⟨1, 72, none⟩)])) w := by kernel_rfl
theorem elemOfPE (w : World) : (Rtype.elem? 79).run Tryz.prog w = .ok (some 72) w := by kernel_rfl
theorem mkE (p : Addr) (w : World) : (ReflectliteValue.mk 72 p ReflectliteValue.flagAddr).run Tryz.prog w = .ok (.agg #[.pointer (some ⟨1, 72, none⟩), .pointer (some p), .int .u64 386]) w := by kernel_rfl
theorem elemVE (a p : Addr) (W : World) (ha : W.cell? a = some (.pointer (some p))) :
    (ReflectliteValue.method (ReflectliteValue.valueError "reflectlite.Value.Elem" 0) ReflectliteValue.elem #[.agg #[.pointer (some ⟨1, 79, none⟩), .pointer (some a), .int .u64 150]]).run Tryz.prog W
      = .ok (.agg #[.pointer (some ⟨1, 72, none⟩), .pointer (some p), .int .u64 386]) W := by
  delta ReflectliteValue.method
  rw [one_match];simp only [Sem.run_bind, partsPE, Result.andThen];simp [ReflectliteValue.elem, loadVar, isAgg, underlying, Tryz.underlying79, ha, Result.andThen, elemOfPE, mkE]
theorem partsAE (a : Addr) (w : World) : (ReflectliteValue.parts (.agg #[.pointer (some ⟨1, 72, none⟩), .pointer (some a), .int .u64 386])).run Tryz.prog w = .ok (some (72, a, 386)) w := by kernel_rfl
theorem partsE (a : Addr) (w : World) : (ReflectliteValue.parts (.agg #[.pointer (some ⟨1, 72, none⟩), .pointer (some a), .int .u64 130])).run Tryz.prog w = .ok (some (72, a, 130)) w := by kernel_rfl
theorem directE (w : World) : (Rtype.directlyAssignable 72 72).run Tryz.prog w = .ok true w := by kernel_rfl
theorem valueOfPF (t : Addr) (w : World) : (ReflectliteValue.unpack (.iface 100 (.pointer (some t)))).run Tryz.prog w
    = .ok (.agg #[.pointer (some ⟨1, 100, none⟩), .pointer (some ⟨w.heap.size, 0, none⟩), .int .u64 150]) (w.alloc (.cells #[.pointer (some t)] 100)) := by kernel_rfl
theorem typePF (a : Addr) (w : World) : (ReflectliteValue.methodAny (ReflectliteValue.valueError "reflectlite.Value.Type" 0) (fun t _ _ _ => ReflectliteType.toType t) #[.agg #[.pointer (some ⟨1, 100, none⟩), .pointer (some a), .int .u64 150]]).run Tryz.prog w
    = .ok (.iface 139 (.agg #[.pointer (some ⟨1, 100, none⟩)])) w := by kernel_rfl
theorem kindPF (w : World) : ((ReflectliteType.abiMethod fun t => (fun a : Nat => Value.int IntKind.u8 (a : Int)) <$> Rtype.kind t) #[.pointer (some ⟨1, 100, none⟩)]).run Tryz.prog w = .ok (.int .u8 22) w := by kernel_rfl
theorem kindF (w : World) : ((ReflectliteType.abiMethod fun t => (fun a : Nat => Value.int IntKind.u8 (a : Int)) <$> Rtype.kind t) #[.pointer (some ⟨1, 99, none⟩)]).run Tryz.prog w = .ok (.int .u8 25) w := by kernel_rfl
theorem partsPF (a : Addr) (w : World) : (ReflectliteValue.parts (.agg #[.pointer (some ⟨1, 100, none⟩), .pointer (some a), .int .u64 150])).run Tryz.prog w = .ok (some (100, a, 150)) w := by kernel_rfl
theorem isNilPF (a p : Addr) (W : World) (ha : W.cell? a = some (.pointer (some p))) :
    (ReflectliteValue.method (ReflectliteValue.valueError "reflectlite.Value.IsNil" 0) ReflectliteValue.isNil #[.agg #[.pointer (some ⟨1, 100, none⟩), .pointer (some a), .int .u64 150]]).run Tryz.prog W = .ok (.bool false) W := by
  delta ReflectliteValue.method
  rw [one_match];simp only [Sem.run_bind, partsPF, Result.andThen];simp [ReflectliteValue.isNil, loadVar, isAgg, underlying, Tryz.underlying100, ha, Result.andThen]
theorem elemPF (w : World) : (ReflectliteType.method ReflectliteType.elem #[.agg #[.pointer (some ⟨1, 100, none⟩)]]).run Tryz.prog w = .ok (.iface 139 (.agg #[.pointer (some ⟨1, 99, none⟩)])) w := by kernel_rfl
theorem implementsF (w : World) : (ReflectliteType.relation "Implements" ReflectliteType.implements_ #[.agg #[.pointer (some ⟨1, 99, none⟩)], .iface 139 (.agg #[.pointer (some ⟨1, 27, none⟩)])]).run Tryz.prog w = .ok (.bool true) w := by kernel_rfl
theorem typeOfF (v : Value) (w : World) : (ReflectliteType.typeOf #[.iface 99 v]).run Tryz.prog w = .ok (.iface 139 (.agg #[.pointer (some ⟨1, 99, none⟩)])) w := by kernel_rfl
theorem elemOfPF (w : World) : (Rtype.elem? 100).run Tryz.prog w = .ok (some 99) w := by kernel_rfl
theorem mkF (p : Addr) (w : World) : (ReflectliteValue.mk 99 p ReflectliteValue.flagAddr).run Tryz.prog w = .ok (.agg #[.pointer (some ⟨1, 99, none⟩), .pointer (some p), .int .u64 409]) w := by kernel_rfl
theorem elemVF (a p : Addr) (W : World) (ha : W.cell? a = some (.pointer (some p))) :
    (ReflectliteValue.method (ReflectliteValue.valueError "reflectlite.Value.Elem" 0) ReflectliteValue.elem #[.agg #[.pointer (some ⟨1, 100, none⟩), .pointer (some a), .int .u64 150]]).run Tryz.prog W
      = .ok (.agg #[.pointer (some ⟨1, 99, none⟩), .pointer (some p), .int .u64 409]) W := by
  delta ReflectliteValue.method
  rw [one_match];simp only [Sem.run_bind, partsPF, Result.andThen];simp [ReflectliteValue.elem, loadVar, isAgg, underlying, Tryz.underlying100, ha, Result.andThen, elemOfPF, mkF]
theorem partsAF (a : Addr) (w : World) : (ReflectliteValue.parts (.agg #[.pointer (some ⟨1, 99, none⟩), .pointer (some a), .int .u64 409])).run Tryz.prog w = .ok (some (99, a, 409)) w := by kernel_rfl
theorem partsF (a : Addr) (w : World) : (ReflectliteValue.parts (.agg #[.pointer (some ⟨1, 99, none⟩), .pointer (some a), .int .u64 153])).run Tryz.prog w = .ok (some (99, a, 153)) w := by kernel_rfl
theorem directF (w : World) : (Rtype.directlyAssignable 99 99).run Tryz.prog w = .ok true w := by kernel_rfl
theorem assignableEE (w : World) : (ReflectliteType.relation "AssignableTo" ReflectliteType.assignableTo #[.agg #[.pointer (some ⟨1, 72, none⟩)], .iface 139 (.agg #[.pointer (some ⟨1, 72, none⟩)])]).run Tryz.prog w = .ok (.bool true) w := by kernel_rfl
theorem assignableFE (w : World) : (ReflectliteType.relation "AssignableTo" ReflectliteType.assignableTo #[.agg #[.pointer (some ⟨1, 99, none⟩)], .iface 139 (.agg #[.pointer (some ⟨1, 72, none⟩)])]).run Tryz.prog w = .ok (.bool false) w := by kernel_rfl
theorem assignableFF (w : World) : (ReflectliteType.relation "AssignableTo" ReflectliteType.assignableTo #[.agg #[.pointer (some ⟨1, 99, none⟩)], .iface 139 (.agg #[.pointer (some ⟨1, 99, none⟩)])]).run Tryz.prog w = .ok (.bool true) w := by kernel_rfl
theorem valueOfE (c : Int) (w : World) : (ReflectliteValue.unpack (.iface 72 (.int .i64 c))).run Tryz.prog w
    = .ok (.agg #[.pointer (some ⟨1, 72, none⟩), .pointer (some ⟨w.heap.size, 0, none⟩), .int .u64 130]) (w.alloc (.cells #[.int .i64 c] 72)) := by kernel_rfl
theorem valueOfF (x y : Value) (w : World) : (ReflectliteValue.unpack (.iface 99 (.agg #[x, y]))).run Tryz.prog w
    = .ok (.agg #[.pointer (some ⟨1, 99, none⟩), .pointer (some ⟨w.heap.size, 0, none⟩), .int .u64 153]) (w.alloc (.cells #[x, y] 99)) := by kernel_rfl
theorem setE (ta b : Addr) (c : Int) (old : Value) (W : World) (hb : W.cell? b = some (.int .i64 c)) (ht : W.cell? ta = some old) (hf : W.frozen? ta = false) :
    (ReflectliteValue.set #[.agg #[.pointer (some ⟨1, 72, none⟩), .pointer (some ta), .int .u64 386], .agg #[.pointer (some ⟨1, 72, none⟩), .pointer (some b), .int .u64 130]]).run Tryz.prog W
      = .ok (.tuple #[]) (W.setCell ta (.int .i64 c)) := by
  delta ReflectliteValue.set
  rw [two_match];simp only [Sem.run_bind, partsAE, partsE, Result.andThen];simp [ReflectliteValue.flagAddr, loadVar, isAgg, underlying, Tryz.underlying72, hb, Result.andThen, directE, storeVar, Value.cells, storeCells, Addr.add];rw [run_store Tryz.prog W ta _ _ (by rfl)];simp [ht, hf]
theorem noAsF (v : Value) (x : TypeId) (w : World) : (Instr.typeAssert (.iface 99 v) x 144 true).run Tryz.prog w = .ok (.tuple #[.nilIface, .bool false]) w := run_typeAssert_lacksB Tryz.underlying144 (by kernel_rfl) (by kernel_rfl) v x w
theorem hasUnF (v : Value) (x : TypeId) (w : World) : (Instr.typeAssert (.iface 99 v) x 147 true).run Tryz.prog w = .ok (.tuple #[.iface 99 v, .bool true]) w := run_typeAssert_hasB Tryz.underlying147 (by kernel_rfl) v x w
theorem methodUnwrap (n : Nat) (x y : Value) (w : World) : (Go.method (n + 1) 99 (.agg #[x, y]) "Unwrap").run Tryz.prog w = .ok (123, .agg #[x, y]) w := by kernel_rfl
end Go.Proofs.YtbcokncfkikalaaGreatDoor.Err
end
section
namespace Go.Proofs.YtbcokncfkikalaaGreatDoor.Err
open Go.RowKit Go.Extern.Stop Go.Stop Go.Extern
def ErrTab (w : World) : Prop := w.cell? ⟨0, 0, none⟩ = some (.iface 139 (.agg #[.pointer (some ⟨1, 27, none⟩)]))
theorem ErrTab.lt {w : World} (h : ErrTab w) : 0 < w.heap.size := by
  unfold ErrTab at h;rcases Nat.lt_or_ge 0 w.heap.size with h0 | h0
  · exact h0
  · simp [World.cell?, Array.getElem?_eq_none h0] at h
theorem ErrTab.below {B : Nat} {w w' : World} (h : ErrTab w) (hb : Below B w w') (hB : 0 < B) : ErrTab w' := (hb.cell (p := ⟨0, 0, none⟩) hB).trans h
theorem ErrTab.on {w w' : World} (h : ErrTab w) (hb : Below w.heap.size w w') : ErrTab w' := h.below hb h.lt
theorem ErrTab.alloc {w : World} (h : ErrTab w) (o : Obj) : ErrTab (w.alloc o) := (World.cell?_alloc_lt w o ⟨0, 0, none⟩ h.lt).trans h
theorem setF (g : Nat) (b : Nat) (x y old0 old1 : Value) (W : World) (hx : x.oneCell' = true) (hy : y.oneCell' = true) (hb0 : W.cell? ⟨b, 0, none⟩ = some x) (hb1 : W.cell? ⟨b, 1, none⟩ = some y)
    (h0 : W.cell? ⟨g, 0, none⟩ = some old0) (h1 : W.cell? ⟨g, 1, none⟩ = some old1) (hf0 : W.frozen? ⟨g, 0, none⟩ = false) (hf1 : W.frozen? ⟨g, 1, none⟩ = false) :
    (ReflectliteValue.set #[.agg #[.pointer (some ⟨1, 99, none⟩), .pointer (some ⟨g, 0, none⟩), .int .u64 409], .agg #[.pointer (some ⟨1, 99, none⟩), .pointer (some ⟨b, 0, none⟩), .int .u64 153]]).run Tryz.prog W
      = .ok (.tuple #[]) ((W.setCell ⟨g, 0, none⟩ x).setCell ⟨g, 1, none⟩ y) := by
  have hl := run_loadCells_list (P := Tryz.prog) W ⟨b, 0, none⟩ [x, y] (fun j v hj => by
    match j, hj with
    | 0, hj => simp at hj; subst hj; simpa [Addr.add] using hb0
    | 1, hj => simp at hj; subst hj; simpa [Addr.add] using hb1)
  have hsz : ∀ w, (sizeOf 99).run Tryz.prog w = .ok 2 w := fun _ => by kernel_rfl
  have hl' : (loadCells ⟨b, 0, none⟩ 2).run Tryz.prog W = .ok #[x, y] W := by simpa using hl
  delta ReflectliteValue.set
  rw [two_match];simp only [Sem.run_bind, partsAF, partsF, Result.andThen];simp [ReflectliteValue.flagAddr, loadVar, isAgg, underlying, Tryz.underlying99, Result.andThen, directF, hsz, hl', storeVar, Value.cells, storeCells, Addr.add];rw [run_store Tryz.prog W _ _ _ hx];simp [h0, hf0];rw [run_store Tryz.prog _ _ _ _ hy];simp [h1, hf1, World.cell?_setCell_other]
set_option maxHeartbeats 4000000 in
theorem as_EE (c : Int) (t : Addr) (old : Value) (w : World) (hg : ErrTab w) (ht0 : w.cell? t = some old) (hf0 : w.frozen? t = false) :
    Calls Tryz.prog 31 #[.iface 72 (.int .i64 c), .iface 79 (.pointer (some t))] w fun ev w' => ev = .returned (.bool true) ∧ w'.cell? t = some (.int .i64 c) ∧ Below t.block w w' := by
  have h0 := @run_callFunc_extern Tryz.prog 51 _ (fun args => ReflectliteValue.unpack (args.getD 0 (.tuple #[]))) Tryz.func51 (by kernel_rfl) (by kernel_rfl) (by kernel_rfl) (by kernel_rfl);have h1 := @run_callFunc_extern Tryz.prog 52 _ (ReflectliteValue.methodAny (ReflectliteValue.valueError "reflectlite.Value.Type" 0) (fun t _ _ _ => ReflectliteType.toType t)) Tryz.func52 (by kernel_rfl) (by kernel_rfl) (by kernel_rfl) (by kernel_rfl);have h2 := @run_callFunc_extern Tryz.prog 53 _ (ReflectliteValue.method (ReflectliteValue.valueError "reflectlite.Value.IsNil" 0) ReflectliteValue.isNil) Tryz.func53 (by kernel_rfl) (by kernel_rfl) (by kernel_rfl) (by kernel_rfl);have h3 := @run_callFunc_extern Tryz.prog 117 _ (ReflectliteType.abiMethod fun t => do pure (.int .u8 (← Rtype.kind t))) Tryz.func117 (by kernel_rfl) (by kernel_rfl) (by kernel_rfl) (by kernel_rfl);have h4 := @run_callFunc_extern Tryz.prog 130 _ (ReflectliteType.method ReflectliteType.elem) Tryz.func130 (by kernel_rfl) (by kernel_rfl) (by kernel_rfl) (by kernel_rfl);have h5 := @run_callFunc_extern Tryz.prog 131 _ (ReflectliteType.relation "Implements" ReflectliteType.implements_) Tryz.func131 (by kernel_rfl) (by kernel_rfl) (by kernel_rfl) (by kernel_rfl);have h6 := @run_callFunc_extern Tryz.prog 74 _ (ReflectliteType.typeOf) Tryz.func74 (by kernel_rfl) (by kernel_rfl) (by kernel_rfl) (by kernel_rfl);have h7 := @run_callFunc_extern Tryz.prog 128 _ (ReflectliteType.relation "AssignableTo" ReflectliteType.assignableTo) Tryz.func128 (by kernel_rfl) (by kernel_rfl) (by kernel_rfl) (by kernel_rfl);have h8 := @run_callFunc_extern Tryz.prog 75 _ (ReflectliteValue.method (ReflectliteValue.valueError "reflectlite.Value.Elem" 0) ReflectliteValue.elem) Tryz.func75 (by kernel_rfl) (by kernel_rfl) (by kernel_rfl) (by kernel_rfl);have h9 := @run_callFunc_extern Tryz.prog 76 _ (ReflectliteValue.set) Tryz.func76 (by kernel_rfl) (by kernel_rfl) (by kernel_rfl) (by kernel_rfl);have tO1 := typeOfE;have mA := methodAssignableTo;have f6 := valueOfPE;have f7 := typePE;have mK := methodKind;have mE := methodElem;have mI := methodImplements;have k27 := kindPE;have k25 := kindE;have e27 := elemPE;have i25 := implementsE
  have htl : t.block < w.heap.size := by
    rcases Nat.lt_or_ge t.block w.heap.size with h | h
    · exact h
    · simp [World.cell?, Array.getElem?_eq_none h] at ht0
  have hb3 : Below t.block w (((w.alloc (.cells #[.pointer (some t)] 79)).alloc (.cells #[.pointer (some ⟨1, 79, none⟩), .pointer (some ⟨w.heap.size, 0, none⟩), .int .u64 150] 113)).alloc (.cells #[.pointer (some ⟨1, 79, none⟩), .pointer (some ⟨w.heap.size, 0, none⟩), .int .u64 150] 113)) := (((Below.refl _ _).alloc (by omega) _).alloc (by simp; omega) _).alloc (by simp; omega) _;have HB3 := Lib.hid hb3;clear hb3;have n8 := isNilPE ⟨w.heap.size, 0, none⟩ t ((w.alloc (.cells #[.pointer (some t)] 79)).alloc (.cells #[.pointer (some ⟨1, 79, none⟩), .pointer (some ⟨w.heap.size, 0, none⟩), .int .u64 150] 113)) (by simp);have HG := Lib.hid ((hg.alloc (.cells #[.pointer (some t)] 79)).alloc (.cells #[.pointer (some ⟨1, 79, none⟩), .pointer (some ⟨w.heap.size, 0, none⟩), .int .u64 150] 113));have hg3 := HG.out;unfold ErrTab at hg3;have aEE := assignableEE;have vE := valueOfE;have el := elemVE ⟨w.heap.size, 0, none⟩ t (((w.alloc (.cells #[.pointer (some t)] 79)).alloc (.cells #[.pointer (some ⟨1, 79, none⟩), .pointer (some ⟨w.heap.size, 0, none⟩), .int .u64 150] 113)).alloc (.cells #[.pointer (some ⟨1, 79, none⟩), .pointer (some ⟨w.heap.size, 0, none⟩), .int .u64 150] 113)) (by rw [World.cell?_alloc_lt _ _ ⟨w.heap.size, 0, none⟩ (by simp; omega)]; simp);have htW : ((((w.alloc (.cells #[.pointer (some t)] 79)).alloc (.cells #[.pointer (some ⟨1, 79, none⟩), .pointer (some ⟨w.heap.size, 0, none⟩), .int .u64 150] 113)).alloc (.cells #[.pointer (some ⟨1, 79, none⟩), .pointer (some ⟨w.heap.size, 0, none⟩), .int .u64 150] 113)).alloc (.cells #[.int .i64 c] 72)).cell? t = some old := by rw [World.cell?_alloc_lt _ _ t (by simp; omega), World.cell?_alloc_lt _ _ t (by simp; omega), World.cell?_alloc_lt _ _ t (by simp; omega), World.cell?_alloc_lt _ _ t (by simpa using htl)]; exact ht0
  have HTW := Lib.hid htW
  have st := setE t ⟨w.heap.size + 1 + 1 + 1, 0, none⟩ c old ((((w.alloc (.cells #[.pointer (some t)] 79)).alloc (.cells #[.pointer (some ⟨1, 79, none⟩), .pointer (some ⟨w.heap.size, 0, none⟩), .int .u64 150] 113)).alloc (.cells #[.pointer (some ⟨1, 79, none⟩), .pointer (some ⟨w.heap.size, 0, none⟩), .int .u64 150] 113)).alloc (.cells #[.int .i64 c] 72))
    (by rw [World.cell?_alloc_at _ _ _ _ (by simp)]; rfl) htW (by rw [World.frozen?_alloc_old _ _ t (by simp; omega), World.frozen?_alloc_old _ _ t (by simp; omega), World.frozen?_alloc_old _ _ t (by simp; omega), World.frozen?_alloc_old _ _ t (by simp; omega)]; exact hf0)
  clear hg htW
  go_enter Tryz.func31, Tryz.ntmps31
  go_wp2
  refine wp_loop_rounds 1 ?_;rw [rounds_succ]
  go_wp2
  go_ret
  exact ⟨rfl, World.cell?_setCell_same _ _ _ HTW.out, (HB3.out.alloc (by simp; omega) _).setCell (Nat.le_refl _) _⟩
set_option maxHeartbeats 4000000 in
theorem as_FE (p c : Int) (t : Addr) (old : Value) (w : World) (hg : ErrTab w) (ht0 : w.cell? t = some old) (hf0 : w.frozen? t = false) :
    Calls Tryz.prog 31 #[.iface 99 (.agg #[.int .i64 p, .iface 72 (.int .i64 c)]), .iface 79 (.pointer (some t))] w fun ev w' => ev = .returned (.bool true) ∧ w'.cell? t = some (.int .i64 c) ∧ Below t.block w w' := by
  have h0 := @run_callFunc_extern Tryz.prog 51 _ (fun args => ReflectliteValue.unpack (args.getD 0 (.tuple #[]))) Tryz.func51 (by kernel_rfl) (by kernel_rfl) (by kernel_rfl) (by kernel_rfl);have h1 := @run_callFunc_extern Tryz.prog 52 _ (ReflectliteValue.methodAny (ReflectliteValue.valueError "reflectlite.Value.Type" 0) (fun t _ _ _ => ReflectliteType.toType t)) Tryz.func52 (by kernel_rfl) (by kernel_rfl) (by kernel_rfl) (by kernel_rfl);have h2 := @run_callFunc_extern Tryz.prog 53 _ (ReflectliteValue.method (ReflectliteValue.valueError "reflectlite.Value.IsNil" 0) ReflectliteValue.isNil) Tryz.func53 (by kernel_rfl) (by kernel_rfl) (by kernel_rfl) (by kernel_rfl);have h3 := @run_callFunc_extern Tryz.prog 117 _ (ReflectliteType.abiMethod fun t => do pure (.int .u8 (← Rtype.kind t))) Tryz.func117 (by kernel_rfl) (by kernel_rfl) (by kernel_rfl) (by kernel_rfl);have h4 := @run_callFunc_extern Tryz.prog 130 _ (ReflectliteType.method ReflectliteType.elem) Tryz.func130 (by kernel_rfl) (by kernel_rfl) (by kernel_rfl) (by kernel_rfl);have h5 := @run_callFunc_extern Tryz.prog 131 _ (ReflectliteType.relation "Implements" ReflectliteType.implements_) Tryz.func131 (by kernel_rfl) (by kernel_rfl) (by kernel_rfl) (by kernel_rfl);have h6 := @run_callFunc_extern Tryz.prog 74 _ (ReflectliteType.typeOf) Tryz.func74 (by kernel_rfl) (by kernel_rfl) (by kernel_rfl) (by kernel_rfl);have h7 := @run_callFunc_extern Tryz.prog 128 _ (ReflectliteType.relation "AssignableTo" ReflectliteType.assignableTo) Tryz.func128 (by kernel_rfl) (by kernel_rfl) (by kernel_rfl) (by kernel_rfl);have h8 := @run_callFunc_extern Tryz.prog 75 _ (ReflectliteValue.method (ReflectliteValue.valueError "reflectlite.Value.Elem" 0) ReflectliteValue.elem) Tryz.func75 (by kernel_rfl) (by kernel_rfl) (by kernel_rfl) (by kernel_rfl);have h9 := @run_callFunc_extern Tryz.prog 76 _ (ReflectliteValue.set) Tryz.func76 (by kernel_rfl) (by kernel_rfl) (by kernel_rfl) (by kernel_rfl);have tO1 := typeOfE;have mA := methodAssignableTo;have f6 := valueOfPE;have f7 := typePE;have mK := methodKind;have mE := methodElem;have mI := methodImplements;have k27 := kindPE;have k25 := kindE;have e27 := elemPE;have i25 := implementsE
  have htl : t.block < w.heap.size := by
    rcases Nat.lt_or_ge t.block w.heap.size with h | h
    · exact h
    · simp [World.cell?, Array.getElem?_eq_none h] at ht0
  have hb3 : Below t.block w (((w.alloc (.cells #[.pointer (some t)] 79)).alloc (.cells #[.pointer (some ⟨1, 79, none⟩), .pointer (some ⟨w.heap.size, 0, none⟩), .int .u64 150] 113)).alloc (.cells #[.pointer (some ⟨1, 79, none⟩), .pointer (some ⟨w.heap.size, 0, none⟩), .int .u64 150] 113)) := (((Below.refl _ _).alloc (by omega) _).alloc (by simp; omega) _).alloc (by simp; omega) _;have HB3 := Lib.hid hb3;clear hb3;have n8 := isNilPE ⟨w.heap.size, 0, none⟩ t ((w.alloc (.cells #[.pointer (some t)] 79)).alloc (.cells #[.pointer (some ⟨1, 79, none⟩), .pointer (some ⟨w.heap.size, 0, none⟩), .int .u64 150] 113)) (by simp);have HG := Lib.hid ((hg.alloc (.cells #[.pointer (some t)] 79)).alloc (.cells #[.pointer (some ⟨1, 79, none⟩), .pointer (some ⟨w.heap.size, 0, none⟩), .int .u64 150] 113));have hg3 := HG.out;unfold ErrTab at hg3;have tO2 := typeOfF;have aEE := assignableEE;have aFE := assignableFE;have vE := valueOfE;have nA := noAsF;have hU := hasUnF;have mU := methodUnwrap;have el := elemVE ⟨w.heap.size, 0, none⟩ t ((((w.alloc (.cells #[.pointer (some t)] 79)).alloc (.cells #[.pointer (some ⟨1, 79, none⟩), .pointer (some ⟨w.heap.size, 0, none⟩), .int .u64 150] 113)).alloc (.cells #[.pointer (some ⟨1, 79, none⟩), .pointer (some ⟨w.heap.size, 0, none⟩), .int .u64 150] 113)).alloc (.cells #[.int .i64 p, .iface 72 (.int .i64 c)] 99)) (by rw [World.cell?_alloc_lt _ _ ⟨w.heap.size, 0, none⟩ (by simp; omega)]; rw [World.cell?_alloc_lt _ _ ⟨w.heap.size, 0, none⟩ (by simp; omega)]; simp);have htW : (((((w.alloc (.cells #[.pointer (some t)] 79)).alloc (.cells #[.pointer (some ⟨1, 79, none⟩), .pointer (some ⟨w.heap.size, 0, none⟩), .int .u64 150] 113)).alloc (.cells #[.pointer (some ⟨1, 79, none⟩), .pointer (some ⟨w.heap.size, 0, none⟩), .int .u64 150] 113)).alloc (.cells #[.int .i64 p, .iface 72 (.int .i64 c)] 99)).alloc (.cells #[.int .i64 c] 72)).cell? t = some old := by rw [World.cell?_alloc_lt _ _ t (by simp; omega), World.cell?_alloc_lt _ _ t (by simp; omega), World.cell?_alloc_lt _ _ t (by simp; omega), World.cell?_alloc_lt _ _ t (by simp; omega), World.cell?_alloc_lt _ _ t (by simpa using htl)]; exact ht0
  have HTW := Lib.hid htW
  have st := setE t ⟨w.heap.size + 1 + 1 + 1 + 1, 0, none⟩ c old (((((w.alloc (.cells #[.pointer (some t)] 79)).alloc (.cells #[.pointer (some ⟨1, 79, none⟩), .pointer (some ⟨w.heap.size, 0, none⟩), .int .u64 150] 113)).alloc (.cells #[.pointer (some ⟨1, 79, none⟩), .pointer (some ⟨w.heap.size, 0, none⟩), .int .u64 150] 113)).alloc (.cells #[.int .i64 p, .iface 72 (.int .i64 c)] 99)).alloc (.cells #[.int .i64 c] 72))
    (by rw [World.cell?_alloc_at _ _ _ _ (by simp)]; rfl) htW (by rw [World.frozen?_alloc_old _ _ t (by simp; omega), World.frozen?_alloc_old _ _ t (by simp; omega), World.frozen?_alloc_old _ _ t (by simp; omega), World.frozen?_alloc_old _ _ t (by simp; omega), World.frozen?_alloc_old _ _ t (by simp; omega)]; exact hf0)
  clear hg htW
  go_enter Tryz.func31, Tryz.ntmps31
  go_wp2
  refine wp_loop_rounds 2 ?_;rw [rounds_succ]
  go_wp2
  rw [rounds_succ]
  go_wp2
  go_ret
  exact ⟨rfl, World.cell?_setCell_same _ _ _ HTW.out, ((HB3.out.alloc (by simp; omega) _).alloc (by simp; omega) _).setCell (Nat.le_refl _) _⟩
set_option maxHeartbeats 4000000 in
theorem as_FF (p c : Int) (t : Addr) (old old1 : Value) (w : World) (hg : ErrTab w) (hs : t.spot = none) (ho : t.off = 0) (ht0 : w.cell? t = some old) (ht1 : w.cell? ⟨t.block, 1, none⟩ = some old1) (hf0 : w.frozen? t = false) (hf1 : w.frozen? ⟨t.block, 1, none⟩ = false) :
    Calls Tryz.prog 31 #[.iface 99 (.agg #[.int .i64 p, .iface 72 (.int .i64 c)]), .iface 100 (.pointer (some t))] w fun ev w' => ev = .returned (.bool true) ∧ w'.cell? t = some (.int .i64 p) ∧ Below t.block w w' := by
  obtain ⟨g, off, spot⟩ := t;simp only at hs ho;subst hs ho;obtain ⟨t, ht⟩ : ∃ t : Addr, t = ⟨g, 0, none⟩ := ⟨_, rfl⟩;have htb : t.block = g := by rw [ht]
  rw [← ht] at ht0 hf0 ⊢;have h0 := @run_callFunc_extern Tryz.prog 51 _ (fun args => ReflectliteValue.unpack (args.getD 0 (.tuple #[]))) Tryz.func51 (by kernel_rfl) (by kernel_rfl) (by kernel_rfl) (by kernel_rfl);have h1 := @run_callFunc_extern Tryz.prog 52 _ (ReflectliteValue.methodAny (ReflectliteValue.valueError "reflectlite.Value.Type" 0) (fun t _ _ _ => ReflectliteType.toType t)) Tryz.func52 (by kernel_rfl) (by kernel_rfl) (by kernel_rfl) (by kernel_rfl);have h2 := @run_callFunc_extern Tryz.prog 53 _ (ReflectliteValue.method (ReflectliteValue.valueError "reflectlite.Value.IsNil" 0) ReflectliteValue.isNil) Tryz.func53 (by kernel_rfl) (by kernel_rfl) (by kernel_rfl) (by kernel_rfl);have h3 := @run_callFunc_extern Tryz.prog 117 _ (ReflectliteType.abiMethod fun t => do pure (.int .u8 (← Rtype.kind t))) Tryz.func117 (by kernel_rfl) (by kernel_rfl) (by kernel_rfl) (by kernel_rfl);have h4 := @run_callFunc_extern Tryz.prog 130 _ (ReflectliteType.method ReflectliteType.elem) Tryz.func130 (by kernel_rfl) (by kernel_rfl) (by kernel_rfl) (by kernel_rfl);have h5 := @run_callFunc_extern Tryz.prog 131 _ (ReflectliteType.relation "Implements" ReflectliteType.implements_) Tryz.func131 (by kernel_rfl) (by kernel_rfl) (by kernel_rfl) (by kernel_rfl);have h6 := @run_callFunc_extern Tryz.prog 74 _ (ReflectliteType.typeOf) Tryz.func74 (by kernel_rfl) (by kernel_rfl) (by kernel_rfl) (by kernel_rfl);have h7 := @run_callFunc_extern Tryz.prog 128 _ (ReflectliteType.relation "AssignableTo" ReflectliteType.assignableTo) Tryz.func128 (by kernel_rfl) (by kernel_rfl) (by kernel_rfl) (by kernel_rfl);have h8 := @run_callFunc_extern Tryz.prog 75 _ (ReflectliteValue.method (ReflectliteValue.valueError "reflectlite.Value.Elem" 0) ReflectliteValue.elem) Tryz.func75 (by kernel_rfl) (by kernel_rfl) (by kernel_rfl) (by kernel_rfl);have h9 := @run_callFunc_extern Tryz.prog 76 _ (ReflectliteValue.set) Tryz.func76 (by kernel_rfl) (by kernel_rfl) (by kernel_rfl) (by kernel_rfl);have tO1 := typeOfE;have mA := methodAssignableTo;have f6 := valueOfPF;have f7 := typePF;have mK := methodKind;have mE := methodElem;have mI := methodImplements;have k27 := kindPF;have k25 := kindF;have e27 := elemPF;have i25 := implementsF
  have htl : t.block < w.heap.size := by
    rcases Nat.lt_or_ge t.block w.heap.size with h | h
    · exact h
    · simp [World.cell?, Array.getElem?_eq_none h] at ht0
  have hb3 : Below t.block w (((w.alloc (.cells #[.pointer (some t)] 100)).alloc (.cells #[.pointer (some ⟨1, 100, none⟩), .pointer (some ⟨w.heap.size, 0, none⟩), .int .u64 150] 113)).alloc (.cells #[.pointer (some ⟨1, 100, none⟩), .pointer (some ⟨w.heap.size, 0, none⟩), .int .u64 150] 113)) := (((Below.refl _ _).alloc (by omega) _).alloc (by simp; omega) _).alloc (by simp; omega) _;have HB3 := Lib.hid hb3;clear hb3;have n8 := isNilPF ⟨w.heap.size, 0, none⟩ t ((w.alloc (.cells #[.pointer (some t)] 100)).alloc (.cells #[.pointer (some ⟨1, 100, none⟩), .pointer (some ⟨w.heap.size, 0, none⟩), .int .u64 150] 113)) (by simp);have HG := Lib.hid ((hg.alloc (.cells #[.pointer (some t)] 100)).alloc (.cells #[.pointer (some ⟨1, 100, none⟩), .pointer (some ⟨w.heap.size, 0, none⟩), .int .u64 150] 113));have hg3 := HG.out;unfold ErrTab at hg3;have tO2 := typeOfF;have aFF := assignableFF;have vF := valueOfF;have el := elemVF ⟨w.heap.size, 0, none⟩ t (((w.alloc (.cells #[.pointer (some t)] 100)).alloc (.cells #[.pointer (some ⟨1, 100, none⟩), .pointer (some ⟨w.heap.size, 0, none⟩), .int .u64 150] 113)).alloc (.cells #[.pointer (some ⟨1, 100, none⟩), .pointer (some ⟨w.heap.size, 0, none⟩), .int .u64 150] 113)) (by rw [World.cell?_alloc_lt _ _ ⟨w.heap.size, 0, none⟩ (by simp; omega)]; simp);subst ht;simp only at ht1 hf1 htl;have h1W : ((((w.alloc (.cells #[.pointer (some ⟨g, 0, none⟩)] 100)).alloc (.cells #[.pointer (some ⟨1, 100, none⟩), .pointer (some ⟨w.heap.size, 0, none⟩), .int .u64 150] 113)).alloc (.cells #[.pointer (some ⟨1, 100, none⟩), .pointer (some ⟨w.heap.size, 0, none⟩), .int .u64 150] 113)).alloc (.cells #[.int .i64 p, .iface 72 (.int .i64 c)] 99)).cell? ⟨g, 1, none⟩ = some old1 := by rw [World.cell?_alloc_lt _ _ ⟨g, 1, none⟩ (by simp; omega), World.cell?_alloc_lt _ _ ⟨g, 1, none⟩ (by simp; omega), World.cell?_alloc_lt _ _ ⟨g, 1, none⟩ (by simp; omega), World.cell?_alloc_lt _ _ ⟨g, 1, none⟩ (by simpa using htl)]; exact ht1
  have htW : ((((w.alloc (.cells #[.pointer (some ⟨g, 0, none⟩)] 100)).alloc (.cells #[.pointer (some ⟨1, 100, none⟩), .pointer (some ⟨w.heap.size, 0, none⟩), .int .u64 150] 113)).alloc (.cells #[.pointer (some ⟨1, 100, none⟩), .pointer (some ⟨w.heap.size, 0, none⟩), .int .u64 150] 113)).alloc (.cells #[.int .i64 p, .iface 72 (.int .i64 c)] 99)).cell? ⟨g, 0, none⟩ = some old := by rw [World.cell?_alloc_lt _ _ ⟨g, 0, none⟩ (by simp; omega), World.cell?_alloc_lt _ _ ⟨g, 0, none⟩ (by simp; omega), World.cell?_alloc_lt _ _ ⟨g, 0, none⟩ (by simp; omega), World.cell?_alloc_lt _ _ ⟨g, 0, none⟩ (by simpa using htl)]; exact ht0
  have HTW := Lib.hid htW
  have st := setF g (w.heap.size + 1 + 1 + 1) (.int .i64 p) (.iface 72 (.int .i64 c)) old old1 ((((w.alloc (.cells #[.pointer (some ⟨g, 0, none⟩)] 100)).alloc (.cells #[.pointer (some ⟨1, 100, none⟩), .pointer (some ⟨w.heap.size, 0, none⟩), .int .u64 150] 113)).alloc (.cells #[.pointer (some ⟨1, 100, none⟩), .pointer (some ⟨w.heap.size, 0, none⟩), .int .u64 150] 113)).alloc (.cells #[.int .i64 p, .iface 72 (.int .i64 c)] 99)) rfl rfl
    (by rw [World.cell?_alloc_at _ _ _ _ (by simp)]; rfl) (by rw [World.cell?_alloc_at _ _ _ _ (by simp)]; rfl) htW h1W (by rw [World.frozen?_alloc_old _ _ ⟨g, 0, none⟩ (by simp; omega), World.frozen?_alloc_old _ _ ⟨g, 0, none⟩ (by simp; omega), World.frozen?_alloc_old _ _ ⟨g, 0, none⟩ (by simp; omega), World.frozen?_alloc_old _ _ ⟨g, 0, none⟩ (by simp; omega)]; exact hf0) (by rw [World.frozen?_alloc_old _ _ ⟨g, 1, none⟩ (by simp; omega), World.frozen?_alloc_old _ _ ⟨g, 1, none⟩ (by simp; omega), World.frozen?_alloc_old _ _ ⟨g, 1, none⟩ (by simp; omega), World.frozen?_alloc_old _ _ ⟨g, 1, none⟩ (by simp; omega)]; exact hf1)
  clear hg htW h1W htb
  go_enter Tryz.func31, Tryz.ntmps31
  go_wp2
  refine wp_loop_rounds 1 ?_;rw [rounds_succ]
  go_wp2
  go_ret
  exact ⟨rfl, (World.cell?_setCell_other _ _ _ _ (by simp)).trans (World.cell?_setCell_same _ _ _ HTW.out), ((HB3.out.alloc (by simp; omega) _).setCell (Nat.le_refl _) _).setCell (Nat.le_refl _) _⟩
end Go.Proofs.YtbcokncfkikalaaGreatDoor.Err
end
section
namespace Go.Proofs.YtbcokncfkikalaaGreatDoor.Err
open Go.RowKit Go.Extern.Stop Go.Stop Go.Extern
def errnoV (c : Int) : Value := .iface 72 (.int .i64 c)
def faultV (p : Int) (c : Int) : Value := .iface 99 (.agg #[.int .i64 p, .iface 72 (.int .i64 c)])
set_option maxHeartbeats 1000000 in
theorem code_E (c : Int) (w : World) (hg : ErrTab w) : Calls Tryz.prog 10 #[errnoV c] w fun e w' => e = .returned (.int .i64 c) ∧ Below w.heap.size w w' := by
  have hg1 := Lib.hid (hg.alloc (.cells #[.int .i64 0] 72));clear hg;unfold errnoV
  go_enter Tryz.func10, Tryz.ntmps10
  go_wp2_with (go_at_call 31; refine (as_EE c ⟨w.heap.size, 0, none⟩ (.int .i64 0) _ hg1.out (by simp) (by simp)).mono ?_; rintro e w1 ⟨rfl, hc1, hb1⟩; refine Hid.out ?_)
  refine Lib.hid ?_;have HB := Lib.hid (((Below.refl w.heap.size w).alloc (Nat.le_refl _) _).trans hb1);clear hb1
  go_wp2
  go_ret
  exact ⟨rfl, HB.out⟩
set_option maxHeartbeats 1000000 in
theorem code_F (p c : Int) (w : World) (hg : ErrTab w) : Calls Tryz.prog 10 #[faultV p c] w fun e w' => e = .returned (.int .i64 c) ∧ Below w.heap.size w w' := by
  have hg1 := Lib.hid (hg.alloc (.cells #[.int .i64 0] 72));clear hg;unfold faultV
  go_enter Tryz.func10, Tryz.ntmps10
  go_wp2_with (go_at_call 31; refine (as_FE p c ⟨w.heap.size, 0, none⟩ (.int .i64 0) _ hg1.out (by simp) (by simp)).mono ?_; rintro e w1 ⟨rfl, hc1, hb1⟩; refine Hid.out ?_)
  refine Lib.hid ?_;have HB := Lib.hid (((Below.refl w.heap.size w).alloc (Nat.le_refl _) _).trans hb1);clear hb1
  go_wp2
  go_ret
  exact ⟨rfl, HB.out⟩
set_option maxHeartbeats 1000000 in
theorem place_F (p c : Int) (w : World) (hg : ErrTab w) : Calls Tryz.prog 18 #[faultV p c] w fun e w' => e = .returned (.int .i64 p) ∧ Below w.heap.size w w' := by
  have hg1 := Lib.hid (hg.alloc (.cells #[.int .i64 0, .nilIface] 99));clear hg;unfold faultV
  go_enter Tryz.func18, Tryz.ntmps18
  go_wp2_with (go_at_call 31; refine (as_FF p c ⟨w.heap.size, 0, none⟩ (.int .i64 0) .nilIface _ hg1.out rfl rfl (by simp) (by simp) (by simp) (by simp)).mono ?_; rintro e w1 ⟨rfl, hc1, hb1⟩; refine Hid.out ?_)
  refine Lib.hid ?_;have HB := Lib.hid (((Below.refl w.heap.size w).alloc (Nat.le_refl _) _).trans hb1);clear hb1
  go_wp2
  go_ret
  exact ⟨rfl, HB.out⟩
end Go.Proofs.YtbcokncfkikalaaGreatDoor.Err
end
section
namespace Go.Proofs.YtbcokncfkikalaaGreatDoor.Err
open Go.ChangeShapes Go.WideShapes Go.ChangeAt Go.RowKit
theorem own : ownKnob Tryz.prog.godebug = none := by kernel_rfl
theorem et : Tryz.prog.globalNamed "errors.errorType" = some 0 := by kernel_rfl
theorem rt : (Tryz.prog.cutTypes.find? (·.1 == "internal/reflectlite.rtype")).map (·.2) = some 139 := by kernel_rfl
theorem oneRow : ((List.range Tryz.prog.types.size).filter fun t => Tryz.prog.rowNamed t [101, 114, 114, 111, 114]) = [27] := by kernel_rfl
theorem handle_of_laid {W : World} (h : laidMetH Tryz.prog [("errors.errorType", Rows.laid_errors_errorType)] W) : ErrTab W := by
  have h' : laidMet Tryz.prog [] W ∧ handlesMet Tryz.prog [("errors.errorType", Rows.laid_errors_errorType)] W := h;obtain ⟨name, u, ty, e1, e2, e3, e4, e5⟩ := h'.2 _ (List.mem_singleton.2 rfl);have en : name = [101, 114, 114, 111, 114] := (Option.some.inj e1).symm;subst en;obtain rfl := Option.some.inj (rt.symm.trans e2);have hm : ty ∈ (List.range Tryz.prog.types.size).filter fun t => Tryz.prog.rowNamed t [101, 114, 114, 111, 114] := List.mem_filter.2 ⟨List.mem_range.2 e3, e4⟩;rw [oneRow] at hm;obtain rfl := List.mem_singleton.1 hm;have hh : typeHandle Tryz.prog 27 = .pointer (some ⟨1, 27, none⟩) := by kernel_rfl
  rw [hh] at e5;unfold ErrTab
  simpa using World.var?_cell et e5 0
noncomputable def laidWorld (os : Os) : World :=
  { World.holding Tryz.prog os ⟨#[], #[], []⟩ with heap := (World.holding Tryz.prog os ⟨#[], #[], []⟩).heap.modify 0 fun
      | .cells _ t frozen => .cells #[.iface 139 (.agg #[.pointer (some ⟨1, 27, none⟩)])] t frozen
      | o => o }
theorem laid_met (os : Os) (args : Array Value) : laidMetH Tryz.prog [("errors.errorType", Rows.laid_errors_errorType)] ((laidWorld os).forCall (fun _ _ => 0) ⟨#[], args, []⟩).memory :=
  laidMetH_of_parts (laidMet_nil _ _) (by kernel_rfl)
end Go.Proofs.YtbcokncfkikalaaGreatDoor.Err
end
section
namespace Go.Proofs.YtbcokncfkikalaaGreatDoor.Kn
open Go
def find : List (Nat × Value) → Nat → Option Value
  | [], _ => none
  | (k, v) :: l, t => bif Nat.beq k t then some v else find l t
def nth : List Value → Nat → Option Value
  | [], _ => none
  | v :: l, t => match t with
    | 0 => some v
    | t + 1 => nth l t
theorem nth_eq : ∀ (l : List Value) (t : Nat), nth l t = l[t]?
  | [], t => by simp [nth]
  | v :: l, 0 => by simp [nth]
  | v :: l, t + 1 => by simp [nth, nth_eq l t]
structure Kn (n : Nat) (l : List (Nat × Value)) (a : Act) : Prop where
  defers : a.defers = []
  size : a.tmps.size = n
  get : ∀ t v, find l t = some v → a.eval (.tmp t) = v
inductive Val (l : List (Nat × Value)) : Operand → Value → Prop
  | tmp {t : Tmp} {v : Value} (h : find l t = some v) : Val l (.tmp t) v
  | const {v : Value} : Val l (.const v) v
  | global {g : Nat} : Val l (.global g) (.pointer (some ⟨g, 0, none⟩))
  | func {f : FuncId} : Val l (.func f) (.func (.func f) #[] #[])
inductive Vals (l : List (Nat × Value)) : List Operand → List Value → Prop
  | nil : Vals l [] []
  | cons {x : Operand} {v : Value} {xs : List Operand} {vs : List Value} (h : Val l x v) (t : Vals l xs vs) : Vals l (x :: xs) (v :: vs)
inductive Wants (ops : Array Oper) (l : List (Nat × Value)) : Option (Nat × Bool) → Bool → Prop
  | none : Wants ops l none true
  | some {j : Nat} {b c r : Bool} {d : Tmp} (h : (ops[j]?).bind (·.dst) = some d) (hv : find l d = some (.bool c)) (hr : (c == b) = r) : Wants ops l (some (j, b)) r
  | gone {j : Nat} {b : Bool} {d : Tmp} (h : (ops[j]?).bind (·.dst) = some d) (hv : find l d = some undef) : Wants ops l (some (j, b)) false
theorem beq_no {i j : Nat} (h : i ≠ j) : Nat.beq i j = false := by
  cases e : Nat.beq i j with
  | true => exact absurd (Nat.eq_of_beq_eq_true e) h
  | false => rfl
section
variable {P : Program} {n : Nat} {l : List (Nat × Value)} {a : Act} {ops : Array Oper} {Q : Exit → Act → World → Prop} {w : World} {rest : List Oper}
theorem Kn.val (h : Kn n l a) {x : Operand} {v : Value} (hv : Val l x v) : a.eval x = v := by
  cases hv with
  | tmp ht => exact h.get _ _ ht
  | const => rfl
  | global => rfl
  | func => rfl
theorem Kn.vals (h : Kn n l a) {xs : List Operand} {vs : List Value} (hv : Vals l xs vs) : xs.toArray.map a.eval = vs.toArray := by
  have : xs.map a.eval = vs := by
    induction hv with
    | nil => rfl
    | cons h1 _ ih => rw [List.map_cons, h.val h1, ih]
  rw [List.map_toArray, this]
theorem Kn.put (h : Kn n l a) {d : Tmp} (hd : Nat.blt d n = true) (v : Value) : Kn n ((d, v) :: l) (a.put (some d) v) := by
  have hd' : d < a.tmps.size := by rw [h.size]; exact Nat.le_of_ble_eq_true hd
  refine ⟨h.defers, by simp [Act.put, h.size], fun t u hu => ?_⟩
  by_cases e : d = t
  · subst e;rw [find, Nat.beq_refl] at hu;simp at hu;subst hu;simp [Act.put, Act.eval, hd']
  · rw [find, beq_no e] at hu;have := h.get t u (by simpa using hu);rw [← this];simp only [Act.put, Act.eval];rw [Array.getD_eq_getD_getElem?, Array.getD_eq_getD_getElem?, Array.getElem?_setIfInBounds_ne e]
theorem Kn.wants (h : Kn n l a) {o : Oper} {r : Bool} (hw : Wants ops l o.guard r) : Region.wanted o (yielded ops a.tmps) = r := by
  unfold Region.wanted;generalize o.guard = g at hw
  cases hw with
  | none => rfl
  | @some j b c r d hj hv hr =>
    have h1 := h.get _ _ hv
    have h2 : a.tmps[d]? = some (.bool c) := by
      simp only [Act.eval] at h1;rw [Array.getD_eq_getD_getElem?] at h1
      cases e : a.tmps[d]? with
      | none => rw [e] at h1; simp [undef] at h1
      | some u => rw [e] at h1; simp at h1; rw [h1]
    simp only [yielded, hj, Option.bind_some, h2];rw [← hr];cases c <;> cases b <;> rfl
  | @gone j b d hj hv =>
    have h1 := h.get _ _ hv
    have h2 : ∀ c, a.tmps[d]? ≠ some (.bool c) := fun c e => by
      simp only [Act.eval] at h1;rw [Array.getD_eq_getD_getElem?, e] at h1;simp [undef] at h1
    simp only [yielded, hj, Option.bind_some]
    cases e : a.tmps[d]? with
    | none => rfl
    | some u => cases u <;> first | rfl | exact absurd e (h2 _)
theorem Kn.more (h : Kn n l a) {t : Tmp} {v : Value} (hv : a.eval (.tmp t) = v) : Kn n ((t, v) :: l) a := by
  refine ⟨h.defers, h.size, fun s u hu => ?_⟩;rw [find] at hu
  by_cases e : t = s
  · subst e;rw [Nat.beq_refl] at hu;simp at hu;rw [hv, hu]
  · rw [beq_no e] at hu;exact h.get _ _ (by simpa using hu)
theorem Kn.nil (hd : a.defers = []) (hs : a.tmps.size = n) : Kn n [] a := ⟨hd, hs, fun t v h => by simp [find] at h⟩
def Sat (K : Value → World → Prop) : Result Value → Prop
  | .ok v w => K v w
  | .halt _ _ => False
@[go_sem] theorem sat_ok (K : Value → World → Prop) (v : Value) (w : World) : Sat K (.ok v w) = K v w := rfl
def SatU (K : World → Prop) : Result Unit → Prop
  | .ok _ w => K w
  | .halt _ _ => False
@[go_sem] theorem satU_ok (K : World → Prop) (v : Unit) (w : World) : SatU K (.ok v w) = K w := rfl
abbrev vl (s : Sem Value) : Sem Next := do pure (.value (← s))
abbrev ul (s : Sem Unit) : Sem Next := do s; pure .skip
section exec
variable {d : Option Tmp} {t : TypeId} {p : String} {af : Array Edge} {g : Option (Nat × Bool)} {x y z : Operand} {vx vy vz : Value}
theorem ex_move (h : Kn n l a) (hx : Val l x vx) : execOp a.eval ⟨d, .move x, t, p, af, g⟩ = vl (pure vx) := by simp only [execOp, h.val hx]; rfl
theorem ex_assign (h : Kn n l a) (hx : Val l x vx) : execOp a.eval ⟨d, .assign x, t, p, af, g⟩ = vl (pure vx) := by simp only [execOp, h.val hx]; rfl
theorem ex_pick {c : Operand} {b : Bool} {v : Value} (h : Kn n l a) (hc : Val l c (.bool b)) (hv : Val l (if b then x else y) v) : execOp a.eval ⟨d, .pick c x y, t, p, af, g⟩ = vl (pure v) := by
  have e : (if b then a.eval x else a.eval y) = v := by rw [← h.val hv]; cases b <;> rfl
  simp only [execOp, h.val hc]; rw [← e]; rfl
theorem ex_extract {i : Nat} {vs : Array Value} {v : Value} (h : Kn n l a) (hx : Val l x (.tuple vs)) (hi : vs[i]? = some v) : execOp a.eval ⟨d, .extract x i, t, p, af, g⟩ = vl (pure v) := by
  simp only [execOp, h.val hx, Instr.extract, hi]
theorem ex_bin {op : BinOp} {tx ty : TypeId} (h : Kn n l a) (hx : Val l x vx) (hy : Val l y vy) : execOp a.eval ⟨d, .binOp op tx x y ty, t, p, af, g⟩ = vl (do eqGuard op tx x y vx vy; binOp op tx vx vy) := by simp only [execOp, h.val hx, h.val hy]
theorem ex_un {op : UnOp} {tx : TypeId} (h : Kn n l a) (hx : Val l x vx) : execOp a.eval ⟨d, .unOp op tx x, t, p, af, g⟩ = vl (Op.unary op vx) := by simp only [execOp, h.val hx]
theorem ex_convert {ts td : TypeId} (h : Kn n l a) (hx : Val l x vx) : execOp a.eval ⟨d, .convert ts td x, t, p, af, g⟩ = vl (convert ts td vx) := by simp only [execOp, h.val hx]
theorem ex_alloc {e : TypeId} : execOp a.eval ⟨d, .alloc e, t, p, af, g⟩ = vl (Instr.alloc e true (.tuple #[])) := rfl
theorem ex_box {e : TypeId} (h : Kn n l a) (hx : Val l x vx) : execOp a.eval ⟨d, .box e x, t, p, af, g⟩ = vl (Instr.box e vx) := by simp only [execOp, h.val hx]
theorem ex_load {e : TypeId} (h : Kn n l a) (hx : Val l x vx) : execOp a.eval ⟨d, .load e x, t, p, af, g⟩ = vl (Instr.loadAt e vx) := by simp only [execOp, h.val hx]
theorem ex_store {e : TypeId} (h : Kn n l a) (hx : Val l x vx) (hy : Val l y vy) : execOp a.eval ⟨d, .store e x y, t, p, af, g⟩ = ul (Instr.storeAt e vx vy) := by simp only [execOp, h.val hx, h.val hy]
theorem ex_fieldAddr {e : TypeId} {f : Nat} (h : Kn n l a) (hx : Val l x vx) : execOp a.eval ⟨d, .fieldAddr e x f, t, p, af, g⟩ = vl (Instr.fieldAt e vx f) := by simp only [execOp, h.val hx]
theorem ex_indexAddr {e : TypeId} (h : Kn n l a) (hx : Val l x vx) (hy : Val l y vy) : execOp a.eval ⟨d, .indexAddr e x y, t, p, af, g⟩ = vl (Instr.indexAt e vx vy) := by simp only [execOp, h.val hx, h.val hy]
theorem ex_makeSlice {e : TypeId} (h : Kn n l a) (hx : Val l x vx) (hy : Val l y vy) : execOp a.eval ⟨d, .makeSlice e x y, t, p, af, g⟩ = vl (Instr.makeSlice e vx vy) := by simp only [execOp, h.val hx, h.val hy]
theorem ex_makeInterface {e : TypeId} (h : Kn n l a) (hx : Val l x vx) : execOp a.eval ⟨d, .makeInterface e x, t, p, af, g⟩ = vl (Instr.makeInterface e vx) := by simp only [execOp, h.val hx]
theorem ex_sliceL {e : TypeId} (h : Kn n l a) (hx : Val l x vx) (hy : Val l y vy) : execOp a.eval ⟨d, .slice e x (some y) none none, t, p, af, g⟩ = vl (Instr.sliceAt e vx (some vy) none none) := by simp only [execOp, h.val hx, h.val hy, Option.map]
theorem ex_sliceH {e : TypeId} (h : Kn n l a) (hx : Val l x vx) (hy : Val l y vy) : execOp a.eval ⟨d, .slice e x none (some y) none, t, p, af, g⟩ = vl (Instr.sliceAt e vx none (some vy) none) := by simp only [execOp, h.val hx, h.val hy, Option.map]
theorem ex_sliceLH {e : TypeId} (h : Kn n l a) (hx : Val l x vx) (hy : Val l y vy) (hz : Val l z vz) : execOp a.eval ⟨d, .slice e x (some y) (some z) none, t, p, af, g⟩ = vl (Instr.sliceAt e vx (some vy) (some vz) none) := by simp only [execOp, h.val hx, h.val hy, h.val hz, Option.map]
theorem ex_buildSlice {e : TypeId} {m : Nat} {ps : Array (Nat × Operand)} {us : List Value} (h : Kn n l a) (hx : Vals l (ps.toList.map (·.2)) us) : execOp a.eval ⟨d, .buildSlice e m ps, t, p, af, g⟩ = vl (Instr.buildSlice e m ((ps.toList.map (·.1)).zip us).toArray) := by
  have e1 : (ps.map fun (i, x) => (i, a.eval x)) = ((ps.toList.map (·.1)).zip us).toArray := by
    have := h.vals hx;rw [List.map_toArray] at this;have h2 : (ps.toList.map (·.2)).map a.eval = us := by simpa using this
    rw [← h2]
    apply Array.ext'
    simp only [Array.toList_map, List.map_map, List.zip_map'];exact List.map_congr_left fun p _ => rfl
  simp only [execOp, e1]
theorem ex_build {e : TypeId} {ps : Array (Nat × Operand)} {us : List Value} (h : Kn n l a) (hx : Vals l (ps.toList.map (·.2)) us) : execOp a.eval ⟨d, .build e ps, t, p, af, g⟩ = vl (Instr.build e ((ps.toList.map (·.1)).zip us).toArray) := by
  have e1 : (ps.map fun (i, x) => (i, a.eval x)) = ((ps.toList.map (·.1)).zip us).toArray := by
    have := h.vals hx;rw [List.map_toArray] at this;have h2 : (ps.toList.map (·.2)).map a.eval = us := by simpa using this
    rw [← h2]
    apply Array.ext'
    simp only [Array.toList_map, List.map_map, List.zip_map'];exact List.map_congr_left fun p _ => rfl
  simp only [execOp, e1]
theorem ex_len {ats : Array TypeId} (h : Kn n l a) (hx : Val l x vx) : execOp a.eval ⟨d, .call { callee := .builtin .len, args := #[x], argTypes := ats }, t, p, af, g⟩ = vl (Builtin.len_ ats t #[vx]) := by
  rw [BigFrame.execOp_builtin, BigFrame.builtin_len]; simp [h.val hx]
theorem ex_min {ats : Array TypeId} {xs : Array Operand} {us : List Value} (h : Kn n l a) (hx : Vals l xs.toList us) : execOp a.eval ⟨d, .call { callee := .builtin .min, args := xs, argTypes := ats }, t, p, af, g⟩ = vl (Builtin.min_ ats t us.toArray) := by
  rw [BigFrame.execOp_builtin, BigFrame.builtin_min, show xs.map a.eval = us.toArray by have := h.vals hx; rwa [Array.toArray_toList] at this]
theorem ex_append {ats : Array TypeId} {xs : Array Operand} {us : List Value} (h : Kn n l a) (hx : Vals l xs.toList us) : execOp a.eval ⟨d, .call { callee := .builtin .append, args := xs, argTypes := ats }, t, p, af, g⟩ = vl (Builtin.append_ ats t us.toArray) := by
  rw [BigFrame.execOp_builtin, BigFrame.builtin_append, show xs.map a.eval = us.toArray by have := h.vals hx; rwa [Array.toArray_toList] at this]
theorem ex_call {f : FuncId} {xs : Array Operand} {us : List Value} {ats : Array TypeId} (h : Kn n l a) (hx : Vals l xs.toList us) : execOp a.eval ⟨d, .call { callee := .value (.func f), args := xs, argTypes := ats }, t, p, af, g⟩ = callFunc f us.toArray := by
  have e : xs.map a.eval = us.toArray := by have := h.vals hx; rwa [Array.toArray_toList] at this
  rw [execOp_call_go, e]; simp
end exec
def Nx (P : Program) (n : Nat) (l : List (Nat × Value)) (ops : Array Oper) (Q : Exit → Act → World → Prop) (rest : List Oper) (d : Tmp) (v : Value) (w : World) : Prop := ∀ a, Kn n ((d, v) :: l) a → wpList P ops Q rest a w
theorem run_value (s : Sem Value) (w : World) (K : Act → World → Prop) (o : Oper) (a : Act) (H : Sat (fun v w' => K (a.put o.dst v) w') (s.run P w)) (he : execOp a.eval o = vl s) : o.wp P a w K Q := by
  unfold Oper.wp;rw [he]
  cases hs : s.run P w with
  | ok v w' =>
    rw [hs] at H;simp [go_sem, hs];exact H
  | halt x w' => rw [hs] at H; exact H.elim
theorem step {o : Oper} {d : Tmp} {s : Sem Value} (h : Kn n l a) (hd : o.dst = some d) (hdn : Nat.blt d n = true) (hw : Wants ops l o.guard true) (he : execOp a.eval o = vl s)
    (H : ∀ K : Value → World → Prop, (∀ v w', Nx P n l ops Q rest d v w' → K v w') → Sat K (s.run P w)) : wpList P ops Q (o :: rest) a w := by
  refine wpList_step fun K hK => ?_;rw [h.wants hw, if_pos rfl];refine run_value s w K o a (H _ fun v w' hn => ?_) he;rw [hd];exact hK _ _ (hn _ (h.put hdn v))
theorem pure {o : Oper} {d : Tmp} {v : Value} (h : Kn n l a) (hd : o.dst = some d) (hdn : Nat.blt d n = true) (hw : Wants ops l o.guard true) (he : execOp a.eval o = vl (.pure v))
    (H : Nx P n l ops Q rest d v w) : wpList P ops Q (o :: rest) a w := step h hd hdn hw he fun _ hK => hK _ _ H
theorem known {o : Oper} {d : Tmp} {s : Sem Value} {v : Value} {w' : World} (h : Kn n l a) (hd : o.dst = some d) (hdn : Nat.blt d n = true) (hw : Wants ops l o.guard true) (he : execOp a.eval o = vl s)
    (hr : s.run P w = .ok v w') (H : Nx P n l ops Q rest d v w') : wpList P ops Q (o :: rest) a w := step h hd hdn hw he fun _ hK => by rw [hr]; exact hK _ _ H
theorem stepU {o : Oper} {s : Sem Unit} (h : Kn n l a) (hd : o.dst = none) (hw : Wants ops l o.guard true) (he : execOp a.eval o = ul s)
    (H : ∀ K : World → Prop, (∀ w', wpList P ops Q rest a w' → K w') → SatU K (s.run P w)) : wpList P ops Q (o :: rest) a w := by
  refine wpList_step fun K hK => ?_;rw [h.wants hw, if_pos rfl];unfold Oper.wp;rw [he];have := H _ fun w' hn => hK a w' hn
  cases hs : s.run P w with
  | ok v w' =>
    rw [hs] at this;simp [go_sem, hs, hd, Act.put];exact this
  | halt x w' => rw [hs] at this; exact this.elim
theorem skip {o : Oper} {d : Tmp} (h : Kn n l a) (hd : o.dst = some d) (hdn : Nat.blt d n = true) (hw : Wants ops l o.guard false) (H : Nx P n l ops Q rest d undef w) : wpList P ops Q (o :: rest) a w := by
  refine wpList_step fun K hK => ?_;rw [h.wants hw, if_neg (by simp), hd];exact hK _ _ (H _ (h.put hdn _))
theorem call {o : Oper} {d : Tmp} {f : FuncId} {args : Array Value} {R : Ending → World → Prop} (h : Kn n l a) (hd : o.dst = some d) (hdn : Nat.blt d n = true) (hw : Wants ops l o.guard true) (he : execOp a.eval o = callFunc f args)
    (hc : ∀ (args : Array Value) (w : World), (callFunc f args).run P w = .ok (.enter f args) w) (hR : Calls P f args w R)
    (H : ∀ e w', R e w' → ∃ v, e = .returned v ∧ Nx P n l ops Q rest d v w') : wpList P ops Q (o :: rest) a w := by
  refine wpList_step fun K hK => ?_;rw [h.wants hw, if_pos rfl];unfold Oper.wp;rw [he, hc];refine hR.mono fun e w' hr => ?_;obtain ⟨v, rfl, hn⟩ := H e w' hr;show K (a.put o.dst v) w';rw [hd];exact hK _ _ (hn _ (h.put hdn v))
def NxS (P : Program) (n : Nat) (l : List (Nat × Value)) (ops : Array Oper) (w : World) (Q : Act → Prop) (rest : List Oper) (d : Tmp) (v : Value) : Prop := ∀ a, Kn n ((d, v) :: l) a → wpStill P ops w Q rest a
theorem sstep {Q : Act → Prop} {o : Oper} {d : Tmp} {s : Sem Value} (h : Kn n l a) (hd : o.dst = some d) (hdn : Nat.blt d n = true) (hw : Wants ops l o.guard true) (he : execOp a.eval o = vl s)
    (H : ∀ K : Value → World → Prop, (∀ v, NxS P n l ops w Q rest d v → K v w) → Sat K (s.run P w)) : wpStill P ops w Q (o :: rest) a := by
  refine wpStill_step fun K hK => ?_;rw [h.wants hw, if_pos rfl];have H1 := H (fun v w' => w' = w ∧ K (a.put o.dst v)) fun v hn => ⟨rfl, by rw [hd]; exact hK _ (hn _ (h.put hdn v))⟩;unfold Oper.still;rw [he]
  cases hs : s.run P w with
  | ok v w' =>
    rw [hs] at H1;simp [go_sem, hs];exact H1
  | halt x w' => rw [hs] at H1; exact H1.elim
theorem spure {Q : Act → Prop} {o : Oper} {d : Tmp} {v : Value} (h : Kn n l a) (hd : o.dst = some d) (hdn : Nat.blt d n = true) (hw : Wants ops l o.guard true) (he : execOp a.eval o = vl (.pure v))
    (H : NxS P n l ops w Q rest d v) : wpStill P ops w Q (o :: rest) a := sstep h hd hdn hw he fun _ hK => hK _ H
theorem sskip {Q : Act → Prop} {o : Oper} {d : Tmp} (h : Kn n l a) (hd : o.dst = some d) (hdn : Nat.blt d n = true) (hw : Wants ops l o.guard false) (H : NxS P n l ops w Q rest d undef) : wpStill P ops w Q (o :: rest) a := by
  refine wpStill_step fun K hK => ?_;rw [h.wants hw, if_neg (by simp), hd];exact hK _ (H _ (h.put hdn _))
theorem scall {Q : Act → Prop} {o : Oper} {d : Tmp} {f : FuncId} {args : Array Value} {v : Value} (h : Kn n l a) (hd : o.dst = some d) (hdn : Nat.blt d n = true) (hw : Wants ops l o.guard true) (he : execOp a.eval o = callFunc f args)
    (hc : ∀ (args : Array Value) (w : World), (callFunc f args).run P w = .ok (.enter f args) w) (hR : Calls P f args w fun e w' => e = .returned v ∧ w = w')
    (H : NxS P n l ops w Q rest d v) : wpStill P ops w Q (o :: rest) a := by
  refine wpStill_step fun K hK => ?_;rw [h.wants hw, if_pos rfl];unfold Oper.still;rw [he, hc];exact ⟨rfl, v, hR.mono fun _ _ ⟨h1, h2⟩ => ⟨h1, h2.symm⟩, by rw [hd]; exact hK _ (H _ (h.put hdn v))⟩
theorem still {id : Nat} {ops : List Oper} (hm : P.follows .mixedOrders = true) (hB : Region.lexB .any ops.toArray = true) (h : wpStill P ops.toArray w.drew (fun a' => Q .normal a' w.drew) ops a) : (Code.region id ops.toArray true).wp P Q a w :=
  wp_region_still_lit hm hB h
theorem tail {id : Nat} {ops hd tl : List Oper} (k : Nat) (hm : P.follows .mixedOrders = true) (hB : Region.lexTailB .any ops.toArray k = true) (h1 : ops.take k = hd) (h2 : ops.drop k = tl) (h : wpStill P ops.toArray w.drew (fun a' => wpList P ops.toArray Q tl a' w.drew) hd a) : (Code.region id ops.toArray true).wp P Q a w := by
  subst h1 h2; exact wp_region_still_tail k hm hB h
inductive Sub (l : List (Nat × Value)) : List (Nat × Value) → Prop
  | nil : Sub l []
  | cons {t : Nat} {v : Value} {l' : List (Nat × Value)} (h : find l t = some v) (r : Sub l l') : Sub l ((t, v) :: l')
  | turn {t : Nat} {v u : Value} {l' : List (Nat × Value)} (h : find l t = some v) (e : v = u) (r : Sub l l') : Sub l ((t, u) :: l')
theorem Sub.at {l l' : List (Nat × Value)} (h : Sub l l') {t : Nat} {v : Value} (hv : find l' t = some v) : find l t = some v := by
  induction h with
  | nil => simp [find] at hv
  | @cons s u l' h1 _ ih =>
    rw [find] at hv
    by_cases e : s = t
    · subst e; rw [Nat.beq_refl] at hv; simp at hv; rw [← hv]; exact h1
    · rw [beq_no e] at hv; exact ih (by simpa using hv)
  | @turn s u x l' h1 h2 _ ih =>
    subst h2;rw [find] at hv
    by_cases e : s = t
    · subst e; rw [Nat.beq_refl] at hv; simp at hv; rw [← hv]; exact h1
    · rw [beq_no e] at hv; exact ih (by simpa using hv)
theorem Kn.cut {l' : List (Nat × Value)} (h : Kn n l a) (hs : Sub l l') : Kn n l' a := ⟨h.defers, h.size, fun _ _ hv => h.get _ _ (hs.at hv)⟩
inductive Ins (args : Array Value) : List (Nat × Value) → Prop
  | nil : Ins args []
  | cons {t : Nat} {v : Value} {l' : List (Nat × Value)} (h : nth args.toList t = some v) (r : Ins args l') : Ins args ((t, v) :: l')
theorem Ins.at {args : Array Value} {l : List (Nat × Value)} (h : Ins args l) {t : Nat} {v : Value} (hv : find l t = some v) : args[t]? = some v := by
  induction h with
  | nil => simp [find] at hv
  | @cons s u l' h1 _ ih =>
    rw [find] at hv
    by_cases e : s = t
    · subst e; rw [Nat.beq_refl] at hv; simp at hv; rw [← hv]; rw [nth_eq] at h1; simpa using h1
    · rw [beq_no e] at hv; exact ih (by simpa using hv)
theorem calls {f : FuncId} {fn : Func} {c : Code} {args : Array Value} {R : Ending → World → Prop} (hf : P.funcs[f]? = some fn) (hb : fn.body = some c) (hn : fn.ntmps = n) (ha : Nat.ble args.size n = true) (hl : Ins args l)
    (H : ∀ a, Kn n l a → c.wp P (bodyPost P fn R) a w) : Calls P f args w R := by
  refine calls_of_wp hf hb (H _ ⟨rfl, ?_, fun t v hv => ?_⟩)
  · have := Nat.le_of_ble_eq_true ha;simp only [Array.size_append, Array.size_replicate]; omega
  · have h1 := hl.at hv
    have h2 : t < args.size := by
      rcases Nat.lt_or_ge t args.size with h | h
      · exact h
      · rw [Array.getElem?_eq_none h] at h1; cases h1
    simp only [Act.eval];rw [Array.getD_eq_getD_getElem?, Array.getElem?_append_left h2, h1]
    rfl
theorem ret1 {fn : Func} {R : Ending → World → Prop} {t : Tmp} {v : Value} (h : Kn n l a) (hr : fn.results = #[.tmp t]) (hv : find l t = some v) (H : R (.returned v) w) : bodyPost P fn R .ret a w :=
  bodyPost_ret (results_tmp hr _ _ _) h.defers (by have := h.get t v hv; simp only [Act.eval] at this; rw [this]; exact H)
theorem ret2 {fn : Func} {R : Ending → World → Prop} {t u : Tmp} {v x : Value} (h : Kn n l a) (hr : fn.results = #[.tmp t, .tmp u]) (hv : find l t = some v) (hx : find l u = some x) (H : R (.returned (.tuple #[v, x])) w) : bodyPost P fn R .ret a w :=
  bodyPost_ret (results_tmp2 hr _ _ _) h.defers (by have h1 := h.get t v hv; have h2 := h.get u x hx; simp only [Act.eval] at h1 h2; rw [h1, h2]; exact H)
theorem yes {x : Operand} {c d : Code} (h : Kn n l a) (hv : Val l x (.bool true)) (H : c.wp P Q a w) : (Code.cond x c d).wp P Q a w := wp_cond_true (h.val hv) H
theorem no {x : Operand} {c d : Code} (h : Kn n l a) (hv : Val l x (.bool false)) (H : d.wp P Q a w) : (Code.cond x c d).wp P Q a w := wp_cond_false (h.val hv) H
theorem then_ret {K : Act → World → Prop} (h : Q .ret a w) : Exit.then K Q .ret a w := h
theorem then_exit {K : Act → World → Prop} {i : Nat} (h : Q (.exit i) a w) : Exit.then K Q (.exit i) a w := h
theorem block_ret {i : Nat} (h : Q .ret a w) : Exit.inBlock i Q .ret a w := h
theorem block_normal {i : Nat} (h : Q .normal a w) : Exit.inBlock i Q .normal a w := h
theorem block_exit {i : Nat} (h : Q .normal a w) : Exit.inBlock i Q (.exit i) a w := by simp only [Exit.inBlock, if_pos]; exact h
theorem loop {c : Code} (I : Nat → Act → World → Prop) (m : Nat) (h0 : I m a w) (hr : ∀ m a w, I m a w → ∀ K : Act → World → Prop, (∀ m' a' w', m' < m → I m' a' w' → K a' w') → c.wp P (Exit.then K Q) a w) : (Code.loop c).wp P Q a w :=
  wp_loop_ghost I m h0 fun m a w h => hr m a w h _ fun m' _ _ hlt h' => ⟨m', hlt, h'⟩
def PI (Q : Exit → Act → World → Prop) : Prop := ∀ (d : Option Tmp) (v : Value) (c : List PanicEntry) (b : Act) (w : World), Q (.panic c) (b.put d v) w → Q (.panic c) b w
theorem PI.then {K : Act → World → Prop} (h : PI Q) : PI (Exit.then K Q) := h
theorem PI.block {i : Nat} (h : PI Q) : PI (Exit.inBlock i Q) := h
theorem PI.body {fn : Func} {R : Ending → World → Prop} : PI (bodyPost P fn R) := fun d v c b w h => by cases d <;> exact h
def JQ (R : Act → World → Prop) : Exit → Act → World → Prop
  | .normal, a, w => R a w
  | _, _, _ => False
theorem PI.join {R : Act → World → Prop} : PI (JQ R) := fun _ _ _ _ _ h => h
theorem join {c : Code} (R : Act → World → Prop) (h : c.wp P (JQ R) a w) (hQ : ∀ a w, R a w → Q .normal a w) : c.wp P Q a w :=
  wp_mono h fun e a w hq => by
    cases e with
    | normal => exact hQ a w hq
    | _ => exact hq.elim
theorem gen {c : Code} (S : World → Prop) (hS : S w) (H : ∀ u, S u → c.wp P Q a u) : c.wp P Q a w := H w hS
end
end Go.Proofs.YtbcokncfkikalaaGreatDoor.Kn
end
section
namespace Go.Proofs.YtbcokncfkikalaaGreatDoor.Kn
open Go
def backB (md : Region.Mode) (ops : Array Oper) : Bool :=
  (List.range ops.size).all fun i => match ops[i]? with
    | some o => o.after.all fun e => !Region.binds md e || Nat.blt e.on i
    | none => true
def apartB (ops : Array Oper) : Bool :=
  (List.range ops.size).all fun i => (List.range ops.size).all fun j => Nat.beq i j || match (ops[i]?).bind (·.dst), (ops[j]?).bind (·.dst) with
    | some d, some e => !Nat.beq d e
    | _, _ => true
def freshB (n : Nat) (l : List (Nat × Value)) (ops : Array Oper) : Bool :=
  (List.range ops.size).all fun i => match (ops[i]?).bind (·.dst) with
    | some d => Nat.blt d n && l.all fun p => !Nat.beq p.1 d
    | none => true
section
variable {P : Program} {n : Nat} {l : List (Nat × Value)} {ops : Array Oper} {Q : Exit → Act → World → Prop} {md : Region.Mode} {S : World → Prop} {G : World → World → Prop} {T : Nat → Value → World → Prop} {F : Nat → Nat → Value → Value → Prop}
theorem all_listed (hb : backB md ops = true) {listed : Array Bool} (hs : listed.size = ops.size) (hr : Region.ready md ops listed = []) : ∀ i, i < ops.size → listed.getD i false = true := by
  intro i
  induction i using Nat.strongRecOn with
  | _ i ih =>
    intro hi
    cases h : listed.getD i false with
    | true => rfl
    | false =>
      exfalso
      have hm : i ∈ Region.ready md ops listed := by
        refine mem_ready.2 ⟨getD_in (by omega) h, ops[i], Array.getElem?_eq_getElem hi, fun e he hbd => ?_⟩;have h1 := List.all_eq_true.1 hb i (List.mem_range.2 hi);rw [Array.getElem?_eq_getElem hi] at h1;have h2 := Array.all_eq_true_iff_forall_mem.1 h1 e he;rw [hbd] at h2;have h3 : e.on < i := by simpa using h2
        exact ih e.on h3 (by omega)
      rw [hr] at hm;cases hm
theorem Kn.other {a : Act} (h : Kn n l a) {d : Tmp} (v : Value) (hl : l.all (fun p => !Nat.beq p.1 d) = true) : Kn n l (a.put (some d) v) := by
  refine ⟨h.defers, by simp [Act.put, h.size], fun t u hu => ?_⟩
  have hne : d ≠ t := by
    intro e;subst e;clear h
    induction l with
    | nil => simp [find] at hu
    | cons p l ih =>
      obtain ⟨k, v⟩ := p;simp only [List.all_cons, Bool.and_eq_true, Bool.not_eq_true'] at hl;rw [find, hl.1] at hu;exact ih hl.2 hu
  rw [← h.get t u hu];simp only [Act.put, Act.eval];rw [Array.getD_eq_getD_getElem?, Array.getD_eq_getD_getElem?, Array.getElem?_setIfInBounds_ne hne]
theorem eval_put_same {a : Act} {d : Tmp} (v : Value) (h : d < a.tmps.size) : (a.put (some d) v).eval (.tmp d) = v := by simp [Act.put, Act.eval, h]
theorem eval_put_ne {a : Act} {d t : Tmp} (v : Value) (h : d ≠ t) : (a.put (some d) v).eval (.tmp t) = a.eval (.tmp t) := by
  simp only [Act.put, Act.eval];rw [Array.getD_eq_getD_getElem?, Array.getD_eq_getD_getElem?, Array.getElem?_setIfInBounds_ne h]
def Has (md : Region.Mode) (ops : Array Oper) (T : Nat → Value → World → Prop) (o : Oper) (a : Act) (w : World) : Prop :=
  ∀ j d, o.after.toList.any (fun e => Region.binds md e && Nat.beq e.on j) = true → (ops[j]?).bind (·.dst) = some d → T j (a.eval (.tmp d)) w
def Op1 (P : Program) (ops : Array Oper) (Q : Exit → Act → World → Prop) (S : World → Prop) (G : World → World → Prop) (T : Nat → Value → World → Prop) (F : Nat → Nat → Value → Value → Prop) (i : Nat) (o : Oper) (L : Nat → Prop) (a : Act) (w : World) : Prop :=
  if Region.wanted o (yielded ops a.tmps) then o.wp P a w (fun a' w' => ∃ v, a' = a.put o.dst v ∧ T i v w' ∧ S w' ∧ G w w' ∧ ∀ k d, k ≠ i → L k → (ops[k]?).bind (·.dst) = some d → F i k v (a.eval (.tmp d)) ∧ F k i (a.eval (.tmp d)) v) Q
  else T i undef w ∧ ∀ k d, k ≠ i → L k → (ops[k]?).bind (·.dst) = some d → F i k undef (a.eval (.tmp d)) ∧ F k i (a.eval (.tmp d)) undef
def Two (ops : Array Oper) (F : Nat → Nat → Value → Value → Prop) (L : Nat → Prop) (a : Act) : Prop := ∀ j k d e, j ≠ k → L j → L k → (ops[j]?).bind (·.dst) = some d → (ops[k]?).bind (·.dst) = some e → F j k (a.eval (.tmp d)) (a.eval (.tmp e))
def One (ops : Array Oper) (T : Nat → Value → World → Prop) (L : Nat → Prop) (a : Act) (w : World) : Prop := ∀ k d, L k → (ops[k]?).bind (·.dst) = some d → T k (a.eval (.tmp d)) w
def Ahead (md : Region.Mode) (o : Oper) (L : Nat → Prop) : Prop := ∀ j, o.after.toList.any (fun e => Region.binds md e && Nat.beq e.on j) = true → L j
def Ok (P : Program) (n : Nat) (l : List (Nat × Value)) (md : Region.Mode) (ops : Array Oper) (Q : Exit → Act → World → Prop) (S : World → Prop) (G : World → World → Prop) (T : Nat → Value → World → Prop) (F : Nat → Nat → Value → Value → Prop) (i : Nat) (o : Oper) : Prop :=
  ∀ a w L, Kn n l a → S w → One ops T L a w → Two ops F L a → Ahead md o L → Op1 P ops Q S G T F i o L a w
def Oks (P : Program) (n : Nat) (l : List (Nat × Value)) (md : Region.Mode) (ops : Array Oper) (Q : Exit → Act → World → Prop) (S : World → Prop) (G : World → World → Prop) (T : Nat → Value → World → Prop) (F : Nat → Nat → Value → Value → Prop) : Nat → List Oper → Prop
  | _, [] => True
  | k, o :: r => Ok P n l md ops Q S G T F k o ∧ Oks P n l md ops Q S G T F (k + 1) r
theorem Oks.at {r : List Oper} {k : Nat} (h : Oks P n l md ops Q S G T F k r) {j : Nat} {o : Oper} (hj : r[j]? = some o) : Ok P n l md ops Q S G T F (k + j) o := by
  induction r generalizing k j with
  | nil => simp at hj
  | cons x r ih =>
    cases j with
    | zero => simp at hj; subst hj; exact h.1
    | succ j =>
      have := ih h.2 (j := j) (by simpa using hj)
      rwa [show k + 1 + j = k + (j + 1) by omega] at this
structure Reg (n : Nat) (l : List (Nat × Value)) (ops : Array Oper) (S : World → Prop) (T : Nat → Value → World → Prop) (F : Nat → Nat → Value → Value → Prop) (listed : Array Bool) (a : Act) (w : World) : Prop where
  kn : Kn n l a
  size : listed.size = ops.size
  ok : S w
  slots : ∀ j d, (ops[j]?).bind (·.dst) = some d → listed.getD j false = true → T j (a.eval (.tmp d)) w
  pairs : ∀ i j d e, i ≠ j → (ops[i]?).bind (·.dst) = some d → (ops[j]?).bind (·.dst) = some e → listed.getD i false = true → listed.getD j false = true → F i j (a.eval (.tmp d)) (a.eval (.tmp e))
theorem Reg.next (hap : apartB ops = true) (hfr : freshB n l ops = true) {listed : Array Bool} {a : Act} {w w' : World} {i : Nat} {o : Oper} {v : Value} (h : Reg n l ops S T F listed a w) (ho : ops[i]? = some o) (hv : T i v w') (hS : S w') (hG : ∀ j u, T j u w → T j u w') (hF : ∀ k d, k ≠ i → listed.getD k false = true → (ops[k]?).bind (·.dst) = some d → F i k v (a.eval (.tmp d)) ∧ F k i (a.eval (.tmp d)) v) : Reg n l ops S T F (listed.setIfInBounds i true) (a.put o.dst v) w' := by
  have hi : i < ops.size := (Array.getElem?_eq_some_iff.1 ho).1;have hob : (ops[i]?).bind (·.dst) = o.dst := by rw [ho]; rfl
  cases hd : o.dst with
  | none =>
    have old : ∀ j d, (ops[j]?).bind (·.dst) = some d → (listed.setIfInBounds i true).getD j false = true → listed.getD j false = true := fun j d hj hl => by
      by_cases e : i = j
      · subst e; rw [hob, hd] at hj; cases hj
      · rwa [getD_set_ne false e] at hl
    exact ⟨h.kn, by simp [h.size], hS, fun j d hj hl => hG _ _ (h.slots j d hj (old j d hj hl)), fun j k d e hne hj hk hl hm => h.pairs j k d e hne hj hk (old j d hj hl) (old k e hk hm)⟩
  | some d =>
    have h1 := List.all_eq_true.1 hfr i (List.mem_range.2 hi);rw [hob, hd] at h1;simp only [Bool.and_eq_true] at h1;have hdn : d < a.tmps.size := by rw [h.kn.size]; exact Nat.le_of_ble_eq_true h1.1
    have oth : ∀ j e, i ≠ j → (ops[j]?).bind (·.dst) = some e → (a.put (some d) v).eval (.tmp e) = a.eval (.tmp e) := fun j e hij hj => by
      have hjs : j < ops.size := by
        cases hj2 : ops[j]? with
        | none => rw [hj2] at hj; cases hj
        | some x => exact (Array.getElem?_eq_some_iff.1 hj2).1
      have h2 := List.all_eq_true.1 (List.all_eq_true.1 hap i (List.mem_range.2 hi)) j (List.mem_range.2 hjs);rw [hob, hd, hj, beq_no hij] at h2;have hde : d ≠ e := fun e' => by subst e'; simp at h2
      exact eval_put_ne v hde
    refine ⟨h.kn.other v h1.2, by simp [h.size], hS, fun j e hj hl => ?_, fun j k e f hne hj hk hl hm => ?_⟩
    · by_cases hij : i = j
      · subst hij;rw [hob, hd] at hj;obtain rfl := Option.some.inj hj;rw [eval_put_same v hdn];exact hv
      · rw [getD_set_ne false hij] at hl;rw [oth j e hij hj];exact hG _ _ (h.slots j e hj hl)
    · by_cases hij : i = j
      · subst hij;rw [hob, hd] at hj;obtain rfl := Option.some.inj hj;rw [getD_set_ne false hne] at hm;rw [eval_put_same v hdn, oth k f hne hk];exact (hF k f (fun e => hne e.symm) hm hk).1
      · rw [getD_set_ne false hij] at hl;rw [oth j e hij hj]
        by_cases hik : i = k
        · subst hik;rw [hob, hd] at hk;obtain rfl := Option.some.inj hk;rw [eval_put_same v hdn];exact (hF j e (fun e => hij e.symm) hl hj).2
        · rw [getD_set_ne false hik] at hm;rw [oth k f hik hk];exact h.pairs j k e f hne hj hk hl hm
theorem wpAny_reg (hback : backB md ops = true) (hap : apartB ops = true) (hfr : freshB n l ops = true) (hT : ∀ i v w w', G w w' → T i v w → T i v w') (hok : Oks P n l md ops Q S G T F 0 ops.toList)
    (hend : ∀ a w, Kn n l a → S w → (∀ j d, (ops[j]?).bind (·.dst) = some d → T j (a.eval (.tmp d)) w) → (∀ i j d e, i ≠ j → (ops[i]?).bind (·.dst) = some d → (ops[j]?).bind (·.dst) = some e → F i j (a.eval (.tmp d)) (a.eval (.tmp e))) → Q .normal a w) :
    ∀ (fuel : Nat) (listed : Array Bool) (a : Act) (w : World), listed.toList.countP (fun b => !b) ≤ fuel → Reg n l ops S T F listed a w → wpAny P md ops Q fuel listed a w := by
  have fin : ∀ (listed : Array Bool) (a : Act) (w : World), Reg n l ops S T F listed a w → Region.ready md ops listed = [] → Q .normal a w := fun listed a w h hr => by
    have al : ∀ j d, (ops[j]?).bind (·.dst) = some d → listed.getD j false = true := fun j d hj => by
      have hjs : j < ops.size := by
        cases hj2 : ops[j]? with
        | none => rw [hj2] at hj; cases hj
        | some x => exact (Array.getElem?_eq_some_iff.1 hj2).1
      exact all_listed hback h.size hr j hjs
    exact hend a w h.kn h.ok (fun j d hj => h.slots j d hj (al j d hj)) fun i j d e hne hi hj => h.pairs i j d e hne hi hj (al i d hi) (al j e hj)
  intro fuel
  induction fuel with
  | zero =>
    intro listed a w hc h
    have hr : Region.ready md ops listed = [] := by
      cases hr : Region.ready md ops listed with
      | nil => rfl
      | cons i r =>
        exfalso
        have hi := (mem_ready.1 (show i ∈ Region.ready md ops listed by rw [hr]; exact List.mem_cons_self)).1
        have hil : i < listed.size := by
          rcases Nat.lt_or_ge i listed.size with h' | h'
          · exact h'
          · simp [Array.getElem?_eq_none h'] at hi
        have hz : listed.toList.countP (fun b => !b) = 0 := by omega
        rw [List.countP_eq_zero] at hz;have := hz listed[i] (by simp);simp [hil] at hi;simp [hi] at this
    exact ⟨hr, fin listed a w h hr⟩
  | succ fuel ih =>
    intro listed a w hc h;refine ⟨fin listed a w h, fun i hi => ?_⟩;obtain ⟨hun, o, ho, hall⟩ := mem_ready.1 hi
    have hil : i < listed.size := by
      rcases Nat.lt_or_ge i listed.size with h' | h'
      · exact h'
      · simp [Array.getElem?_eq_none h'] at hun
    have hcount : (listed.setIfInBounds i true).toList.countP (fun b => !b) ≤ fuel := by
      have hli : listed[i] = false := by simpa [hil] using hun
      rw [Array.toList_setIfInBounds, List.countP_set (by simpa using hil)];simp only [Array.getElem_toList, hli];simp only [Bool.not_false, Bool.not_true, if_true, Bool.false_eq_true, if_false];omega
    have hok' := hok.at (j := i) (o := o) (by rw [Array.getElem?_toList]; exact ho);rw [Nat.zero_add] at hok'
    have hs := hok' a w (fun k => listed.getD k false = true) h.kn h.ok (fun k d hk hd => h.slots k d hd hk) (fun j k d e hne hj hk hd he => h.pairs j k d e hne hd he hj hk) (fun j hj => by
      obtain ⟨e, he, he2⟩ := List.any_eq_true.1 hj;simp only [Bool.and_eq_true] at he2;have := Nat.eq_of_beq_eq_true he2.2;subst this
      exact hall e (Array.mem_toList_iff.1 he) he2.1)
    unfold Op1 at hs;unfold wpOp;simp only [ho]
    split
    · rename_i hw;rw [if_pos hw] at hs;refine .inl (Oper.wp_mono (fun a' w' hx => ?_) hs);obtain ⟨v, rfl, hv, hS, hG, hF⟩ := hx;exact ih _ _ _ hcount (h.next hap hfr ho hv hS (fun j u hu => hT j u _ _ hG hu) hF)
    · rename_i hw;rw [if_neg hw] at hs;exact ih _ _ _ hcount (h.next hap hfr ho hs.1 h.ok (fun j u hu => hu) hs.2)
theorem anyF {id : Nat} {os : List Oper} {a : Act} {w : World} (S : World → Prop) (G : World → World → Prop) (T : Nat → Value → World → Prop) (F : Nat → Nat → Value → Value → Prop) (hm : P.follows .mixedOrders = true) (h : Kn n l a) (hback : backB .any os.toArray = true) (hap : apartB os.toArray = true) (hfr : freshB n l os.toArray = true)
    (hT : ∀ i v w w', G w w' → T i v w → T i v w') (hS : S w.drew) (hok : Oks P n l .any os.toArray Q S G T F 0 os)
    (hend : ∀ a w, Kn n l a → S w → (∀ j d, (os.toArray[j]?).bind (·.dst) = some d → T j (a.eval (.tmp d)) w) → (∀ i j d e, i ≠ j → (os.toArray[i]?).bind (·.dst) = some d → (os.toArray[j]?).bind (·.dst) = some e → F i j (a.eval (.tmp d)) (a.eval (.tmp e))) → Q .normal a w) : (Code.region id os.toArray true).wp P Q a w := by
  refine wp_region_any hm (wpAny_reg (S := S) (G := G) (T := T) (F := F) hback hap hfr hT (by simpa using hok) hend _ _ _ _ ?_ ⟨h, by simp, hS, fun j d hj hl => ?_, fun i j d e _ _ _ hl _ => ?_⟩)
  · refine Nat.le_trans List.countP_le_length ?_;simp
  · rw [getD_replicate_false] at hl; cases hl
  · rw [getD_replicate_false] at hl; cases hl
def F0 : Nat → Nat → Value → Value → Prop := fun _ _ _ _ => True
theorem any {id : Nat} {os : List Oper} {a : Act} {w : World} (S : World → Prop) (G : World → World → Prop) (T : Nat → Value → World → Prop) (hm : P.follows .mixedOrders = true) (h : Kn n l a) (hback : backB .any os.toArray = true) (hap : apartB os.toArray = true) (hfr : freshB n l os.toArray = true)
    (hT : ∀ i v w w', G w w' → T i v w → T i v w') (hS : S w.drew) (hok : Oks P n l .any os.toArray Q S G T F0 0 os)
    (hend : ∀ a w, Kn n l a → S w → (∀ j d, (os.toArray[j]?).bind (·.dst) = some d → T j (a.eval (.tmp d)) w) → Q .normal a w) : (Code.region id os.toArray true).wp P Q a w :=
  anyF S G T F0 hm h hback hap hfr hT hS hok fun a w h1 h2 h3 _ => hend a w h1 h2 h3
theorem ones {o : Oper} {i : Nat} {r : List Oper} (h1 : Ok P n l md ops Q S G T F i o) (h2 : Oks P n l md ops Q S G T F (i + 1) r) : Oks P n l md ops Q S G T F i (o :: r) := ⟨h1, h2⟩
theorem ok {i : Nat} {o : Oper} (h : ∀ a w L, Kn n l a → S w → Has md ops T o a w → Op1 P ops Q S G T F i o L a w) : Ok P n l md ops Q S G T F i o := fun a w L h1 h2 h3 _ h5 => h a w L h1 h2 fun j d hj hd => h3 j d (h5 j hj) hd
theorem okF {i : Nat} {o : Oper} (h : ∀ a w L, Kn n l a → S w → One ops T L a w → Two ops F L a → Ahead md o L → Op1 P ops Q S G T F i o L a w) : Ok P n l md ops Q S G T F i o := h
theorem aopF {i : Nat} {o : Oper} {L : Nat → Prop} {a : Act} {w : World} {s : Sem Value} {l' : List (Nat × Value)} (h : Kn n l' a) (hw : Wants ops l' o.guard true) (he : execOp a.eval o = vl s)
    (H : ∀ K : Value → World → Prop, (∀ v w', T i v w' → S w' → G w w' → (∀ k d, k ≠ i → L k → (ops[k]?).bind (·.dst) = some d → F i k v (a.eval (.tmp d)) ∧ F k i (a.eval (.tmp d)) v) → K v w') → Sat K (s.run P w)) : Op1 P ops Q S G T F i o L a w := by
  unfold Op1;rw [h.wants hw, if_pos rfl];exact run_value s w _ o a (H _ fun v w' h1 h2 h3 h4 => ⟨v, rfl, h1, h2, h3, h4⟩) he
theorem aop {i : Nat} {o : Oper} {L : Nat → Prop} {a : Act} {w : World} {s : Sem Value} {l' : List (Nat × Value)} (h : Kn n l' a) (hw : Wants ops l' o.guard true) (he : execOp a.eval o = vl s)
    (H : ∀ K : Value → World → Prop, (∀ v w', T i v w' → S w' → G w w' → K v w') → Sat K (s.run P w)) : Op1 P ops Q S G T F0 i o L a w :=
  aopF h hw he fun K hK => H K fun v w' h1 h2 h3 => hK v w' h1 h2 h3 fun _ _ _ _ _ => ⟨trivial, trivial⟩
theorem apure {i : Nat} {o : Oper} {L : Nat → Prop} {a : Act} {w : World} {v : Value} {l' : List (Nat × Value)} (h : Kn n l' a) (hw : Wants ops l' o.guard true) (he : execOp a.eval o = vl (.pure v)) (h1 : T i v w) (h2 : S w) (h3 : G w w) : Op1 P ops Q S G T F0 i o L a w :=
  aop h hw he fun _ hK => hK _ _ h1 h2 h3
theorem acall {i : Nat} {o : Oper} {L : Nat → Prop} {a : Act} {w : World} {f : FuncId} {args : Array Value} {R : Ending → World → Prop} {l' : List (Nat × Value)} (h : Kn n l' a) (hw : Wants ops l' o.guard true) (he : execOp a.eval o = callFunc f args)
    (hc : ∀ (args : Array Value) (w : World), (callFunc f args).run P w = .ok (.enter f args) w) (hR : Calls P f args w R) (H : ∀ e w', R e w' → ∃ v, e = .returned v ∧ T i v w' ∧ S w' ∧ G w w') : Op1 P ops Q S G T F0 i o L a w := by
  unfold Op1;rw [h.wants hw, if_pos rfl];unfold Oper.wp;rw [he, hc];refine hR.mono fun e w' hr => ?_;obtain ⟨v, rfl, h1, h2, h3⟩ := H e w' hr;exact ⟨v, rfl, h1, h2, h3, fun _ _ _ _ _ => ⟨trivial, trivial⟩⟩
end
def TL : List (Value → World → Prop) → Nat → Value → World → Prop
  | [], _, _, _ => True
  | p :: _, 0, v, w => p v w
  | _ :: l, i + 1, v, w => TL l i v w
inductive Keeps (G : World → World → Prop) : List (Value → World → Prop) → Prop
  | nil : Keeps G []
  | cons {p : Value → World → Prop} {l : List (Value → World → Prop)} (h : ∀ v w w', G w w' → p v w → p v w') (r : Keeps G l) : Keeps G (p :: l)
theorem Keeps.all {G : World → World → Prop} {l : List (Value → World → Prop)} (h : Keeps G l) : ∀ i v w w', G w w' → TL l i v w → TL l i v w' := by
  induction h with
  | nil => intro i v w w' _ _; exact trivial
  | cons h1 _ ih =>
    intro i v w w' hg ht
    cases i with
    | zero => exact h1 v w w' hg ht
    | succ i => exact ih i v w w' hg ht
def Is (x : Value) : Value → World → Prop := fun v _ => v = x
theorem Is.keep {G : World → World → Prop} {x : Value} : ∀ v w w', G w w' → Is x v w → Is x v w' := fun _ _ _ _ h => h
end Go.Proofs.YtbcokncfkikalaaGreatDoor.Kn
end
section
namespace Go.Proofs.YtbcokncfkikalaaGreatDoor.Own
open Go Go.RowKit Go.Lib
structure Kept (v v' : World) (r : Option Nat) (g' : Nat) : Prop where
  at' : r = some g' ∨ v.heap.size ≤ g'
  lt : g' < v'.heap.size
  size : v.heap.size ≤ v'.heap.size
  grown : v.grownBy v' r
theorem Kept.row {v v' : World} {r : Option Nat} {g' B size n : Nat} {e : TypeId} {d : Value} {xs : List Value} (h : Kept v v' r g') (ho : v.ownsRow B e size d n xs) (hne : d.ownBlock = none ∨ d.ownBlock ≠ r) : v'.ownsRow B e size d n xs := ho.kept h.grown hne
theorem Kept.cell {v v' : World} {r : Option Nat} {g' b o : Nat} (h : Kept v v' r g') (hlt : b < v.heap.size) (hne : some b ≠ r) : v'.cell? ⟨b, o, none⟩ = v.cell? ⟨b, o, none⟩ := h.grown.cell_far ⟨b, o, none⟩ hlt hne
structure Elem (P : Program) (T e : TypeId) (z : Value) (size bytes : Nat) : Prop where
  under : P.underlying T = some (.slice e)
  info : (P.info? e).map (fun i => (i.zero, i.size, i.bytes)) = some (some z, size, bytes)
  cells : z.cells.size = size
  pos : 0 < size
section
variable {P : Program} {T e : TypeId} {z : Value} {size bytes : Nat}
theorem Elem.parts (h : Elem P T e z size bytes) : ∃ i, P.info? e = some i ∧ i.zero = some z ∧ i.size = size ∧ i.bytes = bytes := by
  have hi := h.info
  cases hq : P.info? e with
  | none => rw [hq] at hi; cases hi
  | some i =>
    rw [hq] at hi;simp only [Option.map_some, Option.some.injEq, Prod.mk.injEq] at hi;exact ⟨i, rfl, hi.1, hi.2.1, hi.2.2⟩
theorem append (h : Elem P T e z size bytes) (w0 v : World) (ty : TypeId) (A : Option Addr) (n cap m c : Nat) (xs : List Value) (hO : v.ownsRow w0.heap.size e size (.slice A n cap) n xs)
    (b : Addr) (news : List Value) (hl : news.length = m * size) (hnews : ∀ j u, news[j]? = some u → v.cell? (b.add j) = some u) (h1 : ∀ u ∈ news, u.oneCell' = true) (hp : 0 < n + m) (hmax : n + m ≤ maxLen) (hby : (n + m) * bytes ≤ 140737488355328) (hb : Below w0.heap.size w0 v) :
    ∃ g' cap' v', (Builtin.append_ #[T, T] ty #[.slice A n cap, .slice (some b) m c]).run P v = .ok (.slice (some ⟨g', 0, none⟩) (n + m) cap') v' ∧
      v'.ownsRow w0.heap.size e size (.slice (some ⟨g', 0, none⟩) (n + m) cap') (n + m) (xs ++ news) ∧ Below w0.heap.size w0 v' ∧ Kept v v' (Value.slice A n cap).ownBlock g' := by
  obtain ⟨i, hi, hz0, hz1, hz2⟩ := h.parts;obtain ⟨v1, v', hrun, h3, h4, _, h5⟩ := run_append_own_at (P := P) (w := v) w0.heap.size T ty e i z size bytes h.under hi hz0 hz1 hz2 h.cells h.pos (.slice A n cap) n xs hO b m c news hl hnews h1 hmax hby hb.size;obtain ⟨g', cap', rfl, h6, h7⟩ := h3.form hp;refine ⟨g', cap', v', hrun, h3, hb.grown h4 hb.size (fun k hk => (hO.lt k hk).1), ?_, h7, h4.size, h4⟩;rcases h5 with h | h
  · exact .inl (by rw [← h]; rfl)
  · simp [Value.ownBlock] at h; exact .inr (by omega)
theorem new_row (w : World) (B : Nat) (e : TypeId) (size : Nat) (hB : B ≤ w.heap.size) : (w.alloc (.cells #[] e)).ownsRow B e size (.slice (some ⟨w.heap.size, 0, none⟩) 0 0) 0 [] :=
  ⟨by simp, .inr ⟨w.heap.size, 0, #[], rfl, hB, heap_alloc_new _ _, Nat.le_refl _, Nat.zero_le _, by simp, by simp⟩⟩
theorem row_on {w w' : World} {B size n : Nat} {e : TypeId} {d : Value} {xs : List Value} (h : w.ownsRow B e size d n xs) (hb : Below w.heap.size w w') : w'.ownsRow B e size d n xs := by
  obtain ⟨h1, h2⟩ := h;refine ⟨h1, ?_⟩;rcases h2 with h2 | ⟨g, cap, cur, e1, e2, e3, e4⟩
  · exact .inl h2
  · refine .inr ⟨g, cap, cur, e1, e2, ?_, e4⟩
    rw [hb.block g (by
      rcases Nat.lt_or_ge g w.heap.size with h | h
      · exact h
      · rw [Array.getElem?_eq_none h] at e3; cases e3)]
    exact e3
theorem below_drew {B : Nat} {w w' : World} (h : Below B w w') : Below B w w'.drew := ⟨h.1, h.2, h.3, h.4, h.5⟩
theorem undrew {B : Nat} {w w' : World} (h : Below B w.drew w') : Below B w w' := ⟨h.1, h.2, h.3, h.4, h.5⟩
theorem below_drewN {B : Nat} {w w' : World} (h : Below B w w') (n : Nat) : Below B w (w'.drewN n) := ⟨h.1, h.2, h.3, h.4, h.5⟩
end
end Go.Proofs.YtbcokncfkikalaaGreatDoor.Own
end
section
namespace Go.Proofs.YtbcokncfkikalaaGreatDoor.St
open Go Go.RowKit Go.Lib
def rowD : TypeDesc → Bool
  | .struct _ => true
  | .array _ _ => true
  | _ => false
def St (w : World) (g : Nat) (T : TypeId) (cs : Array Value) : Prop := w.heap[g]? = some (.cells cs T (0, 0))
section
variable {w w' : World} {g : Nat} {T : TypeId} {cs : Array Value}
theorem St.lt (h : St w g T cs) : g < w.heap.size := (Array.getElem?_eq_some_iff.1 h).1
theorem St.on (h : St w g T cs) (hb : Below w.heap.size w w') : St w' g T cs := (hb.block g h.lt).trans h
theorem St.below {B : Nat} (h : St w g T cs) (hb : Below B w w') (hg : g < B) : St w' g T cs := (hb.block g hg).trans h
theorem St.new (w : World) (T : TypeId) (cs : Array Value) : St (w.alloc (.cells cs T)) w.heap.size T cs := heap_alloc_new w _
theorem St.alloc (h : St w g T cs) (o : Obj) : St (w.alloc o) g T cs := ((Below.refl w.heap.size w).alloc (Nat.le_refl _) o |>.block g h.lt).trans h
theorem St.drew (h : St w g T cs) : St w.drew g T cs := h
theorem St.drewN (h : St w g T cs) (n : Nat) : St (w.drewN n) g T cs := h
theorem St.cell (h : St w g T cs) (i : Nat) {v : Value} (hv : cs[i]? = some v) : w.cell? ⟨g, i, none⟩ = some v := (cell_of_row w g i cs T (0, 0) h).trans hv
theorem St.free (h : St w g T cs) (i : Nat) : w.frozen? ⟨g, i, none⟩ = false := frozen_of_row w g i cs T h
theorem St.setRow (h : St w g T cs) {k : Nat} (hk : g ≠ k) (xs : Array Value) : St (w.setRow k xs) g T cs := (setRow_other w k g xs hk).trans h
theorem St.setCell (h : St w g T cs) {a : Addr} (hk : g ≠ a.block) (v : Value) : St (w.setCell a v) g T cs := (heap_setCell_other w a g v hk).trans h
theorem St.put (h : St w g T cs) (i : Nat) (v : Value) : St (w.setCell ⟨g, i, none⟩ v) g T (cs.setIfInBounds i v) := heap_setCell_same w g i cs T v h
theorem St.kept {r : Option Nat} {g' : Nat} (h : St w g T cs) (hk : Own.Kept w w' r g') (hne : some g ≠ r) : St w' g T cs := (hk.grown.block g h.lt hne).trans h
theorem St.store {P : Program} {cells : Array Value} (h : St w g T cs) (hi : (P.info? T).map (·.size) = some cells.size) (ho : cs.size = cells.size) (h1 : cells.all (·.oneCell') = true) :
    (Instr.storeAt T (.pointer (some ⟨g, 0, none⟩)) (.agg cells)).run P w = .ok () (w.setRow g cells) ∧ St (w.setRow g cells) g T cells ∧ ∀ B, B ≤ g → Below B w (w.setRow g cells) := by
  refine ⟨?_, setRow_heap w g cs cells T (0, 0) h, fun B hB => below_setRow (Below.refl B w) hB cells⟩;have hs := run_storeVar_row (P := P) w g T T cs cells h hi ho h1;simp only [Instr.storeAt, Instr.sureAddr, Sem.run_bind, Sem.run_pure, Result.andThen_ok];exact hs
theorem St.load {P : Program} {d : TypeDesc} (h : St w g T cs) (hu : P.underlying T = some d) (hd : rowD d = true) (hi : (P.info? T).map (·.size) = some cs.size) :
    (loadVar T ⟨g, 0, none⟩).run P w = .ok (.agg cs) w := by
  cases d <;> first | exact run_loadVar_row w g T T cs (0, 0) _ h hu rfl hi | cases hd
end
end Go.Proofs.YtbcokncfkikalaaGreatDoor.St
namespace Go.Proofs.YtbcokncfkikalaaGreatDoor.Kn
open Go
section
variable {P : Program} {n : Nat} {l : List (Nat × Value)} {a : Act} {w : World}
end
end Go.Proofs.YtbcokncfkikalaaGreatDoor.Kn
end
section
namespace Go.Proofs.YtbcokncfkikalaaGreatDoor.Oct
def shortF : Nat → Nat → List UInt8
  | 0, n => [UInt8.ofNat n]
  | f + 1, n => if n < 128 then [UInt8.ofNat n] else UInt8.ofNat (n % 128 + 128) :: shortF f (n / 128)
def short (n : Nat) : List UInt8 := shortF 12 n
theorem shortF_more : ∀ (f n : Nat), n < 128 ^ (f + 1) → shortF f n = shortF (f + 1) n := by
  intro f
  induction f with
  | zero => intro n h; simp only [shortF]; rw [if_pos (by simpa using h)]
  | succ f ih =>
    intro n h;rw [shortF, shortF]
    by_cases hn : n < 128
    · rw [if_pos hn, if_pos hn]
    · rw [if_neg hn, if_neg hn, ih (n / 128) (by rw [Nat.pow_succ] at h; omega)]
theorem short_lt (n : Nat) (h : n < 128) : short n = [UInt8.ofNat n] := by
  unfold short; rw [shortF, if_pos h]
theorem short_ge (n : Nat) (h : 128 ≤ n) (hb : n < 2 ^ 63) : short n = UInt8.ofNat (n % 128 + 128) :: short (n / 128) := by
  have e : short n = UInt8.ofNat (n % 128 + 128) :: shortF 11 (n / 128) := by unfold short; rw [shortF, if_neg (by omega)]
  rw [e]; unfold short; rw [shortF_more 11 (n / 128) (by have : (128 : Nat) ^ 12 = 2 ^ 84 := by decide
                                                         omega)]
theorem shortF_len : ∀ (f n k : Nat), n < 128 ^ (k + 1) → (shortF f n).length ≤ k + 1 := by
  intro f
  induction f with
  | zero => intro n k _; simp [shortF]
  | succ f ih =>
    intro n k h;rw [shortF]
    by_cases hn : n < 128
    · rw [if_pos hn]; simp
    · rw [if_neg hn]
      match k, h with
      | 0, h => omega
      | k + 1, h => have := ih (n / 128) k (by rw [Nat.pow_succ] at h; omega); simp; exact this
theorem short_len9 (n : Nat) (h : n < 2 ^ 63) : (short n).length ≤ 9 := shortF_len 12 n 8 (by have : (128 : Nat) ^ 9 = 2 ^ 63 := by decide
                                                                                              omega)
theorem shortF_pos (f n : Nat) : 0 < (shortF f n).length := by cases f <;> simp [shortF]; split <;> simp
theorem short_pos (n : Nat) : 0 < (short n).length := shortF_pos 12 n
def rdF : Nat → Bool → List UInt8 → Nat × Nat × Nat
  | 0, _, _ => (0, 0, 4)
  | _ + 1, _, [] => (0, 0, 3)
  | k + 1, nf, b :: r =>
    if b = 0 ∧ nf = true then (0, 0, 4) else if b.toNat < 128 then (b.toNat, 1, 0)
    else if (rdF k true r).2.2 = 0 then (b.toNat % 128 + 128 * (rdF k true r).1, (rdF k true r).2.1 + 1, 0) else (0, 0, (rdF k true r).2.2)
def rd (l : List UInt8) : Nat × Nat × Nat := rdF 8 false l
def comb (a k : Nat) (y : Nat × Nat × Nat) : Nat × Nat × Nat := if y.2.2 = 0 then (a + 128 ^ k * y.1, y.2.1 + k, 0) else (0, 0, y.2.2)
theorem comb_zero (y : Nat × Nat × Nat) (h : y.2.2 ≠ 0 → y = (0, 0, y.2.2)) : comb 0 0 y = y := by
  unfold comb
  by_cases e : y.2.2 = 0
  · rw [if_pos e]; obtain ⟨a, b, c⟩ := y; simp at e ⊢; exact e.symm
  · rw [if_neg e]; exact (h e).symm
theorem rdF_err : ∀ (m : Nat) (nf : Bool) (l : List UInt8), (rdF m nf l).2.2 ≠ 0 → rdF m nf l = (0, 0, (rdF m nf l).2.2) := by
  intro m nf l h
  match m, l with
  | 0, l => rfl
  | m + 1, [] => rfl
  | m + 1, b :: r =>
    rw [rdF] at h ⊢
    by_cases h1 : b = 0 ∧ nf = true
    · rw [if_pos h1]
    · rw [if_neg h1] at h ⊢
      by_cases h2 : b.toNat < 128
      · rw [if_pos h2] at h; simp at h
      · rw [if_neg h2] at h ⊢
        by_cases h3 : (rdF m true r).2.2 = 0
        · rw [if_pos h3] at h; simp at h
        · rw [if_neg h3]
theorem rd_start (l : List UInt8) : rd l = comb 0 0 (rdF 8 false l) := (comb_zero _ (rdF_err 8 false l)).symm
theorem comb_step (a k m : Nat) (nf : Bool) (b : UInt8) (r : List UInt8) (h0 : ¬ (b = 0 ∧ nf = true)) (h1 : ¬ b.toNat < 128) :
    comb a k (rdF (m + 1) nf (b :: r)) = comb (a + 128 ^ k * (b.toNat % 128)) (k + 1) (rdF m true r) := by
  rw [rdF, if_neg h0, if_neg h1];unfold comb
  by_cases e : (rdF m true r).2.2 = 0
  · simp only [e, if_true];refine Prod.ext ?_ (Prod.ext ?_ rfl)
    · simp only [Nat.mul_add, Nat.pow_succ]; rw [Nat.add_assoc, Nat.mul_assoc]
    · simp only; omega
  · simp only [e, if_false]
theorem comb_last (a k m : Nat) (nf : Bool) (b : UInt8) (r : List UInt8) (h0 : ¬ (b = 0 ∧ nf = true)) (h1 : b.toNat < 128) :
    comb a k (rdF (m + 1) nf (b :: r)) = (a + 128 ^ k * b.toNat, k + 1, 0) := by
  rw [rdF, if_neg h0, if_pos h1]; unfold comb; simp; omega
theorem comb_null (a k m : Nat) (b : UInt8) (r : List UInt8) (h0 : b = 0) : comb a k (rdF (m + 1) true (b :: r)) = (0, 0, 4) := by
  rw [rdF, if_pos ⟨h0, rfl⟩]; unfold comb; simp
theorem comb_end (a k m : Nat) (nf : Bool) : comb a k (rdF (m + 1) nf []) = (0, 0, 3) := by rw [rdF]; unfold comb; simp
theorem comb_out (a k : Nat) (nf : Bool) (l : List UInt8) : comb a k (rdF 0 nf l) = (0, 0, 4) := by rw [rdF]; unfold comb; simp
theorem toNat_ofNat (n : Nat) (h : n < 256) : (UInt8.ofNat n).toNat = n := by simp [UInt8.toNat_ofNat']; omega
theorem ofNat_toNat' (b : UInt8) : UInt8.ofNat b.toNat = b := by simp
theorem rdF_shortF : ∀ (f m n : Nat) (nf : Bool) (t : List UInt8), n < 128 ^ (f + 1) → n < 128 ^ m → (nf = true → 0 < n) → 0 < m →
    rdF m nf (shortF f n ++ t) = (n, (shortF f n).length, 0) := by
  intro f
  induction f with
  | zero =>
    intro m n nf t h _ hz hm
    match m, hm with
    | m + 1, _ =>
      have hn : n < 128 := by simpa using h
      show rdF (m + 1) nf (UInt8.ofNat n :: t) = _;have hv := toNat_ofNat n (by omega);rw [rdF, if_neg (by rintro ⟨e, h2⟩; have := hz h2; rw [e] at hv; simp at hv; omega), if_pos (by omega), hv]; rfl
  | succ f ih =>
    intro m n nf t h h8 hz hm
    match m, hm with
    | m + 1, _ =>
      by_cases hn : n < 128
      · have e : shortF (f + 1) n = [UInt8.ofNat n] := by rw [shortF, if_pos hn]
        rw [e];show rdF (m + 1) nf (UInt8.ofNat n :: t) = _;have hv := toNat_ofNat n (by omega);rw [rdF, if_neg (by rintro ⟨e, h2⟩; have := hz h2; rw [e] at hv; simp at hv; omega), if_pos (by omega), hv]; rfl
      · have e : shortF (f + 1) n = UInt8.ofNat (n % 128 + 128) :: shortF f (n / 128) := by rw [shortF, if_neg hn]
        rw [e, List.cons_append];have hv := toNat_ofNat (n % 128 + 128) (by omega);have hm0 : 0 < m := by rcases Nat.eq_zero_or_pos m with e | e; (· subst e; simp at h8; omega); exact e
        have := ih m (n / 128) true t (by rw [Nat.pow_succ] at h; omega) (by rw [Nat.pow_succ] at h8; omega) (fun _ => by omega) hm0;rw [rdF, if_neg (by rintro ⟨e, _⟩; rw [e] at hv; simp at hv), if_neg (by omega), this, hv];simp; omega
theorem rd_short (n : Nat) (t : List UInt8) (h : n < 2 ^ 56) : rd (short n ++ t) = (n, (short n).length, 0) :=
  rdF_shortF 12 8 n false t (by have : (128 : Nat) ^ 13 = 2 ^ 91 := by decide
                                omega) (by have : (128 : Nat) ^ 8 = 2 ^ 56 := by decide
                                           omega) (by simp) (by omega)
theorem short_of_rdF : ∀ (m f : Nat) (nf : Bool) (l : List UInt8), m ≤ f + 1 → (rdF m nf l).2.2 = 0 →
    shortF f (rdF m nf l).1 = l.take (rdF m nf l).2.1 ∧ (rdF m nf l).1 < 128 ^ m ∧ (rdF m nf l).2.1 ≤ l.length ∧ 0 < (rdF m nf l).2.1 ∧ (rdF m nf l).2.1 ≤ m ∧ (nf = true → 0 < (rdF m nf l).1) := by
  intro m
  induction m with
  | zero => intro f nf l _ h; simp [rdF] at h
  | succ m ih =>
    intro f nf l hf h
    match l with
    | [] => simp [rdF] at h
    | b :: r =>
      rw [rdF] at h ⊢
      by_cases h1 : b = 0 ∧ nf = true
      · rw [if_pos h1] at h; simp at h
      · rw [if_neg h1] at h ⊢;have hb : b.toNat < 256 := b.toNat_lt;have hpw : 128 ≤ 128 ^ (m + 1) := by rw [Nat.pow_succ]; have := Nat.pow_pos (n := m) (show 0 < 128 by omega); omega
        by_cases h2 : b.toNat < 128
        · rw [if_pos h2];refine ⟨?_, by show b.toNat < _; omega, by simp, by simp, by simp, fun hn => ?_⟩
          · show shortF f b.toNat = _;cases f <;> simp [shortF]
            intro; omega
          · show 0 < b.toNat;rcases Nat.eq_zero_or_pos b.toNat with e | e
            · exact absurd ⟨by rw [← ofNat_toNat' b, e]; rfl, hn⟩ h1
            · exact e
        · rw [if_neg h2] at h ⊢
          by_cases h3 : (rdF m true r).2.2 = 0
          · rw [if_pos h3]
            match f, hf with
            | 0, hf => have : m = 0 := by omega
                       subst this; simp [rdF] at h3
            | f + 1, hf =>
              obtain ⟨q1, q2, q3, q4, q5, q6⟩ := ih f true r (by omega) h3;have q6 := q6 rfl;refine ⟨?_, ?_, ?_, ?_, ?_, ?_⟩
              · show shortF (f + 1) (b.toNat % 128 + 128 * (rdF m true r).1) = (b :: r).take ((rdF m true r).2.1 + 1)
                rw [shortF, if_neg (by omega), List.take_succ_cons, ← q1, show (b.toNat % 128 + 128 * (rdF m true r).1) / 128 = (rdF m true r).1 by omega,
                  show (b.toNat % 128 + 128 * (rdF m true r).1) % 128 + 128 = b.toNat by omega, ofNat_toNat']
              · show b.toNat % 128 + 128 * (rdF m true r).1 < 128 ^ (m + 1);rw [Nat.pow_succ]; omega
              · simp; exact q3
              · simp
              · simp; exact q5
              · intro _; show 0 < b.toNat % 128 + 128 * (rdF m true r).1; omega
          · rw [if_neg h3] at h; exact absurd h h3
theorem short_of_rd (l : List UInt8) (h : (rd l).2.2 = 0) :
    short (rd l).1 = l.take (rd l).2.1 ∧ (rd l).1 < 2 ^ 56 ∧ (rd l).2.1 ≤ l.length ∧ 0 < (rd l).2.1 ∧ (rd l).2.1 ≤ 8 := by
  obtain ⟨a, b, c, d, e, _⟩ := short_of_rdF 8 12 false l (by omega) h
  exact ⟨a, by have : (128 : Nat) ^ 8 = 2 ^ 56 := by decide
               unfold rd; omega, c, d, e⟩
end Go.Proofs.YtbcokncfkikalaaGreatDoor.Oct
end
section
namespace Go.Proofs.YtbcokncfkikalaaGreatDoor.Oct
open Go.RowKit
theorem retB {a b : Bool} (h : a = b) : Ending.returned (.bool a) = .returned (.bool b) := by rw [h]
theorem retI {k : IntKind} {a b : Int} (h : a = b) : Ending.returned (.int k a) = .returned (.int k b) := by rw [h]
def placeB (n : Nat) (a : Int) : Bool := decide (0 ≤ a ∧ a ≤ n)
def turnB (x : Int) : Bool := decide (-36028797018963968 ≤ x ∧ x < 36028797018963968)
theorem placeB_true {n : Nat} {a : Int} (h0 : 0 ≤ a) (h1 : a ≤ n) : placeB n a = true := decide_eq_true ⟨h0, h1⟩
theorem placeB_false {n : Nat} {a : Int} (h : a < 0 ∨ n < a) : placeB n a = false := decide_eq_false (by omega)
theorem turnB_true {x : Int} (h0 : -36028797018963968 ≤ x) (h1 : x < 36028797018963968) : turnB x = true := decide_eq_true ⟨h0, h1⟩
theorem turnB_false {x : Int} (h : x < -36028797018963968 ∨ 36028797018963968 ≤ x) : turnB x = false := decide_eq_false (by omega)
def faultV (p : Int) (c : Int) : Value := .iface 99 (.agg #[.int .i64 p, .iface 72 (.int .i64 c)])
set_option maxHeartbeats 400000 in
theorem isPlace_any (s : ByteArray) (at_ : Int) (w : World) (_hs : s.size ≤ maxLen) :
    Calls Tryz.prog 77 #[.string s, .int .i64 at_] w fun e w' => e = .returned (.bool (placeB s.size at_)) ∧ w = w' := by
  unfold maxLen at _hs
  by_cases h0 : 0 ≤ at_
  · by_cases h1 : at_ ≤ s.size
    · go_enter Tryz.func77, Tryz.ntmps77
      go_wp2
      go_ret
      exact ⟨retB (by first | exact (placeB_true h0 h1).symm | exact (turnB_true h0 h1).symm | exact (placeB_false (by omega)).symm | exact (turnB_false (by omega)).symm), rfl⟩
    · go_enter Tryz.func77, Tryz.ntmps77
      go_wp2
      go_ret
      exact ⟨retB (by first | exact (placeB_true h0 h1).symm | exact (turnB_true h0 h1).symm | exact (placeB_false (by omega)).symm | exact (turnB_false (by omega)).symm), rfl⟩
  · go_enter Tryz.func77, Tryz.ntmps77
    go_wp2
    go_ret
    exact ⟨retB (by first | exact (placeB_false (by omega)).symm | exact (turnB_false (by omega)).symm), rfl⟩
set_option maxHeartbeats 400000 in
theorem fault_any (p c : Int) (w : World) :
    Calls Tryz.prog 78 #[.int .i64 p, .int .i64 c] w fun e w' => e = .returned (faultV p c) ∧ w = w' := by
  go_enter Tryz.func78, Tryz.ntmps78
  go_wp2
  go_ret
  exact ⟨rfl, rfl⟩
set_option maxHeartbeats 400000 in
theorem turns_any (x : Int) (w : World) :
    Calls Tryz.prog 100 #[.int .i64 x] w fun e w' => e = .returned (.bool (turnB x)) ∧ w = w' := by
  by_cases h0 : -36028797018963968 ≤ x
  · by_cases h1 : x < 36028797018963968
    · go_enter Tryz.func100, Tryz.ntmps100
      go_wp2
      go_ret
      exact ⟨retB (by first | exact (placeB_true h0 h1).symm | exact (turnB_true h0 h1).symm | exact (placeB_false (by omega)).symm | exact (turnB_false (by omega)).symm), rfl⟩
    · go_enter Tryz.func100, Tryz.ntmps100
      go_wp2
      go_ret
      exact ⟨retB (by first | exact (placeB_true h0 h1).symm | exact (turnB_true h0 h1).symm | exact (placeB_false (by omega)).symm | exact (turnB_false (by omega)).symm), rfl⟩
  · go_enter Tryz.func100, Tryz.ntmps100
    go_wp2
    go_ret
    exact ⟨retB (by first | exact (placeB_false (by omega)).symm | exact (turnB_false (by omega)).symm), rfl⟩
def turnOf (x : Int) : Int := if -36028797018963968 ≤ x ∧ x < 36028797018963968 then (if x < 0 then -2 * x - 1 else 2 * x) else 0
set_option maxHeartbeats 400000 in
theorem turn_any (x : Int) (w : World) :
    Calls Tryz.prog 101 #[.int .i64 x] w fun e w' => e = .returned (.int .i64 (turnOf x)) ∧ w = w' := by
  by_cases h : -36028797018963968 ≤ x ∧ x < 36028797018963968
  · obtain ⟨h0, h1⟩ := h;have hd := turnB_true h0 h1
    by_cases h2 : x < 0
    · have HT := Lib.hid (show turnOf x = -2 * x - 1 by unfold turnOf; rw [if_pos ⟨h0, h1⟩, if_pos h2])
      go_enter Tryz.func101, Tryz.ntmps101
      go_wp2_with (go_at_call 100; refine (turns_any _ _).mono ?_; rintro e w' ⟨rfl, rfl⟩)
      go_ret
      exact ⟨by rw [HT.out]; rfl, rfl⟩
    · have HT := Lib.hid (show turnOf x = 2 * x by unfold turnOf; rw [if_pos ⟨h0, h1⟩, if_neg h2])
      go_enter Tryz.func101, Tryz.ntmps101
      go_wp2_with (go_at_call 100; refine (turns_any _ _).mono ?_; rintro e w' ⟨rfl, rfl⟩)
      go_ret
      exact ⟨by rw [HT.out]; rfl, rfl⟩
  · have hd := turnB_false (x := x) (by omega);have HT := Lib.hid (show turnOf x = 0 by unfold turnOf; rw [if_neg h]);clear h
    go_enter Tryz.func101, Tryz.ntmps101
    go_wp2_with (go_at_call 100; refine (turns_any _ _).mono ?_; rintro e w' ⟨rfl, rfl⟩)
    go_ret
    exact ⟨by rw [HT.out]; rfl, rfl⟩
end Go.Proofs.YtbcokncfkikalaaGreatDoor.Oct
end
section
namespace Go.Proofs.YtbcokncfkikalaaGreatDoor.Gap
open Go Go.RowKit Go.Lib Oct
abbrev G4 := Int × Int × Int × Int
def rdG (s : ByteArray) (p : Int) : G4 :=
  if p < 0 ∨ (s.size : Int) < p then (0, p, 1, p)
  else if (rd (s.data.toList.drop p.toNat)).2.2 = 0 then (((rd (s.data.toList.drop p.toNat)).1 : Int), p + ((rd (s.data.toList.drop p.toNat)).2.1 : Int), 0, 0)
  else if (rd (s.data.toList.drop p.toNat)).2.2 = 3 then (0, p, 3, (s.size : Int)) else (0, p, 4, p)
theorem rdG_ok {s : ByteArray} {p x nx a : Int} (h : rdG s p = (x, nx, 0, a)) : (0 ≤ x ∧ x ≤ 72057594037927935) ∧ 0 ≤ p ∧ p < nx ∧ nx ≤ s.size ∧ a = 0 ∧ (rd (s.data.toList.drop p.toNat)).2.2 = 0 ∧ x = ((rd (s.data.toList.drop p.toNat)).1 : Int) ∧ nx = p + ((rd (s.data.toList.drop p.toNat)).2.1 : Int) := by
  unfold rdG at h
  split at h
  · simp at h
  · rename_i hp
    split at h
    · rename_i h0;obtain ⟨_, h2, h3, h4, _⟩ := short_of_rd _ h0;have hl : (s.data.toList.drop p.toNat).length = s.size - p.toNat := by rw [List.length_drop]; rfl
      simp only [Prod.mk.injEq] at h;obtain ⟨rfl, rfl, -, rfl⟩ := h;exact ⟨⟨by omega, by omega⟩, by omega, by omega, by omega, rfl, h0, rfl, rfl⟩
    · split at h <;> simp at h
theorem rdG_bad {s : ByteArray} {p x nx e a : Int} (h : rdG s p = (x, nx, e, a)) (he : e ≠ 0) : x = 0 ∧ nx = p ∧ (e = 1 ∨ e = 3 ∨ e = 4) := by
  unfold rdG at h
  split at h
  · simp only [Prod.mk.injEq] at h; obtain ⟨rfl, rfl, rfl, rfl⟩ := h; exact ⟨rfl, rfl, .inl rfl⟩
  · split at h
    · simp only [Prod.mk.injEq] at h; obtain ⟨rfl, rfl, rfl, rfl⟩ := h; exact absurd rfl he
    · split at h
      · simp only [Prod.mk.injEq] at h; obtain ⟨rfl, rfl, rfl, rfl⟩ := h; exact ⟨rfl, rfl, .inr (.inl rfl)⟩
      · simp only [Prod.mk.injEq] at h; obtain ⟨rfl, rfl, rfl, rfl⟩ := h; exact ⟨rfl, rfl, .inr (.inr rfl)⟩
def cnt (s : ByteArray) (p N : Int) : G4 := if (rdG s p).2.2.1 = 0 ∧ N < (rdG s p).1 then (0, p, 4, p) else rdG s p
def skF (s : ByteArray) (at0 : Int) : Nat → Int → Int × Int × Int
  | 0, nx => (nx, 0, 0)
  | k + 1, nx => if (rdG s nx).2.2.1 = 0 then skF s at0 k (rdG s nx).2.1 else (at0, (rdG s nx).2.2.1, (rdG s nx).2.2.2)
theorem skF_ok {s : ByteArray} {at0 nx x n2 a : Int} {k : Nat} (h : rdG s nx = (x, n2, 0, a)) : skF s at0 (k + 1) nx = skF s at0 k n2 := by rw [skF, h]; simp
def bkI (x : Int) : Int := if x % 2 = 1 then -((x + 1) / 2) else x / 2
def gtF (s : ByteArray) (N : Int) : Nat → Bool → Int → Int → (Int × Int) ⊕ (List Int × Int)
  | 0, _, _, nx => .inr ([], nx)
  | k + 1, first, now, nx =>
    if (rdG s nx).2.2.1 = 0 then
      (let now' := if first then now + bkI (rdG s nx).1 else now + (rdG s nx).1 + 1
       if now' < 0 ∨ N ≤ now' then .inl (4, nx) else match gtF s N k false now' (rdG s nx).2.1 with
        | .inl e => .inl e
        | .inr (l, n2) => .inr (now' :: l, n2))
    else .inl ((rdG s nx).2.2.1, (rdG s nx).2.2.2)
def GotYet (s : ByteArray) (N : Int) (k : Nat) (first : Bool) (now nx : Int) (done : List Int) (r : (Int × Int) ⊕ (List Int × Int)) : Prop := r = (match gtF s N k first now nx with
  | .inl e => .inl e
  | .inr (l, n2) => .inr (done ++ l, n2))
theorem GotYet.start {s : ByteArray} {N : Int} {k : Nat} {now nx : Int} : GotYet s N k true now nx [] (gtF s N k true now nx) := by
  unfold GotYet
  cases gtF s N k true now nx with
  | inl e => rfl
  | inr p => obtain ⟨l, n2⟩ := p; rfl
theorem GotYet.done {s : ByteArray} {N : Int} {first : Bool} {now nx : Int} {done : List Int} {r : (Int × Int) ⊕ (List Int × Int)} (h : GotYet s N 0 first now nx done r) : r = .inr (done, nx) := by
  unfold GotYet at h;rw [gtF] at h
  simpa using h
theorem GotYet.bad {s : ByteArray} {N : Int} {k : Nat} {first : Bool} {now nx x n2 e a : Int} {done : List Int} {r : (Int × Int) ⊕ (List Int × Int)} (h : GotYet s N (k + 1) first now nx done r) (hr : rdG s nx = (x, n2, e, a)) (he : e ≠ 0) : r = .inl (e, a) := by
  unfold GotYet at h;rw [gtF, hr] at h
  simpa [he] using h
theorem GotYet.out {s : ByteArray} {N : Int} {k : Nat} {first : Bool} {now nx x n2 a : Int} {done : List Int} {r : (Int × Int) ⊕ (List Int × Int)} (h : GotYet s N (k + 1) first now nx done r) (hr : rdG s nx = (x, n2, 0, a)) (ho : (if first then now + bkI x else now + x + 1) < 0 ∨ N ≤ (if first then now + bkI x else now + x + 1)) : r = .inl (4, nx) := by
  unfold GotYet at h;rw [gtF, hr] at h;simp only [if_true] at h;rw [if_pos ho] at h;exact h
theorem GotYet.next {s : ByteArray} {N : Int} {k : Nat} {first : Bool} {now nx x n2 a : Int} {done : List Int} {r : (Int × Int) ⊕ (List Int × Int)} (h : GotYet s N (k + 1) first now nx done r) (hr : rdG s nx = (x, n2, 0, a)) (y : Int) (hy : (if first then now + bkI x else now + x + 1) = y) (ho : ¬ (y < 0 ∨ N ≤ y)) : GotYet s N k false y n2 (done ++ [y]) r := by
  unfold GotYet at *;rw [gtF, hr] at h;simp only [if_true] at h;rw [hy, if_neg ho] at h;rw [h]
  cases gtF s N k false y n2 with
  | inl e => rfl
  | inr p => obtain ⟨l, n3⟩ := p; simp
def badT (N : Int) (l : List Int) (i : Nat) : Prop := l.getD i 0 < 0 ∨ N ≤ l.getD i 0 ∨ (0 < i ∧ l.getD i 0 ≤ l.getD (i - 1) 0)
instance (N : Int) (l : List Int) (i : Nat) : Decidable (badT N l i) := by unfold badT; infer_instance
def putF (v : Int) (l : List Int) : Nat → List UInt8
  | 0 => short l.length
  | 1 => short l.length ++ short (turnOf (l.getD 0 0 - v)).toNat
  | k + 2 => putF v l (k + 1) ++ short (l.getD (k + 1) 0 - l.getD k 0 - 1).toNat
end Go.Proofs.YtbcokncfkikalaaGreatDoor.Gap
end
section
namespace Go.Proofs.YtbcokncfkikalaaGreatDoor.Num
open Go Go.RowKit Go.Lib
def nt (l : List Int) (i : Nat) : Int := l.getD i 0
theorem nt_at (l : List Int) (i : Nat) (h : i < l.length) : nt l i = l[i] := by simp [nt, List.getD, List.getElem?_eq_getElem h]
theorem take_nt (l : List Int) (k : Nat) (h : k < l.length) : l.take (k + 1) = l.take k ++ [nt l k] := by rw [List.take_succ_eq_append_getElem h, nt_at l k h]
def iV (n : Int) : Value := .int .i64 n
theorem addr_add (b o j : Nat) : (⟨b, o, none⟩ : Addr).add j = ⟨b, o + j, none⟩ := by unfold Addr.add; split <;> simp_all
def IIn (w : World) (A : Option Addr) (l : List Int) : Prop := ∀ i, i < l.length → ∃ b o, A = some ⟨b, o, none⟩ ∧ b < w.heap.size ∧ w.cell? ⟨b, o + i, none⟩ = some (.int .i64 (nt l i))
theorem IIn.on {w w' : World} {A : Option Addr} {l : List Int} (h : IIn w A l) (hb : Below w.heap.size w w') : IIn w' A l := fun i hi => by
  obtain ⟨b, o, e, hlt, h1⟩ := h i hi;exact ⟨b, o, e, Nat.lt_of_lt_of_le hlt hb.size, (hb.cell (p := ⟨b, o + i, none⟩) hlt).trans h1⟩
theorem IIn.drewN {w : World} {A : Option Addr} {l : List Int} (h : IIn w A l) (n : Nat) : IIn (w.drewN n) A l := h
theorem IIn.nil (w : World) (A : Option Addr) : IIn w A [] := fun i hi => absurd hi (by simp)
theorem IIn.cells {w : World} {b o : Nat} {l : List Int} (h : IIn w (some ⟨b, o, none⟩) l) {i : Nat} (hi : i < l.length) : w.cell? ⟨b, o + i, none⟩ = some (.int .i64 (nt l i)) := by
  obtain ⟨b', o', e, _, h1⟩ := h i hi;cases e;exact h1
theorem IIn.news {w : World} {b o : Nat} {l : List Int} (h : IIn w (some ⟨b, o, none⟩) l) : ∀ j u, (l.map iV)[j]? = some u → w.cell? ((⟨b, o, none⟩ : Addr).add j) = some u := fun j u hu => by
  have hj : j < l.length := by
    rcases Nat.lt_or_ge j l.length with h' | h'
    · exact h'
    · rw [List.getElem?_eq_none (by simpa using h')] at hu; cases hu
  rw [addr_add, h.cells hj, nt_at _ _ hj];rw [List.getElem?_map, List.getElem?_eq_getElem hj] at hu;exact hu
def OwnI (w : World) (B : Nat) (A : Option Addr) (n cap : Nat) (l : List Int) : Prop := n = l.length ∧ w.ownsRow B 3 1 (.slice A n cap) n (l.map iV)
theorem OwnI.iin {w : World} {B : Nat} {A : Option Addr} {n cap : Nat} {l : List Int} (h : OwnI w B A n cap l) : IIn w A l := fun i hi => by
  obtain ⟨g, cap', e, hb, hlt⟩ := h.2.form (by rw [h.1]; omega);simp only [Value.slice.injEq] at e;obtain ⟨rfl, _, _⟩ := e;have hc := h.2.cells (g := g) rfl;have a1 := hc i _ (by rw [List.getElem?_map, List.getElem?_eq_getElem hi]; rfl);rw [addr_add] at a1;exact ⟨g, 0, rfl, hlt, by rw [nt_at _ _ hi]; exact a1⟩
theorem OwnI.ge {w : World} {B g n cap : Nat} {l : List Int} (h : OwnI w B (some ⟨g, 0, none⟩) n cap l) : B ≤ g := (h.2.lt g rfl).1
theorem OwnI.lt {w : World} {B g n cap : Nat} {l : List Int} (h : OwnI w B (some ⟨g, 0, none⟩) n cap l) : g < w.heap.size := (h.2.lt g rfl).2
theorem OwnI.alloc {w : World} {B n cap : Nat} {A : Option Addr} {l : List Int} (h : OwnI w B A n cap l) (o : Obj) : OwnI (w.alloc o) B A n cap l := ⟨h.1, h.2.alloc o⟩
theorem OwnI.drew {w : World} {B n cap : Nat} {A : Option Addr} {l : List Int} (h : OwnI w B A n cap l) : OwnI w.drew B A n cap l := h
theorem OwnI.on {w w' : World} {B n cap : Nat} {A : Option Addr} {l : List Int} (h : OwnI w B A n cap l) (hb : Below w.heap.size w w') : OwnI w' B A n cap l := ⟨h.1, Own.row_on h.2 hb⟩
theorem OwnI.none (w : World) (B : Nat) : OwnI w B none 0 0 [] := ⟨rfl, World.ownsRow_nil _ _ _ _⟩
theorem OwnI.new (w : World) (B : Nat) (hB : B ≤ w.heap.size) : OwnI (w.alloc (.cells #[] 3)) B (some ⟨w.heap.size, 0, Option.none⟩) 0 0 [] := ⟨rfl, Own.new_row _ _ _ _ hB⟩
theorem OwnI.kept {v v' : World} {r : Option Nat} {g' B n cap : Nat} {A : Option Addr} {l : List Int} (h : OwnI v B A n cap l) (hk : Own.Kept v v' r g') (hne : (Value.slice A n cap).ownBlock = Option.none ∨ (Value.slice A n cap).ownBlock ≠ r) : OwnI v' B A n cap l := ⟨h.1, hk.row h.2 hne⟩
theorem elemI : Own.Elem Tryz.prog 40 3 (.int .i64 0) 1 8 := ⟨Tryz.underlying40, by kernel_rfl, rfl, by decide⟩
theorem push1 (w0 v : World) (ty : TypeId) (A : Option Addr) (n cap : Nat) (l : List Int) (e : Int) (hO : OwnI v w0.heap.size A n cap l) (hb : Below w0.heap.size w0 v) (hn : n ≤ 100000) :
    ∃ g' cap' v', (Builtin.append_ #[40, 40] ty #[.slice A n cap, .slice (some ⟨v.heap.size, 0, none⟩) 1 1]).run Tryz.prog (v.alloc (.cells #[.int .i64 e] 3)) = .ok (.slice (some ⟨g', 0, none⟩) (n + 1) cap') v' ∧
      OwnI v' w0.heap.size (some ⟨g', 0, none⟩) (n + 1) cap' (l ++ [e]) ∧ Below w0.heap.size w0 v' ∧ Own.Kept (v.alloc (.cells #[.int .i64 e] 3)) v' (Value.slice A n cap).ownBlock g' := by
  obtain ⟨g', cap', v', h1, h2, h3, h4⟩ := Own.append elemI w0 (v.alloc (.cells #[.int .i64 e] 3)) ty A n cap 1 1 (l.map iV) (hO.2.alloc _) ⟨v.heap.size, 0, none⟩ [.int .i64 e] rfl (World.news_of_block (cs := #[.int .i64 e]) (heap_alloc_new v _)) (by simp [Value.oneCell']) (by omega) (by unfold maxLen; omega) (by omega) (hb.alloc hb.size _);exact ⟨g', cap', v', h1, ⟨by rw [List.length_append, ← hO.1]; rfl, by rw [List.map_append]; exact h2⟩, h3, h4⟩
end Go.Proofs.YtbcokncfkikalaaGreatDoor.Num
end
section
namespace Go.Proofs.YtbcokncfkikalaaGreatDoor.Oct
open Go.RowKit Go.Lib
theorem infoByte : (Tryz.prog.info? 5).map (fun i => (i.zero, i.size, i.bytes)) = some (some (.int .u8 0), 1, 1) := by kernel_rfl
theorem byteCells_snoc (l : List UInt8) (b : UInt8) : byteCells (l ++ [b]) = byteCells l ++ [Value.int .u8 b.toNat] := by simp [byteCells]
set_option maxRecDepth 100000 in
set_option maxHeartbeats 1000000 in
theorem appendShort_any (base : Nat) (v : Value) (bs : List UInt8) (x : Nat) (w : World) (hx : (x : Int) ≤ 9223372036854775807)
    (hown : w.ownsRow base 5 1 v bs.length (byteCells bs)) (hbase : base ≤ w.heap.size) (hlen : (bs.length : Int) ≤ 70368744177664) :
    Calls Tryz.prog 73 #[v, .int .i64 (x : Int)] w fun e w' => ∃ v', e = .returned v' ∧ w'.ownsRow base 5 1 v' (bs ++ short x).length (byteCells (bs ++ short x)) ∧ Below base w w' := by
  obtain ⟨i0, hi, hz0, hz1, hz2⟩ := info_parts infoByte;have h9 := short_len9 x (by omega)
  go_enter Tryz.func73, Tryz.ntmps73
  go_wp2
  go_loopw [0, 1] (fun v y wr => ∃ (n : Nat) (l : List UInt8), y = .int .i64 n ∧ (n : Int) ≤ 9223372036854775807 ∧ Hid (bs ++ short x = l ++ short n) ∧ wr.ownsRow base 5 1 v l.length (byteCells l) ∧ Below base w wr ∧ base ≤ wr.heap.size) (fun _ y _ => (intOf y).toNat)
  case atStart => exact ⟨x, bs, rfl, hx, Lib.hid rfl, hown, Below.refl _ _, hbase⟩
  case round =>
    obtain ⟨n, l, rfl, hn, HE, hown1, hb1, hs1⟩ := hrel;have hll : (l.length : Int) ≤ 70368744177674 := by have := congrArg List.length HE.out; simp at this; omega
    by_cases hlt : 128 ≤ n
    · have hby : IntKind.u8.wrap ((n : Int) % 128 + 128) = (n : Int) % 128 + 128 := by simp [IntKind.wrap, IntKind.bits, IntKind.signed]; omega
      go_wp2_with (at_builtin; refine wpList_append_own _ rfl _ _ 75 rfl base 5 i0 (.int .u8 0) 1 1 Tryz.underlying75 hi hz0 hz1 hz2 rfl (by decide) _ _ _ rfl (hown1.alloc _) ⟨wr.heap.size, 0, none⟩ 1 1 [Value.int .u8 ((n : Int) % 128 + 128)] rfl rfl ?c1 ?c2 ?c3 ?c4 ?c5 ?_)
      case c1 => exact cell_one_new _ _ _
      case c2 => intro u hu; simp at hu; subst hu; rfl
      case c3 => unfold maxLen; omega
      case c4 => omega
      case c5 => simp; omega
      intro v' w1 hown' hgrow _;have hb2 : Below base w w1 := (hb1.alloc hs1 _).grown hgrow (by simp; omega) (fun k hk => (hown1.lt k hk).1);have hs2 : base ≤ w1.heap.size := by have := hb2.size; omega
      go_wp2
      go_roundw
      case rel => exact ⟨n / 128, l ++ [UInt8.ofNat (n % 128 + 128)], by go_num, by omega, Lib.hid (by rw [HE.out, short_ge n hlt (by omega)]; simp), by rw [byteCells_snoc, toNat_ofNat _ (by omega)]; simpa using hown', hb2, hs2⟩
      case measure => simp [intOf]; omega
    · have hby : IntKind.u8.wrap (n : Int) = (n : Int) := by simp [IntKind.wrap, IntKind.bits, IntKind.signed]; omega
      go_wp2_with (at_builtin; refine wpList_append_own _ rfl _ _ 75 rfl base 5 i0 (.int .u8 0) 1 1 Tryz.underlying75 hi hz0 hz1 hz2 rfl (by decide) _ _ _ rfl (hown1.alloc _) ⟨wr.heap.size, 0, none⟩ 1 1 [Value.int .u8 (n : Int)] rfl rfl ?d1 ?d2 ?d3 ?d4 ?d5 ?_)
      case d1 => exact cell_one_new _ _ _
      case d2 => intro u hu; simp at hu; subst hu; rfl
      case d3 => unfold maxLen; omega
      case d4 => omega
      case d5 => simp; omega
      intro v' w1 hown' hgrow _;have hb2 : Below base w w1 := (hb1.alloc hs1 _).grown hgrow (by simp; omega) (fun k hk => (hown1.lt k hk).1)
      have HO : Hid (w1.ownsRow base 5 1 v' (bs ++ short x).length (byteCells (bs ++ short x))) := Lib.hid (by
        rw [HE.out, short_lt n (by omega), byteCells_snoc, toNat_ofNat _ (by omega)]; simpa using hown')
      clear hown'
      go_wp2
      go_ret
      exact ⟨v', rfl, HO.out, hb2⟩
def errnoV (c : Int) : Value := .iface 72 (.int .i64 c)
set_option maxRecDepth 100000 in
set_option maxHeartbeats 1000000 in
theorem putShort_ok (x : Int) (w : World) (h0 : 0 ≤ x) (h1 : x ≤ 72057594037927935) :
    Calls Tryz.prog 50 #[.int .i64 x] w fun e w' => e = .returned (.tuple #[.string ⟨(short x.toNat).toArray⟩, .nilIface]) ∧ Below w.heap.size w w' := by
  obtain ⟨n, rfl⟩ := Int.eq_ofNat_of_zero_le h0;rw [Int.toNat_natCast]
  go_enter Tryz.func50, Tryz.ntmps50
  go_wp2_with (go_at_call 73; refine (appendShort_any w.heap.size _ [] n _ (by omega) (World.ownsRow_nil _ _ _ _) (Nat.le_refl _) (by simp)).mono ?_; rintro e w1 ⟨v1, rfl, hown1, hb1⟩; refine Hid.out ?_)
  refine Lib.hid ?_;rw [List.nil_append] at hown1;have hpos := short_pos n;obtain ⟨l, hl⟩ : ∃ l, l = short n := ⟨_, rfl⟩;rw [← hl] at hown1 hpos;have HL := Lib.hid hl;clear hl;rcases hown1.2 with ⟨-, h0⟩ | ⟨g, cap, cur, rfl, -, -, -, -, -, -⟩
  · omega
  · have hcv := run_convert_bytes_back (P := Tryz.prog) w1 75 9 5 ⟨g, 0, none⟩ cap l Tryz.underlying75 Tryz.underlying5 Tryz.underlying9 (fun j hj => hown1.cells (g := g) rfl j _ (by simp [byteCells, hj]))
    go_wp2
    go_ret2
    exact ⟨by rw [← HL.out]; rfl, hb1⟩
end Go.Proofs.YtbcokncfkikalaaGreatDoor.Oct
end
section
namespace Go.Proofs.YtbcokncfkikalaaGreatDoor.Oct
open Go.RowKit Go.Lib
def rdErr (n : Nat) (p : Int) (c : Nat) : Value := if c = 0 then .nilIface else if c = 3 then faultV n 3 else faultV p c
def shortAns (s : ByteArray) (p : Int) : Value :=
  .tuple #[.int .i64 ((rd (s.data.toList.drop p.toNat)).1 : Int), .int .i64 (p + ((rd (s.data.toList.drop p.toNat)).2.1 : Int)), rdErr s.size p (rd (s.data.toList.drop p.toNat)).2.2]
set_option maxRecDepth 100000 in
set_option maxHeartbeats 1000000 in
theorem short_arg (s : ByteArray) (p : Int) (w : World) (hs : s.size ≤ maxLen) (h : p < 0 ∨ s.size < p) :
    Calls Tryz.prog 56 #[.string s, .int .i64 p] w fun e w' => e = .returned (.tuple #[.int .i64 0, .int .i64 p, faultV p 1]) ∧ w = w' := by
  have hp := placeB_false h;clear h
  go_enter Tryz.func56, Tryz.ntmps56
  go_wp2_with (first | (go_at_call 77; refine (isPlace_any _ _ _ hs).mono ?_; rintro e w' ⟨rfl, rfl⟩) | (go_at_call 78; refine (fault_any _ _ _).mono ?_; rintro e w' ⟨rfl, rfl⟩))
  go_ret3
  exact ⟨rfl, rfl⟩
theorem i64_or_nat (a b : Nat) (ha : a < 9223372036854775808) (hb : b < 9223372036854775808) : bits .or .i64 (a : Int) (b : Int) = ((a ||| b : Nat) : Int) := by
  have hx : a ||| b < 2 ^ 63 := Nat.or_lt_two_pow (by omega) (by omega);show IntKind.i64.wrap ((BitVec.ofInt 64 (a : Int) ||| BitVec.ofInt 64 (b : Int)).toNat : Int) = _;rw [BitVec.toNat_or, ofInt_u64 a (by omega), ofInt_u64 b (by omega), IntKind.wrap_i64];omega
theorem pow128 (k : Nat) : 128 ^ k = 2 ^ (7 * k) := by rw [Nat.pow_mul]
theorem pow_le_56 (k : Nat) (h : k ≤ 8) : 2 ^ (7 * k) ≤ 2 ^ 56 := Nat.pow_le_pow_right (by omega) (by omega)
theorem or_round (a k : Nat) (b : UInt8) (hk : k < 8) (ha : a < 128 ^ k) :
    bits .or .i64 (a : Int) (wrap64 ((b.toNat : Int) % 128 * 2 ^ (7 * k))) = ((a + 128 ^ k * (b.toNat % 128) : Nat) : Int) := by
  have hb := b.toNat_lt;have hp := pow_le_56 (k + 1) (by omega);have hp0 := pow_le_56 k (by omega);have he : 2 ^ (7 * (k + 1)) = 2 ^ (7 * k) * 128 := by rw [show 7 * (k + 1) = 7 * k + 7 by omega, Nat.pow_add]
  rw [pow128] at ha ⊢;generalize hP : 2 ^ (7 * k) = P at *;have hm : P * (b.toNat % 128) < P * 128 := Nat.mul_lt_mul_of_pos_left (by omega) (by rw [← hP]; exact Nat.pow_pos (by omega));have e1 : (b.toNat : Int) % 128 = ((b.toNat % 128 : Nat) : Int) := by omega
  have e2 : ((b.toNat % 128 : Nat) : Int) * (2 : Int) ^ (7 * k) = ((P * (b.toNat % 128) : Nat) : Int) := by
    rw [Nat.mul_comm P, Int.natCast_mul, ← hP, Int.natCast_pow]; rfl
  rw [e1, e2, IntWalk.wrap64_in _ (by omega), i64_or_nat _ _ (by omega) (by omega), Nat.or_comm, ← hP, ← Nat.two_pow_add_eq_or_of_lt (by omega), Nat.add_comm]
theorem or_zero (a : Nat) (ha : a < 128 ^ 8) : bits .or .i64 (a : Int) 0 = (a : Int) := by
  have h8 : (128 : Nat) ^ 8 = 2 ^ 56 := by decide
  have := i64_or_nat a 0 (by omega) (by omega)
  simpa using this
theorem byte_zero (b : UInt8) (h : b.toNat = 0) : b = 0 := by rw [← ofNat_toNat' b, h]; rfl
theorem byte_pos (b : UInt8) (h : ¬ b.toNat = 0) : ¬ b = 0 := by rintro rfl; simp at h
theorem pow_step (a k c : Nat) (ha : a < 128 ^ k) (hc : c < 128) : a + 128 ^ k * c < 128 ^ (k + 1) := by
  rw [Nat.pow_succ];have : 128 ^ k * c ≤ 128 ^ k * 127 := Nat.mul_le_mul_left _ (by omega);omega
theorem ans_of {s : ByteArray} {q : Nat} {l : List UInt8} {x n c : Nat} (hl : s.data.toList.drop q = l) (h : rd l = (x, n, c)) :
    shortAns s (q : Int) = .tuple #[.int .i64 (x : Int), .int .i64 ((q : Int) + (n : Int)), rdErr s.size q c] := by
  unfold shortAns; rw [Int.toNat_natCast, hl, h]
theorem fin_err3 {s : ByteArray} {q : Nat} {l : List UInt8} (hl : s.data.toList.drop q = l) (h : rd l = (0, 0, 3)) :
    Ending.returned (.tuple #[.int .i64 0, .int .i64 (q : Int), faultV s.size 3]) = .returned (shortAns s (q : Int)) := by rw [ans_of hl h]; simp [rdErr]
theorem fin_err4 {s : ByteArray} {q : Nat} {l : List UInt8} (hl : s.data.toList.drop q = l) (h : rd l = (0, 0, 4)) :
    Ending.returned (.tuple #[.int .i64 0, .int .i64 (q : Int), faultV q 4]) = .returned (shortAns s (q : Int)) := by rw [ans_of hl h]; simp [rdErr]
theorem fin_ok {s : ByteArray} {q : Nat} {l : List UInt8} {x n : Nat} {X N : Int} (hl : s.data.toList.drop q = l) (h : rd l = (x, n, 0)) (hX : X = (x : Int)) (hN : N = (q : Int) + (n : Int)) :
    Ending.returned (.tuple #[.int .i64 X, .int .i64 N, .nilIface]) = .returned (shortAns s (q : Int)) := by rw [ans_of hl h, hX, hN]; simp [rdErr]
theorem rd_zero {s : ByteArray} {q k a : Nat} {l : List UInt8} (hk : ¬ 0 < k) (h : q + k < s.size) (hz : s[q + k].toNat = 0) (hb : a < 128 ^ k) (hm : 8 - k = (7 - k) + 1)
    (hr : rd l = comb a k (rdF (8 - k) (decide (0 < k)) (l.drop k))) (hd : l.drop k = s[q + k] :: l.drop (k + 1)) : rd l = (0, k + 1, 0) := by
  have hb0 := byte_zero _ hz;rw [hr, hm, hd, comb_last _ _ _ _ _ _ (by simp [hk]) (by rw [hb0]; decide), hb0];have h0 : k = 0 := by omega
  subst h0;have ha : a = 0 := by simpa using hb
  subst ha
  rfl
theorem or_start (a k : Nat) (hk : ¬ 0 < k) (hb : a < 128 ^ k) : bits .or .i64 (a : Int) 0 = ((0 : Nat) : Int) := by
  have h0 : k = 0 := by omega
  subst h0;have ha : a = 0 := by simpa using hb
  subst ha;exact or_zero 0 (by decide)
theorem or_end (a k : Nat) (b : UInt8) (hk : k < 8) (ha : a < 128 ^ k) (hlo : (b.toNat : Int) < 128) :
    bits .or .i64 (a : Int) (wrap64 ((b.toNat : Int) % 128 * 2 ^ (7 * k))) = ((a + 128 ^ k * b.toNat : Nat) : Int) := by
  rw [or_round a k b hk ha, Nat.mod_eq_of_lt (by omega)]
theorem drop_cons (s : ByteArray) (p k : Nat) (h : p + k < s.size) : (s.data.toList.drop p).drop k = s[p + k] :: (s.data.toList.drop p).drop (k + 1) := by
  rw [List.drop_drop, List.drop_drop, List.drop_eq_getElem_cons (by simpa using h)]; rfl
set_option maxRecDepth 100000 in
set_option maxHeartbeats 2000000 in
theorem short_any (s : ByteArray) (p : Int) (w : World) (hs : s.size ≤ maxLen) (h0 : 0 ≤ p) (h1 : p ≤ s.size) :
    Calls Tryz.prog 56 #[.string s, .int .i64 p] w fun e w' => e = .returned (shortAns s p) ∧ w = w' := by
  have hp := placeB_true h0 h1;obtain ⟨q, rfl⟩ := Int.eq_ofNat_of_zero_le h0;have hs2 := hs;unfold maxLen at hs2;obtain ⟨l, hl⟩ : ∃ l, s.data.toList.drop q = l := ⟨_, rfl⟩;have HL := Lib.hid hl;clear hl
  go_enter Tryz.func56, Tryz.ntmps56
  go_wp2_with (first | (go_at_call 77; refine (isPlace_any _ _ _ hs).mono ?_; rintro e w' ⟨rfl, rfl⟩))
  go_loop [7, 17] (fun x i => ∃ k a : Nat, k ≤ 8 ∧ i = .int .i64 k ∧ x = .int .i64 a ∧ Hid (a < 128 ^ k) ∧ q + k ≤ s.size ∧ Hid (rd l = comb a k (rdF (8 - k) (decide (0 < k)) (l.drop k)))) (fun _ i => 8 - (intOf i).toNat)
  case atStart => exact ⟨0, 0, by omega, rfl, rfl, Lib.hid (by simp), by omega, Lib.hid (rd_start l)⟩
  case round =>
    obtain ⟨k, a, hk, rfl, rfl, HB, hq, HR⟩ := hrel
    by_cases hk8 : k < 8
    · by_cases hend : q + k = s.size
      · have HF := Lib.hid (show rd l = (0, 0, 3) by
          rw [HR.out, show 8 - k = (7 - k) + 1 by omega, ← HL.out, List.drop_drop, List.drop_of_length_le (by simp; omega)]; exact comb_end _ _ _ _)
        have hendb : ((q : Int) + (k : Int) == (s.size : Int)) = true := beq_iff_eq.2 (by omega)
        go_wp2_with (go_at_call 78; refine (fault_any _ _ _).mono ?_; rintro e w' ⟨rfl, rfl⟩)
        go_ret3
        exact ⟨fin_err3 HL.out HF.out, rfl⟩
      · have hlt : q + k < s.size := by omega
        have hendb : ((q : Int) + (k : Int) == (s.size : Int)) = false := beq_eq_false_iff_ne.2 (by omega);have HD := Lib.hid (show l.drop k = s[q + k] :: l.drop (k + 1) by rw [← HL.out]; exact drop_cons s q k hlt);have HM := Lib.hid (show 8 - k = (7 - k) + 1 by omega);have hb255 : s[q + k].toNat < 256 := s[q + k].toNat_lt;have hwb : wrap64 ((s[q + k].toNat : Nat) : Int) = ((s[q + k].toNat : Nat) : Int) := IntWalk.wrap64_in _ (by omega)
        go_wp2_with (go_at_call 78; refine (fault_any _ _ _).mono ?_; rintro e w' ⟨rfl, rfl⟩)
        · have hz : s[q + k].toNat = 0 := by assumption
          have hk0 : 0 < k := by assumption
          go_ret3
          exact ⟨fin_err4 HL.out (show rd l = (0, 0, 4) by rw [HR.out, HM.out, HD.out, decide_eq_true hk0]; exact comb_null _ _ _ _ _ (byte_zero _ hz)), rfl⟩
        · have hz : s[q + k].toNat = 0 := by assumption
          have hk0 : ¬ 0 < k := by assumption
          go_ret3
          exact ⟨fin_ok HL.out (rd_zero hk0 hlt hz HB.out HM.out HR.out HD.out) (or_start a k hk0 HB.out) (by omega), rfl⟩
        · have hz : ¬ s[q + k].toNat = 0 := by assumption
          have hlo : ((s[q + k].toNat : Nat) : Int) < 128 := by assumption
          go_ret3
          exact ⟨fin_ok HL.out (show rd l = (a + 128 ^ k * s[q + k].toNat, k + 1, 0) by
            rw [HR.out, HM.out, HD.out]; exact comb_last _ _ _ _ _ _ (fun h => byte_pos _ hz h.1) (by omega)) (or_end a k _ hk8 HB.out hlo) (by omega), rfl⟩
        · have hz : ¬ s[q + k].toNat = 0 := by assumption
          have hhi : 128 ≤ ((s[q + k].toNat : Nat) : Int) := by assumption
          go_round
          case rel => exact ⟨k + 1, a + 128 ^ k * (s[q + k].toNat % 128), by omega, by go_num, by rw [or_round a k s[q + k] hk8 HB.out], Lib.hid (pow_step _ _ _ HB.out (by omega)), by omega,
            Lib.hid (by rw [HR.out, HM.out, HD.out, comb_step _ _ _ _ _ _ (fun h => byte_pos _ hz h.1) (by omega), show 8 - (k + 1) = 7 - k by omega]; simp)⟩
          case measure => simp [intOf]; omega
    · have HF := Lib.hid (show rd l = (0, 0, 4) by
        rw [HR.out, show 8 - k = 0 by omega]; exact comb_out _ _ _ _)
      go_wp2_with (go_at_call 78; refine (fault_any _ _ _).mono ?_; rintro e w' ⟨rfl, rfl⟩)
      go_ret3
      exact ⟨fin_err4 HL.out HF.out, rfl⟩
end Go.Proofs.YtbcokncfkikalaaGreatDoor.Oct
end
section
namespace Go.Proofs.YtbcokncfkikalaaGreatDoor.Oct
open Go.RowKit Go.Lib
theorem one_string (w : World) (n : Nat) (h : n < 256) (T E S : TypeId) (hT : Tryz.prog.underlying T = some (.slice E)) (hE : Tryz.prog.underlying E = some (.int .u8)) (hS : Tryz.prog.underlying S = some .string) (c : Nat) (b : Nat)
    (hb : w.cell? ⟨b, 0, none⟩ = some (.int .u8 (n : Int))) :
    (convert T S (.slice (some ⟨b, 0, none⟩) 1 c)).run Tryz.prog w = .ok (.string ⟨#[UInt8.ofNat n]⟩) w :=
  run_convert_bytes_back (P := Tryz.prog) w T S E ⟨b, 0, none⟩ c [UInt8.ofNat n] hT hE hS (fun j hj => by
    match j, hj with
    | 0, _ => rw [List.getElem_cons_zero, toNat_ofNat n h]; simpa [Addr.add] using hb)
def hiByte (n : Nat) : UInt8 := UInt8.ofNat (n % 128 + 128)
set_option maxRecDepth 100000 in
set_option maxHeartbeats 1000000 in
theorem refShort_any : ∀ (n : Nat) (w : World), (n : Int) ≤ 9223372036854775807 →
    Calls Tryz.prog 32 #[.int .i64 (n : Int)] w fun e w' => e = .returned (.string ⟨(short n).toArray⟩) ∧ Below w.heap.size w w' := by
  intro n
  induction n using Nat.strongRecOn with
  | _ n ih =>
    intro w hn
    by_cases hlt : n < 128
    · have hby : IntKind.u8.wrap (n : Int) = (n : Int) := by simp [IntKind.wrap, IntKind.bits, IntKind.signed]; omega
      have hcv := one_string (w.alloc (.cells #[.int .u8 (n : Int)] 5)) n (by omega) 75 5 9 Tryz.underlying75 Tryz.underlying5 Tryz.underlying9 1 w.heap.size (by simp);have HS := Lib.hid (short_lt n hlt);clear ih
      go_enter Tryz.func32, Tryz.ntmps32
      go_wp2
      go_ret
      exact ⟨by rw [HS.out]; rfl, (Below.refl _ _).alloc (Nat.le_refl _) _⟩
    · have IH := Lib.hid (ih (n / 128) (by omega));clear ih;have HS := Lib.hid (show short n = [hiByte n] ++ short (n / 128) from short_ge n (by omega) (by omega));have e0 : (n : Int).tmod 128 = (n : Int) % 128 := Int.tmod_eq_emod_of_nonneg (by omega);have e1 : IntKind.i64.wrap ((n : Int) % 128 + 128) = (n : Int) % 128 + 128 := IntWalk.i64_in _ (by omega);have e2 : IntKind.u8.wrap ((n : Int) % 128 + 128) = (n : Int) % 128 + 128 := IntWalk.u8_in _ (by omega);have e3 : IntKind.i64.wrap ((n : Int) / 128) = (n : Int) / 128 := IntWalk.i64_in _ (by omega)
      have hcv : ∀ (W : World) (b : Nat), W.cell? ⟨b, 0, none⟩ = some (.int .u8 ((n : Int) % 128 + 128)) → (convert 75 9 (.slice (some ⟨b, 0, none⟩) 1 1)).run Tryz.prog W = .ok (.string ⟨[hiByte n].toArray⟩) W :=
        fun W b hW => one_string W (n % 128 + 128) (by omega) 75 5 9 Tryz.underlying75 Tryz.underlying5 Tryz.underlying9 1 b (by rw [hW]; rfl)
      have hl9 := short_len9 (n / 128) (by omega)
      have hadd : ∀ W : World, (Op.stringOp .add ⟨[hiByte n].toArray⟩ ⟨(short (n / 128)).toArray⟩).run Tryz.prog W = .ok (.string ⟨([hiByte n] ++ short (n / 128)).toArray⟩) W :=
        fun W => run_string_add_lists W _ _ (by simp) (by omega)
      go_enter Tryz.func32, Tryz.ntmps32
      go_wp2_with fail
      go_region_with (go_at_call 32; refine (IH.out _ (by omega)).mono ?_; rintro e w' ⟨rfl, hb⟩; have hcell := fun h => hb.cell (p := ⟨w.heap.size, 0, none⟩) h)
      all_goals
        go_wp2
        go_ret
        refine ⟨?_, ?_⟩
        · rw [HS.out]; rfl
        · first
          | exact ((((Below.refl _ _).alloc (Nat.le_refl _) _).drew).trans (hb.mono (by simp)))
          | exact (((Below.refl _ _).drew.trans hb).alloc hb.size _)
set_option maxRecDepth 100000 in
set_option maxHeartbeats 1000000 in
theorem refTurn_any (x : Int) (w : World) (h0 : -36028797018963968 ≤ x) (h1 : x < 36028797018963968) :
    Calls Tryz.prog 55 #[.int .i64 x] w fun e w' => e = .returned (.int .i64 (turnOf x)) ∧ w = w' := by
  by_cases h2 : x < 0
  · have HT := Lib.hid (show turnOf x = 0 - 2 * x - 1 by unfold turnOf; rw [if_pos ⟨h0, h1⟩, if_pos h2]; omega)
    go_enter Tryz.func55, Tryz.ntmps55
    go_wp2
    go_ret
    exact ⟨retI (by rw [HT.out]; omega), rfl⟩
  · have HT := Lib.hid (show turnOf x = 2 * x by unfold turnOf; rw [if_pos ⟨h0, h1⟩, if_neg h2])
    go_enter Tryz.func55, Tryz.ntmps55
    go_wp2
    go_ret
    exact ⟨by rw [HT.out]; rfl, rfl⟩
def backOf (x : Int) : Int := if x < 0 then 0 else if x % 2 = 1 then -(x / 2) - 1 else x / 2
theorem turn_range (x : Int) (h0 : -36028797018963968 ≤ x) (h1 : x < 36028797018963968) : 0 ≤ turnOf x ∧ turnOf x ≤ 72057594037927935 := by
  unfold turnOf; rw [if_pos ⟨h0, h1⟩]; split <;> omega
set_option maxRecDepth 100000 in
set_option maxHeartbeats 1000000 in
theorem back_any (x : Int) (w : World) (hx : x ≤ 9223372036854775807) :
    Calls Tryz.prog 94 #[.int .i64 x] w fun e w' => e = .returned (.int .i64 (backOf x)) ∧ w = w' := by
  by_cases h : x < 0
  · have HT := Lib.hid (show backOf x = 0 by unfold backOf; rw [if_pos h])
    go_enter Tryz.func94, Tryz.ntmps94
    go_wp2
    go_ret
    exact ⟨by rw [HT.out]; rfl, rfl⟩
  · by_cases h2 : x % 2 = 1
    · have HT := Lib.hid (show backOf x = -(x / 2) - 1 by unfold backOf; rw [if_neg h, if_pos h2]);have hb : (x % 2 == 1) = true := beq_iff_eq.2 h2;have H2 := Lib.hid h2;clear h2
      go_enter Tryz.func94, Tryz.ntmps94
      go_wp2
      go_ret
      exact ⟨by rw [HT.out]; rfl, rfl⟩
    · have HT := Lib.hid (show backOf x = x / 2 by unfold backOf; rw [if_neg h, if_neg h2]);have hb : (x % 2 == 1) = false := beq_eq_false_iff_ne.2 h2;clear h2
      go_enter Tryz.func94, Tryz.ntmps94
      go_wp2
      go_ret
      exact ⟨by rw [HT.out]; rfl, rfl⟩
set_option maxRecDepth 100000 in
set_option maxHeartbeats 1000000 in
theorem putTurned_ok (x : Int) (w : World) (h0 : -36028797018963968 ≤ x) (h1 : x < 36028797018963968) :
    Calls Tryz.prog 93 #[.int .i64 x] w fun e w' => e = .returned (.tuple #[.string ⟨(short (turnOf x).toNat).toArray⟩, .nilIface]) ∧ Below w.heap.size w w' := by
  have ht := turnB_true h0 h1;obtain ⟨r0, r1⟩ := turn_range x h0 h1
  go_enter Tryz.func93, Tryz.ntmps93
  go_wp2_with (first | (go_at_call 100; refine (turns_any _ _).mono ?_; rintro e w1 ⟨rfl, rfl⟩) | (go_at_call 101; refine (turn_any _ _).mono ?_; rintro e w1 ⟨rfl, rfl⟩) | (go_at_call 50; refine (putShort_ok _ _ r0 r1).mono ?_; rintro e w1 ⟨rfl, hb1⟩))
  go_ret2
  exact ⟨rfl, by assumption⟩
def shN (s : ByteArray) (p : Int) : Int := p + ((rd (s.data.toList.drop p.toNat)).2.1 : Int)
end Go.Proofs.YtbcokncfkikalaaGreatDoor.Oct
end
section
namespace Go.Proofs.YtbcokncfkikalaaGreatDoor.Gap
open Go Go.RowKit Go.Lib Oct Num
def st1 (first : Bool) (now t : Int) : List UInt8 := if first then short (turnOf (t - now)).toNat else short (t - now - 1).toNat
def sts : Bool → Int → List Int → List UInt8
  | _, _, [] => []
  | first, now, t :: l => st1 first now t ++ sts false t l
def Rises (N : Int) : Bool → Int → List Int → Prop
  | _, _, [] => True
  | first, now, t :: l => (0 ≤ t ∧ t < N) ∧ (first = false → now < t) ∧ Rises N false t l
theorem bk_turn (x : Int) (h0 : -36028797018963968 ≤ x) (h1 : x < 36028797018963968) : bkI ((turnOf x).toNat : Int) = x := by
  have e : turnOf x = if x < 0 then -2 * x - 1 else 2 * x := by unfold turnOf; rw [if_pos ⟨h0, h1⟩]
  rw [e];unfold bkI
  by_cases hx : x < 0
  · rw [if_pos hx, if_pos (by omega)]; omega
  · rw [if_neg hx, if_neg (by omega)]; omega
theorem turn_bk (x : Int) (h0 : 0 ≤ x) (h1 : x ≤ 72057594037927935) : turnOf (bkI x) = x := by
  unfold turnOf bkI
  split
  · rw [if_pos (by omega), if_pos (by omega)]; omega
  · rw [if_pos (by omega), if_neg (by omega)]; omega
theorem turn_lt (x : Int) (h0 : -100000 ≤ x) (h1 : x ≤ 100000) : (turnOf x).toNat < 2 ^ 56 := by
  unfold turnOf;rw [if_pos (by omega)]
  split <;> omega
theorem rdG_at {s : ByteArray} {p n : Nat} {t : List UInt8} (hn : n < 2 ^ 56) (hp : p ≤ s.size) (h : s.data.toList.drop p = short n ++ t) : rdG s (p : Int) = ((n : Int), ((p + (short n).length : Nat) : Int), 0, 0) := by
  unfold rdG;rw [if_neg (by omega), Int.toNat_natCast, h, rd_short n t hn];simp
theorem drop_app {s : ByteArray} {p : Nat} {a t : List UInt8} (h : s.data.toList.drop p = a ++ t) : s.data.toList.drop (p + a.length) = t := by
  rw [← List.drop_drop, h, List.drop_left]
theorem drop_le {s : ByteArray} {p : Nat} {a t : List UInt8} (hp : p ≤ s.size) (h : s.data.toList.drop p = a ++ t) : p + a.length ≤ s.size := by
  have := congrArg List.length h;rw [List.length_drop, List.length_append] at this;have e : s.data.toList.length = s.size := rfl;omega
theorem gtF_at {s : ByteArray} {N : Int} (hN : N ≤ 4096) : ∀ (l : List Int) (first : Bool) (now : Int) (p : Nat) (t : List UInt8), 0 ≤ now → now ≤ 4096 → Rises N first now l → p ≤ s.size → s.data.toList.drop p = sts first now l ++ t →
    gtF s N l.length first now (p : Int) = .inr (l, ((p + (sts first now l).length : Nat) : Int))
  | [], first, now, p, t, _, _, _, _, _ => by simp [gtF, sts]
  | x :: l, first, now, p, t, h0, h1, hR, hp, h => by
    obtain ⟨hx, hup, hr⟩ := hR;rw [sts, List.append_assoc] at h;have ih := gtF_at hN l false x (p + (st1 first now x).length) t (by omega) (by omega) hr (drop_le hp h) (drop_app h);rw [List.length_cons, gtF, sts, List.length_append]
    cases first with
    | true =>
      have e := rdG_at (turn_lt (x - now) (by omega) (by omega)) hp (show s.data.toList.drop p = short (turnOf (x - now)).toNat ++ _ from h);rw [e];simp only [if_true];rw [bk_turn (x - now) (by omega) (by omega), show now + (x - now) = x by omega, if_neg (by omega)];rw [show (st1 true now x) = short (turnOf (x - now)).toNat from rfl] at ih ⊢;rw [ih, Nat.add_assoc]
    | false =>
      have := hup rfl;have e := rdG_at (n := (x - now - 1).toNat) (by omega) hp (show s.data.toList.drop p = short (x - now - 1).toNat ++ _ from h);rw [e];simp only [if_true, Bool.false_eq_true, if_false];rw [show now + ((x - now - 1).toNat : Int) + 1 = x by omega, if_neg (by omega)];rw [show (st1 false now x) = short (x - now - 1).toNat from rfl] at ih ⊢;rw [ih, Nat.add_assoc]
theorem gtF_is {s : ByteArray} {N : Int} (hN : N ≤ 4096) : ∀ (k : Nat) (first : Bool) (now : Int) (p : Nat) (l : List Int) (nx : Int), 0 ≤ now → now < N → p ≤ s.size → gtF s N k first now (p : Int) = .inr (l, nx) →
    l.length = k ∧ Rises N first now l ∧ nx = ((p + (sts first now l).length : Nat) : Int) ∧ nx ≤ s.size ∧ s.data.toList.drop p = sts first now l ++ s.data.toList.drop (p + (sts first now l).length)
  | 0, first, now, p, l, nx, _, _, hp, h => by
    rw [gtF] at h;injection h with h
    injection h with h1 h2
    subst h1 h2;exact ⟨rfl, trivial, by simp [sts], by omega, by simp [sts]⟩
  | k + 1, first, now, p, l, nx, h0, h1, hp, h => by
    rw [gtF] at h;rcases hg : rdG s (p : Int) with ⟨x, n2, e, a⟩;rw [hg] at h;simp only at h
    by_cases he : e = 0
    · subst he;rw [if_pos rfl] at h;obtain ⟨⟨hx0, hx1⟩, -, hpn, hns, -, hz, hxe, hne⟩ := rdG_ok hg;rw [Int.toNat_natCast] at hz hxe hne;have hsr := short_of_rd _ hz;obtain ⟨y, hy⟩ : ∃ y, (if first = true then now + bkI x else now + x + 1) = y := ⟨_, rfl⟩;rw [hy] at h
      by_cases hb : y < 0 ∨ N ≤ y
      · rw [if_pos hb] at h; cases h
      rw [if_neg hb] at h;obtain ⟨q, hq⟩ : ∃ q : Nat, n2 = (q : Int) := ⟨n2.toNat, by omega⟩;rw [hq] at h
      cases hr : gtF s N k false y (q : Int) with
      | inl z => rw [hr] at h; cases h
      | inr z =>
        obtain ⟨l2, n3⟩ := z;rw [hr] at h;simp only at h;injection h with h
        injection h with e1 e2
        subst e1 e2;obtain ⟨i1, i2, i3, i4, i5⟩ := gtF_is hN k false y q l2 n3 (by omega) (by omega) (by omega) hr
        have hst : st1 first now y = short x.toNat := by
          unfold st1
          cases first with
          | true =>
            simp only [if_true] at hy ⊢;rw [show y - now = bkI x by omega, turn_bk x hx0 hx1]
          | false =>
            simp only [Bool.false_eq_true, if_false] at hy ⊢;rw [show y - now - 1 = x by omega]
        have hup : first = false → now < y := fun hf => by
          subst hf;simp only [Bool.false_eq_true, if_false] at hy;omega
        have hxn : x.toNat = (rd (s.data.toList.drop p)).1 := by omega
        obtain ⟨g1, g2, g3, g4, g5⟩ := hsr
        have hlen : (short x.toNat).length = (rd (s.data.toList.drop p)).2.1 := by
          have := congrArg List.length g1;rw [List.length_take] at this;rw [hxn];omega
        have hqp : q = p + (st1 first now y).length := by rw [hst, hlen]; omega
        have hd : s.data.toList.drop p = st1 first now y ++ s.data.toList.drop q := by
          rw [hqp, ← List.drop_drop, hst, hlen, hxn, g1, List.take_append_drop]
        refine ⟨by rw [List.length_cons, i1], ⟨⟨by omega, by omega⟩, hup, i2⟩, ?_, i4, ?_⟩
        · rw [sts, List.length_append, i3, hqp]; congr 1; omega
        · rw [sts, List.length_append, List.append_assoc];rw [hd, i5, hqp, Nat.add_assoc]
    · rw [if_neg he] at h; cases h
theorem skF_of_gtF {s : ByteArray} {N at0 : Int} : ∀ (k : Nat) (first : Bool) (now p : Int) (l : List Int) (nx : Int), gtF s N k first now p = .inr (l, nx) → skF s at0 k p = (nx, 0, 0)
  | 0, first, now, p, l, nx, h => by
    rw [gtF] at h;injection h with h
    injection h with h1 h2
    subst h2
    rfl
  | k + 1, first, now, p, l, nx, h => by
    rw [gtF] at h;rcases hg : rdG s p with ⟨x, n2, e, a⟩;rw [hg] at h;simp only at h
    by_cases he : e = 0
    · subst he;rw [if_pos rfl] at h;rw [skF_ok hg];obtain ⟨y, hy⟩ : ∃ y, (if first = true then now + bkI x else now + x + 1) = y := ⟨_, rfl⟩;rw [hy] at h
      by_cases hb : y < 0 ∨ N ≤ y
      · rw [if_pos hb] at h; cases h
      rw [if_neg hb] at h
      cases hr : gtF s N k false y n2 with
      | inl z => rw [hr] at h; cases h
      | inr z =>
        obtain ⟨l2, n3⟩ := z;rw [hr] at h;simp only at h;injection h with h
        injection h with e1 e2
        subst e2;exact skF_of_gtF k false y n2 l2 n3 hr
    · rw [if_neg he] at h; cases h
def lastOf (now : Int) : List Int → Int
  | [] => now
  | t :: l => lastOf t l
theorem sts_snoc : ∀ (l : List Int) (first : Bool) (now t : Int), sts first now (l ++ [t]) = sts first now l ++ st1 (first && l.isEmpty) (lastOf now l) t
  | [], first, now, t => by simp [sts, lastOf]
  | x :: l, first, now, t => by
    rw [List.cons_append, sts, sts, sts_snoc l false x t, List.append_assoc];simp [lastOf]
theorem lastOf_take (now : Int) : ∀ (l : List Int) (k : Nat), k < l.length → lastOf now (l.take (k + 1)) = l.getD k 0
  | [], k, h => absurd h (by simp)
  | x :: l, 0, _ => by simp [lastOf]
  | x :: l, k + 1, h => by
    rw [List.take_succ_cons, lastOf, lastOf_take x l k (by simpa using h)];simp
theorem putF_sts (v : Int) (l : List Int) : ∀ k, k ≤ l.length → putF v l k = short l.length ++ sts true v (l.take k)
  | 0, _ => by simp [putF, sts]
  | 1, h => by
    rw [putF, take_nt l 0 h];simp [sts, st1, nt]
  | k + 2, h => by
    rw [putF, putF_sts v l (k + 1) (by omega), take_nt l (k + 1) h, sts_snoc, ← List.append_assoc, lastOf_take v l k (by omega)]
    have e : (l.take (k + 1)).isEmpty = false := by
      cases hl : l.take (k + 1) with
      | nil => have := congrArg List.length hl; rw [List.length_take, List.length_nil] at this; omega
      | cons a b => rfl
    rw [e]
    rfl
theorem putF_all (v : Int) (l : List Int) : putF v l l.length = short l.length ++ sts true v l := by rw [putF_sts v l l.length (Nat.le_refl _), List.take_length]
theorem rises_of {N : Int} : ∀ (l : List Int) (first : Bool) (now : Int), (∀ i, i < l.length → 0 ≤ nt l i ∧ nt l i < N) → (∀ i, i + 1 < l.length → nt l i < nt l (i + 1)) → (first = false → 0 < l.length → now < nt l 0) → Rises N first now l
  | [], _, _, _, _, _ => trivial
  | x :: l, first, now, h1, h2, h3 => by
    refine ⟨h1 0 (by simp), fun hf => h3 hf (by simp), rises_of l false x (fun i hi => h1 (i + 1) (by simpa using hi)) (fun i hi => h2 (i + 1) (by simpa using hi)) (fun _ hl => h2 0 (by simpa using hl))⟩
theorem of_rises {N : Int} : ∀ (l : List Int) (first : Bool) (now : Int), Rises N first now l → (∀ i, i < l.length → 0 ≤ nt l i ∧ nt l i < N) ∧ (∀ i, i + 1 < l.length → nt l i < nt l (i + 1)) ∧ (first = false → 0 < l.length → now < nt l 0)
  | [], _, _, _ => ⟨fun i hi => absurd hi (by simp), fun i hi => absurd hi (by simp), fun _ h => absurd h (by simp)⟩
  | x :: l, first, now, ⟨hx, hup, hr⟩ => by
    obtain ⟨i1, i2, i3⟩ := of_rises l false x hr;refine ⟨fun i hi => ?_, fun i hi => ?_, fun hf _ => hup hf⟩
    · cases i with
      | zero => exact hx
      | succ i => exact i1 i (by simpa using hi)
    · cases i with
      | zero => exact i3 rfl (by simpa using hi)
      | succ i => exact i2 i (by simpa using hi)
def GoodT (N : Int) (l : List Int) : Prop := (∀ i, i < l.length → 0 ≤ nt l i ∧ nt l i < N) ∧ ∀ i, i + 1 < l.length → nt l i < nt l (i + 1)
theorem goodT_iff {N : Int} {l : List Int} : GoodT N l ↔ ∀ i, i < l.length → ¬ badT N l i := by
  constructor
  · intro ⟨h1, h2⟩ i hi hb;have := h1 i hi;rcases hb with hb | hb | ⟨hb0, hb⟩
    · unfold nt at this; omega
    · unfold nt at this; omega
    · have := h2 (i - 1) (by omega);unfold nt at this;rw [show i - 1 + 1 = i by omega] at this;omega
  · intro h;refine ⟨fun i hi => ?_, fun i hi => ?_⟩
    · have := h i hi;unfold badT at this;unfold nt;omega
    · have := h (i + 1) hi;unfold badT at this;unfold nt;rw [show i + 1 - 1 = i by omega] at this;omega
theorem GoodT.rises {N v : Int} {l : List Int} (h : GoodT N l) : Rises N true v l := rises_of l true v h.1 h.2 (fun h => by cases h)
theorem Rises.good {N v : Int} {l : List Int} (h : Rises N true v l) : GoodT N l := ⟨(of_rises l true v h).1, (of_rises l true v h).2.1⟩
theorem GoodT.le_nt {N : Int} {l : List Int} (h : GoodT N l) : ∀ i, i < l.length → (i : Int) ≤ nt l i
  | 0, hi => (h.1 0 hi).1
  | i + 1, hi => by
    have h1 := GoodT.le_nt h i (by omega);have h2 := h.2 i hi;omega
theorem GoodT.len {N : Int} {l : List Int} (h : GoodT N l) (hN : 0 ≤ N) : (l.length : Int) ≤ N := by
  rcases Nat.eq_zero_or_pos l.length with e | e
  · omega
  · have h1 := h.le_nt (l.length - 1) (by omega);have h2 := (h.1 (l.length - 1) (by omega)).2;omega
theorem row_at {s : ByteArray} {N v : Int} {l : List Int} {p : Nat} {t : List UInt8} (hN : N ≤ 4096) (hv0 : 0 ≤ v) (hv1 : v < N) (hg : GoodT N l) (hp : p ≤ s.size) (h : s.data.toList.drop p = putF v l l.length ++ t) :
    cnt s (p : Int) N = ((l.length : Int), ((p + (short l.length).length : Nat) : Int), 0, 0) ∧ gtF s N l.length true v ((p + (short l.length).length : Nat) : Int) = .inr (l, ((p + (putF v l l.length).length : Nat) : Int)) ∧ skF s (p : Int) l.length ((p + (short l.length).length : Nat) : Int) = (((p + (putF v l l.length).length : Nat) : Int), 0, 0) := by
  have hl := hg.len (by omega);rw [putF_all] at h ⊢;rw [List.append_assoc] at h;have e1 := rdG_at (n := l.length) (by omega) hp h;have e2 := gtF_at hN l true v (p + (short l.length).length) t hv0 (by omega) hg.rises (drop_le hp h) (drop_app h);rw [List.length_append, ← Nat.add_assoc];refine ⟨?_, e2, skF_of_gtF _ _ _ _ _ _ e2⟩;unfold cnt;rw [e1, if_neg (by simp; omega)]
end Go.Proofs.YtbcokncfkikalaaGreatDoor.Gap
end
section
namespace Go.Proofs.YtbcokncfkikalaaGreatDoor.Gap
open Go Go.RowKit Go.Lib Oct
theorem cnt_ok {s : ByteArray} {p N x nx a : Int} (h : cnt s p N = (x, nx, 0, a)) : rdG s p = (x, nx, 0, a) ∧ x ≤ N := by
  unfold cnt at h
  split at h
  · simp at h
  · rename_i hc;rw [h] at hc;exact ⟨h, by simp at hc; omega⟩
def rv (A : Option Addr) (n c : Nat) (nx e a : Int) : Value := .agg #[.slice A n c, .int .i64 nx, .int .i64 e, .int .i64 a]
def gtG (s : ByteArray) (p N v : Int) : (Int × Int) ⊕ (List Int × Int) := if (cnt s p N).2.2.1 = 0 then gtF s N (cnt s p N).1.toNat true v (cnt s p N).2.1 else .inl ((cnt s p N).2.2.1, (cnt s p N).2.2.2)
end Go.Proofs.YtbcokncfkikalaaGreatDoor.Gap
end
section
namespace Go.Proofs.YtbcokncfkikalaaGreatDoor.Shd
open Go Go.RowKit Go.Lib Oct Num Gap
def rwF (f : Int) (R : Nat → List Int) : Nat → List UInt8
  | 0 => []
  | k + 1 => rwF f R k ++ putF (f + (k : Int)) (R k) (R k).length
def ixF (f : Int) (R : Nat → List Int) : Nat → List UInt8
  | 0 => []
  | k + 1 => ixF f R k ++ (if k % 8 = 0 then short (rwF f R k).length else [])
def shF (f n : Nat) (R : Nat → List Int) : List UInt8 := short f ++ short n ++ ixF (f : Int) R n ++ rwF (f : Int) R n
def mkF (s : ByteArray) : Nat → Int → (Int × Int) ⊕ (List (Int × Int) × Int)
  | 0, p => .inr ([], p)
  | k + 1, p => if (rdG s p).2.2.1 = 0 then (match mkF s k (rdG s p).2.1 with
      | .inl e => .inl e
      | .inr (l, q) => .inr (((rdG s p).1, p) :: l, q)) else .inl ((rdG s p).2.2.1, (rdG s p).2.2.2)
def rwG (s : ByteArray) (N : Int) : Nat → Int → Int → (Int × Int) ⊕ (List (List Int × Int) × Int)
  | 0, _, p => .inr ([], p)
  | k + 1, v, p => match gtG s p N v with
    | .inl e => .inl e
    | .inr (l, q) => match rwG s N k (v + 1) q with
      | .inl e => .inl e
      | .inr (ls, r) => .inr ((l, p) :: ls, r)
def marksN (n : Nat) : Nat := (n + 7) / 8
def badM (b : Int) (rows : List (List Int × Int)) : Nat → List (Int × Int) → Option Int
  | _, [] => none
  | i, (m, p) :: l => if m = (rows.getD (8 * i) ([], b)).2 - b then badM b rows (i + 1) l else some p
def gs4 (s : ByteArray) (a q : Int) (rs : List (List Int × Int)) : Option Int → (Int × Int) ⊕ (Int × List (List Int))
  | some x => .inl (4, x)
  | none => if q < s.size then .inl (4, q) else .inr (a, rs.map (·.1))
def gs3 (s : ByteArray) (N a : Int) (n : Nat) (b : Int) (ms : List (Int × Int)) : (Int × Int) ⊕ (Int × List (List Int)) :=
  match rwG s N n a b with
  | .inl e => .inl e
  | .inr (rs, q) => gs4 s a q rs (badM b rs 0 ms)
def gs2 (s : ByteArray) (N a : Int) (n : Nat) (p : Int) : (Int × Int) ⊕ (Int × List (List Int)) :=
  match mkF s (marksN n) p with
  | .inl e => .inl e
  | .inr (ms, b) => gs3 s N a n b ms
def gs1 (s : ByteArray) (N a p : Int) : (Int × Int) ⊕ (Int × List (List Int)) :=
  if (rdG s p).2.2.1 = 0 then (if (rdG s p).1 < 1 ∨ N < a + (rdG s p).1 then .inl (4, p) else gs2 s N a (rdG s p).1.toNat (rdG s p).2.1) else .inl ((rdG s p).2.2.1, (rdG s p).2.2.2)
def gsG (s : ByteArray) (N : Int) : (Int × Int) ⊕ (Int × List (List Int)) :=
  if (rdG s 0).2.2.1 = 0 then gs1 s N (rdG s 0).1 (rdG s 0).2.1 else .inl ((rdG s 0).2.2.1, (rdG s 0).2.2.2)
def MkYet (s : ByteArray) (k : Nat) (p : Int) (done : List (Int × Int)) (r : (Int × Int) ⊕ (List (Int × Int) × Int)) : Prop := r = (match mkF s k p with
  | .inl e => .inl e
  | .inr (l, q) => .inr (done ++ l, q))
theorem MkYet.start {s : ByteArray} {k : Nat} {p : Int} : MkYet s k p [] (mkF s k p) := by
  unfold MkYet
  cases mkF s k p with
  | inl e => rfl
  | inr x => obtain ⟨l, q⟩ := x; rfl
theorem MkYet.done {s : ByteArray} {p : Int} {done : List (Int × Int)} {r : (Int × Int) ⊕ (List (Int × Int) × Int)} (h : MkYet s 0 p done r) : r = .inr (done, p) := by
  unfold MkYet at h;rw [mkF] at h
  simpa using h
theorem MkYet.bad {s : ByteArray} {k : Nat} {p x n2 e a : Int} {done : List (Int × Int)} {r : (Int × Int) ⊕ (List (Int × Int) × Int)} (h : MkYet s (k + 1) p done r) (hr : rdG s p = (x, n2, e, a)) (he : e ≠ 0) : r = .inl (e, a) := by
  unfold MkYet at h;rw [mkF, hr] at h
  simpa [he] using h
theorem MkYet.next {s : ByteArray} {k : Nat} {p x n2 a : Int} {done : List (Int × Int)} {r : (Int × Int) ⊕ (List (Int × Int) × Int)} (h : MkYet s (k + 1) p done r) (hr : rdG s p = (x, n2, 0, a)) : MkYet s k n2 (done ++ [(x, p)]) r := by
  unfold MkYet at *;rw [mkF, hr] at h;simp only [if_true] at h;rw [h]
  cases mkF s k n2 with
  | inl e => rfl
  | inr y => obtain ⟨l, q⟩ := y; simp
def RwYet (s : ByteArray) (N : Int) (k : Nat) (v p : Int) (done : List (List Int × Int)) (r : (Int × Int) ⊕ (List (List Int × Int) × Int)) : Prop := r = (match rwG s N k v p with
  | .inl e => .inl e
  | .inr (l, q) => .inr (done ++ l, q))
theorem RwYet.start {s : ByteArray} {N : Int} {k : Nat} {v p : Int} : RwYet s N k v p [] (rwG s N k v p) := by
  unfold RwYet
  cases rwG s N k v p with
  | inl e => rfl
  | inr x => obtain ⟨l, q⟩ := x; rfl
theorem RwYet.done {s : ByteArray} {N v p : Int} {done : List (List Int × Int)} {r : (Int × Int) ⊕ (List (List Int × Int) × Int)} (h : RwYet s N 0 v p done r) : r = .inr (done, p) := by
  unfold RwYet at h;rw [rwG] at h
  simpa using h
theorem RwYet.bad {s : ByteArray} {N : Int} {k : Nat} {v p : Int} {e : Int × Int} {done : List (List Int × Int)} {r : (Int × Int) ⊕ (List (List Int × Int) × Int)} (h : RwYet s N (k + 1) v p done r) (hr : gtG s p N v = .inl e) : r = .inl e := by
  unfold RwYet at h;rw [rwG, hr] at h;exact h
theorem RwYet.next {s : ByteArray} {N : Int} {k : Nat} {v p q : Int} {l : List Int} {done : List (List Int × Int)} {r : (Int × Int) ⊕ (List (List Int × Int) × Int)} (h : RwYet s N (k + 1) v p done r) (hr : gtG s p N v = .inr (l, q)) : RwYet s N k (v + 1) q (done ++ [(l, p)]) r := by
  unfold RwYet at *;rw [rwG, hr] at h;simp only at h;rw [h]
  cases rwG s N k (v + 1) q with
  | inl e => rfl
  | inr y => obtain ⟨ls, q2⟩ := y; simp
theorem gtF_err {s : ByteArray} {N : Int} : ∀ (k : Nat) (first : Bool) (now p x a : Int), gtF s N k first now p = .inl (x, a) → x ≠ 0
  | 0, first, now, p, x, a, h => by rw [gtF] at h; cases h
  | k + 1, first, now, p, x, a, h => by
    rw [gtF] at h;rcases hg : rdG s p with ⟨y, n2, e, b⟩;rw [hg] at h;simp only at h
    by_cases he : e = 0
    · subst he;rw [if_pos rfl] at h;obtain ⟨t, ht⟩ : ∃ t, (if first = true then now + bkI y else now + y + 1) = t := ⟨_, rfl⟩;rw [ht] at h
      by_cases hb : t < 0 ∨ N ≤ t
      · rw [if_pos hb] at h;injection h with h
        injection h with h1 _
        omega
      rw [if_neg hb] at h
      cases hr : gtF s N k false t n2 with
      | inl z =>
        rw [hr] at h;simp only at h;injection h with h
        subst h;exact gtF_err k false t n2 x a hr
      | inr z => obtain ⟨l2, n3⟩ := z; rw [hr] at h; cases h
    · rw [if_neg he] at h;injection h with h
      injection h with h1 _
      rw [← h1];exact he
theorem gtG_err {s : ByteArray} {p N v x a : Int} (h : gtG s p N v = .inl (x, a)) : x ≠ 0 := by
  unfold gtG at h
  by_cases he : (cnt s p N).2.2.1 = 0
  · rw [if_pos he] at h; exact gtF_err _ _ _ _ _ _ h
  · rw [if_neg he] at h;injection h with h
    injection h with h1 _
    rw [← h1];exact he
theorem gtG_place {s : ByteArray} {p N v nx : Int} {l : List Int} (hN : N ≤ 4096) (hv0 : 0 ≤ v) (hv1 : v < N) (h : gtG s p N v = .inr (l, nx)) : 0 ≤ nx ∧ nx ≤ s.size := by
  unfold gtG at h;rcases hc : cnt s p N with ⟨x, n2, e, a⟩;rw [hc] at h;simp only at h
  by_cases he : e = 0
  · subst he;rw [if_pos rfl] at h;obtain ⟨hr, -⟩ := cnt_ok hc;obtain ⟨-, hp, hpn, hns, -⟩ := rdG_ok hr;obtain ⟨q, hq⟩ : ∃ q : Nat, n2 = (q : Int) := ⟨n2.toNat, by omega⟩;rw [hq] at h;obtain ⟨-, -, i3, i4, -⟩ := gtF_is hN x.toNat true v q l nx hv0 hv1 (by omega) h;exact ⟨by omega, i4⟩
  · rw [if_neg he] at h; cases h
end Go.Proofs.YtbcokncfkikalaaGreatDoor.Shd
end
section
namespace Go.Proofs.YtbcokncfkikalaaGreatDoor.Shd
open Go Go.RowKit Go.Lib Oct Num Gap
def rwL : Int → List (List Int) → List UInt8
  | _, [] => []
  | v, l :: r => putF v l l.length ++ rwL (v + 1) r
theorem rwL_snoc : ∀ (ls : List (List Int)) (v : Int) (l : List Int), rwL v (ls ++ [l]) = rwL v ls ++ putF (v + (ls.length : Int)) l l.length
  | [], v, l => by simp [rwL]
  | x :: ls, v, l => by
    rw [List.cons_append, rwL, rwL, rwL_snoc ls (v + 1) l, List.append_assoc, List.length_cons];rw [show v + 1 + (ls.length : Int) = v + ((ls.length + 1 : Nat) : Int) by omega]
def lsR (R : Nat → List Int) (n : Nat) : List (List Int) := (List.range n).map R
theorem lsR_len (R : Nat → List Int) (n : Nat) : (lsR R n).length = n := by simp [lsR]
theorem lsR_succ (R : Nat → List Int) (n : Nat) : lsR R (n + 1) = lsR R n ++ [R n] := by simp [lsR, List.range_succ]
theorem lsR_take (R : Nat → List Int) (n i : Nat) (h : i ≤ n) : (lsR R n).take i = lsR R i := by
  unfold lsR;rw [← List.map_take, List.take_range, Nat.min_eq_left h]
theorem rwF_rwL (f : Int) (R : Nat → List Int) : ∀ n, rwF f R n = rwL f (lsR R n)
  | 0 => rfl
  | n + 1 => by rw [rwF, rwF_rwL f R n, lsR_succ, rwL_snoc, lsR_len]
theorem rwF_le (f : Int) (R : Nat → List Int) (k : Nat) : ∀ d, (rwF f R k).length ≤ (rwF f R (k + d)).length
  | 0 => Nat.le_refl _
  | d + 1 => by
    rw [← Nat.add_assoc, rwF, List.length_append];exact Nat.le_trans (rwF_le f R k d) (Nat.le_add_right _ _)
def ixN (f : Int) (R : Nat → List Int) (m : Nat) : List Nat := (List.range m).map fun j => (rwF f R (8 * j)).length
theorem ixF_ixN (f : Int) (R : Nat → List Int) : ∀ n, ixF f R n = (ixN f R (marksN n)).flatMap short
  | 0 => by simp [ixF, ixN, marksN]
  | n + 1 => by
    rw [ixF, ixF_ixN f R n]
    by_cases h : n % 8 = 0
    · rw [if_pos h];have e : marksN (n + 1) = marksN n + 1 := by unfold marksN; omega
      have e2 : 8 * marksN n = n := by unfold marksN; omega
      rw [e];unfold ixN;rw [List.range_succ, List.map_append, List.flatMap_append];simp [e2]
    · rw [if_neg h, List.append_nil];have e : marksN (n + 1) = marksN n := by unfold marksN; omega
      rw [e]
theorem mkF_at {s : ByteArray} : ∀ (xs : List Nat) (p : Nat) (t : List UInt8), (∀ x ∈ xs, x < 2 ^ 56) → p ≤ s.size → s.data.toList.drop p = xs.flatMap short ++ t →
    ∃ ms, mkF s xs.length (p : Int) = .inr (ms, ((p + (xs.flatMap short).length : Nat) : Int)) ∧ ms.map (·.1) = xs.map fun (x : Nat) => (x : Int)
  | [], p, t, _, _, _ => ⟨[], by simp [mkF], rfl⟩
  | x :: xs, p, t, hx, hp, h => by
    rw [List.flatMap_cons, List.append_assoc] at h;have e := rdG_at (hx x (by simp)) hp h;obtain ⟨ms, h1, h2⟩ := mkF_at xs (p + (short x).length) t (fun y hy => hx y (by simp [hy])) (drop_le hp h) (drop_app h);refine ⟨((x : Int), (p : Int)) :: ms, ?_, by simp [h2]⟩;rw [List.length_cons, mkF, e];simp only [if_true];rw [h1, List.flatMap_cons, List.length_append, Nat.add_assoc]
theorem rwG_at {s : ByteArray} {N : Int} (hN : N ≤ 4096) : ∀ (ls : List (List Int)) (v : Int) (p : Nat) (t : List UInt8), 0 ≤ v → v + (ls.length : Int) ≤ N → (∀ l ∈ ls, GoodT N l) → p ≤ s.size → s.data.toList.drop p = rwL v ls ++ t →
    ∃ rs, rwG s N ls.length v (p : Int) = .inr (rs, ((p + (rwL v ls).length : Nat) : Int)) ∧ rs.map (·.1) = ls ∧ ∀ i d, i < ls.length → (rs.getD i d).2 = ((p + (rwL v (ls.take i)).length : Nat) : Int)
  | [], v, p, t, _, _, _, _, _ => ⟨[], by simp [rwG, rwL], rfl, fun i d h => absurd h (by simp)⟩
  | l :: ls, v, p, t, hv0, hv1, hg, hp, h => by
    rw [List.length_cons] at hv1;rw [rwL, List.append_assoc] at h;obtain ⟨c1, c2, c3⟩ := row_at hN hv0 (by omega) (hg l (by simp)) hp h
    have e : gtG s (p : Int) N v = .inr (l, ((p + (putF v l l.length).length : Nat) : Int)) := by
      unfold gtG;rw [c1];simp only [if_true, Int.toNat_natCast];exact c2
    obtain ⟨rs, h1, h2, h3⟩ := rwG_at hN ls (v + 1) (p + (putF v l l.length).length) t (by omega) (by omega) (fun x hx => hg x (by simp [hx])) (drop_le hp h) (drop_app h);refine ⟨(l, (p : Int)) :: rs, ?_, by simp [h2], fun i d hi => ?_⟩
    · rw [List.length_cons, rwG, e];simp only;rw [h1, rwL, List.length_append, Nat.add_assoc]
    · cases i with
      | zero => simp [rwL]
      | succ i =>
        rw [List.length_cons] at hi;have := h3 i d (by omega);rw [List.getD_cons_succ, this, List.take_succ_cons, rwL, List.length_append, Nat.add_assoc]
theorem badM_none (b : Int) (rs : List (List Int × Int)) : ∀ (ms : List (Int × Int)) (i : Nat), (∀ j m p, ms[j]? = some (m, p) → m = (rs.getD (8 * (i + j)) ([], b)).2 - b) → badM b rs i ms = none
  | [], _, _ => rfl
  | (m, p) :: ms, i, h => by
    rw [badM, if_pos (by have := h 0 m p rfl; rwa [Nat.add_zero] at this)]
    exact badM_none b rs ms (i + 1) fun j m' p' hj => by
      have := h (j + 1) m' p' (by simpa using hj)
      rwa [show i + (j + 1) = i + 1 + j by omega] at this
theorem gs_of_shF {s : ByteArray} {N : Int} {f n : Nat} {R : Nat → List Int} (hN : N ≤ 4096) (hn : 1 ≤ n) (hfn : (f : Int) + (n : Int) ≤ N) (hg : ∀ k, k < n → GoodT N (R k)) (hsz : s.size < 2 ^ 56) (h : s.data.toList = shF f n R) :
    gsG s N = .inr ((f : Int), lsR R n) := by
  unfold shF at h;rw [List.append_assoc, List.append_assoc] at h;have h0 : s.data.toList.drop 0 = short f ++ (short n ++ (ixF (f : Int) R n ++ rwF (f : Int) R n)) := by rw [List.drop_zero]; exact h
  have r1 := rdG_at (n := f) (by omega) (Nat.zero_le _) h0;have h1 := drop_app h0;have l1 := drop_le (Nat.zero_le _) h0;have r2 := rdG_at (n := n) (by omega) l1 h1;have h2 := drop_app h1;have l2 := drop_le l1 h1
  have e1 : (short f).length + (short n).length + (ixF (f : Int) R n).length + (rwF (f : Int) R n).length = s.size := by
    have := congrArg List.length h;simp only [List.length_append] at this;have e : s.data.toList.length = s.size := rfl;omega
  have hixl : (ixN (f : Int) R (marksN n)).length = marksN n := by simp [ixN]
  rw [ixF_ixN] at h2
  obtain ⟨ms, m1, m2⟩ := mkF_at (ixN (f : Int) R (marksN n)) (0 + (short f).length + (short n).length) (rwF (f : Int) R n) (fun x hx => by
    unfold ixN at hx;obtain ⟨j, hj, rfl⟩ := List.mem_map.1 hx;have hj2 := List.mem_range.1 hj;have hj8 : 8 * j ≤ n := by unfold marksN at hj2; omega
    have hle : (rwF (f : Int) R (8 * j)).length ≤ (rwF (f : Int) R n).length := by
      obtain ⟨d, hd⟩ : ∃ d, n = 8 * j + d := ⟨n - 8 * j, by omega⟩;rw [hd];exact rwF_le _ _ _ d
    omega) l2 h2
  rw [hixl, ← ixF_ixN] at m1;have h3 := drop_app h2;rw [← ixF_ixN] at h3;have l3 := drop_le l2 h2;rw [← ixF_ixN] at l3;rw [rwF_rwL] at h3
  obtain ⟨rs, w1, w2, w3⟩ := rwG_at (s := s) (N := N) hN (lsR R n) (f : Int) (0 + (short f).length + (short n).length + (ixF (f : Int) R n).length) [] (by omega) (by rw [lsR_len]; exact hfn) (fun l hl => by
    unfold lsR at hl;obtain ⟨k, hk, rfl⟩ := List.mem_map.1 hl
    exact hg k (List.mem_range.1 hk)) l3 (by rw [List.append_nil]; exact h3)
  rw [lsR_len, ← rwF_rwL] at w1;unfold gsG;rw [show ((0 : Nat) : Int) = 0 from rfl] at r1;rw [r1];simp only [if_true];unfold gs1;rw [r2];simp only [if_true];rw [if_neg (by omega), Int.toNat_natCast];unfold gs2;rw [m1];simp only;unfold gs3;rw [w1];simp only;rw [badM_none _ rs ms 0 (fun j m p hj => ?_)]
  · unfold gs4;rw [if_neg (by omega), w2]
  · have hjl : j < marksN n := by
      have := (List.getElem?_eq_some_iff.1 hj).1;have e := congrArg List.length m2;rw [List.length_map, List.length_map, hixl] at e;omega
    have hm : m = ((rwF (f : Int) R (8 * j)).length : Int) := by
      have e : (ms.map (·.1))[j]? = some m := by rw [List.getElem?_map, hj]; rfl
      rw [m2] at e;unfold ixN at e;rw [List.getElem?_map, List.getElem?_map, List.getElem?_range hjl] at e
      simpa using e.symm
    have h8 : 8 * j < n := by unfold marksN at hjl; omega
    rw [Nat.zero_add, w3 (8 * j) _ (by rw [lsR_len]; exact h8), lsR_take R n (8 * j) (by omega), ← rwF_rwL, hm];omega
theorem mkF_place {s : ByteArray} : ∀ (k : Nat) (p : Int) (ms : List (Int × Int)) (q : Int), 0 ≤ p → p ≤ s.size → mkF s k p = .inr (ms, q) → 0 ≤ q ∧ q ≤ s.size
  | 0, p, ms, q, h0, h1, hr => by
    rw [mkF] at hr;injection hr with hr
    injection hr with _ e
    omega
  | k + 1, p, ms, q, h0, h1, hr => by
    rw [mkF] at hr;rcases hg : rdG s p with ⟨x, n2, e, a⟩;rw [hg] at hr;simp only at hr
    by_cases he : e = 0
    · subst he;rw [if_pos rfl] at hr;obtain ⟨_, _, hpn, hns, _⟩ := rdG_ok hg
      cases hq : mkF s k n2 with
      | inl z => rw [hq] at hr; cases hr
      | inr z =>
        obtain ⟨l2, n3⟩ := z;rw [hq] at hr;simp only at hr;injection hr with hr
        injection hr with _ e
        subst e;exact mkF_place k n2 l2 n3 (by omega) hns hq
    · rw [if_neg he] at hr; cases hr
end Go.Proofs.YtbcokncfkikalaaGreatDoor.Shd
end
section
namespace Go.Proofs.YtbcokncfkikalaaGreatDoor.Kn
open Go
section
variable {P : Program} {n : Nat} {l : List (Nat × Value)} {a : Act}
theorem ex_nilCheck {d : Option Tmp} {t : TypeId} {p : String} {af : Array Edge} {g : Option (Nat × Bool)} {x : Operand} {q : Addr} (h : Kn n l a) (hx : Val l x (.pointer (some q))) : execOp a.eval ⟨d, .nilCheck x, t, p, af, g⟩ = vl (Pure.pure (.pointer (some q))) := by simp only [execOp, h.val hx]; rfl
end
end Go.Proofs.YtbcokncfkikalaaGreatDoor.Kn
namespace Go.Proofs.YtbcokncfkikalaaGreatDoor.Num
open Go Go.RowKit Go.Lib
def HoldI (w : World) (g : Nat) (l : List Int) : Prop := ∀ i, i < l.length → w.cell? ⟨g, i, none⟩ = some (.int .i64 (nt l i)) ∧ w.frozen? ⟨g, i, none⟩ = false
theorem HoldI.iin {w : World} {g : Nat} {l : List Int} (h : HoldI w g l) : IIn w (some ⟨g, 0, none⟩) l := fun i hi => by
  obtain ⟨h1, _⟩ := h i hi;exact ⟨g, 0, rfl, World.block_lt_of_cell? _ _ h1, by rw [Nat.zero_add]; exact h1⟩
theorem HoldI.at {w w' : World} {g : Nat} {l : List Int} (h : HoldI w g l) (e : w'.heap[g]? = w.heap[g]?) : HoldI w' g l := fun i hi => by
  obtain ⟨h1, h2⟩ := h i hi;exact ⟨by simp only [World.cell?, e]; exact h1, by simp only [World.frozen?, e]; exact h2⟩
theorem HoldI.on {w w' : World} {g : Nat} {l : List Int} (h : HoldI w g l) (hb : Below w.heap.size w w') : HoldI w' g l := fun i hi => by
  have hlt : g < w.heap.size := World.block_lt_of_cell? _ _ (h i hi).1;exact h.at (hb.block g hlt) i hi
theorem HoldI.drewN {w : World} {g : Nat} {l : List Int} (h : HoldI w g l) (q : Nat) : HoldI (w.drewN q) g l := h
theorem HoldI.drew {w : World} {g : Nat} {l : List Int} (h : HoldI w g l) : HoldI w.drew g l := h
theorem nt_set (l : List Int) (k i : Nat) (e : Int) (hi : i < l.length) : nt (l.set k e) i = if i = k then e else nt l i := by
  rw [nt_at _ _ (by simpa using hi), nt_at _ _ hi, List.getElem_set]
  by_cases h : i = k
  · subst h; simp
  · rw [if_neg (fun q => h q.symm), if_neg h]
theorem satU_run {r : Result Unit} {v : World} (H : Kn.SatU (fun w' => w' = v) r) : r = .ok () v := by
  cases r with
  | ok y w' => cases H; rfl
  | halt y w' => exact H.elim
theorem sat_run {r : Result Value} {x : Value} {v : World} (H : Kn.Sat (fun y w' => y = x ∧ w' = v) r) : r = .ok x v := by
  cases r with
  | ok y w' => obtain ⟨rfl, rfl⟩ := H; rfl
  | halt y w' => exact H.elim
theorem HoldI.store {w : World} {g : Nat} {l : List Int} (h : HoldI w g l) (k : Nat) (hk : k < l.length) (a : Int) :
    ∃ w', (Instr.storeAt 3 (.pointer (some ⟨g, k, none⟩)) (.int .i64 a)).run Tryz.prog w = .ok () w' ∧ HoldI w' g (l.set k a) ∧ (∀ b, b ≠ g → w'.heap[b]? = w.heap[b]?) ∧ w'.heap.size = w.heap.size ∧ (∀ B, B ≤ g → Below B w w') := by
  obtain ⟨c1, f1⟩ := h k hk;have hd : (w.setCell ⟨g, k, none⟩ (.int .i64 a)).heap.size = w.heap.size := by simp [World.setCell]
  refine ⟨w.setCell ⟨g, k, none⟩ (.int .i64 a), ?_, fun i hi => ?_, fun b hb => heap_setCell_other w _ b _ hb, hd, fun B hB => (Below.refl B w).setCell hB _⟩
  · refine satU_run ?_;go_simp;try simp [c1, f1]
  · have hi' : i < l.length := by simpa using hi
    rw [World.frozen?_setCell, nt_set l k i a hi'];refine ⟨?_, (h i hi').2⟩
    by_cases e : i = k
    · subst e;rw [if_pos rfl, World.cell?_setCell_same' _ _ _ (by rw [c1]; rfl)]
    · rw [if_neg e, World.cell?_setCell_other _ _ _ _ (by simp [e])];exact (h i hi').1
theorem hold_of_own {w : World} {B g n cap : Nat} {l : List Int} (h : OwnI w B (some ⟨g, 0, none⟩) n cap l) : HoldI w g l := fun i hi => by
  have c := (OwnI.iin h).cells hi;rw [Nat.zero_add] at c;obtain ⟨hn, hl, hr⟩ := h;rcases hr with ⟨hv, _⟩ | ⟨g', cap', cur, hv, hB, hg, hle, hm, hs, ht⟩
  · cases hv
  · simp only [Value.slice.injEq, Option.some.injEq, Addr.mk.injEq] at hv;obtain ⟨⟨rfl, _, _⟩, _, _⟩ := hv;exact ⟨c, by simp [World.frozen?, hg]⟩
theorem sliceI (g n a b : Nat) (v : World) (h : a ≤ b) (h2 : b ≤ n) (h4 : n ≤ 9223372036854775807) : ∃ o c, (Instr.sliceAt 40 (.slice (some ⟨g, 0, none⟩) n n) (some (.int .i64 (a : Int))) (some (.int .i64 (b : Int))) none).run Tryz.prog v = .ok (.slice (some ⟨g, o, none⟩) (b - a) c) v ∧ (a < b → o = a) := by
  by_cases e : n = a
  · obtain rfl : b = n := by omega
    subst e;refine ⟨0, 0, sat_run ?_, fun h => by omega⟩;go_simp;(try go_bits)
  · refine ⟨a, n - a, sat_run ?_, fun _ => rfl⟩;go_simp;(try go_bits);try simp [e]
theorem made_repI (n : Nat) : (madeCells (Value.int .i64 0).cells (n * 1)).toList = (List.replicate n (0 : Int)).map iV := by
  apply List.ext_getElem
  · simp [madeCells]
  · intro i h1 h2;simp [madeCells, Value.cells, iV, Nat.mod_one]
theorem makeI (w : World) (n : Nat) (hn : n ≤ 100000) :
    ∃ w', (Instr.makeSlice 40 (.int .i64 (n : Int)) (.int .i64 (n : Int))).run Tryz.prog w = .ok (.slice (some ⟨w.heap.size, 0, none⟩) n n) w' ∧ HoldI w' w.heap.size (List.replicate n 0) ∧ Below w.heap.size w w' ∧ w.heap.size < w'.heap.size := by
  obtain ⟨i0, hi, hz0, hz1, hz2⟩ : ∃ i0, Tryz.prog.info? 3 = some i0 ∧ i0.zero = some (.int .i64 0) ∧ i0.size = 1 ∧ i0.bytes = 8 := ⟨(Tryz.prog.info? 3).get (by kernel_rfl), by kernel_rfl, by kernel_rfl, by kernel_rfl, by kernel_rfl⟩;obtain ⟨w', h1, h2, h3⟩ := run_makeSlice_full (P := Tryz.prog) (w := w) w.heap.size 40 3 i0 (.int .i64 0) 1 Tryz.underlying40 hi hz0 hz1 .i64 .i64 n (by omega) (by rw [hz2]; omega) (by unfold maxLen; omega) (Nat.le_refl _);rw [made_repI] at h2;have hO : OwnI w' w.heap.size (some ⟨w.heap.size, 0, none⟩) n n (List.replicate n 0) := ⟨by simp, h2⟩;exact ⟨w', h1, hold_of_own hO, (Below.refl _ w).grown h3 (Nat.le_refl _) (by intro k hk; cases hk), hO.lt⟩
end Go.Proofs.YtbcokncfkikalaaGreatDoor.Num
end
section
namespace Go.Proofs.YtbcokncfkikalaaGreatDoor.Kn
open Go
section
variable {P : Program} {n : Nat} {l : List (Nat × Value)} {a : Act} {w : World}
theorem ret3 {fn : Func} {R : Ending → World → Prop} {t u x : Tmp} {v1 v2 v3 : Value} (h : Kn n l a) (hr : fn.results = #[.tmp t, .tmp u, .tmp x]) (h1 : find l t = some v1) (h2 : find l u = some v2) (h3 : find l x = some v3) (H : R (.returned (.tuple #[v1, v2, v3])) w) : bodyPost P fn R .ret a w :=
  bodyPost_ret (results_tmp3 hr _ _ _) h.defers (by have e1 := h.get t v1 h1; have e2 := h.get u v2 h2; have e3 := h.get x v3 h3; simp only [Act.eval] at e1 e2 e3; rw [e1, e2, e3]; exact H)
theorem retC {fn : Func} {R : Ending → World → Prop} {p u : Tmp} {ty : TypeId} {A : Addr} {v x : Value} (h : Kn n l a) (hr : fn.results = #[.cell p ty, .tmp u]) (hp : find l p = some (.pointer (some A))) (hx : find l u = some x) (hl : (loadVar ty A).run P w = .ok v w) (H : R (.returned (.tuple #[v, x])) w) : bodyPost P fn R .ret a w := by
  have e1 := h.get p _ hp;have e2 := h.get u x hx;simp only [Act.eval] at e1 e2;refine bodyPost_ret (v := .tuple #[v, x]) ?_ h.defers H;rw [results_cell_tmp hr, e1, e2];have ha : (asAddr (.pointer (some A))).run P w = .ok A w := rfl;rw [ha];show ((loadVar ty A).run P w).andThen _ = _;rw [hl]
  rfl
end
end Go.Proofs.YtbcokncfkikalaaGreatDoor.Kn
end
section
namespace Go.Proofs.YtbcokncfkikalaaGreatDoor.Gap
open Go Go.RowKit Go.Lib Oct Num
def manyB (N : Int) : Bool := decide (0 ≤ N ∧ N ≤ 4096)
def nodeB (N v : Int) : Bool := decide (0 ≤ v ∧ v < N)
theorem manyB_yes {N : Int} (h0 : 0 ≤ N) (h1 : N ≤ 4096) : manyB N = true := decide_eq_true ⟨h0, h1⟩
theorem manyB_no {N : Int} (h : N < 0 ∨ 4096 < N) : manyB N = false := decide_eq_false (by omega)
theorem nodeB_yes {N v : Int} (h0 : 0 ≤ v) (h1 : v < N) : nodeB N v = true := decide_eq_true ⟨h0, h1⟩
theorem nodeB_no {N v : Int} (h : v < 0 ∨ N ≤ v) : nodeB N v = false := decide_eq_false (by omega)
def flt (p : Int) (E : Value) : Value := .iface 99 (.agg #[.int .i64 p, E])
def gE (e a : Int) : Value := if e = 0 then .nilIface else Oct.faultV a e
theorem gE_0 (a : Int) : gE 0 a = .nilIface := rfl
theorem gE_e {e a : Int} (h : e ≠ 0) : gE e a = .iface 99 (.agg #[.int .i64 a, .iface 72 (.int .i64 e)]) := by unfold gE; rw [if_neg h]; rfl
theorem rd_code : ∀ (l : List UInt8), (rd l).2.2 = 0 ∨ (rd l).2.2 = 3 ∨ (rd l).2.2 = 4 := by
  have H : ∀ (m : Nat) (nf : Bool) (l : List UInt8), (rdF m nf l).2.2 = 0 ∨ (rdF m nf l).2.2 = 3 ∨ (rdF m nf l).2.2 = 4 := by
    intro m
    induction m with
    | zero => intro nf l; rw [rdF]; simp
    | succ m ih =>
      intro nf l
      cases l with
      | nil => rw [rdF]; simp
      | cons b r =>
        rw [rdF];have := ih true r
        split
        · simp
        split
        · simp
        split
        · simp
        · exact this
  exact H 8 false
theorem short_g (s : ByteArray) (p : Int) (w : World) (hs : s.size ≤ maxLen) :
    Calls Tryz.prog 56 #[.string s, .int .i64 p] w fun e w' => e = .returned (.tuple #[.int .i64 (rdG s p).1, .int .i64 (rdG s p).2.1, gE (rdG s p).2.2.1 (rdG s p).2.2.2]) ∧ w = w' := by
  by_cases hp : p < 0 ∨ (s.size : Int) < p
  · refine (short_arg s p w hs hp).mono fun e w' ⟨he, hw⟩ => ⟨?_, hw⟩;rw [he];unfold rdG;rw [if_pos hp]
    rfl
  · refine (short_any s p w hs (by omega) (by omega)).mono fun e w' ⟨he, hw⟩ => ⟨?_, hw⟩;rw [he];unfold rdG shortAns rdErr gE;rw [if_neg hp]
    by_cases h0 : (rd (s.data.toList.drop p.toNat)).2.2 = 0
    · simp [h0]
    · have hz := rdF_err 8 false _ h0;have hz2 : rd (s.data.toList.drop p.toNat) = (0, 0, (rd (s.data.toList.drop p.toNat)).2.2) := hz
      by_cases h3 : (rd (s.data.toList.drop p.toNat)).2.2 = 3
      · rw [hz2, h3];simp
      · have h4 : (rd (s.data.toList.drop p.toNat)).2.2 = 4 := by
          rcases rd_code (s.data.toList.drop p.toNat) with h | h | h
          · exact absurd h h0
          · exact absurd h h3
          · exact h
        rw [hz2, h4];simp
set_option maxRecDepth 100000 in
set_option maxHeartbeats 2000000 in
theorem turned_g (s : ByteArray) (p : Int) (w : World) (hs : s.size ≤ maxLen) :
    Calls Tryz.prog 80 #[.string s, .int .i64 p] w fun e w' => e = .returned (.tuple #[.int .i64 (bkI (rdG s p).1), .int .i64 (rdG s p).2.1, gE (rdG s p).2.2.1 (rdG s p).2.2.2]) ∧ w = w' := by
  rcases hg : rdG s p with ⟨x, nx, e, a⟩;have hsh := short_g s p w hs;rw [hg] at hsh
  have hx : 0 ≤ x ∧ x ≤ 72057594037927935 := by
    by_cases he : e = 0
    · subst he; exact (rdG_ok hg).1
    · have := (rdG_bad hg he).1; omega
  have hbk := back_any x w (by omega)
  have e1 : backOf x = bkI x := by
    unfold backOf bkI;rw [if_neg (by omega)]
    split <;> omega
  rw [e1] at hbk;refine Kn.calls Tryz.func80 rfl Tryz.ntmps80 rfl (.cons (t := 0) rfl (.cons (t := 1) rfl .nil)) fun fa0 fh0 => ?_;refine wp_seq_k fun K1 hK1 => ?_;refine wp_region_lit ?_;refine Kn.pure fh0 rfl rfl .none (Kn.ex_assign fh0 .const) fun fa1 fh1 => ?_;clear fh0 fa0;refine Kn.pure fh1 rfl rfl .none (Kn.ex_assign fh1 .const) fun fa2 fh2 => ?_;clear fh1 fa1;refine Kn.pure fh2 rfl rfl .none (Kn.ex_assign fh2 .const) fun fa3 fh3 => ?_;clear fh2 fa2;refine wpList_nil ?_;refine hK1 _ _ ?_;clear hK1 K1;refine wp_seq_k fun K2 hK2 => ?_;refine wp_region_lit ?_;refine Kn.pure fh3 rfl rfl .none (Kn.ex_move fh3 (.tmp rfl)) fun fa4 fh4 => ?_;clear fh3 fa3;refine Kn.pure fh4 rfl rfl .none (Kn.ex_move fh4 (.tmp rfl)) fun fa5 fh5 => ?_;clear fh4 fa4;refine Kn.call fh5 rfl rfl .none (Kn.ex_call fh5 (.cons (.tmp rfl) (.cons (.tmp rfl) .nil))) Tryz.call56 (hsh) fun e w1 hp => ?_;obtain ⟨rfl, rfl⟩ := hp;refine ⟨_, rfl, fun fa6 fh6 => ?_⟩;clear fh5 fa5;refine Kn.pure fh6 rfl rfl .none (Kn.ex_move fh6 (.tmp rfl)) fun fa7 fh7 => ?_;clear fh6 fa6;refine Kn.pure fh7 rfl rfl .none (Kn.ex_extract fh7 (.tmp rfl) rfl) fun fa8 fh8 => ?_;clear fh7 fa7;refine Kn.pure fh8 rfl rfl .none (Kn.ex_extract fh8 (.tmp rfl) rfl) fun fa9 fh9 => ?_;clear fh8 fa8;refine Kn.pure fh9 rfl rfl .none (Kn.ex_extract fh9 (.tmp rfl) rfl) fun fa10 fh10 => ?_;clear fh9 fa9;refine Kn.pure fh10 rfl rfl .none (Kn.ex_assign fh10 (.tmp rfl)) fun fa11 fh11 => ?_;clear fh10 fa10;refine Kn.pure fh11 rfl rfl .none (Kn.ex_assign fh11 (.tmp rfl)) fun fa12 fh12 => ?_;clear fh11 fa11;refine Kn.pure fh12 rfl rfl .none (Kn.ex_assign fh12 (.tmp rfl)) fun fa13 fh13 => ?_;clear fh12 fa12;refine wpList_nil ?_;refine hK2 _ _ ?_;clear hK2 K2;replace fh13 := fh13.cut (.cons (t := 9) rfl (.cons (t := 8) rfl (.cons (t := 7) rfl (.cons (t := 6) rfl (.cons (t := 5) rfl (.cons (t := 4) rfl .nil))))));clear hsh;refine wp_seq_k fun K3 hK3 => ?_;refine wp_region_lit ?_;refine Kn.pure fh13 rfl rfl .none (Kn.ex_move fh13 (.tmp rfl)) fun fa14 fh14 => ?_;clear fh13 fa13;refine Kn.call fh14 rfl rfl .none (Kn.ex_call fh14 (.cons (.tmp rfl) .nil)) Tryz.call94 (hbk) fun e w1 hp => ?_;obtain ⟨rfl, rfl⟩ := hp;refine ⟨_, rfl, fun fa15 fh15 => ?_⟩;clear fh14 fa14;refine Kn.pure fh15 rfl rfl .none (Kn.ex_move fh15 (.tmp rfl)) fun fa16 fh16 => ?_;clear fh15 fa15;refine Kn.pure fh16 rfl rfl .none (Kn.ex_move fh16 (.tmp rfl)) fun fa17 fh17 => ?_;clear fh16 fa16;refine Kn.pure fh17 rfl rfl .none (Kn.ex_assign fh17 (.tmp rfl)) fun fa18 fh18 => ?_;clear fh17 fa17;refine Kn.pure fh18 rfl rfl .none (Kn.ex_assign fh18 (.tmp rfl)) fun fa19 fh19 => ?_;clear fh18 fa18;refine Kn.pure fh19 rfl rfl .none (Kn.ex_assign fh19 (.tmp rfl)) fun fa20 fh20 => ?_;clear fh19 fa19;refine wpList_nil ?_;refine hK3 _ _ ?_;clear hK3 K3;replace fh20 := fh20.cut (.cons (t := 6) rfl (.cons (t := 5) rfl (.cons (t := 4) rfl .nil)));refine wp_ret ?_;exact Kn.ret3 fh20 rfl rfl rfl rfl ⟨rfl, rfl⟩
set_option maxRecDepth 100000 in
set_option maxHeartbeats 2000000 in
theorem isMany_any (N : Int) (w : World) :
    Calls Tryz.prog 79 #[.int .i64 N] w fun e w' => e = .returned (.bool (manyB N)) ∧ w = w' := by
  refine Kn.calls Tryz.func79 rfl Tryz.ntmps79 rfl (.cons (t := 0) rfl .nil) fun fa0 fh0 => ?_;refine wp_seq_k fun K1 hK1 => ?_;refine wp_region_lit ?_;refine Kn.pure fh0 rfl rfl .none (Kn.ex_assign fh0 .const) fun fa1 fh1 => ?_;clear fh0 fa0;refine wpList_nil ?_;refine hK1 _ _ ?_;clear hK1 K1
  by_cases h1 : N < 0
  · have q1 : ¬ 0 ≤ N := by omega
    refine wp_seq_k fun K2 hK2 => ?_;refine wp_region_lit ?_;refine Kn.pure fh1 rfl rfl .none (Kn.ex_move fh1 (.tmp rfl)) fun fa2 fh2 => ?_;clear fh1 fa1;refine Kn.step fh2 rfl rfl .none (Kn.ex_bin fh2 (.tmp rfl) .const) fun Ko hKo => ?_;go_simp;(try go_bits);refine hKo _ _ fun fa3 fh3 => ?_;clear hKo Ko fh2 fa2;refine Kn.pure fh3 rfl rfl .none (Kn.ex_move fh3 (.tmp rfl)) fun fa4 fh4 => ?_;clear fh3 fa3;refine Kn.skip fh4 rfl rfl (.some rfl rfl rfl) fun fa5 fh5 => ?_;clear fh4 fa4;refine Kn.skip fh5 rfl rfl (.some rfl rfl rfl) fun fa6 fh6 => ?_;clear fh5 fa5;refine Kn.pure fh6 rfl rfl .none (Kn.ex_pick fh6 (.tmp rfl) .const) fun fa7 fh7 => ?_;clear fh6 fa6;refine Kn.pure fh7 rfl rfl .none (Kn.ex_assign fh7 (.tmp rfl)) fun fa8 fh8 => ?_;clear fh7 fa7;refine wpList_nil ?_;refine hK2 _ _ ?_;clear hK2 K2;replace fh8 := fh8.cut (.cons (t := 2) rfl .nil);refine wp_ret ?_;exact Kn.ret1 fh8 rfl rfl ⟨by rw [manyB_no (.inl h1)], rfl⟩
  have h0 : 0 ≤ N := by omega
  by_cases h2 : 4096 < N
  · have q1 : ¬ N ≤ 4096 := by omega
    refine wp_seq_k fun K2 hK2 => ?_;refine wp_region_lit ?_;refine Kn.pure fh1 rfl rfl .none (Kn.ex_move fh1 (.tmp rfl)) fun fa2 fh2 => ?_;clear fh1 fa1;refine Kn.step fh2 rfl rfl .none (Kn.ex_bin fh2 (.tmp rfl) .const) fun Ko hKo => ?_;go_simp;(try go_bits);refine hKo _ _ fun fa3 fh3 => ?_;clear hKo Ko fh2 fa2;refine Kn.pure fh3 rfl rfl .none (Kn.ex_move fh3 (.tmp rfl)) fun fa4 fh4 => ?_;clear fh3 fa3;refine Kn.pure fh4 rfl rfl (.some rfl rfl rfl) (Kn.ex_move fh4 (.tmp rfl)) fun fa5 fh5 => ?_;clear fh4 fa4;refine Kn.step fh5 rfl rfl (.some rfl rfl rfl) (Kn.ex_bin fh5 (.tmp rfl) .const) fun Ko hKo => ?_;go_simp;(try go_bits);refine hKo _ _ fun fa6 fh6 => ?_;clear hKo Ko fh5 fa5;refine Kn.pure fh6 rfl rfl .none (Kn.ex_pick fh6 (.tmp rfl) (.tmp rfl)) fun fa7 fh7 => ?_;clear fh6 fa6;refine Kn.pure fh7 rfl rfl .none (Kn.ex_assign fh7 (.tmp rfl)) fun fa8 fh8 => ?_;clear fh7 fa7;refine wpList_nil ?_;refine hK2 _ _ ?_;clear hK2 K2;replace fh8 := fh8.cut (.cons (t := 2) rfl .nil);refine wp_ret ?_;exact Kn.ret1 fh8 rfl rfl ⟨by rw [manyB_no (.inr h2)], rfl⟩
  have q1 : N ≤ 4096 := by omega
  refine wp_seq_k fun K2 hK2 => ?_;refine wp_region_lit ?_;refine Kn.pure fh1 rfl rfl .none (Kn.ex_move fh1 (.tmp rfl)) fun fa2 fh2 => ?_;clear fh1 fa1;refine Kn.step fh2 rfl rfl .none (Kn.ex_bin fh2 (.tmp rfl) .const) fun Ko hKo => ?_;go_simp;(try go_bits);refine hKo _ _ fun fa3 fh3 => ?_;clear hKo Ko fh2 fa2;refine Kn.pure fh3 rfl rfl .none (Kn.ex_move fh3 (.tmp rfl)) fun fa4 fh4 => ?_;clear fh3 fa3;refine Kn.pure fh4 rfl rfl (.some rfl rfl rfl) (Kn.ex_move fh4 (.tmp rfl)) fun fa5 fh5 => ?_;clear fh4 fa4;refine Kn.step fh5 rfl rfl (.some rfl rfl rfl) (Kn.ex_bin fh5 (.tmp rfl) .const) fun Ko hKo => ?_;go_simp;(try go_bits);refine hKo _ _ fun fa6 fh6 => ?_;clear hKo Ko fh5 fa5;refine Kn.pure fh6 rfl rfl .none (Kn.ex_pick fh6 (.tmp rfl) (.tmp rfl)) fun fa7 fh7 => ?_;clear fh6 fa6;refine Kn.pure fh7 rfl rfl .none (Kn.ex_assign fh7 (.tmp rfl)) fun fa8 fh8 => ?_;clear fh7 fa7;refine wpList_nil ?_;refine hK2 _ _ ?_;clear hK2 K2;replace fh8 := fh8.cut (.cons (t := 2) rfl .nil);refine wp_ret ?_;exact Kn.ret1 fh8 rfl rfl ⟨by rw [manyB_yes h0 q1], rfl⟩
set_option maxRecDepth 100000 in
set_option maxHeartbeats 2000000 in
theorem isNode_any (N v : Int) (w : World) :
    Calls Tryz.prog 61 #[.int .i64 N, .int .i64 v] w fun e w' => e = .returned (.bool (nodeB N v)) ∧ w = w' := by
  refine Kn.calls Tryz.func61 rfl Tryz.ntmps61 rfl (.cons (t := 0) rfl (.cons (t := 1) rfl .nil)) fun fa0 fh0 => ?_;refine wp_seq_k fun K1 hK1 => ?_;refine wp_region_lit ?_;refine Kn.pure fh0 rfl rfl .none (Kn.ex_assign fh0 .const) fun fa1 fh1 => ?_;clear fh0 fa0;refine wpList_nil ?_;refine hK1 _ _ ?_;clear hK1 K1
  by_cases h1 : v < 0
  · have q1 : ¬ 0 ≤ v := by omega
    refine wp_seq_k fun K2 hK2 => ?_;refine wp_region_lit ?_;refine Kn.pure fh1 rfl rfl .none (Kn.ex_move fh1 (.tmp rfl)) fun fa2 fh2 => ?_;clear fh1 fa1;refine Kn.step fh2 rfl rfl .none (Kn.ex_bin fh2 (.tmp rfl) .const) fun Ko hKo => ?_;go_simp;(try go_bits);refine hKo _ _ fun fa3 fh3 => ?_;clear hKo Ko fh2 fa2;refine Kn.pure fh3 rfl rfl .none (Kn.ex_move fh3 (.tmp rfl)) fun fa4 fh4 => ?_;clear fh3 fa3;refine Kn.skip fh4 rfl rfl (.some rfl rfl rfl) fun fa5 fh5 => ?_;clear fh4 fa4;refine Kn.skip fh5 rfl rfl (.some rfl rfl rfl) fun fa6 fh6 => ?_;clear fh5 fa5;refine Kn.skip fh6 rfl rfl (.some rfl rfl rfl) fun fa7 fh7 => ?_;clear fh6 fa6;refine Kn.pure fh7 rfl rfl .none (Kn.ex_pick fh7 (.tmp rfl) .const) fun fa8 fh8 => ?_;clear fh7 fa7;refine Kn.pure fh8 rfl rfl .none (Kn.ex_assign fh8 (.tmp rfl)) fun fa9 fh9 => ?_;clear fh8 fa8;refine wpList_nil ?_;refine hK2 _ _ ?_;clear hK2 K2;replace fh9 := fh9.cut (.cons (t := 4) rfl .nil);refine wp_ret ?_;exact Kn.ret1 fh9 rfl rfl ⟨by rw [nodeB_no (.inl h1)], rfl⟩
  have h0 : 0 ≤ v := by omega
  by_cases h2 : N ≤ v
  · have q1 : ¬ v < N := by omega
    refine wp_seq_k fun K2 hK2 => ?_;refine wp_region_lit ?_;refine Kn.pure fh1 rfl rfl .none (Kn.ex_move fh1 (.tmp rfl)) fun fa2 fh2 => ?_;clear fh1 fa1;refine Kn.step fh2 rfl rfl .none (Kn.ex_bin fh2 (.tmp rfl) .const) fun Ko hKo => ?_;go_simp;(try go_bits);refine hKo _ _ fun fa3 fh3 => ?_;clear hKo Ko fh2 fa2;refine Kn.pure fh3 rfl rfl .none (Kn.ex_move fh3 (.tmp rfl)) fun fa4 fh4 => ?_;clear fh3 fa3;refine Kn.pure fh4 rfl rfl (.some rfl rfl rfl) (Kn.ex_move fh4 (.tmp rfl)) fun fa5 fh5 => ?_;clear fh4 fa4;refine Kn.pure fh5 rfl rfl (.some rfl rfl rfl) (Kn.ex_move fh5 (.tmp rfl)) fun fa6 fh6 => ?_;clear fh5 fa5;refine Kn.step fh6 rfl rfl (.some rfl rfl rfl) (Kn.ex_bin fh6 (.tmp rfl) (.tmp rfl)) fun Ko hKo => ?_;go_simp;(try go_bits);refine hKo _ _ fun fa7 fh7 => ?_;clear hKo Ko fh6 fa6;refine Kn.pure fh7 rfl rfl .none (Kn.ex_pick fh7 (.tmp rfl) (.tmp rfl)) fun fa8 fh8 => ?_;clear fh7 fa7;refine Kn.pure fh8 rfl rfl .none (Kn.ex_assign fh8 (.tmp rfl)) fun fa9 fh9 => ?_;clear fh8 fa8;refine wpList_nil ?_;refine hK2 _ _ ?_;clear hK2 K2;replace fh9 := fh9.cut (.cons (t := 4) rfl .nil);refine wp_ret ?_;exact Kn.ret1 fh9 rfl rfl ⟨by rw [nodeB_no (.inr h2)], rfl⟩
  have h3 : v < N := by omega
  refine wp_seq_k fun K2 hK2 => ?_;refine wp_region_lit ?_;refine Kn.pure fh1 rfl rfl .none (Kn.ex_move fh1 (.tmp rfl)) fun fa2 fh2 => ?_;clear fh1 fa1;refine Kn.step fh2 rfl rfl .none (Kn.ex_bin fh2 (.tmp rfl) .const) fun Ko hKo => ?_;go_simp;(try go_bits);refine hKo _ _ fun fa3 fh3 => ?_;clear hKo Ko fh2 fa2;refine Kn.pure fh3 rfl rfl .none (Kn.ex_move fh3 (.tmp rfl)) fun fa4 fh4 => ?_;clear fh3 fa3;refine Kn.pure fh4 rfl rfl (.some rfl rfl rfl) (Kn.ex_move fh4 (.tmp rfl)) fun fa5 fh5 => ?_;clear fh4 fa4;refine Kn.pure fh5 rfl rfl (.some rfl rfl rfl) (Kn.ex_move fh5 (.tmp rfl)) fun fa6 fh6 => ?_;clear fh5 fa5;refine Kn.step fh6 rfl rfl (.some rfl rfl rfl) (Kn.ex_bin fh6 (.tmp rfl) (.tmp rfl)) fun Ko hKo => ?_;go_simp;(try go_bits);refine hKo _ _ fun fa7 fh7 => ?_;clear hKo Ko fh6 fa6;refine Kn.pure fh7 rfl rfl .none (Kn.ex_pick fh7 (.tmp rfl) (.tmp rfl)) fun fa8 fh8 => ?_;clear fh7 fa7;refine Kn.pure fh8 rfl rfl .none (Kn.ex_assign fh8 (.tmp rfl)) fun fa9 fh9 => ?_;clear fh8 fa8;refine wpList_nil ?_;refine hK2 _ _ ?_;clear hK2 K2;replace fh9 := fh9.cut (.cons (t := 4) rfl .nil);refine wp_ret ?_;exact Kn.ret1 fh9 rfl rfl ⟨by rw [nodeB_yes h0 h3], rfl⟩
set_option maxRecDepth 100000 in
set_option maxHeartbeats 2000000 in
theorem gfault_any (p : Int) (T : TypeId) (X : Value) (w : World) :
    Calls Tryz.prog 58 #[.int .i64 p, .iface T X] w fun e w' => e = .returned (flt p (.iface T X)) ∧ w = w' := by
  refine Kn.calls Tryz.func58 rfl Tryz.ntmps58 rfl (.cons (t := 0) rfl (.cons (t := 1) rfl .nil)) fun fa0 fh0 => ?_;refine wp_seq_k fun K1 hK1 => ?_;refine wp_region_lit ?_;refine Kn.pure fh0 rfl rfl .none (Kn.ex_assign fh0 .const) fun fa1 fh1 => ?_;clear fh0 fa0;refine wpList_nil ?_;refine hK1 _ _ ?_;clear hK1 K1;refine wp_seq_k fun K2 hK2 => ?_;refine wp_region_lit ?_;refine Kn.pure fh1 rfl rfl .none (Kn.ex_move fh1 (.tmp rfl)) fun fa2 fh2 => ?_;clear fh1 fa1;refine Kn.pure fh2 rfl rfl .none (Kn.ex_move fh2 (.tmp rfl)) fun fa3 fh3 => ?_;clear fh2 fa2;refine Kn.step fh3 rfl rfl .none (Kn.ex_build fh3 (.cons (.tmp rfl) (.cons (.tmp rfl) .nil))) fun Ko hKo => ?_;go_simp;(try go_bits);refine hKo _ _ fun fa4 fh4 => ?_;clear hKo Ko fh3 fa3;refine Kn.step fh4 rfl rfl .none (Kn.ex_makeInterface fh4 (.tmp rfl)) fun Ko hKo => ?_;go_simp;(try go_bits);refine hKo _ _ fun fa5 fh5 => ?_;clear hKo Ko fh4 fa4;refine Kn.pure fh5 rfl rfl .none (Kn.ex_assign fh5 (.tmp rfl)) fun fa6 fh6 => ?_;clear fh5 fa5;refine wpList_nil ?_;refine hK2 _ _ ?_;clear hK2 K2;replace fh6 := fh6.cut (.cons (t := 4) rfl .nil);refine wp_ret ?_;exact Kn.ret1 fh6 rfl rfl ⟨rfl, rfl⟩
set_option maxRecDepth 100000 in
set_option maxHeartbeats 2000000 in
theorem check_ok (N v : Int) (w : World) (h0 : 0 ≤ N) (h1 : N ≤ 4096) (h2 : 0 ≤ v) (h3 : v < N) :
    Calls Tryz.prog 57 #[.int .i64 N, .int .i64 v] w fun e w' => e = .returned (.nilIface) ∧ w = w' := by
  refine Kn.calls Tryz.func57 rfl Tryz.ntmps57 rfl (.cons (t := 0) rfl (.cons (t := 1) rfl .nil)) fun fa0 fh0 => ?_;refine wp_seq_k fun K1 hK1 => ?_;refine wp_region_lit ?_;refine Kn.pure fh0 rfl rfl .none (Kn.ex_assign fh0 .const) fun fa1 fh1 => ?_;clear fh0 fa0;refine wpList_nil ?_;refine hK1 _ _ ?_;clear hK1 K1;have hm := isMany_any N w;rw [manyB_yes h0 h1] at hm;refine wp_seq_k fun K2 hK2 => ?_;refine wp_seq_k fun K3 hK3 => ?_;refine wp_region_lit ?_;refine Kn.pure fh1 rfl rfl .none (Kn.ex_move fh1 (.tmp rfl)) fun fa2 fh2 => ?_;clear fh1 fa1;refine Kn.call fh2 rfl rfl .none (Kn.ex_call fh2 (.cons (.tmp rfl) .nil)) Tryz.call79 (hm) fun e w1 hp => ?_;obtain ⟨rfl, rfl⟩ := hp;refine ⟨_, rfl, fun fa3 fh3 => ?_⟩;clear fh2 fa2;refine Kn.step fh3 rfl rfl .none (Kn.ex_un fh3 (.tmp rfl)) fun Ko hKo => ?_;go_simp;(try go_bits);refine hKo _ _ fun fa4 fh4 => ?_;clear hKo Ko fh3 fa3;refine wpList_nil ?_;refine hK3 _ _ ?_;clear hK3 K3;replace fh4 := fh4.cut (.cons (t := 7) rfl (.cons (t := 4) rfl (.cons (t := 0) rfl (.cons (t := 1) rfl .nil))));clear hm;refine Kn.no fh4 (.tmp rfl) ?_;refine wp_skip ?_;refine hK2 _ _ ?_;clear hK2 K2;replace fh4 := fh4.cut (.cons (t := 4) rfl (.cons (t := 0) rfl (.cons (t := 1) rfl .nil)));have hn := isNode_any N v w;rw [nodeB_yes h2 h3] at hn;refine wp_seq_k fun K4 hK4 => ?_;refine wp_seq_k fun K5 hK5 => ?_;refine wp_region_lit ?_;refine Kn.pure fh4 rfl rfl .none (Kn.ex_move fh4 (.tmp rfl)) fun fa5 fh5 => ?_;clear fh4 fa4;refine Kn.pure fh5 rfl rfl .none (Kn.ex_move fh5 (.tmp rfl)) fun fa6 fh6 => ?_;clear fh5 fa5;refine Kn.call fh6 rfl rfl .none (Kn.ex_call fh6 (.cons (.tmp rfl) (.cons (.tmp rfl) .nil))) Tryz.call61 (hn) fun e w1 hp => ?_;obtain ⟨rfl, rfl⟩ := hp;refine ⟨_, rfl, fun fa7 fh7 => ?_⟩;clear fh6 fa6;refine Kn.step fh7 rfl rfl .none (Kn.ex_un fh7 (.tmp rfl)) fun Ko hKo => ?_;go_simp;(try go_bits);refine hKo _ _ fun fa8 fh8 => ?_;clear hKo Ko fh7 fa7;refine wpList_nil ?_;refine hK5 _ _ ?_;clear hK5 K5;replace fh8 := fh8.cut (.cons (t := 12) rfl (.cons (t := 4) rfl .nil));clear hn;refine Kn.no fh8 (.tmp rfl) ?_;refine wp_skip ?_;refine hK4 _ _ ?_;clear hK4 K4;replace fh8 := fh8.cut (.cons (t := 4) rfl .nil);refine wp_seq_k fun K6 hK6 => ?_;refine wp_region_lit ?_;refine Kn.pure fh8 rfl rfl .none (Kn.ex_assign fh8 .const) fun fa9 fh9 => ?_;clear fh8 fa8;refine wpList_nil ?_;refine hK6 _ _ ?_;clear hK6 K6;refine wp_ret ?_;exact Kn.ret1 fh9 rfl rfl ⟨rfl, rfl⟩
set_option maxRecDepth 100000 in
set_option maxHeartbeats 2000000 in
theorem gcount_g (s : ByteArray) (p N : Int) (w : World) (hs : s.size ≤ maxLen) (h0 : 0 ≤ N) (h1 : N ≤ 4096) :
    Calls Tryz.prog 59 #[.string s, .int .i64 p, .int .i64 N] w fun e w' => e = .returned (.tuple #[.int .i64 (cnt s p N).1, .int .i64 (cnt s p N).2.1, gE (cnt s p N).2.2.1 (cnt s p N).2.2.2]) ∧ w = w' := by
  refine Kn.calls Tryz.func59 rfl Tryz.ntmps59 rfl (.cons (t := 0) rfl (.cons (t := 1) rfl (.cons (t := 2) rfl .nil))) fun fa0 fh0 => ?_;refine wp_seq_k fun K1 hK1 => ?_;refine wp_region_lit ?_;refine Kn.pure fh0 rfl rfl .none (Kn.ex_assign fh0 .const) fun fa1 fh1 => ?_;clear fh0 fa0;refine Kn.pure fh1 rfl rfl .none (Kn.ex_assign fh1 .const) fun fa2 fh2 => ?_;clear fh1 fa1;refine Kn.pure fh2 rfl rfl .none (Kn.ex_assign fh2 .const) fun fa3 fh3 => ?_;clear fh2 fa2;refine wpList_nil ?_;refine hK1 _ _ ?_;clear hK1 K1;have hm := isMany_any N w;rw [manyB_yes h0 h1] at hm;refine wp_seq_k fun K2 hK2 => ?_;refine wp_seq_k fun K3 hK3 => ?_;refine wp_region_lit ?_;refine Kn.pure fh3 rfl rfl .none (Kn.ex_move fh3 (.tmp rfl)) fun fa4 fh4 => ?_;clear fh3 fa3;refine Kn.call fh4 rfl rfl .none (Kn.ex_call fh4 (.cons (.tmp rfl) .nil)) Tryz.call79 (hm) fun e w1 hp => ?_;obtain ⟨rfl, rfl⟩ := hp;refine ⟨_, rfl, fun fa5 fh5 => ?_⟩;clear fh4 fa4;refine Kn.step fh5 rfl rfl .none (Kn.ex_un fh5 (.tmp rfl)) fun Ko hKo => ?_;go_simp;(try go_bits);refine hKo _ _ fun fa6 fh6 => ?_;clear hKo Ko fh5 fa5;refine wpList_nil ?_;refine hK3 _ _ ?_;clear hK3 K3;replace fh6 := fh6.cut (.cons (t := 14) rfl (.cons (t := 8) rfl (.cons (t := 7) rfl (.cons (t := 6) rfl (.cons (t := 0) rfl (.cons (t := 1) rfl (.cons (t := 2) rfl .nil)))))));clear hm;refine Kn.no fh6 (.tmp rfl) ?_;refine wp_skip ?_;refine hK2 _ _ ?_;clear hK2 K2;replace fh6 := fh6.cut (.cons (t := 8) rfl (.cons (t := 7) rfl (.cons (t := 6) rfl (.cons (t := 0) rfl (.cons (t := 1) rfl (.cons (t := 2) rfl .nil))))));have hsh := short_g s p w hs;rcases hg : rdG s p with ⟨x, nx, e, a⟩;rw [hg] at hsh;simp only at hsh
  by_cases he : e = 0
  · subst he;rw [gE_0] at hsh;obtain ⟨⟨hx0, hx1⟩, -, hpn, hns, rfl, -⟩ := rdG_ok hg
    by_cases hxN : N < x
    · have HR : Hid (cnt s p N = (0, p, 4, p)) := Lib.hid (by unfold cnt; rw [hg, if_pos ⟨rfl, hxN⟩]);clear hg;refine wp_seq_k fun K4 hK4 => ?_;refine wp_region_lit ?_;refine Kn.pure fh6 rfl rfl .none (Kn.ex_move fh6 (.tmp rfl)) fun fa7 fh7 => ?_;clear fh6 fa6;refine Kn.pure fh7 rfl rfl .none (Kn.ex_move fh7 (.tmp rfl)) fun fa8 fh8 => ?_;clear fh7 fa7;refine Kn.call fh8 rfl rfl .none (Kn.ex_call fh8 (.cons (.tmp rfl) (.cons (.tmp rfl) .nil))) Tryz.call56 (hsh) fun e w1 hp => ?_;obtain ⟨rfl, rfl⟩ := hp;refine ⟨_, rfl, fun fa9 fh9 => ?_⟩;clear fh8 fa8;refine Kn.pure fh9 rfl rfl .none (Kn.ex_move fh9 (.tmp rfl)) fun fa10 fh10 => ?_;clear fh9 fa9;refine Kn.pure fh10 rfl rfl .none (Kn.ex_extract fh10 (.tmp rfl) rfl) fun fa11 fh11 => ?_;clear fh10 fa10;refine Kn.pure fh11 rfl rfl .none (Kn.ex_extract fh11 (.tmp rfl) rfl) fun fa12 fh12 => ?_;clear fh11 fa11;refine Kn.pure fh12 rfl rfl .none (Kn.ex_extract fh12 (.tmp rfl) rfl) fun fa13 fh13 => ?_;clear fh12 fa12;refine Kn.pure fh13 rfl rfl .none (Kn.ex_assign fh13 (.tmp rfl)) fun fa14 fh14 => ?_;clear fh13 fa13;refine Kn.pure fh14 rfl rfl .none (Kn.ex_assign fh14 (.tmp rfl)) fun fa15 fh15 => ?_;clear fh14 fa14;refine Kn.pure fh15 rfl rfl .none (Kn.ex_assign fh15 (.tmp rfl)) fun fa16 fh16 => ?_;clear fh15 fa15;refine wpList_nil ?_;refine hK4 _ _ ?_;clear hK4 K4;replace fh16 := fh16.cut (.cons (t := 11) rfl (.cons (t := 10) rfl (.cons (t := 9) rfl (.cons (t := 8) rfl (.cons (t := 7) rfl (.cons (t := 6) rfl (.cons (t := 1) rfl (.cons (t := 2) rfl .nil))))))));clear hsh;refine wp_seq_k fun K5 hK5 => ?_;refine wp_seq_k fun K6 hK6 => ?_;refine wp_region_lit ?_;refine Kn.pure fh16 rfl rfl .none (Kn.ex_move fh16 (.tmp rfl)) fun fa17 fh17 => ?_;clear fh16 fa16;refine Kn.step fh17 rfl rfl .none (Kn.ex_bin fh17 (.tmp rfl) .const) fun Ko hKo => ?_;go_simp;(try go_bits);refine hKo _ _ fun fa18 fh18 => ?_;clear hKo Ko fh17 fa17;refine wpList_nil ?_;refine hK6 _ _ ?_;clear hK6 K6;replace fh18 := fh18.cut (.cons (t := 27) rfl (.cons (t := 11) rfl (.cons (t := 10) rfl (.cons (t := 9) rfl (.cons (t := 8) rfl (.cons (t := 7) rfl (.cons (t := 6) rfl (.cons (t := 1) rfl (.cons (t := 2) rfl .nil)))))))));refine Kn.no fh18 (.tmp rfl) ?_;refine wp_skip ?_;refine hK5 _ _ ?_;clear hK5 K5;replace fh18 := fh18.cut (.cons (t := 10) rfl (.cons (t := 9) rfl (.cons (t := 8) rfl (.cons (t := 7) rfl (.cons (t := 6) rfl (.cons (t := 1) rfl (.cons (t := 2) rfl .nil)))))));refine wp_seq_k fun K7 hK7 => ?_;refine wp_seq_k fun K8 hK8 => ?_;refine wp_region_lit ?_;refine Kn.pure fh18 rfl rfl .none (Kn.ex_move fh18 (.tmp rfl)) fun fa19 fh19 => ?_;clear fh18 fa18;refine Kn.pure fh19 rfl rfl .none (Kn.ex_move fh19 (.tmp rfl)) fun fa20 fh20 => ?_;clear fh19 fa19;refine Kn.step fh20 rfl rfl .none (Kn.ex_bin fh20 (.tmp rfl) (.tmp rfl)) fun Ko hKo => ?_;go_simp;(try go_bits);refine hKo _ _ fun fa21 fh21 => ?_;clear hKo Ko fh20 fa20;refine wpList_nil ?_;refine hK8 _ _ ?_;clear hK8 K8;replace fh21 := fh21.cut (.cons (t := 32) rfl (.cons (t := 10) rfl (.cons (t := 9) rfl (.cons (t := 8) rfl (.cons (t := 7) rfl (.cons (t := 6) rfl (.cons (t := 1) rfl .nil)))))));refine Kn.yes fh21 (.tmp rfl) ?_;replace fh21 := fh21.cut (.cons (t := 10) rfl (.cons (t := 9) rfl (.cons (t := 8) rfl (.cons (t := 7) rfl (.cons (t := 6) rfl (.cons (t := 1) rfl .nil))))));have hf := gfault_any p 72 (.int .i64 4) w;unfold flt at hf;refine wp_seq_k fun K9 hK9 => ?_;refine wp_region_lit ?_;refine Kn.pure fh21 rfl rfl .none (Kn.ex_move fh21 (.tmp rfl)) fun fa22 fh22 => ?_;clear fh21 fa21;refine Kn.pure fh22 rfl rfl .none (Kn.ex_move fh22 (.tmp rfl)) fun fa23 fh23 => ?_;clear fh22 fa22;refine Kn.step fh23 rfl rfl .none (Kn.ex_makeInterface fh23 .const) fun Ko hKo => ?_;go_simp;(try go_bits);refine hKo _ _ fun fa24 fh24 => ?_;clear hKo Ko fh23 fa23;refine Kn.call fh24 rfl rfl .none (Kn.ex_call fh24 (.cons (.tmp rfl) (.cons (.tmp rfl) .nil))) Tryz.call58 (hf) fun e w1 hp => ?_;obtain ⟨rfl, rfl⟩ := hp;refine ⟨_, rfl, fun fa25 fh25 => ?_⟩;clear fh24 fa24;refine Kn.pure fh25 rfl rfl .none (Kn.ex_assign fh25 .const) fun fa26 fh26 => ?_;clear fh25 fa25;refine Kn.pure fh26 rfl rfl .none (Kn.ex_assign fh26 (.tmp rfl)) fun fa27 fh27 => ?_;clear fh26 fa26;refine Kn.pure fh27 rfl rfl .none (Kn.ex_assign fh27 (.tmp rfl)) fun fa28 fh28 => ?_;clear fh27 fa27;refine wpList_nil ?_;refine hK9 _ _ ?_;clear hK9 K9;replace fh28 := fh28.cut (.cons (t := 8) rfl (.cons (t := 7) rfl (.cons (t := 6) rfl (.cons (t := 10) rfl (.cons (t := 9) rfl .nil)))));refine wp_ret ?_;refine Kn.then_ret ?_;exact Kn.ret3 fh28 rfl rfl rfl rfl ⟨by rw [HR.out]; rfl, rfl⟩
    have HR : Hid (cnt s p N = (x, nx, 0, 0)) := Lib.hid (by unfold cnt; rw [hg, if_neg (fun h => hxN h.2)]);clear hg;refine wp_seq_k fun K4 hK4 => ?_;refine wp_region_lit ?_;refine Kn.pure fh6 rfl rfl .none (Kn.ex_move fh6 (.tmp rfl)) fun fa7 fh7 => ?_;clear fh6 fa6;refine Kn.pure fh7 rfl rfl .none (Kn.ex_move fh7 (.tmp rfl)) fun fa8 fh8 => ?_;clear fh7 fa7;refine Kn.call fh8 rfl rfl .none (Kn.ex_call fh8 (.cons (.tmp rfl) (.cons (.tmp rfl) .nil))) Tryz.call56 (hsh) fun e w1 hp => ?_;obtain ⟨rfl, rfl⟩ := hp;refine ⟨_, rfl, fun fa9 fh9 => ?_⟩;clear fh8 fa8;refine Kn.pure fh9 rfl rfl .none (Kn.ex_move fh9 (.tmp rfl)) fun fa10 fh10 => ?_;clear fh9 fa9;refine Kn.pure fh10 rfl rfl .none (Kn.ex_extract fh10 (.tmp rfl) rfl) fun fa11 fh11 => ?_;clear fh10 fa10;refine Kn.pure fh11 rfl rfl .none (Kn.ex_extract fh11 (.tmp rfl) rfl) fun fa12 fh12 => ?_;clear fh11 fa11;refine Kn.pure fh12 rfl rfl .none (Kn.ex_extract fh12 (.tmp rfl) rfl) fun fa13 fh13 => ?_;clear fh12 fa12;refine Kn.pure fh13 rfl rfl .none (Kn.ex_assign fh13 (.tmp rfl)) fun fa14 fh14 => ?_;clear fh13 fa13;refine Kn.pure fh14 rfl rfl .none (Kn.ex_assign fh14 (.tmp rfl)) fun fa15 fh15 => ?_;clear fh14 fa14;refine Kn.pure fh15 rfl rfl .none (Kn.ex_assign fh15 (.tmp rfl)) fun fa16 fh16 => ?_;clear fh15 fa15;refine wpList_nil ?_;refine hK4 _ _ ?_;clear hK4 K4;replace fh16 := fh16.cut (.cons (t := 11) rfl (.cons (t := 10) rfl (.cons (t := 9) rfl (.cons (t := 8) rfl (.cons (t := 7) rfl (.cons (t := 6) rfl (.cons (t := 1) rfl (.cons (t := 2) rfl .nil))))))));clear hsh;refine wp_seq_k fun K5 hK5 => ?_;refine wp_seq_k fun K6 hK6 => ?_;refine wp_region_lit ?_;refine Kn.pure fh16 rfl rfl .none (Kn.ex_move fh16 (.tmp rfl)) fun fa17 fh17 => ?_;clear fh16 fa16;refine Kn.step fh17 rfl rfl .none (Kn.ex_bin fh17 (.tmp rfl) .const) fun Ko hKo => ?_;go_simp;(try go_bits);refine hKo _ _ fun fa18 fh18 => ?_;clear hKo Ko fh17 fa17;refine wpList_nil ?_;refine hK6 _ _ ?_;clear hK6 K6;replace fh18 := fh18.cut (.cons (t := 27) rfl (.cons (t := 11) rfl (.cons (t := 10) rfl (.cons (t := 9) rfl (.cons (t := 8) rfl (.cons (t := 7) rfl (.cons (t := 6) rfl (.cons (t := 1) rfl (.cons (t := 2) rfl .nil)))))))));refine Kn.no fh18 (.tmp rfl) ?_;refine wp_skip ?_;refine hK5 _ _ ?_;clear hK5 K5;replace fh18 := fh18.cut (.cons (t := 10) rfl (.cons (t := 9) rfl (.cons (t := 8) rfl (.cons (t := 7) rfl (.cons (t := 6) rfl (.cons (t := 1) rfl (.cons (t := 2) rfl .nil)))))));refine wp_seq_k fun K7 hK7 => ?_;refine wp_seq_k fun K8 hK8 => ?_;refine wp_region_lit ?_;refine Kn.pure fh18 rfl rfl .none (Kn.ex_move fh18 (.tmp rfl)) fun fa19 fh19 => ?_;clear fh18 fa18;refine Kn.pure fh19 rfl rfl .none (Kn.ex_move fh19 (.tmp rfl)) fun fa20 fh20 => ?_;clear fh19 fa19;refine Kn.step fh20 rfl rfl .none (Kn.ex_bin fh20 (.tmp rfl) (.tmp rfl)) fun Ko hKo => ?_;go_simp;(try go_bits);refine hKo _ _ fun fa21 fh21 => ?_;clear hKo Ko fh20 fa20;refine wpList_nil ?_;refine hK8 _ _ ?_;clear hK8 K8;replace fh21 := fh21.cut (.cons (t := 32) rfl (.cons (t := 10) rfl (.cons (t := 9) rfl (.cons (t := 8) rfl (.cons (t := 7) rfl (.cons (t := 6) rfl (.cons (t := 1) rfl .nil)))))));refine Kn.no fh21 (.tmp rfl) ?_;refine wp_skip ?_;refine hK7 _ _ ?_;clear hK7 K7;replace fh21 := fh21.cut (.cons (t := 10) rfl (.cons (t := 9) rfl (.cons (t := 8) rfl (.cons (t := 7) rfl (.cons (t := 6) rfl .nil)))));refine wp_seq_k fun K9 hK9 => ?_;refine wp_region_lit ?_;refine Kn.pure fh21 rfl rfl .none (Kn.ex_move fh21 (.tmp rfl)) fun fa22 fh22 => ?_;clear fh21 fa21;refine Kn.pure fh22 rfl rfl .none (Kn.ex_move fh22 (.tmp rfl)) fun fa23 fh23 => ?_;clear fh22 fa22;refine Kn.pure fh23 rfl rfl .none (Kn.ex_assign fh23 (.tmp rfl)) fun fa24 fh24 => ?_;clear fh23 fa23;refine Kn.pure fh24 rfl rfl .none (Kn.ex_assign fh24 (.tmp rfl)) fun fa25 fh25 => ?_;clear fh24 fa24;refine Kn.pure fh25 rfl rfl .none (Kn.ex_assign fh25 .const) fun fa26 fh26 => ?_;clear fh25 fa25;refine wpList_nil ?_;refine hK9 _ _ ?_;clear hK9 K9;replace fh26 := fh26.cut (.cons (t := 8) rfl (.cons (t := 7) rfl (.cons (t := 6) rfl .nil)));refine wp_ret ?_;exact Kn.ret3 fh26 rfl rfl rfl rfl ⟨by rw [HR.out]; rfl, rfl⟩
  obtain ⟨rfl, rfl, -⟩ := rdG_bad hg he;have HR : Hid (cnt s nx N = (0, nx, e, a)) := Lib.hid (by unfold cnt; rw [hg, if_neg (fun h => he h.1)]);have HE : Hid (gE e a = .iface 99 (.agg #[.int .i64 a, .iface 72 (.int .i64 e)])) := Lib.hid (gE_e he);rw [HE.out] at hsh;clear hg he;refine wp_seq_k fun K4 hK4 => ?_;refine wp_region_lit ?_;refine Kn.pure fh6 rfl rfl .none (Kn.ex_move fh6 (.tmp rfl)) fun fa7 fh7 => ?_;clear fh6 fa6;refine Kn.pure fh7 rfl rfl .none (Kn.ex_move fh7 (.tmp rfl)) fun fa8 fh8 => ?_;clear fh7 fa7;refine Kn.call fh8 rfl rfl .none (Kn.ex_call fh8 (.cons (.tmp rfl) (.cons (.tmp rfl) .nil))) Tryz.call56 (hsh) fun e w1 hp => ?_;obtain ⟨rfl, rfl⟩ := hp;refine ⟨_, rfl, fun fa9 fh9 => ?_⟩;clear fh8 fa8;refine Kn.pure fh9 rfl rfl .none (Kn.ex_move fh9 (.tmp rfl)) fun fa10 fh10 => ?_;clear fh9 fa9;refine Kn.pure fh10 rfl rfl .none (Kn.ex_extract fh10 (.tmp rfl) rfl) fun fa11 fh11 => ?_;clear fh10 fa10;refine Kn.pure fh11 rfl rfl .none (Kn.ex_extract fh11 (.tmp rfl) rfl) fun fa12 fh12 => ?_;clear fh11 fa11;refine Kn.pure fh12 rfl rfl .none (Kn.ex_extract fh12 (.tmp rfl) rfl) fun fa13 fh13 => ?_;clear fh12 fa12;refine Kn.pure fh13 rfl rfl .none (Kn.ex_assign fh13 (.tmp rfl)) fun fa14 fh14 => ?_;clear fh13 fa13;refine Kn.pure fh14 rfl rfl .none (Kn.ex_assign fh14 (.tmp rfl)) fun fa15 fh15 => ?_;clear fh14 fa14;refine Kn.pure fh15 rfl rfl .none (Kn.ex_assign fh15 (.tmp rfl)) fun fa16 fh16 => ?_;clear fh15 fa15;refine wpList_nil ?_;refine hK4 _ _ ?_;clear hK4 K4;replace fh16 := fh16.cut (.cons (t := 11) rfl (.cons (t := 10) rfl (.cons (t := 9) rfl (.cons (t := 8) rfl (.cons (t := 7) rfl (.cons (t := 6) rfl (.cons (t := 1) rfl (.cons (t := 2) rfl .nil))))))));clear hsh;refine wp_seq_k fun K5 hK5 => ?_;refine wp_seq_k fun K6 hK6 => ?_;refine wp_region_lit ?_;refine Kn.pure fh16 rfl rfl .none (Kn.ex_move fh16 (.tmp rfl)) fun fa17 fh17 => ?_;clear fh16 fa16;refine Kn.step fh17 rfl rfl .none (Kn.ex_bin fh17 (.tmp rfl) .const) fun Ko hKo => ?_;go_simp;(try go_bits);refine hKo _ _ fun fa18 fh18 => ?_;clear hKo Ko fh17 fa17;refine wpList_nil ?_;refine hK6 _ _ ?_;clear hK6 K6;replace fh18 := fh18.cut (.cons (t := 27) rfl (.cons (t := 11) rfl (.cons (t := 10) rfl (.cons (t := 9) rfl (.cons (t := 8) rfl (.cons (t := 7) rfl (.cons (t := 6) rfl (.cons (t := 1) rfl (.cons (t := 2) rfl .nil)))))))));refine Kn.yes fh18 (.tmp rfl) ?_;replace fh18 := fh18.cut (.cons (t := 11) rfl (.cons (t := 10) rfl (.cons (t := 9) rfl (.cons (t := 8) rfl (.cons (t := 7) rfl (.cons (t := 6) rfl (.cons (t := 1) rfl (.cons (t := 2) rfl .nil))))))));refine wp_seq_k fun K7 hK7 => ?_;refine wp_region_lit ?_;refine Kn.pure fh18 rfl rfl .none (Kn.ex_move fh18 (.tmp rfl)) fun fa19 fh19 => ?_;clear fh18 fa18;refine Kn.pure fh19 rfl rfl .none (Kn.ex_move fh19 (.tmp rfl)) fun fa20 fh20 => ?_;clear fh19 fa19;refine Kn.pure fh20 rfl rfl .none (Kn.ex_assign fh20 .const) fun fa21 fh21 => ?_;clear fh20 fa20;refine Kn.pure fh21 rfl rfl .none (Kn.ex_assign fh21 (.tmp rfl)) fun fa22 fh22 => ?_;clear fh21 fa21;refine Kn.pure fh22 rfl rfl .none (Kn.ex_assign fh22 (.tmp rfl)) fun fa23 fh23 => ?_;clear fh22 fa22;refine wpList_nil ?_;refine hK7 _ _ ?_;clear hK7 K7;replace fh23 := fh23.cut (.cons (t := 8) rfl (.cons (t := 7) rfl (.cons (t := 6) rfl (.cons (t := 10) rfl (.cons (t := 9) rfl (.cons (t := 1) rfl (.cons (t := 2) rfl .nil)))))));refine wp_ret ?_;refine Kn.then_ret ?_;exact Kn.ret3 fh23 rfl rfl rfl rfl ⟨by rw [HR.out, HE.out]; rfl, rfl⟩
def skC (s : ByteArray) (p N : Int) : Int × Int × Int := if (cnt s p N).2.2.1 = 0 then skF s p (cnt s p N).1.toNat (cnt s p N).2.1 else (p, (cnt s p N).2.2.1, (cnt s p N).2.2.2)
theorem cntC_ok {s : ByteArray} {p N x nx a : Int} (h : cnt s p N = (x, nx, 0, a)) : rdG s p = (x, nx, 0, a) ∧ x ≤ N := by
  unfold cnt at h
  split at h
  · simp at h
  · rename_i hn;rw [h] at hn;exact ⟨h, by simp at hn; omega⟩
end Go.Proofs.YtbcokncfkikalaaGreatDoor.Gap
end
section
namespace Go.Proofs.YtbcokncfkikalaaGreatDoor.Gap
open Go Go.RowKit Go.Lib Oct Num
set_option maxRecDepth 100000 in
set_option maxHeartbeats 2000000 in
theorem step_first (s : ByteArray) (p v : Int) (A : Option Addr) (c : Nat) (w : World) (hs : s.size ≤ maxLen) (hv0 : 0 ≤ v) (hv1 : v ≤ 4096) :
    Calls Tryz.prog 60 #[.string s, .int .i64 p, .int .i64 v, .slice A 0 c] w fun e w' => e = .returned (.tuple #[.int .i64 (v + bkI (rdG s p).1), .int .i64 (rdG s p).2.1, gE (rdG s p).2.2.1 (rdG s p).2.2.2]) ∧ w = w' := by
  rcases hg : rdG s p with ⟨x, nx, e, a⟩
  have hx : 0 ≤ x ∧ x ≤ 72057594037927935 := by
    by_cases he : e = 0
    · subst he; exact (rdG_ok hg).1
    · have := (rdG_bad hg he).1; omega
  refine Kn.calls Tryz.func60 rfl Tryz.ntmps60 rfl (.cons (t := 0) rfl (.cons (t := 1) rfl (.cons (t := 2) rfl (.cons (t := 3) rfl .nil)))) fun fa0 fh0 => ?_;refine wp_seq_k fun K1 hK1 => ?_;refine wp_region_lit ?_;refine Kn.pure fh0 rfl rfl .none (Kn.ex_assign fh0 .const) fun fa1 fh1 => ?_;clear fh0 fa0;refine Kn.pure fh1 rfl rfl .none (Kn.ex_assign fh1 .const) fun fa2 fh2 => ?_;clear fh1 fa1;refine Kn.pure fh2 rfl rfl .none (Kn.ex_assign fh2 .const) fun fa3 fh3 => ?_;clear fh2 fa2;refine wpList_nil ?_;refine hK1 _ _ ?_;clear hK1 K1;have hsh := turned_g s p w hs;rw [hg] at hsh;simp only at hsh;obtain ⟨b, hb⟩ : ∃ b, bkI x = b := ⟨_, rfl⟩;have hbb : -72057594037927936 ≤ b ∧ b ≤ 72057594037927936 := by rw [← hb]; unfold bkI; split <;> omega
  obtain ⟨t, ht⟩ : ∃ t, v + b = t := ⟨_, rfl⟩;have htb : -72057594037927936 ≤ t ∧ t ≤ 72057594037932032 := by omega
  rw [hb] at hsh;simp only [hb];rw [ht];clear hg hb hx;refine wp_seq_k fun K2 hK2 => ?_;refine wp_seq_k fun K3 hK3 => ?_;refine wp_region_lit ?_;refine Kn.pure fh3 rfl rfl .none (Kn.ex_move fh3 (.tmp rfl)) fun fa4 fh4 => ?_;clear fh3 fa3;refine Kn.step fh4 rfl rfl .none (Kn.ex_len fh4 (.tmp rfl)) fun Ko hKo => ?_;go_simp;(try go_bits);refine hKo _ _ fun fa5 fh5 => ?_;clear hKo Ko fh4 fa4;refine Kn.step fh5 rfl rfl .none (Kn.ex_bin fh5 (.tmp rfl) .const) fun Ko hKo => ?_;go_simp;(try go_bits);refine hKo _ _ fun fa6 fh6 => ?_;clear hKo Ko fh5 fa5;refine wpList_nil ?_;refine hK3 _ _ ?_;clear hK3 K3;replace fh6 := fh6.cut (.cons (t := 19) rfl (.cons (t := 10) rfl (.cons (t := 9) rfl (.cons (t := 8) rfl (.cons (t := 0) rfl (.cons (t := 1) rfl (.cons (t := 2) rfl (.cons (t := 3) rfl .nil))))))));refine Kn.yes fh6 (.tmp rfl) ?_;replace fh6 := fh6.cut (.cons (t := 10) rfl (.cons (t := 9) rfl (.cons (t := 8) rfl (.cons (t := 0) rfl (.cons (t := 1) rfl (.cons (t := 2) rfl (.cons (t := 3) rfl .nil)))))));refine wp_seq_k fun K4 hK4 => ?_;refine wp_region_lit ?_;refine Kn.pure fh6 rfl rfl .none (Kn.ex_move fh6 (.tmp rfl)) fun fa7 fh7 => ?_;clear fh6 fa6;refine Kn.pure fh7 rfl rfl .none (Kn.ex_move fh7 (.tmp rfl)) fun fa8 fh8 => ?_;clear fh7 fa7;refine Kn.call fh8 rfl rfl .none (Kn.ex_call fh8 (.cons (.tmp rfl) (.cons (.tmp rfl) .nil))) Tryz.call80 (hsh) fun e w1 hp => ?_;obtain ⟨rfl, rfl⟩ := hp;refine ⟨_, rfl, fun fa9 fh9 => ?_⟩;clear fh8 fa8;refine Kn.pure fh9 rfl rfl .none (Kn.ex_move fh9 (.tmp rfl)) fun fa10 fh10 => ?_;clear fh9 fa9;refine Kn.pure fh10 rfl rfl .none (Kn.ex_extract fh10 (.tmp rfl) rfl) fun fa11 fh11 => ?_;clear fh10 fa10;refine Kn.pure fh11 rfl rfl .none (Kn.ex_extract fh11 (.tmp rfl) rfl) fun fa12 fh12 => ?_;clear fh11 fa11;refine Kn.pure fh12 rfl rfl .none (Kn.ex_extract fh12 (.tmp rfl) rfl) fun fa13 fh13 => ?_;clear fh12 fa12;refine Kn.pure fh13 rfl rfl .none (Kn.ex_assign fh13 (.tmp rfl)) fun fa14 fh14 => ?_;clear fh13 fa13;refine Kn.pure fh14 rfl rfl .none (Kn.ex_assign fh14 (.tmp rfl)) fun fa15 fh15 => ?_;clear fh14 fa14;refine Kn.pure fh15 rfl rfl .none (Kn.ex_assign fh15 (.tmp rfl)) fun fa16 fh16 => ?_;clear fh15 fa15;refine wpList_nil ?_;refine hK4 _ _ ?_;clear hK4 K4;replace fh16 := fh16.cut (.cons (t := 13) rfl (.cons (t := 12) rfl (.cons (t := 11) rfl (.cons (t := 10) rfl (.cons (t := 9) rfl (.cons (t := 8) rfl (.cons (t := 0) rfl (.cons (t := 1) rfl (.cons (t := 2) rfl (.cons (t := 3) rfl .nil))))))))));clear hsh;refine wp_seq_k fun K5 hK5 => ?_;refine wp_region_lit ?_;refine Kn.pure fh16 rfl rfl .none (Kn.ex_move fh16 (.tmp rfl)) fun fa17 fh17 => ?_;clear fh16 fa16;refine Kn.pure fh17 rfl rfl .none (Kn.ex_move fh17 (.tmp rfl)) fun fa18 fh18 => ?_;clear fh17 fa17;refine Kn.step fh18 rfl rfl .none (Kn.ex_bin fh18 (.tmp rfl) (.tmp rfl)) fun Ko hKo => ?_;go_simp;(try go_bits);try rw [ht]
  try go_simp
  (try go_bits);refine hKo _ _ fun fa19 fh19 => ?_;clear hKo Ko fh18 fa18;refine Kn.pure fh19 rfl rfl .none (Kn.ex_move fh19 (.tmp rfl)) fun fa20 fh20 => ?_;clear fh19 fa19;refine Kn.pure fh20 rfl rfl .none (Kn.ex_move fh20 (.tmp rfl)) fun fa21 fh21 => ?_;clear fh20 fa20;refine Kn.pure fh21 rfl rfl .none (Kn.ex_assign fh21 (.tmp rfl)) fun fa22 fh22 => ?_;clear fh21 fa21;refine Kn.pure fh22 rfl rfl .none (Kn.ex_assign fh22 (.tmp rfl)) fun fa23 fh23 => ?_;clear fh22 fa22;refine Kn.pure fh23 rfl rfl .none (Kn.ex_assign fh23 (.tmp rfl)) fun fa24 fh24 => ?_;clear fh23 fa23;refine wpList_nil ?_;refine hK5 _ _ ?_;clear hK5 K5;replace fh24 := fh24.cut (.cons (t := 10) rfl (.cons (t := 9) rfl (.cons (t := 8) rfl (.cons (t := 0) rfl (.cons (t := 1) rfl (.cons (t := 3) rfl .nil))))));refine wp_ret ?_;refine Kn.then_ret ?_;exact Kn.ret3 fh24 rfl rfl rfl rfl ⟨rfl, rfl⟩
set_option maxRecDepth 100000 in
set_option maxHeartbeats 2000000 in
theorem step_next (s : ByteArray) (p v y : Int) (g o n c : Nat) (w : World) (hs : s.size ≤ maxLen) (hn0 : 0 < n) (hn1 : n ≤ 100000) (hy0 : 0 ≤ y) (hy1 : y ≤ 4096) (hc : w.cell? ⟨g, o + (n - 1), none⟩ = some (.int .i64 y)) :
    Calls Tryz.prog 60 #[.string s, .int .i64 p, .int .i64 v, .slice (some ⟨g, o, none⟩) n c] w fun e w' => e = .returned (.tuple #[.int .i64 (y + (rdG s p).1 + 1), .int .i64 (rdG s p).2.1, gE (rdG s p).2.2.1 (rdG s p).2.2.2]) ∧ w = w' := by
  rcases hg : rdG s p with ⟨x, nx, e, a⟩
  have hx : 0 ≤ x ∧ x ≤ 72057594037927935 := by
    by_cases he : e = 0
    · subst he; exact (rdG_ok hg).1
    · have := (rdG_bad hg he).1; omega
  refine Kn.calls Tryz.func60 rfl Tryz.ntmps60 rfl (.cons (t := 0) rfl (.cons (t := 1) rfl (.cons (t := 2) rfl (.cons (t := 3) rfl .nil)))) fun fa0 fh0 => ?_;refine wp_seq_k fun K1 hK1 => ?_;refine wp_region_lit ?_;refine Kn.pure fh0 rfl rfl .none (Kn.ex_assign fh0 .const) fun fa1 fh1 => ?_;clear fh0 fa0;refine Kn.pure fh1 rfl rfl .none (Kn.ex_assign fh1 .const) fun fa2 fh2 => ?_;clear fh1 fa1;refine Kn.pure fh2 rfl rfl .none (Kn.ex_assign fh2 .const) fun fa3 fh3 => ?_;clear fh2 fa2;refine wpList_nil ?_;refine hK1 _ _ ?_;clear hK1 K1;have hsh := short_g s p w hs;rw [hg] at hsh;simp only at hsh ⊢;obtain ⟨j, hj⟩ : ∃ j, n = j + 1 := ⟨n - 1, by omega⟩;have rj : (n : Int) - 1 = (j : Int) := by omega
  have hjn : j < n := by omega
  rw [show n - 1 = j by omega] at hc;have q0 : ((n : Int) == 0) = false := by rw [beq_eq_false_iff_ne]; omega
  have q1 : (n == 0) = false := by rw [beq_eq_false_iff_ne]; omega
  obtain ⟨t0, ht0⟩ : ∃ t, y + 1 = t := ⟨_, rfl⟩;obtain ⟨t, ht⟩ : ∃ t, t0 + x = t := ⟨_, rfl⟩;have htb : 0 ≤ t ∧ t ≤ 72057594037932032 := by omega
  have htb0 : 0 ≤ t0 ∧ t0 ≤ 4097 := by omega
  rw [show y + x + 1 = t by omega];clear hg hj hn0 hx;refine wp_seq_k fun K2 hK2 => ?_;refine wp_seq_k fun K3 hK3 => ?_;refine wp_region_lit ?_;refine Kn.pure fh3 rfl rfl .none (Kn.ex_move fh3 (.tmp rfl)) fun fa4 fh4 => ?_;clear fh3 fa3;refine Kn.step fh4 rfl rfl .none (Kn.ex_len fh4 (.tmp rfl)) fun Ko hKo => ?_;go_simp;(try go_bits);refine hKo _ _ fun fa5 fh5 => ?_;clear hKo Ko fh4 fa4;refine Kn.step fh5 rfl rfl .none (Kn.ex_bin fh5 (.tmp rfl) .const) fun Ko hKo => ?_;go_simp;(try go_bits);refine hKo _ _ fun fa6 fh6 => ?_;clear hKo Ko fh5 fa5;refine wpList_nil ?_;refine hK3 _ _ ?_;clear hK3 K3;replace fh6 := fh6.cut (.cons (t := 19) rfl (.cons (t := 10) rfl (.cons (t := 9) rfl (.cons (t := 8) rfl (.cons (t := 0) rfl (.cons (t := 1) rfl (.cons (t := 2) rfl (.cons (t := 3) rfl .nil))))))));refine Kn.no fh6 (.tmp rfl) ?_;refine wp_skip ?_;refine hK2 _ _ ?_;clear hK2 K2;replace fh6 := fh6.cut (.cons (t := 10) rfl (.cons (t := 9) rfl (.cons (t := 8) rfl (.cons (t := 0) rfl (.cons (t := 1) rfl (.cons (t := 3) rfl .nil))))));refine wp_seq_k fun K4 hK4 => ?_;refine wp_region_lit ?_;refine Kn.pure fh6 rfl rfl .none (Kn.ex_move fh6 (.tmp rfl)) fun fa7 fh7 => ?_;clear fh6 fa6;refine Kn.pure fh7 rfl rfl .none (Kn.ex_move fh7 (.tmp rfl)) fun fa8 fh8 => ?_;clear fh7 fa7;refine Kn.call fh8 rfl rfl .none (Kn.ex_call fh8 (.cons (.tmp rfl) (.cons (.tmp rfl) .nil))) Tryz.call56 (hsh) fun e w1 hp => ?_;obtain ⟨rfl, rfl⟩ := hp;refine ⟨_, rfl, fun fa9 fh9 => ?_⟩;clear fh8 fa8;refine Kn.pure fh9 rfl rfl .none (Kn.ex_move fh9 (.tmp rfl)) fun fa10 fh10 => ?_;clear fh9 fa9;refine Kn.pure fh10 rfl rfl .none (Kn.ex_extract fh10 (.tmp rfl) rfl) fun fa11 fh11 => ?_;clear fh10 fa10;refine Kn.pure fh11 rfl rfl .none (Kn.ex_extract fh11 (.tmp rfl) rfl) fun fa12 fh12 => ?_;clear fh11 fa11;refine Kn.pure fh12 rfl rfl .none (Kn.ex_extract fh12 (.tmp rfl) rfl) fun fa13 fh13 => ?_;clear fh12 fa12;refine Kn.pure fh13 rfl rfl .none (Kn.ex_assign fh13 (.tmp rfl)) fun fa14 fh14 => ?_;clear fh13 fa13;refine Kn.pure fh14 rfl rfl .none (Kn.ex_assign fh14 (.tmp rfl)) fun fa15 fh15 => ?_;clear fh14 fa14;refine Kn.pure fh15 rfl rfl .none (Kn.ex_assign fh15 (.tmp rfl)) fun fa16 fh16 => ?_;clear fh15 fa15;refine wpList_nil ?_;refine hK4 _ _ ?_;clear hK4 K4;replace fh16 := fh16.cut (.cons (t := 16) rfl (.cons (t := 15) rfl (.cons (t := 14) rfl (.cons (t := 10) rfl (.cons (t := 9) rfl (.cons (t := 8) rfl (.cons (t := 3) rfl .nil)))))));clear hsh;refine wp_seq_k fun K5 hK5 => ?_;refine wp_region_lit ?_;refine Kn.pure fh16 rfl rfl .none (Kn.ex_move fh16 (.tmp rfl)) fun fa17 fh17 => ?_;clear fh16 fa16;refine Kn.pure fh17 rfl rfl .none (Kn.ex_move fh17 (.tmp rfl)) fun fa18 fh18 => ?_;clear fh17 fa17;refine Kn.step fh18 rfl rfl .none (Kn.ex_len fh18 (.tmp rfl)) fun Ko hKo => ?_;go_simp;(try go_bits);refine hKo _ _ fun fa19 fh19 => ?_;clear hKo Ko fh18 fa18;refine Kn.step fh19 rfl rfl .none (Kn.ex_bin fh19 (.tmp rfl) .const) fun Ko hKo => ?_;go_simp;(try go_bits);try simp only [rj]
  refine hKo _ _ fun fa20 fh20 => ?_;clear hKo Ko fh19 fa19;refine Kn.step fh20 rfl rfl .none (Kn.ex_indexAddr fh20 (.tmp rfl) (.tmp rfl)) fun Ko hKo => ?_;go_simp;(try go_bits);refine hKo _ _ fun fa21 fh21 => ?_;clear hKo Ko fh20 fa20;refine Kn.step fh21 rfl rfl .none (Kn.ex_load fh21 (.tmp rfl)) fun Ko hKo => ?_;go_simp;(try go_bits);refine hKo _ _ fun fa22 fh22 => ?_;clear hKo Ko fh21 fa21;refine Kn.step fh22 rfl rfl .none (Kn.ex_bin fh22 (.tmp rfl) .const) fun Ko hKo => ?_;go_simp;(try go_bits);try rw [ht0]
  try go_simp
  (try go_bits);refine hKo _ _ fun fa23 fh23 => ?_;clear hKo Ko fh22 fa22;refine Kn.pure fh23 rfl rfl .none (Kn.ex_move fh23 (.tmp rfl)) fun fa24 fh24 => ?_;clear fh23 fa23;refine Kn.step fh24 rfl rfl .none (Kn.ex_bin fh24 (.tmp rfl) (.tmp rfl)) fun Ko hKo => ?_;go_simp;(try go_bits);try rw [ht]
  try go_simp
  (try go_bits);refine hKo _ _ fun fa25 fh25 => ?_;clear hKo Ko fh24 fa24;refine Kn.pure fh25 rfl rfl .none (Kn.ex_move fh25 (.tmp rfl)) fun fa26 fh26 => ?_;clear fh25 fa25;refine Kn.pure fh26 rfl rfl .none (Kn.ex_move fh26 (.tmp rfl)) fun fa27 fh27 => ?_;clear fh26 fa26;refine Kn.pure fh27 rfl rfl .none (Kn.ex_assign fh27 (.tmp rfl)) fun fa28 fh28 => ?_;clear fh27 fa27;refine Kn.pure fh28 rfl rfl .none (Kn.ex_assign fh28 (.tmp rfl)) fun fa29 fh29 => ?_;clear fh28 fa28;refine Kn.pure fh29 rfl rfl .none (Kn.ex_assign fh29 (.tmp rfl)) fun fa30 fh30 => ?_;clear fh29 fa29;refine wpList_nil ?_;refine hK5 _ _ ?_;clear hK5 K5;replace fh30 := fh30.cut (.cons (t := 10) rfl (.cons (t := 9) rfl (.cons (t := 8) rfl .nil)));refine wp_ret ?_;exact Kn.ret3 fh30 rfl rfl rfl rfl ⟨rfl, rfl⟩
theorem sliceH0 (g o n c b : Nat) (v : World) (h : b ≤ c) (hc : c ≤ 9223372036854775807) : (Instr.sliceAt 40 (.slice (some ⟨g, o, none⟩) n c) none (some (.int .i64 (b : Int))) none).run Tryz.prog v = .ok (.slice (some ⟨g, o, none⟩) b c) v := by
  refine sat_run ?_;go_simp;(try go_bits);try simp [h]
def CRet (w : World) (p : Int) (r : (Int × Int) ⊕ (List Int × Int)) (e : Ending) (w' : World) : Prop := Below w.heap.size w w' ∧ ((∃ x a, r = .inl (x, a) ∧ (x = 1 ∨ x = 2 ∨ x = 3 ∨ x = 4) ∧ e = .returned (.tuple #[.slice none 0 0, .int .i64 p, faultV a x])) ∨ ∃ l nx g, r = .inr (l, nx) ∧ e = .returned (.tuple #[.slice (some ⟨g, 0, none⟩) l.length l.length, .int .i64 nx, .nilIface]) ∧ HoldI w' g l ∧ w.heap.size ≤ g ∧ g < w'.heap.size)
def gtC (s : ByteArray) (p N v : Int) : (Int × Int) ⊕ (List Int × Int) := if (cnt s p N).2.2.1 = 0 then gtF s N (cnt s p N).1.toNat true v (cnt s p N).2.1 else .inl ((cnt s p N).2.2.1, (cnt s p N).2.2.2)
theorem cntC_bad {s : ByteArray} {p N x nx e a : Int} (h : cnt s p N = (x, nx, e, a)) (he : e ≠ 0) : x = 0 ∧ nx = p ∧ (e = 1 ∨ e = 2 ∨ e = 3 ∨ e = 4) := by
  unfold cnt at h
  split at h
  · simp only [Prod.mk.injEq] at h;obtain ⟨rfl, rfl, rfl, rfl⟩ := h;exact ⟨rfl, rfl, .inr (.inr (.inr rfl))⟩
  · obtain ⟨h1, h2, h3⟩ := rdG_bad h he;exact ⟨h1, h2, by rcases h3 with e | e | e <;> simp [e]⟩
theorem set_done (done : List Int) (t : Int) (k : Nat) : (done ++ List.replicate (k + 1) 0).set done.length t = done ++ [t] ++ List.replicate k 0 := by
  rw [List.set_append_right _ _ (Nat.le_refl _), Nat.sub_self, List.replicate_succ, List.set_cons_zero];simp
theorem nt_done (done : List Int) (x : List Int) (k : Nat) (h : k < done.length) : nt (done ++ x) k = nt done k := by
  rw [nt_at _ _ (by simp; omega), nt_at _ _ h, List.getElem_append_left h]
theorem nt_last (done : List Int) (y : Int) : nt (done ++ [y]) done.length = y := by
  rw [nt_at _ _ (by simp)]; simp
set_option maxRecDepth 100000 in
set_option maxHeartbeats 2000000 in
theorem gGet_any (s : ByteArray) (p N v : Int) (w : World) (hs : s.size ≤ maxLen) (hN : N ≤ 4096) (hv0 : 0 ≤ v) (hv1 : v < N) :
    Calls Tryz.prog 36 #[.string s, .int .i64 p, .int .i64 N, .int .i64 v] w (CRet w p (gtC s p N v)) := by
  refine Kn.calls Tryz.func36 rfl Tryz.ntmps36 rfl (.cons (t := 0) rfl (.cons (t := 1) rfl (.cons (t := 2) rfl (.cons (t := 3) rfl .nil)))) fun fa0 fh0 => ?_;refine wp_seq_k fun K1 hK1 => ?_;refine wp_region_lit ?_;refine Kn.pure fh0 rfl rfl .none (Kn.ex_assign fh0 .const) fun fa1 fh1 => ?_;clear fh0 fa0;refine Kn.pure fh1 rfl rfl .none (Kn.ex_assign fh1 .const) fun fa2 fh2 => ?_;clear fh1 fa1;refine Kn.pure fh2 rfl rfl .none (Kn.ex_assign fh2 .const) fun fa3 fh3 => ?_;clear fh2 fa2;refine wpList_nil ?_;refine hK1 _ _ ?_;clear hK1 K1;have hc := check_ok N v w (by omega) hN hv0 hv1;have hcn := gcount_g s p N w hs (by omega) hN;rcases hg : cnt s p N with ⟨x, nx, e, a⟩;rw [hg] at hcn;simp only at hcn;refine wp_seq_k fun K2 hK2 => ?_;refine wp_seq_k fun K3 hK3 => ?_;refine wp_region_lit ?_;refine Kn.pure fh3 rfl rfl .none (Kn.ex_move fh3 (.tmp rfl)) fun fa4 fh4 => ?_;clear fh3 fa3;refine Kn.pure fh4 rfl rfl .none (Kn.ex_move fh4 (.tmp rfl)) fun fa5 fh5 => ?_;clear fh4 fa4;refine Kn.call fh5 rfl rfl .none (Kn.ex_call fh5 (.cons (.tmp rfl) (.cons (.tmp rfl) .nil))) Tryz.call57 (hc) fun e w1 hp => ?_;obtain ⟨rfl, rfl⟩ := hp;refine ⟨_, rfl, fun fa6 fh6 => ?_⟩;clear fh5 fa5;refine Kn.pure fh6 rfl rfl .none (Kn.ex_assign fh6 (.tmp rfl)) fun fa7 fh7 => ?_;clear fh6 fa6;refine wpList_nil ?_;refine hK3 _ _ ?_;clear hK3 K3;replace fh7 := fh7.cut (.cons (t := 11) rfl (.cons (t := 10) rfl (.cons (t := 9) rfl (.cons (t := 8) rfl (.cons (t := 0) rfl (.cons (t := 1) rfl (.cons (t := 2) rfl (.cons (t := 3) rfl .nil))))))));clear hc;refine wp_seq_k fun K4 hK4 => ?_;refine wp_region_lit ?_;refine Kn.pure fh7 rfl rfl .none (Kn.ex_move fh7 (.tmp rfl)) fun fa8 fh8 => ?_;clear fh7 fa7;refine Kn.step fh8 rfl rfl .none (Kn.ex_bin fh8 (.tmp rfl) .const) fun Ko hKo => ?_;go_simp;(try go_bits);refine hKo _ _ fun fa9 fh9 => ?_;clear hKo Ko fh8 fa8;refine wpList_nil ?_;refine hK4 _ _ ?_;clear hK4 K4;replace fh9 := fh9.cut (.cons (t := 24) rfl (.cons (t := 11) rfl (.cons (t := 10) rfl (.cons (t := 9) rfl (.cons (t := 8) rfl (.cons (t := 0) rfl (.cons (t := 1) rfl (.cons (t := 2) rfl (.cons (t := 3) rfl .nil)))))))));refine Kn.no fh9 (.tmp rfl) ?_;refine wp_skip ?_;refine hK2 _ _ ?_;clear hK2 K2;replace fh9 := fh9.cut (.cons (t := 10) rfl (.cons (t := 9) rfl (.cons (t := 8) rfl (.cons (t := 0) rfl (.cons (t := 1) rfl (.cons (t := 2) rfl (.cons (t := 3) rfl .nil)))))))
  by_cases he : e = 0
  · subst he;rw [gE_0] at hcn;obtain ⟨hx0, hxN⟩ := cntC_ok hg;obtain ⟨⟨hx1, -⟩, hp0, hpn, hns, rfl, -⟩ := rdG_ok hx0;obtain ⟨X, rfl⟩ := Int.eq_ofNat_of_zero_le hx1;have HR : Hid (gtC s p N v = gtF s N X true v nx) := Lib.hid (by unfold gtC; rw [hg]; simp);have hX : X ≤ 4096 := by omega
    clear hg hx0 hxN hx1;refine wp_seq_k fun K5 hK5 => ?_;refine wp_region_lit ?_;refine Kn.pure fh9 rfl rfl .none (Kn.ex_move fh9 (.tmp rfl)) fun fa10 fh10 => ?_;clear fh9 fa9;refine Kn.pure fh10 rfl rfl .none (Kn.ex_move fh10 (.tmp rfl)) fun fa11 fh11 => ?_;clear fh10 fa10;refine Kn.pure fh11 rfl rfl .none (Kn.ex_move fh11 (.tmp rfl)) fun fa12 fh12 => ?_;clear fh11 fa11;refine Kn.call fh12 rfl rfl .none (Kn.ex_call fh12 (.cons (.tmp rfl) (.cons (.tmp rfl) (.cons (.tmp rfl) .nil)))) Tryz.call59 (hcn) fun e w1 hp => ?_;obtain ⟨rfl, rfl⟩ := hp;refine ⟨_, rfl, fun fa13 fh13 => ?_⟩;clear fh12 fa12;refine Kn.pure fh13 rfl rfl .none (Kn.ex_move fh13 (.tmp rfl)) fun fa14 fh14 => ?_;clear fh13 fa13;refine Kn.pure fh14 rfl rfl .none (Kn.ex_extract fh14 (.tmp rfl) rfl) fun fa15 fh15 => ?_;clear fh14 fa14;refine Kn.pure fh15 rfl rfl .none (Kn.ex_extract fh15 (.tmp rfl) rfl) fun fa16 fh16 => ?_;clear fh15 fa15;refine Kn.pure fh16 rfl rfl .none (Kn.ex_extract fh16 (.tmp rfl) rfl) fun fa17 fh17 => ?_;clear fh16 fa16;refine Kn.pure fh17 rfl rfl .none (Kn.ex_assign fh17 (.tmp rfl)) fun fa18 fh18 => ?_;clear fh17 fa17;refine Kn.pure fh18 rfl rfl .none (Kn.ex_assign fh18 (.tmp rfl)) fun fa19 fh19 => ?_;clear fh18 fa18;refine Kn.pure fh19 rfl rfl .none (Kn.ex_assign fh19 (.tmp rfl)) fun fa20 fh20 => ?_;clear fh19 fa19;refine wpList_nil ?_;refine hK5 _ _ ?_;clear hK5 K5;replace fh20 := fh20.cut (.cons (t := 14) rfl (.cons (t := 13) rfl (.cons (t := 12) rfl (.cons (t := 10) rfl (.cons (t := 9) rfl (.cons (t := 8) rfl (.cons (t := 0) rfl (.cons (t := 1) rfl (.cons (t := 2) rfl (.cons (t := 3) rfl .nil))))))))));clear hcn;refine wp_seq_k fun K6 hK6 => ?_;refine wp_seq_k fun K7 hK7 => ?_;refine wp_region_lit ?_;refine Kn.pure fh20 rfl rfl .none (Kn.ex_move fh20 (.tmp rfl)) fun fa21 fh21 => ?_;clear fh20 fa20;refine Kn.step fh21 rfl rfl .none (Kn.ex_bin fh21 (.tmp rfl) .const) fun Ko hKo => ?_;go_simp;(try go_bits);refine hKo _ _ fun fa22 fh22 => ?_;clear hKo Ko fh21 fa21;refine wpList_nil ?_;refine hK7 _ _ ?_;clear hK7 K7;replace fh22 := fh22.cut (.cons (t := 38) rfl (.cons (t := 14) rfl (.cons (t := 13) rfl (.cons (t := 12) rfl (.cons (t := 10) rfl (.cons (t := 9) rfl (.cons (t := 8) rfl (.cons (t := 0) rfl (.cons (t := 1) rfl (.cons (t := 2) rfl (.cons (t := 3) rfl .nil)))))))))));refine Kn.no fh22 (.tmp rfl) ?_;refine wp_skip ?_;refine hK6 _ _ ?_;clear hK6 K6;replace fh22 := fh22.cut (.cons (t := 13) rfl (.cons (t := 12) rfl (.cons (t := 10) rfl (.cons (t := 9) rfl (.cons (t := 8) rfl (.cons (t := 0) rfl (.cons (t := 1) rfl (.cons (t := 2) rfl (.cons (t := 3) rfl .nil)))))))));obtain ⟨w2, hmk, hH, hbel, hlt⟩ := makeI w X (by omega);have HH2 : Hid (HoldI w2 w.heap.size ([] ++ List.replicate X 0)) := Lib.hid hH;have HB2 := Lib.hid hbel;have HL2 := Lib.hid hlt;clear hH hbel hlt;refine wp_seq_k fun K8 hK8 => ?_;refine wp_region_lit ?_;refine Kn.pure fh22 rfl rfl .none (Kn.ex_move fh22 (.tmp rfl)) fun fa23 fh23 => ?_;clear fh22 fa22;refine Kn.known fh23 rfl rfl .none (Kn.ex_makeSlice fh23 (.tmp rfl) (.tmp rfl)) hmk fun fa24 fh24 => ?_;clear fh23 fa23;refine Kn.pure fh24 rfl rfl .none (Kn.ex_assign fh24 (.tmp rfl)) fun fa25 fh25 => ?_;clear fh24 fa24;refine wpList_nil ?_;refine hK8 _ _ ?_;clear hK8 K8;replace fh25 := fh25.cut (.cons (t := 15) rfl (.cons (t := 13) rfl (.cons (t := 12) rfl (.cons (t := 10) rfl (.cons (t := 9) rfl (.cons (t := 8) rfl (.cons (t := 0) rfl (.cons (t := 1) rfl (.cons (t := 2) rfl (.cons (t := 3) rfl .nil))))))))));clear hmk;refine wp_seq_k fun K9 hK9 => ?_;refine wp_seq_k fun K10 hK10 => ?_;refine wp_region_lit ?_;refine Kn.pure fh25 rfl rfl .none (Kn.ex_move fh25 (.tmp rfl)) fun fa26 fh26 => ?_;clear fh25 fa25;refine Kn.pure fh26 rfl rfl .none (Kn.ex_move fh26 .const) fun fa27 fh27 => ?_;clear fh26 fa26;refine wpList_nil ?_;refine hK10 _ _ ?_;clear hK10 K10;replace fh27 := fh27.cut (.cons (t := 44) rfl (.cons (t := 43) rfl (.cons (t := 15) rfl (.cons (t := 13) rfl (.cons (t := 10) rfl (.cons (t := 9) rfl (.cons (t := 8) rfl (.cons (t := 0) rfl (.cons (t := 1) rfl (.cons (t := 2) rfl (.cons (t := 3) rfl .nil)))))))))));refine wp_block ?_;refine Kn.loop (fun m fr u => ∃ (i k : Nat) (n1 now : Int) (done : List Int), Kn.Kn 78 [(44, .int .i64 (i : Int)), (43, .int .i64 (X : Int)), (13, .int .i64 n1), (15, .slice (some ⟨w.heap.size, 0, none⟩) X X), (0, .string s), (1, .int .i64 p), (2, .int .i64 N), (3, .int .i64 v)] fr ∧ k ≤ m ∧ i + k = X ∧ (0 ≤ now ∧ now < N) ∧ Hid (done.length = i) ∧ Hid (0 < i → nt done (i - 1) = now) ∧ Hid (i = 0 → now = v) ∧ Hid (GotYet s N k (decide (i = 0)) now n1 done (gtC s p N v)) ∧ Hid (HoldI u w.heap.size (done ++ List.replicate k 0)) ∧ Hid (Below w.heap.size w u) ∧ Hid (w.heap.size < u.heap.size)) X ⟨0, X, nx, v, [], fh27.cut (.turn (t := 44) rfl rfl (.cons (t := 43) rfl (.cons (t := 13) rfl (.cons (t := 15) rfl (.cons (t := 0) rfl (.cons (t := 1) rfl (.cons (t := 2) rfl (.cons (t := 3) rfl .nil)))))))), Nat.le_refl _, by omega, ⟨hv0, hv1⟩, Lib.hid rfl, Lib.hid (fun h => absurd h (by decide)), Lib.hid (fun _ => rfl), Lib.hid (by rw [HR.out]; exact GotYet.start), HH2, HB2, HL2⟩ ?_;clear fh27 fa27;intro m11 fa28 u hI Kl11 hKl11;obtain ⟨i, k, n1, now, done, fh28, hkm, hik, hnow, HDl, HLa, HV0, HT, HH, HB, HL⟩ := hI;clear HH2 HB2 HL2;rcases k with _ | k
    · obtain rfl : i = X := by omega
      have HF : Hid (gtC s p N v = .inr (done, n1)) := Lib.hid HT.out.done;have HE : Hid (done.length = i) := HDl;refine wp_seq_k fun K12 hK12 => ?_;refine wp_region_lit ?_;refine Kn.step fh28 rfl rfl .none (Kn.ex_bin fh28 (.tmp rfl) (.tmp rfl)) fun Ko hKo => ?_;go_simp;(try go_bits);refine hKo _ _ fun fa29 fh29 => ?_;clear hKo Ko fh28 fa28;refine wpList_nil ?_;refine hK12 _ _ ?_;clear hK12 K12;refine wp_seq_k fun K13 hK13 => ?_;refine Kn.no fh29 (.tmp rfl) ?_;replace fh29 := fh29.cut (.cons (t := 44) rfl (.cons (t := 43) rfl (.cons (t := 13) rfl (.cons (t := 15) rfl (.cons (t := 0) rfl (.cons (t := 1) rfl (.cons (t := 2) rfl (.cons (t := 3) rfl .nil))))))));refine wp_exit ?_;refine Kn.then_exit ?_;clear hK13 K13;refine Kn.then_exit ?_;clear hKl11 Kl11;refine Kn.block_exit ?_;refine hK9 _ _ ?_;clear hK9 K9;replace fh29 := fh29.cut (.cons (t := 13) rfl (.cons (t := 15) rfl .nil));refine wp_seq_k fun K14 hK14 => ?_;refine wp_region_lit ?_;refine Kn.pure fh29 rfl rfl .none (Kn.ex_move fh29 (.tmp rfl)) fun fa30 fh30 => ?_;clear fh29 fa29;refine Kn.pure fh30 rfl rfl .none (Kn.ex_move fh30 (.tmp rfl)) fun fa31 fh31 => ?_;clear fh30 fa30;refine Kn.pure fh31 rfl rfl .none (Kn.ex_assign fh31 (.tmp rfl)) fun fa32 fh32 => ?_;clear fh31 fa31;refine Kn.pure fh32 rfl rfl .none (Kn.ex_assign fh32 (.tmp rfl)) fun fa33 fh33 => ?_;clear fh32 fa32;refine Kn.pure fh33 rfl rfl .none (Kn.ex_assign fh33 .const) fun fa34 fh34 => ?_;clear fh33 fa33;refine wpList_nil ?_;refine hK14 _ _ ?_;clear hK14 K14;replace fh34 := fh34.cut (.cons (t := 10) rfl (.cons (t := 9) rfl (.cons (t := 8) rfl .nil)));refine wp_ret ?_;exact Kn.ret3 fh34 rfl rfl rfl rfl ⟨HB.out, .inr ⟨done, n1, w.heap.size, HF.out, by rw [HE.out], by have := HH.out; rwa [List.replicate_zero, List.append_nil] at this, Nat.le_refl _, HL.out⟩⟩
    have hlt : i < X := by omega
    have hsl := sliceH0 w.heap.size 0 X X i u (by omega) (by omega);obtain ⟨t, ht⟩ : ∃ t, (if decide (i = 0) = true then now + bkI (rdG s n1).1 else now + (rdG s n1).1 + 1) = t := ⟨_, rfl⟩
    have hst : Calls Tryz.prog 60 #[.string s, .int .i64 n1, .int .i64 v, .slice (some ⟨w.heap.size, 0, none⟩) i X] u fun e w' => e = .returned (.tuple #[.int .i64 t, .int .i64 (rdG s n1).2.1, gE (rdG s n1).2.2.1 (rdG s n1).2.2.2]) ∧ u = w' := by
      by_cases hi0 : i = 0
      · subst hi0;have hv := HV0.out rfl;rw [← ht, hv];simp only [decide_true, if_true];exact step_first s n1 v (some ⟨w.heap.size, 0, none⟩) X u hs hv0 (by omega)
      · rw [← ht, decide_eq_false hi0];simp only [Bool.false_eq_true, if_false];refine step_next s n1 v now w.heap.size 0 i X u hs (by omega) (by omega) hnow.1 (by omega) ?_;have h1 := (HH.out (i - 1) (by have := HDl.out; rw [List.length_append]; omega)).1;rw [nt_done _ _ _ (by have := HDl.out; omega), HLa.out (by omega)] at h1;rw [Nat.zero_add];exact h1
    rcases hg : rdG s n1 with ⟨y, n2, e2, a2⟩;rw [hg] at hst;simp only at hst
    have hyb : 0 ≤ y ∧ y ≤ 72057594037927935 := by
      by_cases he : e2 = 0
      · subst he; exact (rdG_ok hg).1
      · have := (rdG_bad hg he).1; omega
    rw [hg] at ht;simp only at ht
    have htb : -72057594037927936 ≤ t ∧ t ≤ 72057594037932033 := by
      rw [← ht]
      split
      · unfold bkI; split <;> omega
      · omega
    have HG := Lib.hid hg;have HY := Lib.hid ht;clear hg ht hyb
    by_cases he : e2 = 0
    · subst he;rw [gE_0] at hst;refine wp_seq_k fun K12 hK12 => ?_;refine wp_region_lit ?_;refine Kn.step fh28 rfl rfl .none (Kn.ex_bin fh28 (.tmp rfl) (.tmp rfl)) fun Ko hKo => ?_;go_simp;(try go_bits);refine hKo _ _ fun fa29 fh29 => ?_;clear hKo Ko fh28 fa28;refine wpList_nil ?_;refine hK12 _ _ ?_;clear hK12 K12;refine wp_seq_k fun K13 hK13 => ?_;refine Kn.yes fh29 (.tmp rfl) ?_;refine wp_skip ?_;refine hK13 _ _ ?_;clear hK13 K13;replace fh29 := fh29.cut (.cons (t := 44) rfl (.cons (t := 43) rfl (.cons (t := 13) rfl (.cons (t := 15) rfl (.cons (t := 0) rfl (.cons (t := 1) rfl (.cons (t := 2) rfl (.cons (t := 3) rfl .nil))))))));refine wp_seq_k fun K14 hK14 => ?_;refine wp_block ?_;refine wp_seq_k fun K15 hK15 => ?_;refine wp_region_lit ?_;refine Kn.pure fh29 rfl rfl .none (Kn.ex_move fh29 (.tmp rfl)) fun fa30 fh30 => ?_;clear fh29 fa29;refine Kn.pure fh30 rfl rfl .none (Kn.ex_assign fh30 (.tmp rfl)) fun fa31 fh31 => ?_;clear fh30 fa30;refine wpList_nil ?_;refine hK15 _ _ ?_;clear hK15 K15;replace fh31 := fh31.cut (.cons (t := 16) rfl (.cons (t := 44) rfl (.cons (t := 43) rfl (.cons (t := 13) rfl (.cons (t := 15) rfl (.cons (t := 0) rfl (.cons (t := 1) rfl (.cons (t := 2) rfl (.cons (t := 3) rfl .nil)))))))));refine wp_seq_k fun K16 hK16 => ?_;refine wp_region_lit ?_;refine Kn.pure fh31 rfl rfl .none (Kn.ex_move fh31 (.tmp rfl)) fun fa32 fh32 => ?_;clear fh31 fa31;refine Kn.pure fh32 rfl rfl .none (Kn.ex_move fh32 (.tmp rfl)) fun fa33 fh33 => ?_;clear fh32 fa32;refine Kn.pure fh33 rfl rfl .none (Kn.ex_move fh33 (.tmp rfl)) fun fa34 fh34 => ?_;clear fh33 fa33;refine Kn.pure fh34 rfl rfl .none (Kn.ex_move fh34 (.tmp rfl)) fun fa35 fh35 => ?_;clear fh34 fa34;refine Kn.pure fh35 rfl rfl .none (Kn.ex_move fh35 (.tmp rfl)) fun fa36 fh36 => ?_;clear fh35 fa35;refine Kn.known fh36 rfl rfl .none (Kn.ex_sliceH fh36 (.tmp rfl) (.tmp rfl)) hsl fun fa37 fh37 => ?_;clear fh36 fa36;refine Kn.call fh37 rfl rfl .none (Kn.ex_call fh37 (.cons (.tmp rfl) (.cons (.tmp rfl) (.cons (.tmp rfl) (.cons (.tmp rfl) .nil))))) Tryz.call60 (hst) fun e w3 hp => ?_;obtain ⟨rfl, rfl⟩ := hp;refine ⟨_, rfl, fun fa38 fh38 => ?_⟩;clear fh37 fa37;refine Kn.pure fh38 rfl rfl .none (Kn.ex_move fh38 (.tmp rfl)) fun fa39 fh39 => ?_;clear fh38 fa38;refine Kn.pure fh39 rfl rfl .none (Kn.ex_extract fh39 (.tmp rfl) rfl) fun fa40 fh40 => ?_;clear fh39 fa39;refine Kn.pure fh40 rfl rfl .none (Kn.ex_extract fh40 (.tmp rfl) rfl) fun fa41 fh41 => ?_;clear fh40 fa40;refine Kn.pure fh41 rfl rfl .none (Kn.ex_extract fh41 (.tmp rfl) rfl) fun fa42 fh42 => ?_;clear fh41 fa41;refine Kn.pure fh42 rfl rfl .none (Kn.ex_assign fh42 (.tmp rfl)) fun fa43 fh43 => ?_;clear fh42 fa42;refine Kn.pure fh43 rfl rfl .none (Kn.ex_assign fh43 (.tmp rfl)) fun fa44 fh44 => ?_;clear fh43 fa43;refine Kn.pure fh44 rfl rfl .none (Kn.ex_assign fh44 (.tmp rfl)) fun fa45 fh45 => ?_;clear fh44 fa44;refine wpList_nil ?_;refine hK16 _ _ ?_;clear hK16 K16;replace fh45 := fh45.cut (.cons (t := 19) rfl (.cons (t := 18) rfl (.cons (t := 17) rfl (.cons (t := 16) rfl (.cons (t := 44) rfl (.cons (t := 43) rfl (.cons (t := 13) rfl (.cons (t := 15) rfl (.cons (t := 0) rfl (.cons (t := 1) rfl (.cons (t := 2) rfl (.cons (t := 3) rfl .nil))))))))))));clear hst hsl;refine wp_seq_k fun K17 hK17 => ?_;refine wp_seq_k fun K18 hK18 => ?_;refine wp_region_lit ?_;refine Kn.pure fh45 rfl rfl .none (Kn.ex_move fh45 (.tmp rfl)) fun fa46 fh46 => ?_;clear fh45 fa45;refine Kn.step fh46 rfl rfl .none (Kn.ex_bin fh46 (.tmp rfl) .const) fun Ko hKo => ?_;go_simp;(try go_bits);refine hKo _ _ fun fa47 fh47 => ?_;clear hKo Ko fh46 fa46;refine wpList_nil ?_;refine hK18 _ _ ?_;clear hK18 K18;replace fh47 := fh47.cut (.cons (t := 59) rfl (.cons (t := 19) rfl (.cons (t := 18) rfl (.cons (t := 17) rfl (.cons (t := 16) rfl (.cons (t := 44) rfl (.cons (t := 43) rfl (.cons (t := 13) rfl (.cons (t := 15) rfl (.cons (t := 0) rfl (.cons (t := 1) rfl (.cons (t := 2) rfl (.cons (t := 3) rfl .nil)))))))))))));refine Kn.no fh47 (.tmp rfl) ?_;refine wp_skip ?_;refine hK17 _ _ ?_;clear hK17 K17;replace fh47 := fh47.cut (.cons (t := 18) rfl (.cons (t := 17) rfl (.cons (t := 16) rfl (.cons (t := 44) rfl (.cons (t := 43) rfl (.cons (t := 13) rfl (.cons (t := 15) rfl (.cons (t := 0) rfl (.cons (t := 1) rfl (.cons (t := 2) rfl (.cons (t := 3) rfl .nil)))))))))));have hn := isNode_any N t u
      by_cases htn : t < 0 ∨ N ≤ t
      · rw [nodeB_no htn] at hn;have hf := gfault_any n1 72 (.int .i64 4) u;unfold flt at hf;have HF : Hid (gtC s p N v = .inl (4, n1)) := Lib.hid (HT.out.out HG.out (by rw [HY.out]; exact htn));clear htn;refine wp_seq_k fun K19 hK19 => ?_;refine wp_seq_k fun K20 hK20 => ?_;refine wp_region_lit ?_;refine Kn.pure fh47 rfl rfl .none (Kn.ex_move fh47 (.tmp rfl)) fun fa48 fh48 => ?_;clear fh47 fa47;refine Kn.pure fh48 rfl rfl .none (Kn.ex_move fh48 (.tmp rfl)) fun fa49 fh49 => ?_;clear fh48 fa48;refine Kn.call fh49 rfl rfl .none (Kn.ex_call fh49 (.cons (.tmp rfl) (.cons (.tmp rfl) .nil))) Tryz.call61 (hn) fun e w3 hp => ?_;obtain ⟨rfl, rfl⟩ := hp;refine ⟨_, rfl, fun fa50 fh50 => ?_⟩;clear fh49 fa49;refine Kn.step fh50 rfl rfl .none (Kn.ex_un fh50 (.tmp rfl)) fun Ko hKo => ?_;go_simp;(try go_bits);refine hKo _ _ fun fa51 fh51 => ?_;clear hKo Ko fh50 fa50;refine wpList_nil ?_;refine hK20 _ _ ?_;clear hK20 K20;replace fh51 := fh51.cut (.cons (t := 65) rfl (.cons (t := 18) rfl (.cons (t := 17) rfl (.cons (t := 16) rfl (.cons (t := 44) rfl (.cons (t := 43) rfl (.cons (t := 13) rfl (.cons (t := 15) rfl (.cons (t := 0) rfl (.cons (t := 1) rfl (.cons (t := 2) rfl (.cons (t := 3) rfl .nil))))))))))));refine Kn.yes fh51 (.tmp rfl) ?_;replace fh51 := fh51.cut (.cons (t := 18) rfl (.cons (t := 17) rfl (.cons (t := 16) rfl (.cons (t := 44) rfl (.cons (t := 43) rfl (.cons (t := 13) rfl (.cons (t := 15) rfl (.cons (t := 0) rfl (.cons (t := 1) rfl (.cons (t := 2) rfl (.cons (t := 3) rfl .nil)))))))))));refine wp_seq_k fun K21 hK21 => ?_;refine wp_region_lit ?_;refine Kn.pure fh51 rfl rfl .none (Kn.ex_move fh51 (.tmp rfl)) fun fa52 fh52 => ?_;clear fh51 fa51;refine Kn.pure fh52 rfl rfl .none (Kn.ex_move fh52 (.tmp rfl)) fun fa53 fh53 => ?_;clear fh52 fa52;refine Kn.step fh53 rfl rfl .none (Kn.ex_makeInterface fh53 .const) fun Ko hKo => ?_;go_simp;(try go_bits);refine hKo _ _ fun fa54 fh54 => ?_;clear hKo Ko fh53 fa53;refine Kn.call fh54 rfl rfl .none (Kn.ex_call fh54 (.cons (.tmp rfl) (.cons (.tmp rfl) .nil))) Tryz.call58 (hf) fun e w3 hp => ?_;obtain ⟨rfl, rfl⟩ := hp;refine ⟨_, rfl, fun fa55 fh55 => ?_⟩;clear fh54 fa54;refine Kn.pure fh55 rfl rfl .none (Kn.ex_assign fh55 .const) fun fa56 fh56 => ?_;clear fh55 fa55;refine Kn.pure fh56 rfl rfl .none (Kn.ex_assign fh56 (.tmp rfl)) fun fa57 fh57 => ?_;clear fh56 fa56;refine Kn.pure fh57 rfl rfl .none (Kn.ex_assign fh57 (.tmp rfl)) fun fa58 fh58 => ?_;clear fh57 fa57;refine wpList_nil ?_;refine hK21 _ _ ?_;clear hK21 K21;replace fh58 := fh58.cut (.cons (t := 10) rfl (.cons (t := 9) rfl (.cons (t := 8) rfl (.cons (t := 18) rfl (.cons (t := 17) rfl (.cons (t := 16) rfl (.cons (t := 44) rfl (.cons (t := 43) rfl (.cons (t := 13) rfl (.cons (t := 15) rfl (.cons (t := 0) rfl (.cons (t := 1) rfl (.cons (t := 2) rfl (.cons (t := 3) rfl .nil))))))))))))));refine wp_ret ?_;refine Kn.then_ret ?_;refine Kn.block_ret ?_;refine Kn.then_ret ?_;refine Kn.then_ret ?_;refine Kn.block_ret ?_;refine Kn.then_ret ?_;exact Kn.ret3 fh58 rfl rfl rfl rfl ⟨HB.out, .inl ⟨4, n1, HF.out, .inr (.inr (.inr rfl)), rfl⟩⟩
      rw [nodeB_yes (by omega) (by omega)] at hn;have htr : 0 ≤ t ∧ t < N := by omega
      have HT2 : Hid (GotYet s N k (decide (i + 1 = 0)) t n2 (done ++ [t]) (gtC s p N v)) := Lib.hid (by rw [decide_eq_false (by omega)]; exact HT.out.next HG.out t HY.out htn);obtain ⟨u2, hstore, hH2, -, hsz, hbel⟩ := HH.out.store i (by have := HDl.out; rw [List.length_append, List.length_replicate]; omega) t
      have HH2 : Hid (HoldI u2 w.heap.size (done ++ [t] ++ List.replicate k 0)) := Lib.hid (by
        have e := set_done done t k;rw [HDl.out] at e;rw [← e]
        exact hH2)
      have HB2 := Lib.hid (HB.out.trans (hbel w.heap.size (Nat.le_refl _)));have HL2 : Hid (w.heap.size < u2.heap.size) := Lib.hid (by rw [hsz]; exact HL.out);have HD2 : Hid ((done ++ [t]).length = i + 1) := Lib.hid (by rw [List.length_append, HDl.out]; rfl);have HA2 : Hid (0 < i + 1 → nt (done ++ [t]) (i + 1 - 1) = t) := Lib.hid (fun _ => by rw [show i + 1 - 1 = done.length by rw [HDl.out]; omega]; exact nt_last done t);have HV2 : Hid (i + 1 = 0 → t = v) := Lib.hid (fun h => absurd h (by omega));clear htn hH2 hbel hsz;refine wp_seq_k fun K19 hK19 => ?_;refine wp_seq_k fun K20 hK20 => ?_;refine wp_region_lit ?_;refine Kn.pure fh47 rfl rfl .none (Kn.ex_move fh47 (.tmp rfl)) fun fa48 fh48 => ?_;clear fh47 fa47;refine Kn.pure fh48 rfl rfl .none (Kn.ex_move fh48 (.tmp rfl)) fun fa49 fh49 => ?_;clear fh48 fa48;refine Kn.call fh49 rfl rfl .none (Kn.ex_call fh49 (.cons (.tmp rfl) (.cons (.tmp rfl) .nil))) Tryz.call61 (hn) fun e w3 hp => ?_;obtain ⟨rfl, rfl⟩ := hp;refine ⟨_, rfl, fun fa50 fh50 => ?_⟩;clear fh49 fa49;refine Kn.step fh50 rfl rfl .none (Kn.ex_un fh50 (.tmp rfl)) fun Ko hKo => ?_;go_simp;(try go_bits);refine hKo _ _ fun fa51 fh51 => ?_;clear hKo Ko fh50 fa50;refine wpList_nil ?_;refine hK20 _ _ ?_;clear hK20 K20;replace fh51 := fh51.cut (.cons (t := 65) rfl (.cons (t := 18) rfl (.cons (t := 17) rfl (.cons (t := 16) rfl (.cons (t := 44) rfl (.cons (t := 43) rfl (.cons (t := 13) rfl (.cons (t := 15) rfl (.cons (t := 0) rfl (.cons (t := 1) rfl (.cons (t := 2) rfl (.cons (t := 3) rfl .nil))))))))))));clear hn;refine Kn.no fh51 (.tmp rfl) ?_;refine wp_skip ?_;refine hK19 _ _ ?_;clear hK19 K19;replace fh51 := fh51.cut (.cons (t := 18) rfl (.cons (t := 17) rfl (.cons (t := 16) rfl (.cons (t := 44) rfl (.cons (t := 43) rfl (.cons (t := 13) rfl (.cons (t := 15) rfl (.cons (t := 0) rfl (.cons (t := 1) rfl (.cons (t := 2) rfl (.cons (t := 3) rfl .nil)))))))))));refine wp_region_lit ?_;refine Kn.pure fh51 rfl rfl .none (Kn.ex_move fh51 (.tmp rfl)) fun fa52 fh52 => ?_;clear fh51 fa51;refine Kn.pure fh52 rfl rfl .none (Kn.ex_move fh52 (.tmp rfl)) fun fa53 fh53 => ?_;clear fh52 fa52;refine Kn.pure fh53 rfl rfl .none (Kn.ex_move fh53 (.tmp rfl)) fun fa54 fh54 => ?_;clear fh53 fa53;refine Kn.pure fh54 rfl rfl .none (Kn.ex_move fh54 (.tmp rfl)) fun fa55 fh55 => ?_;clear fh54 fa54;refine Kn.step fh55 rfl rfl .none (Kn.ex_indexAddr fh55 (.tmp rfl) (.tmp rfl)) fun Ko hKo => ?_;go_simp;(try go_bits);refine hKo _ _ fun fa56 fh56 => ?_;clear hKo Ko fh55 fa55;refine Kn.stepU fh56 rfl .none (Kn.ex_store fh56 (.tmp rfl) (.tmp rfl)) fun Ko hKo => ?_;try simp only [Nat.zero_add]
      show Kn.SatU Ko ((Instr.storeAt 3 (.pointer (some ⟨w.heap.size, i, none⟩)) (.int .i64 t)).run Tryz.prog u);rw [hstore];refine hKo _ ?_;clear hKo Ko;refine Kn.pure fh56 rfl rfl .none (Kn.ex_assign fh56 (.tmp rfl)) fun fa57 fh57 => ?_;clear fh56 fa56;refine wpList_nil ?_;refine Kn.block_normal ?_;refine hK14 _ _ ?_;clear hK14 K14;replace fh57 := fh57.cut (.cons (t := 13) rfl (.cons (t := 44) rfl (.cons (t := 43) rfl (.cons (t := 15) rfl (.cons (t := 0) rfl (.cons (t := 1) rfl (.cons (t := 2) rfl (.cons (t := 3) rfl .nil))))))));clear hstore;refine wp_region_lit ?_;refine Kn.step fh57 rfl rfl .none (Kn.ex_bin fh57 (.tmp rfl) .const) fun Ko hKo => ?_;go_simp;(try go_bits);refine hKo _ _ fun fa58 fh58 => ?_;clear hKo Ko fh57 fa57;refine Kn.pure fh58 rfl rfl .none (Kn.ex_move fh58 (.tmp rfl)) fun fa59 fh59 => ?_;clear fh58 fa58;refine wpList_nil ?_;replace fh59 := fh59.cut (.cons (t := 44) rfl (.cons (t := 13) rfl (.cons (t := 43) rfl (.cons (t := 15) rfl (.cons (t := 0) rfl (.cons (t := 1) rfl (.cons (t := 2) rfl (.cons (t := 3) rfl .nil))))))));exact hKl11 (m11 - 1) _ _ (by omega) ⟨i + 1, k, n2, t, _, fh59.cut (.turn (t := 44) rfl (by go_num) (.cons (t := 43) rfl (.cons (t := 13) rfl (.cons (t := 15) rfl (.cons (t := 0) rfl (.cons (t := 1) rfl (.cons (t := 2) rfl (.cons (t := 3) rfl .nil)))))))), by omega, by omega, htr, HD2, HA2, HV2, HT2, HH2, HB2, HL2⟩
    have HE : Hid (gE e2 a2 = .iface 99 (.agg #[.int .i64 a2, .iface 72 (.int .i64 e2)])) := Lib.hid (gE_e he);rw [HE.out] at hst;have HF : Hid (gtC s p N v = .inl (e2, a2)) := Lib.hid (HT.out.bad HG.out he);have HC : Hid (e2 = 1 ∨ e2 = 2 ∨ e2 = 3 ∨ e2 = 4) := Lib.hid (by rcases (rdG_bad HG.out he).2.2 with e | e | e <;> simp [e]);clear he;refine wp_seq_k fun K12 hK12 => ?_;refine wp_region_lit ?_;refine Kn.step fh28 rfl rfl .none (Kn.ex_bin fh28 (.tmp rfl) (.tmp rfl)) fun Ko hKo => ?_;go_simp;(try go_bits);refine hKo _ _ fun fa29 fh29 => ?_;clear hKo Ko fh28 fa28;refine wpList_nil ?_;refine hK12 _ _ ?_;clear hK12 K12;refine wp_seq_k fun K13 hK13 => ?_;refine Kn.yes fh29 (.tmp rfl) ?_;refine wp_skip ?_;refine hK13 _ _ ?_;clear hK13 K13;replace fh29 := fh29.cut (.cons (t := 44) rfl (.cons (t := 43) rfl (.cons (t := 13) rfl (.cons (t := 15) rfl (.cons (t := 0) rfl (.cons (t := 1) rfl (.cons (t := 2) rfl (.cons (t := 3) rfl .nil))))))));refine wp_seq_k fun K14 hK14 => ?_;refine wp_block ?_;refine wp_seq_k fun K15 hK15 => ?_;refine wp_region_lit ?_;refine Kn.pure fh29 rfl rfl .none (Kn.ex_move fh29 (.tmp rfl)) fun fa30 fh30 => ?_;clear fh29 fa29;refine Kn.pure fh30 rfl rfl .none (Kn.ex_assign fh30 (.tmp rfl)) fun fa31 fh31 => ?_;clear fh30 fa30;refine wpList_nil ?_;refine hK15 _ _ ?_;clear hK15 K15;replace fh31 := fh31.cut (.cons (t := 16) rfl (.cons (t := 44) rfl (.cons (t := 43) rfl (.cons (t := 13) rfl (.cons (t := 15) rfl (.cons (t := 0) rfl (.cons (t := 1) rfl (.cons (t := 2) rfl (.cons (t := 3) rfl .nil)))))))));refine wp_seq_k fun K16 hK16 => ?_;refine wp_region_lit ?_;refine Kn.pure fh31 rfl rfl .none (Kn.ex_move fh31 (.tmp rfl)) fun fa32 fh32 => ?_;clear fh31 fa31;refine Kn.pure fh32 rfl rfl .none (Kn.ex_move fh32 (.tmp rfl)) fun fa33 fh33 => ?_;clear fh32 fa32;refine Kn.pure fh33 rfl rfl .none (Kn.ex_move fh33 (.tmp rfl)) fun fa34 fh34 => ?_;clear fh33 fa33;refine Kn.pure fh34 rfl rfl .none (Kn.ex_move fh34 (.tmp rfl)) fun fa35 fh35 => ?_;clear fh34 fa34;refine Kn.pure fh35 rfl rfl .none (Kn.ex_move fh35 (.tmp rfl)) fun fa36 fh36 => ?_;clear fh35 fa35;refine Kn.known fh36 rfl rfl .none (Kn.ex_sliceH fh36 (.tmp rfl) (.tmp rfl)) hsl fun fa37 fh37 => ?_;clear fh36 fa36;refine Kn.call fh37 rfl rfl .none (Kn.ex_call fh37 (.cons (.tmp rfl) (.cons (.tmp rfl) (.cons (.tmp rfl) (.cons (.tmp rfl) .nil))))) Tryz.call60 (hst) fun e w3 hp => ?_;obtain ⟨rfl, rfl⟩ := hp;refine ⟨_, rfl, fun fa38 fh38 => ?_⟩;clear fh37 fa37;refine Kn.pure fh38 rfl rfl .none (Kn.ex_move fh38 (.tmp rfl)) fun fa39 fh39 => ?_;clear fh38 fa38;refine Kn.pure fh39 rfl rfl .none (Kn.ex_extract fh39 (.tmp rfl) rfl) fun fa40 fh40 => ?_;clear fh39 fa39;refine Kn.pure fh40 rfl rfl .none (Kn.ex_extract fh40 (.tmp rfl) rfl) fun fa41 fh41 => ?_;clear fh40 fa40;refine Kn.pure fh41 rfl rfl .none (Kn.ex_extract fh41 (.tmp rfl) rfl) fun fa42 fh42 => ?_;clear fh41 fa41;refine Kn.pure fh42 rfl rfl .none (Kn.ex_assign fh42 (.tmp rfl)) fun fa43 fh43 => ?_;clear fh42 fa42;refine Kn.pure fh43 rfl rfl .none (Kn.ex_assign fh43 (.tmp rfl)) fun fa44 fh44 => ?_;clear fh43 fa43;refine Kn.pure fh44 rfl rfl .none (Kn.ex_assign fh44 (.tmp rfl)) fun fa45 fh45 => ?_;clear fh44 fa44;refine wpList_nil ?_;refine hK16 _ _ ?_;clear hK16 K16;replace fh45 := fh45.cut (.cons (t := 19) rfl (.cons (t := 18) rfl (.cons (t := 17) rfl (.cons (t := 16) rfl (.cons (t := 44) rfl (.cons (t := 43) rfl (.cons (t := 13) rfl (.cons (t := 15) rfl (.cons (t := 0) rfl (.cons (t := 1) rfl (.cons (t := 2) rfl (.cons (t := 3) rfl .nil))))))))))));clear hst hsl;refine wp_seq_k fun K17 hK17 => ?_;refine wp_seq_k fun K18 hK18 => ?_;refine wp_region_lit ?_;refine Kn.pure fh45 rfl rfl .none (Kn.ex_move fh45 (.tmp rfl)) fun fa46 fh46 => ?_;clear fh45 fa45;refine Kn.step fh46 rfl rfl .none (Kn.ex_bin fh46 (.tmp rfl) .const) fun Ko hKo => ?_;go_simp;(try go_bits);refine hKo _ _ fun fa47 fh47 => ?_;clear hKo Ko fh46 fa46;refine wpList_nil ?_;refine hK18 _ _ ?_;clear hK18 K18;replace fh47 := fh47.cut (.cons (t := 59) rfl (.cons (t := 19) rfl (.cons (t := 18) rfl (.cons (t := 17) rfl (.cons (t := 16) rfl (.cons (t := 44) rfl (.cons (t := 43) rfl (.cons (t := 13) rfl (.cons (t := 15) rfl (.cons (t := 0) rfl (.cons (t := 1) rfl (.cons (t := 2) rfl (.cons (t := 3) rfl .nil)))))))))))));refine Kn.yes fh47 (.tmp rfl) ?_;replace fh47 := fh47.cut (.cons (t := 19) rfl (.cons (t := 18) rfl (.cons (t := 17) rfl (.cons (t := 16) rfl (.cons (t := 44) rfl (.cons (t := 43) rfl (.cons (t := 13) rfl (.cons (t := 15) rfl (.cons (t := 0) rfl (.cons (t := 1) rfl (.cons (t := 2) rfl (.cons (t := 3) rfl .nil))))))))))));refine wp_seq_k fun K19 hK19 => ?_;refine wp_region_lit ?_;refine Kn.pure fh47 rfl rfl .none (Kn.ex_move fh47 (.tmp rfl)) fun fa48 fh48 => ?_;clear fh47 fa47;refine Kn.pure fh48 rfl rfl .none (Kn.ex_move fh48 (.tmp rfl)) fun fa49 fh49 => ?_;clear fh48 fa48;refine Kn.pure fh49 rfl rfl .none (Kn.ex_assign fh49 .const) fun fa50 fh50 => ?_;clear fh49 fa49;refine Kn.pure fh50 rfl rfl .none (Kn.ex_assign fh50 (.tmp rfl)) fun fa51 fh51 => ?_;clear fh50 fa50;refine Kn.pure fh51 rfl rfl .none (Kn.ex_assign fh51 (.tmp rfl)) fun fa52 fh52 => ?_;clear fh51 fa51;refine wpList_nil ?_;refine hK19 _ _ ?_;clear hK19 K19;replace fh52 := fh52.cut (.cons (t := 10) rfl (.cons (t := 9) rfl (.cons (t := 8) rfl (.cons (t := 18) rfl (.cons (t := 17) rfl (.cons (t := 16) rfl (.cons (t := 44) rfl (.cons (t := 43) rfl (.cons (t := 13) rfl (.cons (t := 15) rfl (.cons (t := 0) rfl (.cons (t := 1) rfl (.cons (t := 2) rfl (.cons (t := 3) rfl .nil))))))))))))));refine wp_ret ?_;refine Kn.then_ret ?_;refine Kn.block_ret ?_;refine Kn.then_ret ?_;refine Kn.then_ret ?_;refine Kn.block_ret ?_;refine Kn.then_ret ?_;exact Kn.ret3 fh52 rfl rfl rfl rfl ⟨HB.out, .inl ⟨e2, a2, HF.out, HC.out, rfl⟩⟩
  have HE : Hid (gE e a = .iface 99 (.agg #[.int .i64 a, .iface 72 (.int .i64 e)])) := Lib.hid (gE_e he);rw [HE.out] at hcn;have HF : Hid (gtC s p N v = .inl (e, a)) := Lib.hid (by unfold gtC; rw [hg, if_neg he]);have HC : Hid (e = 1 ∨ e = 2 ∨ e = 3 ∨ e = 4) := Lib.hid (cntC_bad hg he).2.2;clear hg he;refine wp_seq_k fun K5 hK5 => ?_;refine wp_region_lit ?_;refine Kn.pure fh9 rfl rfl .none (Kn.ex_move fh9 (.tmp rfl)) fun fa10 fh10 => ?_;clear fh9 fa9;refine Kn.pure fh10 rfl rfl .none (Kn.ex_move fh10 (.tmp rfl)) fun fa11 fh11 => ?_;clear fh10 fa10;refine Kn.pure fh11 rfl rfl .none (Kn.ex_move fh11 (.tmp rfl)) fun fa12 fh12 => ?_;clear fh11 fa11;refine Kn.call fh12 rfl rfl .none (Kn.ex_call fh12 (.cons (.tmp rfl) (.cons (.tmp rfl) (.cons (.tmp rfl) .nil)))) Tryz.call59 (hcn) fun e w1 hp => ?_;obtain ⟨rfl, rfl⟩ := hp;refine ⟨_, rfl, fun fa13 fh13 => ?_⟩;clear fh12 fa12;refine Kn.pure fh13 rfl rfl .none (Kn.ex_move fh13 (.tmp rfl)) fun fa14 fh14 => ?_;clear fh13 fa13;refine Kn.pure fh14 rfl rfl .none (Kn.ex_extract fh14 (.tmp rfl) rfl) fun fa15 fh15 => ?_;clear fh14 fa14;refine Kn.pure fh15 rfl rfl .none (Kn.ex_extract fh15 (.tmp rfl) rfl) fun fa16 fh16 => ?_;clear fh15 fa15;refine Kn.pure fh16 rfl rfl .none (Kn.ex_extract fh16 (.tmp rfl) rfl) fun fa17 fh17 => ?_;clear fh16 fa16;refine Kn.pure fh17 rfl rfl .none (Kn.ex_assign fh17 (.tmp rfl)) fun fa18 fh18 => ?_;clear fh17 fa17;refine Kn.pure fh18 rfl rfl .none (Kn.ex_assign fh18 (.tmp rfl)) fun fa19 fh19 => ?_;clear fh18 fa18;refine Kn.pure fh19 rfl rfl .none (Kn.ex_assign fh19 (.tmp rfl)) fun fa20 fh20 => ?_;clear fh19 fa19;refine wpList_nil ?_;refine hK5 _ _ ?_;clear hK5 K5;replace fh20 := fh20.cut (.cons (t := 14) rfl (.cons (t := 13) rfl (.cons (t := 12) rfl (.cons (t := 10) rfl (.cons (t := 9) rfl (.cons (t := 8) rfl (.cons (t := 0) rfl (.cons (t := 1) rfl (.cons (t := 2) rfl (.cons (t := 3) rfl .nil))))))))));clear hcn;refine wp_seq_k fun K6 hK6 => ?_;refine wp_seq_k fun K7 hK7 => ?_;refine wp_region_lit ?_;refine Kn.pure fh20 rfl rfl .none (Kn.ex_move fh20 (.tmp rfl)) fun fa21 fh21 => ?_;clear fh20 fa20;refine Kn.step fh21 rfl rfl .none (Kn.ex_bin fh21 (.tmp rfl) .const) fun Ko hKo => ?_;go_simp;(try go_bits);refine hKo _ _ fun fa22 fh22 => ?_;clear hKo Ko fh21 fa21;refine wpList_nil ?_;refine hK7 _ _ ?_;clear hK7 K7;replace fh22 := fh22.cut (.cons (t := 38) rfl (.cons (t := 14) rfl (.cons (t := 13) rfl (.cons (t := 12) rfl (.cons (t := 10) rfl (.cons (t := 9) rfl (.cons (t := 8) rfl (.cons (t := 0) rfl (.cons (t := 1) rfl (.cons (t := 2) rfl (.cons (t := 3) rfl .nil)))))))))));refine Kn.yes fh22 (.tmp rfl) ?_;replace fh22 := fh22.cut (.cons (t := 14) rfl (.cons (t := 13) rfl (.cons (t := 12) rfl (.cons (t := 10) rfl (.cons (t := 9) rfl (.cons (t := 8) rfl (.cons (t := 0) rfl (.cons (t := 1) rfl (.cons (t := 2) rfl (.cons (t := 3) rfl .nil))))))))));refine wp_seq_k fun K8 hK8 => ?_;refine wp_region_lit ?_;refine Kn.pure fh22 rfl rfl .none (Kn.ex_move fh22 (.tmp rfl)) fun fa23 fh23 => ?_;clear fh22 fa22;refine Kn.pure fh23 rfl rfl .none (Kn.ex_move fh23 (.tmp rfl)) fun fa24 fh24 => ?_;clear fh23 fa23;refine Kn.pure fh24 rfl rfl .none (Kn.ex_assign fh24 .const) fun fa25 fh25 => ?_;clear fh24 fa24;refine Kn.pure fh25 rfl rfl .none (Kn.ex_assign fh25 (.tmp rfl)) fun fa26 fh26 => ?_;clear fh25 fa25;refine Kn.pure fh26 rfl rfl .none (Kn.ex_assign fh26 (.tmp rfl)) fun fa27 fh27 => ?_;clear fh26 fa26;refine wpList_nil ?_;refine hK8 _ _ ?_;clear hK8 K8;replace fh27 := fh27.cut (.cons (t := 10) rfl (.cons (t := 9) rfl (.cons (t := 8) rfl (.cons (t := 13) rfl (.cons (t := 12) rfl (.cons (t := 0) rfl (.cons (t := 1) rfl (.cons (t := 2) rfl (.cons (t := 3) rfl .nil)))))))));refine wp_ret ?_;refine Kn.then_ret ?_;exact Kn.ret3 fh27 rfl rfl rfl rfl ⟨Below.refl _ _, .inl ⟨e, a, HF.out, HC.out, rfl⟩⟩
end Go.Proofs.YtbcokncfkikalaaGreatDoor.Gap
end
section
namespace Go.Proofs.YtbcokncfkikalaaGreatDoor.Sha
open Go
section
variable {P : Program} {ops : Array Oper} {md : Region.Mode} {w : World}
def sinkFrom (md : Region.Mode) (ops : Array Oper) (m n : Nat) : Bool :=
  (List.range n).all fun i => decide (i < m) || (List.range (n + 1)).any fun j => decide (i < j) && Region.waitsFor md ops j i
theorem waits_from {m n : Nat} {listed : Array Bool} (hs : sinkFrom md ops m n = true) (hc : Region.chainB md ops n = true) (hn : n < ops.size) (inv : HeadInv md ops n listed) :
    ∀ (d i : Nat), n - i = d → m ≤ i → i < n → listed.getD i true = false → ∀ t, n ≤ t → t ∉ Region.ready md ops listed := by
  intro d
  induction d using Nat.strongRecOn with
  | _ d ih =>
    intro i hd hmi hi hun t ht hr;obtain ⟨_, ot, hot, hall⟩ := mem_ready.1 hr;have htlt : t < ops.size := (Array.getElem?_eq_some_iff.1 hot).1;rcases Nat.eq_or_lt_of_le ht with rfl | hgt
    · have h1 := List.all_eq_true.1 hs i (List.mem_range.2 hi);rw [Bool.or_eq_true, decide_eq_true_eq] at h1;obtain ⟨j, hj, hj2⟩ := List.any_eq_true.1 (h1.resolve_left (by omega));rw [Bool.and_eq_true, decide_eq_true_eq] at hj2;obtain ⟨oj, hoj, e, he, hb, hon⟩ := Region.waitsFor_spec hj2.2;have hjle := List.mem_range.1 hj;have hij := hj2.1;rcases Nat.lt_or_ge j n with hjn | hjn
      · cases hl : listed.getD j false with
        | true =>
          have h2 := inv.closed j oj hoj hl e he hb;rw [hon, getD_both hun] at h2;cases h2
        | false => exact ih (n - j) (by omega) j rfl (by omega) hjn (getD_in (by rw [inv.size]; omega) hl) n (Nat.le_refl _) hr
      · obtain rfl : n = j := by omega
        obtain rfl : oj = ot := Option.some.inj (hoj.symm.trans hot);have h2 := hall e he hb;rw [hon, getD_both hun] at h2;cases h2
    · have h1 := List.all_eq_true.1 hc t (List.mem_range.2 htlt);rw [Bool.or_eq_true, decide_eq_true_eq] at h1;obtain ⟨o', ho', e, he, hb, hon⟩ := Region.waitsFor_spec (h1.resolve_left (by omega));obtain rfl : o' = ot := Option.some.inj (ho'.symm.trans hot);have h2 := hall e he hb;rw [hon, getD_both (inv.tail (t - 1) (by omega) (by omega))] at h2;cases h2
theorem first_from {m n i : Nat} {oi : Oper} {v : Value} {L : Array Bool → Act → Prop} (hi : ops[i]? = some oi) (hsel : ∀ (j : Nat) (o : Oper) cs b, ops[j]? = some o → o.op ≠ .select cs b)
    (hs : sinkFrom md ops m n = true) (hc : Region.chainB md ops n = true) (hn : n < ops.size) (hmi : m ≤ i) (hin : i < n)
    (hdone : ∀ listed a, L listed a → ∀ j ∈ Region.ready md ops listed, n ≤ j) :
    ∀ (f : Nat) (listed : Array Bool) (a : Act), HeadInv md ops n listed →
      (∀ j oj, ops[j]? = some oj → j ≠ i → listed.getD j true = false → (∀ e ∈ oj.after, Region.binds md e = true → e.on ≠ i) → oi.apart ops oj = true) →
      i ∈ Region.ready md ops listed → YieldsAt P ops w oi v a →
      wpAnyL P md ops w n L f (listed.setIfInBounds i true) (a.put oi.dst v) → wpAnyL P md ops w n L (f + 1) listed a := by
  intro f
  induction f with
  | zero =>
    intro listed a inv _ hr hy H;have hun := (mem_ready.1 hr).1;refine ⟨fun h => (by rw [h] at hr; cases hr), fun j hj => ?_⟩;have hjn : j < n := Nat.lt_of_not_le fun h => waits_from hs hc hn inv _ i rfl hmi hin hun j h hj;refine ⟨hjn, ?_⟩
    by_cases hji : j = i
    · subst hji; exact hy.stOp hi H
    · have := hdone _ _ H j (ready_mono hj hji);omega
  | succ f ih =>
    intro listed a inv hfree hr hy H;have hun := (mem_ready.1 hr).1;refine ⟨fun h => (by rw [h] at hr; cases hr), fun j hj => ?_⟩;have hjn : j < n := Nat.lt_of_not_le fun h => waits_from hs hc hn inv _ i rfl hmi hin hun j h hj;refine ⟨hjn, ?_⟩
    by_cases hji : j = i
    · subst hji; exact hy.stOp hi H
    · obtain ⟨hjun, oj, hoj, hall⟩ := mem_ready.1 hj
      have hnot : ∀ e ∈ oj.after, Region.binds md e = true → e.on ≠ i := fun e he hb heq => by
        have h1 := hall e he hb;rw [heq, getD_both hun] at h1;cases h1
      have h2 := stOp_put hoj (hfree j oj hoj hji hjun hnot) (fun cs b => hsel i oi cs b hi) (fun cs b => hsel j oj cs b hoj) hy (H.2 j (ready_mono hj hji)).2
      have hfree' : ∀ k ok, ops[k]? = some ok → k ≠ i → (listed.setIfInBounds j true).getD k true = false →
          (∀ e ∈ ok.after, Region.binds md e = true → e.on ≠ i) → oi.apart ops ok = true := fun k ok hk hki hun hno => by
        refine hfree k ok hk hki ?_ hno
        by_cases hjk : j = k
        · subst hjk; exact hjun
        · rw [getD_set_ne true hjk] at hun; exact hun
      refine stOp_mono (fun a' h3 => ih (listed.setIfInBounds j true) a' (inv.set hj hjn) hfree' (ready_mono hr (Ne.symm hji)) h3.1 ?_) h2;rw [Array.setIfInBounds_comm _ _ hji];exact h3.2
theorem lex_from {m n g : Nat} {Lq : Act → Prop} (hsel : Region.noSelect ops = true) (hs : sinkFrom md ops m n = true) (hc : Region.chainB md ops n = true) (hn : n < ops.size) :
    ∀ (l : List Oper) (k : Nat) (listed : Array Bool) (a : Act), m ≤ k → (∀ j, j < l.length → l[j]? = ops[k + j]?) → k + l.length = n → HeadInv md ops n listed →
    Region.lexHead md ops g l.length k listed = true → wpStill P ops w Lq l a →
    wpAnyL P md ops w n (fun listed' a' => Region.seqB md ops g n listed' = true ∧ Lq a') l.length listed a
  | [], k, listed, a, _, _, hk, _, hB, h => by
    obtain rfl : k = n := by simpa using hk
    exact ⟨by simpa [Region.lexHead] using hB, h⟩
  | o :: l, k, listed, a, hmk, hl, hk, inv, hB, h => by
    have h0 : ops[k]? = some o := by simpa using (hl 0 (by simp)).symm
    simp only [List.length_cons, Region.lexHead, Bool.and_eq_true] at hB;obtain ⟨⟨hr, hf⟩, hB'⟩ := hB;rw [List.length_cons] at hk;have hkn : k < n := by omega
    have hr' : k ∈ Region.ready md ops listed := by simpa using hr
    have hst : stOp P ops w k (wpStill P ops w Lq l) a := by unfold stOp; simp only [h0]; exact h
    obtain ⟨v, hy, hK⟩ := yieldsAt_of_stOp h0 hst
    exact first_from h0 (Region.noSelect_spec hsel) hs hc hn hmk hkn (fun listed' a' hL => seqB_ready hL.1) l.length listed a inv (Region.free_spec h0 hf) hr' hy
      (lex_from hsel hs hc hn l (k + 1) _ _ (by omega) (fun j hj => by have := hl (j + 1) (by simp; omega); simpa [Nat.add_assoc, Nat.add_comm 1 j] using this) (by omega) (inv.set hr' hkn) hB' hK)
def pushB (md : Region.Mode) (ops : Array Oper) (n : Nat) : Bool :=
  Region.noSelect ops && decide (1 < n) && decide (n < ops.size) && sinkFrom md ops 1 n && Region.chainB md ops n &&
    Region.free md ops (Array.replicate ops.size false) 0 && (Region.ready md ops (Array.replicate ops.size false)).contains 0 &&
    (match ops[0]? with | some o => o.after.isEmpty && (match o.op with | .move (.tmp _) => true | _ => false) && o.guard.isNone | none => false) &&
    Region.lexHead md ops (ops.size - n) (n - 1) 1 ((Array.replicate ops.size false).setIfInBounds 0 true)
theorem wp_region_push0 {id : Nat} {Q : Exit → Act → World → Prop} {a : Act} {w : World} {o0 : Oper} {l : List Oper} {s : Tmp} (n : Nat) (hm : P.follows .mixedOrders = true) (hB : pushB .any (o0 :: l).toArray n = true) (ho : o0.op = .move (.tmp s)) (hg : o0.guard = none)
    (hQ : ∀ v c b w, Q (.panic c) (b.put o0.dst v) w → Q (.panic c) b w)
    (h : wpStill P (o0 :: l).toArray { w with drawn := w.drawn + 1 } (fun a' => wpList P (o0 :: l).toArray Q (l.drop (n - 1)) a' { w with drawn := w.drawn + 1 }) (l.take (n - 1)) (a.put o0.dst (a.eval (.tmp s)))) : (Code.region id (o0 :: l).toArray true).wp P Q a w := by
  simp only [pushB, Bool.and_eq_true, decide_eq_true_eq] at hB;obtain ⟨⟨⟨⟨⟨⟨⟨⟨hsel, hn1⟩, hn⟩, hs⟩, hc⟩, hfree⟩, hready⟩, hfirst⟩, hlex⟩ := hB;have h0 : (o0 :: l).toArray[0]? = some o0 := by simp
  have hsz : (o0 :: l).toArray.size = l.length + 1 := by simp
  rw [h0] at hfirst;simp only [Bool.and_eq_true] at hfirst;have haft : o0.after = #[] := by simpa using hfirst.1.1
  have hn' : n < l.length + 1 := by rw [← hsz]; exact hn
  have htl : (l.take (n - 1)).length = n - 1 := by rw [List.length_take]; omega
  have hdl : (l.drop (n - 1)).length = (o0 :: l).toArray.size - n := by rw [List.length_drop, hsz]; omega
  have inv : HeadInv .any (o0 :: l).toArray n ((Array.replicate (o0 :: l).toArray.size false).setIfInBounds 0 true) := by
    refine ⟨by simp, fun j oj hj hlj e he hb => ?_, fun t ht ht' => ?_⟩
    · by_cases hj0 : 0 = j
      · subst hj0;obtain rfl : oj = o0 := Option.some.inj (hj.symm.trans h0);rw [haft] at he;simp at he
      · rw [getD_set_ne false hj0, getD_replicate_false] at hlj;cases hlj
    · rw [getD_set_ne true (by omega)];exact getD_in (by simpa using ht') (getD_replicate_false _ _)
  have H := lex_from (md := .any) (g := (o0 :: l).toArray.size - n) hsel hs hc hn (l.take (n - 1)) 1 _ (a.put o0.dst (a.eval (.tmp s))) (Nat.le_refl _) (fun j hj => by
    rw [htl] at hj
    rw [List.getElem?_take_of_lt hj, Nat.add_comm 1 j]; simp) (by rw [htl]; omega) inv (by rw [htl]; exact hlex) h
  have H2 := wpAny_of_head (Q' := Q) (g := (o0 :: l).toArray.size - n) (fun listed a' hL => by
    have := wpAny_of_seq (md := .any) (Q' := Q) (l.drop (n - 1)) n listed a' { w with drawn := w.drawn + 1 } (fun j => by
      rw [List.getElem?_drop, show n + j = (n - 1 + j) + 1 by omega]; simp) (by rw [hdl]; exact hL.1) hL.2
    rwa [hdl] at this) _ _ _ H
  refine wp_region_any hm ?_;have hy : Yields P (o0 :: l).toArray o0 (a.eval (.tmp s)) a := .inl ⟨by simp [Region.wanted, hg], fun w' => by unfold execOp; simp [ho]⟩;have H3 := wpAny_take (md := .any) (Q := Q) h0 hsel hfree hready (hQ _) hy H2;rw [htl, show n - 1 + ((o0 :: l).toArray.size - n) + 1 = (o0 :: l).toArray.size by rw [hsz]; omega] at H3;exact H3
theorem wp_region_push {id : Nat} {Q : Exit → Act → World → Prop} {a : Act} {w : World} {o0 : Oper} {l : List Oper} {s : Tmp} (k : Nat) (hm : P.follows .mixedOrders = true) (hB : pushB .any (o0 :: l).toArray (k + 1) = true) (ho : o0.op = .move (.tmp s)) (hg : o0.guard = none)
    (hQ : ∀ v c b w, Q (.panic c) (b.put o0.dst v) w → Q (.panic c) b w)
    (h : wpStill P (o0 :: l).toArray { w with drawn := w.drawn + 1 } (fun a' => wpList P (o0 :: l).toArray Q (l.drop k) a' { w with drawn := w.drawn + 1 }) (l.take k) (a.put o0.dst (a.eval (.tmp s)))) : (Code.region id (o0 :: l).toArray true).wp P Q a w :=
  wp_region_push0 (k + 1) hm hB ho hg hQ h
end
end Go.Proofs.YtbcokncfkikalaaGreatDoor.Sha
end
section
namespace Go.Proofs.YtbcokncfkikalaaGreatDoor.Kn
open Go Go.Proofs.YtbcokncfkikalaaGreatDoor.Sha
theorem knPush {P : Program} {n : Nat} {l : List (Nat × Value)} {a : Act} {w : World} {Q : Exit → Act → World → Prop} {id : Nat} {o0 : Oper} {rest hd tl : List Oper} {s d : Tmp} {v : Value} (k : Nat) (hm : P.follows .mixedOrders = true) (h : Kn n l a) (hB : pushB .any (o0 :: rest).toArray (k + 1) = true) (ho : o0.op = .move (.tmp s)) (hg : o0.guard = none) (hd0 : o0.dst = some d) (hdn : Nat.blt d n = true)
    (hv : find l s = some v) (hQ : ∀ d v c b w, Q (.panic c) (b.put d v) w → Q (.panic c) b w) (h1 : rest.take k = hd) (h2 : rest.drop k = tl)
    (H : ∀ a', Kn n ((d, v) :: l) a' → wpStill P (o0 :: rest).toArray w.drew (fun a' => wpList P (o0 :: rest).toArray Q tl a' w.drew) hd a') : (Code.region id (o0 :: rest).toArray true).wp P Q a w := by
  subst h1 h2;refine wp_region_push k hm hB ho hg (fun _ _ _ _ => hQ _ _ _ _ _) ?_;rw [hd0, h.get s v hv];exact H _ (h.put hdn v)
end Go.Proofs.YtbcokncfkikalaaGreatDoor.Kn
end
section
namespace Go.Proofs.YtbcokncfkikalaaGreatDoor.Gap
open Go Go.RowKit Go.Lib Oct Num
def bs (l : List UInt8) : ByteArray := ⟨l.toArray⟩
theorem bs_app (a b : List UInt8) : bs a ++ bs b = bs (a ++ b) := by apply ByteArray.ext; simp [bs]
theorem bs_size (l : List UInt8) : (bs l).size = l.length := rfl
theorem putF_len (v : Int) (l : List Int) (hl : l.length < 2 ^ 63) (hb : ∀ k, (turnOf (l.getD 0 0 - v)).toNat < 2 ^ 63 ∧ (l.getD (k + 1) 0 - l.getD k 0 - 1).toNat < 2 ^ 63) : ∀ k, (putF v l k).length ≤ 9 + 9 * k
  | 0 => by rw [putF]; exact short_len9 _ hl
  | 1 => by
    rw [putF, List.length_append];have h1 := short_len9 _ hl;have h2 := short_len9 _ (hb 0).1;omega
  | k + 2 => by
    rw [putF, List.length_append];have h1 := putF_len v l hl hb (k + 1);have h2 := short_len9 _ (hb k).2;omega
theorem turn_nat (x : Int) (h0 : -100000 ≤ x) (h1 : x ≤ 100000) : ∃ t : Nat, turnOf x = (t : Int) ∧ t ≤ 200001 := by
  unfold turnOf;rw [if_pos (by omega)]
  split
  · exact ⟨(-2 * x - 1).toNat, by omega, by omega⟩
  · exact ⟨(2 * x).toNat, by omega, by omega⟩
set_option maxRecDepth 100000 in
set_option maxHeartbeats 2000000 in
theorem refPut_any (v : Int) (A : Option Addr) (ca : Nat) (l : List Int) (w : World) (hl : l.length ≤ 400) (hv0 : 0 ≤ v) (hv1 : v ≤ 4096) (hA : IIn w A l) (hR : ∀ i, i < l.length → 0 ≤ nt l i ∧ nt l i ≤ 4096) (hU : ∀ i, i + 1 < l.length → nt l i < nt l (i + 1)) :
    Calls Tryz.prog 33 #[.int .i64 v, .slice A l.length ca] w fun e w' => e = .returned (.string (bs (putF v l l.length))) ∧ Below w.heap.size w w' := by
  refine Kn.calls Tryz.func33 rfl Tryz.ntmps33 rfl (.cons (t := 0) rfl (.cons (t := 1) rfl .nil)) fun fa0 fh0 => ?_;refine wp_seq_k fun K1 hK1 => ?_;refine wp_region_lit ?_;refine Kn.pure fh0 rfl rfl .none (Kn.ex_assign fh0 .const) fun fa1 fh1 => ?_;clear fh0 fa0;refine wpList_nil ?_;refine hK1 _ _ ?_;clear hK1 K1;have hsh := refShort_any l.length w (by omega);refine wp_seq_k fun K2 hK2 => ?_;refine wp_region_lit ?_;refine Kn.pure fh1 rfl rfl .none (Kn.ex_move fh1 (.tmp rfl)) fun fa2 fh2 => ?_;clear fh1 fa1;refine Kn.step fh2 rfl rfl .none (Kn.ex_len fh2 (.tmp rfl)) fun Ko hKo => ?_;go_simp;(try go_bits);refine hKo _ _ fun fa3 fh3 => ?_;clear hKo Ko fh2 fa2;refine Kn.call fh3 rfl rfl .none (Kn.ex_call fh3 (.cons (.tmp rfl) .nil)) Tryz.call32 (hsh) fun e w1 hp => ?_;obtain ⟨rfl, hb1⟩ := hp;refine ⟨_, rfl, fun fa4 fh4 => ?_⟩;clear fh3 fa3;refine Kn.pure fh4 rfl rfl .none (Kn.ex_assign fh4 (.tmp rfl)) fun fa5 fh5 => ?_;clear fh4 fa4;refine wpList_nil ?_;refine hK2 _ _ ?_;clear hK2 K2;replace fh5 := fh5.cut (.cons (t := 5) rfl (.cons (t := 4) rfl (.cons (t := 0) rfl (.cons (t := 1) rfl .nil))));have HB1 := Lib.hid hb1
  have HLn : Hid (∀ k, (putF v l k).length ≤ 9 + 9 * k) := Lib.hid (putF_len v l (by omega) (fun k => by
    refine ⟨?_, ?_⟩
    · rcases Nat.eq_zero_or_pos l.length with h0 | h0
      · obtain rfl := List.eq_nil_of_length_eq_zero h0;obtain ⟨t, e, ht⟩ := turn_nat (([] : List Int).getD 0 0 - v) (by simp; omega) (by simp; omega);rw [e]; omega
      · have := hR 0 h0;unfold nt at this;obtain ⟨t, e, ht⟩ := turn_nat (l.getD 0 0 - v) (by omega) (by omega);rw [e]; omega
    · rcases Nat.lt_or_ge (k + 1) l.length with h1 | h1
      · have a1 := hR (k + 1) h1;have a2 := hR k (by omega);unfold nt at a1 a2;omega
      · have e : l.getD (k + 1) 0 = 0 := by simp [List.getD, List.getElem?_eq_none h1]
        rw [e];rcases Nat.lt_or_ge k l.length with h2 | h2
        · have a2 := hR k h2;unfold nt at a2;omega
        · have e2 : l.getD k 0 = 0 := by simp [List.getD, List.getElem?_eq_none h2]
          rw [e2]; simp))
  have HA := Lib.hid hA;have HRd := Lib.hid hR;have HUp := Lib.hid hU;clear hb1 hsh hA hR hU;refine wp_seq_k fun K3 hK3 => ?_;refine wp_seq_k fun K4 hK4 => ?_;refine wp_region_lit ?_;refine Kn.pure fh5 rfl rfl .none (Kn.ex_assign fh5 .const) fun fa6 fh6 => ?_;clear fh5 fa5;refine wpList_nil ?_;refine hK4 _ _ ?_;clear hK4 K4;refine wp_block ?_;refine Kn.loop (fun m fr u => ∃ (k : Nat), Kn.Kn 42 [(6, .int .i64 (k : Int)), (5, .string (bs (putF v l k))), (0, .int .i64 v), (1, .slice A l.length ca)] fr ∧ k + m = l.length ∧ Hid (Below w.heap.size w u)) l.length ⟨0, fh6.cut (.turn (t := 6) rfl rfl (.turn (t := 5) rfl rfl (.cons (t := 0) rfl (.cons (t := 1) rfl .nil)))), by omega, HB1⟩ ?_;clear fh6 fa6;intro m5 fa7 u hI Kl5 hKl5;obtain ⟨k, fh7, hk, HB⟩ := hI
  by_cases hlt : k < l.length
  · obtain ⟨S, hS⟩ : ∃ S, bs (putF v l k) = S := ⟨_, rfl⟩;have hSs : S.size ≤ 4000 := by rw [← hS, bs_size]; have := HLn.out k; omega
    rw [hS] at fh7;have HS := Lib.hid hS;clear hS;refine wp_seq_k fun K6 hK6 => ?_;refine wp_seq_k fun K7 hK7 => ?_;refine wp_region_lit ?_;refine Kn.pure fh7 rfl rfl .none (Kn.ex_move fh7 (.tmp rfl)) fun fa8 fh8 => ?_;clear fh7 fa7;refine Kn.pure fh8 rfl rfl .none (Kn.ex_move fh8 (.tmp rfl)) fun fa9 fh9 => ?_;clear fh8 fa8;refine Kn.step fh9 rfl rfl .none (Kn.ex_len fh9 (.tmp rfl)) fun Ko hKo => ?_;go_simp;(try go_bits);refine hKo _ _ fun fa10 fh10 => ?_;clear hKo Ko fh9 fa9;refine Kn.step fh10 rfl rfl .none (Kn.ex_bin fh10 (.tmp rfl) (.tmp rfl)) fun Ko hKo => ?_;go_simp;(try go_bits);refine hKo _ _ fun fa11 fh11 => ?_;clear hKo Ko fh10 fa10;refine wpList_nil ?_;refine hK7 _ _ ?_;clear hK7 K7;replace fh11 := fh11.cut (.cons (t := 13) rfl (.cons (t := 6) rfl (.cons (t := 5) rfl (.cons (t := 0) rfl (.cons (t := 1) rfl .nil)))));refine Kn.yes fh11 (.tmp rfl) ?_;refine wp_skip ?_;refine hK6 _ _ ?_;clear hK6 K6;replace fh11 := fh11.cut (.cons (t := 6) rfl (.cons (t := 5) rfl (.cons (t := 0) rfl (.cons (t := 1) rfl .nil))));refine wp_seq_k fun K8 hK8 => ?_;refine wp_block ?_;rcases k with _ | j
    · obtain ⟨ba, oa, rfl, -, ca1⟩ := (HA.out.on HB.out) 0 hlt;rw [Nat.add_zero] at ca1;obtain ⟨x, hx⟩ : ∃ x, nt l 0 = x := ⟨_, rfl⟩;have hxr := HRd.out 0 hlt;rw [hx] at ca1 hxr;obtain ⟨z, hz⟩ : ∃ z, x - v = z := ⟨_, rfl⟩;have hzb : -100000 ≤ z ∧ z ≤ 100000 := by omega
      obtain ⟨t, ht, htb⟩ := turn_nat z hzb.1 hzb.2;have htu := refTurn_any z u (by omega) (by omega);rw [ht] at htu;have hsh := refShort_any t u (by omega);obtain ⟨U, hU⟩ : ∃ U, bs (short t) = U := ⟨_, rfl⟩;rw [show (⟨(short t).toArray⟩ : ByteArray) = U from hU] at hsh;have hUs : U.size ≤ 9 := by rw [← hU, bs_size]; exact short_len9 t (by omega)
      have HP : Hid (bs (putF v l (0 + 1)) = S ++ U) := Lib.hid (by rw [← HS.out, ← hU, bs_app]; show bs (putF v l 1) = _; rw [putF, putF, show l.getD 0 0 = x from hx, hz, ht, Int.toNat_natCast]);have hl0 : 0 < l.length := hlt;clear hx ht hU;refine wp_seq_k fun K9 hK9 => ?_;refine wp_region_lit ?_;refine Kn.pure fh11 rfl rfl .none (Kn.ex_move fh11 (.tmp rfl)) fun fa12 fh12 => ?_;clear fh11 fa11;refine Kn.step fh12 rfl rfl .none (Kn.ex_bin fh12 (.tmp rfl) .const) fun Ko hKo => ?_;go_simp;(try go_bits);refine hKo _ _ fun fa13 fh13 => ?_;clear hKo Ko fh12 fa12;refine wpList_nil ?_;refine hK9 _ _ ?_;clear hK9 K9;replace fh13 := fh13.cut (.cons (t := 17) rfl (.cons (t := 6) rfl (.cons (t := 5) rfl (.cons (t := 0) rfl (.cons (t := 1) rfl .nil)))));refine Kn.yes fh13 (.tmp rfl) ?_;replace fh13 := fh13.cut (.cons (t := 6) rfl (.cons (t := 5) rfl (.cons (t := 0) rfl (.cons (t := 1) rfl .nil))));refine wp_region_lit ?_;refine Kn.pure fh13 rfl rfl .none (Kn.ex_move fh13 (.tmp rfl)) fun fa14 fh14 => ?_;clear fh13 fa13;refine Kn.pure fh14 rfl rfl .none (Kn.ex_move fh14 (.tmp rfl)) fun fa15 fh15 => ?_;clear fh14 fa14;refine Kn.step fh15 rfl rfl .none (Kn.ex_indexAddr fh15 (.tmp rfl) .const) fun Ko hKo => ?_;go_simp;(try go_bits);refine hKo _ _ fun fa16 fh16 => ?_;clear hKo Ko fh15 fa15;refine Kn.step fh16 rfl rfl .none (Kn.ex_load fh16 (.tmp rfl)) fun Ko hKo => ?_;go_simp;(try go_bits);refine hKo _ _ fun fa17 fh17 => ?_;clear hKo Ko fh16 fa16;refine Kn.pure fh17 rfl rfl .none (Kn.ex_move fh17 (.tmp rfl)) fun fa18 fh18 => ?_;clear fh17 fa17;refine Kn.step fh18 rfl rfl .none (Kn.ex_bin fh18 (.tmp rfl) (.tmp rfl)) fun Ko hKo => ?_;go_simp;(try go_bits);try rw [hz]
      try go_simp
      (try go_bits);refine hKo _ _ fun fa19 fh19 => ?_;clear hKo Ko fh18 fa18;refine Kn.call fh19 rfl rfl .none (Kn.ex_call fh19 (.cons (.tmp rfl) .nil)) Tryz.call55 (htu) fun e u1 hp => ?_;obtain ⟨rfl, rfl⟩ := hp;refine ⟨_, rfl, fun fa20 fh20 => ?_⟩;clear fh19 fa19;refine Kn.call fh20 rfl rfl .none (Kn.ex_call fh20 (.cons (.tmp rfl) .nil)) Tryz.call32 (hsh) fun e u2 hp => ?_;obtain ⟨rfl, hb2⟩ := hp;refine ⟨_, rfl, fun fa21 fh21 => ?_⟩;clear fh20 fa20;have HB2 := Lib.hid (HB.out.trans (hb2.mono HB.out.size));clear hb2;refine Kn.step fh21 rfl rfl .none (Kn.ex_bin fh21 (.tmp rfl) (.tmp rfl)) fun Ko hKo => ?_;go_simp;try rw [if_neg (by omega)]
      refine hKo _ _ fun fa22 fh22 => ?_;clear hKo Ko fh21 fa21;refine Kn.pure fh22 rfl rfl .none (Kn.ex_assign fh22 (.tmp rfl)) fun fa23 fh23 => ?_;clear fh22 fa22;refine wpList_nil ?_;refine Kn.block_normal ?_;refine hK8 _ _ ?_;clear hK8 K8;replace fh23 := fh23.cut (.cons (t := 5) rfl (.cons (t := 6) rfl (.cons (t := 0) rfl (.cons (t := 1) rfl .nil))));clear ca1 htu hsh hz;refine wp_region_lit ?_;refine Kn.pure fh23 rfl rfl .none (Kn.ex_move fh23 (.tmp rfl)) fun fa24 fh24 => ?_;clear fh23 fa23;refine Kn.step fh24 rfl rfl .none (Kn.ex_bin fh24 (.tmp rfl) .const) fun Ko hKo => ?_;go_simp;(try go_bits);refine hKo _ _ fun fa25 fh25 => ?_;clear hKo Ko fh24 fa24;refine Kn.pure fh25 rfl rfl .none (Kn.ex_assign fh25 (.tmp rfl)) fun fa26 fh26 => ?_;clear fh25 fa25;refine wpList_nil ?_;replace fh26 := fh26.cut (.cons (t := 6) rfl (.cons (t := 5) rfl (.cons (t := 0) rfl (.cons (t := 1) rfl .nil))));exact hKl5 (m5 - 1) _ _ (by omega) ⟨0 + 1, fh26.cut (.turn (t := 6) rfl (by go_num) (.turn (t := 5) rfl (by rw [HP.out]) (.cons (t := 0) rfl (.cons (t := 1) rfl .nil)))), by omega, HB2⟩
    obtain ⟨k, hkj⟩ : ∃ k, j + 1 = k := ⟨_, rfl⟩;have HKJ := Lib.hid hkj;rw [hkj] at hlt hk HS fh11;have hk0 : ((k : Int) == 0) = false := by rw [beq_eq_false_iff_ne]; omega
    have hjl : j < l.length := by omega
    have rj : (k : Int) - 1 = (j : Int) := by omega
    clear hkj;obtain ⟨ba, oa, rfl, -, ca1⟩ := (HA.out.on HB.out) k hlt;have cb1 := IIn.cells (HA.out.on HB.out) hjl;obtain ⟨x, hx⟩ : ∃ x, nt l k = x := ⟨_, rfl⟩;obtain ⟨y, hy⟩ : ∃ y, nt l j = y := ⟨_, rfl⟩;have hxr := HRd.out k hlt;have hyr := HRd.out j hjl;have hup := HUp.out j (by rw [HKJ.out]; exact hlt);rw [HKJ.out, hx, hy] at hup;rw [hx] at ca1 hxr;rw [hy] at cb1 hyr;obtain ⟨z, hz⟩ : ∃ z, x - y = z := ⟨_, rfl⟩;obtain ⟨t, ht⟩ : ∃ t : Nat, z - 1 = (t : Int) := ⟨(z - 1).toNat, by omega⟩;have htb : t ≤ 100000 := by omega
    have hzb : 0 < z ∧ z ≤ 100000 := by omega
    have hsh := refShort_any t u.drew (by omega);obtain ⟨U, hU⟩ : ∃ U, bs (short t) = U := ⟨_, rfl⟩;rw [show (⟨(short t).toArray⟩ : ByteArray) = U from hU] at hsh;have hUs : U.size ≤ 9 := by rw [← hU, bs_size]; exact short_len9 t (by omega)
    have HP : Hid (bs (putF v l (k + 1)) = S ++ U) := Lib.hid (by
      have e := HKJ.out;subst e
      rw [← HS.out, ← hU, bs_app, show putF v l (j + 1 + 1) = putF v l (j + 1) ++ short (l.getD (j + 1) 0 - l.getD j 0 - 1).toNat from rfl, show l.getD (j + 1) 0 = x from hx, show l.getD j 0 = y from hy, hz, ht, Int.toNat_natCast])
    clear hx hy hU;refine wp_seq_k fun K9 hK9 => ?_;refine wp_region_lit ?_;refine Kn.pure fh11 rfl rfl .none (Kn.ex_move fh11 (.tmp rfl)) fun fa12 fh12 => ?_;clear fh11 fa11;refine Kn.step fh12 rfl rfl .none (Kn.ex_bin fh12 (.tmp rfl) .const) fun Ko hKo => ?_;go_simp;(try go_bits);refine hKo _ _ fun fa13 fh13 => ?_;clear hKo Ko fh12 fa12;refine wpList_nil ?_;refine hK9 _ _ ?_;clear hK9 K9;replace fh13 := fh13.cut (.cons (t := 17) rfl (.cons (t := 6) rfl (.cons (t := 5) rfl (.cons (t := 0) rfl (.cons (t := 1) rfl .nil)))));refine Kn.no fh13 (.tmp rfl) ?_;replace fh13 := fh13.cut (.cons (t := 6) rfl (.cons (t := 5) rfl (.cons (t := 0) rfl (.cons (t := 1) rfl .nil))));refine Kn.knPush 11 (by kernel_rfl) fh13 (by kernel_rfl) rfl rfl rfl rfl rfl (Kn.PI.block (Kn.PI.then (Kn.PI.then (Kn.PI.block (Kn.PI.then Kn.PI.body))))) rfl rfl fun fa14 fh14 => ?_;clear fh13 fa13;refine Kn.spure fh14 rfl rfl .none (Kn.ex_move fh14 (.tmp rfl)) fun fa15 fh15 => ?_;clear fh14 fa14;refine Kn.spure fh15 rfl rfl .none (Kn.ex_move fh15 (.tmp rfl)) fun fa16 fh16 => ?_;clear fh15 fa15;refine Kn.sstep fh16 rfl rfl .none (Kn.ex_indexAddr fh16 (.tmp rfl) (.tmp rfl)) fun Ko hKo => ?_;go_simp;(try go_bits);refine hKo _ fun fa17 fh17 => ?_;clear hKo Ko fh16 fa16;refine Kn.sstep fh17 rfl rfl .none (Kn.ex_load fh17 (.tmp rfl)) fun Ko hKo => ?_;go_simp;(try go_bits);refine hKo _ fun fa18 fh18 => ?_;clear hKo Ko fh17 fa17;refine Kn.spure fh18 rfl rfl .none (Kn.ex_move fh18 (.tmp rfl)) fun fa19 fh19 => ?_;clear fh18 fa18;refine Kn.spure fh19 rfl rfl .none (Kn.ex_move fh19 (.tmp rfl)) fun fa20 fh20 => ?_;clear fh19 fa19;refine Kn.sstep fh20 rfl rfl .none (Kn.ex_bin fh20 (.tmp rfl) .const) fun Ko hKo => ?_;go_simp;(try go_bits);try simp only [rj]
    refine hKo _ fun fa21 fh21 => ?_;clear hKo Ko fh20 fa20;refine Kn.sstep fh21 rfl rfl .none (Kn.ex_indexAddr fh21 (.tmp rfl) (.tmp rfl)) fun Ko hKo => ?_;go_simp;(try go_bits);refine hKo _ fun fa22 fh22 => ?_;clear hKo Ko fh21 fa21;refine Kn.sstep fh22 rfl rfl .none (Kn.ex_load fh22 (.tmp rfl)) fun Ko hKo => ?_;go_simp;(try go_bits);refine hKo _ fun fa23 fh23 => ?_;clear hKo Ko fh22 fa22;refine Kn.sstep fh23 rfl rfl .none (Kn.ex_bin fh23 (.tmp rfl) (.tmp rfl)) fun Ko hKo => ?_;go_simp;(try go_bits);try rw [hz]
    try go_simp
    (try go_bits);refine hKo _ fun fa24 fh24 => ?_;clear hKo Ko fh23 fa23;refine Kn.sstep fh24 rfl rfl .none (Kn.ex_bin fh24 (.tmp rfl) .const) fun Ko hKo => ?_;go_simp;(try go_bits);try rw [ht]
    try go_simp
    (try go_bits);refine hKo _ fun fa25 fh25 => ?_;clear hKo Ko fh24 fa24;refine wpStill_nil ?_;refine Kn.call fh25 rfl rfl .none (Kn.ex_call fh25 (.cons (.tmp rfl) .nil)) Tryz.call32 (hsh) fun e u2 hp => ?_;obtain ⟨rfl, hb2⟩ := hp;refine ⟨_, rfl, fun fa26 fh26 => ?_⟩;clear fh25 fa25;have HB2 := Lib.hid (HB.out.trans ((Own.undrew hb2).mono HB.out.size));clear hb2;refine Kn.step fh26 rfl rfl .none (Kn.ex_bin fh26 (.tmp rfl) (.tmp rfl)) fun Ko hKo => ?_;go_simp;try rw [if_neg (by omega)]
    refine hKo _ _ fun fa27 fh27 => ?_;clear hKo Ko fh26 fa26;refine Kn.pure fh27 rfl rfl .none (Kn.ex_assign fh27 (.tmp rfl)) fun fa28 fh28 => ?_;clear fh27 fa27;refine wpList_nil ?_;refine Kn.block_normal ?_;refine hK8 _ _ ?_;clear hK8 K8;replace fh28 := fh28.cut (.cons (t := 5) rfl (.cons (t := 6) rfl (.cons (t := 0) rfl (.cons (t := 1) rfl .nil))));clear ca1 cb1 hsh hz ht rj hk0;refine wp_region_lit ?_;refine Kn.pure fh28 rfl rfl .none (Kn.ex_move fh28 (.tmp rfl)) fun fa29 fh29 => ?_;clear fh28 fa28;refine Kn.step fh29 rfl rfl .none (Kn.ex_bin fh29 (.tmp rfl) .const) fun Ko hKo => ?_;go_simp;(try go_bits);refine hKo _ _ fun fa30 fh30 => ?_;clear hKo Ko fh29 fa29;refine Kn.pure fh30 rfl rfl .none (Kn.ex_assign fh30 (.tmp rfl)) fun fa31 fh31 => ?_;clear fh30 fa30;refine wpList_nil ?_;replace fh31 := fh31.cut (.cons (t := 6) rfl (.cons (t := 5) rfl (.cons (t := 0) rfl (.cons (t := 1) rfl .nil))));exact hKl5 (m5 - 1) _ _ (by omega) ⟨k + 1, fh31.cut (.turn (t := 6) rfl (by go_num) (.turn (t := 5) rfl (by rw [HP.out]) (.cons (t := 0) rfl (.cons (t := 1) rfl .nil)))), by omega, HB2⟩
  · obtain rfl : k = l.length := by omega
    refine wp_seq_k fun K6 hK6 => ?_;refine wp_seq_k fun K7 hK7 => ?_;refine wp_region_lit ?_;refine Kn.pure fh7 rfl rfl .none (Kn.ex_move fh7 (.tmp rfl)) fun fa8 fh8 => ?_;clear fh7 fa7;refine Kn.pure fh8 rfl rfl .none (Kn.ex_move fh8 (.tmp rfl)) fun fa9 fh9 => ?_;clear fh8 fa8;refine Kn.step fh9 rfl rfl .none (Kn.ex_len fh9 (.tmp rfl)) fun Ko hKo => ?_;go_simp;(try go_bits);refine hKo _ _ fun fa10 fh10 => ?_;clear hKo Ko fh9 fa9;refine Kn.step fh10 rfl rfl .none (Kn.ex_bin fh10 (.tmp rfl) (.tmp rfl)) fun Ko hKo => ?_;go_simp;(try go_bits);refine hKo _ _ fun fa11 fh11 => ?_;clear hKo Ko fh10 fa10;refine wpList_nil ?_;refine hK7 _ _ ?_;clear hK7 K7;replace fh11 := fh11.cut (.cons (t := 13) rfl (.cons (t := 6) rfl (.cons (t := 5) rfl (.cons (t := 0) rfl (.cons (t := 1) rfl .nil)))));refine Kn.no fh11 (.tmp rfl) ?_;replace fh11 := fh11.cut (.cons (t := 6) rfl (.cons (t := 5) rfl (.cons (t := 0) rfl (.cons (t := 1) rfl .nil))));refine wp_exit ?_;refine Kn.then_exit ?_;clear hK6 K6;refine Kn.then_exit ?_;clear hKl5 Kl5;refine Kn.block_exit ?_;refine hK3 _ _ ?_;clear hK3 K3;replace fh11 := fh11.cut (.cons (t := 5) rfl .nil);refine wp_seq_k fun K8 hK8 => ?_;refine wp_region_lit ?_;refine Kn.pure fh11 rfl rfl .none (Kn.ex_move fh11 (.tmp rfl)) fun fa12 fh12 => ?_;clear fh11 fa11;refine Kn.pure fh12 rfl rfl .none (Kn.ex_assign fh12 (.tmp rfl)) fun fa13 fh13 => ?_;clear fh12 fa12;refine wpList_nil ?_;refine hK8 _ _ ?_;clear hK8 K8;replace fh13 := fh13.cut (.cons (t := 4) rfl .nil);refine wp_ret ?_;exact Kn.ret1 fh13 rfl rfl ⟨rfl, HB.out⟩
end Go.Proofs.YtbcokncfkikalaaGreatDoor.Gap
end
