/- A part of the proof of AskPathsCardSaid: texts that lead to it, merged. -/
import Derived.Test.YtaikghenimfjcaaDoorChecked
import Derived.WalkKit
import Derived.WalkSpells
import Derived.WalkLawsBesides
import Derived.LaidEql
import Derived.Stop.Asserts
import Derived.RowKitTokens
import Derived.Lib.Hide
import Derived.Test.YtaikghenimfjcaaDoorCards
import Derived.Test.YtaikghenimfjcaaDoorTie
import Derived.ProofKit
import Derived.OpenShut
import Derived.ShutString
import Derived.Deep.DeepHandedRow
import Derived.LaidLaws
import Derived.LaidHandle
import Derived.Stop.Joined
import Derived.Below
import Derived.Maps.AppendAt
import Derived.Deep.AppendLies
import Derived.Deep.Draws
import Derived.Lib.SmallJoins
import Derived.StillTailTactics
import Derived.Deep.QuietTactic
import Derived.BigCall
import Derived.Deep.LoopGhost
import Derived.Laws.Rows
import Derived.Laws.Tables
import Derived.Laws.CopyOwn
import Derived.Laws.ResultCell
import Derived.OwnWalk
import Derived.Deep.MidRow
import Derived.Laws.OwnMore
import Derived.Lib.EndianMore
import Derived.IntWalk
import Derived.Shelf.SlGeneric
import Derived.Shelf.SlSortCmp.SmallK
import Derived.Shelf.SlicesG.Cmp
import Derived.Shelf.SlicesE.Clone
import Derived.Shelf.SlicesQ.Equal
import Derived.Shelf.SlicesG.Clone
import Derived.Shelf.SlicesG.Equal
import Derived.Shelf.SlicesG.SearchI
import Derived.Ground.SlsfProg
import Derived.Ground.SlgcProg
import Derived.Ground.SlgnProg
import Derived.Ground.SlgqProg
import Derived.Test.YtaikghenimfjcaaDoorProg
import Derived.Shelf.SlSortCmp.InsertionK
import Derived.Laws.StructEq
import Derived.Laws.IdiomCopy
import Derived.Lib.SliceRun
import Derived.Shelf.SlSortCmp.NoneTotal
import Derived.Lib.OwnBridge
section
namespace Go.Proofs.YtaikghenimfjcaaDoor.Err
open Go.RowKit Go.Extern.Stop Go.Stop Go.Extern
theorem one_match.{u} (m : Array Value → Sort u) (v : Value) (f : (v : Value) → m #[v]) (g : (x : Array Value) → m x) : ReflectliteValue.method.match_2 m #[v] f g = f v := rfl
theorem two_match.{u} (m : Array Value → Sort u) (v x : Value) (f : (v x : Value) → m #[v, x]) (g : (x : Array Value) → m x) : ReflectliteValue.set.match_3 m #[v, x] f g = f v x := rfl
theorem methodKind (n : Nat) (h : Value) (w : World) : (Go.method (n + 1) 110 (.agg #[h]) "Kind").run Tryd.prog w = .ok (97, h) w := by kernel_rfl
theorem methodElem (n : Nat) (h : Value) (w : World) : (Go.method (n + 1) 110 (.agg #[h]) "Elem").run Tryd.prog w = .ok (107, .agg #[h]) w := by kernel_rfl
theorem methodImplements (n : Nat) (h : Value) (w : World) : (Go.method (n + 1) 110 (.agg #[h]) "Implements").run Tryd.prog w = .ok (108, .agg #[h]) w := by kernel_rfl
theorem methodAssignableTo (n : Nat) (h : Value) (w : World) : (Go.method (n + 1) 110 (.agg #[h]) "AssignableTo").run Tryd.prog w = .ok (105, .agg #[h]) w := by kernel_rfl
theorem valueOfPE (t : Addr) (w : World) : (ReflectliteValue.unpack (.iface 69 (.pointer (some t)))).run Tryd.prog w
    = .ok (.agg #[.pointer (some ⟨1, 69, none⟩), .pointer (some ⟨w.heap.size, 0, none⟩), .int .u64 150]) (w.alloc (.cells #[.pointer (some t)] 69)) := by kernel_rfl
theorem typePE (a : Addr) (w : World) : (ReflectliteValue.methodAny (ReflectliteValue.valueError "reflectlite.Value.Type" 0) (fun t _ _ _ => ReflectliteType.toType t) #[.agg #[.pointer (some ⟨1, 69, none⟩), .pointer (some a), .int .u64 150]]).run Tryd.prog w
    = .ok (.iface 110 (.agg #[.pointer (some ⟨1, 69, none⟩)])) w := by kernel_rfl
theorem kindPE (w : World) : ((ReflectliteType.abiMethod fun t => (fun a : Nat => Value.int IntKind.u8 (a : Int)) <$> Rtype.kind t) #[.pointer (some ⟨1, 69, none⟩)]).run Tryd.prog w = .ok (.int .u8 22) w := by kernel_rfl
theorem kindE (w : World) : ((ReflectliteType.abiMethod fun t => (fun a : Nat => Value.int IntKind.u8 (a : Int)) <$> Rtype.kind t) #[.pointer (some ⟨1, 61, none⟩)]).run Tryd.prog w = .ok (.int .u8 2) w := by kernel_rfl
theorem partsPE (a : Addr) (w : World) : (ReflectliteValue.parts (.agg #[.pointer (some ⟨1, 69, none⟩), .pointer (some a), .int .u64 150])).run Tryd.prog w = .ok (some (69, a, 150)) w := by kernel_rfl
theorem isNilPE (a p : Addr) (W : World) (ha : W.cell? a = some (.pointer (some p))) :
    (ReflectliteValue.method (ReflectliteValue.valueError "reflectlite.Value.IsNil" 0) ReflectliteValue.isNil #[.agg #[.pointer (some ⟨1, 69, none⟩), .pointer (some a), .int .u64 150]]).run Tryd.prog W = .ok (.bool false) W := by
  delta ReflectliteValue.method
  rw [one_match];simp only [Sem.run_bind, partsPE, Result.andThen];simp [ReflectliteValue.isNil, loadVar, isAgg, underlying, Tryd.underlying69, ha, Result.andThen]
theorem elemPE (w : World) : (ReflectliteType.method ReflectliteType.elem #[.agg #[.pointer (some ⟨1, 69, none⟩)]]).run Tryd.prog w = .ok (.iface 110 (.agg #[.pointer (some ⟨1, 61, none⟩)])) w := by kernel_rfl
theorem implementsE (w : World) : (ReflectliteType.relation "Implements" ReflectliteType.implements_ #[.agg #[.pointer (some ⟨1, 61, none⟩)], .iface 110 (.agg #[.pointer (some ⟨1, 30, none⟩)])]).run Tryd.prog w = .ok (.bool true) w := by kernel_rfl
theorem typeOfE (v : Value) (w : World) : (ReflectliteType.typeOf #[.iface 61 v]).run Tryd.prog w = .ok (.iface 110 (.agg #[.pointer (some ⟨1, 61, none⟩)])) w := by kernel_rfl
theorem elemOfPE (w : World) : (Rtype.elem? 69).run Tryd.prog w = .ok (some 61) w := by kernel_rfl
theorem mkE (p : Addr) (w : World) : (ReflectliteValue.mk 61 p ReflectliteValue.flagAddr).run Tryd.prog w = .ok (.agg #[.pointer (some ⟨1, 61, none⟩), .pointer (some p), .int .u64 386]) w := by kernel_rfl
theorem elemVE (a p : Addr) (W : World) (ha : W.cell? a = some (.pointer (some p))) :
    (ReflectliteValue.method (ReflectliteValue.valueError "reflectlite.Value.Elem" 0) ReflectliteValue.elem #[.agg #[.pointer (some ⟨1, 69, none⟩), .pointer (some a), .int .u64 150]]).run Tryd.prog W
      = .ok (.agg #[.pointer (some ⟨1, 61, none⟩), .pointer (some p), .int .u64 386]) W := by
  delta ReflectliteValue.method
  rw [one_match];simp only [Sem.run_bind, partsPE, Result.andThen];simp [ReflectliteValue.elem, loadVar, isAgg, underlying, Tryd.underlying69, ha, Result.andThen, elemOfPE, mkE]
theorem partsAE (a : Addr) (w : World) : (ReflectliteValue.parts (.agg #[.pointer (some ⟨1, 61, none⟩), .pointer (some a), .int .u64 386])).run Tryd.prog w = .ok (some (61, a, 386)) w := by kernel_rfl
theorem partsE (a : Addr) (w : World) : (ReflectliteValue.parts (.agg #[.pointer (some ⟨1, 61, none⟩), .pointer (some a), .int .u64 130])).run Tryd.prog w = .ok (some (61, a, 130)) w := by kernel_rfl
theorem directE (w : World) : (Rtype.directlyAssignable 61 61).run Tryd.prog w = .ok true w := by kernel_rfl
theorem assignableEE (w : World) : (ReflectliteType.relation "AssignableTo" ReflectliteType.assignableTo #[.agg #[.pointer (some ⟨1, 61, none⟩)], .iface 110 (.agg #[.pointer (some ⟨1, 61, none⟩)])]).run Tryd.prog w = .ok (.bool true) w := by kernel_rfl
theorem valueOfE (c : Int) (w : World) : (ReflectliteValue.unpack (.iface 61 (.int .i64 c))).run Tryd.prog w
    = .ok (.agg #[.pointer (some ⟨1, 61, none⟩), .pointer (some ⟨w.heap.size, 0, none⟩), .int .u64 130]) (w.alloc (.cells #[.int .i64 c] 61)) := by kernel_rfl
theorem setE (ta b : Addr) (c : Int) (old : Value) (W : World) (hb : W.cell? b = some (.int .i64 c)) (ht : W.cell? ta = some old) (hf : W.frozen? ta = false) :
    (ReflectliteValue.set #[.agg #[.pointer (some ⟨1, 61, none⟩), .pointer (some ta), .int .u64 386], .agg #[.pointer (some ⟨1, 61, none⟩), .pointer (some b), .int .u64 130]]).run Tryd.prog W
      = .ok (.tuple #[]) (W.setCell ta (.int .i64 c)) := by
  delta ReflectliteValue.set
  rw [two_match];simp only [Sem.run_bind, partsAE, partsE, Result.andThen];simp [ReflectliteValue.flagAddr, loadVar, isAgg, underlying, Tryd.underlying61, hb, Result.andThen, directE, storeVar, Value.cells, storeCells, Addr.add];rw [run_store Tryd.prog W ta _ _ (by rfl)];simp [ht, hf]
end Go.Proofs.YtaikghenimfjcaaDoor.Err
end
section
namespace Go.Proofs.YtaikghenimfjcaaDoor.Err
open Go.RowKit Go.Extern.Stop Go.Stop Go.Extern
def ErrTab (w : World) : Prop := w.cell? ⟨0, 0, none⟩ = some (.iface 110 (.agg #[.pointer (some ⟨1, 30, none⟩)]))
theorem ErrTab.lt {w : World} (h : ErrTab w) : 0 < w.heap.size := by
  unfold ErrTab at h;rcases Nat.lt_or_ge 0 w.heap.size with h0 | h0
  · exact h0
  · simp [World.cell?, Array.getElem?_eq_none h0] at h
theorem ErrTab.below {B : Nat} {w w' : World} (h : ErrTab w) (hb : Below B w w') (hB : 0 < B) : ErrTab w' := (hb.cell (p := ⟨0, 0, none⟩) hB).trans h
theorem ErrTab.on {w w' : World} (h : ErrTab w) (hb : Below w.heap.size w w') : ErrTab w' := h.below hb h.lt
theorem ErrTab.alloc {w : World} (h : ErrTab w) (o : Obj) : ErrTab (w.alloc o) := (World.cell?_alloc_lt w o ⟨0, 0, none⟩ h.lt).trans h
set_option maxHeartbeats 4000000 in
theorem as_EE (c : Int) (t : Addr) (old : Value) (w : World) (hg : ErrTab w) (ht0 : w.cell? t = some old) (hf0 : w.frozen? t = false) :
    Calls Tryd.prog 25 #[.iface 61 (.int .i64 c), .iface 69 (.pointer (some t))] w fun ev w' => ev = .returned (.bool true) ∧ w'.cell? t = some (.int .i64 c) ∧ Below t.block w w' := by
  have h0 := @run_callFunc_extern Tryd.prog 43 _ (fun args => ReflectliteValue.unpack (args.getD 0 (.tuple #[]))) Tryd.func43 (by kernel_rfl) (by kernel_rfl) (by kernel_rfl) (by kernel_rfl);have h1 := @run_callFunc_extern Tryd.prog 44 _ (ReflectliteValue.methodAny (ReflectliteValue.valueError "reflectlite.Value.Type" 0) (fun t _ _ _ => ReflectliteType.toType t)) Tryd.func44 (by kernel_rfl) (by kernel_rfl) (by kernel_rfl) (by kernel_rfl);have h2 := @run_callFunc_extern Tryd.prog 45 _ (ReflectliteValue.method (ReflectliteValue.valueError "reflectlite.Value.IsNil" 0) ReflectliteValue.isNil) Tryd.func45 (by kernel_rfl) (by kernel_rfl) (by kernel_rfl) (by kernel_rfl);have h3 := @run_callFunc_extern Tryd.prog 97 _ (ReflectliteType.abiMethod fun t => do pure (.int .u8 (← Rtype.kind t))) Tryd.func97 (by kernel_rfl) (by kernel_rfl) (by kernel_rfl) (by kernel_rfl);have h4 := @run_callFunc_extern Tryd.prog 107 _ (ReflectliteType.method ReflectliteType.elem) Tryd.func107 (by kernel_rfl) (by kernel_rfl) (by kernel_rfl) (by kernel_rfl);have h5 := @run_callFunc_extern Tryd.prog 108 _ (ReflectliteType.relation "Implements" ReflectliteType.implements_) Tryd.func108 (by kernel_rfl) (by kernel_rfl) (by kernel_rfl) (by kernel_rfl);have h6 := @run_callFunc_extern Tryd.prog 58 _ (ReflectliteType.typeOf) Tryd.func58 (by kernel_rfl) (by kernel_rfl) (by kernel_rfl) (by kernel_rfl);have h7 := @run_callFunc_extern Tryd.prog 105 _ (ReflectliteType.relation "AssignableTo" ReflectliteType.assignableTo) Tryd.func105 (by kernel_rfl) (by kernel_rfl) (by kernel_rfl) (by kernel_rfl);have h8 := @run_callFunc_extern Tryd.prog 59 _ (ReflectliteValue.method (ReflectliteValue.valueError "reflectlite.Value.Elem" 0) ReflectliteValue.elem) Tryd.func59 (by kernel_rfl) (by kernel_rfl) (by kernel_rfl) (by kernel_rfl);have h9 := @run_callFunc_extern Tryd.prog 60 _ (ReflectliteValue.set) Tryd.func60 (by kernel_rfl) (by kernel_rfl) (by kernel_rfl) (by kernel_rfl);have tO1 := typeOfE;have mA := methodAssignableTo;have f6 := valueOfPE;have f7 := typePE;have mK := methodKind;have mE := methodElem;have mI := methodImplements;have k27 := kindPE;have k25 := kindE;have e27 := elemPE;have i25 := implementsE
  have htl : t.block < w.heap.size := by
    rcases Nat.lt_or_ge t.block w.heap.size with h | h
    · exact h
    · simp [World.cell?, Array.getElem?_eq_none h] at ht0
  have hb3 : Below t.block w (((w.alloc (.cells #[.pointer (some t)] 69)).alloc (.cells #[.pointer (some ⟨1, 69, none⟩), .pointer (some ⟨w.heap.size, 0, none⟩), .int .u64 150] 90)).alloc (.cells #[.pointer (some ⟨1, 69, none⟩), .pointer (some ⟨w.heap.size, 0, none⟩), .int .u64 150] 90)) := (((Below.refl _ _).alloc (by omega) _).alloc (by simp; omega) _).alloc (by simp; omega) _;have HB3 := Lib.hid hb3;clear hb3;have n8 := isNilPE ⟨w.heap.size, 0, none⟩ t ((w.alloc (.cells #[.pointer (some t)] 69)).alloc (.cells #[.pointer (some ⟨1, 69, none⟩), .pointer (some ⟨w.heap.size, 0, none⟩), .int .u64 150] 90)) (by simp);have HG := Lib.hid ((hg.alloc (.cells #[.pointer (some t)] 69)).alloc (.cells #[.pointer (some ⟨1, 69, none⟩), .pointer (some ⟨w.heap.size, 0, none⟩), .int .u64 150] 90));have hg3 := HG.out;unfold ErrTab at hg3;have aEE := assignableEE;have vE := valueOfE;have el := elemVE ⟨w.heap.size, 0, none⟩ t (((w.alloc (.cells #[.pointer (some t)] 69)).alloc (.cells #[.pointer (some ⟨1, 69, none⟩), .pointer (some ⟨w.heap.size, 0, none⟩), .int .u64 150] 90)).alloc (.cells #[.pointer (some ⟨1, 69, none⟩), .pointer (some ⟨w.heap.size, 0, none⟩), .int .u64 150] 90)) (by rw [World.cell?_alloc_lt _ _ ⟨w.heap.size, 0, none⟩ (by simp; omega)]; simp);have htW : ((((w.alloc (.cells #[.pointer (some t)] 69)).alloc (.cells #[.pointer (some ⟨1, 69, none⟩), .pointer (some ⟨w.heap.size, 0, none⟩), .int .u64 150] 90)).alloc (.cells #[.pointer (some ⟨1, 69, none⟩), .pointer (some ⟨w.heap.size, 0, none⟩), .int .u64 150] 90)).alloc (.cells #[.int .i64 c] 61)).cell? t = some old := by rw [World.cell?_alloc_lt _ _ t (by simp; omega), World.cell?_alloc_lt _ _ t (by simp; omega), World.cell?_alloc_lt _ _ t (by simp; omega), World.cell?_alloc_lt _ _ t (by simpa using htl)]; exact ht0
  have HTW := Lib.hid htW
  have st := setE t ⟨w.heap.size + 1 + 1 + 1, 0, none⟩ c old ((((w.alloc (.cells #[.pointer (some t)] 69)).alloc (.cells #[.pointer (some ⟨1, 69, none⟩), .pointer (some ⟨w.heap.size, 0, none⟩), .int .u64 150] 90)).alloc (.cells #[.pointer (some ⟨1, 69, none⟩), .pointer (some ⟨w.heap.size, 0, none⟩), .int .u64 150] 90)).alloc (.cells #[.int .i64 c] 61))
    (by rw [World.cell?_alloc_at _ _ _ _ (by simp)]; rfl) htW (by rw [World.frozen?_alloc_old _ _ t (by simp; omega), World.frozen?_alloc_old _ _ t (by simp; omega), World.frozen?_alloc_old _ _ t (by simp; omega), World.frozen?_alloc_old _ _ t (by simp; omega)]; exact hf0)
  clear hg htW
  go_enter Tryd.func25, Tryd.ntmps25
  go_wp2
  refine wp_loop_rounds 1 ?_;rw [rounds_succ]
  go_wp2
  go_ret
  exact ⟨rfl, World.cell?_setCell_same _ _ _ HTW.out, (HB3.out.alloc (by simp; omega) _).setCell (Nat.le_refl _) _⟩
end Go.Proofs.YtaikghenimfjcaaDoor.Err
end
section
namespace Go.Proofs.YtaikghenimfjcaaDoor.Err
open Go.RowKit Go.Extern.Stop Go.Stop Go.Extern
def errnoV (c : Int) : Value := .iface 61 (.int .i64 c)
def faultV (p : Int) (c : Int) : Value := .iface 128 (.agg #[.int .i64 p, .iface 61 (.int .i64 c)])
set_option maxHeartbeats 1000000 in
theorem code_E (c : Int) (w : World) (hg : ErrTab w) : Calls Tryd.prog 10 #[errnoV c] w fun e w' => e = .returned (.int .i64 c) ∧ Below w.heap.size w w' := by
  have hg1 := Lib.hid (hg.alloc (.cells #[.int .i64 0] 61));clear hg;unfold errnoV
  go_enter Tryd.func10, Tryd.ntmps10
  go_wp2_with (go_at_call 25; refine (as_EE c ⟨w.heap.size, 0, none⟩ (.int .i64 0) _ hg1.out (by simp) (by simp)).mono ?_; rintro e w1 ⟨rfl, hc1, hb1⟩; refine Hid.out ?_)
  refine Lib.hid ?_;have HB := Lib.hid (((Below.refl w.heap.size w).alloc (Nat.le_refl _) _).trans hb1);clear hb1
  go_wp2
  go_ret
  exact ⟨rfl, HB.out⟩
end Go.Proofs.YtaikghenimfjcaaDoor.Err
end
section
namespace Go.Proofs.YtaikghenimfjcaaDoor.Err
open Go.ChangeShapes Go.WideShapes Go.ChangeAt Go.RowKit
theorem own : ownKnob Tryd.prog.godebug = none := by kernel_rfl
theorem et : Tryd.prog.globalNamed "errors.errorType" = some 0 := by kernel_rfl
theorem rt : (Tryd.prog.cutTypes.find? (·.1 == "internal/reflectlite.rtype")).map (·.2) = some 110 := by kernel_rfl
theorem oneRow : ((List.range Tryd.prog.types.size).filter fun t => Tryd.prog.rowNamed t [101, 114, 114, 111, 114]) = [30] := by kernel_rfl
theorem handle_of_laid {W : World} (h : laidMetH Tryd.prog [("errors.errorType", Rows.laid_errors_errorType)] W) : ErrTab W := by
  have h' : laidMet Tryd.prog [] W ∧ handlesMet Tryd.prog [("errors.errorType", Rows.laid_errors_errorType)] W := h;obtain ⟨name, u, ty, e1, e2, e3, e4, e5⟩ := h'.2 _ (List.mem_singleton.2 rfl);have en : name = [101, 114, 114, 111, 114] := (Option.some.inj e1).symm;subst en;obtain rfl := Option.some.inj (rt.symm.trans e2);have hm : ty ∈ (List.range Tryd.prog.types.size).filter fun t => Tryd.prog.rowNamed t [101, 114, 114, 111, 114] := List.mem_filter.2 ⟨List.mem_range.2 e3, e4⟩;rw [oneRow] at hm;obtain rfl := List.mem_singleton.1 hm;have hh : typeHandle Tryd.prog 30 = .pointer (some ⟨1, 30, none⟩) := by kernel_rfl
  rw [hh] at e5;unfold ErrTab
  simpa using World.var?_cell et e5 0
noncomputable def laidWorld (os : Os) : World :=
  { World.holding Tryd.prog os ⟨#[], #[], []⟩ with heap := (World.holding Tryd.prog os ⟨#[], #[], []⟩).heap.modify 0 fun
      | .cells _ t frozen => .cells #[.iface 110 (.agg #[.pointer (some ⟨1, 30, none⟩)])] t frozen
      | o => o }
theorem laid_met (os : Os) (args : Array Value) : laidMetH Tryd.prog [("errors.errorType", Rows.laid_errors_errorType)] ((laidWorld os).forCall (fun _ _ => 0) ⟨#[], args, []⟩).memory :=
  laidMetH_of_parts (laidMet_nil _ _) (by kernel_rfl)
end Go.Proofs.YtaikghenimfjcaaDoor.Err
end
section
namespace Go.Proofs.YtaikghenimfjcaaDoor.Ask
def addT (most : Int) (d : Int) : List Int → List (Int × Int) → List (Int × Int)
  | [], met => met
  | t :: r, met => addT most d r (if (met.length : Int) < most ∧ ¬ t ∈ met.map (·.1) then met ++ [(t, d)] else met)
def goS (T : Int → List Int) (depth most : Int) : Nat → Nat → List (Int × Int) → List (Int × Int)
  | 0, _, met => met
  | f + 1, i, met => match met[i]? with
    | none => met
    | some p => goS T depth most f (i + 1) (if p.2 < depth then addT most (p.2 + 1) (T p.1) met else met)
theorem addT_pre (most d : Int) : ∀ (ts : List Int) (met : List (Int × Int)), met <+: addT most d ts met
  | [], _ => List.prefix_refl _
  | t :: r, met => by
    rw [addT];refine List.IsPrefix.trans ?_ (addT_pre most d r _)
    split
    · exact List.prefix_append _ _
    · exact List.prefix_refl _
theorem addT_nodup (most d : Int) : ∀ (ts : List Int) (met : List (Int × Int)), (met.map (·.1)).Nodup → ((addT most d ts met).map (·.1)).Nodup
  | [], _, h => h
  | t :: r, met, h => by
    rw [addT];refine addT_nodup most d r _ ?_
    split
    · rename_i hc;rw [List.map_append, List.nodup_append];refine ⟨h, by simp, fun a ha b hb => ?_⟩;simp at hb;subst hb;exact fun e => hc.2 (e ▸ ha)
    · exact h
theorem addT_most (most d : Int) : ∀ (ts : List Int) (met : List (Int × Int)), (met.length : Int) ≤ most → ((addT most d ts met).length : Int) ≤ most
  | [], _, h => h
  | t :: r, met, h => by
    rw [addT];refine addT_most most d r _ ?_
    split
    · rename_i hc;rw [List.length_append];simp;omega
    · exact h
theorem addT_all (most d : Int) : ∀ (ts : List Int) (met : List (Int × Int)) (t : Int), t ∈ ts → t ∈ (addT most d ts met).map (·.1) ∨ most ≤ ((addT most d ts met).length : Int)
  | [], _, _, h => by cases h
  | t :: r, met, x, h => by
    rw [addT];rcases List.mem_cons.1 h with rfl | h
    · have hp := addT_pre most d r (if (met.length : Int) < most ∧ ¬ x ∈ met.map (·.1) then met ++ [(x, d)] else met)
      by_cases hc : (met.length : Int) < most ∧ ¬ x ∈ met.map (·.1)
      · rw [if_pos hc] at hp ⊢;refine .inl (List.mem_map.2 ⟨(x, d), hp.subset (by simp), rfl⟩)
      · rw [if_neg hc] at hp ⊢
        by_cases hx : x ∈ met.map (·.1)
        · obtain ⟨p, hp2, e⟩ := List.mem_map.1 hx;exact .inl (List.mem_map.2 ⟨p, hp.subset hp2, e⟩)
        · right
          have h1 : ¬ (met.length : Int) < most := fun q => hc ⟨q, hx⟩;have := hp.length_le;omega
    · exact addT_all most d r _ x h
theorem addT_full {most d : Int} : ∀ (ts : List Int) (met : List (Int × Int)), most ≤ (met.length : Int) → addT most d ts met = met
  | [], _, _ => rfl
  | t :: r, met, h => by rw [addT, if_neg (fun q => by omega), addT_full r met h]
theorem addT_less {a b d : Int} (hab : a ≤ b) : ∀ (ts : List Int) (met : List (Int × Int)), (met.length : Int) ≤ a → addT a d ts met = (addT b d ts met).take a.toNat
  | [], met, h => by rw [addT, addT, List.take_of_length_le (by omega)]
  | t :: r, met, h => by
    rw [addT, addT]
    by_cases hx : t ∈ met.map (·.1)
    · rw [if_neg (fun q => q.2 hx), if_neg (fun q => q.2 hx)];exact addT_less hab r met h
    · by_cases hl : (met.length : Int) < a
      · rw [if_pos ⟨hl, hx⟩, if_pos ⟨by omega, hx⟩];exact addT_less hab r _ (by rw [List.length_append]; simp; omega)
      · rw [if_neg (fun q => hl q.1), addT_full r met (by omega)]
        have hp : met <+: addT b d r (if (met.length : Int) < b ∧ ¬ t ∈ met.map (·.1) then met ++ [(t, d)] else met) := by
          refine List.IsPrefix.trans ?_ (addT_pre b d r _)
          split
          · exact List.prefix_append _ _
          · exact List.prefix_refl _
        have e : a.toNat = met.length := by omega
        rw [e];exact List.prefix_iff_eq_take.1 hp
section
variable {T : Int → List Int}
theorem goS_pre (depth most : Int) : ∀ (f i : Nat) (met : List (Int × Int)), met <+: goS T depth most f i met
  | 0, _, _ => List.prefix_refl _
  | f + 1, i, met => by
    rw [goS]
    split
    · exact List.prefix_refl _
    · refine List.IsPrefix.trans ?_ (goS_pre depth most f _ _)
      split
      · exact addT_pre _ _ _ _
      · exact List.prefix_refl _
theorem goS_full {depth most : Int} : ∀ (f i : Nat) (met : List (Int × Int)), most ≤ (met.length : Int) → goS T depth most f i met = met
  | 0, _, _, _ => rfl
  | f + 1, i, met, h => by
    rw [goS]
    split
    · rfl
    · rename_i p _
      have e : (if p.2 < depth then addT most (p.2 + 1) (T p.1) met else met) = met := by
        split
        · exact addT_full _ _ h
        · rfl
      rw [e, goS_full f _ met h]
theorem goS_less {depth a b : Int} (hab : a ≤ b) : ∀ (f i : Nat) (met : List (Int × Int)), (met.length : Int) ≤ a → goS T depth a f i met = (goS T depth b f i met).take a.toNat
  | 0, _, met, h => by rw [goS, goS, List.take_of_length_le (by omega)]
  | f + 1, i, met, h => by
    rw [goS, goS]
    cases hi : met[i]? with
    | none => simp only [List.take_of_length_le (show met.length ≤ a.toNat by omega)]
    | some p =>
      simp only
      by_cases hd : p.2 < depth
      · rw [if_pos hd, if_pos hd];have e := addT_less (d := p.2 + 1) hab (T p.1) met h
        by_cases hb : ((addT b (p.2 + 1) (T p.1) met).length : Int) ≤ a
        · rw [e, List.take_of_length_le (by omega)];exact goS_less hab f _ _ hb
        · have hl : (addT a (p.2 + 1) (T p.1) met).length = a.toNat := by rw [e, List.length_take]; omega
          rw [goS_full f _ _ (by omega), e];have hp := goS_pre (T := T) depth b f (i + 1) (addT b (p.2 + 1) (T p.1) met);obtain ⟨r, hr⟩ := hp;rw [← hr, List.take_append_of_le_length (by omega)]
      · rw [if_neg hd, if_neg hd];exact goS_less hab f _ _ h
structure Mon (i : Nat) (met : List (Int × Int)) : Prop where
  up : ∀ (j k : Nat) (p q : Int × Int), j ≤ k → met[j]? = some p → met[k]? = some q → p.2 ≤ q.2
  near : ∀ (p q : Int × Int) (k : Nat), met[i]? = some p → met[k]? = some q → q.2 ≤ p.2 + 1
  all : ∀ (p q : Int × Int) (k : Nat), met[i]? = none → met[k]? = some q → met.getLast? = some p → q.2 ≤ p.2
theorem at_app {l r : List (Int × Int)} {k : Nat} {q : Int × Int} (h : (l ++ r)[k]? = some q) : (k < l.length ∧ l[k]? = some q) ∨ (l.length ≤ k ∧ q ∈ r) := by
  rcases Nat.lt_or_ge k l.length with h1 | h1
  · rw [List.getElem?_append_left h1] at h;exact .inl ⟨h1, h⟩
  · rw [List.getElem?_append_right h1] at h;exact .inr ⟨h1, List.mem_of_getElem? h⟩
theorem Mon.next {i : Nat} {met : List (Int × Int)} {p : Int × Int} (h : Mon i met) (hi : met[i]? = some p) (depth most : Int) : Mon (i + 1) (if p.2 < depth then addT most (p.2 + 1) (T p.1) met else met) := by
  have hlt : i < met.length := (List.getElem?_eq_some_iff.1 hi).1
  obtain ⟨r, hr, hd⟩ : ∃ r, (if p.2 < depth then addT most (p.2 + 1) (T p.1) met else met) = met ++ r ∧ ∀ q ∈ r, q.2 = p.2 + 1 := by
    split
    · have gen : ∀ (ts : List Int) (m : List (Int × Int)), ∃ r, addT most (p.2 + 1) ts m = m ++ r ∧ ∀ q ∈ r, q.2 = p.2 + 1 := by
        intro ts
        induction ts with
        | nil => intro m; exact ⟨[], by simp [addT], fun q hq => by cases hq⟩
        | cons t ts ih =>
          intro m;rw [addT];obtain ⟨r, h1, h2⟩ := ih (if (m.length : Int) < most ∧ ¬ t ∈ m.map (·.1) then m ++ [(t, p.2 + 1)] else m)
          split at h1
          · rename_i hc;rw [if_pos hc]
            exact ⟨(t, p.2 + 1) :: r, by rw [h1]; simp, fun q hq => by
              rcases List.mem_cons.1 hq with rfl | hq
              · rfl
              · exact h2 q hq⟩
          · rename_i hc;rw [if_neg hc];exact ⟨r, h1, h2⟩
      exact gen _ _
    · exact ⟨[], by simp, fun q hq => by cases hq⟩
  rw [hr]
  have bound : ∀ (k : Nat) (q : Int × Int), (met ++ r)[k]? = some q → q.2 ≤ p.2 + 1 := fun k q hq => by
    rcases at_app hq with ⟨_, hq⟩ | ⟨_, hq⟩
    · exact h.near p q k hi hq
    · rw [hd q hq]; exact Int.le_refl _
  have up : ∀ (j k : Nat) (x y : Int × Int), j ≤ k → (met ++ r)[j]? = some x → (met ++ r)[k]? = some y → x.2 ≤ y.2 := fun j k x y hjk hx hy => by
    rcases at_app hy with ⟨h1, hy'⟩ | ⟨h1, hy'⟩
    · rw [List.getElem?_append_left (by omega)] at hx;exact h.up j k x y hjk hx hy'
    · rw [hd y hy'];exact bound j x hx
  refine ⟨up, fun x y k hx hy => ?_, fun x y k hx hy hl => ?_⟩
  · have h1 := up i (i + 1) p x (by omega) (by rw [List.getElem?_append_left hlt]; exact hi) hx;have h2 := bound k y hy;omega
  · have hk := (List.getElem?_eq_some_iff.1 hy).1;have hne : met ++ r ≠ [] := fun e => by rw [e] at hk; simp at hk
    rw [List.getLast?_eq_getElem?] at hl;exact up k _ y x (by omega) hy hl
theorem mon_start (v : Int) : Mon 0 [(v, 0)] := by
  refine ⟨fun j k p q _ h1 h2 => ?_, fun p q k h1 h2 => ?_, fun p q k h1 _ _ => by simp at h1⟩
  · have e1 : j = 0 := by have := (List.getElem?_eq_some_iff.1 h1).1; simp at this; exact this
    have e2 : k = 0 := by have := (List.getElem?_eq_some_iff.1 h2).1; simp at this; exact this
    subst e1 e2;rw [h1] at h2;injection h2 with h2
    rw [h2];exact Int.le_refl _
  · have e2 : k = 0 := by have := (List.getElem?_eq_some_iff.1 h2).1; simp at this; exact this
    subst e2;rw [h1] at h2;injection h2 with h2
    rw [h2];omega
theorem goS_stop {depth most : Int} : ∀ (f i : Nat) (met : List (Int × Int)), (∀ (j : Nat) (p : Int × Int), i ≤ j → met[j]? = some p → depth ≤ p.2) → goS T depth most f i met = met
  | 0, _, _, _ => rfl
  | f + 1, i, met, h => by
    rw [goS]
    cases hi : met[i]? with
    | none => rfl
    | some p =>
      have := h i p (Nat.le_refl _) hi;simp only;rw [if_neg (by omega)];exact goS_stop f _ met fun j q hj hq => h j q (by omega) hq
theorem goS_depth {d1 d2 most : Int} (hd : d1 ≤ d2) : ∀ (f i : Nat) (met : List (Int × Int)), Mon i met → goS T d1 most f i met <+: goS T d2 most f i met
  | 0, _, _, _ => List.prefix_refl _
  | f + 1, i, met, hm => by
    rw [goS, goS]
    cases hi : met[i]? with
    | none => exact List.prefix_refl _
    | some p =>
      simp only
      by_cases h1 : p.2 < d1
      · rw [if_pos h1, if_pos (by omega)];have hn := hm.next (T := T) hi d1 most;rw [if_pos h1] at hn;exact goS_depth hd f _ _ hn
      · rw [if_neg h1, goS_stop f _ met fun j q hj hq => by have := hm.up i j p q (by omega) hi hq; omega];refine List.IsPrefix.trans ?_ (goS_pre d2 most f _ _)
        split
        · exact addT_pre _ _ _ _
        · exact List.prefix_refl _
end
end Go.Proofs.YtaikghenimfjcaaDoor.Ask
end
section
namespace Go.Proofs.YtaikghenimfjcaaDoor.Ask
inductive Wk (T : Int → List Int) (v : Int) : Int → Nat → Prop
  | nil : Wk T v v 0
  | cons {s t : Int} {n : Nat} (h : Wk T v s n) (ht : t ∈ T s) : Wk T v t (n + 1)
theorem Wk.app {T : Int → List Int} {v s t : Int} {n k : Nat} (h1 : Wk T v s n) (h2 : Wk T s t k) : Wk T v t (n + k) := by
  induction h2 with
  | nil => exact h1
  | cons _ ht ih => exact .cons ih ht
theorem Wk.head {T : Int → List Int} {v s t : Int} {n : Nat} (hs : s ∈ T v) (h : Wk T s t n) : Wk T v t (n + 1) := by
  have := Wk.app (.cons .nil hs) h
  rwa [Nat.add_comm] at this
theorem Wk.turn {T U : Int → List Int} (hu : ∀ a b, b ∈ T a → a ∈ U b) {v t : Int} {n : Nat} (h : Wk T v t n) : Wk U t v n := by
  induction h with
  | nil => exact .nil
  | cons _ ht ih => exact .head (hu _ _ ht) ih
theorem ints_len : ∀ (N : Nat) (l : List Int), l.Nodup → (∀ x ∈ l, 0 ≤ x ∧ x < (N : Int)) → l.length ≤ N
  | 0, l, _, h => by
    cases l with
    | nil => exact Nat.le_refl _
    | cons x l => have := h x List.mem_cons_self; omega
  | N + 1, l, hn, h => by
    have h1 := ints_len N (l.filter (fun x => !decide (x = (N : Int)))) (hn.filter _) fun x hx => by
      obtain ⟨h2, h3⟩ := List.mem_filter.1 hx;have h4 := h x h2;simp at h3;omega
    have h2 : l.length ≤ (l.filter (fun x => !decide (x = (N : Int)))).length + 1 := by
      clear h h1
      induction l with
      | nil => simp
      | cons a l ih =>
        obtain ⟨h3, h4⟩ := List.nodup_cons.1 hn
        by_cases e : a = (N : Int)
        · subst e
          have e2 : l.filter (fun x => !decide (x = (N : Int))) = l := by
            rw [List.filter_eq_self];intro x hx;simp;intro e3;exact h3 (e3 ▸ hx)
          rw [List.filter_cons_of_neg (by simp), e2];simp
        · rw [List.filter_cons_of_pos (by simpa using e)];have := ih h4;simp;omega
    omega
section
variable {T : Int → List Int} {v depth most : Int}
theorem add_next (most d : Int) : ∀ (ts : List Int) (m : List (Int × Int)), ∃ r, addT most d ts m = m ++ r ∧ ∀ q ∈ r, q.2 = d ∧ q.1 ∈ ts
  | [], m => ⟨[], by simp [addT], fun q hq => by cases hq⟩
  | t :: ts, m => by
    rw [addT];obtain ⟨r, h1, h2⟩ := add_next most d ts (if (m.length : Int) < most ∧ ¬ t ∈ m.map (·.1) then m ++ [(t, d)] else m)
    by_cases hc : (m.length : Int) < most ∧ ¬ t ∈ m.map (·.1)
    · rw [if_pos hc] at h1 ⊢
      exact ⟨(t, d) :: r, by rw [h1]; simp, fun q hq => by
        rcases List.mem_cons.1 hq with rfl | hq
        · exact ⟨rfl, List.mem_cons_self⟩
        · exact ⟨(h2 q hq).1, List.mem_cons_of_mem _ (h2 q hq).2⟩⟩
    · rw [if_neg hc] at h1 ⊢;exact ⟨r, h1, fun q hq => ⟨(h2 q hq).1, List.mem_cons_of_mem _ (h2 q hq).2⟩⟩
structure Inv (T : Int → List Int) (v depth most : Int) (N : Nat) (i : Nat) (met : List (Int × Int)) : Prop where
  mon : Mon i met
  nod : (met.map (·.1)).Nodup
  pre : [(v, 0)] <+: met
  snd : ∀ p ∈ met, ∃ n : Nat, p.2 = (n : Int) ∧ Wk T v p.1 n
  dep : ∀ p ∈ met, p.2 ≤ depth
  len : (met.length : Int) ≤ most
  idx : ∀ (k : Nat) (p : Int × Int), met[k]? = some p → p.2 ≤ (k : Int)
  stp : ∀ (k : Nat) (p q : Int × Int), met[k]? = some p → met[k + 1]? = some q → q.2 ≤ p.2 + 1
  rng : ∀ p ∈ met, 0 ≤ p.1 ∧ p.1 < (N : Int)
  don : ∀ (k : Nat) (p : Int × Int), k < i → met[k]? = some p → p.2 < depth → ∀ t ∈ T p.1, (∃ d, (t, d) ∈ met ∧ d ≤ p.2 + 1) ∨ most ≤ (met.length : Int)
theorem Inv.size {N i : Nat} {met : List (Int × Int)} (h : Inv T v depth most N i met) : met.length ≤ N := by
  have := ints_len N _ h.nod fun x hx => by
    obtain ⟨p, hp, rfl⟩ := List.mem_map.1 hx;exact h.rng p hp
  simpa using this
theorem inv_start {N : Nat} (hd : 0 ≤ depth) (hm : 1 ≤ most) (hv : 0 ≤ v ∧ v < (N : Int)) : Inv T v depth most N 0 [(v, 0)] := by
  refine ⟨mon_start v, by simp, List.prefix_refl _, fun p hp => ?_, fun p hp => ?_, by simpa using hm, fun k p hp => ?_, fun k p q hp hq => ?_, fun p hp => ?_, fun k p hk => by omega⟩
  · rw [List.mem_singleton] at hp; subst hp; exact ⟨0, rfl, .nil⟩
  · rw [List.mem_singleton] at hp; subst hp; exact hd
  · have h1 := (List.getElem?_eq_some_iff.1 hp).1;have e : k = 0 := by simp at h1; exact h1
    subst e;injection hp with hp
    subst hp;exact Int.le_refl _
  · have h1 := (List.getElem?_eq_some_iff.1 hq).1;simp at h1
  · rw [List.mem_singleton] at hp; subst hp; exact hv
theorem Inv.next {N i : Nat} {met : List (Int × Int)} {p : Int × Int} (hT : ∀ s t, t ∈ T s → 0 ≤ t ∧ t < (N : Int)) (h : Inv T v depth most N i met) (hi : met[i]? = some p) : Inv T v depth most N (i + 1) (if p.2 < depth then addT most (p.2 + 1) (T p.1) met else met) := by
  have hlt : i < met.length := (List.getElem?_eq_some_iff.1 hi).1;have hpm : p ∈ met := List.mem_of_getElem? hi;have hmon := h.mon.next (T := T) hi depth most
  by_cases hd : p.2 < depth
  · rw [if_pos hd] at hmon ⊢;obtain ⟨r, hr, hrq⟩ := add_next most (p.2 + 1) (T p.1) met;have hnod := addT_nodup most (p.2 + 1) (T p.1) met h.nod;have hlen := addT_most most (p.2 + 1) (T p.1) met h.len;have hall := addT_all most (p.2 + 1) (T p.1) met;rw [hr] at hmon hnod hlen hall ⊢
    have le1 : ∀ q ∈ met ++ r, q.2 ≤ p.2 + 1 := fun q hq => by
      rcases List.mem_append.1 hq with hq | hq
      · obtain ⟨k, hk, e⟩ := List.mem_iff_getElem.1 hq;exact h.mon.near p q k hi (by rw [List.getElem?_eq_getElem hk, e])
      · rw [(hrq q hq).1]; exact Int.le_refl _
    refine ⟨hmon, hnod, h.pre.trans (List.prefix_append _ _), fun q hq => ?_, fun q hq => ?_, hlen, fun k q hq => ?_, fun k x y hx hy => ?_, fun q hq => ?_, fun k x hk hx hxd t ht => ?_⟩
    · rcases List.mem_append.1 hq with hq | hq
      · exact h.snd q hq
      · obtain ⟨n, hn, hw⟩ := h.snd p hpm;obtain ⟨e1, e2⟩ := hrq q hq;exact ⟨n + 1, by rw [e1, hn]; rfl, .cons hw e2⟩
    · have := le1 q hq; omega
    · rcases at_app hq with ⟨_, hq⟩ | ⟨h1, hq⟩
      · exact h.idx k q hq
      · have := h.idx i p hi;rw [(hrq q hq).1];omega
    · rcases at_app hy with ⟨h1, hy⟩ | ⟨h1, hy⟩
      · rw [List.getElem?_append_left (by omega)] at hx;exact h.stp k x y hx hy
      · have h2 : p.2 ≤ x.2 := hmon.up i k p x (by omega) (by rw [List.getElem?_append_left hlt]; exact hi) hx;rw [(hrq y hy).1];omega
    · rcases List.mem_append.1 hq with hq | hq
      · exact h.rng q hq
      · exact hT _ _ (hrq q hq).2
    · have hkl : k < met.length := by omega
      rw [List.getElem?_append_left hkl] at hx
      by_cases e : k = i
      · subst e;rw [hi] at hx;injection hx with hx
        subst hx;rcases hall t ht with h1 | h1
        · obtain ⟨q, hq, e⟩ := List.mem_map.1 h1;subst e;exact .inl ⟨q.2, hq, le1 q hq⟩
        · exact .inr h1
      · rcases h.don k x (by omega) hx hxd t ht with ⟨d, h1, h2⟩ | h1
        · exact .inl ⟨d, List.mem_append_left _ h1, h2⟩
        · exact .inr (by rw [List.length_append]; omega)
  · rw [if_neg hd] at hmon ⊢;refine ⟨hmon, h.nod, h.pre, h.snd, h.dep, h.len, h.idx, h.stp, h.rng, fun k x hk hx hxd => ?_⟩
    by_cases e : k = i
    · subst e;rw [hi] at hx;injection hx with hx
      subst hx;exact absurd hxd hd
    · exact h.don k x (by omega) hx hxd
theorem goS_inv {N : Nat} (hT : ∀ s t, t ∈ T s → 0 ≤ t ∧ t < (N : Int)) : ∀ (f i : Nat) (met : List (Int × Int)), N ≤ f + i → Inv T v depth most N i met → ∃ j, (goS T depth most f i met).length ≤ j ∧ Inv T v depth most N j (goS T depth most f i met)
  | 0, i, met, hf, h => ⟨i, by have := h.size; show met.length ≤ i; omega, h⟩
  | f + 1, i, met, hf, h => by
    rw [goS]
    cases hi : met[i]? with
    | none =>
      refine ⟨i, ?_, h⟩;rcases Nat.lt_or_ge i met.length with q | q
      · rw [List.getElem?_eq_getElem q] at hi; cases hi
      · exact q
    | some p => exact goS_inv hT f (i + 1) _ (by omega) (h.next hT hi)
def srch (T : Int → List Int) (v depth most : Int) (N : Nat) : List (Int × Int) := goS T depth most N 0 [(v, 0)]
theorem srch_inv {N : Nat} (hT : ∀ s t, t ∈ T s → 0 ≤ t ∧ t < (N : Int)) (hd : 0 ≤ depth) (hm : 1 ≤ most) (hv : 0 ≤ v ∧ v < (N : Int)) : ∃ j, (srch T v depth most N).length ≤ j ∧ Inv T v depth most N j (srch T v depth most N) :=
  goS_inv hT N 0 _ (by omega) (inv_start hd hm hv)
theorem srch_all {N : Nat} (hT : ∀ s t, t ∈ T s → 0 ≤ t ∧ t < (N : Int)) (hd : (N : Int) ≤ depth) (hm : (N : Int) < most) (hv : 0 ≤ v ∧ v < (N : Int)) {t : Int} {n : Nat} (h : Wk T v t n) : ∃ d, (t, d) ∈ srch T v depth most N ∧ d ≤ (n : Int) := by
  obtain ⟨j, hj, hI⟩ := srch_inv (T := T) (depth := depth) (most := most) hT (by omega) (by omega) hv
  induction h with
  | nil => exact ⟨0, hI.pre.subset (by simp), Int.le_refl _⟩
  | @cons s t n _ ht ih =>
    obtain ⟨d, h1, h2⟩ := ih;obtain ⟨k, hk, e⟩ := List.mem_iff_getElem.1 h1;have hx : (srch T v depth most N)[k]? = some (s, d) := by rw [List.getElem?_eq_getElem hk, e]
    have h3 := hI.idx k _ hx;have h4 := hI.size;rcases hI.don k (s, d) (by omega) hx (by show d < depth; simp only at h3; omega) t ht with ⟨d', h5, h6⟩ | h5
    · exact ⟨d', h5, by simp only at h6; omega⟩
    · omega
theorem srch_least {N : Nat} (hT : ∀ s t, t ∈ T s → 0 ≤ t ∧ t < (N : Int)) (hd : (N : Int) ≤ depth) (hm : (N : Int) < most) (hv : 0 ≤ v ∧ v < (N : Int)) {t d : Int} (h : (t, d) ∈ srch T v depth most N) : ∃ n : Nat, d = (n : Int) ∧ n < N ∧ Wk T v t n ∧ ∀ k : Nat, Wk T v t k → n ≤ k := by
  obtain ⟨j, hj, hI⟩ := srch_inv (T := T) (depth := depth) (most := most) hT (by omega) (by omega) hv;obtain ⟨n, hn, hw⟩ := hI.snd _ h;obtain ⟨i, hi, e⟩ := List.mem_iff_getElem.1 h;have h3 := hI.idx i (t, d) (by rw [List.getElem?_eq_getElem hi, e]);have h4 := hI.size;simp only at hn hw h3;refine ⟨n, hn, by omega, hw, fun k hk => ?_⟩;obtain ⟨d', h5, h6⟩ := srch_all hT hd hm hv hk
  have hu : d' = d := by
    obtain ⟨a, ha, e1⟩ := List.mem_iff_getElem.1 h5;have hnd := hI.nod;rw [List.nodup_iff_pairwise_ne] at hnd
    by_cases hai : a = i
    · subst hai;rw [e] at e1;injection e1 with _ e2
      exact e2.symm
    · exfalso
      have hp := List.pairwise_iff_getElem.1 hnd;rcases Nat.lt_or_gt_of_ne hai with q | q
      · have := hp a i (by simpa using ha) (by simpa using hi) q;rw [List.getElem_map, List.getElem_map, e1, e] at this;exact this rfl
      · have := hp i a (by simpa using hi) (by simpa using ha) q;rw [List.getElem_map, List.getElem_map, e1, e] at this;exact this rfl
  omega
end
end Go.Proofs.YtaikghenimfjcaaDoor.Ask
end
section
namespace Go.Proofs.YtaikghenimfjcaaDoor.Ask
section
variable {T : Int → List Int} {v : Int} {N : Nat}
theorem srch_most (hT : ∀ s t, t ∈ T s → 0 ≤ t ∧ t < (N : Int)) {d a b : Int} (hd : 0 ≤ d) (ha : (N : Int) < a) (hab : a ≤ b) (hv : 0 ≤ v ∧ v < (N : Int)) : srch T v d a N = srch T v d b N := by
  obtain ⟨j, -, hI⟩ := srch_inv (T := T) (depth := d) (most := b) hT hd (by omega) hv;have h := goS_less (T := T) (depth := d) hab N 0 [(v, 0)] (by simp; omega);have hs := hI.size;unfold srch at hs ⊢;rw [h, List.take_of_length_le (by omega)]
theorem srch_deep (hT : ∀ s t, t ∈ T s → 0 ≤ t ∧ t < (N : Int)) {a b m : Int} (ha : (N : Int) ≤ a) (hab : a ≤ b) (hm : (N : Int) < m) (hv : 0 ≤ v ∧ v < (N : Int)) : srch T v a m N = srch T v b m N := by
  obtain ⟨j, -, hI⟩ := srch_inv (T := T) (depth := b) (most := m) hT (by omega) (by omega) hv;have h : srch T v a m N <+: srch T v b m N := goS_depth (T := T) hab N 0 [(v, 0)] (mon_start v);obtain ⟨r, hr⟩ := h
  cases r with
  | nil => rw [List.append_nil] at hr; exact hr
  | cons q r =>
    exfalso
    have hq : q ∈ srch T v b m N := by rw [← hr]; simp
    obtain ⟨n, -, hw⟩ := hI.snd q hq;obtain ⟨d, h1, -⟩ := srch_all (T := T) hT ha hm hv hw;have hn := hI.nod;rw [← hr, List.map_append, List.nodup_append] at hn;exact hn.2.2 q.1 (List.mem_map.2 ⟨_, h1, rfl⟩) q.1 (by simp) rfl
theorem srch_big (hT : ∀ s t, t ∈ T s → 0 ≤ t ∧ t < (N : Int)) {a b m k : Int} (ha : (N : Int) ≤ a) (hb : (N : Int) ≤ b) (hm : (N : Int) < m) (hk : (N : Int) < k) (hv : 0 ≤ v ∧ v < (N : Int)) : srch T v a m N = srch T v b k N := by
  have h1 : srch T v a m N = srch T v b m N := by
    rcases Int.le_total a b with h | h
    · exact srch_deep hT ha h hm hv
    · exact (srch_deep hT hb h hm hv).symm
  rw [h1];rcases Int.le_total m k with h | h
  · exact srch_most hT (by omega) hm h hv
  · exact (srch_most hT (by omega) hk h hv).symm
end
end Go.Proofs.YtaikghenimfjcaaDoor.Ask
end
section
namespace Go.Proofs.YtaikghenimfjcaaDoor.Ask
def mtL (l : List (Int × Int × Int)) : List (Int × Int) := l.map fun e => (e.1, e.2.2)
theorem mtL_len (l : List (Int × Int × Int)) : (mtL l).length = l.length := by simp [mtL]
theorem mtL_fst (l : List (Int × Int × Int)) : (mtL l).map (·.1) = l.map (·.1) := by simp [mtL, Function.comp_def]
theorem mtL_app (l r : List (Int × Int × Int)) : mtL (l ++ r) = mtL l ++ mtL r := List.map_append
def addW (most thr d : Int) : List Int → List (Int × Int × Int) → List (Int × Int × Int)
  | [], l => l
  | t :: r, l => addW most thr d r (if (l.length : Int) < most ∧ ¬ t ∈ l.map (·.1) then l ++ [(t, thr, d)] else l)
section
variable {most thr d : Int}
theorem addW_met : ∀ (ts : List Int) (l : List (Int × Int × Int)), mtL (addW most thr d ts l) = addT most d ts (mtL l)
  | [], _ => rfl
  | t :: r, l => by
    rw [addW, addT, addW_met r, mtL_len, mtL_fst]
    congr 1
    split
    · rw [mtL_app]; rfl
    · rfl
theorem addW_full : ∀ (ts : List Int) (l : List (Int × Int × Int)), most ≤ (l.length : Int) → addW most thr d ts l = l
  | [], _, _ => rfl
  | t :: r, l, h => by rw [addW, if_neg (fun q => by omega), addW_full r l h]
theorem addW_len (ts : List Int) (l : List (Int × Int × Int)) : l.length ≤ (addW most thr d ts l).length := by
  rw [← mtL_len, ← mtL_len, addW_met];exact (addT_pre most d ts _).length_le
def Par (T : Int → List Int) (v : Int) (l : List (Int × Int × Int)) : Prop := ∀ e ∈ l, e = (v, v, 0) ∨ ∃ p ∈ l, p.1 = e.2.1 ∧ e.2.2 = p.2.2 + 1 ∧ e.1 ∈ T p.1
variable {T : Int → List Int} {v : Int}
theorem par_one : Par T v [(v, v, 0)] := fun _ he => .inl (List.mem_singleton.1 he)
theorem Par.add {p : Int × Int × Int} (hp1 : p.1 = thr) (hp2 : d = p.2.2 + 1) : ∀ (ts : List Int) (l : List (Int × Int × Int)), p ∈ l → (∀ t ∈ ts, t ∈ T p.1) → Par T v l → Par T v (addW most thr d ts l)
  | [], _, _, _, h => h
  | t :: r, l, hl, ht, h => by
    rw [addW]
    split
    · refine Par.add hp1 hp2 r _ (List.mem_append_left _ hl) (fun x hx => ht x (List.mem_cons_of_mem _ hx)) fun e he => ?_;rcases List.mem_append.1 he with he | he
      · rcases h e he with h1 | ⟨q, hq, h1⟩
        · exact .inl h1
        · exact .inr ⟨q, List.mem_append_left _ hq, h1⟩
      · rw [List.mem_singleton] at he;subst he;exact .inr ⟨p, List.mem_append_left _ hl, hp1, hp2, ht t List.mem_cons_self⟩
    · exact Par.add hp1 hp2 r l hl (fun x hx => ht x (List.mem_cons_of_mem _ hx)) h
end
theorem ent_uniq {l : List (Int × Int × Int)} (h : (l.map (·.1)).Nodup) {a b : Int × Int × Int} (ha : a ∈ l) (hb : b ∈ l) (e : a.1 = b.1) : a = b := by
  induction l with
  | nil => cases ha
  | cons x l ih =>
    rw [List.map_cons, List.nodup_cons] at h;rcases List.mem_cons.1 ha with h1 | h1
    · rcases List.mem_cons.1 hb with h2 | h2
      · rw [h1, h2]
      · subst h1;exact (h.1 (List.mem_map.2 ⟨b, h2, e.symm⟩)).elim
    · rcases List.mem_cons.1 hb with h2 | h2
      · subst h2;exact (h.1 (List.mem_map.2 ⟨a, h1, e⟩)).elim
      · exact ih h.2 h1 h2
theorem srch_all_most {T : Int → List Int} {v : Int} {N : Nat} (hT : ∀ s t, t ∈ T s → 0 ≤ t ∧ t < (N : Int)) {d a b : Int} (hd : 0 ≤ d) (ha : (N : Int) ≤ a) (hab : a ≤ b) (hv : 0 ≤ v ∧ v < (N : Int)) : srch T v d a N = srch T v d b N := by
  obtain ⟨j, -, hI⟩ := srch_inv (T := T) (depth := d) (most := b) hT hd (by omega) hv;have h := goS_less (T := T) (depth := d) hab N 0 [(v, 0)] (by simp; omega);have hs := hI.size;unfold srch at hs ⊢;rw [h, List.take_of_length_le (by omega)]
structure Whole (T : Int → List Int) (v : Int) (N : Nat) (l : List (Int × Int × Int)) : Prop where
  met : mtL l = srch T v (N : Int) ((N : Int) + 1) N
  par : Par T v l
section
variable {T : Int → List Int} {v : Int} {N : Nat} {l : List (Int × Int × Int)}
theorem Whole.nodup (hT : ∀ s t, t ∈ T s → 0 ≤ t ∧ t < (N : Int)) (hv : 0 ≤ v ∧ v < (N : Int)) (h : Whole T v N l) : (l.map (·.1)).Nodup := by
  obtain ⟨j, -, hI⟩ := srch_inv (T := T) (depth := (N : Int)) (most := (N : Int) + 1) hT (by omega) (by omega) hv;have := hI.nod
  rwa [← h.met, mtL_fst] at this
theorem Whole.one (hT : ∀ s t, t ∈ T s → 0 ≤ t ∧ t < (N : Int)) (hv : 0 ≤ v ∧ v < (N : Int)) (h : Whole T v N l) : ∃ t, (v, t, 0) ∈ l := by
  obtain ⟨j, -, hI⟩ := srch_inv (T := T) (depth := (N : Int)) (most := (N : Int) + 1) hT (by omega) (by omega) hv;have h1 : (v, 0) ∈ mtL l := by rw [h.met]; exact hI.pre.subset (by simp)
  obtain ⟨e, he, e1⟩ := List.mem_map.1 h1;obtain ⟨a, b, c⟩ := e;injection e1 with e1 e2
  simp only at e1 e2;subst e1 e2;exact ⟨b, he⟩
theorem Whole.far (hT : ∀ s t, t ∈ T s → 0 ≤ t ∧ t < (N : Int)) (hv : 0 ≤ v ∧ v < (N : Int)) (h : Whole T v N l) {e : Int × Int × Int} (he : e ∈ l) : ∃ n : Nat, e.2.2 = (n : Int) ∧ n < N ∧ Wk T v e.1 n ∧ ∀ k : Nat, Wk T v e.1 k → n ≤ k :=
  srch_least (depth := (N : Int)) (most := (N : Int) + 1) hT (Int.le_refl _) (by omega) hv (by rw [← h.met]; exact List.mem_map.2 ⟨e, he, rfl⟩)
theorem Whole.has (hT : ∀ s t, t ∈ T s → 0 ≤ t ∧ t < (N : Int)) (hv : 0 ≤ v ∧ v < (N : Int)) (h : Whole T v N l) {t : Int} {n : Nat} (hw : Wk T v t n) : ∃ e ∈ l, e.1 = t := by
  obtain ⟨d, h1, -⟩ := srch_all (depth := (N : Int)) (most := (N : Int) + 1) hT (Int.le_refl _) (by omega) hv hw;rw [← h.met] at h1;obtain ⟨e, he, e1⟩ := List.mem_map.1 h1;exact ⟨e, he, by injection e1⟩
theorem Whole.back (hT : ∀ s t, t ∈ T s → 0 ≤ t ∧ t < (N : Int)) (hv : 0 ≤ v ∧ v < (N : Int)) (h : Whole T v N l) {e : Int × Int × Int} (he : e ∈ l) : (e.1 = v ∧ e.2.2 = 0) ∨ (e.1 ≠ v ∧ ∃ p ∈ l, p.1 = e.2.1 ∧ e.2.2 = p.2.2 + 1 ∧ e.1 ∈ T p.1) := by
  by_cases hev : e.1 = v
  · refine .inl ⟨hev, ?_⟩;obtain ⟨t, h1⟩ := h.one hT hv;rw [ent_uniq (h.nodup hT hv) he h1 hev]
  · rcases h.par e he with h1 | h1
    · rw [h1] at hev; exact absurd rfl hev
    · exact .inr ⟨hev, h1⟩
end
end Go.Proofs.YtaikghenimfjcaaDoor.Ask
end
section
namespace Go.Proofs.YtaikghenimfjcaaDoor.Own
open Go Go.RowKit Go.Lib
structure Kept (v v' : World) (r : Option Nat) (g' : Nat) : Prop where
  at' : r = some g' ∨ v.heap.size ≤ g'
  lt : g' < v'.heap.size
  size : v.heap.size ≤ v'.heap.size
  grown : v.grownBy v' r
theorem Kept.row {v v' : World} {r : Option Nat} {g' B size n : Nat} {e : TypeId} {d : Value} {xs : List Value} (h : Kept v v' r g') (ho : v.ownsRow B e size d n xs) (hne : d.ownBlock = none ∨ d.ownBlock ≠ r) : v'.ownsRow B e size d n xs := ho.kept h.grown hne
theorem Kept.cell {v v' : World} {r : Option Nat} {g' b o : Nat} (h : Kept v v' r g') (hlt : b < v.heap.size) (hne : some b ≠ r) : v'.cell? ⟨b, o, none⟩ = v.cell? ⟨b, o, none⟩ := h.grown.cell_far ⟨b, o, none⟩ hlt hne
structure Elem (P : Program) (T e : TypeId) (z : Value) (size bytes : Nat) : Prop where
  under : P.underlying T = some (.slice e)
  info : (P.info? e).map (fun i => (i.zero, i.size, i.bytes)) = some (some z, size, bytes)
  cells : z.cells.size = size
  pos : 0 < size
section
variable {P : Program} {T e : TypeId} {z : Value} {size bytes : Nat}
theorem Elem.parts (h : Elem P T e z size bytes) : ∃ i, P.info? e = some i ∧ i.zero = some z ∧ i.size = size ∧ i.bytes = bytes := by
  have hi := h.info
  cases hq : P.info? e with
  | none => rw [hq] at hi; cases hi
  | some i =>
    rw [hq] at hi;simp only [Option.map_some, Option.some.injEq, Prod.mk.injEq] at hi;exact ⟨i, rfl, hi.1, hi.2.1, hi.2.2⟩
theorem append (h : Elem P T e z size bytes) (w0 v : World) (ty : TypeId) (A : Option Addr) (n cap m c : Nat) (xs : List Value) (hO : v.ownsRow w0.heap.size e size (.slice A n cap) n xs)
    (b : Addr) (news : List Value) (hl : news.length = m * size) (hnews : ∀ j u, news[j]? = some u → v.cell? (b.add j) = some u) (h1 : ∀ u ∈ news, u.oneCell' = true) (hp : 0 < n + m) (hmax : n + m ≤ maxLen) (hby : (n + m) * bytes ≤ 140737488355328) (hb : Below w0.heap.size w0 v) :
    ∃ g' cap' v', (Builtin.append_ #[T, T] ty #[.slice A n cap, .slice (some b) m c]).run P v = .ok (.slice (some ⟨g', 0, none⟩) (n + m) cap') v' ∧
      v'.ownsRow w0.heap.size e size (.slice (some ⟨g', 0, none⟩) (n + m) cap') (n + m) (xs ++ news) ∧ Below w0.heap.size w0 v' ∧ Kept v v' (Value.slice A n cap).ownBlock g' := by
  obtain ⟨i, hi, hz0, hz1, hz2⟩ := h.parts;obtain ⟨v1, v', hrun, h3, h4, _, h5⟩ := run_append_own_at (P := P) (w := v) w0.heap.size T ty e i z size bytes h.under hi hz0 hz1 hz2 h.cells h.pos (.slice A n cap) n xs hO b m c news hl hnews h1 hmax hby hb.size;obtain ⟨g', cap', rfl, h6, h7⟩ := h3.form hp;refine ⟨g', cap', v', hrun, h3, hb.grown h4 hb.size (fun k hk => (hO.lt k hk).1), ?_, h7, h4.size, h4⟩;rcases h5 with h | h
  · exact .inl (by rw [← h]; rfl)
  · simp [Value.ownBlock] at h; exact .inr (by omega)
theorem new_row (w : World) (B : Nat) (e : TypeId) (size : Nat) (hB : B ≤ w.heap.size) : (w.alloc (.cells #[] e)).ownsRow B e size (.slice (some ⟨w.heap.size, 0, none⟩) 0 0) 0 [] :=
  ⟨by simp, .inr ⟨w.heap.size, 0, #[], rfl, hB, heap_alloc_new _ _, Nat.le_refl _, Nat.zero_le _, by simp, by simp⟩⟩
theorem row_on {w w' : World} {B size n : Nat} {e : TypeId} {d : Value} {xs : List Value} (h : w.ownsRow B e size d n xs) (hb : Below w.heap.size w w') : w'.ownsRow B e size d n xs := by
  obtain ⟨h1, h2⟩ := h;refine ⟨h1, ?_⟩;rcases h2 with h2 | ⟨g, cap, cur, e1, e2, e3, e4⟩
  · exact .inl h2
  · refine .inr ⟨g, cap, cur, e1, e2, ?_, e4⟩
    rw [hb.block g (by
      rcases Nat.lt_or_ge g w.heap.size with h | h
      · exact h
      · rw [Array.getElem?_eq_none h] at e3; cases e3)]
    exact e3
theorem below_drew {B : Nat} {w w' : World} (h : Below B w w') : Below B w w'.drew := ⟨h.1, h.2, h.3, h.4, h.5⟩
theorem undrew {B : Nat} {w w' : World} (h : Below B w.drew w') : Below B w w' := ⟨h.1, h.2, h.3, h.4, h.5⟩
theorem below_drewN {B : Nat} {w w' : World} (h : Below B w w') (n : Nat) : Below B w (w'.drewN n) := ⟨h.1, h.2, h.3, h.4, h.5⟩
end
end Go.Proofs.YtaikghenimfjcaaDoor.Own
end
section
namespace Go.Proofs.YtaikghenimfjcaaDoor.Kn
open Go
def find : List (Nat × Value) → Nat → Option Value
  | [], _ => none
  | (k, v) :: l, t => bif Nat.beq k t then some v else find l t
def nth : List Value → Nat → Option Value
  | [], _ => none
  | v :: l, t => match t with
    | 0 => some v
    | t + 1 => nth l t
theorem nth_eq : ∀ (l : List Value) (t : Nat), nth l t = l[t]?
  | [], t => by simp [nth]
  | v :: l, 0 => by simp [nth]
  | v :: l, t + 1 => by simp [nth, nth_eq l t]
structure Kn (n : Nat) (l : List (Nat × Value)) (a : Act) : Prop where
  defers : a.defers = []
  size : a.tmps.size = n
  get : ∀ t v, find l t = some v → a.eval (.tmp t) = v
inductive Val (l : List (Nat × Value)) : Operand → Value → Prop
  | tmp {t : Tmp} {v : Value} (h : find l t = some v) : Val l (.tmp t) v
  | const {v : Value} : Val l (.const v) v
  | global {g : Nat} : Val l (.global g) (.pointer (some ⟨g, 0, none⟩))
  | func {f : FuncId} : Val l (.func f) (.func (.func f) #[] #[])
inductive Vals (l : List (Nat × Value)) : List Operand → List Value → Prop
  | nil : Vals l [] []
  | cons {x : Operand} {v : Value} {xs : List Operand} {vs : List Value} (h : Val l x v) (t : Vals l xs vs) : Vals l (x :: xs) (v :: vs)
inductive Wants (ops : Array Oper) (l : List (Nat × Value)) : Option (Nat × Bool) → Bool → Prop
  | none : Wants ops l none true
  | some {j : Nat} {b c r : Bool} {d : Tmp} (h : (ops[j]?).bind (·.dst) = some d) (hv : find l d = some (.bool c)) (hr : (c == b) = r) : Wants ops l (some (j, b)) r
  | gone {j : Nat} {b : Bool} {d : Tmp} (h : (ops[j]?).bind (·.dst) = some d) (hv : find l d = some undef) : Wants ops l (some (j, b)) false
theorem beq_no {i j : Nat} (h : i ≠ j) : Nat.beq i j = false := by
  cases e : Nat.beq i j with
  | true => exact absurd (Nat.eq_of_beq_eq_true e) h
  | false => rfl
section
variable {P : Program} {n : Nat} {l : List (Nat × Value)} {a : Act} {ops : Array Oper} {Q : Exit → Act → World → Prop} {w : World} {rest : List Oper}
theorem Kn.val (h : Kn n l a) {x : Operand} {v : Value} (hv : Val l x v) : a.eval x = v := by
  cases hv with
  | tmp ht => exact h.get _ _ ht
  | const => rfl
  | global => rfl
  | func => rfl
theorem Kn.vals (h : Kn n l a) {xs : List Operand} {vs : List Value} (hv : Vals l xs vs) : xs.toArray.map a.eval = vs.toArray := by
  have : xs.map a.eval = vs := by
    induction hv with
    | nil => rfl
    | cons h1 _ ih => rw [List.map_cons, h.val h1, ih]
  rw [List.map_toArray, this]
theorem Kn.put (h : Kn n l a) {d : Tmp} (hd : Nat.blt d n = true) (v : Value) : Kn n ((d, v) :: l) (a.put (some d) v) := by
  have hd' : d < a.tmps.size := by rw [h.size]; exact Nat.le_of_ble_eq_true hd
  refine ⟨h.defers, by simp [Act.put, h.size], fun t u hu => ?_⟩
  by_cases e : d = t
  · subst e;rw [find, Nat.beq_refl] at hu;simp at hu;subst hu;simp [Act.put, Act.eval, hd']
  · rw [find, beq_no e] at hu;have := h.get t u (by simpa using hu);rw [← this];simp only [Act.put, Act.eval];rw [Array.getD_eq_getD_getElem?, Array.getD_eq_getD_getElem?, Array.getElem?_setIfInBounds_ne e]
theorem Kn.wants (h : Kn n l a) {o : Oper} {r : Bool} (hw : Wants ops l o.guard r) : Region.wanted o (yielded ops a.tmps) = r := by
  unfold Region.wanted;generalize o.guard = g at hw
  cases hw with
  | none => rfl
  | @some j b c r d hj hv hr =>
    have h1 := h.get _ _ hv
    have h2 : a.tmps[d]? = some (.bool c) := by
      simp only [Act.eval] at h1;rw [Array.getD_eq_getD_getElem?] at h1
      cases e : a.tmps[d]? with
      | none => rw [e] at h1; simp [undef] at h1
      | some u => rw [e] at h1; simp at h1; rw [h1]
    simp only [yielded, hj, Option.bind_some, h2];rw [← hr];cases c <;> cases b <;> rfl
  | @gone j b d hj hv =>
    have h1 := h.get _ _ hv
    have h2 : ∀ c, a.tmps[d]? ≠ some (.bool c) := fun c e => by
      simp only [Act.eval] at h1;rw [Array.getD_eq_getD_getElem?, e] at h1;simp [undef] at h1
    simp only [yielded, hj, Option.bind_some]
    cases e : a.tmps[d]? with
    | none => rfl
    | some u => cases u <;> first | rfl | exact absurd e (h2 _)
theorem Kn.more (h : Kn n l a) {t : Tmp} {v : Value} (hv : a.eval (.tmp t) = v) : Kn n ((t, v) :: l) a := by
  refine ⟨h.defers, h.size, fun s u hu => ?_⟩;rw [find] at hu
  by_cases e : t = s
  · subst e;rw [Nat.beq_refl] at hu;simp at hu;rw [hv, hu]
  · rw [beq_no e] at hu;exact h.get _ _ (by simpa using hu)
theorem Kn.nil (hd : a.defers = []) (hs : a.tmps.size = n) : Kn n [] a := ⟨hd, hs, fun t v h => by simp [find] at h⟩
def Sat (K : Value → World → Prop) : Result Value → Prop
  | .ok v w => K v w
  | .halt _ _ => False
@[go_sem] theorem sat_ok (K : Value → World → Prop) (v : Value) (w : World) : Sat K (.ok v w) = K v w := rfl
def SatU (K : World → Prop) : Result Unit → Prop
  | .ok _ w => K w
  | .halt _ _ => False
@[go_sem] theorem satU_ok (K : World → Prop) (v : Unit) (w : World) : SatU K (.ok v w) = K w := rfl
abbrev vl (s : Sem Value) : Sem Next := do pure (.value (← s))
abbrev ul (s : Sem Unit) : Sem Next := do s; pure .skip
section exec
variable {d : Option Tmp} {t : TypeId} {p : String} {af : Array Edge} {g : Option (Nat × Bool)} {x y z : Operand} {vx vy vz : Value}
theorem ex_move (h : Kn n l a) (hx : Val l x vx) : execOp a.eval ⟨d, .move x, t, p, af, g⟩ = vl (pure vx) := by simp only [execOp, h.val hx]; rfl
theorem ex_assign (h : Kn n l a) (hx : Val l x vx) : execOp a.eval ⟨d, .assign x, t, p, af, g⟩ = vl (pure vx) := by simp only [execOp, h.val hx]; rfl
theorem ex_pick {c : Operand} {b : Bool} {v : Value} (h : Kn n l a) (hc : Val l c (.bool b)) (hv : Val l (if b then x else y) v) : execOp a.eval ⟨d, .pick c x y, t, p, af, g⟩ = vl (pure v) := by
  have e : (if b then a.eval x else a.eval y) = v := by rw [← h.val hv]; cases b <;> rfl
  simp only [execOp, h.val hc]; rw [← e]; rfl
theorem ex_extract {i : Nat} {vs : Array Value} {v : Value} (h : Kn n l a) (hx : Val l x (.tuple vs)) (hi : vs[i]? = some v) : execOp a.eval ⟨d, .extract x i, t, p, af, g⟩ = vl (pure v) := by
  simp only [execOp, h.val hx, Instr.extract, hi]
theorem ex_bin {op : BinOp} {tx ty : TypeId} (h : Kn n l a) (hx : Val l x vx) (hy : Val l y vy) : execOp a.eval ⟨d, .binOp op tx x y ty, t, p, af, g⟩ = vl (do eqGuard op tx x y vx vy; binOp op tx vx vy) := by simp only [execOp, h.val hx, h.val hy]
theorem ex_un {op : UnOp} {tx : TypeId} (h : Kn n l a) (hx : Val l x vx) : execOp a.eval ⟨d, .unOp op tx x, t, p, af, g⟩ = vl (Op.unary op vx) := by simp only [execOp, h.val hx]
theorem ex_alloc {e : TypeId} : execOp a.eval ⟨d, .alloc e, t, p, af, g⟩ = vl (Instr.alloc e true (.tuple #[])) := rfl
theorem ex_box {e : TypeId} (h : Kn n l a) (hx : Val l x vx) : execOp a.eval ⟨d, .box e x, t, p, af, g⟩ = vl (Instr.box e vx) := by simp only [execOp, h.val hx]
theorem ex_load {e : TypeId} (h : Kn n l a) (hx : Val l x vx) : execOp a.eval ⟨d, .load e x, t, p, af, g⟩ = vl (Instr.loadAt e vx) := by simp only [execOp, h.val hx]
theorem ex_store {e : TypeId} (h : Kn n l a) (hx : Val l x vx) (hy : Val l y vy) : execOp a.eval ⟨d, .store e x y, t, p, af, g⟩ = ul (Instr.storeAt e vx vy) := by simp only [execOp, h.val hx, h.val hy]
theorem ex_fieldAddr {e : TypeId} {f : Nat} (h : Kn n l a) (hx : Val l x vx) : execOp a.eval ⟨d, .fieldAddr e x f, t, p, af, g⟩ = vl (Instr.fieldAt e vx f) := by simp only [execOp, h.val hx]
theorem ex_field {e : TypeId} {f : Nat} (h : Kn n l a) (hx : Val l x vx) : execOp a.eval ⟨d, .field e x f, t, p, af, g⟩ = vl (Instr.field e vx f) := by simp only [execOp, h.val hx]
theorem ex_indexAddr {e : TypeId} (h : Kn n l a) (hx : Val l x vx) (hy : Val l y vy) : execOp a.eval ⟨d, .indexAddr e x y, t, p, af, g⟩ = vl (Instr.indexAt e vx vy) := by simp only [execOp, h.val hx, h.val hy]
theorem ex_makeSlice {e : TypeId} (h : Kn n l a) (hx : Val l x vx) (hy : Val l y vy) : execOp a.eval ⟨d, .makeSlice e x y, t, p, af, g⟩ = vl (Instr.makeSlice e vx vy) := by simp only [execOp, h.val hx, h.val hy]
theorem ex_makeInterface {e : TypeId} (h : Kn n l a) (hx : Val l x vx) : execOp a.eval ⟨d, .makeInterface e x, t, p, af, g⟩ = vl (Instr.makeInterface e vx) := by simp only [execOp, h.val hx]
theorem ex_sliceL {e : TypeId} (h : Kn n l a) (hx : Val l x vx) (hy : Val l y vy) : execOp a.eval ⟨d, .slice e x (some y) none none, t, p, af, g⟩ = vl (Instr.sliceAt e vx (some vy) none none) := by simp only [execOp, h.val hx, h.val hy, Option.map]
theorem ex_sliceH {e : TypeId} (h : Kn n l a) (hx : Val l x vx) (hy : Val l y vy) : execOp a.eval ⟨d, .slice e x none (some y) none, t, p, af, g⟩ = vl (Instr.sliceAt e vx none (some vy) none) := by simp only [execOp, h.val hx, h.val hy, Option.map]
theorem ex_sliceLH {e : TypeId} (h : Kn n l a) (hx : Val l x vx) (hy : Val l y vy) (hz : Val l z vz) : execOp a.eval ⟨d, .slice e x (some y) (some z) none, t, p, af, g⟩ = vl (Instr.sliceAt e vx (some vy) (some vz) none) := by simp only [execOp, h.val hx, h.val hy, h.val hz, Option.map]
theorem ex_buildSlice {e : TypeId} {m : Nat} {ps : Array (Nat × Operand)} {us : List Value} (h : Kn n l a) (hx : Vals l (ps.toList.map (·.2)) us) : execOp a.eval ⟨d, .buildSlice e m ps, t, p, af, g⟩ = vl (Instr.buildSlice e m ((ps.toList.map (·.1)).zip us).toArray) := by
  have e1 : (ps.map fun (i, x) => (i, a.eval x)) = ((ps.toList.map (·.1)).zip us).toArray := by
    have := h.vals hx;rw [List.map_toArray] at this;have h2 : (ps.toList.map (·.2)).map a.eval = us := by simpa using this
    rw [← h2]
    apply Array.ext'
    simp only [Array.toList_map, List.map_map, List.zip_map'];exact List.map_congr_left fun p _ => rfl
  simp only [execOp, e1]
theorem ex_build {e : TypeId} {ps : Array (Nat × Operand)} {us : List Value} (h : Kn n l a) (hx : Vals l (ps.toList.map (·.2)) us) : execOp a.eval ⟨d, .build e ps, t, p, af, g⟩ = vl (Instr.build e ((ps.toList.map (·.1)).zip us).toArray) := by
  have e1 : (ps.map fun (i, x) => (i, a.eval x)) = ((ps.toList.map (·.1)).zip us).toArray := by
    have := h.vals hx;rw [List.map_toArray] at this;have h2 : (ps.toList.map (·.2)).map a.eval = us := by simpa using this
    rw [← h2]
    apply Array.ext'
    simp only [Array.toList_map, List.map_map, List.zip_map'];exact List.map_congr_left fun p _ => rfl
  simp only [execOp, e1]
theorem ex_len {ats : Array TypeId} (h : Kn n l a) (hx : Val l x vx) : execOp a.eval ⟨d, .call { callee := .builtin .len, args := #[x], argTypes := ats }, t, p, af, g⟩ = vl (Builtin.len_ ats t #[vx]) := by
  rw [BigFrame.execOp_builtin, BigFrame.builtin_len]; simp [h.val hx]
theorem ex_min {ats : Array TypeId} {xs : Array Operand} {us : List Value} (h : Kn n l a) (hx : Vals l xs.toList us) : execOp a.eval ⟨d, .call { callee := .builtin .min, args := xs, argTypes := ats }, t, p, af, g⟩ = vl (Builtin.min_ ats t us.toArray) := by
  rw [BigFrame.execOp_builtin, BigFrame.builtin_min, show xs.map a.eval = us.toArray by have := h.vals hx; rwa [Array.toArray_toList] at this]
theorem ex_append {ats : Array TypeId} {xs : Array Operand} {us : List Value} (h : Kn n l a) (hx : Vals l xs.toList us) : execOp a.eval ⟨d, .call { callee := .builtin .append, args := xs, argTypes := ats }, t, p, af, g⟩ = vl (Builtin.append_ ats t us.toArray) := by
  rw [BigFrame.execOp_builtin, BigFrame.builtin_append, show xs.map a.eval = us.toArray by have := h.vals hx; rwa [Array.toArray_toList] at this]
theorem ex_max {ats : Array TypeId} {xs : Array Operand} {us : List Value} (h : Kn n l a) (hx : Vals l xs.toList us) : execOp a.eval ⟨d, .call { callee := .builtin .max, args := xs, argTypes := ats }, t, p, af, g⟩ = vl (Builtin.max_ ats t us.toArray) := by
  rw [BigFrame.execOp_builtin, BigFrame.builtin_max, show xs.map a.eval = us.toArray by have := h.vals hx; rwa [Array.toArray_toList] at this]
theorem ex_lookup {e : TypeId} {ok : Bool} (h : Kn n l a) (hx : Val l x vx) (hy : Val l y vy) : execOp a.eval ⟨d, .lookup e x y ok, t, p, af, g⟩ = vl (Instr.lookup e vx vy ok) := by simp only [execOp, h.val hx, h.val hy]
theorem ex_call {f : FuncId} {xs : Array Operand} {us : List Value} {ats : Array TypeId} (h : Kn n l a) (hx : Vals l xs.toList us) : execOp a.eval ⟨d, .call { callee := .value (.func f), args := xs, argTypes := ats }, t, p, af, g⟩ = callFunc f us.toArray := by
  have e : xs.map a.eval = us.toArray := by have := h.vals hx; rwa [Array.toArray_toList] at this
  rw [execOp_call_go, e]; simp
end exec
def Nx (P : Program) (n : Nat) (l : List (Nat × Value)) (ops : Array Oper) (Q : Exit → Act → World → Prop) (rest : List Oper) (d : Tmp) (v : Value) (w : World) : Prop := ∀ a, Kn n ((d, v) :: l) a → wpList P ops Q rest a w
theorem run_value (s : Sem Value) (w : World) (K : Act → World → Prop) (o : Oper) (a : Act) (H : Sat (fun v w' => K (a.put o.dst v) w') (s.run P w)) (he : execOp a.eval o = vl s) : o.wp P a w K Q := by
  unfold Oper.wp;rw [he]
  cases hs : s.run P w with
  | ok v w' =>
    rw [hs] at H;simp [go_sem, hs];exact H
  | halt x w' => rw [hs] at H; exact H.elim
theorem step {o : Oper} {d : Tmp} {s : Sem Value} (h : Kn n l a) (hd : o.dst = some d) (hdn : Nat.blt d n = true) (hw : Wants ops l o.guard true) (he : execOp a.eval o = vl s)
    (H : ∀ K : Value → World → Prop, (∀ v w', Nx P n l ops Q rest d v w' → K v w') → Sat K (s.run P w)) : wpList P ops Q (o :: rest) a w := by
  refine wpList_step fun K hK => ?_;rw [h.wants hw, if_pos rfl];refine run_value s w K o a (H _ fun v w' hn => ?_) he;rw [hd];exact hK _ _ (hn _ (h.put hdn v))
theorem pure {o : Oper} {d : Tmp} {v : Value} (h : Kn n l a) (hd : o.dst = some d) (hdn : Nat.blt d n = true) (hw : Wants ops l o.guard true) (he : execOp a.eval o = vl (.pure v))
    (H : Nx P n l ops Q rest d v w) : wpList P ops Q (o :: rest) a w := step h hd hdn hw he fun _ hK => hK _ _ H
theorem known {o : Oper} {d : Tmp} {s : Sem Value} {v : Value} {w' : World} (h : Kn n l a) (hd : o.dst = some d) (hdn : Nat.blt d n = true) (hw : Wants ops l o.guard true) (he : execOp a.eval o = vl s)
    (hr : s.run P w = .ok v w') (H : Nx P n l ops Q rest d v w') : wpList P ops Q (o :: rest) a w := step h hd hdn hw he fun _ hK => by rw [hr]; exact hK _ _ H
theorem stepU {o : Oper} {s : Sem Unit} (h : Kn n l a) (hd : o.dst = none) (hw : Wants ops l o.guard true) (he : execOp a.eval o = ul s)
    (H : ∀ K : World → Prop, (∀ w', wpList P ops Q rest a w' → K w') → SatU K (s.run P w)) : wpList P ops Q (o :: rest) a w := by
  refine wpList_step fun K hK => ?_;rw [h.wants hw, if_pos rfl];unfold Oper.wp;rw [he];have := H _ fun w' hn => hK a w' hn
  cases hs : s.run P w with
  | ok v w' =>
    rw [hs] at this;simp [go_sem, hs, hd, Act.put];exact this
  | halt x w' => rw [hs] at this; exact this.elim
theorem skip {o : Oper} {d : Tmp} (h : Kn n l a) (hd : o.dst = some d) (hdn : Nat.blt d n = true) (hw : Wants ops l o.guard false) (H : Nx P n l ops Q rest d undef w) : wpList P ops Q (o :: rest) a w := by
  refine wpList_step fun K hK => ?_;rw [h.wants hw, if_neg (by simp), hd];exact hK _ _ (H _ (h.put hdn _))
theorem call {o : Oper} {d : Tmp} {f : FuncId} {args : Array Value} {R : Ending → World → Prop} (h : Kn n l a) (hd : o.dst = some d) (hdn : Nat.blt d n = true) (hw : Wants ops l o.guard true) (he : execOp a.eval o = callFunc f args)
    (hc : ∀ (args : Array Value) (w : World), (callFunc f args).run P w = .ok (.enter f args) w) (hR : Calls P f args w R)
    (H : ∀ e w', R e w' → ∃ v, e = .returned v ∧ Nx P n l ops Q rest d v w') : wpList P ops Q (o :: rest) a w := by
  refine wpList_step fun K hK => ?_;rw [h.wants hw, if_pos rfl];unfold Oper.wp;rw [he, hc];refine hR.mono fun e w' hr => ?_;obtain ⟨v, rfl, hn⟩ := H e w' hr;show K (a.put o.dst v) w';rw [hd];exact hK _ _ (hn _ (h.put hdn v))
def NxS (P : Program) (n : Nat) (l : List (Nat × Value)) (ops : Array Oper) (w : World) (Q : Act → Prop) (rest : List Oper) (d : Tmp) (v : Value) : Prop := ∀ a, Kn n ((d, v) :: l) a → wpStill P ops w Q rest a
theorem sstep {Q : Act → Prop} {o : Oper} {d : Tmp} {s : Sem Value} (h : Kn n l a) (hd : o.dst = some d) (hdn : Nat.blt d n = true) (hw : Wants ops l o.guard true) (he : execOp a.eval o = vl s)
    (H : ∀ K : Value → World → Prop, (∀ v, NxS P n l ops w Q rest d v → K v w) → Sat K (s.run P w)) : wpStill P ops w Q (o :: rest) a := by
  refine wpStill_step fun K hK => ?_;rw [h.wants hw, if_pos rfl];have H1 := H (fun v w' => w' = w ∧ K (a.put o.dst v)) fun v hn => ⟨rfl, by rw [hd]; exact hK _ (hn _ (h.put hdn v))⟩;unfold Oper.still;rw [he]
  cases hs : s.run P w with
  | ok v w' =>
    rw [hs] at H1;simp [go_sem, hs];exact H1
  | halt x w' => rw [hs] at H1; exact H1.elim
theorem spure {Q : Act → Prop} {o : Oper} {d : Tmp} {v : Value} (h : Kn n l a) (hd : o.dst = some d) (hdn : Nat.blt d n = true) (hw : Wants ops l o.guard true) (he : execOp a.eval o = vl (.pure v))
    (H : NxS P n l ops w Q rest d v) : wpStill P ops w Q (o :: rest) a := sstep h hd hdn hw he fun _ hK => hK _ H
theorem sskip {Q : Act → Prop} {o : Oper} {d : Tmp} (h : Kn n l a) (hd : o.dst = some d) (hdn : Nat.blt d n = true) (hw : Wants ops l o.guard false) (H : NxS P n l ops w Q rest d undef) : wpStill P ops w Q (o :: rest) a := by
  refine wpStill_step fun K hK => ?_;rw [h.wants hw, if_neg (by simp), hd];exact hK _ (H _ (h.put hdn _))
theorem scall {Q : Act → Prop} {o : Oper} {d : Tmp} {f : FuncId} {args : Array Value} {v : Value} (h : Kn n l a) (hd : o.dst = some d) (hdn : Nat.blt d n = true) (hw : Wants ops l o.guard true) (he : execOp a.eval o = callFunc f args)
    (hc : ∀ (args : Array Value) (w : World), (callFunc f args).run P w = .ok (.enter f args) w) (hR : Calls P f args w fun e w' => e = .returned v ∧ w = w')
    (H : NxS P n l ops w Q rest d v) : wpStill P ops w Q (o :: rest) a := by
  refine wpStill_step fun K hK => ?_;rw [h.wants hw, if_pos rfl];unfold Oper.still;rw [he, hc];exact ⟨rfl, v, hR.mono fun _ _ ⟨h1, h2⟩ => ⟨h1, h2.symm⟩, by rw [hd]; exact hK _ (H _ (h.put hdn v))⟩
theorem still {id : Nat} {ops : List Oper} (hm : P.follows .mixedOrders = true) (hB : Region.lexB .any ops.toArray = true) (h : wpStill P ops.toArray w.drew (fun a' => Q .normal a' w.drew) ops a) : (Code.region id ops.toArray true).wp P Q a w :=
  wp_region_still_lit hm hB h
theorem tail {id : Nat} {ops hd tl : List Oper} (k : Nat) (hm : P.follows .mixedOrders = true) (hB : Region.lexTailB .any ops.toArray k = true) (h1 : ops.take k = hd) (h2 : ops.drop k = tl) (h : wpStill P ops.toArray w.drew (fun a' => wpList P ops.toArray Q tl a' w.drew) hd a) : (Code.region id ops.toArray true).wp P Q a w := by
  subst h1 h2; exact wp_region_still_tail k hm hB h
inductive Sub (l : List (Nat × Value)) : List (Nat × Value) → Prop
  | nil : Sub l []
  | cons {t : Nat} {v : Value} {l' : List (Nat × Value)} (h : find l t = some v) (r : Sub l l') : Sub l ((t, v) :: l')
  | turn {t : Nat} {v u : Value} {l' : List (Nat × Value)} (h : find l t = some v) (e : v = u) (r : Sub l l') : Sub l ((t, u) :: l')
theorem Sub.at {l l' : List (Nat × Value)} (h : Sub l l') {t : Nat} {v : Value} (hv : find l' t = some v) : find l t = some v := by
  induction h with
  | nil => simp [find] at hv
  | @cons s u l' h1 _ ih =>
    rw [find] at hv
    by_cases e : s = t
    · subst e; rw [Nat.beq_refl] at hv; simp at hv; rw [← hv]; exact h1
    · rw [beq_no e] at hv; exact ih (by simpa using hv)
  | @turn s u x l' h1 h2 _ ih =>
    subst h2;rw [find] at hv
    by_cases e : s = t
    · subst e; rw [Nat.beq_refl] at hv; simp at hv; rw [← hv]; exact h1
    · rw [beq_no e] at hv; exact ih (by simpa using hv)
theorem Kn.cut {l' : List (Nat × Value)} (h : Kn n l a) (hs : Sub l l') : Kn n l' a := ⟨h.defers, h.size, fun _ _ hv => h.get _ _ (hs.at hv)⟩
inductive Ins (args : Array Value) : List (Nat × Value) → Prop
  | nil : Ins args []
  | cons {t : Nat} {v : Value} {l' : List (Nat × Value)} (h : nth args.toList t = some v) (r : Ins args l') : Ins args ((t, v) :: l')
theorem Ins.at {args : Array Value} {l : List (Nat × Value)} (h : Ins args l) {t : Nat} {v : Value} (hv : find l t = some v) : args[t]? = some v := by
  induction h with
  | nil => simp [find] at hv
  | @cons s u l' h1 _ ih =>
    rw [find] at hv
    by_cases e : s = t
    · subst e; rw [Nat.beq_refl] at hv; simp at hv; rw [← hv]; rw [nth_eq] at h1; simpa using h1
    · rw [beq_no e] at hv; exact ih (by simpa using hv)
theorem calls {f : FuncId} {fn : Func} {c : Code} {args : Array Value} {R : Ending → World → Prop} (hf : P.funcs[f]? = some fn) (hb : fn.body = some c) (hn : fn.ntmps = n) (ha : Nat.ble args.size n = true) (hl : Ins args l)
    (H : ∀ a, Kn n l a → c.wp P (bodyPost P fn R) a w) : Calls P f args w R := by
  refine calls_of_wp hf hb (H _ ⟨rfl, ?_, fun t v hv => ?_⟩)
  · have := Nat.le_of_ble_eq_true ha;simp only [Array.size_append, Array.size_replicate]; omega
  · have h1 := hl.at hv
    have h2 : t < args.size := by
      rcases Nat.lt_or_ge t args.size with h | h
      · exact h
      · rw [Array.getElem?_eq_none h] at h1; cases h1
    simp only [Act.eval];rw [Array.getD_eq_getD_getElem?, Array.getElem?_append_left h2, h1]
    rfl
theorem ret1 {fn : Func} {R : Ending → World → Prop} {t : Tmp} {v : Value} (h : Kn n l a) (hr : fn.results = #[.tmp t]) (hv : find l t = some v) (H : R (.returned v) w) : bodyPost P fn R .ret a w :=
  bodyPost_ret (results_tmp hr _ _ _) h.defers (by have := h.get t v hv; simp only [Act.eval] at this; rw [this]; exact H)
theorem ret2 {fn : Func} {R : Ending → World → Prop} {t u : Tmp} {v x : Value} (h : Kn n l a) (hr : fn.results = #[.tmp t, .tmp u]) (hv : find l t = some v) (hx : find l u = some x) (H : R (.returned (.tuple #[v, x])) w) : bodyPost P fn R .ret a w :=
  bodyPost_ret (results_tmp2 hr _ _ _) h.defers (by have h1 := h.get t v hv; have h2 := h.get u x hx; simp only [Act.eval] at h1 h2; rw [h1, h2]; exact H)
theorem yes {x : Operand} {c d : Code} (h : Kn n l a) (hv : Val l x (.bool true)) (H : c.wp P Q a w) : (Code.cond x c d).wp P Q a w := wp_cond_true (h.val hv) H
theorem no {x : Operand} {c d : Code} (h : Kn n l a) (hv : Val l x (.bool false)) (H : d.wp P Q a w) : (Code.cond x c d).wp P Q a w := wp_cond_false (h.val hv) H
theorem then_ret {K : Act → World → Prop} (h : Q .ret a w) : Exit.then K Q .ret a w := h
theorem then_exit {K : Act → World → Prop} {i : Nat} (h : Q (.exit i) a w) : Exit.then K Q (.exit i) a w := h
theorem block_ret {i : Nat} (h : Q .ret a w) : Exit.inBlock i Q .ret a w := h
theorem block_normal {i : Nat} (h : Q .normal a w) : Exit.inBlock i Q .normal a w := h
theorem block_exit {i : Nat} (h : Q .normal a w) : Exit.inBlock i Q (.exit i) a w := by simp only [Exit.inBlock, if_pos]; exact h
theorem loop {c : Code} (I : Nat → Act → World → Prop) (m : Nat) (h0 : I m a w) (hr : ∀ m a w, I m a w → ∀ K : Act → World → Prop, (∀ m' a' w', m' < m → I m' a' w' → K a' w') → c.wp P (Exit.then K Q) a w) : (Code.loop c).wp P Q a w :=
  wp_loop_ghost I m h0 fun m a w h => hr m a w h _ fun m' _ _ hlt h' => ⟨m', hlt, h'⟩
def PI (Q : Exit → Act → World → Prop) : Prop := ∀ (d : Option Tmp) (v : Value) (c : List PanicEntry) (b : Act) (w : World), Q (.panic c) (b.put d v) w → Q (.panic c) b w
theorem PI.then {K : Act → World → Prop} (h : PI Q) : PI (Exit.then K Q) := h
theorem PI.block {i : Nat} (h : PI Q) : PI (Exit.inBlock i Q) := h
theorem PI.body {fn : Func} {R : Ending → World → Prop} : PI (bodyPost P fn R) := fun d v c b w h => by cases d <;> exact h
def JQ (R : Act → World → Prop) : Exit → Act → World → Prop
  | .normal, a, w => R a w
  | _, _, _ => False
theorem PI.join {R : Act → World → Prop} : PI (JQ R) := fun _ _ _ _ _ h => h
theorem join {c : Code} (R : Act → World → Prop) (h : c.wp P (JQ R) a w) (hQ : ∀ a w, R a w → Q .normal a w) : c.wp P Q a w :=
  wp_mono h fun e a w hq => by
    cases e with
    | normal => exact hQ a w hq
    | _ => exact hq.elim
theorem gen {c : Code} (S : World → Prop) (hS : S w) (H : ∀ u, S u → c.wp P Q a u) : c.wp P Q a w := H w hS
theorem stop {K : Act → World → Prop} (h : K a w) : wpList P ops (Exit.then K Q) [] a w := h
end
end Go.Proofs.YtaikghenimfjcaaDoor.Kn
end
section
namespace Go.Proofs.YtaikghenimfjcaaDoor.Kn
open Go
def backB (md : Region.Mode) (ops : Array Oper) : Bool :=
  (List.range ops.size).all fun i => match ops[i]? with
    | some o => o.after.all fun e => !Region.binds md e || Nat.blt e.on i
    | none => true
def apartB (ops : Array Oper) : Bool :=
  (List.range ops.size).all fun i => (List.range ops.size).all fun j => Nat.beq i j || match (ops[i]?).bind (·.dst), (ops[j]?).bind (·.dst) with
    | some d, some e => !Nat.beq d e
    | _, _ => true
def freshB (n : Nat) (l : List (Nat × Value)) (ops : Array Oper) : Bool :=
  (List.range ops.size).all fun i => match (ops[i]?).bind (·.dst) with
    | some d => Nat.blt d n && l.all fun p => !Nat.beq p.1 d
    | none => true
section
variable {P : Program} {n : Nat} {l : List (Nat × Value)} {ops : Array Oper} {Q : Exit → Act → World → Prop} {md : Region.Mode} {S : World → Prop} {G : World → World → Prop} {T : Nat → Value → World → Prop} {F : Nat → Nat → Value → Value → Prop}
theorem all_listed (hb : backB md ops = true) {listed : Array Bool} (hs : listed.size = ops.size) (hr : Region.ready md ops listed = []) : ∀ i, i < ops.size → listed.getD i false = true := by
  intro i
  induction i using Nat.strongRecOn with
  | _ i ih =>
    intro hi
    cases h : listed.getD i false with
    | true => rfl
    | false =>
      exfalso
      have hm : i ∈ Region.ready md ops listed := by
        refine mem_ready.2 ⟨getD_in (by omega) h, ops[i], Array.getElem?_eq_getElem hi, fun e he hbd => ?_⟩;have h1 := List.all_eq_true.1 hb i (List.mem_range.2 hi);rw [Array.getElem?_eq_getElem hi] at h1;have h2 := Array.all_eq_true_iff_forall_mem.1 h1 e he;rw [hbd] at h2;have h3 : e.on < i := by simpa using h2
        exact ih e.on h3 (by omega)
      rw [hr] at hm;cases hm
theorem Kn.other {a : Act} (h : Kn n l a) {d : Tmp} (v : Value) (hl : l.all (fun p => !Nat.beq p.1 d) = true) : Kn n l (a.put (some d) v) := by
  refine ⟨h.defers, by simp [Act.put, h.size], fun t u hu => ?_⟩
  have hne : d ≠ t := by
    intro e;subst e;clear h
    induction l with
    | nil => simp [find] at hu
    | cons p l ih =>
      obtain ⟨k, v⟩ := p;simp only [List.all_cons, Bool.and_eq_true, Bool.not_eq_true'] at hl;rw [find, hl.1] at hu;exact ih hl.2 hu
  rw [← h.get t u hu];simp only [Act.put, Act.eval];rw [Array.getD_eq_getD_getElem?, Array.getD_eq_getD_getElem?, Array.getElem?_setIfInBounds_ne hne]
theorem eval_put_same {a : Act} {d : Tmp} (v : Value) (h : d < a.tmps.size) : (a.put (some d) v).eval (.tmp d) = v := by simp [Act.put, Act.eval, h]
theorem eval_put_ne {a : Act} {d t : Tmp} (v : Value) (h : d ≠ t) : (a.put (some d) v).eval (.tmp t) = a.eval (.tmp t) := by
  simp only [Act.put, Act.eval];rw [Array.getD_eq_getD_getElem?, Array.getD_eq_getD_getElem?, Array.getElem?_setIfInBounds_ne h]
def Has (md : Region.Mode) (ops : Array Oper) (T : Nat → Value → World → Prop) (o : Oper) (a : Act) (w : World) : Prop :=
  ∀ j d, o.after.toList.any (fun e => Region.binds md e && Nat.beq e.on j) = true → (ops[j]?).bind (·.dst) = some d → T j (a.eval (.tmp d)) w
def Op1 (P : Program) (ops : Array Oper) (Q : Exit → Act → World → Prop) (S : World → Prop) (G : World → World → Prop) (T : Nat → Value → World → Prop) (F : Nat → Nat → Value → Value → Prop) (i : Nat) (o : Oper) (L : Nat → Prop) (a : Act) (w : World) : Prop :=
  if Region.wanted o (yielded ops a.tmps) then o.wp P a w (fun a' w' => ∃ v, a' = a.put o.dst v ∧ T i v w' ∧ S w' ∧ G w w' ∧ ∀ k d, k ≠ i → L k → (ops[k]?).bind (·.dst) = some d → F i k v (a.eval (.tmp d)) ∧ F k i (a.eval (.tmp d)) v) Q
  else T i undef w ∧ ∀ k d, k ≠ i → L k → (ops[k]?).bind (·.dst) = some d → F i k undef (a.eval (.tmp d)) ∧ F k i (a.eval (.tmp d)) undef
def Two (ops : Array Oper) (F : Nat → Nat → Value → Value → Prop) (L : Nat → Prop) (a : Act) : Prop := ∀ j k d e, j ≠ k → L j → L k → (ops[j]?).bind (·.dst) = some d → (ops[k]?).bind (·.dst) = some e → F j k (a.eval (.tmp d)) (a.eval (.tmp e))
def One (ops : Array Oper) (T : Nat → Value → World → Prop) (L : Nat → Prop) (a : Act) (w : World) : Prop := ∀ k d, L k → (ops[k]?).bind (·.dst) = some d → T k (a.eval (.tmp d)) w
def Ahead (md : Region.Mode) (o : Oper) (L : Nat → Prop) : Prop := ∀ j, o.after.toList.any (fun e => Region.binds md e && Nat.beq e.on j) = true → L j
def Ok (P : Program) (n : Nat) (l : List (Nat × Value)) (md : Region.Mode) (ops : Array Oper) (Q : Exit → Act → World → Prop) (S : World → Prop) (G : World → World → Prop) (T : Nat → Value → World → Prop) (F : Nat → Nat → Value → Value → Prop) (i : Nat) (o : Oper) : Prop :=
  ∀ a w L, Kn n l a → S w → One ops T L a w → Two ops F L a → Ahead md o L → Op1 P ops Q S G T F i o L a w
def Oks (P : Program) (n : Nat) (l : List (Nat × Value)) (md : Region.Mode) (ops : Array Oper) (Q : Exit → Act → World → Prop) (S : World → Prop) (G : World → World → Prop) (T : Nat → Value → World → Prop) (F : Nat → Nat → Value → Value → Prop) : Nat → List Oper → Prop
  | _, [] => True
  | k, o :: r => Ok P n l md ops Q S G T F k o ∧ Oks P n l md ops Q S G T F (k + 1) r
theorem Oks.at {r : List Oper} {k : Nat} (h : Oks P n l md ops Q S G T F k r) {j : Nat} {o : Oper} (hj : r[j]? = some o) : Ok P n l md ops Q S G T F (k + j) o := by
  induction r generalizing k j with
  | nil => simp at hj
  | cons x r ih =>
    cases j with
    | zero => simp at hj; subst hj; exact h.1
    | succ j =>
      have := ih h.2 (j := j) (by simpa using hj)
      rwa [show k + 1 + j = k + (j + 1) by omega] at this
structure Reg (n : Nat) (l : List (Nat × Value)) (ops : Array Oper) (S : World → Prop) (T : Nat → Value → World → Prop) (F : Nat → Nat → Value → Value → Prop) (listed : Array Bool) (a : Act) (w : World) : Prop where
  kn : Kn n l a
  size : listed.size = ops.size
  ok : S w
  slots : ∀ j d, (ops[j]?).bind (·.dst) = some d → listed.getD j false = true → T j (a.eval (.tmp d)) w
  pairs : ∀ i j d e, i ≠ j → (ops[i]?).bind (·.dst) = some d → (ops[j]?).bind (·.dst) = some e → listed.getD i false = true → listed.getD j false = true → F i j (a.eval (.tmp d)) (a.eval (.tmp e))
  stores : ∀ j o, ops[j]? = some o → o.dst = none → listed.getD j false = true → ∃ v, T j v w
theorem Reg.next (hap : apartB ops = true) (hfr : freshB n l ops = true) {listed : Array Bool} {a : Act} {w w' : World} {i : Nat} {o : Oper} {v : Value} (h : Reg n l ops S T F listed a w) (ho : ops[i]? = some o) (hv : T i v w') (hS : S w') (hG : ∀ j u, T j u w → T j u w') (hF : ∀ k d, k ≠ i → listed.getD k false = true → (ops[k]?).bind (·.dst) = some d → F i k v (a.eval (.tmp d)) ∧ F k i (a.eval (.tmp d)) v) : Reg n l ops S T F (listed.setIfInBounds i true) (a.put o.dst v) w' := by
  have hi : i < ops.size := (Array.getElem?_eq_some_iff.1 ho).1;have hob : (ops[i]?).bind (·.dst) = o.dst := by rw [ho]; rfl
  cases hd : o.dst with
  | none =>
    have old : ∀ j d, (ops[j]?).bind (·.dst) = some d → (listed.setIfInBounds i true).getD j false = true → listed.getD j false = true := fun j d hj hl => by
      by_cases e : i = j
      · subst e; rw [hob, hd] at hj; cases hj
      · rwa [getD_set_ne false e] at hl
    exact ⟨h.kn, by simp [h.size], hS, fun j d hj hl => hG _ _ (h.slots j d hj (old j d hj hl)), fun j k d e hne hj hk hl hm => h.pairs j k d e hne hj hk (old j d hj hl) (old k e hk hm), fun j o2 hj hd2 hl => by
      by_cases e : i = j
      · subst e; exact ⟨v, hv⟩
      · rw [getD_set_ne false e] at hl;obtain ⟨u, hu⟩ := h.stores j o2 hj hd2 hl
        exact ⟨u, hG _ _ hu⟩⟩
  | some d =>
    have h1 := List.all_eq_true.1 hfr i (List.mem_range.2 hi);rw [hob, hd] at h1;simp only [Bool.and_eq_true] at h1;have hdn : d < a.tmps.size := by rw [h.kn.size]; exact Nat.le_of_ble_eq_true h1.1
    have oth : ∀ j e, i ≠ j → (ops[j]?).bind (·.dst) = some e → (a.put (some d) v).eval (.tmp e) = a.eval (.tmp e) := fun j e hij hj => by
      have hjs : j < ops.size := by
        cases hj2 : ops[j]? with
        | none => rw [hj2] at hj; cases hj
        | some x => exact (Array.getElem?_eq_some_iff.1 hj2).1
      have h2 := List.all_eq_true.1 (List.all_eq_true.1 hap i (List.mem_range.2 hi)) j (List.mem_range.2 hjs);rw [hob, hd, hj, beq_no hij] at h2;have hde : d ≠ e := fun e' => by subst e'; simp at h2
      exact eval_put_ne v hde
    refine ⟨h.kn.other v h1.2, by simp [h.size], hS, fun j e hj hl => ?_, fun j k e f hne hj hk hl hm => ?_, fun j o2 hj hd2 hl => ?_⟩
    rotate_right
    · by_cases hij : i = j
      · subst hij;rw [ho] at hj;obtain rfl := Option.some.inj hj;rw [hd] at hd2;cases hd2
      · rw [getD_set_ne false hij] at hl;obtain ⟨u, hu⟩ := h.stores j o2 hj hd2 hl;exact ⟨u, hG _ _ hu⟩
    · by_cases hij : i = j
      · subst hij;rw [hob, hd] at hj;obtain rfl := Option.some.inj hj;rw [eval_put_same v hdn];exact hv
      · rw [getD_set_ne false hij] at hl;rw [oth j e hij hj];exact hG _ _ (h.slots j e hj hl)
    · by_cases hij : i = j
      · subst hij;rw [hob, hd] at hj;obtain rfl := Option.some.inj hj;rw [getD_set_ne false hne] at hm;rw [eval_put_same v hdn, oth k f hne hk];exact (hF k f (fun e => hne e.symm) hm hk).1
      · rw [getD_set_ne false hij] at hl;rw [oth j e hij hj]
        by_cases hik : i = k
        · subst hik;rw [hob, hd] at hk;obtain rfl := Option.some.inj hk;rw [eval_put_same v hdn];exact (hF j e (fun e => hij e.symm) hl hj).2
        · rw [getD_set_ne false hik] at hm;rw [oth k f hik hk];exact h.pairs j k e f hne hj hk hl hm
theorem wpAny_reg (hback : backB md ops = true) (hap : apartB ops = true) (hfr : freshB n l ops = true) (hT : ∀ i v w w', G w w' → T i v w → T i v w') (hok : Oks P n l md ops Q S G T F 0 ops.toList)
    (hend : ∀ a w, Kn n l a → S w → (∀ j d, (ops[j]?).bind (·.dst) = some d → T j (a.eval (.tmp d)) w) → (∀ i j d e, i ≠ j → (ops[i]?).bind (·.dst) = some d → (ops[j]?).bind (·.dst) = some e → F i j (a.eval (.tmp d)) (a.eval (.tmp e))) → (∀ j o, ops[j]? = some o → o.dst = none → ∃ v, T j v w) → Q .normal a w) :
    ∀ (fuel : Nat) (listed : Array Bool) (a : Act) (w : World), listed.toList.countP (fun b => !b) ≤ fuel → Reg n l ops S T F listed a w → wpAny P md ops Q fuel listed a w := by
  have fin : ∀ (listed : Array Bool) (a : Act) (w : World), Reg n l ops S T F listed a w → Region.ready md ops listed = [] → Q .normal a w := fun listed a w h hr => by
    have al : ∀ j d, (ops[j]?).bind (·.dst) = some d → listed.getD j false = true := fun j d hj => by
      have hjs : j < ops.size := by
        cases hj2 : ops[j]? with
        | none => rw [hj2] at hj; cases hj
        | some x => exact (Array.getElem?_eq_some_iff.1 hj2).1
      exact all_listed hback h.size hr j hjs
    exact hend a w h.kn h.ok (fun j d hj => h.slots j d hj (al j d hj)) (fun i j d e hne hi hj => h.pairs i j d e hne hi hj (al i d hi) (al j e hj)) fun j o hj hd => h.stores j o hj hd (all_listed hback h.size hr j (Array.getElem?_eq_some_iff.1 hj).1)
  intro fuel
  induction fuel with
  | zero =>
    intro listed a w hc h
    have hr : Region.ready md ops listed = [] := by
      cases hr : Region.ready md ops listed with
      | nil => rfl
      | cons i r =>
        exfalso
        have hi := (mem_ready.1 (show i ∈ Region.ready md ops listed by rw [hr]; exact List.mem_cons_self)).1
        have hil : i < listed.size := by
          rcases Nat.lt_or_ge i listed.size with h' | h'
          · exact h'
          · simp [Array.getElem?_eq_none h'] at hi
        have hz : listed.toList.countP (fun b => !b) = 0 := by omega
        rw [List.countP_eq_zero] at hz;have := hz listed[i] (by simp);simp [hil] at hi;simp [hi] at this
    exact ⟨hr, fin listed a w h hr⟩
  | succ fuel ih =>
    intro listed a w hc h;refine ⟨fin listed a w h, fun i hi => ?_⟩;obtain ⟨hun, o, ho, hall⟩ := mem_ready.1 hi
    have hil : i < listed.size := by
      rcases Nat.lt_or_ge i listed.size with h' | h'
      · exact h'
      · simp [Array.getElem?_eq_none h'] at hun
    have hcount : (listed.setIfInBounds i true).toList.countP (fun b => !b) ≤ fuel := by
      have hli : listed[i] = false := by simpa [hil] using hun
      rw [Array.toList_setIfInBounds, List.countP_set (by simpa using hil)];simp only [Array.getElem_toList, hli];simp only [Bool.not_false, Bool.not_true, if_true, Bool.false_eq_true, if_false];omega
    have hok' := hok.at (j := i) (o := o) (by rw [Array.getElem?_toList]; exact ho);rw [Nat.zero_add] at hok'
    have hs := hok' a w (fun k => listed.getD k false = true) h.kn h.ok (fun k d hk hd => h.slots k d hd hk) (fun j k d e hne hj hk hd he => h.pairs j k d e hne hd he hj hk) (fun j hj => by
      obtain ⟨e, he, he2⟩ := List.any_eq_true.1 hj;simp only [Bool.and_eq_true] at he2;have := Nat.eq_of_beq_eq_true he2.2;subst this
      exact hall e (Array.mem_toList_iff.1 he) he2.1)
    unfold Op1 at hs;unfold wpOp;simp only [ho]
    split
    · rename_i hw;rw [if_pos hw] at hs;refine .inl (Oper.wp_mono (fun a' w' hx => ?_) hs);obtain ⟨v, rfl, hv, hS, hG, hF⟩ := hx;exact ih _ _ _ hcount (h.next hap hfr ho hv hS (fun j u hu => hT j u _ _ hG hu) hF)
    · rename_i hw;rw [if_neg hw] at hs;exact ih _ _ _ hcount (h.next hap hfr ho hs.1 h.ok (fun j u hu => hu) hs.2)
theorem anyFU {id : Nat} {os : List Oper} {a : Act} {w : World} (S : World → Prop) (G : World → World → Prop) (T : Nat → Value → World → Prop) (F : Nat → Nat → Value → Value → Prop) (hm : P.follows .mixedOrders = true) (h : Kn n l a) (hback : backB .any os.toArray = true) (hap : apartB os.toArray = true) (hfr : freshB n l os.toArray = true)
    (hT : ∀ i v w w', G w w' → T i v w → T i v w') (hS : S w.drew) (hok : Oks P n l .any os.toArray Q S G T F 0 os)
    (hend : ∀ a w, Kn n l a → S w → (∀ j d, (os.toArray[j]?).bind (·.dst) = some d → T j (a.eval (.tmp d)) w) → (∀ i j d e, i ≠ j → (os.toArray[i]?).bind (·.dst) = some d → (os.toArray[j]?).bind (·.dst) = some e → F i j (a.eval (.tmp d)) (a.eval (.tmp e))) → (∀ j o, os.toArray[j]? = some o → o.dst = none → ∃ v, T j v w) → Q .normal a w) : (Code.region id os.toArray true).wp P Q a w := by
  refine wp_region_any hm (wpAny_reg (S := S) (G := G) (T := T) (F := F) hback hap hfr hT (by simpa using hok) hend _ _ _ _ ?_ ⟨h, by simp, hS, fun j d hj hl => ?_, fun i j d e _ _ _ hl _ => ?_, fun j o hj hd hl => ?_⟩)
  · refine Nat.le_trans List.countP_le_length ?_;simp
  · rw [getD_replicate_false] at hl; cases hl
  · rw [getD_replicate_false] at hl; cases hl
  · rw [getD_replicate_false] at hl; cases hl
theorem anyF {id : Nat} {os : List Oper} {a : Act} {w : World} (S : World → Prop) (G : World → World → Prop) (T : Nat → Value → World → Prop) (F : Nat → Nat → Value → Value → Prop) (hm : P.follows .mixedOrders = true) (h : Kn n l a) (hback : backB .any os.toArray = true) (hap : apartB os.toArray = true) (hfr : freshB n l os.toArray = true)
    (hT : ∀ i v w w', G w w' → T i v w → T i v w') (hS : S w.drew) (hok : Oks P n l .any os.toArray Q S G T F 0 os)
    (hend : ∀ a w, Kn n l a → S w → (∀ j d, (os.toArray[j]?).bind (·.dst) = some d → T j (a.eval (.tmp d)) w) → (∀ i j d e, i ≠ j → (os.toArray[i]?).bind (·.dst) = some d → (os.toArray[j]?).bind (·.dst) = some e → F i j (a.eval (.tmp d)) (a.eval (.tmp e))) → Q .normal a w) : (Code.region id os.toArray true).wp P Q a w :=
  anyFU S G T F hm h hback hap hfr hT hS hok fun a w h1 h2 h3 h4 _ => hend a w h1 h2 h3 h4
def F0 : Nat → Nat → Value → Value → Prop := fun _ _ _ _ => True
theorem any {id : Nat} {os : List Oper} {a : Act} {w : World} (S : World → Prop) (G : World → World → Prop) (T : Nat → Value → World → Prop) (hm : P.follows .mixedOrders = true) (h : Kn n l a) (hback : backB .any os.toArray = true) (hap : apartB os.toArray = true) (hfr : freshB n l os.toArray = true)
    (hT : ∀ i v w w', G w w' → T i v w → T i v w') (hS : S w.drew) (hok : Oks P n l .any os.toArray Q S G T F0 0 os)
    (hend : ∀ a w, Kn n l a → S w → (∀ j d, (os.toArray[j]?).bind (·.dst) = some d → T j (a.eval (.tmp d)) w) → Q .normal a w) : (Code.region id os.toArray true).wp P Q a w :=
  anyF S G T F0 hm h hback hap hfr hT hS hok fun a w h1 h2 h3 _ => hend a w h1 h2 h3
theorem ok {i : Nat} {o : Oper} (h : ∀ a w L, Kn n l a → S w → Has md ops T o a w → Op1 P ops Q S G T F i o L a w) : Ok P n l md ops Q S G T F i o := fun a w L h1 h2 h3 _ h5 => h a w L h1 h2 fun j d hj hd => h3 j d (h5 j hj) hd
theorem okF {i : Nat} {o : Oper} (h : ∀ a w L, Kn n l a → S w → One ops T L a w → Two ops F L a → Ahead md o L → Op1 P ops Q S G T F i o L a w) : Ok P n l md ops Q S G T F i o := h
theorem aopF {i : Nat} {o : Oper} {L : Nat → Prop} {a : Act} {w : World} {s : Sem Value} {l' : List (Nat × Value)} (h : Kn n l' a) (hw : Wants ops l' o.guard true) (he : execOp a.eval o = vl s)
    (H : ∀ K : Value → World → Prop, (∀ v w', T i v w' → S w' → G w w' → (∀ k d, k ≠ i → L k → (ops[k]?).bind (·.dst) = some d → F i k v (a.eval (.tmp d)) ∧ F k i (a.eval (.tmp d)) v) → K v w') → Sat K (s.run P w)) : Op1 P ops Q S G T F i o L a w := by
  unfold Op1;rw [h.wants hw, if_pos rfl];exact run_value s w _ o a (H _ fun v w' h1 h2 h3 h4 => ⟨v, rfl, h1, h2, h3, h4⟩) he
theorem aop {i : Nat} {o : Oper} {L : Nat → Prop} {a : Act} {w : World} {s : Sem Value} {l' : List (Nat × Value)} (h : Kn n l' a) (hw : Wants ops l' o.guard true) (he : execOp a.eval o = vl s)
    (H : ∀ K : Value → World → Prop, (∀ v w', T i v w' → S w' → G w w' → K v w') → Sat K (s.run P w)) : Op1 P ops Q S G T F0 i o L a w :=
  aopF h hw he fun K hK => H K fun v w' h1 h2 h3 => hK v w' h1 h2 h3 fun _ _ _ _ _ => ⟨trivial, trivial⟩
theorem apure {i : Nat} {o : Oper} {L : Nat → Prop} {a : Act} {w : World} {v : Value} {l' : List (Nat × Value)} (h : Kn n l' a) (hw : Wants ops l' o.guard true) (he : execOp a.eval o = vl (.pure v)) (h1 : T i v w) (h2 : S w) (h3 : G w w) : Op1 P ops Q S G T F0 i o L a w :=
  aop h hw he fun _ hK => hK _ _ h1 h2 h3
theorem acall {i : Nat} {o : Oper} {L : Nat → Prop} {a : Act} {w : World} {f : FuncId} {args : Array Value} {R : Ending → World → Prop} {l' : List (Nat × Value)} (h : Kn n l' a) (hw : Wants ops l' o.guard true) (he : execOp a.eval o = callFunc f args)
    (hc : ∀ (args : Array Value) (w : World), (callFunc f args).run P w = .ok (.enter f args) w) (hR : Calls P f args w R) (H : ∀ e w', R e w' → ∃ v, e = .returned v ∧ T i v w' ∧ S w' ∧ G w w') : Op1 P ops Q S G T F0 i o L a w := by
  unfold Op1;rw [h.wants hw, if_pos rfl];unfold Oper.wp;rw [he, hc];refine hR.mono fun e w' hr => ?_;obtain ⟨v, rfl, h1, h2, h3⟩ := H e w' hr;exact ⟨v, rfl, h1, h2, h3, fun _ _ _ _ _ => ⟨trivial, trivial⟩⟩
end
def TL : List (Value → World → Prop) → Nat → Value → World → Prop
  | [], _, _, _ => True
  | p :: _, 0, v, w => p v w
  | _ :: l, i + 1, v, w => TL l i v w
inductive Keeps (G : World → World → Prop) : List (Value → World → Prop) → Prop
  | nil : Keeps G []
  | cons {p : Value → World → Prop} {l : List (Value → World → Prop)} (h : ∀ v w w', G w w' → p v w → p v w') (r : Keeps G l) : Keeps G (p :: l)
theorem Keeps.all {G : World → World → Prop} {l : List (Value → World → Prop)} (h : Keeps G l) : ∀ i v w w', G w w' → TL l i v w → TL l i v w' := by
  induction h with
  | nil => intro i v w w' _ _; exact trivial
  | cons h1 _ ih =>
    intro i v w w' hg ht
    cases i with
    | zero => exact h1 v w w' hg ht
    | succ i => exact ih i v w w' hg ht
def Is (x : Value) : Value → World → Prop := fun v _ => v = x
theorem Is.keep {G : World → World → Prop} {x : Value} : ∀ v w w', G w w' → Is x v w → Is x v w' := fun _ _ _ _ h => h
end Go.Proofs.YtaikghenimfjcaaDoor.Kn
end
section
namespace Go.Proofs.YtaikghenimfjcaaDoor.St
open Go Go.RowKit Go.Lib
def rowD : TypeDesc → Bool
  | .struct _ => true
  | .array _ _ => true
  | _ => false
def St (w : World) (g : Nat) (T : TypeId) (cs : Array Value) : Prop := w.heap[g]? = some (.cells cs T (0, 0))
section
variable {w w' : World} {g : Nat} {T : TypeId} {cs : Array Value}
theorem St.lt (h : St w g T cs) : g < w.heap.size := (Array.getElem?_eq_some_iff.1 h).1
theorem St.on (h : St w g T cs) (hb : Below w.heap.size w w') : St w' g T cs := (hb.block g h.lt).trans h
theorem St.below {B : Nat} (h : St w g T cs) (hb : Below B w w') (hg : g < B) : St w' g T cs := (hb.block g hg).trans h
theorem St.new (w : World) (T : TypeId) (cs : Array Value) : St (w.alloc (.cells cs T)) w.heap.size T cs := heap_alloc_new w _
theorem St.alloc (h : St w g T cs) (o : Obj) : St (w.alloc o) g T cs := ((Below.refl w.heap.size w).alloc (Nat.le_refl _) o |>.block g h.lt).trans h
theorem St.drew (h : St w g T cs) : St w.drew g T cs := h
theorem St.drewN (h : St w g T cs) (n : Nat) : St (w.drewN n) g T cs := h
theorem St.cell (h : St w g T cs) (i : Nat) {v : Value} (hv : cs[i]? = some v) : w.cell? ⟨g, i, none⟩ = some v := (cell_of_row w g i cs T (0, 0) h).trans hv
theorem St.free (h : St w g T cs) (i : Nat) : w.frozen? ⟨g, i, none⟩ = false := frozen_of_row w g i cs T h
theorem St.setRow (h : St w g T cs) {k : Nat} (hk : g ≠ k) (xs : Array Value) : St (w.setRow k xs) g T cs := (setRow_other w k g xs hk).trans h
theorem St.setCell (h : St w g T cs) {a : Addr} (hk : g ≠ a.block) (v : Value) : St (w.setCell a v) g T cs := (heap_setCell_other w a g v hk).trans h
theorem St.put (h : St w g T cs) (i : Nat) (v : Value) : St (w.setCell ⟨g, i, none⟩ v) g T (cs.setIfInBounds i v) := heap_setCell_same w g i cs T v h
theorem St.kept {r : Option Nat} {g' : Nat} (h : St w g T cs) (hk : Own.Kept w w' r g') (hne : some g ≠ r) : St w' g T cs := (hk.grown.block g h.lt hne).trans h
theorem St.store {P : Program} {cells : Array Value} (h : St w g T cs) (hi : (P.info? T).map (·.size) = some cells.size) (ho : cs.size = cells.size) (h1 : cells.all (·.oneCell') = true) :
    (Instr.storeAt T (.pointer (some ⟨g, 0, none⟩)) (.agg cells)).run P w = .ok () (w.setRow g cells) ∧ St (w.setRow g cells) g T cells ∧ ∀ B, B ≤ g → Below B w (w.setRow g cells) := by
  refine ⟨?_, setRow_heap w g cs cells T (0, 0) h, fun B hB => below_setRow (Below.refl B w) hB cells⟩;have hs := run_storeVar_row (P := P) w g T T cs cells h hi ho h1;simp only [Instr.storeAt, Instr.sureAddr, Sem.run_bind, Sem.run_pure, Result.andThen_ok];exact hs
theorem St.load {P : Program} {d : TypeDesc} (h : St w g T cs) (hu : P.underlying T = some d) (hd : rowD d = true) (hi : (P.info? T).map (·.size) = some cs.size) :
    (loadVar T ⟨g, 0, none⟩).run P w = .ok (.agg cs) w := by
  cases d <;> first | exact run_loadVar_row w g T T cs (0, 0) _ h hu rfl hi | cases hd
end
end Go.Proofs.YtaikghenimfjcaaDoor.St
namespace Go.Proofs.YtaikghenimfjcaaDoor.Kn
open Go
section
variable {P : Program} {n : Nat} {l : List (Nat × Value)} {a : Act} {w : World}
end
end Go.Proofs.YtaikghenimfjcaaDoor.Kn
end
section
namespace Go.Proofs.YtaikghenimfjcaaDoor.RowG
open Go Go.RowKit Go.Lib
structure Rw (α : Type) where
  enc : α → List Value
  size : Nat
  len : ∀ a, (enc a).length = size
  one : ∀ a u, u ∈ enc a → u.oneCell' = true
variable {α : Type} (R : Rw α)
theorem addr_add (b o j : Nat) : (⟨b, o, none⟩ : Addr).add j = ⟨b, o + j, none⟩ := by unfold Addr.add; split <;> simp_all
def cs (l : List α) : List Value := l.flatMap R.enc
theorem cs_app (l m : List α) : cs R (l ++ m) = cs R l ++ cs R m := List.flatMap_append
theorem cs_at : ∀ (l : List α) (i j : Nat) (a : α) (u : Value), l[i]? = some a → (R.enc a)[j]? = some u → (cs R l)[i * R.size + j]? = some u
  | [], i, j, a, u, h, _ => by simp at h
  | x :: l, 0, j, a, u, h, hu => by
    simp at h;subst h;have hj := (List.getElem?_eq_some_iff.1 hu).1;unfold cs;rw [List.flatMap_cons, Nat.zero_mul, Nat.zero_add, List.getElem?_append_left hj];exact hu
  | x :: l, i + 1, j, a, u, h, hu => by
    have ih := cs_at l i j a u (by simpa using h) hu;unfold cs at ih ⊢;rw [List.flatMap_cons, List.getElem?_append_right (by rw [R.len, Nat.add_mul]; omega), R.len, show (i + 1) * R.size + j - R.size = i * R.size + j by rw [Nat.add_mul]; omega];exact ih
theorem cs_of (hs : 0 < R.size) : ∀ (l : List α) (k : Nat) (u : Value), (cs R l)[k]? = some u → ∃ a, l[k / R.size]? = some a ∧ (R.enc a)[k % R.size]? = some u
  | [], k, u, h => by simp [cs] at h
  | x :: l, k, u, h => by
    unfold cs at h;rw [List.flatMap_cons] at h;rcases Nat.lt_or_ge k R.size with hk | hk
    · rw [List.getElem?_append_left (by rw [R.len]; exact hk)] at h;rw [Nat.div_eq_of_lt hk, Nat.mod_eq_of_lt hk];exact ⟨x, rfl, h⟩
    · rw [List.getElem?_append_right (by rw [R.len]; exact hk), R.len] at h;obtain ⟨a, h1, h2⟩ := cs_of hs l (k - R.size) u h;have e1 : k / R.size = (k - R.size) / R.size + 1 := by rw [Nat.div_eq_sub_div hs hk]
      have e2 : (k - R.size) % R.size = k % R.size := (Nat.mod_eq_sub_mod hk).symm;exact ⟨a, by rw [e1]; simpa using h1, by rw [← e2]; exact h2⟩
def RIn (w : World) (A : Option Addr) (l : List α) : Prop := ∀ (i : Nat) (a : α), l[i]? = some a → ∃ b o, A = some ⟨b, o, none⟩ ∧ b < w.heap.size ∧ ∀ (j : Nat) (u : Value), (R.enc a)[j]? = some u → w.cell? ⟨b, o + (i * R.size + j), none⟩ = some u
variable {R} {w w' : World} {A : Option Addr} {l : List α}
theorem RIn.nil : RIn R w A [] := fun i a h => by simp at h
theorem RIn.on (h : RIn R w A l) (hb : Below w.heap.size w w') : RIn R w' A l := fun i a hi => by
  obtain ⟨b, o, e, hlt, h1⟩ := h i a hi;exact ⟨b, o, e, Nat.lt_of_lt_of_le hlt hb.size, fun j u hu => (hb.cell (p := ⟨b, o + (i * R.size + j), none⟩) hlt).trans (h1 j u hu)⟩
theorem RIn.drewN (h : RIn R w A l) (n : Nat) : RIn R (w.drewN n) A l := h
theorem RIn.drew (h : RIn R w A l) : RIn R w.drew A l := h
theorem RIn.cell {b o : Nat} (h : RIn R w (some ⟨b, o, none⟩) l) {i j : Nat} {a : α} {u : Value} (hi : l[i]? = some a) (hu : (R.enc a)[j]? = some u) : w.cell? ⟨b, o + (i * R.size + j), none⟩ = some u := by
  obtain ⟨b', o', e, _, h1⟩ := h i a hi;cases e;exact h1 j u hu
theorem RIn.take (h : RIn R w A l) (k : Nat) : RIn R w A (l.take k) := fun i a hi => h i a (by
  rw [List.getElem?_take] at hi
  split at hi
  · exact hi
  · cases hi)
theorem RIn.drop {b o : Nat} (h : RIn R w (some ⟨b, o, none⟩) l) (k : Nat) : RIn R w (some ⟨b, o + k * R.size, none⟩) (l.drop k) := fun i a hi => by
  rw [List.getElem?_drop] at hi;obtain ⟨b', o', e, hlt, h1⟩ := h (k + i) a hi;cases e;refine ⟨b, _, rfl, hlt, fun j u hu => ?_⟩;have := h1 j u hu;rw [Nat.add_mul] at this;rw [show o + k * R.size + (i * R.size + j) = o + (k * R.size + i * R.size + j) by omega];exact this
theorem RIn.news {b o : Nat} (h : RIn R w (some ⟨b, o, none⟩) l) (hs : 0 < R.size) : ∀ j u, (cs R l)[j]? = some u → w.cell? ((⟨b, o, none⟩ : Addr).add j) = some u := fun j u hu => by
  obtain ⟨a, h1, h2⟩ := cs_of R hs l j u hu;have := h.cell h1 h2;rw [addr_add]
  rwa [Nat.mul_comm, Nat.div_add_mod] at this
def ROwn (R : Rw α) (e : TypeId) (w : World) (B : Nat) (A : Option Addr) (n cap : Nat) (l : List α) : Prop := n = l.length ∧ w.ownsRow B e R.size (.slice A n cap) n (cs R l)
variable {e : TypeId} {B n cap : Nat}
theorem ROwn.rin (h : ROwn R e w B A n cap l) : RIn R w A l := fun i a hi => by
  have hl := (List.getElem?_eq_some_iff.1 hi).1;obtain ⟨g, cap', ef, hb, hlt⟩ := h.2.form (by rw [h.1]; omega);simp only [Value.slice.injEq] at ef;obtain ⟨rfl, _, _⟩ := ef;refine ⟨g, 0, rfl, hlt, fun j u hu => ?_⟩;have := h.2.cells (g := g) rfl _ _ (cs_at R l i j a u hi hu)
  rwa [addr_add] at this
theorem ROwn.ge {g : Nat} (h : ROwn R e w B (some ⟨g, 0, none⟩) n cap l) : B ≤ g := (h.2.lt g rfl).1
theorem ROwn.lt {g : Nat} (h : ROwn R e w B (some ⟨g, 0, none⟩) n cap l) : g < w.heap.size := (h.2.lt g rfl).2
theorem ROwn.blk (h : ROwn R e w B A n cap l) : ∀ b, (Value.slice A n cap).ownBlock = some b → B ≤ b ∧ b < w.heap.size := fun b hb => h.2.lt b hb
theorem ROwn.alloc (h : ROwn R e w B A n cap l) (o : Obj) : ROwn R e (w.alloc o) B A n cap l := ⟨h.1, h.2.alloc o⟩
theorem ROwn.drew (h : ROwn R e w B A n cap l) : ROwn R e w.drew B A n cap l := h
theorem ROwn.on (h : ROwn R e w B A n cap l) (hb : Below w.heap.size w w') : ROwn R e w' B A n cap l := ⟨h.1, Own.row_on h.2 hb⟩
theorem ROwn.none : ROwn R e w B none 0 0 [] := ⟨rfl, World.ownsRow_nil _ _ _ _⟩
theorem ROwn.new (hB : B ≤ w.heap.size) : ROwn R e (w.alloc (.cells #[] e)) B (some ⟨w.heap.size, 0, Option.none⟩) 0 0 [] := ⟨rfl, Own.new_row _ _ _ _ hB⟩
theorem ROwn.kept {r : Option Nat} {g' : Nat} (h : ROwn R e w B A n cap l) (hk : Own.Kept w w' r g') (hne : (Value.slice A n cap).ownBlock = Option.none ∨ (Value.slice A n cap).ownBlock ≠ r) : ROwn R e w' B A n cap l := ⟨h.1, hk.row h.2 hne⟩
theorem ROwn.le (h : ROwn R e w B A n cap l) : n ≤ cap ∧ cap ≤ maxLen := by
  rcases h.2.2 with ⟨hv, hn⟩ | ⟨g, cap', cur, hv, _, _, h1, h2, _⟩
  · injection hv with _ e1 e2
    exact ⟨by omega, by rw [e2]; exact Nat.zero_le _⟩
  · injection hv with _ e1 e2
    subst e2;exact ⟨h1, h2⟩
theorem ROwn.mono {B' : Nat} (h : ROwn R e w B A n cap l) (hB : B' ≤ B) : ROwn R e w B' A n cap l := by
  refine ⟨h.1, h.2.1, ?_⟩;rcases h.2.2 with hn | ⟨g, cap', cur, hv, hb, rest⟩
  · exact .inl hn
  · exact .inr ⟨g, cap', cur, hv, Nat.le_trans hB hb, rest⟩
theorem ROwn.push1 {P : Program} {T : TypeId} {z : Value} {bytes : Nat} {w0 v : World} (hE : Own.Elem P T e z R.size bytes) (ty : TypeId) (x : α) (ca : Array Value) (hca : ca = (R.enc x).toArray) (hO : ROwn R e v w0.heap.size A n cap l) (hb : Below w0.heap.size w0 v) (hmax : n ≤ 999999) (hby : bytes ≤ 100000) :
    ∃ g' cap' v', (Builtin.append_ #[T, T] ty #[.slice A n cap, .slice (some ⟨v.heap.size, 0, Option.none⟩) 1 1]).run P (v.alloc (.cells ca e)) = .ok (.slice (some ⟨g', 0, Option.none⟩) (n + 1) cap') v' ∧
      ROwn R e v' w0.heap.size (some ⟨g', 0, Option.none⟩) (n + 1) cap' (l ++ [x]) ∧ Below w0.heap.size w0 v' ∧ Own.Kept (v.alloc (.cells ca e)) v' (Value.slice A n cap).ownBlock g' := by
  subst hca
  obtain ⟨g', cap', v', h1, h2, h3, h4⟩ := Own.append hE w0 (v.alloc (.cells (R.enc x).toArray e)) ty A n cap 1 1 (cs R l) (hO.2.alloc _) ⟨v.heap.size, 0, Option.none⟩ (R.enc x) (by rw [R.len, Nat.one_mul]) (fun j u hu => World.news_of_block (cs := (R.enc x).toArray) (heap_alloc_new v _) j u (by simpa using hu)) (R.one x) (by omega) (by unfold maxLen; omega) (by
    have : (n + 1) * bytes ≤ 1000000 * 100000 := Nat.mul_le_mul (by omega) hby
    omega) (hb.alloc hb.size _)
  exact ⟨g', cap', v', h1, ⟨by rw [List.length_append, ← hO.1]; rfl, by rw [cs_app]; simpa [cs] using h2⟩, h3, h4⟩
end Go.Proofs.YtaikghenimfjcaaDoor.RowG
end
section
namespace Go.Proofs.YtaikghenimfjcaaDoor.RowG
open Go Go.RowKit Go.Lib
def Hold {α : Type} (R : Rw α) (w : World) (g : Nat) (l : List α) : Prop := g < w.heap.size ∧ ∀ (i : Nat) (a : α), l[i]? = some a → ∀ (j : Nat) (u : Value), (R.enc a)[j]? = some u → w.cell? ⟨g, i * R.size + j, none⟩ = some u ∧ w.frozen? ⟨g, i * R.size + j, none⟩ = false
section
variable {α : Type} {R : Rw α} {w w' : World} {g : Nat} {l : List α}
theorem Hold.rin (h : Hold R w g l) : RIn R w (some ⟨g, 0, none⟩) l := fun i a hi => ⟨g, 0, rfl, h.1, fun j u hu => by rw [Nat.zero_add]; exact (h.2 i a hi j u hu).1⟩
theorem Hold.at (h : Hold R w g l) (hs : w.heap.size ≤ w'.heap.size) (e : w'.heap[g]? = w.heap[g]?) : Hold R w' g l := ⟨Nat.lt_of_lt_of_le h.1 hs, fun i a hi j u hu => by
  obtain ⟨h1, h2⟩ := h.2 i a hi j u hu
  exact ⟨by simp only [World.cell?, e]; exact h1, by simp only [World.frozen?, e]; exact h2⟩⟩
theorem Hold.on (h : Hold R w g l) (hb : Below w.heap.size w w') : Hold R w' g l := h.at hb.size (hb.block g h.1)
theorem Hold.drewN (h : Hold R w g l) (n : Nat) : Hold R (w.drewN n) g l := h
theorem Hold.cell (h : Hold R w g l) {i j : Nat} {a : α} {u : Value} (hi : l[i]? = some a) (hu : (R.enc a)[j]? = some u) : w.cell? ⟨g, i * R.size + j, none⟩ = some u := (h.2 i a hi j u hu).1
theorem Hold.there (h : Hold R w g l) {k : Nat} (hk : k < l.length) : w.there g (k * R.size) R.size := fun j hj => by
  have hj2 : j < (R.enc l[k]).length := by rw [R.len]; exact hj
  obtain ⟨h1, h2⟩ := h.2 k l[k] (List.getElem?_eq_getElem hk) j (R.enc l[k])[j] (List.getElem?_eq_getElem hj2);exact ⟨by rw [h1]; rfl, h2⟩
theorem size_setCellsG (b : Nat) : ∀ (vs : List Value) (o : Nat) (w : World), (w.setCells b o vs).heap.size = w.heap.size
  | [], _, _ => rfl
  | v :: r, o, w => by rw [World.setCells, size_setCellsG b r]; simp [World.setCell]
theorem Hold.set (h : Hold R w g l) (k : Nat) (hk : k < l.length) (a : α) : Hold R (w.setCells g (k * R.size) (R.enc a)) g (l.set k a) := by
  refine ⟨by rw [size_setCellsG]; exact h.1, fun i b hi j u hu => ?_⟩;have hj : j < R.size := by have := (List.getElem?_eq_some_iff.1 hu).1; rwa [R.len] at this
  rw [World.frozen?_setCells];have ht := h.there hk
  by_cases e : i = k
  · subst e;rw [List.getElem?_set_self hk] at hi;cases hi;obtain ⟨hj2, e2⟩ := List.getElem?_eq_some_iff.1 hu;refine ⟨?_, (ht j hj).2⟩;rw [World.cell?_setCells_in g (R.enc a) (i * R.size) w (fun j' hj' => (ht j' (by rwa [R.len] at hj')).1) j hj2, e2]
  · rw [List.getElem?_set_ne (fun q => e q.symm)] at hi;obtain ⟨h1, h2⟩ := h.2 i b hi j u hu;refine ⟨?_, h2⟩;rw [World.cell?_setCells_out g (R.enc a) (k * R.size) w ⟨g, i * R.size + j, none⟩ (fun _ _ => ?_)]
    · exact h1
    · show i * R.size + j < k * R.size ∨ k * R.size + (R.enc a).length ≤ i * R.size + j;rw [R.len];rcases Nat.lt_or_gt_of_ne e with q | q
      · left
        have := Nat.mul_le_mul_right R.size (show i + 1 ≤ k from q);rw [Nat.add_mul] at this;omega
      · right
        have := Nat.mul_le_mul_right R.size (show k + 1 ≤ i from q);rw [Nat.add_mul] at this;omega
theorem Hold.take (h : Hold R w g l) (k : Nat) : Hold R w g (l.take k) := ⟨h.1, fun i a hi => h.2 i a (by
  rw [List.getElem?_take] at hi
  split at hi
  · exact hi
  · cases hi)⟩
theorem hold_of_own {e : TypeId} {B n cap : Nat} (h : ROwn R e w B (some ⟨g, 0, none⟩) n cap l) : Hold R w g l := ⟨h.lt, fun i a hi j u hu => by
  have c := h.rin.cell hi hu;rw [Nat.zero_add] at c;obtain ⟨hn, hl, hr⟩ := h;rcases hr with ⟨hv, _⟩ | ⟨g', cap', cur, hv, hB, hg, hle, hm, hs, ht⟩
  · cases hv
  · simp only [Value.slice.injEq, Option.some.injEq, Addr.mk.injEq] at hv;obtain ⟨⟨rfl, _, _⟩, _, _⟩ := hv
    exact ⟨c, by simp [World.frozen?, hg]⟩⟩
end
def ipR : Rw (Int × Int) := ⟨fun p => [.int .i64 p.1, .int .i64 p.2], 2, fun _ => rfl, fun _ u hu => by
  simp at hu
  rcases hu with rfl | rfl <;> rfl⟩
end Go.Proofs.YtaikghenimfjcaaDoor.RowG
end
section
namespace Go.Proofs.YtaikghenimfjcaaDoor.Num
open Go Go.RowKit Go.Lib
def nt (l : List Int) (i : Nat) : Int := l.getD i 0
theorem nt_at (l : List Int) (i : Nat) (h : i < l.length) : nt l i = l[i] := by simp [nt, List.getD, List.getElem?_eq_getElem h]
theorem take_nt (l : List Int) (k : Nat) (h : k < l.length) : l.take (k + 1) = l.take k ++ [nt l k] := by rw [List.take_succ_eq_append_getElem h, nt_at l k h]
theorem nts_eq {xs ys : List Int} (hl : xs.length = ys.length) (h : ∀ i, i < xs.length → nt xs i = nt ys i) : xs = ys := by
  apply List.ext_getElem hl
  intro i h1 h2;have := h i h1
  rwa [nt_at _ _ h1, nt_at _ _ h2] at this
def iV (n : Int) : Value := .int .i64 n
theorem addr_add (b o j : Nat) : (⟨b, o, none⟩ : Addr).add j = ⟨b, o + j, none⟩ := by unfold Addr.add; split <;> simp_all
def IIn (w : World) (A : Option Addr) (l : List Int) : Prop := ∀ i, i < l.length → ∃ b o, A = some ⟨b, o, none⟩ ∧ b < w.heap.size ∧ w.cell? ⟨b, o + i, none⟩ = some (.int .i64 (nt l i))
theorem IIn.on {w w' : World} {A : Option Addr} {l : List Int} (h : IIn w A l) (hb : Below w.heap.size w w') : IIn w' A l := fun i hi => by
  obtain ⟨b, o, e, hlt, h1⟩ := h i hi;exact ⟨b, o, e, Nat.lt_of_lt_of_le hlt hb.size, (hb.cell (p := ⟨b, o + i, none⟩) hlt).trans h1⟩
theorem IIn.drewN {w : World} {A : Option Addr} {l : List Int} (h : IIn w A l) (n : Nat) : IIn (w.drewN n) A l := h
theorem IIn.nil (w : World) (A : Option Addr) : IIn w A [] := fun i hi => absurd hi (by simp)
theorem IIn.cells {w : World} {b o : Nat} {l : List Int} (h : IIn w (some ⟨b, o, none⟩) l) {i : Nat} (hi : i < l.length) : w.cell? ⟨b, o + i, none⟩ = some (.int .i64 (nt l i)) := by
  obtain ⟨b', o', e, _, h1⟩ := h i hi;cases e;exact h1
theorem IIn.news {w : World} {b o : Nat} {l : List Int} (h : IIn w (some ⟨b, o, none⟩) l) : ∀ j u, (l.map iV)[j]? = some u → w.cell? ((⟨b, o, none⟩ : Addr).add j) = some u := fun j u hu => by
  have hj : j < l.length := by
    rcases Nat.lt_or_ge j l.length with h' | h'
    · exact h'
    · rw [List.getElem?_eq_none (by simpa using h')] at hu; cases hu
  rw [addr_add, h.cells hj, nt_at _ _ hj];rw [List.getElem?_map, List.getElem?_eq_getElem hj] at hu;exact hu
def OwnI (w : World) (B : Nat) (A : Option Addr) (n cap : Nat) (l : List Int) : Prop := n = l.length ∧ w.ownsRow B 3 1 (.slice A n cap) n (l.map iV)
theorem OwnI.iin {w : World} {B : Nat} {A : Option Addr} {n cap : Nat} {l : List Int} (h : OwnI w B A n cap l) : IIn w A l := fun i hi => by
  obtain ⟨g, cap', e, hb, hlt⟩ := h.2.form (by rw [h.1]; omega);simp only [Value.slice.injEq] at e;obtain ⟨rfl, _, _⟩ := e;have hc := h.2.cells (g := g) rfl;have a1 := hc i _ (by rw [List.getElem?_map, List.getElem?_eq_getElem hi]; rfl);rw [addr_add] at a1;exact ⟨g, 0, rfl, hlt, by rw [nt_at _ _ hi]; exact a1⟩
theorem OwnI.ge {w : World} {B g n cap : Nat} {l : List Int} (h : OwnI w B (some ⟨g, 0, none⟩) n cap l) : B ≤ g := (h.2.lt g rfl).1
theorem OwnI.lt {w : World} {B g n cap : Nat} {l : List Int} (h : OwnI w B (some ⟨g, 0, none⟩) n cap l) : g < w.heap.size := (h.2.lt g rfl).2
theorem OwnI.alloc {w : World} {B n cap : Nat} {A : Option Addr} {l : List Int} (h : OwnI w B A n cap l) (o : Obj) : OwnI (w.alloc o) B A n cap l := ⟨h.1, h.2.alloc o⟩
theorem OwnI.drew {w : World} {B n cap : Nat} {A : Option Addr} {l : List Int} (h : OwnI w B A n cap l) : OwnI w.drew B A n cap l := h
theorem OwnI.on {w w' : World} {B n cap : Nat} {A : Option Addr} {l : List Int} (h : OwnI w B A n cap l) (hb : Below w.heap.size w w') : OwnI w' B A n cap l := ⟨h.1, Own.row_on h.2 hb⟩
theorem OwnI.none (w : World) (B : Nat) : OwnI w B none 0 0 [] := ⟨rfl, World.ownsRow_nil _ _ _ _⟩
theorem OwnI.new (w : World) (B : Nat) (hB : B ≤ w.heap.size) : OwnI (w.alloc (.cells #[] 3)) B (some ⟨w.heap.size, 0, Option.none⟩) 0 0 [] := ⟨rfl, Own.new_row _ _ _ _ hB⟩
theorem OwnI.kept {v v' : World} {r : Option Nat} {g' B n cap : Nat} {A : Option Addr} {l : List Int} (h : OwnI v B A n cap l) (hk : Own.Kept v v' r g') (hne : (Value.slice A n cap).ownBlock = Option.none ∨ (Value.slice A n cap).ownBlock ≠ r) : OwnI v' B A n cap l := ⟨h.1, hk.row h.2 hne⟩
theorem elemI : Own.Elem Tryd.prog 37 3 (.int .i64 0) 1 8 := ⟨Tryd.underlying37, by kernel_rfl, rfl, by decide⟩
theorem push1 (w0 v : World) (ty : TypeId) (A : Option Addr) (n cap : Nat) (l : List Int) (e : Int) (hO : OwnI v w0.heap.size A n cap l) (hb : Below w0.heap.size w0 v) (hn : n ≤ 100000) :
    ∃ g' cap' v', (Builtin.append_ #[37, 37] ty #[.slice A n cap, .slice (some ⟨v.heap.size, 0, none⟩) 1 1]).run Tryd.prog (v.alloc (.cells #[.int .i64 e] 3)) = .ok (.slice (some ⟨g', 0, none⟩) (n + 1) cap') v' ∧
      OwnI v' w0.heap.size (some ⟨g', 0, none⟩) (n + 1) cap' (l ++ [e]) ∧ Below w0.heap.size w0 v' ∧ Own.Kept (v.alloc (.cells #[.int .i64 e] 3)) v' (Value.slice A n cap).ownBlock g' := by
  obtain ⟨g', cap', v', h1, h2, h3, h4⟩ := Own.append elemI w0 (v.alloc (.cells #[.int .i64 e] 3)) ty A n cap 1 1 (l.map iV) (hO.2.alloc _) ⟨v.heap.size, 0, none⟩ [.int .i64 e] rfl (World.news_of_block (cs := #[.int .i64 e]) (heap_alloc_new v _)) (by simp [Value.oneCell']) (by omega) (by unfold maxLen; omega) (by omega) (hb.alloc hb.size _);exact ⟨g', cap', v', h1, ⟨by rw [List.length_append, ← hO.1]; rfl, by rw [List.map_append]; exact h2⟩, h3, h4⟩
end Go.Proofs.YtaikghenimfjcaaDoor.Num
end
section
namespace Go.Proofs.YtaikghenimfjcaaDoor.Edg
def lessB (a b : Int × Int) : Bool := decide (a.1 < b.1) || (decide (a.1 = b.1) && decide (a.2 < b.2))
theorem less_iff (a b : Int × Int) : lessB a b = true ↔ a.1 < b.1 ∨ a.1 = b.1 ∧ a.2 < b.2 := by simp [lessB]
theorem less_irr (a : Int × Int) : lessB a a = false := by
  cases h : lessB a a with
  | false => rfl
  | true => rw [less_iff] at h; omega
theorem less_trans {a b c : Int × Int} (h1 : lessB a b = true) (h2 : lessB b c = true) : lessB a c = true := by
  rw [less_iff] at *; omega
theorem less_eq {a b : Int × Int} (h1 : lessB a b = false) (h2 : lessB b a = false) : a = b := by
  have h1' : ¬ lessB a b = true := by simp [h1]
  have h2' : ¬ lessB b a = true := by simp [h2]
  rw [less_iff] at h1' h2';exact Prod.ext (by omega) (by omega)
theorem less_asym {a b : Int × Int} (h : lessB a b = true) : lessB b a = false := by
  cases h2 : lessB b a with
  | false => rfl
  | true => have := less_trans h h2; rw [less_irr] at this; cases this
def Srt (l : List (Int × Int)) : Prop := l.Pairwise (fun a b => lessB a b = true)
structure NormOf (xs ys : List (Int × Int)) : Prop where
  srt : Srt ys
  mem : ∀ e, e ∈ ys ↔ e ∈ xs
theorem srt_unique : ∀ {l m : List (Int × Int)}, Srt l → Srt m → (∀ e, e ∈ l ↔ e ∈ m) → l = m
  | [], [], _, _, _ => rfl
  | [], b :: m, _, _, h => by have := (h b).2 List.mem_cons_self; cases this
  | a :: l, [], _, _, h => by have := (h a).1 List.mem_cons_self; cases this
  | a :: l, b :: m, hl, hm, h => by
    obtain ⟨hl1, hl2⟩ := List.pairwise_cons.1 hl;obtain ⟨hm1, hm2⟩ := List.pairwise_cons.1 hm
    have hab : a = b := by
      rcases List.mem_cons.1 ((h a).1 List.mem_cons_self) with e | e
      · exact e
      · rcases List.mem_cons.1 ((h b).2 List.mem_cons_self) with e2 | e2
        · exact e2.symm
        · have h1 := hm1 a e;have h2 := hl1 b e2;rw [less_asym h1] at h2;cases h2
    subst hab
    congr 1
    refine srt_unique hl2 hm2 fun e => ⟨fun he => ?_, fun he => ?_⟩
    · rcases List.mem_cons.1 ((h e).1 (List.mem_cons_of_mem _ he)) with rfl | h'
      · have := hl1 e he; rw [less_irr] at this; cases this
      · exact h'
    · rcases List.mem_cons.1 ((h e).2 (List.mem_cons_of_mem _ he)) with rfl | h'
      · have := hm1 e he; rw [less_irr] at this; cases this
      · exact h'
theorem NormOf.unique {xs ys zs : List (Int × Int)} (h1 : NormOf xs ys) (h2 : NormOf xs zs) : ys = zs := srt_unique h1.srt h2.srt fun e => (h1.mem e).trans (h2.mem e).symm
theorem srt_put {l : List (Int × Int)} {e : Int × Int} {k : Nat} (h : Srt l) (h1 : ∀ a ∈ l.take k, lessB a e = true) (h2 : ∀ b ∈ l.drop k, lessB e b = true) : Srt (l.take k ++ e :: l.drop k) := by
  have hs : Srt (l.take k ++ l.drop k) := by rw [List.take_append_drop]; exact h
  unfold Srt at *;rw [List.pairwise_append] at hs ⊢;refine ⟨hs.1, List.pairwise_cons.2 ⟨h2, hs.2.1⟩, fun a ha b hb => ?_⟩;rcases List.mem_cons.1 hb with rfl | hb
  · exact h1 a ha
  · exact hs.2.2 a ha b hb
theorem srt_drop {l : List (Int × Int)} {e : Int × Int} {k : Nat} (h : Srt l) (hk : (hk : k < l.length) → lessB e l[k] = true) : ∀ b ∈ l.drop k, lessB e b = true := by
  intro b hb;rcases Nat.lt_or_ge k l.length with hlt | hge
  · have hs : Srt (l.drop k) := List.Pairwise.drop h;rw [List.drop_eq_getElem_cons hlt] at hb hs;rcases List.mem_cons.1 hb with rfl | hb
    · exact hk hlt
    · exact less_trans (hk hlt) ((List.pairwise_cons.1 hs).1 b hb)
  · rw [List.drop_of_length_le hge] at hb; cases hb
theorem mem_put {l : List (Int × Int)} {e a : Int × Int} {k : Nat} : a ∈ l.take k ++ e :: l.drop k ↔ a = e ∨ a ∈ l := by
  rw [List.mem_append, List.mem_cons]
  conv => rhs; rw [← List.take_append_drop k l, List.mem_append]
  constructor
  · rintro (h | h | h)
    · exact .inr (.inl h)
    · exact .inl h
    · exact .inr (.inr h)
  · rintro (h | h | h)
    · exact .inr (.inl h)
    · exact .inl h
    · exact .inr (.inr h)
end Go.Proofs.YtaikghenimfjcaaDoor.Edg
end
section
namespace Go.Proofs.YtaikghenimfjcaaDoor.Edg
open Go Go.RowKit Go.Lib
def ed (l : List (Int × Int)) (i : Nat) : Int × Int := l.getD i (0, 0)
theorem ed_at (l : List (Int × Int)) (i : Nat) (h : i < l.length) : ed l i = l[i] := by simp [ed, List.getD, List.getElem?_eq_getElem h]
theorem take_ed (l : List (Int × Int)) (k : Nat) (h : k < l.length) : l.take (k + 1) = l.take k ++ [ed l k] := by rw [List.take_succ_eq_append_getElem h, ed_at l k h]
def eV (e : Int × Int) : Value := .agg #[.int .i64 e.1, .int .i64 e.2]
def eC : List (Int × Int) → List Value
  | [] => []
  | e :: l => .int .i64 e.1 :: .int .i64 e.2 :: eC l
theorem eC_len (l : List (Int × Int)) : (eC l).length = l.length * 2 := by
  induction l with
  | nil => rfl
  | cons e l ih => simp [eC, ih]; omega
theorem eC_app (l m : List (Int × Int)) : eC (l ++ m) = eC l ++ eC m := by
  induction l with
  | nil => rfl
  | cons e l ih => simp [eC, ih]
theorem eC_one (l : List (Int × Int)) : ∀ u ∈ eC l, u.oneCell' = true := by
  induction l with
  | nil => intro u hu; cases hu
  | cons e l ih =>
    intro u hu;rcases List.mem_cons.1 hu with rfl | hu
    · rfl
    · rcases List.mem_cons.1 hu with rfl | hu
      · rfl
      · exact ih u hu
theorem eC_at (l : List (Int × Int)) (i : Nat) (h : i < l.length) : (eC l)[i * 2]? = some (.int .i64 (ed l i).1) ∧ (eC l)[i * 2 + 1]? = some (.int .i64 (ed l i).2) := by
  induction l generalizing i with
  | nil => simp at h
  | cons e l ih =>
    cases i with
    | zero => exact ⟨rfl, rfl⟩
    | succ i =>
      have := ih i (by simpa using h);rw [show (i + 1) * 2 = i * 2 + 2 by omega, show i * 2 + 2 + 1 = (i * 2 + 1) + 2 by omega]
      simpa [eC, ed] using this
def EIn (w : World) (A : Option Addr) (l : List (Int × Int)) : Prop := ∀ i, i < l.length → ∃ b o, A = some ⟨b, o, none⟩ ∧ b < w.heap.size ∧ w.cell? ⟨b, o + i * 2, none⟩ = some (.int .i64 (ed l i).1) ∧ w.cell? ⟨b, o + i * 2 + 1, none⟩ = some (.int .i64 (ed l i).2)
theorem EIn.on {w w' : World} {A : Option Addr} {l : List (Int × Int)} (h : EIn w A l) (hb : Below w.heap.size w w') : EIn w' A l := fun i hi => by
  obtain ⟨b, o, e, hlt, h1, h2⟩ := h i hi;exact ⟨b, o, e, Nat.lt_of_lt_of_le hlt hb.size, (hb.cell (p := ⟨b, o + i * 2, none⟩) hlt).trans h1, (hb.cell (p := ⟨b, o + i * 2 + 1, none⟩) hlt).trans h2⟩
theorem EIn.below {w w' : World} {B : Nat} {A : Option Addr} {l : List (Int × Int)} (h : EIn w A l) (hb : Below B w w') (hB : w.heap.size ≤ B) : EIn w' A l := h.on (hb.mono hB)
theorem EIn.drew {w : World} {A : Option Addr} {l : List (Int × Int)} (h : EIn w A l) : EIn w.drew A l := h
theorem EIn.drewN {w : World} {A : Option Addr} {l : List (Int × Int)} (h : EIn w A l) (n : Nat) : EIn (w.drewN n) A l := h
theorem EIn.nil (w : World) (A : Option Addr) : EIn w A [] := fun i hi => absurd hi (by simp)
theorem EIn.cells {w : World} {b o : Nat} {l : List (Int × Int)} (h : EIn w (some ⟨b, o, none⟩) l) {i : Nat} (hi : i < l.length) : w.cell? ⟨b, o + i * 2, none⟩ = some (.int .i64 (ed l i).1) ∧ w.cell? ⟨b, o + i * 2 + 1, none⟩ = some (.int .i64 (ed l i).2) := by
  obtain ⟨b', o', e, _, h1, h2⟩ := h i hi;cases e;exact ⟨h1, h2⟩
theorem addr_add (b o j : Nat) : (⟨b, o, none⟩ : Addr).add j = ⟨b, o + j, none⟩ := by unfold Addr.add; split <;> simp_all
theorem EIn.news {w : World} {b o : Nat} {l : List (Int × Int)} (h : EIn w (some ⟨b, o, none⟩) l) : ∀ j u, (eC l)[j]? = some u → w.cell? ((⟨b, o, none⟩ : Addr).add j) = some u := fun j u hu => by
  have hj : j < (eC l).length := by
    rcases Nat.lt_or_ge j (eC l).length with h' | h'
    · exact h'
    · rw [List.getElem?_eq_none h'] at hu; cases hu
  rw [eC_len] at hj;rw [addr_add];have hi : j / 2 < l.length := by omega
  have h1 := h.cells hi;have h2 := eC_at l (j / 2) hi;rcases Nat.mod_two_eq_zero_or_one j with hm | hm
  · have e : j / 2 * 2 = j := by omega
    rw [e] at h1 h2;rw [h2.1] at hu;rw [h1.1, ← hu]
  · have e : j / 2 * 2 + 1 = j := by omega
    rw [Nat.add_assoc, e] at h1;rw [e] at h2;rw [h2.2] at hu;rw [h1.2, ← hu]
def OwnE (w : World) (B : Nat) (A : Option Addr) (n cap : Nat) (l : List (Int × Int)) : Prop := n = l.length ∧ w.ownsRow B 59 2 (.slice A n cap) n (eC l)
theorem OwnE.ein {w : World} {B : Nat} {A : Option Addr} {n cap : Nat} {l : List (Int × Int)} (h : OwnE w B A n cap l) : EIn w A l := fun i hi => by
  obtain ⟨g, cap', e, hb, hlt⟩ := h.2.form (by rw [h.1]; omega);simp only [Value.slice.injEq] at e;obtain ⟨rfl, _, _⟩ := e;have hc := h.2.cells (g := g) rfl;have h1 := eC_at l i hi;have a1 := hc _ _ h1.1;have a2 := hc _ _ h1.2;rw [addr_add] at a1 a2;exact ⟨g, 0, rfl, hlt, a1, by rw [Nat.add_assoc]; exact a2⟩
theorem OwnE.ge {w : World} {B g n cap : Nat} {l : List (Int × Int)} (h : OwnE w B (some ⟨g, 0, none⟩) n cap l) : B ≤ g := (h.2.lt g rfl).1
theorem OwnE.lt {w : World} {B g n cap : Nat} {l : List (Int × Int)} (h : OwnE w B (some ⟨g, 0, none⟩) n cap l) : g < w.heap.size := (h.2.lt g rfl).2
theorem OwnE.alloc {w : World} {B n cap : Nat} {A : Option Addr} {l : List (Int × Int)} (h : OwnE w B A n cap l) (o : Obj) : OwnE (w.alloc o) B A n cap l := ⟨h.1, h.2.alloc o⟩
theorem OwnE.drew {w : World} {B n cap : Nat} {A : Option Addr} {l : List (Int × Int)} (h : OwnE w B A n cap l) : OwnE w.drew B A n cap l := h
theorem OwnE.on {w w' : World} {B n cap : Nat} {A : Option Addr} {l : List (Int × Int)} (h : OwnE w B A n cap l) (hb : Below w.heap.size w w') : OwnE w' B A n cap l := ⟨h.1, Own.row_on h.2 hb⟩
theorem OwnE.none (w : World) (B : Nat) : OwnE w B none 0 0 [] := ⟨rfl, World.ownsRow_nil _ _ _ _⟩
theorem OwnE.new (w : World) (B : Nat) (hB : B ≤ w.heap.size) : OwnE (w.alloc (.cells #[] 59)) B (some ⟨w.heap.size, 0, Option.none⟩) 0 0 [] := ⟨rfl, Own.new_row _ _ _ _ hB⟩
theorem OwnE.kept {v v' : World} {r : Option Nat} {g' B n cap : Nat} {A : Option Addr} {l : List (Int × Int)} (h : OwnE v B A n cap l) (hk : Own.Kept v v' r g') (hne : (Value.slice A n cap).ownBlock = Option.none ∨ (Value.slice A n cap).ownBlock ≠ r) : OwnE v' B A n cap l := ⟨h.1, hk.row h.2 hne⟩
theorem elemE : Own.Elem Tryd.prog 22 59 (.agg #[.int .i64 0, .int .i64 0]) 2 16 := ⟨Tryd.underlying22, by kernel_rfl, rfl, by decide⟩
theorem push1 (w0 v : World) (ty : TypeId) (A : Option Addr) (n cap : Nat) (l : List (Int × Int)) (e : Int × Int) (hO : OwnE v w0.heap.size A n cap l) (hb : Below w0.heap.size w0 v) (hn : n ≤ 100000) :
    ∃ g' cap' v', (Builtin.append_ #[22, 22] ty #[.slice A n cap, .slice (some ⟨v.heap.size, 0, none⟩) 1 1]).run Tryd.prog (v.alloc (.cells #[.int .i64 e.1, .int .i64 e.2] 59)) = .ok (.slice (some ⟨g', 0, none⟩) (n + 1) cap') v' ∧
      OwnE v' w0.heap.size (some ⟨g', 0, none⟩) (n + 1) cap' (l ++ [e]) ∧ Below w0.heap.size w0 v' ∧ Own.Kept (v.alloc (.cells #[.int .i64 e.1, .int .i64 e.2] 59)) v' (Value.slice A n cap).ownBlock g' := by
  obtain ⟨g', cap', v', h1, h2, h3, h4⟩ := Own.append elemE w0 (v.alloc (.cells #[.int .i64 e.1, .int .i64 e.2] 59)) ty A n cap 1 1 (eC l) (hO.2.alloc _) ⟨v.heap.size, 0, none⟩ [.int .i64 e.1, .int .i64 e.2] rfl (World.news_of_block (cs := #[.int .i64 e.1, .int .i64 e.2]) (heap_alloc_new v _)) (by simp [Value.oneCell']) (by omega) (by unfold maxLen; omega) (by omega) (hb.alloc hb.size _);exact ⟨g', cap', v', h1, ⟨by rw [List.length_append, ← hO.1]; rfl, by rw [eC_app]; exact h2⟩, h3, h4⟩
end Go.Proofs.YtaikghenimfjcaaDoor.Edg
end
section
namespace Go.Proofs.YtaikghenimfjcaaDoor.Num
open Go Go.RowKit Go.Lib
set_option maxRecDepth 100000 in
set_option maxHeartbeats 2000000 in
theorem refInts_any (A B : Option Addr) (ca cb : Nat) (xs ys : List Int) (w : World) (hx : xs.length ≤ maxLen) (hy : ys.length ≤ maxLen) (hA : IIn w A xs) (hB : IIn w B ys) :
    Calls Tryd.prog 18 #[.slice A xs.length ca, .slice B ys.length cb] w fun e w' => e = .returned (.bool (decide (xs = ys))) ∧ ∃ q, w' = w.drewN q := by
  unfold maxLen at hx hy;have HA := Lib.hid hA;have HB := Lib.hid hB;clear hA hB;refine Kn.calls Tryd.func18 rfl Tryd.ntmps18 rfl (.cons (t := 0) rfl (.cons (t := 1) rfl .nil)) fun fa0 fh0 => ?_;refine wp_seq_k fun K1 hK1 => ?_;refine wp_region_lit ?_;refine Kn.pure fh0 rfl rfl .none (Kn.ex_assign fh0 .const) fun fa1 fh1 => ?_;clear fh0 fa0;refine wpList_nil ?_;refine hK1 _ _ ?_;clear hK1 K1
  by_cases hlen : xs.length = ys.length
  · have qn : ((xs.length : Int) != (ys.length : Int)) = false := by simp [hlen]
    have qn2 : (xs.length != ys.length) = false := by simp [hlen]
    have HL := Lib.hid hlen;clear hlen;refine wp_seq_k fun K2 hK2 => ?_;refine wp_seq_k fun K3 hK3 => ?_;refine wp_region_lit ?_;refine Kn.pure fh1 rfl rfl .none (Kn.ex_move fh1 (.tmp rfl)) fun fa2 fh2 => ?_;clear fh1 fa1;refine Kn.step fh2 rfl rfl .none (Kn.ex_len fh2 (.tmp rfl)) fun Ko hKo => ?_;go_simp;(try go_bits);refine hKo _ _ fun fa3 fh3 => ?_;clear hKo Ko fh2 fa2;refine Kn.pure fh3 rfl rfl .none (Kn.ex_move fh3 (.tmp rfl)) fun fa4 fh4 => ?_;clear fh3 fa3;refine Kn.step fh4 rfl rfl .none (Kn.ex_len fh4 (.tmp rfl)) fun Ko hKo => ?_;go_simp;(try go_bits);refine hKo _ _ fun fa5 fh5 => ?_;clear hKo Ko fh4 fa4;refine Kn.step fh5 rfl rfl .none (Kn.ex_bin fh5 (.tmp rfl) (.tmp rfl)) fun Ko hKo => ?_;go_simp;(try go_bits);refine hKo _ _ fun fa6 fh6 => ?_;clear hKo Ko fh5 fa5;refine wpList_nil ?_;refine hK3 _ _ ?_;clear hK3 K3;replace fh6 := fh6.cut (.cons (t := 10) rfl (.cons (t := 4) rfl (.cons (t := 0) rfl (.cons (t := 1) rfl .nil))));clear qn qn2;refine Kn.no fh6 (.tmp rfl) ?_;refine wp_skip ?_;refine hK2 _ _ ?_;clear hK2 K2;replace fh6 := fh6.cut (.cons (t := 4) rfl (.cons (t := 0) rfl (.cons (t := 1) rfl .nil)));refine wp_seq_k fun K4 hK4 => ?_;refine wp_seq_k fun K5 hK5 => ?_;refine wp_region_lit ?_;refine Kn.pure fh6 rfl rfl .none (Kn.ex_assign fh6 .const) fun fa7 fh7 => ?_;clear fh6 fa6;refine wpList_nil ?_;refine hK5 _ _ ?_;clear hK5 K5;refine wp_block ?_;refine Kn.loop (fun m fr v => ∃ (k q : Nat), Kn.Kn 26 [(5, .int .i64 (k : Int)), (0, .slice A xs.length ca), (1, .slice B ys.length cb)] fr ∧ k + m = xs.length ∧ Hid (∀ i, i < k → nt xs i = nt ys i) ∧ v = w.drewN q) xs.length ⟨0, 0, fh7.cut (.turn (t := 5) rfl rfl (.cons (t := 0) rfl (.cons (t := 1) rfl .nil))), by omega, Lib.hid (fun i hi => absurd hi (by omega)), rfl⟩ ?_;clear fh7 fa7;intro m6 fa8 v hI Kl6 hKl6;obtain ⟨k, q, fh8, hk, HP, rfl⟩ := hI
    by_cases hlt : k < xs.length
    · have hlt2 : k < ys.length := by rw [← HL.out]; exact hlt
      obtain ⟨ba, oa, rfl, -, ca1⟩ := HA.out k hlt;obtain ⟨bb, ob, rfl, -, cb1⟩ := HB.out k hlt2;obtain ⟨x1, hx1⟩ : ∃ x, nt xs k = x := ⟨_, rfl⟩;obtain ⟨y1, hy1⟩ : ∃ x, nt ys k = x := ⟨_, rfl⟩;rw [hx1] at ca1;rw [hy1] at cb1;have HX := Lib.hid hx1;have HY := Lib.hid hy1;clear hx1 hy1;refine wp_seq_k fun K7 hK7 => ?_;refine wp_seq_k fun K8 hK8 => ?_;refine wp_region_lit ?_;refine Kn.pure fh8 rfl rfl .none (Kn.ex_move fh8 (.tmp rfl)) fun fa9 fh9 => ?_;clear fh8 fa8;refine Kn.pure fh9 rfl rfl .none (Kn.ex_move fh9 (.tmp rfl)) fun fa10 fh10 => ?_;clear fh9 fa9;refine Kn.step fh10 rfl rfl .none (Kn.ex_len fh10 (.tmp rfl)) fun Ko hKo => ?_;go_simp;(try go_bits);refine hKo _ _ fun fa11 fh11 => ?_;clear hKo Ko fh10 fa10;refine Kn.step fh11 rfl rfl .none (Kn.ex_bin fh11 (.tmp rfl) (.tmp rfl)) fun Ko hKo => ?_;go_simp;(try go_bits);refine hKo _ _ fun fa12 fh12 => ?_;clear hKo Ko fh11 fa11;refine wpList_nil ?_;refine hK8 _ _ ?_;clear hK8 K8;replace fh12 := fh12.cut (.cons (t := 14) rfl (.cons (t := 5) rfl (.cons (t := 0) rfl (.cons (t := 1) rfl .nil))));refine Kn.yes fh12 (.tmp rfl) ?_;refine wp_skip ?_;refine hK7 _ _ ?_;clear hK7 K7;replace fh12 := fh12.cut (.cons (t := 5) rfl (.cons (t := 0) rfl (.cons (t := 1) rfl .nil)));refine wp_seq_k fun K9 hK9 => ?_;refine wp_block ?_
      by_cases e1 : x1 = y1
      · have q1 : (x1 != y1) = false := by simp [e1]
        have HE : Hid (nt xs k = nt ys k) := Lib.hid (by rw [HX.out, HY.out, e1]);clear e1;refine wp_seq_k fun K10 hK10 => ?_;refine Kn.still (by kernel_rfl) (by kernel_rfl) ?_;refine Kn.spure fh12 rfl rfl .none (Kn.ex_move fh12 (.tmp rfl)) fun fa13 fh13 => ?_;clear fh12 fa12;refine Kn.spure fh13 rfl rfl .none (Kn.ex_move fh13 (.tmp rfl)) fun fa14 fh14 => ?_;clear fh13 fa13;refine Kn.sstep fh14 rfl rfl .none (Kn.ex_indexAddr fh14 (.tmp rfl) (.tmp rfl)) fun Ko hKo => ?_;go_simp;(try go_bits);refine hKo _ fun fa15 fh15 => ?_;clear hKo Ko fh14 fa14;refine Kn.sstep fh15 rfl rfl .none (Kn.ex_load fh15 (.tmp rfl)) fun Ko hKo => ?_;go_simp;(try go_bits);refine hKo _ fun fa16 fh16 => ?_;clear hKo Ko fh15 fa15;refine Kn.spure fh16 rfl rfl .none (Kn.ex_move fh16 (.tmp rfl)) fun fa17 fh17 => ?_;clear fh16 fa16;refine Kn.spure fh17 rfl rfl .none (Kn.ex_move fh17 (.tmp rfl)) fun fa18 fh18 => ?_;clear fh17 fa17;refine Kn.sstep fh18 rfl rfl .none (Kn.ex_indexAddr fh18 (.tmp rfl) (.tmp rfl)) fun Ko hKo => ?_;go_simp;(try go_bits);refine hKo _ fun fa19 fh19 => ?_;clear hKo Ko fh18 fa18;refine Kn.sstep fh19 rfl rfl .none (Kn.ex_load fh19 (.tmp rfl)) fun Ko hKo => ?_;go_simp;(try go_bits);refine hKo _ fun fa20 fh20 => ?_;clear hKo Ko fh19 fa19;refine Kn.sstep fh20 rfl rfl .none (Kn.ex_bin fh20 (.tmp rfl) (.tmp rfl)) fun Ko hKo => ?_;go_simp;(try go_bits);refine hKo _ fun fa21 fh21 => ?_;clear hKo Ko fh20 fa20;refine wpStill_nil ?_;refine hK10 _ _ ?_;clear hK10 K10;replace fh21 := fh21.cut (.cons (t := 25) rfl (.cons (t := 5) rfl (.cons (t := 0) rfl (.cons (t := 1) rfl .nil))));refine Kn.no fh21 (.tmp rfl) ?_;refine wp_skip ?_;refine Kn.block_normal ?_;refine hK9 _ _ ?_;clear hK9 K9;replace fh21 := fh21.cut (.cons (t := 5) rfl (.cons (t := 0) rfl (.cons (t := 1) rfl .nil)));refine wp_region_lit ?_;refine Kn.pure fh21 rfl rfl .none (Kn.ex_move fh21 (.tmp rfl)) fun fa22 fh22 => ?_;clear fh21 fa21;refine Kn.step fh22 rfl rfl .none (Kn.ex_bin fh22 (.tmp rfl) .const) fun Ko hKo => ?_;go_simp;(try go_bits);refine hKo _ _ fun fa23 fh23 => ?_;clear hKo Ko fh22 fa22;refine Kn.pure fh23 rfl rfl .none (Kn.ex_assign fh23 (.tmp rfl)) fun fa24 fh24 => ?_;clear fh23 fa23;refine wpList_nil ?_;replace fh24 := fh24.cut (.cons (t := 5) rfl (.cons (t := 0) rfl (.cons (t := 1) rfl .nil)));exact hKl6 (m6 - 1) _ _ (by omega) ⟨k + 1, q + 1, fh24.cut (.turn (t := 5) rfl (by go_num) (.cons (t := 0) rfl (.cons (t := 1) rfl .nil))), by omega, Lib.hid (fun i hi => by rcases Nat.lt_or_ge i k with h | h; exact HP.out i h; rw [show i = k by omega]; exact HE.out), rfl⟩
      · have q1 : (x1 != y1) = true := by simp [e1]
        have HE : Hid (xs ≠ ys) := Lib.hid (fun h => e1 (by rw [← HX.out, ← HY.out, h]));clear e1;refine wp_seq_k fun K10 hK10 => ?_;refine Kn.still (by kernel_rfl) (by kernel_rfl) ?_;refine Kn.spure fh12 rfl rfl .none (Kn.ex_move fh12 (.tmp rfl)) fun fa13 fh13 => ?_;clear fh12 fa12;refine Kn.spure fh13 rfl rfl .none (Kn.ex_move fh13 (.tmp rfl)) fun fa14 fh14 => ?_;clear fh13 fa13;refine Kn.sstep fh14 rfl rfl .none (Kn.ex_indexAddr fh14 (.tmp rfl) (.tmp rfl)) fun Ko hKo => ?_;go_simp;(try go_bits);refine hKo _ fun fa15 fh15 => ?_;clear hKo Ko fh14 fa14;refine Kn.sstep fh15 rfl rfl .none (Kn.ex_load fh15 (.tmp rfl)) fun Ko hKo => ?_;go_simp;(try go_bits);refine hKo _ fun fa16 fh16 => ?_;clear hKo Ko fh15 fa15;refine Kn.spure fh16 rfl rfl .none (Kn.ex_move fh16 (.tmp rfl)) fun fa17 fh17 => ?_;clear fh16 fa16;refine Kn.spure fh17 rfl rfl .none (Kn.ex_move fh17 (.tmp rfl)) fun fa18 fh18 => ?_;clear fh17 fa17;refine Kn.sstep fh18 rfl rfl .none (Kn.ex_indexAddr fh18 (.tmp rfl) (.tmp rfl)) fun Ko hKo => ?_;go_simp;(try go_bits);refine hKo _ fun fa19 fh19 => ?_;clear hKo Ko fh18 fa18;refine Kn.sstep fh19 rfl rfl .none (Kn.ex_load fh19 (.tmp rfl)) fun Ko hKo => ?_;go_simp;(try go_bits);refine hKo _ fun fa20 fh20 => ?_;clear hKo Ko fh19 fa19;refine Kn.sstep fh20 rfl rfl .none (Kn.ex_bin fh20 (.tmp rfl) (.tmp rfl)) fun Ko hKo => ?_;go_simp;(try go_bits);refine hKo _ fun fa21 fh21 => ?_;clear hKo Ko fh20 fa20;refine wpStill_nil ?_;refine hK10 _ _ ?_;clear hK10 K10;replace fh21 := fh21.cut (.cons (t := 25) rfl (.cons (t := 5) rfl (.cons (t := 0) rfl (.cons (t := 1) rfl .nil))));refine Kn.yes fh21 (.tmp rfl) ?_;replace fh21 := fh21.cut (.cons (t := 5) rfl (.cons (t := 0) rfl (.cons (t := 1) rfl .nil)));refine wp_seq_k fun K11 hK11 => ?_;refine wp_region_lit ?_;refine Kn.pure fh21 rfl rfl .none (Kn.ex_assign fh21 .const) fun fa22 fh22 => ?_;clear fh21 fa21;refine wpList_nil ?_;refine hK11 _ _ ?_;clear hK11 K11;refine wp_ret ?_;refine Kn.block_ret ?_;refine Kn.then_ret ?_;refine Kn.then_ret ?_;refine Kn.block_ret ?_;refine Kn.then_ret ?_;exact Kn.ret1 fh22 rfl rfl ⟨by rw [decide_eq_false HE.out], q + 1, rfl⟩
    · obtain rfl : k = xs.length := by omega
      have HE : Hid (xs = ys) := Lib.hid (nts_eq HL.out HP.out);refine wp_seq_k fun K7 hK7 => ?_;refine wp_seq_k fun K8 hK8 => ?_;refine wp_region_lit ?_;refine Kn.pure fh8 rfl rfl .none (Kn.ex_move fh8 (.tmp rfl)) fun fa9 fh9 => ?_;clear fh8 fa8;refine Kn.pure fh9 rfl rfl .none (Kn.ex_move fh9 (.tmp rfl)) fun fa10 fh10 => ?_;clear fh9 fa9;refine Kn.step fh10 rfl rfl .none (Kn.ex_len fh10 (.tmp rfl)) fun Ko hKo => ?_;go_simp;(try go_bits);refine hKo _ _ fun fa11 fh11 => ?_;clear hKo Ko fh10 fa10;refine Kn.step fh11 rfl rfl .none (Kn.ex_bin fh11 (.tmp rfl) (.tmp rfl)) fun Ko hKo => ?_;go_simp;(try go_bits);refine hKo _ _ fun fa12 fh12 => ?_;clear hKo Ko fh11 fa11;refine wpList_nil ?_;refine hK8 _ _ ?_;clear hK8 K8;replace fh12 := fh12.cut (.cons (t := 14) rfl (.cons (t := 5) rfl (.cons (t := 0) rfl (.cons (t := 1) rfl .nil))));refine Kn.no fh12 (.tmp rfl) ?_;replace fh12 := fh12.cut (.cons (t := 5) rfl (.cons (t := 0) rfl (.cons (t := 1) rfl .nil)));refine wp_exit ?_;refine Kn.then_exit ?_;clear hK7 K7;refine Kn.then_exit ?_;clear hKl6 Kl6;refine Kn.block_exit ?_;refine hK4 _ _ ?_;clear hK4 K4;replace fh12 := fh12.cut .nil;refine wp_seq_k fun K9 hK9 => ?_;refine wp_region_lit ?_;refine Kn.pure fh12 rfl rfl .none (Kn.ex_assign fh12 .const) fun fa13 fh13 => ?_;clear fh12 fa12;refine wpList_nil ?_;refine hK9 _ _ ?_;clear hK9 K9;refine wp_ret ?_;exact Kn.ret1 fh13 rfl rfl ⟨by rw [decide_eq_true HE.out], _, rfl⟩
  · have qn : ((xs.length : Int) != (ys.length : Int)) = true := by simp; omega
    have qn2 : (xs.length != ys.length) = true := by simp [hlen]
    have HE : Hid (xs ≠ ys) := Lib.hid (fun h => hlen (by rw [h]));clear hlen;refine wp_seq_k fun K2 hK2 => ?_;refine wp_seq_k fun K3 hK3 => ?_;refine wp_region_lit ?_;refine Kn.pure fh1 rfl rfl .none (Kn.ex_move fh1 (.tmp rfl)) fun fa2 fh2 => ?_;clear fh1 fa1;refine Kn.step fh2 rfl rfl .none (Kn.ex_len fh2 (.tmp rfl)) fun Ko hKo => ?_;go_simp;(try go_bits);refine hKo _ _ fun fa3 fh3 => ?_;clear hKo Ko fh2 fa2;refine Kn.pure fh3 rfl rfl .none (Kn.ex_move fh3 (.tmp rfl)) fun fa4 fh4 => ?_;clear fh3 fa3;refine Kn.step fh4 rfl rfl .none (Kn.ex_len fh4 (.tmp rfl)) fun Ko hKo => ?_;go_simp;(try go_bits);refine hKo _ _ fun fa5 fh5 => ?_;clear hKo Ko fh4 fa4;refine Kn.step fh5 rfl rfl .none (Kn.ex_bin fh5 (.tmp rfl) (.tmp rfl)) fun Ko hKo => ?_;go_simp;(try go_bits);refine hKo _ _ fun fa6 fh6 => ?_;clear hKo Ko fh5 fa5;refine wpList_nil ?_;refine hK3 _ _ ?_;clear hK3 K3;replace fh6 := fh6.cut (.cons (t := 10) rfl (.cons (t := 4) rfl (.cons (t := 0) rfl (.cons (t := 1) rfl .nil))));refine Kn.yes fh6 (.tmp rfl) ?_;replace fh6 := fh6.cut (.cons (t := 4) rfl (.cons (t := 0) rfl (.cons (t := 1) rfl .nil)));refine wp_seq_k fun K4 hK4 => ?_;refine wp_region_lit ?_;refine Kn.pure fh6 rfl rfl .none (Kn.ex_assign fh6 .const) fun fa7 fh7 => ?_;clear fh6 fa6;refine wpList_nil ?_;refine hK4 _ _ ?_;clear hK4 K4;refine wp_ret ?_;refine Kn.then_ret ?_;exact Kn.ret1 fh7 rfl rfl ⟨by rw [decide_eq_false HE.out], 0, rfl⟩
end Go.Proofs.YtaikghenimfjcaaDoor.Num
end
section
namespace Go.Proofs.YtaikghenimfjcaaDoor.Num
open Go Go.RowKit Go.Lib
def trg (xs : List (Int × Int)) (v : Int) : List Int := (xs.filter fun e => e.1 == v).map (·.2)
theorem trg_succ (xs : List (Int × Int)) (v : Int) (k : Nat) (h : k < xs.length) : trg (xs.take (k + 1)) v = trg (xs.take k) v ++ (if (Edg.ed xs k).1 = v then [(Edg.ed xs k).2] else []) := by
  unfold trg;rw [Edg.take_ed xs k h, List.filter_append, List.map_append]
  by_cases e : (Edg.ed xs k).1 = v <;> simp [e]
theorem trg_len (xs : List (Int × Int)) (v : Int) : (trg xs v).length ≤ xs.length := by unfold trg; rw [List.length_map]; exact List.length_filter_le _ _
def bgn (xs : List (Int × Int)) (v : Int) : Nat := xs.countP fun e => decide (e.1 < v)
theorem bgn_le (xs : List (Int × Int)) (v : Int) : bgn xs v ≤ xs.length := List.countP_le_length
set_option maxRecDepth 100000 in
set_option maxHeartbeats 2000000 in
theorem refTargets_any (A : Option Addr) (ca : Nat) (xs : List (Int × Int)) (v : Int) (w : World) (hx : xs.length ≤ 30000) (hA : Edg.EIn w A xs) :
    Calls Tryd.prog 16 #[.slice A xs.length ca, .int .i64 v] w fun e w' => ∃ g n cap, e = .returned (.slice (some ⟨g, 0, none⟩) n cap) ∧ OwnI w' w.heap.size (some ⟨g, 0, none⟩) n cap (trg xs v) ∧ Below w.heap.size w w' := by
  have HA := Lib.hid hA;clear hA;refine Kn.calls Tryd.func16 rfl Tryd.ntmps16 rfl (.cons (t := 0) rfl (.cons (t := 1) rfl .nil)) fun fa0 fh0 => ?_;refine wp_seq_k fun K1 hK1 => ?_;refine wp_region_lit ?_;refine Kn.pure fh0 rfl rfl .none (Kn.ex_assign fh0 .const) fun fa1 fh1 => ?_;clear fh0 fa0;refine wpList_nil ?_;refine hK1 _ _ ?_;clear hK1 K1;refine wp_seq_k fun K2 hK2 => ?_;refine wp_region_lit ?_;refine Kn.step fh1 rfl rfl .none (Kn.ex_buildSlice fh1 .nil) fun Ko hKo => ?_;go_simp;(try go_bits);refine hKo _ _ fun fa2 fh2 => ?_;clear hKo Ko fh1 fa1;refine Kn.pure fh2 rfl rfl .none (Kn.ex_assign fh2 (.tmp rfl)) fun fa3 fh3 => ?_;clear fh2 fa2;refine wpList_nil ?_;refine hK2 _ _ ?_;clear hK2 K2;replace fh3 := fh3.cut (.cons (t := 5) rfl (.cons (t := 4) rfl (.cons (t := 0) rfl (.cons (t := 1) rfl .nil))));refine wp_seq_k fun K3 hK3 => ?_;refine wp_seq_k fun K4 hK4 => ?_;refine wp_region_lit ?_;refine Kn.pure fh3 rfl rfl .none (Kn.ex_assign fh3 .const) fun fa4 fh4 => ?_;clear fh3 fa3;refine wpList_nil ?_;refine hK4 _ _ ?_;clear hK4 K4;refine wp_block ?_;refine Kn.loop (fun m fr u => ∃ (k g n cap : Nat), Kn.Kn 30 [(6, .int .i64 (k : Int)), (5, .slice (some ⟨g, 0, none⟩) n cap), (0, .slice A xs.length ca), (1, .int .i64 v)] fr ∧ k + m = xs.length ∧ Hid (OwnI u w.heap.size (some ⟨g, 0, none⟩) n cap (trg (xs.take k) v)) ∧ Hid (Below w.heap.size w u)) xs.length ⟨0, w.heap.size, 0, 0, fh4.cut (.turn (t := 6) rfl rfl (.cons (t := 5) rfl (.cons (t := 0) rfl (.cons (t := 1) rfl .nil)))), by omega, Lib.hid (OwnI.new w _ (Nat.le_refl _)), Lib.hid ((Below.refl _ w).alloc (Nat.le_refl _) _)⟩ ?_;clear fh4 fa4;intro m5 fa5 u hI Kl5 hKl5;obtain ⟨k, g, n, cap, fh5, hk, HO, HB⟩ := hI
  by_cases hlt : k < xs.length
  · have HD := trg_succ xs v k hlt;obtain ⟨ba, oa, rfl, -, ca1, ca2⟩ := (HA.out.on HB.out) k hlt;obtain ⟨x1, hx1⟩ : ∃ x, (Edg.ed xs k).1 = x := ⟨_, rfl⟩;obtain ⟨x2, hx2⟩ : ∃ x, (Edg.ed xs k).2 = x := ⟨_, rfl⟩;rw [hx1] at ca1 HD;rw [hx2] at ca2;clear hx1;rw [hx2] at HD;clear hx2;have HS := Lib.hid HD;clear HD;have hn := HO.out.1;have hnl : n ≤ 100000 := by have := trg_len (xs.take k) v; rw [List.length_take] at this; omega
    clear hn;refine wp_seq_k fun K6 hK6 => ?_;refine wp_seq_k fun K7 hK7 => ?_;refine wp_region_lit ?_;refine Kn.pure fh5 rfl rfl .none (Kn.ex_move fh5 (.tmp rfl)) fun fa6 fh6 => ?_;clear fh5 fa5;refine Kn.pure fh6 rfl rfl .none (Kn.ex_move fh6 (.tmp rfl)) fun fa7 fh7 => ?_;clear fh6 fa6;refine Kn.step fh7 rfl rfl .none (Kn.ex_len fh7 (.tmp rfl)) fun Ko hKo => ?_;go_simp;(try go_bits);refine hKo _ _ fun fa8 fh8 => ?_;clear hKo Ko fh7 fa7;refine Kn.step fh8 rfl rfl .none (Kn.ex_bin fh8 (.tmp rfl) (.tmp rfl)) fun Ko hKo => ?_;go_simp;(try go_bits);refine hKo _ _ fun fa9 fh9 => ?_;clear hKo Ko fh8 fa8;refine wpList_nil ?_;refine hK7 _ _ ?_;clear hK7 K7;replace fh9 := fh9.cut (.cons (t := 11) rfl (.cons (t := 6) rfl (.cons (t := 5) rfl (.cons (t := 0) rfl (.cons (t := 1) rfl .nil)))));refine Kn.yes fh9 (.tmp rfl) ?_;refine wp_skip ?_;refine hK6 _ _ ?_;clear hK6 K6;replace fh9 := fh9.cut (.cons (t := 6) rfl (.cons (t := 5) rfl (.cons (t := 0) rfl (.cons (t := 1) rfl .nil))));refine wp_seq_k fun K8 hK8 => ?_;refine wp_block ?_
    by_cases e1 : x1 = v
    · have q1 : (x1 == v) = true := by simp [e1]
      have HS2 : Hid (trg (xs.take (k + 1)) v = trg (xs.take k) v ++ [x2]) := Lib.hid (by rw [HS.out, if_pos e1]);clear e1;obtain ⟨g', c', u2, hrun, hown, hbel, -⟩ := push1 w u 37 (some ⟨g, 0, none⟩) n cap (trg (xs.take k) v) x2 HO.out HB.out hnl;rw [← HS2.out] at hown;have HO2 := Lib.hid hown;have HB2 := Lib.hid hbel;clear hown hbel;refine wp_seq_k fun K9 hK9 => ?_;refine wp_region_lit ?_;refine Kn.pure fh9 rfl rfl .none (Kn.ex_move fh9 (.tmp rfl)) fun fa10 fh10 => ?_;clear fh9 fa9;refine Kn.pure fh10 rfl rfl .none (Kn.ex_move fh10 (.tmp rfl)) fun fa11 fh11 => ?_;clear fh10 fa10;refine Kn.step fh11 rfl rfl .none (Kn.ex_indexAddr fh11 (.tmp rfl) (.tmp rfl)) fun Ko hKo => ?_;go_simp;(try go_bits);refine hKo _ _ fun fa12 fh12 => ?_;clear hKo Ko fh11 fa11;refine Kn.step fh12 rfl rfl .none (Kn.ex_fieldAddr fh12 (.tmp rfl)) fun Ko hKo => ?_;go_simp;(try go_bits);refine hKo _ _ fun fa13 fh13 => ?_;clear hKo Ko fh12 fa12;refine Kn.step fh13 rfl rfl .none (Kn.ex_load fh13 (.tmp rfl)) fun Ko hKo => ?_;go_simp;(try go_bits);refine hKo _ _ fun fa14 fh14 => ?_;clear hKo Ko fh13 fa13;refine Kn.pure fh14 rfl rfl .none (Kn.ex_move fh14 (.tmp rfl)) fun fa15 fh15 => ?_;clear fh14 fa14;refine Kn.step fh15 rfl rfl .none (Kn.ex_bin fh15 (.tmp rfl) (.tmp rfl)) fun Ko hKo => ?_;go_simp;(try go_bits);refine hKo _ _ fun fa16 fh16 => ?_;clear hKo Ko fh15 fa15;refine wpList_nil ?_;refine hK9 _ _ ?_;clear hK9 K9;replace fh16 := fh16.cut (.cons (t := 20) rfl (.cons (t := 6) rfl (.cons (t := 5) rfl (.cons (t := 0) rfl (.cons (t := 1) rfl .nil)))));refine Kn.yes fh16 (.tmp rfl) ?_;replace fh16 := fh16.cut (.cons (t := 6) rfl (.cons (t := 5) rfl (.cons (t := 0) rfl (.cons (t := 1) rfl .nil))));refine wp_region_lit ?_;refine Kn.pure fh16 rfl rfl .none (Kn.ex_move fh16 (.tmp rfl)) fun fa17 fh17 => ?_;clear fh16 fa16;refine Kn.pure fh17 rfl rfl .none (Kn.ex_move fh17 (.tmp rfl)) fun fa18 fh18 => ?_;clear fh17 fa17;refine Kn.pure fh18 rfl rfl .none (Kn.ex_move fh18 (.tmp rfl)) fun fa19 fh19 => ?_;clear fh18 fa18;refine Kn.step fh19 rfl rfl .none (Kn.ex_indexAddr fh19 (.tmp rfl) (.tmp rfl)) fun Ko hKo => ?_;go_simp;(try go_bits);refine hKo _ _ fun fa20 fh20 => ?_;clear hKo Ko fh19 fa19;refine Kn.step fh20 rfl rfl .none (Kn.ex_fieldAddr fh20 (.tmp rfl)) fun Ko hKo => ?_;go_simp;(try go_bits);refine hKo _ _ fun fa21 fh21 => ?_;clear hKo Ko fh20 fa20;refine Kn.step fh21 rfl rfl .none (Kn.ex_load fh21 (.tmp rfl)) fun Ko hKo => ?_;go_simp;(try go_bits);refine hKo _ _ fun fa22 fh22 => ?_;clear hKo Ko fh21 fa21;refine Kn.step fh22 rfl rfl .none (Kn.ex_buildSlice fh22 (.cons (.tmp rfl) .nil)) fun Ko hKo => ?_;go_simp;(try go_bits);refine hKo _ _ fun fa23 fh23 => ?_;clear hKo Ko fh22 fa22;refine Kn.known fh23 rfl rfl .none (Kn.ex_append fh23 (.cons (.tmp rfl) (.cons (.tmp rfl) .nil))) hrun fun fa24 fh24 => ?_;clear fh23 fa23;clear hrun;refine Kn.pure fh24 rfl rfl .none (Kn.ex_assign fh24 (.tmp rfl)) fun fa25 fh25 => ?_;clear fh24 fa24;refine wpList_nil ?_;refine Kn.block_normal ?_;refine hK8 _ _ ?_;clear hK8 K8;replace fh25 := fh25.cut (.cons (t := 5) rfl (.cons (t := 6) rfl (.cons (t := 0) rfl (.cons (t := 1) rfl .nil))));refine wp_region_lit ?_;refine Kn.pure fh25 rfl rfl .none (Kn.ex_move fh25 (.tmp rfl)) fun fa26 fh26 => ?_;clear fh25 fa25;refine Kn.step fh26 rfl rfl .none (Kn.ex_bin fh26 (.tmp rfl) .const) fun Ko hKo => ?_;go_simp;(try go_bits);refine hKo _ _ fun fa27 fh27 => ?_;clear hKo Ko fh26 fa26;refine Kn.pure fh27 rfl rfl .none (Kn.ex_assign fh27 (.tmp rfl)) fun fa28 fh28 => ?_;clear fh27 fa27;refine wpList_nil ?_;replace fh28 := fh28.cut (.cons (t := 6) rfl (.cons (t := 5) rfl (.cons (t := 0) rfl (.cons (t := 1) rfl .nil))));exact hKl5 (m5 - 1) _ _ (by omega) ⟨k + 1, g', n + 1, c', fh28.cut (.turn (t := 6) rfl (by go_num) (.cons (t := 5) rfl (.cons (t := 0) rfl (.cons (t := 1) rfl .nil)))), by omega, HO2, HB2⟩
    · have q1 : (x1 == v) = false := by simp [e1]
      have HO2 : Hid (OwnI u w.heap.size (some ⟨g, 0, none⟩) n cap (trg (xs.take (k + 1)) v)) := Lib.hid (by rw [HS.out, if_neg e1, List.append_nil]; exact HO.out);clear e1;refine wp_seq_k fun K9 hK9 => ?_;refine wp_region_lit ?_;refine Kn.pure fh9 rfl rfl .none (Kn.ex_move fh9 (.tmp rfl)) fun fa10 fh10 => ?_;clear fh9 fa9;refine Kn.pure fh10 rfl rfl .none (Kn.ex_move fh10 (.tmp rfl)) fun fa11 fh11 => ?_;clear fh10 fa10;refine Kn.step fh11 rfl rfl .none (Kn.ex_indexAddr fh11 (.tmp rfl) (.tmp rfl)) fun Ko hKo => ?_;go_simp;(try go_bits);refine hKo _ _ fun fa12 fh12 => ?_;clear hKo Ko fh11 fa11;refine Kn.step fh12 rfl rfl .none (Kn.ex_fieldAddr fh12 (.tmp rfl)) fun Ko hKo => ?_;go_simp;(try go_bits);refine hKo _ _ fun fa13 fh13 => ?_;clear hKo Ko fh12 fa12;refine Kn.step fh13 rfl rfl .none (Kn.ex_load fh13 (.tmp rfl)) fun Ko hKo => ?_;go_simp;(try go_bits);refine hKo _ _ fun fa14 fh14 => ?_;clear hKo Ko fh13 fa13;refine Kn.pure fh14 rfl rfl .none (Kn.ex_move fh14 (.tmp rfl)) fun fa15 fh15 => ?_;clear fh14 fa14;refine Kn.step fh15 rfl rfl .none (Kn.ex_bin fh15 (.tmp rfl) (.tmp rfl)) fun Ko hKo => ?_;go_simp;(try go_bits);refine hKo _ _ fun fa16 fh16 => ?_;clear hKo Ko fh15 fa15;refine wpList_nil ?_;refine hK9 _ _ ?_;clear hK9 K9;replace fh16 := fh16.cut (.cons (t := 20) rfl (.cons (t := 6) rfl (.cons (t := 5) rfl (.cons (t := 0) rfl (.cons (t := 1) rfl .nil)))));refine Kn.no fh16 (.tmp rfl) ?_;refine wp_skip ?_;refine Kn.block_normal ?_;refine hK8 _ _ ?_;clear hK8 K8;replace fh16 := fh16.cut (.cons (t := 6) rfl (.cons (t := 5) rfl (.cons (t := 0) rfl (.cons (t := 1) rfl .nil))));refine wp_region_lit ?_;refine Kn.pure fh16 rfl rfl .none (Kn.ex_move fh16 (.tmp rfl)) fun fa17 fh17 => ?_;clear fh16 fa16;refine Kn.step fh17 rfl rfl .none (Kn.ex_bin fh17 (.tmp rfl) .const) fun Ko hKo => ?_;go_simp;(try go_bits);refine hKo _ _ fun fa18 fh18 => ?_;clear hKo Ko fh17 fa17;refine Kn.pure fh18 rfl rfl .none (Kn.ex_assign fh18 (.tmp rfl)) fun fa19 fh19 => ?_;clear fh18 fa18;refine wpList_nil ?_;replace fh19 := fh19.cut (.cons (t := 6) rfl (.cons (t := 5) rfl (.cons (t := 0) rfl (.cons (t := 1) rfl .nil))));exact hKl5 (m5 - 1) _ _ (by omega) ⟨k + 1, g, n, cap, fh19.cut (.turn (t := 6) rfl (by go_num) (.cons (t := 5) rfl (.cons (t := 0) rfl (.cons (t := 1) rfl .nil)))), by omega, HO2, HB⟩
  · obtain rfl : k = xs.length := by omega
    refine wp_seq_k fun K6 hK6 => ?_;refine wp_seq_k fun K7 hK7 => ?_;refine wp_region_lit ?_;refine Kn.pure fh5 rfl rfl .none (Kn.ex_move fh5 (.tmp rfl)) fun fa6 fh6 => ?_;clear fh5 fa5;refine Kn.pure fh6 rfl rfl .none (Kn.ex_move fh6 (.tmp rfl)) fun fa7 fh7 => ?_;clear fh6 fa6;refine Kn.step fh7 rfl rfl .none (Kn.ex_len fh7 (.tmp rfl)) fun Ko hKo => ?_;go_simp;(try go_bits);refine hKo _ _ fun fa8 fh8 => ?_;clear hKo Ko fh7 fa7;refine Kn.step fh8 rfl rfl .none (Kn.ex_bin fh8 (.tmp rfl) (.tmp rfl)) fun Ko hKo => ?_;go_simp;(try go_bits);refine hKo _ _ fun fa9 fh9 => ?_;clear hKo Ko fh8 fa8;refine wpList_nil ?_;refine hK7 _ _ ?_;clear hK7 K7;replace fh9 := fh9.cut (.cons (t := 11) rfl (.cons (t := 6) rfl (.cons (t := 5) rfl (.cons (t := 0) rfl (.cons (t := 1) rfl .nil)))));refine Kn.no fh9 (.tmp rfl) ?_;replace fh9 := fh9.cut (.cons (t := 6) rfl (.cons (t := 5) rfl (.cons (t := 0) rfl (.cons (t := 1) rfl .nil))));refine wp_exit ?_;refine Kn.then_exit ?_;clear hK6 K6;refine Kn.then_exit ?_;clear hKl5 Kl5;refine Kn.block_exit ?_;refine hK3 _ _ ?_;clear hK3 K3;replace fh9 := fh9.cut (.cons (t := 5) rfl .nil);refine wp_seq_k fun K8 hK8 => ?_;refine wp_region_lit ?_;refine Kn.pure fh9 rfl rfl .none (Kn.ex_move fh9 (.tmp rfl)) fun fa10 fh10 => ?_;clear fh9 fa9;refine Kn.pure fh10 rfl rfl .none (Kn.ex_assign fh10 (.tmp rfl)) fun fa11 fh11 => ?_;clear fh10 fa10;refine wpList_nil ?_;refine hK8 _ _ ?_;clear hK8 K8;replace fh11 := fh11.cut (.cons (t := 4) rfl .nil);refine wp_ret ?_;exact Kn.ret1 fh11 rfl rfl ⟨g, n, cap, rfl, by have := HO.out; rwa [List.take_length] at this, HB.out⟩
set_option maxRecDepth 100000 in
set_option maxHeartbeats 2000000 in
theorem refHas_any (A : Option Addr) (ca : Nat) (xs : List Int) (y : Int) (w : World) (hx : xs.length ≤ maxLen) (hA : IIn w A xs) :
    Calls Tryd.prog 17 #[.slice A xs.length ca, .int .i64 y] w fun e w' => e = .returned (.bool (decide (y ∈ xs))) ∧ w = w' := by
  unfold maxLen at hx;have HA := Lib.hid hA;clear hA;refine Kn.calls Tryd.func17 rfl Tryd.ntmps17 rfl (.cons (t := 0) rfl (.cons (t := 1) rfl .nil)) fun fa0 fh0 => ?_;refine wp_seq_k fun K1 hK1 => ?_;refine wp_region_lit ?_;refine Kn.pure fh0 rfl rfl .none (Kn.ex_assign fh0 .const) fun fa1 fh1 => ?_;clear fh0 fa0;refine wpList_nil ?_;refine hK1 _ _ ?_;clear hK1 K1;refine wp_seq_k fun K2 hK2 => ?_;refine wp_seq_k fun K3 hK3 => ?_;refine wp_region_lit ?_;refine Kn.pure fh1 rfl rfl .none (Kn.ex_assign fh1 .const) fun fa2 fh2 => ?_;clear fh1 fa1;refine wpList_nil ?_;refine hK3 _ _ ?_;clear hK3 K3;refine wp_block ?_;refine Kn.loop (fun m fr v => ∃ (k : Nat), Kn.Kn 18 [(5, .int .i64 (k : Int)), (0, .slice A xs.length ca), (1, .int .i64 y)] fr ∧ k + m = xs.length ∧ Hid (∀ i, i < k → nt xs i ≠ y) ∧ w = v) xs.length ⟨0, fh2.cut (.turn (t := 5) rfl rfl (.cons (t := 0) rfl (.cons (t := 1) rfl .nil))), by omega, Lib.hid (fun i hi => absurd hi (by omega)), rfl⟩ ?_;clear fh2 fa2;intro m4 fa3 v hI Kl4 hKl4;obtain ⟨k, fh3, hk, HP, rfl⟩ := hI
  by_cases hlt : k < xs.length
  · obtain ⟨ba, oa, rfl, -, ca1⟩ := HA.out k hlt;obtain ⟨x1, hx1⟩ : ∃ x, nt xs k = x := ⟨_, rfl⟩;rw [hx1] at ca1;have HX := Lib.hid hx1;clear hx1;refine wp_seq_k fun K5 hK5 => ?_;refine wp_seq_k fun K6 hK6 => ?_;refine wp_region_lit ?_;refine Kn.pure fh3 rfl rfl .none (Kn.ex_move fh3 (.tmp rfl)) fun fa4 fh4 => ?_;clear fh3 fa3;refine Kn.pure fh4 rfl rfl .none (Kn.ex_move fh4 (.tmp rfl)) fun fa5 fh5 => ?_;clear fh4 fa4;refine Kn.step fh5 rfl rfl .none (Kn.ex_len fh5 (.tmp rfl)) fun Ko hKo => ?_;go_simp;(try go_bits);refine hKo _ _ fun fa6 fh6 => ?_;clear hKo Ko fh5 fa5;refine Kn.step fh6 rfl rfl .none (Kn.ex_bin fh6 (.tmp rfl) (.tmp rfl)) fun Ko hKo => ?_;go_simp;(try go_bits);refine hKo _ _ fun fa7 fh7 => ?_;clear hKo Ko fh6 fa6;refine wpList_nil ?_;refine hK6 _ _ ?_;clear hK6 K6;replace fh7 := fh7.cut (.cons (t := 9) rfl (.cons (t := 5) rfl (.cons (t := 0) rfl (.cons (t := 1) rfl .nil))));refine Kn.yes fh7 (.tmp rfl) ?_;refine wp_skip ?_;refine hK5 _ _ ?_;clear hK5 K5;replace fh7 := fh7.cut (.cons (t := 5) rfl (.cons (t := 0) rfl (.cons (t := 1) rfl .nil)));refine wp_seq_k fun K7 hK7 => ?_;refine wp_block ?_
    by_cases e1 : x1 = y
    · have q1 : (x1 == y) = true := by simp [e1]
      have HE : Hid (y ∈ xs) := Lib.hid (by rw [← e1, ← HX.out, nt_at _ _ hlt]; exact List.getElem_mem _);clear e1;refine wp_seq_k fun K8 hK8 => ?_;refine wp_region_lit ?_;refine Kn.pure fh7 rfl rfl .none (Kn.ex_move fh7 (.tmp rfl)) fun fa8 fh8 => ?_;clear fh7 fa7;refine Kn.pure fh8 rfl rfl .none (Kn.ex_move fh8 (.tmp rfl)) fun fa9 fh9 => ?_;clear fh8 fa8;refine Kn.step fh9 rfl rfl .none (Kn.ex_indexAddr fh9 (.tmp rfl) (.tmp rfl)) fun Ko hKo => ?_;go_simp;(try go_bits);refine hKo _ _ fun fa10 fh10 => ?_;clear hKo Ko fh9 fa9;refine Kn.step fh10 rfl rfl .none (Kn.ex_load fh10 (.tmp rfl)) fun Ko hKo => ?_;go_simp;(try go_bits);refine hKo _ _ fun fa11 fh11 => ?_;clear hKo Ko fh10 fa10;refine Kn.pure fh11 rfl rfl .none (Kn.ex_move fh11 (.tmp rfl)) fun fa12 fh12 => ?_;clear fh11 fa11;refine Kn.step fh12 rfl rfl .none (Kn.ex_bin fh12 (.tmp rfl) (.tmp rfl)) fun Ko hKo => ?_;go_simp;(try go_bits);refine hKo _ _ fun fa13 fh13 => ?_;clear hKo Ko fh12 fa12;refine wpList_nil ?_;refine hK8 _ _ ?_;clear hK8 K8;replace fh13 := fh13.cut (.cons (t := 17) rfl (.cons (t := 5) rfl (.cons (t := 0) rfl (.cons (t := 1) rfl .nil))));refine Kn.yes fh13 (.tmp rfl) ?_;replace fh13 := fh13.cut (.cons (t := 5) rfl (.cons (t := 0) rfl (.cons (t := 1) rfl .nil)));refine wp_seq_k fun K9 hK9 => ?_;refine wp_region_lit ?_;refine Kn.pure fh13 rfl rfl .none (Kn.ex_assign fh13 .const) fun fa14 fh14 => ?_;clear fh13 fa13;refine wpList_nil ?_;refine hK9 _ _ ?_;clear hK9 K9;refine wp_ret ?_;refine Kn.block_ret ?_;refine Kn.then_ret ?_;refine Kn.then_ret ?_;refine Kn.block_ret ?_;refine Kn.then_ret ?_;exact Kn.ret1 fh14 rfl rfl ⟨by rw [decide_eq_true HE.out], rfl⟩
    · have q1 : (x1 == y) = false := by simp [e1]
      have HP2 : Hid (∀ i, i < k + 1 → nt xs i ≠ y) := Lib.hid (fun i hi => by
        rcases Nat.lt_or_ge i k with h | h
        · exact HP.out i h
        · rw [show i = k by omega, HX.out]; exact e1)
      clear e1;refine wp_seq_k fun K8 hK8 => ?_;refine wp_region_lit ?_;refine Kn.pure fh7 rfl rfl .none (Kn.ex_move fh7 (.tmp rfl)) fun fa8 fh8 => ?_;clear fh7 fa7;refine Kn.pure fh8 rfl rfl .none (Kn.ex_move fh8 (.tmp rfl)) fun fa9 fh9 => ?_;clear fh8 fa8;refine Kn.step fh9 rfl rfl .none (Kn.ex_indexAddr fh9 (.tmp rfl) (.tmp rfl)) fun Ko hKo => ?_;go_simp;(try go_bits);refine hKo _ _ fun fa10 fh10 => ?_;clear hKo Ko fh9 fa9;refine Kn.step fh10 rfl rfl .none (Kn.ex_load fh10 (.tmp rfl)) fun Ko hKo => ?_;go_simp;(try go_bits);refine hKo _ _ fun fa11 fh11 => ?_;clear hKo Ko fh10 fa10;refine Kn.pure fh11 rfl rfl .none (Kn.ex_move fh11 (.tmp rfl)) fun fa12 fh12 => ?_;clear fh11 fa11;refine Kn.step fh12 rfl rfl .none (Kn.ex_bin fh12 (.tmp rfl) (.tmp rfl)) fun Ko hKo => ?_;go_simp;(try go_bits);refine hKo _ _ fun fa13 fh13 => ?_;clear hKo Ko fh12 fa12;refine wpList_nil ?_;refine hK8 _ _ ?_;clear hK8 K8;replace fh13 := fh13.cut (.cons (t := 17) rfl (.cons (t := 5) rfl (.cons (t := 0) rfl (.cons (t := 1) rfl .nil))));refine Kn.no fh13 (.tmp rfl) ?_;refine wp_skip ?_;refine Kn.block_normal ?_;refine hK7 _ _ ?_;clear hK7 K7;replace fh13 := fh13.cut (.cons (t := 5) rfl (.cons (t := 0) rfl (.cons (t := 1) rfl .nil)));refine wp_region_lit ?_;refine Kn.pure fh13 rfl rfl .none (Kn.ex_move fh13 (.tmp rfl)) fun fa14 fh14 => ?_;clear fh13 fa13;refine Kn.step fh14 rfl rfl .none (Kn.ex_bin fh14 (.tmp rfl) .const) fun Ko hKo => ?_;go_simp;(try go_bits);refine hKo _ _ fun fa15 fh15 => ?_;clear hKo Ko fh14 fa14;refine Kn.pure fh15 rfl rfl .none (Kn.ex_assign fh15 (.tmp rfl)) fun fa16 fh16 => ?_;clear fh15 fa15;refine wpList_nil ?_;replace fh16 := fh16.cut (.cons (t := 5) rfl (.cons (t := 0) rfl (.cons (t := 1) rfl .nil)));exact hKl4 (m4 - 1) _ _ (by omega) ⟨k + 1, fh16.cut (.turn (t := 5) rfl (by go_num) (.cons (t := 0) rfl (.cons (t := 1) rfl .nil))), by omega, HP2, rfl⟩
  · obtain rfl : k = xs.length := by omega
    have HE : Hid (¬ y ∈ xs) := Lib.hid (fun h => by
      obtain ⟨i, hi, e⟩ := List.getElem_of_mem h
      exact HP.out i hi (by rw [nt_at _ _ hi]; exact e))
    refine wp_seq_k fun K5 hK5 => ?_;refine wp_seq_k fun K6 hK6 => ?_;refine wp_region_lit ?_;refine Kn.pure fh3 rfl rfl .none (Kn.ex_move fh3 (.tmp rfl)) fun fa4 fh4 => ?_;clear fh3 fa3;refine Kn.pure fh4 rfl rfl .none (Kn.ex_move fh4 (.tmp rfl)) fun fa5 fh5 => ?_;clear fh4 fa4;refine Kn.step fh5 rfl rfl .none (Kn.ex_len fh5 (.tmp rfl)) fun Ko hKo => ?_;go_simp;(try go_bits);refine hKo _ _ fun fa6 fh6 => ?_;clear hKo Ko fh5 fa5;refine Kn.step fh6 rfl rfl .none (Kn.ex_bin fh6 (.tmp rfl) (.tmp rfl)) fun Ko hKo => ?_;go_simp;(try go_bits);refine hKo _ _ fun fa7 fh7 => ?_;clear hKo Ko fh6 fa6;refine wpList_nil ?_;refine hK6 _ _ ?_;clear hK6 K6;replace fh7 := fh7.cut (.cons (t := 9) rfl (.cons (t := 5) rfl (.cons (t := 0) rfl (.cons (t := 1) rfl .nil))));refine Kn.no fh7 (.tmp rfl) ?_;replace fh7 := fh7.cut (.cons (t := 5) rfl (.cons (t := 0) rfl (.cons (t := 1) rfl .nil)));refine wp_exit ?_;refine Kn.then_exit ?_;clear hK5 K5;refine Kn.then_exit ?_;clear hKl4 Kl4;refine Kn.block_exit ?_;refine hK2 _ _ ?_;clear hK2 K2;replace fh7 := fh7.cut .nil;refine wp_seq_k fun K7 hK7 => ?_;refine wp_region_lit ?_;refine Kn.pure fh7 rfl rfl .none (Kn.ex_assign fh7 .const) fun fa8 fh8 => ?_;clear fh7 fa7;refine wpList_nil ?_;refine hK7 _ _ ?_;clear hK7 K7;refine wp_ret ?_;exact Kn.ret1 fh8 rfl rfl ⟨by rw [decide_eq_false HE.out], rfl⟩
end Go.Proofs.YtaikghenimfjcaaDoor.Num
end
section
namespace Go.Proofs
open Go.Shelf
def Tryd.layCmp_ren : Go.Shelf.Ren := ⟨fun | 5 => 66 | 7 => 61 | n => n, fun | 22 => 3 | 3 => 3 | 4 => 4 | n => n, fun | n => n⟩
theorem Tryd.layCmp : Go.Proofs.SlLaysC2.n5 Tryd.prog Tryd.layCmp_ren := {
  mixed := by kernel_rfl
  f5 := ⟨Tryd.f66.name, by decide, Tryd.func66.trans (congrArg some (by kernel_rfl))⟩
  f7 := ⟨Tryd.f61.name, by decide, Tryd.func61.trans (congrArg some (by kernel_rfl))⟩
  t3 := Tryd.underlying3
  a3 := Tryd.isAgg3
  z3 := Tryd.sizeOf3
  v3 := Tryd.zeroValue3
  t4 := Tryd.underlying4
  a4 := Tryd.isAgg4
  z4 := Tryd.sizeOf4
  v4 := Tryd.zeroValue4
  t22 := Tryd.underlying3
  a22 := Tryd.isAgg3
  z22 := Tryd.sizeOf3
  v22 := Tryd.zeroValue3 }
def Tryd.laySort_ren : Go.Shelf.Ren := ⟨fun | 6 => 55 | 15 => 65 | 14 => 64 | 28 => 75 | 29 => 76 | 20 => 67 | 21 => 68 | 22 => 69 | 23 => 70 | 24 => 71 | 25 => 72 | 26 => 73 | 27 => 74 | 46 => 77 | 47 => 78 | 48 => 79 | 49 => 80 | 50 => 81 | 57 => 82 | n => n, fun | 22 => 22 | 24 => 59 | 25 => 108 | 3 => 3 | 39 => 105 | 0 => 0 | 53 => 137 | 55 => 139 | 4 => 4 | 46 => 131 | 45 => 130 | 50 => 79 | 5 => 5 | 9 => 9 | 66 => 140 | 70 => 144 | 76 => 146 | 77 => 147 | n => n, fun | n => n⟩
theorem Tryd.laySort : Go.Proofs.SlLaysF0.n6 Tryd.prog Tryd.laySort_ren := {
  mixed := by kernel_rfl
  f6 := ⟨Tryd.f55.name, by decide, Tryd.func55.trans (congrArg some (by kernel_rfl))⟩
  f14 := ⟨Tryd.f64.name, by decide, Tryd.func64.trans (congrArg some (by kernel_rfl))⟩
  f15 := Tryd.func65.trans (congrArg some (by kernel_rfl))
  f20 := ⟨Tryd.f67.name, by decide, Tryd.func67.trans (congrArg some (by kernel_rfl))⟩
  f21 := ⟨Tryd.f68.name, by decide, Tryd.func68.trans (congrArg some (by kernel_rfl))⟩
  f22 := ⟨Tryd.f69.name, by decide, Tryd.func69.trans (congrArg some (by kernel_rfl))⟩
  f23 := ⟨Tryd.f70.name, by decide, Tryd.func70.trans (congrArg some (by kernel_rfl))⟩
  f24 := ⟨Tryd.f71.name, by decide, Tryd.func71.trans (congrArg some (by kernel_rfl))⟩
  f25 := ⟨Tryd.f72.name, by decide, Tryd.func72.trans (congrArg some (by kernel_rfl))⟩
  f26 := ⟨Tryd.f73.name, by decide, Tryd.func73.trans (congrArg some (by kernel_rfl))⟩
  f27 := ⟨Tryd.f74.name, by decide, Tryd.func74.trans (congrArg some (by kernel_rfl))⟩
  f28 := Tryd.func75.trans (congrArg some (by kernel_rfl))
  f29 := Tryd.func76.trans (congrArg some (by kernel_rfl))
  f46 := ⟨Tryd.f77.name, by decide, Tryd.func77.trans (congrArg some (by kernel_rfl))⟩
  f47 := Tryd.func78.trans (congrArg some (by kernel_rfl))
  f48 := Tryd.func79.trans (congrArg some (by kernel_rfl))
  f49 := ⟨Tryd.f80.name, by decide, Tryd.func80.trans (congrArg some (by kernel_rfl))⟩
  f50 := ⟨Tryd.f81.name, by decide, Tryd.func81.trans (congrArg some (by kernel_rfl))⟩
  f57 := ⟨Tryd.f82.name, by decide, Tryd.func82.trans (congrArg some (by kernel_rfl))⟩
  t0 := Tryd.underlying0
  a0 := Tryd.isAgg0
  z0 := Tryd.sizeOf0
  v0 := Tryd.zeroValue0
  t3 := Tryd.underlying3
  a3 := Tryd.isAgg3
  z3 := Tryd.sizeOf3
  v3 := Tryd.zeroValue3
  t4 := Tryd.underlying4
  a4 := Tryd.isAgg4
  z4 := Tryd.sizeOf4
  v4 := Tryd.zeroValue4
  t5 := Tryd.underlying5
  a5 := Tryd.isAgg5
  z5 := Tryd.sizeOf5
  v5 := Tryd.zeroValue5
  t9 := Tryd.underlying9
  a9 := Tryd.isAgg9
  z9 := Tryd.sizeOf9
  v9 := Tryd.zeroValue9
  t22 := Tryd.underlying22
  a22 := Tryd.isAgg22
  z22 := Tryd.sizeOf22
  v22 := Tryd.zeroValue22
  t25 := Tryd.underlying108
  a25 := Tryd.isAgg108
  z25 := Tryd.sizeOf108
  v25 := Tryd.zeroValue108
  t39 := Tryd.underlying105
  a39 := Tryd.isAgg105
  z39 := Tryd.sizeOf105
  v39 := Tryd.zeroValue105
  t45 := Tryd.underlying130
  a45 := Tryd.isAgg130
  z45 := Tryd.sizeOf130
  v45 := Tryd.zeroValue130
  t46 := Tryd.underlying131
  a46 := Tryd.isAgg131
  z46 := Tryd.sizeOf131
  v46 := Tryd.zeroValue131
  t50 := Tryd.underlying79
  a50 := Tryd.isAgg79
  z50 := Tryd.sizeOf79
  v50 := Tryd.zeroValue79
  t53 := Tryd.underlying137
  a53 := Tryd.isAgg137
  z53 := Tryd.sizeOf137
  v53 := Tryd.zeroValue137
  t55 := Tryd.underlying139
  a55 := Tryd.isAgg139
  z55 := Tryd.sizeOf139
  v55 := Tryd.zeroValue139
  t66 := Tryd.underlying140
  a66 := Tryd.isAgg140
  z66 := Tryd.sizeOf140
  v66 := Tryd.zeroValue140
  t70 := Tryd.underlying144
  a70 := Tryd.isAgg144
  z70 := Tryd.sizeOf144
  v70 := Tryd.zeroValue144
  t76 := Tryd.underlying146
  a76 := Tryd.isAgg146
  z76 := Tryd.sizeOf146
  v76 := Tryd.zeroValue146
  t77 := Tryd.underlying147
  a77 := Tryd.isAgg147
  z77 := Tryd.sizeOf147
  v77 := Tryd.zeroValue147 }
def Tryd.layClone_ren : Go.Shelf.Ren := ⟨fun | 41 => 54 | n => n, fun | 22 => 22 | 23 => 59 | 4 => 4 | n => n, fun | n => n⟩
theorem Tryd.layClone : Go.Proofs.SlLaysE0.n41 Tryd.prog Tryd.layClone_ren := {
  mixed := by kernel_rfl
  f41 := ⟨Tryd.f54.name, by decide, Tryd.func54.trans (congrArg some (by kernel_rfl))⟩
  t4 := Tryd.underlying4
  a4 := Tryd.isAgg4
  z4 := Tryd.sizeOf4
  v4 := Tryd.zeroValue4
  t22 := Tryd.underlying22
  a22 := Tryd.isAgg22
  z22 := Tryd.sizeOf22
  v22 := Tryd.zeroValue22 }
def Tryd.layCloneI_ren : Go.Shelf.Ren := ⟨fun | 41 => 47 | n => n, fun | 22 => 37 | 23 => 3 | 4 => 4 | n => n, fun | n => n⟩
theorem Tryd.layCloneI : Go.Proofs.SlLaysN.n41 Tryd.prog Tryd.layCloneI_ren := {
  mixed := by kernel_rfl
  f41 := ⟨Tryd.f47.name, by decide, Tryd.func47.trans (congrArg some (by kernel_rfl))⟩
  t4 := Tryd.underlying4
  a4 := Tryd.isAgg4
  z4 := Tryd.sizeOf4
  v4 := Tryd.zeroValue4
  t22 := Tryd.underlying37
  a22 := Tryd.isAgg37
  z22 := Tryd.sizeOf37
  v22 := Tryd.zeroValue37
  t23 := Tryd.underlying3
  a23 := Tryd.isAgg3
  z23 := Tryd.sizeOf3
  v23 := Tryd.zeroValue3
  i23 := by kernel_rfl }
def Tryd.laySearchI_ren : Go.Shelf.Ren := ⟨fun | 49 => 34 | 59 => 50 | 60 => 51 | 68 => 61 | n => n, fun | 22 => 37 | 23 => 3 | 3 => 3 | 4 => 4 | 51 => 105 | 0 => 0 | n => n, fun | n => n⟩
theorem Tryd.laySearchI : Go.Proofs.SlLaysN.n49 Tryd.prog Tryd.laySearchI_ren := {
  mixed := by kernel_rfl
  f49 := ⟨Tryd.f34.name, by decide, Tryd.func34.trans (congrArg some (by kernel_rfl))⟩
  f59 := ⟨Tryd.f50.name, by decide, Tryd.func50.trans (congrArg some (by kernel_rfl))⟩
  f60 := ⟨Tryd.f51.name, by decide, Tryd.func51.trans (congrArg some (by kernel_rfl))⟩
  f68 := ⟨Tryd.f61.name, by decide, Tryd.func61.trans (congrArg some (by kernel_rfl))⟩
  t0 := Tryd.underlying0
  a0 := Tryd.isAgg0
  z0 := Tryd.sizeOf0
  v0 := Tryd.zeroValue0
  t3 := Tryd.underlying3
  a3 := Tryd.isAgg3
  z3 := Tryd.sizeOf3
  v3 := Tryd.zeroValue3
  t4 := Tryd.underlying4
  a4 := Tryd.isAgg4
  z4 := Tryd.sizeOf4
  v4 := Tryd.zeroValue4
  t22 := Tryd.underlying37
  a22 := Tryd.isAgg37
  z22 := Tryd.sizeOf37
  v22 := Tryd.zeroValue37
  t23 := Tryd.underlying3
  a23 := Tryd.isAgg3
  z23 := Tryd.sizeOf3
  v23 := Tryd.zeroValue3
  t51 := Tryd.underlying105
  a51 := Tryd.isAgg105
  z51 := Tryd.sizeOf105
  v51 := Tryd.zeroValue105 }
end Go.Proofs
end
section
namespace Go.Proofs.YtaikghenimfjcaaDoor.Edg
open Go Go.RowKit Go.Lib
set_option maxRecDepth 100000 in
set_option maxHeartbeats 2000000 in
theorem less_a (a b c d : Int) (w : World) (h : a < c) :
    Calls Tryd.prog 26 #[.agg #[.int .i64 a, .int .i64 b], .agg #[.int .i64 c, .int .i64 d]] w fun e w' => e = .returned (.bool true) ∧ Below w.heap.size w w' := by
  refine Kn.calls Tryd.func26 rfl Tryd.ntmps26 rfl (.cons (t := 0) rfl (.cons (t := 1) rfl .nil)) fun fa0 fh0 => ?_;refine wp_seq_k fun K1 hK1 => ?_;refine wp_region_lit ?_;refine Kn.step fh0 rfl rfl .none (Kn.ex_box fh0 (.tmp rfl)) fun Ko hKo => ?_;go_simp;(try go_bits);refine hKo _ _ fun fa1 fh1 => ?_;clear hKo Ko fh0 fa0;refine Kn.step fh1 rfl rfl .none (Kn.ex_box fh1 (.tmp rfl)) fun Ko hKo => ?_;go_simp;(try go_bits);refine hKo _ _ fun fa2 fh2 => ?_;clear hKo Ko fh1 fa1;refine Kn.pure fh2 rfl rfl .none (Kn.ex_assign fh2 .const) fun fa3 fh3 => ?_;clear fh2 fa2;refine wpList_nil ?_;refine hK1 _ _ ?_;clear hK1 K1;replace fh3 := fh3.cut (.cons (t := 4) rfl (.cons (t := 3) rfl (.cons (t := 2) rfl .nil)));refine wp_seq_k fun K2 hK2 => ?_;refine wp_region_lit ?_;refine Kn.step fh3 rfl rfl .none (Kn.ex_fieldAddr fh3 (.tmp rfl)) fun Ko hKo => ?_;go_simp;(try go_bits);refine hKo _ _ fun fa4 fh4 => ?_;clear hKo Ko fh3 fa3;refine Kn.step fh4 rfl rfl .none (Kn.ex_load fh4 (.tmp rfl)) fun Ko hKo => ?_;go_simp;(try go_bits);refine hKo _ _ fun fa5 fh5 => ?_;clear hKo Ko fh4 fa4;refine Kn.step fh5 rfl rfl .none (Kn.ex_fieldAddr fh5 (.tmp rfl)) fun Ko hKo => ?_;go_simp;(try go_bits);refine hKo _ _ fun fa6 fh6 => ?_;clear hKo Ko fh5 fa5;refine Kn.step fh6 rfl rfl .none (Kn.ex_load fh6 (.tmp rfl)) fun Ko hKo => ?_;go_simp;(try go_bits);refine hKo _ _ fun fa7 fh7 => ?_;clear hKo Ko fh6 fa6;refine Kn.step fh7 rfl rfl .none (Kn.ex_bin fh7 (.tmp rfl) (.tmp rfl)) fun Ko hKo => ?_;go_simp;(try go_bits);refine hKo _ _ fun fa8 fh8 => ?_;clear hKo Ko fh7 fa7;refine Kn.pure fh8 rfl rfl .none (Kn.ex_move fh8 (.tmp rfl)) fun fa9 fh9 => ?_;clear fh8 fa8;refine Kn.skip fh9 rfl rfl (.some rfl rfl rfl) fun fa10 fh10 => ?_;clear fh9 fa9;refine Kn.skip fh10 rfl rfl (.some rfl rfl rfl) fun fa11 fh11 => ?_;clear fh10 fa10;refine Kn.skip fh11 rfl rfl (.some rfl rfl rfl) fun fa12 fh12 => ?_;clear fh11 fa11;refine Kn.skip fh12 rfl rfl (.some rfl rfl rfl) fun fa13 fh13 => ?_;clear fh12 fa12;refine Kn.skip fh13 rfl rfl (.some rfl rfl rfl) fun fa14 fh14 => ?_;clear fh13 fa13;refine Kn.skip fh14 rfl rfl (.some rfl rfl rfl) fun fa15 fh15 => ?_;clear fh14 fa14;refine Kn.skip fh15 rfl rfl (.gone rfl rfl) fun fa16 fh16 => ?_;clear fh15 fa15;refine Kn.skip fh16 rfl rfl (.gone rfl rfl) fun fa17 fh17 => ?_;clear fh16 fa16;refine Kn.skip fh17 rfl rfl (.gone rfl rfl) fun fa18 fh18 => ?_;clear fh17 fa17;refine Kn.skip fh18 rfl rfl (.gone rfl rfl) fun fa19 fh19 => ?_;clear fh18 fa18;refine Kn.skip fh19 rfl rfl (.gone rfl rfl) fun fa20 fh20 => ?_;clear fh19 fa19;refine Kn.skip fh20 rfl rfl (.some rfl rfl rfl) fun fa21 fh21 => ?_;clear fh20 fa20;refine Kn.pure fh21 rfl rfl .none (Kn.ex_pick fh21 (.tmp rfl) .const) fun fa22 fh22 => ?_;clear fh21 fa21;refine Kn.pure fh22 rfl rfl .none (Kn.ex_assign fh22 (.tmp rfl)) fun fa23 fh23 => ?_;clear fh22 fa22;refine wpList_nil ?_;refine hK2 _ _ ?_;clear hK2 K2;replace fh23 := fh23.cut (.cons (t := 4) rfl .nil);refine wp_ret ?_;exact Kn.ret1 fh23 rfl rfl ⟨rfl, ((Below.refl _ _).alloc (Nat.le_refl _) _).alloc (by simp) _⟩
set_option maxRecDepth 100000 in
set_option maxHeartbeats 2000000 in
theorem less_b (a b c d : Int) (w : World) (h : ¬ a < c) (h2 : (a == c) = false) :
    Calls Tryd.prog 26 #[.agg #[.int .i64 a, .int .i64 b], .agg #[.int .i64 c, .int .i64 d]] w fun e w' => e = .returned (.bool false) ∧ Below w.heap.size w w' := by
  refine Kn.calls Tryd.func26 rfl Tryd.ntmps26 rfl (.cons (t := 0) rfl (.cons (t := 1) rfl .nil)) fun fa0 fh0 => ?_;refine wp_seq_k fun K1 hK1 => ?_;refine wp_region_lit ?_;refine Kn.step fh0 rfl rfl .none (Kn.ex_box fh0 (.tmp rfl)) fun Ko hKo => ?_;go_simp;(try go_bits);refine hKo _ _ fun fa1 fh1 => ?_;clear hKo Ko fh0 fa0;refine Kn.step fh1 rfl rfl .none (Kn.ex_box fh1 (.tmp rfl)) fun Ko hKo => ?_;go_simp;(try go_bits);refine hKo _ _ fun fa2 fh2 => ?_;clear hKo Ko fh1 fa1;refine Kn.pure fh2 rfl rfl .none (Kn.ex_assign fh2 .const) fun fa3 fh3 => ?_;clear fh2 fa2;refine wpList_nil ?_;refine hK1 _ _ ?_;clear hK1 K1;replace fh3 := fh3.cut (.cons (t := 4) rfl (.cons (t := 3) rfl (.cons (t := 2) rfl .nil)));refine wp_seq_k fun K2 hK2 => ?_;refine wp_region_lit ?_;refine Kn.step fh3 rfl rfl .none (Kn.ex_fieldAddr fh3 (.tmp rfl)) fun Ko hKo => ?_;go_simp;(try go_bits);refine hKo _ _ fun fa4 fh4 => ?_;clear hKo Ko fh3 fa3;refine Kn.step fh4 rfl rfl .none (Kn.ex_load fh4 (.tmp rfl)) fun Ko hKo => ?_;go_simp;(try go_bits);refine hKo _ _ fun fa5 fh5 => ?_;clear hKo Ko fh4 fa4;refine Kn.step fh5 rfl rfl .none (Kn.ex_fieldAddr fh5 (.tmp rfl)) fun Ko hKo => ?_;go_simp;(try go_bits);refine hKo _ _ fun fa6 fh6 => ?_;clear hKo Ko fh5 fa5;refine Kn.step fh6 rfl rfl .none (Kn.ex_load fh6 (.tmp rfl)) fun Ko hKo => ?_;go_simp;(try go_bits);refine hKo _ _ fun fa7 fh7 => ?_;clear hKo Ko fh6 fa6;refine Kn.step fh7 rfl rfl .none (Kn.ex_bin fh7 (.tmp rfl) (.tmp rfl)) fun Ko hKo => ?_;go_simp;(try go_bits);refine hKo _ _ fun fa8 fh8 => ?_;clear hKo Ko fh7 fa7;refine Kn.pure fh8 rfl rfl .none (Kn.ex_move fh8 (.tmp rfl)) fun fa9 fh9 => ?_;clear fh8 fa8;refine Kn.step fh9 rfl rfl (.some rfl rfl rfl) (Kn.ex_fieldAddr fh9 (.tmp rfl)) fun Ko hKo => ?_;go_simp;(try go_bits);refine hKo _ _ fun fa10 fh10 => ?_;clear hKo Ko fh9 fa9;refine Kn.step fh10 rfl rfl (.some rfl rfl rfl) (Kn.ex_load fh10 (.tmp rfl)) fun Ko hKo => ?_;go_simp;(try go_bits);refine hKo _ _ fun fa11 fh11 => ?_;clear hKo Ko fh10 fa10;refine Kn.step fh11 rfl rfl (.some rfl rfl rfl) (Kn.ex_fieldAddr fh11 (.tmp rfl)) fun Ko hKo => ?_;go_simp;(try go_bits);refine hKo _ _ fun fa12 fh12 => ?_;clear hKo Ko fh11 fa11;refine Kn.step fh12 rfl rfl (.some rfl rfl rfl) (Kn.ex_load fh12 (.tmp rfl)) fun Ko hKo => ?_;go_simp;(try go_bits);refine hKo _ _ fun fa13 fh13 => ?_;clear hKo Ko fh12 fa12;refine Kn.step fh13 rfl rfl (.some rfl rfl rfl) (Kn.ex_bin fh13 (.tmp rfl) (.tmp rfl)) fun Ko hKo => ?_;go_simp;(try go_bits);refine hKo _ _ fun fa14 fh14 => ?_;clear hKo Ko fh13 fa13;refine Kn.pure fh14 rfl rfl (.some rfl rfl rfl) (Kn.ex_move fh14 (.tmp rfl)) fun fa15 fh15 => ?_;clear fh14 fa14;refine Kn.skip fh15 rfl rfl (.some rfl rfl rfl) fun fa16 fh16 => ?_;clear fh15 fa15;refine Kn.skip fh16 rfl rfl (.some rfl rfl rfl) fun fa17 fh17 => ?_;clear fh16 fa16;refine Kn.skip fh17 rfl rfl (.some rfl rfl rfl) fun fa18 fh18 => ?_;clear fh17 fa17;refine Kn.skip fh18 rfl rfl (.some rfl rfl rfl) fun fa19 fh19 => ?_;clear fh18 fa18;refine Kn.skip fh19 rfl rfl (.some rfl rfl rfl) fun fa20 fh20 => ?_;clear fh19 fa19;refine Kn.pure fh20 rfl rfl (.some rfl rfl rfl) (Kn.ex_pick fh20 (.tmp rfl) .const) fun fa21 fh21 => ?_;clear fh20 fa20;refine Kn.pure fh21 rfl rfl .none (Kn.ex_pick fh21 (.tmp rfl) (.tmp rfl)) fun fa22 fh22 => ?_;clear fh21 fa21;refine Kn.pure fh22 rfl rfl .none (Kn.ex_assign fh22 (.tmp rfl)) fun fa23 fh23 => ?_;clear fh22 fa22;refine wpList_nil ?_;refine hK2 _ _ ?_;clear hK2 K2;replace fh23 := fh23.cut (.cons (t := 4) rfl .nil);refine wp_ret ?_;exact Kn.ret1 fh23 rfl rfl ⟨rfl, ((Below.refl _ _).alloc (Nat.le_refl _) _).alloc (by simp) _⟩
set_option maxRecDepth 100000 in
set_option maxHeartbeats 2000000 in
theorem less_c (a b c d : Int) (w : World) (h : ¬ a < c) (h2 : (a == c) = true) (h3 : b < d) :
    Calls Tryd.prog 26 #[.agg #[.int .i64 a, .int .i64 b], .agg #[.int .i64 c, .int .i64 d]] w fun e w' => e = .returned (.bool true) ∧ Below w.heap.size w w' := by
  refine Kn.calls Tryd.func26 rfl Tryd.ntmps26 rfl (.cons (t := 0) rfl (.cons (t := 1) rfl .nil)) fun fa0 fh0 => ?_;refine wp_seq_k fun K1 hK1 => ?_;refine wp_region_lit ?_;refine Kn.step fh0 rfl rfl .none (Kn.ex_box fh0 (.tmp rfl)) fun Ko hKo => ?_;go_simp;(try go_bits);refine hKo _ _ fun fa1 fh1 => ?_;clear hKo Ko fh0 fa0;refine Kn.step fh1 rfl rfl .none (Kn.ex_box fh1 (.tmp rfl)) fun Ko hKo => ?_;go_simp;(try go_bits);refine hKo _ _ fun fa2 fh2 => ?_;clear hKo Ko fh1 fa1;refine Kn.pure fh2 rfl rfl .none (Kn.ex_assign fh2 .const) fun fa3 fh3 => ?_;clear fh2 fa2;refine wpList_nil ?_;refine hK1 _ _ ?_;clear hK1 K1;replace fh3 := fh3.cut (.cons (t := 4) rfl (.cons (t := 3) rfl (.cons (t := 2) rfl .nil)));refine wp_seq_k fun K2 hK2 => ?_;refine wp_region_lit ?_;refine Kn.step fh3 rfl rfl .none (Kn.ex_fieldAddr fh3 (.tmp rfl)) fun Ko hKo => ?_;go_simp;(try go_bits);refine hKo _ _ fun fa4 fh4 => ?_;clear hKo Ko fh3 fa3;refine Kn.step fh4 rfl rfl .none (Kn.ex_load fh4 (.tmp rfl)) fun Ko hKo => ?_;go_simp;(try go_bits);refine hKo _ _ fun fa5 fh5 => ?_;clear hKo Ko fh4 fa4;refine Kn.step fh5 rfl rfl .none (Kn.ex_fieldAddr fh5 (.tmp rfl)) fun Ko hKo => ?_;go_simp;(try go_bits);refine hKo _ _ fun fa6 fh6 => ?_;clear hKo Ko fh5 fa5;refine Kn.step fh6 rfl rfl .none (Kn.ex_load fh6 (.tmp rfl)) fun Ko hKo => ?_;go_simp;(try go_bits);refine hKo _ _ fun fa7 fh7 => ?_;clear hKo Ko fh6 fa6;refine Kn.step fh7 rfl rfl .none (Kn.ex_bin fh7 (.tmp rfl) (.tmp rfl)) fun Ko hKo => ?_;go_simp;(try go_bits);refine hKo _ _ fun fa8 fh8 => ?_;clear hKo Ko fh7 fa7;refine Kn.pure fh8 rfl rfl .none (Kn.ex_move fh8 (.tmp rfl)) fun fa9 fh9 => ?_;clear fh8 fa8;refine Kn.step fh9 rfl rfl (.some rfl rfl rfl) (Kn.ex_fieldAddr fh9 (.tmp rfl)) fun Ko hKo => ?_;go_simp;(try go_bits);refine hKo _ _ fun fa10 fh10 => ?_;clear hKo Ko fh9 fa9;refine Kn.step fh10 rfl rfl (.some rfl rfl rfl) (Kn.ex_load fh10 (.tmp rfl)) fun Ko hKo => ?_;go_simp;(try go_bits);refine hKo _ _ fun fa11 fh11 => ?_;clear hKo Ko fh10 fa10;refine Kn.step fh11 rfl rfl (.some rfl rfl rfl) (Kn.ex_fieldAddr fh11 (.tmp rfl)) fun Ko hKo => ?_;go_simp;(try go_bits);refine hKo _ _ fun fa12 fh12 => ?_;clear hKo Ko fh11 fa11;refine Kn.step fh12 rfl rfl (.some rfl rfl rfl) (Kn.ex_load fh12 (.tmp rfl)) fun Ko hKo => ?_;go_simp;(try go_bits);refine hKo _ _ fun fa13 fh13 => ?_;clear hKo Ko fh12 fa12;refine Kn.step fh13 rfl rfl (.some rfl rfl rfl) (Kn.ex_bin fh13 (.tmp rfl) (.tmp rfl)) fun Ko hKo => ?_;go_simp;(try go_bits);refine hKo _ _ fun fa14 fh14 => ?_;clear hKo Ko fh13 fa13;refine Kn.pure fh14 rfl rfl (.some rfl rfl rfl) (Kn.ex_move fh14 (.tmp rfl)) fun fa15 fh15 => ?_;clear fh14 fa14;refine Kn.step fh15 rfl rfl (.some rfl rfl rfl) (Kn.ex_fieldAddr fh15 (.tmp rfl)) fun Ko hKo => ?_;go_simp;(try go_bits);refine hKo _ _ fun fa16 fh16 => ?_;clear hKo Ko fh15 fa15;refine Kn.step fh16 rfl rfl (.some rfl rfl rfl) (Kn.ex_load fh16 (.tmp rfl)) fun Ko hKo => ?_;go_simp;(try go_bits);refine hKo _ _ fun fa17 fh17 => ?_;clear hKo Ko fh16 fa16;refine Kn.step fh17 rfl rfl (.some rfl rfl rfl) (Kn.ex_fieldAddr fh17 (.tmp rfl)) fun Ko hKo => ?_;go_simp;(try go_bits);refine hKo _ _ fun fa18 fh18 => ?_;clear hKo Ko fh17 fa17;refine Kn.step fh18 rfl rfl (.some rfl rfl rfl) (Kn.ex_load fh18 (.tmp rfl)) fun Ko hKo => ?_;go_simp;(try go_bits);refine hKo _ _ fun fa19 fh19 => ?_;clear hKo Ko fh18 fa18;refine Kn.step fh19 rfl rfl (.some rfl rfl rfl) (Kn.ex_bin fh19 (.tmp rfl) (.tmp rfl)) fun Ko hKo => ?_;go_simp;(try go_bits);refine hKo _ _ fun fa20 fh20 => ?_;clear hKo Ko fh19 fa19;refine Kn.pure fh20 rfl rfl (.some rfl rfl rfl) (Kn.ex_pick fh20 (.tmp rfl) (.tmp rfl)) fun fa21 fh21 => ?_;clear fh20 fa20;refine Kn.pure fh21 rfl rfl .none (Kn.ex_pick fh21 (.tmp rfl) (.tmp rfl)) fun fa22 fh22 => ?_;clear fh21 fa21;refine Kn.pure fh22 rfl rfl .none (Kn.ex_assign fh22 (.tmp rfl)) fun fa23 fh23 => ?_;clear fh22 fa22;refine wpList_nil ?_;refine hK2 _ _ ?_;clear hK2 K2;replace fh23 := fh23.cut (.cons (t := 4) rfl .nil);refine wp_ret ?_;exact Kn.ret1 fh23 rfl rfl ⟨rfl, ((Below.refl _ _).alloc (Nat.le_refl _) _).alloc (by simp) _⟩
set_option maxRecDepth 100000 in
set_option maxHeartbeats 2000000 in
theorem less_d (a b c d : Int) (w : World) (h : ¬ a < c) (h2 : (a == c) = true) (h3 : ¬ b < d) :
    Calls Tryd.prog 26 #[.agg #[.int .i64 a, .int .i64 b], .agg #[.int .i64 c, .int .i64 d]] w fun e w' => e = .returned (.bool false) ∧ Below w.heap.size w w' := by
  refine Kn.calls Tryd.func26 rfl Tryd.ntmps26 rfl (.cons (t := 0) rfl (.cons (t := 1) rfl .nil)) fun fa0 fh0 => ?_;refine wp_seq_k fun K1 hK1 => ?_;refine wp_region_lit ?_;refine Kn.step fh0 rfl rfl .none (Kn.ex_box fh0 (.tmp rfl)) fun Ko hKo => ?_;go_simp;(try go_bits);refine hKo _ _ fun fa1 fh1 => ?_;clear hKo Ko fh0 fa0;refine Kn.step fh1 rfl rfl .none (Kn.ex_box fh1 (.tmp rfl)) fun Ko hKo => ?_;go_simp;(try go_bits);refine hKo _ _ fun fa2 fh2 => ?_;clear hKo Ko fh1 fa1;refine Kn.pure fh2 rfl rfl .none (Kn.ex_assign fh2 .const) fun fa3 fh3 => ?_;clear fh2 fa2;refine wpList_nil ?_;refine hK1 _ _ ?_;clear hK1 K1;replace fh3 := fh3.cut (.cons (t := 4) rfl (.cons (t := 3) rfl (.cons (t := 2) rfl .nil)));refine wp_seq_k fun K2 hK2 => ?_;refine wp_region_lit ?_;refine Kn.step fh3 rfl rfl .none (Kn.ex_fieldAddr fh3 (.tmp rfl)) fun Ko hKo => ?_;go_simp;(try go_bits);refine hKo _ _ fun fa4 fh4 => ?_;clear hKo Ko fh3 fa3;refine Kn.step fh4 rfl rfl .none (Kn.ex_load fh4 (.tmp rfl)) fun Ko hKo => ?_;go_simp;(try go_bits);refine hKo _ _ fun fa5 fh5 => ?_;clear hKo Ko fh4 fa4;refine Kn.step fh5 rfl rfl .none (Kn.ex_fieldAddr fh5 (.tmp rfl)) fun Ko hKo => ?_;go_simp;(try go_bits);refine hKo _ _ fun fa6 fh6 => ?_;clear hKo Ko fh5 fa5;refine Kn.step fh6 rfl rfl .none (Kn.ex_load fh6 (.tmp rfl)) fun Ko hKo => ?_;go_simp;(try go_bits);refine hKo _ _ fun fa7 fh7 => ?_;clear hKo Ko fh6 fa6;refine Kn.step fh7 rfl rfl .none (Kn.ex_bin fh7 (.tmp rfl) (.tmp rfl)) fun Ko hKo => ?_;go_simp;(try go_bits);refine hKo _ _ fun fa8 fh8 => ?_;clear hKo Ko fh7 fa7;refine Kn.pure fh8 rfl rfl .none (Kn.ex_move fh8 (.tmp rfl)) fun fa9 fh9 => ?_;clear fh8 fa8;refine Kn.step fh9 rfl rfl (.some rfl rfl rfl) (Kn.ex_fieldAddr fh9 (.tmp rfl)) fun Ko hKo => ?_;go_simp;(try go_bits);refine hKo _ _ fun fa10 fh10 => ?_;clear hKo Ko fh9 fa9;refine Kn.step fh10 rfl rfl (.some rfl rfl rfl) (Kn.ex_load fh10 (.tmp rfl)) fun Ko hKo => ?_;go_simp;(try go_bits);refine hKo _ _ fun fa11 fh11 => ?_;clear hKo Ko fh10 fa10;refine Kn.step fh11 rfl rfl (.some rfl rfl rfl) (Kn.ex_fieldAddr fh11 (.tmp rfl)) fun Ko hKo => ?_;go_simp;(try go_bits);refine hKo _ _ fun fa12 fh12 => ?_;clear hKo Ko fh11 fa11;refine Kn.step fh12 rfl rfl (.some rfl rfl rfl) (Kn.ex_load fh12 (.tmp rfl)) fun Ko hKo => ?_;go_simp;(try go_bits);refine hKo _ _ fun fa13 fh13 => ?_;clear hKo Ko fh12 fa12;refine Kn.step fh13 rfl rfl (.some rfl rfl rfl) (Kn.ex_bin fh13 (.tmp rfl) (.tmp rfl)) fun Ko hKo => ?_;go_simp;(try go_bits);refine hKo _ _ fun fa14 fh14 => ?_;clear hKo Ko fh13 fa13;refine Kn.pure fh14 rfl rfl (.some rfl rfl rfl) (Kn.ex_move fh14 (.tmp rfl)) fun fa15 fh15 => ?_;clear fh14 fa14;refine Kn.step fh15 rfl rfl (.some rfl rfl rfl) (Kn.ex_fieldAddr fh15 (.tmp rfl)) fun Ko hKo => ?_;go_simp;(try go_bits);refine hKo _ _ fun fa16 fh16 => ?_;clear hKo Ko fh15 fa15;refine Kn.step fh16 rfl rfl (.some rfl rfl rfl) (Kn.ex_load fh16 (.tmp rfl)) fun Ko hKo => ?_;go_simp;(try go_bits);refine hKo _ _ fun fa17 fh17 => ?_;clear hKo Ko fh16 fa16;refine Kn.step fh17 rfl rfl (.some rfl rfl rfl) (Kn.ex_fieldAddr fh17 (.tmp rfl)) fun Ko hKo => ?_;go_simp;(try go_bits);refine hKo _ _ fun fa18 fh18 => ?_;clear hKo Ko fh17 fa17;refine Kn.step fh18 rfl rfl (.some rfl rfl rfl) (Kn.ex_load fh18 (.tmp rfl)) fun Ko hKo => ?_;go_simp;(try go_bits);refine hKo _ _ fun fa19 fh19 => ?_;clear hKo Ko fh18 fa18;refine Kn.step fh19 rfl rfl (.some rfl rfl rfl) (Kn.ex_bin fh19 (.tmp rfl) (.tmp rfl)) fun Ko hKo => ?_;go_simp;(try go_bits);refine hKo _ _ fun fa20 fh20 => ?_;clear hKo Ko fh19 fa19;refine Kn.pure fh20 rfl rfl (.some rfl rfl rfl) (Kn.ex_pick fh20 (.tmp rfl) (.tmp rfl)) fun fa21 fh21 => ?_;clear fh20 fa20;refine Kn.pure fh21 rfl rfl .none (Kn.ex_pick fh21 (.tmp rfl) (.tmp rfl)) fun fa22 fh22 => ?_;clear fh21 fa21;refine Kn.pure fh22 rfl rfl .none (Kn.ex_assign fh22 (.tmp rfl)) fun fa23 fh23 => ?_;clear fh22 fa22;refine wpList_nil ?_;refine hK2 _ _ ?_;clear hK2 K2;replace fh23 := fh23.cut (.cons (t := 4) rfl .nil);refine wp_ret ?_;exact Kn.ret1 fh23 rfl rfl ⟨rfl, ((Below.refl _ _).alloc (Nat.le_refl _) _).alloc (by simp) _⟩
theorem less_any (x y : Int × Int) (w : World) : Calls Tryd.prog 26 #[eV x, eV y] w fun e w' => e = .returned (.bool (lessB x y)) ∧ Below w.heap.size w w' := by
  obtain ⟨a, b⟩ := x;obtain ⟨c, d⟩ := y
  by_cases h : a < c
  · rw [show lessB (a, b) (c, d) = true by simp [lessB, h]]; exact less_a a b c d w h
  · by_cases h2 : a = c
    · by_cases h3 : b < d
      · rw [show lessB (a, b) (c, d) = true by simp [lessB, h2, h3]]; exact less_c a b c d w h (beq_iff_eq.2 h2) h3
      · rw [show lessB (a, b) (c, d) = false by simp [lessB, h2, h3]]; exact less_d a b c d w h (beq_iff_eq.2 h2) h3
    · rw [show lessB (a, b) (c, d) = false by simp [lessB, h, h2]]; exact less_b a b c d w h (beq_eq_false_iff_ne.2 h2)
def badB (n : Int) (e : Int × Int) : Bool := decide (e.1 < 0) || decide (e.2 < 0) || decide (n ≤ e.1) || decide (n ≤ e.2)
end Go.Proofs.YtaikghenimfjcaaDoor.Edg
end
section
namespace Go.Proofs.YtaikghenimfjcaaDoor.Edg
open Go Go.RowKit Go.Lib Go.Shelf Go.Sort
def cmpI (x y : Int × Int) : Int := if x.1 = y.1 then Lib.compareInt x.2 y.2 else Lib.compareInt x.1 y.1
theorem cmp_any (a b : Int) (w : World) : Calls Tryd.prog 66 #[.int .i64 a, .int .i64 b] w fun e w' => e = .returned (.int .i64 (Lib.compareInt a b)) ∧ w' = w := AnyG.cmp_Compare_int Tryd.layCmp a b w
set_option maxRecDepth 100000 in
set_option maxHeartbeats 2000000 in
theorem compare_a (a b c d : Int) (w : World) (h : (a != c) = true) :
    Calls Tryd.prog 56 #[.agg #[.int .i64 a, .int .i64 b], .agg #[.int .i64 c, .int .i64 d]] w fun e w' => e = .returned (.int .i64 (Lib.compareInt a c)) ∧ ∃ q os', w' = grow (w.drewN q) os' := by
  refine Kn.calls Tryd.func56 rfl Tryd.ntmps56 rfl (.cons (t := 0) rfl (.cons (t := 1) rfl .nil)) fun fa0 fh0 => ?_;refine wp_seq_k fun K1 hK1 => ?_;refine wp_region_lit ?_;refine Kn.step fh0 rfl rfl .none (Kn.ex_box fh0 (.tmp rfl)) fun Ko hKo => ?_;go_simp;(try go_bits);refine hKo _ _ fun fa1 fh1 => ?_;clear hKo Ko fh0 fa0;refine Kn.step fh1 rfl rfl .none (Kn.ex_box fh1 (.tmp rfl)) fun Ko hKo => ?_;go_simp;(try go_bits);refine hKo _ _ fun fa2 fh2 => ?_;clear hKo Ko fh1 fa1;refine Kn.pure fh2 rfl rfl .none (Kn.ex_assign fh2 .const) fun fa3 fh3 => ?_;clear fh2 fa2;refine wpList_nil ?_;refine hK1 _ _ ?_;clear hK1 K1;replace fh3 := fh3.cut (.cons (t := 4) rfl (.cons (t := 3) rfl (.cons (t := 2) rfl .nil)));refine wp_seq_k fun K2 hK2 => ?_;refine wp_seq_k fun K3 hK3 => ?_;refine wp_region_lit ?_;refine Kn.step fh3 rfl rfl .none (Kn.ex_fieldAddr fh3 (.tmp rfl)) fun Ko hKo => ?_;go_simp;(try go_bits);refine hKo _ _ fun fa4 fh4 => ?_;clear hKo Ko fh3 fa3;refine Kn.step fh4 rfl rfl .none (Kn.ex_load fh4 (.tmp rfl)) fun Ko hKo => ?_;go_simp;(try go_bits);refine hKo _ _ fun fa5 fh5 => ?_;clear hKo Ko fh4 fa4;refine Kn.step fh5 rfl rfl .none (Kn.ex_fieldAddr fh5 (.tmp rfl)) fun Ko hKo => ?_;go_simp;(try go_bits);refine hKo _ _ fun fa6 fh6 => ?_;clear hKo Ko fh5 fa5;refine Kn.step fh6 rfl rfl .none (Kn.ex_load fh6 (.tmp rfl)) fun Ko hKo => ?_;go_simp;(try go_bits);refine hKo _ _ fun fa7 fh7 => ?_;clear hKo Ko fh6 fa6;refine Kn.step fh7 rfl rfl .none (Kn.ex_bin fh7 (.tmp rfl) (.tmp rfl)) fun Ko hKo => ?_;go_simp;(try go_bits);refine hKo _ _ fun fa8 fh8 => ?_;clear hKo Ko fh7 fa7;refine wpList_nil ?_;refine hK3 _ _ ?_;clear hK3 K3;replace fh8 := fh8.cut (.cons (t := 9) rfl (.cons (t := 4) rfl (.cons (t := 3) rfl (.cons (t := 2) rfl .nil))));refine Kn.yes fh8 (.tmp rfl) ?_;replace fh8 := fh8.cut (.cons (t := 4) rfl (.cons (t := 3) rfl (.cons (t := 2) rfl .nil)));refine wp_seq_k fun K4 hK4 => ?_;refine wp_region_lit ?_;refine Kn.step fh8 rfl rfl .none (Kn.ex_fieldAddr fh8 (.tmp rfl)) fun Ko hKo => ?_;go_simp;(try go_bits);refine hKo _ _ fun fa9 fh9 => ?_;clear hKo Ko fh8 fa8;refine Kn.step fh9 rfl rfl .none (Kn.ex_load fh9 (.tmp rfl)) fun Ko hKo => ?_;go_simp;(try go_bits);refine hKo _ _ fun fa10 fh10 => ?_;clear hKo Ko fh9 fa9;refine Kn.step fh10 rfl rfl .none (Kn.ex_fieldAddr fh10 (.tmp rfl)) fun Ko hKo => ?_;go_simp;(try go_bits);refine hKo _ _ fun fa11 fh11 => ?_;clear hKo Ko fh10 fa10;refine Kn.step fh11 rfl rfl .none (Kn.ex_load fh11 (.tmp rfl)) fun Ko hKo => ?_;go_simp;(try go_bits);refine hKo _ _ fun fa12 fh12 => ?_;clear hKo Ko fh11 fa11;refine Kn.call fh12 rfl rfl .none (Kn.ex_call fh12 (.cons (.tmp rfl) (.cons (.tmp rfl) .nil))) Tryd.call66 (cmp_any _ _ _) fun e w1 hp => ?_;obtain ⟨rfl, rfl⟩ := hp;refine ⟨_, rfl, fun fa13 fh13 => ?_⟩;clear fh12 fa12;refine Kn.pure fh13 rfl rfl .none (Kn.ex_assign fh13 (.tmp rfl)) fun fa14 fh14 => ?_;clear fh13 fa13;refine wpList_nil ?_;refine hK4 _ _ ?_;clear hK4 K4;replace fh14 := fh14.cut (.cons (t := 4) rfl (.cons (t := 3) rfl (.cons (t := 2) rfl .nil)));refine wp_ret ?_;refine Kn.then_ret ?_;exact Kn.ret1 fh14 rfl rfl ⟨rfl, 0, _, by rw [alloc_eq_grow, alloc_eq_grow, grow_grow]; rfl⟩
set_option maxRecDepth 100000 in
set_option maxHeartbeats 2000000 in
theorem compare_b (a b c d : Int) (w : World) (h : (a != c) = false) :
    Calls Tryd.prog 56 #[.agg #[.int .i64 a, .int .i64 b], .agg #[.int .i64 c, .int .i64 d]] w fun e w' => e = .returned (.int .i64 (Lib.compareInt b d)) ∧ ∃ q os', w' = grow (w.drewN q) os' := by
  refine Kn.calls Tryd.func56 rfl Tryd.ntmps56 rfl (.cons (t := 0) rfl (.cons (t := 1) rfl .nil)) fun fa0 fh0 => ?_;refine wp_seq_k fun K1 hK1 => ?_;refine wp_region_lit ?_;refine Kn.step fh0 rfl rfl .none (Kn.ex_box fh0 (.tmp rfl)) fun Ko hKo => ?_;go_simp;(try go_bits);refine hKo _ _ fun fa1 fh1 => ?_;clear hKo Ko fh0 fa0;refine Kn.step fh1 rfl rfl .none (Kn.ex_box fh1 (.tmp rfl)) fun Ko hKo => ?_;go_simp;(try go_bits);refine hKo _ _ fun fa2 fh2 => ?_;clear hKo Ko fh1 fa1;refine Kn.pure fh2 rfl rfl .none (Kn.ex_assign fh2 .const) fun fa3 fh3 => ?_;clear fh2 fa2;refine wpList_nil ?_;refine hK1 _ _ ?_;clear hK1 K1;replace fh3 := fh3.cut (.cons (t := 4) rfl (.cons (t := 3) rfl (.cons (t := 2) rfl .nil)));refine wp_seq_k fun K2 hK2 => ?_;refine wp_seq_k fun K3 hK3 => ?_;refine wp_region_lit ?_;refine Kn.step fh3 rfl rfl .none (Kn.ex_fieldAddr fh3 (.tmp rfl)) fun Ko hKo => ?_;go_simp;(try go_bits);refine hKo _ _ fun fa4 fh4 => ?_;clear hKo Ko fh3 fa3;refine Kn.step fh4 rfl rfl .none (Kn.ex_load fh4 (.tmp rfl)) fun Ko hKo => ?_;go_simp;(try go_bits);refine hKo _ _ fun fa5 fh5 => ?_;clear hKo Ko fh4 fa4;refine Kn.step fh5 rfl rfl .none (Kn.ex_fieldAddr fh5 (.tmp rfl)) fun Ko hKo => ?_;go_simp;(try go_bits);refine hKo _ _ fun fa6 fh6 => ?_;clear hKo Ko fh5 fa5;refine Kn.step fh6 rfl rfl .none (Kn.ex_load fh6 (.tmp rfl)) fun Ko hKo => ?_;go_simp;(try go_bits);refine hKo _ _ fun fa7 fh7 => ?_;clear hKo Ko fh6 fa6;refine Kn.step fh7 rfl rfl .none (Kn.ex_bin fh7 (.tmp rfl) (.tmp rfl)) fun Ko hKo => ?_;go_simp;(try go_bits);refine hKo _ _ fun fa8 fh8 => ?_;clear hKo Ko fh7 fa7;refine wpList_nil ?_;refine hK3 _ _ ?_;clear hK3 K3;replace fh8 := fh8.cut (.cons (t := 9) rfl (.cons (t := 4) rfl (.cons (t := 3) rfl (.cons (t := 2) rfl .nil))));refine Kn.no fh8 (.tmp rfl) ?_;refine wp_skip ?_;refine hK2 _ _ ?_;clear hK2 K2;replace fh8 := fh8.cut (.cons (t := 4) rfl (.cons (t := 3) rfl (.cons (t := 2) rfl .nil)));refine wp_seq_k fun K4 hK4 => ?_;refine wp_region_lit ?_;refine Kn.step fh8 rfl rfl .none (Kn.ex_fieldAddr fh8 (.tmp rfl)) fun Ko hKo => ?_;go_simp;(try go_bits);refine hKo _ _ fun fa9 fh9 => ?_;clear hKo Ko fh8 fa8;refine Kn.step fh9 rfl rfl .none (Kn.ex_load fh9 (.tmp rfl)) fun Ko hKo => ?_;go_simp;(try go_bits);refine hKo _ _ fun fa10 fh10 => ?_;clear hKo Ko fh9 fa9;refine Kn.step fh10 rfl rfl .none (Kn.ex_fieldAddr fh10 (.tmp rfl)) fun Ko hKo => ?_;go_simp;(try go_bits);refine hKo _ _ fun fa11 fh11 => ?_;clear hKo Ko fh10 fa10;refine Kn.step fh11 rfl rfl .none (Kn.ex_load fh11 (.tmp rfl)) fun Ko hKo => ?_;go_simp;(try go_bits);refine hKo _ _ fun fa12 fh12 => ?_;clear hKo Ko fh11 fa11;refine Kn.call fh12 rfl rfl .none (Kn.ex_call fh12 (.cons (.tmp rfl) (.cons (.tmp rfl) .nil))) Tryd.call66 (cmp_any _ _ _) fun e w1 hp => ?_;obtain ⟨rfl, rfl⟩ := hp;refine ⟨_, rfl, fun fa13 fh13 => ?_⟩;clear fh12 fa12;refine Kn.pure fh13 rfl rfl .none (Kn.ex_assign fh13 (.tmp rfl)) fun fa14 fh14 => ?_;clear fh13 fa13;refine wpList_nil ?_;refine hK4 _ _ ?_;clear hK4 K4;replace fh14 := fh14.cut (.cons (t := 4) rfl .nil);refine wp_ret ?_;exact Kn.ret1 fh14 rfl rfl ⟨rfl, 0, _, by rw [alloc_eq_grow, alloc_eq_grow, grow_grow]; rfl⟩
theorem compare_any (x y : Int × Int) (w : World) : Calls Tryd.prog 56 #[.agg #[.int .i64 x.1, .int .i64 x.2], .agg #[.int .i64 y.1, .int .i64 y.2]] w fun e w' => e = .returned (.int .i64 (cmpI x y)) ∧ ∃ q os', w' = grow (w.drewN q) os' := by
  obtain ⟨a, b⟩ := x;obtain ⟨c, d⟩ := y
  by_cases h : a = c
  · rw [show cmpI (a, b) (c, d) = Lib.compareInt b d by simp [cmpI, h]]; exact compare_b a b c d w (by simp [h])
  · rw [show cmpI (a, b) (c, d) = Lib.compareInt a c by simp [cmpI, h]]; exact compare_a a b c d w (by simp [h])
def encE (x : Int × Int) : List Value := [.int .i64 x.1, .int .i64 x.2]
theorem cmpLays (blk off size : Nat) (w : World) : CmpLays Tryd.prog 56 #[] encE 2 cmpI blk off size w := fun _ _ _ _ x y => compare_any x y _
theorem ltOf_cmp (x y : Int × Int) : ltOf cmpI x y = lessB x y := by
  unfold ltOf cmpI Lib.compareInt lessB
  by_cases h : x.1 = y.1
  · by_cases h1 : x.2 < y.2
    · simp [h, h1]
    · by_cases h2 : y.2 < x.2 <;> simp [h, h1, h2]
  · by_cases h1 : x.1 < y.1
    · simp [h, h1]
    · by_cases h2 : y.1 < x.1 <;> simp [h, h1, h2]
theorem swo : SWO (ltOf cmpI) where
  irrefl x := by rw [ltOf_cmp]; exact less_irr x
  trans x y z h1 h2 := by rw [ltOf_cmp] at *; exact less_trans h1 h2
  ntrans x y z h1 h2 := by
    rw [ltOf_cmp] at *
    cases h : lessB x z with
    | false => rfl
    | true =>
      have a1 : ¬ lessB x y = true := by simp [h1]
      have a2 : ¬ lessB y z = true := by simp [h2]
      rw [less_iff] at h a1 a2;omega
noncomputable def eI : TypeInfo := (Tryd.prog.info? 59).get (by kernel_rfl)
set_option maxHeartbeats 2000000 in
set_option maxRecDepth 100000 in
theorem clone_zero (a : Addr) (c : Nat) (w : World) :
    Calls Tryd.prog 54 #[.slice (some a) 0 c] w fun e w' => ∃ A' n' c', e = .returned (.slice A' n' c') ∧ OwnE w' w.heap.size A' n' c' [] ∧ Below w.heap.size w w' := by
  have q22 : ∀ (w : World) (a : Option Addr) (n c n' c' : Nat), (binOp .eql 22 (.slice a n c) (.slice none n' c')).run Tryd.prog w = .ok (.bool a.isNone) w := fun w a n c n' c' => Lib.run_eql_slice_nil w _ _ a n c n' c' Tryd.underlying22
  go_enter Tryd.func54, Tryd.ntmps54
  go_wp2_with (at_builtin; refine wpList_append_own _ rfl _ _ 22 rfl w.heap.size 59 eI (.agg #[.int .i64 0, .int .i64 0]) 2 16 Tryd.underlying22 (by kernel_rfl) (by kernel_rfl) (by kernel_rfl) (by kernel_rfl) rfl (by decide) _ _ _ rfl (World.ownsRow_made w #[] 0 (Nat.le_refl _) (Nat.zero_le _) rfl) a 0 c [] rfl rfl (by intro j u hj; simp at hj) (by intro u hu; cases hu) (by unfold maxLen; omega) (by omega) (by simp) ?_)
  intro v' w1 hown hgrow hnil
  go_wp2
  go_ret
  have hown' : w1.ownsRow w.heap.size 59 2 v' 0 [] := by simpa using hown
  have hb : Below w.heap.size w w1 := ((Below.refl _ w).alloc (Nat.le_refl _) _).grown hgrow (by simp) (by intro k hk; simp [Value.ownBlock] at hk; omega);rcases hown'.2 with ⟨hv, _⟩ | ⟨g, cap, cur, hv, _⟩
  · subst hv; exact ⟨_, _, _, rfl, ⟨rfl, hown'⟩, hb⟩
  · subst hv; exact ⟨_, _, _, rfl, ⟨rfl, hown'⟩, hb⟩
theorem clone_any (A : Option Addr) (c : Nat) (xs : List (Int × Int)) (w : World) (hx : xs.length ≤ 20000) (hA : EIn w A xs) :
    Calls Tryd.prog 54 #[.slice A xs.length c] w fun e w' => ∃ A' n' c', e = .returned (.slice A' n' c') ∧ OwnE w' w.heap.size A' n' c' xs ∧ Below w.heap.size w w' := by
  cases A with
  | none =>
    have h0 : xs = [] := by
      cases xs with
      | nil => rfl
      | cons x xs => obtain ⟨b, o, e, _⟩ := hA 0 (by simp); cases e
    subst h0;exact (AnyE.slices_Clone_nil Tryd.layClone 0 c w).mono fun e w' ⟨he, hw⟩ => ⟨none, 0, 0, he, by subst hw; exact OwnE.none _ _, by subst hw; exact Below.refl _ _⟩
  | some a =>
    rcases Nat.eq_zero_or_pos xs.length with h0 | h0
    · obtain rfl : xs = [] := List.eq_nil_of_length_eq_zero h0;exact clone_zero a c w
    · obtain ⟨b, o, e, _⟩ := hA 0 h0;cases e;refine (AnyE.slices_Clone Tryd.layClone eI (.agg #[.int .i64 0, .int .i64 0]) 2 16 (by kernel_rfl) (by kernel_rfl) (by kernel_rfl) (by kernel_rfl) rfl (by decide) Tryd.sizeOf59 b o xs.length c (eC xs) w (eC_len xs) (by unfold maxLen; omega) (by omega) (fun j u hu => by have := hA.news j u hu; rwa [addr_add] at this) (eC_one xs)).mono fun e w' hp => ?_;obtain ⟨v', he, ho, _, hb⟩ := hp;obtain ⟨g, cap, hv, _, _⟩ := ho.form h0;subst hv;exact ⟨_, _, _, he, ⟨rfl, ho⟩, hb⟩
theorem eq_run (p q : Int × Int) (w : World) : (Op.equalIn 10000 59 (eV p) (eV q)).run Tryd.prog w = .ok (decide (p = q)) w := by
  have u3 := Tryd.underlying3;have a3 := Tryd.isAgg3;have z3 := Tryd.sizeOf3;have hS : Tryd.prog.underlying 59 = some (.struct (Tryd.prog.fieldsOf 59)) := by kernel_rfl
  have hp : Tryd.prog.stoodInHeld 59 = false := by kernel_rfl
  obtain ⟨a, b⟩ := p;obtain ⟨c, d⟩ := q;simp only [eV];rw [show (10000 : Nat) = 9999 + 1 from rfl, run_equalIn_agg w 9999 59 _ _ hS hp];simp only [Program.fieldsOf, Tryd.underlying59];go_simp
  by_cases h1 : a = c <;> by_cases h2 : b = d <;> simp [h1, h2]
theorem guardE (op : BinOp) (x y : Operand) (p q : Int × Int) (w : World) : (eqGuard op 59 x y (eV p) (eV q)).run Tryd.prog w = .ok () w := run_eqGuard_agg w op _ x y _ _ (by kernel_rfl)
theorem run_bind_ok {P : Program} {α β : Type} {s : Sem α} {f : α → Sem β} {w w' : World} {a : α} (h : s.run P w = .ok a w') : (s >>= f).run P w = (f a).run P w' := by rw [Sem.run_bind, h]; rfl
theorem eqlE (x y : Operand) (a b c d : Int) (w : World) : (do eqGuard .eql 59 x y (.agg #[.int .i64 a, .int .i64 b]) (.agg #[.int .i64 c, .int .i64 d]); binOp .eql 59 (.agg #[.int .i64 a, .int .i64 b]) (.agg #[.int .i64 c, .int .i64 d]) : Sem Value).run Tryd.prog w = .ok (.bool (decide ((a, b) = (c, d)))) w := by
  have h1 := guardE .eql x y (a, b) (c, d) w;have h2 := eq_run (a, b) (c, d) w;simp only [eV] at h1 h2;refine (run_bind_ok h1).trans ?_;rw [run_eql_struct, h2]
  rfl
theorem neqE (x y : Operand) (a b c d : Int) (w : World) : (do eqGuard .neq 59 x y (.agg #[.int .i64 a, .int .i64 b]) (.agg #[.int .i64 c, .int .i64 d]); binOp .neq 59 (.agg #[.int .i64 a, .int .i64 b]) (.agg #[.int .i64 c, .int .i64 d]) : Sem Value).run Tryd.prog w = .ok (.bool (!decide ((a, b) = (c, d)))) w := by
  have h1 := guardE .neq x y (a, b) (c, d) w;have h2 := eq_run (a, b) (c, d) w;simp only [eV] at h1 h2;refine (run_bind_ok h1).trans ?_;rw [run_neq_struct, h2]
  rfl
end Go.Proofs.YtaikghenimfjcaaDoor.Edg
end
section
namespace Go.Proofs.YtaikghenimfjcaaDoor.Edg
open Go Go.RowKit Go.Lib
set_option maxRecDepth 100000 in
set_option maxHeartbeats 2000000 in
theorem isNode_a (n v : Int) (w : World) (h : ¬ 0 ≤ v) :
    Calls Tryd.prog 63 #[.int .i64 n, .int .i64 v] w fun e w' => e = .returned (.bool false) ∧ w = w' := by
  refine Kn.calls Tryd.func63 rfl Tryd.ntmps63 rfl (.cons (t := 0) rfl (.cons (t := 1) rfl .nil)) fun fa0 fh0 => ?_;refine wp_seq_k fun K1 hK1 => ?_;refine wp_region_lit ?_;refine Kn.pure fh0 rfl rfl .none (Kn.ex_assign fh0 .const) fun fa1 fh1 => ?_;clear fh0 fa0;refine wpList_nil ?_;refine hK1 _ _ ?_;clear hK1 K1;refine wp_seq_k fun K2 hK2 => ?_;refine wp_region_lit ?_;refine Kn.pure fh1 rfl rfl .none (Kn.ex_move fh1 (.tmp rfl)) fun fa2 fh2 => ?_;clear fh1 fa1;refine Kn.step fh2 rfl rfl .none (Kn.ex_bin fh2 (.tmp rfl) .const) fun Ko hKo => ?_;go_simp;(try go_bits);refine hKo _ _ fun fa3 fh3 => ?_;clear hKo Ko fh2 fa2;refine Kn.pure fh3 rfl rfl .none (Kn.ex_move fh3 (.tmp rfl)) fun fa4 fh4 => ?_;clear fh3 fa3;refine Kn.skip fh4 rfl rfl (.some rfl rfl rfl) fun fa5 fh5 => ?_;clear fh4 fa4;refine Kn.skip fh5 rfl rfl (.some rfl rfl rfl) fun fa6 fh6 => ?_;clear fh5 fa5;refine Kn.skip fh6 rfl rfl (.some rfl rfl rfl) fun fa7 fh7 => ?_;clear fh6 fa6;refine Kn.pure fh7 rfl rfl .none (Kn.ex_pick fh7 (.tmp rfl) .const) fun fa8 fh8 => ?_;clear fh7 fa7;refine Kn.pure fh8 rfl rfl .none (Kn.ex_assign fh8 (.tmp rfl)) fun fa9 fh9 => ?_;clear fh8 fa8;refine wpList_nil ?_;refine hK2 _ _ ?_;clear hK2 K2;replace fh9 := fh9.cut (.cons (t := 4) rfl .nil);refine wp_ret ?_;exact Kn.ret1 fh9 rfl rfl ⟨rfl, rfl⟩
set_option maxRecDepth 100000 in
set_option maxHeartbeats 2000000 in
theorem isNode_b (n v : Int) (w : World) (h : 0 ≤ v) (h2 : ¬ v < n) :
    Calls Tryd.prog 63 #[.int .i64 n, .int .i64 v] w fun e w' => e = .returned (.bool false) ∧ w = w' := by
  refine Kn.calls Tryd.func63 rfl Tryd.ntmps63 rfl (.cons (t := 0) rfl (.cons (t := 1) rfl .nil)) fun fa0 fh0 => ?_;refine wp_seq_k fun K1 hK1 => ?_;refine wp_region_lit ?_;refine Kn.pure fh0 rfl rfl .none (Kn.ex_assign fh0 .const) fun fa1 fh1 => ?_;clear fh0 fa0;refine wpList_nil ?_;refine hK1 _ _ ?_;clear hK1 K1;refine wp_seq_k fun K2 hK2 => ?_;refine wp_region_lit ?_;refine Kn.pure fh1 rfl rfl .none (Kn.ex_move fh1 (.tmp rfl)) fun fa2 fh2 => ?_;clear fh1 fa1;refine Kn.step fh2 rfl rfl .none (Kn.ex_bin fh2 (.tmp rfl) .const) fun Ko hKo => ?_;go_simp;(try go_bits);refine hKo _ _ fun fa3 fh3 => ?_;clear hKo Ko fh2 fa2;refine Kn.pure fh3 rfl rfl .none (Kn.ex_move fh3 (.tmp rfl)) fun fa4 fh4 => ?_;clear fh3 fa3;refine Kn.pure fh4 rfl rfl (.some rfl rfl rfl) (Kn.ex_move fh4 (.tmp rfl)) fun fa5 fh5 => ?_;clear fh4 fa4;refine Kn.pure fh5 rfl rfl (.some rfl rfl rfl) (Kn.ex_move fh5 (.tmp rfl)) fun fa6 fh6 => ?_;clear fh5 fa5;refine Kn.step fh6 rfl rfl (.some rfl rfl rfl) (Kn.ex_bin fh6 (.tmp rfl) (.tmp rfl)) fun Ko hKo => ?_;go_simp;(try go_bits);refine hKo _ _ fun fa7 fh7 => ?_;clear hKo Ko fh6 fa6;refine Kn.pure fh7 rfl rfl .none (Kn.ex_pick fh7 (.tmp rfl) (.tmp rfl)) fun fa8 fh8 => ?_;clear fh7 fa7;refine Kn.pure fh8 rfl rfl .none (Kn.ex_assign fh8 (.tmp rfl)) fun fa9 fh9 => ?_;clear fh8 fa8;refine wpList_nil ?_;refine hK2 _ _ ?_;clear hK2 K2;replace fh9 := fh9.cut (.cons (t := 4) rfl .nil);refine wp_ret ?_;exact Kn.ret1 fh9 rfl rfl ⟨rfl, rfl⟩
set_option maxRecDepth 100000 in
set_option maxHeartbeats 2000000 in
theorem isNode_c (n v : Int) (w : World) (h : 0 ≤ v) (h2 : v < n) :
    Calls Tryd.prog 63 #[.int .i64 n, .int .i64 v] w fun e w' => e = .returned (.bool true) ∧ w = w' := by
  refine Kn.calls Tryd.func63 rfl Tryd.ntmps63 rfl (.cons (t := 0) rfl (.cons (t := 1) rfl .nil)) fun fa0 fh0 => ?_;refine wp_seq_k fun K1 hK1 => ?_;refine wp_region_lit ?_;refine Kn.pure fh0 rfl rfl .none (Kn.ex_assign fh0 .const) fun fa1 fh1 => ?_;clear fh0 fa0;refine wpList_nil ?_;refine hK1 _ _ ?_;clear hK1 K1;refine wp_seq_k fun K2 hK2 => ?_;refine wp_region_lit ?_;refine Kn.pure fh1 rfl rfl .none (Kn.ex_move fh1 (.tmp rfl)) fun fa2 fh2 => ?_;clear fh1 fa1;refine Kn.step fh2 rfl rfl .none (Kn.ex_bin fh2 (.tmp rfl) .const) fun Ko hKo => ?_;go_simp;(try go_bits);refine hKo _ _ fun fa3 fh3 => ?_;clear hKo Ko fh2 fa2;refine Kn.pure fh3 rfl rfl .none (Kn.ex_move fh3 (.tmp rfl)) fun fa4 fh4 => ?_;clear fh3 fa3;refine Kn.pure fh4 rfl rfl (.some rfl rfl rfl) (Kn.ex_move fh4 (.tmp rfl)) fun fa5 fh5 => ?_;clear fh4 fa4;refine Kn.pure fh5 rfl rfl (.some rfl rfl rfl) (Kn.ex_move fh5 (.tmp rfl)) fun fa6 fh6 => ?_;clear fh5 fa5;refine Kn.step fh6 rfl rfl (.some rfl rfl rfl) (Kn.ex_bin fh6 (.tmp rfl) (.tmp rfl)) fun Ko hKo => ?_;go_simp;(try go_bits);refine hKo _ _ fun fa7 fh7 => ?_;clear hKo Ko fh6 fa6;refine Kn.pure fh7 rfl rfl .none (Kn.ex_pick fh7 (.tmp rfl) (.tmp rfl)) fun fa8 fh8 => ?_;clear fh7 fa7;refine Kn.pure fh8 rfl rfl .none (Kn.ex_assign fh8 (.tmp rfl)) fun fa9 fh9 => ?_;clear fh8 fa8;refine wpList_nil ?_;refine hK2 _ _ ?_;clear hK2 K2;replace fh9 := fh9.cut (.cons (t := 4) rfl .nil);refine wp_ret ?_;exact Kn.ret1 fh9 rfl rfl ⟨rfl, rfl⟩
theorem isNode_any (n v : Int) (w : World) : Calls Tryd.prog 63 #[.int .i64 n, .int .i64 v] w fun e w' => e = .returned (.bool (decide (0 ≤ v) && decide (v < n))) ∧ w = w' := by
  by_cases h : 0 ≤ v
  · by_cases h2 : v < n
    · rw [decide_eq_true h, decide_eq_true h2]; exact isNode_c n v w h h2
    · rw [decide_eq_true h, decide_eq_false h2]; exact isNode_b n v w h h2
  · rw [decide_eq_false h]; exact isNode_a n v w h
def faultV (p : Int) (c : Int) : Value := .iface 128 (.agg #[.int .i64 p, .iface 61 (.int .i64 c)])
set_option maxRecDepth 100000 in
set_option maxHeartbeats 2000000 in
theorem fault_any (p c : Int) (w : World) : Calls Tryd.prog 62 #[.int .i64 p, .int .i64 c] w fun e w' => e = .returned (faultV p c) ∧ w = w' := by
  refine Kn.calls Tryd.func62 rfl Tryd.ntmps62 rfl (.cons (t := 0) rfl (.cons (t := 1) rfl .nil)) fun fa0 fh0 => ?_;refine wp_seq_k fun K1 hK1 => ?_;refine wp_region_lit ?_;refine Kn.pure fh0 rfl rfl .none (Kn.ex_assign fh0 .const) fun fa1 fh1 => ?_;clear fh0 fa0;refine wpList_nil ?_;refine hK1 _ _ ?_;clear hK1 K1;refine wp_seq_k fun K2 hK2 => ?_;refine wp_region_lit ?_;refine Kn.pure fh1 rfl rfl .none (Kn.ex_move fh1 (.tmp rfl)) fun fa2 fh2 => ?_;clear fh1 fa1;refine Kn.pure fh2 rfl rfl .none (Kn.ex_move fh2 (.tmp rfl)) fun fa3 fh3 => ?_;clear fh2 fa2;refine Kn.step fh3 rfl rfl .none (Kn.ex_makeInterface fh3 (.tmp rfl)) fun Ko hKo => ?_;go_simp;(try go_bits);refine hKo _ _ fun fa4 fh4 => ?_;clear hKo Ko fh3 fa3;refine Kn.step fh4 rfl rfl .none (Kn.ex_build fh4 (.cons (.tmp rfl) (.cons (.tmp rfl) .nil))) fun Ko hKo => ?_;go_simp;(try go_bits);refine hKo _ _ fun fa5 fh5 => ?_;clear hKo Ko fh4 fa4;refine Kn.step fh5 rfl rfl .none (Kn.ex_makeInterface fh5 (.tmp rfl)) fun Ko hKo => ?_;go_simp;(try go_bits);refine hKo _ _ fun fa6 fh6 => ?_;clear hKo Ko fh5 fa5;refine Kn.pure fh6 rfl rfl .none (Kn.ex_assign fh6 (.tmp rfl)) fun fa7 fh7 => ?_;clear fh6 fa6;refine wpList_nil ?_;refine hK2 _ _ ?_;clear hK2 K2;replace fh7 := fh7.cut (.cons (t := 4) rfl .nil);refine wp_ret ?_;exact Kn.ret1 fh7 rfl rfl ⟨rfl, rfl⟩
def turn (xs : List (Int × Int)) : List (Int × Int) := xs.map fun e => (e.2, e.1)
end Go.Proofs.YtaikghenimfjcaaDoor.Edg
end
section
namespace Go.Proofs.YtaikghenimfjcaaDoor.Edg
open Go Go.RowKit Go.Lib
def HoldE (w : World) (g : Nat) (l : List (Int × Int)) : Prop := ∀ i, i < l.length → (w.cell? ⟨g, i * 2, none⟩ = some (.int .i64 (ed l i).1) ∧ w.cell? ⟨g, i * 2 + 1, none⟩ = some (.int .i64 (ed l i).2)) ∧ w.frozen? ⟨g, i * 2, none⟩ = false ∧ w.frozen? ⟨g, i * 2 + 1, none⟩ = false
theorem HoldE.ein {w : World} {g : Nat} {l : List (Int × Int)} (h : HoldE w g l) : EIn w (some ⟨g, 0, none⟩) l := fun i hi => by
  obtain ⟨⟨h1, h2⟩, _⟩ := h i hi;exact ⟨g, 0, rfl, World.block_lt_of_cell? _ _ h1, by rw [Nat.zero_add]; exact h1, by rw [Nat.zero_add]; exact h2⟩
theorem HoldE.lt {w : World} {g : Nat} {l : List (Int × Int)} (h : HoldE w g l) (hl : 0 < l.length) : g < w.heap.size := World.block_lt_of_cell? _ _ (h 0 hl).1.1
theorem HoldE.on {w w' : World} {g : Nat} {l : List (Int × Int)} (h : HoldE w g l) (hb : Below w.heap.size w w') : HoldE w' g l := fun i hi => by
  obtain ⟨⟨h1, h2⟩, h3, h4⟩ := h i hi;have hlt : g < w.heap.size := World.block_lt_of_cell? _ _ h1;have e := hb.block g hlt;have fz : ∀ o, w'.frozen? ⟨g, o, none⟩ = w.frozen? ⟨g, o, none⟩ := fun o => by simp only [World.frozen?, e]
  exact ⟨⟨(hb.cell (p := ⟨g, i * 2, none⟩) hlt).trans h1, (hb.cell (p := ⟨g, i * 2 + 1, none⟩) hlt).trans h2⟩, (fz _).trans h3, (fz _).trans h4⟩
theorem HoldE.take {w : World} {g : Nat} {l : List (Int × Int)} (h : HoldE w g l) (k : Nat) : HoldE w g (l.take k) := fun i hi => by
  have hi' : i < l.length := by simp at hi; omega
  have e : ed (l.take k) i = ed l i := by rw [ed_at _ _ hi, ed_at _ _ hi']; simp
  rw [e];exact h i hi'
theorem ed_set (l : List (Int × Int)) (k i : Nat) (e : Int × Int) (hi : i < l.length) : ed (l.set k e) i = if i = k then e else ed l i := by
  rw [ed_at _ _ (by simpa using hi), ed_at _ _ hi, List.getElem_set]
  by_cases h : i = k
  · subst h; simp
  · rw [if_neg (fun q => h q.symm), if_neg h]
theorem HoldE.store {w : World} {g : Nat} {l : List (Int × Int)} (h : HoldE w g l) (k : Nat) (hk : k < l.length) (a b : Int) :
    ∃ w', (Instr.storeAt 59 (.pointer (some ⟨g, k * 2, none⟩)) (.agg #[.int .i64 a, .int .i64 b])).run Tryd.prog w = .ok () w' ∧ HoldE w' g (l.set k (a, b)) ∧ (∀ B, B ≤ g → Below B w w') ∧ (∀ p : Addr, p.block ≠ g → w'.cell? p = w.cell? p) := by
  obtain ⟨⟨c1, c2⟩, f1, f2⟩ := h k hk
  have ht : w.there g (k * 2) 2 := fun j hj => by
    rcases (show j = 0 ∨ j = 1 by omega) with rfl | rfl
    · exact ⟨by rw [Nat.add_zero, c1]; rfl, f1⟩
    · exact ⟨by rw [c2]; rfl, f2⟩
  refine ⟨_, run_storeAt_mid w g (k * 2) 59 #[.int .i64 a, .int .i64 b] ht (by kernel_rfl) (by simp [Value.oneCell']), fun i hi => ?_, fun B hB => below_setCells_w hB _ _ _, fun p hp => World.cell?_setCells_out g _ _ _ _ (fun e => absurd e hp)⟩;have hi' : i < l.length := by simpa using hi
  rw [World.frozen?_setCells, World.frozen?_setCells, ed_set l k i (a, b) hi'];refine ⟨?_, (h i hi').2⟩
  by_cases e : i = k
  · subst e;have hin := World.cell?_setCells_in g [.int .i64 a, .int .i64 b] (i * 2) w (fun j hj => (ht j (by simpa using hj)).1);rw [if_pos rfl];exact ⟨by have := hin 0 (by simp); simpa using this, by have := hin 1 (by simp); simpa using this⟩
  · rw [if_neg e, World.cell?_setCells_out g _ _ _ _ (fun _ _ => by simp; omega), World.cell?_setCells_out g _ _ _ _ (fun _ _ => by simp; omega)];exact (h i hi').1
theorem hold_of_own {w : World} {B g n cap : Nat} {l : List (Int × Int)} (h : OwnE w B (some ⟨g, 0, none⟩) n cap l) : HoldE w g l := fun i hi => by
  have c := (OwnE.ein h).cells hi;rw [Nat.zero_add] at c;obtain ⟨hn, hl, hr⟩ := h;rcases hr with ⟨hv, _⟩ | ⟨g', cap', cur, hv, hB, hg, hle, hm, hs, ht⟩
  · cases hv
  · simp only [Value.slice.injEq, Option.some.injEq, Addr.mk.injEq] at hv;obtain ⟨⟨rfl, _, _⟩, _, _⟩ := hv;exact ⟨c, by simp [World.frozen?, hg], by simp [World.frozen?, hg]⟩
end Go.Proofs.YtaikghenimfjcaaDoor.Edg
end
section
namespace Go.Proofs.YtaikghenimfjcaaDoor.Kn
open Go
section
variable {P : Program} {n : Nat} {l : List (Nat × Value)} {a : Act} {ops : Array Oper} {Q : Exit → Act → World → Prop} {w : World} {rest : List Oper}
theorem ex_clear {d : Option Tmp} {t : TypeId} {p : String} {af : Array Edge} {g : Option (Nat × Bool)} {ats : Array TypeId} {xs : Array Operand} {us : List Value} (h : Kn n l a) (hx : Vals l xs.toList us) : execOp a.eval ⟨d, .call { callee := .builtin .clear, args := xs, argTypes := ats }, t, p, af, g⟩ = vl (Builtin.clear_ ats t us.toArray) := by
  rw [BigFrame.execOp_builtin, BigFrame.builtin_clear, show xs.map a.eval = us.toArray by have := h.vals hx; rwa [Array.toArray_toList] at this]
theorem known0 {o : Oper} {s : Sem Value} {v : Value} {w' : World} (h : Kn n l a) (hd : o.dst = none) (hw : Wants ops l o.guard true) (he : execOp a.eval o = vl s)
    (hr : s.run P w = .ok v w') (H : wpList P ops Q rest a w') : wpList P ops Q (o :: rest) a w := by
  refine wpList_step fun K hK => ?_;rw [h.wants hw, if_pos rfl];unfold Oper.wp;rw [he];simp [go_sem, hr, hd, Act.put];exact hK a w' H
end
end Go.Proofs.YtaikghenimfjcaaDoor.Kn
namespace Go.Proofs.YtaikghenimfjcaaDoor.Edg
open Go Go.RowKit Go.Lib
def ddk (l : List (Int × Int)) : Nat → List (Int × Int)
  | 0 => []
  | k + 1 => if k ≠ 0 ∧ ed l k = ed l (k - 1) then ddk l k else ddk l k ++ [ed l k]
theorem ddk_same (l : List (Int × Int)) (k : Nat) (h0 : 0 < k) (h : ed l k = ed l (k - 1)) : ddk l (k + 1) = ddk l k := by rw [ddk, if_pos ⟨by omega, h⟩]
theorem ddk_more (l : List (Int × Int)) (k : Nat) (h : k = 0 ∨ ed l k ≠ ed l (k - 1)) : ddk l (k + 1) = ddk l k ++ [ed l k] := by
  rw [ddk, if_neg];rintro ⟨h1, h2⟩;rcases h with h | h
  · exact h1 h
  · exact h h2
theorem mem_take_ed {l : List (Int × Int)} {k : Nat} {e : Int × Int} (h : e ∈ l.take k) : ∃ i, i < k ∧ i < l.length ∧ ed l i = e := by
  obtain ⟨i, hi, he⟩ := List.getElem_of_mem h;simp at hi;exact ⟨i, by omega, by omega, by rw [ed_at l i (by omega), ← he]; simp⟩
theorem ddk_mem (l : List (Int × Int)) : ∀ k, k ≤ l.length → ∀ e, e ∈ ddk l k ↔ e ∈ l.take k
  | 0, _, e => by simp [ddk]
  | k + 1, hk, e => by
    have ih := ddk_mem l k (by omega) e;rw [take_ed l k (by omega), List.mem_append, List.mem_singleton]
    by_cases h : k ≠ 0 ∧ ed l k = ed l (k - 1)
    · rw [ddk_same l k (by omega) h.2, ih];refine ⟨.inl, fun h' => h'.elim id fun q => ?_⟩;rw [q, h.2, ed_at l (k - 1) (by omega)];exact List.mem_take_iff_getElem.2 ⟨k - 1, by omega, rfl⟩
    · rw [ddk, if_neg h, List.mem_append, List.mem_singleton, ih]
def WSrt (l : List (Int × Int)) : Prop := ∀ i j, i < j → j < l.length → lessB (ed l j) (ed l i) = false
theorem ddk_srt (l : List (Int × Int)) (h : WSrt l) : ∀ k, k ≤ l.length → Srt (ddk l k)
  | 0, _ => List.Pairwise.nil
  | k + 1, hk => by
    have ih := ddk_srt l h k (by omega)
    by_cases hc : k ≠ 0 ∧ ed l k = ed l (k - 1)
    · rw [ddk_same l k (by omega) hc.2]; exact ih
    · rw [ddk, if_neg hc];unfold Srt;rw [List.pairwise_append];refine ⟨ih, by simp, fun a ha b hb => ?_⟩;rw [List.mem_singleton] at hb;subst hb;obtain ⟨i, hik, hil, rfl⟩ := mem_take_ed ((ddk_mem l k (by omega) a).1 ha);have hne : ed l k ≠ ed l (k - 1) := fun e => hc ⟨by omega, e⟩;have h1 := h i k hik (by omega)
      cases h2 : lessB (ed l i) (ed l k) with
      | true => rfl
      | false =>
        exfalso
        have e1 : ed l i = ed l k := less_eq h2 h1;rcases Nat.lt_or_ge i (k - 1) with hlt | hge
        · have h3 := h i (k - 1) hlt (by omega);have h4 := h (k - 1) k (by omega) (by omega);rw [e1] at h3;exact hne (less_eq h4 h3)
        · exact hne (by rw [← e1, show i = k - 1 by omega])
theorem ddk_norm (l xs : List (Int × Int)) (h : WSrt l) (hm : ∀ e, e ∈ l ↔ e ∈ xs) : NormOf xs (ddk l l.length) :=
  ⟨ddk_srt l h _ (Nat.le_refl _), fun e => by rw [ddk_mem l _ (Nat.le_refl _) e, List.take_length, hm]⟩
theorem HoldE.clear {w : World} {g : Nat} {l : List (Int × Int)} (h : HoldE w g l) (k c : Nat) (ty : TypeId) (hk : k < l.length) :
    ∃ w', (Builtin.clear_ #[22] ty #[.slice (some ⟨g, k * 2, none⟩) (l.length - k) c]).run Tryd.prog w = .ok (.tuple #[]) w' ∧ HoldE w' g (l.take k) ∧ ∀ B, B ≤ g → Below B w w' := by
  obtain ⟨m, hm⟩ : ∃ m, l.length - k = m + 1 := ⟨l.length - k - 1, by omega⟩;have hz : ∀ w, (zeroValue 59).run Tryd.prog w = .ok (.agg #[.int .i64 0, .int .i64 0]) w := fun w => Tryd.zeroValue59 w;have hlen : (Builtin.zeroCells (Value.agg #[.int .i64 0, .int .i64 0]).cells (m + 1)).toList.length = (m + 1) * 2 := by simp [Builtin.zeroCells, Value.cells]
  have hone : ∀ v ∈ (Builtin.zeroCells (Value.agg #[.int .i64 0, .int .i64 0]).cells (m + 1)).toList, v.oneCell' = true := fun v hv => by
    obtain ⟨i, hi, rfl⟩ := List.getElem_of_mem hv;rcases Nat.mod_two_eq_zero_or_one i with q | q <;> simp [Builtin.zeroCells, Value.cells, q, Value.oneCell']
  generalize hvs : (Builtin.zeroCells (Value.agg #[.int .i64 0, .int .i64 0]).cells (m + 1)).toList = vs at hlen hone
  have hall : ∀ j, j < vs.length → (w.cell? ⟨g, k * 2 + 0 + j, none⟩).isSome = true ∧ w.frozen? ⟨g, k * 2 + 0 + j, none⟩ = false := fun j hj => by
    have hi : k + j / 2 < l.length := by omega
    obtain ⟨⟨c1, c2⟩, f1, f2⟩ := h (k + j / 2) hi;rcases Nat.mod_two_eq_zero_or_one j with q | q
    · have e : k * 2 + 0 + j = (k + j / 2) * 2 := by omega
      rw [e, c1]; exact ⟨rfl, f1⟩
    · have e : k * 2 + 0 + j = (k + j / 2) * 2 + 1 := by omega
      rw [e, c2]; exact ⟨rfl, f2⟩
  have hst := run_storeCells_cells (P := Tryd.prog) g (k * 2) vs 0 w (fun j hj => (hall j hj).1) (fun j hj => (hall j hj).2) hone;rw [Nat.add_zero] at hst;refine ⟨w.setCells g (k * 2) vs, ?_, fun i hi => ?_, fun B hB => below_setCells_w hB _ _ _⟩
  · rw [hm];simp [Builtin.clear_, run_underlying Tryd.underlying22, hz, hvs, hst]
  · have hi' : i < k := by simp at hi; omega
    rw [World.frozen?_setCells, World.frozen?_setCells, World.cell?_setCells_out g _ _ _ _ (fun _ _ => .inl (by simp; omega)), World.cell?_setCells_out g _ _ _ _ (fun _ _ => .inl (by simp; omega))];exact h.take k i hi
end Go.Proofs.YtaikghenimfjcaaDoor.Edg
end
section
namespace Go.Proofs.YtaikghenimfjcaaDoor.Edg
open Go Go.RowKit Go.Lib Go.Shelf Go.Sort
theorem below_grow {B : Nat} {a w : World} (h : Go.RowKit.Below B a w) (hB : B ≤ w.heap.size) (os : Array Obj) : Go.RowKit.Below B a (grow w os) :=
  ⟨h.os, h.tape, h.output, by have := h.size; simp [grow]; omega, fun k hk => by rw [← h.block k hk]; simp only [grow]; exact Array.getElem?_append_left (by omega)⟩
theorem holdsK_of {w : World} {g : Nat} {l : List (Int × Int)} (h : HoldE w g l) : HoldsK encE 2 w g 0 l.toArray := fun j hj => by
  rw [size_flatK] at hj;have hi : j / 2 < l.length := by simp at hj; omega
  obtain ⟨⟨c1, c2⟩, f1, f2⟩ := h (j / 2) hi;have e : l.toArray[j / 2]! = ed l (j / 2) := by rw [ed_at l _ hi]; simp [hi]
  rw [get_flatK encE 2 l.toArray j hj, e, Nat.zero_add];rcases Nat.mod_two_eq_zero_or_one j with q | q
  · have ej : j / 2 * 2 = j := by omega
    rw [ej] at c1 f1;rw [q];exact ⟨c1, f1⟩
  · have ej : j / 2 * 2 + 1 = j := by omega
    rw [ej] at c2 f2;rw [q];exact ⟨c2, f2⟩
theorem hold_of_K {w : World} {g : Nat} {d : Array (Int × Int)} (h : HoldsK encE 2 w g 0 d) : HoldE w g d.toList := fun i hi => by
  have hi' : i < d.size := by simpa using hi
  have e : d[(i * 2) / 2]! = ed d.toList i := by rw [show i * 2 / 2 = i by omega, ed_at _ _ hi]; simp [hi']
  have e' : d[(i * 2 + 1) / 2]! = ed d.toList i := by rw [show (i * 2 + 1) / 2 = i by omega, ed_at _ _ hi]; simp [hi']
  have h1 := h (i * 2) (by rw [size_flatK]; omega);have h2 := h (i * 2 + 1) (by rw [size_flatK]; omega);rw [get_flatK encE 2 d _ (by omega), e, Nat.zero_add, show i * 2 % 2 = 0 by omega] at h1;rw [get_flatK encE 2 d _ (by omega), e', Nat.zero_add, show (i * 2 + 1) % 2 = 1 by omega] at h2;exact ⟨⟨h1.1, h2.1⟩, h1.2, h2.2⟩
theorem sort_any (g cap : Nat) (l : List (Int × Int)) (w : World) (hH : HoldE w g l) (hg : g < w.heap.size) (hl : l.length ≤ 20000) :
    Calls Tryd.prog 55 #[.slice (some ⟨g, 0, none⟩) l.length cap, .func (.func 56) #[] #[]] w fun e w' => e = .returned (.tuple #[]) ∧ ∃ s, s.length = l.length ∧ WSrt s ∧ (∀ e, e ∈ s ↔ e ∈ l) ∧ HoldE w' g s ∧ Go.RowKit.Below g w w' ∧ g < w'.heap.size := by
  have eg : ∀ args w, (callFunc 56 args).run Tryd.prog w = .ok (.enter 56 args) w := enters_of Tryd.func56 (by kernel_rfl) rfl;refine (AnyQ.slices_SortFunc Tryd.laySort 2 Tryd.isAgg59 Tryd.sizeOf59 encE (fun _ => rfl) (fun x v hv => by simp [encE] at hv; rcases hv with rfl | rfl <;> rfl) cmpI swo 56 #[] g 0 cap l.toArray w eg (cmpLays g 0 _ w) (holdsK_of hH) hg (by simp; omega)).mono fun e w' hp => ?_;obtain ⟨he, d', n, os, hpm, hs, rfl⟩ := hp;have hsz : d'.size = l.length := by have := hpm.1; simpa using this
  refine ⟨he, d'.toList, by simpa using hsz, fun i j hij hj => ?_, fun e => ?_, hold_of_K (holdsK_sortWorldK_c encE 2 w g 0 l.toArray d' n os (holdsK_of hH) hg (by simpa using hsz)), below_grow (below_putRow (Go.RowKit.Below.refl g w) (Nat.le_refl _)) ?_ os, lt_sortWorldK encE 2 w g 0 n d' os hg⟩
  · have hj' : j < d'.size := by simpa using hj
    have := hs i j (Nat.zero_le _) hij (by simpa using (hsz ▸ hj'));rw [ltOf_cmp] at this;rw [ed_at _ _ hj, ed_at _ _ (by simp; omega)]
    simpa [hj', Nat.lt_trans hij hj'] using this
  · have hp := hpm.2.2;have e1 : (d'.extract 0 l.toArray.size).toList = d'.toList := by simp [← hsz]
    have e2 : (l.toArray.extract 0 l.toArray.size).toList = l := by simp
    rw [e1, e2] at hp;exact hp.mem_iff
  · have := lt_sortWorldK encE 2 w g 0 n d' #[] hg;rw [sortWorldK, grow_empty] at this;exact Nat.le_of_lt this
end Go.Proofs.YtaikghenimfjcaaDoor.Edg
end
section
namespace Go.Proofs.YtaikghenimfjcaaDoor.Edg
open Go Go.RowKit Go.Lib
theorem badB_iff (n : Int) (e : Int × Int) : badB n e = false ↔ (0 ≤ e.1 ∧ e.1 < n) ∧ (0 ≤ e.2 ∧ e.2 < n) := by
  unfold badB;simp only [Bool.or_eq_false_iff, decide_eq_false_iff_not];omega
set_option maxRecDepth 100000 in
set_option maxHeartbeats 2000000 in
theorem check_neg (n : Int) (A : Option Addr) (c : Nat) (xs : List (Int × Int)) (w : World) (h : n < 0) :
    Calls Tryd.prog 53 #[.int .i64 n, .slice A xs.length c] w fun e w' => e = .returned (faultV (-1) 10) ∧ w = w' := by
  refine Kn.calls Tryd.func53 rfl Tryd.ntmps53 rfl (.cons (t := 0) rfl (.cons (t := 1) rfl .nil)) fun fa0 fh0 => ?_;refine wp_seq_k fun K1 hK1 => ?_;refine wp_region_lit ?_;refine Kn.pure fh0 rfl rfl .none (Kn.ex_assign fh0 .const) fun fa1 fh1 => ?_;clear fh0 fa0;refine wpList_nil ?_;refine hK1 _ _ ?_;clear hK1 K1;refine wp_seq_k fun K2 hK2 => ?_;refine wp_seq_k fun K3 hK3 => ?_;refine wp_region_lit ?_;refine Kn.pure fh1 rfl rfl .none (Kn.ex_move fh1 (.tmp rfl)) fun fa2 fh2 => ?_;clear fh1 fa1;refine Kn.step fh2 rfl rfl .none (Kn.ex_bin fh2 (.tmp rfl) .const) fun Ko hKo => ?_;go_simp;(try go_bits);refine hKo _ _ fun fa3 fh3 => ?_;clear hKo Ko fh2 fa2;refine Kn.pure fh3 rfl rfl .none (Kn.ex_move fh3 (.tmp rfl)) fun fa4 fh4 => ?_;clear fh3 fa3;refine Kn.skip fh4 rfl rfl (.some rfl rfl rfl) fun fa5 fh5 => ?_;clear fh4 fa4;refine Kn.skip fh5 rfl rfl (.some rfl rfl rfl) fun fa6 fh6 => ?_;clear fh5 fa5;refine Kn.pure fh6 rfl rfl .none (Kn.ex_pick fh6 (.tmp rfl) .const) fun fa7 fh7 => ?_;clear fh6 fa6;refine wpList_nil ?_;refine hK3 _ _ ?_;clear hK3 K3;replace fh7 := fh7.cut (.cons (t := 12) rfl (.cons (t := 4) rfl (.cons (t := 0) rfl (.cons (t := 1) rfl .nil))));refine Kn.yes fh7 (.tmp rfl) ?_;replace fh7 := fh7.cut (.cons (t := 4) rfl (.cons (t := 0) rfl (.cons (t := 1) rfl .nil)));refine wp_seq_k fun K4 hK4 => ?_;refine wp_region_lit ?_;refine Kn.call fh7 rfl rfl .none (Kn.ex_call fh7 (.cons .const (.cons .const .nil))) Tryd.call62 (fault_any (-1) 10 w) fun e w1 hp => ?_;obtain ⟨rfl, rfl⟩ := hp;refine ⟨_, rfl, fun fa8 fh8 => ?_⟩;clear fh7 fa7;refine Kn.pure fh8 rfl rfl .none (Kn.ex_assign fh8 (.tmp rfl)) fun fa9 fh9 => ?_;clear fh8 fa8;refine wpList_nil ?_;refine hK4 _ _ ?_;clear hK4 K4;replace fh9 := fh9.cut (.cons (t := 4) rfl (.cons (t := 0) rfl (.cons (t := 1) rfl .nil)));refine wp_ret ?_;refine Kn.then_ret ?_;exact Kn.ret1 fh9 rfl rfl ⟨rfl, rfl⟩
set_option maxRecDepth 100000 in
set_option maxHeartbeats 2000000 in
theorem check_big (n : Int) (A : Option Addr) (c : Nat) (xs : List (Int × Int)) (w : World) (h : ¬ n < 0) (h2 : 4096 < n) :
    Calls Tryd.prog 53 #[.int .i64 n, .slice A xs.length c] w fun e w' => e = .returned (faultV (-1) 10) ∧ w = w' := by
  refine Kn.calls Tryd.func53 rfl Tryd.ntmps53 rfl (.cons (t := 0) rfl (.cons (t := 1) rfl .nil)) fun fa0 fh0 => ?_;refine wp_seq_k fun K1 hK1 => ?_;refine wp_region_lit ?_;refine Kn.pure fh0 rfl rfl .none (Kn.ex_assign fh0 .const) fun fa1 fh1 => ?_;clear fh0 fa0;refine wpList_nil ?_;refine hK1 _ _ ?_;clear hK1 K1;refine wp_seq_k fun K2 hK2 => ?_;refine wp_seq_k fun K3 hK3 => ?_;refine wp_region_lit ?_;refine Kn.pure fh1 rfl rfl .none (Kn.ex_move fh1 (.tmp rfl)) fun fa2 fh2 => ?_;clear fh1 fa1;refine Kn.step fh2 rfl rfl .none (Kn.ex_bin fh2 (.tmp rfl) .const) fun Ko hKo => ?_;go_simp;(try go_bits);refine hKo _ _ fun fa3 fh3 => ?_;clear hKo Ko fh2 fa2;refine Kn.pure fh3 rfl rfl .none (Kn.ex_move fh3 (.tmp rfl)) fun fa4 fh4 => ?_;clear fh3 fa3;refine Kn.pure fh4 rfl rfl (.some rfl rfl rfl) (Kn.ex_move fh4 (.tmp rfl)) fun fa5 fh5 => ?_;clear fh4 fa4;refine Kn.step fh5 rfl rfl (.some rfl rfl rfl) (Kn.ex_bin fh5 (.tmp rfl) .const) fun Ko hKo => ?_;go_simp;(try go_bits);refine hKo _ _ fun fa6 fh6 => ?_;clear hKo Ko fh5 fa5;refine Kn.pure fh6 rfl rfl .none (Kn.ex_pick fh6 (.tmp rfl) (.tmp rfl)) fun fa7 fh7 => ?_;clear fh6 fa6;refine wpList_nil ?_;refine hK3 _ _ ?_;clear hK3 K3;replace fh7 := fh7.cut (.cons (t := 12) rfl (.cons (t := 4) rfl (.cons (t := 0) rfl (.cons (t := 1) rfl .nil))));refine Kn.yes fh7 (.tmp rfl) ?_;replace fh7 := fh7.cut (.cons (t := 4) rfl (.cons (t := 0) rfl (.cons (t := 1) rfl .nil)));refine wp_seq_k fun K4 hK4 => ?_;refine wp_region_lit ?_;refine Kn.call fh7 rfl rfl .none (Kn.ex_call fh7 (.cons .const (.cons .const .nil))) Tryd.call62 (fault_any (-1) 10 w) fun e w1 hp => ?_;obtain ⟨rfl, rfl⟩ := hp;refine ⟨_, rfl, fun fa8 fh8 => ?_⟩;clear fh7 fa7;refine Kn.pure fh8 rfl rfl .none (Kn.ex_assign fh8 (.tmp rfl)) fun fa9 fh9 => ?_;clear fh8 fa8;refine wpList_nil ?_;refine hK4 _ _ ?_;clear hK4 K4;replace fh9 := fh9.cut (.cons (t := 4) rfl (.cons (t := 0) rfl (.cons (t := 1) rfl .nil)));refine wp_ret ?_;refine Kn.then_ret ?_;exact Kn.ret1 fh9 rfl rfl ⟨rfl, rfl⟩
set_option maxRecDepth 100000 in
set_option maxHeartbeats 2000000 in
theorem check_long (n : Int) (A : Option Addr) (c : Nat) (xs : List (Int × Int)) (w : World) (h : ¬ n < 0) (h2 : ¬ 4096 < n) (h3 : (20000 : Int) < (xs.length : Int)) (_h4 : 20000 < xs.length) :
    Calls Tryd.prog 53 #[.int .i64 n, .slice A xs.length c] w fun e w' => e = .returned (faultV (20000) 10) ∧ w = w' := by
  refine Kn.calls Tryd.func53 rfl Tryd.ntmps53 rfl (.cons (t := 0) rfl (.cons (t := 1) rfl .nil)) fun fa0 fh0 => ?_;refine wp_seq_k fun K1 hK1 => ?_;refine wp_region_lit ?_;refine Kn.pure fh0 rfl rfl .none (Kn.ex_assign fh0 .const) fun fa1 fh1 => ?_;clear fh0 fa0;refine wpList_nil ?_;refine hK1 _ _ ?_;clear hK1 K1;refine wp_seq_k fun K2 hK2 => ?_;refine wp_seq_k fun K3 hK3 => ?_;refine wp_region_lit ?_;refine Kn.pure fh1 rfl rfl .none (Kn.ex_move fh1 (.tmp rfl)) fun fa2 fh2 => ?_;clear fh1 fa1;refine Kn.step fh2 rfl rfl .none (Kn.ex_bin fh2 (.tmp rfl) .const) fun Ko hKo => ?_;go_simp;(try go_bits);refine hKo _ _ fun fa3 fh3 => ?_;clear hKo Ko fh2 fa2;refine Kn.pure fh3 rfl rfl .none (Kn.ex_move fh3 (.tmp rfl)) fun fa4 fh4 => ?_;clear fh3 fa3;refine Kn.pure fh4 rfl rfl (.some rfl rfl rfl) (Kn.ex_move fh4 (.tmp rfl)) fun fa5 fh5 => ?_;clear fh4 fa4;refine Kn.step fh5 rfl rfl (.some rfl rfl rfl) (Kn.ex_bin fh5 (.tmp rfl) .const) fun Ko hKo => ?_;go_simp;(try go_bits);refine hKo _ _ fun fa6 fh6 => ?_;clear hKo Ko fh5 fa5;refine Kn.pure fh6 rfl rfl .none (Kn.ex_pick fh6 (.tmp rfl) (.tmp rfl)) fun fa7 fh7 => ?_;clear fh6 fa6;refine wpList_nil ?_;refine hK3 _ _ ?_;clear hK3 K3;replace fh7 := fh7.cut (.cons (t := 12) rfl (.cons (t := 4) rfl (.cons (t := 0) rfl (.cons (t := 1) rfl .nil))));refine Kn.no fh7 (.tmp rfl) ?_;refine wp_skip ?_;refine hK2 _ _ ?_;clear hK2 K2;replace fh7 := fh7.cut (.cons (t := 4) rfl (.cons (t := 0) rfl (.cons (t := 1) rfl .nil)));refine wp_seq_k fun K4 hK4 => ?_;refine wp_seq_k fun K5 hK5 => ?_;refine wp_region_lit ?_;refine Kn.pure fh7 rfl rfl .none (Kn.ex_move fh7 (.tmp rfl)) fun fa8 fh8 => ?_;clear fh7 fa7;refine Kn.step fh8 rfl rfl .none (Kn.ex_len fh8 (.tmp rfl)) fun Ko hKo => ?_;go_simp;(try go_bits);refine hKo _ _ fun fa9 fh9 => ?_;clear hKo Ko fh8 fa8;refine Kn.step fh9 rfl rfl .none (Kn.ex_bin fh9 (.tmp rfl) .const) fun Ko hKo => ?_;go_simp;(try go_bits);refine hKo _ _ fun fa10 fh10 => ?_;clear hKo Ko fh9 fa9;refine wpList_nil ?_;refine hK5 _ _ ?_;clear hK5 K5;replace fh10 := fh10.cut (.cons (t := 16) rfl (.cons (t := 4) rfl (.cons (t := 0) rfl (.cons (t := 1) rfl .nil))));refine Kn.yes fh10 (.tmp rfl) ?_;replace fh10 := fh10.cut (.cons (t := 4) rfl (.cons (t := 0) rfl (.cons (t := 1) rfl .nil)));refine wp_seq_k fun K6 hK6 => ?_;refine wp_region_lit ?_;refine Kn.call fh10 rfl rfl .none (Kn.ex_call fh10 (.cons .const (.cons .const .nil))) Tryd.call62 (fault_any (20000) 10 w) fun e w1 hp => ?_;obtain ⟨rfl, rfl⟩ := hp;refine ⟨_, rfl, fun fa11 fh11 => ?_⟩;clear fh10 fa10;refine Kn.pure fh11 rfl rfl .none (Kn.ex_assign fh11 (.tmp rfl)) fun fa12 fh12 => ?_;clear fh11 fa11;refine wpList_nil ?_;refine hK6 _ _ ?_;clear hK6 K6;replace fh12 := fh12.cut (.cons (t := 4) rfl (.cons (t := 0) rfl (.cons (t := 1) rfl .nil)));refine wp_ret ?_;refine Kn.then_ret ?_;exact Kn.ret1 fh12 rfl rfl ⟨rfl, rfl⟩
set_option maxRecDepth 100000 in
set_option maxHeartbeats 2000000 in
theorem check_any (n : Int) (A : Option Addr) (c f : Nat) (xs : List (Int × Int)) (w : World) (h1 : ¬ n < 0) (h2 : ¬ 4096 < n) (h3 : ¬ 20000 < xs.length) (hA : EIn w A xs) (hG : ∀ i, i < f → badB n (ed xs i) = false) (hB : f < xs.length → badB n (ed xs f) = true) :
    Calls Tryd.prog 53 #[.int .i64 n, .slice A xs.length c] w fun e w' => e = .returned (if f < xs.length then faultV (f : Int) 10 else .nilIface) ∧ Below w.heap.size w w' := by
  have HA := Lib.hid hA;have HG := Lib.hid hG;have HH := Lib.hid hB;clear hA hG hB;have h4 : ¬ (20000 : Int) < (xs.length : Int) := by omega
  refine Kn.calls Tryd.func53 rfl Tryd.ntmps53 rfl (.cons (t := 0) rfl (.cons (t := 1) rfl .nil)) fun fa0 fh0 => ?_;refine wp_seq_k fun K1 hK1 => ?_;refine wp_region_lit ?_;refine Kn.pure fh0 rfl rfl .none (Kn.ex_assign fh0 .const) fun fa1 fh1 => ?_;clear fh0 fa0;refine wpList_nil ?_;refine hK1 _ _ ?_;clear hK1 K1;refine wp_seq_k fun K2 hK2 => ?_;refine wp_seq_k fun K3 hK3 => ?_;refine wp_region_lit ?_;refine Kn.pure fh1 rfl rfl .none (Kn.ex_move fh1 (.tmp rfl)) fun fa2 fh2 => ?_;clear fh1 fa1;refine Kn.step fh2 rfl rfl .none (Kn.ex_bin fh2 (.tmp rfl) .const) fun Ko hKo => ?_;go_simp;(try go_bits);refine hKo _ _ fun fa3 fh3 => ?_;clear hKo Ko fh2 fa2;refine Kn.pure fh3 rfl rfl .none (Kn.ex_move fh3 (.tmp rfl)) fun fa4 fh4 => ?_;clear fh3 fa3;refine Kn.pure fh4 rfl rfl (.some rfl rfl rfl) (Kn.ex_move fh4 (.tmp rfl)) fun fa5 fh5 => ?_;clear fh4 fa4;refine Kn.step fh5 rfl rfl (.some rfl rfl rfl) (Kn.ex_bin fh5 (.tmp rfl) .const) fun Ko hKo => ?_;go_simp;(try go_bits);refine hKo _ _ fun fa6 fh6 => ?_;clear hKo Ko fh5 fa5;refine Kn.pure fh6 rfl rfl .none (Kn.ex_pick fh6 (.tmp rfl) (.tmp rfl)) fun fa7 fh7 => ?_;clear fh6 fa6;refine wpList_nil ?_;refine hK3 _ _ ?_;clear hK3 K3;replace fh7 := fh7.cut (.cons (t := 12) rfl (.cons (t := 4) rfl (.cons (t := 0) rfl (.cons (t := 1) rfl .nil))));refine Kn.no fh7 (.tmp rfl) ?_;refine wp_skip ?_;refine hK2 _ _ ?_;clear hK2 K2;replace fh7 := fh7.cut (.cons (t := 4) rfl (.cons (t := 0) rfl (.cons (t := 1) rfl .nil)));refine wp_seq_k fun K4 hK4 => ?_;refine wp_seq_k fun K5 hK5 => ?_;refine wp_region_lit ?_;refine Kn.pure fh7 rfl rfl .none (Kn.ex_move fh7 (.tmp rfl)) fun fa8 fh8 => ?_;clear fh7 fa7;refine Kn.step fh8 rfl rfl .none (Kn.ex_len fh8 (.tmp rfl)) fun Ko hKo => ?_;go_simp;(try go_bits);refine hKo _ _ fun fa9 fh9 => ?_;clear hKo Ko fh8 fa8;refine Kn.step fh9 rfl rfl .none (Kn.ex_bin fh9 (.tmp rfl) .const) fun Ko hKo => ?_;go_simp;(try go_bits);refine hKo _ _ fun fa10 fh10 => ?_;clear hKo Ko fh9 fa9;refine wpList_nil ?_;refine hK5 _ _ ?_;clear hK5 K5;replace fh10 := fh10.cut (.cons (t := 16) rfl (.cons (t := 4) rfl (.cons (t := 0) rfl (.cons (t := 1) rfl .nil))));refine Kn.no fh10 (.tmp rfl) ?_;refine wp_skip ?_;refine hK4 _ _ ?_;clear hK4 K4;replace fh10 := fh10.cut (.cons (t := 4) rfl (.cons (t := 0) rfl (.cons (t := 1) rfl .nil)));refine wp_seq_k fun K6 hK6 => ?_;refine wp_seq_k fun K7 hK7 => ?_;refine wp_region_lit ?_;refine Kn.pure fh10 rfl rfl .none (Kn.ex_move fh10 (.tmp rfl)) fun fa11 fh11 => ?_;clear fh10 fa10;refine Kn.step fh11 rfl rfl .none (Kn.ex_len fh11 (.tmp rfl)) fun Ko hKo => ?_;go_simp;(try go_bits);refine hKo _ _ fun fa12 fh12 => ?_;clear hKo Ko fh11 fa11;refine Kn.pure fh12 rfl rfl .none (Kn.ex_move fh12 .const) fun fa13 fh13 => ?_;clear fh12 fa12;refine wpList_nil ?_;refine hK7 _ _ ?_;clear hK7 K7;replace fh13 := fh13.cut (.cons (t := 20) rfl (.cons (t := 19) rfl (.cons (t := 18) rfl (.cons (t := 4) rfl (.cons (t := 0) rfl .nil)))));refine wp_block ?_;refine Kn.loop (fun m fr u => ∃ (k : Nat), Kn.Kn 40 [(20, .int .i64 (k : Int)), (18, .slice A xs.length c), (19, .int .i64 (xs.length : Int)), (0, .int .i64 n)] fr ∧ k + m = xs.length ∧ k ≤ f ∧ Hid (Below w.heap.size w u)) xs.length ⟨0, fh13.cut (.cons (t := 20) rfl (.cons (t := 18) rfl (.cons (t := 19) rfl (.cons (t := 0) rfl .nil)))), by omega, by omega, Lib.hid (Below.refl _ _)⟩ ?_;clear fh13 fa13;intro m8 fa14 u hI Kl8 hKl8;obtain ⟨k, fh14, hk, hkf, HB⟩ := hI
  by_cases hlt : k < xs.length
  · have hlt0 := hlt;obtain ⟨ba, oa, rfl, -, ca1, ca2⟩ := (HA.out.on HB.out) k hlt0;clear hlt0;obtain ⟨x1, hx1⟩ : ∃ x, (ed xs k).1 = x := ⟨_, rfl⟩;obtain ⟨x2, hx2⟩ : ∃ x, (ed xs k).2 = x := ⟨_, rfl⟩;rw [hx1] at ca1;rw [hx2] at ca2;have HX : Hid (ed xs k = (x1, x2)) := Lib.hid (by rw [← hx1, ← hx2]);clear hx1 hx2;refine wp_seq_k fun K9 hK9 => ?_;refine wp_region_lit ?_;refine Kn.step fh14 rfl rfl .none (Kn.ex_bin fh14 (.tmp rfl) (.tmp rfl)) fun Ko hKo => ?_;go_simp;(try go_bits);refine hKo _ _ fun fa15 fh15 => ?_;clear hKo Ko fh14 fa14;refine wpList_nil ?_;refine hK9 _ _ ?_;clear hK9 K9;refine wp_seq_k fun K10 hK10 => ?_;refine Kn.yes fh15 (.tmp rfl) ?_;refine wp_skip ?_;refine hK10 _ _ ?_;clear hK10 K10;replace fh15 := fh15.cut (.cons (t := 20) rfl (.cons (t := 18) rfl (.cons (t := 19) rfl (.cons (t := 0) rfl .nil))));refine wp_seq_k fun K11 hK11 => ?_;refine wp_block ?_;refine wp_seq_k fun K12 hK12 => ?_;refine wp_region_lit ?_;refine Kn.pure fh15 rfl rfl .none (Kn.ex_move fh15 (.tmp rfl)) fun fa16 fh16 => ?_;clear fh15 fa15;refine Kn.step fh16 rfl rfl .none (Kn.ex_indexAddr fh16 (.tmp rfl) (.tmp rfl)) fun Ko hKo => ?_;go_simp;(try go_bits);refine hKo _ _ fun fa17 fh17 => ?_;clear hKo Ko fh16 fa16;refine Kn.step fh17 rfl rfl .none (Kn.ex_load fh17 (.tmp rfl)) fun Ko hKo => ?_;go_simp;(try go_bits);refine hKo _ _ fun fa18 fh18 => ?_;clear hKo Ko fh17 fa17;refine Kn.step fh18 rfl rfl .none Kn.ex_alloc fun Ko hKo => ?_;go_simp;(try go_bits);refine hKo _ _ fun fa19 fh19 => ?_;clear hKo Ko fh18 fa18;refine Kn.pure fh19 rfl rfl .none (Kn.ex_assign fh19 (.tmp rfl)) fun fa20 fh20 => ?_;clear fh19 fa19;refine Kn.stepU fh20 rfl .none (Kn.ex_store fh20 (.tmp rfl) (.tmp rfl)) fun Ko hKo => ?_;go_simp;(try go_bits);refine hKo _ ?_;clear hKo Ko;refine wpList_nil ?_;refine hK12 _ _ ?_;clear hK12 K12;replace fh20 := fh20.cut (.cons (t := 5) rfl (.cons (t := 6) rfl (.cons (t := 20) rfl (.cons (t := 18) rfl (.cons (t := 19) rfl (.cons (t := 0) rfl .nil))))))
    by_cases e1 : 0 ≤ x1 ∧ x1 < n
    · have q1 : (decide (0 ≤ x1) && decide (x1 < n)) = true := by rw [decide_eq_true e1.1, decide_eq_true e1.2]; rfl
      by_cases e2 : 0 ≤ x2 ∧ x2 < n
      · have q2 : (decide (0 ≤ x2) && decide (x2 < n)) = true := by rw [decide_eq_true e2.1, decide_eq_true e2.2]; rfl
        have hkf2 : k + 1 ≤ f := by
          rcases Nat.lt_or_ge k f with h | h
          · omega
          · have hfk : f = k := by omega
            have := HH.out (by omega);rw [hfk, HX.out] at this;have g : badB n (x1, x2) = false := (badB_iff _ _).2 ⟨e1, e2⟩;rw [g] at this;cases this
        clear e1 e2 hkf;refine wp_seq_k fun K13 hK13 => ?_;refine wp_region_lit ?_;refine Kn.pure fh20 rfl rfl .none (Kn.ex_move fh20 (.tmp rfl)) fun fa21 fh21 => ?_;clear fh20 fa20;refine Kn.step fh21 rfl rfl .none (Kn.ex_fieldAddr fh21 (.tmp rfl)) fun Ko hKo => ?_;go_simp;(try go_bits);refine hKo _ _ fun fa22 fh22 => ?_;clear hKo Ko fh21 fa21;refine Kn.step fh22 rfl rfl .none (Kn.ex_load fh22 (.tmp rfl)) fun Ko hKo => ?_;go_simp;(try go_bits);refine hKo _ _ fun fa23 fh23 => ?_;clear hKo Ko fh22 fa22;refine Kn.call fh23 rfl rfl .none (Kn.ex_call fh23 (.cons (.tmp rfl) (.cons (.tmp rfl) .nil))) Tryd.call63 (isNode_any n x1 _) fun e w1 hp => ?_;obtain ⟨rfl, rfl⟩ := hp;refine ⟨_, rfl, fun fa24 fh24 => ?_⟩;clear fh23 fa23;rw [q1] at fh24;refine Kn.step fh24 rfl rfl .none (Kn.ex_un fh24 (.tmp rfl)) fun Ko hKo => ?_;go_simp;(try go_bits);refine hKo _ _ fun fa25 fh25 => ?_;clear hKo Ko fh24 fa24;refine Kn.pure fh25 rfl rfl .none (Kn.ex_move fh25 (.tmp rfl)) fun fa26 fh26 => ?_;clear fh25 fa25;refine Kn.pure fh26 rfl rfl (.some rfl rfl rfl) (Kn.ex_move fh26 (.tmp rfl)) fun fa27 fh27 => ?_;clear fh26 fa26;refine Kn.step fh27 rfl rfl (.some rfl rfl rfl) (Kn.ex_fieldAddr fh27 (.tmp rfl)) fun Ko hKo => ?_;go_simp;(try go_bits);refine hKo _ _ fun fa28 fh28 => ?_;clear hKo Ko fh27 fa27;refine Kn.step fh28 rfl rfl (.some rfl rfl rfl) (Kn.ex_load fh28 (.tmp rfl)) fun Ko hKo => ?_;go_simp;(try go_bits);refine hKo _ _ fun fa29 fh29 => ?_;clear hKo Ko fh28 fa28;refine Kn.call fh29 rfl rfl (.some rfl rfl rfl) (Kn.ex_call fh29 (.cons (.tmp rfl) (.cons (.tmp rfl) .nil))) Tryd.call63 (isNode_any n x2 _) fun e w1 hp => ?_;obtain ⟨rfl, rfl⟩ := hp;refine ⟨_, rfl, fun fa30 fh30 => ?_⟩;clear fh29 fa29;rw [q2] at fh30;refine Kn.step fh30 rfl rfl (.some rfl rfl rfl) (Kn.ex_un fh30 (.tmp rfl)) fun Ko hKo => ?_;go_simp;(try go_bits);refine hKo _ _ fun fa31 fh31 => ?_;clear hKo Ko fh30 fa30;refine Kn.pure fh31 rfl rfl .none (Kn.ex_pick fh31 (.tmp rfl) (.tmp rfl)) fun fa32 fh32 => ?_;clear fh31 fa31;refine wpList_nil ?_;refine hK13 _ _ ?_;clear hK13 K13;replace fh32 := fh32.cut (.cons (t := 36) rfl (.cons (t := 5) rfl (.cons (t := 20) rfl (.cons (t := 18) rfl (.cons (t := 19) rfl (.cons (t := 0) rfl .nil))))));refine Kn.no fh32 (.tmp rfl) ?_;refine wp_skip ?_;refine Kn.block_normal ?_;refine hK11 _ _ ?_;clear hK11 K11;replace fh32 := fh32.cut (.cons (t := 20) rfl (.cons (t := 18) rfl (.cons (t := 19) rfl (.cons (t := 0) rfl .nil))));refine wp_region_lit ?_;refine Kn.step fh32 rfl rfl .none (Kn.ex_bin fh32 (.tmp rfl) .const) fun Ko hKo => ?_;go_simp;(try go_bits);refine hKo _ _ fun fa33 fh33 => ?_;clear hKo Ko fh32 fa32;refine Kn.pure fh33 rfl rfl .none (Kn.ex_move fh33 (.tmp rfl)) fun fa34 fh34 => ?_;clear fh33 fa33;refine wpList_nil ?_;replace fh34 := fh34.cut (.cons (t := 20) rfl (.cons (t := 18) rfl (.cons (t := 19) rfl (.cons (t := 0) rfl .nil))));exact hKl8 (m8 - 1) _ _ (by omega) ⟨k + 1, fh34.cut (.turn (t := 20) rfl (by go_num) (.cons (t := 18) rfl (.cons (t := 19) rfl (.cons (t := 0) rfl .nil)))), by omega, hkf2, Lib.hid (HB.out.alloc HB.out.size _)⟩
      · have q2 : (decide (0 ≤ x2) && decide (x2 < n)) = false := by simp only [Bool.and_eq_false_iff, decide_eq_false_iff_not]; omega
        have hfk : k = f := by
          rcases Nat.lt_or_ge k f with h | h
          · have := HG.out k h; rw [HX.out, badB_iff] at this; exact absurd this (by simp only; omega)
          · omega
        subst hfk;clear e1 e2 hkf;refine wp_seq_k fun K13 hK13 => ?_;refine wp_region_lit ?_;refine Kn.pure fh20 rfl rfl .none (Kn.ex_move fh20 (.tmp rfl)) fun fa21 fh21 => ?_;clear fh20 fa20;refine Kn.step fh21 rfl rfl .none (Kn.ex_fieldAddr fh21 (.tmp rfl)) fun Ko hKo => ?_;go_simp;(try go_bits);refine hKo _ _ fun fa22 fh22 => ?_;clear hKo Ko fh21 fa21;refine Kn.step fh22 rfl rfl .none (Kn.ex_load fh22 (.tmp rfl)) fun Ko hKo => ?_;go_simp;(try go_bits);refine hKo _ _ fun fa23 fh23 => ?_;clear hKo Ko fh22 fa22;refine Kn.call fh23 rfl rfl .none (Kn.ex_call fh23 (.cons (.tmp rfl) (.cons (.tmp rfl) .nil))) Tryd.call63 (isNode_any n x1 _) fun e w1 hp => ?_;obtain ⟨rfl, rfl⟩ := hp;refine ⟨_, rfl, fun fa24 fh24 => ?_⟩;clear fh23 fa23;rw [q1] at fh24;refine Kn.step fh24 rfl rfl .none (Kn.ex_un fh24 (.tmp rfl)) fun Ko hKo => ?_;go_simp;(try go_bits);refine hKo _ _ fun fa25 fh25 => ?_;clear hKo Ko fh24 fa24;refine Kn.pure fh25 rfl rfl .none (Kn.ex_move fh25 (.tmp rfl)) fun fa26 fh26 => ?_;clear fh25 fa25;refine Kn.pure fh26 rfl rfl (.some rfl rfl rfl) (Kn.ex_move fh26 (.tmp rfl)) fun fa27 fh27 => ?_;clear fh26 fa26;refine Kn.step fh27 rfl rfl (.some rfl rfl rfl) (Kn.ex_fieldAddr fh27 (.tmp rfl)) fun Ko hKo => ?_;go_simp;(try go_bits);refine hKo _ _ fun fa28 fh28 => ?_;clear hKo Ko fh27 fa27;refine Kn.step fh28 rfl rfl (.some rfl rfl rfl) (Kn.ex_load fh28 (.tmp rfl)) fun Ko hKo => ?_;go_simp;(try go_bits);refine hKo _ _ fun fa29 fh29 => ?_;clear hKo Ko fh28 fa28;refine Kn.call fh29 rfl rfl (.some rfl rfl rfl) (Kn.ex_call fh29 (.cons (.tmp rfl) (.cons (.tmp rfl) .nil))) Tryd.call63 (isNode_any n x2 _) fun e w1 hp => ?_;obtain ⟨rfl, rfl⟩ := hp;refine ⟨_, rfl, fun fa30 fh30 => ?_⟩;clear fh29 fa29;rw [q2] at fh30;refine Kn.step fh30 rfl rfl (.some rfl rfl rfl) (Kn.ex_un fh30 (.tmp rfl)) fun Ko hKo => ?_;go_simp;(try go_bits);refine hKo _ _ fun fa31 fh31 => ?_;clear hKo Ko fh30 fa30;refine Kn.pure fh31 rfl rfl .none (Kn.ex_pick fh31 (.tmp rfl) (.tmp rfl)) fun fa32 fh32 => ?_;clear fh31 fa31;refine wpList_nil ?_;refine hK13 _ _ ?_;clear hK13 K13;replace fh32 := fh32.cut (.cons (t := 36) rfl (.cons (t := 5) rfl (.cons (t := 20) rfl (.cons (t := 18) rfl (.cons (t := 19) rfl (.cons (t := 0) rfl .nil))))));refine Kn.yes fh32 (.tmp rfl) ?_;replace fh32 := fh32.cut (.cons (t := 5) rfl (.cons (t := 20) rfl (.cons (t := 18) rfl (.cons (t := 19) rfl (.cons (t := 0) rfl .nil)))));refine wp_seq_k fun K14 hK14 => ?_;refine wp_region_lit ?_;refine Kn.pure fh32 rfl rfl .none (Kn.ex_move fh32 (.tmp rfl)) fun fa33 fh33 => ?_;clear fh32 fa32;refine Kn.call fh33 rfl rfl .none (Kn.ex_call fh33 (.cons (.tmp rfl) (.cons .const .nil))) Tryd.call62 (fault_any k 10 _) fun e w1 hp => ?_;obtain ⟨rfl, rfl⟩ := hp;refine ⟨_, rfl, fun fa34 fh34 => ?_⟩;clear fh33 fa33;refine Kn.pure fh34 rfl rfl .none (Kn.ex_assign fh34 (.tmp rfl)) fun fa35 fh35 => ?_;clear fh34 fa34;refine wpList_nil ?_;refine hK14 _ _ ?_;clear hK14 K14;replace fh35 := fh35.cut (.cons (t := 4) rfl (.cons (t := 20) rfl (.cons (t := 18) rfl (.cons (t := 19) rfl (.cons (t := 0) rfl .nil)))));refine wp_ret ?_;refine Kn.block_ret ?_;refine Kn.then_ret ?_;refine Kn.then_ret ?_;refine Kn.block_ret ?_;refine Kn.then_ret ?_;exact Kn.ret1 fh35 rfl rfl ⟨by rw [if_pos hlt], HB.out.alloc HB.out.size _⟩
    · have q1 : (decide (0 ≤ x1) && decide (x1 < n)) = false := by simp only [Bool.and_eq_false_iff, decide_eq_false_iff_not]; omega
      have hfk : k = f := by
        rcases Nat.lt_or_ge k f with h | h
        · have := HG.out k h; rw [HX.out, badB_iff] at this; exact absurd this (by simp only; omega)
        · omega
      subst hfk;clear e1 hkf;refine wp_seq_k fun K13 hK13 => ?_;refine wp_region_lit ?_;refine Kn.pure fh20 rfl rfl .none (Kn.ex_move fh20 (.tmp rfl)) fun fa21 fh21 => ?_;clear fh20 fa20;refine Kn.step fh21 rfl rfl .none (Kn.ex_fieldAddr fh21 (.tmp rfl)) fun Ko hKo => ?_;go_simp;(try go_bits);refine hKo _ _ fun fa22 fh22 => ?_;clear hKo Ko fh21 fa21;refine Kn.step fh22 rfl rfl .none (Kn.ex_load fh22 (.tmp rfl)) fun Ko hKo => ?_;go_simp;(try go_bits);refine hKo _ _ fun fa23 fh23 => ?_;clear hKo Ko fh22 fa22;refine Kn.call fh23 rfl rfl .none (Kn.ex_call fh23 (.cons (.tmp rfl) (.cons (.tmp rfl) .nil))) Tryd.call63 (isNode_any n x1 _) fun e w1 hp => ?_;obtain ⟨rfl, rfl⟩ := hp;refine ⟨_, rfl, fun fa24 fh24 => ?_⟩;clear fh23 fa23;rw [q1] at fh24;refine Kn.step fh24 rfl rfl .none (Kn.ex_un fh24 (.tmp rfl)) fun Ko hKo => ?_;go_simp;(try go_bits);refine hKo _ _ fun fa25 fh25 => ?_;clear hKo Ko fh24 fa24;refine Kn.pure fh25 rfl rfl .none (Kn.ex_move fh25 (.tmp rfl)) fun fa26 fh26 => ?_;clear fh25 fa25;refine Kn.skip fh26 rfl rfl (.some rfl rfl rfl) fun fa27 fh27 => ?_;clear fh26 fa26;refine Kn.skip fh27 rfl rfl (.some rfl rfl rfl) fun fa28 fh28 => ?_;clear fh27 fa27;refine Kn.skip fh28 rfl rfl (.some rfl rfl rfl) fun fa29 fh29 => ?_;clear fh28 fa28;refine Kn.skip fh29 rfl rfl (.some rfl rfl rfl) fun fa30 fh30 => ?_;clear fh29 fa29;refine Kn.skip fh30 rfl rfl (.some rfl rfl rfl) fun fa31 fh31 => ?_;clear fh30 fa30;refine Kn.pure fh31 rfl rfl .none (Kn.ex_pick fh31 (.tmp rfl) .const) fun fa32 fh32 => ?_;clear fh31 fa31;refine wpList_nil ?_;refine hK13 _ _ ?_;clear hK13 K13;replace fh32 := fh32.cut (.cons (t := 36) rfl (.cons (t := 5) rfl (.cons (t := 20) rfl (.cons (t := 18) rfl (.cons (t := 19) rfl (.cons (t := 0) rfl .nil))))));refine Kn.yes fh32 (.tmp rfl) ?_;replace fh32 := fh32.cut (.cons (t := 5) rfl (.cons (t := 20) rfl (.cons (t := 18) rfl (.cons (t := 19) rfl (.cons (t := 0) rfl .nil)))));refine wp_seq_k fun K14 hK14 => ?_;refine wp_region_lit ?_;refine Kn.pure fh32 rfl rfl .none (Kn.ex_move fh32 (.tmp rfl)) fun fa33 fh33 => ?_;clear fh32 fa32;refine Kn.call fh33 rfl rfl .none (Kn.ex_call fh33 (.cons (.tmp rfl) (.cons .const .nil))) Tryd.call62 (fault_any k 10 _) fun e w1 hp => ?_;obtain ⟨rfl, rfl⟩ := hp;refine ⟨_, rfl, fun fa34 fh34 => ?_⟩;clear fh33 fa33;refine Kn.pure fh34 rfl rfl .none (Kn.ex_assign fh34 (.tmp rfl)) fun fa35 fh35 => ?_;clear fh34 fa34;refine wpList_nil ?_;refine hK14 _ _ ?_;clear hK14 K14;replace fh35 := fh35.cut (.cons (t := 4) rfl (.cons (t := 20) rfl (.cons (t := 18) rfl (.cons (t := 19) rfl (.cons (t := 0) rfl .nil)))));refine wp_ret ?_;refine Kn.block_ret ?_;refine Kn.then_ret ?_;refine Kn.then_ret ?_;refine Kn.block_ret ?_;refine Kn.then_ret ?_;exact Kn.ret1 fh35 rfl rfl ⟨by rw [if_pos hlt], HB.out.alloc HB.out.size _⟩
  · obtain rfl : k = xs.length := by omega
    refine wp_seq_k fun K9 hK9 => ?_;refine wp_region_lit ?_;refine Kn.step fh14 rfl rfl .none (Kn.ex_bin fh14 (.tmp rfl) (.tmp rfl)) fun Ko hKo => ?_;go_simp;(try go_bits);refine hKo _ _ fun fa15 fh15 => ?_;clear hKo Ko fh14 fa14;refine wpList_nil ?_;refine hK9 _ _ ?_;clear hK9 K9;refine wp_seq_k fun K10 hK10 => ?_;refine Kn.no fh15 (.tmp rfl) ?_;replace fh15 := fh15.cut (.cons (t := 20) rfl (.cons (t := 18) rfl (.cons (t := 19) rfl (.cons (t := 0) rfl .nil))));refine wp_exit ?_;refine Kn.then_exit ?_;clear hK10 K10;refine Kn.then_exit ?_;clear hKl8 Kl8;refine Kn.block_exit ?_;refine hK6 _ _ ?_;clear hK6 K6;replace fh15 := fh15.cut .nil;refine wp_seq_k fun K11 hK11 => ?_;refine wp_region_lit ?_;refine Kn.pure fh15 rfl rfl .none (Kn.ex_assign fh15 .const) fun fa16 fh16 => ?_;clear fh15 fa15;refine wpList_nil ?_;refine hK11 _ _ ?_;clear hK11 K11;refine wp_ret ?_;exact Kn.ret1 fh16 rfl rfl ⟨by rw [if_neg (by omega)], HB.out⟩
end Go.Proofs.YtaikghenimfjcaaDoor.Edg
end
section
namespace Go.Proofs.YtaikghenimfjcaaDoor.Edg
open Go Go.RowKit Go.Lib
theorem below_drewN (B : Nat) (w : World) (q : Nat) : Below B w (w.drewN q) := ⟨rfl, rfl, rfl, Nat.le_refl _, fun _ _ => rfl⟩
def CI (w u : World) (g : Nat) (l : List (Int × Int)) (p k a : Nat) : Prop := ∃ R, HoldE u g R ∧ R.length = l.length ∧ R.take a = ddk l (p + k) ∧ (∀ j, p + k ≤ j + 1 → j < l.length → ed R j = ed l j) ∧ Below g w u
section
variable {w u : World} {g : Nat} {l : List (Int × Int)} {p k a : Nat}
theorem CI.drew (h : CI w u g l p k a) : CI w u.drew g l p k a := by
  obtain ⟨R, h1, h2, h3, h4, h5⟩ := h;exact ⟨R, h1, h2, h3, h4, h5.drew⟩
theorem CI.start (h : HoldE w g l) (q : Nat) (hd : ddk l (p + 1) = l.take p) : CI w (w.drewN q) g l p 1 p := ⟨l, h, rfl, hd.symm, fun _ _ _ => rfl, below_drewN _ _ _⟩
theorem CI.at (h : CI w u g l p k a) (hk : p + k < l.length) : (u.cell? ⟨g, p * 2 + k * 2, none⟩ = some (.int .i64 (ed l (p + k)).1) ∧ u.cell? ⟨g, p * 2 + k * 2 + 1, none⟩ = some (.int .i64 (ed l (p + k)).2)) := by
  obtain ⟨R, h1, h2, h3, h4, h5⟩ := h;have := (h1 (p + k) (by omega)).1
  rwa [h4 (p + k) (by omega) hk, show (p + k) * 2 = p * 2 + k * 2 by omega] at this
theorem CI.prev (h : CI w u g l p k a) {j : Nat} (hj : k = j + 1) (hk : p + k < l.length) : (u.cell? ⟨g, p * 2 + j * 2, none⟩ = some (.int .i64 (ed l (p + j)).1) ∧ u.cell? ⟨g, p * 2 + j * 2 + 1, none⟩ = some (.int .i64 (ed l (p + j)).2)) := by
  obtain ⟨R, h1, h2, h3, h4, h5⟩ := h;have := (h1 (p + j) (by omega)).1
  rwa [h4 (p + j) (by omega) (by omega), show (p + j) * 2 = p * 2 + j * 2 by omega] at this
theorem CI.same (h : CI w u g l p k a) (h0 : 0 < p + k) (he : ed l (p + k) = ed l (p + k - 1)) : CI w u g l p (k + 1) a := by
  obtain ⟨R, h1, h2, h3, h4, h5⟩ := h;exact ⟨R, h1, h2, by rw [← Nat.add_assoc, ddk_same l (p + k) h0 he]; exact h3, fun j hj hl => h4 j (by omega) hl, h5⟩
theorem CI.store (h : CI w u g l p k a) (ha : a + 1 ≤ p + k) (hk : p + k < l.length) {x y : Int} (he : ed l (p + k) = (x, y)) (hne : ed l (p + k) ≠ ed l (p + k - 1)) :
    ∃ u', (Instr.storeAt 59 (.pointer (some ⟨g, a * 2, none⟩)) (.agg #[.int .i64 x, .int .i64 y])).run Tryd.prog u = .ok () u' ∧ CI w u' g l p (k + 1) (a + 1) := by
  obtain ⟨R, h1, h2, h3, h4, h5⟩ := h;obtain ⟨u', r, s1, s2, -⟩ := h1.store a (by omega) x y;refine ⟨u', r, R.set a (x, y), s1, by simp [h2], ?_, fun j hj hl => ?_, h5.trans (s2 _ (Nat.le_refl _))⟩
  · rw [← Nat.add_assoc, ddk_more l (p + k) (.inr hne), ← h3, he];have hR : a < R.length := by omega
    rw [take_ed _ _ (by simpa using hR), ed_set R a a (x, y) hR, if_pos rfl, List.take_set_of_le (Nat.le_refl _)]
  · rw [ed_set R a j (x, y) (by omega), if_neg (by omega)];exact h4 j (by omega) hl
theorem CI.len (h : CI w u g l p k a) (ha : a ≤ l.length) : a = (ddk l (p + k)).length := by
  obtain ⟨R, h1, h2, h3, h4, h5⟩ := h;rw [← h3]; simp; omega
theorem CI.clear (h : CI w u g l p k a) (ha : a < l.length) (c : Nat) (ty : TypeId) :
    ∃ u', (Builtin.clear_ #[22] ty #[.slice (some ⟨g, a * 2, none⟩) (l.length - a) c]).run Tryd.prog u = .ok (.tuple #[]) u' ∧ HoldE u' g (ddk l (p + k)) ∧ Below g w u' := by
  obtain ⟨R, h1, h2, h3, h4, h5⟩ := h;obtain ⟨u', r, s1, s2⟩ := h1.clear a c ty (by omega);rw [h2] at r;rw [h3] at s1;exact ⟨u', r, s1, h5.trans (s2 _ (Nat.le_refl _))⟩
end
end Go.Proofs.YtaikghenimfjcaaDoor.Edg
end
section
namespace Go.Proofs.YtaikghenimfjcaaDoor.Edg
open Go Go.RowKit Go.Lib
set_option maxRecDepth 100000 in
set_option maxHeartbeats 2000000 in
theorem compact_few (A : Option Addr) (n cap : Nat) (w : World) (h : (n : Int) < 2) (_h2 : n < 2) :
    Calls Tryd.prog 57 #[.slice A n cap] w fun e w' => e = .returned (.slice A n cap) ∧ w = w' := by
  refine Kn.calls Tryd.func57 rfl Tryd.ntmps57 rfl (.cons (t := 0) rfl .nil) fun fa0 fh0 => ?_;refine wp_seq_k fun K1 hK1 => ?_;refine wp_region_lit ?_;refine Kn.pure fh0 rfl rfl .none (Kn.ex_assign fh0 .const) fun fa1 fh1 => ?_;clear fh0 fa0;refine wpList_nil ?_;refine hK1 _ _ ?_;clear hK1 K1;refine wp_seq_k fun K2 hK2 => ?_;refine wp_seq_k fun K3 hK3 => ?_;refine wp_region_lit ?_;refine Kn.pure fh1 rfl rfl .none (Kn.ex_move fh1 (.tmp rfl)) fun fa2 fh2 => ?_;clear fh1 fa1;refine Kn.step fh2 rfl rfl .none (Kn.ex_len fh2 (.tmp rfl)) fun Ko hKo => ?_;go_simp;(try go_bits);refine hKo _ _ fun fa3 fh3 => ?_;clear hKo Ko fh2 fa2;refine Kn.step fh3 rfl rfl .none (Kn.ex_bin fh3 (.tmp rfl) .const) fun Ko hKo => ?_;go_simp;(try go_bits);refine hKo _ _ fun fa4 fh4 => ?_;clear hKo Ko fh3 fa3;refine wpList_nil ?_;refine hK3 _ _ ?_;clear hK3 K3;replace fh4 := fh4.cut (.cons (t := 8) rfl (.cons (t := 2) rfl (.cons (t := 0) rfl .nil)));refine Kn.yes fh4 (.tmp rfl) ?_;replace fh4 := fh4.cut (.cons (t := 2) rfl (.cons (t := 0) rfl .nil));refine wp_seq_k fun K4 hK4 => ?_;refine wp_region_lit ?_;refine Kn.pure fh4 rfl rfl .none (Kn.ex_move fh4 (.tmp rfl)) fun fa5 fh5 => ?_;clear fh4 fa4;refine Kn.pure fh5 rfl rfl .none (Kn.ex_assign fh5 (.tmp rfl)) fun fa6 fh6 => ?_;clear fh5 fa5;refine wpList_nil ?_;refine hK4 _ _ ?_;clear hK4 K4;replace fh6 := fh6.cut (.cons (t := 2) rfl (.cons (t := 0) rfl .nil));refine wp_ret ?_;refine Kn.then_ret ?_;exact Kn.ret1 fh6 rfl rfl ⟨rfl, rfl⟩
theorem sat_run {r : Result Value} {x : Value} {v : World} (H : Kn.Sat (fun y w' => y = x ∧ w' = v) r) : r = .ok x v := by
  cases r with
  | ok y w' => obtain ⟨rfl, rfl⟩ := H; rfl
  | halt y w' => exact H.elim
theorem sliceLE (g n cap a : Nat) (v : World) (h : a ≤ n) (_h2 : n ≤ cap) (h3 : a < cap) (_h4 : cap ≤ 9223372036854775807) : (Instr.sliceAt 22 (.slice (some ⟨g, 0, none⟩) n cap) (some (.int .i64 (a : Int))) none none).run Tryd.prog v = .ok (.slice (some ⟨g, a * 2, none⟩) (n - a) (cap - a)) v := by
  refine sat_run ?_;go_simp;(try go_bits);have h5 : ¬ cap = a := by omega
  simp [h5]
theorem ddk_one (l : List (Int × Int)) (h : 0 < l.length) : ddk l 1 = l.take 1 := by rw [ddk_more l 0 (.inl rfl), take_ed l 0 h]; rfl
set_option maxRecDepth 100000 in
set_option maxHeartbeats 2000000 in
theorem compact_any (g n cap : Nat) (l : List (Int × Int)) (w : World) (hn : n = l.length) (h2 : 2 ≤ n) (hcap : n ≤ cap) (hc : cap ≤ maxLen) (hH : HoldE w g l) (hbig : n ≤ 20000) :
    Calls Tryd.prog 57 #[.slice (some ⟨g, 0, none⟩) n cap] w fun e w' => ∃ n' c', n' = (ddk l n).length ∧ e = .returned (.slice (some ⟨g, 0, none⟩) n' c') ∧ HoldE w' g (ddk l n) ∧ Below g w w' := by
  have HH := Lib.hid hH;have HL := Lib.hid hn;clear hH hn;have h3 : ¬ (n : Int) < 2 := by omega
  have h4 : ¬ n < 2 := by omega
  unfold maxLen at hc;refine Kn.calls Tryd.func57 rfl Tryd.ntmps57 rfl (.cons (t := 0) rfl .nil) fun fa0 fh0 => ?_;refine wp_seq_k fun K1 hK1 => ?_;refine wp_region_lit ?_;refine Kn.pure fh0 rfl rfl .none (Kn.ex_assign fh0 .const) fun fa1 fh1 => ?_;clear fh0 fa0;refine wpList_nil ?_;refine hK1 _ _ ?_;clear hK1 K1;refine wp_seq_k fun K2 hK2 => ?_;refine wp_seq_k fun K3 hK3 => ?_;refine wp_region_lit ?_;refine Kn.pure fh1 rfl rfl .none (Kn.ex_move fh1 (.tmp rfl)) fun fa2 fh2 => ?_;clear fh1 fa1;refine Kn.step fh2 rfl rfl .none (Kn.ex_len fh2 (.tmp rfl)) fun Ko hKo => ?_;go_simp;(try go_bits);refine hKo _ _ fun fa3 fh3 => ?_;clear hKo Ko fh2 fa2;refine Kn.step fh3 rfl rfl .none (Kn.ex_bin fh3 (.tmp rfl) .const) fun Ko hKo => ?_;go_simp;(try go_bits);refine hKo _ _ fun fa4 fh4 => ?_;clear hKo Ko fh3 fa3;refine wpList_nil ?_;refine hK3 _ _ ?_;clear hK3 K3;replace fh4 := fh4.cut (.cons (t := 8) rfl (.cons (t := 2) rfl (.cons (t := 0) rfl .nil)));refine Kn.no fh4 (.tmp rfl) ?_;refine wp_skip ?_;refine hK2 _ _ ?_;clear hK2 K2;replace fh4 := fh4.cut (.cons (t := 2) rfl (.cons (t := 0) rfl .nil));refine wp_seq_k fun K4 hK4 => ?_;refine wp_seq_k fun K5 hK5 => ?_;refine wp_region_lit ?_;refine Kn.pure fh4 rfl rfl .none (Kn.ex_assign fh4 .const) fun fa5 fh5 => ?_;clear fh4 fa4;refine wpList_nil ?_;refine hK5 _ _ ?_;clear hK5 K5;refine wp_block ?_;refine Kn.loop (fun m fr u => ∃ (i j q : Nat), Kn.Kn 61 [(3, .int .i64 (i : Int)), (0, .slice (some ⟨g, 0, none⟩) n cap)] fr ∧ i + m = n ∧ i = j + 1 ∧ Hid (ddk l i = l.take i) ∧ u = w.drewN q) (n - 1) ⟨1, 0, 0, fh5.cut (.cons (t := 3) rfl (.cons (t := 0) rfl .nil)), by omega, rfl, Lib.hid (ddk_one l (by have hl := HL.out; omega)), rfl⟩ ?_;clear fh5 fa5;intro m6 fa6 u hI Kl6 hKl6;obtain ⟨i, j, q, fh6, him, hij, HD, rfl⟩ := hI
  by_cases hlt : i < n
  · obtain ⟨⟨ca1, ca2⟩, -⟩ := HH.out i (by have hl := HL.out; omega);obtain ⟨⟨cb1, cb2⟩, -⟩ := HH.out j (by have hl := HL.out; omega);obtain ⟨x1, hx1⟩ : ∃ x, (ed l i).1 = x := ⟨_, rfl⟩;obtain ⟨x2, hx2⟩ : ∃ x, (ed l i).2 = x := ⟨_, rfl⟩;obtain ⟨y1, hy1⟩ : ∃ x, (ed l j).1 = x := ⟨_, rfl⟩;obtain ⟨y2, hy2⟩ : ∃ x, (ed l j).2 = x := ⟨_, rfl⟩;rw [hx1] at ca1;rw [hx2] at ca2;rw [hy1] at cb1;rw [hy2] at cb2;have HX : Hid (ed l i = (x1, x2)) := Lib.hid (by rw [← hx1, ← hx2]);have HY : Hid (ed l j = (y1, y2)) := Lib.hid (by rw [← hy1, ← hy2]);clear hx1 hx2 hy1 hy2;have qs : (i : Int) - 1 = (j : Int) := by omega
    have hjn : j < n := by omega
    have HIJ := Lib.hid hij;clear hij;refine wp_seq_k fun K7 hK7 => ?_;refine wp_seq_k fun K8 hK8 => ?_;refine wp_region_lit ?_;refine Kn.pure fh6 rfl rfl .none (Kn.ex_move fh6 (.tmp rfl)) fun fa7 fh7 => ?_;clear fh6 fa6;refine Kn.pure fh7 rfl rfl .none (Kn.ex_move fh7 (.tmp rfl)) fun fa8 fh8 => ?_;clear fh7 fa7;refine Kn.step fh8 rfl rfl .none (Kn.ex_len fh8 (.tmp rfl)) fun Ko hKo => ?_;go_simp;(try go_bits);refine hKo _ _ fun fa9 fh9 => ?_;clear hKo Ko fh8 fa8;refine Kn.step fh9 rfl rfl .none (Kn.ex_bin fh9 (.tmp rfl) (.tmp rfl)) fun Ko hKo => ?_;go_simp;(try go_bits);refine hKo _ _ fun fa10 fh10 => ?_;clear hKo Ko fh9 fa9;refine wpList_nil ?_;refine hK8 _ _ ?_;clear hK8 K8;replace fh10 := fh10.cut (.cons (t := 13) rfl (.cons (t := 3) rfl (.cons (t := 0) rfl .nil)));refine Kn.yes fh10 (.tmp rfl) ?_;refine wp_skip ?_;refine hK7 _ _ ?_;clear hK7 K7;replace fh10 := fh10.cut (.cons (t := 3) rfl (.cons (t := 0) rfl .nil));refine wp_seq_k fun K9 hK9 => ?_;refine wp_block ?_
    by_cases e1 : (x1, x2) = (y1, y2)
    · have q1 : decide ((x1, x2) = (y1, y2)) = true := decide_eq_true e1;have HE : Hid (ed l i = ed l (i - 1)) := Lib.hid (by have := HIJ.out; rw [show i - 1 = j by omega, HX.out, HY.out, e1]);clear e1;refine wp_seq_k fun K10 hK10 => ?_;refine Kn.still (by kernel_rfl) (by kernel_rfl) ?_;refine Kn.spure fh10 rfl rfl .none (Kn.ex_move fh10 (.tmp rfl)) fun fa11 fh11 => ?_;clear fh10 fa10;refine Kn.spure fh11 rfl rfl .none (Kn.ex_move fh11 (.tmp rfl)) fun fa12 fh12 => ?_;clear fh11 fa11;refine Kn.sstep fh12 rfl rfl .none (Kn.ex_indexAddr fh12 (.tmp rfl) (.tmp rfl)) fun Ko hKo => ?_;go_simp;(try go_bits);refine hKo _ fun fa13 fh13 => ?_;clear hKo Ko fh12 fa12;refine Kn.sstep fh13 rfl rfl .none (Kn.ex_load fh13 (.tmp rfl)) fun Ko hKo => ?_;go_simp;(try go_bits);refine hKo _ fun fa14 fh14 => ?_;clear hKo Ko fh13 fa13;refine Kn.spure fh14 rfl rfl .none (Kn.ex_move fh14 (.tmp rfl)) fun fa15 fh15 => ?_;clear fh14 fa14;refine Kn.spure fh15 rfl rfl .none (Kn.ex_move fh15 (.tmp rfl)) fun fa16 fh16 => ?_;clear fh15 fa15;refine Kn.sstep fh16 rfl rfl .none (Kn.ex_bin fh16 (.tmp rfl) .const) fun Ko hKo => ?_;go_simp;(try go_bits);refine hKo _ fun fa17 fh17 => ?_;clear hKo Ko fh16 fa16;refine Kn.sstep fh17 rfl rfl .none (Kn.ex_indexAddr fh17 (.tmp rfl) (.tmp rfl)) fun Ko hKo => ?_;go_simp;(try go_bits);refine hKo _ fun fa18 fh18 => ?_;clear hKo Ko fh17 fa17;refine Kn.sstep fh18 rfl rfl .none (Kn.ex_load fh18 (.tmp rfl)) fun Ko hKo => ?_;go_simp;(try go_bits);refine hKo _ fun fa19 fh19 => ?_;clear hKo Ko fh18 fa18;refine Kn.sstep fh19 rfl rfl .none (Kn.ex_bin fh19 (.tmp rfl) (.tmp rfl)) fun Ko hKo => ?_;rw [eqlE, q1];refine hKo _ fun fa20 fh20 => ?_;clear hKo Ko fh19 fa19;refine wpStill_nil ?_;refine hK10 _ _ ?_;clear hK10 K10;replace fh20 := fh20.cut (.cons (t := 25) rfl (.cons (t := 3) rfl (.cons (t := 0) rfl .nil)));refine Kn.yes fh20 (.tmp rfl) ?_;replace fh20 := fh20.cut (.cons (t := 3) rfl (.cons (t := 0) rfl .nil));clear ca1 ca2 cb1 cb2 q1 HX HY qs;have HC0 : Hid (CI w (w.drewN (q + 1)) g l i 1 i) := Lib.hid (CI.start HH.out (q + 1) (by have := HIJ.out; rw [ddk_same l i (by omega) HE.out, HD.out]));clear HE HD;have hi1 : i ≤ n := by omega
      have hi2 : i ≤ cap := by omega
      obtain ⟨m2, hm2⟩ : ∃ x, n - i = x := ⟨_, rfl⟩;obtain ⟨c2, hc2⟩ : ∃ x, cap - i = x := ⟨_, rfl⟩;obtain ⟨p2, hp2⟩ : ∃ x, i * 2 = x := ⟨_, rfl⟩;have HM : Hid (i + m2 = n ∧ p2 = i * 2 ∧ i + c2 = cap) := Lib.hid (by omega);have hm3 : m2 ≤ 20000 := by omega
      refine wp_seq_k fun K11 hK11 => ?_;refine wp_region_lit ?_;refine Kn.pure fh20 rfl rfl .none (Kn.ex_move fh20 (.tmp rfl)) fun fa21 fh21 => ?_;clear fh20 fa20;refine Kn.pure fh21 rfl rfl .none (Kn.ex_move fh21 (.tmp rfl)) fun fa22 fh22 => ?_;clear fh21 fa21;refine Kn.step fh22 rfl rfl .none (Kn.ex_sliceL fh22 (.tmp rfl) (.tmp rfl)) fun Ko hKo => ?_;go_simp;(try go_bits);refine hKo _ _ fun fa23 fh23 => ?_;clear hKo Ko fh22 fa22;refine Kn.pure fh23 rfl rfl .none (Kn.ex_assign fh23 (.tmp rfl)) fun fa24 fh24 => ?_;clear fh23 fa23;refine wpList_nil ?_;refine hK11 _ _ ?_;clear hK11 K11;replace fh24 := fh24.cut (.cons (t := 4) rfl (.cons (t := 3) rfl (.cons (t := 0) rfl .nil)));refine wp_seq_k fun K12 hK12 => ?_;refine wp_seq_k fun K13 hK13 => ?_;refine wp_region_lit ?_;refine Kn.pure fh24 rfl rfl .none (Kn.ex_assign fh24 .const) fun fa25 fh25 => ?_;clear fh24 fa24;refine wpList_nil ?_;refine hK13 _ _ ?_;clear hK13 K13;refine wp_block ?_;refine Kn.loop (fun m fr u => ∃ (k j2 a : Nat), Kn.Kn 61 [(5, .int .i64 (k : Int)), (3, .int .i64 (a : Int)), (4, .slice (some ⟨g, p2, none⟩) m2 c2), (0, .slice (some ⟨g, 0, none⟩) n cap)] fr ∧ k + m = m2 ∧ k = j2 + 1 ∧ a + 1 ≤ i + k ∧ Hid (CI w u g l i k a)) (m2 - 1) ⟨1, 0, i, fh25.cut (.cons (t := 5) rfl (.cons (t := 3) rfl (.turn (t := 4) rfl (by rw [if_neg (by omega)]) (.cons (t := 0) rfl .nil)))), by omega, rfl, by omega, HC0⟩ ?_;clear fh25 fa25;intro m14 fa26 u hI Kl14 hKl14;obtain ⟨k, j2, a, fh26, hkm, hkj, hak, HC⟩ := hI;clear hm2 hc2 hp2 HC0
      by_cases hlt2 : k < m2
      · have hik : i + k < l.length := by have := HM.out.1; have := HL.out; omega
        obtain ⟨ca1, ca2⟩ := HC.out.at hik;obtain ⟨cb1, cb2⟩ := HC.out.prev hkj hik;rw [← HM.out.2.1] at ca1 ca2 cb1 cb2;obtain ⟨x3, hx3⟩ : ∃ x, (ed l (i + k)).1 = x := ⟨_, rfl⟩;obtain ⟨x4, hx4⟩ : ∃ x, (ed l (i + k)).2 = x := ⟨_, rfl⟩;obtain ⟨y3, hy3⟩ : ∃ x, (ed l (i + j2)).1 = x := ⟨_, rfl⟩;obtain ⟨y4, hy4⟩ : ∃ x, (ed l (i + j2)).2 = x := ⟨_, rfl⟩;rw [hx3] at ca1;rw [hx4] at ca2;rw [hy3] at cb1;rw [hy4] at cb2;have HX2 : Hid (ed l (i + k) = (x3, x4)) := Lib.hid (by rw [← hx3, ← hx4]);have HY2 : Hid (ed l (i + k - 1) = (y3, y4)) := Lib.hid (by rw [← hy3, ← hy4, show i + k - 1 = i + j2 by omega]);clear hx3 hx4 hy3 hy4;have qs : (k : Int) - 1 = (j2 : Int) := by omega
        have hj2 : j2 < m2 := by omega
        have HIK := Lib.hid hik;have HKJ := Lib.hid hkj;clear hik hkj;refine wp_seq_k fun K15 hK15 => ?_;refine wp_seq_k fun K16 hK16 => ?_;refine wp_region_lit ?_;refine Kn.pure fh26 rfl rfl .none (Kn.ex_move fh26 (.tmp rfl)) fun fa27 fh27 => ?_;clear fh26 fa26;refine Kn.pure fh27 rfl rfl .none (Kn.ex_move fh27 (.tmp rfl)) fun fa28 fh28 => ?_;clear fh27 fa27;refine Kn.step fh28 rfl rfl .none (Kn.ex_len fh28 (.tmp rfl)) fun Ko hKo => ?_;go_simp;(try go_bits);refine hKo _ _ fun fa29 fh29 => ?_;clear hKo Ko fh28 fa28;refine Kn.step fh29 rfl rfl .none (Kn.ex_bin fh29 (.tmp rfl) (.tmp rfl)) fun Ko hKo => ?_;go_simp;(try go_bits);refine hKo _ _ fun fa30 fh30 => ?_;clear hKo Ko fh29 fa29;refine wpList_nil ?_;refine hK16 _ _ ?_;clear hK16 K16;replace fh30 := fh30.cut (.cons (t := 32) rfl (.cons (t := 5) rfl (.cons (t := 3) rfl (.cons (t := 4) rfl (.cons (t := 0) rfl .nil)))));refine Kn.yes fh30 (.tmp rfl) ?_;refine wp_skip ?_;refine hK15 _ _ ?_;clear hK15 K15;replace fh30 := fh30.cut (.cons (t := 5) rfl (.cons (t := 3) rfl (.cons (t := 4) rfl (.cons (t := 0) rfl .nil))));refine wp_seq_k fun K17 hK17 => ?_;refine wp_block ?_
        by_cases e2 : (x3, x4) = (y3, y4)
        · have q2 : (!decide ((x3, x4) = (y3, y4))) = false := by simp only [e2, decide_true, Bool.not_true]
          have HC2 : Hid (CI w u.drew g l i (k + 1) a) := Lib.hid (HC.out.drew.same (by have := HKJ.out; omega) (by rw [HX2.out, HY2.out, e2]));clear e2;refine wp_seq_k fun K18 hK18 => ?_;refine Kn.still (by kernel_rfl) (by kernel_rfl) ?_;refine Kn.spure fh30 rfl rfl .none (Kn.ex_move fh30 (.tmp rfl)) fun fa31 fh31 => ?_;clear fh30 fa30;refine Kn.spure fh31 rfl rfl .none (Kn.ex_move fh31 (.tmp rfl)) fun fa32 fh32 => ?_;clear fh31 fa31;refine Kn.sstep fh32 rfl rfl .none (Kn.ex_indexAddr fh32 (.tmp rfl) (.tmp rfl)) fun Ko hKo => ?_;go_simp;(try go_bits);refine hKo _ fun fa33 fh33 => ?_;clear hKo Ko fh32 fa32;refine Kn.sstep fh33 rfl rfl .none (Kn.ex_load fh33 (.tmp rfl)) fun Ko hKo => ?_;go_simp;(try go_bits);refine hKo _ fun fa34 fh34 => ?_;clear hKo Ko fh33 fa33;refine Kn.spure fh34 rfl rfl .none (Kn.ex_move fh34 (.tmp rfl)) fun fa35 fh35 => ?_;clear fh34 fa34;refine Kn.spure fh35 rfl rfl .none (Kn.ex_move fh35 (.tmp rfl)) fun fa36 fh36 => ?_;clear fh35 fa35;refine Kn.sstep fh36 rfl rfl .none (Kn.ex_bin fh36 (.tmp rfl) .const) fun Ko hKo => ?_;go_simp;(try go_bits);refine hKo _ fun fa37 fh37 => ?_;clear hKo Ko fh36 fa36;refine Kn.sstep fh37 rfl rfl .none (Kn.ex_indexAddr fh37 (.tmp rfl) (.tmp rfl)) fun Ko hKo => ?_;go_simp;(try go_bits);refine hKo _ fun fa38 fh38 => ?_;clear hKo Ko fh37 fa37;refine Kn.sstep fh38 rfl rfl .none (Kn.ex_load fh38 (.tmp rfl)) fun Ko hKo => ?_;go_simp;(try go_bits);refine hKo _ fun fa39 fh39 => ?_;clear hKo Ko fh38 fa38;refine Kn.sstep fh39 rfl rfl .none (Kn.ex_bin fh39 (.tmp rfl) (.tmp rfl)) fun Ko hKo => ?_;rw [neqE, q2];refine hKo _ fun fa40 fh40 => ?_;clear hKo Ko fh39 fa39;refine wpStill_nil ?_;refine hK18 _ _ ?_;clear hK18 K18;replace fh40 := fh40.cut (.cons (t := 44) rfl (.cons (t := 5) rfl (.cons (t := 3) rfl (.cons (t := 4) rfl (.cons (t := 0) rfl .nil)))));refine Kn.no fh40 (.tmp rfl) ?_;refine wp_skip ?_;refine Kn.block_normal ?_;refine hK17 _ _ ?_;clear hK17 K17;replace fh40 := fh40.cut (.cons (t := 5) rfl (.cons (t := 3) rfl (.cons (t := 4) rfl (.cons (t := 0) rfl .nil))));refine wp_region_lit ?_;refine Kn.pure fh40 rfl rfl .none (Kn.ex_move fh40 (.tmp rfl)) fun fa41 fh41 => ?_;clear fh40 fa40;refine Kn.step fh41 rfl rfl .none (Kn.ex_bin fh41 (.tmp rfl) .const) fun Ko hKo => ?_;go_simp;(try go_bits);refine hKo _ _ fun fa42 fh42 => ?_;clear hKo Ko fh41 fa41;refine Kn.pure fh42 rfl rfl .none (Kn.ex_assign fh42 (.tmp rfl)) fun fa43 fh43 => ?_;clear fh42 fa42;refine wpList_nil ?_;replace fh43 := fh43.cut (.cons (t := 5) rfl (.cons (t := 3) rfl (.cons (t := 4) rfl (.cons (t := 0) rfl .nil))));exact hKl14 (m14 - 1) _ _ (by omega) ⟨k + 1, k, a, fh43.cut (.turn (t := 5) rfl (by go_num) (.cons (t := 3) rfl (.cons (t := 4) rfl (.cons (t := 0) rfl .nil)))), by omega, rfl, by omega, HC2⟩
        · have q2 : (!decide ((x3, x4) = (y3, y4))) = true := by simp only [e2, decide_false, Bool.not_false]
          obtain ⟨u2, hst, hC2⟩ := HC.out.drew.store hak HIK.out HX2.out (by rw [HX2.out, HY2.out]; exact e2);have HC2 := Lib.hid hC2;have han : a < n := by have := HIK.out; have := HL.out; omega
          clear e2 hC2;refine wp_seq_k fun K18 hK18 => ?_;refine Kn.still (by kernel_rfl) (by kernel_rfl) ?_;refine Kn.spure fh30 rfl rfl .none (Kn.ex_move fh30 (.tmp rfl)) fun fa31 fh31 => ?_;clear fh30 fa30;refine Kn.spure fh31 rfl rfl .none (Kn.ex_move fh31 (.tmp rfl)) fun fa32 fh32 => ?_;clear fh31 fa31;refine Kn.sstep fh32 rfl rfl .none (Kn.ex_indexAddr fh32 (.tmp rfl) (.tmp rfl)) fun Ko hKo => ?_;go_simp;(try go_bits);refine hKo _ fun fa33 fh33 => ?_;clear hKo Ko fh32 fa32;refine Kn.sstep fh33 rfl rfl .none (Kn.ex_load fh33 (.tmp rfl)) fun Ko hKo => ?_;go_simp;(try go_bits);refine hKo _ fun fa34 fh34 => ?_;clear hKo Ko fh33 fa33;refine Kn.spure fh34 rfl rfl .none (Kn.ex_move fh34 (.tmp rfl)) fun fa35 fh35 => ?_;clear fh34 fa34;refine Kn.spure fh35 rfl rfl .none (Kn.ex_move fh35 (.tmp rfl)) fun fa36 fh36 => ?_;clear fh35 fa35;refine Kn.sstep fh36 rfl rfl .none (Kn.ex_bin fh36 (.tmp rfl) .const) fun Ko hKo => ?_;go_simp;(try go_bits);refine hKo _ fun fa37 fh37 => ?_;clear hKo Ko fh36 fa36;refine Kn.sstep fh37 rfl rfl .none (Kn.ex_indexAddr fh37 (.tmp rfl) (.tmp rfl)) fun Ko hKo => ?_;go_simp;(try go_bits);refine hKo _ fun fa38 fh38 => ?_;clear hKo Ko fh37 fa37;refine Kn.sstep fh38 rfl rfl .none (Kn.ex_load fh38 (.tmp rfl)) fun Ko hKo => ?_;go_simp;(try go_bits);refine hKo _ fun fa39 fh39 => ?_;clear hKo Ko fh38 fa38;refine Kn.sstep fh39 rfl rfl .none (Kn.ex_bin fh39 (.tmp rfl) (.tmp rfl)) fun Ko hKo => ?_;rw [neqE, q2];refine hKo _ fun fa40 fh40 => ?_;clear hKo Ko fh39 fa39;refine wpStill_nil ?_;refine hK18 _ _ ?_;clear hK18 K18;replace fh40 := fh40.cut (.cons (t := 44) rfl (.cons (t := 5) rfl (.cons (t := 3) rfl (.cons (t := 4) rfl (.cons (t := 0) rfl .nil)))));refine Kn.yes fh40 (.tmp rfl) ?_;replace fh40 := fh40.cut (.cons (t := 5) rfl (.cons (t := 3) rfl (.cons (t := 4) rfl (.cons (t := 0) rfl .nil))));refine wp_seq_k fun K19 hK19 => ?_;refine wp_region_lit ?_;refine Kn.pure fh40 rfl rfl .none (Kn.ex_move fh40 (.tmp rfl)) fun fa41 fh41 => ?_;clear fh40 fa40;refine Kn.pure fh41 rfl rfl .none (Kn.ex_move fh41 (.tmp rfl)) fun fa42 fh42 => ?_;clear fh41 fa41;refine Kn.pure fh42 rfl rfl .none (Kn.ex_move fh42 (.tmp rfl)) fun fa43 fh43 => ?_;clear fh42 fa42;refine Kn.pure fh43 rfl rfl .none (Kn.ex_move fh43 (.tmp rfl)) fun fa44 fh44 => ?_;clear fh43 fa43;refine Kn.step fh44 rfl rfl .none (Kn.ex_indexAddr fh44 (.tmp rfl) (.tmp rfl)) fun Ko hKo => ?_;go_simp;(try go_bits);refine hKo _ _ fun fa45 fh45 => ?_;clear hKo Ko fh44 fa44;refine Kn.step fh45 rfl rfl .none (Kn.ex_load fh45 (.tmp rfl)) fun Ko hKo => ?_;go_simp;(try go_bits);refine hKo _ _ fun fa46 fh46 => ?_;clear hKo Ko fh45 fa45;refine Kn.step fh46 rfl rfl .none (Kn.ex_indexAddr fh46 (.tmp rfl) (.tmp rfl)) fun Ko hKo => ?_;go_simp;(try go_bits);refine hKo _ _ fun fa47 fh47 => ?_;clear hKo Ko fh46 fa46;refine Kn.stepU fh47 rfl .none (Kn.ex_store fh47 (.tmp rfl) (.tmp rfl)) fun Ko hKo => ?_;rw [hst];refine hKo _ ?_;clear hKo Ko;refine wpList_nil ?_;refine hK19 _ _ ?_;clear hK19 K19;replace fh47 := fh47.cut (.cons (t := 5) rfl (.cons (t := 3) rfl (.cons (t := 4) rfl (.cons (t := 0) rfl .nil))));clear hst q2;refine wp_region_lit ?_;refine Kn.pure fh47 rfl rfl .none (Kn.ex_move fh47 (.tmp rfl)) fun fa48 fh48 => ?_;clear fh47 fa47;refine Kn.step fh48 rfl rfl .none (Kn.ex_bin fh48 (.tmp rfl) .const) fun Ko hKo => ?_;go_simp;(try go_bits);refine hKo _ _ fun fa49 fh49 => ?_;clear hKo Ko fh48 fa48;refine Kn.pure fh49 rfl rfl .none (Kn.ex_assign fh49 (.tmp rfl)) fun fa50 fh50 => ?_;clear fh49 fa49;refine wpList_nil ?_;refine Kn.block_normal ?_;refine hK17 _ _ ?_;clear hK17 K17;replace fh50 := fh50.cut (.cons (t := 3) rfl (.cons (t := 5) rfl (.cons (t := 4) rfl (.cons (t := 0) rfl .nil))));refine wp_region_lit ?_;refine Kn.pure fh50 rfl rfl .none (Kn.ex_move fh50 (.tmp rfl)) fun fa51 fh51 => ?_;clear fh50 fa50;refine Kn.step fh51 rfl rfl .none (Kn.ex_bin fh51 (.tmp rfl) .const) fun Ko hKo => ?_;go_simp;(try go_bits);refine hKo _ _ fun fa52 fh52 => ?_;clear hKo Ko fh51 fa51;refine Kn.pure fh52 rfl rfl .none (Kn.ex_assign fh52 (.tmp rfl)) fun fa53 fh53 => ?_;clear fh52 fa52;refine wpList_nil ?_;replace fh53 := fh53.cut (.cons (t := 5) rfl (.cons (t := 3) rfl (.cons (t := 4) rfl (.cons (t := 0) rfl .nil))));exact hKl14 (m14 - 1) _ _ (by omega) ⟨k + 1, k, a + 1, fh53.cut (.turn (t := 5) rfl (by go_num) (.turn (t := 3) rfl (by go_num) (.cons (t := 4) rfl (.cons (t := 0) rfl .nil)))), by omega, rfl, by omega, HC2⟩
      · have hkm2 : i + k = l.length := by have := HM.out.1; have := HL.out; omega
        have han : a < l.length := by omega
        obtain ⟨u2, hcl, hH2, hB2⟩ := HC.out.clear han (cap - a) 0;have HLN := Lib.hid (HC.out.len (Nat.le_of_lt han));rw [hkm2] at HLN;rw [hkm2] at hH2;have hl := HL.out;rw [← hl] at hcl hH2 HLN han;have HH2 := Lib.hid hH2;have HB2 := Lib.hid hB2;have hsl := sliceLE g n cap a u (by omega) hcap (by omega) (by omega);have hac : a ≤ cap := by omega
        clear hl hkm2 hH2 hB2 hkj;obtain rfl : k = m2 := by omega
        refine wp_seq_k fun K15 hK15 => ?_;refine wp_seq_k fun K16 hK16 => ?_;refine wp_region_lit ?_;refine Kn.pure fh26 rfl rfl .none (Kn.ex_move fh26 (.tmp rfl)) fun fa27 fh27 => ?_;clear fh26 fa26;refine Kn.pure fh27 rfl rfl .none (Kn.ex_move fh27 (.tmp rfl)) fun fa28 fh28 => ?_;clear fh27 fa27;refine Kn.step fh28 rfl rfl .none (Kn.ex_len fh28 (.tmp rfl)) fun Ko hKo => ?_;go_simp;(try go_bits);refine hKo _ _ fun fa29 fh29 => ?_;clear hKo Ko fh28 fa28;refine Kn.step fh29 rfl rfl .none (Kn.ex_bin fh29 (.tmp rfl) (.tmp rfl)) fun Ko hKo => ?_;go_simp;(try go_bits);refine hKo _ _ fun fa30 fh30 => ?_;clear hKo Ko fh29 fa29;refine wpList_nil ?_;refine hK16 _ _ ?_;clear hK16 K16;replace fh30 := fh30.cut (.cons (t := 32) rfl (.cons (t := 5) rfl (.cons (t := 3) rfl (.cons (t := 4) rfl (.cons (t := 0) rfl .nil)))));refine Kn.no fh30 (.tmp rfl) ?_;replace fh30 := fh30.cut (.cons (t := 5) rfl (.cons (t := 3) rfl (.cons (t := 4) rfl (.cons (t := 0) rfl .nil))));refine wp_exit ?_;refine Kn.then_exit ?_;clear hK15 K15;refine Kn.then_exit ?_;clear hKl14 Kl14;refine Kn.block_exit ?_;refine hK12 _ _ ?_;clear hK12 K12;replace fh30 := fh30.cut (.cons (t := 3) rfl (.cons (t := 0) rfl .nil));refine wp_seq_k fun K17 hK17 => ?_;refine wp_region_lit ?_;refine Kn.pure fh30 rfl rfl .none (Kn.ex_move fh30 (.tmp rfl)) fun fa31 fh31 => ?_;clear fh30 fa30;refine Kn.pure fh31 rfl rfl .none (Kn.ex_move fh31 (.tmp rfl)) fun fa32 fh32 => ?_;clear fh31 fa31;refine Kn.known fh32 rfl rfl .none (Kn.ex_sliceL fh32 (.tmp rfl) (.tmp rfl)) hsl fun fa33 fh33 => ?_;clear fh32 fa32;refine Kn.known0 fh33 rfl .none (Kn.ex_clear fh33 (.cons (.tmp rfl) .nil)) hcl ?_;refine wpList_nil ?_;refine hK17 _ _ ?_;clear hK17 K17;replace fh33 := fh33.cut (.cons (t := 3) rfl (.cons (t := 0) rfl .nil));clear hsl hcl;refine wp_seq_k fun K18 hK18 => ?_;refine wp_region_lit ?_;refine Kn.pure fh33 rfl rfl .none (Kn.ex_move fh33 (.tmp rfl)) fun fa34 fh34 => ?_;clear fh33 fa33;refine Kn.pure fh34 rfl rfl .none (Kn.ex_move fh34 (.tmp rfl)) fun fa35 fh35 => ?_;clear fh34 fa34;refine Kn.step fh35 rfl rfl .none (Kn.ex_sliceH fh35 (.tmp rfl) (.tmp rfl)) fun Ko hKo => ?_;go_simp;(try go_bits);refine hKo _ _ fun fa36 fh36 => ?_;clear hKo Ko fh35 fa35;refine Kn.pure fh36 rfl rfl .none (Kn.ex_assign fh36 (.tmp rfl)) fun fa37 fh37 => ?_;clear fh36 fa36;refine wpList_nil ?_;refine hK18 _ _ ?_;clear hK18 K18;replace fh37 := fh37.cut (.cons (t := 2) rfl (.cons (t := 3) rfl (.cons (t := 0) rfl .nil)));refine wp_ret ?_;refine Kn.block_ret ?_;refine Kn.then_ret ?_;refine Kn.then_ret ?_;refine Kn.block_ret ?_;refine Kn.then_ret ?_;exact Kn.ret1 fh37 rfl rfl ⟨_, _, HLN.out, rfl, HH2.out, HB2.out⟩
    · have q1 : decide ((x1, x2) = (y1, y2)) = false := decide_eq_false e1;have HE : Hid (ddk l (i + 1) = l.take (i + 1)) := Lib.hid (by have := HIJ.out; have hl := HL.out; rw [ddk_more l i (.inr (by rw [show i - 1 = j by omega, HX.out, HY.out]; exact e1)), HD.out, take_ed l i (by omega)]);clear e1;refine wp_seq_k fun K10 hK10 => ?_;refine Kn.still (by kernel_rfl) (by kernel_rfl) ?_;refine Kn.spure fh10 rfl rfl .none (Kn.ex_move fh10 (.tmp rfl)) fun fa11 fh11 => ?_;clear fh10 fa10;refine Kn.spure fh11 rfl rfl .none (Kn.ex_move fh11 (.tmp rfl)) fun fa12 fh12 => ?_;clear fh11 fa11;refine Kn.sstep fh12 rfl rfl .none (Kn.ex_indexAddr fh12 (.tmp rfl) (.tmp rfl)) fun Ko hKo => ?_;go_simp;(try go_bits);refine hKo _ fun fa13 fh13 => ?_;clear hKo Ko fh12 fa12;refine Kn.sstep fh13 rfl rfl .none (Kn.ex_load fh13 (.tmp rfl)) fun Ko hKo => ?_;go_simp;(try go_bits);refine hKo _ fun fa14 fh14 => ?_;clear hKo Ko fh13 fa13;refine Kn.spure fh14 rfl rfl .none (Kn.ex_move fh14 (.tmp rfl)) fun fa15 fh15 => ?_;clear fh14 fa14;refine Kn.spure fh15 rfl rfl .none (Kn.ex_move fh15 (.tmp rfl)) fun fa16 fh16 => ?_;clear fh15 fa15;refine Kn.sstep fh16 rfl rfl .none (Kn.ex_bin fh16 (.tmp rfl) .const) fun Ko hKo => ?_;go_simp;(try go_bits);refine hKo _ fun fa17 fh17 => ?_;clear hKo Ko fh16 fa16;refine Kn.sstep fh17 rfl rfl .none (Kn.ex_indexAddr fh17 (.tmp rfl) (.tmp rfl)) fun Ko hKo => ?_;go_simp;(try go_bits);refine hKo _ fun fa18 fh18 => ?_;clear hKo Ko fh17 fa17;refine Kn.sstep fh18 rfl rfl .none (Kn.ex_load fh18 (.tmp rfl)) fun Ko hKo => ?_;go_simp;(try go_bits);refine hKo _ fun fa19 fh19 => ?_;clear hKo Ko fh18 fa18;refine Kn.sstep fh19 rfl rfl .none (Kn.ex_bin fh19 (.tmp rfl) (.tmp rfl)) fun Ko hKo => ?_;rw [eqlE, q1];refine hKo _ fun fa20 fh20 => ?_;clear hKo Ko fh19 fa19;refine wpStill_nil ?_;refine hK10 _ _ ?_;clear hK10 K10;replace fh20 := fh20.cut (.cons (t := 25) rfl (.cons (t := 3) rfl (.cons (t := 0) rfl .nil)));refine Kn.no fh20 (.tmp rfl) ?_;refine wp_skip ?_;refine Kn.block_normal ?_;refine hK9 _ _ ?_;clear hK9 K9;replace fh20 := fh20.cut (.cons (t := 3) rfl (.cons (t := 0) rfl .nil));refine wp_region_lit ?_;refine Kn.pure fh20 rfl rfl .none (Kn.ex_move fh20 (.tmp rfl)) fun fa21 fh21 => ?_;clear fh20 fa20;refine Kn.step fh21 rfl rfl .none (Kn.ex_bin fh21 (.tmp rfl) .const) fun Ko hKo => ?_;go_simp;(try go_bits);refine hKo _ _ fun fa22 fh22 => ?_;clear hKo Ko fh21 fa21;refine Kn.pure fh22 rfl rfl .none (Kn.ex_assign fh22 (.tmp rfl)) fun fa23 fh23 => ?_;clear fh22 fa22;refine wpList_nil ?_;replace fh23 := fh23.cut (.cons (t := 3) rfl (.cons (t := 0) rfl .nil));exact hKl6 (m6 - 1) _ _ (by omega) ⟨i + 1, i, q + 1, fh23.cut (.turn (t := 3) rfl (by go_num) (.cons (t := 0) rfl .nil)), by omega, rfl, HE, rfl⟩
  · obtain rfl : i = n := by omega
    refine wp_seq_k fun K7 hK7 => ?_;refine wp_seq_k fun K8 hK8 => ?_;refine wp_region_lit ?_;refine Kn.pure fh6 rfl rfl .none (Kn.ex_move fh6 (.tmp rfl)) fun fa7 fh7 => ?_;clear fh6 fa6;refine Kn.pure fh7 rfl rfl .none (Kn.ex_move fh7 (.tmp rfl)) fun fa8 fh8 => ?_;clear fh7 fa7;refine Kn.step fh8 rfl rfl .none (Kn.ex_len fh8 (.tmp rfl)) fun Ko hKo => ?_;go_simp;(try go_bits);refine hKo _ _ fun fa9 fh9 => ?_;clear hKo Ko fh8 fa8;refine Kn.step fh9 rfl rfl .none (Kn.ex_bin fh9 (.tmp rfl) (.tmp rfl)) fun Ko hKo => ?_;go_simp;(try go_bits);refine hKo _ _ fun fa10 fh10 => ?_;clear hKo Ko fh9 fa9;refine wpList_nil ?_;refine hK8 _ _ ?_;clear hK8 K8;replace fh10 := fh10.cut (.cons (t := 13) rfl (.cons (t := 3) rfl (.cons (t := 0) rfl .nil)));refine Kn.no fh10 (.tmp rfl) ?_;replace fh10 := fh10.cut (.cons (t := 3) rfl (.cons (t := 0) rfl .nil));refine wp_exit ?_;refine Kn.then_exit ?_;clear hK7 K7;refine Kn.then_exit ?_;clear hKl6 Kl6;refine Kn.block_exit ?_;refine hK4 _ _ ?_;clear hK4 K4;replace fh10 := fh10.cut (.cons (t := 0) rfl .nil);refine wp_seq_k fun K9 hK9 => ?_;refine wp_region_lit ?_;refine Kn.pure fh10 rfl rfl .none (Kn.ex_move fh10 (.tmp rfl)) fun fa11 fh11 => ?_;clear fh10 fa10;refine Kn.pure fh11 rfl rfl .none (Kn.ex_assign fh11 (.tmp rfl)) fun fa12 fh12 => ?_;clear fh11 fa11;refine wpList_nil ?_;refine hK9 _ _ ?_;clear hK9 K9;replace fh12 := fh12.cut (.cons (t := 2) rfl .nil);refine wp_ret ?_;exact Kn.ret1 fh12 rfl rfl ⟨i, cap, by have hl := HL.out; rw [HD.out, hl, List.take_length], rfl, by rw [HD.out]; exact (HH.out.take _), below_drewN _ _ _⟩
end Go.Proofs.YtaikghenimfjcaaDoor.Edg
end
