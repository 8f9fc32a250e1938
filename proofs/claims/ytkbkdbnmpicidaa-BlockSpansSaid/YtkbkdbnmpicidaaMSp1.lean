/- The blocks in which bytes lie are just those that have one of them (up to 2000 bytes). The law BlockSpans answers true for every input. No condition. -/
import Derived.IntWalk
import Derived.WalkKit
import Derived.StillTailTactics
import Derived.Deep.QuietTactic
import Derived.BigCall
import Derived.Lib.Hide
import Derived.Deep.LoopGhost
import Derived.Test.YtkbkdbnmpicidaaChecked
import Derived.Below
import Derived.Maps.AppendAt
import Derived.Deep.AppendLies
import Derived.Deep.Draws
import Derived.Lib.SmallJoins
import Derived.Laws.Rows
import Derived.Laws.Tables
import Derived.Laws.CopyOwn
import Derived.Laws.ResultCell
import Derived.OwnWalk
import Derived.Deep.MidRow
import Derived.Laws.OwnMore
import Derived.Lib.EndianMore
import Derived.Laws.IdiomCopy
import Derived.Deep.Upon
import Derived.Shelf.Pu.Clone
import Derived.Ground.NamesProg
import Derived.Shelf.Strings.OnBuilder
import Derived.Test.YtkbkdbnmpicidaaProg
import Derived.SliceStrings
import Derived.SizedLaws
import Derived.OpenShut
import Derived.Test.YtkbkdbnmpicidaaRows
import Derived.ProofKit
import Derived.ShutString
section
namespace Go.Proofs.Ytkbkdbnmpicidaa.Blk
def cntK (n : Nat) : Nat := (n + 63) / 64
def szK (n : Nat) (i : Int) : Nat := if 0 ≤ i ∧ i < (cntK n : Int) then min 64 (n - 64 * i.toNat) else 0
def ndA (f m : Nat) : Int := if m = 0 then 0 else ((f / 64 : Nat) : Int)
def ndB (f m : Nat) : Int := if m = 0 then -1 else (((f + m - 1) / 64 : Nat) : Int)
theorem szK_at {n k : Nat} (h : k < cntK n) : szK n (k : Int) = min 64 (n - 64 * k) := by
  unfold szK;rw [if_pos ⟨by omega, by omega⟩, Int.toNat_natCast]
theorem szK_step {n k : Nat} (h : k < cntK n) : min n (64 * k) + szK n (k : Int) = min n (64 * (k + 1)) := by
  rw [szK_at h];unfold cntK at h;omega
theorem spanK {n f m k : Nat} (h : k < cntK n) (hfm : f + m ≤ n) : (min n (64 * k) < f + m ∧ f < min n (64 * k) + szK n (k : Int) ∧ 0 < m) ↔ (ndA f m ≤ (k : Int) ∧ (k : Int) ≤ ndB f m) := by
  rw [szK_step h];unfold cntK at h;unfold ndA ndB
  by_cases hm : m = 0
  · subst hm;simp;omega
  · rw [if_neg hm, if_neg hm];omega
end Go.Proofs.Ytkbkdbnmpicidaa.Blk
end
section
namespace Go.Proofs.Ytkbkdbnmpicidaa.Kn
open Go
def find : List (Nat × Value) → Nat → Option Value
  | [], _ => none
  | (k, v) :: l, t => bif Nat.beq k t then some v else find l t
def nth : List Value → Nat → Option Value
  | [], _ => none
  | v :: l, t => match t with
    | 0 => some v
    | t + 1 => nth l t
theorem nth_eq : ∀ (l : List Value) (t : Nat), nth l t = l[t]?
  | [], t => by simp [nth]
  | v :: l, 0 => by simp [nth]
  | v :: l, t + 1 => by simp [nth, nth_eq l t]
structure Kn (n : Nat) (l : List (Nat × Value)) (a : Act) : Prop where
  defers : a.defers = []
  size : a.tmps.size = n
  get : ∀ t v, find l t = some v → a.eval (.tmp t) = v
inductive Val (l : List (Nat × Value)) : Operand → Value → Prop
  | tmp {t : Tmp} {v : Value} (h : find l t = some v) : Val l (.tmp t) v
  | const {v : Value} : Val l (.const v) v
  | global {g : Nat} : Val l (.global g) (.pointer (some ⟨g, 0, none⟩))
  | func {f : FuncId} : Val l (.func f) (.func (.func f) #[] #[])
inductive Vals (l : List (Nat × Value)) : List Operand → List Value → Prop
  | nil : Vals l [] []
  | cons {x : Operand} {v : Value} {xs : List Operand} {vs : List Value} (h : Val l x v) (t : Vals l xs vs) : Vals l (x :: xs) (v :: vs)
inductive Wants (ops : Array Oper) (l : List (Nat × Value)) : Option (Nat × Bool) → Bool → Prop
  | none : Wants ops l none true
  | some {j : Nat} {b c r : Bool} {d : Tmp} (h : (ops[j]?).bind (·.dst) = some d) (hv : find l d = some (.bool c)) (hr : (c == b) = r) : Wants ops l (some (j, b)) r
  | gone {j : Nat} {b : Bool} {d : Tmp} (h : (ops[j]?).bind (·.dst) = some d) (hv : find l d = some undef) : Wants ops l (some (j, b)) false
theorem beq_no {i j : Nat} (h : i ≠ j) : Nat.beq i j = false := by
  cases e : Nat.beq i j with
  | true => exact absurd (Nat.eq_of_beq_eq_true e) h
  | false => rfl
section
variable {P : Program} {n : Nat} {l : List (Nat × Value)} {a : Act} {ops : Array Oper} {Q : Exit → Act → World → Prop} {w : World} {rest : List Oper}
theorem Kn.val (h : Kn n l a) {x : Operand} {v : Value} (hv : Val l x v) : a.eval x = v := by
  cases hv with
  | tmp ht => exact h.get _ _ ht
  | const => rfl
  | global => rfl
  | func => rfl
theorem Kn.vals (h : Kn n l a) {xs : List Operand} {vs : List Value} (hv : Vals l xs vs) : xs.toArray.map a.eval = vs.toArray := by
  have : xs.map a.eval = vs := by
    induction hv with
    | nil => rfl
    | cons h1 _ ih => rw [List.map_cons, h.val h1, ih]
  rw [List.map_toArray, this]
theorem Kn.put (h : Kn n l a) {d : Tmp} (hd : Nat.blt d n = true) (v : Value) : Kn n ((d, v) :: l) (a.put (some d) v) := by
  have hd' : d < a.tmps.size := by rw [h.size]; exact Nat.le_of_ble_eq_true hd
  refine ⟨h.defers, by simp [Act.put, h.size], fun t u hu => ?_⟩
  by_cases e : d = t
  · subst e;rw [find, Nat.beq_refl] at hu;simp at hu;subst hu;simp [Act.put, Act.eval, hd']
  · rw [find, beq_no e] at hu;have := h.get t u (by simpa using hu);rw [← this];simp only [Act.put, Act.eval];rw [Array.getD_eq_getD_getElem?, Array.getD_eq_getD_getElem?, Array.getElem?_setIfInBounds_ne e]
theorem Kn.wants (h : Kn n l a) {o : Oper} {r : Bool} (hw : Wants ops l o.guard r) : Region.wanted o (yielded ops a.tmps) = r := by
  unfold Region.wanted;generalize o.guard = g at hw
  cases hw with
  | none => rfl
  | @some j b c r d hj hv hr =>
    have h1 := h.get _ _ hv
    have h2 : a.tmps[d]? = some (.bool c) := by
      simp only [Act.eval] at h1;rw [Array.getD_eq_getD_getElem?] at h1
      cases e : a.tmps[d]? with
      | none => rw [e] at h1; simp [undef] at h1
      | some u => rw [e] at h1; simp at h1; rw [h1]
    simp only [yielded, hj, Option.bind_some, h2];rw [← hr];cases c <;> cases b <;> rfl
  | @gone j b d hj hv =>
    have h1 := h.get _ _ hv
    have h2 : ∀ c, a.tmps[d]? ≠ some (.bool c) := fun c e => by
      simp only [Act.eval] at h1;rw [Array.getD_eq_getD_getElem?, e] at h1;simp [undef] at h1
    simp only [yielded, hj, Option.bind_some]
    cases e : a.tmps[d]? with
    | none => rfl
    | some u => cases u <;> first | rfl | exact absurd e (h2 _)
theorem Kn.nil (hd : a.defers = []) (hs : a.tmps.size = n) : Kn n [] a := ⟨hd, hs, fun t v h => by simp [find] at h⟩
def Sat (K : Value → World → Prop) : Result Value → Prop
  | .ok v w => K v w
  | .halt _ _ => False
@[go_sem] theorem sat_ok (K : Value → World → Prop) (v : Value) (w : World) : Sat K (.ok v w) = K v w := rfl
def SatU (K : World → Prop) : Result Unit → Prop
  | .ok _ w => K w
  | .halt _ _ => False
@[go_sem] theorem satU_ok (K : World → Prop) (v : Unit) (w : World) : SatU K (.ok v w) = K w := rfl
abbrev vl (s : Sem Value) : Sem Next := do pure (.value (← s))
abbrev ul (s : Sem Unit) : Sem Next := do s; pure .skip
section exec
variable {d : Option Tmp} {t : TypeId} {p : String} {af : Array Edge} {g : Option (Nat × Bool)} {x y z : Operand} {vx vy vz : Value}
theorem ex_move (h : Kn n l a) (hx : Val l x vx) : execOp a.eval ⟨d, .move x, t, p, af, g⟩ = vl (pure vx) := by simp only [execOp, h.val hx]; rfl
theorem ex_assign (h : Kn n l a) (hx : Val l x vx) : execOp a.eval ⟨d, .assign x, t, p, af, g⟩ = vl (pure vx) := by simp only [execOp, h.val hx]; rfl
theorem ex_pick {c : Operand} {b : Bool} {v : Value} (h : Kn n l a) (hc : Val l c (.bool b)) (hv : Val l (if b then x else y) v) : execOp a.eval ⟨d, .pick c x y, t, p, af, g⟩ = vl (pure v) := by
  have e : (if b then a.eval x else a.eval y) = v := by rw [← h.val hv]; cases b <;> rfl
  simp only [execOp, h.val hc]; rw [← e]; rfl
theorem ex_extract {i : Nat} {vs : Array Value} {v : Value} (h : Kn n l a) (hx : Val l x (.tuple vs)) (hi : vs[i]? = some v) : execOp a.eval ⟨d, .extract x i, t, p, af, g⟩ = vl (pure v) := by
  simp only [execOp, h.val hx, Instr.extract, hi]
theorem ex_bin {op : BinOp} {tx ty : TypeId} (h : Kn n l a) (hx : Val l x vx) (hy : Val l y vy) : execOp a.eval ⟨d, .binOp op tx x y ty, t, p, af, g⟩ = vl (do eqGuard op tx x y vx vy; binOp op tx vx vy) := by simp only [execOp, h.val hx, h.val hy]
theorem ex_un {op : UnOp} {tx : TypeId} (h : Kn n l a) (hx : Val l x vx) : execOp a.eval ⟨d, .unOp op tx x, t, p, af, g⟩ = vl (Op.unary op vx) := by simp only [execOp, h.val hx]
theorem ex_convert {ts td : TypeId} (h : Kn n l a) (hx : Val l x vx) : execOp a.eval ⟨d, .convert ts td x, t, p, af, g⟩ = vl (convert ts td vx) := by simp only [execOp, h.val hx]
theorem ex_alloc {e : TypeId} : execOp a.eval ⟨d, .alloc e, t, p, af, g⟩ = vl (Instr.alloc e true (.tuple #[])) := rfl
theorem ex_box {e : TypeId} (h : Kn n l a) (hx : Val l x vx) : execOp a.eval ⟨d, .box e x, t, p, af, g⟩ = vl (Instr.box e vx) := by simp only [execOp, h.val hx]
theorem ex_load {e : TypeId} (h : Kn n l a) (hx : Val l x vx) : execOp a.eval ⟨d, .load e x, t, p, af, g⟩ = vl (Instr.loadAt e vx) := by simp only [execOp, h.val hx]
theorem ex_store {e : TypeId} (h : Kn n l a) (hx : Val l x vx) (hy : Val l y vy) : execOp a.eval ⟨d, .store e x y, t, p, af, g⟩ = ul (Instr.storeAt e vx vy) := by simp only [execOp, h.val hx, h.val hy]
theorem ex_fieldAddr {e : TypeId} {f : Nat} (h : Kn n l a) (hx : Val l x vx) : execOp a.eval ⟨d, .fieldAddr e x f, t, p, af, g⟩ = vl (Instr.fieldAt e vx f) := by simp only [execOp, h.val hx]
theorem ex_field {e : TypeId} {f : Nat} (h : Kn n l a) (hx : Val l x vx) : execOp a.eval ⟨d, .field e x f, t, p, af, g⟩ = vl (Instr.field e vx f) := by simp only [execOp, h.val hx]
theorem ex_indexAddr {e : TypeId} (h : Kn n l a) (hx : Val l x vx) (hy : Val l y vy) : execOp a.eval ⟨d, .indexAddr e x y, t, p, af, g⟩ = vl (Instr.indexAt e vx vy) := by simp only [execOp, h.val hx, h.val hy]
theorem ex_index {e : TypeId} (h : Kn n l a) (hx : Val l x vx) (hy : Val l y vy) : execOp a.eval ⟨d, .index e x y, t, p, af, g⟩ = vl (Instr.index e vx vy) := by simp only [execOp, h.val hx, h.val hy]
theorem ex_makeSlice {e : TypeId} (h : Kn n l a) (hx : Val l x vx) (hy : Val l y vy) : execOp a.eval ⟨d, .makeSlice e x y, t, p, af, g⟩ = vl (Instr.makeSlice e vx vy) := by simp only [execOp, h.val hx, h.val hy]
theorem ex_makeInterface {e : TypeId} (h : Kn n l a) (hx : Val l x vx) : execOp a.eval ⟨d, .makeInterface e x, t, p, af, g⟩ = vl (Instr.makeInterface e vx) := by simp only [execOp, h.val hx]
theorem ex_slice0 {e : TypeId} (h : Kn n l a) (hx : Val l x vx) : execOp a.eval ⟨d, .slice e x none none none, t, p, af, g⟩ = vl (Instr.sliceAt e vx none none none) := by simp only [execOp, h.val hx, Option.map]
theorem ex_sliceL {e : TypeId} (h : Kn n l a) (hx : Val l x vx) (hy : Val l y vy) : execOp a.eval ⟨d, .slice e x (some y) none none, t, p, af, g⟩ = vl (Instr.sliceAt e vx (some vy) none none) := by simp only [execOp, h.val hx, h.val hy, Option.map]
theorem ex_sliceH {e : TypeId} (h : Kn n l a) (hx : Val l x vx) (hy : Val l y vy) : execOp a.eval ⟨d, .slice e x none (some y) none, t, p, af, g⟩ = vl (Instr.sliceAt e vx none (some vy) none) := by simp only [execOp, h.val hx, h.val hy, Option.map]
theorem ex_sliceLH {e : TypeId} (h : Kn n l a) (hx : Val l x vx) (hy : Val l y vy) (hz : Val l z vz) : execOp a.eval ⟨d, .slice e x (some y) (some z) none, t, p, af, g⟩ = vl (Instr.sliceAt e vx (some vy) (some vz) none) := by simp only [execOp, h.val hx, h.val hy, h.val hz, Option.map]
theorem ex_buildSlice {e : TypeId} {m : Nat} {ps : Array (Nat × Operand)} {us : List Value} (h : Kn n l a) (hx : Vals l (ps.toList.map (·.2)) us) : execOp a.eval ⟨d, .buildSlice e m ps, t, p, af, g⟩ = vl (Instr.buildSlice e m ((ps.toList.map (·.1)).zip us).toArray) := by
  have e1 : (ps.map fun (i, x) => (i, a.eval x)) = ((ps.toList.map (·.1)).zip us).toArray := by
    have := h.vals hx;rw [List.map_toArray] at this;have h2 : (ps.toList.map (·.2)).map a.eval = us := by simpa using this
    rw [← h2]
    apply Array.ext'
    simp only [Array.toList_map, List.map_map, List.zip_map'];exact List.map_congr_left fun p _ => rfl
  simp only [execOp, e1]
theorem ex_build {e : TypeId} {ps : Array (Nat × Operand)} {us : List Value} (h : Kn n l a) (hx : Vals l (ps.toList.map (·.2)) us) : execOp a.eval ⟨d, .build e ps, t, p, af, g⟩ = vl (Instr.build e ((ps.toList.map (·.1)).zip us).toArray) := by
  have e1 : (ps.map fun (i, x) => (i, a.eval x)) = ((ps.toList.map (·.1)).zip us).toArray := by
    have := h.vals hx;rw [List.map_toArray] at this;have h2 : (ps.toList.map (·.2)).map a.eval = us := by simpa using this
    rw [← h2]
    apply Array.ext'
    simp only [Array.toList_map, List.map_map, List.zip_map'];exact List.map_congr_left fun p _ => rfl
  simp only [execOp, e1]
theorem ex_len {ats : Array TypeId} (h : Kn n l a) (hx : Val l x vx) : execOp a.eval ⟨d, .call { callee := .builtin .len, args := #[x], argTypes := ats }, t, p, af, g⟩ = vl (Builtin.len_ ats t #[vx]) := by
  rw [BigFrame.execOp_builtin, BigFrame.builtin_len]; simp [h.val hx]
theorem ex_min {ats : Array TypeId} {xs : Array Operand} {us : List Value} (h : Kn n l a) (hx : Vals l xs.toList us) : execOp a.eval ⟨d, .call { callee := .builtin .min, args := xs, argTypes := ats }, t, p, af, g⟩ = vl (Builtin.min_ ats t us.toArray) := by
  rw [BigFrame.execOp_builtin, BigFrame.builtin_min, show xs.map a.eval = us.toArray by have := h.vals hx; rwa [Array.toArray_toList] at this]
theorem ex_append {ats : Array TypeId} {xs : Array Operand} {us : List Value} (h : Kn n l a) (hx : Vals l xs.toList us) : execOp a.eval ⟨d, .call { callee := .builtin .append, args := xs, argTypes := ats }, t, p, af, g⟩ = vl (Builtin.append_ ats t us.toArray) := by
  rw [BigFrame.execOp_builtin, BigFrame.builtin_append, show xs.map a.eval = us.toArray by have := h.vals hx; rwa [Array.toArray_toList] at this]
theorem ex_copy {ats : Array TypeId} {xs : Array Operand} {us : List Value} (h : Kn n l a) (hx : Vals l xs.toList us) : execOp a.eval ⟨d, .call { callee := .builtin .copy, args := xs, argTypes := ats }, t, p, af, g⟩ = vl (Builtin.copy_ ats t us.toArray) := by
  rw [BigFrame.execOp_builtin, BigFrame.builtin_copy, show xs.map a.eval = us.toArray by have := h.vals hx; rwa [Array.toArray_toList] at this]
theorem ex_max {ats : Array TypeId} {xs : Array Operand} {us : List Value} (h : Kn n l a) (hx : Vals l xs.toList us) : execOp a.eval ⟨d, .call { callee := .builtin .max, args := xs, argTypes := ats }, t, p, af, g⟩ = vl (Builtin.max_ ats t us.toArray) := by
  rw [BigFrame.execOp_builtin, BigFrame.builtin_max, show xs.map a.eval = us.toArray by have := h.vals hx; rwa [Array.toArray_toList] at this]
theorem ex_lookup {e : TypeId} {ok : Bool} (h : Kn n l a) (hx : Val l x vx) (hy : Val l y vy) : execOp a.eval ⟨d, .lookup e x y ok, t, p, af, g⟩ = vl (Instr.lookup e vx vy ok) := by simp only [execOp, h.val hx, h.val hy]
theorem ex_call {f : FuncId} {xs : Array Operand} {us : List Value} {ats : Array TypeId} (h : Kn n l a) (hx : Vals l xs.toList us) : execOp a.eval ⟨d, .call { callee := .value (.func f), args := xs, argTypes := ats }, t, p, af, g⟩ = callFunc f us.toArray := by
  have e : xs.map a.eval = us.toArray := by have := h.vals hx; rwa [Array.toArray_toList] at this
  rw [execOp_call_go, e]; simp
end exec
def Nx (P : Program) (n : Nat) (l : List (Nat × Value)) (ops : Array Oper) (Q : Exit → Act → World → Prop) (rest : List Oper) (d : Tmp) (v : Value) (w : World) : Prop := ∀ a, Kn n ((d, v) :: l) a → wpList P ops Q rest a w
theorem run_value (s : Sem Value) (w : World) (K : Act → World → Prop) (o : Oper) (a : Act) (H : Sat (fun v w' => K (a.put o.dst v) w') (s.run P w)) (he : execOp a.eval o = vl s) : o.wp P a w K Q := by
  unfold Oper.wp;rw [he]
  cases hs : s.run P w with
  | ok v w' =>
    rw [hs] at H;simp [go_sem, hs];exact H
  | halt x w' => rw [hs] at H; exact H.elim
theorem step {o : Oper} {d : Tmp} {s : Sem Value} (h : Kn n l a) (hd : o.dst = some d) (hdn : Nat.blt d n = true) (hw : Wants ops l o.guard true) (he : execOp a.eval o = vl s)
    (H : ∀ K : Value → World → Prop, (∀ v w', Nx P n l ops Q rest d v w' → K v w') → Sat K (s.run P w)) : wpList P ops Q (o :: rest) a w := by
  refine wpList_step fun K hK => ?_;rw [h.wants hw, if_pos rfl];refine run_value s w K o a (H _ fun v w' hn => ?_) he;rw [hd];exact hK _ _ (hn _ (h.put hdn v))
theorem pure {o : Oper} {d : Tmp} {v : Value} (h : Kn n l a) (hd : o.dst = some d) (hdn : Nat.blt d n = true) (hw : Wants ops l o.guard true) (he : execOp a.eval o = vl (.pure v))
    (H : Nx P n l ops Q rest d v w) : wpList P ops Q (o :: rest) a w := step h hd hdn hw he fun _ hK => hK _ _ H
theorem known {o : Oper} {d : Tmp} {s : Sem Value} {v : Value} {w' : World} (h : Kn n l a) (hd : o.dst = some d) (hdn : Nat.blt d n = true) (hw : Wants ops l o.guard true) (he : execOp a.eval o = vl s)
    (hr : s.run P w = .ok v w') (H : Nx P n l ops Q rest d v w') : wpList P ops Q (o :: rest) a w := step h hd hdn hw he fun _ hK => by rw [hr]; exact hK _ _ H
theorem stepU {o : Oper} {s : Sem Unit} (h : Kn n l a) (hd : o.dst = none) (hw : Wants ops l o.guard true) (he : execOp a.eval o = ul s)
    (H : ∀ K : World → Prop, (∀ w', wpList P ops Q rest a w' → K w') → SatU K (s.run P w)) : wpList P ops Q (o :: rest) a w := by
  refine wpList_step fun K hK => ?_;rw [h.wants hw, if_pos rfl];unfold Oper.wp;rw [he];have := H _ fun w' hn => hK a w' hn
  cases hs : s.run P w with
  | ok v w' =>
    rw [hs] at this;simp [go_sem, hs, hd, Act.put];exact this
  | halt x w' => rw [hs] at this; exact this.elim
theorem skip {o : Oper} {d : Tmp} (h : Kn n l a) (hd : o.dst = some d) (hdn : Nat.blt d n = true) (hw : Wants ops l o.guard false) (H : Nx P n l ops Q rest d undef w) : wpList P ops Q (o :: rest) a w := by
  refine wpList_step fun K hK => ?_;rw [h.wants hw, if_neg (by simp), hd];exact hK _ _ (H _ (h.put hdn _))
theorem call {o : Oper} {d : Tmp} {f : FuncId} {args : Array Value} {R : Ending → World → Prop} (h : Kn n l a) (hd : o.dst = some d) (hdn : Nat.blt d n = true) (hw : Wants ops l o.guard true) (he : execOp a.eval o = callFunc f args)
    (hc : ∀ (args : Array Value) (w : World), (callFunc f args).run P w = .ok (.enter f args) w) (hR : Calls P f args w R)
    (H : ∀ e w', R e w' → ∃ v, e = .returned v ∧ Nx P n l ops Q rest d v w') : wpList P ops Q (o :: rest) a w := by
  refine wpList_step fun K hK => ?_;rw [h.wants hw, if_pos rfl];unfold Oper.wp;rw [he, hc];refine hR.mono fun e w' hr => ?_;obtain ⟨v, rfl, hn⟩ := H e w' hr;show K (a.put o.dst v) w';rw [hd];exact hK _ _ (hn _ (h.put hdn v))
def NxS (P : Program) (n : Nat) (l : List (Nat × Value)) (ops : Array Oper) (w : World) (Q : Act → Prop) (rest : List Oper) (d : Tmp) (v : Value) : Prop := ∀ a, Kn n ((d, v) :: l) a → wpStill P ops w Q rest a
theorem sstep {Q : Act → Prop} {o : Oper} {d : Tmp} {s : Sem Value} (h : Kn n l a) (hd : o.dst = some d) (hdn : Nat.blt d n = true) (hw : Wants ops l o.guard true) (he : execOp a.eval o = vl s)
    (H : ∀ K : Value → World → Prop, (∀ v, NxS P n l ops w Q rest d v → K v w) → Sat K (s.run P w)) : wpStill P ops w Q (o :: rest) a := by
  refine wpStill_step fun K hK => ?_;rw [h.wants hw, if_pos rfl];have H1 := H (fun v w' => w' = w ∧ K (a.put o.dst v)) fun v hn => ⟨rfl, by rw [hd]; exact hK _ (hn _ (h.put hdn v))⟩;unfold Oper.still;rw [he]
  cases hs : s.run P w with
  | ok v w' =>
    rw [hs] at H1;simp [go_sem, hs];exact H1
  | halt x w' => rw [hs] at H1; exact H1.elim
theorem spure {Q : Act → Prop} {o : Oper} {d : Tmp} {v : Value} (h : Kn n l a) (hd : o.dst = some d) (hdn : Nat.blt d n = true) (hw : Wants ops l o.guard true) (he : execOp a.eval o = vl (.pure v))
    (H : NxS P n l ops w Q rest d v) : wpStill P ops w Q (o :: rest) a := sstep h hd hdn hw he fun _ hK => hK _ H
theorem sskip {Q : Act → Prop} {o : Oper} {d : Tmp} (h : Kn n l a) (hd : o.dst = some d) (hdn : Nat.blt d n = true) (hw : Wants ops l o.guard false) (H : NxS P n l ops w Q rest d undef) : wpStill P ops w Q (o :: rest) a := by
  refine wpStill_step fun K hK => ?_;rw [h.wants hw, if_neg (by simp), hd];exact hK _ (H _ (h.put hdn _))
theorem scall {Q : Act → Prop} {o : Oper} {d : Tmp} {f : FuncId} {args : Array Value} {v : Value} (h : Kn n l a) (hd : o.dst = some d) (hdn : Nat.blt d n = true) (hw : Wants ops l o.guard true) (he : execOp a.eval o = callFunc f args)
    (hc : ∀ (args : Array Value) (w : World), (callFunc f args).run P w = .ok (.enter f args) w) (hR : Calls P f args w fun e w' => e = .returned v ∧ w = w')
    (H : NxS P n l ops w Q rest d v) : wpStill P ops w Q (o :: rest) a := by
  refine wpStill_step fun K hK => ?_;rw [h.wants hw, if_pos rfl];unfold Oper.still;rw [he, hc];exact ⟨rfl, v, hR.mono fun _ _ ⟨h1, h2⟩ => ⟨h1, h2.symm⟩, by rw [hd]; exact hK _ (H _ (h.put hdn v))⟩
theorem still {id : Nat} {ops : List Oper} (hm : P.follows .mixedOrders = true) (hB : Region.lexB .any ops.toArray = true) (h : wpStill P ops.toArray w.drew (fun a' => Q .normal a' w.drew) ops a) : (Code.region id ops.toArray true).wp P Q a w :=
  wp_region_still_lit hm hB h
inductive Sub (l : List (Nat × Value)) : List (Nat × Value) → Prop
  | nil : Sub l []
  | cons {t : Nat} {v : Value} {l' : List (Nat × Value)} (h : find l t = some v) (r : Sub l l') : Sub l ((t, v) :: l')
  | turn {t : Nat} {v u : Value} {l' : List (Nat × Value)} (h : find l t = some v) (e : v = u) (r : Sub l l') : Sub l ((t, u) :: l')
theorem Sub.at {l l' : List (Nat × Value)} (h : Sub l l') {t : Nat} {v : Value} (hv : find l' t = some v) : find l t = some v := by
  induction h with
  | nil => simp [find] at hv
  | @cons s u l' h1 _ ih =>
    rw [find] at hv
    by_cases e : s = t
    · subst e; rw [Nat.beq_refl] at hv; simp at hv; rw [← hv]; exact h1
    · rw [beq_no e] at hv; exact ih (by simpa using hv)
  | @turn s u x l' h1 h2 _ ih =>
    subst h2;rw [find] at hv
    by_cases e : s = t
    · subst e; rw [Nat.beq_refl] at hv; simp at hv; rw [← hv]; exact h1
    · rw [beq_no e] at hv; exact ih (by simpa using hv)
theorem Kn.cut {l' : List (Nat × Value)} (h : Kn n l a) (hs : Sub l l') : Kn n l' a := ⟨h.defers, h.size, fun _ _ hv => h.get _ _ (hs.at hv)⟩
inductive Ins (args : Array Value) : List (Nat × Value) → Prop
  | nil : Ins args []
  | cons {t : Nat} {v : Value} {l' : List (Nat × Value)} (h : nth args.toList t = some v) (r : Ins args l') : Ins args ((t, v) :: l')
theorem Ins.at {args : Array Value} {l : List (Nat × Value)} (h : Ins args l) {t : Nat} {v : Value} (hv : find l t = some v) : args[t]? = some v := by
  induction h with
  | nil => simp [find] at hv
  | @cons s u l' h1 _ ih =>
    rw [find] at hv
    by_cases e : s = t
    · subst e; rw [Nat.beq_refl] at hv; simp at hv; rw [← hv]; rw [nth_eq] at h1; simpa using h1
    · rw [beq_no e] at hv; exact ih (by simpa using hv)
theorem calls {f : FuncId} {fn : Func} {c : Code} {args : Array Value} {R : Ending → World → Prop} (hf : P.funcs[f]? = some fn) (hb : fn.body = some c) (hn : fn.ntmps = n) (ha : Nat.ble args.size n = true) (hl : Ins args l)
    (H : ∀ a, Kn n l a → c.wp P (bodyPost P fn R) a w) : Calls P f args w R := by
  refine calls_of_wp hf hb (H _ ⟨rfl, ?_, fun t v hv => ?_⟩)
  · have := Nat.le_of_ble_eq_true ha;simp only [Array.size_append, Array.size_replicate]; omega
  · have h1 := hl.at hv
    have h2 : t < args.size := by
      rcases Nat.lt_or_ge t args.size with h | h
      · exact h
      · rw [Array.getElem?_eq_none h] at h1; cases h1
    simp only [Act.eval];rw [Array.getD_eq_getD_getElem?, Array.getElem?_append_left h2, h1]
    rfl
theorem ret1 {fn : Func} {R : Ending → World → Prop} {t : Tmp} {v : Value} (h : Kn n l a) (hr : fn.results = #[.tmp t]) (hv : find l t = some v) (H : R (.returned v) w) : bodyPost P fn R .ret a w :=
  bodyPost_ret (results_tmp hr _ _ _) h.defers (by have := h.get t v hv; simp only [Act.eval] at this; rw [this]; exact H)
theorem yes {x : Operand} {c d : Code} (h : Kn n l a) (hv : Val l x (.bool true)) (H : c.wp P Q a w) : (Code.cond x c d).wp P Q a w := wp_cond_true (h.val hv) H
theorem no {x : Operand} {c d : Code} (h : Kn n l a) (hv : Val l x (.bool false)) (H : d.wp P Q a w) : (Code.cond x c d).wp P Q a w := wp_cond_false (h.val hv) H
theorem then_ret {K : Act → World → Prop} (h : Q .ret a w) : Exit.then K Q .ret a w := h
theorem then_exit {K : Act → World → Prop} {i : Nat} (h : Q (.exit i) a w) : Exit.then K Q (.exit i) a w := h
theorem block_normal {i : Nat} (h : Q .normal a w) : Exit.inBlock i Q .normal a w := h
theorem block_exit {i : Nat} (h : Q .normal a w) : Exit.inBlock i Q (.exit i) a w := by simp only [Exit.inBlock, if_pos]; exact h
theorem loop {c : Code} (I : Nat → Act → World → Prop) (m : Nat) (h0 : I m a w) (hr : ∀ m a w, I m a w → ∀ K : Act → World → Prop, (∀ m' a' w', m' < m → I m' a' w' → K a' w') → c.wp P (Exit.then K Q) a w) : (Code.loop c).wp P Q a w :=
  wp_loop_ghost I m h0 fun m a w h => hr m a w h _ fun m' _ _ hlt h' => ⟨m', hlt, h'⟩
def PI (Q : Exit → Act → World → Prop) : Prop := ∀ (d : Option Tmp) (v : Value) (c : List PanicEntry) (b : Act) (w : World), Q (.panic c) (b.put d v) w → Q (.panic c) b w
theorem PI.then {K : Act → World → Prop} (h : PI Q) : PI (Exit.then K Q) := h
theorem PI.block {i : Nat} (h : PI Q) : PI (Exit.inBlock i Q) := h
theorem PI.body {fn : Func} {R : Ending → World → Prop} : PI (bodyPost P fn R) := fun d v c b w h => by cases d <;> exact h
end
end Go.Proofs.Ytkbkdbnmpicidaa.Kn
end
section
namespace Go.Proofs.Ytkbkdbnmpicidaa.Kn
open Go
def backB (md : Region.Mode) (ops : Array Oper) : Bool :=
  (List.range ops.size).all fun i => match ops[i]? with
    | some o => o.after.all fun e => !Region.binds md e || Nat.blt e.on i
    | none => true
def apartB (ops : Array Oper) : Bool :=
  (List.range ops.size).all fun i => (List.range ops.size).all fun j => Nat.beq i j || match (ops[i]?).bind (·.dst), (ops[j]?).bind (·.dst) with
    | some d, some e => !Nat.beq d e
    | _, _ => true
def freshB (n : Nat) (l : List (Nat × Value)) (ops : Array Oper) : Bool :=
  (List.range ops.size).all fun i => match (ops[i]?).bind (·.dst) with
    | some d => Nat.blt d n && l.all fun p => !Nat.beq p.1 d
    | none => true
section
variable {P : Program} {n : Nat} {l : List (Nat × Value)} {ops : Array Oper} {Q : Exit → Act → World → Prop} {md : Region.Mode} {S : World → Prop} {G : World → World → Prop} {T : Nat → Value → World → Prop} {F : Nat → Nat → Value → Value → Prop}
theorem all_listed (hb : backB md ops = true) {listed : Array Bool} (hs : listed.size = ops.size) (hr : Region.ready md ops listed = []) : ∀ i, i < ops.size → listed.getD i false = true := by
  intro i
  induction i using Nat.strongRecOn with
  | _ i ih =>
    intro hi
    cases h : listed.getD i false with
    | true => rfl
    | false =>
      exfalso
      have hm : i ∈ Region.ready md ops listed := by
        refine mem_ready.2 ⟨getD_in (by omega) h, ops[i], Array.getElem?_eq_getElem hi, fun e he hbd => ?_⟩;have h1 := List.all_eq_true.1 hb i (List.mem_range.2 hi);rw [Array.getElem?_eq_getElem hi] at h1;have h2 := Array.all_eq_true_iff_forall_mem.1 h1 e he;rw [hbd] at h2;have h3 : e.on < i := by simpa using h2
        exact ih e.on h3 (by omega)
      rw [hr] at hm;cases hm
theorem Kn.other {a : Act} (h : Kn n l a) {d : Tmp} (v : Value) (hl : l.all (fun p => !Nat.beq p.1 d) = true) : Kn n l (a.put (some d) v) := by
  refine ⟨h.defers, by simp [Act.put, h.size], fun t u hu => ?_⟩
  have hne : d ≠ t := by
    intro e;subst e;clear h
    induction l with
    | nil => simp [find] at hu
    | cons p l ih =>
      obtain ⟨k, v⟩ := p;simp only [List.all_cons, Bool.and_eq_true, Bool.not_eq_true'] at hl;rw [find, hl.1] at hu;exact ih hl.2 hu
  rw [← h.get t u hu];simp only [Act.put, Act.eval];rw [Array.getD_eq_getD_getElem?, Array.getD_eq_getD_getElem?, Array.getElem?_setIfInBounds_ne hne]
theorem eval_put_same {a : Act} {d : Tmp} (v : Value) (h : d < a.tmps.size) : (a.put (some d) v).eval (.tmp d) = v := by simp [Act.put, Act.eval, h]
theorem eval_put_ne {a : Act} {d t : Tmp} (v : Value) (h : d ≠ t) : (a.put (some d) v).eval (.tmp t) = a.eval (.tmp t) := by
  simp only [Act.put, Act.eval];rw [Array.getD_eq_getD_getElem?, Array.getD_eq_getD_getElem?, Array.getElem?_setIfInBounds_ne h]
def Has (md : Region.Mode) (ops : Array Oper) (T : Nat → Value → World → Prop) (o : Oper) (a : Act) (w : World) : Prop :=
  ∀ j d, o.after.toList.any (fun e => Region.binds md e && Nat.beq e.on j) = true → (ops[j]?).bind (·.dst) = some d → T j (a.eval (.tmp d)) w
def Op1 (P : Program) (ops : Array Oper) (Q : Exit → Act → World → Prop) (S : World → Prop) (G : World → World → Prop) (T : Nat → Value → World → Prop) (F : Nat → Nat → Value → Value → Prop) (i : Nat) (o : Oper) (L : Nat → Prop) (a : Act) (w : World) : Prop :=
  if Region.wanted o (yielded ops a.tmps) then o.wp P a w (fun a' w' => ∃ v, a' = a.put o.dst v ∧ T i v w' ∧ S w' ∧ G w w' ∧ ∀ k d, k ≠ i → L k → (ops[k]?).bind (·.dst) = some d → F i k v (a.eval (.tmp d)) ∧ F k i (a.eval (.tmp d)) v) Q
  else T i undef w ∧ ∀ k d, k ≠ i → L k → (ops[k]?).bind (·.dst) = some d → F i k undef (a.eval (.tmp d)) ∧ F k i (a.eval (.tmp d)) undef
def Two (ops : Array Oper) (F : Nat → Nat → Value → Value → Prop) (L : Nat → Prop) (a : Act) : Prop := ∀ j k d e, j ≠ k → L j → L k → (ops[j]?).bind (·.dst) = some d → (ops[k]?).bind (·.dst) = some e → F j k (a.eval (.tmp d)) (a.eval (.tmp e))
def One (ops : Array Oper) (T : Nat → Value → World → Prop) (L : Nat → Prop) (a : Act) (w : World) : Prop := ∀ k d, L k → (ops[k]?).bind (·.dst) = some d → T k (a.eval (.tmp d)) w
def Ahead (md : Region.Mode) (o : Oper) (L : Nat → Prop) : Prop := ∀ j, o.after.toList.any (fun e => Region.binds md e && Nat.beq e.on j) = true → L j
def Ok (P : Program) (n : Nat) (l : List (Nat × Value)) (md : Region.Mode) (ops : Array Oper) (Q : Exit → Act → World → Prop) (S : World → Prop) (G : World → World → Prop) (T : Nat → Value → World → Prop) (F : Nat → Nat → Value → Value → Prop) (i : Nat) (o : Oper) : Prop :=
  ∀ a w L, Kn n l a → S w → One ops T L a w → Two ops F L a → Ahead md o L → Op1 P ops Q S G T F i o L a w
def Oks (P : Program) (n : Nat) (l : List (Nat × Value)) (md : Region.Mode) (ops : Array Oper) (Q : Exit → Act → World → Prop) (S : World → Prop) (G : World → World → Prop) (T : Nat → Value → World → Prop) (F : Nat → Nat → Value → Value → Prop) : Nat → List Oper → Prop
  | _, [] => True
  | k, o :: r => Ok P n l md ops Q S G T F k o ∧ Oks P n l md ops Q S G T F (k + 1) r
theorem Oks.at {r : List Oper} {k : Nat} (h : Oks P n l md ops Q S G T F k r) {j : Nat} {o : Oper} (hj : r[j]? = some o) : Ok P n l md ops Q S G T F (k + j) o := by
  induction r generalizing k j with
  | nil => simp at hj
  | cons x r ih =>
    cases j with
    | zero => simp at hj; subst hj; exact h.1
    | succ j =>
      have := ih h.2 (j := j) (by simpa using hj)
      rwa [show k + 1 + j = k + (j + 1) by omega] at this
structure Reg (n : Nat) (l : List (Nat × Value)) (ops : Array Oper) (S : World → Prop) (T : Nat → Value → World → Prop) (F : Nat → Nat → Value → Value → Prop) (listed : Array Bool) (a : Act) (w : World) : Prop where
  kn : Kn n l a
  size : listed.size = ops.size
  ok : S w
  slots : ∀ j d, (ops[j]?).bind (·.dst) = some d → listed.getD j false = true → T j (a.eval (.tmp d)) w
  pairs : ∀ i j d e, i ≠ j → (ops[i]?).bind (·.dst) = some d → (ops[j]?).bind (·.dst) = some e → listed.getD i false = true → listed.getD j false = true → F i j (a.eval (.tmp d)) (a.eval (.tmp e))
  stores : ∀ j o, ops[j]? = some o → o.dst = none → listed.getD j false = true → ∃ v, T j v w
theorem Reg.next (hap : apartB ops = true) (hfr : freshB n l ops = true) {listed : Array Bool} {a : Act} {w w' : World} {i : Nat} {o : Oper} {v : Value} (h : Reg n l ops S T F listed a w) (ho : ops[i]? = some o) (hv : T i v w') (hS : S w') (hG : ∀ j u, T j u w → T j u w') (hF : ∀ k d, k ≠ i → listed.getD k false = true → (ops[k]?).bind (·.dst) = some d → F i k v (a.eval (.tmp d)) ∧ F k i (a.eval (.tmp d)) v) : Reg n l ops S T F (listed.setIfInBounds i true) (a.put o.dst v) w' := by
  have hi : i < ops.size := (Array.getElem?_eq_some_iff.1 ho).1;have hob : (ops[i]?).bind (·.dst) = o.dst := by rw [ho]; rfl
  cases hd : o.dst with
  | none =>
    have old : ∀ j d, (ops[j]?).bind (·.dst) = some d → (listed.setIfInBounds i true).getD j false = true → listed.getD j false = true := fun j d hj hl => by
      by_cases e : i = j
      · subst e; rw [hob, hd] at hj; cases hj
      · rwa [getD_set_ne false e] at hl
    exact ⟨h.kn, by simp [h.size], hS, fun j d hj hl => hG _ _ (h.slots j d hj (old j d hj hl)), fun j k d e hne hj hk hl hm => h.pairs j k d e hne hj hk (old j d hj hl) (old k e hk hm), fun j o2 hj hd2 hl => by
      by_cases e : i = j
      · subst e; exact ⟨v, hv⟩
      · rw [getD_set_ne false e] at hl;obtain ⟨u, hu⟩ := h.stores j o2 hj hd2 hl
        exact ⟨u, hG _ _ hu⟩⟩
  | some d =>
    have h1 := List.all_eq_true.1 hfr i (List.mem_range.2 hi);rw [hob, hd] at h1;simp only [Bool.and_eq_true] at h1;have hdn : d < a.tmps.size := by rw [h.kn.size]; exact Nat.le_of_ble_eq_true h1.1
    have oth : ∀ j e, i ≠ j → (ops[j]?).bind (·.dst) = some e → (a.put (some d) v).eval (.tmp e) = a.eval (.tmp e) := fun j e hij hj => by
      have hjs : j < ops.size := by
        cases hj2 : ops[j]? with
        | none => rw [hj2] at hj; cases hj
        | some x => exact (Array.getElem?_eq_some_iff.1 hj2).1
      have h2 := List.all_eq_true.1 (List.all_eq_true.1 hap i (List.mem_range.2 hi)) j (List.mem_range.2 hjs);rw [hob, hd, hj, beq_no hij] at h2;have hde : d ≠ e := fun e' => by subst e'; simp at h2
      exact eval_put_ne v hde
    refine ⟨h.kn.other v h1.2, by simp [h.size], hS, fun j e hj hl => ?_, fun j k e f hne hj hk hl hm => ?_, fun j o2 hj hd2 hl => ?_⟩
    rotate_right
    · by_cases hij : i = j
      · subst hij;rw [ho] at hj;obtain rfl := Option.some.inj hj;rw [hd] at hd2;cases hd2
      · rw [getD_set_ne false hij] at hl;obtain ⟨u, hu⟩ := h.stores j o2 hj hd2 hl;exact ⟨u, hG _ _ hu⟩
    · by_cases hij : i = j
      · subst hij;rw [hob, hd] at hj;obtain rfl := Option.some.inj hj;rw [eval_put_same v hdn];exact hv
      · rw [getD_set_ne false hij] at hl;rw [oth j e hij hj];exact hG _ _ (h.slots j e hj hl)
    · by_cases hij : i = j
      · subst hij;rw [hob, hd] at hj;obtain rfl := Option.some.inj hj;rw [getD_set_ne false hne] at hm;rw [eval_put_same v hdn, oth k f hne hk];exact (hF k f (fun e => hne e.symm) hm hk).1
      · rw [getD_set_ne false hij] at hl;rw [oth j e hij hj]
        by_cases hik : i = k
        · subst hik;rw [hob, hd] at hk;obtain rfl := Option.some.inj hk;rw [eval_put_same v hdn];exact (hF j e (fun e => hij e.symm) hl hj).2
        · rw [getD_set_ne false hik] at hm;rw [oth k f hik hk];exact h.pairs j k e f hne hj hk hl hm
theorem wpAny_reg (hback : backB md ops = true) (hap : apartB ops = true) (hfr : freshB n l ops = true) (hT : ∀ i v w w', G w w' → T i v w → T i v w') (hok : Oks P n l md ops Q S G T F 0 ops.toList)
    (hend : ∀ a w, Kn n l a → S w → (∀ j d, (ops[j]?).bind (·.dst) = some d → T j (a.eval (.tmp d)) w) → (∀ i j d e, i ≠ j → (ops[i]?).bind (·.dst) = some d → (ops[j]?).bind (·.dst) = some e → F i j (a.eval (.tmp d)) (a.eval (.tmp e))) → (∀ j o, ops[j]? = some o → o.dst = none → ∃ v, T j v w) → Q .normal a w) :
    ∀ (fuel : Nat) (listed : Array Bool) (a : Act) (w : World), listed.toList.countP (fun b => !b) ≤ fuel → Reg n l ops S T F listed a w → wpAny P md ops Q fuel listed a w := by
  have fin : ∀ (listed : Array Bool) (a : Act) (w : World), Reg n l ops S T F listed a w → Region.ready md ops listed = [] → Q .normal a w := fun listed a w h hr => by
    have al : ∀ j d, (ops[j]?).bind (·.dst) = some d → listed.getD j false = true := fun j d hj => by
      have hjs : j < ops.size := by
        cases hj2 : ops[j]? with
        | none => rw [hj2] at hj; cases hj
        | some x => exact (Array.getElem?_eq_some_iff.1 hj2).1
      exact all_listed hback h.size hr j hjs
    exact hend a w h.kn h.ok (fun j d hj => h.slots j d hj (al j d hj)) (fun i j d e hne hi hj => h.pairs i j d e hne hi hj (al i d hi) (al j e hj)) fun j o hj hd => h.stores j o hj hd (all_listed hback h.size hr j (Array.getElem?_eq_some_iff.1 hj).1)
  intro fuel
  induction fuel with
  | zero =>
    intro listed a w hc h
    have hr : Region.ready md ops listed = [] := by
      cases hr : Region.ready md ops listed with
      | nil => rfl
      | cons i r =>
        exfalso
        have hi := (mem_ready.1 (show i ∈ Region.ready md ops listed by rw [hr]; exact List.mem_cons_self)).1
        have hil : i < listed.size := by
          rcases Nat.lt_or_ge i listed.size with h' | h'
          · exact h'
          · simp [Array.getElem?_eq_none h'] at hi
        have hz : listed.toList.countP (fun b => !b) = 0 := by omega
        rw [List.countP_eq_zero] at hz;have := hz listed[i] (by simp);simp [hil] at hi;simp [hi] at this
    exact ⟨hr, fin listed a w h hr⟩
  | succ fuel ih =>
    intro listed a w hc h;refine ⟨fin listed a w h, fun i hi => ?_⟩;obtain ⟨hun, o, ho, hall⟩ := mem_ready.1 hi
    have hil : i < listed.size := by
      rcases Nat.lt_or_ge i listed.size with h' | h'
      · exact h'
      · simp [Array.getElem?_eq_none h'] at hun
    have hcount : (listed.setIfInBounds i true).toList.countP (fun b => !b) ≤ fuel := by
      have hli : listed[i] = false := by simpa [hil] using hun
      rw [Array.toList_setIfInBounds, List.countP_set (by simpa using hil)];simp only [Array.getElem_toList, hli];simp only [Bool.not_false, Bool.not_true, if_true, Bool.false_eq_true, if_false];omega
    have hok' := hok.at (j := i) (o := o) (by rw [Array.getElem?_toList]; exact ho);rw [Nat.zero_add] at hok'
    have hs := hok' a w (fun k => listed.getD k false = true) h.kn h.ok (fun k d hk hd => h.slots k d hd hk) (fun j k d e hne hj hk hd he => h.pairs j k d e hne hd he hj hk) (fun j hj => by
      obtain ⟨e, he, he2⟩ := List.any_eq_true.1 hj;simp only [Bool.and_eq_true] at he2;have := Nat.eq_of_beq_eq_true he2.2;subst this
      exact hall e (Array.mem_toList_iff.1 he) he2.1)
    unfold Op1 at hs;unfold wpOp;simp only [ho]
    split
    · rename_i hw;rw [if_pos hw] at hs;refine .inl (Oper.wp_mono (fun a' w' hx => ?_) hs);obtain ⟨v, rfl, hv, hS, hG, hF⟩ := hx;exact ih _ _ _ hcount (h.next hap hfr ho hv hS (fun j u hu => hT j u _ _ hG hu) hF)
    · rename_i hw;rw [if_neg hw] at hs;exact ih _ _ _ hcount (h.next hap hfr ho hs.1 h.ok (fun j u hu => hu) hs.2)
theorem anyFU {id : Nat} {os : List Oper} {a : Act} {w : World} (S : World → Prop) (G : World → World → Prop) (T : Nat → Value → World → Prop) (F : Nat → Nat → Value → Value → Prop) (hm : P.follows .mixedOrders = true) (h : Kn n l a) (hback : backB .any os.toArray = true) (hap : apartB os.toArray = true) (hfr : freshB n l os.toArray = true)
    (hT : ∀ i v w w', G w w' → T i v w → T i v w') (hS : S w.drew) (hok : Oks P n l .any os.toArray Q S G T F 0 os)
    (hend : ∀ a w, Kn n l a → S w → (∀ j d, (os.toArray[j]?).bind (·.dst) = some d → T j (a.eval (.tmp d)) w) → (∀ i j d e, i ≠ j → (os.toArray[i]?).bind (·.dst) = some d → (os.toArray[j]?).bind (·.dst) = some e → F i j (a.eval (.tmp d)) (a.eval (.tmp e))) → (∀ j o, os.toArray[j]? = some o → o.dst = none → ∃ v, T j v w) → Q .normal a w) : (Code.region id os.toArray true).wp P Q a w := by
  refine wp_region_any hm (wpAny_reg (S := S) (G := G) (T := T) (F := F) hback hap hfr hT (by simpa using hok) hend _ _ _ _ ?_ ⟨h, by simp, hS, fun j d hj hl => ?_, fun i j d e _ _ _ hl _ => ?_, fun j o hj hd hl => ?_⟩)
  · refine Nat.le_trans List.countP_le_length ?_;simp
  · rw [getD_replicate_false] at hl; cases hl
  · rw [getD_replicate_false] at hl; cases hl
  · rw [getD_replicate_false] at hl; cases hl
theorem anyF {id : Nat} {os : List Oper} {a : Act} {w : World} (S : World → Prop) (G : World → World → Prop) (T : Nat → Value → World → Prop) (F : Nat → Nat → Value → Value → Prop) (hm : P.follows .mixedOrders = true) (h : Kn n l a) (hback : backB .any os.toArray = true) (hap : apartB os.toArray = true) (hfr : freshB n l os.toArray = true)
    (hT : ∀ i v w w', G w w' → T i v w → T i v w') (hS : S w.drew) (hok : Oks P n l .any os.toArray Q S G T F 0 os)
    (hend : ∀ a w, Kn n l a → S w → (∀ j d, (os.toArray[j]?).bind (·.dst) = some d → T j (a.eval (.tmp d)) w) → (∀ i j d e, i ≠ j → (os.toArray[i]?).bind (·.dst) = some d → (os.toArray[j]?).bind (·.dst) = some e → F i j (a.eval (.tmp d)) (a.eval (.tmp e))) → Q .normal a w) : (Code.region id os.toArray true).wp P Q a w :=
  anyFU S G T F hm h hback hap hfr hT hS hok fun a w h1 h2 h3 h4 _ => hend a w h1 h2 h3 h4
def F0 : Nat → Nat → Value → Value → Prop := fun _ _ _ _ => True
theorem any {id : Nat} {os : List Oper} {a : Act} {w : World} (S : World → Prop) (G : World → World → Prop) (T : Nat → Value → World → Prop) (hm : P.follows .mixedOrders = true) (h : Kn n l a) (hback : backB .any os.toArray = true) (hap : apartB os.toArray = true) (hfr : freshB n l os.toArray = true)
    (hT : ∀ i v w w', G w w' → T i v w → T i v w') (hS : S w.drew) (hok : Oks P n l .any os.toArray Q S G T F0 0 os)
    (hend : ∀ a w, Kn n l a → S w → (∀ j d, (os.toArray[j]?).bind (·.dst) = some d → T j (a.eval (.tmp d)) w) → Q .normal a w) : (Code.region id os.toArray true).wp P Q a w :=
  anyF S G T F0 hm h hback hap hfr hT hS hok fun a w h1 h2 h3 _ => hend a w h1 h2 h3
theorem ok {i : Nat} {o : Oper} (h : ∀ a w L, Kn n l a → S w → Has md ops T o a w → Op1 P ops Q S G T F i o L a w) : Ok P n l md ops Q S G T F i o := fun a w L h1 h2 h3 _ h5 => h a w L h1 h2 fun j d hj hd => h3 j d (h5 j hj) hd
end
def TL : List (Value → World → Prop) → Nat → Value → World → Prop
  | [], _, _, _ => True
  | p :: _, 0, v, w => p v w
  | _ :: l, i + 1, v, w => TL l i v w
inductive Keeps (G : World → World → Prop) : List (Value → World → Prop) → Prop
  | nil : Keeps G []
  | cons {p : Value → World → Prop} {l : List (Value → World → Prop)} (h : ∀ v w w', G w w' → p v w → p v w') (r : Keeps G l) : Keeps G (p :: l)
theorem Keeps.all {G : World → World → Prop} {l : List (Value → World → Prop)} (h : Keeps G l) : ∀ i v w w', G w w' → TL l i v w → TL l i v w' := by
  induction h with
  | nil => intro i v w w' _ _; exact trivial
  | cons h1 _ ih =>
    intro i v w w' hg ht
    cases i with
    | zero => exact h1 v w w' hg ht
    | succ i => exact ih i v w w' hg ht
end Go.Proofs.Ytkbkdbnmpicidaa.Kn
end
section
namespace Go.Proofs.Ytkbkdbnmpicidaa.Kn
open Go
theorem Val.t {l : List (Nat × Value)} {t : Tmp} {v : Value} (h : find l t = some v) : Val l (.tmp t) v := .tmp h
theorem Val.c {l : List (Nat × Value)} {v : Value} : Val l (.const v) v := .const
theorem Vals.n {l : List (Nat × Value)} : Vals l [] [] := .nil
theorem Vals.c {l : List (Nat × Value)} {x : Operand} {v : Value} {xs : List Operand} {vs : List Value} (h : Val l x v) (t : Vals l xs vs) : Vals l (x :: xs) (v :: vs) := .cons h t
theorem Sub.n {l : List (Nat × Value)} : Sub l [] := .nil
theorem Sub.c {l l' : List (Nat × Value)} (t : Nat) {v : Value} (h : find l t = some v) (r : Sub l l') : Sub l ((t, v) :: l') := .cons h r
theorem Sub.u {l l' : List (Nat × Value)} (t : Nat) {v u : Value} (h : find l t = some v) (e : v = u) (r : Sub l l') : Sub l ((t, u) :: l') := .turn h e r
theorem Ins.n {args : Array Value} : Ins args [] := .nil
theorem Ins.c {args : Array Value} (t : Nat) {v : Value} {l' : List (Nat × Value)} (h : nth args.toList t = some v) (r : Ins args l') : Ins args ((t, v) :: l') := .cons h r
theorem Wants.o {ops : Array Oper} {l : List (Nat × Value)} : Wants ops l Option.none true := .none
theorem Wants.s {ops : Array Oper} {l : List (Nat × Value)} {j : Nat} {b c r : Bool} {d : Tmp} (h : (ops[j]?).bind (·.dst) = Option.some d) (hv : find l d = Option.some (.bool c)) (hr : (c == b) = r) : Wants ops l (Option.some (j, b)) r := .some h hv hr
def Ex (n : Nat) (l : List (Nat × Value)) (o : Oper) (s : Sem Value) : Prop := ∀ a, Kn n l a → execOp a.eval o = vl s
def ExU (n : Nat) (l : List (Nat × Value)) (o : Oper) (s : Sem Unit) : Prop := ∀ a, Kn n l a → execOp a.eval o = ul s
def ExC (n : Nat) (l : List (Nat × Value)) (o : Oper) (f : FuncId) (args : Array Value) : Prop := ∀ a, Kn n l a → execOp a.eval o = callFunc f args
section
variable {n : Nat} {l : List (Nat × Value)} {d : Option Tmp} {t : TypeId} {p : String} {af : Array Edge} {g : Option (Nat × Bool)} {x y z : Operand} {vx vy vz : Value}
theorem Ex.bin {op : BinOp} {tx ty : TypeId} (hx : Val l x vx) (hy : Val l y vy) : Ex n l ⟨d, .binOp op tx x y ty, t, p, af, g⟩ (do eqGuard op tx x y vx vy; binOp op tx vx vy) := fun _ h => ex_bin h hx hy
theorem Ex.un {op : UnOp} {tx : TypeId} (hx : Val l x vx) : Ex n l ⟨d, .unOp op tx x, t, p, af, g⟩ (Op.unary op vx) := fun _ h => ex_un h hx
theorem Ex.convert {ts td : TypeId} (hx : Val l x vx) : Ex n l ⟨d, .convert ts td x, t, p, af, g⟩ (Go.convert ts td vx) := fun _ h => ex_convert h hx
theorem Ex.alloc {e : TypeId} : Ex n l ⟨d, .alloc e, t, p, af, g⟩ (Instr.alloc e true (.tuple #[])) := fun _ _ => ex_alloc
theorem Ex.box {e : TypeId} (hx : Val l x vx) : Ex n l ⟨d, .box e x, t, p, af, g⟩ (Instr.box e vx) := fun _ h => ex_box h hx
theorem Ex.load {e : TypeId} (hx : Val l x vx) : Ex n l ⟨d, .load e x, t, p, af, g⟩ (Instr.loadAt e vx) := fun _ h => ex_load h hx
theorem ExU.store {e : TypeId} (hx : Val l x vx) (hy : Val l y vy) : ExU n l ⟨d, .store e x y, t, p, af, g⟩ (Instr.storeAt e vx vy) := fun _ h => ex_store h hx hy
theorem Ex.fieldAddr {e : TypeId} {f : Nat} (hx : Val l x vx) : Ex n l ⟨d, .fieldAddr e x f, t, p, af, g⟩ (Instr.fieldAt e vx f) := fun _ h => ex_fieldAddr h hx
theorem Ex.field {e : TypeId} {f : Nat} (hx : Val l x vx) : Ex n l ⟨d, .field e x f, t, p, af, g⟩ (Instr.field e vx f) := fun _ h => ex_field h hx
theorem Ex.indexAddr {e : TypeId} (hx : Val l x vx) (hy : Val l y vy) : Ex n l ⟨d, .indexAddr e x y, t, p, af, g⟩ (Instr.indexAt e vx vy) := fun _ h => ex_indexAddr h hx hy
theorem Ex.index {e : TypeId} (hx : Val l x vx) (hy : Val l y vy) : Ex n l ⟨d, .index e x y, t, p, af, g⟩ (Instr.index e vx vy) := fun _ h => ex_index h hx hy
theorem Ex.makeSlice {e : TypeId} (hx : Val l x vx) (hy : Val l y vy) : Ex n l ⟨d, .makeSlice e x y, t, p, af, g⟩ (Instr.makeSlice e vx vy) := fun _ h => ex_makeSlice h hx hy
theorem Ex.makeInterface {e : TypeId} (hx : Val l x vx) : Ex n l ⟨d, .makeInterface e x, t, p, af, g⟩ (Instr.makeInterface e vx) := fun _ h => ex_makeInterface h hx
theorem Ex.slice0 {e : TypeId} (hx : Val l x vx) : Ex n l ⟨d, .slice e x none none none, t, p, af, g⟩ (Instr.sliceAt e vx none none none) := fun _ h => ex_slice0 h hx
theorem Ex.sliceL {e : TypeId} (hx : Val l x vx) (hy : Val l y vy) : Ex n l ⟨d, .slice e x (some y) none none, t, p, af, g⟩ (Instr.sliceAt e vx (some vy) none none) := fun _ h => ex_sliceL h hx hy
theorem Ex.sliceH {e : TypeId} (hx : Val l x vx) (hy : Val l y vy) : Ex n l ⟨d, .slice e x none (some y) none, t, p, af, g⟩ (Instr.sliceAt e vx none (some vy) none) := fun _ h => ex_sliceH h hx hy
theorem Ex.sliceLH {e : TypeId} (hx : Val l x vx) (hy : Val l y vy) (hz : Val l z vz) : Ex n l ⟨d, .slice e x (some y) (some z) none, t, p, af, g⟩ (Instr.sliceAt e vx (some vy) (some vz) none) := fun _ h => ex_sliceLH h hx hy hz
theorem Ex.buildSlice {e : TypeId} {m : Nat} {ps : Array (Nat × Operand)} {us : List Value} (hx : Vals l (ps.toList.map (·.2)) us) : Ex n l ⟨d, .buildSlice e m ps, t, p, af, g⟩ (Instr.buildSlice e m ((ps.toList.map (·.1)).zip us).toArray) := fun _ h => ex_buildSlice h hx
theorem Ex.build {e : TypeId} {ps : Array (Nat × Operand)} {us : List Value} (hx : Vals l (ps.toList.map (·.2)) us) : Ex n l ⟨d, .build e ps, t, p, af, g⟩ (Instr.build e ((ps.toList.map (·.1)).zip us).toArray) := fun _ h => ex_build h hx
theorem Ex.len {ats : Array TypeId} (hx : Val l x vx) : Ex n l ⟨d, .call { callee := .builtin .len, args := #[x], argTypes := ats }, t, p, af, g⟩ (Builtin.len_ ats t #[vx]) := fun _ h => ex_len h hx
theorem Ex.min {ats : Array TypeId} {xs : Array Operand} {us : List Value} (hx : Vals l xs.toList us) : Ex n l ⟨d, .call { callee := .builtin .min, args := xs, argTypes := ats }, t, p, af, g⟩ (Builtin.min_ ats t us.toArray) := fun _ h => ex_min h hx
theorem Ex.max {ats : Array TypeId} {xs : Array Operand} {us : List Value} (hx : Vals l xs.toList us) : Ex n l ⟨d, .call { callee := .builtin .max, args := xs, argTypes := ats }, t, p, af, g⟩ (Builtin.max_ ats t us.toArray) := fun _ h => ex_max h hx
theorem Ex.append {ats : Array TypeId} {xs : Array Operand} {us : List Value} (hx : Vals l xs.toList us) : Ex n l ⟨d, .call { callee := .builtin .append, args := xs, argTypes := ats }, t, p, af, g⟩ (Builtin.append_ ats t us.toArray) := fun _ h => ex_append h hx
theorem Ex.copy {ats : Array TypeId} {xs : Array Operand} {us : List Value} (hx : Vals l xs.toList us) : Ex n l ⟨d, .call { callee := .builtin .copy, args := xs, argTypes := ats }, t, p, af, g⟩ (Builtin.copy_ ats t us.toArray) := fun _ h => ex_copy h hx
theorem Ex.lookup {e : TypeId} {ok : Bool} (hx : Val l x vx) (hy : Val l y vy) : Ex n l ⟨d, .lookup e x y ok, t, p, af, g⟩ (Instr.lookup e vx vy ok) := fun _ h => ex_lookup h hx hy
theorem ExC.call {f : FuncId} {xs : Array Operand} {us : List Value} {ats : Array TypeId} (hx : Vals l xs.toList us) : ExC n l ⟨d, .call { callee := .value (.func f), args := xs, argTypes := ats }, t, p, af, g⟩ f us.toArray := fun _ h => ex_call h hx
inductive Pur (ops : Array Oper) (n : Nat) : List Oper → List (Nat × Value) → List Oper → List (Nat × Value) → Prop
  | n {r : List Oper} {l : List (Nat × Value)} : Pur ops n r l r l
  | m {d : Tmp} {t : TypeId} {p : String} {af : Array Edge} {x : Operand} {v : Value} {r r' : List Oper} {l l' : List (Nat × Value)} (hx : Val l x v) (h : Pur ops n r ((d, v) :: l) r' l') (hd : Nat.blt d n = true := by rfl) : Pur ops n (⟨some d, .move x, t, p, af, none⟩ :: r) l r' l'
  | a {d : Tmp} {t : TypeId} {p : String} {af : Array Edge} {x : Operand} {v : Value} {r r' : List Oper} {l l' : List (Nat × Value)} (hx : Val l x v) (h : Pur ops n r ((d, v) :: l) r' l') (hd : Nat.blt d n = true := by rfl) : Pur ops n (⟨some d, .assign x, t, p, af, none⟩ :: r) l r' l'
  | x {d : Tmp} {t : TypeId} {p : String} {af : Array Edge} {x : Operand} {i : Nat} {vs : Array Value} {v : Value} {r r' : List Oper} {l l' : List (Nat × Value)} (hx : Val l x (.tuple vs)) (hi : vs[i]? = some v) (h : Pur ops n r ((d, v) :: l) r' l') (hd : Nat.blt d n = true := by rfl) : Pur ops n (⟨some d, .extract x i, t, p, af, none⟩ :: r) l r' l'
  | e {d : Tmp} {o : Oper} {v : Value} {r r' : List Oper} {l l' : List (Nat × Value)} (hw : Wants ops l o.guard true) (he : Ex n l o (Pure.pure v)) (h : Pur ops n r ((d, v) :: l) r' l') (ho : o.dst = some d := by rfl) (hd : Nat.blt d n = true := by rfl) : Pur ops n (o :: r) l r' l'
  | k {d : Tmp} {o : Oper} {r r' : List Oper} {l l' : List (Nat × Value)} (hw : Wants ops l o.guard false) (h : Pur ops n r ((d, undef) :: l) r' l') (ho : o.dst = some d := by rfl) (hd : Nat.blt d n = true := by rfl) : Pur ops n (o :: r) l r' l'
theorem Ex.move (hx : Val l x vx) : Ex n l ⟨d, .move x, t, p, af, g⟩ (Pure.pure vx) := fun _ h => ex_move h hx
theorem Ex.assign (hx : Val l x vx) : Ex n l ⟨d, .assign x, t, p, af, g⟩ (Pure.pure vx) := fun _ h => ex_assign h hx
theorem Ex.pick {c : Operand} {b : Bool} {v : Value} (hc : Val l c (.bool b)) (hv : Val l (if b then x else y) v) : Ex n l ⟨d, .pick c x y, t, p, af, g⟩ (Pure.pure v) := fun _ h => ex_pick h hc hv
theorem Ex.extract {i : Nat} {vs : Array Value} {v : Value} (hx : Val l x (.tuple vs)) (hi : vs[i]? = some v) : Ex n l ⟨d, .extract x i, t, p, af, g⟩ (Pure.pure v) := fun _ h => ex_extract h hx hi
end
section
variable {P : Program} {n : Nat} {l l' : List (Nat × Value)} {ops : Array Oper} {Q : Exit → Act → World → Prop} {w : World} {rest rest' : List Oper} {cd c2 : Code}
def WL (P : Program) (n : Nat) (ops : Array Oper) (Q : Exit → Act → World → Prop) (rest : List Oper) (l : List (Nat × Value)) (w : World) : Prop := ∀ a, Kn n l a → wpList P ops Q rest a w
def WC (P : Program) (n : Nat) (c : Code) (Q : Exit → Act → World → Prop) (l : List (Nat × Value)) (w : World) : Prop := ∀ a, Kn n l a → c.wp P Q a w
def WS (P : Program) (n : Nat) (ops : Array Oper) (w : World) (Q : Act → Prop) (rest : List Oper) (l : List (Nat × Value)) : Prop := ∀ a, Kn n l a → wpStill P ops w Q rest a
namespace Z
theorem q (H : ∀ K : Act → World → Prop, (∀ a w, c2.wp P Q a w → K a w) → WC P n cd (Exit.then K Q) l w) : WC P n (cd.seq c2) Q l w := fun a h => wp_seq_k fun K hK => H K hK a h
theorem r {id : Nat} {os : List Oper} (H : WL P n os.toArray Q os l w) : WC P n (Code.region id os.toArray false) Q l w := fun a h => wp_region_lit (H a h)
theorem f {id : Nat} {os : List Oper} (H : ∀ K : Act → World → Prop, (∀ a w, c2.wp P Q a w → K a w) → WL P n os.toArray (Exit.then K Q) os l w) : WC P n ((Code.region id os.toArray false).seq c2) Q l w := q fun K hK => r (H K hK)
theorem u (h : Pur ops n rest l rest' l') (H : WL P n ops Q rest' l' w) : WL P n ops Q rest l w := by
  induction h with
  | n => exact H
  | m hx _ hd ih => exact fun a h => pure h rfl hd .none (ex_move h hx) fun a h => ih H a h
  | a hx _ hd ih => exact fun a h => pure h rfl hd .none (ex_assign h hx) fun a h => ih H a h
  | x hx hi _ hd ih => exact fun a h => pure h rfl hd .none (ex_extract h hx hi) fun a h => ih H a h
  | e hw he _ ho hd ih => exact fun a h => pure h ho hd hw (he a h) fun a h => ih H a h
  | k hw _ ho hd ih => exact fun a h => skip h ho hd hw fun a h => ih H a h
theorem us {Q : Act → Prop} (h : Pur ops n rest l rest' l') (H : WS P n ops w Q rest' l') : WS P n ops w Q rest l := by
  induction h with
  | n => exact H
  | m hx _ hd ih => exact fun a h => spure h rfl hd .none (ex_move h hx) fun a h => ih H a h
  | a hx _ hd ih => exact fun a h => spure h rfl hd .none (ex_assign h hx) fun a h => ih H a h
  | x hx hi _ hd ih => exact fun a h => spure h rfl hd .none (ex_extract h hx hi) fun a h => ih H a h
  | e hw he _ ho hd ih => exact fun a h => spure h ho hd hw (he a h) fun a h => ih H a h
  | k hw _ ho hd ih => exact fun a h => sskip h ho hd hw fun a h => ih H a h
theorem s {o : Oper} {d : Tmp} {s : Sem Value} (hw : Wants ops l o.guard true) (he : Ex n l o s) (H : ∀ K : Value → World → Prop, (∀ v w', WL P n ops Q rest ((d, v) :: l) w' → K v w') → Sat K (s.run P w)) (ho : o.dst = some d := by rfl) (hd : Nat.blt d n = true := by rfl) : WL P n ops Q (o :: rest) l w :=
  fun a h => step h ho hd hw (he a h) fun K hK => H K fun v w' hn => hK v w' hn
theorem k {o : Oper} {d : Tmp} {s : Sem Value} {v : Value} {w' : World} (hw : Wants ops l o.guard true) (he : Ex n l o s) (hr : s.run P w = .ok v w') (H : WL P n ops Q rest ((d, v) :: l) w') (ho : o.dst = some d := by rfl) (hd : Nat.blt d n = true := by rfl) : WL P n ops Q (o :: rest) l w :=
  fun a h => known h ho hd hw (he a h) hr fun a h => H a h
theorem su {o : Oper} {s : Sem Unit} (hw : Wants ops l o.guard true) (he : ExU n l o s) (H : ∀ K : World → Prop, (∀ w', WL P n ops Q rest l w' → K w') → SatU K (s.run P w)) (ho : o.dst = none := by rfl) : WL P n ops Q (o :: rest) l w :=
  fun a h => stepU h ho hw (he a h) fun K hK => H K fun w' hn => hK w' (hn a h)
theorem c {o : Oper} {d : Tmp} {f : FuncId} {args : Array Value} {R : Ending → World → Prop} (hw : Wants ops l o.guard true) (he : ExC n l o f args) (hc : ∀ (args : Array Value) (w : World), (callFunc f args).run P w = .ok (.enter f args) w) (hR : Calls P f args w R)
    (H : ∀ e w', R e w' → ∃ v, e = .returned v ∧ WL P n ops Q rest ((d, v) :: l) w') (ho : o.dst = some d := by rfl) (hd : Nat.blt d n = true := by rfl) : WL P n ops Q (o :: rest) l w :=
  fun a h => call h ho hd hw (he a h) hc hR fun e w' hr => by
    obtain ⟨v, e1, hn⟩ := H e w' hr;exact ⟨v, e1, hn⟩
theorem ss {Q : Act → Prop} {o : Oper} {d : Tmp} {s : Sem Value} (hw : Wants ops l o.guard true) (he : Ex n l o s) (H : ∀ K : Value → World → Prop, (∀ v, WS P n ops w Q rest ((d, v) :: l) → K v w) → Sat K (s.run P w)) (ho : o.dst = some d := by rfl) (hd : Nat.blt d n = true := by rfl) : WS P n ops w Q (o :: rest) l :=
  fun a h => sstep h ho hd hw (he a h) fun K hK => H K fun v hn => hK v hn
theorem sc {Q : Act → Prop} {o : Oper} {d : Tmp} {f : FuncId} {args : Array Value} {v : Value} (hw : Wants ops l o.guard true) (he : ExC n l o f args) (hc : ∀ (args : Array Value) (w : World), (callFunc f args).run P w = .ok (.enter f args) w) (hR : Calls P f args w fun e w' => e = .returned v ∧ w = w')
    (H : WS P n ops w Q rest ((d, v) :: l)) (ho : o.dst = some d := by rfl) (hd : Nat.blt d n = true := by rfl) : WS P n ops w Q (o :: rest) l := fun a h => scall h ho hd hw (he a h) hc hR fun a h => H a h
theorem st {id : Nat} {os : List Oper} (hm : P.follows .mixedOrders = true) (hB : Region.lexB .any os.toArray = true) (H : WS P n os.toArray w.drew (fun a' => Q .normal a' w.drew) os l) : WC P n (Code.region id os.toArray true) Q l w := fun a h => still hm hB (H a h)
theorem e {K : Act → World → Prop} (J : ∀ a w, c2.wp P Q a w → K a w) (H : WC P n c2 Q l w) : WL P n ops (Exit.then K Q) [] l w := fun a h => wpList_nil (J _ _ (H a h))
theorem se {w0 : World} {K : Act → World → Prop} (J : ∀ a w, c2.wp P Q a w → K a w) (H : WC P n c2 Q l w) : WS P n ops w0 (fun a' => Exit.then K Q .normal a' w) [] l := fun a h => wpStill_nil (J _ _ (H a h))
theorem y {x : Operand} (hv : Val l x (.bool true)) (H : WC P n cd Q l w) : WC P n (Code.cond x cd c2) Q l w := fun a h => yes h hv (H a h)
theorem no {x : Operand} (hv : Val l x (.bool false)) (H : WC P n c2 Q l w) : WC P n (Code.cond x cd c2) Q l w := fun a h => Kn.no h hv (H a h)
theorem j {K : Act → World → Prop} (J : ∀ a w, c2.wp P Q a w → K a w) (H : WC P n c2 Q l w) : WC P n .skip (Exit.then K Q) l w := fun a h => wp_skip (J _ _ (H a h))
theorem t (hs : Sub l l') (H : WC P n cd Q l' w) : WC P n cd Q l w := fun a h => H a (h.cut hs)
theorem b {i : Nat} (H : WC P n cd (Exit.inBlock i Q) l w) : WC P n (Code.block i cd) Q l w := fun a h => wp_block (H a h)
theorem g (S : World → Prop) (hS : S w) (H : ∀ u, S u → WC P n cd Q l u) : WC P n cd Q l w := H w hS
theorem cl {f : FuncId} {fn : Func} {args : Array Value} {R : Ending → World → Prop} (hf : P.funcs[f]? = some fn) (hb : fn.body = some cd) (hn : fn.ntmps = n) (ha : Nat.ble args.size n = true) (hl : Ins args l)
    (H : WC P n cd (bodyPost P fn R) l w) : Calls P f args w R := calls hf hb hn ha hl fun a h => H a h
end Z
end
end Go.Proofs.Ytkbkdbnmpicidaa.Kn
end
section
namespace Go.Proofs.Ytkbkdbnmpicidaa.Own
open Go Go.RowKit Go.Lib
structure Kept (v v' : World) (r : Option Nat) (g' : Nat) : Prop where
  at' : r = some g' ∨ v.heap.size ≤ g'
  lt : g' < v'.heap.size
  size : v.heap.size ≤ v'.heap.size
  grown : v.grownBy v' r
theorem Kept.cell {v v' : World} {r : Option Nat} {g' b o : Nat} (h : Kept v v' r g') (hlt : b < v.heap.size) (hne : some b ≠ r) : v'.cell? ⟨b, o, none⟩ = v.cell? ⟨b, o, none⟩ := h.grown.cell_far ⟨b, o, none⟩ hlt hne
structure Elem (P : Program) (T e : TypeId) (z : Value) (size bytes : Nat) : Prop where
  under : P.underlying T = some (.slice e)
  info : (P.info? e).map (fun i => (i.zero, i.size, i.bytes)) = some (some z, size, bytes)
  cells : z.cells.size = size
  pos : 0 < size
section
variable {P : Program} {T e : TypeId} {z : Value} {size bytes : Nat}
theorem Elem.parts (h : Elem P T e z size bytes) : ∃ i, P.info? e = some i ∧ i.zero = some z ∧ i.size = size ∧ i.bytes = bytes := by
  have hi := h.info
  cases hq : P.info? e with
  | none => rw [hq] at hi; cases hi
  | some i =>
    rw [hq] at hi;simp only [Option.map_some, Option.some.injEq, Prod.mk.injEq] at hi;exact ⟨i, rfl, hi.1, hi.2.1, hi.2.2⟩
theorem append (h : Elem P T e z size bytes) (w0 v : World) (ty : TypeId) (A : Option Addr) (n cap m c : Nat) (xs : List Value) (hO : v.ownsRow w0.heap.size e size (.slice A n cap) n xs)
    (b : Addr) (news : List Value) (hl : news.length = m * size) (hnews : ∀ j u, news[j]? = some u → v.cell? (b.add j) = some u) (h1 : ∀ u ∈ news, u.oneCell' = true) (hp : 0 < n + m) (hmax : n + m ≤ maxLen) (hby : (n + m) * bytes ≤ 140737488355328) (hb : Below w0.heap.size w0 v) :
    ∃ g' cap' v', (Builtin.append_ #[T, T] ty #[.slice A n cap, .slice (some b) m c]).run P v = .ok (.slice (some ⟨g', 0, none⟩) (n + m) cap') v' ∧
      v'.ownsRow w0.heap.size e size (.slice (some ⟨g', 0, none⟩) (n + m) cap') (n + m) (xs ++ news) ∧ Below w0.heap.size w0 v' ∧ Kept v v' (Value.slice A n cap).ownBlock g' := by
  obtain ⟨i, hi, hz0, hz1, hz2⟩ := h.parts;obtain ⟨v1, v', hrun, h3, h4, _, h5⟩ := run_append_own_at (P := P) (w := v) w0.heap.size T ty e i z size bytes h.under hi hz0 hz1 hz2 h.cells h.pos (.slice A n cap) n xs hO b m c news hl hnews h1 hmax hby hb.size;obtain ⟨g', cap', rfl, h6, h7⟩ := h3.form hp;refine ⟨g', cap', v', hrun, h3, hb.grown h4 hb.size (fun k hk => (hO.lt k hk).1), ?_, h7, h4.size, h4⟩;rcases h5 with h | h
  · exact .inl (by rw [← h]; rfl)
  · simp [Value.ownBlock] at h; exact .inr (by omega)
theorem row_on {w w' : World} {B size n : Nat} {e : TypeId} {d : Value} {xs : List Value} (h : w.ownsRow B e size d n xs) (hb : Below w.heap.size w w') : w'.ownsRow B e size d n xs := by
  obtain ⟨h1, h2⟩ := h;refine ⟨h1, ?_⟩;rcases h2 with h2 | ⟨g, cap, cur, e1, e2, e3, e4⟩
  · exact .inl h2
  · refine .inr ⟨g, cap, cur, e1, e2, ?_, e4⟩
    rw [hb.block g (by
      rcases Nat.lt_or_ge g w.heap.size with h | h
      · exact h
      · rw [Array.getElem?_eq_none h] at e3; cases e3)]
    exact e3
end
end Go.Proofs.Ytkbkdbnmpicidaa.Own
end
section
namespace Go.Proofs.Ytkbkdbnmpicidaa.St
open Go Go.RowKit Go.Lib
def rowD : TypeDesc → Bool
  | .struct _ => true
  | .array _ _ => true
  | _ => false
def St (w : World) (g : Nat) (T : TypeId) (cs : Array Value) : Prop := w.heap[g]? = some (.cells cs T (0, 0))
section
variable {w w' : World} {g : Nat} {T : TypeId} {cs : Array Value}
theorem St.lt (h : St w g T cs) : g < w.heap.size := (Array.getElem?_eq_some_iff.1 h).1
theorem St.on (h : St w g T cs) (hb : Below w.heap.size w w') : St w' g T cs := (hb.block g h.lt).trans h
theorem St.alloc (h : St w g T cs) (o : Obj) : St (w.alloc o) g T cs := ((Below.refl w.heap.size w).alloc (Nat.le_refl _) o |>.block g h.lt).trans h
theorem St.drew (h : St w g T cs) : St w.drew g T cs := h
theorem St.cell (h : St w g T cs) (i : Nat) {v : Value} (hv : cs[i]? = some v) : w.cell? ⟨g, i, none⟩ = some v := (cell_of_row w g i cs T (0, 0) h).trans hv
theorem St.setRow (h : St w g T cs) {k : Nat} (hk : g ≠ k) (xs : Array Value) : St (w.setRow k xs) g T cs := (setRow_other w k g xs hk).trans h
theorem St.setCell (h : St w g T cs) {a : Addr} (hk : g ≠ a.block) (v : Value) : St (w.setCell a v) g T cs := (heap_setCell_other w a g v hk).trans h
theorem St.put (h : St w g T cs) (i : Nat) (v : Value) : St (w.setCell ⟨g, i, none⟩ v) g T (cs.setIfInBounds i v) := heap_setCell_same w g i cs T v h
theorem St.store {P : Program} {cells : Array Value} (h : St w g T cs) (hi : (P.info? T).map (·.size) = some cells.size) (ho : cs.size = cells.size) (h1 : cells.all (·.oneCell') = true) :
    (Instr.storeAt T (.pointer (some ⟨g, 0, none⟩)) (.agg cells)).run P w = .ok () (w.setRow g cells) ∧ St (w.setRow g cells) g T cells ∧ ∀ B, B ≤ g → Below B w (w.setRow g cells) := by
  refine ⟨?_, setRow_heap w g cs cells T (0, 0) h, fun B hB => below_setRow (Below.refl B w) hB cells⟩;have hs := run_storeVar_row (P := P) w g T T cs cells h hi ho h1;simp only [Instr.storeAt, Instr.sureAddr, Sem.run_bind, Sem.run_pure, Result.andThen_ok];exact hs
theorem St.load {P : Program} {d : TypeDesc} (h : St w g T cs) (hu : P.underlying T = some d) (hd : rowD d = true) (hi : (P.info? T).map (·.size) = some cs.size) :
    (loadVar T ⟨g, 0, none⟩).run P w = .ok (.agg cs) w := by
  cases d <;> first | exact run_loadVar_row w g T T cs (0, 0) _ h hu rfl hi | cases hd
end
end Go.Proofs.Ytkbkdbnmpicidaa.St
namespace Go.Proofs.Ytkbkdbnmpicidaa.Kn
open Go
section
variable {P : Program} {n : Nat} {l : List (Nat × Value)} {a : Act} {w : World}
end
end Go.Proofs.Ytkbkdbnmpicidaa.Kn
end
section
namespace Go.Proofs.Ytkbkdbnmpicidaa.RowG
open Go Go.RowKit Go.Lib
structure Rw (α : Type) where
  enc : α → List Value
  size : Nat
  len : ∀ a, (enc a).length = size
  one : ∀ a u, u ∈ enc a → u.oneCell' = true
variable {α : Type} (R : Rw α)
theorem addr_add (b o j : Nat) : (⟨b, o, none⟩ : Addr).add j = ⟨b, o + j, none⟩ := by unfold Addr.add; split <;> simp_all
def cs (l : List α) : List Value := l.flatMap R.enc
theorem cs_of (hs : 0 < R.size) : ∀ (l : List α) (k : Nat) (u : Value), (cs R l)[k]? = some u → ∃ a, l[k / R.size]? = some a ∧ (R.enc a)[k % R.size]? = some u
  | [], k, u, h => by simp [cs] at h
  | x :: l, k, u, h => by
    unfold cs at h;rw [List.flatMap_cons] at h;rcases Nat.lt_or_ge k R.size with hk | hk
    · rw [List.getElem?_append_left (by rw [R.len]; exact hk)] at h;rw [Nat.div_eq_of_lt hk, Nat.mod_eq_of_lt hk];exact ⟨x, rfl, h⟩
    · rw [List.getElem?_append_right (by rw [R.len]; exact hk), R.len] at h;obtain ⟨a, h1, h2⟩ := cs_of hs l (k - R.size) u h;have e1 : k / R.size = (k - R.size) / R.size + 1 := by rw [Nat.div_eq_sub_div hs hk]
      have e2 : (k - R.size) % R.size = k % R.size := (Nat.mod_eq_sub_mod hk).symm;exact ⟨a, by rw [e1]; simpa using h1, by rw [← e2]; exact h2⟩
def RIn (w : World) (A : Option Addr) (l : List α) : Prop := ∀ (i : Nat) (a : α), l[i]? = some a → ∃ b o, A = some ⟨b, o, none⟩ ∧ b < w.heap.size ∧ ∀ (j : Nat) (u : Value), (R.enc a)[j]? = some u → w.cell? ⟨b, o + (i * R.size + j), none⟩ = some u
variable {R} {w w' : World} {A : Option Addr} {l : List α}
theorem RIn.nil : RIn R w A [] := fun i a h => by simp at h
theorem RIn.on (h : RIn R w A l) (hb : Below w.heap.size w w') : RIn R w' A l := fun i a hi => by
  obtain ⟨b, o, e, hlt, h1⟩ := h i a hi;exact ⟨b, o, e, Nat.lt_of_lt_of_le hlt hb.size, fun j u hu => (hb.cell (p := ⟨b, o + (i * R.size + j), none⟩) hlt).trans (h1 j u hu)⟩
theorem RIn.drew (h : RIn R w A l) : RIn R w.drew A l := h
theorem RIn.cell {b o : Nat} (h : RIn R w (some ⟨b, o, none⟩) l) {i j : Nat} {a : α} {u : Value} (hi : l[i]? = some a) (hu : (R.enc a)[j]? = some u) : w.cell? ⟨b, o + (i * R.size + j), none⟩ = some u := by
  obtain ⟨b', o', e, _, h1⟩ := h i a hi;cases e;exact h1 j u hu
theorem RIn.news {b o : Nat} (h : RIn R w (some ⟨b, o, none⟩) l) (hs : 0 < R.size) : ∀ j u, (cs R l)[j]? = some u → w.cell? ((⟨b, o, none⟩ : Addr).add j) = some u := fun j u hu => by
  obtain ⟨a, h1, h2⟩ := cs_of R hs l j u hu;have := h.cell h1 h2;rw [addr_add]
  rwa [Nat.mul_comm, Nat.div_add_mod] at this
def ROwn (R : Rw α) (e : TypeId) (w : World) (B : Nat) (A : Option Addr) (n cap : Nat) (l : List α) : Prop := n = l.length ∧ w.ownsRow B e R.size (.slice A n cap) n (cs R l)
variable {e : TypeId} {B n cap : Nat}
theorem ROwn.lt {g : Nat} (h : ROwn R e w B (some ⟨g, 0, none⟩) n cap l) : g < w.heap.size := (h.2.lt g rfl).2
theorem ROwn.alloc (h : ROwn R e w B A n cap l) (o : Obj) : ROwn R e (w.alloc o) B A n cap l := ⟨h.1, h.2.alloc o⟩
theorem ROwn.drew (h : ROwn R e w B A n cap l) : ROwn R e w.drew B A n cap l := h
theorem ROwn.on (h : ROwn R e w B A n cap l) (hb : Below w.heap.size w w') : ROwn R e w' B A n cap l := ⟨h.1, Own.row_on h.2 hb⟩
theorem ROwn.none : ROwn R e w B none 0 0 [] := ⟨rfl, World.ownsRow_nil _ _ _ _⟩
theorem ROwn.mono {B' : Nat} (h : ROwn R e w B A n cap l) (hB : B' ≤ B) : ROwn R e w B' A n cap l := by
  refine ⟨h.1, h.2.1, ?_⟩;rcases h.2.2 with hn | ⟨g, cap', cur, hv, hb, rest⟩
  · exact .inl hn
  · exact .inr ⟨g, cap', cur, hv, Nat.le_trans hB hb, rest⟩
end Go.Proofs.Ytkbkdbnmpicidaa.RowG
end
section
namespace Go.Proofs.Ytkbkdbnmpicidaa.RowG
open Go Go.RowKit Go.Lib
def Hold {α : Type} (R : Rw α) (w : World) (g : Nat) (l : List α) : Prop := g < w.heap.size ∧ ∀ (i : Nat) (a : α), l[i]? = some a → ∀ (j : Nat) (u : Value), (R.enc a)[j]? = some u → w.cell? ⟨g, i * R.size + j, none⟩ = some u ∧ w.frozen? ⟨g, i * R.size + j, none⟩ = false
section
variable {α : Type} {R : Rw α} {w w' : World} {g : Nat} {l : List α}
theorem Hold.at (h : Hold R w g l) (hs : w.heap.size ≤ w'.heap.size) (e : w'.heap[g]? = w.heap[g]?) : Hold R w' g l := ⟨Nat.lt_of_lt_of_le h.1 hs, fun i a hi j u hu => by
  obtain ⟨h1, h2⟩ := h.2 i a hi j u hu
  exact ⟨by simp only [World.cell?, e]; exact h1, by simp only [World.frozen?, e]; exact h2⟩⟩
theorem Hold.on (h : Hold R w g l) (hb : Below w.heap.size w w') : Hold R w' g l := h.at hb.size (hb.block g h.1)
theorem Hold.cell (h : Hold R w g l) {i j : Nat} {a : α} {u : Value} (hi : l[i]? = some a) (hu : (R.enc a)[j]? = some u) : w.cell? ⟨g, i * R.size + j, none⟩ = some u := (h.2 i a hi j u hu).1
theorem Hold.there (h : Hold R w g l) {k : Nat} (hk : k < l.length) : w.there g (k * R.size) R.size := fun j hj => by
  have hj2 : j < (R.enc l[k]).length := by rw [R.len]; exact hj
  obtain ⟨h1, h2⟩ := h.2 k l[k] (List.getElem?_eq_getElem hk) j (R.enc l[k])[j] (List.getElem?_eq_getElem hj2);exact ⟨by rw [h1]; rfl, h2⟩
theorem size_setCellsG (b : Nat) : ∀ (vs : List Value) (o : Nat) (w : World), (w.setCells b o vs).heap.size = w.heap.size
  | [], _, _ => rfl
  | v :: r, o, w => by rw [World.setCells, size_setCellsG b r]; simp [World.setCell]
theorem Hold.set (h : Hold R w g l) (k : Nat) (hk : k < l.length) (a : α) : Hold R (w.setCells g (k * R.size) (R.enc a)) g (l.set k a) := by
  refine ⟨by rw [size_setCellsG]; exact h.1, fun i b hi j u hu => ?_⟩;have hj : j < R.size := by have := (List.getElem?_eq_some_iff.1 hu).1; rwa [R.len] at this
  rw [World.frozen?_setCells];have ht := h.there hk
  by_cases e : i = k
  · subst e;rw [List.getElem?_set_self hk] at hi;cases hi;obtain ⟨hj2, e2⟩ := List.getElem?_eq_some_iff.1 hu;refine ⟨?_, (ht j hj).2⟩;rw [World.cell?_setCells_in g (R.enc a) (i * R.size) w (fun j' hj' => (ht j' (by rwa [R.len] at hj')).1) j hj2, e2]
  · rw [List.getElem?_set_ne (fun q => e q.symm)] at hi;obtain ⟨h1, h2⟩ := h.2 i b hi j u hu;refine ⟨?_, h2⟩;rw [World.cell?_setCells_out g (R.enc a) (k * R.size) w ⟨g, i * R.size + j, none⟩ (fun _ _ => ?_)]
    · exact h1
    · show i * R.size + j < k * R.size ∨ k * R.size + (R.enc a).length ≤ i * R.size + j;rw [R.len];rcases Nat.lt_or_gt_of_ne e with q | q
      · left
        have := Nat.mul_le_mul_right R.size (show i + 1 ≤ k from q);rw [Nat.add_mul] at this;omega
      · right
        have := Nat.mul_le_mul_right R.size (show k + 1 ≤ i from q);rw [Nat.add_mul] at this;omega
end
end Go.Proofs.Ytkbkdbnmpicidaa.RowG
end
section
namespace Go.Proofs.Ytkbkdbnmpicidaa.Num
open Go Go.RowKit Go.Lib
def nt (l : List Int) (i : Nat) : Int := l.getD i 0
theorem nt_at (l : List Int) (i : Nat) (h : i < l.length) : nt l i = l[i] := by simp [nt, List.getD, List.getElem?_eq_getElem h]
def iV (n : Int) : Value := .int .i64 n
theorem addr_add (b o j : Nat) : (⟨b, o, none⟩ : Addr).add j = ⟨b, o + j, none⟩ := by unfold Addr.add; split <;> simp_all
def IIn (w : World) (A : Option Addr) (l : List Int) : Prop := ∀ i, i < l.length → ∃ b o, A = some ⟨b, o, none⟩ ∧ b < w.heap.size ∧ w.cell? ⟨b, o + i, none⟩ = some (.int .i64 (nt l i))
theorem IIn.on {w w' : World} {A : Option Addr} {l : List Int} (h : IIn w A l) (hb : Below w.heap.size w w') : IIn w' A l := fun i hi => by
  obtain ⟨b, o, e, hlt, h1⟩ := h i hi;exact ⟨b, o, e, Nat.lt_of_lt_of_le hlt hb.size, (hb.cell (p := ⟨b, o + i, none⟩) hlt).trans h1⟩
theorem IIn.nil (w : World) (A : Option Addr) : IIn w A [] := fun i hi => absurd hi (by simp)
theorem IIn.cells {w : World} {b o : Nat} {l : List Int} (h : IIn w (some ⟨b, o, none⟩) l) {i : Nat} (hi : i < l.length) : w.cell? ⟨b, o + i, none⟩ = some (.int .i64 (nt l i)) := by
  obtain ⟨b', o', e, _, h1⟩ := h i hi;cases e;exact h1
theorem IIn.news {w : World} {b o : Nat} {l : List Int} (h : IIn w (some ⟨b, o, none⟩) l) : ∀ j u, (l.map iV)[j]? = some u → w.cell? ((⟨b, o, none⟩ : Addr).add j) = some u := fun j u hu => by
  have hj : j < l.length := by
    rcases Nat.lt_or_ge j l.length with h' | h'
    · exact h'
    · rw [List.getElem?_eq_none (by simpa using h')] at hu; cases hu
  rw [addr_add, h.cells hj, nt_at _ _ hj];rw [List.getElem?_map, List.getElem?_eq_getElem hj] at hu;exact hu
def OwnI (w : World) (B : Nat) (A : Option Addr) (n cap : Nat) (l : List Int) : Prop := n = l.length ∧ w.ownsRow B 3 1 (.slice A n cap) n (l.map iV)
theorem OwnI.lt {w : World} {B g n cap : Nat} {l : List Int} (h : OwnI w B (some ⟨g, 0, none⟩) n cap l) : g < w.heap.size := (h.2.lt g rfl).2
theorem OwnI.alloc {w : World} {B n cap : Nat} {A : Option Addr} {l : List Int} (h : OwnI w B A n cap l) (o : Obj) : OwnI (w.alloc o) B A n cap l := ⟨h.1, h.2.alloc o⟩
theorem OwnI.drew {w : World} {B n cap : Nat} {A : Option Addr} {l : List Int} (h : OwnI w B A n cap l) : OwnI w.drew B A n cap l := h
theorem OwnI.on {w w' : World} {B n cap : Nat} {A : Option Addr} {l : List Int} (h : OwnI w B A n cap l) (hb : Below w.heap.size w w') : OwnI w' B A n cap l := ⟨h.1, Own.row_on h.2 hb⟩
theorem OwnI.none (w : World) (B : Nat) : OwnI w B none 0 0 [] := ⟨rfl, World.ownsRow_nil _ _ _ _⟩
end Go.Proofs.Ytkbkdbnmpicidaa.Num
end
section
namespace Go.Proofs.Ytkbkdbnmpicidaa.Num
open Go Go.RowKit Go.Lib
structure But (X : Nat → Prop) (u u' : World) : Prop where
  size : u.heap.size ≤ u'.heap.size
  block : ∀ b, b < u.heap.size → ¬ X b → u'.heap[b]? = u.heap[b]?
theorem But.of_below {u u' : World} {X : Nat → Prop} (h : Below u.heap.size u u') : But X u u' := ⟨h.size, fun b hb _ => h.block b hb⟩
theorem But.of_setCell (u : World) (a : Addr) (v : Value) : But (fun b => b = a.block) u (u.setCell a v) := ⟨by simp [World.setCell], fun b _ hn => heap_setCell_other u a b v hn⟩
theorem But.mono {X Y : Nat → Prop} {u u' : World} (h : But X u u') (hx : ∀ b, b < u.heap.size → X b → Y b) : But Y u u' := ⟨h.size, fun b hb hn => h.block b hb fun hxb => hn (hx b hb hxb)⟩
theorem But.trans {X : Nat → Prop} {u u' u'' : World} (h : But X u u') (h' : But X u' u'') : But X u u'' := ⟨Nat.le_trans h.size h'.size, fun b hb hn => (h'.block b (Nat.lt_of_lt_of_le hb h.size) hn).trans (h.block b hb hn)⟩
theorem But.cell {X : Nat → Prop} {u u' : World} (h : But X u u') {b o : Nat} (hb : b < u.heap.size) (hn : ¬ X b) : u'.cell? ⟨b, o, none⟩ = u.cell? ⟨b, o, none⟩ := by simp only [World.cell?, h.block b hb hn]
section
variable {X : Nat → Prop} {u u' : World}
theorem But.st (h : But X u u') {g : Nat} {T : TypeId} {cs : Array Value} (hs : St.St u g T cs) (hn : ¬ X g) : St.St u' g T cs := (h.block g hs.lt hn).trans hs
theorem But.own (h : But X u u') {B g n cap : Nat} {l : List Int} (hO : OwnI u B (some ⟨g, 0, none⟩) n cap l) (hn : ¬ X g) : OwnI u' B (some ⟨g, 0, none⟩) n cap l := by
  obtain ⟨h1, h2, h3⟩ := hO;refine ⟨h1, h2, ?_⟩;rcases h3 with ⟨hv, hn0⟩ | ⟨g', cap', cur, hv, hB, hg, rest⟩
  · exact .inl ⟨hv, hn0⟩
  · have hv2 := hv;simp only [Value.slice.injEq, Option.some.injEq, Addr.mk.injEq] at hv2;obtain ⟨⟨e, _, _⟩, _, _⟩ := hv2;subst e;exact .inr ⟨g, cap', cur, hv, hB, (h.block g (Array.getElem?_eq_some_iff.1 hg).1 hn).trans hg, rest⟩
end
def LIn (w : World) (A : Option Addr) (ls : List (List Int)) : Prop := ∀ (i : Nat) l, ls[i]? = some l → ∃ b o Y c, A = some ⟨b, o, none⟩ ∧ b < w.heap.size ∧ w.cell? ⟨b, o + i, none⟩ = some (.slice Y l.length c) ∧ IIn w Y l
theorem LIn.on {w w' : World} {A : Option Addr} {ls : List (List Int)} (h : LIn w A ls) (hb : Below w.heap.size w w') : LIn w' A ls := fun i l hi => by
  obtain ⟨b, o, Y, c, e, hlt, h1, h2⟩ := h i l hi;exact ⟨b, o, Y, c, e, Nat.lt_of_lt_of_le hlt hb.size, (hb.cell (p := ⟨b, o + i, none⟩) hlt).trans h1, h2.on hb⟩
theorem LIn.nil (w : World) (A : Option Addr) : LIn w A [] := fun i l h => by simp at h
section
variable {w0 u u' : World} {A : Option Addr} {n cap : Nat} {ls : List (List Int)} {X Y : Nat → Prop}
end
end Go.Proofs.Ytkbkdbnmpicidaa.Num
end
section
namespace Go.Proofs.Ytkbkdbnmpicidaa.Kn
open Go
section
variable {P : Program} {n : Nat} {l : List (Nat × Value)} {a : Act}
end
end Go.Proofs.Ytkbkdbnmpicidaa.Kn
namespace Go.Proofs.Ytkbkdbnmpicidaa.Num
open Go Go.RowKit Go.Lib
def HoldI (w : World) (g : Nat) (l : List Int) : Prop := ∀ i, i < l.length → w.cell? ⟨g, i, none⟩ = some (.int .i64 (nt l i)) ∧ w.frozen? ⟨g, i, none⟩ = false
theorem HoldI.at {w w' : World} {g : Nat} {l : List Int} (h : HoldI w g l) (e : w'.heap[g]? = w.heap[g]?) : HoldI w' g l := fun i hi => by
  obtain ⟨h1, h2⟩ := h i hi;exact ⟨by simp only [World.cell?, e]; exact h1, by simp only [World.frozen?, e]; exact h2⟩
theorem HoldI.on {w w' : World} {g : Nat} {l : List Int} (h : HoldI w g l) (hb : Below w.heap.size w w') : HoldI w' g l := fun i hi => by
  have hlt : g < w.heap.size := World.block_lt_of_cell? _ _ (h i hi).1;exact h.at (hb.block g hlt) i hi
theorem HoldI.drew {w : World} {g : Nat} {l : List Int} (h : HoldI w g l) : HoldI w.drew g l := h
theorem nt_set (l : List Int) (k i : Nat) (e : Int) (hi : i < l.length) : nt (l.set k e) i = if i = k then e else nt l i := by
  rw [nt_at _ _ (by simpa using hi), nt_at _ _ hi, List.getElem_set]
  by_cases h : i = k
  · subst h; simp
  · rw [if_neg (fun q => h q.symm), if_neg h]
theorem satU_run {r : Result Unit} {v : World} (H : Kn.SatU (fun w' => w' = v) r) : r = .ok () v := by
  cases r with
  | ok y w' => cases H; rfl
  | halt y w' => exact H.elim
theorem HoldI.store {w : World} {g : Nat} {l : List Int} (h : HoldI w g l) (k : Nat) (hk : k < l.length) (a : Int) :
    ∃ w', (Instr.storeAt 3 (.pointer (some ⟨g, k, none⟩)) (.int .i64 a)).run Try.prog w = .ok () w' ∧ HoldI w' g (l.set k a) ∧ (∀ b, b ≠ g → w'.heap[b]? = w.heap[b]?) ∧ w'.heap.size = w.heap.size ∧ (∀ B, B ≤ g → Below B w w') := by
  obtain ⟨c1, f1⟩ := h k hk;have hd : (w.setCell ⟨g, k, none⟩ (.int .i64 a)).heap.size = w.heap.size := by simp [World.setCell]
  refine ⟨w.setCell ⟨g, k, none⟩ (.int .i64 a), ?_, fun i hi => ?_, fun b hb => heap_setCell_other w _ b _ hb, hd, fun B hB => (Below.refl B w).setCell hB _⟩
  · refine satU_run ?_;go_simp;try simp [c1, f1]
  · have hi' : i < l.length := by simpa using hi
    rw [World.frozen?_setCell, nt_set l k i a hi'];refine ⟨?_, (h i hi').2⟩
    by_cases e : i = k
    · subst e;rw [if_pos rfl, World.cell?_setCell_same' _ _ _ (by rw [c1]; rfl)]
    · rw [if_neg e, World.cell?_setCell_other _ _ _ _ (by simp [e])];exact (h i hi').1
end Go.Proofs.Ytkbkdbnmpicidaa.Num
end
section
namespace Go.Proofs.Ytkbkdbnmpicidaa.RowG
open Go Go.RowKit Go.Lib
variable {α : Type} {R : Rw α} {e : TypeId} {n cap : Nat} {A : Option Addr} {l : List α}
theorem ROwn.at' {w : World} {B : Nat} (h : ROwn R e w B A n cap l) : n = 0 ∨ ∃ g, A = some ⟨g, 0, Option.none⟩ ∧ B ≤ g ∧ g < w.heap.size := by
  rcases h.2.2 with ⟨hv, hn⟩ | ⟨g, cap', cur, hv, hb, hg, _⟩
  · left; injection hv with _ e1 _
  · right
    injection hv with e1 _ _
    exact ⟨g, e1, hb, (Array.getElem?_eq_some_iff.1 hg).1⟩
end Go.Proofs.Ytkbkdbnmpicidaa.RowG
namespace Go.Proofs.Ytkbkdbnmpicidaa.Kn
open Go
end Go.Proofs.Ytkbkdbnmpicidaa.Kn
namespace Go.Proofs.Ytkbkdbnmpicidaa.Blk
open Go Go.RowKit Go.Lib RowG Num
structure Aside (lo hi : Nat) (v v' : World) : Prop where
  os : v'.os = v.os
  tape : v'.tape = v.tape
  output : v'.output = v.output
  but : But (fun b => lo ≤ b ∧ b < hi) v v'
theorem Aside.of_below {lo hi : Nat} {v v' : World} (h : Below v.heap.size v v') : Aside lo hi v v' := ⟨h.os, h.tape, h.output, But.of_below h⟩
theorem Aside.refl {lo hi : Nat} (v : World) : Aside lo hi v v := .of_below (Below.refl _ _)
theorem Aside.trans {lo hi : Nat} {a b c : World} (h : Aside lo hi a b) (k : Aside lo hi b c) : Aside lo hi a c := ⟨k.os.trans h.os, k.tape.trans h.tape, k.output.trans h.output, h.but.trans k.but⟩
theorem Aside.put {lo hi : Nat} {a b : World} (h : Aside lo hi a b) (g o : Nat) (x : Value) (h1 : lo ≤ g) (h2 : g < hi) : Aside lo hi a (b.setCell ⟨g, o, none⟩ x) := h.trans ⟨rfl, rfl, rfl, (But.of_setCell b ⟨g, o, none⟩ x).mono fun b _ e => by
  subst e
  exact ⟨h1, h2⟩⟩
structure Turn (X : Nat → Prop) (v v' : World) : Prop where
  os : v'.os = v.os
  tape : v'.tape = v.tape
  output : v'.output = v.output
  but : But X v v'
theorem Turn.of_below {X : Nat → Prop} {u u' : World} (h : Below u.heap.size u u') : Turn X u u' := ⟨h.os, h.tape, h.output, But.of_below h⟩
theorem Aside.turn {X : Nat → Prop} {lo hi : Nat} {v v' : World} (h : Aside lo hi v v') (hx : ∀ b, lo ≤ b → b < hi → X b) : Turn X v v' := ⟨h.os, h.tape, h.output, h.but.mono fun b _ e => hx b e.1 e.2⟩
end Go.Proofs.Ytkbkdbnmpicidaa.Blk
end
section
namespace Go.Proofs.Ytkbkdbnmpicidaa.Kn
open Go
section
variable {P : Program} {n : Nat} {l : List (Nat × Value)} {a : Act} {w : World}
theorem ret3 {fn : Func} {R : Ending → World → Prop} {t u x : Tmp} {v1 v2 v3 : Value} (h : Kn n l a) (hr : fn.results = #[.tmp t, .tmp u, .tmp x]) (h1 : find l t = some v1) (h2 : find l u = some v2) (h3 : find l x = some v3) (H : R (.returned (.tuple #[v1, v2, v3])) w) : bodyPost P fn R .ret a w :=
  bodyPost_ret (results_tmp3 hr _ _ _) h.defers (by have e1 := h.get t v1 h1; have e2 := h.get u v2 h2; have e3 := h.get x v3 h3; simp only [Act.eval] at e1 e2 e3; rw [e1, e2, e3]; exact H)
end
end Go.Proofs.Ytkbkdbnmpicidaa.Kn
end
section
namespace Go.Proofs.Ytkbkdbnmpicidaa.Blk
open Go Go.RowKit Go.Lib
set_option maxRecDepth 100000 in
set_option maxHeartbeats 2000000 in
theorem count_any (n : Nat) (w : World) (hn : n ≤ 9223372036854775807) :
    Calls Try.prog 7 #[.int .i64 n] w fun e w' => e = .returned (.int .i64 (cntK n : Int)) ∧ w = w' := by
  refine Kn.Z.cl Try.func7 rfl Try.ntmps7 rfl (.c 0 rfl .n) ?_;refine Kn.Z.f fun K1 hK1=>?_;refine Kn.Z.u (.a .c .n) ?_;refine Kn.Z.e hK1 ?_;clear hK1 K1
  by_cases h1 : (n : Int) < 1
  · refine Kn.Z.q fun K2 hK2=>?_;refine Kn.Z.f fun K3 hK3=>?_;refine Kn.Z.u (.m (.t rfl) .n) ?_;refine Kn.Z.s .o (.bin (.t rfl) .c) fun Ko Kp=>?_;go_simp;(try go_bits);refine Kp _ _ ?_;clear Kp Ko;refine Kn.Z.e hK3 ?_;clear hK3 K3;refine Kn.Z.y (.t rfl) ?_;refine Kn.Z.f fun K4 hK4=>?_;refine Kn.Z.u (.a .c .n) ?_;refine Kn.Z.e hK4 ?_;clear hK4 K4;intro fa fh;refine wp_ret ?_;refine Kn.then_ret ?_;obtain rfl : n = 0 := by omega
    exact Kn.ret1 fh rfl rfl ⟨rfl, rfl⟩
  obtain ⟨m, hm⟩ : ∃ m, n - 1 = m := ⟨_, rfl⟩;obtain ⟨c, hc⟩ : ∃ c, m / 64 = c := ⟨_, rfl⟩;obtain ⟨d, hd⟩ : ∃ d, cntK n = d := ⟨_, rfl⟩;have hcd : c + 1 = d := by unfold cntK at hd; omega
  intro fb fg;rw [hd];have r1 : (n : Int) - 1 = (m : Int) := by omega
  have r2 : (m : Int).tdiv 64 = (c : Int) := by rw [Int.tdiv_eq_ediv_of_nonneg (by omega)]; omega
  have r3 : (c : Int) + 1 = (d : Int) := by omega
  have hc2 : c ≤ 144115188075855872 := by omega
  have hd2 : d ≤ 144115188075855873 := by omega
  clear hd hm hc hcd
  revert fb
  refine Kn.Z.q fun K2 hK2=>?_;refine Kn.Z.f fun K3 hK3=>?_;refine Kn.Z.u (.m (.t rfl) .n) ?_;refine Kn.Z.s .o (.bin (.t rfl) .c) fun Ko Kp=>?_;go_simp;(try go_bits);refine Kp _ _ ?_;clear Kp Ko;refine Kn.Z.e hK3 ?_;clear hK3 K3;refine Kn.Z.no (.t rfl) ?_;refine Kn.Z.j hK2 ?_;clear hK2 K2;refine Kn.Z.f fun K4 hK4=>?_;refine Kn.Z.u (.m (.t rfl) .n) ?_;refine Kn.Z.s .o (.bin (.t rfl) .c) fun Ko Kp=>?_;go_simp;(try go_bits);refine Kp _ _ ?_;clear Kp Ko;refine Kn.Z.s .o (.bin (.t rfl) .c) fun Ko Kp=>?_;go_simp;(try go_bits);refine Kp _ _ ?_;clear Kp Ko;refine Kn.Z.s .o (.bin (.t rfl) .c) fun Ko Kp=>?_;go_simp;(try go_bits);refine Kp _ _ ?_;clear Kp Ko;refine Kn.Z.u (.a (.t rfl) .n) ?_;refine Kn.Z.e hK4 ?_;clear hK4 K4;intro fa fh;refine wp_ret ?_;exact Kn.ret1 fh rfl rfl ⟨rfl, rfl⟩
set_option maxRecDepth 100000 in
set_option maxHeartbeats 2000000 in
theorem size_any (n : Nat) (i : Int) (w : World) (hn : n ≤ 9223372036854775807) :
    Calls Try.prog 8 #[.int .i64 n, .int .i64 i] w fun e w' => e = .returned (.int .i64 (szK n i : Int)) ∧ w = w' := by
  refine Kn.Z.cl Try.func8 rfl Try.ntmps8 rfl (.c 0 rfl (.c 1 rfl .n)) ?_;refine Kn.Z.f fun K1 hK1=>?_;refine Kn.Z.u (.a .c .n) ?_;refine Kn.Z.e hK1 ?_;clear hK1 K1
  by_cases h1 : i < 0
  · refine Kn.Z.q fun K2 hK2=>?_;refine Kn.Z.f fun K3 hK3=>?_;refine Kn.Z.u (.m (.t rfl) .n) ?_;refine Kn.Z.s .o (.bin (.t rfl) .c) fun Ko Kp=>?_;go_simp;(try go_bits);refine Kp _ _ ?_;clear Kp Ko;refine Kn.Z.u (.m (.t rfl) (.k (.s rfl rfl rfl) (.k (.s rfl rfl rfl) (.k (.s rfl rfl rfl) (.k (.s rfl rfl rfl) (.e .o (.pick (.t rfl) .c) .n)))))) ?_;refine Kn.Z.e hK3 ?_;clear hK3 K3;refine Kn.Z.y (.t rfl) ?_;refine Kn.Z.f fun K4 hK4=>?_;refine Kn.Z.u (.a .c .n) ?_;refine Kn.Z.e hK4 ?_;clear hK4 K4;intro fa fh;refine wp_ret ?_;refine Kn.then_ret ?_;rw [show szK n i = 0 by unfold szK; rw [if_neg (by omega)]];exact Kn.ret1 fh rfl rfl ⟨rfl, rfl⟩
  by_cases h2 : (cntK n : Int) ≤ i
  · refine Kn.Z.q fun K2 hK2=>?_;refine Kn.Z.f fun K3 hK3=>?_;refine Kn.Z.u (.m (.t rfl) .n) ?_;refine Kn.Z.s .o (.bin (.t rfl) .c) fun Ko Kp=>?_;go_simp;(try go_bits);refine Kp _ _ ?_;clear Kp Ko;refine Kn.Z.u (.m (.t rfl) (.e (.s rfl rfl rfl) (.move (.t rfl)) (.e (.s rfl rfl rfl) (.move (.t rfl)) .n))) ?_;refine Kn.Z.c (.s rfl rfl rfl) (.call (.c (.t rfl) .n)) Try.call7 (count_any n w hn) fun e w1 hp=>?_;obtain ⟨rfl, rfl⟩ := hp;refine ⟨_,rfl,?_⟩;refine Kn.Z.s (.s rfl rfl rfl) (.bin (.t rfl) (.t rfl)) fun Ko Kp=>?_;go_simp;(try go_bits);refine Kp _ _ ?_;clear Kp Ko;refine Kn.Z.u (.e .o (.pick (.t rfl) (.t rfl)) .n) ?_;refine Kn.Z.e hK3 ?_;clear hK3 K3;refine Kn.Z.y (.t rfl) ?_;refine Kn.Z.f fun K4 hK4=>?_;refine Kn.Z.u (.a .c .n) ?_;refine Kn.Z.e hK4 ?_;clear hK4 K4;intro fa fh;refine wp_ret ?_;refine Kn.then_ret ?_;rw [show szK n i = 0 by unfold szK; rw [if_neg (by omega)]];exact Kn.ret1 fh rfl rfl ⟨rfl, rfl⟩
  obtain ⟨k, rfl⟩ := Int.eq_ofNat_of_zero_le (show 0 ≤ i by omega);have hk : k < cntK n := by omega
  intro fb fg;rw [szK_at hk];obtain ⟨p, hp⟩ : ∃ p, 64 * k = p := ⟨_, rfl⟩;rw [hp];have hpn : p < n := by unfold cntK at hk; omega
  obtain ⟨q, hq⟩ : ∃ q, n - p = q := ⟨_, rfl⟩;rw [hq];have r1 : (k : Int) * 64 = (p : Int) := by omega
  have r2 : (n : Int) - (p : Int) = (q : Int) := by omega
  clear hp hq hpn hk
  revert fb
  refine Kn.Z.q fun K2 hK2=>?_;refine Kn.Z.f fun K3 hK3=>?_;refine Kn.Z.u (.m (.t rfl) .n) ?_;refine Kn.Z.s .o (.bin (.t rfl) .c) fun Ko Kp=>?_;go_simp;(try go_bits);refine Kp _ _ ?_;clear Kp Ko;refine Kn.Z.u (.m (.t rfl) (.e (.s rfl rfl rfl) (.move (.t rfl)) (.e (.s rfl rfl rfl) (.move (.t rfl)) .n))) ?_;refine Kn.Z.c (.s rfl rfl rfl) (.call (.c (.t rfl) .n)) Try.call7 (count_any n w hn) fun e w1 hp=>?_;obtain ⟨rfl, rfl⟩ := hp;refine ⟨_,rfl,?_⟩;refine Kn.Z.s (.s rfl rfl rfl) (.bin (.t rfl) (.t rfl)) fun Ko Kp=>?_;go_simp;(try go_bits);refine Kp _ _ ?_;clear Kp Ko;refine Kn.Z.u (.e .o (.pick (.t rfl) (.t rfl)) .n) ?_;refine Kn.Z.e hK3 ?_;clear hK3 K3;refine Kn.Z.no (.t rfl) ?_;refine Kn.Z.j hK2 ?_;clear hK2 K2;refine Kn.Z.f fun K4 hK4=>?_;refine Kn.Z.u (.m (.t rfl) (.m (.t rfl) .n)) ?_;refine Kn.Z.s .o (.bin (.t rfl) .c) fun Ko Kp=>?_;go_simp;(try go_bits);refine Kp _ _ ?_;clear Kp Ko;refine Kn.Z.s .o (.bin (.t rfl) (.t rfl)) fun Ko Kp=>?_;go_simp;(try go_bits);refine Kp _ _ ?_;clear Kp Ko;refine Kn.Z.s .o (.min (.c .c (.c (.t rfl) .n))) fun Ko Kp=>?_;go_simp;(try go_bits);refine Kp _ _ ?_;clear Kp Ko;refine Kn.Z.u (.a (.t rfl) .n) ?_;refine Kn.Z.e hK4 ?_;clear hK4 K4;refine Kn.Z.t (.c 4 rfl .n) ?_;intro fb fg;refine wp_ret ?_;refine Kn.ret1 fg rfl rfl ⟨?_, rfl⟩
  by_cases hq : 64 ≤ q
  · first | go_num | (simp [Nat.min_eq_left hq]; try omega)
  · first | go_num | (simp [Nat.min_eq_right (Nat.le_of_not_le hq)]; try omega)
set_option maxRecDepth 100000 in
set_option maxHeartbeats 2000000 in
theorem needs_in (n f m : Nat) (w : World) (hn : n ≤ 9223372036854775807) (hfm : f + m ≤ n) :
    Calls Try.prog 9 #[.int .i64 n, .int .i64 f, .int .i64 m] w fun e w' => e = .returned (.tuple #[.int .i64 (ndA f m), .int .i64 (ndB f m), .nilIface]) ∧ w = w' := by
  refine Kn.Z.cl Try.func9 rfl Try.ntmps9 rfl (.c 0 rfl (.c 1 rfl (.c 2 rfl .n))) ?_;refine Kn.Z.f fun K1 hK1=>?_;refine Kn.Z.u (.a .c (.a .c (.a .c .n))) ?_;refine Kn.Z.e hK1 ?_;clear hK1 K1;obtain ⟨d, hd⟩ : ∃ d, n - f = d := ⟨_, rfl⟩;have r1 : (n : Int) - (f : Int) = (d : Int) := by omega
  have h3 : ¬ n < f := by omega
  have h4 : ¬ d < m := by omega
  by_cases hm : m = 0
  · subst hm;intro fb fg;unfold ndA ndB;simp only [if_true];clear hd hfm
    revert fb
    refine Kn.Z.q fun K2 hK2=>?_;refine Kn.Z.f fun K3 hK3=>?_;refine Kn.Z.u (.m (.t rfl) .n) ?_;refine Kn.Z.s .o (.bin (.t rfl) .c) fun Ko Kp=>?_;go_simp;(try go_bits);refine Kp _ _ ?_;clear Kp Ko;refine Kn.Z.u (.m (.t rfl) (.e (.s rfl rfl rfl) (.move (.t rfl)) .n)) ?_;refine Kn.Z.s (.s rfl rfl rfl) (.bin (.t rfl) .c) fun Ko Kp=>?_;go_simp;(try go_bits);refine Kp _ _ ?_;clear Kp Ko;refine Kn.Z.u (.e .o (.pick (.t rfl) (.t rfl)) (.m (.t rfl) (.e (.s rfl rfl rfl) (.move (.t rfl)) (.e (.s rfl rfl rfl) (.move (.t rfl)) .n)))) ?_;refine Kn.Z.s (.s rfl rfl rfl) (.bin (.t rfl) (.t rfl)) fun Ko Kp=>?_;go_simp;(try go_bits);refine Kp _ _ ?_;clear Kp Ko;refine Kn.Z.u (.e .o (.pick (.t rfl) (.t rfl)) (.m (.t rfl) (.e (.s rfl rfl rfl) (.move (.t rfl)) (.e (.s rfl rfl rfl) (.move (.t rfl)) (.e (.s rfl rfl rfl) (.move (.t rfl)) .n))))) ?_;refine Kn.Z.s (.s rfl rfl rfl) (.bin (.t rfl) (.t rfl)) fun Ko Kp=>?_;go_simp;(try go_bits);refine Kp _ _ ?_;clear Kp Ko;refine Kn.Z.s (.s rfl rfl rfl) (.bin (.t rfl) (.t rfl)) fun Ko Kp=>?_;go_simp;(try go_bits);refine Kp _ _ ?_;clear Kp Ko;refine Kn.Z.u (.e .o (.pick (.t rfl) (.t rfl)) .n) ?_;refine Kn.Z.e hK3 ?_;clear hK3 K3;refine Kn.Z.t (.c 26 rfl (.c 8 rfl (.c 7 rfl (.c 6 rfl (.c 1 rfl (.c 2 rfl .n)))))) ?_;refine Kn.Z.no (.t rfl) ?_;refine Kn.Z.j hK2 ?_;clear hK2 K2;refine Kn.Z.q fun K4 hK4=>?_;refine Kn.Z.f fun K5 hK5=>?_;refine Kn.Z.u (.m (.t rfl) .n) ?_;refine Kn.Z.s .o (.bin (.t rfl) .c) fun Ko Kp=>?_;go_simp;(try go_bits);refine Kp _ _ ?_;clear Kp Ko;refine Kn.Z.e hK5 ?_;clear hK5 K5;refine Kn.Z.y (.t rfl) ?_;refine Kn.Z.f fun K6 hK6=>?_;refine Kn.Z.u (.a .c (.a .c (.a .c .n))) ?_;refine Kn.Z.e hK6 ?_;clear hK6 K6;intro fa fh;refine wp_ret ?_;refine Kn.then_ret ?_;exact Kn.ret3 fh rfl rfl rfl rfl ⟨rfl, rfl⟩
  obtain ⟨a, ha⟩ : ∃ a, f / 64 = a := ⟨_, rfl⟩;obtain ⟨s, hs⟩ : ∃ s, f + m = s := ⟨_, rfl⟩;obtain ⟨t, ht⟩ : ∃ t, s - 1 = t := ⟨_, rfl⟩;obtain ⟨b, hb⟩ : ∃ b, t / 64 = b := ⟨_, rfl⟩;have r2 : (f : Int).tdiv 64 = (a : Int) := by rw [Int.tdiv_eq_ediv_of_nonneg (by omega)]; omega
  have r3 : (f : Int) + (m : Int) = (s : Int) := by omega
  have r4 : (s : Int) - 1 = (t : Int) := by omega
  have r5 : (t : Int).tdiv 64 = (b : Int) := by rw [Int.tdiv_eq_ediv_of_nonneg (by omega)]; omega
  have qz : ((m : Int) == 0) = false := by rw [beq_eq_false_iff_ne]; omega
  have hs2 : s ≤ 9223372036854775807 := by omega
  have ha2 : a ≤ 144115188075855872 := by omega
  have hb2 : b ≤ 144115188075855872 := by omega
  intro fb fg;unfold ndA ndB;simp only [if_neg hm, hs, ht, ha, hb];clear hd hfm ha hs ht hb hm
  revert fb
  refine Kn.Z.q fun K2 hK2=>?_;refine Kn.Z.f fun K3 hK3=>?_;refine Kn.Z.u (.m (.t rfl) .n) ?_;refine Kn.Z.s .o (.bin (.t rfl) .c) fun Ko Kp=>?_;go_simp;(try go_bits);refine Kp _ _ ?_;clear Kp Ko;refine Kn.Z.u (.m (.t rfl) (.e (.s rfl rfl rfl) (.move (.t rfl)) .n)) ?_;refine Kn.Z.s (.s rfl rfl rfl) (.bin (.t rfl) .c) fun Ko Kp=>?_;go_simp;(try go_bits);refine Kp _ _ ?_;clear Kp Ko;refine Kn.Z.u (.e .o (.pick (.t rfl) (.t rfl)) (.m (.t rfl) (.e (.s rfl rfl rfl) (.move (.t rfl)) (.e (.s rfl rfl rfl) (.move (.t rfl)) .n)))) ?_;refine Kn.Z.s (.s rfl rfl rfl) (.bin (.t rfl) (.t rfl)) fun Ko Kp=>?_;go_simp;(try go_bits);refine Kp _ _ ?_;clear Kp Ko;refine Kn.Z.u (.e .o (.pick (.t rfl) (.t rfl)) (.m (.t rfl) (.e (.s rfl rfl rfl) (.move (.t rfl)) (.e (.s rfl rfl rfl) (.move (.t rfl)) (.e (.s rfl rfl rfl) (.move (.t rfl)) .n))))) ?_;refine Kn.Z.s (.s rfl rfl rfl) (.bin (.t rfl) (.t rfl)) fun Ko Kp=>?_;go_simp;(try go_bits);refine Kp _ _ ?_;clear Kp Ko;refine Kn.Z.s (.s rfl rfl rfl) (.bin (.t rfl) (.t rfl)) fun Ko Kp=>?_;go_simp;(try go_bits);refine Kp _ _ ?_;clear Kp Ko;refine Kn.Z.u (.e .o (.pick (.t rfl) (.t rfl)) .n) ?_;refine Kn.Z.e hK3 ?_;clear hK3 K3;refine Kn.Z.t (.c 26 rfl (.c 8 rfl (.c 7 rfl (.c 6 rfl (.c 1 rfl (.c 2 rfl .n)))))) ?_;refine Kn.Z.no (.t rfl) ?_;refine Kn.Z.j hK2 ?_;clear hK2 K2;refine Kn.Z.q fun K4 hK4=>?_;refine Kn.Z.f fun K5 hK5=>?_;refine Kn.Z.u (.m (.t rfl) .n) ?_;refine Kn.Z.s .o (.bin (.t rfl) .c) fun Ko Kp=>?_;go_simp;(try go_bits);refine Kp _ _ ?_;clear Kp Ko;refine Kn.Z.e hK5 ?_;clear hK5 K5;refine Kn.Z.no (.t rfl) ?_;refine Kn.Z.j hK4 ?_;clear hK4 K4;refine Kn.Z.f fun K6 hK6=>?_;refine Kn.Z.u (.m (.t rfl) .n) ?_;refine Kn.Z.s .o (.bin (.t rfl) .c) fun Ko Kp=>?_;go_simp;(try go_bits);refine Kp _ _ ?_;clear Kp Ko;refine Kn.Z.u (.m (.t rfl) (.m (.t rfl) .n)) ?_;refine Kn.Z.s .o (.bin (.t rfl) (.t rfl)) fun Ko Kp=>?_;go_simp;(try go_bits);refine Kp _ _ ?_;clear Kp Ko;refine Kn.Z.s .o (.bin (.t rfl) .c) fun Ko Kp=>?_;go_simp;(try go_bits);refine Kp _ _ ?_;clear Kp Ko;refine Kn.Z.s .o (.bin (.t rfl) .c) fun Ko Kp=>?_;go_simp;(try go_bits);refine Kp _ _ ?_;clear Kp Ko;refine Kn.Z.u (.a (.t rfl) (.a (.t rfl) (.a .c .n))) ?_;refine Kn.Z.e hK6 ?_;clear hK6 K6;refine Kn.Z.t (.c 8 rfl (.c 7 rfl (.c 6 rfl .n))) ?_;intro fb fg;refine wp_ret ?_;exact Kn.ret3 fg rfl rfl rfl rfl ⟨rfl, rfl⟩
end Go.Proofs.Ytkbkdbnmpicidaa.Blk
end
section
namespace Go.Proofs.Ytkbkdbnmpicidaa.Blk
open Go Go.RowKit Go.Lib
set_option maxRecDepth 100000 in
set_option maxHeartbeats 2000000 in
theorem awake8 (hcount : ∀ (n : Nat) u, n ≤ 20000 → Calls Try.prog 7 #[.int .i64 n] u fun e v => e = .returned (.int .i64 (cntK n : Int)) ∧ Below u.heap.size u v)
    (hsize : ∀ (n : Nat) (i : Int) u, n ≤ 20000 → -1 ≤ i → i ≤ 1000 → Calls Try.prog 8 #[.int .i64 n, .int .i64 i] u fun e v => e = .returned (.int .i64 (szK n i : Int)) ∧ Below u.heap.size u v)
    (w : World) : Calls Try.prog 5 #[] w fun e v => e = .returned (.bool true) ∧ Below w.heap.size w v := by
  refine Kn.Z.cl Try.func5 rfl Try.ntmps5 rfl .n ?_;refine Kn.Z.f fun K1 hK1=>?_;refine Kn.Z.u (.a .c .n) ?_;refine Kn.Z.e hK1 ?_;clear hK1 K1;have h1 := hcount 65 w (by omega);have h2 := fun u => hsize 65 1 u (by omega) (by omega) (by omega);have h3 := fun u => hsize 65 0 u (by omega) (by omega) (by omega);have e1 : ((cntK 65 : Nat) : Int) = 2 := by decide
  have e2 : ((szK 65 1 : Nat) : Int) = 1 := by decide
  have e3 : ((szK 65 0 : Nat) : Int) = 64 := by decide
  rw [e1] at h1;simp only [e2] at h2;simp only [e3] at h3;clear e1 e2 e3;refine Kn.Z.f fun K2 hK2=>?_;refine Kn.Z.c .o (.call (.c .c .n)) Try.call7 (h1) fun e w1 hp=>?_;obtain ⟨rfl, hb1⟩ := hp;refine ⟨_,rfl,?_⟩;refine Kn.Z.s .o (.bin (.t rfl) .c) fun Ko Kp=>?_;go_simp;(try go_bits);refine Kp _ _ ?_;clear Kp Ko;refine Kn.Z.u (.m (.t rfl) .n) ?_;refine Kn.Z.c (.s rfl rfl rfl) (.call (.c .c (.c .c .n))) Try.call8 (h2 w1) fun e w2 hp=>?_;obtain ⟨rfl, hb2⟩ := hp;refine ⟨_,rfl,?_⟩;refine Kn.Z.s (.s rfl rfl rfl) (.bin (.t rfl) .c) fun Ko Kp=>?_;go_simp;(try go_bits);refine Kp _ _ ?_;clear Kp Ko;refine Kn.Z.u (.e .o (.pick (.t rfl) (.t rfl)) (.m (.t rfl) .n)) ?_;refine Kn.Z.c (.s rfl rfl rfl) (.call (.c .c (.c .c .n))) Try.call8 (h3 w2) fun e w3 hp=>?_;obtain ⟨rfl, hb3⟩ := hp;refine ⟨_,rfl,?_⟩;refine Kn.Z.s (.s rfl rfl rfl) (.bin (.t rfl) .c) fun Ko Kp=>?_;go_simp;(try go_bits);refine Kp _ _ ?_;clear Kp Ko;refine Kn.Z.u (.e .o (.pick (.t rfl) (.t rfl)) (.a (.t rfl) .n)) ?_;refine Kn.Z.e hK2 ?_;clear hK2 K2;refine Kn.Z.t (.c 0 rfl .n) ?_;intro fa fh;refine wp_ret ?_;exact Kn.ret1 fh rfl rfl ⟨rfl, hb1.trans ((hb2.mono hb1.size).trans (hb3.mono (Nat.le_trans hb1.size hb2.size)))⟩
end Go.Proofs.Ytkbkdbnmpicidaa.Blk
end
section
namespace Go.Proofs.Ytkbkdbnmpicidaa.Blk
open Go Go.RowKit Go.Lib
set_option maxRecDepth 100000 in
set_option maxHeartbeats 8000000 in
theorem spans_all
    (haw : ∀ u, Calls Try.prog 5 #[] u fun e v => e = .returned (.bool true) ∧ Below u.heap.size u v)
    (hcount : ∀ (n : Nat) u, n ≤ 20000 → Calls Try.prog 7 #[.int .i64 n] u fun e v => e = .returned (.int .i64 (cntK n : Int)) ∧ Below u.heap.size u v)
    (hsize : ∀ (n : Nat) (i : Int) u, n ≤ 20000 → Calls Try.prog 8 #[.int .i64 n, .int .i64 i] u fun e v => e = .returned (.int .i64 (szK n i : Int)) ∧ Below u.heap.size u v)
    (hneeds : ∀ (n f m : Nat) u, n ≤ 20000 → f + m ≤ n → Calls Try.prog 9 #[.int .i64 n, .int .i64 f, .int .i64 m] u fun e v => e = .returned (.tuple #[.int .i64 (ndA f m), .int .i64 (ndB f m), .nilIface]) ∧ Below u.heap.size u v)
    (t x y : Nat) (w : World) (ht : t < 65536) (hx : x < 65536) (hy : y < 65536) :
    Calls Try.prog 4 #[.int .u16 t, .int .u16 x, .int .u16 y] w fun e w' => e = .returned (.bool true) ∧ Below w.heap.size w w' := by
  refine Kn.Z.cl Try.func4 rfl Try.ntmps4 rfl (.c 0 rfl (.c 1 rfl (.c 2 rfl .n))) ?_;refine Kn.Z.f fun K1 hK1=>?_;refine Kn.Z.u (.a .c .n) ?_;refine Kn.Z.e hK1 ?_;clear hK1 K1;refine Kn.Z.q fun K2 hK2=>?_;refine Kn.Z.f fun K3 hK3=>?_;refine Kn.Z.c .o (.call .n) Try.call5 (haw w) fun e w1 hp=>?_;obtain ⟨rfl, hb1⟩ := hp;refine ⟨_,rfl,?_⟩;refine Kn.Z.s .o (.un (.t rfl)) fun Ko Kp=>?_;go_simp;(try go_bits);refine Kp _ _ ?_;clear Kp Ko;refine Kn.Z.e hK3 ?_;clear hK3 K3;refine Kn.Z.no (.t rfl) ?_;refine Kn.Z.j hK2 ?_;clear hK2 K2;have HB1 := Lib.hid hb1;clear hb1;obtain ⟨n, hn⟩ : ∃ n, t % 2000 = n := ⟨_, rfl⟩;obtain ⟨f, hf⟩ : ∃ f, x % (n + 1) = f := ⟨_, rfl⟩;obtain ⟨mn, hm⟩ : ∃ q, y % (n - f + 1) = q := ⟨_, rfl⟩;have hn2 : n < 2000 := by omega
  have hf2 : f < n + 1 := by rw [← hf]; exact Nat.mod_lt _ (by omega)
  have hm2 : mn < n - f + 1 := by rw [← hm]; exact Nat.mod_lt _ (by omega)
  obtain ⟨n1, hn1⟩ : ∃ q, n + 1 = q := ⟨_, rfl⟩;obtain ⟨d, hd⟩ : ∃ q, n - f = q := ⟨_, rfl⟩;obtain ⟨d1, hd1⟩ : ∃ q, d + 1 = q := ⟨_, rfl⟩;obtain ⟨fm, hfm⟩ : ∃ q, f + mn = q := ⟨_, rfl⟩;have rt : (t : Int).tmod 2000 = (n : Int) := by rw [Int.tmod_eq_emod_of_nonneg (by omega)]; omega
  have rn : (n : Int) + 1 = (n1 : Int) := by omega
  have rf : (x : Int).tmod (n1 : Int) = (f : Int) := by rw [Int.tmod_eq_emod_of_nonneg (by omega), ← hf, ← hn1]; rfl
  have rd : (n : Int) - (f : Int) = (d : Int) := by omega
  have re : (d : Int) + 1 = (d1 : Int) := by omega
  have rm : (y : Int).tmod (d1 : Int) = (mn : Int) := by rw [Int.tmod_eq_emod_of_nonneg (by omega), ← hm, ← hd1, ← hd]; rfl
  have rs : (f : Int) + (mn : Int) = (fm : Int) := by omega
  refine Kn.Z.f fun K4 hK4=>?_;refine Kn.Z.u (.m (.t rfl) .n) ?_;refine Kn.Z.s .o (.convert (.t rfl)) fun Ko Kp=>?_;go_simp;(try go_bits);refine Kp _ _ ?_;clear Kp Ko;refine Kn.Z.s .o (.bin (.t rfl) .c) fun Ko Kp=>?_;go_simp;(try go_bits);try rw [rt]
  try go_simp
  (try go_bits);refine Kp _ _ ?_;clear Kp Ko;refine Kn.Z.u (.a (.t rfl) .n) ?_;refine Kn.Z.e hK4 ?_;clear hK4 K4;clear rt;have hz1 : ¬ n1 = 0 := by omega
  refine Kn.Z.f fun K5 hK5=>?_;refine Kn.Z.u (.m (.t rfl) .n) ?_;refine Kn.Z.s .o (.convert (.t rfl)) fun Ko Kp=>?_;go_simp;(try go_bits);refine Kp _ _ ?_;clear Kp Ko;refine Kn.Z.u (.m (.t rfl) .n) ?_;refine Kn.Z.s .o (.bin (.t rfl) .c) fun Ko Kp=>?_;go_simp;(try go_bits);refine Kp _ _ ?_;clear Kp Ko;refine Kn.Z.s .o (.bin (.t rfl) (.t rfl)) fun Ko Kp=>?_;go_simp;(try go_bits);try rw [rf]
  try go_simp
  (try go_bits);refine Kp _ _ ?_;clear Kp Ko;refine Kn.Z.u (.a (.t rfl) .n) ?_;refine Kn.Z.e hK5 ?_;clear hK5 K5;refine Kn.Z.t (.c 8 rfl (.c 7 rfl (.c 6 rfl (.c 2 rfl .n)))) ?_;clear rf hf;have hz2 : ¬ d1 = 0 := by omega
  refine Kn.Z.f fun K6 hK6=>?_;refine Kn.Z.u (.m (.t rfl) .n) ?_;refine Kn.Z.s .o (.convert (.t rfl)) fun Ko Kp=>?_;go_simp;(try go_bits);refine Kp _ _ ?_;clear Kp Ko;refine Kn.Z.u (.m (.t rfl) (.m (.t rfl) .n)) ?_;refine Kn.Z.s .o (.bin (.t rfl) (.t rfl)) fun Ko Kp=>?_;go_simp;(try go_bits);refine Kp _ _ ?_;clear Kp Ko;refine Kn.Z.s .o (.bin (.t rfl) .c) fun Ko Kp=>?_;go_simp;(try go_bits);refine Kp _ _ ?_;clear Kp Ko;refine Kn.Z.s .o (.bin (.t rfl) (.t rfl)) fun Ko Kp=>?_;go_simp;(try go_bits);try rw [rm]
  try go_simp
  (try go_bits);refine Kp _ _ ?_;clear Kp Ko;refine Kn.Z.u (.a (.t rfl) .n) ?_;refine Kn.Z.e hK6 ?_;clear hK6 K6;clear rm hm rn re rd hz1 hz2;have hnd := hneeds n f mn w1 (by omega) (by omega);obtain ⟨a, ha⟩ : ∃ a, ndA f mn = a := ⟨_, rfl⟩;obtain ⟨b, hbb⟩ : ∃ b, ndB f mn = b := ⟨_, rfl⟩;rw [ha, hbb] at hnd;refine Kn.Z.f fun K7 hK7=>?_;refine Kn.Z.u (.m (.t rfl) (.m (.t rfl) (.m (.t rfl) .n))) ?_;refine Kn.Z.c .o (.call (.c (.t rfl) (.c (.t rfl) (.c (.t rfl) .n)))) Try.call9 (hnd) fun e w2 hp=>?_;obtain ⟨rfl, hb2⟩ := hp;refine ⟨_,rfl,?_⟩;refine Kn.Z.u (.m (.t rfl) (.x (.t rfl) rfl (.x (.t rfl) rfl (.x (.t rfl) rfl (.a (.t rfl) (.a (.t rfl) (.a (.t rfl) .n))))))) ?_;refine Kn.Z.e hK7 ?_;clear hK7 K7;refine Kn.Z.t (.c 12 rfl (.c 11 rfl (.c 10 rfl (.c 9 rfl (.c 8 rfl (.c 7 rfl (.c 6 rfl .n))))))) ?_;have HB2 := Lib.hid (HB1.out.trans (hb2.mono HB1.out.size));clear HB1 hb2 hnd;refine Kn.Z.q fun K8 hK8=>?_;refine Kn.Z.f fun K9 hK9=>?_;refine Kn.Z.u (.m (.t rfl) .n) ?_;refine Kn.Z.s .o (.bin (.t rfl) .c) fun Ko Kp=>?_;go_simp;(try go_bits);refine Kp _ _ ?_;clear Kp Ko;refine Kn.Z.e hK9 ?_;clear hK9 K9;refine Kn.Z.no (.t rfl) ?_;refine Kn.Z.j hK8 ?_;clear hK8 K8;refine Kn.Z.f fun K10 hK10=>?_;refine Kn.Z.u (.a .c .n) ?_;refine Kn.Z.e hK10 ?_;clear hK10 K10;refine Kn.Z.q fun K11 hK11=>?_;refine Kn.Z.f fun K12 hK12=>?_;refine Kn.Z.u (.a .c .n) ?_;refine Kn.Z.e hK12 ?_;clear hK12 K12;refine Kn.Z.b ?_;intro fa fh;refine Kn.loop (fun m fr u => ∃ (k : Nat), Kn.Kn 85 [(14, .int .i64 (k : Int)), (13, .int .i64 ((min n (64 * k) : Nat) : Int)), (7, .int .i64 (n : Int)), (8, .int .i64 (f : Int)), (9, .int .i64 (mn : Int)), (10, .int .i64 a), (11, .int .i64 b)] fr ∧ k + m = cntK n ∧ Hid (Below w.heap.size w u)) (cntK n) ⟨0, fh.cut (.u 14 rfl rfl (.u 13 rfl (by simp) (.c 7 rfl (.c 8 rfl (.c 9 rfl (.c 10 rfl (.c 11 rfl .n))))))), by omega, HB2⟩ ?_;clear fh fa;intro m13 fb u hI Kl13 hKl13;obtain ⟨k, fg, hk, HU⟩ := hI;have hcn := hcount n u (by omega)
  by_cases hlt : k < cntK n
  · revert fb
    refine Kn.Z.q fun K14 hK14=>?_;refine Kn.Z.f fun K15 hK15=>?_;refine Kn.Z.u (.m (.t rfl) (.m (.t rfl) .n)) ?_;refine Kn.Z.c .o (.call (.c (.t rfl) .n)) Try.call7 (hcn) fun e u2 hp=>?_;obtain ⟨rfl, hu2⟩ := hp;refine ⟨_,rfl,?_⟩;refine Kn.Z.s .o (.bin (.t rfl) (.t rfl)) fun Ko Kp=>?_;go_simp;(try go_bits);refine Kp _ _ ?_;clear Kp Ko;refine Kn.Z.e hK15 ?_;clear hK15 K15;refine Kn.Z.t (.c 47 rfl (.c 14 rfl (.c 13 rfl (.c 7 rfl (.c 8 rfl (.c 9 rfl (.c 10 rfl (.c 11 rfl .n)))))))) ?_;refine Kn.Z.y (.t rfl) ?_;refine Kn.Z.j hK14 ?_;clear hK14 K14;refine Kn.Z.q fun K16 hK16=>?_;refine Kn.Z.b ?_;have HU2 := Lib.hid (HU.out.trans (hu2.mono HU.out.size));clear hu2;have hsz := hsize n (k : Int) u2 (by omega);refine Kn.Z.f fun K17 hK17=>?_;refine Kn.Z.u (.m (.t rfl) (.m (.t rfl) .n)) ?_;refine Kn.Z.c .o (.call (.c (.t rfl) (.c (.t rfl) .n))) Try.call8 (hsz) fun e u3 hp=>?_;obtain ⟨rfl, hu3⟩ := hp;refine ⟨_,rfl,?_⟩;refine Kn.Z.u (.a (.t rfl) .n) ?_;refine Kn.Z.e hK17 ?_;clear hK17 K17;have HU3 := Lib.hid (HU2.out.trans (hu3.mono HU2.out.size));clear hu3 hsz HU2 hcn;have hsp := spanK (f := f) (m := mn) hlt (by omega);have hst := szK_step hlt;rw [ha, hbb, hfm] at hsp;obtain ⟨z, hz⟩ : ∃ z, szK n (k : Int) = z := ⟨_, rfl⟩;obtain ⟨p, hp⟩ : ∃ p, min n (64 * k) = p := ⟨_, rfl⟩;obtain ⟨p2, hp2⟩ : ∃ p, min n (64 * (k + 1)) = p := ⟨_, rfl⟩;rw [hz, hp, hp2] at hst;rw [hz, hp] at hsp;have hkb : k ≤ 4000 := by unfold cntK at hlt; omega
    have hpb : p ≤ 2000 := by omega
    have hzb : p2 ≤ 2000 := by omega
    have rp : (p : Int) + (z : Int) = (p2 : Int) := by omega
    have hPP : ((min n (64 * (k + 1)) : Nat) : Int) = (p2 : Int) := by rw [hp2]
    by_cases c1 : p < fm
    · by_cases c2 : f < p2
      · by_cases c3 : 0 < mn
        · have d1 : a ≤ (k : Int) := (hsp.1 ⟨c1, by omega, c3⟩).1;have d2 : (k : Int) ≤ b := (hsp.1 ⟨c1, by omega, c3⟩).2;refine Kn.Z.f fun K18 hK18=>?_;refine Kn.Z.u (.m (.t rfl) (.m (.t rfl) (.m (.t rfl) .n))) ?_;refine Kn.Z.s .o (.bin (.t rfl) (.t rfl)) fun Ko Kp=>?_;go_simp;(try go_bits);refine Kp _ _ ?_;clear Kp Ko;refine Kn.Z.s .o (.bin (.t rfl) (.t rfl)) fun Ko Kp=>?_;go_simp;(try go_bits);refine Kp _ _ ?_;clear Kp Ko;refine Kn.Z.u (.m (.t rfl) (.e (.s rfl rfl rfl) (.move (.t rfl)) (.e (.s rfl rfl rfl) (.move (.t rfl)) .n))) ?_;refine Kn.Z.s (.s rfl rfl rfl) (.bin (.t rfl) (.t rfl)) fun Ko Kp=>?_;go_simp;(try go_bits);refine Kp _ _ ?_;clear Kp Ko;refine Kn.Z.u (.e (.s rfl rfl rfl) (.move (.t rfl)) .n) ?_;refine Kn.Z.s (.s rfl rfl rfl) (.bin (.t rfl) (.t rfl)) fun Ko Kp=>?_;go_simp;(try go_bits);refine Kp _ _ ?_;clear Kp Ko;refine Kn.Z.u (.e .o (.pick (.t rfl) (.t rfl)) (.m (.t rfl) (.e (.s rfl rfl rfl) (.move (.t rfl)) .n))) ?_;refine Kn.Z.s (.s rfl rfl rfl) (.bin (.t rfl) .c) fun Ko Kp=>?_;go_simp;(try go_bits);refine Kp _ _ ?_;clear Kp Ko;refine Kn.Z.u (.e .o (.pick (.t rfl) (.t rfl)) (.a (.t rfl) .n)) ?_;refine Kn.Z.e hK18 ?_;clear hK18 K18;refine Kn.Z.t (.c 16 rfl (.c 15 rfl (.c 14 rfl (.c 13 rfl (.c 7 rfl (.c 8 rfl (.c 9 rfl (.c 10 rfl (.c 11 rfl .n))))))))) ?_;refine Kn.Z.q fun K19 hK19=>?_;refine Kn.Z.f fun K20 hK20=>?_;refine Kn.Z.u (.m (.t rfl) (.m (.t rfl) (.m (.t rfl) .n))) ?_;refine Kn.Z.s .o (.bin (.t rfl) (.t rfl)) fun Ko Kp=>?_;go_simp;(try go_bits);refine Kp _ _ ?_;clear Kp Ko;refine Kn.Z.u (.m (.t rfl) (.e (.s rfl rfl rfl) (.move (.t rfl)) (.e (.s rfl rfl rfl) (.move (.t rfl)) .n))) ?_;refine Kn.Z.s (.s rfl rfl rfl) (.bin (.t rfl) (.t rfl)) fun Ko Kp=>?_;go_simp;(try go_bits);refine Kp _ _ ?_;clear Kp Ko;refine Kn.Z.u (.e .o (.pick (.t rfl) (.t rfl)) .n) ?_;refine Kn.Z.s .o (.bin (.t rfl) (.t rfl)) fun Ko Kp=>?_;go_simp;(try go_bits);refine Kp _ _ ?_;clear Kp Ko;refine Kn.Z.e hK20 ?_;clear hK20 K20;refine Kn.Z.t (.c 78 rfl (.c 15 rfl (.c 14 rfl (.c 13 rfl (.c 7 rfl (.c 8 rfl (.c 9 rfl (.c 10 rfl (.c 11 rfl .n))))))))) ?_;refine Kn.Z.no (.t rfl) ?_;refine Kn.Z.j hK19 ?_;clear hK19 K19;refine Kn.Z.r ?_;refine Kn.Z.u (.m (.t rfl) (.m (.t rfl) .n)) ?_;refine Kn.Z.s .o (.bin (.t rfl) (.t rfl)) fun Ko Kp=>?_;go_simp;(try go_bits);refine Kp _ _ ?_;clear Kp Ko;refine Kn.Z.u (.a (.t rfl) .n) ?_;intro fa fh;refine wpList_nil ?_;refine Kn.block_normal ?_;refine hK16 _ _ ?_;clear hK16 K16
          revert fa
          refine Kn.Z.r ?_;refine Kn.Z.u (.m (.t rfl) .n) ?_;refine Kn.Z.s .o (.bin (.t rfl) .c) fun Ko Kp=>?_;go_simp;(try go_bits);refine Kp _ _ ?_;clear Kp Ko;refine Kn.Z.u (.a (.t rfl) .n) ?_;intro fb fg;refine wpList_nil ?_;replace fg := fg.cut (.c 14 rfl (.c 13 rfl (.c 7 rfl (.c 8 rfl (.c 9 rfl (.c 10 rfl (.c 11 rfl .n)))))));exact hKl13 (m13 - 1) _ _ (by omega) ⟨k + 1, fg.cut (.u 14 rfl (by go_num) (.u 13 rfl (by rw [hPP]) (.c 7 rfl (.c 8 rfl (.c 9 rfl (.c 10 rfl (.c 11 rfl .n))))))), by omega, HU3⟩
        by_cases d1 : a ≤ (k : Int)
        · have d2 : ¬ (k : Int) ≤ b := by omega
          refine Kn.Z.f fun K18 hK18=>?_;refine Kn.Z.u (.m (.t rfl) (.m (.t rfl) (.m (.t rfl) .n))) ?_;refine Kn.Z.s .o (.bin (.t rfl) (.t rfl)) fun Ko Kp=>?_;go_simp;(try go_bits);refine Kp _ _ ?_;clear Kp Ko;refine Kn.Z.s .o (.bin (.t rfl) (.t rfl)) fun Ko Kp=>?_;go_simp;(try go_bits);refine Kp _ _ ?_;clear Kp Ko;refine Kn.Z.u (.m (.t rfl) (.e (.s rfl rfl rfl) (.move (.t rfl)) (.e (.s rfl rfl rfl) (.move (.t rfl)) .n))) ?_;refine Kn.Z.s (.s rfl rfl rfl) (.bin (.t rfl) (.t rfl)) fun Ko Kp=>?_;go_simp;(try go_bits);refine Kp _ _ ?_;clear Kp Ko;refine Kn.Z.u (.e (.s rfl rfl rfl) (.move (.t rfl)) .n) ?_;refine Kn.Z.s (.s rfl rfl rfl) (.bin (.t rfl) (.t rfl)) fun Ko Kp=>?_;go_simp;(try go_bits);refine Kp _ _ ?_;clear Kp Ko;refine Kn.Z.u (.e .o (.pick (.t rfl) (.t rfl)) (.m (.t rfl) (.e (.s rfl rfl rfl) (.move (.t rfl)) .n))) ?_;refine Kn.Z.s (.s rfl rfl rfl) (.bin (.t rfl) .c) fun Ko Kp=>?_;go_simp;(try go_bits);refine Kp _ _ ?_;clear Kp Ko;refine Kn.Z.u (.e .o (.pick (.t rfl) (.t rfl)) (.a (.t rfl) .n)) ?_;refine Kn.Z.e hK18 ?_;clear hK18 K18;refine Kn.Z.t (.c 16 rfl (.c 15 rfl (.c 14 rfl (.c 13 rfl (.c 7 rfl (.c 8 rfl (.c 9 rfl (.c 10 rfl (.c 11 rfl .n))))))))) ?_;refine Kn.Z.q fun K19 hK19=>?_;refine Kn.Z.f fun K20 hK20=>?_;refine Kn.Z.u (.m (.t rfl) (.m (.t rfl) (.m (.t rfl) .n))) ?_;refine Kn.Z.s .o (.bin (.t rfl) (.t rfl)) fun Ko Kp=>?_;go_simp;(try go_bits);refine Kp _ _ ?_;clear Kp Ko;refine Kn.Z.u (.m (.t rfl) (.e (.s rfl rfl rfl) (.move (.t rfl)) (.e (.s rfl rfl rfl) (.move (.t rfl)) .n))) ?_;refine Kn.Z.s (.s rfl rfl rfl) (.bin (.t rfl) (.t rfl)) fun Ko Kp=>?_;go_simp;(try go_bits);refine Kp _ _ ?_;clear Kp Ko;refine Kn.Z.u (.e .o (.pick (.t rfl) (.t rfl)) .n) ?_;refine Kn.Z.s .o (.bin (.t rfl) (.t rfl)) fun Ko Kp=>?_;go_simp;(try go_bits);refine Kp _ _ ?_;clear Kp Ko;refine Kn.Z.e hK20 ?_;clear hK20 K20;refine Kn.Z.t (.c 78 rfl (.c 15 rfl (.c 14 rfl (.c 13 rfl (.c 7 rfl (.c 8 rfl (.c 9 rfl (.c 10 rfl (.c 11 rfl .n))))))))) ?_;refine Kn.Z.no (.t rfl) ?_;refine Kn.Z.j hK19 ?_;clear hK19 K19;refine Kn.Z.r ?_;refine Kn.Z.u (.m (.t rfl) (.m (.t rfl) .n)) ?_;refine Kn.Z.s .o (.bin (.t rfl) (.t rfl)) fun Ko Kp=>?_;go_simp;(try go_bits);refine Kp _ _ ?_;clear Kp Ko;refine Kn.Z.u (.a (.t rfl) .n) ?_;intro fa fh;refine wpList_nil ?_;refine Kn.block_normal ?_;refine hK16 _ _ ?_;clear hK16 K16
          revert fa
          refine Kn.Z.r ?_;refine Kn.Z.u (.m (.t rfl) .n) ?_;refine Kn.Z.s .o (.bin (.t rfl) .c) fun Ko Kp=>?_;go_simp;(try go_bits);refine Kp _ _ ?_;clear Kp Ko;refine Kn.Z.u (.a (.t rfl) .n) ?_;intro fb fg;refine wpList_nil ?_;replace fg := fg.cut (.c 14 rfl (.c 13 rfl (.c 7 rfl (.c 8 rfl (.c 9 rfl (.c 10 rfl (.c 11 rfl .n)))))));exact hKl13 (m13 - 1) _ _ (by omega) ⟨k + 1, fg.cut (.u 14 rfl (by go_num) (.u 13 rfl (by rw [hPP]) (.c 7 rfl (.c 8 rfl (.c 9 rfl (.c 10 rfl (.c 11 rfl .n))))))), by omega, HU3⟩
        refine Kn.Z.f fun K18 hK18=>?_;refine Kn.Z.u (.m (.t rfl) (.m (.t rfl) (.m (.t rfl) .n))) ?_;refine Kn.Z.s .o (.bin (.t rfl) (.t rfl)) fun Ko Kp=>?_;go_simp;(try go_bits);refine Kp _ _ ?_;clear Kp Ko;refine Kn.Z.s .o (.bin (.t rfl) (.t rfl)) fun Ko Kp=>?_;go_simp;(try go_bits);refine Kp _ _ ?_;clear Kp Ko;refine Kn.Z.u (.m (.t rfl) (.e (.s rfl rfl rfl) (.move (.t rfl)) (.e (.s rfl rfl rfl) (.move (.t rfl)) .n))) ?_;refine Kn.Z.s (.s rfl rfl rfl) (.bin (.t rfl) (.t rfl)) fun Ko Kp=>?_;go_simp;(try go_bits);refine Kp _ _ ?_;clear Kp Ko;refine Kn.Z.u (.e (.s rfl rfl rfl) (.move (.t rfl)) .n) ?_;refine Kn.Z.s (.s rfl rfl rfl) (.bin (.t rfl) (.t rfl)) fun Ko Kp=>?_;go_simp;(try go_bits);refine Kp _ _ ?_;clear Kp Ko;refine Kn.Z.u (.e .o (.pick (.t rfl) (.t rfl)) (.m (.t rfl) (.e (.s rfl rfl rfl) (.move (.t rfl)) .n))) ?_;refine Kn.Z.s (.s rfl rfl rfl) (.bin (.t rfl) .c) fun Ko Kp=>?_;go_simp;(try go_bits);refine Kp _ _ ?_;clear Kp Ko;refine Kn.Z.u (.e .o (.pick (.t rfl) (.t rfl)) (.a (.t rfl) .n)) ?_;refine Kn.Z.e hK18 ?_;clear hK18 K18;refine Kn.Z.t (.c 16 rfl (.c 15 rfl (.c 14 rfl (.c 13 rfl (.c 7 rfl (.c 8 rfl (.c 9 rfl (.c 10 rfl (.c 11 rfl .n))))))))) ?_;refine Kn.Z.q fun K19 hK19=>?_;refine Kn.Z.f fun K20 hK20=>?_;refine Kn.Z.u (.m (.t rfl) (.m (.t rfl) (.m (.t rfl) .n))) ?_;refine Kn.Z.s .o (.bin (.t rfl) (.t rfl)) fun Ko Kp=>?_;go_simp;(try go_bits);refine Kp _ _ ?_;clear Kp Ko;refine Kn.Z.u (.m (.t rfl) (.k (.s rfl rfl rfl) (.k (.s rfl rfl rfl) (.k (.s rfl rfl rfl) (.e .o (.pick (.t rfl) .c) .n))))) ?_;refine Kn.Z.s .o (.bin (.t rfl) (.t rfl)) fun Ko Kp=>?_;go_simp;(try go_bits);refine Kp _ _ ?_;clear Kp Ko;refine Kn.Z.e hK20 ?_;clear hK20 K20;refine Kn.Z.t (.c 78 rfl (.c 15 rfl (.c 14 rfl (.c 13 rfl (.c 7 rfl (.c 8 rfl (.c 9 rfl (.c 10 rfl (.c 11 rfl .n))))))))) ?_;refine Kn.Z.no (.t rfl) ?_;refine Kn.Z.j hK19 ?_;clear hK19 K19;refine Kn.Z.r ?_;refine Kn.Z.u (.m (.t rfl) (.m (.t rfl) .n)) ?_;refine Kn.Z.s .o (.bin (.t rfl) (.t rfl)) fun Ko Kp=>?_;go_simp;(try go_bits);refine Kp _ _ ?_;clear Kp Ko;refine Kn.Z.u (.a (.t rfl) .n) ?_;intro fa fh;refine wpList_nil ?_;refine Kn.block_normal ?_;refine hK16 _ _ ?_;clear hK16 K16
        revert fa
        refine Kn.Z.r ?_;refine Kn.Z.u (.m (.t rfl) .n) ?_;refine Kn.Z.s .o (.bin (.t rfl) .c) fun Ko Kp=>?_;go_simp;(try go_bits);refine Kp _ _ ?_;clear Kp Ko;refine Kn.Z.u (.a (.t rfl) .n) ?_;intro fb fg;refine wpList_nil ?_;replace fg := fg.cut (.c 14 rfl (.c 13 rfl (.c 7 rfl (.c 8 rfl (.c 9 rfl (.c 10 rfl (.c 11 rfl .n)))))));exact hKl13 (m13 - 1) _ _ (by omega) ⟨k + 1, fg.cut (.u 14 rfl (by go_num) (.u 13 rfl (by rw [hPP]) (.c 7 rfl (.c 8 rfl (.c 9 rfl (.c 10 rfl (.c 11 rfl .n))))))), by omega, HU3⟩
      by_cases d1 : a ≤ (k : Int)
      · have d2 : ¬ (k : Int) ≤ b := by omega
        refine Kn.Z.f fun K18 hK18=>?_;refine Kn.Z.u (.m (.t rfl) (.m (.t rfl) (.m (.t rfl) .n))) ?_;refine Kn.Z.s .o (.bin (.t rfl) (.t rfl)) fun Ko Kp=>?_;go_simp;(try go_bits);refine Kp _ _ ?_;clear Kp Ko;refine Kn.Z.s .o (.bin (.t rfl) (.t rfl)) fun Ko Kp=>?_;go_simp;(try go_bits);refine Kp _ _ ?_;clear Kp Ko;refine Kn.Z.u (.m (.t rfl) (.e (.s rfl rfl rfl) (.move (.t rfl)) (.e (.s rfl rfl rfl) (.move (.t rfl)) .n))) ?_;refine Kn.Z.s (.s rfl rfl rfl) (.bin (.t rfl) (.t rfl)) fun Ko Kp=>?_;go_simp;(try go_bits);refine Kp _ _ ?_;clear Kp Ko;refine Kn.Z.u (.e (.s rfl rfl rfl) (.move (.t rfl)) .n) ?_;refine Kn.Z.s (.s rfl rfl rfl) (.bin (.t rfl) (.t rfl)) fun Ko Kp=>?_;go_simp;(try go_bits);refine Kp _ _ ?_;clear Kp Ko;refine Kn.Z.u (.e .o (.pick (.t rfl) (.t rfl)) (.m (.t rfl) (.k (.s rfl rfl rfl) (.k (.s rfl rfl rfl) (.e .o (.pick (.t rfl) .c) (.a (.t rfl) .n)))))) ?_;refine Kn.Z.e hK18 ?_;clear hK18 K18;refine Kn.Z.t (.c 16 rfl (.c 15 rfl (.c 14 rfl (.c 13 rfl (.c 7 rfl (.c 8 rfl (.c 9 rfl (.c 10 rfl (.c 11 rfl .n))))))))) ?_;refine Kn.Z.q fun K19 hK19=>?_;refine Kn.Z.f fun K20 hK20=>?_;refine Kn.Z.u (.m (.t rfl) (.m (.t rfl) (.m (.t rfl) .n))) ?_;refine Kn.Z.s .o (.bin (.t rfl) (.t rfl)) fun Ko Kp=>?_;go_simp;(try go_bits);refine Kp _ _ ?_;clear Kp Ko;refine Kn.Z.u (.m (.t rfl) (.e (.s rfl rfl rfl) (.move (.t rfl)) (.e (.s rfl rfl rfl) (.move (.t rfl)) .n))) ?_;refine Kn.Z.s (.s rfl rfl rfl) (.bin (.t rfl) (.t rfl)) fun Ko Kp=>?_;go_simp;(try go_bits);refine Kp _ _ ?_;clear Kp Ko;refine Kn.Z.u (.e .o (.pick (.t rfl) (.t rfl)) .n) ?_;refine Kn.Z.s .o (.bin (.t rfl) (.t rfl)) fun Ko Kp=>?_;go_simp;(try go_bits);refine Kp _ _ ?_;clear Kp Ko;refine Kn.Z.e hK20 ?_;clear hK20 K20;refine Kn.Z.t (.c 78 rfl (.c 15 rfl (.c 14 rfl (.c 13 rfl (.c 7 rfl (.c 8 rfl (.c 9 rfl (.c 10 rfl (.c 11 rfl .n))))))))) ?_;refine Kn.Z.no (.t rfl) ?_;refine Kn.Z.j hK19 ?_;clear hK19 K19;refine Kn.Z.r ?_;refine Kn.Z.u (.m (.t rfl) (.m (.t rfl) .n)) ?_;refine Kn.Z.s .o (.bin (.t rfl) (.t rfl)) fun Ko Kp=>?_;go_simp;(try go_bits);refine Kp _ _ ?_;clear Kp Ko;refine Kn.Z.u (.a (.t rfl) .n) ?_;intro fa fh;refine wpList_nil ?_;refine Kn.block_normal ?_;refine hK16 _ _ ?_;clear hK16 K16
        revert fa
        refine Kn.Z.r ?_;refine Kn.Z.u (.m (.t rfl) .n) ?_;refine Kn.Z.s .o (.bin (.t rfl) .c) fun Ko Kp=>?_;go_simp;(try go_bits);refine Kp _ _ ?_;clear Kp Ko;refine Kn.Z.u (.a (.t rfl) .n) ?_;intro fb fg;refine wpList_nil ?_;replace fg := fg.cut (.c 14 rfl (.c 13 rfl (.c 7 rfl (.c 8 rfl (.c 9 rfl (.c 10 rfl (.c 11 rfl .n)))))));exact hKl13 (m13 - 1) _ _ (by omega) ⟨k + 1, fg.cut (.u 14 rfl (by go_num) (.u 13 rfl (by rw [hPP]) (.c 7 rfl (.c 8 rfl (.c 9 rfl (.c 10 rfl (.c 11 rfl .n))))))), by omega, HU3⟩
      refine Kn.Z.f fun K18 hK18=>?_;refine Kn.Z.u (.m (.t rfl) (.m (.t rfl) (.m (.t rfl) .n))) ?_;refine Kn.Z.s .o (.bin (.t rfl) (.t rfl)) fun Ko Kp=>?_;go_simp;(try go_bits);refine Kp _ _ ?_;clear Kp Ko;refine Kn.Z.s .o (.bin (.t rfl) (.t rfl)) fun Ko Kp=>?_;go_simp;(try go_bits);refine Kp _ _ ?_;clear Kp Ko;refine Kn.Z.u (.m (.t rfl) (.e (.s rfl rfl rfl) (.move (.t rfl)) (.e (.s rfl rfl rfl) (.move (.t rfl)) .n))) ?_;refine Kn.Z.s (.s rfl rfl rfl) (.bin (.t rfl) (.t rfl)) fun Ko Kp=>?_;go_simp;(try go_bits);refine Kp _ _ ?_;clear Kp Ko;refine Kn.Z.u (.e (.s rfl rfl rfl) (.move (.t rfl)) .n) ?_;refine Kn.Z.s (.s rfl rfl rfl) (.bin (.t rfl) (.t rfl)) fun Ko Kp=>?_;go_simp;(try go_bits);refine Kp _ _ ?_;clear Kp Ko;refine Kn.Z.u (.e .o (.pick (.t rfl) (.t rfl)) (.m (.t rfl) (.k (.s rfl rfl rfl) (.k (.s rfl rfl rfl) (.e .o (.pick (.t rfl) .c) (.a (.t rfl) .n)))))) ?_;refine Kn.Z.e hK18 ?_;clear hK18 K18;refine Kn.Z.t (.c 16 rfl (.c 15 rfl (.c 14 rfl (.c 13 rfl (.c 7 rfl (.c 8 rfl (.c 9 rfl (.c 10 rfl (.c 11 rfl .n))))))))) ?_;refine Kn.Z.q fun K19 hK19=>?_;refine Kn.Z.f fun K20 hK20=>?_;refine Kn.Z.u (.m (.t rfl) (.m (.t rfl) (.m (.t rfl) .n))) ?_;refine Kn.Z.s .o (.bin (.t rfl) (.t rfl)) fun Ko Kp=>?_;go_simp;(try go_bits);refine Kp _ _ ?_;clear Kp Ko;refine Kn.Z.u (.m (.t rfl) (.k (.s rfl rfl rfl) (.k (.s rfl rfl rfl) (.k (.s rfl rfl rfl) (.e .o (.pick (.t rfl) .c) .n))))) ?_;refine Kn.Z.s .o (.bin (.t rfl) (.t rfl)) fun Ko Kp=>?_;go_simp;(try go_bits);refine Kp _ _ ?_;clear Kp Ko;refine Kn.Z.e hK20 ?_;clear hK20 K20;refine Kn.Z.t (.c 78 rfl (.c 15 rfl (.c 14 rfl (.c 13 rfl (.c 7 rfl (.c 8 rfl (.c 9 rfl (.c 10 rfl (.c 11 rfl .n))))))))) ?_;refine Kn.Z.no (.t rfl) ?_;refine Kn.Z.j hK19 ?_;clear hK19 K19;refine Kn.Z.r ?_;refine Kn.Z.u (.m (.t rfl) (.m (.t rfl) .n)) ?_;refine Kn.Z.s .o (.bin (.t rfl) (.t rfl)) fun Ko Kp=>?_;go_simp;(try go_bits);refine Kp _ _ ?_;clear Kp Ko;refine Kn.Z.u (.a (.t rfl) .n) ?_;intro fa fh;refine wpList_nil ?_;refine Kn.block_normal ?_;refine hK16 _ _ ?_;clear hK16 K16
      revert fa
      refine Kn.Z.r ?_;refine Kn.Z.u (.m (.t rfl) .n) ?_;refine Kn.Z.s .o (.bin (.t rfl) .c) fun Ko Kp=>?_;go_simp;(try go_bits);refine Kp _ _ ?_;clear Kp Ko;refine Kn.Z.u (.a (.t rfl) .n) ?_;intro fb fg;refine wpList_nil ?_;replace fg := fg.cut (.c 14 rfl (.c 13 rfl (.c 7 rfl (.c 8 rfl (.c 9 rfl (.c 10 rfl (.c 11 rfl .n)))))));exact hKl13 (m13 - 1) _ _ (by omega) ⟨k + 1, fg.cut (.u 14 rfl (by go_num) (.u 13 rfl (by rw [hPP]) (.c 7 rfl (.c 8 rfl (.c 9 rfl (.c 10 rfl (.c 11 rfl .n))))))), by omega, HU3⟩
    by_cases d1 : a ≤ (k : Int)
    · have d2 : ¬ (k : Int) ≤ b := by omega
      refine Kn.Z.f fun K18 hK18=>?_;refine Kn.Z.u (.m (.t rfl) (.m (.t rfl) (.m (.t rfl) .n))) ?_;refine Kn.Z.s .o (.bin (.t rfl) (.t rfl)) fun Ko Kp=>?_;go_simp;(try go_bits);refine Kp _ _ ?_;clear Kp Ko;refine Kn.Z.s .o (.bin (.t rfl) (.t rfl)) fun Ko Kp=>?_;go_simp;(try go_bits);refine Kp _ _ ?_;clear Kp Ko;refine Kn.Z.u (.m (.t rfl) (.k (.s rfl rfl rfl) (.k (.s rfl rfl rfl) (.k (.s rfl rfl rfl) (.k (.s rfl rfl rfl) (.k (.s rfl rfl rfl) (.e .o (.pick (.t rfl) .c) (.m (.t rfl) (.k (.s rfl rfl rfl) (.k (.s rfl rfl rfl) (.e .o (.pick (.t rfl) .c) (.a (.t rfl) .n)))))))))))) ?_;refine Kn.Z.e hK18 ?_;clear hK18 K18;refine Kn.Z.t (.c 16 rfl (.c 15 rfl (.c 14 rfl (.c 13 rfl (.c 7 rfl (.c 8 rfl (.c 9 rfl (.c 10 rfl (.c 11 rfl .n))))))))) ?_;refine Kn.Z.q fun K19 hK19=>?_;refine Kn.Z.f fun K20 hK20=>?_;refine Kn.Z.u (.m (.t rfl) (.m (.t rfl) (.m (.t rfl) .n))) ?_;refine Kn.Z.s .o (.bin (.t rfl) (.t rfl)) fun Ko Kp=>?_;go_simp;(try go_bits);refine Kp _ _ ?_;clear Kp Ko;refine Kn.Z.u (.m (.t rfl) (.e (.s rfl rfl rfl) (.move (.t rfl)) (.e (.s rfl rfl rfl) (.move (.t rfl)) .n))) ?_;refine Kn.Z.s (.s rfl rfl rfl) (.bin (.t rfl) (.t rfl)) fun Ko Kp=>?_;go_simp;(try go_bits);refine Kp _ _ ?_;clear Kp Ko;refine Kn.Z.u (.e .o (.pick (.t rfl) (.t rfl)) .n) ?_;refine Kn.Z.s .o (.bin (.t rfl) (.t rfl)) fun Ko Kp=>?_;go_simp;(try go_bits);refine Kp _ _ ?_;clear Kp Ko;refine Kn.Z.e hK20 ?_;clear hK20 K20;refine Kn.Z.t (.c 78 rfl (.c 15 rfl (.c 14 rfl (.c 13 rfl (.c 7 rfl (.c 8 rfl (.c 9 rfl (.c 10 rfl (.c 11 rfl .n))))))))) ?_;refine Kn.Z.no (.t rfl) ?_;refine Kn.Z.j hK19 ?_;clear hK19 K19;refine Kn.Z.r ?_;refine Kn.Z.u (.m (.t rfl) (.m (.t rfl) .n)) ?_;refine Kn.Z.s .o (.bin (.t rfl) (.t rfl)) fun Ko Kp=>?_;go_simp;(try go_bits);refine Kp _ _ ?_;clear Kp Ko;refine Kn.Z.u (.a (.t rfl) .n) ?_;intro fa fh;refine wpList_nil ?_;refine Kn.block_normal ?_;refine hK16 _ _ ?_;clear hK16 K16
      revert fa
      refine Kn.Z.r ?_;refine Kn.Z.u (.m (.t rfl) .n) ?_;refine Kn.Z.s .o (.bin (.t rfl) .c) fun Ko Kp=>?_;go_simp;(try go_bits);refine Kp _ _ ?_;clear Kp Ko;refine Kn.Z.u (.a (.t rfl) .n) ?_;intro fb fg;refine wpList_nil ?_;replace fg := fg.cut (.c 14 rfl (.c 13 rfl (.c 7 rfl (.c 8 rfl (.c 9 rfl (.c 10 rfl (.c 11 rfl .n)))))));exact hKl13 (m13 - 1) _ _ (by omega) ⟨k + 1, fg.cut (.u 14 rfl (by go_num) (.u 13 rfl (by rw [hPP]) (.c 7 rfl (.c 8 rfl (.c 9 rfl (.c 10 rfl (.c 11 rfl .n))))))), by omega, HU3⟩
    refine Kn.Z.f fun K18 hK18=>?_;refine Kn.Z.u (.m (.t rfl) (.m (.t rfl) (.m (.t rfl) .n))) ?_;refine Kn.Z.s .o (.bin (.t rfl) (.t rfl)) fun Ko Kp=>?_;go_simp;(try go_bits);refine Kp _ _ ?_;clear Kp Ko;refine Kn.Z.s .o (.bin (.t rfl) (.t rfl)) fun Ko Kp=>?_;go_simp;(try go_bits);refine Kp _ _ ?_;clear Kp Ko;refine Kn.Z.u (.m (.t rfl) (.k (.s rfl rfl rfl) (.k (.s rfl rfl rfl) (.k (.s rfl rfl rfl) (.k (.s rfl rfl rfl) (.k (.s rfl rfl rfl) (.e .o (.pick (.t rfl) .c) (.m (.t rfl) (.k (.s rfl rfl rfl) (.k (.s rfl rfl rfl) (.e .o (.pick (.t rfl) .c) (.a (.t rfl) .n)))))))))))) ?_;refine Kn.Z.e hK18 ?_;clear hK18 K18;refine Kn.Z.t (.c 16 rfl (.c 15 rfl (.c 14 rfl (.c 13 rfl (.c 7 rfl (.c 8 rfl (.c 9 rfl (.c 10 rfl (.c 11 rfl .n))))))))) ?_;refine Kn.Z.q fun K19 hK19=>?_;refine Kn.Z.f fun K20 hK20=>?_;refine Kn.Z.u (.m (.t rfl) (.m (.t rfl) (.m (.t rfl) .n))) ?_;refine Kn.Z.s .o (.bin (.t rfl) (.t rfl)) fun Ko Kp=>?_;go_simp;(try go_bits);refine Kp _ _ ?_;clear Kp Ko;refine Kn.Z.u (.m (.t rfl) (.k (.s rfl rfl rfl) (.k (.s rfl rfl rfl) (.k (.s rfl rfl rfl) (.e .o (.pick (.t rfl) .c) .n))))) ?_;refine Kn.Z.s .o (.bin (.t rfl) (.t rfl)) fun Ko Kp=>?_;go_simp;(try go_bits);refine Kp _ _ ?_;clear Kp Ko;refine Kn.Z.e hK20 ?_;clear hK20 K20;refine Kn.Z.t (.c 78 rfl (.c 15 rfl (.c 14 rfl (.c 13 rfl (.c 7 rfl (.c 8 rfl (.c 9 rfl (.c 10 rfl (.c 11 rfl .n))))))))) ?_;refine Kn.Z.no (.t rfl) ?_;refine Kn.Z.j hK19 ?_;clear hK19 K19;refine Kn.Z.r ?_;refine Kn.Z.u (.m (.t rfl) (.m (.t rfl) .n)) ?_;refine Kn.Z.s .o (.bin (.t rfl) (.t rfl)) fun Ko Kp=>?_;go_simp;(try go_bits);refine Kp _ _ ?_;clear Kp Ko;refine Kn.Z.u (.a (.t rfl) .n) ?_;intro fa fh;refine wpList_nil ?_;refine Kn.block_normal ?_;refine hK16 _ _ ?_;clear hK16 K16
    revert fa
    refine Kn.Z.r ?_;refine Kn.Z.u (.m (.t rfl) .n) ?_;refine Kn.Z.s .o (.bin (.t rfl) .c) fun Ko Kp=>?_;go_simp;(try go_bits);refine Kp _ _ ?_;clear Kp Ko;refine Kn.Z.u (.a (.t rfl) .n) ?_;intro fb fg;refine wpList_nil ?_;replace fg := fg.cut (.c 14 rfl (.c 13 rfl (.c 7 rfl (.c 8 rfl (.c 9 rfl (.c 10 rfl (.c 11 rfl .n)))))));exact hKl13 (m13 - 1) _ _ (by omega) ⟨k + 1, fg.cut (.u 14 rfl (by go_num) (.u 13 rfl (by rw [hPP]) (.c 7 rfl (.c 8 rfl (.c 9 rfl (.c 10 rfl (.c 11 rfl .n))))))), by omega, HU3⟩
  obtain rfl : k = cntK n := by omega
  revert fb
  refine Kn.Z.q fun K14 hK14=>?_;refine Kn.Z.f fun K15 hK15=>?_;refine Kn.Z.u (.m (.t rfl) (.m (.t rfl) .n)) ?_;refine Kn.Z.c .o (.call (.c (.t rfl) .n)) Try.call7 (hcn) fun e u2 hp=>?_;obtain ⟨rfl, hu2⟩ := hp;refine ⟨_,rfl,?_⟩;refine Kn.Z.s .o (.bin (.t rfl) (.t rfl)) fun Ko Kp=>?_;go_simp;(try go_bits);refine Kp _ _ ?_;clear Kp Ko;refine Kn.Z.e hK15 ?_;clear hK15 K15;refine Kn.Z.t (.c 47 rfl (.c 14 rfl (.c 13 rfl (.c 7 rfl (.c 8 rfl (.c 9 rfl (.c 10 rfl (.c 11 rfl .n)))))))) ?_;refine Kn.Z.no (.t rfl) ?_;intro fb fg;refine wp_exit ?_;refine Kn.then_exit ?_;clear hK14 K14;refine Kn.then_exit ?_;clear hKl13 Kl13;refine Kn.block_exit ?_;refine hK11 _ _ ?_;clear hK11 K11;have he : min n (64 * cntK n) = n := by unfold cntK; omega
  rw [he] at fg
  revert fb
  refine Kn.Z.f fun K16 hK16=>?_;refine Kn.Z.u (.m (.t rfl) (.m (.t rfl) .n)) ?_;refine Kn.Z.s .o (.bin (.t rfl) (.t rfl)) fun Ko Kp=>?_;go_simp;(try go_bits);refine Kp _ _ ?_;clear Kp Ko;refine Kn.Z.u (.a (.t rfl) .n) ?_;refine Kn.Z.e hK16 ?_;clear hK16 K16;refine Kn.Z.t (.c 6 rfl .n) ?_;intro fb fg;refine wp_ret ?_;exact Kn.ret1 fg rfl rfl ⟨rfl, HU.out.trans (hu2.mono HU.out.size)⟩
end Go.Proofs.Ytkbkdbnmpicidaa.Blk
end
section
namespace Go.Proofs.Ytkbkdbnmpicidaa.Blk
open Go Go.RowKit Go.Lib RowG Num
theorem count_b (n : Nat) (u : World) (h : n ≤ 20000) : Calls Try.prog 7 #[.int .i64 n] u fun e v => e = .returned (.int .i64 (cntK n : Int)) ∧ Below u.heap.size u v := (count_any n u (by omega)).mono fun _ _ ⟨h1, h2⟩ => ⟨h1, by subst h2; exact Below.refl _ _⟩
theorem size_b (n : Nat) (i : Int) (u : World) (h : n ≤ 20000) : Calls Try.prog 8 #[.int .i64 n, .int .i64 i] u fun e v => e = .returned (.int .i64 (szK n i : Int)) ∧ Below u.heap.size u v := (size_any n i u (by omega)).mono fun _ _ ⟨h1, h2⟩ => ⟨h1, by subst h2; exact Below.refl _ _⟩
theorem awake_b (u : World) : Calls Try.prog 5 #[] u fun e v => e = .returned (.bool true) ∧ Below u.heap.size u v := awake8 count_b (fun n i u h _ _ => size_b n i u h) u
theorem spans_law (t x y : Int) (w : World) (ht : 0 ≤ t ∧ t < 65536) (hx : 0 ≤ x ∧ x < 65536) (hy : 0 ≤ y ∧ y < 65536) :
    Calls Try.prog 4 #[.int .u16 t, .int .u16 x, .int .u16 y] w fun e w' => e = .returned (.bool true) ∧ Below w.heap.size w w' := by
  obtain ⟨t, rfl⟩ := Int.eq_ofNat_of_zero_le ht.1;obtain ⟨x, rfl⟩ := Int.eq_ofNat_of_zero_le hx.1;obtain ⟨y, rfl⟩ := Int.eq_ofNat_of_zero_le hy.1;exact spans_all awake_b count_b size_b (fun n f m u h1 h2 => (needs_in n f m u (by omega) h2).mono fun _ _ ⟨h1, h2⟩ => ⟨h1, by subst h2; exact Below.refl _ _⟩) t x y w (by omega) (by omega) (by omega)
end Go.Proofs.Ytkbkdbnmpicidaa.Blk
end
section
namespace Go.Proofs.Ytkbkdbnmpicidaa.blockSpans
open Go.ChangeShapes Go.WideShapes Go.ChangeAt Go.RowKit Go.Joins
open Go.ChangeMaps (open_string shut_string)
set_option linter.unusedVariables false
theorem own : ownKnob Try.prog.godebug = none := by kernel_rfl
set_option maxRecDepth 100000 in
theorem lifted (os : Os) (started : os.Started) (H : Type) (enc : TypeId × Value → H) :
    ReturnsInHanded {} Try.checked os 4 .any (Rows.blockSpansSpec.pre6 enc Try.prog Try.f4 Rows.blockSpansRow.domain false) (Rows.blockSpansSpec.post enc Try.prog Try.f4 false true false false) := by
  refine returnsInHanded_of_change (C := Try.checked) own started (by kernel_rfl) Try.func4
    (ChangeSpec.witness6 (enc := enc) (C := Try.checked) false ⟨#[], #[.int .u16 0, .int .u16 0, .int .u16 0], []⟩ 8 (by kernel_rfl) (by kernel_rfl) (by kernel_rfl) (by kernel_rfl)) ?_
  intro W base args ds gs before hval0 hW hcnd _;have hval : ∀ (j : Nat) t v, Try.f4.params[j]? = some t → args[j]? = some v → Value.okWide Try.prog W .any base t v := hval0;have hW' := hW;obtain ⟨p, q, hA0, hV, rfl, hfz, hnd⟩ := hW;have hA : DataW.TrodAll enc Try.prog W 0 (fun _ => true) true Try.f4.params.toList args.toList ds p := hA0;rw [Try.params4] at hA hval;obtain ⟨v0, vs0, d0, ds0, p0, q0, hargs, rfl, rfl, h0, s0⟩ := trodAll_cons hA;obtain ⟨v1, vs1, d1, ds1, p1, q1, rfl, rfl, rfl, h1, s1⟩ := trodAll_cons s0;obtain ⟨v2, vs2, d2, ds2, p2, q2, rfl, rfl, rfl, h2, s2⟩ := trodAll_cons s1;obtain ⟨rfl, rfl, rfl⟩ := trodAll_nil s2;obtain rfl : args = #[v0, v1, v2] := by cases args; simp_all
  obtain ⟨rfl, rfl⟩ := trodVars_none hV;obtain ⟨a0, rfl, rfl, rfl, w0⟩ := open_int Try.underlying28 (hval 0 28 v0 rfl rfl) h0;obtain ⟨x0, y0⟩ := bounds_u16 w0;obtain ⟨a1, rfl, rfl, rfl, w1⟩ := open_int Try.underlying28 (hval 1 28 v1 rfl rfl) h1;obtain ⟨x1, y1⟩ := bounds_u16 w1;obtain ⟨a2, rfl, rfl, rfl, w2⟩ := open_int Try.underlying28 (hval 2 28 v2 rfl rfl) h2;obtain ⟨x2, y2⟩ := bounds_u16 w2;clear hA0 hval0;simp only [List.append_nil] at hW';refine (Blk.spans_law a0 a1 a2 W ⟨by omega, by omega⟩ ⟨by omega, by omega⟩ ⟨by omega, by omega⟩).mono fun e W' ⟨he, hb⟩ => ?_;subst he;exact ⟨_, rfl, _, _, _, [], [], [], hW', trodAll_cons_mk (shut_bool Try.underlying4 _) trodAll_mk0, trodAll_cons_mk (shut_int Try.underlying28 w0) (trodAll_cons_mk (shut_int Try.underlying28 w1) (trodAll_cons_mk (shut_int Try.underlying28 w2) (trodAll_mk0))), rfl, hb.frame _, fun h => by cases h⟩
theorem over : Rows.blockSpansRow.holds Try.pinned (OpenSpec.ofChange Rows.blockSpansSpec) :=
  OpenClaim.holds_of_wide 4 Try.f4 rfl rfl rfl rfl rfl rfl rfl ⟨rfl, rfl, rfl, rfl, rfl⟩ rfl rfl rfl rfl rfl (by kernel_rfl) Try.func4 (by kernel_rfl)
    (of_decide_eq_true (by kernel_rfl)) (by unfold Func.isWrapper; first | (rw [if_pos (by decide +kernel)]; kernel_rfl) | (rw [if_neg (by decide +kernel)]; exact ⟨rfl, rfl⟩))
    (fun os started H enc _ => lifted os started H enc)
theorem proved : Rows.BlockSpansSaid :=
  over
end Go.Proofs.Ytkbkdbnmpicidaa.blockSpans
end
