/- A part of the proof of BlockCutsSaid: texts that lead to it, merged. -/
import Derived.IntWalk
import Derived.WalkKit
import Derived.StillTailTactics
import Derived.Deep.QuietTactic
import Derived.BigCall
import Derived.Lib.Hide
import Derived.Deep.LoopGhost
import Derived.Test.YtkbkdbnmpicidaaChecked
import Derived.Below
import Derived.Maps.AppendAt
import Derived.Deep.AppendLies
import Derived.Deep.Draws
import Derived.Lib.SmallJoins
import Derived.Laws.Rows
import Derived.Laws.Tables
import Derived.Laws.CopyOwn
import Derived.Laws.ResultCell
import Derived.OwnWalk
import Derived.Deep.MidRow
import Derived.Laws.OwnMore
import Derived.Lib.EndianMore
import Derived.Laws.IdiomCopy
import Derived.Deep.Upon
import Derived.SliceStrings
import Derived.SizedLaws
section
namespace Go.Proofs.Ytkbkdbnmpicidaa.Blk
def cntK (n : Nat) : Nat := (n + 63) / 64
def szK (n : Nat) (i : Int) : Nat := if 0 ≤ i ∧ i < (cntK n : Int) then min 64 (n - 64 * i.toNat) else 0
theorem szK_at {n k : Nat} (h : k < cntK n) : szK n (k : Int) = min 64 (n - 64 * k) := by
  unfold szK;rw [if_pos ⟨by omega, by omega⟩, Int.toNat_natCast]
theorem szK_step {n k : Nat} (h : k < cntK n) : min n (64 * k) + szK n (k : Int) = min n (64 * (k + 1)) := by
  rw [szK_at h];unfold cntK at h;omega
def catK (l : List ByteArray) : ByteArray := l.foldl (· ++ ·) ⟨#[]⟩
theorem catK_take {l : List ByteArray} {k : Nat} {s : ByteArray} (h : l[k]? = some s) : catK (l.take k) ++ s = catK (l.take (k + 1)) := by
  rw [List.take_add_one, h];simp [catK, List.foldl_append]
def blkK (s : ByteArray) (k : Nat) : ByteArray := s.extract (min s.size (64 * k)) (min s.size (64 * (k + 1)))
def cutK (s : ByteArray) : List ByteArray := (List.range (cntK s.size)).map (blkK s)
theorem cutK_len (s : ByteArray) : (cutK s).length = cntK s.size := by simp [cutK]
theorem cutK_at {s : ByteArray} {k : Nat} (h : k < cntK s.size) : (cutK s)[k]? = some (blkK s k) := by
  unfold cutK;rw [List.getElem?_map, List.getElem?_range h]
  rfl
theorem blkK_size {s : ByteArray} {k : Nat} (h : k < cntK s.size) : (blkK s k).size = szK s.size (k : Int) := by
  have := szK_step h;unfold blkK;rw [ByteArray.size_extract];omega
theorem blkK_join (s : ByteArray) (k : Nat) : s.extract 0 (min s.size (64 * k)) ++ blkK s k = s.extract 0 (min s.size (64 * (k + 1))) := by
  unfold blkK;rw [ByteArray.extract_append_extract]
  congr 1
  omega
theorem szK_none (n : Nat) : szK n (cntK n : Int) = 0 := by unfold szK; rw [if_neg (by omega)]
theorem szK_neg (n : Nat) : szK n (-1) = 0 := by unfold szK; rw [if_neg (by omega)]
theorem cntK_end (n : Nat) : min n (64 * cntK n) = n := by unfold cntK; omega
theorem cntK_lt {n k : Nat} : k * 64 < n ↔ k < cntK n := by unfold cntK; omega
end Go.Proofs.Ytkbkdbnmpicidaa.Blk
end
section
namespace Go.Proofs.Ytkbkdbnmpicidaa.Kn
open Go
def find : List (Nat × Value) → Nat → Option Value
  | [], _ => none
  | (k, v) :: l, t => bif Nat.beq k t then some v else find l t
def nth : List Value → Nat → Option Value
  | [], _ => none
  | v :: l, t => match t with
    | 0 => some v
    | t + 1 => nth l t
theorem nth_eq : ∀ (l : List Value) (t : Nat), nth l t = l[t]?
  | [], t => by simp [nth]
  | v :: l, 0 => by simp [nth]
  | v :: l, t + 1 => by simp [nth, nth_eq l t]
structure Kn (n : Nat) (l : List (Nat × Value)) (a : Act) : Prop where
  defers : a.defers = []
  size : a.tmps.size = n
  get : ∀ t v, find l t = some v → a.eval (.tmp t) = v
inductive Val (l : List (Nat × Value)) : Operand → Value → Prop
  | tmp {t : Tmp} {v : Value} (h : find l t = some v) : Val l (.tmp t) v
  | const {v : Value} : Val l (.const v) v
  | global {g : Nat} : Val l (.global g) (.pointer (some ⟨g, 0, none⟩))
  | func {f : FuncId} : Val l (.func f) (.func (.func f) #[] #[])
inductive Vals (l : List (Nat × Value)) : List Operand → List Value → Prop
  | nil : Vals l [] []
  | cons {x : Operand} {v : Value} {xs : List Operand} {vs : List Value} (h : Val l x v) (t : Vals l xs vs) : Vals l (x :: xs) (v :: vs)
inductive Wants (ops : Array Oper) (l : List (Nat × Value)) : Option (Nat × Bool) → Bool → Prop
  | none : Wants ops l none true
  | some {j : Nat} {b c r : Bool} {d : Tmp} (h : (ops[j]?).bind (·.dst) = some d) (hv : find l d = some (.bool c)) (hr : (c == b) = r) : Wants ops l (some (j, b)) r
  | gone {j : Nat} {b : Bool} {d : Tmp} (h : (ops[j]?).bind (·.dst) = some d) (hv : find l d = some undef) : Wants ops l (some (j, b)) false
theorem beq_no {i j : Nat} (h : i ≠ j) : Nat.beq i j = false := by
  cases e : Nat.beq i j with
  | true => exact absurd (Nat.eq_of_beq_eq_true e) h
  | false => rfl
section
variable {P : Program} {n : Nat} {l : List (Nat × Value)} {a : Act} {ops : Array Oper} {Q : Exit → Act → World → Prop} {w : World} {rest : List Oper}
theorem Kn.val (h : Kn n l a) {x : Operand} {v : Value} (hv : Val l x v) : a.eval x = v := by
  cases hv with
  | tmp ht => exact h.get _ _ ht
  | const => rfl
  | global => rfl
  | func => rfl
theorem Kn.vals (h : Kn n l a) {xs : List Operand} {vs : List Value} (hv : Vals l xs vs) : xs.toArray.map a.eval = vs.toArray := by
  have : xs.map a.eval = vs := by
    induction hv with
    | nil => rfl
    | cons h1 _ ih => rw [List.map_cons, h.val h1, ih]
  rw [List.map_toArray, this]
theorem Kn.put (h : Kn n l a) {d : Tmp} (hd : Nat.blt d n = true) (v : Value) : Kn n ((d, v) :: l) (a.put (some d) v) := by
  have hd' : d < a.tmps.size := by rw [h.size]; exact Nat.le_of_ble_eq_true hd
  refine ⟨h.defers, by simp [Act.put, h.size], fun t u hu => ?_⟩
  by_cases e : d = t
  · subst e;rw [find, Nat.beq_refl] at hu;simp at hu;subst hu;simp [Act.put, Act.eval, hd']
  · rw [find, beq_no e] at hu;have := h.get t u (by simpa using hu);rw [← this];simp only [Act.put, Act.eval];rw [Array.getD_eq_getD_getElem?, Array.getD_eq_getD_getElem?, Array.getElem?_setIfInBounds_ne e]
theorem Kn.wants (h : Kn n l a) {o : Oper} {r : Bool} (hw : Wants ops l o.guard r) : Region.wanted o (yielded ops a.tmps) = r := by
  unfold Region.wanted;generalize o.guard = g at hw
  cases hw with
  | none => rfl
  | @some j b c r d hj hv hr =>
    have h1 := h.get _ _ hv
    have h2 : a.tmps[d]? = some (.bool c) := by
      simp only [Act.eval] at h1;rw [Array.getD_eq_getD_getElem?] at h1
      cases e : a.tmps[d]? with
      | none => rw [e] at h1; simp [undef] at h1
      | some u => rw [e] at h1; simp at h1; rw [h1]
    simp only [yielded, hj, Option.bind_some, h2];rw [← hr];cases c <;> cases b <;> rfl
  | @gone j b d hj hv =>
    have h1 := h.get _ _ hv
    have h2 : ∀ c, a.tmps[d]? ≠ some (.bool c) := fun c e => by
      simp only [Act.eval] at h1;rw [Array.getD_eq_getD_getElem?, e] at h1;simp [undef] at h1
    simp only [yielded, hj, Option.bind_some]
    cases e : a.tmps[d]? with
    | none => rfl
    | some u => cases u <;> first | rfl | exact absurd e (h2 _)
theorem Kn.nil (hd : a.defers = []) (hs : a.tmps.size = n) : Kn n [] a := ⟨hd, hs, fun t v h => by simp [find] at h⟩
def Sat (K : Value → World → Prop) : Result Value → Prop
  | .ok v w => K v w
  | .halt _ _ => False
@[go_sem] theorem sat_ok (K : Value → World → Prop) (v : Value) (w : World) : Sat K (.ok v w) = K v w := rfl
def SatU (K : World → Prop) : Result Unit → Prop
  | .ok _ w => K w
  | .halt _ _ => False
@[go_sem] theorem satU_ok (K : World → Prop) (v : Unit) (w : World) : SatU K (.ok v w) = K w := rfl
abbrev vl (s : Sem Value) : Sem Next := do pure (.value (← s))
abbrev ul (s : Sem Unit) : Sem Next := do s; pure .skip
section exec
variable {d : Option Tmp} {t : TypeId} {p : String} {af : Array Edge} {g : Option (Nat × Bool)} {x y z : Operand} {vx vy vz : Value}
theorem ex_move (h : Kn n l a) (hx : Val l x vx) : execOp a.eval ⟨d, .move x, t, p, af, g⟩ = vl (pure vx) := by simp only [execOp, h.val hx]; rfl
theorem ex_assign (h : Kn n l a) (hx : Val l x vx) : execOp a.eval ⟨d, .assign x, t, p, af, g⟩ = vl (pure vx) := by simp only [execOp, h.val hx]; rfl
theorem ex_pick {c : Operand} {b : Bool} {v : Value} (h : Kn n l a) (hc : Val l c (.bool b)) (hv : Val l (if b then x else y) v) : execOp a.eval ⟨d, .pick c x y, t, p, af, g⟩ = vl (pure v) := by
  have e : (if b then a.eval x else a.eval y) = v := by rw [← h.val hv]; cases b <;> rfl
  simp only [execOp, h.val hc]; rw [← e]; rfl
theorem ex_bin {op : BinOp} {tx ty : TypeId} (h : Kn n l a) (hx : Val l x vx) (hy : Val l y vy) : execOp a.eval ⟨d, .binOp op tx x y ty, t, p, af, g⟩ = vl (do eqGuard op tx x y vx vy; binOp op tx vx vy) := by simp only [execOp, h.val hx, h.val hy]
theorem ex_un {op : UnOp} {tx : TypeId} (h : Kn n l a) (hx : Val l x vx) : execOp a.eval ⟨d, .unOp op tx x, t, p, af, g⟩ = vl (Op.unary op vx) := by simp only [execOp, h.val hx]
theorem ex_load {e : TypeId} (h : Kn n l a) (hx : Val l x vx) : execOp a.eval ⟨d, .load e x, t, p, af, g⟩ = vl (Instr.loadAt e vx) := by simp only [execOp, h.val hx]
theorem ex_store {e : TypeId} (h : Kn n l a) (hx : Val l x vx) (hy : Val l y vy) : execOp a.eval ⟨d, .store e x y, t, p, af, g⟩ = ul (Instr.storeAt e vx vy) := by simp only [execOp, h.val hx, h.val hy]
theorem ex_indexAddr {e : TypeId} (h : Kn n l a) (hx : Val l x vx) (hy : Val l y vy) : execOp a.eval ⟨d, .indexAddr e x y, t, p, af, g⟩ = vl (Instr.indexAt e vx vy) := by simp only [execOp, h.val hx, h.val hy]
theorem ex_makeSlice {e : TypeId} (h : Kn n l a) (hx : Val l x vx) (hy : Val l y vy) : execOp a.eval ⟨d, .makeSlice e x y, t, p, af, g⟩ = vl (Instr.makeSlice e vx vy) := by simp only [execOp, h.val hx, h.val hy]
theorem ex_sliceLH {e : TypeId} (h : Kn n l a) (hx : Val l x vx) (hy : Val l y vy) (hz : Val l z vz) : execOp a.eval ⟨d, .slice e x (some y) (some z) none, t, p, af, g⟩ = vl (Instr.sliceAt e vx (some vy) (some vz) none) := by simp only [execOp, h.val hx, h.val hy, h.val hz, Option.map]
theorem ex_len {ats : Array TypeId} (h : Kn n l a) (hx : Val l x vx) : execOp a.eval ⟨d, .call { callee := .builtin .len, args := #[x], argTypes := ats }, t, p, af, g⟩ = vl (Builtin.len_ ats t #[vx]) := by
  rw [BigFrame.execOp_builtin, BigFrame.builtin_len]; simp [h.val hx]
theorem ex_min {ats : Array TypeId} {xs : Array Operand} {us : List Value} (h : Kn n l a) (hx : Vals l xs.toList us) : execOp a.eval ⟨d, .call { callee := .builtin .min, args := xs, argTypes := ats }, t, p, af, g⟩ = vl (Builtin.min_ ats t us.toArray) := by
  rw [BigFrame.execOp_builtin, BigFrame.builtin_min, show xs.map a.eval = us.toArray by have := h.vals hx; rwa [Array.toArray_toList] at this]
theorem ex_call {f : FuncId} {xs : Array Operand} {us : List Value} {ats : Array TypeId} (h : Kn n l a) (hx : Vals l xs.toList us) : execOp a.eval ⟨d, .call { callee := .value (.func f), args := xs, argTypes := ats }, t, p, af, g⟩ = callFunc f us.toArray := by
  have e : xs.map a.eval = us.toArray := by have := h.vals hx; rwa [Array.toArray_toList] at this
  rw [execOp_call_go, e]; simp
end exec
def Nx (P : Program) (n : Nat) (l : List (Nat × Value)) (ops : Array Oper) (Q : Exit → Act → World → Prop) (rest : List Oper) (d : Tmp) (v : Value) (w : World) : Prop := ∀ a, Kn n ((d, v) :: l) a → wpList P ops Q rest a w
theorem run_value (s : Sem Value) (w : World) (K : Act → World → Prop) (o : Oper) (a : Act) (H : Sat (fun v w' => K (a.put o.dst v) w') (s.run P w)) (he : execOp a.eval o = vl s) : o.wp P a w K Q := by
  unfold Oper.wp;rw [he]
  cases hs : s.run P w with
  | ok v w' =>
    rw [hs] at H;simp [go_sem, hs];exact H
  | halt x w' => rw [hs] at H; exact H.elim
theorem step {o : Oper} {d : Tmp} {s : Sem Value} (h : Kn n l a) (hd : o.dst = some d) (hdn : Nat.blt d n = true) (hw : Wants ops l o.guard true) (he : execOp a.eval o = vl s)
    (H : ∀ K : Value → World → Prop, (∀ v w', Nx P n l ops Q rest d v w' → K v w') → Sat K (s.run P w)) : wpList P ops Q (o :: rest) a w := by
  refine wpList_step fun K hK => ?_;rw [h.wants hw, if_pos rfl];refine run_value s w K o a (H _ fun v w' hn => ?_) he;rw [hd];exact hK _ _ (hn _ (h.put hdn v))
theorem pure {o : Oper} {d : Tmp} {v : Value} (h : Kn n l a) (hd : o.dst = some d) (hdn : Nat.blt d n = true) (hw : Wants ops l o.guard true) (he : execOp a.eval o = vl (.pure v))
    (H : Nx P n l ops Q rest d v w) : wpList P ops Q (o :: rest) a w := step h hd hdn hw he fun _ hK => hK _ _ H
theorem known {o : Oper} {d : Tmp} {s : Sem Value} {v : Value} {w' : World} (h : Kn n l a) (hd : o.dst = some d) (hdn : Nat.blt d n = true) (hw : Wants ops l o.guard true) (he : execOp a.eval o = vl s)
    (hr : s.run P w = .ok v w') (H : Nx P n l ops Q rest d v w') : wpList P ops Q (o :: rest) a w := step h hd hdn hw he fun _ hK => by rw [hr]; exact hK _ _ H
theorem stepU {o : Oper} {s : Sem Unit} (h : Kn n l a) (hd : o.dst = none) (hw : Wants ops l o.guard true) (he : execOp a.eval o = ul s)
    (H : ∀ K : World → Prop, (∀ w', wpList P ops Q rest a w' → K w') → SatU K (s.run P w)) : wpList P ops Q (o :: rest) a w := by
  refine wpList_step fun K hK => ?_;rw [h.wants hw, if_pos rfl];unfold Oper.wp;rw [he];have := H _ fun w' hn => hK a w' hn
  cases hs : s.run P w with
  | ok v w' =>
    rw [hs] at this;simp [go_sem, hs, hd, Act.put];exact this
  | halt x w' => rw [hs] at this; exact this.elim
theorem skip {o : Oper} {d : Tmp} (h : Kn n l a) (hd : o.dst = some d) (hdn : Nat.blt d n = true) (hw : Wants ops l o.guard false) (H : Nx P n l ops Q rest d undef w) : wpList P ops Q (o :: rest) a w := by
  refine wpList_step fun K hK => ?_;rw [h.wants hw, if_neg (by simp), hd];exact hK _ _ (H _ (h.put hdn _))
theorem call {o : Oper} {d : Tmp} {f : FuncId} {args : Array Value} {R : Ending → World → Prop} (h : Kn n l a) (hd : o.dst = some d) (hdn : Nat.blt d n = true) (hw : Wants ops l o.guard true) (he : execOp a.eval o = callFunc f args)
    (hc : ∀ (args : Array Value) (w : World), (callFunc f args).run P w = .ok (.enter f args) w) (hR : Calls P f args w R)
    (H : ∀ e w', R e w' → ∃ v, e = .returned v ∧ Nx P n l ops Q rest d v w') : wpList P ops Q (o :: rest) a w := by
  refine wpList_step fun K hK => ?_;rw [h.wants hw, if_pos rfl];unfold Oper.wp;rw [he, hc];refine hR.mono fun e w' hr => ?_;obtain ⟨v, rfl, hn⟩ := H e w' hr;show K (a.put o.dst v) w';rw [hd];exact hK _ _ (hn _ (h.put hdn v))
inductive Sub (l : List (Nat × Value)) : List (Nat × Value) → Prop
  | nil : Sub l []
  | cons {t : Nat} {v : Value} {l' : List (Nat × Value)} (h : find l t = some v) (r : Sub l l') : Sub l ((t, v) :: l')
  | turn {t : Nat} {v u : Value} {l' : List (Nat × Value)} (h : find l t = some v) (e : v = u) (r : Sub l l') : Sub l ((t, u) :: l')
theorem Sub.at {l l' : List (Nat × Value)} (h : Sub l l') {t : Nat} {v : Value} (hv : find l' t = some v) : find l t = some v := by
  induction h with
  | nil => simp [find] at hv
  | @cons s u l' h1 _ ih =>
    rw [find] at hv
    by_cases e : s = t
    · subst e; rw [Nat.beq_refl] at hv; simp at hv; rw [← hv]; exact h1
    · rw [beq_no e] at hv; exact ih (by simpa using hv)
  | @turn s u x l' h1 h2 _ ih =>
    subst h2;rw [find] at hv
    by_cases e : s = t
    · subst e; rw [Nat.beq_refl] at hv; simp at hv; rw [← hv]; exact h1
    · rw [beq_no e] at hv; exact ih (by simpa using hv)
theorem Kn.cut {l' : List (Nat × Value)} (h : Kn n l a) (hs : Sub l l') : Kn n l' a := ⟨h.defers, h.size, fun _ _ hv => h.get _ _ (hs.at hv)⟩
inductive Ins (args : Array Value) : List (Nat × Value) → Prop
  | nil : Ins args []
  | cons {t : Nat} {v : Value} {l' : List (Nat × Value)} (h : nth args.toList t = some v) (r : Ins args l') : Ins args ((t, v) :: l')
theorem Ins.at {args : Array Value} {l : List (Nat × Value)} (h : Ins args l) {t : Nat} {v : Value} (hv : find l t = some v) : args[t]? = some v := by
  induction h with
  | nil => simp [find] at hv
  | @cons s u l' h1 _ ih =>
    rw [find] at hv
    by_cases e : s = t
    · subst e; rw [Nat.beq_refl] at hv; simp at hv; rw [← hv]; rw [nth_eq] at h1; simpa using h1
    · rw [beq_no e] at hv; exact ih (by simpa using hv)
theorem calls {f : FuncId} {fn : Func} {c : Code} {args : Array Value} {R : Ending → World → Prop} (hf : P.funcs[f]? = some fn) (hb : fn.body = some c) (hn : fn.ntmps = n) (ha : Nat.ble args.size n = true) (hl : Ins args l)
    (H : ∀ a, Kn n l a → c.wp P (bodyPost P fn R) a w) : Calls P f args w R := by
  refine calls_of_wp hf hb (H _ ⟨rfl, ?_, fun t v hv => ?_⟩)
  · have := Nat.le_of_ble_eq_true ha;simp only [Array.size_append, Array.size_replicate]; omega
  · have h1 := hl.at hv
    have h2 : t < args.size := by
      rcases Nat.lt_or_ge t args.size with h | h
      · exact h
      · rw [Array.getElem?_eq_none h] at h1; cases h1
    simp only [Act.eval];rw [Array.getD_eq_getD_getElem?, Array.getElem?_append_left h2, h1]
    rfl
theorem ret1 {fn : Func} {R : Ending → World → Prop} {t : Tmp} {v : Value} (h : Kn n l a) (hr : fn.results = #[.tmp t]) (hv : find l t = some v) (H : R (.returned v) w) : bodyPost P fn R .ret a w :=
  bodyPost_ret (results_tmp hr _ _ _) h.defers (by have := h.get t v hv; simp only [Act.eval] at this; rw [this]; exact H)
theorem yes {x : Operand} {c d : Code} (h : Kn n l a) (hv : Val l x (.bool true)) (H : c.wp P Q a w) : (Code.cond x c d).wp P Q a w := wp_cond_true (h.val hv) H
theorem no {x : Operand} {c d : Code} (h : Kn n l a) (hv : Val l x (.bool false)) (H : d.wp P Q a w) : (Code.cond x c d).wp P Q a w := wp_cond_false (h.val hv) H
theorem then_ret {K : Act → World → Prop} (h : Q .ret a w) : Exit.then K Q .ret a w := h
theorem then_exit {K : Act → World → Prop} {i : Nat} (h : Q (.exit i) a w) : Exit.then K Q (.exit i) a w := h
theorem block_ret {i : Nat} (h : Q .ret a w) : Exit.inBlock i Q .ret a w := h
theorem block_normal {i : Nat} (h : Q .normal a w) : Exit.inBlock i Q .normal a w := h
theorem block_exit {i : Nat} (h : Q .normal a w) : Exit.inBlock i Q (.exit i) a w := by simp only [Exit.inBlock, if_pos]; exact h
theorem loop {c : Code} (I : Nat → Act → World → Prop) (m : Nat) (h0 : I m a w) (hr : ∀ m a w, I m a w → ∀ K : Act → World → Prop, (∀ m' a' w', m' < m → I m' a' w' → K a' w') → c.wp P (Exit.then K Q) a w) : (Code.loop c).wp P Q a w :=
  wp_loop_ghost I m h0 fun m a w h => hr m a w h _ fun m' _ _ hlt h' => ⟨m', hlt, h'⟩
def PI (Q : Exit → Act → World → Prop) : Prop := ∀ (d : Option Tmp) (v : Value) (c : List PanicEntry) (b : Act) (w : World), Q (.panic c) (b.put d v) w → Q (.panic c) b w
theorem PI.then {K : Act → World → Prop} (h : PI Q) : PI (Exit.then K Q) := h
theorem PI.block {i : Nat} (h : PI Q) : PI (Exit.inBlock i Q) := h
theorem PI.body {fn : Func} {R : Ending → World → Prop} : PI (bodyPost P fn R) := fun d v c b w h => by cases d <;> exact h
def JQ (R : Act → World → Prop) : Exit → Act → World → Prop
  | .normal, a, w => R a w
  | _, _, _ => False
theorem PI.join {R : Act → World → Prop} : PI (JQ R) := fun _ _ _ _ _ h => h
theorem join {c : Code} (R : Act → World → Prop) (h : c.wp P (JQ R) a w) (hQ : ∀ a w, R a w → Q .normal a w) : c.wp P Q a w :=
  wp_mono h fun e a w hq => by
    cases e with
    | normal => exact hQ a w hq
    | _ => exact hq.elim
end
end Go.Proofs.Ytkbkdbnmpicidaa.Kn
end
section
namespace Go.Proofs.Ytkbkdbnmpicidaa.Kn
open Go
def backB (md : Region.Mode) (ops : Array Oper) : Bool :=
  (List.range ops.size).all fun i => match ops[i]? with
    | some o => o.after.all fun e => !Region.binds md e || Nat.blt e.on i
    | none => true
def apartB (ops : Array Oper) : Bool :=
  (List.range ops.size).all fun i => (List.range ops.size).all fun j => Nat.beq i j || match (ops[i]?).bind (·.dst), (ops[j]?).bind (·.dst) with
    | some d, some e => !Nat.beq d e
    | _, _ => true
def freshB (n : Nat) (l : List (Nat × Value)) (ops : Array Oper) : Bool :=
  (List.range ops.size).all fun i => match (ops[i]?).bind (·.dst) with
    | some d => Nat.blt d n && l.all fun p => !Nat.beq p.1 d
    | none => true
section
variable {P : Program} {n : Nat} {l : List (Nat × Value)} {ops : Array Oper} {Q : Exit → Act → World → Prop} {md : Region.Mode} {S : World → Prop} {G : World → World → Prop} {T : Nat → Value → World → Prop} {F : Nat → Nat → Value → Value → Prop}
theorem all_listed (hb : backB md ops = true) {listed : Array Bool} (hs : listed.size = ops.size) (hr : Region.ready md ops listed = []) : ∀ i, i < ops.size → listed.getD i false = true := by
  intro i
  induction i using Nat.strongRecOn with
  | _ i ih =>
    intro hi
    cases h : listed.getD i false with
    | true => rfl
    | false =>
      exfalso
      have hm : i ∈ Region.ready md ops listed := by
        refine mem_ready.2 ⟨getD_in (by omega) h, ops[i], Array.getElem?_eq_getElem hi, fun e he hbd => ?_⟩;have h1 := List.all_eq_true.1 hb i (List.mem_range.2 hi);rw [Array.getElem?_eq_getElem hi] at h1;have h2 := Array.all_eq_true_iff_forall_mem.1 h1 e he;rw [hbd] at h2;have h3 : e.on < i := by simpa using h2
        exact ih e.on h3 (by omega)
      rw [hr] at hm;cases hm
theorem Kn.other {a : Act} (h : Kn n l a) {d : Tmp} (v : Value) (hl : l.all (fun p => !Nat.beq p.1 d) = true) : Kn n l (a.put (some d) v) := by
  refine ⟨h.defers, by simp [Act.put, h.size], fun t u hu => ?_⟩
  have hne : d ≠ t := by
    intro e;subst e;clear h
    induction l with
    | nil => simp [find] at hu
    | cons p l ih =>
      obtain ⟨k, v⟩ := p;simp only [List.all_cons, Bool.and_eq_true, Bool.not_eq_true'] at hl;rw [find, hl.1] at hu;exact ih hl.2 hu
  rw [← h.get t u hu];simp only [Act.put, Act.eval];rw [Array.getD_eq_getD_getElem?, Array.getD_eq_getD_getElem?, Array.getElem?_setIfInBounds_ne hne]
theorem eval_put_same {a : Act} {d : Tmp} (v : Value) (h : d < a.tmps.size) : (a.put (some d) v).eval (.tmp d) = v := by simp [Act.put, Act.eval, h]
theorem eval_put_ne {a : Act} {d t : Tmp} (v : Value) (h : d ≠ t) : (a.put (some d) v).eval (.tmp t) = a.eval (.tmp t) := by
  simp only [Act.put, Act.eval];rw [Array.getD_eq_getD_getElem?, Array.getD_eq_getD_getElem?, Array.getElem?_setIfInBounds_ne h]
def Has (md : Region.Mode) (ops : Array Oper) (T : Nat → Value → World → Prop) (o : Oper) (a : Act) (w : World) : Prop :=
  ∀ j d, o.after.toList.any (fun e => Region.binds md e && Nat.beq e.on j) = true → (ops[j]?).bind (·.dst) = some d → T j (a.eval (.tmp d)) w
def Op1 (P : Program) (ops : Array Oper) (Q : Exit → Act → World → Prop) (S : World → Prop) (G : World → World → Prop) (T : Nat → Value → World → Prop) (F : Nat → Nat → Value → Value → Prop) (i : Nat) (o : Oper) (L : Nat → Prop) (a : Act) (w : World) : Prop :=
  if Region.wanted o (yielded ops a.tmps) then o.wp P a w (fun a' w' => ∃ v, a' = a.put o.dst v ∧ T i v w' ∧ S w' ∧ G w w' ∧ ∀ k d, k ≠ i → L k → (ops[k]?).bind (·.dst) = some d → F i k v (a.eval (.tmp d)) ∧ F k i (a.eval (.tmp d)) v) Q
  else T i undef w ∧ ∀ k d, k ≠ i → L k → (ops[k]?).bind (·.dst) = some d → F i k undef (a.eval (.tmp d)) ∧ F k i (a.eval (.tmp d)) undef
def Two (ops : Array Oper) (F : Nat → Nat → Value → Value → Prop) (L : Nat → Prop) (a : Act) : Prop := ∀ j k d e, j ≠ k → L j → L k → (ops[j]?).bind (·.dst) = some d → (ops[k]?).bind (·.dst) = some e → F j k (a.eval (.tmp d)) (a.eval (.tmp e))
def One (ops : Array Oper) (T : Nat → Value → World → Prop) (L : Nat → Prop) (a : Act) (w : World) : Prop := ∀ k d, L k → (ops[k]?).bind (·.dst) = some d → T k (a.eval (.tmp d)) w
def Ahead (md : Region.Mode) (o : Oper) (L : Nat → Prop) : Prop := ∀ j, o.after.toList.any (fun e => Region.binds md e && Nat.beq e.on j) = true → L j
def Ok (P : Program) (n : Nat) (l : List (Nat × Value)) (md : Region.Mode) (ops : Array Oper) (Q : Exit → Act → World → Prop) (S : World → Prop) (G : World → World → Prop) (T : Nat → Value → World → Prop) (F : Nat → Nat → Value → Value → Prop) (i : Nat) (o : Oper) : Prop :=
  ∀ a w L, Kn n l a → S w → One ops T L a w → Two ops F L a → Ahead md o L → Op1 P ops Q S G T F i o L a w
def Oks (P : Program) (n : Nat) (l : List (Nat × Value)) (md : Region.Mode) (ops : Array Oper) (Q : Exit → Act → World → Prop) (S : World → Prop) (G : World → World → Prop) (T : Nat → Value → World → Prop) (F : Nat → Nat → Value → Value → Prop) : Nat → List Oper → Prop
  | _, [] => True
  | k, o :: r => Ok P n l md ops Q S G T F k o ∧ Oks P n l md ops Q S G T F (k + 1) r
theorem Oks.at {r : List Oper} {k : Nat} (h : Oks P n l md ops Q S G T F k r) {j : Nat} {o : Oper} (hj : r[j]? = some o) : Ok P n l md ops Q S G T F (k + j) o := by
  induction r generalizing k j with
  | nil => simp at hj
  | cons x r ih =>
    cases j with
    | zero => simp at hj; subst hj; exact h.1
    | succ j =>
      have := ih h.2 (j := j) (by simpa using hj)
      rwa [show k + 1 + j = k + (j + 1) by omega] at this
structure Reg (n : Nat) (l : List (Nat × Value)) (ops : Array Oper) (S : World → Prop) (T : Nat → Value → World → Prop) (F : Nat → Nat → Value → Value → Prop) (listed : Array Bool) (a : Act) (w : World) : Prop where
  kn : Kn n l a
  size : listed.size = ops.size
  ok : S w
  slots : ∀ j d, (ops[j]?).bind (·.dst) = some d → listed.getD j false = true → T j (a.eval (.tmp d)) w
  pairs : ∀ i j d e, i ≠ j → (ops[i]?).bind (·.dst) = some d → (ops[j]?).bind (·.dst) = some e → listed.getD i false = true → listed.getD j false = true → F i j (a.eval (.tmp d)) (a.eval (.tmp e))
  stores : ∀ j o, ops[j]? = some o → o.dst = none → listed.getD j false = true → ∃ v, T j v w
theorem Reg.next (hap : apartB ops = true) (hfr : freshB n l ops = true) {listed : Array Bool} {a : Act} {w w' : World} {i : Nat} {o : Oper} {v : Value} (h : Reg n l ops S T F listed a w) (ho : ops[i]? = some o) (hv : T i v w') (hS : S w') (hG : ∀ j u, T j u w → T j u w') (hF : ∀ k d, k ≠ i → listed.getD k false = true → (ops[k]?).bind (·.dst) = some d → F i k v (a.eval (.tmp d)) ∧ F k i (a.eval (.tmp d)) v) : Reg n l ops S T F (listed.setIfInBounds i true) (a.put o.dst v) w' := by
  have hi : i < ops.size := (Array.getElem?_eq_some_iff.1 ho).1;have hob : (ops[i]?).bind (·.dst) = o.dst := by rw [ho]; rfl
  cases hd : o.dst with
  | none =>
    have old : ∀ j d, (ops[j]?).bind (·.dst) = some d → (listed.setIfInBounds i true).getD j false = true → listed.getD j false = true := fun j d hj hl => by
      by_cases e : i = j
      · subst e; rw [hob, hd] at hj; cases hj
      · rwa [getD_set_ne false e] at hl
    exact ⟨h.kn, by simp [h.size], hS, fun j d hj hl => hG _ _ (h.slots j d hj (old j d hj hl)), fun j k d e hne hj hk hl hm => h.pairs j k d e hne hj hk (old j d hj hl) (old k e hk hm), fun j o2 hj hd2 hl => by
      by_cases e : i = j
      · subst e; exact ⟨v, hv⟩
      · rw [getD_set_ne false e] at hl;obtain ⟨u, hu⟩ := h.stores j o2 hj hd2 hl
        exact ⟨u, hG _ _ hu⟩⟩
  | some d =>
    have h1 := List.all_eq_true.1 hfr i (List.mem_range.2 hi);rw [hob, hd] at h1;simp only [Bool.and_eq_true] at h1;have hdn : d < a.tmps.size := by rw [h.kn.size]; exact Nat.le_of_ble_eq_true h1.1
    have oth : ∀ j e, i ≠ j → (ops[j]?).bind (·.dst) = some e → (a.put (some d) v).eval (.tmp e) = a.eval (.tmp e) := fun j e hij hj => by
      have hjs : j < ops.size := by
        cases hj2 : ops[j]? with
        | none => rw [hj2] at hj; cases hj
        | some x => exact (Array.getElem?_eq_some_iff.1 hj2).1
      have h2 := List.all_eq_true.1 (List.all_eq_true.1 hap i (List.mem_range.2 hi)) j (List.mem_range.2 hjs);rw [hob, hd, hj, beq_no hij] at h2;have hde : d ≠ e := fun e' => by subst e'; simp at h2
      exact eval_put_ne v hde
    refine ⟨h.kn.other v h1.2, by simp [h.size], hS, fun j e hj hl => ?_, fun j k e f hne hj hk hl hm => ?_, fun j o2 hj hd2 hl => ?_⟩
    rotate_right
    · by_cases hij : i = j
      · subst hij;rw [ho] at hj;obtain rfl := Option.some.inj hj;rw [hd] at hd2;cases hd2
      · rw [getD_set_ne false hij] at hl;obtain ⟨u, hu⟩ := h.stores j o2 hj hd2 hl;exact ⟨u, hG _ _ hu⟩
    · by_cases hij : i = j
      · subst hij;rw [hob, hd] at hj;obtain rfl := Option.some.inj hj;rw [eval_put_same v hdn];exact hv
      · rw [getD_set_ne false hij] at hl;rw [oth j e hij hj];exact hG _ _ (h.slots j e hj hl)
    · by_cases hij : i = j
      · subst hij;rw [hob, hd] at hj;obtain rfl := Option.some.inj hj;rw [getD_set_ne false hne] at hm;rw [eval_put_same v hdn, oth k f hne hk];exact (hF k f (fun e => hne e.symm) hm hk).1
      · rw [getD_set_ne false hij] at hl;rw [oth j e hij hj]
        by_cases hik : i = k
        · subst hik;rw [hob, hd] at hk;obtain rfl := Option.some.inj hk;rw [eval_put_same v hdn];exact (hF j e (fun e => hij e.symm) hl hj).2
        · rw [getD_set_ne false hik] at hm;rw [oth k f hik hk];exact h.pairs j k e f hne hj hk hl hm
theorem wpAny_reg (hback : backB md ops = true) (hap : apartB ops = true) (hfr : freshB n l ops = true) (hT : ∀ i v w w', G w w' → T i v w → T i v w') (hok : Oks P n l md ops Q S G T F 0 ops.toList)
    (hend : ∀ a w, Kn n l a → S w → (∀ j d, (ops[j]?).bind (·.dst) = some d → T j (a.eval (.tmp d)) w) → (∀ i j d e, i ≠ j → (ops[i]?).bind (·.dst) = some d → (ops[j]?).bind (·.dst) = some e → F i j (a.eval (.tmp d)) (a.eval (.tmp e))) → (∀ j o, ops[j]? = some o → o.dst = none → ∃ v, T j v w) → Q .normal a w) :
    ∀ (fuel : Nat) (listed : Array Bool) (a : Act) (w : World), listed.toList.countP (fun b => !b) ≤ fuel → Reg n l ops S T F listed a w → wpAny P md ops Q fuel listed a w := by
  have fin : ∀ (listed : Array Bool) (a : Act) (w : World), Reg n l ops S T F listed a w → Region.ready md ops listed = [] → Q .normal a w := fun listed a w h hr => by
    have al : ∀ j d, (ops[j]?).bind (·.dst) = some d → listed.getD j false = true := fun j d hj => by
      have hjs : j < ops.size := by
        cases hj2 : ops[j]? with
        | none => rw [hj2] at hj; cases hj
        | some x => exact (Array.getElem?_eq_some_iff.1 hj2).1
      exact all_listed hback h.size hr j hjs
    exact hend a w h.kn h.ok (fun j d hj => h.slots j d hj (al j d hj)) (fun i j d e hne hi hj => h.pairs i j d e hne hi hj (al i d hi) (al j e hj)) fun j o hj hd => h.stores j o hj hd (all_listed hback h.size hr j (Array.getElem?_eq_some_iff.1 hj).1)
  intro fuel
  induction fuel with
  | zero =>
    intro listed a w hc h
    have hr : Region.ready md ops listed = [] := by
      cases hr : Region.ready md ops listed with
      | nil => rfl
      | cons i r =>
        exfalso
        have hi := (mem_ready.1 (show i ∈ Region.ready md ops listed by rw [hr]; exact List.mem_cons_self)).1
        have hil : i < listed.size := by
          rcases Nat.lt_or_ge i listed.size with h' | h'
          · exact h'
          · simp [Array.getElem?_eq_none h'] at hi
        have hz : listed.toList.countP (fun b => !b) = 0 := by omega
        rw [List.countP_eq_zero] at hz;have := hz listed[i] (by simp);simp [hil] at hi;simp [hi] at this
    exact ⟨hr, fin listed a w h hr⟩
  | succ fuel ih =>
    intro listed a w hc h;refine ⟨fin listed a w h, fun i hi => ?_⟩;obtain ⟨hun, o, ho, hall⟩ := mem_ready.1 hi
    have hil : i < listed.size := by
      rcases Nat.lt_or_ge i listed.size with h' | h'
      · exact h'
      · simp [Array.getElem?_eq_none h'] at hun
    have hcount : (listed.setIfInBounds i true).toList.countP (fun b => !b) ≤ fuel := by
      have hli : listed[i] = false := by simpa [hil] using hun
      rw [Array.toList_setIfInBounds, List.countP_set (by simpa using hil)];simp only [Array.getElem_toList, hli];simp only [Bool.not_false, Bool.not_true, if_true, Bool.false_eq_true, if_false];omega
    have hok' := hok.at (j := i) (o := o) (by rw [Array.getElem?_toList]; exact ho);rw [Nat.zero_add] at hok'
    have hs := hok' a w (fun k => listed.getD k false = true) h.kn h.ok (fun k d hk hd => h.slots k d hd hk) (fun j k d e hne hj hk hd he => h.pairs j k d e hne hd he hj hk) (fun j hj => by
      obtain ⟨e, he, he2⟩ := List.any_eq_true.1 hj;simp only [Bool.and_eq_true] at he2;have := Nat.eq_of_beq_eq_true he2.2;subst this
      exact hall e (Array.mem_toList_iff.1 he) he2.1)
    unfold Op1 at hs;unfold wpOp;simp only [ho]
    split
    · rename_i hw;rw [if_pos hw] at hs;refine .inl (Oper.wp_mono (fun a' w' hx => ?_) hs);obtain ⟨v, rfl, hv, hS, hG, hF⟩ := hx;exact ih _ _ _ hcount (h.next hap hfr ho hv hS (fun j u hu => hT j u _ _ hG hu) hF)
    · rename_i hw;rw [if_neg hw] at hs;exact ih _ _ _ hcount (h.next hap hfr ho hs.1 h.ok (fun j u hu => hu) hs.2)
theorem anyFU {id : Nat} {os : List Oper} {a : Act} {w : World} (S : World → Prop) (G : World → World → Prop) (T : Nat → Value → World → Prop) (F : Nat → Nat → Value → Value → Prop) (hm : P.follows .mixedOrders = true) (h : Kn n l a) (hback : backB .any os.toArray = true) (hap : apartB os.toArray = true) (hfr : freshB n l os.toArray = true)
    (hT : ∀ i v w w', G w w' → T i v w → T i v w') (hS : S w.drew) (hok : Oks P n l .any os.toArray Q S G T F 0 os)
    (hend : ∀ a w, Kn n l a → S w → (∀ j d, (os.toArray[j]?).bind (·.dst) = some d → T j (a.eval (.tmp d)) w) → (∀ i j d e, i ≠ j → (os.toArray[i]?).bind (·.dst) = some d → (os.toArray[j]?).bind (·.dst) = some e → F i j (a.eval (.tmp d)) (a.eval (.tmp e))) → (∀ j o, os.toArray[j]? = some o → o.dst = none → ∃ v, T j v w) → Q .normal a w) : (Code.region id os.toArray true).wp P Q a w := by
  refine wp_region_any hm (wpAny_reg (S := S) (G := G) (T := T) (F := F) hback hap hfr hT (by simpa using hok) hend _ _ _ _ ?_ ⟨h, by simp, hS, fun j d hj hl => ?_, fun i j d e _ _ _ hl _ => ?_, fun j o hj hd hl => ?_⟩)
  · refine Nat.le_trans List.countP_le_length ?_;simp
  · rw [getD_replicate_false] at hl; cases hl
  · rw [getD_replicate_false] at hl; cases hl
  · rw [getD_replicate_false] at hl; cases hl
theorem anyF {id : Nat} {os : List Oper} {a : Act} {w : World} (S : World → Prop) (G : World → World → Prop) (T : Nat → Value → World → Prop) (F : Nat → Nat → Value → Value → Prop) (hm : P.follows .mixedOrders = true) (h : Kn n l a) (hback : backB .any os.toArray = true) (hap : apartB os.toArray = true) (hfr : freshB n l os.toArray = true)
    (hT : ∀ i v w w', G w w' → T i v w → T i v w') (hS : S w.drew) (hok : Oks P n l .any os.toArray Q S G T F 0 os)
    (hend : ∀ a w, Kn n l a → S w → (∀ j d, (os.toArray[j]?).bind (·.dst) = some d → T j (a.eval (.tmp d)) w) → (∀ i j d e, i ≠ j → (os.toArray[i]?).bind (·.dst) = some d → (os.toArray[j]?).bind (·.dst) = some e → F i j (a.eval (.tmp d)) (a.eval (.tmp e))) → Q .normal a w) : (Code.region id os.toArray true).wp P Q a w :=
  anyFU S G T F hm h hback hap hfr hT hS hok fun a w h1 h2 h3 h4 _ => hend a w h1 h2 h3 h4
def F0 : Nat → Nat → Value → Value → Prop := fun _ _ _ _ => True
theorem any {id : Nat} {os : List Oper} {a : Act} {w : World} (S : World → Prop) (G : World → World → Prop) (T : Nat → Value → World → Prop) (hm : P.follows .mixedOrders = true) (h : Kn n l a) (hback : backB .any os.toArray = true) (hap : apartB os.toArray = true) (hfr : freshB n l os.toArray = true)
    (hT : ∀ i v w w', G w w' → T i v w → T i v w') (hS : S w.drew) (hok : Oks P n l .any os.toArray Q S G T F0 0 os)
    (hend : ∀ a w, Kn n l a → S w → (∀ j d, (os.toArray[j]?).bind (·.dst) = some d → T j (a.eval (.tmp d)) w) → Q .normal a w) : (Code.region id os.toArray true).wp P Q a w :=
  anyF S G T F0 hm h hback hap hfr hT hS hok fun a w h1 h2 h3 _ => hend a w h1 h2 h3
theorem ok {i : Nat} {o : Oper} (h : ∀ a w L, Kn n l a → S w → Has md ops T o a w → Op1 P ops Q S G T F i o L a w) : Ok P n l md ops Q S G T F i o := fun a w L h1 h2 h3 _ h5 => h a w L h1 h2 fun j d hj hd => h3 j d (h5 j hj) hd
end
def TL : List (Value → World → Prop) → Nat → Value → World → Prop
  | [], _, _, _ => True
  | p :: _, 0, v, w => p v w
  | _ :: l, i + 1, v, w => TL l i v w
inductive Keeps (G : World → World → Prop) : List (Value → World → Prop) → Prop
  | nil : Keeps G []
  | cons {p : Value → World → Prop} {l : List (Value → World → Prop)} (h : ∀ v w w', G w w' → p v w → p v w') (r : Keeps G l) : Keeps G (p :: l)
theorem Keeps.all {G : World → World → Prop} {l : List (Value → World → Prop)} (h : Keeps G l) : ∀ i v w w', G w w' → TL l i v w → TL l i v w' := by
  induction h with
  | nil => intro i v w w' _ _; exact trivial
  | cons h1 _ ih =>
    intro i v w w' hg ht
    cases i with
    | zero => exact h1 v w w' hg ht
    | succ i => exact ih i v w w' hg ht
end Go.Proofs.Ytkbkdbnmpicidaa.Kn
end
section
namespace Go.Proofs.Ytkbkdbnmpicidaa.Own
open Go Go.RowKit Go.Lib
structure Kept (v v' : World) (r : Option Nat) (g' : Nat) : Prop where
  at' : r = some g' ∨ v.heap.size ≤ g'
  lt : g' < v'.heap.size
  size : v.heap.size ≤ v'.heap.size
  grown : v.grownBy v' r
theorem Kept.cell {v v' : World} {r : Option Nat} {g' b o : Nat} (h : Kept v v' r g') (hlt : b < v.heap.size) (hne : some b ≠ r) : v'.cell? ⟨b, o, none⟩ = v.cell? ⟨b, o, none⟩ := h.grown.cell_far ⟨b, o, none⟩ hlt hne
structure Elem (P : Program) (T e : TypeId) (z : Value) (size bytes : Nat) : Prop where
  under : P.underlying T = some (.slice e)
  info : (P.info? e).map (fun i => (i.zero, i.size, i.bytes)) = some (some z, size, bytes)
  cells : z.cells.size = size
  pos : 0 < size
section
variable {P : Program} {T e : TypeId} {z : Value} {size bytes : Nat}
theorem Elem.parts (h : Elem P T e z size bytes) : ∃ i, P.info? e = some i ∧ i.zero = some z ∧ i.size = size ∧ i.bytes = bytes := by
  have hi := h.info
  cases hq : P.info? e with
  | none => rw [hq] at hi; cases hi
  | some i =>
    rw [hq] at hi;simp only [Option.map_some, Option.some.injEq, Prod.mk.injEq] at hi;exact ⟨i, rfl, hi.1, hi.2.1, hi.2.2⟩
theorem row_on {w w' : World} {B size n : Nat} {e : TypeId} {d : Value} {xs : List Value} (h : w.ownsRow B e size d n xs) (hb : Below w.heap.size w w') : w'.ownsRow B e size d n xs := by
  obtain ⟨h1, h2⟩ := h;refine ⟨h1, ?_⟩;rcases h2 with h2 | ⟨g, cap, cur, e1, e2, e3, e4⟩
  · exact .inl h2
  · refine .inr ⟨g, cap, cur, e1, e2, ?_, e4⟩
    rw [hb.block g (by
      rcases Nat.lt_or_ge g w.heap.size with h | h
      · exact h
      · rw [Array.getElem?_eq_none h] at e3; cases e3)]
    exact e3
end
end Go.Proofs.Ytkbkdbnmpicidaa.Own
end
section
namespace Go.Proofs.Ytkbkdbnmpicidaa.St
open Go Go.RowKit Go.Lib
def rowD : TypeDesc → Bool
  | .struct _ => true
  | .array _ _ => true
  | _ => false
def St (w : World) (g : Nat) (T : TypeId) (cs : Array Value) : Prop := w.heap[g]? = some (.cells cs T (0, 0))
section
variable {w w' : World} {g : Nat} {T : TypeId} {cs : Array Value}
theorem St.lt (h : St w g T cs) : g < w.heap.size := (Array.getElem?_eq_some_iff.1 h).1
theorem St.on (h : St w g T cs) (hb : Below w.heap.size w w') : St w' g T cs := (hb.block g h.lt).trans h
theorem St.drew (h : St w g T cs) : St w.drew g T cs := h
theorem St.cell (h : St w g T cs) (i : Nat) {v : Value} (hv : cs[i]? = some v) : w.cell? ⟨g, i, none⟩ = some v := (cell_of_row w g i cs T (0, 0) h).trans hv
theorem St.setRow (h : St w g T cs) {k : Nat} (hk : g ≠ k) (xs : Array Value) : St (w.setRow k xs) g T cs := (setRow_other w k g xs hk).trans h
theorem St.setCell (h : St w g T cs) {a : Addr} (hk : g ≠ a.block) (v : Value) : St (w.setCell a v) g T cs := (heap_setCell_other w a g v hk).trans h
theorem St.put (h : St w g T cs) (i : Nat) (v : Value) : St (w.setCell ⟨g, i, none⟩ v) g T (cs.setIfInBounds i v) := heap_setCell_same w g i cs T v h
theorem St.store {P : Program} {cells : Array Value} (h : St w g T cs) (hi : (P.info? T).map (·.size) = some cells.size) (ho : cs.size = cells.size) (h1 : cells.all (·.oneCell') = true) :
    (Instr.storeAt T (.pointer (some ⟨g, 0, none⟩)) (.agg cells)).run P w = .ok () (w.setRow g cells) ∧ St (w.setRow g cells) g T cells ∧ ∀ B, B ≤ g → Below B w (w.setRow g cells) := by
  refine ⟨?_, setRow_heap w g cs cells T (0, 0) h, fun B hB => below_setRow (Below.refl B w) hB cells⟩;have hs := run_storeVar_row (P := P) w g T T cs cells h hi ho h1;simp only [Instr.storeAt, Instr.sureAddr, Sem.run_bind, Sem.run_pure, Result.andThen_ok];exact hs
theorem St.load {P : Program} {d : TypeDesc} (h : St w g T cs) (hu : P.underlying T = some d) (hd : rowD d = true) (hi : (P.info? T).map (·.size) = some cs.size) :
    (loadVar T ⟨g, 0, none⟩).run P w = .ok (.agg cs) w := by
  cases d <;> first | exact run_loadVar_row w g T T cs (0, 0) _ h hu rfl hi | cases hd
end
end Go.Proofs.Ytkbkdbnmpicidaa.St
namespace Go.Proofs.Ytkbkdbnmpicidaa.Kn
open Go
section
variable {P : Program} {n : Nat} {l : List (Nat × Value)} {a : Act} {w : World}
end
end Go.Proofs.Ytkbkdbnmpicidaa.Kn
end
section
namespace Go.Proofs.Ytkbkdbnmpicidaa.RowG
open Go Go.RowKit Go.Lib
structure Rw (α : Type) where
  enc : α → List Value
  size : Nat
  len : ∀ a, (enc a).length = size
  one : ∀ a u, u ∈ enc a → u.oneCell' = true
variable {α : Type} (R : Rw α)
theorem addr_add (b o j : Nat) : (⟨b, o, none⟩ : Addr).add j = ⟨b, o + j, none⟩ := by unfold Addr.add; split <;> simp_all
def cs (l : List α) : List Value := l.flatMap R.enc
theorem cs_len (l : List α) : (cs R l).length = l.length * R.size := by
  induction l with
  | nil => simp [cs]
  | cons a l ih =>
    unfold cs at ih ⊢;rw [List.flatMap_cons, List.length_append, ih, R.len, List.length_cons, Nat.add_mul];omega
theorem cs_at : ∀ (l : List α) (i j : Nat) (a : α) (u : Value), l[i]? = some a → (R.enc a)[j]? = some u → (cs R l)[i * R.size + j]? = some u
  | [], i, j, a, u, h, _ => by simp at h
  | x :: l, 0, j, a, u, h, hu => by
    simp at h;subst h;have hj := (List.getElem?_eq_some_iff.1 hu).1;unfold cs;rw [List.flatMap_cons, Nat.zero_mul, Nat.zero_add, List.getElem?_append_left hj];exact hu
  | x :: l, i + 1, j, a, u, h, hu => by
    have ih := cs_at l i j a u (by simpa using h) hu;unfold cs at ih ⊢;rw [List.flatMap_cons, List.getElem?_append_right (by rw [R.len, Nat.add_mul]; omega), R.len, show (i + 1) * R.size + j - R.size = i * R.size + j by rw [Nat.add_mul]; omega];exact ih
def RIn (w : World) (A : Option Addr) (l : List α) : Prop := ∀ (i : Nat) (a : α), l[i]? = some a → ∃ b o, A = some ⟨b, o, none⟩ ∧ b < w.heap.size ∧ ∀ (j : Nat) (u : Value), (R.enc a)[j]? = some u → w.cell? ⟨b, o + (i * R.size + j), none⟩ = some u
variable {R} {w w' : World} {A : Option Addr} {l : List α}
theorem RIn.nil : RIn R w A [] := fun i a h => by simp at h
theorem RIn.on (h : RIn R w A l) (hb : Below w.heap.size w w') : RIn R w' A l := fun i a hi => by
  obtain ⟨b, o, e, hlt, h1⟩ := h i a hi;exact ⟨b, o, e, Nat.lt_of_lt_of_le hlt hb.size, fun j u hu => (hb.cell (p := ⟨b, o + (i * R.size + j), none⟩) hlt).trans (h1 j u hu)⟩
theorem RIn.drew (h : RIn R w A l) : RIn R w.drew A l := h
theorem RIn.cell {b o : Nat} (h : RIn R w (some ⟨b, o, none⟩) l) {i j : Nat} {a : α} {u : Value} (hi : l[i]? = some a) (hu : (R.enc a)[j]? = some u) : w.cell? ⟨b, o + (i * R.size + j), none⟩ = some u := by
  obtain ⟨b', o', e, _, h1⟩ := h i a hi;cases e;exact h1 j u hu
theorem RIn.addr (h : RIn R w A l) (hl : 0 < l.length) : ∃ b o, A = some ⟨b, o, none⟩ ∧ b < w.heap.size := by
  obtain ⟨b, o, e, hlt, _⟩ := h 0 l[0] (List.getElem?_eq_getElem hl);exact ⟨b, o, e, hlt⟩
theorem RIn.take (h : RIn R w A l) (k : Nat) : RIn R w A (l.take k) := fun i a hi => h i a (by
  rw [List.getElem?_take] at hi
  split at hi
  · exact hi
  · cases hi)
def ROwn (R : Rw α) (e : TypeId) (w : World) (B : Nat) (A : Option Addr) (n cap : Nat) (l : List α) : Prop := n = l.length ∧ w.ownsRow B e R.size (.slice A n cap) n (cs R l)
variable {e : TypeId} {B n cap : Nat}
theorem ROwn.rin (h : ROwn R e w B A n cap l) : RIn R w A l := fun i a hi => by
  have hl := (List.getElem?_eq_some_iff.1 hi).1;obtain ⟨g, cap', ef, hb, hlt⟩ := h.2.form (by rw [h.1]; omega);simp only [Value.slice.injEq] at ef;obtain ⟨rfl, _, _⟩ := ef;refine ⟨g, 0, rfl, hlt, fun j u hu => ?_⟩;have := h.2.cells (g := g) rfl _ _ (cs_at R l i j a u hi hu)
  rwa [addr_add] at this
theorem ROwn.lt {g : Nat} (h : ROwn R e w B (some ⟨g, 0, none⟩) n cap l) : g < w.heap.size := (h.2.lt g rfl).2
theorem ROwn.drew (h : ROwn R e w B A n cap l) : ROwn R e w.drew B A n cap l := h
theorem ROwn.on (h : ROwn R e w B A n cap l) (hb : Below w.heap.size w w') : ROwn R e w' B A n cap l := ⟨h.1, Own.row_on h.2 hb⟩
theorem ROwn.none : ROwn R e w B none 0 0 [] := ⟨rfl, World.ownsRow_nil _ _ _ _⟩
theorem ROwn.mono {B' : Nat} (h : ROwn R e w B A n cap l) (hB : B' ≤ B) : ROwn R e w B' A n cap l := by
  refine ⟨h.1, h.2.1, ?_⟩;rcases h.2.2 with hn | ⟨g, cap', cur, hv, hb, rest⟩
  · exact .inl hn
  · exact .inr ⟨g, cap', cur, hv, Nat.le_trans hB hb, rest⟩
def txR : Rw ByteArray := ⟨fun s => [.string s], 1, fun _ => rfl, fun _ u hu => by simp at hu; subst hu; rfl⟩
end Go.Proofs.Ytkbkdbnmpicidaa.RowG
end
section
namespace Go.Proofs.Ytkbkdbnmpicidaa.RowG
open Go Go.RowKit Go.Lib
def Hold {α : Type} (R : Rw α) (w : World) (g : Nat) (l : List α) : Prop := g < w.heap.size ∧ ∀ (i : Nat) (a : α), l[i]? = some a → ∀ (j : Nat) (u : Value), (R.enc a)[j]? = some u → w.cell? ⟨g, i * R.size + j, none⟩ = some u ∧ w.frozen? ⟨g, i * R.size + j, none⟩ = false
section
variable {α : Type} {R : Rw α} {w w' : World} {g : Nat} {l : List α}
theorem Hold.rin (h : Hold R w g l) : RIn R w (some ⟨g, 0, none⟩) l := fun i a hi => ⟨g, 0, rfl, h.1, fun j u hu => by rw [Nat.zero_add]; exact (h.2 i a hi j u hu).1⟩
theorem Hold.at (h : Hold R w g l) (hs : w.heap.size ≤ w'.heap.size) (e : w'.heap[g]? = w.heap[g]?) : Hold R w' g l := ⟨Nat.lt_of_lt_of_le h.1 hs, fun i a hi j u hu => by
  obtain ⟨h1, h2⟩ := h.2 i a hi j u hu
  exact ⟨by simp only [World.cell?, e]; exact h1, by simp only [World.frozen?, e]; exact h2⟩⟩
theorem Hold.on (h : Hold R w g l) (hb : Below w.heap.size w w') : Hold R w' g l := h.at hb.size (hb.block g h.1)
theorem Hold.cell (h : Hold R w g l) {i j : Nat} {a : α} {u : Value} (hi : l[i]? = some a) (hu : (R.enc a)[j]? = some u) : w.cell? ⟨g, i * R.size + j, none⟩ = some u := (h.2 i a hi j u hu).1
theorem Hold.there (h : Hold R w g l) {k : Nat} (hk : k < l.length) : w.there g (k * R.size) R.size := fun j hj => by
  have hj2 : j < (R.enc l[k]).length := by rw [R.len]; exact hj
  obtain ⟨h1, h2⟩ := h.2 k l[k] (List.getElem?_eq_getElem hk) j (R.enc l[k])[j] (List.getElem?_eq_getElem hj2);exact ⟨by rw [h1]; rfl, h2⟩
theorem heap_setCells_ne (b c : Nat) (hc : c ≠ b) : ∀ (vs : List Value) (o : Nat) (w : World), (w.setCells b o vs).heap[c]? = w.heap[c]?
  | [], _, _ => rfl
  | v :: r, o, w => by rw [World.setCells, heap_setCells_ne b c hc r]; exact heap_setCell_other w _ c v hc
theorem size_setCellsG (b : Nat) : ∀ (vs : List Value) (o : Nat) (w : World), (w.setCells b o vs).heap.size = w.heap.size
  | [], _, _ => rfl
  | v :: r, o, w => by rw [World.setCells, size_setCellsG b r]; simp [World.setCell]
theorem Hold.set (h : Hold R w g l) (k : Nat) (hk : k < l.length) (a : α) : Hold R (w.setCells g (k * R.size) (R.enc a)) g (l.set k a) := by
  refine ⟨by rw [size_setCellsG]; exact h.1, fun i b hi j u hu => ?_⟩;have hj : j < R.size := by have := (List.getElem?_eq_some_iff.1 hu).1; rwa [R.len] at this
  rw [World.frozen?_setCells];have ht := h.there hk
  by_cases e : i = k
  · subst e;rw [List.getElem?_set_self hk] at hi;cases hi;obtain ⟨hj2, e2⟩ := List.getElem?_eq_some_iff.1 hu;refine ⟨?_, (ht j hj).2⟩;rw [World.cell?_setCells_in g (R.enc a) (i * R.size) w (fun j' hj' => (ht j' (by rwa [R.len] at hj')).1) j hj2, e2]
  · rw [List.getElem?_set_ne (fun q => e q.symm)] at hi;obtain ⟨h1, h2⟩ := h.2 i b hi j u hu;refine ⟨?_, h2⟩;rw [World.cell?_setCells_out g (R.enc a) (k * R.size) w ⟨g, i * R.size + j, none⟩ (fun _ _ => ?_)]
    · exact h1
    · show i * R.size + j < k * R.size ∨ k * R.size + (R.enc a).length ≤ i * R.size + j;rw [R.len];rcases Nat.lt_or_gt_of_ne e with q | q
      · left
        have := Nat.mul_le_mul_right R.size (show i + 1 ≤ k from q);rw [Nat.add_mul] at this;omega
      · right
        have := Nat.mul_le_mul_right R.size (show k + 1 ≤ i from q);rw [Nat.add_mul] at this;omega
theorem setCells_rest (w : World) (g o : Nat) (vs : List Value) : (∀ b, b ≠ g → (w.setCells g o vs).heap[b]? = w.heap[b]?) ∧ (w.setCells g o vs).heap.size = w.heap.size ∧ ∀ B, B ≤ g → Below B w (w.setCells g o vs) :=
  ⟨fun b hb => heap_setCells_ne g b hb vs o w, size_setCellsG g vs o w, fun B hB => below_setCells_w hB vs o w⟩
theorem Hold.store1 {P : Program} {e : TypeId} (h : Hold R w g l) (k : Nat) (hk : k < l.length) (a : α) (x : Value) (hx : R.enc a = [x]) (hz : R.size = 1)
    (hr : ∀ (w : World) (p : Addr) (c : Value), w.cell? p = some c → w.frozen? p = false → (Instr.storeAt e (.pointer (some p)) x).run P w = .ok () (w.setCell p x)) :
    ∃ w', (Instr.storeAt e (.pointer (some ⟨g, k, none⟩)) x).run P w = .ok () w' ∧ Hold R w' g (l.set k a) ∧ (∀ b, b ≠ g → w'.heap[b]? = w.heap[b]?) ∧ w'.heap.size = w.heap.size ∧ ∀ B, B ≤ g → Below B w w' := by
  obtain ⟨r1, r2, r3⟩ := setCells_rest w g (k * R.size) (R.enc a);refine ⟨w.setCells g (k * R.size) (R.enc a), ?_, h.set k hk a, r1, r2, r3⟩;obtain ⟨h1, h2⟩ := h.there hk 0 (by omega);rw [hz, Nat.mul_one, Nat.add_zero] at h1 h2;obtain ⟨c, hc⟩ := Option.isSome_iff_exists.1 h1;rw [hr w _ c hc h2, hx, hz, Nat.mul_one]
  rfl
theorem Hold.take (h : Hold R w g l) (k : Nat) : Hold R w g (l.take k) := ⟨h.1, fun i a hi => h.2 i a (by
  rw [List.getElem?_take] at hi
  split at hi
  · exact hi
  · cases hi)⟩
theorem hold_of_own {e : TypeId} {B n cap : Nat} (h : ROwn R e w B (some ⟨g, 0, none⟩) n cap l) : Hold R w g l := ⟨h.lt, fun i a hi j u hu => by
  have c := h.rin.cell hi hu;rw [Nat.zero_add] at c;obtain ⟨hn, hl, hr⟩ := h;rcases hr with ⟨hv, _⟩ | ⟨g', cap', cur, hv, hB, hg, hle, hm, hs, ht⟩
  · cases hv
  · simp only [Value.slice.injEq, Option.some.injEq, Addr.mk.injEq] at hv;obtain ⟨⟨rfl, _, _⟩, _, _⟩ := hv
    exact ⟨c, by simp [World.frozen?, hg]⟩⟩
theorem made_cs (R : Rw α) (z : Value) (a : α) (hz : z.cells.toList = R.enc a) (hs : 0 < R.size) (n : Nat) : (madeCells z.cells (n * R.size)).toList = cs R (List.replicate n a) := by
  have hzs : z.cells.size = R.size := by rw [← Array.length_toList, hz, R.len]
  apply List.ext_getElem?
  intro k;rcases Nat.lt_or_ge k (n * R.size) with hk | hk
  · have hd : k / R.size < n := (Nat.div_lt_iff_lt_mul hs).2 hk;have hm : k % R.size < R.size := Nat.mod_lt _ hs
    have h1 := cs_at R (List.replicate n a) (k / R.size) (k % R.size) a (R.enc a)[k % R.size]! (by rw [List.getElem?_replicate, if_pos hd]) (by
      rw [List.getElem!_eq_getElem?_getD, List.getElem?_eq_getElem (by rw [R.len]; exact hm)]; rfl)
    rw [Nat.mul_comm, Nat.div_add_mod] at h1;rw [h1];simp [madeCells, hk, hzs];rw [← hz];simp [Array.getElem!_eq_getD, Array.getD, hzs, hm]
  · rw [List.getElem?_eq_none (by simp [madeCells]; exact hk), List.getElem?_eq_none (by rw [cs_len, List.length_replicate]; exact hk)]
theorem makeG {P : Program} {T e : TypeId} {z : Value} {bytes : Nat} (R : Rw α) (hE : Own.Elem P T e z R.size bytes) (a : α) (hz : z.cells.toList = R.enc a) (w : World) (n : Nat) (hn : n * R.size ≤ 1000000) (hby : bytes ≤ 100000) (hn2 : n ≤ 1000000) :
    ∃ w', (Instr.makeSlice T (.int .i64 (n : Int)) (.int .i64 (n : Int))).run P w = .ok (.slice (some ⟨w.heap.size, 0, none⟩) n n) w' ∧ ROwn R e w' w.heap.size (some ⟨w.heap.size, 0, none⟩) n n (List.replicate n a) ∧ Below w.heap.size w w' := by
  obtain ⟨i0, hi, hz0, hz1, hz2⟩ := hE.parts;have hb2 : bytes * n ≤ 100000 * 1000000 := Nat.mul_le_mul hby hn2;obtain ⟨w', h1, h2, h3⟩ := run_makeSlice_full (P := P) (w := w) w.heap.size T e i0 z R.size hE.under hi hz0 hz1 .i64 .i64 n (by omega) (by rw [hz2]; omega) (by unfold maxLen; omega) (Nat.le_refl _);rw [made_cs R z a hz hE.pos n] at h2;exact ⟨w', h1, ⟨by simp, h2⟩, (Below.refl _ w).grown h3 (Nat.le_refl _) (by intro k hk; cases hk)⟩
end
end Go.Proofs.Ytkbkdbnmpicidaa.RowG
end
section
namespace Go.Proofs.Ytkbkdbnmpicidaa.Num
open Go Go.RowKit Go.Lib
def nt (l : List Int) (i : Nat) : Int := l.getD i 0
theorem nt_at (l : List Int) (i : Nat) (h : i < l.length) : nt l i = l[i] := by simp [nt, List.getD, List.getElem?_eq_getElem h]
def iV (n : Int) : Value := .int .i64 n
theorem addr_add (b o j : Nat) : (⟨b, o, none⟩ : Addr).add j = ⟨b, o + j, none⟩ := by unfold Addr.add; split <;> simp_all
def IIn (w : World) (A : Option Addr) (l : List Int) : Prop := ∀ i, i < l.length → ∃ b o, A = some ⟨b, o, none⟩ ∧ b < w.heap.size ∧ w.cell? ⟨b, o + i, none⟩ = some (.int .i64 (nt l i))
theorem IIn.on {w w' : World} {A : Option Addr} {l : List Int} (h : IIn w A l) (hb : Below w.heap.size w w') : IIn w' A l := fun i hi => by
  obtain ⟨b, o, e, hlt, h1⟩ := h i hi;exact ⟨b, o, e, Nat.lt_of_lt_of_le hlt hb.size, (hb.cell (p := ⟨b, o + i, none⟩) hlt).trans h1⟩
theorem IIn.nil (w : World) (A : Option Addr) : IIn w A [] := fun i hi => absurd hi (by simp)
theorem IIn.cells {w : World} {b o : Nat} {l : List Int} (h : IIn w (some ⟨b, o, none⟩) l) {i : Nat} (hi : i < l.length) : w.cell? ⟨b, o + i, none⟩ = some (.int .i64 (nt l i)) := by
  obtain ⟨b', o', e, _, h1⟩ := h i hi;cases e;exact h1
def OwnI (w : World) (B : Nat) (A : Option Addr) (n cap : Nat) (l : List Int) : Prop := n = l.length ∧ w.ownsRow B 3 1 (.slice A n cap) n (l.map iV)
theorem OwnI.iin {w : World} {B : Nat} {A : Option Addr} {n cap : Nat} {l : List Int} (h : OwnI w B A n cap l) : IIn w A l := fun i hi => by
  obtain ⟨g, cap', e, hb, hlt⟩ := h.2.form (by rw [h.1]; omega);simp only [Value.slice.injEq] at e;obtain ⟨rfl, _, _⟩ := e;have hc := h.2.cells (g := g) rfl;have a1 := hc i _ (by rw [List.getElem?_map, List.getElem?_eq_getElem hi]; rfl);rw [addr_add] at a1;exact ⟨g, 0, rfl, hlt, by rw [nt_at _ _ hi]; exact a1⟩
theorem OwnI.lt {w : World} {B g n cap : Nat} {l : List Int} (h : OwnI w B (some ⟨g, 0, none⟩) n cap l) : g < w.heap.size := (h.2.lt g rfl).2
theorem OwnI.drew {w : World} {B n cap : Nat} {A : Option Addr} {l : List Int} (h : OwnI w B A n cap l) : OwnI w.drew B A n cap l := h
theorem OwnI.on {w w' : World} {B n cap : Nat} {A : Option Addr} {l : List Int} (h : OwnI w B A n cap l) (hb : Below w.heap.size w w') : OwnI w' B A n cap l := ⟨h.1, Own.row_on h.2 hb⟩
theorem OwnI.none (w : World) (B : Nat) : OwnI w B none 0 0 [] := ⟨rfl, World.ownsRow_nil _ _ _ _⟩
end Go.Proofs.Ytkbkdbnmpicidaa.Num
end
section
namespace Go.Proofs.Ytkbkdbnmpicidaa.Num
open Go Go.RowKit Go.Lib
structure But (X : Nat → Prop) (u u' : World) : Prop where
  size : u.heap.size ≤ u'.heap.size
  block : ∀ b, b < u.heap.size → ¬ X b → u'.heap[b]? = u.heap[b]?
theorem But.of_below {u u' : World} {X : Nat → Prop} (h : Below u.heap.size u u') : But X u u' := ⟨h.size, fun b hb _ => h.block b hb⟩
theorem But.of_setCell (u : World) (a : Addr) (v : Value) : But (fun b => b = a.block) u (u.setCell a v) := ⟨by simp [World.setCell], fun b _ hn => heap_setCell_other u a b v hn⟩
theorem But.mono {X Y : Nat → Prop} {u u' : World} (h : But X u u') (hx : ∀ b, b < u.heap.size → X b → Y b) : But Y u u' := ⟨h.size, fun b hb hn => h.block b hb fun hxb => hn (hx b hb hxb)⟩
theorem But.trans {X : Nat → Prop} {u u' u'' : World} (h : But X u u') (h' : But X u' u'') : But X u u'' := ⟨Nat.le_trans h.size h'.size, fun b hb hn => (h'.block b (Nat.lt_of_lt_of_le hb h.size) hn).trans (h.block b hb hn)⟩
theorem But.cell {X : Nat → Prop} {u u' : World} (h : But X u u') {b o : Nat} (hb : b < u.heap.size) (hn : ¬ X b) : u'.cell? ⟨b, o, none⟩ = u.cell? ⟨b, o, none⟩ := by simp only [World.cell?, h.block b hb hn]
section
variable {X : Nat → Prop} {u u' : World}
theorem But.own (h : But X u u') {B g n cap : Nat} {l : List Int} (hO : OwnI u B (some ⟨g, 0, none⟩) n cap l) (hn : ¬ X g) : OwnI u' B (some ⟨g, 0, none⟩) n cap l := by
  obtain ⟨h1, h2, h3⟩ := hO;refine ⟨h1, h2, ?_⟩;rcases h3 with ⟨hv, hn0⟩ | ⟨g', cap', cur, hv, hB, hg, rest⟩
  · exact .inl ⟨hv, hn0⟩
  · have hv2 := hv;simp only [Value.slice.injEq, Option.some.injEq, Addr.mk.injEq] at hv2;obtain ⟨⟨e, _, _⟩, _, _⟩ := hv2;subst e;exact .inr ⟨g, cap', cur, hv, hB, (h.block g (Array.getElem?_eq_some_iff.1 hg).1 hn).trans hg, rest⟩
theorem But.iin (h : But X u u') {A : Option Addr} {l : List Int} (hA : IIn u A l) (hn : ∀ b o, A = some ⟨b, o, none⟩ → ¬ X b) : IIn u' A l := fun i hi => by
  obtain ⟨b, o, e, hlt, h1⟩ := hA i hi;exact ⟨b, o, e, Nat.lt_of_lt_of_le hlt h.size, (h.cell hlt (hn b o e)).trans h1⟩
end
def LIn (w : World) (A : Option Addr) (ls : List (List Int)) : Prop := ∀ (i : Nat) l, ls[i]? = some l → ∃ b o Y c, A = some ⟨b, o, none⟩ ∧ b < w.heap.size ∧ w.cell? ⟨b, o + i, none⟩ = some (.slice Y l.length c) ∧ IIn w Y l
theorem LIn.on {w w' : World} {A : Option Addr} {ls : List (List Int)} (h : LIn w A ls) (hb : Below w.heap.size w w') : LIn w' A ls := fun i l hi => by
  obtain ⟨b, o, Y, c, e, hlt, h1, h2⟩ := h i l hi;exact ⟨b, o, Y, c, e, Nat.lt_of_lt_of_le hlt hb.size, (hb.cell (p := ⟨b, o + i, none⟩) hlt).trans h1, h2.on hb⟩
theorem LIn.nil (w : World) (A : Option Addr) : LIn w A [] := fun i l h => by simp at h
section
variable {w0 u u' : World} {A : Option Addr} {n cap : Nat} {ls : List (List Int)} {X Y : Nat → Prop}
end
end Go.Proofs.Ytkbkdbnmpicidaa.Num
end
section
namespace Go.Proofs.Ytkbkdbnmpicidaa.Kn
open Go
section
variable {P : Program} {n : Nat} {l : List (Nat × Value)} {a : Act}
end
end Go.Proofs.Ytkbkdbnmpicidaa.Kn
namespace Go.Proofs.Ytkbkdbnmpicidaa.Num
open Go Go.RowKit Go.Lib
def HoldI (w : World) (g : Nat) (l : List Int) : Prop := ∀ i, i < l.length → w.cell? ⟨g, i, none⟩ = some (.int .i64 (nt l i)) ∧ w.frozen? ⟨g, i, none⟩ = false
theorem HoldI.iin {w : World} {g : Nat} {l : List Int} (h : HoldI w g l) : IIn w (some ⟨g, 0, none⟩) l := fun i hi => by
  obtain ⟨h1, _⟩ := h i hi;exact ⟨g, 0, rfl, World.block_lt_of_cell? _ _ h1, by rw [Nat.zero_add]; exact h1⟩
theorem HoldI.at {w w' : World} {g : Nat} {l : List Int} (h : HoldI w g l) (e : w'.heap[g]? = w.heap[g]?) : HoldI w' g l := fun i hi => by
  obtain ⟨h1, h2⟩ := h i hi;exact ⟨by simp only [World.cell?, e]; exact h1, by simp only [World.frozen?, e]; exact h2⟩
theorem HoldI.on {w w' : World} {g : Nat} {l : List Int} (h : HoldI w g l) (hb : Below w.heap.size w w') : HoldI w' g l := fun i hi => by
  have hlt : g < w.heap.size := World.block_lt_of_cell? _ _ (h i hi).1;exact h.at (hb.block g hlt) i hi
theorem HoldI.drew {w : World} {g : Nat} {l : List Int} (h : HoldI w g l) : HoldI w.drew g l := h
theorem nt_set (l : List Int) (k i : Nat) (e : Int) (hi : i < l.length) : nt (l.set k e) i = if i = k then e else nt l i := by
  rw [nt_at _ _ (by simpa using hi), nt_at _ _ hi, List.getElem_set]
  by_cases h : i = k
  · subst h; simp
  · rw [if_neg (fun q => h q.symm), if_neg h]
theorem satU_run {r : Result Unit} {v : World} (H : Kn.SatU (fun w' => w' = v) r) : r = .ok () v := by
  cases r with
  | ok y w' => cases H; rfl
  | halt y w' => exact H.elim
theorem HoldI.store {w : World} {g : Nat} {l : List Int} (h : HoldI w g l) (k : Nat) (hk : k < l.length) (a : Int) :
    ∃ w', (Instr.storeAt 3 (.pointer (some ⟨g, k, none⟩)) (.int .i64 a)).run Try.prog w = .ok () w' ∧ HoldI w' g (l.set k a) ∧ (∀ b, b ≠ g → w'.heap[b]? = w.heap[b]?) ∧ w'.heap.size = w.heap.size ∧ (∀ B, B ≤ g → Below B w w') := by
  obtain ⟨c1, f1⟩ := h k hk;have hd : (w.setCell ⟨g, k, none⟩ (.int .i64 a)).heap.size = w.heap.size := by simp [World.setCell]
  refine ⟨w.setCell ⟨g, k, none⟩ (.int .i64 a), ?_, fun i hi => ?_, fun b hb => heap_setCell_other w _ b _ hb, hd, fun B hB => (Below.refl B w).setCell hB _⟩
  · refine satU_run ?_;go_simp;try simp [c1, f1]
  · have hi' : i < l.length := by simpa using hi
    rw [World.frozen?_setCell, nt_set l k i a hi'];refine ⟨?_, (h i hi').2⟩
    by_cases e : i = k
    · subst e;rw [if_pos rfl, World.cell?_setCell_same' _ _ _ (by rw [c1]; rfl)]
    · rw [if_neg e, World.cell?_setCell_other _ _ _ _ (by simp [e])];exact (h i hi').1
theorem hold_of_own {w : World} {B g n cap : Nat} {l : List Int} (h : OwnI w B (some ⟨g, 0, none⟩) n cap l) : HoldI w g l := fun i hi => by
  have c := (OwnI.iin h).cells hi;rw [Nat.zero_add] at c;obtain ⟨hn, hl, hr⟩ := h;rcases hr with ⟨hv, _⟩ | ⟨g', cap', cur, hv, hB, hg, hle, hm, hs, ht⟩
  · cases hv
  · simp only [Value.slice.injEq, Option.some.injEq, Addr.mk.injEq] at hv;obtain ⟨⟨rfl, _, _⟩, _, _⟩ := hv;exact ⟨c, by simp [World.frozen?, hg]⟩
end Go.Proofs.Ytkbkdbnmpicidaa.Num
end
section
namespace Go.Proofs.Ytkbkdbnmpicidaa.RowG
open Go Go.RowKit Go.Lib
variable {α : Type} {R : Rw α} {e : TypeId} {n cap : Nat} {A : Option Addr} {l : List α}
theorem ROwn.at' {w : World} {B : Nat} (h : ROwn R e w B A n cap l) : n = 0 ∨ ∃ g, A = some ⟨g, 0, Option.none⟩ ∧ B ≤ g ∧ g < w.heap.size := by
  rcases h.2.2 with ⟨hv, hn⟩ | ⟨g, cap', cur, hv, hb, hg, _⟩
  · left; injection hv with _ e1 _
  · right
    injection hv with e1 _ _
    exact ⟨g, e1, hb, (Array.getElem?_eq_some_iff.1 hg).1⟩
theorem tx_cell {w : World} {A : Option Addr} {ts : List ByteArray} (h : RIn txR w A ts) {k : Nat} {s : ByteArray} (hk : ts[k]? = some s) : ∃ b o, A = some ⟨b, o, none⟩ ∧ b < w.heap.size ∧ w.cell? ⟨b, o + k, none⟩ = some (.string s) := by
  obtain ⟨b, o, h1, h2, h3⟩ := h k s hk;have h4 := h3 0 (.string s) rfl;have e : o + (k * txR.size + 0) = o + k := by show o + (k * 1 + 0) = _; omega
  rw [e] at h4;exact ⟨b, o, h1, h2, h4⟩
end Go.Proofs.Ytkbkdbnmpicidaa.RowG
namespace Go.Proofs.Ytkbkdbnmpicidaa.Kn
open Go
theorem satU_run8 {Ko : World → Prop} {r : Result Unit} {v : World} (h : r = .ok () v) (H : Ko v) : Kn.SatU Ko r := by rw [h]; exact H
end Go.Proofs.Ytkbkdbnmpicidaa.Kn
namespace Go.Proofs.Ytkbkdbnmpicidaa.Blk
open Go Go.RowKit Go.Lib RowG Num
theorem elemTx8 : Own.Elem Try.prog 22 9 (.string ⟨#[]⟩) 1 16 := ⟨Try.underlying22, by kernel_rfl, rfl, by decide⟩
theorem store_tx8 (s : ByteArray) (w : World) (p : Addr) (x : Value) (h1 : w.cell? p = some x) (h2 : w.frozen? p = false) : (Instr.storeAt 9 (.pointer (some p)) (.string s)).run Try.prog w = .ok () (w.setCell p (.string s)) := by
  refine satU_run ?_;go_simp
structure Aside (lo hi : Nat) (v v' : World) : Prop where
  os : v'.os = v.os
  tape : v'.tape = v.tape
  output : v'.output = v.output
  but : But (fun b => lo ≤ b ∧ b < hi) v v'
theorem Aside.of_below {lo hi : Nat} {v v' : World} (h : Below v.heap.size v v') : Aside lo hi v v' := ⟨h.os, h.tape, h.output, But.of_below h⟩
theorem Aside.refl {lo hi : Nat} (v : World) : Aside lo hi v v := .of_below (Below.refl _ _)
theorem Aside.trans {lo hi : Nat} {a b c : World} (h : Aside lo hi a b) (k : Aside lo hi b c) : Aside lo hi a c := ⟨k.os.trans h.os, k.tape.trans h.tape, k.output.trans h.output, h.but.trans k.but⟩
theorem Aside.put {lo hi : Nat} {a b : World} (h : Aside lo hi a b) (g o : Nat) (x : Value) (h1 : lo ≤ g) (h2 : g < hi) : Aside lo hi a (b.setCell ⟨g, o, none⟩ x) := h.trans ⟨rfl, rfl, rfl, (But.of_setCell b ⟨g, o, none⟩ x).mono fun b _ e => by
  subst e
  exact ⟨h1, h2⟩⟩
structure Turn (X : Nat → Prop) (v v' : World) : Prop where
  os : v'.os = v.os
  tape : v'.tape = v.tape
  output : v'.output = v.output
  but : But X v v'
theorem Turn.of_below {X : Nat → Prop} {u u' : World} (h : Below u.heap.size u u') : Turn X u u' := ⟨h.os, h.tape, h.output, But.of_below h⟩
theorem Aside.turn {X : Nat → Prop} {lo hi : Nat} {v v' : World} (h : Aside lo hi v v') (hx : ∀ b, lo ≤ b → b < hi → X b) : Turn X v v' := ⟨h.os, h.tape, h.output, h.but.mono fun b _ e => hx b e.1 e.2⟩
end Go.Proofs.Ytkbkdbnmpicidaa.Blk
end
section
namespace Go.Proofs.Ytkbkdbnmpicidaa.Blk
open Go Go.RowKit Go.Lib
set_option maxRecDepth 100000 in
set_option maxHeartbeats 2000000 in
theorem count_any (n : Nat) (w : World) (hn : n ≤ 9223372036854775807) :
    Calls Try.prog 7 #[.int .i64 n] w fun e w' => e = .returned (.int .i64 (cntK n : Int)) ∧ w = w' := by
  refine Kn.calls Try.func7 rfl Try.ntmps7 rfl (.cons (t := 0) rfl .nil) fun fa0 fh0 => ?_;refine wp_seq_k fun K1 hK1 => ?_;refine wp_region_lit ?_;refine Kn.pure fh0 rfl rfl .none (Kn.ex_assign fh0 .const) fun fa1 fh1 => ?_;clear fh0 fa0;refine wpList_nil ?_;refine hK1 _ _ ?_;clear hK1 K1
  by_cases h1 : (n : Int) < 1
  · refine wp_seq_k fun K2 hK2 => ?_;refine wp_seq_k fun K3 hK3 => ?_;refine wp_region_lit ?_;refine Kn.pure fh1 rfl rfl .none (Kn.ex_move fh1 (.tmp rfl)) fun fa2 fh2 => ?_;clear fh1 fa1;refine Kn.step fh2 rfl rfl .none (Kn.ex_bin fh2 (.tmp rfl) .const) fun Ko hKo => ?_;go_simp;(try go_bits);refine hKo _ _ fun fa3 fh3 => ?_;clear hKo Ko fh2 fa2;refine wpList_nil ?_;refine hK3 _ _ ?_;clear hK3 K3;replace fh3 := fh3.cut (.cons (t := 4) rfl (.cons (t := 2) rfl (.cons (t := 0) rfl .nil)));refine Kn.yes fh3 (.tmp rfl) ?_;replace fh3 := fh3.cut (.cons (t := 2) rfl (.cons (t := 0) rfl .nil));refine wp_seq_k fun K4 hK4 => ?_;refine wp_region_lit ?_;refine Kn.pure fh3 rfl rfl .none (Kn.ex_assign fh3 .const) fun fa4 fh4 => ?_;clear fh3 fa3;refine wpList_nil ?_;refine hK4 _ _ ?_;clear hK4 K4;refine wp_ret ?_;refine Kn.then_ret ?_;obtain rfl : n = 0 := by omega
    exact Kn.ret1 fh4 rfl rfl ⟨rfl, rfl⟩
  obtain ⟨m, hm⟩ : ∃ m, n - 1 = m := ⟨_, rfl⟩;obtain ⟨c, hc⟩ : ∃ c, m / 64 = c := ⟨_, rfl⟩;obtain ⟨d, hd⟩ : ∃ d, cntK n = d := ⟨_, rfl⟩;have hcd : c + 1 = d := by unfold cntK at hd; omega
  rw [hd];have r1 : (n : Int) - 1 = (m : Int) := by omega
  have r2 : (m : Int).tdiv 64 = (c : Int) := by rw [Int.tdiv_eq_ediv_of_nonneg (by omega)]; omega
  have r3 : (c : Int) + 1 = (d : Int) := by omega
  have hc2 : c ≤ 144115188075855872 := by omega
  have hd2 : d ≤ 144115188075855873 := by omega
  clear hd hm hc hcd;refine wp_seq_k fun K2 hK2 => ?_;refine wp_seq_k fun K3 hK3 => ?_;refine wp_region_lit ?_;refine Kn.pure fh1 rfl rfl .none (Kn.ex_move fh1 (.tmp rfl)) fun fa2 fh2 => ?_;clear fh1 fa1;refine Kn.step fh2 rfl rfl .none (Kn.ex_bin fh2 (.tmp rfl) .const) fun Ko hKo => ?_;go_simp;(try go_bits);refine hKo _ _ fun fa3 fh3 => ?_;clear hKo Ko fh2 fa2;refine wpList_nil ?_;refine hK3 _ _ ?_;clear hK3 K3;replace fh3 := fh3.cut (.cons (t := 4) rfl (.cons (t := 2) rfl (.cons (t := 0) rfl .nil)));refine Kn.no fh3 (.tmp rfl) ?_;refine wp_skip ?_;refine hK2 _ _ ?_;clear hK2 K2;replace fh3 := fh3.cut (.cons (t := 2) rfl (.cons (t := 0) rfl .nil));refine wp_seq_k fun K4 hK4 => ?_;refine wp_region_lit ?_;refine Kn.pure fh3 rfl rfl .none (Kn.ex_move fh3 (.tmp rfl)) fun fa4 fh4 => ?_;clear fh3 fa3;refine Kn.step fh4 rfl rfl .none (Kn.ex_bin fh4 (.tmp rfl) .const) fun Ko hKo => ?_;go_simp;(try go_bits);refine hKo _ _ fun fa5 fh5 => ?_;clear hKo Ko fh4 fa4;refine Kn.step fh5 rfl rfl .none (Kn.ex_bin fh5 (.tmp rfl) .const) fun Ko hKo => ?_;go_simp;(try go_bits);refine hKo _ _ fun fa6 fh6 => ?_;clear hKo Ko fh5 fa5;refine Kn.step fh6 rfl rfl .none (Kn.ex_bin fh6 (.tmp rfl) .const) fun Ko hKo => ?_;go_simp;(try go_bits);refine hKo _ _ fun fa7 fh7 => ?_;clear hKo Ko fh6 fa6;refine Kn.pure fh7 rfl rfl .none (Kn.ex_assign fh7 (.tmp rfl)) fun fa8 fh8 => ?_;clear fh7 fa7;refine wpList_nil ?_;refine hK4 _ _ ?_;clear hK4 K4;replace fh8 := fh8.cut (.cons (t := 2) rfl .nil);refine wp_ret ?_;exact Kn.ret1 fh8 rfl rfl ⟨rfl, rfl⟩
set_option maxRecDepth 100000 in
set_option maxHeartbeats 2000000 in
theorem size_any (n : Nat) (i : Int) (w : World) (hn : n ≤ 9223372036854775807) :
    Calls Try.prog 8 #[.int .i64 n, .int .i64 i] w fun e w' => e = .returned (.int .i64 (szK n i : Int)) ∧ w = w' := by
  refine Kn.calls Try.func8 rfl Try.ntmps8 rfl (.cons (t := 0) rfl (.cons (t := 1) rfl .nil)) fun fa0 fh0 => ?_;refine wp_seq_k fun K1 hK1 => ?_;refine wp_region_lit ?_;refine Kn.pure fh0 rfl rfl .none (Kn.ex_assign fh0 .const) fun fa1 fh1 => ?_;clear fh0 fa0;refine wpList_nil ?_;refine hK1 _ _ ?_;clear hK1 K1
  by_cases h1 : i < 0
  · refine wp_seq_k fun K2 hK2 => ?_;refine wp_seq_k fun K3 hK3 => ?_;refine wp_region_lit ?_;refine Kn.pure fh1 rfl rfl .none (Kn.ex_move fh1 (.tmp rfl)) fun fa2 fh2 => ?_;clear fh1 fa1;refine Kn.step fh2 rfl rfl .none (Kn.ex_bin fh2 (.tmp rfl) .const) fun Ko hKo => ?_;go_simp;(try go_bits);refine hKo _ _ fun fa3 fh3 => ?_;clear hKo Ko fh2 fa2;refine Kn.pure fh3 rfl rfl .none (Kn.ex_move fh3 (.tmp rfl)) fun fa4 fh4 => ?_;clear fh3 fa3;refine Kn.skip fh4 rfl rfl (.some rfl rfl rfl) fun fa5 fh5 => ?_;clear fh4 fa4;refine Kn.skip fh5 rfl rfl (.some rfl rfl rfl) fun fa6 fh6 => ?_;clear fh5 fa5;refine Kn.skip fh6 rfl rfl (.some rfl rfl rfl) fun fa7 fh7 => ?_;clear fh6 fa6;refine Kn.skip fh7 rfl rfl (.some rfl rfl rfl) fun fa8 fh8 => ?_;clear fh7 fa7;refine Kn.pure fh8 rfl rfl .none (Kn.ex_pick fh8 (.tmp rfl) .const) fun fa9 fh9 => ?_;clear fh8 fa8;refine wpList_nil ?_;refine hK3 _ _ ?_;clear hK3 K3;replace fh9 := fh9.cut (.cons (t := 12) rfl (.cons (t := 4) rfl (.cons (t := 0) rfl (.cons (t := 1) rfl .nil))));refine Kn.yes fh9 (.tmp rfl) ?_;replace fh9 := fh9.cut (.cons (t := 4) rfl (.cons (t := 0) rfl (.cons (t := 1) rfl .nil)));refine wp_seq_k fun K4 hK4 => ?_;refine wp_region_lit ?_;refine Kn.pure fh9 rfl rfl .none (Kn.ex_assign fh9 .const) fun fa10 fh10 => ?_;clear fh9 fa9;refine wpList_nil ?_;refine hK4 _ _ ?_;clear hK4 K4;refine wp_ret ?_;refine Kn.then_ret ?_;rw [show szK n i = 0 by unfold szK; rw [if_neg (by omega)]];exact Kn.ret1 fh10 rfl rfl ⟨rfl, rfl⟩
  by_cases h2 : (cntK n : Int) ≤ i
  · refine wp_seq_k fun K2 hK2 => ?_;refine wp_seq_k fun K3 hK3 => ?_;refine wp_region_lit ?_;refine Kn.pure fh1 rfl rfl .none (Kn.ex_move fh1 (.tmp rfl)) fun fa2 fh2 => ?_;clear fh1 fa1;refine Kn.step fh2 rfl rfl .none (Kn.ex_bin fh2 (.tmp rfl) .const) fun Ko hKo => ?_;go_simp;(try go_bits);refine hKo _ _ fun fa3 fh3 => ?_;clear hKo Ko fh2 fa2;refine Kn.pure fh3 rfl rfl .none (Kn.ex_move fh3 (.tmp rfl)) fun fa4 fh4 => ?_;clear fh3 fa3;refine Kn.pure fh4 rfl rfl (.some rfl rfl rfl) (Kn.ex_move fh4 (.tmp rfl)) fun fa5 fh5 => ?_;clear fh4 fa4;refine Kn.pure fh5 rfl rfl (.some rfl rfl rfl) (Kn.ex_move fh5 (.tmp rfl)) fun fa6 fh6 => ?_;clear fh5 fa5;refine Kn.call fh6 rfl rfl (.some rfl rfl rfl) (Kn.ex_call fh6 (.cons (.tmp rfl) .nil)) Try.call7 (count_any n w hn) fun e w1 hp => ?_;obtain ⟨rfl, rfl⟩ := hp;refine ⟨_, rfl, fun fa7 fh7 => ?_⟩;clear fh6 fa6;refine Kn.step fh7 rfl rfl (.some rfl rfl rfl) (Kn.ex_bin fh7 (.tmp rfl) (.tmp rfl)) fun Ko hKo => ?_;go_simp;(try go_bits);refine hKo _ _ fun fa8 fh8 => ?_;clear hKo Ko fh7 fa7;refine Kn.pure fh8 rfl rfl .none (Kn.ex_pick fh8 (.tmp rfl) (.tmp rfl)) fun fa9 fh9 => ?_;clear fh8 fa8;refine wpList_nil ?_;refine hK3 _ _ ?_;clear hK3 K3;replace fh9 := fh9.cut (.cons (t := 12) rfl (.cons (t := 4) rfl (.cons (t := 0) rfl (.cons (t := 1) rfl .nil))));refine Kn.yes fh9 (.tmp rfl) ?_;replace fh9 := fh9.cut (.cons (t := 4) rfl (.cons (t := 0) rfl (.cons (t := 1) rfl .nil)));refine wp_seq_k fun K4 hK4 => ?_;refine wp_region_lit ?_;refine Kn.pure fh9 rfl rfl .none (Kn.ex_assign fh9 .const) fun fa10 fh10 => ?_;clear fh9 fa9;refine wpList_nil ?_;refine hK4 _ _ ?_;clear hK4 K4;refine wp_ret ?_;refine Kn.then_ret ?_;rw [show szK n i = 0 by unfold szK; rw [if_neg (by omega)]];exact Kn.ret1 fh10 rfl rfl ⟨rfl, rfl⟩
  obtain ⟨k, rfl⟩ := Int.eq_ofNat_of_zero_le (show 0 ≤ i by omega);have hk : k < cntK n := by omega
  rw [szK_at hk];obtain ⟨p, hp⟩ : ∃ p, 64 * k = p := ⟨_, rfl⟩;rw [hp];have hpn : p < n := by unfold cntK at hk; omega
  obtain ⟨q, hq⟩ : ∃ q, n - p = q := ⟨_, rfl⟩;rw [hq];have r1 : (k : Int) * 64 = (p : Int) := by omega
  have r2 : (n : Int) - (p : Int) = (q : Int) := by omega
  clear hp hq hpn hk;refine wp_seq_k fun K2 hK2 => ?_;refine wp_seq_k fun K3 hK3 => ?_;refine wp_region_lit ?_;refine Kn.pure fh1 rfl rfl .none (Kn.ex_move fh1 (.tmp rfl)) fun fa2 fh2 => ?_;clear fh1 fa1;refine Kn.step fh2 rfl rfl .none (Kn.ex_bin fh2 (.tmp rfl) .const) fun Ko hKo => ?_;go_simp;(try go_bits);refine hKo _ _ fun fa3 fh3 => ?_;clear hKo Ko fh2 fa2;refine Kn.pure fh3 rfl rfl .none (Kn.ex_move fh3 (.tmp rfl)) fun fa4 fh4 => ?_;clear fh3 fa3;refine Kn.pure fh4 rfl rfl (.some rfl rfl rfl) (Kn.ex_move fh4 (.tmp rfl)) fun fa5 fh5 => ?_;clear fh4 fa4;refine Kn.pure fh5 rfl rfl (.some rfl rfl rfl) (Kn.ex_move fh5 (.tmp rfl)) fun fa6 fh6 => ?_;clear fh5 fa5;refine Kn.call fh6 rfl rfl (.some rfl rfl rfl) (Kn.ex_call fh6 (.cons (.tmp rfl) .nil)) Try.call7 (count_any n w hn) fun e w1 hp => ?_;obtain ⟨rfl, rfl⟩ := hp;refine ⟨_, rfl, fun fa7 fh7 => ?_⟩;clear fh6 fa6;refine Kn.step fh7 rfl rfl (.some rfl rfl rfl) (Kn.ex_bin fh7 (.tmp rfl) (.tmp rfl)) fun Ko hKo => ?_;go_simp;(try go_bits);refine hKo _ _ fun fa8 fh8 => ?_;clear hKo Ko fh7 fa7;refine Kn.pure fh8 rfl rfl .none (Kn.ex_pick fh8 (.tmp rfl) (.tmp rfl)) fun fa9 fh9 => ?_;clear fh8 fa8;refine wpList_nil ?_;refine hK3 _ _ ?_;clear hK3 K3;replace fh9 := fh9.cut (.cons (t := 12) rfl (.cons (t := 4) rfl (.cons (t := 0) rfl (.cons (t := 1) rfl .nil))));refine Kn.no fh9 (.tmp rfl) ?_;refine wp_skip ?_;refine hK2 _ _ ?_;clear hK2 K2;replace fh9 := fh9.cut (.cons (t := 4) rfl (.cons (t := 0) rfl (.cons (t := 1) rfl .nil)));refine wp_seq_k fun K4 hK4 => ?_;refine wp_region_lit ?_;refine Kn.pure fh9 rfl rfl .none (Kn.ex_move fh9 (.tmp rfl)) fun fa10 fh10 => ?_;clear fh9 fa9;refine Kn.pure fh10 rfl rfl .none (Kn.ex_move fh10 (.tmp rfl)) fun fa11 fh11 => ?_;clear fh10 fa10;refine Kn.step fh11 rfl rfl .none (Kn.ex_bin fh11 (.tmp rfl) .const) fun Ko hKo => ?_;go_simp;(try go_bits);refine hKo _ _ fun fa12 fh12 => ?_;clear hKo Ko fh11 fa11;refine Kn.step fh12 rfl rfl .none (Kn.ex_bin fh12 (.tmp rfl) (.tmp rfl)) fun Ko hKo => ?_;go_simp;(try go_bits);refine hKo _ _ fun fa13 fh13 => ?_;clear hKo Ko fh12 fa12;refine Kn.step fh13 rfl rfl .none (Kn.ex_min fh13 (.cons .const (.cons (.tmp rfl) .nil))) fun Ko hKo => ?_;go_simp;(try go_bits);refine hKo _ _ fun fa14 fh14 => ?_;clear hKo Ko fh13 fa13;refine Kn.pure fh14 rfl rfl .none (Kn.ex_assign fh14 (.tmp rfl)) fun fa15 fh15 => ?_;clear fh14 fa14;refine wpList_nil ?_;refine hK4 _ _ ?_;clear hK4 K4;replace fh15 := fh15.cut (.cons (t := 4) rfl .nil);refine wp_ret ?_;refine Kn.ret1 fh15 rfl rfl ⟨?_, rfl⟩
  by_cases hq : 64 ≤ q
  · first | go_num | (simp [Nat.min_eq_left hq]; try omega)
  · first | go_num | (simp [Nat.min_eq_right (Nat.le_of_not_le hq)]; try omega)
end Go.Proofs.Ytkbkdbnmpicidaa.Blk
end
section
namespace Go.Proofs.Ytkbkdbnmpicidaa.Blk
open Go Go.RowKit Go.Lib
set_option maxRecDepth 100000 in
set_option maxHeartbeats 2000000 in
theorem awake8 (hcount : ∀ (n : Nat) u, n ≤ 20000 → Calls Try.prog 7 #[.int .i64 n] u fun e v => e = .returned (.int .i64 (cntK n : Int)) ∧ Below u.heap.size u v)
    (hsize : ∀ (n : Nat) (i : Int) u, n ≤ 20000 → -1 ≤ i → i ≤ 1000 → Calls Try.prog 8 #[.int .i64 n, .int .i64 i] u fun e v => e = .returned (.int .i64 (szK n i : Int)) ∧ Below u.heap.size u v)
    (w : World) : Calls Try.prog 5 #[] w fun e v => e = .returned (.bool true) ∧ Below w.heap.size w v := by
  refine Kn.calls Try.func5 rfl Try.ntmps5 rfl .nil fun fa0 fh0 => ?_;refine wp_seq_k fun K1 hK1 => ?_;refine wp_region_lit ?_;refine Kn.pure fh0 rfl rfl .none (Kn.ex_assign fh0 .const) fun fa1 fh1 => ?_;clear fh0 fa0;refine wpList_nil ?_;refine hK1 _ _ ?_;clear hK1 K1;have h1 := hcount 65 w (by omega);have h2 := fun u => hsize 65 1 u (by omega) (by omega) (by omega);have h3 := fun u => hsize 65 0 u (by omega) (by omega) (by omega);have e1 : ((cntK 65 : Nat) : Int) = 2 := by decide
  have e2 : ((szK 65 1 : Nat) : Int) = 1 := by decide
  have e3 : ((szK 65 0 : Nat) : Int) = 64 := by decide
  rw [e1] at h1;simp only [e2] at h2;simp only [e3] at h3;clear e1 e2 e3;refine wp_seq_k fun K2 hK2 => ?_;refine wp_region_lit ?_;refine Kn.call fh1 rfl rfl .none (Kn.ex_call fh1 (.cons .const .nil)) Try.call7 (h1) fun e w1 hp => ?_;obtain ⟨rfl, hb1⟩ := hp;refine ⟨_, rfl, fun fa2 fh2 => ?_⟩;clear fh1 fa1;refine Kn.step fh2 rfl rfl .none (Kn.ex_bin fh2 (.tmp rfl) .const) fun Ko hKo => ?_;go_simp;(try go_bits);refine hKo _ _ fun fa3 fh3 => ?_;clear hKo Ko fh2 fa2;refine Kn.pure fh3 rfl rfl .none (Kn.ex_move fh3 (.tmp rfl)) fun fa4 fh4 => ?_;clear fh3 fa3;refine Kn.call fh4 rfl rfl (.some rfl rfl rfl) (Kn.ex_call fh4 (.cons .const (.cons .const .nil))) Try.call8 (h2 w1) fun e w2 hp => ?_;obtain ⟨rfl, hb2⟩ := hp;refine ⟨_, rfl, fun fa5 fh5 => ?_⟩;clear fh4 fa4;refine Kn.step fh5 rfl rfl (.some rfl rfl rfl) (Kn.ex_bin fh5 (.tmp rfl) .const) fun Ko hKo => ?_;go_simp;(try go_bits);refine hKo _ _ fun fa6 fh6 => ?_;clear hKo Ko fh5 fa5;refine Kn.pure fh6 rfl rfl .none (Kn.ex_pick fh6 (.tmp rfl) (.tmp rfl)) fun fa7 fh7 => ?_;clear fh6 fa6;refine Kn.pure fh7 rfl rfl .none (Kn.ex_move fh7 (.tmp rfl)) fun fa8 fh8 => ?_;clear fh7 fa7;refine Kn.call fh8 rfl rfl (.some rfl rfl rfl) (Kn.ex_call fh8 (.cons .const (.cons .const .nil))) Try.call8 (h3 w2) fun e w3 hp => ?_;obtain ⟨rfl, hb3⟩ := hp;refine ⟨_, rfl, fun fa9 fh9 => ?_⟩;clear fh8 fa8;refine Kn.step fh9 rfl rfl (.some rfl rfl rfl) (Kn.ex_bin fh9 (.tmp rfl) .const) fun Ko hKo => ?_;go_simp;(try go_bits);refine hKo _ _ fun fa10 fh10 => ?_;clear hKo Ko fh9 fa9;refine Kn.pure fh10 rfl rfl .none (Kn.ex_pick fh10 (.tmp rfl) (.tmp rfl)) fun fa11 fh11 => ?_;clear fh10 fa10;refine Kn.pure fh11 rfl rfl .none (Kn.ex_assign fh11 (.tmp rfl)) fun fa12 fh12 => ?_;clear fh11 fa11;refine wpList_nil ?_;refine hK2 _ _ ?_;clear hK2 K2;replace fh12 := fh12.cut (.cons (t := 0) rfl .nil);refine wp_ret ?_;exact Kn.ret1 fh12 rfl rfl ⟨rfl, hb1.trans ((hb2.mono hb1.size).trans (hb3.mono (Nat.le_trans hb1.size hb2.size)))⟩
end Go.Proofs.Ytkbkdbnmpicidaa.Blk
end
section
namespace Go.Proofs.Ytkbkdbnmpicidaa.Blk
open Go Go.RowKit Go.Lib RowG
set_option maxRecDepth 100000 in
set_option maxHeartbeats 8000000 in
theorem cuts_all
    (haw : ∀ u, Calls Try.prog 5 #[] u fun e v => e = .returned (.bool true) ∧ Below u.heap.size u v)
    (hcount : ∀ (n : Nat) u, n ≤ 20000 → Calls Try.prog 7 #[.int .i64 n] u fun e v => e = .returned (.int .i64 (cntK n : Int)) ∧ Below u.heap.size u v)
    (hsize : ∀ (n : Nat) (i : Int) u, n ≤ 20000 → -1 ≤ i → i ≤ 1000 → Calls Try.prog 8 #[.int .i64 n, .int .i64 i] u fun e v => e = .returned (.int .i64 (szK n i : Int)) ∧ Below u.heap.size u v)
    (hcut : ∀ (A : Option Addr) (c : Nat) (ts : List ByteArray) u, ts.length ≤ 20 → ts.length ≤ c → (catK ts).size ≤ 20000 → RIn txR u A ts → Calls Try.prog 6 #[.slice A ts.length c] u fun e v => ∃ A' c', e = .returned (.slice A' (cntK (catK ts).size) c') ∧ RIn txR v A' (cutK (catK ts)) ∧ Below u.heap.size u v)
    (A : Option Addr) (ca : Nat) (ts : List ByteArray) (w : World) (hx : ts.length ≤ maxLen) (hca : ts.length ≤ ca) (hA : RIn txR w A ts) :
    Calls Try.prog 3 #[.slice A ts.length ca] w fun e w' => e = .returned (.bool true) ∧ Below w.heap.size w w' := by
  unfold maxLen at hx;refine Kn.calls Try.func3 rfl Try.ntmps3 rfl (.cons (t := 0) rfl .nil) fun fa0 fh0 => ?_;refine wp_seq_k fun K1 hK1 => ?_;refine wp_region_lit ?_;refine Kn.pure fh0 rfl rfl .none (Kn.ex_assign fh0 .const) fun fa1 fh1 => ?_;clear fh0 fa0;refine wpList_nil ?_;refine hK1 _ _ ?_;clear hK1 K1;refine wp_seq_k fun K2 hK2 => ?_;refine wp_seq_k fun K3 hK3 => ?_;refine wp_region_lit ?_;refine Kn.call fh1 rfl rfl .none (Kn.ex_call fh1 .nil) Try.call5 (haw w) fun e w1 hp => ?_;obtain ⟨rfl, hb1⟩ := hp;refine ⟨_, rfl, fun fa2 fh2 => ?_⟩;clear fh1 fa1;refine Kn.step fh2 rfl rfl .none (Kn.ex_un fh2 (.tmp rfl)) fun Ko hKo => ?_;go_simp;(try go_bits);refine hKo _ _ fun fa3 fh3 => ?_;clear hKo Ko fh2 fa2;refine wpList_nil ?_;refine hK3 _ _ ?_;clear hK3 K3;replace fh3 := fh3.cut (.cons (t := 13) rfl (.cons (t := 2) rfl (.cons (t := 0) rfl .nil)));refine Kn.no fh3 (.tmp rfl) ?_;refine wp_skip ?_;refine hK2 _ _ ?_;clear hK2 K2;replace fh3 := fh3.cut (.cons (t := 2) rfl (.cons (t := 0) rfl .nil));have HB1 := Lib.hid hb1;have HA1 := Lib.hid (hA.on hb1);clear hb1 hA
  by_cases h1 : (20 : Int) < (ts.length : Int)
  · refine wp_seq_k fun K4 hK4 => ?_;refine wp_seq_k fun K5 hK5 => ?_;refine wp_region_lit ?_;refine Kn.pure fh3 rfl rfl .none (Kn.ex_move fh3 (.tmp rfl)) fun fa4 fh4 => ?_;clear fh3 fa3;refine Kn.step fh4 rfl rfl .none (Kn.ex_len fh4 (.tmp rfl)) fun Ko hKo => ?_;go_simp;(try go_bits);refine hKo _ _ fun fa5 fh5 => ?_;clear hKo Ko fh4 fa4;refine Kn.step fh5 rfl rfl .none (Kn.ex_bin fh5 (.tmp rfl) .const) fun Ko hKo => ?_;go_simp;(try go_bits);refine hKo _ _ fun fa6 fh6 => ?_;clear hKo Ko fh5 fa5;refine wpList_nil ?_;refine hK5 _ _ ?_;clear hK5 K5;replace fh6 := fh6.cut (.cons (t := 16) rfl (.cons (t := 2) rfl (.cons (t := 0) rfl .nil)));refine Kn.yes fh6 (.tmp rfl) ?_;replace fh6 := fh6.cut (.cons (t := 2) rfl (.cons (t := 0) rfl .nil));refine wp_seq_k fun K6 hK6 => ?_;refine wp_region_lit ?_;refine Kn.pure fh6 rfl rfl .none (Kn.ex_assign fh6 .const) fun fa7 fh7 => ?_;clear fh6 fa6;refine wpList_nil ?_;refine hK6 _ _ ?_;clear hK6 K6;refine wp_ret ?_;refine Kn.then_ret ?_;exact Kn.ret1 fh7 rfl rfl ⟨rfl, HB1.out⟩
  refine wp_seq_k fun K4 hK4 => ?_;refine wp_seq_k fun K5 hK5 => ?_;refine wp_region_lit ?_;refine Kn.pure fh3 rfl rfl .none (Kn.ex_move fh3 (.tmp rfl)) fun fa4 fh4 => ?_;clear fh3 fa3;refine Kn.step fh4 rfl rfl .none (Kn.ex_len fh4 (.tmp rfl)) fun Ko hKo => ?_;go_simp;(try go_bits);refine hKo _ _ fun fa5 fh5 => ?_;clear hKo Ko fh4 fa4;refine Kn.step fh5 rfl rfl .none (Kn.ex_bin fh5 (.tmp rfl) .const) fun Ko hKo => ?_;go_simp;(try go_bits);refine hKo _ _ fun fa6 fh6 => ?_;clear hKo Ko fh5 fa5;refine wpList_nil ?_;refine hK5 _ _ ?_;clear hK5 K5;replace fh6 := fh6.cut (.cons (t := 16) rfl (.cons (t := 2) rfl (.cons (t := 0) rfl .nil)));refine Kn.no fh6 (.tmp rfl) ?_;refine wp_skip ?_;refine hK4 _ _ ?_;clear hK4 K4;replace fh6 := fh6.cut (.cons (t := 2) rfl (.cons (t := 0) rfl .nil));have hn20 : ts.length ≤ 20 := by omega
  clear h1 hx;refine wp_seq_k fun K6 hK6 => ?_;refine wp_region_lit ?_;refine Kn.pure fh6 rfl rfl .none (Kn.ex_assign fh6 .const) fun fa7 fh7 => ?_;clear fh6 fa6;refine wpList_nil ?_;refine hK6 _ _ ?_;clear hK6 K6;refine wp_seq_k fun K7 hK7 => ?_;refine wp_seq_k fun K8 hK8 => ?_;refine wp_region_lit ?_;refine Kn.pure fh7 rfl rfl .none (Kn.ex_move fh7 (.tmp rfl)) fun fa8 fh8 => ?_;clear fh7 fa7;refine Kn.step fh8 rfl rfl .none (Kn.ex_len fh8 (.tmp rfl)) fun Ko hKo => ?_;go_simp;(try go_bits);refine hKo _ _ fun fa9 fh9 => ?_;clear hKo Ko fh8 fa8;refine Kn.pure fh9 rfl rfl .none (Kn.ex_move fh9 .const) fun fa10 fh10 => ?_;clear fh9 fa9;refine wpList_nil ?_;refine hK8 _ _ ?_;clear hK8 K8;refine wp_block ?_;refine Kn.loop (fun m fr u => ∃ (k : Nat), Kn.Kn 95 [(19, .int .i64 (k : Int)), (18, .int .i64 (ts.length : Int)), (17, .slice A ts.length ca), (0, .slice A ts.length ca), (3, .string (catK (ts.take k)))] fr ∧ k + m = ts.length ∧ w1 = u ∧ (catK (ts.take k)).size ≤ 1000 * k) ts.length ⟨0, fh10.cut (.turn (t := 19) rfl rfl (.cons (t := 18) rfl (.cons (t := 17) rfl (.cons (t := 0) rfl (.turn (t := 3) rfl rfl .nil))))), by omega, rfl, Nat.le_of_eq rfl⟩ ?_;clear fh10 fa10;intro m9 fa11 u hI Kl9 hKl9;obtain ⟨k, fh11, hk, rfl, hcs⟩ := hI
  by_cases hlt : k < ts.length
  · obtain ⟨s, hs⟩ : ∃ s, ts[k]? = some s := ⟨ts[k], List.getElem?_eq_getElem hlt⟩;obtain ⟨ba, oa, rfl, -, ca1⟩ := tx_cell HA1.out hs;have hct := catK_take hs;obtain ⟨c0, hc0⟩ : ∃ c0, catK (ts.take k) = c0 := ⟨_, rfl⟩;rw [hc0] at hct hcs;have hql : ∀ x : Nat, x ≤ 1000 → ¬ 9223372036854775807 < c0.size + x := fun x hx => by omega
    refine wp_seq_k fun K10 hK10 => ?_;refine wp_region_lit ?_;refine Kn.step fh11 rfl rfl .none (Kn.ex_bin fh11 (.tmp rfl) (.tmp rfl)) fun Ko hKo => ?_;go_simp;(try go_bits);refine hKo _ _ fun fa12 fh12 => ?_;clear hKo Ko fh11 fa11;refine wpList_nil ?_;refine hK10 _ _ ?_;clear hK10 K10;refine wp_seq_k fun K11 hK11 => ?_;refine Kn.yes fh12 (.tmp rfl) ?_;refine wp_skip ?_;refine hK11 _ _ ?_;clear hK11 K11;replace fh12 := fh12.cut (.cons (t := 19) rfl (.cons (t := 18) rfl (.cons (t := 17) rfl (.cons (t := 0) rfl (.cons (t := 3) rfl .nil)))));refine wp_seq_k fun K12 hK12 => ?_;refine wp_block ?_;refine wp_seq_k fun K13 hK13 => ?_;refine wp_region_lit ?_;refine Kn.step fh12 rfl rfl .none (Kn.ex_indexAddr fh12 (.tmp rfl) (.tmp rfl)) fun Ko hKo => ?_;go_simp;(try go_bits);refine hKo _ _ fun fa13 fh13 => ?_;clear hKo Ko fh12 fa12;refine Kn.step fh13 rfl rfl .none (Kn.ex_load fh13 (.tmp rfl)) fun Ko hKo => ?_;go_simp;(try go_bits);refine hKo _ _ fun fa14 fh14 => ?_;clear hKo Ko fh13 fa13;refine Kn.pure fh14 rfl rfl .none (Kn.ex_assign fh14 (.tmp rfl)) fun fa15 fh15 => ?_;clear fh14 fa14;refine wpList_nil ?_;refine hK13 _ _ ?_;clear hK13 K13;replace fh15 := fh15.cut (.cons (t := 5) rfl (.cons (t := 19) rfl (.cons (t := 18) rfl (.cons (t := 17) rfl (.cons (t := 0) rfl (.cons (t := 3) rfl .nil))))))
    by_cases hs1 : (1000 : Int) < (s.size : Int)
    · refine wp_seq_k fun K14 hK14 => ?_;refine wp_seq_k fun K15 hK15 => ?_;refine wp_region_lit ?_;refine Kn.pure fh15 rfl rfl .none (Kn.ex_move fh15 (.tmp rfl)) fun fa16 fh16 => ?_;clear fh15 fa15;refine Kn.step fh16 rfl rfl .none (Kn.ex_len fh16 (.tmp rfl)) fun Ko hKo => ?_;go_simp;(try go_bits);refine hKo _ _ fun fa17 fh17 => ?_;clear hKo Ko fh16 fa16;refine Kn.step fh17 rfl rfl .none (Kn.ex_bin fh17 (.tmp rfl) .const) fun Ko hKo => ?_;go_simp;(try go_bits);refine hKo _ _ fun fa18 fh18 => ?_;clear hKo Ko fh17 fa17;refine wpList_nil ?_;refine hK15 _ _ ?_;clear hK15 K15;replace fh18 := fh18.cut (.cons (t := 25) rfl (.cons (t := 5) rfl (.cons (t := 19) rfl (.cons (t := 18) rfl (.cons (t := 17) rfl (.cons (t := 0) rfl (.cons (t := 3) rfl .nil)))))));refine Kn.yes fh18 (.tmp rfl) ?_;replace fh18 := fh18.cut (.cons (t := 5) rfl (.cons (t := 19) rfl (.cons (t := 18) rfl (.cons (t := 17) rfl (.cons (t := 0) rfl (.cons (t := 3) rfl .nil))))));refine wp_seq_k fun K16 hK16 => ?_;refine wp_region_lit ?_;refine Kn.pure fh18 rfl rfl .none (Kn.ex_assign fh18 .const) fun fa19 fh19 => ?_;clear fh18 fa18;refine wpList_nil ?_;refine hK16 _ _ ?_;clear hK16 K16;refine wp_ret ?_;refine Kn.then_ret ?_;refine Kn.block_ret ?_;refine Kn.then_ret ?_;refine Kn.then_ret ?_;refine Kn.block_ret ?_;refine Kn.then_ret ?_;exact Kn.ret1 fh19 rfl rfl ⟨rfl, HB1.out⟩
    refine wp_seq_k fun K14 hK14 => ?_;refine wp_seq_k fun K15 hK15 => ?_;refine wp_region_lit ?_;refine Kn.pure fh15 rfl rfl .none (Kn.ex_move fh15 (.tmp rfl)) fun fa16 fh16 => ?_;clear fh15 fa15;refine Kn.step fh16 rfl rfl .none (Kn.ex_len fh16 (.tmp rfl)) fun Ko hKo => ?_;go_simp;(try go_bits);refine hKo _ _ fun fa17 fh17 => ?_;clear hKo Ko fh16 fa16;refine Kn.step fh17 rfl rfl .none (Kn.ex_bin fh17 (.tmp rfl) .const) fun Ko hKo => ?_;go_simp;(try go_bits);refine hKo _ _ fun fa18 fh18 => ?_;clear hKo Ko fh17 fa17;refine wpList_nil ?_;refine hK15 _ _ ?_;clear hK15 K15;replace fh18 := fh18.cut (.cons (t := 25) rfl (.cons (t := 5) rfl (.cons (t := 19) rfl (.cons (t := 18) rfl (.cons (t := 17) rfl (.cons (t := 0) rfl (.cons (t := 3) rfl .nil)))))));refine Kn.no fh18 (.tmp rfl) ?_;refine wp_skip ?_;refine hK14 _ _ ?_;clear hK14 K14;replace fh18 := fh18.cut (.cons (t := 5) rfl (.cons (t := 19) rfl (.cons (t := 18) rfl (.cons (t := 17) rfl (.cons (t := 0) rfl (.cons (t := 3) rfl .nil))))));have hq := hql s.size (by omega);refine wp_region_lit ?_;refine Kn.pure fh18 rfl rfl .none (Kn.ex_move fh18 (.tmp rfl)) fun fa19 fh19 => ?_;clear fh18 fa18;refine Kn.pure fh19 rfl rfl .none (Kn.ex_move fh19 (.tmp rfl)) fun fa20 fh20 => ?_;clear fh19 fa19;refine Kn.step fh20 rfl rfl .none (Kn.ex_bin fh20 (.tmp rfl) (.tmp rfl)) fun Ko hKo => ?_;go_simp;(try go_bits);refine hKo _ _ fun fa21 fh21 => ?_;clear hKo Ko fh20 fa20;refine Kn.pure fh21 rfl rfl .none (Kn.ex_assign fh21 (.tmp rfl)) fun fa22 fh22 => ?_;clear fh21 fa21;refine wpList_nil ?_;refine Kn.block_normal ?_;refine hK12 _ _ ?_;clear hK12 K12;replace fh22 := fh22.cut (.cons (t := 3) rfl (.cons (t := 19) rfl (.cons (t := 18) rfl (.cons (t := 17) rfl (.cons (t := 0) rfl .nil)))));refine wp_region_lit ?_;refine Kn.step fh22 rfl rfl .none (Kn.ex_bin fh22 (.tmp rfl) .const) fun Ko hKo => ?_;go_simp;(try go_bits);refine hKo _ _ fun fa23 fh23 => ?_;clear hKo Ko fh22 fa22;refine Kn.pure fh23 rfl rfl .none (Kn.ex_move fh23 (.tmp rfl)) fun fa24 fh24 => ?_;clear fh23 fa23;refine wpList_nil ?_;replace fh24 := fh24.cut (.cons (t := 19) rfl (.cons (t := 3) rfl (.cons (t := 18) rfl (.cons (t := 17) rfl (.cons (t := 0) rfl .nil)))));exact hKl9 (m9 - 1) _ _ (by omega) ⟨k + 1, fh24.cut (.turn (t := 19) rfl (by go_num) (.cons (t := 18) rfl (.cons (t := 17) rfl (.cons (t := 0) rfl (.turn (t := 3) rfl (by first | rfl | rw [← hct, hc0]) .nil))))), by omega, rfl, by rw [← hct, ByteArray.size_append]; omega⟩
  obtain rfl : k = ts.length := by omega
  refine wp_seq_k fun K10 hK10 => ?_;refine wp_region_lit ?_;refine Kn.step fh11 rfl rfl .none (Kn.ex_bin fh11 (.tmp rfl) (.tmp rfl)) fun Ko hKo => ?_;go_simp;(try go_bits);refine hKo _ _ fun fa12 fh12 => ?_;clear hKo Ko fh11 fa11;refine wpList_nil ?_;refine hK10 _ _ ?_;clear hK10 K10;refine wp_seq_k fun K11 hK11 => ?_;refine Kn.no fh12 (.tmp rfl) ?_;replace fh12 := fh12.cut (.cons (t := 19) rfl (.cons (t := 18) rfl (.cons (t := 17) rfl (.cons (t := 0) rfl (.cons (t := 3) rfl .nil)))));refine wp_exit ?_;refine Kn.then_exit ?_;clear hK11 K11;refine Kn.then_exit ?_;clear hKl9 Kl9;refine Kn.block_exit ?_;refine hK7 _ _ ?_;clear hK7 K7;replace fh12 := fh12.cut (.cons (t := 0) rfl (.cons (t := 3) rfl .nil));rw [List.take_length] at fh12 hcs;obtain ⟨s, hs⟩ : ∃ s, catK ts = s := ⟨_, rfl⟩;have hct := hcut A ca ts w1 hn20 hca (by omega) HA1.out;rw [hs] at fh12 hcs hct;have hsz : s.size ≤ 20000 := by omega
  clear hcs hlt hk HA1;refine wp_seq_k fun K12 hK12 => ?_;refine wp_region_lit ?_;refine Kn.pure fh12 rfl rfl .none (Kn.ex_move fh12 (.tmp rfl)) fun fa13 fh13 => ?_;clear fh12 fa12;refine Kn.call fh13 rfl rfl .none (Kn.ex_call fh13 (.cons (.tmp rfl) .nil)) Try.call6 (hct) fun e w2 hp => ?_;obtain ⟨A2, c2, rfl, hA2, hb2⟩ := hp;refine ⟨_, rfl, fun fa14 fh14 => ?_⟩;clear fh13 fa13;refine Kn.pure fh14 rfl rfl .none (Kn.ex_assign fh14 (.tmp rfl)) fun fa15 fh15 => ?_;clear fh14 fa14;refine wpList_nil ?_;refine hK12 _ _ ?_;clear hK12 K12;replace fh15 := fh15.cut (.cons (t := 6) rfl (.cons (t := 3) rfl .nil));have HP2 : Hid (RIn txR w2 A2 (cutK s) ∧ Below w.heap.size w w2) := Lib.hid ⟨hA2, HB1.out.trans (hb2.mono HB1.out.size)⟩;clear hA2 hb2 hct HB1;obtain ⟨N, hN⟩ : ∃ N, cntK s.size = N := ⟨_, rfl⟩;have hN2 : N ≤ 400 := by rw [← hN]; unfold cntK; omega
  rw [hN] at fh15;refine wp_seq_k fun K13 hK13 => ?_;refine wp_region_lit ?_;refine Kn.pure fh15 rfl rfl .none (Kn.ex_assign fh15 .const) fun fa16 fh16 => ?_;clear fh15 fa15;refine wpList_nil ?_;refine hK13 _ _ ?_;clear hK13 K13;refine wp_seq_k fun K14 hK14 => ?_;refine wp_block ?_;refine Kn.loop (fun m fr u => ∃ (k : Nat), Kn.Kn 95 [(7, .int .i64 (k : Int)), (6, .slice A2 N c2), (3, .string s)] fr ∧ k + m = N ∧ w2 = u) N ⟨0, fh16.cut (.turn (t := 7) rfl rfl (.cons (t := 6) rfl (.cons (t := 3) rfl .nil))), by omega, rfl⟩ ?_;clear fh16 fa16;intro m15 fa17 u hI Kl15 hKl15;obtain ⟨k, fh17, hk, rfl⟩ := hI;have hlk := cntK_lt (n := s.size) (k := k);rw [hN] at hlk;obtain ⟨q, hq⟩ : ∃ q, k * 64 = q := ⟨_, rfl⟩;rw [hq] at hlk;have rq : (k : Int) * 64 = (q : Int) := by omega
  by_cases hlt : (q : Int) < (s.size : Int)
  · refine wp_seq_k fun K16 hK16 => ?_;refine wp_seq_k fun K17 hK17 => ?_;refine wp_region_lit ?_;refine Kn.pure fh17 rfl rfl .none (Kn.ex_move fh17 (.tmp rfl)) fun fa18 fh18 => ?_;clear fh17 fa17;refine Kn.step fh18 rfl rfl .none (Kn.ex_bin fh18 (.tmp rfl) .const) fun Ko hKo => ?_;go_simp;(try go_bits);refine hKo _ _ fun fa19 fh19 => ?_;clear hKo Ko fh18 fa18;refine Kn.pure fh19 rfl rfl .none (Kn.ex_move fh19 (.tmp rfl)) fun fa20 fh20 => ?_;clear fh19 fa19;refine Kn.step fh20 rfl rfl .none (Kn.ex_len fh20 (.tmp rfl)) fun Ko hKo => ?_;go_simp;(try go_bits);refine hKo _ _ fun fa21 fh21 => ?_;clear hKo Ko fh20 fa20;refine Kn.step fh21 rfl rfl .none (Kn.ex_bin fh21 (.tmp rfl) (.tmp rfl)) fun Ko hKo => ?_;go_simp;(try go_bits);refine hKo _ _ fun fa22 fh22 => ?_;clear hKo Ko fh21 fa21;refine wpList_nil ?_;refine hK17 _ _ ?_;clear hK17 K17;replace fh22 := fh22.cut (.cons (t := 36) rfl (.cons (t := 7) rfl (.cons (t := 6) rfl (.cons (t := 3) rfl .nil))));refine Kn.yes fh22 (.tmp rfl) ?_;refine wp_skip ?_;refine hK16 _ _ ?_;clear hK16 K16;replace fh22 := fh22.cut (.cons (t := 7) rfl (.cons (t := 6) rfl (.cons (t := 3) rfl .nil)));refine wp_block ?_;refine wp_region_lit ?_;refine Kn.pure fh22 rfl rfl .none (Kn.ex_move fh22 (.tmp rfl)) fun fa23 fh23 => ?_;clear fh22 fa22;refine Kn.step fh23 rfl rfl .none (Kn.ex_bin fh23 (.tmp rfl) .const) fun Ko hKo => ?_;go_simp;(try go_bits);refine hKo _ _ fun fa24 fh24 => ?_;clear hKo Ko fh23 fa23;refine Kn.pure fh24 rfl rfl .none (Kn.ex_assign fh24 (.tmp rfl)) fun fa25 fh25 => ?_;clear fh24 fa24;refine wpList_nil ?_;refine Kn.block_normal ?_;replace fh25 := fh25.cut (.cons (t := 7) rfl (.cons (t := 6) rfl (.cons (t := 3) rfl .nil)));exact hKl15 (m15 - 1) _ _ (by omega) ⟨k + 1, fh25.cut (.turn (t := 7) rfl (by go_num) (.cons (t := 6) rfl (.cons (t := 3) rfl .nil))), by omega, rfl⟩
  refine wp_seq_k fun K16 hK16 => ?_;refine wp_seq_k fun K17 hK17 => ?_;refine wp_region_lit ?_;refine Kn.pure fh17 rfl rfl .none (Kn.ex_move fh17 (.tmp rfl)) fun fa18 fh18 => ?_;clear fh17 fa17;refine Kn.step fh18 rfl rfl .none (Kn.ex_bin fh18 (.tmp rfl) .const) fun Ko hKo => ?_;go_simp;(try go_bits);refine hKo _ _ fun fa19 fh19 => ?_;clear hKo Ko fh18 fa18;refine Kn.pure fh19 rfl rfl .none (Kn.ex_move fh19 (.tmp rfl)) fun fa20 fh20 => ?_;clear fh19 fa19;refine Kn.step fh20 rfl rfl .none (Kn.ex_len fh20 (.tmp rfl)) fun Ko hKo => ?_;go_simp;(try go_bits);refine hKo _ _ fun fa21 fh21 => ?_;clear hKo Ko fh20 fa20;refine Kn.step fh21 rfl rfl .none (Kn.ex_bin fh21 (.tmp rfl) (.tmp rfl)) fun Ko hKo => ?_;go_simp;(try go_bits);refine hKo _ _ fun fa22 fh22 => ?_;clear hKo Ko fh21 fa21;refine wpList_nil ?_;refine hK17 _ _ ?_;clear hK17 K17;replace fh22 := fh22.cut (.cons (t := 36) rfl (.cons (t := 7) rfl (.cons (t := 6) rfl (.cons (t := 3) rfl .nil))));refine Kn.no fh22 (.tmp rfl) ?_;replace fh22 := fh22.cut (.cons (t := 7) rfl (.cons (t := 6) rfl (.cons (t := 3) rfl .nil)));refine wp_exit ?_;refine Kn.then_exit ?_;clear hK16 K16;refine Kn.then_exit ?_;clear hKl15 Kl15;refine Kn.block_exit ?_;refine hK14 _ _ ?_;clear hK14 K14;obtain rfl : N = k := by omega
  clear hlt rq hq hlk hk;have hcn := hcount s.size w2 hsz;rw [hN] at hcn;refine wp_seq_k fun K18 hK18 => ?_;refine wp_seq_k fun K19 hK19 => ?_;refine wp_region_lit ?_;refine Kn.pure fh22 rfl rfl .none (Kn.ex_move fh22 (.tmp rfl)) fun fa23 fh23 => ?_;clear fh22 fa22;refine Kn.step fh23 rfl rfl .none (Kn.ex_len fh23 (.tmp rfl)) fun Ko hKo => ?_;go_simp;(try go_bits);refine hKo _ _ fun fa24 fh24 => ?_;clear hKo Ko fh23 fa23;refine Kn.pure fh24 rfl rfl .none (Kn.ex_move fh24 (.tmp rfl)) fun fa25 fh25 => ?_;clear fh24 fa24;refine Kn.step fh25 rfl rfl .none (Kn.ex_bin fh25 (.tmp rfl) (.tmp rfl)) fun Ko hKo => ?_;go_simp;(try go_bits);refine hKo _ _ fun fa26 fh26 => ?_;clear hKo Ko fh25 fa25;refine Kn.pure fh26 rfl rfl .none (Kn.ex_move fh26 (.tmp rfl)) fun fa27 fh27 => ?_;clear fh26 fa26;refine Kn.pure fh27 rfl rfl (.some rfl rfl rfl) (Kn.ex_move fh27 (.tmp rfl)) fun fa28 fh28 => ?_;clear fh27 fa27;refine Kn.step fh28 rfl rfl (.some rfl rfl rfl) (Kn.ex_len fh28 (.tmp rfl)) fun Ko hKo => ?_;go_simp;(try go_bits);refine hKo _ _ fun fa29 fh29 => ?_;clear hKo Ko fh28 fa28;refine Kn.call fh29 rfl rfl (.some rfl rfl rfl) (Kn.ex_call fh29 (.cons (.tmp rfl) .nil)) Try.call7 (hcn) fun e w3 hp => ?_;obtain ⟨rfl, hb3⟩ := hp;refine ⟨_, rfl, fun fa30 fh30 => ?_⟩;clear fh29 fa29;refine Kn.pure fh30 rfl rfl (.some rfl rfl rfl) (Kn.ex_move fh30 (.tmp rfl)) fun fa31 fh31 => ?_;clear fh30 fa30;refine Kn.step fh31 rfl rfl (.some rfl rfl rfl) (Kn.ex_bin fh31 (.tmp rfl) (.tmp rfl)) fun Ko hKo => ?_;go_simp;(try go_bits);refine hKo _ _ fun fa32 fh32 => ?_;clear hKo Ko fh31 fa31;refine Kn.pure fh32 rfl rfl .none (Kn.ex_pick fh32 (.tmp rfl) (.tmp rfl)) fun fa33 fh33 => ?_;clear fh32 fa32;refine wpList_nil ?_;refine hK19 _ _ ?_;clear hK19 K19;replace fh33 := fh33.cut (.cons (t := 49) rfl (.cons (t := 7) rfl (.cons (t := 6) rfl (.cons (t := 3) rfl .nil))));refine Kn.no fh33 (.tmp rfl) ?_;refine wp_skip ?_;refine hK18 _ _ ?_;clear hK18 K18;replace fh33 := fh33.cut (.cons (t := 7) rfl (.cons (t := 6) rfl (.cons (t := 3) rfl .nil)));have HP3 : Hid (RIn txR w3 A2 (cutK s) ∧ Below w.heap.size w w3) := Lib.hid ⟨HP2.out.1.on hb3, HP2.out.2.trans (hb3.mono HP2.out.2.size)⟩;clear HP2 hb3 hcn;refine wp_seq_k fun K20 hK20 => ?_;refine wp_region_lit ?_;refine Kn.pure fh33 rfl rfl .none (Kn.ex_assign fh33 .const) fun fa34 fh34 => ?_;clear fh33 fa33;refine wpList_nil ?_;refine hK20 _ _ ?_;clear hK20 K20;refine wp_seq_k fun K21 hK21 => ?_;refine wp_seq_k fun K22 hK22 => ?_;refine wp_region_lit ?_;refine Kn.pure fh34 rfl rfl .none (Kn.ex_move fh34 (.tmp rfl)) fun fa35 fh35 => ?_;clear fh34 fa34;refine Kn.step fh35 rfl rfl .none (Kn.ex_len fh35 (.tmp rfl)) fun Ko hKo => ?_;go_simp;(try go_bits);refine hKo _ _ fun fa36 fh36 => ?_;clear hKo Ko fh35 fa35;refine Kn.pure fh36 rfl rfl .none (Kn.ex_move fh36 .const) fun fa37 fh37 => ?_;clear fh36 fa36;refine wpList_nil ?_;refine hK22 _ _ ?_;clear hK22 K22;replace fh37 := fh37.cut (.cons (t := 52) rfl (.cons (t := 51) rfl (.cons (t := 50) rfl (.cons (t := 8) rfl (.cons (t := 7) rfl (.cons (t := 3) rfl .nil))))));refine wp_block ?_;refine Kn.loop (fun m fr u => ∃ (k : Nat), Kn.Kn 95 [(52, .int .i64 (k : Int)), (51, .int .i64 (N : Int)), (50, .slice A2 N c2), (3, .string s), (7, .int .i64 (N : Int)), (8, .string (s.extract 0 (min s.size (64 * k))))] fr ∧ k + m = N ∧ Hid (RIn txR u A2 (cutK s) ∧ Below w.heap.size w u)) N ⟨0, fh37.cut (.turn (t := 52) rfl rfl (.cons (t := 51) rfl (.cons (t := 50) rfl (.cons (t := 3) rfl (.cons (t := 7) rfl (.turn (t := 8) rfl (by simp; rfl) .nil)))))), by omega, HP3⟩ ?_;clear fh37 fa37;intro m23 fa38 u hI Kl23 hKl23;obtain ⟨k, fh38, hk, HU⟩ := hI
  by_cases hlt : k < N
  · have hlt2 : k < cntK s.size := by rw [hN]; exact hlt
    obtain ⟨ba, oa, rfl, -, ca1⟩ := tx_cell HU.out.1 (cutK_at hlt2);have hbz := blkK_size hlt2;have hjn := blkK_join s k;have hza := szK_at hlt2;have hst := szK_step hlt2;obtain ⟨bk, hbk⟩ : ∃ bk, blkK s k = bk := ⟨_, rfl⟩;obtain ⟨z, hz⟩ : ∃ z, szK s.size (k : Int) = z := ⟨_, rfl⟩;obtain ⟨j0, hj0⟩ : ∃ j, s.extract 0 (min s.size (64 * k)) = j := ⟨_, rfl⟩;obtain ⟨j1, hj1⟩ : ∃ j, s.extract 0 (min s.size (64 * (k + 1))) = j := ⟨_, rfl⟩;have hj0s : j0.size ≤ 20000 := by rw [← hj0, ByteArray.size_extract]; omega
    rw [hbk] at ca1 hbz hjn;rw [hz] at hbz hza hst;rw [hj0, hj1] at hjn;rw [hj0] at fh38;obtain ⟨q, hq⟩ : ∃ q, 64 * k = q := ⟨_, rfl⟩;have hk8 : 64 * k < s.size := by unfold cntK at hlt2; omega
    obtain ⟨d, hd⟩ : ∃ d, s.size - 64 * k = d := ⟨_, rfl⟩;rw [hd] at hza;have rq : (64 : Int) * (k : Int) = (q : Int) := by omega
    have rd : (s.size : Int) - (q : Int) = (d : Int) := by omega
    have hzb : z ≤ 64 := by omega
    have hql : ¬ 9223372036854775807 < j0.size + z := by omega
    have hmin : (if (d : Int) < 64 then (d : Int) else 64) = (z : Int) := by split <;> omega
    have hss := hsize s.size (k : Int) u hsz (by omega) (by omega);rw [hz] at hss;clear hst hza;refine wp_seq_k fun K24 hK24 => ?_;refine wp_region_lit ?_;refine Kn.step fh38 rfl rfl .none (Kn.ex_bin fh38 (.tmp rfl) (.tmp rfl)) fun Ko hKo => ?_;go_simp;(try go_bits);refine hKo _ _ fun fa39 fh39 => ?_;clear hKo Ko fh38 fa38;refine wpList_nil ?_;refine hK24 _ _ ?_;clear hK24 K24;refine wp_seq_k fun K25 hK25 => ?_;refine Kn.yes fh39 (.tmp rfl) ?_;refine wp_skip ?_;refine hK25 _ _ ?_;clear hK25 K25;replace fh39 := fh39.cut (.cons (t := 52) rfl (.cons (t := 51) rfl (.cons (t := 50) rfl (.cons (t := 3) rfl (.cons (t := 7) rfl (.cons (t := 8) rfl .nil))))));refine wp_seq_k fun K26 hK26 => ?_;refine wp_block ?_;refine wp_seq_k fun K27 hK27 => ?_;refine wp_region_lit ?_;refine Kn.pure fh39 rfl rfl .none (Kn.ex_move fh39 (.tmp rfl)) fun fa40 fh40 => ?_;clear fh39 fa39;refine Kn.step fh40 rfl rfl .none (Kn.ex_indexAddr fh40 (.tmp rfl) (.tmp rfl)) fun Ko hKo => ?_;go_simp;(try go_bits);refine hKo _ _ fun fa41 fh41 => ?_;clear hKo Ko fh40 fa40;refine Kn.step fh41 rfl rfl .none (Kn.ex_load fh41 (.tmp rfl)) fun Ko hKo => ?_;go_simp;(try go_bits);refine hKo _ _ fun fa42 fh42 => ?_;clear hKo Ko fh41 fa41;refine Kn.pure fh42 rfl rfl .none (Kn.ex_assign fh42 (.tmp rfl)) fun fa43 fh43 => ?_;clear fh42 fa42;refine Kn.pure fh43 rfl rfl .none (Kn.ex_assign fh43 (.tmp rfl)) fun fa44 fh44 => ?_;clear fh43 fa43;refine wpList_nil ?_;refine hK27 _ _ ?_;clear hK27 K27;replace fh44 := fh44.cut (.cons (t := 10) rfl (.cons (t := 9) rfl (.cons (t := 52) rfl (.cons (t := 51) rfl (.cons (t := 50) rfl (.cons (t := 3) rfl (.cons (t := 7) rfl (.cons (t := 8) rfl .nil))))))));refine wp_seq_k fun K28 hK28 => ?_;refine wp_region_lit ?_;refine Kn.pure fh44 rfl rfl .none (Kn.ex_move fh44 (.tmp rfl)) fun fa45 fh45 => ?_;clear fh44 fa44;refine Kn.step fh45 rfl rfl .none (Kn.ex_len fh45 (.tmp rfl)) fun Ko hKo => ?_;go_simp;(try go_bits);refine hKo _ _ fun fa46 fh46 => ?_;clear hKo Ko fh45 fa45;refine Kn.pure fh46 rfl rfl .none (Kn.ex_move fh46 (.tmp rfl)) fun fa47 fh47 => ?_;clear fh46 fa46;refine Kn.step fh47 rfl rfl .none (Kn.ex_bin fh47 .const (.tmp rfl)) fun Ko hKo => ?_;go_simp;(try go_bits);refine hKo _ _ fun fa48 fh48 => ?_;clear hKo Ko fh47 fa47;refine Kn.step fh48 rfl rfl .none (Kn.ex_bin fh48 (.tmp rfl) (.tmp rfl)) fun Ko hKo => ?_;go_simp;(try go_bits);refine hKo _ _ fun fa49 fh49 => ?_;clear hKo Ko fh48 fa48;refine Kn.step fh49 rfl rfl .none (Kn.ex_min fh49 (.cons .const (.cons (.tmp rfl) .nil))) fun Ko hKo => ?_;go_simp;(try go_bits);try rw [hmin]
    try go_simp
    (try go_bits);refine hKo _ _ fun fa50 fh50 => ?_;clear hKo Ko fh49 fa49;refine Kn.pure fh50 rfl rfl .none (Kn.ex_assign fh50 (.tmp rfl)) fun fa51 fh51 => ?_;clear fh50 fa50;refine wpList_nil ?_;refine hK28 _ _ ?_;clear hK28 K28;replace fh51 := fh51.cut (.cons (t := 11) rfl (.cons (t := 10) rfl (.cons (t := 9) rfl (.cons (t := 52) rfl (.cons (t := 51) rfl (.cons (t := 50) rfl (.cons (t := 3) rfl (.cons (t := 7) rfl (.cons (t := 8) rfl .nil)))))))));refine wp_seq_k fun K29 hK29 => ?_;refine wp_seq_k fun K30 hK30 => ?_;refine wp_region_lit ?_;refine Kn.pure fh51 rfl rfl .none (Kn.ex_move fh51 (.tmp rfl)) fun fa52 fh52 => ?_;clear fh51 fa51;refine Kn.step fh52 rfl rfl .none (Kn.ex_len fh52 (.tmp rfl)) fun Ko hKo => ?_;go_simp;(try go_bits);refine hKo _ _ fun fa53 fh53 => ?_;clear hKo Ko fh52 fa52;refine Kn.pure fh53 rfl rfl .none (Kn.ex_move fh53 (.tmp rfl)) fun fa54 fh54 => ?_;clear fh53 fa53;refine Kn.step fh54 rfl rfl .none (Kn.ex_bin fh54 (.tmp rfl) (.tmp rfl)) fun Ko hKo => ?_;go_simp;(try go_bits);refine hKo _ _ fun fa55 fh55 => ?_;clear hKo Ko fh54 fa54;refine Kn.pure fh55 rfl rfl .none (Kn.ex_move fh55 (.tmp rfl)) fun fa56 fh56 => ?_;clear fh55 fa55;refine Kn.pure fh56 rfl rfl (.some rfl rfl rfl) (Kn.ex_move fh56 (.tmp rfl)) fun fa57 fh57 => ?_;clear fh56 fa56;refine Kn.step fh57 rfl rfl (.some rfl rfl rfl) (Kn.ex_len fh57 (.tmp rfl)) fun Ko hKo => ?_;go_simp;(try go_bits);refine hKo _ _ fun fa58 fh58 => ?_;clear hKo Ko fh57 fa57;refine Kn.pure fh58 rfl rfl (.some rfl rfl rfl) (Kn.ex_move fh58 (.tmp rfl)) fun fa59 fh59 => ?_;clear fh58 fa58;refine Kn.call fh59 rfl rfl (.some rfl rfl rfl) (Kn.ex_call fh59 (.cons (.tmp rfl) (.cons (.tmp rfl) .nil))) Try.call8 (hss) fun e u2 hp => ?_;obtain ⟨rfl, hu2⟩ := hp;refine ⟨_, rfl, fun fa60 fh60 => ?_⟩;clear fh59 fa59;refine Kn.pure fh60 rfl rfl (.some rfl rfl rfl) (Kn.ex_move fh60 (.tmp rfl)) fun fa61 fh61 => ?_;clear fh60 fa60;refine Kn.step fh61 rfl rfl (.some rfl rfl rfl) (Kn.ex_bin fh61 (.tmp rfl) (.tmp rfl)) fun Ko hKo => ?_;go_simp;(try go_bits);refine hKo _ _ fun fa62 fh62 => ?_;clear hKo Ko fh61 fa61;refine Kn.pure fh62 rfl rfl .none (Kn.ex_pick fh62 (.tmp rfl) (.tmp rfl)) fun fa63 fh63 => ?_;clear fh62 fa62;refine wpList_nil ?_;refine hK30 _ _ ?_;clear hK30 K30;replace fh63 := fh63.cut (.cons (t := 74) rfl (.cons (t := 10) rfl (.cons (t := 52) rfl (.cons (t := 51) rfl (.cons (t := 50) rfl (.cons (t := 3) rfl (.cons (t := 7) rfl (.cons (t := 8) rfl .nil))))))));refine Kn.no fh63 (.tmp rfl) ?_;refine wp_skip ?_;refine hK29 _ _ ?_;clear hK29 K29;replace fh63 := fh63.cut (.cons (t := 10) rfl (.cons (t := 52) rfl (.cons (t := 51) rfl (.cons (t := 50) rfl (.cons (t := 3) rfl (.cons (t := 7) rfl (.cons (t := 8) rfl .nil)))))));have HU2 : Hid (RIn txR u2 (some ⟨ba, oa, none⟩) (cutK s) ∧ Below w.heap.size w u2) := Lib.hid ⟨HU.out.1.on hu2, HU.out.2.trans (hu2.mono HU.out.2.size)⟩;clear hu2 hss HU;refine wp_region_lit ?_;refine Kn.pure fh63 rfl rfl .none (Kn.ex_move fh63 (.tmp rfl)) fun fa64 fh64 => ?_;clear fh63 fa63;refine Kn.pure fh64 rfl rfl .none (Kn.ex_move fh64 (.tmp rfl)) fun fa65 fh65 => ?_;clear fh64 fa64;refine Kn.step fh65 rfl rfl .none (Kn.ex_bin fh65 (.tmp rfl) (.tmp rfl)) fun Ko hKo => ?_;go_simp;(try go_bits);try rw [hjn]
    try go_simp
    (try go_bits);refine hKo _ _ fun fa66 fh66 => ?_;clear hKo Ko fh65 fa65;refine Kn.pure fh66 rfl rfl .none (Kn.ex_assign fh66 (.tmp rfl)) fun fa67 fh67 => ?_;clear fh66 fa66;refine wpList_nil ?_;refine Kn.block_normal ?_;refine hK26 _ _ ?_;clear hK26 K26;replace fh67 := fh67.cut (.cons (t := 8) rfl (.cons (t := 52) rfl (.cons (t := 51) rfl (.cons (t := 50) rfl (.cons (t := 3) rfl (.cons (t := 7) rfl .nil))))));refine wp_region_lit ?_;refine Kn.step fh67 rfl rfl .none (Kn.ex_bin fh67 (.tmp rfl) .const) fun Ko hKo => ?_;go_simp;(try go_bits);refine hKo _ _ fun fa68 fh68 => ?_;clear hKo Ko fh67 fa67;refine Kn.pure fh68 rfl rfl .none (Kn.ex_move fh68 (.tmp rfl)) fun fa69 fh69 => ?_;clear fh68 fa68;refine wpList_nil ?_;replace fh69 := fh69.cut (.cons (t := 52) rfl (.cons (t := 8) rfl (.cons (t := 51) rfl (.cons (t := 50) rfl (.cons (t := 3) rfl (.cons (t := 7) rfl .nil))))));exact hKl23 (m23 - 1) _ _ (by omega) ⟨k + 1, fh69.cut (.turn (t := 52) rfl (by go_num) (.cons (t := 51) rfl (.cons (t := 50) rfl (.cons (t := 3) rfl (.cons (t := 7) rfl (.turn (t := 8) rfl (by rw [hj1]) .nil)))))), by omega, HU2⟩
  obtain rfl : N = k := by omega
  refine wp_seq_k fun K24 hK24 => ?_;refine wp_region_lit ?_;refine Kn.step fh38 rfl rfl .none (Kn.ex_bin fh38 (.tmp rfl) (.tmp rfl)) fun Ko hKo => ?_;go_simp;(try go_bits);refine hKo _ _ fun fa39 fh39 => ?_;clear hKo Ko fh38 fa38;refine wpList_nil ?_;refine hK24 _ _ ?_;clear hK24 K24;refine wp_seq_k fun K25 hK25 => ?_;refine Kn.no fh39 (.tmp rfl) ?_;replace fh39 := fh39.cut (.cons (t := 52) rfl (.cons (t := 51) rfl (.cons (t := 50) rfl (.cons (t := 3) rfl (.cons (t := 7) rfl (.cons (t := 8) rfl .nil))))));refine wp_exit ?_;refine Kn.then_exit ?_;clear hK25 K25;refine Kn.then_exit ?_;clear hKl23 Kl23;refine Kn.block_exit ?_;refine hK21 _ _ ?_;clear hK21 K21;replace fh39 := fh39.cut (.cons (t := 3) rfl (.cons (t := 7) rfl (.cons (t := 8) rfl .nil)));have hce := cntK_end s.size;rw [hN] at hce;have hex : s.extract 0 s.size = s := ByteArray.extract_zero_size;rw [hce, hex] at fh39;have h1 := hsize s.size (N : Int) u hsz (by omega) (by omega);have z1 := szK_none s.size;rw [hN] at z1;rw [z1] at h1;have h2 := fun v => hsize s.size (-1) v hsz (by omega) (by omega);simp only [szK_neg] at h2;have qe : (s.toList == s.toList) = true := by simp
  refine wp_seq_k fun K26 hK26 => ?_;refine wp_region_lit ?_;refine Kn.pure fh39 rfl rfl .none (Kn.ex_move fh39 (.tmp rfl)) fun fa40 fh40 => ?_;clear fh39 fa39;refine Kn.pure fh40 rfl rfl .none (Kn.ex_move fh40 (.tmp rfl)) fun fa41 fh41 => ?_;clear fh40 fa40;refine Kn.step fh41 rfl rfl .none (Kn.ex_bin fh41 (.tmp rfl) (.tmp rfl)) fun Ko hKo => ?_;go_simp;(try go_bits);refine hKo _ _ fun fa42 fh42 => ?_;clear hKo Ko fh41 fa41;refine Kn.pure fh42 rfl rfl .none (Kn.ex_move fh42 (.tmp rfl)) fun fa43 fh43 => ?_;clear fh42 fa42;refine Kn.pure fh43 rfl rfl (.some rfl rfl rfl) (Kn.ex_move fh43 (.tmp rfl)) fun fa44 fh44 => ?_;clear fh43 fa43;refine Kn.step fh44 rfl rfl (.some rfl rfl rfl) (Kn.ex_len fh44 (.tmp rfl)) fun Ko hKo => ?_;go_simp;(try go_bits);refine hKo _ _ fun fa45 fh45 => ?_;clear hKo Ko fh44 fa44;refine Kn.pure fh45 rfl rfl (.some rfl rfl rfl) (Kn.ex_move fh45 (.tmp rfl)) fun fa46 fh46 => ?_;clear fh45 fa45;refine Kn.call fh46 rfl rfl (.some rfl rfl rfl) (Kn.ex_call fh46 (.cons (.tmp rfl) (.cons (.tmp rfl) .nil))) Try.call8 (h1) fun e u2 hp => ?_;obtain ⟨rfl, hu2⟩ := hp;refine ⟨_, rfl, fun fa47 fh47 => ?_⟩;clear fh46 fa46;refine Kn.step fh47 rfl rfl (.some rfl rfl rfl) (Kn.ex_bin fh47 (.tmp rfl) .const) fun Ko hKo => ?_;go_simp;(try go_bits);refine hKo _ _ fun fa48 fh48 => ?_;clear hKo Ko fh47 fa47;refine Kn.pure fh48 rfl rfl .none (Kn.ex_pick fh48 (.tmp rfl) (.tmp rfl)) fun fa49 fh49 => ?_;clear fh48 fa48;refine Kn.pure fh49 rfl rfl .none (Kn.ex_move fh49 (.tmp rfl)) fun fa50 fh50 => ?_;clear fh49 fa49;refine Kn.pure fh50 rfl rfl (.some rfl rfl rfl) (Kn.ex_move fh50 (.tmp rfl)) fun fa51 fh51 => ?_;clear fh50 fa50;refine Kn.step fh51 rfl rfl (.some rfl rfl rfl) (Kn.ex_len fh51 (.tmp rfl)) fun Ko hKo => ?_;go_simp;(try go_bits);refine hKo _ _ fun fa52 fh52 => ?_;clear hKo Ko fh51 fa51;refine Kn.call fh52 rfl rfl (.some rfl rfl rfl) (Kn.ex_call fh52 (.cons (.tmp rfl) (.cons .const .nil))) Try.call8 (h2 u2) fun e u3 hp => ?_;obtain ⟨rfl, hu3⟩ := hp;refine ⟨_, rfl, fun fa53 fh53 => ?_⟩;clear fh52 fa52;refine Kn.step fh53 rfl rfl (.some rfl rfl rfl) (Kn.ex_bin fh53 (.tmp rfl) .const) fun Ko hKo => ?_;go_simp;(try go_bits);refine hKo _ _ fun fa54 fh54 => ?_;clear hKo Ko fh53 fa53;refine Kn.pure fh54 rfl rfl .none (Kn.ex_pick fh54 (.tmp rfl) (.tmp rfl)) fun fa55 fh55 => ?_;clear fh54 fa54;refine Kn.pure fh55 rfl rfl .none (Kn.ex_assign fh55 (.tmp rfl)) fun fa56 fh56 => ?_;clear fh55 fa55;refine wpList_nil ?_;refine hK26 _ _ ?_;clear hK26 K26;replace fh56 := fh56.cut (.cons (t := 2) rfl .nil);refine wp_ret ?_;exact Kn.ret1 fh56 rfl rfl ⟨rfl, HU.out.2.trans ((hu2.trans (hu3.mono hu2.size)).mono HU.out.2.size)⟩
end Go.Proofs.Ytkbkdbnmpicidaa.Blk
end
section
namespace Go.Proofs.Ytkbkdbnmpicidaa.Blk
open Go Go.RowKit Go.Lib RowG
open Go.ChangeShapes
def SArg (w : World) (A : Option Addr) (n : Nat) (f : Nat → Value) : Prop := ∀ k, k < n → ∃ b o, A = some ⟨b, o, none⟩ ∧ b < w.heap.size ∧ w.cell? ⟨b, o + k, none⟩ = some (f k)
theorem SArg.rin {w : World} {A : Option Addr} {n : Nat} {f : Nat → ByteArray} (h : SArg w A n (fun k => .string (f k))) : RIn txR w A ((List.range n).map f) := fun i a hi => by
  rw [List.getElem?_map] at hi;rcases Nat.lt_or_ge i n with hn | hn
  · rw [List.getElem?_range hn] at hi;simp only [Option.map_some, Option.some.injEq] at hi;subst hi;obtain ⟨b, o, h1, h2, h3⟩ := h i hn;refine ⟨b, o, h1, h2, fun j u hj => ?_⟩
    have : j = 0 ∧ u = .string (f i) := by
      cases j with
      | zero => simp [txR] at hj; exact ⟨rfl, hj.symm⟩
      | succ j => simp [txR] at hj
    obtain ⟨rfl, rfl⟩ := this;rw [show o + (i * txR.size + 0) = o + i by show o + (i * 1 + 0) = _; omega];exact h3
  · rw [List.getElem?_eq_none (by simpa using hn)] at hi;cases hi
end Go.Proofs.Ytkbkdbnmpicidaa.Blk
end
