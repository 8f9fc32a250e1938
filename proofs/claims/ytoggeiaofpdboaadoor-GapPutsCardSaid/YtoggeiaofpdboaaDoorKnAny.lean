/- A region that draws its order, whatever its operations do: what each one leaves in its slot is said by a predicate that later operations keep; each operation is then shown once. Over whatever program. -/
import Derived.Test.YtoggeiaofpdboaaDoorKn
namespace Go.Proofs.YtoggeiaofpdboaaDoor.Kn
open Go

/-- Each operation waits for earlier ones alone. -/
def backB (md : Region.Mode) (ops : Array Oper) : Bool :=
  (List.range ops.size).all fun i => match ops[i]? with
    | some o => o.after.all fun e => !Region.binds md e || Nat.blt e.on i
    | none => true
/-- No two operations write one slot. -/
def apartB (ops : Array Oper) : Bool :=
  (List.range ops.size).all fun i => (List.range ops.size).all fun j => Nat.beq i j || match (ops[i]?).bind (·.dst), (ops[j]?).bind (·.dst) with
    | some d, some e => !Nat.beq d e
    | _, _ => true
/-- The slots lie in the frame, and none of them is known. -/
def freshB (n : Nat) (l : List (Nat × Value)) (ops : Array Oper) : Bool :=
  (List.range ops.size).all fun i => match (ops[i]?).bind (·.dst) with
    | some d => Nat.blt d n && l.all fun p => !Nat.beq p.1 d
    | none => true

section
variable {P : Program} {n : Nat} {l : List (Nat × Value)} {ops : Array Oper} {Q : Exit → Act → World → Prop} {md : Region.Mode} {S : World → Prop} {G : World → World → Prop} {T : Nat → Value → World → Prop} {F : Nat → Nat → Value → Value → Prop}

theorem all_listed (hb : backB md ops = true) {listed : Array Bool} (hs : listed.size = ops.size) (hr : Region.ready md ops listed = []) : ∀ i, i < ops.size → listed.getD i false = true := by
  intro i
  induction i using Nat.strongRecOn with
  | _ i ih =>
    intro hi
    cases h : listed.getD i false with
    | true => rfl
    | false =>
      exfalso
      have hm : i ∈ Region.ready md ops listed := by
        refine mem_ready.2 ⟨getD_in (by omega) h, ops[i], Array.getElem?_eq_getElem hi, fun e he hbd => ?_⟩
        have h1 := List.all_eq_true.1 hb i (List.mem_range.2 hi)
        rw [Array.getElem?_eq_getElem hi] at h1
        have h2 := Array.all_eq_true_iff_forall_mem.1 h1 e he
        rw [hbd] at h2
        have h3 : e.on < i := by simpa using h2
        exact ih e.on h3 (by omega)
      rw [hr] at hm
      cases hm
theorem Kn.other {a : Act} (h : Kn n l a) {d : Tmp} (v : Value) (hl : l.all (fun p => !Nat.beq p.1 d) = true) : Kn n l (a.put (some d) v) := by
  refine ⟨h.defers, by simp [Act.put, h.size], fun t u hu => ?_⟩
  have hne : d ≠ t := by
    intro e
    subst e
    clear h
    induction l with
    | nil => simp [find] at hu
    | cons p l ih =>
      obtain ⟨k, v⟩ := p
      simp only [List.all_cons, Bool.and_eq_true, Bool.not_eq_true'] at hl
      rw [find, hl.1] at hu
      exact ih hl.2 hu
  rw [← h.get t u hu]
  simp only [Act.put, Act.eval]
  rw [Array.getD_eq_getD_getElem?, Array.getD_eq_getD_getElem?, Array.getElem?_setIfInBounds_ne hne]
theorem eval_put_same {a : Act} {d : Tmp} (v : Value) (h : d < a.tmps.size) : (a.put (some d) v).eval (.tmp d) = v := by simp [Act.put, Act.eval, h]
theorem eval_put_ne {a : Act} {d t : Tmp} (v : Value) (h : d ≠ t) : (a.put (some d) v).eval (.tmp t) = a.eval (.tmp t) := by
  simp only [Act.put, Act.eval]
  rw [Array.getD_eq_getD_getElem?, Array.getD_eq_getD_getElem?, Array.getElem?_setIfInBounds_ne h]

/-- What an operation's earlier ones have left. -/
def Has (md : Region.Mode) (ops : Array Oper) (T : Nat → Value → World → Prop) (o : Oper) (a : Act) (w : World) : Prop :=
  ∀ j d, o.after.toList.any (fun e => Region.binds md e && Nat.beq e.on j) = true → (ops[j]?).bind (·.dst) = some d → T j (a.eval (.tmp d)) w
/-- What is asked at one operation, in a state. L: the operations that have come. -/
def Op1 (P : Program) (ops : Array Oper) (Q : Exit → Act → World → Prop) (S : World → Prop) (G : World → World → Prop) (T : Nat → Value → World → Prop) (F : Nat → Nat → Value → Value → Prop) (i : Nat) (o : Oper) (L : Nat → Prop) (a : Act) (w : World) : Prop :=
  if Region.wanted o (yielded ops a.tmps) then o.wp P a w (fun a' w' => ∃ v, a' = a.put o.dst v ∧ T i v w' ∧ S w' ∧ G w w' ∧ ∀ k d, k ≠ i → L k → (ops[k]?).bind (·.dst) = some d → F i k v (a.eval (.tmp d)) ∧ F k i (a.eval (.tmp d)) v) Q
  else T i undef w ∧ ∀ k d, k ≠ i → L k → (ops[k]?).bind (·.dst) = some d → F i k undef (a.eval (.tmp d)) ∧ F k i (a.eval (.tmp d)) undef
/-- What the operations that have come have left, two by two. -/
def Two (ops : Array Oper) (F : Nat → Nat → Value → Value → Prop) (L : Nat → Prop) (a : Act) : Prop := ∀ j k d e, j ≠ k → L j → L k → (ops[j]?).bind (·.dst) = some d → (ops[k]?).bind (·.dst) = some e → F j k (a.eval (.tmp d)) (a.eval (.tmp e))
def One (ops : Array Oper) (T : Nat → Value → World → Prop) (L : Nat → Prop) (a : Act) (w : World) : Prop := ∀ k d, L k → (ops[k]?).bind (·.dst) = some d → T k (a.eval (.tmp d)) w
def Ahead (md : Region.Mode) (o : Oper) (L : Nat → Prop) : Prop := ∀ j, o.after.toList.any (fun e => Region.binds md e && Nat.beq e.on j) = true → L j
/-- What is asked of an operation. -/
def Ok (P : Program) (n : Nat) (l : List (Nat × Value)) (md : Region.Mode) (ops : Array Oper) (Q : Exit → Act → World → Prop) (S : World → Prop) (G : World → World → Prop) (T : Nat → Value → World → Prop) (F : Nat → Nat → Value → Value → Prop) (i : Nat) (o : Oper) : Prop :=
  ∀ a w L, Kn n l a → S w → One ops T L a w → Two ops F L a → Ahead md o L → Op1 P ops Q S G T F i o L a w
def Oks (P : Program) (n : Nat) (l : List (Nat × Value)) (md : Region.Mode) (ops : Array Oper) (Q : Exit → Act → World → Prop) (S : World → Prop) (G : World → World → Prop) (T : Nat → Value → World → Prop) (F : Nat → Nat → Value → Value → Prop) : Nat → List Oper → Prop
  | _, [] => True
  | k, o :: r => Ok P n l md ops Q S G T F k o ∧ Oks P n l md ops Q S G T F (k + 1) r
theorem Oks.at {r : List Oper} {k : Nat} (h : Oks P n l md ops Q S G T F k r) {j : Nat} {o : Oper} (hj : r[j]? = some o) : Ok P n l md ops Q S G T F (k + j) o := by
  induction r generalizing k j with
  | nil => simp at hj
  | cons x r ih =>
    cases j with
    | zero => simp at hj; subst hj; exact h.1
    | succ j =>
      have := ih h.2 (j := j) (by simpa using hj)
      rwa [show k + 1 + j = k + (j + 1) by omega] at this
structure Reg (n : Nat) (l : List (Nat × Value)) (ops : Array Oper) (S : World → Prop) (T : Nat → Value → World → Prop) (F : Nat → Nat → Value → Value → Prop) (listed : Array Bool) (a : Act) (w : World) : Prop where
  kn : Kn n l a
  size : listed.size = ops.size
  ok : S w
  slots : ∀ j d, (ops[j]?).bind (·.dst) = some d → listed.getD j false = true → T j (a.eval (.tmp d)) w
  pairs : ∀ i j d e, i ≠ j → (ops[i]?).bind (·.dst) = some d → (ops[j]?).bind (·.dst) = some e → listed.getD i false = true → listed.getD j false = true → F i j (a.eval (.tmp d)) (a.eval (.tmp e))

theorem Reg.next (hap : apartB ops = true) (hfr : freshB n l ops = true) {listed : Array Bool} {a : Act} {w w' : World} {i : Nat} {o : Oper} {v : Value} (h : Reg n l ops S T F listed a w) (ho : ops[i]? = some o) (hv : T i v w') (hS : S w') (hG : ∀ j u, T j u w → T j u w') (hF : ∀ k d, k ≠ i → listed.getD k false = true → (ops[k]?).bind (·.dst) = some d → F i k v (a.eval (.tmp d)) ∧ F k i (a.eval (.tmp d)) v) : Reg n l ops S T F (listed.setIfInBounds i true) (a.put o.dst v) w' := by
  have hi : i < ops.size := (Array.getElem?_eq_some_iff.1 ho).1
  have hob : (ops[i]?).bind (·.dst) = o.dst := by rw [ho]; rfl
  cases hd : o.dst with
  | none =>
    have old : ∀ j d, (ops[j]?).bind (·.dst) = some d → (listed.setIfInBounds i true).getD j false = true → listed.getD j false = true := fun j d hj hl => by
      by_cases e : i = j
      · subst e; rw [hob, hd] at hj; cases hj
      · rwa [getD_set_ne false e] at hl
    exact ⟨h.kn, by simp [h.size], hS, fun j d hj hl => hG _ _ (h.slots j d hj (old j d hj hl)), fun j k d e hne hj hk hl hm => h.pairs j k d e hne hj hk (old j d hj hl) (old k e hk hm)⟩
  | some d =>
    have h1 := List.all_eq_true.1 hfr i (List.mem_range.2 hi)
    rw [hob, hd] at h1
    simp only [Bool.and_eq_true] at h1
    have hdn : d < a.tmps.size := by rw [h.kn.size]; exact Nat.le_of_ble_eq_true h1.1
    have oth : ∀ j e, i ≠ j → (ops[j]?).bind (·.dst) = some e → (a.put (some d) v).eval (.tmp e) = a.eval (.tmp e) := fun j e hij hj => by
      have hjs : j < ops.size := by
        cases hj2 : ops[j]? with
        | none => rw [hj2] at hj; cases hj
        | some x => exact (Array.getElem?_eq_some_iff.1 hj2).1
      have h2 := List.all_eq_true.1 (List.all_eq_true.1 hap i (List.mem_range.2 hi)) j (List.mem_range.2 hjs)
      rw [hob, hd, hj, beq_no hij] at h2
      have hde : d ≠ e := fun e' => by subst e'; simp at h2
      exact eval_put_ne v hde
    refine ⟨h.kn.other v h1.2, by simp [h.size], hS, fun j e hj hl => ?_, fun j k e f hne hj hk hl hm => ?_⟩
    · by_cases hij : i = j
      · subst hij
        rw [hob, hd] at hj
        obtain rfl := Option.some.inj hj
        rw [eval_put_same v hdn]
        exact hv
      · rw [getD_set_ne false hij] at hl
        rw [oth j e hij hj]
        exact hG _ _ (h.slots j e hj hl)
    · by_cases hij : i = j
      · subst hij
        rw [hob, hd] at hj
        obtain rfl := Option.some.inj hj
        rw [getD_set_ne false hne] at hm
        rw [eval_put_same v hdn, oth k f hne hk]
        exact (hF k f (fun e => hne e.symm) hm hk).1
      · rw [getD_set_ne false hij] at hl
        rw [oth j e hij hj]
        by_cases hik : i = k
        · subst hik
          rw [hob, hd] at hk
          obtain rfl := Option.some.inj hk
          rw [eval_put_same v hdn]
          exact (hF j e (fun e => hij e.symm) hl hj).2
        · rw [getD_set_ne false hik] at hm
          rw [oth k f hik hk]
          exact h.pairs j k e f hne hj hk hl hm

theorem wpAny_reg (hback : backB md ops = true) (hap : apartB ops = true) (hfr : freshB n l ops = true) (hT : ∀ i v w w', G w w' → T i v w → T i v w') (hok : Oks P n l md ops Q S G T F 0 ops.toList)
    (hend : ∀ a w, Kn n l a → S w → (∀ j d, (ops[j]?).bind (·.dst) = some d → T j (a.eval (.tmp d)) w) → (∀ i j d e, i ≠ j → (ops[i]?).bind (·.dst) = some d → (ops[j]?).bind (·.dst) = some e → F i j (a.eval (.tmp d)) (a.eval (.tmp e))) → Q .normal a w) :
    ∀ (fuel : Nat) (listed : Array Bool) (a : Act) (w : World), listed.toList.countP (fun b => !b) ≤ fuel → Reg n l ops S T F listed a w → wpAny P md ops Q fuel listed a w := by
  have fin : ∀ (listed : Array Bool) (a : Act) (w : World), Reg n l ops S T F listed a w → Region.ready md ops listed = [] → Q .normal a w := fun listed a w h hr => by
    have al : ∀ j d, (ops[j]?).bind (·.dst) = some d → listed.getD j false = true := fun j d hj => by
      have hjs : j < ops.size := by
        cases hj2 : ops[j]? with
        | none => rw [hj2] at hj; cases hj
        | some x => exact (Array.getElem?_eq_some_iff.1 hj2).1
      exact all_listed hback h.size hr j hjs
    exact hend a w h.kn h.ok (fun j d hj => h.slots j d hj (al j d hj)) fun i j d e hne hi hj => h.pairs i j d e hne hi hj (al i d hi) (al j e hj)
  intro fuel
  induction fuel with
  | zero =>
    intro listed a w hc h
    have hr : Region.ready md ops listed = [] := by
      cases hr : Region.ready md ops listed with
      | nil => rfl
      | cons i r =>
        exfalso
        have hi := (mem_ready.1 (show i ∈ Region.ready md ops listed by rw [hr]; exact List.mem_cons_self)).1
        have hil : i < listed.size := by
          rcases Nat.lt_or_ge i listed.size with h' | h'
          · exact h'
          · simp [Array.getElem?_eq_none h'] at hi
        have hz : listed.toList.countP (fun b => !b) = 0 := by omega
        rw [List.countP_eq_zero] at hz
        have := hz listed[i] (by simp)
        simp [hil] at hi
        simp [hi] at this
    exact ⟨hr, fin listed a w h hr⟩
  | succ fuel ih =>
    intro listed a w hc h
    refine ⟨fin listed a w h, fun i hi => ?_⟩
    obtain ⟨hun, o, ho, hall⟩ := mem_ready.1 hi
    have hil : i < listed.size := by
      rcases Nat.lt_or_ge i listed.size with h' | h'
      · exact h'
      · simp [Array.getElem?_eq_none h'] at hun
    have hcount : (listed.setIfInBounds i true).toList.countP (fun b => !b) ≤ fuel := by
      have hli : listed[i] = false := by simpa [hil] using hun
      rw [Array.toList_setIfInBounds, List.countP_set (by simpa using hil)]
      simp only [Array.getElem_toList, hli]
      simp only [Bool.not_false, Bool.not_true, if_true, Bool.false_eq_true, if_false]
      omega
    have hok' := hok.at (j := i) (o := o) (by rw [Array.getElem?_toList]; exact ho)
    rw [Nat.zero_add] at hok'
    have hs := hok' a w (fun k => listed.getD k false = true) h.kn h.ok (fun k d hk hd => h.slots k d hd hk) (fun j k d e hne hj hk hd he => h.pairs j k d e hne hd he hj hk) (fun j hj => by
      obtain ⟨e, he, he2⟩ := List.any_eq_true.1 hj
      simp only [Bool.and_eq_true] at he2
      have := Nat.eq_of_beq_eq_true he2.2
      subst this
      exact hall e (Array.mem_toList_iff.1 he) he2.1)
    unfold Op1 at hs
    unfold wpOp
    simp only [ho]
    split
    · rename_i hw
      rw [if_pos hw] at hs
      refine .inl (Oper.wp_mono (fun a' w' hx => ?_) hs)
      obtain ⟨v, rfl, hv, hS, hG, hF⟩ := hx
      exact ih _ _ _ hcount (h.next hap hfr ho hv hS (fun j u hu => hT j u _ _ hG hu) hF)
    · rename_i hw
      rw [if_neg hw] at hs
      exact ih _ _ _ hcount (h.next hap hfr ho hs.1 h.ok (fun j u hu => hu) hs.2)

/-- A region that draws its order, by what each operation leaves. -/
theorem anyF {id : Nat} {os : List Oper} {a : Act} {w : World} (S : World → Prop) (G : World → World → Prop) (T : Nat → Value → World → Prop) (F : Nat → Nat → Value → Value → Prop) (hm : P.follows .mixedOrders = true) (h : Kn n l a) (hback : backB .any os.toArray = true) (hap : apartB os.toArray = true) (hfr : freshB n l os.toArray = true)
    (hT : ∀ i v w w', G w w' → T i v w → T i v w') (hS : S w.drew) (hok : Oks P n l .any os.toArray Q S G T F 0 os)
    (hend : ∀ a w, Kn n l a → S w → (∀ j d, (os.toArray[j]?).bind (·.dst) = some d → T j (a.eval (.tmp d)) w) → (∀ i j d e, i ≠ j → (os.toArray[i]?).bind (·.dst) = some d → (os.toArray[j]?).bind (·.dst) = some e → F i j (a.eval (.tmp d)) (a.eval (.tmp e))) → Q .normal a w) : (Code.region id os.toArray true).wp P Q a w := by
  refine wp_region_any hm (wpAny_reg (S := S) (G := G) (T := T) (F := F) hback hap hfr hT (by simpa using hok) hend _ _ _ _ ?_ ⟨h, by simp, hS, fun j d hj hl => ?_, fun i j d e _ _ _ hl _ => ?_⟩)
  · refine Nat.le_trans List.countP_le_length ?_
    simp
  · rw [getD_replicate_false] at hl; cases hl
  · rw [getD_replicate_false] at hl; cases hl
/-- No two values have to do with one another. -/
def F0 : Nat → Nat → Value → Value → Prop := fun _ _ _ _ => True
theorem any {id : Nat} {os : List Oper} {a : Act} {w : World} (S : World → Prop) (G : World → World → Prop) (T : Nat → Value → World → Prop) (hm : P.follows .mixedOrders = true) (h : Kn n l a) (hback : backB .any os.toArray = true) (hap : apartB os.toArray = true) (hfr : freshB n l os.toArray = true)
    (hT : ∀ i v w w', G w w' → T i v w → T i v w') (hS : S w.drew) (hok : Oks P n l .any os.toArray Q S G T F0 0 os)
    (hend : ∀ a w, Kn n l a → S w → (∀ j d, (os.toArray[j]?).bind (·.dst) = some d → T j (a.eval (.tmp d)) w) → Q .normal a w) : (Code.region id os.toArray true).wp P Q a w :=
  anyF S G T F0 hm h hback hap hfr hT hS hok fun a w h1 h2 h3 _ => hend a w h1 h2 h3
theorem ones {o : Oper} {i : Nat} {r : List Oper} (h1 : Ok P n l md ops Q S G T F i o) (h2 : Oks P n l md ops Q S G T F (i + 1) r) : Oks P n l md ops Q S G T F i (o :: r) := ⟨h1, h2⟩

theorem ok {i : Nat} {o : Oper} (h : ∀ a w L, Kn n l a → S w → Has md ops T o a w → Op1 P ops Q S G T F i o L a w) : Ok P n l md ops Q S G T F i o := fun a w L h1 h2 h3 _ h5 => h a w L h1 h2 fun j d hj hd => h3 j d (h5 j hj) hd
theorem okF {i : Nat} {o : Oper} (h : ∀ a w L, Kn n l a → S w → One ops T L a w → Two ops F L a → Ahead md o L → Op1 P ops Q S G T F i o L a w) : Ok P n l md ops Q S G T F i o := h
/-- One operation. -/
theorem aopF {i : Nat} {o : Oper} {L : Nat → Prop} {a : Act} {w : World} {s : Sem Value} {l' : List (Nat × Value)} (h : Kn n l' a) (hw : Wants ops l' o.guard true) (he : execOp a.eval o = vl s)
    (H : ∀ K : Value → World → Prop, (∀ v w', T i v w' → S w' → G w w' → (∀ k d, k ≠ i → L k → (ops[k]?).bind (·.dst) = some d → F i k v (a.eval (.tmp d)) ∧ F k i (a.eval (.tmp d)) v) → K v w') → Sat K (s.run P w)) : Op1 P ops Q S G T F i o L a w := by
  unfold Op1
  rw [h.wants hw, if_pos rfl]
  exact run_value s w _ o a (H _ fun v w' h1 h2 h3 h4 => ⟨v, rfl, h1, h2, h3, h4⟩) he
theorem aop {i : Nat} {o : Oper} {L : Nat → Prop} {a : Act} {w : World} {s : Sem Value} {l' : List (Nat × Value)} (h : Kn n l' a) (hw : Wants ops l' o.guard true) (he : execOp a.eval o = vl s)
    (H : ∀ K : Value → World → Prop, (∀ v w', T i v w' → S w' → G w w' → K v w') → Sat K (s.run P w)) : Op1 P ops Q S G T F0 i o L a w :=
  aopF h hw he fun K hK => H K fun v w' h1 h2 h3 => hK v w' h1 h2 h3 fun _ _ _ _ _ => ⟨trivial, trivial⟩
theorem apure {i : Nat} {o : Oper} {L : Nat → Prop} {a : Act} {w : World} {v : Value} {l' : List (Nat × Value)} (h : Kn n l' a) (hw : Wants ops l' o.guard true) (he : execOp a.eval o = vl (.pure v)) (h1 : T i v w) (h2 : S w) (h3 : G w w) : Op1 P ops Q S G T F0 i o L a w :=
  aop h hw he fun _ hK => hK _ _ h1 h2 h3
theorem aknown {i : Nat} {o : Oper} {L : Nat → Prop} {a : Act} {w w' : World} {s : Sem Value} {v : Value} {l' : List (Nat × Value)} (h : Kn n l' a) (hw : Wants ops l' o.guard true) (he : execOp a.eval o = vl s) (hr : s.run P w = .ok v w') (h1 : T i v w') (h2 : S w') (h3 : G w w') : Op1 P ops Q S G T F0 i o L a w :=
  aop h hw he fun K hK => by rw [hr]; exact hK _ _ h1 h2 h3
theorem acall {i : Nat} {o : Oper} {L : Nat → Prop} {a : Act} {w : World} {f : FuncId} {args : Array Value} {R : Ending → World → Prop} {l' : List (Nat × Value)} (h : Kn n l' a) (hw : Wants ops l' o.guard true) (he : execOp a.eval o = callFunc f args)
    (hc : ∀ (args : Array Value) (w : World), (callFunc f args).run P w = .ok (.enter f args) w) (hR : Calls P f args w R) (H : ∀ e w', R e w' → ∃ v, e = .returned v ∧ T i v w' ∧ S w' ∧ G w w') : Op1 P ops Q S G T F0 i o L a w := by
  unfold Op1
  rw [h.wants hw, if_pos rfl]
  unfold Oper.wp
  rw [he, hc]
  refine hR.mono fun e w' hr => ?_
  obtain ⟨v, rfl, h1, h2, h3⟩ := H e w' hr
  exact ⟨v, rfl, h1, h2, h3, fun _ _ _ _ _ => ⟨trivial, trivial⟩⟩
end
/-- What each operation leaves, as a list. -/
def TL : List (Value → World → Prop) → Nat → Value → World → Prop
  | [], _, _, _ => True
  | p :: _, 0, v, w => p v w
  | _ :: l, i + 1, v, w => TL l i v w
inductive Keeps (G : World → World → Prop) : List (Value → World → Prop) → Prop
  | nil : Keeps G []
  | cons {p : Value → World → Prop} {l : List (Value → World → Prop)} (h : ∀ v w w', G w w' → p v w → p v w') (r : Keeps G l) : Keeps G (p :: l)
theorem Keeps.all {G : World → World → Prop} {l : List (Value → World → Prop)} (h : Keeps G l) : ∀ i v w w', G w w' → TL l i v w → TL l i v w' := by
  induction h with
  | nil => intro i v w w' _ _; exact trivial
  | cons h1 _ ih =>
    intro i v w w' hg ht
    cases i with
    | zero => exact h1 v w w' hg ht
    | succ i => exact ih i v w w' hg ht
/-- Just this value. -/
def Is (x : Value) : Value → World → Prop := fun v _ => v = x
theorem Is.keep {G : World → World → Prop} {x : Value} : ∀ v w w', G w w' → Is x v w → Is x v w' := fun _ _ _ _ h => h
end Go.Proofs.YtoggeiaofpdboaaDoor.Kn
