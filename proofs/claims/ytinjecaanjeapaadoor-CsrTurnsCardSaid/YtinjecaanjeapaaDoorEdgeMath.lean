/- Plain mathematics of layer 4 (edges): order, sorted lists, one by one into its place. It names nothing of the program. -/
namespace Go.Proofs.YtinjecaanjeapaaDoor.Edg

/-- Does an edge stand ahead of another one? -/
def lessB (a b : Int × Int) : Bool := decide (a.1 < b.1) || (decide (a.1 = b.1) && decide (a.2 < b.2))
theorem less_iff (a b : Int × Int) : lessB a b = true ↔ a.1 < b.1 ∨ a.1 = b.1 ∧ a.2 < b.2 := by simp [lessB]
theorem less_irr (a : Int × Int) : lessB a a = false := by
  cases h : lessB a a with
  | false => rfl
  | true => rw [less_iff] at h; omega
theorem less_trans {a b c : Int × Int} (h1 : lessB a b = true) (h2 : lessB b c = true) : lessB a c = true := by
  rw [less_iff] at *; omega
theorem less_eq {a b : Int × Int} (h1 : lessB a b = false) (h2 : lessB b a = false) : a = b := by
  have h1' : ¬ lessB a b = true := by simp [h1]
  have h2' : ¬ lessB b a = true := by simp [h2]
  rw [less_iff] at h1' h2'
  exact Prod.ext (by omega) (by omega)
theorem less_asym {a b : Int × Int} (h : lessB a b = true) : lessB b a = false := by
  cases h2 : lessB b a with
  | false => rfl
  | true => have := less_trans h h2; rw [less_irr] at this; cases this
/-- Each edge stands ahead of all behind it. -/
def Srt (l : List (Int × Int)) : Prop := l.Pairwise (fun a b => lessB a b = true)
/-- Normalised. -/
structure NormOf (xs ys : List (Int × Int)) : Prop where
  srt : Srt ys
  mem : ∀ e, e ∈ ys ↔ e ∈ xs
theorem srt_unique : ∀ {l m : List (Int × Int)}, Srt l → Srt m → (∀ e, e ∈ l ↔ e ∈ m) → l = m
  | [], [], _, _, _ => rfl
  | [], b :: m, _, _, h => by have := (h b).2 List.mem_cons_self; cases this
  | a :: l, [], _, _, h => by have := (h a).1 List.mem_cons_self; cases this
  | a :: l, b :: m, hl, hm, h => by
    obtain ⟨hl1, hl2⟩ := List.pairwise_cons.1 hl
    obtain ⟨hm1, hm2⟩ := List.pairwise_cons.1 hm
    have hab : a = b := by
      rcases List.mem_cons.1 ((h a).1 List.mem_cons_self) with e | e
      · exact e
      · rcases List.mem_cons.1 ((h b).2 List.mem_cons_self) with e2 | e2
        · exact e2.symm
        · have h1 := hm1 a e
          have h2 := hl1 b e2
          rw [less_asym h1] at h2
          cases h2
    subst hab
    congr 1
    refine srt_unique hl2 hm2 fun e => ⟨fun he => ?_, fun he => ?_⟩
    · rcases List.mem_cons.1 ((h e).1 (List.mem_cons_of_mem _ he)) with rfl | h'
      · have := hl1 e he; rw [less_irr] at this; cases this
      · exact h'
    · rcases List.mem_cons.1 ((h e).2 (List.mem_cons_of_mem _ he)) with rfl | h'
      · have := hm1 e he; rw [less_irr] at this; cases this
      · exact h'
theorem NormOf.unique {xs ys zs : List (Int × Int)} (h1 : NormOf xs ys) (h2 : NormOf xs zs) : ys = zs := srt_unique h1.srt h2.srt fun e => (h1.mem e).trans (h2.mem e).symm
/-- An edge, put into its place. -/
theorem srt_put {l : List (Int × Int)} {e : Int × Int} {k : Nat} (h : Srt l) (h1 : ∀ a ∈ l.take k, lessB a e = true) (h2 : ∀ b ∈ l.drop k, lessB e b = true) : Srt (l.take k ++ e :: l.drop k) := by
  have hs : Srt (l.take k ++ l.drop k) := by rw [List.take_append_drop]; exact h
  unfold Srt at *
  rw [List.pairwise_append] at hs ⊢
  refine ⟨hs.1, List.pairwise_cons.2 ⟨h2, hs.2.1⟩, fun a ha b hb => ?_⟩
  rcases List.mem_cons.1 hb with rfl | hb
  · exact h1 a ha
  · exact hs.2.2 a ha b hb
/-- Behind the first edge that stands not ahead of e all others don't. -/
theorem srt_drop {l : List (Int × Int)} {e : Int × Int} {k : Nat} (h : Srt l) (hk : (hk : k < l.length) → lessB e l[k] = true) : ∀ b ∈ l.drop k, lessB e b = true := by
  intro b hb
  rcases Nat.lt_or_ge k l.length with hlt | hge
  · have hs : Srt (l.drop k) := List.Pairwise.drop h
    rw [List.drop_eq_getElem_cons hlt] at hb hs
    rcases List.mem_cons.1 hb with rfl | hb
    · exact hk hlt
    · exact less_trans (hk hlt) ((List.pairwise_cons.1 hs).1 b hb)
  · rw [List.drop_of_length_le hge] at hb; cases hb
theorem mem_put {l : List (Int × Int)} {e a : Int × Int} {k : Nat} : a ∈ l.take k ++ e :: l.drop k ↔ a = e ∨ a ∈ l := by
  rw [List.mem_append, List.mem_cons]
  conv => rhs; rw [← List.take_append_drop k l, List.mem_append]
  constructor
  · rintro (h | h | h)
    · exact .inr (.inl h)
    · exact .inl h
    · exact .inr (.inr h)
  · rintro (h | h | h)
    · exact .inr (.inl h)
    · exact .inl h
    · exact .inr (.inr h)
end Go.Proofs.YtinjecaanjeapaaDoor.Edg
