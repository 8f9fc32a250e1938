/- Contracts of layer 3 (frame): frames one behind the other: Next at a frame and at a part of one, All. -/
import Derived.Test.YthjdlilafamaoaaDoorFrameC
import Derived.Deep.AppendLies
import Derived.Maps.AppendAt
import Derived.Lib.SmallJoins
namespace Go.Proofs.YthjdlilafamaoaaDoor.Frame
open Go.RowKit Go.Lib

theorem v2 (x : Nat) (h : x < 65536) : Oct.vB (Oct.fixedB 2 x) = x := by rw [Oct.vB_fixedB]; omega
theorem v4 (x : Nat) (h : x < 4294967296) : Oct.vB (Oct.fixedB 4 x) = x := by rw [Oct.vB_fixedB]; omega
theorem extract_data (s : ByteArray) (a b : Nat) : (s.extract a b).data.toList = (s.data.toList.drop a).take (b - a) := by
  simp [ByteArray.data_extract, Array.toList_extract, List.extract_eq_take_drop]
theorem take_frame (t r : List UInt8) : (frameB t ++ r).take 4 = Oct.fixedB 4 (crc (Oct.fixedB 2 t.length ++ t)) := by
  unfold frameB
  rw [List.append_assoc, List.take_append_of_le_length (by simp [Oct.fixedB_len]), List.take_of_length_le (by simp [Oct.fixedB_len])]
theorem drop_frame (t r : List UInt8) : (frameB t ++ r).drop 4 = Oct.fixedB 2 t.length ++ (t ++ r) := by
  unfold frameB
  rw [List.append_assoc, List.drop_append_of_le_length (by simp [Oct.fixedB_len]), List.drop_of_length_le (by simp [Oct.fixedB_len])]
  simp
theorem nxX_frame (t r : List UInt8) : nxX (frameB t ++ r) = crc (Oct.fixedB 2 t.length ++ t) := by
  unfold nxX; rw [take_frame, v4 _ (crc_lt _)]
theorem nxN_frame (t r : List UInt8) (h : t.length ≤ 60000) : nxN (frameB t ++ r) = t.length := by
  unfold nxN
  rw [drop_frame, List.take_append_of_le_length (by simp [Oct.fixedB_len]), List.take_of_length_le (by simp [Oct.fixedB_len]), v2 _ (by omega)]
theorem ext_sum (s : ByteArray) (q : Nat) (t r : List UInt8) (h : s.data.toList.drop q = frameB t ++ r) : (s.extract (q + 4) (q + 6 + t.length)).data.toList = Oct.fixedB 2 t.length ++ t := by
  rw [extract_data, ← List.drop_drop, h, drop_frame, ← List.append_assoc, List.take_append_of_le_length (by simp [Oct.fixedB_len]; omega), List.take_of_length_le (by simp [Oct.fixedB_len]; omega)]
theorem ext_text (s : ByteArray) (q : Nat) (t r : List UInt8) (h : s.data.toList.drop q = frameB t ++ r) : (s.extract (q + 6) (q + 6 + t.length)).data.toList = t := by
  rw [extract_data, show q + 6 = q + 4 + 2 by omega, ← List.drop_drop, ← List.drop_drop, h, drop_frame, List.drop_append_of_le_length (by simp [Oct.fixedB_len]), List.drop_of_length_le (by simp [Oct.fixedB_len])]
  simp

/-- At a place at which a text's frame stands Next tells the text. -/
theorem next_here (s t : ByteArray) (q : Nat) (r : List UInt8) (w : World) (hs : s.size ≤ 281474976710656) (ht : t.size ≤ 60000) (h : s.data.toList.drop q = frameB t.data.toList ++ r) :
    Calls Tryd.prog 7 #[.string s, .int .i64 (q : Int)] w fun e w' => e = .returned (.tuple #[.string t, .int .i64 ((q + 6 + t.size : Nat) : Int), .nilIface]) ∧ Below w.heap.size w w' := by
  have hl : q + 6 + t.size ≤ s.size := by
    have := congrArg List.length h
    rw [List.length_append, frameB_len, List.length_drop] at this
    have e1 : s.data.toList.length = s.size := rfl
    have e2 : t.data.toList.length = t.size := rfl
    omega
  have e := next_ok s q t.size (crc (Oct.fixedB 2 t.size ++ t.data.toList)) w hs hl (by rw [h, nxX_frame]; rfl) (by rw [h, nxN_frame _ _ ht]; rfl) ht (by have := ext_sum s q t.data.toList r h; exact (congrArg crc this).symm)
  refine e.mono fun e w' ⟨he, hb⟩ => ⟨?_, hb⟩
  rw [he, show s.extract (q + 6) (q + 6 + t.size) = t from ba_eq (ext_text s q t.data.toList r h)]
  simp

theorem take_take_app {l r : List UInt8} {m n : Nat} (h : n ≤ m) : (l.take m).take n = l.take n := by rw [List.take_take, Nat.min_eq_left h]
/-- At a place at which a part of a frame stands it tells that there are too few bytes. -/
theorem next_part (s : ByteArray) (t : List UInt8) (q m : Nat) (w : World) (hs : s.size ≤ maxLen) (hq : q ≤ s.size) (ht : t.length ≤ 60000) (hm : m < t.length + 6) (h : s.data.toList.drop q = (frameB t).take m) :
    Calls Tryd.prog 7 #[.string s, .int .i64 (q : Int)] w fun e w' => e = .returned (.tuple #[.string ⟨#[]⟩, .int .i64 (q : Int), Oct.faultV q 3]) ∧ w = w' := by
  have hl : s.size = q + m := by
    have := congrArg List.length h
    rw [List.length_take, frameB_len, List.length_drop] at this
    have e1 : s.data.toList.length = s.size := rfl
    omega
  by_cases h6 : m < 6
  · exact next_few s q w hs hq (by omega)
  · have hn : nxN (s.data.toList.drop q) = t.length := by
      have e := nxN_frame t [] ht
      rw [List.append_nil] at e
      rw [← e, h]
      unfold nxN
      rw [List.drop_take, List.take_take, Nat.min_eq_left (by omega)]
    exact next_cut s q t.length (nxX (s.data.toList.drop q)) w hs (by omega) rfl hn.symm ht (by omega)

/-- The frames of texts, one behind the other: the first k. -/
def fc (ss : Nat → ByteArray) : Nat → List UInt8
  | 0 => []
  | k + 1 => fc ss k ++ frameB (ss k).data.toList
theorem fc_len (ss : Nat → ByteArray) (k : Nat) : (fc ss (k + 1)).length = (fc ss k).length + 6 + (ss k).size := by
  rw [fc, List.length_append, frameB_len]; have : (ss k).data.toList.length = (ss k).size := rfl
  omega
theorem fc_le (ss : Nat → ByteArray) (k n : Nat) (h : k ≤ n) : (fc ss k).length ≤ (fc ss n).length := by
  induction n with
  | zero => have : k = 0 := by omega
            subst this; exact Nat.le_refl _
  | succ n ih =>
    by_cases e : k = n + 1
    · subst e; exact Nat.le_refl _
    · have := ih (by omega); rw [fc_len]; omega
theorem fc_split (ss : Nat → ByteArray) (k n : Nat) (h : k < n) : ∃ r, fc ss n = fc ss k ++ (frameB (ss k).data.toList ++ r) := by
  induction n with
  | zero => omega
  | succ n ih =>
    by_cases e : k = n
    · subst e; exact ⟨[], by rw [fc]; simp⟩
    · obtain ⟨r, hr⟩ := ih (by omega)
      exact ⟨r ++ frameB (ss n).data.toList, by rw [fc, hr]; simp⟩

theorem ownsRow_below {w w' : World} {base B : Nat} {e : TypeId} {size : Nat} {v : Value} {n : Nat} {xs : List Value} (h : w.ownsRow base e size v n xs) (hb : Below B w w') (hB : w.heap.size ≤ B) : w'.ownsRow base e size v n xs := by
  refine ⟨h.1, ?_⟩
  rcases h.2 with hn | ⟨g, cap, cur, rfl, hb0, hgg, rest⟩
  · exact .inl hn
  · refine .inr ⟨g, cap, cur, rfl, hb0, ?_, rest⟩
    rw [hb.block g (Nat.lt_of_lt_of_le (Array.getElem?_eq_some_iff.1 hgg).1 hB)]
    exact hgg
theorem own_sarg {w : World} {base : Nat} {e : TypeId} {v : Value} {n : Nat} {f : Nat → Value} (h : w.ownsRow base e 1 v n ((List.range n).map f)) : ∃ A c, v = .slice A n c ∧ Oct.SArg w A n f := by
  rcases Go.Joins.ownsRow_forms h with ⟨rfl, rfl⟩ | ⟨g, cap, rfl⟩
  · exact ⟨none, 0, rfl, fun k hk => by omega⟩
  · refine ⟨some ⟨g, 0, none⟩, cap, rfl, fun k hk => ⟨g, 0, rfl, (h.lt g rfl).2, ?_⟩⟩
    have := h.cells (g := g) rfl k (f k) (by simp [hk])
    rw [Oct.add_zero0] at this
    simpa using this
theorem infoString : (Tryd.prog.info? 9).map (fun i => (i.zero, i.size, i.bytes)) = some (some (.string ⟨#[]⟩), 1, 16) := by kernel_rfl

/-- What All answers. -/
def AllRet (ss : Nat → ByteArray) (K : Nat) (w : World) (e : Ending) (w' : World) : Prop := ∃ A c, e = .returned (.tuple #[.slice A K c, .int .i64 ((fc ss K).length : Int)]) ∧ Oct.SArg w' A K (fun k => .string (ss k)) ∧ Below w.heap.size w w'

end Go.Proofs.YthjdlilafamaoaaDoor.Frame
