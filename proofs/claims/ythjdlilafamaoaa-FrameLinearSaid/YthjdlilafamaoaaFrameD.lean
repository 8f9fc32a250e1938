/- Contracts of layer 3 (frame): frames one behind the other: Next at a frame and at a part of one, All. -/
import Derived.Test.YthjdlilafamaoaaFrameC
import Derived.Deep.AppendLies
import Derived.Maps.AppendAt
import Derived.Lib.SmallJoins
namespace Go.Proofs.Ythjdlilafamaoaa.Frame
open Go.RowKit Go.Lib

theorem v2 (x : Nat) (h : x < 65536) : Oct.vB (Oct.fixedB 2 x) = x := by rw [Oct.vB_fixedB]; omega
theorem v4 (x : Nat) (h : x < 4294967296) : Oct.vB (Oct.fixedB 4 x) = x := by rw [Oct.vB_fixedB]; omega
theorem extract_data (s : ByteArray) (a b : Nat) : (s.extract a b).data.toList = (s.data.toList.drop a).take (b - a) := by
  simp [ByteArray.data_extract, Array.toList_extract, List.extract_eq_take_drop]
theorem take_frame (t r : List UInt8) : (frameB t ++ r).take 4 = Oct.fixedB 4 (crc (Oct.fixedB 2 t.length ++ t)) := by
  unfold frameB
  rw [List.append_assoc, List.take_append_of_le_length (by simp [Oct.fixedB_len]), List.take_of_length_le (by simp [Oct.fixedB_len])]
theorem drop_frame (t r : List UInt8) : (frameB t ++ r).drop 4 = Oct.fixedB 2 t.length ++ (t ++ r) := by
  unfold frameB
  rw [List.append_assoc, List.drop_append_of_le_length (by simp [Oct.fixedB_len]), List.drop_of_length_le (by simp [Oct.fixedB_len])]
  simp
theorem nxX_frame (t r : List UInt8) : nxX (frameB t ++ r) = crc (Oct.fixedB 2 t.length ++ t) := by
  unfold nxX; rw [take_frame, v4 _ (crc_lt _)]
theorem nxN_frame (t r : List UInt8) (h : t.length ≤ 60000) : nxN (frameB t ++ r) = t.length := by
  unfold nxN
  rw [drop_frame, List.take_append_of_le_length (by simp [Oct.fixedB_len]), List.take_of_length_le (by simp [Oct.fixedB_len]), v2 _ (by omega)]
theorem ext_sum (s : ByteArray) (q : Nat) (t r : List UInt8) (h : s.data.toList.drop q = frameB t ++ r) : (s.extract (q + 4) (q + 6 + t.length)).data.toList = Oct.fixedB 2 t.length ++ t := by
  rw [extract_data, ← List.drop_drop, h, drop_frame, ← List.append_assoc, List.take_append_of_le_length (by simp [Oct.fixedB_len]; omega), List.take_of_length_le (by simp [Oct.fixedB_len]; omega)]
theorem ext_text (s : ByteArray) (q : Nat) (t r : List UInt8) (h : s.data.toList.drop q = frameB t ++ r) : (s.extract (q + 6) (q + 6 + t.length)).data.toList = t := by
  rw [extract_data, show q + 6 = q + 4 + 2 by omega, ← List.drop_drop, ← List.drop_drop, h, drop_frame, List.drop_append_of_le_length (by simp [Oct.fixedB_len]), List.drop_of_length_le (by simp [Oct.fixedB_len])]
  simp

/-- At a place at which a text's frame stands Next tells the text. -/
theorem next_here (s t : ByteArray) (q : Nat) (r : List UInt8) (w : World) (hs : s.size ≤ 281474976710656) (ht : t.size ≤ 60000) (h : s.data.toList.drop q = frameB t.data.toList ++ r) :
    Calls Try.prog 11 #[.string s, .int .i64 (q : Int)] w fun e w' => e = .returned (.tuple #[.string t, .int .i64 ((q + 6 + t.size : Nat) : Int), .nilIface]) ∧ Below w.heap.size w w' := by
  have hl : q + 6 + t.size ≤ s.size := by
    have := congrArg List.length h
    rw [List.length_append, frameB_len, List.length_drop] at this
    have e1 : s.data.toList.length = s.size := rfl
    have e2 : t.data.toList.length = t.size := rfl
    omega
  have e := next_ok s q t.size (crc (Oct.fixedB 2 t.size ++ t.data.toList)) w hs hl (by rw [h, nxX_frame]; rfl) (by rw [h, nxN_frame _ _ ht]; rfl) ht (by have := ext_sum s q t.data.toList r h; exact (congrArg crc this).symm)
  refine e.mono fun e w' ⟨he, hb⟩ => ⟨?_, hb⟩
  rw [he, show s.extract (q + 6) (q + 6 + t.size) = t from ba_eq (ext_text s q t.data.toList r h)]
  simp

theorem take_take_app {l r : List UInt8} {m n : Nat} (h : n ≤ m) : (l.take m).take n = l.take n := by rw [List.take_take, Nat.min_eq_left h]
/-- At a place at which a part of a frame stands it tells that there are too few bytes. -/
theorem next_part (s : ByteArray) (t : List UInt8) (q m : Nat) (w : World) (hs : s.size ≤ maxLen) (hq : q ≤ s.size) (ht : t.length ≤ 60000) (hm : m < t.length + 6) (h : s.data.toList.drop q = (frameB t).take m) :
    Calls Try.prog 11 #[.string s, .int .i64 (q : Int)] w fun e w' => e = .returned (.tuple #[.string ⟨#[]⟩, .int .i64 (q : Int), Oct.faultV q 3]) ∧ w = w' := by
  have hl : s.size = q + m := by
    have := congrArg List.length h
    rw [List.length_take, frameB_len, List.length_drop] at this
    have e1 : s.data.toList.length = s.size := rfl
    omega
  by_cases h6 : m < 6
  · exact next_few s q w hs hq (by omega)
  · have hn : nxN (s.data.toList.drop q) = t.length := by
      have e := nxN_frame t [] ht
      rw [List.append_nil] at e
      rw [← e, h]
      unfold nxN
      rw [List.drop_take, List.take_take, Nat.min_eq_left (by omega)]
    exact next_cut s q t.length (nxX (s.data.toList.drop q)) w hs (by omega) rfl hn.symm ht (by omega)

/-- The frames of texts, one behind the other: the first k. -/
def fc (ss : Nat → ByteArray) : Nat → List UInt8
  | 0 => []
  | k + 1 => fc ss k ++ frameB (ss k).data.toList
theorem fc_len (ss : Nat → ByteArray) (k : Nat) : (fc ss (k + 1)).length = (fc ss k).length + 6 + (ss k).size := by
  rw [fc, List.length_append, frameB_len]; have : (ss k).data.toList.length = (ss k).size := rfl
  omega
theorem fc_le (ss : Nat → ByteArray) (k n : Nat) (h : k ≤ n) : (fc ss k).length ≤ (fc ss n).length := by
  induction n with
  | zero => have : k = 0 := by omega
            subst this; exact Nat.le_refl _
  | succ n ih =>
    by_cases e : k = n + 1
    · subst e; exact Nat.le_refl _
    · have := ih (by omega); rw [fc_len]; omega
theorem fc_split (ss : Nat → ByteArray) (k n : Nat) (h : k < n) : ∃ r, fc ss n = fc ss k ++ (frameB (ss k).data.toList ++ r) := by
  induction n with
  | zero => omega
  | succ n ih =>
    by_cases e : k = n
    · subst e; exact ⟨[], by rw [fc]; simp⟩
    · obtain ⟨r, hr⟩ := ih (by omega)
      exact ⟨r ++ frameB (ss n).data.toList, by rw [fc, hr]; simp⟩

theorem ownsRow_below {w w' : World} {base B : Nat} {e : TypeId} {size : Nat} {v : Value} {n : Nat} {xs : List Value} (h : w.ownsRow base e size v n xs) (hb : Below B w w') (hB : w.heap.size ≤ B) : w'.ownsRow base e size v n xs := by
  refine ⟨h.1, ?_⟩
  rcases h.2 with hn | ⟨g, cap, cur, rfl, hb0, hgg, rest⟩
  · exact .inl hn
  · refine .inr ⟨g, cap, cur, rfl, hb0, ?_, rest⟩
    rw [hb.block g (Nat.lt_of_lt_of_le (Array.getElem?_eq_some_iff.1 hgg).1 hB)]
    exact hgg
theorem own_sarg {w : World} {base : Nat} {e : TypeId} {v : Value} {n : Nat} {f : Nat → Value} (h : w.ownsRow base e 1 v n ((List.range n).map f)) : ∃ A c, v = .slice A n c ∧ Oct.SArg w A n f := by
  rcases Go.Joins.ownsRow_forms h with ⟨rfl, rfl⟩ | ⟨g, cap, rfl⟩
  · exact ⟨none, 0, rfl, fun k hk => by omega⟩
  · refine ⟨some ⟨g, 0, none⟩, cap, rfl, fun k hk => ⟨g, 0, rfl, (h.lt g rfl).2, ?_⟩⟩
    have := h.cells (g := g) rfl k (f k) (by simp [hk])
    rw [Oct.add_zero0] at this
    simpa using this
theorem infoString : (Try.prog.info? 9).map (fun i => (i.zero, i.size, i.bytes)) = some (some (.string ⟨#[]⟩), 1, 16) := by kernel_rfl

/-- What All answers. -/
def AllRet (ss : Nat → ByteArray) (K : Nat) (w : World) (e : Ending) (w' : World) : Prop := ∃ A c, e = .returned (.tuple #[.slice A K c, .int .i64 ((fc ss K).length : Int)]) ∧ Oct.SArg w' A K (fun k => .string (ss k)) ∧ Below w.heap.size w w'

set_option maxRecDepth 100000 in
set_option maxHeartbeats 1000000 in
theorem all_any (s : ByteArray) (ss : Nat → ByteArray) (K m : Nat) (t : List UInt8) (w : World) (hs : s.size ≤ 1099511627776) (h : s.data.toList = fc ss K ++ (frameB t).take m) (hK : ∀ k, k < K → (ss k).size ≤ 60000) (ht : t.length ≤ 60000) (hm : m < t.length + 6) :
    Calls Try.prog 7 #[.string s] w (AllRet ss K w) := by
  obtain ⟨i0, hi, hz0, hz1, hz2⟩ := info_parts infoString
  have HH := Lib.hid h
  have HK := Lib.hid hK
  have HT := Lib.hid ht
  have HM := Lib.hid hm
  have HFL : Hid (∀ k, k ≤ K → (fc ss k).length ≤ s.size) := Lib.hid fun k hk => by
    have := congrArg List.length h
    rw [List.length_append] at this
    have e1 : s.data.toList.length = s.size := rfl
    have := fc_le ss k K hk
    omega
  have HKS : Hid (K ≤ s.size) := Lib.hid (by
    have h1 : ∀ k, k ≤ (fc ss k).length := by
      intro k
      induction k with
      | zero => exact Nat.zero_le _
      | succ k ih => rw [fc_len]; omega
    exact Nat.le_trans (h1 K) (HFL.out K (Nat.le_refl _)))
  clear h hK ht hm
  go_enter Try.func7, Try.ntmps7
  go_wp2
  go_loopw [4, 5] (fun v p wr => ∃ k P : Nat, k ≤ K ∧ Hid (P = (fc ss k).length) ∧ p = .int .i64 P ∧ P ≤ s.size ∧ Hid (wr.ownsRow w.heap.size 9 1 v k ((List.range k).map fun j => .string (ss j))) ∧ Hid (Below w.heap.size w wr)) (fun _ p _ => s.size + 1 - (RowKit.intOf p).toNat)
  case atStart => exact ⟨0, 0, by omega, Lib.hid rfl, rfl, by omega, Lib.hid (World.ownsRow_nil _ _ _ _), Lib.hid (Below.refl _ _)⟩
  case round =>
    obtain ⟨k, P, hk, HP, rfl, hPs, HO, HB⟩ := hrel
    by_cases hlt : k < K
    · have HD : Hid (∃ r, s.data.toList.drop P = frameB (ss k).data.toList ++ r) := Lib.hid (by
        obtain ⟨r, hr⟩ := fc_split ss k K hlt
        exact ⟨r ++ (frameB t).take m, by rw [HH.out, hr, HP.out]; simp⟩)
      obtain ⟨r, hr⟩ := HD.out
      have HD2 := Lib.hid hr
      clear hr HD
      have hn1 : P + 6 + (ss k).size ≤ s.size := by have := HFL.out (k + 1) (by omega); rw [fc_len, ← HP.out] at this; exact this
      go_wp2_with (go_at_call 11; refine (next_here s (ss k) P r _ (by omega) (HK.out k hlt) HD2.out).mono ?_; rintro e w1 ⟨rfl, hb1⟩; refine Hid.out ?_)
      refine Lib.hid ?_
      have HO1 := Lib.hid (ownsRow_below HO.out hb1 (Nat.le_refl _))
      have HB1 := Lib.hid (HB.out.trans (hb1.mono HB.out.size))
      have hs1 := HB1.out.size
      clear hb1
      go_wp2_with (at_builtin; refine wpList_append_own _ rfl _ _ 22 rfl w.heap.size 9 i0 (.string ⟨#[]⟩) 1 16 Try.underlying22 hi hz0 hz1 hz2 rfl (by decide) _ _ _ rfl (HO1.out.alloc _) ⟨w1.heap.size, 0, none⟩ 1 1 [Value.string (ss k)] rfl rfl ?c1 ?c2 ?c3 ?c4 ?c5 ?_)
      case c1 => exact cell_one_new _ _ _
      case c2 => intro u hu; simp at hu; subst hu; rfl
      case c3 => have := HKS.out; unfold maxLen; omega
      case c4 => have := HKS.out; omega
      case c5 => simp; omega
      intro v' w2 hown' hgrow _
      have HB2 := Lib.hid ((HB1.out.alloc hs1 _).grown hgrow (by simp; omega) (fun k hk => (HO1.out.lt k hk).1))
      have HO2 : Hid (w2.ownsRow w.heap.size 9 1 v' (k + 1) ((List.range (k + 1)).map fun j => .string (ss j))) := Lib.hid (by
        rw [List.range_succ, List.map_append]; exact hown')
      clear hown' hgrow
      go_wp2
      go_roundw
      case rel => exact ⟨k + 1, P + 6 + (ss k).size, by omega, Lib.hid (by rw [fc_len, HP.out]), rfl, hn1, HO2, HB2⟩
      case measure => simp [RowKit.intOf]; omega
    · have HE := Lib.hid (show k = K by omega)
      have HD : Hid (s.data.toList.drop P = (frameB t).take m) := Lib.hid (by rw [HH.out, HP.out, HE.out]; simp)
      go_wp2_with (go_at_call 11; refine (next_part s t P m _ (by unfold maxLen; omega) hPs HT.out HM.out HD.out).mono ?_; rintro e w1 ⟨rfl, rfl⟩; unfold Oct.faultV; refine Hid.out ?_)
      refine Lib.hid ?_
      obtain ⟨A, c, rfl, hA⟩ := own_sarg HO.out
      have HA := Lib.hid hA
      clear hA
      go_wp2
      go_ret2
      exact ⟨A, c, by rw [HP.out, HE.out]; rfl, by have := HA.out; rw [HE.out] at this; exact this, HB.out⟩
end Go.Proofs.Ythjdlilafamaoaa.Frame
