/- Contracts of layer 3 (frame): Open of bytes that are no frame; a frame of which a byte is turned is none. -/
import Derived.Test.YthjdlilafamaoaaDoorFrameE
namespace Go.Proofs.YthjdlilafamaoaaDoor.Frame
open Go.RowKit Go.Lib

/-- What Open answers of what is no frame. -/
def OpenErr (w : World) (e : Ending) (w' : World) : Prop := ∃ p c, e = .returned (.tuple #[.string ⟨#[]⟩, Oct.faultV p c]) ∧ Below w.heap.size w w'

set_option maxRecDepth 100000 in
set_option maxHeartbeats 1000000 in
theorem open_of_err (s : ByteArray) (c : Int) (w : World)
    (h : ∀ w, Calls Tryd.prog 7 #[.string s, .int .i64 0] w fun e w' => e = .returned (.tuple #[.string ⟨#[]⟩, .int .i64 0, Oct.faultV 0 c]) ∧ Below w.heap.size w w') :
    Calls Tryd.prog 8 #[.string s] w fun e w' => e = .returned (.tuple #[.string ⟨#[]⟩, Oct.faultV 0 c]) ∧ Below w.heap.size w w' := by
  have HH := Lib.hid h
  clear h
  go_enter Tryd.func8, Tryd.ntmps8
  go_wp2_with (go_at_call 7; refine (HH.out _).mono ?_; rintro e w1 ⟨rfl, hb1⟩; unfold Oct.faultV; refine Hid.out ?_)
  refine Lib.hid ?_
  go_wp2
  go_ret2
  exact ⟨rfl, hb1⟩

set_option maxRecDepth 100000 in
set_option maxHeartbeats 1000000 in
theorem open_more (s t : ByteArray) (n : Nat) (w : World) (hz : s.size ≤ maxLen) (hn : 6 + n < s.size)
    (h : ∀ w, Calls Tryd.prog 7 #[.string s, .int .i64 0] w fun e w' => e = .returned (.tuple #[.string t, .int .i64 ((6 + n : Nat) : Int), .nilIface]) ∧ Below w.heap.size w w') :
    Calls Tryd.prog 8 #[.string s] w fun e w' => e = .returned (.tuple #[.string ⟨#[]⟩, Oct.faultV ((6 + n : Nat) : Int) 4]) ∧ Below w.heap.size w w' := by
  unfold maxLen at hz
  have HH := Lib.hid h
  clear h
  obtain ⟨E, hE⟩ : ∃ E, 6 + n = E := ⟨_, rfl⟩
  rw [hE] at HH hn ⊢
  clear hE
  go_enter Tryd.func8, Tryd.ntmps8
  go_wp2_with (go_at_call 7; refine (HH.out _).mono ?_; rintro e w1 ⟨rfl, hb1⟩; refine Hid.out ?_)
  refine Lib.hid ?_
  go_wp2_with (go_at_call 15; refine (fault_any _ _ _).mono ?_; rintro e w2 ⟨rfl, rfl⟩)
  go_ret2
  exact ⟨rfl, hb1⟩

theorem nxN_lt (l : List UInt8) : nxN l ≤ 65535 := by
  unfold nxN
  have h1 := Oct.vB_lt ((l.drop 4).take 2)
  have h2 : 256 ^ ((l.drop 4).take 2).length ≤ 256 ^ 2 := Nat.pow_le_pow_right (by omega) (by simp; omega)
  have h3 : 256 ^ 2 = 65536 := by decide
  omega
/-- Bytes that are no whole frame are refused. -/
theorem open_bad (s : ByteArray) (w : World) (hs : s.size ≤ 1099511627776)
    (hb : ¬ (s.size = 6 + nxN s.data.toList ∧ nxN s.data.toList ≤ 60000 ∧ nxX s.data.toList = crc (s.data.toList.drop 4))) :
    Calls Tryd.prog 8 #[.string s] w (OpenErr w) := by
  have hm : s.size ≤ maxLen := by unfold maxLen; omega
  have hN := nxN_lt s.data.toList
  have wk : ∀ c, (∀ w, Calls Tryd.prog 7 #[.string s, .int .i64 0] w fun e w' => e = .returned (.tuple #[.string ⟨#[]⟩, .int .i64 0, Oct.faultV 0 c]) ∧ Below w.heap.size w w') → Calls Tryd.prog 8 #[.string s] w (OpenErr w) :=
    fun c h => (open_of_err s c w h).mono fun e w' ⟨he, hb⟩ => ⟨0, c, he, hb⟩
  have d0 : s.data.toList.drop 0 = s.data.toList := List.drop_zero
  by_cases h6 : s.size < 6
  · exact wk 3 fun w => (next_few s 0 w hm (by omega) (by omega)).mono fun e w' ⟨he, hw⟩ => ⟨he, by rw [← hw]; exact Below.refl _ _⟩
  · by_cases hl : 60000 < nxN s.data.toList
    · exact wk 6 fun w => (next_long s 0 _ _ w hm (by omega) rfl rfl (by rw [d0]; exact hl) (by rw [d0]; exact hN)).mono fun e w' ⟨he, hw⟩ => ⟨he, by rw [← hw]; exact Below.refl _ _⟩
    · by_cases hc : s.size < 6 + nxN s.data.toList
      · exact wk 3 fun w => (next_cut s 0 _ _ w hm (by omega) rfl rfl (by rw [d0]; omega) (by rw [d0]; omega)).mono fun e w' ⟨he, hw⟩ => ⟨he, by rw [← hw]; exact Below.refl _ _⟩
      · by_cases hS : nxX s.data.toList = crc (s.extract (0 + 4) (0 + 6 + nxN s.data.toList)).data.toList
        · by_cases hz : s.size = 6 + nxN s.data.toList
          · refine absurd ⟨hz, by omega, ?_⟩ hb
            rw [hS, extract_data]
            congr 1
            rw [Nat.zero_add, List.take_of_length_le]
            rw [List.length_drop]
            have e1 : s.data.toList.length = s.size := rfl
            omega
          · refine (open_more s (s.extract (0 + 6) (0 + 6 + nxN s.data.toList)) (nxN s.data.toList) w hm (by omega) fun w => (next_ok s 0 (nxN s.data.toList) (nxX s.data.toList) w (by omega) (by omega) rfl rfl (by omega) hS).mono fun e w' ⟨he, hw⟩ => ⟨?_, hw⟩).mono fun e w' ⟨he, hb⟩ => ⟨_, _, he, hb⟩
            rw [he]
            simp
        · exact wk 5 fun w => (next_sum s 0 (nxN s.data.toList) (nxX s.data.toList) _ w (by omega) (by omega) rfl rfl (by omega) rfl (fun e => hS e.symm)).mono fun e w' ⟨he, hw⟩ => ⟨he, hw⟩

theorem vB_inj : ∀ (l m : List UInt8), l.length = m.length → Oct.vB l = Oct.vB m → l = m := by
  intro l
  induction l with
  | nil => intro m h _; cases m with
    | nil => rfl
    | cons c m => simp at h
  | cons b l ih =>
    intro m h e
    cases m with
    | nil => simp at h
    | cons c m =>
      rw [Oct.vB, Oct.vB] at e
      have := b.toNat_lt
      have := c.toNat_lt
      have e1 : b.toNat = c.toNat := by omega
      have e2 : Oct.vB l = Oct.vB m := by omega
      rw [UInt8.toNat_inj.1 e1, ih m (by simpa using h) e2]
theorem crc_set (D : List UInt8) (k : Nat) (b : UInt8) (hk : k < D.length) (h : crc D = crc (D.set k b)) : D[k] = b := by
  have s1 : D = D.take k ++ D[k] :: D.drop (k + 1) := by
    conv => lhs; rw [← List.take_append_drop k D, List.drop_eq_getElem_cons hk]
  have s2 : D.set k b = D.take k ++ b :: D.drop (k + 1) := (List.set_eq_take_append_cons_drop ..).trans (by rw [if_pos hk])
  rw [s2] at h
  exact crc_turned (D.take k) (D.drop (k + 1)) D[k] b (by rw [← s1]; exact h)
/-- A frame in which one byte is turned is none. -/
theorem turned_bad (t : List UInt8) (k : Nat) (b : UInt8) (ht : t.length ≤ 60000) (hk : k < (frameB t).length) (hb : b ≠ (frameB t)[k]) :
    ¬ (((frameB t).set k b).length = 6 + nxN ((frameB t).set k b) ∧ nxN ((frameB t).set k b) ≤ 60000 ∧ nxX ((frameB t).set k b) = crc (((frameB t).set k b).drop 4)) := by
  rintro ⟨-, -, h⟩
  have e0 : nxX (frameB t) = crc ((frameB t).drop 4) := by
    have h1 := nxX_frame t []
    have h2 := drop_frame t []
    rw [List.append_nil] at h1 h2
    rw [h1, h2, List.append_nil]
  by_cases h4 : k < 4
  · rw [List.drop_set, if_pos h4, ← e0] at h
    unfold nxX at h
    have := vB_inj _ _ (by simp) h
    have := congrArg (fun l => l[k]?) this
    simp [List.getElem?_take, h4, List.getElem?_eq_getElem hk, List.getElem?_set] at this
    exact hb (by simpa [hk] using this)
  · have e1 : ((frameB t).set k b).take 4 = (frameB t).take 4 := by
      rw [List.take_set, List.set_eq_of_length_le (by simp; omega)]
    have hx : nxX ((frameB t).set k b) = nxX (frameB t) := by unfold nxX; rw [e1]
    rw [hx, e0, List.drop_set, if_neg h4] at h
    have hk4 : k - 4 < ((frameB t).drop 4).length := by rw [List.length_drop]; omega
    have h3 := crc_set _ _ _ hk4 h
    refine hb ?_
    rw [← h3]
    simp [show 4 + (k - 4) = k by omega]
end Go.Proofs.YthjdlilafamaoaaDoor.Frame
