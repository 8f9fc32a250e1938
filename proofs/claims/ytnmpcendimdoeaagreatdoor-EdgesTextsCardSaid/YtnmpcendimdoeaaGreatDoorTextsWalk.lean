/- The law EdgesTexts, walked (written by gen_texts.py). -/
import Derived.Test.YtnmpcendimdoeaaGreatDoorTxtP
import Derived.Test.YtnmpcendimdoeaaGreatDoorTxtT
import Derived.Test.YtnmpcendimdoeaaGreatDoorRef04P
import Derived.Test.YtnmpcendimdoeaaGreatDoorEdgW
import Derived.Test.YtnmpcendimdoeaaGreatDoorErrCode
import Derived.Test.YtnmpcendimdoeaaGreatDoorKnV
namespace Go.Proofs.YtnmpcendimdoeaaGreatDoor.Txt
open Go Go.RowKit Go.Lib Go.Proofs.YtnmpcendimdoeaaGreatDoor.Dig


set_option maxRecDepth 100000 in
set_option maxHeartbeats 2000000 in
theorem small_a (n : Int) (w : World) (h : ¬ -1000000000 < n) :
    Calls Tryz.prog 5 #[.int .i64 n] w fun e w' => e = .returned (.bool false) ∧ w = w' := by
  refine Kn.calls Tryz.func5 rfl Tryz.ntmps5 rfl (.cons (t := 0) rfl .nil) fun fa0 fh0 => ?_
  refine wp_seq_k fun K1 hK1 => ?_
  refine wp_region_lit ?_
  refine Kn.pure fh0 rfl rfl .none (Kn.ex_assign fh0 .const) fun fa1 fh1 => ?_
  clear fh0 fa0
  refine wpList_nil ?_
  refine hK1 _ _ ?_
  clear hK1 K1
  refine wp_seq_k fun K2 hK2 => ?_
  refine wp_region_lit ?_
  refine Kn.pure fh1 rfl rfl .none (Kn.ex_move fh1 (.tmp rfl)) fun fa2 fh2 => ?_
  clear fh1 fa1
  refine Kn.step fh2 rfl rfl .none (Kn.ex_bin fh2 (.tmp rfl) .const) fun Ko hKo => ?_
  go_simp
  try go_bits
  refine hKo _ _ fun fa3 fh3 => ?_
  clear hKo Ko fh2 fa2
  refine Kn.pure fh3 rfl rfl .none (Kn.ex_move fh3 (.tmp rfl)) fun fa4 fh4 => ?_
  clear fh3 fa3
  refine Kn.skip fh4 rfl rfl (.some rfl rfl rfl) fun fa5 fh5 => ?_
  clear fh4 fa4
  refine Kn.skip fh5 rfl rfl (.some rfl rfl rfl) fun fa6 fh6 => ?_
  clear fh5 fa5
  refine Kn.pure fh6 rfl rfl .none (Kn.ex_pick fh6 (.tmp rfl) .const) fun fa7 fh7 => ?_
  clear fh6 fa6
  refine Kn.pure fh7 rfl rfl .none (Kn.ex_assign fh7 (.tmp rfl)) fun fa8 fh8 => ?_
  clear fh7 fa7
  refine wpList_nil ?_
  refine hK2 _ _ ?_
  clear hK2 K2
  replace fh8 := fh8.cut (.cons (t := 2) rfl .nil)
  refine wp_ret ?_
  exact Kn.ret1 fh8 rfl rfl ⟨rfl, rfl⟩

set_option maxRecDepth 100000 in
set_option maxHeartbeats 2000000 in
theorem small_b (n : Int) (w : World) (h : -1000000000 < n) (h2 : ¬ n < 1000000000) :
    Calls Tryz.prog 5 #[.int .i64 n] w fun e w' => e = .returned (.bool false) ∧ w = w' := by
  refine Kn.calls Tryz.func5 rfl Tryz.ntmps5 rfl (.cons (t := 0) rfl .nil) fun fa0 fh0 => ?_
  refine wp_seq_k fun K1 hK1 => ?_
  refine wp_region_lit ?_
  refine Kn.pure fh0 rfl rfl .none (Kn.ex_assign fh0 .const) fun fa1 fh1 => ?_
  clear fh0 fa0
  refine wpList_nil ?_
  refine hK1 _ _ ?_
  clear hK1 K1
  refine wp_seq_k fun K2 hK2 => ?_
  refine wp_region_lit ?_
  refine Kn.pure fh1 rfl rfl .none (Kn.ex_move fh1 (.tmp rfl)) fun fa2 fh2 => ?_
  clear fh1 fa1
  refine Kn.step fh2 rfl rfl .none (Kn.ex_bin fh2 (.tmp rfl) .const) fun Ko hKo => ?_
  go_simp
  try go_bits
  refine hKo _ _ fun fa3 fh3 => ?_
  clear hKo Ko fh2 fa2
  refine Kn.pure fh3 rfl rfl .none (Kn.ex_move fh3 (.tmp rfl)) fun fa4 fh4 => ?_
  clear fh3 fa3
  refine Kn.pure fh4 rfl rfl (.some rfl rfl rfl) (Kn.ex_move fh4 (.tmp rfl)) fun fa5 fh5 => ?_
  clear fh4 fa4
  refine Kn.step fh5 rfl rfl (.some rfl rfl rfl) (Kn.ex_bin fh5 (.tmp rfl) .const) fun Ko hKo => ?_
  go_simp
  try go_bits
  refine hKo _ _ fun fa6 fh6 => ?_
  clear hKo Ko fh5 fa5
  refine Kn.pure fh6 rfl rfl .none (Kn.ex_pick fh6 (.tmp rfl) (.tmp rfl)) fun fa7 fh7 => ?_
  clear fh6 fa6
  refine Kn.pure fh7 rfl rfl .none (Kn.ex_assign fh7 (.tmp rfl)) fun fa8 fh8 => ?_
  clear fh7 fa7
  refine wpList_nil ?_
  refine hK2 _ _ ?_
  clear hK2 K2
  replace fh8 := fh8.cut (.cons (t := 2) rfl .nil)
  refine wp_ret ?_
  exact Kn.ret1 fh8 rfl rfl ⟨rfl, rfl⟩

set_option maxRecDepth 100000 in
set_option maxHeartbeats 2000000 in
theorem small_c (n : Int) (w : World) (h : -1000000000 < n) (h2 : n < 1000000000) :
    Calls Tryz.prog 5 #[.int .i64 n] w fun e w' => e = .returned (.bool true) ∧ w = w' := by
  refine Kn.calls Tryz.func5 rfl Tryz.ntmps5 rfl (.cons (t := 0) rfl .nil) fun fa0 fh0 => ?_
  refine wp_seq_k fun K1 hK1 => ?_
  refine wp_region_lit ?_
  refine Kn.pure fh0 rfl rfl .none (Kn.ex_assign fh0 .const) fun fa1 fh1 => ?_
  clear fh0 fa0
  refine wpList_nil ?_
  refine hK1 _ _ ?_
  clear hK1 K1
  refine wp_seq_k fun K2 hK2 => ?_
  refine wp_region_lit ?_
  refine Kn.pure fh1 rfl rfl .none (Kn.ex_move fh1 (.tmp rfl)) fun fa2 fh2 => ?_
  clear fh1 fa1
  refine Kn.step fh2 rfl rfl .none (Kn.ex_bin fh2 (.tmp rfl) .const) fun Ko hKo => ?_
  go_simp
  try go_bits
  refine hKo _ _ fun fa3 fh3 => ?_
  clear hKo Ko fh2 fa2
  refine Kn.pure fh3 rfl rfl .none (Kn.ex_move fh3 (.tmp rfl)) fun fa4 fh4 => ?_
  clear fh3 fa3
  refine Kn.pure fh4 rfl rfl (.some rfl rfl rfl) (Kn.ex_move fh4 (.tmp rfl)) fun fa5 fh5 => ?_
  clear fh4 fa4
  refine Kn.step fh5 rfl rfl (.some rfl rfl rfl) (Kn.ex_bin fh5 (.tmp rfl) .const) fun Ko hKo => ?_
  go_simp
  try go_bits
  refine hKo _ _ fun fa6 fh6 => ?_
  clear hKo Ko fh5 fa5
  refine Kn.pure fh6 rfl rfl .none (Kn.ex_pick fh6 (.tmp rfl) (.tmp rfl)) fun fa7 fh7 => ?_
  clear fh6 fa6
  refine Kn.pure fh7 rfl rfl .none (Kn.ex_assign fh7 (.tmp rfl)) fun fa8 fh8 => ?_
  clear fh7 fa7
  refine wpList_nil ?_
  refine hK2 _ _ ?_
  clear hK2 K2
  replace fh8 := fh8.cut (.cons (t := 2) rfl .nil)
  refine wp_ret ?_
  exact Kn.ret1 fh8 rfl rfl ⟨rfl, rfl⟩

theorem small_any (n : Int) (w : World) : Calls Tryz.prog 5 #[.int .i64 n] w fun e w' => e = .returned (.bool (smallB n)) ∧ w = w' := by
  unfold smallB
  by_cases h : -1000000000 < n
  · by_cases h2 : n < 1000000000
    · rw [decide_eq_true h, decide_eq_true h2]; exact small_c n w h h2
    · rw [decide_eq_true h, decide_eq_false h2]; exact small_b n w h h2
  · rw [decide_eq_false h]; exact small_a n w h
theorem parse_left {s : ByteArray} {w : World} (hv : Vars w) (hs : s.size ≤ 50000) {j : Nat} (h : parseW (wr s.data.toList) = .inl j) :
    Calls Tryz.prog 7 #[.string s] w fun e w' => e = .returned (.tuple #[.int .i64 0, .slice none 0 0, Edg.faultV (j : Int) 4]) ∧ Below w.heap.size w w' := by
  have := parse_p s w hv hs
  rw [h] at this
  refine this.mono fun e w' hp => ?_
  rcases hp with ⟨hb, ⟨j', hj, he⟩ | ⟨n, es, A, c, hj, _⟩⟩
  · obtain rfl := Sum.inl.inj hj; exact ⟨he, hb⟩
  · cases hj
theorem parse_right {s : ByteArray} {w : World} (hv : Vars w) (hs : s.size ≤ 50000) {n : Int} {es : List (Int × Int)} (h : parseW (wr s.data.toList) = .inr (n, es)) :
    Calls Tryz.prog 7 #[.string s] w fun e w' => ∃ A c, e = .returned (.tuple #[.int .i64 n, .slice A es.length c, .nilIface]) ∧ Edg.EIn w' A es ∧ Below w.heap.size w w' := by
  have := parse_p s w hv hs
  rw [h] at this
  refine this.mono fun e w' hp => ?_
  rcases hp with ⟨hb, ⟨j', hj, he⟩ | ⟨n, es, A, c, hj, he, hE⟩⟩
  · cases hj
  · obtain ⟨rfl, rfl⟩ := Prod.mk.inj (Sum.inr.inj hj); exact ⟨A, c, he, hE, hb⟩
theorem refParse_left {s : ByteArray} {w : World} (hs : s.size ≤ 600) {j : Nat} (h : parseW (wr s.data.toList) = .inl j) :
    Calls Tryz.prog 10 #[.string s] w fun e w' => e = .returned (.tuple #[.int .i64 0, .slice none 0 0, .int .i64 (j : Int)]) ∧ Below w.heap.size w w' := by
  have := refParse_p s w hs
  rw [h] at this
  refine this.mono fun e w' hp => ?_
  rcases hp with ⟨hb, ⟨j', hj, he⟩ | ⟨n, es, A, c, hj, _⟩⟩
  · obtain rfl := Sum.inl.inj hj; exact ⟨he, hb⟩
  · cases hj
theorem refParse_right {s : ByteArray} {w : World} (hs : s.size ≤ 600) {n : Int} {es : List (Int × Int)} (h : parseW (wr s.data.toList) = .inr (n, es)) :
    Calls Tryz.prog 10 #[.string s] w fun e w' => ∃ A c, e = .returned (.tuple #[.int .i64 n, .slice A es.length c, .int .i64 (-1)]) ∧ Edg.EIn w' A es ∧ Below w.heap.size w w' := by
  have := refParse_p s w hs
  rw [h] at this
  refine this.mono fun e w' hp => ?_
  rcases hp with ⟨hb, ⟨j', hj, he⟩ | ⟨n, es, A, c, hj, he, hE⟩⟩
  · cases hj
  · obtain ⟨rfl, rfl⟩ := Prod.mk.inj (Sum.inr.inj hj); exact ⟨A, c, he, hE, hb⟩
theorem es_len (s : List UInt8) (n : Int) (es : List (Int × Int)) (h : parseW (wr s) = .inr (n, es)) : es.length ≤ s.length + 1 := by
  have hg : ∀ (ws : List (List UInt8)) (k : Nat) (l : List (Int × Int)), goW k ws = .inr l → l.length = ws.length := by
    intro ws
    induction ws with
    | nil => intro k l h; rw [goW] at h; obtain rfl := Sum.inr.inj h; rfl
    | cons w ws ih =>
      intro k l h
      cases he : edgeOf w with
      | none => rw [goW_none he] at h; cases h
      | some e =>
        rw [goW_some he] at h
        cases hw : goW (k + 1) ws with
        | inl j => rw [hw] at h; cases h
        | inr m => rw [hw] at h; obtain rfl := Sum.inr.inj h; simp [ih _ _ hw]
  have hl := wds_len s
  rw [wds_wr] at hl
  cases hw : wr s with
  | nil => rw [hw] at h; cases h
  | cons w ws =>
    rw [hw] at h hl
    rw [parseW] at h
    cases hn : numOf w with
    | none => rw [hn] at h; cases h
    | some m =>
      rw [hn] at h
      simp only at h
      cases hgo : goW 1 ws with
      | inl j => rw [hgo] at h; cases h
      | inr l =>
        rw [hgo] at h
        obtain ⟨_, rfl⟩ := Prod.mk.inj (Sum.inr.inj h)
        rw [hg _ _ _ hgo]
        simp only [List.length_cons] at hl
        omega
theorem fine_snoc (n : Int) (xs : List (Int × Int)) (k : Nat) (hk : k < xs.length) : fineB n (xs.take (k + 1)) = (fineB n (xs.take k) && (smallB (Edg.ed xs k).1 && smallB (Edg.ed xs k).2)) := by
  unfold fineB
  rw [Edg.take_ed xs k hk, List.all_append]
  simp [Bool.and_assoc]

set_option maxRecDepth 100000 in
set_option maxHeartbeats 2000000 in
theorem texts_all (n : Int) (A : Option Addr) (ca : Nat) (xs : List (Int × Int)) (s : ByteArray) (w : World) (hT : Err.ErrTab w) (hv : Vars w) (hx : xs.length ≤ maxLen) (hs : s.size ≤ maxLen) (hA : Edg.EIn w A xs) (hBd : ∀ i, i < xs.length → (-9223372036854775808 ≤ (Edg.ed xs i).1 ∧ (Edg.ed xs i).1 ≤ 9223372036854775807) ∧ (-9223372036854775808 ≤ (Edg.ed xs i).2 ∧ (Edg.ed xs i).2 ≤ 9223372036854775807)) :
    Calls Tryz.prog 3 #[.int .i64 n, .slice A xs.length ca, .string s] w fun e w' => e = .returned (.bool true) ∧ Below w.heap.size w w' := by
  unfold maxLen at hx hs
  refine Kn.calls Tryz.func3 rfl Tryz.ntmps3 rfl (.cons (t := 0) rfl (.cons (t := 1) rfl (.cons (t := 2) rfl .nil))) fun fa0 fh0 => ?_
  refine wp_seq_k fun K1 hK1 => ?_
  refine wp_region_lit ?_
  refine Kn.pure fh0 rfl rfl .none (Kn.ex_assign fh0 .const) fun fa1 fh1 => ?_
  clear fh0 fa0
  refine wpList_nil ?_
  refine hK1 _ _ ?_
  clear hK1 K1
  refine wp_seq_k fun K2 hK2 => ?_
  refine wp_seq_k fun K3 hK3 => ?_
  refine wp_region_lit ?_
  refine Kn.call fh1 rfl rfl .none (Kn.ex_call fh1 .nil) Tryz.call4 (Edg.awake_any w) fun e w1 hp => ?_
  obtain ⟨rfl, hb1⟩ := hp
  refine ⟨_, rfl, fun fa2 fh2 => ?_⟩
  clear fh1 fa1
  refine Kn.step fh2 rfl rfl .none (Kn.ex_un fh2 (.tmp rfl)) fun Ko hKo => ?_
  go_simp
  try go_bits
  refine hKo _ _ fun fa3 fh3 => ?_
  clear hKo Ko fh2 fa2
  refine wpList_nil ?_
  refine hK3 _ _ ?_
  clear hK3 K3
  replace fh3 := fh3.cut (.cons (t := 19) rfl (.cons (t := 6) rfl (.cons (t := 0) rfl (.cons (t := 1) rfl (.cons (t := 2) rfl .nil)))))
  refine Kn.no fh3 (.tmp rfl) ?_
  refine wp_skip ?_
  refine hK2 _ _ ?_
  clear hK2 K2
  replace fh3 := fh3.cut (.cons (t := 6) rfl (.cons (t := 0) rfl (.cons (t := 1) rfl (.cons (t := 2) rfl .nil))))
  have HA1 := Lib.hid (hA.on hb1)
  have HT1 := Lib.hid (hT.on hb1)
  have HV1 := Lib.hid (hv.on hb1)
  have HB1 := Lib.hid hb1
  have HBd := Lib.hid hBd
  clear hA hT hv hb1 hBd
  by_cases h1 : (100 : Int) < (xs.length : Int)
  · refine wp_seq_k fun K4 hK4 => ?_
    refine wp_seq_k fun K5 hK5 => ?_
    refine wp_region_lit ?_
    refine Kn.pure fh3 rfl rfl .none (Kn.ex_move fh3 (.tmp rfl)) fun fa4 fh4 => ?_
    clear fh3 fa3
    refine Kn.step fh4 rfl rfl .none (Kn.ex_len fh4 (.tmp rfl)) fun Ko hKo => ?_
    go_simp
    try go_bits
    refine hKo _ _ fun fa5 fh5 => ?_
    clear hKo Ko fh4 fa4
    refine Kn.step fh5 rfl rfl .none (Kn.ex_bin fh5 (.tmp rfl) .const) fun Ko hKo => ?_
    go_simp
    try go_bits
    refine hKo _ _ fun fa6 fh6 => ?_
    clear hKo Ko fh5 fa5
    refine Kn.pure fh6 rfl rfl .none (Kn.ex_move fh6 (.tmp rfl)) fun fa7 fh7 => ?_
    clear fh6 fa6
    refine Kn.skip fh7 rfl rfl (.some rfl rfl rfl) fun fa8 fh8 => ?_
    clear fh7 fa7
    refine Kn.skip fh8 rfl rfl (.some rfl rfl rfl) fun fa9 fh9 => ?_
    clear fh8 fa8
    refine Kn.skip fh9 rfl rfl (.some rfl rfl rfl) fun fa10 fh10 => ?_
    clear fh9 fa9
    refine Kn.pure fh10 rfl rfl .none (Kn.ex_pick fh10 (.tmp rfl) .const) fun fa11 fh11 => ?_
    clear fh10 fa10
    refine wpList_nil ?_
    refine hK5 _ _ ?_
    clear hK5 K5
    replace fh11 := fh11.cut (.cons (t := 27) rfl (.cons (t := 6) rfl (.cons (t := 0) rfl (.cons (t := 1) rfl (.cons (t := 2) rfl .nil)))))
    refine Kn.yes fh11 (.tmp rfl) ?_
    replace fh11 := fh11.cut (.cons (t := 6) rfl (.cons (t := 0) rfl (.cons (t := 1) rfl (.cons (t := 2) rfl .nil))))
    refine wp_seq_k fun K6 hK6 => ?_
    refine wp_region_lit ?_
    refine Kn.pure fh11 rfl rfl .none (Kn.ex_assign fh11 .const) fun fa12 fh12 => ?_
    clear fh11 fa11
    refine wpList_nil ?_
    refine hK6 _ _ ?_
    clear hK6 K6
    refine wp_ret ?_
    refine Kn.then_ret ?_
    exact Kn.ret1 fh12 rfl rfl ⟨rfl, HB1.out⟩
  by_cases h2 : (600 : Int) < (s.size : Int)
  · refine wp_seq_k fun K4 hK4 => ?_
    refine wp_seq_k fun K5 hK5 => ?_
    refine wp_region_lit ?_
    refine Kn.pure fh3 rfl rfl .none (Kn.ex_move fh3 (.tmp rfl)) fun fa4 fh4 => ?_
    clear fh3 fa3
    refine Kn.step fh4 rfl rfl .none (Kn.ex_len fh4 (.tmp rfl)) fun Ko hKo => ?_
    go_simp
    try go_bits
    refine hKo _ _ fun fa5 fh5 => ?_
    clear hKo Ko fh4 fa4
    refine Kn.step fh5 rfl rfl .none (Kn.ex_bin fh5 (.tmp rfl) .const) fun Ko hKo => ?_
    go_simp
    try go_bits
    refine hKo _ _ fun fa6 fh6 => ?_
    clear hKo Ko fh5 fa5
    refine Kn.pure fh6 rfl rfl .none (Kn.ex_move fh6 (.tmp rfl)) fun fa7 fh7 => ?_
    clear fh6 fa6
    refine Kn.pure fh7 rfl rfl (.some rfl rfl rfl) (Kn.ex_move fh7 (.tmp rfl)) fun fa8 fh8 => ?_
    clear fh7 fa7
    refine Kn.step fh8 rfl rfl (.some rfl rfl rfl) (Kn.ex_len fh8 (.tmp rfl)) fun Ko hKo => ?_
    go_simp
    try go_bits
    refine hKo _ _ fun fa9 fh9 => ?_
    clear hKo Ko fh8 fa8
    refine Kn.step fh9 rfl rfl (.some rfl rfl rfl) (Kn.ex_bin fh9 (.tmp rfl) .const) fun Ko hKo => ?_
    go_simp
    try go_bits
    refine hKo _ _ fun fa10 fh10 => ?_
    clear hKo Ko fh9 fa9
    refine Kn.pure fh10 rfl rfl .none (Kn.ex_pick fh10 (.tmp rfl) (.tmp rfl)) fun fa11 fh11 => ?_
    clear fh10 fa10
    refine wpList_nil ?_
    refine hK5 _ _ ?_
    clear hK5 K5
    replace fh11 := fh11.cut (.cons (t := 27) rfl (.cons (t := 6) rfl (.cons (t := 0) rfl (.cons (t := 1) rfl (.cons (t := 2) rfl .nil)))))
    refine Kn.yes fh11 (.tmp rfl) ?_
    replace fh11 := fh11.cut (.cons (t := 6) rfl (.cons (t := 0) rfl (.cons (t := 1) rfl (.cons (t := 2) rfl .nil))))
    refine wp_seq_k fun K6 hK6 => ?_
    refine wp_region_lit ?_
    refine Kn.pure fh11 rfl rfl .none (Kn.ex_assign fh11 .const) fun fa12 fh12 => ?_
    clear fh11 fa11
    refine wpList_nil ?_
    refine hK6 _ _ ?_
    clear hK6 K6
    refine wp_ret ?_
    refine Kn.then_ret ?_
    exact Kn.ret1 fh12 rfl rfl ⟨rfl, HB1.out⟩
  refine wp_seq_k fun K4 hK4 => ?_
  refine wp_seq_k fun K5 hK5 => ?_
  refine wp_region_lit ?_
  refine Kn.pure fh3 rfl rfl .none (Kn.ex_move fh3 (.tmp rfl)) fun fa4 fh4 => ?_
  clear fh3 fa3
  refine Kn.step fh4 rfl rfl .none (Kn.ex_len fh4 (.tmp rfl)) fun Ko hKo => ?_
  go_simp
  try go_bits
  refine hKo _ _ fun fa5 fh5 => ?_
  clear hKo Ko fh4 fa4
  refine Kn.step fh5 rfl rfl .none (Kn.ex_bin fh5 (.tmp rfl) .const) fun Ko hKo => ?_
  go_simp
  try go_bits
  refine hKo _ _ fun fa6 fh6 => ?_
  clear hKo Ko fh5 fa5
  refine Kn.pure fh6 rfl rfl .none (Kn.ex_move fh6 (.tmp rfl)) fun fa7 fh7 => ?_
  clear fh6 fa6
  refine Kn.pure fh7 rfl rfl (.some rfl rfl rfl) (Kn.ex_move fh7 (.tmp rfl)) fun fa8 fh8 => ?_
  clear fh7 fa7
  refine Kn.step fh8 rfl rfl (.some rfl rfl rfl) (Kn.ex_len fh8 (.tmp rfl)) fun Ko hKo => ?_
  go_simp
  try go_bits
  refine hKo _ _ fun fa9 fh9 => ?_
  clear hKo Ko fh8 fa8
  refine Kn.step fh9 rfl rfl (.some rfl rfl rfl) (Kn.ex_bin fh9 (.tmp rfl) .const) fun Ko hKo => ?_
  go_simp
  try go_bits
  refine hKo _ _ fun fa10 fh10 => ?_
  clear hKo Ko fh9 fa9
  refine Kn.pure fh10 rfl rfl .none (Kn.ex_pick fh10 (.tmp rfl) (.tmp rfl)) fun fa11 fh11 => ?_
  clear fh10 fa10
  refine wpList_nil ?_
  refine hK5 _ _ ?_
  clear hK5 K5
  replace fh11 := fh11.cut (.cons (t := 27) rfl (.cons (t := 6) rfl (.cons (t := 0) rfl (.cons (t := 1) rfl (.cons (t := 2) rfl .nil)))))
  refine Kn.no fh11 (.tmp rfl) ?_
  refine wp_skip ?_
  refine hK4 _ _ ?_
  clear hK4 K4
  replace fh11 := fh11.cut (.cons (t := 6) rfl (.cons (t := 0) rfl (.cons (t := 1) rfl (.cons (t := 2) rfl .nil))))
  have hxs : xs.length ≤ 100 := by omega
  have hss : s.size ≤ 600 := by omega
  clear h1 h2 hx hs
  refine wp_seq_k fun K6 hK6 => ?_
  refine wp_region_lit ?_
  refine Kn.pure fh11 rfl rfl .none (Kn.ex_assign fh11 .func) fun fa12 fh12 => ?_
  clear fh11 fa11
  refine wpList_nil ?_
  refine hK6 _ _ ?_
  clear hK6 K6
  refine wp_seq_k fun K7 hK7 => ?_
  refine wp_region_lit ?_
  refine Kn.pure fh12 rfl rfl .none (Kn.ex_move fh12 (.tmp rfl)) fun fa13 fh13 => ?_
  clear fh12 fa12
  refine Kn.pure fh13 rfl rfl .none (Kn.ex_move fh13 (.tmp rfl)) fun fa14 fh14 => ?_
  clear fh13 fa13
  refine Kn.call fh14 rfl rfl .none (Kn.ex_callv fh14 (.tmp rfl) (.cons (.tmp rfl) .nil)) Tryz.call5 (small_any n w1) fun e w2 hp => ?_
  obtain ⟨rfl, rfl⟩ := hp
  refine ⟨_, rfl, fun fa15 fh15 => ?_⟩
  clear fh14 fa14
  refine Kn.pure fh15 rfl rfl .none (Kn.ex_assign fh15 (.tmp rfl)) fun fa16 fh16 => ?_
  clear fh15 fa15
  refine wpList_nil ?_
  refine hK7 _ _ ?_
  clear hK7 K7
  replace fh16 := fh16.cut (.cons (t := 8) rfl (.cons (t := 7) rfl (.cons (t := 6) rfl (.cons (t := 0) rfl (.cons (t := 1) rfl (.cons (t := 2) rfl .nil))))))
  by_cases h1 : n < -1125899906842624
  · refine wp_seq_k fun K8 hK8 => ?_
    refine wp_seq_k fun K9 hK9 => ?_
    refine wp_region_lit ?_
    refine Kn.pure fh16 rfl rfl .none (Kn.ex_move fh16 (.tmp rfl)) fun fa17 fh17 => ?_
    clear fh16 fa16
    refine Kn.step fh17 rfl rfl .none (Kn.ex_bin fh17 (.tmp rfl) .const) fun Ko hKo => ?_
    go_simp
    try go_bits
    refine hKo _ _ fun fa18 fh18 => ?_
    clear hKo Ko fh17 fa17
    refine Kn.pure fh18 rfl rfl .none (Kn.ex_move fh18 (.tmp rfl)) fun fa19 fh19 => ?_
    clear fh18 fa18
    refine Kn.skip fh19 rfl rfl (.some rfl rfl rfl) fun fa20 fh20 => ?_
    clear fh19 fa19
    refine Kn.skip fh20 rfl rfl (.some rfl rfl rfl) fun fa21 fh21 => ?_
    clear fh20 fa20
    refine Kn.pure fh21 rfl rfl .none (Kn.ex_pick fh21 (.tmp rfl) .const) fun fa22 fh22 => ?_
    clear fh21 fa21
    refine wpList_nil ?_
    refine hK9 _ _ ?_
    clear hK9 K9
    replace fh22 := fh22.cut (.cons (t := 36) rfl (.cons (t := 8) rfl (.cons (t := 7) rfl (.cons (t := 6) rfl (.cons (t := 0) rfl (.cons (t := 1) rfl (.cons (t := 2) rfl .nil)))))))
    refine Kn.yes fh22 (.tmp rfl) ?_
    replace fh22 := fh22.cut (.cons (t := 8) rfl (.cons (t := 7) rfl (.cons (t := 6) rfl (.cons (t := 0) rfl (.cons (t := 1) rfl (.cons (t := 2) rfl .nil))))))
    refine wp_seq_k fun K10 hK10 => ?_
    refine wp_region_lit ?_
    refine Kn.pure fh22 rfl rfl .none (Kn.ex_assign fh22 .const) fun fa23 fh23 => ?_
    clear fh22 fa22
    refine wpList_nil ?_
    refine hK10 _ _ ?_
    clear hK10 K10
    refine wp_ret ?_
    refine Kn.then_ret ?_
    exact Kn.ret1 fh23 rfl rfl ⟨rfl, HB1.out⟩
  by_cases h2 : 1125899906842624 < n
  · refine wp_seq_k fun K8 hK8 => ?_
    refine wp_seq_k fun K9 hK9 => ?_
    refine wp_region_lit ?_
    refine Kn.pure fh16 rfl rfl .none (Kn.ex_move fh16 (.tmp rfl)) fun fa17 fh17 => ?_
    clear fh16 fa16
    refine Kn.step fh17 rfl rfl .none (Kn.ex_bin fh17 (.tmp rfl) .const) fun Ko hKo => ?_
    go_simp
    try go_bits
    refine hKo _ _ fun fa18 fh18 => ?_
    clear hKo Ko fh17 fa17
    refine Kn.pure fh18 rfl rfl .none (Kn.ex_move fh18 (.tmp rfl)) fun fa19 fh19 => ?_
    clear fh18 fa18
    refine Kn.pure fh19 rfl rfl (.some rfl rfl rfl) (Kn.ex_move fh19 (.tmp rfl)) fun fa20 fh20 => ?_
    clear fh19 fa19
    refine Kn.step fh20 rfl rfl (.some rfl rfl rfl) (Kn.ex_bin fh20 (.tmp rfl) .const) fun Ko hKo => ?_
    go_simp
    try go_bits
    refine hKo _ _ fun fa21 fh21 => ?_
    clear hKo Ko fh20 fa20
    refine Kn.pure fh21 rfl rfl .none (Kn.ex_pick fh21 (.tmp rfl) (.tmp rfl)) fun fa22 fh22 => ?_
    clear fh21 fa21
    refine wpList_nil ?_
    refine hK9 _ _ ?_
    clear hK9 K9
    replace fh22 := fh22.cut (.cons (t := 36) rfl (.cons (t := 8) rfl (.cons (t := 7) rfl (.cons (t := 6) rfl (.cons (t := 0) rfl (.cons (t := 1) rfl (.cons (t := 2) rfl .nil)))))))
    refine Kn.yes fh22 (.tmp rfl) ?_
    replace fh22 := fh22.cut (.cons (t := 8) rfl (.cons (t := 7) rfl (.cons (t := 6) rfl (.cons (t := 0) rfl (.cons (t := 1) rfl (.cons (t := 2) rfl .nil))))))
    refine wp_seq_k fun K10 hK10 => ?_
    refine wp_region_lit ?_
    refine Kn.pure fh22 rfl rfl .none (Kn.ex_assign fh22 .const) fun fa23 fh23 => ?_
    clear fh22 fa22
    refine wpList_nil ?_
    refine hK10 _ _ ?_
    clear hK10 K10
    refine wp_ret ?_
    refine Kn.then_ret ?_
    exact Kn.ret1 fh23 rfl rfl ⟨rfl, HB1.out⟩
  refine wp_seq_k fun K8 hK8 => ?_
  refine wp_seq_k fun K9 hK9 => ?_
  refine wp_region_lit ?_
  refine Kn.pure fh16 rfl rfl .none (Kn.ex_move fh16 (.tmp rfl)) fun fa17 fh17 => ?_
  clear fh16 fa16
  refine Kn.step fh17 rfl rfl .none (Kn.ex_bin fh17 (.tmp rfl) .const) fun Ko hKo => ?_
  go_simp
  try go_bits
  refine hKo _ _ fun fa18 fh18 => ?_
  clear hKo Ko fh17 fa17
  refine Kn.pure fh18 rfl rfl .none (Kn.ex_move fh18 (.tmp rfl)) fun fa19 fh19 => ?_
  clear fh18 fa18
  refine Kn.pure fh19 rfl rfl (.some rfl rfl rfl) (Kn.ex_move fh19 (.tmp rfl)) fun fa20 fh20 => ?_
  clear fh19 fa19
  refine Kn.step fh20 rfl rfl (.some rfl rfl rfl) (Kn.ex_bin fh20 (.tmp rfl) .const) fun Ko hKo => ?_
  go_simp
  try go_bits
  refine hKo _ _ fun fa21 fh21 => ?_
  clear hKo Ko fh20 fa20
  refine Kn.pure fh21 rfl rfl .none (Kn.ex_pick fh21 (.tmp rfl) (.tmp rfl)) fun fa22 fh22 => ?_
  clear fh21 fa21
  refine wpList_nil ?_
  refine hK9 _ _ ?_
  clear hK9 K9
  replace fh22 := fh22.cut (.cons (t := 36) rfl (.cons (t := 8) rfl (.cons (t := 7) rfl (.cons (t := 6) rfl (.cons (t := 0) rfl (.cons (t := 1) rfl (.cons (t := 2) rfl .nil)))))))
  refine Kn.no fh22 (.tmp rfl) ?_
  refine wp_skip ?_
  refine hK8 _ _ ?_
  clear hK8 K8
  replace fh22 := fh22.cut (.cons (t := 8) rfl (.cons (t := 7) rfl (.cons (t := 6) rfl (.cons (t := 0) rfl (.cons (t := 1) rfl (.cons (t := 2) rfl .nil))))))
  have Hn : Hid (-1125899906842624 ≤ n ∧ n ≤ 1125899906842624) := Lib.hid ⟨by omega, by omega⟩
  clear h1 h2
  refine wp_seq_k fun K10 hK10 => ?_
  refine wp_seq_k fun K11 hK11 => ?_
  refine wp_region_lit ?_
  refine Kn.pure fh22 rfl rfl .none (Kn.ex_move fh22 (.tmp rfl)) fun fa23 fh23 => ?_
  clear fh22 fa22
  refine Kn.step fh23 rfl rfl .none (Kn.ex_len fh23 (.tmp rfl)) fun Ko hKo => ?_
  go_simp
  try go_bits
  refine hKo _ _ fun fa24 fh24 => ?_
  clear hKo Ko fh23 fa23
  refine Kn.pure fh24 rfl rfl .none (Kn.ex_move fh24 .const) fun fa25 fh25 => ?_
  clear fh24 fa24
  refine wpList_nil ?_
  refine hK11 _ _ ?_
  clear hK11 K11
  refine wp_block ?_
  refine Kn.loop (fun m fr u => ∃ (k : Nat), Kn.Kn 153 [(39, .int .i64 (k : Int)), (8, .bool (fineB n (xs.take k))), (37, .slice A xs.length ca), (38, .int .i64 (xs.length : Int)), (7, .func (.func 5) #[] #[]), (0, .int .i64 n), (1, .slice A xs.length ca), (2, .string s)] fr ∧ k + m = xs.length ∧ Hid (∀ i, i < k → -1125899906842624 ≤ (Edg.ed xs i).1 ∧ (Edg.ed xs i).1 ≤ 1125899906842624 ∧ -1125899906842624 ≤ (Edg.ed xs i).2 ∧ (Edg.ed xs i).2 ≤ 1125899906842624) ∧ Hid (Below w1.heap.size w1 u)) xs.length ⟨0, fh25.cut (.cons (t := 39) rfl (.turn (t := 8) rfl (by unfold fineB; simp) (.cons (t := 37) rfl (.cons (t := 38) rfl (.cons (t := 7) rfl (.cons (t := 0) rfl (.cons (t := 1) rfl (.cons (t := 2) rfl .nil)))))))), by omega, Lib.hid (fun i hi => absurd hi (by omega)), Lib.hid (Below.refl _ _)⟩ ?_
  clear fh25 fa25
  intro m12 fa26 u hI Kl12 hKl12
  obtain ⟨k, fh26, hk, HL, HB⟩ := hI
  by_cases hlt : k < xs.length
  · have hfs := fine_snoc n xs k hlt
    obtain ⟨fk, hfk⟩ : ∃ b, fineB n (xs.take k) = b := ⟨_, rfl⟩
    rw [hfk] at hfs fh26
    clear hfk
    obtain ⟨ba, oa, rfl, -, ca1, ca2⟩ := (HA1.out.on HB.out) k hlt
    obtain ⟨x1, hx1⟩ : ∃ x, (Edg.ed xs k).1 = x := ⟨_, rfl⟩
    obtain ⟨x2, hx2⟩ : ∃ x, (Edg.ed xs k).2 = x := ⟨_, rfl⟩
    rw [hx1] at ca1 hfs
    rw [hx2] at ca2 hfs
    have HX : Hid ((Edg.ed xs k).1 = x1 ∧ (Edg.ed xs k).2 = x2) := Lib.hid ⟨hx1, hx2⟩
    have HF := Lib.hid hfs
    clear hx1 hx2 hfs
    refine wp_seq_k fun K13 hK13 => ?_
    refine wp_region_lit ?_
    refine Kn.step fh26 rfl rfl .none (Kn.ex_bin fh26 (.tmp rfl) (.tmp rfl)) fun Ko hKo => ?_
    go_simp
    try go_bits
    refine hKo _ _ fun fa27 fh27 => ?_
    clear hKo Ko fh26 fa26
    refine wpList_nil ?_
    refine hK13 _ _ ?_
    clear hK13 K13
    refine wp_seq_k fun K14 hK14 => ?_
    refine Kn.yes fh27 (.tmp rfl) ?_
    refine wp_skip ?_
    refine hK14 _ _ ?_
    clear hK14 K14
    replace fh27 := fh27.cut (.cons (t := 39) rfl (.cons (t := 8) rfl (.cons (t := 37) rfl (.cons (t := 38) rfl (.cons (t := 7) rfl (.cons (t := 0) rfl (.cons (t := 1) rfl (.cons (t := 2) rfl .nil))))))))
    refine wp_seq_k fun K15 hK15 => ?_
    refine wp_block ?_
    refine wp_seq_k fun K16 hK16 => ?_
    refine wp_region_lit ?_
    refine Kn.step fh27 rfl rfl .none (Kn.ex_indexAddr fh27 (.tmp rfl) (.tmp rfl)) fun Ko hKo => ?_
    go_simp
    try go_bits
    refine hKo _ _ fun fa28 fh28 => ?_
    clear hKo Ko fh27 fa27
    refine Kn.step fh28 rfl rfl .none (Kn.ex_load fh28 (.tmp rfl)) fun Ko hKo => ?_
    go_simp
    try go_bits
    refine hKo _ _ fun fa29 fh29 => ?_
    clear hKo Ko fh28 fa28
    refine Kn.step fh29 rfl rfl .none Kn.ex_alloc fun Ko hKo => ?_
    go_simp
    try go_bits
    refine hKo _ _ fun fa30 fh30 => ?_
    clear hKo Ko fh29 fa29
    refine Kn.stepU fh30 rfl .none (Kn.ex_store fh30 (.tmp rfl) (.tmp rfl)) fun Ko hKo => ?_
    go_simp
    try go_bits
    refine hKo _ ?_
    clear hKo Ko
    refine wpList_nil ?_
    refine hK16 _ _ ?_
    clear hK16 K16
    replace fh30 := fh30.cut (.cons (t := 10) rfl (.cons (t := 39) rfl (.cons (t := 8) rfl (.cons (t := 37) rfl (.cons (t := 38) rfl (.cons (t := 7) rfl (.cons (t := 0) rfl (.cons (t := 1) rfl (.cons (t := 2) rfl .nil)))))))))
    by_cases g45 : x1 < -1125899906842624
    · refine wp_seq_k fun K17 hK17 => ?_
      refine wp_seq_k fun K18 hK18 => ?_
      refine wp_region_lit ?_
      refine Kn.step fh30 rfl rfl .none (Kn.ex_fieldAddr fh30 (.tmp rfl)) fun Ko hKo => ?_
      go_simp
      try go_bits
      refine hKo _ _ fun fa31 fh31 => ?_
      clear hKo Ko fh30 fa30
      refine Kn.step fh31 rfl rfl .none (Kn.ex_load fh31 (.tmp rfl)) fun Ko hKo => ?_
      go_simp
      try go_bits
      refine hKo _ _ fun fa32 fh32 => ?_
      clear hKo Ko fh31 fa31
      refine Kn.step fh32 rfl rfl .none (Kn.ex_bin fh32 (.tmp rfl) .const) fun Ko hKo => ?_
      go_simp
      try go_bits
      refine hKo _ _ fun fa33 fh33 => ?_
      clear hKo Ko fh32 fa32
      refine Kn.pure fh33 rfl rfl .none (Kn.ex_move fh33 (.tmp rfl)) fun fa34 fh34 => ?_
      clear fh33 fa33
      refine Kn.skip fh34 rfl rfl (.some rfl rfl rfl) fun fa35 fh35 => ?_
      clear fh34 fa34
      refine Kn.skip fh35 rfl rfl (.some rfl rfl rfl) fun fa36 fh36 => ?_
      clear fh35 fa35
      refine Kn.skip fh36 rfl rfl (.some rfl rfl rfl) fun fa37 fh37 => ?_
      clear fh36 fa36
      refine Kn.pure fh37 rfl rfl .none (Kn.ex_pick fh37 (.tmp rfl) .const) fun fa38 fh38 => ?_
      clear fh37 fa37
      refine Kn.pure fh38 rfl rfl .none (Kn.ex_move fh38 (.tmp rfl)) fun fa39 fh39 => ?_
      clear fh38 fa38
      refine Kn.skip fh39 rfl rfl (.some rfl rfl rfl) fun fa40 fh40 => ?_
      clear fh39 fa39
      refine Kn.skip fh40 rfl rfl (.some rfl rfl rfl) fun fa41 fh41 => ?_
      clear fh40 fa40
      refine Kn.skip fh41 rfl rfl (.some rfl rfl rfl) fun fa42 fh42 => ?_
      clear fh41 fa41
      refine Kn.pure fh42 rfl rfl .none (Kn.ex_pick fh42 (.tmp rfl) .const) fun fa43 fh43 => ?_
      clear fh42 fa42
      refine Kn.pure fh43 rfl rfl .none (Kn.ex_move fh43 (.tmp rfl)) fun fa44 fh44 => ?_
      clear fh43 fa43
      refine Kn.skip fh44 rfl rfl (.some rfl rfl rfl) fun fa45 fh45 => ?_
      clear fh44 fa44
      refine Kn.skip fh45 rfl rfl (.some rfl rfl rfl) fun fa46 fh46 => ?_
      clear fh45 fa45
      refine Kn.skip fh46 rfl rfl (.some rfl rfl rfl) fun fa47 fh47 => ?_
      clear fh46 fa46
      refine Kn.pure fh47 rfl rfl .none (Kn.ex_pick fh47 (.tmp rfl) .const) fun fa48 fh48 => ?_
      clear fh47 fa47
      refine wpList_nil ?_
      refine hK18 _ _ ?_
      clear hK18 K18
      replace fh48 := fh48.cut (.cons (t := 60) rfl (.cons (t := 10) rfl (.cons (t := 39) rfl (.cons (t := 8) rfl (.cons (t := 37) rfl (.cons (t := 38) rfl (.cons (t := 7) rfl (.cons (t := 0) rfl (.cons (t := 1) rfl (.cons (t := 2) rfl .nil))))))))))
      refine Kn.yes fh48 (.tmp rfl) ?_
      replace fh48 := fh48.cut (.cons (t := 10) rfl (.cons (t := 39) rfl (.cons (t := 8) rfl (.cons (t := 37) rfl (.cons (t := 38) rfl (.cons (t := 7) rfl (.cons (t := 0) rfl (.cons (t := 1) rfl (.cons (t := 2) rfl .nil)))))))))
      refine wp_seq_k fun K19 hK19 => ?_
      refine wp_region_lit ?_
      refine Kn.pure fh48 rfl rfl .none (Kn.ex_assign fh48 .const) fun fa49 fh49 => ?_
      clear fh48 fa48
      refine wpList_nil ?_
      refine hK19 _ _ ?_
      clear hK19 K19
      refine wp_ret ?_
      refine Kn.then_ret ?_
      refine Kn.block_ret ?_
      refine Kn.then_ret ?_
      refine Kn.then_ret ?_
      refine Kn.block_ret ?_
      refine Kn.then_ret ?_
      exact Kn.ret1 fh49 rfl rfl ⟨rfl, HB1.out.trans ((HB.out.alloc HB.out.size _).mono HB1.out.size)⟩
    by_cases g49 : 1125899906842624 < x1
    · refine wp_seq_k fun K17 hK17 => ?_
      refine wp_seq_k fun K18 hK18 => ?_
      refine wp_region_lit ?_
      refine Kn.step fh30 rfl rfl .none (Kn.ex_fieldAddr fh30 (.tmp rfl)) fun Ko hKo => ?_
      go_simp
      try go_bits
      refine hKo _ _ fun fa31 fh31 => ?_
      clear hKo Ko fh30 fa30
      refine Kn.step fh31 rfl rfl .none (Kn.ex_load fh31 (.tmp rfl)) fun Ko hKo => ?_
      go_simp
      try go_bits
      refine hKo _ _ fun fa32 fh32 => ?_
      clear hKo Ko fh31 fa31
      refine Kn.step fh32 rfl rfl .none (Kn.ex_bin fh32 (.tmp rfl) .const) fun Ko hKo => ?_
      go_simp
      try go_bits
      refine hKo _ _ fun fa33 fh33 => ?_
      clear hKo Ko fh32 fa32
      refine Kn.pure fh33 rfl rfl .none (Kn.ex_move fh33 (.tmp rfl)) fun fa34 fh34 => ?_
      clear fh33 fa33
      refine Kn.step fh34 rfl rfl (.some rfl rfl rfl) (Kn.ex_fieldAddr fh34 (.tmp rfl)) fun Ko hKo => ?_
      go_simp
      try go_bits
      refine hKo _ _ fun fa35 fh35 => ?_
      clear hKo Ko fh34 fa34
      refine Kn.step fh35 rfl rfl (.some rfl rfl rfl) (Kn.ex_load fh35 (.tmp rfl)) fun Ko hKo => ?_
      go_simp
      try go_bits
      refine hKo _ _ fun fa36 fh36 => ?_
      clear hKo Ko fh35 fa35
      refine Kn.step fh36 rfl rfl (.some rfl rfl rfl) (Kn.ex_bin fh36 (.tmp rfl) .const) fun Ko hKo => ?_
      go_simp
      try go_bits
      refine hKo _ _ fun fa37 fh37 => ?_
      clear hKo Ko fh36 fa36
      refine Kn.pure fh37 rfl rfl .none (Kn.ex_pick fh37 (.tmp rfl) (.tmp rfl)) fun fa38 fh38 => ?_
      clear fh37 fa37
      refine Kn.pure fh38 rfl rfl .none (Kn.ex_move fh38 (.tmp rfl)) fun fa39 fh39 => ?_
      clear fh38 fa38
      refine Kn.skip fh39 rfl rfl (.some rfl rfl rfl) fun fa40 fh40 => ?_
      clear fh39 fa39
      refine Kn.skip fh40 rfl rfl (.some rfl rfl rfl) fun fa41 fh41 => ?_
      clear fh40 fa40
      refine Kn.skip fh41 rfl rfl (.some rfl rfl rfl) fun fa42 fh42 => ?_
      clear fh41 fa41
      refine Kn.pure fh42 rfl rfl .none (Kn.ex_pick fh42 (.tmp rfl) .const) fun fa43 fh43 => ?_
      clear fh42 fa42
      refine Kn.pure fh43 rfl rfl .none (Kn.ex_move fh43 (.tmp rfl)) fun fa44 fh44 => ?_
      clear fh43 fa43
      refine Kn.skip fh44 rfl rfl (.some rfl rfl rfl) fun fa45 fh45 => ?_
      clear fh44 fa44
      refine Kn.skip fh45 rfl rfl (.some rfl rfl rfl) fun fa46 fh46 => ?_
      clear fh45 fa45
      refine Kn.skip fh46 rfl rfl (.some rfl rfl rfl) fun fa47 fh47 => ?_
      clear fh46 fa46
      refine Kn.pure fh47 rfl rfl .none (Kn.ex_pick fh47 (.tmp rfl) .const) fun fa48 fh48 => ?_
      clear fh47 fa47
      refine wpList_nil ?_
      refine hK18 _ _ ?_
      clear hK18 K18
      replace fh48 := fh48.cut (.cons (t := 60) rfl (.cons (t := 10) rfl (.cons (t := 39) rfl (.cons (t := 8) rfl (.cons (t := 37) rfl (.cons (t := 38) rfl (.cons (t := 7) rfl (.cons (t := 0) rfl (.cons (t := 1) rfl (.cons (t := 2) rfl .nil))))))))))
      refine Kn.yes fh48 (.tmp rfl) ?_
      replace fh48 := fh48.cut (.cons (t := 10) rfl (.cons (t := 39) rfl (.cons (t := 8) rfl (.cons (t := 37) rfl (.cons (t := 38) rfl (.cons (t := 7) rfl (.cons (t := 0) rfl (.cons (t := 1) rfl (.cons (t := 2) rfl .nil)))))))))
      refine wp_seq_k fun K19 hK19 => ?_
      refine wp_region_lit ?_
      refine Kn.pure fh48 rfl rfl .none (Kn.ex_assign fh48 .const) fun fa49 fh49 => ?_
      clear fh48 fa48
      refine wpList_nil ?_
      refine hK19 _ _ ?_
      clear hK19 K19
      refine wp_ret ?_
      refine Kn.then_ret ?_
      refine Kn.block_ret ?_
      refine Kn.then_ret ?_
      refine Kn.then_ret ?_
      refine Kn.block_ret ?_
      refine Kn.then_ret ?_
      exact Kn.ret1 fh49 rfl rfl ⟨rfl, HB1.out.trans ((HB.out.alloc HB.out.size _).mono HB1.out.size)⟩
    by_cases g54 : x2 < -1125899906842624
    · refine wp_seq_k fun K17 hK17 => ?_
      refine wp_seq_k fun K18 hK18 => ?_
      refine wp_region_lit ?_
      refine Kn.step fh30 rfl rfl .none (Kn.ex_fieldAddr fh30 (.tmp rfl)) fun Ko hKo => ?_
      go_simp
      try go_bits
      refine hKo _ _ fun fa31 fh31 => ?_
      clear hKo Ko fh30 fa30
      refine Kn.step fh31 rfl rfl .none (Kn.ex_load fh31 (.tmp rfl)) fun Ko hKo => ?_
      go_simp
      try go_bits
      refine hKo _ _ fun fa32 fh32 => ?_
      clear hKo Ko fh31 fa31
      refine Kn.step fh32 rfl rfl .none (Kn.ex_bin fh32 (.tmp rfl) .const) fun Ko hKo => ?_
      go_simp
      try go_bits
      refine hKo _ _ fun fa33 fh33 => ?_
      clear hKo Ko fh32 fa32
      refine Kn.pure fh33 rfl rfl .none (Kn.ex_move fh33 (.tmp rfl)) fun fa34 fh34 => ?_
      clear fh33 fa33
      refine Kn.step fh34 rfl rfl (.some rfl rfl rfl) (Kn.ex_fieldAddr fh34 (.tmp rfl)) fun Ko hKo => ?_
      go_simp
      try go_bits
      refine hKo _ _ fun fa35 fh35 => ?_
      clear hKo Ko fh34 fa34
      refine Kn.step fh35 rfl rfl (.some rfl rfl rfl) (Kn.ex_load fh35 (.tmp rfl)) fun Ko hKo => ?_
      go_simp
      try go_bits
      refine hKo _ _ fun fa36 fh36 => ?_
      clear hKo Ko fh35 fa35
      refine Kn.step fh36 rfl rfl (.some rfl rfl rfl) (Kn.ex_bin fh36 (.tmp rfl) .const) fun Ko hKo => ?_
      go_simp
      try go_bits
      refine hKo _ _ fun fa37 fh37 => ?_
      clear hKo Ko fh36 fa36
      refine Kn.pure fh37 rfl rfl .none (Kn.ex_pick fh37 (.tmp rfl) (.tmp rfl)) fun fa38 fh38 => ?_
      clear fh37 fa37
      refine Kn.pure fh38 rfl rfl .none (Kn.ex_move fh38 (.tmp rfl)) fun fa39 fh39 => ?_
      clear fh38 fa38
      refine Kn.step fh39 rfl rfl (.some rfl rfl rfl) (Kn.ex_fieldAddr fh39 (.tmp rfl)) fun Ko hKo => ?_
      go_simp
      try go_bits
      refine hKo _ _ fun fa40 fh40 => ?_
      clear hKo Ko fh39 fa39
      refine Kn.step fh40 rfl rfl (.some rfl rfl rfl) (Kn.ex_load fh40 (.tmp rfl)) fun Ko hKo => ?_
      go_simp
      try go_bits
      refine hKo _ _ fun fa41 fh41 => ?_
      clear hKo Ko fh40 fa40
      refine Kn.step fh41 rfl rfl (.some rfl rfl rfl) (Kn.ex_bin fh41 (.tmp rfl) .const) fun Ko hKo => ?_
      go_simp
      try go_bits
      refine hKo _ _ fun fa42 fh42 => ?_
      clear hKo Ko fh41 fa41
      refine Kn.pure fh42 rfl rfl .none (Kn.ex_pick fh42 (.tmp rfl) (.tmp rfl)) fun fa43 fh43 => ?_
      clear fh42 fa42
      refine Kn.pure fh43 rfl rfl .none (Kn.ex_move fh43 (.tmp rfl)) fun fa44 fh44 => ?_
      clear fh43 fa43
      refine Kn.skip fh44 rfl rfl (.some rfl rfl rfl) fun fa45 fh45 => ?_
      clear fh44 fa44
      refine Kn.skip fh45 rfl rfl (.some rfl rfl rfl) fun fa46 fh46 => ?_
      clear fh45 fa45
      refine Kn.skip fh46 rfl rfl (.some rfl rfl rfl) fun fa47 fh47 => ?_
      clear fh46 fa46
      refine Kn.pure fh47 rfl rfl .none (Kn.ex_pick fh47 (.tmp rfl) .const) fun fa48 fh48 => ?_
      clear fh47 fa47
      refine wpList_nil ?_
      refine hK18 _ _ ?_
      clear hK18 K18
      replace fh48 := fh48.cut (.cons (t := 60) rfl (.cons (t := 10) rfl (.cons (t := 39) rfl (.cons (t := 8) rfl (.cons (t := 37) rfl (.cons (t := 38) rfl (.cons (t := 7) rfl (.cons (t := 0) rfl (.cons (t := 1) rfl (.cons (t := 2) rfl .nil))))))))))
      refine Kn.yes fh48 (.tmp rfl) ?_
      replace fh48 := fh48.cut (.cons (t := 10) rfl (.cons (t := 39) rfl (.cons (t := 8) rfl (.cons (t := 37) rfl (.cons (t := 38) rfl (.cons (t := 7) rfl (.cons (t := 0) rfl (.cons (t := 1) rfl (.cons (t := 2) rfl .nil)))))))))
      refine wp_seq_k fun K19 hK19 => ?_
      refine wp_region_lit ?_
      refine Kn.pure fh48 rfl rfl .none (Kn.ex_assign fh48 .const) fun fa49 fh49 => ?_
      clear fh48 fa48
      refine wpList_nil ?_
      refine hK19 _ _ ?_
      clear hK19 K19
      refine wp_ret ?_
      refine Kn.then_ret ?_
      refine Kn.block_ret ?_
      refine Kn.then_ret ?_
      refine Kn.then_ret ?_
      refine Kn.block_ret ?_
      refine Kn.then_ret ?_
      exact Kn.ret1 fh49 rfl rfl ⟨rfl, HB1.out.trans ((HB.out.alloc HB.out.size _).mono HB1.out.size)⟩
    by_cases g59 : 1125899906842624 < x2
    · refine wp_seq_k fun K17 hK17 => ?_
      refine wp_seq_k fun K18 hK18 => ?_
      refine wp_region_lit ?_
      refine Kn.step fh30 rfl rfl .none (Kn.ex_fieldAddr fh30 (.tmp rfl)) fun Ko hKo => ?_
      go_simp
      try go_bits
      refine hKo _ _ fun fa31 fh31 => ?_
      clear hKo Ko fh30 fa30
      refine Kn.step fh31 rfl rfl .none (Kn.ex_load fh31 (.tmp rfl)) fun Ko hKo => ?_
      go_simp
      try go_bits
      refine hKo _ _ fun fa32 fh32 => ?_
      clear hKo Ko fh31 fa31
      refine Kn.step fh32 rfl rfl .none (Kn.ex_bin fh32 (.tmp rfl) .const) fun Ko hKo => ?_
      go_simp
      try go_bits
      refine hKo _ _ fun fa33 fh33 => ?_
      clear hKo Ko fh32 fa32
      refine Kn.pure fh33 rfl rfl .none (Kn.ex_move fh33 (.tmp rfl)) fun fa34 fh34 => ?_
      clear fh33 fa33
      refine Kn.step fh34 rfl rfl (.some rfl rfl rfl) (Kn.ex_fieldAddr fh34 (.tmp rfl)) fun Ko hKo => ?_
      go_simp
      try go_bits
      refine hKo _ _ fun fa35 fh35 => ?_
      clear hKo Ko fh34 fa34
      refine Kn.step fh35 rfl rfl (.some rfl rfl rfl) (Kn.ex_load fh35 (.tmp rfl)) fun Ko hKo => ?_
      go_simp
      try go_bits
      refine hKo _ _ fun fa36 fh36 => ?_
      clear hKo Ko fh35 fa35
      refine Kn.step fh36 rfl rfl (.some rfl rfl rfl) (Kn.ex_bin fh36 (.tmp rfl) .const) fun Ko hKo => ?_
      go_simp
      try go_bits
      refine hKo _ _ fun fa37 fh37 => ?_
      clear hKo Ko fh36 fa36
      refine Kn.pure fh37 rfl rfl .none (Kn.ex_pick fh37 (.tmp rfl) (.tmp rfl)) fun fa38 fh38 => ?_
      clear fh37 fa37
      refine Kn.pure fh38 rfl rfl .none (Kn.ex_move fh38 (.tmp rfl)) fun fa39 fh39 => ?_
      clear fh38 fa38
      refine Kn.step fh39 rfl rfl (.some rfl rfl rfl) (Kn.ex_fieldAddr fh39 (.tmp rfl)) fun Ko hKo => ?_
      go_simp
      try go_bits
      refine hKo _ _ fun fa40 fh40 => ?_
      clear hKo Ko fh39 fa39
      refine Kn.step fh40 rfl rfl (.some rfl rfl rfl) (Kn.ex_load fh40 (.tmp rfl)) fun Ko hKo => ?_
      go_simp
      try go_bits
      refine hKo _ _ fun fa41 fh41 => ?_
      clear hKo Ko fh40 fa40
      refine Kn.step fh41 rfl rfl (.some rfl rfl rfl) (Kn.ex_bin fh41 (.tmp rfl) .const) fun Ko hKo => ?_
      go_simp
      try go_bits
      refine hKo _ _ fun fa42 fh42 => ?_
      clear hKo Ko fh41 fa41
      refine Kn.pure fh42 rfl rfl .none (Kn.ex_pick fh42 (.tmp rfl) (.tmp rfl)) fun fa43 fh43 => ?_
      clear fh42 fa42
      refine Kn.pure fh43 rfl rfl .none (Kn.ex_move fh43 (.tmp rfl)) fun fa44 fh44 => ?_
      clear fh43 fa43
      refine Kn.step fh44 rfl rfl (.some rfl rfl rfl) (Kn.ex_fieldAddr fh44 (.tmp rfl)) fun Ko hKo => ?_
      go_simp
      try go_bits
      refine hKo _ _ fun fa45 fh45 => ?_
      clear hKo Ko fh44 fa44
      refine Kn.step fh45 rfl rfl (.some rfl rfl rfl) (Kn.ex_load fh45 (.tmp rfl)) fun Ko hKo => ?_
      go_simp
      try go_bits
      refine hKo _ _ fun fa46 fh46 => ?_
      clear hKo Ko fh45 fa45
      refine Kn.step fh46 rfl rfl (.some rfl rfl rfl) (Kn.ex_bin fh46 (.tmp rfl) .const) fun Ko hKo => ?_
      go_simp
      try go_bits
      refine hKo _ _ fun fa47 fh47 => ?_
      clear hKo Ko fh46 fa46
      refine Kn.pure fh47 rfl rfl .none (Kn.ex_pick fh47 (.tmp rfl) (.tmp rfl)) fun fa48 fh48 => ?_
      clear fh47 fa47
      refine wpList_nil ?_
      refine hK18 _ _ ?_
      clear hK18 K18
      replace fh48 := fh48.cut (.cons (t := 60) rfl (.cons (t := 10) rfl (.cons (t := 39) rfl (.cons (t := 8) rfl (.cons (t := 37) rfl (.cons (t := 38) rfl (.cons (t := 7) rfl (.cons (t := 0) rfl (.cons (t := 1) rfl (.cons (t := 2) rfl .nil))))))))))
      refine Kn.yes fh48 (.tmp rfl) ?_
      replace fh48 := fh48.cut (.cons (t := 10) rfl (.cons (t := 39) rfl (.cons (t := 8) rfl (.cons (t := 37) rfl (.cons (t := 38) rfl (.cons (t := 7) rfl (.cons (t := 0) rfl (.cons (t := 1) rfl (.cons (t := 2) rfl .nil)))))))))
      refine wp_seq_k fun K19 hK19 => ?_
      refine wp_region_lit ?_
      refine Kn.pure fh48 rfl rfl .none (Kn.ex_assign fh48 .const) fun fa49 fh49 => ?_
      clear fh48 fa48
      refine wpList_nil ?_
      refine hK19 _ _ ?_
      clear hK19 K19
      refine wp_ret ?_
      refine Kn.then_ret ?_
      refine Kn.block_ret ?_
      refine Kn.then_ret ?_
      refine Kn.then_ret ?_
      refine Kn.block_ret ?_
      refine Kn.then_ret ?_
      exact Kn.ret1 fh49 rfl rfl ⟨rfl, HB1.out.trans ((HB.out.alloc HB.out.size _).mono HB1.out.size)⟩
    refine wp_seq_k fun K17 hK17 => ?_
    refine wp_seq_k fun K18 hK18 => ?_
    refine wp_region_lit ?_
    refine Kn.step fh30 rfl rfl .none (Kn.ex_fieldAddr fh30 (.tmp rfl)) fun Ko hKo => ?_
    go_simp
    try go_bits
    refine hKo _ _ fun fa31 fh31 => ?_
    clear hKo Ko fh30 fa30
    refine Kn.step fh31 rfl rfl .none (Kn.ex_load fh31 (.tmp rfl)) fun Ko hKo => ?_
    go_simp
    try go_bits
    refine hKo _ _ fun fa32 fh32 => ?_
    clear hKo Ko fh31 fa31
    refine Kn.step fh32 rfl rfl .none (Kn.ex_bin fh32 (.tmp rfl) .const) fun Ko hKo => ?_
    go_simp
    try go_bits
    refine hKo _ _ fun fa33 fh33 => ?_
    clear hKo Ko fh32 fa32
    refine Kn.pure fh33 rfl rfl .none (Kn.ex_move fh33 (.tmp rfl)) fun fa34 fh34 => ?_
    clear fh33 fa33
    refine Kn.step fh34 rfl rfl (.some rfl rfl rfl) (Kn.ex_fieldAddr fh34 (.tmp rfl)) fun Ko hKo => ?_
    go_simp
    try go_bits
    refine hKo _ _ fun fa35 fh35 => ?_
    clear hKo Ko fh34 fa34
    refine Kn.step fh35 rfl rfl (.some rfl rfl rfl) (Kn.ex_load fh35 (.tmp rfl)) fun Ko hKo => ?_
    go_simp
    try go_bits
    refine hKo _ _ fun fa36 fh36 => ?_
    clear hKo Ko fh35 fa35
    refine Kn.step fh36 rfl rfl (.some rfl rfl rfl) (Kn.ex_bin fh36 (.tmp rfl) .const) fun Ko hKo => ?_
    go_simp
    try go_bits
    refine hKo _ _ fun fa37 fh37 => ?_
    clear hKo Ko fh36 fa36
    refine Kn.pure fh37 rfl rfl .none (Kn.ex_pick fh37 (.tmp rfl) (.tmp rfl)) fun fa38 fh38 => ?_
    clear fh37 fa37
    refine Kn.pure fh38 rfl rfl .none (Kn.ex_move fh38 (.tmp rfl)) fun fa39 fh39 => ?_
    clear fh38 fa38
    refine Kn.step fh39 rfl rfl (.some rfl rfl rfl) (Kn.ex_fieldAddr fh39 (.tmp rfl)) fun Ko hKo => ?_
    go_simp
    try go_bits
    refine hKo _ _ fun fa40 fh40 => ?_
    clear hKo Ko fh39 fa39
    refine Kn.step fh40 rfl rfl (.some rfl rfl rfl) (Kn.ex_load fh40 (.tmp rfl)) fun Ko hKo => ?_
    go_simp
    try go_bits
    refine hKo _ _ fun fa41 fh41 => ?_
    clear hKo Ko fh40 fa40
    refine Kn.step fh41 rfl rfl (.some rfl rfl rfl) (Kn.ex_bin fh41 (.tmp rfl) .const) fun Ko hKo => ?_
    go_simp
    try go_bits
    refine hKo _ _ fun fa42 fh42 => ?_
    clear hKo Ko fh41 fa41
    refine Kn.pure fh42 rfl rfl .none (Kn.ex_pick fh42 (.tmp rfl) (.tmp rfl)) fun fa43 fh43 => ?_
    clear fh42 fa42
    refine Kn.pure fh43 rfl rfl .none (Kn.ex_move fh43 (.tmp rfl)) fun fa44 fh44 => ?_
    clear fh43 fa43
    refine Kn.step fh44 rfl rfl (.some rfl rfl rfl) (Kn.ex_fieldAddr fh44 (.tmp rfl)) fun Ko hKo => ?_
    go_simp
    try go_bits
    refine hKo _ _ fun fa45 fh45 => ?_
    clear hKo Ko fh44 fa44
    refine Kn.step fh45 rfl rfl (.some rfl rfl rfl) (Kn.ex_load fh45 (.tmp rfl)) fun Ko hKo => ?_
    go_simp
    try go_bits
    refine hKo _ _ fun fa46 fh46 => ?_
    clear hKo Ko fh45 fa45
    refine Kn.step fh46 rfl rfl (.some rfl rfl rfl) (Kn.ex_bin fh46 (.tmp rfl) .const) fun Ko hKo => ?_
    go_simp
    try go_bits
    refine hKo _ _ fun fa47 fh47 => ?_
    clear hKo Ko fh46 fa46
    refine Kn.pure fh47 rfl rfl .none (Kn.ex_pick fh47 (.tmp rfl) (.tmp rfl)) fun fa48 fh48 => ?_
    clear fh47 fa47
    refine wpList_nil ?_
    refine hK18 _ _ ?_
    clear hK18 K18
    replace fh48 := fh48.cut (.cons (t := 60) rfl (.cons (t := 10) rfl (.cons (t := 39) rfl (.cons (t := 8) rfl (.cons (t := 37) rfl (.cons (t := 38) rfl (.cons (t := 7) rfl (.cons (t := 0) rfl (.cons (t := 1) rfl (.cons (t := 2) rfl .nil))))))))))
    refine Kn.no fh48 (.tmp rfl) ?_
    refine wp_skip ?_
    refine hK17 _ _ ?_
    clear hK17 K17
    replace fh48 := fh48.cut (.cons (t := 10) rfl (.cons (t := 39) rfl (.cons (t := 8) rfl (.cons (t := 37) rfl (.cons (t := 38) rfl (.cons (t := 7) rfl (.cons (t := 0) rfl (.cons (t := 1) rfl (.cons (t := 2) rfl .nil)))))))))
    have HL2 : Hid (∀ i, i < k + 1 → -1125899906842624 ≤ (Edg.ed xs i).1 ∧ (Edg.ed xs i).1 ≤ 1125899906842624 ∧ -1125899906842624 ≤ (Edg.ed xs i).2 ∧ (Edg.ed xs i).2 ≤ 1125899906842624) := Lib.hid (fun i hi => by
      rcases Nat.lt_or_ge i k with h | h
      · exact HL.out i h
      · obtain rfl : i = k := by omega
        rw [HX.out.1, HX.out.2]
        omega)
    clear g45 g49 g54 g59 HX
    cases fk
    · refine wp_region_lit ?_
      refine Kn.pure fh48 rfl rfl .none (Kn.ex_move fh48 (.tmp rfl)) fun fa49 fh49 => ?_
      clear fh48 fa48
      refine Kn.pure fh49 rfl rfl .none (Kn.ex_move fh49 (.tmp rfl)) fun fa50 fh50 => ?_
      clear fh49 fa49
      refine Kn.skip fh50 rfl rfl (.some rfl rfl rfl) fun fa51 fh51 => ?_
      clear fh50 fa50
      refine Kn.skip fh51 rfl rfl (.some rfl rfl rfl) fun fa52 fh52 => ?_
      clear fh51 fa51
      refine Kn.skip fh52 rfl rfl (.some rfl rfl rfl) fun fa53 fh53 => ?_
      clear fh52 fa52
      refine Kn.skip fh53 rfl rfl (.some rfl rfl rfl) fun fa54 fh54 => ?_
      clear fh53 fa53
      refine Kn.pure fh54 rfl rfl .none (Kn.ex_pick fh54 (.tmp rfl) .const) fun fa55 fh55 => ?_
      clear fh54 fa54
      refine Kn.pure fh55 rfl rfl .none (Kn.ex_move fh55 (.tmp rfl)) fun fa56 fh56 => ?_
      clear fh55 fa55
      refine Kn.skip fh56 rfl rfl (.some rfl rfl rfl) fun fa57 fh57 => ?_
      clear fh56 fa56
      refine Kn.skip fh57 rfl rfl (.some rfl rfl rfl) fun fa58 fh58 => ?_
      clear fh57 fa57
      refine Kn.skip fh58 rfl rfl (.some rfl rfl rfl) fun fa59 fh59 => ?_
      clear fh58 fa58
      refine Kn.skip fh59 rfl rfl (.some rfl rfl rfl) fun fa60 fh60 => ?_
      clear fh59 fa59
      refine Kn.pure fh60 rfl rfl .none (Kn.ex_pick fh60 (.tmp rfl) .const) fun fa61 fh61 => ?_
      clear fh60 fa60
      refine Kn.pure fh61 rfl rfl .none (Kn.ex_assign fh61 (.tmp rfl)) fun fa62 fh62 => ?_
      clear fh61 fa61
      refine wpList_nil ?_
      refine Kn.block_normal ?_
      refine hK15 _ _ ?_
      clear hK15 K15
      replace fh62 := fh62.cut (.cons (t := 8) rfl (.cons (t := 39) rfl (.cons (t := 37) rfl (.cons (t := 38) rfl (.cons (t := 7) rfl (.cons (t := 0) rfl (.cons (t := 1) rfl (.cons (t := 2) rfl .nil))))))))
      refine wp_region_lit ?_
      refine Kn.step fh62 rfl rfl .none (Kn.ex_bin fh62 (.tmp rfl) .const) fun Ko hKo => ?_
      go_simp
      try go_bits
      refine hKo _ _ fun fa63 fh63 => ?_
      clear hKo Ko fh62 fa62
      refine Kn.pure fh63 rfl rfl .none (Kn.ex_move fh63 (.tmp rfl)) fun fa64 fh64 => ?_
      clear fh63 fa63
      refine wpList_nil ?_
      replace fh64 := fh64.cut (.cons (t := 39) rfl (.cons (t := 8) rfl (.cons (t := 37) rfl (.cons (t := 38) rfl (.cons (t := 7) rfl (.cons (t := 0) rfl (.cons (t := 1) rfl (.cons (t := 2) rfl .nil))))))))
      exact hKl12 (m12 - 1) _ _ (by omega) ⟨k + 1, fh64.cut (.turn (t := 39) rfl (by go_num) (.turn (t := 8) rfl (by rw [HF.out]; rfl) (.cons (t := 37) rfl (.cons (t := 38) rfl (.cons (t := 7) rfl (.cons (t := 0) rfl (.cons (t := 1) rfl (.cons (t := 2) rfl .nil)))))))), by omega, HL2, Lib.hid (HB.out.alloc HB.out.size _)⟩
    rcases b1 : smallB x1
    · rw [b1] at HF
      refine wp_region_lit ?_
      refine Kn.pure fh48 rfl rfl .none (Kn.ex_move fh48 (.tmp rfl)) fun fa49 fh49 => ?_
      clear fh48 fa48
      refine Kn.pure fh49 rfl rfl .none (Kn.ex_move fh49 (.tmp rfl)) fun fa50 fh50 => ?_
      clear fh49 fa49
      refine Kn.pure fh50 rfl rfl (.some rfl rfl rfl) (Kn.ex_move fh50 (.tmp rfl)) fun fa51 fh51 => ?_
      clear fh50 fa50
      refine Kn.step fh51 rfl rfl (.some rfl rfl rfl) (Kn.ex_fieldAddr fh51 (.tmp rfl)) fun Ko hKo => ?_
      go_simp
      try go_bits
      refine hKo _ _ fun fa52 fh52 => ?_
      clear hKo Ko fh51 fa51
      refine Kn.step fh52 rfl rfl (.some rfl rfl rfl) (Kn.ex_load fh52 (.tmp rfl)) fun Ko hKo => ?_
      go_simp
      try go_bits
      refine hKo _ _ fun fa53 fh53 => ?_
      clear hKo Ko fh52 fa52
      refine Kn.call fh53 rfl rfl (.some rfl rfl rfl) (Kn.ex_callv fh53 (.tmp rfl) (.cons (.tmp rfl) .nil)) Tryz.call5 (small_any x1 _) fun e u1 hp => ?_
      obtain ⟨rfl, rfl⟩ := hp
      refine ⟨_, rfl, fun fa54 fh54 => ?_⟩
      clear fh53 fa53
      rw [b1] at fh54
      refine Kn.pure fh54 rfl rfl .none (Kn.ex_pick fh54 (.tmp rfl) (.tmp rfl)) fun fa55 fh55 => ?_
      clear fh54 fa54
      refine Kn.pure fh55 rfl rfl .none (Kn.ex_move fh55 (.tmp rfl)) fun fa56 fh56 => ?_
      clear fh55 fa55
      refine Kn.skip fh56 rfl rfl (.some rfl rfl rfl) fun fa57 fh57 => ?_
      clear fh56 fa56
      refine Kn.skip fh57 rfl rfl (.some rfl rfl rfl) fun fa58 fh58 => ?_
      clear fh57 fa57
      refine Kn.skip fh58 rfl rfl (.some rfl rfl rfl) fun fa59 fh59 => ?_
      clear fh58 fa58
      refine Kn.skip fh59 rfl rfl (.some rfl rfl rfl) fun fa60 fh60 => ?_
      clear fh59 fa59
      refine Kn.pure fh60 rfl rfl .none (Kn.ex_pick fh60 (.tmp rfl) .const) fun fa61 fh61 => ?_
      clear fh60 fa60
      refine Kn.pure fh61 rfl rfl .none (Kn.ex_assign fh61 (.tmp rfl)) fun fa62 fh62 => ?_
      clear fh61 fa61
      refine wpList_nil ?_
      refine Kn.block_normal ?_
      refine hK15 _ _ ?_
      clear hK15 K15
      replace fh62 := fh62.cut (.cons (t := 8) rfl (.cons (t := 39) rfl (.cons (t := 37) rfl (.cons (t := 38) rfl (.cons (t := 7) rfl (.cons (t := 0) rfl (.cons (t := 1) rfl (.cons (t := 2) rfl .nil))))))))
      refine wp_region_lit ?_
      refine Kn.step fh62 rfl rfl .none (Kn.ex_bin fh62 (.tmp rfl) .const) fun Ko hKo => ?_
      go_simp
      try go_bits
      refine hKo _ _ fun fa63 fh63 => ?_
      clear hKo Ko fh62 fa62
      refine Kn.pure fh63 rfl rfl .none (Kn.ex_move fh63 (.tmp rfl)) fun fa64 fh64 => ?_
      clear fh63 fa63
      refine wpList_nil ?_
      replace fh64 := fh64.cut (.cons (t := 39) rfl (.cons (t := 8) rfl (.cons (t := 37) rfl (.cons (t := 38) rfl (.cons (t := 7) rfl (.cons (t := 0) rfl (.cons (t := 1) rfl (.cons (t := 2) rfl .nil))))))))
      exact hKl12 (m12 - 1) _ _ (by omega) ⟨k + 1, fh64.cut (.turn (t := 39) rfl (by go_num) (.turn (t := 8) rfl (by rw [HF.out]; rfl) (.cons (t := 37) rfl (.cons (t := 38) rfl (.cons (t := 7) rfl (.cons (t := 0) rfl (.cons (t := 1) rfl (.cons (t := 2) rfl .nil)))))))), by omega, HL2, Lib.hid (HB.out.alloc HB.out.size _)⟩
    rcases b2 : smallB x2
    · rw [b1, b2] at HF
      refine wp_region_lit ?_
      refine Kn.pure fh48 rfl rfl .none (Kn.ex_move fh48 (.tmp rfl)) fun fa49 fh49 => ?_
      clear fh48 fa48
      refine Kn.pure fh49 rfl rfl .none (Kn.ex_move fh49 (.tmp rfl)) fun fa50 fh50 => ?_
      clear fh49 fa49
      refine Kn.pure fh50 rfl rfl (.some rfl rfl rfl) (Kn.ex_move fh50 (.tmp rfl)) fun fa51 fh51 => ?_
      clear fh50 fa50
      refine Kn.step fh51 rfl rfl (.some rfl rfl rfl) (Kn.ex_fieldAddr fh51 (.tmp rfl)) fun Ko hKo => ?_
      go_simp
      try go_bits
      refine hKo _ _ fun fa52 fh52 => ?_
      clear hKo Ko fh51 fa51
      refine Kn.step fh52 rfl rfl (.some rfl rfl rfl) (Kn.ex_load fh52 (.tmp rfl)) fun Ko hKo => ?_
      go_simp
      try go_bits
      refine hKo _ _ fun fa53 fh53 => ?_
      clear hKo Ko fh52 fa52
      refine Kn.call fh53 rfl rfl (.some rfl rfl rfl) (Kn.ex_callv fh53 (.tmp rfl) (.cons (.tmp rfl) .nil)) Tryz.call5 (small_any x1 _) fun e u1 hp => ?_
      obtain ⟨rfl, rfl⟩ := hp
      refine ⟨_, rfl, fun fa54 fh54 => ?_⟩
      clear fh53 fa53
      rw [b1] at fh54
      refine Kn.pure fh54 rfl rfl .none (Kn.ex_pick fh54 (.tmp rfl) (.tmp rfl)) fun fa55 fh55 => ?_
      clear fh54 fa54
      refine Kn.pure fh55 rfl rfl .none (Kn.ex_move fh55 (.tmp rfl)) fun fa56 fh56 => ?_
      clear fh55 fa55
      refine Kn.pure fh56 rfl rfl (.some rfl rfl rfl) (Kn.ex_move fh56 (.tmp rfl)) fun fa57 fh57 => ?_
      clear fh56 fa56
      refine Kn.step fh57 rfl rfl (.some rfl rfl rfl) (Kn.ex_fieldAddr fh57 (.tmp rfl)) fun Ko hKo => ?_
      go_simp
      try go_bits
      refine hKo _ _ fun fa58 fh58 => ?_
      clear hKo Ko fh57 fa57
      refine Kn.step fh58 rfl rfl (.some rfl rfl rfl) (Kn.ex_load fh58 (.tmp rfl)) fun Ko hKo => ?_
      go_simp
      try go_bits
      refine hKo _ _ fun fa59 fh59 => ?_
      clear hKo Ko fh58 fa58
      refine Kn.call fh59 rfl rfl (.some rfl rfl rfl) (Kn.ex_callv fh59 (.tmp rfl) (.cons (.tmp rfl) .nil)) Tryz.call5 (small_any x2 _) fun e u2 hp => ?_
      obtain ⟨rfl, rfl⟩ := hp
      refine ⟨_, rfl, fun fa60 fh60 => ?_⟩
      clear fh59 fa59
      rw [b2] at fh60
      refine Kn.pure fh60 rfl rfl .none (Kn.ex_pick fh60 (.tmp rfl) (.tmp rfl)) fun fa61 fh61 => ?_
      clear fh60 fa60
      refine Kn.pure fh61 rfl rfl .none (Kn.ex_assign fh61 (.tmp rfl)) fun fa62 fh62 => ?_
      clear fh61 fa61
      refine wpList_nil ?_
      refine Kn.block_normal ?_
      refine hK15 _ _ ?_
      clear hK15 K15
      replace fh62 := fh62.cut (.cons (t := 8) rfl (.cons (t := 39) rfl (.cons (t := 37) rfl (.cons (t := 38) rfl (.cons (t := 7) rfl (.cons (t := 0) rfl (.cons (t := 1) rfl (.cons (t := 2) rfl .nil))))))))
      refine wp_region_lit ?_
      refine Kn.step fh62 rfl rfl .none (Kn.ex_bin fh62 (.tmp rfl) .const) fun Ko hKo => ?_
      go_simp
      try go_bits
      refine hKo _ _ fun fa63 fh63 => ?_
      clear hKo Ko fh62 fa62
      refine Kn.pure fh63 rfl rfl .none (Kn.ex_move fh63 (.tmp rfl)) fun fa64 fh64 => ?_
      clear fh63 fa63
      refine wpList_nil ?_
      replace fh64 := fh64.cut (.cons (t := 39) rfl (.cons (t := 8) rfl (.cons (t := 37) rfl (.cons (t := 38) rfl (.cons (t := 7) rfl (.cons (t := 0) rfl (.cons (t := 1) rfl (.cons (t := 2) rfl .nil))))))))
      exact hKl12 (m12 - 1) _ _ (by omega) ⟨k + 1, fh64.cut (.turn (t := 39) rfl (by go_num) (.turn (t := 8) rfl (by rw [HF.out]; rfl) (.cons (t := 37) rfl (.cons (t := 38) rfl (.cons (t := 7) rfl (.cons (t := 0) rfl (.cons (t := 1) rfl (.cons (t := 2) rfl .nil)))))))), by omega, HL2, Lib.hid (HB.out.alloc HB.out.size _)⟩
    rw [b1, b2] at HF
    refine wp_region_lit ?_
    refine Kn.pure fh48 rfl rfl .none (Kn.ex_move fh48 (.tmp rfl)) fun fa49 fh49 => ?_
    clear fh48 fa48
    refine Kn.pure fh49 rfl rfl .none (Kn.ex_move fh49 (.tmp rfl)) fun fa50 fh50 => ?_
    clear fh49 fa49
    refine Kn.pure fh50 rfl rfl (.some rfl rfl rfl) (Kn.ex_move fh50 (.tmp rfl)) fun fa51 fh51 => ?_
    clear fh50 fa50
    refine Kn.step fh51 rfl rfl (.some rfl rfl rfl) (Kn.ex_fieldAddr fh51 (.tmp rfl)) fun Ko hKo => ?_
    go_simp
    try go_bits
    refine hKo _ _ fun fa52 fh52 => ?_
    clear hKo Ko fh51 fa51
    refine Kn.step fh52 rfl rfl (.some rfl rfl rfl) (Kn.ex_load fh52 (.tmp rfl)) fun Ko hKo => ?_
    go_simp
    try go_bits
    refine hKo _ _ fun fa53 fh53 => ?_
    clear hKo Ko fh52 fa52
    refine Kn.call fh53 rfl rfl (.some rfl rfl rfl) (Kn.ex_callv fh53 (.tmp rfl) (.cons (.tmp rfl) .nil)) Tryz.call5 (small_any x1 _) fun e u1 hp => ?_
    obtain ⟨rfl, rfl⟩ := hp
    refine ⟨_, rfl, fun fa54 fh54 => ?_⟩
    clear fh53 fa53
    rw [b1] at fh54
    refine Kn.pure fh54 rfl rfl .none (Kn.ex_pick fh54 (.tmp rfl) (.tmp rfl)) fun fa55 fh55 => ?_
    clear fh54 fa54
    refine Kn.pure fh55 rfl rfl .none (Kn.ex_move fh55 (.tmp rfl)) fun fa56 fh56 => ?_
    clear fh55 fa55
    refine Kn.pure fh56 rfl rfl (.some rfl rfl rfl) (Kn.ex_move fh56 (.tmp rfl)) fun fa57 fh57 => ?_
    clear fh56 fa56
    refine Kn.step fh57 rfl rfl (.some rfl rfl rfl) (Kn.ex_fieldAddr fh57 (.tmp rfl)) fun Ko hKo => ?_
    go_simp
    try go_bits
    refine hKo _ _ fun fa58 fh58 => ?_
    clear hKo Ko fh57 fa57
    refine Kn.step fh58 rfl rfl (.some rfl rfl rfl) (Kn.ex_load fh58 (.tmp rfl)) fun Ko hKo => ?_
    go_simp
    try go_bits
    refine hKo _ _ fun fa59 fh59 => ?_
    clear hKo Ko fh58 fa58
    refine Kn.call fh59 rfl rfl (.some rfl rfl rfl) (Kn.ex_callv fh59 (.tmp rfl) (.cons (.tmp rfl) .nil)) Tryz.call5 (small_any x2 _) fun e u2 hp => ?_
    obtain ⟨rfl, rfl⟩ := hp
    refine ⟨_, rfl, fun fa60 fh60 => ?_⟩
    clear fh59 fa59
    rw [b2] at fh60
    refine Kn.pure fh60 rfl rfl .none (Kn.ex_pick fh60 (.tmp rfl) (.tmp rfl)) fun fa61 fh61 => ?_
    clear fh60 fa60
    refine Kn.pure fh61 rfl rfl .none (Kn.ex_assign fh61 (.tmp rfl)) fun fa62 fh62 => ?_
    clear fh61 fa61
    refine wpList_nil ?_
    refine Kn.block_normal ?_
    refine hK15 _ _ ?_
    clear hK15 K15
    replace fh62 := fh62.cut (.cons (t := 8) rfl (.cons (t := 39) rfl (.cons (t := 37) rfl (.cons (t := 38) rfl (.cons (t := 7) rfl (.cons (t := 0) rfl (.cons (t := 1) rfl (.cons (t := 2) rfl .nil))))))))
    refine wp_region_lit ?_
    refine Kn.step fh62 rfl rfl .none (Kn.ex_bin fh62 (.tmp rfl) .const) fun Ko hKo => ?_
    go_simp
    try go_bits
    refine hKo _ _ fun fa63 fh63 => ?_
    clear hKo Ko fh62 fa62
    refine Kn.pure fh63 rfl rfl .none (Kn.ex_move fh63 (.tmp rfl)) fun fa64 fh64 => ?_
    clear fh63 fa63
    refine wpList_nil ?_
    replace fh64 := fh64.cut (.cons (t := 39) rfl (.cons (t := 8) rfl (.cons (t := 37) rfl (.cons (t := 38) rfl (.cons (t := 7) rfl (.cons (t := 0) rfl (.cons (t := 1) rfl (.cons (t := 2) rfl .nil))))))))
    exact hKl12 (m12 - 1) _ _ (by omega) ⟨k + 1, fh64.cut (.turn (t := 39) rfl (by go_num) (.turn (t := 8) rfl (by rw [HF.out]; rfl) (.cons (t := 37) rfl (.cons (t := 38) rfl (.cons (t := 7) rfl (.cons (t := 0) rfl (.cons (t := 1) rfl (.cons (t := 2) rfl .nil)))))))), by omega, HL2, Lib.hid (HB.out.alloc HB.out.size _)⟩
  obtain rfl : k = xs.length := by omega
  rw [List.take_length] at fh26
  have HA2 := Lib.hid (HA1.out.on HB.out)
  have HT2 := Lib.hid (HT1.out.on HB.out)
  have HV2 := Lib.hid (HV1.out.on HB.out)
  have HB2 := Lib.hid (HB1.out.trans (HB.out.mono HB1.out.size))
  have htx := text_p n A ca xs u HV2.out (by have := Hn.out; omega) (by have := Hn.out; omega) (by omega) HA2.out HBd.out
  clear HA1 HT1 HV1 HB1
  refine wp_seq_k fun K13 hK13 => ?_
  refine wp_region_lit ?_
  refine Kn.step fh26 rfl rfl .none (Kn.ex_bin fh26 (.tmp rfl) (.tmp rfl)) fun Ko hKo => ?_
  go_simp
  try go_bits
  refine hKo _ _ fun fa27 fh27 => ?_
  clear hKo Ko fh26 fa26
  refine wpList_nil ?_
  refine hK13 _ _ ?_
  clear hK13 K13
  refine wp_seq_k fun K14 hK14 => ?_
  refine Kn.no fh27 (.tmp rfl) ?_
  replace fh27 := fh27.cut (.cons (t := 39) rfl (.cons (t := 8) rfl (.cons (t := 37) rfl (.cons (t := 38) rfl (.cons (t := 7) rfl (.cons (t := 0) rfl (.cons (t := 1) rfl (.cons (t := 2) rfl .nil))))))))
  refine wp_exit ?_
  refine Kn.then_exit ?_
  clear hK14 K14
  refine Kn.then_exit ?_
  clear hKl12 Kl12
  refine Kn.block_exit ?_
  refine hK10 _ _ ?_
  clear hK10 K10
  replace fh27 := fh27.cut (.cons (t := 8) rfl (.cons (t := 0) rfl (.cons (t := 1) rfl (.cons (t := 2) rfl .nil))))
  refine wp_seq_k fun K15 hK15 => ?_
  refine wp_region_lit ?_
  refine Kn.pure fh27 rfl rfl .none (Kn.ex_move fh27 (.tmp rfl)) fun fa28 fh28 => ?_
  clear fh27 fa27
  refine Kn.pure fh28 rfl rfl .none (Kn.ex_move fh28 (.tmp rfl)) fun fa29 fh29 => ?_
  clear fh28 fa28
  refine Kn.call fh29 rfl rfl .none (Kn.ex_call fh29 (.cons (.tmp rfl) (.cons (.tmp rfl) .nil))) Tryz.call6 (htx) fun e w3 hp => ?_
  obtain ⟨rfl, hb3⟩ := hp
  refine ⟨_, rfl, fun fa30 fh30 => ?_⟩
  clear fh29 fa29
  refine Kn.pure fh30 rfl rfl .none (Kn.ex_assign fh30 (.tmp rfl)) fun fa31 fh31 => ?_
  clear fh30 fa30
  refine wpList_nil ?_
  refine hK15 _ _ ?_
  clear hK15 K15
  replace fh31 := fh31.cut (.cons (t := 11) rfl (.cons (t := 8) rfl (.cons (t := 0) rfl (.cons (t := 1) rfl (.cons (t := 2) rfl .nil)))))
  have HA3 := Lib.hid (HA2.out.on hb3)
  have HT3 := Lib.hid (HT2.out.on hb3)
  have HV3 := Lib.hid (HV2.out.on hb3)
  have HB3 := Lib.hid (HB2.out.trans (hb3.mono HB2.out.size))
  have HS3 : Hid ((sbl (Edg.txt n xs)).size ≤ 50000) := Lib.hid (by
    rw [sbl_size]
    have := txt_len n xs (by have := Hn.out; omega) (fun e he => by
      obtain ⟨i, hi, rfl⟩ := List.getElem_of_mem he
      have := HL.out i hi
      rw [Edg.ed_at _ _ hi] at this
      omega)
    omega)
  have HP := Lib.hid (parse_txt n xs)
  have hrt := fun v (hv : Edg.EIn v A xs) => Edg.refText_any n A ca xs v (by have := Hn.out; omega) (by have := Hn.out; omega) (by omega) hv (fun i hi => by have := HL.out i hi; omega)
  have HRT := Lib.hid hrt
  clear htx hb3 HA2 HT2 HV2 HB2 hrt HL
  rcases hfn : fineB n xs
  · obtain ⟨j, hj⟩ := HP.out.2 hfn
    have h1 := parse_left (s := sbl (Edg.txt n xs)) HV3.out HS3.out hj
    unfold Edg.faultV at h1
    rw [hfn] at fh31
    clear hfn hj
    refine wp_seq_k fun K16 hK16 => ?_
    refine wp_region_lit ?_
    refine Kn.pure fh31 rfl rfl .none (Kn.ex_move fh31 (.tmp rfl)) fun fa32 fh32 => ?_
    clear fh31 fa31
    refine Kn.call fh32 rfl rfl .none (Kn.ex_call fh32 (.cons (.tmp rfl) .nil)) Tryz.call7 (h1) fun e w4 hp => ?_
    obtain ⟨rfl, hb4⟩ := hp
    refine ⟨_, rfl, fun fa33 fh33 => ?_⟩
    clear fh32 fa32
    refine Kn.pure fh33 rfl rfl .none (Kn.ex_move fh33 (.tmp rfl)) fun fa34 fh34 => ?_
    clear fh33 fa33
    refine Kn.pure fh34 rfl rfl .none (Kn.ex_extract fh34 (.tmp rfl) rfl) fun fa35 fh35 => ?_
    clear fh34 fa34
    refine Kn.pure fh35 rfl rfl .none (Kn.ex_extract fh35 (.tmp rfl) rfl) fun fa36 fh36 => ?_
    clear fh35 fa35
    refine Kn.pure fh36 rfl rfl .none (Kn.ex_extract fh36 (.tmp rfl) rfl) fun fa37 fh37 => ?_
    clear fh36 fa36
    refine Kn.pure fh37 rfl rfl .none (Kn.ex_assign fh37 (.tmp rfl)) fun fa38 fh38 => ?_
    clear fh37 fa37
    refine Kn.pure fh38 rfl rfl .none (Kn.ex_assign fh38 (.tmp rfl)) fun fa39 fh39 => ?_
    clear fh38 fa38
    refine Kn.pure fh39 rfl rfl .none (Kn.ex_assign fh39 (.tmp rfl)) fun fa40 fh40 => ?_
    clear fh39 fa39
    refine wpList_nil ?_
    refine hK16 _ _ ?_
    clear hK16 K16
    replace fh40 := fh40.cut (.cons (t := 14) rfl (.cons (t := 13) rfl (.cons (t := 12) rfl (.cons (t := 11) rfl (.cons (t := 8) rfl (.cons (t := 0) rfl (.cons (t := 1) rfl (.cons (t := 2) rfl .nil))))))))
    have HA4 := Lib.hid (HA3.out.on hb4)
    have HT4 := Lib.hid (HT3.out.on hb4)
    have HV4 := Lib.hid (HV3.out.on hb4)
    have HB4 := Lib.hid (HB3.out.trans (hb4.mono HB3.out.size))
    have h2 := HRT.out w4 HA4.out
    clear h1 hb4 HA3 HT3 HV3 HB3
    have qn : (!decide (sbl (Edg.txt n xs) = sbl (Edg.txt n xs))) = false := by rw [decide_eq_true rfl]; rfl
    refine wp_seq_k fun K17 hK17 => ?_
    refine wp_seq_k fun K18 hK18 => ?_
    refine wp_region_lit ?_
    refine Kn.pure fh40 rfl rfl .none (Kn.ex_move fh40 (.tmp rfl)) fun fa41 fh41 => ?_
    clear fh40 fa40
    refine Kn.pure fh41 rfl rfl .none (Kn.ex_move fh41 (.tmp rfl)) fun fa42 fh42 => ?_
    clear fh41 fa41
    refine Kn.pure fh42 rfl rfl .none (Kn.ex_move fh42 (.tmp rfl)) fun fa43 fh43 => ?_
    clear fh42 fa42
    refine Kn.call fh43 rfl rfl .none (Kn.ex_call fh43 (.cons (.tmp rfl) (.cons (.tmp rfl) .nil))) Tryz.call8 (h2) fun e w5 hp => ?_
    obtain ⟨rfl, q5, hw5⟩ := hp
    refine ⟨_, rfl, fun fa44 fh44 => ?_⟩
    clear fh43 fa43
    have hb5 : Below w4.heap.size w4 w5 := hw5 ▸ below_drewN q5
    clear hw5
    have HT5 := Lib.hid (HT4.out.on hb5)
    have HV5 := Lib.hid (HV4.out.on hb5)
    have HB5 := Lib.hid (HB4.out.trans (hb5.mono HB4.out.size))
    clear hb5 h2
    refine Kn.known fh44 rfl rfl .none (Kn.ex_bin fh44 (.tmp rfl) (.tmp rfl)) (neqV Tryz.underlying9 qn) fun fa45 fh45 => ?_
    clear fh44 fa44
    refine Kn.pure fh45 rfl rfl .none (Kn.ex_move fh45 (.tmp rfl)) fun fa46 fh46 => ?_
    clear fh45 fa45
    refine Kn.pure fh46 rfl rfl (.some rfl rfl rfl) (Kn.ex_move fh46 (.tmp rfl)) fun fa47 fh47 => ?_
    clear fh46 fa46
    refine Kn.pure fh47 rfl rfl (.some rfl rfl rfl) (Kn.ex_move fh47 (.tmp rfl)) fun fa48 fh48 => ?_
    clear fh47 fa47
    refine Kn.step fh48 rfl rfl (.some rfl rfl rfl) (Kn.ex_bin fh48 (.tmp rfl) .const) fun Ko hKo => ?_
    go_simp
    try go_bits
    refine hKo _ _ fun fa49 fh49 => ?_
    clear hKo Ko fh48 fa48
    refine Kn.step fh49 rfl rfl (.some rfl rfl rfl) (Kn.ex_bin fh49 (.tmp rfl) (.tmp rfl)) fun Ko hKo => ?_
    go_simp
    try go_bits
    refine hKo _ _ fun fa50 fh50 => ?_
    clear hKo Ko fh49 fa49
    refine Kn.pure fh50 rfl rfl .none (Kn.ex_pick fh50 (.tmp rfl) (.tmp rfl)) fun fa51 fh51 => ?_
    clear fh50 fa50
    refine Kn.pure fh51 rfl rfl .none (Kn.ex_move fh51 (.tmp rfl)) fun fa52 fh52 => ?_
    clear fh51 fa51
    refine Kn.pure fh52 rfl rfl (.some rfl rfl rfl) (Kn.ex_move fh52 (.tmp rfl)) fun fa53 fh53 => ?_
    clear fh52 fa52
    refine Kn.pure fh53 rfl rfl (.some rfl rfl rfl) (Kn.ex_move fh53 (.tmp rfl)) fun fa54 fh54 => ?_
    clear fh53 fa53
    refine Kn.skip fh54 rfl rfl (.some rfl rfl rfl) fun fa55 fh55 => ?_
    clear fh54 fa54
    refine Kn.skip fh55 rfl rfl (.some rfl rfl rfl) fun fa56 fh56 => ?_
    clear fh55 fa55
    refine Kn.skip fh56 rfl rfl (.some rfl rfl rfl) fun fa57 fh57 => ?_
    clear fh56 fa56
    refine Kn.skip fh57 rfl rfl (.some rfl rfl rfl) fun fa58 fh58 => ?_
    clear fh57 fa57
    refine Kn.skip fh58 rfl rfl (.gone rfl rfl) fun fa59 fh59 => ?_
    clear fh58 fa58
    refine Kn.skip fh59 rfl rfl (.gone rfl rfl) fun fa60 fh60 => ?_
    clear fh59 fa59
    refine Kn.skip fh60 rfl rfl (.gone rfl rfl) fun fa61 fh61 => ?_
    clear fh60 fa60
    refine Kn.skip fh61 rfl rfl (.gone rfl rfl) fun fa62 fh62 => ?_
    clear fh61 fa61
    refine Kn.skip fh62 rfl rfl (.some rfl rfl rfl) fun fa63 fh63 => ?_
    clear fh62 fa62
    refine Kn.pure fh63 rfl rfl (.some rfl rfl rfl) (Kn.ex_pick fh63 (.tmp rfl) .const) fun fa64 fh64 => ?_
    clear fh63 fa63
    refine Kn.pure fh64 rfl rfl .none (Kn.ex_pick fh64 (.tmp rfl) (.tmp rfl)) fun fa65 fh65 => ?_
    clear fh64 fa64
    refine wpList_nil ?_
    refine hK18 _ _ ?_
    clear hK18 K18
    replace fh65 := fh65.cut (.cons (t := 108) rfl (.cons (t := 14) rfl (.cons (t := 13) rfl (.cons (t := 12) rfl (.cons (t := 2) rfl .nil)))))
    refine Kn.no fh65 (.tmp rfl) ?_
    refine wp_skip ?_
    refine hK17 _ _ ?_
    clear hK17 K17
    replace fh65 := fh65.cut (.cons (t := 14) rfl (.cons (t := 13) rfl (.cons (t := 12) rfl (.cons (t := 2) rfl .nil))))
    clear qn HT4 HV4 HB4 HA4
    rcases hR : parseW (wr s.data.toList) with j | ⟨n2, es⟩
    · have h1 := parse_left HV5.out (by omega) hR
      unfold Edg.faultV at h1
      have hj0 : (0 : Int) ≤ (j : Int) := by omega
      have HR := Lib.hid hR
      clear hR
      refine wp_seq_k fun K19 hK19 => ?_
      refine wp_region_lit ?_
      refine Kn.pure fh65 rfl rfl .none (Kn.ex_move fh65 (.tmp rfl)) fun fa66 fh66 => ?_
      clear fh65 fa65
      refine Kn.call fh66 rfl rfl .none (Kn.ex_call fh66 (.cons (.tmp rfl) .nil)) Tryz.call7 (h1) fun e w6 hp => ?_
      obtain ⟨rfl, hb6⟩ := hp
      refine ⟨_, rfl, fun fa67 fh67 => ?_⟩
      clear fh66 fa66
      refine Kn.pure fh67 rfl rfl .none (Kn.ex_move fh67 (.tmp rfl)) fun fa68 fh68 => ?_
      clear fh67 fa67
      refine Kn.pure fh68 rfl rfl .none (Kn.ex_extract fh68 (.tmp rfl) rfl) fun fa69 fh69 => ?_
      clear fh68 fa68
      refine Kn.pure fh69 rfl rfl .none (Kn.ex_extract fh69 (.tmp rfl) rfl) fun fa70 fh70 => ?_
      clear fh69 fa69
      refine Kn.pure fh70 rfl rfl .none (Kn.ex_extract fh70 (.tmp rfl) rfl) fun fa71 fh71 => ?_
      clear fh70 fa70
      refine Kn.pure fh71 rfl rfl .none (Kn.ex_assign fh71 (.tmp rfl)) fun fa72 fh72 => ?_
      clear fh71 fa71
      refine Kn.pure fh72 rfl rfl .none (Kn.ex_assign fh72 (.tmp rfl)) fun fa73 fh73 => ?_
      clear fh72 fa72
      refine Kn.pure fh73 rfl rfl .none (Kn.ex_assign fh73 (.tmp rfl)) fun fa74 fh74 => ?_
      clear fh73 fa73
      refine wpList_nil ?_
      refine hK19 _ _ ?_
      clear hK19 K19
      replace fh74 := fh74.cut (.cons (t := 14) rfl (.cons (t := 13) rfl (.cons (t := 12) rfl (.cons (t := 2) rfl .nil))))
      have HT6 := Lib.hid (HT5.out.on hb6)
      have HB6 := Lib.hid (HB5.out.trans (hb6.mono HB5.out.size))
      have h2 := refParse_left (w := w6) hss HR.out
      clear h1 hb6
      refine wp_seq_k fun K20 hK20 => ?_
      refine wp_region_lit ?_
      refine Kn.pure fh74 rfl rfl .none (Kn.ex_move fh74 (.tmp rfl)) fun fa75 fh75 => ?_
      clear fh74 fa74
      refine Kn.call fh75 rfl rfl .none (Kn.ex_call fh75 (.cons (.tmp rfl) .nil)) Tryz.call10 (h2) fun e w7 hp => ?_
      obtain ⟨rfl, hb7⟩ := hp
      refine ⟨_, rfl, fun fa76 fh76 => ?_⟩
      clear fh75 fa75
      refine Kn.pure fh76 rfl rfl .none (Kn.ex_move fh76 (.tmp rfl)) fun fa77 fh77 => ?_
      clear fh76 fa76
      refine Kn.pure fh77 rfl rfl .none (Kn.ex_extract fh77 (.tmp rfl) rfl) fun fa78 fh78 => ?_
      clear fh77 fa77
      refine Kn.pure fh78 rfl rfl .none (Kn.ex_extract fh78 (.tmp rfl) rfl) fun fa79 fh79 => ?_
      clear fh78 fa78
      refine Kn.pure fh79 rfl rfl .none (Kn.ex_extract fh79 (.tmp rfl) rfl) fun fa80 fh80 => ?_
      clear fh79 fa79
      refine Kn.pure fh80 rfl rfl .none (Kn.ex_assign fh80 (.tmp rfl)) fun fa81 fh81 => ?_
      clear fh80 fa80
      refine Kn.pure fh81 rfl rfl .none (Kn.ex_assign fh81 (.tmp rfl)) fun fa82 fh82 => ?_
      clear fh81 fa81
      refine Kn.pure fh82 rfl rfl .none (Kn.ex_assign fh82 (.tmp rfl)) fun fa83 fh83 => ?_
      clear fh82 fa82
      refine wpList_nil ?_
      refine hK20 _ _ ?_
      clear hK20 K20
      replace fh83 := fh83.cut (.cons (t := 17) rfl (.cons (t := 16) rfl (.cons (t := 15) rfl (.cons (t := 14) rfl (.cons (t := 13) rfl (.cons (t := 12) rfl .nil))))))
      have HT7 := Lib.hid (HT6.out.on hb7)
      have HB7 := Lib.hid (HB6.out.trans (hb7.mono HB6.out.size))
      have hcd := Err.code_F (j : Int) 4 w7 HT7.out
      unfold Err.faultV at hcd
      clear h2 hb7
      refine wp_seq_k fun K21 hK21 => ?_
      refine wp_seq_k fun K22 hK22 => ?_
      refine wp_region_lit ?_
      refine Kn.pure fh83 rfl rfl .none (Kn.ex_move fh83 (.tmp rfl)) fun fa84 fh84 => ?_
      clear fh83 fa83
      refine Kn.step fh84 rfl rfl .none (Kn.ex_bin fh84 (.tmp rfl) .const) fun Ko hKo => ?_
      go_simp
      try go_bits
      refine hKo _ _ fun fa85 fh85 => ?_
      clear hKo Ko fh84 fa84
      refine wpList_nil ?_
      refine hK22 _ _ ?_
      clear hK22 K22
      replace fh85 := fh85.cut (.cons (t := 122) rfl (.cons (t := 17) rfl (.cons (t := 16) rfl (.cons (t := 15) rfl (.cons (t := 14) rfl (.cons (t := 13) rfl (.cons (t := 12) rfl .nil)))))))
      refine Kn.yes fh85 (.tmp rfl) ?_
      replace fh85 := fh85.cut (.cons (t := 17) rfl (.cons (t := 16) rfl (.cons (t := 15) rfl (.cons (t := 14) rfl (.cons (t := 13) rfl (.cons (t := 12) rfl .nil))))))
      refine wp_seq_k fun K23 hK23 => ?_
      refine wp_region_lit ?_
      refine Kn.pure fh85 rfl rfl .none (Kn.ex_move fh85 (.tmp rfl)) fun fa86 fh86 => ?_
      clear fh85 fa85
      refine Kn.step fh86 rfl rfl .none (Kn.ex_bin fh86 (.tmp rfl) .const) fun Ko hKo => ?_
      go_simp
      try go_bits
      refine hKo _ _ fun fa87 fh87 => ?_
      clear hKo Ko fh86 fa86
      refine Kn.pure fh87 rfl rfl .none (Kn.ex_move fh87 (.tmp rfl)) fun fa88 fh88 => ?_
      clear fh87 fa87
      refine Kn.pure fh88 rfl rfl (.some rfl rfl rfl) (Kn.ex_move fh88 (.tmp rfl)) fun fa89 fh89 => ?_
      clear fh88 fa88
      refine Kn.step fh89 rfl rfl (.some rfl rfl rfl) (Kn.ex_len fh89 (.tmp rfl)) fun Ko hKo => ?_
      go_simp
      try go_bits
      refine hKo _ _ fun fa90 fh90 => ?_
      clear hKo Ko fh89 fa89
      refine Kn.step fh90 rfl rfl (.some rfl rfl rfl) (Kn.ex_bin fh90 (.tmp rfl) .const) fun Ko hKo => ?_
      go_simp
      try go_bits
      refine hKo _ _ fun fa91 fh91 => ?_
      clear hKo Ko fh90 fa90
      refine Kn.pure fh91 rfl rfl .none (Kn.ex_pick fh91 (.tmp rfl) (.tmp rfl)) fun fa92 fh92 => ?_
      clear fh91 fa91
      refine Kn.pure fh92 rfl rfl .none (Kn.ex_move fh92 (.tmp rfl)) fun fa93 fh93 => ?_
      clear fh92 fa92
      refine Kn.pure fh93 rfl rfl (.some rfl rfl rfl) (Kn.ex_move fh93 (.tmp rfl)) fun fa94 fh94 => ?_
      clear fh93 fa93
      refine Kn.call fh94 rfl rfl (.some rfl rfl rfl) (Kn.ex_call fh94 (.cons (.tmp rfl) .nil)) Tryz.call11 (hcd) fun e w8 hp => ?_
      obtain ⟨rfl, hb8⟩ := hp
      refine ⟨_, rfl, fun fa95 fh95 => ?_⟩
      clear fh94 fa94
      have hpl := Err.place_F (j : Int) 4 w8 (HT7.out.on hb8)
      unfold Err.faultV at hpl
      have HB8 := Lib.hid (HB7.out.trans (hb8.mono HB7.out.size))
      clear hb8 hcd
      refine Kn.step fh95 rfl rfl (.some rfl rfl rfl) (Kn.ex_bin fh95 (.tmp rfl) .const) fun Ko hKo => ?_
      go_simp
      try go_bits
      refine hKo _ _ fun fa96 fh96 => ?_
      clear hKo Ko fh95 fa95
      refine Kn.pure fh96 rfl rfl .none (Kn.ex_pick fh96 (.tmp rfl) (.tmp rfl)) fun fa97 fh97 => ?_
      clear fh96 fa96
      refine Kn.pure fh97 rfl rfl .none (Kn.ex_move fh97 (.tmp rfl)) fun fa98 fh98 => ?_
      clear fh97 fa97
      refine Kn.pure fh98 rfl rfl (.some rfl rfl rfl) (Kn.ex_move fh98 (.tmp rfl)) fun fa99 fh99 => ?_
      clear fh98 fa98
      refine Kn.call fh99 rfl rfl (.some rfl rfl rfl) (Kn.ex_call fh99 (.cons (.tmp rfl) .nil)) Tryz.call12 (hpl) fun e w9 hp => ?_
      obtain ⟨rfl, hb9⟩ := hp
      refine ⟨_, rfl, fun fa100 fh100 => ?_⟩
      clear fh99 fa99
      refine Kn.pure fh100 rfl rfl (.some rfl rfl rfl) (Kn.ex_move fh100 (.tmp rfl)) fun fa101 fh101 => ?_
      clear fh100 fa100
      refine Kn.step fh101 rfl rfl (.some rfl rfl rfl) (Kn.ex_bin fh101 (.tmp rfl) (.tmp rfl)) fun Ko hKo => ?_
      go_simp
      try go_bits
      refine hKo _ _ fun fa102 fh102 => ?_
      clear hKo Ko fh101 fa101
      refine Kn.pure fh102 rfl rfl .none (Kn.ex_pick fh102 (.tmp rfl) (.tmp rfl)) fun fa103 fh103 => ?_
      clear fh102 fa102
      refine Kn.pure fh103 rfl rfl .none (Kn.ex_assign fh103 (.tmp rfl)) fun fa104 fh104 => ?_
      clear fh103 fa103
      refine wpList_nil ?_
      refine hK23 _ _ ?_
      clear hK23 K23
      replace fh104 := fh104.cut (.cons (t := 6) rfl (.cons (t := 16) rfl (.cons (t := 15) rfl (.cons (t := 14) rfl (.cons (t := 13) rfl (.cons (t := 12) rfl .nil))))))
      refine wp_ret ?_
      refine Kn.then_ret ?_
      exact Kn.ret1 fh104 rfl rfl ⟨by simp, HB8.out.trans (hb9.mono HB8.out.size)⟩
    have h1 := parse_right HV5.out (by omega) hR
    have hel := es_len _ _ _ hR
    rw [← Lib.size_eq] at hel
    have HR := Lib.hid hR
    clear hR
    refine wp_seq_k fun K19 hK19 => ?_
    refine wp_region_lit ?_
    refine Kn.pure fh65 rfl rfl .none (Kn.ex_move fh65 (.tmp rfl)) fun fa66 fh66 => ?_
    clear fh65 fa65
    refine Kn.call fh66 rfl rfl .none (Kn.ex_call fh66 (.cons (.tmp rfl) .nil)) Tryz.call7 (h1) fun e w6 hp => ?_
    obtain ⟨A1, c1, rfl, hE1, hb6⟩ := hp
    refine ⟨_, rfl, fun fa67 fh67 => ?_⟩
    clear fh66 fa66
    refine Kn.pure fh67 rfl rfl .none (Kn.ex_move fh67 (.tmp rfl)) fun fa68 fh68 => ?_
    clear fh67 fa67
    refine Kn.pure fh68 rfl rfl .none (Kn.ex_extract fh68 (.tmp rfl) rfl) fun fa69 fh69 => ?_
    clear fh68 fa68
    refine Kn.pure fh69 rfl rfl .none (Kn.ex_extract fh69 (.tmp rfl) rfl) fun fa70 fh70 => ?_
    clear fh69 fa69
    refine Kn.pure fh70 rfl rfl .none (Kn.ex_extract fh70 (.tmp rfl) rfl) fun fa71 fh71 => ?_
    clear fh70 fa70
    refine Kn.pure fh71 rfl rfl .none (Kn.ex_assign fh71 (.tmp rfl)) fun fa72 fh72 => ?_
    clear fh71 fa71
    refine Kn.pure fh72 rfl rfl .none (Kn.ex_assign fh72 (.tmp rfl)) fun fa73 fh73 => ?_
    clear fh72 fa72
    refine Kn.pure fh73 rfl rfl .none (Kn.ex_assign fh73 (.tmp rfl)) fun fa74 fh74 => ?_
    clear fh73 fa73
    refine wpList_nil ?_
    refine hK19 _ _ ?_
    clear hK19 K19
    replace fh74 := fh74.cut (.cons (t := 14) rfl (.cons (t := 13) rfl (.cons (t := 12) rfl (.cons (t := 2) rfl .nil))))
    have HE6 := Lib.hid hE1
    have HB6 := Lib.hid (HB5.out.trans (hb6.mono HB5.out.size))
    have h2 := refParse_right (w := w6) hss HR.out
    clear h1 hE1 hb6
    refine wp_seq_k fun K20 hK20 => ?_
    refine wp_region_lit ?_
    refine Kn.pure fh74 rfl rfl .none (Kn.ex_move fh74 (.tmp rfl)) fun fa75 fh75 => ?_
    clear fh74 fa74
    refine Kn.call fh75 rfl rfl .none (Kn.ex_call fh75 (.cons (.tmp rfl) .nil)) Tryz.call10 (h2) fun e w7 hp => ?_
    obtain ⟨A2, c2, rfl, hE2, hb7⟩ := hp
    refine ⟨_, rfl, fun fa76 fh76 => ?_⟩
    clear fh75 fa75
    refine Kn.pure fh76 rfl rfl .none (Kn.ex_move fh76 (.tmp rfl)) fun fa77 fh77 => ?_
    clear fh76 fa76
    refine Kn.pure fh77 rfl rfl .none (Kn.ex_extract fh77 (.tmp rfl) rfl) fun fa78 fh78 => ?_
    clear fh77 fa77
    refine Kn.pure fh78 rfl rfl .none (Kn.ex_extract fh78 (.tmp rfl) rfl) fun fa79 fh79 => ?_
    clear fh78 fa78
    refine Kn.pure fh79 rfl rfl .none (Kn.ex_extract fh79 (.tmp rfl) rfl) fun fa80 fh80 => ?_
    clear fh79 fa79
    refine Kn.pure fh80 rfl rfl .none (Kn.ex_assign fh80 (.tmp rfl)) fun fa81 fh81 => ?_
    clear fh80 fa80
    refine Kn.pure fh81 rfl rfl .none (Kn.ex_assign fh81 (.tmp rfl)) fun fa82 fh82 => ?_
    clear fh81 fa81
    refine Kn.pure fh82 rfl rfl .none (Kn.ex_assign fh82 (.tmp rfl)) fun fa83 fh83 => ?_
    clear fh82 fa82
    refine wpList_nil ?_
    refine hK20 _ _ ?_
    clear hK20 K20
    replace fh83 := fh83.cut (.cons (t := 17) rfl (.cons (t := 16) rfl (.cons (t := 15) rfl (.cons (t := 14) rfl (.cons (t := 13) rfl (.cons (t := 12) rfl .nil))))))
    have hsm := Edg.same_any A1 A2 c1 c2 es es w7 (by unfold maxLen; omega) (by unfold maxLen; omega) (HE6.out.on hb7) hE2
    rw [decide_eq_true rfl] at hsm
    have HB7 := Lib.hid (HB6.out.trans (hb7.mono HB6.out.size))
    clear h2 hE2 hb7
    refine wp_seq_k fun K21 hK21 => ?_
    refine wp_seq_k fun K22 hK22 => ?_
    refine wp_region_lit ?_
    refine Kn.pure fh83 rfl rfl .none (Kn.ex_move fh83 (.tmp rfl)) fun fa84 fh84 => ?_
    clear fh83 fa83
    refine Kn.step fh84 rfl rfl .none (Kn.ex_bin fh84 (.tmp rfl) .const) fun Ko hKo => ?_
    go_simp
    try go_bits
    refine hKo _ _ fun fa85 fh85 => ?_
    clear hKo Ko fh84 fa84
    refine wpList_nil ?_
    refine hK22 _ _ ?_
    clear hK22 K22
    replace fh85 := fh85.cut (.cons (t := 122) rfl (.cons (t := 17) rfl (.cons (t := 16) rfl (.cons (t := 15) rfl (.cons (t := 14) rfl (.cons (t := 13) rfl (.cons (t := 12) rfl .nil)))))))
    refine Kn.no fh85 (.tmp rfl) ?_
    refine wp_skip ?_
    refine hK21 _ _ ?_
    clear hK21 K21
    replace fh85 := fh85.cut (.cons (t := 16) rfl (.cons (t := 15) rfl (.cons (t := 14) rfl (.cons (t := 13) rfl (.cons (t := 12) rfl .nil)))))
    refine wp_seq_k fun K23 hK23 => ?_
    refine wp_region_lit ?_
    refine Kn.pure fh85 rfl rfl .none (Kn.ex_move fh85 (.tmp rfl)) fun fa86 fh86 => ?_
    clear fh85 fa85
    refine Kn.step fh86 rfl rfl .none (Kn.ex_bin fh86 (.tmp rfl) .const) fun Ko hKo => ?_
    go_simp
    try go_bits
    refine hKo _ _ fun fa87 fh87 => ?_
    clear hKo Ko fh86 fa86
    refine Kn.pure fh87 rfl rfl .none (Kn.ex_move fh87 (.tmp rfl)) fun fa88 fh88 => ?_
    clear fh87 fa87
    refine Kn.pure fh88 rfl rfl (.some rfl rfl rfl) (Kn.ex_move fh88 (.tmp rfl)) fun fa89 fh89 => ?_
    clear fh88 fa88
    refine Kn.pure fh89 rfl rfl (.some rfl rfl rfl) (Kn.ex_move fh89 (.tmp rfl)) fun fa90 fh90 => ?_
    clear fh89 fa89
    refine Kn.step fh90 rfl rfl (.some rfl rfl rfl) (Kn.ex_bin fh90 (.tmp rfl) (.tmp rfl)) fun Ko hKo => ?_
    go_simp
    try go_bits
    refine hKo _ _ fun fa91 fh91 => ?_
    clear hKo Ko fh90 fa90
    refine Kn.pure fh91 rfl rfl .none (Kn.ex_pick fh91 (.tmp rfl) (.tmp rfl)) fun fa92 fh92 => ?_
    clear fh91 fa91
    refine Kn.pure fh92 rfl rfl .none (Kn.ex_move fh92 (.tmp rfl)) fun fa93 fh93 => ?_
    clear fh92 fa92
    refine Kn.pure fh93 rfl rfl (.some rfl rfl rfl) (Kn.ex_move fh93 (.tmp rfl)) fun fa94 fh94 => ?_
    clear fh93 fa93
    refine Kn.pure fh94 rfl rfl (.some rfl rfl rfl) (Kn.ex_move fh94 (.tmp rfl)) fun fa95 fh95 => ?_
    clear fh94 fa94
    refine Kn.call fh95 rfl rfl (.some rfl rfl rfl) (Kn.ex_call fh95 (.cons (.tmp rfl) (.cons (.tmp rfl) .nil))) Tryz.call9 (hsm) fun e w8 hp => ?_
    obtain ⟨rfl, q, rfl⟩ := hp
    refine ⟨_, rfl, fun fa96 fh96 => ?_⟩
    clear fh95 fa95
    refine Kn.pure fh96 rfl rfl .none (Kn.ex_pick fh96 (.tmp rfl) (.tmp rfl)) fun fa97 fh97 => ?_
    clear fh96 fa96
    refine Kn.pure fh97 rfl rfl .none (Kn.ex_assign fh97 (.tmp rfl)) fun fa98 fh98 => ?_
    clear fh97 fa97
    refine wpList_nil ?_
    refine hK23 _ _ ?_
    clear hK23 K23
    replace fh98 := fh98.cut (.cons (t := 6) rfl .nil)
    refine wp_ret ?_
    exact Kn.ret1 fh98 rfl rfl ⟨by simp, ⟨HB7.out.1, HB7.out.2, HB7.out.3, HB7.out.4, HB7.out.5⟩⟩
  have h1 := parse_right (s := sbl (Edg.txt n xs)) HV3.out HS3.out (HP.out.1 hfn)
  rw [hfn] at fh31
  clear hfn
  refine wp_seq_k fun K16 hK16 => ?_
  refine wp_region_lit ?_
  refine Kn.pure fh31 rfl rfl .none (Kn.ex_move fh31 (.tmp rfl)) fun fa32 fh32 => ?_
  clear fh31 fa31
  refine Kn.call fh32 rfl rfl .none (Kn.ex_call fh32 (.cons (.tmp rfl) .nil)) Tryz.call7 (h1) fun e w4 hp => ?_
  obtain ⟨B1, d1, rfl, hE4, hb4⟩ := hp
  refine ⟨_, rfl, fun fa33 fh33 => ?_⟩
  clear fh32 fa32
  refine Kn.pure fh33 rfl rfl .none (Kn.ex_move fh33 (.tmp rfl)) fun fa34 fh34 => ?_
  clear fh33 fa33
  refine Kn.pure fh34 rfl rfl .none (Kn.ex_extract fh34 (.tmp rfl) rfl) fun fa35 fh35 => ?_
  clear fh34 fa34
  refine Kn.pure fh35 rfl rfl .none (Kn.ex_extract fh35 (.tmp rfl) rfl) fun fa36 fh36 => ?_
  clear fh35 fa35
  refine Kn.pure fh36 rfl rfl .none (Kn.ex_extract fh36 (.tmp rfl) rfl) fun fa37 fh37 => ?_
  clear fh36 fa36
  refine Kn.pure fh37 rfl rfl .none (Kn.ex_assign fh37 (.tmp rfl)) fun fa38 fh38 => ?_
  clear fh37 fa37
  refine Kn.pure fh38 rfl rfl .none (Kn.ex_assign fh38 (.tmp rfl)) fun fa39 fh39 => ?_
  clear fh38 fa38
  refine Kn.pure fh39 rfl rfl .none (Kn.ex_assign fh39 (.tmp rfl)) fun fa40 fh40 => ?_
  clear fh39 fa39
  refine wpList_nil ?_
  refine hK16 _ _ ?_
  clear hK16 K16
  replace fh40 := fh40.cut (.cons (t := 14) rfl (.cons (t := 13) rfl (.cons (t := 12) rfl (.cons (t := 11) rfl (.cons (t := 8) rfl (.cons (t := 0) rfl (.cons (t := 1) rfl (.cons (t := 2) rfl .nil))))))))
  have HA4 := Lib.hid (HA3.out.on hb4)
  have HE4 := Lib.hid hE4
  have HT4 := Lib.hid (HT3.out.on hb4)
  have HV4 := Lib.hid (HV3.out.on hb4)
  have HB4 := Lib.hid (HB3.out.trans (hb4.mono HB3.out.size))
  have h2 := HRT.out w4 HA4.out
  clear h1 hb4 hE4 HA3 HT3 HV3 HB3
  have qn : (!decide (sbl (Edg.txt n xs) = sbl (Edg.txt n xs))) = false := by rw [decide_eq_true rfl]; rfl
  refine wp_seq_k fun K17 hK17 => ?_
  refine wp_seq_k fun K18 hK18 => ?_
  refine wp_region_lit ?_
  refine Kn.pure fh40 rfl rfl .none (Kn.ex_move fh40 (.tmp rfl)) fun fa41 fh41 => ?_
  clear fh40 fa40
  refine Kn.pure fh41 rfl rfl .none (Kn.ex_move fh41 (.tmp rfl)) fun fa42 fh42 => ?_
  clear fh41 fa41
  refine Kn.pure fh42 rfl rfl .none (Kn.ex_move fh42 (.tmp rfl)) fun fa43 fh43 => ?_
  clear fh42 fa42
  refine Kn.call fh43 rfl rfl .none (Kn.ex_call fh43 (.cons (.tmp rfl) (.cons (.tmp rfl) .nil))) Tryz.call8 (h2) fun e w5 hp => ?_
  obtain ⟨rfl, q5, hw5⟩ := hp
  refine ⟨_, rfl, fun fa44 fh44 => ?_⟩
  clear fh43 fa43
  have hb5 : Below w4.heap.size w4 w5 := hw5 ▸ below_drewN q5
  clear hw5
  have HT5 := Lib.hid (HT4.out.on hb5)
  have HV5 := Lib.hid (HV4.out.on hb5)
  have HB5 := Lib.hid (HB4.out.trans (hb5.mono HB4.out.size))
  have hsm := Edg.same_any B1 A d1 ca xs xs w5 (by unfold maxLen; omega) (by unfold maxLen; omega) (HE4.out.on hb5) (HA4.out.on hb5)
  rw [decide_eq_true rfl] at hsm
  clear hb5 h2
  refine Kn.known fh44 rfl rfl .none (Kn.ex_bin fh44 (.tmp rfl) (.tmp rfl)) (neqV Tryz.underlying9 qn) fun fa45 fh45 => ?_
  clear fh44 fa44
  refine Kn.pure fh45 rfl rfl .none (Kn.ex_move fh45 (.tmp rfl)) fun fa46 fh46 => ?_
  clear fh45 fa45
  refine Kn.pure fh46 rfl rfl (.some rfl rfl rfl) (Kn.ex_move fh46 (.tmp rfl)) fun fa47 fh47 => ?_
  clear fh46 fa46
  refine Kn.pure fh47 rfl rfl (.some rfl rfl rfl) (Kn.ex_move fh47 (.tmp rfl)) fun fa48 fh48 => ?_
  clear fh47 fa47
  refine Kn.step fh48 rfl rfl (.some rfl rfl rfl) (Kn.ex_bin fh48 (.tmp rfl) .const) fun Ko hKo => ?_
  go_simp
  try go_bits
  refine hKo _ _ fun fa49 fh49 => ?_
  clear hKo Ko fh48 fa48
  refine Kn.step fh49 rfl rfl (.some rfl rfl rfl) (Kn.ex_bin fh49 (.tmp rfl) (.tmp rfl)) fun Ko hKo => ?_
  go_simp
  try go_bits
  refine hKo _ _ fun fa50 fh50 => ?_
  clear hKo Ko fh49 fa49
  refine Kn.pure fh50 rfl rfl .none (Kn.ex_pick fh50 (.tmp rfl) (.tmp rfl)) fun fa51 fh51 => ?_
  clear fh50 fa50
  refine Kn.pure fh51 rfl rfl .none (Kn.ex_move fh51 (.tmp rfl)) fun fa52 fh52 => ?_
  clear fh51 fa51
  refine Kn.pure fh52 rfl rfl (.some rfl rfl rfl) (Kn.ex_move fh52 (.tmp rfl)) fun fa53 fh53 => ?_
  clear fh52 fa52
  refine Kn.pure fh53 rfl rfl (.some rfl rfl rfl) (Kn.ex_move fh53 (.tmp rfl)) fun fa54 fh54 => ?_
  clear fh53 fa53
  refine Kn.pure fh54 rfl rfl (.some rfl rfl rfl) (Kn.ex_move fh54 (.tmp rfl)) fun fa55 fh55 => ?_
  clear fh54 fa54
  refine Kn.pure fh55 rfl rfl (.some rfl rfl rfl) (Kn.ex_move fh55 (.tmp rfl)) fun fa56 fh56 => ?_
  clear fh55 fa55
  refine Kn.step fh56 rfl rfl (.some rfl rfl rfl) (Kn.ex_bin fh56 (.tmp rfl) (.tmp rfl)) fun Ko hKo => ?_
  go_simp
  try go_bits
  refine hKo _ _ fun fa57 fh57 => ?_
  clear hKo Ko fh56 fa56
  refine Kn.pure fh57 rfl rfl (.some rfl rfl rfl) (Kn.ex_move fh57 (.tmp rfl)) fun fa58 fh58 => ?_
  clear fh57 fa57
  refine Kn.pure fh58 rfl rfl (.some rfl rfl rfl) (Kn.ex_move fh58 (.tmp rfl)) fun fa59 fh59 => ?_
  clear fh58 fa58
  refine Kn.pure fh59 rfl rfl (.some rfl rfl rfl) (Kn.ex_move fh59 (.tmp rfl)) fun fa60 fh60 => ?_
  clear fh59 fa59
  refine Kn.call fh60 rfl rfl (.some rfl rfl rfl) (Kn.ex_call fh60 (.cons (.tmp rfl) (.cons (.tmp rfl) .nil))) Tryz.call9 (hsm) fun e w6 hp => ?_
  obtain ⟨rfl, q6, rfl⟩ := hp
  refine ⟨_, rfl, fun fa61 fh61 => ?_⟩
  clear fh60 fa60
  refine Kn.step fh61 rfl rfl (.some rfl rfl rfl) (Kn.ex_un fh61 (.tmp rfl)) fun Ko hKo => ?_
  go_simp
  try go_bits
  refine hKo _ _ fun fa62 fh62 => ?_
  clear hKo Ko fh61 fa61
  refine Kn.pure fh62 rfl rfl (.some rfl rfl rfl) (Kn.ex_pick fh62 (.tmp rfl) (.tmp rfl)) fun fa63 fh63 => ?_
  clear fh62 fa62
  refine Kn.pure fh63 rfl rfl (.some rfl rfl rfl) (Kn.ex_pick fh63 (.tmp rfl) (.tmp rfl)) fun fa64 fh64 => ?_
  clear fh63 fa63
  refine Kn.pure fh64 rfl rfl .none (Kn.ex_pick fh64 (.tmp rfl) (.tmp rfl)) fun fa65 fh65 => ?_
  clear fh64 fa64
  refine wpList_nil ?_
  refine hK18 _ _ ?_
  clear hK18 K18
  replace fh65 := fh65.cut (.cons (t := 108) rfl (.cons (t := 14) rfl (.cons (t := 13) rfl (.cons (t := 12) rfl (.cons (t := 2) rfl .nil)))))
  refine Kn.no fh65 (.tmp rfl) ?_
  refine wp_skip ?_
  refine hK17 _ _ ?_
  clear hK17 K17
  replace fh65 := fh65.cut (.cons (t := 14) rfl (.cons (t := 13) rfl (.cons (t := 12) rfl (.cons (t := 2) rfl .nil))))
  refine Kn.gen (fun v => Below w5.heap.size w5 v) (below_drewN q6) fun w6 hb6 => ?_
  have HT6 := Lib.hid (HT5.out.on hb6)
  have HV6 := Lib.hid (HV5.out.on hb6)
  have HB6 := Lib.hid (HB5.out.trans (hb6.mono HB5.out.size))
  clear qn hsm hb6 HT4 HV4 HB4 HA4 HE4 HT5 HV5 HB5
  rcases hR : parseW (wr s.data.toList) with j | ⟨n2, es⟩
  · have h1 := parse_left HV6.out (by omega) hR
    unfold Edg.faultV at h1
    have hj0 : (0 : Int) ≤ (j : Int) := by omega
    have HR := Lib.hid hR
    clear hR
    refine wp_seq_k fun K19 hK19 => ?_
    refine wp_region_lit ?_
    refine Kn.pure fh65 rfl rfl .none (Kn.ex_move fh65 (.tmp rfl)) fun fa66 fh66 => ?_
    clear fh65 fa65
    refine Kn.call fh66 rfl rfl .none (Kn.ex_call fh66 (.cons (.tmp rfl) .nil)) Tryz.call7 (h1) fun e w7 hp => ?_
    obtain ⟨rfl, hb7⟩ := hp
    refine ⟨_, rfl, fun fa67 fh67 => ?_⟩
    clear fh66 fa66
    refine Kn.pure fh67 rfl rfl .none (Kn.ex_move fh67 (.tmp rfl)) fun fa68 fh68 => ?_
    clear fh67 fa67
    refine Kn.pure fh68 rfl rfl .none (Kn.ex_extract fh68 (.tmp rfl) rfl) fun fa69 fh69 => ?_
    clear fh68 fa68
    refine Kn.pure fh69 rfl rfl .none (Kn.ex_extract fh69 (.tmp rfl) rfl) fun fa70 fh70 => ?_
    clear fh69 fa69
    refine Kn.pure fh70 rfl rfl .none (Kn.ex_extract fh70 (.tmp rfl) rfl) fun fa71 fh71 => ?_
    clear fh70 fa70
    refine Kn.pure fh71 rfl rfl .none (Kn.ex_assign fh71 (.tmp rfl)) fun fa72 fh72 => ?_
    clear fh71 fa71
    refine Kn.pure fh72 rfl rfl .none (Kn.ex_assign fh72 (.tmp rfl)) fun fa73 fh73 => ?_
    clear fh72 fa72
    refine Kn.pure fh73 rfl rfl .none (Kn.ex_assign fh73 (.tmp rfl)) fun fa74 fh74 => ?_
    clear fh73 fa73
    refine wpList_nil ?_
    refine hK19 _ _ ?_
    clear hK19 K19
    replace fh74 := fh74.cut (.cons (t := 14) rfl (.cons (t := 13) rfl (.cons (t := 12) rfl (.cons (t := 2) rfl .nil))))
    have HT7 := Lib.hid (HT6.out.on hb7)
    have HB7 := Lib.hid (HB6.out.trans (hb7.mono HB6.out.size))
    have h2 := refParse_left (w := w7) hss HR.out
    clear h1 hb7
    refine wp_seq_k fun K20 hK20 => ?_
    refine wp_region_lit ?_
    refine Kn.pure fh74 rfl rfl .none (Kn.ex_move fh74 (.tmp rfl)) fun fa75 fh75 => ?_
    clear fh74 fa74
    refine Kn.call fh75 rfl rfl .none (Kn.ex_call fh75 (.cons (.tmp rfl) .nil)) Tryz.call10 (h2) fun e w8 hp => ?_
    obtain ⟨rfl, hb8⟩ := hp
    refine ⟨_, rfl, fun fa76 fh76 => ?_⟩
    clear fh75 fa75
    refine Kn.pure fh76 rfl rfl .none (Kn.ex_move fh76 (.tmp rfl)) fun fa77 fh77 => ?_
    clear fh76 fa76
    refine Kn.pure fh77 rfl rfl .none (Kn.ex_extract fh77 (.tmp rfl) rfl) fun fa78 fh78 => ?_
    clear fh77 fa77
    refine Kn.pure fh78 rfl rfl .none (Kn.ex_extract fh78 (.tmp rfl) rfl) fun fa79 fh79 => ?_
    clear fh78 fa78
    refine Kn.pure fh79 rfl rfl .none (Kn.ex_extract fh79 (.tmp rfl) rfl) fun fa80 fh80 => ?_
    clear fh79 fa79
    refine Kn.pure fh80 rfl rfl .none (Kn.ex_assign fh80 (.tmp rfl)) fun fa81 fh81 => ?_
    clear fh80 fa80
    refine Kn.pure fh81 rfl rfl .none (Kn.ex_assign fh81 (.tmp rfl)) fun fa82 fh82 => ?_
    clear fh81 fa81
    refine Kn.pure fh82 rfl rfl .none (Kn.ex_assign fh82 (.tmp rfl)) fun fa83 fh83 => ?_
    clear fh82 fa82
    refine wpList_nil ?_
    refine hK20 _ _ ?_
    clear hK20 K20
    replace fh83 := fh83.cut (.cons (t := 17) rfl (.cons (t := 16) rfl (.cons (t := 15) rfl (.cons (t := 14) rfl (.cons (t := 13) rfl (.cons (t := 12) rfl .nil))))))
    have HT8 := Lib.hid (HT7.out.on hb8)
    have HB8 := Lib.hid (HB7.out.trans (hb8.mono HB7.out.size))
    have hcd := Err.code_F (j : Int) 4 w8 HT8.out
    unfold Err.faultV at hcd
    clear h2 hb8
    refine wp_seq_k fun K21 hK21 => ?_
    refine wp_seq_k fun K22 hK22 => ?_
    refine wp_region_lit ?_
    refine Kn.pure fh83 rfl rfl .none (Kn.ex_move fh83 (.tmp rfl)) fun fa84 fh84 => ?_
    clear fh83 fa83
    refine Kn.step fh84 rfl rfl .none (Kn.ex_bin fh84 (.tmp rfl) .const) fun Ko hKo => ?_
    go_simp
    try go_bits
    refine hKo _ _ fun fa85 fh85 => ?_
    clear hKo Ko fh84 fa84
    refine wpList_nil ?_
    refine hK22 _ _ ?_
    clear hK22 K22
    replace fh85 := fh85.cut (.cons (t := 122) rfl (.cons (t := 17) rfl (.cons (t := 16) rfl (.cons (t := 15) rfl (.cons (t := 14) rfl (.cons (t := 13) rfl (.cons (t := 12) rfl .nil)))))))
    refine Kn.yes fh85 (.tmp rfl) ?_
    replace fh85 := fh85.cut (.cons (t := 17) rfl (.cons (t := 16) rfl (.cons (t := 15) rfl (.cons (t := 14) rfl (.cons (t := 13) rfl (.cons (t := 12) rfl .nil))))))
    refine wp_seq_k fun K23 hK23 => ?_
    refine wp_region_lit ?_
    refine Kn.pure fh85 rfl rfl .none (Kn.ex_move fh85 (.tmp rfl)) fun fa86 fh86 => ?_
    clear fh85 fa85
    refine Kn.step fh86 rfl rfl .none (Kn.ex_bin fh86 (.tmp rfl) .const) fun Ko hKo => ?_
    go_simp
    try go_bits
    refine hKo _ _ fun fa87 fh87 => ?_
    clear hKo Ko fh86 fa86
    refine Kn.pure fh87 rfl rfl .none (Kn.ex_move fh87 (.tmp rfl)) fun fa88 fh88 => ?_
    clear fh87 fa87
    refine Kn.pure fh88 rfl rfl (.some rfl rfl rfl) (Kn.ex_move fh88 (.tmp rfl)) fun fa89 fh89 => ?_
    clear fh88 fa88
    refine Kn.step fh89 rfl rfl (.some rfl rfl rfl) (Kn.ex_len fh89 (.tmp rfl)) fun Ko hKo => ?_
    go_simp
    try go_bits
    refine hKo _ _ fun fa90 fh90 => ?_
    clear hKo Ko fh89 fa89
    refine Kn.step fh90 rfl rfl (.some rfl rfl rfl) (Kn.ex_bin fh90 (.tmp rfl) .const) fun Ko hKo => ?_
    go_simp
    try go_bits
    refine hKo _ _ fun fa91 fh91 => ?_
    clear hKo Ko fh90 fa90
    refine Kn.pure fh91 rfl rfl .none (Kn.ex_pick fh91 (.tmp rfl) (.tmp rfl)) fun fa92 fh92 => ?_
    clear fh91 fa91
    refine Kn.pure fh92 rfl rfl .none (Kn.ex_move fh92 (.tmp rfl)) fun fa93 fh93 => ?_
    clear fh92 fa92
    refine Kn.pure fh93 rfl rfl (.some rfl rfl rfl) (Kn.ex_move fh93 (.tmp rfl)) fun fa94 fh94 => ?_
    clear fh93 fa93
    refine Kn.call fh94 rfl rfl (.some rfl rfl rfl) (Kn.ex_call fh94 (.cons (.tmp rfl) .nil)) Tryz.call11 (hcd) fun e w9 hp => ?_
    obtain ⟨rfl, hb9⟩ := hp
    refine ⟨_, rfl, fun fa95 fh95 => ?_⟩
    clear fh94 fa94
    have hpl := Err.place_F (j : Int) 4 w9 (HT8.out.on hb9)
    unfold Err.faultV at hpl
    have HB9 := Lib.hid (HB8.out.trans (hb9.mono HB8.out.size))
    clear hb9 hcd
    refine Kn.step fh95 rfl rfl (.some rfl rfl rfl) (Kn.ex_bin fh95 (.tmp rfl) .const) fun Ko hKo => ?_
    go_simp
    try go_bits
    refine hKo _ _ fun fa96 fh96 => ?_
    clear hKo Ko fh95 fa95
    refine Kn.pure fh96 rfl rfl .none (Kn.ex_pick fh96 (.tmp rfl) (.tmp rfl)) fun fa97 fh97 => ?_
    clear fh96 fa96
    refine Kn.pure fh97 rfl rfl .none (Kn.ex_move fh97 (.tmp rfl)) fun fa98 fh98 => ?_
    clear fh97 fa97
    refine Kn.pure fh98 rfl rfl (.some rfl rfl rfl) (Kn.ex_move fh98 (.tmp rfl)) fun fa99 fh99 => ?_
    clear fh98 fa98
    refine Kn.call fh99 rfl rfl (.some rfl rfl rfl) (Kn.ex_call fh99 (.cons (.tmp rfl) .nil)) Tryz.call12 (hpl) fun e w10 hp => ?_
    obtain ⟨rfl, hb10⟩ := hp
    refine ⟨_, rfl, fun fa100 fh100 => ?_⟩
    clear fh99 fa99
    refine Kn.pure fh100 rfl rfl (.some rfl rfl rfl) (Kn.ex_move fh100 (.tmp rfl)) fun fa101 fh101 => ?_
    clear fh100 fa100
    refine Kn.step fh101 rfl rfl (.some rfl rfl rfl) (Kn.ex_bin fh101 (.tmp rfl) (.tmp rfl)) fun Ko hKo => ?_
    go_simp
    try go_bits
    refine hKo _ _ fun fa102 fh102 => ?_
    clear hKo Ko fh101 fa101
    refine Kn.pure fh102 rfl rfl .none (Kn.ex_pick fh102 (.tmp rfl) (.tmp rfl)) fun fa103 fh103 => ?_
    clear fh102 fa102
    refine Kn.pure fh103 rfl rfl .none (Kn.ex_assign fh103 (.tmp rfl)) fun fa104 fh104 => ?_
    clear fh103 fa103
    refine wpList_nil ?_
    refine hK23 _ _ ?_
    clear hK23 K23
    replace fh104 := fh104.cut (.cons (t := 6) rfl (.cons (t := 16) rfl (.cons (t := 15) rfl (.cons (t := 14) rfl (.cons (t := 13) rfl (.cons (t := 12) rfl .nil))))))
    refine wp_ret ?_
    refine Kn.then_ret ?_
    exact Kn.ret1 fh104 rfl rfl ⟨by simp, HB9.out.trans (hb10.mono HB9.out.size)⟩
  have h1 := parse_right HV6.out (by omega) hR
  have hel := es_len _ _ _ hR
  rw [← Lib.size_eq] at hel
  have HR := Lib.hid hR
  clear hR
  refine wp_seq_k fun K19 hK19 => ?_
  refine wp_region_lit ?_
  refine Kn.pure fh65 rfl rfl .none (Kn.ex_move fh65 (.tmp rfl)) fun fa66 fh66 => ?_
  clear fh65 fa65
  refine Kn.call fh66 rfl rfl .none (Kn.ex_call fh66 (.cons (.tmp rfl) .nil)) Tryz.call7 (h1) fun e w7 hp => ?_
  obtain ⟨A1, c1, rfl, hE1, hb7⟩ := hp
  refine ⟨_, rfl, fun fa67 fh67 => ?_⟩
  clear fh66 fa66
  refine Kn.pure fh67 rfl rfl .none (Kn.ex_move fh67 (.tmp rfl)) fun fa68 fh68 => ?_
  clear fh67 fa67
  refine Kn.pure fh68 rfl rfl .none (Kn.ex_extract fh68 (.tmp rfl) rfl) fun fa69 fh69 => ?_
  clear fh68 fa68
  refine Kn.pure fh69 rfl rfl .none (Kn.ex_extract fh69 (.tmp rfl) rfl) fun fa70 fh70 => ?_
  clear fh69 fa69
  refine Kn.pure fh70 rfl rfl .none (Kn.ex_extract fh70 (.tmp rfl) rfl) fun fa71 fh71 => ?_
  clear fh70 fa70
  refine Kn.pure fh71 rfl rfl .none (Kn.ex_assign fh71 (.tmp rfl)) fun fa72 fh72 => ?_
  clear fh71 fa71
  refine Kn.pure fh72 rfl rfl .none (Kn.ex_assign fh72 (.tmp rfl)) fun fa73 fh73 => ?_
  clear fh72 fa72
  refine Kn.pure fh73 rfl rfl .none (Kn.ex_assign fh73 (.tmp rfl)) fun fa74 fh74 => ?_
  clear fh73 fa73
  refine wpList_nil ?_
  refine hK19 _ _ ?_
  clear hK19 K19
  replace fh74 := fh74.cut (.cons (t := 14) rfl (.cons (t := 13) rfl (.cons (t := 12) rfl (.cons (t := 2) rfl .nil))))
  have HE7 := Lib.hid hE1
  have HB7 := Lib.hid (HB6.out.trans (hb7.mono HB6.out.size))
  have h2 := refParse_right (w := w7) hss HR.out
  clear h1 hE1 hb7
  refine wp_seq_k fun K20 hK20 => ?_
  refine wp_region_lit ?_
  refine Kn.pure fh74 rfl rfl .none (Kn.ex_move fh74 (.tmp rfl)) fun fa75 fh75 => ?_
  clear fh74 fa74
  refine Kn.call fh75 rfl rfl .none (Kn.ex_call fh75 (.cons (.tmp rfl) .nil)) Tryz.call10 (h2) fun e w8 hp => ?_
  obtain ⟨A2, c2, rfl, hE2, hb8⟩ := hp
  refine ⟨_, rfl, fun fa76 fh76 => ?_⟩
  clear fh75 fa75
  refine Kn.pure fh76 rfl rfl .none (Kn.ex_move fh76 (.tmp rfl)) fun fa77 fh77 => ?_
  clear fh76 fa76
  refine Kn.pure fh77 rfl rfl .none (Kn.ex_extract fh77 (.tmp rfl) rfl) fun fa78 fh78 => ?_
  clear fh77 fa77
  refine Kn.pure fh78 rfl rfl .none (Kn.ex_extract fh78 (.tmp rfl) rfl) fun fa79 fh79 => ?_
  clear fh78 fa78
  refine Kn.pure fh79 rfl rfl .none (Kn.ex_extract fh79 (.tmp rfl) rfl) fun fa80 fh80 => ?_
  clear fh79 fa79
  refine Kn.pure fh80 rfl rfl .none (Kn.ex_assign fh80 (.tmp rfl)) fun fa81 fh81 => ?_
  clear fh80 fa80
  refine Kn.pure fh81 rfl rfl .none (Kn.ex_assign fh81 (.tmp rfl)) fun fa82 fh82 => ?_
  clear fh81 fa81
  refine Kn.pure fh82 rfl rfl .none (Kn.ex_assign fh82 (.tmp rfl)) fun fa83 fh83 => ?_
  clear fh82 fa82
  refine wpList_nil ?_
  refine hK20 _ _ ?_
  clear hK20 K20
  replace fh83 := fh83.cut (.cons (t := 17) rfl (.cons (t := 16) rfl (.cons (t := 15) rfl (.cons (t := 14) rfl (.cons (t := 13) rfl (.cons (t := 12) rfl .nil))))))
  have hsm := Edg.same_any A1 A2 c1 c2 es es w8 (by unfold maxLen; omega) (by unfold maxLen; omega) (HE7.out.on hb8) hE2
  rw [decide_eq_true rfl] at hsm
  have HB8 := Lib.hid (HB7.out.trans (hb8.mono HB7.out.size))
  clear h2 hE2 hb8
  refine wp_seq_k fun K21 hK21 => ?_
  refine wp_seq_k fun K22 hK22 => ?_
  refine wp_region_lit ?_
  refine Kn.pure fh83 rfl rfl .none (Kn.ex_move fh83 (.tmp rfl)) fun fa84 fh84 => ?_
  clear fh83 fa83
  refine Kn.step fh84 rfl rfl .none (Kn.ex_bin fh84 (.tmp rfl) .const) fun Ko hKo => ?_
  go_simp
  try go_bits
  refine hKo _ _ fun fa85 fh85 => ?_
  clear hKo Ko fh84 fa84
  refine wpList_nil ?_
  refine hK22 _ _ ?_
  clear hK22 K22
  replace fh85 := fh85.cut (.cons (t := 122) rfl (.cons (t := 17) rfl (.cons (t := 16) rfl (.cons (t := 15) rfl (.cons (t := 14) rfl (.cons (t := 13) rfl (.cons (t := 12) rfl .nil)))))))
  refine Kn.no fh85 (.tmp rfl) ?_
  refine wp_skip ?_
  refine hK21 _ _ ?_
  clear hK21 K21
  replace fh85 := fh85.cut (.cons (t := 16) rfl (.cons (t := 15) rfl (.cons (t := 14) rfl (.cons (t := 13) rfl (.cons (t := 12) rfl .nil)))))
  refine wp_seq_k fun K23 hK23 => ?_
  refine wp_region_lit ?_
  refine Kn.pure fh85 rfl rfl .none (Kn.ex_move fh85 (.tmp rfl)) fun fa86 fh86 => ?_
  clear fh85 fa85
  refine Kn.step fh86 rfl rfl .none (Kn.ex_bin fh86 (.tmp rfl) .const) fun Ko hKo => ?_
  go_simp
  try go_bits
  refine hKo _ _ fun fa87 fh87 => ?_
  clear hKo Ko fh86 fa86
  refine Kn.pure fh87 rfl rfl .none (Kn.ex_move fh87 (.tmp rfl)) fun fa88 fh88 => ?_
  clear fh87 fa87
  refine Kn.pure fh88 rfl rfl (.some rfl rfl rfl) (Kn.ex_move fh88 (.tmp rfl)) fun fa89 fh89 => ?_
  clear fh88 fa88
  refine Kn.pure fh89 rfl rfl (.some rfl rfl rfl) (Kn.ex_move fh89 (.tmp rfl)) fun fa90 fh90 => ?_
  clear fh89 fa89
  refine Kn.step fh90 rfl rfl (.some rfl rfl rfl) (Kn.ex_bin fh90 (.tmp rfl) (.tmp rfl)) fun Ko hKo => ?_
  go_simp
  try go_bits
  refine hKo _ _ fun fa91 fh91 => ?_
  clear hKo Ko fh90 fa90
  refine Kn.pure fh91 rfl rfl .none (Kn.ex_pick fh91 (.tmp rfl) (.tmp rfl)) fun fa92 fh92 => ?_
  clear fh91 fa91
  refine Kn.pure fh92 rfl rfl .none (Kn.ex_move fh92 (.tmp rfl)) fun fa93 fh93 => ?_
  clear fh92 fa92
  refine Kn.pure fh93 rfl rfl (.some rfl rfl rfl) (Kn.ex_move fh93 (.tmp rfl)) fun fa94 fh94 => ?_
  clear fh93 fa93
  refine Kn.pure fh94 rfl rfl (.some rfl rfl rfl) (Kn.ex_move fh94 (.tmp rfl)) fun fa95 fh95 => ?_
  clear fh94 fa94
  refine Kn.call fh95 rfl rfl (.some rfl rfl rfl) (Kn.ex_call fh95 (.cons (.tmp rfl) (.cons (.tmp rfl) .nil))) Tryz.call9 (hsm) fun e w9 hp => ?_
  obtain ⟨rfl, q, rfl⟩ := hp
  refine ⟨_, rfl, fun fa96 fh96 => ?_⟩
  clear fh95 fa95
  refine Kn.pure fh96 rfl rfl .none (Kn.ex_pick fh96 (.tmp rfl) (.tmp rfl)) fun fa97 fh97 => ?_
  clear fh96 fa96
  refine Kn.pure fh97 rfl rfl .none (Kn.ex_assign fh97 (.tmp rfl)) fun fa98 fh98 => ?_
  clear fh97 fa97
  refine wpList_nil ?_
  refine hK23 _ _ ?_
  clear hK23 K23
  replace fh98 := fh98.cut (.cons (t := 6) rfl .nil)
  refine wp_ret ?_
  exact Kn.ret1 fh98 rfl rfl ⟨by simp, ⟨HB8.out.1, HB8.out.2, HB8.out.3, HB8.out.4, HB8.out.5⟩⟩

end Go.Proofs.YtnmpcendimdoeaaGreatDoor.Txt
