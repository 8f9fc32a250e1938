/- The walk of the law FrameRows. -/
import Derived.Test.YthjdlilafamaoaaFrameE
namespace Go.Proofs.Ythjdlilafamaoaa.Frame
open Go.RowKit Go.Lib

theorem fc_cut (ss : Nat → ByteArray) : ∀ (N c : Nat), (∀ j, j < N → (ss j).size ≤ 100) → c ≤ (fc ss N).length →
    ∃ (K m : Nat) (t : List UInt8), K ≤ N ∧ (fc ss N).take c = fc ss K ++ (frameB t).take m ∧ m < t.length + 6 ∧ t.length ≤ 60000 ∧ (∀ j, j < K → (fc ss (j + 1)).length ≤ c) ∧ (K < N → c < (fc ss (K + 1)).length) := by
  intro N
  induction N with
  | zero =>
    intro c _ h
    have : c = 0 := by simp [fc] at h; exact h
    subst this
    exact ⟨0, 0, [], Nat.le_refl _, by simp [fc], by simp, by simp, fun j hj => by omega, fun h => by omega⟩
  | succ N ih =>
    intro c hs h
    by_cases h1 : c = (fc ss (N + 1)).length
    · refine ⟨N + 1, 0, [], Nat.le_refl _, by rw [h1]; simp, by simp, by simp, fun j hj => ?_, fun h => by omega⟩
      rw [h1]; exact fc_le ss _ _ (by omega)
    · by_cases h2 : (fc ss N).length ≤ c
      · have hl := fc_len ss N
        have hsz := hs N (by omega)
        have e1 : (ss N).data.toList.length = (ss N).size := rfl
        refine ⟨N, c - (fc ss N).length, (ss N).data.toList, by omega, ?_, by omega, by omega, fun j hj => Nat.le_trans (fc_le ss _ _ (by omega)) h2, fun _ => by omega⟩
        rw [fc, List.take_append, List.take_of_length_le h2]
      · obtain ⟨K, m, t, hK, he, hm, ht, h3, h4⟩ := ih c (fun j hj => hs j (by omega)) (by omega)
        refine ⟨K, m, t, by omega, ?_, hm, ht, h3, fun h => ?_⟩
        · rw [fc, List.take_append_of_le_length (by omega), he]
        · by_cases hKN : K < N
          · exact h4 hKN
          · have : K = N := by omega
            subst this; rw [fc_len]; omega
theorem fc_bound (ss : Nat → ByteArray) : ∀ k, (∀ j, j < k → (ss j).size ≤ 100) → (fc ss k).length ≤ 106 * k := by
  intro k
  induction k with
  | zero => intro _; simp [fc]
  | succ k ih => intro h; have := ih (fun j hj => h j (by omega)); have := h k (by omega); rw [fc_len]; omega
/-- Where the frames end. -/
def endV (ss : Nat → ByteArray) (j : Nat) : Value := .int .i64 ((fc ss (j + 1)).length : Int)
theorem infoInt : (Try.prog.info? 3).map (fun i => (i.zero, i.size, i.bytes)) = some (some (.int .i64 0), 1, 8) := by kernel_rfl

set_option maxRecDepth 100000 in
set_option maxHeartbeats 4000000 in
theorem rows_main (A : Option Addr) (n c x : Nat) (ss : Nat → ByteArray) (w : World) (hn : n ≤ 20) (hx : x ≤ 65535)
    (hA : Oct.SArg w A n (fun k => .string (ss k))) (hb : ∀ k, k < n → (ss k).size ≤ maxLen) :
    Calls Try.prog 3 #[.slice A n c, .int .u16 (x : Int)] w fun e w' => e = .returned (.bool true) ∧ Below w.heap.size w w' := by
  obtain ⟨i0, hi, hz0, hz1, hz2⟩ := info_parts infoInt
  have HA := Lib.hid hA
  have HS := Lib.hid hb
  clear hA hb
  go_enter Try.func3, Try.ntmps3
  go_wp2_with (go_at_call 5; refine (awake_any _).mono ?_; rintro e w1 ⟨rfl, hb1⟩; refine Hid.out ?_)
  refine Lib.hid ?_
  have B1 := Lib.hid hb1
  clear hb1
  go_wp2
  go_loopw [5, 6, 24] (fun s v i wr => ∃ k : Nat, k ≤ n ∧ i = .int .i64 k ∧ s = .string (sbl (fc ss k)) ∧ Hid (∀ j, j < k → (ss j).size ≤ 100) ∧ Hid (wr.ownsRow w.heap.size 3 1 v k ((List.range k).map (endV ss))) ∧ Hid (Below w.heap.size w wr)) (fun _ _ i _ => n - (RowKit.intOf i).toNat)
  case atStart => exact ⟨0, by omega, rfl, rfl, Lib.hid (fun j hj => by omega), Lib.hid (World.ownsRow_nil _ _ _ _), B1⟩
  case round =>
    clear B1
    obtain ⟨k, hk, rfl, rfl, HQ, HO, HB⟩ := hrel
    have hlk : (sbl (fc ss k)).size ≤ 2120 := by rw [sbl_size]; have := fc_bound ss k HQ.out; omega
    by_cases hlt : k < n
    · obtain ⟨b, o, rfl, hbl, hc0⟩ := HA.out k hlt
      have hc : wr.cell? ⟨b, o + k, none⟩ = some (.string (ss k)) := (HB.out.cell (p := ⟨b, o + k, none⟩) hbl).trans hc0
      clear hc0
      have hsz := HS.out k hlt
      unfold maxLen at hsz
      obtain ⟨T, hT⟩ : ∃ T, ss k = T := ⟨_, rfl⟩
      rw [hT] at hc hsz
      have HT := Lib.hid hT
      clear hT
      by_cases hbig : 100 < T.size
      · go_wp2
        go_ret
        exact ⟨rfl, HB.out⟩
      · have hfs : (frameS T).size ≤ 106 := by rw [frameS_size]; omega
        go_wp2_with (go_at_call 6; refine (seal_ok T _ (by omega)).mono ?_; rintro e w2 ⟨rfl, hb2⟩; refine Hid.out ?_)
        refine Lib.hid ?_
        have HO1 := Lib.hid (ownsRow_below HO.out hb2 (Nat.le_refl _))
        have HB1 := Lib.hid (HB.out.trans (hb2.mono HB.out.size))
        have hs1 := HB1.out.size
        clear hb2
        have hsum : (sbl (fc ss k) ++ frameS T).size ≤ 3000 := by rw [show frameS T = sbl (frameB T.data.toList) from rfl, sbl_app, sbl_size, List.length_append, frameB_len]; have := fc_bound ss k HQ.out; have e1 : T.data.toList.length = T.size := rfl; omega
        have HN : Hid (sbl (fc ss k) ++ frameS T = sbl (fc ss (k + 1))) := Lib.hid (by rw [show frameS T = sbl (frameB T.data.toList) from rfl, sbl_app, fc, HT.out])
        obtain ⟨U, hU⟩ : ∃ U, sbl (fc ss k) ++ frameS T = U := ⟨_, rfl⟩
        have HNU := HN.out
        rw [hU] at hsum HNU
        have HU := Lib.hid HNU
        clear HN HNU
        go_wp2_with (at_builtin; refine wpList_append_own _ rfl _ _ 25 rfl w.heap.size 3 i0 (.int .i64 0) 1 8 Try.underlying25 hi hz0 hz1 hz2 rfl (by decide) _ _ _ rfl (HO1.out.alloc _) ⟨w2.heap.size, 0, none⟩ 1 1 [Value.int .i64 (U.size : Int)] rfl rfl ?c1 ?c2 ?c3 ?c4 ?c5 ?_)
        case c1 => exact cell_one_new _ _ _
        case c2 => intro u hu; simp at hu; subst hu; rfl
        case c3 => unfold maxLen; omega
        case c4 => omega
        case c5 => simp; omega
        intro v' w3 hown' hgrow _
        have HB2 := Lib.hid ((HB1.out.alloc hs1 _).grown hgrow (by simp; omega) (fun k hk => (HO1.out.lt k hk).1))
        have HO2 : Hid (w3.ownsRow w.heap.size 3 1 v' (k + 1) ((List.range (k + 1)).map (endV ss))) := Lib.hid (by
          rw [List.range_succ, List.map_append]
          have e : Value.int .i64 (U.size : Int) = endV ss k := by unfold endV; rw [HU.out, sbl_size]
          rw [e] at hown'
          exact hown')
        clear hown' hgrow hU
        go_wp2
        go_roundw
        case rel => exact ⟨k + 1, by omega, by go_num, by rw [HU.out], Lib.hid (fun j hj => by
          by_cases hj2 : j < k
          · exact HQ.out j hj2
          · have : j = k := by omega
            subst this; rw [HT.out]; omega), HO2, HB2⟩
        case measure => simp [RowKit.intOf]; omega
    · obtain rfl : k = n := by omega
      clear hlt hk
      obtain ⟨L, hL⟩ : ∃ L, (fc ss k).length = L := ⟨_, rfl⟩
      have hLb : L ≤ 2120 := by rw [← hL]; exact hlk
      have hsz : (sbl (fc ss k)).size = L := hL
      obtain ⟨cut, hcut⟩ : ∃ cut : Nat, x % (L + 1) = cut := ⟨_, rfl⟩
      have hcl : cut ≤ L := by rw [← hcut]; have := Nat.mod_lt x (show 0 < L + 1 by omega); omega
      have hmod : (x : Int) % ((L : Int) + 1) = (cut : Int) := by rw [← hcut, Int.natCast_emod, Int.natCast_add]; rfl
      have HK := Lib.hid (fc_cut ss k cut HQ.out (by rw [hL]; exact hcl))
      obtain ⟨K, m, t, hKn, he, hm, ht, h3, h4⟩ := HK.out
      have H3 := Lib.hid h3
      have H4 := Lib.hid h4
      have HM := Lib.hid hm
      have HTl := Lib.hid ht
      have HDat : Hid ((((sbl (fc ss k)).extract 0 cut)).data.toList = fc ss K ++ (frameB t).take m) := Lib.hid (by rw [extract_data, List.drop_zero, Nat.sub_zero, sbl_data, he])
      have HExS : Hid (((sbl (fc ss k)).extract 0 cut).size ≤ 1099511627776) := Lib.hid (by simp [ByteArray.size_extract]; omega)
      have HL := Lib.hid hL
      clear h3 h4 hm ht he HK hcut hL hlk
      go_wp2_with (go_at_call 7; refine (all_any ((sbl (fc ss k)).extract 0 cut) ss K m t _ HExS.out HDat.out (fun j hj => Nat.le_trans (HQ.out j (by omega)) (by omega)) HTl.out HM.out).mono ?_; rintro e w2 ⟨AG, cG, rfl, hG, hb2⟩; refine Hid.out ?_)
      refine Lib.hid ?_
      have HO1 := Lib.hid (ownsRow_below HO.out hb2 (Nat.le_refl _))
      have HB1 := Lib.hid (HB.out.trans (hb2.mono HB.out.size))
      have HG := Lib.hid hG
      clear hb2 hG hmod hsz HExS HDat
      obtain ⟨AE, cE, rfl, hAE⟩ := own_sarg HO1.out
      have HAE := Lib.hid hAE
      clear hAE HO HO1
      have hs1 := HB1.out.size
      obtain ⟨P, hP⟩ : ∃ P, (fc ss K).length = P := ⟨_, rfl⟩
      rw [hP]
      have HP := Lib.hid hP
      clear hP
      go_wp2
      go_loop [14] (fun i => ∃ j : Nat, j ≤ K ∧ i = .int .i64 j) (fun i => K - (RowKit.intOf i).toNat)
      case atStart => exact ⟨0, by omega, rfl⟩
      case round =>
        obtain ⟨j, hj, rfl⟩ := hrel
        by_cases hjK : j < K
        · obtain ⟨b, o, rfl, hbl, hc⟩ := HAE.out j (by omega)
          unfold endV at hc
          have hle := H3.out j hjK
          have hjn : j < k := by omega
          obtain ⟨E, hE⟩ : ∃ E, (fc ss (j + 1)).length = E := ⟨_, rfl⟩
          rw [hE] at hc hle
          clear hE
          go_wp2
          go_round
          case rel => exact ⟨j + 1, by omega, by go_num⟩
          case measure => simp [RowKit.intOf]; omega
        · obtain rfl : j = K := by omega
          clear hj hjK
          rcases Nat.eq_zero_or_pos j with rfl | hj0
          · by_cases hjn : 0 < k
            · obtain ⟨b2, o2, rfl, hbl2, hc⟩ := HAE.out 0 (by omega)
              unfold endV at hc
              have hgt := H4.out hjn
              obtain ⟨E, hE⟩ : ∃ E, (fc ss (0 + 1)).length = E := ⟨_, rfl⟩
              rw [hE] at hc hgt
              rw [Nat.add_zero] at hc
              clear hE
              go_wp2
              go_loop [93] (fun i => ∃ q : Nat, q ≤ 0 ∧ i = .int .i64 q) (fun i => 0 - (RowKit.intOf i).toNat)
              case atStart => exact ⟨0, by omega, rfl⟩
              case round =>
                obtain ⟨q, hq, rfl⟩ := hrel
                by_cases hqj : q < 0
                · exact absurd hqj (by omega)
                · go_wp2
                  go_ret
                  exact ⟨rfl, HB1.out⟩
            · go_wp2
              go_loop [93] (fun i => ∃ q : Nat, q ≤ 0 ∧ i = .int .i64 q) (fun i => 0 - (RowKit.intOf i).toNat)
              case atStart => exact ⟨0, by omega, rfl⟩
              case round =>
                obtain ⟨q, hq, rfl⟩ := hrel
                by_cases hqj : q < 0
                · exact absurd hqj (by omega)
                · go_wp2
                  go_ret
                  exact ⟨rfl, HB1.out⟩
          · by_cases hjn : j < k
            · obtain ⟨b2, o2, hAE2, hbl2, hc⟩ := HAE.out j (by omega)
              unfold endV at hc
              have hgt := H4.out hjn
              obtain ⟨E, hE⟩ : ∃ E, (fc ss (j + 1)).length = E := ⟨_, rfl⟩
              rw [hE] at hc hgt
              clear hE
              obtain ⟨b, o, rfl, hbl, hcl⟩ := HAE.out (j - 1) (by omega)
              have hcp : w2.cell? ⟨b, o + (j - 1), none⟩ = some (.int .i64 (P : Int)) := by rw [hcl]; unfold endV; rw [show j - 1 + 1 = j by omega, HP.out]
              clear hcl
              have hj1 : j - 1 < k := by omega
              obtain ⟨rfl, rfl⟩ : b = b2 ∧ o = o2 := by simpa using hAE2
              clear hAE2
              go_wp2
              go_loop [93] (fun i => ∃ q : Nat, q ≤ j ∧ i = .int .i64 q) (fun i => j - (RowKit.intOf i).toNat)
              case atStart => exact ⟨0, by omega, rfl⟩
              case round =>
                obtain ⟨q, hq, rfl⟩ := hrel
                by_cases hqj : q < j
                · obtain ⟨bG, oG, rfl, hblG, hcG⟩ := HG.out q hqj
                  obtain ⟨bA, oA, rfl, hblA, hcA0⟩ := HA.out q (by omega)
                  have hcA : w2.cell? ⟨bA, oA + q, none⟩ = some (.string (ss q)) := (HB1.out.cell (p := ⟨bA, oA + q, none⟩) hblA).trans hcA0
                  have hqn : q < k := by omega
                  clear hcA0
                  obtain ⟨T, hT⟩ : ∃ T, ss q = T := ⟨_, rfl⟩
                  simp only [hT] at hcA hcG
                  clear hT
                  go_wp2
                  go_round
                  case rel => exact ⟨q + 1, by omega, by go_num⟩
                  case measure => simp [RowKit.intOf]; omega
                · go_wp2
                  go_ret
                  exact ⟨rfl, HB1.out⟩
            · have hkj : k ≤ j := by omega
              obtain ⟨b, o, rfl, hbl, hcl⟩ := HAE.out (j - 1) (by omega)
              have hcp : w2.cell? ⟨b, o + (j - 1), none⟩ = some (.int .i64 (P : Int)) := by rw [hcl]; unfold endV; rw [show j - 1 + 1 = j by omega, HP.out]
              clear hcl
              have hj1 : j - 1 < k := by omega
              go_wp2
              go_loop [93] (fun i => ∃ q : Nat, q ≤ j ∧ i = .int .i64 q) (fun i => j - (RowKit.intOf i).toNat)
              case atStart => exact ⟨0, by omega, rfl⟩
              case round =>
                obtain ⟨q, hq, rfl⟩ := hrel
                by_cases hqj : q < j
                · obtain ⟨bG, oG, rfl, hblG, hcG⟩ := HG.out q hqj
                  obtain ⟨bA, oA, rfl, hblA, hcA0⟩ := HA.out q (by omega)
                  have hcA : w2.cell? ⟨bA, oA + q, none⟩ = some (.string (ss q)) := (HB1.out.cell (p := ⟨bA, oA + q, none⟩) hblA).trans hcA0
                  have hqn : q < k := by omega
                  clear hcA0
                  obtain ⟨T, hT⟩ : ∃ T, ss q = T := ⟨_, rfl⟩
                  simp only [hT] at hcA hcG
                  clear hT
                  go_wp2
                  go_round
                  case rel => exact ⟨q + 1, by omega, by go_num⟩
                  case measure => simp [RowKit.intOf]; omega
                · go_wp2
                  go_ret
                  exact ⟨rfl, HB1.out⟩

set_option maxRecDepth 100000 in
set_option maxHeartbeats 1000000 in
theorem rows_e (A : Option Addr) (n c x : Nat) (w : World) (hn : 20 < n) (hm : n ≤ maxLen) :
    Calls Try.prog 3 #[.slice A n c, .int .u16 (x : Int)] w fun e w' => e = .returned (.bool true) ∧ Below w.heap.size w w' := by
  unfold maxLen at hm
  go_enter Try.func3, Try.ntmps3
  go_wp2_with (go_at_call 5; refine (awake_any _).mono ?_; rintro e w1 ⟨rfl, hb1⟩)
  go_ret
  exact ⟨rfl, hb1⟩
theorem rows_walk (A : Option Addr) (n c : Nat) (x : Int) (ss : Nat → ByteArray) (w : World) (hm : n ≤ maxLen) (hx0 : 0 ≤ x) (hx : x ≤ 65535)
    (hA : Oct.SArg w A n (fun k => .string (ss k))) (hb : ∀ k, k < n → (ss k).size ≤ maxLen) :
    Calls Try.prog 3 #[.slice A n c, .int .u16 x] w fun e w' => e = .returned (.bool true) ∧ Below w.heap.size w w' := by
  obtain ⟨y, rfl⟩ : ∃ y : Nat, x = (y : Int) := ⟨x.toNat, by omega⟩
  by_cases h : 20 < n
  · exact rows_e A n c y w h hm
  · exact rows_main A n c y ss w (by omega) (by omega) hA hb
end Go.Proofs.Ythjdlilafamaoaa.Frame
