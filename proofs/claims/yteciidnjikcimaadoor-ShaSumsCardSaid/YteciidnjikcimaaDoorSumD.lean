/- The document's digest: Digest, by its contracts; the law ShaSums. -/
import Derived.Test.YteciidnjikcimaaDoorSumL
import Derived.Test.YteciidnjikcimaaDoorSumsWalk
namespace Go.Proofs.YteciidnjikcimaaDoor.Sha
open Go.RowKit Go.Lib

set_option maxRecDepth 100000 in
set_option maxHeartbeats 400000 in
theorem digestOk : DigestOk := by
  intro t w ht
  refine Kn.calls Tryd.func8 rfl Tryd.ntmps8 rfl (.cons (t := 0) rfl .nil) fun fa0 fh0 => ?_
  refine wp_seq_k fun K1 hK1 => ?_
  refine wp_region_lit ?_
  refine Kn.pure fh0 rfl rfl .none (Kn.ex_assign fh0 .const) fun fa1 fh1 => ?_
  clear fh0 fa0
  refine wpList_nil ?_
  refine hK1 _ _ ?_
  clear hK1 K1
  refine wp_seq_k fun K2 hK2 => ?_
  refine wp_region_lit ?_
  refine Kn.pure fh1 rfl rfl .none (Kn.ex_move fh1 (.tmp rfl)) fun fa2 fh2 => ?_
  clear fh1 fa1
  refine Kn.call fh2 rfl rfl .none (Kn.ex_call fh2 .nil) Tryd.call14 (refK_any _) fun e w1 hp => ?_
  obtain ⟨A1, c1, rfl, hn1, hb1, -⟩ := hp
  refine ⟨_, rfl, fun fa3 fh3 => ?_⟩
  clear fh2 fa2
  obtain ⟨b1, o1, rfl⟩ : ∃ b o, A1 = some ⟨b, o, none⟩ := by obtain ⟨b, o, e, _⟩ := hn1 0 (by decide); exact ⟨b, o, e⟩
  refine Kn.call fh3 rfl rfl .none (Kn.ex_call fh3 .nil) Tryd.call19 (refH_any _) fun e w2 hp => ?_
  obtain ⟨A2, c2, rfl, hn2, hb2, -⟩ := hp
  refine ⟨_, rfl, fun fa4 fh4 => ?_⟩
  clear fh3 fa3
  obtain ⟨b2, o2, rfl⟩ : ∃ b o, A2 = some ⟨b, o, none⟩ := by obtain ⟨b, o, e, _⟩ := hn2 0 (by decide); exact ⟨b, o, e⟩
  refine Kn.call fh4 rfl rfl .none (Kn.ex_call fh4 (.cons (.tmp rfl) (.cons (.tmp rfl) (.cons (.tmp rfl) .nil)))) Tryd.call18 (refSum_any t b1 o1 b2 o2 c1 c2 _ ht (hn1.below hb2) hn2) fun e w3 hp => ?_
  obtain ⟨rfl, hb3⟩ := hp
  refine ⟨_, rfl, fun fa5 fh5 => ?_⟩
  clear fh4 fa4
  refine Kn.pure fh5 rfl rfl .none (Kn.ex_assign fh5 (.tmp rfl)) fun fa6 fh6 => ?_
  clear fh5 fa5
  refine wpList_nil ?_
  refine hK2 _ _ ?_
  clear hK2 K2
  replace fh6 := fh6.cut (.cons (t := 2) rfl .nil)
  refine wp_ret ?_
  exact Kn.ret1 fh6 rfl rfl ⟨rfl, (hb1.trans (hb2.mono hb1.size)).trans (hb3.mono (Nat.le_trans hb1.size hb2.size))⟩
end Go.Proofs.YteciidnjikcimaaDoor.Sha
