/- A region that draws its order, whose first operation moves a slot, then reads, and ends in an append or its like, over a frame of which some slots are known. Over whatever program. -/
import Derived.Test.YtoggeiaofpdboaaDoorRegion
import Derived.Test.YtoggeiaofpdboaaDoorKnAny
namespace Go.Proofs.YtoggeiaofpdboaaDoor.Kn
open Go Go.Proofs.YtoggeiaofpdboaaDoor.Sha

theorem knPush {P : Program} {n : Nat} {l : List (Nat × Value)} {a : Act} {w : World} {Q : Exit → Act → World → Prop} {id : Nat} {o0 : Oper} {rest hd tl : List Oper} {s d : Tmp} {v : Value} (k : Nat) (hm : P.follows .mixedOrders = true) (h : Kn n l a) (hB : pushB .any (o0 :: rest).toArray (k + 1) = true) (ho : o0.op = .move (.tmp s)) (hg : o0.guard = none) (hd0 : o0.dst = some d) (hdn : Nat.blt d n = true)
    (hv : find l s = some v) (hQ : ∀ d v c b w, Q (.panic c) (b.put d v) w → Q (.panic c) b w) (h1 : rest.take k = hd) (h2 : rest.drop k = tl)
    (H : ∀ a', Kn n ((d, v) :: l) a' → wpStill P (o0 :: rest).toArray w.drew (fun a' => wpList P (o0 :: rest).toArray Q tl a' w.drew) hd a') : (Code.region id (o0 :: rest).toArray true).wp P Q a w := by
  subst h1 h2
  refine wp_region_push k hm hB ho hg (fun _ _ _ _ => hQ _ _ _ _ _) ?_
  rw [hd0, h.get s v hv]
  exact H _ (h.put hdn v)
end Go.Proofs.YtoggeiaofpdboaaDoor.Kn
