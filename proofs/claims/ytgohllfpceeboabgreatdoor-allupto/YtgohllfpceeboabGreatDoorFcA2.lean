import Derived.Test.YtgohllfpceeboabGreatDoorFct
namespace Go.Proofs.YtgohllfpceeboabGreatDoor
set_option maxRecDepth 100000
set_option maxHeartbeats 4000000
theorem SX : joinedFacts Tryz.prog 4 Tryz.f4 (Rows.OpenSpec.upto Rows.allSpec).bare Rows.allUptoRow = true := by
  unfold joinedFacts
  repeat' (with_reducible refine af ?_ ?_)
  all_goals first
    | with_reducible exact YQ
    | with_reducible exact VU
    | with_reducible exact SA
    | with_reducible exact RZ
    | as_aux_lemma => kernel_rfl
end Go.Proofs.YtgohllfpceeboabGreatDoor
