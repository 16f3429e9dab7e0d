import Derived.Test.YtgohllfpceeboaaGreatDoorFct
namespace Go.Proofs.YtgohllfpceeboaaGreatDoor
set_option maxRecDepth 100000
set_option maxHeartbeats 4000000
theorem wld_facts : joinedFacts Tryz.prog 12 Tryz.f12 (Rows.OpenSpec.upto Rows.worldsSpec).bare Rows.worldsUptoRow = true := by
  unfold joinedFacts
  repeat' (with_reducible refine band ?_ ?_)
  all_goals first
    | with_reducible exact fct_laid
    | with_reducible exact fct_maps
    | with_reducible exact fct_heard
    | with_reducible exact fct_enter
    | as_aux_lemma => kernel_rfl
end Go.Proofs.YtgohllfpceeboaaGreatDoor
