import Derived.Test.YtilcmkiihefkkaaDoorSgG
set_option linter.unusedVariables false
set_option linter.unusedSimpArgs false
set_option maxRecDepth 100000
namespace Go.Proofs.YtilcmkiihefkkaaDoor
open Go.RowKit Go.Shelf

set_option maxHeartbeats 4000000 in
theorem scripts_any (read ref : ByteArray) (w : World) (hl1 : read.size ≤ 140737488351232) (hl2 : ref.size ≤ 140737488351232) (htab : Lib.TabBelow Tryd.prog w.heap.size w "internal/strconv.uint64pow10" .u64 Lib.pow10Tab)
    (hNG : read.size ≤ 300 → ref.size ≤ 600 → NgC read ref) (hRL : read.size ≤ 300 → ref.size ≤ 600 → RlC read ref) :
    Calls Tryd.prog 3 #[.string read, .string ref] w fun e w' => e = .returned (.bool true) ∧ Below w.heap.size w w' := by
  have c1 := pscript_any read ref w hl1 hl2 htab
  have c2 := fun W => rscript_any read ref W hl1 hl2 hNG hRL
  generalize (scT read.data.toList ref.data.toList).toArray = T at c1 c2
  generalize scN read.data.toList ref.data.toList = N at c1 c2
  generalize scE read.data.toList ref.data.toList = E at c1 c2
  clear hNG hRL htab
  go_enter Tryd.func3, Tryd.ntmps3
  go_wp2_with fail
  refine c1.mono ?_
  rintro e w1 ⟨rfl, hb1⟩
  have HB1 : Hid (Below w.heap.size w w1) := hb1
  clear hb1 c1
  go_wp2_with fail
  refine (c2 w1).mono ?_
  rintro e w2 ⟨rfl, hb2⟩
  have HB2 : Hid (Below w.heap.size w w2) := HB1.out.trans (hb2.mono HB1.out.size)
  clear hb2 c2
  go_wp2_with fail
  go_ret
  refine ⟨?_, HB2.out⟩
  simp
end Go.Proofs.YtilcmkiihefkkaaDoor
