import Derived.Test.YtilcmkiihefkkaaDoorShB
import Derived.Test.YtilcmkiihefkkaaDoorSgK
import Derived.Test.YtilcmkiihefkkaaDoorSiL
set_option linter.unusedVariables false
namespace Go.Proofs.YtilcmkiihefkkaaDoor
open Go.RowKit Go.Shelf

theorem scripts_holds : Rows.ScriptsCardSaid :=
  scripts_card (fun read ref hn hm => ⟨fun w => newgrid_any read ref hn hm w, fun w0 w G h => rletters_any read ref hn hm w0 w G h⟩)

end Go.Proofs.YtilcmkiihefkkaaDoor
