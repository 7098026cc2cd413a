import Derived.Test.YtilcmkiihefkkaaGreatDoorJl46
set_option linter.unusedVariables false
set_option linter.unusedSimpArgs false
set_option maxRecDepth 1000000
set_option maxHeartbeats 64000000
namespace Go.Proofs.YtilcmkiihefkkaaGreatDoor
namespace Mn
section
open Go.RowKit Go.Shelf Go.Lib
theorem GrP.low {κ α:Type}{P:Program}{a:κ→Lit}{ok:κ→Prop}{enc:List α→List Value}{K E sz:Nat}{w:World}{base b B n:Nat}{V:κ→Value}{L:κ→List α}(h:GrP P a ok enc K E sz w base B n V L)(c:b≤base):GrP P a ok enc K E sz w b B n V L:=
 ⟨h.map,fun x d=>(h.own x d).low c,h.apart⟩
theorem IxP.low {w:World}{base a X:Nat}{R:List S2}{k W sc:Nat}(h:IxP w base X R k W sc)(b:a≤base):IxP w a X R k W sc:=by
 obtain⟨c,d,V,h1,f,g,i,j⟩:=h;exact⟨c,d,V,h1,f.low b,g.low b,O,O⟩
end
end Mn
end Go.Proofs.YtilcmkiihefkkaaGreatDoor
