import Derived.Below
import Derived.IntWalk
namespace Go.Proofs.YtilcmkiihefkkaaGreatDoor
theorem O {p:Prop}(h:p:=by omega):p:=h
theorem U {p:Prop}(h:p:=by kernel_rfl):p:=h
theorem Z {p:Prop}(h:p:=by decide):p:=h
theorem Zo {p:Prop}(h:p:=by simp;omega):p:=h
theorem Zs {p:Prop}(h:p:=by simp):p:=h
theorem Zw {p:Prop}(h:p:=by rw[IntKind.wrap_i64];omega):p:=h
theorem Zn {p:Prop}(h:p:=by go_num):p:=h
theorem nm {α:Sort _}(a:α):∃x,x=a:=⟨_,rfl⟩
theorem A8 {α:Sort _}(a:α):∃x,x=a:=⟨_,rfl⟩
def Hd (p:Prop):Prop:=p
theorem Hd.o {p:Prop}(h:Hd p):p:=h
theorem Hd.out {p:Prop}(h:Hd p):p:=h
theorem A4 {p:Prop}(h:p):Hd p:=h
theorem hid {p:Prop}(h:p):Go.RowKit.Hid p:=h
end Go.Proofs.YtilcmkiihefkkaaGreatDoor
