import Derived.Deep.DeepHandedRow
import Derived.Deep.Strs
import Derived.LaidOnce
import Derived.Lay
import Derived.OpenShut
import Derived.PinnedBridge
import Derived.ProofKit
import Derived.SevenTiedAt
import Derived.ShutString
import Derived.Test.YtilcmkiihefkkaaGreatDoorCards
import Derived.Test.YtilcmkiihefkkaaGreatDoorRows
import Derived.Test.YtilcmkiihefkkaaGreatDoorTie
import Derived.Test.YtilcmkiihefkkaaGreatDoorJf49
set_option linter.unusedVariables false
set_option linter.unusedSimpArgs false
set_option maxRecDepth 1000000
set_option maxHeartbeats 64000000
open Go.Value renaming int→I
open Go.IntKind renaming i64→J
namespace Go.Proofs.YtilcmkiihefkkaaGreatDoor
section
open Go.Shelf Go.ChangeShapes Go.WideShapes Go.ChangeAt Go.RowKit
open Go.ChangeMaps (open_string shut_string)
theorem Tryz.ownG:ownKnob Tryz.prog.godebug=none:=U
theorem Tryz.laidG:laidOutB Tryz.prog=true:=U
theorem Tryz.cells3g:Tryz.prog.cellsOf 3=1:=U
theorem Tryz.xIL:RExtra Tryz.prog Tryz.laysIL_ren:=⟨U,U,U,U,U,U,U,U⟩
def A47:List (String×DataW Unit):=Rows.findsUptoRow.laid
theorem A1r {P:Program}{W:World}{name:String}{k:IntKind}{a:List Int}{g:Nat}{t e:TypeId}{n:Nat}
 (b:P.globalNamed name=some g)(c:(P.globals[g]?).map (·.type)=some t)(ht:P.underlying t=some (.array n e))(he:P.underlying e=some (.int k))(d:P.cellsOf e=1)(f:P.cellsOf t=n)
 (h:Lib.VarReads P W name (Lib.tabData k a)):Lib.TabIs P W name k a:=by
 obtain⟨g',o,cs,fuel,p,i,j,l,m⟩:=h
 obtain rfl:=Option.some.inj (b.symm.trans i)
 obtain rfl:=Option.some.inj (c.symm.trans j)
 unfold Lib.TabIs
 rw[l,←Lib.cells_of_tab ht he d f m]
theorem pow_eq:(Rows.laid_internal_strconv_uint64pow10:DataW Unit)=Lib.tabData .u64 Lib.pow10Tab:=U
theorem B1A:(Rows.laid_unicode_properties:DataW Unit)=Lib.tabData .u8 Lib.propertiesTab:=U
theorem A3i {W:World}(h:laidMetH Tryz.prog A47 W):Lib.TabIs Tryz.prog W "internal/strconv.uint64pow10" .u64 Lib.pow10Tab∧Mn.LtP W:=by
 rw[MakeChecks.laidMetH_plain _ _ _ U]at h
 have h1:=Lib.laidMet.reads h (n:= "internal/strconv.uint64pow10") (d:=Rows.laid_internal_strconv_uint64pow10) (.tail _ (.tail _ (.head _)))
 have a:=Lib.laidMet.reads h (n:= "unicode.properties") (d:=Rows.laid_unicode_properties) (.tail _ (.tail _ (.tail _ (.tail _ (.tail _ (.head _))))))
 have b:=Lib.laidMet.reads h (n:= "unicode.Letter") (d:=Rows.laid_unicode_Letter) (.tail _ (.tail _ (.tail _ (.tail _ (.tail _ (.tail _ (.head _)))))))
 rw[pow_eq]at h1
 rw[B1A]at a
 have c:Rows.laid_unicode_Letter=Lib.rtabData Lib.letterT:=Pinned.letter_eq
 rw[c]at b
 have t1:=A1r (g:=(Tryz.prog.globalNamed "internal/strconv.uint64pow10").getD 0) (t:=368) (e:=139) (n:=20) U U Tryz.underlying368 Tryz.underlying139 U U h1
 have t2:=A1r (g:=(Tryz.prog.globalNamed "unicode.properties").getD 0) (t:=313) (e:=5) (n:=256) U U Tryz.underlying313 Tryz.underlying5 U U a
 have t3:=rvar_of_reads (g:=Tryz.laysIL_ren.g 8) (ρ:=Tryz.laysIL_ren) {Tryz.laysIL with} Tryz.xIL U U b
 exact⟨t1,isLetter_pays Tryz.laysIL U W t2 t3⟩
theorem A0e {H:Type}{enc:TypeId×Value→H}{W:World}{base b0:Nat}{sp:Nat→Bool}{held:Bool}{r:Reach}{v:Value}{d:DataW H}{ps:List MemPlace}(l:Value.okWide Tryz.prog W r b0 24 v)(h:DataW.Trod enc Tryz.prog W base sp held 24 v d ps) :
 ∃(k w:Int) (sc:Nat),v=.agg #[I J k,I J w,.float .f64 sc]∧sc<2^64∧ps=[]:=by
 obtain⟨cs,rfl,g⟩:=okWide_struct Tryz.underlying24 l
 have o:Tryz.prog.cellsOf 24=3:=U
 have p:Tryz.prog.cellsOf 22=1:=U
 rw[o]at g
 obtain⟨fuel,q⟩:=h
 obtain⟨C,D,s,n,i,_,j,h1,f⟩:=Go.Deep.trod_struct3 Tryz.underlying24 q
 match hcs:cs.toList,(show cs.toList.length=3 by simpa using g) with
 | [a,b,c],_=>
  have e:Value.cells (.agg cs)=cs:=rfl
  simp only[e,hcs,Tryz.cells3g,p]at j h1 f
  obtain⟨k,hk,t,E⟩:=DataW.trod_int Tryz.underlying3 j
  obtain⟨w,hw,u,ww⟩:=DataW.trod_int Tryz.underlying3 h1
  simp at hk hw
  have x:∃sc,c=.float .f64 sc∧s.2=[]∧(Lit.float .f64 sc).wf=true:=by
   cases n with
   | zero=>simp[DataW.trod]at f
   | succ m=>
    simp only[DataW.trod,Tryz.underlying22]at f
    cases c<;>simp_all
    rename_i F G
    obtain⟨⟨y,K⟩,z⟩:=f
    subst y
    exact by rw[←z]
  obtain⟨sc,rfl,A,B⟩:=x
  subst hk hw
  refine⟨k,w,sc,?_,?_,?_⟩
  ·congr 1
   rw[←Array.toArray_toList (xs:=cs),hcs]
  ·simpa[Lit.wf] using B
  ·simp only[Prod.mk.injEq]at i
   rw[i.2,t,u,A]
   rfl
theorem A97 {H:Type}(d:DataW H):1≤Rows.uptoBulk d:=by
 cases d with
 | lit l=>cases l<;>simp[Rows.uptoBulk]
 | nil=>simp[Rows.uptoBulk]
 | ptr d=>simp[Rows.uptoBulk]
 | slice elems spare=>simp[Rows.uptoBulk]
 | agg parts=>simp[Rows.uptoBulk]
 | iface t d=>simp[Rows.uptoBulk]
 | map entries=>simp[Rows.uptoBulk]
 | held h=>simp[Rows.uptoBulk]
theorem A7I {H:Type}{d:DataW H}{l:List (DataW H)}(h:d∈l):Rows.uptoBulk d≤Rows.uptoBulkAll l:=by
 induction l with
 | nil=>cases h
 | cons x r a=>
  simp only[Rows.uptoBulkAll]
  cases List.mem_cons.1 h with
  | inl e=>subst e;omega
  | inr e=>have:=a e;omega
theorem A9L {H:Type}(l:List (DataW H)):l.length≤Rows.uptoBulkAll l:=by
 induction l with
 | nil=>simp
 | cons x r a=>have:=A97 x;simp only[Rows.uptoBulkAll,List.length_cons];omega
theorem A5w {H:Type}{l:List (DataW H)}(hk:Rows.uptoSmall H l=true):Rows.uptoBulkAll l≤1048576:=of_decide_eq_true hk
theorem A10 {H:Type}{enc:TypeId×Value→H}{W:World}{p:Option Addr}{c y:Nat}{d:DataW H}{ps:List MemPlace}(h:DataW.Trod enc Tryz.prog W 0 (fun _=>true) true 25 (.slice p c y) d ps)(q:Rows.uptoBulk d≤1048576):c≤10000000∧Mn.AkL W p c:=by
 obtain⟨fuel,z⟩:=h
 have A:Tryz.prog.cellsOf 53=3:=U
 have B:Tryz.prog.cellsOf 9=1:=U
 rcases Go.Deep.open_slice Tryz.underlying25 z with ⟨f,_⟩ | ⟨a,len,cap,m,n,D,R,f,_,S,hm,C,r,E⟩
 ·simp[Value.cells]at f
  obtain⟨rfl,rfl,rfl⟩:=f
  exact⟨O,Or.inl rfl⟩
 ·simp[Value.cells]at f
  obtain⟨rfl,rfl,rfl⟩:=f
  simp only[if_true]at C
  simp only[Prod.mk.injEq]at r
  rw[r.1]at q
  simp only[Rows.uptoBulk]at q
  have hlen:=A9L ((List.range c).map D)
  rw[List.length_map,List.length_range]at hlen
  refine⟨O,?_⟩
  by_cases F:c=0
  ·exact Or.inl F
  ·right
   have each:∀j,j<c→∃(g h:Int) (rd:ByteArray),W.cell? (a.add (j*3))=some (I J g)∧W.cell? (a.add (j*3+1))=some (.string rd)∧W.cell? (a.add (j*3+2))=some (I J h)∧rd.size≤140737488351232∧Mn.okI h:=by
    intro j i
    obtain⟨G,h1,K⟩:=E j O
    rw[A]at h1
    obtain⟨_,L,l⟩:=World.cells?_some h1
    obtain⟨T,V,X,k,s,_,g0,g1,g2⟩:=Go.Deep.trod_struct3 Tryz.underlying53 K
    match G,L with
    | [v0,v1,v2],_=>
     simp only[Tryz.cells3g,B]at g0 g1 g2
     obtain⟨g,t,_,_⟩:=DataW.trod_int Tryz.underlying3 g0
     obtain⟨rd,u,M,_⟩:=DataW.trod_string Tryz.underlying9 g1
     obtain⟨o,v,_,N⟩:=DataW.trod_int Tryz.underlying3 g2
     simp at t u v
     subst t u v
     have e0:=l 0 O
     have e1:=l 1 O
     have w:=l 2 O
     rw[Go.Deep.add_add]at e0 e1 w
     simp only[Prod.mk.injEq]at s
     have P:D j∈(List.range c).map D:=List.mem_map.2 ⟨j,List.mem_range.2 i,rfl⟩
     have x:=A7I P
     rw[s.1,M]at x
     simp only[Rows.uptoBulk,Rows.uptoBulkAll]at x
     have Y:rd.data.toList.length=rd.size:=rfl
     exact⟨g,o,rd,by simpa using e0,by simpa using e1,by simpa using w,O,N⟩
   obtain⟨b,off,spot⟩:=a
   obtain⟨_,_,_,f0,_⟩:=each 0 O
   have Q:spot=none:=by simpa[Addr.add] using World.cell?_spot f0
   subst Q
   rw[add_plain]at f0
   refine⟨b,off,rfl,block_lt_of_cell f0,fun j i=>?_⟩
   obtain⟨g,o,rd,f0,f1,f2,f3,f4⟩:=each j i
   rw[add_plain]at f0 f1 f2
   exact⟨g,o,rd,f0,by rw[Nat.add_assoc];exact f1,by rw[Nat.add_assoc];exact f2,f3,f4⟩
theorem T5 {H:Type}{enc:TypeId×Value→H}{C:Checked}{os:Os}{f:FuncId}{fn:Func}{s:OpenSpec}{conds:List PathCond}{apart:Bool}{laid:List (String×DataW Unit)}(a:World)(args:Array Value)(c:a.os=os)
 (d:(a.forCall (fun _ _=>0) ⟨#[],args,[]⟩).Shaped C.prog)
 (b:Input.okWideB C.prog (a.forCall (fun _ _=>0) ⟨#[],args,[]⟩) f ⟨#[],args,[]⟩=true)
 (g:s.preRow enc C.prog fn conds apart laid (a.forCall (fun _ _=>0) ⟨#[],args,[]⟩).memory args) :
 ∃(w:World) (tape:Tape) (i:Input),w.os=os∧(w.forCall tape i).Shaped C.prog∧i.vars=[]∧Input.okWide C.prog (w.forCall tape i) .any w.heap.size f i∧
  s.preRow enc C.prog fn conds apart laid (w.forCall tape i).memory i.args∧({}:Assume).holds C.prog (lone (Frame.enter C.prog f i.args .normal) [] (w.forCall tape i)):=
 ⟨a,fun _ _=>0,⟨#[],args,[]⟩,c,d,(Input.okWide_of_okWideB (base:=0) b).1,(Input.okWide_of_okWideB b).2,g,by
  simp only[Assume.holds]
  exact⟨Zs,Zs,Zs,Zs,Zs⟩⟩
theorem A5y {α β:Type}{o:Option α}{f:α→β}{b:β}(h:o.map f=some b):∃x,o=some x∧f x=b:=by
 cases o with
 | none=>cases h
 | some x=>exact⟨x,rfl,Option.some.inj h⟩
end
end Go.Proofs.YtilcmkiihefkkaaGreatDoor
