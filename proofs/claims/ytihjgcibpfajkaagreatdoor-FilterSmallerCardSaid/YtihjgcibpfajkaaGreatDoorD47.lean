/-
  From a walk ('it returns true, and what was there is as it was') to a law's row; how operations, pods and slices of them open; what the laid variable gives. No condition.
  Appends of numbers that can be read to an own row of numbers. No condition, no walk.
  What the law LoadFewer wants of appended rows. No condition, no walk.
-/
import Derived.Test.YtihjgcibpfajkaaGreatDoorD39
import Derived.Test.YtihjgcibpfajkaaGreatDoorD16
import Derived.Test.YtihjgcibpfajkaaGreatDoorRows
import Derived.ProofKit
import Derived.OpenShut
import Derived.SizedLaws
import Derived.Deep.Modes
import Derived.Deep.Frames
import Derived.Deep.Matrix
import Derived.LaidMore
import Derived.LaidHandle
import Derived.LaidLaws
import Derived.ChangeSame
import Derived.ChangeVars
import Derived.JoinedOf
import Derived.Stop.Joined
import Derived.Test.YtihjgcibpfajkaaGreatDoorD18
import Derived.Test.YtihjgcibpfajkaaGreatDoorD40
namespace Go.Proofs.YtihjgcibpfajkaaGreatDoor.T13
open Go.ChangeShapes Go.WideShapes Go.ChangeAt Go.WideMaps Go.WideElems Go.RowKit V12
section
variable{H:Type}{enc:TypeId × Value→H}{P:Program}
theorem zfz(hl:laidOutB P=true){W W':World}{sp':Nat→Bool}:∀ {ts:List TypeId} {vs:List Value} {ds:List (DataW H)} {ps:List MemPlace},(∀ t∈ts,P.readableRec t=true∧t<P.types.size) →
  DataW.TrodAll enc P W 0 (fun _=>true) true ts vs ds ps→(∀ p∈ps,W.sameAt W' p)→(∀ p∈ps,sp' p.block=true)→DataW.TrodAll enc P W' 0 sp' true ts vs ds ps
 | [],vs,ds,ps,_,h,_,_=>by
   obtain⟨rfl,rfl,rfl⟩:=trodAll_nil h;exact trodAll_mk0
 | t :: ts,vs,ds,ps,hr,h,hs,hb=>by
   obtain⟨v,vs1,d,ds1,a,b,rfl,rfl,rfl,h1,h2⟩:=trodAll_cons h;refine trodAll_cons_mk ?_ ?_
   ·exact WideElems.Trod_stays hl (hr t (by simp)).1 (hr t (by simp)).2 h1 (fun p hp=>hs p (by simp[hp])) (fun p hp=>hb p (by simp[hp]))
   ·exact zfz hl (fun t' ht=>hr t' (by simp[ht])) h2 (fun p hp=>hs p (by simp[hp])) (fun p hp=>hb p (by simp[hp]))
theorem law_post(hl:laidOutB P=true){f:Func}{s:ChangeSpec}{tb:TypeId}{W W':World}{args:Array Value}{ds gs:List (DataW H)}{before:List MemPlace}
  (hvars:s.vars=[]) (hr:∀ t∈f.params.toList,P.readableRec t=true∧t<P.types.size) (ht:f.resultTypes=#[tb]) (hb:P.underlying tb=some .bool)
  (hW:DataW.Whole enc P f.params.toList s.vars false W args.toList ds gs before)
  (hfn:s.fn H (ds++gs)={ results:=[.lit (.bool true)],args:=ds }) (hk:Below W.heap.size W W') :
  s.post enc P f false true false false W args (.bool true) W':=by
 have hlt:∀ x∈before,x.block<W.heap.size:=fun x hx=>hW.lt x hx
 have hW0:=hW;obtain⟨p,q,hA,hV,rfl,_,_⟩:=hW;rw[hvars] at hV;obtain⟨rfl,rfl⟩:=trodVars_none hV;simp only[List.append_nil] at hlt;refine⟨ds,[],p++[],[],p,[],hW0,?_,?_,?_,hk.frame _,fun h=>by cases h⟩
 ·rw[hfn,ht]
  exact trodAll_cons_mk (shut_bool hb _) trodAll_mk0
 ·rw[hfn]
  exact zfz hl hr hA (fun x hx=>hk.same (hlt x hx)) (fun x hx=>by simpa using hlt x hx)
 ·rw[hfn,hvars]
  rfl
theorem zhs{W:World}{t e:TypeId}{v:Value}{fuel:Nat}{x:DataW H × List MemPlace}(ht:P.underlying t=some (.slice e))(he:P.underlying e=some (.int .i64))(hc:P.cellsOf e=1)
  (hf:DataW.trod enc P W 0 (fun _=>true) true fuel t [v]=some x):∃ A n c Z,v=.slice A n c∧Rd W A n Z∧(A=none→n=0∧c=0):=by
 rcases open_ints ht he hc hf with ⟨hcs,_⟩ | ⟨x,l,c,zs,hcs,_,hl,hm,hz,_,hcell,hwz⟩
 ·simp at hcs
  exact⟨none,0,0,fun _=>0,hcs,Rd.nil _ _ _,fun _=>⟨rfl,rfl⟩⟩
 ·simp at hcs
  simp only[if_true] at hz;unfold maxLen at hm;refine⟨_,_,_,fun k=>zs.getD k 0,hcs,⟨by omega,fun k hk=>?_,fun hn=>?_⟩,fun h=>by cases h⟩
  ·have hk':k<zs.length:=by omega
   have hw:=hwz (zs.getD k 0) (by rw[show zs.getD k 0=zs[k] from by simp[List.getD,hk']];exact List.getElem_mem hk')
   simp[Lit.wf,IntKind.min,IntKind.max,IntKind.signed,IntKind.bits] at hw
   simpa using hw
  ·obtain⟨b,off,spot⟩:=x
   have hspot:spot=none:=by simpa [Addr.add] using World.cell?_spot (hcell 0 (by omega))
   subst hspot;exact⟨b,off,rfl,fun j hj=>by have:=hcell j (by omega);rwa [add_plain] at this⟩
end
theorem Tryz.own:ownKnob Tryz.prog.godebug=none:=by kernel_rfl
theorem Tryz.laidOut:laidOutB Tryz.prog=true:=by kernel_rfl
theorem Tryz.cellsInt:Tryz.prog.cellsOf 3=1:=by kernel_rfl
theorem Tryz.cellsI64:Tryz.prog.cellsOf 2=1:=by kernel_rfl
theorem Tryz.cellsI64s:Tryz.prog.cellsOf 24=1:=by kernel_rfl
def seatLaid:List (String × DataW Unit):=[("errors.errorType", Rows.laid_errors_errorType)]
theorem door_met(os:Os)(args:Array Value):laidMetH Tryz.prog seatLaid ((World.doorLaid Tryz.prog 400 os).forCall (fun _ _=>0) ⟨#[],args,[]⟩).memory :=
 laidMetH_of_parts3 (fuel:=8) (laidMet_of_run' 8 (by kernel_rfl) (by kernel_rfl)) (by kernel_rfl) (by kernel_rfl)
theorem Tryz.gE:Tryz.prog.globalNamed "errors.errorType" = some 0:=by kernel_rfl
theorem Tryz.rt:(Tryz.prog.cutTypes.find? (·.1 == "internal/reflectlite.rtype")).map (·.2)=some 184:=by kernel_rfl
theorem Tryz.oneRow:((List.range 276).filter fun t=>Tryz.prog.rowNamed t [101,114,114,111,114])=[48]:=by kernel_rfl
theorem Tryz.tsize:Tryz.prog.types.size=276:=by kernel_rfl
theorem vars_of_laid{W:World}(h:laidMetH Tryz.prog seatLaid W):zaw W:=by
 have h':laidMet Tryz.prog [] W∧handlesMet Tryz.prog [("errors.errorType", Rows.laid_errors_errorType)] W:=h;obtain⟨_,hh⟩:=h';obtain⟨name,u,ty,e1,e2,e3,e4,e5⟩:=hh _ (List.mem_singleton.2 rfl);have en:name=[101,114,114,111,114]:=(Option.some.inj e1).symm;subst en;obtain rfl:=Option.some.inj (Tryz.rt.symm.trans e2);have hm:ty∈(List.range 276).filter fun t=>Tryz.prog.rowNamed t [101,114,114,111,114]:=List.mem_filter.2 ⟨List.mem_range.2 (by rw[← Tryz.tsize];exact e3),e4⟩
 rw[Tryz.oneRow] at hm;obtain rfl:=List.mem_singleton.1 hm;have hth:typeHandle Tryz.prog 48=.pointer (some ⟨1,48,none⟩):=by kernel_rfl
 rw[hth] at e5;unfold zaw
 simpa using World.var?_cell Tryz.gE e5 0
theorem zdi{t:TypeId}(h:Tryz.prog.cellsOf t=1)(cs:List Value)(j:Nat)(v:Value)(hv:cs[j]?=some v):(cs.drop j).take (Tryz.prog.cellsOf t)=[v]:=by
 rw[h];cases hd:cs.drop j with
 | nil =>
   rw[List.drop_eq_nil_iff] at hd;rw[List.getElem?_eq_none hd] at hv;cases hv
 | cons a r =>
   have:(cs.drop j).head?=some a:=by rw[hd];rfl
   rw[List.head?_drop,hv] at this;simp at this
   simp[this]
theorem zfd{x:Int}(h:(Lit.int .i64 x).wf=true):I64 x:=by
 unfold I64;simp[Lit.wf,IntKind.min,IntKind.max,IntKind.signed,IntKind.bits] at h
 simpa using h
theorem Tryz.cellsBool:Tryz.prog.cellsOf 4=1:=by kernel_rfl
theorem Tryz.cellsPod:Tryz.prog.cellsOf 26=9:=by kernel_rfl
theorem Tryz.fieldsPod:∃ f0 f1 f2 f3 f4 f5 f6 f7 f8:Field,Tryz.prog.underlying 26=some (.struct #[f0,f1,f2,f3,f4,f5,f6,f7,f8])∧(f0.type=3∧f1.type=3∧f2.type=4∧f3.type=3∧f4.type=24∧f5.type=3∧f6.type=3∧f7.type=3∧f8.type=3)∧f0.offset=0∧f1.offset=1∧f2.offset=2∧f3.offset=3∧f4.offset=4∧f5.offset=5∧f6.offset=6∧f7.offset=7∧f8.offset=8 :=
 ⟨_,_,_,_,_,_,_,_,_,Tryz.underlying26,⟨rfl,rfl,rfl,rfl,rfl,rfl,rfl,rfl,rfl⟩,rfl,rfl,rfl,rfl,rfl,rfl,rfl,rfl,rfl⟩
set_option maxRecDepth 100000 in
theorem znq{H:Type}{enc:TypeId × Value→H}{W:World}{fuel:Nat}{l:List Value}{x:DataW H × List MemPlace}(hl:l.length=9)(hf:DataW.trod enc Tryz.prog W 0 (fun _=>true) true fuel 26 l=some x):
  ∃ p:zaa,l=p.cells∧zaf W p:=by
 obtain⟨f0,f1,f2,f3,f4,f5,f6,f7,f8,hs,⟨t0,t1,t2,t3,t4,t5,t6,t7,t8⟩,o0,o1,o2,o3,o4,o5,o6,o7,o8⟩:=Tryz.fieldsPod;obtain⟨xs,n',_,_,_,hlen,hg⟩:=DataW.trod_struct hs hf
 match l,hl,xs,hlen with
 | [v0,v1,v2,v3,v4,v5,v6,v7,v8],_,[y0,y1,y2,y3,y4,y5,y6,y7,y8],_ =>
   have g0:=hg 0 f0 rfl;have g1:=hg 1 f1 rfl;have g2:=hg 2 f2 rfl;have g3:=hg 3 f3 rfl;have g4:=hg 4 f4 rfl;have g5:=hg 5 f5 rfl;have g6:=hg 6 f6 rfl;have g7:=hg 7 f7 rfl;have g8:=hg 8 f8 rfl;rw[o0,t0,zdi Tryz.cellsInt _ 0 v0 rfl] at g0;rw[o1,t1,zdi Tryz.cellsInt _ 1 v1 rfl] at g1;rw[o2,t2,zdi Tryz.cellsBool _ 2 v2 rfl] at g2;rw[o3,t3,zdi Tryz.cellsInt _ 3 v3 rfl] at g3;rw[o4,t4,zdi Tryz.cellsI64s _ 4 v4 rfl] at g4;rw[o5,t5,zdi Tryz.cellsInt _ 5 v5 rfl] at g5;rw[o6,t6,zdi Tryz.cellsInt _ 6 v6 rfl] at g6;rw[o7,t7,zdi Tryz.cellsInt _ 7 v7 rfl] at g7;rw[o8,t8,zdi Tryz.cellsInt _ 8 v8 rfl] at g8;obtain⟨x0,e0,_,r0⟩:=DataW.trod_int Tryz.underlying3 (g0.trans (b:=some y0) rfl);obtain⟨x1,e1,_,r1⟩:=DataW.trod_int Tryz.underlying3 (g1.trans (b:=some y1) rfl);obtain⟨x2,e2,_⟩:=DataW.trod_bool Tryz.underlying4 (g2.trans (b:=some y2) rfl);obtain⟨x3,e3,_,r3⟩:=DataW.trod_int Tryz.underlying3 (g3.trans (b:=some y3) rfl);obtain⟨A,m,cp,Z,e4,hR,h0⟩:=zhs Tryz.underlying24 Tryz.underlying2 Tryz.cellsI64 (g4.trans (b:=some y4) rfl);obtain⟨x5,e5,_,r5⟩:=DataW.trod_int Tryz.underlying3 (g5.trans (b:=some y5) rfl);obtain⟨x6,e6,_,r6⟩:=DataW.trod_int Tryz.underlying3 (g6.trans (b:=some y6) rfl);obtain⟨x7,e7,_,r7⟩:=DataW.trod_int Tryz.underlying3 (g7.trans (b:=some y7) rfl);obtain⟨x8,e8,_,r8⟩:=DataW.trod_int Tryz.underlying3 (g8.trans (b:=some y8) rfl);simp at e0 e1 e2 e3 e5 e6 e7 e8
   subst e0 e1 e2 e3 e4 e5 e6 e7 e8;exact⟨⟨x0,x1,x2,x3,A,m,cp,Z,x5,x6,x7,x8⟩,rfl,⟨hR,h0,zfd r0,zfd r1,zfd r3,zfd r5,zfd r6,zfd r7,zfd r8⟩⟩
set_option maxRecDepth 100000 in
theorem pod_open{H:Type}{enc:TypeId × Value→H}{W:World}{base:Nat}{v:Value}{d:DataW H}{p:List MemPlace}(hv:Value.okWide Tryz.prog W .any base 26 v)(h:DataW.Trod enc Tryz.prog W 0 (fun _=>true) true 26 v d p):
  ∃ x:zaa,v=x.val∧zaf W x:=by
 obtain⟨f0,f1,f2,f3,f4,f5,f6,f7,f8,hs,_⟩:=Tryz.fieldsPod;obtain⟨cs,rfl,hsz⟩:=okWide_struct hs hv;rw[Tryz.cellsPod] at hsz;obtain⟨l⟩:=cs;obtain⟨fuel,hf⟩:=h;have hcl:(Value.agg ⟨l⟩).cells.toList=l:=by simp[Value.cells]
 rw[hcl] at hf;obtain⟨x,rfl,hx⟩:=znq (by simpa using hsz) hf
 exact⟨x,rfl,hx⟩
end Go.Proofs.YtihjgcibpfajkaaGreatDoor.T13
namespace Go.Proofs.YtihjgcibpfajkaaGreatDoor.T15
open Go.ChangeShapes Go.WideShapes Go.ChangeAt Go.WideMaps Go.WideElems Go.RowKit V12 T13
theorem Tryz.cellsNode:Tryz.prog.cellsOf 55=2:=by kernel_rfl
theorem Tryz.fieldsNode:∃ f0 f1:Field,Tryz.prog.underlying 55=some (.struct #[f0,f1])∧(f0.type=3∧f1.type=24)∧f0.offset=0∧f1.offset=1 :=
 ⟨_,_,Tryz.underlying55,⟨rfl,rfl⟩,rfl,rfl⟩
def zyb(W:World)(q:C14.NdC):Prop:=I64 q.k∧Rd W q.A q.n q.C∧(q.A=none→q.n=0∧q.c=0)
set_option maxRecDepth 100000 in
theorem zkm{H:Type}{enc:TypeId × Value→H}{W:World}{fuel:Nat}{l:List Value}{x:DataW H × List MemPlace}(hl:l.length=2)(hf:DataW.trod enc Tryz.prog W 0 (fun _=>true) true fuel 55 l=some x):
  ∃ q:C14.NdC,l=q.cells∧zyb W q:=by
 obtain⟨f0,f1,hs,⟨t0,t1⟩,o0,o1⟩:=Tryz.fieldsNode;obtain⟨xs,n',_,_,_,hlen,hg⟩:=DataW.trod_struct hs hf
 match l,hl,xs,hlen with
 | [v0,v1],_,[y0,y1],_ =>
   have g0:=hg 0 f0 rfl;have g1:=hg 1 f1 rfl;rw[o0,t0,zdi Tryz.cellsInt _ 0 v0 rfl] at g0;rw[o1,t1,zdi Tryz.cellsI64s _ 1 v1 rfl] at g1;obtain⟨x0,e0,_,r0⟩:=DataW.trod_int Tryz.underlying3 (g0.trans (b:=some y0) rfl);obtain⟨A,m,cp,Z,e1,hR,h0⟩:=zhs Tryz.underlying24 Tryz.underlying2 Tryz.cellsI64 (g1.trans (b:=some y1) rfl);simp at e0
   subst e0 e1;exact⟨⟨x0,A,m,cp,Z⟩,rfl,zfd r0,hR,h0⟩
set_option maxRecDepth 100000 in
theorem node_open{H:Type}{enc:TypeId × Value→H}{W:World}{base:Nat}{v:Value}{d:DataW H}{p:List MemPlace}(hv:Value.okWide Tryz.prog W .any base 55 v)(h:DataW.Trod enc Tryz.prog W 0 (fun _=>true) true 55 v d p):
  ∃ x:C14.NdC,v=x.val∧zyb W x:=by
 obtain⟨f0,f1,hs,_⟩:=Tryz.fieldsNode;obtain⟨cs,rfl,hsz⟩:=okWide_struct hs hv;rw[Tryz.cellsNode] at hsz;obtain⟨l⟩:=cs;obtain⟨fuel,hf⟩:=h;have hcl:(Value.agg ⟨l⟩).cells.toList=l:=by simp[Value.cells]
 rw[hcl] at hf;obtain⟨x,rfl,hx⟩:=zkm (by simpa using hsz) hf
 exact⟨x,rfl,hx⟩
set_option maxRecDepth 100000 in
theorem nodes_open{H:Type}{enc:TypeId × Value→H}{W:World}{base:Nat}{v:Value}{d:DataW H}{p:List MemPlace}(hv:Value.okWide Tryz.prog W .any base 22 v)(h:DataW.Trod enc Tryz.prog W 0 (fun _=>true) true 22 v d p):
  ∃ A n cp P,v=.slice A n cp∧C14.RdC W A n P:=by
 obtain⟨a0,len,cap,rfl⟩:=okWide_slice Tryz.underlying22 hv;obtain⟨fuel,hf⟩:=h;have hcs:(Value.slice a0 len cap).cells.toList=[.slice a0 len cap]:=by simp[Value.cells]
 rw[hcs] at hf;rcases DataW.trod_slice Tryz.underlying22 hf with ⟨e,_⟩ | ⟨a,len',cap',elems,rest,n,_,e,_,hb,hl,hm,hlen,hel,_,_⟩
 ·simp at e
  obtain⟨rfl,rfl,rfl⟩:=e;exact⟨none,0,0,fun _=>C14.zp,rfl,C14.RdC.none _ _ _⟩
 ·simp at e
  obtain⟨rfl,rfl,rfl⟩:=e;have each:∀ j,j<len→∃ q:C14.NdC,zyb W q∧∀ i u,(C14.NdC.cells q)[i]?=some u→W.cell? ((a.add (j * 2)).add i)=some u:=by
   intro j hj;have h1:=hel j hj;rw[Tryz.cellsNode,List.getElem?_eq_getElem (by omega)] at h1
   rw[Option.bind_eq_some_iff] at h1;obtain⟨cs,hc1,hc2⟩:=h1;obtain⟨_,hcl,hce⟩:=World.cells?_some hc1;obtain⟨q,rfl,hq⟩:=zkm hcl hc2;refine⟨q,hq,fun i u hu=>?_⟩
   have hi:i<2:=by have:=(List.getElem?_eq_some_iff.1 hu).1;exact this
   rw[hce i hi];exact hu
  have pick:∃ P:Nat→C14.NdC,∀ j,j<len→zyb W (P j)∧∀ i u,(C14.NdC.cells (P j))[i]?=some u→W.cell? ((a.add (j * 2)).add i)=some u :=
   ⟨fun j=>if hj:j<len then(each j hj).choose else C14.zp,fun j hj=>by simp only[dif_pos hj];exact(each j hj).choose_spec⟩
  obtain⟨P,hP⟩:=pick;have hm':len≤9223372036854775807:=by unfold maxLen at hm;omega
  have hadr:0<len→∃ b o,a=⟨b,o,none⟩:=fun hn=>by
   have h0:=(hP 0 hn).2 0 _ rfl;obtain⟨b,o,s⟩:=a;have hs:s=none:=by simpa [Addr.add] using World.cell?_spot h0
   subst hs;exact⟨b,o,rfl⟩
  have at_:∀ b o,a=⟨b,o,none⟩→∀ j,j<len→∀ i u,(C14.NdC.cells (P j))[i]?=some u→W.cell? ⟨b,o+j * 2+i,none⟩=some u:=fun b o e j hj i u hu=>by
   subst e;have h0:=(hP j hj).2 i u hu;rw[add_plain,add_plain] at h0;exact h0
  refine⟨some a,len,cap,P,rfl,?_⟩
  exact⟨⟨hm',fun hn=>by
   obtain⟨b,o,e⟩:=hadr hn
   exact⟨b,o,by rw[e],fun j hj=>⟨at_ b o e j hj 0 _ rfl,at_ b o e j hj 1 _ rfl⟩⟩,fun j hj=>⟨(hP j hj).1.1,trivial⟩⟩,fun j hj=>(hP j hj).1.2.1,fun j hj=>(hP j hj).1.2.2⟩
theorem Tryz.cellsPlace:Tryz.prog.cellsOf 64=11:=by kernel_rfl
set_option maxRecDepth 100000 in
theorem Tryz.fieldsPlace:∃ f0 f1 f2:Field,Tryz.prog.underlying 64=some (.struct #[f0,f1,f2])∧(f0.type=26∧f1.type=3∧f2.type=36)∧f0.offset=0∧f1.offset=9∧f2.offset=10 :=
 ⟨_,_,_,Tryz.underlying64,⟨rfl,rfl,rfl⟩,rfl,rfl,rfl⟩
theorem Tryz.cellsInts:Tryz.prog.cellsOf 36=1:=by kernel_rfl
def zvj(q:PlV):List Value:=q.x.cells++[.int .i64 q.nd,.slice q.A q.n q.c]
set_option maxRecDepth 100000 in
theorem zpi{H:Type}{enc:TypeId × Value→H}{W:World}{fuel:Nat}{l:List Value}{x:DataW H × List MemPlace}(hl:l.length=11)(hf:DataW.trod enc Tryz.prog W 0 (fun _=>true) true fuel 64 l=some x):
  ∃ q:PlV,l=zvj q∧zmj W q:=by
 obtain⟨f0,f1,f2,hs,⟨t0,t1,t2⟩,o0,o1,o2⟩:=Tryz.fieldsPlace;obtain⟨xs,n',_,_,_,hlen,hg⟩:=DataW.trod_struct hs hf
 match l,hl,xs,hlen with
 | [v0,v1,v2,v3,v4,v5,v6,v7,v8,v9,v10],_,[y0,y1,y2],_ =>
   have g0:=hg 0 f0 rfl;have g1:=hg 1 f1 rfl;have g2:=hg 2 f2 rfl;have e1:(List.drop 0 [v0,v1,v2,v3,v4,v5,v6,v7,v8,v9,v10]).take 9=[v0,v1,v2,v3,v4,v5,v6,v7,v8]:=rfl;rw[o0,t0,Tryz.cellsPod,e1] at g0;rw[o1,t1,zdi Tryz.cellsInt _ 9 v9 rfl] at g1;rw[o2,t2,zdi Tryz.cellsInts _ 10 v10 rfl] at g2;obtain⟨p,ep,hp⟩:=znq (by rfl) (g0.trans (b:=some y0) rfl)
   obtain⟨x1,e3,_,r1⟩:=DataW.trod_int Tryz.underlying3 (g1.trans (b:=some y1) rfl);obtain⟨A,m,cp,Z,e4,hR,h0⟩:=zhs Tryz.underlying36 Tryz.underlying3 Tryz.cellsInt (g2.trans (b:=some y2) rfl);simp at e3
   subst e3 e4;refine⟨⟨p,x1,A,m,cp,Z⟩,?_,⟨hp,zfd r1,hR,h0⟩⟩;unfold zvj;rw[← ep];rfl
set_option maxRecDepth 100000 in
theorem places_open{H:Type}{enc:TypeId × Value→H}{W:World}{base:Nat}{v:Value}{d:DataW H}{p:List MemPlace}(hv:Value.okWide Tryz.prog W .any base 23 v)(h:DataW.Trod enc Tryz.prog W 0 (fun _=>true) true 23 v d p):
  ∃ A n cp P,v=.slice A n cp∧zkz W A n P:=by
 obtain⟨a0,len,cap,rfl⟩:=okWide_slice Tryz.underlying23 hv;obtain⟨fuel,hf⟩:=h;have hcs:(Value.slice a0 len cap).cells.toList=[.slice a0 len cap]:=by simp[Value.cells]
 rw[hcs] at hf;rcases DataW.trod_slice Tryz.underlying23 hf with ⟨e,_⟩ | ⟨a,len',cap',elems,rest,n,_,e,_,hb,hl,hm,hlen,hel,_,_⟩
 ·simp at e
  obtain⟨rfl,rfl,rfl⟩:=e;exact⟨none,0,0,fun _=>⟨zad,0,none,0,0,fun _=>0⟩,rfl,⟨by omega,fun h=>absurd h (Nat.lt_irrefl _),fun _ h=>absurd h (Nat.not_lt_zero _)⟩⟩
 ·simp at e
  obtain⟨rfl,rfl,rfl⟩:=e;have each:∀ j,j<len→∃ q:PlV,zmj W q∧∀ i u,(zvj q)[i]?=some u→W.cell? ((a.add (j * 11)).add i)=some u:=by
   intro j hj;have h1:=hel j hj;rw[Tryz.cellsPlace,List.getElem?_eq_getElem (by omega)] at h1
   rw[Option.bind_eq_some_iff] at h1;obtain⟨cs,hc1,hc2⟩:=h1;obtain⟨_,hcl,hce⟩:=World.cells?_some hc1;obtain⟨q,rfl,hq⟩:=zpi hcl hc2;refine⟨q,hq,fun i u hu=>?_⟩
   have hi:i<11:=by have:=(List.getElem?_eq_some_iff.1 hu).1;exact this
   rw[hce i hi];exact hu
  have pick:∃ P:Nat→PlV,∀ j,j<len→zmj W (P j)∧∀ i u,(zvj (P j))[i]?=some u→W.cell? ((a.add (j * 11)).add i)=some u :=
   ⟨fun j=>if hj:j<len then(each j hj).choose else⟨zad,0,none,0,0,fun _=>0⟩,fun j hj=>by simp only[dif_pos hj];exact(each j hj).choose_spec⟩
  obtain⟨P,hP⟩:=pick;have hm':len≤9223372036854775807:=by unfold maxLen at hm;omega
  have hadr:0<len→∃ b o,a=⟨b,o,none⟩:=fun hn=>by
   have h0:=(hP 0 hn).2 0 _ rfl;obtain⟨b,o,s⟩:=a;have hs:s=none:=by simpa [Addr.add] using World.cell?_spot h0
   subst hs;exact⟨b,o,rfl⟩
  have at_:∀ b o,a=⟨b,o,none⟩→∀ j,j<len→∀ i u,(zvj (P j))[i]?=some u→W.cell? ⟨b,o+j * 11+i,none⟩=some u:=fun b o e j hj i u hu=>by
   subst e;have h0:=(hP j hj).2 i u hu;rw[add_plain,add_plain] at h0;exact h0
  refine⟨some a,len,cap,P,rfl,?_⟩
  exact⟨hm',fun hn=>by
   obtain⟨b,o,e⟩:=hadr hn
   exact⟨b,o,by rw[e],fun j hj=>⟨⟨at_ b o e j hj 0 _ rfl,at_ b o e j hj 1 _ rfl,at_ b o e j hj 2 _ rfl,at_ b o e j hj 3 _ rfl,at_ b o e j hj 4 _ rfl,at_ b o e j hj 5 _ rfl,at_ b o e j hj 6 _ rfl,at_ b o e j hj 7 _ rfl,at_ b o e j hj 8 _ rfl⟩,at_ b o e j hj 9 _ rfl,at_ b o e j hj 10 _ rfl⟩⟩,fun j hj=>(hP j hj).1⟩
end Go.Proofs.YtihjgcibpfajkaaGreatDoor.T15
namespace Go.Proofs.YtihjgcibpfajkaaGreatDoor.T16
open Go.RowKit Go.Sort Go.Lib V12 T13 T14 T15
theorem Tryz.infoI16:(Tryz.prog.info? 3).map (fun i=>(i.zero,i.size,i.bytes))=some (some (.int .i64 0),1,8):=by kernel_rfl
theorem zpn(m:Nat)(Z:Nat→Int):∀ u∈zbo m Z,u.oneCell'=true:=by
 intro u hu;unfold zbo at hu;obtain⟨j,_,rfl⟩:=List.mem_map.1 hu;rfl
theorem zjz{m:Nat}{Z:Nat→Int}{j:Nat}{u:Value}(h:(zbo m Z)[j]?=some u):j<m∧u=.int .i64 (Z j):=by
 unfold zbo at h;rw[List.getElem?_map] at h
 by_cases hj:j<m
 ·rw[List.getElem?_range hj] at h
  exact⟨hj,(Option.some.inj h).symm⟩
 ·rw[List.getElem?_eq_none (by rw[List.length_range];omega)] at h
  cases h
theorem zka(m:Nat)(Z:Nat→Int):(zbo m Z).length=m:=by unfold zbo;rw[List.length_map,List.length_range]
theorem zjt{W:World}{base k:Nat}{e:TypeId}(hb:base≤k)(h:W.heap[k]?=some (.cells #[] e (0,0))):W.ownsRow base e 1 (.slice (some ⟨k,0,none⟩) 0 0) 0 []:=
 ⟨rfl,.inr ⟨k,0,#[],rfl,hb,h,Nat.le_refl _,Nat.zero_le _,rfl,rfl⟩⟩
section
variable{ops:Array Oper}{rest:List Oper}{o:Oper}{a:Act}{w:World}{Q:Exit→Act→World→Prop}{es e:TypeId}
theorem ael(hu:Tryz.prog.underlying es=some (.slice e))(hinfo:(Tryz.prog.info? e).map (fun i=>(i.zero,i.size,i.bytes))=some (some (.int .i64 0),1,8))(hgd:o.guard=none)(s x:Operand)(ho:o.op=.call { callee:=.builtin .append,args:=#[s,x],argTypes:=#[es,es] })
  (base:Nat) (v:Value) (n:Nat) (xs:List Value) (hs:a.eval s=v) (hown:w.ownsRow base e 1 v n xs) (B:Option Addr) (m c:Nat) (Z:Nat→Int) (hx:a.eval x=.slice B m c) (hB:Rd w B m Z) (nilB:B=none→m=0∧c=0)
  (hlim:n+m≤1048577) (hbase:base≤w.heap.size) (N:Nat) (hN:n+m=N)
  (h:∀ v' w',w'.ownsRow base e 1 v' N (xs++zbo m Z)→w.grownBy w' v.ownBlock→wpList Tryz.prog ops Q rest (a.put o.dst v') w'):wpList Tryz.prog ops Q (o :: rest) a w:=by
 subst hN;obtain⟨i0,hi0,hz0,hz1,hz2⟩:=info_parts hinfo;cases B with
 | none =>
   obtain⟨rfl,rfl⟩:=nilB rfl;exact wpList_append_own_none hgd s x es ho base e i0 1 hu hi0 v n xs hs hown hx (h v w (by rw[show zbo 0 Z=[] from rfl,List.append_nil];exact hown) ⟨rfl,rfl,rfl,Nat.le_refl _,fun _ _ _=>rfl⟩)
 | some ad =>
   exact wpList_append_own (P:=Tryz.prog) w hgd s x es ho base e i0 _ 1 8 hu hi0 hz0 hz1 hz2 rfl (by decide) v n xs hs hown ad m c (zbo m Z) hx (by rw[Nat.mul_one];exact zka m Z) (fun j u hu=>by
    obtain⟨hj,rfl⟩:=zjz hu;obtain⟨b,off,e2,hc⟩:=hB.adr (by omega)
    obtain rfl:=Option.some.inj e2;rw[WideShapes.add_plain]
    exact hc j hj) (zpn m Z) (by unfold maxLen;omega) (by omega) hbase fun v' w' h2 h3 _=>h v' w' h2 h3
end
theorem own_row{w:World}{base n:Nat}{e:TypeId}{v:Value}{Z:Nat→Int}(h:w.ownsRow base e 1 v n (zbo n Z))(hn:n≤9223372036854775807)(hz:∀ j,j<n→-9223372036854775808≤Z j∧Z j≤9223372036854775807):∃ A c,v=.slice A n c∧Rd w A n Z∧∀ g o,A=some ⟨g,o,none⟩→base≤g∧o=0:=by
 obtain⟨A,c,rfl,h0⟩:=own_form h;refine⟨A,c,rfl,⟨hn,hz,fun hp=>?_⟩,fun g o e2=>?_⟩
 ·obtain⟨g,cap,e2,_,_⟩:=h.form hp
  simp only[Value.slice.injEq] at e2;obtain⟨rfl,_,rfl⟩:=e2;refine⟨g,0,rfl,fun j hj=>?_⟩
  rw[Nat.zero_add];have h2:=h.cellAt j (by rw[Nat.mul_one];exact hj)
  rw[h2];unfold zbo;rw[List.getElem?_map,List.getElem?_range hj];rfl
 ·subst e2
  rcases h.2 with ⟨e3,_⟩ | ⟨g2,cap,cur,e3,hb,_⟩
  ·cases e3
  ·cases e3
   exact⟨hb,rfl⟩
def zdu(w:World)(g n:Nat)(Z:Nat→Int):Prop:=∃ cur:Array Value,w.heap[g]?=some (.cells cur 2 (0,0))∧∀ j,j<n→cur[j]?=some (.int .i64 (Z j))
section
variable{w:World}{g n:Nat}{Z:Nat→Int}
theorem zdu.cell(h:zdu w g n Z){j:Nat}(hj:j<n):w.cell? ⟨g,j,none⟩=some (.int .i64 (Z j)):=by
 obtain⟨cur,h1,h2⟩:=h;rw[cell_of_row w g j _ _ _ h1];exact h2 j hj
theorem zdu.frozen(h:zdu w g n Z)(j:Nat):w.frozen? ⟨g,j,none⟩=false:=by
 obtain⟨cur,h1,_⟩:=h;simp[World.frozen?,h1]
theorem zdu.same{w':World}(h:zdu w g n Z)(e:w'.heap[g]?=w.heap[g]?):zdu w' g n Z:=by
 obtain⟨cur,h1,h2⟩:=h;exact⟨cur,e.trans h1,h2⟩
theorem zdu.set(h:zdu w g n Z){i:Nat}(u:Int):zdu (w.setCell ⟨g,i,none⟩ (.int .i64 u)) g n (fun j=>if j=i then u else Z j):=by
 obtain⟨cur,h1,h2⟩:=h;refine⟨_,heap_setCell_same w g i _ _ _ h1,fun j hj=>?_⟩
 have h3:=h2 j hj;show _=some (Value.int .i64 (if j=i then u else Z j))
 by_cases e:j=i
 ·subst e
  rw[if_pos rfl];have:=(Array.getElem?_eq_some_iff.1 h3).1;simp[this]
 ·rw[if_neg e,← h3]
  simp[Ne.symm e]
theorem zdu.rd(h:zdu w g n Z)(hn:n≤9223372036854775807)(hz:∀ j,j<n→-9223372036854775808≤Z j∧Z j≤9223372036854775807):Rd w (some ⟨g,0,none⟩) n Z :=
 ⟨hn,hz,fun _=>⟨g,0,rfl,fun j hj=>by rw[Nat.zero_add];exact h.cell hj⟩⟩
end
theorem znp{w:World}{base n:Nat}{A:Option Addr}{c:Nat}{Z:Nat→Int}(h:w.ownsRow base 2 1 (.slice A n c) n (zbo n Z))(hp:0<n):∃ g,A=some ⟨g,0,none⟩∧base≤g∧zdu w g n Z:=by
 rcases h.2 with ⟨_,e0⟩ | ⟨g,cap,cur,e2,hb,hh,_,_,_,ht⟩
 ·omega
 ·cases e2
  refine⟨g,rfl,hb,cur,hh,fun j hj=>?_⟩
  have h2:(zbo n Z)[j]?=some (.int .i64 (Z j)):=by
   unfold zbo;rw[List.getElem?_map,List.getElem?_range hj];rfl
  rw[← ht,Nat.mul_one,List.getElem?_take_of_lt hj] at h2;rw[← Array.getElem?_toList];exact h2
end Go.Proofs.YtihjgcibpfajkaaGreatDoor.T16
namespace Go.Proofs.YtihjgcibpfajkaaGreatDoor.T16
open Go.RowKit Go.Sort Go.Lib V12 T13 T14 T15
theorem zdu.lt{w:World}{g n:Nat}{Z:Nat→Int}(h:zdu w g n Z):g<w.heap.size:=by
 obtain⟨cur,h1,_⟩:=h;exact lt_of_block h1
theorem zdu.keep{w w':World}{g n:Nat}{Z:Nat→Int}(h:zdu w g n Z)(k:Keep w w'):zdu w' g n Z:=h.same (Below.block k _ h.lt)
theorem zdu.congr{w:World}{g n:Nat}{Z Y:Nat→Int}(h:zdu w g n Z)(e:∀ j,j<n→Z j=Y j):zdu w g n Y:=by
 obtain⟨cur,h1,h2⟩:=h;exact⟨cur,h1,fun j hj=>by rw[← e j hj];exact h2 j hj⟩
theorem app_row{w:World}{base m:Nat}{v:Value}{Z:Nat→Int}(h:w.ownsRow base 2 1 v 2 ([]++zbo m Z))(hm:m=2):∃ g c,v=.slice (some ⟨g,0,none⟩) 2 c∧zdu w g 2 Z∧base≤g:=by
 subst hm;rw[List.nil_append] at h;obtain⟨A,c,rfl,_⟩:=own_form h;obtain⟨g,rfl,h1,h2⟩:=znp h (by omega)
 exact⟨g,c,rfl,h2,h1⟩
theorem zyt{w7 w8:World}{bq s:Nat}{o:Obj}(h:w7.heap[bq]?=some o)(hb:bq=s)(hg:w7.grownBy w8 (Value.slice (some ⟨s+1,0,none⟩) 0 0).ownBlock):w8.heap[s]?=some o:=by
 subst hb;exact(hg.block bq (Array.getElem?_eq_some_iff.1 h).1 (by show some bq≠some (bq+1);intro e;cases e)).trans h
end Go.Proofs.YtihjgcibpfajkaaGreatDoor.T16
