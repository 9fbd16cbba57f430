/-
  From a walk ('it returns true, and what was there is as it was') to a law's row; how operations, pods and slices of them open; what the laid variable gives. No condition.
-/
import Derived.Test.YtcogiogjpbkeaaaGreatDoorJ0
import Derived.Test.YtcogiogjpbkeaaaGreatDoorJ35
import Derived.Test.YtcogiogjpbkeaaaGreatDoorRows
import Derived.ProofKit
import Derived.OpenShut
import Derived.SizedLaws
import Derived.Deep.Modes
import Derived.Deep.Frames
import Derived.Deep.Matrix
import Derived.LaidMore
import Derived.LaidHandle
import Derived.LaidLaws
import Derived.ChangeSame
import Derived.ChangeVars
import Derived.JoinedOf
import Derived.Stop.Joined
namespace Go.Proofs.YtcogiogjpbkeaaaGreatDoor.T13
open Go.ChangeShapes Go.WideShapes Go.ChangeAt Go.WideMaps Go.WideElems Go.RowKit V12
section
variable{H:Type}{enc:TypeId × Value->H}{P:Program}
theorem zio(hl:laidOutB P=true){W W':World}{sp':Nat->Bool}:∀ {ts:List TypeId} {vs:List Value} {ds:List (DataW H)} {ps:List MemPlace},(∀ t∈ts,P.readableRec t=true/\t<P.types.size) ->
  DataW.TrodAll enc P W 0 (fun _=>true) true ts vs ds ps->(∀ p∈ps,W.sameAt W' p)->(∀ p∈ps,sp' p.block=true)->DataW.TrodAll enc P W' 0 sp' true ts vs ds ps
 | [],vs,ds,ps,_,h,_,_=>by
   obtain⟨rfl,rfl,rfl⟩:=trodAll_nil h;exact trodAll_mk0
 | t :: ts,vs,ds,ps,hr,h,hs,hb=>by
   obtain⟨v,vs1,d,ds1,a,b,rfl,rfl,rfl,h1,h2⟩:=trodAll_cons h;refine trodAll_cons_mk ?_ ?_
   ·exact WideElems.Trod_stays hl (hr t (by simp)).1 (hr t (by simp)).2 h1 (fun p hp=>hs p (by simp[hp])) (fun p hp=>hb p (by simp[hp]))
   ·exact zio hl (fun t' ht=>hr t' (by simp[ht])) h2 (fun p hp=>hs p (by simp[hp])) (fun p hp=>hb p (by simp[hp]))
theorem law_post(hl:laidOutB P=true){f:Func}{s:ChangeSpec}{tb:TypeId}{W W':World}{args:Array Value}{ds gs:List (DataW H)}{before:List MemPlace}
  (hvars:s.vars=[]) (hr:∀ t∈f.params.toList,P.readableRec t=true/\t<P.types.size) (ht:f.resultTypes=#[tb]) (hb:P.underlying tb=some .bool)
  (hW:DataW.Whole enc P f.params.toList s.vars false W args.toList ds gs before)
  (hfn:s.fn H (ds++gs)={ results:=[.lit (.bool true)],args:=ds }) (hk:Below W.heap.size W W') :
  s.post enc P f false true false false W args (.bool true) W':=by
 have hlt:∀ x∈before,x.block<W.heap.size:=fun x hx=>hW.lt x hx
 have hW0:=hW;obtain⟨p,q,hA,hV,rfl,_,_⟩:=hW;rw[hvars] at hV;obtain⟨rfl,rfl⟩:=trodVars_none hV;simp only[List.append_nil] at hlt;refine⟨ds,[],p++[],[],p,[],hW0,?_,?_,?_,hk.frame _,fun h=>by cases h⟩
 ·rw[hfn,ht]
  exact trodAll_cons_mk (shut_bool hb _) trodAll_mk0
 ·rw[hfn]
  exact zio hl hr hA (fun x hx=>hk.same (hlt x hx)) (fun x hx=>by simpa using hlt x hx)
 ·rw[hfn,hvars]
  rfl
theorem zku{W:World}{t e:TypeId}{v:Value}{fuel:Nat}{x:DataW H × List MemPlace}(ht:P.underlying t=some (.slice e))(he:P.underlying e=some (.int .i64))(hc:P.cellsOf e=1)
  (hf:DataW.trod enc P W 0 (fun _=>true) true fuel t [v]=some x):∃ A n c Z,v=.slice A n c/\Rd W A n Z/\(A=none->n=0/\c=0):=by
 rcases open_ints ht he hc hf with ⟨hcs,_⟩ | ⟨x,l,c,zs,hcs,_,hl,hm,hz,_,hcell,hwz⟩
 ·simp at hcs
  exact⟨none,0,0,fun _=>0,hcs,Rd.nil _ _ _,fun _=>⟨rfl,rfl⟩⟩
 ·simp at hcs
  simp only[if_true] at hz;unfold maxLen at hm;refine⟨_,_,_,fun k=>zs.getD k 0,hcs,⟨by omega,fun k hk=>?_,fun hn=>?_⟩,fun h=>by cases h⟩
  ·have hk':k<zs.length:=by omega
   have hw:=hwz (zs.getD k 0) (by rw[show zs.getD k 0=zs[k] from by simp[List.getD,hk']];exact List.getElem_mem hk')
   simp[Lit.wf,IntKind.min,IntKind.max,IntKind.signed,IntKind.bits] at hw
   simpa using hw
  ·obtain⟨b,off,spot⟩:=x
   have hspot:spot=none:=by simpa [Addr.add] using World.cell?_spot (hcell 0 (by omega))
   subst hspot;exact⟨b,off,rfl,fun j hj=>by have:=hcell j (by omega);rwa [add_plain] at this⟩
end
theorem Tryz.own:ownKnob Tryz.prog.godebug=none:=by kernel_rfl
theorem Tryz.laidOut:laidOutB Tryz.prog=true:=by kernel_rfl
theorem Tryz.cellsInt:Tryz.prog.cellsOf 3=1:=by kernel_rfl
theorem Tryz.cellsI64:Tryz.prog.cellsOf 2=1:=by kernel_rfl
theorem Tryz.cellsI64s:Tryz.prog.cellsOf 24=1:=by kernel_rfl
def seatLaid:List (String × DataW Unit):=[("errors.errorType", Rows.laid_errors_errorType)]
theorem door_met(os:Os)(args:Array Value):laidMetH Tryz.prog seatLaid ((World.doorLaid Tryz.prog 400 os).forCall (fun _ _=>0) ⟨#[],args,[]⟩).memory :=
 laidMetH_of_parts3 (fuel:=8) (laidMet_of_run' 8 (by kernel_rfl) (by kernel_rfl)) (by kernel_rfl) (by kernel_rfl)
theorem Tryz.gE:Tryz.prog.globalNamed "errors.errorType" = some 0:=by kernel_rfl
theorem Tryz.rt:(Tryz.prog.cutTypes.find? (·.1 == "internal/reflectlite.rtype")).map (·.2)=some 206:=by kernel_rfl
theorem Tryz.oneRow:((List.range 266).filter fun t=>Tryz.prog.rowNamed t [101,114,114,111,114])=[60]:=by kernel_rfl
theorem Tryz.tsize:Tryz.prog.types.size=266:=by kernel_rfl
theorem vars_of_laid{W:World}(h:laidMetH Tryz.prog seatLaid W):zbk W:=by
 have h':laidMet Tryz.prog [] W/\handlesMet Tryz.prog [("errors.errorType", Rows.laid_errors_errorType)] W:=h;obtain⟨_,hh⟩:=h';obtain⟨name,u,ty,e1,e2,e3,e4,e5⟩:=hh _ (List.mem_singleton.2 rfl);have en:name=[101,114,114,111,114]:=(Option.some.inj e1).symm;subst en;obtain rfl:=Option.some.inj (Tryz.rt.symm.trans e2);have hm:ty∈(List.range 266).filter fun t=>Tryz.prog.rowNamed t [101,114,114,111,114]:=List.mem_filter.2 ⟨List.mem_range.2 (by rw[<- Tryz.tsize];exact e3),e4⟩
 rw[Tryz.oneRow] at hm;obtain rfl:=List.mem_singleton.1 hm;have hth:typeHandle Tryz.prog 60=.pointer (some ⟨1,60,none⟩):=by kernel_rfl
 rw[hth] at e5;unfold zbk
 simpa using World.var?_cell Tryz.gE e5 0
theorem zem{t:TypeId}(h:Tryz.prog.cellsOf t=1)(cs:List Value)(j:Nat)(v:Value)(hv:cs[j]?=some v):(cs.drop j).take (Tryz.prog.cellsOf t)=[v]:=by
 rw[h];cases hd:cs.drop j with
 | nil =>
   rw[List.drop_eq_nil_iff] at hd;rw[List.getElem?_eq_none hd] at hv;cases hv
 | cons a r =>
   have:(cs.drop j).head?=some a:=by rw[hd];rfl
   rw[List.head?_drop,hv] at this;simp at this
   simp[this]
theorem i64_wf{x:Int}(h:(Lit.int .i64 x).wf=true):I64 x:=by
 unfold I64;simp[Lit.wf,IntKind.min,IntKind.max,IntKind.signed,IntKind.bits] at h
 simpa using h
theorem Tryz.cellsBool:Tryz.prog.cellsOf 4=1:=by kernel_rfl
theorem Tryz.cellsPod:Tryz.prog.cellsOf 26=9:=by kernel_rfl
theorem Tryz.fieldsPod:∃ f0 f1 f2 f3 f4 f5 f6 f7 f8:Field,Tryz.prog.underlying 26=some (.struct #[f0,f1,f2,f3,f4,f5,f6,f7,f8])/\(f0.type=3/\f1.type=3/\f2.type=4/\f3.type=3/\f4.type=24/\f5.type=3/\f6.type=3/\f7.type=3/\f8.type=3)/\f0.offset=0/\f1.offset=1/\f2.offset=2/\f3.offset=3/\f4.offset=4/\f5.offset=5/\f6.offset=6/\f7.offset=7/\f8.offset=8 :=
 ⟨_,_,_,_,_,_,_,_,_,Tryz.underlying26,⟨rfl,rfl,rfl,rfl,rfl,rfl,rfl,rfl,rfl⟩,rfl,rfl,rfl,rfl,rfl,rfl,rfl,rfl,rfl⟩
set_option maxRecDepth 100000 in
theorem zng{H:Type}{enc:TypeId × Value->H}{W:World}{fuel:Nat}{l:List Value}{x:DataW H × List MemPlace}(hl:l.length=9)(hf:DataW.trod enc Tryz.prog W 0 (fun _=>true) true fuel 26 l=some x):
  ∃ p:zaa,l=p.cells/\zah W p:=by
 obtain⟨f0,f1,f2,f3,f4,f5,f6,f7,f8,hs,⟨t0,t1,t2,t3,t4,t5,t6,t7,t8⟩,o0,o1,o2,o3,o4,o5,o6,o7,o8⟩:=Tryz.fieldsPod;obtain⟨xs,n',_,_,_,hlen,hg⟩:=DataW.trod_struct hs hf
 match l,hl,xs,hlen with
 | [v0,v1,v2,v3,v4,v5,v6,v7,v8],_,[y0,y1,y2,y3,y4,y5,y6,y7,y8],_ =>
   have g0:=hg 0 f0 rfl;have g1:=hg 1 f1 rfl;have g2:=hg 2 f2 rfl;have g3:=hg 3 f3 rfl;have g4:=hg 4 f4 rfl;have g5:=hg 5 f5 rfl;have g6:=hg 6 f6 rfl;have g7:=hg 7 f7 rfl;have g8:=hg 8 f8 rfl;rw[o0,t0,zem Tryz.cellsInt _ 0 v0 rfl] at g0;rw[o1,t1,zem Tryz.cellsInt _ 1 v1 rfl] at g1;rw[o2,t2,zem Tryz.cellsBool _ 2 v2 rfl] at g2;rw[o3,t3,zem Tryz.cellsInt _ 3 v3 rfl] at g3;rw[o4,t4,zem Tryz.cellsI64s _ 4 v4 rfl] at g4;rw[o5,t5,zem Tryz.cellsInt _ 5 v5 rfl] at g5;rw[o6,t6,zem Tryz.cellsInt _ 6 v6 rfl] at g6;rw[o7,t7,zem Tryz.cellsInt _ 7 v7 rfl] at g7;rw[o8,t8,zem Tryz.cellsInt _ 8 v8 rfl] at g8;obtain⟨x0,e0,_,r0⟩:=DataW.trod_int Tryz.underlying3 (g0.trans (b:=some y0) rfl);obtain⟨x1,e1,_,r1⟩:=DataW.trod_int Tryz.underlying3 (g1.trans (b:=some y1) rfl);obtain⟨x2,e2,_⟩:=DataW.trod_bool Tryz.underlying4 (g2.trans (b:=some y2) rfl);obtain⟨x3,e3,_,r3⟩:=DataW.trod_int Tryz.underlying3 (g3.trans (b:=some y3) rfl);obtain⟨A,m,cp,Z,e4,hR,h0⟩:=zku Tryz.underlying24 Tryz.underlying2 Tryz.cellsI64 (g4.trans (b:=some y4) rfl);obtain⟨x5,e5,_,r5⟩:=DataW.trod_int Tryz.underlying3 (g5.trans (b:=some y5) rfl);obtain⟨x6,e6,_,r6⟩:=DataW.trod_int Tryz.underlying3 (g6.trans (b:=some y6) rfl);obtain⟨x7,e7,_,r7⟩:=DataW.trod_int Tryz.underlying3 (g7.trans (b:=some y7) rfl);obtain⟨x8,e8,_,r8⟩:=DataW.trod_int Tryz.underlying3 (g8.trans (b:=some y8) rfl);simp at e0 e1 e2 e3 e5 e6 e7 e8
   subst e0 e1 e2 e3 e4 e5 e6 e7 e8;exact⟨⟨x0,x1,x2,x3,A,m,cp,Z,x5,x6,x7,x8⟩,rfl,⟨hR,h0,i64_wf r0,i64_wf r1,i64_wf r3,i64_wf r5,i64_wf r6,i64_wf r7,i64_wf r8⟩⟩
set_option maxRecDepth 100000 in
theorem pod_open{H:Type}{enc:TypeId × Value->H}{W:World}{base:Nat}{v:Value}{d:DataW H}{p:List MemPlace}(hv:Value.okWide Tryz.prog W .any base 26 v)(h:DataW.Trod enc Tryz.prog W 0 (fun _=>true) true 26 v d p):
  ∃ x:zaa,v=x.val/\zah W x:=by
 obtain⟨f0,f1,f2,f3,f4,f5,f6,f7,f8,hs,_⟩:=Tryz.fieldsPod;obtain⟨cs,rfl,hsz⟩:=okWide_struct hs hv;rw[Tryz.cellsPod] at hsz;obtain⟨l⟩:=cs;obtain⟨fuel,hf⟩:=h;have hcl:(Value.agg ⟨l⟩).cells.toList=l:=by simp[Value.cells]
 rw[hcl] at hf;obtain⟨x,rfl,hx⟩:=zng (by simpa using hsz) hf
 exact⟨x,rfl,hx⟩
set_option maxRecDepth 100000 in
theorem pods_open{H:Type}{enc:TypeId × Value->H}{W:World}{base:Nat}{v:Value}{d:DataW H}{p:List MemPlace}(hv:Value.okWide Tryz.prog W .any base 28 v)(h:DataW.Trod enc Tryz.prog W 0 (fun _=>true) true 28 v d p):
  ∃ A n cp P,v=.slice A n cp/\zai W A n P/\(A=none->n=0/\cp=0):=by
 obtain⟨a0,len,cap,rfl⟩:=okWide_slice Tryz.underlying28 hv;obtain⟨fuel,hf⟩:=h;have hcs:(Value.slice a0 len cap).cells.toList=[.slice a0 len cap]:=by simp[Value.cells]
 rw[hcs] at hf;rcases DataW.trod_slice Tryz.underlying28 hf with ⟨e,_⟩ | ⟨a,len',cap',elems,rest,n,_,e,_,hb,hl,hm,hlen,hel,_,_⟩
 ·simp at e
  obtain⟨rfl,rfl,rfl⟩:=e;exact⟨none,0,0,fun _=>⟨0,0,false,0,none,0,0,fun _=>0,0,0,0,0⟩,rfl,zai.nil _ _ _,fun _=>⟨rfl,rfl⟩⟩
 ·simp at e
  obtain⟨rfl,rfl,rfl⟩:=e;have each:∀ j,j<len->∃ q:zaa,zah W q/\∀ i u,q.cells[i]?=some u->W.cell? ((a.add (j * 9)).add i)=some u:=by
   intro j hj;have h1:=hel j hj;rw[Tryz.cellsPod,List.getElem?_eq_getElem (by omega)] at h1
   rw[Option.bind_eq_some_iff] at h1;obtain⟨cs,hc1,hc2⟩:=h1;obtain⟨_,hcl,hce⟩:=World.cells?_some hc1;obtain⟨q,rfl,hq⟩:=zng hcl hc2;refine⟨q,hq,fun i u hu=>?_⟩
   have hi:i<9:=by have:=(List.getElem?_eq_some_iff.1 hu).1;exact this
   rw[hce i hi];exact hu
  have pick:∃ P:Nat->zaa,∀ j,j<len->zah W (P j)/\∀ i u,(P j).cells[i]?=some u->W.cell? ((a.add (j * 9)).add i)=some u :=
   ⟨fun j=>if hj:j<len then(each j hj).choose else⟨0,0,false,0,none,0,0,fun _=>0,0,0,0,0⟩,fun j hj=>by simp only[dif_pos hj];exact(each j hj).choose_spec⟩
  obtain⟨P,hP⟩:=pick;refine⟨some a,len,cap,P,rfl,⟨by unfold maxLen at hm;omega,fun hn=>?_,fun j hj=>(hP j hj).1⟩,fun h=>by cases h⟩
  obtain⟨b,o,ea⟩:∃ b o,a=⟨b,o,none⟩:=by
   have h0:=(hP 0 hn).2 0 _ rfl;obtain⟨b,o,s⟩:=a;have hs:s=none:=by simpa [Addr.add] using World.cell?_spot h0
   subst hs;exact⟨b,o,rfl⟩
  subst ea;refine⟨b,o,rfl,fun j hj=>ziv fun i u hu=>?_⟩
  have h0:=(hP j hj).2 i u hu;rw[add_plain,add_plain] at h0;exact h0
end Go.Proofs.YtcogiogjpbkeaaaGreatDoor.T13
namespace Go.Proofs.YtcogiogjpbkeaaaGreatDoor.T15
open Go.ChangeShapes Go.WideShapes Go.ChangeAt Go.WideMaps Go.WideElems Go.RowKit V12 T13
theorem Tryz.cellsNode:Tryz.prog.cellsOf 56=2:=by kernel_rfl
theorem Tryz.fieldsNode:∃ f0 f1:Field,Tryz.prog.underlying 56=some (.struct #[f0,f1])/\(f0.type=3/\f1.type=24)/\f0.offset=0/\f1.offset=1 :=
 ⟨_,_,Tryz.underlying56,⟨rfl,rfl⟩,rfl,rfl⟩
def aji(W:World)(q:C14.NdC):Prop:=I64 q.k/\Rd W q.A q.n q.C/\(q.A=none->q.n=0/\q.c=0)
set_option maxRecDepth 100000 in
theorem zyo{H:Type}{enc:TypeId × Value->H}{W:World}{fuel:Nat}{l:List Value}{x:DataW H × List MemPlace}(hl:l.length=2)(hf:DataW.trod enc Tryz.prog W 0 (fun _=>true) true fuel 56 l=some x):
  ∃ q:C14.NdC,l=q.cells/\aji W q:=by
 obtain⟨f0,f1,hs,⟨t0,t1⟩,o0,o1⟩:=Tryz.fieldsNode;obtain⟨xs,n',_,_,_,hlen,hg⟩:=DataW.trod_struct hs hf
 match l,hl,xs,hlen with
 | [v0,v1],_,[y0,y1],_ =>
   have g0:=hg 0 f0 rfl;have g1:=hg 1 f1 rfl;rw[o0,t0,zem Tryz.cellsInt _ 0 v0 rfl] at g0;rw[o1,t1,zem Tryz.cellsI64s _ 1 v1 rfl] at g1;obtain⟨x0,e0,_,r0⟩:=DataW.trod_int Tryz.underlying3 (g0.trans (b:=some y0) rfl);obtain⟨A,m,cp,Z,e1,hR,h0⟩:=zku Tryz.underlying24 Tryz.underlying2 Tryz.cellsI64 (g1.trans (b:=some y1) rfl);simp at e0
   subst e0 e1;exact⟨⟨x0,A,m,cp,Z⟩,rfl,i64_wf r0,hR,h0⟩
set_option maxRecDepth 100000 in
theorem nodes_open{H:Type}{enc:TypeId × Value->H}{W:World}{base:Nat}{v:Value}{d:DataW H}{p:List MemPlace}(hv:Value.okWide Tryz.prog W .any base 22 v)(h:DataW.Trod enc Tryz.prog W 0 (fun _=>true) true 22 v d p):
  ∃ A n cp P,v=.slice A n cp/\C14.RdC W A n P:=by
 obtain⟨a0,len,cap,rfl⟩:=okWide_slice Tryz.underlying22 hv;obtain⟨fuel,hf⟩:=h;have hcs:(Value.slice a0 len cap).cells.toList=[.slice a0 len cap]:=by simp[Value.cells]
 rw[hcs] at hf;rcases DataW.trod_slice Tryz.underlying22 hf with ⟨e,_⟩ | ⟨a,len',cap',elems,rest,n,_,e,_,hb,hl,hm,hlen,hel,_,_⟩
 ·simp at e
  obtain⟨rfl,rfl,rfl⟩:=e;exact⟨none,0,0,fun _=>C14.zp,rfl,C14.RdC.none _ _ _⟩
 ·simp at e
  obtain⟨rfl,rfl,rfl⟩:=e;have each:∀ j,j<len->∃ q:C14.NdC,aji W q/\∀ i u,(C14.NdC.cells q)[i]?=some u->W.cell? ((a.add (j * 2)).add i)=some u:=by
   intro j hj;have h1:=hel j hj;rw[Tryz.cellsNode,List.getElem?_eq_getElem (by omega)] at h1
   rw[Option.bind_eq_some_iff] at h1;obtain⟨cs,hc1,hc2⟩:=h1;obtain⟨_,hcl,hce⟩:=World.cells?_some hc1;obtain⟨q,rfl,hq⟩:=zyo hcl hc2;refine⟨q,hq,fun i u hu=>?_⟩
   have hi:i<2:=by have:=(List.getElem?_eq_some_iff.1 hu).1;exact this
   rw[hce i hi];exact hu
  have pick:∃ P:Nat->C14.NdC,∀ j,j<len->aji W (P j)/\∀ i u,(C14.NdC.cells (P j))[i]?=some u->W.cell? ((a.add (j * 2)).add i)=some u :=
   ⟨fun j=>if hj:j<len then(each j hj).choose else C14.zp,fun j hj=>by simp only[dif_pos hj];exact(each j hj).choose_spec⟩
  obtain⟨P,hP⟩:=pick;have hm':len<=9223372036854775807:=by unfold maxLen at hm;omega
  have hadr:0<len->∃ b o,a=⟨b,o,none⟩:=fun hn=>by
   have h0:=(hP 0 hn).2 0 _ rfl;obtain⟨b,o,s⟩:=a;have hs:s=none:=by simpa [Addr.add] using World.cell?_spot h0
   subst hs;exact⟨b,o,rfl⟩
  have at_:∀ b o,a=⟨b,o,none⟩->∀ j,j<len->∀ i u,(C14.NdC.cells (P j))[i]?=some u->W.cell? ⟨b,o+j * 2+i,none⟩=some u:=fun b o e j hj i u hu=>by
   subst e;have h0:=(hP j hj).2 i u hu;rw[add_plain,add_plain] at h0;exact h0
  refine⟨some a,len,cap,P,rfl,?_⟩
  exact⟨⟨hm',fun hn=>by
   obtain⟨b,o,e⟩:=hadr hn
   exact⟨b,o,by rw[e],fun j hj=>⟨at_ b o e j hj 0 _ rfl,at_ b o e j hj 1 _ rfl⟩⟩,fun j hj=>⟨(hP j hj).1.1,trivial⟩⟩,fun j hj=>(hP j hj).1.2.1,fun j hj=>(hP j hj).1.2.2⟩
theorem Tryz.cellsPlace:Tryz.prog.cellsOf 63=11:=by kernel_rfl
set_option maxRecDepth 100000 in
theorem Tryz.fieldsPlace:∃ f0 f1 f2:Field,Tryz.prog.underlying 63=some (.struct #[f0,f1,f2])/\(f0.type=26/\f1.type=3/\f2.type=43)/\f0.offset=0/\f1.offset=9/\f2.offset=10 :=
 ⟨_,_,_,Tryz.underlying63,⟨rfl,rfl,rfl⟩,rfl,rfl,rfl⟩
theorem Tryz.cellsInts:Tryz.prog.cellsOf 43=1:=by kernel_rfl
def abt(q:PlV):List Value:=q.x.cells++[.int .i64 q.nd,.slice q.A q.n q.c]
set_option maxRecDepth 100000 in
theorem zuy{H:Type}{enc:TypeId × Value->H}{W:World}{fuel:Nat}{l:List Value}{x:DataW H × List MemPlace}(hl:l.length=11)(hf:DataW.trod enc Tryz.prog W 0 (fun _=>true) true fuel 63 l=some x):
  ∃ q:PlV,l=abt q/\zrd W q:=by
 obtain⟨f0,f1,f2,hs,⟨t0,t1,t2⟩,o0,o1,o2⟩:=Tryz.fieldsPlace;obtain⟨xs,n',_,_,_,hlen,hg⟩:=DataW.trod_struct hs hf
 match l,hl,xs,hlen with
 | [v0,v1,v2,v3,v4,v5,v6,v7,v8,v9,v10],_,[y0,y1,y2],_ =>
   have g0:=hg 0 f0 rfl;have g1:=hg 1 f1 rfl;have g2:=hg 2 f2 rfl;have e1:(List.drop 0 [v0,v1,v2,v3,v4,v5,v6,v7,v8,v9,v10]).take 9=[v0,v1,v2,v3,v4,v5,v6,v7,v8]:=rfl;rw[o0,t0,Tryz.cellsPod,e1] at g0;rw[o1,t1,zem Tryz.cellsInt _ 9 v9 rfl] at g1;rw[o2,t2,zem Tryz.cellsInts _ 10 v10 rfl] at g2;obtain⟨p,ep,hp⟩:=zng (by rfl) (g0.trans (b:=some y0) rfl)
   obtain⟨x1,e3,_,r1⟩:=DataW.trod_int Tryz.underlying3 (g1.trans (b:=some y1) rfl);obtain⟨A,m,cp,Z,e4,hR,h0⟩:=zku Tryz.underlying43 Tryz.underlying3 Tryz.cellsInt (g2.trans (b:=some y2) rfl);simp at e3
   subst e3 e4;refine⟨⟨p,x1,A,m,cp,Z⟩,?_,⟨hp,i64_wf r1,hR,h0⟩⟩;unfold abt;rw[<- ep];rfl
set_option maxRecDepth 100000 in
theorem places_open{H:Type}{enc:TypeId × Value->H}{W:World}{base:Nat}{v:Value}{d:DataW H}{p:List MemPlace}(hv:Value.okWide Tryz.prog W .any base 23 v)(h:DataW.Trod enc Tryz.prog W 0 (fun _=>true) true 23 v d p):
  ∃ A n cp P,v=.slice A n cp/\zob W A n P:=by
 obtain⟨a0,len,cap,rfl⟩:=okWide_slice Tryz.underlying23 hv;obtain⟨fuel,hf⟩:=h;have hcs:(Value.slice a0 len cap).cells.toList=[.slice a0 len cap]:=by simp[Value.cells]
 rw[hcs] at hf;rcases DataW.trod_slice Tryz.underlying23 hf with ⟨e,_⟩ | ⟨a,len',cap',elems,rest,n,_,e,_,hb,hl,hm,hlen,hel,_,_⟩
 ·simp at e
  obtain⟨rfl,rfl,rfl⟩:=e;exact⟨none,0,0,fun _=>⟨zaf,0,none,0,0,fun _=>0⟩,rfl,⟨by omega,fun h=>absurd h (Nat.lt_irrefl _),fun _ h=>absurd h (Nat.not_lt_zero _)⟩⟩
 ·simp at e
  obtain⟨rfl,rfl,rfl⟩:=e;have each:∀ j,j<len->∃ q:PlV,zrd W q/\∀ i u,(abt q)[i]?=some u->W.cell? ((a.add (j * 11)).add i)=some u:=by
   intro j hj;have h1:=hel j hj;rw[Tryz.cellsPlace,List.getElem?_eq_getElem (by omega)] at h1
   rw[Option.bind_eq_some_iff] at h1;obtain⟨cs,hc1,hc2⟩:=h1;obtain⟨_,hcl,hce⟩:=World.cells?_some hc1;obtain⟨q,rfl,hq⟩:=zuy hcl hc2;refine⟨q,hq,fun i u hu=>?_⟩
   have hi:i<11:=by have:=(List.getElem?_eq_some_iff.1 hu).1;exact this
   rw[hce i hi];exact hu
  have pick:∃ P:Nat->PlV,∀ j,j<len->zrd W (P j)/\∀ i u,(abt (P j))[i]?=some u->W.cell? ((a.add (j * 11)).add i)=some u :=
   ⟨fun j=>if hj:j<len then(each j hj).choose else⟨zaf,0,none,0,0,fun _=>0⟩,fun j hj=>by simp only[dif_pos hj];exact(each j hj).choose_spec⟩
  obtain⟨P,hP⟩:=pick;have hm':len<=9223372036854775807:=by unfold maxLen at hm;omega
  have hadr:0<len->∃ b o,a=⟨b,o,none⟩:=fun hn=>by
   have h0:=(hP 0 hn).2 0 _ rfl;obtain⟨b,o,s⟩:=a;have hs:s=none:=by simpa [Addr.add] using World.cell?_spot h0
   subst hs;exact⟨b,o,rfl⟩
  have at_:∀ b o,a=⟨b,o,none⟩->∀ j,j<len->∀ i u,(abt (P j))[i]?=some u->W.cell? ⟨b,o+j * 11+i,none⟩=some u:=fun b o e j hj i u hu=>by
   subst e;have h0:=(hP j hj).2 i u hu;rw[add_plain,add_plain] at h0;exact h0
  refine⟨some a,len,cap,P,rfl,?_⟩
  exact⟨hm',fun hn=>by
   obtain⟨b,o,e⟩:=hadr hn
   exact⟨b,o,by rw[e],fun j hj=>⟨⟨at_ b o e j hj 0 _ rfl,at_ b o e j hj 1 _ rfl,at_ b o e j hj 2 _ rfl,at_ b o e j hj 3 _ rfl,at_ b o e j hj 4 _ rfl,at_ b o e j hj 5 _ rfl,at_ b o e j hj 6 _ rfl,at_ b o e j hj 7 _ rfl,at_ b o e j hj 8 _ rfl⟩,at_ b o e j hj 9 _ rfl,at_ b o e j hj 10 _ rfl⟩⟩,fun j hj=>(hP j hj).1⟩
end Go.Proofs.YtcogiogjpbkeaaaGreatDoor.T15
