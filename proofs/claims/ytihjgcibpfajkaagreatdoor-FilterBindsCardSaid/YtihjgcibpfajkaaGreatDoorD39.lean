/-
  The landed cluster: Nodes. No condition.
  The landed cluster is what the laws ask for. Condition: errors.errorType holds its own (where Con says so).
  The landed cluster: New, beside blocks of others. No condition.
  A pod written into an element of a row; a row cut short; the end of a row cleared. No condition, no walk.
-/
import Derived.Test.YtihjgcibpfajkaaGreatDoorD32
import Derived.Test.YtihjgcibpfajkaaGreatDoorD33
import Derived.Test.YtihjgcibpfajkaaGreatDoorD35
import Derived.Test.YtihjgcibpfajkaaGreatDoorD36
import Derived.Test.YtihjgcibpfajkaaGreatDoorD37
import Derived.Test.YtihjgcibpfajkaaGreatDoorD38
import Derived.Test.YtihjgcibpfajkaaGreatDoorD16
import Derived.Test.YtihjgcibpfajkaaGreatDoorD28
import Derived.Lib.SliceRun
namespace Go.Proofs.YtihjgcibpfajkaaGreatDoor.T14
open Go.RowKit Go.Sort Go.Lib V12 T13
theorem aev(b off n cp j:Nat)(hj:j<n)(W:World):(Instr.indexAt 36 (.slice (some ⟨b,off,none⟩) n cp) (.int .i64 j)).run Tryz.prog W=.ok (.pointer (some ⟨b,off+j,none⟩)) W:=by
 go_simp
structure ziw(w:World)(d:Nat)(A:Option Addr)(C:Nat→Int):Prop where
 rd:Rd w A d C
 ty:0<d→∀ b o,A=some ⟨b,o,none⟩→T12.Typ w b 2
theorem ziw.keep{w w':World}{d:Nat}{A:Option Addr}{C:Nat→Int}(h:ziw w d A C)(k:Keep w w'):ziw w' d A C:=⟨h.rd.keep k,fun hd b o e=>(h.ty hd b o e).keep k⟩
theorem ziw.grown{w w':World}{d base n:Nat}{A:Option Addr}{C:Nat→Int}{v:Value}{xs:List Value}(h:ziw w d A C)(hr:w.ownsRow base 55 2 v n xs)(hg:w.grownBy w' v.ownBlock):ziw w' d A C:=by
 have same:0<d→∀ b o,A=some ⟨b,o,none⟩→w'.heap[b]?=w.heap[b]?:=fun hd b o e=>by
  have ht:=h.ty hd b o e;refine hg.block b ht.lt fun e2=>?_
  obtain⟨cs,loc,h1⟩:=ht;obtain⟨cur,h2⟩:=zdp hr e2.symm;rw[h1] at h2;simp only[Option.some.injEq,Obj.cells.injEq] at h2;exact absurd h2.2.1 (by decide)
 refine⟨⟨h.rd.small,h.rd.range,fun hn=>?_⟩,fun hd b o e=>(h.ty hd b o e).same (same hd b o e)⟩
 obtain⟨b,off,e,hc⟩:=h.rd.adr hn;exact⟨b,off,e,fun j hj=>zay (hc j hj) (same hn b off e)⟩
section
variable{w w1 w2:World}{d q:Nat}{M:List NV}{L:List zaa}{X Z:Nat→Prop}{qn qp:Nat}{N:List T12.NodeV}{Xn Xp:Nat→Prop}
set_option maxRecDepth 100000 in
set_option maxHeartbeats 8000000 in
theorem zjg(h:zbf w d q M L X w1 qn qp N Xn Xp)(hl:M.length≤100):Calls Tryz.prog 13 #[.pointer (some ⟨q,0,none⟩)] w1 fun e w'=>∃ A c,e=.returned (.slice A M.length c)∧zky w' d A M∧(∀ b o,A=some ⟨b,o,none⟩→T12.Typ w' b 55∧w1.heap.size≤b)∧Keep w1 w':=by
 have hln:=h.len;have cB:Hid (Calls Tryz.prog 30 #[.pointer (some ⟨q,0,none⟩)] w1 fun e w'=>e=.returned (.agg #[.pointer (some ⟨qn,0,none⟩),.pointer (some ⟨qp,0,none⟩)])∧Keep w1 w'):=zdv h.c2.1 h.c2.2
 have cI:Hid (∀ W',Keep w1 W'→Calls Tryz.prog 31 #[.pointer (some ⟨qn,0,none⟩)] W' fun e w'=>∃ A c,e=.returned (.slice A N.length c)∧Rd w' A N.length (fun j=>(T12.nrow N j).k)∧Keep W' w'):=fun W' k=>adn (h.keep k).on (by omega)
 have srt:=h.on.srt;have cG:Hid (∀ W' j,Keep w1 W'→j<N.length→Calls Tryz.prog 32 #[.pointer (some ⟨qn,0,none⟩),.int .i64 (T12.nrow N j).k] W' fun e w'=>∃ A c,e=.returned (.tuple #[.agg #[.int .i64 (T12.nrow N j).k,.slice A d c],.bool true])∧ziw w' d A (T12.nrow N j).C∧(A=none→d=0∧c=0)∧Keep W' w'):=fun W' j k hj=>by
  have h2:=h.keep k;have hm:T12.nrow N j∈N:=by
   unfold T12.nrow;rw[List.getD_eq_getElem?_getD,List.getElem?_eq_getElem hj];exact List.getElem_mem _
  have hk:(T12.nrow N j).k∈T12.nkeys N:=List.mem_map_of_mem hm;have e:T12.nget N (T12.nrow N j).k=T12.nrow N j:=G.get_at (z:=T12.zn) srt hm;refine(zhq h2.on _ hk).mono ?_;rintro e' w' ⟨A,c,he,r,k3⟩;rw[e] at r;exact⟨A,c,he,⟨r.rd,r.ty⟩,r.nil,k3⟩
 have hik:Hid (∀ j,j<N.length→I64 (T12.nrow N j).k):=fun j hj=>by
  refine(h.on.ok (T12.nrow N j) ?_).k;unfold T12.nrow;rw[List.getD_eq_getElem?_getD,List.getElem?_eq_getElem hj];exact List.getElem_mem _
 have hmm:Hid (M=(List.range N.length).map fun j=>nvn (T12.nrow N j)):=by
  show _=_
  rw[← h.nds];refine List.ext_getElem? fun j=>?_
  rw[List.getElem?_map,List.getElem?_map]
  by_cases hj:j<N.length
  ·rw[List.getElem?_range hj,List.getElem?_eq_getElem hj]
   have e:T12.nrow N j=N[j]:=by
    unfold T12.nrow;rw[List.getD_eq_getElem?_getD,List.getElem?_eq_getElem hj];rfl
   show some (nvn N[j])=some (nvn (T12.nrow N j))
   rw[e]
  ·rw[List.getElem?_eq_none (by omega),List.getElem?_eq_none (by rw[List.length_range];omega)]
   rfl
 obtain⟨n,hn⟩:∃ n,n=N.length:=⟨_,rfl⟩;rw[← hn] at cI cG hmm hln hik;obtain⟨Z,hZ⟩:∃ Z:Nat→Int,Z=fun j=>(T12.nrow N j).k:=⟨_,rfl⟩
 have cG:Hid (∀ W' j,Keep w1 W'→j<n→Calls Tryz.prog 32 #[.pointer (some ⟨qn,0,none⟩),.int .i64 (Z j)] W' fun e w'=>∃ A c,e=.returned (.tuple #[.agg #[.int .i64 (Z j),.slice A d c],.bool true])∧ziw w' d A (T12.nrow N j).C∧(A=none→d=0∧c=0)∧Keep W' w'):=by rw[hZ];exact cG
 have hik:Hid (∀ j,j<n→I64 (Z j)):=by rw[hZ];exact hik
 have hmm:Hid (M=(List.range n).map fun j=>⟨Z j,(T12.nrow N j).C⟩):=by rw[hZ];exact hmm
 rw[← hZ] at cI;rw[← hln];replace hn:=Lib.hid hn;replace hZ:=Lib.hid hZ;have hl2:n≤100:=by omega
 replace hln:=Lib.hid hln;replace srt:=Lib.hid srt;clear h hl
 go_enter Tryz.func13,Tryz.ntmps13
 go_wp2_with fail;refine cB.out.mono ?_;rintro e w2 ⟨rfl,k2⟩;obtain⟨W2,hW2⟩:∃ W2,W2=w2.alloc (.cells #[.pointer (some ⟨qn,0,none⟩),.pointer (some ⟨qp,0,none⟩)] 79):=⟨_,rfl⟩;obtain⟨b3,hb3⟩:∃ b3,b3=w2.heap.size:=⟨_,rfl⟩;have K2:Hid (Keep w1 W2):=by rw[hW2];exact k2.alloc _
 have B3:Hid (W2.heap[b3]?=some (.cells #[.pointer (some ⟨qn,0,none⟩),.pointer (some ⟨qp,0,none⟩)] 79 (0,0))):=by show _=_;rw[hW2,hb3];exact heap_alloc_new _ _
 obtain⟨t0,t1,_⟩:=T12.cel2 B3.out;rw[hW2,hb3] at t0 t1;replace k2:=Lib.hid k2;go_wp2_with fail;rw[← hW2];try rw[← hb3]
 replace hW2:=Lib.hid hW2;replace hb3:=Lib.hid hb3;clear t0 t1;refine(cI.out W2 K2.out).mono ?_;rintro e w3 ⟨IA,ic,rfl,RI,k3⟩;have K23:Hid (Keep W2 w3):=k3;have K3:Hid (Keep w1 w3):=K2.out.trans k3;have RI:=Lib.hid RI;replace k3:=Lib.hid k3;generalize hwo:w3=wo at *;clear hwo;go_wp2
 go_loopg [4,16] n (fun gx s4 s16 wr=>∃ (j:Nat) (A2:Option Addr) (d2:Nat) (Q:Nat→C14.NdC),j≤n∧gx=n - j∧s16=.int .i64 j∧s4=.slice A2 j d2∧Hid (Keep wo wr)∧Hid (wr.ownsRow wo.heap.size 55 2 (.slice A2 j d2) j (C14.rnCs Q j))∧Hid (∀ t,t<j→(Q t).k=Z t∧(Q t).n=d∧(Q t).C=(T12.nrow N t).C∧ziw wr d (Q t).A (Q t).C∧((Q t).A=none→(Q t).n=0∧(Q t).c=0)))
 case atStart=>exact⟨0,none,0,fun _=>C14.zp,Nat.zero_le _,rfl,rfl,rfl,Keep.refl _,World.ownsRow_nil _ _ _ _,fun _ h=>absurd h (Nat.not_lt_zero _)⟩
 case round =>
  obtain⟨k,A2,d2,Q,hj,rfl,rfl,rfl,G,RW,FA⟩:=hrel
  by_cases hlt:k<n
  ·obtain⟨gi,offi,hIA,ci⟩:=(RI.out.keep G.out).adr (by omega)
   subst hIA;have q1:=aev gi offi n ic k hlt;have v0:=ci k hlt;clear ci;have t0:=(T12.cel2 ((K23.out.trans G.out).block B3.out)).1;go_wp2_with fail;refine(cG.out wr k (K3.out.trans G.out) hlt).mono ?_;rintro e w5 ⟨nA,nc,rfl,RN,hnil,k5⟩;obtain⟨x,hx⟩:∃ x:C14.NdC,x=⟨Z k,nA,d,nc,(T12.nrow N k).C⟩:=⟨_,rfl⟩;obtain⟨W5,hW5⟩:∃ W5,W5=w5.alloc (.cells #[.int .i64 (Z k),.slice nA d nc] 55):=⟨_,rfl⟩;obtain⟨W6,hW6⟩:∃ W6,W6=W5.alloc (.cells #[.int .i64 (Z k),.slice nA d nc] 55):=⟨_,rfl⟩;have K5:Hid (Keep wr W5):=by rw[hW5];exact k5.alloc _
   have K6:Hid (Keep wr W6):=by rw[hW6];exact K5.out.alloc _
   have K56:Hid (Keep w5 W6):=by rw[hW6,hW5];exact(Keep.one _ _:Keep w5 _).alloc _
   have B5:Hid (W5.heap[w5.heap.size]?=some (.cells #[.int .i64 (Z k),.slice nA d nc] 55 (0,0))):=by show _=_;rw[hW5];exact heap_alloc_new _ _
   obtain⟨y0,y1,_⟩:=T12.cel2 B5.out;rw[hW5] at y0 y1;have RN6:Hid (ziw W6 d nA (T12.nrow N k).C):=RN.keep K56.out;have hnil:=Lib.hid hnil;have SX:Hid (C14.SrcC W6 (.slice (some ⟨W5.heap.size,0,none⟩) 1 1) 1 x.cells):=by
    rw[hx,hW6];exact C14.src_one (x:=⟨Z k,nA,d,nc,(T12.nrow N k).C⟩) (heap_alloc_new _ _)
   have gsz:Hid (wo.heap.size≤W6.heap.size):=Nat.le_trans G.out.size K6.out.size;have RW6:=Lib.hid (C14.own_keep RW.out K6.out);have hW6':=hW6;rw[hW5] at hW6';rw[hW6',hW5] at SX;rw[hW6'] at RW6 gsz;replace k5:=Lib.hid k5;replace RN:=Lib.hid RN;replace hW6:=Lib.hid hW6;replace hW6':=Lib.hid hW6';clear v0 q1 t0;go_wp2_with (at_builtin;refine C14.wpl_own C14.Tryz.tyC14 rfl _ _ rfl wo.heap.size (.slice A2 k d2) k (C14.rnCs Q k) (by simp[Act.eval]) RW6.out (.slice (some ⟨(w5.alloc (.cells #[.int .i64 (Z k),.slice nA d nc] 55)).heap.size,0,none⟩) 1 1) 1 x.cells (by simp[Act.eval]) SX.out (C14.cells_one _) (by omega) gsz.out (k+1) rfl ?_;intro v7 w7 hr7 hg7)
   have RW6b:=RW6.out;rw[← hW6'.out] at hg7 RW6b;have K7:Hid (Keep wo w7):=C14.keep_grown (G.out.trans K6.out) hg7 (fun g hg=>(RW6b.lt g hg).1)
   have FA7:Hid (∀ t,t<k+1→(C14.put Q k x t).k=Z t∧(C14.put Q k x t).n=d∧(C14.put Q k x t).C=(T12.nrow N t).C∧ziw w7 d (C14.put Q k x t).A (C14.put Q k x t).C∧((C14.put Q k x t).A=none→(C14.put Q k x t).n=0∧(C14.put Q k x t).c=0)):=fun t ht=>by
    by_cases e:t=k
    ·subst e
     rw[C14.put_at,hx];exact⟨rfl,rfl,rfl,RN6.out.grown RW6b hg7,hnil.out⟩
    ·rw[C14.put_ne _ _ _ e]
     obtain⟨f1,f2,f3,f4,f5⟩:=FA.out t (by omega)
     exact⟨f1,f2,f3,(f4.keep K6.out).grown RW6b hg7,f5⟩
   obtain⟨B4,d4,hB4,_⟩:=C14.own_form hr7;subst hB4;rw[← C14.rnCs_put] at hr7;replace hr7:=Lib.hid hr7;replace hg7:=Lib.hid hg7;clear RW6b y0 y1;go_wp2;go_roundg (n - (k+1))
   case measure=>omega
   case rel=>exact⟨k+1,B4,d4,C14.put Q k x,hlt,rfl,by go_num,rfl,K7,hr7,FA7⟩
  ·obtain rfl:k=n:=by omega
   go_wp2;go_ret
   refine⟨A2,d2,rfl,⟨Q,?_,?_,?_⟩,fun b o e=>?_,K3.out.trans G.out⟩
   ·rw[← hln.out]
    refine⟨C14.rows_rd RW.out (by omega) fun t ht=>⟨?_,trivial⟩,fun t ht=>?_,fun t ht=>(FA.out t ht).2.2.2.2⟩
    ·rw[(FA.out t ht).1]
     exact hik.out t ht
    ·rw[(FA.out t ht).2.1]
     exact(FA.out t ht).2.2.2.1.rd
   ·rw[← hln.out,hmm.out]
    unfold C14.lst;rw[List.map_map];refine List.map_congr_left fun t ht=>?_
    obtain⟨f1,f2,f3,_⟩:=FA.out t (List.mem_range.1 ht);show nv (Q t)=_
    unfold nv;rw[f1,f3]
   ·intro t ht
    rw[← hln.out] at ht;exact(FA.out t ht).2.1
   ·rcases RW.out.2 with ⟨h1,_⟩ | ⟨g,cap,cur,h1,hb,hg,_⟩
    ·simp only[Value.slice.injEq] at h1
     rw[h1.1] at e;cases e
    ·simp only[Value.slice.injEq] at h1
     rw[h1.1] at e;cases e
     exact⟨⟨_,_,hg⟩,Nat.le_trans K3.out.size hb⟩
theorem zrs(h:zbf w d q M L X w1 qn qp N Xn Xp)(hl:M.length≤100):Calls Tryz.prog 13 #[.pointer (some ⟨q,0,none⟩)] w1 fun e w'=>∃ A c,e=.returned (.slice A M.length c)∧zky w' d A M∧Keep w1 w' :=
 (zjg h hl).mono fun _ _ ⟨A,c,h1,h2,_,h3⟩=>⟨A,c,h1,h2,h3⟩
end
end Go.Proofs.YtihjgcibpfajkaaGreatDoor.T14
namespace Go.Proofs.YtihjgcibpfajkaaGreatDoor.T14
open Go.RowKit Go.Sort Go.Lib V12 T13
theorem con14:Con CSd where
 kp:=fun h=>h.kp
 keep:=fun h k=>h.keep k
 more:=fun h k hZ=>h.more k hZ
 less:=fun h hZ=>h.less hZ
 write:=fun h kw hs f=>h.write kw hs f
 lt:=fun h=>h.lt
 ok:=fun h=>h.ok
 addNode:=by
  rintro w d q M L X w1 k A n c Z ⟨qn,qp,N,Xn,Xp,h⟩ hg hv nilA hk _ _;exact zyi h hg k A n c Z hv nilA hk
 submit:=by
  rintro w d q M L X w1 x ⟨qn,qp,N,Xn,Xp,h⟩ hg hx hm hl;exact zoo h hg x hx hm hl
 bind:=by
  rintro w d q M L X w1 id nd ⟨qn,qp,N,Xn,Xp,h⟩ hg hid hnd _ hl;exact ztx h id nd hid hnd hl
 claim:=by
  rintro w d q M L X w1 id nd ⟨qn,qp,N,Xn,Xp,h⟩ hg hid hnd _ hl;exact zrq h id nd hid hnd hl
 change:=by
  rintro w d q M L X w1 id ev dl ⟨qn,qp,N,Xn,Xp,h⟩ hg hid hev hdl _ hl;exact zoj h id ev dl hid hev hdl hl
 nodes:=by
  rintro w d q M L X w1 ⟨qn,qp,N,Xn,Xp,h⟩ hl;exact zrs h hl
 node:=by
  rintro w d q M L X w1 id ⟨qn,qp,N,Xn,Xp,h⟩ _ _
  exact(zuf h id).mono fun _ _ ⟨k,A,n,c,e,a,b,kk⟩=>⟨k,A,n,c,e,fun hk=>by
   obtain⟨a1,a2,a3,a4⟩:=a hk
   exact⟨a1,a2,a3,a4⟩,b,kk⟩
 pod:=by
  rintro w d q M L X w1 id ⟨qn,qp,N,Xn,Xp,h⟩ hid _;exact zym h id hid
 on:=by
  rintro w d q M L X w1 nd ⟨qn,qp,N,Xn,Xp,h⟩ _ hl;exact acb h nd hl
 dims:=by
  rintro w d q M L X w1 ⟨qn,qp,N,Xn,Xp,h⟩;exact zmq h
end Go.Proofs.YtihjgcibpfajkaaGreatDoor.T14
namespace Go.Proofs.YtihjgcibpfajkaaGreatDoor.T15
open Go.RowKit Go.Sort Go.Lib V12 T13 T14
set_option maxRecDepth 100000 in
set_option maxHeartbeats 4000000 in
theorem new15:zga CSd:=by
 intro d w w0 X k hX hd;have hN:=Lib.hid (zvg d 1024 w w0 (fun i=>i<w0.heap.size) k hd (by omega) (by unfold I64;omega) (fun _ h=>h))
 have hP:Hid (∀ W,Keep w0 W→Calls Tryz.prog 46 #[.int .i64 65536] W fun e w'=>∃ p,e=.returned (.pointer (some ⟨p,0,none⟩))∧OSd w 65536 p [] (fun i=>i<W.heap.size) w'∧Keep W w'):=fun W k2=>abl 65536 w W (fun i=>i<W.heap.size) (k.trans k2) (by unfold I64;omega) (fun _ h=>h)
 have k':=Lib.hid k;have hX:=Lib.hid hX;clear k
 go_enter Tryz.func23,Tryz.ntmps23
 go_wp2_with fail;refine hN.out.mono ?_;rintro e w2 ⟨qn,rfl,o,k2,_⟩;replace o:=Lib.hid o;replace k2:=Lib.hid k2;go_wp2_with fail;refine(hP.out w2 k2.out).mono ?_;rintro e w3 ⟨qp,rfl,p,k3⟩;replace p:=Lib.hid p;replace k3:=Lib.hid k3;go_wp2;go_ret
 obtain⟨w4,hw4⟩:∃ w4,w4=w3.alloc (.cells #[.pointer (some ⟨qn,0,none⟩),.pointer (some ⟨qp,0,none⟩)] 92):=⟨_,rfl⟩;have k4:Keep w3 w4:=by rw[hw4];exact Keep.one _ _
 have B4:w4.heap[w3.heap.size]?=some (.cells #[.pointer (some ⟨qn,0,none⟩),.pointer (some ⟨qp,0,none⟩)] 92 (0,0)):=by rw[hw4];exact heap_alloc_new _ _
 have k24:=k3.out.trans k4;have hlt:=lt_of_block B4;have s3:=k3.out.size;have s2:=k2.out.size;refine⟨w3.heap.size,rfl,?_,k2.out.trans (by rw[← hw4];exact k24)⟩
 rw[← hw4];refine⟨qn,qp,[],fun i=>i<w0.heap.size∨zdd w2 w4 i,fun i=>i<w2.heap.size∨zdd w3 w4 i,B4,?_,o.out.grow (o.out.kp.trans k24) k24.size (fun i hi _=>Below.block k24 i hi) fun _ h=>h,zdz.more p.out k4 fun _ h=>h,Or.inr ⟨s3,hlt⟩,Or.inr ⟨Nat.le_refl _,hlt⟩,fun hq=>?_,fun i hi=>⟨Or.inl (hX.out i hi),Or.inl (Nat.lt_of_lt_of_le (hX.out i hi) s2)⟩,fun i hi=>?_,rfl,fun _ h=>(by cases h),Ok.nil d⟩
 ·have:=k'.out.size
  omega
 ·have:=hX.out _ hq
  omega
 ·by_cases h1:i<w2.heap.size
  ·exact Or.inr (Or.inl h1)
  ·exact Or.inl (Or.inr ⟨by omega,hi⟩)
end Go.Proofs.YtihjgcibpfajkaaGreatDoor.T15
namespace Go.Proofs.YtihjgcibpfajkaaGreatDoor.T13
open Go.RowKit Go.Sort Go.Lib V12
def zfi(w:World)(g o:Nat)(x:zaa):World:=((((((((w.setCell ⟨g,o,none⟩ (.int .i64 x.k)).setCell ⟨g,o+1,none⟩ (.int .i64 x.p)).setCell ⟨g,o+2,none⟩ (.bool x.f)).setCell ⟨g,o+3,none⟩ (.int .i64 x.g)).setCell ⟨g,o+4,none⟩ (.slice x.A x.m x.c)).setCell ⟨g,o+5,none⟩ (.int .i64 x.a)).setCell ⟨g,o+6,none⟩ (.int .i64 x.h)).setCell ⟨g,o+7,none⟩ (.int .i64 x.d)).setCell ⟨g,o+8,none⟩ (.int .i64 x.t)
theorem zif{w:World}{g o k:Nat}(x:zaa)(h:k≠g):(zfi w g o x).heap[k]?=w.heap[k]?:=by
 unfold zfi
 iterate 9 rw[Below.heap_setCell _ _ _ _ (show k≠_ from h)]
theorem row_step{w:World}{b0 g c n j i:Nat}{P:Nat→zaa}{x y:zaa}{u:Value}(h:w.ownsRow b0 26 9 (.slice (some ⟨g,0,none⟩) n c) n (zaq (put P j y) n))(hj:j<n)(hi:i<9)(hx:x.cells=y.cells.set i u):(w.setCell ⟨g,j * 9+i,none⟩ u).ownsRow b0 26 9 (.slice (some ⟨g,0,none⟩) n c) n (zaq (put P j x) n):=by
 have e:=zkp (P:=put P j y) hj hi (x:=x) (u:=u) (by rw[put_at];exact hx)
 rw[zhr] at e;rw[e];exact(h.stored (j * 9+i) u).1
theorem zvp(P:Nat→zaa)(j:Nat):put P j (P j)=P:=by
 funext t
 by_cases e:t=j
 ·rw[e,put_at]
 ·rw[put_ne _ _ _ e]
theorem aak{w:World}{b0 g c n j:Nat}{P:Nat→zaa}(h:w.ownsRow b0 26 9 (.slice (some ⟨g,0,none⟩) n c) n (zaq P n))(hj:j<n)(x:zaa):(zfi w g (j * 9) x).ownsRow b0 26 9 (.slice (some ⟨g,0,none⟩) n c) n (zaq (put P j x) n):=by
 have h0:w.ownsRow b0 26 9 (.slice (some ⟨g,0,none⟩) n c) n (zaq (put P j (P j)) n):=by rw[zvp];exact h
 obtain⟨y,hy⟩:∃ y,y=P j:=⟨_,rfl⟩;rw[← hy] at h0;have a0:=row_step (x:={ y with k:=x.k }) (u:=.int .i64 x.k) (i:=0) h0 hj (by omega) rfl
 have a1:=row_step (x:={ y with k:=x.k,p:=x.p }) (u:=.int .i64 x.p) (i:=1) a0 hj (by omega) rfl
 have a2:=row_step (x:={ y with k:=x.k,p:=x.p,f:=x.f }) (u:=.bool x.f) (i:=2) a1 hj (by omega) rfl
 have a3:=row_step (x:={ y with k:=x.k,p:=x.p,f:=x.f,g:=x.g }) (u:=.int .i64 x.g) (i:=3) a2 hj (by omega) rfl
 have a4:=row_step (x:={ y with k:=x.k,p:=x.p,f:=x.f,g:=x.g,A:=x.A,m:=x.m,c:=x.c }) (u:=.slice x.A x.m x.c) (i:=4) a3 hj (by omega) rfl
 have a5:=row_step (x:={ y with k:=x.k,p:=x.p,f:=x.f,g:=x.g,A:=x.A,m:=x.m,c:=x.c,a:=x.a }) (u:=.int .i64 x.a) (i:=5) a4 hj (by omega) rfl
 have a6:=row_step (x:={ y with k:=x.k,p:=x.p,f:=x.f,g:=x.g,A:=x.A,m:=x.m,c:=x.c,a:=x.a,h:=x.h }) (u:=.int .i64 x.h) (i:=6) a5 hj (by omega) rfl
 have a7:=row_step (x:={ y with k:=x.k,p:=x.p,f:=x.f,g:=x.g,A:=x.A,m:=x.m,c:=x.c,a:=x.a,h:=x.h,d:=x.d }) (u:=.int .i64 x.d) (i:=7) a6 hj (by omega) rfl
 exact row_step (x:=x) (u:=.int .i64 x.t) (i:=8) a7 hj (by omega) rfl
theorem zwd{w:World}{b0 g c n:Nat}{xs:List Value}(h:w.ownsRow b0 26 9 (.slice (some ⟨g,0,none⟩) n c) n xs):∀ i,w.frozen? ⟨g,i,none⟩=false:=by
 obtain⟨cur,hc⟩:=zdp h rfl;intro i;exact frozen_of_row w g i _ _ hc
theorem znu{w:World}{base b2 g o n c:Nat}{x y:zaa}{xs:List Value}(h:Req w base y)(hr:w.ownsRow b2 26 9 (.slice (some ⟨g,0,none⟩) n c) n xs):Req (zfi w g o x) base y :=
 zal h fun k hk=>zif x fun e=>by
  subst e;rcases zef h hr (by decide) with h1 | h1
  ·rw[h1] at hk;cases hk
  ·exact h1 (hk.trans rfl)
theorem zam.put9{w:World}{base g c n:Nat}{P:Nat→zaa}(h:zam w base (.slice (some ⟨g,0,none⟩) n c) n P){j:Nat}(hj:j<n){x:zaa}(hx:Req w base x)(ho:zcx x):zam (zfi w g (j * 9) x) base (.slice (some ⟨g,0,none⟩) n c) n (put P j x) where
 row:=aak h.row hj x
 own:=fun t ht=>by
  by_cases e:t=j
  ·rw[e,put_at];exact znu hx h.row
  ·rw[put_ne _ _ _ e];exact znu (h.own t ht) h.row
 ok:=fun t ht=>by
  by_cases e:t=j
  ·rw[e,put_at];exact ho
  ·rw[put_ne _ _ _ e];exact h.ok t ht
theorem zjv(Q:Nat→zaa)(i:Nat):∀ n,i≤n→(zaq Q n).take (i * 9)=zaq Q i
 | 0,h=>by
   obtain rfl:i=0:=by omega
   rfl
 | n+1,h=>by
   by_cases e:i=n+1
   ·rw[e,List.take_of_length_le (by rw[zbr];omega)]
   ·rw[zaq,List.take_append_of_le_length (by rw[zbr];omega)]
    exact zjv Q i n (by omega)
theorem zam.short{w:World}{base g c n i:Nat}{Q:Nat→zaa}(h:zam w base (.slice (some ⟨g,0,none⟩) n c) n Q)(hi:i≤n):zam w base (.slice (some ⟨g,0,none⟩) i c) i Q:=by
 refine⟨?_,fun j hj=>h.own j (by omega),fun j hj=>h.ok j (by omega)⟩
 rcases h.row.2 with ⟨e,_⟩ | ⟨g',cap,cur,e,h1,h2,h3,h4,h5,h6⟩
 ·cases e
 ·cases e
  refine⟨zbr _ _,.inr ⟨_,_,cur,rfl,h1,h2,by omega,h4,h5,?_⟩⟩
  rw[← zjv Q i n hi,← h6,List.take_take,Nat.min_eq_left (by omega)]
theorem zam.congr{w:World}{base n:Nat}{v:Value}{P Q:Nat→zaa}(h:zam w base v n P)(e:∀ j,j<n→P j=Q j):zam w base v n Q :=
 ⟨by rw[← zfn n e];exact h.row,fun j hj=>by rw[← e j hj];exact h.own j hj,fun j hj=>by rw[← e j hj];exact h.ok j hj⟩
def rep:Nat→List Value
 | 0=>[]
 | m+1=>zad.cells++rep m
theorem zjy:∀ n,(Builtin.zeroCells zad.val.cells n).toList=rep n
 | 0=>by simp[Builtin.zeroCells,rep]
 | n+1=>by
   have e:=zjy n;unfold Builtin.zeroCells at e ⊢;have hz:zad.val.cells.size=9:=rfl;rw[hz] at e ⊢;rw[Array.toList_map,Array.toList_range] at e ⊢;rw[show(n+1) * 9=9+n * 9 by omega,List.range_add,List.map_append,rep]
   congr 1
   rw[← e,List.map_map];refine List.map_congr_left fun i _=>?_
   show zad.val.cells[(9+i) % 9]! = _
   rw[show(9+i) % 9=i % 9 by omega]
theorem zns{w:World}{g o:Nat}(x:zaa):Fr (fun k=>k=g) w (zfi w g o x):=by
 unfold zfi;exact((((((((((Fr.refl (fun k=>k=g) w).set (Or.inl rfl) _).set (Or.inl rfl) _).set (Or.inl rfl) _).set (Or.inl rfl) _).set (Or.inl rfl) _).set (Or.inl rfl) _).set (Or.inl rfl) _).set (Or.inl rfl) _).set (Or.inl rfl) _)
theorem zpo(w:World)(g o:Nat)(x:zaa)(r:List Value):w.setCells g o (x.cells++r)=(zfi w g o x).setCells g (o+9) r:=by
 simp only[zaa.cells,List.cons_append,List.nil_append,World.setCells,zfi,Nat.add_assoc,Nat.reduceAdd]
theorem zhx{base g c n:Nat}:∀ (m i:Nat) {w:World} {P:Nat→zaa},zam w base (.slice (some ⟨g,0,none⟩) n c) n P→i+m≤n →
  zam (w.setCells g (i * 9) (rep m)) base (.slice (some ⟨g,0,none⟩) n c) n (fun t=>if i≤t∧t<i+m then zad else P t)∧(∀ k,k≠g→(w.setCells g (i * 9) (rep m)).heap[k]?=w.heap[k]?)∧Fr (fun k=>k=g) w (w.setCells g (i * 9) (rep m))
 | 0,i,w,P,h,_=>by
   have e:w.setCells g (i * 9) (rep 0)=w:=rfl;rw[e];exact⟨h.congr fun j _=>by rw[if_neg (by omega)],fun _ _=>rfl,Fr.refl _ _⟩
 | m+1,i,w,P,h,hm=>by
   have e:w.setCells g (i * 9) (rep (m+1))=(zfi w g (i * 9) zad).setCells g ((i+1) * 9) (rep m):=by
    rw[show(i+1) * 9=i * 9+9 by omega,rep,zpo]
   obtain⟨h1,h2,h3⟩:=zhx m (i+1) (h.put9 (j:=i) (by omega) (zbg w base) zri) (by omega)
   rw[e];refine⟨h1.congr fun j _=>?_,fun k hk=>(h2 k hk).trans (zif _ hk),(zns zad).same h3⟩
   by_cases e1:j=i
   ·rw[e1,put_at,if_neg (by omega),if_pos (by omega)]
   ·rw[put_ne _ _ _ e1]
    by_cases e2:i+1≤j∧j<i+1+m
    ·rw[if_pos e2,if_pos (by omega)]
    ·rw[if_neg e2,if_neg (by omega)]
theorem zkc{w:World}{base g c n i:Nat}{P:Nat→zaa}(h:zam w base (.slice (some ⟨g,0,none⟩) n c) n P)(hi:i<n)(d:Nat)(ty:TypeId):
  (Builtin.clear_ #[28] ty #[.slice (some ⟨g,i * 9,none⟩) (n - i) d]).run Tryz.prog w=.ok (.tuple #[]) (w.setCells g (i * 9) (rep (n - i))):=by
 have hl:(rep (n - i)).length=(n - i) * 9:=by
  rw[← zjy];simp[Builtin.zeroCells,show zad.val.cells.size=9 from rfl]
 have hst:=run_storeCells_cells (P:=Tryz.prog) g (i * 9) (rep (n - i)) 0 w (fun j hj=>by
   rw[Nat.add_zero,h.row.cellAt _ (by rw[hl] at hj;omega),List.getElem?_eq_getElem (by rw[zbr];rw[hl] at hj;omega)]
   rfl) (fun j _=>h.row.frozenAt _) (fun v hv=>by
   have:∀ m,∀ v∈rep m,v.oneCell'=true:=fun m=>by
    induction m with
    | zero=>intro v hv;cases hv
    | succ m ih =>
      intro v hv;rcases List.mem_append.1 hv with hv | hv
      ·exact List.all_eq_true.1 (show(zad.cells.all fun u=>u.oneCell')=true from rfl) v hv
      ·exact ih v hv
   exact this _ v hv)
 rw[Nat.add_zero] at hst;have hz:=zjy (n - i);obtain⟨m,hm⟩:∃ m,n - i=m+1:=⟨n - i - 1,by omega⟩
 rw[hm] at hst hz ⊢;have hz2:(Builtin.zeroCells (Value.agg #[.int .i64 0,.int .i64 0,.bool false,.int .i64 0,.slice none 0 0,.int .i64 0,.int .i64 0,.int .i64 0,.int .i64 0]).cells (m+1)).toList=rep (m+1):=hz;simp[Builtin.clear_,run_underlying Tryz.underlying28,hz2,hst]
end Go.Proofs.YtihjgcibpfajkaaGreatDoor.T13
