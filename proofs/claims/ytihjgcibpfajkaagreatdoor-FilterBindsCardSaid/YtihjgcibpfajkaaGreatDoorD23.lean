/-
  The ids of a table, in ascending order. No condition.
  The store: New, Dims, IDs, find, located. Condition for the last: errors.errorType holds its own.
-/
import Derived.Test.YtihjgcibpfajkaaGreatDoorD21
import Derived.Test.YtihjgcibpfajkaaGreatDoorD22
import Derived.Lib.SlKeysI
import Derived.Maps.AppendAt
import Derived.RangeFuncBox
namespace Go.Proofs.YtihjgcibpfajkaaGreatDoor.T12
open Go.RowKit Go.Maps Go.Sort Go.Shelf
theorem Tryz.infoI12:(Tryz.prog.info? 3).map (fun i=>(i.zero,i.size,i.bytes))=some (some (.int .i64 0),1,8):=by kernel_rfl
attribute [local go_sem] Oper.semAt_some
set_option maxRecDepth 100000 in
set_option maxHeartbeats 4000000 in
theorem zxh{w:World}{s:Int}{p m:Nat}{l:List (Int × Value)}(h:TMN w s p m l)(hl:l.length≤1000):
  Calls Tryz.prog 59 #[.pointer (some ⟨p,0,none⟩)] w fun e w'=>∃ v,e=.returned v∧w'.ownsRow w.heap.size 3 1 v l.length (((l.map (·.1)).mergeSort fun x y=>decide (x≤y)).map encZ)∧Below w.heap.size w w':=by
 refine(callsIn_wide (n:=6)).1 ?_;have h1:1≤6:=by omega
 obtain⟨i0,hi0,hz0,hz1,hz2⟩:=info_parts Tryz.infoI12;obtain⟨wm,hmk,hown,hgm⟩:=Go.run_makeSlice_owned (P:=Tryz.prog) (w:=w) w.heap.size 36 3 i0 _ 1 Tryz.underlying36 hi0 hz0 hz1 .i64 .i64 l.length (by omega) (by rw[hz2];omega) (by unfold maxLen;omega) (Nat.le_refl _)
 have km:Keep w wm:=keep_grown (Keep.refl w) hgm (fun g h=>by cases h)
 obtain⟨g,hg⟩:∃ g,g=w.heap.size:=⟨_,rfl⟩;rw[← hg] at hmk hown;have c1:=h.e1;have c1m:(wm.alloc (.cells #[.slice (some ⟨g,0,none⟩) 0 l.length] 36)).cell? ⟨p,1,none⟩=some (.map (some m)):=(Keep.one _ _).cell (km.cell c1);have h2:=h.keep km;replace hg:=Lib.hid hg;have hF:Fence.wide.fn 113:=trivial;have hF1:Fence.wide.fn 89:=trivial;have hF2:Fence.wide.fn 90:=trivial;have hF3:Fence.wide.fn 91:=trivial;refine callsIn_of_wp_marks Tryz.func59 rfl trivial ?_ rfl;simp only[Tryz.ntmps59,List.size_toArray,List.length_cons,List.length_nil,Nat.reduceAdd,Nat.reduceSub,Array.replicate_succ,Array.replicate_zero,List.push_toArray,List.append_toArray,List.nil_append,List.cons_append]
 gi_wp2_with (first
  | (gi_at_call 89;refine(callsIn_wide.2 (zxi h)).mono ?_;rintro e w' ⟨rfl,rfl⟩)
  | (gi_at_call 90;refine(keys_in Fence.wide _ trivial rfl _ _).mono ?_;rintro e w' ⟨rfl,rfl⟩))
 have bO:=Boxed.new wm 36 (.slice (some ⟨g,0,none⟩) 0 l.length);have hsm:=km.size;have cM:=(Boxed.new (wm.alloc (.cells #[.slice (some ⟨g,0,none⟩) 0 l.length] 36)) 150 (.map (some m))).cell;rw[World.size_alloc] at cM;have hB0:Below w.heap.size w ((wm.alloc (.cells #[.slice (some ⟨g,0,none⟩) 0 l.length] 36)).alloc (.cells #[.map (some m)] 150)):=(km.alloc _).alloc _;have hm0:MV.Is ((wm.alloc (.cells #[.slice (some ⟨g,0,none⟩) 0 l.length] 36)).alloc (.cells #[.map (some m)] 150)) m l:=(h.keep ((km.alloc _).alloc _)).mp;have hown2:=hown;rw[hg.out] at hown2;refine wpIn_rangeFunc_ownF (α:=Int) rfl h1 (gf:=113) (lb:=#[.pointer (some ⟨wm.heap.size+1,0,none⟩)]) rfl hF (enters_of Tryz.func113 (by kernel_rfl) rfl)
  (keys_stops Fence.wide 5 hF rfl (by omega) (wm.heap.size+1) m l _ (by simp) cM hm0) walksK_t walksK_b (Below.refl _ _) (fun _=>rfl)
  (fun pre W=>(∃ v,Boxed W wm.heap.size 36 v∧W.ownsRow w.heap.size 3 1 v pre.length (pre.map encZ)∧True)∧Below w.heap.size w W)
  (fun _ _ _=>False)
  (OwnFrom.and (Own.from (holdsRow_own w.heap.size wm.heap.size 36 3 1 (fun pre:List Int=>pre.length) (fun pre=>pre.map encZ) (fun _ _=>True)) _) (ownFrom_below (Nat.le_refl _) (by simp;omega)))
  (fun _ _ _ _ _ hs _ _=>hs)
  ⟨⟨_,bO.alloc _,by rw[← hg.out];exact(hown.alloc _).alloc _,trivial⟩,hB0⟩
  (fun x=>{ tmps:=#[.pointer (some ⟨p,0,none⟩),undef,.slice none 0 0,.pointer (some ⟨wm.heap.size,0,none⟩),.int .i64 x,.pointer (some ⟨p,0,none⟩),.bool false,.pointer (some ⟨p,0,none⟩),.int .i64 l.length,
   .slice (some ⟨g,0,none⟩) 0 l.length,.pointer (some ⟨p,0,none⟩),.pointer (some ⟨p,0,none⟩),.pointer (some ⟨p,1,none⟩),.map (some m),.func (.func 113) #[] #[.pointer (some ⟨wm.heap.size+1,0,none⟩)],.int .i64 x,undef,undef,undef,undef,undef,undef,undef],defers:=[] }) ?assign ?body ?done ?stop
 case assign =>
  intro l x W K hK
  gi_wp2
  exact hK
 case body =>
  rintro l2 pre x W ⟨⟨v,hv,hrow,_⟩,hB⟩ hlt;have hc:=hv.cell
  gi_wp2_with (gi_at_builtin;refine wpListIn_append_own _ rfl _ _ 36 rfl w.heap.size 3 i0 (.int .i64 0) 1 8 Tryz.underlying36 hi0 hz0 hz1 hz2 rfl (by decide) _ _ _ rfl (hrow.alloc _) ⟨W.heap.size,0,none⟩ 1 1 [.int .i64 x] rfl rfl (cell_one_new _ _ _) (by simp[Value.oneCell']) (by unfold maxLen;omega) (by omega) (by have:=hB.size;simp;omega) ?_;intro v' w1 hown' hgrow _;obtain⟨g',cap',rfl⟩:=ownsRow_succ hown';obtain⟨hv1,hv2,hr2,hk2,hb2⟩:=hv.appended (by decide) hrow hB.size hsm hown' hgrow;have hc1:=hv1.cell;have hf1:=hv1.frozen)
  exact⟨hk2,hk2.walks,⟨_,hv2,by simpa using hr2,trivial⟩,hB.trans hb2⟩
 case done =>
  rintro D ys W hD hS ⟨⟨v,hv,hrow,_⟩,hB⟩ hK;have hc:=hv.cell;have hDl:w.heap.size≤D:=by simp at hD;omega
  have hpl:=hS.length_eq;rw[List.length_map] at hpl;have hms:ys.mergeSort (fun x y=>decide (x≤y))=(l.map (·.1)).mergeSort (fun x y=>decide (x≤y)):=mergeSort_of_perm_i hS
  replace hpl:=Lib.hid hpl;replace hms:=Lib.hid hms;rcases hrow.2 with ⟨rfl,hz⟩ | ⟨gb,cap,cur,rfl,hbase,hgb,r1,r2,r3,r4⟩
  ·have hss:ys=[]:=List.eq_nil_of_length_eq_zero hz
   subst hss;have cS:=callsIn_wide (n:=5) |>.2 (Tryz.slices_Sort_int_none none 0 W)
   gi_wp2_with (gi_at_call 91;refine cS.mono ?_;rintro e w' ⟨rfl,rfl⟩)
   refine⟨by simp,.inl ⟨_,_,rfl,run_takeDeferred hK,?_⟩⟩
   exact⟨_,results_tmp rfl _ _ _,_,rfl,by rw[← hpl.out,← hms.out];exact ownsRow_putObj (by simpa using hrow) _ hK rfl,hB.trans (belowK_b (w:=w) (Nat.le_refl _) _ D _ _ hDl hK rfl rfl)⟩
  ·have hH:Holds (Value.int .i64) W gb 0 ys.toArray:=holds_of_block_i hgb (by simpa using r4)
   have hgl:gb<W.heap.size:=(Array.getElem?_eq_some_iff.1 hgb).1;have cS:=callsIn_wide (n:=5) |>.2 (Tryz.slices_Sort_int gb 0 cap ys W hH hgl (by have:=hpl.out;omega))
   have hor:=fun nn os=>ownsRow_sorted_i (n:=nn) (os:=os) (ts:=ys.mergeSort fun x y=>decide (x≤y)) (by simp) hbase hgb r1 r2 r3
   have hgr:=fun nn os=>grownBy_sorted_i (w:=W) (g:=gb) (n:=nn) (os:=os) (ys.mergeSort fun x y=>decide (x≤y)).toArray
   have hne:=hv.not_row (by decide) hrow
   have cS2:CallsIn Fence.wide 5 Tryz.prog 91 #[.slice (some ⟨gb,0,none⟩) ys.length cap] W fun e w'=>e=.returned (.tuple #[])∧w'.ownsRow w.heap.size 3 1 (.slice (some ⟨gb,0,none⟩) ys.length cap) ys.length ((ys.mergeSort fun x y=>decide (x≤y)).map encZ) ∧
     Boxed w' wm.heap.size 36 (.slice (some ⟨gb,0,none⟩) ys.length cap)∧w'.heap[D]?=some (.deferred (some []))∧Below w.heap.size w w':=cS.mono (by
    rintro e w' ⟨rfl,nn,os,rfl⟩
    exact⟨rfl,hor nn os,hv.kept (hgr nn os) hne,((hgr nn os).block D (Array.getElem?_eq_some_iff.1 hK).1 (by intro e;cases e;rw[hK] at hgb;cases hgb)).trans hK,hB.grown (hgr nn os) hB.size (fun j hj=>by cases hj;exact hbase)⟩)
   replace cS2:=Lib.hid cS2;clear hor hgr cS hH hv hrow hgb r1 r2 r3 r4 hK hB hne
   gi_wp2_with (gi_at_call 91;refine cS2.out.mono ?_;rintro e w' ⟨rfl,hor,hbx,hKs,hBs⟩;have hcs2:=hbx.cell)
   refine⟨by simp,.inl ⟨_,_,rfl,run_takeDeferred hKs,?_⟩⟩
   exact⟨_,results_tmp rfl _ _ _,_,rfl,by rw[← hpl.out,← hms.out];exact ownsRow_putObj hor _ hKs rfl,hBs.trans (belowK_b (w:=w) (Nat.le_refl _) _ D _ _ hDl hKs rfl rfl)⟩
 case stop =>
  rintro D c pre W _ _ h _;exact h.elim
end Go.Proofs.YtihjgcibpfajkaaGreatDoor.T12
namespace Go.Proofs.YtihjgcibpfajkaaGreatDoor.T12
open Go.RowKit Go.Sort Go.Lib V12 Go.Maps Go.Shelf
theorem znj(w:World):Calls Tryz.prog 73 #[.nilIface] w fun e w'=>e=.returned .nilIface∧Keep w w':=by
 have hA:=Lib.hid (fun W=>zmv W)
 go_enter Tryz.func73,Tryz.ntmps73
 go_wp2_with fail;refine(hA.out _).mono ?_;rintro e w1 ⟨rfl,k⟩;have k:=Lib.hid k;go_wp2;go_ret
 exact⟨rfl,k.out⟩
theorem zlt(c:Int)(w:World)(hg:zaw w):Calls Tryz.prog 73 #[err c] w fun e w'=>e=.returned (flt c 0)∧Keep w w':=by
 have hA:=Lib.hid (zmw c [] (.code c) _ w (.base _) (Or.inl rfl) hg);have hn:=Lib.hid (fun W=>zep c 0 W)
 clear hg;unfold err;unfold flt
 go_enter Tryz.func73,Tryz.ntmps73
 go_wp2_with fail;refine hA.out.mono ?_;rintro e w1 ⟨rfl,k⟩;have k:=Lib.hid k;go_wp2_with fail;refine(hn.out _).mono ?_;rintro e w2 ⟨rfl,rfl⟩;go_wp2;go_ret
 exact⟨rfl,k.out⟩
def zor(c:Int):Value:=if c=0 then .nilIface else err c
theorem zpb(c:Int)(w:World)(hg:zaw w):Calls Tryz.prog 73 #[zor c] w fun e w'=>e=.returned (fltC c 0)∧Keep w w':=by
 unfold zor fltC
 by_cases h:c=0
 ·rw[if_pos h,if_pos h];exact znj w
 ·rw[if_neg h,if_neg h];exact zlt c w hg
section
variable{w w':World}{d:Nat}{s:Int}{q t m:Nat}{E:List EnV}
theorem zll(h:SC w d s q t m E){id:Int}(hk:id∈zbt E):Calls Tryz.prog 60 #[.pointer (some ⟨q,0,none⟩),.int .i64 id] w fun e w'=>e=.returned (.tuple #[.pointer (some ⟨(eget E id).p,0,none⟩),.bool true])∧w=w':=by
 have c1:=h.c1;have hG:=Lib.hid (abf h hk);obtain⟨p,hp⟩:∃ p,p=(eget E id).p:=⟨_,rfl⟩;rw[← hp] at hG ⊢;replace hp:=Lib.hid hp;clear h hk
 go_enter Tryz.func60,Tryz.ntmps60
 go_wp2_with fail;refine hG.out.mono ?_;rintro e w1 ⟨rfl,rfl⟩;go_wp2;go_ret2
 exact⟨rfl,rfl⟩
theorem zjh(h:SC w d s q t m E){id:Int}(hk:id∉zbt E):Calls Tryz.prog 60 #[.pointer (some ⟨q,0,none⟩),.int .i64 id] w fun e w'=>e=.returned (.tuple #[.pointer none,.bool false])∧w=w':=by
 have c1:=h.c1;have hG:=Lib.hid (zxg h hk);clear h hk
 go_enter Tryz.func60,Tryz.ntmps60
 go_wp2_with fail;refine hG.out.mono ?_;rintro e w1 ⟨rfl,rfl⟩;go_wp2;go_ret2
 exact⟨rfl,rfl⟩
theorem find_nil(w:World)(id:Int):Calls Tryz.prog 60 #[.pointer none,.int .i64 id] w fun e w'=>e=.returned (.tuple #[.pointer none,.bool false])∧w=w':=by
 go_enter Tryz.func60,Tryz.ntmps60
 go_wp2;go_ret2
 exact⟨rfl,rfl⟩
theorem ndims_fn(h:SC w d s q t m E):Calls Tryz.prog 66 #[.pointer (some ⟨q,0,none⟩)] w fun e w'=>e=.returned (.int .i64 d)∧Keep w w':=by
 have c0:=h.c0;clear h
 go_enter Tryz.func66,Tryz.ntmps66
 go_wp2;go_ret
 exact⟨rfl,Keep.refl _⟩
theorem nnew_fn(d:Nat)(s:Int)(w:World)(hd:d≤64)(h0:0≤s)(hs:I64 s):Calls Tryz.prog 45 #[.int .i64 d,.int .i64 s] w fun e w'=>∃ q,e=.returned (.pointer (some ⟨q,0,none⟩))∧∃ t m,SC w' d s q t m []∧Keep w w'∧w.heap.size≤q∧w.heap.size≤t∧w.heap.size≤m:=by
 have h:=zxj s hs w;rw[if_pos h0] at h;have hm:max (d:Int) 0=(d:Int):=by omega
 have hb1:decide ((0:Int)≤(d:Int))=true:=decide_eq_true (by omega)
 have hb2:decide ((d:Int)<0)=false:=decide_eq_false (by omega)
 replace h:=Lib.hid h;clear hs
 go_enter Tryz.func45,Tryz.ntmps45
 go_wp2_with fail;refine h.out.mono ?_;rintro e w1 ⟨t,rfl,m,T,k,h1,h2⟩;have hn:=heap_alloc_new w1 (.cells #[.int .i64 d,.pointer (some ⟨t,0,none⟩)] 110);have K:=k.alloc (.cells #[.int .i64 d,.pointer (some ⟨t,0,none⟩)] 110);have T2:=T.keep (Keep.one w1 (.cells #[.int .i64 d,.pointer (some ⟨t,0,none⟩)] 110));have hsz:=k.size;replace hn:=Lib.hid hn;replace K:=Lib.hid K;replace T2:=Lib.hid T2;replace T:=Lib.hid T;replace k:=Lib.hid k;go_wp2;try simp only[hm]
 go_ret
 exact⟨_,rfl,t,m,⟨hn.out,⟨[],T2.out,List.Perm.nil⟩,List.Pairwise.nil,fun x h=>by cases h⟩,K.out,hsz,h1,h2⟩
theorem zqs{L:List NodeV}{j:Nat}{y:NodeV}(h:L[j]?=some y):nrow L j=y:=by
 unfold nrow;rw[List.getD_eq_getElem?_getD,h];rfl
theorem zpa{l:List (Int × Value)}(hp:l.Perm (E.map EnV.kv))(hs:G.Srt EnV.k E):((l.map (·.1)).mergeSort fun x y=>decide (x≤y))=zbt E:=by
 have e:((l.map (·.1)).mergeSort fun x y=>decide (x≤y))=(zbt E).mergeSort fun x y=>decide (x≤y):=mergeSort_of_perm_i (by rw[← zlr];exact hp.map _)
 rw[e];refine List.mergeSort_of_pairwise ?_;refine(G.srt_keys.1 hs).imp fun h=>?_
 simpa using Int.le_of_lt h
theorem nids_fn(h:SC w d s q t m E)(hl:E.length≤1000):Calls Tryz.prog 31 #[.pointer (some ⟨q,0,none⟩)] w fun e w'=>∃ A c,e=.returned (.slice A E.length c)∧Rd w' A E.length (fun j=>(nrow (E.map EnV.nv) j).k)∧Keep w w':=by
 obtain⟨l,a,b⟩:=h.ex;have el:l.length=E.length:=by rw[b.length_eq,List.length_map]
 have hI:=zxh a (by omega)
 have hm:=zpa b h.srt;rw[hm,el] at hI;have fin:Hid (∀ w' v,w'.ownsRow w.heap.size 3 1 v E.length ((zbt E).map encZ)→∃ A c,v=.slice A E.length c∧Rd w' A E.length (fun j=>(nrow (E.map EnV.nv) j).k)):=fun w' v ho=>by
  obtain⟨A,c,rfl,_⟩:=own_form ho;refine⟨A,c,rfl,⟨by omega,fun j hj=>?_,fun hp=>?_⟩⟩
  ·have e1:(E.map EnV.nv)[j]?=some (E[j]).nv:=by rw[List.getElem?_map,List.getElem?_eq_getElem hj];rfl
   rw[zqs e1];exact(h.is _ (List.getElem_mem hj)).ok.k
  ·obtain⟨g,cap,e,_,_⟩:=ho.form hp
   have e':=e;simp only[Value.slice.injEq] at e';obtain⟨rfl,_,rfl⟩:=e';refine⟨g,0,rfl,fun j hj=>?_⟩
   have e1:(E.map EnV.nv)[j]?=some (E[j]).nv:=by rw[List.getElem?_map,List.getElem?_eq_getElem hj];rfl
   rw[Nat.zero_add,ho.cellAt j (by omega),zqs e1]
   unfold zbt G.keys;rw[List.getElem?_map,List.getElem?_map,List.getElem?_eq_getElem hj];rfl
 have c1:=h.c1;obtain⟨n,hn⟩:∃ n,n=E.length:=⟨_,rfl⟩;rw[← hn] at hI fin ⊢;replace hn:=Lib.hid hn;replace hI:=Lib.hid hI;replace hm:=Lib.hid hm;clear h a b el hl
 go_enter Tryz.func31,Tryz.ntmps31
 go_wp2_with fail;refine hI.out.mono ?_;rintro e w1 ⟨v,rfl,ho,k⟩;obtain⟨A,c,rfl,hr⟩:=fin.out w1 v ho;replace hr:=Lib.hid hr;have k:Hid (Keep w w1):=k;clear ho fin;go_wp2;go_ret
 exact⟨A,c,rfl,hr.out,k.out⟩
end
end Go.Proofs.YtihjgcibpfajkaaGreatDoor.T12
