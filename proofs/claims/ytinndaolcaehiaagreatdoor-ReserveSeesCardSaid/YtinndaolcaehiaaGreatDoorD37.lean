/-
  reserve.Sum; On and reserve.Pods of no cluster. Conditions: at most 100 pods, the dimension is at most 64.
  What the law's fixed example comes to. No condition, no walk.
-/
import Derived.Test.YtinndaolcaehiaaGreatDoorD36
import Derived.Test.YtinndaolcaehiaaGreatDoorD27
import Derived.Test.YtinndaolcaehiaaGreatDoorD26
import Derived.Test.YtinndaolcaehiaaGreatDoorD15
namespace Go.Proofs.YtinndaolcaehiaaGreatDoor.T15
open Go.RowKit Go.Sort Go.Lib V12 T13 T14
def sumL:List PodV→Nat→Int
  | [],_=>0
  | y :: L,j=>y.Z j + sumL L j
theorem sumL_append (L K:List PodV) (j:Nat):sumL (L ++ K) j = sumL L j + sumL K j:=by
  induction L with
  | nil=>show sumL K j = 0 + sumL K j;omega
  | cons y L ih=>show y.Z j + sumL (L ++ K) j = y.Z j + sumL L j + _;rw [ih];omega
theorem sumL_lo {L:List PodV} {j:Nat} (h:∀ y ∈ L,Amt (y.Z j)):0≤sumL L j∧sumL L j≤L.length * 1099511627776:=by
  induction L with
  | nil=>exact ⟨Int.le_refl _,Int.le_refl _⟩
  | cons y L ih =>
    have h1:=h y (by simp)
    have h2:=ih fun z hz=>h z (by simp [hz])
    unfold Amt at h1
    show 0≤y.Z j + sumL L j∧y.Z j + sumL L j≤_
    rw [List.length_cons,Int.natCast_add]
    omega
theorem sumL_nm {L K:List PodV} (h:L.map nm = K) (j:Nat):sumL K j = sumL L j:=by
  subst h
  induction L with
  | nil=>rfl
  | cons y L ih=>show y.Z j + sumL (L.map nm) j = y.Z j + sumL L j;rw [ih]
theorem sumTo_lst (S:Nat→PodV) (j:Nat):∀ n,sumTo (n + 1) (fun r=>if r = 0 then 0 else (S (r - 1)).Z j) = sumL (T13.lst S n) j
  | 0=>rfl
  | n + 1=>by
    rw [lst_succ,sumL_append,← sumTo_lst S j n]
    show sumTo (n + 1) _ + (if n + 1 = 0 then 0 else (S (n + 1 - 1)).Z j) = _
    rw [if_neg (by omega),Nat.add_sub_cancel]
    show _ = _ + ((S n).Z j + 0)
    omega
def rqs (z:Value) (S:Nat→PodV) (n:Nat):List Value:=z :: (List.range n).map fun t=>.slice (S t).A (S t).m (S t).c
theorem rqs_succ (z:Value) (S:Nat→PodV) (n:Nat):rqs z S (n + 1) = rqs z S n ++ [.slice (S n).A (S n).m (S n).c]:=by
  unfold rqs
  rw [List.range_succ,List.map_append]
  rfl
theorem Tryz.infoS15:(Tryz.prog.info? 22).map (fun i=>(i.zero,i.size,i.bytes)) = some (some (.slice none 0 0),1,24):=by kernel_rfl
section
variable {ops:Array Oper} {rest:List Oper} {o:Oper} {a:Act} {w:World} {Q:Exit→Act→World→Prop}
theorem wpl_rq (hgd:o.guard = none) (s x:Operand) (ho:o.op = .call { callee:=.builtin .append,args:=#[s,x],argTypes:=#[87,87] })
    (base:Nat) (v:Value) (n:Nat) (xs:List Value) (hs:a.eval s = v) (hown:w.ownsRow base 22 1 v n xs) (b:Nat) (u:Value) (hx:a.eval x = .slice (some ⟨b,0,none⟩) 1 1) (hc:w.cell? ⟨b,0,none⟩ = some u) (h1:u.oneCell' = true)
    (hlim:n≤1000) (hbase:base≤w.heap.size)
    (h:∀ v' w',w'.ownsRow base 22 1 v' (n + 1) (xs ++ [u])→w.grownBy w' v.ownBlock→wpList Tryz.prog ops Q rest (a.put o.dst v') w'):wpList Tryz.prog ops Q (o :: rest) a w:=by
  obtain ⟨i0,hi0,hz0,hz1,hz2⟩:=info_parts Tryz.infoS15
  refine wpList_append_own (P:=Tryz.prog) w hgd s x 87 ho base 22 i0 _ 1 24 Tryz.underlying87 hi0 hz0 hz1 hz2 rfl (by decide) v n xs hs hown ⟨b,0,none⟩ 1 1 [u] hx rfl (fun j y hy=>?_) (fun y hy=>?_) (by unfold maxLen;omega) (by omega) hbase fun v' w' h2 h3 _=>h v' w' h2 h3
  · rcases j with _ | j
    · rw [WideShapes.add_plain]
      rw [← Option.some.inj hy]
      exact hc
    · cases hy
  · rw [List.mem_singleton.1 hy];exact h1
end
theorem rd_sameB {w w':World} {g o n:Nat} {Z:Nat→Int} (h:Rd w (some ⟨g,o,none⟩) n Z) (f:w'.heap[g]? = w.heap[g]?):Rd w' (some ⟨g,o,none⟩) n Z :=
  ⟨h.small,h.range,fun hn=>by
    obtain ⟨b,off,e,hc⟩:=h.adr hn
    have e2:=Option.some.inj e
    simp only [Addr.mk.injEq,and_true] at e2
    obtain ⟨rfl,rfl⟩:=e2
    exact ⟨g,o,rfl,fun j hj=>cell_same (hc j hj) f⟩⟩
theorem own_one {w:World} {base b:Nat} {u:Value} {e:TypeId} (hb:base≤b) (h:w.heap[b]? = some (.cells #[u] e (0,0))):w.ownsRow base e 1 (.slice (some ⟨b,0,none⟩) 1 1) 1 [u] :=
  ⟨rfl,.inr ⟨b,1,#[u],rfl,hb,h,Nat.le_refl _,by unfold maxLen;omega,rfl,rfl⟩⟩
theorem keep_own {w0 w1 w2:World} {base n z:Nat} {e:TypeId} {v:Value} {xs:List Value} (k:Keep w0 w1) (h:w1.ownsRow base e z v n xs) (hb:w0.heap.size≤base) (hg:w1.grownBy w2 v.ownBlock):Keep w0 w2 :=
  Fr.low k (Fr.grown (D:=fun i=>v.ownBlock = some i) hg fun _ e=>Or.inl e) fun i hi=>Nat.le_trans hb (h.lt i hi).1
theorem rds_rqs {w:World} {base b1 d n:Nat} {v pv:Value} {g:Nat} {S:Nat→PodV} (hR:RowP w b1 pv n S) (hO:w.ownsRow base 22 1 v (n + 1) (rqs (.slice (some ⟨g,0,none⟩) d d) S n)) (hz:Rd w (some ⟨g,0,none⟩) d fun _=>0) (hn:n≤100):∃ A c,v = .slice A (n + 1) c ∧
    Rds w A (n + 1) (fun r=>if r = 0 then some ⟨g,0,none⟩ else (S (r - 1)).A) (fun r=>if r = 0 then d else (S (r - 1)).m) (fun r=>if r = 0 then d else (S (r - 1)).c) (fun r=>if r = 0 then fun _=>0 else (S (r - 1)).Z):=by
  obtain ⟨g2,cap,rfl,_⟩:=hO.form (by omega)
  refine ⟨_,_,rfl,by omega,fun _=>⟨g2,0,rfl,fun r hr=>?_⟩,fun r hr=>?_⟩
  · rw [Nat.zero_add,hO.cellAt r (by omega)]
    unfold rqs
    rcases r with _ | r
    · rfl
    · rw [List.getElem?_cons_succ,List.getElem?_map,List.getElem?_range (by omega)]
      rfl
  · rcases r with _ | r
    · exact hz
    · exact ((hR.own r (by omega)).is (hR.ok r (by omega))).rd
section
variable {CS:PredC} {w w1:World} {d q:Nat} {M:List NV} {L:List PodV} {X:Nat→Prop}
set_option maxRecDepth 100000 in
set_option maxHeartbeats 8000000 in
theorem rsum_fn (C:Con CS) (h:CS w d q M L X w1) (p:PodV) (nd:Int) (hd:I64 nd) (hl:L.length≤100) (h64:d≤64) :
    Calls Tryz.prog 19 #[.pointer (some ⟨q,0,none⟩),p.val,.int .i64 nd] w1 fun e w'=>∃ g,e = .returned (.slice (some ⟨g,0,none⟩) d d)∧w1.heap.size≤g∧g < w'.heap.size∧Rd w' (some ⟨g,0,none⟩) d (sumL (seesL p nd L))∧Keep w1 w':=by
  have ok:=Lib.hid (C.ok h)
  obtain ⟨W,hW⟩:∃ W,W = w1.alloc (.cells (podB p) 24):=⟨_,rfl⟩
  have kW:Hid (Keep w1 W):=by rw [hW];exact Keep.one _ _
  have bP:Hid (W.heap[w1.heap.size]? = some (.cells (podB p) 24 (0,0))):=by rw [hW];exact heap_alloc_new _ _
  have cD:=Lib.hid (C.dims (C.keep h kW.out))
  have cPs:Hid (∀ W2,Keep w1 W2→Calls Tryz.prog 11 #[.pointer (some ⟨q,0,none⟩),p.val,.int .i64 nd] W2 fun e w'=>∃ v S,e = .returned v∧RowP w' W2.heap.size v (seesL p nd L).length S∧(T13.lst S (seesL p nd L).length).map nm = seesL p nd L∧Keep W2 w'):=fun W2 k=>rpods_fn C (C.keep h k) p nd hd hl
  clear h
  unfold PodV.val at cPs
  unfold podB at hW
  unfold PodV.val
  replace hd:=Lib.hid hd
  go_enter Tryz.func19,Tryz.ntmps19
  go_wp2_with fail
  rw [← hW]
  refine cD.out.mono ?_
  rintro e w2 ⟨rfl,k2⟩
  replace hW:=Lib.hid hW
  have cZ:=Lib.hid (zero_fn d w2 (by omega))
  have kz:Hid (Keep w1 w2):=kW.out.trans k2
  have b2:Hid (w2.heap[w1.heap.size]? = some (.cells (podB p) 24 (0,0))):=Keep.block k2 bP.out
  replace k2:=Lib.hid k2
  clear cD bP
  go_wp2_with fail
  refine cZ.out.mono ?_
  rintro e w3 ⟨rfl,hw3⟩
  obtain ⟨g,hg⟩:∃ g,g = w2.heap.size:=⟨_,rfl⟩
  have k3:Hid (Keep w2 w3):=by rw [hw3];exact Keep.one _ _
  have rz:Hid (Rd w3 (some ⟨g,0,none⟩) d fun _=>0):=by
    rw [hw3,hg]
    exact rd_ofRow (World.rowIs_made w2 _ _ 2) (by omega) (fun _ _=>by omega)
  have lg:Hid (g < w3.heap.size):=by rw [hw3,hg,World.size_alloc];exact Nat.lt_succ_self _
  rw [← hg]
  have kg:Hid (w1.heap.size≤g):=by rw [hg];exact kz.out.size
  replace hg:=Lib.hid hg
  replace hw3:=Lib.hid hw3
  clear cZ
  obtain ⟨W4,hW4⟩:∃ W4,W4 = w3.alloc (.cells #[.slice (some ⟨g,0,none⟩) d d] 22):=⟨_,rfl⟩
  obtain ⟨b,hb⟩:∃ b,b = w3.heap.size:=⟨_,rfl⟩
  have k4:Hid (Keep w3 W4):=by rw [hW4];exact Keep.one _ _
  have k14:Hid (Keep w1 W4):=kz.out.trans (k3.out.trans k4.out)
  have bR:Hid (W4.heap[b]? = some (.cells #[.slice (some ⟨g,0,none⟩) d d] 22 (0,0))):=by show _ = _;rw [hW4,hb];exact heap_alloc_new _ _
  have bs:Hid (w1.heap.size≤b∧b < W4.heap.size∧w1.heap.size≤g):=⟨by rw [hb];exact (kz.out.trans k3.out).size,lt_of_block bR.out,kg.out⟩
  have P4:=blk9 (Keep.block k4.out (Keep.block k3.out b2.out))
  have c0:=P4.e0;have c1:=P4.e1;have c2:=P4.e2;have c3:=P4.e3;have c4:=P4.e4;have c5:=P4.e5;have c6:=P4.e6;have c7:=P4.e7;have c8:=P4.e8
  clear P4
  rw [hW4] at c0 c1 c2 c3 c4 c5 c6 c7 c8
  have cP:=Lib.hid (cPs.out W4 k14.out)
  go_wp2_with fail
  rw [← hW4,← hb]
  replace hW4:=Lib.hid hW4
  replace hb:=Lib.hid hb
  clear c0 c1 c2 c3 c4 c5 c6 c7 c8
  refine cP.out.mono ?_
  rintro e w5 ⟨v,S,rfl,hR,hS,k5⟩
  obtain ⟨n,hn⟩:∃ n,n = (seesL p nd L).length:=⟨_,rfl⟩
  rw [← hn] at hR hS
  have n100:n≤100:=by rw [hn];exact Nat.le_trans (List.length_filter_le _ _) hl
  obtain ⟨A,c,hv,_⟩:=own_form hR.row
  subst hv
  have O5:Hid (w5.ownsRow b 22 1 (.slice (some ⟨b,0,none⟩) 1 1) 1 (rqs (.slice (some ⟨g,0,none⟩) d d) S 0)):=own_one (Nat.le_refl _) (Keep.block k5 bR.out)
  have K5:Hid (Keep w1 w5):=k14.out.trans k5
  have Z5:Hid (Rd w5 (some ⟨g,0,none⟩) d fun _=>0):=(rz.out.keep k4.out).keep k5
  have sz5:Hid (W4.heap.size≤w5.heap.size):=k5.size
  replace hR:=Lib.hid hR
  replace hS:=Lib.hid hS
  replace hn:=Lib.hid hn
  replace k5:=Lib.hid k5
  clear cP cPs
  generalize hwo:w5 = wo at *
  clear hwo
  go_wp2
  go_loopg [7,9,21] n (fun gx s7 _ s21 wr=>∃ (j:Nat) (B:Option Addr) (cc:Nat),j≤n∧gx = n - j∧s7 = .slice B (j + 1) cc∧s21 = .int .i64 j∧Hid (wr.ownsRow b 22 1 (.slice B (j + 1) cc) (j + 1) (rqs (.slice (some ⟨g,0,none⟩) d d) S j))∧Hid (RowP wr W4.heap.size (.slice A n c) n S)∧Hid (Rd wr (some ⟨g,0,none⟩) d fun _=>0)∧Hid (Keep w1 wr)∧Hid (W4.heap.size≤wr.heap.size))
  case atStart=>exact ⟨0,_,_,Nat.zero_le _,rfl,rfl,rfl,O5.out,hR.out,Z5.out,K5.out,sz5.out⟩
  case round =>
    clear O5 K5 Z5 sz5 hR
    obtain ⟨j,B,cc,hj,rfl,rfl,rfl,OR,RR,ZR,KR,SR⟩:=hrel
    by_cases hlt:j < n
    · obtain ⟨g1,cap1,ev,_⟩:=RR.out.row.form (by omega)
      simp only [Value.slice.injEq] at ev
      obtain ⟨rfl,_,rfl⟩:=ev
      have q1:=pods_at g1 0 n c j hlt
      have V:=row_cel RR.out.row hlt
      rw [Nat.zero_add] at q1 V
      obtain ⟨x,hx⟩:∃ x,x = S j:=⟨_,rfl⟩
      rw [← hx] at V
      have eR:Hid (rqs (.slice (some ⟨g,0,none⟩) d d) S (j + 1) = rqs (.slice (some ⟨g,0,none⟩) d d) S j ++ [.slice x.A x.m x.c]):=by show _ = _;rw [rqs_succ,hx]
      replace hx:=Lib.hid hx
      have x0:=V.e0;have x1:=V.e1;have x2:=V.e2;have x3:=V.e3;have x4:=V.e4;have x5:=V.e5;have x6:=V.e6;have x7:=V.e7;have x8:=V.e8
      clear V
      obtain ⟨W6,hW6⟩:∃ W6,W6 = (wr.alloc (.cells (podB x) 24)).alloc (.cells #[.slice x.A x.m x.c] 22):=⟨_,rfl⟩
      have k6:Hid (Keep wr W6):=by rw [hW6];exact (Keep.one _ _).alloc _
      have cB:Hid (W6.cell? ⟨wr.heap.size + 1,0,none⟩ = some (.slice x.A x.m x.c)):=by
        show _ = _
        have h1:=heap_alloc_new (wr.alloc (.cells (podB x) 24)) (.cells #[.slice x.A x.m x.c] 22)
        rw [World.size_alloc] at h1
        rw [hW6,cell_of_row _ _ _ _ _ _ h1]
        rfl
      have y4:=(blk9 (heap_alloc_new wr (.cells (podB x) 24))).e4
      have O6:=Lib.hid (own_keep OR.out k6.out)
      have s6:Hid (b≤W6.heap.size):=by have:=k6.out.size;have:=bs.out;have:=SR.out;show _≤_;omega
      unfold podB at hW6 y4
      go_wp2_with (at_builtin;rw [← hW6];refine wpl_rq rfl _ _ rfl b (.slice B (j + 1) cc) (j + 1) (rqs (.slice (some ⟨g,0,none⟩) d d) S j) (by simp [Act.eval]) O6.out (wr.heap.size + 1) (.slice x.A x.m x.c) (by simp [Act.eval]) cB.out rfl (by omega) s6.out ?_;intro v5 w6 hr5 hg5)
      rw [← eR.out] at hr5
      obtain ⟨B5,c5,hv5,_⟩:=own_form hr5
      subst hv5
      have K6:Hid (Keep w1 w6):=keep_own (KR.out.trans k6.out) O6.out bs.out.1 hg5
      have R6:Hid (RowP w6 W4.heap.size (.slice (some ⟨g1,0,none⟩) n c) n S):=by
        have R0:=RR.out.keep k6.out
        exact ⟨World.ownsRow.kept R0.row hg5 (rows_apart R0.row O6.out (by decide)),fun t ht=>World.ownsRow.kept (R0.own t ht) hg5 (rows_apart (R0.own t ht) O6.out (by decide)),R0.ok⟩
      have Z6:Hid (Rd w6 (some ⟨g,0,none⟩) d fun _=>0):=by
        refine rd_sameB (ZR.out.keep k6.out) (hg5.block g ?_ ?_)
        · exact Nat.lt_of_lt_of_le (by have:=lg.out;have:=k4.out.size;omega) (Nat.le_trans SR.out k6.out.size)
        · intro e
          have:=(O6.out.lt g e.symm).1
          have:=lg.out
          have:=hb.out
          omega
      have S6:Hid (W4.heap.size≤w6.heap.size):=Nat.le_trans (Nat.le_trans SR.out k6.out.size) hg5.size
      replace hr5:=Lib.hid hr5
      replace hg5:=Lib.hid hg5
      replace hW6:=Lib.hid hW6
      clear x0 x1 x2 x3 x4 x5 x6 x7 x8 y4 q1
      go_wp2
      go_roundg (n - (j + 1))
      case measure=>omega
      case rel=>exact ⟨j + 1,B5,c5,hlt,rfl,by go_num,by go_num,hr5.out,R6.out,Z6.out,K6.out,S6.out⟩
    · obtain rfl:j = n:=by omega
      obtain ⟨A2,c2,ev,RD⟩:=rds_rqs RR.out OR.out ZR.out n100
      simp only [Value.slice.injEq] at ev
      obtain ⟨rfl,_,rfl⟩:=ev
      have mem:∀ t,t < j→∃ y ∈ L,nm (S t) = y:=fun t ht=>by
        have h1:(T13.lst S j)[t]? = some (S t):=lst_get ht
        have h2:nm (S t) ∈ seesL p nd L:=by rw [← hS.out];exact List.mem_map_of_mem (List.mem_of_getElem? h1)
        exact ⟨_,(List.mem_filter.1 h2).1,rfl⟩
      have hm:∀ t,t < j→(S t).m = d:=fun t ht=>by
        obtain ⟨y,hy,e⟩:=mem t ht
        have:=(ok.out.req y hy).1
        rw [← e] at this
        exact this
      have cA:=add_some B (j + 1) cc _ _ _ _ wr RD (by omega) (fun r hr=>by
        rcases r with _ | r
        · show d≤_;omega
        · show (S r).m≤_
          rw [hm r (by omega)]
          omega) (by omega)
      have sm:∀ i,i < d→sumTo (j + 1) (fun r=>(if r = 0 then fun _=>(0:Int) else (S (r - 1)).Z) i) = sumL (seesL p nd L) i:=fun i hi=>by
        rw [sumL_nm hS.out,← sumTo_lst]
        congr 1
        funext r
        by_cases e:r = 0
        · rw [if_pos e,if_pos e]
        · rw [if_neg e,if_neg e]
      have rg:∀ i,i < d→0≤sumL (seesL p nd L) i∧sumL (seesL p nd L) i≤109951162777600:=fun i hi=>by
        have:=sumL_lo (L:=seesL p nd L) (j:=i) fun y hy=>(ok.out.req y (List.mem_filter.1 hy).1).2 i hi
        rw [← hn.out] at this
        omega
      have aOk:AddOk (j + 1) (fun r=>if r = 0 then d else (S (r - 1)).m) (fun r=>if r = 0 then fun _=>(0:Int) else (S (r - 1)).Z):=by
        refine ⟨by omega,fun r hr=>?_,fun i hi=>?_⟩
        · rcases r with _ | r
          · rfl
          · exact hm r (by omega)
        · have hi':i < d:=hi
          rw [sm i hi']
          unfold inR
          have:=rg i hi'
          exact decide_eq_true (by omega)
      have cA2:Hid (Calls Tryz.prog 43 #[.slice B (j + 1) cc] wr fun e w'=>∃ g,e = .returned (.tuple #[.slice (some ⟨g,0,none⟩) d d,.bool true])∧w1.heap.size≤g∧g < w'.heap.size∧Rd w' (some ⟨g,0,none⟩) d (sumL (seesL p nd L))∧Keep w1 w'):=by
        refine cA.mono ?_
        rintro e w' ⟨k',⟨_,he,hr⟩ | ⟨hno,_⟩⟩
        · refine ⟨wr.heap.size,he,KR.out.size,?_,rd_ofRow (World.rowIs.congr hr fun i hi=>by rw [sm i hi]) (by omega) fun i hi=>by have:=rg i hi;omega,KR.out.trans k'⟩
          obtain ⟨cs,hc,_⟩:=hr
          exact lt_of_block hc
        · exact absurd aOk hno
      clear cA RD mem hm sm rg aOk
      go_wp2_with fail
      refine cA2.out.mono ?_
      rintro e w7 ⟨g7,rfl,h1,h2,h3,h4⟩
      replace h1:=Lib.hid h1
      replace h2:=Lib.hid h2
      replace h3:=Lib.hid h3
      replace h4:=Lib.hid h4
      go_wp2
      go_ret
      exact ⟨g7,rfl,h1.out,h2.out,h3.out,h4.out⟩
end
theorem podon_nil (nd:Int) (w:World):Calls Tryz.prog 54 #[.pointer none,.int .i64 nd] w fun e w'=>e = .returned (.slice none 0 0)∧Keep w w':=by
  have k1:Hid (Keep w (w.alloc (.cells #[.int .i64 nd] 3))):=Keep.one _ _
  have hL:=Lib.hid (list_nil 82 #[.pointer (some ⟨w.heap.size,0,none⟩)] (w.alloc (.cells #[.int .i64 nd] 3)))
  go_enter Tryz.func54,Tryz.ntmps54
  go_wp2_with fail
  refine hL.out.mono ?_
  rintro e w1 ⟨rfl,k⟩
  have k:=Lib.hid k
  go_wp2
  go_ret
  exact ⟨rfl,k1.out.trans k.out⟩
set_option maxRecDepth 100000 in
set_option maxHeartbeats 4000000 in
theorem onnil_fn (nd:Int) (w:World):Calls Tryz.prog 25 #[.pointer none,.int .i64 nd] w fun e w'=>e = .returned (.slice none 0 0)∧Keep w w':=by
  have hB:=Lib.hid (both_nil w)
  have hP:=Lib.hid (fun W=>podon_nil nd W)
  have fs0:∀ W,(Instr.field 73 (.agg #[.pointer none,.pointer none]) 0).run Tryz.prog W = .ok (.agg #[.pointer none]) W:=fun _=>by kernel_rfl
  have fs1:∀ W,(Instr.field 73 (.agg #[.pointer none,.pointer none]) 1).run Tryz.prog W = .ok (.agg #[.pointer none]) W:=fun _=>by kernel_rfl
  have fn0:∀ W,(Instr.field 68 (.agg #[.pointer none]) 0).run Tryz.prog W = .ok (.pointer none) W:=fun _=>by kernel_rfl
  have fp0:∀ W,(Instr.field 71 (.agg #[.pointer none]) 0).run Tryz.prog W = .ok (.pointer none) W:=fun _=>by kernel_rfl
  go_enter Tryz.func25,Tryz.ntmps25
  go_wp2_with fail
  refine hB.out.mono ?_
  rintro e w2 ⟨rfl,k2⟩
  replace k2:=Lib.hid k2
  go_wp2_with fail
  refine (hP.out w2).mono ?_
  rintro e w3 ⟨rfl,k3⟩
  replace k3:=Lib.hid k3
  go_wp2
  go_ret
  exact ⟨rfl,k2.out.trans k3.out⟩
set_option maxHeartbeats 4000000 in
theorem rpods_nil (p:PodV) (nd:Int) (w1:World):Calls Tryz.prog 11 #[.pointer none,p.val,.int .i64 nd] w1 fun e w'=>∃ A c,e = .returned (.slice A 0 c)∧Keep w1 w':=by
  obtain ⟨W,hW⟩:∃ W,W = (w1.alloc (.cells (podB p) 24)).alloc (.cells #[.int .i64 nd] 3):=⟨_,rfl⟩
  have s0:(w1.alloc (.cells (podB p) 24)).heap.size = w1.heap.size + 1:=World.size_alloc _ _
  have kW:Hid (Keep w1 W):=by rw [hW];exact (Keep.one _ _).alloc _
  have bN:Hid (W.heap[w1.heap.size + 1]? = some (.cells #[.int .i64 nd] 3 (0,0))):=by rw [hW,← s0];exact heap_alloc_new _ _
  have n0:W.cell? ⟨w1.heap.size + 1,0,none⟩ = some (.int .i64 nd):=by rw [cell_of_row W _ _ _ _ _ bN.out];rfl
  have cO:=Lib.hid (onnil_fn nd W)
  have cF:Hid (∀ w2,Keep W w2→Calls Tryz.prog 24 #[.slice none 0 0,.func (.func 26) #[] #[.pointer (some ⟨w1.heap.size,0,none⟩),.pointer (some ⟨w1.heap.size + 1,0,none⟩)]] w2 fun e w'=>∃ A c,e = .returned (.slice A 0 c)∧Keep w1 w'):=fun w2 k2=>by
    refine (filter_fn (RowP.nil w2 w2.heap.size fun _=>zpod) (Nat.zero_le _) (f:=seesB p nd) ⟨enters_of Tryz.func26 (by kernel_rfl) rfl,fun W' hW' x hx=>?_⟩).mono ?_
    · obtain ⟨t,ht,_⟩:=lst_mem.1 hx
      exact absurd ht (Nat.not_lt_zero _)
    · rintro e w' ⟨v',S',h1,h2,h3,h4⟩
      obtain ⟨A,c,rfl,_⟩:=own_form h2.row
      exact ⟨A,c,h1,(kW.out.trans k2).trans (Fr.low (Keep.refl _) h4 fun i hi=>by cases hi)⟩
  clear bN
  replace s0:=Lib.hid s0
  rw [hW] at n0
  unfold podB at hW n0
  unfold PodV.val
  go_enter Tryz.func11,Tryz.ntmps11
  go_wp2_with fail
  rw [← hW]
  replace hW:=Lib.hid hW
  clear n0
  refine cO.out.mono ?_
  rintro e w2 ⟨rfl,k2⟩
  have cF2:=Lib.hid (cF.out w2 k2)
  clear cF cO
  replace k2:=Lib.hid k2
  go_wp2_with fail
  refine cF2.out.mono ?_
  rintro e w3 ⟨A,c,rfl,h3⟩
  replace h3:=Lib.hid h3
  go_wp2
  go_ret
  exact ⟨A,c,rfl,h3.out⟩
end Go.Proofs.YtinndaolcaehiaaGreatDoor.T15

namespace Go.Proofs.YtinndaolcaehiaaGreatDoor.T15
open Go.RowKit Go.Sort Go.Lib V12 T13 T14
def zn (z:Int):Nat→Int:=fun _=>z
def lp (k p h d:Int):PodV:=⟨k,p,false,0,none,0,0,zn 0,0,h,d,0⟩
def lq (k p z:Int) (A:Option Addr) (c:Nat):PodV:=⟨k,p,false,0,A,1,c,zn z,0,0,0,0⟩
def lc (k p z a h d:Int):PodV:=⟨k,p,false,0,none,1,0,zn z,a,h,d,-1⟩
theorem rd_one {w:World} {b:Nat} {z:Int} {T:TypeId} (h:w.heap[b]? = some (.cells #[.int .i64 z] T (0,0))) (hz:-9223372036854775808≤z∧z≤9223372036854775807):Rd w (some ⟨b,0,none⟩) 1 (zn z):=by
  refine ⟨by omega,fun _ _=>hz,fun _=>⟨b,0,rfl,fun j hj=>?_⟩⟩
  obtain rfl:j = 0:=by omega
  rw [Nat.zero_add,cell_of_row w b 0 _ _ _ h]
  rfl
theorem lq_is {w:World} {A:Option Addr} {c:Nat} {k p z:Int} (hk:I64 k) (hp:I64 p) (h:Rd w A 1 (zn z)) (ha:A≠none):PodIs w (lq k p z A c):=⟨h,fun e=>absurd e ha,hk,hp,(zpod_is w).rng.1,(zpod_is w).rng.1,(zpod_is w).rng.1,(zpod_is w).rng.1,(zpod_is w).rng.1⟩
theorem lq_sub {L:List PodV} {k p z:Int} {A:Option Addr} {c:Nat} (hz:0≤z∧z≤1099511627776) (hk:k ∉ keys L) (hl:L.length≤100):sbC L 1 (lq k p z A c) = 0∧wrI 1 (lq k p z A c).m (lq k p z A c).Z = 0∧sbL L 1 (lq k p z A c) = L ++ [lc k p z L.length 1 (-1)]:=by
  have h0:¬ 0≤wrongOf 1 (zn z) ((1:Nat):Int):=by
    rw [wrongOf_ok fun j hj=>?_,if_pos rfl]
    · decide
    · unfold badAmt zn
      exact decide_eq_false (by omega)
  have h1:subC L 65536 (lq k p z A c) = 0:=by
    unfold subC
    rw [if_neg (show ¬ (lq k p z A c).k ∈ keys L from hk),if_neg (by omega)]
  refine ⟨?_,?_,?_⟩
  · unfold sbC
    rw [show (lq k p z A c).m = 1 from rfl,show (lq k p z A c).Z = zn z from rfl,if_neg h0]
    exact h1
  · unfold wrI
    rw [show (lq k p z A c).m = 1 from rfl,show (lq k p z A c).Z = zn z from rfl,if_neg h0]
  · unfold sbL
    rw [show (lq k p z A c).m = 1 from rfl,show (lq k p z A c).Z = zn z from rfl,if_neg h0]
    unfold subL
    rw [if_pos h1]
    rfl
theorem ln_add {M:List NV} {k z:Int} (hz:0≤z∧z≤1099511627776) (hk:k ∉ nk M) (hl:M.length≤100):adC M 1 k 1 (zn z) = 0∧wrI 1 1 (zn z) = 0∧adL M 1 k 1 (zn z) = G.ins NV.k ⟨k,zn z⟩ M:=by
  have h0:¬ 0≤wrongOf 1 (zn z) ((1:Nat):Int):=by
    rw [wrongOf_ok fun j hj=>?_,if_pos rfl]
    · decide
    · unfold badAmt zn
      exact decide_eq_false (by omega)
  have h1:adC M 1 k 1 (zn z) = 0:=by
    unfold adC
    rw [if_neg h0,if_neg hk,if_neg (by omega)]
  refine ⟨h1,?_,?_⟩
  · unfold wrI
    rw [if_neg h0]
  · unfold adL
    rw [if_pos h1]
section
variable {CS:PredC} {w w1:World} {q:Nat} {M:List NV} {L:List PodV} {X:Nat→Prop}
theorem aw_node (C:Con CS) (h:CS w 1 q M L X w1) (hg:ErrT w) {b:Nat} {k z:Int} {T:TypeId} (hb:w1.heap[b]? = some (.cells #[.int .i64 z] T (0,0))) (hk:I64 k) (hz:0≤z∧z≤1099511627776) (hn:k ∉ nk M) (hl:M.length≤100) :
    Calls Tryz.prog 15 #[.pointer (some ⟨q,0,none⟩),.agg #[.int .i64 k,.slice (some ⟨b,0,none⟩) 1 1]] w1 fun e w'=>e = .returned .nilIface∧CS w 1 q (G.ins NV.k ⟨k,zn z⟩ M) L X w':=by
  obtain ⟨h1,h2,h3⟩:=ln_add hz hn hl
  refine (C.addNode k (some ⟨b,0,none⟩) 1 1 (zn z) h (hg.keep (C.kp h)) (rd_one hb (by omega)) (fun e=>by cases e) hk (by omega) hl).mono ?_
  rintro e w' ⟨e1,e2,_⟩
  rw [h1,h2] at e1
  rw [h3] at e2
  exact ⟨e1,e2⟩
theorem aw_sub (C:Con CS) (h:CS w 1 q M L X w1) (hg:ErrT w) {b:Nat} {k p z:Int} {T:TypeId} (hb:w1.heap[b]? = some (.cells #[.int .i64 z] T (0,0))) (hk:I64 k) (hp:I64 p) (hz:0≤z∧z≤1099511627776) (hn:k ∉ keys L) (hl:L.length≤100) :
    Calls Tryz.prog 16 #[.pointer (some ⟨q,0,none⟩),.agg #[.int .i64 k,.int .i64 p,.bool false,.int .i64 0,.slice (some ⟨b,0,none⟩) 1 1,.int .i64 0,.int .i64 0,.int .i64 0,.int .i64 0]] w1 fun e w'=>∃ r:PodV,e = .returned (.tuple #[r.val,.nilIface])∧CS w 1 q M (L ++ [lc k p z L.length 1 (-1)]) X w':=by
  obtain ⟨h1,h2,h3⟩:=lq_sub (p:=p) (A:=some ⟨b,0,none⟩) (c:=1) hz hn hl
  refine (C.submit (lq k p z (some ⟨b,0,none⟩) 1) h (hg.keep (C.kp h)) (lq_is hk hp (rd_one hb (by omega)) (fun e=>by cases e)) (by show (1:Nat)≤1000;omega) hl).mono ?_
  rintro e w' ⟨r,e1,_,_,_,_,e2,_⟩
  rw [h1,h2] at e1
  rw [h3] at e2
  exact ⟨r,e1,e2⟩
theorem aw_claim (C:Con CS) (h:CS w 1 q M L X w1) (hg:ErrT w) (id nd:Int) (hi:I64 id) (hn:I64 nd) (hm:M.length≤100) (hl:L.length≤100) (hc:plC M L 1 id nd 2 = 0) {L2:List PodV} (e2:appL L id 2 nd (-1) = L2) :
    Calls Tryz.prog 17 #[.pointer (some ⟨q,0,none⟩),.int .i64 id,.int .i64 nd] w1 fun e w'=>∃ r:PodV,e = .returned (.tuple #[r.val,.nilIface])∧CS w 1 q M L2 X w':=by
  refine (C.claim id nd h (hg.keep (C.kp h)) hi hn hm hl).mono ?_
  rintro e w' ⟨r,h1,_,_,_,_,h3,_⟩
  rw [hc] at h1
  unfold plL at h3
  rw [if_pos hc,e2] at h3
  exact ⟨r,h1,h3⟩
end
theorem same_one {w:World} {g b c:Nat} {z:Int} {T:TypeId} {Z:Nat→Int} (hA:Rd w (some ⟨g,0,none⟩) 1 Z) (e:Z 0 = z) (h:w.heap[b]? = some (.cells #[.int .i64 z] T (0,0))) (hz:-9223372036854775808≤z∧z≤9223372036854775807):Calls Tryz.prog 18 #[.slice (some ⟨g,0,none⟩) 1 c,.slice (some ⟨b,0,none⟩) 1 1] w fun e w'=>e = .returned (.bool true)∧Keep w w':=by
  refine (rsame_is _ _ 1 1 c 1 Z (zn z) w hA (rd_one h hz) true (decide_eq_true ⟨rfl,fun j hj=>?_⟩)).mono ?_
  · obtain rfl:j = 0:=by omega
    exact e
  · rintro e w' ⟨h2,qq,rfl⟩
    exact ⟨h2,(Gr.refl w |>.drewN qq).keep⟩
end Go.Proofs.YtinndaolcaehiaaGreatDoor.T15

