/-
  load.Of. Condition: at most 100 pods, the dimension is at most 64.
  The law's awake, over the contracts of package load. Condition: errors.errorType holds its own.
-/
import Derived.Test.YtclfbplbccehkaaGreatDoorD42
import Derived.Test.YtclfbplbccehkaaGreatDoorD22
namespace Go.Proofs.YtclfbplbccehkaaGreatDoor.T16
open Go.RowKit Go.Sort Go.Lib V12 T13 T14 T15
def nth (T:List PodV) (r:Nat):PodV:=(T[r]?).getD zpod
theorem lst_nth (T:List PodV):T13.lst (nth T) T.length = T:=by
  refine List.ext_getElem? fun i=>?_
  by_cases h:i < T.length
  · rw [lst_get h,List.getElem?_eq_getElem h]
    unfold nth
    rw [List.getElem?_eq_getElem h]
    rfl
  · rw [List.getElem?_eq_none (by rw [T13.lst_len];omega),List.getElem?_eq_none (by omega)]
theorem nth_mem {T:List PodV} {r:Nat} (h:r < T.length):nth T r ∈ T:=by
  unfold nth
  rw [List.getElem?_eq_getElem h]
  exact List.getElem_mem h
theorem sumTo_z (a:Int) (f:Nat→Int):∀ n,sumTo (n + 1) (fun r=>if r = 0 then a else f (r - 1)) = a + sumTo n f
  | 0=>by
    show sumTo 0 _ + (if 0 = 0 then a else f (0 - 1)) = a + 0
    rw [if_pos rfl]
    show (0:Int) + a = a + 0
    omega
  | n + 1=>by
    have h:=sumTo_z a f n
    show sumTo (n + 1) _ + (if n + 1 = 0 then a else f (n + 1 - 1)) = a + (sumTo n f + f n)
    rw [h,if_neg (by omega),Nat.add_sub_cancel]
    omega
theorem sumTo_S (S:Nat→PodV) (j:Nat):∀ n,sumTo n (fun r=>(S r).Z j) = sumL (T13.lst S n) j
  | 0=>rfl
  | n + 1=>by
    rw [T13.lst_succ,sumL_append,← sumTo_S S j n]
    show sumTo n _ + (S n).Z j = _ + ((S n).Z j + 0)
    omega
theorem sumTo_T (Y:Nat→Int) (T:List PodV) (i:Nat):sumTo (T.length + 1) (fun r=>(if r = 0 then Y else (nth T (r - 1)).Z) i) = Y i + sumL T i:=by
  have h:=sumTo_z (Y i) (fun r=>(nth T r).Z i) T.length
  rw [sumTo_S,lst_nth] at h
  rw [← h]
  congr 1
  funext r
  by_cases e:r = 0
  · rw [if_pos e,if_pos e]
  · rw [if_neg e,if_neg e]
theorem rds_T {w:World} {base d g:Nat} {v:Value} {T:List PodV} {Y:Nat→Int} (hO:w.ownsRow base 24 1 v (T.length + 1) (.slice (some ⟨g,0,none⟩) d d :: T.map rqV)) (hz:Rd w (some ⟨g,0,none⟩) d Y) (hT:∀ y ∈ T,PodIs w y) (hn:T.length≤100):∃ A c,v = .slice A (T.length + 1) c ∧
    Rds w A (T.length + 1) (fun r=>if r = 0 then some ⟨g,0,none⟩ else (nth T (r - 1)).A) (fun r=>if r = 0 then d else (nth T (r - 1)).m) (fun r=>if r = 0 then d else (nth T (r - 1)).c) (fun r=>if r = 0 then Y else (nth T (r - 1)).Z):=by
  obtain ⟨g2,cap,rfl,_⟩:=hO.form (by omega)
  refine ⟨_,_,rfl,by omega,fun _=>⟨g2,0,rfl,fun r hr=>?_⟩,fun r hr=>?_⟩
  · rw [Nat.zero_add,hO.cellAt r (by omega)]
    rcases r with _ | r
    · rfl
    · have hr2:r < T.length:=by omega
      rw [List.getElem?_cons_succ,List.getElem?_map,List.getElem?_eq_getElem hr2]
      show some (rqV T[r]) = some (rqV (nth T r))
      unfold nth
      rw [List.getElem?_eq_getElem hr2]
      rfl
  · rcases r with _ | r
    · exact hz
    · exact (hT _ (nth_mem (by omega))).rd
theorem held_used (O:Int→Bool) (nd:Int) (j:Nat) (L:List PodV):sumL ((L.filter (onB nd)).filter (heldB O)) j = usedL (outL O L) nd j:=by
  induction L with
  | nil=>rfl
  | cons y L ih =>
    unfold outL at ih ⊢
    by_cases hO:O y.k = true
    · rw [List.filter_cons_of_neg (p:=fun y:PodV=>!O y.k) (by simp [hO]),← ih]
      by_cases h1:onB nd y = true
      · rw [List.filter_cons_of_pos h1,List.filter_cons_of_neg (by unfold heldB;rw [hO];simp)]
      · rw [List.filter_cons_of_neg h1]
    · have hO2:O y.k = false:=by simpa using hO
      rw [List.filter_cons_of_pos (p:=fun y:PodV=>!O y.k) (by simp [hO2])]
      show _ = heldZ nd j y + _
      rw [← ih]
      by_cases h1:holds nd y = true
      · have h2:=of_decide_eq_true h1
        have h3:onB nd y = true:=decide_eq_true ⟨h2.1,by omega,by omega⟩
        have h4:heldB O y = true:=by unfold heldB hdP;rw [hO2,decide_eq_true h2.2];rfl
        rw [List.filter_cons_of_pos h3,List.filter_cons_of_pos h4]
        unfold heldZ
        rw [if_pos h1]
        rfl
      · unfold heldZ
        rw [if_neg h1]
        by_cases h3:onB nd y = true
        · have h4:¬ heldB O y = true:=fun e=>h1 (by
            unfold heldB hdP at e
            have e:=of_decide_eq_true (Bool.and_eq_true_iff.1 e).1
            exact decide_eq_true ⟨(on_h h3).1,e⟩)
          rw [List.filter_cons_of_pos h3,List.filter_cons_of_neg h4]
          omega
        · rw [List.filter_cons_of_neg h3]
          omega
theorem smF_zero {f:PodV→Int} {L:List PodV} (h:∀ y ∈ L,f y = 0):smF f L = 0:=by
  induction L with
  | nil=>rfl
  | cons y L ih =>
    show f y + smF f L = 0
    rw [h y (by simp),ih fun z hz=>h z (by simp [hz])]
    rfl
theorem load_off {d:Nat} {M:List NV} {L:List PodV} (ok:Ok d M L) {nd:Int} (hk:nd ∉ nk M) (O:Int→Bool) (p:PodV) (j:Nat):loadZ O p nd L j = 0:=by
  rw [load_sm]
  refine smF_zero fun y hy=>?_
  unfold ldF
  have a1:heldZ nd j y = 0:=heldZ_not fun e=>hk (by rw [← e.1];exact ok.plc y hy (by omega) (by omega))
  have a2:¬ seesB p nd y = true:=fun e=>by
    have e:=of_decide_eq_true e
    exact hk (by rw [← e.2.2.1];exact ok.plc y hy (by omega) (by omega))
  rw [a1,if_neg a2]
  split <;> rfl
theorem of_load {d:Nat} {M:List NV} {L:List PodV} (ok:Ok d M L) (nd:Int) (O:Int→Bool) (p:PodV) (j:Nat):ofZ O p nd M L j = loadZ O p nd L j:=by
  unfold ofZ
  by_cases h:nd ∈ nk M
  · rw [if_pos h]
  · rw [if_neg h,load_off ok h]
section
variable {CS:PredC} {w w1:World} {d q:Nat} {M:List NV} {L:List PodV} {X:Nat→Prop}
set_option maxRecDepth 100000 in
set_option maxHeartbeats 8000000 in
theorem lof_fn (C:Con CS) (h:CS w d q M L X w1) (p:PodV) (nd:Int) (hd:I64 nd) (A:Option Addr) (n c:Nat) (O:Int→Bool) (hS:SetOf w1 A n O) (h64:d≤64) (hl:L.length≤100) :
    Calls Tryz.prog 12 #[.pointer (some ⟨q,0,none⟩),p.val,.int .i64 nd,.slice A n c] w1 fun e w'=>∃ v,e = .returned v∧Row w' v d (ofZ O p nd M L)∧(∀ g,v.ownBlock = some g→w1.heap.size≤g)∧Keep w1 w':=by
  have ok:=Lib.hid (C.ok h)
  obtain ⟨Z,hZ0,hO0⟩:=hS
  have hZ:=Lib.hid hZ0
  have hO:=Lib.hid hO0
  clear hZ0 hO0
  obtain ⟨W,hW⟩:∃ W,W = (w1.alloc (.cells (podB p) 26)).alloc (.cells #[.slice none 0 0] 60):=⟨_,rfl⟩
  have s0:(w1.alloc (.cells (podB p) 26)).heap.size = w1.heap.size + 1:=World.size_alloc _ _
  have kW:Hid (Keep w1 W):=by rw [hW];exact (Keep.one _ _).alloc _
  have bP:Hid (W.heap[w1.heap.size]? = some (.cells (podB p) 26 (0,0))):=by rw [hW];exact (Keep.one _ _).block (heap_alloc_new _ _)
  have bB:Hid (Boxed W (w1.heap.size + 1) 60 (.slice none 0 0)):=by rw [hW,← s0];exact Boxed.new _ _ _
  have cS:=Lib.hid (rsum_fn C (C.keep h kW.out) p nd hd hl h64)
  have P0:=blk9 bP.out
  have c0:=P0.e0;have c1:=P0.e1;have c2:=P0.e2;have c3:=P0.e3;have c4:=P0.e4;have c5:=P0.e5;have c6:=P0.e6;have c7:=P0.e7;have c8:=P0.e8
  clear P0
  rw [hW] at c0 c1 c2 c3 c4 c5 c6 c7 c8
  have hmf:=@hmf
  replace h:=Lib.hid h
  replace s0:=Lib.hid s0
  replace hd:=Lib.hid hd
  unfold podB at hW c0 c1 c2 c3 c4 c5 c6 c7 c8
  unfold PodV.val at cS
  unfold PodV.val
  go_enter Tryz.func12,Tryz.ntmps12
  go_wp2_with fail
  rw [← hW]
  replace hW:=Lib.hid hW
  clear c0 c1 c2 c3 c4 c5 c6 c7 c8
  refine cS.out.mono ?_
  rintro e w2 ⟨g,rfl,g1,g2,rz,k2⟩
  obtain ⟨pb,hpb⟩:∃ b,b = w1.heap.size + 1:=⟨_,rfl⟩
  rw [← hpb] at bB ⊢
  have gW:Hid (pb < g):=Nat.lt_of_lt_of_le bB.out.lt g1
  have b2:Hid (Boxed w2 pb 60 (.slice none 0 0)):=Keep.block k2 bB.out
  obtain ⟨bs,hbs⟩:∃ b,b = w2.heap.size:=⟨_,rfl⟩
  have gb:Hid (g < bs):=by rw [hbs];exact g2
  have K2:Hid (Keep w1 w2):=kW.out.trans k2
  have r2:Hid (w2.ownsRow bs 24 1 (.slice none 0 0) 0 []):=World.ownsRow_nil _ _ _ _
  have d1:=Lib.hid (of1_fn (some ⟨g,0,none⟩) d d b2.out r2.out (Nat.le_of_eq hbs) (by omega))
  replace rz:=Lib.hid rz
  replace k2:=Lib.hid k2
  replace g1:=Lib.hid g1
  replace g2:=Lib.hid g2
  replace hbs:=Lib.hid hbs
  have pb1:Hid (w1.heap.size≤pb):=by rw [hpb];exact Nat.le_succ _
  replace hpb:=Lib.hid hpb
  clear cS bB
  go_wp2_with fail
  refine d1.out.mono ?_
  rintro e w3 ⟨rfl,v3,b3,r3,f3⟩
  have K3:Hid (Keep w1 w3):=Fr.low K2.out f3 fun i hi=>by
    rcases hi with e | e
    · rw [e];exact pb1.out
    · cases e
  have z3:Hid (Rd w3 (some ⟨g,0,none⟩) d (sumL (seesL p nd L))):=rd_sameB rz.out (f3.block g g2.out fun hi=>by
    rcases hi with e | e
    · have:=gW.out;omega
    · cases e)
  have s3:Hid (bs≤w3.heap.size):=by rw [hbs.out];exact f3.size
  have cT:=Lib.hid (set_fn A n c Z w3 (hZ.out.keep K3.out))
  replace b3:=Lib.hid b3
  replace r3:=Lib.hid r3
  replace f3:=Lib.hid f3
  clear d1 b2 r2
  go_wp2_with fail
  refine cT.out.mono ?_
  rintro e w4 ⟨mb,l,rfl,hmb,I4,S4,k4⟩
  have b4:Hid (Boxed w4 pb 60 v3):=Keep.block k4 b3.out
  have r4:=Lib.hid (own_keep r3.out k4)
  have z4:=Lib.hid (z3.out.keep k4)
  have K4:Hid (Keep w1 w4):=K3.out.trans k4
  have s4:Hid (bs≤w4.heap.size):=Nat.le_trans s3.out k4.size
  have cE:=Lib.hid (each_fn C (C.keep h.out K4.out) nd hd.out hl I4 (S4.look I4.nodup hO.out) b4.out r4.out s4.out)
  replace I4:=Lib.hid I4
  replace S4:=Lib.hid S4
  replace hmb:=Lib.hid hmb
  replace k4:=Lib.hid k4
  clear cT b3 r3 z3
  go_wp2_with fail
  refine cE.out.mono ?_
  rintro e w5 ⟨rfl,v5,T,b5,r5,T5,e5,f5⟩
  have K5:Hid (Keep w1 w5):=Fr.low K4.out f5 fun i hi=>by
    rcases hi with e | e
    · rw [e];exact pb1.out
    · have:=K2.out.size;have:=hbs.out;omega
  have z5:Rd w5 (some ⟨g,0,none⟩) d (sumL (seesL p nd L)):=rd_sameB z4.out (f5.block g (Nat.lt_of_lt_of_le gb.out s4.out) fun hi=>by
    have:=gW.out
    have:=gb.out
    rcases hi with e | e <;> omega)
  have tl:T.length≤100:=by
    have h1:=congrArg List.length e5
    rw [List.length_map] at h1
    rw [h1]
    exact Nat.le_trans (Nat.le_trans (List.length_filter_le _ _) (List.length_filter_le _ _)) hl
  obtain ⟨B5,c5,hv5,RD⟩:=rds_T r5 z5 T5 tl
  subst hv5
  have mem:∀ y ∈ T,∃ x ∈ L,nm y = x:=fun y hy=>by
    have h2:nm y ∈ (L.filter (onB nd)).filter (heldB O):=by rw [← e5];exact List.mem_map_of_mem hy
    exact ⟨_,(List.mem_filter.1 (List.mem_filter.1 h2).1).1,rfl⟩
  have hm:∀ y ∈ T,y.m = d∧∀ i,i < d→Amt (y.Z i):=fun y hy=>by
    obtain ⟨x,hx,e⟩:=mem y hy
    have:=ok.out.req x hx
    rw [← e] at this
    exact this
  have sm:∀ i,sumTo (T.length + 1) (fun r=>(if r = 0 then sumL (seesL p nd L) else (nth T (r - 1)).Z) i) = ofZ O p nd M L i:=fun i=>by
    rw [sumTo_T,of_load ok.out,← sumL_nm e5,held_used]
    unfold loadZ
    omega
  have rg:∀ i,i < d→0≤ofZ O p nd M L i∧ofZ O p nd M L i≤219902325555200:=fun i hi=>by
    rw [of_load ok.out]
    unfold loadZ
    rw [← held_used,sumL_nm e5]
    have h1:=sumL_lo (L:=T) (j:=i) fun y hy=>(hm y hy).2 i hi
    have h2:=sumL_lo (L:=seesL p nd L) (j:=i) fun y hy=>(ok.out.req y (List.mem_filter.1 hy).1).2 i hi
    have h3:(seesL p nd L).length≤100:=Nat.le_trans (List.length_filter_le _ _) hl
    omega
  have ml:∀ r,r < T.length + 1→(if r = 0 then d else (nth T (r - 1)).m) = d:=fun r hr=>by
    rcases r with _ | r
    · rfl
    · exact (hm _ (nth_mem (by omega))).1
  have cA:=add_some B5 (T.length + 1) c5 _ _ _ _ w5 RD (by omega) (fun r hr=>by
    show (if r = 0 then d else (nth T (r - 1)).m)≤_
    rw [ml r hr]
    omega) (by omega)
  have aOk:AddOk (T.length + 1) (fun r=>if r = 0 then d else (nth T (r - 1)).m) (fun r=>if r = 0 then sumL (seesL p nd L) else (nth T (r - 1)).Z):=by
    refine ⟨by omega,fun r hr=>(ml r hr).trans (ml 0 (by omega)).symm,fun i hi=>?_⟩
    have hi':i < d:=hi
    rw [sm i]
    unfold inR
    have:=rg i hi'
    exact decide_eq_true (by omega)
  have cA2:Hid (Calls Tryz.prog 35 #[.slice B5 (T.length + 1) c5] w5 fun e w'=>∃ v,e = .returned (.tuple #[v,.bool true])∧Row w' v d (ofZ O p nd M L)∧(∀ g,v.ownBlock = some g→w1.heap.size≤g)∧Keep w1 w'):=by
    refine cA.mono ?_
    rintro e w' ⟨k',⟨_,he,hr⟩ | ⟨hno,_⟩⟩
    · refine ⟨_,he,⟨_,_,rfl,rd_ofRow (World.rowIs.congr hr fun i hi=>by rw [sm i]) (by omega) fun i hi=>by have:=rg i hi;omega⟩,fun g hg=>?_,K5.out.trans k'⟩
      cases hg
      exact K5.out.size
    · exact absurd aOk hno
  have y5:=b5.cell
  replace b5:=Lib.hid b5
  replace r5:=Lib.hid r5
  replace T5:=Lib.hid T5
  replace e5:=Lib.hid e5
  replace f5:=Lib.hid f5
  clear cA RD mem hm sm rg ml aOk tl z5 cE
  go_wp2_with fail
  refine cA2.out.mono ?_
  rintro e w6 ⟨v,rfl,h1,h2,h3⟩
  replace h1:=Lib.hid h1
  replace h2:=Lib.hid h2
  replace h3:=Lib.hid h3
  go_wp2
  go_ret
  exact ⟨v,rfl,h1.out,h2.out,h3.out⟩
end
end Go.Proofs.YtclfbplbccehkaaGreatDoor.T16

namespace Go.Proofs.YtclfbplbccehkaaGreatDoor.T16
open Go.RowKit Go.Sort Go.Lib V12 T13 T14 T15
def awM:List NV:=[⟨7,zn 5⟩]
def awL:List PodV:=[lc 1 0 3 0 3 7]
theorem aw_left (A:Option Addr) (c:Nat):leftB (lq 2 0 3 A c) 7 awM awL 1 = true:=by rfl
theorem aw_left8 (A:Option Addr) (c:Nat):leftB (lq 2 0 3 A c) 8 awM awL 1 = false:=by rfl
theorem aw_f1 (A:Option Addr) (c:Nat):fitsM no (lq 2 0 3 A c) 7 awM awL 1 = false:=by rfl
theorem aw_f2 (A:Option Addr) (c:Nat):fitsM (fun k=>decide (k = 1)) (lq 2 0 3 A c) 7 awM awL 1 = true:=by rfl
theorem aw_f3 (A:Option Addr) (c:Nat):fitsM no (lq 2 0 3 A c) 8 awM awL 1 = false:=by rfl
theorem aw_sh (A:Option Addr) (c:Nat):shortB (lq 2 0 3 A c) 7 awM 1 = true:=by rfl
theorem aw_e1 (A:Option Addr) (c:Nat):sameB 1 (shortZ (lq 2 0 3 A c) 7 awM awL) 1 (zn 1) = true:=by rfl
theorem aw_e2 (A:Option Addr) (c:Nat):sameB 1 (ofZ no (lq 2 0 3 A c) 7 awM awL) 1 (zn 3) = true:=by rfl
theorem aw_e3 (A:Option Addr) (c:Nat):sameB 1 (fun k=>(nget awM 7).C k - loadZ no (lq 2 0 3 A c) 7 awL k) 1 (zn 2) = true:=by rfl
theorem row_one {w:World} {b:Nat} {z:Int} {T:TypeId} (h:w.heap[b]? = some (.cells #[.int .i64 z] T (0,0))) (hz:-9223372036854775808≤z∧z≤9223372036854775807):Row w (.slice (some ⟨b,0,none⟩) 1 1) 1 (zn z):=⟨_,_,rfl,rd_one h hz⟩
theorem set_one {w:World} {b:Nat} {T:TypeId} (h:w.heap[b]? = some (.cells #[.int .i64 1] T (0,0))):SetOf w (some ⟨b,0,none⟩) 1 (fun k=>decide (k = 1)):=⟨zn 1,rd_one h (by omega),fun k=>⟨fun e=>⟨0,by omega,(of_decide_eq_true e).symm⟩,fun ⟨j,_,e⟩=>decide_eq_true e.symm⟩⟩
section
variable {CS:PredC} {w w1:World} {d q:Nat} {M:List NV} {L:List PodV} {X:Nat→Prop}
theorem left_yes (F:ConL CS) (p:PodV) (nd:Int) (h:CS w d q M L X w1) (hg:ErrT w1) (hp:PodIs w1 p) (hn:I64 nd) (hd:d≤64) (hm:M.length≤100) (hl:L.length≤100) (hb:leftB p nd M L d = true):Calls Tryz.prog 17 #[.pointer (some ⟨q,0,none⟩),p.val,.int .i64 nd] w1 fun e w'=>∃ v,e = .returned (.tuple #[v,.bool true])∧Row w' v d (fun k=>(nget M nd).C k - loadZ no p nd L k)∧Keep w1 w' :=
  (F.left p nd h hg hp hn hd hm hl).mono fun e w' ⟨v,n,e1,e2,_,r,k⟩=>⟨v,by rw [e1,hb],by rw [e2 hb] at r;exact r,k⟩
theorem left_no (F:ConL CS) (p:PodV) (nd:Int) (h:CS w d q M L X w1) (hg:ErrT w1) (hp:PodIs w1 p) (hn:I64 nd) (hd:d≤64) (hm:M.length≤100) (hl:L.length≤100) (hb:leftB p nd M L d = false):Calls Tryz.prog 17 #[.pointer (some ⟨q,0,none⟩),p.val,.int .i64 nd] w1 fun e w'=>∃ v,e = .returned (.tuple #[v,.bool false])∧Keep w1 w' :=
  (F.left p nd h hg hp hn hd hm hl).mono fun e w' ⟨v,n,e1,_,_,_,k⟩=>⟨v,by rw [e1,hb],k⟩
theorem short_yes (F:ConL CS) (p:PodV) (nd:Int) (h:CS w d q M L X w1) (hg:ErrT w1) (hp:PodIs w1 p) (hn:I64 nd) (hd:d≤64) (hpm:p.m≤1000) (hm:M.length≤100) (hl:L.length≤100) (hb:shortB p nd M d = true):Calls Tryz.prog 18 #[.pointer (some ⟨q,0,none⟩),p.val,.int .i64 nd] w1 fun e w'=>∃ v,e = .returned v∧Row w' v d (shortZ p nd M L)∧Keep w1 w' :=
  (F.short p nd h hg hp hn hd hpm hm hl).mono fun e w' ⟨v,n,e1,e2,_,r,k⟩=>⟨v,e1,by rw [e2 hb] at r;exact r,k⟩
end
set_option maxRecDepth 100000 in
set_option maxHeartbeats 4000000 in
theorem awake_true {CS:PredC} (C:Con CS) (N:NewXOk CS) (F:ConL CS):AwOk:=by
  intro W0 hg
  have hg0:=Lib.hid hg
  replace hg:=Lib.hid hg
  have KW0:Hid (Keep W0 W0):=Keep.refl _
  have cN:Hid (Calls Tryz.prog 25 #[.int .i64 1] W0 fun e w'=>∃ q,e = .returned (.pointer (some ⟨q,0,none⟩))∧CS W0 1 q [] [] (fun _=>False) w'∧Keep W0 w'):=N 1 W0 W0 _ (Keep.refl _) (fun _ h=>h.elim) (by omega)
  go_enter Tryz.func9,Tryz.ntmps9
  go_wp2_with fail
  refine cN.out.mono ?_
  rintro e w1 ⟨q,rfl,o1,_⟩
  replace o1:=Lib.hid o1
  have Kw1:Hid (Keep W0 w1):=C.kp o1.out
  clear cN
  obtain ⟨ba,hba⟩:∃ b,b = w1.heap.size:=⟨_,rfl⟩
  obtain ⟨Wa,hWa⟩:∃ W,W = w1.alloc (.cells #[.int .i64 5] 2):=⟨_,rfl⟩
  have ka:Hid (Keep w1 Wa):=by rw [hWa];exact Keep.one _ _
  have Ba:Hid (Wa.heap[ba]? = some (.cells #[.int .i64 5] 2 (0,0))):=by show _ = _;rw [hWa,hba];exact heap_alloc_new _ _
  have cc:=Lib.hid (aw_node C (C.keep o1.out ka.out) hg0.out Ba.out (k:=7) (z:=5) (by unfold I64;omega) (by omega) (by decide) (by decide))
  go_wp2_with fail
  rw [← hWa,← hba]
  replace hWa:=Lib.hid hWa
  replace hba:=Lib.hid hba
  refine cc.out.mono ?_
  rintro e w2 ⟨rfl,o2⟩
  clear cc
  replace o2:=Lib.hid o2
  obtain ⟨bs,hbs⟩:∃ b,b = w2.heap.size:=⟨_,rfl⟩
  obtain ⟨Ws,hWs⟩:∃ W,W = w2.alloc (.cells #[.int .i64 3] 2):=⟨_,rfl⟩
  have ks:Hid (Keep w2 Ws):=by rw [hWs];exact Keep.one _ _
  have Bs:Hid (Ws.heap[bs]? = some (.cells #[.int .i64 3] 2 (0,0))):=by show _ = _;rw [hWs,hbs];exact heap_alloc_new _ _
  have cc:=Lib.hid (aw_sub C (C.keep o2.out ks.out) hg0.out Bs.out (k:=1) (p:=0) (z:=3) (by unfold I64;omega) (by unfold I64;omega) (by omega) (by decide) (by decide))
  go_wp2_with fail
  rw [← hWs,← hbs]
  replace hWs:=Lib.hid hWs
  replace hbs:=Lib.hid hbs
  refine cc.out.mono ?_
  rintro e w3 ⟨r,rfl,o3⟩
  clear cc
  replace o3:=Lib.hid o3
  have cc:=Lib.hid (aw_bind C o3.out hg0.out 1 7 (by unfold I64;omega) (by unfold I64;omega) (by decide) (by decide) (by decide +kernel) (L2:=awL) rfl)
  go_wp2_with fail
  refine cc.out.mono ?_
  rintro e w4 ⟨r2,rfl,o4⟩
  clear cc
  replace o4:Hid (CS W0 1 q awM awL (fun _=>False) w4):=o4
  obtain ⟨br,hbr⟩:∃ b,b = w4.heap.size:=⟨_,rfl⟩
  obtain ⟨bp,hbp⟩:∃ b,b = w4.heap.size + 1:=⟨_,rfl⟩
  obtain ⟨p,hp⟩:∃ p,p = lq 2 0 3 (some ⟨br,0,none⟩) 1:=⟨_,rfl⟩
  obtain ⟨Wp,hWp⟩:∃ W,W = (w4.alloc (.cells #[.int .i64 3] 2)).alloc (.cells (podB p) 26):=⟨_,rfl⟩
  have s4:(w4.alloc (.cells #[.int .i64 3] 2)).heap.size = w4.heap.size + 1:=World.size_alloc _ _
  have kp:Hid (Keep w4 Wp):=by rw [hWp];exact (Keep.one _ _).alloc _
  have Br:Hid (Wp.heap[br]? = some (.cells #[.int .i64 3] 2 (0,0))):=by show _ = _;rw [hWp,hbr];exact (Keep.one _ _).block (heap_alloc_new _ _)
  have Bp:Hid (Wp.heap[bp]? = some (.cells (podB p) 26 (0,0))):=by show _ = _;rw [hWp,hbp,← s4];exact heap_alloc_new _ _
  have KWp:Hid (Keep W0 Wp):=(C.kp o4.out).trans kp.out
  have oWp:=Lib.hid (C.keep o4.out kp.out)
  have pis:Hid (∀ Wz,Keep Wp Wz→PodIs Wz p):=fun Wz kk=>by
    rw [hp]
    exact lq_is (by unfold I64;omega) (by unfold I64;omega) (rd_one (Keep.block kk Br.out) (by omega)) (fun e=>by cases e)
  have X0:=blk9 Bp.out
  have x0:=X0.e0;have x1:=X0.e1;have x2:=X0.e2;have x3:=X0.e3;have x4:=X0.e4;have x5:=X0.e5;have x6:=X0.e6;have x7:=X0.e7;have x8:=X0.e8
  clear X0
  have cc:=Lib.hid (left_yes F p 7 oWp.out (hg0.out.keep KWp.out) (pis.out Wp (Keep.refl _)) (by unfold I64;omega) (by omega) (by decide) (by decide) (by rw [hp];exact aw_left _ _))
  have KP:Hid (Keep Wp Wp):=Keep.refl _
  have hp2:=hp
  have hWp2:=hWp
  unfold podB at hWp
  rw [hp] at hWp
  unfold lq at hWp
  simp only at hWp
  rw [hbr] at hWp
  rw [hWp] at x0 x1 x2 x3 x4 x5 x6 x7 x8
  rw [hbp] at x0 x1 x2 x3 x4 x5 x6 x7 x8
  rw [hp] at x0 x1 x2 x3 x4 x5 x6 x7 x8
  unfold lq at x0 x1 x2 x3 x4 x5 x6 x7 x8
  simp only at x0 x1 x2 x3 x4 x5 x6 x7 x8
  rw [hbr] at x4
  replace hWp2:=Lib.hid hWp2
  replace hp:=Lib.hid hp
  replace hp2:=Lib.hid hp2
  replace s4:=Lib.hid s4
  unfold PodV.val at cc
  rw [hp2.out] at cc
  unfold lq at cc
  simp only at cc
  go_wp2_with fail
  rw [← hWp,← hbp,← hbr]
  replace hWp:=Lib.hid hWp
  replace hbp:=Lib.hid hbp
  replace hbr:=Lib.hid hbr
  clear x0 x1 x2 x3 x4 x5 x6 x7 x8
  refine cc.out.mono ?_
  rintro e w5 ⟨v1,rfl,R1,kk⟩
  clear cc
  have K5:Hid (Keep Wp w5):=kk
  have Kw5:Hid (Keep W0 w5):=KWp.out.trans kk
  have o5:=Lib.hid (C.keep oWp.out kk)
  replace R1:=Lib.hid R1
  clear kk
  have hp3:=hp2.out
  subst hp3
  have X0:=blk9 (x:=(lq 2 0 3 (some ⟨br,0,none⟩) 1)) (Keep.block K5.out Bp.out)
  have x0:=X0.e0;have x1:=X0.e1;have x2:=X0.e2;have x3:=X0.e3;have x4:=X0.e4;have x5:=X0.e5;have x6:=X0.e6;have x7:=X0.e7;have x8:=X0.e8
  clear X0
  unfold lq at x0 x1 x2 x3 x4 x5 x6 x7 x8
  simp only at x0 x1 x2 x3 x4 x5 x6 x7 x8
  have cc:=Lib.hid (left_no F (lq 2 0 3 (some ⟨br,0,none⟩) 1) 8 o5.out (hg0.out.keep Kw5.out) (pis.out w5 K5.out) (by unfold I64;omega) (by omega) (by decide) (by decide) (aw_left8 _ _))
  unfold PodV.val lq at cc
  simp only at cc
  go_wp2_with fail
  refine cc.out.mono ?_
  rintro e w6 ⟨v2,rfl,kk⟩
  clear cc
  clear x0 x1 x2 x3 x4 x5 x6 x7 x8
  have K6:Hid (Keep Wp w6):=K5.out.trans (kk)
  have Kw6:Hid (Keep W0 w6):=Kw5.out.trans (kk)
  have o6:=Lib.hid (C.keep o5.out (kk))
  replace R1:=Lib.hid (R1.out.keep (kk))
  clear kk
  have X0:=blk9 (x:=(lq 2 0 3 (some ⟨br,0,none⟩) 1)) (Keep.block K6.out Bp.out)
  have x0:=X0.e0;have x1:=X0.e1;have x2:=X0.e2;have x3:=X0.e3;have x4:=X0.e4;have x5:=X0.e5;have x6:=X0.e6;have x7:=X0.e7;have x8:=X0.e8
  clear X0
  unfold lq at x0 x1 x2 x3 x4 x5 x6 x7 x8
  simp only at x0 x1 x2 x3 x4 x5 x6 x7 x8
  have cc:=Lib.hid (show Calls Tryz.prog 14 #[.pointer (some ⟨q,0,none⟩),(lq 2 0 3 (some ⟨br,0,none⟩) 1).val,.int .i64 7,.slice none 0 0] w6 (fun e w'=>e = .returned (.bool false)∧Keep w6 w') from by have h:=F.fits (lq 2 0 3 (some ⟨br,0,none⟩) 1) 7 none 0 0 no o6.out (hg0.out.keep Kw6.out) (pis.out w6 K6.out) (by unfold I64;omega) (SetOf.nil _ _) (by omega) (by omega) (by show (1:Nat)≤1000;omega) (by decide) (by decide);rw [aw_f1 _ _] at h;exact h)
  unfold PodV.val lq at cc
  simp only at cc
  go_wp2_with fail
  refine cc.out.mono ?_
  rintro e w7 ⟨rfl,kk⟩
  clear cc
  clear x0 x1 x2 x3 x4 x5 x6 x7 x8
  have K7:Hid (Keep Wp w7):=K6.out.trans (kk)
  have Kw7:Hid (Keep W0 w7):=Kw6.out.trans (kk)
  have o7:=Lib.hid (C.keep o6.out (kk))
  replace R1:=Lib.hid (R1.out.keep (kk))
  clear kk
  obtain ⟨bi,hbi⟩:∃ b,b = w7.heap.size:=⟨_,rfl⟩
  obtain ⟨Wi,hWi⟩:∃ W,W = w7.alloc (.cells #[.int .i64 1] 3):=⟨_,rfl⟩
  have ki:Hid (Keep w7 Wi):=by rw [hWi];exact Keep.one _ _
  have Bi:Hid (Wi.heap[bi]? = some (.cells #[.int .i64 1] 3 (0,0))):=by show _ = _;rw [hWi,hbi];exact heap_alloc_new _ _
  have X0:=blk9 (x:=(lq 2 0 3 (some ⟨br,0,none⟩) 1)) (Keep.block K7.out Bp.out)
  have x0:=X0.e0;have x1:=X0.e1;have x2:=X0.e2;have x3:=X0.e3;have x4:=X0.e4;have x5:=X0.e5;have x6:=X0.e6;have x7:=X0.e7;have x8:=X0.e8
  clear X0
  unfold lq at x0 x1 x2 x3 x4 x5 x6 x7 x8
  simp only at x0 x1 x2 x3 x4 x5 x6 x7 x8
  have cc:=Lib.hid (show Calls Tryz.prog 14 #[.pointer (some ⟨q,0,none⟩),(lq 2 0 3 (some ⟨br,0,none⟩) 1).val,.int .i64 7,.slice (some ⟨bi,0,none⟩) 1 1] Wi (fun e w'=>e = .returned (.bool true)∧Keep Wi w') from by have h:=F.fits (lq 2 0 3 (some ⟨br,0,none⟩) 1) 7 (some ⟨bi,0,none⟩) 1 1 (fun k=>decide (k = 1)) (C.keep o7.out ki.out) (hg0.out.keep (Kw7.out.trans ki.out)) (pis.out Wi (K7.out.trans ki.out)) (by unfold I64;omega) (set_one Bi.out) (by omega) (by omega) (by show (1:Nat)≤1000;omega) (by decide) (by decide);rw [aw_f2 _ _] at h;exact h)
  unfold PodV.val lq at cc
  simp only at cc
  go_wp2_with fail
  rw [← hWi,← hbi]
  replace hWi:=Lib.hid hWi
  replace hbi:=Lib.hid hbi
  refine cc.out.mono ?_
  rintro e w8 ⟨rfl,kk⟩
  clear cc
  clear x0 x1 x2 x3 x4 x5 x6 x7 x8
  have K8:Hid (Keep Wp w8):=K7.out.trans (ki.out.trans kk)
  have Kw8:Hid (Keep W0 w8):=Kw7.out.trans (ki.out.trans kk)
  have o8:=Lib.hid (C.keep o7.out (ki.out.trans kk))
  replace R1:=Lib.hid (R1.out.keep (ki.out.trans kk))
  clear kk
  have X0:=blk9 (x:=(lq 2 0 3 (some ⟨br,0,none⟩) 1)) (Keep.block K8.out Bp.out)
  have x0:=X0.e0;have x1:=X0.e1;have x2:=X0.e2;have x3:=X0.e3;have x4:=X0.e4;have x5:=X0.e5;have x6:=X0.e6;have x7:=X0.e7;have x8:=X0.e8
  clear X0
  unfold lq at x0 x1 x2 x3 x4 x5 x6 x7 x8
  simp only at x0 x1 x2 x3 x4 x5 x6 x7 x8
  have cc:=Lib.hid (short_yes F (lq 2 0 3 (some ⟨br,0,none⟩) 1) 7 o8.out (hg0.out.keep Kw8.out) (pis.out w8 K8.out) (by unfold I64;omega) (by omega) (by show (1:Nat)≤1000;omega) (by decide) (by decide) (aw_sh _ _))
  unfold PodV.val lq at cc
  simp only at cc
  go_wp2_with fail
  refine cc.out.mono ?_
  rintro e w9 ⟨v3,rfl,R3,kk⟩
  clear cc
  clear x0 x1 x2 x3 x4 x5 x6 x7 x8
  have K9:Hid (Keep Wp w9):=K8.out.trans (kk)
  have Kw9:Hid (Keep W0 w9):=Kw8.out.trans (kk)
  have o9:=Lib.hid (C.keep o8.out (kk))
  replace R1:=Lib.hid (R1.out.keep (kk))
  replace R3:=Lib.hid R3
  clear kk
  obtain ⟨bu,hbu⟩:∃ b,b = w9.heap.size:=⟨_,rfl⟩
  obtain ⟨Wu,hWu⟩:∃ W,W = w9.alloc (.cells #[.int .i64 1] 2):=⟨_,rfl⟩
  have ku:Hid (Keep w9 Wu):=by rw [hWu];exact Keep.one _ _
  have Bu:Hid (Wu.heap[bu]? = some (.cells #[.int .i64 1] 2 (0,0))):=by show _ = _;rw [hWu,hbu];exact heap_alloc_new _ _
  have cc:=Lib.hid (row_same (R3.out.keep ku.out) (row_one Bu.out (by omega)) (aw_e1 _ _))
  go_wp2_with fail
  rw [← hWu,← hbu]
  replace hWu:=Lib.hid hWu
  replace hbu:=Lib.hid hbu
  refine cc.out.mono ?_
  rintro e w10 ⟨rfl,kk⟩
  clear cc
  have K10:Hid (Keep Wp w10):=K9.out.trans (ku.out.trans kk)
  have Kw10:Hid (Keep W0 w10):=Kw9.out.trans (ku.out.trans kk)
  have o10:=Lib.hid (C.keep o9.out (ku.out.trans kk))
  replace R1:=Lib.hid (R1.out.keep (ku.out.trans kk))
  clear kk
  have X0:=blk9 (x:=(lq 2 0 3 (some ⟨br,0,none⟩) 1)) (Keep.block K10.out Bp.out)
  have x0:=X0.e0;have x1:=X0.e1;have x2:=X0.e2;have x3:=X0.e3;have x4:=X0.e4;have x5:=X0.e5;have x6:=X0.e6;have x7:=X0.e7;have x8:=X0.e8
  clear X0
  unfold lq at x0 x1 x2 x3 x4 x5 x6 x7 x8
  simp only at x0 x1 x2 x3 x4 x5 x6 x7 x8
  have cc:=Lib.hid (show Calls Tryz.prog 12 #[.pointer (some ⟨q,0,none⟩),(lq 2 0 3 (some ⟨br,0,none⟩) 1).val,.int .i64 7,.slice none 0 0] w10 (fun e w'=>∃ v,e = .returned v∧Row w' v 1 (ofZ no (lq 2 0 3 (some ⟨br,0,none⟩) 1) 7 awM awL)∧Keep w10 w') from (F.of (lq 2 0 3 (some ⟨br,0,none⟩) 1) 7 none 0 0 no o10.out (hg0.out.keep Kw10.out) (pis.out w10 K10.out) (by unfold I64;omega) (SetOf.nil _ _) (by omega) (by omega) (by decide) (by decide)).mono fun e w' ⟨v,h1,h2,_,h3⟩=>⟨v,h1,h2,h3⟩)
  unfold PodV.val lq at cc
  simp only at cc
  go_wp2_with fail
  refine cc.out.mono ?_
  rintro e w11 ⟨v4,rfl,R4,kk⟩
  clear cc
  clear x0 x1 x2 x3 x4 x5 x6 x7 x8
  have K11:Hid (Keep Wp w11):=K10.out.trans (kk)
  have Kw11:Hid (Keep W0 w11):=Kw10.out.trans (kk)
  have o11:=Lib.hid (C.keep o10.out (kk))
  replace R1:=Lib.hid (R1.out.keep (kk))
  replace R4:=Lib.hid R4
  clear kk
  obtain ⟨bv,hbv⟩:∃ b,b = w11.heap.size:=⟨_,rfl⟩
  obtain ⟨Wv,hWv⟩:∃ W,W = w11.alloc (.cells #[.int .i64 3] 2):=⟨_,rfl⟩
  have kv:Hid (Keep w11 Wv):=by rw [hWv];exact Keep.one _ _
  have Bv:Hid (Wv.heap[bv]? = some (.cells #[.int .i64 3] 2 (0,0))):=by show _ = _;rw [hWv,hbv];exact heap_alloc_new _ _
  have cc:=Lib.hid (row_same (R4.out.keep kv.out) (row_one Bv.out (by omega)) (aw_e2 _ _))
  go_wp2_with fail
  rw [← hWv,← hbv]
  replace hWv:=Lib.hid hWv
  replace hbv:=Lib.hid hbv
  refine cc.out.mono ?_
  rintro e w12 ⟨rfl,kk⟩
  clear cc
  have K12:Hid (Keep Wp w12):=K11.out.trans (kv.out.trans kk)
  have Kw12:Hid (Keep W0 w12):=Kw11.out.trans (kv.out.trans kk)
  have o12:=Lib.hid (C.keep o11.out (kv.out.trans kk))
  replace R1:=Lib.hid (R1.out.keep (kv.out.trans kk))
  clear kk
  obtain ⟨bz,hbz⟩:∃ b,b = w12.heap.size:=⟨_,rfl⟩
  obtain ⟨Wz,hWz⟩:∃ W,W = w12.alloc (.cells #[.int .i64 2] 2):=⟨_,rfl⟩
  have kz:Hid (Keep w12 Wz):=by rw [hWz];exact Keep.one _ _
  have Bz:Hid (Wz.heap[bz]? = some (.cells #[.int .i64 2] 2 (0,0))):=by show _ = _;rw [hWz,hbz];exact heap_alloc_new _ _
  have cc:=Lib.hid (row_same (R1.out.keep kz.out) (row_one Bz.out (by omega)) (aw_e3 _ _))
  go_wp2_with fail
  rw [← hWz,← hbz]
  replace hWz:=Lib.hid hWz
  replace hbz:=Lib.hid hbz
  refine cc.out.mono ?_
  rintro e w13 ⟨rfl,kk⟩
  clear cc
  have K13:Hid (Keep Wp w13):=K12.out.trans (kz.out.trans kk)
  have Kw13:Hid (Keep W0 w13):=Kw12.out.trans (kz.out.trans kk)
  have o13:=Lib.hid (C.keep o12.out (kz.out.trans kk))
  replace R1:=Lib.hid (R1.out.keep (kz.out.trans kk))
  clear kk
  have X0:=blk9 (x:=(lq 2 0 3 (some ⟨br,0,none⟩) 1)) (Keep.block K13.out Bp.out)
  have x0:=X0.e0;have x1:=X0.e1;have x2:=X0.e2;have x3:=X0.e3;have x4:=X0.e4;have x5:=X0.e5;have x6:=X0.e6;have x7:=X0.e7;have x8:=X0.e8
  clear X0
  unfold lq at x0 x1 x2 x3 x4 x5 x6 x7 x8
  simp only at x0 x1 x2 x3 x4 x5 x6 x7 x8
  have cc:=Lib.hid (F.none (lq 2 0 3 (some ⟨br,0,none⟩) 1) 7 none 0 0 w13)
  unfold PodV.val lq at cc
  simp only at cc
  go_wp2_with fail
  refine cc.out.mono ?_
  rintro e w14 ⟨rfl,kk⟩
  clear cc
  clear x0 x1 x2 x3 x4 x5 x6 x7 x8
  have K14:Hid (Keep Wp w14):=K13.out.trans (kk)
  have Kw14:Hid (Keep W0 w14):=Kw13.out.trans (kk)
  have o14:=Lib.hid (C.keep o13.out (kk))
  replace R1:=Lib.hid (R1.out.keep (kk))
  clear kk
  have X0:=blk9 (x:=(lq 2 0 3 (some ⟨br,0,none⟩) 1)) (Keep.block K14.out Bp.out)
  have x0:=X0.e0;have x1:=X0.e1;have x2:=X0.e2;have x3:=X0.e3;have x4:=X0.e4;have x5:=X0.e5;have x6:=X0.e6;have x7:=X0.e7;have x8:=X0.e8
  clear X0
  unfold lq at x0 x1 x2 x3 x4 x5 x6 x7 x8
  simp only at x0 x1 x2 x3 x4 x5 x6 x7 x8
  have cc:=Lib.hid (show Calls Tryz.prog 14 #[.pointer (some ⟨q,0,none⟩),(lq 2 0 3 (some ⟨br,0,none⟩) 1).val,.int .i64 8,.slice none 0 0] w14 (fun e w'=>e = .returned (.bool false)∧Keep w14 w') from by have h:=F.fits (lq 2 0 3 (some ⟨br,0,none⟩) 1) 8 none 0 0 no o14.out (hg0.out.keep Kw14.out) (pis.out w14 K14.out) (by unfold I64;omega) (SetOf.nil _ _) (by omega) (by omega) (by show (1:Nat)≤1000;omega) (by decide) (by decide);rw [aw_f3 _ _] at h;exact h)
  unfold PodV.val lq at cc
  simp only at cc
  go_wp2_with fail
  refine cc.out.mono ?_
  rintro e w15 ⟨rfl,kk⟩
  clear cc
  clear x0 x1 x2 x3 x4 x5 x6 x7 x8
  have K15:Hid (Keep Wp w15):=K14.out.trans (kk)
  have Kw15:Hid (Keep W0 w15):=Kw14.out.trans (kk)
  have o15:=Lib.hid (C.keep o14.out (kk))
  replace R1:=Lib.hid (R1.out.keep (kk))
  clear kk
  go_wp2
  go_ret
  exact ⟨rfl,Kw15.out⟩
end Go.Proofs.YtclfbplbccehkaaGreatDoor.T16

