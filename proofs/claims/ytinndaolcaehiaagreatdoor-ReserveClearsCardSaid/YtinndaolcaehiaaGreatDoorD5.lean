/-
  The reference's Few, SamePod, Same, Find over pods. No condition.
  The store's pods as a list: what Submit and Apply do to it. No condition, no walk.
  What the laws ask of the pods' functions; the reference's list beside them. No condition, no walk.
-/
import Derived.Test.YtinndaolcaehiaaGreatDoorD4
import Derived.Deep.QuietTactic
import Derived.BigQuiet
import Derived.Test.YtinndaolcaehiaaGreatDoorD2
namespace Go.Proofs.YtinndaolcaehiaaGreatDoor.T13
open Go.RowKit Go.Sort Go.Lib Go.Shelf V12
def FewP (P:Nat→PodV) (n:Nat):Prop:=n≤100∧∀ j,j < n→-1073741824≤(P j).p∧(P j).p≤1073741824∧(P j).m≤20
set_option maxRecDepth 100000 in
set_option maxHeartbeats 4000000 in
theorem rfew_fn (A:Option Addr) (n c:Nat) (P:Nat→PodV) (w:World) (hR:RdPods w A n P) (b:Bool) (hb:b = true ↔ FewP P n) :
    Calls Tryz.prog 10 #[.slice A n c] w fun e w'=>e = .returned (.bool b)∧w = w':=by
  have hn:=hR.small
  replace hR:=Lib.hid hR
  replace hb:=Lib.hid hb
  go_enter Tryz.func10,Tryz.ntmps10
  go_wp2
  go_loopg [3] n (fun gx s3 wr=>∃ j:Nat,j≤n∧gx = n - j∧s3 = .int .i64 j∧Hid (w = wr)∧Hid (∀ t,t < j→-1073741824≤(P t).p∧(P t).p≤1073741824∧(P t).m≤20))
  case atStart=>exact ⟨0,Nat.zero_le _,rfl,rfl,rfl,fun t ht=>absurd ht (Nat.not_lt_zero _)⟩
  case round =>
    obtain ⟨j,hj,rfl,rfl,G,I⟩:=hrel
    have G:=G.out
    subst G
    by_cases hlt:j < n
    · obtain ⟨bb,off,hA,ca⟩:=hR.out.adr (by omega)
      subst hA
      have q1:=pods_at bb off n c j hlt
      have X:=ca j hlt
      clear ca
      obtain ⟨x,hx⟩:∃ x,x = P j:=⟨_,rfl⟩
      rw [← hx] at X
      have no:Hid (¬ (-1073741824≤x.p∧x.p≤1073741824∧x.m≤20)→b = false):=fun h=>by
        cases hc:b with
        | false=>rfl
        | true=>exact absurd ((hb.out.1 hc).2 j hlt) (by rw [← hx];exact h)
      have x1:=X.e1
      have x4:=X.e4
      clear X
      have yes:Hid ((-1073741824≤x.p∧x.p≤1073741824∧x.m≤20)→∀ t,t < j + 1→-1073741824≤(P t).p∧(P t).p≤1073741824∧(P t).m≤20):=fun h t ht=>by
        by_cases e:t = j
        · rw [e,← hx];exact h
        · exact I.out t (by omega)
      replace hx:=Lib.hid hx
      by_cases h1:x.p < -1073741824
      · have e:=Lib.hid (no.out (by omega))
        go_wp2
        go_ret
        exact ⟨by rw [e.out];rfl,rfl⟩
      · by_cases h2:1073741824 < x.p
        · have e:=Lib.hid (no.out (by omega))
          go_wp2
          go_ret
          exact ⟨by rw [e.out];rfl,rfl⟩
        · by_cases h3:20 < x.m
          · have e:=Lib.hid (no.out (by omega))
            have h3z:(20:Int) < (x.m:Int):=by omega
            go_wp2
            go_ret
            exact ⟨by rw [e.out];rfl,rfl⟩
          · have e:=Lib.hid (yes.out ⟨by omega,by omega,by omega⟩)
            have h3z:¬ (20:Int) < (x.m:Int):=by omega
            go_wp2
            go_roundg (n - (j + 1))
            case measure=>omega
            case rel=>exact ⟨j + 1,hlt,rfl,by go_num,rfl,e⟩
    · obtain rfl:j = n:=by omega
      by_cases h1:j≤100
      · have e:Hid (b = true):=hb.out.2 ⟨h1,I.out⟩
        have hz:(j:Int)≤100:=by omega
        go_wp2
        go_ret
        exact ⟨by rw [e.out];rfl,rfl⟩
      · have e:Hid (b = false):=by
          cases hc:b with
          | false=>exact rfl
          | true=>exact absurd (hb.out.1 hc).1 h1
        have hz:¬ (j:Int)≤100:=by omega
        go_wp2
        go_ret
        exact ⟨by rw [e.out];rfl,rfl⟩
def findN (P:Nat→PodV) (id:Int):Nat→Int
  | 0=>-1
  | n + 1=>if 0≤findN P id n then findN P id n else if (P n).k = id then (n:Int) else -1
theorem find_no {P:Nat→PodV} {id:Int}:∀ {n},(∀ t,t < n→(P t).k≠id)→findN P id n = -1
  | 0,_=>rfl
  | n + 1,h=>by rw [findN,find_no (fun t ht=>h t (by omega)),if_neg (by omega),if_neg (h n (by omega))]
theorem find_at {P:Nat→PodV} {id:Int} {j:Nat} (hj:(P j).k = id) (h:∀ t,t < j→(P t).k≠id):∀ {n},j < n→findN P id n = (j:Int)
  | n + 1,hn=>by
    by_cases e:j = n
    · subst e
      rw [findN,find_no h,if_neg (by omega),if_pos hj]
    · rw [findN,find_at hj h (n:=n) (by omega),if_pos (by omega)]
theorem find_iff {P:Nat→PodV} {id:Int}:∀ {n},0≤findN P id n ↔ ∃ j,j < n∧(P j).k = id
  | 0=>by
    constructor
    · intro h;exact absurd h (show ¬ (0:Int)≤-1 by decide)
    · rintro ⟨j,h,_⟩;omega
  | n + 1=>by
    have ih:=find_iff (P:=P) (id:=id) (n:=n)
    rw [findN]
    by_cases e:0≤findN P id n
    · rw [if_pos e]
      obtain ⟨j,h1,h2⟩:=ih.1 e
      exact ⟨fun _=>⟨j,by omega,h2⟩,fun _=>e⟩
    · rw [if_neg e]
      by_cases e2:(P n).k = id
      · rw [if_pos e2]
        exact ⟨fun _=>⟨n,by omega,e2⟩,fun _=>by omega⟩
      · rw [if_neg e2]
        constructor
        · intro h;exact absurd h (by decide)
        · rintro ⟨j,h1,h2⟩
          by_cases e3:j = n
          · rw [e3] at h2;exact absurd h2 e2
          · exact absurd (ih.2 ⟨j,by omega,h2⟩) e
theorem find_lt {P:Nat→PodV} {id:Int}:∀ {n},0≤findN P id n→∃ j,j < n∧findN P id n = (j:Int)∧(P j).k = id
  | 0,h=>absurd h (show ¬ (0:Int)≤-1 by decide)
  | n + 1,h=>by
    rw [findN] at h ⊢
    by_cases e:0≤findN P id n
    · rw [if_pos e]
      obtain ⟨j,h1,h2,h3⟩:=find_lt e
      exact ⟨j,by omega,h2,h3⟩
    · rw [if_neg e] at h ⊢
      by_cases e2:(P n).k = id
      · rw [if_pos e2]
        exact ⟨n,by omega,rfl,e2⟩
      · rw [if_neg e2] at h;exact absurd h (by decide)
set_option maxRecDepth 100000 in
set_option maxHeartbeats 4000000 in
theorem rfind_fn (A:Option Addr) (n c:Nat) (P:Nat→PodV) (id:Int) (w:World) (hR:RdPods w A n P):Calls Tryz.prog 74 #[.slice A n c,.int .i64 id] w fun e w'=>e = .returned (.int .i64 (findN P id n))∧w = w':=by
  have hn:=hR.small
  replace hR:=Lib.hid hR
  obtain ⟨r,hr⟩:∃ r,r = findN P id n:=⟨_,rfl⟩
  rw [← hr]
  replace hr:=Lib.hid hr
  go_enter Tryz.func74,Tryz.ntmps74
  go_wp2
  go_loopg [5] n (fun gx s5 wr=>∃ j:Nat,j≤n∧gx = n - j∧s5 = .int .i64 j∧wr = w∧Hid (∀ t,t < j→(P t).k≠id))
  case atStart=>exact ⟨0,Nat.zero_le _,rfl,rfl,rfl,fun t h=>absurd h (Nat.not_lt_zero _)⟩
  case round =>
    obtain ⟨j,hj,rfl,rfl,rfl,NO⟩:=hrel
    by_cases hlt:j < n
    · obtain ⟨b,off,hA,ca⟩:=hR.out.adr (by omega)
      subst hA
      have q1:=pods_at b off n c j hlt
      have x0:=(ca j hlt).e0
      clear ca
      by_cases hk:(P j).k = id
      · have e:r = (j:Int):=by rw [hr.out];exact find_at hk NO.out hlt
        obtain ⟨k,hkk⟩:∃ k,k = (P j).k:=⟨_,rfl⟩
        rw [← hkk] at x0 hk
        replace hkk:=Lib.hid hkk
        subst hk
        subst e
        go_wp2
        go_ret
        exact ⟨rfl,rfl⟩
      · have NO2:Hid (∀ t,t < j + 1→(P t).k≠id):=fun t ht=>by
          by_cases e:t = j
          · rw [e];exact hk
          · exact NO.out t (by omega)
        obtain ⟨k,hkk⟩:∃ k,k = (P j).k:=⟨_,rfl⟩
        rw [← hkk] at x0 hk
        replace hkk:=Lib.hid hkk
        go_wp2
        go_roundg (n - (j + 1))
        case measure=>omega
        case rel=>exact ⟨j + 1,hlt,rfl,by go_num,rfl,NO2⟩
    · obtain rfl:j = n:=by omega
      have e:r = -1:=by rw [hr.out];exact find_no NO.out
      subst e
      go_wp2
      go_ret
      exact ⟨rfl,rfl⟩
end Go.Proofs.YtinndaolcaehiaaGreatDoor.T13

namespace Go.Proofs.YtinndaolcaehiaaGreatDoor.T13
open Go.RowKit Go.Sort Go.Lib V12
def nx (p e:Int):Int :=
  if e = 1 then (if p = 1∨p = 2 then 3 else 0)
  else if e = 2 then (if p = 1∨p = 2 then 2 else 0)
  else if e = 3 then (if p = 2 then 1 else 0)
  else if e = 4 then (if p = 3 then 4 else 0)
  else if e = 5 then (if 1≤p∧p≤4 then 5 else 0) else 0
theorem nx_rng {p e:Int} (h:nx p e≠0):1≤nx p e∧nx p e≤5:=by
  unfold nx at h ⊢
  repeat' split
  all_goals first | omega | (exfalso;simp_all)
def keys (L:List PodV):List Int:=L.map (·.k)
def getL (L:List PodV) (id:Int):PodV:=(L.find? fun y=>decide (y.k = id)).getD zpod
def subP (x:PodV) (a:Int):PodV:={ nm x with a:=a,h:=1,d:=-1,t:=-1 }
def subC (L:List PodV) (s:Int) (x:PodV):Int:=if x.k ∈ keys L then 6 else if s≤L.length then 7 else 0
def subL (L:List PodV) (s:Int) (x:PodV):List PodV:=if subC L s x = 0 then L ++ [subP x L.length] else L
def appP (x:PodV) (e nd dl:Int):PodV:={ x with h:=nx x.h e,t:=if e = 4 then dl else -1,d:=if e = 1∨e = 2 then nd else if e = 3∨e = 5 then -1 else x.d }
def appC (L:List PodV) (id e:Int):Int:=if id ∉ keys L then 5 else if nx (getL L id).h e = 0 then 8 else 0
def appL (L:List PodV) (id e nd dl:Int):List PodV:=if appC L id e = 0 then L.map fun y=>if y.k = id then appP y e nd dl else y else L
def onB (nd:Int) (x:PodV):Bool:=decide (x.d = nd∧2≤x.h∧x.h≤4)
def withB (ph:Int) (x:PodV):Bool:=decide (x.h = ph)
theorem appP_k (x:PodV) (e nd dl:Int):(appP x e nd dl).k = x.k:=rfl
theorem appP_h (x:PodV) (e nd dl:Int):(appP x e nd dl).h = nx x.h e:=rfl
theorem nm_app (x:PodV) (e nd dl:Int):nm (appP x e nd dl) = appP (nm x) e nd dl:=rfl
theorem nm_k (x:PodV):(nm x).k = x.k:=rfl
theorem keys_nm (L:List PodV):keys (L.map nm) = keys L:=by unfold keys;rw [List.map_map];rfl
theorem get_nm (L:List PodV) (id:Int):nm (getL L id) = getL (L.map nm) id:=by
  unfold getL
  rw [List.find?_map]
  show nm ((L.find? _).getD zpod) = (Option.map nm (L.find? _)).getD zpod
  have:((fun y=>decide (y.k = id)) ∘ nm:PodV→Bool) = fun y=>decide (y.k = id):=rfl
  rw [this]
  cases L.find? fun y=>decide (y.k = id) <;> rfl
theorem get_none {L:List PodV} {id:Int} (h:id ∉ keys L):getL L id = zpod:=by
  unfold getL
  rw [List.find?_eq_none.2 fun x hx=>by simpa using fun e=>h (by unfold keys;rw [← e];exact List.mem_map_of_mem hx)]
  rfl
theorem get_some {L:List PodV} {id:Int} (h:id ∈ keys L):getL L id ∈ L∧(getL L id).k = id:=by
  unfold getL
  obtain ⟨y,hy,e⟩:=List.mem_map.1 h
  cases hf:L.find? fun y=>decide (y.k = id) with
  | none=>exact absurd (List.find?_eq_none.1 hf y hy) (by simpa using e)
  | some z=>exact ⟨List.mem_of_find?_eq_some hf,by simpa using List.find?_some hf⟩
theorem get_first {P:Nat→PodV} {n j:Nat} {id:Int} (hj:j < n) (hk:(P j).k = id) (h:∀ t,t < j→(P t).k≠id):getL (lst P n) id = P j:=by
  unfold getL
  have e:(lst P n).find? (fun y=>decide (y.k = id)) = some (P j):=by
    rw [List.find?_eq_some_iff_getElem]
    refine ⟨by simpa using hk,j,by rw [lst_len];exact hj,?_,fun t ht=>?_⟩
    · have:=lst_get (Q:=P) hj
      rw [List.getElem?_eq_getElem (by rw [lst_len];exact hj)] at this
      exact Option.some.inj this
    · have h1:=lst_get (Q:=P) (n:=n) (j:=t) (by omega)
      rw [List.getElem?_eq_getElem (by rw [lst_len];omega)] at h1
      rw [Option.some.inj h1]
      simpa using h t ht
  rw [e]
  rfl
structure LOk (L:List PodV):Prop where
  nod:(keys L).Nodup
  arr:∀ j (h:j < L.length),(L[j]).a = j
  ph:∀ x ∈ L,1≤x.h∧x.h≤5
  nm:∀ x ∈ L,nm x = x
theorem LOk.nil:LOk []:=⟨List.nodup_nil,fun j h=>absurd h (Nat.not_lt_zero _),(fun x h=>by cases h),fun x h=>by cases h⟩
theorem get_mem {L:List PodV} (h:LOk L) {x:PodV} (hx:x ∈ L):getL L x.k = x:=by
  have hk:x.k ∈ keys L:=List.mem_map_of_mem hx
  obtain ⟨h1,h2⟩:=get_some hk
  obtain ⟨i,hi,e1⟩:=List.mem_iff_getElem.1 h1
  obtain ⟨j,hj,e2⟩:=List.mem_iff_getElem.1 hx
  have:i = j:=by
    have hn:=h.nod
    unfold keys at hn
    refine (List.getElem_inj (h₀:=by rw [List.length_map];exact hi) (h₁:=by rw [List.length_map];exact hj) hn).1 ?_
    rw [List.getElem_map,List.getElem_map,e1,e2]
    exact h2
  subst this
  rw [← e1,← e2]
theorem subL_ok {L:List PodV} {s:Int} {x:PodV} (h:LOk L):LOk (subL L s x):=by
  unfold subL
  split
  · rename_i h0
    have hk:x.k ∉ keys L:=fun hk=>by
      unfold subC at h0
      rw [if_pos hk] at h0
      exact absurd h0 (by decide)
    refine ⟨?_,fun j hj=>?_,fun y hy=>?_,fun y hy=>?_⟩
    · unfold keys
      rw [List.map_append,List.nodup_append]
      refine ⟨h.nod,by simp,fun a ha b hb e=>?_⟩
      simp only [List.map_cons,List.map_nil,List.mem_singleton] at hb
      rw [e,hb] at ha
      exact hk ha
    · rw [List.getElem_append]
      split
      · rename_i hlt;exact h.arr j hlt
      · rename_i hge
        rw [List.length_append,List.length_singleton] at hj
        have:j = L.length:=by omega
        subst this
        simp
        rfl
    · rcases List.mem_append.1 hy with hy | hy
      · exact h.ph y hy
      · rw [List.mem_singleton.1 hy]
        exact ⟨by show (1:Int)≤1;omega,by show (1:Int)≤5;omega⟩
    · rcases List.mem_append.1 hy with hy | hy
      · exact h.nm y hy
      · rw [List.mem_singleton.1 hy];rfl
  · exact h
theorem appL_keys {L:List PodV} {id e nd dl:Int}:keys (appL L id e nd dl) = keys L:=by
  unfold appL
  split
  · unfold keys
    rw [List.map_map]
    refine List.map_congr_left fun y _=>?_
    show (if y.k = id then appP y e nd dl else y).k = y.k
    split <;> rfl
  · rfl
theorem appL_len {L:List PodV} {id e nd dl:Int}:(appL L id e nd dl).length = L.length:=by
  unfold appL
  split
  · rw [List.length_map]
  · rfl
theorem appL_ok {L:List PodV} {id e nd dl:Int} (h:LOk L):LOk (appL L id e nd dl):=by
  refine ⟨by rw [appL_keys];exact h.nod,fun j hj=>?_,fun y hy=>?_,fun y hy=>?_⟩
  · rw [appL_len] at hj
    have h1:=h.arr j hj
    unfold appL
    split
    · rw [List.getElem_map]
      split
      · exact h1
      · exact h1
    · exact h1
  · unfold appL at hy
    split at hy
    · rename_i h0
      obtain ⟨z,hz,rfl⟩:=List.mem_map.1 hy
      split
      · rename_i hk
        show 1≤nx z.h e∧nx z.h e≤5
        refine nx_rng fun hn=>?_
        unfold appC at h0
        have hm:id ∈ keys L:=by rw [← hk];exact List.mem_map_of_mem hz
        rw [if_neg (not_not_intro hm),← hk,get_mem h hz,if_pos hn] at h0
        exact absurd h0 (by decide)
      · exact h.ph z hz
    · exact h.ph y hy
  · unfold appL at hy
    split at hy
    · obtain ⟨z,hz,rfl⟩:=List.mem_map.1 hy
      split
      · rw [nm_app,h.nm z hz]
      · exact h.nm z hz
    · exact h.nm y hy
theorem subL_len (L:List PodV) (s:Int) (x:PodV):(subL L s x).length≤L.length + 1:=by
  unfold subL
  split
  · rw [List.length_append];exact Nat.le_refl _
  · omega
theorem LOk.sorted {L:List PodV} (h:LOk L):L.Pairwise fun x y=>x.a < y.a:=by
  rw [List.pairwise_iff_getElem]
  intro i j hi hj hij
  rw [h.arr i hi,h.arr j hj]
  omega
theorem LOk.filter {L:List PodV} (h:LOk L) (b:PodV→Bool):(L.filter b).Pairwise fun x y=>x.a < y.a:=h.sorted.filter b
theorem LOk.none {L:List PodV} (h:LOk L) {p:Int} (hp:p < 1∨5 < p):L.filter (withB p) = []:=by
  rw [List.filter_eq_nil_iff]
  intro x hx
  have:=h.ph x hx
  unfold withB
  simp
  omega
end Go.Proofs.YtinndaolcaehiaaGreatDoor.T13

namespace Go.Proofs.YtinndaolcaehiaaGreatDoor.T13
open Go.RowKit Go.Sort Go.Lib V12
def flt (c n:Int):Value:=(Base.fault c n).val
def fltC (c:Int):Value:=if c = 0 then .nilIface else flt c 0
abbrev Pred:=World→Int→Nat→List PodV→(Nat→Prop)→World→Prop
def rb (r:PodV) (i:Nat):Prop:=0 < r.m∧∃ o,r.A = some ⟨i,o,none⟩
structure Con (OS:Pred):Prop where
  kp:∀ {w s q L X w1},OS w s q L X w1→Keep w w1
  keep:∀ {w s q L X w1 w2},OS w s q L X w1→Keep w1 w2→OS w s q L X w2
  more:∀ {w s q L X w1 w2} {Z:Nat→Prop},OS w s q L X w1→Keep w1 w2→(∀ i,Z i→w1.heap.size≤i∧i < w2.heap.size)→OS w s q L (fun i=>X i∨Z i) w2
  less:∀ {w s q L X w1} {Z:Nat→Prop},OS w s q L X w1→(∀ i,Z i→X i)→OS w s q L Z w1
  write:∀ {w s q L X w1 w2},OS w s q L X w1→Keep w w2→w1.heap.size≤w2.heap.size→(∀ k,k < w1.heap.size→¬ X k→w2.heap[k]? = w1.heap[k]?)→OS w s q L X w2
  grow:∀ {w s q L X w1 w2} {Z:Nat→Prop},OS w s q L X w1→Keep w w2→w1.heap.size≤w2.heap.size→(∀ k,k < w1.heap.size→¬ X k→w2.heap[k]? = w1.heap[k]?)→(∀ i,Z i→w1.heap.size≤i∧i < w2.heap.size)→OS w s q L (fun i=>X i∨Z i) w2
  lt:∀ {w s q L X w1},OS w s q L X w1→∀ i,X i→i < w1.heap.size
  ok:∀ {w s q L X w1},OS w s q L X w1→LOk L
  new:∀ (s:Int) (w w0:World),Keep w w0→I64 s→Calls Tryz.prog 35 #[.int .i64 s] w0 fun e w'=>∃ q,e = .returned (.pointer (some ⟨q,0,none⟩))∧OS w s q [] (fun _=>False) w'∧Keep w0 w'
  submit:∀ {w s q L X w1} (x:PodV),OS w s q L X w1→ErrT w1→PodIs w1 x→x.m≤1000→L.length≤1000 →
    Calls Tryz.prog 39 #[.pointer (some ⟨q,0,none⟩),x.val] w1 fun e w'=>∃ r,e = .returned (.tuple #[r.val,fltC (subC L s x)])∧(subC L s x = 0→nm r = subP x L.length)∧(subC L s x≠0→nm r = zpod)∧PodIs w' r∧Req w' w1.heap.size r∧OS w s q (subL L s x) (fun i=>X i∨rb r i) w'∧∀ i,X i→w'.heap[i]? = w1.heap[i]?
  apply:∀ {w s q L X w1} (id e nd dl:Int),OS w s q L X w1→ErrT w1→I64 id→I64 e→I64 nd→I64 dl→(∀ y ∈ L,y.m≤1000)→L.length≤1000 →
    Calls Tryz.prog 31 #[.pointer (some ⟨q,0,none⟩),.int .i64 id,.int .i64 e,.int .i64 nd,.int .i64 dl] w1 fun e' w'=>∃ r,e' = .returned (.tuple #[r.val,fltC (appC L id e)])∧(appC L id e = 0→nm r = appP (getL L id) e nd dl)∧(appC L id e≠0→nm r = zpod)∧PodIs w' r∧Req w' w1.heap.size r∧OS w s q (appL L id e nd dl) (fun i=>X i∨rb r i) w'∧∀ i,X i→w'.heap[i]? = w1.heap[i]?
  get:∀ {w s q L X w1} (id:Int),OS w s q L X w1→I64 id→(∀ y ∈ L,y.m≤1000) →
    Calls Tryz.prog 29 #[.pointer (some ⟨q,0,none⟩),.int .i64 id] w1 fun e w'=>∃ r,e = .returned (.tuple #[r.val,.bool (decide (id ∈ keys L))])∧nm r = getL L id∧PodIs w' r∧Req w' w1.heap.size r∧Keep w1 w'
  all:∀ {w s q L X w1},OS w s q L X w1→(∀ y ∈ L,y.m≤1000)→L.length≤1000 →
    Calls Tryz.prog 73 #[.pointer (some ⟨q,0,none⟩)] w1 fun e w'=>∃ v S,e = .returned v∧RowP w' w1.heap.size v L.length S∧(lst S L.length).map nm = L∧Keep w1 w'
  on:∀ {w s q L X w1} (nd:Int),OS w s q L X w1→(∀ y ∈ L,y.m≤1000)→L.length≤1000 →
    Calls Tryz.prog 54 #[.pointer (some ⟨q,0,none⟩),.int .i64 nd] w1 fun e w'=>∃ v S,e = .returned v∧RowP w' w1.heap.size v (L.filter (onB nd)).length S∧(lst S (L.filter (onB nd)).length).map nm = L.filter (onB nd)∧Keep w1 w'
  submitNil:∀ (x:PodV) (w:World),ErrT w→PodIs w x→Calls Tryz.prog 39 #[.pointer none,x.val] w fun e w'=>∃ r:PodV,e = .returned (.tuple #[r.val,flt 5 0])∧nm r = zpod∧Keep w w'
  allNil:∀ (w:World),Calls Tryz.prog 73 #[.pointer none] w fun e w'=>∃ A c,e = .returned (.slice A 0 c)∧Keep w w'
def SameX (X:Nat→Prop) (w1 w2:World):Prop:=∀ i,X i→w2.heap[i]? = w1.heap[i]?
structure RL (w:World) (X:Nat→Prop) (w1:World) (B:Option Addr) (c n:Nat) (P:Nat→PodV):Prop where
  rd:RdPods w1 B n P
  cap:n≤c
  pl:(B = none∧n = 0∧c = 0)∨∃ g,B = some ⟨g,0,none⟩∧X g
  is:∀ j,j < n→PodIs w (P j)
theorem RL.nil (w:World) (X:Nat→Prop) (w1:World):RL w X w1 none 0 0 (fun _=>zpod):=⟨RdPods.nil _ _ _,Nat.le_refl _,Or.inl ⟨rfl,rfl,rfl⟩,fun _ h=>absurd h (Nat.not_lt_zero _)⟩
theorem RL.keep {w:World} {X:Nat→Prop} {w1 w2:World} {B:Option Addr} {c n:Nat} {P:Nat→PodV} (h:RL w X w1 B c n P) (k:Keep w1 w2):RL w X w2 B c n P:=⟨h.rd.keep k,h.cap,h.pl,h.is⟩
theorem RL.less {w:World} {X Z:Nat→Prop} {w1:World} {B:Option Addr} {c n:Nat} {P:Nat→PodV} (h:RL w X w1 B c n P) (hZ:∀ i,X i→Z i):RL w Z w1 B c n P:=⟨h.rd,h.cap,h.pl.imp id fun ⟨g,e,hg⟩=>⟨g,e,hZ g hg⟩,h.is⟩
theorem cell_same {w1 w2:World} {a:Addr} {v:Value} (h:w1.cell? a = some v) (e:w2.heap[a.block]? = w1.heap[a.block]?):w2.cell? a = some v:=by
  rw [World.cell?_of_block (w:=w1) e];exact h
theorem Cel9.same {w1 w2:World} {b o:Nat} {x:PodV} (h:Cel9 w1 b o x) (e:w2.heap[b]? = w1.heap[b]?):Cel9 w2 b o x :=
  ⟨cell_same h.e0 e,cell_same h.e1 e,cell_same h.e2 e,cell_same h.e3 e,cell_same h.e4 e,cell_same h.e5 e,cell_same h.e6 e,cell_same h.e7 e,cell_same h.e8 e⟩
theorem RL.same {w:World} {X:Nat→Prop} {w1 w2:World} {B:Option Addr} {c n:Nat} {P:Nat→PodV} (h:RL w X w1 B c n P) (k:Keep w w2) (f:SameX X w1 w2):RL w X w2 B c n P:=by
  refine ⟨⟨h.rd.small,fun hn=>?_,fun j hj=>(h.is j hj).keep k⟩,h.cap,h.pl,h.is⟩
  obtain ⟨b,off,e,hc⟩:=h.rd.adr hn
  rcases h.pl with ⟨_,h0,_⟩ | ⟨g,eg,hg⟩
  · omega
  · have e2:=Option.some.inj (eg.symm.trans e)
    simp only [Addr.mk.injEq,and_true] at e2
    refine ⟨b,off,e,fun j hj=>(hc j hj).same ?_⟩
    rw [← e2.1]
    exact f g hg
end Go.Proofs.YtinndaolcaehiaaGreatDoor.T13

