import Derived.Test.YtahpodmokbdjeaaGreatDoorQYS
import Derived.Test.YtahpodmokbdjeaaGreatDoorQShelfR
namespace Go.Proofs.YtahpodmokbdjeaaGreatDoor
open Go.RowKit Go.Sort Go.Shelf Tryz
set_option linter.unusedVariables false
set_option maxRecDepth 1000000
set_option maxHeartbeats 16000000
theorem Qbo {α:Type} [Inhabited α] (enc:α->Value)(d:Array α)(cur:Array Value)(h:d.size<=cur.size):(putCells enc 0 d cur).size=cur.size/\(putCells enc 0 d cur).toList.take d.size=d.toList.map enc:=by
 refine⟨by simp[putCells],?_⟩
 apply List.ext_getElem?
 intro i
 by_cases hi:i<d.size
 ·rw[zT hi,zQ,yD,zQ]
  have hc:i<cur.size:=by omega
  simp[putCells,hc,hi]
 ·rw[List.getElem?_eq_none (by simp;omega),List.getElem?_eq_none (by simp;omega)]
theorem Qba {α:Type} [Inhabited α] {enc:α->Value}{C t sz n g c m:Nat}{w:World}{xs:List Value}{d:Array α}{os:Array Obj}(h:w.ownsRow C t sz (sL (sA g) n c) n xs)(hd:d.size=n*sz) :
  (grow (putRow enc (Sort.ahead w m) g 0 d) os).ownsRow C t sz (sL (sA g) n c) n (d.toList.map enc)/\Chg (λx=>x=g) w (grow (putRow enc (Sort.ahead w m) g 0 d) os):=by
 obtain⟨h1,h2⟩:=h
 rcases h2 with⟨e,_⟩|⟨g',cap,cur,e,hg,hh,hc,hm,hs,ht⟩
 ·simp at e
 simp only[zC,Option.some.injEq,Addr.mk.injEq] at e
 obtain⟨⟨rfl,-⟩,-,rfl⟩:=e
 have hlt:g<w.heap.size:=(Array.getElem?_eq_some_iff.1 hh).1
 have hle:d.size<=cur.size:=by rw[hd,hs];exact Nat.mul_le_mul_right _ hc
 obtain⟨p1,p2⟩:=Qbo enc d cur hle
 have hb:(grow (putRow enc (Sort.ahead w m) g 0 d) os).heap[g]?=some (.cells (putCells enc 0 d cur) t (0,0)):=by
  show((putRow enc (Sort.ahead w m) g 0 d).heap++os)[g]?=_
  rw[Array.getElem?_append_left (by simp;exact hlt)]
  show(w.heap.modify g _)[g]?=_
  rw[Array.getElem?_modify,if_pos rfl,hh]
  rfl
 refine⟨⟨by simp[hd],oR ⟨g,c,putCells enc 0 d cur,rfl,hg,hb,hc,hm,by rw[p1];exact hs,by rw[<-hd];exact p2⟩⟩,⟨rfl,rfl,rfl,?_,λx hx hn=>?_⟩⟩
 ·show w.heap.size<=((putRow enc (Sort.ahead w m) g 0 d).heap++os).size
  rw[Array.size_append]
  simp
 ·show((putRow enc (Sort.ahead w m) g 0 d).heap++os)[x]?=_
  rw[Array.getElem?_append_left (by simp;exact hx)]
  show(w.heap.modify g _)[x]?=_
  have hn':¬g=x:=λe=>hn e.symm
  rw[Array.getElem?_modify,if_neg hn']
theorem Q9o {α:Type} [Inhabited α] {enc:α->Value}{C t sz n g c:Nat}{w:World}{d:Array α}(h:w.ownsRow C t sz (sL (sA g) n c) n (d.toList.map enc))(hd:d.size=n*sz):Holds enc w g 0 d/\g<w.heap.size:=by
 obtain⟨h1,h2⟩:=h
 rcases h2 with⟨e,_⟩|⟨g',cap,cur,e,hg,hh,hc,hm,hs,ht⟩
 ·simp at e
 simp only[zC,Option.some.injEq,Addr.mk.injEq] at e
 obtain⟨⟨rfl,-⟩,-,rfl⟩:=e
 refine⟨λj hj=>?_,(Array.getElem?_eq_some_iff.1 hh).1⟩
 have e1:(cur.toList.take (n*sz))[j]?=(d.toList.map enc)[j]?:=by rw[ht]
 rw[zT (by omega),zQ,yD,zQ,zL hj] at e1
 have hh':w.heap[g]?=some (.cells cur t (0,0)):=hh
 refine⟨?_,?_⟩
 ·unfold World.cell?
  simp[hh',e1,hj]
 ·have:=(show Blk w g cur from⟨t,hh⟩).frozen (0+j)
  exact this
theorem Ac {α:Type} [Inhabited α] (enc:α->List Value)(k:Nat)(hk:∀x,(enc x).length=k)(d:Array α):(Sort.flatK enc k d).toList=d.toList.flatMap enc:=by
 apply List.ext_getElem?
 intro i
 by_cases k0:k=0
 ·subst k0
  have e1:(Sort.flatK enc 0 d).toList=[]:=by apply List.length_eq_zero_iff.1;simp
  have e2:d.toList.flatMap enc=[]:=by
   rw[List.flatMap_eq_nil_iff]
   intro x _
   exact List.length_eq_zero_iff.1 (hk x)
  rw[e1,e2]
 have hp:0<k:=by omega
 have hlen:(d.toList.flatMap enc).length=d.size*k:=by
  have hl:∀l:List α,(l.flatMap enc).length=l.length*k:=λl=>by
   induction l with
   |nil=>simp
   |cons x l ih=>rw[List.flatMap_cons,zA,ih,hk,List.length_cons,Nat.add_mul,Nat.one_mul,Nat.add_comm]
  rw[hl];simp
 by_cases hi:i<d.size*k
 ·have hq:i/k<d.size:=(Nat.div_lt_iff_lt_mul hp).2 hi
  have hr:i%k<k:=Nat.mod_lt _ hp
  rw[zQ]
  have e0:(Sort.flatK enc k d)[i]?=some ((Sort.flatK enc k d)[i]!):=by rw[getElem!_pos _ i (by simpa using hi)];simp[hi]
  rw[e0,Sort.get_flatK enc k d i hi]
  have hx:d.toList[i/k]?=some d[i/k]!:=by rw[zQ,getElem!_pos d _ hq];simp[hq]
  have e1:=Qgb (k:=k) hp d.toList enc hk (i/k) (i%k) hr (d[i/k]!) hx
  rw[show i/k*k+i%k=i from Nat.div_add_mod' i k] at e1
  rw[e1]
  have hl:i%k<(enc d[i/k]!).length:=by rw[hk];exact hr
  rw[zJ hl,getElem!_pos (enc d[i/k]!) (i%k) hl]
 ·rw[List.getElem?_eq_none (by simp;omega),List.getElem?_eq_none (by omega)]
theorem grow3 (w:World)(a b c:Obj):(((w.alloc a).alloc b).alloc c).drew=grow (w.drewN 1) #[a,b,c]:=by
 rw[alloc_eq_grow,alloc_eq_grow,alloc_eq_grow,grow_grow,grow_grow];rfl
theorem Qef {α:Type}(key:α->Int×Int)(cf:α->α->Int)(h:∀x y,cf x y<0↔((key x).1<(key y).1\/((key x).1=(key y).1/\(key x).2<(key y).2))):SWO (ltOf cf) where
 irrefl x:=by
  unfold ltOf
  rw[decide_eq_false_iff_not,h];omega
 trans x y z h1 h2:=by
  unfold ltOf at *
  rw[decide_eq_true_eq,h] at *;omega
 ntrans x y z h1 h2:=by
  unfold ltOf at *
  rw[decide_eq_false_iff_not,h] at *;omega
theorem Q9m {α:Type} [Inhabited α] {ρ:Ren}(L:SlLaysF0.n6 prog ρ)(k:Nat)(aE:∀w,(isAgg (ρ.t 24)).run prog w=.ok true w)(zE:∀w,(Go.sizeOf (ρ.t 24)).run prog w=.ok k w)(enc:α->List Value)(hk:∀x,(enc x).length=k)(h1:∀x,∀v∈enc x,v.oneCell'=true)(cf:α->α->Int)(hO:SWO (ltOf cf))(g:Nat)(eg:∀args w,(callFunc g args).run prog w=.ok (.enter g args) w)
  (hcmp:∀x y W,Calls prog g #[.agg (enc x).toArray,.agg (enc y).toArray] W λe w'=>e=.returned (iV (cf x y))/\∃q os,w'=grow (W.drewN q) os)
  (C t:Nat) (v:Value) (l:List α) (w:World) (h:w.ownsRow C t k v l.length (l.flatMap enc)) (hl:l.length<4611686018427387904) :
  Calls prog (ρ.f 6) #[v,.func (.func g) #[] #[]] w λe w'=>e=.returned (.tuple #[])/\∃l':List α,l'.Perm l/\l'.Pairwise (λx y=>¬cf y x<0)/\w'.ownsRow C t k v l'.length (l'.flatMap enc)/\Chg (λx=>some x=v.ownBlock) w w':=by
 obtain⟨a,c,rfl⟩:=Q7 h
 by_cases hp:l.length=0
 ·have e:l=[]:=List.length_eq_zero_iff.1 hp
  subst e
  refine(AnyF.slices_SortFunc_none L a c _ w).mono ?_
  rintro e w' ⟨rfl,rfl⟩
  exact⟨rfl,[],List.Perm.refl _,List.Pairwise.nil,h,⟨rfl,rfl,rfl,lR,λ_ _ _=>rfl⟩⟩
 obtain⟨b,ea⟩:∃b,a=some (aD b 0):=by
  rcases h.2 with⟨e,e2⟩|⟨b,cap,cur,e,-⟩
  ·simp only[zC] at e
   omega
  ·simp only[zC] at e
   exact⟨b,e.1⟩
 subst ea
 have ef:(Sort.flatK enc k l.toArray).toList.map id=l.flatMap enc:=by rw[List.map_id,Ac enc k hk]
 have h':=h
 rw[<-ef] at h'
 obtain⟨hH,hb⟩:=Q9o (enc:=id) (d:=Sort.flatK enc k l.toArray) h' (by simp)
 have hS:=AnyQ.slices_SortFunc L k aE zE enc hk h1 cf hO g #[] b 0 c l.toArray w eg (λm os dk hs x y=>(hcmp x y _).mono λe w' hh=>hh) hH hb (by simpa using hl)
 have hsz:l.toArray.size=l.length:=by simp
 rw[hsz] at hS
 refine hS.mono ?_
 rintro e w' ⟨rfl,d',n,os,hpm,hso,rfl⟩
 have hds:d'.size=l.length:=by have:=hpm.1;simpa using this
 have hr:=Qba (enc:=id) (m:=n) (os:=os) (d:=Sort.flatK enc k d') h (by simp[hds])
 have e2:(Sort.flatK enc k d').toList.map id=d'.toList.flatMap enc:=by rw[List.map_id,Ac enc k hk]
 rw[e2] at hr
 refine⟨rfl,d'.toList,?_,?_,?_,?_⟩
 ·have:=hpm.2.2
  have e3:d'.extract 0 l.length=d':=by rw[<-hds];exact Array.extract_size
  have e4:l.toArray.extract 0 l.length=l.toArray:=by rw[<-hsz];exact Array.extract_size
  rw[e3,e4] at this
  exact this
 ·rw[List.pairwise_iff_getElem]
  intro i j hi hj hij
  have:=hso i j nZ hij (by simpa [hds] using hj)
  have h3:i<d'.size:=by simpa using hi
  have h4:j<d'.size:=by simpa using hj
  rw[getElem!_pos d' i h3,getElem!_pos d' j h4] at this
  unfold ltOf at this
  simpa using this
 ·have e5:d'.toList.length=l.length:=by simp[hds]
  rw[e5]
  exact hr.1
 ·refine⟨hr.2.os,hr.2.tape,hr.2.output,hr.2.size,λx hx hn=>hr.2.block x hx (λe=>hn ?_)⟩
  have e':x=b:=e
  rw[e'];rfl
def Qaf (u v:Vx):Int:=orI (Xy u.1 v.1) (Xy u.2 v.2)
theorem Q5f (u v:Vx):Qaf u v<0↔(u.1<v.1\/(u.1=v.1/\u.2<v.2)):=by
 unfold Qaf orI Xy
 by_cases h1:u.1<v.1
 ·simp[h1]
 ·by_cases h2:v.1<u.1
  ·simp[h1,h2];omega
  ·have e:u.1=v.1:=by omega
   by_cases h3:u.2<v.2
   ·simp[h1,h2,h3];omega
   ·by_cases h4:v.2<u.2<;>simp[h1,h2,h3,h4]
theorem Qhd (u v:Vx)(w:World):Calls prog 92 #[.agg #[iV u.1,iV u.2],.agg #[iV v.1,iV v.2]] w λe w'=>e=.returned (iV (Qaf u v))/\∃q os,w'=grow (w.drewN q) os:=by
 obtain⟨u1,u2⟩:=u
 obtain⟨v1,v2⟩:=v
 go_enter func92,ntmps92
 go_wp2_with fail
 go_region_held3 (λw'=>w'.cell? (aD w.heap.size 0)=some (iV u1)/\w'.cell? (aD w.heap.size 1)=some (iV u2)/\w'.cell? (aD (w.heap.size+1) 0)=some (iV v1)/\w'.cell? (aD (w.heap.size+1) 1)=some (iV v2)) (go_keep) (first|(go_at_call 107;refine(Pk _ _ _).mono ?_;rintro e w' ⟨rfl,rfl⟩)|(go_at_call 144;refine(Qbz _ _ _ (Xy u1 v1) (Xy u2 v2) _ (by exact Qd6 _ _ _ _ _ (by simp)) (by exact Qd5 _ _ _ _ _ (by simp))).mono ?_;rintro e w' ⟨rfl,rfl⟩))
 all_goals go_wp2
 all_goals
  go_ret
  exact⟨rfl,1,_,grow3 _ _ _ _⟩
abbrev Sv:=Option Addr×Nat×Nat
def slv (s:Sv):Value:=sL s.1 s.2.1 s.2.2
abbrev Oa:=Vx×Sv
def Qda (x:Oa):List Value:=[iV x.1.1,iV x.1.2,slv x.2]
theorem Qh9 (w:World)(a b:Obj)(q:Nat)(os:Array Obj):grow (((w.alloc a).alloc b).drewN q) os=grow (w.drewN q) (#[a,b]++os):=by
 have e:((w.alloc a).alloc b).drewN q=grow (w.drewN q) #[a,b]:=by
  have h:(w.alloc a).alloc b=grow (w.drewN 0) #[a,b]:=by rw[alloc_eq_grow,alloc_eq_grow,grow_grow];rfl
  rw[h]
  simp[grow,World.drewN]
 rw[e,grow_grow]
theorem Qhe (x y:Oa)(w:World):Calls prog 91 #[.agg (Qda x).toArray,.agg (Qda y).toArray] w λe w'=>e=.returned (iV (Qaf x.1 y.1))/\∃q os,w'=grow (w.drewN q) os:=by
 obtain⟨⟨x1,x2⟩,sa,sn,sc⟩:=x
 obtain⟨⟨y1,y2⟩,ta,tn,tc⟩:=y
 have HB0:Z (BT ((w.alloc (.cells #[iV x1,iV x2,sL sa sn sc] 182)).alloc (.cells #[iV y1,iV y2,sL ta tn tc] 182)) w.heap.size #[iV x1,iV x2,sL sa sn sc] 182):=(BT.new _ _ _ _ rfl).alloc _
 have HB1:Z (BT ((w.alloc (.cells #[iV x1,iV x2,sL sa sn sc] 182)).alloc (.cells #[iV y1,iV y2,sL ta tn tc] 182)) (w.heap.size+1) #[iV y1,iV y2,sL ta tn tc] 182):=BT.new _ _ _ _ (by rw[Q3])
 show Calls prog 91 #[.agg #[iV x1,iV x2,sL sa sn sc],.agg #[iV y1,iV y2,sL ta tn tc]] w _
 go_enter func91,ntmps91
 go_upto_region 1 with fail
 generalize hw2:(w.alloc (.cells #[iV x1,iV x2,sL sa sn sc] 182)).alloc (.cells #[iV y1,iV y2,sL ta tn tc] 182)=w2 at *
 have b0:=HB0.o.c 0 rfl
 have b1:=HB0.o.c 1 rfl
 have c0:=HB1.o.c 0 rfl
 have c1:=HB1.o.c 1 rfl
 go_wp2_with fail
 refine(Qhd (x1,x2) (y1,y2) w2).mono ?_
 rintro e w' ⟨rfl,q,os,rfl⟩
 go_wp2
 go_ret
 exact⟨rfl,q,_,by rw[<-hw2];exact Qh9 _ _ _ _ _⟩
theorem Qg7:∀l:List (Vx×Value),(∀x∈l,∃a n c,x.2=sL a n c)->∃m:List Oa,l=m.map (λy=>(y.1,slv y.2))
 |[],_=>⟨[],rfl⟩
 |x::l,h=>by
  obtain⟨m,rfl⟩:=Qg7 l (λy hy=>h y (List.mem_cons_of_mem _ hy))
  obtain⟨a,n,c,e⟩:=h x (by simp)
  exact⟨(x.1,(a,n,c))::m,by rw[List.map_cons];congr 1;exact Prod.ext rfl e⟩
theorem Q8o (m:List Oa):(m.map (λy=>(y.1,slv y.2))).flatMap Ej=m.flatMap Qda:=by rw[List.flatMap_map];rfl
theorem Q9l (C:Nat)(v:Value)(ar:Vx->List Ax)(l:List (Vx×Value))(w:World)(h:Fnd C w v ar l)(hl:l.length<4611686018427387904)(hn:(l.map (·.1)).Nodup) :
  Calls prog 90 #[v,.func (.func 91) #[] #[]] w λe w'=>e=.returned (.tuple #[])/\∃l',l'.Perm l/\Z5 (l'.map (·.1))/\Fnd C w' v ar l'/\Chg (λx=>some x=v.ownBlock) w w':=by
 obtain⟨m,rfl⟩:=Qg7 l (λx hx=>by obtain⟨a,c,e⟩:=Q7 (h.each x hx);exact⟨a,_,c,e⟩)
 have hr:=h.row
 rw[Q8o,zG] at hr
 have hinh:Inhabited Oa:=⟨((0,0),(none,0,0))⟩
 refine(@Q9m Oa hinh _ Tryz.sortV 3 (λw=>by
  show(isAgg 182).run prog w=.ok true w
  simp[isAgg,run_underlying underlying182]) (λw=>by
  have hi:(prog.info? 182).map (·.size)=some 3:=by kernel_rfl
  obtain⟨i,h1,h2⟩:=Option.map_eq_some_iff.1 hi
  show(Go.sizeOf 182).run prog w=.ok 3 w
  simp[Go.sizeOf,typeInfo,h1,h2]) Qda (λ_=>rfl) (λx v hv=>by simp[Qda,slv] at hv;rcases hv with rfl|rfl|rfl<;>rfl) (λx y=>Qaf x.1 y.1) (Qef (λx=>x.1) _ (λx y=>Q5f _ _)) 91 (enters_of func91 (by kernel_rfl) rfl) (λx y W=>Qhe x y W) C 182 v m w hr (by simpa using hl)).mono ?_
 rintro e w' ⟨rfl,m',hp,hs,hr',hc⟩
 have hpm:(m'.map (λy=>(y.1,slv y.2))).Perm (m.map (λy=>(y.1,slv y.2))):=hp.map _
 refine⟨rfl,m'.map (λy=>(y.1,slv y.2)),hpm,?_,⟨by rw[Q8o,zG];exact hr',λx hx=>Qs (h.each x (hpm.mem_iff.1 hx)) hc (λg hg c=>?_)⟩,hc⟩
 ·have hn':((m'.map (λy=>(y.1,slv y.2))).map (·.1)).Nodup:=((hpm.map (·.1)).nodup_iff).2 hn
  rw[List.map_map] at hn' ⊢
  unfold Z5
  rw[List.pairwise_map] at *
  have h2:=List.pairwise_map.1 hn'
  refine(hs.and h2).imp ?_
  rintro x y ⟨h3,h4⟩
  show Vlt x.1 y.1
  have h3':¬Qaf y.1 x.1<0:=h3
  rw[Q5f] at h3'
  rcases vtri x.1 y.1 with a|a|a
  ·exact a
  ·exact absurd a h4
  ·exact absurd a h3'
 ·obtain⟨cs,hb⟩:=U4 (h.each x (hpm.mem_iff.1 hx)) hg
  exact hb.neRow h.row (by decide) c
end Go.Proofs.YtahpodmokbdjeaaGreatDoor
namespace Go.Proofs.YtahpodmokbdjeaaGreatDoor
open Go.RowKit Go.Sort Go.Maps Go.Shelf Tryz
set_option linter.unusedVariables false
set_option maxRecDepth 1000000
set_option maxHeartbeats 16000000
section
variable {es:List Eg}{st:Int->Int->Int}
theorem Pm {j:Nat}:∀{k:Nat},j<=k->∃r,(bf es st k).1=(bf es st j).1++r
 |0,h=>⟨[],by have:j=0:=by omega
              subst this;simp⟩
 |k+1,h=>by
  by_cases e:j=k+1
  ·subst e;exact⟨[],by simp⟩
  ·obtain⟨r,hr⟩:=Pm (j:=j) (k:=k) (by omega)
   obtain⟨r',hr'⟩:=Gl (es:=es) (st:=st) k
   exact⟨r++r',by rw[hr',hr,yE]⟩
theorem Qe3 {l m:List Vx}{i:Nat}(h:i<l.length):vtx (l++m) i=vtx l i:=by
 unfold vtx
 rw[zD,zD,zW h]
theorem Qaj {k:Nat}(hk:k=(bf es st k).1.length)(hg:∀j,j<k->j<(bf es st j).1.length){v u:Vx}(hv:v∈(bf es st k).1)(hu:u∈nxV es st v):u∈(bf es st k).1:=by
 obtain⟨j,hj,rfl⟩:=Fj hv
 have hjk:j<k:=by omega
 obtain⟨r,hr⟩:=Pm (es:=es) (st:=st) (j:=j) (k:=k) (by omega)
 obtain⟨r',hr'⟩:=Pm (es:=es) (st:=st) (j:=j+1) (k:=k) (by omega)
 rw[hr,Qe3 (hg j hjk)] at hu
 rw[hr',yM]
 left
 rw[Zl (hg j hjk)]
 exact(Q26 lR).2 (oR (by rw[zU];exact hu))
theorem Qdi (k:Nat){e:Nat}(he:e<es.length):((e:Int),st 0 (e:Int))∈(bf es st k).1:=by
 obtain⟨r,hr⟩:=Pm (es:=es) (st:=st) (j:=0) (k:=k) nZ
 rw[hr,yM]
 left
 have h:vtx (stV st es.length) e=((e:Int),st 0 (e:Int)):=Ir he
 rw[<-h]
 exact Zd (l:=stV st es.length) (by rw[Xj];exact he)
theorem Qdl:∀l:List Vx,l.Nodup->∃m,Z5 m/\m.Perm l
 |[],_=>⟨[],List.Pairwise.nil,List.Perm.refl _⟩
 |v::l,h=>by
  have h':=List.nodup_cons.1 h
  obtain⟨m,ha,hp⟩:=Qdl l h'.2
  have ha':Z5 (Yo m v):=Ez ha
  refine⟨Yo m v,ha',(List.perm_ext_iff_of_nodup (ha'.imp (λh e=>by subst e;exact h.irr)) h).2 (λx=>?_)⟩
  rw[Ex,List.mem_cons,hp.mem_iff]
end
theorem VM.upd {w:World}{b:Nat}{ks:List Vx}{f:Vx->Int}(h:VM w b ks f){v:Vx}(x:Int)(hin:v∈ks)(hnd:ks.Nodup):∃w',(Instr.mapUpdate 164 (.map (some b)) (Wq v) (iV x)).run prog w=.ok () w'/\VM w' b ks (λu=>if u=v then x else f u)/\Chg (λy=>y=b) w w':=by
 obtain⟨es,clock,hb,h2,h3,hk⟩:=h
 obtain⟨l,hkey⟩:=Pa (hk v hin)
 have hks:∀e∈es.toList,∃l,keyOf prog 173 e.key=some l:=λe he=>by
  obtain⟨u,hu,e1,-⟩:=h3 e he
  rw[e1]
  exact Pa (hk u hu)
 rcases Tp.find w hkey es.toList hks with⟨h1,h4⟩|⟨j,e0,h1,h4,h5⟩
 ·have h6:Wq v∈es.toList.map (·.key):=by rw[h2];exact List.mem_map.2 ⟨v,hin,rfl⟩
  obtain⟨y,hy,e⟩:=List.mem_map.1 h6
  exact absurd e (h4 y hy)
 ·have hj:j<es.size:=by have:=(List.getElem?_eq_some_iff.1 h4).1;simpa using this
  have hej:es[j]=e0:=by have:=(List.getElem?_eq_some_iff.1 h4).2;simpa using this
  refine⟨ChangeMaps.setBlock w b (.map (es.modify j (λe=>{ key:=Wq v,val:=iV x,born:=e.born })) clock),?_,⟨_,_,ChangeMaps.heap_setBlock_same hb _,?_,λe he=>?_,hk⟩,⟨rfl,rfl,rfl,by simp[ChangeMaps.setBlock],λi _ hi=>ChangeMaps.heap_setBlock_other hb _ hi⟩⟩
  ·simp[Instr.mapUpdate,run_underlying underlying164,MapKept.run_getObj_map hb,Tp.check w false hkey,h1,Array.getElem?_eq_getElem hj,hej,h5,Tp.stays w hkey,MapKept.run_setObj_map _ hb,Result.andThen,ChangeMaps.setBlock]
  ·rw[<-h2]
   apply List.ext_getElem?
   intro i
   rw[yD,yD,zQ,zQ,Array.getElem?_modify]
   by_cases e:j=i
   ·subst e
    rw[if_pos rfl,zL hj,hej]
    simp[h5]
   ·rw[if_neg e]
  ·obtain⟨i,hi,rfl⟩:=List.mem_iff_getElem.1 he
   have hi':i<es.size:=by simpa using hi
   rw[Array.getElem_toList,Array.getElem_modify]
   by_cases e:j=i
   ·subst e
    rw[if_pos rfl]
    refine⟨v,hin,?_,?_⟩
    ·rfl
    ·simp
   ·rw[if_neg e]
    obtain⟨u,hu,e1,e2⟩:=h3 es[i] (by simp)
    have huv:u≠v:=λc=>by
     subst c
     apply e
     have hlen:es.toList.length=ks.length:=by have:=congrArg List.length h2;simpa using this
     have ki:∀q (hq:q<es.size),es[q].key=Wq (ks[q]'(by simp at hlen;omega)):=λq hq=>by
      have:=congrArg (λl=>l[q]?) h2
      simp only[yD] at this
      rw[zQ,zL hq,zJ (by simp at hlen;omega)] at this
      simpa using this
     have a1:=ki i hi'
     have a2:=ki j hj
     rw[e1] at a1
     rw[hej,h5] at a2
     have a3:=(Kh a1).symm.trans (Kh a2)
     exact((List.getElem_inj hnd).1 a3).symm
    exact⟨u,hu,e1,by show es[i].val=iV (if u=v then x else f u);rw[if_neg huv];exact e2⟩
theorem Qh1:(prog.info? 30).map (·.size)=some 7:=by kernel_rfl
theorem Av {ops:Array Oper}{rest:List Oper}{o:Oper}{a:Act}{Q:Exit->Act->World->Prop}{w:World}{b t:Nat}{cs cs':Array Value}(hgd:o.guard=none)(p v:Operand)(ho:o.op=.store 30 p v)(hp:a.eval p=pT b)(hv:a.eval v=.agg cs')(hb:BT w b cs t)(hs:cs.size=7)(hs':cs'.size=7)(h1:(cs'.toList.all λv=>v.oneCell')=true)
  (h:∀w',BT w' b cs' t->Chg (λx=>x=b) w w'->wpList prog ops Q rest (a.put o.dst undef) w'):wpList prog ops Q (o::rest) a w:=
 wpList_store_row hgd _ p v ho b cs' hp hv t cs hb (by rw[Qh1,hs']) (by rw[hs,hs']) (by rw[<-Array.all_toList];exact h1) (h _ (Pd hb).1 (Pd hb).2)
theorem Q9r {ts:Array Value}{w:World}{b:Nat}{x0 x1 x2 x3 x4 x5 x6:Value}(h:ts[2]?.getD undef=pT b)(p0:w.cell? (aD b 0)=some x0)(p1:w.cell? (aD b 1)=some x1)(p2:w.cell? (aD b 2)=some x2)(p3:w.cell? (aD b 3)=some x3)(p4:w.cell? (aD b 4)=some x4)(p5:w.cell? (aD b 5)=some x5)(p6:w.cell? (aD b 6)=some x6) :
  (results Tryz.f37 ts).run prog w=.ok (.agg #[x0,x1,x2,x3,x4,x5,x6]) w:=by
 simp[results,results37,h,go_sem,p0,p1,p2,p3,p4,p5,p6]
theorem Q9p {R:Ending->World->Prop}{a:Act}{w:World}{b t:Nat}{x0 x1 x2 x3 x4 x5 x6:Value}(h2:a.tmps[2]?.getD undef=pT b)(hd:a.defers=[])(hb:BT w b #[x0,x1,x2,x3,x4,x5,x6] t)(hR:R (.returned (.agg #[x0,x1,x2,x3,x4,x5,x6])) w):bodyPost prog Tryz.f37 R .ret a w:=
 bodyPost_ret (Q9r h2 (hb.c 0 rfl) (hb.c 1 rfl) (hb.c 2 rfl) (hb.c 3 rfl) (hb.c 4 rfl) (hb.c 5 rfl) (hb.c 6 rfl)) hd hR
end Go.Proofs.YtahpodmokbdjeaaGreatDoor
namespace Go.Proofs.YtahpodmokbdjeaaGreatDoor
open Go.RowKit Go.Sort Tryz
set_option linter.unusedVariables false
set_option maxRecDepth 1000000
set_option maxHeartbeats 16000000
theorem MS.pop {w0 w:World}{bl:List (Nat×Array Value×Nat)}{x:Nat×Array Value×Nat}{rs:List (Value×List Int)}(h:MS w0 w (bl++[x]) rs):MS w0 w bl rs:=
 have key:∀(j:Nat) (p:Nat×Array Value×Nat),bl[j]?=some p->(bl++[x])[j]?=some p:=λj p hp=>by rw[zW (List.getElem?_eq_some_iff.1 hp).1];exact hp
 ⟨h.nx,λj p hp=>h.bx j p (key j p hp),λj j' p p' hj hp hp'=>h.nd j j' p p' hj (key j p hp) (key j' p' hp'),h.rw,h.ap⟩
theorem MS.graph0 (w:World):MS w ((w.alloc (.cells #[iV 0] 2)).alloc (.cells #[sN,sN,sL (sA w.heap.size) 1 1,sN,sN,sN,sN] 30)) [(w.heap.size+1,#[sN,sN,sL (sA w.heap.size) 1 1,sN,sN,sN,sN],30)] [(sN,[]),(sN,[]),(sL (sA w.heap.size) 1 1,[0]),(sN,[]),(sN,[]),(sN,[]),(sN,[])]:=by
 have h0:MS w (w.alloc (.cells #[iV 0] 2)) [] [(sN,[]),(sN,[])]:=((MS.start w).next (Q4 _ _)).addNil.addNil
 have hr:Qd w.heap.size (w.alloc (.cells #[iV 0] 2)) (sL (sA w.heap.size) 1 1) [0]:=⟨rfl,.inr ⟨w.heap.size,1,#[iV 0],rfl,lR,by show(w.heap.push _)[w.heap.size]?=_;simp,lR,by simp[maxLen],by simp,by simp[Jr]⟩⟩
 have h1:=h0.addRow hr (λj r g hj hg=>by
  match j,hj with
  |0,hj=>simp at hj;subst hj;simp[Value.ownBlock] at hg
  |1,hj=>simp at hj;subst hj;simp[Value.ownBlock] at hg
  |j+2,hj=>simp at hj)
 have h2:=h1.addNil.addNil.addNil.addNil.addBox #[sN,sN,sL (sA w.heap.size) 1 1,sN,sN,sN,sN] 30 (by decide)
 rw[Q3] at h2
 exact h2
def Aps (l:List Value):Prop:=∀(j j':Nat) (v v':Value) (g:Nat),j≠j'->l[j]?=some v->l[j']?=some v'->v.ownBlock=some g->v'.ownBlock≠some g
theorem MS.aps {w0 w:World}{bl:List (Nat×Array Value×Nat)}{rs:List (Value×List Int)}(h:MS w0 w bl rs):Aps (rs.map (·.1)):=λj j' v v' g hj hv hv'=>by
 rw[yD] at hv hv'
 obtain⟨r,hr,rfl⟩:=Option.map_eq_some_iff.1 hv
 obtain⟨r',hr',rfl⟩:=Option.map_eq_some_iff.1 hv'
 exact h.ap j j' r r' g hj hr hr'
def WriE (N:Nt)(A:Au)(w0:World)(t:List Vx)(w':World)(r:Ending):Prop:=(∃vs v0 v1 v2 v3 v4 v5 v6,Z5 vs/\vs.Perm t/\r=.returned (.agg #[v0,v1,v2,v3,v4,v5,v6])/\(Qd w0.heap.size w' v0 (gEo vs vs.length)/\Qd w0.heap.size w' v1 (gSo vs vs.length)/\Qd w0.heap.size w' v2 (gFi (E1 N) (stA A) vs (vs.length+1))/\Qd w0.heap.size w' v3 (gTo (E1 N) (stA A) vs vs.length)/\Qd w0.heap.size w' v4 (gCo N (E1 N) (stA A) vs vs.length)/\Qd w0.heap.size w' v5 (gSa (stA A) vs (E1 N).length)/\Qd w0.heap.size w' v6 (gWe (E1 N) (E1 N).length))/\Aps [v0,v1,v2,v3,v4,v5,v6])/\Nx w0 w'
theorem Q98 (N:Nt)(A:Au)(F:SF N A)(C B D:Nat)(w0:World)(L:Lk)(sv lv:Value)(bl:Nat->Nat)(fl mv us:Nat->Value)(pb mb:Nat)(w:World)(ia:Option Addr)(qn ic:Nat)(kk:Int)(fv:Value)(t:List Vx)(f:Vx->Int)(l:List (Vx×Value))(hS:Sta N A w0 C B D L sv bl fl mv)(h:PrM N A w0 L sv lv us pb mb w ia qn ic kk fv t f l)(hlt:l.map (·.1)=t)(hnd:t.Nodup)(hpl0:l.length<=50000)(hcl0:∀v∈t,∀u∈nxV (E1 N) (stA A) v,u∈t)(hst0:∀e:Nat,e<(E1 N).length->((e:Int),(stA A) 0 (e:Int))∈t)(harc:arcs (E1 N) (stA A) t<=40000) :
  Calls prog 37 #[pT pb] w λr w'=>WriE N A w0 t w' r:=by
 obtain⟨fa,fc,hfv⟩:=Q7 h.fnd.row
 obtain⟨p,hp⟩:∃p,l.length=p:=⟨_,rfl⟩
 rw[hp] at hfv
 subst hfv
 have HP:=Q2 h
 have HS:=Q2 hS
 have HLP:Z (l.length=p):=hp
 have hpl:p<=50000:=by rw[<-hp];exact hpl0
 have HND0:Z ((l.map (·.1)).Nodup):=by rw[hlt];exact hnd
 have HLT:Z (l.map (·.1)=t):=hlt
 have HTN:Z (t.Nodup):=hnd
 have HB0:Z (BT (w.alloc (.cells #[sN,sN,sN,sN,sN,sN,sN] 30)) w.heap.size #[sN,sN,sN,sN,sN,sN,sN] 30):=BT.new _ _ _ _ rfl
 have HX0:Z (Nx w (w.alloc (.cells #[sN,sN,sN,sN,sN,sN,sN] 30))):=Q4 _ _
 have hmx:prog.follows .mixedOrders=true:=by kernel_rfl
 have HW0:Z (w0.heap.size<=w.heap.size):=h.nx.size
 clear h hp hS hlt hnd hpl0
 go_enter func37,ntmps37
 go_upto_region 1 with fail
 generalize w.alloc (.cells #[sN,sN,sN,sN,sN,sN,sN] 30)=w1 at *
 generalize w.heap.size=rb at *
 have HP1:=Q2 (HP.o.next HX0.o)
 have k6:w1.cell? (aD pb 6)=some (sL fa p fc):=HP1.o.box.c 6 rfl
 go_wp2_with fail
 clear k6
 refine(Q9l w0.heap.size _ _ l w1 HP1.o.fnd (by rw[HLP.o];omega) HND0.o).mono ?_
 rintro e2 w2 ⟨rfl,l',hpm,hasc,hfn,hc2⟩
 have HPM:Z (l'.Perm l):=hpm
 have HLP':Z (l'.length=p):=by rw[hpm.length_eq];exact HLP.o
 obtain⟨vs,hvs⟩:∃vs,l'.map (·.1)=vs:=⟨_,rfl⟩
 rw[hvs] at hasc
 have HAS:Z (Z5 vs):=hasc
 have HVS:Z (l'.map (·.1)=vs):=hvs
 have HVL:Z (vs.length=p):=by rw[<-hvs,zG];exact HLP'.o
 have HVP:Z (vs.Perm t):=by rw[<-hvs,<-HLT.o];exact hpm.map _
 have HFN:=Q2 hfn
 have HBX:Z (BT w2 pb #[pT L.br,sv,lv,.map (some mb),sL ia qn ic,iV kk,sL fa p fc] 170):=HP1.o.box.chg hc2 (λc=>HP1.o.box.neRow HP1.o.fnd.row (by decide) c)
 have HRB:Z (BT w2 rb #[sN,sN,sN,sN,sN,sN,sN] 30):=HB0.o.chg hc2 (λc=>HB0.o.neRow HP1.o.fnd.row (by decide) c)
 have HVM:Z (VM w2 mb t f):=HP1.o.map.chg hc2 (λc=>by obtain⟨cs,hb⟩:=U4 HP1.o.fnd.row c.symm;exact HP1.o.map.noBT ⟨cs,_,hb⟩)
 have HX2:Z (Nx w0 w2):=Below.trans HP1.o.nx (hc2.below HP1.o.nx.size (λx hx=>(Q5 HP1.o.fnd.row x hx.symm).1))
 have hgm:=HP.o.gm
 clear hpm hasc hfn hc2 HP1 HP HB0 HX0 hvs
 have k6:w2.cell? (aD pb 6)=some (sL fa p fc):=HBX.o.c 6 rfl
 go_wp2
 clear k6
 go_loopw [22] (λs22 wr=>∃(i:Nat) (f:Vx->Int),i<=p/\s22=iV i/\Z (BT wr pb #[pT L.br,sv,lv,.map (some mb),sL ia qn ic,iV kk,sL fa p fc] 170)/\Z (BT wr rb #[sN,sN,sN,sN,sN,sN,sN] 30)/\Z (VM wr mb t f)/\Z (Fnd w0.heap.size wr (sL fa p fc) (λx=>(nxV (E1 N) (stA A) x).map (λu=>(u,Vz N (E1 N) x u))) l')/\Z (Nx w0 wr)/\Z (∀j,j<i->f (vtx vs j)=(j:Int))) (λi _=>p-(intOf i).toNat)
 case atStart=>exact⟨0,f,nZ,rfl,HBX,HRB,HVM,HFN,HX2,λj hj=>absurd hj (zM _)⟩
 clear HBX HRB HVM HFN HX2
 obtain⟨i,f,hip,rfl,HBX,HRB,HVM,HFN,HX,HFI⟩:=hrel
 by_cases hlt:i<p
 ·have hlt':(i:Int)<p:=by omega
  obtain⟨x1,x2,av,hxi⟩:∃x1 x2 av,l'[i]?=some ((x1,x2),av):=⟨_,_,_,zJ (by rw[HLP'.o];exact hlt)⟩
  have HVI:Z (vtx vs i=(x1,x2)):=by unfold Z vtx;rw[<-HVS.o,zD,yD,hxi];rfl
  obtain⟨gf,cf,ef,-,-,-,-,hcf⟩:=Xn HFN.o.row rfl (by decide) (λ_=>rfl) hxi
  rw[HLP'.o] at ef
  simp only[zC] at ef
  obtain⟨rfl,-,rfl⟩:=ef
  obtain⟨va,vn,vc,hav⟩:∃a n c,av=sL a n c:=by obtain⟨a,c,e⟩:=Q7 (HFN.o.each _ (yP hxi));exact⟨a,_,c,e⟩
  subst hav
  have c0:wr.cell? (aD gf (i*3))=some (iV x1):=hcf 0 (by decide)
  have c1:wr.cell? (aD gf (i*3+1))=some (iV x2):=hcf 1 (by decide)
  have c2:wr.cell? (aD gf (i*3+2))=some (sL va vn vc):=hcf 2 (by decide)
  have HIN:Z ((x1,x2)∈t):=by rw[<-HVI.o];exact HVP.o.mem_iff.1 (Zd (by rw[HVL.o];exact hlt))
  have HB1:Z (BT (wr.alloc (.cells #[iV x1,iV x2,sL va vn vc] 182)) wr.heap.size #[iV x1,iV x2,sL va vn vc] 182):=BT.new _ _ _ _ rfl
  have HX1:Z (Nx wr (wr.alloc (.cells #[iV x1,iV x2,sL va vn vc] 182))):=Q4 _ _
  clear hcf hxi
  go_upto_region 5 with fail
  clear c0 c1 c2
  generalize wr.alloc (.cells #[iV x1,iV x2,sL va vn vc] 182)=w4 at *
  generalize wr.heap.size=fb at *
  have hxd:Nx w4 w4.drew:=(Below.refl _ _).drew
  have HXD:Z (Nx wr w4.drew):=HX1.o.trans hxd
  have HBd:=Q2 (HB1.o.next hxd)
  have HBXd:=Q2 (HBX.o.next HXD.o)
  have HRBd:=Q2 (HRB.o.next HXD.o)
  have HVMd:=Q2 (HVM.o.next HXD.o)
  have HFNd:=Q2 ((Gr.nx HXD.o).fnd HFN.o)
  have HXd:Z (Nx w0 w4.drew):=HX.o.trans HXD.o
  have HSS:Z ((λq=>q.cell? (aD pb 3)=some (.map (some mb))/\q.cell? (aD fb 0)=some (iV x1)/\q.cell? (aD fb 1)=some (iV x2)) w4.drew):=⟨HBXd.o.c 3 rfl,HBd.o.c 0 rfl,HBd.o.c 1 rfl⟩
  clear hxd HXD HB1 HX1 HBX HRB HVM HFN HX
  refine(wpIn_wide (n:=9)).1 ?_
  refine Qj (c:=7) (S:=λq=>q.cell? (aD pb 3)=some (.map (some mb))/\q.cell? (aD fb 0)=some (iV x1)/\q.cell? (aD fb 1)=some (iV x2)) hmx (by kernel_rfl) (λhw hcl=>?_)
  generalize w4.drew=wd at *
  refine tq (i:=0) (v:=pT pb) (λhcl=>?_)
  refine tq (i:=1) (v:=pT pb) (λhcl=>?_)
  refine tq (i:=2) (v:=.pointer (some (aD pb 3))) (λhcl=>?_)
  refine tq (i:=3) (v:=.map (some mb)) (λhcl=>?_)
  refine tq (i:=4) (v:=pT fb) (λhcl=>?_)
  refine tq (i:=5) (v:=.agg #[iV x1,iV x2]) (λhcl=>?_)
  refine tq (i:=6) (v:=iV (i:Int)) (λhcl=>?_)
  obtain⟨wp,hrun,hvm,hch⟩:=HVMd.o.upd (v:=(x1,x2)) (i:Int) HIN.o HTN.o
  have HVP2:=Q2 hvm
  have HCP:=Q2 hch
  unfold Wq at hrun
  refine Qg (i:=7) (by kernel_rfl) (wpOpIn_step rfl (λK hK=>?_))
  go_simp
  refine hK _ _ ⟨oL (by decide),?_⟩
  clear hK K
  refine Qm (by kernel_rfl) ?_ _
  clear hw hcl HSS hrun hvm hch
  have hno:¬ ∃cs ty,BT wd mb cs ty:=HVMd.o.noBT
  have HBX2:Z (BT wp pb #[pT L.br,sv,lv,.map (some mb),sL ia qn ic,iV kk,sL (sA gf) p fc] 170):=HBXd.o.chg HCP.o (λe=>hno ⟨_,_,by have e':pb=mb:=e;rw[<-e'];exact HBXd.o⟩)
  have HRB2:Z (BT wp rb #[sN,sN,sN,sN,sN,sN,sN] 30):=HRBd.o.chg HCP.o (λe=>hno ⟨_,_,by have e':rb=mb:=e;rw[<-e'];exact HRBd.o⟩)
  have HFN2:=Q2 ((show Gr wd wp from⟨_,HCP.o,λb e=>by have e':b=mb:=e;rw[e'];exact HVMd.o.odd⟩).fnd HFNd.o)
  have HX2:Z (Nx w0 wp):=Below.trans HXd.o (HCP.o.below HXd.o.size (λx e=>by have e':x=mb:=e;rw[e'];exact hgm))
  have HFI2:Z (∀j,j<i+1->(λu=>if u=(x1,x2) then (i:Int) else f u) (vtx vs j)=(j:Int)):=λj hj=>by
   show(if vtx vs j=(x1,x2) then (i:Int) else f (vtx vs j))=_
   by_cases e:j=i
   ·subst e;rw[if_pos HVI.o]
   ·rw[if_neg (λc=>e (Q5o HAS.o (by rw[HVL.o];omega) (by rw[HVL.o];omega) (c.trans HVI.o.symm)))]
    exact HFI.o j (by omega)
  clear hno HBXd HRBd HVMd HFNd HXd HBd
  go_wp2
  go_roundw
  case rel=>exact⟨i+1,_,by omega,by go_num,HBX2,HRB2,HVP2,HFN2,HX2,HFI2⟩
  case measure=>simp[intOf];omega
 have ei:p=i:=by omega
 subst ei
 have hlt0:¬(p:Int)<p:=by omega
 obtain⟨wG,hwG⟩:∃z,z=wr:=⟨_,rfl⟩
 rw[<-hwG] at HBX HRB HVM HFN HX
 have HIX:Z (∀u∈t,f u=Jw vs u):=λu hu=>by
  obtain⟨j,hj,e⟩:=Fj (HVP.o.mem_iff.2 hu)
  rw[<-e,Qcu HAS.o hj]
  exact HFI.o j (by have:=HVL.o;omega)
 have HLK:Z (∀q,Nx wG q->∀u1 u2,(u1,u2)∈t->(Instr.lookup 164 (.map (some mb)) (.agg #[iV u1,iV u2]) false).run prog q=.ok (iV (Jw vs (u1,u2))) q):=λq hq u1 u2 hu=>by
  have hv:=HVM.o.next hq
  obtain⟨es,ck,e1,e2,e3,e4⟩:=hv
  have hl:=(HVM.o.next hq).look (v:=(u1,u2)) (e4 _ hu) false
  rw[if_pos hu,HIX.o _ hu] at hl
  exact hl
 have HB3:Z (wG.cell? (aD pb 3)=some (.map (some mb))):=HBX.o.c 3 rfl
 have HB6:Z (wG.cell? (aD pb 6)=some (sL fa p fc)):=HBX.o.c 6 rfl
 have HB0:Z (wG.cell? (aD pb 0)=some (pT L.br)):=HBX.o.c 0 rfl
 have HM0:=Q2 (MS.graph0 wG)
 have HSG:=Q2 (HS.o.next HX.o)
 rw[<-hwG]
 clear hwG
 have k6:((wG.alloc (.cells #[iV 0] 2)).alloc (.cells #[sN,sN,sL (sA wG.heap.size) 1 1,sN,sN,sN,sN] 30)).cell? (aD pb 6)=some (sL fa p fc):=Q1 HM0.o.nx HB6.o
 go_upto_region 8 with fail
 generalize (wG.alloc (.cells #[iV 0] 2)).alloc (.cells #[sN,sN,sL (sA wG.heap.size) 1 1,sN,sN,sN,sN] 30)=wH at *
 generalize hg:wG.heap.size+1=g at *
 go_wp2
 clear k6 hg
 go_loopw [42] (λs42 wr=>∃(i al:Nat) (g0:Option Addr) (k0:Nat) (g1:Option Addr) (k1:Nat) (g2:Option Addr) (k2:Nat) (g3:Option Addr) (k3:Nat) (g4:Option Addr) (k4:Nat),i<=p/\al<=40000/\s42=iV i/\Z ((gTo (E1 N) (stA A) vs i).length=al)/\Z (MS wG wr [(g,#[sL g0 i k0,sL g1 i k1,sL g2 (i+1) k2,sL g3 al k3,sL g4 al k4,sN,sN],30)] [(sL g0 i k0,gEo vs i),(sL g1 i k1,gSo vs i),(sL g2 (i+1) k2,gFi (E1 N) (stA A) vs (i+1)),(sL g3 al k3,gTo (E1 N) (stA A) vs i),(sL g4 al k4,gCo N (E1 N) (stA A) vs i),(sN,[]),(sN,[])])) (λi _=>p-(intOf i).toNat)
 case atStart=>exact⟨0,0,none,0,none,0,_,_,none,0,none,0,nZ,by omega,rfl,rfl,HM0⟩
 clear HM0
 obtain⟨i,al,g0,k0,g1,k1,g2,k2,g3,k3,g4,k4,hip,hal,rfl,HAL,HY⟩:=hrel
 by_cases hlt:i<p
 ·have hlt':(i:Int)<p:=by omega
  obtain⟨x1,x2,av,hxi⟩:∃x1 x2 av,l'[i]?=some ((x1,x2),av):=⟨_,_,_,zJ (by rw[HLP'.o];exact hlt)⟩
  have HVI:Z (vtx vs i=(x1,x2)):=by unfold Z vtx;rw[<-HVS.o,zD,yD,hxi];rfl
  obtain⟨gf,cf,ef,-,-,-,-,hcf⟩:=Xn HFN.o.row rfl (by decide) (λ_=>rfl) hxi
  rw[HLP'.o] at ef
  simp only[zC] at ef
  obtain⟨rfl,-,rfl⟩:=ef
  have HAR0:=HFN.o.each _ (yP hxi)
  obtain⟨nx,hnx⟩:∃nx,nxV (E1 N) (stA A) (x1,x2)=nx:=⟨_,rfl⟩
  obtain⟨r,hr⟩:∃r,nx.length=r:=⟨_,rfl⟩
  have HAR:Z (Ap w0.heap.size wG av (nx.map (λu=>(u,Vz N (E1 N) (x1,x2) u)))):=by rw[<-hnx];exact HAR0
  obtain⟨va,vc,hav⟩:∃a c,av=sL a r c:=by obtain⟨a,c,e⟩:=Q7 HAR.o;rw[zG,hr] at e;exact⟨a,c,e⟩
  subst hav
  have c0:wr.cell? (aD gf (i*3))=some (iV x1):=Q1 HY.o.nx (hcf 0 (by decide))
  have c1:wr.cell? (aD gf (i*3+1))=some (iV x2):=Q1 HY.o.nx (hcf 1 (by decide))
  have c2:wr.cell? (aD gf (i*3+2))=some (sL va r vc):=Q1 HY.o.nx (hcf 2 (by decide))
  have HIN:Z ((x1,x2)∈t):=by rw[<-HVI.o];exact HVP.o.mem_iff.1 (Zd (by rw[HVL.o];exact hlt))
  have HNE:Z (nx=nxV (E1 N) (stA A) (vtx vs i)):=by rw[HVI.o];exact hnx.symm
  have HNR:Z (nx.length=r):=hr
  have HCL:Z (∀u∈nx,u∈t):=λu hu=>hcl0 _ HIN.o u (by rw[hnx];exact hu)
  have hrm:r<=4000:=by rw[<-hr,<-hnx];have:=Q10 (es:=(E1 N)) (st:=(stA A)) (x1,x2) (E1 N).length;unfold nxV;have:=F.m;omega
  have halr:al+r<=40000:=by
   have h1:=I7 (es:=(E1 N)) (st:=(stA A)) (vs:=vs) (i+1) (by rw[HVL.o];omega)
   rw[gTo,zA,HAL.o,zG,<-HNE.o,hr] at h1
   have h2:=Ak (es:=(E1 N)) (st:=(stA A)) (vs.take (i+1)) (vs.drop (i+1))
   rw[yF,Gq HVP.o] at h2
   omega
  have HY4:Z (MS wG (wr.alloc (.cells #[iV x1,iV x2,sL va r vc] 182)) _ _):=HY.o.addBox #[iV x1,iV x2,sL va r vc] 182 (by decide)
  clear hcf hxi HAR0 hnx hr HY
  go_upto_region 11 with fail
  clear c0 c1 c2
  generalize wr.alloc (.cells #[iV x1,iV x2,sL va r vc] 182)=w4 at *
  generalize wr.heap.size=fb at *
  have HY4:Z (MS wG w4 [(g,#[sL g0 i k0,sL g1 i k1,sL g2 (i+1) k2,sL g3 al k3,sL g4 al k4,sN,sN],30),(fb,#[iV x1,iV x2,sL va r vc],182)] [(sL g0 i k0,gEo vs i),(sL g1 i k1,gSo vs i),(sL g2 (i+1) k2,gFi (E1 N) (stA A) vs (i+1)),(sL g3 al k3,gTo (E1 N) (stA A) vs i),(sL g4 al k4,gCo N (E1 N) (stA A) vs i),(sN,[]),(sN,[])]):=HY4
  have q0_:w4.cell? (aD g 0)=some (sL g0 i k0):=(HY4.o.box 0 rfl).c 0 rfl
  have q1_:w4.cell? (aD fb 0)=some (iV x1):=(HY4.o.box 1 rfl).c 0 rfl
  have hzz:wG.heap.size<=w4.heap.size:=HY4.o.nx.size
  have hln_:(gEo vs i).length=i:=Fr i
  have hlb_:i<=1000000:=by omega
  go_upto_region 11 with fail
  go_wp2_with (at_builtin;refine Po rfl _ _ rfl wG.heap.size (i) (sL g0 i k0) (gEo vs i) (x1) w4 rfl (HY4.o.row 0 rfl) rfl hln_ hlb_ hzz ?_)
  intro ar1 cr1 wx1 p1 p2 p3
  have HE1:=Q2 (HY4.o.grow 0 rfl p1 p2 p3)
  clear p1 p2 p3 hzz hln_ hlb_ HY4 q0_ q1_
  have q_:wx1.cell? (aD g 0)=some (sL g0 i k0):=(HE1.o.box 0 rfl).c 0 rfl
  have f_:=(HE1.o.box 0 rfl).blk.frozen 0
  go_upto_region 12 with fail
  generalize hW:wx1.setCell (aD g 0) (sL ar1 (i+1) cr1)=ws1
  have HS1:Z (MS wG ws1 [(g,#[sL ar1 (i+1) cr1,sL g1 i k1,sL g2 (i+1) k2,sL g3 al k3,sL g4 al k4,sN,sN],30),(fb,#[iV x1,iV x2,sL va r vc],182)] [(sL ar1 (i+1) cr1,gEo vs i++[x1]),(sL g1 i k1,gSo vs i),(sL g2 (i+1) k2,gFi (E1 N) (stA A) vs (i+1)),(sL g3 al k3,gTo (E1 N) (stA A) vs i),(sL g4 al k4,gCo N (E1 N) (stA A) vs i),(sN,[]),(sN,[])]):=by rw[<-hW];exact HE1.o.set 0 rfl 0 (sL ar1 (i+1) cr1)
  clear hW HE1 q_ f_
  have q0_:ws1.cell? (aD g 1)=some (sL g1 i k1):=(HS1.o.box 0 rfl).c 1 rfl
  have q1_:ws1.cell? (aD fb 1)=some (iV x2):=(HS1.o.box 1 rfl).c 1 rfl
  have hzz:wG.heap.size<=ws1.heap.size:=HS1.o.nx.size
  have hln_:(gSo vs i).length=i:=Fp i
  have hlb_:i<=1000000:=by omega
  go_upto_region 12 with fail
  go_wp2_with (at_builtin;refine Po rfl _ _ rfl wG.heap.size (i) (sL g1 i k1) (gSo vs i) (x2) ws1 rfl (HS1.o.row 1 rfl) rfl hln_ hlb_ hzz ?_)
  intro ar2 cr2 wx2 p1 p2 p3
  have HE2:=Q2 (HS1.o.grow 1 rfl p1 p2 p3)
  clear p1 p2 p3 hzz hln_ hlb_ HS1 q0_ q1_
  have q_:wx2.cell? (aD g 1)=some (sL g1 i k1):=(HE2.o.box 0 rfl).c 1 rfl
  have f_:=(HE2.o.box 0 rfl).blk.frozen 1
  go_upto_region 13 with fail
  generalize hW:wx2.setCell (aD g 1) (sL ar2 (i+1) cr2)=ws2
  have HS2:Z (MS wG ws2 [(g,#[sL ar1 (i+1) cr1,sL ar2 (i+1) cr2,sL g2 (i+1) k2,sL g3 al k3,sL g4 al k4,sN,sN],30),(fb,#[iV x1,iV x2,sL va r vc],182)] [(sL ar1 (i+1) cr1,gEo vs i++[x1]),(sL ar2 (i+1) cr2,gSo vs i++[x2]),(sL g2 (i+1) k2,gFi (E1 N) (stA A) vs (i+1)),(sL g3 al k3,gTo (E1 N) (stA A) vs i),(sL g4 al k4,gCo N (E1 N) (stA A) vs i),(sN,[]),(sN,[])]):=by rw[<-hW];exact HE2.o.set 0 rfl 1 (sL ar2 (i+1) cr2)
  clear hW HE2 q_ f_
  have t2_:ws2.cell? (aD fb 2)=some (sL va r vc):=(HS2.o.box 1 rfl).c 2 rfl
  go_wp2
  clear t2_
  go_loopw [65] (λs65 wr=>∃(j:Nat) (g3:Option Addr) (k3:Nat) (g4:Option Addr) (k4:Nat),j<=r/\s65=iV j/\Z (MS wG wr [(g,#[sL ar1 (i+1) cr1,sL ar2 (i+1) cr2,sL g2 (i+1) k2,sL g3 (al+j) k3,sL g4 (al+j) k4,sN,sN],30),(fb,#[iV x1,iV x2,sL va r vc],182)] [(sL ar1 (i+1) cr1,gEo vs i++[x1]),(sL ar2 (i+1) cr2,gSo vs i++[x2]),(sL g2 (i+1) k2,gFi (E1 N) (stA A) vs (i+1)),(sL g3 (al+j) k3,gTo (E1 N) (stA A) vs i++(nx.take j).map (Jw vs)),(sL g4 (al+j) k4,gCo N (E1 N) (stA A) vs i++(nx.take j).map (Vz N (E1 N) (vtx vs i))),(sN,[]),(sN,[])])) (λi _=>r-(intOf i).toNat)
  case atStart=>exact⟨0,_,_,_,_,nZ,rfl,by have h:=HS2.o;unfold Z;rw[List.take_zero,List.map_nil,List.map_nil,List.append_nil,List.append_nil];exact h⟩
  clear HS2
  obtain⟨j,g3,k3,g4,k4,hjr,rfl,HI⟩:=hrel
  by_cases hltj:j<r
  ·have hltj':(j:Int)<r:=by omega
   obtain⟨u1,u2,hu⟩:∃u1 u2,vtx nx j=(u1,u2):=⟨_,_,rfl⟩
   have hjl:j<nx.length:=by have:=HNR.o;omega
   obtain⟨ga,cA,eA,-,-,-,-,hcA⟩:=Xn HAR.o rfl (by decide) (λ_=>rfl) (i:=j) (x:=((u1,u2),Vz N (E1 N) (x1,x2) (u1,u2))) (by rw[yD,zJ hjl,<-hu,Yz hjl];rfl)
   rw[zG,HNR.o] at eA
   simp only[zC] at eA
   obtain⟨rfl,-,rfl⟩:=eA
   obtain⟨ct,hct⟩:∃ct,Vz N (E1 N) (x1,x2) (u1,u2)=ct:=⟨_,rfl⟩
   have c0:wr.cell? (aD ga (j*3))=some (iV u1):=Q1 HI.o.nx (hcA 0 (by decide))
   have c1:wr.cell? (aD ga (j*3+1))=some (iV u2):=Q1 HI.o.nx (hcA 1 (by decide))
   have c2:wr.cell? (aD ga (j*3+2))=some (iV ct):=by rw[<-hct];exact Q1 HI.o.nx (hcA 2 (by decide))
   have HUT:Z ((u1,u2)∈t):=HCL.o _ (by rw[<-hu];exact Zd hjl)
   have HF3:Z (gTo (E1 N) (stA A) vs i++(nx.take (j+1)).map (Jw vs)=gTo (E1 N) (stA A) vs i++(nx.take j).map (Jw vs)++[Jw vs (u1,u2)]):=by unfold Z;rw[Fl hjl,hu,yE]
   have HF4:Z (gCo N (E1 N) (stA A) vs i++(nx.take (j+1)).map (Vz N (E1 N) (vtx vs i))=gCo N (E1 N) (stA A) vs i++(nx.take j).map (Vz N (E1 N) (vtx vs i))++[ct]):=by unfold Z;rw[Fl hjl,hu,HVI.o,hct,yE]
   have HI6:Z (MS wG (wr.alloc (.cells #[iV u1,iV u2,iV ct] 180)) _ _):=HI.o.addBox #[iV u1,iV u2,iV ct] 180 (by decide)
   clear hcA hu hct HI
   go_upto_region 16 with fail
   clear c0 c1 c2
   generalize wr.alloc (.cells #[iV u1,iV u2,iV ct] 180)=w6 at *
   generalize wr.heap.size=ab at *
   have HI6:Z (MS wG w6 [(g,#[sL ar1 (i+1) cr1,sL ar2 (i+1) cr2,sL g2 (i+1) k2,sL g3 (al+j) k3,sL g4 (al+j) k4,sN,sN],30),(fb,#[iV x1,iV x2,sL (sA ga) r vc],182),(ab,#[iV u1,iV u2,iV ct],180)] [(sL ar1 (i+1) cr1,gEo vs i++[x1]),(sL ar2 (i+1) cr2,gSo vs i++[x2]),(sL g2 (i+1) k2,gFi (E1 N) (stA A) vs (i+1)),(sL g3 (al+j) k3,gTo (E1 N) (stA A) vs i++(nx.take j).map (Jw vs)),(sL g4 (al+j) k4,gCo N (E1 N) (stA A) vs i++(nx.take j).map (Vz N (E1 N) (vtx vs i))),(sN,[]),(sN,[])]):=HI6
   go_upto_region 16 with fail
   have HD3:=Q2 (HI6.o.next (show Nx w6 w6.drew from(Below.refl _ _).drew))
   have HSS:Z ((λq=>q.cell? (aD g 3)=some (sL g3 (al+j) k3)/\q.cell? (aD pb 3)=some (.map (some mb))/\q.cell? (aD ab 0)=some (iV u1)/\q.cell? (aD ab 1)=some (iV u2)/\(Instr.lookup 164 (.map (some mb)) (.agg #[iV u1,iV u2]) false).run prog q=.ok (iV (Jw vs (u1,u2))) q) w6.drew):=⟨(HD3.o.box 0 rfl).c 3 rfl,Q1 HD3.o.nx HB3.o,(HD3.o.box 2 rfl).c 0 rfl,(HD3.o.box 2 rfl).c 1 rfl,HLK.o _ (HD3.o.nx) u1 u2 HUT.o⟩
   clear HI6
   refine(wpIn_wide (n:=9)).1 ?_
   refine Qj (c:=12) (S:=λq=>q.cell? (aD g 3)=some (sL g3 (al+j) k3)/\q.cell? (aD pb 3)=some (.map (some mb))/\q.cell? (aD ab 0)=some (iV u1)/\q.cell? (aD ab 1)=some (iV u2)/\(Instr.lookup 164 (.map (some mb)) (.agg #[iV u1,iV u2]) false).run prog q=.ok (iV (Jw vs (u1,u2))) q) hmx (by kernel_rfl) (λhw hcl=>?_)
   generalize w6.drew=wd3 at *
   refine tq (i:=0) (v:=.pointer (some (aD g 3))) (λhcl=>?_)
   refine tq (i:=1) (v:=sL g3 (al+j) k3) (λhcl=>?_)
   refine tq (i:=2) (v:=pT pb) (λhcl=>?_)
   refine tq (i:=3) (v:=pT pb) (λhcl=>?_)
   refine tq (i:=4) (v:=.pointer (some (aD pb 3))) (λhcl=>?_)
   refine tq (i:=5) (v:=.map (some mb)) (λhcl=>?_)
   refine tq (i:=6) (v:=pT ab) (λhcl=>?_)
   refine tq (i:=7) (v:=.agg #[iV u1,iV u2]) (λhcl=>?_)
   refine tq (i:=8) (v:=iV (Jw vs (u1,u2))) (λhcl=>?_)
   refine Qo (i:=9) (by kernel_rfl) hcl (λhcl=>wpOpIn_step rfl (λK hK=>?_))
   go_simp
   refine hK _ _ ⟨oR ⟨Q1 (Q4 _ _) HSS.o.1,Q1 (Q4 _ _) HSS.o.2.1,Q1 (Q4 _ _) HSS.o.2.2.1,Q1 (Q4 _ _) HSS.o.2.2.2.1,HLK.o _ (HD3.o.nx.trans (Q4 _ _)) u1 u2 HUT.o⟩,?_⟩
   clear hK K
   have hzz:wG.heap.size<=wd3.heap.size:=HD3.o.nx.size
   refine Qo (i:=10) (by kernel_rfl) hcl (λhcl=>wpOpIn_step rfl (λK hK=>?_))
   refine Xl rfl (.tmp 70) (.tmp 78) rfl wG.heap.size ((al+j)) (sL g3 (al+j) k3) (gTo (E1 N) (stA A) vs i++(nx.take j).map (Jw vs)) (Jw vs (u1,u2)) wd3 _ rfl (by simp[Act.eval]) (HD3.o.row 3 rfl) (by simp[Act.eval]) (by rw[zA,HAL.o,zG,yC,HNR.o];omega) (by omega) hzz ?_
   intro ar3 cr3 wx3 p1 p2 p3
   have HE3:=Q2 (HD3.o.grow 3 rfl p1 p2 p3)
   clear p1 p2 p3 hzz HSS
   have HSS:Z ((λq=>q.cell? (aD g 3)=some (sL g3 (al+j) k3)/\q.cell? (aD pb 3)=some (.map (some mb))/\q.cell? (aD ab 0)=some (iV u1)/\q.cell? (aD ab 1)=some (iV u2)/\(Instr.lookup 164 (.map (some mb)) (.agg #[iV u1,iV u2]) false).run prog q=.ok (iV (Jw vs (u1,u2))) q) wx3):=⟨(HE3.o.box 0 rfl).c 3 rfl,Q1 HE3.o.nx HB3.o,(HE3.o.box 2 rfl).c 0 rfl,(HE3.o.box 2 rfl).c 1 rfl,HLK.o _ (HE3.o.nx) u1 u2 HUT.o⟩
   refine hK _ _ ⟨oR HSS.o,?_⟩
   clear hK K HD3
   refine tq (i:=11) (v:=.pointer (some (aD g 3))) (λhcl=>?_)
   have q_:wx3.cell? (aD g 3)=some (sL g3 (al+j) k3):=(HE3.o.box 0 rfl).c 3 rfl
   have f_:=(HE3.o.box 0 rfl).blk.frozen 3
   refine Qg (i:=12) (by kernel_rfl) (wpOpIn_step rfl (λK hK=>?_))
   go_simp
   refine hK _ _ ⟨oL (by decide),?_⟩
   clear hK K
   refine Qm (by kernel_rfl) ?_ _
   clear hw hcl q_ f_ HSS
   generalize hW:wx3.setCell (aD g 3) (sL ar3 ((al+j)+1) cr3)=ws3
   have HS3:Z (MS wG ws3 [(g,#[sL ar1 (i+1) cr1,sL ar2 (i+1) cr2,sL g2 (i+1) k2,sL ar3 ((al+j)+1) cr3,sL g4 (al+j) k4,sN,sN],30),(fb,#[iV x1,iV x2,sL (sA ga) r vc],182),(ab,#[iV u1,iV u2,iV ct],180)] [(sL ar1 (i+1) cr1,gEo vs i++[x1]),(sL ar2 (i+1) cr2,gSo vs i++[x2]),(sL g2 (i+1) k2,gFi (E1 N) (stA A) vs (i+1)),(sL ar3 ((al+j)+1) cr3,gTo (E1 N) (stA A) vs i++(nx.take j).map (Jw vs)++[Jw vs (u1,u2)]),(sL g4 (al+j) k4,gCo N (E1 N) (stA A) vs i++(nx.take j).map (Vz N (E1 N) (vtx vs i))),(sN,[]),(sN,[])]):=by rw[<-hW];exact HE3.o.set 0 rfl 3 (sL ar3 ((al+j)+1) cr3)
   clear hW HE3
   have q0_:ws3.cell? (aD g 4)=some (sL g4 (al+j) k4):=(HS3.o.box 0 rfl).c 4 rfl
   have q1_:ws3.cell? (aD ab 2)=some (iV ct):=(HS3.o.box 2 rfl).c 2 rfl
   have hzz:wG.heap.size<=ws3.heap.size:=HS3.o.nx.size
   have hln_:(gCo N (E1 N) (stA A) vs i++(nx.take j).map (Vz N (E1 N) (vtx vs i))).length=(al+j):=by rw[zA,Fs,HAL.o,zG,yC,HNR.o];omega
   have hlb_:(al+j)<=1000000:=by omega
   go_upto_region 17 with fail
   go_wp2_with (at_builtin;refine Po rfl _ _ rfl wG.heap.size ((al+j)) (sL g4 (al+j) k4) (gCo N (E1 N) (stA A) vs i++(nx.take j).map (Vz N (E1 N) (vtx vs i))) (ct) ws3 rfl (HS3.o.row 4 rfl) rfl hln_ hlb_ hzz ?_)
   intro ar4 cr4 wx4 p1 p2 p3
   have HE4:Z (MS wG wx4 [(g,#[sL ar1 (i+1) cr1,sL ar2 (i+1) cr2,sL g2 (i+1) k2,sL ar3 ((al+j)+1) cr3,sL g4 (al+j) k4,sN,sN],30),(fb,#[iV x1,iV x2,sL (sA ga) r vc],182),(ab,#[iV u1,iV u2,iV ct],180)] [(sL ar1 (i+1) cr1,gEo vs i++[x1]),(sL ar2 (i+1) cr2,gSo vs i++[x2]),(sL g2 (i+1) k2,gFi (E1 N) (stA A) vs (i+1)),(sL ar3 ((al+j)+1) cr3,gTo (E1 N) (stA A) vs i++(nx.take j).map (Jw vs)++[Jw vs (u1,u2)]),(sL ar4 ((al+j)+1) cr4,gCo N (E1 N) (stA A) vs i++(nx.take j).map (Vz N (E1 N) (vtx vs i))++[ct]),(sN,[]),(sN,[])]):=HS3.o.grow 4 rfl (by simpa only [List.map_take,yE] using p1) p2 p3
   clear p1 p2 p3 hzz hln_ hlb_ HS3 q0_ q1_
   have q_:wx4.cell? (aD g 4)=some (sL g4 (al+j) k4):=(HE4.o.box 0 rfl).c 4 rfl
   have f_:=(HE4.o.box 0 rfl).blk.frozen 4
   go_upto_region 18 with fail
   generalize hW:wx4.setCell (aD g 4) (sL ar4 ((al+j)+1) cr4)=ws4
   have HS4:Z (MS wG ws4 [(g,#[sL ar1 (i+1) cr1,sL ar2 (i+1) cr2,sL g2 (i+1) k2,sL ar3 ((al+j)+1) cr3,sL ar4 ((al+j)+1) cr4,sN,sN],30),(fb,#[iV x1,iV x2,sL (sA ga) r vc],182),(ab,#[iV u1,iV u2,iV ct],180)] [(sL ar1 (i+1) cr1,gEo vs i++[x1]),(sL ar2 (i+1) cr2,gSo vs i++[x2]),(sL g2 (i+1) k2,gFi (E1 N) (stA A) vs (i+1)),(sL ar3 ((al+j)+1) cr3,gTo (E1 N) (stA A) vs i++(nx.take j).map (Jw vs)++[Jw vs (u1,u2)]),(sL ar4 ((al+j)+1) cr4,gCo N (E1 N) (stA A) vs i++(nx.take j).map (Vz N (E1 N) (vtx vs i))++[ct]),(sN,[]),(sN,[])]):=by rw[<-hW];exact HE4.o.set 0 rfl 4 (sL ar4 ((al+j)+1) cr4)
   clear hW HE4 q_ f_
   have HIE:=Q2 (MS.pop (bl:=[(g,#[sL ar1 (i+1) cr1,sL ar2 (i+1) cr2,sL g2 (i+1) k2,sL ar3 ((al+j)+1) cr3,sL ar4 ((al+j)+1) cr4,sN,sN],30),(fb,#[iV x1,iV x2,sL (sA ga) r vc],182)]) HS4.o)
   clear HS4
   go_wp2
   go_roundw
   case rel=>exact⟨j+1,ar3,cr3,ar4,cr4,by omega,by go_num,by rw[HF3.o,HF4.o];exact HIE.o⟩
   case measure=>simp[intOf];omega
  have ej:r=j:=by omega
  subst ej
  have hlt1:¬(r:Int)<r:=by omega
  have HT3:Z (gTo (E1 N) (stA A) vs i++(nx.take r).map (Jw vs)=gTo (E1 N) (stA A) vs (i+1)):=by unfold Z;rw[gTo,<-HNE.o,<-HNR.o,zU]
  have HT4:Z (gCo N (E1 N) (stA A) vs i++(nx.take r).map (Vz N (E1 N) (vtx vs i))=gCo N (E1 N) (stA A) vs (i+1)):=by unfold Z;rw[gCo,<-HNE.o,<-HNR.o,zU]
  rw[HT3.o,HT4.o] at HI
  have HAL1:Z ((gTo (E1 N) (stA A) vs (i+1)).length=al+r):=by unfold Z;rw[gTo,zA,HAL.o,zG,<-HNE.o,HNR.o]
  have HG0:Z (gEo vs (i+1)=gEo vs i++[x1]):=by unfold Z;rw[gEo,HVI.o]
  have HG1:Z (gSo vs (i+1)=gSo vs i++[x2]):=by unfold Z;rw[gSo,HVI.o]
  obtain⟨al2,hal2⟩:∃z,al+r=z:=⟨_,rfl⟩
  rw[hal2] at HI HAL1 halr
  have HG2:Z (gFi (E1 N) (stA A) vs (i+1+1)=gFi (E1 N) (stA A) vs (i+1)++[(al2:Int)]):=by unfold Z;rw[gFi,HAL1.o]
  have HI2:Z (MS wG wr [(g,#[sL ar1 (i+1) cr1,sL ar2 (i+1) cr2,sL g2 (i+1) k2,sL g3 al2 k3,sL g4 al2 k4,sN,sN],30),(fb,#[iV x1,iV x2,sL va r vc],182)] [(sL ar1 (i+1) cr1,gEo vs i++[x1]),(sL ar2 (i+1) cr2,gSo vs i++[x2]),(sL g2 (i+1) k2,gFi (E1 N) (stA A) vs (i+1)),(sL g3 al2 k3,gTo (E1 N) (stA A) vs (i+1)),(sL g4 al2 k4,gCo N (E1 N) (stA A) vs (i+1)),(sN,[]),(sN,[])]):=HI
  clear HI HT3 HT4 hal2
  have q0_:wr.cell? (aD g 2)=some (sL g2 (i+1) k2):=(HI2.o.box 0 rfl).c 2 rfl
  have q1_:wr.cell? (aD g 3)=some (sL g3 al2 k3):=(HI2.o.box 0 rfl).c 3 rfl
  have hzz:wG.heap.size<=wr.heap.size:=HI2.o.nx.size
  have hln_:(gFi (E1 N) (stA A) vs (i+1)).length=(i+1):=I8 (i+1)
  have hlb_:(i+1)<=1000000:=by omega
  go_upto_region 19 with fail
  go_wp2_with (at_builtin;refine Po rfl _ _ rfl wG.heap.size ((i+1)) (sL g2 (i+1) k2) (gFi (E1 N) (stA A) vs (i+1)) ((al2:Int)) wr rfl (HI2.o.row 2 rfl) rfl hln_ hlb_ hzz ?_)
  intro ar5 cr5 wx5 p1 p2 p3
  have HE5:=Q2 (HI2.o.grow 2 rfl p1 p2 p3)
  clear p1 p2 p3 hzz hln_ hlb_ HI2 q0_ q1_
  have q_:wx5.cell? (aD g 2)=some (sL g2 (i+1) k2):=(HE5.o.box 0 rfl).c 2 rfl
  have f_:=(HE5.o.box 0 rfl).blk.frozen 2
  go_upto_region 20 with fail
  generalize hW:wx5.setCell (aD g 2) (sL ar5 ((i+1)+1) cr5)=ws5
  have HS5:Z (MS wG ws5 [(g,#[sL ar1 (i+1) cr1,sL ar2 (i+1) cr2,sL ar5 ((i+1)+1) cr5,sL g3 al2 k3,sL g4 al2 k4,sN,sN],30),(fb,#[iV x1,iV x2,sL va r vc],182)] [(sL ar1 (i+1) cr1,gEo vs i++[x1]),(sL ar2 (i+1) cr2,gSo vs i++[x2]),(sL ar5 ((i+1)+1) cr5,gFi (E1 N) (stA A) vs (i+1)++[(al2:Int)]),(sL g3 al2 k3,gTo (E1 N) (stA A) vs (i+1)),(sL g4 al2 k4,gCo N (E1 N) (stA A) vs (i+1)),(sN,[]),(sN,[])]):=by rw[<-hW];exact HE5.o.set 0 rfl 2 (sL ar5 ((i+1)+1) cr5)
  clear hW HE5 q_ f_
  have HIE:=Q2 (MS.pop (bl:=[(g,#[sL ar1 (i+1) cr1,sL ar2 (i+1) cr2,sL ar5 ((i+1)+1) cr5,sL g3 al2 k3,sL g4 al2 k4,sN,sN],30)]) HS5.o)
  clear HS5
  go_wp2
  go_roundw
  case rel=>exact⟨i+1,al2,_,_,_,_,_,_,_,_,_,_,by omega,halr,by go_num,HAL1,by rw[HG0.o,HG1.o,HG2.o];exact HIE.o⟩
  case measure=>simp[intOf];omega
 have ei:p=i:=by omega
 subst ei
 have hlt0:¬(p:Int)<p:=by omega
 obtain⟨ae,ce,hve⟩:=Q7 HSG.o.lr.all
 rw[zG,zY] at hve
 obtain⟨m,hm⟩:∃m,(E1 N).length=m:=⟨_,rfl⟩
 have hm4:m<=4000:=by rw[<-hm];exact F.m
 rw[hm] at hve
 have HM:Z ((E1 N).length=m):=hm
 have HEC:Z (∀i,i<m->∃g,ae=some (aD g 0)/\wG.cell? (aD g i)=some (pT (L.eb i))):=λi hi=>by
  obtain⟨ge,ce',ee,-,-,hrw⟩:=HSG.o.lr.all.open (by simp;omega)
  rw[zG,zY,hve,hm] at ee
  rw[zG,zY,hm] at hrw
  simp only[zC] at ee
  have kx:=hrw.cell hi
  rw[show((List.range m).map L.eb).getD i 0=L.eb i by simp[List.getD_eq_getElem?_getD,hi]] at kx
  exact⟨ge,ee.1,kx⟩
 have HR5:Z (wG.cell? (aD L.br 5)=some (sL ae m ce)):=by have h:=HSG.o.lr.road.c 5 rfl;rw[hve] at h;exact h
 have k0_:wr.cell? (aD pb 0)=some (pT L.br):=Q1 HY.o.nx HB0.o
 have k5_:wr.cell? (aD L.br 5)=some (sL ae m ce):=Q1 HY.o.nx HR5.o
 clear hve hm
 go_wp2
 clear k0_ k5_
 go_loopw [106] (λs106 wr=>∃(e:Nat) (g5:Option Addr) (k5:Nat) (g6:Option Addr) (k6:Nat),e<=m/\s106=iV e/\Z (MS wG wr [(g,#[sL g0 p k0,sL g1 p k1,sL g2 (p+1) k2,sL g3 al k3,sL g4 al k4,sL g5 e k5,sL g6 e k6],30)] [(sL g0 p k0,gEo vs p),(sL g1 p k1,gSo vs p),(sL g2 (p+1) k2,gFi (E1 N) (stA A) vs (p+1)),(sL g3 al k3,gTo (E1 N) (stA A) vs p),(sL g4 al k4,gCo N (E1 N) (stA A) vs p),(sL g5 e k5,gSa (stA A) vs e),(sL g6 e k6,gWe (E1 N) e)])) (λi _=>m-(intOf i).toNat)
 case atStart=>exact⟨0,none,0,none,0,nZ,rfl,HY⟩
 clear HY
 obtain⟨e,g5,k5,g6,k6,hem,rfl,HL⟩:=hrel
 by_cases hlte:e<m
 ·have hlt':(e:Int)<m:=by omega
  obtain⟨ge,rfl,kx0⟩:=HEC.o e hlte
  have kx:=Q1 HL.o.nx kx0
  obtain⟨wt,hwt⟩:∃z,(eat (E1 N) e).weight=z:=⟨_,rfl⟩
  have HWT:Z (wG.cell? (aD (L.eb e) 2)=some (iV wt)):=by rw[<-hwt];exact(HSG.o.lr.edge e (by rw[HM.o];exact hlte)).c 2 rfl
  have HWE:Z (gWe (E1 N) (e+1)=gWe (E1 N) e++[wt]):=by unfold Z;rw[gWe,hwt]
  have HSE:Z (gSa (stA A) vs (e+1)=gSa (stA A) vs e++[Jw vs ((e:Int),(stA A) 0 (e:Int))]):=rfl
  have HET:Z (((e:Int),(stA A) 0 (e:Int))∈t):=hst0 e (by rw[HM.o];exact hlte)
  clear hwt kx0
  go_upto_region 24 with fail
  clear kx
  go_upto_region 24 with fail
  have HD6:=Q2 (HL.o.next (show Nx wr wr.drew from(Below.refl _ _).drew))
  have HSS:Z ((λq=>q.cell? (aD g 5)=some (sL g5 e k5)/\q.cell? (aD pb 3)=some (.map (some mb))/\(Instr.lookup 164 (.map (some mb)) (.agg #[iV (e:Int),iV ((stA A) 0 (e:Int))]) false).run prog q=.ok (iV (Jw vs ((e:Int),((stA A) 0 (e:Int))))) q) wr.drew):=⟨(HD6.o.box 0 rfl).c 5 rfl,Q1 HD6.o.nx HB3.o,HLK.o _ (HD6.o.nx) _ _ HET.o⟩
  clear HL
  refine(wpIn_wide (n:=9)).1 ?_
  refine Qj (c:=13) (S:=λq=>q.cell? (aD g 5)=some (sL g5 e k5)/\q.cell? (aD pb 3)=some (.map (some mb))/\(Instr.lookup 164 (.map (some mb)) (.agg #[iV (e:Int),iV ((stA A) 0 (e:Int))]) false).run prog q=.ok (iV (Jw vs ((e:Int),((stA A) 0 (e:Int))))) q) hmx (by kernel_rfl) (λhw hcl=>?_)
  generalize wr.drew=wd6 at *
  refine tq (i:=0) (v:=.pointer (some (aD g 5))) (λhcl=>?_)
  refine tq (i:=1) (v:=sL g5 e k5) (λhcl=>?_)
  refine tq (i:=2) (v:=pT pb) (λhcl=>?_)
  refine tq (i:=3) (v:=pT pb) (λhcl=>?_)
  refine tq (i:=4) (v:=.pointer (some (aD pb 3))) (λhcl=>?_)
  refine tq (i:=5) (v:=.map (some mb)) (λhcl=>?_)
  refine tq (i:=6) (v:=pT pb) (λhcl=>?_)
  refine tq (i:=7) (v:=pT (L.eb e)) (λhcl=>?_)
  refine Qo (i:=8) (by kernel_rfl) hcl (λhcl=>wpOpIn_step rfl (λK hK=>?_))
  go_simp
  refine⟨trivial,(callsIn_wide.2 (Q0n N A F C B D pb e L sv bl fl mv _ _ _ _ _ _ _ (HSG.o.next HD6.o.nx) (HBX.o.next HD6.o.nx) (by rw[HM.o];exact hlte))).mono ?_⟩
  rintro e9 wc60 ⟨rfl,hx9⟩
  have HDc60:=Q2 (HD6.o.next hx9)
  have HSS:Z ((λq=>q.cell? (aD g 5)=some (sL g5 e k5)/\q.cell? (aD pb 3)=some (.map (some mb))/\(Instr.lookup 164 (.map (some mb)) (.agg #[iV (e:Int),iV ((stA A) 0 (e:Int))]) false).run prog q=.ok (iV (Jw vs ((e:Int),((stA A) 0 (e:Int))))) q) wc60):=⟨Q1 hx9 HSS.o.1,Q1 hx9 HSS.o.2.1,HLK.o _ (HDc60.o.nx) _ _ HET.o⟩
  refine hK _ _ ⟨oR HSS.o,?_⟩
  clear hK K hx9 HD6
  refine tq (i:=9) (v:=iV (Jw vs ((e:Int),(stA A) 0 (e:Int)))) (λhcl=>?_)
  refine Qo (i:=10) (by kernel_rfl) hcl (λhcl=>wpOpIn_step rfl (λK hK=>?_))
  go_simp
  refine hK _ _ ⟨oR ⟨Q1 (Q4 _ _) HSS.o.1,Q1 (Q4 _ _) HSS.o.2.1,HLK.o _ (HDc60.o.nx.trans (Q4 _ _)) _ _ HET.o⟩,?_⟩
  clear hK K
  have hzz:wG.heap.size<=wc60.heap.size:=HDc60.o.nx.size
  refine Qo (i:=11) (by kernel_rfl) hcl (λhcl=>wpOpIn_step rfl (λK hK=>?_))
  refine Xl rfl (.tmp 111) (.tmp 120) rfl wG.heap.size (e) (sL g5 e k5) (gSa (stA A) vs e) (Jw vs ((e:Int),(stA A) 0 (e:Int))) wc60 _ rfl (by simp[Act.eval]) (HDc60.o.row 5 rfl) (by simp[Act.eval]) (Fq e) (by omega) hzz ?_
  intro ar6 cr6 wx6 p1 p2 p3
  have HE6:=Q2 (HDc60.o.grow 5 rfl p1 p2 p3)
  clear p1 p2 p3 hzz HSS
  have HSS:Z ((λq=>q.cell? (aD g 5)=some (sL g5 e k5)/\q.cell? (aD pb 3)=some (.map (some mb))/\(Instr.lookup 164 (.map (some mb)) (.agg #[iV (e:Int),iV ((stA A) 0 (e:Int))]) false).run prog q=.ok (iV (Jw vs ((e:Int),((stA A) 0 (e:Int))))) q) wx6):=⟨(HE6.o.box 0 rfl).c 5 rfl,Q1 HE6.o.nx HB3.o,HLK.o _ (HE6.o.nx) _ _ HET.o⟩
  refine hK _ _ ⟨oR HSS.o,?_⟩
  clear hK K HDc60
  refine tq (i:=12) (v:=.pointer (some (aD g 5))) (λhcl=>?_)
  have q_:wx6.cell? (aD g 5)=some (sL g5 e k5):=(HE6.o.box 0 rfl).c 5 rfl
  have f_:=(HE6.o.box 0 rfl).blk.frozen 5
  refine Qg (i:=13) (by kernel_rfl) (wpOpIn_step rfl (λK hK=>?_))
  go_simp
  refine hK _ _ ⟨oL (by decide),?_⟩
  clear hK K
  refine Qm (by kernel_rfl) ?_ _
  clear hw hcl q_ f_ HSS
  generalize hW:wx6.setCell (aD g 5) (sL ar6 (e+1) cr6)=ws6
  have HS6:Z (MS wG ws6 [(g,#[sL g0 p k0,sL g1 p k1,sL g2 (p+1) k2,sL g3 al k3,sL g4 al k4,sL ar6 (e+1) cr6,sL g6 e k6],30)] [(sL g0 p k0,gEo vs p),(sL g1 p k1,gSo vs p),(sL g2 (p+1) k2,gFi (E1 N) (stA A) vs (p+1)),(sL g3 al k3,gTo (E1 N) (stA A) vs p),(sL g4 al k4,gCo N (E1 N) (stA A) vs p),(sL ar6 (e+1) cr6,gSa (stA A) vs e++[Jw vs ((e:Int),(stA A) 0 (e:Int))]),(sL g6 e k6,gWe (E1 N) e)]):=by rw[<-hW];exact HE6.o.set 0 rfl 5 (sL ar6 (e+1) cr6)
  clear hW HE6
  go_upto_region 25 with fail
  have HD7:=Q2 (HS6.o.next (show Nx ws6 ws6.drew from(Below.refl _ _).drew))
  have HSS:Z ((λq=>q.cell? (aD g 6)=some (sL g6 e k6)/\q.cell? (aD (L.eb e) 2)=some (iV wt)) ws6.drew):=⟨(HD7.o.box 0 rfl).c 6 rfl,Q1 HD7.o.nx HWT.o⟩
  clear HS6
  refine(wpIn_wide (n:=9)).1 ?_
  refine Qj (c:=10) (S:=λq=>q.cell? (aD g 6)=some (sL g6 e k6)/\q.cell? (aD (L.eb e) 2)=some (iV wt)) hmx (by kernel_rfl) (λhw hcl=>?_)
  generalize ws6.drew=wd7 at *
  refine tq (i:=0) (v:=.pointer (some (aD g 6))) (λhcl=>?_)
  refine tq (i:=1) (v:=sL g6 e k6) (λhcl=>?_)
  refine tq (i:=2) (v:=pT (L.eb e)) (λhcl=>?_)
  refine tq (i:=3) (v:=pT (L.eb e)) (λhcl=>?_)
  refine tq (i:=4) (v:=pT (L.eb e)) (λhcl=>?_)
  refine tq (i:=5) (v:=.pointer (some (aD (L.eb e) 2))) (λhcl=>?_)
  refine tq (i:=6) (v:=iV wt) (λhcl=>?_)
  refine Qo (i:=7) (by kernel_rfl) hcl (λhcl=>wpOpIn_step rfl (λK hK=>?_))
  go_simp
  refine hK _ _ ⟨oR ⟨Q1 (Q4 _ _) HSS.o.1,Q1 (Q4 _ _) HSS.o.2⟩,?_⟩
  clear hK K
  have hzz:wG.heap.size<=wd7.heap.size:=HD7.o.nx.size
  refine Qo (i:=8) (by kernel_rfl) hcl (λhcl=>wpOpIn_step rfl (λK hK=>?_))
  refine Xl rfl (.tmp 124) (.tmp 130) rfl wG.heap.size (e) (sL g6 e k6) (gWe (E1 N) e) (wt) wd7 _ rfl (by simp[Act.eval]) (HD7.o.row 6 rfl) (by simp[Act.eval]) (Fo e) (by omega) hzz ?_
  intro ar7 cr7 wx7 p1 p2 p3
  have HE7:=Q2 (HD7.o.grow 6 rfl p1 p2 p3)
  clear p1 p2 p3 hzz HSS
  have HSS:Z ((λq=>q.cell? (aD g 6)=some (sL g6 e k6)/\q.cell? (aD (L.eb e) 2)=some (iV wt)) wx7):=⟨(HE7.o.box 0 rfl).c 6 rfl,Q1 HE7.o.nx HWT.o⟩
  refine hK _ _ ⟨oR HSS.o,?_⟩
  clear hK K HD7
  refine tq (i:=9) (v:=.pointer (some (aD g 6))) (λhcl=>?_)
  have q_:wx7.cell? (aD g 6)=some (sL g6 e k6):=(HE7.o.box 0 rfl).c 6 rfl
  have f_:=(HE7.o.box 0 rfl).blk.frozen 6
  refine Qg (i:=10) (by kernel_rfl) (wpOpIn_step rfl (λK hK=>?_))
  go_simp
  refine hK _ _ ⟨oL (by decide),?_⟩
  clear hK K
  refine Qm (by kernel_rfl) ?_ _
  clear hw hcl q_ f_ HSS
  generalize hW:wx7.setCell (aD g 6) (sL ar7 (e+1) cr7)=ws7
  have HS7:Z (MS wG ws7 [(g,#[sL g0 p k0,sL g1 p k1,sL g2 (p+1) k2,sL g3 al k3,sL g4 al k4,sL ar6 (e+1) cr6,sL ar7 (e+1) cr7],30)] [(sL g0 p k0,gEo vs p),(sL g1 p k1,gSo vs p),(sL g2 (p+1) k2,gFi (E1 N) (stA A) vs (p+1)),(sL g3 al k3,gTo (E1 N) (stA A) vs p),(sL g4 al k4,gCo N (E1 N) (stA A) vs p),(sL ar6 (e+1) cr6,gSa (stA A) vs e++[Jw vs ((e:Int),(stA A) 0 (e:Int))]),(sL ar7 (e+1) cr7,gWe (E1 N) e++[wt])]):=by rw[<-hW];exact HE7.o.set 0 rfl 6 (sL ar7 (e+1) cr7)
  clear hW HE7
  go_wp2
  go_roundw
  case rel=>exact⟨e+1,ar6,cr6,ar7,cr7,by omega,by go_num,by rw[HSE.o,HWE.o];exact HS7.o⟩
  case measure=>simp[intOf];omega
 have ee:m=e:=by omega
 subst ee
 have hlt1:¬(m:Int)<m:=by omega
 have t0_:wr.cell? (aD g 0)=some (sL g0 p k0):=(HL.o.box 0 rfl).c 0 rfl
 have t1_:wr.cell? (aD g 1)=some (sL g1 p k1):=(HL.o.box 0 rfl).c 1 rfl
 have t2_:wr.cell? (aD g 2)=some (sL g2 (p+1) k2):=(HL.o.box 0 rfl).c 2 rfl
 have t3_:wr.cell? (aD g 3)=some (sL g3 al k3):=(HL.o.box 0 rfl).c 3 rfl
 have t4_:wr.cell? (aD g 4)=some (sL g4 al k4):=(HL.o.box 0 rfl).c 4 rfl
 have t5_:wr.cell? (aD g 5)=some (sL g5 m k5):=(HL.o.box 0 rfl).c 5 rfl
 have t6_:wr.cell? (aD g 6)=some (sL g6 m k6):=(HL.o.box 0 rfl).c 6 rfl
 have HBR:Z (BT wr rb #[sN,sN,sN,sN,sN,sN,sN] 30):=HRB.o.next HL.o.nx
 have HXF:Z (Nx w0 wr):=HX.o.trans HL.o.nx
 go_upto_region 27 with fail
 go_wp2_with (refine Av rfl _ _ rfl rfl rfl HBR.o rfl rfl rfl ?_)
 intro w9 hb9 hc9
 have HAPS:=Q2 HL.o.aps
 have HX9:Z (Nx w0 w9):=Below.trans HXF.o (hc9.below HXF.o.size (λx e=>by have e':x=rb:=e;rw[e'];exact HW0.o))
 have HB9:=Q2 hb9
 have HRL:Z (rb<wG.heap.size):=HRB.o.lt
 have o0_:Qd w0.heap.size w9 (sL g0 p k0) (gEo vs p):=Jn (Qs (HL.o.row 0 rfl) hc9 (λb hb ee=>by have e1:b=rb:=ee;have:=(Q5 (HL.o.row 0 rfl) b hb).1;have:=HRL.o;omega)) HX.o.size
 have o1_:Qd w0.heap.size w9 (sL g1 p k1) (gSo vs p):=Jn (Qs (HL.o.row 1 rfl) hc9 (λb hb ee=>by have e1:b=rb:=ee;have:=(Q5 (HL.o.row 1 rfl) b hb).1;have:=HRL.o;omega)) HX.o.size
 have o2_:Qd w0.heap.size w9 (sL g2 (p+1) k2) (gFi (E1 N) (stA A) vs (p+1)):=Jn (Qs (HL.o.row 2 rfl) hc9 (λb hb ee=>by have e1:b=rb:=ee;have:=(Q5 (HL.o.row 2 rfl) b hb).1;have:=HRL.o;omega)) HX.o.size
 have o3_:Qd w0.heap.size w9 (sL g3 al k3) (gTo (E1 N) (stA A) vs p):=Jn (Qs (HL.o.row 3 rfl) hc9 (λb hb ee=>by have e1:b=rb:=ee;have:=(Q5 (HL.o.row 3 rfl) b hb).1;have:=HRL.o;omega)) HX.o.size
 have o4_:Qd w0.heap.size w9 (sL g4 al k4) (gCo N (E1 N) (stA A) vs p):=Jn (Qs (HL.o.row 4 rfl) hc9 (λb hb ee=>by have e1:b=rb:=ee;have:=(Q5 (HL.o.row 4 rfl) b hb).1;have:=HRL.o;omega)) HX.o.size
 have o5_:Qd w0.heap.size w9 (sL g5 m k5) (gSa (stA A) vs m):=Jn (Qs (HL.o.row 5 rfl) hc9 (λb hb ee=>by have e1:b=rb:=ee;have:=(Q5 (HL.o.row 5 rfl) b hb).1;have:=HRL.o;omega)) HX.o.size
 have o6_:Qd w0.heap.size w9 (sL g6 m k6) (gWe (E1 N) m):=Jn (Qs (HL.o.row 6 rfl) hc9 (λb hb ee=>by have e1:b=rb:=ee;have:=(Q5 (HL.o.row 6 rfl) b hb).1;have:=HRL.o;omega)) HX.o.size
 have HO9:=Q2 (And.intro o0_ (And.intro o1_ (And.intro o2_ (And.intro o3_ (And.intro o4_ (And.intro o5_ o6_))))))
 clear hb9 hc9 t0_ o0_ t1_ o1_ t2_ o2_ t3_ o3_ t4_ o4_ t5_ o5_ t6_ o6_
 go_wp2
 refine Q9p rfl rfl HB9.o ?_
 exact⟨⟨vs,_,_,_,_,_,_,_,HAS.o,HVP.o,rfl,by rw[HVL.o,HM.o];exact HO9.o,HAPS.o⟩,HX9.o⟩
theorem Xz.rules {C:Nat}{w:World}{v:Value}{xs:List Ru}(h:Xz C w v xs):X7 C w v xs:=by
 obtain⟨vs,h1,h2,h3,-⟩:=h
 exact Zm.rules ⟨vs,h1,h2,h3⟩
theorem K6 {C D b:Nat}{w w':World}{v:Value}{zs:List Int}(h:Qd D w v zs)(c:Chg (λx=>x=b) w w')(hb:C+1<D)(e:b=C+1:=by rfl):Qd C w' v zs:=
 Jn (Qs h c (λx hx ee=>by have e1:x=b:=ee;have:=(Q5 h x hx).1;omega)) (by omega)
theorem sf_of {N:Nt}{ws:List (List Int)}(hv:Qe N=true)(hg:rgB (J5 N).rules=true)(hl:ws.length<=2000)(hW:WS ws)(hin:∀y,inW ws y↔PW (J5 N).rules (J5 N).rules.length 1 y):SF N (Qn ws (Qw (J5 N).rules) (Js (J5 N).rules)):=by
 have hB:Yy (J5 N).rules 0 (Qn ws (Qw (J5 N).rules) (Js (J5 N).rules)):=oR ⟨hg,ws,⟨hW.asc,hW.pos,by omega,λy=>(hin y).1,λ_ y=>(hin y).2⟩,oR ⟨hl,rfl,rfl⟩⟩
 obtain⟨h1,h2⟩:=Qg5 hv hB
 have hlen:(Qn ws (Qw (J5 N).rules) (Js (J5 N).rules)).pa.length=ws.length:=by simp[Qn]
 refine⟨hv,h1,by rw[hlen];exact Wn hW,?_,?_,h2,Ar (Jz hv),by rw[hlen];exact hl,by rw[hlen];exact hW.pos⟩
 ·rw[T8 hW.pos,hW.root];exact G5 hg
 ·rw[Ta hW.pos,hW.root];exact Aj hg
section
variable {es:List Eg}{st:Int->Int->Int}
theorem Qen {k:Nat}(hm:es.length<=4000)(hgo:∀j,j<=k->j<(bf es st j).1.length/\(bf es st j).2<=40000)(hb:40000<(bf es st (k+1)).2):∃vs,W6 es st (k+1) vs/\40000<arcs es st vs:=by
 obtain⟨vs,h1,h2⟩:=Qdl _ (Id (es:=es) (st:=st) (k+1))
 have hk:=hgo k lR
 have hle:k+1<=(bf es st (k+1)).1.length:=by
  obtain⟨z,hz⟩:=Gl (es:=es) (st:=st) k
  rw[hz,zA]
  omega
 refine⟨vs,⟨⟨h1,h2,hle,λj hj=>hgo j (by omega),?_⟩,λc=>by omega⟩,?_⟩
 ·have:=Q8w (es:=es) (st:=st) k
  omega
 ·have h3:=Q7a (es:=es) (st:=st) (k+1) hle
  have h4:=Ak (es:=es) (st:=st) ((bf es st (k+1)).1.take (k+1)) ((bf es st (k+1)).1.drop (k+1))
  rw[yF] at h4
  rw[Gq h2]
  omega
theorem Qem {k:Nat}{vs:List Vx}(hk:k=(bf es st k).1.length)(hgo:∀j,j<k->j<(bf es st j).1.length/\(bf es st j).2<=40000)(hs:(bf es st k).2<=40000)(h1:Z5 vs)(h2:vs.Perm (bf es st k).1):W6 es st k vs:=
 ⟨⟨h1,h2,by omega,hgo,by omega⟩,λc=>by omega⟩
theorem Qbj {k k':Nat}{vs vs':List Vx}(h:W6 es st k vs)(h':W6 es st k' vs'):vs=vs':=by
 have e:k=k':=by
  rcases Nat.lt_trichotomy k k' with c|c|c
  ·exact absurd (h'.1.go k c) h.2
  ·exact c
  ·exact absurd (h.1.go k' c) h'.2
 subst e
 exact Q1j h.1.asc h'.1.asc (λx=>(h.1.perm.mem_iff).trans h'.1.perm.mem_iff.symm)
end
def Qhs (N:Nt)(code:Int)(G:Gc):Prop:=
 (Qe N=false/\code=14/\G=gcZ) \/
 (Qe N=true/\∃c A,As (J5 N).rules c A/\((c≠0/\code=c/\G=gcZ)\/(c=0/\∃k vs,W6 (E1 N) (stA A) k vs/\((40000<arcs (E1 N) (stA A) vs/\code=15/\G=gcZ)\/(arcs (E1 N) (stA A) vs<=40000/\code=0/\G=Qfd N (E1 N) (stA A) vs)))))
theorem Q5d {N:Nt}{c c':Int}{G G':Gc}(h:Q96 N c G)(k:Qhs N c' G'):c=c'/\G=G':=by
 rcases h with⟨h1,h2,h3⟩|⟨h1,b,A,hb,hc⟩
 ·rcases k with⟨k1,k2,k3⟩|⟨k1,_⟩
  ·exact⟨h2.trans k2.symm,h3.trans k3.symm⟩
  ·rw[h1] at k1;cases k1
 ·rcases k with⟨k1,_⟩|⟨k1,b',A',kb,kc⟩
  ·rw[h1] at k1;cases k1
  ·obtain⟨e1,e2⟩:=Q78 hb kb
   subst e1 e2
   rcases hc with⟨h2,h3,h4⟩|⟨h2,n,vs,h3,h4⟩
   ·rcases kc with⟨k2,k3,k4⟩|⟨k2,_⟩
    ·exact⟨h3.trans k3.symm,h4.trans k4.symm⟩
    ·exact absurd k2 h2
   ·rcases kc with⟨k2,_⟩|⟨k2,n',vs',k3,k4⟩
    ·exact absurd h2 k2
    ·have e:=Qbj h3 k3
     subst e
     rcases h4 with⟨h5,h6,h7⟩|⟨h5,h6,h7⟩
     ·rcases k4 with⟨k5,k6,k7⟩|⟨k5,k6,k7⟩
      ·exact⟨h6.trans k6.symm,h7.trans k7.symm⟩
      ·exact absurd h5 (Nat.not_lt.2 k5)
     ·rcases k4 with⟨k5,k6,k7⟩|⟨k5,k6,k7⟩
      ·exact absurd k5 (Nat.not_lt.2 h5)
      ·exact⟨h6.trans k6.symm,h7.trans k7.symm⟩
def Q7g (N:Nt)(w w':World)(e:Ending):Prop:=(∃code v0 v1 v2 v3 v4 v5 v6 G,e=.returned (.agg #[iV code,v0,v1,v2,v3,v4,v5,v6])/\(Qd w.heap.size w' v0 G.eo/\Qd w.heap.size w' v1 G.so/\Qd w.heap.size w' v2 G.fi/\Qd w.heap.size w' v3 G.tt/\Qd w.heap.size w' v4 G.co/\Qd w.heap.size w' v5 G.sa/\Qd w.heap.size w' v6 G.we)/\Aps [v0,v1,v2,v3,v4,v5,v6]/\Qhs N code G)/\Nx w w'
theorem Qg1:Aps [sN,sN,sN,sN,sN,sN,sN]:=λj j' v v' g _ hv _ hg=>by
 have h:v∈[sN,sN,sN,sN,sN,sN,sN]:=yP hv
 have e:v=sN:=by simpa using h
 subst e
 simp[Value.ownBlock] at hg
theorem Q7g.none {N:Nt}{w w':World}{code:Int}(hx:Nx w w')(h:Qhs N code gcZ):Q7g N w w' (.returned (.agg #[iV code,sN,sN,sN,sN,sN,sN,sN])):=⟨⟨code,_,_,_,_,_,_,_,gcZ,rfl,⟨⟨rfl,.inl ⟨rfl,rfl⟩⟩,⟨rfl,.inl ⟨rfl,rfl⟩⟩,⟨rfl,.inl ⟨rfl,rfl⟩⟩,⟨rfl,.inl ⟨rfl,rfl⟩⟩,⟨rfl,.inl ⟨rfl,rfl⟩⟩,⟨rfl,.inl ⟨rfl,rfl⟩⟩,⟨rfl,.inl ⟨rfl,rfl⟩⟩⟩,Qg1,h⟩,hx⟩
attribute [local go_sem] field_rules
theorem Tj (B0:Nat)(v0 v1 v2 v3:Value)(N:Nt)(w:World)(h0:Ye B0 w v0 v1 v2 v3 N)(hc:Te w v2 N.rels)(hs:wsum N.ways N.ways.length<=1048576)(ht:Q0e w) :
  Calls prog 7 #[.agg #[v0,v1,v2,v3,iV N.uturn]] w λe w'=>Q7g N w w' e:=by
 have HI0:=Q2 h0
 have HS:=Q2 hs
 have HC:=Q2 hc
 have HT:=Q2 ht
 obtain⟨a0,q0,e0,-,-⟩:=h0.1
 obtain⟨a1,q1,e1,-,-⟩:=h0.2.1
 obtain⟨a2,q2,e2,-,-⟩:=h0.2.2.1
 obtain⟨a3,q3,e3,-,-⟩:=h0.2.2.2
 have HN0:Z (v0=sL a0 N.nodes.length q0):=e0
 generalize hl0:N.nodes.length=l0 at e0
 generalize N.ways.length=l1 at e1
 generalize N.rels.length=l2 at e2
 generalize N.turns.length=l3 at e3
 have HL0:Z (N.nodes.length=l0):=hl0
 subst e0 e1 e2 e3
 clear hs h0 hc ht hl0
 have HBN:Z (BT ((w.alloc (.cells #[sL a0 l0 q0,sL a1 l1 q1,sL a2 l2 q2,sL a3 l3 q3,iV N.uturn] 38)).alloc (.cells #[iV 0,sN,sN,sN,sN,sN,sN,sN] 32)) w.heap.size #[sL a0 l0 q0,sL a1 l1 q1,sL a2 l2 q2,sL a3 l3 q3,iV N.uturn] 38):=(BT.new w #[sL a0 l0 q0,sL a1 l1 q1,sL a2 l2 q2,sL a3 l3 q3,iV N.uturn] 38 _ rfl).next (Q4 _ _)
 have HBC:Z (BT ((w.alloc (.cells #[sL a0 l0 q0,sL a1 l1 q1,sL a2 l2 q2,sL a3 l3 q3,iV N.uturn] 38)).alloc (.cells #[iV 0,sN,sN,sN,sN,sN,sN,sN] 32)) (w.heap.size+1) #[iV 0,sN,sN,sN,sN,sN,sN,sN] 32):=by have h:=BT.new (w.alloc (.cells #[sL a0 l0 q0,sL a1 l1 q1,sL a2 l2 q2,sL a3 l3 q3,iV N.uturn] 38)) #[iV 0,sN,sN,sN,sN,sN,sN,sN] 32 _ rfl;rw[Q3] at h;exact h
 have HXA:Z (Nx w ((w.alloc (.cells #[sL a0 l0 q0,sL a1 l1 q1,sL a2 l2 q2,sL a3 l3 q3,iV N.uturn] 38)).alloc (.cells #[iV 0,sN,sN,sN,sN,sN,sN,sN] 32))):=(Q4 _ _).trans (Q4 _ _)
 go_enter func7,ntmps7
 go_upto_region 1 with fail
 generalize (w.alloc (.cells #[sL a0 l0 q0,sL a1 l1 q1,sL a2 l2 q2,sL a3 l3 q3,iV N.uturn] 38)).alloc (.cells #[iV 0,sN,sN,sN,sN,sN,sN,sN] 32)=wA at *
 have k0:=HBN.o.c 0 rfl
 have k1:=HBN.o.c 1 rfl
 have k2:=HBN.o.c 2 rfl
 have k3:=HBN.o.c 3 rfl
 have k4:=HBN.o.c 4 rfl
 go_wp2_with fail
 refine(Q09 B0 _ _ _ _ N _ (HI0.o.next HXA.o) HS.o).mono ?_
 rintro e w1 ⟨rfl,hx⟩
 have HX1:Z (Nx w w1):=HXA.o.trans hx
 have HBN1:=Q2 (HBN.o.next hx)
 have HBC1:=Q2 (HBC.o.next hx)
 clear hx k0 k1 k2 k3 k4 HBN HBC HXA
 have HB1:Z (w.heap.size+1<w1.heap.size):=HBC1.o.lt
 cases hv:Qe N
 case false=>
  have HV0:Z (Qe N=false):=hv
  clear hv
  go_upto_region 2 with fail
  go_wp2_with (refine V8 rfl _ _ rfl rfl rfl HBC1.o rfl rfl rfl ?_)
  intro w9 hb9 hc9
  have HX9:Z (Nx w w9):=Below.trans HX1.o (hc9.below HX1.o.size (λx e=>by have e':x=w.heap.size+1:=e;omega))
  have HB9:=Q2 hb9
  clear hb9 hc9
  go_wp2
  refine Wg rfl rfl HB9.o ?_
  exact Q7g.none HX9.o (oL ⟨HV0.o,rfl,rfl⟩)
 have HV:Z (Qe N=true):=hv
 have HF:Z (J5 N=Qq (chP N) N.rels N.rels.length):=Qbi hv
 clear hv
 have k0:=HBN1.o.c 0 rfl
 have k1:=HBN1.o.c 1 rfl
 have k2:=HBN1.o.c 2 rfl
 have k3:=HBN1.o.c 3 rfl
 have k4:=HBN1.o.c 4 rfl
 go_wp2_with fail
 refine(Q2c B0 _ _ _ _ N _ (HI0.o.next HX1.o) HS.o HV.o).mono ?_
 rintro e w2 ⟨⟨L,rfl,e0,e1,e2,e3,hLR⟩,hx2⟩
 have HLR:Z (LR w1.heap.size N (E1 N) N.ways.length (E1 N).length (E1 N).length (E1 N).length N.ways.length w2 L):=hLR
 have HX12:Z (Nx w1 w2):=hx2
 have HX2:Z (Nx w w2):=HX1.o.trans hx2
 have HE0:Z (L.v0=sL a0 l0 q0):=e0
 have HE2:Z (L.v2=sL a2 l2 q2):=e2
 have HE3:Z (L.v3=sL a3 l3 q3):=e3
 have HBC2:=Q2 (HBC1.o.next hx2)
 clear hLR hx2 e0 e1 e2 e3 k0 k1 k2 k3 k4 HBN1 HBC1
 go_wp2_with fail
 refine(Q3r w1.heap.size N L w2 HV.o HLR.o (by rw[HE0.o];exact(HI0.o.1.next HX2.o).base nZ) (by rw[HE2.o];exact HC.o.next HX2.o) (HT.o.next HX2.o)).mono ?_
 rintro e w3 ⟨⟨vr,vd,rfl,hr,hd⟩,hx3⟩
 rw[<-HF.o] at hr hd
 have HR3:Z (X7 w2.heap.size w3 vr (J5 N).rules):=hr.rules
 obtain⟨ar,cr,rfl⟩:=hr.slice
 obtain⟨ad,cd,rfl⟩:=Q7 hd
 obtain⟨nr,hnr⟩:∃n,(J5 N).rules.length=n:=⟨_,rfl⟩
 obtain⟨nd,hnd⟩:∃n,(J5 N).drops.length=n:=⟨_,rfl⟩
 rw[hnr] at HR3
 rw[hnr,hnd]
 have HX23:Z (Nx w2 w3):=hx3
 have HX3:Z (Nx w w3):=HX2.o.trans hx3
 have HBC3:=Q2 (HBC2.o.next hx3)
 clear hr hd hx3 HBC2 hnr hnd
 go_wp2_with fail
 refine(Q1t w2.heap.size _ (J5 N).rules w3 HR3.o).mono ?_
 rintro e w4 ⟨hst,hx4⟩
 have HX34:Z (Nx w3 w4):=hx4
 have HX4:Z (Nx w w4):=HX3.o.trans hx4
 have HBC4:=Q2 (HBC3.o.next hx4)
 clear hx4 HBC3
 rcases hst with⟨hg,rfl⟩|⟨hg,hb,rfl⟩|⟨hg,sa,sn,sc,ws,D,bl,len,par,fl,mv,rfl,hSN⟩
 ·have HBI:Z (As (J5 N).rules 12 auZ):=oL ⟨hg,rfl,rfl⟩
  clear hg
  go_upto_region 6 with fail
  go_wp2_with (refine V8 rfl _ _ rfl rfl rfl HBC4.o rfl rfl rfl ?_)
  intro w9 hb9 hc9
  have HX9:Z (Nx w w9):=Below.trans HX4.o (hc9.below HX4.o.size (λx e=>by have e':x=w.heap.size+1:=e;omega))
  have HB9:=Q2 hb9
  clear hb9 hc9
  go_wp2
  refine Wg rfl rfl HB9.o ?_
  exact Q7g.none HX9.o (oR ⟨HV.o,12,auZ,HBI.o,oL ⟨by decide,rfl,rfl⟩⟩)
 ·have HBI:Z (As (J5 N).rules 13 auZ):=oR (oL ⟨hg,hb,rfl,rfl⟩)
  clear hg hb
  go_upto_region 6 with fail
  go_wp2_with (refine V8 rfl _ _ rfl rfl rfl HBC4.o rfl rfl rfl ?_)
  intro w9 hb9 hc9
  have HX9:Z (Nx w w9):=Below.trans HX4.o (hc9.below HX4.o.size (λx e=>by have e':x=w.heap.size+1:=e;omega))
  have HB9:=Q2 hb9
  clear hb9 hc9
  go_wp2
  refine Wg rfl rfl HB9.o ?_
  exact Q7g.none HX9.o (oR ⟨HV.o,13,auZ,HBI.o,oL ⟨by decide,rfl,rfl⟩⟩)
 obtain⟨A,hA⟩:∃A,A=Qn ws (Qw (J5 N).rules) (Js (J5 N).rules):=⟨_,rfl⟩
 have HBI:Z (As (J5 N).rules 0 A):=oR (oR ⟨hg,ws,hSN.le,hSN.ok.asc,hSN.mem,rfl,hA⟩)
 have HSF:Z (SF N A):=by rw[hA];exact sf_of HV.o hg hSN.le hSN.ok hSN.mem
 have hpa:A.pa.length=ws.length:=by rw[hA];simp[Qn]
 have HTu:Z (V5 B0 w4 L.v3 N.turns):=by rw[HE3.o];exact(HI0.o.next HX4.o).2.2.2
 have HSTA:Z (Sta N A w4 w1.heap.size B0 D L (sL sa sn sc) bl fl mv):=⟨HLR.o.next (HX23.o.trans HX34.o),HTu.o,by rw[hpa,hA];exact hSN.tr,by rw[hpa];exact hSN.own⟩
 clear hg hSN hA hpa HLR HTu HR3
 go_wp2_with fail
 refine(Ek N A HSF.o w1.heap.size B0 D L (sL sa sn sc) bl fl mv w4 HSTA.o ⟨a0,q0,by rw[HE0.o,HL0.o]⟩).mono ?_
 rintro e w5 ⟨⟨pb,mb,lv,us,rfl,hb5,hl5,hm5,hp5,hq5⟩,hx5⟩
 have HPR:Z (PrM N A w4 L (sL sa sn sc) lv us pb mb w5 none 0 0 0 sN [] (λ_=>0) []):=⟨hb5,hl5,⟨rfl,.inl ⟨rfl,rfl⟩⟩,rfl,hm5,⟨⟨rfl,.inl ⟨rfl,rfl⟩⟩,λx hx=>absurd hx (by simp)⟩,hx5,hp5,hq5⟩
 clear hb5 hl5 hm5 hp5 hq5 hx5
 go_wp2_with fail
 refine(Q6x N A HSF.o w1.heap.size B0 D w4 L (sL sa sn sc) lv bl fl mv us pb mb _ w5 HSTA.o HPR.o).mono ?_
 rintro e w6 ⟨hx6,hE⟩
 have HX6:Z (Nx w w6):=HX4.o.trans hx6
 have HBC6:=Q2 (HBC4.o.next hx6)
 have HW4:Z (w.heap.size+1<w4.heap.size):=HBC4.o.lt
 clear HPR hx6
 rcases hE with⟨rfl,k,hgo,hbig⟩|⟨rfl,k,ia,qn,ic,fv,f,l,hPM,hlt,hk,hgo,hsm⟩
 ·have HRB:Z (∃vs,W6 (E1 N) (stA A) (k+1) vs/\40000<arcs (E1 N) (stA A) vs):=Qen HSF.o.m hgo hbig
  clear hgo hbig
  go_upto_region 9 with fail
  go_wp2_with (refine V8 rfl _ _ rfl rfl rfl HBC6.o rfl rfl rfl ?_)
  intro w9 hb9 hc9
  have HX9:Z (Nx w w9):=Below.trans HX6.o (hc9.below HX6.o.size (λx e=>by have e':x=w.heap.size+1:=e;omega))
  have HB9:=Q2 hb9
  clear hb9 hc9
  go_wp2
  refine Wg rfl rfl HB9.o ?_
  exact Q7g.none HX9.o (by obtain⟨vs,h1,h2⟩:=HRB.o;exact oR ⟨HV.o,0,A,HBI.o,oR ⟨rfl,k+1,vs,h1,oL ⟨h2,rfl,rfl⟩⟩⟩)
 have HKE:Z (∀vs,Z5 vs->vs.Perm (bf (E1 N) (stA A) k).1->W6 (E1 N) (stA A) k vs):=λvs h1 h2=>Qem hk hgo hsm h1 h2
 have HAR:Z (arcs (E1 N) (stA A) (bf (E1 N) (stA A) k).1<=40000):=by
  unfold Z
  have h:=Q7a (es:=(E1 N)) (st:=(stA A)) k (by omega)
  rw[show(bf (E1 N) (stA A) k).1.take k=(bf (E1 N) (stA A) k).1 from by rw[List.take_of_length_le (by omega)]] at h
  omega
 have HLL:Z (l.length<=50000):=by
  unfold Z
  have h1:=Gm (es:=(E1 N)) (st:=(stA A)) k
  have h2:l.length=(bf (E1 N) (stA A) k).1.length:=by rw[<-hlt,zG]
  have:=HSF.o.m
  omega
 have HLM:Z (l.map (·.1)=(bf (E1 N) (stA A) k).1):=hlt
 have HCO:Z (∀v∈(bf (E1 N) (stA A) k).1,∀u∈nxV (E1 N) (stA A) v,u∈(bf (E1 N) (stA A) k).1):=λv hv u hu=>Qaj hk (λj hj=>(hgo j hj).1) hv hu
 have HPM:=Q2 hPM
 have HNN:Z ((bf (E1 N) (stA A) k).1.Nodup):=Id k
 have HBS:Z (∀e:Nat,e<(E1 N).length->((e:Int),(stA A) 0 (e:Int))∈(bf (E1 N) (stA A) k).1):=λe he=>Qdi k he
 clear hk hgo hsm hlt hPM
 generalize (bf (E1 N) (stA A) k).1=t at *
 go_wp2_with fail
 refine(Q98 N A HSF.o w1.heap.size B0 D w4 L (sL sa sn sc) lv bl fl mv us pb mb w6 ia qn ic _ fv t f l HSTA.o HPM.o HLM.o HNN.o HLL.o HCO.o HBS.o HAR.o).mono ?_
 rintro e w7 ⟨⟨vs,u0,u1,u2,u3,u4,u5,u6,has,hpm,rfl,⟨o0,o1,o2,o3,o4,o5,o6⟩,hap⟩,hx7⟩
 have HX7:Z (Nx w w7):=HX4.o.trans hx7
 have HAP:=Q2 hap
 have HBC7:=Q2 (HBC4.o.next hx7)
 have HRC:Z (W6 (E1 N) (stA A) k vs):=HKE.o vs has hpm
 have HA7:Z (arcs (E1 N) (stA A) vs<=40000):=by rw[Gq hpm];exact HAR.o
 have HO7:=Q2 (And.intro o0 (And.intro o1 (And.intro o2 (And.intro o3 (And.intro o4 (And.intro o5 o6))))))
 obtain⟨y0,z0,rfl⟩:=Q7 o0
 obtain⟨y1,z1,rfl⟩:=Q7 o1
 obtain⟨y2,z2,rfl⟩:=Q7 o2
 obtain⟨y3,z3,rfl⟩:=Q7 o3
 obtain⟨y4,z4,rfl⟩:=Q7 o4
 obtain⟨y5,z5,rfl⟩:=Q7 o5
 obtain⟨y6,z6,rfl⟩:=Q7 o6
 clear hap has hpm hx7 o0 o1 o2 o3 o4 o5 o6 HPM HKE
 generalize (gEo vs vs.length).length=n0 at *
 generalize (gSo vs vs.length).length=n1 at *
 generalize (gFi (E1 N) (stA A) vs (vs.length+1)).length=n2 at *
 generalize (gTo (E1 N) (stA A) vs vs.length).length=n3 at *
 generalize (gCo N (E1 N) (stA A) vs vs.length).length=n4 at *
 generalize (gSa (stA A) vs (E1 N).length).length=n5 at *
 generalize (gWe (E1 N) (E1 N).length).length=n6 at *
 go_wp2_with (refine V8 rfl _ _ rfl rfl rfl HBC7.o rfl rfl rfl ?_)
 intro w9 hb9 hc9
 have HX9:Z (Nx w w9):=Below.trans HX7.o (hc9.below HX7.o.size (λx e=>by have e':x=w.heap.size+1:=e;omega))
 have HB9:=Q2 hb9
 obtain⟨o0,o1,o2,o3,o4,o5,o6⟩:=HO7.o
 have HO9:=Q2 (show _/\_/\_/\_/\_/\_/\_ from⟨K6 o0 hc9 HW4.o,K6 o1 hc9 HW4.o,K6 o2 hc9 HW4.o,K6 o3 hc9 HW4.o,K6 o4 hc9 HW4.o,K6 o5 hc9 HW4.o,K6 o6 hc9 HW4.o⟩)
 clear hb9 hc9 o0 o1 o2 o3 o4 o5 o6
 go_wp2
 refine Wg rfl rfl HB9.o ?_
 exact⟨⟨0,_,_,_,_,_,_,_,Qfd N (E1 N) (stA A) vs,rfl,HO9.o,HAP.o,oR ⟨HV.o,0,A,HBI.o,oR ⟨rfl,k,vs,HRC.o,oR ⟨HA7.o,rfl,rfl⟩⟩⟩⟩,HX9.o⟩
structure H7 (w:World)(v0 v1 v2 v3 v4 v5 v6:Value)(G:Gc):Prop where
 h0:Q8 0 w v0 G.eo
 h1:Q8 0 w v1 G.so
 h2:Q8 0 w v2 G.fi
 h3:Q8 0 w v3 G.tt
 h4:Q8 0 w v4 G.co
 h5:Q8 0 w v5 G.sa
 h6:Q8 0 w v6 G.we
theorem H7.next {w w':World}{v0 v1 v2 v3 v4 v5 v6:Value}{G:Gc}(h:H7 w v0 v1 v2 v3 v4 v5 v6 G)(k:Nx w w'):H7 w' v0 v1 v2 v3 v4 v5 v6 G:=⟨h.h0.next k,h.h1.next k,h.h2.next k,h.h3.next k,h.h4.next k,h.h5.next k,h.h6.next k⟩
structure O7 (C:Nat)(w:World)(v0 v1 v2 v3 v4 v5 v6:Value)(G:Gc):Prop where
 o0:Qd C w v0 G.eo
 o1:Qd C w v1 G.so
 o2:Qd C w v2 G.fi
 o3:Qd C w v3 G.tt
 o4:Qd C w v4 G.co
 o5:Qd C w v5 G.sa
 o6:Qd C w v6 G.we
 ap:Aps [v0,v1,v2,v3,v4,v5,v6]
theorem O7.next {C:Nat}{w w':World}{v0 v1 v2 v3 v4 v5 v6:Value}{G:Gc}(h:O7 C w v0 v1 v2 v3 v4 v5 v6 G)(k:Nx w w'):O7 C w' v0 v1 v2 v3 v4 v5 v6 G:=⟨h.o0.next k,h.o1.next k,h.o2.next k,h.o3.next k,h.o4.next k,h.o5.next k,h.o6.next k,h.ap⟩
theorem O7.h7 {C:Nat}{w:World}{v0 v1 v2 v3 v4 v5 v6:Value}{G:Gc}(h:O7 C w v0 v1 v2 v3 v4 v5 v6 G):H7 w v0 v1 v2 v3 v4 v5 v6 G:=⟨h.o0.held.base nZ,h.o1.held.base nZ,h.o2.held.base nZ,h.o3.held.base nZ,h.o4.held.base nZ,h.o5.held.base nZ,h.o6.held.base nZ⟩
theorem Q2p (va0 va1 va2 va3 va4 va5 va6:Option Addr)(vn0 vc0 vn1 vc1 vn2 vc2 vn3 vc3 vn4 vc4 vn5 vc5 vn6 vc6:Nat)(ua0 ua1 ua2 ua3 ua4 ua5 ua6:Option Addr)(un0 uc0 un1 uc1 un2 uc2 un3 uc3 un4 uc4 un5 uc5 un6 uc6:Nat)(G:Gc)(w:World)(h:H7 w (sL va0 vn0 vc0) (sL va1 vn1 vc1) (sL va2 vn2 vc2) (sL va3 vn3 vc3) (sL va4 vn4 vc4) (sL va5 vn5 vc5) (sL va6 vn6 vc6) G)(k:H7 w (sL ua0 un0 uc0) (sL ua1 un1 uc1) (sL ua2 un2 uc2) (sL ua3 un3 uc3) (sL ua4 un4 uc4) (sL ua5 un5 uc5) (sL ua6 un6 uc6) G) :
  Calls prog 38 #[.agg #[sL va0 vn0 vc0,sL va1 vn1 vc1,sL va2 vn2 vc2,sL va3 vn3 vc3,sL va4 vn4 vc4,sL va5 vn5 vc5,sL va6 vn6 vc6],.agg #[sL ua0 un0 uc0,sL ua1 un1 uc1,sL ua2 un2 uc2,sL ua3 un3 uc3,sL ua4 un4 uc4,sL ua5 un5 uc5,sL ua6 un6 uc6]] w λe w'=>e=.returned (.bool true)/\Nx w w':=by
 have HV0:Z (H7 ((w.alloc (.cells #[sL va0 vn0 vc0,sL va1 vn1 vc1,sL va2 vn2 vc2,sL va3 vn3 vc3,sL va4 vn4 vc4,sL va5 vn5 vc5,sL va6 vn6 vc6] 30)).alloc (.cells #[sL ua0 un0 uc0,sL ua1 un1 uc1,sL ua2 un2 uc2,sL ua3 un3 uc3,sL ua4 un4 uc4,sL ua5 un5 uc5,sL ua6 un6 uc6] 30)) (sL va0 vn0 vc0) (sL va1 vn1 vc1) (sL va2 vn2 vc2) (sL va3 vn3 vc3) (sL va4 vn4 vc4) (sL va5 vn5 vc5) (sL va6 vn6 vc6) G):=(h.next (Q4 _ _)).next (Q4 _ _)
 have HU0:Z (H7 ((w.alloc (.cells #[sL va0 vn0 vc0,sL va1 vn1 vc1,sL va2 vn2 vc2,sL va3 vn3 vc3,sL va4 vn4 vc4,sL va5 vn5 vc5,sL va6 vn6 vc6] 30)).alloc (.cells #[sL ua0 un0 uc0,sL ua1 un1 uc1,sL ua2 un2 uc2,sL ua3 un3 uc3,sL ua4 un4 uc4,sL ua5 un5 uc5,sL ua6 un6 uc6] 30)) (sL ua0 un0 uc0) (sL ua1 un1 uc1) (sL ua2 un2 uc2) (sL ua3 un3 uc3) (sL ua4 un4 uc4) (sL ua5 un5 uc5) (sL ua6 un6 uc6) G):=(k.next (Q4 _ _)).next (Q4 _ _)
 have HX0:Z (Nx w ((w.alloc (.cells #[sL va0 vn0 vc0,sL va1 vn1 vc1,sL va2 vn2 vc2,sL va3 vn3 vc3,sL va4 vn4 vc4,sL va5 vn5 vc5,sL va6 vn6 vc6] 30)).alloc (.cells #[sL ua0 un0 uc0,sL ua1 un1 uc1,sL ua2 un2 uc2,sL ua3 un3 uc3,sL ua4 un4 uc4,sL ua5 un5 uc5,sL ua6 un6 uc6] 30))):=(Q4 _ _).trans (Q4 _ _)
 have BV:=(Blk.new w #[sL va0 vn0 vc0,sL va1 vn1 vc1,sL va2 vn2 vc2,sL va3 vn3 vc3,sL va4 vn4 vc4,sL va5 vn5 vc5,sL va6 vn6 vc6] 30 _ rfl).next (Q4 _ (.cells #[sL ua0 un0 uc0,sL ua1 un1 uc1,sL ua2 un2 uc2,sL ua3 un3 uc3,sL ua4 un4 uc4,sL ua5 un5 uc5,sL ua6 un6 uc6] 30))
 have BU:Blk ((w.alloc (.cells #[sL va0 vn0 vc0,sL va1 vn1 vc1,sL va2 vn2 vc2,sL va3 vn3 vc3,sL va4 vn4 vc4,sL va5 vn5 vc5,sL va6 vn6 vc6] 30)).alloc (.cells #[sL ua0 un0 uc0,sL ua1 un1 uc1,sL ua2 un2 uc2,sL ua3 un3 uc3,sL ua4 un4 uc4,sL ua5 un5 uc5,sL ua6 un6 uc6] 30)) (w.heap.size+1) #[sL ua0 un0 uc0,sL ua1 un1 uc1,sL ua2 un2 uc2,sL ua3 un3 uc3,sL ua4 un4 uc4,sL ua5 un5 uc5,sL ua6 un6 uc6]:=Blk.new _ _ _ _ (by rw[Q3])
 have p0_:=BV.c 0 rfl
 have q0_:=BU.c 0 rfl
 clear h k
 go_enter func38,ntmps38
 go_wp2_with fail
 clear p0_ q0_
 refine(Vb 0 0 _ _ G.eo _ (by exact HV0.o.h0) (by exact HU0.o.h0)).mono ?_
 rintro e w1 ⟨rfl,hx0⟩
 have HV1:=Q2 (HV0.o.next hx0)
 have HU1:=Q2 (HU0.o.next hx0)
 have HX1:Z (Nx w w1):=HX0.o.trans hx0
 have BV:=BV.next hx0
 have BU:=BU.next hx0
 have p1_:=BV.c 1 rfl
 have q1_:=BU.c 1 rfl
 clear hx0 HV0 HU0 HX0
 go_wp2_with fail
 clear p1_ q1_
 refine(Vb 0 0 _ _ G.so _ (by exact HV1.o.h1) (by exact HU1.o.h1)).mono ?_
 rintro e w2 ⟨rfl,hx1⟩
 have HV2:=Q2 (HV1.o.next hx1)
 have HU2:=Q2 (HU1.o.next hx1)
 have HX2:Z (Nx w w2):=HX1.o.trans hx1
 have BV:=BV.next hx1
 have BU:=BU.next hx1
 have p2_:=BV.c 2 rfl
 have q2_:=BU.c 2 rfl
 clear hx1 HV1 HU1 HX1
 go_wp2_with fail
 clear p2_ q2_
 refine(Vb 0 0 _ _ G.fi _ (by exact HV2.o.h2) (by exact HU2.o.h2)).mono ?_
 rintro e w3 ⟨rfl,hx2⟩
 have HV3:=Q2 (HV2.o.next hx2)
 have HU3:=Q2 (HU2.o.next hx2)
 have HX3:Z (Nx w w3):=HX2.o.trans hx2
 have BV:=BV.next hx2
 have BU:=BU.next hx2
 have p3_:=BV.c 3 rfl
 have q3_:=BU.c 3 rfl
 clear hx2 HV2 HU2 HX2
 go_wp2_with fail
 clear p3_ q3_
 refine(Vb 0 0 _ _ G.tt _ (by exact HV3.o.h3) (by exact HU3.o.h3)).mono ?_
 rintro e w4 ⟨rfl,hx3⟩
 have HV4:=Q2 (HV3.o.next hx3)
 have HU4:=Q2 (HU3.o.next hx3)
 have HX4:Z (Nx w w4):=HX3.o.trans hx3
 have BV:=BV.next hx3
 have BU:=BU.next hx3
 have p4_:=BV.c 4 rfl
 have q4_:=BU.c 4 rfl
 clear hx3 HV3 HU3 HX3
 go_wp2_with fail
 clear p4_ q4_
 refine(Vb 0 0 _ _ G.co _ (by exact HV4.o.h4) (by exact HU4.o.h4)).mono ?_
 rintro e w5 ⟨rfl,hx4⟩
 have HV5:=Q2 (HV4.o.next hx4)
 have HU5:=Q2 (HU4.o.next hx4)
 have HX5:Z (Nx w w5):=HX4.o.trans hx4
 have BV:=BV.next hx4
 have BU:=BU.next hx4
 have p5_:=BV.c 5 rfl
 have q5_:=BU.c 5 rfl
 clear hx4 HV4 HU4 HX4
 go_wp2_with fail
 clear p5_ q5_
 refine(Vb 0 0 _ _ G.sa _ (by exact HV5.o.h5) (by exact HU5.o.h5)).mono ?_
 rintro e w6 ⟨rfl,hx5⟩
 have HV6:=Q2 (HV5.o.next hx5)
 have HU6:=Q2 (HU5.o.next hx5)
 have HX6:Z (Nx w w6):=HX5.o.trans hx5
 have BV:=BV.next hx5
 have BU:=BU.next hx5
 have p6_:=BV.c 6 rfl
 have q6_:=BU.c 6 rfl
 clear hx5 HV5 HU5 HX5
 go_wp2_with fail
 clear p6_ q6_
 refine(Vb 0 0 _ _ G.we _ (by exact HV6.o.h6) (by exact HU6.o.h6)).mono ?_
 rintro e w7 ⟨rfl,hx6⟩
 have HX7:Z (Nx w w7):=HX6.o.trans hx6
 clear hx6 HX6
 go_wp2
 go_ret
 exact⟨rfl,HX7.o⟩
theorem U7 (c:Int)(va0 va1 va2 va3 va4 va5 va6:Option Addr)(vn0 vc0 vn1 vc1 vn2 vc2 vn3 vc3 vn4 vc4 vn5 vc5 vn6 vc6:Nat)(ua0 ua1 ua2 ua3 ua4 ua5 ua6:Option Addr)(un0 uc0 un1 uc1 un2 uc2 un3 uc3 un4 uc4 un5 uc5 un6 uc6:Nat)(G:Gc)(w:World)(h:H7 w (sL va0 vn0 vc0) (sL va1 vn1 vc1) (sL va2 vn2 vc2) (sL va3 vn3 vc3) (sL va4 vn4 vc4) (sL va5 vn5 vc5) (sL va6 vn6 vc6) G)(k:H7 w (sL ua0 un0 uc0) (sL ua1 un1 uc1) (sL ua2 un2 uc2) (sL ua3 un3 uc3) (sL ua4 un4 uc4) (sL ua5 un5 uc5) (sL ua6 un6 uc6) G) :
  Calls prog 8 #[.agg #[iV c,sL va0 vn0 vc0,sL va1 vn1 vc1,sL va2 vn2 vc2,sL va3 vn3 vc3,sL va4 vn4 vc4,sL va5 vn5 vc5,sL va6 vn6 vc6],.agg #[iV c,sL ua0 un0 uc0,sL ua1 un1 uc1,sL ua2 un2 uc2,sL ua3 un3 uc3,sL ua4 un4 uc4,sL ua5 un5 uc5,sL ua6 un6 uc6]] w λe w'=>e=.returned (.bool true)/\Nx w w':=by
 have HV0:Z (H7 ((w.alloc (.cells #[iV c,sL va0 vn0 vc0,sL va1 vn1 vc1,sL va2 vn2 vc2,sL va3 vn3 vc3,sL va4 vn4 vc4,sL va5 vn5 vc5,sL va6 vn6 vc6] 32)).alloc (.cells #[iV c,sL ua0 un0 uc0,sL ua1 un1 uc1,sL ua2 un2 uc2,sL ua3 un3 uc3,sL ua4 un4 uc4,sL ua5 un5 uc5,sL ua6 un6 uc6] 32)) (sL va0 vn0 vc0) (sL va1 vn1 vc1) (sL va2 vn2 vc2) (sL va3 vn3 vc3) (sL va4 vn4 vc4) (sL va5 vn5 vc5) (sL va6 vn6 vc6) G):=(h.next (Q4 _ _)).next (Q4 _ _)
 have HU0:Z (H7 ((w.alloc (.cells #[iV c,sL va0 vn0 vc0,sL va1 vn1 vc1,sL va2 vn2 vc2,sL va3 vn3 vc3,sL va4 vn4 vc4,sL va5 vn5 vc5,sL va6 vn6 vc6] 32)).alloc (.cells #[iV c,sL ua0 un0 uc0,sL ua1 un1 uc1,sL ua2 un2 uc2,sL ua3 un3 uc3,sL ua4 un4 uc4,sL ua5 un5 uc5,sL ua6 un6 uc6] 32)) (sL ua0 un0 uc0) (sL ua1 un1 uc1) (sL ua2 un2 uc2) (sL ua3 un3 uc3) (sL ua4 un4 uc4) (sL ua5 un5 uc5) (sL ua6 un6 uc6) G):=(k.next (Q4 _ _)).next (Q4 _ _)
 have HX0:Z (Nx w ((w.alloc (.cells #[iV c,sL va0 vn0 vc0,sL va1 vn1 vc1,sL va2 vn2 vc2,sL va3 vn3 vc3,sL va4 vn4 vc4,sL va5 vn5 vc5,sL va6 vn6 vc6] 32)).alloc (.cells #[iV c,sL ua0 un0 uc0,sL ua1 un1 uc1,sL ua2 un2 uc2,sL ua3 un3 uc3,sL ua4 un4 uc4,sL ua5 un5 uc5,sL ua6 un6 uc6] 32))):=(Q4 _ _).trans (Q4 _ _)
 have d0:(c !=c)=false:=by simp
 have BV:=(Blk.new w #[iV c,sL va0 vn0 vc0,sL va1 vn1 vc1,sL va2 vn2 vc2,sL va3 vn3 vc3,sL va4 vn4 vc4,sL va5 vn5 vc5,sL va6 vn6 vc6] 32 _ rfl).next (Q4 _ (.cells #[iV c,sL ua0 un0 uc0,sL ua1 un1 uc1,sL ua2 un2 uc2,sL ua3 un3 uc3,sL ua4 un4 uc4,sL ua5 un5 uc5,sL ua6 un6 uc6] 32))
 have BU:Blk ((w.alloc (.cells #[iV c,sL va0 vn0 vc0,sL va1 vn1 vc1,sL va2 vn2 vc2,sL va3 vn3 vc3,sL va4 vn4 vc4,sL va5 vn5 vc5,sL va6 vn6 vc6] 32)).alloc (.cells #[iV c,sL ua0 un0 uc0,sL ua1 un1 uc1,sL ua2 un2 uc2,sL ua3 un3 uc3,sL ua4 un4 uc4,sL ua5 un5 uc5,sL ua6 un6 uc6] 32)) (w.heap.size+1) #[iV c,sL ua0 un0 uc0,sL ua1 un1 uc1,sL ua2 un2 uc2,sL ua3 un3 uc3,sL ua4 un4 uc4,sL ua5 un5 uc5,sL ua6 un6 uc6]:=Blk.new _ _ _ _ (by rw[Q3])
 have p0_:=BV.c 0 rfl
 have q0_:=BU.c 0 rfl
 have p1_:=BV.c 1 rfl
 have q1_:=BU.c 1 rfl
 have p2_:=BV.c 2 rfl
 have q2_:=BU.c 2 rfl
 have p3_:=BV.c 3 rfl
 have q3_:=BU.c 3 rfl
 have p4_:=BV.c 4 rfl
 have q4_:=BU.c 4 rfl
 have p5_:=BV.c 5 rfl
 have q5_:=BU.c 5 rfl
 have p6_:=BV.c 6 rfl
 have q6_:=BU.c 6 rfl
 have p7_:=BV.c 7 rfl
 have q7_:=BU.c 7 rfl
 clear h k
 go_enter func8,ntmps8
 go_wp2_with fail
 clear p0_ q0_ p1_ q1_ p2_ q2_ p3_ q3_ p4_ q4_ p5_ q5_ p6_ q6_ p7_ q7_
 refine(Q2p _ _ _ _ _ _ _ _ _ _ _ _ _ _ _ _ _ _ _ _ _ _ _ _ _ _ _ _ _ _ _ _ _ _ _ _ _ _ _ _ _ _ G _ HV0.o HU0.o).mono ?_
 rintro e w1 ⟨rfl,hx⟩
 have HX1:Z (Nx w w1):=HX0.o.trans hx
 clear hx
 go_wp2
 go_ret
 exact⟨rfl,HX1.o⟩
structure GS (D:Nat)(w:World)(l:List (Value×Nat×(Nat->Int))):Prop where
 s:∀(j:Nat) (x:Value×Nat×(Nat->Int)),l[j]?=some x->SI w x.1 x.2.1 x.2.2
 a:Aps (l.map (·.1))
 d:∀(j:Nat) (x:Value×Nat×(Nat->Int)) (g:Nat),l[j]?=some x->x.1.ownBlock=some g->D<=g/\g<w.heap.size
theorem GS.next {D:Nat}{w w':World}{l:List (Value×Nat×(Nat->Int))}(h:GS D w l)(k:Nx w w'):GS D w' l:=
 ⟨λj x hx=>(h.s j x hx).keep (λg hg=>k.block g (h.d j x g hx hg).2),h.a,λj x g hx hg=>⟨(h.d j x g hx hg).1,zK (h.d j x g hx hg).2 k.size⟩⟩
theorem GS.mark {D:Nat}{w w':World}{l:List (Value×Nat×(Nat->Int))}(h:GS D w l)(j:Nat){v:Value}{n:Nat}{F F':Nat->Int}(hj:l[j]?=some (v,n,F))(s:SI w' v n F')(o:J1 v.ownBlock w w'):GS D w' (l.set j (v,n,F')):=by
 have key:∀(i:Nat) x,(l.set j (v,n,F'))[i]?=some x->(i=j/\x=(v,n,F'))\/(i≠j/\l[i]?=some x):=λi x hx=>by
  by_cases e:i=j
  ·subst e
   have hl:=(List.getElem?_eq_some_iff.1 hj).1
   rw[List.getElem?_set_self hl] at hx
   exact oL ⟨rfl,(zF hx).symm⟩
  ·rw[List.getElem?_set_ne (Ne.symm e)] at hx
   exact oR ⟨e,hx⟩
 have hmap:(l.set j (v,n,F')).map (·.1)=l.map (·.1):=by
  apply List.ext_getElem?
  intro i
  rw[yD,yD]
  by_cases e:i=j
  ·subst e
   have hl:=(List.getElem?_eq_some_iff.1 hj).1
   rw[List.getElem?_set_self hl,hj]
   rfl
  ·rw[List.getElem?_set_ne (Ne.symm e)]
 refine⟨λi x hx=>?_,by rw[hmap];exact h.a,λi x g hx hg=>?_⟩
 ·rcases key i x hx with⟨-,rfl⟩|⟨e,hx'⟩
  ·exact s
  ·refine(h.s i x hx').keep (λg hg=>o.block g (h.d i x g hx' hg).2 (λc=>?_))
   exact h.a i j x.1 v g e (by rw[yD,hx'];rfl) (by rw[yD,hj];rfl) hg c.symm
 ·rcases key i x hx with⟨-,rfl⟩|⟨e,hx'⟩
  ·exact⟨(h.d j _ g hj hg).1,zK (h.d j _ g hj hg).2 o.size⟩
  ·exact⟨(h.d i x g hx' hg).1,zK (h.d i x g hx' hg).2 o.size⟩
def inL (l:List Value)(b:Nat):Prop:=∃(j:Nat) (v:Value),l[j]?=some v/\v.ownBlock=some b
theorem O7.gs {C:Nat}{w:World}{v0 v1 v2 v3 v4 v5 v6:Value}{G:Gc}(h:O7 C w v0 v1 v2 v3 v4 v5 v6 G):GS C w [(v0,G.eo.length,iat G.eo),(v1,G.so.length,iat G.so),(v2,G.fi.length,iat G.fi),(v3,G.tt.length,iat G.tt),(v4,G.co.length,iat G.co),(v5,G.sa.length,iat G.sa),(v6,G.we.length,iat G.we)]:=by
 refine⟨λj x hx=>?_,h.ap,λj x g hx hg=>?_⟩
 ·match j,hx with
  |0,hx=>obtain rfl:=zF hx;exact h.o0.si
  |1,hx=>obtain rfl:=zF hx;exact h.o1.si
  |2,hx=>obtain rfl:=zF hx;exact h.o2.si
  |3,hx=>obtain rfl:=zF hx;exact h.o3.si
  |4,hx=>obtain rfl:=zF hx;exact h.o4.si
  |5,hx=>obtain rfl:=zF hx;exact h.o5.si
  |6,hx=>obtain rfl:=zF hx;exact h.o6.si
  |j+7,hx=>simp at hx
 ·match j,hx with
  |0,hx=>obtain rfl:=zF hx;exact Q5 h.o0 g hg
  |1,hx=>obtain rfl:=zF hx;exact Q5 h.o1 g hg
  |2,hx=>obtain rfl:=zF hx;exact Q5 h.o2 g hg
  |3,hx=>obtain rfl:=zF hx;exact Q5 h.o3 g hg
  |4,hx=>obtain rfl:=zF hx;exact Q5 h.o4 g hg
  |5,hx=>obtain rfl:=zF hx;exact Q5 h.o5 g hg
  |6,hx=>obtain rfl:=zF hx;exact Q5 h.o6 g hg
  |j+7,hx=>simp at hx
theorem Q04 (D:Nat)(a0 a1 a2 a3 a4 a5 a6:Option Addr)(n0 c0 n1 c1 n2 c2 n3 c3 n4 c4 n5 c5 n6 c6:Nat)(F0 F1 F2 F3 F4 F5 F6:Nat->Int)(w:World)(h:GS D w [(sL a0 n0 c0,n0,F0),(sL a1 n1 c1,n1,F1),(sL a2 n2 c2,n2,F2),(sL a3 n3 c3,n3,F3),(sL a4 n4 c4,n4,F4),(sL a5 n5 c5,n5,F5),(sL a6 n6 c6,n6,F6)])(h0:n0<=100000)(h1:n1<=100000)(h2:n2<=100000)(h3:n3<=100000)(h4:n4<=100000)(h5:n5<=100000)(h6:n6<=100000) :
  Calls prog 47 #[.agg #[sL a0 n0 c0,sL a1 n1 c1,sL a2 n2 c2,sL a3 n3 c3,sL a4 n4 c4,sL a5 n5 c5,sL a6 n6 c6],iV 1] w λe w'=>e=.returned (iV (1+n0+n1+n2+n3+n4+n5+n6))/\GS D w' [(sL a0 n0 c0,n0,(λi=>1+i)),(sL a1 n1 c1,n1,(λi=>1+n0+i)),(sL a2 n2 c2,n2,(λi=>1+n0+n1+i)),(sL a3 n3 c3,n3,(λi=>1+n0+n1+n2+i)),(sL a4 n4 c4,n4,(λi=>1+n0+n1+n2+n3+i)),(sL a5 n5 c5,n5,(λi=>1+n0+n1+n2+n3+n4+i)),(sL a6 n6 c6,n6,(λi=>1+n0+n1+n2+n3+n4+n5+i))]/\Chg (inL [sL a0 n0 c0,sL a1 n1 c1,sL a2 n2 c2,sL a3 n3 c3,sL a4 n4 c4,sL a5 n5 c5,sL a6 n6 c6]) w w':=by
 have HG0:Z (GS D (w.alloc (.cells #[sL a0 n0 c0,sL a1 n1 c1,sL a2 n2 c2,sL a3 n3 c3,sL a4 n4 c4,sL a5 n5 c5,sL a6 n6 c6] 30)) [(sL a0 n0 c0,n0,F0),(sL a1 n1 c1,n1,F1),(sL a2 n2 c2,n2,F2),(sL a3 n3 c3,n3,F3),(sL a4 n4 c4,n4,F4),(sL a5 n5 c5,n5,F5),(sL a6 n6 c6,n6,F6)]):=h.next (Q4 _ _)
 have HB0:Z (Chg (inL [sL a0 n0 c0,sL a1 n1 c1,sL a2 n2 c2,sL a3 n3 c3,sL a4 n4 c4,sL a5 n5 c5,sL a6 n6 c6]) w (w.alloc (.cells #[sL a0 n0 c0,sL a1 n1 c1,sL a2 n2 c2,sL a3 n3 c3,sL a4 n4 c4,sL a5 n5 c5,sL a6 n6 c6] 30))):=Chg.nx (Q4 _ _)
 have HNE:Z (∀(j:Nat) x g,([(sL a0 n0 c0,n0,F0),(sL a1 n1 c1,n1,F1),(sL a2 n2 c2,n2,F2),(sL a3 n3 c3,n3,F3),(sL a4 n4 c4,n4,F4),(sL a5 n5 c5,n5,F5),(sL a6 n6 c6,n6,F6)]:List (Value×Nat×(Nat->Int)))[j]?=some x->x.1.ownBlock=some g->g≠w.heap.size):=λj x g hx hg e=>by have:=(h.d j x g hx hg).2;omega
 have BV:=Blk.new w #[sL a0 n0 c0,sL a1 n1 c1,sL a2 n2 c2,sL a3 n3 c3,sL a4 n4 c4,sL a5 n5 c5,sL a6 n6 c6] 30 _ rfl
 have p0_:=BV.c 0 rfl
 clear h
 go_enter func47,ntmps47
 go_wp2_with fail
 clear p0_
 refine(Zw _ n0 _ _ _ (by exact HG0.o.s 0 _ rfl) (by omega) (by omega) (by omega)).mono ?_
 rintro e w1 ⟨rfl,s_,o_⟩
 have HG1:=Q2 (HG0.o.mark 0 rfl s_ o_)
 have HB1:=Q2 (HB0.o.trans (Chg.only o_ (λb e=>⟨0,_,rfl,e.symm⟩)))
 have BV:=o_.blk BV (λe=>HNE.o 0 _ _ rfl e.symm rfl)
 clear s_ o_ HG0 HB0
 have p1_:=BV.c 1 rfl
 go_wp2_with fail
 clear p1_
 refine(Zw _ n1 _ _ _ (by exact HG1.o.s 1 _ rfl) (by omega) (by omega) (by omega)).mono ?_
 rintro e w2 ⟨rfl,s_,o_⟩
 have HG2:=Q2 (HG1.o.mark 1 rfl s_ o_)
 have HB2:=Q2 (HB1.o.trans (Chg.only o_ (λb e=>⟨1,_,rfl,e.symm⟩)))
 have BV:=o_.blk BV (λe=>HNE.o 1 _ _ rfl e.symm rfl)
 clear s_ o_ HG1 HB1
 have p2_:=BV.c 2 rfl
 go_wp2_with fail
 clear p2_
 refine(Zw _ n2 _ _ _ (by exact HG2.o.s 2 _ rfl) (by omega) (by omega) (by omega)).mono ?_
 rintro e w3 ⟨rfl,s_,o_⟩
 have HG3:=Q2 (HG2.o.mark 2 rfl s_ o_)
 have HB3:=Q2 (HB2.o.trans (Chg.only o_ (λb e=>⟨2,_,rfl,e.symm⟩)))
 have BV:=o_.blk BV (λe=>HNE.o 2 _ _ rfl e.symm rfl)
 clear s_ o_ HG2 HB2
 have p3_:=BV.c 3 rfl
 go_wp2_with fail
 clear p3_
 refine(Zw _ n3 _ _ _ (by exact HG3.o.s 3 _ rfl) (by omega) (by omega) (by omega)).mono ?_
 rintro e w4 ⟨rfl,s_,o_⟩
 have HG4:=Q2 (HG3.o.mark 3 rfl s_ o_)
 have HB4:=Q2 (HB3.o.trans (Chg.only o_ (λb e=>⟨3,_,rfl,e.symm⟩)))
 have BV:=o_.blk BV (λe=>HNE.o 3 _ _ rfl e.symm rfl)
 clear s_ o_ HG3 HB3
 have p4_:=BV.c 4 rfl
 go_wp2_with fail
 clear p4_
 refine(Zw _ n4 _ _ _ (by exact HG4.o.s 4 _ rfl) (by omega) (by omega) (by omega)).mono ?_
 rintro e w5 ⟨rfl,s_,o_⟩
 have HG5:=Q2 (HG4.o.mark 4 rfl s_ o_)
 have HB5:=Q2 (HB4.o.trans (Chg.only o_ (λb e=>⟨4,_,rfl,e.symm⟩)))
 have BV:=o_.blk BV (λe=>HNE.o 4 _ _ rfl e.symm rfl)
 clear s_ o_ HG4 HB4
 have p5_:=BV.c 5 rfl
 go_wp2_with fail
 clear p5_
 refine(Zw _ n5 _ _ _ (by exact HG5.o.s 5 _ rfl) (by omega) (by omega) (by omega)).mono ?_
 rintro e w6 ⟨rfl,s_,o_⟩
 have HG6:=Q2 (HG5.o.mark 5 rfl s_ o_)
 have HB6:=Q2 (HB5.o.trans (Chg.only o_ (λb e=>⟨5,_,rfl,e.symm⟩)))
 have BV:=o_.blk BV (λe=>HNE.o 5 _ _ rfl e.symm rfl)
 clear s_ o_ HG5 HB5
 have p6_:=BV.c 6 rfl
 go_wp2_with fail
 clear p6_
 refine(Zw _ n6 _ _ _ (by exact HG6.o.s 6 _ rfl) (by omega) (by omega) (by omega)).mono ?_
 rintro e w7 ⟨rfl,s_,o_⟩
 have HG7:=Q2 (HG6.o.mark 6 rfl s_ o_)
 have HB7:=Q2 (HB6.o.trans (Chg.only o_ (λb e=>⟨6,_,rfl,e.symm⟩)))
 have BV:=o_.blk BV (λe=>HNE.o 6 _ _ rfl e.symm rfl)
 clear s_ o_ HG6 HB6
 go_wp2
 go_ret
 exact⟨rfl,HG7.o,HB7.o⟩
theorem Q0a (D:Nat)(a0 a1 a2 a3 a4 a5 a6:Option Addr)(n0 c0 n1 c1 n2 c2 n3 c3 n4 c4 n5 c5 n6 c6:Nat)(w:World)(h:GS D w [(sL a0 n0 c0,n0,(λi=>1+i)),(sL a1 n1 c1,n1,(λi=>1+n0+i)),(sL a2 n2 c2,n2,(λi=>1+n0+n1+i)),(sL a3 n3 c3,n3,(λi=>1+n0+n1+n2+i)),(sL a4 n4 c4,n4,(λi=>1+n0+n1+n2+n3+i)),(sL a5 n5 c5,n5,(λi=>1+n0+n1+n2+n3+n4+i)),(sL a6 n6 c6,n6,(λi=>1+n0+n1+n2+n3+n4+n5+i))])(h0:n0<=100000)(h1:n1<=100000)(h2:n2<=100000)(h3:n3<=100000)(h4:n4<=100000)(h5:n5<=100000)(h6:n6<=100000) :
  Calls prog 48 #[.agg #[sL a0 n0 c0,sL a1 n1 c1,sL a2 n2 c2,sL a3 n3 c3,sL a4 n4 c4,sL a5 n5 c5,sL a6 n6 c6],iV 1] w λe w'=>e=.returned (iV (1+n0+n1+n2+n3+n4+n5+n6))/\Nx w w':=by
 have HG:Z (GS D (w.alloc (.cells #[sL a0 n0 c0,sL a1 n1 c1,sL a2 n2 c2,sL a3 n3 c3,sL a4 n4 c4,sL a5 n5 c5,sL a6 n6 c6] 30)) [(sL a0 n0 c0,n0,(λi=>1+i)),(sL a1 n1 c1,n1,(λi=>1+n0+i)),(sL a2 n2 c2,n2,(λi=>1+n0+n1+i)),(sL a3 n3 c3,n3,(λi=>1+n0+n1+n2+i)),(sL a4 n4 c4,n4,(λi=>1+n0+n1+n2+n3+i)),(sL a5 n5 c5,n5,(λi=>1+n0+n1+n2+n3+n4+i)),(sL a6 n6 c6,n6,(λi=>1+n0+n1+n2+n3+n4+n5+i))]):=h.next (Q4 _ _)
 have BV:=Blk.new w #[sL a0 n0 c0,sL a1 n1 c1,sL a2 n2 c2,sL a3 n3 c3,sL a4 n4 c4,sL a5 n5 c5,sL a6 n6 c6] 30 _ rfl
 have p0_:=BV.c 0 rfl
 have d0:decide (1+(n0:Int)<0)=false:=yJ (by omega)
 have p1_:=BV.c 1 rfl
 have d1:decide (1+(n0:Int)+(n1:Int)<0)=false:=yJ (by omega)
 have p2_:=BV.c 2 rfl
 have d2:decide (1+(n0:Int)+(n1:Int)+(n2:Int)<0)=false:=yJ (by omega)
 have p3_:=BV.c 3 rfl
 have d3:decide (1+(n0:Int)+(n1:Int)+(n2:Int)+(n3:Int)<0)=false:=yJ (by omega)
 have p4_:=BV.c 4 rfl
 have d4:decide (1+(n0:Int)+(n1:Int)+(n2:Int)+(n3:Int)+(n4:Int)<0)=false:=yJ (by omega)
 have p5_:=BV.c 5 rfl
 have d5:decide (1+(n0:Int)+(n1:Int)+(n2:Int)+(n3:Int)+(n4:Int)+(n5:Int)<0)=false:=yJ (by omega)
 have p6_:=BV.c 6 rfl
 have d6:decide (1+(n0:Int)+(n1:Int)+(n2:Int)+(n3:Int)+(n4:Int)+(n5:Int)+(n6:Int)<0)=false:=yJ (by omega)
 clear h BV
 go_enter func48,ntmps48
 go_wp2_with fail
 refine(Zy _ n0 _ _ (by exact HG.o.s 0 _ rfl) (by omega) (by omega) (by omega)).mono ?_
 rintro e w1 ⟨rfl,rfl⟩
 go_wp2_with fail
 refine(Zy _ n1 _ _ (by exact HG.o.s 1 _ rfl) (by omega) (by omega) (by omega)).mono ?_
 rintro e w2 ⟨rfl,rfl⟩
 go_wp2_with fail
 refine(Zy _ n2 _ _ (by exact HG.o.s 2 _ rfl) (by omega) (by omega) (by omega)).mono ?_
 rintro e w3 ⟨rfl,rfl⟩
 go_wp2_with fail
 refine(Zy _ n3 _ _ (by exact HG.o.s 3 _ rfl) (by omega) (by omega) (by omega)).mono ?_
 rintro e w4 ⟨rfl,rfl⟩
 go_wp2_with fail
 refine(Zy _ n4 _ _ (by exact HG.o.s 4 _ rfl) (by omega) (by omega) (by omega)).mono ?_
 rintro e w5 ⟨rfl,rfl⟩
 go_wp2_with fail
 refine(Zy _ n5 _ _ (by exact HG.o.s 5 _ rfl) (by omega) (by omega) (by omega)).mono ?_
 rintro e w6 ⟨rfl,rfl⟩
 go_wp2_with fail
 refine(Zy _ n6 _ _ (by exact HG.o.s 6 _ rfl) (by omega) (by omega) (by omega)).mono ?_
 rintro e w7 ⟨rfl,rfl⟩
 go_wp2
 go_ret
 exact⟨rfl,Q4 _ _⟩
theorem G8 (D:Nat)(c:Int)(a0 a1 a2 a3 a4 a5 a6:Option Addr)(n0 c0 n1 c1 n2 c2 n3 c3 n4 c4 n5 c5 n6 c6:Nat)(F0 F1 F2 F3 F4 F5 F6:Nat->Int)(w:World)(h:GS D w [(sL a0 n0 c0,n0,F0),(sL a1 n1 c1,n1,F1),(sL a2 n2 c2,n2,F2),(sL a3 n3 c3,n3,F3),(sL a4 n4 c4,n4,F4),(sL a5 n5 c5,n5,F5),(sL a6 n6 c6,n6,F6)])(h0:n0<=100000)(h1:n1<=100000)(h2:n2<=100000)(h3:n3<=100000)(h4:n4<=100000)(h5:n5<=100000)(h6:n6<=100000) :
  Calls prog 11 #[.agg #[iV c,sL a0 n0 c0,sL a1 n1 c1,sL a2 n2 c2,sL a3 n3 c3,sL a4 n4 c4,sL a5 n5 c5,sL a6 n6 c6],iV 1] w λe w'=>e=.returned (iV (1+n0+n1+n2+n3+n4+n5+n6))/\GS D w' [(sL a0 n0 c0,n0,(λi=>1+i)),(sL a1 n1 c1,n1,(λi=>1+n0+i)),(sL a2 n2 c2,n2,(λi=>1+n0+n1+i)),(sL a3 n3 c3,n3,(λi=>1+n0+n1+n2+i)),(sL a4 n4 c4,n4,(λi=>1+n0+n1+n2+n3+i)),(sL a5 n5 c5,n5,(λi=>1+n0+n1+n2+n3+n4+i)),(sL a6 n6 c6,n6,(λi=>1+n0+n1+n2+n3+n4+n5+i))]/\Chg (inL [sL a0 n0 c0,sL a1 n1 c1,sL a2 n2 c2,sL a3 n3 c3,sL a4 n4 c4,sL a5 n5 c5,sL a6 n6 c6]) w w':=by
 have HG0:Z (GS D (w.alloc (.cells #[iV c,sL a0 n0 c0,sL a1 n1 c1,sL a2 n2 c2,sL a3 n3 c3,sL a4 n4 c4,sL a5 n5 c5,sL a6 n6 c6] 32)) [(sL a0 n0 c0,n0,F0),(sL a1 n1 c1,n1,F1),(sL a2 n2 c2,n2,F2),(sL a3 n3 c3,n3,F3),(sL a4 n4 c4,n4,F4),(sL a5 n5 c5,n5,F5),(sL a6 n6 c6,n6,F6)]):=h.next (Q4 _ _)
 have HB0:Z (Chg (inL [sL a0 n0 c0,sL a1 n1 c1,sL a2 n2 c2,sL a3 n3 c3,sL a4 n4 c4,sL a5 n5 c5,sL a6 n6 c6]) w (w.alloc (.cells #[iV c,sL a0 n0 c0,sL a1 n1 c1,sL a2 n2 c2,sL a3 n3 c3,sL a4 n4 c4,sL a5 n5 c5,sL a6 n6 c6] 32))):=Chg.nx (Q4 _ _)
 have BV:=Blk.new w #[iV c,sL a0 n0 c0,sL a1 n1 c1,sL a2 n2 c2,sL a3 n3 c3,sL a4 n4 c4,sL a5 n5 c5,sL a6 n6 c6] 32 _ rfl
 have p0_:=BV.c 0 rfl
 have p1_:=BV.c 1 rfl
 have p2_:=BV.c 2 rfl
 have p3_:=BV.c 3 rfl
 have p4_:=BV.c 4 rfl
 have p5_:=BV.c 5 rfl
 have p6_:=BV.c 6 rfl
 have p7_:=BV.c 7 rfl
 clear h BV
 go_enter func11,ntmps11
 go_wp2_with fail
 clear p0_ p1_ p2_ p3_ p4_ p5_ p6_ p7_
 refine(Q04 D _ _ _ _ _ _ _ _ _ _ _ _ _ _ _ _ _ _ _ _ _ F0 F1 F2 F3 F4 F5 F6 _ HG0.o h0 h1 h2 h3 h4 h5 h6).mono ?_
 rintro e w1 ⟨rfl,hg,hb⟩
 have HG1:=Q2 hg
 have HB1:Z (Chg (inL [sL a0 n0 c0,sL a1 n1 c1,sL a2 n2 c2,sL a3 n3 c3,sL a4 n4 c4,sL a5 n5 c5,sL a6 n6 c6]) w w1):=HB0.o.trans hb
 clear hg hb
 go_wp2
 go_ret
 exact⟨rfl,HG1.o,HB1.o⟩
theorem Gg (D:Nat)(c:Int)(a0 a1 a2 a3 a4 a5 a6:Option Addr)(n0 c0 n1 c1 n2 c2 n3 c3 n4 c4 n5 c5 n6 c6:Nat)(w:World)(h:GS D w [(sL a0 n0 c0,n0,(λi=>1+i)),(sL a1 n1 c1,n1,(λi=>1+n0+i)),(sL a2 n2 c2,n2,(λi=>1+n0+n1+i)),(sL a3 n3 c3,n3,(λi=>1+n0+n1+n2+i)),(sL a4 n4 c4,n4,(λi=>1+n0+n1+n2+n3+i)),(sL a5 n5 c5,n5,(λi=>1+n0+n1+n2+n3+n4+i)),(sL a6 n6 c6,n6,(λi=>1+n0+n1+n2+n3+n4+n5+i))])(h0:n0<=100000)(h1:n1<=100000)(h2:n2<=100000)(h3:n3<=100000)(h4:n4<=100000)(h5:n5<=100000)(h6:n6<=100000) :
  Calls prog 12 #[.agg #[iV c,sL a0 n0 c0,sL a1 n1 c1,sL a2 n2 c2,sL a3 n3 c3,sL a4 n4 c4,sL a5 n5 c5,sL a6 n6 c6],iV 1] w λe w'=>e=.returned (iV (1+n0+n1+n2+n3+n4+n5+n6))/\Nx w w':=by
 have HG0:Z (GS D (w.alloc (.cells #[iV c,sL a0 n0 c0,sL a1 n1 c1,sL a2 n2 c2,sL a3 n3 c3,sL a4 n4 c4,sL a5 n5 c5,sL a6 n6 c6] 32)) [(sL a0 n0 c0,n0,(λi=>1+i)),(sL a1 n1 c1,n1,(λi=>1+n0+i)),(sL a2 n2 c2,n2,(λi=>1+n0+n1+i)),(sL a3 n3 c3,n3,(λi=>1+n0+n1+n2+i)),(sL a4 n4 c4,n4,(λi=>1+n0+n1+n2+n3+i)),(sL a5 n5 c5,n5,(λi=>1+n0+n1+n2+n3+n4+i)),(sL a6 n6 c6,n6,(λi=>1+n0+n1+n2+n3+n4+n5+i))]):=h.next (Q4 _ _)
 have HX0:Z (Nx w (w.alloc (.cells #[iV c,sL a0 n0 c0,sL a1 n1 c1,sL a2 n2 c2,sL a3 n3 c3,sL a4 n4 c4,sL a5 n5 c5,sL a6 n6 c6] 32))):=Q4 _ _
 have d7:decide (1+(n0:Int)+(n1:Int)+(n2:Int)+(n3:Int)+(n4:Int)+(n5:Int)+(n6:Int)<0)=false:=yJ (by omega)
 have BV:=Blk.new w #[iV c,sL a0 n0 c0,sL a1 n1 c1,sL a2 n2 c2,sL a3 n3 c3,sL a4 n4 c4,sL a5 n5 c5,sL a6 n6 c6] 32 _ rfl
 have p0_:=BV.c 0 rfl
 have p1_:=BV.c 1 rfl
 have p2_:=BV.c 2 rfl
 have p3_:=BV.c 3 rfl
 have p4_:=BV.c 4 rfl
 have p5_:=BV.c 5 rfl
 have p6_:=BV.c 6 rfl
 have p7_:=BV.c 7 rfl
 clear h BV
 go_enter func12,ntmps12
 go_wp2_with fail
 clear p0_ p1_ p2_ p3_ p4_ p5_ p6_ p7_
 refine(Q0a D _ _ _ _ _ _ _ _ _ _ _ _ _ _ _ _ _ _ _ _ _ _ HG0.o h0 h1 h2 h3 h4 h5 h6).mono ?_
 rintro e w1 ⟨rfl,hx⟩
 have HX1:Z (Nx w w1):=HX0.o.trans hx
 clear hx
 go_wp2
 go_ret
 exact⟨rfl,HX1.o⟩
end Go.Proofs.YtahpodmokbdjeaaGreatDoor
