import Derived.Test.YtphiaobccollhaaGreatQRoM
import Derived.Test.YtphiaobccollhaaGreatQRoJ
import Derived.Test.YtphiaobccollhaaGreatQSpD
import Derived.Maps.AppendAt
import Derived.Deep.RegionLaw
namespace Go.Proofs.YtphiaobccollhaaGreat
open Go.RowKit
set_option linter.unusedVariables false
set_option maxRecDepth 1000000
set_option maxHeartbeats 16000000
theorem Q5.snoc {B:Nat}{w:World}{v:Value}{zs:List Int}{z:Int}(h:w.ownsRow B 2 1 v (zs.length+1) (J0 zs++[iV z])):Q5 B w v (zs++[z]):=by
 unfold Q5
 have e:J0 (zs++[z])=J0 zs++[iV z]:=by simp[J0]
 rw[zA,e]
 exact h
theorem Blk.grown {w w':World}{o:Option Nat}{b:Nat}{cs:Array Value}(h:Blk w b cs)(k:w.grownBy w' o)(hn:some b≠o):Blk w' b cs:=by
 have hl:=h.lt
 obtain⟨t,hb⟩:=h
 exact⟨t,(k.block b hl hn).trans hb⟩
structure FO (gb:Nat)(A B:Value)(C:Nat)(w:World)(vF vO:Value)(fs os:List Int):Prop where
 box:Blk w gb #[A,B,vF,vO]
 F:Q5 C w vF fs
 O:Q5 C w vO os
 ne:∀g,vF.ownBlock=some g->vO.ownBlock≠some g
theorem FO.boxF {gb C:Nat}{A B vF vO:Value}{w w':World}{fs os:List Int}(h:FO gb A B C w vF vO fs os)(hC:gb<C){o:Obj}(hg:(w.alloc o).grownBy w' vF.ownBlock):Blk w' gb #[A,B,vF,vO]:=
 (h.box.alloc o).grown hg λe=>by have:=(Q7 h.F gb e.symm).1;omega
theorem FO.boxO {gb C:Nat}{A B vF vO:Value}{w w':World}{fs os:List Int}(h:FO gb A B C w vF vO fs os)(hC:gb<C){o:Obj}(hg:(w.alloc o).grownBy w' vO.ownBlock):Blk w' gb #[A,B,vF,vO]:=
 (h.box.alloc o).grown hg λe=>by have:=(Q7 h.O gb e.symm).1;omega
theorem Q1 (w:World)(o:Obj):(w.alloc o).heap.size=w.heap.size+1:=Array.size_push _
theorem FO.first {gb C:Nat}{A B vF vO v':Value}{w w':World}{fs os:List Int}{z:Int}(h:FO gb A B C w vF vO fs os)(hC:gb<C){o:Obj}
  (hown:w'.ownsRow C 2 1 v' (fs.length+1) (J0 fs++[iV z])) (hg:(w.alloc o).grownBy w' vF.ownBlock) (hat:v'.ownBlock=vF.ownBlock\/v'.ownBlock=some (w.heap.size+1)) :
  FO gb A B C (w'.setCell (aD gb 2) v') v' vO (fs++[z]) os:=by
 refine⟨(h.boxF hC hg).set 2 v',Qc (Q5.snoc hown) hC 2 _,Qc (zL (zB h.O o) hg ?_) hC 2 _,λg hg' hO=>?_⟩
 ·cases e:vO.ownBlock with
  |none=>exact oL rfl
  |some g=>exact oR λe'=>h.ne g e'.symm e
 ·rcases hat with hat|hat
  ·exact h.ne g (hat▸hg') hO
  ·rw[hat] at hg'
   have:=(Q7 h.O g hO).2
   have e:=zE hg'
   omega
theorem FO.o {gb C:Nat}{A B vF vO v':Value}{w w':World}{fs os:List Int}{z:Int}(h:FO gb A B C w vF vO fs os)(hC:gb<C){o:Obj}
  (hown:w'.ownsRow C 2 1 v' (os.length+1) (J0 os++[iV z])) (hg:(w.alloc o).grownBy w' vO.ownBlock) (hat:v'.ownBlock=vO.ownBlock\/v'.ownBlock=some (w.heap.size+1)) :
  FO gb A B C (w'.setCell (aD gb 3) v') vF v' fs (os++[z]):=by
 refine⟨(h.boxO hC hg).set 3 v',Qc (zL (zB h.F o) hg ?_) hC 3 _,Qc (Q5.snoc hown) hC 3 _,λg hF hg'=>?_⟩
 ·cases e:vF.ownBlock with
  |none=>exact oL rfl
  |some g=>exact oR λe'=>h.ne g e e'.symm
 ·rcases hat with hat|hat
  ·exact h.ne g hF (hat▸hg')
  ·rw[hat] at hg'
   have:=(Q7 h.F g hF).2
   have e:=zE hg'
   omega
theorem Xt.app {gb i:Nat}{W w w':World}{r:Option Nat}{o:Obj}(h:Xt (some gb) W w)(hg:(w.alloc o).grownBy w' r)(hr:∀g,r=some g->W.heap.size<=g)(u:Value):Xt (some gb) W (w'.setCell (aD gb i) u):=by
 refine Xt.set ?_ rfl u
 have hs:=h.size
 have hz:=hg.size
 rw[Q1] at hz
 refine⟨hg.os.trans h.os,hg.tape.trans h.tape,hg.output.trans h.output,by omega,λb hb hn=>?_⟩
 rw[hg.block b (by rw[Q1];omega) (λe=>by have:=hr b e.symm;omega)]
 have:(w.alloc o).heap[b]?=w.heap[b]?:=(Qe w o).block b (by omega)
 rw[this]
 exact h.block b hb hn
theorem Xt.blk {o:Option Nat}{W w:World}{b:Nat}{cs:Array Value}(k:Xt o W w)(h:Blk W b cs)(hn:some b≠o):Blk w b cs:=by
 have hl:=h.lt
 obtain⟨t,hb⟩:=h
 exact⟨t,(k.block b hl hn).trans hb⟩
theorem Xt.own {o:Option Nat}{W w:World}{B ty sz:Nat}{v:Value}{n:Nat}{xs:List Value}(k:Xt o W w)(h:W.ownsRow B ty sz v n xs)(hn:∀g,v.ownBlock=some g->some g≠o):w.ownsRow B ty sz v n xs:=by
 obtain⟨h1,h2⟩:=h
 refine⟨h1,?_⟩
 rcases h2 with h2|⟨g,cap,cur,hv,hg,hh,r⟩
 ·exact oL h2
 ·exact oR ⟨g,cap,cur,hv,hg,(k.block g (Array.getElem?_eq_some_iff.1 hh).1 (hn g (by rw[hv];rfl))).trans hh,r⟩
def fsL (N:Nt)(p:Nat):List Int:=(List.range p).map (λq=>((cL (tlN N) q (mN N):Nat):Int))
def osL (N:Nt)(p k:Nat):List Int:=(Q94 (tlN N) (mN N) p++grp (tlN N) p k).map (λe:Nat=>(e:Int))
theorem Q7v (N:Nt)(p:Nat):(fsL N p).length=p:=by simp[fsL]
theorem Q7a (N:Nt)(p k:Nat):(osL N p k).length=cL (tlN N) p (mN N)+cE (tlN N) p k:=by simp[osL,Qay,Q7t]
theorem Q3m (N:Nt)(p:Nat):(osL N p 0).length=cL (tlN N) p (mN N):=by rw[Q7a];rfl
theorem Qbv (N:Nt)(p:Nat):fsL N (p+1)=fsL N p++[((osL N p 0).length:Int)]:=by rw[Q3m];simp[fsL,List.range_succ]
theorem Qdg {N:Nt}{p k:Nat}(h:tlN N k=p):osL N p (k+1)=osL N p k++[(k:Int)]:=by simp[osL,grp,h]
theorem Qft {N:Nt}{p k:Nat}(h:tlN N k≠p):osL N p (k+1)=osL N p k:=by simp[osL,grp,h]
theorem Qfs (N:Nt)(p:Nat):osL N p (mN N)=osL N (p+1) 0:=by simp[osL,Q94,grp]
theorem Qd7 {N:Nt}(h:Pi N){e:Nat}(he:e<mN N):(eat (E1 N) e).tail=((tlN N e:Nat):Int):=by
 have:=(Qf3 h (e:=e) (by rw[Ti];exact he)).1
 unfold tlN tlE
 omega
end Go.Proofs.YtphiaobccollhaaGreat
namespace Go
set_option maxHeartbeats 16000000
theorem Wq {P:Program}{ops:Array Oper}{o:Oper}{a:Act}{w:World}{K:Act->World->Prop}{Q:Exit->Act->World->Prop}{E:Prop}
  (hg:o.guard=none) (s x:Operand) (t:TypeId) (hop:o.op=Op.call { callee:=Callee.builtin Builtin.append,args:=#[s,x],argTypes:=#[t,t] })
  (e:TypeId) (i:TypeInfo) (z:Value) (size bytes:Nat) (h1:P.underlying t=some (.slice e)) (h2:P.info? e=some i) (h3:i.zero=some z) (h4:i.size=size) (h5:i.bytes=bytes) (h6:z.cells.size=size) (h7:0<size)
  (B:Nat) (v:Value) (n:Nat) (olds:List Value) (hs:a.eval s=v) (hown:w.ownsRow B e size v n olds)
  (ad:Addr) (m c:Nat) (news:List Value) (hx:a.eval x=.slice (some ad) m c) (hn:news.length=m*size) (hc:∀j u,news[j]?=some u->w.cell? (ad.add j)=some u) (h1c:∀u∈news,u.oneCell'=true)
  (b1:n+m<=maxLen) (b2:(n+m)*bytes<=140737488355328) (hB:B<=w.heap.size)
  (hK:∀v' w',w'.ownsRow B e size v' (n+m) (olds++news)->w.grownBy w' v.ownBlock->K (a.put o.dst v') w') :
  if Region.wanted o (yielded ops a.tmps)=true then Oper.wp P o a w K Q else E:=by
 have hw:Region.wanted o (yielded ops a.tmps)=true:=by simp[Region.wanted,hg]
 rw[if_pos hw]
 obtain⟨v',w',hrun,r1,r2,_⟩:=run_append_own (P:=P) w B t o.type e i z size bytes h1 h2 h3 h4 h5 h6 h7 v n olds hown ad m c news hn hc h1c b1 b2 hB
 unfold Oper.wp
 simp[execOp,hop,resolve,invoke,builtin,hs,hx,hrun,Result.andThen]
 exact hK v' w' r1 r2
end Go
namespace Go.Proofs.YtphiaobccollhaaGreat
set_option maxHeartbeats 16000000
open Go.RowKit Tryz
set_option linter.unusedVariables false
set_option maxRecDepth 100000
def tkN (zs:List Int)(k:Nat):List Int:=zs.take k
theorem Qa6 {zs:List Int}{k:Nat}(h:k<zs.length):tkN zs (k+1)=tkN zs k++[iat zs k]:=by
 unfold tkN
 rw[zP h,V5 h]
theorem Qd3 {zs:List Int}{k:Nat}(h:k<=zs.length):(tkN zs k).length=k:=by simp[tkN,h]
theorem Qd4 (zs:List Int):tkN zs zs.length=zs:=by simp[tkN]
def Te (x:Eg)(j:Nat):Value:=((Ya x)[j]?).getD (.bool false)
def twX (E:List Eg)(m e f i:Nat):Eg:=if i<e then Tw (eat E i) (Ga E i m) else if i=e then Tw (eat E i) (Ga E i f) else eat E i
def RX (w:World)(g n:Nat)(X:Nat->Eg):Prop:=RE w g n (λi j=>Te (X i) j)
theorem RX.tw {w:World}{g n:Nat}{E:List Eg}{m e f:Nat}(h:RX w g n (twX E m e f))(he:e<n)(hm:mt (eat E e) (eat E f)=true):RX (w.setCell (aD g (e*7+6)) (iV (f:Int))) g n (twX E m e (f+1)):=by
 refine RE.congr (RE.set h he (j:=6) (by omega) _) λi j _ hj=>?_
 by_cases c:i=e/\j=6
 ·obtain⟨rfl,rfl⟩:=c
  rw[if_pos ⟨rfl,rfl⟩]
  simp[twX,Ga,hm,Te,Ya,Tw]
 ·rw[if_neg c]
  by_cases ei:i=e
  ·subst ei
   have hj6:j≠6:=λh=>c ⟨rfl,h⟩
   rcases (show j=0\/j=1\/j=2\/j=3\/j=4\/j=5 by omega) with rfl|rfl|rfl|rfl|rfl|rfl<;>simp[twX,Te,Ya,Tw]
  ·simp[twX,ei]
theorem RX.no {w:World}{g n:Nat}{E:List Eg}{m e f:Nat}(h:RX w g n (twX E m e f))(hm:mt (eat E e) (eat E f)=false):RX w g n (twX E m e (f+1)):=
 RE.congr h λi j _ hj=>by
  by_cases ei:i=e
  ·subst ei
   simp[twX,Ga,hm]
  ·simp[twX,ei]
theorem RX.up {w:World}{g n:Nat}{E:List Eg}{m e:Nat}(h:RX w g n (twX E m e m))(h0:∀i,i<n->(eat E i).twin=-1):RX w g n (twX E m (e+1) 0):=
 RE.congr h λi j hi hj=>by
  have h1:=h0 i hi
  by_cases e1:i<e
  ·simp[twX,e1,show i<e+1 by omega]
  ·by_cases e2:i=e
   ·subst e2;simp[twX]
   ·by_cases e3:i=e+1
    ·subst e3
     have:Tw (eat E (e+1)) (-1)=eat E (e+1):=by unfold Tw;rw[<-h1]
     simp[twX,Ga,this,e1]
    ·simp[twX,e1,e2,e3,show ¬i<e+1 by omega]
theorem Xt.nx {o:Option Nat}{a w w':World}(h:Xt o a w)(k:Nx w w'):Xt o a w':=
 ⟨k.os.trans h.os,k.tape.trans h.tape,k.output.trans h.output,zM h.size k.size,λb hb hn=>(k.block b (zJ hb h.size)).trans (h.block b hb hn)⟩
theorem RE.next {w w':World}{g n:Nat}{V:Nat->Nat->Value}(h:RE w g n V)(k:Nx w w'):RE w' g n V:=by
 obtain⟨c,hb,r⟩:=h
 exact⟨c,(k.block g (Array.getElem?_eq_some_iff.1 hb).1).trans hb,r⟩
theorem RE.only {W w:World}{g n b:Nat}{V:Nat->Nat->Value}(h:RE W g n V)(k:Xt (some b) W w)(hb:b<g):RE w g n V:=by
 obtain⟨c,hg,r⟩:=h
 exact⟨c,(k.block g (Array.getElem?_eq_some_iff.1 hg).1 (λe=>by have:=zE e;omega)).trans hg,r⟩
theorem RE.setOther {w:World}{g n:Nat}{V:Nat->Nat->Value}(h:RE w g n V){a:Addr}(ha:g≠a.block)(v:Value):RE (w.setCell a v) g n V:=by
 obtain⟨c,hg,r⟩:=h
 exact⟨c,(Below.heap_setCell _ _ _ _ ha).trans hg,r⟩
theorem Qc1 {B:Nat}{w:World}{a:Option Addr}{n c:Nat}{es:List Eg}(hl:es.length=n)(hm:n<=maxLen)(h:0<n->∃g,a=some (aD g 0)/\B<=g/\RX w g n (λi=>eat es i)):Jw B w (sL a n c) es:=by
 subst hl
 refine⟨_,_,rfl,hm,λh0=>?_⟩
 obtain⟨g,e,hB,hr⟩:=h h0
 have hlt:g<w.heap.size:=by
  obtain⟨cc,hb,_⟩:=hr
  exact(Array.getElem?_eq_some_iff.1 hb).1
 refine⟨g,0,e,hB,hlt,λi hi=>?_⟩
 have q:=λj hj=>RE.cell hr hi (j:=j) hj
 show Kl w g (0+i*7) (eat es i)
 rw[Nat.zero_add]
 exact⟨q 0 (by omega),q 1 (by omega),q 2 (by omega),q 3 (by omega),q 4 (by omega),q 5 (by omega),q 6 (by omega)⟩
theorem Qf4 {N:Nt}{i:Nat}(h:i<mN N):(eat (E0 N) i).twin=-1:=by
 obtain⟨a,b,q,ha,hb,hq,he⟩:=Kn N.ways.length h
 rw[he,(Yc ha hb hq).1]
 split<;>rfl
theorem Qd1 (E:List Eg)(m e f i:Nat):Te (twX E m e f i) 3=iV (eat E i).way:=by unfold twX;split<;>(try split)<;>rfl
theorem Qd2 (E:List Eg)(m e f i:Nat):Te (twX E m e f i) 4=iV (eat E i).seg:=by unfold twX;split<;>(try split)<;>rfl
theorem Qa1 (E:List Eg)(m e f i:Nat):Te (twX E m e f i) 5=.bool (eat E i).back:=by unfold twX;split<;>(try split)<;>rfl
theorem Eh (N:Nt):J9 N=J1 N:=(Ej N).symm
theorem I8 (B0:Nat)(v0 v1 v2 v3:Value)(N:Nt)(w:World)(h0:U0 B0 w v0 v1 v2 v3 N)(hs:Wx N.ways N.ways.length<=1048576) :
  Calls prog 53 #[.agg #[v0,v1,v2,v3,iV N.uturn]] w λe w'=>(∃r0 r1 r2 r3,e=.returned (.agg #[r0,r1,r2,r3])/\Vy w.heap.size w' r0 r1 r2 r3 (V4 N))/\Nx w w':=by
 obtain⟨ii,hi,hz0,hz1,hz2⟩:=info_parts Zp
 have HS:=mh hs
 have HI:=mh h0
 obtain⟨a0,c0,e0,hn0,hk0⟩:=h0.1
 subst e0
 clear hs h0
 go_enter func53,ntmps53
 go_wp2_with fail
 refine(Ke B0 _ _ _ _ N _ (by exact HI.o.next (Uk _ _ _)) HS.o).mono ?_
 rintro e w1 ⟨rfl,hx⟩
 rw[<-Ej]
 have BA:=((Blk.new w _ 60 _ rfl).alloc _).next hx
 have BR:Blk w1 (w.heap.size+1) #[sN,sN,sN,sN]:=(Blk.new _ _ 86 _ (by simp)).next hx
 have HX1:=mh ((Uk _ _ _).trans hx)
 clear hx
 have rz0:=BR.c 0 rfl
 have rz1:=BR.c 1 rfl
 have rz2:=BR.c 2 rfl
 have rz3:=BR.c 3 rfl
 have rf0:=BR.frozen 0
 have rf1:=BR.frozen 1
 have rf2:=BR.frozen 2
 have rf3:=BR.frozen 3
 cases hv:J1 N
 case false=>
  go_wp2
  have BR':=(((BR.set 0 sN).set 1 sN).set 2 sN).set 3 sN
  have q0:=BR'.c 0 rfl
  have q1:=BR'.c 1 rfl
  have q2:=BR'.c 2 rfl
  have q3:=BR'.c 3 rfl
  refine bodyPost_ret (v:=.agg #[sN,sN,sN,sN]) (by simp[results,results53,go_sem,q0,q1,q2,q3]) rfl ⟨⟨_,_,_,_,rfl,Q2s.held (oL ⟨rfl,rfl,rfl,rfl,by simp[V4,hv]⟩)⟩,?_⟩
  exact Below.setCell (Below.setCell (Below.setCell (Below.setCell HX1.o (by simp) _) (by simp) _) (by simp) _) (by simp) _
 have HV:=mh hv
 have HR:=mh (Uw hv)
 clear rz0 rz1 rz2 rz3 rf0 rf1 rf2 rf3
 have hnl:=HR.o.c0
 generalize hm0:N.nodes.length=m0 at *
 have HM0:=mh hm0
 clear hm0
 have k0:=BA.c 0 rfl
 have hzA:=BA.lt
 go_wp2
 go_loopw [4] (λi wr=>∃k:Nat,k<=m0/\i=iV k/\Z (∃v,Blk wr w1.heap.size #[v,sN,sN,sN]/\Q5 (w1.heap.size+1) wr v (tkN N.nodes k))/\Z (Nx w1 wr)) (λi _=>m0-(intOf i).toNat)
 case atStart=>exact⟨0,nZ,rfl,⟨sN,Blk.new _ _ _ _ rfl,⟨rfl,oL ⟨rfl,rfl⟩⟩⟩,Qe _ _⟩
 obtain⟨k,hkn,rfl,HO,HN⟩:=hrel
 clear k0
 by_cases hlt:k<m0
 ·obtain⟨b,off,rfl,hB,hb,hc⟩:=hk0 (by omega)
  have c1':=Q2 (HX1.o.trans HN.o) hb (hc k hlt)
  obtain⟨v,BRr,ho⟩:=HO.o
  have hlt':(k:Int)<m0:=by omega
  have BAr:=BA.next HN.o
  have n0:=BAr.c 0 rfl
  have hsA:=BAr.lt
  have g0:=BRr.c 0 rfl
  have g1:=BRr.frozen 0
  have hsR:=BRr.lt
  have hlk:=Qd3 (by rw[HM0.o];omega)
  have HLK:=mh hlk
  obtain⟨av,cv,hvs⟩:=ho.slice
  rw[hlk] at hvs
  subst hvs
  have HO1:=mh ho
  have HBR:=mh BRr
  have hob:some w1.heap.size≠(sL av k cv).ownBlock:=λe=>by have:=(Q7 ho _ e.symm).1;omega
  have HOB:=mh hob
  clear hc hk0 ho BRr hob hlk HO BAr
  have HTS:=mh (Qa6 (by rw[HM0.o];exact hlt))
  go_wp2
  go_region_law (refine Wq rfl (.tmp 22) (.tmp 28) 23 rfl 2 ii (iV 0) 1 8 underlying23 hi hz0 hz1 hz2 rfl (by decide) (w1.heap.size+1) (sL av k cv) (tkN N.nodes k).length (J0 (tkN N.nodes k)) (by simp[Act.eval]) (zB (show wr.drew.ownsRow _ _ _ _ _ _ from HO1.o) _) (aD wr.heap.size 0) 1 1 [iV (iat N.nodes k)] (by simp[Act.eval]) rfl (λj u hj=>Qn wr.drew _ _ _ rfl j u hj) (by intro u hu;simp at hu;subst hu;rfl) (by rw[HLK.o];unfold maxLen;omega) (by rw[HLK.o];omega) (by simp;omega) ?_;intro v' w' hown hgrow;have HV:Q5 (w1.heap.size+1) w' v' (tkN N.nodes (k+1)):=(by rw[HTS.o];exact Q5.snoc hown);have BR7:=Blk.grown (Blk.alloc (Blk.drew HBR.o) _) hgrow HOB.o;have h0':=BR7.c 0 rfl;have h1':=BR7.frozen 0;obtain⟨a7,c7,hv7⟩:=HV.slice;subst hv7)
  all_goals go_wp2
  all_goals exact⟨⟨k+1,by omega,by go_num,⟨_,(by exact BR7.set 0 _),Qc HV (Nat.lt_succ_self _) 0 _⟩,Below.setCell (Below.grown ((Nx.drew HN.o).alloc _) hgrow (by simp;omega) (λg hg=>by have:=(Q7 HO1.o g hg).1;omega)) lR _⟩,by simp[intOf];omega⟩
 have ek:m0=k:=by omega
 subst ek
 obtain⟨v,BRr,ho⟩:=HO.o
 rw[show tkN N.nodes m0=N.nodes by rw[<-HM0.o];exact Qd4 _] at ho
 have BAr:=BA.next HN.o
 have k0:=BAr.c 0 rfl
 have k1:=BAr.c 1 rfl
 have k2:=BAr.c 2 rfl
 have k3:=BAr.c 3 rfl
 have k4:=BAr.c 4 rfl
 have HXr:=mh (HX1.o.trans HN.o)
 obtain⟨av,cv,hvs⟩:=ho.slice
 rw[HM0.o] at hvs
 subst hvs
 have HON:=mh ho
 have HNB:Z (∀g,(sL av m0 cv).ownBlock=some g->g<wr.heap.size):=λg hg=>(Q7 ho g hg).2
 have HBR:=mh BRr
 clear ho BRr HO hk0 hkn hlt
 go_wp2_with fail
 refine(Q41 B0 _ _ _ _ N _ (by exact HI.o.next HXr.o) HV.o).mono ?_
 rintro e w2 ⟨⟨ve,rfl,he⟩,hx⟩
 have HE:=mh he
 have BA2:=BAr.next hx
 have BR2:=HBR.o.next hx
 have HX2:=mh (HXr.o.trans hx)
 have HNr2:=mh (HN.o.trans hx)
 have HON2:=mh (HON.o.next hx)
 have HZr:=mh HBR.o.lt
 obtain⟨ae,ce,hve,_⟩:=he.slice
 subst hve
 generalize hml:(E0 N).length=m at *
 have HMM:Z (mN N=m):=by rw[<-Qcr];exact hml
 clear hml
 clear he hx BAr HBR HON k0 k1 k2 k3 k4
 have g1:=BR2.c 1 rfl
 have g2:=BR2.frozen 1
 have hsR:=BR2.lt
 have HBR':Z (Blk (w2.setCell (aD w1.heap.size 1) (sL ae m ce)) w1.heap.size #[sL av m0 cv,sL ae m ce,sN,sN]):=BR2.set 1 _
 have HE':Z (Yz wr.heap.size (w2.setCell (aD w1.heap.size 1) (sL ae m ce)) (sL ae m ce) (E0 N)):=Qc HE.o HZr.o 1 _
 have HON':Z (Q5 (w1.heap.size+1) (w2.setCell (aD w1.heap.size 1) (sL ae m ce)) (sL av m0 cv) N.nodes):=Qc HON2.o (Nat.lt_succ_self _) 1 _
 have HN2:Z (Nx w1 (w2.setCell (aD w1.heap.size 1) (sL ae m ce))):=Below.setCell HNr2.o lR _
 clear BR2 HE HON2 HNr2 BA2
 go_wp2
 have hm4:m<=4000:=by rw[<-HMM.o];unfold mN;rw[Qae];exact HR.o.ed
 have HT0:Z (∀i,i<m->(eat (E0 N) i).twin=-1):=λi hi=>Qf4 (by rw[HMM.o];exact hi)
 have HOB:Z (∀g,(sL ae (m) ce).ownBlock=some g->wr.heap.size<=g):=λg hg=>(Q7 HE'.o g hg).1
 have HSE:Z (0<m->∃g,ae=some (aD g 0)/\RX (w2.setCell (aD w1.heap.size 1) (sL ae (m) ce)) g (m) (twX (E0 N) (m) 0 0)):=λh0=>by
  have hse:=HE'.o.se
  rw[Qcr,HMM.o] at hse
  obtain⟨a',c',e',hk⟩:=hse
  simp only[zC,true_and] at e'
  obtain⟨rfl,rfl⟩:=e'
  obtain⟨g,e1,hr⟩:=hk h0
  refine⟨g,e1,RE.congr hr λi j hi hj=>?_⟩
  have h1:=HT0.o i hi
  show Te (eat (E0 N) i) j=Te (twX (E0 N) (m) 0 0 i) j
  by_cases e2:i=0
  ·subst e2
   have:Tw (eat (E0 N) 0) (-1)=eat (E0 N) 0:=by unfold Tw;rw[<-h1]
   simp[twX,Ga,this]
  ·simp[twX,e2]
 generalize hEN:E0 N=EN at *
 have HEN:=mh hEN
 clear hEN
 generalize hWW:w2.setCell (aD w1.heap.size 1) (sL ae m ce)=W2 at *
 have HWW:=mh hWW
 clear hWW
 have hRB:∀X,Xt (sL ae m ce).ownBlock W2 X->Blk X w1.heap.size #[sL av m0 cv,sL ae m ce,sN,sN]:=λX hX=>by
  have hl:=HBR'.o.lt
  obtain⟨t,hb⟩:=HBR'.o
  exact⟨t,(hX.block _ hl (λe=>by have:=HOB.o _ e.symm;have:=HZr.o;omega)).trans hb⟩
 have HRB:=mh hRB
 clear hRB g1 g2 hsR hzA
 go_loopw [5,6] (λi p6 wq=>∃e:Nat,e<=m/\i=iV e/\Z (0<m->∃g,ae=some (aD g 0)/\RX wq g m (twX EN m e 0))/\Z (Xt (sL ae m ce).ownBlock W2 wq)) (λi _ _=>m-(intOf i).toNat)
 case atStart=>exact⟨0,nZ,rfl,HSE,Xt.refl _ _⟩
 clear HSE
 obtain⟨e,hem,rfl,HX,HO⟩:=hrel
 have kb:=(HRB.o _ HO.o).c 1 rfl
 by_cases hel:e<m
 ·have hel':(e:Int)<m:=by omega
  go_wp2
  clear kb
  go_loopw [6] (λi wq=>∃f:Nat,f<=m/\i=iV f/\Z (0<m->∃g,ae=some (aD g 0)/\RX wq g m (twX EN m e f))/\Z (Xt (sL ae m ce).ownBlock W2 wq)) (λi _=>m-(intOf i).toNat)
  case atStart=>exact⟨0,nZ,rfl,HX,HO⟩
  clear HX HO
  obtain⟨f,hfm,rfl,HX,HO⟩:=hrel
  have kb:=(HRB.o _ HO.o).c 1 rfl
  by_cases hfl:f<m
  ·have hfl':(f:Int)<m:=by omega
   obtain⟨g,hag,hr⟩:=HX.o (by omega)
   subst hag
   have a3:=RE.cell hr hel (j:=3) (by omega)
   have a4:=RE.cell hr hel (j:=4) (by omega)
   have a5:=RE.cell hr hel (j:=5) (by omega)
   have b3:=RE.cell hr hfl (j:=3) (by omega)
   have b4:=RE.cell hr hfl (j:=4) (by omega)
   have b5:=RE.cell hr hfl (j:=5) (by omega)
   have a6:=RE.cell hr hel (j:=6) (by omega)
   have z6:=RE.frozen hr (e*7+6)
   simp only[Qd1,Qd2,Qa1] at a3 a4 a5 b3 b4 b5
   have HXr':=mh hr
   have HMT:Z (mt (eat EN e) (eat EN f)=(decide ((eat EN e).way=(eat EN f).way)&&(decide ((eat EN e).seg=(eat EN f).seg)&&((eat EN e).back !=(eat EN f).back)))):=rfl
   clear hr HX
   have EB:=cell_regrown kb
   have A3:=cell_regrown a3
   have A4:=cell_regrown a4
   have A5:=cell_regrown a5
   have B3:=cell_regrown b3
   have B4:=cell_regrown b4
   have B5:=cell_regrown b5
   generalize (eat EN e).way=we at *
   generalize (eat EN f).way=wf at *
   generalize (eat EN e).seg=se at *
   generalize (eat EN f).seg=sf at *
   generalize (eat EN e).back=be at *
   generalize (eat EN f).back=bf at *
   by_cases h1:we=wf
   ·have hd1:(we==wf)=true:=by simpa using h1
    by_cases h2:se=sf
    ·have hd2:(se==sf)=true:=by simpa using h2
     by_cases h3:be=bf
     ·have HF:Z (mt (eat EN e) (eat EN f)=false):=by unfold Z;rw[HMT.o];simp[h3]
      subst h3
      have hd3:(be !=be)=false:=by simp
      clear h1 h2
      go_wp2
      refine wp_region_quiet_below (by kernel_rfl) (by kernel_rfl) ?_
      repeat (go_big_quiet_step (fail))
      refine wpQuiet_nil ?_
      intro _ hw'
      obtain⟨⟨dq,osq⟩,hw''⟩:=hw'
      subst hw''
      have HNq:Z (Nx wr (Sort.grow (redrawn wr dq) osq)):=below_regrown _ dq osq
      clear EB A3 A4 A5 B3 B4 B5
      generalize hwq:Sort.grow (redrawn wr dq) osq=wq at *
      clear hwq
      have HO':=mh (HO.o.nx HNq.o)
      have HXq:Z (RX wq g m (twX EN m e f)):=RE.next HXr'.o HNq.o
      have HX':Z (0<m->∃g',(some (aD g 0):Option Addr)=some (aD g' 0)/\RX wq g' m (twX EN m e (f+1))):=λ_=>⟨g,rfl,RX.no HXq.o HF.o⟩
      clear kb a3 a4 a5 a6 b3 b4 b5 z6
      go_wp2
      go_roundw
      case rel=>exact⟨f+1,by omega,by go_num,HX',HO'⟩
      case measure=>simp[intOf];omega
     ·have HF:Z (mt (eat EN e) (eat EN f)=true):=by unfold Z;rw[HMT.o];simp[h1,h2,h3]
      have h4:bf=!be:=by cases be<;>cases bf<;>simp_all
      subst h4
      have hd3:(be !=!be)=true:=by simp
      clear h1 h2 h3
      go_wp2
      refine wp_region_quiet_below (by kernel_rfl) (by kernel_rfl) ?_
      repeat (go_big_quiet_step (fail))
      refine wpQuiet_nil ?_
      intro _ hw'
      obtain⟨⟨dq,osq⟩,hw''⟩:=hw'
      subst hw''
      have HNq:Z (Nx wr (Sort.grow (redrawn wr dq) osq)):=below_regrown _ dq osq
      clear EB A3 A4 A5 B3 B4 B5
      generalize hwq:Sort.grow (redrawn wr dq) osq=wq at *
      clear hwq
      have HO':=mh (HO.o.nx HNq.o)
      have HXq:Z (RX wq g m (twX EN m e f)):=RE.next HXr'.o HNq.o
      have HX':Z (0<m->∃g',(some (aD g 0):Option Addr)=some (aD g' 0)/\RX (wq.setCell (aD g (e*7+6)) (iV (f:Int))) g' m (twX EN m e (f+1))):=λ_=>⟨g,rfl,RX.tw HXq.o hel HF.o⟩
      have HO'':Z (Xt (sL (sA g) m ce).ownBlock W2 (wq.setCell (aD g (e*7+6)) (iV (f:Int)))):=HO'.o.set rfl _
      clear kb a3 a4 a5 a6 b3 b4 b5 z6
      have kb:=(HRB.o _ HO'.o).c 1 rfl
      have a6:=RE.cell HXq.o hel (j:=6) (by omega)
      have z6:=RE.frozen HXq.o (e*7+6)
      go_wp2
      go_roundw
      case rel=>exact⟨f+1,by omega,by go_num,HX',HO''⟩
      case measure=>simp[intOf];omega
    ·have hd2:(se==sf)=false:=by simpa using h2
     have HF:Z (mt (eat EN e) (eat EN f)=false):=by unfold Z;rw[HMT.o];simp[h2]
     clear h1 h2
     go_wp2
     refine wp_region_quiet_below (by kernel_rfl) (by kernel_rfl) ?_
     repeat (go_big_quiet_step (fail))
     refine wpQuiet_nil ?_
     intro _ hw'
     obtain⟨⟨dq,osq⟩,hw''⟩:=hw'
     subst hw''
     have HNq:Z (Nx wr (Sort.grow (redrawn wr dq) osq)):=below_regrown _ dq osq
     clear EB A3 A4 A5 B3 B4 B5
     generalize hwq:Sort.grow (redrawn wr dq) osq=wq at *
     clear hwq
     have HO':=mh (HO.o.nx HNq.o)
     have HXq:Z (RX wq g m (twX EN m e f)):=RE.next HXr'.o HNq.o
     have HX':Z (0<m->∃g',(some (aD g 0):Option Addr)=some (aD g' 0)/\RX wq g' m (twX EN m e (f+1))):=λ_=>⟨g,rfl,RX.no HXq.o HF.o⟩
     clear kb a3 a4 a5 a6 b3 b4 b5 z6
     go_wp2
     go_roundw
     case rel=>exact⟨f+1,by omega,by go_num,HX',HO'⟩
     case measure=>simp[intOf];omega
   ·have hd1:(we==wf)=false:=by simpa using h1
    have HF:Z (mt (eat EN e) (eat EN f)=false):=by unfold Z;rw[HMT.o];simp[h1]
    clear h1
    go_wp2
    refine wp_region_quiet_below (by kernel_rfl) (by kernel_rfl) ?_
    repeat (go_big_quiet_step (fail))
    refine wpQuiet_nil ?_
    intro _ hw'
    obtain⟨⟨dq,osq⟩,hw''⟩:=hw'
    subst hw''
    have HNq:Z (Nx wr (Sort.grow (redrawn wr dq) osq)):=below_regrown _ dq osq
    clear EB A3 A4 A5 B3 B4 B5
    generalize hwq:Sort.grow (redrawn wr dq) osq=wq at *
    clear hwq
    have HO':=mh (HO.o.nx HNq.o)
    have HXq:Z (RX wq g m (twX EN m e f)):=RE.next HXr'.o HNq.o
    have HX':Z (0<m->∃g',(some (aD g 0):Option Addr)=some (aD g' 0)/\RX wq g' m (twX EN m e (f+1))):=λ_=>⟨g,rfl,RX.no HXq.o HF.o⟩
    clear kb a3 a4 a5 a6 b3 b4 b5 z6
    go_wp2
    go_roundw
    case rel=>exact⟨f+1,by omega,by go_num,HX',HO'⟩
    case measure=>simp[intOf];omega
  have ef:m=f:=by omega
  subst ef
  have HX':Z (0<m->∃g,ae=some (aD g 0)/\RX wr g m (twX EN m (e+1) 0)):=λh=>by
   obtain⟨g,h1,h2⟩:=HX.o h
   exact⟨g,h1,RX.up h2 HT0.o⟩
  go_wp2
  go_roundw
  case rel=>exact⟨e+1,by omega,by go_num,HX',HO⟩
  case measure=>simp[intOf];omega
 have ee:m=e:=by omega
 subst ee
 have HX':Z (0<m->∃g,ae=some (aD g 0)/\RX wr g m (λi=>eat (E1 N) i)):=λh=>by
  obtain⟨g,h1,h2⟩:=HX.o h
  refine⟨g,h1,RE.congr h2 λi j hi hj=>?_⟩
  have:twX EN m m 0 i=eat (E1 N) i:=by rw[Qd0 N (by rw[HMM.o];exact hi),HEN.o,HMM.o];simp[twX,hi]
  rw[this]
 have HAG:Z (∀g,ae=some (aD g 0)->w1.heap.size<g):=λg hg=>by
  have:=HOB.o g (by rw[hg];rfl)
  have:=HZr.o
  omega
 have hBX:=HRB.o _ HO.o
 have HBX:=mh hBX
 have HGB:=mh hBX.lt
 have HONr:Z (Q5 (w1.heap.size+1) wr (sL av m0 cv) N.nodes):=HO.o.own HON'.o λg hg e=>by
  have:=HNB.o g hg
  have:=HOB.o g e.symm
  omega
 have HWL:=mh (Below.trans (HX1.o.trans HN2.o) (HO.o.below (B:=w.heap.size) (λg hg=>by have:=HOB.o g hg;have:=HZr.o;have:=HX1.o.size;omega) (by have:=HX1.o.size;have:=HN2.o.size;omega)))
 have HBRr:Z (Blk wr (w.heap.size+1) #[sN,sN,sN,sN]):=HO.o.blk (BR.next HN2.o) λe=>by
  have:=HOB.o _ e.symm
  have:=HZr.o
  have:=BR.lt
  omega
 have HBRl:=mh BR.lt
 clear hBX HX HO HRB HOB HNB HON' HN2 HE' HT0 BR HBR' HEN HZr kb
 have kb:=HBX.o.c 1 rfl
 go_wp2
 clear kb
 generalize hWL:wr=WL at *
 go_loopw [7,8] (λi p8 wq=>∃p:Nat,p<=m0+1/\i=iV p/\Z (∃vF vO,FO w1.heap.size (sL av m0 cv) (sL ae m ce) WL.heap.size wq vF vO (fsL N p) (osL N p 0))/\Z (Xt (some w1.heap.size) WL wq)) (λi _ _=>m0+1-(intOf i).toNat)
 case atStart=>exact⟨0,nZ,rfl,⟨_,_,⟨HBX.o,⟨rfl,oL ⟨rfl,rfl⟩⟩,⟨rfl,oL ⟨rfl,rfl⟩⟩,λg hg=>by simp[Value.ownBlock] at hg⟩⟩,Xt.refl _ _⟩
 obtain⟨p,hpn,rfl,HFO,HO⟩:=hrel
 by_cases hpl:p<=m0
 ·obtain⟨vF,vO,hf⟩:=HFO.o
  obtain⟨aF,cF,hvF⟩:=hf.F.slice
  obtain⟨aO,cO,hvO⟩:=hf.O.slice
  have HLF:=mh (Q7v N p)
  rw[Q7v] at hvF
  generalize hL:(osL N p 0).length=L at hvO
  have HL:=mh hL
  have hL4:L<=4000:=by
   rw[<-hL,Q3m]
   have:=Qfe (tlN N) p (mN N)
   have:=HMM.o
   omega
  subst hvF hvO
  have HF:=mh hf
  have k0:=hf.box.c 0 rfl
  have k2:=hf.box.c 2 rfl
  have k3:=hf.box.c 3 rfl
  have hpl':(p:Int)<=m0:=by omega
  clear hf HFO hL
  go_wp2_with (at_builtin;refine wpList_append_own_at _ rfl _ _ 23 rfl WL.heap.size 2 ii (iV 0) 1 8 underlying23 hi hz0 hz1 hz2 rfl (by decide) _ _ _ rfl (zB HF.o.F _) (aD wr.heap.size 0) 1 1 [iV (L:Int)] rfl rfl (λj u hj=>Qn wr _ _ _ rfl j u hj) ?c2 ?c3 ?c4 ?c5 ?_)
  case c2=>intro u hu;simp at hu;subst hu;rfl
  case c3=>rw[HLF.o];unfold maxLen;omega
  case c4=>rw[HLF.o];omega
  case c5=>have:=HO.o.size;simp;omega
  intro v7 w7 hown hgrow _ hat
  have HF7:Z (FO w1.heap.size (sL av m0 cv) (sL ae m ce) WL.heap.size (w7.setCell (aD w1.heap.size 2) v7) v7 (sL aO L cO) (fsL N (p+1)) (osL N p 0)):=by
   unfold Z
   rw[Qbv,HL.o]
   exact HF.o.first HGB.o hown hgrow hat
  have HO7:Z (Xt (some w1.heap.size) WL (w7.setCell (aD w1.heap.size 2) v7)):=HO.o.app hgrow (λg hg=>(Q7 HF.o.F g hg).1) _
  have B7:=HF.o.boxF HGB.o hgrow
  have k2:=B7.c 2 rfl
  have z2:=B7.frozen 2
  obtain⟨a7,c7,hv7⟩:=HF7.o.F.slice
  subst hv7
  clear B7 hown hgrow hat k0 k3 HF HO
  go_wp2
  clear k2 z2 hpl'
  go_loopw [8] (λi wq=>∃k:Nat,k<=m/\i=iV k/\Z (∃vF vO,FO w1.heap.size (sL av m0 cv) (sL ae m ce) WL.heap.size wq vF vO (fsL N (p+1)) (osL N p k))/\Z (Xt (some w1.heap.size) WL wq)) (λi _=>m-(intOf i).toNat)
  case atStart=>exact⟨0,nZ,rfl,⟨_,_,HF7.o⟩,HO7⟩
  clear HF7 HO7
  obtain⟨k,hkm,rfl,HFO,HO⟩:=hrel
  by_cases hkl:k<m
  ·obtain⟨vF,vO,hf⟩:=HFO.o
   obtain⟨aF,cF,hvF⟩:=hf.F.slice
   obtain⟨aO,cO,hvO⟩:=hf.O.slice
   generalize hLF:(fsL N (p+1)).length=LF at hvF
   generalize hL:(osL N p k).length=L at hvO
   have HL:=mh hL
   have hL4:L<=8000:=by
    rw[<-hL,Q7a]
    have:=Qfe (tlN N) p (mN N)
    have:=cE_le (tlN N) p k
    have:=HMM.o
    omega
   subst hvF hvO
   have HF:=mh hf
   have k1:=hf.box.c 1 rfl
   have k3:=hf.box.c 3 rfl
   obtain⟨g,hag,hr⟩:=HX'.o (by omega)
   have hag2:=HAG.o g hag
   subst hag
   have t0:=RE.cell (RE.only hr HO.o hag2) hkl (j:=0) (by omega)
   have t1:Te (eat (E1 N) k) 0=iV ((tlN N k:Nat):Int):=by rw[<-Qd7 HR.o (by rw[HMM.o];exact hkl)];rfl
   simp only[t1,Nat.add_zero] at t0
   clear t1 hr hag2 hf HFO hL hLF
   have hkl':(k:Int)<m:=by omega
   by_cases htp:tlN N k=p
   ·have hOY:=Qdg htp
    have HOY:=mh hOY
    rw[htp] at t0
    clear hOY htp
    go_wp2_with (at_builtin;refine wpList_append_own_at _ rfl _ _ 23 rfl WL.heap.size 2 ii (iV 0) 1 8 underlying23 hi hz0 hz1 hz2 rfl (by decide) _ _ _ rfl (zB HF.o.O _) (aD wr.heap.size 0) 1 1 [iV (k:Int)] rfl rfl (λj u hj=>Qn wr _ _ _ rfl j u hj) ?c2 ?c3 ?c4 ?c5 ?_)
    case c2=>intro u hu;simp at hu;subst hu;rfl
    case c3=>rw[HL.o];unfold maxLen;omega
    case c4=>rw[HL.o];omega
    case c5=>have:=HO.o.size;simp;omega
    intro v7 w7 hown hgrow _ hat
    have HF7:Z (FO w1.heap.size (sL av m0 cv) (sL (sA g) m ce) WL.heap.size (w7.setCell (aD w1.heap.size 3) v7) (sL aF LF cF) v7 (fsL N (p+1)) (osL N p (k+1))):=by
     unfold Z
     rw[HOY.o]
     exact HF.o.o HGB.o hown hgrow hat
    have HO7:Z (Xt (some w1.heap.size) WL (w7.setCell (aD w1.heap.size 3) v7)):=HO.o.app hgrow (λg hg=>(Q7 HF.o.O g hg).1) _
    have B7:=HF.o.boxO HGB.o hgrow
    have k3:=B7.c 3 rfl
    have z3:=B7.frozen 3
    obtain⟨a7,c7,hv7⟩:=HF7.o.O.slice
    subst hv7
    clear B7 hown hgrow hat k1 t0 HF HO
    go_wp2
    go_roundw
    case rel=>exact⟨k+1,by omega,by go_num,⟨_,_,HF7.o⟩,HO7⟩
    case measure=>simp[intOf];omega
   ·have hd:(((tlN N k:Nat):Int)==(p:Int))=false:=by simpa using(λh=>htp (by omega))
    have HF7:Z (FO w1.heap.size (sL av m0 cv) (sL (sA g) m ce) WL.heap.size wr (sL aF LF cF) (sL aO L cO) (fsL N (p+1)) (osL N p (k+1))):=by
     unfold Z
     rw[Qft htp]
     exact HF.o
    clear htp HF
    generalize ((tlN N k:Nat):Int)=tk at *
    go_wp2
    go_roundw
    case rel=>exact⟨k+1,by omega,by go_num,⟨_,_,HF7.o⟩,HO⟩
    case measure=>simp[intOf];omega
  have ekm:m=k:=by omega
  subst ekm
  have HF7:Z (∃vF vO,FO w1.heap.size (sL av m0 cv) (sL ae m ce) WL.heap.size wr vF vO (fsL N (p+1)) (osL N (p+1) 0)):=by
   have:=HFO.o
   rw[<-Qfs,HMM.o]
   exact this
  have k1:wr.cell? (aD w1.heap.size 1)=some (sL ae m ce):=by
   obtain⟨_,_,hf⟩:=HFO.o
   exact hf.box.c 1 rfl
  clear HFO
  go_wp2
  go_roundw
  case rel=>exact⟨p+1,by omega,by go_num,HF7,HO⟩
  case measure=>simp[intOf];omega
 have epm:p=m0+1:=by omega
 subst epm
 obtain⟨vF,vO,hf⟩:=HFO.o
 obtain⟨aF,cF,hvF⟩:=hf.F.slice
 obtain⟨aO,cO,hvO⟩:=hf.O.slice
 generalize (fsL N (m0+1)).length=LF at hvF
 generalize (osL N (m0+1) 0).length=LO at hvO
 subst hvF hvO
 have HF:=mh hf
 have k0:=hf.box.c 0 rfl
 have k1:=hf.box.c 1 rfl
 have k2:=hf.box.c 2 rfl
 have k3:=hf.box.c 3 rfl
 have BRz:Blk wr (w.heap.size+1) #[sN,sN,sN,sN]:=HO.o.blk HBRr.o λe=>by
  have:=zE e
  have:=HBRl.o
  omega
 have rz0:=BRz.c 0 rfl
 have rz1:=BRz.c 1 rfl
 have rz2:=BRz.c 2 rfl
 have rz3:=BRz.c 3 rfl
 have rf0:=BRz.frozen 0
 have rf1:=BRz.frozen 1
 have rf2:=BRz.frozen 2
 have rf3:=BRz.frozen 3
 have hpl':¬((m0+1:Nat):Int)<=m0:=by omega
 clear hf HFO
 go_wp2
 have BR':=(((BRz.set 0 (sL av m0 cv)).set 1 (sL ae m ce)).set 2 (sL aF LF cF)).set 3 (sL aO LO cO)
 have q0:=BR'.c 0 rfl
 have q1:=BR'.c 1 rfl
 have q2:=BR'.c 2 rfl
 have q3:=BR'.c 3 rfl
 refine bodyPost_ret (v:=.agg #[sL av m0 cv,sL ae m ce,sL aF LF cF,sL aO LO cO]) (by simp[results,results53,go_sem,q0,q1,q2,q3]) rfl ⟨⟨_,_,_,_,rfl,?_⟩,?_⟩
 ·have z0:=HGB.o
  have z1:=HBRl.o
  have z2:=HX1.o.size
  have eR:V4 N=⟨N.nodes,E1 N,fsL N (m0+1),osL N (m0+1) 0⟩:=by simp[V4,HV.o,Ux,fsL,osL,grp,HM0.o]
  rw[eR]
  refine⟨?_,?_,?_,?_⟩
  ·refine(Q5.base (B:=w1.heap.size+1) ?_ (by omega)).held
   exact Qc (Qc (Qc (Qc (HO.o.own HONr.o λg hg e=>by have:=(Q7 HONr.o g hg).1;have:=zE e;omega) (by omega) _ _) (by omega) _ _) (by omega) _ _) (by omega) _ _
  ·refine Qc1 (by rw[Ti];exact HMM.o) (by unfold maxLen;omega) λh0=>?_
   obtain⟨g,hag,hr⟩:=HX'.o h0
   have hag2:=HAG.o g hag
   exact⟨g,hag,by omega,RE.setOther (RE.setOther (RE.setOther (RE.setOther (RE.only hr HO.o hag2) (by simp;omega) _) (by simp;omega) _) (by simp;omega) _) (by simp;omega) _⟩
  ·refine(Q5.base (B:=WL.heap.size) ?_ (by omega)).held
   exact Qc (Qc (Qc (Qc HF.o.F (by omega) _ _) (by omega) _ _) (by omega) _ _) (by omega) _ _
  ·refine(Q5.base (B:=WL.heap.size) ?_ (by omega)).held
   exact Qc (Qc (Qc (Qc HF.o.O (by omega) _ _) (by omega) _ _) (by omega) _ _) (by omega) _ _
 ·have z1:=HBRl.o
  have z0:=HGB.o
  exact Below.setCell (Below.setCell (Below.setCell (Below.setCell (Below.trans HWL.o (HO.o.below (B:=w.heap.size) (λg hg=>by have:=zE hg;omega) (by omega))) (by simp) _) (by simp) _) (by simp) _) (by simp) _
end Go.Proofs.YtphiaobccollhaaGreat
