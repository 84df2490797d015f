import Derived.Test.YtahpodmokbdjeaaGreatDoorQRoM
import Derived.Test.YtahpodmokbdjeaaGreatDoorQRoJ
import Derived.Test.YtahpodmokbdjeaaGreatDoorQSpD
import Derived.Maps.AppendAt
import Derived.Deep.RegionLaw
namespace Go.Proofs.YtahpodmokbdjeaaGreatDoor
open Go.RowKit
set_option linter.unusedVariables false
set_option maxRecDepth 1000000
set_option maxHeartbeats 16000000
theorem Qd.snoc {B:Nat}{w:World}{v:Value}{zs:List Int}{z:Int}(h:w.ownsRow B 2 1 v (zs.length+1) (Jr zs++[iV z])):Qd B w v (zs++[z]):=by
 unfold Qd
 have e:Jr (zs++[z])=Jr zs++[iV z]:=by simp[Jr]
 rw[zA,e]
 exact h
theorem Blk.grown {w w':World}{o:Option Nat}{b:Nat}{cs:Array Value}(h:Blk w b cs)(k:w.grownBy w' o)(hn:some b≠o):Blk w' b cs:=by
 have hl:=h.lt
 obtain⟨t,hb⟩:=h
 exact⟨t,(k.block b hl hn).trans hb⟩
structure FO (gb:Nat)(A B:Value)(C:Nat)(w:World)(vF vO:Value)(fs os:List Int):Prop where
 box:Blk w gb #[A,B,vF,vO]
 F:Qd C w vF fs
 O:Qd C w vO os
 ne:∀g,vF.ownBlock=some g->vO.ownBlock≠some g
theorem FO.boxF {gb C:Nat}{A B vF vO:Value}{w w':World}{fs os:List Int}(h:FO gb A B C w vF vO fs os)(hC:gb<C){o:Obj}(hg:(w.alloc o).grownBy w' vF.ownBlock):Blk w' gb #[A,B,vF,vO]:=
 (h.box.alloc o).grown hg λe=>by have:=(Q5 h.F gb e.symm).1;omega
theorem FO.boxO {gb C:Nat}{A B vF vO:Value}{w w':World}{fs os:List Int}(h:FO gb A B C w vF vO fs os)(hC:gb<C){o:Obj}(hg:(w.alloc o).grownBy w' vO.ownBlock):Blk w' gb #[A,B,vF,vO]:=
 (h.box.alloc o).grown hg λe=>by have:=(Q5 h.O gb e.symm).1;omega
theorem Q3 (w:World)(o:Obj):(w.alloc o).heap.size=w.heap.size+1:=Array.size_push _
theorem FO.first {gb C:Nat}{A B vF vO v':Value}{w w':World}{fs os:List Int}{z:Int}(h:FO gb A B C w vF vO fs os)(hC:gb<C){o:Obj}
  (hown:w'.ownsRow C 2 1 v' (fs.length+1) (Jr fs++[iV z])) (hg:(w.alloc o).grownBy w' vF.ownBlock) (hat:v'.ownBlock=vF.ownBlock\/v'.ownBlock=some (w.heap.size+1)) :
  FO gb A B C (w'.setCell (aD gb 2) v') v' vO (fs++[z]) os:=by
 refine⟨(h.boxF hC hg).set 2 v',Qc (Qd.snoc hown) hC 2 _,Qc (zN (zB h.O o) hg ?_) hC 2 _,λg hg' hO=>?_⟩
 ·cases e:vO.ownBlock with
  |none=>exact oL rfl
  |some g=>exact oR λe'=>h.ne g e'.symm e
 ·rcases hat with hat|hat
  ·exact h.ne g (hat▸hg') hO
  ·rw[hat] at hg'
   have:=(Q5 h.O g hO).2
   have e:=zF hg'
   omega
theorem FO.o {gb C:Nat}{A B vF vO v':Value}{w w':World}{fs os:List Int}{z:Int}(h:FO gb A B C w vF vO fs os)(hC:gb<C){o:Obj}
  (hown:w'.ownsRow C 2 1 v' (os.length+1) (Jr os++[iV z])) (hg:(w.alloc o).grownBy w' vO.ownBlock) (hat:v'.ownBlock=vO.ownBlock\/v'.ownBlock=some (w.heap.size+1)) :
  FO gb A B C (w'.setCell (aD gb 3) v') vF v' fs (os++[z]):=by
 refine⟨(h.boxO hC hg).set 3 v',Qc (zN (zB h.F o) hg ?_) hC 3 _,Qc (Qd.snoc hown) hC 3 _,λg hF hg'=>?_⟩
 ·cases e:vF.ownBlock with
  |none=>exact oL rfl
  |some g=>exact oR λe'=>h.ne g e e'.symm
 ·rcases hat with hat|hat
  ·exact h.ne g hF (hat▸hg')
  ·rw[hat] at hg'
   have:=(Q5 h.F g hF).2
   have e:=zF hg'
   omega
theorem J1.app {gb i:Nat}{W w w':World}{r:Option Nat}{o:Obj}(h:J1 (some gb) W w)(hg:(w.alloc o).grownBy w' r)(hr:∀g,r=some g->W.heap.size<=g)(u:Value):J1 (some gb) W (w'.setCell (aD gb i) u):=by
 refine J1.set ?_ rfl u
 have hs:=h.size
 have hz:=hg.size
 rw[Q3] at hz
 refine⟨hg.os.trans h.os,hg.tape.trans h.tape,hg.output.trans h.output,by omega,λb hb hn=>?_⟩
 rw[hg.block b (by rw[Q3];omega) (λe=>by have:=hr b e.symm;omega)]
 have:(w.alloc o).heap[b]?=w.heap[b]?:=(Q4 w o).block b (by omega)
 rw[this]
 exact h.block b hb hn
theorem J1.blk {o:Option Nat}{W w:World}{b:Nat}{cs:Array Value}(k:J1 o W w)(h:Blk W b cs)(hn:some b≠o):Blk w b cs:=by
 have hl:=h.lt
 obtain⟨t,hb⟩:=h
 exact⟨t,(k.block b hl hn).trans hb⟩
theorem J1.own {o:Option Nat}{W w:World}{B ty sz:Nat}{v:Value}{n:Nat}{xs:List Value}(k:J1 o W w)(h:W.ownsRow B ty sz v n xs)(hn:∀g,v.ownBlock=some g->some g≠o):w.ownsRow B ty sz v n xs:=by
 obtain⟨h1,h2⟩:=h
 refine⟨h1,?_⟩
 rcases h2 with h2|⟨g,cap,cur,hv,hg,hh,r⟩
 ·exact oL h2
 ·exact oR ⟨g,cap,cur,hv,hg,(k.block g (Array.getElem?_eq_some_iff.1 hh).1 (hn g (by rw[hv];rfl))).trans hh,r⟩
def fsL (N:Nt)(p:Nat):List Int:=(List.range p).map (λq=>((cL (tlN N) q (mN N):Nat):Int))
def osL (N:Nt)(p k:Nat):List Int:=(Q9x (tlN N) (mN N) p++grp (tlN N) p k).map (λe:Nat=>(e:Int))
theorem Q8n (N:Nt)(p:Nat):(fsL N p).length=p:=by simp[fsL]
theorem Q80 (N:Nt)(p k:Nat):(osL N p k).length=cL (tlN N) p (mN N)+cE (tlN N) p k:=by simp[osL,Qby,Q8l]
theorem Q41 (N:Nt)(p:Nat):(osL N p 0).length=cL (tlN N) p (mN N):=by rw[Q80];rfl
theorem Qd4 (N:Nt)(p:Nat):fsL N (p+1)=fsL N p++[((osL N p 0).length:Int)]:=by rw[Q41];simp[fsL,List.range_succ]
theorem Qes {N:Nt}{p k:Nat}(h:tlN N k=p):osL N p (k+1)=osL N p k++[(k:Int)]:=by simp[osL,grp,h]
theorem Qgr {N:Nt}{p k:Nat}(h:tlN N k≠p):osL N p (k+1)=osL N p k:=by simp[osL,grp,h]
theorem Qgq (N:Nt)(p:Nat):osL N p (mN N)=osL N (p+1) 0:=by simp[osL,Q9x,grp]
theorem Qee {N:Nt}(h:Ua N){e:Nat}(he:e<mN N):(eat (E1 N) e).tail=((tlN N e:Nat):Int):=by
 have:=(Q95 h (e:=e) (by rw[Wb];exact he)).1
 unfold tlN tlE
 omega
end Go.Proofs.YtahpodmokbdjeaaGreatDoor
namespace Go
set_option maxHeartbeats 16000000
theorem Iq {P:Program}{ops:Array Oper}{o:Oper}{a:Act}{w:World}{K:Act->World->Prop}{Q:Exit->Act->World->Prop}{E:Prop}
  (hg:o.guard=none) (s x:Operand) (t:TypeId) (hop:o.op=Op.call { callee:=Callee.builtin Builtin.append,args:=#[s,x],argTypes:=#[t,t] })
  (e:TypeId) (i:TypeInfo) (z:Value) (size bytes:Nat) (h1:P.underlying t=some (.slice e)) (h2:P.info? e=some i) (h3:i.zero=some z) (h4:i.size=size) (h5:i.bytes=bytes) (h6:z.cells.size=size) (h7:0<size)
  (B:Nat) (v:Value) (n:Nat) (olds:List Value) (hs:a.eval s=v) (hown:w.ownsRow B e size v n olds)
  (ad:Addr) (m c:Nat) (news:List Value) (hx:a.eval x=.slice (some ad) m c) (hn:news.length=m*size) (hc:∀j u,news[j]?=some u->w.cell? (ad.add j)=some u) (h1c:∀u∈news,u.oneCell'=true)
  (b1:n+m<=maxLen) (b2:(n+m)*bytes<=140737488355328) (hB:B<=w.heap.size)
  (hK:∀v' w',w'.ownsRow B e size v' (n+m) (olds++news)->w.grownBy w' v.ownBlock->K (a.put o.dst v') w') :
  if Region.wanted o (yielded ops a.tmps)=true then Oper.wp P o a w K Q else E:=by
 have hw:Region.wanted o (yielded ops a.tmps)=true:=by simp[Region.wanted,hg]
 rw[if_pos hw]
 obtain⟨v',w',hrun,r1,r2,_⟩:=run_append_own (P:=P) w B t o.type e i z size bytes h1 h2 h3 h4 h5 h6 h7 v n olds hown ad m c news hn hc h1c b1 b2 hB
 unfold Oper.wp
 simp[execOp,hop,resolve,invoke,builtin,hs,hx,hrun,Result.andThen]
 exact hK v' w' r1 r2
end Go
namespace Go.Proofs.YtahpodmokbdjeaaGreatDoor
set_option maxHeartbeats 16000000
open Go.RowKit Tryz
set_option linter.unusedVariables false
set_option maxRecDepth 100000
def tkN (zs:List Int)(k:Nat):List Int:=zs.take k
theorem Qb1 {zs:List Int}{k:Nat}(h:k<zs.length):tkN zs (k+1)=tkN zs k++[iat zs k]:=by
 unfold tkN
 rw[zR h,Vl h]
theorem Qeb {zs:List Int}{k:Nat}(h:k<=zs.length):(tkN zs k).length=k:=by simp[tkN,h]
theorem Qec (zs:List Int):tkN zs zs.length=zs:=by simp[tkN]
def T6 (x:Eg)(j:Nat):Value:=((Vg x)[j]?).getD (.bool false)
def twX (E:List Eg)(m e f i:Nat):Eg:=if i<e then Tr (eat E i) (In E i m) else if i=e then Tr (eat E i) (In E i f) else eat E i
def RX (w:World)(g n:Nat)(X:Nat->Eg):Prop:=RE w g n (λi j=>T6 (X i) j)
theorem RX.tw {w:World}{g n:Nat}{E:List Eg}{m e f:Nat}(h:RX w g n (twX E m e f))(he:e<n)(hm:mt (eat E e) (eat E f)=true):RX (w.setCell (aD g (e*7+6)) (iV (f:Int))) g n (twX E m e (f+1)):=by
 refine RE.congr (RE.set h he (j:=6) (by omega) _) λi j _ hj=>?_
 by_cases c:i=e/\j=6
 ·obtain⟨rfl,rfl⟩:=c
  rw[if_pos ⟨rfl,rfl⟩]
  simp[twX,In,hm,T6,Vg,Tr]
 ·rw[if_neg c]
  by_cases ei:i=e
  ·subst ei
   have hj6:j≠6:=λh=>c ⟨rfl,h⟩
   rcases (show j=0\/j=1\/j=2\/j=3\/j=4\/j=5 by omega) with rfl|rfl|rfl|rfl|rfl|rfl<;>simp[twX,T6,Vg,Tr]
  ·simp[twX,ei]
theorem RX.no {w:World}{g n:Nat}{E:List Eg}{m e f:Nat}(h:RX w g n (twX E m e f))(hm:mt (eat E e) (eat E f)=false):RX w g n (twX E m e (f+1)):=
 RE.congr h λi j _ hj=>by
  by_cases ei:i=e
  ·subst ei
   simp[twX,In,hm]
  ·simp[twX,ei]
theorem RX.up {w:World}{g n:Nat}{E:List Eg}{m e:Nat}(h:RX w g n (twX E m e m))(h0:∀i,i<n->(eat E i).twin=-1):RX w g n (twX E m (e+1) 0):=
 RE.congr h λi j hi hj=>by
  have h1:=h0 i hi
  by_cases e1:i<e
  ·simp[twX,e1,show i<e+1 by omega]
  ·by_cases e2:i=e
   ·subst e2;simp[twX]
   ·by_cases e3:i=e+1
    ·subst e3
     have:Tr (eat E (e+1)) (-1)=eat E (e+1):=by unfold Tr;rw[<-h1]
     simp[twX,In,this,e1]
    ·simp[twX,e1,e2,e3,show ¬i<e+1 by omega]
theorem J1.nx {o:Option Nat}{a w w':World}(h:J1 o a w)(k:Nx w w'):J1 o a w':=
 ⟨k.os.trans h.os,k.tape.trans h.tape,k.output.trans h.output,zP h.size k.size,λb hb hn=>(k.block b (zK hb h.size)).trans (h.block b hb hn)⟩
theorem RE.next {w w':World}{g n:Nat}{V:Nat->Nat->Value}(h:RE w g n V)(k:Nx w w'):RE w' g n V:=by
 obtain⟨c,hb,r⟩:=h
 exact⟨c,(k.block g (Array.getElem?_eq_some_iff.1 hb).1).trans hb,r⟩
theorem RE.only {W w:World}{g n b:Nat}{V:Nat->Nat->Value}(h:RE W g n V)(k:J1 (some b) W w)(hb:b<g):RE w g n V:=by
 obtain⟨c,hg,r⟩:=h
 exact⟨c,(k.block g (Array.getElem?_eq_some_iff.1 hg).1 (λe=>by have:=zF e;omega)).trans hg,r⟩
theorem RE.setOther {w:World}{g n:Nat}{V:Nat->Nat->Value}(h:RE w g n V){a:Addr}(ha:g≠a.block)(v:Value):RE (w.setCell a v) g n V:=by
 obtain⟨c,hg,r⟩:=h
 exact⟨c,(Below.heap_setCell _ _ _ _ ha).trans hg,r⟩
theorem Qdb {B:Nat}{w:World}{a:Option Addr}{n c:Nat}{es:List Eg}(hl:es.length=n)(hm:n<=maxLen)(h:0<n->∃g,a=some (aD g 0)/\B<=g/\RX w g n (λi=>eat es i)):Vh B w (sL a n c) es:=by
 subst hl
 refine⟨_,_,rfl,hm,λh0=>?_⟩
 obtain⟨g,e,hB,hr⟩:=h h0
 have hlt:g<w.heap.size:=by
  obtain⟨cc,hb,_⟩:=hr
  exact(Array.getElem?_eq_some_iff.1 hb).1
 refine⟨g,0,e,hB,hlt,λi hi=>?_⟩
 have q:=λj hj=>RE.cell hr hi (j:=j) hj
 show Ij w g (0+i*7) (eat es i)
 rw[Nat.zero_add]
 exact⟨q 0 (by omega),q 1 (by omega),q 2 (by omega),q 3 (by omega),q 4 (by omega),q 5 (by omega),q 6 (by omega)⟩
theorem Qg4 {N:Nt}{i:Nat}(h:i<mN N):(eat (E0 N) i).twin=-1:=by
 obtain⟨a,b,q,ha,hb,hq,he⟩:=Tw N.ways.length h
 rw[he,(Yb ha hb hq).1]
 split<;>rfl
theorem Qe6 (E:List Eg)(m e f i:Nat):T6 (twX E m e f i) 3=iV (eat E i).way:=by unfold twX;split<;>(try split)<;>rfl
theorem Qe7 (E:List Eg)(m e f i:Nat):T6 (twX E m e f i) 4=iV (eat E i).seg:=by unfold twX;split<;>(try split)<;>rfl
theorem Qax (E:List Eg)(m e f i:Nat):T6 (twX E m e f i) 5=.bool (eat E i).back:=by unfold twX;split<;>(try split)<;>rfl
theorem E9 (N:Nt):Jf N=Qe N:=(Ec N).symm
theorem Q1x (B0:Nat)(v0 v1 v2 v3:Value)(N:Nt)(w:World)(h0:Ye B0 w v0 v1 v2 v3 N)(hs:wsum N.ways N.ways.length<=1048576) :
  Calls prog 18 #[.agg #[v0,v1,v2,v3,iV N.uturn]] w λe w'=>(∃r0 r1 r2 r3,e=.returned (.agg #[r0,r1,r2,r3])/\Zq w.heap.size w' r0 r1 r2 r3 (Iw N))/\Nx w w':=by
 obtain⟨ii,hi,hz0,hz1,hz2⟩:=info_parts U0
 have HS:Z (wsum N.ways N.ways.length<=1048576):=hs
 have HI:Z (Ye B0 w v0 v1 v2 v3 N):=h0
 obtain⟨a0,c0,e0,hn0,hk0⟩:=h0.1
 subst e0
 clear hs h0
 go_enter func18,ntmps18
 go_wp2_with fail
 refine(Pt B0 _ _ _ _ N _ (by exact HI.o.next (Zk _ _ _)) HS.o).mono ?_
 rintro e w1 ⟨rfl,hx⟩
 rw[<-Ec]
 have BA:Blk w1 w.heap.size #[sL a0 N.nodes.length c0,v1,v2,v3,iV N.uturn]:=((Blk.new w _ 38 _ rfl).alloc _).next hx
 have BR:Blk w1 (w.heap.size+1) #[sN,sN,sN,sN]:=(Blk.new _ _ 52 _ (by simp)).next hx
 have HX1:Z (Nx w w1):=(Zk _ _ _).trans hx
 clear hx
 have rz0:=BR.c 0 rfl
 have rz1:=BR.c 1 rfl
 have rz2:=BR.c 2 rfl
 have rz3:=BR.c 3 rfl
 have rf0:=BR.frozen 0
 have rf1:=BR.frozen 1
 have rf2:=BR.frozen 2
 have rf3:=BR.frozen 3
 cases hv:Qe N
 case false=>
  go_wp2
  have BR':=(((BR.set 0 sN).set 1 sN).set 2 sN).set 3 sN
  have q0:=BR'.c 0 rfl
  have q1:=BR'.c 1 rfl
  have q2:=BR'.c 2 rfl
  have q3:=BR'.c 3 rfl
  refine bodyPost_ret (v:=.agg #[sN,sN,sN,sN]) (by simp[results,results18,go_sem,q0,q1,q2,q3]) rfl ⟨⟨_,_,_,_,rfl,Q31.held (oL ⟨rfl,rfl,rfl,rfl,by simp[Iw,hv]⟩)⟩,?_⟩
  exact Below.setCell (Below.setCell (Below.setCell (Below.setCell HX1.o (by simp) _) (by simp) _) (by simp) _) (by simp) _
 have HV:Z (Qe N=true):=hv
 have HR:Z (Ua N):=Jz hv
 clear rz0 rz1 rz2 rz3 rf0 rf1 rf2 rf3
 have hnl:N.nodes.length<=2000:=HR.o.c0
 generalize hm0:N.nodes.length=m0 at *
 have HM0:Z (N.nodes.length=m0):=hm0
 clear hm0
 have k0:=BA.c 0 rfl
 have hzA:=BA.lt
 go_wp2
 go_loopw [4] (λi wr=>∃k:Nat,k<=m0/\i=iV k/\Z (∃v,Blk wr w1.heap.size #[v,sN,sN,sN]/\Qd (w1.heap.size+1) wr v (tkN N.nodes k))/\Z (Nx w1 wr)) (λi _=>m0-(intOf i).toNat)
 case atStart=>exact⟨0,nZ,rfl,⟨sN,Blk.new _ _ _ _ rfl,⟨rfl,oL ⟨rfl,rfl⟩⟩⟩,Q4 _ _⟩
 obtain⟨k,hkn,rfl,HO,HN⟩:=hrel
 clear k0
 by_cases hlt:k<m0
 ·obtain⟨b,off,rfl,hB,hb,hc⟩:=hk0 (by omega)
  have c1':=Q0 (HX1.o.trans HN.o) hb (hc k hlt)
  obtain⟨v,BRr,ho⟩:=HO.o
  have hlt':(k:Int)<m0:=by omega
  have BAr:=BA.next HN.o
  have n0:=BAr.c 0 rfl
  have hsA:=BAr.lt
  have g0:=BRr.c 0 rfl
  have g1:=BRr.frozen 0
  have hsR:=BRr.lt
  have hlk:(tkN N.nodes k).length=k:=Qeb (by rw[HM0.o];omega)
  have HLK:Z ((tkN N.nodes k).length=k):=hlk
  obtain⟨av,cv,hvs⟩:=ho.slice
  rw[hlk] at hvs
  subst hvs
  have HO1:Z (Qd (w1.heap.size+1) wr (sL av k cv) (tkN N.nodes k)):=ho
  have HBR:Z (Blk wr w1.heap.size #[sL av k cv,sN,sN,sN]):=BRr
  have hob:some w1.heap.size≠(sL av k cv).ownBlock:=λe=>by have:=(Q5 ho _ e.symm).1;omega
  have HOB:Z (some w1.heap.size≠(sL av k cv).ownBlock):=hob
  clear hc hk0 ho BRr hob hlk HO BAr
  have HTS:Z (tkN N.nodes (k+1)=tkN N.nodes k++[iat N.nodes k]):=Qb1 (by rw[HM0.o];exact hlt)
  go_wp2
  go_region_law (refine Iq rfl (.tmp 22) (.tmp 28) 22 rfl 2 ii (iV 0) 1 8 underlying22 hi hz0 hz1 hz2 rfl (by decide) (w1.heap.size+1) (sL av k cv) (tkN N.nodes k).length (Jr (tkN N.nodes k)) (by simp[Act.eval]) (zB (show wr.drew.ownsRow _ _ _ _ _ _ from HO1.o) _) (aD wr.heap.size 0) 1 1 [iV (iat N.nodes k)] (by simp[Act.eval]) rfl (λj u hj=>Ql wr.drew _ _ _ rfl j u hj) (by intro u hu;simp at hu;subst hu;rfl) (by rw[HLK.o];unfold maxLen;omega) (by rw[HLK.o];omega) (by simp;omega) ?_;intro v' w' hown hgrow;have HV:Qd (w1.heap.size+1) w' v' (tkN N.nodes (k+1)):=(by rw[HTS.o];exact Qd.snoc hown);have BR7:=Blk.grown (Blk.alloc (Blk.drew HBR.o) _) hgrow HOB.o;have h0':=BR7.c 0 rfl;have h1':=BR7.frozen 0;obtain⟨a7,c7,hv7⟩:=HV.slice;subst hv7)
  all_goals go_wp2
  all_goals exact⟨⟨k+1,by omega,by go_num,⟨_,(by exact BR7.set 0 _),Qc HV (Nat.lt_succ_self _) 0 _⟩,Below.setCell (Below.grown ((Nx.drew HN.o).alloc _) hgrow (by simp;omega) (λg hg=>by have:=(Q5 HO1.o g hg).1;omega)) lR _⟩,by simp[intOf];omega⟩
 have ek:m0=k:=by omega
 subst ek
 obtain⟨v,BRr,ho⟩:=HO.o
 rw[show tkN N.nodes m0=N.nodes by rw[<-HM0.o];exact Qec _] at ho
 have BAr:=BA.next HN.o
 have k0:=BAr.c 0 rfl
 have k1:=BAr.c 1 rfl
 have k2:=BAr.c 2 rfl
 have k3:=BAr.c 3 rfl
 have k4:=BAr.c 4 rfl
 have HXr:Z (Nx w wr):=HX1.o.trans HN.o
 obtain⟨av,cv,hvs⟩:=ho.slice
 rw[HM0.o] at hvs
 subst hvs
 have HON:Z (Qd (w1.heap.size+1) wr (sL av m0 cv) N.nodes):=ho
 have HNB:Z (∀g,(sL av m0 cv).ownBlock=some g->g<wr.heap.size):=λg hg=>(Q5 ho g hg).2
 have HBR:Z (Blk wr w1.heap.size #[sL av m0 cv,sN,sN,sN]):=BRr
 clear ho BRr HO hk0 hkn hlt
 go_wp2_with fail
 refine(Q4k B0 _ _ _ _ N _ (by exact HI.o.next HXr.o) HV.o).mono ?_
 rintro e w2 ⟨⟨ve,rfl,he⟩,hx⟩
 have HE:Z (Vc wr.heap.size w2 ve (E0 N)):=he
 have BA2:=BAr.next hx
 have BR2:=HBR.o.next hx
 have HX2:Z (Nx w w2):=HXr.o.trans hx
 have HNr2:Z (Nx w1 w2):=HN.o.trans hx
 have HON2:Z (Qd (w1.heap.size+1) w2 (sL av m0 cv) N.nodes):=HON.o.next hx
 have HZr:Z (w1.heap.size<wr.heap.size):=HBR.o.lt
 obtain⟨ae,ce,hve,_⟩:=he.slice
 subst hve
 generalize hml:(E0 N).length=m at *
 have HMM:Z (mN N=m):=by rw[<-Qdy];exact hml
 clear hml
 clear he hx BAr HBR HON k0 k1 k2 k3 k4
 have g1:=BR2.c 1 rfl
 have g2:=BR2.frozen 1
 have hsR:=BR2.lt
 have HBR':Z (Blk (w2.setCell (aD w1.heap.size 1) (sL ae m ce)) w1.heap.size #[sL av m0 cv,sL ae m ce,sN,sN]):=BR2.set 1 _
 have HE':Z (Vc wr.heap.size (w2.setCell (aD w1.heap.size 1) (sL ae m ce)) (sL ae m ce) (E0 N)):=Qc HE.o HZr.o 1 _
 have HON':Z (Qd (w1.heap.size+1) (w2.setCell (aD w1.heap.size 1) (sL ae m ce)) (sL av m0 cv) N.nodes):=Qc HON2.o (Nat.lt_succ_self _) 1 _
 have HN2:Z (Nx w1 (w2.setCell (aD w1.heap.size 1) (sL ae m ce))):=Below.setCell HNr2.o lR _
 clear BR2 HE HON2 HNr2 BA2
 go_wp2
 have hm4:m<=4000:=by rw[<-HMM.o];unfold mN;rw[Qb5];exact HR.o.ed
 have HT0:Z (∀i,i<m->(eat (E0 N) i).twin=-1):=λi hi=>Qg4 (by rw[HMM.o];exact hi)
 have HOB:Z (∀g,(sL ae (m) ce).ownBlock=some g->wr.heap.size<=g):=λg hg=>(Q5 HE'.o g hg).1
 have HSE:Z (0<m->∃g,ae=some (aD g 0)/\RX (w2.setCell (aD w1.heap.size 1) (sL ae (m) ce)) g (m) (twX (E0 N) (m) 0 0)):=λh0=>by
  have hse:=HE'.o.se
  rw[Qdy,HMM.o] at hse
  obtain⟨a',c',e',hk⟩:=hse
  simp only[zC,true_and] at e'
  obtain⟨rfl,rfl⟩:=e'
  obtain⟨g,e1,hr⟩:=hk h0
  refine⟨g,e1,RE.congr hr λi j hi hj=>?_⟩
  have h1:=HT0.o i hi
  show T6 (eat (E0 N) i) j=T6 (twX (E0 N) (m) 0 0 i) j
  by_cases e2:i=0
  ·subst e2
   have:Tr (eat (E0 N) 0) (-1)=eat (E0 N) 0:=by unfold Tr;rw[<-h1]
   simp[twX,In,this]
  ·simp[twX,e2]
 generalize hEN:E0 N=EN at *
 have HEN:Z (E0 N=EN):=hEN
 clear hEN
 generalize hWW:w2.setCell (aD w1.heap.size 1) (sL ae m ce)=W2 at *
 have HWW:Z (w2.setCell (aD w1.heap.size 1) (sL ae m ce)=W2):=hWW
 clear hWW
 have hRB:∀X,J1 (sL ae m ce).ownBlock W2 X->Blk X w1.heap.size #[sL av m0 cv,sL ae m ce,sN,sN]:=λX hX=>by
  have hl:=HBR'.o.lt
  obtain⟨t,hb⟩:=HBR'.o
  exact⟨t,(hX.block _ hl (λe=>by have:=HOB.o _ e.symm;have:=HZr.o;omega)).trans hb⟩
 have HRB:Z (∀X,J1 (sL ae m ce).ownBlock W2 X->Blk X w1.heap.size #[sL av m0 cv,sL ae m ce,sN,sN]):=hRB
 clear hRB g1 g2 hsR hzA
 go_loopw [5,6] (λi p6 wq=>∃e:Nat,e<=m/\i=iV e/\Z (0<m->∃g,ae=some (aD g 0)/\RX wq g m (twX EN m e 0))/\Z (J1 (sL ae m ce).ownBlock W2 wq)) (λi _ _=>m-(intOf i).toNat)
 case atStart=>exact⟨0,nZ,rfl,HSE,J1.refl _ _⟩
 clear HSE
 obtain⟨e,hem,rfl,HX,HO⟩:=hrel
 have kb:=(HRB.o _ HO.o).c 1 rfl
 by_cases hel:e<m
 ·have hel':(e:Int)<m:=by omega
  go_wp2
  clear kb
  go_loopw [6] (λi wq=>∃f:Nat,f<=m/\i=iV f/\Z (0<m->∃g,ae=some (aD g 0)/\RX wq g m (twX EN m e f))/\Z (J1 (sL ae m ce).ownBlock W2 wq)) (λi _=>m-(intOf i).toNat)
  case atStart=>exact⟨0,nZ,rfl,HX,HO⟩
  clear HX HO
  obtain⟨f,hfm,rfl,HX,HO⟩:=hrel
  have kb:=(HRB.o _ HO.o).c 1 rfl
  by_cases hfl:f<m
  ·have hfl':(f:Int)<m:=by omega
   obtain⟨g,hag,hr⟩:=HX.o (by omega)
   subst hag
   have a3:=RE.cell hr hel (j:=3) (by omega)
   have a4:=RE.cell hr hel (j:=4) (by omega)
   have a5:=RE.cell hr hel (j:=5) (by omega)
   have b3:=RE.cell hr hfl (j:=3) (by omega)
   have b4:=RE.cell hr hfl (j:=4) (by omega)
   have b5:=RE.cell hr hfl (j:=5) (by omega)
   have a6:=RE.cell hr hel (j:=6) (by omega)
   have z6:=RE.frozen hr (e*7+6)
   simp only[Qe6,Qe7,Qax] at a3 a4 a5 b3 b4 b5
   have HXr':Z (RX wr g m (twX EN m e f)):=hr
   have HMT:Z (mt (eat EN e) (eat EN f)=(decide ((eat EN e).way=(eat EN f).way)&&(decide ((eat EN e).seg=(eat EN f).seg)&&((eat EN e).back !=(eat EN f).back)))):=rfl
   clear hr HX
   have EB:=cell_regrown kb
   have A3:=cell_regrown a3
   have A4:=cell_regrown a4
   have A5:=cell_regrown a5
   have B3:=cell_regrown b3
   have B4:=cell_regrown b4
   have B5:=cell_regrown b5
   generalize (eat EN e).way=we at *
   generalize (eat EN f).way=wf at *
   generalize (eat EN e).seg=se at *
   generalize (eat EN f).seg=sf at *
   generalize (eat EN e).back=be at *
   generalize (eat EN f).back=bf at *
   by_cases h1:we=wf
   ·have hd1:(we==wf)=true:=by simpa using h1
    by_cases h2:se=sf
    ·have hd2:(se==sf)=true:=by simpa using h2
     by_cases h3:be=bf
     ·have HF:Z (mt (eat EN e) (eat EN f)=false):=by unfold Z;rw[HMT.o];simp[h3]
      subst h3
      have hd3:(be !=be)=false:=by simp
      clear h1 h2
      go_wp2
      refine wp_region_quiet_below (by kernel_rfl) (by kernel_rfl) ?_
      repeat (go_big_quiet_step (fail))
      refine wpQuiet_nil ?_
      intro _ hw'
      obtain⟨⟨dq,osq⟩,hw''⟩:=hw'
      subst hw''
      have HNq:Z (Nx wr (Sort.grow (redrawn wr dq) osq)):=below_regrown _ dq osq
      clear EB A3 A4 A5 B3 B4 B5
      generalize hwq:Sort.grow (redrawn wr dq) osq=wq at *
      clear hwq
      have HO':Z (J1 (sL (sA g) m ce).ownBlock W2 wq):=HO.o.nx HNq.o
      have HXq:Z (RX wq g m (twX EN m e f)):=RE.next HXr'.o HNq.o
      have HX':Z (0<m->∃g',(some (aD g 0):Option Addr)=some (aD g' 0)/\RX wq g' m (twX EN m e (f+1))):=λ_=>⟨g,rfl,RX.no HXq.o HF.o⟩
      clear kb a3 a4 a5 a6 b3 b4 b5 z6
      go_wp2
      go_roundw
      case rel=>exact⟨f+1,by omega,by go_num,HX',HO'⟩
      case measure=>simp[intOf];omega
     ·have HF:Z (mt (eat EN e) (eat EN f)=true):=by unfold Z;rw[HMT.o];simp[h1,h2,h3]
      have h4:bf=!be:=by cases be<;>cases bf<;>simp_all
      subst h4
      have hd3:(be !=!be)=true:=by simp
      clear h1 h2 h3
      go_wp2
      refine wp_region_quiet_below (by kernel_rfl) (by kernel_rfl) ?_
      repeat (go_big_quiet_step (fail))
      refine wpQuiet_nil ?_
      intro _ hw'
      obtain⟨⟨dq,osq⟩,hw''⟩:=hw'
      subst hw''
      have HNq:Z (Nx wr (Sort.grow (redrawn wr dq) osq)):=below_regrown _ dq osq
      clear EB A3 A4 A5 B3 B4 B5
      generalize hwq:Sort.grow (redrawn wr dq) osq=wq at *
      clear hwq
      have HO':Z (J1 (sL (sA g) m ce).ownBlock W2 wq):=HO.o.nx HNq.o
      have HXq:Z (RX wq g m (twX EN m e f)):=RE.next HXr'.o HNq.o
      have HX':Z (0<m->∃g',(some (aD g 0):Option Addr)=some (aD g' 0)/\RX (wq.setCell (aD g (e*7+6)) (iV (f:Int))) g' m (twX EN m e (f+1))):=λ_=>⟨g,rfl,RX.tw HXq.o hel HF.o⟩
      have HO'':Z (J1 (sL (sA g) m ce).ownBlock W2 (wq.setCell (aD g (e*7+6)) (iV (f:Int)))):=HO'.o.set rfl _
      clear kb a3 a4 a5 a6 b3 b4 b5 z6
      have kb:=(HRB.o _ HO'.o).c 1 rfl
      have a6:=RE.cell HXq.o hel (j:=6) (by omega)
      have z6:=RE.frozen HXq.o (e*7+6)
      go_wp2
      go_roundw
      case rel=>exact⟨f+1,by omega,by go_num,HX',HO''⟩
      case measure=>simp[intOf];omega
    ·have hd2:(se==sf)=false:=by simpa using h2
     have HF:Z (mt (eat EN e) (eat EN f)=false):=by unfold Z;rw[HMT.o];simp[h2]
     clear h1 h2
     go_wp2
     refine wp_region_quiet_below (by kernel_rfl) (by kernel_rfl) ?_
     repeat (go_big_quiet_step (fail))
     refine wpQuiet_nil ?_
     intro _ hw'
     obtain⟨⟨dq,osq⟩,hw''⟩:=hw'
     subst hw''
     have HNq:Z (Nx wr (Sort.grow (redrawn wr dq) osq)):=below_regrown _ dq osq
     clear EB A3 A4 A5 B3 B4 B5
     generalize hwq:Sort.grow (redrawn wr dq) osq=wq at *
     clear hwq
     have HO':Z (J1 (sL (sA g) m ce).ownBlock W2 wq):=HO.o.nx HNq.o
     have HXq:Z (RX wq g m (twX EN m e f)):=RE.next HXr'.o HNq.o
     have HX':Z (0<m->∃g',(some (aD g 0):Option Addr)=some (aD g' 0)/\RX wq g' m (twX EN m e (f+1))):=λ_=>⟨g,rfl,RX.no HXq.o HF.o⟩
     clear kb a3 a4 a5 a6 b3 b4 b5 z6
     go_wp2
     go_roundw
     case rel=>exact⟨f+1,by omega,by go_num,HX',HO'⟩
     case measure=>simp[intOf];omega
   ·have hd1:(we==wf)=false:=by simpa using h1
    have HF:Z (mt (eat EN e) (eat EN f)=false):=by unfold Z;rw[HMT.o];simp[h1]
    clear h1
    go_wp2
    refine wp_region_quiet_below (by kernel_rfl) (by kernel_rfl) ?_
    repeat (go_big_quiet_step (fail))
    refine wpQuiet_nil ?_
    intro _ hw'
    obtain⟨⟨dq,osq⟩,hw''⟩:=hw'
    subst hw''
    have HNq:Z (Nx wr (Sort.grow (redrawn wr dq) osq)):=below_regrown _ dq osq
    clear EB A3 A4 A5 B3 B4 B5
    generalize hwq:Sort.grow (redrawn wr dq) osq=wq at *
    clear hwq
    have HO':Z (J1 (sL (sA g) m ce).ownBlock W2 wq):=HO.o.nx HNq.o
    have HXq:Z (RX wq g m (twX EN m e f)):=RE.next HXr'.o HNq.o
    have HX':Z (0<m->∃g',(some (aD g 0):Option Addr)=some (aD g' 0)/\RX wq g' m (twX EN m e (f+1))):=λ_=>⟨g,rfl,RX.no HXq.o HF.o⟩
    clear kb a3 a4 a5 a6 b3 b4 b5 z6
    go_wp2
    go_roundw
    case rel=>exact⟨f+1,by omega,by go_num,HX',HO'⟩
    case measure=>simp[intOf];omega
  have ef:m=f:=by omega
  subst ef
  have HX':Z (0<m->∃g,ae=some (aD g 0)/\RX wr g m (twX EN m (e+1) 0)):=λh=>by
   obtain⟨g,h1,h2⟩:=HX.o h
   exact⟨g,h1,RX.up h2 HT0.o⟩
  go_wp2
  go_roundw
  case rel=>exact⟨e+1,by omega,by go_num,HX',HO⟩
  case measure=>simp[intOf];omega
 have ee:m=e:=by omega
 subst ee
 have HX':Z (0<m->∃g,ae=some (aD g 0)/\RX wr g m (λi=>eat (E1 N) i)):=λh=>by
  obtain⟨g,h1,h2⟩:=HX.o h
  refine⟨g,h1,RE.congr h2 λi j hi hj=>?_⟩
  have:twX EN m m 0 i=eat (E1 N) i:=by rw[Qe5 N (by rw[HMM.o];exact hi),HEN.o,HMM.o];simp[twX,hi]
  rw[this]
 have HAG:Z (∀g,ae=some (aD g 0)->w1.heap.size<g):=λg hg=>by
  have:=HOB.o g (by rw[hg];rfl)
  have:=HZr.o
  omega
 have hBX:Blk wr w1.heap.size #[sL av m0 cv,sL ae m ce,sN,sN]:=HRB.o _ HO.o
 have HBX:Z (Blk wr w1.heap.size #[sL av m0 cv,sL ae m ce,sN,sN]):=hBX
 have HGB:Z (w1.heap.size<wr.heap.size):=hBX.lt
 have HONr:Z (Qd (w1.heap.size+1) wr (sL av m0 cv) N.nodes):=HO.o.own HON'.o λg hg e=>by
  have:=HNB.o g hg
  have:=HOB.o g e.symm
  omega
 have HWL:Z (Below w.heap.size w wr):=Below.trans (HX1.o.trans HN2.o) (HO.o.below (B:=w.heap.size) (λg hg=>by have:=HOB.o g hg;have:=HZr.o;have:=HX1.o.size;omega) (by have:=HX1.o.size;have:=HN2.o.size;omega))
 have HBRr:Z (Blk wr (w.heap.size+1) #[sN,sN,sN,sN]):=HO.o.blk (BR.next HN2.o) λe=>by
  have:=HOB.o _ e.symm
  have:=HZr.o
  have:=BR.lt
  omega
 have HBRl:Z (w.heap.size+1<w1.heap.size):=BR.lt
 clear hBX HX HO HRB HOB HNB HON' HN2 HE' HT0 BR HBR' HEN HZr kb
 have kb:=HBX.o.c 1 rfl
 go_wp2
 clear kb
 generalize hWL:wr=WL at *
 go_loopw [7,8] (λi p8 wq=>∃p:Nat,p<=m0+1/\i=iV p/\Z (∃vF vO,FO w1.heap.size (sL av m0 cv) (sL ae m ce) WL.heap.size wq vF vO (fsL N p) (osL N p 0))/\Z (J1 (some w1.heap.size) WL wq)) (λi _ _=>m0+1-(intOf i).toNat)
 case atStart=>exact⟨0,nZ,rfl,⟨_,_,⟨HBX.o,⟨rfl,oL ⟨rfl,rfl⟩⟩,⟨rfl,oL ⟨rfl,rfl⟩⟩,λg hg=>by simp[Value.ownBlock] at hg⟩⟩,J1.refl _ _⟩
 obtain⟨p,hpn,rfl,HFO,HO⟩:=hrel
 by_cases hpl:p<=m0
 ·obtain⟨vF,vO,hf⟩:=HFO.o
  obtain⟨aF,cF,hvF⟩:=hf.F.slice
  obtain⟨aO,cO,hvO⟩:=hf.O.slice
  have HLF:Z ((fsL N p).length=p):=Q8n N p
  rw[Q8n] at hvF
  generalize hL:(osL N p 0).length=L at hvO
  have HL:Z ((osL N p 0).length=L):=hL
  have hL4:L<=4000:=by
   rw[<-hL,Q41]
   have:=Qge (tlN N) p (mN N)
   have:=HMM.o
   omega
  subst hvF hvO
  have HF:Z (FO w1.heap.size (sL av m0 cv) (sL ae m ce) WL.heap.size wr (sL aF p cF) (sL aO L cO) (fsL N p) (osL N p 0)):=hf
  have k0:=hf.box.c 0 rfl
  have k2:=hf.box.c 2 rfl
  have k3:=hf.box.c 3 rfl
  have hpl':(p:Int)<=m0:=by omega
  clear hf HFO hL
  go_wp2_with (at_builtin;refine wpList_append_own_at _ rfl _ _ 22 rfl WL.heap.size 2 ii (iV 0) 1 8 underlying22 hi hz0 hz1 hz2 rfl (by decide) _ _ _ rfl (zB HF.o.F _) (aD wr.heap.size 0) 1 1 [iV (L:Int)] rfl rfl (λj u hj=>Ql wr _ _ _ rfl j u hj) ?c2 ?c3 ?c4 ?c5 ?_)
  case c2=>intro u hu;simp at hu;subst hu;rfl
  case c3=>rw[HLF.o];unfold maxLen;omega
  case c4=>rw[HLF.o];omega
  case c5=>have:=HO.o.size;simp;omega
  intro v7 w7 hown hgrow _ hat
  have HF7:Z (FO w1.heap.size (sL av m0 cv) (sL ae m ce) WL.heap.size (w7.setCell (aD w1.heap.size 2) v7) v7 (sL aO L cO) (fsL N (p+1)) (osL N p 0)):=by
   unfold Z
   rw[Qd4,HL.o]
   exact HF.o.first HGB.o hown hgrow hat
  have HO7:Z (J1 (some w1.heap.size) WL (w7.setCell (aD w1.heap.size 2) v7)):=HO.o.app hgrow (λg hg=>(Q5 HF.o.F g hg).1) _
  have B7:=HF.o.boxF HGB.o hgrow
  have k2:=B7.c 2 rfl
  have z2:=B7.frozen 2
  obtain⟨a7,c7,hv7⟩:=HF7.o.F.slice
  subst hv7
  clear B7 hown hgrow hat k0 k3 HF HO
  go_wp2
  clear k2 z2 hpl'
  go_loopw [8] (λi wq=>∃k:Nat,k<=m/\i=iV k/\Z (∃vF vO,FO w1.heap.size (sL av m0 cv) (sL ae m ce) WL.heap.size wq vF vO (fsL N (p+1)) (osL N p k))/\Z (J1 (some w1.heap.size) WL wq)) (λi _=>m-(intOf i).toNat)
  case atStart=>exact⟨0,nZ,rfl,⟨_,_,HF7.o⟩,HO7⟩
  clear HF7 HO7
  obtain⟨k,hkm,rfl,HFO,HO⟩:=hrel
  by_cases hkl:k<m
  ·obtain⟨vF,vO,hf⟩:=HFO.o
   obtain⟨aF,cF,hvF⟩:=hf.F.slice
   obtain⟨aO,cO,hvO⟩:=hf.O.slice
   generalize hLF:(fsL N (p+1)).length=LF at hvF
   generalize hL:(osL N p k).length=L at hvO
   have HL:Z ((osL N p k).length=L):=hL
   have hL4:L<=8000:=by
    rw[<-hL,Q80]
    have:=Qge (tlN N) p (mN N)
    have:=cE_le (tlN N) p k
    have:=HMM.o
    omega
   subst hvF hvO
   have HF:Z (FO w1.heap.size (sL av m0 cv) (sL ae m ce) WL.heap.size wr (sL aF LF cF) (sL aO L cO) (fsL N (p+1)) (osL N p k)):=hf
   have k1:=hf.box.c 1 rfl
   have k3:=hf.box.c 3 rfl
   obtain⟨g,hag,hr⟩:=HX'.o (by omega)
   have hag2:=HAG.o g hag
   subst hag
   have t0:=RE.cell (RE.only hr HO.o hag2) hkl (j:=0) (by omega)
   have t1:T6 (eat (E1 N) k) 0=iV ((tlN N k:Nat):Int):=by rw[<-Qee HR.o (by rw[HMM.o];exact hkl)];rfl
   simp only[t1,Nat.add_zero] at t0
   clear t1 hr hag2 hf HFO hL hLF
   have hkl':(k:Int)<m:=by omega
   by_cases htp:tlN N k=p
   ·have hOY:osL N p (k+1)=osL N p k++[(k:Int)]:=Qes htp
    have HOY:Z (osL N p (k+1)=osL N p k++[(k:Int)]):=hOY
    rw[htp] at t0
    clear hOY htp
    go_wp2_with (at_builtin;refine wpList_append_own_at _ rfl _ _ 22 rfl WL.heap.size 2 ii (iV 0) 1 8 underlying22 hi hz0 hz1 hz2 rfl (by decide) _ _ _ rfl (zB HF.o.O _) (aD wr.heap.size 0) 1 1 [iV (k:Int)] rfl rfl (λj u hj=>Ql wr _ _ _ rfl j u hj) ?c2 ?c3 ?c4 ?c5 ?_)
    case c2=>intro u hu;simp at hu;subst hu;rfl
    case c3=>rw[HL.o];unfold maxLen;omega
    case c4=>rw[HL.o];omega
    case c5=>have:=HO.o.size;simp;omega
    intro v7 w7 hown hgrow _ hat
    have HF7:Z (FO w1.heap.size (sL av m0 cv) (sL (sA g) m ce) WL.heap.size (w7.setCell (aD w1.heap.size 3) v7) (sL aF LF cF) v7 (fsL N (p+1)) (osL N p (k+1))):=by
     unfold Z
     rw[HOY.o]
     exact HF.o.o HGB.o hown hgrow hat
    have HO7:Z (J1 (some w1.heap.size) WL (w7.setCell (aD w1.heap.size 3) v7)):=HO.o.app hgrow (λg hg=>(Q5 HF.o.O g hg).1) _
    have B7:=HF.o.boxO HGB.o hgrow
    have k3:=B7.c 3 rfl
    have z3:=B7.frozen 3
    obtain⟨a7,c7,hv7⟩:=HF7.o.O.slice
    subst hv7
    clear B7 hown hgrow hat k1 t0 HF HO
    go_wp2
    go_roundw
    case rel=>exact⟨k+1,by omega,by go_num,⟨_,_,HF7.o⟩,HO7⟩
    case measure=>simp[intOf];omega
   ·have hd:(((tlN N k:Nat):Int)==(p:Int))=false:=by simpa using(λh=>htp (by omega))
    have HF7:Z (FO w1.heap.size (sL av m0 cv) (sL (sA g) m ce) WL.heap.size wr (sL aF LF cF) (sL aO L cO) (fsL N (p+1)) (osL N p (k+1))):=by
     unfold Z
     rw[Qgr htp]
     exact HF.o
    clear htp HF
    generalize ((tlN N k:Nat):Int)=tk at *
    go_wp2
    go_roundw
    case rel=>exact⟨k+1,by omega,by go_num,⟨_,_,HF7.o⟩,HO⟩
    case measure=>simp[intOf];omega
  have ekm:m=k:=by omega
  subst ekm
  have HF7:Z (∃vF vO,FO w1.heap.size (sL av m0 cv) (sL ae m ce) WL.heap.size wr vF vO (fsL N (p+1)) (osL N (p+1) 0)):=by
   have:=HFO.o
   rw[<-Qgq,HMM.o]
   exact this
  have k1:wr.cell? (aD w1.heap.size 1)=some (sL ae m ce):=by
   obtain⟨_,_,hf⟩:=HFO.o
   exact hf.box.c 1 rfl
  clear HFO
  go_wp2
  go_roundw
  case rel=>exact⟨p+1,by omega,by go_num,HF7,HO⟩
  case measure=>simp[intOf];omega
 have epm:p=m0+1:=by omega
 subst epm
 obtain⟨vF,vO,hf⟩:=HFO.o
 obtain⟨aF,cF,hvF⟩:=hf.F.slice
 obtain⟨aO,cO,hvO⟩:=hf.O.slice
 generalize (fsL N (m0+1)).length=LF at hvF
 generalize (osL N (m0+1) 0).length=LO at hvO
 subst hvF hvO
 have HF:Z (FO w1.heap.size (sL av m0 cv) (sL ae m ce) WL.heap.size wr (sL aF LF cF) (sL aO LO cO) (fsL N (m0+1)) (osL N (m0+1) 0)):=hf
 have k0:=hf.box.c 0 rfl
 have k1:=hf.box.c 1 rfl
 have k2:=hf.box.c 2 rfl
 have k3:=hf.box.c 3 rfl
 have BRz:Blk wr (w.heap.size+1) #[sN,sN,sN,sN]:=HO.o.blk HBRr.o λe=>by
  have:=zF e
  have:=HBRl.o
  omega
 have rz0:=BRz.c 0 rfl
 have rz1:=BRz.c 1 rfl
 have rz2:=BRz.c 2 rfl
 have rz3:=BRz.c 3 rfl
 have rf0:=BRz.frozen 0
 have rf1:=BRz.frozen 1
 have rf2:=BRz.frozen 2
 have rf3:=BRz.frozen 3
 have hpl':¬((m0+1:Nat):Int)<=m0:=by omega
 clear hf HFO
 go_wp2
 have BR':=(((BRz.set 0 (sL av m0 cv)).set 1 (sL ae m ce)).set 2 (sL aF LF cF)).set 3 (sL aO LO cO)
 have q0:=BR'.c 0 rfl
 have q1:=BR'.c 1 rfl
 have q2:=BR'.c 2 rfl
 have q3:=BR'.c 3 rfl
 refine bodyPost_ret (v:=.agg #[sL av m0 cv,sL ae m ce,sL aF LF cF,sL aO LO cO]) (by simp[results,results18,go_sem,q0,q1,q2,q3]) rfl ⟨⟨_,_,_,_,rfl,?_⟩,?_⟩
 ·have z0:=HGB.o
  have z1:=HBRl.o
  have z2:=HX1.o.size
  have eR:Iw N=⟨N.nodes,E1 N,fsL N (m0+1),osL N (m0+1) 0⟩:=by simp[Iw,HV.o,Ul,fsL,osL,grp,HM0.o]
  rw[eR]
  refine⟨?_,?_,?_,?_⟩
  ·refine(Qd.base (B:=w1.heap.size+1) ?_ (by omega)).held
   exact Qc (Qc (Qc (Qc (HO.o.own HONr.o λg hg e=>by have:=(Q5 HONr.o g hg).1;have:=zF e;omega) (by omega) _ _) (by omega) _ _) (by omega) _ _) (by omega) _ _
  ·refine Qdb (by rw[Wb];exact HMM.o) (by unfold maxLen;omega) λh0=>?_
   obtain⟨g,hag,hr⟩:=HX'.o h0
   have hag2:=HAG.o g hag
   exact⟨g,hag,by omega,RE.setOther (RE.setOther (RE.setOther (RE.setOther (RE.only hr HO.o hag2) (by simp;omega) _) (by simp;omega) _) (by simp;omega) _) (by simp;omega) _⟩
  ·refine(Qd.base (B:=WL.heap.size) ?_ (by omega)).held
   exact Qc (Qc (Qc (Qc HF.o.F (by omega) _ _) (by omega) _ _) (by omega) _ _) (by omega) _ _
  ·refine(Qd.base (B:=WL.heap.size) ?_ (by omega)).held
   exact Qc (Qc (Qc (Qc HF.o.O (by omega) _ _) (by omega) _ _) (by omega) _ _) (by omega) _ _
 ·have z1:=HBRl.o
  have z0:=HGB.o
  exact Below.setCell (Below.setCell (Below.setCell (Below.setCell (Below.trans HWL.o (HO.o.below (B:=w.heap.size) (λg hg=>by have:=zF hg;omega) (by omega))) (by simp) _) (by simp) _) (by simp) _) (by simp) _
end Go.Proofs.YtahpodmokbdjeaaGreatDoor
namespace Go.Proofs.YtahpodmokbdjeaaGreatDoor
open Go.RowKit Tryz
set_option linter.unusedVariables false
set_option maxRecDepth 1000000
set_option maxHeartbeats 16000000
def Q2z (a b:List Int)(k:Nat):Prop:=∀i,i<k->iat a i=iat b i
theorem Q1m (a b:List Int):Q2z a b 0:=λi hi=>absurd hi (zM _)
theorem Q1n {a b:List Int}{k:Nat}(h:Q2z a b k)(hk:iat a k=iat b k):Q2z a b (k+1):=by
 intro i hi
 rcases Nat.lt_succ_iff_lt_or_eq.1 hi with h1|rfl
 ·exact h i h1
 ·exact hk
theorem Qdp {a b:List Int}(h:Q2z a b a.length)(hl:a.length=b.length):a=b:=by
 apply List.ext_getElem hl
 intro i h1 h2
 have:=h i h1
 rwa [Vl h1,Vl h2] at this
theorem K9 (B B':Nat)(v v':Value)(xs ys:List Int)(w:World)(h0:Q8 B w v xs)(h1:Q8 B' w v' ys) :
  Calls prog 64 #[v,v'] w λe w'=>e=.returned (.bool (decide (xs=ys)))/\Nx w w':=by
 obtain⟨a,cap,rfl,hn,hk⟩:=h0
 obtain⟨a',cap',rfl,hn',hk'⟩:=h1
 unfold maxLen at hn hn'
 generalize hz:xs.length=n at *
 have HZ:Z (xs.length=n):=hz
 clear hz
 generalize hz:ys.length=n' at *
 have HZ':Z (ys.length=n'):=hz
 clear hz
 by_cases hl:n=n'
 case neg=>
  have hd:((n:Int) !=(n':Int))=true:=by simp;omega
  have HF:Z (false=decide (xs=ys)):=by
   unfold Z
   symm
   rw[decide_eq_false_iff_not]
   intro e
   apply hl
   rw[<-HZ.o,<-HZ'.o,e]
  clear hl
  go_enter func64,ntmps64
  go_wp2
  go_ret
  exact⟨Q6 HF.o,Nx.refl _⟩
 subst hl
 have hd:((n:Int) !=(n:Int))=false:=by simp
 go_enter func64,ntmps64
 go_wp2
 go_loopw [5] (λi wr=>∃k:Nat,k<=n/\i=iV k/\Z (Q2z xs ys k)/\Z (Nx w wr)) (λi _=>n-(intOf i).toNat)
 case atStart=>exact⟨0,nZ,rfl,Q1m _ _,Nx.refl _⟩
 obtain⟨k,hkn,rfl,HA,HN⟩:=hrel
 by_cases hlt:k<n
 ·obtain⟨b,off,rfl,hB,hb,hc⟩:=hk (by omega)
  obtain⟨b',off',rfl,hB',hb',hc'⟩:=hk' (by omega)
  have c0:=Q0 HN.o hb (hc k hlt)
  have c1:=Q0 HN.o hb' (hc' k hlt)
  have hlt':(k:Int)<n:=by omega
  clear hc hk hc' hk'
  by_cases he:iat xs k=iat ys k
  ·have he':(iat xs k !=iat ys k)=false:=by simpa using he
   have HA':Z (Q2z xs ys (k+1)):=Q1n HA.o he
   clear he
   go_wp2
   go_quiet (fail)
   go_wp2
   go_roundw
   case rel=>exact⟨k+1,by omega,by go_num,HA',HN.o.trans ⟨rfl,rfl,rfl,lR,λ_ _=>rfl⟩⟩
   case measure=>simp[intOf];omega
  ·have he':(iat xs k !=iat ys k)=true:=by simpa using he
   have HF:Z (false=decide (xs=ys)):=by
    unfold Z
    symm
    rw[decide_eq_false_iff_not]
    intro e
    exact he (by rw[e])
   clear he
   go_wp2
   go_quiet (fail)
   go_wp2
   go_ret
   exact⟨Q6 HF.o,HN.o.trans ⟨rfl,rfl,rfl,lR,λ_ _=>rfl⟩⟩
 have ek:n=k:=by omega
 subst ek
 have HF:Z (true=decide (xs=ys)):=by
  unfold Z
  symm
  rw[decide_eq_true_iff]
  exact Qdp (by rw[HZ.o];exact HA.o) (by rw[HZ.o,HZ'.o])
 clear HA hlt hkn hk hk'
 go_wp2
 go_ret
 exact⟨Q6 HF.o,HN.o⟩
def tkI (zs:List Int)(k:Nat):List Int:=zs.take k
theorem Q3d {zs:List Int}{k:Nat}(h:k<zs.length):tkI zs (k+1)=tkI zs k++[iat zs k]:=by
 unfold tkI
 rw[zR h,Vl h]
theorem Q7q {zs:List Int}{k:Nat}(h:k<=zs.length):(tkI zs k).length=k:=by simp[tkI,h]
theorem Q7r (zs:List Int):tkI zs zs.length=zs:=by simp[tkI]
theorem Zx (B B':Nat)(v v':Value)(xs ys:List Int)(w:World)(h0:Q8 B w v xs)(h1:Q8 B' w v' ys)(ha:xs.length<=1048576)(hb:ys.length<=1048576) :
  Calls prog 65 #[v,v'] w λe w'=>(∃u,e=.returned u/\Qd w.heap.size w' u (xs++ys))/\Nx w w':=by
 obtain⟨ii,hi,hz0,hz1,hz2⟩:=info_parts U0
 obtain⟨a,cap,rfl,hn,hk⟩:=h0
 obtain⟨a',cap',rfl,hn',hk'⟩:=h1
 unfold maxLen at hn hn'
 generalize hz:xs.length=n at *
 have HZ:Z (xs.length=n):=hz
 clear hz
 generalize hz:ys.length=n' at *
 have HZ':Z (ys.length=n'):=hz
 clear hz
 go_enter func65,ntmps65
 go_wp2
 go_loopw [5,6] (λu i wr=>∃k:Nat,k<=n/\i=iV k/\Z (Qd w.heap.size wr u (tkI xs k))/\Z (Nx w wr)) (λ_ i _=>n-(intOf i).toNat)
 case atStart=>exact⟨0,nZ,rfl,G4 w.heap.size w lR,Q4 _ _⟩
 obtain⟨k,hkn,rfl,HO,HN⟩:=hrel
 by_cases hlt:k<n
 ·obtain⟨b,off,rfl,hB,hb,hc⟩:=hk (by omega)
  have c0:=Q0 HN.o hb (hc k hlt)
  have hlt':(k:Int)<n:=by omega
  have HLK:Z ((tkI xs k).length=k):=Q7q (by rw[HZ.o];omega)
  have HES:Z (tkI xs (k+1)=tkI xs k++[iat xs k]):=Q3d (by rw[HZ.o];exact hlt)
  obtain⟨av,cv,hvs⟩:=HO.o.slice
  rw[HLK.o] at hvs
  subst hvs
  have HZ3:Z (w.heap.size<=wr.heap.size):=HN.o.size
  clear hc hk hk'
  generalize iat xs k=es at *
  go_wp2_with (at_builtin;refine wpList_append_own_at _ rfl _ _ 22 rfl w.heap.size 2 ii (iV 0) 1 8 underlying22 hi hz0 hz1 hz2 rfl (by decide) _ _ _ rfl (zB HO.o _) (aD wr.heap.size 0) 1 1 [iV es] rfl rfl (λj u hj=>Ql wr _ _ _ rfl j u hj) ?c2 ?c3 ?c4 ?c5 ?_)
  case c2=>intro u hu;simp at hu;subst hu;rfl
  case c3=>rw[HLK.o];unfold maxLen;omega
  case c4=>rw[HLK.o];omega
  case c5=>have:=HZ3.o;simp;omega
  intro v7 w7 hown hgrow _ _
  have HO7:Z (Qd w.heap.size w7 v7 (tkI xs (k+1))):=by rw[HES.o];exact Qd.snoc hown
  have HN7:Z (Nx w w7):=Below.grown (HN.o.alloc _) hgrow (by have:=HZ3.o;simp;omega) (λg hg=>(Q5 HO.o g hg).1)
  clear hown hgrow HO HN c0
  go_wp2
  go_roundw
  case rel=>exact⟨k+1,by omega,by go_num,HO7,HN7⟩
  case measure=>simp[intOf];omega
 have ek:n=k:=by omega
 subst ek
 have HO1:Z (Qd w.heap.size wr u5 (xs++tkI ys 0)):=by
  have:=HO.o
  rw[show tkI xs n=xs by rw[<-HZ.o];exact Q7r xs] at this
  unfold Z
  rw[show tkI ys 0=[] from rfl,List.append_nil]
  exact this
 clear HO hlt hkn hk
 go_wp2
 go_loopw [5,7] (λu i wr=>∃k:Nat,k<=n'/\i=iV k/\Z (Qd w.heap.size wr u (xs++tkI ys k))/\Z (Nx w wr)) (λ_ i _=>n'-(intOf i).toNat)
 case atStart=>exact⟨0,nZ,rfl,HO1,HN⟩
 clear HO1 HN
 obtain⟨k,hkn,rfl,HO,HN⟩:=hrel
 by_cases hlt:k<n'
 ·obtain⟨b,off,rfl,hB,hb,hc⟩:=hk' (by omega)
  have c0:=Q0 HN.o hb (hc k hlt)
  have hlt':(k:Int)<n':=by omega
  have HLK:Z ((xs++tkI ys k).length=n+k):=by unfold Z;rw[zA,HZ.o,Q7q (by rw[HZ'.o];omega)]
  have HES:Z (xs++tkI ys (k+1)=(xs++tkI ys k)++[iat ys k]):=by unfold Z;rw[Q3d (by rw[HZ'.o];exact hlt),yE]
  obtain⟨av,cv,hvs⟩:=HO.o.slice
  rw[HLK.o] at hvs
  subst hvs
  have HZ3:Z (w.heap.size<=wr.heap.size):=HN.o.size
  clear hc hk'
  generalize iat ys k=es at *
  go_wp2_with (at_builtin;refine wpList_append_own_at _ rfl _ _ 22 rfl w.heap.size 2 ii (iV 0) 1 8 underlying22 hi hz0 hz1 hz2 rfl (by decide) _ _ _ rfl (zB HO.o _) (aD wr.heap.size 0) 1 1 [iV es] rfl rfl (λj u hj=>Ql wr _ _ _ rfl j u hj) ?c2 ?c3 ?c4 ?c5 ?_)
  case c2=>intro u hu;simp at hu;subst hu;rfl
  case c3=>rw[HLK.o];unfold maxLen;omega
  case c4=>rw[HLK.o];omega
  case c5=>have:=HZ3.o;simp;omega
  intro v7 w7 hown hgrow _ _
  have HO7:Z (Qd w.heap.size w7 v7 (xs++tkI ys (k+1))):=by rw[HES.o];exact Qd.snoc (by rw[zA];exact hown)
  have HN7:Z (Nx w w7):=Below.grown (HN.o.alloc _) hgrow (by have:=HZ3.o;simp;omega) (λg hg=>(Q5 HO.o g hg).1)
  clear hown hgrow HO HN c0
  go_wp2
  go_roundw
  case rel=>exact⟨k+1,by omega,by go_num,HO7,HN7⟩
  case measure=>simp[intOf];omega
 have ek:n'=k:=by omega
 subst ek
 have HF:Z (Qd w.heap.size wr u5 (xs++ys)):=by
  have:=HO.o
  rw[show tkI ys n'=ys by rw[<-HZ'.o];exact Q7r ys] at this
  exact this
 clear HO hlt hkn hk'
 go_wp2
 go_ret
 exact⟨⟨_,rfl,HF.o⟩,HN.o⟩
def Vw (v:Value):Prop:=∃a n c,v=sL a n c/\n<=c
theorem Qd.capOk {B:Nat}{w:World}{v:Value}{zs:List Int}(h:Qd B w v zs):Vw v:=by
 rcases h.2 with⟨rfl,_⟩|⟨g,cap,cur,rfl,_,_,hc,_⟩
 ·exact⟨_,_,_,rfl,lR⟩
 ·exact⟨_,_,_,rfl,hc⟩
def wd (ws:List (List Int))(i:Nat):List Int:=ws.getD i []
def J7 (B:Nat)(w:World)(v:Value)(ws:List (List Int)):Prop:=
 Ji B w v ws.length λb off i=>∃vi,w.cell? (aD b (off+i))=some vi/\Q8 B w vi (wd ws i)/\Vw vi
theorem J7.keep {B:Nat}{w w':World}{v:Value}{ws:List (List Int)}(h:J7 B w v ws)(k:Xh B w w'):J7 B w' v ws:=
 Ji.mono h lR k.1 λb off hb hs i hi hc=>by
  obtain⟨vi,h1,h2,h3⟩:=hc
  exact⟨vi,(k.2 b hb hs _).trans h1,h2.keep k,h3⟩
theorem J7.next {B:Nat}{w w':World}{v:Value}{ws:List (List Int)}(h:J7 B w v ws)(k:Nx w w'):J7 B w' v ws:=h.keep (k.keeps B)
theorem Uy {ws:List (List Int)}{x:List Int}{i:Nat}(h:i<ws.length):wd (ws++[x]) i=wd ws i:=by
 simp[wd,List.getD,List.getElem?_append_left h]
theorem Fy {ws:List (List Int)}{x:List Int}{i:Nat}(h:i=ws.length):wd (ws++[x]) i=x:=by
 subst h
 simp[wd,List.getD]
theorem P1:(prog.info? 119).map (λi=>(i.zero,i.size,i.bytes))=some (some (.agg #[sN]),1,24):=by kernel_rfl
def vat (cs:List Value)(i:Nat):Value:=cs.getD i (.bool false)
def J9 (C:Nat)(w:World)(v:Value)(ws:List (List Int)):Prop:=
 ∃cs:List Value,w.ownsRow C 119 1 v ws.length cs/\∀i,i<ws.length->Qd C w (vat cs i) (wd ws i)
theorem Xr {w:World}{B B' e e' size size' n n':Nat}{v v':Value}{xs xs':List Value}(h:w.ownsRow B e size v n xs)(h':w.ownsRow B' e' size' v' n' xs')(hne:e≠e'):v.ownBlock=none\/v.ownBlock≠v'.ownBlock:=by
 rcases h.2 with⟨rfl,_⟩|⟨g,cap,cur,rfl,_,hh,_⟩
 ·exact oL rfl
 ·rcases h'.2 with⟨rfl,_⟩|⟨g',cap',cur',rfl,_,hh',_⟩
  ·exact oR (by simp[Value.ownBlock])
  ·refine oR λe1=>?_
   simp[Value.ownBlock] at e1
   subst e1
   rw[hh] at hh'
   simp at hh'
   exact hne hh'.2
theorem J9.next {C:Nat}{w w':World}{v:Value}{ws:List (List Int)}(h:J9 C w v ws)(k:Nx w w'):J9 C w' v ws:=by
 obtain⟨cs,h1,h2⟩:=h
 refine⟨cs,?_,λi hi=>(h2 i hi).next k⟩
 obtain⟨h3,h4⟩:=h1
 refine⟨h3,?_⟩
 rcases h4 with h4|⟨g,cap,cur,hv,hg,hh,r⟩
 ·exact oL h4
 ·exact oR ⟨g,cap,cur,hv,hg,(k.block g (Array.getElem?_eq_some_iff.1 hh).1).trans hh,r⟩
theorem J9.slice {C:Nat}{w:World}{v:Value}{ws:List (List Int)}(h:J9 C w v ws):∃a c,v=sL a ws.length c:=by
 obtain⟨cs,h1,_⟩:=h
 rcases h1.2 with⟨rfl,h2⟩|⟨g,cap,cur,rfl,_⟩
 ·exact⟨none,0,by rw[h2]⟩
 ·exact⟨_,_,rfl⟩
theorem J9.held {C:Nat}{w:World}{v:Value}{ws:List (List Int)}(h:J9 C w v ws):J7 C w v ws:=by
 obtain⟨cs,h1,h2⟩:=h
 obtain⟨h3,h4⟩:=h1
 rw[Nat.mul_one] at h3
 rcases h4 with⟨rfl,h4⟩|⟨g,cap,cur,rfl,hg,hh,hc,hm,hs,ht⟩
 ·unfold J7
  rw[h4]
  exact⟨_,_,rfl,by simp[maxLen],λh=>by omega⟩
 ·refine⟨_,_,rfl,by omega,λh0=>⟨g,0,rfl,hg,(Array.getElem?_eq_some_iff.1 hh).1,λi hi=>⟨vat cs i,?_,(h2 i hi).held,(h2 i hi).capOk⟩⟩⟩
  have e:(cur.toList.take (ws.length*1))[i]?=cs[i]?:=by rw[ht]
  rw[zT (by omega),zQ] at e
  show w.cell? (aD g (0+i))=_
  rw[Nat.zero_add]
  simp[World.cell?,hh,e,vat,List.getD,show i<cs.length by omega]
theorem J9.lt {C:Nat}{w:World}{v:Value}{ws:List (List Int)}(h:J9 C w v ws):∀g,v.ownBlock=some g->C<=g:=by
 obtain⟨cs,h1,_⟩:=h
 exact λg hg=>(Q5 h1 g hg).1
theorem Iz (B:Nat)(w:World)(h:B<=w.heap.size):J9 B (w.alloc (.cells #[] 119)) (sL (sA w.heap.size) 0 0) []:=
 ⟨[],⟨rfl,.inr ⟨w.heap.size,0,#[],rfl,h,by show(w.heap.push _)[w.heap.size]?=_;simp,lR,by simp[maxLen],by simp,by simp⟩⟩,λi hi=>absurd hi (zM _)⟩
theorem J9.snoc {C:Nat}{w w':World}{v v' u:Value}{ws:List (List Int)}{x:List Int}{cs:List Value}(h1:w.ownsRow C 119 1 v ws.length cs)(h2:∀i,i<ws.length->Qd C w (vat cs i) (wd ws i))
  (hu:Qd C w u x) (ho:Obj) (hg:(w.alloc ho).grownBy w' v.ownBlock) (hn:w'.ownsRow C 119 1 v' (ws.length+1) (cs++[u])):J9 C w' v' (ws++[x]):=by
 have hl:cs.length=ws.length:=by have:=h1.1;omega
 have hne:(2:Nat)≠3:=by decide
 have kept:∀{z:Value}{zs:List Int},Qd C w z zs->Qd C w' z zs:=λ{z zs} hz=>zN (zB hz ho) hg (Xr hz h1 (by decide))
 refine⟨cs++[u],by rw[zA];exact hn,λi hi=>?_⟩
 rw[zA,List.length_singleton] at hi
 by_cases e:i<ws.length
 ·rw[Uy e]
  have:vat (cs++[u]) i=vat cs i:=by simp[vat,List.getD,List.getElem?_append_left (show i<cs.length by omega)]
  rw[this]
  exact kept (h2 i e)
 ·have e':i=ws.length:=by omega
  rw[Fy e']
  have:vat (cs++[u]) i=u:=by rw[e',<-hl];simp[vat,List.getD]
  rw[this]
  exact kept hu
end Go.Proofs.YtahpodmokbdjeaaGreatDoor
