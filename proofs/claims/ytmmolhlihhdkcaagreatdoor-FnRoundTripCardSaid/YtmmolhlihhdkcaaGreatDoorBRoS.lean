import Derived.Test.YtmmolhlihhdkcaaGreatDoorBRoR
namespace Go
set_option maxHeartbeats 16000000
theorem Kw {P:Program}{ops:Array Oper}{o:Oper}{a:Act}{w:World}{K:Act->World->Prop}{Q:Exit->Act->World->Prop}{E:Prop}
  (hg:o.guard=none) (s x:Operand) (t:TypeId) (hop:o.op=Op.call { callee:=Callee.builtin Builtin.append,args:=#[s,x],argTypes:=#[t,t] })
  (e:TypeId) (i:TypeInfo) (z:Value) (size bytes:Nat) (h1:P.underlying t=some (.slice e)) (h2:P.info? e=some i) (h3:i.zero=some z) (h4:i.size=size) (h5:i.bytes=bytes) (h6:z.cells.size=size) (h7:0<size)
  (B:Nat) (v:Value) (n:Nat) (olds:List Value) (hs:a.eval s=v) (hown:w.ownsRow B e size v n olds)
  (ad:Addr) (m c:Nat) (news:List Value) (hx:a.eval x=.slice (some ad) m c) (hn:news.length=m*size) (hc:∀j u,news[j]?=some u->w.cell? (ad.add j)=some u) (h1c:∀u∈news,u.oneCell'=true)
  (b1:n+m<=maxLen) (b2:(n+m)*bytes<=140737488355328) (hB:B<=w.heap.size)
  (hK:∀v' w',w'.ownsRow B e size v' (n+m) (olds++news)->w.grownBy w' v.ownBlock->K (a.put o.dst v') w') :
  if Region.wanted o (yielded ops a.tmps)=true then Oper.wp P o a w K Q else E:=by
 have hw:Region.wanted o (yielded ops a.tmps)=true:=by simp[Region.wanted,hg]
 rw[if_pos hw]
 obtain⟨v',w',hrun,r1,r2,_⟩:=run_append_own (P:=P) w B t o.type e i z size bytes h1 h2 h3 h4 h5 h6 h7 v n olds hown ad m c news hn hc h1c b1 b2 hB
 unfold Oper.wp
 simp[execOp,hop,resolve,invoke,builtin,hs,hx,hrun,Result.andThen]
 exact hK v' w' r1 r2
end Go
namespace Go.Proofs.YtmmolhlihhdkcaaGreatDoor
set_option maxHeartbeats 16000000
open Go.RowKit
set_option linter.unusedVariables false
set_option maxRecDepth 100000
def tkN (zs:List Int)(k:Nat):List Int:=zs.take k
theorem Q8b {zs:List Int}{k:Nat}(h:k<zs.length):tkN zs (k+1)=tkN zs k++[iat zs k]:=by
 unfold tkN
 rw[List.take_succ_eq_append_getElem h,V7 h]
theorem Qb9 {zs:List Int}{k:Nat}(h:k<=zs.length):(tkN zs k).length=k:=by simp[tkN,h]
theorem Qba (zs:List Int):tkN zs zs.length=zs:=by simp[tkN]
def W4 (x:Eg)(j:Nat):Value:=((Vl x)[j]?).getD (.bool false)
def twX (E:List Eg)(m e f i:Nat):Eg:=if i<e then Wj (eat E i) (Kt E i m) else if i=e then Wj (eat E i) (Kt E i f) else eat E i
def RX (w:World)(g n:Nat)(X:Nat->Eg):Prop:=RE w g n (λi j=>W4 (X i) j)
theorem RX.tw {w:World}{g n:Nat}{E:List Eg}{m e f:Nat}(h:RX w g n (twX E m e f))(he:e<n)(hm:mt (eat E e) (eat E f)=true):RX (w.setCell ⟨g,e*7+6,none⟩ (.int .i64 (f:Int))) g n (twX E m e (f+1)):=by
 refine RE.congr (RE.set h he (j:=6) (by omega) _) λi j _ hj=>?_
 by_cases c:i=e/\j=6
 ·obtain⟨rfl,rfl⟩:=c
  rw[if_pos ⟨rfl,rfl⟩]
  simp[twX,Kt,hm,W4,Vl,Wj]
 ·rw[if_neg c]
  by_cases ei:i=e
  ·subst ei
   have hj6:j≠6:=λh=>c ⟨rfl,h⟩
   rcases (show j=0\/j=1\/j=2\/j=3\/j=4\/j=5 by omega) with rfl|rfl|rfl|rfl|rfl|rfl<;>simp[twX,W4,Vl,Wj]
  ·simp[twX,ei]
theorem RX.no {w:World}{g n:Nat}{E:List Eg}{m e f:Nat}(h:RX w g n (twX E m e f))(hm:mt (eat E e) (eat E f)=false):RX w g n (twX E m e (f+1)):=
 RE.congr h λi j _ hj=>by
  by_cases ei:i=e
  ·subst ei
   simp[twX,Kt,hm]
  ·simp[twX,ei]
theorem RX.up {w:World}{g n:Nat}{E:List Eg}{m e:Nat}(h:RX w g n (twX E m e m))(h0:∀i,i<n->(eat E i).twin=-1):RX w g n (twX E m (e+1) 0):=
 RE.congr h λi j hi hj=>by
  have h1:=h0 i hi
  by_cases e1:i<e
  ·simp[twX,e1,show i<e+1 by omega]
  ·by_cases e2:i=e
   ·subst e2;simp[twX]
   ·by_cases e3:i=e+1
    ·subst e3
     have:Wj (eat E (e+1)) (-1)=eat E (e+1):=by unfold Wj;rw[<-h1]
     simp[twX,Kt,this,e1]
    ·simp[twX,e1,e2,e3,show ¬i<e+1 by omega]
theorem Ve.nx {o:Option Nat}{a w w':World}(h:Ve o a w)(k:Nx w w'):Ve o a w':=
 ⟨k.os.trans h.os,k.tape.trans h.tape,k.output.trans h.output,Nat.le_trans h.size k.size,λb hb hn=>(k.block b (Nat.lt_of_lt_of_le hb h.size)).trans (h.block b hb hn)⟩
theorem RE.next {w w':World}{g n:Nat}{V:Nat->Nat->Value}(h:RE w g n V)(k:Nx w w'):RE w' g n V:=by
 obtain⟨c,hb,r⟩:=h
 exact⟨c,(k.block g (Array.getElem?_eq_some_iff.1 hb).1).trans hb,r⟩
theorem RE.only {W w:World}{g n b:Nat}{V:Nat->Nat->Value}(h:RE W g n V)(k:Ve (some b) W w)(hb:b<g):RE w g n V:=by
 obtain⟨c,hg,r⟩:=h
 exact⟨c,(k.block g (Array.getElem?_eq_some_iff.1 hg).1 (λe=>by have:=Option.some.inj e;omega)).trans hg,r⟩
theorem RE.setOther {w:World}{g n:Nat}{V:Nat->Nat->Value}(h:RE w g n V){a:Addr}(ha:g≠a.block)(v:Value):RE (w.setCell a v) g n V:=by
 obtain⟨c,hg,r⟩:=h
 exact⟨c,(Below.heap_setCell _ _ _ _ ha).trans hg,r⟩
theorem Qa9 {B:Nat}{w:World}{a:Option Addr}{n c:Nat}{es:List Eg}(hl:es.length=n)(hm:n<=maxLen)(h:0<n->∃g,a=some ⟨g,0,none⟩/\B<=g/\RX w g n (λi=>eat es i)):Y1 B w (.slice a n c) es:=by
 subst hl
 refine⟨_,_,rfl,hm,λh0=>?_⟩
 obtain⟨g,e,hB,hr⟩:=h h0
 have hlt:g<w.heap.size:=by
  obtain⟨cc,hb,_⟩:=hr
  exact(Array.getElem?_eq_some_iff.1 hb).1
 refine⟨g,0,e,hB,hlt,λi hi=>?_⟩
 have q:=λj hj=>RE.cell hr hi (j:=j) hj
 show It w g (0+i*7) (eat es i)
 rw[Nat.zero_add]
 exact⟨q 0 (by omega),q 1 (by omega),q 2 (by omega),q 3 (by omega),q 4 (by omega),q 5 (by omega),q 6 (by omega)⟩
theorem Qcq {N:Nt}{i:Nat}(h:i<mN N):(eat (E0 N) i).twin=-1:=by
 obtain⟨a,b,q,ha,hb,hq,he⟩:=Ib N.ways.length h
 rw[he,(Ye ha hb hq).1]
 split<;>rfl
theorem Qb7 (E:List Eg)(m e f i:Nat):W4 (twX E m e f i) 3=.int .i64 (eat E i).way:=by unfold twX;split<;>(try split)<;>rfl
theorem Qb8 (E:List Eg)(m e f i:Nat):W4 (twX E m e f i) 4=.int .i64 (eat E i).seg:=by unfold twX;split<;>(try split)<;>rfl
theorem Q87 (E:List Eg)(m e f i:Nat):W4 (twX E m e f i) 5=.bool (eat E i).back:=by unfold twX;split<;>(try split)<;>rfl
theorem Gt (N:Nt):Qz N=Qn N:=(Gu N).symm
theorem Q05 (B0:Nat)(v0 v1 v2 v3:Value)(N:Nt)(w:World)(h0:Yf B0 w v0 v1 v2 v3 N)(hs:wsum N.ways N.ways.length<=1048576) :
  Calls Tryz.prog 65 #[.agg #[v0,v1,v2,v3,.int .i64 N.uturn]] w λe w'=>(∃r0 r1 r2 r3,e=.returned (.agg #[r0,r1,r2,r3])/\Y8 w.heap.size w' r0 r1 r2 r3 (Vb N))/\Nx w w':=by
 obtain⟨ii,hi,hz0,hz1,hz2⟩:=info_parts Zt
 have HS:Hid (wsum N.ways N.ways.length<=1048576):=hs
 have HI:Hid (Yf B0 w v0 v1 v2 v3 N):=h0
 obtain⟨a0,c0,e0,hn0,hk0⟩:=h0.1
 subst e0
 clear hs h0
 go_enter Tryz.func65,Tryz.ntmps65
 go_wp2_with fail
 refine(Tv B0 _ _ _ _ N _ (by exact HI.out.next (G0 _ _ _)) HS.out).mono ?_
 rintro e w1 ⟨rfl,hx⟩
 rw[<-Gu]
 have BA:Blk w1 w.heap.size #[.slice a0 N.nodes.length c0,v1,v2,v3,.int .i64 N.uturn]:=((Blk.new w _ 28 _ rfl).alloc _).next hx
 have BR:Blk w1 (w.heap.size+1) #[.slice none 0 0,.slice none 0 0,.slice none 0 0,.slice none 0 0]:=(Blk.new _ _ 113 _ (by simp)).next hx
 have HX1:Hid (Nx w w1):=(G0 _ _ _).trans hx
 clear hx
 have rz0:=BR.cell (i:=0) rfl
 have rz1:=BR.cell (i:=1) rfl
 have rz2:=BR.cell (i:=2) rfl
 have rz3:=BR.cell (i:=3) rfl
 have rf0:=BR.frozen 0
 have rf1:=BR.frozen 1
 have rf2:=BR.frozen 2
 have rf3:=BR.frozen 3
 cases hv:Qn N
 case false=>
  go_wp2
  have BR':=(((BR.set 0 (.slice none 0 0)).set 1 (.slice none 0 0)).set 2 (.slice none 0 0)).set 3 (.slice none 0 0)
  have q0:=BR'.cell (i:=0) rfl
  have q1:=BR'.cell (i:=1) rfl
  have q2:=BR'.cell (i:=2) rfl
  have q3:=BR'.cell (i:=3) rfl
  refine bodyPost_ret (v:=.agg #[.slice none 0 0,.slice none 0 0,.slice none 0 0,.slice none 0 0]) (by simp[results,Tryz.results65,go_sem,q0,q1,q2,q3]) rfl ⟨⟨_,_,_,_,rfl,Kq.held (Or.inl ⟨rfl,rfl,rfl,rfl,by simp[Vb,hv]⟩)⟩,?_⟩
  exact Below.setCell (Below.setCell (Below.setCell (Below.setCell HX1.out (by simp) _) (by simp) _) (by simp) _) (by simp) _
 have HV:Hid (Qn N=true):=hv
 have HR:Hid (U5 N):=Gc hv
 clear rz0 rz1 rz2 rz3 rf0 rf1 rf2 rf3
 have hnl:N.nodes.length<=2000:=HR.out.c0
 generalize hm0:N.nodes.length=m0 at *
 have HM0:Hid (N.nodes.length=m0):=hm0
 clear hm0
 have k0:=BA.cell (i:=0) rfl
 have hzA:=BA.lt
 go_wp2
 go_loopw [4] (λi wr=>∃k:Nat,k<=m0/\i=.int .i64 k/\Hid (∃v,Blk wr w1.heap.size #[v,.slice none 0 0,.slice none 0 0,.slice none 0 0]/\Qb (w1.heap.size+1) wr v (tkN N.nodes k))/\Hid (Nx w1 wr)) (λi _=>m0-(intOf i).toNat)
 case atStart=>exact⟨0,Nat.zero_le _,rfl,⟨.slice none 0 0,Blk.new _ _ _ _ rfl,⟨rfl,Or.inl ⟨rfl,rfl⟩⟩⟩,Qd _ _⟩
 obtain⟨k,hkn,rfl,HO,HN⟩:=hrel
 clear k0
 by_cases hlt:k<m0
 ·obtain⟨b,off,rfl,hB,hb,hc⟩:=hk0 (by omega)
  have c1':=Q1 (HX1.out.trans HN.out) hb (hc k hlt)
  obtain⟨v,BRr,ho⟩:=HO.out
  have hlt':(k:Int)<m0:=by omega
  have BAr:=BA.next HN.out
  have n0:=BAr.cell (i:=0) rfl
  have hsA:=BAr.lt
  have g0:=BRr.cell (i:=0) rfl
  have g1:=BRr.frozen 0
  have hsR:=BRr.lt
  have hlk:(tkN N.nodes k).length=k:=Qb9 (by rw[HM0.out];omega)
  have HLK:Hid ((tkN N.nodes k).length=k):=hlk
  obtain⟨av,cv,hvs⟩:=ho.slice
  rw[hlk] at hvs
  subst hvs
  have HO1:Hid (Qb (w1.heap.size+1) wr (.slice av k cv) (tkN N.nodes k)):=ho
  have HBR:Hid (Blk wr w1.heap.size #[.slice av k cv,.slice none 0 0,.slice none 0 0,.slice none 0 0]):=BRr
  have hob:some w1.heap.size≠(Value.slice av k cv).ownBlock:=λe=>by have:=(Ql ho _ e.symm).1;omega
  have HOB:Hid (some w1.heap.size≠(Value.slice av k cv).ownBlock):=hob
  clear hc hk0 ho BRr hob hlk HO BAr
  have HTS:Hid (tkN N.nodes (k+1)=tkN N.nodes k++[iat N.nodes k]):=Q8b (by rw[HM0.out];exact hlt)
  go_wp2
  go_region_law (refine Kw rfl (.tmp 22) (.tmp 28) 23 rfl 2 ii (.int .i64 0) 1 8 Tryz.underlying23 hi hz0 hz1 hz2 rfl (by decide) (w1.heap.size+1) (.slice av k cv) (tkN N.nodes k).length (Qx (tkN N.nodes k)) (by simp[Act.eval]) (World.ownsRow.alloc (show wr.drew.ownsRow _ _ _ _ _ _ from HO1.out) _) ⟨wr.heap.size,0,none⟩ 1 1 [.int .i64 (iat N.nodes k)] (by simp[Act.eval]) rfl (λj u hj=>Xk wr.drew _ _ _ rfl j u hj) (by intro u hu;simp at hu;subst hu;rfl) (by rw[HLK.out];unfold maxLen;omega) (by rw[HLK.out];omega) (by simp;omega) ?_;intro v' w' hown hgrow;have HV:Qb (w1.heap.size+1) w' v' (tkN N.nodes (k+1)):=(by rw[HTS.out];exact Qb.snoc hown);have BR7:=Blk.grown (Blk.alloc (Blk.drew HBR.out) _) hgrow HOB.out;have h0':=BR7.cell (i:=0) rfl;have h1':=BR7.frozen 0;obtain⟨a7,c7,hv7⟩:=HV.slice;subst hv7)
  all_goals go_wp2
  all_goals exact⟨⟨k+1,by omega,by go_num,⟨_,(by exact BR7.set 0 _),J6 HV (Nat.lt_succ_self _) 0 _⟩,Below.setCell (Below.grown ((Nx.drew HN.out).alloc _) hgrow (by simp;omega) (λg hg=>by have:=(Ql HO1.out g hg).1;omega)) (Nat.le_refl _) _⟩,by simp[intOf];omega⟩
 have ek:m0=k:=by omega
 subst ek
 obtain⟨v,BRr,ho⟩:=HO.out
 rw[show tkN N.nodes m0=N.nodes by rw[<-HM0.out];exact Qba _] at ho
 have BAr:=BA.next HN.out
 have k0:=BAr.cell (i:=0) rfl
 have k1:=BAr.cell (i:=1) rfl
 have k2:=BAr.cell (i:=2) rfl
 have k3:=BAr.cell (i:=3) rfl
 have k4:=BAr.cell (i:=4) rfl
 have HXr:Hid (Nx w wr):=HX1.out.trans HN.out
 obtain⟨av,cv,hvs⟩:=ho.slice
 rw[HM0.out] at hvs
 subst hvs
 have HON:Hid (Qb (w1.heap.size+1) wr (.slice av m0 cv) N.nodes):=ho
 have HNB:Hid (∀g,(Value.slice av m0 cv).ownBlock=some g->g<wr.heap.size):=λg hg=>(Ql ho g hg).2
 have HBR:Hid (Blk wr w1.heap.size #[.slice av m0 cv,.slice none 0 0,.slice none 0 0,.slice none 0 0]):=BRr
 clear ho BRr HO hk0 hkn hlt
 go_wp2_with fail
 refine(Q23 B0 _ _ _ _ N _ (by exact HI.out.next HXr.out) HV.out).mono ?_
 rintro e w2 ⟨⟨ve,rfl,he⟩,hx⟩
 have HE:Hid (Vx wr.heap.size w2 ve (E0 N)):=he
 have BA2:=BAr.next hx
 have BR2:=HBR.out.next hx
 have HNr2:Hid (Nx w1 w2):=HN.out.trans hx
 have HON2:Hid (Qb (w1.heap.size+1) w2 (.slice av m0 cv) N.nodes):=HON.out.next hx
 have HZr:Hid (w1.heap.size<wr.heap.size):=HBR.out.lt
 obtain⟨ae,ce,hve,_⟩:=he.slice
 subst hve
 generalize hml:(E0 N).length=m at *
 have HMM:Hid (mN N=m):=by unfold Hid;rw[<-Qb0];exact hml
 clear hml
 clear he hx BAr HBR HON k0 k1 k2 k3 k4
 have g1:=BR2.cell (i:=1) rfl
 have g2:=BR2.frozen 1
 have hsR:=BR2.lt
 have HBR':Hid (Blk (w2.setCell ⟨w1.heap.size,1,none⟩ (.slice ae m ce)) w1.heap.size #[.slice av m0 cv,.slice ae m ce,.slice none 0 0,.slice none 0 0]):=BR2.set 1 _
 have HE':Hid (Vx wr.heap.size (w2.setCell ⟨w1.heap.size,1,none⟩ (.slice ae m ce)) (.slice ae m ce) (E0 N)):=J6 HE.out HZr.out 1 _
 have HON':Hid (Qb (w1.heap.size+1) (w2.setCell ⟨w1.heap.size,1,none⟩ (.slice ae m ce)) (.slice av m0 cv) N.nodes):=J6 HON2.out (Nat.lt_succ_self _) 1 _
 have HN2:Hid (Nx w1 (w2.setCell ⟨w1.heap.size,1,none⟩ (.slice ae m ce))):=Below.setCell HNr2.out (Nat.le_refl _) _
 clear BR2 HE HON2 HNr2 BA2
 go_wp2
 have hm4:m<=4000:=by rw[<-HMM.out];unfold mN;rw[Q8j];exact HR.out.ed
 have HT0:Hid (∀i,i<m->(eat (E0 N) i).twin=-1):=λi hi=>Qcq (by rw[HMM.out];exact hi)
 have HOB:Hid (∀g,(Value.slice ae (m) ce).ownBlock=some g->wr.heap.size<=g):=λg hg=>(Ql HE'.out g hg).1
 have HSE:Hid (0<m->∃g,ae=some ⟨g,0,none⟩/\RX (w2.setCell ⟨w1.heap.size,1,none⟩ (.slice ae (m) ce)) g (m) (twX (E0 N) (m) 0 0)):=λh0=>by
  have hse:=HE'.out.se
  rw[Qb0,HMM.out] at hse
  obtain⟨a',c',e',hk⟩:=hse
  simp only[Value.slice.injEq,true_and] at e'
  obtain⟨rfl,rfl⟩:=e'
  obtain⟨g,e1,hr⟩:=hk h0
  refine⟨g,e1,RE.congr hr λi j hi hj=>?_⟩
  have h1:=HT0.out i hi
  show W4 (eat (E0 N) i) j=W4 (twX (E0 N) (m) 0 0 i) j
  by_cases e2:i=0
  ·subst e2
   have:Wj (eat (E0 N) 0) (-1)=eat (E0 N) 0:=by unfold Wj;rw[<-h1]
   simp[twX,Kt,this]
  ·simp[twX,e2]
 generalize hEN:E0 N=EN at *
 have HEN:Hid (E0 N=EN):=hEN
 clear hEN
 generalize hWW:w2.setCell ⟨w1.heap.size,1,none⟩ (.slice ae m ce)=W2 at *
 clear hWW
 have hRB:∀X,Ve (Value.slice ae m ce).ownBlock W2 X->Blk X w1.heap.size #[.slice av m0 cv,.slice ae m ce,.slice none 0 0,.slice none 0 0]:=λX hX=>by
  have hl:=HBR'.out.lt
  obtain⟨t,hb⟩:=HBR'.out
  exact⟨t,(hX.block _ hl (λe=>by have:=HOB.out _ e.symm;have:=HZr.out;omega)).trans hb⟩
 have HRB:Hid (∀X,Ve (Value.slice ae m ce).ownBlock W2 X->Blk X w1.heap.size #[.slice av m0 cv,.slice ae m ce,.slice none 0 0,.slice none 0 0]):=hRB
 clear hRB g1 g2 hsR hzA
 go_loopw [5,6] (λi p6 wq=>∃e:Nat,e<=m/\i=.int .i64 e/\Hid (0<m->∃g,ae=some ⟨g,0,none⟩/\RX wq g m (twX EN m e 0))/\Hid (Ve (Value.slice ae m ce).ownBlock W2 wq)) (λi _ _=>m-(intOf i).toNat)
 case atStart=>exact⟨0,Nat.zero_le _,rfl,HSE,Ve.refl _ _⟩
 clear HSE
 obtain⟨e,hem,rfl,HX,HO⟩:=hrel
 have kb:=(HRB.out _ HO.out).cell (i:=1) rfl
 by_cases hel:e<m
 ·have hel':(e:Int)<m:=by omega
  go_wp2
  clear kb
  go_loopw [6] (λi wq=>∃f:Nat,f<=m/\i=.int .i64 f/\Hid (0<m->∃g,ae=some ⟨g,0,none⟩/\RX wq g m (twX EN m e f))/\Hid (Ve (Value.slice ae m ce).ownBlock W2 wq)) (λi _=>m-(intOf i).toNat)
  case atStart=>exact⟨0,Nat.zero_le _,rfl,HX,HO⟩
  clear HX HO
  obtain⟨f,hfm,rfl,HX,HO⟩:=hrel
  have kb:=(HRB.out _ HO.out).cell (i:=1) rfl
  by_cases hfl:f<m
  ·have hfl':(f:Int)<m:=by omega
   obtain⟨g,hag,hr⟩:=HX.out (by omega)
   subst hag
   have a3:=RE.cell hr hel (j:=3) (by omega)
   have a4:=RE.cell hr hel (j:=4) (by omega)
   have a5:=RE.cell hr hel (j:=5) (by omega)
   have b3:=RE.cell hr hfl (j:=3) (by omega)
   have b4:=RE.cell hr hfl (j:=4) (by omega)
   have b5:=RE.cell hr hfl (j:=5) (by omega)
   have a6:=RE.cell hr hel (j:=6) (by omega)
   have z6:=RE.frozen hr (e*7+6)
   simp only[Qb7,Qb8,Q87] at a3 a4 a5 b3 b4 b5
   have HXr':Hid (RX wr g m (twX EN m e f)):=hr
   have HMT:Hid (mt (eat EN e) (eat EN f)=(decide ((eat EN e).way=(eat EN f).way)&&(decide ((eat EN e).seg=(eat EN f).seg)&&((eat EN e).back !=(eat EN f).back)))):=rfl
   clear hr HX
   have EB:=cell_regrown kb
   have A3:=cell_regrown a3
   have A4:=cell_regrown a4
   have A5:=cell_regrown a5
   have B3:=cell_regrown b3
   have B4:=cell_regrown b4
   have B5:=cell_regrown b5
   generalize (eat EN e).way=we at *
   generalize (eat EN f).way=wf at *
   generalize (eat EN e).seg=se at *
   generalize (eat EN f).seg=sf at *
   generalize (eat EN e).back=be at *
   generalize (eat EN f).back=bf at *
   by_cases h1:we=wf
   ·have hd1:(we==wf)=true:=by simpa using h1
    by_cases h2:se=sf
    ·have hd2:(se==sf)=true:=by simpa using h2
     by_cases h3:be=bf
     ·have HF:Hid (mt (eat EN e) (eat EN f)=false):=by unfold Hid;rw[HMT.out];simp[h3]
      subst h3
      have hd3:(be !=be)=false:=by simp
      clear h1 h2
      go_wp2
      refine wp_region_quiet_below (by kernel_rfl) (by kernel_rfl) ?_
      repeat (go_big_quiet_step (fail))
      refine wpQuiet_nil ?_
      intro _ hw'
      obtain⟨⟨dq,osq⟩,hw''⟩:=hw'
      subst hw''
      have HNq:Hid (Nx wr (Sort.grow (redrawn wr dq) osq)):=below_regrown _ dq osq
      clear EB A3 A4 A5 B3 B4 B5
      generalize hwq:Sort.grow (redrawn wr dq) osq=wq at *
      clear hwq
      have HO':Hid (Ve (Value.slice (some ⟨g,0,none⟩) m ce).ownBlock W2 wq):=HO.out.nx HNq.out
      have HXq:Hid (RX wq g m (twX EN m e f)):=RE.next HXr'.out HNq.out
      have HX':Hid (0<m->∃g',(some ⟨g,0,none⟩:Option Addr)=some ⟨g',0,none⟩/\RX wq g' m (twX EN m e (f+1))):=λ_=>⟨g,rfl,RX.no HXq.out HF.out⟩
      clear kb a3 a4 a5 a6 b3 b4 b5 z6
      go_wp2
      go_roundw
      case rel=>exact⟨f+1,by omega,by go_num,HX',HO'⟩
      case measure=>simp[intOf];omega
     ·have HF:Hid (mt (eat EN e) (eat EN f)=true):=by unfold Hid;rw[HMT.out];simp[h1,h2,h3]
      have h4:bf=!be:=by cases be<;>cases bf<;>simp_all
      subst h4
      have hd3:(be !=!be)=true:=by simp
      clear h1 h2 h3
      go_wp2
      refine wp_region_quiet_below (by kernel_rfl) (by kernel_rfl) ?_
      repeat (go_big_quiet_step (fail))
      refine wpQuiet_nil ?_
      intro _ hw'
      obtain⟨⟨dq,osq⟩,hw''⟩:=hw'
      subst hw''
      have HNq:Hid (Nx wr (Sort.grow (redrawn wr dq) osq)):=below_regrown _ dq osq
      clear EB A3 A4 A5 B3 B4 B5
      generalize hwq:Sort.grow (redrawn wr dq) osq=wq at *
      clear hwq
      have HO':Hid (Ve (Value.slice (some ⟨g,0,none⟩) m ce).ownBlock W2 wq):=HO.out.nx HNq.out
      have HXq:Hid (RX wq g m (twX EN m e f)):=RE.next HXr'.out HNq.out
      have HX':Hid (0<m->∃g',(some ⟨g,0,none⟩:Option Addr)=some ⟨g',0,none⟩/\RX (wq.setCell ⟨g,e*7+6,none⟩ (.int .i64 (f:Int))) g' m (twX EN m e (f+1))):=λ_=>⟨g,rfl,RX.tw HXq.out hel HF.out⟩
      have HO'':Hid (Ve (Value.slice (some ⟨g,0,none⟩) m ce).ownBlock W2 (wq.setCell ⟨g,e*7+6,none⟩ (.int .i64 (f:Int)))):=HO'.out.set rfl _
      clear kb a3 a4 a5 a6 b3 b4 b5 z6
      have kb:=(HRB.out _ HO'.out).cell (i:=1) rfl
      have a6:=RE.cell HXq.out hel (j:=6) (by omega)
      have z6:=RE.frozen HXq.out (e*7+6)
      go_wp2
      go_roundw
      case rel=>exact⟨f+1,by omega,by go_num,HX',HO''⟩
      case measure=>simp[intOf];omega
    ·have hd2:(se==sf)=false:=by simpa using h2
     have HF:Hid (mt (eat EN e) (eat EN f)=false):=by unfold Hid;rw[HMT.out];simp[h2]
     clear h1 h2
     go_wp2
     refine wp_region_quiet_below (by kernel_rfl) (by kernel_rfl) ?_
     repeat (go_big_quiet_step (fail))
     refine wpQuiet_nil ?_
     intro _ hw'
     obtain⟨⟨dq,osq⟩,hw''⟩:=hw'
     subst hw''
     have HNq:Hid (Nx wr (Sort.grow (redrawn wr dq) osq)):=below_regrown _ dq osq
     clear EB A3 A4 A5 B3 B4 B5
     generalize hwq:Sort.grow (redrawn wr dq) osq=wq at *
     clear hwq
     have HO':Hid (Ve (Value.slice (some ⟨g,0,none⟩) m ce).ownBlock W2 wq):=HO.out.nx HNq.out
     have HXq:Hid (RX wq g m (twX EN m e f)):=RE.next HXr'.out HNq.out
     have HX':Hid (0<m->∃g',(some ⟨g,0,none⟩:Option Addr)=some ⟨g',0,none⟩/\RX wq g' m (twX EN m e (f+1))):=λ_=>⟨g,rfl,RX.no HXq.out HF.out⟩
     clear kb a3 a4 a5 a6 b3 b4 b5 z6
     go_wp2
     go_roundw
     case rel=>exact⟨f+1,by omega,by go_num,HX',HO'⟩
     case measure=>simp[intOf];omega
   ·have hd1:(we==wf)=false:=by simpa using h1
    have HF:Hid (mt (eat EN e) (eat EN f)=false):=by unfold Hid;rw[HMT.out];simp[h1]
    clear h1
    go_wp2
    refine wp_region_quiet_below (by kernel_rfl) (by kernel_rfl) ?_
    repeat (go_big_quiet_step (fail))
    refine wpQuiet_nil ?_
    intro _ hw'
    obtain⟨⟨dq,osq⟩,hw''⟩:=hw'
    subst hw''
    have HNq:Hid (Nx wr (Sort.grow (redrawn wr dq) osq)):=below_regrown _ dq osq
    clear EB A3 A4 A5 B3 B4 B5
    generalize hwq:Sort.grow (redrawn wr dq) osq=wq at *
    clear hwq
    have HO':Hid (Ve (Value.slice (some ⟨g,0,none⟩) m ce).ownBlock W2 wq):=HO.out.nx HNq.out
    have HXq:Hid (RX wq g m (twX EN m e f)):=RE.next HXr'.out HNq.out
    have HX':Hid (0<m->∃g',(some ⟨g,0,none⟩:Option Addr)=some ⟨g',0,none⟩/\RX wq g' m (twX EN m e (f+1))):=λ_=>⟨g,rfl,RX.no HXq.out HF.out⟩
    clear kb a3 a4 a5 a6 b3 b4 b5 z6
    go_wp2
    go_roundw
    case rel=>exact⟨f+1,by omega,by go_num,HX',HO'⟩
    case measure=>simp[intOf];omega
  have ef:m=f:=by omega
  subst ef
  have HX':Hid (0<m->∃g,ae=some ⟨g,0,none⟩/\RX wr g m (twX EN m (e+1) 0)):=λh=>by
   obtain⟨g,h1,h2⟩:=HX.out h
   exact⟨g,h1,RX.up h2 HT0.out⟩
  go_wp2
  go_roundw
  case rel=>exact⟨e+1,by omega,by go_num,HX',HO⟩
  case measure=>simp[intOf];omega
 have ee:m=e:=by omega
 subst ee
 have HX':Hid (0<m->∃g,ae=some ⟨g,0,none⟩/\RX wr g m (λi=>eat (E1 N) i)):=λh=>by
  obtain⟨g,h1,h2⟩:=HX.out h
  refine⟨g,h1,RE.congr h2 λi j hi hj=>?_⟩
  have:twX EN m m 0 i=eat (E1 N) i:=by rw[Qb6 N (by rw[HMM.out];exact hi),HEN.out,HMM.out];simp[twX,hi]
  rw[this]
 have HAG:Hid (∀g,ae=some ⟨g,0,none⟩->w1.heap.size<g):=λg hg=>by
  have:=HOB.out g (by rw[hg];rfl)
  have:=HZr.out
  omega
 have hBX:Blk wr w1.heap.size #[.slice av m0 cv,.slice ae m ce,.slice none 0 0,.slice none 0 0]:=HRB.out _ HO.out
 have HBX:Hid (Blk wr w1.heap.size #[.slice av m0 cv,.slice ae m ce,.slice none 0 0,.slice none 0 0]):=hBX
 have HGB:Hid (w1.heap.size<wr.heap.size):=hBX.lt
 have HONr:Hid (Qb (w1.heap.size+1) wr (.slice av m0 cv) N.nodes):=HO.out.own HON'.out λg hg e=>by
  have:=HNB.out g hg
  have:=HOB.out g e.symm
  omega
 have HWL:Hid (Below w.heap.size w wr):=Below.trans (HX1.out.trans HN2.out) (HO.out.below (B:=w.heap.size) (λg hg=>by have:=HOB.out g hg;have:=HZr.out;have:=HX1.out.size;omega) (by have:=HX1.out.size;have:=HN2.out.size;omega))
 have HBRr:Hid (Blk wr (w.heap.size+1) #[.slice none 0 0,.slice none 0 0,.slice none 0 0,.slice none 0 0]):=HO.out.blk (BR.next HN2.out) λe=>by
  have:=HOB.out _ e.symm
  have:=HZr.out
  have:=BR.lt
  omega
 have HBRl:Hid (w.heap.size+1<w1.heap.size):=BR.lt
 clear hBX HX HO HRB HOB HNB HON' HN2 HE' HT0 BR HBR' HEN HZr kb
 have kb:=HBX.out.cell (i:=1) rfl
 go_wp2
 clear kb
 generalize hWL:wr=WL at *
 go_loopw [7,8] (λi p8 wq=>∃p:Nat,p<=m0+1/\i=.int .i64 p/\Hid (∃vF vO,FO w1.heap.size (.slice av m0 cv) (.slice ae m ce) WL.heap.size wq vF vO (fsL N p) (osL N p 0))/\Hid (Ve (some w1.heap.size) WL wq)) (λi _ _=>m0+1-(intOf i).toNat)
 case atStart=>exact⟨0,Nat.zero_le _,rfl,⟨_,_,⟨HBX.out,⟨rfl,Or.inl ⟨rfl,rfl⟩⟩,⟨rfl,Or.inl ⟨rfl,rfl⟩⟩,λg hg=>by simp[Value.ownBlock] at hg⟩⟩,Ve.refl _ _⟩
 obtain⟨p,hpn,rfl,HFO,HO⟩:=hrel
 by_cases hpl:p<=m0
 ·obtain⟨vF,vO,hf⟩:=HFO.out
  obtain⟨aF,cF,hvF⟩:=hf.F.slice
  obtain⟨aO,cO,hvO⟩:=hf.O.slice
  have HLF:Hid ((fsL N p).length=p):=Q5t N p
  rw[Q5t] at hvF
  generalize hL:(osL N p 0).length=L at hvO
  have HL:Hid ((osL N p 0).length=L):=hL
  have hL4:L<=4000:=by
   rw[<-hL,Q1s]
   have:=Qd5 (tlN N) p (mN N)
   have:=HMM.out
   omega
  subst hvF hvO
  have HF:Hid (FO w1.heap.size (.slice av m0 cv) (.slice ae m ce) WL.heap.size wr (.slice aF p cF) (.slice aO L cO) (fsL N p) (osL N p 0)):=hf
  have k0:=hf.box.cell (i:=0) rfl
  have k2:=hf.box.cell (i:=2) rfl
  have k3:=hf.box.cell (i:=3) rfl
  have hpl':(p:Int)<=m0:=by omega
  clear hf HFO hL
  go_wp2_with (at_builtin;refine wpList_append_own_at _ rfl _ _ 23 rfl WL.heap.size 2 ii (.int .i64 0) 1 8 Tryz.underlying23 hi hz0 hz1 hz2 rfl (by decide) _ _ _ rfl (World.ownsRow.alloc HF.out.F _) ⟨wr.heap.size,0,none⟩ 1 1 [.int .i64 (L:Int)] rfl rfl (λj u hj=>Xk wr _ _ _ rfl j u hj) ?c2 ?c3 ?c4 ?c5 ?_)
  case c2=>intro u hu;simp at hu;subst hu;rfl
  case c3=>rw[HLF.out];unfold maxLen;omega
  case c4=>rw[HLF.out];omega
  case c5=>have:=HO.out.size;simp;omega
  intro v7 w7 hown hgrow _ hat
  have HF7:Hid (FO w1.heap.size (.slice av m0 cv) (.slice ae m ce) WL.heap.size (w7.setCell ⟨w1.heap.size,2,none⟩ v7) v7 (.slice aO L cO) (fsL N (p+1)) (osL N p 0)):=by
   unfold Hid
   rw[Q9x,HL.out]
   exact HF.out.first HGB.out hown hgrow hat
  have HO7:Hid (Ve (some w1.heap.size) WL (w7.setCell ⟨w1.heap.size,2,none⟩ v7)):=HO.out.app hgrow (λg hg=>(Ql HF.out.F g hg).1) _
  have B7:=HF.out.boxF HGB.out hgrow
  have k2:=B7.cell (i:=2) rfl
  have z2:=B7.frozen 2
  obtain⟨a7,c7,hv7⟩:=HF7.out.F.slice
  subst hv7
  clear B7 hown hgrow hat k0 k3 HF HO
  go_wp2
  clear k2 z2 hpl'
  go_loopw [8] (λi wq=>∃k:Nat,k<=m/\i=.int .i64 k/\Hid (∃vF vO,FO w1.heap.size (.slice av m0 cv) (.slice ae m ce) WL.heap.size wq vF vO (fsL N (p+1)) (osL N p k))/\Hid (Ve (some w1.heap.size) WL wq)) (λi _=>m-(intOf i).toNat)
  case atStart=>exact⟨0,Nat.zero_le _,rfl,⟨_,_,HF7.out⟩,HO7⟩
  clear HF7 HO7
  obtain⟨k,hkm,rfl,HFO,HO⟩:=hrel
  by_cases hkl:k<m
  ·obtain⟨vF,vO,hf⟩:=HFO.out
   obtain⟨aF,cF,hvF⟩:=hf.F.slice
   obtain⟨aO,cO,hvO⟩:=hf.O.slice
   generalize hLF:(fsL N (p+1)).length=LF at hvF
   generalize hL:(osL N p k).length=L at hvO
   have HL:Hid ((osL N p k).length=L):=hL
   have hL4:L<=8000:=by
    rw[<-hL,Q5b]
    have:=Qd5 (tlN N) p (mN N)
    have:=cE_le (tlN N) p k
    have:=HMM.out
    omega
   subst hvF hvO
   have HF:Hid (FO w1.heap.size (.slice av m0 cv) (.slice ae m ce) WL.heap.size wr (.slice aF LF cF) (.slice aO L cO) (fsL N (p+1)) (osL N p k)):=hf
   have k1:=hf.box.cell (i:=1) rfl
   have k3:=hf.box.cell (i:=3) rfl
   obtain⟨g,hag,hr⟩:=HX'.out (by omega)
   have hag2:=HAG.out g hag
   subst hag
   have t0:=RE.cell (RE.only hr HO.out hag2) hkl (j:=0) (by omega)
   have t1:W4 (eat (E1 N) k) 0=.int .i64 ((tlN N k:Nat):Int):=by rw[<-Qbc HR.out (by rw[HMM.out];exact hkl)];rfl
   simp only[t1,Nat.add_zero] at t0
   clear t1 hr hag2 hf HFO hL hLF
   have hkl':(k:Int)<m:=by omega
   by_cases htp:tlN N k=p
   ·have hOY:osL N p (k+1)=osL N p k++[(k:Int)]:=Qbo htp
    have HOY:Hid (osL N p (k+1)=osL N p k++[(k:Int)]):=hOY
    rw[htp] at t0
    clear hOY htp
    go_wp2_with (at_builtin;refine wpList_append_own_at _ rfl _ _ 23 rfl WL.heap.size 2 ii (.int .i64 0) 1 8 Tryz.underlying23 hi hz0 hz1 hz2 rfl (by decide) _ _ _ rfl (World.ownsRow.alloc HF.out.O _) ⟨wr.heap.size,0,none⟩ 1 1 [.int .i64 (k:Int)] rfl rfl (λj u hj=>Xk wr _ _ _ rfl j u hj) ?c2 ?c3 ?c4 ?c5 ?_)
    case c2=>intro u hu;simp at hu;subst hu;rfl
    case c3=>rw[HL.out];unfold maxLen;omega
    case c4=>rw[HL.out];omega
    case c5=>have:=HO.out.size;simp;omega
    intro v7 w7 hown hgrow _ hat
    have HF7:Hid (FO w1.heap.size (.slice av m0 cv) (.slice (some ⟨g,0,none⟩) m ce) WL.heap.size (w7.setCell ⟨w1.heap.size,3,none⟩ v7) (.slice aF LF cF) v7 (fsL N (p+1)) (osL N p (k+1))):=by
     unfold Hid
     rw[HOY.out]
     exact HF.out.out HGB.out hown hgrow hat
    have HO7:Hid (Ve (some w1.heap.size) WL (w7.setCell ⟨w1.heap.size,3,none⟩ v7)):=HO.out.app hgrow (λg hg=>(Ql HF.out.O g hg).1) _
    have B7:=HF.out.boxO HGB.out hgrow
    have k3:=B7.cell (i:=3) rfl
    have z3:=B7.frozen 3
    obtain⟨a7,c7,hv7⟩:=HF7.out.O.slice
    subst hv7
    clear B7 hown hgrow hat k1 t0 HF HO
    go_wp2
    go_roundw
    case rel=>exact⟨k+1,by omega,by go_num,⟨_,_,HF7.out⟩,HO7⟩
    case measure=>simp[intOf];omega
   ·have hd:(((tlN N k:Nat):Int)==(p:Int))=false:=by simpa using(λh=>htp (by omega))
    have HF7:Hid (FO w1.heap.size (.slice av m0 cv) (.slice (some ⟨g,0,none⟩) m ce) WL.heap.size wr (.slice aF LF cF) (.slice aO L cO) (fsL N (p+1)) (osL N p (k+1))):=by
     unfold Hid
     rw[Qe6 htp]
     exact HF.out
    clear htp HF
    generalize ((tlN N k:Nat):Int)=tk at *
    go_wp2
    go_roundw
    case rel=>exact⟨k+1,by omega,by go_num,⟨_,_,HF7.out⟩,HO⟩
    case measure=>simp[intOf];omega
  have ekm:m=k:=by omega
  subst ekm
  have HF7:Hid (∃vF vO,FO w1.heap.size (.slice av m0 cv) (.slice ae m ce) WL.heap.size wr vF vO (fsL N (p+1)) (osL N (p+1) 0)):=by
   have:=HFO.out
   rw[<-Qe5,HMM.out]
   exact this
  have k1:wr.cell? ⟨w1.heap.size,1,none⟩=some (.slice ae m ce):=by
   obtain⟨_,_,hf⟩:=HFO.out
   exact hf.box.cell (i:=1) rfl
  clear HFO
  go_wp2
  go_roundw
  case rel=>exact⟨p+1,by omega,by go_num,HF7,HO⟩
  case measure=>simp[intOf];omega
 have epm:p=m0+1:=by omega
 subst epm
 obtain⟨vF,vO,hf⟩:=HFO.out
 obtain⟨aF,cF,hvF⟩:=hf.F.slice
 obtain⟨aO,cO,hvO⟩:=hf.O.slice
 generalize (fsL N (m0+1)).length=LF at hvF
 generalize (osL N (m0+1) 0).length=LO at hvO
 subst hvF hvO
 have HF:Hid (FO w1.heap.size (.slice av m0 cv) (.slice ae m ce) WL.heap.size wr (.slice aF LF cF) (.slice aO LO cO) (fsL N (m0+1)) (osL N (m0+1) 0)):=hf
 have k0:=hf.box.cell (i:=0) rfl
 have k1:=hf.box.cell (i:=1) rfl
 have k2:=hf.box.cell (i:=2) rfl
 have k3:=hf.box.cell (i:=3) rfl
 have BRz:Blk wr (w.heap.size+1) #[.slice none 0 0,.slice none 0 0,.slice none 0 0,.slice none 0 0]:=HO.out.blk HBRr.out λe=>by
  have:=Option.some.inj e
  have:=HBRl.out
  omega
 have rz0:=BRz.cell (i:=0) rfl
 have rz1:=BRz.cell (i:=1) rfl
 have rz2:=BRz.cell (i:=2) rfl
 have rz3:=BRz.cell (i:=3) rfl
 have rf0:=BRz.frozen 0
 have rf1:=BRz.frozen 1
 have rf2:=BRz.frozen 2
 have rf3:=BRz.frozen 3
 have hpl':¬((m0+1:Nat):Int)<=m0:=by omega
 clear hf HFO
 go_wp2
 have BR':=(((BRz.set 0 (.slice av m0 cv)).set 1 (.slice ae m ce)).set 2 (.slice aF LF cF)).set 3 (.slice aO LO cO)
 have q0:=BR'.cell (i:=0) rfl
 have q1:=BR'.cell (i:=1) rfl
 have q2:=BR'.cell (i:=2) rfl
 have q3:=BR'.cell (i:=3) rfl
 refine bodyPost_ret (v:=.agg #[.slice av m0 cv,.slice ae m ce,.slice aF LF cF,.slice aO LO cO]) (by simp[results,Tryz.results65,go_sem,q0,q1,q2,q3]) rfl ⟨⟨_,_,_,_,rfl,?_⟩,?_⟩
 ·have z0:=HGB.out
  have z1:=HBRl.out
  have z2:=HX1.out.size
  have eR:Vb N=⟨N.nodes,E1 N,fsL N (m0+1),osL N (m0+1) 0⟩:=by simp[Vb,HV.out,Qcu,fsL,osL,grp,HM0.out]
  rw[eR]
  refine⟨?_,?_,?_,?_⟩
  ·refine(Qb.base (B:=w1.heap.size+1) ?_ (by omega)).held
   exact J6 (J6 (J6 (J6 (HO.out.own HONr.out λg hg e=>by have:=(Ql HONr.out g hg).1;have:=Option.some.inj e;omega) (by omega) _ _) (by omega) _ _) (by omega) _ _) (by omega) _ _
  ·refine Qa9 (by rw[Tc];exact HMM.out) (by unfold maxLen;omega) λh0=>?_
   obtain⟨g,hag,hr⟩:=HX'.out h0
   have hag2:=HAG.out g hag
   exact⟨g,hag,by omega,RE.setOther (RE.setOther (RE.setOther (RE.setOther (RE.only hr HO.out hag2) (by simp;omega) _) (by simp;omega) _) (by simp;omega) _) (by simp;omega) _⟩
  ·refine(Qb.base (B:=WL.heap.size) ?_ (by omega)).held
   exact J6 (J6 (J6 (J6 HF.out.F (by omega) _ _) (by omega) _ _) (by omega) _ _) (by omega) _ _
  ·refine(Qb.base (B:=WL.heap.size) ?_ (by omega)).held
   exact J6 (J6 (J6 (J6 HF.out.O (by omega) _ _) (by omega) _ _) (by omega) _ _) (by omega) _ _
 ·have z1:=HBRl.out
  have z0:=HGB.out
  exact Below.setCell (Below.setCell (Below.setCell (Below.setCell (Below.trans HWL.out (HO.out.below (B:=w.heap.size) (λg hg=>by have:=Option.some.inj hg;omega) (by omega))) (by simp) _) (by simp) _) (by simp) _) (by simp) _
end Go.Proofs.YtmmolhlihhdkcaaGreatDoor
namespace Go.Proofs.YtmmolhlihhdkcaaGreatDoor
open Go.RowKit
set_option linter.unusedVariables false
set_option maxRecDepth 1000000
set_option maxHeartbeats 16000000
def tkI (zs:List Int)(k:Nat):List Int:=zs.take k
theorem Q19 {zs:List Int}{k:Nat}(h:k<zs.length):tkI zs (k+1)=tkI zs k++[iat zs k]:=by
 unfold tkI
 rw[List.take_succ_eq_append_getElem h,V7 h]
theorem Q4t {zs:List Int}{k:Nat}(h:k<=zs.length):(tkI zs k).length=k:=by simp[tkI,h]
theorem Q4u (zs:List Int):tkI zs zs.length=zs:=by simp[tkI]
theorem Ph (B B':Nat)(v v':Value)(xs ys:List Int)(w:World)(h0:Qr B w v xs)(h1:Qr B' w v' ys)(ha:xs.length<=1048576)(hb:ys.length<=1048576) :
  Calls Tryz.prog 67 #[v,v'] w λe w'=>(∃u,e=.returned u/\Qb w.heap.size w' u (xs++ys))/\Nx w w':=by
 obtain⟨ii,hi,hz0,hz1,hz2⟩:=info_parts Zt
 obtain⟨a,cap,rfl,hn,hk⟩:=h0
 obtain⟨a',cap',rfl,hn',hk'⟩:=h1
 unfold maxLen at hn hn'
 generalize hz:xs.length=n at *
 have HZ:Hid (xs.length=n):=hz
 clear hz
 generalize hz:ys.length=n' at *
 have HZ':Hid (ys.length=n'):=hz
 clear hz
 go_enter Tryz.func67,Tryz.ntmps67
 go_wp2
 go_loopw [5,6] (λu i wr=>∃k:Nat,k<=n/\i=.int .i64 k/\Hid (Qb w.heap.size wr u (tkI xs k))/\Hid (Nx w wr)) (λ_ i _=>n-(intOf i).toNat)
 case atStart=>exact⟨0,Nat.zero_le _,rfl,I7 w.heap.size w (Nat.le_refl _),Qd _ _⟩
 obtain⟨k,hkn,rfl,HO,HN⟩:=hrel
 by_cases hlt:k<n
 ·obtain⟨b,off,rfl,hB,hb,hc⟩:=hk (by omega)
  have c0:=Q1 HN.out hb (hc k hlt)
  have hlt':(k:Int)<n:=by omega
  have HLK:Hid ((tkI xs k).length=k):=Q4t (by rw[HZ.out];omega)
  have HES:Hid (tkI xs (k+1)=tkI xs k++[iat xs k]):=Q19 (by rw[HZ.out];exact hlt)
  obtain⟨av,cv,hvs⟩:=HO.out.slice
  rw[HLK.out] at hvs
  subst hvs
  have HZ3:Hid (w.heap.size<=wr.heap.size):=HN.out.size
  clear hc hk hk'
  generalize iat xs k=es at *
  go_wp2_with (at_builtin;refine wpList_append_own_at _ rfl _ _ 23 rfl w.heap.size 2 ii (.int .i64 0) 1 8 Tryz.underlying23 hi hz0 hz1 hz2 rfl (by decide) _ _ _ rfl (World.ownsRow.alloc HO.out _) ⟨wr.heap.size,0,none⟩ 1 1 [.int .i64 es] rfl rfl (λj u hj=>Xk wr _ _ _ rfl j u hj) ?c2 ?c3 ?c4 ?c5 ?_)
  case c2=>intro u hu;simp at hu;subst hu;rfl
  case c3=>rw[HLK.out];unfold maxLen;omega
  case c4=>rw[HLK.out];omega
  case c5=>have:=HZ3.out;simp;omega
  intro v7 w7 hown hgrow _ _
  have HO7:Hid (Qb w.heap.size w7 v7 (tkI xs (k+1))):=by unfold Hid;rw[HES.out];exact Qb.snoc hown
  have HN7:Hid (Nx w w7):=Below.grown (HN.out.alloc _) hgrow (by have:=HZ3.out;simp;omega) (λg hg=>(Ql HO.out g hg).1)
  clear hown hgrow HO HN c0
  go_wp2
  go_roundw
  case rel=>exact⟨k+1,by omega,by go_num,HO7,HN7⟩
  case measure=>simp[intOf];omega
 have ek:n=k:=by omega
 subst ek
 have HO1:Hid (Qb w.heap.size wr u5 (xs++tkI ys 0)):=by
  have:=HO.out
  rw[show tkI xs n=xs by rw[<-HZ.out];exact Q4u xs] at this
  unfold Hid
  rw[show tkI ys 0=[] from rfl,List.append_nil]
  exact this
 clear HO hlt hkn hk
 go_wp2
 go_loopw [5,7] (λu i wr=>∃k:Nat,k<=n'/\i=.int .i64 k/\Hid (Qb w.heap.size wr u (xs++tkI ys k))/\Hid (Nx w wr)) (λ_ i _=>n'-(intOf i).toNat)
 case atStart=>exact⟨0,Nat.zero_le _,rfl,HO1,HN⟩
 clear HO1 HN
 obtain⟨k,hkn,rfl,HO,HN⟩:=hrel
 by_cases hlt:k<n'
 ·obtain⟨b,off,rfl,hB,hb,hc⟩:=hk' (by omega)
  have c0:=Q1 HN.out hb (hc k hlt)
  have hlt':(k:Int)<n':=by omega
  have HLK:Hid ((xs++tkI ys k).length=n+k):=by unfold Hid;rw[List.length_append,HZ.out,Q4t (by rw[HZ'.out];omega)]
  have HES:Hid (xs++tkI ys (k+1)=(xs++tkI ys k)++[iat ys k]):=by unfold Hid;rw[Q19 (by rw[HZ'.out];exact hlt),List.append_assoc]
  obtain⟨av,cv,hvs⟩:=HO.out.slice
  rw[HLK.out] at hvs
  subst hvs
  have HZ3:Hid (w.heap.size<=wr.heap.size):=HN.out.size
  clear hc hk'
  generalize iat ys k=es at *
  go_wp2_with (at_builtin;refine wpList_append_own_at _ rfl _ _ 23 rfl w.heap.size 2 ii (.int .i64 0) 1 8 Tryz.underlying23 hi hz0 hz1 hz2 rfl (by decide) _ _ _ rfl (World.ownsRow.alloc HO.out _) ⟨wr.heap.size,0,none⟩ 1 1 [.int .i64 es] rfl rfl (λj u hj=>Xk wr _ _ _ rfl j u hj) ?c2 ?c3 ?c4 ?c5 ?_)
  case c2=>intro u hu;simp at hu;subst hu;rfl
  case c3=>rw[HLK.out];unfold maxLen;omega
  case c4=>rw[HLK.out];omega
  case c5=>have:=HZ3.out;simp;omega
  intro v7 w7 hown hgrow _ _
  have HO7:Hid (Qb w.heap.size w7 v7 (xs++tkI ys (k+1))):=by unfold Hid;rw[HES.out];exact Qb.snoc (by rw[List.length_append];exact hown)
  have HN7:Hid (Nx w w7):=Below.grown (HN.out.alloc _) hgrow (by have:=HZ3.out;simp;omega) (λg hg=>(Ql HO.out g hg).1)
  clear hown hgrow HO HN c0
  go_wp2
  go_roundw
  case rel=>exact⟨k+1,by omega,by go_num,HO7,HN7⟩
  case measure=>simp[intOf];omega
 have ek:n'=k:=by omega
 subst ek
 have HF:Hid (Qb w.heap.size wr u5 (xs++ys)):=by
  have:=HO.out
  rw[show tkI ys n'=ys by rw[<-HZ'.out];exact Q4u ys] at this
  exact this
 clear HO hlt hkn hk'
 go_wp2
 go_ret
 exact⟨⟨_,rfl,HF.out⟩,HN.out⟩
def Qb1 (v:Value):Prop:=∃a n c,v=.slice a n c/\n<=c
theorem Qb.capOk {B:Nat}{w:World}{v:Value}{zs:List Int}(h:Qb B w v zs):Qb1 v:=by
 rcases h.2 with⟨rfl,_⟩|⟨g,cap,cur,rfl,_,_,hc,_⟩
 ·exact⟨_,_,_,rfl,Nat.le_refl _⟩
 ·exact⟨_,_,_,rfl,hc⟩
def wd (ws:List (List Int))(i:Nat):List Int:=ws.getD i []
def Yt (B:Nat)(w:World)(v:Value)(ws:List (List Int)):Prop:=
 Jl B w v ws.length λb off i=>∃vi,w.cell? ⟨b,off+i,none⟩=some vi/\Qr B w vi (wd ws i)/\Qb1 vi
theorem Yt.keep {B:Nat}{w w':World}{v:Value}{ws:List (List Int)}(h:Yt B w v ws)(k:Xs B w w'):Yt B w' v ws:=
 Jl.mono h (Nat.le_refl _) k.1 λb off hb hs i hi hc=>by
  obtain⟨vi,h1,h2,h3⟩:=hc
  exact⟨vi,(k.2 b hb hs _).trans h1,h2.keep k,h3⟩
theorem Yt.next {B:Nat}{w w':World}{v:Value}{ws:List (List Int)}(h:Yt B w v ws)(k:Nx w w'):Yt B w' v ws:=h.keep (k.keeps B)
theorem Q4o {ws:List (List Int)}{x:List Int}{i:Nat}(h:i<ws.length):wd (ws++[x]) i=wd ws i:=by
 simp[wd,List.getD,List.getElem?_append_left h]
theorem Q7y {ws:List (List Int)}{x:List Int}{i:Nat}(h:i=ws.length):wd (ws++[x]) i=x:=by
 subst h
 simp[wd,List.getD]
theorem Q9q:(Tryz.prog.info? 164).map (λi=>(i.zero,i.size,i.bytes))=some (some (.agg #[.slice none 0 0]),1,24):=by kernel_rfl
def vat (cs:List Value)(i:Nat):Value:=cs.getD i (.bool false)
def Z7 (C:Nat)(w:World)(v:Value)(ws:List (List Int)):Prop:=
 ∃cs:List Value,w.ownsRow C 164 1 v ws.length cs/\∀i,i<ws.length->Qb C w (vat cs i) (wd ws i)
theorem Q96 {w:World}{B B' e e' size size' n n':Nat}{v v':Value}{xs xs':List Value}(h:w.ownsRow B e size v n xs)(h':w.ownsRow B' e' size' v' n' xs')(hne:e≠e'):v.ownBlock=none\/v.ownBlock≠v'.ownBlock:=by
 rcases h.2 with⟨rfl,_⟩|⟨g,cap,cur,rfl,_,hh,_⟩
 ·exact Or.inl rfl
 ·rcases h'.2 with⟨rfl,_⟩|⟨g',cap',cur',rfl,_,hh',_⟩
  ·exact Or.inr (by simp[Value.ownBlock])
  ·refine Or.inr λe1=>?_
   simp[Value.ownBlock] at e1
   subst e1
   rw[hh] at hh'
   simp at hh'
   exact hne hh'.2
theorem Z7.next {C:Nat}{w w':World}{v:Value}{ws:List (List Int)}(h:Z7 C w v ws)(k:Nx w w'):Z7 C w' v ws:=by
 obtain⟨cs,h1,h2⟩:=h
 refine⟨cs,?_,λi hi=>(h2 i hi).next k⟩
 obtain⟨h3,h4⟩:=h1
 refine⟨h3,?_⟩
 rcases h4 with h4|⟨g,cap,cur,hv,hg,hh,r⟩
 ·exact Or.inl h4
 ·exact Or.inr ⟨g,cap,cur,hv,hg,(k.block g (Array.getElem?_eq_some_iff.1 hh).1).trans hh,r⟩
theorem Z7.slice {C:Nat}{w:World}{v:Value}{ws:List (List Int)}(h:Z7 C w v ws):∃a c,v=.slice a ws.length c:=by
 obtain⟨cs,h1,_⟩:=h
 rcases h1.2 with⟨rfl,h2⟩|⟨g,cap,cur,rfl,_⟩
 ·exact⟨none,0,by rw[h2]⟩
 ·exact⟨_,_,rfl⟩
theorem Z7.held {C:Nat}{w:World}{v:Value}{ws:List (List Int)}(h:Z7 C w v ws):Yt C w v ws:=by
 obtain⟨cs,h1,h2⟩:=h
 obtain⟨h3,h4⟩:=h1
 rw[Nat.mul_one] at h3
 rcases h4 with⟨rfl,h4⟩|⟨g,cap,cur,rfl,hg,hh,hc,hm,hs,ht⟩
 ·unfold Yt
  rw[h4]
  exact⟨_,_,rfl,by simp[maxLen],λh=>by omega⟩
 ·refine⟨_,_,rfl,by omega,λh0=>⟨g,0,rfl,hg,(Array.getElem?_eq_some_iff.1 hh).1,λi hi=>⟨vat cs i,?_,(h2 i hi).held,(h2 i hi).capOk⟩⟩⟩
  have e:(cur.toList.take (ws.length*1))[i]?=cs[i]?:=by rw[ht]
  rw[List.getElem?_take_of_lt (by omega),Array.getElem?_toList] at e
  show w.cell? ⟨g,0+i,none⟩=_
  rw[Nat.zero_add]
  simp[World.cell?,hh,e,vat,List.getD,show i<cs.length by omega]
theorem Z7.lt {C:Nat}{w:World}{v:Value}{ws:List (List Int)}(h:Z7 C w v ws):∀g,v.ownBlock=some g->C<=g:=by
 obtain⟨cs,h1,_⟩:=h
 exact λg hg=>(Ql h1 g hg).1
theorem Z7.snoc {C:Nat}{w w':World}{v v' u:Value}{ws:List (List Int)}{x:List Int}{cs:List Value}(h1:w.ownsRow C 164 1 v ws.length cs)(h2:∀i,i<ws.length->Qb C w (vat cs i) (wd ws i))
  (hu:Qb C w u x) (ho:Obj) (hg:(w.alloc ho).grownBy w' v.ownBlock) (hn:w'.ownsRow C 164 1 v' (ws.length+1) (cs++[u])):Z7 C w' v' (ws++[x]):=by
 have hl:cs.length=ws.length:=by have:=h1.1;omega
 have hne:(2:Nat)≠3:=by decide
 have kept:∀{z:Value}{zs:List Int},Qb C w z zs->Qb C w' z zs:=λ{z zs} hz=>World.ownsRow.kept (World.ownsRow.alloc hz ho) hg (Q96 hz h1 (by decide))
 refine⟨cs++[u],by rw[List.length_append];exact hn,λi hi=>?_⟩
 rw[List.length_append,List.length_singleton] at hi
 by_cases e:i<ws.length
 ·rw[Q4o e]
  have:vat (cs++[u]) i=vat cs i:=by simp[vat,List.getD,List.getElem?_append_left (show i<cs.length by omega)]
  rw[this]
  exact kept (h2 i e)
 ·have e':i=ws.length:=by omega
  rw[Q7y e']
  have:vat (cs++[u]) i=u:=by rw[e',<-hl];simp[vat,List.getD]
  rw[this]
  exact kept hu
theorem Qf {w w':World}(k:Nx w w'){b o:Nat}{v:Value}(h:w.cell? ⟨b,o,none⟩=some v):w'.cell? ⟨b,o,none⟩=some v:=Q1 k (Zc h) h
def Wh (es:List Eg)(i:Int)(e:Nat):Bool:=decide ((eat es e).way=i)
def Qe7 (es:List Eg)(i:Int)(k:Nat):List Nat:=(List.range k).filter (Wh es i)
def Jt (l:List Nat):List Int:=l.map λe:Nat=>(e:Int)
theorem Q98 (B:Nat)(w:World)(z:Int)(h:B<=w.heap.size):Qb B (w.alloc (.cells #[.int .i64 z] 2)) (.slice (some ⟨w.heap.size,0,none⟩) 1 1) [z]:=
 ⟨rfl,.inr ⟨w.heap.size,1,#[.int .i64 z],rfl,h,by show(w.heap.push _)[w.heap.size]?=_;simp,Nat.le_refl _,by simp[maxLen],by simp,by simp[Qx]⟩⟩
theorem Z7.alloc {C:Nat}{w:World}{v:Value}{ws:List (List Int)}(h:Z7 C w v ws)(o:Obj):Z7 C (w.alloc o) v ws:=h.next (Qd _ _)
theorem Z7.base {B B':Nat}{w:World}{v:Value}{ws:List (List Int)}(h:Z7 B w v ws)(hB:B'<=B):Z7 B' w v ws:=by
 obtain⟨cs,h1,h2⟩:=h
 refine⟨cs,?_,λi hi=>(h2 i hi).base hB⟩
 obtain⟨h3,h4⟩:=h1
 refine⟨h3,?_⟩
 rcases h4 with h4|⟨g,cap,cur,hv,hg,r⟩
 ·exact Or.inl h4
 ·exact Or.inr ⟨g,cap,cur,hv,by omega,r⟩
def Vv (es:List Eg)(i:Int)(k:Nat):List Nat:=(List.range k).filter λe=>Wh es i e&&!(eat es e).back
def Xm (es:List Eg)(i:Int)(k:Nat):List Nat:=((List.range k).filter λe=>Wh es i e&&(eat es e).back).reverse
theorem Q8c {es:List Eg}{i:Int}{k:Nat}(h:(eat es k).way=i)(hb:(eat es k).back=false):Vv es i (k+1)=Vv es i k++[k]:=by
 unfold Vv;rw[List.range_succ,List.filter_append];simp[Wh,h,hb]
theorem Q6g {es:List Eg}{i:Int}{k:Nat}(hb:(eat es k).back=true):Vv es i (k+1)=Vv es i k:=by
 unfold Vv;rw[List.range_succ,List.filter_append];simp[hb]
theorem Qbb {es:List Eg}{i:Int}{k:Nat}(h:(eat es k).way≠i):Vv es i (k+1)=Vv es i k:=by
 unfold Vv;rw[List.range_succ,List.filter_append];simp[Wh,h]
theorem Qam {es:List Eg}{i:Int}{k:Nat}(h:(eat es k).way=i)(hb:(eat es k).back=true):Xm es i (k+1)=k::Xm es i k:=by
 unfold Xm;rw[List.range_succ,List.filter_append];simp[Wh,h,hb]
theorem Q4a {es:List Eg}{i:Int}{k:Nat}(hb:(eat es k).back=false):Xm es i (k+1)=Xm es i k:=by
 unfold Xm;rw[List.range_succ,List.filter_append];simp[hb]
theorem Qch {es:List Eg}{i:Int}{k:Nat}(h:(eat es k).way≠i):Xm es i (k+1)=Xm es i k:=by
 unfold Xm;rw[List.range_succ,List.filter_append];simp[Wh,h]
theorem Q8d (es:List Eg)(i:Int)(k:Nat):(Jt (Vv es i k)).length<=k:=by
 unfold Vv Jt
 have:=List.length_filter_le (λe=>Wh es i e&&!(eat es e).back) (List.range k)
 simpa using this
theorem Qan (es:List Eg)(i:Int)(k:Nat):(Jt (Xm es i k)).length<=k:=by
 unfold Xm Jt
 have:=List.length_filter_le (λe=>Wh es i e&&(eat es e).back) (List.range k)
 simpa using this
def Vg (N:Nt)(es:List Eg)(i:Nat):List (List Nat):=[Vv es i es.length]++(if (wat N.ways i).both then [Xm es i es.length] else [])
theorem Q77 (l:List Nat)(k:Nat):Jt (l++[k])=Jt l++[(k:Int)]:=by simp[Jt]
theorem Q1r (B:Nat)(w:World)(h:B<=w.heap.size):Qb B (w.alloc (.cells #[] 2)) (.slice (some ⟨w.heap.size,0,none⟩) 0 0) (Jt []):=I7 B w h
theorem Q97 {B:Nat}{w:World}{u:Value}{x:List Int}(hB:B<=w.heap.size)(h:Qb B w u x):Z7 B (w.alloc (.cells #[u] 164)) (.slice (some ⟨w.heap.size,0,none⟩) 1 1) [x]:=
 ⟨[u],⟨rfl,.inr ⟨w.heap.size,1,#[u],rfl,hB,by show(w.heap.push _)[w.heap.size]?=_;simp,Nat.le_refl _,by simp[maxLen],by simp,by simp⟩⟩,λi hi=>by
  have:i=0:=by simpa using hi
  subst this
  exact h.next (Qd _ _)⟩
theorem Uj (B0 B:Nat)(n0 n1 n2 n3:Value)(N:Nt)(v0 v1 v2 v3:Value)(R:Rd)(wi:Nat)(w:World)(hN:Yf B0 w n0 n1 n2 n3 N)(h0:Y8 B w v0 v1 v2 v3 R)(hm:R.edges.length<=4000)(hwi:wi<N.ways.length) :
  Calls Tryz.prog 96 #[.agg #[n0,n1,n2,n3,.int .i64 N.uturn],.agg #[v0,v1,v2,v3],.int .i64 (wi:Int)] w λe w'=>(∃u,e=.returned u/\Z7 w.heap.size w' u ((Vg N R.edges wi).map Jt))/\Nx w w':=by
 obtain⟨ii,hi,hz0,hz1,hz2⟩:=info_parts Q9q
 obtain⟨a,cap,rfl,hml,hk⟩:=h0.2.1
 obtain⟨aw,capw,rfl,hmw,hkw⟩:=hN.2.1
 unfold maxLen at hmw
 have HTR:Hid ((Vg N R.edges wi).map Jt=[Jt (Vv R.edges wi R.edges.length)]++(if (wat N.ways wi).both then [Jt (Xm R.edges wi R.edges.length)] else [])):=by
  unfold Hid Vg
  rw[List.map_append]
  congr 1
  split<;>rfl
 obtain⟨bw,ow,haw,hBw,hbw,hcw⟩:=hkw (by omega)
 obtain⟨vn,vw,wd0,wd1,wd2,wd3,wd4⟩:=hcw wi hwi
 have HW1:Hid (w.cell? ⟨bw,ow+wi*4+1,none⟩=some (.bool (wat N.ways wi).both)):=wd1
 have HBW:Hid (bw<w.heap.size):=hbw
 subst haw
 clear h0 hN hkw hcw wd4 wd0 wd1 wd2 wd3 vn vw
 generalize hes:R.edges=es at *
 clear hes
 generalize hz:es.length=m at *
 clear hz hml
 generalize hzw:N.ways.length=nw at *
 clear hzw
 generalize (wat N.ways wi).both=both at *
 generalize hW1:(w.alloc (.cells #[n0,.slice (some ⟨bw,ow,none⟩) nw capw,n2,n3,.int .i64 N.uturn] 28)).alloc (.cells #[v0,.slice a m cap,v2,v3] 113)=w1
 have HB0:Hid (Blk w1 (w.heap.size+1) #[v0,.slice a m cap,v2,v3]):=by unfold Hid;rw[<-hW1];exact Blk.new _ _ _ _ (by rw[Q7])
 have HBN:Hid (Blk w1 w.heap.size #[n0,.slice (some ⟨bw,ow,none⟩) nw capw,n2,n3,.int .i64 N.uturn]):=by unfold Hid;rw[<-hW1];exact(Blk.new w _ _ _ rfl).alloc _
 have HX0:Hid (Nx w w1):=by unfold Hid;rw[<-hW1];exact G0 _ _ _
 go_enter Tryz.func96,Tryz.ntmps96
 go_upto_region 1 with fail
 clear hW1
 go_wp2
 go_loopw [7,8,9] (λut ub i wr=>∃k:Nat,k<=m/\i=.int .i64 k/\Hid (Qb w1.heap.size wr ut (Jt (Vv es wi k)))/\Hid (Qb w1.heap.size wr ub (Jt (Xm es wi k)))/\Hid (Nx w1 wr)) (λ_ _ i _=>m-(intOf i).toNat)
 case atStart=>exact⟨0,Nat.zero_le _,rfl,Qb.next (Q1r w1.heap.size w1 (Nat.le_refl _)) (Qd _ _),by have:=Q1r w1.heap.size (w1.alloc (.cells #[] 2)) (by rw[Q7];omega);rw[Q7] at this;exact this,G0 _ _ _⟩
 obtain⟨k,hkm,rfl,HT,HK,HN⟩:=hrel
 have BW:=HB0.out.next HN.out
 have k1:=BW.cell (i:=1) rfl
 by_cases hlt:k<m
 ·obtain⟨b,off,rfl,hB,hb,hc⟩:=hk (by omega)
  obtain⟨d0,d1,d2,d3,d4,d5,d6⟩:=hc k hlt
  have d3:=Q1 (HX0.out.trans HN.out) hb d3
  have d5:=Q1 (HX0.out.trans HN.out) hb d5
  have hlt':(k:Int)<m:=by omega
  clear d0 d1 d2 d4 d6 hc hk
  have HLT:Hid ((Jt (Vv es wi k)).length<=4000):=by unfold Hid;have:=Q8d es wi k;omega
  have HLB:Hid ((Jt (Xm es wi k)).length<=4000):=by unfold Hid;have:=Qan es wi k;omega
  by_cases hw:(eat es k).way=wi
  ·have g1:((eat es k).way==(wi:Int))=true:=by simpa using hw
   have HU:Hid (Qb w1.heap.size (wr.alloc (.cells #[.int .i64 (k:Int)] 2)) (.slice (some ⟨wr.heap.size,0,none⟩) 1 1) [(k:Int)]):=Q98 _ _ _ HN.out.size
   have HX2:Hid (Nx wr (wr.alloc (.cells #[.int .i64 (k:Int)] 2))):=Qd _ _
   cases hbk:(eat es k).back
   ·have HE1:Hid (Jt (Vv es wi (k+1))=Jt (Vv es wi k)++[(k:Int)]):=by unfold Hid;rw[Q8c hw hbk,Q77]
    have HE2:Hid (Xm es wi (k+1)=Xm es wi k):=Q4a hbk
    rw[hbk] at d5
    generalize (eat es k).way=wy at *
    clear hw hbk
    go_wp2_with fail
    refine(Ph w1.heap.size w1.heap.size _ _ (Jt (Vv es wi k)) [(k:Int)] _ (by exact(HT.out.next HX2.out).held) (by exact HU.out.held) (by have:=HLT.out;omega) (by simp)).mono ?_
    rintro e w4 ⟨⟨u,rfl,hO⟩,hx⟩
    have HN4:Hid (Nx w1 w4):=(HN.out.trans HX2.out).trans hx
    have HT4:Hid (Qb w1.heap.size w4 u (Jt (Vv es wi (k+1)))):=by unfold Hid;rw[HE1.out];exact hO.base (HN.out.trans HX2.out).size
    have HK4:Hid (Qb w1.heap.size w4 u8 (Jt (Xm es wi (k+1)))):=by unfold Hid;rw[HE2.out];exact(HK.out.next HX2.out).next hx
    clear hO hx k1 d3 d5 BW HT HK HN
    go_wp2
    go_roundw
    case rel=>exact⟨k+1,by omega,by go_num,HT4,HK4,HN4⟩
    case measure=>simp[intOf];omega
   ·have HE1:Hid (Vv es wi (k+1)=Vv es wi k):=Q6g hbk
    have HE2:Hid (Jt (Xm es wi (k+1))=[(k:Int)]++Jt (Xm es wi k)):=by unfold Hid;rw[Qam hw hbk];rfl
    rw[hbk] at d5
    generalize (eat es k).way=wy at *
    clear hw hbk
    go_wp2_with fail
    refine(Ph w1.heap.size w1.heap.size _ _ [(k:Int)] (Jt (Xm es wi k)) _ (by exact HU.out.held) (by exact(HK.out.next HX2.out).held) (by simp) (by have:=HLB.out;omega)).mono ?_
    rintro e w4 ⟨⟨u,rfl,hO⟩,hx⟩
    have HN4:Hid (Nx w1 w4):=(HN.out.trans HX2.out).trans hx
    have HK4:Hid (Qb w1.heap.size w4 u (Jt (Xm es wi (k+1)))):=by unfold Hid;rw[HE2.out];exact hO.base (HN.out.trans HX2.out).size
    have HT4:Hid (Qb w1.heap.size w4 u7 (Jt (Vv es wi (k+1)))):=by unfold Hid;rw[HE1.out];exact(HT.out.next HX2.out).next hx
    clear hO hx k1 d3 d5 BW HT HK HN
    go_wp2
    go_roundw
    case rel=>exact⟨k+1,by omega,by go_num,HT4,HK4,HN4⟩
    case measure=>simp[intOf];omega
  ·have g1:((eat es k).way==(wi:Int))=false:=by simpa using hw
   have HE1:Hid (Vv es wi (k+1)=Vv es wi k):=Qbb hw
   have HE2:Hid (Xm es wi (k+1)=Xm es wi k):=Qch hw
   generalize (eat es k).way=wy at *
   clear hw
   go_wp2
   go_roundw
   case rel=>exact⟨k+1,by omega,by go_num,by unfold Hid;rw[HE1.out];exact HT.out,by unfold Hid;rw[HE2.out];exact HK.out,HN⟩
   case measure=>simp[intOf];omega
 have ek:m=k:=by omega
 subst ek
 obtain⟨a7,c7,e7⟩:=HT.out.slice
 obtain⟨a8,c8,e8⟩:=HK.out.slice
 generalize (Jt (Vv es wi m)).length=n7 at e7
 generalize (Jt (Xm es wi m)).length=n8 at e8
 subst e7 e8
 have c1:=(HBN.out.next HN.out).cell (i:=1) rfl
 have c2:=Q1 (HX0.out.trans HN.out) HBW.out HW1.out
 have hwi':(wi:Int)<nw:=by omega
 have HO1:Hid (Z7 w1.heap.size (wr.alloc (.cells #[(.slice a7 n7 c7)] 164)) (.slice (some ⟨wr.heap.size,0,none⟩) 1 1) [Jt (Vv es wi m)]):=Q97 HN.out.size HT.out
 have HX1:Hid (Nx w1 (wr.alloc (.cells #[(.slice a7 n7 c7)] 164))):=HN.out.trans (Qd _ _)
 have HK1:Hid (Qb w1.heap.size (wr.alloc (.cells #[(.slice a7 n7 c7)] 164)) (.slice a8 n8 c8) (Jt (Xm es wi m))):=HK.out.next (Qd _ _)
 have HS1:Hid ((wr.alloc (.cells #[(.slice a7 n7 c7)] 164)).heap.size=wr.heap.size+1):=Q7 _ _
 have c1a:=Qf (Qd wr (.cells #[(.slice a7 n7 c7)] 164)) c1
 have c2a:=Qf (Qd wr (.cells #[(.slice a7 n7 c7)] 164)) c2
 clear hlt hkm hk BW HT HK
 cases both
 ·have HF:Hid ((Vg N es wi).map Jt=[Jt (Vv es wi m)]):=by unfold Hid;rw[HTR.out];simp
  go_wp2
  go_ret
  refine⟨⟨_,rfl,?_⟩,HX0.out.trans HX1.out⟩
  rw[HF.out]
  exact HO1.out.base HX0.out.size
 ·have HF:Hid ((Vg N es wi).map Jt=[Jt (Vv es wi m)]++[Jt (Xm es wi m)]):=by unfold Hid;rw[HTR.out];simp
  obtain⟨cs,hrow,hwords⟩:=HO1.out
  have HROW:Hid ((wr.alloc (.cells #[(.slice a7 n7 c7)] 164)).ownsRow w1.heap.size 164 1 (.slice (some ⟨wr.heap.size,0,none⟩) 1 1) 1 cs):=hrow
  have HWD:Hid (∀i,i<1->Qb w1.heap.size (wr.alloc (.cells #[(.slice a7 n7 c7)] 164)) (vat cs i) (wd [Jt (Vv es wi m)] i)):=hwords
  clear hrow hwords
  go_wp2_with (at_builtin;refine wpList_append_own_at _ rfl _ _ 161 rfl w1.heap.size 164 ii (.agg #[.slice none 0 0]) 1 24 Tryz.underlying161 hi hz0 hz1 hz2 rfl (by decide) _ _ _ rfl (World.ownsRow.alloc HROW.out _) ⟨wr.heap.size+1,0,none⟩ 1 1 [.slice a8 n8 c8] rfl rfl ?e1 ?e2 ?e3 ?e4 ?e5 ?_)
  case e2=>rfl
  case e3=>unfold maxLen;omega
  case e5=>have:=HX1.out.size;have:=HS1.out;omega
  intro v7 w7 hown hgrow _ _
  have HO7:Hid (Z7 w1.heap.size w7 v7 ([Jt (Vv es wi m)]++[Jt (Xm es wi m)])):=Z7.snoc (ws:=[Jt (Vv es wi m)]) HROW.out (λi hi=>HWD.out i (by simpa using hi)) HK1.out _ hgrow hown
  have HN7:Hid (Nx w1 w7):=Below.grown (HX1.out.alloc _) hgrow (by rw[Q7];have:=HX1.out.size;omega) (λg hg=>(Ql HROW.out g hg).1)
  clear hown hgrow
  go_wp2
  go_ret
  refine⟨⟨_,rfl,?_⟩,HX0.out.trans HN7.out⟩
  rw[HF.out]
  exact HO7.out.base HX0.out.size
theorem Yt.at' {B:Nat}{w:World}{v:Value}{ws:List (List Int)}(h:Yt B w v ws){i:Nat}(hi:i<ws.length):∃b off c,v=.slice (some ⟨b,off,none⟩) ws.length c/\b<w.heap.size/\∃vi,w.cell? ⟨b,off+i,none⟩=some vi/\Qr B w vi (wd ws i)/\Qb1 vi:=by
 obtain⟨a,cap,e,_,hk⟩:=h
 obtain⟨b,off,rfl,_,hb,hc⟩:=hk (by omega)
 exact⟨b,off,cap,e,hb,hc i hi⟩
theorem Vd (w:World)(n:Nat):Nx w (w.drewN n):=below_drewN (Below.refl _ w) n
theorem Y1.at' {B:Nat}{w:World}{a:Option Addr}{n c:Nat}{es:List Eg}(h:Y1 B w (.slice a n c) es)(hp:0<es.length):n=es.length/\∃b off,a=some ⟨b,off,none⟩/\b<w.heap.size/\∀i,i<es.length->It w b (off+i*7) (eat es i):=by
 obtain⟨a',cap,e,_,hk⟩:=h
 simp only[Value.slice.injEq] at e
 obtain⟨rfl,rfl,rfl⟩:=e
 obtain⟨b,off,e,_,hb,hc⟩:=hk hp
 exact⟨rfl,b,off,e,hb,hc⟩
def wpos (xs:List Wy)(id:Int):Nat:=xs.findIdx λx=>x.id==id
def sing (l:List Nat):List (List Nat):=l.map λe=>[e]
theorem A0 (N:Nt)(es:List Eg)(i:Nat):(Vg N es i).length<=2:=by
 unfold Vg
 split<;>simp
def Qc4 (N:Nt)(es:List Eg)(r:Rl):List Nat:=Qe7 es (wpos N.ways r.frm) es.length
def growW (N:Nt)(es:List Eg)(r:Rl)(k:Nat):List (List Nat):=Qc2 es (sing (Qc4 N es r)) ((r.ways.take k).map λid=>Vg N es (wpos N.ways id))
theorem Z7.at {C:Nat}{w:World}{a:Option Addr}{n c:Nat}{ws:List (List Int)}(h:Z7 C w (.slice a n c) ws){i:Nat}(hi:i<ws.length):∃g u,a=some ⟨g,0,none⟩/\w.cell? ⟨g,i,none⟩=some u/\Qb C w u (wd ws i):=by
 obtain⟨cs,h1,h2⟩:=h
 obtain⟨h3,h4⟩:=h1
 rw[Nat.mul_one] at h3
 rcases h4 with⟨_,h4⟩|⟨g,cap,cur,e,hg,hh,hc,hm,hs,ht⟩
 ·omega
 ·simp only[Value.slice.injEq] at e
  refine⟨g,vat cs i,e.1,?_,h2 i hi⟩
  have e:(cur.toList.take (ws.length*1))[i]?=cs[i]?:=by rw[ht]
  rw[List.getElem?_take_of_lt (by omega),Array.getElem?_toList] at e
  simp[World.cell?,hh,e,vat,List.getD,show i<cs.length by omega]
theorem Vh.next {B:Nat}{w w':World}{v:Value}{xs:List Wy}(h:Vh B w v xs)(k:Nx w w'):Vh B w' v xs:=h.keep (k.keeps B)
def Q4h (C D:Nat)(w:World)(v:Value)(ws:List (List Int)):Prop:=
 ∃cs:List Value,w.ownsRow C 164 1 v ws.length cs/\∀i,i<ws.length->Qb D w (vat cs i) (wd ws i)
theorem Q4h.next {C D:Nat}{w w':World}{v:Value}{ws:List (List Int)}(h:Q4h C D w v ws)(k:Nx w w'):Q4h C D w' v ws:=by
 obtain⟨cs,h1,h2⟩:=h
 refine⟨cs,?_,λi hi=>(h2 i hi).next k⟩
 obtain⟨h3,h4⟩:=h1
 refine⟨h3,?_⟩
 rcases h4 with h4|⟨g,cap,cur,hv,hg,hh,r⟩
 ·exact Or.inl h4
 ·exact Or.inr ⟨g,cap,cur,hv,hg,(k.block g (Array.getElem?_eq_some_iff.1 hh).1).trans hh,r⟩
theorem Q4h.own {C D:Nat}{w:World}{v:Value}{ws:List (List Int)}(h:Q4h C D w v ws)(hD:D<=C):Z7 D w v ws:=by
 obtain⟨cs,h1,h2⟩:=h
 refine⟨cs,?_,h2⟩
 obtain⟨h3,h4⟩:=h1
 refine⟨h3,?_⟩
 rcases h4 with h4|⟨g,cap,cur,hv,hg,r⟩
 ·exact Or.inl h4
 ·exact Or.inr ⟨g,cap,cur,hv,by omega,r⟩
theorem Q4h.snoc {C D:Nat}{w w':World}{v v' u:Value}{ws:List (List Int)}{x:List Int}{cs:List Value}(h1:w.ownsRow C 164 1 v ws.length cs)(h2:∀i,i<ws.length->Qb D w (vat cs i) (wd ws i))
  (hu:Qb D w u x) (ho:Obj) (hg:(w.alloc ho).grownBy w' v.ownBlock) (hn:w'.ownsRow C 164 1 v' (ws.length+1) (cs++[u])):Q4h C D w' v' (ws++[x]):=by
 have hl:cs.length=ws.length:=by have:=h1.1;omega
 have kept:∀{z:Value}{zs:List Int},Qb D w z zs->Qb D w' z zs:=λ{z zs} hz=>World.ownsRow.kept (World.ownsRow.alloc hz ho) hg (Q96 hz h1 (by decide))
 refine⟨cs++[u],by rw[List.length_append];exact hn,λi hi=>?_⟩
 rw[List.length_append,List.length_singleton] at hi
 by_cases e:i<ws.length
 ·rw[Q4o e]
  have:vat (cs++[u]) i=vat cs i:=by simp[vat,List.getD,List.getElem?_append_left (show i<cs.length by omega)]
  rw[this]
  exact kept (h2 i e)
 ·have e':i=ws.length:=by omega
  rw[Q7y e']
  have:vat (cs++[u]) i=u:=by rw[e',<-hl];simp[vat,List.getD]
  rw[this]
  exact kept hu
theorem Qp {C ty sz n:Nat}{w w':World}{v:Value}{xs:List Value}(h:w.ownsRow C ty sz v n xs)(k:Nx w w'):w'.ownsRow C ty sz v n xs:=by
 obtain⟨h1,h2⟩:=h
 refine⟨h1,?_⟩
 rcases h2 with h2|⟨g,cap,cur,hv,hg,hh,r⟩
 ·exact Or.inl h2
 ·exact Or.inr ⟨g,cap,cur,hv,hg,(k.block g (Array.getElem?_eq_some_iff.1 hh).1).trans hh,r⟩
theorem Q3 {C ty sz n:Nat}{w:World}{v:Value}{xs:List Value}(h:w.ownsRow C ty sz v n xs):∃a c,v=.slice a n c:=by
 rcases h.2 with⟨rfl,h2⟩|⟨g,cap,cur,rfl,_⟩
 ·exact⟨none,0,by rw[h2]⟩
 ·exact⟨_,_,rfl⟩
end Go.Proofs.YtmmolhlihhdkcaaGreatDoor
