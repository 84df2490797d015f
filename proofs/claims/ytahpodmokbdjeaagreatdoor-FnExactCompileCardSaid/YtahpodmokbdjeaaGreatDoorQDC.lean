import Derived.Test.YtahpodmokbdjeaaGreatDoorQKN
namespace Go.Proofs.YtahpodmokbdjeaaGreatDoor
open Go.RowKit Go.Sort Tryz
set_option linter.unusedVariables false
set_option maxRecDepth 1000000
set_option maxHeartbeats 16000000
section
variable {t e:TypeId}{size bytes:Nat}{z:Value}
theorem Q91 (hinfo:(prog.info? e).map (λi=>(i.zero,i.size,i.bytes))=some (some z,size,bytes))(ht:prog.underlying t=some (.slice e))(hz:z.cells.size=size)(hsz:0<size)(hby:bytes<=1000)
  {ops:Array Oper}{rest:List Oper}{o:Oper}{a:Act}{Q:Exit->Act->World->Prop} (hgd:o.guard=none) (s x:Operand) (ho:o.op=.call { callee:=.builtin .append,args:=#[s,x],argTypes:=#[t,t] })
  (C n:Nat) (v:Value) (xs news:List Value) (w0:World) (hs:a.eval s=v) (hown:w0.ownsRow C e size v n xs) (hx:a.eval x=sL (sA w0.heap.size) 1 1) (hl:news.length=size) (h1:∀u∈news,u.oneCell'=true) (hn:n<=1000000) (hC:C<=w0.heap.size)
  (h:∀a' c' w',w'.ownsRow C e size (sL a' (n+1) c') (n+1) (xs++news)->Chg (λx=>some x=v.ownBlock) w0 w'->(∀g,(sL a' (n+1) c').ownBlock=some g->v.ownBlock=some g\/w0.heap.size<=g)->wpList prog ops Q rest (a.put o.dst (sL a' (n+1) c')) w') :
  wpList prog ops Q (o::rest) a (w0.alloc (.cells news.toArray e)):=by
 obtain⟨ii,hi,hz0,hz1,hz2⟩:=info_parts hinfo
 refine wpList_append_own_at _ hgd s x t ho C e ii z size bytes ht hi hz0 hz1 hz2 hz hsz v n xs hs (zB hown _) (aD w0.heap.size 0) 1 1 news hx (by rw[hl,Nat.one_mul]) (λj u hj=>Ql w0 _ _ _ rfl j u (by simpa using hj)) h1 (by unfold maxLen;omega) ?_ (by rw[Q3];omega) ?_
 ·have:(n+1)*bytes<=1000001*1000:=Nat.mul_le_mul (by omega) hby
  omega
 ·intro v' w' r1 r2 _ r4
  obtain⟨a',c',rfl⟩:=Q7 r1
  refine h a' c' w' r1 (Chg.grown ((World.grownBy_alloc w0 _ _).trans r2) (λb e=>e)) (λg hg=>?_)
  rcases r4 with r4|r4
  ·exact oL (by rw[<-r4];exact hg)
  ·rw[r4] at hg
   have:=zF hg
   rw[Q3] at this
   exact oR (by omega)
theorem Us (hinfo:(prog.info? e).map (λi=>(i.zero,i.size,i.bytes))=some (some z,size,bytes))(ht:prog.underlying t=some (.slice e))(hz:z.cells.size=size)(hsz:0<size)(hby:bytes<=1000)
  {k:Nat}{ops:Array Oper}{o:Oper}{a:Act}{K:Act->World->Prop}{Q:Exit->Act->World->Prop}{E:Prop} (hgd:o.guard=none) (s x:Operand) (ho:o.op=.call { callee:=.builtin .append,args:=#[s,x],argTypes:=#[t,t] })
  (C n:Nat) (v:Value) (xs news:List Value) (w0 W:World) (hW:W=w0.alloc (.cells news.toArray e)) (hs:a.eval s=v) (hown:w0.ownsRow C e size v n xs) (hx:a.eval x=sL (sA w0.heap.size) 1 1) (hl:news.length=size) (h1:∀u∈news,u.oneCell'=true) (hn:n<=1000000) (hC:C<=w0.heap.size)
  (h:∀a' c' w',w'.ownsRow C e size (sL a' (n+1) c') (n+1) (xs++news)->Chg (λx=>some x=v.ownBlock) w0 w'->(∀g,(sL a' (n+1) c').ownBlock=some g->v.ownBlock=some g\/w0.heap.size<=g)->K (a.put o.dst (sL a' (n+1) c')) w') :
  if Region.wanted o (yielded ops a.tmps)=true then Oper.wpIn Fence.wide k prog o a W K Q else E:=by
 obtain⟨ii,hi,hz0,hz1,hz2⟩:=info_parts hinfo
 subst hW
 refine Ze hgd s x t ho e ii z size bytes ht hi hz0 hz1 hz2 hz hsz C v n xs hs (zB hown _) (aD w0.heap.size 0) 1 1 news hx (by rw[hl,Nat.one_mul]) (λj u hj=>Ql w0 _ _ _ rfl j u (by simpa using hj)) h1 (by unfold maxLen;omega) ?_ (by rw[Q3];omega) ?_
 ·have:(n+1)*bytes<=1000001*1000:=Nat.mul_le_mul (by omega) hby
  omega
 ·intro v' w' r1 r2 r4
  obtain⟨a',c',rfl⟩:=Q7 r1
  refine h a' c' w' r1 (Chg.grown ((World.grownBy_alloc w0 _ _).trans r2) (λb e=>e)) (λg hg=>?_)
  rcases r4 with r4|r4
  ·exact oL (by rw[<-r4];exact hg)
  ·rw[r4] at hg
   have:=zF hg
   rw[Q3] at this
   exact oR (by omega)
end
theorem Po {ops:Array Oper}{rest:List Oper}{o:Oper}{a:Act}{Q:Exit->Act->World->Prop}(hgd:o.guard=none)(s x:Operand)(ho:o.op=.call { callee:=.builtin .append,args:=#[s,x],argTypes:=#[22,22] })
  (C n:Nat) (v:Value) (zs:List Int) (y:Int) (w0:World) (hs:a.eval s=v) (hown:Qd C w0 v zs) (hx:a.eval x=sL (sA w0.heap.size) 1 1) (hn:zs.length=n) (hm:n<=1000000) (hC:C<=w0.heap.size)
  (h:∀a' c' w',Qd C w' (sL a' (n+1) c') (zs++[y])->Chg (λx=>some x=v.ownBlock) w0 w'->(∀g,(sL a' (n+1) c').ownBlock=some g->v.ownBlock=some g\/w0.heap.size<=g)->wpList prog ops Q rest (a.put o.dst (sL a' (n+1) c')) w') :
  wpList prog ops Q (o::rest) a (w0.alloc (.cells #[iV y] 2)):=by
 subst hn
 refine Q91 U0 underlying22 rfl (by decide) (by decide) hgd s x ho C zs.length v (Jr zs) [iV y] w0 hs hown hx rfl (by intro u hu;simp at hu;subst hu;rfl) hm hC (λa' c' w' r1 r2 r3=>h a' c' w' ?_ r2 r3)
 exact Qd.snoc r1
theorem Xl {k:Nat}{ops:Array Oper}{o:Oper}{a:Act}{K:Act->World->Prop}{Q:Exit->Act->World->Prop}{E:Prop}(hgd:o.guard=none)(s x:Operand)(ho:o.op=.call { callee:=.builtin .append,args:=#[s,x],argTypes:=#[22,22] })
  (C n:Nat) (v:Value) (zs:List Int) (y:Int) (w0 W:World) (hW:W=w0.alloc (.cells #[iV y] 2)) (hs:a.eval s=v) (hown:Qd C w0 v zs) (hx:a.eval x=sL (sA w0.heap.size) 1 1) (hn:zs.length=n) (hm:n<=1000000) (hC:C<=w0.heap.size)
  (h:∀a' c' w',Qd C w' (sL a' (n+1) c') (zs++[y])->Chg (λx=>some x=v.ownBlock) w0 w'->(∀g,(sL a' (n+1) c').ownBlock=some g->v.ownBlock=some g\/w0.heap.size<=g)->K (a.put o.dst (sL a' (n+1) c')) w') :
  if Region.wanted o (yielded ops a.tmps)=true then Oper.wpIn Fence.wide k prog o a W K Q else E:=by
 subst hn
 refine Us U0 underlying22 rfl (by decide) (by decide) hgd s x ho C zs.length v (Jr zs) [iV y] w0 W hW hs hown hx rfl (by intro u hu;simp at hu;subst hu;rfl) hm hC (λa' c' w' r1 r2 r3=>h a' c' w' ?_ r2 r3)
 exact Qd.snoc r1
theorem Qgb {α:Type}{k:Nat}(hk:0<k)(l:List α)(f:α->List Value)(hf:∀x,(f x).length=k)(i q:Nat)(hq:q<k)(x:α)(hx:l[i]?=some x):(l.flatMap f)[i*k+q]?=(f x)[q]?:=by
 induction l generalizing i with
 |nil=>simp at hx
 |cons a l ih=>
  cases i with
  |zero=>
   simp at hx
   subst hx
   rw[List.flatMap_cons,Nat.zero_mul,Nat.zero_add,zW (by rw[hf];exact hq)]
  |succ i=>
   rw[List.flatMap_cons,yG (by rw[hf,Nat.succ_mul];omega),hf,show(i+1)*k+q-k=i*k+q by rw[Nat.succ_mul];omega]
   exact ih i (by simpa using hx)
theorem Xn {α:Type}{C t k n:Nat}{w:World}{v:Value}{l:List α}{f:α->List Value}(h:w.ownsRow C t k v n (l.flatMap f))(hl:l.length=n)(hk:0<k)(hf:∀x,(f x).length=k){i:Nat}{x:α}(hx:l[i]?=some x) :
  ∃b c,v=sL (sA b) n c/\n<=c/\n<=maxLen/\C<=b/\b<w.heap.size/\∀q,q<k->w.cell? (aD b (i*k+q))=(f x)[q]?:=by
 have hi:i<l.length:=(List.getElem?_eq_some_iff.1 hx).1
 obtain⟨h1,h2⟩:=h
 rcases h2 with⟨_,h3⟩|⟨b,cap,cur,hv,hg,hh,hc,hm,hs,ht⟩
 ·omega
 ·refine⟨b,cap,hv,hc,by omega,hg,(Array.getElem?_eq_some_iff.1 hh).1,λq hq=>?_⟩
  have hlt:i*k+q<n*k:=by
   have:(i+1)*k<=n*k:=Nat.mul_le_mul_right _ (by omega)
   rw[Nat.succ_mul] at this
   omega
  have e1:(cur.toList.take (n*k))[i*k+q]?=(l.flatMap f)[i*k+q]?:=by rw[ht]
  rw[zT hlt,zQ] at e1
  have e2:=Qgb hk l f hf i q hq x hx
  unfold World.cell?
  simp only[hh]
  rw[e1,e2]
  rfl
theorem Q7x {C t k n:Nat}{w:World}{v:Value}{xs:List Value}(h:w.ownsRow C t k v n xs):n<=maxLen:=by
 rcases h.2 with⟨_,h3⟩|⟨b,cap,cur,hv,hg,hh,hc,hm,hs,ht⟩
 ·rw[h3];exact nZ
 ·omega
theorem Q2 {p:Prop}(h:p):Z p:=h
def HVt (w:World)(b off:Nat)(x:Vx):Prop:=w.cell? (aD b off)=some (iV x.1)/\w.cell? (aD b (off+1))=some (iV x.2)
def HVs (B:Nat)(w:World)(v:Value)(l:List Vx):Prop:=Ji B w v l.length λb off i=>HVt w b (off+i*2) (vtx l i)
theorem HVs.next {B:Nat}{w w':World}{v:Value}{l:List Vx}(h:HVs B w v l)(k:Nx w w'):HVs B w' v l:=Ji.mono h lR k.size λb off hb hs i hi hc=>⟨Q1 k hc.1,Q1 k hc.2⟩
def PlV (l:List Vx)(u:Vx)(lo hi:Nat):Prop:=(∀i,i<lo->i<l.length->Vlt (vtx l i) u)/\∀i,hi<=i->i<l.length->¬Vlt (vtx l i) u
theorem Qbr {l:List Vx}{u:Vx}{lo hi m:Nat}(ha:Z5 l)(h:PlV l u lo hi)(hm:m<l.length)(hv:Vlt (vtx l m) u):PlV l u (m+1) hi:=
 ⟨λi hi' hl=>by
  by_cases e:i=m
  ·subst e;exact hv
  ·exact(Ig ha (show i<m by omega) hm).trans hv,h.2⟩
theorem Q3v {l:List Vx}{u:Vx}{lo hi m:Nat}(ha:Z5 l)(h:PlV l u lo hi)(hv:¬Vlt (vtx l m) u):PlV l u lo m:=
 ⟨h.1,λi hi' hl c=>by
  by_cases e:i=m
  ·subst e;exact hv c
  ·exact hv ((Ig ha (show m<i by omega) hl).trans c)⟩
theorem Eh {l:List Vx}{u:Vx}{lo:Nat}(ha:Z5 l)(h:PlV l u lo lo)(hn:lo<l.length->vtx l lo≠u):Jw l u=-1:=Q4v λhm=>by
 obtain⟨i,hi,e⟩:=Fj hm
 rcases Nat.lt_trichotomy i lo with c|c|c
 ·have:=h.1 i c hi;rw[e] at this;exact this.irr
 ·subst c;exact hn hi e
 ·have k:=Ig ha c hi
  rw[e] at k
  exact h.2 lo lR (by omega) k
theorem Qh7 (lo hi:Nat)(h:lo<hi):∃m:Nat,((lo:Int)+hi).tdiv 2=(m:Int)/\lo<=m/\m<hi:=by
 refine⟨(lo+hi)/2,?_,by omega,by omega⟩
 rw[Int.tdiv_eq_ediv_of_nonneg (by omega)]
 omega
theorem Tx (B:Nat)(v:Value)(l:List Vx)(u1 u2:Int)(w:World)(h0:HVs B w v l)(ha:Z5 l)(hl:l.length<=1000000) :
  Calls prog 24 #[v,.agg #[iV u1,iV u2]] w λe w'=>e=.returned (iV (Jw l (u1,u2)))/\Nx w w':=by
 have HA:Z (Z5 l):=ha
 have HB0:=BT.new w #[iV u1,iV u2] 70 _ rfl
 have HX0:Z (Nx w (w.alloc (.cells #[iV u1,iV u2] 70))):=Q4 _ _
 have HBX:Z (BT (w.alloc (.cells #[iV u1,iV u2] 70)) w.heap.size #[iV u1,iV u2] 70):=HB0
 obtain⟨a,cap,rfl,hn,hk⟩:=h0
 unfold maxLen at hn
 generalize hz:l.length=n at *
 have HZ:Z (l.length=n):=hz
 obtain⟨u,hu⟩:∃u:Vx,u=(u1,u2):=⟨_,rfl⟩
 have HU:Z ((u1,u2)=u):=hu.symm
 have HU1:Z (u.1=u1/\u.2=u2):=by subst hu;exact⟨rfl,rfl⟩
 clear hz ha hu HB0
 go_enter func24,ntmps24
 go_upto_region 1 with fail
 generalize w.alloc (.cells #[iV u1,iV u2] 70)=w0 at *
 go_wp2
 go_loopw [5,6,7] (λs5 s6 s7 wr=>∃lo hi:Nat,lo<=hi/\hi<=n/\s5=iV lo/\s6=iV hi/\Z (PlV l u lo hi)/\Z (Nx w0 wr)) (λs5 s6 _ _=>(intOf s6).toNat-(intOf s5).toNat)
 case atStart=>exact⟨0,n,nZ,lR,rfl,rfl,⟨λi hi=>absurd hi (zM _),λi h1 h2=>by rw[HZ.o] at h2;omega⟩,Nx.refl _⟩
 obtain⟨lo,hi,hlh,hhn,rfl,rfl,HP,HN⟩:=hrel
 have HNW:Z (Nx w wr):=HX0.o.trans HN.o
 have HBW:=HBX.o.next HN.o
 have y0:=HBW.c 0 rfl
 have y1:=HBW.c 1 rfl
 clear HBW
 by_cases hlt:lo<hi
 ·obtain⟨m,hm,hm1,hm2⟩:=Qh7 lo hi hlt
  have hlt':(lo:Int)<hi:=by omega
  have hmn:(m:Int)<n:=by omega
  have hm2':m<l.length:=by rw[HZ.o];omega
  obtain⟨b,off,rfl,hB,hb,hc⟩:=hk (by omega)
  obtain⟨e0,e1⟩:=hc m (by omega)
  have c0:=Q0 HNW.o hb e0
  have c1:=Q0 HNW.o hb e1
  have hwm:IntKind.i64.wrap ((lo:Int)+hi)=(lo:Int)+hi:=by rw[IntKind.wrap_i64];omega
  have HVV:Z (u=(u1,u2)):=HU.o.symm
  have hu1:=HU1.o.1
  have hu2:=HU1.o.2
  clear hc hk e0 e1
  by_cases hc1:(vtx l m).1<u1
  ·have d1:decide ((vtx l m).1<u1)=true:=by simpa using hc1
   have HP':Z (PlV l u (m+1) hi):=Qbr HA.o HP.o hm2' (oL (by rw[hu1];exact hc1))
   clear HVV hu1 hu2 hm2'
   generalize vtx l m=x at *
   go_wp2
   go_quiet (fail)
   go_wp2
   go_roundw
   case rel=>exact⟨m+1,hi,by omega,hhn,by go_num,rfl,HP',HN.o.trans ⟨rfl,rfl,rfl,lR,λ_ _=>rfl⟩⟩
   case measure=>simp[intOf];omega
  by_cases hc2:(vtx l m).1=u1
  ·by_cases hc3:(vtx l m).2<u2
   ·have d1:decide ((vtx l m).1<u1)=false:=by simpa using hc1
    have d2:((vtx l m).1==u1)=true:=by simpa using hc2
    have d3:decide ((vtx l m).2<u2)=true:=by simpa using hc3
    have HP':Z (PlV l u (m+1) hi):=Qbr HA.o HP.o hm2' (oR ⟨by rw[hu1];exact hc2,by rw[hu2];exact hc3⟩)
    clear HVV hu1 hu2 hm2'
    generalize vtx l m=x at *
    go_wp2
    go_quiet (fail)
    go_wp2
    go_roundw
    case rel=>exact⟨m+1,hi,by omega,hhn,by go_num,rfl,HP',HN.o.trans ⟨rfl,rfl,rfl,lR,λ_ _=>rfl⟩⟩
    case measure=>simp[intOf];omega
   ·have d1:decide ((vtx l m).1<u1)=false:=by simpa using hc1
    have d2:((vtx l m).1==u1)=true:=by simpa using hc2
    have d3:decide ((vtx l m).2<u2)=false:=by simpa using hc3
    have HP':Z (PlV l u lo m):=Q3v HA.o HP.o (λc=>by rcases c with c|c;exact hc1 (by rw[<-hu1];exact c);exact hc3 (by rw[<-hu2];exact c.2))
    clear HVV hu1 hu2 hm2'
    generalize vtx l m=x at *
    go_wp2
    go_quiet (fail)
    go_wp2
    go_roundw
    case rel=>exact⟨lo,m,hm1,by omega,rfl,rfl,HP',HN.o.trans ⟨rfl,rfl,rfl,lR,λ_ _=>rfl⟩⟩
    case measure=>simp[intOf];omega
  ·have d1:decide ((vtx l m).1<u1)=false:=by simpa using hc1
   have d2:((vtx l m).1==u1)=false:=by simpa using hc2
   have HP':Z (PlV l u lo m):=Q3v HA.o HP.o (λc=>by rcases c with c|c;exact hc1 (by rw[<-hu1];exact c);exact hc2 (by rw[<-hu1];exact c.1))
   clear HVV hu1 hu2 hm2'
   generalize vtx l m=x at *
   go_wp2
   go_quiet (fail)
   go_wp2
   go_roundw
   case rel=>exact⟨lo,m,hm1,by omega,rfl,rfl,HP',HN.o.trans ⟨rfl,rfl,rfl,lR,λ_ _=>rfl⟩⟩
   case measure=>simp[intOf];omega
 have ek:lo=hi:=by omega
 subst ek
 have hlt0:¬(lo:Int)<lo:=by omega
 by_cases hln:lo<n
 ·have hln':(lo:Int)<n:=by omega
  obtain⟨b,off,rfl,hB,hb,hc⟩:=hk (by omega)
  obtain⟨e0,e1⟩:=hc lo hln
  have c0:=Q0 HNW.o hb e0
  have c1:=Q0 HNW.o hb e1
  have hu1:=HU1.o.1
  have hu2:=HU1.o.2
  clear hc hk e0 e1
  by_cases hc1:(vtx l lo).1=u1
  ·have d1:((vtx l lo).1==u1)=true:=by simpa using hc1
   by_cases hc2:(vtx l lo).2=u2
   ·have d2:((vtx l lo).2==u2)=true:=by simpa using hc2
    have HI:Z ((lo:Int)=Jw l (u1,u2)):=by
     have e:vtx l lo=u:=Prod.ext (by rw[hu1];exact hc1) (by rw[hu2];exact hc2)
     unfold Z
     rw[HU.o,<-e,Qcu HA.o (by rw[HZ.o];exact hln)]
    clear hc1 hc2 hu1 hu2
    generalize vtx l lo=x at *
    go_wp2
    go_quiet (fail)
    go_wp2
    go_ret
    exact⟨Qv HI.o,HNW.o.trans ⟨rfl,rfl,rfl,lR,λ_ _=>rfl⟩⟩
   ·have d2:((vtx l lo).2==u2)=false:=by simpa using hc2
    have HI:Z ((-1:Int)=Jw l (u1,u2)):=HU.o▸(Eh HA.o HP.o (λ_ e=>hc2 (by rw[<-hu2,<-e]))).symm
    clear hc1 hc2 hu1 hu2
    generalize vtx l lo=x at *
    go_wp2
    go_quiet (fail)
    go_wp2
    go_ret
    exact⟨Qv HI.o,HNW.o.trans ⟨rfl,rfl,rfl,lR,λ_ _=>rfl⟩⟩
  ·have d1:((vtx l lo).1==u1)=false:=by simpa using hc1
   have HI:Z ((-1:Int)=Jw l (u1,u2)):=HU.o▸(Eh HA.o HP.o (λ_ e=>hc1 (by rw[<-hu1,<-e]))).symm
   clear hc1 hu1 hu2
   generalize vtx l lo=x at *
   go_wp2
   go_quiet (fail)
   go_wp2
   go_ret
   exact⟨Qv HI.o,HNW.o.trans ⟨rfl,rfl,rfl,lR,λ_ _=>rfl⟩⟩
 ·have hln':¬(lo:Int)<n:=by omega
  have HI:Z ((-1:Int)=Jw l (u1,u2)):=HU.o▸(Eh HA.o HP.o (λc=>absurd (by rw[HZ.o] at c;exact c) hln)).symm
  clear hk
  go_wp2
  go_quiet (fail)
  go_wp2
  go_ret
  exact⟨Qv HI.o,HNW.o.trans ⟨rfl,rfl,rfl,lR,λ_ _=>rfl⟩⟩
def Q7l (x:Vx):List Value:=[iV x.1,iV x.2]
def J0 (C:Nat)(w:World)(v:Value)(l:List Vx):Prop:=w.ownsRow C 70 2 v l.length (l.flatMap Q7l)
theorem Qgy:(prog.info? 70).map (λi=>(i.zero,i.size,i.bytes))=some (some (.agg #[iV 0,iV 0]),2,16):=by kernel_rfl
theorem Wv (w:World)(C:Nat)(h:C<=w.heap.size):J0 C (w.alloc (.cells #[] 70)) (sL (sA w.heap.size) 0 0) []:=
 ⟨rfl,.inr ⟨w.heap.size,0,#[],rfl,h,by show(w.heap.push _)[w.heap.size]?=_;simp,lR,by simp[maxLen],by simp,by simp⟩⟩
theorem J0.next {C:Nat}{w w':World}{v:Value}{l:List Vx}(h:J0 C w v l)(k:Nx w w'):J0 C w' v l:=V7 h k
theorem J0.base {C C':Nat}{w:World}{v:Value}{l:List Vx}(h:J0 C w v l)(hC:C'<=C):J0 C' w v l:=Jn h hC
theorem J0.held {C:Nat}{w:World}{v:Value}{l:List Vx}(h:J0 C w v l):HVs C w v l:=by
 obtain⟨a,c,rfl⟩:=Q7 h
 refine⟨a,c,rfl,Q7x h,λh0=>?_⟩
 obtain⟨b,c',e,-,-,hB,hb,-⟩:=Xn h rfl (by decide) (λ_=>rfl) (zJ h0)
 simp only[zC] at e
 refine⟨b,0,e.1,hB,hb,λi hi=>?_⟩
 obtain⟨b2,c2,e2,-,-,-,-,k⟩:=Xn h rfl (by decide) (λ_=>rfl) (zJ hi)
 simp only[zC] at e2
 have eb:b2=b:=by
  have x:=e.1.symm.trans e2.1
  simp only[Option.some.injEq,Addr.mk.injEq] at x
  exact x.1.symm
 subst eb
 have k0:=k 0 (by decide)
 have k1:=k 1 (by decide)
 rw[Yz hi]
 exact⟨by rw[Nat.zero_add];exact k0,by rw[Nat.zero_add];exact k1⟩
theorem Yx {ops:Array Oper}{rest:List Oper}{o:Oper}{a:Act}{Q:Exit->Act->World->Prop}(hgd:o.guard=none)(s x:Operand)(ho:o.op=.call { callee:=.builtin .append,args:=#[s,x],argTypes:=#[67,67] })
  (C n:Nat) (v:Value) (l:List Vx) (y:Vx) (w0:World) (hs:a.eval s=v) (hown:J0 C w0 v l) (hx:a.eval x=sL (sA w0.heap.size) 1 1) (hn:l.length=n) (hm:n<=1000000) (hC:C<=w0.heap.size)
  (h:∀a' c' w',J0 C w' (sL a' (n+1) c') (l++[y])->Chg (λx=>some x=v.ownBlock) w0 w'->(∀g,(sL a' (n+1) c').ownBlock=some g->v.ownBlock=some g\/w0.heap.size<=g)->wpList prog ops Q rest (a.put o.dst (sL a' (n+1) c')) w') :
  wpList prog ops Q (o::rest) a (w0.alloc (.cells #[iV y.1,iV y.2] 70)):=by
 subst hn
 refine Q91 Qgy underlying67 rfl (by decide) (by decide) hgd s x ho C l.length v (l.flatMap Q7l) [iV y.1,iV y.2] w0 hs hown hx rfl (by intro u hu;simp at hu;rcases hu with rfl|rfl<;>rfl) hm hC (λa' c' w' r1 r2 r3=>h a' c' w' ?_ r2 r3)
 unfold J0
 rw[zA,List.flatMap_append]
 exact r1
structure Gt (l:List Vx)(u:Vx)(k:Nat)(d:Bool):Prop where
 no:u∉l.take k
 yes:d=true->∃x∈l.take k,Vlt u x
 low:d=false->∀x∈l.take k,Vlt x u
def Vf (l:List Vx)(u:Vx)(k:Nat)(d:Bool):List Vx:=if d=true then Yo (l.take k) u else l.take k
theorem Tg {l:List Vx}{k:Nat}(h:k<l.length):l.take (k+1)=l.take k++[vtx l k]:=by rw[zR h,Yz h]
theorem Q8g {l:List Vx}{u:Vx}{k:Nat}(h:Gt l u k false)(hk:k<l.length)(hv:Vlt (vtx l k) u):Gt l u (k+1) false/\Vf l u (k+1) false=Vf l u k false++[vtx l k]:=by
 refine⟨⟨?_,(λe=>by cases e),λ_ x hx=>?_⟩,?_⟩
 ·rw[Tg hk,yM,List.mem_singleton]
  rintro(a|a)
  ·exact h.no a
  ·rw[<-a] at hv;exact hv.irr
 ·rw[Tg hk,yM,List.mem_singleton] at hx
  rcases hx with a|a
  ·exact h.low rfl x a
  ·rw[a];exact hv
 ·unfold Vf
  rw[if_neg (by decide),if_neg (by decide),Tg hk]
theorem Qcp {l:List Vx}{u:Vx}{k:Nat}(h:Gt l u k false)(hk:k<l.length)(hv:Vlt u (vtx l k)):Gt l u (k+1) true/\Vf l u (k+1) true=Vf l u k false++[u]++[vtx l k]:=by
 refine⟨⟨?_,λ_=>⟨_,by rw[Tg hk];simp,hv⟩,λe=>by cases e⟩,?_⟩
 ·rw[Tg hk,yM,List.mem_singleton]
  rintro(a|a)
  ·exact h.no a
  ·rw[<-a] at hv;exact hv.irr
 ·unfold Vf
  rw[if_pos rfl,if_neg (by decide),Tg hk,Q1a hv (h.low rfl)]
theorem Q4o {l:List Vx}{u:Vx}{k:Nat}(h:Gt l u k true)(hk:k<l.length)(hv:vtx l k≠u):Gt l u (k+1) true/\Vf l u (k+1) true=Vf l u k true++[vtx l k]:=by
 obtain⟨x,hx,hxu⟩:=h.yes rfl
 refine⟨⟨?_,λ_=>⟨x,by rw[Tg hk,yM];exact oL hx,hxu⟩,λe=>by cases e⟩,?_⟩
 ·rw[Tg hk,yM,List.mem_singleton]
  rintro(a|a)
  ·exact h.no a
  ·exact hv a.symm
 ·unfold Vf
  rw[if_pos rfl,if_pos rfl,Tg hk,Q19 ⟨x,hx,hxu⟩]
theorem Kx (C:Nat)(v:Value)(l:List Vx)(u1 u2:Int)(w:World)(h0:J0 C w v l)(hC:C<=w.heap.size)(ha:Z5 l)(hl:l.length<=200000) :
  Calls prog 67 #[v,.agg #[iV u1,iV u2]] w λe w'=>(∃a' n' c',e=.returned (sL a' n' c')/\J0 C w' (sL a' n' c') (Yo l (u1,u2))/\∀g,(sL a' n' c').ownBlock=some g->v.ownBlock=some g\/w.heap.size<=g)/\Nx w w':=by
 have HOld:=Q2 h0
 have HC:=Q2 hC
 have HA:Z (Z5 l):=ha
 have HXa:Z (Nx w (w.alloc (.cells #[iV u1,iV u2] 70))):=Q4 _ _
 have HBX:Z (BT (w.alloc (.cells #[iV u1,iV u2] 70)) w.heap.size #[iV u1,iV u2] 70):=BT.new _ _ _ _ rfl
 obtain⟨a,cap,e,hn,hk⟩:=h0.held
 subst e
 unfold maxLen at hn
 generalize hz:l.length=n at *
 have HZ:Z (l.length=n):=hz
 obtain⟨u,hu⟩:∃u:Vx,u=(u1,u2):=⟨_,rfl⟩
 have HU:Z ((u1,u2)=u):=hu.symm
 have HU1:Z (u.1=u1/\u.2=u2):=by subst hu;exact⟨rfl,rfl⟩
 have HK:Z (0<n->∃b off,a=some (aD b off)/\C<=b/\b<w.heap.size/\∀i,i<n->HVt w b (off+i*2) (vtx l i)):=hk
 clear hz ha hu h0 hC hk
 go_enter func67,ntmps67
 go_upto_region 1 with fail
 generalize w.alloc (.cells #[iV u1,iV u2] 70)=w0 at *
 have HO0:Z (J0 w0.heap.size (w0.alloc (.cells #[] 70)) (sL (sA w0.heap.size) 0 0) (Vf l u 0 false)):=Wv w0 _ lR
 have HXb:Z (Nx w0 (w0.alloc (.cells #[] 70))):=Q4 _ _
 go_upto_region 2 with fail
 generalize w0.alloc (.cells #[] 70)=ws at *
 go_wp2
 go_loopw [5,6,7] (λs5 s6 s7 wr=>∃(k q c:Nat) (d:Bool) (x:Option Addr),k<=n/\q<=k+d.toNat/\s7=iV k/\s6=.bool d/\s5=sL x q c/\Z (Gt l u k d)/\Z ((Vf l u k d).length=q)/\Z (J0 w0.heap.size wr (sL x q c) (Vf l u k d))/\Z (Nx w0 wr)) (λ_ _ i _=>n-(intOf i).toNat)
 case atStart=>exact⟨0,0,0,false,_,nZ,nZ,rfl,rfl,rfl,⟨by simp,(λe=>by cases e),λ_ x hx=>by simp at hx⟩,rfl,HO0,HXb⟩
 clear HO0 HXb
 obtain⟨k,q,c,d,x,hkn,hqk,rfl,rfl,rfl,HI,HLN,HO,HX⟩:=hrel
 by_cases hlt:k<n
 ·have hlt':(k:Int)<n:=by omega
  have hkl:k<l.length:=by rw[HZ.o];exact hlt
  obtain⟨b,off,rfl,hB,hb,hc⟩:=HK.o (by omega)
  obtain⟨e0,e1⟩:=hc k hlt
  obtain⟨x1,hx1⟩:∃z,(vtx l k).1=z:=⟨_,rfl⟩
  obtain⟨x2,hx2⟩:∃z,(vtx l k).2=z:=⟨_,rfl⟩
  rw[hx1] at e0
  rw[hx2] at e1
  have HXE:Z ((vtx l k).1=x1/\(vtx l k).2=x2):=⟨hx1,hx2⟩
  have HVX:Z (vtx l k=(x1,x2)):=Prod.ext hx1 hx2
  have HE0:Z (w.cell? (aD b (off+k*2))=some (iV x1)):=e0
  have HE1:Z (w.cell? (aD b (off+k*2+1))=some (iV x2)):=e1
  have HBB:Z (b<w.heap.size):=hb
  have c0:=Q0 (HXa.o.trans HX.o) hb e0
  have c1:=Q0 (HXa.o.trans HX.o) hb e1
  have HBW:=HBX.o.next HX.o
  have y0:=HBW.c 0 rfl
  have y1:=HBW.c 1 rfl
  clear HBW hc e0 e1 hx1 hx2
  by_cases hc1:x1=u1
  ·by_cases hc2:x2=u2
   ·have d1:(x1==u1)=true:=by simpa using hc1
    have d2:(x2==u2)=true:=by simpa using hc2
    have HF:Z (Yo l (u1,u2)=l):=by
     unfold Z
     rw[HU.o]
     refine Q4p HA.o ?_
     have e:vtx l k=u:=by rw[HVX.o,<-HU.o,hc1,hc2]
     rw[<-e]
     exact Zd hkl
    clear hc1 hc2
    go_wp2
    go_quiet (fail)
    go_wp2
    go_ret
    have hO:J0 C _ (sL (some (aD b off)) n cap) l:=HOld.o.next ((HXa.o.trans HX.o).trans ⟨rfl,rfl,rfl,lR,λ_ _=>rfl⟩)
    exact⟨⟨_,_,_,rfl,by rw[HF.o];exact hO,λg hg=>oL hg⟩,(HXa.o.trans HX.o).trans ⟨rfl,rfl,rfl,lR,λ_ _=>rfl⟩⟩
   ·cases d with
    |true=>
     have d1:(x1==u1)=true:=by simpa using hc1
     have d2:(x2==u2)=false:=by simpa using hc2
     obtain⟨hq,he⟩:=Q4o HI.o hkl (λe=>hc2 (by rw[<-HXE.o.2,e];exact HU1.o.2))
     have HQ:Z (Gt l u (k+1) true):=hq
     have HE:Z (Vf l u (k+1) true=Vf l u k true++[(x1,x2)]):=by unfold Z;rw[he,HVX.o]
     clear hq he hc1 hc2
     go_wp2
     go_quiet (fail)
     go_wp2
     go_quiet (fail)
     have HOq:Z (∀m,J0 w0.heap.size (wr.drewN m) (sL x q c) (Vf l u k true)):=λm=>HO.o.next ⟨rfl,rfl,rfl,lR,λ_ _=>rfl⟩
     have HXq:Z (∀m,Nx w0 (wr.drewN m)):=λm=>HX.o.trans ⟨rfl,rfl,rfl,lR,λ_ _=>rfl⟩
     have HL0:=HLN
     have hqk:q<=k+1:=hqk
     have hq1:q<=1000000:=by omega
     have hq2:q+1<=1000000:=by omega
     go_wp2_with (at_builtin;refine Yx rfl _ _ rfl w0.heap.size (q) (sL x q c) (Vf l u k true) (x1,x2) _ rfl (HOq.o _) rfl HL0.o hq1 (HXq.o 0).size ?_)
     intro a0' c0' w0' r1 r2 r3
     have H1:=Q2 r1
     have HL1:Z ((Vf l u k true++[(x1,x2)]).length=q+1):=by unfold Z;rw[zA,HL0.o];rfl
     have HX1':Z (Nx w0 w0'):=Below.trans (HXq.o _) (r2.below (HXq.o _).size (λq hq=>(Q5 HO.o q hq.symm).1))
     have HZ1:Z (w0.heap.size<=w0'.heap.size):=HX1'.o.size
     clear r1 r2 r3 c0 c1 y0 y1
     go_wp2
     go_roundw
     case rel=>exact⟨k+1,q+1,c0',true,a0',by omega,(show q+1<=k+1+1 by omega),by go_num,rfl,rfl,HQ,by unfold Z;rw[HE.o];simp[HLN.o],by rw[HE.o];exact H1.o,HX1'⟩
     case measure=>simp[intOf];omega
    |false=>
     by_cases hc3:u2<x2
     ·have d1:(x1==u1)=true:=by simpa using hc1
      have d2:(x2==u2)=false:=by simpa using hc2
      have d3:decide (u1<x1)=false:=by simp;omega
      have d4:decide (u2<x2)=true:=by simpa using hc3
      obtain⟨hq,he⟩:=Qcp HI.o hkl (oR ⟨by rw[HU1.o.1,HXE.o.1];exact hc1.symm,by rw[HU1.o.2,HXE.o.2];exact hc3⟩)
      have HQ:Z (Gt l u (k+1) true):=hq
      have HE:Z (Vf l u (k+1) true=Vf l u k false++[(u1,u2),(x1,x2)]):=by unfold Z;rw[he,HVX.o,HU.o,yE];rfl
      clear hq he hc1 hc2 hc3
      go_wp2
      go_quiet (fail)
      go_wp2
      go_quiet (fail)
      have HOq:Z (∀m,J0 w0.heap.size (wr.drewN m) (sL x q c) (Vf l u k false)):=λm=>HO.o.next ⟨rfl,rfl,rfl,lR,λ_ _=>rfl⟩
      have HXq:Z (∀m,Nx w0 (wr.drewN m)):=λm=>HX.o.trans ⟨rfl,rfl,rfl,lR,λ_ _=>rfl⟩
      have HL0:=HLN
      have hqk:q<=k+0:=hqk
      have hq1:q<=1000000:=by omega
      have hq2:q+1<=1000000:=by omega
      go_wp2_with (at_builtin;refine Yx rfl _ _ rfl w0.heap.size (q) (sL x q c) (Vf l u k false) (u1,u2) _ rfl (HOq.o _) rfl HL0.o hq1 (HXq.o 0).size ?_)
      intro a0' c0' w0' r1 r2 r3
      have H1:=Q2 r1
      have HL1:Z ((Vf l u k false++[(u1,u2)]).length=q+1):=by unfold Z;rw[zA,HL0.o];rfl
      have HX1':Z (Nx w0 w0'):=Below.trans (HXq.o _) (r2.below (HXq.o _).size (λq hq=>(Q5 HO.o q hq.symm).1))
      have HZ1:Z (w0.heap.size<=w0'.heap.size):=HX1'.o.size
      clear r1 r2 r3 c0 c1 y0 y1
      have c0:=Q0 (HXa.o.trans HX1'.o) HBB.o HE0.o
      have c1:=Q0 (HXa.o.trans HX1'.o) HBB.o HE1.o
      go_wp2_with (at_builtin;refine Yx rfl _ _ rfl w0.heap.size (q+1) (sL a0' (q+1) c0') (Vf l u k false++[(u1,u2)]) (x1,x2) w0' rfl H1.o rfl HL1.o hq2 HZ1.o ?_)
      intro a1' c1' w1' r1 r2 r3
      have H2:=Q2 r1
      have HL2:Z ((Vf l u k false++[(u1,u2)]++[(x1,x2)]).length=q+1+1):=by unfold Z;rw[zA,HL1.o];rfl
      have HX2':Z (Nx w0 w1'):=Below.trans HX1'.o (r2.below HX1'.o.size (λq hq=>(Q5 H1.o q hq.symm).1))
      have HZ2:Z (w0.heap.size<=w1'.heap.size):=HX2'.o.size
      clear r1 r2 r3 c0 c1
      go_wp2
      go_roundw
      case rel=>exact⟨k+1,q+1+1,c1',true,a1',by omega,(show q+1+1<=k+1+1 by omega),by go_num,rfl,rfl,HQ,by unfold Z;rw[HE.o];simp[HLN.o],by rw[HE.o];exact H2.o,HX2'⟩
      case measure=>simp[intOf];omega
     ·have d1:(x1==u1)=true:=by simpa using hc1
      have d2:(x2==u2)=false:=by simpa using hc2
      have d3:decide (u1<x1)=false:=by simp;omega
      have d4:decide (u2<x2)=false:=by simpa using hc3
      obtain⟨hq,he⟩:=Q8g HI.o hkl (oR ⟨by rw[HU1.o.1,HXE.o.1];exact hc1,by rw[HU1.o.2,HXE.o.2];omega⟩)
      have HQ:Z (Gt l u (k+1) false):=hq
      have HE:Z (Vf l u (k+1) false=Vf l u k false++[(x1,x2)]):=by unfold Z;rw[he,HVX.o]
      clear hq he hc1 hc2 hc3
      go_wp2
      go_quiet (fail)
      go_wp2
      go_quiet (fail)
      have HOq:Z (∀m,J0 w0.heap.size (wr.drewN m) (sL x q c) (Vf l u k false)):=λm=>HO.o.next ⟨rfl,rfl,rfl,lR,λ_ _=>rfl⟩
      have HXq:Z (∀m,Nx w0 (wr.drewN m)):=λm=>HX.o.trans ⟨rfl,rfl,rfl,lR,λ_ _=>rfl⟩
      have HL0:=HLN
      have hqk:q<=k+0:=hqk
      have hq1:q<=1000000:=by omega
      have hq2:q+1<=1000000:=by omega
      go_wp2_with (at_builtin;refine Yx rfl _ _ rfl w0.heap.size (q) (sL x q c) (Vf l u k false) (x1,x2) _ rfl (HOq.o _) rfl HL0.o hq1 (HXq.o 0).size ?_)
      intro a0' c0' w0' r1 r2 r3
      have H1:=Q2 r1
      have HL1:Z ((Vf l u k false++[(x1,x2)]).length=q+1):=by unfold Z;rw[zA,HL0.o];rfl
      have HX1':Z (Nx w0 w0'):=Below.trans (HXq.o _) (r2.below (HXq.o _).size (λq hq=>(Q5 HO.o q hq.symm).1))
      have HZ1:Z (w0.heap.size<=w0'.heap.size):=HX1'.o.size
      clear r1 r2 r3 c0 c1 y0 y1
      go_wp2
      go_roundw
      case rel=>exact⟨k+1,q+1,c0',false,a0',by omega,(show q+1<=k+1+0 by omega),by go_num,rfl,rfl,HQ,by unfold Z;rw[HE.o];simp[HLN.o],by rw[HE.o];exact H1.o,HX1'⟩
      case measure=>simp[intOf];omega
  ·cases d with
   |true=>
    have d1:(x1==u1)=false:=by simpa using hc1
    obtain⟨hq,he⟩:=Q4o HI.o hkl (λe=>hc1 (by rw[<-HXE.o.1,e];exact HU1.o.1))
    have HQ:Z (Gt l u (k+1) true):=hq
    have HE:Z (Vf l u (k+1) true=Vf l u k true++[(x1,x2)]):=by unfold Z;rw[he,HVX.o]
    clear hq he hc1
    go_wp2
    go_quiet (fail)
    go_wp2
    go_quiet (fail)
    have HOq:Z (∀m,J0 w0.heap.size (wr.drewN m) (sL x q c) (Vf l u k true)):=λm=>HO.o.next ⟨rfl,rfl,rfl,lR,λ_ _=>rfl⟩
    have HXq:Z (∀m,Nx w0 (wr.drewN m)):=λm=>HX.o.trans ⟨rfl,rfl,rfl,lR,λ_ _=>rfl⟩
    have HL0:=HLN
    have hqk:q<=k+1:=hqk
    have hq1:q<=1000000:=by omega
    have hq2:q+1<=1000000:=by omega
    go_wp2_with (at_builtin;refine Yx rfl _ _ rfl w0.heap.size (q) (sL x q c) (Vf l u k true) (x1,x2) _ rfl (HOq.o _) rfl HL0.o hq1 (HXq.o 0).size ?_)
    intro a0' c0' w0' r1 r2 r3
    have H1:=Q2 r1
    have HL1:Z ((Vf l u k true++[(x1,x2)]).length=q+1):=by unfold Z;rw[zA,HL0.o];rfl
    have HX1':Z (Nx w0 w0'):=Below.trans (HXq.o _) (r2.below (HXq.o _).size (λq hq=>(Q5 HO.o q hq.symm).1))
    have HZ1:Z (w0.heap.size<=w0'.heap.size):=HX1'.o.size
    clear r1 r2 r3 c0 c1 y0 y1
    go_wp2
    go_roundw
    case rel=>exact⟨k+1,q+1,c0',true,a0',by omega,(show q+1<=k+1+1 by omega),by go_num,rfl,rfl,HQ,by unfold Z;rw[HE.o];simp[HLN.o],by rw[HE.o];exact H1.o,HX1'⟩
    case measure=>simp[intOf];omega
   |false=>
    by_cases hc3:u1<x1
    ·have d1:(x1==u1)=false:=by simpa using hc1
     have d3:decide (u1<x1)=true:=by simpa using hc3
     obtain⟨hq,he⟩:=Qcp HI.o hkl (oL (by rw[HU1.o.1,HXE.o.1];exact hc3))
     have HQ:Z (Gt l u (k+1) true):=hq
     have HE:Z (Vf l u (k+1) true=Vf l u k false++[(u1,u2),(x1,x2)]):=by unfold Z;rw[he,HVX.o,HU.o,yE];rfl
     clear hq he hc1 hc3
     go_wp2
     go_quiet (fail)
     go_wp2
     go_quiet (fail)
     have HOq:Z (∀m,J0 w0.heap.size (wr.drewN m) (sL x q c) (Vf l u k false)):=λm=>HO.o.next ⟨rfl,rfl,rfl,lR,λ_ _=>rfl⟩
     have HXq:Z (∀m,Nx w0 (wr.drewN m)):=λm=>HX.o.trans ⟨rfl,rfl,rfl,lR,λ_ _=>rfl⟩
     have HL0:=HLN
     have hqk:q<=k+0:=hqk
     have hq1:q<=1000000:=by omega
     have hq2:q+1<=1000000:=by omega
     go_wp2_with (at_builtin;refine Yx rfl _ _ rfl w0.heap.size (q) (sL x q c) (Vf l u k false) (u1,u2) _ rfl (HOq.o _) rfl HL0.o hq1 (HXq.o 0).size ?_)
     intro a0' c0' w0' r1 r2 r3
     have H1:=Q2 r1
     have HL1:Z ((Vf l u k false++[(u1,u2)]).length=q+1):=by unfold Z;rw[zA,HL0.o];rfl
     have HX1':Z (Nx w0 w0'):=Below.trans (HXq.o _) (r2.below (HXq.o _).size (λq hq=>(Q5 HO.o q hq.symm).1))
     have HZ1:Z (w0.heap.size<=w0'.heap.size):=HX1'.o.size
     clear r1 r2 r3 c0 c1 y0 y1
     have c0:=Q0 (HXa.o.trans HX1'.o) HBB.o HE0.o
     have c1:=Q0 (HXa.o.trans HX1'.o) HBB.o HE1.o
     go_wp2_with (at_builtin;refine Yx rfl _ _ rfl w0.heap.size (q+1) (sL a0' (q+1) c0') (Vf l u k false++[(u1,u2)]) (x1,x2) w0' rfl H1.o rfl HL1.o hq2 HZ1.o ?_)
     intro a1' c1' w1' r1 r2 r3
     have H2:=Q2 r1
     have HL2:Z ((Vf l u k false++[(u1,u2)]++[(x1,x2)]).length=q+1+1):=by unfold Z;rw[zA,HL1.o];rfl
     have HX2':Z (Nx w0 w1'):=Below.trans HX1'.o (r2.below HX1'.o.size (λq hq=>(Q5 H1.o q hq.symm).1))
     have HZ2:Z (w0.heap.size<=w1'.heap.size):=HX2'.o.size
     clear r1 r2 r3 c0 c1
     go_wp2
     go_roundw
     case rel=>exact⟨k+1,q+1+1,c1',true,a1',by omega,(show q+1+1<=k+1+1 by omega),by go_num,rfl,rfl,HQ,by unfold Z;rw[HE.o];simp[HLN.o],by rw[HE.o];exact H2.o,HX2'⟩
     case measure=>simp[intOf];omega
    ·have d1:(x1==u1)=false:=by simpa using hc1
     have d3:decide (u1<x1)=false:=by simpa using hc3
     obtain⟨hq,he⟩:=Q8g HI.o hkl (oL (by rw[HU1.o.1,HXE.o.1];omega))
     have HQ:Z (Gt l u (k+1) false):=hq
     have HE:Z (Vf l u (k+1) false=Vf l u k false++[(x1,x2)]):=by unfold Z;rw[he,HVX.o]
     clear hq he hc1 hc3
     go_wp2
     go_quiet (fail)
     go_wp2
     go_quiet (fail)
     have HOq:Z (∀m,J0 w0.heap.size (wr.drewN m) (sL x q c) (Vf l u k false)):=λm=>HO.o.next ⟨rfl,rfl,rfl,lR,λ_ _=>rfl⟩
     have HXq:Z (∀m,Nx w0 (wr.drewN m)):=λm=>HX.o.trans ⟨rfl,rfl,rfl,lR,λ_ _=>rfl⟩
     have HL0:=HLN
     have hqk:q<=k+0:=hqk
     have hq1:q<=1000000:=by omega
     have hq2:q+1<=1000000:=by omega
     go_wp2_with (at_builtin;refine Yx rfl _ _ rfl w0.heap.size (q) (sL x q c) (Vf l u k false) (x1,x2) _ rfl (HOq.o _) rfl HL0.o hq1 (HXq.o 0).size ?_)
     intro a0' c0' w0' r1 r2 r3
     have H1:=Q2 r1
     have HL1:Z ((Vf l u k false++[(x1,x2)]).length=q+1):=by unfold Z;rw[zA,HL0.o];rfl
     have HX1':Z (Nx w0 w0'):=Below.trans (HXq.o _) (r2.below (HXq.o _).size (λq hq=>(Q5 HO.o q hq.symm).1))
     have HZ1:Z (w0.heap.size<=w0'.heap.size):=HX1'.o.size
     clear r1 r2 r3 c0 c1 y0 y1
     go_wp2
     go_roundw
     case rel=>exact⟨k+1,q+1,c0',false,a0',by omega,(show q+1<=k+1+0 by omega),by go_num,rfl,rfl,HQ,by unfold Z;rw[HE.o];simp[HLN.o],by rw[HE.o];exact H1.o,HX1'⟩
     case measure=>simp[intOf];omega
 have ek:k=n:=by omega
 subst ek
 have hlt0:¬(k:Int)<k:=by omega
 have HTK:Z (l.take k=l):=by unfold Z;rw[<-HZ.o,zU]
 cases d with
 |true=>
  have HF:Z (Vf l u k true=Yo l (u1,u2)):=by unfold Z Vf;rw[if_pos rfl,HTK.o,HU.o]
  go_wp2
  go_ret
  exact⟨⟨_,_,_,rfl,by rw[<-HF.o];exact HO.o.base (zP HC.o HXa.o.size),λg hg=>oR (zP HXa.o.size (Q5 HO.o g hg).1)⟩,HXa.o.trans HX.o⟩
 |false=>
  have HF:Z (Vf l u k false++[(u1,u2)]=Yo l (u1,u2)):=by
   unfold Z
   rw[HU.o,Ey (by have h:=HI.o.low rfl;rw[HTK.o] at h;exact h)]
   unfold Vf
   rw[if_neg (by decide),HTK.o]
  have HZ0:Z (w0.heap.size<=wr.heap.size):=HX.o.size
  have HBW:=HBX.o.next HX.o
  have y0:=HBW.c 0 rfl
  have y1:=HBW.c 1 rfl
  clear HBW
  have hqk:q<=k+0:=hqk
  have hq1:q<=1000000:=by omega
  go_wp2_with (at_builtin;refine Yx rfl _ _ rfl w0.heap.size q (sL x q c) (Vf l u k false) (u1,u2) wr rfl HO.o rfl HLN.o hq1 HZ0.o ?_)
  intro a0' c0' w0' r1 r2 r3
  have HX1:Z (Nx w0 w0'):=Below.trans HX.o (r2.below HX.o.size (λq hq=>(Q5 HO.o q hq.symm).1))
  have H1:=Q2 r1
  clear r1 r2 r3 y0 y1
  go_wp2
  go_ret
  exact⟨⟨_,_,_,rfl,by rw[<-HF.o];exact H1.o.base (zP HC.o HXa.o.size),λg hg=>oR (zP HXa.o.size (Q5 H1.o g hg).1)⟩,HXa.o.trans HX1.o⟩
end Go.Proofs.YtahpodmokbdjeaaGreatDoor
