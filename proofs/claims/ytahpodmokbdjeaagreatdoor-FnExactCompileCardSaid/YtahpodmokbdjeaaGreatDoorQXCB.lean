import Derived.Test.YtahpodmokbdjeaaGreatDoorQXAA
namespace Go.Proofs.YtahpodmokbdjeaaGreatDoor
open Go.RowKit Go.Sort Tryz
set_option linter.unusedVariables false
set_option maxRecDepth 1000000
set_option maxHeartbeats 16000000
theorem Qf1 {a b:List Int}(hl:a.length=b.length)(hn:a≠b)(h:Uu a b=false):Uu b a=true:=by
 induction a generalizing b with
 |nil=>cases b with
  |nil=>exact absurd rfl hn
  |cons y b=>simp at hl
 |cons x a ih=>cases b with
  |nil=>simp at hl
  |cons y b=>
   unfold Uu at h ⊢
   by_cases e:x=y
   ·subst e
    rw[if_pos rfl] at h ⊢
    exact ih (by simpa using hl) (λe=>hn (by rw[e])) h
   ·rw[if_neg e] at h
    rw[if_neg (λh'=>e h'.symm)]
    simp at h ⊢
    omega
theorem Q8x {a b:List Int}(hn:a≠b)(h:Vv a b=false):Vv b a=true:=by
 unfold Vv at h ⊢
 by_cases e:a.length=b.length
 ·rw[if_pos e] at h
  rw[if_pos e.symm]
  exact Qf1 e hn h
 ·rw[if_neg e] at h
  rw[if_neg (λh'=>e h'.symm)]
  simp at h ⊢
  omega
def Zp (ws:List (List Int))(i:Nat)(x:List Int):List (List Int):=ws.take i++x::ws.drop i
theorem Yg {ws:List (List Int)}{i:Nat}(x:List Int)(h:i<=ws.length):(Zp ws i x).length=ws.length+1:=by
 simp[Zp];omega
theorem U2 {ws:List (List Int)}{i:Nat}(x:List Int)(h:i<=ws.length)(j:Nat):wd (Zp ws i x) j=if j<i then wd ws j else if j=i then x else wd ws (j-1):=by
 unfold wd Zp
 have hl:(ws.take i).length=i:=by rw[yC];omega
 by_cases c:j<i
 ·rw[if_pos c,List.getD,zW (by omega),zT c];rfl
 ·rw[if_neg c,List.getD,yG (by omega),hl]
  by_cases d:j=i
  ·subst d
   rw[if_pos rfl];simp
  ·rw[if_neg d]
   obtain⟨m,rfl⟩:∃m,j=i+(m+1):=⟨j-i-1,by omega⟩
   rw[show i+(m+1)-i=m+1 by omega,List.getElem?_cons_succ,List.getElem?_drop,show i+(m+1)-1=i+m by omega];rfl
theorem Qa8 {ws:List (List Int)}{x:List Int}{i:Nat}(ha:Y2 ws)(h:Xf ws x i i)(hi:i<=ws.length)(hn:∀j,j<ws.length->wd ws j≠x):Y2 (Zp ws i x):=by
 intro a b hab hb
 rw[Yg x hi] at hb
 rw[U2 x hi,U2 x hi]
 by_cases c1:b<i
 ·rw[if_pos c1,if_pos (by omega)];exact ha a b hab (by omega)
 ·rw[if_neg c1]
  by_cases c2:b=i
  ·subst c2
   rw[if_pos rfl,if_pos hab]
   exact h.1 a hab
  ·rw[if_neg c2]
   have hx:Vv x (wd ws (b-1))=true:=Q8x (hn (b-1) (by omega)) (h.2 (b-1) (by omega) (by omega))
   by_cases c3:a<i
   ·rw[if_pos c3];exact ha a (b-1) (by omega) (by omega)
   ·rw[if_neg c3]
    by_cases c4:a=i
    ·rw[if_pos c4];exact hx
    ·rw[if_neg c4];exact ha (a-1) (b-1) (by omega) (by omega)
def inW (ws:List (List Int))(x:List Int):Prop:=∃j,j<ws.length/\wd ws j=x
def Q0f (ws:List (List Int))(x:List Int)(ws':List (List Int)):Prop:=
 (inW ws x/\ws'=ws)\/(¬inW ws x/\∃i,i<=ws.length/\Xf ws x i i/\ws'=Zp ws i x)
theorem Q0f.asc {ws ws':List (List Int)}{x:List Int}(h:Q0f ws x ws')(ha:Y2 ws):Y2 ws':=by
 rcases h with⟨_,rfl⟩|⟨hn,i,hi,hp,rfl⟩
 ·exact ha
 ·exact Qa8 ha hp hi λj hj e=>hn ⟨j,hj,e⟩
theorem Q0f.mem {ws ws':List (List Int)}{x:List Int}(h:Q0f ws x ws')(y:List Int):inW ws' y↔y=x\/inW ws y:=by
 rcases h with⟨h1,rfl⟩|⟨hn,i,hi,hp,rfl⟩
 ·exact⟨Or.inr,λh=>h.elim (λe=>e▸h1) id⟩
 ·constructor
  ·rintro⟨j,hj,e⟩
   rw[Yg x hi] at hj
   rw[U2 x hi] at e
   by_cases c:j<i
   ·rw[if_pos c] at e;exact oR ⟨j,by omega,e⟩
   ·rw[if_neg c] at e
    by_cases d:j=i
    ·rw[if_pos d] at e;exact oL e.symm
    ·rw[if_neg d] at e;exact oR ⟨j-1,by omega,e⟩
  ·rintro(rfl|⟨j,hj,e⟩)
   ·exact⟨i,by rw[Yg _ hi];omega,by rw[U2 _ hi,if_neg (yK _),if_pos rfl]⟩
   ·by_cases c:j<i
    ·exact⟨j,by rw[Yg x hi];omega,by rw[U2 x hi,if_pos c];exact e⟩
    ·exact⟨j+1,by rw[Yg x hi];omega,by rw[U2 x hi,if_neg (by omega),if_neg (by omega),Nat.add_sub_cancel];exact e⟩
theorem Q0f.len {ws ws':List (List Int)}{x:List Int}(h:Q0f ws x ws'):ws.length<=ws'.length/\ws'.length<=ws.length+1:=by
 rcases h with⟨_,rfl⟩|⟨hn,i,hi,hp,rfl⟩
 ·omega
 ·rw[Yg x hi];omega
def WR (B:Nat)(w0 w:World)(v:Value)(ws:List (List Int)):Prop:=
 ∃cs:List Value,w.ownsRow w0.heap.size 119 1 v ws.length cs/\∀i,i<ws.length->Q8 B w0 (vat cs i) (wd ws i)/\Vw (vat cs i)
theorem WR.slice {B:Nat}{w0 w:World}{v:Value}{ws:List (List Int)}(h:WR B w0 w v ws):∃a c,v=sL a ws.length c:=by
 obtain⟨cs,h1,_⟩:=h
 rcases h1.2 with⟨rfl,h2⟩|⟨g,cap,cur,rfl,_⟩
 ·exact⟨none,0,by rw[h2]⟩
 ·exact⟨_,_,rfl⟩
theorem Y5 {C ty sz:Nat}{w w':World}{v:Value}{n:Nat}{xs:List Value}(h:w.ownsRow C ty sz v n xs)(k:Nx w w'):w'.ownsRow C ty sz v n xs:=by
 obtain⟨h3,h4⟩:=h
 refine⟨h3,?_⟩
 rcases h4 with h4|⟨g,cap,cur,hv,hg,hh,r⟩
 ·exact oL h4
 ·exact oR ⟨g,cap,cur,hv,hg,(k.block g (Array.getElem?_eq_some_iff.1 hh).1).trans hh,r⟩
theorem WR.next {B:Nat}{w0 w w':World}{v:Value}{ws:List (List Int)}(h:WR B w0 w v ws)(k:Nx w w'):WR B w0 w' v ws:=by
 obtain⟨cs,h1,h2⟩:=h
 exact⟨cs,Y5 h1 k,h2⟩
theorem WR.held {B:Nat}{w0 w:World}{v:Value}{ws:List (List Int)}(h:WR B w0 w v ws)(k:Nx w0 w):J7 0 w v ws:=by
 obtain⟨cs,h1,h2⟩:=h
 obtain⟨h3,h4⟩:=h1
 rw[Nat.mul_one] at h3
 rcases h4 with⟨rfl,h4⟩|⟨g,cap,cur,rfl,hg,hh,hc,hm,hs,ht⟩
 ·unfold J7
  rw[h4]
  exact⟨_,_,rfl,by simp[maxLen],λh=>by omega⟩
 ·refine⟨_,_,rfl,by omega,λh0=>⟨g,0,rfl,nZ,(Array.getElem?_eq_some_iff.1 hh).1,λi hi=>⟨vat cs i,?_,((h2 i hi).1.next k).base nZ,(h2 i hi).2⟩⟩⟩
  have e:(cur.toList.take (ws.length*1))[i]?=cs[i]?:=by rw[ht]
  rw[zT (by omega),zQ] at e
  show w.cell? (aD g (0+i))=_
  rw[Nat.zero_add]
  simp[World.cell?,hh,e,vat,List.getD,show i<cs.length by omega]
def OV (C:Nat)(w:World)(g n cap:Nat)(F:Nat->Value):Prop:=
 ∃cur,C<=g/\w.heap[g]?=some (.cells cur 119 (0,0))/\n<=cap/\cap<=maxLen/\cur.size=cap/\∀i,i<n->cur[i]?=some (F i)
theorem OV.of {C:Nat}{w:World}{v:Value}{n:Nat}{cs:List Value}(h:w.ownsRow C 119 1 v n cs)(h0:0<n):∃g cap,v=sL (sA g) n cap/\OV C w g n cap (vat cs):=by
 obtain⟨h3,h4⟩:=h
 rcases h4 with⟨_,h4⟩|⟨g,cap,cur,rfl,hg,hh,hc,hm,hs,ht⟩
 ·omega
 ·refine⟨g,cap,rfl,cur,hg,hh,hc,hm,by omega,λi hi=>?_⟩
  have e:(cur.toList.take (n*1))[i]?=cs[i]?:=by rw[ht]
  rw[zT (by omega),zQ] at e
  rw[e]
  simp[vat,List.getD,show i<cs.length by omega]
theorem OV.own {C:Nat}{w:World}{g n cap:Nat}{F:Nat->Value}(h:OV C w g n cap F):w.ownsRow C 119 1 (sL (sA g) n cap) n ((List.range n).map F):=by
 obtain⟨cur,hg,hh,hc,hm,hs,hF⟩:=h
 refine⟨by simp,.inr ⟨g,cap,cur,rfl,hg,hh,hc,hm,by omega,?_⟩⟩
 apply List.ext_getElem?
 intro i
 by_cases c:i<n
 ·rw[zT (by omega),zQ,hF i c]
  simp[c]
 ·rw[List.getElem?_eq_none (by simp;omega),List.getElem?_eq_none (by simp;omega)]
theorem OV.cell {C:Nat}{w:World}{g n cap:Nat}{F:Nat->Value}(h:OV C w g n cap F){i:Nat}(hi:i<n):w.cell? (aD g i)=some (F i):=by
 obtain⟨cur,hg,hh,hc,hm,hs,hF⟩:=h
 simp[World.cell?,hh,hF i hi]
theorem OV.frozen {C:Nat}{w:World}{g n cap:Nat}{F:Nat->Value}(h:OV C w g n cap F)(i:Nat):w.frozen? (aD g i)=false:=by
 obtain⟨cur,hg,hh,_⟩:=h
 simp[World.frozen?,hh]
theorem OV.ge {C:Nat}{w:World}{g n cap:Nat}{F:Nat->Value}(h:OV C w g n cap F):C<=g:=by
 obtain⟨cur,hg,_⟩:=h
 exact hg
theorem OV.set {C:Nat}{w:World}{g n cap:Nat}{F:Nat->Value}(h:OV C w g n cap F)(i:Nat)(x:Value):OV C (w.setCell (aD g i) x) g n cap (λj=>if j=i then x else F j):=by
 obtain⟨cur,hg,hh,hc,hm,hs,hF⟩:=h
 refine⟨cur.setIfInBounds i x,hg,by simp[World.setCell,Array.getElem?_modify,hh],hc,hm,by simpa using hs,λj hj=>?_⟩
 by_cases e:j=i
 ·subst e
  simp[show j<cur.size by omega]
 ·rw[Array.getElem?_setIfInBounds_ne (λh=>e h.symm),hF j hj]
  show some (F j)=some (if j=i then x else F j)
  rw[if_neg e]
theorem OV.congr {C:Nat}{w:World}{g n cap:Nat}{F G:Nat->Value}(h:OV C w g n cap F)(e:∀i,i<n->F i=G i):OV C w g n cap G:=by
 obtain⟨cur,hg,hh,hc,hm,hs,hF⟩:=h
 exact⟨cur,hg,hh,hc,hm,hs,λi hi=>by rw[hF i hi,e i hi]⟩
def shF (c:Nat->Value)(t k:Nat):Value:=if k<=t then c k else c (k-1)
theorem infoW:(prog.info? 119).map (λi=>(i.zero,i.size,i.bytes))=some (some (.agg #[sN]),1,24):=by kernel_rfl
def InsE (B:Nat)(w0 w':World)(ws:List (List Int))(x:List Int)(e:Ending):Prop:=∃v2 ws',e=.returned v2/\WR B w0 w' v2 ws'/\Q0f ws x ws'
theorem Ky (B:Nat)(w0 w:World)(v:Value)(xa:Option Addr)(xn xc:Nat)(ws:List (List Int))(x:List Int)(hW:WR B w0 w v ws)(hN:Nx w0 w)(hx:Q8 B w0 (sL xa xn xc) x)(hxc:xn<=xc)(ha:Y2 ws)(hl:ws.length<=100000)(h0:0<ws.length) :
  Calls prog 99 #[v,sL xa xn xc] w λe w'=>InsE B w0 w' ws x e/\Nx w0 w':=by
 obtain⟨ii,hi,hz0,hz1,hz2⟩:=info_parts infoW
 have HW:Z (WR B w0 w v ws):=hW
 have HN0:Z (Nx w0 w):=hN
 have HX:Z (Q8 B w0 (sL xa xn xc) x):=hx
 have HXC:Z (xn<=xc):=hxc
 have HA:Z (Y2 ws):=ha
 have HL:Z (ws.length<=100000):=hl
 obtain⟨va,vc,hvs⟩:=hW.slice
 subst hvs
 clear hx ha hN hW hxc
 go_enter func99,ntmps99
 go_wp2_with fail
 refine(Gy 0 B _ _ ws x _ (HW.o.held HN0.o) (HX.o.next HN0.o) HA.o (by have:=HL.o;omega)).mono ?_
 rintro e w1 ⟨⟨i,rfl,hin,hp⟩,hx1⟩
 have HN1:Z (Nx w0 w1):=HN0.o.trans hx1
 have HW1:Z (WR B w0 w1 (sL va ws.length vc) ws):=HW.o.next hx1
 have HP:Z (Xf ws x i i):=hp
 clear hp hx1 HW HN0
 have hH:=HW1.o.held HN1.o
 obtain⟨ha',hc',hev,hmx,hrow⟩:=hH
 simp only[zC] at hev
 obtain⟨rfl,_,rfl⟩:=hev
 unfold maxLen at hmx
 have HNO:Z ((i<ws.length->wd ws i≠x)->¬inW ws x):=by
  intro hne
  rintro⟨j,hj,ej⟩
  rcases Nat.lt_trichotomy j i with h1|rfl|h1
  ·have:=HP.o.1 j h1
   rw[ej,Vm] at this;cases this
  ·exact hne hj ej
  ·have h2:=HA.o i j h1 hj
   have h3:=HP.o.2 i lR (by omega)
   rw[ej] at h2
   rw[h2] at h3;cases h3
 generalize hz:ws.length=n at *
 have HZ:Z (ws.length=n):=hz
 clear hz
 obtain⟨b,off,rfl,_,hb,hc⟩:=hrow h0
 by_cases hlt:i<n
 ·obtain⟨vi,hci,hHi,cpi⟩:=hc i hlt
  have hlt':(i:Int)<n:=by omega
  obtain⟨a2,n2,c2,rfl,_⟩:=cpi
  have HHI:Z (Q8 0 w1 (sL a2 n2 c2) (wd ws i)):=hHi
  clear hc hHi
  go_wp2_with fail
  refine(K9 0 B _ _ (wd ws i) x _ (by exact HHI.o) (by exact HX.o.next HN1.o)).mono ?_
  rintro e w2 ⟨rfl,hx2⟩
  have HNZ:Z (Nx w0 w2):=HN1.o.trans hx2
  have HWZ:Z (WR B w0 w2 (sL (some (aD b off)) n vc) ws):=HW1.o.next hx2
  clear hx2 HW1 HN1 HHI hci hrow
  by_cases hsm:wd ws i=x
  ·have hd:decide (wd ws i=x)=true:=by simpa using hsm
   have HIN:Z (inW ws x):=⟨i,by rw[HZ.o];exact hlt,hsm⟩
   rw[hd]
   clear hsm hd
   go_wp2
   go_ret
   exact⟨⟨_,ws,rfl,HWZ.o,oL ⟨HIN.o,rfl⟩⟩,HNZ.o⟩
  have hd:decide (wd ws i=x)=false:=by simpa using hsm
  have HNI:Z (¬inW ws x):=HNO.o λ_=>hsm
  rw[hd]
  clear hsm hd HNO
  obtain⟨cs,hown,hcs⟩:=HWZ.o
  have hcl:cs.length=n:=by have:=hown.1;rw[HZ.o] at this;omega
  rw[HZ.o] at hown hcs
  have HOWN:Z (w2.ownsRow w0.heap.size 119 1 (sL (some (aD b off)) n vc) n cs):=hown
  have HCS:Z (∀i,i<n->Q8 B w0 (vat cs i) (wd ws i)/\Vw (vat cs i)):=hcs
  clear hown hcs HWZ
  go_wp2_with (at_builtin;refine wpList_append_own_at _ rfl _ _ 65 rfl w0.heap.size 119 ii (.agg #[sN]) 1 24 underlying65 hi hz0 hz1 hz2 rfl (by decide) _ _ _ rfl (zB HOWN.o _) (aD w2.heap.size 0) 1 1 [sL xa xn xc] rfl rfl ?c1 ?c2 ?c3 ?c4 ?c5 ?_)
  case c1=>exact λj u hj=>Ql w2 _ _ _ rfl j u hj
  case c2=>intro u hu;simp at hu;subst hu;rfl
  case c3=>have:=HL.o;unfold maxLen;omega
  case c4=>have:=HL.o;omega
  case c5=>have:=HNZ.o.size;simp;omega
  intro v7 w7 hown' hgrow _ _
  have HN7:Z (Nx w0 w7):=Below.grown (Below.alloc HNZ.o HNZ.o.size _) hgrow (by have:=HNZ.o.size;simp;omega) (λg hg=>(Q5 HOWN.o g hg).1)
  obtain⟨g,cap7,hv7,hov⟩:=OV.of hown' (by omega)
  subst hv7
  have HSL:Z (∀k,k<n+1->∃a n c,vat (cs++[sL xa xn xc]) k=sL a n c/\n<=c):=by
   intro k hk
   by_cases e:k<n
   ·have:vat (cs++[sL xa xn xc]) k=vat cs k:=by simp[vat,List.getD,List.getElem?_append_left (show k<cs.length by omega)]
    rw[this]
    exact(HCS.o k e).2
   ·have:vat (cs++[sL xa xn xc]) k=sL xa xn xc:=by rw[show k=cs.length by omega];simp[vat,List.getD]
    rw[this]
    exact⟨_,_,_,rfl,HXC.o⟩
  have HFIN:Z (∀k,k<n+1->Q8 B w0 (if k=i then sL xa xn xc else shF (vat (cs++[sL xa xn xc])) i k) (wd (Zp ws i x) k)/\Vw (if k=i then sL xa xn xc else shF (vat (cs++[sL xa xn xc])) i k)):=by
   intro k hk
   rw[U2 x (by rw[HZ.o];exact hin)]
   unfold shF
   have hcc:∀q,q<n->vat (cs++[sL xa xn xc]) q=vat cs q:=λq hq=>by simp[vat,List.getD,List.getElem?_append_left (show q<cs.length by omega)]
   by_cases e1:k<i
   ·rw[if_neg (by omega),if_pos (by omega),if_pos e1,hcc k (by omega)]
    exact HCS.o k (by omega)
   ·rw[if_neg e1]
    by_cases e2:k=i
    ·rw[if_pos e2,if_pos e2]
     exact⟨HX.o,_,_,_,rfl,HXC.o⟩
    ·rw[if_neg e2,if_neg e2,if_neg (by omega),hcc (k-1) (by omega)]
     exact HCS.o (k-1) (by omega)
  have HOV:Z (OV w0.heap.size w7 g (n+1) cap7 (shF (vat (cs++[sL xa xn xc])) n)):=hov.congr λk hk=>by unfold shF;rw[if_pos (by omega)]
  have HGE:Z (w0.heap.size<=g):=hov.ge
  clear hown' hgrow hov HOWN HCS HNZ hcl
  generalize vat (cs++[sL xa xn xc])=c at *
  have hln:=HL.o
  have wn:IntKind.i64.wrap ((n:Int)+1-1)=(n:Int):=by rw[IntKind.wrap_i64];omega
  have wn2:((n:Int)+1-1)=(n:Int):=by omega
  have wn3:=Yk n (by omega)
  go_wp2
  go_loopw [6] (λj wr=>∃t:Nat,i<=t/\t<=n/\j=iV t/\Z (OV w0.heap.size wr g (n+1) cap7 (shF c t))/\Z (Nx w0 wr)) (λj _=>(intOf j).toNat)
  case atStart=>exact⟨n,hin,lR,by go_num,HOV,HN7⟩
  clear HOV HN7
  obtain⟨t,hit,htn,rfl,HOV,HN⟩:=hrel
  by_cases hgt:i<t
  ·obtain⟨s,rfl⟩:∃s,t=s+1:=⟨t-1,by omega⟩
   have hgt':(i:Int)<(s:Int)+1:=by omega
   have y0:=HOV.o.cell (i:=s) (by omega)
   have y1:=HOV.o.cell (i:=s+1) (by omega)
   have y2:=HOV.o.frozen (s+1)
   have ws1:IntKind.i64.wrap ((s:Int)+1-1)=(s:Int):=by rw[IntKind.wrap_i64];omega
   have ws2:((s:Int)+1-1)=(s:Int):=by omega
   have ws3:=Yk s (by omega)
   have hs1:(s:Int)<(n:Int)+1:=by omega
   have hs2:(s:Int)+1<(n:Int)+1:=by omega
   have es:shF c (s+1) s=c s:=by unfold shF;rw[if_pos (by omega)]
   rw[es] at y0
   obtain⟨qa,qn,qc,hq,_⟩:=HSL.o s (by omega)
   have HQ:Z (c s=sL qa qn qc):=hq
   rw[hq] at y0
   clear es hq wn wn2 wn3
   go_wp2
   go_roundw
   case rel=>exact⟨s,by omega,by omega,by go_num,(HOV.o.set (s+1) (sL qa qn qc)).congr (λk hk=>by
     show(if k=s+1 then sL qa qn qc else shF c (s+1) k)=shF c s k
     unfold shF
     by_cases e:k=s+1
     ·subst e;rw[if_pos rfl,if_neg (by omega),Nat.add_sub_cancel,HQ.o]
     ·rw[if_neg e]
      by_cases e2:k<=s
      ·rw[if_pos (by omega),if_pos e2]
      ·rw[if_neg (by omega),if_neg e2]),Below.setCell HN.o HGE.o _⟩
   case measure=>simp[intOf]
  ·have et:t=i:=by omega
   subst et
   have y1:=HOV.o.cell (i:=t) (by omega)
   have y2:=HOV.o.frozen t
   have hs2:(t:Int)<(n:Int)+1:=by omega
   have hgt':¬(t:Int)<t:=by omega
   have HRES:Z (∀w8,OV w0.heap.size w8 g (n+1) cap7 (λk=>if k=t then sL xa xn xc else shF c t k)->WR B w0 w8 (sL (sA g) (n+1) cap7) (Zp ws t x)):=by
    intro w8 h8
    have hl8:(Zp ws t x).length=n+1:=by rw[Yg x (by rw[HZ.o];exact hin),HZ.o]
    refine⟨_,by rw[hl8];exact h8.own,λk hk=>?_⟩
    rw[hl8] at hk
    have:vat ((List.range (n+1)).map (λk=>if k=t then sL xa xn xc else shF c t k)) k=if k=t then sL xa xn xc else shF c t k:=by simp[vat,List.getD,hk]
    rw[this]
    exact HFIN.o k hk
   clear hgt wn wn2 wn3
   go_wp2
   go_ret
   exact⟨⟨_,_,rfl,HRES.o _ (HOV.o.set t (sL xa xn xc)),oR ⟨HNI.o,t,by rw[HZ.o];exact hin,HP.o,rfl⟩⟩,Below.setCell HN.o HGE.o _⟩
 ·have hlt2:¬(i:Int)<n:=by omega
  have HNI:Z (¬inW ws x):=HNO.o λh=>absurd h hlt
  have HNZ:Z (Nx w0 w1):=HN1
  have HWZ:Z (WR B w0 w1 (sL (some (aD b off)) n vc) ws):=HW1
  clear hc HW1 HN1 HNO hrow
  obtain⟨cs,hown,hcs⟩:=HWZ.o
  have hcl:cs.length=n:=by have:=hown.1;rw[HZ.o] at this;omega
  rw[HZ.o] at hown hcs
  have HOWN:Z (w1.ownsRow w0.heap.size 119 1 (sL (some (aD b off)) n vc) n cs):=hown
  have HCS:Z (∀i,i<n->Q8 B w0 (vat cs i) (wd ws i)/\Vw (vat cs i)):=hcs
  clear hown hcs HWZ
  go_wp2_with (at_builtin;refine wpList_append_own_at _ rfl _ _ 65 rfl w0.heap.size 119 ii (.agg #[sN]) 1 24 underlying65 hi hz0 hz1 hz2 rfl (by decide) _ _ _ rfl (zB HOWN.o _) (aD w1.heap.size 0) 1 1 [sL xa xn xc] rfl rfl ?c1 ?c2 ?c3 ?c4 ?c5 ?_)
  case c1=>exact λj u hj=>Ql w1 _ _ _ rfl j u hj
  case c2=>intro u hu;simp at hu;subst hu;rfl
  case c3=>have:=HL.o;unfold maxLen;omega
  case c4=>have:=HL.o;omega
  case c5=>have:=HNZ.o.size;simp;omega
  intro v7 w7 hown' hgrow _ _
  have HN7:Z (Nx w0 w7):=Below.grown (Below.alloc HNZ.o HNZ.o.size _) hgrow (by have:=HNZ.o.size;simp;omega) (λg hg=>(Q5 HOWN.o g hg).1)
  obtain⟨g,cap7,hv7,hov⟩:=OV.of hown' (by omega)
  subst hv7
  have HSL:Z (∀k,k<n+1->∃a n c,vat (cs++[sL xa xn xc]) k=sL a n c/\n<=c):=by
   intro k hk
   by_cases e:k<n
   ·have:vat (cs++[sL xa xn xc]) k=vat cs k:=by simp[vat,List.getD,List.getElem?_append_left (show k<cs.length by omega)]
    rw[this]
    exact(HCS.o k e).2
   ·have:vat (cs++[sL xa xn xc]) k=sL xa xn xc:=by rw[show k=cs.length by omega];simp[vat,List.getD]
    rw[this]
    exact⟨_,_,_,rfl,HXC.o⟩
  have HFIN:Z (∀k,k<n+1->Q8 B w0 (if k=i then sL xa xn xc else shF (vat (cs++[sL xa xn xc])) i k) (wd (Zp ws i x) k)/\Vw (if k=i then sL xa xn xc else shF (vat (cs++[sL xa xn xc])) i k)):=by
   intro k hk
   rw[U2 x (by rw[HZ.o];exact hin)]
   unfold shF
   have hcc:∀q,q<n->vat (cs++[sL xa xn xc]) q=vat cs q:=λq hq=>by simp[vat,List.getD,List.getElem?_append_left (show q<cs.length by omega)]
   by_cases e1:k<i
   ·rw[if_neg (by omega),if_pos (by omega),if_pos e1,hcc k (by omega)]
    exact HCS.o k (by omega)
   ·rw[if_neg e1]
    by_cases e2:k=i
    ·rw[if_pos e2,if_pos e2]
     exact⟨HX.o,_,_,_,rfl,HXC.o⟩
    ·rw[if_neg e2,if_neg e2,if_neg (by omega),hcc (k-1) (by omega)]
     exact HCS.o (k-1) (by omega)
  have HOV:Z (OV w0.heap.size w7 g (n+1) cap7 (shF (vat (cs++[sL xa xn xc])) n)):=hov.congr λk hk=>by unfold shF;rw[if_pos (by omega)]
  have HGE:Z (w0.heap.size<=g):=hov.ge
  clear hown' hgrow hov HOWN HCS HNZ hcl
  generalize vat (cs++[sL xa xn xc])=c at *
  have hln:=HL.o
  have wn:IntKind.i64.wrap ((n:Int)+1-1)=(n:Int):=by rw[IntKind.wrap_i64];omega
  have wn2:((n:Int)+1-1)=(n:Int):=by omega
  have wn3:=Yk n (by omega)
  go_wp2
  go_loopw [6] (λj wr=>∃t:Nat,i<=t/\t<=n/\j=iV t/\Z (OV w0.heap.size wr g (n+1) cap7 (shF c t))/\Z (Nx w0 wr)) (λj _=>(intOf j).toNat)
  case atStart=>exact⟨n,hin,lR,by go_num,HOV,HN7⟩
  clear HOV HN7
  obtain⟨t,hit,htn,rfl,HOV,HN⟩:=hrel
  by_cases hgt:i<t
  ·exfalso;omega
  ·have et:t=i:=by omega
   subst et
   have y1:=HOV.o.cell (i:=t) (by omega)
   have y2:=HOV.o.frozen t
   have hs2:(t:Int)<(n:Int)+1:=by omega
   have hgt':¬(t:Int)<t:=by omega
   have HRES:Z (∀w8,OV w0.heap.size w8 g (n+1) cap7 (λk=>if k=t then sL xa xn xc else shF c t k)->WR B w0 w8 (sL (sA g) (n+1) cap7) (Zp ws t x)):=by
    intro w8 h8
    have hl8:(Zp ws t x).length=n+1:=by rw[Yg x (by rw[HZ.o];exact hin),HZ.o]
    refine⟨_,by rw[hl8];exact h8.own,λk hk=>?_⟩
    rw[hl8] at hk
    have:vat ((List.range (n+1)).map (λk=>if k=t then sL xa xn xc else shF c t k)) k=if k=t then sL xa xn xc else shF c t k:=by simp[vat,List.getD,hk]
    rw[this]
    exact HFIN.o k hk
   clear hgt wn wn2 wn3
   go_wp2
   go_ret
   exact⟨⟨_,_,rfl,HRES.o _ (HOV.o.set t (sL xa xn xc)),oR ⟨HNI.o,t,by rw[HZ.o];exact hin,HP.o,rfl⟩⟩,Below.setCell HN.o HGE.o _⟩
def Xs (x:Ru):Nat:=if x.only then x.seq.length-1 else x.seq.length
def PW (rs:List Ru)(i k:Nat)(y:List Int):Prop:=
 y=[]\/(∃j,j<i/\∃q,1<=q/\q<=Xs (Qk rs j)/\y=(Qk rs j).seq.take q)\/∃q,1<=q/\q<k/\y=(Qk rs i).seq.take q
structure WI (rs:List Ru)(i k:Nat)(ws:List (List Int)):Prop where
 asc:Y2 ws
 l0:0<ws.length
 l1:ws.length<=2001
 yes:∀y,inW ws y->PW rs i k y
 all:ws.length<=2000->∀y,PW rs i k y->inW ws y
theorem PW.up {rs:List Ru}{i k:Nat}{y:List Int}(h:PW rs i k y):PW rs i (k+1) y:=by
 rcases h with h|h|⟨q,h1,h2,h3⟩
 ·exact oL h
 ·exact oR (oL h)
 ·exact oR (oR ⟨q,h1,by omega,h3⟩)
theorem WI.start (rs:List Ru):WI rs 0 1 [[]]:=by
 refine⟨λi j h1 h2=>by simp at h2;omega,by simp,by simp,λy h=>?_,λ_ y h=>?_⟩
 ·obtain⟨j,hj,e⟩:=h
  simp at hj
  subst hj
  exact oL e.symm
 ·rcases h with rfl|⟨j,hj,_⟩|⟨q,h1,h2,_⟩
  ·exact⟨0,by simp,rfl⟩
  ·omega
  ·omega
theorem WI.step {rs:List Ru}{i k:Nat}{ws ws':List (List Int)}{x:List Int}(h:WI rs i k ws)(hI:Q0f ws x ws')(hx:x=(Qk rs i).seq.take k)(hl:ws.length<=2000)(hk:1<=k:=by omega):WI rs i (k+1) ws':=by
 have hlen:=hI.len
 refine⟨hI.asc h.asc,by have:=h.l0;omega,by omega,λy hy=>?_,λ_ y hy=>?_⟩
 ·rcases (hI.mem y).1 hy with rfl|hy
  ·exact oR (oR ⟨k,hk,Nat.lt_succ_self _,hx⟩)
  ·exact(h.yes y hy).up
 ·refine(hI.mem y).2 ?_
  rcases hy with hy|hy|⟨q,h1,h2,h3⟩
  ·exact oR (h.all hl y (oL hy))
  ·exact oR (h.all hl y (oR (oL hy)))
  ·by_cases e:q=k
   ·subst e;exact oL (h3.trans hx.symm)
   ·exact oR (h.all hl y (oR (oR ⟨q,h1,by omega,h3⟩)))
theorem WI.skip {rs:List Ru}{i k:Nat}{ws:List (List Int)}(h:WI rs i k ws)(hl:¬ws.length<=2000):WI rs i (k+1) ws:=
 ⟨h.asc,h.l0,h.l1,λy hy=>(h.yes y hy).up,λh'=>absurd h' hl⟩
theorem WI.close {rs:List Ru}{i m:Nat}{ws:List (List Int)}(h:WI rs i (m+1) ws)(hm:Xs (Qk rs i)=m):WI rs (i+1) 1 ws:=by
 refine⟨h.asc,h.l0,h.l1,λy hy=>?_,λhl y hy=>h.all hl y ?_⟩
 ·rcases h.yes y hy with h1|⟨j,hj,q,h1,h2,h3⟩|⟨q,h1,h2,h3⟩
  ·exact oL h1
  ·exact oR (oL ⟨j,by omega,q,h1,h2,h3⟩)
  ·exact oR (oL ⟨i,by omega,q,h1,by omega,h3⟩)
 ·rcases hy with h1|⟨j,hj,q,h1,h2,h3⟩|⟨q,h1,h2,h3⟩
  ·exact oL h1
  ·by_cases e:j=i
   ·subst e;exact oR (oR ⟨q,h1,by omega,h3⟩)
   ·exact oR (oL ⟨j,by omega,q,h1,h2,h3⟩)
  ·omega
def WdE (B:Nat)(rs:List Ru)(w w':World)(e:Ending):Prop:=∃v2 ws,e=.returned v2/\WR B w w' v2 ws/\WI rs rs.length 1 ws
theorem Q4h (B:Nat)(v:Value)(rs:List Ru)(w:World)(h0:X7 B w v rs)(hg:∀i,i<rs.length->2<=(Qk rs i).seq.length/\(Qk rs i).seq.length<=402) :
  Calls prog 58 #[v] w λe w'=>WdE B rs w w' e/\Nx w w':=by
 have HGD:Z (∀i,i<rs.length->2<=(Qk rs i).seq.length/\(Qk rs i).seq.length<=402):=hg
 clear hg
 obtain⟨a,cap,rfl,hn,hk⟩:=h0
 unfold maxLen at hn
 generalize hz:rs.length=n at *
 have HZ:Z (rs.length=n):=hz
 clear hz
 have HWR0:Z (WR B w ((w.alloc (.cells #[] 2)).alloc (.cells #[sL (sA w.heap.size) 0 0] 119)) (sL (sA (w.heap.size+1)) 1 1) [[]]):=by
  refine⟨[sL (sA w.heap.size) 0 0],⟨rfl,.inr ⟨w.heap.size+1,1,#[sL (sA w.heap.size) 0 0],rfl,Nat.le_succ _,?_,lR,by simp[maxLen],by simp,by simp⟩⟩,λi hi=>?_⟩
  ·show((w.heap.push _).push _)[w.heap.size+1]?=_
   rw[Array.getElem?_push,if_pos (by simp)]
  ·have e:i=0:=by simpa using hi
   subst e
   exact⟨⟨_,_,rfl,by simp[maxLen,wd],λh=>by simp[wd] at h⟩,_,_,_,rfl,lR⟩
 go_enter func58,ntmps58
 go_wp2
 go_loopw [3,4,5,6] (λu i _ _ wr=>∃(k:Nat) (ws:List (List Int)),k<=n/\i=iV k/\Z (WR B w wr u ws)/\Z (Nx w wr)/\Z (WI rs k 1 ws)) (λ_ i _ _ _=>n-(intOf i).toNat)
 case atStart=>exact⟨0,_,nZ,rfl,HWR0,Zk _ _ _,WI.start rs⟩
 clear HWR0
 obtain⟨k,ws0,hkn,rfl,HWR,HN,HWI⟩:=hrel
 by_cases hlt:k<n
 case neg=>
  have ek:n=k:=by omega
  have HF:Z (WI rs rs.length 1 ws0):=by rw[HZ.o,ek];exact HWI.o
  clear ek
  obtain⟨va,vc,hvs⟩:=HWR.o.slice
  subst hvs
  go_wp2
  go_ret
  exact⟨⟨_,ws0,rfl,HWR.o,HF.o⟩,HN.o⟩
 obtain⟨b,off,rfl,_,hb,hc⟩:=hk (by omega)
 obtain⟨sa,sc,c0',c1',c2',hS,hcap⟩:=hc k hlt
 have C0:Z (w.cell? (aD b (off+k*3+2))=some (.slice sa (Qk rs k).seq.length sc)):=c2'
 have c1:=U9 HN.o c1'
 have c2:=U9 HN.o c2'
 have hlt':(k:Int)<n:=by omega
 have h2:=HGD.o k hlt
 have HS:Z (Q8 B w (.slice sa (Qk rs k).seq.length sc) (Qk rs k).seq):=hS
 have HMO0:Z (Xs (Qk rs k)=if (Qk rs k).only=true then (Qk rs k).seq.length-1 else (Qk rs k).seq.length):=rfl
 clear hc hk c0' c1' c2' hS HGD
 generalize hx:Qk rs k=x at *
 have HX:Z (Qk rs k=x):=hx
 clear hx
 generalize hq:x.seq.length=m at *
 clear hq
 obtain⟨p,rfl⟩:∃p,m=p+1:=⟨m-1,by omega⟩
 have w1:IntKind.i64.wrap ((p:Int)+1-1)=(p:Int):=by rw[IntKind.wrap_i64];omega
 have w2:((p:Int)+1-1)=(p:Int):=by omega
 have wp:=Yk p (by omega)
 cases g1:x.only
 case true=>
  have HMO:Z (Xs x=p):=by unfold Z;rw[HMO0.o,g1,if_pos rfl];rfl
  rw[g1] at c1
  clear g1 HMO0
  go_wp2
  go_loopw [3,6] (λu j wz=>∃(q:Nat) (ws:List (List Int)),1<=q/\q<=p+1/\j=iV q/\Z (WR B w wz u ws)/\Z (Nx w wz)/\Z (WI rs k q ws)) (λ_ j _=>p+1-(intOf j).toNat)
  case atStart=>exact⟨1,_,lR,by omega,rfl,HWR,HN,HWI⟩
  clear HWR HWI HN
  obtain⟨q,ws,hq1,hqm,rfl,HWR,HN,HWI⟩:=hrel
  obtain⟨va,vc,hvs⟩:=HWR.o.slice
  subst hvs
  have c0:=U9 HN.o C0.o
  by_cases hql:q<=p
  ·have hql':(q:Int)<=p:=by omega
   have hqc:(q:Int)<=sc:=by omega
   have hql2:=HWI.o.l1
   by_cases hle:ws.length<=2000
   ·have hle':decide ((ws.length:Int)<=2000)=true:=by simp;omega
    have HXQ:Z (Q8 B w (sL sa q sc) (x.seq.take q)):=HS.o.take (by omega) _
    go_wp2_with fail
    refine(Ky B w _ _ _ _ _ ws (x.seq.take q) (by exact HWR.o) HN.o (by exact HXQ.o) (by omega) HWI.o.asc (by omega) HWI.o.l0).mono ?_
    rintro e w1 ⟨⟨v2,ws',rfl,hW',hI⟩,hx⟩
    have HW1:Z (WR B w w1 v2 ws'):=hW'
    have HN1:Z (Nx w w1):=hx
    have HI1:Z (WI rs k (q+1) ws'):=HWI.o.step hI (by rw[HX.o]) hle
    clear hW' hI hx
    go_wp2
    go_roundw
    case rel=>exact⟨q+1,_,by omega,by omega,by go_num,HW1,HN1,HI1⟩
    case measure=>simp[intOf];omega
   ·have hle':decide ((ws.length:Int)<=2000)=false:=by simp;omega
    have HI1:Z (WI rs k (q+1) ws):=HWI.o.skip hle
    go_wp2
    go_roundw
    case rel=>exact⟨q+1,_,by omega,by omega,by go_num,HWR,HN,HI1⟩
    case measure=>simp[intOf];omega
  ·have eq:q=p+1:=by omega
   have HI1:Z (WI rs (k+1) 1 ws):=(eq▸HWI.o).close (by rw[HX.o];exact HMO.o)
   have hql':¬(q:Int)<=p:=by omega
   clear eq
   go_wp2
   go_roundw
   case rel=>exact⟨k+1,_,by omega,by go_num,HWR,HN,HI1⟩
   case measure=>simp[intOf];omega
 case false=>
  have HMO:Z (Xs x=p+1):=by unfold Z;rw[HMO0.o,g1];rfl
  rw[g1] at c1
  clear g1 HMO0
  generalize hmm:p+1=m at *
  have hmi:(p:Int)+1=m:=by omega
  rw[hmi] at *
  clear hmm hmi w1 w2 wp
  go_wp2
  go_loopw [3,6] (λu j wz=>∃(q:Nat) (ws:List (List Int)),1<=q/\q<=m+1/\j=iV q/\Z (WR B w wz u ws)/\Z (Nx w wz)/\Z (WI rs k q ws)) (λ_ j _=>m+1-(intOf j).toNat)
  case atStart=>exact⟨1,_,lR,by omega,rfl,HWR,HN,HWI⟩
  clear HWR HWI HN
  obtain⟨q,ws,hq1,hqm,rfl,HWR,HN,HWI⟩:=hrel
  obtain⟨va,vc,hvs⟩:=HWR.o.slice
  subst hvs
  have c0:=U9 HN.o C0.o
  by_cases hql:q<=m
  ·have hql':(q:Int)<=m:=by omega
   have hqc:(q:Int)<=sc:=by omega
   have hql2:=HWI.o.l1
   by_cases hle:ws.length<=2000
   ·have hle':decide ((ws.length:Int)<=2000)=true:=by simp;omega
    have HXQ:Z (Q8 B w (sL sa q sc) (x.seq.take q)):=HS.o.take (by omega) _
    go_wp2_with fail
    refine(Ky B w _ _ _ _ _ ws (x.seq.take q) (by exact HWR.o) HN.o (by exact HXQ.o) (by omega) HWI.o.asc (by omega) HWI.o.l0).mono ?_
    rintro e w1 ⟨⟨v2,ws',rfl,hW',hI⟩,hx⟩
    have HW1:Z (WR B w w1 v2 ws'):=hW'
    have HN1:Z (Nx w w1):=hx
    have HI1:Z (WI rs k (q+1) ws'):=HWI.o.step hI (by rw[HX.o]) hle
    clear hW' hI hx
    go_wp2
    go_roundw
    case rel=>exact⟨q+1,_,by omega,by omega,by go_num,HW1,HN1,HI1⟩
    case measure=>simp[intOf];omega
   ·have hle':decide ((ws.length:Int)<=2000)=false:=by simp;omega
    have HI1:Z (WI rs k (q+1) ws):=HWI.o.skip hle
    go_wp2
    go_roundw
    case rel=>exact⟨q+1,_,by omega,by omega,by go_num,HWR,HN,HI1⟩
    case measure=>simp[intOf];omega
  ·have eq:q=m+1:=by omega
   have HI1:Z (WI rs (k+1) 1 ws):=(eq▸HWI.o).close (by rw[HX.o];exact HMO.o)
   have hql':¬(q:Int)<=m:=by omega
   clear eq
   go_wp2
   go_roundw
   case rel=>exact⟨k+1,_,by omega,by go_num,HWR,HN,HI1⟩
   case measure=>simp[intOf];omega
end Go.Proofs.YtahpodmokbdjeaaGreatDoor
namespace Go
set_option maxHeartbeats 16000000
end Go
namespace Go.Proofs.YtahpodmokbdjeaaGreatDoor
set_option maxHeartbeats 16000000
open Go.RowKit Go.Sort Tryz
set_option linter.unusedVariables false
set_option maxRecDepth 100000
theorem Qct:(prog.info? 4).map (λi=>(i.zero,i.size,i.bytes))=some (some (.bool false),1,1):=by kernel_rfl
def T7 (bs:List Bool):List Value:=bs.map λb=>.bool b
def Ao (C:Nat)(w:World)(v:Value)(bs:List Bool):Prop:=w.ownsRow C 4 1 v bs.length (T7 bs)
theorem Ao.snoc {B:Nat}{w:World}{v:Value}{bs:List Bool}{z:Bool}(h:w.ownsRow B 4 1 v (bs.length+1) (T7 bs++[.bool z])):Ao B w v (bs++[z]):=by
 unfold Ao
 have e:T7 (bs++[z])=T7 bs++[.bool z]:=by simp[T7]
 rw[zA,e]
 exact h
theorem Ao.slice {B:Nat}{w:World}{v:Value}{bs:List Bool}(h:Ao B w v bs):∃a c,v=sL a bs.length c:=by
 rcases h.2 with⟨rfl,h2⟩|⟨g,cap,cur,rfl,_⟩
 ·exact⟨none,0,by rw[h2]⟩
 ·exact⟨_,_,rfl⟩
theorem Qak {bs:List Bool}{i:Nat}(hi:i<bs.length):(T7 bs)[i]?=some (.bool (bat bs i)):=by rw[Qhm hi];simp[T7,hi]
theorem Ao.held {B:Nat}{w:World}{v:Value}{bs:List Bool}(h:Ao B w v bs):P9 B w v bs:=by
 obtain⟨h1,h2⟩:=h
 rcases h2 with⟨rfl,h3⟩|⟨g,cap,cur,rfl,hg,hh,hc,hm,hs,ht⟩
 ·unfold P9
  rw[h3]
  exact⟨_,_,rfl,nZ,λh=>absurd h (yK _)⟩
 ·refine⟨_,_,rfl,by omega,λh0=>⟨g,0,rfl,hg,(Array.getElem?_eq_some_iff.1 hh).1,λi hi=>?_⟩⟩
  have e:(cur.toList.take (bs.length*1))[i]?=(T7 bs)[i]?:=by rw[ht]
  rw[zT (by omega),Qak hi,zQ] at e
  show w.cell? (aD g (0+i))=_
  rw[Nat.zero_add]
  simp[World.cell?,hh,e]
theorem Vt {p q:Value}(h:∀b,p.ownBlock=some b->q.ownBlock≠some b):q.ownBlock=none\/q.ownBlock≠p.ownBlock:=by
 cases e:q.ownBlock with
 |none=>exact oL rfl
 |some b=>exact oR λh'=>h b h'.symm e
theorem Jb {p q:Value}(h:∀b,p.ownBlock=some b->q.ownBlock≠some b):∀b,q.ownBlock=some b->p.ownBlock≠some b:=λb h1 h2=>h b h2 h1
theorem Vu {p q v:Value}{w:World}{o:Obj}(h:∀b,p.ownBlock=some b->q.ownBlock≠some b)(hat:v.ownBlock=p.ownBlock\/v.ownBlock=some (w.alloc o).heap.size)(hq:∀b,q.ownBlock=some b->b<w.heap.size):∀b,v.ownBlock=some b->q.ownBlock≠some b:=by
 intro b hb hb'
 rcases hat with e|e
 ·exact h b (e▸hb) hb'
 ·rw[e] at hb
  have h1:=zF hb
  have h2:=hq b hb'
  rw[Q3] at h1
  omega
structure R5 (C g:Nat)(w:World)(p0 p1 p2 p3 p4:Value)(A:Au):Prop where
 gc:g<C
 bx:Blk w g #[p0,p1,p2,p3,p4]
 o0:Qd C w p0 A.pa
 o1:Qd C w p1 A.la
 o2:Qd C w p2 A.fa
 o3:Qd C w p3 A.mu
 o4:Ao C w p4 A.bd
 a01:∀b,p0.ownBlock=some b->p1.ownBlock≠some b
 a02:∀b,p0.ownBlock=some b->p2.ownBlock≠some b
 a03:∀b,p0.ownBlock=some b->p3.ownBlock≠some b
 a12:∀b,p1.ownBlock=some b->p2.ownBlock≠some b
 a13:∀b,p1.ownBlock=some b->p3.ownBlock≠some b
 a23:∀b,p2.ownBlock=some b->p3.ownBlock≠some b
theorem R5.next {C g:Nat}{w:World}{p0 p1 p2 p3 p4:Value}{A:Au}{w':World}(h:R5 C g w p0 p1 p2 p3 p4 A)(k:Nx w w'):R5 C g w' p0 p1 p2 p3 p4 A:=
 ⟨h.gc,h.bx.next k,Y5 h.o0 k,Y5 h.o1 k,Y5 h.o2 k,Y5 h.o3 k,Y5 h.o4 k,h.a01,h.a02,h.a03,h.a12,h.a13,h.a23⟩
theorem R5.app0 {C g:Nat}{w:World}{p0 p1 p2 p3 p4:Value}{A:Au}{w':World}{v:Value}{z:Int}(h:R5 C g w p0 p1 p2 p3 p4 A)(ob:Obj)(hown:w'.ownsRow C 2 1 v (A.pa.length+1) (Jr A.pa++[iV z]))(hgr:(w.alloc ob).grownBy w' p0.ownBlock)(hat:v.ownBlock=p0.ownBlock\/v.ownBlock=some (w.alloc ob).heap.size) :
  R5 C g (w'.setCell (aD g 0) v) v p1 p2 p3 p4 { A with pa:=A.pa++[z] }:=
 ⟨h.gc,(Blk.grown (h.bx.alloc ob) hgr (λe=>by have:=(Q5 h.o0 _ e.symm).1;have:=h.gc;omega)).set 0 v,
  Qc (Qd.snoc hown) h.gc 0 _,
  Qc (zN (zB h.o1 ob) hgr (Vt h.a01)) h.gc 0 _,
  Qc (zN (zB h.o2 ob) hgr (Vt h.a02)) h.gc 0 _,
  Qc (zN (zB h.o3 ob) hgr (Vt h.a03)) h.gc 0 _,
  Qc (zN (zB h.o4 ob) hgr (Xr h.o4 h.o0 (by decide))) h.gc 0 _,
  Vu h.a01 hat (λb e=>(Q5 h.o1 b e).2),
  Vu h.a02 hat (λb e=>(Q5 h.o2 b e).2),
  Vu h.a03 hat (λb e=>(Q5 h.o3 b e).2),
  h.a12,
  h.a13,
  h.a23⟩
theorem R5.box0 {C g:Nat}{w:World}{p0 p1 p2 p3 p4:Value}{A:Au}{w':World}(h:R5 C g w p0 p1 p2 p3 p4 A)(ob:Obj)(hgr:(w.alloc ob).grownBy w' p0.ownBlock):w'.cell? (aD g 0)=some p0/\w'.frozen? (aD g 0)=false:=by
 have:=Blk.grown (h.bx.alloc ob) hgr (λe=>by have:=(Q5 h.o0 _ e.symm).1;have:=h.gc;omega)
 exact⟨this.c 0 rfl,this.frozen 0⟩
theorem R5.low0 {C g:Nat}{w:World}{p0 p1 p2 p3 p4:Value}{A:Au}{w0 w':World}{v:Value}(h:R5 C g w p0 p1 p2 p3 p4 A)(ob:Obj)(hgr:(w.alloc ob).grownBy w' p0.ownBlock)(hb:Below g w0 w):Below g w0 (w'.setCell (aD g 0) v):=
 Below.setCell (Below.grown (Below.alloc hb (Nat.le_of_lt h.bx.lt) ob) hgr (by have:=h.bx.lt;rw[Q3];omega) (λb e=>by have:=(Q5 h.o0 b e).1;have:=h.gc;omega)) lR _
theorem R5.app1 {C g:Nat}{w:World}{p0 p1 p2 p3 p4:Value}{A:Au}{w':World}{v:Value}{z:Int}(h:R5 C g w p0 p1 p2 p3 p4 A)(ob:Obj)(hown:w'.ownsRow C 2 1 v (A.la.length+1) (Jr A.la++[iV z]))(hgr:(w.alloc ob).grownBy w' p1.ownBlock)(hat:v.ownBlock=p1.ownBlock\/v.ownBlock=some (w.alloc ob).heap.size) :
  R5 C g (w'.setCell (aD g 1) v) p0 v p2 p3 p4 { A with la:=A.la++[z] }:=
 ⟨h.gc,(Blk.grown (h.bx.alloc ob) hgr (λe=>by have:=(Q5 h.o1 _ e.symm).1;have:=h.gc;omega)).set 1 v,
  Qc (zN (zB h.o0 ob) hgr (Vt (Jb h.a01))) h.gc 1 _,
  Qc (Qd.snoc hown) h.gc 1 _,
  Qc (zN (zB h.o2 ob) hgr (Vt h.a12)) h.gc 1 _,
  Qc (zN (zB h.o3 ob) hgr (Vt h.a13)) h.gc 1 _,
  Qc (zN (zB h.o4 ob) hgr (Xr h.o4 h.o1 (by decide))) h.gc 1 _,
  Jb (Vu (Jb h.a01) hat (λb e=>(Q5 h.o0 b e).2)),
  h.a02,
  h.a03,
  Vu h.a12 hat (λb e=>(Q5 h.o2 b e).2),
  Vu h.a13 hat (λb e=>(Q5 h.o3 b e).2),
  h.a23⟩
theorem R5.box1 {C g:Nat}{w:World}{p0 p1 p2 p3 p4:Value}{A:Au}{w':World}(h:R5 C g w p0 p1 p2 p3 p4 A)(ob:Obj)(hgr:(w.alloc ob).grownBy w' p1.ownBlock):w'.cell? (aD g 1)=some p1/\w'.frozen? (aD g 1)=false:=by
 have:=Blk.grown (h.bx.alloc ob) hgr (λe=>by have:=(Q5 h.o1 _ e.symm).1;have:=h.gc;omega)
 exact⟨this.c 1 rfl,this.frozen 1⟩
theorem R5.low1 {C g:Nat}{w:World}{p0 p1 p2 p3 p4:Value}{A:Au}{w0 w':World}{v:Value}(h:R5 C g w p0 p1 p2 p3 p4 A)(ob:Obj)(hgr:(w.alloc ob).grownBy w' p1.ownBlock)(hb:Below g w0 w):Below g w0 (w'.setCell (aD g 1) v):=
 Below.setCell (Below.grown (Below.alloc hb (Nat.le_of_lt h.bx.lt) ob) hgr (by have:=h.bx.lt;rw[Q3];omega) (λb e=>by have:=(Q5 h.o1 b e).1;have:=h.gc;omega)) lR _
theorem R5.app2 {C g:Nat}{w:World}{p0 p1 p2 p3 p4:Value}{A:Au}{w':World}{v:Value}{z:Int}(h:R5 C g w p0 p1 p2 p3 p4 A)(ob:Obj)(hown:w'.ownsRow C 2 1 v (A.fa.length+1) (Jr A.fa++[iV z]))(hgr:(w.alloc ob).grownBy w' p2.ownBlock)(hat:v.ownBlock=p2.ownBlock\/v.ownBlock=some (w.alloc ob).heap.size) :
  R5 C g (w'.setCell (aD g 2) v) p0 p1 v p3 p4 { A with fa:=A.fa++[z] }:=
 ⟨h.gc,(Blk.grown (h.bx.alloc ob) hgr (λe=>by have:=(Q5 h.o2 _ e.symm).1;have:=h.gc;omega)).set 2 v,
  Qc (zN (zB h.o0 ob) hgr (Vt (Jb h.a02))) h.gc 2 _,
  Qc (zN (zB h.o1 ob) hgr (Vt (Jb h.a12))) h.gc 2 _,
  Qc (Qd.snoc hown) h.gc 2 _,
  Qc (zN (zB h.o3 ob) hgr (Vt h.a23)) h.gc 2 _,
  Qc (zN (zB h.o4 ob) hgr (Xr h.o4 h.o2 (by decide))) h.gc 2 _,
  h.a01,
  Jb (Vu (Jb h.a02) hat (λb e=>(Q5 h.o0 b e).2)),
  h.a03,
  Jb (Vu (Jb h.a12) hat (λb e=>(Q5 h.o1 b e).2)),
  h.a13,
  Vu h.a23 hat (λb e=>(Q5 h.o3 b e).2)⟩
theorem R5.box2 {C g:Nat}{w:World}{p0 p1 p2 p3 p4:Value}{A:Au}{w':World}(h:R5 C g w p0 p1 p2 p3 p4 A)(ob:Obj)(hgr:(w.alloc ob).grownBy w' p2.ownBlock):w'.cell? (aD g 2)=some p2/\w'.frozen? (aD g 2)=false:=by
 have:=Blk.grown (h.bx.alloc ob) hgr (λe=>by have:=(Q5 h.o2 _ e.symm).1;have:=h.gc;omega)
 exact⟨this.c 2 rfl,this.frozen 2⟩
theorem R5.low2 {C g:Nat}{w:World}{p0 p1 p2 p3 p4:Value}{A:Au}{w0 w':World}{v:Value}(h:R5 C g w p0 p1 p2 p3 p4 A)(ob:Obj)(hgr:(w.alloc ob).grownBy w' p2.ownBlock)(hb:Below g w0 w):Below g w0 (w'.setCell (aD g 2) v):=
 Below.setCell (Below.grown (Below.alloc hb (Nat.le_of_lt h.bx.lt) ob) hgr (by have:=h.bx.lt;rw[Q3];omega) (λb e=>by have:=(Q5 h.o2 b e).1;have:=h.gc;omega)) lR _
theorem R5.app3 {C g:Nat}{w:World}{p0 p1 p2 p3 p4:Value}{A:Au}{w':World}{v:Value}{z:Int}(h:R5 C g w p0 p1 p2 p3 p4 A)(ob:Obj)(hown:w'.ownsRow C 2 1 v (A.mu.length+1) (Jr A.mu++[iV z]))(hgr:(w.alloc ob).grownBy w' p3.ownBlock)(hat:v.ownBlock=p3.ownBlock\/v.ownBlock=some (w.alloc ob).heap.size) :
  R5 C g (w'.setCell (aD g 3) v) p0 p1 p2 v p4 { A with mu:=A.mu++[z] }:=
 ⟨h.gc,(Blk.grown (h.bx.alloc ob) hgr (λe=>by have:=(Q5 h.o3 _ e.symm).1;have:=h.gc;omega)).set 3 v,
  Qc (zN (zB h.o0 ob) hgr (Vt (Jb h.a03))) h.gc 3 _,
  Qc (zN (zB h.o1 ob) hgr (Vt (Jb h.a13))) h.gc 3 _,
  Qc (zN (zB h.o2 ob) hgr (Vt (Jb h.a23))) h.gc 3 _,
  Qc (Qd.snoc hown) h.gc 3 _,
  Qc (zN (zB h.o4 ob) hgr (Xr h.o4 h.o3 (by decide))) h.gc 3 _,
  h.a01,
  h.a02,
  Jb (Vu (Jb h.a03) hat (λb e=>(Q5 h.o0 b e).2)),
  h.a12,
  Jb (Vu (Jb h.a13) hat (λb e=>(Q5 h.o1 b e).2)),
  Jb (Vu (Jb h.a23) hat (λb e=>(Q5 h.o2 b e).2))⟩
theorem R5.box3 {C g:Nat}{w:World}{p0 p1 p2 p3 p4:Value}{A:Au}{w':World}(h:R5 C g w p0 p1 p2 p3 p4 A)(ob:Obj)(hgr:(w.alloc ob).grownBy w' p3.ownBlock):w'.cell? (aD g 3)=some p3/\w'.frozen? (aD g 3)=false:=by
 have:=Blk.grown (h.bx.alloc ob) hgr (λe=>by have:=(Q5 h.o3 _ e.symm).1;have:=h.gc;omega)
 exact⟨this.c 3 rfl,this.frozen 3⟩
theorem R5.low3 {C g:Nat}{w:World}{p0 p1 p2 p3 p4:Value}{A:Au}{w0 w':World}{v:Value}(h:R5 C g w p0 p1 p2 p3 p4 A)(ob:Obj)(hgr:(w.alloc ob).grownBy w' p3.ownBlock)(hb:Below g w0 w):Below g w0 (w'.setCell (aD g 3) v):=
 Below.setCell (Below.grown (Below.alloc hb (Nat.le_of_lt h.bx.lt) ob) hgr (by have:=h.bx.lt;rw[Q3];omega) (λb e=>by have:=(Q5 h.o3 b e).1;have:=h.gc;omega)) lR _
theorem R5.app4 {C g:Nat}{w:World}{p0 p1 p2 p3 p4:Value}{A:Au}{w':World}{v:Value}{z:Bool}(h:R5 C g w p0 p1 p2 p3 p4 A)(ob:Obj)(hown:w'.ownsRow C 4 1 v (A.bd.length+1) (T7 A.bd++[.bool z]))(hgr:(w.alloc ob).grownBy w' p4.ownBlock)(hat:v.ownBlock=p4.ownBlock\/v.ownBlock=some (w.alloc ob).heap.size) :
  R5 C g (w'.setCell (aD g 4) v) p0 p1 p2 p3 v { A with bd:=A.bd++[z] }:=
 ⟨h.gc,(Blk.grown (h.bx.alloc ob) hgr (λe=>by have:=(Q5 h.o4 _ e.symm).1;have:=h.gc;omega)).set 4 v,
  Qc (zN (zB h.o0 ob) hgr (Xr h.o0 h.o4 (by decide))) h.gc 4 _,
  Qc (zN (zB h.o1 ob) hgr (Xr h.o1 h.o4 (by decide))) h.gc 4 _,
  Qc (zN (zB h.o2 ob) hgr (Xr h.o2 h.o4 (by decide))) h.gc 4 _,
  Qc (zN (zB h.o3 ob) hgr (Xr h.o3 h.o4 (by decide))) h.gc 4 _,
  Qc (Ao.snoc hown) h.gc 4 _,
  h.a01,
  h.a02,
  h.a03,
  h.a12,
  h.a13,
  h.a23⟩
theorem R5.box4 {C g:Nat}{w:World}{p0 p1 p2 p3 p4:Value}{A:Au}{w':World}(h:R5 C g w p0 p1 p2 p3 p4 A)(ob:Obj)(hgr:(w.alloc ob).grownBy w' p4.ownBlock):w'.cell? (aD g 4)=some p4/\w'.frozen? (aD g 4)=false:=by
 have:=Blk.grown (h.bx.alloc ob) hgr (λe=>by have:=(Q5 h.o4 _ e.symm).1;have:=h.gc;omega)
 exact⟨this.c 4 rfl,this.frozen 4⟩
theorem R5.low4 {C g:Nat}{w:World}{p0 p1 p2 p3 p4:Value}{A:Au}{w0 w':World}{v:Value}(h:R5 C g w p0 p1 p2 p3 p4 A)(ob:Obj)(hgr:(w.alloc ob).grownBy w' p4.ownBlock)(hb:Below g w0 w):Below g w0 (w'.setCell (aD g 4) v):=
 Below.setCell (Below.grown (Below.alloc hb (Nat.le_of_lt h.bx.lt) ob) hgr (by have:=h.bx.lt;rw[Q3];omega) (λb e=>by have:=(Q5 h.o4 b e).1;have:=h.gc;omega)) lR _
end Go.Proofs.YtahpodmokbdjeaaGreatDoor
