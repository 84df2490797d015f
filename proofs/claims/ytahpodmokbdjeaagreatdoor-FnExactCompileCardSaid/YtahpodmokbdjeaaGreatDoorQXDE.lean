import Derived.Test.YtahpodmokbdjeaaGreatDoorQXDA
namespace Go.Proofs.YtahpodmokbdjeaaGreatDoor
open Go.RowKit Go.Maps Tryz
set_option linter.unusedVariables false
set_option maxRecDepth 1000000
set_option maxHeartbeats 16000000
theorem Q68 {us ws:List (List Int)}(hu:Y2 us)(hw:Y2 ws)(h:∀y,inW us y->inW ws y)(i:Nat)(hi:i<us.length):∃k,i<=k/\k<ws.length/\wd ws k=wd us i:=by
 induction i with
 |zero=>
  obtain⟨k,hk,e⟩:=h (wd us 0) ⟨0,hi,rfl⟩
  exact⟨k,nZ,hk,e⟩
 |succ i ih=>
  obtain⟨k,h1,h2,h3⟩:=ih (by omega)
  obtain⟨k',hk',e⟩:=h (wd us (i+1)) ⟨i+1,hi,rfl⟩
  refine⟨k',?_,hk',e⟩
  have hb:=hu i (i+1) (by omega) hi
  rw[<-h3,<-e] at hb
  rcases Nat.lt_trichotomy k k' with c|c|c
  ·omega
  ·subst c;rw[Vm] at hb;cases hb
  ·have:=Za hb (hw k' k c h2)
   rw[Vm] at this;cases this
theorem Ff {us ws:List (List Int)}(hu:Y2 us)(hw:Y2 ws)(h:∀y,inW us y->inW ws y):us.length<=ws.length:=by
 by_cases c:us.length=0
 ·omega
 ·obtain⟨k,h1,h2,_⟩:=Q68 hu hw h (us.length-1) (by omega)
  omega
theorem Q6b {us ws:List (List Int)}(hu:Y2 us)(hw:Y2 ws)(h:∀y,inW us y↔inW ws y):us=ws:=by
 have hl:us.length=ws.length:=Nat.le_antisymm (Ff hu hw λy=>(h y).1) (Ff hw hu λy=>(h y).2)
 apply List.ext_getElem hl
 intro i h1 h2
 have key:wd us i=wd ws i:=by
  obtain⟨k,k1,k2,k3⟩:=Q68 hu hw (λy=>(h y).1) i h1
  obtain⟨m,m1,m2,m3⟩:=Q68 hw hu (λy=>(h y).2) i h2
  by_cases c:k=i
  ·rw[<-k3,c]
  ·have hb:=hw i k (by omega) k2
   rw[k3,<-m3] at hb
   by_cases d:m=i
   ·rw[d,Vm] at hb;cases hb
   ·have:=Za hb (hu i m (by omega) m2)
    rw[Vm] at this;cases this
 unfold wd at key
 rw[zD,zJ h1,zD,zJ h2] at key
 exact key
def muK (rs:List Ru):Nat->List Int->Int
 |0=>λ_=>-1
 |k+1=>muP (Qk rs k) (muK rs k)
def bdK (rs:List Ru):Nat->List Int->Bool
 |0=>λ_=>false
 |k+1=>bdP (Qk rs k) (bdK rs k)
theorem Qbm {rs:List Ru}{k:Nat}(y:List Int):PW rs (k+1) 1 y↔PW rs k 1 y\/∃t,1<=t/\t<=Xs (Qk rs k)/\y=(Qk rs k).seq.take t:=by
 constructor
 ·rintro(h|⟨j,hj,q,h1,h2,h3⟩|⟨q,h1,h2,h3⟩)
  ·exact oL (oL h)
  ·by_cases e:j=k
   ·subst e;exact oR ⟨q,h1,h2,h3⟩
   ·exact oL (oR (oL ⟨j,by omega,q,h1,h2,h3⟩))
  ·omega
 ·rintro((h|⟨j,hj,q,h1,h2,h3⟩|⟨q,h1,h2,h3⟩)|⟨t,h1,h2,h3⟩)
  ·exact oL h
  ·exact oR (oL ⟨j,by omega,q,h1,h2,h3⟩)
  ·omega
  ·exact oR (oL ⟨k,by omega,t,h1,h2,h3⟩)
theorem Qeo {rs:List Ru}{k n:Nat}(h:k<=n){y:List Int}(hy:PW rs k 1 y):PW rs n 1 y:=by
 rcases hy with h1|⟨j,hj,q,h1,h2,h3⟩|⟨q,h1,h2,h3⟩
 ·exact oL h1
 ·exact oR (oL ⟨j,by omega,q,h1,h2,h3⟩)
 ·omega
theorem El {x:Ru}(h:2<=x.seq.length):1<=Xs x:=by unfold Xs;split<;>omega
theorem Qex {rs:List Ru}(hg:rgB rs=true){k:Nat}(hk:k<=rs.length):∀y,¬PW rs k 1 y->muK rs k y=-1:=by
 induction k with
 |zero=>exact λ_ _=>rfl
 |succ k ih=>
  intro y hy
  rw[Qbm] at hy
  have h1:=ih (by omega) y (λh=>hy (oL h))
  show muP (Qk rs k) (muK rs k) y=-1
  unfold muP
  split
  ·rw[Vr _ _ (λe=>hy (oR ⟨_,El (Zo hg (show k<rs.length by omega)).1,lR,e⟩))]
   exact h1
  ·exact h1
theorem Qfw {rs:List Ru}(hg:rgB rs=true){k:Nat}(hk:k<=rs.length):∀y,¬PW rs k 1 y->bdK rs k y=false:=by
 induction k with
 |zero=>exact λ_ _=>rfl
 |succ k ih=>
  intro y hy
  rw[Qbm] at hy
  have h1:=ih (by omega) y (λh=>hy (oL h))
  show bdP (Qk rs k) (bdK rs k) y=false
  unfold bdP
  split
  ·exact h1
  ·rw[Vr _ _ (λe=>hy (oR ⟨_,El (Zo hg (show k<rs.length by omega)).1,lR,e⟩))]
   exact h1
structure GI (rs:List Ru)(k:Nat)(w0 w:World)(ws:List (List Int))(bl:List Int->Nat)(mv:List Int->Value):Prop where
 pt:PT ws (muK rs k) (bdK rs k) w0.heap.size w bl mv
 ok:WS ws
 mem:∀y,inW ws y↔PW rs k 1 y
 root:bl []=w0.heap.size
 nx:Nx w0 w
theorem GI.start {rs:List Ru}{w0 w:World}(hb:Blk w w0.heap.size (node 0 0 (-1) (-1) false (.pointer none) (.pointer none) (.map none)))(k:Nx w0 w):GI rs 0 w0 w [[]] (λ_=>w0.heap.size) (λ_=>.map none):=by
 have hin:∀y,inW [[]] y↔y=[]:=by
  intro y
  rw[<-En]
  simp
 refine⟨⟨λx hx=>?_,λx hx=>oL ⟨rfl,?_⟩,λx y hx hy _=>?_,λx hx=>lR,λx mb hx e=>by simp[Jq] at e,λx y mb hx hy e=>by simp[Jq] at e⟩,⟨λi j h1 h2=>by simp at h2;omega,(hin []).2 rfl,λx e h=>?_,λx e h=>?_⟩,λy=>?_,rfl,k⟩
 ·rw[(hin x).1 hx]
  exact hb
 ·simp[Ja,Wi]
 ·rw[(hin x).1 hx,(hin y).1 hy]
 ·have:=(hin _).1 h
  simp at this
 ·have:=(hin _).1 h
  simp at this
 ·rw[hin]
  constructor
  ·exact Or.inl
  ·rintro(h|⟨j,hj,_⟩|⟨q,h1,h2,_⟩)
   ·exact h
   ·omega
   ·omega
def GTE (rs:List Ru)(w0 w':World)(r:Ending):Prop:=
 (r=.returned (.tuple #[.pointer none,.bool false])/\∃ws:List (List Int),2000<ws.length/\Y2 ws/\∀y,inW ws y->PW rs rs.length 1 y) \/
 ∃ws bl mv,r=.returned (.tuple #[ptr w0.heap.size,.bool true])/\ws.length<=2000/\GI rs rs.length w0 w' ws bl mv
theorem Q2k (B:Nat)(v:Value)(rs:List Ru)(w:World)(h0:X7 B w v rs)(hg:rgB rs=true) :
  Calls prog 80 #[v] w λr w'=>GTE rs w w' r/\Nx w w':=by
 have HG:Z (rgB rs=true):=hg
 obtain⟨a,cap,rfl,hn,hk⟩:=h0
 unfold maxLen at hn
 generalize hz:rs.length=n at *
 have HZ:Z (rs.length=n):=hz
 clear hz hg
 go_enter func80,ntmps80
 go_wp2_with fail
 refine(Q48 w).mono ?_
 rintro r w1 ⟨rfl,hb,hx⟩
 have HI0:Z (GI rs 0 w w1 [[]] (λ_=>w.heap.size) (λ_=>.map none)):=GI.start hb hx
 clear hb hx
 unfold ptr
 go_wp2
 go_loopw [5,7,11] (λe5 _ i wr=>∃(k:Nat) (ws:List (List Int)) (bl:List Int->Nat) (mv:List Int->Value),k<=n/\i=iV k/\e5=iV ((ws.length:Nat):Int)/\ws.length<=2000/\Z (GI rs k w wr ws bl mv)) (λ_ _ i _=>n-(intOf i).toNat)
 case atStart=>exact⟨0,_,_,_,nZ,rfl,rfl,by simp,HI0⟩
 clear HI0
 obtain⟨k,ws,bl,mv,hkn,rfl,rfl,hwl,HI⟩:=hrel
 by_cases hlt:k<n
 case neg=>
  have ek:n=k:=by omega
  have HF:Z (GI rs rs.length w wr ws bl mv):=by rw[HZ.o,ek];exact HI.o
  have hnl:¬(k:Int)<n:=by omega
  have HWL:Z (ws.length<=2000):=hwl
  clear ek hwl
  go_wp2
  refine bodyPost_ret (v:=.tuple #[pT w.heap.size,.bool true]) (by simp[results,results80,go_sem]) rfl ?_
  exact⟨oR ⟨ws,bl,mv,rfl,HWL.o,HF.o⟩,HI.o.nx⟩
 obtain⟨b,off,rfl,_,hb,hc⟩:=hk (by omega)
 obtain⟨sa,sc,c0',c1',c2',hS,hcap⟩:=hc k hlt
 have c0:=U9 HI.o.nx c0'
 have c1:=U9 HI.o.nx c1'
 have c2:=U9 HI.o.nx c2'
 have hlt':(k:Int)<n:=by omega
 have hr:=Zo HG.o (show k<rs.length by rw[HZ.o];exact hlt)
 have HR3:Z (∀j,j<(Qk rs k).seq.length->0<=iat (Qk rs k).seq j/\iat (Qk rs k).seq j<4000):=hr.2.2
 have h2:=hr.1
 have h4:=hr.2.1
 have HS:Z (Q8 B w (.slice sa (Qk rs k).seq.length sc) (Qk rs k).seq):=hS
 have HCP:Z ((Qk rs k).seq.length<=sc):=hcap
 have HMU:Z (∀y,¬inW ws y->muK rs k y=-1):=λy hy=>Qex HG.o (by rw[HZ.o];exact hkn) y (λh=>hy ((HI.o.mem y).2 h))
 have HBD:Z (∀y,¬inW ws y->bdK rs k y=false):=λy hy=>Qfw HG.o (by rw[HZ.o];exact hkn) y (λh=>hy ((HI.o.mem y).2 h))
 have HWL:Z (ws.length<=2000):=hwl
 have HRT:Z (bl []=w.heap.size):=HI.o.root
 have HSTEP:Z (∀w5 ws' bl' mv',PT ws' (muP (Qk rs k) (muK rs k)) (bdP (Qk rs k) (bdK rs k)) w.heap.size w5 bl' mv'->WS ws'->(∀y,inW ws' y↔inW ws y\/∃t,1<=t/\t<=Xs (Qk rs k)/\y=(Qk rs k).seq.take t)->bl' []=bl []->Nx w w5->GI rs (k+1) w w5 ws' bl' mv'):=λw5 ws' bl' mv' h1 h2 h3 h4 h5=>⟨h1,h2,λy=>by rw[h3,Qbm,HI.o.mem],h4.trans HRT.o,h5⟩
 have HNO:Z (∀w5 ws' bl' mv',GI rs (k+1) w w5 ws' bl' mv'->2000<ws'.length->∃ws:List (List Int),2000<ws.length/\Y2 ws/\∀y,inW ws y->PW rs rs.length 1 y):=λw5 ws' bl' mv' h1 h2=>⟨ws',h2,h1.ok.asc,λy hy=>Qeo (by rw[HZ.o];omega) ((h1.mem y).1 hy)⟩
 clear hc hk c0' c1' c2' hS hr hcap hwl
 have HB1:Z (Nx wr (wr.alloc (.cells #[iV (Qk rs k).rel,.bool (Qk rs k).only,.slice sa (Qk rs k).seq.length sc] 126))):=Q4 _ _
 have HI1:Z (PT ws (muK rs k) (bdK rs k) w.heap.size (wr.alloc (.cells #[iV (Qk rs k).rel,.bool (Qk rs k).only,.slice sa (Qk rs k).seq.length sc] 126)) bl mv):=HI.o.pt.next HB1.o
 have HIN:Z (Nx w (wr.alloc (.cells #[iV (Qk rs k).rel,.bool (Qk rs k).only,.slice sa (Qk rs k).seq.length sc] 126))):=HI.o.nx.trans HB1.o
 have HOK:Z (WS ws):=HI.o.ok
 clear HI HB1
 obtain⟨p,hp⟩:∃p,(Qk rs k).seq.length=p+1:=⟨(Qk rs k).seq.length-1,by omega⟩
 have HP:Z ((Qk rs k).seq.length=p+1):=hp
 rw[hp] at HS HCP c2 HI1 HIN h2 h4
 clear hp
 have HPL:Z (∀bb,(Qk rs k).only=bb->Calls prog 124 #[ptr (bl []),.agg #[iV (Qk rs k).rel,.bool bb,sL sa (p+1) sc]] (wr.alloc (.cells #[iV (Qk rs k).rel,.bool (Qk rs k).only,sL sa (p+1) sc] 126)) λr w'=>PlE (Qk rs k) ws (muK rs k) (bdK rs k) bl w w' r):=by
  intro bb hbb
  cases bb with
  |false=>exact Qbs B (Qk rs k) sa p sc ws _ _ bl mv w _ HI1.o HOK.o HIN.o HP.o HS.o (by omega) (by omega) HCP.o HR3.o HWL.o HMU.o HBD.o hbb
  |true=>exact Q6e B (Qk rs k) sa p sc ws _ _ bl mv w _ HI1.o HOK.o HIN.o HP.o HS.o (by omega) (by omega) HCP.o HR3.o HWL.o HMU.o HBD.o hbb
 have HPL2:=HPL.o _ rfl
 rw[HRT.o] at HPL2
 have HPL3:Z (Calls prog 124 #[ptr w.heap.size,.agg #[iV (Qk rs k).rel,.bool (Qk rs k).only,sL sa (p+1) sc]] (wr.alloc (.cells #[iV (Qk rs k).rel,.bool (Qk rs k).only,sL sa (p+1) sc] 126)) λr w'=>PlE (Qk rs k) ws (muK rs k) (bdK rs k) bl w w' r):=HPL2
 clear HPL HPL2 HI1 HIN HS HCP HR3 HMU HBD HOK h2 h4
 go_wp2_with fail
 refine HPL3.o.mono ?_
 rintro r w5 ⟨ws',bl',mv',d,rfl,q1,q2,q3,q4,q5,q6,q7⟩
 have HGI:Z (GI rs (k+1) w w5 ws' bl' mv'):=HSTEP.o w5 ws' bl' mv' q1 q2 q3 q6 q7
 have hln:((ws.length:Nat):Int)+d=((ws'.length:Nat):Int):=by omega
 have hwr:=Yk ws'.length (by have:=HWL.o;omega)
 clear q1 q2 q3 q6 q7 HSTEP HPL3 c0 c1 c2
 by_cases hbig:ws'.length<=2000
 ·have d1:decide (2000<((ws'.length:Nat):Int))=false:=by simp;omega
  clear q4
  go_wp2
  go_roundw
  case rel=>exact⟨k+1,ws',bl',mv',by omega,by go_num,rfl,hbig,HGI⟩
  case measure=>simp[intOf];omega
 ·have d1:decide (2000<((ws'.length:Nat):Int))=true:=by simp;omega
  have HF:Z (∃ws:List (List Int),2000<ws.length/\Y2 ws/\∀y,inW ws y->PW rs rs.length 1 y):=HNO.o w5 ws' bl' mv' HGI.o (by omega)
  clear q4
  go_wp2
  refine bodyPost_ret (v:=.tuple #[.pointer none,.bool false]) (by simp[results,results80,go_sem]) rfl ?_
  exact⟨oL ⟨rfl,HF.o⟩,HGI.o.nx⟩
structure NR (n:Nat)(w:World)(bl:Nat->Nat)(num len la mu:Nat->Int)(bd:Nat->Bool)(par fl mv:Nat->Value):Prop where
 nd:∀s,s<n->Blk w (bl s) (node (num s) (len s) (la s) (mu s) (bd s) (par s) (fl s) (mv s))
 inj:∀s t,s<n->t<n->bl s=bl t->s=t
theorem NR.bad {n:Nat}{w:World}{bl:Nat->Nat}{num len la mu:Nat->Int}{bd:Nat->Bool}{par fl mv:Nat->Value}(h:NR n w bl num len la mu bd par fl mv){t:Nat}(ht:t<n)(z:Bool):NR n (w.setCell (aD (bl t) 4) (.bool z)) bl num len la mu (upd bd t z) par fl mv:=by
 refine⟨λs hs=>?_,h.inj⟩
 by_cases e:s=t
 ·subst e
  rw[Xp]
  exact(h.nd s hs).set 4 _
 ·rw[Vq _ _ e]
  exact(h.nd s hs).setOther (λe'=>e (h.inj s t hs ht e')) _ _
theorem NR.must {n:Nat}{w:World}{bl:Nat->Nat}{num len la mu:Nat->Int}{bd:Nat->Bool}{par fl mv:Nat->Value}(h:NR n w bl num len la mu bd par fl mv){t:Nat}(ht:t<n)(z:Int):NR n (w.setCell (aD (bl t) 3) (iV z)) bl num len la (upd mu t z) bd par fl mv:=by
 refine⟨λs hs=>?_,h.inj⟩
 by_cases e:s=t
 ·subst e
  rw[Xp]
  exact(h.nd s hs).set 3 _
 ·rw[Vq _ _ e]
  exact(h.nd s hs).setOther (λe'=>e (h.inj s t hs ht e')) _ _
theorem NR.next {n:Nat}{w w':World}{bl:Nat->Nat}{num len la mu:Nat->Int}{bd:Nat->Bool}{par fl mv:Nat->Value}(h:NR n w bl num len la mu bd par fl mv)(k:Nx w w'):NR n w' bl num len la mu bd par fl mv:=⟨λs hs=>(h.nd s hs).next k,h.inj⟩
def mix {α:Type}(M m:Nat->α)(k s:Nat):α:=if s<k then M s else m s
theorem Qcc {α:Type}(M m:Nat->α)(k:Nat):upd (mix M m k) k (M k)=mix M m (k+1):=by
 funext s
 unfold upd mix
 by_cases h:s=k
 ·subst h;simp
 ·by_cases h2:s<k
  ·rw[if_neg h,if_pos h2,if_pos (by omega)]
  ·rw[if_neg h,if_neg h2,if_neg (by omega)]
theorem T0 {α:Type}(M m:Nat->α){k s:Nat}(h:s<k):mix M m k s=M s:=if_pos h
theorem Em {α:Type}(M m:Nat->α){k s:Nat}(h:¬s<k):mix M m k s=m s:=if_neg h
theorem NR.congr {n:Nat}{w:World}{bl:Nat->Nat}{num len la mu mu':Nat->Int}{bd bd':Nat->Bool}{par fl mv:Nat->Value}(h:NR n w bl num len la mu bd par fl mv)(h1:∀s,s<n->mu s=mu' s)(h2:∀s,s<n->bd s=bd' s):NR n w bl num len la mu' bd' par fl mv:=
 ⟨λs hs=>by rw[<-h1 s hs,<-h2 s hs];exact h.nd s hs,h.inj⟩
theorem FrA.refl (n:Nat)(bl:Nat->Nat)(w:World):FrA n bl w w:=⟨rfl,rfl,rfl,lR,λ_ _ _=>rfl⟩
theorem Q4q (m C:Nat)(v:Value)(w:World)(bl:Nat->Nat)(num len la mu M:Nat->Int)(bd D:Nat->Bool)(par fl mv:Nat->Value)(f:Nat->Nat)(hO:Xg C w v ((List.range (m+1)).map bl))(hC:∀s,s<m+1->bl s<C)(h:NR (m+1) w bl num len la mu bd par fl mv)(hm:m+1<=2000)(hf:∀s,1<=s->s<m+1->fl s=ptr (bl (f s))/\f s<s)(hM0:M 0=mu 0)(hD0:D 0=bd 0)(hM:∀s,1<=s->s<m+1->M s=jm (mu s) (M (f s)))(hD:∀s,1<=s->s<m+1->D s=(bd s||D (f s))) :
  Calls prog 82 #[v] w λr w'=>r=.returned (.tuple #[])/\NR (m+1) w' bl num len la M D par fl mv/\Xg C w' v ((List.range (m+1)).map bl)/\FrA (m+1) bl w w':=by
 have HC:Z (∀s,s<m+1->bl s<C):=hC
 have HF:Z (∀s,1<=s->s<m+1->fl s=ptr (bl (f s))/\f s<s):=hf
 have HM:Z (∀s,1<=s->s<m+1->M s=jm (mu s) (M (f s))):=hM
 have HD:Z (∀s,1<=s->s<m+1->D s=(bd s||D (f s))):=hD
 have HO:Z (Xg C w v ((List.range (m+1)).map bl)):=hO
 have HN0:Z (NR (m+1) w bl num len la (mix M mu 1) (mix D bd 1) par fl mv):=h.congr (λs hs=>by
   by_cases e:s<1
   ·rw[T0 _ _ e,show s=0 by omega,hM0]
   ·rw[Em _ _ e]) (λs hs=>by
   by_cases e:s<1
   ·rw[T0 _ _ e,show s=0 by omega,hD0]
   ·rw[Em _ _ e])
 obtain⟨a,c,rfl⟩:=hO.slice
 rw[zG,zY] at *
 obtain⟨g,hag,_⟩:=HO.o.cell (i:=0) (by simp)
 subst hag
 have HCELL:Z (∀wr i,Xg C wr (sL (sA g) (m+1) c) ((List.range (m+1)).map bl)->i<m+1->wr.cell? (aD g i)=some (pT (bl i))):=by
  intro wr i h1 h2
  obtain⟨g',hg',hc'⟩:=h1.cell (i:=i) (by simp;exact h2)
  rw[Pg bl h2] at hc'
  have:g=g':=by simpa using hg'
  subst this
  exact hc'
 have hcm:m+1<=c:=by
  rcases HO.o.2 with⟨h1,_⟩|⟨g',cap,cur,h1,_,_,h2,_⟩
  ·simp at h1
  ·simp only[zC,zG,zY] at h1 h2
   omega
 have hcM:c<=9223372036854775807:=by
  rcases HO.o.2 with⟨h1,_⟩|⟨g',cap,cur,h1,_,_,_,h2,_⟩
  ·simp at h1
  ·simp only[zC] at h1
   unfold maxLen at h2
   omega
 have hl1:(1:Int)<=(m:Int)+1:=by omega
 have wm1:IntKind.i64.wrap ((m:Int)+1-1)=(m:Int):=by rw[IntKind.wrap_i64];omega
 have wm2:((m:Int)+1-1)=(m:Int):=by omega
 clear hO hC hf hM hD hM0 hD0 h
 by_cases hc1:c=1
 ·have hm0:m=0:=by omega
  have HFIN:Z (NR (m+1) w bl num len la M D par fl mv):=HN0.o.congr (λs hs=>T0 _ _ (by omega)) (λs hs=>T0 _ _ (by omega))
  subst hm0 hc1
  clear wm1 wm2
  go_enter func82,ntmps82
  go_wp2
  go_loop [3,7] (λ_ i=>i=iV 0) (λ_ _=>0)
  case atStart=>rfl
  subst hrel
  go_wp2
  refine bodyPost_end (v:=.tuple #[]) (by simp[results,results82,go_sem]) rfl ⟨rfl,HFIN.o,HO.o,FrA.refl _ _ _⟩
 have hc2:(1:Int)<=c:=by omega
 go_enter func82,ntmps82
 go_wp2
 go_loopw [3,7] (λ_ i wr=>∃k:Nat,k<=m/\i=iV k/\Z (NR (m+1) wr bl num len la (mix M mu (k+1)) (mix D bd (k+1)) par fl mv)/\Z (Xg C wr (sL (sA g) (m+1) c) ((List.range (m+1)).map bl))/\Z (FrA (m+1) bl w wr)) (λ_ i _=>m-(intOf i).toNat)
 case atStart=>exact⟨0,nZ,rfl,HN0,HO,FrA.refl _ _ _⟩
 clear HN0 HO wm1 wm2
 obtain⟨k,hkm,rfl,HN,HO,HR⟩:=hrel
 by_cases hlt:k<m
 case neg=>
  have ek:k=m:=by omega
  subst ek
  have hnl:¬(k:Int)<k:=by omega
  have HFIN:Z (NR (k+1) wr bl num len la M D par fl mv):=HN.o.congr (λs hs=>T0 _ _ hs) (λs hs=>T0 _ _ hs)
  clear hlt
  go_wp2
  refine bodyPost_end (v:=.tuple #[]) (by simp[results,results82,go_sem]) rfl ⟨rfl,HFIN.o,by first|exact HO.o|(rw[K5];exact HO.o),HR.o⟩
 have hlt':(k:Int)<m:=by omega
 have hft:=HF.o (k+1) (by omega) (by omega)
 have x0:wr.cell? (aD g (1+k))=some (pT (bl (k+1))):=by rw[Nat.add_comm 1 k];exact HCELL.o wr (k+1) HO.o (by omega)
 have HM1:Z (M (k+1)=jm (mu (k+1)) (M (f (k+1)))):=HM.o (k+1) (by omega) (by omega)
 have HD1:Z (D (k+1)=(bd (k+1)||D (f (k+1)))):=HD.o (k+1) (by omega) (by omega)
 have NS:=HN.o.nd (k+1) (by omega)
 have NF:=HN.o.nd (f (k+1)) (by omega)
 rw[Em _ _ (yK _),Em _ _ (yK _),hft.1] at NS
 rw[T0 _ _ hft.2,T0 _ _ hft.2] at NF
 unfold ptr at NS
 have s4:wr.cell? (aD (bl (k+1)) 4)=some (.bool (bd (k+1))):=NS.c 4 rfl
 have s6:wr.cell? (aD (bl (k+1)) 6)=some (pT (bl (f (k+1)))):=NS.c 6 rfl
 have z4:=NS.frozen 4
 have t4:wr.cell? (aD (bl (f (k+1))) 4)=some (.bool (D (f (k+1)))):=NF.c 4 rfl
 have HFT:Z (fl (k+1)=pT (bl (f (k+1)))/\f (k+1)<k+1):=hft
 have H2:Z (NR (m+1) (wr.setCell (aD (bl (k+1)) 4) (.bool (D (k+1)))) bl num len la (mix M mu (k+1)) (mix D bd (k+1+1)) par fl mv):=by
  have:=HN.o.bad (t:=k+1) (by omega) (D (k+1))
  rw[Qcc] at this
  exact this
 have HO2:Z (Xg C (wr.setCell (aD (bl (k+1)) 4) (.bool (D (k+1)))) (sL (sA g) (m+1) c) ((List.range (m+1)).map bl)):=Qc HO.o (HC.o _ (by omega)) _ _
 have HR2:Z (FrA (m+1) bl w (wr.setCell (aD (bl (k+1)) 4) (.bool (D (k+1))))):=HR.o.set (by omega) _ _
 clear NS NF hft HN HO HR
 have hgo:∀w2:World,Z (NR (m+1) w2 bl num len la (mix M mu (k+1)) (mix D bd (k+1+1)) par fl mv)->w2.cell? (aD (bl (k+1)) 3)=some (iV (mu (k+1)))/\w2.frozen? (aD (bl (k+1)) 3)=false/\w2.cell? (aD (bl (k+1)) 6)=some (pT (bl (f (k+1))))/\w2.cell? (aD (bl (f (k+1))) 3)=some (iV (M (f (k+1))))/\Z (NR (m+1) (w2.setCell (aD (bl (k+1)) 3) (iV (jm (mu (k+1)) (M (f (k+1)))))) bl num len la (mix M mu (k+1+1)) (mix D bd (k+1+1)) par fl mv):=by
  intro w2 h2
  have NS:=h2.o.nd (k+1) (by omega)
  have NF:=h2.o.nd (f (k+1)) (by have:=HFT.o.2;omega)
  rw[Em M mu (yK _),HFT.o.1] at NS
  rw[T0 M mu HFT.o.2] at NF
  refine⟨NS.c 3 rfl,NS.frozen 3,NS.c 6 rfl,NF.c 3 rfl,?_⟩
  have:=h2.o.must (t:=k+1) (by omega) (M (k+1))
  rw[Qcc,HM1.o] at this
  exact this
 have HGO:Z _:=hgo
 clear hgo
 cases hb:bd (k+1)
 all_goals
  rw[hb] at s4 HD1
  simp only[Bool.true_or,Bool.false_or] at HD1
  rw[HD1.o] at H2 HO2 HR2
  clear hb HD1
  go_upto_region 4 with fail
  generalize hw2:wr.setCell (aD (bl (k+1)) 4) (.bool _)=w2 at *
  clear hw2 s4 s6 z4 t4 x0
  obtain⟨u3,v3,u6,r3,HE⟩:=HGO.o w2 H2
  have HO3:Z (Xg C (w2.setCell (aD (bl (k+1)) 3) (iV (jm (mu (k+1)) (M (f (k+1)))))) (sL (sA g) (m+1) c) ((List.range (m+1)).map bl)):=Qc HO2.o (HC.o _ (by omega)) _ _
  have HR3:Z (FrA (m+1) bl w (w2.setCell (aD (bl (k+1)) 3) (iV (jm (mu (k+1)) (M (f (k+1))))))):=HR2.o.set (by omega) _ _
  clear H2 HO2 HR2 HFT HM1
  go_region_with (go_at_call 130;refine(Pu _ _ _).mono ?_;rintro e w6 ⟨rfl,rfl⟩)
  all_goals go_wp2
  all_goals
   go_roundw
   case rel=>exact⟨k+1,by omega,by go_num,HE.o.next (Nx.refl _).drew,HO3.o.next (Nx.refl _).drew,⟨HR3.o.os,HR3.o.tape,HR3.o.output,HR3.o.size,HR3.o.block⟩⟩
   case measure=>simp[intOf];omega
end Go.Proofs.YtahpodmokbdjeaaGreatDoor
namespace Go.Proofs.YtahpodmokbdjeaaGreatDoor
open Go.RowKit Go.Sort Go.Maps
set_option linter.unusedVariables false
set_option maxRecDepth 1000000
set_option maxHeartbeats 16000000
end Go.Proofs.YtahpodmokbdjeaaGreatDoor
namespace Go.Proofs.YtahpodmokbdjeaaGreatDoor
open Go.RowKit Go.Maps
set_option linter.unusedVariables false
set_option maxRecDepth 1000000
set_option maxHeartbeats 16000000
def Qgp (rs:List Ru)(k:Nat)(y:List Int)(e:Int):Prop:=∃j,j<k/\(Qk rs j).only=true/\y=(Qk rs j).seq.take (Xs (Qk rs j))/\e=iat (Qk rs j).seq ((Qk rs j).seq.length-1)
theorem Q24 (rs:List Ru)(k:Nat)(y:List Int)(e:Int):Qgp rs (k+1) y e↔Qgp rs k y e\/((Qk rs k).only=true/\y=(Qk rs k).seq.take (Xs (Qk rs k))/\e=iat (Qk rs k).seq ((Qk rs k).seq.length-1)):=by
 constructor
 ·rintro⟨j,hj,h⟩
  by_cases c:j=k
  ·subst c;exact oR h
  ·exact oL ⟨j,by omega,h⟩
 ·rintro(⟨j,hj,h⟩|h)
  ·exact⟨j,by omega,h⟩
  ·exact⟨k,by omega,h⟩
theorem Qcb {rs:List Ru}(hg:rgB rs=true){k:Nat}(hk:k<=rs.length)(y:List Int):Vo (Qgp rs k y) (muK rs k y):=by
 induction k with
 |zero=>exact Vo.none.congr λx=>⟨λh=>h.elim,λ⟨j,hj,_⟩=>by omega⟩
 |succ k ih=>
  have h1:=ih (by omega)
  have hr:=Zo hg (show k<rs.length by omega)
  show Vo _ (muP (Qk rs k) (muK rs k) y)
  unfold muP
  by_cases ho:(Qk rs k).only=true
  ·rw[if_pos ho]
   by_cases c:y=(Qk rs k).seq.take (Xs (Qk rs k))
   ·rw[<-c,Yn]
    refine(h1.join (Vo.one (hr.2.2 ((Qk rs k).seq.length-1) (by omega)).1)).congr λx=>?_
    rw[Q24]
    exact⟨λh=>h.elim oL λh=>oR ⟨ho,c,h⟩,λh=>h.elim oL λh=>oR h.2.2⟩
   ·rw[Vr _ _ c]
    refine h1.congr λx=>?_
    rw[Q24]
    exact⟨Or.inl,λh=>h.elim id λh=>absurd h.2.1 c⟩
  ·rw[if_neg ho]
   refine h1.congr λx=>?_
   rw[Q24]
   exact⟨Or.inl,λh=>h.elim id λh=>absurd h.1 ho⟩
def Qgk (rs:List Ru)(k:Nat)(xs:List Int)(e:Int):Prop:=∃j,j<k/\(Qk rs j).only=true/\(Qk rs j).seq.take (Xs (Qk rs j)) <:+ xs/\e=iat (Qk rs j).seq ((Qk rs j).seq.length-1)
theorem G7 {x:Ru}(h:x.only=true):Xs x=x.seq.length-1:=by unfold Xs;rw[if_pos h]
theorem Q84 {x:Ru}(h:x.only=false):Xs x=x.seq.length:=by unfold Xs;rw[h];rfl
theorem Wh {rs:List Ru}(hg:rgB rs=true){k:Nat}(hk:k<=rs.length)(xs:List Int):Vo (Qgk rs k xs) (Vk rs xs k):=by
 induction k with
 |zero=>exact Vo.none.congr λx=>⟨λh=>h.elim,λ⟨j,hj,_⟩=>by omega⟩
 |succ k ih=>
  have h1:=ih (by omega)
  have hr:=Zo hg (show k<rs.length by omega)
  have hup:∀e,Qgk rs (k+1) xs e↔Qgk rs k xs e\/((Qk rs k).only=true/\(Qk rs k).seq.take (Xs (Qk rs k)) <:+ xs/\e=iat (Qk rs k).seq ((Qk rs k).seq.length-1)):=by
   intro e
   constructor
   ·rintro⟨j,hj,h⟩
    by_cases c:j=k
    ·subst c;exact oR h
    ·exact oL ⟨j,by omega,h⟩
   ·rintro(⟨j,hj,h⟩|h)
    ·exact⟨j,by omega,h⟩
    ·exact⟨k,by omega,h⟩
  rw[Vk]
  by_cases c:G6 (Qk rs k) xs=true
  ·rw[if_pos c]
   have hc:=c
   unfold G6 at hc
   rw[zH,Pb] at hc
   rw[<-Qf4 _ _ (hr.2.2 ((Qk rs k).seq.length-1) (by omega)).1]
   refine(h1.join (Vo.one (hr.2.2 ((Qk rs k).seq.length-1) (by omega)).1)).congr λx=>?_
   rw[hup]
   exact⟨λh=>h.elim oL λh=>oR ⟨hc.1,by rw[G7 hc.1];exact hc.2,h⟩,λh=>h.elim oL λh=>oR h.2.2⟩
  ·rw[if_neg c]
   refine h1.congr λx=>?_
   rw[hup]
   refine⟨Or.inl,λh=>h.elim id λh=>absurd ?_ c⟩
   unfold G6
   rw[zH,Pb]
   exact⟨h.1,by rw[<-G7 h.1];exact h.2.1⟩
theorem Q2w (rs:List Ru)(xs:List Int):Js rs xs=true↔∃j,j<rs.length/\(Qk rs j).only=false/\(Qk rs j).seq.take (Xs (Qk rs j)) <:+ xs:=by
 constructor
 ·intro h
  unfold Js at h
  rw[Bool.not_eq_true'] at h
  unfold Je at h
  rw[List.all_eq_false] at h
  obtain⟨j,hj,hb⟩:=h
  rw[zV] at hj
  have hb':Wm (Qk rs j) xs=true:=by simpa using hb
  unfold Wm at hb'
  rw[zH,Pb] at hb'
  have ho:(Qk rs j).only=false:=by simpa using hb'.1
  refine⟨j,hj,ho,?_⟩
  rw[Q84 ho,zU]
  exact hb'.2
 ·rintro⟨j,hj,ho,hs⟩
  symm
  apply Q90 rfl hj
  unfold Wm
  rw[zH,Pb]
  rw[Q84 ho,zU] at hs
  exact⟨by rw[ho];rfl,hs⟩
theorem Q8z (rs:List Ru)(k:Nat)(y:List Int):bdK rs k y=true↔∃j,j<k/\(Qk rs j).only=false/\y=(Qk rs j).seq.take (Xs (Qk rs j)):=by
 induction k with
 |zero=>exact⟨λh=>by simp[bdK] at h,λ⟨j,hj,_⟩=>by omega⟩
 |succ k ih=>
  show bdP (Qk rs k) (bdK rs k) y=true↔_
  unfold bdP
  by_cases ho:(Qk rs k).only=true
  ·rw[if_pos ho,ih]
   constructor
   ·rintro⟨j,hj,h⟩;exact⟨j,by omega,h⟩
   ·rintro⟨j,hj,h⟩
    by_cases c:j=k
    ·subst c;rw[ho] at h;exact absurd h.1 (by simp)
    ·exact⟨j,by omega,h⟩
  ·have ho':(Qk rs k).only=false:=by simpa using ho
   rw[if_neg ho]
   by_cases c:y=(Qk rs k).seq.take (Xs (Qk rs k))
   ·rw[<-c,Yn]
    exact⟨λ_=>⟨k,by omega,ho',c⟩,λ_=>rfl⟩
   ·rw[Vr _ _ c,ih]
    constructor
    ·rintro⟨j,hj,h⟩;exact⟨j,by omega,h⟩
    ·rintro⟨j,hj,h⟩
     by_cases d:j=k
     ·subst d;exact absurd h.2 c
     ·exact⟨j,by omega,h⟩
theorem Qgl {ws:List (List Int)}{x:List Int}(h:0<=stW ws x):∃t:Nat,t<ws.length/\stW ws x=t/\wd ws t=x:=by
 unfold stW at h ⊢
 obtain⟨a,h1,h2,h3,h4⟩:=Kb h
 exact⟨a,by omega,h1,by simpa using h4⟩
theorem Qa3 {ws:List (List Int)}{x:List Int}:∀(f k:Nat),(∃j,k<=j/\j<k+f/\0<=stW ws (x.drop j))->∃j,k<=j/\j<k+f/\Xx ws x k f=stW ws (x.drop j)/\0<=stW ws (x.drop j)/\∀i,k<=i->i<j->¬0<=stW ws (x.drop i):=by
 intro f
 induction f with
 |zero=>rintro k ⟨j,h1,h2,_⟩;omega
 |succ f ih=>
  rintro k ⟨j,h1,h2,h3⟩
  by_cases c:0<=stW ws (x.drop k)
  ·exact⟨k,lR,by omega,by rw[Xx,if_pos c],c,λi h4 h5=>by omega⟩
  ·have hj:j≠k:=λe=>c (e▸h3)
   obtain⟨j',g1,g2,g3,g4,g5⟩:=ih (k+1) ⟨j,by omega,by omega,h3⟩
   refine⟨j',by omega,by omega,by rw[Xx,if_neg c];exact g3,g4,λi h4 h5=>?_⟩
   by_cases d:i=k
   ·rw[d];exact c
   ·exact g5 i (by omega) h5
theorem Q56 {ws:List (List Int)}{mu:List Int->Int}{bd:List Int->Bool}(h:WS ws){s:Nat}(h1:1<=s)(hs:s<ws.length):∃j,1<=j/\j<=(wd ws s).length/\wd ws (failOf (Qn ws mu bd) ws.length s)=(wd ws s).drop j/\∀i,1<=i->i<j->¬inW ws ((wd ws s).drop i):=by
 have hne:=h.ne h1 hs
 have hl:0<(wd ws s).length:=List.length_pos_iff.2 hne
 have hF:=Uh (mu:=mu) (bd:=bd) h h1 hs
 obtain⟨z,hz,ez⟩:=h.nil
 obtain⟨j,g1,g2,g3,g4,g5⟩:=Qa3 (ws:=ws) (x:=wd ws s) ((wd ws s).length+1-1) 1 ⟨(wd ws s).length,by omega,by omega,by rw[List.drop_length,Qb6 h.asc hz ez];omega⟩
 obtain⟨t,t1,t2,t3⟩:=Qgl g4
 have e1:LW ws (wd ws s) 1=t:=by unfold LW;rw[g3,t2]
 rw[hF.1] at e1
 have e2:failOf (Qn ws mu bd) ws.length s=t:=by omega
 refine⟨j,g1,by omega,by rw[e2,t3],λi h3 h4 hin=>?_⟩
 obtain⟨q,hq,eq⟩:=hin
 have:=g5 i h3 h4
 rw[Qb6 h.asc hq eq] at this
 omega
theorem Q2q {ws:List (List Int)}{x y q:List Int}{j:Nat}(hy:y=x.drop j)(hmin:∀i,1<=i->i<j->¬inW ws (x.drop i))(hq:inW ws q):q <:+ x↔q=x\/q <:+ y:=by
 constructor
 ·intro h
  obtain⟨p,hp⟩:=h
  by_cases c:p=[]
  ·left;rw[<-hp,c];rfl
  ·right
   have e:q=x.drop p.length:=by rw[<-hp];simp
   have hl:0<p.length:=List.length_pos_iff.2 c
   have hj:j<=p.length:=by
    rcases Nat.lt_or_ge p.length j with h1|h1
    ·exact absurd (e▸hq) (hmin p.length hl h1)
    ·exact h1
   rw[hy,e,show p.length=j+(p.length-j) by omega,<-List.drop_drop]
   exact List.drop_suffix _ _
 ·rintro(h|h)
  ·rw[h];exact List.suffix_refl _
  ·rw[hy] at h
   exact h.trans (List.drop_suffix _ _)
section
variable {rs:List Ru}{ws:List (List Int)}
theorem P4 (hg:rgB rs=true)(hm:∀y,inW ws y↔PW rs rs.length 1 y){j:Nat}(hj:j<rs.length):inW ws ((Qk rs j).seq.take (Xs (Qk rs j)))/\(Qk rs j).seq.take (Xs (Qk rs j))≠[]:=by
 have hr:=Zo hg hj
 have h1:=El hr.1
 refine⟨(hm _).2 (oR (oL ⟨j,hj,_,h1,lR,rfl⟩)),λe=>?_⟩
 have:=congrArg List.length e
 rw[yC,List.length_nil] at this
 omega
theorem Qa1 (hg:rgB rs=true)(hW:WS ws)(hm:∀y,inW ws y↔PW rs rs.length 1 y){mu:List Int->Int}{bd:List Int->Bool}{s:Nat}(h1:1<=s)(hs:s<ws.length):Qw rs (wd ws s)=jm (muK rs rs.length (wd ws s)) (Qw rs (wd ws (failOf (Qn ws mu bd) ws.length s))):=by
 obtain⟨j,_,_,he,hmin⟩:=Q56 (mu:=mu) (bd:=bd) hW h1 hs
 refine(Wh hg lR _).uniq (((Qcb hg lR (wd ws s)).join (Wh hg lR _)).congr λe=>?_)
 constructor
 ·rintro(⟨i,hi,ho,hy,he'⟩|⟨i,hi,ho,hy,he'⟩)
  ·exact⟨i,hi,ho,by rw[<-hy];exact List.suffix_refl _,he'⟩
  ·exact⟨i,hi,ho,(Q2q he hmin (P4 hg hm hi).1).2 (oR hy),he'⟩
 ·rintro⟨i,hi,ho,hy,he'⟩
  rcases (Q2q he hmin (P4 hg hm hi).1).1 hy with h|h
  ·exact oL ⟨i,hi,ho,h.symm,he'⟩
  ·exact oR ⟨i,hi,ho,h,he'⟩
theorem Qdj (hg:rgB rs=true)(hW:WS ws)(hm:∀y,inW ws y↔PW rs rs.length 1 y){mu:List Int->Int}{bd:List Int->Bool}{s:Nat}(h1:1<=s)(hs:s<ws.length):Js rs (wd ws s)=(bdK rs rs.length (wd ws s)||Js rs (wd ws (failOf (Qn ws mu bd) ws.length s))):=by
 obtain⟨j,_,_,he,hmin⟩:=Q56 (mu:=mu) (bd:=bd) hW h1 hs
 rw[Bool.eq_iff_iff,Bool.or_eq_true,Q2w,Q8z,Q2w]
 constructor
 ·rintro⟨i,hi,ho,hy⟩
  rcases (Q2q he hmin (P4 hg hm hi).1).1 hy with h|h
  ·exact oL ⟨i,hi,ho,h.symm⟩
  ·exact oR ⟨i,hi,ho,h⟩
 ·rintro(⟨i,hi,ho,hy⟩|⟨i,hi,ho,hy⟩)
  ·exact⟨i,hi,ho,by rw[<-hy];exact List.suffix_refl _⟩
  ·exact⟨i,hi,ho,(Q2q he hmin (P4 hg hm hi).1).2 (oR hy)⟩
theorem Qca (hg:rgB rs=true)(hm:∀y,inW ws y↔PW rs rs.length 1 y):Qw rs []=-1/\muK rs rs.length []=-1:=by
 refine⟨(Wh hg lR _).uniq (Vo.none.congr λe=>⟨λh=>h.elim,?_⟩),(Qcb hg lR _).uniq (Vo.none.congr λe=>⟨λh=>h.elim,?_⟩)⟩
 ·rintro⟨i,hi,ho,hy,_⟩
  exact(P4 hg hm hi).2 (List.suffix_nil.1 hy)
 ·rintro⟨i,hi,ho,hy,_⟩
  exact(P4 hg hm hi).2 hy.symm
theorem Qfy (hg:rgB rs=true)(hm:∀y,inW ws y↔PW rs rs.length 1 y):Js rs []=false/\bdK rs rs.length []=false:=by
 constructor
 ·rw[<-Bool.not_eq_true,Q2w]
  rintro⟨i,hi,ho,hy⟩
  exact(P4 hg hm hi).2 (List.suffix_nil.1 hy)
 ·rw[<-Bool.not_eq_true,Q8z]
  rintro⟨i,hi,ho,hy⟩
  exact(P4 hg hm hi).2 hy.symm
end
end Go.Proofs.YtahpodmokbdjeaaGreatDoor
namespace Go.Proofs.YtahpodmokbdjeaaGreatDoor
open Go.RowKit Go.Sort Go.Maps Tryz
set_option linter.unusedVariables false
set_option maxRecDepth 1000000
set_option maxHeartbeats 16000000
theorem FrA.below {n C:Nat}{bl:Nat->Nat}{w0 w w':World}(h:Below C w0 w)(k:FrA n bl w w')(hC:C<=w.heap.size)(hb:∀t,t<n->C<=bl t):Below C w0 w':=
 ⟨k.os.trans h.os,k.tape.trans h.tape,k.output.trans h.output,zP h.size k.size,λb hlt=>(k.block b (by omega) (λt ht e=>by have:=hb t ht;omega)).trans (h.block b hlt)⟩
theorem TR.nr {ws:List (List Int)}{mu:List Int->Int}{bd:List Int->Bool}{w:World}{bl:Nat->Nat}{fl mv:Nat->Value}(hW:WS ws)(h:TR (Qn ws mu bd) ws.length ws.length w bl fl mv (Ub ws.length))(hm:mu []=-1)(hb:bd []=false) :
  NR ws.length w bl (λs=>(s:Int)) (λs=>((Wd (Qn ws mu bd) s).length:Int)) (λs=>Jv (wd ws s)) (λs=>mu (wd ws s)) (λs=>bd (wd ws s)) (λs=>if s=0 then .pointer none else ptr (bl (iat (Qn ws mu bd).pa s).toNat)) fl mv:=by
 refine⟨λs hs=>?_,h.inj⟩
 have hn:=h.nd s hs
 rw[T9 hs,T8 hs,Ta hs,show Ub ws.length s=(s:Int) from if_pos hs] at hn
 by_cases h0:s=0
 ·subst h0
  rw[if_pos rfl,if_pos rfl] at hn
  show Blk w (bl 0) (node _ _ _ (mu (wd ws 0)) (bd (wd ws 0)) _ _ _)
  rw[hW.root,hm,hb]
  rw[hW.root] at hn
  exact hn
 ·rw[if_neg h0,if_neg h0] at hn
  exact hn
theorem MK.fr {n:Nat}{bl:Nat->Nat}{w w':World}{m:Value}{ks:List (Int×Nat)}(h:MK w m ks)(k:FrA n bl w w')(hb:∀t,t<n->∃cs,Blk w (bl t) cs):MK w' m ks:=by
 have hlt:∀mb,Jq m=some mb->mb<w.heap.size:=λmb e=>h.lt e
 have hne:∀mb,Jq m=some mb->∀t,t<n->mb≠bl t:=λmb e t ht=>by obtain⟨cs,hc⟩:=hb t ht;exact h.ne e hc
 rcases h with⟨rfl,rfl⟩|⟨mb,rfl,ho⟩
 ·exact oL ⟨rfl,rfl⟩
 ·obtain⟨es,clock,hb',r⟩:=ho
  exact oR ⟨mb,rfl,es,clock,(k.block mb (hlt mb rfl) (hne mb rfl)).trans hb',r⟩
theorem TR.inh {ws:List (List Int)}{mu mu':List Int->Int}{bd bd':List Int->Bool}{w w':World}{bl:Nat->Nat}{fl mv:Nat->Value}(hW:WS ws)(h:TR (Qn ws mu bd) ws.length ws.length w bl fl mv (Ub ws.length))
  (hn:NR ws.length w' bl (λs=>(s:Int)) (λs=>((Wd (Qn ws mu bd) s).length:Int)) (λs=>Jv (wd ws s)) (λs=>mu' (wd ws s)) (λs=>bd' (wd ws s)) (λs=>if s=0 then .pointer none else ptr (bl (iat (Qn ws mu bd).pa s).toNat)) fl mv) (hf:FrA ws.length bl w w') (hm:mu' []=-1) (hb:bd' []=false) :
  TR (Qn ws mu' bd') ws.length ws.length w' bl fl mv (λs=>(s:Int)):=by
 refine⟨λs hs=>?_,λs hs=>(h.kd s hs).fr hf (λt ht=>⟨_,h.nd t ht⟩),h.fz,λs h1 hs=>?_,h.inj⟩
 ·have:=hn.nd s hs
  rw[Yw hW hs] at this
  rw[Yw hW hs,T9 hs,T8 hs,Ta hs]
  by_cases h0:s=0
  ·subst h0
   rw[hW.root,hm,hb] at this
   rw[if_pos rfl,if_pos rfl,hW.root]
   exact this
  ·rw[if_neg h0,if_neg h0]
   exact this
 ·rw[h.fs s h1 hs]
  have e1:=(Uh (mu:=mu) (bd:=bd) hW h1 hs).1
  have e2:=(Uh (mu:=mu') (bd:=bd') hW h1 hs).1
  rw[e1] at e2
  have e3:failOf (Qn ws mu bd) ws.length s=failOf (Qn ws mu' bd') ws.length s:=by omega
  rw[e3]
def big (rs:List Ru):Prop:=∃ws:List (List Int),2000<ws.length/\Y2 ws/\∀y,inW ws y->PW rs rs.length 1 y
structure SN (rs:List Ru)(w:World)(v:Value)(ws:List (List Int))(C:Nat)(bl:Nat->Nat)(len:Nat->Int)(par fl mv:Nat->Value):Prop where
 le:ws.length<=2000
 ok:WS ws
 mem:∀y,inW ws y↔PW rs rs.length 1 y
 own:Xg C w v ((List.range ws.length).map bl)
 nr:NR ws.length w bl (λs=>(s:Int)) len (λs=>Jv (wd ws s)) (λs=>Qw rs (wd ws s)) (λs=>Js rs (wd ws s)) par fl mv
 pa:∀s,s<ws.length->(par s=.pointer none/\fPa ws (wd ws s)=-1)\/∃t,t<ws.length/\par s=ptr (bl t)/\fPa ws (wd ws s)=(t:Nat)
 fa:∀s,s<ws.length->(fl s=.pointer none/\fFa ws (wd ws s)=-1)\/∃t,t<ws.length/\fl s=ptr (bl t)/\fFa ws (wd ws s)=(t:Nat)
 tr:TR (Qn ws (Qw rs) (Js rs)) ws.length ws.length w bl fl mv (λs=>(s:Int))
def StE (rs:List Ru)(w':World)(r:Ending):Prop:=
 (rgB rs=false/\r=.returned (.tuple #[sN,iV 12]))\/(rgB rs=true/\big rs/\r=.returned (.tuple #[sN,iV 13])) \/
 (rgB rs=true/\∃(va:Option Addr) (vn vc:Nat) (ws:List (List Int)) (C:Nat) (bl:Nat->Nat) (len:Nat->Int) (par fl mv:Nat->Value),r=.returned (.tuple #[sL va vn vc,iV 0])/\SN rs w' (sL va vn vc) ws C bl len par fl mv)
theorem Q1t (B:Nat)(v:Value)(rs:List Ru)(w:World)(h0:X7 B w v rs) :
  Calls prog 33 #[v] w λr w'=>StE rs w' r/\Nx w w':=by
 have HH:Z (X7 B w v rs):=h0
 obtain⟨va,vc,rfl,_,_⟩:=h0
 go_enter func33,ntmps33
 go_wp2_with fail
 refine(E4 B _ rs w HH.o).mono ?_
 rintro e w1 ⟨rfl,hx⟩
 have HX1:Z (Nx w w1):=hx
 clear hx
 cases hg:rgB rs
 case false=>
  have HF:Z (StE rs w1 (.returned (.tuple #[sN,iV 12]))):=oL ⟨hg,rfl⟩
  clear hg
  go_wp2
  refine bodyPost_ret (v:=.tuple #[sN,iV 12]) (by simp[results,results33,go_sem]) rfl ⟨HF.o,HX1.o⟩
 have HG:Z (rgB rs=true):=hg
 clear hg
 go_wp2_with fail
 refine(Q2k B _ rs w1 (HH.o.next HX1.o) HG.o).mono ?_
 rintro r w2 ⟨hr,hx⟩
 have HX2:Z (Nx w w2):=HX1.o.trans hx
 have HX12:Z (Nx w1 w2):=hx
 clear hx
 rcases hr with⟨rfl,hb⟩|⟨ws,bl,mv,rfl,hle,hI⟩
 ·have HF:Z (StE rs w2 (.returned (.tuple #[sN,iV 13]))):=oR (oL ⟨HG.o,hb,rfl⟩)
  clear hb
  go_wp2
  refine bodyPost_ret (v:=.tuple #[sN,iV 13]) (by simp[results,results33,go_sem]) rfl ⟨HF.o,HX2.o⟩
 have HI:Z (GI rs rs.length w1 w2 ws bl mv):=hI
 have HLE:Z (ws.length<=2000):=hle
 have HMN:Z (Qw rs []=-1/\muK rs rs.length []=-1):=Qca HG.o hI.mem
 have HBN:Z (Js rs []=false/\bdK rs rs.length []=false):=Qfy HG.o hI.mem
 have HTR:Z (TR (Qn ws (muK rs rs.length) (bdK rs rs.length)) ws.length 1 w2 (λs=>bl (wd ws s)) (λ_=>.pointer none) (λs=>mv (wd ws s)) (λ_=>0)):=hI.pt.trie hI.ok HMN.o.2 HBN.o.2
 have HLK:=Ep (Qn ws (muK rs rs.length) (bdK rs rs.length)) ws.length w2 (λs=>bl (wd ws s)) (λ_=>.pointer none) (λs=>mv (wd ws s)) (Wn hI.ok) (Q5n hI.ok) hle HTR.o
 have hb0:bl (wd ws 0)=w1.heap.size:=by rw[hI.ok.root];exact hI.root
 rw[hb0] at HLK
 have HLK2:Z (Calls prog 81 #[ptr w1.heap.size] w2 λr w'=>∃v fl',r=.returned v/\Xg (w2.heap.size+1) w' v ((List.range ws.length).map (λs=>bl (wd ws s)))/\TR (Qn ws (muK rs rs.length) (bdK rs rs.length)) ws.length ws.length w' (λs=>bl (wd ws s)) fl' (λs=>mv (wd ws s)) (Ub ws.length)/\FrA ws.length (λs=>bl (wd ws s)) w2 w'):=HLK
 have HLT:Z (∀s,s<ws.length->bl (wd ws s)<w2.heap.size+1):=λs hs=>Nat.lt_succ_of_lt (HTR.o.nd s hs).lt
 have HGE:Z (∀s,s<ws.length->w.heap.size<=bl (wd ws s)):=λs hs=>zP HX1.o.size (hI.pt.ge _ ⟨s,hs,rfl⟩)
 clear HLK hI hle hb0 HTR
 go_wp2_with fail
 refine HLK2.o.mono ?_
 rintro r w3 ⟨sv,fl,rfl,hown,htr,hfr⟩
 have HX3:Z (Nx w w3):=hfr.below HX2.o HX2.o.size HGE.o
 have HTR:Z (TR (Qn ws (muK rs rs.length) (bdK rs rs.length)) ws.length ws.length w3 (λs=>bl (wd ws s)) fl (λs=>mv (wd ws s)) (Ub ws.length)):=htr
 have HNR:=TR.nr HI.o.ok htr HMN.o.2 HBN.o.2
 obtain⟨sa,sc,hsv⟩:=hown.slice
 generalize ((List.range ws.length).map (λs=>bl (wd ws s))).length=sn at hsv
 subst hsv
 obtain⟨m,hm⟩:∃m,ws.length=m+1:=⟨ws.length-1,by have:=HI.o.ok.pos;omega⟩
 have HIN:Z (Calls prog 82 #[sL sa sn sc] w3 λr w'=>r=.returned (.tuple #[])/\NR ws.length w' (λs=>bl (wd ws s)) (λs=>(s:Int)) (λs=>((Wd (Qn ws (muK rs rs.length) (bdK rs rs.length)) s).length:Int)) (λs=>Jv (wd ws s)) (λs=>Qw rs (wd ws s)) (λs=>Js rs (wd ws s)) (λs=>if s=0 then .pointer none else ptr (bl (wd ws (iat (Qn ws (muK rs rs.length) (bdK rs rs.length)).pa s).toNat))) fl (λs=>mv (wd ws s))/\Xg (w2.heap.size+1) w' (sL sa sn sc) ((List.range ws.length).map (λs=>bl (wd ws s)))/\FrA ws.length (λs=>bl (wd ws s)) w3 w'):=by
  have hk:=Q4q m (w2.heap.size+1) (sL sa sn sc) w3 (λs=>bl (wd ws s)) (λs=>(s:Int)) (λs=>((Wd (Qn ws (muK rs rs.length) (bdK rs rs.length)) s).length:Int)) (λs=>Jv (wd ws s)) (λs=>muK rs rs.length (wd ws s)) (λs=>Qw rs (wd ws s)) (λs=>bdK rs rs.length (wd ws s)) (λs=>Js rs (wd ws s)) (λs=>if s=0 then .pointer none else ptr (bl (wd ws (iat (Qn ws (muK rs rs.length) (bdK rs rs.length)).pa s).toNat))) fl (λs=>mv (wd ws s)) (λs=>failOf (Qn ws (muK rs rs.length) (bdK rs rs.length)) ws.length s)
   (by rw[<-hm];exact hown) (λs hs=>HLT.o s (by omega)) (by rw[<-hm];exact HNR) (by have:=HLE.o;omega)
   (λs h1 hs=>⟨HTR.o.fs s h1 (by omega),(Uh HI.o.ok h1 (by omega)).2⟩)
   (by show Qw rs (wd ws 0)=muK rs rs.length (wd ws 0);rw[HI.o.ok.root,HMN.o.1,HMN.o.2]) (by show Js rs (wd ws 0)=bdK rs rs.length (wd ws 0);rw[HI.o.ok.root,HBN.o.1,HBN.o.2])
   (λs h1 hs=>Qa1 HG.o HI.o.ok HI.o.mem h1 (by omega)) (λs h1 hs=>Qdj HG.o HI.o.ok HI.o.mem h1 (by omega))
  rw[<-hm] at hk
  exact hk
 have HPA:Z (∀s,s<ws.length->((if s=0 then Value.pointer none else ptr (bl (wd ws (iat (Qn ws (muK rs rs.length) (bdK rs rs.length)).pa s).toNat)))=.pointer none/\fPa ws (wd ws s)=-1)\/∃t,t<ws.length/\(if s=0 then Value.pointer none else ptr (bl (wd ws (iat (Qn ws (muK rs rs.length) (bdK rs rs.length)).pa s).toNat)))=ptr (bl (wd ws t))/\fPa ws (wd ws s)=(t:Nat)):=by
  intro s hs
  by_cases h0:s=0
  ·subst h0
   exact oL ⟨if_pos rfl,by unfold fPa;rw[HI.o.ok.root,if_pos rfl]⟩
  ·obtain⟨t,ht,et,hst,_⟩:=HI.o.ok.par (by omega) hs
   refine oR ⟨t,by omega,?_,?_⟩
   ·rw[if_neg h0,Ie HI.o.ok (by omega) hs hst,zX]
   ·unfold fPa;rw[if_neg (HI.o.ok.ne (by omega) hs),hst]
 have HFA:Z (∀s,s<ws.length->(fl s=.pointer none/\fFa ws (wd ws s)=-1)\/∃t,t<ws.length/\fl s=ptr (bl (wd ws t))/\fFa ws (wd ws s)=(t:Nat)):=by
  intro s hs
  by_cases h0:s=0
  ·subst h0
   exact oL ⟨HTR.o.fz,by unfold fFa;rw[HI.o.ok.root,if_pos rfl]⟩
  ·have hF:=Uh (mu:=muK rs rs.length) (bd:=bdK rs rs.length) HI.o.ok (show 1<=s by omega) hs
   refine oR ⟨failOf (Qn ws (muK rs rs.length) (bdK rs rs.length)) ws.length s,by omega,HTR.o.fs s (by omega) hs,?_⟩
   unfold fFa;rw[if_neg (HI.o.ok.ne (by omega) hs),hF.1]
 clear hown htr hfr HNR hm HLK2
 go_wp2_with fail
 refine HIN.o.mono ?_
 rintro r w4 ⟨rfl,hnr,hown,hfr⟩
 have HX4:Z (Nx w w4):=hfr.below HX3.o HX3.o.size HGE.o
 have HF:Z (StE rs w4 (.returned (.tuple #[sL sa sn sc,iV 0]))):=oR (oR ⟨HG.o,_,_,_,ws,_,_,_,_,_,_,rfl,HLE.o,HI.o.ok,HI.o.mem,hown,hnr,HPA.o,HFA.o,TR.inh HI.o.ok HTR.o hnr hfr HMN.o.1 HBN.o.1⟩)
 clear hnr hown hfr HIN HPA HFA
 go_wp2
 refine bodyPost_ret (v:=.tuple #[sL sa sn sc,iV 0]) (by simp[results,results33,go_sem]) rfl ⟨HF.o,HX4.o⟩
def As (rs:List Ru)(code:Int)(A:Au):Prop:=
 (rgB rs=false/\code=12/\A=auZ)\/(rgB rs=true/\big rs/\code=13/\A=auZ)\/(rgB rs=true/\∃ws:List (List Int),ws.length<=2000/\Y2 ws/\(∀y,inW ws y↔PW rs rs.length 1 y)/\code=0/\A=Qn ws (Qw rs) (Js rs))
theorem Q78 {rs:List Ru}{c c':Int}{A A':Au}(h:Yy rs c A)(k:As rs c' A'):c=c'/\A=A':=by
 rcases h with⟨h1,h2,h3⟩|⟨h1,ws,hI,hc⟩
 ·rcases k with⟨k1,k2,k3⟩|⟨k1,_⟩|⟨k1,_⟩
  ·exact⟨h2.trans k2.symm,h3.trans k3.symm⟩
  ·rw[h1] at k1;cases k1
  ·rw[h1] at k1;cases k1
 ·rcases k with⟨k1,_⟩|⟨_,⟨us,u1,u2,u3⟩,k2,k3⟩|⟨_,us,u1,u2,u3,k2,k3⟩
  ·rw[h1] at k1;cases k1
  ·rcases hc with⟨_,h2,h3⟩|⟨hl,_,_⟩
   ·exact⟨h2.trans k2.symm,h3.trans k3.symm⟩
   ·have:=Ff u2 hI.asc (λy hy=>hI.all hl y (u3 y hy))
    omega
  ·rcases hc with⟨hl,_,_⟩|⟨hl,h2,h3⟩
   ·have:=Ff hI.asc u2 (λy hy=>(u3 y).2 (hI.yes y hy))
    omega
   ·have e:ws=us:=Q6b hI.asc u2 λy=>⟨λhy=>(u3 y).2 (hI.yes y hy),λhy=>hI.all hl y ((u3 y).1 hy)⟩
    subst e
    exact⟨h2.trans k2.symm,h3.trans k3.symm⟩
end Go.Proofs.YtahpodmokbdjeaaGreatDoor
