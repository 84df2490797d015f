import Derived.Test.YtdpfdkihbgmapaaGreatXDA
import Derived.Test.YtdpfdkihbgmapaaGreatXBK
namespace Go.Proofs.YtdpfdkihbgmapaaGreat
open Go.RowKit Go.Maps
set_option linter.unusedVariables false
set_option maxRecDepth 1000000
set_option maxHeartbeats 16000000
theorem place_ex {ws:List (List Int)}(ha:AscW ws)(y:List Int):∃i,i<=ws.length/\PlaceW ws y i i:=by
 have key:∀n,n<=ws.length->∃i,i<=n/\(∀j,j<i->befB (wd ws j) y=true)/\(i<n->befB (wd ws i) y=false):=by
  intro n
  induction n with
  |zero=>exact λ_=>⟨0,Nat.le_refl _,λj hj=>by omega,λh=>by omega⟩
  |succ n ih=>
   intro hn
   obtain⟨i,h1,h2,h3⟩:=ih (by omega)
   by_cases c:i<n
   ·exact⟨i,by omega,h2,λ_=>h3 c⟩
   ·have e:i=n:=by omega
    subst e
    cases hb:befB (wd ws i) y with
    |true=>exact⟨i+1,Nat.le_refl _,λj hj=>by
      by_cases e:j=i
      ·subst e;exact hb
      ·exact h2 j (by omega),λh=>by omega⟩
    |false=>exact⟨i,by omega,h2,λ_=>hb⟩
 obtain⟨i,h1,h2,h3⟩:=key ws.length (Nat.le_refl _)
 refine⟨i,h1,h2,λj hj hl=>?_⟩
 by_cases e:j=i
 ·subst e;exact h3 hl
 ·cases hb:befB (wd ws j) y with
  |false=>rfl
  |true=>
   have:=bef_trans (ha i j (by omega) hl) hb
   rw[h3 (by omega)] at this
   cases this
theorem kidW_yes {ws:List (List Int)}{bl:List Int->Nat}{x:List Int}{e:Int}{c:Nat}(h:kidOf (kidsW ws bl x) e=some c):inW ws (x++[e])/\c=bl (x++[e]):=by
 unfold kidOf at h
 rw[Option.map_eq_some_iff] at h
 obtain⟨p,hp,rfl⟩:=h
 have h1:=List.find?_some hp
 have h2:=List.mem_of_find?_eq_some hp
 unfold kidsW at h2
 obtain⟨y,hy,rfl⟩:=List.mem_map.1 h2
 rw[List.mem_filter] at hy
 simp[isKid] at h1 hy
 have e1:y=x++[e]:=by rw[snoc_of hy.2.1,hy.2.2,h1]
 subst e1
 exact⟨mem_in.1 hy.1,rfl⟩
theorem kidW_no {ws:List (List Int)}{bl:List Int->Nat}{x:List Int}{e:Int}(h:kidOf (kidsW ws bl x) e=none):¬inW ws (x++[e]):=by
 intro hi
 unfold kidOf at h
 rw[Option.map_eq_none_iff,List.find?_eq_none] at h
 have:=h (e,bl (x++[e])) (by
  unfold kidsW
  refine List.mem_map.2 ⟨x++[e],?_,by rw[lastE_snoc]⟩
  rw[List.mem_filter,isKid_snoc]
  exact⟨mem_in.2 hi,by simp⟩)
 simp at this
def muP (x:Ru)(mu:List Int->Int):List Int->Int:=if x.only=true then upW mu (x.seq.take (most x)) (jm (mu (x.seq.take (most x))) (iat x.seq (x.seq.length-1))) else mu
def bdP (x:Ru)(bd:List Int->Bool):List Int->Bool:=if x.only=true then bd else upW bd (x.seq.take (most x)) true
structure PQ (x:Ru)(q:Nat)(ws:List (List Int))(mu:List Int->Int)(bd:List Int->Bool)(bl:List Int->Nat)(w0 w:World)(ws':List (List Int))(bl':List Int->Nat)(mv':List Int->Value)(d gb:Nat)(cs:Array Value):Prop where
 pt:PT ws' mu bd w0.heap.size w bl' mv'
 ok:WS ws'
 mem:∀y,inW ws' y↔inW ws y\/∃t,1<=t/\t<=q/\y=x.seq.take t
 len:ws'.length=ws.length+d
 dq:d<=q
 root:bl' []=bl []
 nx:Nx w0 w
 box:Blk w gb cs
theorem PQ.at {x:Ru}{q:Nat}{ws:List (List Int)}{mu:List Int->Int}{bd:List Int->Bool}{bl:List Int->Nat}{w0 w:World}{ws':List (List Int)}{bl':List Int->Nat}{mv':List Int->Value}{d gb:Nat}{cs:Array Value}(h:PQ x q ws mu bd bl w0 w ws' bl' mv' d gb cs):inW ws' (x.seq.take q):=by
 by_cases c:q=0
 ·subst c;exact h.ok.nil
 ·exact(h.mem _).2 (Or.inr ⟨q,by omega,Nat.le_refl _,rfl⟩)
theorem take_up {s:List Int}{q:Nat}(h:q<s.length):s.take q++[iat s q]=s.take (q+1):=by
 rw[List.take_succ_eq_append_getElem h,iat_eq h]
theorem PQ.old {x:Ru}{q:Nat}{ws:List (List Int)}{mu:List Int->Int}{bd:List Int->Bool}{bl:List Int->Nat}{w0 w:World}{ws':List (List Int)}{bl':List Int->Nat}{mv':List Int->Value}{d gb:Nat}{cs:Array Value}(h:PQ x q ws mu bd bl w0 w ws' bl' mv' d gb cs)(hi:inW ws' (x.seq.take (q+1))):PQ x (q+1) ws mu bd bl w0 w ws' bl' mv' d gb cs:=by
 refine⟨h.pt,h.ok,λy=>?_,h.len,by have:=h.dq;omega,h.root,h.nx,h.box⟩
 constructor
 ·intro hy
  rcases (h.mem y).1 hy with h1|⟨t,h1,h2,h3⟩
  ·exact Or.inl h1
  ·exact Or.inr ⟨t,h1,by omega,h3⟩
 ·rintro(h1|⟨t,h1,h2,h3⟩)
  ·exact(h.mem y).2 (Or.inl h1)
  ·by_cases e:t=q+1
   ·subst e;rw[h3];exact hi
   ·exact(h.mem y).2 (Or.inr ⟨t,h1,by omega,h3⟩)
theorem blk_ne {w:World}{b b':Nat}{cs cs':Array Value}(h:Blk w b cs)(h':Blk w b' cs')(hs:cs.size≠cs'.size):b≠b':=by
 intro e
 subst e
 obtain⟨t,h1⟩:=h
 obtain⟨t',h2⟩:=h'
 rw[h1] at h2
 simp at h2
 exact hs (by rw[h2.1])
theorem PQ.grown {x:Ru}{q:Nat}{ws:List (List Int)}{mu:List Int->Int}{bd:List Int->Bool}{bl:List Int->Nat}{w0 w w':World}{ws':List (List Int)}{bl':List Int->Nat}{mv':List Int->Value}{d gb i:Nat}{cs:Array Value}(h:PQ x q ws mu bd bl w0 w ws' bl' mv' d gb cs)(hq:q<x.seq.length)(he:0<=iat x.seq q/\iat x.seq q<4000)(hn:¬inW ws' (x.seq.take (q+1)))(hi:i<=ws'.length)(hp:PlaceW ws' (x.seq.take q++[iat x.seq q]) i i)(hmu:∀y,¬inW ws y->mu y=-1)(hbd:∀y,¬inW ws y->bd y=false)(hcs:cs.size≠8){m':Value}
  (b1:Blk w' w.heap.size (node 0 ((x.seq.take q).length+1) (iat x.seq q) (-1) false (ptr (bl' (x.seq.take q))) (.pointer none) (.map none)))
  (b2:Blk w' (bl' (x.seq.take q)) (node 0 (x.seq.take q).length (lastE (x.seq.take q)) (mu (x.seq.take q)) (bd (x.seq.take q)) (if x.seq.take q=[] then .pointer none else ptr (bl' (x.seq.take q).dropLast)) (.pointer none) m'))
  (b3:MK w' m' (kidsW (ws'.take i) bl' (x.seq.take q)++(iat x.seq q,w.heap.size)::kidsW (ws'.drop i) bl' (x.seq.take q))) (b4:mapBlk m'=mapBlk (mv' (x.seq.take q))\/mapBlk m'=some (w.heap.size+1)) (b5:But (some (bl' (x.seq.take q))) (mapBlk (mv' (x.seq.take q))) w w') :
  ∃ws2 bl2 mv2,PQ x (q+1) ws mu bd bl w0 w' ws2 bl2 mv2 (d+1) gb cs/\bl2 (x.seq.take (q+1))=w.heap.size:=by
 have hup:=take_up hq
 have hn':¬inW ws' (x.seq.take q++[iat x.seq q]):=by rw[hup];exact hn
 have hnw:¬inW ws (x.seq.take q++[iat x.seq q]):=λh1=>hn' ((h.mem _).2 (Or.inl h1))
 have hI:InsW ws' (x.seq.take q++[iat x.seq q]) (insAt ws' i (x.seq.take q++[iat x.seq q])):=Or.inr ⟨hn',i,hi,hp,rfl⟩
 have hG:=h.pt.grow h.at hn' h.ok.down hi hp (hmu _ hnw) (hbd _ hnw) h.nx.size b1 b2 b3 b4 b5
 have hin:∀y,inW (insAt ws' i (x.seq.take q++[iat x.seq q])) y↔y=x.seq.take (q+1)\/inW ws' y:=λy=>by rw[hI.mem y,hup]
 refine⟨_,_,_,⟨hG,⟨hI.asc h.ok.asc,(hin _).2 (Or.inr h.ok.nil),λy e hy=>?_,λy e hy=>?_⟩,λy=>?_,?_,by have:=h.dq;omega,?_,?_,?_⟩,?_⟩
 ·rcases (hin _).1 hy with h1|h1
  ·rw[<-hup] at h1
   have:=List.append_inj_left' h1 rfl
   rw[this]
   exact(hin _).2 (Or.inr h.at)
  ·exact(hin _).2 (Or.inr (h.ok.down _ _ h1))
 ·rcases (hin _).1 hy with h1|h1
  ·rw[<-hup] at h1
   have:=List.append_inj_right' h1 rfl
   simp at this
   rw[this]
   exact he
  ·exact h.ok.edge _ _ h1
 ·rw[hin]
  constructor
  ·rintro(h1|h1)
   ·exact Or.inr ⟨q+1,by omega,Nat.le_refl _,h1⟩
   ·rcases (h.mem y).1 h1 with h2|⟨t,h2,h3,h4⟩
    ·exact Or.inl h2
    ·exact Or.inr ⟨t,h2,by omega,h4⟩
  ·rintro(h1|⟨t,h1,h2,h3⟩)
   ·exact Or.inr ((h.mem y).2 (Or.inl h1))
   ·by_cases e:t=q+1
    ·subst e;exact Or.inl h3
    ·exact Or.inr ((h.mem y).2 (Or.inr ⟨t,h1,by omega,h3⟩))
 ·rw[insAt_len _ hi,h.len];omega
 ·rw[upW_ne _ _ (by simp)];exact h.root
 ·exact b5.below h.nx h.nx.size (λg e=>by cases e;exact h.pt.ge _ h.at) (λg e=>h.pt.mge _ g h.at e)
 ·refine h.box.keep b5 (λe=>?_) (λe=>?_)
  ·exact blk_ne h.box (h.pt.nd _ h.at) (by simpa [node] using hcs) (Option.some.inj e)
  ·exact(h.pt.kd _ h.at).ne e.symm h.box rfl
 ·rw[<-hup,upW_at]
def PlE (x:Ru)(ws:List (List Int))(mu:List Int->Int)(bd:List Int->Bool)(bl:List Int->Nat)(w0 w':World)(r:Ending):Prop:=
 ∃ws' bl' mv' d,r=.returned (.int .i64 ((d:Nat):Int))/\PT ws' (muP x mu) (bdP x bd) w0.heap.size w' bl' mv'/\WS ws'/\(∀y,inW ws' y↔inW ws y\/∃t,1<=t/\t<=most x/\y=x.seq.take t)/\ws'.length=ws.length+d/\d<=402/\bl' []=bl []/\Nx w0 w'
theorem plant_no (B:Nat)(x:Ru)(sa:Option Addr)(p sc:Nat)(ws:List (List Int))(mu:List Int->Int)(bd:List Int->Bool)(bl:List Int->Nat)(mv:List Int->Value)(w0 w:World)(P:PT ws mu bd w0.heap.size w bl mv)(W:WS ws)(hN:Nx w0 w)(hl:x.seq.length=p+1)(hS:HInts B w0 (.slice sa (p+1) sc) x.seq)(hp0:1<=p)(hp4:p+1<=402)(hcap:p+1<=sc)(he:∀j,j<x.seq.length->0<=iat x.seq j/\iat x.seq j<4000)(hws:ws.length<=2000)(hmu:∀y,¬inW ws y->mu y=-1)(hbd:∀y,¬inW ws y->bd y=false)(ho:x.only=false) :
  Calls Tryz.prog 50 #[ptr (bl []),.agg #[.int .i64 x.rel,.bool false,.slice sa (p+1) sc]] w λr w'=>PlE x ws mu bd bl w0 w' r:=by
 have HO:Hid (x.only=false):=ho
 have HM:Hid (most x=(p+1)):=by unfold Hid most;rw[ho,hl];rfl
 have HE:Hid (∀j,j<x.seq.length->0<=iat x.seq j/\iat x.seq j<4000):=he
 have HMU:Hid (∀y,¬inW ws y->mu y=-1):=hmu
 have HBD:Hid (∀y,¬inW ws y->bd y=false):=hbd
 have HL:Hid (x.seq.length=p+1):=hl
 have HWS:Hid (ws.length<=2000):=hws
 have HB0:Hid (Blk (w.alloc (.cells #[.int .i64 x.rel,.bool false,.slice sa (p+1) sc] 36)) w.heap.size #[.int .i64 x.rel,.bool false,.slice sa (p+1) sc]):=Blk.new w _ _ _ rfl
 have HQ0:Hid (PQ x 0 ws mu bd bl w0 (w.alloc (.cells #[.int .i64 x.rel,.bool false,.slice sa (p+1) sc] 36)) ws bl mv 0 w.heap.size #[.int .i64 x.rel,.bool false,.slice sa (p+1) sc]):=
  ⟨P.next (box1 _ _),W,λy=>⟨Or.inl,λh=>h.elim id λ⟨t,h1,h2,_⟩=>by omega⟩,rfl,Nat.le_refl _,rfl,hN.alloc _,HB0.out⟩
 obtain⟨sa',sc',e',hsn,hsk⟩:=hS
 simp only[Value.slice.injEq] at e'
 obtain⟨rfl,hqq,rfl⟩:=e'
 rw[HL.out] at hsk
 obtain⟨bq,oq,rfl,_,hbq,hcq⟩:=hsk (by omega)
 have HCQ:Hid (∀i,i<p+1->w0.cell? ⟨bq,oq+i,none⟩=some (.int .i64 (iat x.seq i))):=hcq
 have wp1:IntKind.i64.wrap ((p:Int)+1-1)=(p:Int):=by rw[IntKind.wrap_i64];omega
 have wp2:((p:Int)+1-1)=(p:Int):=by omega
 have wp3:=wrapJ p (by omega)
 have hpc:(p:Int)<=sc:=by omega
 have k1:(w.alloc (.cells #[.int .i64 x.rel,.bool false,.slice (some ⟨bq,oq,none⟩) (p+1) sc] 36)).cell? ⟨w.heap.size,1,none⟩=some (.bool false):=HB0.out.cell (i:=1) rfl
 have k2:(w.alloc (.cells #[.int .i64 x.rel,.bool false,.slice (some ⟨bq,oq,none⟩) (p+1) sc] 36)).cell? ⟨w.heap.size,2,none⟩=some (.slice (some ⟨bq,oq,none⟩) (p+1) sc):=HB0.out.cell (i:=2) rfl
 clear hqq hcq hsk hsn hmu hbd he hl ho P W hN hws
 unfold ptr
 go_enter Tryz.func50,Tryz.ntmps50
 go_wp2
 clear k1 k2
 go_loopw [7,8,10,11,25] (λe7 e8 _ _ i wr=>∃(q d:Nat) (ws':List (List Int)) (bl':List Int->Nat) (mv':List Int->Value),q<=(p+1)/\i=.int .i64 q/\e7=.pointer (some ⟨bl' (x.seq.take q),0,none⟩)/\e8=.int .i64 d/\Hid (PQ x q ws mu bd bl w0 wr ws' bl' mv' d w.heap.size #[.int .i64 x.rel,.bool false,.slice (some ⟨bq,oq,none⟩) (p+1) sc])) (λ_ _ _ _ i _=>(p+1)-(intOf i).toNat)
 case atStart=>exact⟨0,0,ws,bl,mv,by omega,rfl,rfl,rfl,HQ0⟩
 clear HQ0 HB0
 obtain⟨q,d,ws',bl',mv',hqp,rfl,rfl,rfl,HQ⟩:=hrel
 have HAT:Hid (inW ws' (x.seq.take q)):=HQ.out.at
 have hdq:=HQ.out.dq
 by_cases hlt:q<(p+1)
 ·have hlt':(q:Int)<((p:Int)+1):=by omega
  have hlt2:(q:Int)<(p:Int)+1:=by omega
  have HQL:Hid (q<x.seq.length):=by unfold Hid;rw[HL.out];omega
  have x0:=cell_next HQ.out.nx hbq (HCQ.out q (by omega))
  have ND:=HQ.out.pt.nd _ HAT.out
  have k7:wr.cell? ⟨bl' (x.seq.take q),7,none⟩=some (mv' (x.seq.take q)):=ND.cell (i:=7) rfl
  have HND:Hid (Blk wr (bl' (x.seq.take q)) (node 0 (x.seq.take q).length (lastE (x.seq.take q)) (mu (x.seq.take q)) (bd (x.seq.take q)) (if x.seq.take q=[] then .pointer none else ptr (bl' (x.seq.take q).dropLast)) (.pointer none) (mv' (x.seq.take q)))):=ND
  have hw:(Lit.int .i64 (iat x.seq q)).wf=true:=wf_small (HE.out q HQL.out).1 (HE.out q HQL.out).2
  have hlk:=(HQ.out.pt.kd _ HAT.out).look hw
  have HWF:Hid ((Lit.int .i64 (iat x.seq q)).wf=true):=hw
  clear ND hw
  cases hk:kidOf (kidsW ws' bl' (x.seq.take q)) (iat x.seq q) with
  |some c=>
   have hy:=kidW_yes hk
   rw[take_up HQL.out] at hy
   have HQ2:Hid (PQ x (q+1) ws mu bd bl w0 wr ws' bl' mv' d w.heap.size #[.int .i64 x.rel,.bool false,.slice (some ⟨bq,oq,none⟩) (p+1) sc]):=HQ.out.old hy.1
   have HC:Hid (c=bl' (x.seq.take (q+1))):=hy.2
   rw[hk] at hlk
   simp only[ptrO,ptr] at hlk
   clear hk hy HND HWF
   go_wp2
   go_roundw
   case rel=>exact⟨q+1,d,ws',bl',mv',by omega,by go_num,by rw[HC.out],rfl,HQ2⟩
   case measure=>simp[intOf];omega
  |none=>
   have hy:=kidW_no hk
   obtain⟨i,hi,hp⟩:=place_ex HQ.out.ok.asc (x.seq.take q++[iat x.seq q])
   have hsp:=kids_split (bl:=bl') hi hp hy
   have HMK:Hid (MK wr (mv' (x.seq.take q)) (kidsW (ws'.take i) bl' (x.seq.take q)++kidsW (ws'.drop i) bl' (x.seq.take q))):=by unfold Hid;rw[<-hsp.1];exact HQ.out.pt.kd _ HAT.out
   have HSP:Hid ((∀p∈kidsW (ws'.take i) bl' (x.seq.take q),p.1<iat x.seq q)/\∀p∈kidsW (ws'.drop i) bl' (x.seq.take q),iat x.seq q<p.1):=hsp.2
   have HKL:Hid ((kidsW (ws'.take i) bl' (x.seq.take q)++kidsW (ws'.drop i) bl' (x.seq.take q)).length<=4000):=by
    unfold Hid
    rw[<-hsp.1]
    have:=kidsW_len ws' bl' (x.seq.take q)
    have:=HQ.out.len
    have:=HWS.out
    omega
   have HI:Hid (i<=ws'.length):=hi
   have HP:Hid (PlaceW ws' (x.seq.take q++[iat x.seq q]) i i):=hp
   have HY:Hid (¬inW ws' (x.seq.take (q+1))):=by unfold Hid;rw[<-take_up HQL.out];exact hy
   have HTL:Hid ((x.seq.take q).length<=402):=by unfold Hid;rw[List.length_take];omega
   rw[hk] at hlk
   simp only[ptrO] at hlk
   clear hk hy hi hp hsp
   go_wp2_with fail
   refine(growAt_any _ _ _ _ _ _ _ _ _ _ _ (iat x.seq q) wr HND.out HMK.out HSP.out HKL.out (by omega) (by have:=HTL.out;omega) HWF.out).mono ?_
   rintro r w5 ⟨m',rfl,b1,b2,b3,b4,b5⟩
   obtain⟨ws2,bl2,mv2,hpq,hbl⟩:=HQ.out.grown HQL.out (HE.out q HQL.out) HY.out HI.out HP.out HMU.out HBD.out (by simp) b1 b2 b3 b4 b5
   have HPQ:Hid (PQ x (q+1) ws mu bd bl w0 w5 ws2 bl2 mv2 (d+1) w.heap.size #[.int .i64 x.rel,.bool false,.slice (some ⟨bq,oq,none⟩) (p+1) sc]):=hpq
   have HBL:Hid (bl2 (x.seq.take (q+1))=wr.heap.size):=hbl
   clear b1 b2 b3 b4 b5 hpq hbl hlk k7 x0
   unfold ptr
   go_wp2
   go_roundw
   case rel=>exact⟨q+1,d+1,ws2,bl2,mv2,by omega,by go_num,by rw[HBL.out],by go_num,HPQ⟩
   case measure=>simp[intOf];omega
 ·have eq:q=(p+1):=by omega
  have hnl:¬(q:Int)<((p:Int)+1):=by omega
  have HQM:Hid (q=most x):=by unfold Hid;rw[HM.out];exact eq
  have HMEM:Hid (∀y,inW ws' y↔inW ws y\/∃t,1<=t/\t<=most x/\y=x.seq.take t):=λy=>by rw[<-HQM.out];exact HQ.out.mem y
  have z1:wr.cell? ⟨w.heap.size,1,none⟩=some (.bool false):=HQ.out.box.cell (i:=1) rfl
  have ND:=HQ.out.pt.nd _ HAT.out
  have k4:wr.cell? ⟨bl' (x.seq.take q),4,none⟩=some (.bool (bd (x.seq.take q))):=ND.cell (i:=4) rfl
  have f4:=ND.frozen 4
  have HFIN:Hid (PT ws' (muP x mu) (bdP x bd) w0.heap.size (wr.setCell ⟨bl' (x.seq.take q),4,none⟩ (.bool true)) bl' mv'):=by
   have h1:=HQ.out.pt.ban HAT.out true
   unfold Hid
   rw[show muP x mu=mu by unfold muP;rw[HO.out];rfl,show bdP x bd=upW bd (x.seq.take q) true by unfold bdP;rw[HO.out,<-HQM.out];rfl]
   exact h1
  have HNX:Hid (Nx w0 (wr.setCell ⟨bl' (x.seq.take q),4,none⟩ (.bool true))):=Below.setCell HQ.out.nx (HQ.out.pt.ge _ HAT.out) _
  have HD4:Hid (d<=402):=by unfold Hid;omega
  clear ND eq hlt
  generalize bl' (x.seq.take q)=bx at *
  go_wp2
  go_ret
  exact⟨ws',bl',mv',d,rfl,HFIN.out,HQ.out.ok,HMEM.out,HQ.out.len,HD4.out,HQ.out.root,HNX.out⟩
theorem plant_only (B:Nat)(x:Ru)(sa:Option Addr)(p sc:Nat)(ws:List (List Int))(mu:List Int->Int)(bd:List Int->Bool)(bl:List Int->Nat)(mv:List Int->Value)(w0 w:World)(P:PT ws mu bd w0.heap.size w bl mv)(W:WS ws)(hN:Nx w0 w)(hl:x.seq.length=p+1)(hS:HInts B w0 (.slice sa (p+1) sc) x.seq)(hp0:1<=p)(hp4:p+1<=402)(hcap:p+1<=sc)(he:∀j,j<x.seq.length->0<=iat x.seq j/\iat x.seq j<4000)(hws:ws.length<=2000)(hmu:∀y,¬inW ws y->mu y=-1)(hbd:∀y,¬inW ws y->bd y=false)(ho:x.only=true) :
  Calls Tryz.prog 50 #[ptr (bl []),.agg #[.int .i64 x.rel,.bool true,.slice sa (p+1) sc]] w λr w'=>PlE x ws mu bd bl w0 w' r:=by
 have HO:Hid (x.only=true):=ho
 have HM:Hid (most x=p):=by unfold Hid most;rw[ho,hl];rfl
 have HE:Hid (∀j,j<x.seq.length->0<=iat x.seq j/\iat x.seq j<4000):=he
 have HMU:Hid (∀y,¬inW ws y->mu y=-1):=hmu
 have HBD:Hid (∀y,¬inW ws y->bd y=false):=hbd
 have HL:Hid (x.seq.length=p+1):=hl
 have HWS:Hid (ws.length<=2000):=hws
 have HB0:Hid (Blk (w.alloc (.cells #[.int .i64 x.rel,.bool true,.slice sa (p+1) sc] 36)) w.heap.size #[.int .i64 x.rel,.bool true,.slice sa (p+1) sc]):=Blk.new w _ _ _ rfl
 have HQ0:Hid (PQ x 0 ws mu bd bl w0 (w.alloc (.cells #[.int .i64 x.rel,.bool true,.slice sa (p+1) sc] 36)) ws bl mv 0 w.heap.size #[.int .i64 x.rel,.bool true,.slice sa (p+1) sc]):=
  ⟨P.next (box1 _ _),W,λy=>⟨Or.inl,λh=>h.elim id λ⟨t,h1,h2,_⟩=>by omega⟩,rfl,Nat.le_refl _,rfl,hN.alloc _,HB0.out⟩
 obtain⟨sa',sc',e',hsn,hsk⟩:=hS
 simp only[Value.slice.injEq] at e'
 obtain⟨rfl,hqq,rfl⟩:=e'
 rw[HL.out] at hsk
 obtain⟨bq,oq,rfl,_,hbq,hcq⟩:=hsk (by omega)
 have HCQ:Hid (∀i,i<p+1->w0.cell? ⟨bq,oq+i,none⟩=some (.int .i64 (iat x.seq i))):=hcq
 have wp1:IntKind.i64.wrap ((p:Int)+1-1)=(p:Int):=by rw[IntKind.wrap_i64];omega
 have wp2:((p:Int)+1-1)=(p:Int):=by omega
 have wp3:=wrapJ p (by omega)
 have hpc:(p:Int)<=sc:=by omega
 have k1:(w.alloc (.cells #[.int .i64 x.rel,.bool true,.slice (some ⟨bq,oq,none⟩) (p+1) sc] 36)).cell? ⟨w.heap.size,1,none⟩=some (.bool true):=HB0.out.cell (i:=1) rfl
 have k2:(w.alloc (.cells #[.int .i64 x.rel,.bool true,.slice (some ⟨bq,oq,none⟩) (p+1) sc] 36)).cell? ⟨w.heap.size,2,none⟩=some (.slice (some ⟨bq,oq,none⟩) (p+1) sc):=HB0.out.cell (i:=2) rfl
 clear hqq hcq hsk hsn hmu hbd he hl ho P W hN hws
 unfold ptr
 go_enter Tryz.func50,Tryz.ntmps50
 go_wp2
 clear k1 k2
 go_loopw [7,8,10,11,25] (λe7 e8 _ _ i wr=>∃(q d:Nat) (ws':List (List Int)) (bl':List Int->Nat) (mv':List Int->Value),q<=p/\i=.int .i64 q/\e7=.pointer (some ⟨bl' (x.seq.take q),0,none⟩)/\e8=.int .i64 d/\Hid (PQ x q ws mu bd bl w0 wr ws' bl' mv' d w.heap.size #[.int .i64 x.rel,.bool true,.slice (some ⟨bq,oq,none⟩) (p+1) sc])) (λ_ _ _ _ i _=>p-(intOf i).toNat)
 case atStart=>exact⟨0,0,ws,bl,mv,by omega,rfl,rfl,rfl,HQ0⟩
 clear HQ0 HB0
 obtain⟨q,d,ws',bl',mv',hqp,rfl,rfl,rfl,HQ⟩:=hrel
 have HAT:Hid (inW ws' (x.seq.take q)):=HQ.out.at
 have hdq:=HQ.out.dq
 by_cases hlt:q<p
 ·have hlt':(q:Int)<(p:Int):=by omega
  have hlt2:(q:Int)<(p:Int)+1:=by omega
  have HQL:Hid (q<x.seq.length):=by unfold Hid;rw[HL.out];omega
  have x0:=cell_next HQ.out.nx hbq (HCQ.out q (by omega))
  have ND:=HQ.out.pt.nd _ HAT.out
  have k7:wr.cell? ⟨bl' (x.seq.take q),7,none⟩=some (mv' (x.seq.take q)):=ND.cell (i:=7) rfl
  have HND:Hid (Blk wr (bl' (x.seq.take q)) (node 0 (x.seq.take q).length (lastE (x.seq.take q)) (mu (x.seq.take q)) (bd (x.seq.take q)) (if x.seq.take q=[] then .pointer none else ptr (bl' (x.seq.take q).dropLast)) (.pointer none) (mv' (x.seq.take q)))):=ND
  have hw:(Lit.int .i64 (iat x.seq q)).wf=true:=wf_small (HE.out q HQL.out).1 (HE.out q HQL.out).2
  have hlk:=(HQ.out.pt.kd _ HAT.out).look hw
  have HWF:Hid ((Lit.int .i64 (iat x.seq q)).wf=true):=hw
  clear ND hw
  cases hk:kidOf (kidsW ws' bl' (x.seq.take q)) (iat x.seq q) with
  |some c=>
   have hy:=kidW_yes hk
   rw[take_up HQL.out] at hy
   have HQ2:Hid (PQ x (q+1) ws mu bd bl w0 wr ws' bl' mv' d w.heap.size #[.int .i64 x.rel,.bool true,.slice (some ⟨bq,oq,none⟩) (p+1) sc]):=HQ.out.old hy.1
   have HC:Hid (c=bl' (x.seq.take (q+1))):=hy.2
   rw[hk] at hlk
   simp only[ptrO,ptr] at hlk
   clear hk hy HND HWF
   go_wp2
   go_roundw
   case rel=>exact⟨q+1,d,ws',bl',mv',by omega,by go_num,by rw[HC.out],rfl,HQ2⟩
   case measure=>simp[intOf];omega
  |none=>
   have hy:=kidW_no hk
   obtain⟨i,hi,hp⟩:=place_ex HQ.out.ok.asc (x.seq.take q++[iat x.seq q])
   have hsp:=kids_split (bl:=bl') hi hp hy
   have HMK:Hid (MK wr (mv' (x.seq.take q)) (kidsW (ws'.take i) bl' (x.seq.take q)++kidsW (ws'.drop i) bl' (x.seq.take q))):=by unfold Hid;rw[<-hsp.1];exact HQ.out.pt.kd _ HAT.out
   have HSP:Hid ((∀p∈kidsW (ws'.take i) bl' (x.seq.take q),p.1<iat x.seq q)/\∀p∈kidsW (ws'.drop i) bl' (x.seq.take q),iat x.seq q<p.1):=hsp.2
   have HKL:Hid ((kidsW (ws'.take i) bl' (x.seq.take q)++kidsW (ws'.drop i) bl' (x.seq.take q)).length<=4000):=by
    unfold Hid
    rw[<-hsp.1]
    have:=kidsW_len ws' bl' (x.seq.take q)
    have:=HQ.out.len
    have:=HWS.out
    omega
   have HI:Hid (i<=ws'.length):=hi
   have HP:Hid (PlaceW ws' (x.seq.take q++[iat x.seq q]) i i):=hp
   have HY:Hid (¬inW ws' (x.seq.take (q+1))):=by unfold Hid;rw[<-take_up HQL.out];exact hy
   have HTL:Hid ((x.seq.take q).length<=402):=by unfold Hid;rw[List.length_take];omega
   rw[hk] at hlk
   simp only[ptrO] at hlk
   clear hk hy hi hp hsp
   go_wp2_with fail
   refine(growAt_any _ _ _ _ _ _ _ _ _ _ _ (iat x.seq q) wr HND.out HMK.out HSP.out HKL.out (by omega) (by have:=HTL.out;omega) HWF.out).mono ?_
   rintro r w5 ⟨m',rfl,b1,b2,b3,b4,b5⟩
   obtain⟨ws2,bl2,mv2,hpq,hbl⟩:=HQ.out.grown HQL.out (HE.out q HQL.out) HY.out HI.out HP.out HMU.out HBD.out (by simp) b1 b2 b3 b4 b5
   have HPQ:Hid (PQ x (q+1) ws mu bd bl w0 w5 ws2 bl2 mv2 (d+1) w.heap.size #[.int .i64 x.rel,.bool true,.slice (some ⟨bq,oq,none⟩) (p+1) sc]):=hpq
   have HBL:Hid (bl2 (x.seq.take (q+1))=wr.heap.size):=hbl
   clear b1 b2 b3 b4 b5 hpq hbl hlk k7 x0
   unfold ptr
   go_wp2
   go_roundw
   case rel=>exact⟨q+1,d+1,ws2,bl2,mv2,by omega,by go_num,by rw[HBL.out],by go_num,HPQ⟩
   case measure=>simp[intOf];omega
 ·have eq:q=p:=by omega
  have hnl:¬(q:Int)<(p:Int):=by omega
  have HQM:Hid (q=most x):=by unfold Hid;rw[HM.out];exact eq
  have HMEM:Hid (∀y,inW ws' y↔inW ws y\/∃t,1<=t/\t<=most x/\y=x.seq.take t):=λy=>by rw[<-HQM.out];exact HQ.out.mem y
  have z1:wr.cell? ⟨w.heap.size,1,none⟩=some (.bool true):=HQ.out.box.cell (i:=1) rfl
  have z2:wr.cell? ⟨w.heap.size,2,none⟩=some (.slice (some ⟨bq,oq,none⟩) (p+1) sc):=HQ.out.box.cell (i:=2) rfl
  have x0:=cell_next HQ.out.nx hbq (HCQ.out p (by omega))
  have hpp:(p:Int)<(p:Int)+1:=by omega
  have ND:=HQ.out.pt.nd _ HAT.out
  have k3:wr.cell? ⟨bl' (x.seq.take q),3,none⟩=some (.int .i64 (mu (x.seq.take q))):=ND.cell (i:=3) rfl
  have f3:=ND.frozen 3
  have HFIN:Hid (PT ws' (muP x mu) (bdP x bd) w0.heap.size (wr.setCell ⟨bl' (x.seq.take q),3,none⟩ (.int .i64 (jm (mu (x.seq.take q)) (iat x.seq p)))) bl' mv'):=by
   have h1:=HQ.out.pt.ask HAT.out (jm (mu (x.seq.take q)) (iat x.seq p))
   unfold Hid
   rw[show muP x mu=upW mu (x.seq.take q) (jm (mu (x.seq.take q)) (iat x.seq p)) by unfold muP;rw[if_pos HO.out,<-HQM.out,HL.out];rfl,show bdP x bd=bd by unfold bdP;rw[if_pos HO.out]]
   exact h1
  have HNX:Hid (Nx w0 (wr.setCell ⟨bl' (x.seq.take q),3,none⟩ (.int .i64 (jm (mu (x.seq.take q)) (iat x.seq p))))):=Below.setCell HQ.out.nx (HQ.out.pt.ge _ HAT.out) _
  have HD4:Hid (d<=402):=by unfold Hid;omega
  clear ND eq hlt
  generalize mu (x.seq.take q)=m0 at *
  generalize iat x.seq p=l0 at *
  generalize bl' (x.seq.take q)=bx at *
  go_wp2
  go_region_with (go_at_call 55;refine(joinMusts_any _ _ _).mono ?_;rintro e w6 ⟨rfl,rfl⟩)
  all_goals go_wp2
  all_goals go_ret
  all_goals exact⟨ws',bl',mv',d,rfl,HFIN.out.next (Nx.refl _).drew,HQ.out.ok,HMEM.out,HQ.out.len,HD4.out,HQ.out.root,HNX.out.drew⟩
theorem sub_at {us ws:List (List Int)}(hu:AscW us)(hw:AscW ws)(h:∀y,inW us y->inW ws y)(i:Nat)(hi:i<us.length):∃k,i<=k/\k<ws.length/\wd ws k=wd us i:=by
 induction i with
 |zero=>
  obtain⟨k,hk,e⟩:=h (wd us 0) ⟨0,hi,rfl⟩
  exact⟨k,Nat.zero_le _,hk,e⟩
 |succ i ih=>
  obtain⟨k,h1,h2,h3⟩:=ih (by omega)
  obtain⟨k',hk',e⟩:=h (wd us (i+1)) ⟨i+1,hi,rfl⟩
  refine⟨k',?_,hk',e⟩
  have hb:=hu i (i+1) (by omega) hi
  rw[<-h3,<-e] at hb
  rcases Nat.lt_trichotomy k k' with c|c|c
  ·omega
  ·subst c;rw[bef_self] at hb;cases hb
  ·have:=bef_trans hb (hw k' k c h2)
   rw[bef_self] at this;cases this
theorem sub_len {us ws:List (List Int)}(hu:AscW us)(hw:AscW ws)(h:∀y,inW us y->inW ws y):us.length<=ws.length:=by
 by_cases c:us.length=0
 ·omega
 ·obtain⟨k,h1,h2,_⟩:=sub_at hu hw h (us.length-1) (by omega)
  omega
theorem same_words {us ws:List (List Int)}(hu:AscW us)(hw:AscW ws)(h:∀y,inW us y↔inW ws y):us=ws:=by
 have hl:us.length=ws.length:=Nat.le_antisymm (sub_len hu hw λy=>(h y).1) (sub_len hw hu λy=>(h y).2)
 apply List.ext_getElem hl
 intro i h1 h2
 have key:wd us i=wd ws i:=by
  obtain⟨k,k1,k2,k3⟩:=sub_at hu hw (λy=>(h y).1) i h1
  obtain⟨m,m1,m2,m3⟩:=sub_at hw hu (λy=>(h y).2) i h2
  by_cases c:k=i
  ·rw[<-k3,c]
  ·have hb:=hw i k (by omega) k2
   rw[k3,<-m3] at hb
   by_cases d:m=i
   ·rw[d,bef_self] at hb;cases hb
   ·have:=bef_trans hb (hu i m (by omega) m2)
    rw[bef_self] at this;cases this
 unfold wd at key
 rw[List.getD_eq_getElem?_getD,List.getElem?_eq_getElem h1,List.getD_eq_getElem?_getD,List.getElem?_eq_getElem h2] at key
 exact key
def muK (rs:List Ru):Nat->List Int->Int
 |0=>λ_=>-1
 |k+1=>muP (ratA rs k) (muK rs k)
def bdK (rs:List Ru):Nat->List Int->Bool
 |0=>λ_=>false
 |k+1=>bdP (ratA rs k) (bdK rs k)
theorem pw_up {rs:List Ru}{k:Nat}(y:List Int):PW rs (k+1) 1 y↔PW rs k 1 y\/∃t,1<=t/\t<=most (ratA rs k)/\y=(ratA rs k).seq.take t:=by
 constructor
 ·rintro(h|⟨j,hj,q,h1,h2,h3⟩|⟨q,h1,h2,h3⟩)
  ·exact Or.inl (Or.inl h)
  ·by_cases e:j=k
   ·subst e;exact Or.inr ⟨q,h1,h2,h3⟩
   ·exact Or.inl (Or.inr (Or.inl ⟨j,by omega,q,h1,h2,h3⟩))
  ·omega
 ·rintro((h|⟨j,hj,q,h1,h2,h3⟩|⟨q,h1,h2,h3⟩)|⟨t,h1,h2,h3⟩)
  ·exact Or.inl h
  ·exact Or.inr (Or.inl ⟨j,by omega,q,h1,h2,h3⟩)
  ·omega
  ·exact Or.inr (Or.inl ⟨k,by omega,t,h1,h2,h3⟩)
theorem pw_mono {rs:List Ru}{k n:Nat}(h:k<=n){y:List Int}(hy:PW rs k 1 y):PW rs n 1 y:=by
 rcases hy with h1|⟨j,hj,q,h1,h2,h3⟩|⟨q,h1,h2,h3⟩
 ·exact Or.inl h1
 ·exact Or.inr (Or.inl ⟨j,by omega,q,h1,h2,h3⟩)
 ·omega
theorem most_pos {x:Ru}(h:2<=x.seq.length):1<=most x:=by unfold most;split<;>omega
theorem muK_out {rs:List Ru}(hg:rgB rs=true){k:Nat}(hk:k<=rs.length):∀y,¬PW rs k 1 y->muK rs k y=-1:=by
 induction k with
 |zero=>exact λ_ _=>rfl
 |succ k ih=>
  intro y hy
  rw[pw_up] at hy
  have h1:=ih (by omega) y (λh=>hy (Or.inl h))
  show muP (ratA rs k) (muK rs k) y=-1
  unfold muP
  split
  ·rw[upW_ne _ _ (λe=>hy (Or.inr ⟨_,most_pos (rg_at hg (show k<rs.length by omega)).1,Nat.le_refl _,e⟩))]
   exact h1
  ·exact h1
theorem bdK_out {rs:List Ru}(hg:rgB rs=true){k:Nat}(hk:k<=rs.length):∀y,¬PW rs k 1 y->bdK rs k y=false:=by
 induction k with
 |zero=>exact λ_ _=>rfl
 |succ k ih=>
  intro y hy
  rw[pw_up] at hy
  have h1:=ih (by omega) y (λh=>hy (Or.inl h))
  show bdP (ratA rs k) (bdK rs k) y=false
  unfold bdP
  split
  ·exact h1
  ·rw[upW_ne _ _ (λe=>hy (Or.inr ⟨_,most_pos (rg_at hg (show k<rs.length by omega)).1,Nat.le_refl _,e⟩))]
   exact h1
structure GI (rs:List Ru)(k:Nat)(w0 w:World)(ws:List (List Int))(bl:List Int->Nat)(mv:List Int->Value):Prop where
 pt:PT ws (muK rs k) (bdK rs k) w0.heap.size w bl mv
 ok:WS ws
 mem:∀y,inW ws y↔PW rs k 1 y
 root:bl []=w0.heap.size
 nx:Nx w0 w
theorem GI.start {rs:List Ru}{w0 w:World}(hb:Blk w w0.heap.size (node 0 0 (-1) (-1) false (.pointer none) (.pointer none) (.map none)))(k:Nx w0 w):GI rs 0 w0 w [[]] (λ_=>w0.heap.size) (λ_=>.map none):=by
 have hin:∀y,inW [[]] y↔y=[]:=by
  intro y
  rw[<-mem_in]
  simp
 refine⟨⟨λx hx=>?_,λx hx=>Or.inl ⟨rfl,?_⟩,λx y hx hy _=>?_,λx hx=>Nat.le_refl _,λx mb hx e=>by simp[mapBlk] at e,λx y mb hx hy e=>by simp[mapBlk] at e⟩,⟨λi j h1 h2=>by simp at h2;omega,(hin []).2 rfl,λx e h=>?_,λx e h=>?_⟩,λy=>?_,rfl,k⟩
 ·rw[(hin x).1 hx]
  exact hb
 ·simp[kidsW,isKid]
 ·rw[(hin x).1 hx,(hin y).1 hy]
 ·have:=(hin _).1 h
  simp at this
 ·have:=(hin _).1 h
  simp at this
 ·rw[hin]
  constructor
  ·exact Or.inl
  ·rintro(h|⟨j,hj,_⟩|⟨q,h1,h2,_⟩)
   ·exact h
   ·omega
   ·omega
theorem GI.next {rs:List Ru}{k:Nat}{w0 w w':World}{ws:List (List Int)}{bl:List Int->Nat}{mv:List Int->Value}(h:GI rs k w0 w ws bl mv)(q:Nx w w'):GI rs k w0 w' ws bl mv:=⟨h.pt.next q,h.ok,h.mem,h.root,h.nx.trans q⟩
def GTE (rs:List Ru)(w0 w':World)(r:Ending):Prop:=
 (r=.returned (.tuple #[.pointer none,.bool false])/\∃ws:List (List Int),2000<ws.length/\AscW ws/\∀y,inW ws y->PW rs rs.length 1 y) \/
 ∃ws bl mv,r=.returned (.tuple #[ptr w0.heap.size,.bool true])/\ws.length<=2000/\GI rs rs.length w0 w' ws bl mv
theorem growTrie_any (B:Nat)(v:Value)(rs:List Ru)(w:World)(h0:HRules B w v rs)(hg:rgB rs=true) :
  Calls Tryz.prog 31 #[v] w λr w'=>GTE rs w w' r/\Nx w w':=by
 have HG:Hid (rgB rs=true):=hg
 obtain⟨a,cap,rfl,hn,hk⟩:=h0
 unfold maxLen at hn
 generalize hz:rs.length=n at *
 have HZ:Hid (rs.length=n):=hz
 clear hz hg
 go_enter Tryz.func31,Tryz.ntmps31
 go_wp2_with fail
 refine(newRoot_any w).mono ?_
 rintro r w1 ⟨rfl,hb,hx⟩
 have HI0:Hid (GI rs 0 w w1 [[]] (λ_=>w.heap.size) (λ_=>.map none)):=GI.start hb hx
 clear hb hx
 unfold ptr
 go_wp2
 go_loopw [5,7,11] (λe5 _ i wr=>∃(k:Nat) (ws:List (List Int)) (bl:List Int->Nat) (mv:List Int->Value),k<=n/\i=.int .i64 k/\e5=.int .i64 ((ws.length:Nat):Int)/\ws.length<=2000/\Hid (GI rs k w wr ws bl mv)) (λ_ _ i _=>n-(intOf i).toNat)
 case atStart=>exact⟨0,_,_,_,Nat.zero_le _,rfl,rfl,by simp,HI0⟩
 clear HI0
 obtain⟨k,ws,bl,mv,hkn,rfl,rfl,hwl,HI⟩:=hrel
 by_cases hlt:k<n
 case neg=>
  have ek:n=k:=by omega
  have HF:Hid (GI rs rs.length w wr ws bl mv):=by unfold Hid;rw[HZ.out,ek];exact HI.out
  have hnl:¬(k:Int)<n:=by omega
  have HWL:Hid (ws.length<=2000):=hwl
  clear ek hwl
  go_wp2
  refine bodyPost_ret (v:=.tuple #[.pointer (some ⟨w.heap.size,0,none⟩),.bool true]) (by simp[results,Tryz.results31,go_sem]) rfl ?_
  exact⟨Or.inr ⟨ws,bl,mv,rfl,HWL.out,HF.out⟩,HI.out.nx⟩
 obtain⟨b,off,rfl,_,hb,hc⟩:=hk (by omega)
 obtain⟨sa,sc,c0',c1',c2',hS,hcap⟩:=hc k hlt
 have c0:=cellq' HI.out.nx c0'
 have c1:=cellq' HI.out.nx c1'
 have c2:=cellq' HI.out.nx c2'
 have hlt':(k:Int)<n:=by omega
 have hr:=rg_at HG.out (show k<rs.length by rw[HZ.out];exact hlt)
 have HR3:Hid (∀j,j<(ratA rs k).seq.length->0<=iat (ratA rs k).seq j/\iat (ratA rs k).seq j<4000):=hr.2.2
 have h2:=hr.1
 have h4:=hr.2.1
 have HS:Hid (HInts B w (.slice sa (ratA rs k).seq.length sc) (ratA rs k).seq):=hS
 have HCP:Hid ((ratA rs k).seq.length<=sc):=hcap
 have HMU:Hid (∀y,¬inW ws y->muK rs k y=-1):=λy hy=>muK_out HG.out (by rw[HZ.out];exact hkn) y (λh=>hy ((HI.out.mem y).2 h))
 have HBD:Hid (∀y,¬inW ws y->bdK rs k y=false):=λy hy=>bdK_out HG.out (by rw[HZ.out];exact hkn) y (λh=>hy ((HI.out.mem y).2 h))
 have HWL:Hid (ws.length<=2000):=hwl
 have HRT:Hid (bl []=w.heap.size):=HI.out.root
 have HSTEP:Hid (∀w5 ws' bl' mv',PT ws' (muP (ratA rs k) (muK rs k)) (bdP (ratA rs k) (bdK rs k)) w.heap.size w5 bl' mv'->WS ws'->(∀y,inW ws' y↔inW ws y\/∃t,1<=t/\t<=most (ratA rs k)/\y=(ratA rs k).seq.take t)->bl' []=bl []->Nx w w5->GI rs (k+1) w w5 ws' bl' mv'):=λw5 ws' bl' mv' h1 h2 h3 h4 h5=>⟨h1,h2,λy=>by rw[h3,pw_up,HI.out.mem],h4.trans HRT.out,h5⟩
 have HNO:Hid (∀w5 ws' bl' mv',GI rs (k+1) w w5 ws' bl' mv'->2000<ws'.length->∃ws:List (List Int),2000<ws.length/\AscW ws/\∀y,inW ws y->PW rs rs.length 1 y):=λw5 ws' bl' mv' h1 h2=>⟨ws',h2,h1.ok.asc,λy hy=>pw_mono (by rw[HZ.out];omega) ((h1.mem y).1 hy)⟩
 clear hc hk c0' c1' c2' hS hr hcap hwl
 have HB1:Hid (Nx wr (wr.alloc (.cells #[.int .i64 (ratA rs k).rel,.bool (ratA rs k).only,.slice sa (ratA rs k).seq.length sc] 36))):=box1 _ _
 have HI1:Hid (PT ws (muK rs k) (bdK rs k) w.heap.size (wr.alloc (.cells #[.int .i64 (ratA rs k).rel,.bool (ratA rs k).only,.slice sa (ratA rs k).seq.length sc] 36)) bl mv):=HI.out.pt.next HB1.out
 have HIN:Hid (Nx w (wr.alloc (.cells #[.int .i64 (ratA rs k).rel,.bool (ratA rs k).only,.slice sa (ratA rs k).seq.length sc] 36))):=HI.out.nx.trans HB1.out
 have HOK:Hid (WS ws):=HI.out.ok
 clear HI HB1
 obtain⟨p,hp⟩:∃p,(ratA rs k).seq.length=p+1:=⟨(ratA rs k).seq.length-1,by omega⟩
 have HP:Hid ((ratA rs k).seq.length=p+1):=hp
 rw[hp] at HS HCP c2 HI1 HIN h2 h4
 clear hp
 have HPL:Hid (∀bb,(ratA rs k).only=bb->Calls Tryz.prog 50 #[ptr (bl []),.agg #[.int .i64 (ratA rs k).rel,.bool bb,.slice sa (p+1) sc]] (wr.alloc (.cells #[.int .i64 (ratA rs k).rel,.bool (ratA rs k).only,.slice sa (p+1) sc] 36)) λr w'=>PlE (ratA rs k) ws (muK rs k) (bdK rs k) bl w w' r):=by
  intro bb hbb
  cases bb with
  |false=>exact plant_no B (ratA rs k) sa p sc ws _ _ bl mv w _ HI1.out HOK.out HIN.out HP.out HS.out (by omega) (by omega) HCP.out HR3.out HWL.out HMU.out HBD.out hbb
  |true=>exact plant_only B (ratA rs k) sa p sc ws _ _ bl mv w _ HI1.out HOK.out HIN.out HP.out HS.out (by omega) (by omega) HCP.out HR3.out HWL.out HMU.out HBD.out hbb
 have HPL2:=HPL.out _ rfl
 rw[HRT.out] at HPL2
 have HPL3:Hid (Calls Tryz.prog 50 #[ptr w.heap.size,.agg #[.int .i64 (ratA rs k).rel,.bool (ratA rs k).only,.slice sa (p+1) sc]] (wr.alloc (.cells #[.int .i64 (ratA rs k).rel,.bool (ratA rs k).only,.slice sa (p+1) sc] 36)) λr w'=>PlE (ratA rs k) ws (muK rs k) (bdK rs k) bl w w' r):=HPL2
 clear HPL HPL2 HI1 HIN HS HCP HR3 HMU HBD HOK h2 h4
 go_wp2_with fail
 refine HPL3.out.mono ?_
 rintro r w5 ⟨ws',bl',mv',d,rfl,q1,q2,q3,q4,q5,q6,q7⟩
 have HGI:Hid (GI rs (k+1) w w5 ws' bl' mv'):=HSTEP.out w5 ws' bl' mv' q1 q2 q3 q6 q7
 have hln:((ws.length:Nat):Int)+d=((ws'.length:Nat):Int):=by omega
 have hwr:=wrapJ ws'.length (by have:=HWL.out;omega)
 clear q1 q2 q3 q6 q7 HSTEP HPL3 c0 c1 c2
 by_cases hbig:ws'.length<=2000
 ·have d1:decide (2000<((ws'.length:Nat):Int))=false:=by simp;omega
  clear q4
  go_wp2
  go_roundw
  case rel=>exact⟨k+1,ws',bl',mv',by omega,by go_num,rfl,hbig,HGI⟩
  case measure=>simp[intOf];omega
 ·have d1:decide (2000<((ws'.length:Nat):Int))=true:=by simp;omega
  have HF:Hid (∃ws:List (List Int),2000<ws.length/\AscW ws/\∀y,inW ws y->PW rs rs.length 1 y):=HNO.out w5 ws' bl' mv' HGI.out (by omega)
  clear q4
  go_wp2
  refine bodyPost_ret (v:=.tuple #[.pointer none,.bool false]) (by simp[results,Tryz.results31,go_sem]) rfl ?_
  exact⟨Or.inl ⟨rfl,HF.out⟩,HGI.out.nx⟩
structure NR (n:Nat)(w:World)(bl:Nat->Nat)(num len la mu:Nat->Int)(bd:Nat->Bool)(par fl mv:Nat->Value):Prop where
 nd:∀s,s<n->Blk w (bl s) (node (num s) (len s) (la s) (mu s) (bd s) (par s) (fl s) (mv s))
 inj:∀s t,s<n->t<n->bl s=bl t->s=t
theorem NR.bad {n:Nat}{w:World}{bl:Nat->Nat}{num len la mu:Nat->Int}{bd:Nat->Bool}{par fl mv:Nat->Value}(h:NR n w bl num len la mu bd par fl mv){t:Nat}(ht:t<n)(z:Bool):NR n (w.setCell ⟨bl t,4,none⟩ (.bool z)) bl num len la mu (upd bd t z) par fl mv:=by
 refine⟨λs hs=>?_,h.inj⟩
 by_cases e:s=t
 ·subst e
  rw[upd_at]
  exact(h.nd s hs).set 4 _
 ·rw[upd_ne _ _ e]
  exact(h.nd s hs).setOther (λe'=>e (h.inj s t hs ht e')) _ _
theorem NR.must {n:Nat}{w:World}{bl:Nat->Nat}{num len la mu:Nat->Int}{bd:Nat->Bool}{par fl mv:Nat->Value}(h:NR n w bl num len la mu bd par fl mv){t:Nat}(ht:t<n)(z:Int):NR n (w.setCell ⟨bl t,3,none⟩ (.int .i64 z)) bl num len la (upd mu t z) bd par fl mv:=by
 refine⟨λs hs=>?_,h.inj⟩
 by_cases e:s=t
 ·subst e
  rw[upd_at]
  exact(h.nd s hs).set 3 _
 ·rw[upd_ne _ _ e]
  exact(h.nd s hs).setOther (λe'=>e (h.inj s t hs ht e')) _ _
theorem NR.next {n:Nat}{w w':World}{bl:Nat->Nat}{num len la mu:Nat->Int}{bd:Nat->Bool}{par fl mv:Nat->Value}(h:NR n w bl num len la mu bd par fl mv)(k:Nx w w'):NR n w' bl num len la mu bd par fl mv:=⟨λs hs=>(h.nd s hs).next k,h.inj⟩
def mix {α:Type}(M m:Nat->α)(k s:Nat):α:=if s<k then M s else m s
theorem mix_up {α:Type}(M m:Nat->α)(k:Nat):upd (mix M m k) k (M k)=mix M m (k+1):=by
 funext s
 unfold upd mix
 by_cases h:s=k
 ·subst h;simp
 ·by_cases h2:s<k
  ·rw[if_neg h,if_pos h2,if_pos (by omega)]
  ·rw[if_neg h,if_neg h2,if_neg (by omega)]
theorem mix_lo {α:Type}(M m:Nat->α){k s:Nat}(h:s<k):mix M m k s=M s:=if_pos h
theorem mix_hi {α:Type}(M m:Nat->α){k s:Nat}(h:¬s<k):mix M m k s=m s:=if_neg h
theorem NR.congr {n:Nat}{w:World}{bl:Nat->Nat}{num len la mu mu':Nat->Int}{bd bd':Nat->Bool}{par fl mv:Nat->Value}(h:NR n w bl num len la mu bd par fl mv)(h1:∀s,s<n->mu s=mu' s)(h2:∀s,s<n->bd s=bd' s):NR n w bl num len la mu' bd' par fl mv:=
 ⟨λs hs=>by rw[<-h1 s hs,<-h2 s hs];exact h.nd s hs,h.inj⟩
theorem FrA.refl (n:Nat)(bl:Nat->Nat)(w:World):FrA n bl w w:=⟨rfl,rfl,rfl,Nat.le_refl _,λ_ _ _=>rfl⟩
theorem inherit_any (m C:Nat)(v:Value)(w:World)(bl:Nat->Nat)(num len la mu M:Nat->Int)(bd D:Nat->Bool)(par fl mv:Nat->Value)(f:Nat->Nat)(hO:OwnP C w v ((List.range (m+1)).map bl))(hC:∀s,s<m+1->bl s<C)(h:NR (m+1) w bl num len la mu bd par fl mv)(hm:m+1<=2000)(hf:∀s,1<=s->s<m+1->fl s=ptr (bl (f s))/\f s<s)(hM0:M 0=mu 0)(hD0:D 0=bd 0)(hM:∀s,1<=s->s<m+1->M s=jm (mu s) (M (f s)))(hD:∀s,1<=s->s<m+1->D s=(bd s||D (f s))) :
  Calls Tryz.prog 33 #[v] w λr w'=>r=.returned (.tuple #[])/\NR (m+1) w' bl num len la M D par fl mv/\OwnP C w' v ((List.range (m+1)).map bl)/\FrA (m+1) bl w w':=by
 have HC:Hid (∀s,s<m+1->bl s<C):=hC
 have HF:Hid (∀s,1<=s->s<m+1->fl s=ptr (bl (f s))/\f s<s):=hf
 have HM:Hid (∀s,1<=s->s<m+1->M s=jm (mu s) (M (f s))):=hM
 have HD:Hid (∀s,1<=s->s<m+1->D s=(bd s||D (f s))):=hD
 have HO:Hid (OwnP C w v ((List.range (m+1)).map bl)):=hO
 have HN0:Hid (NR (m+1) w bl num len la (mix M mu 1) (mix D bd 1) par fl mv):=h.congr (λs hs=>by
   by_cases e:s<1
   ·rw[mix_lo _ _ e,show s=0 by omega,hM0]
   ·rw[mix_hi _ _ e]) (λs hs=>by
   by_cases e:s<1
   ·rw[mix_lo _ _ e,show s=0 by omega,hD0]
   ·rw[mix_hi _ _ e])
 obtain⟨a,c,rfl⟩:=hO.slice
 rw[List.length_map,List.length_range] at *
 obtain⟨g,hag,_⟩:=HO.out.cell (i:=0) (by simp)
 subst hag
 have HCELL:Hid (∀wr i,OwnP C wr (.slice (some ⟨g,0,none⟩) (m+1) c) ((List.range (m+1)).map bl)->i<m+1->wr.cell? ⟨g,i,none⟩=some (.pointer (some ⟨bl i,0,none⟩))):=by
  intro wr i h1 h2
  obtain⟨g',hg',hc'⟩:=h1.cell (i:=i) (by simp;exact h2)
  rw[nat_range bl h2] at hc'
  have:g=g':=by simpa using hg'
  subst this
  exact hc'
 have hcm:m+1<=c:=by
  rcases HO.out.2 with⟨h1,_⟩|⟨g',cap,cur,h1,_,_,h2,_⟩
  ·simp at h1
  ·simp only[Value.slice.injEq,List.length_map,List.length_range] at h1 h2
   omega
 have hcM:c<=9223372036854775807:=by
  rcases HO.out.2 with⟨h1,_⟩|⟨g',cap,cur,h1,_,_,_,h2,_⟩
  ·simp at h1
  ·simp only[Value.slice.injEq] at h1
   unfold maxLen at h2
   omega
 have hl1:(1:Int)<=(m:Int)+1:=by omega
 have wm1:IntKind.i64.wrap ((m:Int)+1-1)=(m:Int):=by rw[IntKind.wrap_i64];omega
 have wm2:((m:Int)+1-1)=(m:Int):=by omega
 clear hO hC hf hM hD hM0 hD0 h
 by_cases hc1:c=1
 ·have hm0:m=0:=by omega
  have HFIN:Hid (NR (m+1) w bl num len la M D par fl mv):=HN0.out.congr (λs hs=>mix_lo _ _ (by omega)) (λs hs=>mix_lo _ _ (by omega))
  subst hm0 hc1
  clear wm1 wm2
  go_enter Tryz.func33,Tryz.ntmps33
  go_wp2
  go_loop [3,7] (λ_ i=>i=.int .i64 0) (λ_ _=>0)
  case atStart=>rfl
  subst hrel
  go_wp2
  refine bodyPost_end (v:=.tuple #[]) (by simp[results,Tryz.results33,go_sem]) rfl ⟨rfl,HFIN.out,HO.out,FrA.refl _ _ _⟩
 have hc2:(1:Int)<=c:=by omega
 go_enter Tryz.func33,Tryz.ntmps33
 go_wp2
 go_loopw [3,7] (λ_ i wr=>∃k:Nat,k<=m/\i=.int .i64 k/\Hid (NR (m+1) wr bl num len la (mix M mu (k+1)) (mix D bd (k+1)) par fl mv)/\Hid (OwnP C wr (.slice (some ⟨g,0,none⟩) (m+1) c) ((List.range (m+1)).map bl))/\Hid (FrA (m+1) bl w wr)) (λ_ i _=>m-(intOf i).toNat)
 case atStart=>exact⟨0,Nat.zero_le _,rfl,HN0,HO,FrA.refl _ _ _⟩
 clear HN0 HO wm1 wm2
 obtain⟨k,hkm,rfl,HN,HO,HR⟩:=hrel
 by_cases hlt:k<m
 case neg=>
  have ek:k=m:=by omega
  subst ek
  have hnl:¬(k:Int)<k:=by omega
  have HFIN:Hid (NR (k+1) wr bl num len la M D par fl mv):=HN.out.congr (λs hs=>mix_lo _ _ hs) (λs hs=>mix_lo _ _ hs)
  clear hlt
  go_wp2
  refine bodyPost_end (v:=.tuple #[]) (by simp[results,Tryz.results33,go_sem]) rfl ⟨rfl,HFIN.out,by first|exact HO.out|(rw[range_snoc];exact HO.out),HR.out⟩
 have hlt':(k:Int)<m:=by omega
 have hft:=HF.out (k+1) (by omega) (by omega)
 have x0:wr.cell? ⟨g,1+k,none⟩=some (.pointer (some ⟨bl (k+1),0,none⟩)):=by rw[Nat.add_comm 1 k];exact HCELL.out wr (k+1) HO.out (by omega)
 have HM1:Hid (M (k+1)=jm (mu (k+1)) (M (f (k+1)))):=HM.out (k+1) (by omega) (by omega)
 have HD1:Hid (D (k+1)=(bd (k+1)||D (f (k+1)))):=HD.out (k+1) (by omega) (by omega)
 have NS:=HN.out.nd (k+1) (by omega)
 have NF:=HN.out.nd (f (k+1)) (by omega)
 rw[mix_hi _ _ (Nat.lt_irrefl _),mix_hi _ _ (Nat.lt_irrefl _),hft.1] at NS
 rw[mix_lo _ _ hft.2,mix_lo _ _ hft.2] at NF
 unfold ptr at NS
 have s4:wr.cell? ⟨bl (k+1),4,none⟩=some (.bool (bd (k+1))):=NS.cell (i:=4) rfl
 have s6:wr.cell? ⟨bl (k+1),6,none⟩=some (.pointer (some ⟨bl (f (k+1)),0,none⟩)):=NS.cell (i:=6) rfl
 have z4:=NS.frozen 4
 have t4:wr.cell? ⟨bl (f (k+1)),4,none⟩=some (.bool (D (f (k+1)))):=NF.cell (i:=4) rfl
 have HFT:Hid (fl (k+1)=.pointer (some ⟨bl (f (k+1)),0,none⟩)/\f (k+1)<k+1):=hft
 have H2:Hid (NR (m+1) (wr.setCell ⟨bl (k+1),4,none⟩ (.bool (D (k+1)))) bl num len la (mix M mu (k+1)) (mix D bd (k+1+1)) par fl mv):=by
  have:=HN.out.bad (t:=k+1) (by omega) (D (k+1))
  rw[mix_up] at this
  exact this
 have HO2:Hid (OwnP C (wr.setCell ⟨bl (k+1),4,none⟩ (.bool (D (k+1)))) (.slice (some ⟨g,0,none⟩) (m+1) c) ((List.range (m+1)).map bl)):=own_store HO.out (HC.out _ (by omega)) _ _
 have HR2:Hid (FrA (m+1) bl w (wr.setCell ⟨bl (k+1),4,none⟩ (.bool (D (k+1))))):=HR.out.set (by omega) _ _
 clear NS NF hft HN HO HR
 have hgo:∀w2:World,Hid (NR (m+1) w2 bl num len la (mix M mu (k+1)) (mix D bd (k+1+1)) par fl mv)->w2.cell? ⟨bl (k+1),3,none⟩=some (.int .i64 (mu (k+1)))/\w2.frozen? ⟨bl (k+1),3,none⟩=false/\w2.cell? ⟨bl (k+1),6,none⟩=some (.pointer (some ⟨bl (f (k+1)),0,none⟩))/\w2.cell? ⟨bl (f (k+1)),3,none⟩=some (.int .i64 (M (f (k+1))))/\Hid (NR (m+1) (w2.setCell ⟨bl (k+1),3,none⟩ (.int .i64 (jm (mu (k+1)) (M (f (k+1)))))) bl num len la (mix M mu (k+1+1)) (mix D bd (k+1+1)) par fl mv):=by
  intro w2 h2
  have NS:=h2.out.nd (k+1) (by omega)
  have NF:=h2.out.nd (f (k+1)) (by have:=HFT.out.2;omega)
  rw[mix_hi M mu (Nat.lt_irrefl _),HFT.out.1] at NS
  rw[mix_lo M mu HFT.out.2] at NF
  refine⟨NS.cell (i:=3) rfl,NS.frozen 3,NS.cell (i:=6) rfl,NF.cell (i:=3) rfl,?_⟩
  have:=h2.out.must (t:=k+1) (by omega) (M (k+1))
  rw[mix_up,HM1.out] at this
  exact this
 have HGO:Hid _:=hgo
 clear hgo
 cases hb:bd (k+1)
 all_goals
  rw[hb] at s4 HD1
  simp only[Bool.true_or,Bool.false_or] at HD1
  rw[HD1.out] at H2 HO2 HR2
  clear hb HD1
  go_upto_region 4 with fail
  generalize hw2:wr.setCell ⟨bl (k+1),4,none⟩ (.bool _)=w2 at *
  clear hw2 s4 s6 z4 t4 x0
  obtain⟨u3,v3,u6,r3,HE⟩:=HGO.out w2 H2
  have HO3:Hid (OwnP C (w2.setCell ⟨bl (k+1),3,none⟩ (.int .i64 (jm (mu (k+1)) (M (f (k+1)))))) (.slice (some ⟨g,0,none⟩) (m+1) c) ((List.range (m+1)).map bl)):=own_store HO2.out (HC.out _ (by omega)) _ _
  have HR3:Hid (FrA (m+1) bl w (w2.setCell ⟨bl (k+1),3,none⟩ (.int .i64 (jm (mu (k+1)) (M (f (k+1))))))):=HR2.out.set (by omega) _ _
  clear H2 HO2 HR2 HFT HM1
  go_region_with (go_at_call 55;refine(joinMusts_any _ _ _).mono ?_;rintro e w6 ⟨rfl,rfl⟩)
  all_goals go_wp2
  all_goals
   go_roundw
   case rel=>exact⟨k+1,by omega,by go_num,HE.out.next (Nx.refl _).drew,HO3.out.next (Nx.refl _).drew,⟨HR3.out.os,HR3.out.tape,HR3.out.output,HR3.out.size,HR3.out.block⟩⟩
   case measure=>simp[intOf];omega
def ownP (rs:List Ru)(k:Nat)(y:List Int)(e:Int):Prop:=∃j,j<k/\(ratA rs j).only=true/\y=(ratA rs j).seq.take (most (ratA rs j))/\e=iat (ratA rs j).seq ((ratA rs j).seq.length-1)
theorem ownP_up (rs:List Ru)(k:Nat)(y:List Int)(e:Int):ownP rs (k+1) y e↔ownP rs k y e\/((ratA rs k).only=true/\y=(ratA rs k).seq.take (most (ratA rs k))/\e=iat (ratA rs k).seq ((ratA rs k).seq.length-1)):=by
 constructor
 ·rintro⟨j,hj,h⟩
  by_cases c:j=k
  ·subst c;exact Or.inr h
  ·exact Or.inl ⟨j,by omega,h⟩
 ·rintro(⟨j,hj,h⟩|h)
  ·exact⟨j,by omega,h⟩
  ·exact⟨k,by omega,h⟩
theorem muK_is {rs:List Ru}(hg:rgB rs=true){k:Nat}(hk:k<=rs.length)(y:List Int):MustIs (ownP rs k y) (muK rs k y):=by
 induction k with
 |zero=>exact MustIs.none.congr λx=>⟨λh=>h.elim,λ⟨j,hj,_⟩=>by omega⟩
 |succ k ih=>
  have h1:=ih (by omega)
  have hr:=rg_at hg (show k<rs.length by omega)
  show MustIs _ (muP (ratA rs k) (muK rs k) y)
  unfold muP
  by_cases ho:(ratA rs k).only=true
  ·rw[if_pos ho]
   by_cases c:y=(ratA rs k).seq.take (most (ratA rs k))
   ·rw[<-c,upW_at]
    refine(h1.join (MustIs.one (hr.2.2 ((ratA rs k).seq.length-1) (by omega)).1)).congr λx=>?_
    rw[ownP_up]
    exact⟨λh=>h.elim Or.inl λh=>Or.inr ⟨ho,c,h⟩,λh=>h.elim Or.inl λh=>Or.inr h.2.2⟩
   ·rw[upW_ne _ _ c]
    refine h1.congr λx=>?_
    rw[ownP_up]
    exact⟨Or.inl,λh=>h.elim id λh=>absurd h.2.1 c⟩
  ·rw[if_neg ho]
   refine h1.congr λx=>?_
   rw[ownP_up]
   exact⟨Or.inl,λh=>h.elim id λh=>absurd h.1 ho⟩
def sufP (rs:List Ru)(k:Nat)(xs:List Int)(e:Int):Prop:=∃j,j<k/\(ratA rs j).only=true/\(ratA rs j).seq.take (most (ratA rs j)) <:+ xs/\e=iat (ratA rs j).seq ((ratA rs j).seq.length-1)
theorem most_only {x:Ru}(h:x.only=true):most x=x.seq.length-1:=by unfold most;rw[if_pos h]
theorem most_no {x:Ru}(h:x.only=false):most x=x.seq.length:=by unfold most;rw[h];rfl
theorem mustTo_is {rs:List Ru}(hg:rgB rs=true){k:Nat}(hk:k<=rs.length)(xs:List Int):MustIs (sufP rs k xs) (mustTo rs xs k):=by
 induction k with
 |zero=>exact MustIs.none.congr λx=>⟨λh=>h.elim,λ⟨j,hj,_⟩=>by omega⟩
 |succ k ih=>
  have h1:=ih (by omega)
  have hr:=rg_at hg (show k<rs.length by omega)
  have hup:∀e,sufP rs (k+1) xs e↔sufP rs k xs e\/((ratA rs k).only=true/\(ratA rs k).seq.take (most (ratA rs k)) <:+ xs/\e=iat (ratA rs k).seq ((ratA rs k).seq.length-1)):=by
   intro e
   constructor
   ·rintro⟨j,hj,h⟩
    by_cases c:j=k
    ·subst c;exact Or.inr h
    ·exact Or.inl ⟨j,by omega,h⟩
   ·rintro(⟨j,hj,h⟩|h)
    ·exact⟨j,by omega,h⟩
    ·exact⟨k,by omega,h⟩
  rw[mustTo]
  by_cases c:mustAt (ratA rs k) xs=true
  ·rw[if_pos c]
   have hc:=c
   unfold mustAt at hc
   rw[Bool.and_eq_true,suf_iff] at hc
   rw[<-jm_edge _ _ (hr.2.2 ((ratA rs k).seq.length-1) (by omega)).1]
   refine(h1.join (MustIs.one (hr.2.2 ((ratA rs k).seq.length-1) (by omega)).1)).congr λx=>?_
   rw[hup]
   exact⟨λh=>h.elim Or.inl λh=>Or.inr ⟨hc.1,by rw[most_only hc.1];exact hc.2,h⟩,λh=>h.elim Or.inl λh=>Or.inr h.2.2⟩
  ·rw[if_neg c]
   refine h1.congr λx=>?_
   rw[hup]
   refine⟨Or.inl,λh=>h.elim id λh=>absurd ?_ c⟩
   unfold mustAt
   rw[Bool.and_eq_true,suf_iff]
   exact⟨h.1,by rw[<-most_only h.1];exact h.2.1⟩
theorem bad_iff (rs:List Ru)(xs:List Int):badS rs xs=true↔∃j,j<rs.length/\(ratA rs j).only=false/\(ratA rs j).seq.take (most (ratA rs j)) <:+ xs:=by
 constructor
 ·intro h
  unfold badS at h
  rw[Bool.not_eq_true'] at h
  unfold allN at h
  rw[List.all_eq_false] at h
  obtain⟨j,hj,hb⟩:=h
  rw[List.mem_range] at hj
  have hb':badAt (ratA rs j) xs=true:=by simpa using hb
  unfold badAt at hb'
  rw[Bool.and_eq_true,suf_iff] at hb'
  have ho:(ratA rs j).only=false:=by simpa using hb'.1
  refine⟨j,hj,ho,?_⟩
  rw[most_no ho,List.take_length]
  exact hb'.2
 ·rintro⟨j,hj,ho,hs⟩
  symm
  apply bad_yes rfl hj
  unfold badAt
  rw[Bool.and_eq_true,suf_iff]
  rw[most_no ho,List.take_length] at hs
  exact⟨by rw[ho];rfl,hs⟩
theorem bdK_iff (rs:List Ru)(k:Nat)(y:List Int):bdK rs k y=true↔∃j,j<k/\(ratA rs j).only=false/\y=(ratA rs j).seq.take (most (ratA rs j)):=by
 induction k with
 |zero=>exact⟨λh=>by simp[bdK] at h,λ⟨j,hj,_⟩=>by omega⟩
 |succ k ih=>
  show bdP (ratA rs k) (bdK rs k) y=true↔_
  unfold bdP
  by_cases ho:(ratA rs k).only=true
  ·rw[if_pos ho,ih]
   constructor
   ·rintro⟨j,hj,h⟩;exact⟨j,by omega,h⟩
   ·rintro⟨j,hj,h⟩
    by_cases c:j=k
    ·subst c;rw[ho] at h;exact absurd h.1 (by simp)
    ·exact⟨j,by omega,h⟩
  ·have ho':(ratA rs k).only=false:=by simpa using ho
   rw[if_neg ho]
   by_cases c:y=(ratA rs k).seq.take (most (ratA rs k))
   ·rw[<-c,upW_at]
    exact⟨λ_=>⟨k,by omega,ho',c⟩,λ_=>rfl⟩
   ·rw[upW_ne _ _ c,ih]
    constructor
    ·rintro⟨j,hj,h⟩;exact⟨j,by omega,h⟩
    ·rintro⟨j,hj,h⟩
     by_cases d:j=k
     ·subst d;exact absurd h.2 c
     ·exact⟨j,by omega,h⟩
theorem st_inv {ws:List (List Int)}{x:List Int}(h:0<=stW ws x):∃t:Nat,t<ws.length/\stW ws x=t/\wd ws t=x:=by
 unfold stW at h ⊢
 obtain⟨a,h1,h2,h3,h4⟩:=findA_some h
 exact⟨a,by omega,h1,by simpa using h4⟩
theorem lng_least {ws:List (List Int)}{x:List Int}:∀(f k:Nat),(∃j,k<=j/\j<k+f/\0<=stW ws (x.drop j))->∃j,k<=j/\j<k+f/\lngW ws x k f=stW ws (x.drop j)/\0<=stW ws (x.drop j)/\∀i,k<=i->i<j->¬0<=stW ws (x.drop i):=by
 intro f
 induction f with
 |zero=>rintro k ⟨j,h1,h2,_⟩;omega
 |succ f ih=>
  rintro k ⟨j,h1,h2,h3⟩
  by_cases c:0<=stW ws (x.drop k)
  ·exact⟨k,Nat.le_refl _,by omega,by rw[lngW,if_pos c],c,λi h4 h5=>by omega⟩
  ·have hj:j≠k:=λe=>c (e▸h3)
   obtain⟨j',g1,g2,g3,g4,g5⟩:=ih (k+1) ⟨j,by omega,by omega,h3⟩
   refine⟨j',by omega,by omega,by rw[lngW,if_neg c];exact g3,g4,λi h4 h5=>?_⟩
   by_cases d:i=k
   ·rw[d];exact c
   ·exact g5 i (by omega) h5
theorem fail_end {ws:List (List Int)}{mu:List Int->Int}{bd:List Int->Bool}(h:WS ws){s:Nat}(h1:1<=s)(hs:s<ws.length):∃j,1<=j/\j<=(wd ws s).length/\wd ws (failOf (autoOf ws mu bd) ws.length s)=(wd ws s).drop j/\∀i,1<=i->i<j->¬inW ws ((wd ws s).drop i):=by
 have hne:=h.ne h1 hs
 have hl:0<(wd ws s).length:=List.length_pos_iff.2 hne
 have hF:=auto_fail (mu:=mu) (bd:=bd) h h1 hs
 obtain⟨z,hz,ez⟩:=h.nil
 obtain⟨j,g1,g2,g3,g4,g5⟩:=lng_least (ws:=ws) (x:=wd ws s) ((wd ws s).length+1-1) 1 ⟨(wd ws s).length,by omega,by omega,by rw[List.drop_length,st_at h.asc hz ez];omega⟩
 obtain⟨t,t1,t2,t3⟩:=st_inv g4
 have e1:LW ws (wd ws s) 1=t:=by unfold LW;rw[g3,t2]
 rw[hF.1] at e1
 have e2:failOf (autoOf ws mu bd) ws.length s=t:=by omega
 refine⟨j,g1,by omega,by rw[e2,t3],λi h3 h4 hin=>?_⟩
 obtain⟨q,hq,eq⟩:=hin
 have:=g5 i h3 h4
 rw[st_at h.asc hq eq] at this
 omega
theorem end_or {ws:List (List Int)}{x y q:List Int}{j:Nat}(hy:y=x.drop j)(hmin:∀i,1<=i->i<j->¬inW ws (x.drop i))(hq:inW ws q):q <:+ x↔q=x\/q <:+ y:=by
 constructor
 ·intro h
  obtain⟨p,hp⟩:=h
  by_cases c:p=[]
  ·left;rw[<-hp,c];rfl
  ·right
   have e:q=x.drop p.length:=by rw[<-hp];simp
   have hl:0<p.length:=List.length_pos_iff.2 c
   have hj:j<=p.length:=by
    rcases Nat.lt_or_ge p.length j with h1|h1
    ·exact absurd (e▸hq) (hmin p.length hl h1)
    ·exact h1
   rw[hy,e,show p.length=j+(p.length-j) by omega,<-List.drop_drop]
   exact List.drop_suffix _ _
 ·rintro(h|h)
  ·rw[h];exact List.suffix_refl _
  ·rw[hy] at h
   exact h.trans (List.drop_suffix _ _)
section
variable {rs:List Ru}{ws:List (List Int)}
theorem end_in (hg:rgB rs=true)(hm:∀y,inW ws y↔PW rs rs.length 1 y){j:Nat}(hj:j<rs.length):inW ws ((ratA rs j).seq.take (most (ratA rs j)))/\(ratA rs j).seq.take (most (ratA rs j))≠[]:=by
 have hr:=rg_at hg hj
 have h1:=most_pos hr.1
 refine⟨(hm _).2 (Or.inr (Or.inl ⟨j,hj,_,h1,Nat.le_refl _,rfl⟩)),λe=>?_⟩
 have:=congrArg List.length e
 rw[List.length_take,List.length_nil] at this
 omega
theorem must_step (hg:rgB rs=true)(hW:WS ws)(hm:∀y,inW ws y↔PW rs rs.length 1 y){mu:List Int->Int}{bd:List Int->Bool}{s:Nat}(h1:1<=s)(hs:s<ws.length):mustS rs (wd ws s)=jm (muK rs rs.length (wd ws s)) (mustS rs (wd ws (failOf (autoOf ws mu bd) ws.length s))):=by
 obtain⟨j,_,_,he,hmin⟩:=fail_end (mu:=mu) (bd:=bd) hW h1 hs
 refine(mustTo_is hg (Nat.le_refl _) _).uniq (((muK_is hg (Nat.le_refl _) (wd ws s)).join (mustTo_is hg (Nat.le_refl _) _)).congr λe=>?_)
 constructor
 ·rintro(⟨i,hi,ho,hy,he'⟩|⟨i,hi,ho,hy,he'⟩)
  ·exact⟨i,hi,ho,by rw[<-hy];exact List.suffix_refl _,he'⟩
  ·exact⟨i,hi,ho,(end_or he hmin (end_in hg hm hi).1).2 (Or.inr hy),he'⟩
 ·rintro⟨i,hi,ho,hy,he'⟩
  rcases (end_or he hmin (end_in hg hm hi).1).1 hy with h|h
  ·exact Or.inl ⟨i,hi,ho,h.symm,he'⟩
  ·exact Or.inr ⟨i,hi,ho,h,he'⟩
theorem bad_step (hg:rgB rs=true)(hW:WS ws)(hm:∀y,inW ws y↔PW rs rs.length 1 y){mu:List Int->Int}{bd:List Int->Bool}{s:Nat}(h1:1<=s)(hs:s<ws.length):badS rs (wd ws s)=(bdK rs rs.length (wd ws s)||badS rs (wd ws (failOf (autoOf ws mu bd) ws.length s))):=by
 obtain⟨j,_,_,he,hmin⟩:=fail_end (mu:=mu) (bd:=bd) hW h1 hs
 rw[Bool.eq_iff_iff,Bool.or_eq_true,bad_iff,bdK_iff,bad_iff]
 constructor
 ·rintro⟨i,hi,ho,hy⟩
  rcases (end_or he hmin (end_in hg hm hi).1).1 hy with h|h
  ·exact Or.inl ⟨i,hi,ho,h.symm⟩
  ·exact Or.inr ⟨i,hi,ho,h⟩
 ·rintro(⟨i,hi,ho,hy⟩|⟨i,hi,ho,hy⟩)
  ·exact⟨i,hi,ho,by rw[<-hy];exact List.suffix_refl _⟩
  ·exact⟨i,hi,ho,(end_or he hmin (end_in hg hm hi).1).2 (Or.inr hy)⟩
theorem must_nil (hg:rgB rs=true)(hm:∀y,inW ws y↔PW rs rs.length 1 y):mustS rs []=-1/\muK rs rs.length []=-1:=by
 refine⟨(mustTo_is hg (Nat.le_refl _) _).uniq (MustIs.none.congr λe=>⟨λh=>h.elim,?_⟩),(muK_is hg (Nat.le_refl _) _).uniq (MustIs.none.congr λe=>⟨λh=>h.elim,?_⟩)⟩
 ·rintro⟨i,hi,ho,hy,_⟩
  exact(end_in hg hm hi).2 (List.suffix_nil.1 hy)
 ·rintro⟨i,hi,ho,hy,_⟩
  exact(end_in hg hm hi).2 hy.symm
theorem bad_nil (hg:rgB rs=true)(hm:∀y,inW ws y↔PW rs rs.length 1 y):badS rs []=false/\bdK rs rs.length []=false:=by
 constructor
 ·rw[<-Bool.not_eq_true,bad_iff]
  rintro⟨i,hi,ho,hy⟩
  exact(end_in hg hm hi).2 (List.suffix_nil.1 hy)
 ·rw[<-Bool.not_eq_true,bdK_iff]
  rintro⟨i,hi,ho,hy⟩
  exact(end_in hg hm hi).2 hy.symm
end
end Go.Proofs.YtdpfdkihbgmapaaGreat
