import Derived.Test.YtdpfdkihbgmapaaGreatDH
namespace Go.Proofs.YtdpfdkihbgmapaaGreat
open Go.RowKit Go.Sort
set_option linter.unusedVariables false
set_option maxRecDepth 1000000
set_option maxHeartbeats 16000000
theorem row_set {C t sz n b c i:Nat}{w:World}{xs:List Value}(h:w.ownsRow C t sz (.slice (some ⟨b,0,none⟩) n c) n xs)(v:Value):(w.setCell ⟨b,i,none⟩ v).ownsRow C t sz (.slice (some ⟨b,0,none⟩) n c) n (xs.set i v):=by
 obtain⟨h1,h2⟩:=h
 refine⟨by rw[List.length_set];exact h1,?_⟩
 rcases h2 with⟨h2,_⟩|⟨g,cap,cur,hv,hg,hh,hc,hm,hs,ht⟩
 ·cases h2
 ·simp only[Value.slice.injEq,Option.some.injEq,Addr.mk.injEq] at hv
  obtain⟨⟨rfl,_⟩,_,rfl⟩:=hv
  have hb:BT (w.setCell ⟨b,i,none⟩ v) b (cur.setIfInBounds i v) t:=BT.set (show BT w b cur t from hh) i v
  refine Or.inr ⟨b,c,cur.setIfInBounds i v,rfl,hg,hb,hc,hm,by rw[Array.size_setIfInBounds];exact hs,?_⟩
  rw[<-ht,Array.toList_setIfInBounds,List.take_set]
theorem OwnI.setAt {C n b c i:Nat}{w:World}{zs:List Int}(h:OwnI C w (.slice (some ⟨b,0,none⟩) n c) zs)(hn:zs.length=n)(z:Int):OwnI C (w.setCell ⟨b,i,none⟩ (.int .i64 z)) (.slice (some ⟨b,0,none⟩) n c) (zs.set i z):=by
 subst hn
 have k:=row_set (i:=i) h (.int .i64 z)
 show(w.setCell _ _).ownsRow C _ 1 _ (zs.set i z).length (icells (zs.set i z))
 rw[List.length_set]
 have e:icells (zs.set i z)=(icells zs).set i (.int .i64 z):=by unfold icells;rw[List.map_set]
 rw[e]
 exact k
theorem OwnI.open {C:Nat}{w:World}{v:Value}{zs:List Int}(h:OwnI C w v zs)(hp:0<zs.length):∃g c cs,v=.slice (some ⟨g,0,none⟩) zs.length c/\C<=g/\zs.length<=c/\BT w g cs 2/\∀i,i<zs.length->w.cell? ⟨g,i,none⟩=some (.int .i64 (iat zs i)):=by
 have h0:=h
 obtain⟨h1,h2⟩:=h
 rcases h2 with⟨_,h3⟩|⟨g,cap,cur,hv,hg,hh,hc,hm,hs,ht⟩
 ·omega
 ·refine⟨g,cap,cur,hv,hg,hc,hh,λi hi=>?_⟩
  have e:(cur.toList.take (zs.length*1))[i]?=(icells zs)[i]?:=by rw[ht]
  rw[List.getElem?_take_of_lt (by omega),Array.getElem?_toList,icells_at hi] at e
  have hh':w.heap[g]?=some (.cells cur 2 (0,0)):=hh
  unfold World.cell?
  simp[hh',e]
theorem OwnI.in {C g n c j:Nat}{w:World}{zs:List Int}(h:OwnI C w (.slice (some ⟨g,0,none⟩) n c) zs)(hj:j<zs.length):C<=g/\(∃cs,BT w g cs 2)/\w.cell? ⟨g,j,none⟩=some (.int .i64 (iat zs j)):=by
 obtain⟨g',c',cs,e,hg,-,hb,hc⟩:=h.open (by omega)
 simp only[Value.slice.injEq,Option.some.injEq,Addr.mk.injEq] at e
 obtain⟨⟨rfl,-⟩,-⟩:=e
 exact⟨hg,⟨cs,hb⟩,hc j hj⟩
def sqTo (c:Int)(S:Src):Nat->List Int×Src
 |0=>([],S)
 |k+1=>((sqTo c S k).1++[nv (sqTo c S k).2 c],ns (sqTo c S k).2 c)
theorem sqTo_len (c:Int)(S:Src):∀k,(sqTo c S k).1.length=k
 |0=>rfl
 |k+1=>by
  show((sqTo c S k).1++[_]).length=_
  rw[List.length_append,sqTo_len c S k]
  rfl
theorem sqTo_ok {c:Int}{S:Src}(h:SOk S):∀k,SOk (sqTo c S k).2
 |0=>h
 |k+1=>ns_ok (sqTo_ok h k) c
theorem sqTo_in {c:Int}{S:Src}(h:SOk S)(hc:1<=c):∀k,∀x∈(sqTo c S k).1,0<=x/\x<c
 |0,x,hx=>by simp[sqTo] at hx
 |k+1,x,hx=>by
  have hx':x∈(sqTo c S k).1++[nv (sqTo c S k).2 c]:=hx
  rcases List.mem_append.1 hx' with g|g
  ·exact sqTo_in h hc k x g
  ·have e:x=nv (sqTo c S k).2 c:=by simpa using g
   have:=nv_in (sqTo_ok (c:=c) h k) c
   rw[e]
   exact⟨this.1,this.2 hc⟩
theorem row_src {C D t sz n b:Nat}{w w':World}{v:Value}{xs:List Value}{S:Src}(h:w.ownsRow C t sz v n xs)(hS:HSrc D w b S)(hn:t≠66)(hc:Chg (Sx1 b) w w'):w'.ownsRow C t sz v n xs:=by
 obtain⟨u,hb,-⟩:=hS
 exact row_chg h hc (λg hg e=>by
  have e':g=b:=e
  subst e'
  exact hb.neRow h (λq=>hn q.symm) hg.symm)
theorem l3DrawSeq_any (D b:Nat)(S:Src)(n:Nat)(c:Int)(w:World)(hS:HSrc D w b S)(hok:SOk S)(hn:n<=1000)(hc:c<=1000) :
  Calls Tryz.prog 48 #[.pointer (some ⟨b,0,none⟩),.int .i64 n,.int .i64 c] w λe w'=>(∃a c',e=.returned (.slice a n c')/\OwnI w.heap.size w' (.slice a n c') (sqTo c S n).1)/\HSrc D w' b (sqTo c S n).2/\Chg (Sx1 b) w w':=by
 have HS0:Hid (HSrc D w b S):=hS
 have HOK:Hid (SOk S):=hok
 have HO0:Hid (OwnI w.heap.size (w.alloc (.cells #[] 2)) (.slice (some ⟨w.heap.size,0,none⟩) 0 0) []):=ownI_none _ _ (Nat.le_refl _)
 clear hS hok
 go_enter Tryz.func48,Tryz.ntmps48
 go_wp2
 go_loopw [7,8] (λs7 s8 wr=>∃(k c1:Nat) (a:Option Addr),k<=n/\s8=.int .i64 k/\s7=.slice a k c1/\Hid (OwnI w.heap.size wr (.slice a k c1) (sqTo c S k).1)/\Hid (HSrc D wr b (sqTo c S k).2)/\Hid (Chg (Sx1 b) w wr)) (λ_ i _=>n-(intOf i).toNat)
 case atStart=>exact⟨0,0,_,Nat.zero_le _,rfl,rfl,HO0,HS0.out.next (box1 _ _),Chg.nx (box1 _ _)⟩
 obtain⟨k,c1,a,hk,rfl,rfl,HO,HS,HC⟩:=hrel
 by_cases hlt:k<n
 ·have hlt':(k:Int)<n:=by omega
  have HK:=mkHid' (sqTo_ok (c:=c) HOK.out k)
  have HN:Hid ((sqTo c S (k+1)).1=(sqTo c S k).1++[nv (sqTo c S k).2 c]):=rfl
  have HN2:Hid ((sqTo c S (k+1)).2=ns (sqTo c S k).2 c):=rfl
  have HL:=mkHid' (sqTo_len c S k)
  generalize (sqTo c S k).1=L0 at *
  generalize (sqTo c S k).2=S0 at *
  have hz:w.heap.size<=wr.heap.size:=HC.out.size
  go_wp2_with fail
  refine(l1Next_any D b S0 c _ HS.out HK.out (by omega)).mono ?_
  rintro e w1 ⟨rfl,hs1,hc1⟩
  have HO1:Hid (OwnI w.heap.size w1 (.slice a k c1) L0):=row_src HO.out HS.out (by decide) hc1
  have HS1:Hid (HSrc D w1 b (ns S0 c)):=hs1
  have HC1:Hid (Chg (Sx1 b) w w1):=HC.out.trans hc1
  have hz1:w.heap.size<=w1.heap.size:=HC1.out.size
  clear hs1 hc1
  generalize nv S0 c=z at *
  go_wp2_with (at_builtin;refine app_int rfl _ _ rfl w.heap.size k (.slice a k c1) L0 z w1 rfl HO1.out rfl HL.out (by omega) hz1 ?_)
  intro a1 c2 w2 r1 r2 r3
  have HO2:Hid (OwnI w.heap.size w2 (.slice a1 (k+1) c2) (sqTo c S (k+1)).1):=by unfold Hid;rw[HN.out];exact r1
  have HS2:Hid (HSrc D w2 b (sqTo c S (k+1)).2):=by unfold Hid;rw[HN2.out];exact HS1.out.row HO1.out (by decide) (by decide) r2
  have HC2:Hid (Chg (Sx1 b) w w2):=HC1.out.young r2 (λx hx hl=>by have:=(own_lt HO1.out x hx.symm).1;omega)
  clear r1 r2 r3
  go_wp2
  go_roundw
  case rel=>exact⟨k+1,c2,a1,by omega,by go_num,rfl,HO2,HS2,HC2⟩
  case measure=>simp[intOf];omega
 have hkn:k=n:=by omega
 subst hkn
 go_wp2
 go_ret
 exact⟨⟨_,_,rfl,HO.out⟩,HS.out,HC.out⟩
theorem OwnR.put {C D:Nat}{w w':World}{v v' u:Value}{xs:List Ru}{x:Ru}{vs:List Value}(h0:LnA vs xs.length)(h1:w.ownsRow C 36 3 v xs.length (rcells xs vs))(h2:∀i,i<xs.length->OwnI D w (vat vs i) (ruat xs i).seq)
  (hu:OwnI D w u x.seq) (hnw:∀i g,i<xs.length->(vat vs i).ownBlock=some g->u.ownBlock≠some g) (hc:Chg (λy=>some y=v.ownBlock) w w') (hn:w'.ownsRow C 36 3 v' (xs.length+1) (rcells xs vs++[.int .i64 x.rel,.bool x.only,u])):OwnR C D w' v' (xs++[x]):=by
 have hl:=h0.l
 have kept:∀{z:Value}{zs:List Int},OwnI D w z zs->OwnI D w' z zs:=λ{z zs} hz=>row_chg hz hc (λg hg=>row_ne hz h1 (by decide) hg)
 refine⟨vs++[u],h0.snoc (by simp) hnw,by rw[List.length_append,rcells_snoc hl];exact hn,λi hi=>?_⟩
 rw[List.length_append,List.length_singleton] at hi
 by_cases e:i<xs.length
 ·rw[ruat_snoc e]
  have:vat (vs++[u]) i=vat vs i:=by simp[vat,List.getD,List.getElem?_append_left (show i<vs.length by omega)]
  rw[this]
  exact kept (h2 i e)
 ·have e':i=xs.length:=by omega
  rw[ruat_end e']
  have:vat (vs++[u]) i=u:=by rw[e',<-hl];simp[vat,List.getD]
  rw[this]
  exact kept hu
theorem app_rule {ops:Array Oper}{rest:List Oper}{o:Oper}{a:Act}{Q:Exit->Act->World->Prop}(hgd:o.guard=none)(s x:Operand)(ho:o.op=.call { callee:=.builtin .append,args:=#[s,x],argTypes:=#[23,23] })
  (C D Z n:Nat) (v:Value) (xs:List Ru) (y:Ru) (u:Value) (w0:World) (hs:a.eval s=v) (hown:OwnRb C D Z w0 v xs) (hu:OwnI D w0 u y.seq) (hub:∀g,u.ownBlock=some g->Z<=g) (hx:a.eval x=.slice (some ⟨w0.heap.size,0,none⟩) 1 1) (hn:xs.length=n) (hm:n<=1000000) (hC:C<=w0.heap.size)
  (h:∀a' c' w',OwnR C D w' (.slice a' (n+1) c') (xs++[y])->Chg (λx=>some x=v.ownBlock) w0 w'->wpList Tryz.prog ops Q rest (a.put o.dst (.slice a' (n+1) c')) w') :
  wpList Tryz.prog ops Q (o::rest) a (w0.alloc (.cells #[.int .i64 y.rel,.bool y.only,u] 36)):=by
 subst hn
 obtain⟨vs,h0,h1,h2⟩:=hown
 obtain⟨ua,uc,eu⟩:=hu.slice
 have h1c:∀z∈[Value.int .i64 y.rel,.bool y.only,u],z.oneCell'=true:=by
  intro z hz
  simp at hz
  rcases hz with e|e|e
  ·rw[e];rfl
  ·rw[e];rfl
  ·rw[e,eu];rfl
 refine app_row infoRule Tryz.underlying23 rfl (by decide) (by decide) hgd s x ho C xs.length v (rcells xs vs) [.int .i64 y.rel,.bool y.only,u] w0 hs h1 hx rfl h1c hm hC (λa' c' w' r1 r2 r3=>h a' c' w' ?_ r2)
 exact OwnR.put h0.1 h1 h2 hu (λi g hi e e'=>by have q1:=h0.2 i g hi e;have q2:=hub g e';omega) r2 r1
def bkSz (i:Nat):Nat:=if i<4 then 402 else 391
def bkHv (k:Nat):Nat:=if k<=4 then 1+402*k else 2000
def bkQ (i:Nat):Nat->List Int
 |0=>[(i:Int)]
 |k+1=>bkQ i k++[1000+((i:Int)+((k:Int)+1)).tmod 7]
theorem bkQ_len (i:Nat):∀k,(bkQ i k).length=k+1
 |0=>rfl
 |k+1=>by
  show(bkQ i k++[_]).length=_
  rw[List.length_append,bkQ_len i k]
  rfl
def bkR (k:Nat):List Ru:=(List.range k).map λ(i:Nat)=>⟨(i:Int),false,bkQ i (bkSz i-1)⟩
theorem bkR_succ (k:Nat):bkR (k+1)=bkR k++[⟨(k:Int),false,bkQ k (bkSz k-1)⟩]:=by unfold bkR;rw[List.range_succ,List.map_append];rfl
theorem bkR_len (k:Nat):(bkR k).length=k:=by unfold bkR;simp
def lenV:Value->Int
 |.slice _ n _=>n
 |_=>0
theorem ownR_none (w:World):OwnR w.heap.size w.heap.size (w.alloc (.cells #[] 36)) (.slice (some ⟨w.heap.size,0,none⟩) 0 0) []:=
 ⟨[],⟨rfl,λi j g _ hj=>absurd hj (Nat.not_lt_zero _)⟩,⟨rfl,.inr ⟨w.heap.size,0,#[],rfl,Nat.le_refl _,by show(w.heap.push _)[w.heap.size]?=_;simp,Nat.le_refl _,by simp[maxLen],by simp,by simp[rcells]⟩⟩,λi hi=>absurd hi (Nat.not_lt_zero _)⟩
theorem l3Bulk_any (w:World) :
  Calls Tryz.prog 28 #[.int .i64 2000] w λe w'=>(∃v,e=.returned v/\OwnR w.heap.size w.heap.size w' v (bkR 5))/\Nx w w':=by
 have HO0:=mkHid' (ownR_none w)
 go_enter Tryz.func28,Tryz.ntmps28
 go_wp2
 go_loopw [3,4,5] (λs3 s4 s5 wr=>∃(k c1:Nat) (a:Option Addr),k<=5/\s4=.int .i64 (bkHv k:Int)/\s5=.int .i64 k/\s3=.slice a k c1/\Hid (OwnR w.heap.size w.heap.size wr (.slice a k c1) (bkR k))/\Hid (Nx w wr)) (λ_ _ i _=>5-(intOf i).toNat)
 case atStart=>exact⟨0,0,_,by omega,rfl,rfl,rfl,HO0,box1 _ _⟩
 clear HO0
 obtain⟨k,c1,a,hk,rfl,rfl,rfl,HR,HX⟩:=hrel
 generalize wr=wo at *
 by_cases h4:k<4
 ·
  have hh:(bkHv k:Int)=1+402*(k:Int):=by unfold bkHv;rw[if_pos (by omega)];omega
  have hn:(bkHv (k+1):Int)=1+402*(k:Int)+402:=by unfold bkHv;rw[if_pos (by omega)];omega
  have HSZ:Hid (bkSz k=402):=if_pos h4
  have HHN:Hid ((bkHv (k+1):Int)=1+402*(k:Int)+402):=hn
  rw[hh]
  have d1:decide (1+402*(k:Int)<2000)=true:=by simp;omega
  have d2:decide (2000-(1+402*(k:Int))<404)=false:=by simp;omega
  have hz:w.heap.size<=wo.heap.size:=HX.out.size
  have HR0:Hid (bkR (k+1)=bkR k++[⟨k,false,bkQ k (bkSz k-1)⟩]):=bkR_succ k
  clear hn hh
  have HO0:Hid (OwnI wo.heap.size (wo.alloc (.cells #[.int .i64 (k:Int)] 2)) (.slice (some ⟨wo.heap.size,0,none⟩) 1 1) (bkQ k 0)):=ownI_one _ _ _ (Nat.le_refl _)
  go_wp2
  go_loopw [7] (λs7 wr=>∃(j c2:Nat) (a2:Option Addr),j+1<=402/\s7=.slice a2 (j+1) c2/\Hid (OwnI wo.heap.size wr (.slice a2 (j+1) c2) (bkQ k j))/\Hid (Nx wo wr)) (λs7 _=>402-(lenV s7).toNat)
  case atStart=>exact⟨0,1,_,by omega,rfl,HO0,box1 _ _⟩
  obtain⟨j,c2,a2,hj,rfl,HO,HXi⟩:=hrel
  by_cases hjl:j+1<402
  ·have HLq:=mkHid' (bkQ_len k j)
   have HQ:Hid (bkQ k (j+1)=bkQ k j++[1000+((k:Int)+((j:Int)+1)).tmod 7]):=rfl
   have hzi:wo.heap.size<=wr.heap.size:=HXi.out.size
   go_wp2_with (at_builtin;refine app_int rfl _ _ rfl wo.heap.size (j+1) (.slice a2 (j+1) c2) (bkQ k j) (1000+((k:Int)+((j:Int)+1)).tmod 7) wr rfl HO.out rfl HLq.out (by omega) hzi ?_)
   intro a3 c3 w3 r1 r2 r3
   have HO3:Hid (OwnI wo.heap.size w3 (.slice a3 (j+1+1) c3) (bkQ k (j+1))):=by unfold Hid;rw[HQ.out];exact r1
   have HX3:Hid (Nx wo w3):=Below.trans HXi.out (r2.below HXi.out.size (λx hx=>(own_lt HO.out x hx.symm).1))
   clear r1 r2 r3
   go_wp2
   go_roundw
   case rel=>exact⟨j+1,c3,a3,by omega,rfl,HO3,HX3⟩
   case measure=>simp[lenV];omega
  have ej:j=401:=by omega
  subst ej
  have HU:Hid (OwnI w.heap.size wr (.slice a2 (401+1) c2) (⟨k,false,bkQ k (bkSz k-1)⟩:Ru).seq):=by unfold Hid;rw[HSZ.out];exact HO.out.base hz
  have HRi:Hid (OwnRb w.heap.size w.heap.size wo.heap.size wr (.slice a k c1) (bkR k)):=(HR.out.zb (Nat.le_refl _)).next HXi.out
  have HUB:=mkHid' (λg e=>(own_lt HO.out g e).1)
  have HXw:Hid (Nx w wr):=HX.out.trans HXi.out
  have hzi:w.heap.size<=wr.heap.size:=HXw.out.size
  go_wp2_with (at_builtin;refine app_rule rfl _ _ rfl w.heap.size w.heap.size wo.heap.size k (.slice a k c1) (bkR k) ⟨k,false,bkQ k (bkSz k-1)⟩ (.slice a2 (401+1) c2) wr rfl HRi.out HU.out HUB.out rfl (bkR_len k) (by omega) hzi ?_)
  intro a4 c4 w4 r1 r2
  have HR4:Hid (OwnR w.heap.size w.heap.size w4 (.slice a4 (k+1) c4) (bkR (k+1))):=by unfold Hid;rw[HR0.out];exact r1
  have HX4:Hid (Nx w w4):=by
   obtain⟨vs,-,h2,-⟩:=HRi.out
   exact Below.trans HXw.out (r2.below HXw.out.size (λx hx=>(own_lt h2 x hx.symm).1))
  clear r1 r2
  go_wp2
  go_roundw
  case rel=>exact⟨k+1,c4,a4,by omega,congrArg (Value.int .i64) (by have:=HHN.out;omega),by go_num,rfl,HR4,HX4⟩
  case measure=>simp[intOf];omega
 by_cases h5:k<5
 ·
  have hh:(bkHv k:Int)=1609:=by have e4:k=4:=by omega
                                subst e4;rfl
  have hn:(bkHv (k+1):Int)=1609+391:=by have e4:k=4:=by omega
                                        subst e4;rfl
  have HSZ:Hid (bkSz k=391):=if_neg h4
  have HHN:Hid ((bkHv (k+1):Int)=1609+391):=hn
  rw[hh]
  have hz:w.heap.size<=wo.heap.size:=HX.out.size
  have HR0:Hid (bkR (k+1)=bkR k++[⟨k,false,bkQ k (bkSz k-1)⟩]):=bkR_succ k
  clear hn hh
  have HO0:Hid (OwnI wo.heap.size (wo.alloc (.cells #[.int .i64 (k:Int)] 2)) (.slice (some ⟨wo.heap.size,0,none⟩) 1 1) (bkQ k 0)):=ownI_one _ _ _ (Nat.le_refl _)
  go_wp2
  go_loopw [7] (λs7 wr=>∃(j c2:Nat) (a2:Option Addr),j+1<=391/\s7=.slice a2 (j+1) c2/\Hid (OwnI wo.heap.size wr (.slice a2 (j+1) c2) (bkQ k j))/\Hid (Nx wo wr)) (λs7 _=>391-(lenV s7).toNat)
  case atStart=>exact⟨0,1,_,by omega,rfl,HO0,box1 _ _⟩
  obtain⟨j,c2,a2,hj,rfl,HO,HXi⟩:=hrel
  by_cases hjl:j+1<391
  ·have HLq:=mkHid' (bkQ_len k j)
   have HQ:Hid (bkQ k (j+1)=bkQ k j++[1000+((k:Int)+((j:Int)+1)).tmod 7]):=rfl
   have hzi:wo.heap.size<=wr.heap.size:=HXi.out.size
   go_wp2_with (at_builtin;refine app_int rfl _ _ rfl wo.heap.size (j+1) (.slice a2 (j+1) c2) (bkQ k j) (1000+((k:Int)+((j:Int)+1)).tmod 7) wr rfl HO.out rfl HLq.out (by omega) hzi ?_)
   intro a3 c3 w3 r1 r2 r3
   have HO3:Hid (OwnI wo.heap.size w3 (.slice a3 (j+1+1) c3) (bkQ k (j+1))):=by unfold Hid;rw[HQ.out];exact r1
   have HX3:Hid (Nx wo w3):=Below.trans HXi.out (r2.below HXi.out.size (λx hx=>(own_lt HO.out x hx.symm).1))
   clear r1 r2 r3
   go_wp2
   go_roundw
   case rel=>exact⟨j+1,c3,a3,by omega,rfl,HO3,HX3⟩
   case measure=>simp[lenV];omega
  have ej:j=390:=by omega
  subst ej
  have HU:Hid (OwnI w.heap.size wr (.slice a2 (390+1) c2) (⟨k,false,bkQ k (bkSz k-1)⟩:Ru).seq):=by unfold Hid;rw[HSZ.out];exact HO.out.base hz
  have HRi:Hid (OwnRb w.heap.size w.heap.size wo.heap.size wr (.slice a k c1) (bkR k)):=(HR.out.zb (Nat.le_refl _)).next HXi.out
  have HUB:=mkHid' (λg e=>(own_lt HO.out g e).1)
  have HXw:Hid (Nx w wr):=HX.out.trans HXi.out
  have hzi:w.heap.size<=wr.heap.size:=HXw.out.size
  go_wp2_with (at_builtin;refine app_rule rfl _ _ rfl w.heap.size w.heap.size wo.heap.size k (.slice a k c1) (bkR k) ⟨k,false,bkQ k (bkSz k-1)⟩ (.slice a2 (390+1) c2) wr rfl HRi.out HU.out HUB.out rfl (bkR_len k) (by omega) hzi ?_)
  intro a4 c4 w4 r1 r2
  have HR4:Hid (OwnR w.heap.size w.heap.size w4 (.slice a4 (k+1) c4) (bkR (k+1))):=by unfold Hid;rw[HR0.out];exact r1
  have HX4:Hid (Nx w w4):=by
   obtain⟨vs,-,h2,-⟩:=HRi.out
   exact Below.trans HXw.out (r2.below HXw.out.size (λx hx=>(own_lt h2 x hx.symm).1))
  clear r1 r2
  go_wp2
  go_roundw
  case rel=>exact⟨k+1,c4,a4,by omega,congrArg (Value.int .i64) (by have:=HHN.out;omega),by go_num,rfl,HR4,HX4⟩
  case measure=>simp[intOf];omega
 have e5:k=5:=by omega
 subst e5
 have e6:(bkHv 5:Int)=2000:=rfl
 rw[e6]
 go_wp2
 go_ret
 exact⟨⟨_,rfl,HR.out⟩,HX.out⟩
def bjSz (i:Nat):Nat:=if i<4 then 402 else 392
def bjHv (k:Nat):Nat:=if k<=4 then 1+402*k else 2001
def bjR (k:Nat):List Ru:=(List.range k).map λ(i:Nat)=>⟨(i:Int),false,bkQ i (bjSz i-1)⟩
theorem bjR_succ (k:Nat):bjR (k+1)=bjR k++[⟨(k:Int),false,bkQ k (bjSz k-1)⟩]:=by unfold bjR;rw[List.range_succ,List.map_append];rfl
theorem bjR_len (k:Nat):(bjR k).length=k:=by unfold bjR;simp
theorem l3Bulk1_any (w:World) :
  Calls Tryz.prog 28 #[.int .i64 2001] w λe w'=>(∃v,e=.returned v/\OwnR w.heap.size w.heap.size w' v (bjR 5))/\Nx w w':=by
 have HO0:=mkHid' (ownR_none w)
 go_enter Tryz.func28,Tryz.ntmps28
 go_wp2
 go_loopw [3,4,5] (λs3 s4 s5 wr=>∃(k c1:Nat) (a:Option Addr),k<=5/\s4=.int .i64 (bjHv k:Int)/\s5=.int .i64 k/\s3=.slice a k c1/\Hid (OwnR w.heap.size w.heap.size wr (.slice a k c1) (bjR k))/\Hid (Nx w wr)) (λ_ _ i _=>5-(intOf i).toNat)
 case atStart=>exact⟨0,0,_,by omega,rfl,rfl,rfl,HO0,box1 _ _⟩
 clear HO0
 obtain⟨k,c1,a,hk,rfl,rfl,rfl,HR,HX⟩:=hrel
 generalize wr=wo at *
 by_cases h4:k<4
 ·
  have hh:(bjHv k:Int)=1+402*(k:Int):=by unfold bjHv;rw[if_pos (by omega)];omega
  have hn:(bjHv (k+1):Int)=1+402*(k:Int)+402:=by unfold bjHv;rw[if_pos (by omega)];omega
  have HSZ:Hid (bjSz k=402):=if_pos h4
  have HHN:Hid ((bjHv (k+1):Int)=1+402*(k:Int)+402):=hn
  rw[hh]
  have d1:decide (1+402*(k:Int)<2001)=true:=by simp;omega
  have d2:decide (2001-(1+402*(k:Int))<404)=false:=by simp;omega
  have hz:w.heap.size<=wo.heap.size:=HX.out.size
  have HR0:Hid (bjR (k+1)=bjR k++[⟨k,false,bkQ k (bjSz k-1)⟩]):=bjR_succ k
  clear hn hh
  have HO0:Hid (OwnI wo.heap.size (wo.alloc (.cells #[.int .i64 (k:Int)] 2)) (.slice (some ⟨wo.heap.size,0,none⟩) 1 1) (bkQ k 0)):=ownI_one _ _ _ (Nat.le_refl _)
  go_wp2
  go_loopw [7] (λs7 wr=>∃(j c2:Nat) (a2:Option Addr),j+1<=402/\s7=.slice a2 (j+1) c2/\Hid (OwnI wo.heap.size wr (.slice a2 (j+1) c2) (bkQ k j))/\Hid (Nx wo wr)) (λs7 _=>402-(lenV s7).toNat)
  case atStart=>exact⟨0,1,_,by omega,rfl,HO0,box1 _ _⟩
  obtain⟨j,c2,a2,hj,rfl,HO,HXi⟩:=hrel
  by_cases hjl:j+1<402
  ·have HLq:=mkHid' (bkQ_len k j)
   have HQ:Hid (bkQ k (j+1)=bkQ k j++[1000+((k:Int)+((j:Int)+1)).tmod 7]):=rfl
   have hzi:wo.heap.size<=wr.heap.size:=HXi.out.size
   go_wp2_with (at_builtin;refine app_int rfl _ _ rfl wo.heap.size (j+1) (.slice a2 (j+1) c2) (bkQ k j) (1000+((k:Int)+((j:Int)+1)).tmod 7) wr rfl HO.out rfl HLq.out (by omega) hzi ?_)
   intro a3 c3 w3 r1 r2 r3
   have HO3:Hid (OwnI wo.heap.size w3 (.slice a3 (j+1+1) c3) (bkQ k (j+1))):=by unfold Hid;rw[HQ.out];exact r1
   have HX3:Hid (Nx wo w3):=Below.trans HXi.out (r2.below HXi.out.size (λx hx=>(own_lt HO.out x hx.symm).1))
   clear r1 r2 r3
   go_wp2
   go_roundw
   case rel=>exact⟨j+1,c3,a3,by omega,rfl,HO3,HX3⟩
   case measure=>simp[lenV];omega
  have ej:j=401:=by omega
  subst ej
  have HU:Hid (OwnI w.heap.size wr (.slice a2 (401+1) c2) (⟨k,false,bkQ k (bjSz k-1)⟩:Ru).seq):=by unfold Hid;rw[HSZ.out];exact HO.out.base hz
  have HRi:Hid (OwnRb w.heap.size w.heap.size wo.heap.size wr (.slice a k c1) (bjR k)):=(HR.out.zb (Nat.le_refl _)).next HXi.out
  have HUB:=mkHid' (λg e=>(own_lt HO.out g e).1)
  have HXw:Hid (Nx w wr):=HX.out.trans HXi.out
  have hzi:w.heap.size<=wr.heap.size:=HXw.out.size
  go_wp2_with (at_builtin;refine app_rule rfl _ _ rfl w.heap.size w.heap.size wo.heap.size k (.slice a k c1) (bjR k) ⟨k,false,bkQ k (bjSz k-1)⟩ (.slice a2 (401+1) c2) wr rfl HRi.out HU.out HUB.out rfl (bjR_len k) (by omega) hzi ?_)
  intro a4 c4 w4 r1 r2
  have HR4:Hid (OwnR w.heap.size w.heap.size w4 (.slice a4 (k+1) c4) (bjR (k+1))):=by unfold Hid;rw[HR0.out];exact r1
  have HX4:Hid (Nx w w4):=by
   obtain⟨vs,-,h2,-⟩:=HRi.out
   exact Below.trans HXw.out (r2.below HXw.out.size (λx hx=>(own_lt h2 x hx.symm).1))
  clear r1 r2
  go_wp2
  go_roundw
  case rel=>exact⟨k+1,c4,a4,by omega,congrArg (Value.int .i64) (by have:=HHN.out;omega),by go_num,rfl,HR4,HX4⟩
  case measure=>simp[intOf];omega
 by_cases h5:k<5
 ·
  have hh:(bjHv k:Int)=1609:=by have e4:k=4:=by omega
                                subst e4;rfl
  have hn:(bjHv (k+1):Int)=1609+392:=by have e4:k=4:=by omega
                                        subst e4;rfl
  have HSZ:Hid (bjSz k=392):=if_neg h4
  have HHN:Hid ((bjHv (k+1):Int)=1609+392):=hn
  rw[hh]
  have hz:w.heap.size<=wo.heap.size:=HX.out.size
  have HR0:Hid (bjR (k+1)=bjR k++[⟨k,false,bkQ k (bjSz k-1)⟩]):=bjR_succ k
  clear hn hh
  have HO0:Hid (OwnI wo.heap.size (wo.alloc (.cells #[.int .i64 (k:Int)] 2)) (.slice (some ⟨wo.heap.size,0,none⟩) 1 1) (bkQ k 0)):=ownI_one _ _ _ (Nat.le_refl _)
  go_wp2
  go_loopw [7] (λs7 wr=>∃(j c2:Nat) (a2:Option Addr),j+1<=392/\s7=.slice a2 (j+1) c2/\Hid (OwnI wo.heap.size wr (.slice a2 (j+1) c2) (bkQ k j))/\Hid (Nx wo wr)) (λs7 _=>392-(lenV s7).toNat)
  case atStart=>exact⟨0,1,_,by omega,rfl,HO0,box1 _ _⟩
  obtain⟨j,c2,a2,hj,rfl,HO,HXi⟩:=hrel
  by_cases hjl:j+1<392
  ·have HLq:=mkHid' (bkQ_len k j)
   have HQ:Hid (bkQ k (j+1)=bkQ k j++[1000+((k:Int)+((j:Int)+1)).tmod 7]):=rfl
   have hzi:wo.heap.size<=wr.heap.size:=HXi.out.size
   go_wp2_with (at_builtin;refine app_int rfl _ _ rfl wo.heap.size (j+1) (.slice a2 (j+1) c2) (bkQ k j) (1000+((k:Int)+((j:Int)+1)).tmod 7) wr rfl HO.out rfl HLq.out (by omega) hzi ?_)
   intro a3 c3 w3 r1 r2 r3
   have HO3:Hid (OwnI wo.heap.size w3 (.slice a3 (j+1+1) c3) (bkQ k (j+1))):=by unfold Hid;rw[HQ.out];exact r1
   have HX3:Hid (Nx wo w3):=Below.trans HXi.out (r2.below HXi.out.size (λx hx=>(own_lt HO.out x hx.symm).1))
   clear r1 r2 r3
   go_wp2
   go_roundw
   case rel=>exact⟨j+1,c3,a3,by omega,rfl,HO3,HX3⟩
   case measure=>simp[lenV];omega
  have ej:j=391:=by omega
  subst ej
  have HU:Hid (OwnI w.heap.size wr (.slice a2 (391+1) c2) (⟨k,false,bkQ k (bjSz k-1)⟩:Ru).seq):=by unfold Hid;rw[HSZ.out];exact HO.out.base hz
  have HRi:Hid (OwnRb w.heap.size w.heap.size wo.heap.size wr (.slice a k c1) (bjR k)):=(HR.out.zb (Nat.le_refl _)).next HXi.out
  have HUB:=mkHid' (λg e=>(own_lt HO.out g e).1)
  have HXw:Hid (Nx w wr):=HX.out.trans HXi.out
  have hzi:w.heap.size<=wr.heap.size:=HXw.out.size
  go_wp2_with (at_builtin;refine app_rule rfl _ _ rfl w.heap.size w.heap.size wo.heap.size k (.slice a k c1) (bjR k) ⟨k,false,bkQ k (bjSz k-1)⟩ (.slice a2 (391+1) c2) wr rfl HRi.out HU.out HUB.out rfl (bjR_len k) (by omega) hzi ?_)
  intro a4 c4 w4 r1 r2
  have HR4:Hid (OwnR w.heap.size w.heap.size w4 (.slice a4 (k+1) c4) (bjR (k+1))):=by unfold Hid;rw[HR0.out];exact r1
  have HX4:Hid (Nx w w4):=by
   obtain⟨vs,-,h2,-⟩:=HRi.out
   exact Below.trans HXw.out (r2.below HXw.out.size (λx hx=>(own_lt h2 x hx.symm).1))
  clear r1 r2
  go_wp2
  go_roundw
  case rel=>exact⟨k+1,c4,a4,by omega,congrArg (Value.int .i64) (by have:=HHN.out;omega),by go_num,rfl,HR4,HX4⟩
  case measure=>simp[intOf];omega
 have e5:k=5:=by omega
 subst e5
 have e6:(bjHv 5:Int)=2001:=rfl
 rw[e6]
 go_wp2
 go_ret
 exact⟨⟨_,rfl,HR.out⟩,HX.out⟩
end Go.Proofs.YtdpfdkihbgmapaaGreat
