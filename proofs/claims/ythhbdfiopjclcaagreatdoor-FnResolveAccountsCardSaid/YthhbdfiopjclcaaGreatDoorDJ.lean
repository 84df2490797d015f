import Derived.Test.YthhbdfiopjclcaaGreatDoorDH
import Derived.Test.YthhbdfiopjclcaaGreatDoorKJ
import Derived.Test.YthhbdfiopjclcaaGreatDoorKN
namespace Go.Proofs.YthhbdfiopjclcaaGreatDoor
open Go.RowKit Go.Sort
set_option linter.unusedVariables false
set_option maxRecDepth 1000000
set_option maxHeartbeats 16000000
def HBy (B:Nat)(w:World)(v:Value)(bs:List UInt8):Prop:=Jz B w v bs.length λb off i=>w.cell? ⟨b,off+i,none⟩=some (.int .u8 (Xa bs i))
def mixTo (c:List UInt8)(m:Int):Nat->Int
 |0=>m
 |k+1=>(mixTo c m k*257+Xa c k+1)%1000003
def srcOf (code:List UInt8):Src:=⟨code.take 4000,0,mixTo (code.take 4000) ((code.length:Int)%1000+17) (code.take 4000).length,if 8<1+((code.take 4000).length:Int)/40 then 8 else 1+((code.take 4000).length:Int)/40⟩
theorem mixTo_in (c:List UInt8){m:Int}(h:0<=m/\m<1000003):∀k,0<=mixTo c m k/\mixTo c m k<1000003
 |0=>h
 |k+1=>⟨Int.emod_nonneg _ (by omega),Int.emod_lt_of_pos _ (by omega)⟩
theorem srcOf_ok (code:List UInt8):SOk (srcOf code):=by
 refine⟨?_,?_,?_⟩
 ·show(code.take 4000).length<=4000
  simp;omega
 ·exact mixTo_in _ (by omega) _
 ·unfold srcOf
  simp only
  split<;>omega
theorem Chg.cellAt {T:Nat->Prop}{w w':World}{b o:Nat}(h:Chg T w w')(hb:b<w.heap.size)(hn:¬T b):w'.cell? ⟨b,o,none⟩=w.cell? ⟨b,o,none⟩:=by
 have:=h.block b hb hn
 unfold World.cell?
 simp only[this]
def pickB (es:List Eg)(node:Int)(out:Bool)(e:Nat):Bool:=if out then (eat es e).tail==node else (eat es e).head==node
def Jf (es:List Eg)(node:Int)(out:Bool):Nat->List Int
 |0=>[]
 |k+1=>if pickB es node out k then Jf es node out k++[(k:Int)] else Jf es node out k
def pkV (es:List Eg)(node:Int)(out:Bool)(S:Src):Int:=if (Jf es node out es.length).length=0 then -1 else iat (Jf es node out es.length) (nv S (Jf es node out es.length).length).toNat
def pkS (es:List Eg)(node:Int)(out:Bool)(S:Src):Src:=if (Jf es node out es.length).length=0 then S else ns S (Jf es node out es.length).length
theorem l2Pick_any (B D b:Nat)(v0 v1 v2 v3:Value)(R:Rd)(node:Int)(out:Bool)(S:Src)(w:World)(hR:Vy B w v0 v1 v2 v3 R)(hle:R.edges.length<=4000)(hS:Jg D w b S)(hok:SOk S) :
  Calls Tryz.prog 79 #[.agg #[v0,v1,v2,v3],.int .i64 node,.bool out,.pointer (some ⟨b,0,none⟩)] w λe w'=>e=.returned (.int .i64 (pkV R.edges node out S))/\Jg D w' b (pkS R.edges node out S)/\Chg (Sx1 b) w w':=by
 have HE:Hid (V4 B w v1 R.edges):=hR.2.1
 have HS:Hid (Jg D w b S):=hS
 have HOK:Hid (SOk S):=hok
 obtain⟨r0,t0,rfl,_,_⟩:=hR.1
 obtain⟨r1,t1,e1,_,ke⟩:=hR.2.1
 obtain⟨r2,t2,rfl,_,_⟩:=hR.2.2.1
 obtain⟨r3,t3,rfl,_,_⟩:=hR.2.2.2
 generalize R.nodes.length=m0 at *
 generalize R.first.length=m2 at *
 generalize R.out.length=m3 at *
 generalize R.edges=es at *
 generalize hm:es.length=m at *
 have HM:Hid (es.length=m):=hm
 subst e1
 have HPV:Hid (pkV es node out S=if (Jf es node out m).length=0 then -1 else iat (Jf es node out m) (nv S (Jf es node out m).length).toNat):=by unfold Hid pkV;rw[HM.out]
 have HPS:Hid (pkS es node out S=if (Jf es node out m).length=0 then S else ns S (Jf es node out m).length):=by unfold Hid pkS;rw[HM.out]
 clear hR hS hm
 go_enter Tryz.func79,Tryz.ntmps79
 go_wp2
 generalize hWA:(w.alloc (.cells #[.slice r0 m0 t0,.slice r1 m t1,.slice r2 m2 t2,.slice r3 m3 t3] 38)).alloc (.cells #[] 2)=wA
 have HXA:Hid (Nx w wA):=by unfold Hid;rw[<-hWA];exact(Qc _ _).trans (Qc _ _)
 have HBA:Hid (BT wA w.heap.size #[.slice r0 m0 t0,.slice r1 m t1,.slice r2 m2 t2,.slice r3 m3 t3] 38):=by unfold Hid;rw[<-hWA];exact(BT.new w _ _ _ rfl).alloc _
 have HOA:Hid (Q6 w.heap.size wA (.slice (some ⟨w.heap.size+1,0,none⟩) 0 0) []):=by
  unfold Hid
  rw[<-hWA]
  have h:=ownI_none w.heap.size (w.alloc (.cells #[.slice r0 m0 t0,.slice r1 m t1,.slice r2 m2 t2,.slice r3 m3 t3] 38)) (by rw[Q1];omega)
  rw[Q1] at h
  exact h
 clear hWA
 go_loopw [9,10] (λs9 s10 wr=>∃(k n c:Nat) (a:Option Addr),k<=m/\n<=k/\s10=.int .i64 k/\s9=.slice a n c/\Hid ((Jf es node out k).length=n)/\Hid (Q6 w.heap.size wr (.slice a n c) (Jf es node out k))/\Hid (BT wr w.heap.size #[.slice r0 m0 t0,.slice r1 m t1,.slice r2 m2 t2,.slice r3 m3 t3] 38)/\Hid (Nx w wr)) (λ_ i _=>m-(intOf i).toNat)
 case atStart=>exact⟨0,0,0,_,Nat.zero_le _,Nat.le_refl _,rfl,rfl,rfl,HOA,HBA,HXA⟩
 obtain⟨k,n,c,a,hk,hnk,rfl,rfl,HL,HO,HB,HX⟩:=hrel
 have g1:=HB.out.blk.cell (i:=1) rfl
 by_cases hlt:k<m
 ·have hlt':(k:Int)<m:=by omega
  obtain⟨eb,eo,rfl,_,heb,he⟩:=ke (by omega)
  obtain⟨x0,x1,_⟩:=he k hlt
  have y0:=Q0 HX.out heb x0
  have y1:=Q0 HX.out heb x1
  have HPK:Hid (Jf es node out (k+1)=if pickB es node out k then Jf es node out k++[(k:Int)] else Jf es node out k):=rfl
  have HPB:Hid (pickB es node out k=if out then (eat es k).tail==node else (eat es k).head==node):=rfl
  generalize (eat es k).tail=tl at *
  generalize (eat es k).head=hd at *
  have hz:w.heap.size<=wr.heap.size:=HX.out.size
  clear he x0 x1
  go_upto_region 5 with fail
  go_cut [43] from 19 to 42 (λs wc=>s=.bool (pickB es node out k)/\wc=wr)
  case first=>
   cases out with
   |true=>
    generalize hbd:(tl==node)=bd at *
    cases bd
    ·go_wp2
     go_meet
     exact⟨by rw[HPB.out];rfl,rfl⟩
    ·go_wp2
     go_meet
     exact⟨by rw[HPB.out];rfl,rfl⟩
   |false=>
    generalize hbd:(hd==node)=bd at *
    cases bd
    ·go_wp2
     go_meet
     exact⟨by rw[HPB.out];rfl,rfl⟩
    ·go_wp2
     go_meet
     exact⟨by rw[HPB.out];rfl,rfl⟩
  case rest=>
  obtain⟨rfl,rfl⟩:=hcut
  generalize pickB es node out k=pb at *
  cases pb with
  |true=>
   have HPK1:Hid (Jf es node out (k+1)=Jf es node out k++[(k:Int)]):=by unfold Hid;rw[HPK.out];rfl
   clear HPK HPB
   go_wp2_with (at_builtin;refine Ze rfl _ _ rfl w.heap.size n (.slice a n c) (Jf es node out k) (k:Int) wc rfl HO.out rfl HL.out (by omega) hz ?_)
   intro a1 c1 w1 r1 r2 r3
   have HO1:Hid (Q6 w.heap.size w1 (.slice a1 (n+1) c1) (Jf es node out (k+1))):=by unfold Hid;rw[HPK1.out];exact r1
   have HL1:Hid ((Jf es node out (k+1)).length=n+1):=by unfold Hid;rw[HPK1.out,List.length_append,HL.out];rfl
   have HB1:=mh (HB.out.row HO.out (by decide) r2)
   have HX1:Hid (Nx w w1):=Below.trans HX.out (r2.below HX.out.size (λx hx=>(Qf HO.out x hx.symm).1))
   clear r1 r2 r3 g1 y0 y1
   go_wp2
   go_roundw
   case rel=>exact⟨k+1,n+1,c1,a1,by omega,by omega,by go_num,rfl,HL1,HO1,HB1,HX1⟩
   case measure=>simp[intOf];omega
  |false=>
   have HO1:Hid (Q6 w.heap.size wc (.slice a n c) (Jf es node out (k+1))):=by unfold Hid;rw[HPK.out];exact HO.out
   have HL1:Hid ((Jf es node out (k+1)).length=n):=by unfold Hid;rw[HPK.out];exact HL.out
   clear HPK HPB g1 y0 y1
   go_wp2
   go_roundw
   case rel=>exact⟨k+1,n,c,a,by omega,by omega,by go_num,rfl,HL1,HO1,HB,HX⟩
   case measure=>simp[intOf];omega
 have hkm:k=m:=by omega
 subst hkm
 rw[HL.out] at HPV HPS
 by_cases hn0:n=0
 ·have HV1:Hid (pkV es node out S=-1):=by unfold Hid;rw[HPV.out,if_pos hn0]
  have HV2:Hid (pkS es node out S=S):=by unfold Hid;rw[HPS.out,if_pos hn0]
  subst hn0
  clear HPV HPS
  go_wp2
  go_ret
  rw[HV1.out,HV2.out]
  exact⟨rfl,HS.out.next HX.out,Chg.nx HX.out⟩
 have HV1:Hid (pkV es node out S=iat (Jf es node out k) (nv S n).toNat):=by unfold Hid;rw[HPV.out,if_neg hn0]
 have HV2:Hid (pkS es node out S=ns S n):=by unfold Hid;rw[HPS.out,if_neg hn0]
 have n1:((n:Int)==0)=false:=by simp;omega
 have n2:¬(n:Int)=0:=by omega
 clear HPV HPS
 go_wp2_with fail
 refine(Qe D b S n _ (HS.out.next HX.out) HOK.out (by omega)).mono ?_
 rintro e w1 ⟨rfl,hs1,hc1⟩
 have hv:=Qu HOK.out n
 obtain⟨i,hi⟩:∃i:Nat,nv S n=i:=⟨(nv S n).toNat,by omega⟩
 rw[hi] at HV1 ⊢
 have hil:i<n:=by omega
 have hil':(i:Int)<n:=by omega
 have HO1:Hid (Q6 w.heap.size w1 (.slice a n c) (Jf es node out k)):=by
  obtain⟨v,hb,_⟩:=(HS.out.next HX.out)
  exact Qz HO.out hc1 (λg hg e=>by
   have e':g=b:=e
   subst e'
   exact hb.neRow HO.out (by decide) hg.symm)
 obtain⟨a9,c9,e9,_,k9⟩:=HO1.out.held
 rw[HL.out] at e9 k9
 simp only[Value.slice.injEq] at e9
 obtain⟨ea,en,ec⟩:=e9
 subst ea ec
 clear en
 obtain⟨gb,go,rfl,_,_,hc9⟩:=k9 (by omega)
 have cy:w1.cell? ⟨gb,go+i,none⟩=some (.int .i64 (iat (Jf es node out k) i)):=hc9 i hil
 have HF:Hid (Jg D w1 b (ns S n)):=hs1
 have HCF:Hid (Chg (Sx1 b) w w1):=(Chg.nx HX.out).trans hc1
 rw[Int.toNat_natCast] at HV1
 clear k9 hc9 hs1 hc1 hi hv g1
 generalize iat (Jf es node out k) i=z at *
 go_wp2
 go_ret
 rw[HV1.out,HV2.out]
 exact⟨rfl,HF.out,HCF.out⟩
def lwN (a b:Int):Nat->List Int
 |0=>[a]
 |k+1=>lwN a b k++[if (k:Int)%2=0 then b else a]
def lwW (wt:Int):Nat->List Int
 |0=>[]
 |k+1=>lwW wt k++[wt]
theorem lwN_len (a b:Int):∀k,(lwN a b k).length=k+1
 |0=>rfl
 |k+1=>by show(lwN a b k++[_]).length=_;rw[List.length_append,lwN_len a b k];rfl
theorem lwW_len (wt:Int):∀k,(lwW wt k).length=k
 |0=>rfl
 |k+1=>by show(lwW wt k++[_]).length=_;rw[List.length_append,lwW_len wt k];rfl
structure LWs (w wr:World)(id:Int)(bo:Bool)(va vb:Value)(nd wt:List Int):Prop where
 nx:Nx w wr
 res:BT wr w.heap.size #[.int .i64 0,.bool false,.slice none 0 0,.slice none 0 0] 47
 box:BT wr (w.heap.size+2) #[.int .i64 id,.bool bo,va,vb] 47
 nds:Q6 w.heap.size wr va nd
 wts:Q6 w.heap.size wr vb wt
 ap:∀g,va.ownBlock=some g->vb.ownBlock≠some g
section
variable {w wr w':World}{id:Int}{bo:Bool}{va vb:Value}{nd wt:List Int}
theorem LWs.addNd (h:LWs w wr id bo va vb nd wt){v:Value}{z:Int}(hr:Q6 w.heap.size w' v (nd++[z]))(hc:Chg (λx=>some x=va.ownBlock) wr w')(ha:∀g,v.ownBlock=some g->va.ownBlock=some g\/wr.heap.size<=g):LWs w (w'.setCell ⟨w.heap.size+2,2,none⟩ v) id bo v vb (nd++[z]) wt:=by
 have hbox:=h.box.row h.nds (by decide) hc
 refine⟨Below.setCell (Below.trans h.nx (hc.below h.nx.size (λx hx=>(Qf h.nds x hx.symm).1))) (show w.heap.size<=w.heap.size+2 by omega) _,(h.res.row h.nds (by decide) hc).setOther (by omega) _ _,hbox.set 2 v,Q7 hr hbox (by decide) _ _,Q7 (Zl h.wts (λg hg=>h.ap g hg) hc) hbox (by decide) _ _,λg hg=>?_⟩
 rcases ha g hg with e|e
 ·exact h.ap g e
 ·intro e2
  have:=(Qf h.wts g e2).2
  omega
theorem LWs.addWt (h:LWs w wr id bo va vb nd wt){v:Value}{z:Int}(hr:Q6 w.heap.size w' v (wt++[z]))(hc:Chg (λx=>some x=vb.ownBlock) wr w')(ha:∀g,v.ownBlock=some g->vb.ownBlock=some g\/wr.heap.size<=g):LWs w (w'.setCell ⟨w.heap.size+2,3,none⟩ v) id bo va v nd (wt++[z]):=by
 have hbox:=h.box.row h.wts (by decide) hc
 refine⟨Below.setCell (Below.trans h.nx (hc.below h.nx.size (λx hx=>(Qf h.wts x hx.symm).1))) (show w.heap.size<=w.heap.size+2 by omega) _,(h.res.row h.wts (by decide) hc).setOther (by omega) _ _,hbox.set 3 v,Q7 (Zl h.nds (λg hg hg2=>h.ap g hg2 hg) hc) hbox (by decide) _ _,Q7 hr hbox (by decide) _ _,λg hg hg2=>?_⟩
 rcases ha g hg2 with e|e
 ·exact h.ap g hg e
 ·have:=(Qf h.nds g hg).2
  omega
end
theorem Vo (id a b wt:Int)(bo:Bool)(segs:Nat)(w:World)(hs:segs<=100000) :
  Calls Tryz.prog 80 #[.int .i64 id,.bool bo,.int .i64 a,.int .i64 b,.int .i64 (segs:Int),.int .i64 wt] w λe w'=>∃va vb,e=.returned (.agg #[.int .i64 id,.bool bo,va,vb])/\Q6 w.heap.size w' va (lwN a b segs)/\Q6 w.heap.size w' vb (lwW wt segs)/\(∀g,va.ownBlock=some g->vb.ownBlock≠some g)/\Nx w w':=by
 go_enter Tryz.func80,Tryz.ntmps80
 go_upto_region 2 with fail
 generalize hWA:((w.alloc (.cells #[.int .i64 0,.bool false,.slice none 0 0,.slice none 0 0] 47)).alloc (.cells #[.int .i64 a] 2)).alloc (.cells #[.int .i64 id,.bool bo,.slice (some ⟨w.heap.size+1,0,none⟩) 1 1,.slice none 0 0] 47)=wA
 have HLA:Hid (LWs w wA id bo (.slice (some ⟨w.heap.size+1,0,none⟩) (0+1) 1) (.slice none 0 0) (lwN a b 0) (lwW wt 0)):=by
  unfold Hid
  rw[<-hWA]
  refine⟨(Qc _ _).trans ((Qc _ _).trans (Qc _ _)),((BT.new w _ _ _ rfl).alloc _).alloc _,BT.new _ _ _ _ (by rw[Q1,Q1]),?_,⟨rfl,Or.inl ⟨rfl,rfl⟩⟩,λg hg h=>by cases h⟩
  refine⟨rfl,Or.inr ⟨w.heap.size+1,1,#[.int .i64 a],rfl,by omega,?_,Nat.le_refl _,by simp[maxLen],rfl,rfl⟩⟩
  exact(BT.new _ _ _ _ (by rw[Q1])).alloc _
 clear hWA
 go_wp2
 go_loopw [14] (λi wr=>∃(k cv cw:Nat) (av aw:Option Addr),k<=segs/\i=.int .i64 k/\Hid (LWs w wr id bo (.slice av (k+1) cv) (.slice aw k cw) (lwN a b k) (lwW wt k))) (λi _=>segs-(intOf i).toNat)
 case atStart=>exact⟨0,_,_,_,_,Nat.zero_le _,rfl,HLA⟩
 obtain⟨k,cv,cw,av,aw,hk,rfl,HL⟩:=hrel
 by_cases hlt:k<segs
 ·have hlt':(k:Int)<segs:=by omega
  have HLN:Hid ((lwN a b k).length=k+1):=lwN_len a b k
  have HLW:Hid ((lwW wt k).length=k):=lwW_len wt k
  by_cases h2:(k:Int)%2=0
  ·have d2:((k:Int)%2==0)=true:=by simpa using h2
   have HSN:Hid (lwN a b (k+1)=lwN a b k++[b]):=by unfold Hid;show lwN a b k++[_]=_;rw[if_pos h2]
   have g2:=HL.out.box.blk.cell (i:=2) rfl
   have hz:w.heap.size<=wr.heap.size:=HL.out.nx.size
   go_wp2_with (at_builtin;refine Ze rfl _ _ rfl w.heap.size (k+1) (.slice av (k+1) cv) (lwN a b k) b wr rfl HL.out.nds rfl HLN.out (by omega) hz ?_)
   intro a1 c1 w1 r1 r2 r3
   have HL1:=mh (HL.out.addNd r1 r2 r3)
   have HB1:=mh (HL.out.box.row HL.out.nds (by decide) r2)
   clear g2 r1 r2 r3
   have g2:=HB1.out.blk.cell (i:=2) rfl
   have f2:=HB1.out.blk.frozen 2
   go_upto_region 8 with fail
   generalize w1.setCell ⟨w.heap.size+2,2,none⟩ (.slice a1 (k+1+1) c1)=w1' at *
   clear g2 f2 HB1
   rw[<-HSN.out] at HL1
   have g3:=HL1.out.box.blk.cell (i:=3) rfl
   have hz3:w.heap.size<=w1'.heap.size:=HL1.out.nx.size
   go_wp2_with (at_builtin;refine Ze rfl _ _ rfl w.heap.size k (.slice aw k cw) (lwW wt k) wt w1' rfl HL1.out.wts rfl HLW.out (by omega) hz3 ?_)
   intro a2 c2 w2 r1 r2 r3
   have HL2:=mh (HL1.out.addWt r1 r2 r3)
   have HB2:=mh (HL1.out.box.row HL1.out.wts (by decide) r2)
   clear g3 r1 r2 r3
   have g3:=HB2.out.blk.cell (i:=3) rfl
   have f3:=HB2.out.blk.frozen 3
   go_wp2
   go_roundw
   case rel=>exact⟨k+1,c1,c2,a1,a2,by omega,by go_num,HL2⟩
   case measure=>simp[intOf];omega
  ·have d2:((k:Int)%2==0)=false:=by simpa using h2
   have HSN:Hid (lwN a b (k+1)=lwN a b k++[a]):=by unfold Hid;show lwN a b k++[_]=_;rw[if_neg h2]
   have g2:=HL.out.box.blk.cell (i:=2) rfl
   have hz:w.heap.size<=wr.heap.size:=HL.out.nx.size
   go_wp2_with (at_builtin;refine Ze rfl _ _ rfl w.heap.size (k+1) (.slice av (k+1) cv) (lwN a b k) a wr rfl HL.out.nds rfl HLN.out (by omega) hz ?_)
   intro a1 c1 w1 r1 r2 r3
   have HL1:=mh (HL.out.addNd r1 r2 r3)
   have HB1:=mh (HL.out.box.row HL.out.nds (by decide) r2)
   clear g2 r1 r2 r3
   have g2:=HB1.out.blk.cell (i:=2) rfl
   have f2:=HB1.out.blk.frozen 2
   go_upto_region 8 with fail
   generalize w1.setCell ⟨w.heap.size+2,2,none⟩ (.slice a1 (k+1+1) c1)=w1' at *
   clear g2 f2 HB1
   rw[<-HSN.out] at HL1
   have g3:=HL1.out.box.blk.cell (i:=3) rfl
   have hz3:w.heap.size<=w1'.heap.size:=HL1.out.nx.size
   go_wp2_with (at_builtin;refine Ze rfl _ _ rfl w.heap.size k (.slice aw k cw) (lwW wt k) wt w1' rfl HL1.out.wts rfl HLW.out (by omega) hz3 ?_)
   intro a2 c2 w2 r1 r2 r3
   have HL2:=mh (HL1.out.addWt r1 r2 r3)
   have HB2:=mh (HL1.out.box.row HL1.out.wts (by decide) r2)
   clear g3 r1 r2 r3
   have g3:=HB2.out.blk.cell (i:=3) rfl
   have f3:=HB2.out.blk.frozen 3
   go_wp2
   go_roundw
   case rel=>exact⟨k+1,c1,c2,a1,a2,by omega,by go_num,HL2⟩
   case measure=>simp[intOf];omega
 have hkn:k=segs:=by omega
 subst hkn
 have y0:=HL.out.box.blk.cell (i:=0) rfl
 have y1:=HL.out.box.blk.cell (i:=1) rfl
 have y2:=HL.out.box.blk.cell (i:=2) rfl
 have y3:=HL.out.box.blk.cell (i:=3) rfl
 have x0:=HL.out.res.blk.cell (i:=0) rfl
 have x1:=HL.out.res.blk.cell (i:=1) rfl
 have x2:=HL.out.res.blk.cell (i:=2) rfl
 have x3:=HL.out.res.blk.cell (i:=3) rfl
 have z0:=HL.out.res.blk.frozen 0
 have z1:=HL.out.res.blk.frozen 1
 have z2:=HL.out.res.blk.frozen 2
 have z3:=HL.out.res.blk.frozen 3
 have BR':=(((HL.out.res.blk.set 0 (.int .i64 id)).set 1 (.bool bo)).set 2 (.slice av (k+1) cv)).set 3 (.slice aw k cw)
 have P0:Hid (_=some (Value.int .i64 id)):=BR'.cell (i:=0) rfl
 have P1:Hid (_=some (Value.bool bo)):=BR'.cell (i:=1) rfl
 have P2:Hid (_=some (Value.slice av (k+1) cv)):=BR'.cell (i:=2) rfl
 have P3:Hid (_=some (Value.slice aw k cw)):=BR'.cell (i:=3) rfl
 clear BR'
 go_wp2
 have p0:=P0.out
 have p1:=P1.out
 have p2:=P2.out
 have p3:=P3.out
 refine bodyPost_ret (v:=.agg #[.int .i64 id,.bool bo,.slice av (k+1) cv,.slice aw k cw]) (by simp[results,Tryz.results80,go_sem,p0,p1,p2,p3]) rfl ?_
 have r0:=HL.out.res
 have s0:=r0.set 0 (.int .i64 id)
 have s1:=s0.set 1 (.bool bo)
 have s2:=s1.set 2 (.slice av (k+1) cv)
 exact⟨_,_,rfl,Q7 (Q7 (Q7 (Q7 HL.out.nds r0 (by decide) _ _) s0 (by decide) _ _) s1 (by decide) _ _) s2 (by decide) _ _,Q7 (Q7 (Q7 (Q7 HL.out.wts r0 (by decide) _ _) s0 (by decide) _ _) s1 (by decide) _ _) s2 (by decide) _ _,HL.out.ap,Below.setCell (Below.setCell (Below.setCell (Below.setCell HL.out.nx (Nat.le_refl _) _) (Nat.le_refl _) _) (Nat.le_refl _) _) (Nat.le_refl _) _⟩
theorem anyS_two2 {F:Fence}{n:Nat}{P:Program}{ops:Array Oper}{Q:Exit->Act->World->Prop}{md:Region.Mode}{S:World->Prop}{c i j fuel:Nat}{listed:Array Bool}{a:Act}{w:World}(hr:Region.ready md ops listed=[i,j])(hcl:Cl md ops listed)(h1:Cl md ops (listed.setIfInBounds i true)->wpOpIn F n P ops Q i (λa' w'=>(c<=i\/S w')/\Jy F n P md ops Q S c fuel (listed.setIfInBounds i true) a' w') a w)(h2:Cl md ops (listed.setIfInBounds j true)->wpOpIn F n P ops Q j (λa' w'=>(c<=j\/S w')/\Jy F n P md ops Q S c fuel (listed.setIfInBounds j true) a' w') a w):Jy F n P md ops Q S c (fuel+1) listed a w:=
 ⟨λh0=>absurd (hr▸h0) (by simp),λx hx=>by
  rw[hr] at hx
  simp at hx
  rcases hx with rfl|rfl
  ·exact h1 (hcl.step (by rw[hr];simp))
  ·exact h2 (hcl.step (by rw[hr];simp))⟩
theorem tk {n:Nat}{P:Program}{ops:Array Oper}{Q:Exit->Act->World->Prop}{md:Region.Mode}{S:World->Prop}{c i fuel:Nat}{oi:Oper}{v:Value}{listed:Array Bool}{a:Act}{w:World}(hw:Waits md ops c)(hcl:Cl md ops listed)(hy:YF P ops S oi v a)(hS:S w)(h:Cl md ops (listed.setIfInBounds i true)->Jy Fence.wide n P md ops Q S c fuel (listed.setIfInBounds i true) (a.put oi.dst v) w)
  (hic:i<c:=by decide) (hi:ops[i]?=some oi:=by rfl) (hs:Region.noSelect ops=true:=by kernel_rfl) (hf:Region.free md ops listed i=true:=by kernel_rfl) (hr:(Region.ready md ops listed).contains i=true:=by kernel_rfl) (hQ:∀c a w,Q (.panic c) (a.put oi.dst v) w->Q (.panic c) a w:=by exact λ_ _ _ h=>h):Jy Fence.wide n P md ops Q S c (fuel+1) listed a w:=
 Qb hw hic hcl (Q4 rfl) hi hs hf hr hQ hy hS h
theorem Chg.cellB {b:Nat}{w w':World}(h:Chg (Sx1 b) w w'){g o:Nat}(hn:g≠b){v:Value}(hc:w.cell? ⟨g,o,none⟩=some v):w'.cell? ⟨g,o,none⟩=some v:=by
 have hb:=h.block g (Zd hc) hn
 unfold World.cell? at hc ⊢
 simp only[hb]
 exact hc
def idOf (ws:List Wy)(i:Int):Int:=(wat ws i.toNat).id
structure RvSt where
 S:Src
 l:List Int
def rvStep (ws:List Wy)(x:RvSt):RvSt:=⟨ns x.S ws.length,x.l++[idOf ws (nv x.S ws.length)]⟩
def Ys (ws:List Wy)(x:RvSt):Nat->RvSt
 |0=>x
 |k+1=>rvStep ws (Ys ws x k)
def Zw (N:Nt)(S:Src):Src:=ns (ns S N.ways.length) N.ways.length
def rdFrm (N:Nt)(S:Src):Int:=idOf N.ways (nv S N.ways.length)
def rdTo (N:Nt)(S:Src):Int:=idOf N.ways (nv (ns S N.ways.length) N.ways.length)
def rdVia (N:Nt)(S:Src):RvSt:=Ys N.ways ⟨ns (ns (Zw N S) 2) 4,[]⟩ (1+nv (ns (Zw N S) 2) 4).toNat
def Vq (N:Nt)(S:Src):Rl:=if nv (Zw N S) 2=0 then ⟨0,false,rdFrm N S,rdTo N S,true,iat N.nodes (nv (ns (Zw N S) 2) N.nodes.length).toNat,[]⟩ else ⟨0,false,rdFrm N S,rdTo N S,false,0,(rdVia N S).l⟩
def Y8 (N:Nt)(S:Src):Src:=if nv (Zw N S) 2=0 then ns (ns (Zw N S) 2) N.nodes.length else (rdVia N S).S
theorem rvTo_ok {ws:List Wy}{x:RvSt}(h:SOk x.S)(hl:x.l=[]):∀k,SOk (Ys ws x k).S/\(Ys ws x k).l.length=k/\(Ys ws x k).S.size=x.S.size
 |0=>⟨h,by simp[Ys,hl],rfl⟩
 |k+1=>by
  obtain⟨h1,h2,h3⟩:=rvTo_ok (ws:=ws) h hl k
  refine⟨show SOk (ns (Ys ws x k).S ws.length) from Qm h1 _,?_,?_⟩
  ·show((Ys ws x k).l++[_]).length=_
   rw[List.length_append,h2];rfl
  ·show(ns _ _).size=_
   rw[Qr,h3]
theorem rdSrc_ok {N:Nt}{S:Src}(h:SOk S):SOk (Y8 N S)/\(Y8 N S).size=S.size:=by
 unfold Y8
 split
 ·exact⟨Qm (Qm (Qm (Qm h _) _) _) _,by rw[Qr,Qr];unfold Zw;rw[Qr,Qr]⟩
 ·have k:=rvTo_ok (ws:=N.ways) (x:=⟨ns (ns (Zw N S) 2) 4,[]⟩) (show SOk (ns (ns (Zw N S) 2) 4) from Qm (Qm (Qm (Qm h _) _) _) _) rfl (1+nv (ns (Zw N S) 2) 4).toNat
  refine⟨k.1,k.2.2.trans ?_⟩
  show(ns (ns (Zw N S) 2) 4).size=_
  rw[Qr,Qr];unfold Zw;rw[Qr,Qr]
structure RM0 (D b:Nat)(w0 w:World)(S:Src)(nt:Array Value):Prop where
 chg:Chg (Sx1 b) w0 w
 src:Jg D w b S
 box:BT w w0.heap.size nt 28
 res:BT w (w0.heap.size+1) #[.int .i64 0,.bool false,.int .i64 0,.int .i64 0,.bool false,.int .i64 0,.slice none 0 0] 41
structure RMs (D b:Nat)(w0 w:World)(S:Src)(nt:Array Value)(g:Nat)(fr tt nd:Int)(via:Bool)(va:Value)(ws:List Int):Prop extends RM0 D b w0 w S nt where
 rel:BT w g #[.int .i64 0,.bool false,.int .i64 fr,.int .i64 tt,.bool via,.int .i64 nd,va] 41
 far:w0.heap.size+2<=g
 row:Q6 w0.heap.size w va ws
section
variable {D b g:Nat}{w0 w w':World}{S S':Src}{nt:Array Value}{fr tt nd:Int}{via:Bool}{va:Value}{ws:List Int}
theorem RM0.next (h:RM0 D b w0 w S nt)(k:Nx w w'):RM0 D b w0 w' S nt:=⟨h.chg.trans (Chg.nx k),h.src.next k,h.box.next k,h.res.next k⟩
theorem RMs.next (h:RMs D b w0 w S nt g fr tt nd via va ws)(k:Nx w w'):RMs D b w0 w' S nt g fr tt nd via va ws:=⟨h.toRM0.next k,h.rel.next k,h.far,h.row.next k⟩
theorem RM0.drawn (h:RM0 D b w0 w S nt)(hS:Jg D w' b S')(k:Chg (Sx1 b) w w'):RM0 D b w0 w' S' nt:=by
 obtain⟨v,hb,_⟩:=h.src
 exact⟨h.chg.trans k,hS,h.box.chg k (h.box.ne hb (by decide)),h.res.chg k (h.res.ne hb (by decide))⟩
theorem RMs.drawn (h:RMs D b w0 w S nt g fr tt nd via va ws)(hS:Jg D w' b S')(k:Chg (Sx1 b) w w'):RMs D b w0 w' S' nt g fr tt nd via va ws:=by
 obtain⟨v,hb,_⟩:=h.src
 exact⟨h.toRM0.drawn hS k,h.rel.chg k (h.rel.ne hb (by decide)),h.far,Qz h.row k (λx hx e=>by
  have e':x=b:=e
  subst e'
  exact hb.neRow h.row (by decide) hx.symm)⟩
theorem RM0.al (h:RM0 D b w0 w S nt):RMs D b w0 (w.alloc (.cells #[.int .i64 0,.bool false,.int .i64 0,.int .i64 0,.bool false,.int .i64 0,.slice none 0 0] 41)) S nt w.heap.size 0 0 0 false (.slice none 0 0) []:=
 ⟨h.next (Qc _ _),BT.new _ _ _ _ rfl,by have:=h.res.lt;omega,⟨rfl,Or.inl ⟨rfl,rfl⟩⟩⟩
theorem RM0.turn {cs:Array Value}(h:RM0 D b w0 w S nt)(hg:BT w g cs 41)(hf:w0.heap.size+2<=g)(k:Chg (λx=>x=g) w w'):RM0 D b w0 w' S nt:=by
 refine⟨h.chg.young k (λx hx hl=>by have hx':x=g:=hx;omega),h.src.chg k (λx hx=>?_),h.box.chg k (λe=>by have e':w0.heap.size=g:=e;omega),h.res.chg k (λe=>by have e':w0.heap.size+1=g:=e;omega)⟩
 have hx':x=g:=hx
 subst hx'
 exact⟨_,_,hg,by decide,by decide⟩
theorem rowTurn {cs:Array Value}{C:Nat}(ho:Q6 C w va ws)(hg:BT w g cs 41)(k:Chg (λx=>x=g) w w'):Q6 C w' va ws:=
 Qz ho k (λx hx e=>by
  have e':x=g:=e
  subst e'
  exact hg.neRow ho (by decide) hx.symm)
theorem RMs.setVia (h:RMs D b w0 w S nt g fr tt nd via va ws):RMs D b w0 (w.setCell ⟨g,4,none⟩ (.bool true)) S nt g fr tt nd true va ws:=
 ⟨h.toRM0.turn h.rel h.far (Chg.set _ _ _ rfl),h.rel.set 4 _,h.far,rowTurn h.row h.rel (Chg.set _ _ _ rfl)⟩
theorem RMs.setNode (h:RMs D b w0 w S nt g fr tt nd via va ws)(z:Int):RMs D b w0 (w.setCell ⟨g,5,none⟩ (.int .i64 z)) S nt g fr tt z via va ws:=
 ⟨h.toRM0.turn h.rel h.far (Chg.set _ _ _ rfl),h.rel.set 5 _,h.far,rowTurn h.row h.rel (Chg.set _ _ _ rfl)⟩
theorem RMs.addWay (h:RMs D b w0 w S nt g fr tt nd via va ws){v:Value}{z:Int}(hr:Q6 w0.heap.size w' v (ws++[z]))(hc:Chg (λx=>some x=va.ownBlock) w w'):RMs D b w0 (w'.setCell ⟨g,6,none⟩ v) S nt g fr tt nd via v (ws++[z]):=by
 have k0:RM0 D b w0 w' S nt:=⟨h.chg.young hc (λx hx hl=>by have:=(Qf h.row x hx.symm).1;omega),h.src.row h.row (by decide) (by decide) hc,h.box.row h.row (by decide) hc,h.res.row h.row (by decide) hc⟩
 have k1:=h.rel.row h.row (by decide) hc
 exact⟨k0.turn k1 h.far (Chg.set _ _ _ rfl),k1.set 6 _,h.far,rowTurn hr k1 (Chg.set _ _ _ rfl)⟩
theorem RMs.out (h:RMs D b w0 w S nt g fr tt nd via va ws)(k:Chg (λx=>x=w0.heap.size+1) w w'):Q6 w0.heap.size w' va ws/\Jg D w' b S/\Chg (Sx1 b) w0 w':=by
 refine⟨rowTurn h.row h.res k,h.src.chg k (λx hx=>?_),h.chg.young k (λx hx hl=>by have hx':x=w0.heap.size+1:=hx;omega)⟩
 have hx':x=w0.heap.size+1:=hx
 subst hx'
 exact⟨_,_,h.res,by decide,by decide⟩
theorem set7 {w:World}{g t:Nat}{a0 a1 a2 a3 a4 a5 a6 c0 c1 c2 c3 c4 c5 c6:Value}(h:BT w g #[c0,c1,c2,c3,c4,c5,c6] t):BT (((((((w.setCell ⟨g,0,none⟩ a0).setCell ⟨g,1,none⟩ a1).setCell ⟨g,2,none⟩ a2).setCell ⟨g,3,none⟩ a3).setCell ⟨g,4,none⟩ a4).setCell ⟨g,5,none⟩ a5).setCell ⟨g,6,none⟩ a6) g #[a0,a1,a2,a3,a4,a5,a6] t:=by
 have k0:BT (w.setCell ⟨g,0,none⟩ a0) g #[a0,c1,c2,c3,c4,c5,c6] t:=h.set 0 a0
 have k1:BT ((w.setCell ⟨g,0,none⟩ a0).setCell ⟨g,1,none⟩ a1) g #[a0,a1,c2,c3,c4,c5,c6] t:=k0.set 1 a1
 have k2:BT (((w.setCell ⟨g,0,none⟩ a0).setCell ⟨g,1,none⟩ a1).setCell ⟨g,2,none⟩ a2) g #[a0,a1,a2,c3,c4,c5,c6] t:=k1.set 2 a2
 have k3:BT ((((w.setCell ⟨g,0,none⟩ a0).setCell ⟨g,1,none⟩ a1).setCell ⟨g,2,none⟩ a2).setCell ⟨g,3,none⟩ a3) g #[a0,a1,a2,a3,c4,c5,c6] t:=k2.set 3 a3
 have k4:BT (((((w.setCell ⟨g,0,none⟩ a0).setCell ⟨g,1,none⟩ a1).setCell ⟨g,2,none⟩ a2).setCell ⟨g,3,none⟩ a3).setCell ⟨g,4,none⟩ a4) g #[a0,a1,a2,a3,a4,c5,c6] t:=k3.set 4 a4
 have k5:BT ((((((w.setCell ⟨g,0,none⟩ a0).setCell ⟨g,1,none⟩ a1).setCell ⟨g,2,none⟩ a2).setCell ⟨g,3,none⟩ a3).setCell ⟨g,4,none⟩ a4).setCell ⟨g,5,none⟩ a5) g #[a0,a1,a2,a3,a4,a5,c6] t:=k4.set 5 a5
 have k6:BT (((((((w.setCell ⟨g,0,none⟩ a0).setCell ⟨g,1,none⟩ a1).setCell ⟨g,2,none⟩ a2).setCell ⟨g,3,none⟩ a3).setCell ⟨g,4,none⟩ a4).setCell ⟨g,5,none⟩ a5).setCell ⟨g,6,none⟩ a6) g #[a0,a1,a2,a3,a4,a5,a6] t:=k5.set 6 a6
 exact k6
theorem chg7 {w:World}{g:Nat}{a0 a1 a2 a3 a4 a5 a6:Value}:Chg (λx=>x=g) w (((((((w.setCell ⟨g,0,none⟩ a0).setCell ⟨g,1,none⟩ a1).setCell ⟨g,2,none⟩ a2).setCell ⟨g,3,none⟩ a3).setCell ⟨g,4,none⟩ a4).setCell ⟨g,5,none⟩ a5).setCell ⟨g,6,none⟩ a6):=by
 have k0:Chg (λx=>x=g) w (w.setCell ⟨g,0,none⟩ a0):=Chg.set g 0 a0 rfl
 have k1:Chg (λx=>x=g) w ((w.setCell ⟨g,0,none⟩ a0).setCell ⟨g,1,none⟩ a1):=k0.trans (Chg.set g 1 a1 rfl)
 have k2:Chg (λx=>x=g) w (((w.setCell ⟨g,0,none⟩ a0).setCell ⟨g,1,none⟩ a1).setCell ⟨g,2,none⟩ a2):=k1.trans (Chg.set g 2 a2 rfl)
 have k3:Chg (λx=>x=g) w ((((w.setCell ⟨g,0,none⟩ a0).setCell ⟨g,1,none⟩ a1).setCell ⟨g,2,none⟩ a2).setCell ⟨g,3,none⟩ a3):=k2.trans (Chg.set g 3 a3 rfl)
 have k4:Chg (λx=>x=g) w (((((w.setCell ⟨g,0,none⟩ a0).setCell ⟨g,1,none⟩ a1).setCell ⟨g,2,none⟩ a2).setCell ⟨g,3,none⟩ a3).setCell ⟨g,4,none⟩ a4):=k3.trans (Chg.set g 4 a4 rfl)
 have k5:Chg (λx=>x=g) w ((((((w.setCell ⟨g,0,none⟩ a0).setCell ⟨g,1,none⟩ a1).setCell ⟨g,2,none⟩ a2).setCell ⟨g,3,none⟩ a3).setCell ⟨g,4,none⟩ a4).setCell ⟨g,5,none⟩ a5):=k4.trans (Chg.set g 5 a5 rfl)
 have k6:Chg (λx=>x=g) w (((((((w.setCell ⟨g,0,none⟩ a0).setCell ⟨g,1,none⟩ a1).setCell ⟨g,2,none⟩ a2).setCell ⟨g,3,none⟩ a3).setCell ⟨g,4,none⟩ a4).setCell ⟨g,5,none⟩ a5).setCell ⟨g,6,none⟩ a6):=k5.trans (Chg.set g 6 a6 rfl)
 exact k6
theorem RMs.fill (h:RMs D b w0 w S nt g 0 0 0 false (.slice none 0 0) [])(f1 f2:Int):RMs D b w0 (((((((w.setCell ⟨g,0,none⟩ (.int .i64 0)).setCell ⟨g,1,none⟩ (.bool false)).setCell ⟨g,2,none⟩ (.int .i64 f1)).setCell ⟨g,3,none⟩ (.int .i64 f2)).setCell ⟨g,4,none⟩ (.bool false)).setCell ⟨g,5,none⟩ (.int .i64 0)).setCell ⟨g,6,none⟩ (.slice none 0 0)) S nt g f1 f2 0 false (.slice none 0 0) []:=
 ⟨h.toRM0.turn h.rel h.far chg7,set7 h.rel,h.far,⟨rfl,Or.inl ⟨rfl,rfl⟩⟩⟩
end
theorem Xy (B D b:Nat)(v0 v1 v2 v3:Value)(u:Int)(N:Nt)(S:Src)(w:World)(hN:Z0 B w v0 v1 v2 v3 N)(hB:b<B)(h0:0<N.nodes.length)(hw0:0<N.ways.length)(hl0:N.nodes.length<=1000000)(hl1:N.ways.length<=1000000)(hS:Jg D w b S)(hok:SOk S) :
  Calls Tryz.prog 78 #[.agg #[v0,v1,v2,v3,.int .i64 u],.pointer (some ⟨b,0,none⟩)] w λe w'=>∃va,e=.returned (.agg #[.int .i64 (Vq N S).id,.bool (Vq N S).only,.int .i64 (Vq N S).frm,.int .i64 (Vq N S).to,.bool (Vq N S).via,.int .i64 (Vq N S).node,va])/\Q6 w.heap.size w' va (Vq N S).ways/\Jg D w' b (Y8 N S)/\Chg (Sx1 b) w w':=by
 have HOK:Hid (SOk S):=hok
 have HS0:Hid (Jg D w b S):=hS
 obtain⟨r0,t0,rfl,_,kn⟩:=hN.1
 obtain⟨r1,c1,rfl,_,kw⟩:=hN.2.1
 obtain⟨r2,t2,rfl,_,_⟩:=hN.2.2.1
 obtain⟨r3,t3,rfl,_,_⟩:=hN.2.2.2
 obtain⟨wb,wo,rfl,hwb,_,hwc⟩:=kw hw0
 obtain⟨nb,no,rfl,hnb,_,hnc⟩:=kn h0
 have HWC:Hid (∀q,Chg (Sx1 b) w q->∀i,i<N.ways.length->q.cell? ⟨wb,wo+i*4,none⟩=some (.int .i64 (wat N.ways i).id)):=λq hq i hi=>by
  obtain⟨_,_,hc,_⟩:=hwc i hi
  exact hq.cellB (by omega) hc
 have HNC:Hid (∀q,Chg (Sx1 b) w q->∀i,i<N.nodes.length->q.cell? ⟨nb,no+i,none⟩=some (.int .i64 (iat N.nodes i))):=λq hq i hi=>hq.cellB (by omega) (hnc i hi)
 have HRF:Hid (rdFrm N S=idOf N.ways (nv S N.ways.length)):=rfl
 have HRT:Hid (rdTo N S=idOf N.ways (nv (ns S N.ways.length) N.ways.length)):=rfl
 have HR2:Hid (Zw N S=ns (ns S N.ways.length) N.ways.length):=rfl
 clear hwc hnc kn kw hN hS hok
 generalize N.rels.length=m2 at *
 generalize N.turns.length=m3 at *
 generalize hk:N.ways.length=k at *
 have HK:Hid (N.ways.length=k):=hk
 generalize hm:N.nodes.length=m0 at *
 have HM:=mh hm
 clear hk hm
 have HOK1:Hid (SOk (ns S k)):=Qm HOK.out _
 have HOK2:Hid (SOk (ns (ns S k) k)):=Qm HOK1.out _
 obtain⟨i1,hi1⟩:∃i:Nat,nv S k=i:=⟨(nv S k).toNat,by have:=(Qu HOK.out k).1;omega⟩
 obtain⟨i2,hi2⟩:∃i:Nat,nv (ns S k) k=i:=⟨(nv (ns S k) k).toNat,by have:=(Qu HOK1.out k).1;omega⟩
 have hl1':i1<k:=by have:=(Qu HOK.out k).2 (by omega);omega
 have hl2':i2<k:=by have:=(Qu HOK1.out k).2 (by omega);omega
 have HI1:Hid (nv S k=i1):=hi1
 have HI2:=mh hi2
 have hj1:(i1:Int)<k:=by omega
 have hj2:(i2:Int)<k:=by omega
 obtain⟨f1,hf1⟩:∃f,f=(wat N.ways i1).id:=⟨_,rfl⟩
 obtain⟨f2,hf2⟩:∃f,f=(wat N.ways i2).id:=⟨_,rfl⟩
 have HF1:Hid (rdFrm N S=f1):=by unfold Hid;rw[HRF.out,HI1.out,hf1];rfl
 have HF2:Hid (rdTo N S=f2):=by unfold Hid;rw[HRT.out,HI2.out,hf2];rfl
 have HSN:Hid (∀q S',RM0 D b w q S' #[.slice (some ⟨nb,no,none⟩) m0 t0,.slice (some ⟨wb,wo,none⟩) k c1,.slice r2 m2 t2,.slice r3 m3 t3,.int .i64 u]->(λq=>q.cell? ⟨w.heap.size,1,none⟩=some (.slice (some ⟨wb,wo,none⟩) k c1)/\q.cell? ⟨wb,wo+i1*4,none⟩=some (.int .i64 f1)/\q.cell? ⟨wb,wo+i2*4,none⟩=some (.int .i64 f2)) q):=λq S' h=>⟨h.box.blk.cell (i:=1) rfl,by rw[hf1];exact HWC.out q h.chg i1 hl1',by rw[hf2];exact HWC.out q h.chg i2 hl2'⟩
 clear hi1 hi2 hf1 hf2 HRF HRT
 go_enter Tryz.func78,Tryz.ntmps78
 go_upto_region 2 with fail
 generalize hWA:(w.alloc (.cells #[.slice (some ⟨nb,no,none⟩) m0 t0,.slice (some ⟨wb,wo,none⟩) k c1,.slice r2 m2 t2,.slice r3 m3 t3,.int .i64 u] 28)).alloc (.cells #[.int .i64 0,.bool false,.int .i64 0,.int .i64 0,.bool false,.int .i64 0,.slice none 0 0] 41)=wA
 have HR0:Hid (RM0 D b w wA S #[.slice (some ⟨nb,no,none⟩) m0 t0,.slice (some ⟨wb,wo,none⟩) k c1,.slice r2 m2 t2,.slice r3 m3 t3,.int .i64 u]):=by
  unfold Hid
  rw[<-hWA]
  exact⟨Chg.nx (box2 _ _ _),HS0.out.next (box2 _ _ _),(BT.new w _ _ _ rfl).alloc _,BT.new _ _ _ _ (by rw[Q1])⟩
 clear hWA
 have HRD:=mh (HR0.out.next (show Nx wA wA.drew from(Below.refl _ _).drew))
 have HSS:=mh (HSN.out _ _ HRD.out)
 have hmx:Tryz.prog.follows .mixedOrders=true:=by kernel_rfl
 go_cut [6] from 11 to 27 (λs6 wc=>∃g,s6=.pointer (some ⟨g,0,none⟩)/\RMs D b w wc (ns (ns S k) k) #[.slice (some ⟨nb,no,none⟩) m0 t0,.slice (some ⟨wb,wo,none⟩) k c1,.slice r2 m2 t2,.slice r3 m3 t3,.int .i64 u] g f1 f2 0 false (.slice none 0 0) [])
 case first=>
  refine(wpIn_wide (n:=9)).1 ?_
  refine Q9 (c:=18) (S:=λq=>q.cell? ⟨w.heap.size,1,none⟩=some (.slice (some ⟨wb,wo,none⟩) k c1)/\q.cell? ⟨wb,wo+i1*4,none⟩=some (.int .i64 f1)/\q.cell? ⟨wb,wo+i2*4,none⟩=some (.int .i64 f2)) hmx (by kernel_rfl) (λhw hcl=>?_)
  refine tq (i:=0) (v:=.pointer (some ⟨w.heap.size,1,none⟩)) (λhcl=>?_)
  refine tq (i:=1) (v:=.slice (some ⟨wb,wo,none⟩) k c1) (λhcl=>?_)
  refine tq (i:=2) (v:=.pointer (some ⟨b,0,none⟩)) (λhcl=>?_)
  refine tq (i:=3) (v:=.int .i64 (k:Int)) (λhcl=>?_)
  refine tq (i:=8) (v:=.pointer (some ⟨w.heap.size,1,none⟩)) (λhcl=>?_)
  refine tq (i:=9) (v:=.slice (some ⟨wb,wo,none⟩) k c1) (λhcl=>?_)
  refine tq (i:=10) (v:=.pointer (some ⟨b,0,none⟩)) (λhcl=>?_)
  refine tq (i:=11) (v:=.int .i64 (k:Int)) (λhcl=>?_)
  refine anyS_two2 (i:=4) (j:=17) (by kernel_rfl) hcl (λhcl=>wpOpIn_step rfl (λK hK=>?_)) (λhcl=>wpOpIn_step rfl (λK hK=>?_))
  ·go_simp
   refine⟨trivial,(callsIn_wide.2 (Qe D b S (k:Int) _ HRD.out.src HOK.out (by omega))).mono ?_⟩
   rintro e7 w1 ⟨rfl,hs1,hc1⟩
   rw[HI1.out]
   have HB1:=mh (HRD.out.drawn hs1 hc1)
   have HSS:=mh (HSN.out _ _ HB1.out)
   refine hK _ _ ⟨Or.inr HSS.out,?_⟩
   clear hK K hs1 hc1
   refine tq (i:=5) (v:=.pointer (some ⟨wb,wo+i1*4,none⟩)) (λhcl=>?_)
   refine tq (i:=6) (v:=.pointer (some ⟨wb,wo+i1*4,none⟩)) (λhcl=>?_)
   refine tq (i:=7) (v:=.int .i64 f1) (λhcl=>?_)
   refine anyS_two2 (i:=12) (j:=17) (by kernel_rfl) hcl (λhcl=>wpOpIn_step rfl (λK hK=>?_)) (λhcl=>wpOpIn_step rfl (λK hK=>?_))
   ·go_simp
    refine⟨trivial,(callsIn_wide.2 (Qe D b (ns S k) (k:Int) _ HB1.out.src HOK1.out (by omega))).mono ?_⟩
    rintro e7 w2 ⟨rfl,hs1,hc1⟩
    rw[HI2.out]
    have HB2:=mh (HB1.out.drawn hs1 hc1)
    have HSS:=mh (HSN.out _ _ HB2.out)
    refine hK _ _ ⟨Or.inr HSS.out,?_⟩
    clear hK K hs1 hc1
    refine tq (i:=13) (v:=.pointer (some ⟨wb,wo+i2*4,none⟩)) (λhcl=>?_)
    refine tq (i:=14) (v:=.pointer (some ⟨wb,wo+i2*4,none⟩)) (λhcl=>?_)
    refine tq (i:=15) (v:=.int .i64 f2) (λhcl=>?_)
    refine tq (i:=16) (v:=.agg #[.int .i64 0,.bool false,.int .i64 f1,.int .i64 f2,.bool false,.int .i64 0,.slice none 0 0]) (λhcl=>?_)
    refine Qg (i:=17) (by kernel_rfl) hcl (λhcl=>wpOpIn_step rfl (λK hK=>?_))
    go_simp
    generalize hWa:w2.alloc (.cells #[.int .i64 0,.bool false,.int .i64 0,.int .i64 0,.bool false,.int .i64 0,.slice none 0 0] 41)=wa
    have HA:Hid (RMs D b w wa (ns (ns S k) k) #[.slice (some ⟨nb,no,none⟩) m0 t0,.slice (some ⟨wb,wo,none⟩) k c1,.slice r2 m2 t2,.slice r3 m3 t3,.int .i64 u] w2.heap.size 0 0 0 false (.slice none 0 0) []):=by unfold Hid;rw[<-hWa];exact HB2.out.al
    clear hWa
    have HSS:=mh (HSN.out _ _ HA.out.toRM0)
    refine hK _ _ ⟨Or.inr HSS.out,?_⟩
    clear hK K
    have x0:=HA.out.rel.blk.cell (i:=0) rfl
    have x1:=HA.out.rel.blk.cell (i:=1) rfl
    have x2:=HA.out.rel.blk.cell (i:=2) rfl
    have x3:=HA.out.rel.blk.cell (i:=3) rfl
    have x4:=HA.out.rel.blk.cell (i:=4) rfl
    have x5:=HA.out.rel.blk.cell (i:=5) rfl
    have x6:=HA.out.rel.blk.cell (i:=6) rfl
    have z0:=HA.out.rel.blk.frozen 0
    have z1:=HA.out.rel.blk.frozen 1
    have z2:=HA.out.rel.blk.frozen 2
    have z3:=HA.out.rel.blk.frozen 3
    have z4:=HA.out.rel.blk.frozen 4
    have z5:=HA.out.rel.blk.frozen 5
    have z6:=HA.out.rel.blk.frozen 6
    refine Q5 (i:=18) (by kernel_rfl) (wpOpIn_step rfl (λK hK=>?_))
    go_simp
    refine hK _ _ ⟨Or.inl (by decide),?_⟩
    clear hK K
    refine Qj (by kernel_rfl) ?_ _
    go_wp2
    go_meet
    exact⟨w2.heap.size,rfl,HA.out.fill f1 f2⟩
   ·go_simp
    generalize hWa:w1.alloc (.cells #[.int .i64 0,.bool false,.int .i64 0,.int .i64 0,.bool false,.int .i64 0,.slice none 0 0] 41)=wa
    have HA:Hid (RMs D b w wa (ns S k) #[.slice (some ⟨nb,no,none⟩) m0 t0,.slice (some ⟨wb,wo,none⟩) k c1,.slice r2 m2 t2,.slice r3 m3 t3,.int .i64 u] w1.heap.size 0 0 0 false (.slice none 0 0) []):=by unfold Hid;rw[<-hWa];exact HB1.out.al
    clear hWa
    have HSS:=mh (HSN.out _ _ HA.out.toRM0)
    refine hK _ _ ⟨Or.inr HSS.out,?_⟩
    clear hK K
    refine Qg (i:=12) (by kernel_rfl) hcl (λhcl=>wpOpIn_step rfl (λK hK=>?_))
    go_simp
    refine⟨trivial,(callsIn_wide.2 (Qe D b (ns S k) (k:Int) _ HA.out.src HOK1.out (by omega))).mono ?_⟩
    rintro e7 w2 ⟨rfl,hs1,hc1⟩
    rw[HI2.out]
    have HA2:=mh (HA.out.drawn hs1 hc1)
    have HSS:=mh (HSN.out _ _ HA2.out.toRM0)
    refine hK _ _ ⟨Or.inr HSS.out,?_⟩
    clear hK K hs1 hc1
    refine tq (i:=13) (v:=.pointer (some ⟨wb,wo+i2*4,none⟩)) (λhcl=>?_)
    refine tq (i:=14) (v:=.pointer (some ⟨wb,wo+i2*4,none⟩)) (λhcl=>?_)
    refine tq (i:=15) (v:=.int .i64 f2) (λhcl=>?_)
    refine tq (i:=16) (v:=.agg #[.int .i64 0,.bool false,.int .i64 f1,.int .i64 f2,.bool false,.int .i64 0,.slice none 0 0]) (λhcl=>?_)
    have x0:=HA2.out.rel.blk.cell (i:=0) rfl
    have x1:=HA2.out.rel.blk.cell (i:=1) rfl
    have x2:=HA2.out.rel.blk.cell (i:=2) rfl
    have x3:=HA2.out.rel.blk.cell (i:=3) rfl
    have x4:=HA2.out.rel.blk.cell (i:=4) rfl
    have x5:=HA2.out.rel.blk.cell (i:=5) rfl
    have x6:=HA2.out.rel.blk.cell (i:=6) rfl
    have z0:=HA2.out.rel.blk.frozen 0
    have z1:=HA2.out.rel.blk.frozen 1
    have z2:=HA2.out.rel.blk.frozen 2
    have z3:=HA2.out.rel.blk.frozen 3
    have z4:=HA2.out.rel.blk.frozen 4
    have z5:=HA2.out.rel.blk.frozen 5
    have z6:=HA2.out.rel.blk.frozen 6
    refine Q5 (i:=18) (by kernel_rfl) (wpOpIn_step rfl (λK hK=>?_))
    go_simp
    refine hK _ _ ⟨Or.inl (by decide),?_⟩
    clear hK K
    refine Qj (by kernel_rfl) ?_ _
    go_wp2
    go_meet
    exact⟨w1.heap.size,rfl,HA2.out.fill f1 f2⟩
  ·go_simp
   generalize hWa:(wA.alloc (.cells #[.int .i64 0,.bool false,.int .i64 0,.int .i64 0,.bool false,.int .i64 0,.slice none 0 0] 41)).drew=wa
   have HA:Hid (RMs D b w wa S #[.slice (some ⟨nb,no,none⟩) m0 t0,.slice (some ⟨wb,wo,none⟩) k c1,.slice r2 m2 t2,.slice r3 m3 t3,.int .i64 u] wA.heap.size 0 0 0 false (.slice none 0 0) []):=by unfold Hid;rw[<-hWa];exact(HR0.out.al).next (show Nx _ _ from(Below.refl _ _).drew)
   clear hWa
   have HSS:=mh (HSN.out _ _ HA.out.toRM0)
   refine hK _ _ ⟨Or.inr HSS.out,?_⟩
   clear hK K
   refine Qg (i:=4) (by kernel_rfl) hcl (λhcl=>wpOpIn_step rfl (λK hK=>?_))
   go_simp
   refine⟨trivial,(callsIn_wide.2 (Qe D b S (k:Int) _ HA.out.src HOK.out (by omega))).mono ?_⟩
   rintro e7 w1 ⟨rfl,hs1,hc1⟩
   rw[HI1.out]
   have HA1:=mh (HA.out.drawn hs1 hc1)
   have HSS:=mh (HSN.out _ _ HA1.out.toRM0)
   refine hK _ _ ⟨Or.inr HSS.out,?_⟩
   clear hK K hs1 hc1
   refine tq (i:=5) (v:=.pointer (some ⟨wb,wo+i1*4,none⟩)) (λhcl=>?_)
   refine tq (i:=6) (v:=.pointer (some ⟨wb,wo+i1*4,none⟩)) (λhcl=>?_)
   refine tq (i:=7) (v:=.int .i64 f1) (λhcl=>?_)
   refine Qg (i:=12) (by kernel_rfl) hcl (λhcl=>wpOpIn_step rfl (λK hK=>?_))
   go_simp
   refine⟨trivial,(callsIn_wide.2 (Qe D b (ns S k) (k:Int) _ HA1.out.src HOK1.out (by omega))).mono ?_⟩
   rintro e7 w2 ⟨rfl,hs1,hc1⟩
   rw[HI2.out]
   have HA2:=mh (HA1.out.drawn hs1 hc1)
   have HSS:=mh (HSN.out _ _ HA2.out.toRM0)
   refine hK _ _ ⟨Or.inr HSS.out,?_⟩
   clear hK K hs1 hc1
   refine tq (i:=13) (v:=.pointer (some ⟨wb,wo+i2*4,none⟩)) (λhcl=>?_)
   refine tq (i:=14) (v:=.pointer (some ⟨wb,wo+i2*4,none⟩)) (λhcl=>?_)
   refine tq (i:=15) (v:=.int .i64 f2) (λhcl=>?_)
   refine tq (i:=16) (v:=.agg #[.int .i64 0,.bool false,.int .i64 f1,.int .i64 f2,.bool false,.int .i64 0,.slice none 0 0]) (λhcl=>?_)
   have x0:=HA2.out.rel.blk.cell (i:=0) rfl
   have x1:=HA2.out.rel.blk.cell (i:=1) rfl
   have x2:=HA2.out.rel.blk.cell (i:=2) rfl
   have x3:=HA2.out.rel.blk.cell (i:=3) rfl
   have x4:=HA2.out.rel.blk.cell (i:=4) rfl
   have x5:=HA2.out.rel.blk.cell (i:=5) rfl
   have x6:=HA2.out.rel.blk.cell (i:=6) rfl
   have z0:=HA2.out.rel.blk.frozen 0
   have z1:=HA2.out.rel.blk.frozen 1
   have z2:=HA2.out.rel.blk.frozen 2
   have z3:=HA2.out.rel.blk.frozen 3
   have z4:=HA2.out.rel.blk.frozen 4
   have z5:=HA2.out.rel.blk.frozen 5
   have z6:=HA2.out.rel.blk.frozen 6
   refine Q5 (i:=18) (by kernel_rfl) (wpOpIn_step rfl (λK hK=>?_))
   go_simp
   refine hK _ _ ⟨Or.inl (by decide),?_⟩
   clear hK K
   refine Qj (by kernel_rfl) ?_ _
   go_wp2
   go_meet
   exact⟨wA.heap.size,rfl,HA2.out.fill f1 f2⟩
 case rest=>
 obtain⟨g,rfl,hcut⟩:=hcut
 have HG:Hid (RMs D b w wc (ns (ns S k) k) #[.slice (some ⟨nb,no,none⟩) m0 t0,.slice (some ⟨wb,wo,none⟩) k c1,.slice r2 m2 t2,.slice r3 m3 t3,.int .i64 u] g f1 f2 0 false (.slice none 0 0) []):=hcut
 have HOK3:Hid (SOk (ns (ns (ns S k) k) 2)):=Qm HOK2.out _
 have HRR:Hid (Vq N S=if nv (Zw N S) 2=0 then ⟨0,false,rdFrm N S,rdTo N S,true,iat N.nodes (nv (ns (Zw N S) 2) N.nodes.length).toNat,[]⟩ else ⟨0,false,rdFrm N S,rdTo N S,false,0,(rdVia N S).l⟩):=rfl
 have HRS:Hid (Y8 N S=if nv (Zw N S) 2=0 then ns (ns (Zw N S) 2) N.nodes.length else (rdVia N S).S):=rfl
 have HRV:Hid (rdVia N S=Ys N.ways ⟨ns (ns (Zw N S) 2) 4,[]⟩ (1+nv (ns (Zw N S) 2) 4).toNat):=rfl
 rw[HR2.out,HF1.out,HF2.out,HM.out] at HRR
 rw[HR2.out,HM.out] at HRS
 rw[HR2.out] at HRV
 clear hcut HSS HRD HR0
 go_wp2_with fail
 refine(Qe D b (ns (ns S k) k) 2 wc HG.out.src HOK2.out (by omega)).mono ?_
 rintro e w3 ⟨rfl,hs1,hc1⟩
 have HG3:=mh (HG.out.drawn hs1 hc1)
 clear hs1 hc1 HG
 generalize nv (ns (ns S k) k) 2=d2 at *
 by_cases hd2:d2=0
 ·obtain⟨i3,hi3⟩:∃i:Nat,nv (ns (ns (ns S k) k) 2) m0=i:=⟨(nv (ns (ns (ns S k) k) 2) m0).toNat,by have:=(Qu HOK3.out m0).1;omega⟩
  have hl3:i3<m0:=by have:=(Qu HOK3.out m0).2 (by omega);omega
  have HI3:=mh hi3
  have hj3:(i3:Int)<m0:=by omega
  rw[if_pos hd2,HI3.out,Int.toNat_natCast] at HRR
  rw[if_pos hd2] at HRS
  obtain⟨z3,hz3⟩:∃z,z=iat N.nodes i3:=⟨_,rfl⟩
  rw[<-hz3] at HRR
  have HSM:Hid (∀q S',RM0 D b w q S' #[.slice (some ⟨nb,no,none⟩) m0 t0,.slice (some ⟨wb,wo,none⟩) k c1,.slice r2 m2 t2,.slice r3 m3 t3,.int .i64 u]->(λq=>q.cell? ⟨w.heap.size,0,none⟩=some (.slice (some ⟨nb,no,none⟩) m0 t0)/\q.cell? ⟨nb,no+i3,none⟩=some (.int .i64 z3)) q):=λq S' h=>⟨h.box.blk.cell (i:=0) rfl,by rw[hz3];exact HNC.out q h.chg i3 hl3⟩
  subst hd2
  have y4:=HG3.out.rel.blk.cell (i:=4) rfl
  have e4:=HG3.out.rel.blk.frozen 4
  clear hi3 hz3 HRV
  go_upto_region 5 with fail
  have HG4:=mh HG3.out.setVia
  generalize w3.setCell ⟨g,4,none⟩ (.bool true)=w3' at *
  clear y4 e4 HG3
  have HGD:=mh (HG4.out.next (show Nx w3' w3'.drew from(Below.refl _ _).drew))
  have HSS:=mh (HSM.out _ _ HGD.out.toRM0)
  refine(wpIn_wide (n:=9)).1 ?_
  refine Q9 (c:=10) (S:=λq=>q.cell? ⟨w.heap.size,0,none⟩=some (.slice (some ⟨nb,no,none⟩) m0 t0)/\q.cell? ⟨nb,no+i3,none⟩=some (.int .i64 z3)) hmx (by kernel_rfl) (λhw hcl=>?_)
  refine tq (i:=0) (v:=.pointer (some ⟨w.heap.size,0,none⟩)) (λhcl=>?_)
  refine tq (i:=1) (v:=.slice (some ⟨nb,no,none⟩) m0 t0) (λhcl=>?_)
  refine tq (i:=2) (v:=.pointer (some ⟨b,0,none⟩)) (λhcl=>?_)
  refine tq (i:=3) (v:=.pointer (some ⟨w.heap.size,0,none⟩)) (λhcl=>?_)
  refine tq (i:=4) (v:=.slice (some ⟨nb,no,none⟩) m0 t0) (λhcl=>?_)
  refine tq (i:=5) (v:=.int .i64 (m0:Int)) (λhcl=>?_)
  refine Qg (i:=6) (by kernel_rfl) hcl (λhcl=>wpOpIn_step rfl (λK hK=>?_))
  go_simp
  refine⟨trivial,(callsIn_wide.2 (Qe D b (ns (ns (ns S k) k) 2) (m0:Int) _ HGD.out.src HOK3.out (by omega))).mono ?_⟩
  rintro e7 w4 ⟨rfl,hs1,hc1⟩
  rw[HI3.out]
  have HG4:=mh (HGD.out.drawn hs1 hc1)
  have HSS:=mh (HSM.out _ _ HG4.out.toRM0)
  refine hK _ _ ⟨Or.inr HSS.out,?_⟩
  clear hK K hs1 hc1
  refine tq (i:=7) (v:=.pointer (some ⟨nb,no+i3,none⟩)) (λhcl=>?_)
  refine tq (i:=8) (v:=.int .i64 z3) (λhcl=>?_)
  refine tq (i:=9) (v:=.pointer (some ⟨g,5,none⟩)) (λhcl=>?_)
  have x5:=HG4.out.rel.blk.cell (i:=5) rfl
  have z5:=HG4.out.rel.blk.frozen 5
  refine Q5 (i:=10) (by kernel_rfl) (wpOpIn_step rfl (λK hK=>?_))
  go_simp
  refine hK _ _ ⟨Or.inl (by decide),?_⟩
  clear hK K
  refine Qj (by kernel_rfl) ?_ _
  clear x5 z5 hw hcl HSS
  have HG5:=mh (HG4.out.setNode z3)
  generalize w4.setCell ⟨g,5,none⟩ (.int .i64 z3)=w5 at *
  have y0:=HG5.out.rel.blk.cell (i:=0) rfl
  have y1:=HG5.out.rel.blk.cell (i:=1) rfl
  have y2:=HG5.out.rel.blk.cell (i:=2) rfl
  have y3:=HG5.out.rel.blk.cell (i:=3) rfl
  have y4:=HG5.out.rel.blk.cell (i:=4) rfl
  have y5:=HG5.out.rel.blk.cell (i:=5) rfl
  have y6:=HG5.out.rel.blk.cell (i:=6) rfl
  have x0:=HG5.out.res.blk.cell (i:=0) rfl
  have fz0:=HG5.out.res.blk.frozen 0
  have x1:=HG5.out.res.blk.cell (i:=1) rfl
  have fz1:=HG5.out.res.blk.frozen 1
  have x2:=HG5.out.res.blk.cell (i:=2) rfl
  have fz2:=HG5.out.res.blk.frozen 2
  have x3:=HG5.out.res.blk.cell (i:=3) rfl
  have fz3:=HG5.out.res.blk.frozen 3
  have x4:=HG5.out.res.blk.cell (i:=4) rfl
  have fz4:=HG5.out.res.blk.frozen 4
  have x5:=HG5.out.res.blk.cell (i:=5) rfl
  have fz5:=HG5.out.res.blk.frozen 5
  have x6:=HG5.out.res.blk.cell (i:=6) rfl
  have fz6:=HG5.out.res.blk.frozen 6
  have BR:=set7 (a0:=.int .i64 0) (a1:=.bool false) (a2:=.int .i64 f1) (a3:=.int .i64 f2) (a4:=.bool true) (a5:=.int .i64 z3) (a6:=.slice none 0 0) HG5.out.res
  have P0:=mh (BR.blk.cell (i:=0) rfl)
  have P1:=mh (BR.blk.cell (i:=1) rfl)
  have P2:=mh (BR.blk.cell (i:=2) rfl)
  have P3:=mh (BR.blk.cell (i:=3) rfl)
  have P4:=mh (BR.blk.cell (i:=4) rfl)
  have P5:=mh (BR.blk.cell (i:=5) rfl)
  have P6:=mh (BR.blk.cell (i:=6) rfl)
  clear BR
  go_wp2
  generalize hWF:(((((((w5.setCell ⟨w.heap.size+1,0,none⟩ (.int .i64 0)).setCell ⟨w.heap.size+1,1,none⟩ (.bool false)).setCell ⟨w.heap.size+1,2,none⟩ (.int .i64 f1)).setCell ⟨w.heap.size+1,3,none⟩ (.int .i64 f2)).setCell ⟨w.heap.size+1,4,none⟩ (.bool true)).setCell ⟨w.heap.size+1,5,none⟩ (.int .i64 z3)).setCell ⟨w.heap.size+1,6,none⟩ (.slice none 0 0))=wF at P0 P1 P2 P3 P4 P5 P6 ⊢
  have p0:=P0.out
  have p1:=P1.out
  have p2:=P2.out
  have p3:=P3.out
  have p4:=P4.out
  have p5:=P5.out
  have p6:=P6.out
  refine bodyPost_ret (v:=.agg #[.int .i64 0,.bool false,.int .i64 f1,.int .i64 f2,.bool true,.int .i64 z3,.slice none 0 0]) (by simp[results,Tryz.results78,go_sem,p0,p1,p2,p3,p4,p5,p6]) rfl ?_
  rw[HRR.out,HRS.out]
  have hO:=HG5.out.out (chg7 (a0:=.int .i64 0) (a1:=.bool false) (a2:=.int .i64 f1) (a3:=.int .i64 f2) (a4:=.bool true) (a5:=.int .i64 z3) (a6:=.slice none 0 0))
  rw[hWF] at hO
  exact⟨_,rfl,hO.1,hO.2.1,hO.2.2⟩
 ·have hb2:(d2==0)=false:=by simpa using hd2
  rw[if_neg hd2] at HRR HRS
  clear hd2
  go_wp2_with fail
  refine(Qe D b (ns (ns (ns S k) k) 2) 4 w3 HG3.out.src HOK3.out (by omega)).mono ?_
  rintro e w4 ⟨rfl,hs1,hc1⟩
  have HG4:=mh (HG3.out.drawn hs1 hc1)
  have HOK4:Hid (SOk (ns (ns (ns (ns S k) k) 2) 4)):=Qm HOK3.out _
  have hv4:=Qu HOK3.out 4
  obtain⟨M,hM⟩:∃M:Nat,1+nv (ns (ns (ns S k) k) 2) 4=M:=⟨(1+nv (ns (ns (ns S k) k) 2) 4).toNat,by omega⟩
  have hM4:M<=4:=by omega
  rw[hM,Int.toNat_natCast] at HRV
  have HMM:=mh hM
  generalize nv (ns (ns (ns S k) k) 2) 4=d4 at *
  clear hs1 hc1 HG3
  obtain⟨x0,hx0⟩:∃x:RvSt,x=⟨ns (ns (ns (ns S k) k) 2) 4,[]⟩:=⟨_,rfl⟩
  rw[<-hx0] at HRV
  have HXO:Hid (∀j,SOk (Ys N.ways x0 j).S/\(Ys N.ways x0 j).l.length=j/\(Ys N.ways x0 j).S.size=x0.S.size):=by rw[hx0];exact rvTo_ok HOK4.out rfl
  have HG5:Hid (RMs D b w w4 (Ys N.ways x0 0).S #[.slice (some ⟨nb,no,none⟩) m0 t0,.slice (some ⟨wb,wo,none⟩) k c1,.slice r2 m2 t2,.slice r3 m3 t3,.int .i64 u] g f1 f2 0 false (.slice none 0 0) (Ys N.ways x0 0).l):=by rw[hx0];exact HG4.out
  clear hx0 HG4 hM
  go_wp2
  rw[HMM.out]
  clear HMM hv4
  go_loopw [7] (λs7 wr=>∃(l j c:Nat) (a:Option Addr),l+j=M/\s7=.int .i64 (l:Int)/\Hid (RMs D b w wr (Ys N.ways x0 j).S #[.slice (some ⟨nb,no,none⟩) m0 t0,.slice (some ⟨wb,wo,none⟩) k c1,.slice r2 m2 t2,.slice r3 m3 t3,.int .i64 u] g f1 f2 0 false (.slice a j c) (Ys N.ways x0 j).l)) (λi _=>(intOf i).toNat)
  case atStart=>exact⟨M,0,0,none,rfl,rfl,HG5⟩
  obtain⟨l,j,c,a,hlj,rfl,HGj⟩:=hrel
  by_cases hl:0<l
  ·have hl':(0:Int)<l:=by omega
   obtain⟨HOKj',HLj',_⟩:=HXO.out j
   have HOKj:=mh HOKj'
   have HLj:=mh HLj'
   obtain⟨i4,hi4⟩:∃i:Nat,nv (Ys N.ways x0 j).S k=i:=⟨(nv (Ys N.ways x0 j).S k).toNat,by have:=(Qu HOKj.out k).1;omega⟩
   have hl4:i4<k:=by have:=(Qu HOKj.out k).2 (by omega);omega
   have HI4:=mh hi4
   have hj4:(i4:Int)<k:=by omega
   obtain⟨z4,hz4⟩:∃z,z=(wat N.ways i4).id:=⟨_,rfl⟩
   have HSTEP:Hid (Ys N.ways x0 (j+1)=⟨ns (Ys N.ways x0 j).S k,(Ys N.ways x0 j).l++[z4]⟩):=by
    unfold Hid
    show rvStep N.ways (Ys N.ways x0 j)=_
    unfold rvStep idOf
    rw[HK.out,HI4.out,Int.toNat_natCast,hz4]
   have HSTEPl:Hid ((Ys N.ways x0 (j+1)).l=(Ys N.ways x0 j).l++[z4]):=by unfold Hid;rw[HSTEP.out]
   have HSTEPs:Hid ((Ys N.ways x0 (j+1)).S=ns (Ys N.ways x0 j).S k):=by unfold Hid;rw[HSTEP.out]
   have HID4:Hid (∀q,Chg (Sx1 b) w q->q.cell? ⟨wb,wo+i4*4,none⟩=some (.int .i64 z4)):=λq hq=>by rw[hz4];exact HWC.out q hq i4 hl4
   have HSP:Hid (∀q S',RMs D b w q S' #[.slice (some ⟨nb,no,none⟩) m0 t0,.slice (some ⟨wb,wo,none⟩) k c1,.slice r2 m2 t2,.slice r3 m3 t3,.int .i64 u] g f1 f2 0 false (.slice a j c) (Ys N.ways x0 j).l->∀{q'},Nx q q'->(λq=>q.cell? ⟨g,6,none⟩=some (.slice a j c)/\q.cell? ⟨w.heap.size,1,none⟩=some (.slice (some ⟨wb,wo,none⟩) k c1)/\q.cell? ⟨wb,wo+i4*4,none⟩=some (.int .i64 z4)) q'):=λq S' h q' hq=>⟨Q3 hq (h.rel.blk.cell (i:=6) rfl),Q3 hq (h.box.blk.cell (i:=1) rfl),Q3 hq (HID4.out q h.chg)⟩
   clear hi4 hz4 HSTEP HOKj' HLj'
   go_upto_region 10 with fail
   have HGD:=mh (HGj.out.next (show Nx wr wr.drew from(Below.refl _ _).drew))
   have HSS:=mh (HSP.out _ _ HGD.out (Nx.refl _))
   refine(wpIn_wide (n:=9)).1 ?_
   refine Q9 (c:=13) (S:=λq=>q.cell? ⟨g,6,none⟩=some (.slice a j c)/\q.cell? ⟨w.heap.size,1,none⟩=some (.slice (some ⟨wb,wo,none⟩) k c1)/\q.cell? ⟨wb,wo+i4*4,none⟩=some (.int .i64 z4)) hmx (by kernel_rfl) (λhw hcl=>?_)
   refine tq (i:=0) (v:=.pointer (some ⟨g,6,none⟩)) (λhcl=>?_)
   refine tq (i:=1) (v:=.slice a j c) (λhcl=>?_)
   refine tq (i:=2) (v:=.pointer (some ⟨w.heap.size,1,none⟩)) (λhcl=>?_)
   refine tq (i:=3) (v:=.slice (some ⟨wb,wo,none⟩) k c1) (λhcl=>?_)
   refine tq (i:=4) (v:=.pointer (some ⟨b,0,none⟩)) (λhcl=>?_)
   refine tq (i:=5) (v:=.int .i64 (k:Int)) (λhcl=>?_)
   refine Qg (i:=6) (by kernel_rfl) hcl (λhcl=>wpOpIn_step rfl (λK hK=>?_))
   go_simp
   refine⟨trivial,(callsIn_wide.2 (Qe D b (Ys N.ways x0 j).S (k:Int) _ HGD.out.src HOKj.out (by omega))).mono ?_⟩
   rintro e7 w4 ⟨rfl,hs1,hc1⟩
   rw[HI4.out]
   have HG4:=mh (HGD.out.drawn hs1 hc1)
   have HSS:=mh (HSP.out _ _ HG4.out (Nx.refl _))
   refine hK _ _ ⟨Or.inr HSS.out,?_⟩
   clear hK K hs1 hc1
   refine tq (i:=7) (v:=.pointer (some ⟨wb,wo+i4*4,none⟩)) (λhcl=>?_)
   refine tq (i:=8) (v:=.pointer (some ⟨wb,wo+i4*4,none⟩)) (λhcl=>?_)
   refine tq (i:=9) (v:=.int .i64 z4) (λhcl=>?_)
   refine Qg (i:=10) (by kernel_rfl) hcl (λhcl=>wpOpIn_step rfl (λK hK=>?_))
   go_simp
   refine hK _ _ ⟨Or.inr (HSP.out _ _ HG4.out (Qc _ _)),?_⟩
   clear hK K
   refine Qg (i:=11) (by kernel_rfl) hcl (λhcl=>wpOpIn_step rfl (λK hK=>?_))
   have hz4:w.heap.size<=w4.heap.size:=HG4.out.chg.size
   refine Zc rfl (.tmp 51) (.tmp 60) rfl w.heap.size j (.slice a j c) (Ys N.ways x0 j).l z4 w4 _ rfl (by simp[Act.eval]) HG4.out.row (by simp[Act.eval]) HLj.out (by omega) hz4 ?_
   intro a8 c8 w8 r1 r2 r3
   have HG8:=mh (HG4.out.addWay r1 r2)
   have HB8:=mh (HG4.out.rel.row HG4.out.row (by decide) r2)
   have HS8:Hid ((λq=>q.cell? ⟨g,6,none⟩=some (.slice a j c)/\q.cell? ⟨w.heap.size,1,none⟩=some (.slice (some ⟨wb,wo,none⟩) k c1)/\q.cell? ⟨wb,wo+i4*4,none⟩=some (.int .i64 z4)) w8):=⟨HB8.out.blk.cell (i:=6) rfl,(HG4.out.box.row HG4.out.row (by decide) r2).blk.cell (i:=1) rfl,HID4.out _ (HG4.out.chg.young r2 (λx hx hl=>by have:=(Qf HG4.out.row x hx.symm).1;omega))⟩
   refine hK _ _ ⟨Or.inr HS8.out,?_⟩
   clear hK K r1 r2 r3
   have x6:=HB8.out.blk.cell (i:=6) rfl
   have z6:=HB8.out.blk.frozen 6
   refine Qg (i:=12) (by kernel_rfl) hcl (λhcl=>wpOpIn_step rfl (λK hK=>?_))
   go_simp
   refine hK _ _ ⟨Or.inr HS8.out,?_⟩
   clear hK K
   refine Q5 (i:=13) (by kernel_rfl) (wpOpIn_step rfl (λK hK=>?_))
   go_simp
   refine hK _ _ ⟨Or.inl (by decide),?_⟩
   clear hK K
   refine Qj (by kernel_rfl) ?_ _
   clear x6 z6 hw hcl HSS HS8 HB8
   rw[<-HSTEPl.out] at HG8
   generalize w8.setCell ⟨g,6,none⟩ (.slice a8 (j+1) c8)=w9 at *
   rw[<-HSTEPs.out] at HG8
   obtain⟨l',rfl⟩:∃l',l=l'+1:=⟨l-1,by omega⟩
   have hwr:IntKind.i64.wrap (l':Int)=l':=U6 _ (by omega)
   clear hl hl'
   go_wp2
   go_roundw
   case rel=>exact⟨l',j+1,c8,a8,by omega,by go_num,HG8⟩
   case measure=>simp[intOf]
  ·have hl0:l=0:=by omega
   subst hl0
   have hjM:j=M:=by omega
   subst hjM
   clear hlj hl
   rw[<-HRV.out] at HGj
   generalize hvl:(rdVia N S).l=vl at *
   generalize (rdVia N S).S=vS at *
   clear hvl
   have y0:=HGj.out.rel.blk.cell (i:=0) rfl
   have y1:=HGj.out.rel.blk.cell (i:=1) rfl
   have y2:=HGj.out.rel.blk.cell (i:=2) rfl
   have y3:=HGj.out.rel.blk.cell (i:=3) rfl
   have y4:=HGj.out.rel.blk.cell (i:=4) rfl
   have y5:=HGj.out.rel.blk.cell (i:=5) rfl
   have y6:=HGj.out.rel.blk.cell (i:=6) rfl
   have x0:=HGj.out.res.blk.cell (i:=0) rfl
   have fz0:=HGj.out.res.blk.frozen 0
   have x1:=HGj.out.res.blk.cell (i:=1) rfl
   have fz1:=HGj.out.res.blk.frozen 1
   have x2:=HGj.out.res.blk.cell (i:=2) rfl
   have fz2:=HGj.out.res.blk.frozen 2
   have x3:=HGj.out.res.blk.cell (i:=3) rfl
   have fz3:=HGj.out.res.blk.frozen 3
   have x4:=HGj.out.res.blk.cell (i:=4) rfl
   have fz4:=HGj.out.res.blk.frozen 4
   have x5:=HGj.out.res.blk.cell (i:=5) rfl
   have fz5:=HGj.out.res.blk.frozen 5
   have x6:=HGj.out.res.blk.cell (i:=6) rfl
   have fz6:=HGj.out.res.blk.frozen 6
   have BR:=set7 (a0:=.int .i64 0) (a1:=.bool false) (a2:=.int .i64 f1) (a3:=.int .i64 f2) (a4:=.bool false) (a5:=.int .i64 0) (a6:=.slice a j c) HGj.out.res
   have P0:=mh (BR.blk.cell (i:=0) rfl)
   have P1:=mh (BR.blk.cell (i:=1) rfl)
   have P2:=mh (BR.blk.cell (i:=2) rfl)
   have P3:=mh (BR.blk.cell (i:=3) rfl)
   have P4:=mh (BR.blk.cell (i:=4) rfl)
   have P5:=mh (BR.blk.cell (i:=5) rfl)
   have P6:=mh (BR.blk.cell (i:=6) rfl)
   clear BR
   go_wp2
   generalize hWF:(((((((wr.setCell ⟨w.heap.size+1,0,none⟩ (.int .i64 0)).setCell ⟨w.heap.size+1,1,none⟩ (.bool false)).setCell ⟨w.heap.size+1,2,none⟩ (.int .i64 f1)).setCell ⟨w.heap.size+1,3,none⟩ (.int .i64 f2)).setCell ⟨w.heap.size+1,4,none⟩ (.bool false)).setCell ⟨w.heap.size+1,5,none⟩ (.int .i64 0)).setCell ⟨w.heap.size+1,6,none⟩ (.slice a j c))=wF at P0 P1 P2 P3 P4 P5 P6 ⊢
   have p0:=P0.out
   have p1:=P1.out
   have p2:=P2.out
   have p3:=P3.out
   have p4:=P4.out
   have p5:=P5.out
   have p6:=P6.out
   refine bodyPost_ret (v:=.agg #[.int .i64 0,.bool false,.int .i64 f1,.int .i64 f2,.bool false,.int .i64 0,.slice a j c]) (by simp[results,Tryz.results78,go_sem,p0,p1,p2,p3,p4,p5,p6]) rfl ?_
   rw[HRR.out,HRS.out]
   have hO:=HGj.out.out (chg7 (a0:=.int .i64 0) (a1:=.bool false) (a2:=.int .i64 f1) (a3:=.int .i64 f2) (a4:=.bool false) (a5:=.int .i64 0) (a6:=.slice a j c))
   rw[hWF] at hO
   exact⟨_,rfl,hO.1,hO.2.1,hO.2.2⟩
structure FR (D b:Nat)(w0 w:World)(S:Src)(bl:List (Nat×Array Value×Nat)):Prop where
 chg:Chg (Sx1 b) w0 w
 src:Jg D w b S
 bx:∀p∈bl,BT w p.1 p.2.1 p.2.2/\w0.heap.size<=p.1
 ty:∀p∈bl,p.2.2≠73/\p.2.2≠5/\p.2.2≠2
 nd:(bl.map (·.1)).Nodup
section
variable {D b g:Nat}{w0 w w':World}{S S':Src}{bl:List (Nat×Array Value×Nat)}
theorem FR.at (h:FR D b w0 w S bl)(k:Nat){p:Nat×Array Value×Nat}(hk:bl[k]?=some p):BT w p.1 p.2.1 p.2.2:=(h.bx p (List.mem_of_getElem? hk)).1
theorem FR.next (h:FR D b w0 w S bl)(k:Nx w w'):FR D b w0 w' S bl:=⟨h.chg.trans (Chg.nx k),h.src.next k,λp hp=>⟨(h.bx p hp).1.next k,(h.bx p hp).2⟩,h.ty,h.nd⟩
theorem FR.drawn (h:FR D b w0 w S bl)(hS:Jg D w' b S')(k:Chg (Sx1 b) w w'):FR D b w0 w' S' bl:=by
 obtain⟨v,hb,_⟩:=h.src
 exact⟨h.chg.trans k,hS,λp hp=>⟨(h.bx p hp).1.chg k ((h.bx p hp).1.ne hb (h.ty p hp).1),(h.bx p hp).2⟩,h.ty,h.nd⟩
theorem FR.alloc (h:FR D b w0 w S bl)(cs:Array Value)(t:Nat)(ht:t≠73/\t≠5/\t≠2):FR D b w0 (w.alloc (.cells cs t)) S (bl++[(w.heap.size,cs,t)]):=by
 have k:=h.next (Qc w (.cells cs t))
 refine⟨k.chg,k.src,λp hp=>?_,λp hp=>?_,?_⟩
 ·rcases List.mem_append.1 hp with g|g
  ·exact k.bx p g
  ·have e:p=(w.heap.size,cs,t):=by simpa using g
   subst e
   exact⟨BT.new _ _ _ _ rfl,h.chg.size⟩
 ·rcases List.mem_append.1 hp with g|g
  ·exact k.ty p g
  ·have e:p=(w.heap.size,cs,t):=by simpa using g
   subst e
   exact ht
 ·rw[List.map_append,List.nodup_append]
  refine⟨h.nd,by simp,λx hx y hy=>?_⟩
  obtain⟨p,hp,rfl⟩:=List.mem_map.1 hx
  have e:y=w.heap.size:=by simpa using hy
  have:=(h.bx p hp).1.lt
  omega
theorem FR.other (h:FR D b w0 w S bl){k:Nat}{g t:Nat}{cs:Array Value}(hk:bl[k]?=some (g,cs,t)){j:Nat}{p:Nat×Array Value×Nat}(hj:bl[j]?=some p)(hn:j≠k):p.1≠g:=by
 intro e
 have h1:(bl.map (·.1))[j]?=some g:=by rw[List.getElem?_map,hj];simp[e]
 have h2:(bl.map (·.1))[k]?=some g:=by rw[List.getElem?_map,hk];rfl
 obtain⟨l1,e1⟩:=List.getElem?_eq_some_iff.1 h1
 obtain⟨l2,e2⟩:=List.getElem?_eq_some_iff.1 h2
 rcases Nat.lt_trichotomy j k with q|q|q
 ·exact List.pairwise_iff_getElem.1 h.nd j k l1 l2 q (e1.trans e2.symm)
 ·exact hn q
 ·exact List.pairwise_iff_getElem.1 h.nd k j l2 l1 q (e2.trans e1.symm)
theorem FR.turn (h:FR D b w0 w S bl)(k:Nat){g t:Nat}{cs cs':Array Value}(hk:bl[k]?=some (g,cs,t))(hc:Chg (λx=>x=g) w w')(hb:BT w' g cs' t):FR D b w0 w' S (bl.set k (g,cs',t)):=by
 have hg:=h.bx _ (List.mem_of_getElem? hk)
 have ht:=h.ty _ (List.mem_of_getElem? hk)
 have key:∀p∈bl.set k (g,cs',t),(BT w' p.1 p.2.1 p.2.2/\w0.heap.size<=p.1)/\p.2.2≠73/\p.2.2≠5/\p.2.2≠2:=λp hp=>by
  obtain⟨j,hj⟩:=List.getElem?_of_mem hp
  by_cases e:j=k
  ·subst e
   have e1:p=(g,cs',t):=by
    rw[List.getElem?_set_self (List.getElem?_eq_some_iff.1 hk).1] at hj
    exact(Option.some.inj hj).symm
   subst e1
   exact⟨⟨hb,hg.2⟩,ht⟩
  ·rw[List.getElem?_set_ne (λe'=>e e'.symm)] at hj
   have hm:=List.mem_of_getElem? hj
   exact⟨⟨(h.bx p hm).1.chg hc (h.other hk hj e),(h.bx p hm).2⟩,h.ty p hm⟩
 refine⟨h.chg.young hc (λx hx hl=>by have hx':x=g:=hx;have:=hg.2;simp only at this;omega),h.src.chg hc (λx hx=>?_),λp hp=>(key p hp).1,λp hp=>(key p hp).2,?_⟩
 ·have hx':x=g:=hx
  subst hx'
  exact⟨_,_,hg.1,ht.1,ht.2.1⟩
 ·rw[List.map_set]
  have e:(bl.map (·.1)).set k g=bl.map (·.1):=by
   apply List.ext_getElem?
   intro j
   by_cases e:j=k
   ·subst e
    rw[List.getElem?_set_self (by rw[List.length_map];exact(List.getElem?_eq_some_iff.1 hk).1),List.getElem?_map,hk]
    rfl
   ·rw[List.getElem?_set_ne (λe'=>e e'.symm)]
  show(List.map (λx=>x.1) bl |>.set k g).Nodup
  rw[e]
  exact h.nd
theorem FR.set (h:FR D b w0 w S bl)(k:Nat){g t:Nat}{cs:Array Value}(hk:bl[k]?=some (g,cs,t))(i:Nat)(v:Value):FR D b w0 (w.setCell ⟨g,i,none⟩ v) S (bl.set k (g,cs.setIfInBounds i v,t)):=
 h.turn k hk (Chg.set _ _ _ rfl) ((h.at k hk).set i v)
theorem FR.grow (h:FR D b w0 w S bl){v:Value}{zs:List Int}{C:Nat}(ho:Q6 C w v zs)(hC:w0.heap.size<=C)(hc:Chg (λx=>some x=v.ownBlock) w w'):FR D b w0 w' S bl:=
 ⟨h.chg.young hc (λx hx hl=>by have:=(Qf ho x hx.symm).1;omega),h.src.row ho (by decide) (by decide) hc,λp hp=>⟨(h.bx p hp).1.row ho (h.ty p hp).2.2 hc,(h.bx p hp).2⟩,h.ty,h.nd⟩
theorem FR.rowDrawn (h:FR D b w0 w S bl){v:Value}{zs:List Int}{C:Nat}(ho:Q6 C w v zs)(k:Chg (Sx1 b) w w'):Q6 C w' v zs:=by
 obtain⟨u,hb,_⟩:=h.src
 exact Qz ho k (λx hx e=>by
  have e':x=b:=e
  subst e'
  exact hb.neRow ho (by decide) hx.symm)
theorem FR.rowTurn (h:FR D b w0 w S bl)(k:Nat){g t:Nat}{cs:Array Value}(hk:bl[k]?=some (g,cs,t)){v:Value}{zs:List Int}{C:Nat}(ho:Q6 C w v zs)(hc:Chg (λx=>x=g) w w'):Q6 C w' v zs:=
 Qz ho hc (λx hx e=>by
  have e':x=g:=e
  subst e'
  exact(h.at k hk).neRow ho (h.ty _ (List.mem_of_getElem? hk)).2.2 hx.symm)
end
theorem Chg.keepsB {b B:Nat}{w w':World}(h:Chg (Sx1 b) w w')(hB:b<B):Yc B w w':=
 ⟨h.size,λg hg hs o=>by
  have hb:=h.block g hs (show ¬g=b by omega)
  unfold World.cell?
  simp only[hb]⟩
def ewy (es:List Eg)(e:Int):Int:=(eat es e.toNat).way
def hdN (l:List Nat):Nat:=l.headD 0
def laL (l:List Nat):Nat:=l.getLastD 0
def ltd (ts:List (List Nat))(i:Nat):List Nat:=ts.getD i []
structure MrSt where
 S:Src
 fin:Int
 ways:List Int
 stop:Bool
def U4 (ws:List Wy)(es:List Eg)(ts:List (List Nat))(e:Nat)(x:Int×List Int):Nat->Int×List Int
 |0=>x
 |i+1=>if hdN (ltd ts i)=e/\(U4 ws es ts e x i).2.length<4 then ((eat es (laL (ltd ts i))).head,(U4 ws es ts e x i).2++[idOf ws (ewy es e)]) else U4 ws es ts e x i
def mrIn (N:Nt)(es:List Eg)(e:Nat)(x:Int×List Int):Int×List Int:=U4 N.ways es (J1 N es (ewy es e).toNat) e x (J1 N es (ewy es e).toNat).length
def mrStep (N:Nt)(es:List Eg)(x:MrSt):MrSt:=
 if x.stop then x else if pkV es x.fin true x.S<0 then ⟨pkS es x.fin true x.S,x.fin,x.ways,true⟩
 else ⟨pkS es x.fin true x.S,(mrIn N es (pkV es x.fin true x.S).toNat (x.fin,x.ways)).1,(mrIn N es (pkV es x.fin true x.S).toNat (x.fin,x.ways)).2,false⟩
def Xf (N:Nt)(es:List Eg)(x:MrSt):Nat->MrSt
 |0=>x
 |k+1=>mrStep N es (Xf N es x k)
def dnA (es:List Eg)(S1:Src):Int:=nv S1 es.length
def dnHd (es:List Eg)(S1:Src):Int:=(eat es (dnA es S1).toNat).head
def dnB (es:List Eg)(S1:Src):Int:=pkV es (dnHd es S1) true (ns S1 es.length)
def dnS (es:List Eg)(S1:Src):Src:=pkS es (dnHd es S1) true (ns S1 es.length)
def dwW (N:Nt)(S1:Src):Nat:=(nv S1 N.ways.length).toNat
def dwT (N:Nt)(es:List Eg)(S1:Src):List (List Nat):=J1 N es (dwW N S1)
def dwLi (N:Nt)(es:List Eg)(S1:Src):List Nat:=ltd (dwT N es S1) (nv (ns S1 N.ways.length) (dwT N es S1).length).toNat
def dwS3 (N:Nt)(es:List Eg)(S1:Src):Src:=ns (ns S1 N.ways.length) (dwT N es S1).length
def dwTl (N:Nt)(es:List Eg)(S1:Src):Int:=(eat es (hdN (dwLi N es S1))).tail
def dwA (N:Nt)(es:List Eg)(S1:Src):Int:=pkV es (dwTl N es S1) false (dwS3 N es S1)
def dwS4 (N:Nt)(es:List Eg)(S1:Src):Src:=pkS es (dwTl N es S1) false (dwS3 N es S1)
def dwX (N:Nt)(es:List Eg)(S1:Src):MrSt:=⟨ns (dwS4 N es S1) 3,(eat es (laL (dwLi N es S1))).head,[(wat N.ways (dwW N S1)).id],false⟩
def dwM (N:Nt)(es:List Eg)(S1:Src):MrSt:=Xf N es (dwX N es S1) (nv (dwS4 N es S1) 3).toNat
def dwB (N:Nt)(es:List Eg)(S1:Src):Int:=pkV es (dwM N es S1).fin true (dwM N es S1).S
def dwS7 (N:Nt)(es:List Eg)(S1:Src):Src:=pkS es (dwM N es S1).fin true (dwM N es S1).S
def drR (N:Nt)(R:Rd)(S:Src):Rl:=
 if nv S 10=0\/R.edges.length=0 then Vq N (ns S 10)
 else if nv S 10<6 then
  if dnB R.edges (ns S 10)<0 then Vq N (dnS R.edges (ns S 10))
  else ⟨0,false,idOf N.ways (ewy R.edges (dnA R.edges (ns S 10))),idOf N.ways (ewy R.edges (dnB R.edges (ns S 10))),true,iat R.nodes (dnHd R.edges (ns S 10)).toNat,[]⟩
 else if dwA N R.edges (ns S 10)<0\/dwB N R.edges (ns S 10)<0 then Vq N (dwS7 N R.edges (ns S 10))
 else ⟨0,false,idOf N.ways (ewy R.edges (dwA N R.edges (ns S 10))),idOf N.ways (ewy R.edges (dwB N R.edges (ns S 10))),false,0,(dwM N R.edges (ns S 10)).ways⟩
def drS (N:Nt)(R:Rd)(S:Src):Src:=
 if nv S 10=0\/R.edges.length=0 then Y8 N (ns S 10)
 else if nv S 10<6 then
  if dnB R.edges (ns S 10)<0 then Y8 N (dnS R.edges (ns S 10)) else dnS R.edges (ns S 10)
 else if dwA N R.edges (ns S 10)<0\/dwB N R.edges (ns S 10)<0 then Y8 N (dwS7 N R.edges (ns S 10)) else dwS7 N R.edges (ns S 10)
theorem Z9 {es:List Eg}{nd:Int}{out:Bool}{S:Src}(h:SOk S):SOk (pkS es nd out S)/\(pkS es nd out S).size=S.size:=by
 unfold pkS
 split
 ·exact⟨h,rfl⟩
 ·exact⟨Qm h _,Qr _ _⟩
theorem pickTo_in (es:List Eg)(nd:Int)(out:Bool):∀k,∀x∈Jf es nd out k,∃e:Nat,x=e/\e<k
 |0,x,hx=>by simp[Jf] at hx
 |k+1,x,hx=>by
  unfold Jf at hx
  split at hx
  ·rcases List.mem_append.1 hx with g|g
   ·obtain⟨e,h1,h2⟩:=pickTo_in es nd out k x g
    exact⟨e,h1,by omega⟩
   ·exact⟨k,by simpa using g,by omega⟩
  ·obtain⟨e,h1,h2⟩:=pickTo_in es nd out k x hx
   exact⟨e,h1,by omega⟩
theorem pkV_in {es:List Eg}{nd:Int}{out:Bool}{S:Src}(h:SOk S):pkV es nd out S=-1\/∃e:Nat,pkV es nd out S=e/\e<es.length:=by
 unfold pkV
 split
 ·exact Or.inl rfl
 ·rename_i q
  have k:=Qu h ((Jf es nd out es.length).length:Int)
  have hi:(nv S (Jf es nd out es.length).length).toNat<(Jf es nd out es.length).length:=by
   have:=k.2 (by omega)
   omega
  rw[Vp hi]
  exact Or.inr (pickTo_in es nd out es.length _ (List.getElem_mem hi))
theorem mrTo_ok {N:Nt}{es:List Eg}{x:MrSt}(h:SOk x.S):∀k,SOk (Xf N es x k).S/\(Xf N es x k).S.size=x.S.size
 |0=>⟨h,rfl⟩
 |k+1=>by
  have k1:=mrTo_ok (N:=N) (es:=es) h k
  have e:Xf N es x (k+1)=mrStep N es (Xf N es x k):=rfl
  rw[e]
  unfold mrStep
  split
  ·exact k1
  ·split
   ·exact⟨(Z9 k1.1).1,(Z9 k1.1).2.trans k1.2⟩
   ·exact⟨(Z9 k1.1).1,(Z9 k1.1).2.trans k1.2⟩
theorem mrTo_stop {N:Nt}{es:List Eg}{x:MrSt}{j:Nat}(h:(Xf N es x j).stop=true):∀k,j<=k->Xf N es x k=Xf N es x j
 |0,hk=>by have:j=0:=by omega
           subst this;rfl
 |k+1,hk=>by
  by_cases e:j=k+1
  ·subst e;rfl
  ·have k1:=mrTo_stop h k (by omega)
   have e1:Xf N es x (k+1)=mrStep N es (Xf N es x k):=rfl
   rw[e1,k1]
   unfold mrStep
   rw[if_pos h]
theorem inTo_len (ws:List Wy)(es:List Eg)(ts:List (List Nat))(e:Nat){x:Int×List Int}(h:x.2.length<=4):∀i,(U4 ws es ts e x i).2.length<=4
 |0=>h
 |i+1=>by
  have k:=inTo_len ws es ts e h i
  unfold U4
  split
  ·rename_i q
   simp only[List.length_append,List.length_singleton]
   omega
  ·exact k
theorem mrTo_len {N:Nt}{es:List Eg}{x:MrSt}(h:x.ways.length<=4):∀k,(Xf N es x k).ways.length<=4
 |0=>h
 |k+1=>by
  have k1:=mrTo_len (N:=N) (es:=es) h k
  have e:Xf N es x (k+1)=mrStep N es (Xf N es x k):=rfl
  rw[e]
  unfold mrStep
  split
  ·exact k1
  ·split
   ·exact k1
   ·exact inTo_len _ _ _ _ k1 _
theorem drS_ok {N:Nt}{R:Rd}{S:Src}(h:SOk S):SOk (drS N R S)/\(drS N R S).size=S.size:=by
 have h1:=Qm h 10
 have z1:=Qr S 10
 have hn:SOk (dnS R.edges (ns S 10))/\(dnS R.edges (ns S 10)).size=S.size:=by
  have k:=Z9 (es:=R.edges) (nd:=dnHd R.edges (ns S 10)) (out:=true) (Qm h1 R.edges.length)
  exact⟨k.1,k.2.trans ((Qr _ _).trans z1)⟩
 have h4:SOk (dwS4 N R.edges (ns S 10))/\(dwS4 N R.edges (ns S 10)).size=S.size:=by
  have k:=Z9 (es:=R.edges) (nd:=dwTl N R.edges (ns S 10)) (out:=false) (S:=dwS3 N R.edges (ns S 10)) (Qm (Qm h1 _) _)
  refine⟨k.1,k.2.trans ?_⟩
  unfold dwS3
  rw[Qr,Qr,z1]
 have hm:SOk (dwM N R.edges (ns S 10)).S/\(dwM N R.edges (ns S 10)).S.size=S.size:=by
  have k:=mrTo_ok (N:=N) (es:=R.edges) (x:=dwX N R.edges (ns S 10)) (Qm h4.1 3) (nv (dwS4 N R.edges (ns S 10)) 3).toNat
  refine⟨k.1,k.2.trans ?_⟩
  show(ns (dwS4 N R.edges (ns S 10)) 3).size=_
  rw[Qr,h4.2]
 have h7:SOk (dwS7 N R.edges (ns S 10))/\(dwS7 N R.edges (ns S 10)).size=S.size:=by
  have k:=Z9 (es:=R.edges) (nd:=(dwM N R.edges (ns S 10)).fin) (out:=true) hm.1
  exact⟨k.1,k.2.trans hm.2⟩
 have rd:∀{T:Src},SOk T/\T.size=S.size->SOk (Y8 N T)/\(Y8 N T).size=S.size:=λhT=>⟨(rdSrc_ok hT.1).1,(rdSrc_ok hT.1).2.trans hT.2⟩
 unfold drS
 split
 ·exact rd ⟨h1,z1⟩
 ·split
  ·split
   ·exact rd hn
   ·exact hn
  ·split
   ·exact rd h7
   ·exact h7
theorem drR_ways {N:Nt}{R:Rd}{S:Src}(h:SOk S):(drR N R S).ways.length<=4:=by
 have h1:=Qm h 10
 have rd:∀{T:Src},SOk T->(Vq N T).ways.length<=4:=λ{T} hT=>by
  have hs:SOk (ns (Zw N T) 2):=Qm (Qm (Qm hT _) _) _
  unfold Vq
  split
  ·exact Nat.zero_le _
  ·have k:=(rvTo_ok (ws:=N.ways) (x:=⟨ns (ns (Zw N T) 2) 4,[]⟩) (show SOk (ns (ns (Zw N T) 2) 4) from Qm hs _) rfl (1+nv (ns (Zw N T) 2) 4).toNat).2.1
   have v:=Qu hs 4
   show(rdVia N T).l.length<=4
   unfold rdVia
   rw[k]
   omega
 have hn:SOk (dnS R.edges (ns S 10)):=(Z9 (es:=R.edges) (nd:=dnHd R.edges (ns S 10)) (out:=true) (Qm h1 R.edges.length)).1
 have h4:SOk (dwS4 N R.edges (ns S 10)):=(Z9 (es:=R.edges) (nd:=dwTl N R.edges (ns S 10)) (out:=false) (S:=dwS3 N R.edges (ns S 10)) (Qm (Qm h1 _) _)).1
 have hm:SOk (dwM N R.edges (ns S 10)).S:=(mrTo_ok (N:=N) (es:=R.edges) (x:=dwX N R.edges (ns S 10)) (Qm h4 3) (nv (dwS4 N R.edges (ns S 10)) 3).toNat).1
 have h7:SOk (dwS7 N R.edges (ns S 10)):=(Z9 (es:=R.edges) (nd:=(dwM N R.edges (ns S 10)).fin) (out:=true) hm).1
 unfold drR
 split
 ·exact rd h1
 ·split
  ·split
   ·exact rd hn
   ·exact Nat.zero_le _
  ·split
   ·exact rd h7
   ·exact mrTo_len (x:=dwX N R.edges (ns S 10)) (show([_]:List Int).length<=4 by simp) _
structure RdIn (N:Nt)(R:Rd):Prop where
 len:R.edges.length<=4000
 way:∀e,e<R.edges.length->∃i:Nat,i<N.ways.length/\(eat R.edges e).way=i
 head:∀e,e<R.edges.length->∃i:Nat,i<R.nodes.length/\(eat R.edges e).head=i
 trav:∀i,i<N.ways.length->0<R.edges.length->∀l∈J1 N R.edges i,l≠[]/\∀e∈l,e<R.edges.length
theorem rd_in (N:Nt):RdIn N (Je N):=by
 unfold Je
 by_cases hv:Qh N=true
 ·rw[if_pos hv]
  have hr:=Jq hv
  have h2:=X9 hv
  refine⟨E1_le hr,(lk_in hv).way,λe he=>?_,λi hi _ l hl=>?_⟩
  ·obtain⟨a,c⟩:=E1_head hr he
   exact⟨(eat (E1 N) e).head.toNat,by show _<N.nodes.length;omega,by show(eat (E1 N) e).head=_;omega⟩
  ·have ht:=Xu hr h2 hi
   replace hl:l∈J1 N (E1 N) i:=hl
   have hin:∀e∈l,e<(E1 N).length:=λe he=>by
    unfold J1 at hl
    rcases List.mem_append.1 hl with g|g
    ·have e1:l=Vi (E1 N) i (E1 N).length:=by simpa using g
     rw[e1] at he
     unfold Vi at he
     exact List.mem_range.1 (List.mem_filter.1 he).1
    ·split at g
     ·have e1:l=Vu (E1 N) i (E1 N).length:=by simpa using g
      rw[e1] at he
      unfold Vu at he
      exact List.mem_range.1 (List.mem_filter.1 (List.mem_reverse.1 he)).1
     ·simp at g
   refine⟨?_,hin⟩
   unfold J1 at hl
   rcases List.mem_append.1 hl with g|g
   ·have e1:l=Vi (E1 N) i (E1 N).length:=by simpa using g
    rw[e1]
    exact ht.1
   ·split at g
    ·rename_i hb
     have e1:l=Vu (E1 N) i (E1 N).length:=by simpa using g
     rw[e1]
     exact ht.2 hb
    ·simp at g
 ·rw[if_neg hv]
  exact⟨Nat.zero_le _,λe he=>absurd he (Nat.not_lt_zero _),λe he=>absurd he (Nat.not_lt_zero _),λi hi h0=>absurd h0 (Nat.not_lt_zero _)⟩
end Go.Proofs.YthhbdfiopjclcaaGreatDoor
