import Derived.Test.YtahpodmokbdjeaaGreatDoorQME
namespace Go.Proofs.YtahpodmokbdjeaaGreatDoor
open Go.RowKit Go.Sort Tryz
set_option linter.unusedVariables false
set_option maxRecDepth 1000000
set_option maxHeartbeats 16000000
def Uc (x:Tn):Int:=x.frm*4194304+x.to
def tIn (x:Tn):Prop:=0<=x.to/\x.to<4194304
theorem Q8t {s t:Tn}(hs:tIn s)(ht:tIn t):decide (Pr s t<0)=decide (Uc s<Uc t):=by
 have h:=P6 s t
 have e:decide (Pr s t<0)=Ga s t:=by
  by_cases q:Pr s t<0
  ·have:decide (0<=Pr s t)=false:=by simp;omega
   rw[this] at h
   simp[q]
   cases hl:Ga s t
   ·rw[hl] at h;simp at h
   ·rfl
  ·have:decide (0<=Pr s t)=true:=by simp;omega
   rw[this] at h
   simp[q]
   cases hl:Ga s t
   ·rfl
   ·rw[hl] at h;simp at h
 rw[e]
 unfold Ga Uc
 unfold tIn at hs ht
 by_cases h1:s.frm<t.frm
 ·have:s.frm*4194304+s.to<t.frm*4194304+t.to:=by omega
  simp[h1,this]
 ·by_cases h2:s.frm=t.frm
  ·by_cases h3:s.to<t.to
   ·have:s.frm*4194304+s.to<t.frm*4194304+t.to:=by omega
    simp[h2,h3]
   ·have:¬s.frm*4194304+s.to<t.frm*4194304+t.to:=by omega
    simp[h2,h3]
  ·have:¬s.frm*4194304+s.to<t.frm*4194304+t.to:=by omega
   have h4:(s.frm==t.frm)=false:=by simpa using h2
   simp only[h4,Bool.false_and,Bool.or_false]
   rw[decide_eq_decide]
   omega
theorem Q1f {s t:Tn}:(Pr s t==0)=decide (s.frm=t.frm/\s.to=t.to):=by
 unfold Pr orI Xy
 by_cases h1:s.frm<t.frm
 ·have:¬(s.frm=t.frm/\s.to=t.to):=by omega
  simp[h1,this]
 ·by_cases h2:t.frm<s.frm
  ·have:¬(s.frm=t.frm/\s.to=t.to):=by omega
   simp[h1,h2,this]
  ·by_cases h3:s.to<t.to
   ·have:¬(s.frm=t.frm/\s.to=t.to):=by omega
    simp[h1,h2,h3,this]
   ·by_cases h4:t.to<s.to
    ·have:¬(s.frm=t.frm/\s.to=t.to):=by omega
     simp[h1,h2,h3,h4,this]
    ·have:s.frm=t.frm/\s.to=t.to:=by omega
     simp[this]
theorem Gn {zs:List Tn}(ha:Uw zs=true)(hb:∀i,i<zs.length->tIn (tat zs i)):∀i j,i<j->j<zs.length->Uc (tat zs i)<Uc (tat zs j):=by
 intro i j hij
 induction j with
 |zero=>omega
 |succ j ih=>
  intro hj
  have h1:ltT zs j (j+1)=true:=by
   unfold Uw Kd at ha
   have:=Yj ha (i:=j+1) hj
   unfold X9 at this
   simpa using this
  have h2:Uc (tat zs j)<Uc (tat zs (j+1)):=by
   have b1:=hb j (by omega)
   have b2:=hb (j+1) hj
   unfold ltT Ga at h1
   unfold Uc tIn at *
   simp only[Bool.or_eq_true,zH,decide_eq_true_eq,beq_iff_eq] at h1
   omega
  rcases Nat.lt_succ_iff_lt_or_eq.1 hij with q|rfl
  ·have:=ih q (by omega)
   omega
  ·exact h2
theorem Q2u (B:Nat)(v:Value)(zs:List Tn)(t:Tn)(w:World)(h0:V5 B w v zs)(ha:Uw zs=true)(hb0:∀i,i<zs.length->tIn (tat zs i))(ht:tIn t) :
  Calls prog 158 #[v,.agg #[iV t.frm,iV t.to,iV t.cost],.func (.func 118) #[] #[]] w λe w'=>(∃(r:Nat) (b:Bool),e=.returned (.tuple #[iV (r:Int),.bool b])/\(b=true->r<zs.length/\(tat zs r).frm=t.frm/\(tat zs r).to=t.to)/\(b=false->∀i,i<zs.length->¬((tat zs i).frm=t.frm/\(tat zs i).to=t.to)))/\Nx w w':=by
 have hm:Z (∀i j,i<j->j<zs.length->Uc (tat zs i)<Uc (tat zs j)):=Gn ha hb0
 have HB:Z (∀i,i<zs.length->tIn (tat zs i)):=hb0
 have HT:Z (tIn t):=ht
 clear ha hb0 ht
 obtain⟨a,cap,rfl,hn,hk⟩:=h0
 unfold maxLen at hn
 generalize hz:zs.length=n at *
 have HZ:Z (zs.length=n):=hz
 clear hz
 go_enter func158,ntmps158
 go_wp2
 go_loopw [9,10,11] (λi j h wr=>∃lo hi:Nat,lo<=hi/\hi<=n/\i=iV lo/\j=iV hi/\Z (Mid (λi=>Uc (tat zs i)) n (Uc t) lo hi)/\Z (Nx (w.alloc (.cells #[iV t.frm,iV t.to,iV t.cost] 113)) wr)) (λi j _ _=>(intOf j).toNat-(intOf i).toNat)
 case atStart=>exact⟨0,n,nZ,lR,rfl,rfl,Ph _ _ _,Nx.refl _⟩
 case round=>
  obtain⟨lo,hi,h1,h2,rfl,rfl,hrel,HN⟩:=hrel
  have bx:=(BT.new w #[iV t.frm,iV t.to,iV t.cost] 113 _ rfl).next HN.o
  have x0:=bx.c 0 rfl
  have x1:=bx.c 1 rfl
  have x2:=bx.c 2 rfl
  clear bx
  have HNW:Z (Nx w wr):=(Q4 w _).trans HN.o
  have hwr:w.heap.size<wr.heap.size:=zK (Wf w _) HN.o.size
  by_cases hlt:lo<hi
  ·obtain⟨b,off,rfl,hB,hb,hc⟩:=hk (by omega)
   obtain⟨h,hh,hh1,hh2⟩:=Q8k lo hi hlt (by omega)
   obtain⟨a0,a1,a2⟩:=hc h (by omega)
   have hbr:b<wr.heap.size:=zK hb HNW.o.size
   have a0:=Q0 HNW.o hb a0
   have a1:=Q0 HNW.o hb a1
   have a2:=Q0 HNW.o hb a2
   have hhn:(h:Int)<n:=by omega
   have hbh:=HB.o h (by omega)
   clear hc hk
   by_cases hab:Uc (tat zs h)<Uc t
   ·have HM:Z (Mid (λi=>Uc (tat zs i)) n (Uc t) (h+1) hi):=Q28 hm.o hrel.o hh2 hab hh1
    have hd:decide (Pr (tat zs h) t<0)=true:=by rw[Q8t hbh HT.o];simp[hab]
    go_wp2
    go_region_held3 (λw'=>w'.cell? (aD b (off+h*3))=some (iV (tat zs h).frm)/\w'.cell? (aD b (off+h*3+1))=some (iV (tat zs h).to)/\w'.cell? (aD b (off+h*3+2))=some (iV (tat zs h).cost)/\w'.cell? (aD w.heap.size 0)=some (iV t.frm)/\w'.cell? (aD w.heap.size 1)=some (iV t.to)/\w'.cell? (aD w.heap.size 2)=some (iV t.cost)) (first|go_keep|exact⟨Q0 hx hbr a0,Q0 hx hbr a1,Q0 hx hbr a2,Q0 hx hwr x0,Q0 hx hwr x1,Q0 hx hwr x2⟩) (first|(go_at_call 118;refine(Yi (tat zs h) t _).mono ?_;rintro e w' ⟨rfl,hx⟩))
    all_goals go_wp2
    all_goals
     go_roundw
     case rel=>exact⟨h+1,hi,by omega,by omega,by go_num,rfl,HM,HN.o.drew.trans hx⟩
     case measure=>simp[intOf];omega
   ·have HM:Z (Mid (λi=>Uc (tat zs i)) n (Uc t) lo h):=Kv hm.o hrel.o hh2 hab hh1
    have hd:decide (Pr (tat zs h) t<0)=false:=by rw[Q8t hbh HT.o];simp[hab]
    go_wp2
    go_region_held3 (λw'=>w'.cell? (aD b (off+h*3))=some (iV (tat zs h).frm)/\w'.cell? (aD b (off+h*3+1))=some (iV (tat zs h).to)/\w'.cell? (aD b (off+h*3+2))=some (iV (tat zs h).cost)/\w'.cell? (aD w.heap.size 0)=some (iV t.frm)/\w'.cell? (aD w.heap.size 1)=some (iV t.to)/\w'.cell? (aD w.heap.size 2)=some (iV t.cost)) (first|go_keep|exact⟨Q0 hx hbr a0,Q0 hx hbr a1,Q0 hx hbr a2,Q0 hx hwr x0,Q0 hx hwr x1,Q0 hx hwr x2⟩) (first|(go_at_call 118;refine(Yi (tat zs h) t _).mono ?_;rintro e w' ⟨rfl,hx⟩))
    all_goals go_wp2
    all_goals
     go_roundw
     case rel=>exact⟨lo,h,by omega,by omega,rfl,rfl,HM,HN.o.drew.trans hx⟩
     case measure=>simp[intOf];omega
  ·have e:hi=lo:=by omega
   subst e
   obtain⟨_,_,hlow,hhigh⟩:=hrel.o
   have HNO:Z (¬(hi<n/\(tat zs hi).frm=t.frm/\(tat zs hi).to=t.to)->∀i,i<n->¬((tat zs i).frm=t.frm/\(tat zs i).to=t.to)):=λhno i hi' hh=>by
    have hkey:Uc (tat zs i)=Uc t:=by unfold Uc;rw[hh.1,hh.2]
    rcases Nat.lt_trichotomy i hi with q|q|q
    ·have:=hlow i q
     simp only at this
     omega
    ·subst q
     exact hno ⟨hi',hh⟩
    ·have h3:=hhigh hi lR (by omega)
     have h4:=hm.o hi i q hi'
     simp only at h3
     omega
   by_cases hl:hi<n
   ·obtain⟨b,off,rfl,hB,hb,hc⟩:=hk (by omega)
    obtain⟨a0,a1,a2⟩:=hc hi hl
    have hbr:b<wr.heap.size:=zK hb HNW.o.size
    have a0:=Q0 HNW.o hb a0
    have a1:=Q0 HNW.o hb a1
    have a2:=Q0 HNW.o hb a2
    have hln:(hi:Int)<n:=by omega
    have hld:decide ((hi:Int)<n)=true:=by simpa using hl
    clear hc hk hlow hhigh
    by_cases he:(tat zs hi).frm=t.frm/\(tat zs hi).to=t.to
    ·have hd:(Pr (tat zs hi) t==0)=true:=by rw[Q1f];simpa using he
     have HE:Z ((tat zs hi).frm=t.frm/\(tat zs hi).to=t.to):=he
     clear he
     go_wp2
     go_region_held3 (λw'=>w'.cell? (aD b (off+hi*3))=some (iV (tat zs hi).frm)/\w'.cell? (aD b (off+hi*3+1))=some (iV (tat zs hi).to)/\w'.cell? (aD b (off+hi*3+2))=some (iV (tat zs hi).cost)/\w'.cell? (aD w.heap.size 0)=some (iV t.frm)/\w'.cell? (aD w.heap.size 1)=some (iV t.to)/\w'.cell? (aD w.heap.size 2)=some (iV t.cost)) (first|go_keep|exact⟨Q0 hx hbr a0,Q0 hx hbr a1,Q0 hx hbr a2,Q0 hx hwr x0,Q0 hx hwr x1,Q0 hx hwr x2⟩) (first|(go_at_call 118;refine(Yi (tat zs hi) t _).mono ?_;rintro e w' ⟨rfl,hx⟩))
     all_goals go_wp2
     all_goals
      go_ret2
      exact⟨⟨hi,true,rfl,λ_=>⟨by first|exact hl|(rw[HZ.o];exact hl),HE.o⟩,(λh=>by cases h)⟩,HNW.o.drew.trans hx⟩
    ·have hd:(Pr (tat zs hi) t==0)=false:=by rw[Q1f];simpa using he
     have HE:Z (∀i,i<n->¬((tat zs i).frm=t.frm/\(tat zs i).to=t.to)):=HNO.o (λh=>he h.2)
     clear he
     go_wp2
     go_region_held3 (λw'=>w'.cell? (aD b (off+hi*3))=some (iV (tat zs hi).frm)/\w'.cell? (aD b (off+hi*3+1))=some (iV (tat zs hi).to)/\w'.cell? (aD b (off+hi*3+2))=some (iV (tat zs hi).cost)/\w'.cell? (aD w.heap.size 0)=some (iV t.frm)/\w'.cell? (aD w.heap.size 1)=some (iV t.to)/\w'.cell? (aD w.heap.size 2)=some (iV t.cost)) (first|go_keep|exact⟨Q0 hx hbr a0,Q0 hx hbr a1,Q0 hx hbr a2,Q0 hx hwr x0,Q0 hx hwr x1,Q0 hx hwr x2⟩) (first|(go_at_call 118;refine(Yi (tat zs hi) t _).mono ?_;rintro e w' ⟨rfl,hx⟩))
     all_goals go_wp2
     all_goals
      go_ret2
      exact⟨⟨hi,false,rfl,(λh=>by cases h),λ_=>by first|exact HE.o|(rw[HZ.o];exact HE.o)⟩,HNW.o.drew.trans hx⟩
   ·have HE:Z (∀i,i<n->¬((tat zs i).frm=t.frm/\(tat zs i).to=t.to)):=HNO.o (λh=>hl h.1)
    have hd:decide ((hi:Int)<n)=false:=by simp;omega
    clear hlow hhigh
    go_wp2
    go_quiet (fail)
    all_goals go_wp2
    all_goals
     go_ret2
     exact⟨⟨hi,false,rfl,(λh=>by cases h),λ_=>by first|exact HE.o|(rw[HZ.o];exact HE.o)⟩,HNW.o.trans (Va _ _)⟩
theorem Tq {ts:List Tn}{a b:Int}:∀k,(∀i,i<k->¬((tat ts i).frm=a/\(tat ts i).to=b))->Vd ts a b k=0
 |0,_=>rfl
 |k+1,h=>by
  show Vd ts a b k+_=0
  rw[Tq k (λi hi=>h i (by omega)),if_neg (h k (by omega))]
  rfl
theorem E7 {ts:List Tn}{a b:Int}{r:Nat}(hr:(tat ts r).frm=a/\(tat ts r).to=b):∀k,r<k->(∀i,i<k->(tat ts i).frm=a/\(tat ts i).to=b->i=r)->Vd ts a b k=(tat ts r).cost
 |0,h,_=>absurd h (zM _)
 |k+1,h,hu=>by
  show Vd ts a b k+_=_
  by_cases hk:r=k
  ·subst hk
   rw[Tq r (λi hi hm=>by have:=hu i (by omega) hm;omega),if_pos hr]
   omega
  ·rw[E7 hr k (by omega) (λi hi=>hu i (by omega)),if_neg (λhm=>hk (hu k (by omega) hm).symm)]
   omega
theorem Q9b {ts:List Tn}(ha:Uw ts=true)(hb:∀i,i<ts.length->tIn (tat ts i)){a b:Int}{r:Nat}(hr:r<ts.length)(hm:(tat ts r).frm=a/\(tat ts r).to=b):Vd ts a b ts.length=(tat ts r).cost:=
 E7 hm _ hr λi hi h=>by
  have hk:Uc (tat ts i)=Uc (tat ts r):=by unfold Uc;rw[h.1,h.2,hm.1,hm.2]
  rcases Nat.lt_trichotomy i r with q|q|q
  ·have:=Gn ha hb i r q hr;omega
  ·exact q
  ·have:=Gn ha hb r i q hi;omega
theorem Qan {F:Fence}{n:Nat}{P:Program}{ops:Array Oper}{Q:Exit->Act->World->Prop}{md:Region.Mode}{S:World->Prop}{c i fuel:Nat}{listed:Array Bool}{a:Act}{w:World}(hr:Region.ready md ops listed=[i])(hcl:Cl md ops listed)(h:Cl md ops (listed.setIfInBounds i true)->wpOpIn F n P ops Q i (λa' w'=>(c<=i\/S w')/\V2 F n P md ops Q S c fuel (listed.setIfInBounds i true) a' w') a w):V2 F n P md ops Q S c (fuel+1) listed a w:=
 Qg hr (h (hcl.step (by rw[hr];simp)))
theorem Q1r (B:Nat)(N:Nt)(es:List Eg)(br be bf we wf e f:Nat)(v3:Value)(w:World)(h3:w.cell? (aD br 3)=some v3)(h4:w.cell? (aD br 4)=some (iV N.uturn))(hT:V5 B w v3 N.turns)
  (he6:w.cell? (aD be 6)=some (iV (eat es e).twin)) (he8:w.cell? (aD be 8)=some (pT we)) (hwe:w.cell? (aD we 0)=some (iV (Xc N es e)))
  (hf7:w.cell? (aD bf 7)=some (iV (f:Int))) (hf8:w.cell? (aD bf 8)=some (pT wf)) (hwf:w.cell? (aD wf 0)=some (iV (Xc N es f)))
  (ha:Uw N.turns=true) (hb:∀i,i<N.turns.length->tIn (tat N.turns i)) (ht:tIn ⟨Xc N es e,Xc N es f,0⟩) (hc:Wc N es) :
  Calls prog 141 #[pT br,pT be,pT bf] w λr w'=>r=.returned (iV (Ym N es e f))/\Nx w w':=by
 have HA:Z (Uw N.turns=true):=ha
 have HB:Z (∀i,i<N.turns.length->tIn (tat N.turns i)):=hb
 have HTI:Z (tIn ⟨Xc N es e,Xc N es f,0⟩):=ht
 have HC:Z (Wc N es):=hc
 have HT:Z (V5 B w v3 N.turns):=hT
 have HTC:Z (Ym N es e f=Vd N.turns (Xc N es e) (Xc N es f) N.turns.length+if (eat es e).twin=(f:Int) then N.uturn else 0):=rfl
 obtain⟨ta,tc,e3,mt,kt⟩:=hT
 unfold maxLen at mt
 generalize hnt:N.turns.length=nt at *
 have HNT:Z (N.turns.length=nt):=hnt
 subst e3
 generalize hie:Xc N es e=ie at *
 generalize hjf:Xc N es f=jf at *
 clear ha hb ht hc hnt hie hjf
 go_enter func141,ntmps141
 have hmx:prog.follows .mixedOrders=true:=by kernel_rfl
 have HSN:Z (∀q,Nx w q->(λq=>q.cell? (aD be 8)=some (pT we)/\q.cell? (aD we 0)=some (iV ie)/\q.cell? (aD bf 8)=some (pT wf)/\q.cell? (aD wf 0)=some (iV jf)) q):=λq hq=>⟨Q1 hq he8,Q1 hq hwe,Q1 hq hf8,Q1 hq hwf⟩
 have HSS:Z ((λq=>q.cell? (aD be 8)=some (pT we)/\q.cell? (aD we 0)=some (iV ie)/\q.cell? (aD bf 8)=some (pT wf)/\q.cell? (aD wf 0)=some (iV jf)) w.drew):=⟨he8,hwe,hf8,hwf⟩
 have HDR:Z (Nx w w.drew):=(Below.refl _ _).drew
 have HCS:Z (w.cell? (aD br 3)=some (sL ta nt tc)/\w.cell? (aD br 4)=some (iV N.uturn)/\w.cell? (aD be 6)=some (iV (eat es e).twin)/\w.cell? (aD bf 7)=some (iV (f:Int))):=⟨h3,h4,he6,hf7⟩
 clear he8 hwe hf8 hwf h3 h4 he6 hf7
 go_upto_region 2 with fail
 refine(wpIn_wide (n:=9)).1 ?_
 refine Qj (c:=17) (S:=λq=>q.cell? (aD be 8)=some (pT we)/\q.cell? (aD we 0)=some (iV ie)/\q.cell? (aD bf 8)=some (pT wf)/\q.cell? (aD wf 0)=some (iV jf)) hmx (by kernel_rfl) (λhw hcl=>?_)
 refine tq (i:=0) (v:=pT be) (λhcl=>?_)
 refine tq (i:=1) (v:=pT be) (λhcl=>?_)
 refine tq (i:=2) (v:=.pointer (some (aD be 8))) (λhcl=>?_)
 refine tq (i:=3) (v:=pT we) (λhcl=>?_)
 refine tq (i:=4) (v:=pT we) (λhcl=>?_)
 refine tq (i:=5) (v:=pT we) (λhcl=>?_)
 refine tq (i:=6) (v:=iV ie) (λhcl=>?_)
 refine tq (i:=7) (v:=pT bf) (λhcl=>?_)
 refine tq (i:=8) (v:=pT bf) (λhcl=>?_)
 refine tq (i:=9) (v:=.pointer (some (aD bf 8))) (λhcl=>?_)
 refine tq (i:=10) (v:=pT wf) (λhcl=>?_)
 refine tq (i:=11) (v:=pT wf) (λhcl=>?_)
 refine tq (i:=12) (v:=pT wf) (λhcl=>?_)
 refine tq (i:=13) (v:=iV jf) (λhcl=>?_)
 refine tq (i:=14) (v:=.agg #[iV ie,iV jf,iV 0]) (λhcl=>?_)
 refine Qg (i:=15) (by kernel_rfl) (wpOpIn_step rfl (λK hK=>?_))
 go_simp
 refine hK _ _ ⟨oR (HSN.o _ (Q4 _ _).drew),?_⟩
 clear hK K
 refine Qg (i:=16) (by kernel_rfl) (wpOpIn_step rfl (λK hK=>?_))
 go_simp
 generalize hWB:(w.alloc (.cells #[iV ie,iV jf,iV 0] 113)).drew=wB at *
 have HXB:Z (Nx w wB):=by rw[<-hWB];exact(Q4 _ _).drew
 have BB:Z (BT wB w.heap.size #[iV ie,iV jf,iV 0] 113):=by rw[<-hWB];exact BT.new w _ _ _ rfl
 clear hWB
 refine hK _ _ ⟨oR (HSN.o _ HXB.o),?_⟩
 clear hK K
 refine Qm (by kernel_rfl) ?_ _
 clear hw hcl HSS HSN HDR
 have HTB:Z (V5 B wB (sL ta nt tc) N.turns):=V5.keep HT.o (HXB.o.keeps B)
 have HSN:Z (∀q,Nx wB q->(λq=>q.cell? (aD br 3)=some (sL ta nt tc)/\q.cell? (aD w.heap.size 0)=some (iV ie)/\q.cell? (aD w.heap.size 1)=some (iV jf)/\q.cell? (aD w.heap.size 2)=some (iV 0)) q):=λq hq=>⟨Q1 hq (Q1 HXB.o HCS.o.1),Q1 hq (BB.o.c 0 rfl),Q1 hq (BB.o.c 1 rfl),Q1 hq (BB.o.c 2 rfl)⟩
 have HDR:Z (Nx wB wB.drew):=(Below.refl _ _).drew
 have HSS:Z ((λq=>q.cell? (aD br 3)=some (sL ta nt tc)/\q.cell? (aD w.heap.size 0)=some (iV ie)/\q.cell? (aD w.heap.size 1)=some (iV jf)/\q.cell? (aD w.heap.size 2)=some (iV 0)) wB.drew):=HSN.o _ HDR.o
 go_upto_region 3 with fail
 refine(wpIn_wide (n:=9)).1 ?_
 refine Qj (c:=12) (S:=λq=>q.cell? (aD br 3)=some (sL ta nt tc)/\q.cell? (aD w.heap.size 0)=some (iV ie)/\q.cell? (aD w.heap.size 1)=some (iV jf)/\q.cell? (aD w.heap.size 2)=some (iV 0)) hmx (by kernel_rfl) (λhw hcl=>?_)
 refine tq (i:=0) (v:=pT br) (λhcl=>?_)
 refine tq (i:=1) (v:=pT br) (λhcl=>?_)
 refine tq (i:=2) (v:=pT br) (λhcl=>?_)
 refine tq (i:=3) (v:=.pointer (some (aD br 3))) (λhcl=>?_)
 refine tq (i:=4) (v:=sL ta nt tc) (λhcl=>?_)
 refine tq (i:=5) (v:=.agg #[iV ie,iV jf,iV 0]) (λhcl=>?_)
 refine Qan (i:=6) (by kernel_rfl) hcl (λhcl=>wpOpIn_step rfl (λK hK=>?_))
 go_simp
 refine⟨trivial,(callsIn_wide.2 (Q2u B _ N.turns ⟨ie,jf,0⟩ _ (V5.keep HTB.o (HDR.o.keeps B)) HA.o (by rw[HNT.o];exact HB.o) HTI.o)).mono ?_⟩
 rintro e7 w7 ⟨⟨r,bb,rfl,hy,hno⟩,hx7⟩
 have HX7:Z (Nx wB w7):=HDR.o.trans hx7
 have HS7:Z ((λq=>q.cell? (aD br 3)=some (sL ta nt tc)/\q.cell? (aD w.heap.size 0)=some (iV ie)/\q.cell? (aD w.heap.size 1)=some (iV jf)/\q.cell? (aD w.heap.size 2)=some (iV 0)) w7):=HSN.o _ HX7.o
 have HYS:Z (bb=true->r<N.turns.length/\(tat N.turns r).frm=ie/\(tat N.turns r).to=jf):=hy
 have HNO:Z (bb=false->∀i,i<N.turns.length->¬((tat N.turns i).frm=ie/\(tat N.turns i).to=jf)):=hno
 refine hK _ _ ⟨oR HS7.o,?_⟩
 clear hK K hx7 hy hno
 refine Qf (i:=7) (v:=.tuple #[iV (r:Int),.bool bb]) hw (by decide) hcl (Qa rfl) rfl (by kernel_rfl) (by kernel_rfl) (by kernel_rfl) (λ_ _ _ h=>h) ⟨oL ⟨by kernel_rfl,?y7⟩,λ_=>rfl⟩ HS7.o (λhcl=>?_)
 case y7=>
  rintro q ⟨c1,c2,c3,c4⟩
  go_simp
 refine Qf (i:=8) (v:=iV (r:Int)) hw (by decide) hcl (Qa rfl) rfl (by kernel_rfl) (by kernel_rfl) (by kernel_rfl) (λ_ _ _ h=>h) ⟨oL ⟨by kernel_rfl,?y8⟩,λ_=>rfl⟩ HS7.o (λhcl=>?_)
 case y8=>
  rintro q ⟨c1,c2,c3,c4⟩
  go_simp
 refine Qf (i:=9) (v:=.bool bb) hw (by decide) hcl (Qa rfl) rfl (by kernel_rfl) (by kernel_rfl) (by kernel_rfl) (λ_ _ _ h=>h) ⟨oL ⟨by kernel_rfl,?y9⟩,λ_=>rfl⟩ HS7.o (λhcl=>?_)
 case y9=>
  rintro q ⟨c1,c2,c3,c4⟩
  go_simp
 refine Qg (i:=10) (by kernel_rfl) (wpOpIn_step rfl (λK hK=>?_))
 go_simp
 refine hK _ _ ⟨oR HS7.o,?_⟩
 clear hK K
 refine Qg (i:=11) (by kernel_rfl) (wpOpIn_step rfl (λK hK=>?_))
 go_simp
 refine hK _ _ ⟨oR HS7.o,?_⟩
 clear hK K
 refine Qm (by kernel_rfl) ?_ _
 clear hw hcl HSS HSN HDR
 have HXW:Z (Nx w w7):=HXB.o.trans HX7.o
 have u3:=HS7.o.1
 have u4:=Q1 HXW.o HCS.o.2.1
 have u6:=Q1 HXW.o HCS.o.2.2.1
 have u7:=Q1 HXW.o HCS.o.2.2.2
 have hut:=HC.o.uturn
 generalize (eat es e).twin=tw at *
 generalize N.uturn=ut at *
 cases bb with
 |true=>
  obtain⟨hr,hm⟩:=HYS.o rfl
  have HTO:Z (Vd N.turns ie jf nt=(tat N.turns r).cost):=by rw[<-HNT.o];exact Q9b HA.o (by rw[HNT.o];exact HB.o) hr hm
  have hct:=HC.o.cost r hr
  rw[HNT.o] at hr
  obtain⟨b,off,rfl,_,_,kt2⟩:=kt (by omega)
  have u8:=Q1 HXW.o (kt2 r hr).2.2
  generalize (tat N.turns r).cost=ct at *
  have hr':(r:Int)<nt:=by omega
  have i1:=Go.IntWalk.i64_in ct ⟨by omega,by omega⟩
  have i2:=Go.IntWalk.i64_in (ct+ut) ⟨by omega,by omega⟩
  clear kt kt2 hm HYS HNO HB HTI HA
  go_upto_region 6 with fail
  by_cases htw:tw=(f:Int)
  ·have HF:Z (Ym N es e f=ct+ut):=by unfold Z;rw[HTC.o,HTO.o,if_pos htw]
   have dt:(tw==(f:Int))=true:=by simpa using htw
   clear htw
   go_quiet (fail)
   have HXQ:Z (Nx w (w7.drewN nq)):=HXW.o.trans (Va _ _)
   have u4':=Q1 (Va w7 nq) u4
   go_wp2
   go_ret
   exact⟨by rw[HF.o];try rfl,HXQ.o⟩
  ·have HF:Z (Ym N es e f=ct):=by unfold Z;rw[HTC.o,HTO.o,if_neg htw];omega
   have dt:(tw==(f:Int))=false:=by simpa using htw
   clear htw
   go_quiet (fail)
   have HXQ:Z (Nx w (w7.drewN nq)):=HXW.o.trans (Va _ _)
   go_wp2
   go_ret
   exact⟨by rw[HF.o];try rfl,HXQ.o⟩
 |false=>
  have HTO:Z (Vd N.turns ie jf nt=0):=Tq nt (λi hi=>HNO.o rfl i (by rw[HNT.o];exact hi))
  have i2:=Go.IntWalk.i64_in ut ⟨by omega,by omega⟩
  clear kt HYS HNO HB HTI HA
  go_upto_region 6 with fail
  by_cases htw:tw=(f:Int)
  ·have HF:Z (Ym N es e f=ut):=by unfold Z;rw[HTC.o,HTO.o,if_pos htw];omega
   have dt:(tw==(f:Int))=true:=by simpa using htw
   clear htw
   go_quiet (fail)
   have HXQ:Z (Nx w (w7.drewN nq)):=HXW.o.trans (Va _ _)
   have u4':=Q1 (Va w7 nq) u4
   go_wp2
   go_ret
   exact⟨by rw[HF.o];try rfl,HXQ.o⟩
  ·have HF:Z (Ym N es e f=0):=by unfold Z;rw[HTC.o,HTO.o,if_neg htw];omega
   have dt:(tw==(f:Int))=false:=by simpa using htw
   clear htw
   go_quiet (fail)
   have HXQ:Z (Nx w (w7.drewN nq)):=HXW.o.trans (Va _ _)
   go_wp2
   go_ret
   exact⟨by rw[HF.o];try rfl,HXQ.o⟩
end Go.Proofs.YtahpodmokbdjeaaGreatDoor
