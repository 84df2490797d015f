import Derived.Test.YtphiaobccollhaaGreatQImI
import Derived.Test.YtphiaobccollhaaGreatQNets
namespace Go.Proofs.YtphiaobccollhaaGreat
open Go.RowKit
set_option linter.unusedVariables false
set_option maxHeartbeats 16000000
def Gx (N:Nt):Bool:=decide (N.nodes.length<=2000)&&(decide (N.ways.length<=2000)&&(decide (Wj N.ways N.ways.length<=4000)&&(decide (N.rels.length<=1000)&&decide (N.turns.length<=2000))))
def Q4z (N:Nt):Bool:=Qo N.ways.length (λi=>Jg N.nodes (wat N.ways i))
def Xa (N:Nt)(r:Rl):Bool:=
 if r.via then decide (r.ways.length=0)&&Ta N.nodes r.node
 else (r.node==0)&&(decide (1<=r.ways.length)&&(decide (r.ways.length<=4)&&Qo r.ways.length (λi=>Xw N.ways (iat r.ways i))))
def Vm (N:Nt)(r:Rl):Bool:=inB r.id&&(Xw N.ways r.frm&&(Xw N.ways r.to&&Xa N r))
def Q5e (N:Nt):Bool:=Qo N.rels.length (λi=>Vm N (rat N.rels i))
def I6 (N:Nt)(t:Tn):Bool:=Xw N.ways t.frm&&(Xw N.ways t.to&&inB t.cost)
def Q1j (N:Nt):Bool:=Qo N.turns.length (λi=>I6 N (tat N.turns i))
def J1 (N:Nt):Bool:=Gx N&&(inB N.uturn&&((Qeu N.nodes&&Ki N.nodes)&&((Q4z N&&Qet N.ways)&&((Q5e N&&Qgk N.rels)&&(Q1j N&&Qgj N.turns)))))
open Tryz
theorem Q00 (B:Nat)(v0 v1 v2 v3:Value)(u:Int)(N:Nt)(x:Rl)(vw:Value)(w:World)(h0:Qi B w v0 N.nodes)(h1:Pj B w v1 N.ways)(hW:Qi B w vw x.ways) :
  Calls prog 86 #[.agg #[v0,v1,v2,v3,iV u],.agg #[iV x.id,.bool x.only,iV x.frm,iV x.to,.bool x.via,iV x.node,vw]] w λe w'=>e=.returned (.bool (Vm N x))/\Nx w w':=by
 obtain⟨a2,cap2,rfl,hn2,hk2⟩:=hW
 unfold maxLen at hn2
 generalize hz2:x.ways.length=n2 at *
 have HZ2:=mh hz2
 clear hz2
 have HTWO:Z (Nx w ((w.alloc (.cells #[v0,v1,v2,v3,iV u] 60)).alloc (.cells #[iV x.id,.bool x.only,iV x.frm,iV x.to,.bool x.via,iV x.node,sL a2 n2 cap2] 89))):=Uk _ _ _
 have BA:=((Blk.new w #[v0,v1,v2,v3,iV u] 60 _ rfl).alloc (.cells #[iV x.id,.bool x.only,iV x.frm,iV x.to,.bool x.via,iV x.node,sL a2 n2 cap2] 89))
 have BB:=(Blk.new (w.alloc (.cells #[v0,v1,v2,v3,iV u] 60)) #[iV x.id,.bool x.only,iV x.frm,iV x.to,.bool x.via,iV x.node,sL a2 n2 cap2] 89 (w.heap.size+1) (by simp))
 by_cases e1:inB x.id=true
 case neg=>
  have e1':inB x.id=false:=by simpa using e1
  have HG:Z (false=Vm N x):=by unfold Z;simp[Vm,e1']
  clear e1
  go_enter func86,ntmps86
  go_wp2_with (go_at_call 14;refine(J8 _ _).mono ?_;rintro e w' ⟨rfl,rfl⟩)
  go_ret
  exact⟨Q3 HG.o,HTWO.o⟩
 by_cases e2:Xw N.ways x.frm=true
 case neg=>
  have e2':Xw N.ways x.frm=false:=by simpa using e2
  have HG:Z (false=Vm N x):=by unfold Z;simp[Vm,e2']
  clear e2
  go_enter func86,ntmps86
  go_wp2_with (first|(go_at_call 14;refine(J8 _ _).mono ?_;rintro e w' ⟨rfl,rfl⟩)|(go_at_call 87;refine(Xq B _ _ _ _ _ _ N.ways _ (by exact h1.keep (HTWO.o.keeps B))).mono ?_;rintro e w' ⟨r,rfl,hr,hx⟩))
  go_ret
  exact⟨Q3 HG.o,HTWO.o.trans hx⟩
 go_enter func86,ntmps86
 go_wp2_with fail
 refine(J8 _ _).mono ?_
 rintro e w' ⟨rfl,rfl⟩
 go_wp2_with fail
 refine(Xq B _ _ _ _ _ _ N.ways _ (by exact h1.keep (HTWO.o.keeps B))).mono ?_
 rintro e w1 ⟨r1,rfl,hr1,hx⟩
 have BA1:=BA.next hx
 have BB1:=BB.next hx
 have HX1:=mh (HTWO.o.trans hx)
 clear hx BA BB HTWO
 have k0:=BA1.c 0 rfl
 have k1:=BA1.c 1 rfl
 have k2:=BA1.c 2 rfl
 have k3:=BA1.c 3 rfl
 have k4:=BA1.c 4 rfl
 have l3:=BB1.c 3 rfl
 go_wp2_with fail
 refine(Xq B _ _ _ _ _ _ N.ways _ (by exact h1.keep (HX1.o.keeps B))).mono ?_
 rintro e w2 ⟨r2,rfl,hr2,hx⟩
 have BA2:=BA1.next hx
 have BB2:=BB1.next hx
 have HX2:=mh (HX1.o.trans hx)
 clear hx BA1 BB1 HX1 k0 k1 k2 k3 k4 l3
 by_cases e3:Xw N.ways x.to=true
 case neg=>
  have e3':Xw N.ways x.to=false:=by simpa using e3
  have HG:Z (false=Vm N x):=by unfold Z;simp[Vm,e3']
  clear e3
  go_wp2
  go_ret
  exact⟨Q3 HG.o,HX2.o⟩
 have HGT:Z (Vm N x=Xa N x):=by unfold Z;simp[Vm,e1,e2,e3]
 have k0:=BA2.c 0 rfl
 have k1:=BA2.c 1 rfl
 have k2:=BA2.c 2 rfl
 have k3:=BA2.c 3 rfl
 have k4:=BA2.c 4 rfl
 have l4:=BB2.c 4 rfl
 have l5:=BB2.c 5 rfl
 have l6:=BB2.c 6 rfl
 cases hv:x.via
 case true=>
  rw[hv] at l4
  have hvv:=mh hv
  clear hv
  by_cases e6:n2=0
  case neg=>
   have d6:((n2:Int)==0)=false:=by simp;omega
   have HF:Z (Xa N x=false):=by unfold Z;simp[Xa,hvv.o,HZ2.o,e6]
   clear e6
   go_wp2
   go_ret
   exact⟨Q3 (by rw[HGT.o,HF.o]),HX2.o⟩
  have d6:((n2:Int)==0)=true:=by simpa using e6
  have HT:Z (Xa N x=Ta N.nodes x.node):=by unfold Z;simp[Xa,hvv.o,HZ2.o,e6]
  clear e6
  go_wp2_with fail
  refine(Wh B _ _ _ _ _ _ N.nodes _ (by exact h0.next HX2.o)).mono ?_
  rintro e w3 ⟨rfl,hx⟩
  have HX3:=mh (HX2.o.trans hx)
  clear hx k0 k1 k2 k3 k4 l4 l5 l6 BA2 BB2 HX2
  go_wp2
  go_ret
  exact⟨Q3 (by rw[HGT.o,HT.o]),HX3.o⟩
 case false=>
  rw[hv] at l4
  have hvv:=mh hv
  clear hv
  by_cases e5:x.node=0
  case neg=>
   have d5:(x.node !=0)=true:=by simpa using e5
   have HF:Z (Xa N x=false):=by unfold Z;simp[Xa,hvv.o,e5]
   clear e5
   go_wp2
   go_ret
   exact⟨Q3 (by rw[HGT.o,HF.o]),HX2.o⟩
  have d5:(x.node !=0)=false:=by simpa using e5
  have H5:=mh e5
  clear e5
  by_cases e6:1<=n2
  case neg=>
   have d6:decide ((n2:Int)<1)=true:=by simp;omega
   have HF:Z (Xa N x=false):=by unfold Z;simp[Xa,hvv.o,HZ2.o];intros;omega
   go_wp2
   go_ret
   exact⟨Q3 (by rw[HGT.o,HF.o]),HX2.o⟩
  have d6:decide ((n2:Int)<1)=false:=by simp;omega
  by_cases e7:n2<=4
  case neg=>
   have d7:decide (4<(n2:Int))=true:=by simp;omega
   have HF:Z (Xa N x=false):=by unfold Z;simp[Xa,hvv.o,HZ2.o];intros;omega
   go_wp2
   go_ret
   exact⟨Q3 (by rw[HGT.o,HF.o]),HX2.o⟩
  have d7:decide (4<(n2:Int))=false:=by simp;omega
  have HT:Z (Xa N x=Qo x.ways.length (λi=>Xw N.ways (iat x.ways i))):=by unfold Z;simp[Xa,hvv.o,HZ2.o,H5.o,e6,e7]
  go_wp2
  go_loopw [5] (λi wr=>∃k:Nat,k<=n2/\i=iV k/\Z (Jz (λi=>Xw N.ways (iat x.ways i)) k)/\Z (Nx w2 wr)) (λi _=>n2-(intOf i).toNat)
  case atStart=>exact⟨0,nZ,rfl,Qy _,Nx.refl _⟩
  case round=>
   obtain⟨k,hkn,rfl,hrel,HN⟩:=hrel
   have BA3:=BA2.next HN.o
   have BB3:=BB2.next HN.o
   have k0:=BA3.c 0 rfl
   have k1:=BA3.c 1 rfl
   have k2:=BA3.c 2 rfl
   have k3:=BA3.c 3 rfl
   have k4:=BA3.c 4 rfl
   have l6:=BB3.c 6 rfl
   have HW:=mh (HX2.o.trans HN.o)
   by_cases hlt:k<n2
   ·obtain⟨b,off,rfl,hB,hb,hc⟩:=hk2 (by omega)
    have hcc:=Q2 HW.o hb (hc k hlt)
    have hlt':(k:Int)<n2:=by omega
    clear hc hk2
    by_cases hin:Xw N.ways (iat x.ways k)=true
    ·go_wp2
     go_region_with (go_at_call 87;refine(Xq B _ _ _ _ _ _ N.ways _ (by exact h1.keep (HW.o.drew.keeps B))).mono ?_;rintro e w' ⟨r,rfl,hr,hx⟩)
     all_goals go_wp2
     all_goals
      go_roundw
      case rel=>exact⟨k+1,by omega,by go_num,Qm hrel hin,HN.o.drew.trans hx⟩
      case measure=>simp[intOf];omega
    ·have hin':Xw N.ways (iat x.ways k)=false:=by simpa using hin
     go_wp2
     go_region_with (go_at_call 87;refine(Xq B _ _ _ _ _ _ N.ways _ (by exact h1.keep (HW.o.drew.keeps B))).mono ?_;rintro e w' ⟨r,rfl,hr,hx⟩)
     all_goals go_wp2
     all_goals
      go_ret
      exact⟨Q3 (by rw[HGT.o,HT.o,Qx (by rw[HZ2.o];exact hlt) hin']),HW.o.drew.trans hx⟩
   ·go_wp2
    go_ret
    exact⟨Q3 (by rw[HGT.o,HT.o,Qt (by rw[HZ2.o];omega) hrel]),HW.o⟩
def Zz (zs:List Int)(i:Nat):Bool:=inB (iat zs i)&&Xy (ltI zs) i
def Tj (N:Nt)(i:Nat):Bool:=Jg N.nodes (wat N.ways i)&&Xy (ltW N.ways) i
def Tl (N:Nt)(i:Nat):Bool:=Vm N (rat N.rels i)&&Xy (ltR N.rels) i
def Xm (N:Nt)(i:Nat):Bool:=(inB (tat N.turns i).cost&&(Xw N.ways (tat N.turns i).frm&&Xw N.ways (tat N.turns i).to))&&Xy (ltT N.turns) i
def V0 (N:Nt):Bool:=inB N.uturn&&(decide (N.nodes.length<=2000)&&(decide (N.ways.length<=2000)&&(decide (N.rels.length<=1000)&&decide (N.turns.length<=2000))))
def J9 (N:Nt):Bool:=
 V0 N&&(Qo N.nodes.length (Zz N.nodes)&&(Qo N.ways.length (Tj N)&&(decide (Wj N.ways N.ways.length<=4000)&&(Qo N.rels.length (Tl N)&&Qo N.turns.length (Xm N)))))
theorem Wv (n:Nat)(p q:Nat->Bool):Qo n (λi=>p i&&q i)=(Qo n p&&Qo n q):=by
 unfold Qo
 rw[Bool.eq_iff_iff]
 simp only[zG,List.all_eq_true,List.mem_range]
 constructor
 ·intro h;exact⟨λi hi=>(h i hi).1,λi hi=>(h i hi).2⟩
 ·rintro⟨h1,h2⟩ i hi;exact⟨h1 i hi,h2 i hi⟩
theorem Ej (N:Nt):J1 N=J9 N:=by
 have n1:Qo N.nodes.length (Zz N.nodes)=(Ki N.nodes&&Qeu N.nodes):=Wv _ _ _
 have w1:Qo N.ways.length (Tj N)=(Q4z N&&Qet N.ways):=Wv _ _ _
 have r1:Qo N.rels.length (Tl N)=(Q5e N&&Qgk N.rels):=Wv _ _ _
 have t1:Qo N.turns.length (Xm N)=(Q1j N&&Qgj N.turns):=by
  have h:Qo N.turns.length (Xm N)=Qo N.turns.length (λi=>I6 N (tat N.turns i)&&Xy (ltT N.turns) i):=by
   unfold Qo
   congr 1
   funext i
   unfold Xm I6
   cases inB (tat N.turns i).cost<;>cases Xw N.ways (tat N.turns i).frm<;>cases Xw N.ways (tat N.turns i).to<;>rfl
  rw[h]
  exact Wv _ _ _
 unfold J1 J9 Gx V0
 rw[n1,w1,r1,t1]
 generalize Ki N.nodes=b1
 generalize Qeu N.nodes=b2
 generalize (Q4z N&&Qet N.ways)=b3
 generalize (Q5e N&&Qgk N.rels)=b4
 generalize (Q1j N&&Qgj N.turns)=b5
 generalize inB N.uturn=b6
 generalize decide (N.nodes.length<=2000)=b7
 generalize decide (N.ways.length<=2000)=b8
 generalize decide (N.rels.length<=1000)=b9
 generalize decide (N.turns.length<=2000)=b10
 generalize decide (Wj N.ways N.ways.length<=4000)=b11
 revert b1 b2 b3 b4 b5 b6 b7 b8 b9 b10 b11
 decide
end Go.Proofs.YtphiaobccollhaaGreat
