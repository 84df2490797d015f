import Derived.Test.YtahpodmokbdjeaaGreatDoorQLeaf
import Derived.ProofKit
import Derived.OpenShut
import Derived.Deep.Slices
namespace Go.Proofs.YtahpodmokbdjeaaGreatDoor
open Go.RowKit Go.ChangeShapes Go.WideShapes Tryz
set_option linter.unusedVariables false
set_option maxRecDepth 1000000
set_option maxHeartbeats 16000000
theorem Ah:prog.cellsOf 2=1:=by kernel_rfl
theorem Qdg:prog.cellsOf 4=1:=by kernel_rfl
theorem Q2t:prog.cellsOf 22=1:=by kernel_rfl
theorem Qfr:prog.cellsOf 23=1:=by kernel_rfl
theorem Qfq:prog.cellsOf 24=1:=by kernel_rfl
theorem Qfp:prog.cellsOf 25=1:=by kernel_rfl
theorem Qfo:prog.cellsOf 27=5:=by kernel_rfl
theorem Qfn:prog.cellsOf 102=4:=by kernel_rfl
theorem Qfm:prog.cellsOf 105=7:=by kernel_rfl
theorem Qfl:prog.cellsOf 134=3:=by kernel_rfl
section
variable {H:Type}{enc:TypeId×Value->H}{w:World}
theorem Q0o {a:Addr}{v:Value}(h:w.cell? (a.add 0)=some v):∃b off,a=(aD b off):=by
 have hs:=World.cell?_spot h
 obtain⟨b,off,s⟩:=a
 simp[Addr.add] at hs
 exact⟨b,off,by rw[hs]⟩
theorem Q6c {a:Addr}{k:Nat}{m:Nat}{Q:Nat->List Value->Prop}(hk:0<k)(hx:∀i,i<m->∃cs',w.cells? 0 (a.add (i*k)) k=some cs'/\Q i cs')(hm:0<m):∃b off,a=(aD b off):=by
 obtain⟨cs,h1,_⟩:=hx 0 hm
 obtain⟨_,hlen,hcell⟩:=World.cells?_some h1
 have c0:=hcell 0 hk
 rw[Deep.add_add,zJ (by omega)] at c0
 simp only[Nat.zero_mul,Nat.add_zero] at c0
 exact Q0o c0
theorem add_at (b off i:Nat):((aD b off):Addr).add i=(aD b (off+i)):=by
 unfold Addr.add
 by_cases hi:i=0<;>simp[hi]
theorem Zz {n:Nat}{c:Value}{y:DataW H×List MemPlace}(h:DataW.trod enc prog w 0 (λ_=>true) true n 22 [c]=some y):∃zs,Q8 0 w c zs:=by
 rcases open_ints underlying22 underlying2 Ah h with⟨hcs,_⟩|⟨a,len,cap,zs,hcs,_,hl,hm,hz,_,hcell,_⟩
 ·simp at hcs;subst hcs
  exact⟨[],none,0,rfl,nZ,λh0=>absurd h0 (yK _)⟩
 ·simp at hcs;subst hcs
  have hz':zs.length=cap:=by simpa using hz
  have hlen:(zs.take len).length=len:=by rw[yC];omega
  refine⟨zs.take len,some a,cap,by rw[hlen],by rw[hlen];omega,λh0=>?_⟩
  rw[hlen] at h0
  obtain⟨b,off,rfl⟩:=Q0o (hcell 0 (by omega))
  refine⟨b,off,rfl,nZ,?_,λi hi=>?_⟩
  ·have h1:=hcell 0 (by omega)
   rw[add_at] at h1
   exact Zj h1
  ·rw[hlen] at hi
   have h1:=hcell i (by omega)
   rw[add_at] at h1
   rw[h1,Vl (by rw[hlen];exact hi)]
   simp[List.getD,show i<zs.length by omega]
theorem Q2b {α:Type}{n:Nat}{p:Nat->α->Prop}(h:∀i,i<n->∃x,p i x):∃xs:List α,xs.length=n/\∀i (hi:i<xs.length),p i xs[i]:=by
 induction n with
 |zero=>exact⟨[],rfl,λi hi=>absurd hi (zM _)⟩
 |succ n ih=>
  obtain⟨xs,hl,hx⟩:=ih (λi hi=>h i (by omega))
  obtain⟨x,hp⟩:=h n (by omega)
  refine⟨xs++[x],by simp[hl],λi hi=>?_⟩
  by_cases e:i<xs.length
  ·rw[List.getElem_append_left e];exact hx i e
  ·have e':i=xs.length:=by simp at hi;omega
   subst e'
   rw[List.getElem_append_right lR]
   simpa [hl] using hp
theorem Q01 {n:Nat}{c:Value}{y:DataW H×List MemPlace}(h:DataW.trod enc prog w 0 (λ_=>true) true n 23 [c]=some y):∃xs,Jy 0 w c xs:=by
 rcases Deep.open_slice underlying23 h with⟨hcs,_⟩|⟨a,len,cap,m,n',D,Pl,hcs,_,hl,hm,hmm,_,hx⟩
 ·simp at hcs;subst hcs
  exact⟨[],none,0,rfl,nZ,λh0=>absurd h0 (yK _)⟩
 ·simp at hcs;subst hcs
  have hmm':m=cap:=by simpa using hmm
  rw[Qfn] at hx
  by_cases hlz:len=0
  ·subst hlz
   exact⟨[],some a,cap,rfl,nZ,λh0=>absurd h0 (yK _)⟩
  obtain⟨b,off,rfl⟩:=Q6c (k:=4) (by decide) hx (show 0<m by omega)
  have hel:∀i,i<len->∃x:Wy,b<w.heap.size/\Qdw 0 w b (off+i*4) x:=by
   intro i hi
   obtain⟨cs,h1,h2⟩:=hx i (by omega)
   obtain⟨_,hlen,hcell⟩:=World.cells?_some h1
   obtain⟨xs,k,_,_,_,hxs,hf⟩:=DataW.trod_struct underlying102 h2
   match cs,hlen with
   |[e0,e1,e2,e3],_=>
    have f0:DataW.trod enc prog w 0 (λ_=>true) true k 2 (([e0,e1,e2,e3].drop 0).take (prog.cellsOf 2))=xs[0]?:=hf 0 _ rfl
    have f1:DataW.trod enc prog w 0 (λ_=>true) true k 4 (([e0,e1,e2,e3].drop 1).take (prog.cellsOf 4))=xs[1]?:=hf 1 _ rfl
    have f2:DataW.trod enc prog w 0 (λ_=>true) true k 22 (([e0,e1,e2,e3].drop 2).take (prog.cellsOf 22))=xs[2]?:=hf 2 _ rfl
    have f3:DataW.trod enc prog w 0 (λ_=>true) true k 22 (([e0,e1,e2,e3].drop 3).take (prog.cellsOf 22))=xs[3]?:=hf 3 _ rfl
    have hxs4:xs.length=4:=hxs
    rw[zJ (by omega)] at f0 f1 f2 f3
    simp only[Ah,Qdg,Q2t,List.drop_zero,List.drop_succ_cons,List.take_succ_cons,List.take_zero] at f0 f1 f2 f3
    obtain⟨id,q0,_⟩:=DataW.trod_int underlying2 f0
    obtain⟨bo,q1,_⟩:=DataW.trod_bool underlying4 f1
    obtain⟨ns,q2⟩:=Zz (c:=e2) f2
    obtain⟨ws,q3⟩:=Zz (c:=e3) f3
    simp at q0 q1
    subst q0 q1
    have c0:=hcell 0 (by omega)
    have c1:=hcell 1 (by omega)
    have c2:=hcell 2 (by omega)
    have c3:=hcell 3 (by omega)
    rw[Deep.add_add] at c0 c1 c2 c3
    rw[add_at] at c0 c1 c2 c3
    refine⟨⟨id,bo,ns,ws⟩,Zj c0,e2,e3,?_,?_,?_,?_,q2,q3⟩
    ·simpa using c0
    ·simpa [Nat.add_assoc] using c1
    ·simpa [Nat.add_assoc] using c2
    ·simpa [Nat.add_assoc] using c3
  obtain⟨xs,hlx,hxs⟩:=Q2b hel
  subst hlx
  refine⟨xs,some (aD b off),cap,rfl,by omega,λh0=>?_⟩
  obtain⟨hb,_⟩:=hxs 0 h0
  refine⟨b,off,rfl,nZ,hb,λi hi=>?_⟩
  obtain⟨_,hw⟩:=hxs i hi
  rw[Im hi]
  exact hw
theorem Q02 {n:Nat}{c:Value}{y:DataW H×List MemPlace}(h:DataW.trod enc prog w 0 (λ_=>true) true n 24 [c]=some y):∃xs,Ut 0 w c xs:=by
 rcases Deep.open_slice underlying24 h with⟨hcs,_⟩|⟨a,len,cap,m,n',D,Pl,hcs,_,hl,hm,hmm,_,hx⟩
 ·simp at hcs;subst hcs
  exact⟨[],none,0,rfl,nZ,λh0=>absurd h0 (yK _)⟩
 ·simp at hcs;subst hcs
  have hmm':m=cap:=by simpa using hmm
  rw[Qfm] at hx
  by_cases hlz:len=0
  ·subst hlz
   exact⟨[],some a,cap,rfl,nZ,λh0=>absurd h0 (yK _)⟩
  obtain⟨b,off,rfl⟩:=Q6c (k:=7) (by decide) hx (show 0<m by omega)
  have hel:∀i,i<len->∃x:Rl,b<w.heap.size/\Qdx 0 w b (off+i*7) x:=by
   intro i hi
   obtain⟨cs,h1,h2⟩:=hx i (by omega)
   obtain⟨_,hlen,hcell⟩:=World.cells?_some h1
   obtain⟨xs,k,_,_,_,hxs,hf⟩:=DataW.trod_struct underlying105 h2
   match cs,hlen with
   |[e0,e1,e2,e3,e4,e5,e6],_=>
    have f0:DataW.trod enc prog w 0 (λ_=>true) true k 2 (([e0,e1,e2,e3,e4,e5,e6].drop 0).take (prog.cellsOf 2))=xs[0]?:=hf 0 _ rfl
    have f1:DataW.trod enc prog w 0 (λ_=>true) true k 4 (([e0,e1,e2,e3,e4,e5,e6].drop 1).take (prog.cellsOf 4))=xs[1]?:=hf 1 _ rfl
    have f2:DataW.trod enc prog w 0 (λ_=>true) true k 2 (([e0,e1,e2,e3,e4,e5,e6].drop 2).take (prog.cellsOf 2))=xs[2]?:=hf 2 _ rfl
    have f3:DataW.trod enc prog w 0 (λ_=>true) true k 2 (([e0,e1,e2,e3,e4,e5,e6].drop 3).take (prog.cellsOf 2))=xs[3]?:=hf 3 _ rfl
    have f4:DataW.trod enc prog w 0 (λ_=>true) true k 4 (([e0,e1,e2,e3,e4,e5,e6].drop 4).take (prog.cellsOf 4))=xs[4]?:=hf 4 _ rfl
    have f5:DataW.trod enc prog w 0 (λ_=>true) true k 2 (([e0,e1,e2,e3,e4,e5,e6].drop 5).take (prog.cellsOf 2))=xs[5]?:=hf 5 _ rfl
    have f6:DataW.trod enc prog w 0 (λ_=>true) true k 22 (([e0,e1,e2,e3,e4,e5,e6].drop 6).take (prog.cellsOf 22))=xs[6]?:=hf 6 _ rfl
    have hxs4:xs.length=7:=hxs
    rw[zJ (by omega)] at f0 f1 f2 f3 f4 f5 f6
    simp only[Ah,Qdg,Q2t,List.drop_zero,List.drop_succ_cons,List.take_succ_cons,List.take_zero] at f0 f1 f2 f3 f4 f5 f6
    obtain⟨id,q0,_⟩:=DataW.trod_int underlying2 f0
    obtain⟨bo,q1,_⟩:=DataW.trod_bool underlying4 f1
    obtain⟨fr,q2,_⟩:=DataW.trod_int underlying2 f2
    obtain⟨to,q3,_⟩:=DataW.trod_int underlying2 f3
    obtain⟨vi,q4,_⟩:=DataW.trod_bool underlying4 f4
    obtain⟨nd,q5,_⟩:=DataW.trod_int underlying2 f5
    obtain⟨ws,q6⟩:=Zz (c:=e6) f6
    simp at q0 q1 q2 q3 q4 q5
    subst q0 q1 q2 q3 q4 q5
    have c0:=hcell 0 (by omega)
    have c1:=hcell 1 (by omega)
    have c2:=hcell 2 (by omega)
    have c3:=hcell 3 (by omega)
    have c4:=hcell 4 (by omega)
    have c5:=hcell 5 (by omega)
    have c6:=hcell 6 (by omega)
    rw[Deep.add_add] at c0 c1 c2 c3 c4 c5 c6
    rw[add_at] at c0 c1 c2 c3 c4 c5 c6
    refine⟨⟨id,bo,fr,to,vi,nd,ws⟩,Zj c0,e6,?_,?_,?_,?_,?_,?_,?_,q6⟩
    ·simpa using c0
    ·simpa [Nat.add_assoc] using c1
    ·simpa [Nat.add_assoc] using c2
    ·simpa [Nat.add_assoc] using c3
    ·simpa [Nat.add_assoc] using c4
    ·simpa [Nat.add_assoc] using c5
    ·simpa [Nat.add_assoc] using c6
  obtain⟨xs,hlx,hxs⟩:=Q2b hel
  subst hlx
  refine⟨xs,some (aD b off),cap,rfl,by omega,λh0=>?_⟩
  obtain⟨hb,_⟩:=hxs 0 h0
  refine⟨b,off,rfl,nZ,hb,λi hi=>?_⟩
  obtain⟨_,hw⟩:=hxs i hi
  rw[Qgo hi]
  exact hw
theorem Ei {n:Nat}{c:Value}{y:DataW H×List MemPlace}(h:DataW.trod enc prog w 0 (λ_=>true) true n 25 [c]=some y):∃xs,V5 0 w c xs:=by
 rcases Deep.open_slice underlying25 h with⟨hcs,_⟩|⟨a,len,cap,m,n',D,Pl,hcs,_,hl,hm,hmm,_,hx⟩
 ·simp at hcs;subst hcs
  exact⟨[],none,0,rfl,nZ,λh0=>absurd h0 (yK _)⟩
 ·simp at hcs;subst hcs
  have hmm':m=cap:=by simpa using hmm
  rw[Qfl] at hx
  by_cases hlz:len=0
  ·subst hlz
   exact⟨[],some a,cap,rfl,nZ,λh0=>absurd h0 (yK _)⟩
  obtain⟨b,off,rfl⟩:=Q6c (k:=3) (by decide) hx (show 0<m by omega)
  have hel:∀i,i<len->∃x:Tn,b<w.heap.size/\Q5w w b (off+i*3) x:=by
   intro i hi
   obtain⟨cs,h1,h2⟩:=hx i (by omega)
   obtain⟨_,hlen,hcell⟩:=World.cells?_some h1
   obtain⟨xs,k,_,_,_,hxs,hf⟩:=DataW.trod_struct underlying134 h2
   match cs,hlen with
   |[e0,e1,e2],_=>
    have f0:DataW.trod enc prog w 0 (λ_=>true) true k 2 (([e0,e1,e2].drop 0).take (prog.cellsOf 2))=xs[0]?:=hf 0 _ rfl
    have f1:DataW.trod enc prog w 0 (λ_=>true) true k 2 (([e0,e1,e2].drop 1).take (prog.cellsOf 2))=xs[1]?:=hf 1 _ rfl
    have f2:DataW.trod enc prog w 0 (λ_=>true) true k 2 (([e0,e1,e2].drop 2).take (prog.cellsOf 2))=xs[2]?:=hf 2 _ rfl
    have hxs4:xs.length=3:=hxs
    rw[zJ (by omega)] at f0 f1 f2
    simp only[Ah,List.drop_zero,List.drop_succ_cons,List.take_succ_cons,List.take_zero] at f0 f1 f2
    obtain⟨fr,q0,_⟩:=DataW.trod_int underlying2 f0
    obtain⟨to,q1,_⟩:=DataW.trod_int underlying2 f1
    obtain⟨co,q2,_⟩:=DataW.trod_int underlying2 f2
    simp at q0 q1 q2
    subst q0 q1 q2
    have c0:=hcell 0 (by omega)
    have c1:=hcell 1 (by omega)
    have c2:=hcell 2 (by omega)
    rw[Deep.add_add] at c0 c1 c2
    rw[add_at] at c0 c1 c2
    refine⟨⟨fr,to,co⟩,Zj c0,?_,?_,?_⟩
    ·simpa using c0
    ·simpa [Nat.add_assoc] using c1
    ·simpa [Nat.add_assoc] using c2
  obtain⟨xs,hlx,hxs⟩:=Q2b hel
  subst hlx
  refine⟨xs,some (aD b off),cap,rfl,by omega,λh0=>?_⟩
  obtain⟨hb,_⟩:=hxs 0 h0
  refine⟨b,off,rfl,nZ,hb,λi hi=>?_⟩
  obtain⟨_,hw⟩:=hxs i hi
  rw[Qgj hi]
  exact hw
theorem Qc0 {r:Reach}{b0:Nat}{v:Value}{d:DataW H}{p:List MemPlace}(hv:Value.okWide prog w r b0 27 v)(h:DataW.Trod enc prog w 0 (λ_=>true) true 27 v d p) :
  ∃(v0 v1 v2 v3:Value) (N:Nt),v=.agg #[v0,v1,v2,v3,iV N.uturn]/\Ye 0 w v0 v1 v2 v3 N:=by
 obtain⟨cs,rfl,hsz⟩:=okWide_struct underlying27 hv
 rw[Qfo] at hsz
 obtain⟨fuel,hf⟩:=h
 obtain⟨xs,k,_,_,_,hxs,hf⟩:=DataW.trod_struct underlying27 hf
 have hxs5:xs.length=5:=hxs
 obtain⟨l⟩:=cs
 match l,hsz with
 |[e0,e1,e2,e3,e4],_=>
  have f0:DataW.trod enc prog w 0 (λ_=>true) true k 22 (([e0,e1,e2,e3,e4].drop 0).take (prog.cellsOf 22))=xs[0]?:=hf 0 _ rfl
  have f1:DataW.trod enc prog w 0 (λ_=>true) true k 23 (([e0,e1,e2,e3,e4].drop 1).take (prog.cellsOf 23))=xs[1]?:=hf 1 _ rfl
  have f2:DataW.trod enc prog w 0 (λ_=>true) true k 24 (([e0,e1,e2,e3,e4].drop 2).take (prog.cellsOf 24))=xs[2]?:=hf 2 _ rfl
  have f3:DataW.trod enc prog w 0 (λ_=>true) true k 25 (([e0,e1,e2,e3,e4].drop 3).take (prog.cellsOf 25))=xs[3]?:=hf 3 _ rfl
  have f4:DataW.trod enc prog w 0 (λ_=>true) true k 2 (([e0,e1,e2,e3,e4].drop 4).take (prog.cellsOf 2))=xs[4]?:=hf 4 _ rfl
  rw[zJ (by omega)] at f0 f1 f2 f3 f4
  simp only[Ah,Q2t,Qfr,Qfq,Qfp,List.drop_zero,List.drop_succ_cons,List.take_succ_cons,List.take_zero] at f0 f1 f2 f3 f4
  obtain⟨ns,q0⟩:=Zz (c:=e0) f0
  obtain⟨ws,q1⟩:=Q01 (c:=e1) f1
  obtain⟨rs,q2⟩:=Q02 (c:=e2) f2
  obtain⟨ts,q3⟩:=Ei (c:=e3) f3
  obtain⟨u,q4,_⟩:=DataW.trod_int underlying2 f4
  simp at q4
  subst q4
  exact⟨e0,e1,e2,e3,⟨ns,ws,rs,ts,u⟩,rfl,q0,q1,q2,q3⟩
end
end Go.Proofs.YtahpodmokbdjeaaGreatDoor
