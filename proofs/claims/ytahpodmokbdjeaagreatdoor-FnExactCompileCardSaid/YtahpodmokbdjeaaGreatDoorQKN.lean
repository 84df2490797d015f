import Derived.Test.YtahpodmokbdjeaaGreatDoorQKJ
import Derived.Test.YtahpodmokbdjeaaGreatDoorQShelf
import Derived.Maps.Own
namespace Go.Proofs.YtahpodmokbdjeaaGreatDoor
open Go.RowKit Go.Sort Go.Shelf Tryz
set_option linter.unusedVariables false
set_option maxRecDepth 1000000
set_option maxHeartbeats 16000000
theorem Qcr:∃i,prog.info? 2=some i/\i.zero=some (iV 0)/\i.size=1/\i.bytes=8:=by
 obtain⟨ii,hi,hz0,hz1,hz2⟩:=info_parts U0
 exact⟨ii,hi,hz0,hz1,hz2⟩
theorem Q50 (n:Nat)(w:World)(hn:0<n)(hb:n<=10000000) :
  Calls prog 156 #[sN,iV (n:Int)] w λe w'=>(∃cap,e=.returned (sL (sA w.heap.size) 0 cap)/\Qd w.heap.size w' (sL (sA w.heap.size) 0 cap) [])/\Nx w w':=by
 obtain⟨ii,hi,hz0,hz1,hz2⟩:=Qcr
 refine Calls.mono (Any8.slices_Grow_grow Tryz.growA ii (iV 0) hi hz0 (by rw[hz1];decide) none 0 0 n [] w lR (by omega) (by rw[hz2];omega) (by omega) (by simp) (λ_=>rfl) (λa h=>by cases h)) ?_
 rintro e w' ⟨rfl,rfl⟩
 have hg:=grownCap_ge w (0+n) 0 (Tryz.growA_ren.t 25)
 have hl:=grownCap_le_maxLen w (0+n) 0 (Tryz.growA_ren.t 25) (by unfold maxLen;omega)
 have key:∀(cs:Array Value) (cap:Nat),cs.size=cap->cap<=maxLen->Qd w.heap.size (w.drew.alloc (.cells cs 2)) (sL (sA w.heap.size) 0 cap) []:=λcs cap h1 h2=>
  ⟨rfl,oR ⟨w.heap.size,cap,cs,rfl,lR,by show(w.heap.push _)[w.heap.size]?=_;simp,nZ,h2,by omega,by simp[Jr]⟩⟩
 refine⟨⟨_,rfl,key _ _ ?_ hl⟩,Nx.trans (show Nx w w.drew from(Below.refl _ _).drew) (Q4 w.drew _)⟩
 simp[Builtin.zeroCells,Value.cells]
 have e:grownCap w (0+n) 0 (Tryz.growA_ren.t 25)=grownCap w n 0 (Tryz.growA_ren.t 25):=by rw[Nat.zero_add]
 rw[e] at hg
 omega
theorem add_at (b off i:Nat):((aD b off):Addr).add i=(aD b (off+i)):=by
 unfold Addr.add
 by_cases hi:i=0<;>simp[hi]
theorem Fa (w:World)(t ty e:TypeId)(i:TypeInfo)(ht:prog.underlying t=some (.slice e))(hi:prog.info? e=some i)(a:Addr)(n cap c:Nat)(hn:n<=cap) :
  (Builtin.append_ #[t,t] ty #[sL (some a) n cap,sL none 0 c]).run prog w=.ok (sL (some a) n cap) w:=by
 have hf:=run_firstCells_none (P:=prog) (w:=w) i.size 0 0 c
 simp[Builtin.append_,run_underlying ht,sizeOf,typeInfo,hi,Builtin.lenOf,hn,hf,storeCells]
def V0 (ws:List (List Int))(k:Nat):List Int:=(ws.take k).flatten
theorem P3 {ws:List (List Int)}{k:Nat}(h:k<ws.length):V0 ws (k+1)=V0 ws k++wd ws k:=by
 unfold V0
 rw[zR h,List.flatten_append]
 simp[wd,List.getD_eq_getElem?_getD,h]
theorem Ab (ws:List (List Int)):V0 ws ws.length=ws.flatten:=by unfold V0;rw[zU]
theorem Qab {ws:List (List Int)}:∀k,(V0 ws k).length<=ws.flatten.length:=by
 intro k
 unfold V0
 have:ws.flatten=(ws.take k).flatten++(ws.drop k).flatten:=by rw[<-List.flatten_append,yF]
 rw[this,zA]
 omega
theorem Qd.app {B:Nat}{w:World}{v:Value}{zs ys:List Int}(h:w.ownsRow B 2 1 v (zs.length+ys.length) (Jr zs++Jr ys)):Qd B w v (zs++ys):=by
 unfold Qd
 have e:Jr (zs++ys)=Jr zs++Jr ys:=by simp[Jr]
 rw[zA,e]
 exact h
theorem Kc (B:Nat)(v:Value)(ws:List (List Int))(w:World)(h0:J7 B w v ws)(hp:0<ws.flatten.length)(hl:ws.flatten.length<=1000000)(hn:ws.length<=10) :
  Calls prog 136 #[v] w λe w'=>(∃u,e=.returned u/\Qd w.heap.size w' u ws.flatten)/\Nx w w':=by
 obtain⟨ii,hi,hz0,hz1,hz2⟩:=info_parts U0
 have HW:Z (J7 B w v ws):=h0
 obtain⟨a,cap,rfl,jm,jk⟩:=h0
 clear jm jk
 generalize hnl:ws.length=n at *
 have HNL:Z (ws.length=n):=hnl
 clear hnl
 have HFL:Z (∀k,(V0 ws k).length<=ws.flatten.length):=Qab
 generalize hfl:ws.flatten.length=fl at *
 have HF:Z (ws.flatten.length=fl):=hfl
 clear hfl
 go_enter func136,ntmps136
 go_wp2
 go_loopw [3,11] (λs i wr=>∃k:Nat,k<=n/\i=iV k/\s=iV ((V0 ws k).length:Int)/\Z (w=wr)) (λ_ i _=>n-(intOf i).toNat)
 case atStart=>exact⟨0,nZ,rfl,rfl,rfl⟩
 obtain⟨k,hkm,rfl,rfl,hww⟩:=hrel
 have hww2:=hww.o
 subst hww2
 clear hww
 by_cases hlt:k<n
 ·have hlt':(k:Int)<n:=by omega
  have HKW:Z (k<ws.length):=by rw[HNL.o];exact hlt
  obtain⟨b,off,c,hae,hb,vi,hvi,hI,hcI⟩:=HW.o.at' HKW.o
  simp only[zC] at hae
  obtain⟨rfl,jl,rfl⟩:=hae
  have HES:Z (((V0 ws (k+1)).length:Int)=(V0 ws k).length+(wd ws k).length):=by unfold Z;rw[P3 HKW.o,zA];omega
  have h1:=HFL.o (k+1)
  have h2:(V0 ws (k+1)).length=(V0 ws k).length+(wd ws k).length:=by rw[P3 HKW.o,zA]
  obtain⟨ai,ci,rfl,ji,jk⟩:=hI
  have hbd:(V0 ws k).length+(wd ws k).length<=fl:=by omega
  clear jl ji jk hcI h1 h2
  generalize (wd ws k).length=wl at *
  generalize hfk:(V0 ws k).length=fk at *
  clear hfk
  have g1:decide ((fk:Int)+(wl:Int)<0)=false:=by simp;omega
  go_wp2
  go_roundw
  case rel=>exact⟨k+1,by omega,by go_num,by rw[HES.o],(trivial:True)⟩
  case measure=>simp[intOf];omega
 have ek:n=k:=by omega
 subst ek
 have HA:Z ((V0 ws n).length=fl):=by rw[<-HNL.o,Ab];exact HF.o
 rw[HA.o]
 clear hlt hkm
 go_wp2_with fail
 refine(Q50 fl _ hp (by omega)).mono ?_
 rintro e w2 ⟨⟨cp,rfl,hO⟩,hx⟩
 have HO2:Z (Qd w.heap.size w2 (sL (sA w.heap.size) 0 cp) (V0 ws 0)):=hO
 have HX2:Z (Nx w w2):=hx
 clear hO hx
 go_wp2
 go_loopw [6,27] (λu i wq=>∃k:Nat,k<=n/\i=iV k/\Z (Qd w.heap.size wq u (V0 ws k))/\Z (Nx w wq)/\Z (u.ownBlock≠none)) (λ_ i _=>n-(intOf i).toNat)
 case atStart=>exact⟨0,nZ,rfl,HO2,HX2,by unfold Z;simp[Value.ownBlock]⟩
 clear HO2 HX2
 obtain⟨k,hkm,rfl,HO,HN,HNB⟩:=hrel
 by_cases hlt:k<n
 case neg=>
  have ek:n=k:=by omega
  subst ek
  have HFF:Z (Qd w.heap.size wr u6 ws.flatten):=by have:=HO.o;rw[<-HNL.o,Ab] at this;exact this
  clear hlt hkm HO
  go_wp2
  go_ret
  exact⟨⟨_,rfl,HFF.o⟩,HN.o⟩
 have hlt':(k:Int)<n:=by omega
 have HKW:Z (k<ws.length):=by rw[HNL.o];exact hlt
 obtain⟨b,off,c,hae,hb,vi,hvi,hI,hcI⟩:=HW.o.at' HKW.o
 simp only[zC] at hae
 obtain⟨rfl,jl,rfl⟩:=hae
 have c0:=Q1 HN.o hvi
 have HES:Z (V0 ws (k+1)=V0 ws k++wd ws k):=P3 HKW.o
 have hbd:(V0 ws k).length+(wd ws k).length<=fl:=by have:=HFL.o (k+1);rw[HES.o,zA] at this;exact this
 have HIr:Z (Q8 B wr vi (wd ws k)):=hI.next HN.o
 obtain⟨ai,ci,rfl,ji,jk⟩:=hI
 clear jl ji hcI
 by_cases hz:(wd ws k).length=0
 ·have hnil:wd ws k=[]:=List.length_eq_zero_iff.1 hz
  have HE2:Z (V0 ws (k+1)=V0 ws k):=by unfold Z;rw[HES.o,hnil,List.append_nil]
  obtain⟨ua,uc,hue⟩:=HO.o.slice
  subst hue
  cases ua with
  |none=>exact absurd rfl HNB.o
  |some ua=>
  have hcapu:(V0 ws k).length<=uc:=by
   rcases HO.o.2 with⟨e,_⟩|⟨g,cap',cur,e,_,_,hc',_⟩
   ·cases e
   ·simp only[zC] at e;omega
  cases ai with
  |none=>
   have hap:=λty=>Fa wr 22 ty 2 ii underlying22 hi ua (V0 ws k).length uc ci hcapu
   rw[hz] at c0
   generalize (V0 ws k).length=zl at *
   clear jk hnil
   go_wp2
   go_roundw
   case rel=>exact⟨k+1,by omega,by go_num,by rw[HE2.o];exact HO.o,HN,HNB⟩
   case measure=>simp[intOf];omega
  |some ad=>
   rw[hz] at c0
   generalize hzs:V0 ws k=zs at *
   clear hzs
   generalize hzl:zs.length=zl at *
   have HZL:Z (zs.length=zl):=hzl
   clear hzl jk hnil
   go_wp2_with (at_builtin;refine wpList_append_own_at _ rfl _ _ 22 rfl w.heap.size 2 ii (iV 0) 1 8 underlying22 hi hz0 hz1 hz2 rfl (by decide) _ _ _ rfl HO.o ad 0 ci [] rfl rfl ?g1 ?g2 ?g3 ?g4 ?g5 ?_)
   case g1=>intro j u hj;simp at hj
   case g2=>intro u hu;simp at hu
   case g3=>rw[HZL.o];unfold maxLen;omega
   case g4=>rw[HZL.o];omega
   case g5=>exact HN.o.size
   intro v7 w7 hown hgrow _ hat7
   have HO7:Z (Qd w.heap.size w7 v7 (V0 ws (k+1))):=by rw[HE2.o];exact hown
   have HN7:Z (Nx w w7):=Below.grown HN.o hgrow HN.o.size (λg hg=>(Q5 HO.o g hg).1)
   have HB7:Z (v7.ownBlock≠none):=by rcases hat7 with e|e<;>(unfold Z;rw[e];first|exact HNB.o|simp)
   clear hown hgrow hat7 c0
   go_wp2
   go_roundw
   case rel=>exact⟨k+1,by omega,by go_num,HO7,HN7,HB7⟩
   case measure=>simp[intOf];omega
 obtain⟨bi,oi,rfl,jB,hbi,hci⟩:=jk (by omega)
 have HNEWS:Z (∀j u,(Jr (wd ws k))[j]?=some u->wr.cell? (((aD bi oi):Addr).add j)=some u):=λj u hj=>by
  have hjl:j<(wd ws k).length:=by
   have:=(List.getElem?_eq_some_iff.1 hj).1
   simpa [Jr] using this
  rw[Q1b hjl] at hj
  rw[add_at]
  cases hj
  exact Q1 HN.o (hci j hjl)
 obtain⟨ua,uc,hue⟩:=HO.o.slice
 subst hue
 generalize hzs:V0 ws k=zs at *
 clear hzs
 generalize hys:wd ws k=ys at *
 clear hys jk hci
 generalize hzl:zs.length=zl at *
 have HZL:Z (zs.length=zl):=hzl
 generalize hyl:ys.length=yl at *
 have HYL:Z (ys.length=yl):=hyl
 clear hzl hyl
 go_wp2_with (at_builtin;refine wpList_append_own_at _ rfl _ _ 22 rfl w.heap.size 2 ii (iV 0) 1 8 underlying22 hi hz0 hz1 hz2 rfl (by decide) _ _ _ rfl HO.o (aD bi oi) yl ci (Jr ys) rfl ?f0 HNEWS.o ?f2 ?f3 ?f4 ?f5 ?_)
 case f0=>rw[Jr,zG,HYL.o];omega
 case f2=>intro u hu;obtain⟨z,_,rfl⟩:=List.mem_map.1 hu;rfl
 case f3=>rw[HZL.o];unfold maxLen;omega
 case f4=>rw[HZL.o];omega
 case f5=>exact HN.o.size
 intro v7 w7 hown hgrow _ hat7
 have HO7:Z (Qd w.heap.size w7 v7 (V0 ws (k+1))):=by rw[HES.o];exact Qd.app (by rw[HYL.o];exact hown)
 have HN7:Z (Nx w w7):=Below.grown HN.o hgrow HN.o.size (λg hg=>(Q5 HO.o g hg).1)
 have HB7:Z (v7.ownBlock≠none):=by rcases hat7 with e|e<;>(unfold Z;rw[e];first|exact HNB.o|simp)
 clear hown hgrow hat7 c0
 go_wp2
 go_roundw
 case rel=>exact⟨k+1,by omega,by go_num,HO7,HN7,HB7⟩
 case measure=>simp[intOf];omega
end Go.Proofs.YtahpodmokbdjeaaGreatDoor
namespace Go.Proofs.YtahpodmokbdjeaaGreatDoor
open Go.RowKit Go.Sort Tryz
set_option linter.unusedVariables false
set_option maxRecDepth 1000000
set_option maxHeartbeats 16000000
def RWP (w:World)(g n:Nat)(F:Nat->Nat):Prop:=∃c:Array Value,w.heap[g]?=some (.cells c 143 (0,0))/\n<=c.size/\∀i,i<n->c[i]?=some (pT (F i))
theorem RWP.lt {w:World}{g n:Nat}{F:Nat->Nat}(h:RWP w g n F):g<w.heap.size:=by
 obtain⟨c,hb,_⟩:=h
 exact(Array.getElem?_eq_some_iff.1 hb).1
theorem RWP.cell {w:World}{g n:Nat}{F:Nat->Nat}(h:RWP w g n F){i:Nat}(hi:i<n):w.cell? (aD g i)=some (pT (F i)):=by
 obtain⟨c,hb,_,hc⟩:=h
 simp[World.cell?,hb,hc i hi]
theorem RWP.frozen {w:World}{g n:Nat}{F:Nat->Nat}(h:RWP w g n F)(i:Nat):w.frozen? (aD g i)=false:=by
 obtain⟨c,hb,_,_⟩:=h
 simp[World.frozen?,hb]
theorem RWP.congr {w:World}{g n:Nat}{F G:Nat->Nat}(h:RWP w g n F)(e:∀i,i<n->F i=G i):RWP w g n G:=by
 obtain⟨c,hb,hs,hc⟩:=h
 exact⟨c,hb,hs,λi hi=>by rw[hc i hi,e i hi]⟩
theorem RWP.set {w:World}{g n:Nat}{F:Nat->Nat}(h:RWP w g n F){i:Nat}(hi:i<n)(p:Nat):RWP (w.setCell (aD g i) (pT p)) g n (λt=>if t=i then p else F t):=by
 obtain⟨c,hb,hs,hc⟩:=h
 refine⟨c.setIfInBounds i (pT p),by simp[World.setCell,Array.getElem?_modify,hb],by simpa using hs,λt ht=>?_⟩
 rw[Array.getElem?_setIfInBounds]
 by_cases e:i=t
 ·subst e
  rw[if_pos rfl,if_pos (by omega)]
  simp
 ·rw[if_neg e,hc t ht]
  have e':¬t=i:=λx=>e x.symm
  simp[e']
theorem RWP.held {w:World}{g n c:Nat}{F:Nat->Nat}(h:RWP w g n F){ps:List Nat}(hp:ps.length=n)(hm:n<=maxLen)(he:∀i,i<n->F i=ps.getD i 0){B:Nat}(hB:B<=g):Zb B w (sL (sA g) n c) ps:=by
 subst hp
 refine⟨_,_,rfl,hm,λh0=>⟨g,0,rfl,hB,h.lt,λi hi=>?_⟩⟩
 show w.cell? (aD g (0+i))=_
 rw[Nat.zero_add,h.cell hi,he i hi]
def rvK (f:Nat->Nat)(n k t:Nat):Nat:=if t<k\/n<=t+k then f (n-1-t) else f t
theorem Q3q (g n c:Nat)(f:Nat->Nat)(w:World)(h0:RWP w g n f)(hn:n<=10000)(hp:0<n) :
  Calls prog 121 #[sL (sA g) n c] w λe w'=>(∃x,e=.returned x)/\RWP w' g n (λt=>f (n-1-t))/\J1 (some g) w w':=by
 have HR0:Z (RWP w g n (rvK f n 0)):=h0.congr (λi hi=>by unfold rvK;rw[if_neg (by omega)])
 obtain⟨m,rfl⟩:∃m,n=m+1:=⟨n-1,by omega⟩
 clear h0
 have hwj:=Yk m (by omega)
 go_enter func121,ntmps121
 go_wp2
 go_loopw [2,3] (λa b wr=>∃k:Nat,2*k<=m+2/\a=iV k/\b=iV ((m:Int)-(k:Int))/\Z (RWP wr g (m+1) (rvK f (m+1) k))/\Z (J1 (some g) w wr)) (λa _ _=>m+2-(intOf a).toNat)
 case atStart=>exact⟨0,by omega,rfl,by simp,HR0,J1.refl _ _⟩
 clear HR0
 obtain⟨k,hkm,rfl,rfl,HR,HO⟩:=hrel
 by_cases hlt:2*k<m
 ·obtain⟨j,hj⟩:∃j:Nat,(m:Int)-(k:Int)=(j:Int):=⟨m-k,by omega⟩
  have hjm:j+k=m:=by omega
  rw[hj]
  have hd:decide ((k:Int)<(j:Int))=true:=by simp;omega
  have hk1:(k:Int)<(m:Int)+1:=by omega
  have hj1:(j:Int)<(m:Int)+1:=by omega
  have hj0:(0:Int)<=(j:Int):=by omega
  have hk0:(0:Int)<=(k:Int):=by omega
  have cj:=HR.o.cell (i:=j) (by omega)
  have ck:=HR.o.cell (i:=k) (by omega)
  have HPJ:Z (rvK f (m+1) k j=f j):=by unfold Z rvK;rw[if_neg (by omega)]
  have HPK:Z (rvK f (m+1) k k=f k):=by unfold Z rvK;rw[if_neg (by omega)]
  rw[HPJ.o] at cj
  rw[HPK.o] at ck
  have HJ1:Z ((m:Int)-((k+1:Nat):Int)=(j:Int)-1):=by unfold Z;omega
  generalize hpj:f j=pj at *
  generalize hpk:f k=pk at *
  have HRN:Z (∀W,RWP W g (m+1) (rvK f (m+1) k)->RWP ((W.setCell (aD g k) (pT pj)).setCell (aD g j) (pT pk)) g (m+1) (rvK f (m+1) (k+1))):=λW hW=>by
   refine((hW.set (i:=k) (by omega) pj).set (i:=j) (by omega) pk).congr (λt ht=>?_)
   unfold rvK
   by_cases e1:t=j
   ·subst e1
    rw[if_pos rfl,if_pos (by omega),show m+1-1-t=k by omega,hpk]
   ·rw[if_neg e1]
    by_cases e2:t=k
    ·subst e2
     rw[if_pos rfl,if_pos (by omega),show m+1-1-t=j by omega,hpj]
    ·rw[if_neg e2]
     by_cases e3:t<k\/m+1<=t+k
     ·rw[if_pos e3,if_pos (by omega)]
     ·rw[if_neg e3,if_neg (by omega)]
  clear hj hpj hpk
  have hkj:¬k=j:=by omega
  have hjk:¬j=k:=by omega
  have HRD:Z (RWP wr.drew g (m+1) (rvK f (m+1) k)):=HR.o
  have d1:(wr.drew.setCell (aD g k) (pT pj)).cell? (aD g j)=some (pT pj):=by
   have:=(HRD.o.set (i:=k) (by omega) pj).cell (i:=j) (by omega)
   rw[if_neg hjk,HPJ.o] at this
   exact this
  have d2:(wr.drew.setCell (aD g k) (pT pj)).frozen? (aD g j)=false:=(HRD.o.set (i:=k) (by omega) pj).frozen j
  have d3:(wr.drew.setCell (aD g j) (pT pk)).cell? (aD g k)=some (pT pk):=by
   have:=(HRD.o.set (i:=j) (by omega) pk).cell (i:=k) (by omega)
   rw[if_neg hkj,HPK.o] at this
   exact this
  have d4:(wr.drew.setCell (aD g j) (pT pk)).frozen? (aD g k)=false:=(HRD.o.set (i:=j) (by omega) pk).frozen k
  have fk:=HR.o.frozen k
  have fj:=HR.o.frozen j
  go_upto_region 3 with fail
  go_region
  clear d1 d2 d3 d4 cj ck fk fj hd
  go_wp2
  go_roundw
  case rel=>exact⟨k+1,by omega,by go_num,by rw[HJ1.o],HRN.o _ HRD.o,J1.set (J1.set (J1.nx HO.o (show Nx wr wr.drew from(Below.refl _ _).drew)) rfl _) rfl _⟩
  case measure=>simp[intOf];omega
 have hd:decide ((k:Int)<(m:Int)-(k:Int))=false:=by simp;omega
 have HF:Z (RWP wr g (m+1) (λt=>f (m+1-1-t))):=HR.o.congr (λt ht=>by
  unfold rvK
  by_cases e:t<k\/m+1<=t+k
  ·rw[if_pos e]
  ·rw[if_neg e]
   congr 1
   omega)
 clear hlt hkm
 go_wp2
 go_end0
 exact⟨⟨_,rfl⟩,HF.o,HO.o⟩
theorem Q2g:(prog.info? 143).map (λi=>(i.zero,i.size,i.bytes))=some (some (.pointer none),1,8):=by kernel_rfl
theorem Qf7:(prog.info? 208).map (λi=>(i.zero,i.size,i.bytes))=some (some (.agg #[iV 0,iV 0,sN]),3,40):=by kernel_rfl
def ptc (ps:List Nat):List Value:=ps.map λp=>pT p
def Jg (C:Nat)(w:World)(v:Value)(ps:List Nat):Prop:=w.ownsRow C 143 1 v ps.length (ptc ps)
theorem Jg.snoc {C:Nat}{w:World}{v:Value}{ps:List Nat}{p:Nat}(h:w.ownsRow C 143 1 v (ps.length+1) (ptc ps++[pT p])):Jg C w v (ps++[p]):=by
 unfold Jg
 have e:ptc (ps++[p])=ptc ps++[pT p]:=by simp[ptc]
 rw[zA,e]
 exact h
theorem Jg.open {C:Nat}{w:World}{v:Value}{ps:List Nat}(h:Jg C w v ps)(hp:0<ps.length):∃g c,v=sL (sA g) ps.length c/\C<=g/\ps.length<=maxLen/\RWP w g ps.length (λi=>ps.getD i 0):=by
 obtain⟨h1,h2⟩:=h
 rcases h2 with⟨_,h3⟩|⟨g,cap,cur,hv,hg,hh,hc,hm,hs,ht⟩
 ·omega
 ·refine⟨g,cap,hv,hg,by omega,cur,hh,by omega,λi hi=>?_⟩
  have e:(cur.toList.take (ps.length*1))[i]?=(ptc ps)[i]?:=by rw[ht]
  rw[zT (by omega),zQ] at e
  rw[e]
  simp[ptc,List.getD_eq_getElem?_getD,hi]
theorem Jg.held {C:Nat}{w:World}{v:Value}{ps:List Nat}(h:Jg C w v ps):Zb C w v ps:=by
 by_cases hp:0<ps.length
 ·obtain⟨g,c,rfl,hg,hm,hr⟩:=h.open hp
  exact hr.held rfl hm (λ_ _=>rfl) hg
 ·obtain⟨a,c,e⟩:=Q7 h
  have h0:ps.length=0:=by omega
  exact⟨a,c,e,by rw[h0];simp[maxLen],λh=>by omega⟩
def stc (es:List Eg)(x:List Nat×Value):List Value:=[iV (tlL es x.1),iV (hdL es x.1),x.2]
def Wa (C D:Nat)(w:World)(v:Value)(es:List Eg)(ls:List (List Nat)):Prop:=
 ∃us:List Value,us.length=ls.length/\w.ownsRow C 208 3 v ls.length ((ls.zip us).flatMap (stc es))/\∀i,i<ls.length->Qd D w (vat us i) (Qb (Jd ls i))
theorem J1.refl' (o:Option Nat){w w':World}(h:Nx w w'):J1 o w w':=⟨h.os,h.tape,h.output,h.size,λb hb _=>h.block b hb⟩
theorem J1.cellO {o:Option Nat}{w w':World}(h:J1 o w w'){b i:Nat}{v:Value}(hn:some b≠o)(hc:w.cell? (aD b i)=some v):w'.cell? (aD b i)=some v:=by
 rw[World.cell?_of_block (h.block b (Zj hc) hn)]
 exact hc
theorem J1.tr {o:Option Nat}{a b c:World}(h:J1 o a b)(k:J1 o b c):J1 o a c:=
 ⟨k.os.trans h.os,k.tape.trans h.tape,k.output.trans h.output,zP h.size k.size,λx hx hn=>(k.block x (zK hx h.size) hn).trans (h.block x hx hn)⟩
theorem J1.young {o p:Option Nat}{a b c:World}(h:J1 o a b)(k:J1 p b c)(hp:∀g,p=some g->a.heap.size<=g):J1 o a c:=
 ⟨k.os.trans h.os,k.tape.trans h.tape,k.output.trans h.output,zP h.size k.size,λx hx hn=>(k.block x (zK hx h.size) (λe=>by have:=hp x e.symm;omega)).trans (h.block x hx hn)⟩
theorem EB.on {o:Option Nat}{w w':World}{b e:Nat}{x:Eg}(h:EB w b e x)(k:J1 o w w')(hn:some b≠o):EB w' b e x:=
 ⟨k.cellO hn h.tail,k.cellO hn h.head,k.cellO hn h.wgt,k.cellO hn h.back,k.cellO hn h.twin,k.cellO hn h.num⟩
theorem EB.ne {w:World}{b e bw:Nat}{x:Eg}{v0 v1 v2:Value}(h:EB w b e x)(k:Blk w bw #[v0,v1,v2]):b≠bw:=by
 rintro rfl
 obtain⟨t,hb⟩:=k
 have:=h.num
 simp[World.cell?,hb] at this
theorem Wa.one {C D:Nat}{w:World}{g:Nat}{es:List Eg}{l:List Nat}{u:Value}(hg:C<=g)(hr:w.heap[g]?=some (.cells #[iV (tlL es l),iV (hdL es l),u] 208 (0,0)))(hu:Qd D w u (Qb l)):Wa C D w (sL (sA g) 1 1) es [l]:=
 ⟨[u],rfl,⟨rfl,oR ⟨g,1,_,rfl,hg,hr,lR,by simp[maxLen],by simp,by simp[stc]⟩⟩,λi hi=>by
  have:i=0:=by simpa using hi
  subst this
  exact hu⟩
theorem Qbg (l:List Nat)(eb:Nat->Nat){i:Nat}(hi:i<l.length):(l.map eb).getD (l.length-1-i) 0=(l.reverse.map eb).getD i 0:=by
 have h1:l.length-1-i<l.length:=by omega
 simp[List.getD_eq_getElem?_getD,hi,h1]
theorem Gv {l:List Nat}{p:Nat->Bool}{k:Nat}(hk:k<l.length)(h:p (l.getD k 0)=true):(l.take (k+1)).filter p=(l.take k).filter p++[l.getD k 0]:=by
 rw[Zu hk,zZ]
 simp only[List.filter_cons,h,if_true,List.filter_nil]
theorem Km {l:List Nat}{p:Nat->Bool}{k:Nat}(hk:k<l.length)(h:p (l.getD k 0)=false):(l.take (k+1)).filter p=(l.take k).filter p:=by
 rw[Zu hk,zZ]
 simp only[List.filter_cons,h,Bool.false_eq_true,if_false,List.filter_nil,List.append_nil]
def trv (es:List Eg)(l:List Nat):List (List Nat):=[l.filter (λe=>!(eat es e).back)]++if l.filter (λe=>(eat es e).back)=[] then [] else [(l.filter (λe=>(eat es e).back)).reverse]
theorem Qe9 {es:List Eg}{l lf:List Nat}(h:l.filter (λe=>!(eat es e).back)=lf)(k:l.filter (λe=>(eat es e).back)=[]):trv es l=[lf]:=by unfold trv;rw[h,k,if_pos rfl];rfl
theorem Qe8 {es:List Eg}{l lf lb:List Nat}(h:l.filter (λe=>!(eat es e).back)=lf)(k:l.filter (λe=>(eat es e).back)=lb)(hb:lb≠[]):trv es l=[lf,lb.reverse]:=by unfold trv;rw[h,k,if_neg hb];rfl
def BT (w:World)(b:Nat)(cs:Array Value)(t:Nat):Prop:=w.heap[b]?=some (.cells cs t (0,0))
theorem BT.lt {w:World}{b t:Nat}{cs:Array Value}(h:BT w b cs t):b<w.heap.size:=(Array.getElem?_eq_some_iff.1 h).1
theorem BT.blk {w:World}{b t:Nat}{cs:Array Value}(h:BT w b cs t):Blk w b cs:=⟨t,h⟩
theorem BT.c {w:World}{b t:Nat}{cs:Array Value}(h:BT w b cs t)(i:Nat){v:Value}(hi:cs[i]?=some v):w.cell? ⟨b,i,none⟩=some v:=h.blk.cell hi
theorem BT.new (w:World)(cs:Array Value)(t n:Nat)(hn:n=w.heap.size):BT (w.alloc (.cells cs t)) n cs t:=by
 subst hn
 unfold BT
 show(w.heap.push _)[w.heap.size]?=_
 simp
theorem BT.set {w:World}{b t:Nat}{cs:Array Value}(h:BT w b cs t)(i:Nat)(v:Value):BT (w.setCell (aD b i) v) b (cs.setIfInBounds i v) t:=by
 unfold BT at h ⊢
 simp[World.setCell,Array.getElem?_modify,h]
theorem BT.next {w w':World}{b t:Nat}{cs:Array Value}(h:BT w b cs t)(k:Nx w w'):BT w' b cs t:=(k.block b h.lt).trans h
theorem BT.alloc {w:World}{b t:Nat}{cs:Array Value}(h:BT w b cs t)(o:Obj):BT (w.alloc o) b cs t:=h.next (Q4 _ _)
theorem BT.grown {w w':World}{o:Option Nat}{b t:Nat}{cs:Array Value}(h:BT w b cs t)(k:w.grownBy w' o)(hn:some b≠o):BT w' b cs t:=(k.block b h.lt hn).trans h
theorem J1.bt {o:Option Nat}{w w':World}{b t:Nat}{cs:Array Value}(k:J1 o w w')(h:BT w b cs t)(hn:some b≠o):BT w' b cs t:=(k.block b h.lt hn).trans h
theorem Q1s (B bw:Nat)(id:Int)(ve:Value)(es:List Eg)(eb:Nat->Nat)(l:List Nat)(w:World)(hbox:BT w bw #[iV id,ve,sN] 142)(hP:Zb B w ve (l.map eb))(hlen:l.length<=4000)(he:∀e∈l,EB w (eb e) e (eat es e))(hf:l.filter (λe=>!(eat es e).back)≠[]) :
  Calls prog 78 #[pT bw] w λe w'=>(∃x,e=.returned x)/\(∃vt,BT w' bw #[iV id,ve,vt] 142/\Wa w.heap.size w.heap.size w' vt es (trv es l))/\J1 (some bw) w w':=by
 obtain⟨ip,hip,hp0,hp1,hp2⟩:=info_parts Q2g
 obtain⟨iS,hiS,hs0,hs1,hs2⟩:=info_parts Qf7
 have HBX:Z (BT w bw #[iV id,ve,sN] 142):=hbox
 have HP:Z (Zb B w ve (l.map eb)):=hP
 have HE:Z (∀e∈l,EB w (eb e) e (eat es e)):=he
 have HFN:Z (l.filter (λe=>!(eat es e).back)≠[]):=hf
 obtain⟨a,cap,hve,jm,jk⟩:=hP
 rw[zG] at hve
 generalize hln:l.length=n at *
 have HLN:Z (l.length=n):=hln
 subst hve
 have x1:=hbox.c 1 rfl
 clear jm jk hbox he hf hln
 go_enter func78,ntmps78
 go_wp2
 go_loopw [2,3,11] (λu2 u3 i wr=>∃k:Nat,k<=n/\i=iV k/\Z (Jg w.heap.size wr u2 ((l.take k).filter (λe=>!(eat es e).back) |>.map eb))/\Z (Jg w.heap.size wr u3 ((l.take k).filter (λe=>(eat es e).back) |>.map eb))/\Z (Nx w wr)/\Z (∀g,u2.ownBlock=some g->u3.ownBlock≠some g)) (λ_ _ i _=>n-(intOf i).toNat)
 case atStart=>exact⟨0,nZ,rfl,⟨rfl,oL ⟨rfl,rfl⟩⟩,⟨rfl,oL ⟨rfl,rfl⟩⟩,Below.refl _ _,λg h=>by simp[Value.ownBlock] at h⟩
 obtain⟨k,hkm,rfl,HF,HB,HN,HNE⟩:=hrel
 by_cases hlt:k<n
 ·have hlt':(k:Int)<n:=by omega
  have HKL:Z (k<l.length):=by rw[HLN.o];exact hlt
  obtain⟨b,off,c,hae,hb,hc⟩:=HP.o.at (by have:=HKL.o;omega)
  simp only[zC] at hae
  obtain⟨rfl,jl,rfl⟩:=hae
  have c0:=Q1 HN.o (hc k HKL.o)
  have HEX:=HE.o _ (show l.getD k 0∈l by rw[show l.getD k 0=l[k]'HKL.o by simp[List.getD_eq_getElem?_getD,HKL.o]];exact yN _)
  have c1:=Q1 HN.o HEX.back
  have HY1:Z ((λe=>!(eat es e).back) (l.getD k 0)=true->(l.take (k+1)).filter (λe=>!(eat es e).back)=(l.take k).filter (λe=>!(eat es e).back)++[l.getD k 0]):=λh=>Gv HKL.o h
  have HY2:Z ((λe=>!(eat es e).back) (l.getD k 0)=false->(l.take (k+1)).filter (λe=>!(eat es e).back)=(l.take k).filter (λe=>!(eat es e).back)):=λh=>Km HKL.o h
  have HY3:Z ((λe=>(eat es e).back) (l.getD k 0)=true->(l.take (k+1)).filter (λe=>(eat es e).back)=(l.take k).filter (λe=>(eat es e).back)++[l.getD k 0]):=λh=>Gv HKL.o h
  have HY4:Z ((λe=>(eat es e).back) (l.getD k 0)=false->(l.take (k+1)).filter (λe=>(eat es e).back)=(l.take k).filter (λe=>(eat es e).back)):=λh=>Km HKL.o h
  have HLL:Z (((l.take k).filter (λe=>!(eat es e).back)).length<=4000/\((l.take k).filter (λe=>(eat es e).back)).length<=4000):=by
   have h1:=yA (λe=>!(eat es e).back) (l.take k)
   have h2:=yA (λe=>(eat es e).back) (l.take k)
   have h3:(l.take k).length<=l.length:=by rw[yC];omega
   have:=HLN.o
   exact⟨by omega,by omega⟩
  clear hc jl HEX
  generalize l.getD k 0=x at *
  obtain⟨fa,fc,hfe⟩:=Q7 HF.o
  obtain⟨ba,bc,hbe⟩:=Q7 HB.o
  have HLL2:Z (((l.take k).filter (λe=>!(eat es e).back) |>.map eb).length<=4000/\((l.take k).filter (λe=>(eat es e).back) |>.map eb).length<=4000):=⟨by rw[zG];exact HLL.o.1,by rw[zG];exact HLL.o.2⟩
  have HQ1:Z ((λe=>!(eat es e).back) x=true->((l.take (k+1)).filter (λe=>!(eat es e).back) |>.map eb)=((l.take k).filter (λe=>!(eat es e).back) |>.map eb)++[eb x]):=λh=>by rw[HY1.o h,yL];rfl
  have HQ2:Z ((λe=>!(eat es e).back) x=false->((l.take (k+1)).filter (λe=>!(eat es e).back) |>.map eb)=((l.take k).filter (λe=>!(eat es e).back) |>.map eb)):=λh=>by rw[HY2.o h]
  have HQ3:Z ((λe=>(eat es e).back) x=true->((l.take (k+1)).filter (λe=>(eat es e).back) |>.map eb)=((l.take k).filter (λe=>(eat es e).back) |>.map eb)++[eb x]):=λh=>by rw[HY3.o h,yL];rfl
  have HQ4:Z ((λe=>(eat es e).back) x=false->((l.take (k+1)).filter (λe=>(eat es e).back) |>.map eb)=((l.take k).filter (λe=>(eat es e).back) |>.map eb)):=λh=>by rw[HY4.o h]
  generalize ((l.take k).filter (λe=>!(eat es e).back) |>.map eb)=fs at *
  generalize ((l.take k).filter (λe=>(eat es e).back) |>.map eb)=bs at *
  generalize hfl:fs.length=fl at *
  generalize hbl:bs.length=bl at *
  have HLF:Z (fs.length=fl):=hfl
  have HLB:Z (bs.length=bl):=hbl
  have hfl4:fl<=4000:=HLL2.o.1
  have hbl4:bl<=4000:=HLL2.o.2
  subst hfe hbe
  clear hfl hbl HLL HLL2 HY1 HY2 HY3 HY4
  cases hbk:(eat es x).back
  ·have HEF:Z (((l.take (k+1)).filter (λe=>!(eat es e).back) |>.map eb)=fs++[eb x]):=HQ1.o (by simp[hbk])
   have HEB:Z (((l.take (k+1)).filter (λe=>(eat es e).back) |>.map eb)=bs):=HQ4.o hbk
   have HNEF:Z (∀g,(sL ba bl bc).ownBlock=some g->(sL fa fl fc).ownBlock≠some g):=λg h e=>HNE.o g e h
   rw[hbk] at c1
   clear hbk
   go_wp2_with (at_builtin;refine wpList_append_own_at _ rfl _ _ 136 rfl w.heap.size 143 ip (.pointer none) 1 8 underlying136 hip hp0 hp1 hp2 rfl (by decide) _ _ _ rfl (zB HF.o _) (aD wr.heap.size 0) 1 1 [pT (eb x)] rfl rfl (λj u hj=>Ql wr _ _ _ rfl j u hj) ?f2 ?f3 ?f4 ?f5 ?_)
   case f2=>first|rfl|(intro u hu;simp at hu;subst hu;rfl)
   case f3=>have:=HLF.o;unfold maxLen;omega
   case f4=>have:=HLF.o;omega
   case f5=>have:=HN.o.size;first|omega|(rw[Q3];omega)
   intro v7 w7 hown hgrow _ hat7
   have HO7:Z (Jg w.heap.size w7 v7 ((l.take (k+1)).filter (λe=>!(eat es e).back) |>.map eb)):=by rw[HEF.o];exact Jg.snoc hown
   have HK7:Z (Jg w.heap.size w7 (sL ba bl bc) ((l.take (k+1)).filter (λe=>(eat es e).back) |>.map eb)):=by rw[HEB.o];exact zN (zB HB.o _) hgrow (by
     rcases Option.eq_none_or_eq_some (sL ba bl bc).ownBlock with h|⟨g,h⟩
     ·exact oL h
     ·exact oR (λe=>HNEF.o g h (e.symm.trans h)))
   have HN7:Z (Nx w w7):=Below.grown (HN.o.alloc _) hgrow (by rw[Q3];have:=HN.o.size;omega) (λg hg=>(Q5 HF.o g hg).1)
   have HD7:Z (∀g,(sL ba bl bc).ownBlock=some g->v7.ownBlock≠some g):=λg hg e=>by
    rcases hat7 with h|h
    ·exact HNEF.o g hg (h.symm.trans e)
    ·have h1:=(Q5 HB.o g hg).2
     rw[h] at e
     have h2:=zF e
     first|omega|(rw[Q3] at h2;omega)
   clear hown hgrow hat7
   go_wp2
   go_roundw
   case rel=>exact⟨k+1,by omega,by go_num,HO7,HK7,HN7,λg h e=>HD7.o g e h⟩
   case measure=>simp[intOf];omega
  ·have HEB:Z (((l.take (k+1)).filter (λe=>(eat es e).back) |>.map eb)=bs++[eb x]):=HQ3.o hbk
   have HEF:Z (((l.take (k+1)).filter (λe=>!(eat es e).back) |>.map eb)=fs):=HQ2.o (by simp[hbk])
   have HNEB:Z (∀g,(sL fa fl fc).ownBlock=some g->(sL ba bl bc).ownBlock≠some g):=HNE.o
   rw[hbk] at c1
   clear hbk
   go_wp2_with (at_builtin;refine wpList_append_own_at _ rfl _ _ 136 rfl w.heap.size 143 ip (.pointer none) 1 8 underlying136 hip hp0 hp1 hp2 rfl (by decide) _ _ _ rfl (zB HB.o _) (aD wr.heap.size 0) 1 1 [pT (eb x)] rfl rfl (λj u hj=>Ql wr _ _ _ rfl j u hj) ?f2 ?f3 ?f4 ?f5 ?_)
   case f2=>first|rfl|(intro u hu;simp at hu;subst hu;rfl)
   case f3=>have:=HLB.o;unfold maxLen;omega
   case f4=>have:=HLB.o;omega
   case f5=>have:=HN.o.size;first|omega|(rw[Q3];omega)
   intro v7 w7 hown hgrow _ hat7
   have HO7:Z (Jg w.heap.size w7 v7 ((l.take (k+1)).filter (λe=>(eat es e).back) |>.map eb)):=by rw[HEB.o];exact Jg.snoc hown
   have HK7:Z (Jg w.heap.size w7 (sL fa fl fc) ((l.take (k+1)).filter (λe=>!(eat es e).back) |>.map eb)):=by rw[HEF.o];exact zN (zB HF.o _) hgrow (by
     rcases Option.eq_none_or_eq_some (sL fa fl fc).ownBlock with h|⟨g,h⟩
     ·exact oL h
     ·exact oR (λe=>HNEB.o g h (e.symm.trans h)))
   have HN7:Z (Nx w w7):=Below.grown (HN.o.alloc _) hgrow (by rw[Q3];have:=HN.o.size;omega) (λg hg=>(Q5 HB.o g hg).1)
   have HD7:Z (∀g,(sL fa fl fc).ownBlock=some g->v7.ownBlock≠some g):=λg hg e=>by
    rcases hat7 with h|h
    ·exact HNEB.o g hg (h.symm.trans e)
    ·have h1:=(Q5 HF.o g hg).2
     rw[h] at e
     have h2:=zF e
     first|omega|(rw[Q3] at h2;omega)
   clear hown hgrow hat7
   go_wp2
   go_roundw
   case rel=>exact⟨k+1,by omega,by go_num,HK7,HO7,HN7,HD7⟩
   case measure=>simp[intOf];omega
 have ek:n=k:=by omega
 subst ek
 have HTK:Z (l.take n=l):=by unfold Z;rw[<-HLN.o,zU]
 have HFA:Z (Jg w.heap.size wr u2 ((l.filter (λe=>!(eat es e).back)).map eb)):=by have:=HF.o;rw[HTK.o] at this;exact this
 have HBA:Z (Jg w.heap.size wr u3 ((l.filter (λe=>(eat es e).back)).map eb)):=by have:=HB.o;rw[HTK.o] at this;exact this
 have HEF:Z (∀e∈l.filter (λe=>!(eat es e).back),EB wr (eb e) e (eat es e)):=λe he=>(HE.o e (List.mem_filter.1 he).1).next HN.o
 have HEBK:Z (∀e∈(l.filter (λe=>(eat es e).back)).reverse,EB w (eb e) e (eat es e)):=λe he=>HE.o e (List.mem_filter.1 (List.mem_reverse.1 he)).1
 have HFL:Z ((l.filter (λe=>!(eat es e).back)).length<=4000/\(l.filter (λe=>(eat es e).back)).length<=4000):=by
  have h1:=yA (λe=>!(eat es e).back) l
  have h2:=yA (λe=>(eat es e).back) l
  have:=HLN.o
  exact⟨by omega,by omega⟩
 have BXr:Z (BT wr bw #[iV id,sL a n cap,sN] 142):=HBX.o.next HN.o
 have hbwl:bw<w.heap.size:=HBX.o.lt
 generalize hlfe:l.filter (λe=>!(eat es e).back)=lf at *
 generalize hlbe:l.filter (λe=>(eat es e).back)=lb at *
 have HLFE:Z (l.filter (λe=>!(eat es e).back)=lf):=hlfe
 have HLBE:Z (l.filter (λe=>(eat es e).back)=lb):=hlbe
 clear hlfe hlbe
 obtain⟨fa,fc,hfe⟩:=Q7 HFA.o
 obtain⟨ba,bc,hbe⟩:=Q7 HBA.o
 rw[zG] at hfe hbe
 subst hfe hbe
 have x2:=BXr.o.c 2 rfl
 have z2:=BXr.o.blk.frozen 2
 clear hlt hkm HF HB
 go_wp2_with fail
 refine(Ps w.heap.size _ es eb lf _ HFA.o.held HFN.o HFL.o.1 HEF.o).mono ?_
 rintro e w4 ⟨⟨u4,rfl,hO4⟩,hx4⟩
 have HX4:Z (Nx wr w4):=hx4
 have HO4:Z (Qd wr.heap.size w4 u4 (Qb lf)):=hO4
 obtain⟨ua,uc,hu4⟩:=hO4.slice
 generalize (Qb lf).length=ul at hu4
 subst hu4
 generalize hW5:w4.alloc (.cells #[iV (tlL es lf),iV (hdL es lf),sL ua ul uc] 208)=w5
 have HX5:Z (Nx w4 w5):=by rw[<-hW5];exact Q4 _ _
 have HR5:Z (w5.heap[w4.heap.size]?=some (.cells #[iV (tlL es lf),iV (hdL es lf),sL ua ul uc] 208 (0,0))):=by unfold Z;rw[<-hW5];show(w4.heap.push _)[w4.heap.size]?=_;simp
 have BX5:Z (BT w5 bw #[iV id,sL a n cap,sN] 142):=(BXr.o.next HX4.o).next HX5.o
 have y2:=BX5.o.c 2 rfl
 have f2:=BX5.o.blk.frozen 2
 have HUG:Z (∀g,(sL ua ul uc).ownBlock=some g->g<w4.heap.size):=λg hg=>(Q5 HO4.o g hg).2
 clear hO4 hx4 x2 z2
 go_upto_region 9 with fail
 clear hW5
 generalize hW6:w5.setCell (aD bw 2) (sL (sA w4.heap.size) 1 1)=w6
 have HBX6:Z (BT w6 bw #[iV id,sL a n cap,sL (sA w4.heap.size) 1 1] 142):=by rw[<-hW6];exact BX5.o.set 2 _
 have HON6:Z (J1 (some bw) w w6):=by rw[<-hW6];exact J1.set (J1.refl' _ ((HN.o.trans HX4.o).trans HX5.o)) rfl _
 have HNB:Z (bw<w.heap.size/\w.heap.size<=wr.heap.size/\wr.heap.size<=w4.heap.size):=⟨hbwl,HN.o.size,HX4.o.size⟩
 have HR6:Z (w6.heap[w4.heap.size]?=some (.cells #[iV (tlL es lf),iV (hdL es lf),sL ua ul uc] 208 (0,0))):=by rw[<-hW6];exact(Below.heap_setCell _ _ _ _ (by simp;have:=HNB.o;omega)).trans HR5.o
 have HO6:Z (Qd wr.heap.size w6 (sL ua ul uc) (Qb lf)):=by rw[<-hW6];exact Qc (HO4.o.next HX5.o) (by have:=HNB.o;omega) _ _
 have HBA6:Z (Jg w.heap.size w6 (sL ba lb.length bc) (lb.map eb)):=by rw[<-hW6];exact Qc (V7 (V7 HBA.o HX4.o) HX5.o) hbwl _ _
 have HBG:Z (∀g,(sL ba lb.length bc).ownBlock=some g->w.heap.size<=g/\g<wr.heap.size):=λg hg=>Q5 HBA.o g hg
 clear hW6 y2 f2 HX5 HR5 BX5 HO4 HFA HEF
 by_cases hlb:lb=[]
 ·subst hlb
  go_wp2
  go_end0
  refine⟨⟨_,rfl⟩,⟨_,HBX6.o,?_⟩,HON6.o⟩
  rw[Qe9 HLFE.o HLBE.o]
  exact Wa.one (by have:=HNB.o;omega) HR6.o (HO6.o.base (by have:=HNB.o;omega))
 have hlp:0<lb.length:=List.length_pos_iff.2 hlb
 have HLB:Z (lb≠[]):=hlb
 obtain⟨g,c,hge,hgC,hgm,hRW⟩:=HBA6.o.open (by rw[zG];exact hlp)
 rw[zG] at hge hgm hRW
 simp only[zC] at hge
 obtain⟨rfl,jl,rfl⟩:=hge
 have HGG:Z (w.heap.size<=g/\g<wr.heap.size):=HBG.o g rfl
 have HRW:Z (RWP w6 g lb.length (λi=>(lb.map eb).getD i 0)):=hRW
 generalize hbl:lb.length=bl at *
 have HBLN:Z (lb.length=bl):=hbl
 have hbl4:bl<=4000:=HFL.o.2
 clear hRW jl hlb hgm hbl hgC
 have hdg:decide (0<(bl:Int))=true:=by simp;omega
 go_wp2_with fail
 refine(Q3q g bl bc _ _ HRW.o (by omega) hlp).mono ?_
 rintro e w7 ⟨⟨rv,rfl⟩,hR7,hO7⟩
 have HON7:Z (J1 (some bw) w w7):=HON6.o.young hO7 (λx e=>by cases e;exact HGG.o.1)
 have HBX7:Z (BT w7 bw #[iV id,sL a n cap,sL (sA w4.heap.size) 1 1] 142):=hO7.bt HBX6.o (by intro e;have:=zF e;have:=HNB.o;have:=HGG.o;omega)
 have HR7:Z (w7.heap[w4.heap.size]?=some (.cells #[iV (tlL es lf),iV (hdL es lf),sL ua ul uc] 208 (0,0))):=(hO7.block _ (Array.getElem?_eq_some_iff.1 HR6.o).1 (by intro e;have:=zF e;have:=HNB.o;have:=HGG.o;omega)).trans HR6.o
 have HO7:Z (Qd wr.heap.size w7 (sL ua ul uc) (Qb lf)):=hO7.own HO6.o (λx hx e=>by have h1:=(Q5 HO6.o x hx).1;have h2:=zF e;have:=HGG.o;omega)
 have HP7:Z (Zb w.heap.size w7 (sL (sA g) bl bc) (lb.reverse.map eb)):=hR7.held (by rw[zG,List.length_reverse];exact HBLN.o) (by unfold maxLen;omega) (λi hi=>by rw[<-HBLN.o];exact Qbg lb eb (by rw[HBLN.o];exact hi)) HGG.o.1
 have HE7:Z (∀e∈lb.reverse,EB w7 (eb e) e (eat es e)):=λe he=>(HEBK.o e he).on HON7.o (λh=>(HEBK.o e he).ne HBX.o.blk (zF h))
 have HZ7:Z (w6.heap.size<=w7.heap.size):=hO7.size
 have HW47:Z (w4.heap.size<w7.heap.size):=(Array.getElem?_eq_some_iff.1 HR7.o).1
 clear hR7 hO7 hdg
 have hmx:prog.follows .mixedOrders=true:=by kernel_rfl
 have x2:=HBX7.o.c 2 rfl
 go_upto_region 11 with fail
 refine(wpIn_wide (n:=9)).1 ?_
 have HS0:Z ((λw=>w.cell? (aD bw 2)=some (sL (sA w4.heap.size) 1 1)) w7.drew):=x2
 refine Qj (c:=11) (S:=λw=>w.cell? (aD bw 2)=some (sL (sA w4.heap.size) 1 1)) hmx (by kernel_rfl) (λhw hcl=>?_)
 refine Qf (i:=0) (v:=pT bw) hw (by decide) hcl (Qa rfl) rfl (by kernel_rfl) (by kernel_rfl) (by kernel_rfl) (λ_ _ _ h=>h) ⟨oL ⟨by rfl,?y0⟩,λ_=>rfl⟩ HS0.o (λhcl=>?_)
 case y0=>
  rintro w c1
  go_simp
 refine Qf (i:=1) (v:=pT bw) hw (by decide) hcl (Qa rfl) rfl (by kernel_rfl) (by kernel_rfl) (by kernel_rfl) (λ_ _ _ h=>h) ⟨oL ⟨by rfl,?y1⟩,λ_=>rfl⟩ HS0.o (λhcl=>?_)
 case y1=>
  rintro w c1
  go_simp
 refine Qf (i:=2) (v:=pT bw) hw (by decide) hcl (Qa rfl) rfl (by kernel_rfl) (by kernel_rfl) (by kernel_rfl) (λ_ _ _ h=>h) ⟨oL ⟨by rfl,?y2⟩,λ_=>rfl⟩ HS0.o (λhcl=>?_)
 case y2=>
  rintro w c1
  go_simp
 refine Qf (i:=3) (v:=.pointer (some (aD bw 2))) hw (by decide) hcl (Qa rfl) rfl (by kernel_rfl) (by kernel_rfl) (by kernel_rfl) (λ_ _ _ h=>h) ⟨oL ⟨by rfl,?y3⟩,λ_=>rfl⟩ HS0.o (λhcl=>?_)
 case y3=>
  rintro w c1
  go_simp
 refine Qf (i:=4) (v:=sL (sA w4.heap.size) 1 1) hw (by decide) hcl (Qa rfl) rfl (by kernel_rfl) (by kernel_rfl) (by kernel_rfl) (λ_ _ _ h=>h) ⟨oL ⟨by rfl,?y4⟩,λ_=>rfl⟩ HS0.o (λhcl=>?_)
 case y4=>
  rintro w c1
  go_simp
 refine Qf (i:=5) (v:=sL (sA g) bl bc) hw (by decide) hcl (Qa rfl) rfl (by kernel_rfl) (by kernel_rfl) (by kernel_rfl) (λ_ _ _ h=>h) ⟨oL ⟨by rfl,?y5⟩,λ_=>rfl⟩ HS0.o (λhcl=>?_)
 case y5=>
  rintro w c1
  go_simp
 refine Qg (i:=6) (by kernel_rfl) (wpOpIn_step rfl (λK hK=>?_))
 go_simp
 refine⟨trivial,(callsIn_wide.2 (Ps w.heap.size _ es eb lb.reverse _ (by exact HP7.o) (by simpa using HLB.o) (by rw[List.length_reverse,HBLN.o];exact hbl4) (λe he=>(HE7.o e he).next (show Nx w7 w7.drew from(Below.refl _ _).drew)))).mono ?_⟩
 rintro e w8 ⟨⟨u8,rfl,hO8⟩,hx8⟩
 have HX8:Z (Nx w7 w8):=(show Nx w7 w7.drew from(Below.refl _ _).drew).trans hx8
 have HO8:Z (Qd w7.heap.size w8 u8 (Qb lb.reverse)):=hO8
 obtain⟨ua8,uc8,hu8⟩:=hO8.slice
 generalize (Qb lb.reverse).length=ul8 at hu8
 subst hu8
 have HBX8:Z (BT w8 bw #[iV id,sL a n cap,sL (sA w4.heap.size) 1 1] 142):=HBX7.o.next HX8.o
 have HR8:Z (w8.heap[w4.heap.size]?=some (.cells #[iV (tlL es lf),iV (hdL es lf),sL ua ul uc] 208 (0,0))):=(HX8.o.block _ HW47.o).trans HR7.o
 have HROW8:Z (w8.ownsRow w.heap.size 208 3 (sL (sA w4.heap.size) 1 1) 1 [iV (tlL es lf),iV (hdL es lf),sL ua ul uc]):=⟨rfl,oR ⟨w4.heap.size,1,_,rfl,by have:=HNB.o;omega,HR8.o,lR,by simp[maxLen],by simp,by simp⟩⟩
 have HO8F:Z (Qd wr.heap.size w8 (sL ua ul uc) (Qb lf)):=HO7.o.next HX8.o
 have HON8:Z (J1 (some bw) w w8):=HON7.o.tr (J1.refl' _ HX8.o)
 have HZ8:Z (w7.heap.size<=w8.heap.size):=HX8.o.size
 have x8:=HBX8.o.c 2 rfl
 refine hK _ _ ⟨oR x8,?_⟩
 clear hK K hO8 hx8 x2
 refine Qg (i:=7) (by kernel_rfl) (wpOpIn_step rfl (λK hK=>?_))
 go_simp
 refine hK _ _ ⟨oR (Q1 (Q4 _ _) x8),?_⟩
 clear hK K
 refine Qg (i:=8) (by kernel_rfl) (wpOpIn_step rfl (λK hK=>?_))
 refine Ze rfl (.tmp 44) (.tmp 47) 140 rfl 208 iS (.agg #[iV 0,iV 0,sN]) 3 40 underlying140 hiS hs0 hs1 hs2 rfl (by decide) w.heap.size (sL (sA w4.heap.size) 1 1) _ _ (by simp[Act.eval]) (show(w8.alloc (.cells #[iV (tlL es lb.reverse),iV (hdL es lb.reverse),sL ua8 ul8 uc8] 208)).ownsRow _ _ _ _ _ _ from zB HROW8.o _) (aD w8.heap.size 0) 1 1 [iV (tlL es lb.reverse),iV (hdL es lb.reverse),sL ua8 ul8 uc8] (by simp[Act.eval]) rfl (λj u hj=>Ql w8 _ _ _ rfl j u hj) (by intro u hu;simp at hu;rcases hu with rfl|rfl|rfl<;>rfl) (by unfold maxLen;omega) (by omega) (by rw[Q3];have:=HNB.o;have:=HW47.o;have:=HZ8.o;omega) ?_
 intro v9 w9 hown hgrow hat9
 have HV9:Z (Wa w.heap.size w.heap.size (w9.setCell (aD bw 2) v9) v9 es [lf,lb.reverse]):=⟨[sL ua ul uc,sL ua8 ul8 uc8],rfl,Qc hown hbwl _ _,λi hi=>by
  have h2:i<2:=hi
  have k1:Qd wr.heap.size w9 (sL ua ul uc) (Qb lf):=zN (zB HO8F.o _) hgrow (by
   rcases Option.eq_none_or_eq_some (sL ua ul uc).ownBlock with h|⟨g,h⟩
   ·exact oL h
   ·exact oR (λe=>by have e2:=HUG.o g h;rw[h] at e;have e3:g=w4.heap.size:=zF e;omega))
  have k2:Qd w7.heap.size w9 (sL ua8 ul8 uc8) (Qb lb.reverse):=zN (zB HO8.o _) hgrow (by
   rcases Option.eq_none_or_eq_some (sL ua8 ul8 uc8).ownBlock with h|⟨g,h⟩
   ·exact oL h
   ·exact oR (λe=>by have e2:=(Q5 HO8.o g h).1;rw[h] at e;have e3:g=w4.heap.size:=zF e;have:=HW47.o;omega))
  match i,h2 with
  |0,_=>exact Qc (k1.base (by have:=HNB.o;omega)) hbwl _ _
  |1,_=>exact Qc (k2.base (by have:=HNB.o;have:=HW47.o;omega)) hbwl _ _⟩
 have HBX9:Z (BT w9 bw #[iV id,sL a n cap,sL (sA w4.heap.size) 1 1] 142):=(HBX8.o.alloc _).grown hgrow (λe=>by have e2:bw=w4.heap.size:=zF e;have:=HNB.o;omega)
 have HON9:Z (J1 (some bw) w (w9.setCell (aD bw 2) v9)):=J1.set ((HON8.o.tr (J1.refl' _ (Q4 _ _))).young (p:=some w4.heap.size) ⟨hgrow.os,hgrow.tape,hgrow.output,hgrow.size,hgrow.block⟩ (λx e=>by cases e;have:=HNB.o;omega)) rfl _
 have HBXE:Z (BT (w9.setCell (aD bw 2) v9) bw #[iV id,sL a n cap,v9] 142):=HBX9.o.set 2 _
 have x9:=HBX9.o.c 2 rfl
 have f9:=HBX9.o.blk.frozen 2
 obtain⟨a9,c9,hv9⟩:=Q7 hown
 subst hv9
 refine hK _ _ ⟨oR x9,?_⟩
 clear hK K hown hgrow hat9 x8
 refine Qg (i:=9) (by kernel_rfl) (wpOpIn_step rfl (λK hK=>?_))
 go_simp
 refine hK _ _ ⟨oR x9,?_⟩
 clear hK K
 refine Qg (i:=10) (by kernel_rfl) (wpOpIn_step rfl (λK hK=>?_))
 go_simp
 refine hK _ _ ⟨oR x9,?_⟩
 clear hK K
 refine Qg (i:=11) (by kernel_rfl) (wpOpIn_step rfl (λK hK=>?_))
 go_simp
 refine hK _ _ ⟨oL (by decide),?_⟩
 clear hK K
 refine Qm (by kernel_rfl) ?_ _
 clear hw hcl HS0 x9 f9
 go_wp2
 go_end0
 refine⟨⟨_,rfl⟩,⟨_,HBXE.o,?_⟩,HON9.o⟩
 rw[Qe8 HLFE.o HLBE.o HLB.o]
 exact HV9.o
end Go.Proofs.YtahpodmokbdjeaaGreatDoor
namespace Go.Proofs.YtahpodmokbdjeaaGreatDoor
open Go.RowKit Go.Sort Go.Maps Tryz
set_option linter.unusedVariables false
set_option maxRecDepth 1000000
set_option maxHeartbeats 16000000
def Zh (v:Value):Option (DataW Unit×List MemPlace):=
 match v with
 |.pointer none=>some (.lit (.int .i64 (-1)),[])
 |.pointer (some ⟨b,0,none⟩)=>some (.lit (.int .i64 (b:Int)),[])
 |_=>none
theorem Qbp {v:Value}{x:Int}{ps:List MemPlace}(h:Zh v=some (.lit (.int .i64 x),ps)):(x=-1/\v=.pointer none)\/∃b:Nat,x=b/\v=.pointer (some ⟨b,0,none⟩):=by
 unfold Zh at h
 split at h
 ·simp at h
  exact oL ⟨h.1.symm,rfl⟩
 ·rename_i b
  simp at h
  exact oR ⟨b,h.1.symm,rfl⟩
 ·simp at h
theorem Q6n:Keyed prog 2:=int_keyed underlying2
def Pq (p:Int×Nat):Lit×DataW Unit:=(.int .i64 p.1,.lit (.int .i64 (p.2:Int)))
def X8 (ks:List (Int×Nat)):DataW Unit:=.map (ks.map Pq)
theorem Qf6 (x:Lit×DataW Unit)(l:List (Lit×DataW Unit))(h:∀p∈l,x.1.before p.1=false):DataW.insert x l=l++[x]:=by
 induction l with
 |nil=>rfl
 |cons y l ih=>
  unfold DataW.insert
  rw[h y (List.mem_cons_self ..)]
  simp only[Bool.false_eq_true,if_false,List.cons_append]
  rw[ih λp hp=>h p (List.mem_cons_of_mem _ hp)]
theorem Q4l {ks:List (Int×Nat)}{e:Int}(b:Nat)(h:∀p∈ks,p.1<e):(X8 ks).put (.int .i64 e) (.lit (.int .i64 (b:Int)))=X8 (ks++[(e,b)]):=by
 unfold X8
 rw[DataW.put_eq]
 congr 1
 unfold ChangeMaps.putKey
 have hf:(ks.map Pq).filter (ChangeMaps.notKey (.int .i64 e))=ks.map Pq:=by
  rw[List.filter_eq_self]
  intro p hp
  obtain⟨q,hq,rfl⟩:=List.mem_map.1 hp
  have:=h q hq
  simp[ChangeMaps.notKey,Pq,Lit.sameKey]
  omega
 rw[hf,Qf6]
 ·simp[Pq]
 ·intro p hp
  obtain⟨q,hq,rfl⟩:=List.mem_map.1 hp
  have:=h q hq
  simp[Pq,Lit.before]
  omega
def Y8 (ks:List (Int×Nat))(e:Int):Option Nat:=(ks.find? (λp=>decide (p.1=e))).map (·.2)
theorem Q8c (ks:List (Int×Nat))(e:Int):(X8 ks).atKey (.int .i64 e) (.lit (.int .i64 (-1)))=.lit (.int .i64 (match Y8 ks e with|none=>-1|some b=>(b:Int))):=by
 unfold X8 Y8
 simp only[DataW.atKey]
 induction ks with
 |nil=>rfl
 |cons p ks ih=>
  simp only[List.map_cons,List.find?_cons]
  have e1:(Pq p).1.sameKey (.int .i64 e)=decide (p.1=e):=by simp[Pq,Lit.sameKey]
  rw[e1]
  by_cases h:p.1=e
  ·simp[h,Pq]
  ·simp only[yJ h]
   exact ih
theorem Qdz (w:World):(zeroValue 139).run prog w=.ok (.pointer none) w:=by kernel_rfl
theorem Jp {w:World}{mb n:Nat}{ks:List (Int×Nat)}(h:w.ownsMap prog 2 Zh mb n (X8 ks)){e:Int}{b:Nat}(hw:(Lit.int .i64 e).wf=true)(hk:Y8 ks e=some b):(Instr.lookup 135 (.map (some mb)) (.int .i64 e) false).run prog w=.ok (.pointer (some ⟨b,0,none⟩)) w:=by
 obtain⟨v,ps,hrun,hv⟩:=h.lookup Q6n underlying135 (Qdz w) (zd:=.lit (.int .i64 (-1))) (zp:=[]) rfl (keyOf_int_mk underlying2 hw)
 rw[Q8c,hk] at hv
 rw[hrun]
 rcases Qbp hv with⟨hb,_⟩|⟨c,hb,rfl⟩
 ·simp at hb
 ·have hb':b=c:=by simp at hb;omega
  subst hb'
  rfl
def Yl (N:Nt)(wb:Nat->Nat)(k:Nat):List (Int×Nat):=(List.range k).map λi=>((wat N.ways i).id,wb i)
theorem Q5y (N:Nt)(wb:Nat->Nat)(k:Nat):Yl N wb (k+1)=Yl N wb k++[((wat N.ways k).id,wb k)]:=by simp[Yl,List.range_succ]
theorem Q38 (N:Nt){wb wb':Nat->Nat}{k:Nat}(h:∀i,i<k->wb i=wb' i):Yl N wb k=Yl N wb' k:=by
 unfold Yl
 refine List.map_congr_left λi hi=>?_
 rw[h i (List.mem_range.1 hi)]
theorem Fx {N:Nt}{wb:Nat->Nat}{k i:Nat}(hi:i<k)(hd:∀a b,a<k->b<k->(wat N.ways a).id=(wat N.ways b).id->a=b):Y8 (Yl N wb k) (wat N.ways i).id=some (wb i):=by
 unfold Y8
 cases h:(Yl N wb k).find? (λp=>decide (p.1=(wat N.ways i).id)) with
 |none=>
  rw[List.find?_eq_none] at h
  have:=h ((wat N.ways i).id,wb i) (by unfold Yl;exact List.mem_map.2 ⟨i,List.mem_range.2 hi,rfl⟩)
  simp at this
 |some p=>
  have h1:=List.find?_some h
  have h2:=List.mem_of_find?_eq_some h
  unfold Yl at h2
  obtain⟨j,hj,rfl⟩:=List.mem_map.1 h2
  have hj':=List.mem_range.1 hj
  have:=hd j i hj' hi (by simpa using h1)
  subst this
  rfl
theorem BT.ne {w:World}{a b t u:Nat}{c d:Array Value}(h:BT w a c t)(k:BT w b d u)(hn:t≠u):a≠b:=by
 rintro rfl
 unfold BT at h k
 rw[h] at k
 simp at k
 exact hn k.2
theorem BT.neRow {w:World}{a t u C sz n:Nat}{c:Array Value}{v:Value}{xs:List Value}(h:BT w a c t)(k:w.ownsRow C u sz v n xs)(hn:t≠u):some a≠v.ownBlock:=by
 rcases k.2 with⟨rfl,_⟩|⟨g,cap,cur,rfl,_,hh,_⟩
 ·simp[Value.ownBlock]
 ·intro e
  have e':a=g:=zF e
  subst e'
  unfold BT at h
  rw[h] at hh
  simp at hh
  exact hn hh.2
theorem Eo {w:World}{a t mb n:Nat}{c:Array Value}{ks:DataW Unit}(k:w.ownsMap prog 2 Zh mb n ks)(h:BT w a c t):mb≠a:=by
 obtain⟨es,cl,hb,_⟩:=k
 rintro rfl
 unfold BT at h
 rw[h] at hb
 simp at hb
theorem G9 {w:World}{u C sz m mb n:Nat}{v:Value}{xs:List Value}{ks:DataW Unit}(k:w.ownsMap prog 2 Zh mb n ks)(h:w.ownsRow C u sz v m xs):some mb≠v.ownBlock:=by
 obtain⟨es,cl,hb,_⟩:=k
 rcases h.2 with⟨rfl,_⟩|⟨g,cap,cur,rfl,_,hh,_⟩
 ·simp[Value.ownBlock]
 ·intro e
  have e':mb=g:=zF e
  subst e'
  rw[hb] at hh
  simp at hh
theorem Qbb {w:World}{t u C C' sz sz' m n:Nat}{v v':Value}{xs xs':List Value}(h:w.ownsRow C t sz v m xs)(k:w.ownsRow C' u sz' v' n xs')(hn:t≠u){g:Nat}(hg:v.ownBlock=some g):some g≠v'.ownBlock:=by
 rcases h.2 with⟨rfl,_⟩|⟨g',cap,cur,rfl,_,hh,_⟩
 ·simp[Value.ownBlock] at hg
 ·have e:g'=g:=zF hg
  subst e
  exact BT.neRow (c:=cur) hh k hn
structure Chg (S:Nat->Prop)(w w':World):Prop where
 os:w'.os=w.os
 tape:w'.tape=w.tape
 output:w'.output=w.output
 size:w.heap.size<=w'.heap.size
 block:∀b,b<w.heap.size->¬S b->w'.heap[b]?=w.heap[b]?
section
variable {S:Nat->Prop}{a b c w w':World}
theorem Chg.trans (h:Chg S a b)(k:Chg S b c):Chg S a c:=
 ⟨k.os.trans h.os,k.tape.trans h.tape,k.output.trans h.output,zP h.size k.size,λx hx hn=>(k.block x (zK hx h.size) hn).trans (h.block x hx hn)⟩
theorem Chg.nx (h:Nx w w'):Chg S w w':=⟨h.os,h.tape,h.output,h.size,λx hx _=>h.block x hx⟩
theorem Chg.only {o:Option Nat}(h:J1 o w w')(hS:∀b,some b=o->S b):Chg S w w':=⟨h.os,h.tape,h.output,h.size,λx hx hn=>h.block x hx (λe=>hn (hS x e))⟩
theorem Chg.grown {o:Option Nat}(h:w.grownBy w' o)(hS:∀b,some b=o->S b):Chg S w w':=⟨h.os,h.tape,h.output,h.size,λx hx hn=>h.block x hx (λe=>hn (hS x e))⟩
theorem Chg.set (g i:Nat)(v:Value)(hS:S g):Chg S w (w.setCell ⟨g,i,none⟩ v):=
 ⟨rfl,rfl,rfl,by simp[World.setCell],λx hx hn=>Below.heap_setCell _ _ _ _ (λe=>hn (by subst e;exact hS))⟩
theorem Chg.below (h:Chg S w w'){B:Nat}(hB:B<=w.heap.size)(hS:∀x,S x->B<=x):Below B w w':=⟨h.os,h.tape,h.output,h.size,λx hx=>h.block x (by omega) (λe=>by have:=hS x e;omega)⟩
theorem BT.chg {b t:Nat}{cs:Array Value}(h:BT w b cs t)(k:Chg S w w')(hn:¬S b):BT w' b cs t:=(k.block b h.lt hn).trans h
theorem Qs {C t sz n:Nat}{v:Value}{xs:List Value}(h:w.ownsRow C t sz v n xs)(k:Chg S w w')(hn:∀g,v.ownBlock=some g->¬S g):w'.ownsRow C t sz v n xs:=by
 refine⟨h.1,?_⟩
 rcases h.2 with h2|⟨g,cap,cur,hv,hg,hh,r⟩
 ·exact oL h2
 ·exact oR ⟨g,cap,cur,hv,hg,(k.block g (Array.getElem?_eq_some_iff.1 hh).1 (hn g (by rw[hv];rfl))).trans hh,r⟩
theorem Fk {mb n:Nat}{ks:DataW Unit}(h:w.ownsMap prog 2 Zh mb n ks)(k:Chg S w w')(hn:¬S mb):w'.ownsMap prog 2 Zh mb n ks:=by
 obtain⟨es,cl,hb,r⟩:=h
 exact⟨es,cl,(k.block mb (Array.getElem?_eq_some_iff.1 hb).1 hn).trans hb,r⟩
end
def upd {α:Type}(f:Nat->α)(i:Nat)(v:α):Nat->α:=λj=>if j=i then v else f j
theorem Xp {α:Type}(f:Nat->α)(i:Nat)(v:α):upd f i v i=v:=if_pos rfl
theorem Vq {α:Type}(f:Nat->α){i j:Nat}(v:α)(h:j≠i):upd f i v j=f j:=if_neg h
def Q1e (es:List Eg)(wb:Nat->Nat)(e:Nat):Array Value:=#[iV (eat es e).tail,iV (eat es e).head,iV (eat es e).weight,iV (eat es e).way,iV (eat es e).seg,.bool (eat es e).back,iV (eat es e).twin,iV (e:Int),pT (wb (eat es e).way.toNat),sN,sN]
structure Lk where
 br:Nat
 bm:Nat
 v0:Value
 v1:Value
 v2:Value
 v3:Value
 wb:Nat->Nat
 eb:Nat->Nat
 vs:Nat->Value
 ts:Nat->Value
 ve:Value
structure LR (C:Nat)(N:Nt)(es:List Eg)(kw me mr ma tk:Nat)(w:World)(L:Lk):Prop where
 road:BT w L.br #[L.v0,L.v1,L.v2,L.v3,iV N.uturn,L.ve,.map (some L.bm)] 138
 cr:C<=L.br
 cm:C<=L.bm
 cw:∀i,i<kw->C<=L.wb i
 ce:∀e,e<me->C<=L.eb e
 map:w.ownsMap prog 2 Zh L.bm kw (X8 (Yl N L.wb kw))
 way:∀i,i<kw->BT w (L.wb i) #[iV (wat N.ways i).id,L.vs i,L.ts i] 142
 row:∀i:Nat,i<kw->Jg C w (L.vs i) ((Jl es i mr).map L.eb)
 all:Jg C w L.ve ((List.range ma).map L.eb)
 edge:∀e,e<me->BT w (L.eb e) (Q1e es L.wb e) 146
 apart:∀i j g,i<kw->j<kw->i≠j->(L.vs i).ownBlock=some g->(L.vs j).ownBlock≠some g
 apartE:∀i g,i<kw->(L.vs i).ownBlock=some g->L.ve.ownBlock≠some g
 trav:∀i:Nat,i<tk->Wa C C w (L.ts i) es (trv es (Jl es i mr))
 bare:∀i,tk<=i->i<kw->L.ts i=sN
theorem Jg.next {C:Nat}{w w':World}{v:Value}{ps:List Nat}(h:Jg C w v ps)(k:Nx w w'):Jg C w' v ps:=V7 h k
theorem Jg.congr {C:Nat}{w:World}{v:Value}{l:List Nat}{f g:Nat->Nat}(h:Jg C w v (l.map f))(e:∀x∈l,f x=g x):Jg C w v (l.map g):=by rw[<-List.map_congr_left e];exact h
theorem Wa.chg {S:Nat->Prop}{C D:Nat}{w w':World}{v:Value}{es:List Eg}{ls:List (List Nat)}(h:Wa C D w v es ls)(k:Chg S w w')(hn:∀b,S b->∃cs t,BT w b cs t/\t≠208/\t≠2):Wa C D w' v es ls:=by
 obtain⟨us,hl,hr,hi⟩:=h
 refine⟨us,hl,Qs hr k (λg hg hs=>?_),λi hlt=>Qs (hi i hlt) k (λg hg hs=>?_)⟩
 ·obtain⟨cs,t,hb,h1,h2⟩:=hn g hs
  exact hb.neRow hr h1 hg.symm
 ·obtain⟨cs,t,hb,h1,h2⟩:=hn g hs
  exact hb.neRow (hi i hlt) h2 hg.symm
theorem Wx {es:List Eg}{i:Int}{k e:Nat}(h:e∈Jl es i k):e<k:=List.mem_range.1 (List.mem_filter.1 h).1
section
variable {C:Nat}{N:Nt}{es:List Eg}{kw me mr ma tk:Nat}{w w':World}{L:Lk}
theorem LR.next (h:LR C N es kw me mr ma tk w L)(k:Nx w w'):LR C N es kw me mr ma tk w' L:=
 have c:Chg (λ_=>False) w w':=Chg.nx k
 ⟨h.road.chg c id,h.cr,h.cm,h.cw,h.ce,Fk h.map c id,λi hi=>(h.way i hi).chg c id,λi hi=>(h.row i hi).next k,h.all.next k,λe he=>(h.edge e he).chg c id,h.apart,h.apartE,λi hi=>(h.trav i hi).chg c (λ_ x=>x.elim),h.bare⟩
theorem LR.newWay (h:LR C N es kw 0 0 0 0 w L)(hv:∀i,L.vs i=sN)(ht:∀i,L.ts i=sN){b:Nat}(hc:Chg (λx=>x=L.bm) w w')(hb:w.heap.size<=b)(hC:C<=w.heap.size)(hx:BT w' b #[iV (wat N.ways kw).id,sN,sN] 142)(hm:w'.ownsMap prog 2 Zh L.bm (kw+1) (X8 (Yl N L.wb kw++[((wat N.ways kw).id,b)]))) :
  LR C N es (kw+1) 0 0 0 0 w' { L with wb:=upd L.wb kw b } where
 road:=h.road.chg hc (λe=>Eo h.map h.road e.symm)
 cr:=h.cr
 cm:=h.cm
 cw:=λi hi=>by
  show C<=upd L.wb kw b i
  by_cases e:i=kw
  ·subst e
   rw[Xp]
   omega
  ·rw[Vq _ _ e]
   exact h.cw i (by omega)
 ce:=λe he=>absurd he (zM _)
 map:=by
  show w'.ownsMap _ _ _ _ _ (X8 (Yl N (upd L.wb kw b) (kw+1)))
  rw[Q5y,Xp,Q38 N (wb':=L.wb) (λi hi=>Vq _ _ (by omega))]
  exact hm
 way:=λi hi=>by
  show BT w' (upd L.wb kw b i) #[_,L.vs i,L.ts i] _
  by_cases e:i=kw
  ·subst e
   rw[Xp,hv,ht]
   exact hx
  ·rw[Vq _ _ e]
   exact(h.way i (by omega)).chg hc (λx=>Eo h.map (h.way i (by omega)) x.symm)
 row:=λi hi=>by
  show Jg C w' (L.vs i) _
  rw[hv]
  exact⟨rfl,oL ⟨rfl,rfl⟩⟩
 all:=Qs h.all hc (λg hg e=>G9 h.map h.all (by rw[hg,e]))
 edge:=λe he=>absurd he (zM _)
 apart:=λi j g _ _ _ hg=>by
  have hg':(L.vs i).ownBlock=some g:=hg
  rw[hv] at hg'
  simp[Value.ownBlock] at hg'
 apartE:=λi g _ hg=>by
  have hg':(L.vs i).ownBlock=some g:=hg
  rw[hv] at hg'
  simp[Value.ownBlock] at hg'
 trav:=λi hi=>absurd hi (zM _)
 bare:=λi _ _=>ht i
theorem LR.newEdge (h:LR C N es kw me mr ma 0 w L)(hr:mr<=me)(ha:ma<=me){b:Nat}(hbC:C<=b)(hc:Nx w w')(hx:BT w' b (Q1e es L.wb me) 146) :
  LR C N es kw (me+1) mr ma 0 w' { L with eb:=upd L.eb me b } where
 road:=(h.next hc).road
 cr:=h.cr
 cm:=h.cm
 cw:=h.cw
 ce:=λe he=>by
  show C<=upd L.eb me b e
  by_cases q:e=me
  ·subst q
   rw[Xp]
   exact hbC
  ·rw[Vq _ _ q]
   exact h.ce e (by omega)
 map:=(h.next hc).map
 way:=(h.next hc).way
 row:=λi hi=>((h.next hc).row i hi).congr (λx hx=>(Vq _ _ (by have:=Wx hx;omega)).symm)
 all:=(h.next hc).all.congr (λx hx=>(Vq _ _ (by have:=List.mem_range.1 hx;omega)).symm)
 edge:=λe he=>by
  show BT w' (upd L.eb me b e) _ _
  by_cases q:e=me
  ·subst q
   rw[Xp]
   exact hx
  ·rw[Vq _ _ q]
   exact(h.next hc).edge e (by omega)
 apart:=h.apart
 apartE:=h.apartE
 trav:=λi hi=>absurd hi (zM _)
 bare:=h.bare
theorem Q0z (es:List Eg)(i:Int)(m:Nat):Jl es i (m+1)=Jl es i m++if Yr es i m then [m] else []:=by
 unfold Jl
 rw[List.range_succ,zZ]
 cases h:Yr es i m<;>simp[h]
theorem LR.toRow (h:LR C N es kw me mr ma 0 w L)(hids:∀a b,a<kw->b<kw->(wat N.ways a).id=(wat N.ways b).id->a=b){i:Nat}(hi:i<kw)(hw:(eat es mr).way=i){v:Value}(hc:Chg (λx=>some x=(L.vs i).ownBlock\/x=L.wb i) w w')(hx:BT w' (L.wb i) #[iV (wat N.ways i).id,v,L.ts i] 142)(hr:Jg C w' v ((Jl es i mr).map L.eb++[L.eb mr]))(hv:∀g,v.ownBlock=some g->(L.vs i).ownBlock=some g\/w.heap.size<=g) :
  LR C N es kw me (mr+1) ma 0 w' { L with vs:=upd L.vs i v } where
 road:=h.road.chg hc (λe=>e.elim (h.road.neRow (h.row i hi) (by decide)) (h.road.ne (h.way i hi) (by decide)))
 cr:=h.cr
 cm:=h.cm
 cw:=h.cw
 ce:=h.ce
 map:=Fk h.map hc (λe=>e.elim (G9 h.map (h.row i hi)) (Eo h.map (h.way i hi)))
 way:=λj hj=>by
  show BT w' (L.wb j) #[_,upd L.vs i v j,L.ts j] _
  by_cases e:j=i
  ·subst e
   rw[Xp]
   exact hx
  ·rw[Vq _ _ e]
   refine(h.way j hj).chg hc (λq=>q.elim ((h.way j hj).neRow (h.row i hi) (by decide)) (λq=>?_))
   have h1:=h.way j hj
   have h2:=h.way i hi
   rw[q] at h1
   unfold BT at h1 h2
   rw[h1] at h2
   simp at h2
   exact e (hids j i hj hi h2.1)
 row:=λj hj=>by
  show Jg C w' (upd L.vs i v j) ((Jl es j (mr+1)).map L.eb)
  by_cases e:j=i
  ·subst e
   rw[Xp,Q0z,show Yr es j mr=true from yH hw,if_pos rfl,yL]
   exact hr
  ·rw[Vq _ _ e,Q0z,show Yr es j mr=false from yJ (by rw[hw];omega),if_neg (by simp),List.append_nil]
   refine Qs (h.row j hj) hc (λg hg q=>q.elim (λq=>h.apart j i g hj hi e hg q.symm) (λq=>?_))
   subst q
   exact(h.way i hi).neRow (h.row j hj) (by decide) hg.symm
 all:=Qs h.all hc (λg hg q=>q.elim (λq=>h.apartE i g hi q.symm hg) (λq=>by
  subst q
  exact(h.way i hi).neRow h.all (by decide) hg.symm))
 edge:=λe he=>(h.edge e he).chg hc (λq=>q.elim ((h.edge e he).neRow (h.row i hi) (by decide)) ((h.edge e he).ne (h.way i hi) (by decide)))
 apart:=λa b g ha hb hn hg=>by
  have hg':(upd L.vs i v a).ownBlock=some g:=hg
  show(upd L.vs i v b).ownBlock≠some g
  by_cases ea:a=i
  ·subst ea
   rw[Xp] at hg'
   rw[Vq _ _ (λx=>hn x.symm)]
   rcases hv g hg' with q|q
   ·exact h.apart a b g ha hb hn q
   ·intro x
    have:=(Q5 (h.row b hb) g x).2
    omega
  ·rw[Vq _ _ ea] at hg'
   by_cases eb:b=i
   ·subst eb
    rw[Xp]
    intro x
    rcases hv g x with q|q
    ·exact h.apart a b g ha hb hn hg' q
    ·have:=(Q5 (h.row a ha) g hg').2
     omega
   ·rw[Vq _ _ eb]
    exact h.apart a b g ha hb hn hg'
 apartE:=λa g ha hg=>by
  have hg':(upd L.vs i v a).ownBlock=some g:=hg
  by_cases ea:a=i
  ·subst ea
   rw[Xp] at hg'
   rcases hv g hg' with q|q
   ·exact h.apartE a g ha q
   ·intro x
    have:=(Q5 h.all g x).2
    omega
  ·rw[Vq _ _ ea] at hg'
   exact h.apartE a g ha hg'
 trav:=λj hj=>absurd hj (zM _)
 bare:=h.bare
theorem LR.toAll (h:LR C N es kw me mr ma 0 w L){v:Value}(hc:Chg (λx=>some x=L.ve.ownBlock\/x=L.br) w w')(hx:BT w' L.br #[L.v0,L.v1,L.v2,L.v3,iV N.uturn,v,.map (some L.bm)] 138)(hr:Jg C w' v ((List.range ma).map L.eb++[L.eb ma]))(hv:∀g,v.ownBlock=some g->L.ve.ownBlock=some g\/w.heap.size<=g) :
  LR C N es kw me mr (ma+1) 0 w' { L with ve:=v } where
 road:=hx
 cr:=h.cr
 cm:=h.cm
 cw:=h.cw
 ce:=h.ce
 map:=Fk h.map hc (λe=>e.elim (G9 h.map h.all) (Eo h.map h.road))
 way:=λj hj=>(h.way j hj).chg hc (λq=>q.elim ((h.way j hj).neRow h.all (by decide)) ((h.way j hj).ne h.road (by decide)))
 row:=λj hj=>Qs (h.row j hj) hc (λg hg q=>q.elim (λq=>h.apartE j g hj hg q.symm) (λq=>by
  subst q
  exact h.road.neRow (h.row j hj) (by decide) hg.symm))
 all:=by
  rw[List.range_succ,yL]
  exact hr
 edge:=λe he=>(h.edge e he).chg hc (λq=>q.elim ((h.edge e he).neRow h.all (by decide)) ((h.edge e he).ne h.road (by decide)))
 apart:=h.apart
 apartE:=λa g ha hg x=>by
  rcases hv g x with q|q
  ·exact h.apartE a g ha hg q
  ·have:=(Q5 (h.row a ha) g hg).2
   omega
 trav:=λj hj=>absurd hj (zM _)
 bare:=h.bare
theorem LR.toTrav (h:LR C N es kw me mr ma tk w L)(hids:∀a b,a<kw->b<kw->(wat N.ways a).id=(wat N.ways b).id->a=b)(hi:tk<kw){v:Value}(hc:J1 (some (L.wb tk)) w w')(ht:BT w' (L.wb tk) #[iV (wat N.ways tk).id,L.vs tk,v] 142)(hs:Wa C C w' v es (trv es (Jl es (tk:Nat) mr))) :
  LR C N es kw me mr ma (tk+1) w' { L with ts:=upd L.ts tk v } where
 road:=h.road.chg (Chg.only (S:=λx=>x=L.wb tk) hc (λb e=>zF e)) (h.road.ne (h.way tk hi) (by decide))
 cr:=h.cr
 cm:=h.cm
 cw:=h.cw
 ce:=h.ce
 map:=Fk h.map (Chg.only (S:=λx=>x=L.wb tk) hc (λb e=>zF e)) (Eo h.map (h.way tk hi))
 way:=λj hj=>by
  show BT w' (L.wb j) #[_,L.vs j,upd L.ts tk v j] _
  by_cases e:j=tk
  ·subst e
   rw[Xp]
   exact ht
  ·rw[Vq _ _ e]
   refine(h.way j hj).chg (Chg.only (S:=λx=>x=L.wb tk) hc (λb e=>zF e)) (λq=>?_)
   have h1:=h.way j hj
   have h2:=h.way tk hi
   rw[q] at h1
   unfold BT at h1 h2
   rw[h1] at h2
   simp at h2
   exact e (hids j tk hj hi h2.1)
 row:=λj hj=>Qs (h.row j hj) (Chg.only (S:=λx=>x=L.wb tk) hc (λb e=>zF e)) (λg hg q=>by
  subst q
  exact(h.way tk hi).neRow (h.row j hj) (by decide) hg.symm)
 all:=Qs h.all (Chg.only (S:=λx=>x=L.wb tk) hc (λb e=>zF e)) (λg hg q=>by
  subst q
  exact(h.way tk hi).neRow h.all (by decide) hg.symm)
 edge:=λe he=>(h.edge e he).chg (Chg.only (S:=λx=>x=L.wb tk) hc (λb e=>zF e)) ((h.edge e he).ne (h.way tk hi) (by decide))
 apart:=h.apart
 apartE:=h.apartE
 trav:=λj hj=>by
  show Wa C C w' (upd L.ts tk v j) es _
  by_cases e:j=tk
  ·subst e
   rw[Xp]
   exact hs
  ·rw[Vq _ _ e]
   exact(h.trav j (by omega)).chg (Chg.only (S:=λx=>x=L.wb tk) hc (λb e=>zF e)) (λb e=>by subst e;exact⟨_,_,h.way tk hi,by decide,by decide⟩)
 bare:=λj h1 h2=>by
  show upd L.ts tk v j=_
  rw[Vq _ _ (by omega)]
  exact h.bare j (by omega) h2
end
end Go.Proofs.YtahpodmokbdjeaaGreatDoor
namespace Go.Proofs.YtahpodmokbdjeaaGreatDoor
open Go.RowKit Go.Sort Go.Maps
set_option linter.unusedVariables false
set_option maxRecDepth 1000000
set_option maxHeartbeats 16000000
structure Qdt (N:Nt):Prop where
 asc:∀i j,i<j->j<N.ways.length->(wat N.ways i).id<(wat N.ways j).id
 wf:∀i,i<N.ways.length->(Lit.int .i64 (wat N.ways i).id).wf=true
 way:∀e,e<(E1 N).length->∃i:Nat,i<N.ways.length/\(eat (E1 N) e).way=i
 fwd:∀i:Nat,i<N.ways.length->(Jl (E1 N) i (E1 N).length).filter (λe=>!(eat (E1 N) e).back)≠[]
theorem Qdt.inj {N:Nt}(h:Qdt N){kw:Nat}(hk:kw<=N.ways.length):∀a b,a<kw->b<kw->(wat N.ways a).id=(wat N.ways b).id->a=b:=λa b ha hb e=>by
 rcases Nat.lt_trichotomy a b with q|q|q
 ·have:=h.asc a b q (by omega);omega
 ·exact q
 ·have:=h.asc b a q (by omega);omega
theorem Q89 {N:Nt}(hv:Qe N=true):Qdt N where
 asc:=Uq (λi j=>rfl) (Yv hv).ascw
 wf:=λi hi=>by
  simp only[Qe,U8,zH,decide_eq_true_eq] at hv
  obtain⟨_,hu,_,⟨hw,haw⟩,_⟩:=hv
  have:=Yj hw hi
  simp only[Qu,Vp,inB,zH,decide_eq_true_eq] at this
  obtain⟨⟨⟨⟨⟨g0,g1⟩,g2⟩,g3⟩,g4⟩,g5⟩:=this
  exact WalkArith.wf_i64 (by omega)
 way:=λe he=>by
  rw[Wb] at he
  obtain⟨i,j,q,hi,hj,hq,he1⟩:=Tw N.ways.length he
  obtain⟨_,a1⟩:=Yb hi hj hq
  rw[<-he1] at a1
  refine⟨i,hi,?_⟩
  rw[a1]
  split
  ·rfl
  ·split<;>rfl
 fwd:=λi hi=>by
  have h:=(Z3 (Jz hv) (Yv hv) hi).1
  unfold Jl
  unfold Vy at h
  rw[List.filter_filter]
  intro e
  refine h (Eq.trans ?_ e)
  congr 1
  funext x
  exact Bool.and_comm _ _
end Go.Proofs.YtahpodmokbdjeaaGreatDoor
