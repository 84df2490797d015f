import Derived.Test.YthhbdfiopjclcaaGreatDoorKJ
import Derived.Test.YthhbdfiopjclcaaGreatDoorShelf
import Derived.Maps.Own
namespace Go.Proofs.YthhbdfiopjclcaaGreatDoor
open Go.RowKit Go.Sort Go.Shelf
set_option linter.unusedVariables false
set_option maxRecDepth 1000000
set_option maxHeartbeats 16000000
theorem infoInt2:∃i,Tryz.prog.info? 2=some i/\i.zero=some (.int .i64 0)/\i.size=1/\i.bytes=8:=by
 obtain⟨ii,hi,hz0,hz1,hz2⟩:=info_parts Xm
 exact⟨ii,hi,hz0,hz1,hz2⟩
theorem growNil_any (n:Nat)(w:World)(hn:0<n)(hb:n<=10000000) :
  Calls Tryz.prog 88 #[.slice none 0 0,.int .i64 (n:Int)] w λe w'=>(∃cap,e=.returned (.slice (some ⟨w.heap.size,0,none⟩) 0 cap)/\Q6 w.heap.size w' (.slice (some ⟨w.heap.size,0,none⟩) 0 cap) [])/\Nx w w':=by
 obtain⟨ii,hi,hz0,hz1,hz2⟩:=infoInt2
 refine Calls.mono (Any8.slices_Grow_grow Tryz.growA ii (.int .i64 0) hi hz0 (by rw[hz1];decide) none 0 0 n [] w (Nat.le_refl _) (by omega) (by rw[hz2];omega) (by omega) (by simp) (λ_=>rfl) (λa h=>by cases h)) ?_
 rintro e w' ⟨rfl,rfl⟩
 have hg:=grownCap_ge w (0+n) 0 (Tryz.growA_ren.t 25)
 have hl:=grownCap_le_maxLen w (0+n) 0 (Tryz.growA_ren.t 25) (by unfold maxLen;omega)
 have key:∀(cs:Array Value) (cap:Nat),cs.size=cap->cap<=maxLen->Q6 w.heap.size (w.drew.alloc (.cells cs 2)) (.slice (some ⟨w.heap.size,0,none⟩) 0 cap) []:=λcs cap h1 h2=>
  ⟨rfl,Or.inr ⟨w.heap.size,cap,cs,rfl,Nat.le_refl _,by show(w.heap.push _)[w.heap.size]?=_;simp,Nat.zero_le _,h2,by omega,by simp[Qs]⟩⟩
 refine⟨⟨_,rfl,key _ _ ?_ hl⟩,Nx.trans (show Nx w w.drew from(Below.refl _ _).drew) (Qc w.drew _)⟩
 simp[Builtin.zeroCells,Value.cells]
 have e:grownCap w (0+n) 0 (Tryz.growA_ren.t 25)=grownCap w n 0 (Tryz.growA_ren.t 25):=by rw[Nat.zero_add]
 rw[e] at hg
 omega
theorem add_at (b off i:Nat):(⟨b,off,none⟩:Addr).add i=⟨b,off+i,none⟩:=by
 unfold Addr.add
 by_cases hi:i=0<;>simp[hi]
theorem run_append_none (w:World)(t ty e:TypeId)(i:TypeInfo)(ht:Tryz.prog.underlying t=some (.slice e))(hi:Tryz.prog.info? e=some i)(a:Addr)(n cap c:Nat)(hn:n<=cap) :
  (Builtin.append_ #[t,t] ty #[.slice (some a) n cap,.slice none 0 c]).run Tryz.prog w=.ok (.slice (some a) n cap) w:=by
 have hf:=run_firstCells_none (P:=Tryz.prog) (w:=w) i.size 0 0 c
 simp[Builtin.append_,run_underlying ht,sizeOf,typeInfo,hi,Builtin.lenOf,hn,hf,storeCells]
def Jr (ws:List (List Int))(k:Nat):List Int:=(ws.take k).flatten
theorem flatTo_succ {ws:List (List Int)}{k:Nat}(h:k<ws.length):Jr ws (k+1)=Jr ws k++wd ws k:=by
 unfold Jr
 rw[List.take_succ_eq_append_getElem h,List.flatten_append]
 simp[wd,List.getD_eq_getElem?_getD,h]
theorem flatTo_all (ws:List (List Int)):Jr ws ws.length=ws.flatten:=by unfold Jr;rw[List.take_length]
theorem flatTo_le {ws:List (List Int)}:∀k,(Jr ws k).length<=ws.flatten.length:=by
 intro k
 unfold Jr
 have:ws.flatten=(ws.take k).flatten++(ws.drop k).flatten:=by rw[<-List.flatten_append,List.take_append_drop]
 rw[this,List.length_append]
 omega
theorem Q6.app {B:Nat}{w:World}{v:Value}{zs ys:List Int}(h:w.ownsRow B 2 1 v (zs.length+ys.length) (Qs zs++Qs ys)):Q6 B w v (zs++ys):=by
 unfold Q6
 have e:Qs (zs++ys)=Qs zs++Qs ys:=by simp[Qs]
 rw[List.length_append,e]
 exact h
theorem concat_any (B:Nat)(v:Value)(ws:List (List Int))(w:World)(h0:Vl B w v ws)(hp:0<ws.flatten.length)(hl:ws.flatten.length<=1000000)(hn:ws.length<=10) :
  Calls Tryz.prog 70 #[v] w λe w'=>(∃u,e=.returned u/\Q6 w.heap.size w' u ws.flatten)/\Nx w w':=by
 obtain⟨ii,hi,hz0,hz1,hz2⟩:=info_parts Xm
 have HW:Hid (Vl B w v ws):=h0
 obtain⟨a,cap,rfl,jm,jk⟩:=h0
 clear jm jk
 generalize hnl:ws.length=n at *
 have HNL:Hid (ws.length=n):=hnl
 clear hnl
 have HFL:Hid (∀k,(Jr ws k).length<=ws.flatten.length):=flatTo_le
 generalize hfl:ws.flatten.length=fl at *
 have HF:Hid (ws.flatten.length=fl):=hfl
 clear hfl
 go_enter Tryz.func70,Tryz.ntmps70
 go_wp2
 go_loopw [3,11] (λs i wr=>∃k:Nat,k<=n/\i=.int .i64 k/\s=.int .i64 ((Jr ws k).length:Int)/\Hid (w=wr)) (λ_ i _=>n-(intOf i).toNat)
 case atStart=>exact⟨0,Nat.zero_le _,rfl,rfl,rfl⟩
 obtain⟨k,hkm,rfl,rfl,hww⟩:=hrel
 have hww2:=hww.out
 subst hww2
 clear hww
 by_cases hlt:k<n
 ·have hlt':(k:Int)<n:=by omega
  have HKW:Hid (k<ws.length):=by unfold Hid;rw[HNL.out];exact hlt
  obtain⟨b,off,c,hae,hb,vi,hvi,hI,hcI⟩:=HW.out.at' HKW.out
  simp only[Value.slice.injEq] at hae
  obtain⟨rfl,jl,rfl⟩:=hae
  have HES:Hid (((Jr ws (k+1)).length:Int)=(Jr ws k).length+(wd ws k).length):=by unfold Hid;rw[flatTo_succ HKW.out,List.length_append];omega
  have h1:=HFL.out (k+1)
  have h2:(Jr ws (k+1)).length=(Jr ws k).length+(wd ws k).length:=by rw[flatTo_succ HKW.out,List.length_append]
  obtain⟨ai,ci,rfl,ji,jk⟩:=hI
  have hbd:(Jr ws k).length+(wd ws k).length<=fl:=by omega
  clear jl ji jk hcI h1 h2
  generalize (wd ws k).length=wl at *
  generalize hfk:(Jr ws k).length=fk at *
  clear hfk
  have g1:decide ((fk:Int)+(wl:Int)<0)=false:=by simp;omega
  go_wp2
  go_roundw
  case rel=>exact⟨k+1,by omega,by go_num,by rw[HES.out],(trivial:True)⟩
  case measure=>simp[intOf];omega
 have ek:n=k:=by omega
 subst ek
 have HA:Hid ((Jr ws n).length=fl):=by unfold Hid;rw[<-HNL.out,flatTo_all];exact HF.out
 rw[HA.out]
 clear hlt hkm
 go_wp2_with fail
 refine(growNil_any fl _ hp (by omega)).mono ?_
 rintro e w2 ⟨⟨cp,rfl,hO⟩,hx⟩
 have HO2:Hid (Q6 w.heap.size w2 (.slice (some ⟨w.heap.size,0,none⟩) 0 cp) (Jr ws 0)):=hO
 have HX2:Hid (Nx w w2):=hx
 clear hO hx
 go_wp2
 go_loopw [6,27] (λu i wq=>∃k:Nat,k<=n/\i=.int .i64 k/\Hid (Q6 w.heap.size wq u (Jr ws k))/\Hid (Nx w wq)/\Hid (u.ownBlock≠none)) (λ_ i _=>n-(intOf i).toNat)
 case atStart=>exact⟨0,Nat.zero_le _,rfl,HO2,HX2,by unfold Hid;simp[Value.ownBlock]⟩
 clear HO2 HX2
 obtain⟨k,hkm,rfl,HO,HN,HNB⟩:=hrel
 by_cases hlt:k<n
 case neg=>
  have ek:n=k:=by omega
  subst ek
  have HFF:Hid (Q6 w.heap.size wr u6 ws.flatten):=by have:=HO.out;rw[<-HNL.out,flatTo_all] at this;exact this
  clear hlt hkm HO
  go_wp2
  go_ret
  exact⟨⟨_,rfl,HFF.out⟩,HN.out⟩
 have hlt':(k:Int)<n:=by omega
 have HKW:Hid (k<ws.length):=by unfold Hid;rw[HNL.out];exact hlt
 obtain⟨b,off,c,hae,hb,vi,hvi,hI,hcI⟩:=HW.out.at' HKW.out
 simp only[Value.slice.injEq] at hae
 obtain⟨rfl,jl,rfl⟩:=hae
 have c0:=Q3 HN.out hvi
 have HES:Hid (Jr ws (k+1)=Jr ws k++wd ws k):=flatTo_succ HKW.out
 have hbd:(Jr ws k).length+(wd ws k).length<=fl:=by have:=HFL.out (k+1);rw[HES.out,List.length_append] at this;exact this
 have HIr:Hid (Qo B wr vi (wd ws k)):=hI.next HN.out
 obtain⟨ai,ci,rfl,ji,jk⟩:=hI
 clear jl ji hcI
 by_cases hz:(wd ws k).length=0
 ·have hnil:wd ws k=[]:=List.length_eq_zero_iff.1 hz
  have HE2:Hid (Jr ws (k+1)=Jr ws k):=by unfold Hid;rw[HES.out,hnil,List.append_nil]
  obtain⟨ua,uc,hue⟩:=HO.out.slice
  subst hue
  cases ua with
  |none=>exact absurd rfl HNB.out
  |some ua=>
  have hcapu:(Jr ws k).length<=uc:=by
   rcases HO.out.2 with⟨e,_⟩|⟨g,cap',cur,e,_,_,hc',_⟩
   ·cases e
   ·simp only[Value.slice.injEq] at e;omega
  cases ai with
  |none=>
   have hap:=λty=>run_append_none wr 23 ty 2 ii Tryz.underlying23 hi ua (Jr ws k).length uc ci hcapu
   rw[hz] at c0
   generalize (Jr ws k).length=zl at *
   clear jk hnil
   go_wp2
   go_roundw
   case rel=>exact⟨k+1,by omega,by go_num,by unfold Hid;rw[HE2.out];exact HO.out,HN,HNB⟩
   case measure=>simp[intOf];omega
  |some ad=>
   rw[hz] at c0
   generalize hzs:Jr ws k=zs at *
   clear hzs
   generalize hzl:zs.length=zl at *
   have HZL:Hid (zs.length=zl):=hzl
   clear hzl jk hnil
   go_wp2_with (at_builtin;refine wpList_append_own_at _ rfl _ _ 23 rfl w.heap.size 2 ii (.int .i64 0) 1 8 Tryz.underlying23 hi hz0 hz1 hz2 rfl (by decide) _ _ _ rfl HO.out ad 0 ci [] rfl rfl ?g1 ?g2 ?g3 ?g4 ?g5 ?_)
   case g1=>intro j u hj;simp at hj
   case g2=>intro u hu;simp at hu
   case g3=>rw[HZL.out];unfold maxLen;omega
   case g4=>rw[HZL.out];omega
   case g5=>exact HN.out.size
   intro v7 w7 hown hgrow _ hat7
   have HO7:Hid (Q6 w.heap.size w7 v7 (Jr ws (k+1))):=by unfold Hid;rw[HE2.out];exact hown
   have HN7:Hid (Nx w w7):=Below.grown HN.out hgrow HN.out.size (λg hg=>(Qf HO.out g hg).1)
   have HB7:Hid (v7.ownBlock≠none):=by rcases hat7 with e|e<;>(unfold Hid;rw[e];first|exact HNB.out|simp)
   clear hown hgrow hat7 c0
   go_wp2
   go_roundw
   case rel=>exact⟨k+1,by omega,by go_num,HO7,HN7,HB7⟩
   case measure=>simp[intOf];omega
 obtain⟨bi,oi,rfl,jB,hbi,hci⟩:=jk (by omega)
 have HNEWS:Hid (∀j u,(Qs (wd ws k))[j]?=some u->wr.cell? ((⟨bi,oi,none⟩:Addr).add j)=some u):=λj u hj=>by
  have hjl:j<(wd ws k).length:=by
   have:=(List.getElem?_eq_some_iff.1 hj).1
   simpa [Qs] using this
  rw[icells_at hjl] at hj
  rw[add_at]
  cases hj
  exact Q3 HN.out (hci j hjl)
 obtain⟨ua,uc,hue⟩:=HO.out.slice
 subst hue
 generalize hzs:Jr ws k=zs at *
 clear hzs
 generalize hys:wd ws k=ys at *
 clear hys jk hci
 generalize hzl:zs.length=zl at *
 have HZL:Hid (zs.length=zl):=hzl
 generalize hyl:ys.length=yl at *
 have HYL:Hid (ys.length=yl):=hyl
 clear hzl hyl
 go_wp2_with (at_builtin;refine wpList_append_own_at _ rfl _ _ 23 rfl w.heap.size 2 ii (.int .i64 0) 1 8 Tryz.underlying23 hi hz0 hz1 hz2 rfl (by decide) _ _ _ rfl HO.out ⟨bi,oi,none⟩ yl ci (Qs ys) rfl ?f0 HNEWS.out ?f2 ?f3 ?f4 ?f5 ?_)
 case f0=>rw[Qs,List.length_map,HYL.out];omega
 case f2=>intro u hu;obtain⟨z,_,rfl⟩:=List.mem_map.1 hu;rfl
 case f3=>rw[HZL.out];unfold maxLen;omega
 case f4=>rw[HZL.out];omega
 case f5=>exact HN.out.size
 intro v7 w7 hown hgrow _ hat7
 have HO7:Hid (Q6 w.heap.size w7 v7 (Jr ws (k+1))):=by unfold Hid;rw[HES.out];exact Q6.app (by rw[HYL.out];exact hown)
 have HN7:Hid (Nx w w7):=Below.grown HN.out hgrow HN.out.size (λg hg=>(Qf HO.out g hg).1)
 have HB7:Hid (v7.ownBlock≠none):=by rcases hat7 with e|e<;>(unfold Hid;rw[e];first|exact HNB.out|simp)
 clear hown hgrow hat7 c0
 go_wp2
 go_roundw
 case rel=>exact⟨k+1,by omega,by go_num,HO7,HN7,HB7⟩
 case measure=>simp[intOf];omega
end Go.Proofs.YthhbdfiopjclcaaGreatDoor
namespace Go.Proofs.YthhbdfiopjclcaaGreatDoor
open Go.RowKit Go.Sort
set_option linter.unusedVariables false
set_option maxRecDepth 1000000
set_option maxHeartbeats 16000000
def RWP (w:World)(g n:Nat)(F:Nat->Nat):Prop:=∃c:Array Value,w.heap[g]?=some (.cells c 82 (0,0))/\n<=c.size/\∀i,i<n->c[i]?=some (.pointer (some ⟨F i,0,none⟩))
theorem RWP.lt {w:World}{g n:Nat}{F:Nat->Nat}(h:RWP w g n F):g<w.heap.size:=by
 obtain⟨c,hb,_⟩:=h
 exact(Array.getElem?_eq_some_iff.1 hb).1
theorem RWP.cell {w:World}{g n:Nat}{F:Nat->Nat}(h:RWP w g n F){i:Nat}(hi:i<n):w.cell? ⟨g,i,none⟩=some (.pointer (some ⟨F i,0,none⟩)):=by
 obtain⟨c,hb,_,hc⟩:=h
 simp[World.cell?,hb,hc i hi]
theorem RWP.frozen {w:World}{g n:Nat}{F:Nat->Nat}(h:RWP w g n F)(i:Nat):w.frozen? ⟨g,i,none⟩=false:=by
 obtain⟨c,hb,_,_⟩:=h
 simp[World.frozen?,hb]
theorem RWP.congr {w:World}{g n:Nat}{F G:Nat->Nat}(h:RWP w g n F)(e:∀i,i<n->F i=G i):RWP w g n G:=by
 obtain⟨c,hb,hs,hc⟩:=h
 exact⟨c,hb,hs,λi hi=>by rw[hc i hi,e i hi]⟩
theorem RWP.set {w:World}{g n:Nat}{F:Nat->Nat}(h:RWP w g n F){i:Nat}(hi:i<n)(p:Nat):RWP (w.setCell ⟨g,i,none⟩ (.pointer (some ⟨p,0,none⟩))) g n (λt=>if t=i then p else F t):=by
 obtain⟨c,hb,hs,hc⟩:=h
 refine⟨c.setIfInBounds i (.pointer (some ⟨p,0,none⟩)),by simp[World.setCell,Array.getElem?_modify,hb],by simpa using hs,λt ht=>?_⟩
 rw[Array.getElem?_setIfInBounds]
 by_cases e:i=t
 ·subst e
  rw[if_pos rfl,if_pos (by omega)]
  simp
 ·rw[if_neg e,hc t ht]
  have e':¬t=i:=λx=>e x.symm
  simp[e']
theorem RWP.drewN {w:World}{g n:Nat}{F:Nat->Nat}(h:RWP w g n F):RWP w.drew g n F:=h
theorem RWP.held {w:World}{g n c:Nat}{F:Nat->Nat}(h:RWP w g n F){ps:List Nat}(hp:ps.length=n)(hm:n<=maxLen)(he:∀i,i<n->F i=ps.getD i 0){B:Nat}(hB:B<=g):Zk B w (.slice (some ⟨g,0,none⟩) n c) ps:=by
 subst hp
 refine⟨_,_,rfl,hm,λh0=>⟨g,0,rfl,hB,h.lt,λi hi=>?_⟩⟩
 show w.cell? ⟨g,0+i,none⟩=_
 rw[Nat.zero_add,h.cell hi,he i hi]
def rvK (f:Nat->Nat)(n k t:Nat):Nat:=if t<k\/n<=t+k then f (n-1-t) else f t
theorem reverse_any (g n c:Nat)(f:Nat->Nat)(w:World)(h0:RWP w g n f)(hn:n<=10000)(hp:0<n) :
  Calls Tryz.prog 64 #[.slice (some ⟨g,0,none⟩) n c] w λe w'=>(∃x,e=.returned x)/\RWP w' g n (λt=>f (n-1-t))/\Ja (some g) w w':=by
 have HR0:Hid (RWP w g n (rvK f n 0)):=h0.congr (λi hi=>by unfold rvK;rw[if_neg (by omega)])
 obtain⟨m,rfl⟩:∃m,n=m+1:=⟨n-1,by omega⟩
 clear h0
 have hwj:=U6 m (by omega)
 go_enter Tryz.func64,Tryz.ntmps64
 go_wp2
 go_loopw [2,3] (λa b wr=>∃k:Nat,2*k<=m+2/\a=.int .i64 k/\b=.int .i64 ((m:Int)-(k:Int))/\Hid (RWP wr g (m+1) (rvK f (m+1) k))/\Hid (Ja (some g) w wr)) (λa _ _=>m+2-(intOf a).toNat)
 case atStart=>exact⟨0,by omega,rfl,by simp,HR0,Ja.refl _ _⟩
 clear HR0
 obtain⟨k,hkm,rfl,rfl,HR,HO⟩:=hrel
 by_cases hlt:2*k<m
 ·obtain⟨j,hj⟩:∃j:Nat,(m:Int)-(k:Int)=(j:Int):=⟨m-k,by omega⟩
  have hjm:j+k=m:=by omega
  rw[hj]
  have hd:decide ((k:Int)<(j:Int))=true:=by simp;omega
  have hk1:(k:Int)<(m:Int)+1:=by omega
  have hj1:(j:Int)<(m:Int)+1:=by omega
  have hj0:(0:Int)<=(j:Int):=by omega
  have hk0:(0:Int)<=(k:Int):=by omega
  have cj:=HR.out.cell (i:=j) (by omega)
  have ck:=HR.out.cell (i:=k) (by omega)
  have HPJ:Hid (rvK f (m+1) k j=f j):=by unfold Hid rvK;rw[if_neg (by omega)]
  have HPK:Hid (rvK f (m+1) k k=f k):=by unfold Hid rvK;rw[if_neg (by omega)]
  rw[HPJ.out] at cj
  rw[HPK.out] at ck
  have HJ1:Hid ((m:Int)-((k+1:Nat):Int)=(j:Int)-1):=by unfold Hid;omega
  generalize hpj:f j=pj at *
  generalize hpk:f k=pk at *
  have HRN:Hid (∀W,RWP W g (m+1) (rvK f (m+1) k)->RWP ((W.setCell ⟨g,k,none⟩ (.pointer (some ⟨pj,0,none⟩))).setCell ⟨g,j,none⟩ (.pointer (some ⟨pk,0,none⟩))) g (m+1) (rvK f (m+1) (k+1))):=λW hW=>by
   refine((hW.set (i:=k) (by omega) pj).set (i:=j) (by omega) pk).congr (λt ht=>?_)
   unfold rvK
   by_cases e1:t=j
   ·subst e1
    rw[if_pos rfl,if_pos (by omega),show m+1-1-t=k by omega,hpk]
   ·rw[if_neg e1]
    by_cases e2:t=k
    ·subst e2
     rw[if_pos rfl,if_pos (by omega),show m+1-1-t=j by omega,hpj]
    ·rw[if_neg e2]
     by_cases e3:t<k\/m+1<=t+k
     ·rw[if_pos e3,if_pos (by omega)]
     ·rw[if_neg e3,if_neg (by omega)]
  clear hj hpj hpk
  have hkj:¬k=j:=by omega
  have hjk:¬j=k:=by omega
  have HRD:Hid (RWP wr.drew g (m+1) (rvK f (m+1) k)):=HR.out
  have d1:(wr.drew.setCell ⟨g,k,none⟩ (.pointer (some ⟨pj,0,none⟩))).cell? ⟨g,j,none⟩=some (.pointer (some ⟨pj,0,none⟩)):=by
   have:=(HRD.out.set (i:=k) (by omega) pj).cell (i:=j) (by omega)
   rw[if_neg hjk,HPJ.out] at this
   exact this
  have d2:(wr.drew.setCell ⟨g,k,none⟩ (.pointer (some ⟨pj,0,none⟩))).frozen? ⟨g,j,none⟩=false:=(HRD.out.set (i:=k) (by omega) pj).frozen j
  have d3:(wr.drew.setCell ⟨g,j,none⟩ (.pointer (some ⟨pk,0,none⟩))).cell? ⟨g,k,none⟩=some (.pointer (some ⟨pk,0,none⟩)):=by
   have:=(HRD.out.set (i:=j) (by omega) pk).cell (i:=k) (by omega)
   rw[if_neg hkj,HPK.out] at this
   exact this
  have d4:(wr.drew.setCell ⟨g,j,none⟩ (.pointer (some ⟨pk,0,none⟩))).frozen? ⟨g,k,none⟩=false:=(HRD.out.set (i:=j) (by omega) pk).frozen k
  have fk:=HR.out.frozen k
  have fj:=HR.out.frozen j
  go_upto_region 3 with fail
  go_region
  clear d1 d2 d3 d4 cj ck fk fj hd
  go_wp2
  go_roundw
  case rel=>exact⟨k+1,by omega,by go_num,by rw[HJ1.out],HRN.out _ HRD.out,Ja.set (Ja.set (Ja.nx HO.out (show Nx wr wr.drew from(Below.refl _ _).drew)) rfl _) rfl _⟩
  case measure=>simp[intOf];omega
 have hd:decide ((k:Int)<(m:Int)-(k:Int))=false:=by simp;omega
 have HF:Hid (RWP wr g (m+1) (λt=>f (m+1-1-t))):=HR.out.congr (λt ht=>by
  unfold rvK
  by_cases e:t<k\/m+1<=t+k
  ·rw[if_pos e]
  ·rw[if_neg e]
   congr 1
   omega)
 clear hlt hkm
 go_wp2
 go_end0
 exact⟨⟨_,rfl⟩,HF.out,HO.out⟩
theorem infoPtr:(Tryz.prog.info? 82).map (λi=>(i.zero,i.size,i.bytes))=some (some (.pointer none),1,8):=by kernel_rfl
theorem infoStr:(Tryz.prog.info? 116).map (λi=>(i.zero,i.size,i.bytes))=some (some (.agg #[.int .i64 0,.int .i64 0,.slice none 0 0]),3,40):=by kernel_rfl
def ptc (ps:List Nat):List Value:=ps.map λp=>.pointer (some ⟨p,0,none⟩)
def Jt (C:Nat)(w:World)(v:Value)(ps:List Nat):Prop:=w.ownsRow C 82 1 v ps.length (ptc ps)
theorem Jt.snoc {C:Nat}{w:World}{v:Value}{ps:List Nat}{p:Nat}(h:w.ownsRow C 82 1 v (ps.length+1) (ptc ps++[.pointer (some ⟨p,0,none⟩)])):Jt C w v (ps++[p]):=by
 unfold Jt
 have e:ptc (ps++[p])=ptc ps++[.pointer (some ⟨p,0,none⟩)]:=by simp[ptc]
 rw[List.length_append,e]
 exact h
theorem Jt.open {C:Nat}{w:World}{v:Value}{ps:List Nat}(h:Jt C w v ps)(hp:0<ps.length):∃g c,v=.slice (some ⟨g,0,none⟩) ps.length c/\C<=g/\ps.length<=maxLen/\RWP w g ps.length (λi=>ps.getD i 0):=by
 obtain⟨h1,h2⟩:=h
 rcases h2 with⟨_,h3⟩|⟨g,cap,cur,hv,hg,hh,hc,hm,hs,ht⟩
 ·omega
 ·refine⟨g,cap,hv,hg,by omega,cur,hh,by omega,λi hi=>?_⟩
  have e:(cur.toList.take (ps.length*1))[i]?=(ptc ps)[i]?:=by rw[ht]
  rw[List.getElem?_take_of_lt (by omega),Array.getElem?_toList] at e
  rw[e]
  simp[ptc,List.getD_eq_getElem?_getD,hi]
theorem Jt.held {C:Nat}{w:World}{v:Value}{ps:List Nat}(h:Jt C w v ps):Zk C w v ps:=by
 by_cases hp:0<ps.length
 ·obtain⟨g,c,rfl,hg,hm,hr⟩:=h.open hp
  exact hr.held rfl hm (λ_ _=>rfl) hg
 ·obtain⟨a,c,e⟩:=Q2 h
  have h0:ps.length=0:=by omega
  exact⟨a,c,e,by rw[h0];simp[maxLen],λh=>by omega⟩
def stc (es:List Eg)(x:List Nat×Value):List Value:=[.int .i64 (tlL es x.1),.int .i64 (hdL es x.1),x.2]
def OwnS (C D:Nat)(w:World)(v:Value)(es:List Eg)(ls:List (List Nat)):Prop:=
 ∃us:List Value,us.length=ls.length/\w.ownsRow C 116 3 v ls.length ((ls.zip us).flatMap (stc es))/\∀i,i<ls.length->Q6 D w (vat us i) (Qd (Jj ls i))
theorem Ja.refl' (o:Option Nat){w w':World}(h:Nx w w'):Ja o w w':=⟨h.os,h.tape,h.output,h.size,λb hb _=>h.block b hb⟩
theorem Ja.cellO {o:Option Nat}{w w':World}(h:Ja o w w'){b i:Nat}{v:Value}(hn:some b≠o)(hc:w.cell? ⟨b,i,none⟩=some v):w'.cell? ⟨b,i,none⟩=some v:=by
 rw[World.cell?_of_block (h.block b (Zd hc) hn)]
 exact hc
theorem Ja.tr {o:Option Nat}{a b c:World}(h:Ja o a b)(k:Ja o b c):Ja o a c:=
 ⟨k.os.trans h.os,k.tape.trans h.tape,k.output.trans h.output,Nat.le_trans h.size k.size,λx hx hn=>(k.block x (Nat.lt_of_lt_of_le hx h.size) hn).trans (h.block x hx hn)⟩
theorem Ja.young {o p:Option Nat}{a b c:World}(h:Ja o a b)(k:Ja p b c)(hp:∀g,p=some g->a.heap.size<=g):Ja o a c:=
 ⟨k.os.trans h.os,k.tape.trans h.tape,k.output.trans h.output,Nat.le_trans h.size k.size,λx hx hn=>(k.block x (Nat.lt_of_lt_of_le hx h.size) (λe=>by have:=hp x e.symm;omega)).trans (h.block x hx hn)⟩
theorem EB.on {o:Option Nat}{w w':World}{b e:Nat}{x:Eg}(h:EB w b e x)(k:Ja o w w')(hn:some b≠o):EB w' b e x:=
 ⟨k.cellO hn h.tail,k.cellO hn h.head,k.cellO hn h.wgt,k.cellO hn h.back,k.cellO hn h.twin,k.cellO hn h.num⟩
theorem EB.ne {w:World}{b e bw:Nat}{x:Eg}{v0 v1 v2:Value}(h:EB w b e x)(k:Blk w bw #[v0,v1,v2]):b≠bw:=by
 rintro rfl
 obtain⟨t,hb⟩:=k
 have:=h.num
 simp[World.cell?,hb] at this
theorem OwnS.one {C D:Nat}{w:World}{g:Nat}{es:List Eg}{l:List Nat}{u:Value}(hg:C<=g)(hr:w.heap[g]?=some (.cells #[.int .i64 (tlL es l),.int .i64 (hdL es l),u] 116 (0,0)))(hu:Q6 D w u (Qd l)):OwnS C D w (.slice (some ⟨g,0,none⟩) 1 1) es [l]:=
 ⟨[u],rfl,⟨rfl,Or.inr ⟨g,1,_,rfl,hg,hr,Nat.le_refl _,by simp[maxLen],by simp,by simp[stc]⟩⟩,λi hi=>by
  have:i=0:=by simpa using hi
  subst this
  exact hu⟩
theorem rev_getD (l:List Nat)(eb:Nat->Nat){i:Nat}(hi:i<l.length):(l.map eb).getD (l.length-1-i) 0=(l.reverse.map eb).getD i 0:=by
 have h1:l.length-1-i<l.length:=by omega
 simp[List.getD_eq_getElem?_getD,hi,h1]
theorem take_filter {l:List Nat}{p:Nat->Bool}{k:Nat}(hk:k<l.length)(h:p (l.getD k 0)=true):(l.take (k+1)).filter p=(l.take k).filter p++[l.getD k 0]:=by
 rw[Z4 hk,List.filter_append]
 simp only[List.filter_cons,h,if_true,List.filter_nil]
theorem take_filter' {l:List Nat}{p:Nat->Bool}{k:Nat}(hk:k<l.length)(h:p (l.getD k 0)=false):(l.take (k+1)).filter p=(l.take k).filter p:=by
 rw[Z4 hk,List.filter_append]
 simp only[List.filter_cons,h,Bool.false_eq_true,if_false,List.filter_nil,List.append_nil]
def trv (es:List Eg)(l:List Nat):List (List Nat):=[l.filter (λe=>!(eat es e).back)]++if l.filter (λe=>(eat es e).back)=[] then [] else [(l.filter (λe=>(eat es e).back)).reverse]
theorem trv_nil {es:List Eg}{l lf:List Nat}(h:l.filter (λe=>!(eat es e).back)=lf)(k:l.filter (λe=>(eat es e).back)=[]):trv es l=[lf]:=by unfold trv;rw[h,k,if_pos rfl];rfl
theorem trv_two {es:List Eg}{l lf lb:List Nat}(h:l.filter (λe=>!(eat es e).back)=lf)(k:l.filter (λe=>(eat es e).back)=lb)(hb:lb≠[]):trv es l=[lf,lb.reverse]:=by unfold trv;rw[h,k,if_neg hb];rfl
def BT (w:World)(b:Nat)(cs:Array Value)(t:Nat):Prop:=w.heap[b]?=some (.cells cs t (0,0))
theorem BT.lt {w:World}{b t:Nat}{cs:Array Value}(h:BT w b cs t):b<w.heap.size:=(Array.getElem?_eq_some_iff.1 h).1
theorem BT.blk {w:World}{b t:Nat}{cs:Array Value}(h:BT w b cs t):Blk w b cs:=⟨t,h⟩
theorem BT.new (w:World)(cs:Array Value)(t n:Nat)(hn:n=w.heap.size):BT (w.alloc (.cells cs t)) n cs t:=by
 subst hn
 unfold BT
 show(w.heap.push _)[w.heap.size]?=_
 simp
theorem BT.set {w:World}{b t:Nat}{cs:Array Value}(h:BT w b cs t)(i:Nat)(v:Value):BT (w.setCell ⟨b,i,none⟩ v) b (cs.setIfInBounds i v) t:=by
 unfold BT at h ⊢
 simp[World.setCell,Array.getElem?_modify,h]
theorem BT.next {w w':World}{b t:Nat}{cs:Array Value}(h:BT w b cs t)(k:Nx w w'):BT w' b cs t:=(k.block b h.lt).trans h
theorem BT.alloc {w:World}{b t:Nat}{cs:Array Value}(h:BT w b cs t)(o:Obj):BT (w.alloc o) b cs t:=h.next (Qc _ _)
theorem BT.grown {w w':World}{o:Option Nat}{b t:Nat}{cs:Array Value}(h:BT w b cs t)(k:w.grownBy w' o)(hn:some b≠o):BT w' b cs t:=(k.block b h.lt hn).trans h
theorem Ja.bt {o:Option Nat}{w w':World}{b t:Nat}{cs:Array Value}(k:Ja o w w')(h:BT w b cs t)(hn:some b≠o):BT w' b cs t:=(k.block b h.lt hn).trans h
theorem traverse_any (B bw:Nat)(id:Int)(ve:Value)(es:List Eg)(eb:Nat->Nat)(l:List Nat)(w:World)(hbox:BT w bw #[.int .i64 id,ve,.slice none 0 0] 81)(hP:Zk B w ve (l.map eb))(hlen:l.length<=4000)(he:∀e∈l,EB w (eb e) e (eat es e))(hf:l.filter (λe=>!(eat es e).back)≠[]) :
  Calls Tryz.prog 36 #[.pointer (some ⟨bw,0,none⟩)] w λe w'=>(∃x,e=.returned x)/\(∃vt,BT w' bw #[.int .i64 id,ve,vt] 81/\OwnS w.heap.size w.heap.size w' vt es (trv es l))/\Ja (some bw) w w':=by
 obtain⟨ip,hip,hp0,hp1,hp2⟩:=info_parts infoPtr
 obtain⟨iS,hiS,hs0,hs1,hs2⟩:=info_parts infoStr
 have HBX:=mh hbox
 have HP:=mh hP
 have HE:=mh he
 have HFN:=mh hf
 obtain⟨a,cap,hve,jm,jk⟩:=hP
 rw[List.length_map] at hve
 generalize hln:l.length=n at *
 have HLN:Hid (l.length=n):=hln
 subst hve
 have x1:=hbox.blk.cell (i:=1) rfl
 clear jm jk hbox he hf hln
 go_enter Tryz.func36,Tryz.ntmps36
 go_wp2
 go_loopw [2,3,11] (λu2 u3 i wr=>∃k:Nat,k<=n/\i=.int .i64 k/\Hid (Jt w.heap.size wr u2 ((l.take k).filter (λe=>!(eat es e).back) |>.map eb))/\Hid (Jt w.heap.size wr u3 ((l.take k).filter (λe=>(eat es e).back) |>.map eb))/\Hid (Nx w wr)/\Hid (∀g,u2.ownBlock=some g->u3.ownBlock≠some g)) (λ_ _ i _=>n-(intOf i).toNat)
 case atStart=>exact⟨0,Nat.zero_le _,rfl,⟨rfl,Or.inl ⟨rfl,rfl⟩⟩,⟨rfl,Or.inl ⟨rfl,rfl⟩⟩,Below.refl _ _,λg h=>by simp[Value.ownBlock] at h⟩
 obtain⟨k,hkm,rfl,HF,HB,HN,HNE⟩:=hrel
 by_cases hlt:k<n
 ·have hlt':(k:Int)<n:=by omega
  have HKL:Hid (k<l.length):=by unfold Hid;rw[HLN.out];exact hlt
  obtain⟨b,off,c,hae,hb,hc⟩:=HP.out.at (by have:=HKL.out;omega)
  simp only[Value.slice.injEq] at hae
  obtain⟨rfl,jl,rfl⟩:=hae
  have c0:=Q3 HN.out (hc k HKL.out)
  have HEX:=HE.out _ (show l.getD k 0∈l by rw[show l.getD k 0=l[k]'HKL.out by simp[List.getD_eq_getElem?_getD,HKL.out]];exact List.getElem_mem _)
  have c1:=Q3 HN.out HEX.back
  have HY1:Hid ((λe=>!(eat es e).back) (l.getD k 0)=true->(l.take (k+1)).filter (λe=>!(eat es e).back)=(l.take k).filter (λe=>!(eat es e).back)++[l.getD k 0]):=λh=>take_filter HKL.out h
  have HY2:Hid ((λe=>!(eat es e).back) (l.getD k 0)=false->(l.take (k+1)).filter (λe=>!(eat es e).back)=(l.take k).filter (λe=>!(eat es e).back)):=λh=>take_filter' HKL.out h
  have HY3:Hid ((λe=>(eat es e).back) (l.getD k 0)=true->(l.take (k+1)).filter (λe=>(eat es e).back)=(l.take k).filter (λe=>(eat es e).back)++[l.getD k 0]):=λh=>take_filter HKL.out h
  have HY4:Hid ((λe=>(eat es e).back) (l.getD k 0)=false->(l.take (k+1)).filter (λe=>(eat es e).back)=(l.take k).filter (λe=>(eat es e).back)):=λh=>take_filter' HKL.out h
  have HLL:Hid (((l.take k).filter (λe=>!(eat es e).back)).length<=4000/\((l.take k).filter (λe=>(eat es e).back)).length<=4000):=by
   have h1:=List.length_filter_le (λe=>!(eat es e).back) (l.take k)
   have h2:=List.length_filter_le (λe=>(eat es e).back) (l.take k)
   have h3:(l.take k).length<=l.length:=by rw[List.length_take];omega
   have:=HLN.out
   exact⟨by omega,by omega⟩
  clear hc jl HEX
  generalize l.getD k 0=x at *
  obtain⟨fa,fc,hfe⟩:=Q2 HF.out
  obtain⟨ba,bc,hbe⟩:=Q2 HB.out
  have HLL2:Hid (((l.take k).filter (λe=>!(eat es e).back) |>.map eb).length<=4000/\((l.take k).filter (λe=>(eat es e).back) |>.map eb).length<=4000):=⟨by rw[List.length_map];exact HLL.out.1,by rw[List.length_map];exact HLL.out.2⟩
  have HQ1:Hid ((λe=>!(eat es e).back) x=true->((l.take (k+1)).filter (λe=>!(eat es e).back) |>.map eb)=((l.take k).filter (λe=>!(eat es e).back) |>.map eb)++[eb x]):=λh=>by rw[HY1.out h,List.map_append];rfl
  have HQ2:Hid ((λe=>!(eat es e).back) x=false->((l.take (k+1)).filter (λe=>!(eat es e).back) |>.map eb)=((l.take k).filter (λe=>!(eat es e).back) |>.map eb)):=λh=>by rw[HY2.out h]
  have HQ3:Hid ((λe=>(eat es e).back) x=true->((l.take (k+1)).filter (λe=>(eat es e).back) |>.map eb)=((l.take k).filter (λe=>(eat es e).back) |>.map eb)++[eb x]):=λh=>by rw[HY3.out h,List.map_append];rfl
  have HQ4:Hid ((λe=>(eat es e).back) x=false->((l.take (k+1)).filter (λe=>(eat es e).back) |>.map eb)=((l.take k).filter (λe=>(eat es e).back) |>.map eb)):=λh=>by rw[HY4.out h]
  generalize ((l.take k).filter (λe=>!(eat es e).back) |>.map eb)=fs at *
  generalize ((l.take k).filter (λe=>(eat es e).back) |>.map eb)=bs at *
  generalize hfl:fs.length=fl at *
  generalize hbl:bs.length=bl at *
  have HLF:Hid (fs.length=fl):=hfl
  have HLB:Hid (bs.length=bl):=hbl
  have hfl4:fl<=4000:=HLL2.out.1
  have hbl4:bl<=4000:=HLL2.out.2
  subst hfe hbe
  clear hfl hbl HLL HLL2 HY1 HY2 HY3 HY4
  cases hbk:(eat es x).back
  ·have HEF:=mh (HQ1.out (by simp[hbk]))
   have HEB:=mh (HQ4.out hbk)
   have HNEF:Hid (∀g,(Value.slice ba bl bc).ownBlock=some g->(Value.slice fa fl fc).ownBlock≠some g):=λg h e=>HNE.out g e h
   rw[hbk] at c1
   clear hbk
   go_wp2_with (at_builtin;refine wpList_append_own_at _ rfl _ _ 75 rfl w.heap.size 82 ip (.pointer none) 1 8 Tryz.underlying75 hip hp0 hp1 hp2 rfl (by decide) _ _ _ rfl (World.ownsRow.alloc HF.out _) ⟨wr.heap.size,0,none⟩ 1 1 [.pointer (some ⟨eb x,0,none⟩)] rfl rfl (λj u hj=>Qx wr _ _ _ rfl j u hj) ?f2 ?f3 ?f4 ?f5 ?_)
   case f2=>first|rfl|(intro u hu;simp at hu;subst hu;rfl)
   case f3=>have:=HLF.out;unfold maxLen;omega
   case f4=>have:=HLF.out;omega
   case f5=>have:=HN.out.size;first|omega|(rw[Q1];omega)
   intro v7 w7 hown hgrow _ hat7
   have HO7:Hid (Jt w.heap.size w7 v7 ((l.take (k+1)).filter (λe=>!(eat es e).back) |>.map eb)):=by unfold Hid;rw[HEF.out];exact Jt.snoc hown
   have HK7:Hid (Jt w.heap.size w7 (Value.slice ba bl bc) ((l.take (k+1)).filter (λe=>(eat es e).back) |>.map eb)):=by unfold Hid;rw[HEB.out];exact World.ownsRow.kept (World.ownsRow.alloc HB.out _) hgrow (by
     rcases Option.eq_none_or_eq_some (Value.slice ba bl bc).ownBlock with h|⟨g,h⟩
     ·exact Or.inl h
     ·exact Or.inr (λe=>HNEF.out g h (e.symm.trans h)))
   have HN7:Hid (Nx w w7):=Below.grown (HN.out.alloc _) hgrow (by rw[Q1];have:=HN.out.size;omega) (λg hg=>(Qf HF.out g hg).1)
   have HD7:Hid (∀g,(Value.slice ba bl bc).ownBlock=some g->v7.ownBlock≠some g):=λg hg e=>by
    rcases hat7 with h|h
    ·exact HNEF.out g hg (h.symm.trans e)
    ·have h1:=(Qf HB.out g hg).2
     rw[h] at e
     have h2:=Option.some.inj e
     first|omega|(rw[Q1] at h2;omega)
   clear hown hgrow hat7
   go_wp2
   go_roundw
   case rel=>exact⟨k+1,by omega,by go_num,HO7,HK7,HN7,λg h e=>HD7.out g e h⟩
   case measure=>simp[intOf];omega
  ·have HEB:=mh (HQ3.out hbk)
   have HEF:=mh (HQ2.out (by simp[hbk]))
   have HNEB:=mh HNE.out
   rw[hbk] at c1
   clear hbk
   go_wp2_with (at_builtin;refine wpList_append_own_at _ rfl _ _ 75 rfl w.heap.size 82 ip (.pointer none) 1 8 Tryz.underlying75 hip hp0 hp1 hp2 rfl (by decide) _ _ _ rfl (World.ownsRow.alloc HB.out _) ⟨wr.heap.size,0,none⟩ 1 1 [.pointer (some ⟨eb x,0,none⟩)] rfl rfl (λj u hj=>Qx wr _ _ _ rfl j u hj) ?f2 ?f3 ?f4 ?f5 ?_)
   case f2=>first|rfl|(intro u hu;simp at hu;subst hu;rfl)
   case f3=>have:=HLB.out;unfold maxLen;omega
   case f4=>have:=HLB.out;omega
   case f5=>have:=HN.out.size;first|omega|(rw[Q1];omega)
   intro v7 w7 hown hgrow _ hat7
   have HO7:Hid (Jt w.heap.size w7 v7 ((l.take (k+1)).filter (λe=>(eat es e).back) |>.map eb)):=by unfold Hid;rw[HEB.out];exact Jt.snoc hown
   have HK7:Hid (Jt w.heap.size w7 (Value.slice fa fl fc) ((l.take (k+1)).filter (λe=>!(eat es e).back) |>.map eb)):=by unfold Hid;rw[HEF.out];exact World.ownsRow.kept (World.ownsRow.alloc HF.out _) hgrow (by
     rcases Option.eq_none_or_eq_some (Value.slice fa fl fc).ownBlock with h|⟨g,h⟩
     ·exact Or.inl h
     ·exact Or.inr (λe=>HNEB.out g h (e.symm.trans h)))
   have HN7:Hid (Nx w w7):=Below.grown (HN.out.alloc _) hgrow (by rw[Q1];have:=HN.out.size;omega) (λg hg=>(Qf HB.out g hg).1)
   have HD7:Hid (∀g,(Value.slice fa fl fc).ownBlock=some g->v7.ownBlock≠some g):=λg hg e=>by
    rcases hat7 with h|h
    ·exact HNEB.out g hg (h.symm.trans e)
    ·have h1:=(Qf HF.out g hg).2
     rw[h] at e
     have h2:=Option.some.inj e
     first|omega|(rw[Q1] at h2;omega)
   clear hown hgrow hat7
   go_wp2
   go_roundw
   case rel=>exact⟨k+1,by omega,by go_num,HK7,HO7,HN7,HD7⟩
   case measure=>simp[intOf];omega
 have ek:n=k:=by omega
 subst ek
 have HTK:Hid (l.take n=l):=by unfold Hid;rw[<-HLN.out,List.take_length]
 have HFA:Hid (Jt w.heap.size wr u2 ((l.filter (λe=>!(eat es e).back)).map eb)):=by have:=HF.out;rw[HTK.out] at this;exact this
 have HBA:Hid (Jt w.heap.size wr u3 ((l.filter (λe=>(eat es e).back)).map eb)):=by have:=HB.out;rw[HTK.out] at this;exact this
 have HEF:Hid (∀e∈l.filter (λe=>!(eat es e).back),EB wr (eb e) e (eat es e)):=λe he=>(HE.out e (List.mem_filter.1 he).1).next HN.out
 have HEBK:Hid (∀e∈(l.filter (λe=>(eat es e).back)).reverse,EB w (eb e) e (eat es e)):=λe he=>HE.out e (List.mem_filter.1 (List.mem_reverse.1 he)).1
 have HFL:Hid ((l.filter (λe=>!(eat es e).back)).length<=4000/\(l.filter (λe=>(eat es e).back)).length<=4000):=by
  have h1:=List.length_filter_le (λe=>!(eat es e).back) l
  have h2:=List.length_filter_le (λe=>(eat es e).back) l
  have:=HLN.out
  exact⟨by omega,by omega⟩
 have BXr:=mh (HBX.out.next HN.out)
 have hbwl:bw<w.heap.size:=HBX.out.lt
 generalize hlfe:l.filter (λe=>!(eat es e).back)=lf at *
 generalize hlbe:l.filter (λe=>(eat es e).back)=lb at *
 have HLFE:=mh hlfe
 have HLBE:=mh hlbe
 clear hlfe hlbe
 obtain⟨fa,fc,hfe⟩:=Q2 HFA.out
 obtain⟨ba,bc,hbe⟩:=Q2 HBA.out
 rw[List.length_map] at hfe hbe
 subst hfe hbe
 have x2:=BXr.out.blk.cell (i:=2) rfl
 have z2:=BXr.out.blk.frozen 2
 clear hlt hkm HF HB
 go_wp2_with fail
 refine(stretchOf_any w.heap.size _ es eb lf _ HFA.out.held HFN.out HFL.out.1 HEF.out).mono ?_
 rintro e w4 ⟨⟨u4,rfl,hO4⟩,hx4⟩
 have HX4:Hid (Nx wr w4):=hx4
 have HO4:=mh hO4
 obtain⟨ua,uc,hu4⟩:=hO4.slice
 generalize (Qd lf).length=ul at hu4
 subst hu4
 generalize hW5:w4.alloc (.cells #[.int .i64 (tlL es lf),.int .i64 (hdL es lf),.slice ua ul uc] 116)=w5
 have HX5:Hid (Nx w4 w5):=by unfold Hid;rw[<-hW5];exact Qc _ _
 have HR5:Hid (w5.heap[w4.heap.size]?=some (.cells #[.int .i64 (tlL es lf),.int .i64 (hdL es lf),.slice ua ul uc] 116 (0,0))):=by unfold Hid;rw[<-hW5];show(w4.heap.push _)[w4.heap.size]?=_;simp
 have BX5:=mh ((BXr.out.next HX4.out).next HX5.out)
 have y2:=BX5.out.blk.cell (i:=2) rfl
 have f2:=BX5.out.blk.frozen 2
 have HUG:Hid (∀g,(Value.slice ua ul uc).ownBlock=some g->g<w4.heap.size):=λg hg=>(Qf HO4.out g hg).2
 clear hO4 hx4 x2 z2
 go_upto_region 9 with fail
 clear hW5
 generalize hW6:w5.setCell ⟨bw,2,none⟩ (.slice (some ⟨w4.heap.size,0,none⟩) 1 1)=w6
 have HBX6:Hid (BT w6 bw #[.int .i64 id,.slice a n cap,.slice (some ⟨w4.heap.size,0,none⟩) 1 1] 81):=by unfold Hid;rw[<-hW6];exact BX5.out.set 2 _
 have HON6:Hid (Ja (some bw) w w6):=by unfold Hid;rw[<-hW6];exact Ja.set (Ja.refl' _ ((HN.out.trans HX4.out).trans HX5.out)) rfl _
 have HNB:Hid (bw<w.heap.size/\w.heap.size<=wr.heap.size/\wr.heap.size<=w4.heap.size):=⟨hbwl,HN.out.size,HX4.out.size⟩
 have HR6:Hid (w6.heap[w4.heap.size]?=some (.cells #[.int .i64 (tlL es lf),.int .i64 (hdL es lf),.slice ua ul uc] 116 (0,0))):=by unfold Hid;rw[<-hW6];exact(Below.heap_setCell _ _ _ _ (by simp;have:=HNB.out;omega)).trans HR5.out
 have HO6:Hid (Q6 wr.heap.size w6 (.slice ua ul uc) (Qd lf)):=by unfold Hid;rw[<-hW6];exact Qn (HO4.out.next HX5.out) (by have:=HNB.out;omega) _ _
 have HBA6:Hid (Jt w.heap.size w6 (.slice ba lb.length bc) (lb.map eb)):=by unfold Hid;rw[<-hW6];exact Qn (Ju (Ju HBA.out HX4.out) HX5.out) hbwl _ _
 have HBG:Hid (∀g,(Value.slice ba lb.length bc).ownBlock=some g->w.heap.size<=g/\g<wr.heap.size):=λg hg=>Qf HBA.out g hg
 clear hW6 y2 f2 HX5 HR5 BX5 HO4 HFA HEF
 by_cases hlb:lb=[]
 ·subst hlb
  go_wp2
  go_end0
  refine⟨⟨_,rfl⟩,⟨_,HBX6.out,?_⟩,HON6.out⟩
  rw[trv_nil HLFE.out HLBE.out]
  exact OwnS.one (by have:=HNB.out;omega) HR6.out (HO6.out.base (by have:=HNB.out;omega))
 have hlp:0<lb.length:=List.length_pos_iff.2 hlb
 have HLB:Hid (lb≠[]):=hlb
 obtain⟨g,c,hge,hgC,hgm,hRW⟩:=HBA6.out.open (by rw[List.length_map];exact hlp)
 rw[List.length_map] at hge hgm hRW
 simp only[Value.slice.injEq] at hge
 obtain⟨rfl,jl,rfl⟩:=hge
 have HGG:Hid (w.heap.size<=g/\g<wr.heap.size):=HBG.out g rfl
 have HRW:=mh hRW
 generalize hbl:lb.length=bl at *
 have HBLN:Hid (lb.length=bl):=hbl
 have hbl4:bl<=4000:=HFL.out.2
 clear hRW jl hlb hgm hbl hgC
 have hdg:decide (0<(bl:Int))=true:=by simp;omega
 go_wp2_with fail
 refine(reverse_any g bl bc _ _ HRW.out (by omega) hlp).mono ?_
 rintro e w7 ⟨⟨rv,rfl⟩,hR7,hO7⟩
 have HON7:Hid (Ja (some bw) w w7):=HON6.out.young hO7 (λx e=>by cases e;exact HGG.out.1)
 have HBX7:=mh (hO7.bt HBX6.out (by intro e;have:=Option.some.inj e;have:=HNB.out;have:=HGG.out;omega))
 have HR7:Hid (w7.heap[w4.heap.size]?=some (.cells #[.int .i64 (tlL es lf),.int .i64 (hdL es lf),.slice ua ul uc] 116 (0,0))):=(hO7.block _ (Array.getElem?_eq_some_iff.1 HR6.out).1 (by intro e;have:=Option.some.inj e;have:=HNB.out;have:=HGG.out;omega)).trans HR6.out
 have HO7:Hid (Q6 wr.heap.size w7 (.slice ua ul uc) (Qd lf)):=hO7.own HO6.out (λx hx e=>by have h1:=(Qf HO6.out x hx).1;have h2:=Option.some.inj e;have:=HGG.out;omega)
 have HP7:Hid (Zk w.heap.size w7 (.slice (some ⟨g,0,none⟩) bl bc) (lb.reverse.map eb)):=hR7.held (by rw[List.length_map,List.length_reverse];exact HBLN.out) (by unfold maxLen;omega) (λi hi=>by rw[<-HBLN.out];exact rev_getD lb eb (by rw[HBLN.out];exact hi)) HGG.out.1
 have HE7:Hid (∀e∈lb.reverse,EB w7 (eb e) e (eat es e)):=λe he=>(HEBK.out e he).on HON7.out (λh=>(HEBK.out e he).ne HBX.out.blk (Option.some.inj h))
 have HZ7:=mh hO7.size
 have HW47:Hid (w4.heap.size<w7.heap.size):=(Array.getElem?_eq_some_iff.1 HR7.out).1
 clear hR7 hO7 hdg
 have hmx:Tryz.prog.follows .mixedOrders=true:=by kernel_rfl
 have x2:=HBX7.out.blk.cell (i:=2) rfl
 go_upto_region 11 with fail
 refine(wpIn_wide (n:=9)).1 ?_
 have HS0:=mh x2
 refine Q9 (c:=11) (S:=λw=>w.cell? ⟨bw,2,none⟩=some (.slice (some ⟨w4.heap.size,0,none⟩) 1 1)) hmx (by kernel_rfl) (λhw hcl=>?_)
 refine Qb (i:=0) (v:=.pointer (some ⟨bw,0,none⟩)) hw (by decide) hcl (Q4 rfl) rfl (by kernel_rfl) (by kernel_rfl) (by kernel_rfl) (λ_ _ _ h=>h) ⟨Or.inl ⟨by rfl,?y0⟩,λ_=>rfl⟩ HS0.out (λhcl=>?_)
 case y0=>
  rintro w c1
  go_simp
 refine Qb (i:=1) (v:=.pointer (some ⟨bw,0,none⟩)) hw (by decide) hcl (Q4 rfl) rfl (by kernel_rfl) (by kernel_rfl) (by kernel_rfl) (λ_ _ _ h=>h) ⟨Or.inl ⟨by rfl,?y1⟩,λ_=>rfl⟩ HS0.out (λhcl=>?_)
 case y1=>
  rintro w c1
  go_simp
 refine Qb (i:=2) (v:=.pointer (some ⟨bw,0,none⟩)) hw (by decide) hcl (Q4 rfl) rfl (by kernel_rfl) (by kernel_rfl) (by kernel_rfl) (λ_ _ _ h=>h) ⟨Or.inl ⟨by rfl,?y2⟩,λ_=>rfl⟩ HS0.out (λhcl=>?_)
 case y2=>
  rintro w c1
  go_simp
 refine Qb (i:=3) (v:=.pointer (some ⟨bw,2,none⟩)) hw (by decide) hcl (Q4 rfl) rfl (by kernel_rfl) (by kernel_rfl) (by kernel_rfl) (λ_ _ _ h=>h) ⟨Or.inl ⟨by rfl,?y3⟩,λ_=>rfl⟩ HS0.out (λhcl=>?_)
 case y3=>
  rintro w c1
  go_simp
 refine Qb (i:=4) (v:=.slice (some ⟨w4.heap.size,0,none⟩) 1 1) hw (by decide) hcl (Q4 rfl) rfl (by kernel_rfl) (by kernel_rfl) (by kernel_rfl) (λ_ _ _ h=>h) ⟨Or.inl ⟨by rfl,?y4⟩,λ_=>rfl⟩ HS0.out (λhcl=>?_)
 case y4=>
  rintro w c1
  go_simp
 refine Qb (i:=5) (v:=.slice (some ⟨g,0,none⟩) bl bc) hw (by decide) hcl (Q4 rfl) rfl (by kernel_rfl) (by kernel_rfl) (by kernel_rfl) (λ_ _ _ h=>h) ⟨Or.inl ⟨by rfl,?y5⟩,λ_=>rfl⟩ HS0.out (λhcl=>?_)
 case y5=>
  rintro w c1
  go_simp
 refine Q5 (i:=6) (by kernel_rfl) (wpOpIn_step rfl (λK hK=>?_))
 go_simp
 refine⟨trivial,(callsIn_wide.2 (stretchOf_any w.heap.size _ es eb lb.reverse _ (by exact HP7.out) (by simpa using HLB.out) (by rw[List.length_reverse,HBLN.out];exact hbl4) (λe he=>(HE7.out e he).next (show Nx w7 w7.drew from(Below.refl _ _).drew)))).mono ?_⟩
 rintro e w8 ⟨⟨u8,rfl,hO8⟩,hx8⟩
 have HX8:Hid (Nx w7 w8):=(show Nx w7 w7.drew from(Below.refl _ _).drew).trans hx8
 have HO8:Hid (Q6 w7.heap.size w8 u8 (Qd lb.reverse)):=hO8
 obtain⟨ua8,uc8,hu8⟩:=hO8.slice
 generalize (Qd lb.reverse).length=ul8 at hu8
 subst hu8
 have HBX8:=mh (HBX7.out.next HX8.out)
 have HR8:Hid (w8.heap[w4.heap.size]?=some (.cells #[.int .i64 (tlL es lf),.int .i64 (hdL es lf),.slice ua ul uc] 116 (0,0))):=(HX8.out.block _ HW47.out).trans HR7.out
 have HROW8:Hid (w8.ownsRow w.heap.size 116 3 (.slice (some ⟨w4.heap.size,0,none⟩) 1 1) 1 [.int .i64 (tlL es lf),.int .i64 (hdL es lf),.slice ua ul uc]):=⟨rfl,Or.inr ⟨w4.heap.size,1,_,rfl,by have:=HNB.out;omega,HR8.out,Nat.le_refl _,by simp[maxLen],by simp,by simp⟩⟩
 have HO8F:=mh (HO7.out.next HX8.out)
 have HON8:Hid (Ja (some bw) w w8):=HON7.out.tr (Ja.refl' _ HX8.out)
 have HZ8:=mh HX8.out.size
 have x8:=HBX8.out.blk.cell (i:=2) rfl
 refine hK _ _ ⟨Or.inr x8,?_⟩
 clear hK K hO8 hx8 x2
 refine Q5 (i:=7) (by kernel_rfl) (wpOpIn_step rfl (λK hK=>?_))
 go_simp
 refine hK _ _ ⟨Or.inr (Q3 (Qc _ _) x8),?_⟩
 clear hK K
 refine Q5 (i:=8) (by kernel_rfl) (wpOpIn_step rfl (λK hK=>?_))
 refine Yq rfl (.tmp 44) (.tmp 47) 79 rfl 116 iS (.agg #[.int .i64 0,.int .i64 0,.slice none 0 0]) 3 40 Tryz.underlying79 hiS hs0 hs1 hs2 rfl (by decide) w.heap.size (.slice (some ⟨w4.heap.size,0,none⟩) 1 1) _ _ (by simp[Act.eval]) (show(w8.alloc (.cells #[.int .i64 (tlL es lb.reverse),.int .i64 (hdL es lb.reverse),.slice ua8 ul8 uc8] 116)).ownsRow _ _ _ _ _ _ from World.ownsRow.alloc HROW8.out _) ⟨w8.heap.size,0,none⟩ 1 1 [.int .i64 (tlL es lb.reverse),.int .i64 (hdL es lb.reverse),.slice ua8 ul8 uc8] (by simp[Act.eval]) rfl (λj u hj=>Qx w8 _ _ _ rfl j u hj) (by intro u hu;simp at hu;rcases hu with rfl|rfl|rfl<;>rfl) (by unfold maxLen;omega) (by omega) (by rw[Q1];have:=HNB.out;have:=HW47.out;have:=HZ8.out;omega) ?_
 intro v9 w9 hown hgrow hat9
 have HV9:Hid (OwnS w.heap.size w.heap.size (w9.setCell ⟨bw,2,none⟩ v9) v9 es [lf,lb.reverse]):=⟨[.slice ua ul uc,.slice ua8 ul8 uc8],rfl,Qn hown hbwl _ _,λi hi=>by
  have h2:i<2:=hi
  have k1:Q6 wr.heap.size w9 (.slice ua ul uc) (Qd lf):=World.ownsRow.kept (World.ownsRow.alloc HO8F.out _) hgrow (by
   rcases Option.eq_none_or_eq_some (Value.slice ua ul uc).ownBlock with h|⟨g,h⟩
   ·exact Or.inl h
   ·exact Or.inr (λe=>by have e2:=HUG.out g h;rw[h] at e;have e3:g=w4.heap.size:=Option.some.inj e;omega))
  have k2:Q6 w7.heap.size w9 (.slice ua8 ul8 uc8) (Qd lb.reverse):=World.ownsRow.kept (World.ownsRow.alloc HO8.out _) hgrow (by
   rcases Option.eq_none_or_eq_some (Value.slice ua8 ul8 uc8).ownBlock with h|⟨g,h⟩
   ·exact Or.inl h
   ·exact Or.inr (λe=>by have e2:=(Qf HO8.out g h).1;rw[h] at e;have e3:g=w4.heap.size:=Option.some.inj e;have:=HW47.out;omega))
  match i,h2 with
  |0,_=>exact Qn (k1.base (by have:=HNB.out;omega)) hbwl _ _
  |1,_=>exact Qn (k2.base (by have:=HNB.out;have:=HW47.out;omega)) hbwl _ _⟩
 have HBX9:Hid (BT w9 bw #[.int .i64 id,.slice a n cap,.slice (some ⟨w4.heap.size,0,none⟩) 1 1] 81):=(HBX8.out.alloc _).grown hgrow (λe=>by have e2:bw=w4.heap.size:=Option.some.inj e;have:=HNB.out;omega)
 have HON9:Hid (Ja (some bw) w (w9.setCell ⟨bw,2,none⟩ v9)):=Ja.set ((HON8.out.tr (Ja.refl' _ (Qc _ _))).young (p:=some w4.heap.size) ⟨hgrow.os,hgrow.tape,hgrow.output,hgrow.size,hgrow.block⟩ (λx e=>by cases e;have:=HNB.out;omega)) rfl _
 have HBXE:Hid (BT (w9.setCell ⟨bw,2,none⟩ v9) bw #[.int .i64 id,.slice a n cap,v9] 81):=HBX9.out.set 2 _
 have x9:=HBX9.out.blk.cell (i:=2) rfl
 have f9:=HBX9.out.blk.frozen 2
 obtain⟨a9,c9,hv9⟩:=Q2 hown
 subst hv9
 refine hK _ _ ⟨Or.inr x9,?_⟩
 clear hK K hown hgrow hat9 x8
 refine Q5 (i:=9) (by kernel_rfl) (wpOpIn_step rfl (λK hK=>?_))
 go_simp
 refine hK _ _ ⟨Or.inr x9,?_⟩
 clear hK K
 refine Q5 (i:=10) (by kernel_rfl) (wpOpIn_step rfl (λK hK=>?_))
 go_simp
 refine hK _ _ ⟨Or.inr x9,?_⟩
 clear hK K
 refine Q5 (i:=11) (by kernel_rfl) (wpOpIn_step rfl (λK hK=>?_))
 go_simp
 refine hK _ _ ⟨Or.inl (by decide),?_⟩
 clear hK K
 refine Qj (by kernel_rfl) ?_ _
 clear hw hcl HS0 x9 f9
 go_wp2
 go_end0
 refine⟨⟨_,rfl⟩,⟨_,HBXE.out,?_⟩,HON9.out⟩
 rw[trv_two HLFE.out HLBE.out HLB.out]
 exact HV9.out
end Go.Proofs.YthhbdfiopjclcaaGreatDoor
namespace Go.Proofs.YthhbdfiopjclcaaGreatDoor
open Go.RowKit Go.Sort Go.Maps
set_option linter.unusedVariables false
set_option maxRecDepth 1000000
set_option maxHeartbeats 16000000
def ptrR (v:Value):Option (DataW Unit×List MemPlace):=
 match v with
 |.pointer none=>some (.lit (.int .i64 (-1)),[])
 |.pointer (some ⟨b,0,none⟩)=>some (.lit (.int .i64 (b:Int)),[])
 |_=>none
theorem ptrR_inv {v:Value}{x:Int}{ps:List MemPlace}(h:ptrR v=some (.lit (.int .i64 x),ps)):(x=-1/\v=.pointer none)\/∃b:Nat,x=b/\v=.pointer (some ⟨b,0,none⟩):=by
 unfold ptrR at h
 split at h
 ·simp at h
  exact Or.inl ⟨h.1.symm,rfl⟩
 ·rename_i b
  simp at h
  exact Or.inr ⟨b,h.1.symm,rfl⟩
 ·simp at h
theorem keyI:Keyed Tryz.prog 2:=int_keyed Tryz.underlying2
def kidE (p:Int×Nat):Lit×DataW Unit:=(.int .i64 p.1,.lit (.int .i64 (p.2:Int)))
def U8 (ks:List (Int×Nat)):DataW Unit:=.map (ks.map kidE)
theorem ins_end (x:Lit×DataW Unit)(l:List (Lit×DataW Unit))(h:∀p∈l,x.1.before p.1=false):DataW.insert x l=l++[x]:=by
 induction l with
 |nil=>rfl
 |cons y l ih=>
  unfold DataW.insert
  rw[h y (List.mem_cons_self ..)]
  simp only[Bool.false_eq_true,if_false,List.cons_append]
  rw[ih λp hp=>h p (List.mem_cons_of_mem _ hp)]
theorem kids_put {ks:List (Int×Nat)}{e:Int}(b:Nat)(h:∀p∈ks,p.1<e):(U8 ks).put (.int .i64 e) (.lit (.int .i64 (b:Int)))=U8 (ks++[(e,b)]):=by
 unfold U8
 rw[DataW.put_eq]
 congr 1
 unfold ChangeMaps.putKey
 have hf:(ks.map kidE).filter (ChangeMaps.notKey (.int .i64 e))=ks.map kidE:=by
  rw[List.filter_eq_self]
  intro p hp
  obtain⟨q,hq,rfl⟩:=List.mem_map.1 hp
  have:=h q hq
  simp[ChangeMaps.notKey,kidE,Lit.sameKey]
  omega
 rw[hf,ins_end]
 ·simp[kidE]
 ·intro p hp
  obtain⟨q,hq,rfl⟩:=List.mem_map.1 hp
  have:=h q hq
  simp[kidE,Lit.before]
  omega
def kidOf (ks:List (Int×Nat))(e:Int):Option Nat:=(ks.find? (λp=>decide (p.1=e))).map (·.2)
theorem kids_at (ks:List (Int×Nat))(e:Int):(U8 ks).atKey (.int .i64 e) (.lit (.int .i64 (-1)))=.lit (.int .i64 (match kidOf ks e with|none=>-1|some b=>(b:Int))):=by
 unfold U8 kidOf
 simp only[DataW.atKey]
 induction ks with
 |nil=>rfl
 |cons p ks ih=>
  simp only[List.map_cons,List.find?_cons]
  have e1:(kidE p).1.sameKey (.int .i64 e)=decide (p.1=e):=by simp[kidE,Lit.sameKey]
  rw[e1]
  by_cases h:p.1=e
  ·simp[h,kidE]
  ·simp only[decide_eq_false h]
   exact ih
theorem zeroWay (w:World):(zeroValue 78).run Tryz.prog w=.ok (.pointer none) w:=by kernel_rfl
theorem Jm {w:World}{mb n:Nat}{ks:List (Int×Nat)}(h:w.ownsMap Tryz.prog 2 ptrR mb n (U8 ks)){e:Int}{b:Nat}(hw:(Lit.int .i64 e).wf=true)(hk:kidOf ks e=some b):(Instr.lookup 74 (.map (some mb)) (.int .i64 e) false).run Tryz.prog w=.ok (.pointer (some ⟨b,0,none⟩)) w:=by
 obtain⟨v,ps,hrun,hv⟩:=h.lookup keyI Tryz.underlying74 (zeroWay w) (zd:=.lit (.int .i64 (-1))) (zp:=[]) rfl (keyOf_int_mk Tryz.underlying2 hw)
 rw[kids_at,hk] at hv
 rw[hrun]
 rcases ptrR_inv hv with⟨hb,_⟩|⟨c,hb,rfl⟩
 ·simp at hb
 ·have hb':b=c:=by simp at hb;omega
  subst hb'
  rfl
def Y2 (N:Nt)(wb:Nat->Nat)(k:Nat):List (Int×Nat):=(List.range k).map λi=>((wat N.ways i).id,wb i)
theorem wkids_succ (N:Nt)(wb:Nat->Nat)(k:Nat):Y2 N wb (k+1)=Y2 N wb k++[((wat N.ways k).id,wb k)]:=by simp[Y2,List.range_succ]
theorem wkids_congr (N:Nt){wb wb':Nat->Nat}{k:Nat}(h:∀i,i<k->wb i=wb' i):Y2 N wb k=Y2 N wb' k:=by
 unfold Y2
 refine List.map_congr_left λi hi=>?_
 rw[h i (List.mem_range.1 hi)]
theorem wkids_of {N:Nt}{wb:Nat->Nat}{k i:Nat}(hi:i<k)(hd:∀a b,a<k->b<k->(wat N.ways a).id=(wat N.ways b).id->a=b):kidOf (Y2 N wb k) (wat N.ways i).id=some (wb i):=by
 unfold kidOf
 cases h:(Y2 N wb k).find? (λp=>decide (p.1=(wat N.ways i).id)) with
 |none=>
  rw[List.find?_eq_none] at h
  have:=h ((wat N.ways i).id,wb i) (by unfold Y2;exact List.mem_map.2 ⟨i,List.mem_range.2 hi,rfl⟩)
  simp at this
 |some p=>
  have h1:=List.find?_some h
  have h2:=List.mem_of_find?_eq_some h
  unfold Y2 at h2
  obtain⟨j,hj,rfl⟩:=List.mem_map.1 h2
  have hj':=List.mem_range.1 hj
  have:=hd j i hj' hi (by simpa using h1)
  subst this
  rfl
theorem BT.ne {w:World}{a b t u:Nat}{c d:Array Value}(h:BT w a c t)(k:BT w b d u)(hn:t≠u):a≠b:=by
 rintro rfl
 unfold BT at h k
 rw[h] at k
 simp at k
 exact hn k.2
theorem BT.neRow {w:World}{a t u C sz n:Nat}{c:Array Value}{v:Value}{xs:List Value}(h:BT w a c t)(k:w.ownsRow C u sz v n xs)(hn:t≠u):some a≠v.ownBlock:=by
 rcases k.2 with⟨rfl,_⟩|⟨g,cap,cur,rfl,_,hh,_⟩
 ·simp[Value.ownBlock]
 ·intro e
  have e':a=g:=Option.some.inj e
  subst e'
  unfold BT at h
  rw[h] at hh
  simp at hh
  exact hn hh.2
theorem map_ne {w:World}{a t mb n:Nat}{c:Array Value}{ks:DataW Unit}(k:w.ownsMap Tryz.prog 2 ptrR mb n ks)(h:BT w a c t):mb≠a:=by
 obtain⟨es,cl,hb,_⟩:=k
 rintro rfl
 unfold BT at h
 rw[h] at hb
 simp at hb
theorem map_neRow {w:World}{u C sz m mb n:Nat}{v:Value}{xs:List Value}{ks:DataW Unit}(k:w.ownsMap Tryz.prog 2 ptrR mb n ks)(h:w.ownsRow C u sz v m xs):some mb≠v.ownBlock:=by
 obtain⟨es,cl,hb,_⟩:=k
 rcases h.2 with⟨rfl,_⟩|⟨g,cap,cur,rfl,_,hh,_⟩
 ·simp[Value.ownBlock]
 ·intro e
  have e':mb=g:=Option.some.inj e
  subst e'
  rw[hb] at hh
  simp at hh
theorem row_ne {w:World}{t u C C' sz sz' m n:Nat}{v v':Value}{xs xs':List Value}(h:w.ownsRow C t sz v m xs)(k:w.ownsRow C' u sz' v' n xs')(hn:t≠u){g:Nat}(hg:v.ownBlock=some g):some g≠v'.ownBlock:=by
 rcases h.2 with⟨rfl,_⟩|⟨g',cap,cur,rfl,_,hh,_⟩
 ·simp[Value.ownBlock] at hg
 ·have e:g'=g:=Option.some.inj hg
  subst e
  exact BT.neRow (c:=cur) hh k hn
structure Chg (S:Nat->Prop)(w w':World):Prop where
 os:w'.os=w.os
 tape:w'.tape=w.tape
 output:w'.output=w.output
 size:w.heap.size<=w'.heap.size
 block:∀b,b<w.heap.size->¬S b->w'.heap[b]?=w.heap[b]?
section
variable {S:Nat->Prop}{a b c w w':World}
theorem Chg.trans (h:Chg S a b)(k:Chg S b c):Chg S a c:=
 ⟨k.os.trans h.os,k.tape.trans h.tape,k.output.trans h.output,Nat.le_trans h.size k.size,λx hx hn=>(k.block x (Nat.lt_of_lt_of_le hx h.size) hn).trans (h.block x hx hn)⟩
theorem Chg.nx (h:Nx w w'):Chg S w w':=⟨h.os,h.tape,h.output,h.size,λx hx _=>h.block x hx⟩
theorem Chg.only {o:Option Nat}(h:Ja o w w')(hS:∀b,some b=o->S b):Chg S w w':=⟨h.os,h.tape,h.output,h.size,λx hx hn=>h.block x hx (λe=>hn (hS x e))⟩
theorem Chg.grown {o:Option Nat}(h:w.grownBy w' o)(hS:∀b,some b=o->S b):Chg S w w':=⟨h.os,h.tape,h.output,h.size,λx hx hn=>h.block x hx (λe=>hn (hS x e))⟩
theorem Chg.set (g i:Nat)(v:Value)(hS:S g):Chg S w (w.setCell ⟨g,i,none⟩ v):=
 ⟨rfl,rfl,rfl,by simp[World.setCell],λx hx hn=>Below.heap_setCell _ _ _ _ (λe=>hn (by subst e;exact hS))⟩
theorem Chg.young {T:Nat->Prop}(h:Chg S a b)(k:Chg T b c)(hT:∀x,T x->x<a.heap.size->S x):Chg S a c:=
 ⟨k.os.trans h.os,k.tape.trans h.tape,k.output.trans h.output,Nat.le_trans h.size k.size,λx hx hn=>(k.block x (Nat.lt_of_lt_of_le hx h.size) (λe=>hn (hT x e hx))).trans (h.block x hx hn)⟩
theorem Chg.below (h:Chg S w w'){B:Nat}(hB:B<=w.heap.size)(hS:∀x,S x->B<=x):Below B w w':=⟨h.os,h.tape,h.output,h.size,λx hx=>h.block x (by omega) (λe=>by have:=hS x e;omega)⟩
theorem BT.chg {b t:Nat}{cs:Array Value}(h:BT w b cs t)(k:Chg S w w')(hn:¬S b):BT w' b cs t:=(k.block b h.lt hn).trans h
theorem Qz {C t sz n:Nat}{v:Value}{xs:List Value}(h:w.ownsRow C t sz v n xs)(k:Chg S w w')(hn:∀g,v.ownBlock=some g->¬S g):w'.ownsRow C t sz v n xs:=by
 refine⟨h.1,?_⟩
 rcases h.2 with h2|⟨g,cap,cur,hv,hg,hh,r⟩
 ·exact Or.inl h2
 ·exact Or.inr ⟨g,cap,cur,hv,hg,(k.block g (Array.getElem?_eq_some_iff.1 hh).1 (hn g (by rw[hv];rfl))).trans hh,r⟩
theorem map_chg {mb n:Nat}{ks:DataW Unit}(h:w.ownsMap Tryz.prog 2 ptrR mb n ks)(k:Chg S w w')(hn:¬S mb):w'.ownsMap Tryz.prog 2 ptrR mb n ks:=by
 obtain⟨es,cl,hb,r⟩:=h
 exact⟨es,cl,(k.block mb (Array.getElem?_eq_some_iff.1 hb).1 hn).trans hb,r⟩
end
def upd {α:Type}(f:Nat->α)(i:Nat)(v:α):Nat->α:=λj=>if j=i then v else f j
theorem J4 {α:Type}(f:Nat->α)(i:Nat)(v:α):upd f i v i=v:=if_pos rfl
theorem Qv {α:Type}(f:Nat->α){i j:Nat}(v:α)(h:j≠i):upd f i v j=f j:=if_neg h
def ecell (es:List Eg)(wb:Nat->Nat)(e:Nat):Array Value:=#[.int .i64 (eat es e).tail,.int .i64 (eat es e).head,.int .i64 (eat es e).weight,.int .i64 (eat es e).way,.int .i64 (eat es e).seg,.bool (eat es e).back,.int .i64 (eat es e).twin,.int .i64 (e:Int),.pointer (some ⟨wb (eat es e).way.toNat,0,none⟩),.slice none 0 0,.slice none 0 0]
structure Lk where
 br:Nat
 bm:Nat
 v0:Value
 v1:Value
 v2:Value
 v3:Value
 wb:Nat->Nat
 eb:Nat->Nat
 vs:Nat->Value
 ts:Nat->Value
 ve:Value
structure LR (C:Nat)(N:Nt)(es:List Eg)(kw me mr ma tk:Nat)(w:World)(L:Lk):Prop where
 road:BT w L.br #[L.v0,L.v1,L.v2,L.v3,.int .i64 N.uturn,L.ve,.map (some L.bm)] 77
 cr:C<=L.br
 cm:C<=L.bm
 cw:∀i,i<kw->C<=L.wb i
 ce:∀e,e<me->C<=L.eb e
 map:w.ownsMap Tryz.prog 2 ptrR L.bm kw (U8 (Y2 N L.wb kw))
 way:∀i,i<kw->BT w (L.wb i) #[.int .i64 (wat N.ways i).id,L.vs i,L.ts i] 81
 row:∀i:Nat,i<kw->Jt C w (L.vs i) ((Jp es i mr).map L.eb)
 all:Jt C w L.ve ((List.range ma).map L.eb)
 edge:∀e,e<me->BT w (L.eb e) (ecell es L.wb e) 85
 apart:∀i j g,i<kw->j<kw->i≠j->(L.vs i).ownBlock=some g->(L.vs j).ownBlock≠some g
 apartE:∀i g,i<kw->(L.vs i).ownBlock=some g->L.ve.ownBlock≠some g
 trav:∀i:Nat,i<tk->OwnS C C w (L.ts i) es (trv es (Jp es i mr))
 bare:∀i,tk<=i->i<kw->L.ts i=.slice none 0 0
theorem Jt.next {C:Nat}{w w':World}{v:Value}{ps:List Nat}(h:Jt C w v ps)(k:Nx w w'):Jt C w' v ps:=Ju h k
theorem Jt.congr {C:Nat}{w:World}{v:Value}{l:List Nat}{f g:Nat->Nat}(h:Jt C w v (l.map f))(e:∀x∈l,f x=g x):Jt C w v (l.map g):=by rw[<-List.map_congr_left e];exact h
theorem OwnS.chg {S:Nat->Prop}{C D:Nat}{w w':World}{v:Value}{es:List Eg}{ls:List (List Nat)}(h:OwnS C D w v es ls)(k:Chg S w w')(hn:∀b,S b->∃cs t,BT w b cs t/\t≠116/\t≠2):OwnS C D w' v es ls:=by
 obtain⟨us,hl,hr,hi⟩:=h
 refine⟨us,hl,Qz hr k (λg hg hs=>?_),λi hlt=>Qz (hi i hlt) k (λg hg hs=>?_)⟩
 ·obtain⟨cs,t,hb,h1,h2⟩:=hn g hs
  exact hb.neRow hr h1 hg.symm
 ·obtain⟨cs,t,hb,h1,h2⟩:=hn g hs
  exact hb.neRow (hi i hlt) h2 hg.symm
theorem ofTo_lt {es:List Eg}{i:Int}{k e:Nat}(h:e∈Jp es i k):e<k:=List.mem_range.1 (List.mem_filter.1 h).1
section
variable {C:Nat}{N:Nt}{es:List Eg}{kw me mr ma tk:Nat}{w w':World}{L:Lk}
theorem LR.next (h:LR C N es kw me mr ma tk w L)(k:Nx w w'):LR C N es kw me mr ma tk w' L:=
 have c:Chg (λ_=>False) w w':=Chg.nx k
 ⟨h.road.chg c id,h.cr,h.cm,h.cw,h.ce,map_chg h.map c id,λi hi=>(h.way i hi).chg c id,λi hi=>(h.row i hi).next k,h.all.next k,λe he=>(h.edge e he).chg c id,h.apart,h.apartE,λi hi=>(h.trav i hi).chg c (λ_ x=>x.elim),h.bare⟩
theorem LR.newWay (h:LR C N es kw 0 0 0 0 w L)(hv:∀i,L.vs i=.slice none 0 0)(ht:∀i,L.ts i=.slice none 0 0){b:Nat}(hc:Chg (λx=>x=L.bm) w w')(hb:w.heap.size<=b)(hC:C<=w.heap.size)(hx:BT w' b #[.int .i64 (wat N.ways kw).id,.slice none 0 0,.slice none 0 0] 81)(hm:w'.ownsMap Tryz.prog 2 ptrR L.bm (kw+1) (U8 (Y2 N L.wb kw++[((wat N.ways kw).id,b)]))) :
  LR C N es (kw+1) 0 0 0 0 w' { L with wb:=upd L.wb kw b } where
 road:=h.road.chg hc (λe=>map_ne h.map h.road e.symm)
 cr:=h.cr
 cm:=h.cm
 cw:=λi hi=>by
  show C<=upd L.wb kw b i
  by_cases e:i=kw
  ·subst e
   rw[J4]
   omega
  ·rw[Qv _ _ e]
   exact h.cw i (by omega)
 ce:=λe he=>absurd he (Nat.not_lt_zero _)
 map:=by
  show w'.ownsMap _ _ _ _ _ (U8 (Y2 N (upd L.wb kw b) (kw+1)))
  rw[wkids_succ,J4,wkids_congr N (wb':=L.wb) (λi hi=>Qv _ _ (by omega))]
  exact hm
 way:=λi hi=>by
  show BT w' (upd L.wb kw b i) #[_,L.vs i,L.ts i] _
  by_cases e:i=kw
  ·subst e
   rw[J4,hv,ht]
   exact hx
  ·rw[Qv _ _ e]
   exact(h.way i (by omega)).chg hc (λx=>map_ne h.map (h.way i (by omega)) x.symm)
 row:=λi hi=>by
  show Jt C w' (L.vs i) _
  rw[hv]
  exact⟨rfl,Or.inl ⟨rfl,rfl⟩⟩
 all:=Qz h.all hc (λg hg e=>map_neRow h.map h.all (by rw[hg,e]))
 edge:=λe he=>absurd he (Nat.not_lt_zero _)
 apart:=λi j g _ _ _ hg=>by
  have hg':(L.vs i).ownBlock=some g:=hg
  rw[hv] at hg'
  simp[Value.ownBlock] at hg'
 apartE:=λi g _ hg=>by
  have hg':(L.vs i).ownBlock=some g:=hg
  rw[hv] at hg'
  simp[Value.ownBlock] at hg'
 trav:=λi hi=>absurd hi (Nat.not_lt_zero _)
 bare:=λi _ _=>ht i
theorem LR.newEdge (h:LR C N es kw me mr ma 0 w L)(hr:mr<=me)(ha:ma<=me){b:Nat}(hbC:C<=b)(hc:Nx w w')(hx:BT w' b (ecell es L.wb me) 85) :
  LR C N es kw (me+1) mr ma 0 w' { L with eb:=upd L.eb me b } where
 road:=(h.next hc).road
 cr:=h.cr
 cm:=h.cm
 cw:=h.cw
 ce:=λe he=>by
  show C<=upd L.eb me b e
  by_cases q:e=me
  ·subst q
   rw[J4]
   exact hbC
  ·rw[Qv _ _ q]
   exact h.ce e (by omega)
 map:=(h.next hc).map
 way:=(h.next hc).way
 row:=λi hi=>((h.next hc).row i hi).congr (λx hx=>(Qv _ _ (by have:=ofTo_lt hx;omega)).symm)
 all:=(h.next hc).all.congr (λx hx=>(Qv _ _ (by have:=List.mem_range.1 hx;omega)).symm)
 edge:=λe he=>by
  show BT w' (upd L.eb me b e) _ _
  by_cases q:e=me
  ·subst q
   rw[J4]
   exact hx
  ·rw[Qv _ _ q]
   exact(h.next hc).edge e (by omega)
 apart:=h.apart
 apartE:=h.apartE
 trav:=λi hi=>absurd hi (Nat.not_lt_zero _)
 bare:=h.bare
theorem ofTo_succ (es:List Eg)(i:Int)(m:Nat):Jp es i (m+1)=Jp es i m++if Vx es i m then [m] else []:=by
 unfold Jp
 rw[List.range_succ,List.filter_append]
 cases h:Vx es i m<;>simp[h]
theorem LR.toRow (h:LR C N es kw me mr ma 0 w L)(hids:∀a b,a<kw->b<kw->(wat N.ways a).id=(wat N.ways b).id->a=b){i:Nat}(hi:i<kw)(hw:(eat es mr).way=i){v:Value}(hc:Chg (λx=>some x=(L.vs i).ownBlock\/x=L.wb i) w w')(hx:BT w' (L.wb i) #[.int .i64 (wat N.ways i).id,v,L.ts i] 81)(hr:Jt C w' v ((Jp es i mr).map L.eb++[L.eb mr]))(hv:∀g,v.ownBlock=some g->(L.vs i).ownBlock=some g\/w.heap.size<=g) :
  LR C N es kw me (mr+1) ma 0 w' { L with vs:=upd L.vs i v } where
 road:=h.road.chg hc (λe=>e.elim (h.road.neRow (h.row i hi) (by decide)) (h.road.ne (h.way i hi) (by decide)))
 cr:=h.cr
 cm:=h.cm
 cw:=h.cw
 ce:=h.ce
 map:=map_chg h.map hc (λe=>e.elim (map_neRow h.map (h.row i hi)) (map_ne h.map (h.way i hi)))
 way:=λj hj=>by
  show BT w' (L.wb j) #[_,upd L.vs i v j,L.ts j] _
  by_cases e:j=i
  ·subst e
   rw[J4]
   exact hx
  ·rw[Qv _ _ e]
   refine(h.way j hj).chg hc (λq=>q.elim ((h.way j hj).neRow (h.row i hi) (by decide)) (λq=>?_))
   have h1:=h.way j hj
   have h2:=h.way i hi
   rw[q] at h1
   unfold BT at h1 h2
   rw[h1] at h2
   simp at h2
   exact e (hids j i hj hi h2.1)
 row:=λj hj=>by
  show Jt C w' (upd L.vs i v j) ((Jp es j (mr+1)).map L.eb)
  by_cases e:j=i
  ·subst e
   rw[J4,ofTo_succ,show Vx es j mr=true from decide_eq_true hw,if_pos rfl,List.map_append]
   exact hr
  ·rw[Qv _ _ e,ofTo_succ,show Vx es j mr=false from decide_eq_false (by rw[hw];omega),if_neg (by simp),List.append_nil]
   refine Qz (h.row j hj) hc (λg hg q=>q.elim (λq=>h.apart j i g hj hi e hg q.symm) (λq=>?_))
   subst q
   exact(h.way i hi).neRow (h.row j hj) (by decide) hg.symm
 all:=Qz h.all hc (λg hg q=>q.elim (λq=>h.apartE i g hi q.symm hg) (λq=>by
  subst q
  exact(h.way i hi).neRow h.all (by decide) hg.symm))
 edge:=λe he=>(h.edge e he).chg hc (λq=>q.elim ((h.edge e he).neRow (h.row i hi) (by decide)) ((h.edge e he).ne (h.way i hi) (by decide)))
 apart:=λa b g ha hb hn hg=>by
  have hg':(upd L.vs i v a).ownBlock=some g:=hg
  show(upd L.vs i v b).ownBlock≠some g
  by_cases ea:a=i
  ·subst ea
   rw[J4] at hg'
   rw[Qv _ _ (λx=>hn x.symm)]
   rcases hv g hg' with q|q
   ·exact h.apart a b g ha hb hn q
   ·intro x
    have:=(Qf (h.row b hb) g x).2
    omega
  ·rw[Qv _ _ ea] at hg'
   by_cases eb:b=i
   ·subst eb
    rw[J4]
    intro x
    rcases hv g x with q|q
    ·exact h.apart a b g ha hb hn hg' q
    ·have:=(Qf (h.row a ha) g hg').2
     omega
   ·rw[Qv _ _ eb]
    exact h.apart a b g ha hb hn hg'
 apartE:=λa g ha hg=>by
  have hg':(upd L.vs i v a).ownBlock=some g:=hg
  by_cases ea:a=i
  ·subst ea
   rw[J4] at hg'
   rcases hv g hg' with q|q
   ·exact h.apartE a g ha q
   ·intro x
    have:=(Qf h.all g x).2
    omega
  ·rw[Qv _ _ ea] at hg'
   exact h.apartE a g ha hg'
 trav:=λj hj=>absurd hj (Nat.not_lt_zero _)
 bare:=h.bare
theorem LR.toAll (h:LR C N es kw me mr ma 0 w L){v:Value}(hc:Chg (λx=>some x=L.ve.ownBlock\/x=L.br) w w')(hx:BT w' L.br #[L.v0,L.v1,L.v2,L.v3,.int .i64 N.uturn,v,.map (some L.bm)] 77)(hr:Jt C w' v ((List.range ma).map L.eb++[L.eb ma]))(hv:∀g,v.ownBlock=some g->L.ve.ownBlock=some g\/w.heap.size<=g) :
  LR C N es kw me mr (ma+1) 0 w' { L with ve:=v } where
 road:=hx
 cr:=h.cr
 cm:=h.cm
 cw:=h.cw
 ce:=h.ce
 map:=map_chg h.map hc (λe=>e.elim (map_neRow h.map h.all) (map_ne h.map h.road))
 way:=λj hj=>(h.way j hj).chg hc (λq=>q.elim ((h.way j hj).neRow h.all (by decide)) ((h.way j hj).ne h.road (by decide)))
 row:=λj hj=>Qz (h.row j hj) hc (λg hg q=>q.elim (λq=>h.apartE j g hj hg q.symm) (λq=>by
  subst q
  exact h.road.neRow (h.row j hj) (by decide) hg.symm))
 all:=by
  rw[List.range_succ,List.map_append]
  exact hr
 edge:=λe he=>(h.edge e he).chg hc (λq=>q.elim ((h.edge e he).neRow h.all (by decide)) ((h.edge e he).ne h.road (by decide)))
 apart:=h.apart
 apartE:=λa g ha hg x=>by
  rcases hv g x with q|q
  ·exact h.apartE a g ha hg q
  ·have:=(Qf (h.row a ha) g hg).2
   omega
 trav:=λj hj=>absurd hj (Nat.not_lt_zero _)
 bare:=h.bare
theorem LR.toTrav (h:LR C N es kw me mr ma tk w L)(hids:∀a b,a<kw->b<kw->(wat N.ways a).id=(wat N.ways b).id->a=b)(hi:tk<kw){v:Value}(hc:Ja (some (L.wb tk)) w w')(ht:BT w' (L.wb tk) #[.int .i64 (wat N.ways tk).id,L.vs tk,v] 81)(hs:OwnS C C w' v es (trv es (Jp es (tk:Nat) mr))) :
  LR C N es kw me mr ma (tk+1) w' { L with ts:=upd L.ts tk v } where
 road:=h.road.chg (Chg.only (S:=λx=>x=L.wb tk) hc (λb e=>Option.some.inj e)) (h.road.ne (h.way tk hi) (by decide))
 cr:=h.cr
 cm:=h.cm
 cw:=h.cw
 ce:=h.ce
 map:=map_chg h.map (Chg.only (S:=λx=>x=L.wb tk) hc (λb e=>Option.some.inj e)) (map_ne h.map (h.way tk hi))
 way:=λj hj=>by
  show BT w' (L.wb j) #[_,L.vs j,upd L.ts tk v j] _
  by_cases e:j=tk
  ·subst e
   rw[J4]
   exact ht
  ·rw[Qv _ _ e]
   refine(h.way j hj).chg (Chg.only (S:=λx=>x=L.wb tk) hc (λb e=>Option.some.inj e)) (λq=>?_)
   have h1:=h.way j hj
   have h2:=h.way tk hi
   rw[q] at h1
   unfold BT at h1 h2
   rw[h1] at h2
   simp at h2
   exact e (hids j tk hj hi h2.1)
 row:=λj hj=>Qz (h.row j hj) (Chg.only (S:=λx=>x=L.wb tk) hc (λb e=>Option.some.inj e)) (λg hg q=>by
  subst q
  exact(h.way tk hi).neRow (h.row j hj) (by decide) hg.symm)
 all:=Qz h.all (Chg.only (S:=λx=>x=L.wb tk) hc (λb e=>Option.some.inj e)) (λg hg q=>by
  subst q
  exact(h.way tk hi).neRow h.all (by decide) hg.symm)
 edge:=λe he=>(h.edge e he).chg (Chg.only (S:=λx=>x=L.wb tk) hc (λb e=>Option.some.inj e)) ((h.edge e he).ne (h.way tk hi) (by decide))
 apart:=h.apart
 apartE:=h.apartE
 trav:=λj hj=>by
  show OwnS C C w' (upd L.ts tk v j) es _
  by_cases e:j=tk
  ·subst e
   rw[J4]
   exact hs
  ·rw[Qv _ _ e]
   exact(h.trav j (by omega)).chg (Chg.only (S:=λx=>x=L.wb tk) hc (λb e=>Option.some.inj e)) (λb e=>by subst e;exact⟨_,_,h.way tk hi,by decide,by decide⟩)
 bare:=λj h1 h2=>by
  show upd L.ts tk v j=_
  rw[Qv _ _ (by omega)]
  exact h.bare j (by omega) h2
end
structure LkIn (N:Nt):Prop where
 asc:∀i j,i<j->j<N.ways.length->(wat N.ways i).id<(wat N.ways j).id
 wf:∀i,i<N.ways.length->(Lit.int .i64 (wat N.ways i).id).wf=true
 way:∀e,e<(E1 N).length->∃i:Nat,i<N.ways.length/\(eat (E1 N) e).way=i
 fwd:∀i:Nat,i<N.ways.length->(Jp (E1 N) i (E1 N).length).filter (λe=>!(eat (E1 N) e).back)≠[]
theorem LkIn.inj {N:Nt}(h:LkIn N){kw:Nat}(hk:kw<=N.ways.length):∀a b,a<kw->b<kw->(wat N.ways a).id=(wat N.ways b).id->a=b:=λa b ha hb e=>by
 rcases Nat.lt_trichotomy a b with q|q|q
 ·have:=h.asc a b q (by omega);omega
 ·exact q
 ·have:=h.asc b a q (by omega);omega
theorem lk_in {N:Nt}(hv:Qh N=true):LkIn N where
 asc:=Yv (λi j=>rfl) (X9 hv).ascw
 wf:=λi hi=>by
  simp only[Qh,counts,Bool.and_eq_true,decide_eq_true_eq] at hv
  obtain⟨_,hu,_,⟨hw,haw⟩,_⟩:=hv
  have:=allN_at hw hi
  simp only[Qy,Vm,inB,Bool.and_eq_true,decide_eq_true_eq] at this
  obtain⟨⟨⟨⟨⟨g0,g1⟩,g2⟩,g3⟩,g4⟩,g5⟩:=this
  exact WalkArith.wf_i64 (by omega)
 way:=λe he=>by
  rw[Yj] at he
  obtain⟨i,j,q,hi,hj,hq,he1⟩:=lay_of N.ways.length he
  obtain⟨_,a1⟩:=Xw hi hj hq
  rw[<-he1] at a1
  refine⟨i,hi,?_⟩
  rw[a1]
  split
  ·rfl
  ·split<;>rfl
 fwd:=λi hi=>by
  have h:=(Xu (Jq hv) (X9 hv) hi).1
  unfold Jp
  unfold Vi at h
  rw[List.filter_filter]
  intro e
  refine h (Eq.trans ?_ e)
  congr 1
  funext x
  exact Bool.and_comm _ _
end Go.Proofs.YthhbdfiopjclcaaGreatDoor
