import Derived.Test.YtdpfdkihbgmapaaGreatKB
namespace Go.Proofs.YtdpfdkihbgmapaaGreat
open Go.RowKit
set_option linter.unusedVariables false
set_option maxRecDepth 1000000
set_option maxHeartbeats 16000000
theorem OwnW.at {C:Nat}{w:World}{a:Option Addr}{n c:Nat}{ws:List (List Int)}(h:OwnW C w (.slice a n c) ws){i:Nat}(hi:i<ws.length):∃g u,a=some ⟨g,0,none⟩/\w.cell? ⟨g,i,none⟩=some u/\OwnI C w u (wd ws i):=by
 obtain⟨cs,h1,h2⟩:=h
 obtain⟨h3,h4⟩:=h1
 rw[Nat.mul_one] at h3
 rcases h4 with⟨_,h4⟩|⟨g,cap,cur,e,hg,hh,hc,hm,hs,ht⟩
 ·omega
 ·simp only[Value.slice.injEq] at e
  refine⟨g,vat cs i,e.1,?_,h2 i hi⟩
  have e:(cur.toList.take (ws.length*1))[i]?=cs[i]?:=by rw[ht]
  rw[List.getElem?_take_of_lt (by omega),Array.getElem?_toList] at e
  simp[World.cell?,hh,e,vat,List.getD,show i<cs.length by omega]
theorem HWays.next {B:Nat}{w w':World}{v:Value}{xs:List Wy}(h:HWays B w v xs)(k:Nx w w'):HWays B w' v xs:=h.keep (k.keeps B)
def OwnV (C D:Nat)(w:World)(v:Value)(ws:List (List Int)):Prop:=
 ∃cs:List Value,w.ownsRow C 51 1 v ws.length cs/\∀i,i<ws.length->OwnI D w (vat cs i) (wd ws i)
theorem OwnV.next {C D:Nat}{w w':World}{v:Value}{ws:List (List Int)}(h:OwnV C D w v ws)(k:Nx w w'):OwnV C D w' v ws:=by
 obtain⟨cs,h1,h2⟩:=h
 refine⟨cs,?_,λi hi=>(h2 i hi).next k⟩
 obtain⟨h3,h4⟩:=h1
 refine⟨h3,?_⟩
 rcases h4 with h4|⟨g,cap,cur,hv,hg,hh,r⟩
 ·exact Or.inl h4
 ·exact Or.inr ⟨g,cap,cur,hv,hg,(k.block g (Array.getElem?_eq_some_iff.1 hh).1).trans hh,r⟩
theorem OwnV.own {C D:Nat}{w:World}{v:Value}{ws:List (List Int)}(h:OwnV C D w v ws)(hD:D<=C):OwnW D w v ws:=by
 obtain⟨cs,h1,h2⟩:=h
 refine⟨cs,?_,h2⟩
 obtain⟨h3,h4⟩:=h1
 refine⟨h3,?_⟩
 rcases h4 with h4|⟨g,cap,cur,hv,hg,r⟩
 ·exact Or.inl h4
 ·exact Or.inr ⟨g,cap,cur,hv,by omega,r⟩
theorem ownV_none (D:Nat)(w:World):OwnV w.heap.size D (w.alloc (.cells #[] 51)) (.slice (some ⟨w.heap.size,0,none⟩) 0 0) []:=
 ⟨[],⟨rfl,.inr ⟨w.heap.size,0,#[],rfl,Nat.le_refl _,by show(w.heap.push _)[w.heap.size]?=_;simp,Nat.le_refl _,by simp[maxLen],by simp,by simp⟩⟩,λi hi=>absurd hi (Nat.not_lt_zero _)⟩
theorem OwnV.snoc {C D:Nat}{w w':World}{v v' u:Value}{ws:List (List Int)}{x:List Int}{cs:List Value}(h1:w.ownsRow C 51 1 v ws.length cs)(h2:∀i,i<ws.length->OwnI D w (vat cs i) (wd ws i))
  (hu:OwnI D w u x) (ho:Obj) (hg:(w.alloc ho).grownBy w' v.ownBlock) (hn:w'.ownsRow C 51 1 v' (ws.length+1) (cs++[u])):OwnV C D w' v' (ws++[x]):=by
 have hl:cs.length=ws.length:=by have:=h1.1;omega
 have kept:∀{z:Value}{zs:List Int},OwnI D w z zs->OwnI D w' z zs:=λ{z zs} hz=>World.ownsRow.kept (World.ownsRow.alloc hz ho) hg (own_ne hz h1 (by decide))
 refine⟨cs++[u],by rw[List.length_append];exact hn,λi hi=>?_⟩
 rw[List.length_append,List.length_singleton] at hi
 by_cases e:i<ws.length
 ·rw[wd_snoc e]
  have:vat (cs++[u]) i=vat cs i:=by simp[vat,List.getD,List.getElem?_append_left (show i<cs.length by omega)]
  rw[this]
  exact kept (h2 i e)
 ·have e':i=ws.length:=by omega
  rw[wd_end e']
  have:vat (cs++[u]) i=u:=by rw[e',<-hl];simp[vat,List.getD]
  rw[this]
  exact kept hu
theorem sing_wd {F:List Nat}{k:Nat}(hk:k<F.length):wd ((sing F).map nums) k=[((F.getD k 0:Nat):Int)]:=by
 simp[wd,sing,nums,List.getD_eq_getElem?_getD,hk]
theorem filt_yes {F:List Nat}{p:Nat->Bool}{k:Nat}(hk:k<F.length)(h:p (F.getD k 0)=true):(sing ((F.take (k+1)).filter p)).map nums=(sing ((F.take k).filter p)).map nums++[[((F.getD k 0:Nat):Int)]]:=by
 have e:F.getD k 0=F[k]:=by simp[List.getD_eq_getElem?_getD,hk]
 rw[e] at h ⊢
 rw[List.take_succ_eq_append_getElem hk,List.filter_append]
 simp[sing,nums,h]
theorem filt_no {F:List Nat}{p:Nat->Bool}{k:Nat}(hk:k<F.length)(h:p (F.getD k 0)=false):(F.take (k+1)).filter p=(F.take k).filter p:=by
 have e:F.getD k 0=F[k]:=by simp[List.getD_eq_getElem?_getD,hk]
 rw[e] at h
 rw[List.take_succ_eq_append_getElem hk,List.filter_append]
 simp[h]
structure RelIn (N:Nt)(R:Rd)(r:Rl):Prop where
 frm:hasW N.ways r.frm=true
 dst:hasW N.ways r.to=true
 len:r.ways.length<=4
 ways:∀k,k<r.ways.length->hasW N.ways (iat r.ways k)=true
 th:∀i,i<N.ways.length->thTo R.edges i R.edges.length≠[]/\((wat N.ways i).both=true->bkTo R.edges i R.edges.length≠[])
 hd:∀e,e<R.edges.length->0<=(eat R.edges e).head/\(eat R.edges e).head<R.nodes.length
theorem growW_good {N:Nt}{R:Rd}{r:Rl}(h:RelIn N R r)(hm:R.edges.length<=4000):∀k,k<=r.ways.length->(∀l∈growW N R.edges r k,goodL R.edges.length l/\l.length<=1+4000*k)/\(growW N R.edges r k).length<=4000*2 ^ k
 |0,_=>by
  refine⟨λl hl=>?_,?_⟩
  ·have hl':l∈sing (firstsR N R.edges r):=hl
   refine⟨sing_good l hl',?_⟩
   obtain⟨e,_,rfl⟩:=List.mem_map.1 hl'
   simp
  ·show(sing (firstsR N R.edges r)).length<=_
   rw[sing_len]
   have:=ofTo_len R.edges (wpos N.ways r.frm) R.edges.length
   unfold firstsR
   omega
 |k+1,hk=>by
  obtain⟨h1,h2⟩:=growW_good h hm k (by omega)
  have hw:=wpos_lt (h.ways k (by omega))
  have ht:=h.th _ hw
  have h3:=travs_good (N:=N) hm ht.1 ht.2
  have hk4:=h.len
  rw[growW_succ (by omega)]
  refine⟨λl hl=>?_,?_⟩
  ·have:=growL_good h1 h3 (by omega) l hl
   exact⟨this.1,by omega⟩
  ·have a1:=growL_len R.edges (growW N R.edges r k) (travs N R.edges (wpos N.ways (iat r.ways k)))
   have a2:=travs_len N R.edges (wpos N.ways (iat r.ways k))
   have a3:=Nat.mul_le_mul h2 a2
   rw[Nat.pow_succ]
   omega
theorem l2Chains_any (B0 B Bw:Nat)(n0 n1 n2 n3:Value)(N:Nt)(v0 v1 v2 v3:Value)(R:Rd)(r:Rl)(vw:Value)(w:World)(hN:HNet B0 w n0 n1 n2 n3 N)(h0:HRoad B w v0 v1 v2 v3 R)(hw:HInts Bw w vw r.ways)(hm:R.edges.length<=4000)(hR:RelIn N R r) :
  Calls Tryz.prog 74 #[.agg #[n0,n1,n2,n3,.int .i64 N.uturn],.agg #[v0,v1,v2,v3],.agg #[.int .i64 r.id,.bool r.only,.int .i64 r.frm,.int .i64 r.to,.bool r.via,.int .i64 r.node,vw]] w λe w'=>(∃u,e=.returned u/\OwnW w.heap.size w' u ((chainsR N R.nodes R.edges r).map nums))/\Nx w w':=by
 obtain⟨ii,hi,hz0,hz1,hz2⟩:=info_parts infoWord
 have HNET:Hid (HNet B0 w n0 n1 n2 n3 N):=hN
 have HROAD:Hid (HRoad B w v0 v1 v2 v3 R):=h0
 have HW:Hid (HInts Bw w vw r.ways):=hw
 have HR:Hid (RelIn N R r):=hR
 clear hN h0 hR
 obtain⟨a0,q0,e0,jm,jk⟩:=HNET.out.1
 clear jm jk
 obtain⟨a1,q1,e1,jm,jk⟩:=HNET.out.2.1
 clear jm jk
 obtain⟨a2,q2,e2,jm,jk⟩:=HNET.out.2.2.1
 clear jm jk
 obtain⟨a3,q3,e3,jm,jk⟩:=HNET.out.2.2.2
 clear jm jk
 generalize N.nodes.length=l0 at e0
 generalize N.ways.length=l1 at e1
 generalize N.rels.length=l2 at e2
 generalize N.turns.length=l3 at e3
 obtain⟨a4,q4,e4,jm,jk⟩:=HROAD.out.1
 clear jm jk
 obtain⟨a5,q5,e5,jm,jk⟩:=HROAD.out.2.1
 clear jm jk
 obtain⟨a6,q6,e6,jm,jk⟩:=HROAD.out.2.2.1
 clear jm jk
 obtain⟨a7,q7,e7,jm,jk⟩:=HROAD.out.2.2.2
 clear jm jk
 generalize R.nodes.length=l4 at e4
 generalize R.edges.length=l5 at e5
 generalize R.first.length=l6 at e6
 generalize R.out.length=l7 at e7
 obtain⟨aw,qw,ew,jm,jk⟩:=hw
 clear jm jk
 generalize r.ways.length=lw at ew
 subst e0 e1 e2 e3 e4 e5 e6 e7 ew
 generalize hW1:((w.alloc (.cells #[.slice a0 l0 q0,.slice a1 l1 q1,.slice a2 l2 q2,.slice a3 l3 q3,.int .i64 N.uturn] 86)).alloc (.cells #[.slice a4 l4 q4,.slice a5 l5 q5,.slice a6 l6 q6,.slice a7 l7 q7] 106)).alloc (.cells #[.int .i64 r.id,.bool r.only,.int .i64 r.frm,.int .i64 r.to,.bool r.via,.int .i64 r.node,.slice aw lw qw] 109)=w1
 have HX1:Hid (Nx w w1):=by unfold Hid;rw[<-hW1];exact(box2 _ _ _).alloc _
 have BN:Hid (Blk w1 w.heap.size #[.slice a0 l0 q0,.slice a1 l1 q1,.slice a2 l2 q2,.slice a3 l3 q3,.int .i64 N.uturn]):=by unfold Hid;rw[<-hW1];exact((Blk.new w _ _ _ rfl).alloc _).alloc _
 have BR:Hid (Blk w1 (w.heap.size+1) #[.slice a4 l4 q4,.slice a5 l5 q5,.slice a6 l6 q6,.slice a7 l7 q7]):=by unfold Hid;rw[<-hW1];exact(Blk.new _ _ _ _ (by rw[size_alloc'])).alloc _
 have BL:Hid (Blk w1 (w.heap.size+2) #[.int .i64 r.id,.bool r.only,.int .i64 r.frm,.int .i64 r.to,.bool r.via,.int .i64 r.node,.slice aw lw qw]):=by unfold Hid;rw[<-hW1];exact Blk.new _ _ _ _ (by rw[size_alloc',size_alloc'])
 go_enter Tryz.func74,Tryz.ntmps74
 go_upto_region 1 with fail
 clear hW1
 have HFR:=HR.out.frm
 have HTO:=HR.out.dst
 have HX11:Hid (Nx w1 w1):=Below.refl _ _
 have k0:w1.cell? ⟨w.heap.size,0,none⟩=some (.slice a0 l0 q0):=(BN.out.next (Below.refl _ _)).cell (i:=0) rfl
 have k1:w1.cell? ⟨w.heap.size,1,none⟩=some (.slice a1 l1 q1):=(BN.out.next (Below.refl _ _)).cell (i:=1) rfl
 have k2:w1.cell? ⟨w.heap.size,2,none⟩=some (.slice a2 l2 q2):=(BN.out.next (Below.refl _ _)).cell (i:=2) rfl
 have k3:w1.cell? ⟨w.heap.size,3,none⟩=some (.slice a3 l3 q3):=(BN.out.next (Below.refl _ _)).cell (i:=3) rfl
 have k4:w1.cell? ⟨w.heap.size,4,none⟩=some (.int .i64 N.uturn):=(BN.out.next (Below.refl _ _)).cell (i:=4) rfl
 have k5:w1.cell? ⟨w.heap.size+1,0,none⟩=some (.slice a4 l4 q4):=(BR.out.next (Below.refl _ _)).cell (i:=0) rfl
 have k6:w1.cell? ⟨w.heap.size+1,1,none⟩=some (.slice a5 l5 q5):=(BR.out.next (Below.refl _ _)).cell (i:=1) rfl
 have k7:w1.cell? ⟨w.heap.size+1,2,none⟩=some (.slice a6 l6 q6):=(BR.out.next (Below.refl _ _)).cell (i:=2) rfl
 have k8:w1.cell? ⟨w.heap.size+1,3,none⟩=some (.slice a7 l7 q7):=(BR.out.next (Below.refl _ _)).cell (i:=3) rfl
 have kf:=BL.out.cell (i:=2) rfl
 go_region_held3 (λw'=>w'.cell? ⟨w.heap.size,0,none⟩=some (.slice a0 l0 q0)/\w'.cell? ⟨w.heap.size,1,none⟩=some (.slice a1 l1 q1)/\w'.cell? ⟨w.heap.size,2,none⟩=some (.slice a2 l2 q2)/\w'.cell? ⟨w.heap.size,3,none⟩=some (.slice a3 l3 q3)/\w'.cell? ⟨w.heap.size,4,none⟩=some (.int .i64 N.uturn)/\w'.cell? ⟨w.heap.size+1,0,none⟩=some (.slice a4 l4 q4)/\w'.cell? ⟨w.heap.size+1,1,none⟩=some (.slice a5 l5 q5)/\w'.cell? ⟨w.heap.size+1,2,none⟩=some (.slice a6 l6 q6)/\w'.cell? ⟨w.heap.size+1,3,none⟩=some (.slice a7 l7 q7)/\w'.cell? ⟨w.heap.size+2,2,none⟩=some (.int .i64 r.frm)) (first|exact⟨cellq HXbw2.out k0,cellq HXbw2.out k1,cellq HXbw2.out k2,cellq HXbw2.out k3,cellq HXbw2.out k4,cellq HXbw2.out k5,cellq HXbw2.out k6,cellq HXbw2.out k7,cellq HXbw2.out k8,cellq HXbw2.out kf⟩|exact⟨cellq HXaw2.out k0,cellq HXaw2.out k1,cellq HXaw2.out k2,cellq HXaw2.out k3,cellq HXaw2.out k4,cellq HXaw2.out k5,cellq HXaw2.out k6,cellq HXaw2.out k7,cellq HXaw2.out k8,cellq HXaw2.out kf⟩|(go_keep;done)) (first|(go_at_call 73;refine(l1WayAt_pos B0 _ _ _ _ _ _ N.ways _ (by exact HNET.out.2.1.next (HX1.out.trans (Below.refl _ _).drew)) HFR).mono ?_;rintro e waw2 ⟨rfl,hxa⟩;have HXaw2:Hid (Nx w1 waw2):=(Below.refl _ _).drew.trans hxa;clear hxa)|(go_at_call 85;refine(l2Of_any B _ _ _ _ R _ _ (by exact HROAD.out.next (HX1.out.trans HXaw2.out)) hm).mono ?_;rintro e w2 ⟨⟨uf,rfl,hOuf⟩,hxb⟩;have HXbw2:Hid (Nx w1 w2):=HXaw2.out.trans hxb;have HOuf:Hid (OwnW w1.heap.size w2 uf (ones (ofTo R.edges (wpos N.ways r.frm) R.edges.length))):=hOuf.base (by have:=HX11.out.size;have:=HXaw2.out.size;omega);clear hOuf hxb))
 have HXw2:Hid (Nx w w2):=HX1.out.trans HXbw2.out
 have HX1w2:Hid (Nx w1 w2):=HXbw2.out
 have HLF:Hid (ones (ofTo R.edges (wpos N.ways r.frm) R.edges.length)=(sing (firstsR N R.edges r)).map nums):=ones_sing _
 have HLT:Hid (ones (ofTo R.edges (wpos N.ways r.to) R.edges.length)=(sing (lastsR N R.edges r)).map nums):=ones_sing _
 obtain⟨fa,fc,hfe⟩:=HOuf.out.slice
 generalize hfl:(ones (ofTo R.edges (wpos N.ways r.frm) R.edges.length)).length=fl at hfe
 have HFL:Hid ((ones (ofTo R.edges (wpos N.ways r.frm) R.edges.length)).length=fl):=hfl
 subst hfe
 clear k0 k1 k2 k3 k4 k5 k6 k7 k8 kf hfl
 have k0:w2.cell? ⟨w.heap.size,0,none⟩=some (.slice a0 l0 q0):=(BN.out.next HX1w2.out).cell (i:=0) rfl
 have k1:w2.cell? ⟨w.heap.size,1,none⟩=some (.slice a1 l1 q1):=(BN.out.next HX1w2.out).cell (i:=1) rfl
 have k2:w2.cell? ⟨w.heap.size,2,none⟩=some (.slice a2 l2 q2):=(BN.out.next HX1w2.out).cell (i:=2) rfl
 have k3:w2.cell? ⟨w.heap.size,3,none⟩=some (.slice a3 l3 q3):=(BN.out.next HX1w2.out).cell (i:=3) rfl
 have k4:w2.cell? ⟨w.heap.size,4,none⟩=some (.int .i64 N.uturn):=(BN.out.next HX1w2.out).cell (i:=4) rfl
 have k5:w2.cell? ⟨w.heap.size+1,0,none⟩=some (.slice a4 l4 q4):=(BR.out.next HX1w2.out).cell (i:=0) rfl
 have k6:w2.cell? ⟨w.heap.size+1,1,none⟩=some (.slice a5 l5 q5):=(BR.out.next HX1w2.out).cell (i:=1) rfl
 have k7:w2.cell? ⟨w.heap.size+1,2,none⟩=some (.slice a6 l6 q6):=(BR.out.next HX1w2.out).cell (i:=2) rfl
 have k8:w2.cell? ⟨w.heap.size+1,3,none⟩=some (.slice a7 l7 q7):=(BR.out.next HX1w2.out).cell (i:=3) rfl
 have kf:=(BL.out.next HX1w2.out).cell (i:=3) rfl
 go_wp2
 go_region_held3 (λw'=>w'.cell? ⟨w.heap.size,0,none⟩=some (.slice a0 l0 q0)/\w'.cell? ⟨w.heap.size,1,none⟩=some (.slice a1 l1 q1)/\w'.cell? ⟨w.heap.size,2,none⟩=some (.slice a2 l2 q2)/\w'.cell? ⟨w.heap.size,3,none⟩=some (.slice a3 l3 q3)/\w'.cell? ⟨w.heap.size,4,none⟩=some (.int .i64 N.uturn)/\w'.cell? ⟨w.heap.size+1,0,none⟩=some (.slice a4 l4 q4)/\w'.cell? ⟨w.heap.size+1,1,none⟩=some (.slice a5 l5 q5)/\w'.cell? ⟨w.heap.size+1,2,none⟩=some (.slice a6 l6 q6)/\w'.cell? ⟨w.heap.size+1,3,none⟩=some (.slice a7 l7 q7)/\w'.cell? ⟨w.heap.size+2,3,none⟩=some (.int .i64 r.to)) (first|exact⟨cellq HXbw3.out k0,cellq HXbw3.out k1,cellq HXbw3.out k2,cellq HXbw3.out k3,cellq HXbw3.out k4,cellq HXbw3.out k5,cellq HXbw3.out k6,cellq HXbw3.out k7,cellq HXbw3.out k8,cellq HXbw3.out kf⟩|exact⟨cellq HXaw3.out k0,cellq HXaw3.out k1,cellq HXaw3.out k2,cellq HXaw3.out k3,cellq HXaw3.out k4,cellq HXaw3.out k5,cellq HXaw3.out k6,cellq HXaw3.out k7,cellq HXaw3.out k8,cellq HXaw3.out kf⟩|(go_keep;done)) (first|(go_at_call 73;refine(l1WayAt_pos B0 _ _ _ _ _ _ N.ways _ (by exact HNET.out.2.1.next (HXw2.out.trans (Below.refl _ _).drew)) HTO).mono ?_;rintro e waw3 ⟨rfl,hxa⟩;have HXaw3:Hid (Nx w2 waw3):=(Below.refl _ _).drew.trans hxa;clear hxa)|(go_at_call 85;refine(l2Of_any B _ _ _ _ R _ _ (by exact HROAD.out.next (HXw2.out.trans HXaw3.out)) hm).mono ?_;rintro e w3 ⟨⟨ut,rfl,hOut⟩,hxb⟩;have HXbw3:Hid (Nx w2 w3):=HXaw3.out.trans hxb;have HOut:Hid (OwnW w1.heap.size w3 ut (ones (ofTo R.edges (wpos N.ways r.to) R.edges.length))):=hOut.base (by have:=HX1w2.out.size;have:=HXaw3.out.size;omega);clear hOut hxb))
 have HXw3:Hid (Nx w w3):=HXw2.out.trans HXbw3.out
 have HX1w3:Hid (Nx w1 w3):=HX1w2.out.trans HXbw3.out
 have HOF:Hid (OwnW w1.heap.size w3 (.slice fa fl fc) ((sing (firstsR N R.edges r)).map nums)):=by have:=HOuf.out.next HXbw3.out;rw[HLF.out] at this;exact this
 have HOT:Hid (OwnW w1.heap.size w3 ut ((sing (lastsR N R.edges r)).map nums)):=by have:=HOut.out;rw[HLT.out] at this;exact this
 have hfl4:fl<=4000:=by rw[<-HFL.out,ones_len];have:=ofTo_len R.edges (wpos N.ways r.frm) R.edges.length;omega
 have HFLS:Hid ((sing (firstsR N R.edges r)).length=fl):=by have:=HFL.out;rw[HLF.out,List.length_map] at this;exact this
 obtain⟨ta,tc,hte⟩:=HOT.out.slice
 generalize htl:((sing (lastsR N R.edges r)).map nums).length=tl at hte
 have HTL:Hid ((sing (lastsR N R.edges r)).length=tl):=by rw[List.length_map] at htl;exact htl
 have htl4:tl<=4000:=by rw[<-HTL.out,sing_len];have:=ofTo_len R.edges (wpos N.ways r.to) R.edges.length;unfold lastsR;omega
 subst hte
 clear k0 k1 k2 k3 k4 k5 k6 k7 k8 kf htl HOuf HOut HLF HLT HFL
 have kv:=(BL.out.next HX1w3.out).cell (i:=4) rfl
 have HCH:Hid (chainsR N R.nodes R.edges r=if r.via then growL R.edges (sing ((firstsR N R.edges r).filter (atNode R.nodes R.edges r.node))) (sing (lastsR N R.edges r)) else growL R.edges (growW N R.edges r r.ways.length) (sing (lastsR N R.edges r))):=rfl
 cases hvia:r.via
 ·rw[hvia] at kv HCH
  have HCH2:Hid (chainsR N R.nodes R.edges r=growL R.edges (growW N R.edges r r.ways.length) (sing (lastsR N R.edges r))):=by unfold Hid;rw[HCH.out];rfl
  clear HCH hvia
  have HWL:Hid (r.ways.length=lw):=ints_len HW.out
  have hlw4:lw<=4:=by rw[<-HWL.out];exact HR.out.len
  go_wp2
  go_loopw [7,11] (λu i wr=>∃k:Nat,k<=lw/\i=.int .i64 k/\Hid (OwnW w1.heap.size wr u ((growW N R.edges r k).map nums))/\Hid (Nx w1 wr)/\Hid (OwnW w1.heap.size wr (.slice ta tl tc) ((sing (lastsR N R.edges r)).map nums))) (λ_ i _=>lw-(intOf i).toNat)
  case atStart=>exact⟨0,Nat.zero_le _,rfl,HOF,HX1w3,HOT⟩
  clear HOF HOT kv
  obtain⟨k,hkm,rfl,HO,HN,HOT⟩:=hrel
  have HXr:Hid (Nx w wr):=HX1.out.trans HN.out
  obtain⟨ga,gc,hge⟩:=HO.out.slice
  generalize hgl:((growW N R.edges r k).map nums).length=gl at hge
  subst hge
  have HGG:=growW_good HR.out hm k (by rw[HWL.out];exact hkm)
  have HGL:Hid ((growW N R.edges r k).length<=1000000/\∀l∈growW N R.edges r k,goodL R.edges.length l):=by
   refine⟨?_,λl hl=>(HGG.1 l hl).1⟩
   have h1:=HGG.2
   have h2:2 ^ k<=2 ^ 4:=Nat.pow_le_pow_right (by decide) (by omega)
   omega
  clear hgl HGG
  have kl:=(BL.out.next HN.out).cell (i:=6) rfl
  have k0:wr.cell? ⟨w.heap.size,0,none⟩=some (.slice a0 l0 q0):=(BN.out.next HN.out).cell (i:=0) rfl
  have k1:wr.cell? ⟨w.heap.size,1,none⟩=some (.slice a1 l1 q1):=(BN.out.next HN.out).cell (i:=1) rfl
  have k2:wr.cell? ⟨w.heap.size,2,none⟩=some (.slice a2 l2 q2):=(BN.out.next HN.out).cell (i:=2) rfl
  have k3:wr.cell? ⟨w.heap.size,3,none⟩=some (.slice a3 l3 q3):=(BN.out.next HN.out).cell (i:=3) rfl
  have k4:wr.cell? ⟨w.heap.size,4,none⟩=some (.int .i64 N.uturn):=(BN.out.next HN.out).cell (i:=4) rfl
  have k5:wr.cell? ⟨w.heap.size+1,0,none⟩=some (.slice a4 l4 q4):=(BR.out.next HN.out).cell (i:=0) rfl
  have k6:wr.cell? ⟨w.heap.size+1,1,none⟩=some (.slice a5 l5 q5):=(BR.out.next HN.out).cell (i:=1) rfl
  have k7:wr.cell? ⟨w.heap.size+1,2,none⟩=some (.slice a6 l6 q6):=(BR.out.next HN.out).cell (i:=2) rfl
  have k8:wr.cell? ⟨w.heap.size+1,3,none⟩=some (.slice a7 l7 q7):=(BR.out.next HN.out).cell (i:=3) rfl
  by_cases hlt:k<lw
  ·have hlt':(k:Int)<lw:=by omega
   have HKW:Hid (k<r.ways.length):=by unfold Hid;rw[HWL.out];exact hlt
   have HES:Hid (growW N R.edges r (k+1)=growL R.edges (growW N R.edges r k) (travs N R.edges (wpos N.ways (iat r.ways k)))):=growW_succ HKW.out
   have hway:=HR.out.ways k HKW.out
   have HWP:Hid (wpos N.ways (iat r.ways k)<N.ways.length):=wpos_lt hway
   have HTG:Hid (∀l∈travs N R.edges (wpos N.ways (iat r.ways k)),goodL R.edges.length l):=λl hl=>(travs_good hm (HR.out.th _ HWP.out).1 (HR.out.th _ HWP.out).2 l hl).1
   obtain⟨bw,ow,haw,hbw,hcw⟩:=cell_of' HW.out HXr.out hlt
   subst haw
   have kw:wr.cell? ⟨bw,ow+k,none⟩=some (.int .i64 (iat r.ways k)):=hcw
   have HWAY:Hid (hasW N.ways (iat r.ways k)=true):=hway
   clear hcw hway
   generalize iat r.ways k=wid at *
   go_wp2
   go_region_held3 (λw'=>w'.cell? ⟨w.heap.size,0,none⟩=some (.slice a0 l0 q0)/\w'.cell? ⟨w.heap.size,1,none⟩=some (.slice a1 l1 q1)/\w'.cell? ⟨w.heap.size,2,none⟩=some (.slice a2 l2 q2)/\w'.cell? ⟨w.heap.size,3,none⟩=some (.slice a3 l3 q3)/\w'.cell? ⟨w.heap.size,4,none⟩=some (.int .i64 N.uturn)/\w'.cell? ⟨w.heap.size+1,0,none⟩=some (.slice a4 l4 q4)/\w'.cell? ⟨w.heap.size+1,1,none⟩=some (.slice a5 l5 q5)/\w'.cell? ⟨w.heap.size+1,2,none⟩=some (.slice a6 l6 q6)/\w'.cell? ⟨w.heap.size+1,3,none⟩=some (.slice a7 l7 q7)/\w'.cell? ⟨w.heap.size+2,6,none⟩=some (.slice (some ⟨bw,ow,none⟩) lw qw)/\w'.cell? ⟨bw,ow+k,none⟩=some (.int .i64 wid)) (first|exact⟨cellq HXc.out k0,cellq HXc.out k1,cellq HXc.out k2,cellq HXc.out k3,cellq HXc.out k4,cellq HXc.out k5,cellq HXc.out k6,cellq HXc.out k7,cellq HXc.out k8,cellq HXc.out kl,cellq HXc.out kw⟩|exact⟨cellq HXb.out k0,cellq HXb.out k1,cellq HXb.out k2,cellq HXb.out k3,cellq HXb.out k4,cellq HXb.out k5,cellq HXb.out k6,cellq HXb.out k7,cellq HXb.out k8,cellq HXb.out kl,cellq HXb.out kw⟩|exact⟨cellq HXa.out k0,cellq HXa.out k1,cellq HXa.out k2,cellq HXa.out k3,cellq HXa.out k4,cellq HXa.out k5,cellq HXa.out k6,cellq HXa.out k7,cellq HXa.out k8,cellq HXa.out kl,cellq HXa.out kw⟩|(go_keep;done)) (first|(go_at_call 73;refine(l1WayAt_pos B0 _ _ _ _ _ _ N.ways _ (by exact HNET.out.2.1.next (HXr.out.trans (Below.refl _ _).drew)) HWAY.out).mono ?_;rintro e wa ⟨rfl,hxa⟩;have HXa:Hid (Nx wr wa):=(Below.refl _ _).drew.trans hxa;clear hxa)|(go_at_call 80;refine(l2Traversals_any B0 B _ _ _ _ N _ _ _ _ R _ _ (by exact HNET.out.next (HXr.out.trans HXa.out)) (by exact HROAD.out.next (HXr.out.trans HXa.out)) hm HWP.out).mono ?_;rintro e wb ⟨⟨ub,rfl,hOb⟩,hxb⟩;have HXb:Hid (Nx wr wb):=HXa.out.trans hxb;have HOb:Hid (OwnW wa.heap.size wb ub ((travs N R.edges (wpos N.ways wid)).map nums)):=hOb;clear hOb hxb)|(go_at_call 86;refine(l2Grow_any B w1.heap.size wa.heap.size _ _ _ _ _ _ R (growW N R.edges r k) (travs N R.edges (wpos N.ways wid)) _ (by exact HROAD.out.next (HXr.out.trans HXb.out)) hm (by exact(HO.out.next HXb.out).held) (by exact HOb.out.held) HGL.out.2 HTG.out HGL.out.1 (by have:=travs_len N R.edges (wpos N.ways wid);omega)).mono ?_;rintro e wc ⟨⟨uc,rfl,hOc⟩,hxc⟩;have HXc:Hid (Nx wr wc):=HXb.out.trans hxc;have HOc:Hid (OwnW w1.heap.size wc uc ((growW N R.edges r (k+1)).map nums)):=(by unfold Hid;rw[HES.out];exact hOc.base (by have:=HN.out.size;have:=HXb.out.size;omega));clear hOc hxc))
   all_goals
    clear k0 k1 k2 k3 k4 k5 k6 k7 k8 kl kw
    go_wp2
    go_roundw
    case rel=>exact⟨k+1,by omega,by go_num,HOc,HN.out.trans HXc.out,HOT.out.next HXc.out⟩
    case measure=>simp[intOf];omega
  ·have ek:lw=k:=by omega
   subst ek
   have HF:Hid (growL R.edges (growW N R.edges r lw) (sing (lastsR N R.edges r))=chainsR N R.nodes R.edges r):=by unfold Hid;rw[HCH2.out,HWL.out]
   clear hlt hkm
   go_wp2_with fail
   refine(l2Grow_any B w1.heap.size w1.heap.size _ _ _ _ _ _ R (growW N R.edges r lw) (sing (lastsR N R.edges r)) _ (by exact HROAD.out.next HXr.out) hm (by exact HO.out.held) (by exact HOT.out.held) HGL.out.2 (λl hl=>sing_good l hl) HGL.out.1 (by rw[HTL.out];omega)).mono ?_
   rintro e wc ⟨⟨uc,rfl,hOc⟩,hxc⟩
   rw[HF.out] at hOc
   have HOc:Hid (OwnW w.heap.size wc uc ((chainsR N R.nodes R.edges r).map nums)):=hOc.base (HXr.out.size)
   have HXc:Hid (Nx w wc):=HXr.out.trans hxc
   clear hOc hxc k0 k1 k2 k3 k4 k5 k6 k7 k8 kl
   go_wp2
   go_ret
   exact⟨⟨_,rfl,HOc.out⟩,HXc.out⟩
 ·rw[hvia] at kv HCH
  have HCH2:Hid (chainsR N R.nodes R.edges r=growL R.edges (sing ((firstsR N R.edges r).filter (atNode R.nodes R.edges r.node))) (sing (lastsR N R.edges r))):=by unfold Hid;rw[HCH.out];rfl
  clear HCH hvia
  have HFM:Hid (∀k,k<fl->(firstsR N R.edges r).getD k 0<R.edges.length):=λk hk=>by
   have hk':k<(firstsR N R.edges r).length:=by have:=HFLS.out;rw[sing_len] at this;omega
   have e:(firstsR N R.edges r).getD k 0=(firstsR N R.edges r)[k]:=by simp[List.getD_eq_getElem?_getD,hk']
   rw[e]
   have:=List.getElem_mem hk'
   unfold firstsR ofTo at this
   exact List.mem_range.1 (List.mem_filter.1 this).1
  have HFN:Hid ((firstsR N R.edges r).length=fl):=by have:=HFLS.out;rw[sing_len] at this;exact this
  generalize firstsR N R.edges r=F at *
  go_wp2
  go_loopw [9,10] (λu i wr=>∃k:Nat,k<=fl/\i=.int .i64 k/\Hid (OwnV w3.heap.size w1.heap.size wr u ((sing ((F.take k).filter (atNode R.nodes R.edges r.node))).map nums))/\Hid (Nx w3 wr)) (λ_ i _=>fl-(intOf i).toNat)
  case atStart=>exact⟨0,Nat.zero_le _,rfl,ownV_none w1.heap.size w3,box1 _ _⟩
  clear kv
  obtain⟨k,hkm,rfl,HO,HN3⟩:=hrel
  have HN:Hid (Nx w1 wr):=HX1w3.out.trans HN3.out
  have HXr:Hid (Nx w wr):=HX1.out.trans HN.out
  have HOFr:Hid (OwnW w1.heap.size wr (.slice fa fl fc) ((sing F).map nums)):=HOF.out.next HN3.out
  have HOTr:Hid (OwnW w1.heap.size wr (.slice ta tl tc) ((sing (lastsR N R.edges r)).map nums)):=HOT.out.next HN3.out
  have k0:wr.cell? ⟨w.heap.size,0,none⟩=some (.slice a0 l0 q0):=(BN.out.next HN.out).cell (i:=0) rfl
  have k1:wr.cell? ⟨w.heap.size,1,none⟩=some (.slice a1 l1 q1):=(BN.out.next HN.out).cell (i:=1) rfl
  have k2:wr.cell? ⟨w.heap.size,2,none⟩=some (.slice a2 l2 q2):=(BN.out.next HN.out).cell (i:=2) rfl
  have k3:wr.cell? ⟨w.heap.size,3,none⟩=some (.slice a3 l3 q3):=(BN.out.next HN.out).cell (i:=3) rfl
  have k4:wr.cell? ⟨w.heap.size,4,none⟩=some (.int .i64 N.uturn):=(BN.out.next HN.out).cell (i:=4) rfl
  have k5:wr.cell? ⟨w.heap.size+1,0,none⟩=some (.slice a4 l4 q4):=(BR.out.next HN.out).cell (i:=0) rfl
  have k6:wr.cell? ⟨w.heap.size+1,1,none⟩=some (.slice a5 l5 q5):=(BR.out.next HN.out).cell (i:=1) rfl
  have k7:wr.cell? ⟨w.heap.size+1,2,none⟩=some (.slice a6 l6 q6):=(BR.out.next HN.out).cell (i:=2) rfl
  have k8:wr.cell? ⟨w.heap.size+1,3,none⟩=some (.slice a7 l7 q7):=(BR.out.next HN.out).cell (i:=3) rfl
  by_cases hlt:k<fl
  case neg=>
   have ek:fl=k:=by omega
   subst ek
   have HO:=HO.out.own HX1w3.out.size
   have HO:Hid (OwnW w1.heap.size wr u9 ((sing ((F.take fl).filter (atNode R.nodes R.edges r.node))).map nums)):=HO
   obtain⟨ua,uc,hue⟩:=HO.out.slice
   generalize hul:((sing ((F.take fl).filter (atNode R.nodes R.edges r.node))).map nums).length=ul at hue
   subst hue
   have HTA:Hid (F.take fl=F):=by unfold Hid;rw[<-HFN.out,List.take_length]
   have HUL:Hid ((sing ((F.take fl).filter (atNode R.nodes R.edges r.node))).length<=1000000/\∀l∈sing ((F.take fl).filter (atNode R.nodes R.edges r.node)),goodL R.edges.length l):=by
    rw[HTA.out]
    refine⟨?_,λl hl=>?_⟩
    ·rw[sing_len]
     have:=List.length_filter_le (atNode R.nodes R.edges r.node) F
     have:=HFN.out
     omega
    ·obtain⟨e,he,rfl⟩:=List.mem_map.1 hl
     refine⟨by simp,by simp,λx hx=>?_⟩
     have hxe:x=e:=by simpa using hx
     subst hxe
     obtain⟨j,hj,hje⟩:=List.mem_iff_getElem.1 (List.mem_filter.1 he).1
     have:=HFM.out j (by rw[<-HFN.out];exact hj)
     rw[show F.getD j 0=F[j] by simp[List.getD_eq_getElem?_getD,hj],hje] at this
     exact this
   have HF:Hid (growL R.edges (sing ((F.take fl).filter (atNode R.nodes R.edges r.node))) (sing (lastsR N R.edges r))=chainsR N R.nodes R.edges r):=by unfold Hid;rw[HCH2.out,HTA.out]
   clear hlt hkm hul
   go_wp2_with fail
   refine(l2Grow_any B w1.heap.size w1.heap.size _ _ _ _ _ _ R _ (sing (lastsR N R.edges r)) _ (by exact HROAD.out.next HXr.out) hm (by exact HO.out.held) (by exact HOTr.out.held) HUL.out.2 (λl hl=>sing_good l hl) HUL.out.1 (by rw[HTL.out];omega)).mono ?_
   rintro e wc ⟨⟨uc,rfl,hOc⟩,hxc⟩
   rw[HF.out] at hOc
   have HOc:Hid (OwnW w.heap.size wc uc ((chainsR N R.nodes R.edges r).map nums)):=hOc.base (HXr.out.size)
   have HXc:Hid (Nx w wc):=HXr.out.trans hxc
   clear hOc hxc k0 k1 k2 k3 k4 k5 k6 k7 k8
   go_wp2
   go_ret
   exact⟨⟨_,rfl,HOc.out⟩,HXc.out⟩
  have hlt':(k:Int)<fl:=by omega
  have HKF:Hid (k<F.length):=by unfold Hid;rw[HFN.out];exact hlt
  have HFE:=HFM.out k hlt
  have HYES:Hid (atNode R.nodes R.edges r.node (F.getD k 0)=true->(sing ((F.take (k+1)).filter (atNode R.nodes R.edges r.node))).map nums=(sing ((F.take k).filter (atNode R.nodes R.edges r.node))).map nums++[[((F.getD k 0:Nat):Int)]]):=λh=>filt_yes HKF.out h
  have HNO:Hid (atNode R.nodes R.edges r.node (F.getD k 0)=false->(F.take (k+1)).filter (atNode R.nodes R.edges r.node)=(F.take k).filter (atNode R.nodes R.edges r.node)):=λh=>filt_no HKF.out h
  obtain⟨gf,uk,hfa,hck,hOk⟩:=HOFr.out.at (i:=k) (by rw[List.length_map,sing_len];exact HKF.out)
  rw[sing_wd HKF.out] at hOk
  subst hfa
  have HOK:Hid (OwnI w1.heap.size wr uk [((F.getD k 0:Nat):Int)]):=hOk
  obtain⟨wa,wcp,hue⟩:=hOk.slice
  simp only[List.length_singleton] at hue
  subst hue
  obtain⟨gw,hwa,hc0⟩:∃gw,wa=some ⟨gw,0,none⟩/\wr.cell? ⟨gw,0,none⟩=some (.int .i64 ((F.getD k 0:Nat):Int)):=by
   rcases hOk.opened with⟨e,h2⟩|⟨g,cap,e,_,_,hr⟩
   ·simp at h2
   ·simp only[Value.slice.injEq] at e
    exact⟨g,e.1,hr.cell (i:=0) (by simp)⟩
  subst hwa
  obtain⟨ez,be,oe,ha5,hbe,hce⟩:=HEdges.at' HROAD.out.2.1 (by omega)
  subst ha5
  have z1:=(hce _ HFE).2.1
  have hh:=HR.out.hd _ HFE
  have HAT:Hid (atNode R.nodes R.edges r.node (F.getD k 0)=decide (iat R.nodes (eat R.edges (F.getD k 0)).head.toNat=r.node)):=rfl
  generalize F.getD k 0=fe at *
  obtain⟨hn,hhn⟩:∃hn:Nat,(eat R.edges fe).head=(hn:Int):=⟨(eat R.edges fe).head.toNat,by omega⟩
  rw[hhn] at z1 HAT hh
  rw[Int.toNat_natCast] at HAT
  have HNL:Hid (R.nodes.length=l4):=ints_len HROAD.out.1
  have hn4:hn<l4:=by have:=HNL.out;omega
  obtain⟨bn,on,ha4,hbn,hcn⟩:=cell_of' HROAD.out.1 HXr.out hn4
  subst ha4
  have hm5:(fe:Int)<l5:=by omega
  have hn4':(hn:Int)<l4:=by omega
  have a1:=cellq HXr.out z1
  have kn:=(BL.out.next HN.out).cell (i:=5) rfl
  clear hce z1 hh ez hhn hOk
  generalize iat R.nodes hn=nd at *
  by_cases hat:nd=r.node
  case neg=>
   have g1:(nd==r.node)=false:=by simpa using hat
   have HE2:=HNO.out (by rw[HAT.out];simpa using hat)
   have HE3:Hid ((F.take (k+1)).filter (atNode R.nodes R.edges r.node)=(F.take k).filter (atNode R.nodes R.edges r.node)):=HE2
   clear hat HE2
   go_upto_region 8 with fail
   go_quiet (fail)
   have HDQ:Hid (Nx wr (wr.drewN nq)):=nx_drewN _ _
   generalize wr.drewN nq=wq at *
   clear k0 k1 k2 k3 k4 k5 k6 k7 k8 a1 kn hcn hc0 hck
   go_wp2
   go_roundw
   case rel=>exact⟨k+1,by omega,by go_num,by unfold Hid;rw[HE3.out];exact HO.out.next HDQ.out,HN3.out.trans HDQ.out⟩
   case measure=>simp[intOf];omega
  have g1:(nd==r.node)=true:=by simpa using hat
  have HES:Hid ((sing ((F.take (k+1)).filter (atNode R.nodes R.edges r.node))).map nums=(sing ((F.take k).filter (atNode R.nodes R.edges r.node))).map nums++[[(fe:Int)]]):=HYES.out (by rw[HAT.out];simpa using hat)
  have HLN:Hid (((sing ((F.take k).filter (atNode R.nodes R.edges r.node))).map nums).length<=4000):=by
   unfold Hid
   rw[List.length_map,sing_len]
   have:=List.length_filter_le (atNode R.nodes R.edges r.node) (F.take k)
   rw[List.length_take] at this
   omega
  clear hat
  go_upto_region 8 with fail
  go_quiet (fail)
  have HDQ:Hid (Nx wr (wr.drewN nq)):=nx_drewN _ _
  generalize wr.drewN nq=wq at *
  have hckq:=cellq HDQ.out hck
  have HOKq:Hid (OwnI w1.heap.size wq (.slice (some ⟨gw,0,none⟩) 1 wcp) [(fe:Int)]):=HOK.out.next HDQ.out
  have HOq:Hid (OwnV w3.heap.size w1.heap.size wq u9 ((sing ((F.take k).filter (atNode R.nodes R.edges r.node))).map nums)):=HO.out.next HDQ.out
  have HNq:Hid (Nx w1 wq):=HN.out.trans HDQ.out
  have HN3q:Hid (Nx w3 wq):=HN3.out.trans HDQ.out
  clear k0 k1 k2 k3 k4 k5 k6 k7 k8 a1 kn hcn hc0 hck HOK HO
  generalize (sing ((F.take k).filter (atNode R.nodes R.edges r.node))).map nums=ws at *
  obtain⟨cs,hrow,hwords⟩:=HOq.out
  have HROW:Hid (wq.ownsRow w3.heap.size 51 1 u9 ws.length cs):=hrow
  have HWD:Hid (∀i,i<ws.length->OwnI w1.heap.size wq (vat cs i) (wd ws i)):=hwords
  obtain⟨ua,uc,hue⟩:=(HOq.out.own HX1w3.out.size).slice
  subst hue
  generalize hwl:ws.length=wl at *
  have HWL2:Hid (ws.length=wl):=hwl
  have hwl4:wl<=4000:=HLN.out
  have HSQ:Hid (w3.heap.size<=wq.heap.size):=HN3q.out.size
  clear hrow hwords hwl
  go_wp2_with (at_builtin;refine wpList_append_own_at _ rfl _ _ 48 rfl w3.heap.size 51 ii (.agg #[.slice none 0 0]) 1 24 Tryz.underlying48 hi hz0 hz1 hz2 rfl (by decide) _ _ _ rfl (World.ownsRow.alloc HROW.out _) ⟨wq.heap.size,0,none⟩ 1 1 [.slice (some ⟨gw,0,none⟩) 1 wcp] rfl rfl ?e1 ?e2 ?e3 ?e4 ?e5 ?_)
  case e1=>intro j u hj;exact new_cells _ _ _ _ rfl j u hj
  case e2=>intro u hu;simp at hu;subst hu;rfl
  case e3=>unfold maxLen;omega
  case e4=>omega
  case e5=>rw[size_alloc'];have:=HSQ.out;omega
  intro v7 w7 hown hgrow _ hat7
  have HO7:Hid (OwnV w3.heap.size w1.heap.size w7 v7 ((sing ((F.take (k+1)).filter (atNode R.nodes R.edges r.node))).map nums)):=by unfold Hid;rw[HES.out];exact OwnV.snoc (by rw[HWL2.out];exact HROW.out) (λi hi=>HWD.out i (by rw[<-HWL2.out];exact hi)) HOKq.out _ hgrow (by rw[HWL2.out];exact hown)
  have HN7:Hid (Nx w3 w7):=Below.grown (HN3q.out.alloc _) hgrow (by rw[size_alloc'];have:=HSQ.out;omega) (λg hg=>(own_lt HROW.out g hg).1)
  clear hown hgrow hat7 hckq
  go_wp2
  go_roundw
  case rel=>exact⟨k+1,by omega,by go_num,HO7,HN7⟩
  case measure=>simp[intOf];omega
structure Ru where
 rel:Int
 only:Bool
 seq:List Int
structure Dp where
 rel:Int
 reason:Int
structure Rs where
 rules:List Ru
 drops:List Dp
def ruat (xs:List Ru)(i:Nat):Ru:=xs.getD i ⟨0,false,[]⟩
theorem ruat_eq {xs:List Ru}{i:Nat}(h:i<xs.length):ruat xs i=xs[i]:=by simp[ruat,List.getD,h]
def rpt (rules:List Ru)(only:Bool)(seq:List Int):Bool:=rules.any λu=>u.only==only&&decide (u.seq=seq)
def reason (rules:List Ru)(only:Bool)(ch:List (List Nat)):Int:=
 if ch.length=0 then 1 else if 1<ch.length then 2 else if rpt rules only (nums (lsat ch 0)) then 3 else 0
def resStep (S:Rs)(r:Rl)(ch:List (List Nat)):Rs:=
 if reason S.rules r.only ch=0 then ⟨S.rules++[⟨r.id,r.only,nums (lsat ch 0)⟩],S.drops⟩ else ⟨S.rules,S.drops++[⟨r.id,reason S.rules r.only ch⟩]⟩
def resTo (ch:Rl->List (List Nat))(rels:List Rl):Nat->Rs
 |0=>⟨[],[]⟩
 |k+1=>resStep (resTo ch rels k) (rat rels k) (ch (rat rels k))
theorem resTo_len (ch:Rl->List (List Nat))(rels:List Rl)(k:Nat):(resTo ch rels k).rules.length<=k/\(resTo ch rels k).drops.length<=k:=by
 induction k with
 |zero=>simp[resTo]
 |succ k ih=>
  show(resStep _ _ _).rules.length<=_/\(resStep _ _ _).drops.length<=_
  unfold resStep
  split
  ·simp;omega
  ·simp;omega
theorem infoRule:(Tryz.prog.info? 36).map (λi=>(i.zero,i.size,i.bytes))=some (some (.agg #[.int .i64 0,.bool false,.slice none 0 0]),3,40):=by kernel_rfl
theorem infoDrop:(Tryz.prog.info? 125).map (λi=>(i.zero,i.size,i.bytes))=some (some (.agg #[.int .i64 0,.int .i64 0]),2,16):=by kernel_rfl
def rcell (x:Ru×Value):List Value:=[.int .i64 x.1.rel,.bool x.1.only,x.2]
def rcells (xs:List Ru)(vs:List Value):List Value:=(xs.zip vs).flatMap rcell
structure LnA (vs:List Value)(n:Nat):Prop where
 l:vs.length=n
 ap:∀i j g,i<j->j<n->(vat vs i).ownBlock=some g->(vat vs j).ownBlock≠some g
theorem LnA.snoc {vs:List Value}{u:Value}{n m:Nat}(h:LnA vs n)(hm:m=n+1)(hu:∀i g,i<n->(vat vs i).ownBlock=some g->u.ownBlock≠some g):LnA (vs++[u]) m:=by
 subst hm
 have hl:=h.l
 have a1:∀i,i<n->vat (vs++[u]) i=vat vs i:=λi hi=>by simp[vat,List.getD,List.getElem?_append_left (show i<vs.length by omega)]
 have a2:vat (vs++[u]) n=u:=by rw[<-hl];simp[vat,List.getD]
 refine⟨by simp[hl],λi j g hij hj=>?_⟩
 by_cases c:j<n
 ·rw[a1 i (by omega),a1 j c];exact h.ap i j g hij c
 ·have e:j=n:=by omega
  subst e
  rw[a1 i hij,a2];exact hu i g hij
def OwnR (C D:Nat)(w:World)(v:Value)(xs:List Ru):Prop:=
 ∃vs:List Value,LnA vs xs.length/\w.ownsRow C 36 3 v xs.length (rcells xs vs)/\∀i,i<xs.length->OwnI D w (vat vs i) (ruat xs i).seq
def OwnRb (C D Z:Nat)(w:World)(v:Value)(xs:List Ru):Prop:=
 ∃vs:List Value,(LnA vs xs.length/\∀i g,i<xs.length->(vat vs i).ownBlock=some g->g<Z)/\w.ownsRow C 36 3 v xs.length (rcells xs vs)/\∀i,i<xs.length->OwnI D w (vat vs i) (ruat xs i).seq
def dcells (xs:List Dp):List Value:=xs.flatMap λx=>[.int .i64 x.rel,.int .i64 x.reason]
def OwnD (C:Nat)(w:World)(v:Value)(xs:List Dp):Prop:=w.ownsRow C 125 2 v xs.length (dcells xs)
theorem row_next {C ty sz n:Nat}{w w':World}{v:Value}{xs:List Value}(h:w.ownsRow C ty sz v n xs)(k:Nx w w'):w'.ownsRow C ty sz v n xs:=by
 obtain⟨h1,h2⟩:=h
 refine⟨h1,?_⟩
 rcases h2 with h2|⟨g,cap,cur,hv,hg,hh,r⟩
 ·exact Or.inl h2
 ·exact Or.inr ⟨g,cap,cur,hv,hg,(k.block g (Array.getElem?_eq_some_iff.1 hh).1).trans hh,r⟩
theorem row_slice {C ty sz n:Nat}{w:World}{v:Value}{xs:List Value}(h:w.ownsRow C ty sz v n xs):∃a c,v=.slice a n c:=by
 rcases h.2 with⟨rfl,h2⟩|⟨g,cap,cur,rfl,_⟩
 ·exact⟨none,0,by rw[h2]⟩
 ·exact⟨_,_,rfl⟩
theorem OwnR.next {C D:Nat}{w w':World}{v:Value}{xs:List Ru}(h:OwnR C D w v xs)(k:Nx w w'):OwnR C D w' v xs:=by
 obtain⟨vs,h1,h2,h3⟩:=h
 exact⟨vs,h1,row_next h2 k,λi hi=>(h3 i hi).next k⟩
theorem OwnRb.next {C D Z:Nat}{w w':World}{v:Value}{xs:List Ru}(h:OwnRb C D Z w v xs)(k:Nx w w'):OwnRb C D Z w' v xs:=by
 obtain⟨vs,h1,h2,h3⟩:=h
 exact⟨vs,h1,row_next h2 k,λi hi=>(h3 i hi).next k⟩
theorem OwnRb.r {C D Z:Nat}{w:World}{v:Value}{xs:List Ru}(h:OwnRb C D Z w v xs):OwnR C D w v xs:=by
 obtain⟨vs,h1,h2,h3⟩:=h
 exact⟨vs,h1.1,h2,h3⟩
theorem OwnR.zb {C D Z:Nat}{w:World}{v:Value}{xs:List Ru}(h:OwnR C D w v xs)(hz:w.heap.size<=Z):OwnRb C D Z w v xs:=by
 obtain⟨vs,h1,h2,h3⟩:=h
 exact⟨vs,⟨h1,λi g hi hg=>Nat.lt_of_lt_of_le (own_lt (h3 i hi) g hg).2 hz⟩,h2,h3⟩
theorem OwnD.next {C:Nat}{w w':World}{v:Value}{xs:List Dp}(h:OwnD C w v xs)(k:Nx w w'):OwnD C w' v xs:=row_next h k
theorem rcells_snoc {xs:List Ru}{vs:List Value}(h:vs.length=xs.length)(x:Ru)(u:Value):rcells (xs++[x]) (vs++[u])=rcells xs vs++[.int .i64 x.rel,.bool x.only,u]:=by
 unfold rcells
 rw[List.zip_append h.symm,List.flatMap_append]
 rfl
theorem ruat_snoc {xs:List Ru}{x:Ru}{i:Nat}(h:i<xs.length):ruat (xs++[x]) i=ruat xs i:=by simp[ruat,List.getD,List.getElem?_append_left h]
theorem ruat_end {xs:List Ru}{x:Ru}{i:Nat}(h:i=xs.length):ruat (xs++[x]) i=x:=by subst h;simp[ruat,List.getD]
theorem OwnR.snoc {C D:Nat}{w w':World}{v v' u:Value}{xs:List Ru}{x:Ru}{vs:List Value}(h0:LnA vs xs.length)(h1:w.ownsRow C 36 3 v xs.length (rcells xs vs))(h2:∀i,i<xs.length->OwnI D w (vat vs i) (ruat xs i).seq)
  (hu:OwnI D w u x.seq) (hnw:∀i g,i<xs.length->(vat vs i).ownBlock=some g->u.ownBlock≠some g) (ho:Obj) (hg:(w.alloc ho).grownBy w' v.ownBlock) (hn:w'.ownsRow C 36 3 v' (xs.length+1) (rcells xs vs++[.int .i64 x.rel,.bool x.only,u])):OwnR C D w' v' (xs++[x]):=by
 have hl:=h0.l
 have kept:∀{z:Value}{zs:List Int},OwnI D w z zs->OwnI D w' z zs:=λ{z zs} hz=>World.ownsRow.kept (World.ownsRow.alloc hz ho) hg (own_ne hz h1 (by decide))
 refine⟨vs++[u],h0.snoc (by simp) hnw,by rw[List.length_append,rcells_snoc hl];exact hn,λi hi=>?_⟩
 rw[List.length_append,List.length_singleton] at hi
 by_cases e:i<xs.length
 ·rw[ruat_snoc e]
  have:vat (vs++[u]) i=vat vs i:=by simp[vat,List.getD,List.getElem?_append_left (show i<vs.length by omega)]
  rw[this]
  exact kept (h2 i e)
 ·have e':i=xs.length:=by omega
  rw[ruat_end e']
  have:vat (vs++[u]) i=u:=by rw[e',<-hl];simp[vat,List.getD]
  rw[this]
  exact kept hu
theorem dcells_snoc (xs:List Dp)(x:Dp):dcells (xs++[x])=dcells xs++[.int .i64 x.rel,.int .i64 x.reason]:=by simp[dcells]
theorem OwnD.snoc {C:Nat}{w:World}{v:Value}{xs:List Dp}{x:Dp}(h:w.ownsRow C 125 2 v (xs.length+1) (dcells xs++[.int .i64 x.rel,.int .i64 x.reason])):OwnD C w v (xs++[x]):=by
 unfold OwnD
 rw[List.length_append,dcells_snoc]
 exact h
theorem flat3 {α:Type}(l:List α)(f:α->List Value)(hf:∀x,(f x).length=3)(i q:Nat)(hq:q<3)(x:α)(hx:l[i]?=some x):(l.flatMap f)[i*3+q]?=(f x)[q]?:=by
 induction l generalizing i with
 |nil=>simp at hx
 |cons a l ih=>
  cases i with
  |zero=>
   have:a=x:=by simpa using hx
   subst this
   rw[List.flatMap_cons,Nat.zero_mul,Nat.zero_add,List.getElem?_append_left (by rw[hf];exact hq)]
  |succ i=>
   rw[List.flatMap_cons,List.getElem?_append_right (by rw[hf];omega),hf,show(i+1)*3+q-3=i*3+q by omega]
   exact ih i (by simpa using hx)
theorem OwnR.at {C D:Nat}{w:World}{a:Option Addr}{n c:Nat}{xs:List Ru}(h:OwnR C D w (.slice a n c) xs){i:Nat}(hi:i<xs.length):∃g u,a=some ⟨g,0,none⟩/\w.cell? ⟨g,i*3,none⟩=some (.int .i64 (ruat xs i).rel)/\w.cell? ⟨g,i*3+1,none⟩=some (.bool (ruat xs i).only)/\w.cell? ⟨g,i*3+2,none⟩=some u/\OwnI D w u (ruat xs i).seq:=by
 obtain⟨vs,h0,h1,h2⟩:=h
 have h0:=h0.l
 obtain⟨h3,h4⟩:=h1
 rcases h4 with⟨_,h4⟩|⟨g,cap,cur,e,hg,hh,hc,hm,hs,ht⟩
 ·omega
 ·simp only[Value.slice.injEq] at e
  have hz:(xs.zip vs)[i]?=some (ruat xs i,vat vs i):=by
   rw[List.getElem?_zip_eq_some]
   exact⟨by rw[ruat_eq hi];exact List.getElem?_eq_getElem hi,by simp[vat,List.getD,List.getElem?_eq_getElem (show i<vs.length by omega)]⟩
  have key:∀q,q<3->w.cell? ⟨g,i*3+q,none⟩=(rcell (ruat xs i,vat vs i))[q]?:=λq hq=>by
   have e1:(cur.toList.take (xs.length*3))[i*3+q]?=(rcells xs vs)[i*3+q]?:=by rw[ht]
   rw[List.getElem?_take_of_lt (by omega),Array.getElem?_toList] at e1
   have e2:=flat3 (xs.zip vs) rcell (λ_=>rfl) i q hq _ hz
   unfold rcells at e1
   rw[e2] at e1
   have hlt:i*3+q<cur.size:=by omega
   simp only[World.cell?,hh,e1]
   rfl
  exact⟨g,vat vs i,e.1,key 0 (by omega),key 1 (by omega),key 2 (by omega),h2 i hi⟩
end Go.Proofs.YtdpfdkihbgmapaaGreat
