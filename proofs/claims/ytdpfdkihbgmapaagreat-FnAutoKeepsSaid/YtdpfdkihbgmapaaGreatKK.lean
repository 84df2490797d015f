import Derived.Test.YtdpfdkihbgmapaaGreatKJ
import Derived.Maps.Own
namespace Go.Proofs.YtdpfdkihbgmapaaGreat
open Go.RowKit Go.Sort
set_option linter.unusedVariables false
set_option maxRecDepth 1000000
set_option maxHeartbeats 16000000
theorem E1_head {N:Nt}(h:RoadIn N){e:Nat}(he:e<(E1 N).length):0<=(eat (E1 N) e).head/\(eat (E1 N) e).head<N.nodes.length:=by
 rw[E1_len] at he
 obtain⟨i,j,q,hi,hj,hq,he1⟩:=lay_of N.ways.length he
 obtain⟨_,a1⟩:=at_place hi hj hq
 rw[<-he1] at a1
 have hm:=asc_mono (λi j=>rfl) h.asc
 have hp:∀t,hasI N.nodes t=true->pos N.nodes t<N.nodes.length:=by
  intro t ht
  obtain⟨k,hk,rfl⟩:=hasI_at ht
  rw[pos_at hm hk]
  exact hk
 have hl:=h.len i hi
 have hns:nsN N i=(wat N.ways i).weights.length:=rfl
 have p0:=hp _ (h.has i j hi (by omega))
 have p1:=hp _ (h.has i (j+1) hi (by omega))
 rw[a1]
 split
 ·exact⟨by simp[fwd],by simp[fwd];omega⟩
 ·split
  ·exact⟨by simp[fwd],by simp[fwd];omega⟩
  ·exact⟨by simp[bwd],by simp[bwd];omega⟩
theorem E1_le {N:Nt}(h:RoadIn N):(E1 N).length<=4000:=by
 rw[E1_len]
 unfold mN
 rw[st_ed]
 exact h.ed
structure RelsIn (N:Nt):Prop where
 one:∀i,i<N.ways.length->1<=(wat N.ways i).weights.length
 rel:∀k,k<N.rels.length->relGood N (rat N.rels k)=true
 cnt:N.rels.length<=1000
 ascw:ascW N.ways=true
theorem rels_in {N:Nt}(h:implValid N=true):RelsIn N:=by
 simp only[implValid,counts,Bool.and_eq_true,decide_eq_true_eq] at h
 obtain⟨⟨c0,c1,ed,c2,c3⟩,hu,⟨ha,hn⟩,⟨hw,haw⟩,⟨hr,_⟩,ht,_⟩:=h
 refine⟨λi hi=>?_,λk hk=>allN_at hr hk,c2,haw⟩
 have:=allN_at hw hi
 simp only[wayGood,wayHead,Bool.and_eq_true,decide_eq_true_eq] at this
 obtain⟨⟨⟨⟨⟨g0,g1⟩,g2⟩,g3⟩,g4⟩,g5⟩:=this
 exact g1
theorem edge_there {N:Nt}(h:RoadIn N)(h2:RelsIn N){i:Nat}(hi:i<N.ways.length):thTo (E1 N) i (E1 N).length≠[]/\((wat N.ways i).both=true->bkTo (E1 N) i (E1 N).length≠[]):=by
 have h1:=h2.one i hi
 have hns:nsN N i=(wat N.ways i).weights.length:=rfl
 have hbn:1<=bnN N i:=by unfold bnN;split<;>omega
 constructor
 ·obtain⟨_,a1⟩:=at_place (N:=N) (i:=i) (j:=0) (q:=0) hi (by omega) (by omega)
  have hlt:st (nsN N) (bnN N) i+bnN N i*0+0<(E1 N).length:=by rw[E1_len];exact st_in hi (by omega) (by omega)
  intro e
  have hm:st (nsN N) (bnN N) i+bnN N i*0+0∈thTo (E1 N) i (E1 N).length:=by
   unfold thTo
   rw[List.mem_filter]
   refine⟨List.mem_range.2 hlt,?_⟩
   unfold wayIs
   rw[a1]
   split
   ·simp[fwd]
   ·simp[fwd]
  rw[e] at hm
  simp at hm
 ·intro hb
  have hbn2:bnN N i=2:=by unfold bnN;rw[if_pos hb]
  obtain⟨_,a1⟩:=at_place (N:=N) (i:=i) (j:=0) (q:=1) hi (by omega) (by omega)
  have hlt:st (nsN N) (bnN N) i+bnN N i*0+1<(E1 N).length:=by rw[E1_len];exact st_in hi (by omega) (by omega)
  intro e
  have hm:st (nsN N) (bnN N) i+bnN N i*0+1∈bkTo (E1 N) i (E1 N).length:=by
   unfold bkTo
   rw[List.mem_reverse,List.mem_filter]
   refine⟨List.mem_range.2 hlt,?_⟩
   unfold wayIs
   rw[a1,if_neg (by omega),if_neg (by omega)]
   simp[bwd]
  rw[e] at hm
  simp at hm
theorem all_in {N:Nt}(hv:implValid N=true):AllIn N (roadY N):=by
 have h:=road_in hv
 have h2:=rels_in hv
 intro k hk
 have hr:=h2.rel k hk
 simp only[relGood,Bool.and_eq_true] at hr
 obtain⟨_,hf,ht,hT⟩:=hr
 unfold relTail at hT
 refine⟨hf,ht,?_,λj hj=>?_,λi hi=>edge_there h h2 hi,λe he=>E1_head h he⟩
 ·split at hT
  ·simp at hT;rw[hT.1];simp
  ·simp at hT;exact hT.2.2.1
 ·split at hT
  ·simp only[Bool.and_eq_true,decide_eq_true_eq] at hT;omega
  ·simp only[Bool.and_eq_true,decide_eq_true_eq] at hT
   exact allN_at hT.2.2.2 hj
def resOf (N:Nt):Rs:=if implValid N then resTo (chOf N (roadY N)) N.rels N.rels.length else ⟨[],[]⟩
theorem specResolve_any (B0:Nat)(v0 v1 v2 v3:Value)(N:Nt)(w:World)(h0:HNet B0 w v0 v1 v2 v3 N)(hs:wsum N.ways N.ways.length<=1048576) :
  Calls Tryz.prog 46 #[.agg #[v0,v1,v2,v3,.int .i64 N.uturn]] w λe w'=>(∃vr vd,e=.returned (.agg #[vr,vd])/\OwnR w.heap.size w.heap.size w' vr (resOf N).rules/\OwnD w.heap.size w' vd (resOf N).drops)/\Nx w w':=by
 have HS:Hid (wsum N.ways N.ways.length<=1048576):=hs
 have HI:Hid (HNet B0 w v0 v1 v2 v3 N):=h0
 obtain⟨a0,q0,e0,jm,jk⟩:=h0.1
 clear jm jk
 obtain⟨a1,q1,e1,jm,jk⟩:=h0.2.1
 clear jm jk
 obtain⟨a2,q2,e2,jm,jk⟩:=h0.2.2.1
 clear jm jk
 obtain⟨a3,q3,e3,jm,jk⟩:=h0.2.2.2
 clear jm jk
 generalize N.nodes.length=l0 at e0
 generalize N.ways.length=l1 at e1
 generalize N.rels.length=l2 at e2
 generalize N.turns.length=l3 at e3
 subst e0 e1 e2 e3
 clear hs h0
 generalize hWA:(w.alloc (.cells #[.slice a0 l0 q0,.slice a1 l1 q1,.slice a2 l2 q2,.slice a3 l3 q3,.int .i64 N.uturn] 86)).alloc (.cells #[.slice none 0 0,.slice none 0 0] 80)=wA
 have HXA:Hid (Nx w wA):=by unfold Hid;rw[<-hWA];exact box2 _ _ _
 have BG:Hid (Blk wA w.heap.size #[.slice a0 l0 q0,.slice a1 l1 q1,.slice a2 l2 q2,.slice a3 l3 q3,.int .i64 N.uturn]):=by unfold Hid;rw[<-hWA];exact(Blk.new w _ _ _ rfl).alloc _
 have BZ:Hid (Blk wA (w.heap.size+1) #[.slice none 0 0,.slice none 0 0]):=by unfold Hid;rw[<-hWA];exact Blk.new _ _ _ _ (by rw[size_alloc'])
 have HSA:Hid (wA.heap.size=w.heap.size+2):=by unfold Hid;rw[<-hWA,size_alloc',size_alloc']
 go_enter Tryz.func46,Tryz.ntmps46
 go_upto_region 1 with fail
 clear hWA
 have k0:=BG.out.cell (i:=0) rfl
 have k1:=BG.out.cell (i:=1) rfl
 have k2:=BG.out.cell (i:=2) rfl
 have k3:=BG.out.cell (i:=3) rfl
 have k4:=BG.out.cell (i:=4) rfl
 go_wp2_with fail
 refine(specValid_any B0 _ _ _ _ N _ (by exact HI.out.next HXA.out) HS.out).mono ?_
 rintro e w1 ⟨rfl,hx⟩
 rw[specValid_same]
 have HXA1:Hid (Nx wA w1):=hx
 have HX1:Hid (Nx w w1):=HXA.out.trans hx
 have BG1:Hid (Blk w1 w.heap.size #[.slice a0 l0 q0,.slice a1 l1 q1,.slice a2 l2 q2,.slice a3 l3 q3,.int .i64 N.uturn]):=BG.out.next hx
 have BZ1:Hid (Blk w1 (w.heap.size+1) #[.slice none 0 0,.slice none 0 0]):=BZ.out.next hx
 clear hx k0 k1 k2 k3 k4
 cases hv:implValid N
 case false=>
  have HF:Hid (resOf N=⟨[],[]⟩):=by unfold Hid resOf;rw[hv];rfl
  clear hv
  have y0:=BZ1.out.cell (i:=0) rfl
  have y1:=BZ1.out.cell (i:=1) rfl
  have z0:=BZ1.out.frozen 0
  have z1:=BZ1.out.frozen 1
  go_wp2
  have BR':=(BZ1.out.set 0 (.slice none 0 0)).set 1 (.slice none 0 0)
  have p0:_=some (Value.slice none 0 0):=BR'.cell (i:=0) rfl
  have p1:_=some (Value.slice none 0 0):=BR'.cell (i:=1) rfl
  clear y0 y1 BR'
  refine bodyPost_ret (v:=.agg #[.slice none 0 0,.slice none 0 0]) (by simp[results,Tryz.results46,go_sem,p0,p1]) rfl ?_
  rw[HF.out]
  exact⟨⟨_,_,rfl,⟨[],⟨rfl,λi j g _ hj=>absurd hj (Nat.not_lt_zero _)⟩,⟨rfl,.inl ⟨rfl,rfl⟩⟩,λi hi=>absurd hi (Nat.not_lt_zero _)⟩,⟨rfl,.inl ⟨rfl,rfl⟩⟩⟩,Below.setCell (Below.setCell HX1.out (Nat.le_succ _) _) (Nat.le_succ _) _⟩
 have HF:Hid (resOf N=resTo (chOf N (roadY N)) N.rels N.rels.length):=by unfold Hid resOf;rw[hv];rfl
 have HRO:Hid (roadOf N=roadY N):=by unfold Hid roadOf;rw[hv];rfl
 have HAL:Hid (AllIn N (roadY N)):=all_in hv
 have HLE:Hid ((roadY N).edges.length<=4000):=E1_le (road_in hv)
 have HCN:Hid (N.rels.length<=1000):=(rels_in hv).cnt
 clear hv
 have k0:=BG1.out.cell (i:=0) rfl
 have k1:=BG1.out.cell (i:=1) rfl
 have k2:=BG1.out.cell (i:=2) rfl
 have k3:=BG1.out.cell (i:=3) rfl
 have k4:=BG1.out.cell (i:=4) rfl
 go_upto_region 3 with fail
 go_region_held3 (λw'=>w'.cell? ⟨w.heap.size,0,none⟩=some (.slice a0 l0 q0)/\w'.cell? ⟨w.heap.size,1,none⟩=some (.slice a1 l1 q1)/\w'.cell? ⟨w.heap.size,2,none⟩=some (.slice a2 l2 q2)/\w'.cell? ⟨w.heap.size,3,none⟩=some (.slice a3 l3 q3)/\w'.cell? ⟨w.heap.size,4,none⟩=some (.int .i64 N.uturn)) (first|exact⟨cellS (by omega) (cellS (by omega) (cellq HX3.out k0)),cellS (by omega) (cellS (by omega) (cellq HX3.out k1)),cellS (by omega) (cellS (by omega) (cellq HX3.out k2)),cellS (by omega) (cellS (by omega) (cellq HX3.out k3)),cellS (by omega) (cellS (by omega) (cellq HX3.out k4))⟩|exact⟨cellq HX3.out k0,cellq HX3.out k1,cellq HX3.out k2,cellq HX3.out k3,cellq HX3.out k4⟩|exact⟨cellq HX2.out k0,cellq HX2.out k1,cellq HX2.out k2,cellq HX2.out k3,cellq HX2.out k4⟩|(go_keep;done)) (first|(go_at_call 61;refine(specRoad_any B0 _ _ _ _ N _ (by exact HI.out.next (HX1.out.trans (Below.refl _ _).drew)) HS.out).mono ?_;rintro e w2 ⟨⟨r0,r1,r2,r3,rfl,hRD⟩,hx2⟩;have HX2:Hid (Nx w1 w2):=(Below.refl _ _).drew.trans hx2;rw[HRO.out] at hRD;have HRD:Hid (HRoad w1.heap.size w2 r0 r1 r2 r3 (roadY N)):=hRD;clear hRD hx2)|(go_at_call 60;refine(l2Resolve_any B0 w1.heap.size _ _ _ _ N _ _ _ _ (roadY N) _ (by exact HI.out.next (HX1.out.trans HX2.out)) (by exact HRD.out) HLE.out HAL.out HCN.out).mono ?_;rintro e w3 ⟨⟨vr,vd,rfl,hR3,hD3⟩,hx3⟩;have HX3:Hid (Nx w1 w3):=HX2.out.trans hx3;have HR3:Hid (OwnR w1.heap.size w1.heap.size w3 vr (resOf N).rules):=(by unfold Hid;rw[HF.out];exact hR3.base HX2.out.size HX2.out.size);have HD3:Hid (OwnD w1.heap.size w3 vd (resOf N).drops):=(by unfold Hid;rw[HF.out];exact row_base hD3 HX2.out.size);obtain⟨vs3,jv,jr,jw⟩:=hR3;obtain⟨ar,cr,hvr⟩:=row_slice jr;obtain⟨ad,cd,hvd⟩:=row_slice hD3;generalize (resTo (chOf N (roadY N)) N.rels N.rels.length).rules.length=nr at hvr;generalize (resTo (chOf N (roadY N)) N.rels N.rels.length).drops.length=nd at hvd;subst hvr hvd;have BZ3:Hid (Blk w3 (w.heap.size+1) #[.slice none 0 0,.slice none 0 0]):=BZ1.out.next HX3.out;have y0:=BZ3.out.cell (i:=0) rfl;have y1:=BZ3.out.cell (i:=1) rfl;have z0:=BZ3.out.frozen 0;have z1:=BZ3.out.frozen 1;clear jv jr jw hD3 hx3))
 have BR':=(BZ3.out.set 0 (.slice ar nr cr)).set 1 (.slice ad nd cd)
 have p0:_=some (Value.slice ar nr cr):=BR'.cell (i:=0) rfl
 have p1:_=some (Value.slice ad nd cd):=BR'.cell (i:=1) rfl
 clear y0 y1 BR' k0 k1 k2 k3 k4
 go_wp2
 refine bodyPost_ret (v:=.agg #[.slice ar nr cr,.slice ad nd cd]) (by simp[results,Tryz.results46,go_sem,p0,p1]) rfl ?_
 have h1:w.heap.size+1<w1.heap.size:=by have:=HSA.out;have:=HXA1.out.size;omega
 have h2:w.heap.size<=w1.heap.size:=by omega
 exact⟨⟨_,_,rfl,((HR3.out.store h1 h1 _ _).store h1 h1 _ _).base h2 h2,row_base (own_store (own_store HD3.out h1 _ _) h1 _ _) h2⟩,Below.setCell (Below.setCell (HX1.out.trans HX3.out) (Nat.le_succ _) _) (Nat.le_succ _) _⟩
structure EB (w:World)(b e:Nat)(x:Eg):Prop where
 tail:w.cell? ⟨b,0,none⟩=some (.int .i64 x.tail)
 head:w.cell? ⟨b,1,none⟩=some (.int .i64 x.head)
 wgt:w.cell? ⟨b,2,none⟩=some (.int .i64 x.weight)
 back:w.cell? ⟨b,5,none⟩=some (.bool x.back)
 twin:w.cell? ⟨b,6,none⟩=some (.int .i64 x.twin)
 num:w.cell? ⟨b,7,none⟩=some (.int .i64 (e:Int))
theorem EB.next {w w':World}{b e:Nat}{x:Eg}(h:EB w b e x)(k:Nx w w'):EB w' b e x:=
 ⟨cellq k h.tail,cellq k h.head,cellq k h.wgt,cellq k h.back,cellq k h.twin,cellq k h.num⟩
def HPtrs (B:Nat)(w:World)(v:Value)(ps:List Nat):Prop:=HSlice B w v ps.length λb off i=>w.cell? ⟨b,off+i,none⟩=some (.pointer (some ⟨ps.getD i 0,0,none⟩))
theorem HPtrs.keep {B:Nat}{w w':World}{v:Value}{ps:List Nat}(h:HPtrs B w v ps)(k:Keeps B w w'):HPtrs B w' v ps:=
 HSlice.mono h (Nat.le_refl _) k.1 λb off hb hs i hi hc=>(k.2 b hb hs _).trans hc
theorem HPtrs.next {B:Nat}{w w':World}{v:Value}{ps:List Nat}(h:HPtrs B w v ps)(k:Nx w w'):HPtrs B w' v ps:=h.keep (k.keeps B)
theorem HPtrs.at {B:Nat}{w:World}{v:Value}{eb:Nat->Nat}{l:List Nat}(h:HPtrs B w v (l.map eb))(hp:0<l.length):∃b off c,v=.slice (some ⟨b,off,none⟩) l.length c/\b<w.heap.size/\∀i,i<l.length->w.cell? ⟨b,off+i,none⟩=some (.pointer (some ⟨eb (l.getD i 0),0,none⟩)):=by
 obtain⟨a,cap,e,_,hk⟩:=h
 rw[List.length_map] at e hk
 obtain⟨b,off,rfl,_,hb,hc⟩:=hk hp
 refine⟨b,off,cap,e,hb,λi hi=>?_⟩
 have:=hc i hi
 rw[this]
 simp[List.getD_eq_getElem?_getD,hi]
theorem OwnI.app {B:Nat}{w:World}{v:Value}{zs ys:List Int}(h:w.ownsRow B 2 1 v (zs.length+ys.length) (icells zs++icells ys)):OwnI B w v (zs++ys):=by
 unfold OwnI
 have e:icells (zs++ys)=icells zs++icells ys:=by simp[icells]
 rw[List.length_append,e]
 exact h
theorem Only.cellO {o:Option Nat}{w w':World}(h:Only o w w'){b i:Nat}{v:Value}(hn:some b≠o)(hc:w.cell? ⟨b,i,none⟩=some v):w'.cell? ⟨b,i,none⟩=some v:=by
 rw[World.cell?_of_block (h.block b (cell_lt hc) hn)]
 exact hc
theorem Only.tr {o:Option Nat}{a b c:World}(h:Only o a b)(k:Only o b c):Only o a c:=
 ⟨k.os.trans h.os,k.tape.trans h.tape,k.output.trans h.output,Nat.le_trans h.size k.size,λx hx hn=>(k.block x (Nat.lt_of_lt_of_le hx h.size) hn).trans (h.block x hx hn)⟩
theorem Only.young {o p:Option Nat}{a b c:World}(h:Only o a b)(k:Only p b c)(hp:∀g,p=some g->a.heap.size<=g):Only o a c:=
 ⟨k.os.trans h.os,k.tape.trans h.tape,k.output.trans h.output,Nat.le_trans h.size k.size,λx hx hn=>(k.block x (Nat.lt_of_lt_of_le hx h.size) (λe=>by have:=hp x e.symm;omega)).trans (h.block x hx hn)⟩
theorem EB.on {o:Option Nat}{w w':World}{b e:Nat}{x:Eg}(h:EB w b e x)(k:Only o w w')(hn:some b≠o):EB w' b e x:=
 ⟨k.cellO hn h.tail,k.cellO hn h.head,k.cellO hn h.wgt,k.cellO hn h.back,k.cellO hn h.twin,k.cellO hn h.num⟩
theorem EB.ne {w:World}{b e bw:Nat}{x:Eg}{v0 v1 v2:Value}(h:EB w b e x)(k:Blk w bw #[v0,v1,v2]):b≠bw:=by
 rintro rfl
 obtain⟨t,hb⟩:=k
 have:=h.num
 simp[World.cell?,hb] at this
def BT (w:World)(b:Nat)(cs:Array Value)(t:Nat):Prop:=w.heap[b]?=some (.cells cs t (0,0))
theorem BT.lt {w:World}{b t:Nat}{cs:Array Value}(h:BT w b cs t):b<w.heap.size:=(Array.getElem?_eq_some_iff.1 h).1
theorem BT.blk {w:World}{b t:Nat}{cs:Array Value}(h:BT w b cs t):Blk w b cs:=⟨t,h⟩
theorem BT.new (w:World)(cs:Array Value)(t n:Nat)(hn:n=w.heap.size):BT (w.alloc (.cells cs t)) n cs t:=by
 subst hn
 unfold BT
 show(w.heap.push _)[w.heap.size]?=_
 simp
theorem BT.set {w:World}{b t:Nat}{cs:Array Value}(h:BT w b cs t)(i:Nat)(v:Value):BT (w.setCell ⟨b,i,none⟩ v) b (cs.setIfInBounds i v) t:=by
 unfold BT at h ⊢
 simp[World.setCell,Array.getElem?_modify,h]
theorem BT.next {w w':World}{b t:Nat}{cs:Array Value}(h:BT w b cs t)(k:Nx w w'):BT w' b cs t:=(k.block b h.lt).trans h
theorem BT.alloc {w:World}{b t:Nat}{cs:Array Value}(h:BT w b cs t)(o:Obj):BT (w.alloc o) b cs t:=h.next (box1 _ _)
theorem BT.grown {w w':World}{o:Option Nat}{b t:Nat}{cs:Array Value}(h:BT w b cs t)(k:w.grownBy w' o)(hn:some b≠o):BT w' b cs t:=(k.block b h.lt hn).trans h
end Go.Proofs.YtdpfdkihbgmapaaGreat
namespace Go.Proofs.YtdpfdkihbgmapaaGreat
open Go.RowKit Go.Sort Go.Maps
set_option linter.unusedVariables false
set_option maxRecDepth 1000000
set_option maxHeartbeats 16000000
def ptrR (v:Value):Option (DataW Unit×List MemPlace):=
 match v with
 |.pointer none=>some (.lit (.int .i64 (-1)),[])
 |.pointer (some ⟨b,0,none⟩)=>some (.lit (.int .i64 (b:Int)),[])
 |_=>none
theorem keyI:Keyed Tryz.prog 2:=int_keyed Tryz.underlying2
def kidE (p:Int×Nat):Lit×DataW Unit:=(.int .i64 p.1,.lit (.int .i64 (p.2:Int)))
def kidsD (ks:List (Int×Nat)):DataW Unit:=.map (ks.map kidE)
theorem ins_end (x:Lit×DataW Unit)(l:List (Lit×DataW Unit))(h:∀p∈l,x.1.before p.1=false):DataW.insert x l=l++[x]:=by
 induction l with
 |nil=>rfl
 |cons y l ih=>
  unfold DataW.insert
  rw[h y (List.mem_cons_self ..)]
  simp only[Bool.false_eq_true,if_false,List.cons_append]
  rw[ih λp hp=>h p (List.mem_cons_of_mem _ hp)]
theorem kids_put {ks:List (Int×Nat)}{e:Int}(b:Nat)(h:∀p∈ks,p.1<e):(kidsD ks).put (.int .i64 e) (.lit (.int .i64 (b:Int)))=kidsD (ks++[(e,b)]):=by
 unfold kidsD
 rw[DataW.put_eq]
 congr 1
 unfold ChangeMaps.putKey
 have hf:(ks.map kidE).filter (ChangeMaps.notKey (.int .i64 e))=ks.map kidE:=by
  rw[List.filter_eq_self]
  intro p hp
  obtain⟨q,hq,rfl⟩:=List.mem_map.1 hp
  have:=h q hq
  simp[ChangeMaps.notKey,kidE,Lit.sameKey]
  omega
 rw[hf,ins_end]
 ·simp[kidE]
 ·intro p hp
  obtain⟨q,hq,rfl⟩:=List.mem_map.1 hp
  have:=h q hq
  simp[kidE,Lit.before]
  omega
def kidOf (ks:List (Int×Nat))(e:Int):Option Nat:=(ks.find? (λp=>decide (p.1=e))).map (·.2)
theorem kids_at (ks:List (Int×Nat))(e:Int):(kidsD ks).atKey (.int .i64 e) (.lit (.int .i64 (-1)))=.lit (.int .i64 (match kidOf ks e with|none=>-1|some b=>(b:Int))):=by
 unfold kidsD kidOf
 simp only[DataW.atKey]
 induction ks with
 |nil=>rfl
 |cons p ks ih=>
  simp only[List.map_cons,List.find?_cons]
  have e1:(kidE p).1.sameKey (.int .i64 e)=decide (p.1=e):=by simp[kidE,Lit.sameKey]
  rw[e1]
  by_cases h:p.1=e
  ·simp[h,kidE]
  ·simp only[decide_eq_false h]
   exact ih
theorem BT.ne {w:World}{a b t u:Nat}{c d:Array Value}(h:BT w a c t)(k:BT w b d u)(hn:t≠u):a≠b:=by
 rintro rfl
 unfold BT at h k
 rw[h] at k
 simp at k
 exact hn k.2
theorem BT.neRow {w:World}{a t u C sz n:Nat}{c:Array Value}{v:Value}{xs:List Value}(h:BT w a c t)(k:w.ownsRow C u sz v n xs)(hn:t≠u):some a≠v.ownBlock:=by
 rcases k.2 with⟨rfl,_⟩|⟨g,cap,cur,rfl,_,hh,_⟩
 ·simp[Value.ownBlock]
 ·intro e
  have e':a=g:=Option.some.inj e
  subst e'
  unfold BT at h
  rw[h] at hh
  simp at hh
  exact hn hh.2
theorem row_ne {w:World}{t u C C' sz sz' m n:Nat}{v v':Value}{xs xs':List Value}(h:w.ownsRow C t sz v m xs)(k:w.ownsRow C' u sz' v' n xs')(hn:t≠u){g:Nat}(hg:v.ownBlock=some g):some g≠v'.ownBlock:=by
 rcases h.2 with⟨rfl,_⟩|⟨g',cap,cur,rfl,_,hh,_⟩
 ·simp[Value.ownBlock] at hg
 ·have e:g'=g:=Option.some.inj hg
  subst e
  exact BT.neRow (c:=cur) hh k hn
structure Chg (S:Nat->Prop)(w w':World):Prop where
 os:w'.os=w.os
 tape:w'.tape=w.tape
 output:w'.output=w.output
 size:w.heap.size<=w'.heap.size
 block:∀b,b<w.heap.size->¬S b->w'.heap[b]?=w.heap[b]?
section
variable {S:Nat->Prop}{a b c w w':World}
theorem Chg.trans (h:Chg S a b)(k:Chg S b c):Chg S a c:=
 ⟨k.os.trans h.os,k.tape.trans h.tape,k.output.trans h.output,Nat.le_trans h.size k.size,λx hx hn=>(k.block x (Nat.lt_of_lt_of_le hx h.size) hn).trans (h.block x hx hn)⟩
theorem Chg.nx (h:Nx w w'):Chg S w w':=⟨h.os,h.tape,h.output,h.size,λx hx _=>h.block x hx⟩
theorem Chg.only {o:Option Nat}(h:Only o w w')(hS:∀b,some b=o->S b):Chg S w w':=⟨h.os,h.tape,h.output,h.size,λx hx hn=>h.block x hx (λe=>hn (hS x e))⟩
theorem Chg.grown {o:Option Nat}(h:w.grownBy w' o)(hS:∀b,some b=o->S b):Chg S w w':=⟨h.os,h.tape,h.output,h.size,λx hx hn=>h.block x hx (λe=>hn (hS x e))⟩
theorem Chg.set (g i:Nat)(v:Value)(hS:S g):Chg S w (w.setCell ⟨g,i,none⟩ v):=
 ⟨rfl,rfl,rfl,by simp[World.setCell],λx hx hn=>Below.heap_setCell _ _ _ _ (λe=>hn (by subst e;exact hS))⟩
theorem Chg.young {T:Nat->Prop}(h:Chg S a b)(k:Chg T b c)(hT:∀x,T x->x<a.heap.size->S x):Chg S a c:=
 ⟨k.os.trans h.os,k.tape.trans h.tape,k.output.trans h.output,Nat.le_trans h.size k.size,λx hx hn=>(k.block x (Nat.lt_of_lt_of_le hx h.size) (λe=>hn (hT x e hx))).trans (h.block x hx hn)⟩
theorem Chg.below (h:Chg S w w'){B:Nat}(hB:B<=w.heap.size)(hS:∀x,S x->B<=x):Below B w w':=⟨h.os,h.tape,h.output,h.size,λx hx=>h.block x (by omega) (λe=>by have:=hS x e;omega)⟩
theorem BT.chg {b t:Nat}{cs:Array Value}(h:BT w b cs t)(k:Chg S w w')(hn:¬S b):BT w' b cs t:=(k.block b h.lt hn).trans h
theorem row_chg {C t sz n:Nat}{v:Value}{xs:List Value}(h:w.ownsRow C t sz v n xs)(k:Chg S w w')(hn:∀g,v.ownBlock=some g->¬S g):w'.ownsRow C t sz v n xs:=by
 refine⟨h.1,?_⟩
 rcases h.2 with h2|⟨g,cap,cur,hv,hg,hh,r⟩
 ·exact Or.inl h2
 ·exact Or.inr ⟨g,cap,cur,hv,hg,(k.block g (Array.getElem?_eq_some_iff.1 hh).1 (hn g (by rw[hv];rfl))).trans hh,r⟩
end
end Go.Proofs.YtdpfdkihbgmapaaGreat
