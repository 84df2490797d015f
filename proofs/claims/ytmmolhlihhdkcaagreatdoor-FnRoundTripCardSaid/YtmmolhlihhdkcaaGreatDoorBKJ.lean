import Derived.Test.YtmmolhlihhdkcaaGreatDoorBRoS
import Derived.Test.YtmmolhlihhdkcaaGreatDoorBKQ
import Derived.OwnWalkIn
import Derived.TacticsInMore
import Derived.Maps.Own
namespace Go.Proofs.YtmmolhlihhdkcaaGreatDoor
open Go.RowKit Go.Sort
set_option linter.unusedVariables false
set_option maxRecDepth 1000000
set_option maxHeartbeats 16000000
theorem tq {F:Fence}{n:Nat}{P:Program}{ops:Array Oper}{Q:Exit->Act->World->Prop}{md:Region.Mode}{S:World->Prop}{c i fuel:Nat}{oi:Oper}{v:Value}{listed:Array Bool}{a:Act}{w:World}(h:Cl md ops (listed.setIfInBounds i true)->Vr F n P md ops Q S c fuel (listed.setIfInBounds i true) (a.put oi.dst v) w)(hi:ops[i]?=some oi:=by rfl)(hw:At md ops c:=by assumption)(hcl:Cl md ops listed:=by assumption)(hic:i<c:=by decide)(hd:Tk F ops:=by first|exact Qh rfl|exact noDefer_round (by kernel_rfl))(hs:Region.noSelect ops=true:=by kernel_rfl)(hf:Region.free md ops listed i=true:=by kernel_rfl)(hr:(Region.ready md ops listed).contains i=true:=by kernel_rfl)(hQ:∀c a w,Q (.panic c) (a.put oi.dst v) w->Q (.panic c) a w:=by exact λ_ _ _ h=>h)(hS:S w:=by first|exact HSS.out|exact HS0.out)(hy:YF P ops S oi v a:=by refine⟨Or.inl ⟨by kernel_rfl,?_⟩,λ_=>rfl⟩;intro q hq;(repeat' (obtain⟨_,hq⟩:=hq));go_simp):Vr F n P md ops Q S c (fuel+1) listed a w:=
 Qo hw hic hcl hd hi hs hf hr hQ hy hS h
theorem Jd {C C' ty sz n:Nat}{w:World}{v:Value}{xs:List Value}(h:w.ownsRow C ty sz v n xs)(hC:C'<=C):w.ownsRow C' ty sz v n xs:=by
 obtain⟨h1,h2⟩:=h
 refine⟨h1,?_⟩
 rcases h2 with h2|⟨g,cap,cur,hv,hg,r⟩
 ·exact Or.inl h2
 ·exact Or.inr ⟨g,cap,cur,hv,by omega,r⟩
theorem Qcp {N:Nt}(h:U5 N){e:Nat}(he:e<(E1 N).length):0<=(eat (E1 N) e).head/\(eat (E1 N) e).head<N.nodes.length:=by
 rw[Tc] at he
 obtain⟨i,j,q,hi,hj,hq,he1⟩:=Ib N.ways.length he
 obtain⟨_,a1⟩:=Ye hi hj hq
 rw[<-he1] at a1
 have hm:=Z1 (λi j=>rfl) h.asc
 have hp:∀t,Vw N.nodes t=true->pos N.nodes t<N.nodes.length:=by
  intro t ht
  obtain⟨k,hk,rfl⟩:=Q0s ht
  rw[Q95 hm hk]
  exact hk
 have hl:=h.len i hi
 have hns:nsN N i=(wat N.ways i).weights.length:=rfl
 have p0:=hp _ (h.has i j hi (by omega))
 have p1:=hp _ (h.has i (j+1) hi (by omega))
 rw[a1]
 split
 ·exact⟨by simp[fwd],by simp[fwd];omega⟩
 ·split
  ·exact⟨by simp[fwd],by simp[fwd];omega⟩
  ·exact⟨by simp[bwd],by simp[bwd];omega⟩
theorem E1_le {N:Nt}(h:U5 N):(E1 N).length<=4000:=by
 rw[Tc]
 unfold mN
 rw[Q8j]
 exact h.ed
structure Qaz (N:Nt):Prop where
 one:∀i,i<N.ways.length->1<=(wat N.ways i).weights.length
 rel:∀k,k<N.rels.length->J1 N (rat N.rels k)=true
 cnt:N.rels.length<=1000
 ascw:Zm N.ways=true
theorem Q0a {N:Nt}(h:Qn N=true):Qaz N:=by
 simp only[Qn,Xg,Bool.and_eq_true,decide_eq_true_eq] at h
 obtain⟨⟨c0,c1,ed,c2,c3⟩,hu,⟨ha,hn⟩,⟨hw,haw⟩,⟨hr,_⟩,ht,_⟩:=h
 refine⟨λi hi=>?_,λk hk=>Xv hr hk,c2,haw⟩
 have:=Xv hw hi
 simp only[Qu,Jz,Bool.and_eq_true,decide_eq_true_eq] at this
 obtain⟨⟨⟨⟨⟨g0,g1⟩,g2⟩,g3⟩,g4⟩,g5⟩:=this
 exact g1
theorem Ft {N:Nt}(h:U5 N)(h2:Qaz N){i:Nat}(hi:i<N.ways.length):Vv (E1 N) i (E1 N).length≠[]/\((wat N.ways i).both=true->Xm (E1 N) i (E1 N).length≠[]):=by
 have h1:=h2.one i hi
 have hns:nsN N i=(wat N.ways i).weights.length:=rfl
 have hbn:1<=bnN N i:=by unfold bnN;split<;>omega
 constructor
 ·obtain⟨_,a1⟩:=Ye (N:=N) (i:=i) (j:=0) (q:=0) hi (by omega) (by omega)
  have hlt:st (nsN N) (bnN N) i+bnN N i*0+0<(E1 N).length:=by rw[Tc];exact Q8i hi (by omega) (by omega)
  intro e
  have hm:st (nsN N) (bnN N) i+bnN N i*0+0∈Vv (E1 N) i (E1 N).length:=by
   unfold Vv
   rw[List.mem_filter]
   refine⟨List.mem_range.2 hlt,?_⟩
   unfold Wh
   rw[a1]
   split
   ·simp[fwd]
   ·simp[fwd]
  rw[e] at hm
  simp at hm
 ·intro hb
  have hbn2:bnN N i=2:=by unfold bnN;rw[if_pos hb]
  obtain⟨_,a1⟩:=Ye (N:=N) (i:=i) (j:=0) (q:=1) hi (by omega) (by omega)
  have hlt:st (nsN N) (bnN N) i+bnN N i*0+1<(E1 N).length:=by rw[Tc];exact Q8i hi (by omega) (by omega)
  intro e
  have hm:st (nsN N) (bnN N) i+bnN N i*0+1∈Xm (E1 N) i (E1 N).length:=by
   unfold Xm
   rw[List.mem_reverse,List.mem_filter]
   refine⟨List.mem_range.2 hlt,?_⟩
   unfold Wh
   rw[a1,if_neg (by omega),if_neg (by omega)]
   simp[bwd]
  rw[e] at hm
  simp at hm
structure EB (w:World)(b e:Nat)(x:Eg):Prop where
 tail:w.cell? ⟨b,0,none⟩=some (.int .i64 x.tail)
 head:w.cell? ⟨b,1,none⟩=some (.int .i64 x.head)
 wgt:w.cell? ⟨b,2,none⟩=some (.int .i64 x.weight)
 back:w.cell? ⟨b,5,none⟩=some (.bool x.back)
 twin:w.cell? ⟨b,6,none⟩=some (.int .i64 x.twin)
 num:w.cell? ⟨b,7,none⟩=some (.int .i64 (e:Int))
theorem EB.next {w w':World}{b e:Nat}{x:Eg}(h:EB w b e x)(k:Nx w w'):EB w' b e x:=
 ⟨Qf k h.tail,Qf k h.head,Qf k h.wgt,Qf k h.back,Qf k h.twin,Qf k h.num⟩
def Is (B:Nat)(w:World)(v:Value)(ps:List Nat):Prop:=Jl B w v ps.length λb off i=>w.cell? ⟨b,off+i,none⟩=some (.pointer (some ⟨ps.getD i 0,0,none⟩))
theorem Is.keep {B:Nat}{w w':World}{v:Value}{ps:List Nat}(h:Is B w v ps)(k:Xs B w w'):Is B w' v ps:=
 Jl.mono h (Nat.le_refl _) k.1 λb off hb hs i hi hc=>(k.2 b hb hs _).trans hc
theorem Is.next {B:Nat}{w w':World}{v:Value}{ps:List Nat}(h:Is B w v ps)(k:Nx w w'):Is B w' v ps:=h.keep (k.keeps B)
theorem Is.at {B:Nat}{w:World}{v:Value}{eb:Nat->Nat}{l:List Nat}(h:Is B w v (l.map eb))(hp:0<l.length):∃b off c,v=.slice (some ⟨b,off,none⟩) l.length c/\b<w.heap.size/\∀i,i<l.length->w.cell? ⟨b,off+i,none⟩=some (.pointer (some ⟨eb (l.getD i 0),0,none⟩)):=by
 obtain⟨a,cap,e,_,hk⟩:=h
 rw[List.length_map] at e hk
 obtain⟨b,off,rfl,_,hb,hc⟩:=hk hp
 refine⟨b,off,cap,e,hb,λi hi=>?_⟩
 have:=hc i hi
 rw[this]
 simp[List.getD_eq_getElem?_getD,hi]
theorem Qb.app {B:Nat}{w:World}{v:Value}{zs ys:List Int}(h:w.ownsRow B 2 1 v (zs.length+ys.length) (Qx zs++Qx ys)):Qb B w v (zs++ys):=by
 unfold Qb
 have e:Qx (zs++ys)=Qx zs++Qx ys:=by simp[Qx]
 rw[List.length_append,e]
 exact h
theorem Ve.cellO {o:Option Nat}{w w':World}(h:Ve o w w'){b i:Nat}{v:Value}(hn:some b≠o)(hc:w.cell? ⟨b,i,none⟩=some v):w'.cell? ⟨b,i,none⟩=some v:=by
 rw[World.cell?_of_block (h.block b (Zc hc) hn)]
 exact hc
theorem Ve.young {o p:Option Nat}{a b c:World}(h:Ve o a b)(k:Ve p b c)(hp:∀g,p=some g->a.heap.size<=g):Ve o a c:=
 ⟨k.os.trans h.os,k.tape.trans h.tape,k.output.trans h.output,Nat.le_trans h.size k.size,λx hx hn=>(k.block x (Nat.lt_of_lt_of_le hx h.size) (λe=>by have:=hp x e.symm;omega)).trans (h.block x hx hn)⟩
theorem EB.on {o:Option Nat}{w w':World}{b e:Nat}{x:Eg}(h:EB w b e x)(k:Ve o w w')(hn:some b≠o):EB w' b e x:=
 ⟨k.cellO hn h.tail,k.cellO hn h.head,k.cellO hn h.wgt,k.cellO hn h.back,k.cellO hn h.twin,k.cellO hn h.num⟩
theorem EB.ne {w:World}{b e bw:Nat}{x:Eg}{v0 v1 v2:Value}(h:EB w b e x)(k:Blk w bw #[v0,v1,v2]):b≠bw:=by
 rintro rfl
 obtain⟨t,hb⟩:=k
 have:=h.num
 simp[World.cell?,hb] at this
def BT (w:World)(b:Nat)(cs:Array Value)(t:Nat):Prop:=w.heap[b]?=some (.cells cs t (0,0))
theorem BT.lt {w:World}{b t:Nat}{cs:Array Value}(h:BT w b cs t):b<w.heap.size:=(Array.getElem?_eq_some_iff.1 h).1
theorem BT.blk {w:World}{b t:Nat}{cs:Array Value}(h:BT w b cs t):Blk w b cs:=⟨t,h⟩
theorem BT.new (w:World)(cs:Array Value)(t n:Nat)(hn:n=w.heap.size):BT (w.alloc (.cells cs t)) n cs t:=by
 subst hn
 unfold BT
 show(w.heap.push _)[w.heap.size]?=_
 simp
theorem BT.set {w:World}{b t:Nat}{cs:Array Value}(h:BT w b cs t)(i:Nat)(v:Value):BT (w.setCell ⟨b,i,none⟩ v) b (cs.setIfInBounds i v) t:=by
 unfold BT at h ⊢
 simp[World.setCell,Array.getElem?_modify,h]
theorem BT.next {w w':World}{b t:Nat}{cs:Array Value}(h:BT w b cs t)(k:Nx w w'):BT w' b cs t:=(k.block b h.lt).trans h
theorem BT.alloc {w:World}{b t:Nat}{cs:Array Value}(h:BT w b cs t)(o:Obj):BT (w.alloc o) b cs t:=h.next (Qd _ _)
theorem BT.grown {w w':World}{o:Option Nat}{b t:Nat}{cs:Array Value}(h:BT w b cs t)(k:w.grownBy w' o)(hn:some b≠o):BT w' b cs t:=(k.block b h.lt hn).trans h
theorem Ve.bt {o:Option Nat}{w w':World}{b t:Nat}{cs:Array Value}(k:Ve o w w')(h:BT w b cs t)(hn:some b≠o):BT w' b cs t:=(k.block b h.lt hn).trans h
end Go.Proofs.YtmmolhlihhdkcaaGreatDoor
namespace Go.Proofs.YtmmolhlihhdkcaaGreatDoor
open Go.RowKit Go.Sort Go.Maps
set_option linter.unusedVariables false
set_option maxRecDepth 1000000
set_option maxHeartbeats 16000000
theorem BT.ne {w:World}{a b t u:Nat}{c d:Array Value}(h:BT w a c t)(k:BT w b d u)(hn:t≠u):a≠b:=by
 rintro rfl
 unfold BT at h k
 rw[h] at k
 simp at k
 exact hn k.2
theorem BT.neRow {w:World}{a t u C sz n:Nat}{c:Array Value}{v:Value}{xs:List Value}(h:BT w a c t)(k:w.ownsRow C u sz v n xs)(hn:t≠u):some a≠v.ownBlock:=by
 rcases k.2 with⟨rfl,_⟩|⟨g,cap,cur,rfl,_,hh,_⟩
 ·simp[Value.ownBlock]
 ·intro e
  have e':a=g:=Option.some.inj e
  subst e'
  unfold BT at h
  rw[h] at hh
  simp at hh
  exact hn hh.2
structure Chg (S:Nat->Prop)(w w':World):Prop where
 os:w'.os=w.os
 tape:w'.tape=w.tape
 output:w'.output=w.output
 size:w.heap.size<=w'.heap.size
 block:∀b,b<w.heap.size->¬S b->w'.heap[b]?=w.heap[b]?
section
variable {S:Nat->Prop}{a b c w w':World}
theorem Chg.trans (h:Chg S a b)(k:Chg S b c):Chg S a c:=
 ⟨k.os.trans h.os,k.tape.trans h.tape,k.output.trans h.output,Nat.le_trans h.size k.size,λx hx hn=>(k.block x (Nat.lt_of_lt_of_le hx h.size) hn).trans (h.block x hx hn)⟩
theorem Chg.nx (h:Nx w w'):Chg S w w':=⟨h.os,h.tape,h.output,h.size,λx hx _=>h.block x hx⟩
theorem Chg.only {o:Option Nat}(h:Ve o w w')(hS:∀b,some b=o->S b):Chg S w w':=⟨h.os,h.tape,h.output,h.size,λx hx hn=>h.block x hx (λe=>hn (hS x e))⟩
theorem Chg.grown {o:Option Nat}(h:w.grownBy w' o)(hS:∀b,some b=o->S b):Chg S w w':=⟨h.os,h.tape,h.output,h.size,λx hx hn=>h.block x hx (λe=>hn (hS x e))⟩
theorem Chg.set (g i:Nat)(v:Value)(hS:S g):Chg S w (w.setCell ⟨g,i,none⟩ v):=
 ⟨rfl,rfl,rfl,by simp[World.setCell],λx hx hn=>Below.heap_setCell _ _ _ _ (λe=>hn (by subst e;exact hS))⟩
theorem Chg.young {T:Nat->Prop}(h:Chg S a b)(k:Chg T b c)(hT:∀x,T x->x<a.heap.size->S x):Chg S a c:=
 ⟨k.os.trans h.os,k.tape.trans h.tape,k.output.trans h.output,Nat.le_trans h.size k.size,λx hx hn=>(k.block x (Nat.lt_of_lt_of_le hx h.size) (λe=>hn (hT x e hx))).trans (h.block x hx hn)⟩
theorem Chg.below (h:Chg S w w'){B:Nat}(hB:B<=w.heap.size)(hS:∀x,S x->B<=x):Below B w w':=⟨h.os,h.tape,h.output,h.size,λx hx=>h.block x (by omega) (λe=>by have:=hS x e;omega)⟩
theorem BT.chg {b t:Nat}{cs:Array Value}(h:BT w b cs t)(k:Chg S w w')(hn:¬S b):BT w' b cs t:=(k.block b h.lt hn).trans h
theorem Jm {C t sz n:Nat}{v:Value}{xs:List Value}(h:w.ownsRow C t sz v n xs)(k:Chg S w w')(hn:∀g,v.ownBlock=some g->¬S g):w'.ownsRow C t sz v n xs:=by
 refine⟨h.1,?_⟩
 rcases h.2 with h2|⟨g,cap,cur,hv,hg,hh,r⟩
 ·exact Or.inl h2
 ·exact Or.inr ⟨g,cap,cur,hv,hg,(k.block g (Array.getElem?_eq_some_iff.1 hh).1 (hn g (by rw[hv];rfl))).trans hh,r⟩
end
end Go.Proofs.YtmmolhlihhdkcaaGreatDoor
namespace Go.Proofs.YtmmolhlihhdkcaaGreatDoor
open Go.RowKit Go.Sort
set_option linter.unusedVariables false
set_option maxRecDepth 1000000
set_option maxHeartbeats 16000000
structure Src where
 code:List UInt8
 pos:Nat
 mix:Int
 size:Int
structure SOk (S:Src):Prop where
 len:S.code.length<=4000
 mix:0<=S.mix/\S.mix<1000003
 size:1<=S.size/\S.size<=8
def Qw (l:List UInt8)(i:Nat):Int:=((l.getD i 0).toNat:Int)
theorem Ih (l:List UInt8)(i:Nat):0<=Qw l i/\Qw l i<256:=by
 unfold Qw
 have:=(l.getD i 0).toNat_lt
 omega
def mx (m:Int):Int:=(m*1103+12347)%1000003
theorem Qcy {m:Int}(h:0<=m):0<=mx m/\mx m<1000003:=⟨Int.emod_nonneg _ (by omega),Int.emod_lt_of_pos _ (by omega)⟩
def nv (S:Src)(n:Int):Int:=if n<=1 then 0 else if S.pos<S.code.length/\n<=256 then Qw S.code S.pos%n else mx S.mix/3%n
def ns (S:Src)(n:Int):Src:=if n<=1 then S else if S.pos<S.code.length/\n<=256 then { S with pos:=S.pos+1 } else { S with mix:=mx S.mix }
theorem Qt {S:Src}(h:SOk S)(n:Int):0<=nv S n/\(1<=n->nv S n<n):=by
 unfold nv
 split
 ·exact⟨Int.le_refl _,λh=>by omega⟩
 ·split
  ·exact⟨Int.emod_nonneg _ (by omega),λ_=>Int.emod_lt_of_pos _ (by omega)⟩
  ·exact⟨Int.emod_nonneg _ (by omega),λ_=>Int.emod_lt_of_pos _ (by omega)⟩
theorem Qj {S:Src}(h:SOk S)(n:Int):SOk (ns S n):=by
 unfold ns
 split
 ·exact h
 ·split
  ·exact⟨h.len,h.mix,h.size⟩
  ·exact⟨h.len,Qcy h.mix.1,h.size⟩
theorem Qs (S:Src)(n:Int):(ns S n).size=S.size:=by
 unfold ns
 split
 ·rfl
 ·split<;>rfl
def Zo (C:Nat)(w:World)(v:Value)(bs:List UInt8):Prop:=w.ownsRow C 5 1 v bs.length (bs.map λx=>.int .u8 (x.toNat:Int))
theorem Zo.held {C:Nat}{w:World}{v:Value}{bs:List UInt8}(h:Zo C w v bs):Jl C w v bs.length λb off i=>w.cell? ⟨b,off+i,none⟩=some (.int .u8 (Qw bs i)):=by
 by_cases hp:0<bs.length
 ·obtain⟨h1,h2⟩:=h
  rcases h2 with⟨_,h3⟩|⟨b,cap,cur,hv,hg,hh,hc,hm,hs,ht⟩
  ·omega
  ·refine⟨_,_,hv,by omega,λ_=>⟨b,0,rfl,hg,(Array.getElem?_eq_some_iff.1 hh).1,λi hi=>?_⟩⟩
   have e:(cur.toList.take (bs.length*1))[i]?=(bs.map λx=>Value.int .u8 (x.toNat:Int))[i]?:=by rw[ht]
   rw[List.getElem?_take_of_lt (by omega),Array.getElem?_toList] at e
   have e2:(bs.map λx=>Value.int .u8 (x.toNat:Int))[i]?=some (.int .u8 (Qw bs i)):=by simp[Qw,List.getD_eq_getElem?_getD,hi]
   rw[e2] at e
   show w.cell? ⟨b,0+i,none⟩=_
   rw[Nat.zero_add]
   unfold World.cell?
   simp[hh,e]
 ·obtain⟨a,c,e⟩:=Q3 h
  have h0:bs.length=0:=by omega
  exact⟨a,c,e,by rw[h0];simp[maxLen],λh=>by omega⟩
def J8 (C:Nat)(w:World)(b:Nat)(S:Src):Prop:=∃v,BT w b #[v,.int .i64 (S.pos:Int),.int .i64 S.mix,.int .i64 S.size] 73/\Zo C w v S.code
abbrev Sx1 (b:Nat):Nat->Prop:=λx=>x=b
theorem J8.next {C:Nat}{w w':World}{b:Nat}{S:Src}(h:J8 C w b S)(k:Nx w w'):J8 C w' b S:=by
 obtain⟨v,h1,h2⟩:=h
 exact⟨v,h1.next k,Qp h2 k⟩
theorem J8.chg {T:Nat->Prop}{C:Nat}{w w':World}{b:Nat}{S:Src}(h:J8 C w b S)(k:Chg T w w')(hn:∀x,T x->∃cs t,BT w x cs t/\t≠73/\t≠5):J8 C w' b S:=by
 obtain⟨v,h1,h2⟩:=h
 refine⟨v,h1.chg k (λhT=>?_),Jm h2 k (λg hg hT=>?_)⟩
 ·obtain⟨cs,t,hb,e1,_⟩:=hn b hT
  exact hb.ne h1 e1 rfl
 ·obtain⟨cs,t,hb,_,e2⟩:=hn g hT
  exact hb.neRow h2 e2 hg.symm
theorem Q54 {C b:Nat}{w:World}{v:Value}{cs:Array Value}{bs:List UInt8}(hb:BT w b cs 73)(ho:Zo C w v bs)(i:Nat)(u:Value):BT (w.setCell ⟨b,i,none⟩ u) b (cs.setIfInBounds i u) 73/\Zo C (w.setCell ⟨b,i,none⟩ u) v bs:=
 ⟨hb.set i u,Jm ho (Chg.set (S:=Sx1 b) _ _ _ rfl) (λg hg e=>by
  have e':g=b:=e
  subst e'
  exact hb.neRow ho (by decide) hg.symm)⟩
theorem Qe (C b:Nat)(S:Src)(n:Int)(w:World)(h:J8 C w b S)(hok:SOk S)(hn:n<=1000000000) :
  Calls Tryz.prog 36 #[.pointer (some ⟨b,0,none⟩),.int .i64 n] w λe w'=>e=.returned (.int .i64 (nv S n))/\J8 C w' b (ns S n)/\Chg (Sx1 b) w w':=by
 have HS:Hid (J8 C w b S):=h
 by_cases h1:n<=1
 ·have e1:Hid (nv S n=0):=by unfold Hid nv;rw[if_pos h1]
  have e2:Hid (ns S n=S):=by unfold Hid ns;rw[if_pos h1]
  go_enter Tryz.func36,Tryz.ntmps36
  go_wp2
  go_ret
  rw[e1.out,e2.out]
  exact⟨rfl,HS.out,Chg.nx (Nx.refl _)⟩
 obtain⟨v,hb,ho⟩:=h
 have HB:Hid (BT w b #[v,.int .i64 (S.pos:Int),.int .i64 S.mix,.int .i64 S.size] 73):=hb
 have HO:Hid (Zo C w v S.code):=ho
 obtain⟨a,c,ev,hm,hk⟩:=ho.held
 subst ev
 have hl:=hok.len
 have hmx:=hok.mix
 generalize hL:S.code.length=L at *
 have HL:Hid (S.code.length=L):=hL
 have b0:w.cell? ⟨b,0,none⟩=some (.slice a L c):=hb.blk.cell (i:=0) rfl
 have b1:w.cell? ⟨b,1,none⟩=some (.int .i64 (S.pos:Int)):=hb.blk.cell (i:=1) rfl
 have b2:w.cell? ⟨b,2,none⟩=some (.int .i64 S.mix):=hb.blk.cell (i:=2) rfl
 by_cases hp:S.pos<L/\n<=256
 ·have e1:Hid (nv S n=Qw S.code S.pos%n):=by unfold Hid nv;rw[if_neg h1,HL.out,if_pos hp]
  have e2:Hid (ns S n={ S with pos:=S.pos+1 }):=by unfold Hid ns;rw[if_neg h1,HL.out,if_pos hp]
  obtain⟨cb,co,rfl,_,_,hc⟩:=hk (by omega)
  have c1:=hc S.pos hp.1
  have hbi:=Ih S.code S.pos
  have hwy:wrap64 (Qw S.code S.pos)=Qw S.code S.pos:=Go.IntWalk.wrap64_in _ ⟨by omega,by omega⟩
  generalize hPP:S.pos=P at *
  obtain⟨p1,p2⟩:=hp
  have p1':(P:Int)<L:=by omega
  clear hk hc hPP hb ho hL
  go_enter Tryz.func36,Tryz.ntmps36
  go_upto_region 3 with fail
  go_quiet (fail)
  generalize wdq:w.drewN nq=w1 at *
  have HX1:Hid (Nx w w1):=by unfold Hid;rw[<-wdq];exact Vd _ _
  clear wdq
  have b0':=Qf HX1.out b0
  have b1':=Qf HX1.out b1
  have c1':=Qf HX1.out c1
  go_upto_region 4 with fail
  go_quiet (fail)
  generalize wdq:w1.drewN nq=w2 at *
  have HX2:Hid (Nx w w2):=by unfold Hid;rw[<-wdq];exact HX1.out.trans (Vd _ _)
  clear wdq b0' b1' c1' b0 b1 c1
  have BB:=HB.out.next HX2.out
  have b1:w2.cell? ⟨b,1,none⟩=some (.int .i64 (P:Int)):=BB.blk.cell (i:=1) rfl
  have f1:=BB.blk.frozen 1
  have n0:n≠0:=by omega
  have n1:(n==0)=false:=by simpa using n0
  have hP:(P:Int)<=4000:=by omega
  go_wp2
  go_ret
  rw[e1.out,e2.out]
  have hs:=Q54 BB (Qp HO.out HX2.out) 1 (.int .i64 ((P:Int)+1))
  exact⟨rfl,⟨_,hs.1,hs.2⟩,(Chg.nx HX2.out).trans (Chg.set _ _ _ rfl)⟩
 ·have e1:Hid (nv S n=mx S.mix/3%n):=by unfold Hid nv;rw[if_neg h1,HL.out,if_neg hp]
  have e2:Hid (ns S n={ S with mix:=mx S.mix }):=by unfold Hid ns;rw[if_neg h1,HL.out,if_neg hp]
  have hmm:=Qcy hmx.1
  have n0:n≠0:=by omega
  have n1:(n==0)=false:=by simpa using n0
  have f2:=hb.blk.frozen 2
  clear hk hb ho hL
  go_enter Tryz.func36,Tryz.ntmps36
  go_upto_region 3 with fail
  go_cut [21] from 8 to 21 (λs wc=>s=.bool false/\Hid (Nx w wc))
  case first=>
   by_cases p1:S.pos<L
   ·have p1':decide ((S.pos:Int)<L)=true:=by simp;omega
    have p2:decide (n<=256)=false:=by simp;omega
    go_quiet (fail)
    go_wp2
    go_meet
    exact⟨rfl,Vd _ _⟩
   ·have p1':decide ((S.pos:Int)<L)=false:=by simp;omega
    go_quiet (fail)
    go_wp2
    go_meet
    exact⟨rfl,Vd _ _⟩
  case rest=>
  obtain⟨rfl,HX2⟩:=hcut
  have BB:=HB.out.next HX2.out
  clear b0 b1 b2 f2
  have b2:wc.cell? ⟨b,2,none⟩=some (.int .i64 S.mix):=BB.blk.cell (i:=2) rfl
  have f2:=BB.blk.frozen 2
  go_wp2
  go_ret
  rw[e1.out,e2.out]
  have hs:=Q54 BB (Qp HO.out HX2.out) 2 (.int .i64 (mx S.mix))
  exact⟨rfl,⟨_,hs.1,hs.2⟩,(Chg.nx HX2.out).trans (Chg.set _ _ _ rfl)⟩
def dwV (S:Src):Int:=if nv S 16<10 then nv S 16 else if nv S 16=15 then 1048576 else if nv S 16=14 then nv (ns S 16) 1048577 else nv S 16-10
def dwS (S:Src):Src:=if nv S 16=14 then ns (ns S 16) 1048577 else ns S 16
theorem Q41 {S:Src}(h:SOk S):SOk (dwS S):=by
 unfold dwS
 split
 ·exact Qj (Qj h _) _
 ·exact Qj h _
theorem Qaa (S:Src):(dwS S).size=S.size:=by
 unfold dwS
 split
 ·rw[Qs,Qs]
 ·rw[Qs]
theorem Chg.src {b:Nat}{w w1 w2:World}(h:Chg (Sx1 b) w w1)(k:Chg (Sx1 b) w1 w2):Chg (Sx1 b) w w2:=h.trans k
theorem Yq (C b:Nat)(S:Src)(w:World)(h:J8 C w b S)(hok:SOk S) :
  Calls Tryz.prog 91 #[.pointer (some ⟨b,0,none⟩)] w λe w'=>e=.returned (.int .i64 (dwV S))/\J8 C w' b (dwS S)/\Chg (Sx1 b) w w':=by
 have HOK:Hid (SOk S):=hok
 have h1:=Qt hok 16
 go_enter Tryz.func91,Tryz.ntmps91
 go_wp2_with fail
 refine(Qe C b S 16 w h hok (by omega)).mono ?_
 rintro e w1 ⟨rfl,h1s,hc⟩
 have HS1:Hid (J8 C w1 b (ns S 16)):=h1s
 have HC1:Hid (Chg (Sx1 b) w w1):=hc
 have HV:Hid (dwV S=if nv S 16<10 then nv S 16 else if nv S 16=15 then 1048576 else if nv S 16=14 then nv (ns S 16) 1048577 else nv S 16-10):=rfl
 have HD:Hid (dwS S=if nv S 16=14 then ns (ns S 16) 1048577 else ns S 16):=rfl
 generalize nv S 16=k at *
 clear h1s hc
 by_cases k1:k<10
 ·have HF:Hid (dwV S=k):=by unfold Hid;rw[HV.out,if_pos k1]
  have HG:Hid (dwS S=ns S 16):=by unfold Hid;rw[HD.out,if_neg (by omega)]
  go_wp2
  go_ret
  rw[HF.out,HG.out]
  exact⟨rfl,HS1.out,HC1.out⟩
 by_cases k2:k=15
 ·have HF:Hid (dwV S=1048576):=by unfold Hid;rw[HV.out,if_neg k1,if_pos k2]
  have HG:Hid (dwS S=ns S 16):=by unfold Hid;rw[HD.out,if_neg (by omega)]
  subst k2
  go_wp2
  go_ret
  rw[HF.out,HG.out]
  exact⟨rfl,HS1.out,HC1.out⟩
 have d2:(k==15)=false:=by simpa using k2
 by_cases k3:k=14
 ·have HF:Hid (dwV S=nv (ns S 16) 1048577):=by unfold Hid;rw[HV.out,if_neg k1,if_neg k2,if_pos k3]
  have HG:Hid (dwS S=ns (ns S 16) 1048577):=by unfold Hid;rw[HD.out,if_pos k3]
  subst k3
  clear d2 k2 k1
  go_wp2_with fail
  refine(Qe C b (ns S 16) 1048577 w1 HS1.out (Qj HOK.out _) (by omega)).mono ?_
  rintro e w2 ⟨rfl,h2s,hc2⟩
  go_wp2
  go_ret
  rw[HF.out,HG.out]
  exact⟨rfl,h2s,HC1.out.trans hc2⟩
 ·have d3:(k==14)=false:=by simpa using k3
  have HF:Hid (dwV S=k-10):=by unfold Hid;rw[HV.out,if_neg k1,if_neg k2,if_neg k3]
  have HG:Hid (dwS S=ns S 16):=by unfold Hid;rw[HD.out,if_neg k3]
  clear k3 k2
  go_wp2
  go_ret
  rw[HF.out,HG.out]
  exact⟨rfl,HS1.out,HC1.out⟩
section
variable {t e:TypeId}{size bytes:Nat}{z:Value}
theorem Xu (hinfo:(Tryz.prog.info? e).map (λi=>(i.zero,i.size,i.bytes))=some (some z,size,bytes))(ht:Tryz.prog.underlying t=some (.slice e))(hz:z.cells.size=size)(hsz:0<size)(hby:bytes<=1000)
  {ops:Array Oper}{rest:List Oper}{o:Oper}{a:Act}{Q:Exit->Act->World->Prop} (hgd:o.guard=none) (s x:Operand) (ho:o.op=.call { callee:=.builtin .append,args:=#[s,x],argTypes:=#[t,t] })
  (C n:Nat) (v:Value) (xs news:List Value) (w0:World) (hs:a.eval s=v) (hown:w0.ownsRow C e size v n xs) (hx:a.eval x=.slice (some ⟨w0.heap.size,0,none⟩) 1 1) (hl:news.length=size) (h1:∀u∈news,u.oneCell'=true) (hn:n<=1000000) (hC:C<=w0.heap.size)
  (h:∀a' c' w',w'.ownsRow C e size (.slice a' (n+1) c') (n+1) (xs++news)->Chg (λx=>some x=v.ownBlock) w0 w'->(∀g,(Value.slice a' (n+1) c').ownBlock=some g->v.ownBlock=some g\/w0.heap.size<=g)->wpList Tryz.prog ops Q rest (a.put o.dst (.slice a' (n+1) c')) w') :
  wpList Tryz.prog ops Q (o::rest) a (w0.alloc (.cells news.toArray e)):=by
 obtain⟨ii,hi,hz0,hz1,hz2⟩:=info_parts hinfo
 refine wpList_append_own_at _ hgd s x t ho C e ii z size bytes ht hi hz0 hz1 hz2 hz hsz v n xs hs (World.ownsRow.alloc hown _) ⟨w0.heap.size,0,none⟩ 1 1 news hx (by rw[hl,Nat.one_mul]) (λj u hj=>Xk w0 _ _ _ rfl j u (by simpa using hj)) h1 (by unfold maxLen;omega) ?_ (by rw[Q7];omega) ?_
 ·have:(n+1)*bytes<=1000001*1000:=Nat.mul_le_mul (by omega) hby
  omega
 ·intro v' w' r1 r2 _ r4
  obtain⟨a',c',rfl⟩:=Q3 r1
  refine h a' c' w' r1 (Chg.grown ((World.grownBy_alloc w0 _ _).trans r2) (λb e=>e)) (λg hg=>?_)
  rcases r4 with r4|r4
  ·exact Or.inl (by rw[<-r4];exact hg)
  ·rw[r4] at hg
   have:=Option.some.inj hg
   rw[Q7] at this
   exact Or.inr (by omega)
theorem Jo (hinfo:(Tryz.prog.info? e).map (λi=>(i.zero,i.size,i.bytes))=some (some z,size,bytes))(ht:Tryz.prog.underlying t=some (.slice e))(hz:z.cells.size=size)(hsz:0<size)(hby:bytes<=1000)
  {k:Nat}{ops:Array Oper}{o:Oper}{a:Act}{K:Act->World->Prop}{Q:Exit->Act->World->Prop}{E:Prop} (hgd:o.guard=none) (s x:Operand) (ho:o.op=.call { callee:=.builtin .append,args:=#[s,x],argTypes:=#[t,t] })
  (C n:Nat) (v:Value) (xs news:List Value) (w0 W:World) (hW:W=w0.alloc (.cells news.toArray e)) (hs:a.eval s=v) (hown:w0.ownsRow C e size v n xs) (hx:a.eval x=.slice (some ⟨w0.heap.size,0,none⟩) 1 1) (hl:news.length=size) (h1:∀u∈news,u.oneCell'=true) (hn:n<=1000000) (hC:C<=w0.heap.size)
  (h:∀a' c' w',w'.ownsRow C e size (.slice a' (n+1) c') (n+1) (xs++news)->Chg (λx=>some x=v.ownBlock) w0 w'->(∀g,(Value.slice a' (n+1) c').ownBlock=some g->v.ownBlock=some g\/w0.heap.size<=g)->K (a.put o.dst (.slice a' (n+1) c')) w') :
  if Region.wanted o (yielded ops a.tmps)=true then Oper.wpIn Fence.wide k Tryz.prog o a W K Q else E:=by
 obtain⟨ii,hi,hz0,hz1,hz2⟩:=info_parts hinfo
 subst hW
 refine Gq hgd s x t ho e ii z size bytes ht hi hz0 hz1 hz2 hz hsz C v n xs hs (World.ownsRow.alloc hown _) ⟨w0.heap.size,0,none⟩ 1 1 news hx (by rw[hl,Nat.one_mul]) (λj u hj=>Xk w0 _ _ _ rfl j u (by simpa using hj)) h1 (by unfold maxLen;omega) ?_ (by rw[Q7];omega) ?_
 ·have:(n+1)*bytes<=1000001*1000:=Nat.mul_le_mul (by omega) hby
  omega
 ·intro v' w' r1 r2 r4
  obtain⟨a',c',rfl⟩:=Q3 r1
  refine h a' c' w' r1 (Chg.grown ((World.grownBy_alloc w0 _ _).trans r2) (λb e=>e)) (λg hg=>?_)
  rcases r4 with r4|r4
  ·exact Or.inl (by rw[<-r4];exact hg)
  ·rw[r4] at hg
   have:=Option.some.inj hg
   rw[Q7] at this
   exact Or.inr (by omega)
end
theorem Ul:(Tryz.prog.info? 51).map (λi=>(i.zero,i.size,i.bytes))=some (some (.agg #[.int .i64 0,.int .i64 0,.int .i64 0]),3,24):=by kernel_rfl
theorem Yc:(Tryz.prog.info? 45).map (λi=>(i.zero,i.size,i.bytes))=some (some (.agg #[.int .i64 0,.bool false,.slice none 0 0,.slice none 0 0]),4,64):=by kernel_rfl
theorem Wu:(Tryz.prog.info? 48).map (λi=>(i.zero,i.size,i.bytes))=some (some (.agg #[.int .i64 0,.bool false,.int .i64 0,.int .i64 0,.bool false,.int .i64 0,.slice none 0 0]),7,72):=by kernel_rfl
theorem Q7e:(Tryz.prog.info? 5).map (λi=>(i.zero,i.size,i.bytes))=some (some (.int .u8 0),1,1):=by kernel_rfl
theorem Xb {ops:Array Oper}{rest:List Oper}{o:Oper}{a:Act}{Q:Exit->Act->World->Prop}(hgd:o.guard=none)(s x:Operand)(ho:o.op=.call { callee:=.builtin .append,args:=#[s,x],argTypes:=#[23,23] })
  (C n:Nat) (v:Value) (zs:List Int) (y:Int) (w0:World) (hs:a.eval s=v) (hown:Qb C w0 v zs) (hx:a.eval x=.slice (some ⟨w0.heap.size,0,none⟩) 1 1) (hn:zs.length=n) (hm:n<=1000000) (hC:C<=w0.heap.size)
  (h:∀a' c' w',Qb C w' (.slice a' (n+1) c') (zs++[y])->Chg (λx=>some x=v.ownBlock) w0 w'->(∀g,(Value.slice a' (n+1) c').ownBlock=some g->v.ownBlock=some g\/w0.heap.size<=g)->wpList Tryz.prog ops Q rest (a.put o.dst (.slice a' (n+1) c')) w') :
  wpList Tryz.prog ops Q (o::rest) a (w0.alloc (.cells #[.int .i64 y] 2)):=by
 subst hn
 refine Xu Zt Tryz.underlying23 rfl (by decide) (by decide) hgd s x ho C zs.length v (Qx zs) [.int .i64 y] w0 hs hown hx rfl (by intro u hu;simp at hu;subst hu;rfl) hm hC (λa' c' w' r1 r2 r3=>h a' c' w' ?_ r2 r3)
 exact Qb.snoc r1
theorem Xz {k:Nat}{ops:Array Oper}{o:Oper}{a:Act}{K:Act->World->Prop}{Q:Exit->Act->World->Prop}{E:Prop}(hgd:o.guard=none)(s x:Operand)(ho:o.op=.call { callee:=.builtin .append,args:=#[s,x],argTypes:=#[23,23] })
  (C n:Nat) (v:Value) (zs:List Int) (y:Int) (w0 W:World) (hW:W=w0.alloc (.cells #[.int .i64 y] 2)) (hs:a.eval s=v) (hown:Qb C w0 v zs) (hx:a.eval x=.slice (some ⟨w0.heap.size,0,none⟩) 1 1) (hn:zs.length=n) (hm:n<=1000000) (hC:C<=w0.heap.size)
  (h:∀a' c' w',Qb C w' (.slice a' (n+1) c') (zs++[y])->Chg (λx=>some x=v.ownBlock) w0 w'->(∀g,(Value.slice a' (n+1) c').ownBlock=some g->v.ownBlock=some g\/w0.heap.size<=g)->K (a.put o.dst (.slice a' (n+1) c')) w') :
  if Region.wanted o (yielded ops a.tmps)=true then Oper.wpIn Fence.wide k Tryz.prog o a W K Q else E:=by
 subst hn
 refine Jo Zt Tryz.underlying23 rfl (by decide) (by decide) hgd s x ho C zs.length v (Qx zs) [.int .i64 y] w0 W hW hs hown hx rfl (by intro u hu;simp at hu;subst hu;rfl) hm hC (λa' c' w' r1 r2 r3=>h a' c' w' ?_ r2 r3)
 exact Qb.snoc r1
def Je (t:Tn):List Value:=[.int .i64 t.frm,.int .i64 t.to,.int .i64 t.cost]
def Uq (C:Nat)(w:World)(v:Value)(ts:List Tn):Prop:=w.ownsRow C 51 3 v ts.length (ts.flatMap Je)
theorem Qd1 {α:Type}{k:Nat}(hk:0<k)(l:List α)(f:α->List Value)(hf:∀x,(f x).length=k)(i q:Nat)(hq:q<k)(x:α)(hx:l[i]?=some x):(l.flatMap f)[i*k+q]?=(f x)[q]?:=by
 induction l generalizing i with
 |nil=>simp at hx
 |cons a l ih=>
  cases i with
  |zero=>
   simp at hx
   subst hx
   rw[List.flatMap_cons,Nat.zero_mul,Nat.zero_add,List.getElem?_append_left (by rw[hf];exact hq)]
  |succ i=>
   rw[List.flatMap_cons,List.getElem?_append_right (by rw[hf,Nat.succ_mul];omega),hf,show(i+1)*k+q-k=i*k+q by rw[Nat.succ_mul];omega]
   exact ih i (by simpa using hx)
theorem Jc {α:Type}{C t k n:Nat}{w:World}{v:Value}{l:List α}{f:α->List Value}(h:w.ownsRow C t k v n (l.flatMap f))(hl:l.length=n)(hk:0<k)(hf:∀x,(f x).length=k){i:Nat}{x:α}(hx:l[i]?=some x) :
  ∃b c,v=.slice (some ⟨b,0,none⟩) n c/\n<=c/\n<=maxLen/\C<=b/\b<w.heap.size/\∀q,q<k->w.cell? ⟨b,i*k+q,none⟩=(f x)[q]?:=by
 have hi:i<l.length:=(List.getElem?_eq_some_iff.1 hx).1
 obtain⟨h1,h2⟩:=h
 rcases h2 with⟨_,h3⟩|⟨b,cap,cur,hv,hg,hh,hc,hm,hs,ht⟩
 ·omega
 ·refine⟨b,cap,hv,hc,by omega,hg,(Array.getElem?_eq_some_iff.1 hh).1,λq hq=>?_⟩
  have hlt:i*k+q<n*k:=by
   have:(i+1)*k<=n*k:=Nat.mul_le_mul_right _ (by omega)
   rw[Nat.succ_mul] at this
   omega
  have e1:(cur.toList.take (n*k))[i*k+q]?=(l.flatMap f)[i*k+q]?:=by rw[ht]
  rw[List.getElem?_take_of_lt hlt,Array.getElem?_toList] at e1
  have e2:=Qd1 hk l f hf i q hq x hx
  unfold World.cell?
  simp only[hh]
  rw[e1,e2]
  rfl
theorem Q08 {C t k n:Nat}{w:World}{v:Value}{xs:List Value}(h:w.ownsRow C t k v n xs):n<=maxLen:=by
 rcases h.2 with⟨_,h3⟩|⟨b,cap,cur,hv,hg,hh,hc,hm,hs,ht⟩
 ·rw[h3];exact Nat.zero_le _
 ·omega
theorem Uq.held {C:Nat}{w:World}{v:Value}{ts:List Tn}(h:Uq C w v ts):Vn C w v ts:=by
 obtain⟨a,c,rfl⟩:=Q3 h
 refine⟨a,c,rfl,Q08 h,λhp=>?_⟩
 have at_:∀i,i<ts.length->ts[i]?=some (tat ts i):=λi hi=>by simp[tat,List.getD_eq_getElem?_getD,hi]
 obtain⟨b,c',e,_,_,hC,hb,_⟩:=Jc h rfl (by decide) (λ_=>rfl) (at_ 0 hp)
 simp only[Value.slice.injEq] at e
 obtain⟨rfl,_,rfl⟩:=e
 refine⟨b,0,rfl,hC,hb,λi hi=>?_⟩
 obtain⟨b',c',e,_,_,_,_,k⟩:=Jc h rfl (by decide) (λ_=>rfl) (at_ i hi)
 simp only[Value.slice.injEq,Option.some.injEq,Addr.mk.injEq] at e
 obtain⟨⟨rfl,_⟩,_⟩:=e
 rw[Nat.zero_add]
 exact⟨k 0 (by omega),k 1 (by omega),k 2 (by omega)⟩
end Go.Proofs.YtmmolhlihhdkcaaGreatDoor
namespace Go.Proofs.YtmmolhlihhdkcaaGreatDoor
open Go.RowKit Go.Sort Go.Maps
set_option linter.unusedVariables false
set_option maxRecDepth 1000000
set_option maxHeartbeats 16000000
def upd {α:Type}(f:Nat->α)(i:Nat)(v:α):Nat->α:=λj=>if j=i then v else f j
theorem Jf {α:Type}(f:Nat->α)(i:Nat)(v:α):upd f i v i=v:=if_pos rfl
theorem J4 {α:Type}(f:Nat->α){i j:Nat}(v:α)(h:j≠i):upd f i v j=f j:=if_neg h
end Go.Proofs.YtmmolhlihhdkcaaGreatDoor
namespace Go.Proofs.YtmmolhlihhdkcaaGreatDoor
open Go.RowKit Go.Sort
set_option linter.unusedVariables false
set_option maxRecDepth 1000000
set_option maxHeartbeats 16000000
def Pc (x:Wy)(a b:Value):List Value:=[.int .i64 x.id,.bool x.both,a,b]
def V4 (ws:List Wy)(vn vw:Nat->Value):List Value:=(List.range ws.length).flatMap λi=>Pc (wat ws i) (vn i) (vw i)
theorem Zf {ws us:List Wy}{i:Nat}(h:i<ws.length):wat (ws++us) i=wat ws i:=by simp[wat,List.getD_eq_getElem?_getD,List.getElem?_append_left h]
theorem Zg {ws:List Wy}{x:Wy}:wat (ws++[x]) ws.length=x:=by simp[wat,List.getD_eq_getElem?_getD]
theorem V8 {α:Type}{l:List Nat}{f g:Nat->List α}(h:∀i∈l,f i=g i):l.flatMap f=l.flatMap g:=by
 induction l with
 |nil=>rfl
 |cons a l ih=>
  rw[List.flatMap_cons,List.flatMap_cons,h a (by simp),ih (λi hi=>h i (by simp[hi]))]
theorem Ey (ws:List Wy)(vn vw:Nat->Value)(x:Wy)(a b:Value):V4 (ws++[x]) (upd vn ws.length a) (upd vw ws.length b)=V4 ws vn vw++Pc x a b:=by
 unfold V4
 rw[List.length_append,List.length_singleton,List.range_succ,List.flatMap_append]
 congr 1
 ·refine V8 λi hi=>?_
  have hi':=List.mem_range.1 hi
  rw[Zf hi',J4 _ _ (by omega),J4 _ _ (by omega)]
 ·simp[Zg,Jf]
def Yk (C:Nat)(w:World)(v:Value)(ws:List Wy)(vn vw:Nat->Value):Prop:=w.ownsRow C 45 4 v ws.length (V4 ws vn vw)
theorem Yk.at {C:Nat}{w:World}{v:Value}{ws:List Wy}{vn vw:Nat->Value}(h:Yk C w v ws vn vw){i:Nat}(hi:i<ws.length) :
  ∃b c,v=.slice (some ⟨b,0,none⟩) ws.length c/\C<=b/\b<w.heap.size/\w.cell? ⟨b,i*4,none⟩=some (.int .i64 (wat ws i).id)/\w.cell? ⟨b,i*4+1,none⟩=some (.bool (wat ws i).both)/\w.cell? ⟨b,i*4+2,none⟩=some (vn i)/\w.cell? ⟨b,i*4+3,none⟩=some (vw i):=by
 obtain⟨b,c,e,_,_,hC,hb,k⟩:=Jc (l:=List.range ws.length) (f:=λi=>Pc (wat ws i) (vn i) (vw i)) h (List.length_range) (by decide) (λ_=>rfl) (i:=i) (x:=i) (by simp[hi])
 exact⟨b,c,e,hC,hb,k 0 (by omega),k 1 (by omega),k 2 (by omega),k 3 (by omega)⟩
theorem Yk.held {C:Nat}{w:World}{v:Value}{ws:List Wy}{vn vw:Nat->Value}(h:Yk C w v ws vn vw)(hn:∀i,i<ws.length->Qb C w (vn i) (wat ws i).nodes)(hw:∀i,i<ws.length->Qb C w (vw i) (wat ws i).weights):Vh C w v ws:=by
 obtain⟨a,c,rfl⟩:=Q3 h
 refine⟨a,c,rfl,Q08 h,λhp=>?_⟩
 obtain⟨b,c',e,hC,hb,_⟩:=h.at hp
 simp only[Value.slice.injEq] at e
 obtain⟨rfl,_,rfl⟩:=e
 refine⟨b,0,rfl,hC,hb,λi hi=>?_⟩
 obtain⟨b',c',e,_,_,k0,k1,k2,k3⟩:=h.at hi
 simp only[Value.slice.injEq,Option.some.injEq,Addr.mk.injEq] at e
 obtain⟨⟨rfl,_⟩,_⟩:=e
 rw[Nat.zero_add]
 exact⟨_,_,k0,k1,k2,k3,(hn i hi).held,(hw i hi).held⟩
def Q0c (x:Rl)(a:Value):List Value:=[.int .i64 x.id,.bool x.only,.int .i64 x.frm,.int .i64 x.to,.bool x.via,.int .i64 x.node,a]
def Zz (rs:List Rl)(vr:Nat->Value):List Value:=(List.range rs.length).flatMap λi=>Q0c (rat rs i) (vr i)
theorem Q1j {rs us:List Rl}{i:Nat}(h:i<rs.length):rat (rs++us) i=rat rs i:=by simp[rat,List.getD_eq_getElem?_getD,List.getElem?_append_left h]
theorem Q1k {rs:List Rl}{x:Rl}:rat (rs++[x]) rs.length=x:=by simp[rat,List.getD_eq_getElem?_getD]
theorem Q6s (rs:List Rl)(vr:Nat->Value)(x:Rl)(a:Value):Zz (rs++[x]) (upd vr rs.length a)=Zz rs vr++Q0c x a:=by
 unfold Zz
 rw[List.length_append,List.length_singleton,List.range_succ,List.flatMap_append]
 congr 1
 ·refine V8 λi hi=>?_
  have hi':=List.mem_range.1 hi
  rw[Q1j hi',J4 _ _ (by omega)]
 ·simp[Q1k,Jf]
def Ir (C:Nat)(w:World)(v:Value)(rs:List Rl)(vr:Nat->Value):Prop:=w.ownsRow C 48 7 v rs.length (Zz rs vr)
theorem Ir.at {C:Nat}{w:World}{v:Value}{rs:List Rl}{vr:Nat->Value}(h:Ir C w v rs vr){i:Nat}(hi:i<rs.length) :
  ∃b c,v=.slice (some ⟨b,0,none⟩) rs.length c/\C<=b/\b<w.heap.size/\w.cell? ⟨b,i*7,none⟩=some (.int .i64 (rat rs i).id)/\w.cell? ⟨b,i*7+1,none⟩=some (.bool (rat rs i).only)/\w.cell? ⟨b,i*7+2,none⟩=some (.int .i64 (rat rs i).frm)/\w.cell? ⟨b,i*7+3,none⟩=some (.int .i64 (rat rs i).to)/\w.cell? ⟨b,i*7+4,none⟩=some (.bool (rat rs i).via)/\w.cell? ⟨b,i*7+5,none⟩=some (.int .i64 (rat rs i).node)/\w.cell? ⟨b,i*7+6,none⟩=some (vr i):=by
 obtain⟨b,c,e,_,_,hC,hb,k⟩:=Jc (l:=List.range rs.length) (f:=λi=>Q0c (rat rs i) (vr i)) h (List.length_range) (by decide) (λ_=>rfl) (i:=i) (x:=i) (by simp[hi])
 exact⟨b,c,e,hC,hb,k 0 (by omega),k 1 (by omega),k 2 (by omega),k 3 (by omega),k 4 (by omega),k 5 (by omega),k 6 (by omega)⟩
theorem Ir.held {C:Nat}{w:World}{v:Value}{rs:List Rl}{vr:Nat->Value}(h:Ir C w v rs vr)(hr:∀i,i<rs.length->Qb C w (vr i) (rat rs i).ways):Zx C w v rs:=by
 obtain⟨a,c,rfl⟩:=Q3 h
 refine⟨a,c,rfl,Q08 h,λhp=>?_⟩
 obtain⟨b,c',e,hC,hb,_⟩:=h.at hp
 simp only[Value.slice.injEq] at e
 obtain⟨rfl,_,rfl⟩:=e
 refine⟨b,0,rfl,hC,hb,λi hi=>?_⟩
 obtain⟨b',c',e,_,_,k0,k1,k2,k3,k4,k5,k6⟩:=h.at hi
 simp only[Value.slice.injEq,Option.some.injEq,Addr.mk.injEq] at e
 obtain⟨⟨rfl,_⟩,_⟩:=e
 rw[Nat.zero_add]
 exact⟨_,k0,k1,k2,k3,k4,k5,k6,(hr i hi).held⟩
def Apt (l:List Value):Prop:=l.Pairwise λa b=>∀g,a.ownBlock=some g->b.ownBlock≠some g
def Ja (N:Nt)(v0:Value)(vn vw vr:Nat->Value):List Value:=v0::((List.range N.ways.length).flatMap λi=>[vn i,vw i])++(List.range N.rels.length).map vr
structure ONt (C:Nat)(w:World)(v0 v1 v2 v3:Value)(N:Nt)(vn vw vr:Nat->Value):Prop where
 nodes:Qb C w v0 N.nodes
 ways:Yk C w v1 N.ways vn vw
 wn:∀i,i<N.ways.length->Qb C w (vn i) (wat N.ways i).nodes
 ww:∀i,i<N.ways.length->Qb C w (vw i) (wat N.ways i).weights
 rels:Ir C w v2 N.rels vr
 rw_:∀i,i<N.rels.length->Qb C w (vr i) (rat N.rels i).ways
 turns:Uq C w v3 N.turns
 apart:Apt (Ja N v0 vn vw vr)
theorem ONt.held {C:Nat}{w:World}{v0 v1 v2 v3:Value}{N:Nt}{vn vw vr:Nat->Value}(h:ONt C w v0 v1 v2 v3 N vn vw vr):Yf C w v0 v1 v2 v3 N:=⟨h.nodes.held,h.ways.held h.wn h.ww,h.rels.held h.rw_,h.turns.held⟩
theorem ONt.next {C:Nat}{w w':World}{v0 v1 v2 v3:Value}{N:Nt}{vn vw vr:Nat->Value}(h:ONt C w v0 v1 v2 v3 N vn vw vr)(k:Nx w w'):ONt C w' v0 v1 v2 v3 N vn vw vr:=
 ⟨h.nodes.next k,Qp h.ways k,λi hi=>(h.wn i hi).next k,λi hi=>(h.ww i hi).next k,Qp h.rels k,λi hi=>(h.rw_ i hi).next k,Qp h.turns k,h.apart⟩
theorem ONt.src {C D b:Nat}{S:Src}{w w':World}{v0 v1 v2 v3:Value}{N:Nt}{vn vw vr:Nat->Value}(h:ONt C w v0 v1 v2 v3 N vn vw vr)(hS:J8 D w b S)(k:Chg (Sx1 b) w w'):ONt C w' v0 v1 v2 v3 N vn vw vr:=by
 obtain⟨v,hb,_⟩:=hS
 have key:∀{t sz n:Nat}{u:Value}{xs:List Value},w.ownsRow C t sz u n xs->73≠t->w'.ownsRow C t sz u n xs:=λhr ht=>Jm hr k (λg hg hx=>by
  have hx':g=b:=hx
  subst hx'
  exact hb.neRow hr ht hg.symm)
 exact⟨key h.nodes (by decide),key h.ways (by decide),λi hi=>key (h.wn i hi) (by decide),λi hi=>key (h.ww i hi) (by decide),key h.rels (by decide),λi hi=>key (h.rw_ i hi) (by decide),key h.turns (by decide),h.apart⟩
theorem Q6d {P:Nat->Prop}{n:Nat}(h:∀m,m<n->P m)(h1:P n):∀m,m<n+1->P m:=λm hm=>by
 rcases Nat.lt_or_eq_of_le (Nat.lt_succ_iff.1 hm) with h2|rfl
 ·exact h m h2
 ·exact h1
def Ua (x t:Tn):Bool:=x.frm==t.frm&&x.to==t.to
def gtT (x t:Tn):Bool:=decide (t.frm<x.frm)||(x.frm==t.frm&&decide (t.to<x.to))
def Jr (ts:List Tn)(t:Tn):Nat->List Tn×Bool
 |0=>([],false)
 |i+1=>if !(Jr ts t i).2&&gtT (tat ts i) t then ((Jr ts t i).1++[t]++[tat ts i],true) else ((Jr ts t i).1++[tat ts i],(Jr ts t i).2)
def Pn (ts:List Tn)(t:Tn):List Tn:=if ts.any (λx=>Ua x t) then ts else if (Jr ts t ts.length).2 then (Jr ts t ts.length).1 else (Jr ts t ts.length).1++[t]
theorem Ic (ts:List Tn)(t:Tn):∀i,(Jr ts t i).1.length=i+if (Jr ts t i).2 then 1 else 0
 |0=>rfl
 |i+1=>by
  have h:=Ic ts t i
  unfold Jr
  by_cases q:(!(Jr ts t i).2&&gtT (tat ts i) t)=true
  ·rw[if_pos q]
   rw[Bool.and_eq_true,Bool.not_eq_true'] at q
   rw[q.1] at h
   simp[h]
  ·rw[if_neg q]
   simp only[List.length_append,List.length_singleton,h]
   omega
theorem Qav (ts:List Tn)(t:Tn):(Pn ts t).length<=ts.length+1:=by
 have h:=Ic ts t ts.length
 unfold Pn
 split
 ·omega
 ·split
  ·rename_i q;rw[q] at h;simp at h;omega
  ·rename_i q
   have q':(Jr ts t ts.length).2=false:=by simpa using q
   rw[q'] at h
   simp at h ⊢
   omega
structure Q34 where
 S:Src
 id:Int
 l:List Int
def Ia (x:Q34):Q34:=⟨ns (ns x.S 3) 12,if nv (ns x.S 3) 12=0 then x.id+(1+nv x.S 3)+1000 else x.id+(1+nv x.S 3),x.l++[x.id]⟩
def V2 (x:Q34):Nat->Q34
 |0=>x
 |k+1=>Ia (V2 x k)
structure Q32 where
 S:Src
 pos:Int
 nodes:List Int
 weights:List Int
def Q3d (count:Int)(x:Q32):Int:=(x.pos+if nv (ns x.S (count-1)) 20=0 then 0 else 1+nv x.S (count-1))%count
def Q3c (count:Int)(ids:List Int)(x:Q32):Q32:=⟨dwS (ns (ns x.S (count-1)) 20),Q3d count x,x.nodes++[iat ids (Q3d count x).toNat],x.weights++[dwV (ns (ns x.S (count-1)) 20)]⟩
def Vo (count:Int)(ids:List Int)(x:Q32):Nat->Q32
 |0=>x
 |k+1=>Q3c count ids (Vo count ids x k)
structure Q0x where
 S:Src
 id:Int
 ways:List Wy
def Yg (ways:Int)(i:Nat)(S:Src):Src:=if (i:Int)+1=ways then ns S 16 else S
def E6 (ways:Int)(i:Nat)(S:Src)(id:Int):Int:=if (i:Int)+1=ways/\nv S 16=0 then 1048576 else id
def Ya (S:Src):Int:=if nv S 4=0 then 2+nv (ns S 4) 2 else 1
def Yx (S:Src):Src:=if nv S 4=0 then ns (ns S 4) 2 else ns S 4
def Ur (count:Int)(ids:List Int)(S:Src):Q32:=Vo count ids ⟨ns (Yx S) count,nv (Yx S) count,[iat ids (nv (Yx S) count).toNat],[]⟩ (Ya S).toNat
def Q35 (count ways:Int)(ids:List Int)(i:Nat)(x:Q0x):Q0x:=
 ⟨(Ur count ids (ns (ns (Yg ways i x.S) 2) 3)).S,x.id+(1+nv (Yg ways i x.S) 2),
  x.ways++[⟨E6 ways i x.S x.id,nv (ns (Yg ways i x.S) 2) 3 !=0,(Ur count ids (ns (ns (Yg ways i x.S) 2) 3)).nodes,(Ur count ids (ns (ns (Yg ways i x.S) 2) 3)).weights⟩]⟩
def Xw (count ways:Int)(ids:List Int)(x:Q0x):Nat->Q0x
 |0=>x
 |k+1=>Q35 count ways ids k (Xw count ways ids x k)
structure Q4e where
 S:Src
 ts:List Tn
def Q3a (ws:List Wy)(x:Q4e):Q4e:=
 ⟨dwS (ns (ns x.S ws.length) ws.length),Pn x.ts ⟨(wat ws (nv x.S ws.length).toNat).id,(wat ws (nv (ns x.S ws.length) ws.length).toNat).id,dwV (ns (ns x.S ws.length) ws.length)⟩⟩
def Yl (ws:List Wy)(x:Q4e):Nat->Q4e
 |0=>x
 |k+1=>Q3a ws (Yl ws x k)
def V0 (S:Src):Int:=2+nv S (1+S.size/2)
def Zq (S:Src):Q34:=V2 ⟨ns (ns S (1+S.size/2)) 3,nv (ns S (1+S.size/2)) 3,[]⟩ (V0 S).toNat
def Qc (S:Src):List Int:=if nv (Zq S).S 16=0 then (Zq S).l++[1048576] else (Zq S).l
def dbN (S:Src):Int:=if nv (Zq S).S 16=0 then V0 S+1 else V0 S
def Vu (S:Src):Src:=ns (Zq S).S 16
def Vc (S:Src):Int:=if nv (ns (Vu S) (2+S.size)) 24=0 then 0 else 2+nv (Vu S) (2+S.size)
def Z6 (S:Src):Q0x:=Xw (dbN S) (Vc S) (Qc S) ⟨ns (ns (ns (Vu S) (2+S.size)) 24) 4,nv (ns (ns (Vu S) (2+S.size)) 24) 4,[]⟩ (Vc S).toNat
def Za (S:Src):Q4e:=if (Z6 S).ways.length=0 then ⟨(Z6 S).S,[]⟩ else Yl (Z6 S).ways ⟨ns (Z6 S).S (3+S.size),[]⟩ (nv (Z6 S).S (3+S.size)).toNat
def Q8 (S:Src):Nt:=⟨Qc S,(Z6 S).ways,[],(Za S).ts,dwV (Za S).S⟩
def dbS (S:Src):Src:=dwS (Za S).S
theorem Gi {x:Q34}(h:SOk x.S)(hi:0<=x.id/\x.id<=3)(hl:x.l=[]):∀k,SOk (V2 x k).S/\(0<=(V2 x k).id/\(V2 x k).id<=3+1003*k)/\(V2 x k).l.length=k/\(V2 x k).S.size=x.S.size
 |0=>⟨h,by simpa [V2] using hi,by simp[V2,hl],rfl⟩
 |k+1=>by
  obtain⟨h1,h2,h3,h4⟩:=Gi h hi hl k
  have h5:=Qt h1 3
  refine⟨show SOk (ns (ns (V2 x k).S 3) 12) from Qj (Qj h1 _) _,?_,?_,?_⟩
  ·show 0<=(Ia _).id/\(Ia _).id<=_
   unfold Ia
   simp only
   split<;>omega
  ·show((V2 x k).l++[_]).length=_
   simp[h3]
  ·show(ns (ns _ _) _).size=_
   rw[Qs,Qs,h4]
theorem Q07 {count:Int}{ids:List Int}(hc:1<=count){x:Q32}(h:SOk x.S)(hp:0<=x.pos/\x.pos<count):∀k,SOk (Vo count ids x k).S/\(0<=(Vo count ids x k).pos/\(Vo count ids x k).pos<count)/\(Vo count ids x k).nodes.length=x.nodes.length+k/\(Vo count ids x k).weights.length=x.weights.length+k/\(Vo count ids x k).S.size=x.S.size
 |0=>⟨h,hp,rfl,rfl,rfl⟩
 |k+1=>by
  obtain⟨h1,h2,h3,h4,h5⟩:=Q07 (ids:=ids) hc h hp k
  have h6:=Qt h1 (count-1)
  refine⟨show SOk (dwS (ns (ns (Vo count ids x k).S (count-1)) 20)) from Q41 (Qj (Qj h1 _) _),?_,?_,?_,?_⟩
  ·show 0<=Q3d count _/\Q3d count _<count
   unfold Q3d
   exact⟨Int.emod_nonneg _ (by omega),Int.emod_lt_of_pos _ (by omega)⟩
  ·show((Vo count ids x k).nodes++[_]).length=_
   rw[List.length_append,h3];rfl
  ·show((Vo count ids x k).weights++[_]).length=_
   rw[List.length_append,h4];rfl
  ·show(dwS (ns (ns _ _) _)).size=_
   rw[Qaa,Qs,Qs,h5]
theorem Vn.at {B:Nat}{w:World}{tb tq n c:Nat}{ts:List Tn}(h:Vn B w (.slice (some ⟨tb,tq,none⟩) n c) ts){i:Nat}(hi:i<ts.length):Kr w tb (tq+i*3) (tat ts i):=by
 obtain⟨a,c',e,_,k⟩:=h
 simp only[Value.slice.injEq] at e
 obtain⟨rfl,_,_⟩:=e
 obtain⟨b,o,e2,_,_,hc⟩:=k (by omega)
 simp only[Option.some.injEq,Addr.mk.injEq] at e2
 obtain⟨rfl,rfl,_⟩:=e2
 exact hc i hi
theorem Q6r {ts:List Tn}{t:Tn}(h:∀j,j<ts.length->Ua (tat ts j) t=false):ts.any (λx=>Ua x t)=false:=by
 rw[List.any_eq_false]
 intro x hx
 obtain⟨i,hi,rfl⟩:=List.getElem_of_mem hx
 have:=h i hi
 simp only[tat,List.getD_eq_getElem?_getD,List.getElem?_eq_getElem hi,Option.getD_some] at this
 simp[this]
theorem Q3e {ts:List Tn}{t:Tn}{j:Nat}(hj:j<ts.length)(h:Ua (tat ts j) t=true):ts.any (λx=>Ua x t)=true:=by
 rw[List.any_eq_true]
 refine⟨ts[j],List.getElem_mem hj,?_⟩
 simpa only [tat,List.getD_eq_getElem?_getD,List.getElem?_eq_getElem hj,Option.getD_some] using h
theorem El (C:Nat)(v:Value)(ts:List Tn)(t:Tn)(w:World)(h:Uq C w v ts)(hC:C<=w.heap.size)(hl:ts.length<=100000) :
  Calls Tryz.prog 92 #[v,.agg #[.int .i64 t.frm,.int .i64 t.to,.int .i64 t.cost]] w λe w'=>(∃v',e=.returned v'/\Uq C w' v' (Pn ts t))/\Nx w w':=by
 have HOT:Hid (Uq C w v ts):=h
 obtain⟨ta,tc,rfl⟩:=Q3 h
 have HTU:Hid (Vn C w (.slice ta ts.length tc) ts):=h.held
 generalize hn:ts.length=n at *
 have HN:Hid (ts.length=n):=hn
 clear hn h
 go_enter Tryz.func92,Tryz.ntmps92
 go_wp2
 generalize hWA:(w.alloc (.cells #[.int .i64 t.frm,.int .i64 t.to,.int .i64 t.cost] 51)).alloc (.cells #[] 51)=wA
 have HXA:Hid (Nx w wA):=by unfold Hid;rw[<-hWA];exact(Qd _ _).trans (Qd _ _)
 have HZA:Hid (w.heap.size+1<=wA.heap.size):=by unfold Hid;rw[<-hWA,Q7,Q7];omega
 have HBA:Hid (BT wA w.heap.size #[.int .i64 t.frm,.int .i64 t.to,.int .i64 t.cost] 51):=by unfold Hid;rw[<-hWA];exact(BT.new w _ _ _ rfl).alloc _
 have HOA:Hid (wA.ownsRow (w.heap.size+1) 51 3 (.slice (some ⟨w.heap.size+1,0,none⟩) 0 0) 0 (((Jr ts t 0).1).flatMap Je)):=by
  unfold Hid
  rw[<-hWA]
  refine⟨rfl,Or.inr ⟨w.heap.size+1,0,#[],rfl,Nat.le_refl _,?_,Nat.le_refl _,Nat.zero_le _,rfl,rfl⟩⟩
  exact BT.new _ _ _ _ (by rw[Q7])
 clear hWA
 go_loopw [5,6,7] (λo d i wr=>∃(k m:Nat) (ao:Option Addr) (co:Nat) (dn:Bool),k<=n/\i=.int .i64 k/\o=.slice ao m co/\d=.bool dn/\Hid (wr.ownsRow (w.heap.size+1) 51 3 (.slice ao m co) m (((Jr ts t k).1).flatMap Je))/\Hid ((Jr ts t k).1.length=m)/\Hid ((Jr ts t k).2=dn)/\Hid (∀j,j<k->Ua (tat ts j) t=false)/\Hid (Chg (λx=>(w.heap.size+1)<=x) wA wr)) (λ_ _ i _=>n-(intOf i).toNat)
 case atStart=>exact⟨0,0,_,_,false,Nat.zero_le _,rfl,rfl,rfl,HOA,rfl,rfl,λj h=>absurd h (Nat.not_lt_zero _),Chg.nx (Nx.refl _)⟩
 obtain⟨k,m,ao,co,dn,hk,rfl,rfl,rfl,HO,HML,HDN,HNS,HC⟩:=hrel
 have HMB:Hid (m<=k+1):=by
  unfold Hid
  have h1:=Ic ts t k
  rw[HML.out] at h1
  split at h1<;>omega
 have hmb:=HMB.out
 have HXr:Hid (Nx w wr):=Below.trans HXA.out (Below.mono (HC.out.below HZA.out (λ_ h=>h)) (Nat.le_succ _))
 by_cases hlt:k<n
 ·have hlt':(k:Int)<n:=by omega
  obtain⟨a9,c9,e9,_,hk9⟩:=HTU.out
  rw[HN.out] at e9 hk9
  simp only[Value.slice.injEq] at e9
  obtain⟨rfl,_,rfl⟩:=e9
  obtain⟨tb,tq,rfl,_,_,_⟩:=hk9 (by omega)
  clear hk9
  have CX0:Hid (Kr wr tb (tq+k*3) (tat ts k)):=(Vn.keep HTU.out (HXr.out.keeps C)).at (by rw[HN.out];exact hlt)
  have HBr:Hid (BT wr w.heap.size #[.int .i64 t.frm,.int .i64 t.to,.int .i64 t.cost] 51):=HBA.out.chg HC.out (by omega)
  generalize hxt:tat ts k=x at *
  have HXT:Hid (tat ts k=x):=hxt
  clear hxt
  obtain⟨x0,x1,x2⟩:=CX0.out
  have b0:wr.cell? ⟨w.heap.size,0,none⟩=some (.int .i64 t.frm):=HBr.out.blk.cell (i:=0) rfl
  have b1:wr.cell? ⟨w.heap.size,1,none⟩=some (.int .i64 t.to):=HBr.out.blk.cell (i:=1) rfl
  go_upto_region 6 with fail
  go_cut [32] from 15 to 32 (λs wc=>s=.bool (Ua x t)/\Hid (Nx wr wc))
  case first=>
   by_cases h1:x.frm=t.frm
   ·have d1:(x.frm==t.frm)=true:=by simpa using h1
    by_cases h2:x.to=t.to
    ·have d2:(x.to==t.to)=true:=by simpa using h2
     go_quiet (fail)
     go_wp2
     go_meet
     exact⟨by simp[Ua,h1,h2],Vd _ _⟩
    ·have d2:(x.to==t.to)=false:=by simpa using h2
     go_quiet (fail)
     go_wp2
     go_meet
     exact⟨by simp[Ua,h2],Vd _ _⟩
   ·have d1:(x.frm==t.frm)=false:=by simpa using h1
    go_quiet (fail)
    go_wp2
    go_meet
    exact⟨by simp[Ua,h1],Vd _ _⟩
  case rest=>
  obtain⟨rfl,HDp⟩:=hcut
  generalize wc=wp at *
  cases hsm:Ua x t
  ·have HNS1:Hid (∀j,j<k+1->Ua (tat ts j) t=false):=Q6d HNS.out (by rw[HXT.out];exact hsm)
   clear hsm
   have HCp:Hid (Chg (λx=>(w.heap.size+1)<=x) wA wp):=HC.out.trans (Chg.nx HDp.out)
   have HOp:Hid (wp.ownsRow (w.heap.size+1) 51 3 (.slice ao m co) m (((Jr ts t k).1).flatMap Je)):=Qp HO.out HDp.out
   have BTp:Hid (BT wp w.heap.size #[.int .i64 t.frm,.int .i64 t.to,.int .i64 t.cost] 51):=HBr.out.next HDp.out
   have CXp:Hid (Kr wp tb (tq+k*3) x):=⟨Qf HDp.out x0,Qf HDp.out x1,Qf HDp.out x2⟩
   clear x0 x1 x2 b0 b1
   obtain⟨x0,x1,_⟩:=CXp.out
   have b0:wp.cell? ⟨w.heap.size,0,none⟩=some (.int .i64 t.frm):=BTp.out.blk.cell (i:=0) rfl
   have b1:wp.cell? ⟨w.heap.size,1,none⟩=some (.int .i64 t.to):=BTp.out.blk.cell (i:=1) rfl
   go_upto_region 8 with fail
   go_cut [65] from 34 to 65 (λs wc=>s=.bool (!dn&&gtT x t)/\Hid (Nx wp wc))
   case first=>
    cases dn with
    |true=>
     go_quiet (fail)
     go_wp2
     go_meet
     exact⟨by simp[gtT],Vd _ _⟩
    |false=>
     by_cases g1:t.frm<x.frm
     ·have d3:decide (t.frm<x.frm)=true:=by simpa using g1
      go_quiet (fail)
      go_wp2
      go_meet
      exact⟨by simp[gtT,g1],Vd _ _⟩
     ·have d3:decide (t.frm<x.frm)=false:=by simpa using g1
      by_cases g2:x.frm=t.frm
      ·have d4:(x.frm==t.frm)=true:=by simpa using g2
       by_cases g3:t.to<x.to
       ·have d5:decide (t.to<x.to)=true:=by simpa using g3
        go_quiet (fail)
        go_wp2
        go_meet
        exact⟨by simp[gtT,g2,g3],Vd _ _⟩
       ·have d5:decide (t.to<x.to)=false:=by simpa using g3
        go_quiet (fail)
        go_wp2
        go_meet
        exact⟨by simp[gtT,g2,g3],Vd _ _⟩
      ·have d4:(x.frm==t.frm)=false:=by simpa using g2
       go_quiet (fail)
       go_wp2
       go_meet
       exact⟨by simp[gtT,g1,g2],Vd _ _⟩
   case rest=>
   obtain⟨rfl,HDq⟩:=hcut
   generalize wc=wq at *
   have HCq:Hid (Chg (λx=>(w.heap.size+1)<=x) wA wq):=HCp.out.trans (Chg.nx HDq.out)
   have HOq:Hid (wq.ownsRow (w.heap.size+1) 51 3 (.slice ao m co) m (((Jr ts t k).1).flatMap Je)):=Qp HOp.out HDq.out
   have BTq:Hid (BT wq w.heap.size #[.int .i64 t.frm,.int .i64 t.to,.int .i64 t.cost] 51):=BTp.out.next HDq.out
   clear x0 x1 b0 b1
   cases hgg:(!dn&&gtT x t)
   ·have HGT:Hid (¬(!dn&&gtT x t)=true):=by unfold Hid;rw[hgg];decide
    clear hgg
    have HIN:Hid (Jr ts t (k+1)=((Jr ts t k).1++[x],dn)):=by unfold Hid;show(if _ then _ else _)=_;rw[HDN.out,HXT.out,if_neg HGT.out]
    have HXl:Hid (Nx w wq):=Below.trans HXA.out (Below.mono (HCq.out.below HZA.out (λ_ h=>h)) (Nat.le_succ _))
    have CX:Hid (Kr wq tb (tq+k*3) x):=by unfold Hid;rw[<-HXT.out];exact(Vn.keep HTU.out (HXl.out.keeps C)).at (by rw[HN.out];exact hlt)
    obtain⟨c0,c1,c2⟩:=CX.out
    have hzw:w.heap.size+1<=wq.heap.size:=by have:=HCq.out.size;have:=HZA.out;omega
    go_wp2_with (at_builtin;refine Xu Ul Tryz.underlying26 rfl (by decide) (by decide) rfl _ _ rfl (w.heap.size+1) m (.slice ao m co) (((Jr ts t k).1).flatMap Je) [.int .i64 x.frm,.int .i64 x.to,.int .i64 x.cost] wq rfl HOq.out rfl rfl (by intro u hu;simp at hu;rcases hu with rfl|rfl|rfl<;>rfl) (by omega) (by omega) ?_)
    intro a2 e2 w2 r1 r2 r3
    have HC2:Hid (Chg (λx=>(w.heap.size+1)<=x) wA w2):=HCq.out.trans ⟨r2.os,r2.tape,r2.output,r2.size,λb hb hn=>r2.block b hb (λe=>hn (Ql HOq.out b e.symm).1)⟩
    have HO2:Hid (w2.ownsRow (w.heap.size+1) 51 3 (.slice a2 (m+1) e2) (m+1) (((Jr ts t (k+1)).1).flatMap Je)):=by unfold Hid;rw[HIN.out];show w2.ownsRow _ _ _ _ _ ((_++[x]).flatMap Je);first|(rw[List.flatMap_append];exact r1)|(simp only[List.flatMap_append,List.append_assoc] at r1 ⊢;exact r1)
    have HM2:Hid ((Jr ts t (k+1)).1.length=m+1):=by unfold Hid;rw[HIN.out];simp[HML.out]
    have HD2:Hid ((Jr ts t (k+1)).2=dn):=by unfold Hid;rw[HIN.out]
    clear r1 r2 r3 c0 c1 c2
    go_wp2
    go_roundw
    case rel=>exact⟨k+1,m+1,a2,e2,dn,by omega,by go_num,rfl,rfl,HO2,HM2,HD2,HNS1,HC2⟩
    case measure=>simp[intOf];omega
   ·have HGT:Hid ((!dn&&gtT x t)=true):=hgg
    clear hgg
    have HIN:Hid (Jr ts t (k+1)=((Jr ts t k).1++[t]++[x],true)):=by unfold Hid;show(if _ then _ else _)=_;rw[HDN.out,HXT.out,if_pos HGT.out]
    have b0:=BTq.out.blk.cell (i:=0) rfl
    have b1:=BTq.out.blk.cell (i:=1) rfl
    have b2:=BTq.out.blk.cell (i:=2) rfl
    have hzq:w.heap.size+1<=wq.heap.size:=by have:=HCq.out.size;have:=HZA.out;omega
    go_wp2_with (at_builtin;refine Xu Ul Tryz.underlying26 rfl (by decide) (by decide) rfl _ _ rfl (w.heap.size+1) m (.slice ao m co) (((Jr ts t k).1).flatMap Je) [.int .i64 t.frm,.int .i64 t.to,.int .i64 t.cost] wq rfl HOq.out rfl rfl (by intro u hu;simp at hu;rcases hu with rfl|rfl|rfl<;>rfl) (by omega) (by omega) ?_)
    intro a1 e1 w1 r1 r2 r3
    have HO1:Hid (w1.ownsRow (w.heap.size+1) 51 3 (.slice a1 (m+1) e1) (m+1) (((Jr ts t k).1++[t]).flatMap Je)):=by unfold Hid;rw[List.flatMap_append];exact r1
    have HC1:Hid (Chg (λx=>(w.heap.size+1)<=x) wA w1):=HCq.out.trans ⟨r2.os,r2.tape,r2.output,r2.size,λb hb hn=>r2.block b hb (λe=>hn (Ql HOq.out b e.symm).1)⟩
    clear r1 r2 r3 b0 b1 b2
    have HXl:Hid (Nx w w1):=Below.trans HXA.out (Below.mono (HC1.out.below HZA.out (λ_ h=>h)) (Nat.le_succ _))
    have CX:Hid (Kr w1 tb (tq+k*3) x):=by unfold Hid;rw[<-HXT.out];exact(Vn.keep HTU.out (HXl.out.keeps C)).at (by rw[HN.out];exact hlt)
    obtain⟨c0,c1,c2⟩:=CX.out
    have hzw:w.heap.size+1<=w1.heap.size:=by have:=HC1.out.size;have:=HZA.out;omega
    go_wp2_with (at_builtin;refine Xu Ul Tryz.underlying26 rfl (by decide) (by decide) rfl _ _ rfl (w.heap.size+1) (m+1) (.slice a1 (m+1) e1) (((Jr ts t k).1++[t]).flatMap Je) [.int .i64 x.frm,.int .i64 x.to,.int .i64 x.cost] w1 rfl HO1.out rfl rfl (by intro u hu;simp at hu;rcases hu with rfl|rfl|rfl<;>rfl) (by omega) (by omega) ?_)
    intro a2 e2 w2 r1 r2 r3
    have HC2:Hid (Chg (λx=>(w.heap.size+1)<=x) wA w2):=HC1.out.trans ⟨r2.os,r2.tape,r2.output,r2.size,λb hb hn=>r2.block b hb (λe=>hn (Ql HO1.out b e.symm).1)⟩
    have HO2:Hid (w2.ownsRow (w.heap.size+1) 51 3 (.slice a2 ((m+1)+1) e2) ((m+1)+1) (((Jr ts t (k+1)).1).flatMap Je)):=by unfold Hid;rw[HIN.out];show w2.ownsRow _ _ _ _ _ ((_++[x]).flatMap Je);first|(rw[List.flatMap_append];exact r1)|(simp only[List.flatMap_append,List.append_assoc] at r1 ⊢;exact r1)
    have HM2:Hid ((Jr ts t (k+1)).1.length=(m+1)+1):=by unfold Hid;rw[HIN.out];simp[HML.out]
    have HD2:Hid ((Jr ts t (k+1)).2=true):=by unfold Hid;rw[HIN.out]
    clear r1 r2 r3 c0 c1 c2
    go_wp2
    go_roundw
    case rel=>exact⟨k+1,(m+1)+1,a2,e2,true,by omega,by go_num,rfl,rfl,HO2,HM2,HD2,HNS1,HC2⟩
    case measure=>simp[intOf];omega
  ·have HAD:Hid (Pn ts t=ts):=by unfold Hid Pn;rw[if_pos (Q3e (j:=k) (by rw[HN.out];exact hlt) (by rw[HXT.out];exact hsm))]
   clear hsm
   go_wp2
   go_ret
   rw[HAD.out]
   exact⟨⟨_,rfl,Qp HOT.out (HXr.out.trans HDp.out)⟩,HXr.out.trans HDp.out⟩
 have hkn:k=n:=by omega
 subst hkn
 have HNO:Hid (ts.any (λx=>Ua x t)=false):=Q6r (λj hj=>HNS.out j (by rw[HN.out] at hj;exact hj))
 have HBr:Hid (BT wr w.heap.size #[.int .i64 t.frm,.int .i64 t.to,.int .i64 t.cost] 51):=HBA.out.chg HC.out (by omega)
 cases dn with
 |true=>
  have HAD:Hid (Pn ts t=(Jr ts t k).1):=by unfold Hid Pn;rw[HNO.out,HN.out,HDN.out];rfl
  go_wp2
  go_ret
  rw[HAD.out]
  refine⟨⟨_,rfl,?_⟩,HXr.out⟩
  unfold Uq
  rw[HML.out]
  exact Jd HO.out (by omega)
 |false=>
  have HAD:Hid (Pn ts t=(Jr ts t k).1++[t]):=by unfold Hid Pn;rw[HNO.out,HN.out,HDN.out];rfl
  have b0:=HBr.out.blk.cell (i:=0) rfl
  have b1:=HBr.out.blk.cell (i:=1) rfl
  have b2:=HBr.out.blk.cell (i:=2) rfl
  have hzq:w.heap.size+1<=wr.heap.size:=by have:=HC.out.size;have:=HZA.out;omega
  go_wp2_with (at_builtin;refine Xu Ul Tryz.underlying26 rfl (by decide) (by decide) rfl _ _ rfl (w.heap.size+1) m (.slice ao m co) (((Jr ts t k).1).flatMap Je) [.int .i64 t.frm,.int .i64 t.to,.int .i64 t.cost] wr rfl HO.out rfl rfl (by intro u hu;simp at hu;rcases hu with rfl|rfl|rfl<;>rfl) (by omega) (by omega) ?_)
  intro a1 e1 w1 r1 r2 r3
  have HX1:Hid (Nx w w1):=Below.trans HXr.out (r2.below HXr.out.size (λg e=>by have:=(Ql HO.out g e.symm).1;omega))
  have HO1:Hid (Uq C w1 (.slice a1 (m+1) e1) ((Jr ts t k).1++[t])):=by
   unfold Hid Uq
   rw[List.length_append,HML.out,List.flatMap_append]
   exact Jd r1 (by omega)
  clear r1 r2 r3 b0 b1 b2
  go_wp2
  go_ret
  rw[HAD.out]
  exact⟨⟨_,rfl,HO1.out⟩,HX1.out⟩
theorem BT.setOther {w:World}{b g t:Nat}{cs:Array Value}(h:BT w b cs t)(hn:b≠g)(i:Nat)(v:Value):BT (w.setCell ⟨g,i,none⟩ v) b cs t:=h.chg (Chg.set (S:=λx=>x=g) _ _ _ rfl) hn
theorem Q2 {C t u sz n g:Nat}{w:World}{v:Value}{xs:List Value}{cs:Array Value}(h:w.ownsRow C t sz v n xs)(hb:BT w g cs u)(hn:u≠t)(i:Nat)(x:Value):(w.setCell ⟨g,i,none⟩ x).ownsRow C t sz v n xs:=
 Jm h (Chg.set (S:=λy=>y=g) _ _ _ rfl) (λk hk e=>by
  have e':k=g:=e
  subst e'
  exact hb.neRow h hn hk.symm)
theorem Yn {C t sz n g:Nat}{w:World}{v:Value}{xs:List Value}(h:w.ownsRow C t sz v n xs)(hg:v.ownBlock=some g):∃cs,BT w g cs t:=by
 rcases h.2 with⟨rfl,_⟩|⟨b,cap,cur,rfl,_,hh,_⟩
 ·cases hg
 ·have e:b=g:=by simpa [Value.ownBlock] using hg
  subst e
  exact⟨cur,hh⟩
theorem Q4 {C C' t u sz sz' n m:Nat}{w w':World}{v v':Value}{xs ys:List Value}(h:w.ownsRow C t sz v n xs)(k:w.ownsRow C' u sz' v' m ys)(hn:t≠u)(hc:Chg (λx=>some x=v'.ownBlock) w w'):w'.ownsRow C t sz v n xs:=
 Jm h hc (λg hg hs=>by
  obtain⟨cs,hb⟩:=Yn h hg
  exact hb.neRow k hn hs)
theorem Yw {C t sz n:Nat}{w w':World}{v v':Value}{xs:List Value}(h:w.ownsRow C t sz v n xs)(ha:∀g,v'.ownBlock=some g->v.ownBlock≠some g)(hc:Chg (λx=>some x=v'.ownBlock) w w'):w'.ownsRow C t sz v n xs:=
 Jm h hc (λg hg hs=>ha g hs.symm hg)
theorem BT.row {C t u sz n b:Nat}{w w':World}{v:Value}{xs:List Value}{cs:Array Value}(h:BT w b cs u)(k:w.ownsRow C t sz v n xs)(hn:u≠t)(hc:Chg (λx=>some x=v.ownBlock) w w'):BT w' b cs u:=h.chg hc (h.neRow k hn)
theorem J8.row {C D t sz n b:Nat}{w w':World}{v:Value}{xs:List Value}{S:Src}(h:J8 D w b S)(k:w.ownsRow C t sz v n xs)(h1:t≠73)(h2:t≠5)(hc:Chg (λx=>some x=v.ownBlock) w w'):J8 D w' b S:=
 h.chg hc (λx hx=>by
  obtain⟨cs,hb⟩:=Yn k hx.symm
  exact⟨cs,t,hb,h1,h2⟩)
theorem J8.set {D t g b:Nat}{w:World}{cs:Array Value}{S:Src}(h:J8 D w b S)(k:BT w g cs t)(h1:t≠73)(h2:t≠5)(i:Nat)(v:Value):J8 D (w.setCell ⟨g,i,none⟩ v) b S:=
 h.chg (Chg.set (S:=λx=>x=g) _ _ _ rfl) (λx hx=>by
  have hx':x=g:=hx
  subst hx'
  exact⟨cs,t,k,h1,h2⟩)
def Pa:Array Value:=#[.slice none 0 0,.slice none 0 0,.slice none 0 0,.slice none 0 0,.int .i64 0]
def prs (n:Nat)(vn vw:Nat->Value):List Value:=(List.range n).flatMap λi=>[vn i,vw i]
structure DBs (C D b:Nat)(w:World)(S:Src)(v0 v1 v3:Value)(nodes:List Int)(ws:List Wy)(vn vw:Nat->Value)(ts:List Tn):Prop where
 src:J8 D w b S
 res:BT w C Pa 28
 box:BT w (C+1) #[v0,v1,.slice none 0 0,v3,.int .i64 0] 28
 nd:Qb C w v0 nodes
 wys:Yk C w v1 ws vn vw
 wn:∀i,i<ws.length->Qb C w (vn i) (wat ws i).nodes
 ww:∀i,i<ws.length->Qb C w (vw i) (wat ws i).weights
 tn:Uq C w v3 ts
 ap:Apt (v0::prs ws.length vn vw)
section
variable {C D b:Nat}{w w':World}{S S':Src}{v0 v1 v3:Value}{nodes:List Int}{ws:List Wy}{vn vw:Nat->Value}{ts:List Tn}
theorem DBs.next (h:DBs C D b w S v0 v1 v3 nodes ws vn vw ts)(k:Nx w w'):DBs C D b w' S v0 v1 v3 nodes ws vn vw ts:=
 ⟨h.src.next k,h.res.next k,h.box.next k,h.nd.next k,Qp h.wys k,λi hi=>(h.wn i hi).next k,λi hi=>(h.ww i hi).next k,Qp h.tn k,h.ap⟩
theorem DBs.drawn (h:DBs C D b w S v0 v1 v3 nodes ws vn vw ts)(hS:J8 D w' b S')(k:Chg (Sx1 b) w w'):DBs C D b w' S' v0 v1 v3 nodes ws vn vw ts:=by
 obtain⟨v,hb,_⟩:=h.src
 have key:∀{t sz n:Nat}{u:Value}{xs:List Value},w.ownsRow C t sz u n xs->73≠t->w'.ownsRow C t sz u n xs:=λhr ht=>Jm hr k (λg hg hx=>by
  have hx':g=b:=hx
  subst hx'
  exact hb.neRow hr ht hg.symm)
 exact⟨hS,h.res.chg k (h.res.ne hb (by decide)),h.box.chg k (h.box.ne hb (by decide)),key h.nd (by decide),key h.wys (by decide),λi hi=>key (h.wn i hi) (by decide),λi hi=>key (h.ww i hi) (by decide),key h.tn (by decide),h.ap⟩
theorem K6 {n:Nat}{x:Value}(h:x∈prs n vn vw):∃i,i<n/\(x=vn i\/x=vw i):=by
 obtain⟨i,hi,hx⟩:=List.mem_flatMap.1 h
 refine⟨i,List.mem_range.1 hi,?_⟩
 simpa using hx
theorem Uu {n i:Nat}(hi:i<n):vn i∈prs n vn vw/\vw i∈prs n vn vw:=⟨List.mem_flatMap.2 ⟨i,List.mem_range.2 hi,by simp⟩,List.mem_flatMap.2 ⟨i,List.mem_range.2 hi,by simp⟩⟩
theorem DBs.addNode (h:DBs C D b w S v0 v1 v3 nodes ws vn vw ts){v:Value}{z:Int}(hr:Qb C w' v (nodes++[z]))(hc:Chg (λx=>some x=v0.ownBlock) w w')(ha:∀g,v.ownBlock=some g->v0.ownBlock=some g\/w.heap.size<=g) :
  DBs C D b (w'.setCell ⟨C+1,0,none⟩ v) S v v1 v3 (nodes++[z]) ws vn vw ts:=by
 have hbox:BT w' (C+1) #[v0,v1,.slice none 0 0,v3,.int .i64 0] 28:=h.box.row h.nd (by decide) hc
 have ap:=List.pairwise_cons.1 h.ap
 have far:∀{u:Value}{zs:List Int},u∈prs ws.length vn vw->Qb C w u zs->Qb C (w'.setCell ⟨C+1,0,none⟩ v) u zs:=λhu ho=>Q2 (Yw ho (λg hg=>ap.1 _ hu g hg) hc) hbox (by decide) _ _
 refine⟨(h.src.row h.nd (by decide) (by decide) hc).set hbox (by decide) (by decide) _ _,(h.res.row h.nd (by decide) hc).setOther (by omega) _ _,hbox.set 0 v,Q2 hr hbox (by decide) _ _,Q2 (Q4 h.wys h.nd (by decide) hc) hbox (by decide) _ _,λi hi=>far (Uu hi).1 (h.wn i hi),λi hi=>far (Uu hi).2 (h.ww i hi),Q2 (Q4 h.tn h.nd (by decide) hc) hbox (by decide) _ _,List.pairwise_cons.2 ⟨λu hu g hg=>?_,ap.2⟩⟩
 rcases ha g hg with e|e
 ·exact ap.1 u hu g e
 ·obtain⟨i,hi,rfl|rfl⟩:=K6 hu
  ·intro e2
   have:=(Ql (h.wn i hi) g e2).2
   omega
  ·intro e2
   have:=(Ql (h.ww i hi) g e2).2
   omega
theorem Q1n (n:Nat)(vn vw:Nat->Value)(a c:Value):prs (n+1) (upd vn n a) (upd vw n c)=prs n vn vw++[a,c]:=by
 unfold prs
 rw[List.range_succ,List.flatMap_append]
 congr 1
 ·refine V8 λi hi=>?_
  have hi':=List.mem_range.1 hi
  rw[J4 _ _ (by omega),J4 _ _ (by omega)]
 ·simp[Jf]
theorem DBs.addWay (h:DBs C D b w S v0 v1 v3 nodes ws vn vw ts){z:Nat}(hz:∀u∈v0::prs ws.length vn vw,∀g,u.ownBlock=some g->g<z){v va vb:Value}{x:Wy}(hr:w'.ownsRow C 45 4 v (ws.length+1) (V4 ws vn vw++Pc x va vb))(hc:Chg (λy=>some y=v1.ownBlock) w w')
  (ha:Qb z w va x.nodes) (hb:Qb z w vb x.weights) (hCz:C<=z) (hab:∀g,va.ownBlock=some g->vb.ownBlock≠some g) :
  DBs C D b (w'.setCell ⟨C+1,1,none⟩ v) S v0 v v3 nodes (ws++[x]) (upd vn ws.length va) (upd vw ws.length vb) ts:=by
 have hbox:BT w' (C+1) #[v0,v1,.slice none 0 0,v3,.int .i64 0] 28:=h.box.row h.wys (by decide) hc
 have far:∀{u:Value}{zs:List Int},Qb C w u zs->Qb C (w'.setCell ⟨C+1,1,none⟩ v) u zs:=λho=>Q2 (Q4 ho h.wys (by decide) hc) hbox (by decide) _ _
 have hl:(ws++[x]).length=ws.length+1:=by simp
 refine⟨(h.src.row h.wys (by decide) (by decide) hc).set hbox (by decide) (by decide) _ _,(h.res.row h.wys (by decide) hc).setOther (by omega) _ _,hbox.set 1 v,far h.nd,?_,λi hi=>?_,λi hi=>?_,Q2 (Q4 h.tn h.wys (by decide) hc) hbox (by decide) _ _,?_⟩
 ·unfold Yk
  rw[hl,Ey]
  exact Q2 hr hbox (by decide) _ _
 ·by_cases e:i=ws.length
  ·subst e
   rw[Jf,Zg]
   exact far (ha.base hCz)
  ·rw[J4 _ _ e,Zf (by omega)]
   exact far (h.wn i (by omega))
 ·by_cases e:i=ws.length
  ·subst e
   rw[Jf,Zg]
   exact far (hb.base hCz)
  ·rw[J4 _ _ e,Zf (by omega)]
   exact far (h.ww i (by omega))
 ·rw[hl,Q1n]
  have new:∀u∈v0::prs ws.length vn vw,∀t∈[va,vb],∀g,u.ownBlock=some g->t.ownBlock≠some g:=λu hu t ht g hg e=>by
   have h1:=hz u hu g hg
   simp at ht
   rcases ht with rfl|rfl
   ·have:=(Ql ha g e).1;omega
   ·have:=(Ql hb g e).1;omega
  show Apt ((v0::prs ws.length vn vw)++[va,vb])
  refine List.pairwise_append.2 ⟨h.ap,?_,new⟩
  refine List.pairwise_cons.2 ⟨λu hu g hg=>?_,List.pairwise_singleton _ _⟩
  have:u=vb:=by simpa using hu
  subst this
  exact hab g hg
theorem DBs.setTurns (h:DBs C D b w S v0 v1 v3 nodes ws vn vw ts){v:Value}{us:List Tn}(hr:Uq C w v us):DBs C D b (w.setCell ⟨C+1,3,none⟩ v) S v0 v1 v nodes ws vn vw us:=
 ⟨h.src.set h.box (by decide) (by decide) _ _,h.res.setOther (by omega) _ _,h.box.set 3 v,Q2 h.nd h.box (by decide) _ _,Q2 h.wys h.box (by decide) _ _,λi hi=>Q2 (h.wn i hi) h.box (by decide) _ _,λi hi=>Q2 (h.ww i hi) h.box (by decide) _ _,Q2 hr h.box (by decide) _ _,h.ap⟩
end
theorem Qb.open {C:Nat}{w:World}{v:Value}{zs:List Int}(h:Qb C w v zs)(hp:0<zs.length):∃g c cs,v=.slice (some ⟨g,0,none⟩) zs.length c/\C<=g/\zs.length<=c/\BT w g cs 2/\∀i,i<zs.length->w.cell? ⟨g,i,none⟩=some (.int .i64 (iat zs i)):=by
 have h0:=h
 obtain⟨h1,h2⟩:=h
 rcases h2 with⟨_,h3⟩|⟨g,cap,cur,hv,hg,hh,hc,hm,hs,ht⟩
 ·omega
 ·refine⟨g,cap,cur,hv,hg,hc,hh,λi hi=>?_⟩
  have e:(cur.toList.take (zs.length*1))[i]?=(Qx zs)[i]?:=by rw[ht]
  rw[List.getElem?_take_of_lt (by omega),Array.getElem?_toList,Id hi] at e
  have hh':w.heap[g]?=some (.cells cur 2 (0,0)):=hh
  unfold World.cell?
  simp[hh',e]
theorem Qb.in {C g n c j:Nat}{w:World}{zs:List Int}(h:Qb C w (.slice (some ⟨g,0,none⟩) n c) zs)(hj:j<zs.length):C<=g/\(∃cs,BT w g cs 2)/\w.cell? ⟨g,j,none⟩=some (.int .i64 (iat zs j)):=by
 obtain⟨g',c',cs,e,hg,-,hb,hc⟩:=h.open (by omega)
 simp only[Value.slice.injEq,Option.some.injEq,Addr.mk.injEq] at e
 obtain⟨⟨rfl,-⟩,-⟩:=e
 exact⟨hg,⟨cs,hb⟩,hc j hj⟩
structure WBs (D b:Nat)(wr w:World)(S:Src)(id:Int)(bo:Bool)(va vb:Value)(nd wt:List Int):Prop where
 src:J8 D w b S
 chg:Chg (Sx1 b) wr w
 box:BT w wr.heap.size #[.int .i64 id,.bool bo,va,vb] 45
 nds:Qb (wr.heap.size+1) w va nd
 wts:Qb (wr.heap.size+1) w vb wt
 ap:∀g,va.ownBlock=some g->vb.ownBlock≠some g
section
variable {D b:Nat}{wr w w':World}{S S':Src}{id:Int}{bo:Bool}{va vb:Value}{nd wt:List Int}
theorem WBs.start {v:Src}(h:J8 D wr b S)(hx:BT w wr.heap.size #[.int .i64 id,.bool false,.slice none 0 0,.slice none 0 0] 45)(k:Nx wr w):WBs D b wr w S id false (.slice none 0 0) (.slice none 0 0) [] []:=
 ⟨h.next k,Chg.nx k,hx,⟨rfl,Or.inl ⟨rfl,rfl⟩⟩,⟨rfl,Or.inl ⟨rfl,rfl⟩⟩,λg hg=>by cases hg⟩
theorem WBs.drawn (h:WBs D b wr w S id bo va vb nd wt)(hS:J8 D w' b S')(k:Chg (Sx1 b) w w'):WBs D b wr w' S' id bo va vb nd wt:=by
 obtain⟨v,hb,_⟩:=h.src
 have key:∀{u:Value}{zs:List Int},Qb (wr.heap.size+1) w u zs->Qb (wr.heap.size+1) w' u zs:=λhr=>Jm hr k (λg hg hx=>by
  have hx':g=b:=hx
  subst hx'
  exact hb.neRow hr (by decide) hg.symm)
 exact⟨hS,h.chg.trans k,h.box.chg k (h.box.ne hb (by decide)),key h.nds,key h.wts,h.ap⟩
theorem WBs.next (h:WBs D b wr w S id bo va vb nd wt)(k:Nx w w'):WBs D b wr w' S id bo va vb nd wt:=
 ⟨h.src.next k,h.chg.trans (Chg.nx k),h.box.next k,h.nds.next k,h.wts.next k,h.ap⟩
theorem WBs.set (h:WBs D b wr w S id bo va vb nd wt)(i:Nat)(v:Value){id':Int}{bo':Bool}(e:(#[.int .i64 id,.bool bo,va,vb]:Array Value).setIfInBounds i v=#[.int .i64 id',.bool bo',va,vb]):WBs D b wr (w.setCell ⟨wr.heap.size,i,none⟩ v) S id' bo' va vb nd wt:=by
 have hx:=h.box.set i v
 rw[e] at hx
 exact⟨h.src.set h.box (by decide) (by decide) _ _,h.chg.young (Chg.set (S:=λx=>x=wr.heap.size) _ _ _ rfl) (λx hx hl=>by have hx':x=wr.heap.size:=hx;omega),hx,Q2 h.nds h.box (by decide) _ _,Q2 h.wts h.box (by decide) _ _,h.ap⟩
theorem WBs.addNd (h:WBs D b wr w S id bo va vb nd wt){v:Value}{z:Int}(hr:Qb (wr.heap.size+1) w' v (nd++[z]))(hc:Chg (λx=>some x=va.ownBlock) w w')(ha:∀g,v.ownBlock=some g->va.ownBlock=some g\/w.heap.size<=g):WBs D b wr (w'.setCell ⟨wr.heap.size,2,none⟩ v) S id bo v vb (nd++[z]) wt:=by
 have hbox:BT w' wr.heap.size #[.int .i64 id,.bool bo,va,vb] 45:=h.box.row h.nds (by decide) hc
 refine⟨(h.src.row h.nds (by decide) (by decide) hc).set hbox (by decide) (by decide) _ _,(h.chg.young hc (λx hx hl=>by have:=(Ql h.nds x hx.symm).1;omega)).young (Chg.set (S:=λx=>x=wr.heap.size) _ _ _ rfl) (λx hx hl=>by have hx':x=wr.heap.size:=hx;omega),hbox.set 2 v,Q2 hr hbox (by decide) _ _,Q2 (Yw h.wts (λg hg=>h.ap g hg) hc) hbox (by decide) _ _,λg hg=>?_⟩
 rcases ha g hg with e|e
 ·exact h.ap g e
 ·intro e2
  have:=(Ql h.wts g e2).2
  omega
theorem WBs.addWt (h:WBs D b wr w S id bo va vb nd wt){v:Value}{z:Int}(hr:Qb (wr.heap.size+1) w' v (wt++[z]))(hc:Chg (λx=>some x=vb.ownBlock) w w')(ha:∀g,v.ownBlock=some g->vb.ownBlock=some g\/w.heap.size<=g):WBs D b wr (w'.setCell ⟨wr.heap.size,3,none⟩ v) S id bo va v nd (wt++[z]):=by
 have hbox:BT w' wr.heap.size #[.int .i64 id,.bool bo,va,vb] 45:=h.box.row h.wts (by decide) hc
 refine⟨(h.src.row h.wts (by decide) (by decide) hc).set hbox (by decide) (by decide) _ _,(h.chg.young hc (λx hx hl=>by have:=(Ql h.wts x hx.symm).1;omega)).young (Chg.set (S:=λx=>x=wr.heap.size) _ _ _ rfl) (λx hx hl=>by have hx':x=wr.heap.size:=hx;omega),hbox.set 3 v,Q2 (Yw h.nds (λg hg hg2=>h.ap g hg2 hg) hc) hbox (by decide) _ _,Q2 hr hbox (by decide) _ _,λg hg hg2=>?_⟩
 rcases ha g hg2 with e|e
 ·exact h.ap g hg e
 ·have:=(Ql h.nds g hg).2
  omega
end
theorem Av {ways:Int}{i:Nat}{S:Src}(h:SOk S):SOk (Yg ways i S):=by
 unfold Yg
 split
 ·exact Qj h _
 ·exact h
theorem Q6a (ways:Int)(i:Nat)(S:Src):(Yg ways i S).size=S.size:=by
 unfold Yg
 split
 ·rw[Qs]
 ·rfl
theorem Q4l {S:Src}(h:SOk S):SOk (Yx S):=by
 unfold Yx
 split
 ·exact Qj (Qj h _) _
 ·exact Qj h _
theorem Q69 (S:Src):(Yx S).size=S.size:=by
 unfold Yx
 split
 ·rw[Qs,Qs]
 ·rw[Qs]
theorem Ks {S:Src}(h:SOk S):1<=Ya S/\Ya S<=3:=by
 have h1:=Qt (Qj h 4) 2
 unfold Ya
 split<;>omega
theorem Q4k {count:Int}{ids:List Int}{S:Src}(hc:1<=count)(h:SOk S):SOk (Ur count ids S).S/\(Ur count ids S).nodes.length=(Ya S).toNat+1/\(Ur count ids S).weights.length=(Ya S).toNat/\(Ur count ids S).S.size=S.size:=by
 have h1:=Q4l h
 have h2:=Qt h1 count
 have h3:=Q07 (ids:=ids) hc (x:=⟨ns (Yx S) count,nv (Yx S) count,[iat ids (nv (Yx S) count).toNat],[]⟩) (Qj h1 _) ⟨h2.1,h2.2 hc⟩ (Ya S).toNat
 refine⟨h3.1,?_,?_,?_⟩
 ·have:=h3.2.2.1
  simp only[List.length_singleton] at this
  unfold Ur
  omega
 ·have:=h3.2.2.2.1
  simp only[List.length_nil] at this
  unfold Ur
  omega
 ·unfold Ur
  rw[h3.2.2.2.2]
  show(ns (Yx S) count).size=_
  rw[Qs,Q69]
structure Q4d (k:Nat)(s:Int)(x:Q0x):Prop where
 ok:SOk x.S
 id:0<=x.id/\x.id<=4+2*k
 len:x.ways.length=k
 size:x.S.size=s
 seg:∀i,i<k->(wat x.ways i).weights.length<=3/\(wat x.ways i).nodes.length=(wat x.ways i).weights.length+1
theorem Pq {count ways:Int}{ids:List Int}(hc:1<=count){x:Q0x}{s:Int}(h:Q4d 0 s x):∀k,Q4d k s (Xw count ways ids x k)
 |0=>h
 |k+1=>by
  have q:=Pq (ways:=ways) (ids:=ids) hc h k
  have h1:=Av (ways:=ways) (i:=k) q.ok
  have h2:=Qj (Qj h1 2) 3
  have h3:=Q4k (ids:=ids) hc h2
  have h4:=Qt h1 2
  have h5:=Ks h2
  refine⟨h3.1,?_,?_,?_,λi hi=>?_⟩
  ·show 0<=(Xw count ways ids x k).id+(1+nv _ 2)/\(Xw count ways ids x k).id+(1+nv _ 2)<=_
   have:=q.id
   omega
  ·show((Xw count ways ids x k).ways++[_]).length=_
   rw[List.length_append,q.len];rfl
  ·show(Ur count ids _).S.size=s
   rw[h3.2.2.2,Qs,Qs,Q6a,q.size]
  ·obtain⟨X,e0,x1,x2⟩:∃X:Wy,(Xw count ways ids x (k+1)).ways=(Xw count ways ids x k).ways++[X]/\X.nodes=(Ur count ids (ns (ns (Yg ways k (Xw count ways ids x k).S) 2) 3)).nodes/\X.weights=(Ur count ids (ns (ns (Yg ways k (Xw count ways ids x k).S) 2) 3)).weights:=⟨_,rfl,rfl,rfl⟩
   rw[e0]
   by_cases e:i=k
   ·have e2:i=(Xw count ways ids x k).ways.length:=by rw[q.len];exact e
    rw[e2,Zg,x1,x2,h3.2.2.1,h3.2.1]
    omega
   ·rw[Zf (by rw[q.len];omega)]
    exact q.seg i (by omega)
end Go.Proofs.YtmmolhlihhdkcaaGreatDoor
namespace Go.Proofs.YtmmolhlihhdkcaaGreatDoor
open Go.RowKit Go.Sort Go.Maps
set_option linter.unusedVariables false
set_option maxRecDepth 1000000
set_option maxHeartbeats 16000000
structure Qet (N:Nt):Prop where
 asc:∀i j,i<j->j<N.ways.length->(wat N.ways i).id<(wat N.ways j).id
 wf:∀i,i<N.ways.length->(Lit.int .i64 (wat N.ways i).id).wf=true
 way:∀e,e<(E1 N).length->∃i:Nat,i<N.ways.length/\(eat (E1 N) e).way=i
 fwd:∀i:Nat,i<N.ways.length->(Qe7 (E1 N) i (E1 N).length).filter (λe=>!(eat (E1 N) e).back)≠[]
theorem Qet.inj {N:Nt}(h:Qet N){kw:Nat}(hk:kw<=N.ways.length):∀a b,a<kw->b<kw->(wat N.ways a).id=(wat N.ways b).id->a=b:=λa b ha hb e=>by
 rcases Nat.lt_trichotomy a b with q|q|q
 ·have:=h.asc a b q (by omega);omega
 ·exact q
 ·have:=h.asc b a q (by omega);omega
theorem lk_in {N:Nt}(hv:Qn N=true):Qet N where
 asc:=Z1 (λi j=>rfl) (Q0a hv).ascw
 wf:=λi hi=>by
  simp only[Qn,Xg,Bool.and_eq_true,decide_eq_true_eq] at hv
  obtain⟨_,hu,_,⟨hw,haw⟩,_⟩:=hv
  have:=Xv hw hi
  simp only[Qu,Jz,inB,Bool.and_eq_true,decide_eq_true_eq] at this
  obtain⟨⟨⟨⟨⟨g0,g1⟩,g2⟩,g3⟩,g4⟩,g5⟩:=this
  exact WalkArith.wf_i64 (by omega)
 way:=λe he=>by
  rw[Tc] at he
  obtain⟨i,j,q,hi,hj,hq,he1⟩:=Ib N.ways.length he
  obtain⟨_,a1⟩:=Ye hi hj hq
  rw[<-he1] at a1
  refine⟨i,hi,?_⟩
  rw[a1]
  split
  ·rfl
  ·split<;>rfl
 fwd:=λi hi=>by
  have h:=(Ft (Gc hv) (Q0a hv) hi).1
  unfold Qe7
  unfold Vv at h
  rw[List.filter_filter]
  intro e
  refine h (Eq.trans ?_ e)
  congr 1
  funext x
  exact Bool.and_comm _ _
end Go.Proofs.YtmmolhlihhdkcaaGreatDoor
