import Derived.Test.YtphiaobccollhaaGreatQKJ
namespace Go.Proofs.YtphiaobccollhaaGreat
open Go.RowKit Go.Sort Tryz
set_option linter.unusedVariables false
set_option maxRecDepth 1000000
set_option maxHeartbeats 16000000
variable {C b k lo:Nat}{w w':World}{v:Value}{ops:Array Oper}{o:Oper}{a:Act}{Q:Exit->Act->World->Prop}{l:List Vx}
structure Src where
 code:List UInt8
 pos:Nat
 mix:Int
 size:Int
structure SOk (S:Src):Prop where
 len:S.code.length<=4000
 mix:0<=S.mix/\S.mix<1000003
 size:1<=S.size/\S.size<=8
def V7 (l:List UInt8)(i:Nat):Int:=((l.getD i 0).toNat:Int)
theorem Q15 (l:List UInt8)(i:Nat):0<=V7 l i/\V7 l i<256:=by
 unfold V7
 have:=(l.getD i 0).toNat_lt
 omega
def mx (m:Int):Int:=(m*1103+12347)%1000003
theorem Qfb {m:Int}(h:0<=m):0<=mx m/\mx m<1000003:=⟨Int.emod_nonneg _ (by omega),Int.emod_lt_of_pos _ (by omega)⟩
def nv (S:Src)(n:Int):Int:=if n<=1 then 0 else if S.pos<S.code.length/\n<=256 then V7 S.code S.pos%n else mx S.mix/3%n
def ns (S:Src)(n:Int):Src:=if n<=1 then S else if S.pos<S.code.length/\n<=256 then { S with pos:=S.pos+1 } else { S with mix:=mx S.mix }
theorem Qv {S:Src}(h:SOk S)(n:Int):0<=nv S n/\(1<=n->nv S n<n):=by
 unfold nv
 split
 ·exact⟨Int.le_refl _,λh=>by omega⟩
 ·split
  ·exact⟨Int.emod_nonneg _ (by omega),λ_=>Int.emod_lt_of_pos _ (by omega)⟩
  ·exact⟨Int.emod_nonneg _ (by omega),λ_=>Int.emod_lt_of_pos _ (by omega)⟩
theorem Qf {S:Src}(h:SOk S)(n:Int):SOk (ns S n):=by
 unfold ns
 split
 ·exact h
 ·split
  ·exact⟨h.len,h.mix,h.size⟩
  ·exact⟨h.len,Qfb h.mix.1,h.size⟩
theorem Qs (S:Src)(n:Int):(ns S n).size=S.size:=by
 unfold ns
 split
 ·rfl
 ·split<;>rfl
def Wa (C:Nat)(w:World)(v:Value)(bs:List UInt8):Prop:=w.ownsRow C 5 1 v bs.length (bs.map λx=>.int .u8 (x.toNat:Int))
theorem Wa.held {bs:List UInt8}(h:Wa C w v bs):Jn C w v bs.length λb off i=>w.cell? (aD b (off+i))=some (.int .u8 (V7 bs i)):=by
 by_cases hp:0<bs.length
 ·obtain⟨h1,h2⟩:=h
  rcases h2 with⟨_,h3⟩|⟨b,cap,cur,hv,hg,hh,hc,hm,hs,ht⟩
  ·omega
  ·refine⟨_,_,hv,by omega,λ_=>⟨b,0,rfl,hg,(Array.getElem?_eq_some_iff.1 hh).1,λi hi=>?_⟩⟩
   have e:(cur.toList.take (bs.length*1))[i]?=(bs.map λx=>Value.int .u8 (x.toNat:Int))[i]?:=by rw[ht]
   rw[zQ (by omega),zN] at e
   have e2:(bs.map λx=>Value.int .u8 (x.toNat:Int))[i]?=some (.int .u8 (V7 bs i)):=by simp[V7,List.getD_eq_getElem?_getD,hi]
   rw[e2] at e
   show w.cell? (aD b (0+i))=_
   rw[Nat.zero_add]
   unfold World.cell?
   simp[hh,e]
 ·obtain⟨a,c,e⟩:=Qd h
  have h0:bs.length=0:=by omega
  exact⟨a,c,e,by rw[h0];simp[maxLen],λh=>by omega⟩
def Jj (C:Nat)(w:World)(b:Nat)(S:Src):Prop:=∃v,BT w b #[v,iV (S.pos:Int),iV S.mix,iV S.size] 44/\Wa C w v S.code
abbrev Sx1 (b:Nat):Nat->Prop:=λx=>x=b
theorem Jj.next {S:Src}(h:Jj C w b S)(k:Nx w w'):Jj C w' b S:=by
 obtain⟨v,h1,h2⟩:=h
 exact⟨v,h1.next k,Vc h2 k⟩
theorem Jj.chg {T:Nat->Prop}{S:Src}(h:Jj C w b S)(k:Chg T w w')(hn:∀x,T x->∃cs t,BT w x cs t/\t≠44/\t≠5):Jj C w' b S:=by
 obtain⟨v,h1,h2⟩:=h
 refine⟨v,h1.chg k (λhT=>?_),J5 h2 k (λg hg hT=>?_)⟩
 ·obtain⟨cs,t,hb,e1,_⟩:=hn b hT
  exact hb.ne h1 e1 rfl
 ·obtain⟨cs,t,hb,_,e2⟩:=hn g hT
  exact hb.neRow h2 e2 hg.symm
theorem Q75 {cs:Array Value}{bs:List UInt8}(hb:BT w b cs 44)(ho:Wa C w v bs)(i:Nat)(u:Value):BT (w.setCell (aD b i) u) b (cs.setIfInBounds i u) 44/\Wa C (w.setCell (aD b i) u) v bs:=
 ⟨hb.set i u,J5 ho (Chg.set (S:=Sx1 b) _ _ _ rfl) (λg hg e=>by
  have e':g=b:=e
  subst e'
  exact hb.neRow ho (by decide) hg.symm)⟩
theorem Q6 (C b:Nat)(S:Src)(n:Int)(w:World)(h:Jj C w b S)(hok:SOk S)(hn:n<=1000000000) :
  Calls prog 21 #[pT b,iV n] w λe w'=>e=.returned (iV (nv S n))/\Jj C w' b (ns S n)/\Chg (Sx1 b) w w':=by
 have HS:=mh h
 by_cases h1:n<=1
 ·have e1:Z (nv S n=0):=by unfold Z nv;rw[if_pos h1]
  have e2:Z (ns S n=S):=by unfold Z ns;rw[if_pos h1]
  go_enter func21,ntmps21
  go_wp2
  go_ret
  rw[e1.o,e2.o]
  exact⟨rfl,HS.o,Chg.nx (Nx.refl _)⟩
 obtain⟨v,hb,ho⟩:=h
 have HB:=mh hb
 have HO:=mh ho
 obtain⟨a,c,ev,hm,hk⟩:=ho.held
 subst ev
 have hl:=hok.len
 have hmx:=hok.mix
 generalize hL:S.code.length=L at *
 have HL:=mh hL
 have b0:w.cell? (aD b 0)=some (sL a L c):=hb.c 0 rfl
 have b1:w.cell? (aD b 1)=some (iV (S.pos:Int)):=hb.c 1 rfl
 have b2:w.cell? (aD b 2)=some (iV S.mix):=hb.c 2 rfl
 by_cases hp:S.pos<L/\n<=256
 ·have e1:Z (nv S n=V7 S.code S.pos%n):=by unfold Z nv;rw[if_neg h1,HL.o,if_pos hp]
  have e2:Z (ns S n={ S with pos:=S.pos+1 }):=by unfold Z ns;rw[if_neg h1,HL.o,if_pos hp]
  obtain⟨cb,co,rfl,_,_,hc⟩:=hk (by omega)
  have c1:=hc S.pos hp.1
  have hbi:=Q15 S.code S.pos
  have hwy:wrap64 (V7 S.code S.pos)=V7 S.code S.pos:=Go.IntWalk.wrap64_in _ ⟨by omega,by omega⟩
  generalize hPP:S.pos=P at *
  have HPP:=mh hPP
  obtain⟨p1,p2⟩:=hp
  have p1':(P:Int)<L:=by omega
  clear hk hc hPP hb ho hL
  go_enter func21,ntmps21
  go_upto_region 3 with fail
  go_quiet (fail)
  generalize wdq:w.drewN nq=w1 at *
  have HX1:Z (Nx w w1):=by rw[<-wdq];exact J3 _ _
  clear wdq
  have b0':=Q0 HX1.o b0
  have b1':=Q0 HX1.o b1
  have c1':=Q0 HX1.o c1
  go_upto_region 4 with fail
  go_quiet (fail)
  generalize wdq:w1.drewN nq=w2 at *
  have HX2:Z (Nx w w2):=by rw[<-wdq];exact HX1.o.trans (J3 _ _)
  clear wdq b0' b1' c1' b0 b1 c1
  have BB:=HB.o.next HX2.o
  have b1:w2.cell? (aD b 1)=some (iV (P:Int)):=BB.c 1 rfl
  have f1:=BB.blk.frozen 1
  have n0:n≠0:=by omega
  have n1:(n==0)=false:=by simpa using n0
  have hP:(P:Int)<=4000:=by omega
  go_wp2
  go_ret
  rw[e1.o,e2.o]
  have hs:=Q75 BB (Vc HO.o HX2.o) 1 (iV ((P:Int)+1))
  exact⟨rfl,⟨_,hs.1,hs.2⟩,(Chg.nx HX2.o).trans (Chg.set _ _ _ rfl)⟩
 ·have e1:Z (nv S n=mx S.mix/3%n):=by unfold Z nv;rw[if_neg h1,HL.o,if_neg hp]
  have e2:Z (ns S n={ S with mix:=mx S.mix }):=by unfold Z ns;rw[if_neg h1,HL.o,if_neg hp]
  have hmm:=Qfb hmx.1
  have n0:n≠0:=by omega
  have n1:(n==0)=false:=by simpa using n0
  have f2:=hb.blk.frozen 2
  clear hk hb ho hL
  go_enter func21,ntmps21
  go_upto_region 3 with fail
  go_cut [21] from 8 to 21 (λs wc=>s=.bool false/\Z (Nx w wc))
  case first=>
   by_cases p1:S.pos<L
   ·have p1':decide ((S.pos:Int)<L)=true:=by simp;omega
    have p2:decide (n<=256)=false:=by simp;omega
    go_quiet (fail)
    go_wp2
    go_meet
    exact⟨rfl,J3 _ _⟩
   ·have p1':decide ((S.pos:Int)<L)=false:=by simp;omega
    go_quiet (fail)
    go_wp2
    go_meet
    exact⟨rfl,J3 _ _⟩
  case rest=>
  obtain⟨rfl,HX2⟩:=hcut
  have BB:=HB.o.next HX2.o
  clear b0 b1 b2 f2
  have b2:wc.cell? (aD b 2)=some (iV S.mix):=BB.c 2 rfl
  have f2:=BB.blk.frozen 2
  go_wp2
  go_ret
  rw[e1.o,e2.o]
  have hs:=Q75 BB (Vc HO.o HX2.o) 2 (iV (mx S.mix))
  exact⟨rfl,⟨_,hs.1,hs.2⟩,(Chg.nx HX2.o).trans (Chg.set _ _ _ rfl)⟩
def dwV (S:Src):Int:=if nv S 16<10 then nv S 16 else if nv S 16=15 then 1048576 else if nv S 16=14 then nv (ns S 16) 1048577 else nv S 16-10
def dwS (S:Src):Src:=if nv S 16=14 then ns (ns S 16) 1048577 else ns S 16
theorem Q67 {S:Src}(h:SOk S):SOk (dwS S):=by
 unfold dwS
 split
 ·exact Qf (Qf h _) _
 ·exact Qf h _
theorem Qc2 (S:Src):(dwS S).size=S.size:=by
 unfold dwS
 split
 ·rw[Qs,Qs]
 ·rw[Qs]
theorem Zj (C b:Nat)(S:Src)(w:World)(h:Jj C w b S)(hok:SOk S) :
  Calls prog 78 #[pT b] w λe w'=>e=.returned (iV (dwV S))/\Jj C w' b (dwS S)/\Chg (Sx1 b) w w':=by
 have HOK:Z (SOk S):=hok
 have h1:=Qv hok 16
 go_enter func78,ntmps78
 go_wp2_with fail
 refine(Q6 C b S 16 w h hok (by omega)).mono ?_
 rintro e w1 ⟨rfl,h1s,hc⟩
 have HS1:=mh h1s
 have HC1:=mh hc
 have HV:Z (dwV S=if nv S 16<10 then nv S 16 else if nv S 16=15 then 1048576 else if nv S 16=14 then nv (ns S 16) 1048577 else nv S 16-10):=rfl
 have HD:Z (dwS S=if nv S 16=14 then ns (ns S 16) 1048577 else ns S 16):=rfl
 generalize nv S 16=k at *
 clear h1s hc
 by_cases k1:k<10
 ·have HF:Z (dwV S=k):=by unfold Z;rw[HV.o,if_pos k1]
  have HG:Z (dwS S=ns S 16):=by unfold Z;rw[HD.o,if_neg (by omega)]
  go_wp2
  go_ret
  rw[HF.o,HG.o]
  exact⟨rfl,HS1.o,HC1.o⟩
 by_cases k2:k=15
 ·have HF:Z (dwV S=1048576):=by unfold Z;rw[HV.o,if_neg k1,if_pos k2]
  have HG:Z (dwS S=ns S 16):=by unfold Z;rw[HD.o,if_neg (by omega)]
  subst k2
  go_wp2
  go_ret
  rw[HF.o,HG.o]
  exact⟨rfl,HS1.o,HC1.o⟩
 have d2:(k==15)=false:=by simpa using k2
 by_cases k3:k=14
 ·have HF:Z (dwV S=nv (ns S 16) 1048577):=by unfold Z;rw[HV.o,if_neg k1,if_neg k2,if_pos k3]
  have HG:Z (dwS S=ns (ns S 16) 1048577):=by unfold Z;rw[HD.o,if_pos k3]
  subst k3
  clear d2 k2 k1
  go_wp2_with fail
  refine(Q6 C b (ns S 16) 1048577 w1 HS1.o (Qf HOK.o _) (by omega)).mono ?_
  rintro e w2 ⟨rfl,h2s,hc2⟩
  go_wp2
  go_ret
  rw[HF.o,HG.o]
  exact⟨rfl,h2s,HC1.o.trans hc2⟩
 ·have d3:(k==14)=false:=by simpa using k3
  have HF:Z (dwV S=k-10):=by unfold Z;rw[HV.o,if_neg k1,if_neg k2,if_neg k3]
  have HG:Z (dwS S=ns S 16):=by unfold Z;rw[HD.o,if_neg k3]
  clear k3 k2
  go_wp2
  go_ret
  rw[HF.o,HG.o]
  exact⟨rfl,HS1.o,HC1.o⟩
section
variable {t e:TypeId}{size bytes:Nat}{z:Value}
theorem U7 (hinfo:(prog.info? e).map (λi=>(i.zero,i.size,i.bytes))=some (some z,size,bytes))(ht:prog.underlying t=some (.slice e))(hz:z.cells.size=size)(hsz:0<size)(hby:bytes<=1000)
  {ops:Array Oper}{rest:List Oper}{o:Oper}{a:Act}{Q:Exit->Act->World->Prop} (hgd:o.guard=none) (s x:Operand) (ho:o.op=.call { callee:=.builtin .append,args:=#[s,x],argTypes:=#[t,t] })
  (C n:Nat) (v:Value) (xs news:List Value) (w0:World) (hs:a.eval s=v) (hown:w0.ownsRow C e size v n xs) (hx:a.eval x=sL (sA w0.heap.size) 1 1) (hl:news.length=size) (h1:∀u∈news,u.oneCell'=true) (hn:n<=1000000) (hC:C<=w0.heap.size)
  (h:∀a' c' w',w'.ownsRow C e size (sL a' (n+1) c') (n+1) (xs++news)->Chg (λx=>some x=v.ownBlock) w0 w'->(∀g,(sL a' (n+1) c').ownBlock=some g->v.ownBlock=some g\/w0.heap.size<=g)->wpList prog ops Q rest (a.put o.dst (sL a' (n+1) c')) w') :
  wpList prog ops Q (o::rest) a (w0.alloc (.cells news.toArray e)):=by
 obtain⟨ii,hi,hz0,hz1,hz2⟩:=info_parts hinfo
 refine wpList_append_own_at _ hgd s x t ho C e ii z size bytes ht hi hz0 hz1 hz2 hz hsz v n xs hs (zB hown _) (aD w0.heap.size 0) 1 1 news hx (by rw[hl,Nat.one_mul]) (λj u hj=>Qn w0 _ _ _ rfl j u (by simpa using hj)) h1 (by unfold maxLen;omega) ?_ (by rw[Q1];omega) ?_
 ·have:(n+1)*bytes<=1000001*1000:=Nat.mul_le_mul (by omega) hby
  omega
 ·intro v' w' r1 r2 _ r4
  obtain⟨a',c',rfl⟩:=Qd r1
  refine h a' c' w' r1 (Chg.grown ((World.grownBy_alloc w0 _ _).trans r2) (λb e=>e)) (λg hg=>?_)
  rcases r4 with r4|r4
  ·exact oL (by rw[<-r4];exact hg)
  ·rw[r4] at hg
   have:=zE hg
   rw[Q1] at this
   exact oR (by omega)
theorem Un (hinfo:(prog.info? e).map (λi=>(i.zero,i.size,i.bytes))=some (some z,size,bytes))(ht:prog.underlying t=some (.slice e))(hz:z.cells.size=size)(hsz:0<size)(hby:bytes<=1000)
  {k:Nat}{ops:Array Oper}{o:Oper}{a:Act}{K:Act->World->Prop}{Q:Exit->Act->World->Prop}{E:Prop} (hgd:o.guard=none) (s x:Operand) (ho:o.op=.call { callee:=.builtin .append,args:=#[s,x],argTypes:=#[t,t] })
  (C n:Nat) (v:Value) (xs news:List Value) (w0 W:World) (hW:W=w0.alloc (.cells news.toArray e)) (hs:a.eval s=v) (hown:w0.ownsRow C e size v n xs) (hx:a.eval x=sL (sA w0.heap.size) 1 1) (hl:news.length=size) (h1:∀u∈news,u.oneCell'=true) (hn:n<=1000000) (hC:C<=w0.heap.size)
  (h:∀a' c' w',w'.ownsRow C e size (sL a' (n+1) c') (n+1) (xs++news)->Chg (λx=>some x=v.ownBlock) w0 w'->(∀g,(sL a' (n+1) c').ownBlock=some g->v.ownBlock=some g\/w0.heap.size<=g)->K (a.put o.dst (sL a' (n+1) c')) w') :
  if Region.wanted o (yielded ops a.tmps)=true then Oper.wpIn Fence.wide k prog o a W K Q else E:=by
 obtain⟨ii,hi,hz0,hz1,hz2⟩:=info_parts hinfo
 subst hW
 refine Tv hgd s x t ho e ii z size bytes ht hi hz0 hz1 hz2 hz hsz C v n xs hs (zB hown _) (aD w0.heap.size 0) 1 1 news hx (by rw[hl,Nat.one_mul]) (λj u hj=>Qn w0 _ _ _ rfl j u (by simpa using hj)) h1 (by unfold maxLen;omega) ?_ (by rw[Q1];omega) ?_
 ·have:(n+1)*bytes<=1000001*1000:=Nat.mul_le_mul (by omega) hby
  omega
 ·intro v' w' r1 r2 r4
  obtain⟨a',c',rfl⟩:=Qd r1
  refine h a' c' w' r1 (Chg.grown ((World.grownBy_alloc w0 _ _).trans r2) (λb e=>e)) (λg hg=>?_)
  rcases r4 with r4|r4
  ·exact oL (by rw[<-r4];exact hg)
  ·rw[r4] at hg
   have:=zE hg
   rw[Q1] at this
   exact oR (by omega)
end
theorem Ir:(prog.info? 137).map (λi=>(i.zero,i.size,i.bytes))=some (some (.agg #[iV 0,iV 0,iV 0]),3,24):=by kernel_rfl
theorem Iq:(prog.info? 93).map (λi=>(i.zero,i.size,i.bytes))=some (some (.agg #[iV 0,.bool false,sN,sN]),4,64):=by kernel_rfl
theorem Q48:(prog.info? 89).map (λi=>(i.zero,i.size,i.bytes))=some (some (.agg #[iV 0,.bool false,iV 0,iV 0,.bool false,iV 0,sN]),7,72):=by kernel_rfl
theorem Q9h:(prog.info? 5).map (λi=>(i.zero,i.size,i.bytes))=some (some (.int .u8 0),1,1):=by kernel_rfl
theorem Yy {rest:List Oper}(hgd:o.guard=none)(s x:Operand)(ho:o.op=.call { callee:=.builtin .append,args:=#[s,x],argTypes:=#[23,23] })
  (C n:Nat) (v:Value) (zs:List Int) (y:Int) (w0:World) (hs:a.eval s=v) (hown:Q5 C w0 v zs) (hx:a.eval x=sL (sA w0.heap.size) 1 1) (hn:zs.length=n) (hm:n<=1000000) (hC:C<=w0.heap.size)
  (h:∀a' c' w',Q5 C w' (sL a' (n+1) c') (zs++[y])->Chg (λx=>some x=v.ownBlock) w0 w'->(∀g,(sL a' (n+1) c').ownBlock=some g->v.ownBlock=some g\/w0.heap.size<=g)->wpList prog ops Q rest (a.put o.dst (sL a' (n+1) c')) w') :
  wpList prog ops Q (o::rest) a (w0.alloc (.cells #[iV y] 2)):=by
 subst hn
 refine U7 Zp underlying23 rfl (by decide) (by decide) hgd s x ho C zs.length v (J0 zs) [iV y] w0 hs hown hx rfl (by intro u hu;simp at hu;subst hu;rfl) hm hC (λa' c' w' r1 r2 r3=>h a' c' w' ?_ r2 r3)
 exact Q5.snoc r1
theorem Jl {K:Act->World->Prop}{E:Prop}(hgd:o.guard=none)(s x:Operand)(ho:o.op=.call { callee:=.builtin .append,args:=#[s,x],argTypes:=#[23,23] })
  (C n:Nat) (v:Value) (zs:List Int) (y:Int) (w0 W:World) (hW:W=w0.alloc (.cells #[iV y] 2)) (hs:a.eval s=v) (hown:Q5 C w0 v zs) (hx:a.eval x=sL (sA w0.heap.size) 1 1) (hn:zs.length=n) (hm:n<=1000000) (hC:C<=w0.heap.size)
  (h:∀a' c' w',Q5 C w' (sL a' (n+1) c') (zs++[y])->Chg (λx=>some x=v.ownBlock) w0 w'->(∀g,(sL a' (n+1) c').ownBlock=some g->v.ownBlock=some g\/w0.heap.size<=g)->K (a.put o.dst (sL a' (n+1) c')) w') :
  if Region.wanted o (yielded ops a.tmps)=true then Oper.wpIn Fence.wide k prog o a W K Q else E:=by
 subst hn
 refine Un Zp underlying23 rfl (by decide) (by decide) hgd s x ho C zs.length v (J0 zs) [iV y] w0 W hW hs hown hx rfl (by intro u hu;simp at hu;subst hu;rfl) hm hC (λa' c' w' r1 r2 r3=>h a' c' w' ?_ r2 r3)
 exact Q5.snoc r1
def Tk (t:Tn):List Value:=[iV t.frm,iV t.to,iV t.cost]
def Q08 (C:Nat)(w:World)(v:Value)(ts:List Tn):Prop:=w.ownsRow C 137 3 v ts.length (ts.flatMap Tk)
theorem flatK {α:Type}(hk:0<k)(l:List α)(f:α->List Value)(hf:∀x,(f x).length=k)(i q:Nat)(hq:q<k)(x:α)(hx:l[i]?=some x):(l.flatMap f)[i*k+q]?=(f x)[q]?:=by
 induction l generalizing i with
 |nil=>simp at hx
 |cons a l ih=>
  cases i with
  |zero=>
   simp at hx
   subst hx
   rw[List.flatMap_cons,Nat.zero_mul,Nat.zero_add,zT (by rw[hf];exact hq)]
  |succ i=>
   rw[List.flatMap_cons,yA (by rw[hf,Nat.succ_mul];omega),hf,show(i+1)*k+q-k=i*k+q by rw[Nat.succ_mul];omega]
   exact ih i (by simpa using hx)
theorem Yj {α:Type}{t n:Nat}{l:List α}{f:α->List Value}(h:w.ownsRow C t k v n (l.flatMap f))(hl:l.length=n)(hk:0<k)(hf:∀x,(f x).length=k){i:Nat}{x:α}(hx:l[i]?=some x) :
  ∃b c,v=sL (sA b) n c/\n<=c/\n<=maxLen/\C<=b/\b<w.heap.size/\∀q,q<k->w.cell? (aD b (i*k+q))=(f x)[q]?:=by
 have hi:=(List.getElem?_eq_some_iff.1 hx).1
 obtain⟨h1,h2⟩:=h
 rcases h2 with⟨_,h3⟩|⟨b,cap,cur,hv,hg,hh,hc,hm,hs,ht⟩
 ·omega
 ·refine⟨b,cap,hv,hc,by omega,hg,(Array.getElem?_eq_some_iff.1 hh).1,λq hq=>?_⟩
  have hlt:i*k+q<n*k:=by
   have:(i+1)*k<=n*k:=Nat.mul_le_mul_right _ (by omega)
   rw[Nat.succ_mul] at this
   omega
  have e1:(cur.toList.take (n*k))[i*k+q]?=(l.flatMap f)[i*k+q]?:=by rw[ht]
  rw[zQ hlt,zN] at e1
  have e2:=flatK hk l f hf i q hq x hx
  unfold World.cell?
  simp only[hh]
  rw[e1,e2]
  rfl
theorem Ib {t n:Nat}{xs:List Value}(h:w.ownsRow C t k v n xs):n<=maxLen:=by
 rcases h.2 with⟨_,h3⟩|⟨b,cap,cur,hv,hg,hh,hc,hm,hs,ht⟩
 ·rw[h3];exact nZ
 ·omega
theorem Q08.held {ts:List Tn}(h:Q08 C w v ts):Wm C w v ts:=by
 obtain⟨a,c,rfl⟩:=Qd h
 refine⟨a,c,rfl,Ib h,λhp=>?_⟩
 have at_:∀i,i<ts.length->ts[i]?=some (tat ts i):=λi hi=>by simp[tat,List.getD_eq_getElem?_getD,hi]
 obtain⟨b,c',e,_,_,hC,hb,_⟩:=Yj h rfl (by decide) (λ_=>rfl) (at_ 0 hp)
 simp only[zC] at e
 obtain⟨rfl,_,rfl⟩:=e
 refine⟨b,0,rfl,hC,hb,λi hi=>?_⟩
 obtain⟨b',c',e,_,_,_,_,k⟩:=Yj h rfl (by decide) (λ_=>rfl) (at_ i hi)
 simp only[zC,Option.some.injEq,Addr.mk.injEq] at e
 obtain⟨⟨rfl,_⟩,_⟩:=e
 rw[Nat.zero_add]
 exact⟨k 0 (by omega),k 1 (by omega),k 2 (by omega)⟩
def HVt (w:World)(b off:Nat)(x:Vx):Prop:=w.cell? (aD b off)=some (iV x.1)/\w.cell? (aD b (off+1))=some (iV x.2)
def HVs (B:Nat)(w:World)(v:Value)(l:List Vx):Prop:=Jn B w v l.length λb off i=>HVt w b (off+i*2) (vtx l i)
theorem HVs.next {B:Nat}(h:HVs B w v l)(k:Nx w w'):HVs B w' v l:=Jn.mono h lR k.size λb off hb hs i hi hc=>⟨Q0 k hc.1,Q0 k hc.2⟩
def PlV (l:List Vx)(u:Vx)(lo hi:Nat):Prop:=(∀i,i<lo->i<l.length->Vlt (vtx l i) u)/\∀i,hi<=i->i<l.length->¬Vlt (vtx l i) u
theorem Qas {u:Vx}{hi m:Nat}(ha:Ww l)(h:PlV l u lo hi)(hm:m<l.length)(hv:Vlt (vtx l m) u):PlV l u (m+1) hi:=
 ⟨λi hi' hl=>by
  by_cases e:i=m
  ·subst e;exact hv
  ·exact(Ix ha (show i<m by omega) hm).trans hv,h.2⟩
theorem Q3i {u:Vx}{hi m:Nat}(ha:Ww l)(h:PlV l u lo hi)(hv:¬Vlt (vtx l m) u):PlV l u lo m:=
 ⟨h.1,λi hi' hl c=>by
  by_cases e:i=m
  ·subst e;exact hv c
  ·exact hv ((Ix ha (show m<i by omega) hl).trans c)⟩
theorem Em {u:Vx}(ha:Ww l)(h:PlV l u lo lo)(hn:lo<l.length->vtx l lo≠u):Xv l u=-1:=Q4a λhm=>by
 obtain⟨i,hi,e⟩:=Q21 hm
 rcases Nat.lt_trichotomy i lo with c|c|c
 ·have:=h.1 i c hi;rw[e] at this;exact this.irr
 ·subst c;exact hn hi e
 ·have k:=Ix ha c hi
  rw[e] at k
  exact h.2 lo lR (by omega) k
theorem Qg3 (lo hi:Nat)(h:lo<hi):∃m:Nat,((lo:Int)+hi).tdiv 2=(m:Int)/\lo<=m/\m<hi:=by
 refine⟨(lo+hi)/2,?_,by omega,by omega⟩
 rw[Int.tdiv_eq_ediv_of_nonneg (by omega)]
 omega
theorem Pb (B:Nat)(v:Value)(l:List Vx)(u1 u2:Int)(w:World)(h0:HVs B w v l)(ha:Ww l)(hl:l.length<=1000000) :
  Calls prog 63 #[v,.agg #[iV u1,iV u2]] w λe w'=>e=.returned (iV (Xv l (u1,u2)))/\Nx w w':=by
 have HA:=mh ha
 have HB0:=BT.new w #[iV u1,iV u2] 112 _ rfl
 have HX0:Z (Nx w (w.alloc (.cells #[iV u1,iV u2] 112))):=Qe _ _
 have HBX:Z (BT (w.alloc (.cells #[iV u1,iV u2] 112)) w.heap.size #[iV u1,iV u2] 112):=HB0
 obtain⟨a,cap,rfl,hn,hk⟩:=h0
 unfold maxLen at hn
 generalize hz:l.length=n at *
 have HZ:=mh hz
 obtain⟨u,hu⟩:∃u:Vx,u=(u1,u2):=⟨_,rfl⟩
 have HU:Z ((u1,u2)=u):=hu.symm
 have HU1:Z (u.1=u1/\u.2=u2):=by subst hu;exact⟨rfl,rfl⟩
 clear hz ha hu HB0
 go_enter func63,ntmps63
 go_upto_region 1 with fail
 generalize w.alloc (.cells #[iV u1,iV u2] 112)=w0 at *
 go_wp2
 go_loopw [5,6,7] (λs5 s6 s7 wr=>∃lo hi:Nat,lo<=hi/\hi<=n/\s5=iV lo/\s6=iV hi/\Z (PlV l u lo hi)/\Z (Nx w0 wr)) (λs5 s6 _ _=>(intOf s6).toNat-(intOf s5).toNat)
 case atStart=>exact⟨0,n,nZ,lR,rfl,rfl,⟨λi hi=>absurd hi (zK _),λi h1 h2=>by rw[HZ.o] at h2;omega⟩,Nx.refl _⟩
 obtain⟨lo,hi,hlh,hhn,rfl,rfl,HP,HN⟩:=hrel
 have HNW:=mh (HX0.o.trans HN.o)
 have HBW:=HBX.o.next HN.o
 have y0:=HBW.c 0 rfl
 have y1:=HBW.c 1 rfl
 clear HBW
 by_cases hlt:lo<hi
 ·obtain⟨m,hm,hm1,hm2⟩:=Qg3 lo hi hlt
  have hlt':(lo:Int)<hi:=by omega
  have hmn:(m:Int)<n:=by omega
  have hm2':m<l.length:=by rw[HZ.o];omega
  obtain⟨b,off,rfl,hB,hb,hc⟩:=hk (by omega)
  obtain⟨e0,e1⟩:=hc m (by omega)
  have c0:=Q2 HNW.o hb e0
  have c1:=Q2 HNW.o hb e1
  have hwm:IntKind.i64.wrap ((lo:Int)+hi)=(lo:Int)+hi:=by rw[IntKind.wrap_i64];omega
  have HVV:Z (u=(u1,u2)):=HU.o.symm
  have hu1:=HU1.o.1
  have hu2:=HU1.o.2
  clear hc hk e0 e1
  by_cases hc1:(vtx l m).1<u1
  ·have d1:decide ((vtx l m).1<u1)=true:=by simpa using hc1
   have HP':=mh (Qas HA.o HP.o hm2' (oL (by rw[hu1];exact hc1)))
   clear HVV hu1 hu2 hm2'
   generalize vtx l m=x at *
   go_wp2
   go_quiet (fail)
   go_wp2
   go_roundw
   case rel=>exact⟨m+1,hi,by omega,hhn,by go_num,rfl,HP',HN.o.trans ⟨rfl,rfl,rfl,lR,λ_ _=>rfl⟩⟩
   case measure=>simp[intOf];omega
  by_cases hc2:(vtx l m).1=u1
  ·by_cases hc3:(vtx l m).2<u2
   ·have d1:decide ((vtx l m).1<u1)=false:=by simpa using hc1
    have d2:((vtx l m).1==u1)=true:=by simpa using hc2
    have d3:decide ((vtx l m).2<u2)=true:=by simpa using hc3
    have HP':=mh (Qas HA.o HP.o hm2' (oR ⟨by rw[hu1];exact hc2,by rw[hu2];exact hc3⟩))
    clear HVV hu1 hu2 hm2'
    generalize vtx l m=x at *
    go_wp2
    go_quiet (fail)
    go_wp2
    go_roundw
    case rel=>exact⟨m+1,hi,by omega,hhn,by go_num,rfl,HP',HN.o.trans ⟨rfl,rfl,rfl,lR,λ_ _=>rfl⟩⟩
    case measure=>simp[intOf];omega
   ·have d1:decide ((vtx l m).1<u1)=false:=by simpa using hc1
    have d2:((vtx l m).1==u1)=true:=by simpa using hc2
    have d3:decide ((vtx l m).2<u2)=false:=by simpa using hc3
    have HP':=mh (Q3i HA.o HP.o (λc=>by rcases c with c|c;exact hc1 (by rw[<-hu1];exact c);exact hc3 (by rw[<-hu2];exact c.2)))
    clear HVV hu1 hu2 hm2'
    generalize vtx l m=x at *
    go_wp2
    go_quiet (fail)
    go_wp2
    go_roundw
    case rel=>exact⟨lo,m,hm1,by omega,rfl,rfl,HP',HN.o.trans ⟨rfl,rfl,rfl,lR,λ_ _=>rfl⟩⟩
    case measure=>simp[intOf];omega
  ·have d1:decide ((vtx l m).1<u1)=false:=by simpa using hc1
   have d2:((vtx l m).1==u1)=false:=by simpa using hc2
   have HP':=mh (Q3i HA.o HP.o (λc=>by rcases c with c|c;exact hc1 (by rw[<-hu1];exact c);exact hc2 (by rw[<-hu1];exact c.1)))
   clear HVV hu1 hu2 hm2'
   generalize vtx l m=x at *
   go_wp2
   go_quiet (fail)
   go_wp2
   go_roundw
   case rel=>exact⟨lo,m,hm1,by omega,rfl,rfl,HP',HN.o.trans ⟨rfl,rfl,rfl,lR,λ_ _=>rfl⟩⟩
   case measure=>simp[intOf];omega
 have ek:lo=hi:=by omega
 subst ek
 have hlt0:¬(lo:Int)<lo:=by omega
 by_cases hln:lo<n
 ·have hln':(lo:Int)<n:=by omega
  obtain⟨b,off,rfl,hB,hb,hc⟩:=hk (by omega)
  obtain⟨e0,e1⟩:=hc lo hln
  have c0:=Q2 HNW.o hb e0
  have c1:=Q2 HNW.o hb e1
  have hu1:=HU1.o.1
  have hu2:=HU1.o.2
  clear hc hk e0 e1
  by_cases hc1:(vtx l lo).1=u1
  ·have d1:((vtx l lo).1==u1)=true:=by simpa using hc1
   by_cases hc2:(vtx l lo).2=u2
   ·have d2:((vtx l lo).2==u2)=true:=by simpa using hc2
    have HI:Z ((lo:Int)=Xv l (u1,u2)):=by
     have e:vtx l lo=u:=Prod.ext (by rw[hu1];exact hc1) (by rw[hu2];exact hc2)
     unfold Z
     rw[HU.o,<-e,Qg2 HA.o (by rw[HZ.o];exact hln)]
    clear hc1 hc2 hu1 hu2
    generalize vtx l lo=x at *
    go_wp2
    go_quiet (fail)
    go_wp2
    go_ret
    exact⟨Qu HI.o,HNW.o.trans ⟨rfl,rfl,rfl,lR,λ_ _=>rfl⟩⟩
   ·have d2:((vtx l lo).2==u2)=false:=by simpa using hc2
    have HI:=mh (HU.o▸(Em HA.o HP.o (λ_ e=>hc2 (by rw[<-hu2,<-e]))).symm)
    clear hc1 hc2 hu1 hu2
    generalize vtx l lo=x at *
    go_wp2
    go_quiet (fail)
    go_wp2
    go_ret
    exact⟨Qu HI.o,HNW.o.trans ⟨rfl,rfl,rfl,lR,λ_ _=>rfl⟩⟩
  ·have d1:((vtx l lo).1==u1)=false:=by simpa using hc1
   have HI:=mh (HU.o▸(Em HA.o HP.o (λ_ e=>hc1 (by rw[<-hu1,<-e]))).symm)
   clear hc1 hu1 hu2
   generalize vtx l lo=x at *
   go_wp2
   go_quiet (fail)
   go_wp2
   go_ret
   exact⟨Qu HI.o,HNW.o.trans ⟨rfl,rfl,rfl,lR,λ_ _=>rfl⟩⟩
 ·have hln':¬(lo:Int)<n:=by omega
  have HI:=mh (HU.o▸(Em HA.o HP.o (λc=>absurd (by rw[HZ.o] at c;exact c) hln)).symm)
  clear hk
  go_wp2
  go_quiet (fail)
  go_wp2
  go_ret
  exact⟨Qu HI.o,HNW.o.trans ⟨rfl,rfl,rfl,lR,λ_ _=>rfl⟩⟩
def Qf6 (x:Vx):List Value:=[iV x.1,iV x.2]
def J4 (C:Nat)(w:World)(v:Value)(l:List Vx):Prop:=w.ownsRow C 112 2 v l.length (l.flatMap Qf6)
theorem Qfx:(prog.info? 112).map (λi=>(i.zero,i.size,i.bytes))=some (some (.agg #[iV 0,iV 0]),2,16):=by kernel_rfl
theorem T3 (w:World)(C:Nat)(h:C<=w.heap.size):J4 C (w.alloc (.cells #[] 112)) (sL (sA w.heap.size) 0 0) []:=
 ⟨rfl,.inr ⟨w.heap.size,0,#[],rfl,h,by show(w.heap.push _)[w.heap.size]?=_;simp,lR,by simp[maxLen],by simp,by simp⟩⟩
theorem J4.next (h:J4 C w v l)(k:Nx w w'):J4 C w' v l:=Vc h k
theorem J4.base {C':Nat}(h:J4 C w v l)(hC:C'<=C):J4 C' w v l:=Jb h hC
theorem J4.held (h:J4 C w v l):HVs C w v l:=by
 obtain⟨a,c,rfl⟩:=Qd h
 refine⟨a,c,rfl,Ib h,λh0=>?_⟩
 obtain⟨b,c',e,-,-,hB,hb,-⟩:=Yj h rfl (by decide) (λ_=>rfl) (zH h0)
 simp only[zC] at e
 refine⟨b,0,e.1,hB,hb,λi hi=>?_⟩
 obtain⟨b2,c2,e2,-,-,-,-,k⟩:=Yj h rfl (by decide) (λ_=>rfl) (zH hi)
 simp only[zC] at e2
 have eb:b2=b:=by
  have x:=e.1.symm.trans e2.1
  simp only[Option.some.injEq,Addr.mk.injEq] at x
  exact x.1.symm
 subst eb
 have k0:=k 0 (by decide)
 have k1:=k 1 (by decide)
 rw[Zx hi]
 exact⟨by rw[Nat.zero_add];exact k0,by rw[Nat.zero_add];exact k1⟩
theorem Yf {rest:List Oper}(hgd:o.guard=none)(s x:Operand)(ho:o.op=.call { callee:=.builtin .append,args:=#[s,x],argTypes:=#[109,109] })
  (C n:Nat) (v:Value) (l:List Vx) (y:Vx) (w0:World) (hs:a.eval s=v) (hown:J4 C w0 v l) (hx:a.eval x=sL (sA w0.heap.size) 1 1) (hn:l.length=n) (hm:n<=1000000) (hC:C<=w0.heap.size)
  (h:∀a' c' w',J4 C w' (sL a' (n+1) c') (l++[y])->Chg (λx=>some x=v.ownBlock) w0 w'->(∀g,(sL a' (n+1) c').ownBlock=some g->v.ownBlock=some g\/w0.heap.size<=g)->wpList prog ops Q rest (a.put o.dst (sL a' (n+1) c')) w') :
  wpList prog ops Q (o::rest) a (w0.alloc (.cells #[iV y.1,iV y.2] 112)):=by
 subst hn
 refine U7 Qfx underlying109 rfl (by decide) (by decide) hgd s x ho C l.length v (l.flatMap Qf6) [iV y.1,iV y.2] w0 hs hown hx rfl (by intro u hu;simp at hu;rcases hu with rfl|rfl<;>rfl) hm hC (λa' c' w' r1 r2 r3=>h a' c' w' ?_ r2 r3)
 unfold J4
 rw[zA,List.flatMap_append]
 exact r1
structure Q6o (l:List Vx)(u:Vx)(k:Nat)(d:Bool):Prop where
 no:u∉l.take k
 yes:d=true->∃x∈l.take k,Vlt u x
 low:d=false->∀x∈l.take k,Vlt x u
def Jv (l:List Vx)(u:Vx)(k:Nat)(d:Bool):List Vx:=if d=true then Yh (l.take k) u else l.take k
theorem Tu (h:k<l.length):l.take (k+1)=l.take k++[vtx l k]:=by rw[zP h,Zx h]
theorem Q7o {u:Vx}(h:Q6o l u k false)(hk:k<l.length)(hv:Vlt (vtx l k) u):Q6o l u (k+1) false/\Jv l u (k+1) false=Jv l u k false++[vtx l k]:=by
 refine⟨⟨?_,(λe=>by cases e),λ_ x hx=>?_⟩,?_⟩
 ·rw[Tu hk,yG,List.mem_singleton]
  rintro(a|a)
  ·exact h.no a
  ·rw[<-a] at hv;exact hv.irr
 ·rw[Tu hk,yG,List.mem_singleton] at hx
  rcases hx with a|a
  ·exact h.low rfl x a
  ·rw[a];exact hv
 ·unfold Jv
  rw[if_neg (by decide),if_neg (by decide),Tu hk]
theorem Qbh {u:Vx}(h:Q6o l u k false)(hk:k<l.length)(hv:Vlt u (vtx l k)):Q6o l u (k+1) true/\Jv l u (k+1) true=Jv l u k false++[u]++[vtx l k]:=by
 refine⟨⟨?_,λ_=>⟨_,by rw[Tu hk];simp,hv⟩,λe=>by cases e⟩,?_⟩
 ·rw[Tu hk,yG,List.mem_singleton]
  rintro(a|a)
  ·exact h.no a
  ·rw[<-a] at hv;exact hv.irr
 ·unfold Jv
  rw[if_pos rfl,if_neg (by decide),Tu hk,Q0y hv (h.low rfl)]
theorem Q44 {u:Vx}(h:Q6o l u k true)(hk:k<l.length)(hv:vtx l k≠u):Q6o l u (k+1) true/\Jv l u (k+1) true=Jv l u k true++[vtx l k]:=by
 obtain⟨x,hx,hxu⟩:=h.yes rfl
 refine⟨⟨?_,λ_=>⟨x,by rw[Tu hk,yG];exact oL hx,hxu⟩,λe=>by cases e⟩,?_⟩
 ·rw[Tu hk,yG,List.mem_singleton]
  rintro(a|a)
  ·exact h.no a
  ·exact hv a.symm
 ·unfold Jv
  rw[if_pos rfl,if_pos rfl,Tu hk,Q0x ⟨x,hx,hxu⟩]
theorem Im (C:Nat)(v:Value)(l:List Vx)(u1 u2:Int)(w:World)(h0:J4 C w v l)(hC:C<=w.heap.size)(ha:Ww l)(hl:l.length<=200000) :
  Calls prog 97 #[v,.agg #[iV u1,iV u2]] w λe w'=>(∃a' n' c',e=.returned (sL a' n' c')/\J4 C w' (sL a' n' c') (Yh l (u1,u2))/\∀g,(sL a' n' c').ownBlock=some g->v.ownBlock=some g\/w.heap.size<=g)/\Nx w w':=by
 have HOld:=mh h0
 have HC:=mh hC
 have HA:=mh ha
 have HXa:Z (Nx w (w.alloc (.cells #[iV u1,iV u2] 112))):=Qe _ _
 have HBX:Z (BT (w.alloc (.cells #[iV u1,iV u2] 112)) w.heap.size #[iV u1,iV u2] 112):=BT.new _ _ _ _ rfl
 obtain⟨a,cap,e,hn,hk⟩:=h0.held
 subst e
 unfold maxLen at hn
 generalize hz:l.length=n at *
 have HZ:=mh hz
 obtain⟨u,hu⟩:∃u:Vx,u=(u1,u2):=⟨_,rfl⟩
 have HU:Z ((u1,u2)=u):=hu.symm
 have HU1:Z (u.1=u1/\u.2=u2):=by subst hu;exact⟨rfl,rfl⟩
 have HK:Z (0<n->∃b off,a=some (aD b off)/\C<=b/\b<w.heap.size/\∀i,i<n->HVt w b (off+i*2) (vtx l i)):=hk
 clear hz ha hu h0 hC hk
 go_enter func97,ntmps97
 go_upto_region 1 with fail
 generalize w.alloc (.cells #[iV u1,iV u2] 112)=w0 at *
 have HO0:Z (J4 w0.heap.size (w0.alloc (.cells #[] 112)) (sL (sA w0.heap.size) 0 0) (Jv l u 0 false)):=T3 w0 _ lR
 have HXb:Z (Nx w0 (w0.alloc (.cells #[] 112))):=Qe _ _
 go_upto_region 2 with fail
 generalize w0.alloc (.cells #[] 112)=ws at *
 go_wp2
 go_loopw [5,6,7] (λs5 s6 s7 wr=>∃(k q c:Nat) (d:Bool) (x:Option Addr),k<=n/\q<=k+d.toNat/\s7=iV k/\s6=.bool d/\s5=sL x q c/\Z (Q6o l u k d)/\Z ((Jv l u k d).length=q)/\Z (J4 w0.heap.size wr (sL x q c) (Jv l u k d))/\Z (Nx w0 wr)) (λ_ _ i _=>n-(intOf i).toNat)
 case atStart=>exact⟨0,0,0,false,_,nZ,nZ,rfl,rfl,rfl,⟨by simp,(λe=>by cases e),λ_ x hx=>by simp at hx⟩,rfl,HO0,HXb⟩
 clear HO0 HXb
 obtain⟨k,q,c,d,x,hkn,hqk,rfl,rfl,rfl,HI,HLN,HO,HX⟩:=hrel
 by_cases hlt:k<n
 ·have hlt':(k:Int)<n:=by omega
  have hkl:k<l.length:=by rw[HZ.o];exact hlt
  obtain⟨b,off,rfl,hB,hb,hc⟩:=HK.o (by omega)
  obtain⟨e0,e1⟩:=hc k hlt
  obtain⟨x1,hx1⟩:∃z,(vtx l k).1=z:=⟨_,rfl⟩
  obtain⟨x2,hx2⟩:∃z,(vtx l k).2=z:=⟨_,rfl⟩
  rw[hx1] at e0
  rw[hx2] at e1
  have HXE:Z ((vtx l k).1=x1/\(vtx l k).2=x2):=⟨hx1,hx2⟩
  have HVX:Z (vtx l k=(x1,x2)):=Prod.ext hx1 hx2
  have HE0:=mh e0
  have HE1:=mh e1
  have HBB:=mh hb
  have c0:=Q2 (HXa.o.trans HX.o) hb e0
  have c1:=Q2 (HXa.o.trans HX.o) hb e1
  have HBW:=HBX.o.next HX.o
  have y0:=HBW.c 0 rfl
  have y1:=HBW.c 1 rfl
  clear HBW hc e0 e1 hx1 hx2
  by_cases hc1:x1=u1
  ·by_cases hc2:x2=u2
   ·have d1:(x1==u1)=true:=by simpa using hc1
    have d2:(x2==u2)=true:=by simpa using hc2
    have HF:Z (Yh l (u1,u2)=l):=by
     unfold Z
     rw[HU.o]
     refine Q45 HA.o ?_
     have e:vtx l k=u:=by rw[HVX.o,<-HU.o,hc1,hc2]
     rw[<-e]
     exact Wz hkl
    clear hc1 hc2
    go_wp2
    go_quiet (fail)
    go_wp2
    go_ret
    have hO:J4 C _ (sL (some (aD b off)) n cap) l:=HOld.o.next ((HXa.o.trans HX.o).trans ⟨rfl,rfl,rfl,lR,λ_ _=>rfl⟩)
    exact⟨⟨_,_,_,rfl,by rw[HF.o];exact hO,λg hg=>oL hg⟩,(HXa.o.trans HX.o).trans ⟨rfl,rfl,rfl,lR,λ_ _=>rfl⟩⟩
   ·cases d with
    |true=>
     have d1:(x1==u1)=true:=by simpa using hc1
     have d2:(x2==u2)=false:=by simpa using hc2
     obtain⟨hq,he⟩:=Q44 HI.o hkl (λe=>hc2 (by rw[<-HXE.o.2,e];exact HU1.o.2))
     have HQ:=mh hq
     have HE:Z (Jv l u (k+1) true=Jv l u k true++[(x1,x2)]):=by unfold Z;rw[he,HVX.o]
     clear hq he hc1 hc2
     go_wp2
     go_quiet (fail)
     go_wp2
     go_quiet (fail)
     have HOq:Z (∀m,J4 w0.heap.size (wr.drewN m) (sL x q c) (Jv l u k true)):=λm=>HO.o.next ⟨rfl,rfl,rfl,lR,λ_ _=>rfl⟩
     have HXq:Z (∀m,Nx w0 (wr.drewN m)):=λm=>HX.o.trans ⟨rfl,rfl,rfl,lR,λ_ _=>rfl⟩
     have HL0:=HLN
     have hqk:q<=k+1:=hqk
     have hq1:q<=1000000:=by omega
     have hq2:q+1<=1000000:=by omega
     go_wp2_with (at_builtin;refine Yf rfl _ _ rfl w0.heap.size (q) (sL x q c) (Jv l u k true) (x1,x2) _ rfl (HOq.o _) rfl HL0.o hq1 (HXq.o 0).size ?_)
     intro a0' c0' w0' r1 r2 r3
     have H1:=mh r1
     have HL1:Z ((Jv l u k true++[(x1,x2)]).length=q+1):=by unfold Z;rw[zA,HL0.o];rfl
     have HX1':Z (Nx w0 w0'):=Below.trans (HXq.o _) (r2.below (HXq.o _).size (λq hq=>(Q7 HO.o q hq.symm).1))
     have HZ1:=mh HX1'.o.size
     clear r1 r2 r3 c0 c1 y0 y1
     go_wp2
     go_roundw
     case rel=>exact⟨k+1,q+1,c0',true,a0',by omega,(show q+1<=k+1+1 by omega),by go_num,rfl,rfl,HQ,by unfold Z;rw[HE.o];simp[HLN.o],by rw[HE.o];exact H1.o,HX1'⟩
     case measure=>simp[intOf];omega
    |false=>
     by_cases hc3:u2<x2
     ·have d1:(x1==u1)=true:=by simpa using hc1
      have d2:(x2==u2)=false:=by simpa using hc2
      have d3:decide (u1<x1)=false:=by simp;omega
      have d4:decide (u2<x2)=true:=by simpa using hc3
      obtain⟨hq,he⟩:=Qbh HI.o hkl (oR ⟨by rw[HU1.o.1,HXE.o.1];exact hc1.symm,by rw[HU1.o.2,HXE.o.2];exact hc3⟩)
      have HQ:=mh hq
      have HE:Z (Jv l u (k+1) true=Jv l u k false++[(u1,u2),(x1,x2)]):=by unfold Z;rw[he,HVX.o,HU.o,zZ];rfl
      clear hq he hc1 hc2 hc3
      go_wp2
      go_quiet (fail)
      go_wp2
      go_quiet (fail)
      have HOq:Z (∀m,J4 w0.heap.size (wr.drewN m) (sL x q c) (Jv l u k false)):=λm=>HO.o.next ⟨rfl,rfl,rfl,lR,λ_ _=>rfl⟩
      have HXq:Z (∀m,Nx w0 (wr.drewN m)):=λm=>HX.o.trans ⟨rfl,rfl,rfl,lR,λ_ _=>rfl⟩
      have HL0:=HLN
      have hqk:q<=k+0:=hqk
      have hq1:q<=1000000:=by omega
      have hq2:q+1<=1000000:=by omega
      go_wp2_with (at_builtin;refine Yf rfl _ _ rfl w0.heap.size (q) (sL x q c) (Jv l u k false) (u1,u2) _ rfl (HOq.o _) rfl HL0.o hq1 (HXq.o 0).size ?_)
      intro a0' c0' w0' r1 r2 r3
      have H1:=mh r1
      have HL1:Z ((Jv l u k false++[(u1,u2)]).length=q+1):=by unfold Z;rw[zA,HL0.o];rfl
      have HX1':Z (Nx w0 w0'):=Below.trans (HXq.o _) (r2.below (HXq.o _).size (λq hq=>(Q7 HO.o q hq.symm).1))
      have HZ1:=mh HX1'.o.size
      clear r1 r2 r3 c0 c1 y0 y1
      have c0:=Q2 (HXa.o.trans HX1'.o) HBB.o HE0.o
      have c1:=Q2 (HXa.o.trans HX1'.o) HBB.o HE1.o
      go_wp2_with (at_builtin;refine Yf rfl _ _ rfl w0.heap.size (q+1) (sL a0' (q+1) c0') (Jv l u k false++[(u1,u2)]) (x1,x2) w0' rfl H1.o rfl HL1.o hq2 HZ1.o ?_)
      intro a1' c1' w1' r1 r2 r3
      have H2:=mh r1
      have HL2:Z ((Jv l u k false++[(u1,u2)]++[(x1,x2)]).length=q+1+1):=by unfold Z;rw[zA,HL1.o];rfl
      have HX2':Z (Nx w0 w1'):=Below.trans HX1'.o (r2.below HX1'.o.size (λq hq=>(Q7 H1.o q hq.symm).1))
      have HZ2:=mh HX2'.o.size
      clear r1 r2 r3 c0 c1
      go_wp2
      go_roundw
      case rel=>exact⟨k+1,q+1+1,c1',true,a1',by omega,(show q+1+1<=k+1+1 by omega),by go_num,rfl,rfl,HQ,by unfold Z;rw[HE.o];simp[HLN.o],by rw[HE.o];exact H2.o,HX2'⟩
      case measure=>simp[intOf];omega
     ·have d1:(x1==u1)=true:=by simpa using hc1
      have d2:(x2==u2)=false:=by simpa using hc2
      have d3:decide (u1<x1)=false:=by simp;omega
      have d4:decide (u2<x2)=false:=by simpa using hc3
      obtain⟨hq,he⟩:=Q7o HI.o hkl (oR ⟨by rw[HU1.o.1,HXE.o.1];exact hc1,by rw[HU1.o.2,HXE.o.2];omega⟩)
      have HQ:=mh hq
      have HE:Z (Jv l u (k+1) false=Jv l u k false++[(x1,x2)]):=by unfold Z;rw[he,HVX.o]
      clear hq he hc1 hc2 hc3
      go_wp2
      go_quiet (fail)
      go_wp2
      go_quiet (fail)
      have HOq:Z (∀m,J4 w0.heap.size (wr.drewN m) (sL x q c) (Jv l u k false)):=λm=>HO.o.next ⟨rfl,rfl,rfl,lR,λ_ _=>rfl⟩
      have HXq:Z (∀m,Nx w0 (wr.drewN m)):=λm=>HX.o.trans ⟨rfl,rfl,rfl,lR,λ_ _=>rfl⟩
      have HL0:=HLN
      have hqk:q<=k+0:=hqk
      have hq1:q<=1000000:=by omega
      have hq2:q+1<=1000000:=by omega
      go_wp2_with (at_builtin;refine Yf rfl _ _ rfl w0.heap.size (q) (sL x q c) (Jv l u k false) (x1,x2) _ rfl (HOq.o _) rfl HL0.o hq1 (HXq.o 0).size ?_)
      intro a0' c0' w0' r1 r2 r3
      have H1:=mh r1
      have HL1:Z ((Jv l u k false++[(x1,x2)]).length=q+1):=by unfold Z;rw[zA,HL0.o];rfl
      have HX1':Z (Nx w0 w0'):=Below.trans (HXq.o _) (r2.below (HXq.o _).size (λq hq=>(Q7 HO.o q hq.symm).1))
      have HZ1:=mh HX1'.o.size
      clear r1 r2 r3 c0 c1 y0 y1
      go_wp2
      go_roundw
      case rel=>exact⟨k+1,q+1,c0',false,a0',by omega,(show q+1<=k+1+0 by omega),by go_num,rfl,rfl,HQ,by unfold Z;rw[HE.o];simp[HLN.o],by rw[HE.o];exact H1.o,HX1'⟩
      case measure=>simp[intOf];omega
  ·cases d with
   |true=>
    have d1:(x1==u1)=false:=by simpa using hc1
    obtain⟨hq,he⟩:=Q44 HI.o hkl (λe=>hc1 (by rw[<-HXE.o.1,e];exact HU1.o.1))
    have HQ:=mh hq
    have HE:Z (Jv l u (k+1) true=Jv l u k true++[(x1,x2)]):=by unfold Z;rw[he,HVX.o]
    clear hq he hc1
    go_wp2
    go_quiet (fail)
    go_wp2
    go_quiet (fail)
    have HOq:Z (∀m,J4 w0.heap.size (wr.drewN m) (sL x q c) (Jv l u k true)):=λm=>HO.o.next ⟨rfl,rfl,rfl,lR,λ_ _=>rfl⟩
    have HXq:Z (∀m,Nx w0 (wr.drewN m)):=λm=>HX.o.trans ⟨rfl,rfl,rfl,lR,λ_ _=>rfl⟩
    have HL0:=HLN
    have hqk:q<=k+1:=hqk
    have hq1:q<=1000000:=by omega
    have hq2:q+1<=1000000:=by omega
    go_wp2_with (at_builtin;refine Yf rfl _ _ rfl w0.heap.size (q) (sL x q c) (Jv l u k true) (x1,x2) _ rfl (HOq.o _) rfl HL0.o hq1 (HXq.o 0).size ?_)
    intro a0' c0' w0' r1 r2 r3
    have H1:=mh r1
    have HL1:Z ((Jv l u k true++[(x1,x2)]).length=q+1):=by unfold Z;rw[zA,HL0.o];rfl
    have HX1':Z (Nx w0 w0'):=Below.trans (HXq.o _) (r2.below (HXq.o _).size (λq hq=>(Q7 HO.o q hq.symm).1))
    have HZ1:=mh HX1'.o.size
    clear r1 r2 r3 c0 c1 y0 y1
    go_wp2
    go_roundw
    case rel=>exact⟨k+1,q+1,c0',true,a0',by omega,(show q+1<=k+1+1 by omega),by go_num,rfl,rfl,HQ,by unfold Z;rw[HE.o];simp[HLN.o],by rw[HE.o];exact H1.o,HX1'⟩
    case measure=>simp[intOf];omega
   |false=>
    by_cases hc3:u1<x1
    ·have d1:(x1==u1)=false:=by simpa using hc1
     have d3:decide (u1<x1)=true:=by simpa using hc3
     obtain⟨hq,he⟩:=Qbh HI.o hkl (oL (by rw[HU1.o.1,HXE.o.1];exact hc3))
     have HQ:=mh hq
     have HE:Z (Jv l u (k+1) true=Jv l u k false++[(u1,u2),(x1,x2)]):=by unfold Z;rw[he,HVX.o,HU.o,zZ];rfl
     clear hq he hc1 hc3
     go_wp2
     go_quiet (fail)
     go_wp2
     go_quiet (fail)
     have HOq:Z (∀m,J4 w0.heap.size (wr.drewN m) (sL x q c) (Jv l u k false)):=λm=>HO.o.next ⟨rfl,rfl,rfl,lR,λ_ _=>rfl⟩
     have HXq:Z (∀m,Nx w0 (wr.drewN m)):=λm=>HX.o.trans ⟨rfl,rfl,rfl,lR,λ_ _=>rfl⟩
     have HL0:=HLN
     have hqk:q<=k+0:=hqk
     have hq1:q<=1000000:=by omega
     have hq2:q+1<=1000000:=by omega
     go_wp2_with (at_builtin;refine Yf rfl _ _ rfl w0.heap.size (q) (sL x q c) (Jv l u k false) (u1,u2) _ rfl (HOq.o _) rfl HL0.o hq1 (HXq.o 0).size ?_)
     intro a0' c0' w0' r1 r2 r3
     have H1:=mh r1
     have HL1:Z ((Jv l u k false++[(u1,u2)]).length=q+1):=by unfold Z;rw[zA,HL0.o];rfl
     have HX1':Z (Nx w0 w0'):=Below.trans (HXq.o _) (r2.below (HXq.o _).size (λq hq=>(Q7 HO.o q hq.symm).1))
     have HZ1:=mh HX1'.o.size
     clear r1 r2 r3 c0 c1 y0 y1
     have c0:=Q2 (HXa.o.trans HX1'.o) HBB.o HE0.o
     have c1:=Q2 (HXa.o.trans HX1'.o) HBB.o HE1.o
     go_wp2_with (at_builtin;refine Yf rfl _ _ rfl w0.heap.size (q+1) (sL a0' (q+1) c0') (Jv l u k false++[(u1,u2)]) (x1,x2) w0' rfl H1.o rfl HL1.o hq2 HZ1.o ?_)
     intro a1' c1' w1' r1 r2 r3
     have H2:=mh r1
     have HL2:Z ((Jv l u k false++[(u1,u2)]++[(x1,x2)]).length=q+1+1):=by unfold Z;rw[zA,HL1.o];rfl
     have HX2':Z (Nx w0 w1'):=Below.trans HX1'.o (r2.below HX1'.o.size (λq hq=>(Q7 H1.o q hq.symm).1))
     have HZ2:=mh HX2'.o.size
     clear r1 r2 r3 c0 c1
     go_wp2
     go_roundw
     case rel=>exact⟨k+1,q+1+1,c1',true,a1',by omega,(show q+1+1<=k+1+1 by omega),by go_num,rfl,rfl,HQ,by unfold Z;rw[HE.o];simp[HLN.o],by rw[HE.o];exact H2.o,HX2'⟩
     case measure=>simp[intOf];omega
    ·have d1:(x1==u1)=false:=by simpa using hc1
     have d3:decide (u1<x1)=false:=by simpa using hc3
     obtain⟨hq,he⟩:=Q7o HI.o hkl (oL (by rw[HU1.o.1,HXE.o.1];omega))
     have HQ:=mh hq
     have HE:Z (Jv l u (k+1) false=Jv l u k false++[(x1,x2)]):=by unfold Z;rw[he,HVX.o]
     clear hq he hc1 hc3
     go_wp2
     go_quiet (fail)
     go_wp2
     go_quiet (fail)
     have HOq:Z (∀m,J4 w0.heap.size (wr.drewN m) (sL x q c) (Jv l u k false)):=λm=>HO.o.next ⟨rfl,rfl,rfl,lR,λ_ _=>rfl⟩
     have HXq:Z (∀m,Nx w0 (wr.drewN m)):=λm=>HX.o.trans ⟨rfl,rfl,rfl,lR,λ_ _=>rfl⟩
     have HL0:=HLN
     have hqk:q<=k+0:=hqk
     have hq1:q<=1000000:=by omega
     have hq2:q+1<=1000000:=by omega
     go_wp2_with (at_builtin;refine Yf rfl _ _ rfl w0.heap.size (q) (sL x q c) (Jv l u k false) (x1,x2) _ rfl (HOq.o _) rfl HL0.o hq1 (HXq.o 0).size ?_)
     intro a0' c0' w0' r1 r2 r3
     have H1:=mh r1
     have HL1:Z ((Jv l u k false++[(x1,x2)]).length=q+1):=by unfold Z;rw[zA,HL0.o];rfl
     have HX1':Z (Nx w0 w0'):=Below.trans (HXq.o _) (r2.below (HXq.o _).size (λq hq=>(Q7 HO.o q hq.symm).1))
     have HZ1:=mh HX1'.o.size
     clear r1 r2 r3 c0 c1 y0 y1
     go_wp2
     go_roundw
     case rel=>exact⟨k+1,q+1,c0',false,a0',by omega,(show q+1<=k+1+0 by omega),by go_num,rfl,rfl,HQ,by unfold Z;rw[HE.o];simp[HLN.o],by rw[HE.o];exact H1.o,HX1'⟩
     case measure=>simp[intOf];omega
 have ek:k=n:=by omega
 subst ek
 have hlt0:¬(k:Int)<k:=by omega
 have HTK:Z (l.take k=l):=by unfold Z;rw[<-HZ.o,zR]
 cases d with
 |true=>
  have HF:Z (Jv l u k true=Yh l (u1,u2)):=by unfold Z Jv;rw[if_pos rfl,HTK.o,HU.o]
  go_wp2
  go_ret
  exact⟨⟨_,_,_,rfl,by rw[<-HF.o];exact HO.o.base (zM HC.o HXa.o.size),λg hg=>oR (zM HXa.o.size (Q7 HO.o g hg).1)⟩,HXa.o.trans HX.o⟩
 |false=>
  have HF:Z (Jv l u k false++[(u1,u2)]=Yh l (u1,u2)):=by
   unfold Z
   rw[HU.o,A6 (by have h:=HI.o.low rfl;rw[HTK.o] at h;exact h)]
   unfold Jv
   rw[if_neg (by decide),HTK.o]
  have HZ0:=mh HX.o.size
  have HBW:=HBX.o.next HX.o
  have y0:=HBW.c 0 rfl
  have y1:=HBW.c 1 rfl
  clear HBW
  have hqk:q<=k+0:=hqk
  have hq1:q<=1000000:=by omega
  go_wp2_with (at_builtin;refine Yf rfl _ _ rfl w0.heap.size q (sL x q c) (Jv l u k false) (u1,u2) wr rfl HO.o rfl HLN.o hq1 HZ0.o ?_)
  intro a0' c0' w0' r1 r2 r3
  have HX1:Z (Nx w0 w0'):=Below.trans HX.o (r2.below HX.o.size (λq hq=>(Q7 HO.o q hq.symm).1))
  have H1:=mh r1
  clear r1 r2 r3 y0 y1
  go_wp2
  go_ret
  exact⟨⟨_,_,_,rfl,by rw[<-HF.o];exact H1.o.base (zM HC.o HXa.o.size),λg hg=>oR (zM HXa.o.size (Q7 H1.o g hg).1)⟩,HXa.o.trans HX1.o⟩
end Go.Proofs.YtphiaobccollhaaGreat
