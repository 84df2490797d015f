import Derived.Test.YtdpfdkihbgmapaaGreatKK
import Derived.Test.YtdpfdkihbgmapaaGreatKQ
namespace Go.Proofs.YtdpfdkihbgmapaaGreat
open Go.RowKit Go.Sort
set_option linter.unusedVariables false
set_option maxRecDepth 1000000
set_option maxHeartbeats 16000000
structure Src where
 code:List UInt8
 pos:Nat
 mix:Int
 size:Int
structure SOk (S:Src):Prop where
 len:S.code.length<=4000
 mix:0<=S.mix/\S.mix<1000003
 size:1<=S.size/\S.size<=8
def byteAt (l:List UInt8)(i:Nat):Int:=((l.getD i 0).toNat:Int)
theorem byteAt_in (l:List UInt8)(i:Nat):0<=byteAt l i/\byteAt l i<256:=by
 unfold byteAt
 have:=(l.getD i 0).toNat_lt
 omega
def mx (m:Int):Int:=(m*1103+12347)%1000003
theorem mx_in {m:Int}(h:0<=m):0<=mx m/\mx m<1000003:=⟨Int.emod_nonneg _ (by omega),Int.emod_lt_of_pos _ (by omega)⟩
def nv (S:Src)(n:Int):Int:=if n<=1 then 0 else if S.pos<S.code.length/\n<=256 then byteAt S.code S.pos%n else mx S.mix/3%n
def ns (S:Src)(n:Int):Src:=if n<=1 then S else if S.pos<S.code.length/\n<=256 then { S with pos:=S.pos+1 } else { S with mix:=mx S.mix }
theorem nv_in {S:Src}(h:SOk S)(n:Int):0<=nv S n/\(1<=n->nv S n<n):=by
 unfold nv
 split
 ·exact⟨Int.le_refl _,λh=>by omega⟩
 ·split
  ·exact⟨Int.emod_nonneg _ (by omega),λ_=>Int.emod_lt_of_pos _ (by omega)⟩
  ·exact⟨Int.emod_nonneg _ (by omega),λ_=>Int.emod_lt_of_pos _ (by omega)⟩
theorem ns_ok {S:Src}(h:SOk S)(n:Int):SOk (ns S n):=by
 unfold ns
 split
 ·exact h
 ·split
  ·exact⟨h.len,h.mix,h.size⟩
  ·exact⟨h.len,mx_in h.mix.1,h.size⟩
theorem ns_size (S:Src)(n:Int):(ns S n).size=S.size:=by
 unfold ns
 split
 ·rfl
 ·split<;>rfl
def OwnBy (C:Nat)(w:World)(v:Value)(bs:List UInt8):Prop:=w.ownsRow C 5 1 v bs.length (bs.map λx=>.int .u8 (x.toNat:Int))
theorem OwnBy.held {C:Nat}{w:World}{v:Value}{bs:List UInt8}(h:OwnBy C w v bs):HSlice C w v bs.length λb off i=>w.cell? ⟨b,off+i,none⟩=some (.int .u8 (byteAt bs i)):=by
 by_cases hp:0<bs.length
 ·obtain⟨h1,h2⟩:=h
  rcases h2 with⟨_,h3⟩|⟨b,cap,cur,hv,hg,hh,hc,hm,hs,ht⟩
  ·omega
  ·refine⟨_,_,hv,by omega,λ_=>⟨b,0,rfl,hg,(Array.getElem?_eq_some_iff.1 hh).1,λi hi=>?_⟩⟩
   have e:(cur.toList.take (bs.length*1))[i]?=(bs.map λx=>Value.int .u8 (x.toNat:Int))[i]?:=by rw[ht]
   rw[List.getElem?_take_of_lt (by omega),Array.getElem?_toList] at e
   have e2:(bs.map λx=>Value.int .u8 (x.toNat:Int))[i]?=some (.int .u8 (byteAt bs i)):=by simp[byteAt,List.getD_eq_getElem?_getD,hi]
   rw[e2] at e
   show w.cell? ⟨b,0+i,none⟩=_
   rw[Nat.zero_add]
   unfold World.cell?
   simp[hh,e]
 ·obtain⟨a,c,e⟩:=row_slice h
  have h0:bs.length=0:=by omega
  exact⟨a,c,e,by rw[h0];simp[maxLen],λh=>by omega⟩
def HSrc (C:Nat)(w:World)(b:Nat)(S:Src):Prop:=∃v,BT w b #[v,.int .i64 (S.pos:Int),.int .i64 S.mix,.int .i64 S.size] 66/\OwnBy C w v S.code
abbrev Sx1 (b:Nat):Nat->Prop:=λx=>x=b
theorem HSrc.next {C:Nat}{w w':World}{b:Nat}{S:Src}(h:HSrc C w b S)(k:Nx w w'):HSrc C w' b S:=by
 obtain⟨v,h1,h2⟩:=h
 exact⟨v,h1.next k,row_next h2 k⟩
theorem HSrc.chg {T:Nat->Prop}{C:Nat}{w w':World}{b:Nat}{S:Src}(h:HSrc C w b S)(k:Chg T w w')(hn:∀x,T x->∃cs t,BT w x cs t/\t≠66/\t≠5):HSrc C w' b S:=by
 obtain⟨v,h1,h2⟩:=h
 refine⟨v,h1.chg k (λhT=>?_),row_chg h2 k (λg hg hT=>?_)⟩
 ·obtain⟨cs,t,hb,e1,_⟩:=hn b hT
  exact hb.ne h1 e1 rfl
 ·obtain⟨cs,t,hb,_,e2⟩:=hn g hT
  exact hb.neRow h2 e2 hg.symm
theorem src_set {C b:Nat}{w:World}{v:Value}{cs:Array Value}{bs:List UInt8}(hb:BT w b cs 66)(ho:OwnBy C w v bs)(i:Nat)(u:Value):BT (w.setCell ⟨b,i,none⟩ u) b (cs.setIfInBounds i u) 66/\OwnBy C (w.setCell ⟨b,i,none⟩ u) v bs:=
 ⟨hb.set i u,row_chg ho (Chg.set (S:=Sx1 b) _ _ _ rfl) (λg hg e=>by
  have e':g=b:=e
  subst e'
  exact hb.neRow ho (by decide) hg.symm)⟩
theorem l1Next_any (C b:Nat)(S:Src)(n:Int)(w:World)(h:HSrc C w b S)(hok:SOk S)(hn:n<=1000000000) :
  Calls Tryz.prog 27 #[.pointer (some ⟨b,0,none⟩),.int .i64 n] w λe w'=>e=.returned (.int .i64 (nv S n))/\HSrc C w' b (ns S n)/\Chg (Sx1 b) w w':=by
 have HS:Hid (HSrc C w b S):=h
 by_cases h1:n<=1
 ·have e1:Hid (nv S n=0):=by unfold Hid nv;rw[if_pos h1]
  have e2:Hid (ns S n=S):=by unfold Hid ns;rw[if_pos h1]
  go_enter Tryz.func27,Tryz.ntmps27
  go_wp2
  go_ret
  rw[e1.out,e2.out]
  exact⟨rfl,HS.out,Chg.nx (Nx.refl _)⟩
 obtain⟨v,hb,ho⟩:=h
 have HB:Hid (BT w b #[v,.int .i64 (S.pos:Int),.int .i64 S.mix,.int .i64 S.size] 66):=hb
 have HO:Hid (OwnBy C w v S.code):=ho
 obtain⟨a,c,ev,hm,hk⟩:=ho.held
 subst ev
 have hl:=hok.len
 have hmx:=hok.mix
 generalize hL:S.code.length=L at *
 have HL:Hid (S.code.length=L):=hL
 have b0:w.cell? ⟨b,0,none⟩=some (.slice a L c):=hb.blk.cell (i:=0) rfl
 have b1:w.cell? ⟨b,1,none⟩=some (.int .i64 (S.pos:Int)):=hb.blk.cell (i:=1) rfl
 have b2:w.cell? ⟨b,2,none⟩=some (.int .i64 S.mix):=hb.blk.cell (i:=2) rfl
 by_cases hp:S.pos<L/\n<=256
 ·have e1:Hid (nv S n=byteAt S.code S.pos%n):=by unfold Hid nv;rw[if_neg h1,HL.out,if_pos hp]
  have e2:Hid (ns S n={ S with pos:=S.pos+1 }):=by unfold Hid ns;rw[if_neg h1,HL.out,if_pos hp]
  obtain⟨cb,co,rfl,_,_,hc⟩:=hk (by omega)
  have c1:=hc S.pos hp.1
  have hbi:=byteAt_in S.code S.pos
  have hwy:wrap64 (byteAt S.code S.pos)=byteAt S.code S.pos:=Go.IntWalk.wrap64_in _ ⟨by omega,by omega⟩
  generalize hPP:S.pos=P at *
  have HPP:Hid (S.pos=P):=hPP
  obtain⟨p1,p2⟩:=hp
  have p1':(P:Int)<L:=by omega
  clear hk hc hPP hb ho hL
  go_enter Tryz.func27,Tryz.ntmps27
  go_upto_region 3 with fail
  go_quiet (fail)
  generalize wdq:w.drewN nq=w1 at *
  have HX1:Hid (Nx w w1):=by unfold Hid;rw[<-wdq];exact nx_drewN _ _
  clear wdq
  have b0':=cellq HX1.out b0
  have b1':=cellq HX1.out b1
  have c1':=cellq HX1.out c1
  go_upto_region 4 with fail
  go_quiet (fail)
  generalize wdq:w1.drewN nq=w2 at *
  have HX2:Hid (Nx w w2):=by unfold Hid;rw[<-wdq];exact HX1.out.trans (nx_drewN _ _)
  clear wdq b0' b1' c1' b0 b1 c1
  have BB:=HB.out.next HX2.out
  have b1:w2.cell? ⟨b,1,none⟩=some (.int .i64 (P:Int)):=BB.blk.cell (i:=1) rfl
  have f1:=BB.blk.frozen 1
  have n0:n≠0:=by omega
  have n1:(n==0)=false:=by simpa using n0
  have hP:(P:Int)<=4000:=by omega
  go_wp2
  go_ret
  rw[e1.out,e2.out]
  have hs:=src_set BB (row_next HO.out HX2.out) 1 (.int .i64 ((P:Int)+1))
  exact⟨rfl,⟨_,hs.1,hs.2⟩,(Chg.nx HX2.out).trans (Chg.set _ _ _ rfl)⟩
 ·have e1:Hid (nv S n=mx S.mix/3%n):=by unfold Hid nv;rw[if_neg h1,HL.out,if_neg hp]
  have e2:Hid (ns S n={ S with mix:=mx S.mix }):=by unfold Hid ns;rw[if_neg h1,HL.out,if_neg hp]
  have hmm:=mx_in hmx.1
  have n0:n≠0:=by omega
  have n1:(n==0)=false:=by simpa using n0
  have f2:=hb.blk.frozen 2
  clear hk hb ho hL
  go_enter Tryz.func27,Tryz.ntmps27
  go_upto_region 3 with fail
  go_cut [21] from 8 to 21 (λs wc=>s=.bool false/\Hid (Nx w wc))
  case first=>
   by_cases p1:S.pos<L
   ·have p1':decide ((S.pos:Int)<L)=true:=by simp;omega
    have p2:decide (n<=256)=false:=by simp;omega
    go_quiet (fail)
    go_wp2
    go_meet
    exact⟨rfl,nx_drewN _ _⟩
   ·have p1':decide ((S.pos:Int)<L)=false:=by simp;omega
    go_quiet (fail)
    go_wp2
    go_meet
    exact⟨rfl,nx_drewN _ _⟩
  case rest=>
  obtain⟨rfl,HX2⟩:=hcut
  have BB:=HB.out.next HX2.out
  clear b0 b1 b2 f2
  have b2:wc.cell? ⟨b,2,none⟩=some (.int .i64 S.mix):=BB.blk.cell (i:=2) rfl
  have f2:=BB.blk.frozen 2
  go_wp2
  go_ret
  rw[e1.out,e2.out]
  have hs:=src_set BB (row_next HO.out HX2.out) 2 (.int .i64 (mx S.mix))
  exact⟨rfl,⟨_,hs.1,hs.2⟩,(Chg.nx HX2.out).trans (Chg.set _ _ _ rfl)⟩
def dwV (S:Src):Int:=if nv S 16<10 then nv S 16 else if nv S 16=15 then 1048576 else if nv S 16=14 then nv (ns S 16) 1048577 else nv S 16-10
def dwS (S:Src):Src:=if nv S 16=14 then ns (ns S 16) 1048577 else ns S 16
theorem dwS_ok {S:Src}(h:SOk S):SOk (dwS S):=by
 unfold dwS
 split
 ·exact ns_ok (ns_ok h _) _
 ·exact ns_ok h _
theorem dwS_size (S:Src):(dwS S).size=S.size:=by
 unfold dwS
 split
 ·rw[ns_size,ns_size]
 ·rw[ns_size]
theorem Chg.src {b:Nat}{w w1 w2:World}(h:Chg (Sx1 b) w w1)(k:Chg (Sx1 b) w1 w2):Chg (Sx1 b) w w2:=h.trans k
theorem l1DrawWeight_any (C b:Nat)(S:Src)(w:World)(h:HSrc C w b S)(hok:SOk S) :
  Calls Tryz.prog 76 #[.pointer (some ⟨b,0,none⟩)] w λe w'=>e=.returned (.int .i64 (dwV S))/\HSrc C w' b (dwS S)/\Chg (Sx1 b) w w':=by
 have HOK:Hid (SOk S):=hok
 have h1:=nv_in hok 16
 go_enter Tryz.func76,Tryz.ntmps76
 go_wp2_with fail
 refine(l1Next_any C b S 16 w h hok (by omega)).mono ?_
 rintro e w1 ⟨rfl,h1s,hc⟩
 have HS1:Hid (HSrc C w1 b (ns S 16)):=h1s
 have HC1:Hid (Chg (Sx1 b) w w1):=hc
 have HV:Hid (dwV S=if nv S 16<10 then nv S 16 else if nv S 16=15 then 1048576 else if nv S 16=14 then nv (ns S 16) 1048577 else nv S 16-10):=rfl
 have HD:Hid (dwS S=if nv S 16=14 then ns (ns S 16) 1048577 else ns S 16):=rfl
 generalize nv S 16=k at *
 clear h1s hc
 by_cases k1:k<10
 ·have HF:Hid (dwV S=k):=by unfold Hid;rw[HV.out,if_pos k1]
  have HG:Hid (dwS S=ns S 16):=by unfold Hid;rw[HD.out,if_neg (by omega)]
  go_wp2
  go_ret
  rw[HF.out,HG.out]
  exact⟨rfl,HS1.out,HC1.out⟩
 by_cases k2:k=15
 ·have HF:Hid (dwV S=1048576):=by unfold Hid;rw[HV.out,if_neg k1,if_pos k2]
  have HG:Hid (dwS S=ns S 16):=by unfold Hid;rw[HD.out,if_neg (by omega)]
  subst k2
  go_wp2
  go_ret
  rw[HF.out,HG.out]
  exact⟨rfl,HS1.out,HC1.out⟩
 have d2:(k==15)=false:=by simpa using k2
 by_cases k3:k=14
 ·have HF:Hid (dwV S=nv (ns S 16) 1048577):=by unfold Hid;rw[HV.out,if_neg k1,if_neg k2,if_pos k3]
  have HG:Hid (dwS S=ns (ns S 16) 1048577):=by unfold Hid;rw[HD.out,if_pos k3]
  subst k3
  clear d2 k2 k1
  go_wp2_with fail
  refine(l1Next_any C b (ns S 16) 1048577 w1 HS1.out (ns_ok HOK.out _) (by omega)).mono ?_
  rintro e w2 ⟨rfl,h2s,hc2⟩
  go_wp2
  go_ret
  rw[HF.out,HG.out]
  exact⟨rfl,h2s,HC1.out.trans hc2⟩
 ·have d3:(k==14)=false:=by simpa using k3
  have HF:Hid (dwV S=k-10):=by unfold Hid;rw[HV.out,if_neg k1,if_neg k2,if_neg k3]
  have HG:Hid (dwS S=ns S 16):=by unfold Hid;rw[HD.out,if_neg k3]
  clear k3 k2
  go_wp2
  go_ret
  rw[HF.out,HG.out]
  exact⟨rfl,HS1.out,HC1.out⟩
section
variable {t e:TypeId}{size bytes:Nat}{z:Value}
theorem app_row (hinfo:(Tryz.prog.info? e).map (λi=>(i.zero,i.size,i.bytes))=some (some z,size,bytes))(ht:Tryz.prog.underlying t=some (.slice e))(hz:z.cells.size=size)(hsz:0<size)(hby:bytes<=1000)
  {ops:Array Oper}{rest:List Oper}{o:Oper}{a:Act}{Q:Exit->Act->World->Prop} (hgd:o.guard=none) (s x:Operand) (ho:o.op=.call { callee:=.builtin .append,args:=#[s,x],argTypes:=#[t,t] })
  (C n:Nat) (v:Value) (xs news:List Value) (w0:World) (hs:a.eval s=v) (hown:w0.ownsRow C e size v n xs) (hx:a.eval x=.slice (some ⟨w0.heap.size,0,none⟩) 1 1) (hl:news.length=size) (h1:∀u∈news,u.oneCell'=true) (hn:n<=1000000) (hC:C<=w0.heap.size)
  (h:∀a' c' w',w'.ownsRow C e size (.slice a' (n+1) c') (n+1) (xs++news)->Chg (λx=>some x=v.ownBlock) w0 w'->(∀g,(Value.slice a' (n+1) c').ownBlock=some g->v.ownBlock=some g\/w0.heap.size<=g)->wpList Tryz.prog ops Q rest (a.put o.dst (.slice a' (n+1) c')) w') :
  wpList Tryz.prog ops Q (o::rest) a (w0.alloc (.cells news.toArray e)):=by
 obtain⟨ii,hi,hz0,hz1,hz2⟩:=info_parts hinfo
 refine wpList_append_own_at _ hgd s x t ho C e ii z size bytes ht hi hz0 hz1 hz2 hz hsz v n xs hs (World.ownsRow.alloc hown _) ⟨w0.heap.size,0,none⟩ 1 1 news hx (by rw[hl,Nat.one_mul]) (λj u hj=>new_cells w0 _ _ _ rfl j u (by simpa using hj)) h1 (by unfold maxLen;omega) ?_ (by rw[size_alloc'];omega) ?_
 ·have:(n+1)*bytes<=1000001*1000:=Nat.mul_le_mul (by omega) hby
  omega
 ·intro v' w' r1 r2 _ r4
  obtain⟨a',c',rfl⟩:=row_slice r1
  refine h a' c' w' r1 (Chg.grown ((World.grownBy_alloc w0 _ _).trans r2) (λb e=>e)) (λg hg=>?_)
  rcases r4 with r4|r4
  ·exact Or.inl (by rw[<-r4];exact hg)
  ·rw[r4] at hg
   have:=Option.some.inj hg
   rw[size_alloc'] at this
   exact Or.inr (by omega)
theorem app_row_in (hinfo:(Tryz.prog.info? e).map (λi=>(i.zero,i.size,i.bytes))=some (some z,size,bytes))(ht:Tryz.prog.underlying t=some (.slice e))(hz:z.cells.size=size)(hsz:0<size)(hby:bytes<=1000)
  {k:Nat}{ops:Array Oper}{o:Oper}{a:Act}{K:Act->World->Prop}{Q:Exit->Act->World->Prop}{E:Prop} (hgd:o.guard=none) (s x:Operand) (ho:o.op=.call { callee:=.builtin .append,args:=#[s,x],argTypes:=#[t,t] })
  (C n:Nat) (v:Value) (xs news:List Value) (w0 W:World) (hW:W=w0.alloc (.cells news.toArray e)) (hs:a.eval s=v) (hown:w0.ownsRow C e size v n xs) (hx:a.eval x=.slice (some ⟨w0.heap.size,0,none⟩) 1 1) (hl:news.length=size) (h1:∀u∈news,u.oneCell'=true) (hn:n<=1000000) (hC:C<=w0.heap.size)
  (h:∀a' c' w',w'.ownsRow C e size (.slice a' (n+1) c') (n+1) (xs++news)->Chg (λx=>some x=v.ownBlock) w0 w'->(∀g,(Value.slice a' (n+1) c').ownBlock=some g->v.ownBlock=some g\/w0.heap.size<=g)->K (a.put o.dst (.slice a' (n+1) c')) w') :
  if Region.wanted o (yielded ops a.tmps)=true then Oper.wpIn Fence.wide k Tryz.prog o a W K Q else E:=by
 obtain⟨ii,hi,hz0,hz1,hz2⟩:=info_parts hinfo
 subst hW
 refine step_append_in hgd s x t ho e ii z size bytes ht hi hz0 hz1 hz2 hz hsz C v n xs hs (World.ownsRow.alloc hown _) ⟨w0.heap.size,0,none⟩ 1 1 news hx (by rw[hl,Nat.one_mul]) (λj u hj=>new_cells w0 _ _ _ rfl j u (by simpa using hj)) h1 (by unfold maxLen;omega) ?_ (by rw[size_alloc'];omega) ?_
 ·have:(n+1)*bytes<=1000001*1000:=Nat.mul_le_mul (by omega) hby
  omega
 ·intro v' w' r1 r2 r4
  obtain⟨a',c',rfl⟩:=row_slice r1
  refine h a' c' w' r1 (Chg.grown ((World.grownBy_alloc w0 _ _).trans r2) (λb e=>e)) (λg hg=>?_)
  rcases r4 with r4|r4
  ·exact Or.inl (by rw[<-r4];exact hg)
  ·rw[r4] at hg
   have:=Option.some.inj hg
   rw[size_alloc'] at this
   exact Or.inr (by omega)
end
theorem infoTurn:(Tryz.prog.info? 121).map (λi=>(i.zero,i.size,i.bytes))=some (some (.agg #[.int .i64 0,.int .i64 0,.int .i64 0]),3,24):=by kernel_rfl
theorem infoWayE:(Tryz.prog.info? 117).map (λi=>(i.zero,i.size,i.bytes))=some (some (.agg #[.int .i64 0,.bool false,.slice none 0 0,.slice none 0 0]),4,64):=by kernel_rfl
theorem infoRelE:(Tryz.prog.info? 109).map (λi=>(i.zero,i.size,i.bytes))=some (some (.agg #[.int .i64 0,.bool false,.int .i64 0,.int .i64 0,.bool false,.int .i64 0,.slice none 0 0]),7,72):=by kernel_rfl
theorem infoByteE:(Tryz.prog.info? 5).map (λi=>(i.zero,i.size,i.bytes))=some (some (.int .u8 0),1,1):=by kernel_rfl
theorem app_int {ops:Array Oper}{rest:List Oper}{o:Oper}{a:Act}{Q:Exit->Act->World->Prop}(hgd:o.guard=none)(s x:Operand)(ho:o.op=.call { callee:=.builtin .append,args:=#[s,x],argTypes:=#[25,25] })
  (C n:Nat) (v:Value) (zs:List Int) (y:Int) (w0:World) (hs:a.eval s=v) (hown:OwnI C w0 v zs) (hx:a.eval x=.slice (some ⟨w0.heap.size,0,none⟩) 1 1) (hn:zs.length=n) (hm:n<=1000000) (hC:C<=w0.heap.size)
  (h:∀a' c' w',OwnI C w' (.slice a' (n+1) c') (zs++[y])->Chg (λx=>some x=v.ownBlock) w0 w'->(∀g,(Value.slice a' (n+1) c').ownBlock=some g->v.ownBlock=some g\/w0.heap.size<=g)->wpList Tryz.prog ops Q rest (a.put o.dst (.slice a' (n+1) c')) w') :
  wpList Tryz.prog ops Q (o::rest) a (w0.alloc (.cells #[.int .i64 y] 2)):=by
 subst hn
 refine app_row infoInt Tryz.underlying25 rfl (by decide) (by decide) hgd s x ho C zs.length v (icells zs) [.int .i64 y] w0 hs hown hx rfl (by intro u hu;simp at hu;subst hu;rfl) hm hC (λa' c' w' r1 r2 r3=>h a' c' w' ?_ r2 r3)
 exact OwnI.snoc r1
theorem app_int_in {k:Nat}{ops:Array Oper}{o:Oper}{a:Act}{K:Act->World->Prop}{Q:Exit->Act->World->Prop}{E:Prop}(hgd:o.guard=none)(s x:Operand)(ho:o.op=.call { callee:=.builtin .append,args:=#[s,x],argTypes:=#[25,25] })
  (C n:Nat) (v:Value) (zs:List Int) (y:Int) (w0 W:World) (hW:W=w0.alloc (.cells #[.int .i64 y] 2)) (hs:a.eval s=v) (hown:OwnI C w0 v zs) (hx:a.eval x=.slice (some ⟨w0.heap.size,0,none⟩) 1 1) (hn:zs.length=n) (hm:n<=1000000) (hC:C<=w0.heap.size)
  (h:∀a' c' w',OwnI C w' (.slice a' (n+1) c') (zs++[y])->Chg (λx=>some x=v.ownBlock) w0 w'->(∀g,(Value.slice a' (n+1) c').ownBlock=some g->v.ownBlock=some g\/w0.heap.size<=g)->K (a.put o.dst (.slice a' (n+1) c')) w') :
  if Region.wanted o (yielded ops a.tmps)=true then Oper.wpIn Fence.wide k Tryz.prog o a W K Q else E:=by
 subst hn
 refine app_row_in infoInt Tryz.underlying25 rfl (by decide) (by decide) hgd s x ho C zs.length v (icells zs) [.int .i64 y] w0 W hW hs hown hx rfl (by intro u hu;simp at hu;subst hu;rfl) hm hC (λa' c' w' r1 r2 r3=>h a' c' w' ?_ r2 r3)
 exact OwnI.snoc r1
def tcell (t:Tn):List Value:=[.int .i64 t.frm,.int .i64 t.to,.int .i64 t.cost]
def OwnT (C:Nat)(w:World)(v:Value)(ts:List Tn):Prop:=w.ownsRow C 121 3 v ts.length (ts.flatMap tcell)
theorem flatK {α:Type}{k:Nat}(hk:0<k)(l:List α)(f:α->List Value)(hf:∀x,(f x).length=k)(i q:Nat)(hq:q<k)(x:α)(hx:l[i]?=some x):(l.flatMap f)[i*k+q]?=(f x)[q]?:=by
 induction l generalizing i with
 |nil=>simp at hx
 |cons a l ih=>
  cases i with
  |zero=>
   simp at hx
   subst hx
   rw[List.flatMap_cons,Nat.zero_mul,Nat.zero_add,List.getElem?_append_left (by rw[hf];exact hq)]
  |succ i=>
   rw[List.flatMap_cons,List.getElem?_append_right (by rw[hf,Nat.succ_mul];omega),hf,show(i+1)*k+q-k=i*k+q by rw[Nat.succ_mul];omega]
   exact ih i (by simpa using hx)
theorem row_cells {α:Type}{C t k n:Nat}{w:World}{v:Value}{l:List α}{f:α->List Value}(h:w.ownsRow C t k v n (l.flatMap f))(hl:l.length=n)(hk:0<k)(hf:∀x,(f x).length=k){i:Nat}{x:α}(hx:l[i]?=some x) :
  ∃b c,v=.slice (some ⟨b,0,none⟩) n c/\n<=c/\n<=maxLen/\C<=b/\b<w.heap.size/\∀q,q<k->w.cell? ⟨b,i*k+q,none⟩=(f x)[q]?:=by
 have hi:i<l.length:=(List.getElem?_eq_some_iff.1 hx).1
 obtain⟨h1,h2⟩:=h
 rcases h2 with⟨_,h3⟩|⟨b,cap,cur,hv,hg,hh,hc,hm,hs,ht⟩
 ·omega
 ·refine⟨b,cap,hv,hc,by omega,hg,(Array.getElem?_eq_some_iff.1 hh).1,λq hq=>?_⟩
  have hlt:i*k+q<n*k:=by
   have:(i+1)*k<=n*k:=Nat.mul_le_mul_right _ (by omega)
   rw[Nat.succ_mul] at this
   omega
  have e1:(cur.toList.take (n*k))[i*k+q]?=(l.flatMap f)[i*k+q]?:=by rw[ht]
  rw[List.getElem?_take_of_lt hlt,Array.getElem?_toList] at e1
  have e2:=flatK hk l f hf i q hq x hx
  unfold World.cell?
  simp only[hh]
  rw[e1,e2]
  rfl
theorem row_max {C t k n:Nat}{w:World}{v:Value}{xs:List Value}(h:w.ownsRow C t k v n xs):n<=maxLen:=by
 rcases h.2 with⟨_,h3⟩|⟨b,cap,cur,hv,hg,hh,hc,hm,hs,ht⟩
 ·rw[h3];exact Nat.zero_le _
 ·omega
theorem OwnT.held {C:Nat}{w:World}{v:Value}{ts:List Tn}(h:OwnT C w v ts):HTurns C w v ts:=by
 obtain⟨a,c,rfl⟩:=row_slice h
 refine⟨a,c,rfl,row_max h,λhp=>?_⟩
 have at_:∀i,i<ts.length->ts[i]?=some (tat ts i):=λi hi=>by simp[tat,List.getD_eq_getElem?_getD,hi]
 obtain⟨b,c',e,_,_,hC,hb,_⟩:=row_cells h rfl (by decide) (λ_=>rfl) (at_ 0 hp)
 simp only[Value.slice.injEq] at e
 obtain⟨rfl,_,rfl⟩:=e
 refine⟨b,0,rfl,hC,hb,λi hi=>?_⟩
 obtain⟨b',c',e,_,_,_,_,k⟩:=row_cells h rfl (by decide) (λ_=>rfl) (at_ i hi)
 simp only[Value.slice.injEq,Option.some.injEq,Addr.mk.injEq] at e
 obtain⟨⟨rfl,_⟩,_⟩:=e
 rw[Nat.zero_add]
 exact⟨k 0 (by omega),k 1 (by omega),k 2 (by omega)⟩
end Go.Proofs.YtdpfdkihbgmapaaGreat
