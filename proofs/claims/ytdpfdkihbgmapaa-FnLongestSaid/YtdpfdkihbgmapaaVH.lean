import Derived.Test.YtdpfdkihbgmapaaVF
import Derived.Test.YtdpfdkihbgmapaaVG
namespace Go.Proofs.Ytdpfdkihbgmapaa
open Go.RowKit Go.Sort
set_option linter.unusedVariables false
set_option maxRecDepth 1000000
set_option maxHeartbeats 16000000
structure RnSt where
 l:List Int
 st:Int
 most:Int
 S:Src
def rnE (fr:Bool)(A:Au)(y:RnSt):Int:=if fr then 3999 else dlV A.la y.S
def rnX (fr:Bool)(A:Au)(ws:List (List Int))(y:RnSt):Int:=stepS A ws y.st (rnE fr A y)
def rnD (fr:Bool)(A:Au)(ws:List (List Int))(y:RnSt):Bool:=decide (rnX fr A ws y<0)&&!fr
def rnB (fr:Bool)(A:Au)(ws:List (List Int))(y:RnSt):Bool:=rnD fr A ws y&&decide (0<nv (dlS A.la y.S) 8)
def rnS (fr:Bool)(A:Au)(ws:List (List Int))(y:RnSt):Src:=if rnD fr A ws y then ns (dlS A.la y.S) 8 else dlS A.la y.S
def rnStep (fr:Bool)(A:Au)(ws:List (List Int))(y:RnSt):RnSt:=
 if rnB fr A ws y then ⟨y.l,y.st,y.most-1,rnS fr A ws y⟩
 else ⟨y.l++[rnE fr A y],if 0<=rnX fr A ws y then rnX fr A ws y else y.st,y.most,rnS fr A ws y⟩
def rnRun (fr:Bool)(A:Au)(ws:List (List Int)):Nat->RnSt->RnSt
 |0,y=>y
 |k+1,y=>if (y.l.length:Int)<y.most then rnRun fr A ws k (rnStep fr A ws y) else y
def rnM (y:RnSt):Nat:=(y.most-y.l.length).toNat
def drn (fr:Bool)(A:Au)(ws:List (List Int))(y:RnSt):RnSt:=rnRun fr A ws (rnM y) y
structure RnOk (y:RnSt):Prop where
 ok:SOk y.S
 lo:(y.l.length:Int)<=y.most
 hi:y.most<=10001
theorem rn_step {fr:Bool}{A:Au}{ws:List (List Int)}{y:RnSt}(h:(y.l.length:Int)<y.most):drn fr A ws y=drn fr A ws (rnStep fr A ws y)/\rnM (rnStep fr A ws y)+1=rnM y:=by
 have hm:rnM (rnStep fr A ws y)+1=rnM y:=by
  unfold rnM rnStep
  split
  ·show(y.most-1-(y.l.length:Int)).toNat+1=_
   omega
  ·show(y.most-((y.l++[rnE fr A y]).length:Int)).toNat+1=_
   rw[List.length_append]
   simp only[List.length_cons,List.length_nil]
   omega
 refine⟨?_,hm⟩
 unfold drn
 rw[<-hm]
 show(if _ then _ else _)=_
 rw[if_pos h]
theorem rn_end {fr:Bool}{A:Au}{ws:List (List Int)}{y:RnSt}(h:¬(y.l.length:Int)<y.most):drn fr A ws y=y:=by
 unfold drn
 cases rnM y with
 |zero=>rfl
 |succ k=>
  show(if _ then _ else _)=_
  rw[if_neg h]
theorem rnS_ok {fr:Bool}{A:Au}{ws:List (List Int)}{y:RnSt}(h:SOk y.S):SOk (rnS fr A ws y):=by
 unfold rnS
 split
 ·exact ns_ok (dlS_ok h) 8
 ·exact dlS_ok h
theorem rn_ok {fr:Bool}{A:Au}{ws:List (List Int)}{y:RnSt}(h:RnOk y)(hl:(y.l.length:Int)<y.most):RnOk (rnStep fr A ws y):=by
 have hs:=rnS_ok (fr:=fr) (A:=A) (ws:=ws) h.ok
 have hh:=h.hi
 unfold rnStep
 split
 ·exact⟨hs,by show(y.l.length:Int)<=y.most-1;omega,by show y.most-1<=10001;omega⟩
 ·exact⟨hs,by show((y.l++[rnE fr A y]).length:Int)<=y.most;rw[List.length_append];simp only[List.length_cons,List.length_nil];omega,hh⟩
def ruF (S:Src):Bool:=nv (ns S (6+6*S.size)) 40==0
def ruS2 (S:Src):Src:=ns (ns S (6+6*S.size)) 40
def ruM (S:Src):Int:=if ruF S then 10000+nv (ruS2 S) 2 else 1+nv S (6+6*S.size)
def ruS3 (S:Src):Src:=if ruF S then ns (ruS2 S) 2 else ruS2 S
def ru0 (S:Src):RnSt:=⟨[],0,ruM S,ruS3 S⟩
def ruY (A:Au)(S:Src):RnSt:=drn (ruF S) A (wsA A) (ru0 S)
def ruP (y:RnSt):List Int:=if nv y.S 12=0/\0<y.l.length then y.l.set (nv (ns y.S 12) y.l.length).toNat (nv (ns (ns y.S 12) y.l.length) 2*4001-1) else y.l
def ruW (A:Au)(S:Src):List Int:=if validS A=true then ruP (ruY A S) else [nv S 3]
def runD (auF:List Ru->Au)(code:List UInt8):Au×List Int:=((daO auF (srcOf code)).1,ruW (daO auF (srcOf code)).1 (daO auF (srcOf code)).2)
theorem ru0_ok {S:Src}(h:SOk S):RnOk (ru0 S):=by
 have h2:SOk (ruS2 S):=ns_ok (ns_ok h _) 40
 have hz:=h.size
 have v1:=nv_in h (6+6*S.size)
 have v1':=v1.2 (by omega)
 have v2:=nv_in h2 2
 have v2':=v2.2 (by omega)
 have hm:0<=ruM S/\ruM S<=10001:=by unfold ruM;split<;>omega
 exact⟨by show SOk (ruS3 S);unfold ruS3;split<;>first|exact ns_ok h2 2|exact h2,by show((([]:List Int).length:Nat):Int)<=ruM S;simp;exact hm.1,hm.2⟩
theorem sok_if {c:Prop} [Decidable c] {x y:Au×Src}(hx:SOk x.2)(hy:SOk y.2):SOk (if c then x else y).2:=by
 split
 ·exact hx
 ·exact hy
theorem daM_ok {m:Int}{n i:Nat}{A:Au}{S:Src}(h:SOk S):SOk (daM m n i A S).2:=by
 unfold daM
 repeat' (first|exact h|exact ns_ok h 2|exact ns_ok h ((n:Int)-1)|refine sok_if ?_ ?_)
theorem daK_s {k:Int}{A:Au}{S:Src}(h:SOk S):SOk (daK k A S).2:=by
 unfold daK
 split
 ·split
  ·exact ns_ok (ns_ok h _) 2
  ·exact ns_ok (ns_ok (ns_ok h _) 2) 5
 ·exact h
theorem daO_ok {auF:List Ru->Au}{S:Src}(h:SOk S):SOk (daO auF S).2:=by
 have h2:SOk (daS2 S):=by
  unfold daS2
  split
  ·exact ns_ok (ns_ok h 20) 3
  ·exact ns_ok h 20
 unfold daO
 split
 ·exact h2
 ·have h3:SOk (daK (nv S 20) (auF (drRu (daS2 S))) (drSr (daS2 S))).2:=daK_s (dr_ok h2).1
  unfold daT
  split
  ·exact h3
  ·exact daM_ok (ns_ok (ns_ok h3 _) 14)
theorem below_nx {B:Nat}{w w':World}(h:Nx w w')(hB:B<=w.heap.size):Below B w w':=⟨h.os,h.tape,h.output,h.size,λx hx=>h.block x (by omega)⟩
theorem HInts.box {C g:Nat}{w w':World}{v:Value}{zs:List Int}(h:HInts C w v zs)(hc:Chg (λx=>x=g) w w')(hg:g<C):HInts C w' v zs:=h.keep ⟨hc.size,λx hx hs o=>by
 have hn:¬x=g:=by omega
 unfold World.cell?
 rw[hc.block x hs hn]⟩
theorem HBools.box {C g:Nat}{w w':World}{v:Value}{zs:List Bool}(h:HBools C w v zs)(hc:Chg (λx=>x=g) w w')(hg:g<C):HBools C w' v zs:=h.keep ⟨hc.size,λx hx hs o=>by
 have hn:¬x=g:=by omega
 unfold World.cell?
 rw[hc.block x hs hn]⟩
theorem HA.box {C g t:Nat}{w w':World}{cs:Array Value}{v0 v1 v2 v3 v4:Value}{A:Au}(h:HA C w v0 v1 v2 v3 v4 A)(hb:BT w g cs t)(hc:Chg (λx=>x=g) w w')(hg:g<C):HA C w' v0 v1 v2 v3 v4 A:=⟨h.h0.box hc hg,h.h1.box hc hg,h.h2.box hc hg,h.h3.box hc hg,h.h4.box hc hg⟩
theorem HWords.chgW {B b:Nat}{w w':World}{v:Value}{ws:List (List Int)}(h:HWords B w v ws)(hb:b<B)(hc:Chg (Sx1 b) w w'):HWords B w' v ws:=h.keep ⟨hc.size,λx hx hs o=>by
 have hn:¬Sx1 b x:=λe=>by have e':x=b:=e;omega
 unfold World.cell?
 rw[hc.block x hs hn]⟩
theorem HWords.base {B B':Nat}{w:World}{v:Value}{ws:List (List Int)}(h:HWords B w v ws)(hB:B'<=B):HWords B' w v ws:=
 HSlice.mono h hB (Nat.le_refl _) λb off hb hs i hi hc=>by
  obtain⟨vi,h1,h2,h3⟩:=hc
  exact⟨vi,h1,h2.base hB,h3⟩
theorem HA.base {C C':Nat}{w:World}{v0 v1 v2 v3 v4:Value}{A:Au}(h:HA C w v0 v1 v2 v3 v4 A)(hB:C'<=C):HA C' w v0 v1 v2 v3 v4 A:=⟨h.h0.base hB,h.h1.base hB,h.h2.base hB,h.h3.base hB,h.h4.base hB⟩
theorem OwnI.boxI {C g:Nat}{w w':World}{cs:Array Value}{v:Value}{zs:List Int}(h:OwnI C w v zs)(hb:BT w g cs 26)(hc:Chg (λx=>x=g) w w'):OwnI C w' v zs:=row_chg h hc (λx hx e=>by
 have e':x=g:=e
 subst e'
 exact hb.neRow h (by decide) hx.symm)
theorem l1Source_new (B:Nat)(v:Value)(code:List UInt8)(w:World)(h:HBy B w v code)(hl:code.length<=1048576) :
  Calls Try.prog 7 #[v] w λe w'=>(∃b,e=.returned (.pointer (some ⟨b,0,none⟩))/\HSrc w.heap.size w' b (srcOf code)/\w.heap.size<=b)/\Nx w w':=by
 obtain⟨ca,cc,rfl,_,hk⟩:=h
 generalize hn:code.length=n at *
 have HN:Hid (code.length=n):=hn
 have HK:Hid (0<n->∃b off,ca=some ⟨b,off,none⟩/\B<=b/\b<w.heap.size/\∀i,i<n->w.cell? ⟨b,off+i,none⟩=some (.int .u8 (byteAt code i))):=hk
 clear hk hn
 go_enter Try.func7,Try.ntmps7
 go_wp2
 generalize hWA:w.alloc (.cells #[.slice none 0 0,.int .i64 0,.int .i64 0,.int .i64 0] 39)=wA
 have HXA:Hid (Nx w wA):=by unfold Hid;rw[<-hWA];exact box1 _ _
 have HBA:Hid (BT wA w.heap.size #[.slice none 0 0,.int .i64 0,.int .i64 0,.int .i64 0] 39):=by unfold Hid;rw[<-hWA];exact BT.new _ _ _ _ rfl
 clear hWA
 go_loopw [4] (λi wr=>∃(k c:Nat) (a:Option Addr),k<=n/\k<=4000/\i=.int .i64 k/\Hid (BT wr w.heap.size #[.slice a k c,.int .i64 0,.int .i64 0,.int .i64 0] 39)/\Hid (OwnBy w.heap.size wr (.slice a k c) (code.take k))/\Hid (Nx w wr)) (λi _=>n-(intOf i).toNat)
 case atStart=>exact⟨0,0,none,Nat.zero_le _,Nat.zero_le _,rfl,HBA,⟨rfl,Or.inl ⟨rfl,rfl⟩⟩,HXA⟩
 obtain⟨k,c,a,hkn,hk4,rfl,HB,HO,HX⟩:=hrel
 by_cases hlt:k<n/\k<4000
 ·obtain⟨h1,h2⟩:=hlt
  have h1':(k:Int)<n:=by omega
  have h2':(k:Int)<4000:=by omega
  obtain⟨cb,co,rfl,_,hcb,hc⟩:=HK.out (by omega)
  have cy:=cell_next HX.out hcb (hc k h1)
  have HTL:Hid ((code.take k).length=k):=by unfold Hid;rw[List.length_take,HN.out];omega
  have HOR:Hid (wr.ownsRow w.heap.size 5 1 (.slice a k c) k ((code.take k).map λx:UInt8=>Value.int .u8 (x.toNat:Int))):=by
   have h:=HO.out
   unfold OwnBy at h
   rw[HTL.out] at h
   exact h
  generalize hy:byteAt code k=y at *
  have HY:Hid (byteAt code k=y):=hy
  clear hc hy
  go_upto_region 5 with fail
  have HSN:Hid (∀q,Nx wr.drew q->(λq=>q.cell? ⟨w.heap.size,0,none⟩=some (.slice a k c)/\q.cell? ⟨cb,co+k,none⟩=some (.int .u8 y)) q):=λq hq=>⟨cellq hq (show wr.drew.cell? _=_ from HB.out.blk.cell (i:=0) rfl),cellq hq (show wr.drew.cell? _=_ from cy)⟩
  have HSS:Hid ((λq=>q.cell? ⟨w.heap.size,0,none⟩=some (.slice a k c)/\q.cell? ⟨cb,co+k,none⟩=some (.int .u8 y)) wr.drew):=HSN.out _ (Nx.refl _)
  have hmx:Try.prog.follows .mixedOrders=true:=by kernel_rfl
  have hzz:w.heap.size<=wr.heap.size:=HX.out.size
  refine(wpIn_wide (n:=9)).1 ?_
  refine wpIn_region_S (c:=9) (S:=λq=>q.cell? ⟨w.heap.size,0,none⟩=some (.slice a k c)/\q.cell? ⟨cb,co+k,none⟩=some (.int .u8 y)) hmx (by kernel_rfl) (λhw hcl=>?_)
  refine tq (i:=0) (v:=.pointer (some ⟨w.heap.size,0,none⟩)) (λhcl=>?_)
  refine tq (i:=1) (v:=.slice a k c) (λhcl=>?_)
  refine tq (i:=2) (v:=.slice (some ⟨cb,co,none⟩) n cc) (λhcl=>?_)
  refine tq (i:=3) (v:=.int .i64 (k:Int)) (λhcl=>?_)
  refine tq (i:=4) (v:=.pointer (some ⟨cb,co+k,none⟩)) (λhcl=>?_)
  refine tq (i:=5) (v:=.int .u8 y) (λhcl=>?_)
  refine anyS_one (i:=6) (by kernel_rfl) (wpOpIn_step rfl (λK hK=>?_))
  go_simp
  refine hK _ _ ⟨Or.inr (HSN.out _ (box1 _ _)),?_⟩
  clear hK K
  refine anyS_one (i:=7) (by kernel_rfl) (wpOpIn_step rfl (λK hK=>?_))
  refine app_row_in infoByteE Try.underlying22 rfl (by decide) (by decide) rfl (.tmp 18) (.tmp 23) rfl w.heap.size k (.slice a k c) ((code.take k).map λx:UInt8=>Value.int .u8 (x.toNat:Int)) [.int .u8 y] wr.drew _ rfl (by simp[Act.eval]) (show wr.drew.ownsRow _ _ _ _ _ _ from HOR.out) (by simp[Act.eval]) rfl (by intro u hu;simp at hu;subst hu;rfl) (by omega) hzz ?_
  intro a1 c1 w1 r1 r2 r3
  have HB1:Hid (BT w1 w.heap.size #[.slice a k c,.int .i64 0,.int .i64 0,.int .i64 0] 39):=BT.row (show BT wr.drew _ _ _ from HB.out) (show wr.drew.ownsRow _ _ _ _ _ _ from HOR.out) (by decide) r2
  have HS1:Hid ((λq=>q.cell? ⟨w.heap.size,0,none⟩=some (.slice a k c)/\q.cell? ⟨cb,co+k,none⟩=some (.int .u8 y)) w1):=⟨HB1.out.blk.cell (i:=0) rfl,by
   refine(r2.cellAt ?_ ?_).trans cy
   ·exact Nat.lt_of_lt_of_le hcb HX.out.size
   ·intro e
    have:=(own_lt HOR.out cb e.symm).1
    omega⟩
  refine hK _ _ ⟨Or.inr HS1.out,?_⟩
  clear hK K
  refine anyS_one (i:=8) (by kernel_rfl) (wpOpIn_step rfl (λK hK=>?_))
  go_simp
  refine hK _ _ ⟨Or.inr HS1.out,?_⟩
  clear hK K
  have g0:=HB1.out.blk.cell (i:=0) rfl
  have f0:=HB1.out.blk.frozen 0
  refine anyS_one (i:=9) (by kernel_rfl) (wpOpIn_step rfl (λK hK=>?_))
  go_simp
  refine hK _ _ ⟨Or.inl (by decide),?_⟩
  clear hK K
  refine anyS_done (by kernel_rfl) ?_ _
  clear hw hcl g0 f0 HSS HSN HS1
  have HB2:Hid (BT (w1.setCell ⟨w.heap.size,0,none⟩ (.slice a1 (k+1) c1)) w.heap.size #[.slice a1 (k+1) c1,.int .i64 0,.int .i64 0,.int .i64 0] 39):=HB1.out.set 0 _
  have HO2:Hid (OwnBy w.heap.size (w1.setCell ⟨w.heap.size,0,none⟩ (.slice a1 (k+1) c1)) (.slice a1 (k+1) c1) (code.take (k+1))):=by
   unfold Hid OwnBy
   have e1:code.take (k+1)=code.take k++[code.getD k 0]:=by
    rw[List.take_succ_eq_append_getElem (by rw[HN.out];exact h1)]
    simp[List.getD_eq_getElem?_getD,HN.out,h1]
   rw[e1,List.length_append,HTL.out,List.map_append]
   have e2:(Value.int .u8 y)=.int .u8 ((code.getD k 0).toNat:Int):=by rw[<-HY.out];rfl
   rw[e2] at r1
   exact row_setBT r1 HB1.out (by decide) _ _
  have HX2:Hid (Nx w (w1.setCell ⟨w.heap.size,0,none⟩ (.slice a1 (k+1) c1))):=Below.setCell (Below.trans (HX.out.trans (show Nx wr wr.drew from(Below.refl _ _).drew)) (r2.below HX.out.size (λx hx=>(own_lt HOR.out x hx.symm).1))) (Nat.le_refl _) _
  clear r1 r2 r3
  go_wp2
  go_roundw
  case rel=>exact⟨k+1,c1,a1,by omega,by omega,by go_num,HB2,HO2,HX2⟩
  case measure=>simp[intOf];omega
 have HTL:Hid ((code.take 4000).length=k/\code.take k=code.take 4000):=by
  have hk':k=min 4000 n:=by omega
  refine⟨by rw[List.length_take,HN.out];omega,?_⟩
  rw[hk',<-HN.out]
  simp[List.take_eq_take_iff]
 go_upto_region 3 with fail
 go_cut [14] from 7 to 13 (λs wc=>s=.bool false/\wc=wr)
 case first=>
  by_cases h1:k<n
  ·have d1:decide ((k:Int)<n)=true:=by simp;omega
   have d2:decide ((k:Int)<4000)=false:=by simp;omega
   have d3:¬(k:Int)<4000:=by omega
   have d4:(k:Int)<n:=by omega
   go_wp2
   go_meet
   exact⟨by first|rfl|simp;omega,rfl⟩
  ·have d1:decide ((k:Int)<n)=false:=by simp;omega
   have d4:¬(k:Int)<n:=by omega
   go_wp2
   go_meet
   exact⟨by first|rfl|simp;omega,rfl⟩
 case rest=>
 obtain⟨rfl,rfl⟩:=hcut
 have m2:=HB.out.blk.cell (i:=2) rfl
 have f2:=HB.out.blk.frozen 2
 go_upto_region 7 with fail
 generalize hW2:wc.setCell ⟨w.heap.size,2,none⟩ (.int .i64 ((n:Int)%1000+17))=w2
 have HO0:Hid (OwnBy w.heap.size wc (.slice a k c) (code.take 4000)):=by unfold Hid;rw[<-HTL.out.2];exact HO.out
 have hnm:0<=(n:Int)%1000+17/\(n:Int)%1000+17<1000003:=by omega
 generalize hm0:(n:Int)%1000+17=m0 at *
 have HM0:Hid ((n:Int)%1000+17=m0):=hm0
 have HB2:Hid (BT w2 w.heap.size #[.slice a k c,.int .i64 0,.int .i64 m0,.int .i64 0] 39):=by unfold Hid;rw[<-hW2];exact HB.out.set 2 _
 have HO2:Hid (OwnBy w.heap.size w2 (.slice a k c) (code.take 4000)):=by unfold Hid;rw[<-hW2];exact row_setBT HO0.out HB.out (by decide) _ _
 have HX2:Hid (Nx w w2):=by unfold Hid;rw[<-hW2];exact Below.setCell HX.out (Nat.le_refl _) _
 generalize hct:code.take 4000=cT at *
 have HCT:Hid (code.take 4000=cT):=hct
 have HML:Hid (cT.length=k):=HTL.out.1
 clear hW2 hm0 m2 f2 HO HB HX HO0 HTL hct
 have HMI:Hid (∀j,0<=mixTo cT m0 j/\mixTo cT m0 j<1000003):=mixTo_in cT hnm
 go_wp2
 go_loopw [5] (λi wr=>∃j:Nat,j<=k/\i=.int .i64 j/\Hid (BT wr w.heap.size #[.slice a k c,.int .i64 0,.int .i64 (mixTo cT m0 j),.int .i64 0] 39)/\Hid (OwnBy w.heap.size wr (.slice a k c) cT)/\Hid (Nx w wr)) (λi _=>k-(intOf i).toNat)
 case atStart=>exact⟨0,Nat.zero_le _,rfl,HB2,HO2,HX2⟩
 clear HB2 HO2 HX2
 obtain⟨j,hj,rfl,HBJ,HOJ,HXJ⟩:=hrel
 have g0:=HBJ.out.blk.cell (i:=0) rfl
 by_cases hjl:j<k
 ·have hjl':(j:Int)<k:=by omega
  obtain⟨a9,c9,e9,_,hk9⟩:=HOJ.out.held
  rw[HML.out] at e9 hk9
  simp only[Value.slice.injEq] at e9
  obtain⟨ea,ek,ec⟩:=e9
  subst ea ec
  clear ek
  obtain⟨gb,go,rfl,_,_,hc9⟩:=hk9 (by omega)
  have cy:wr.cell? ⟨gb,go+j,none⟩=some (.int .u8 (byteAt cT j)):=hc9 j hjl
  have hyb:=byteAt_in cT j
  have hmi:=HMI.out j
  have HSTP:Hid (mixTo cT m0 (j+1)=(mixTo cT m0 j*257+byteAt cT j+1)%1000003):=rfl
  generalize byteAt cT j=y at *
  generalize mixTo cT m0 j=mm at *
  clear hk9 hc9
  go_upto_region 10 with fail
  clear g0
  have HSS:Hid ((λq=>q.cell? ⟨w.heap.size,2,none⟩=some (.int .i64 mm)/\q.cell? ⟨w.heap.size,0,none⟩=some (.slice (some ⟨gb,go,none⟩) k c)/\q.cell? ⟨gb,go+j,none⟩=some (.int .u8 y)) wr.drew):=⟨show wr.drew.cell? _=_ from HBJ.out.blk.cell (i:=2) rfl,show wr.drew.cell? _=_ from HBJ.out.blk.cell (i:=0) rfl,show wr.drew.cell? _=_ from cy⟩
  have hmx:Try.prog.follows .mixedOrders=true:=by kernel_rfl
  have g2:wr.drew.cell? ⟨w.heap.size,2,none⟩=some (.int .i64 mm):=HSS.out.1
  have f2:wr.drew.frozen? ⟨w.heap.size,2,none⟩=false:=HBJ.out.blk.drew.frozen 2
  refine(wpIn_wide (n:=9)).1 ?_
  refine wpIn_region_S (c:=13) (S:=λq=>q.cell? ⟨w.heap.size,2,none⟩=some (.int .i64 mm)/\q.cell? ⟨w.heap.size,0,none⟩=some (.slice (some ⟨gb,go,none⟩) k c)/\q.cell? ⟨gb,go+j,none⟩=some (.int .u8 y)) hmx (by kernel_rfl) (λhw hcl=>?_)
  refine tq (i:=0) (v:=.pointer (some ⟨w.heap.size,2,none⟩)) (λhcl=>?_)
  refine tq (i:=1) (v:=.int .i64 mm) (λhcl=>?_)
  refine anyS_take (i:=2) (v:=.int .i64 (mm*257)) hw (by decide) hcl (noDefer_none rfl) rfl (by kernel_rfl) (by kernel_rfl) (by kernel_rfl) (λ_ _ _ h=>h) ⟨Or.inl ⟨by kernel_rfl,?y2⟩,λ_=>rfl⟩ HSS.out (λhcl=>?_)
  case y2=>
   rintro q ⟨c1,c2,c3⟩
   go_simp
   exact Go.IntWalk.i64_in _ ⟨by omega,by omega⟩
  refine tq (i:=3) (v:=.pointer (some ⟨w.heap.size,0,none⟩)) (λhcl=>?_)
  refine tq (i:=4) (v:=.slice (some ⟨gb,go,none⟩) k c) (λhcl=>?_)
  refine tq (i:=5) (v:=.int .i64 (j:Int)) (λhcl=>?_)
  refine tq (i:=6) (v:=.pointer (some ⟨gb,go+j,none⟩)) (λhcl=>?_)
  refine tq (i:=7) (v:=.int .u8 y) (λhcl=>?_)
  refine anyS_take (i:=8) (v:=.int .i64 y) hw (by decide) hcl (noDefer_none rfl) rfl (by kernel_rfl) (by kernel_rfl) (by kernel_rfl) (λ_ _ _ h=>h) ⟨Or.inl ⟨by kernel_rfl,?y8⟩,λ_=>rfl⟩ HSS.out (λhcl=>?_)
  case y8=>
   rintro q ⟨c1,c2,c3⟩
   go_simp
   exact Go.IntWalk.i64_in _ ⟨by omega,by omega⟩
  refine anyS_take (i:=9) (v:=.int .i64 (mm*257+y)) hw (by decide) hcl (noDefer_none rfl) rfl (by kernel_rfl) (by kernel_rfl) (by kernel_rfl) (λ_ _ _ h=>h) ⟨Or.inl ⟨by kernel_rfl,?y9⟩,λ_=>rfl⟩ HSS.out (λhcl=>?_)
  case y9=>
   rintro q ⟨c1,c2,c3⟩
   go_simp
   exact Go.IntWalk.i64_in _ ⟨by omega,by omega⟩
  refine anyS_take (i:=10) (v:=.int .i64 (mm*257+y+1)) hw (by decide) hcl (noDefer_none rfl) rfl (by kernel_rfl) (by kernel_rfl) (by kernel_rfl) (λ_ _ _ h=>h) ⟨Or.inl ⟨by kernel_rfl,?y10⟩,λ_=>rfl⟩ HSS.out (λhcl=>?_)
  case y10=>
   rintro q ⟨c1,c2,c3⟩
   go_simp
   exact Go.IntWalk.i64_in _ ⟨by omega,by omega⟩
  refine anyS_take (i:=11) (v:=.int .i64 ((mm*257+y+1)%1000003)) hw (by decide) hcl (noDefer_none rfl) rfl (by kernel_rfl) (by kernel_rfl) (by kernel_rfl) (λ_ _ _ h=>h) ⟨Or.inl ⟨by kernel_rfl,?y11⟩,λ_=>rfl⟩ HSS.out (λhcl=>?_)
  case y11=>
   rintro q ⟨c1,c2,c3⟩
   go_simp
   exact Int.tmod_eq_emod_of_nonneg (by omega)
  refine tq (i:=12) (v:=.pointer (some ⟨w.heap.size,2,none⟩)) (λhcl=>?_)
  refine anyS_one (i:=13) (by kernel_rfl) (wpOpIn_step rfl (λK hK=>?_))
  go_simp
  refine hK _ _ ⟨Or.inl (by decide),?_⟩
  clear hK K
  refine anyS_done (by kernel_rfl) ?_ _
  clear hw hcl g2 f2 HSS
  have HB3:Hid (BT (wr.setCell ⟨w.heap.size,2,none⟩ (.int .i64 ((mm*257+y+1)%1000003))) w.heap.size #[.slice (some ⟨gb,go,none⟩) k c,.int .i64 0,.int .i64 (mixTo cT m0 (j+1)),.int .i64 0] 39):=by unfold Hid;rw[HSTP.out];exact HBJ.out.set 2 _
  have HO3:Hid (OwnBy w.heap.size (wr.setCell ⟨w.heap.size,2,none⟩ (.int .i64 ((mm*257+y+1)%1000003))) (.slice (some ⟨gb,go,none⟩) k c) cT):=row_setBT HOJ.out HBJ.out (by decide) _ _
  have HX3:Hid (Nx w (wr.setCell ⟨w.heap.size,2,none⟩ (.int .i64 ((mm*257+y+1)%1000003)))):=Below.setCell HXJ.out (Nat.le_refl _) _
  go_wp2
  go_roundw
  case rel=>exact⟨j+1,by omega,by go_num,HB3,HO3,Nx.drew HX3.out⟩
  case measure=>simp[intOf];omega
 have hjk:j=k:=by omega
 subst hjk
 have HSO:Hid (srcOf code=⟨cT,0,mixTo cT m0 j,if 8<1+(j:Int)/40 then 8 else 1+(j:Int)/40⟩):=by unfold Hid srcOf;rw[HCT.out,HN.out,HM0.out,HML.out]
 have m3:=HBJ.out.blk.cell (i:=3) rfl
 have f3:=HBJ.out.blk.frozen 3
 generalize mixTo cT m0 j=mm at *
 go_upto_region 12 with fail
 generalize hW3:wr.setCell ⟨w.heap.size,3,none⟩ (.int .i64 (1+(j:Int)/40))=w3
 have HB3:Hid (BT w3 w.heap.size #[.slice a j c,.int .i64 0,.int .i64 mm,.int .i64 (1+(j:Int)/40)] 39):=by unfold Hid;rw[<-hW3];exact HBJ.out.set 3 _
 have HO3:Hid (OwnBy w.heap.size w3 (.slice a j c) cT):=by unfold Hid;rw[<-hW3];exact row_setBT HOJ.out HBJ.out (by decide) _ _
 have HX3:Hid (Nx w w3):=by unfold Hid;rw[<-hW3];exact Below.setCell HXJ.out (Nat.le_refl _) _
 clear hW3 m3 f3 g0
 have m3:=HB3.out.blk.cell (i:=3) rfl
 have f3:=HB3.out.blk.frozen 3
 by_cases h8:8<1+(j:Int)/40
 ·rw[if_pos h8] at HSO
  go_wp2
  go_ret
  rw[HSO.out]
  exact⟨⟨_,rfl,⟨_,HB3.out.set 3 (.int .i64 8),row_setBT HO3.out HB3.out (by decide) _ _⟩,Nat.le_refl _⟩,Below.setCell HX3.out (Nat.le_refl _) _⟩
 ·rw[if_neg h8] at HSO
  go_wp2
  go_ret
  rw[HSO.out]
  exact⟨⟨_,rfl,⟨_,HB3.out,HO3.out⟩,Nat.le_refl _⟩,HX3.out⟩
theorem HBy.next {B:Nat}{w w':World}{v:Value}{bs:List UInt8}(h:HBy B w v bs)(k:Nx w w'):HBy B w' v bs:=HSlice.mono h (Nat.le_refl _) k.size λb off hb hs i hi hc=>cellq k hc
theorem drawRun_any (auF:List Ru->Au)(hAF:AuF auF)(B:Nat)(v:Value)(code:List UInt8)(w:World)(h:HBy B w v code)(hl:code.length<=1048576) :
  Calls Try.prog 4 #[v] w λe w'=>(∃p0 p1 p2 p3 p4 vp,e=.returned (.tuple #[.agg #[p0,p1,p2,p3,p4],vp])/\HA w.heap.size w' p0 p1 p2 p3 p4 (runD auF code).1/\HInts w.heap.size w' vp (runD auF code).2/\SmallA (runD auF code).1/\(runD auF code).2.length<=10001)/\Nx w w':=by
 have HI:Hid (HBy B w v code):=h
 have HAF:Hid (AuF auF):=hAF
 clear hAF
 have HBX:=mkHid' (BT.new w #[.slice none 0 0,.slice none 0 0,.slice none 0 0,.slice none 0 0,.slice none 0 0] 26 _ rfl)
 have hmx:Try.prog.follows .mixedOrders=true:=by kernel_rfl
 have HRD0:Hid (runD auF code=((daO auF (srcOf code)).1,ruW (daO auF (srcOf code)).1 (daO auF (srcOf code)).2)):=rfl
 obtain⟨va,vc,ev,-,-⟩:=id h
 subst ev
 clear h
 go_enter Try.func4,Try.ntmps4
 go_upto_region 1 with fail
 generalize hWA:w.alloc (.cells #[.slice none 0 0,.slice none 0 0,.slice none 0 0,.slice none 0 0,.slice none 0 0] 26)=wA
 have HNA:Hid (Nx w wA):=by unfold Hid;rw[<-hWA];exact box1 _ _
 have HBA:Hid (BT wA w.heap.size #[.slice none 0 0,.slice none 0 0,.slice none 0 0,.slice none 0 0,.slice none 0 0] 26):=by unfold Hid;rw[<-hWA];exact HBX.out
 clear hWA HBX
 go_wp2_with fail
 refine(l1Source_new B _ code wA (HI.out.next HNA.out) hl).mono ?_
 rintro e w2 ⟨⟨b,rfl,hs2,hb2⟩,hx2⟩
 have HS2:Hid (HSrc wA.heap.size w2 b (srcOf code)):=hs2
 have HB2:Hid (BT w2 w.heap.size #[.slice none 0 0,.slice none 0 0,.slice none 0 0,.slice none 0 0,.slice none 0 0] 26):=HBA.out.next hx2
 have HX2:Hid (Nx w w2):=HNA.out.trans hx2
 have HbW:Hid (w.heap.size<=b):=Nat.le_trans HNA.out.size hb2
 have HOK:=mkHid' (srcOf_ok code)
 generalize wA.heap.size=D at *
 generalize srcOf code=S0 at *
 clear hs2 hb2 hx2 HNA HBA HI
 go_wp2_with fail
 refine(l3DrawAuto_any auF HAF.out D b S0 w2 HS2.out HOK.out).mono ?_
 rintro e w3 ⟨p0,p1,p2,p3,p4,rfl,hO⟩
 have HbL:Hid (b<w2.heap.size):=by
  obtain⟨u,hb,-⟩:=HS2.out
  exact hb.lt
 have HgL:Hid (w.heap.size<w2.heap.size):=HB2.out.lt
 have HB3:Hid (BT w3 w.heap.size #[.slice none 0 0,.slice none 0 0,.slice none 0 0,.slice none 0 0,.slice none 0 0] 26):=HB2.out.src HS2.out (by decide) hO.chg
 have HX3:Hid (Chg (Sx1 b) w w3):=(Chg.nx HX2.out).trans hO.chg
 have HOKO:Hid (SOk (daO auF S0).2):=daO_ok HOK.out
 have HC3:Hid (w2.heap.size<=w3.heap.size):=hO.chg.size
 generalize hx:daO auF S0=x at *
 obtain⟨A,S1⟩:=x
 replace hO:AOut D b w2 w3 S1 p0 p1 p2 p3 p4 A:=hO
 replace HOKO:Hid (SOk S1):=HOKO
 replace HRD0:Hid (runD auF code=(A,ruW A S1)):=HRD0
 have HAO:=mkHid' hO.ha
 obtain⟨a0,c0,e0,-,-⟩:=hO.ha.h0
 obtain⟨a1,c1,e1,-,-⟩:=hO.ha.h1
 obtain⟨a2,c2,e2,-,-⟩:=hO.ha.h2
 obtain⟨a3,c3,e3,-,-⟩:=hO.ha.h3
 obtain⟨a4,c4,e4,-,-⟩:=hO.ha.h4
 have HS3:Hid (HSrc D w3 b S1):=hO.src
 have HSM:Hid (SmallA A):=hO.sm
 have HL0:Hid (p0=.slice a0 A.pa.length c0/\p1=.slice a1 A.la.length c1/\p2=.slice a2 A.fa.length c2/\p3=.slice a3 A.mu.length c3/\p4=.slice a4 A.bd.length c4):=⟨e0,e1,e2,e3,e4⟩
 generalize hn0:A.pa.length=n0 at *
 generalize hn1:A.la.length=n1 at *
 generalize hn2:A.fa.length=n2 at *
 generalize hn3:A.mu.length=n3 at *
 generalize hn4:A.bd.length=n4 at *
 have HNN:Hid (A.pa.length=n0/\A.la.length=n1/\A.fa.length=n2/\A.mu.length=n3/\A.bd.length=n4):=⟨hn0,hn1,hn2,hn3,hn4⟩
 subst e0 e1 e2 e3 e4
 clear hO hx HOK HS2 HB2 HX2 hn0 hn1 hn2 hn3 hn4 HL0
 have hbw:=HbW.out
 have hbC:=HbL.out
 have hgC:=HgL.out
 generalize w2.heap.size=C at *
 go_upto_region 3 with fail
 generalize hW4:w3.alloc (.cells #[.slice a0 n0 c0,.slice a1 n1 c1,.slice a2 n2 c2,.slice a3 n3 c3,.slice a4 n4 c4] 26)=w4 at *
 have hx4:Nx w3 w4:=by rw[<-hW4];exact box1 _ _
 have HB5:Hid (BT w4 w3.heap.size #[.slice a0 n0 c0,.slice a1 n1 c1,.slice a2 n2 c2,.slice a3 n3 c3,.slice a4 n4 c4] 26):=by unfold Hid;rw[<-hW4];exact BT.new w3 _ _ _ rfl
 have HA4:=mkHid' (HAO.out.next hx4)
 have HB4:Hid (BT w4 w.heap.size #[.slice none 0 0,.slice none 0 0,.slice none 0 0,.slice none 0 0,.slice none 0 0] 26):=HB3.out.next hx4
 have HS4:Hid (HSrc D w4 b S1):=HS3.out.next hx4
 have HX4:Hid (Chg (Sx1 b) w w4):=HX3.out.trans (Chg.nx hx4)
 have HG5:Hid (w.heap.size<w3.heap.size):=HB3.out.lt
 have HC4:Hid (C<=w4.heap.size):=Nat.le_trans HC3.out hx4.size
 generalize w3.heap.size=g5 at *
 clear hW4 hx4 HAO HB3 HS3 HX3
 have y0:w4.cell? ⟨g5,0,none⟩=some (.slice a0 n0 c0):=HB5.out.blk.cell (i:=0) rfl
 have y1:w4.cell? ⟨g5,1,none⟩=some (.slice a1 n1 c1):=HB5.out.blk.cell (i:=1) rfl
 have y2:w4.cell? ⟨g5,2,none⟩=some (.slice a2 n2 c2):=HB5.out.blk.cell (i:=2) rfl
 have y3:w4.cell? ⟨g5,3,none⟩=some (.slice a3 n3 c3):=HB5.out.blk.cell (i:=3) rfl
 have y4:w4.cell? ⟨g5,4,none⟩=some (.slice a4 n4 c4):=HB5.out.blk.cell (i:=4) rfl
 go_wp2_with fail
 refine(specValidA_any C (.slice a0 n0 c0) (.slice a1 n1 c1) (.slice a2 n2 c2) (.slice a3 n3 c3) (.slice a4 n4 c4) A w4 HA4.out).mono ?_
 rintro e w5 ⟨rfl,hx5⟩
 have HB55:Hid (BT w5 g5 #[.slice a0 n0 c0,.slice a1 n1 c1,.slice a2 n2 c2,.slice a3 n3 c3,.slice a4 n4 c4] 26):=HB5.out.next hx5
 have HA5:=mkHid' (HA4.out.next hx5)
 have HB25:Hid (BT w5 w.heap.size #[.slice none 0 0,.slice none 0 0,.slice none 0 0,.slice none 0 0,.slice none 0 0] 26):=HB4.out.next hx5
 have HS5:Hid (HSrc D w5 b S1):=HS4.out.next hx5
 have HX5:Hid (Chg (Sx1 b) w w5):=HX4.out.trans (Chg.nx hx5)
 have HCw:Hid (C<=w5.heap.size):=Nat.le_trans HC4.out hx5.size
 clear hx5 HC4 HC3 HB5 HA4 HB4 HS4 HX4 y0 y1 y2 y3 y4
 have HOK1:Hid (SOk S1):=HOKO.out
 have HWd:Hid (ruW A S1=if validS A=true then ruP (ruY A S1) else [nv S1 3]):=rfl
 have HVV:Hid (validS A=true->WsOk A (wsA A) A.pa.length/\A.la.length=A.pa.length/\A.fa.length=A.pa.length/\1<=A.pa.length):=ws_of
 generalize validS A=va9 at *
 cases va9 with
 |false=>
  have HRD:Hid (runD auF code=(A,[nv S1 3])):=by unfold Hid;rw[HRD0.out,HWd.out];rfl
  clear HWd HRD0 HVV HOKO
  go_upto_region 4 with fail
  have HAD:=mkHid' (HA5.out.next (show Nx w5 w5.drew from(Below.refl _ _).drew))
  have HB5D:Hid (BT w5.drew g5 #[.slice a0 n0 c0,.slice a1 n1 c1,.slice a2 n2 c2,.slice a3 n3 c3,.slice a4 n4 c4] 26):=HB55.out.next (show Nx w5 w5.drew from(Below.refl _ _).drew)
  have HB2D:Hid (BT w5.drew w.heap.size #[.slice none 0 0,.slice none 0 0,.slice none 0 0,.slice none 0 0,.slice none 0 0] 26):=HB25.out.next (show Nx w5 w5.drew from(Below.refl _ _).drew)
  have HSD:Hid (HSrc D w5.drew b S1):=HS5.out.next (show Nx w5 w5.drew from(Below.refl _ _).drew)
  have HXD:Hid (Chg (Sx1 b) w w5.drew):=HX5.out.trans (Chg.nx (show Nx w5 w5.drew from(Below.refl _ _).drew))
  have HSS:Hid ((λq=>q.cell? ⟨g5,0,none⟩=some (.slice a0 n0 c0)/\q.cell? ⟨g5,1,none⟩=some (.slice a1 n1 c1)/\q.cell? ⟨g5,2,none⟩=some (.slice a2 n2 c2)/\q.cell? ⟨g5,3,none⟩=some (.slice a3 n3 c3)/\q.cell? ⟨g5,4,none⟩=some (.slice a4 n4 c4)) w5.drew):=⟨HB5D.out.blk.cell (i:=0) rfl,HB5D.out.blk.cell (i:=1) rfl,HB5D.out.blk.cell (i:=2) rfl,HB5D.out.blk.cell (i:=3) rfl,HB5D.out.blk.cell (i:=4) rfl⟩
  clear HA5 HB55 HB25 HS5 HX5
  refine(wpIn_wide (n:=9)).1 ?_
  refine wpIn_region_S (c:=5) (S:=λq=>q.cell? ⟨g5,0,none⟩=some (.slice a0 n0 c0)/\q.cell? ⟨g5,1,none⟩=some (.slice a1 n1 c1)/\q.cell? ⟨g5,2,none⟩=some (.slice a2 n2 c2)/\q.cell? ⟨g5,3,none⟩=some (.slice a3 n3 c3)/\q.cell? ⟨g5,4,none⟩=some (.slice a4 n4 c4)) hmx (by kernel_rfl) (λhw hcl=>?_)
  generalize w5.drew=wd at *
  refine tq (i:=0) (v:=.agg #[.slice a0 n0 c0,.slice a1 n1 c1,.slice a2 n2 c2,.slice a3 n3 c3,.slice a4 n4 c4]) (λhcl=>?_)
  refine tq (i:=1) (v:=.pointer (some ⟨b,0,none⟩)) (λhcl=>?_)
  refine anyS_one2 (i:=2) (by kernel_rfl) hcl (λhcl=>wpOpIn_step rfl (λK hK=>?_))
  go_simp
  refine⟨trivial,(callsIn_wide.2 (l1Next_any D b S1 3 _ HSD.out HOK1.out (by omega))).mono ?_⟩
  rintro e7 w7 ⟨rfl,hs7,hc7⟩
  have HA7:Hid (HA C w7 (.slice a0 n0 c0) (.slice a1 n1 c1) (.slice a2 n2 c2) (.slice a3 n3 c3) (.slice a4 n4 c4) A):=HAD.out.chg hbC hc7
  have HB57:Hid (BT w7 g5 #[.slice a0 n0 c0,.slice a1 n1 c1,.slice a2 n2 c2,.slice a3 n3 c3,.slice a4 n4 c4] 26):=HB5D.out.src HSD.out (by decide) hc7
  have HB27:Hid (BT w7 w.heap.size #[.slice none 0 0,.slice none 0 0,.slice none 0 0,.slice none 0 0,.slice none 0 0] 26):=HB2D.out.src HSD.out (by decide) hc7
  have HX7:Hid (Chg (Sx1 b) w w7):=HXD.out.trans hc7
  have HSS:Hid ((λq=>q.cell? ⟨g5,0,none⟩=some (.slice a0 n0 c0)/\q.cell? ⟨g5,1,none⟩=some (.slice a1 n1 c1)/\q.cell? ⟨g5,2,none⟩=some (.slice a2 n2 c2)/\q.cell? ⟨g5,3,none⟩=some (.slice a3 n3 c3)/\q.cell? ⟨g5,4,none⟩=some (.slice a4 n4 c4)) w7):=⟨HB57.out.blk.cell (i:=0) rfl,HB57.out.blk.cell (i:=1) rfl,HB57.out.blk.cell (i:=2) rfl,HB57.out.blk.cell (i:=3) rfl,HB57.out.blk.cell (i:=4) rfl⟩
  refine hK _ _ ⟨Or.inr HSS.out,?_⟩
  clear hK K hs7 hc7 HSD HAD HB5D HB2D HXD
  generalize nv S1 3=d3 at *
  have HY7:Hid (Below w.heap.size w w7):=HX7.out.below (Nat.le_refl _) (λx hx=>by have e':x=b:=hx;omega)
  refine anyS_two2 (i:=3) (j:=4) (by kernel_rfl) hcl (λhcl=>wpOpIn_step rfl (λK hK=>?_)) (λhcl=>wpOpIn_step rfl (λK hK=>?_))
  ·go_simp
   generalize hWa:w7.alloc (.cells #[.int .i64 d3] 2)=wa
   have hnx:Nx w7 wa:=by rw[<-hWa];exact box1 _ _
   have HO8:Hid (OwnI w7.heap.size wa (.slice (some ⟨w7.heap.size,0,none⟩) 1 1) [d3]):=by unfold Hid;rw[<-hWa];exact ownI_one _ _ _ (Nat.le_refl _)
   have HA8:Hid (HA C wa (.slice a0 n0 c0) (.slice a1 n1 c1) (.slice a2 n2 c2) (.slice a3 n3 c3) (.slice a4 n4 c4) A):=HA7.out.next hnx
   have HB58:Hid (BT wa g5 #[.slice a0 n0 c0,.slice a1 n1 c1,.slice a2 n2 c2,.slice a3 n3 c3,.slice a4 n4 c4] 26):=HB57.out.next hnx
   have HB28:Hid (BT wa w.heap.size #[.slice none 0 0,.slice none 0 0,.slice none 0 0,.slice none 0 0,.slice none 0 0] 26):=HB27.out.next hnx
   have HX8:Hid (Below w.heap.size w wa):=HY7.out.trans (below_nx hnx HY7.out.size)
   have HZ7:Hid (w.heap.size<=w7.heap.size):=HY7.out.size
   have HSS:Hid ((λq=>q.cell? ⟨g5,0,none⟩=some (.slice a0 n0 c0)/\q.cell? ⟨g5,1,none⟩=some (.slice a1 n1 c1)/\q.cell? ⟨g5,2,none⟩=some (.slice a2 n2 c2)/\q.cell? ⟨g5,3,none⟩=some (.slice a3 n3 c3)/\q.cell? ⟨g5,4,none⟩=some (.slice a4 n4 c4)) wa):=⟨HB58.out.blk.cell (i:=0) rfl,HB58.out.blk.cell (i:=1) rfl,HB58.out.blk.cell (i:=2) rfl,HB58.out.blk.cell (i:=3) rfl,HB58.out.blk.cell (i:=4) rfl⟩
   refine hK _ _ ⟨Or.inr HSS.out,?_⟩
   clear hK K hnx hWa
   generalize w7.heap.size=g7 at *
   refine anyS_one2 (i:=4) (by kernel_rfl) hcl (λhcl=>wpOpIn_step rfl (λK hK=>?_))
   have BR:BT wa w.heap.size #[.slice none 0 0,.slice none 0 0,.slice none 0 0,.slice none 0 0,.slice none 0 0] 26:=HB28.out
   have x0:wa.cell? ⟨w.heap.size,0,none⟩=some (.slice none 0 0):=BR.blk.cell (i:=0) rfl
   have fz0:=BR.blk.frozen 0
   have x1:wa.cell? ⟨w.heap.size,1,none⟩=some (.slice none 0 0):=BR.blk.cell (i:=1) rfl
   have fz1:=BR.blk.frozen 1
   have x2:wa.cell? ⟨w.heap.size,2,none⟩=some (.slice none 0 0):=BR.blk.cell (i:=2) rfl
   have fz2:=BR.blk.frozen 2
   have x3:wa.cell? ⟨w.heap.size,3,none⟩=some (.slice none 0 0):=BR.blk.cell (i:=3) rfl
   have fz3:=BR.blk.frozen 3
   have x4:wa.cell? ⟨w.heap.size,4,none⟩=some (.slice none 0 0):=BR.blk.cell (i:=4) rfl
   have fz4:=BR.blk.frozen 4
   have BS:=set5 (a0:=.slice a0 n0 c0) (a1:=.slice a1 n1 c1) (a2:=.slice a2 n2 c2) (a3:=.slice a3 n3 c3) (a4:=.slice a4 n4 c4) BR
   have HCF:Hid (Chg (λx=>x=w.heap.size) wa (((((wa.setCell ⟨w.heap.size,0,none⟩ (.slice a0 n0 c0)).setCell ⟨w.heap.size,1,none⟩ (.slice a1 n1 c1)).setCell ⟨w.heap.size,2,none⟩ (.slice a2 n2 c2)).setCell ⟨w.heap.size,3,none⟩ (.slice a3 n3 c3)).setCell ⟨w.heap.size,4,none⟩ (.slice a4 n4 c4))):=chg5
   have HBS:=mkHid' BS
   clear BS BR
   go_simp
   generalize hWF:(((((wa.setCell ⟨w.heap.size,0,none⟩ (.slice a0 n0 c0)).setCell ⟨w.heap.size,1,none⟩ (.slice a1 n1 c1)).setCell ⟨w.heap.size,2,none⟩ (.slice a2 n2 c2)).setCell ⟨w.heap.size,3,none⟩ (.slice a3 n3 c3)).setCell ⟨w.heap.size,4,none⟩ (.slice a4 n4 c4))=wF at HBS HCF ⊢
   have HB59:Hid (BT wF g5 #[.slice a0 n0 c0,.slice a1 n1 c1,.slice a2 n2 c2,.slice a3 n3 c3,.slice a4 n4 c4] 26):=HB58.out.chg HCF.out (λe=>by have e':g5=w.heap.size:=e;have:=HG5.out;omega)
   have HSS:Hid ((λq=>q.cell? ⟨g5,0,none⟩=some (.slice a0 n0 c0)/\q.cell? ⟨g5,1,none⟩=some (.slice a1 n1 c1)/\q.cell? ⟨g5,2,none⟩=some (.slice a2 n2 c2)/\q.cell? ⟨g5,3,none⟩=some (.slice a3 n3 c3)/\q.cell? ⟨g5,4,none⟩=some (.slice a4 n4 c4)) wF):=⟨HB59.out.blk.cell (i:=0) rfl,HB59.out.blk.cell (i:=1) rfl,HB59.out.blk.cell (i:=2) rfl,HB59.out.blk.cell (i:=3) rfl,HB59.out.blk.cell (i:=4) rfl⟩
   refine hK _ _ ⟨Or.inr HSS.out,?_⟩
   clear hK K x0 x1 x2 x3 x4 fz0 fz1 fz2 fz3 fz4 hWF
   refine anyS_one (i:=5) (by kernel_rfl) (wpOpIn_step rfl (λK hK=>?_))
   go_simp
   refine hK _ _ ⟨Or.inl (by decide),?_⟩
   clear hK K
   refine anyS_done (by kernel_rfl) ?_ _
   clear hw hcl HSS
   go_wp2
   have HW1:Hid (Below w.heap.size w wF):=HX8.out.trans (HCF.out.below HX8.out.size (λx hx=>by have e':x=w.heap.size:=hx;omega))
   have hA:=HA8.out.box HB28.out HCF.out hgC
   have hI:=HO8.out.boxI HB28.out HCF.out
   have p0_:wF.cell? ⟨w.heap.size,0,none⟩=some (.slice a0 n0 c0):=HBS.out.blk.cell (i:=0) rfl
   have p1_:wF.cell? ⟨w.heap.size,1,none⟩=some (.slice a1 n1 c1):=HBS.out.blk.cell (i:=1) rfl
   have p2_:wF.cell? ⟨w.heap.size,2,none⟩=some (.slice a2 n2 c2):=HBS.out.blk.cell (i:=2) rfl
   have p3_:wF.cell? ⟨w.heap.size,3,none⟩=some (.slice a3 n3 c3):=HBS.out.blk.cell (i:=3) rfl
   have p4_:wF.cell? ⟨w.heap.size,4,none⟩=some (.slice a4 n4 c4):=HBS.out.blk.cell (i:=4) rfl
   refine bodyPost_ret (v:=.tuple #[.agg #[.slice a0 n0 c0,.slice a1 n1 c1,.slice a2 n2 c2,.slice a3 n3 c3,.slice a4 n4 c4],.slice (some ⟨g7,0,none⟩) 1 1]) (by simp[results,Try.results4,go_sem,p0_,p1_,p2_,p3_,p4_]) rfl ?_
   rw[HRD.out]
   exact⟨⟨_,_,_,_,_,_,rfl,hA.base (by omega),hI.held.base HZ7.out,HSM.out,by simp⟩,HW1.out⟩
  ·have BR:BT w7 w.heap.size #[.slice none 0 0,.slice none 0 0,.slice none 0 0,.slice none 0 0,.slice none 0 0] 26:=HB27.out
   have x0:w7.cell? ⟨w.heap.size,0,none⟩=some (.slice none 0 0):=BR.blk.cell (i:=0) rfl
   have fz0:=BR.blk.frozen 0
   have x1:w7.cell? ⟨w.heap.size,1,none⟩=some (.slice none 0 0):=BR.blk.cell (i:=1) rfl
   have fz1:=BR.blk.frozen 1
   have x2:w7.cell? ⟨w.heap.size,2,none⟩=some (.slice none 0 0):=BR.blk.cell (i:=2) rfl
   have fz2:=BR.blk.frozen 2
   have x3:w7.cell? ⟨w.heap.size,3,none⟩=some (.slice none 0 0):=BR.blk.cell (i:=3) rfl
   have fz3:=BR.blk.frozen 3
   have x4:w7.cell? ⟨w.heap.size,4,none⟩=some (.slice none 0 0):=BR.blk.cell (i:=4) rfl
   have fz4:=BR.blk.frozen 4
   have BS:=set5 (a0:=.slice a0 n0 c0) (a1:=.slice a1 n1 c1) (a2:=.slice a2 n2 c2) (a3:=.slice a3 n3 c3) (a4:=.slice a4 n4 c4) BR
   have HCF:Hid (Chg (λx=>x=w.heap.size) w7 (((((w7.setCell ⟨w.heap.size,0,none⟩ (.slice a0 n0 c0)).setCell ⟨w.heap.size,1,none⟩ (.slice a1 n1 c1)).setCell ⟨w.heap.size,2,none⟩ (.slice a2 n2 c2)).setCell ⟨w.heap.size,3,none⟩ (.slice a3 n3 c3)).setCell ⟨w.heap.size,4,none⟩ (.slice a4 n4 c4))):=chg5
   have HBS:=mkHid' BS
   clear BS BR
   go_simp
   generalize hWF:(((((w7.setCell ⟨w.heap.size,0,none⟩ (.slice a0 n0 c0)).setCell ⟨w.heap.size,1,none⟩ (.slice a1 n1 c1)).setCell ⟨w.heap.size,2,none⟩ (.slice a2 n2 c2)).setCell ⟨w.heap.size,3,none⟩ (.slice a3 n3 c3)).setCell ⟨w.heap.size,4,none⟩ (.slice a4 n4 c4))=wF at HBS HCF ⊢
   have HB5F:Hid (BT wF g5 #[.slice a0 n0 c0,.slice a1 n1 c1,.slice a2 n2 c2,.slice a3 n3 c3,.slice a4 n4 c4] 26):=HB57.out.chg HCF.out (λe=>by have e':g5=w.heap.size:=e;have:=HG5.out;omega)
   have HAF:Hid (HA C wF (.slice a0 n0 c0) (.slice a1 n1 c1) (.slice a2 n2 c2) (.slice a3 n3 c3) (.slice a4 n4 c4) A):=HA7.out.box HB27.out HCF.out hgC
   have HB2F:Hid (BT wF w.heap.size #[.slice a0 n0 c0,.slice a1 n1 c1,.slice a2 n2 c2,.slice a3 n3 c3,.slice a4 n4 c4] 26):=HBS.out
   have HYF:Hid (Below w.heap.size w wF):=HY7.out.trans (HCF.out.below HY7.out.size (λx hx=>by have e':x=w.heap.size:=hx;omega))
   have HSS:Hid ((λq=>q.cell? ⟨g5,0,none⟩=some (.slice a0 n0 c0)/\q.cell? ⟨g5,1,none⟩=some (.slice a1 n1 c1)/\q.cell? ⟨g5,2,none⟩=some (.slice a2 n2 c2)/\q.cell? ⟨g5,3,none⟩=some (.slice a3 n3 c3)/\q.cell? ⟨g5,4,none⟩=some (.slice a4 n4 c4)) wF):=⟨HB5F.out.blk.cell (i:=0) rfl,HB5F.out.blk.cell (i:=1) rfl,HB5F.out.blk.cell (i:=2) rfl,HB5F.out.blk.cell (i:=3) rfl,HB5F.out.blk.cell (i:=4) rfl⟩
   refine hK _ _ ⟨Or.inr HSS.out,?_⟩
   clear hK K x0 x1 x2 x3 x4 fz0 fz1 fz2 fz3 fz4 hWF
   refine anyS_one2 (i:=3) (by kernel_rfl) hcl (λhcl=>wpOpIn_step rfl (λK hK=>?_))
   go_simp
   generalize hWa:wF.alloc (.cells #[.int .i64 d3] 2)=wa
   have hnx:Nx wF wa:=by rw[<-hWa];exact box1 _ _
   have HO8:Hid (OwnI wF.heap.size wa (.slice (some ⟨wF.heap.size,0,none⟩) 1 1) [d3]):=by unfold Hid;rw[<-hWa];exact ownI_one _ _ _ (Nat.le_refl _)
   have HA8:Hid (HA C wa (.slice a0 n0 c0) (.slice a1 n1 c1) (.slice a2 n2 c2) (.slice a3 n3 c3) (.slice a4 n4 c4) A):=HAF.out.next hnx
   have HB58:Hid (BT wa g5 #[.slice a0 n0 c0,.slice a1 n1 c1,.slice a2 n2 c2,.slice a3 n3 c3,.slice a4 n4 c4] 26):=HB5F.out.next hnx
   have HB28:Hid (BT wa w.heap.size #[.slice a0 n0 c0,.slice a1 n1 c1,.slice a2 n2 c2,.slice a3 n3 c3,.slice a4 n4 c4] 26):=HB2F.out.next hnx
   have HX8:Hid (Below w.heap.size w wa):=HYF.out.trans (below_nx hnx HYF.out.size)
   have HZ7:Hid (w.heap.size<=wF.heap.size):=HYF.out.size
   have HSS:Hid ((λq=>q.cell? ⟨g5,0,none⟩=some (.slice a0 n0 c0)/\q.cell? ⟨g5,1,none⟩=some (.slice a1 n1 c1)/\q.cell? ⟨g5,2,none⟩=some (.slice a2 n2 c2)/\q.cell? ⟨g5,3,none⟩=some (.slice a3 n3 c3)/\q.cell? ⟨g5,4,none⟩=some (.slice a4 n4 c4)) wa):=⟨HB58.out.blk.cell (i:=0) rfl,HB58.out.blk.cell (i:=1) rfl,HB58.out.blk.cell (i:=2) rfl,HB58.out.blk.cell (i:=3) rfl,HB58.out.blk.cell (i:=4) rfl⟩
   refine hK _ _ ⟨Or.inr HSS.out,?_⟩
   clear hK K hnx hWa
   generalize wF.heap.size=g7 at *
   refine anyS_one (i:=5) (by kernel_rfl) (wpOpIn_step rfl (λK hK=>?_))
   go_simp
   refine hK _ _ ⟨Or.inl (by decide),?_⟩
   clear hK K
   refine anyS_done (by kernel_rfl) ?_ _
   clear hw hcl HSS
   go_wp2
   have HW1:Hid (Below w.heap.size w wa):=HX8.out
   have hA:=HA8.out
   have hI:=HO8.out
   have p0_:wa.cell? ⟨w.heap.size,0,none⟩=some (.slice a0 n0 c0):=HB28.out.blk.cell (i:=0) rfl
   have p1_:wa.cell? ⟨w.heap.size,1,none⟩=some (.slice a1 n1 c1):=HB28.out.blk.cell (i:=1) rfl
   have p2_:wa.cell? ⟨w.heap.size,2,none⟩=some (.slice a2 n2 c2):=HB28.out.blk.cell (i:=2) rfl
   have p3_:wa.cell? ⟨w.heap.size,3,none⟩=some (.slice a3 n3 c3):=HB28.out.blk.cell (i:=3) rfl
   have p4_:wa.cell? ⟨w.heap.size,4,none⟩=some (.slice a4 n4 c4):=HB28.out.blk.cell (i:=4) rfl
   refine bodyPost_ret (v:=.tuple #[.agg #[.slice a0 n0 c0,.slice a1 n1 c1,.slice a2 n2 c2,.slice a3 n3 c3,.slice a4 n4 c4],.slice (some ⟨g7,0,none⟩) 1 1]) (by simp[results,Try.results4,go_sem,p0_,p1_,p2_,p3_,p4_]) rfl ?_
   rw[HRD.out]
   exact⟨⟨_,_,_,_,_,_,rfl,hA.base (by omega),hI.held.base HZ7.out,HSM.out,by simp⟩,HW1.out⟩
 |true=>
  have HV:=mkHid' (HVV.out rfl)
  have HRD:Hid (runD auF code=(A,ruP (ruY A S1))):=by unfold Hid;rw[HRD0.out,HWd.out];rfl
  have HYd:Hid (ruY A S1=drn (ruF S1) A (wsA A) (ru0 S1)):=rfl
  obtain⟨n,hn⟩:∃n,n=n0:=⟨_,rfl⟩
  have e1:n=n1:=by have:=HV.out.2.1;have:=HNN.out;omega
  have e2:n=n2:=by have:=HV.out.2.2.1;have:=HNN.out;omega
  have e3:n=n3:=by have:=HV.out.1.m;have:=HNN.out;omega
  have e4:n=n4:=by have:=HV.out.1.b;have:=HNN.out;omega
  subst hn e1 e2 e3 e4
  have HPA:Hid (A.pa.length=n):=HNN.out.1
  have hnn:n<=2000:=by have:=HV.out.1.n;have:=HNN.out;omega
  have HWS:Hid (WsOk A (wsA A) n):=by have h:=HV.out.1;rw[HPA.out] at h;exact h
  have HLA:Hid (A.la.length=n):=HNN.out.2.1
  have HCW:Hid (C<=w5.heap.size):=HCw.out
  clear HWd HRD0 HVV HNN HV
  have y0:w5.cell? ⟨g5,0,none⟩=some (.slice a0 n c0):=HB55.out.blk.cell (i:=0) rfl
  have y1:w5.cell? ⟨g5,1,none⟩=some (.slice a1 n c1):=HB55.out.blk.cell (i:=1) rfl
  have y2:w5.cell? ⟨g5,2,none⟩=some (.slice a2 n c2):=HB55.out.blk.cell (i:=2) rfl
  have y3:w5.cell? ⟨g5,3,none⟩=some (.slice a3 n c3):=HB55.out.blk.cell (i:=3) rfl
  have y4:w5.cell? ⟨g5,4,none⟩=some (.slice a4 n c4):=HB55.out.blk.cell (i:=4) rfl
  go_wp2_with fail
  refine(l3Spell_any C (.slice a0 n c0) (.slice a1 n c1) (.slice a2 n c2) (.slice a3 n c3) (.slice a4 n c4) A w5 HA5.out (by have:=HLA.out;rw[HPA.out];exact this) (by rw[HPA.out];exact hnn)).mono ?_
  rintro e w6 ⟨⟨vw,rfl,how⟩,hx6⟩
  have HB2Z0:Hid (BT w6 w.heap.size #[.slice none 0 0,.slice none 0 0,.slice none 0 0,.slice none 0 0,.slice none 0 0] 26):=HB25.out.next hx6
  have HB5Z0:Hid (BT w6 g5 #[.slice a0 n c0,.slice a1 n c1,.slice a2 n c2,.slice a3 n c3,.slice a4 n c4] 26):=HB55.out.next hx6
  have HAZ0:=mkHid' (HA5.out.next hx6)
  have HSZ0:Hid (HSrc D w6 b S1):=HS5.out.next hx6
  have HXZ0:Hid (Chg (Sx1 b) w w6):=HX5.out.trans (Chg.nx hx6)
  have HCS:Hid (C<=w5.heap.size):=HCW.out
  have HWW:Hid (HWords C w6 vw (wsA A)):=how.held.base HCS.out
  have hWL:(wsA A).length=n:=HWS.out.l
  obtain⟨aw,cw,ew,-,-⟩:=id HWW.out
  rw[hWL] at ew
  subst ew
  clear how hx6 HB25 HB55 HA5 HS5 HX5 y0 y1 y2 y3 y4 hWL
  have HFd:Hid (ruF S1=(nv (ns S1 (6+6*S1.size)) 40==0)):=rfl
  have HMd:Hid (ruM S1=if ruF S1 then 10000+nv (ruS2 S1) 2 else 1+nv S1 (6+6*S1.size)):=rfl
  have HSd2:Hid (ruS2 S1=ns (ns S1 (6+6*S1.size)) 40):=rfl
  have HSd3:Hid (ruS3 S1=if ruF S1 then ns (ruS2 S1) 2 else ruS2 S1):=rfl
  have H0d:Hid (ru0 S1=⟨[],0,ruM S1,ruS3 S1⟩):=rfl
  have H0O:=mkHid' (ru0_ok HOK1.out)
  generalize wsA A=ws at *
  have hszS:=HOK1.out.size
  have HE0:Hid (OwnI w6.heap.size (w6.alloc (.cells #[] 2)) (.slice (some ⟨w6.heap.size,0,none⟩) 0 0) []):=ownI_none _ _ (Nat.le_refl _)
  have cS:(w6.alloc (.cells #[] 2)).cell? ⟨b,3,none⟩=some (.int .i64 S1.size):=(HSZ0.out.next (box1 _ _)).size
  have hHx:Nx w6 (w6.alloc (.cells #[] 2)):=box1 _ _
  have HNX:Hid (Nx w6 (w6.alloc (.cells #[] 2))):=hHx
  clear hHx
  go_upto_region 7 with fail
  generalize w6.alloc (.cells #[] 2)=w7 at *
  have HAZ:=mkHid' HAZ0.out
  have HWZ:=mkHid' HWW.out
  have HB2Z:=mkHid' HB2Z0.out
  have HB5Z:=mkHid' HB5Z0.out
  have HSZ:=mkHid' HSZ0.out
  have HS7:Hid (HSrc D w7 b S1):=HSZ.out.next HNX.out
  have HC7:Hid (Chg (Sx1 b) w6 w7):=Chg.nx HNX.out
  clear HAZ0 HWW HB2Z0 HB5Z0 HSZ0 HNX
  go_wp2_with fail
  refine(l1Next_any D b S1 (6+6*S1.size) w7 HS7.out HOK1.out (by omega)).mono ?_
  rintro e w8 ⟨rfl,hs8,hc8⟩
  have HE8:Hid (OwnI w6.heap.size w8 (.slice (some ⟨w6.heap.size,0,none⟩) 0 0) []):=row_src HE0.out HS7.out (by decide) hc8
  have HS8:Hid (HSrc D w8 b (ns S1 (6+6*S1.size))):=hs8
  have HC8:Hid (Chg (Sx1 b) w6 w8):=HC7.out.trans hc8
  have HOK8:Hid (SOk (ns S1 (6+6*S1.size))):=ns_ok HOK1.out _
  have hv8:=nv_in HOK1.out (6+6*S1.size)
  have hv8':=hv8.2 (by omega)
  clear hs8 hc8 HE0 HS7 HC7 cS
  generalize nv S1 (6+6*S1.size)=d8 at *
  generalize ns S1 (6+6*S1.size)=S8 at *
  go_wp2_with fail
  refine(l1Next_any D b S8 40 w8 HS8.out HOK8.out (by omega)).mono ?_
  rintro e w9 ⟨rfl,hs9,hc9⟩
  have HE9:Hid (OwnI w6.heap.size w9 (.slice (some ⟨w6.heap.size,0,none⟩) 0 0) []):=row_src HE8.out HS8.out (by decide) hc9
  have HS9:Hid (HSrc D w9 b (ruS2 S1)):=by unfold Hid;rw[HSd2.out];exact hs9
  have HC9:Hid (Chg (Sx1 b) w6 w9):=HC8.out.trans hc9
  have HOK9:Hid (SOk (ruS2 S1)):=by unfold Hid;rw[HSd2.out];exact ns_ok HOK8.out 40
  clear hs9 hc9 HE8 HS8 HC8 HSd2
  generalize ruS2 S1=S9 at *
  generalize nv S8 40=d40 at *
  generalize hfr:ruF S1=fr at *
  have HFR:Hid (fr=(d40==0)):=by unfold Hid;rw[<-HFd.out]
  clear hfr HFd
  go_upto_if 39 with fail
  rw[<-HFR.out]
  clear HFR
  go_cut [9] from 40 to 42 (λs9 wc=>s9=.int .i64 (ruM S1)/\Hid (OwnI w6.heap.size wc (.slice (some ⟨w6.heap.size,0,none⟩) 0 0) [])/\Hid (HSrc D wc b (ruS3 S1))/\Hid (Chg (Sx1 b) w6 wc))
  case first=>
   cases fr with
   |true=>
    have HMe:Hid (ruM S1=10000+nv S9 2):=by unfold Hid;rw[HMd.out];rfl
    have HSe:Hid (ruS3 S1=ns S9 2):=by unfold Hid;rw[HSd3.out];rfl
    clear HMd HSd3
    go_wp2_with fail
    refine(l1Next_any D b S9 2 w9 HS9.out HOK9.out (by omega)).mono ?_
    rintro e wx ⟨rfl,hs1,hc1⟩
    have HEx:Hid (OwnI w6.heap.size wx (.slice (some ⟨w6.heap.size,0,none⟩) 0 0) []):=row_src HE9.out HS9.out (by decide) hc1
    have HSx:Hid (HSrc D wx b (ruS3 S1)):=by unfold Hid;rw[HSe.out];exact hs1
    have HCx:Hid (Chg (Sx1 b) w6 wx):=HC9.out.trans hc1
    have hv2:=nv_in HOK9.out 2
    have hv2':=hv2.2 (by omega)
    clear hs1 hc1 HSe
    generalize nv S9 2=d2 at *
    go_wp2
    go_meet
    exact⟨by rw[HMe.out],HEx,HSx,HCx⟩
   |false=>
    have HMe:Hid (ruM S1=1+d8):=by unfold Hid;rw[HMd.out];rfl
    have hSe:ruS3 S1=S9:=by rw[HSd3.out];rfl
    have HSx:Hid (HSrc D w9 b (ruS3 S1)):=by unfold Hid;rw[hSe];exact HS9.out
    clear HMd HSd3 hSe
    go_wp2
    go_meet
    exact⟨by rw[HMe.out],HE9,HSx,HC9⟩
  case rest=>
  obtain⟨rfl,HEa,HSa,HCa⟩:=hcut
  clear HE9 HS9 HC9 HMd HSd3 HOK8 HOK9 hv8 hv8'
  generalize ruM S1=M0 at *
  generalize ruS3 S1=Sa at *
  generalize hy0:ru0 S1=y0 at *
  have HY0:Hid (y0=⟨[],0,M0,Sa⟩):=H0d.out
  clear H0d hy0
  have HE1:Hid (OwnI w6.heap.size wc (.slice (some ⟨w6.heap.size,0,none⟩) 0 0) y0.l):=by unfold Hid;rw[HY0.out];exact HEa.out
  have HS1:Hid (HSrc D wc b y0.S):=by unfold Hid;rw[HY0.out];exact HSa.out
  have HM1:Hid (M0=y0.most):=by unfold Hid;rw[HY0.out]
  have HT1:Hid ((0:Int)=y0.st):=by unfold Hid;rw[HY0.out]
  have HL1:Hid (y0.l.length=0):=by unfold Hid;rw[HY0.out];rfl
  clear HEa HSa HY0
  go_wp2
  go_loopw [7,8,9] (λs7 s8 s9 wr=>∃(y:RnSt) (m c1:Nat) (a:Option Addr),s7=.slice a m c1/\s8=.int .i64 y.st/\s9=.int .i64 y.most/\Hid (y.l.length=m)/\Hid (OwnI w6.heap.size wr (.slice a m c1) y.l)/\Hid (HSrc D wr b y.S)/\Hid (Chg (Sx1 b) w6 wr)/\Hid (drn fr A ws y0=drn fr A ws y)/\Hid (RnOk y)) (λs7 _ s9 _=>(intOf s9-lenV s7).toNat)
  case atStart=>exact⟨y0,0,0,_,rfl,by rw[HT1.out],by rw[HM1.out],HL1,HE1,HS1,HCa,rfl,H0O⟩
  clear HE1 HS1 HCa H0O HM1 HT1 HL1
  obtain⟨y,m,c1_,a,rfl,rfl,rfl,HLm,HO,HS,HC,HD,HOK⟩:=hrel
  have hlo:=HOK.out.lo
  have hhi:=HOK.out.hi
  rw[HLm.out] at hlo
  by_cases hlt:(m:Int)<y.most
  ·have HST:=mkHid' (rn_step (fr:=fr) (A:=A) (ws:=ws) (y:=y) (by rw[HLm.out];exact hlt))
   have HOKn:Hid (RnOk (rnStep fr A ws y)):=rn_ok HOK.out (by rw[HLm.out];exact hlt)
   have HMS:Hid (rnM y=(y.most-(m:Int)).toNat):=by unfold Hid rnM;rw[HLm.out]
   have HSK:Hid (SOk y.S):=HOK.out.ok
   have HEd:Hid (rnE fr A y=if fr then 3999 else dlV A.la y.S):=rfl
   have HXd:Hid (rnX fr A ws y=stepS A ws y.st (rnE fr A y)):=rfl
   have HDd:Hid (rnD fr A ws y=(decide (rnX fr A ws y<0)&&!fr)):=rfl
   have HBd:Hid (rnB fr A ws y=(rnD fr A ws y&&decide (0<nv (dlS A.la y.S) 8))):=rfl
   have HSd:Hid (rnS fr A ws y=if rnD fr A ws y then ns (dlS A.la y.S) 8 else dlS A.la y.S):=rfl
   have HQd:Hid (rnStep fr A ws y=if rnB fr A ws y then ⟨y.l,y.st,y.most-1,rnS fr A ws y⟩ else ⟨y.l++[rnE fr A y],if 0<=rnX fr A ws y then rnX fr A ws y else y.st,y.most,rnS fr A ws y⟩):=rfl
   generalize rnE fr A y=ee at *
   have HAr:Hid (HA C wr (.slice a0 n c0) (.slice a1 n c1) (.slice a2 n c2) (.slice a3 n c3) (.slice a4 n c4) A):=HAZ.out.chg hbC HC.out
   have HWr:Hid (HWords C wr (.slice aw n cw) ws):=HWZ.out.chgW hbC HC.out
   have HB5r:Hid (BT wr g5 #[.slice a0 n c0,.slice a1 n c1,.slice a2 n c2,.slice a3 n c3,.slice a4 n c4] 26):=HB5Z.out.src HSZ.out (by decide) HC.out
   have y0:wr.cell? ⟨g5,0,none⟩=some (.slice a0 n c0):=HB5r.out.blk.cell (i:=0) rfl
   have y1:wr.cell? ⟨g5,1,none⟩=some (.slice a1 n c1):=HB5r.out.blk.cell (i:=1) rfl
   have y2:wr.cell? ⟨g5,2,none⟩=some (.slice a2 n c2):=HB5r.out.blk.cell (i:=2) rfl
   have y3:wr.cell? ⟨g5,3,none⟩=some (.slice a3 n c3):=HB5r.out.blk.cell (i:=3) rfl
   have y4:wr.cell? ⟨g5,4,none⟩=some (.slice a4 n c4):=HB5r.out.blk.cell (i:=4) rfl
   go_wp2_with fail
   refine(l3DrawLetter_any C D b a0 a1 a2 a3 a4 n c0 n c1 n c2 n c3 n c4 A.la y.S wr HAr.out.h1 hbC (by omega) HS.out HSK.out).mono ?_
   rintro e w8 ⟨rfl,hs8,hc8⟩
   have HO8:Hid (OwnI w6.heap.size w8 (.slice a m c1_) y.l):=row_src HO.out HS.out (by decide) hc8
   have HC8:Hid (Chg (Sx1 b) w6 w8):=HC.out.trans hc8
   have HS8:Hid (HSrc D w8 b (dlS A.la y.S)):=hs8
   have HK8:Hid (SOk (dlS A.la y.S)):=dlS_ok HSK.out
   clear hs8 hc8 HO HS HC HAr HWr HB5r
   clear y0 y1 y2 y3 y4
   generalize dlV A.la y.S=dv at *
   generalize dlS A.la y.S=S8 at *
   go_upto_if 50 with fail
   go_cut [11] from 51 to 51 (λs11 wc=>s11=.int .i64 ee/\wc=w8)
   case first=>
    cases fr with
    |true=>
     have HEe:Hid (ee=3999):=by unfold Hid;rw[HEd.out];rfl
     clear HEd
     go_wp2
     go_meet
     exact⟨by rw[HEe.out],rfl⟩
    |false=>
     have HEe:Hid (ee=dv):=by unfold Hid;rw[HEd.out];rfl
     clear HEd
     go_wp2
     go_meet
     exact⟨by rw[HEe.out],rfl⟩
   case rest=>
   obtain⟨rfl,rfl⟩:=hcut
   clear HEd
   have HAr:Hid (HA C wc (.slice a0 n c0) (.slice a1 n c1) (.slice a2 n c2) (.slice a3 n c3) (.slice a4 n c4) A):=HAZ.out.chg hbC HC8.out
   have HWr:Hid (HWords C wc (.slice aw n cw) ws):=HWZ.out.chgW hbC HC8.out
   have HB5r:Hid (BT wc g5 #[.slice a0 n c0,.slice a1 n c1,.slice a2 n c2,.slice a3 n c3,.slice a4 n c4] 26):=HB5Z.out.src HSZ.out (by decide) HC8.out
   have y0:wc.cell? ⟨g5,0,none⟩=some (.slice a0 n c0):=HB5r.out.blk.cell (i:=0) rfl
   have y1:wc.cell? ⟨g5,1,none⟩=some (.slice a1 n c1):=HB5r.out.blk.cell (i:=1) rfl
   have y2:wc.cell? ⟨g5,2,none⟩=some (.slice a2 n c2):=HB5r.out.blk.cell (i:=2) rfl
   have y3:wc.cell? ⟨g5,3,none⟩=some (.slice a3 n c3):=HB5r.out.blk.cell (i:=3) rfl
   have y4:wc.cell? ⟨g5,4,none⟩=some (.slice a4 n c4):=HB5r.out.blk.cell (i:=4) rfl
   go_wp2_with fail
   refine(l3Step_any C C (.slice a0 n c0) (.slice a1 n c1) (.slice a2 n c2) a3 a4 aw n c3 c4 cw A ws y.st ee wc HAr.out HWr.out HWS.out).mono ?_
   rintro e w9 ⟨rfl,hx9⟩
   rw[<-HXd.out]
   clear HXd
   generalize rnX fr A ws y=nx at *
   have HO9:Hid (OwnI w6.heap.size w9 (.slice a m c1_) y.l):=HO8.out.next hx9
   have HC9:Hid (Chg (Sx1 b) w6 w9):=HC8.out.trans (Chg.nx hx9)
   have HS9:Hid (HSrc D w9 b S8):=HS8.out.next hx9
   clear hx9 HO8 HC8 HS8 HAr HWr HB5r
   clear y0 y1 y2 y3 y4
   go_upto_region 17 with fail
   generalize rnB fr A ws y=bk at *
   generalize rnS fr A ws y=Sn at *
   generalize rnD fr A ws y=bd at *
   go_cut [66] from 56 to 65 (λs66 wc=>s66=.bool bk/\Hid (OwnI w6.heap.size wc (.slice a m c1_) y.l)/\Hid (HSrc D wc b Sn)/\Hid (Chg (Sx1 b) w6 wc))
   case first=>
    clear HST HOKn HQd
    by_cases hnx:nx<0
    ·have hnd:decide (nx<0)=true:=by simpa using hnx
     cases fr with
     |false=>
      have hbd:bd=true:=by rw[HDd.out,hnd];rfl
      have HSe:Hid (Sn=ns S8 8):=by unfold Hid;rw[HSd.out,hbd];rfl
      have HBe:Hid (bk=decide (0<nv S8 8)):=by unfold Hid;rw[HBd.out,hbd];rfl
      clear HSd HBd HDd hbd
      go_wp2_with fail
      refine(l1Next_any D b S8 8 w9 HS9.out HK8.out (by omega)).mono ?_
      rintro e wx ⟨rfl,hs1,hc1⟩
      have HOx:Hid (OwnI w6.heap.size wx (.slice a m c1_) y.l):=row_src HO9.out HS9.out (by decide) hc1
      have HSx:Hid (HSrc D wx b Sn):=by unfold Hid;rw[HSe.out];exact hs1
      have HCx:Hid (Chg (Sx1 b) w6 wx):=HC9.out.trans hc1
      clear hs1 hc1 HSe
      generalize nv S8 8=d8 at *
      go_wp2
      go_meet
      exact⟨by rw[HBe.out],HOx,HSx,HCx⟩
     |true=>
      have hbd:bd=false:=by rw[HDd.out,hnd];rfl
      have HSe:Hid (Sn=S8):=by unfold Hid;rw[HSd.out,hbd];rfl
      have HBe:Hid (bk=false):=by unfold Hid;rw[HBd.out,hbd];rfl
      have HSx:Hid (HSrc D w9 b Sn):=by unfold Hid;rw[HSe.out];exact HS9.out
      clear HSd HBd HDd hbd HSe
      go_wp2
      go_meet
      exact⟨by rw[HBe.out],HO9,HSx,HC9⟩
    ·have hnd:decide (nx<0)=false:=by simpa using hnx
     have hbd:bd=false:=by rw[HDd.out,hnd];rfl
     have HSe:Hid (Sn=S8):=by unfold Hid;rw[HSd.out,hbd];rfl
     have HBe:Hid (bk=false):=by unfold Hid;rw[HBd.out,hbd];rfl
     have HSx:Hid (HSrc D w9 b Sn):=by unfold Hid;rw[HSe.out];exact HS9.out
     clear HSd HBd HDd hbd HSe
     go_wp2
     go_meet
     exact⟨by rw[HBe.out],HO9,HSx,HC9⟩
   case rest=>
   clear HO9 HC9 HS9 HK8 HSd HBd HDd
   obtain⟨rfl,HO9,HS9,HC9⟩:=hcut
   have HDn:Hid (drn fr A ws y0=drn fr A ws (rnStep fr A ws y)):=by unfold Hid;rw[HD.out];exact HST.out.1
   have HMn:Hid (rnM (rnStep fr A ws y)+1=rnM y):=HST.out.2
   clear HST HD
   cases bk with
   |true=>
    have HQ:Hid (rnStep fr A ws y=⟨y.l,y.st,y.most-1,Sn⟩):=by unfold Hid;rw[HQd.out];rfl
    have HSy:Hid (HSrc D wc b (rnStep fr A ws y).S):=by unfold Hid;rw[HQ.out];exact HS9.out
    have HOy:Hid (OwnI w6.heap.size wc (.slice a m c1_) (rnStep fr A ws y).l):=by unfold Hid;rw[HQ.out];exact HO9.out
    have HLy:Hid ((rnStep fr A ws y).l.length=m):=by unfold Hid;rw[HQ.out];exact HLm.out
    have HT:Hid (y.st=(rnStep fr A ws y).st/\y.most-1=(rnStep fr A ws y).most):=by unfold Hid;rw[HQ.out];exact⟨rfl,rfl⟩
    clear HQd HQ HO9 HS9
    go_wp2
    go_roundw
    case rel=>exact⟨rnStep fr A ws y,m,c1_,a,rfl,by rw[HT.out.1],by rw[HT.out.2],HLy,HOy,HSy,HC9,HDn,HOKn⟩
    case measure=>simp[intOf,lenV];omega
   |false=>
    have HQ:Hid (rnStep fr A ws y=⟨y.l++[ee],if 0<=nx then nx else y.st,y.most,Sn⟩):=by unfold Hid;rw[HQd.out];rfl
    have hz6:w6.heap.size<=wc.heap.size:=HC9.out.size
    clear HQd
    go_wp2_with (at_builtin;refine app_int rfl _ _ rfl w6.heap.size m (.slice a m c1_) y.l ee wc rfl HO9.out rfl HLm.out (by omega) hz6 ?_)
    intro a8 c8 wx r1_ r2_ r3_
    have HOy:Hid (OwnI w6.heap.size wx (.slice a8 (m+1) c8) (rnStep fr A ws y).l):=by unfold Hid;rw[HQ.out];exact r1_
    have HSy:Hid (HSrc D wx b (rnStep fr A ws y).S):=by unfold Hid;rw[HQ.out];exact HS9.out.row HO9.out (by decide) (by decide) r2_
    have HCy:Hid (Chg (Sx1 b) w6 wx):=HC9.out.young r2_ (λx hx hl=>by have:=(own_lt HO9.out x hx.symm).1;omega)
    have HLy:Hid ((rnStep fr A ws y).l.length=m+1):=by unfold Hid;rw[HQ.out];show(y.l++[ee]).length=_;rw[List.length_append,HLm.out];rfl
    have HT:Hid ((if 0<=nx then nx else y.st)=(rnStep fr A ws y).st/\y.most=(rnStep fr A ws y).most):=by unfold Hid;rw[HQ.out];exact⟨rfl,rfl⟩
    clear HQ HO9 HS9 r1_ r2_ r3_
    by_cases hnx:0<=nx
    ·have hnd:decide (0<=nx)=true:=by simpa using hnx
     rw[if_pos hnx] at HT
     go_wp2
     go_roundw
     case rel=>exact⟨rnStep fr A ws y,m+1,c8,a8,rfl,by rw[HT.out.1],by rw[HT.out.2],HLy,HOy,HSy,HCy,HDn,HOKn⟩
     case measure=>simp[intOf,lenV];omega
    ·have hnd:decide (0<=nx)=false:=by simpa using hnx
     rw[if_neg hnx] at HT
     go_wp2
     go_roundw
     case rel=>exact⟨rnStep fr A ws y,m+1,c8,a8,rfl,by rw[HT.out.1],by rw[HT.out.2],HLy,HOy,HSy,HCy,HDn,HOKn⟩
     case measure=>simp[intOf,lenV];omega
  have HYe:Hid (ruY A S1=y):=by unfold Hid;rw[HYd.out,HD.out];exact rn_end (by rw[HLm.out];exact hlt)
  rw[HYe.out] at HRD
  have hmm:m<=10001:=by omega
  have HPd:Hid (ruP y=if nv y.S 12=0/\0<y.l.length then y.l.set (nv (ns y.S 12) y.l.length).toNat (nv (ns (ns y.S 12) y.l.length) 2*4001-1) else y.l):=rfl
  rw[HLm.out] at HPd
  have HSK:Hid (SOk y.S):=HOK.out.ok
  have hlf:¬(m:Int)<y.most:=hlt
  clear HYd HD HOK HYe
  go_wp2_with fail
  refine(l1Next_any D b y.S 12 wr HS.out HSK.out (by omega)).mono ?_
  rintro e w8 ⟨rfl,hs8,hc8⟩
  have HO8:Hid (OwnI w6.heap.size w8 (.slice a m c1_) y.l):=row_src HO.out HS.out (by decide) hc8
  have HC8:Hid (Chg (Sx1 b) w6 w8):=HC.out.trans hc8
  have HS8:Hid (HSrc D w8 b (ns y.S 12)):=hs8
  have HK8:Hid (SOk (ns y.S 12)):=ns_ok HSK.out 12
  clear hs8 hc8 HO HS HC
  generalize nv y.S 12=d12 at *
  generalize ns y.S 12=S8 at *
  by_cases hq:d12=0/\0<m
  ·rw[if_pos hq] at HPd
   have h12:(d12==0)=true:=by simp[hq.1]
   have h0m:(0:Int)<(m:Int):=by omega
   have hqm:=hq.2
   have e12:=hq.1
   subst e12
   clear hq
   go_wp2_with fail
   refine(l1Next_any D b S8 m w8 HS8.out HK8.out (by omega)).mono ?_
   rintro e w9 ⟨rfl,hs9,hc9⟩
   have HO9:Hid (OwnI w6.heap.size w9 (.slice a m c1_) y.l):=row_src HO8.out HS8.out (by decide) hc9
   have HC9:Hid (Chg (Sx1 b) w6 w9):=HC8.out.trans hc9
   have HS9:Hid (HSrc D w9 b (ns S8 m)):=hs9
   have HK9:Hid (SOk (ns S8 m)):=ns_ok HK8.out _
   have hvj:=nv_in HK8.out m
   have hvj2:=hvj.2 (by omega)
   obtain⟨j,hj0⟩:∃j:Nat,nv S8 m=j:=⟨(nv S8 m).toNat,by omega⟩
   have hj:j<m:=by omega
   have hj':(j:Int)<(m:Int):=by omega
   rw[hj0,Int.toNat_natCast] at HPd
   rw[hj0]
   clear hs9 hc9 HO8 HS8 HC8 hvj hvj2 hj0
   generalize ns S8 m=S9 at *
   go_wp2_with fail
   refine(l1Next_any D b S9 2 w9 HS9.out HK9.out (by omega)).mono ?_
   rintro e wx ⟨rfl,hs1,hc1⟩
   have HOx:Hid (OwnI w6.heap.size wx (.slice a m c1_) y.l):=row_src HO9.out HS9.out (by decide) hc1
   have HCx:Hid (Chg (Sx1 b) w6 wx):=HC9.out.trans hc1
   have hv2:=nv_in HK9.out 2
   have hv2':=hv2.2 (by omega)
   clear hs1 hc1 HO9 HS9 HC9
   generalize nv S9 2=d2 at *
   obtain⟨gq,cq,cs,eq_,hgq,-,hbq,hcq⟩:=HOx.out.open (by rw[HLm.out];omega)
   rw[HLm.out] at eq_ hcq
   simp only[Value.slice.injEq] at eq_
   obtain⟨ea,-,ec⟩:=eq_
   subst ea ec
   have cz:=hcq j hj
   have fz:=hbq.blk.frozen j
   have HOf:Hid (OwnI w6.heap.size (wx.setCell ⟨gq,j,none⟩ (.int .i64 (d2*4001-1))) (.slice (some ⟨gq,0,none⟩) m c1_) (ruP y)):=by unfold Hid;rw[HPd.out];exact HOx.out.setAt HLm.out _
   have HCf:Hid (Chg (Sx1 b) w6 (wx.setCell ⟨gq,j,none⟩ (.int .i64 (d2*4001-1)))):=HCx.out.young (Chg.set (S:=λx=>x=gq) _ _ _ rfl) (λx hx hl=>by have e':x=gq:=hx;omega)
   have HLf:Hid ((ruP y).length=m):=by unfold Hid;rw[HPd.out,List.length_set];exact HLm.out
   clear hbq hcq hgq HOx HCx HPd
   generalize iat y.l j=zz at *
   go_upto_region 24 with fail
   clear cz fz
   generalize wx.setCell ⟨gq,j,none⟩ (.int .i64 (d2*4001-1))=wy at *
   have HB2f:Hid (BT wy w.heap.size #[.slice none 0 0,.slice none 0 0,.slice none 0 0,.slice none 0 0,.slice none 0 0] 26):=HB2Z.out.src HSZ.out (by decide) HCf.out
   have HB5f:Hid (BT wy g5 #[.slice a0 n c0,.slice a1 n c1,.slice a2 n c2,.slice a3 n c3,.slice a4 n c4] 26):=HB5Z.out.src HSZ.out (by decide) HCf.out
   have HAf:Hid (HA C wy (.slice a0 n c0) (.slice a1 n c1) (.slice a2 n c2) (.slice a3 n c3) (.slice a4 n c4) A):=HAZ.out.chg hbC HCf.out
   have HXf:Hid (Below w.heap.size w wy):=(HXZ0.out.trans HCf.out).below (Nat.le_refl _) (λx hx=>by have e':x=b:=hx;omega)
   have HZ6:Hid (w.heap.size<=w6.heap.size):=HXZ0.out.size
   have y0:wy.cell? ⟨g5,0,none⟩=some (.slice a0 n c0):=HB5f.out.blk.cell (i:=0) rfl
   have y1:wy.cell? ⟨g5,1,none⟩=some (.slice a1 n c1):=HB5f.out.blk.cell (i:=1) rfl
   have y2:wy.cell? ⟨g5,2,none⟩=some (.slice a2 n c2):=HB5f.out.blk.cell (i:=2) rfl
   have y3:wy.cell? ⟨g5,3,none⟩=some (.slice a3 n c3):=HB5f.out.blk.cell (i:=3) rfl
   have y4:wy.cell? ⟨g5,4,none⟩=some (.slice a4 n c4):=HB5f.out.blk.cell (i:=4) rfl
   have BR:BT wy w.heap.size #[.slice none 0 0,.slice none 0 0,.slice none 0 0,.slice none 0 0,.slice none 0 0] 26:=HB2f.out
   have x0:wy.cell? ⟨w.heap.size,0,none⟩=some (.slice none 0 0):=BR.blk.cell (i:=0) rfl
   have fz0:=BR.blk.frozen 0
   have x1:wy.cell? ⟨w.heap.size,1,none⟩=some (.slice none 0 0):=BR.blk.cell (i:=1) rfl
   have fz1:=BR.blk.frozen 1
   have x2:wy.cell? ⟨w.heap.size,2,none⟩=some (.slice none 0 0):=BR.blk.cell (i:=2) rfl
   have fz2:=BR.blk.frozen 2
   have x3:wy.cell? ⟨w.heap.size,3,none⟩=some (.slice none 0 0):=BR.blk.cell (i:=3) rfl
   have fz3:=BR.blk.frozen 3
   have x4:wy.cell? ⟨w.heap.size,4,none⟩=some (.slice none 0 0):=BR.blk.cell (i:=4) rfl
   have fz4:=BR.blk.frozen 4
   have BS:=set5 (a0:=.slice a0 n c0) (a1:=.slice a1 n c1) (a2:=.slice a2 n c2) (a3:=.slice a3 n c3) (a4:=.slice a4 n c4) BR
   have P0:Hid (_=some (Value.slice a0 n c0)):=BS.blk.cell (i:=0) rfl
   have P1:Hid (_=some (Value.slice a1 n c1)):=BS.blk.cell (i:=1) rfl
   have P2:Hid (_=some (Value.slice a2 n c2)):=BS.blk.cell (i:=2) rfl
   have P3:Hid (_=some (Value.slice a3 n c3)):=BS.blk.cell (i:=3) rfl
   have P4:Hid (_=some (Value.slice a4 n c4)):=BS.blk.cell (i:=4) rfl
   have HCF:Hid (Chg (λx=>x=w.heap.size) wy (((((wy.setCell ⟨w.heap.size,0,none⟩ (.slice a0 n c0)).setCell ⟨w.heap.size,1,none⟩ (.slice a1 n c1)).setCell ⟨w.heap.size,2,none⟩ (.slice a2 n c2)).setCell ⟨w.heap.size,3,none⟩ (.slice a3 n c3)).setCell ⟨w.heap.size,4,none⟩ (.slice a4 n c4))):=chg5
   clear BS BR
   go_wp2
   generalize hWF:(((((wy.setCell ⟨w.heap.size,0,none⟩ (.slice a0 n c0)).setCell ⟨w.heap.size,1,none⟩ (.slice a1 n c1)).setCell ⟨w.heap.size,2,none⟩ (.slice a2 n c2)).setCell ⟨w.heap.size,3,none⟩ (.slice a3 n c3)).setCell ⟨w.heap.size,4,none⟩ (.slice a4 n c4))=wF at P0 P1 P2 P3 P4 HCF ⊢
   have p0_:=P0.out
   have p1_:=P1.out
   have p2_:=P2.out
   have p3_:=P3.out
   have p4_:=P4.out
   refine bodyPost_ret (v:=.tuple #[.agg #[.slice a0 n c0,.slice a1 n c1,.slice a2 n c2,.slice a3 n c3,.slice a4 n c4],.slice (some ⟨gq,0,none⟩) m c1_]) (by simp[results,Try.results4,go_sem,p0_,p1_,p2_,p3_,p4_]) rfl ?_
   have HW1:Hid (Below w.heap.size w wF):=HXf.out.trans (HCF.out.below HXf.out.size (λx hx=>by have e':x=w.heap.size:=hx;omega))
   have hA:=HAf.out.box HB2f.out HCF.out hgC
   have hI:=HOf.out.boxI HB2f.out HCF.out
   rw[HRD.out]
   exact⟨⟨_,_,_,_,_,_,rfl,hA.base (by omega),hI.held.base HZ6.out,HSM.out,by show(ruP y).length<=10001;rw[HLf.out];omega⟩,HW1.out⟩
  ·rw[if_neg hq] at HPd
   have HOf:Hid (OwnI w6.heap.size w8 (.slice a m c1_) (ruP y)):=by unfold Hid;rw[HPd.out];exact HO8.out
   have HCf:Hid (Chg (Sx1 b) w6 w8):=HC8.out
   have HLf:Hid ((ruP y).length=m):=by unfold Hid;rw[HPd.out];exact HLm.out
   clear HPd HO8 HC8
   by_cases h12:d12=0
   ·have h12b:(d12==0)=true:=by simp[h12]
    have hm0:m=0:=by omega
    subst hm0
    subst h12
    go_upto_region 24 with fail
    have HB2f:Hid (BT w8 w.heap.size #[.slice none 0 0,.slice none 0 0,.slice none 0 0,.slice none 0 0,.slice none 0 0] 26):=HB2Z.out.src HSZ.out (by decide) HCf.out
    have HB5f:Hid (BT w8 g5 #[.slice a0 n c0,.slice a1 n c1,.slice a2 n c2,.slice a3 n c3,.slice a4 n c4] 26):=HB5Z.out.src HSZ.out (by decide) HCf.out
    have HAf:Hid (HA C w8 (.slice a0 n c0) (.slice a1 n c1) (.slice a2 n c2) (.slice a3 n c3) (.slice a4 n c4) A):=HAZ.out.chg hbC HCf.out
    have HXf:Hid (Below w.heap.size w w8):=(HXZ0.out.trans HCf.out).below (Nat.le_refl _) (λx hx=>by have e':x=b:=hx;omega)
    have HZ6:Hid (w.heap.size<=w6.heap.size):=HXZ0.out.size
    have y0:w8.cell? ⟨g5,0,none⟩=some (.slice a0 n c0):=HB5f.out.blk.cell (i:=0) rfl
    have y1:w8.cell? ⟨g5,1,none⟩=some (.slice a1 n c1):=HB5f.out.blk.cell (i:=1) rfl
    have y2:w8.cell? ⟨g5,2,none⟩=some (.slice a2 n c2):=HB5f.out.blk.cell (i:=2) rfl
    have y3:w8.cell? ⟨g5,3,none⟩=some (.slice a3 n c3):=HB5f.out.blk.cell (i:=3) rfl
    have y4:w8.cell? ⟨g5,4,none⟩=some (.slice a4 n c4):=HB5f.out.blk.cell (i:=4) rfl
    have BR:BT w8 w.heap.size #[.slice none 0 0,.slice none 0 0,.slice none 0 0,.slice none 0 0,.slice none 0 0] 26:=HB2f.out
    have x0:w8.cell? ⟨w.heap.size,0,none⟩=some (.slice none 0 0):=BR.blk.cell (i:=0) rfl
    have fz0:=BR.blk.frozen 0
    have x1:w8.cell? ⟨w.heap.size,1,none⟩=some (.slice none 0 0):=BR.blk.cell (i:=1) rfl
    have fz1:=BR.blk.frozen 1
    have x2:w8.cell? ⟨w.heap.size,2,none⟩=some (.slice none 0 0):=BR.blk.cell (i:=2) rfl
    have fz2:=BR.blk.frozen 2
    have x3:w8.cell? ⟨w.heap.size,3,none⟩=some (.slice none 0 0):=BR.blk.cell (i:=3) rfl
    have fz3:=BR.blk.frozen 3
    have x4:w8.cell? ⟨w.heap.size,4,none⟩=some (.slice none 0 0):=BR.blk.cell (i:=4) rfl
    have fz4:=BR.blk.frozen 4
    have BS:=set5 (a0:=.slice a0 n c0) (a1:=.slice a1 n c1) (a2:=.slice a2 n c2) (a3:=.slice a3 n c3) (a4:=.slice a4 n c4) BR
    have P0:Hid (_=some (Value.slice a0 n c0)):=BS.blk.cell (i:=0) rfl
    have P1:Hid (_=some (Value.slice a1 n c1)):=BS.blk.cell (i:=1) rfl
    have P2:Hid (_=some (Value.slice a2 n c2)):=BS.blk.cell (i:=2) rfl
    have P3:Hid (_=some (Value.slice a3 n c3)):=BS.blk.cell (i:=3) rfl
    have P4:Hid (_=some (Value.slice a4 n c4)):=BS.blk.cell (i:=4) rfl
    have HCF:Hid (Chg (λx=>x=w.heap.size) w8 (((((w8.setCell ⟨w.heap.size,0,none⟩ (.slice a0 n c0)).setCell ⟨w.heap.size,1,none⟩ (.slice a1 n c1)).setCell ⟨w.heap.size,2,none⟩ (.slice a2 n c2)).setCell ⟨w.heap.size,3,none⟩ (.slice a3 n c3)).setCell ⟨w.heap.size,4,none⟩ (.slice a4 n c4))):=chg5
    clear BS BR
    go_wp2
    generalize hWF:(((((w8.setCell ⟨w.heap.size,0,none⟩ (.slice a0 n c0)).setCell ⟨w.heap.size,1,none⟩ (.slice a1 n c1)).setCell ⟨w.heap.size,2,none⟩ (.slice a2 n c2)).setCell ⟨w.heap.size,3,none⟩ (.slice a3 n c3)).setCell ⟨w.heap.size,4,none⟩ (.slice a4 n c4))=wF at P0 P1 P2 P3 P4 HCF ⊢
    have p0_:=P0.out
    have p1_:=P1.out
    have p2_:=P2.out
    have p3_:=P3.out
    have p4_:=P4.out
    refine bodyPost_ret (v:=.tuple #[.agg #[.slice a0 n c0,.slice a1 n c1,.slice a2 n c2,.slice a3 n c3,.slice a4 n c4],.slice a 0 c1_]) (by simp[results,Try.results4,go_sem,p0_,p1_,p2_,p3_,p4_]) rfl ?_
    have HW1:Hid (Below w.heap.size w wF):=HXf.out.trans (HCF.out.below HXf.out.size (λx hx=>by have e':x=w.heap.size:=hx;omega))
    have hA:=HAf.out.box HB2f.out HCF.out hgC
    have hI:=HOf.out.boxI HB2f.out HCF.out
    rw[HRD.out]
    exact⟨⟨_,_,_,_,_,_,rfl,hA.base (by omega),hI.held.base HZ6.out,HSM.out,by show(ruP y).length<=10001;rw[HLf.out];omega⟩,HW1.out⟩
   ·have h12b:(d12==0)=false:=by simp[h12]
    clear hq h12
    go_upto_region 24 with fail
    have HB2f:Hid (BT w8 w.heap.size #[.slice none 0 0,.slice none 0 0,.slice none 0 0,.slice none 0 0,.slice none 0 0] 26):=HB2Z.out.src HSZ.out (by decide) HCf.out
    have HB5f:Hid (BT w8 g5 #[.slice a0 n c0,.slice a1 n c1,.slice a2 n c2,.slice a3 n c3,.slice a4 n c4] 26):=HB5Z.out.src HSZ.out (by decide) HCf.out
    have HAf:Hid (HA C w8 (.slice a0 n c0) (.slice a1 n c1) (.slice a2 n c2) (.slice a3 n c3) (.slice a4 n c4) A):=HAZ.out.chg hbC HCf.out
    have HXf:Hid (Below w.heap.size w w8):=(HXZ0.out.trans HCf.out).below (Nat.le_refl _) (λx hx=>by have e':x=b:=hx;omega)
    have HZ6:Hid (w.heap.size<=w6.heap.size):=HXZ0.out.size
    have y0:w8.cell? ⟨g5,0,none⟩=some (.slice a0 n c0):=HB5f.out.blk.cell (i:=0) rfl
    have y1:w8.cell? ⟨g5,1,none⟩=some (.slice a1 n c1):=HB5f.out.blk.cell (i:=1) rfl
    have y2:w8.cell? ⟨g5,2,none⟩=some (.slice a2 n c2):=HB5f.out.blk.cell (i:=2) rfl
    have y3:w8.cell? ⟨g5,3,none⟩=some (.slice a3 n c3):=HB5f.out.blk.cell (i:=3) rfl
    have y4:w8.cell? ⟨g5,4,none⟩=some (.slice a4 n c4):=HB5f.out.blk.cell (i:=4) rfl
    have BR:BT w8 w.heap.size #[.slice none 0 0,.slice none 0 0,.slice none 0 0,.slice none 0 0,.slice none 0 0] 26:=HB2f.out
    have x0:w8.cell? ⟨w.heap.size,0,none⟩=some (.slice none 0 0):=BR.blk.cell (i:=0) rfl
    have fz0:=BR.blk.frozen 0
    have x1:w8.cell? ⟨w.heap.size,1,none⟩=some (.slice none 0 0):=BR.blk.cell (i:=1) rfl
    have fz1:=BR.blk.frozen 1
    have x2:w8.cell? ⟨w.heap.size,2,none⟩=some (.slice none 0 0):=BR.blk.cell (i:=2) rfl
    have fz2:=BR.blk.frozen 2
    have x3:w8.cell? ⟨w.heap.size,3,none⟩=some (.slice none 0 0):=BR.blk.cell (i:=3) rfl
    have fz3:=BR.blk.frozen 3
    have x4:w8.cell? ⟨w.heap.size,4,none⟩=some (.slice none 0 0):=BR.blk.cell (i:=4) rfl
    have fz4:=BR.blk.frozen 4
    have BS:=set5 (a0:=.slice a0 n c0) (a1:=.slice a1 n c1) (a2:=.slice a2 n c2) (a3:=.slice a3 n c3) (a4:=.slice a4 n c4) BR
    have P0:Hid (_=some (Value.slice a0 n c0)):=BS.blk.cell (i:=0) rfl
    have P1:Hid (_=some (Value.slice a1 n c1)):=BS.blk.cell (i:=1) rfl
    have P2:Hid (_=some (Value.slice a2 n c2)):=BS.blk.cell (i:=2) rfl
    have P3:Hid (_=some (Value.slice a3 n c3)):=BS.blk.cell (i:=3) rfl
    have P4:Hid (_=some (Value.slice a4 n c4)):=BS.blk.cell (i:=4) rfl
    have HCF:Hid (Chg (λx=>x=w.heap.size) w8 (((((w8.setCell ⟨w.heap.size,0,none⟩ (.slice a0 n c0)).setCell ⟨w.heap.size,1,none⟩ (.slice a1 n c1)).setCell ⟨w.heap.size,2,none⟩ (.slice a2 n c2)).setCell ⟨w.heap.size,3,none⟩ (.slice a3 n c3)).setCell ⟨w.heap.size,4,none⟩ (.slice a4 n c4))):=chg5
    clear BS BR
    go_wp2
    generalize hWF:(((((w8.setCell ⟨w.heap.size,0,none⟩ (.slice a0 n c0)).setCell ⟨w.heap.size,1,none⟩ (.slice a1 n c1)).setCell ⟨w.heap.size,2,none⟩ (.slice a2 n c2)).setCell ⟨w.heap.size,3,none⟩ (.slice a3 n c3)).setCell ⟨w.heap.size,4,none⟩ (.slice a4 n c4))=wF at P0 P1 P2 P3 P4 HCF ⊢
    have p0_:=P0.out
    have p1_:=P1.out
    have p2_:=P2.out
    have p3_:=P3.out
    have p4_:=P4.out
    refine bodyPost_ret (v:=.tuple #[.agg #[.slice a0 n c0,.slice a1 n c1,.slice a2 n c2,.slice a3 n c3,.slice a4 n c4],.slice a m c1_]) (by simp[results,Try.results4,go_sem,p0_,p1_,p2_,p3_,p4_]) rfl ?_
    have HW1:Hid (Below w.heap.size w wF):=HXf.out.trans (HCF.out.below HXf.out.size (λx hx=>by have e':x=w.heap.size:=hx;omega))
    have hA:=HAf.out.box HB2f.out HCF.out hgC
    have hI:=HOf.out.boxI HB2f.out HCF.out
    rw[HRD.out]
    exact⟨⟨_,_,_,_,_,_,rfl,hA.base (by omega),hI.held.base HZ6.out,HSM.out,by show(ruP y).length<=10001;rw[HLf.out];omega⟩,HW1.out⟩
end Go.Proofs.Ytdpfdkihbgmapaa
