import Derived.Test.YtdpfdkihbgmapaaGreatDS
import Derived.Test.YtdpfdkihbgmapaaGreatVA
import Derived.Test.YtdpfdkihbgmapaaGreatXAC
namespace Go.Proofs.YtdpfdkihbgmapaaGreat
open Go.RowKit Go.Sort
set_option linter.unusedVariables false
set_option maxRecDepth 1000000
set_option maxHeartbeats 16000000
def rlQ1 (c:Int)(S:Src):List Int×Src:=sqTo c (ns S (2+S.size/2)) (2+nv S (2+S.size/2)).toNat
def rlB (i:Nat)(x:List Int×Src):Bool:=decide (0<i)&&decide (nv x.2 3=0)
def rlC (i:Nat)(x:List Int×Src):Src:=if 0<i then ns x.2 3 else x.2
def rlP (i:Nat)(rules:List Ru)(S:Src):List Int:=(ruat rules (nv S i).toNat).seq
def rlJ (i:Nat)(rules:List Ru)(x:List Int×Src):List Int×Src:=
 if rlB i x=true then ((rlP i rules (rlC i x)).drop (nv (ns (rlC i x) i) (rlP i rules (rlC i x)).length).toNat++x.1,ns (ns (rlC i x) i) (rlP i rules (rlC i x)).length)
 else (x.1,rlC i x)
def rlE (x:List Int×Src):List Int×Src:=if nv x.2 12=0 then (x.1.set (nv (ns x.2 12) x.1.length).toNat 3999,ns (ns x.2 12) x.1.length) else (x.1,ns x.2 12)
structure RlSt where
 rules:List Ru
 S:Src
def rlX (c:Int)(i:Nat)(y:RlSt):List Int×Src:=rlE (rlJ i y.rules (rlQ1 c y.S))
def rlStep (c:Int)(i:Nat)(y:RlSt):RlSt:=⟨y.rules++[⟨(i:Int),nv (rlX c i y).2 3==0,(rlX c i y).1⟩],ns (rlX c i y).2 3⟩
def rlTo (c:Int)(y:RlSt):Nat->RlSt
 |0=>y
 |k+1=>rlStep c k (rlTo c y k)
def rlL (S:Src):Int:=1+nv (ns S 4) 3
def rlS3 (S:Src):Src:=ns (ns S 4) 3
def rlN (S:Src):Int:=1+nv (rlS3 S) (3+(rlS3 S).size)
def rlZ (S:Src):RlSt:=rlTo (rlL S) ⟨[],ns (rlS3 S) (3+(rlS3 S).size)⟩ (rlN S).toNat
def drRu (S:Src):List Ru:=if nv S 4=0 then (resOf (riNet (ns S 4))).rules else (rlZ S).rules
def drSr (S:Src):Src:=if nv S 4=0 then riS (ns S 4) else (rlZ S).S
structure QOk (m:Nat)(x:List Int×Src):Prop where
 ok:SOk x.2
 two:2<=x.1.length
 len:x.1.length<=m
 inn:∀y∈x.1,0<=y/\y<4000
theorem rlQ1_ok {c:Int}{S:Src}(h:SOk S)(h1:1<=c)(h2:c<=3):QOk 7 (rlQ1 c S)/\(2+nv S (2+S.size/2)).toNat=(rlQ1 c S).1.length:=by
 have hv:=nv_in h (2+S.size/2)
 have hz:=h.size
 have hl:=sqTo_len c (ns S (2+S.size/2)) (2+nv S (2+S.size/2)).toNat
 have:=hv.2 (by omega)
 refine⟨⟨sqTo_ok (ns_ok h _) _,?_,?_,λy hy=>?_⟩,hl.symm⟩
 ·show 2<=(sqTo _ _ _).1.length
  rw[hl];omega
 ·show(sqTo _ _ _).1.length<=7
  rw[hl];omega
 ·have:=sqTo_in (c:=c) (ns_ok h _) h1 _ y hy
  omega
theorem rlC_ok {i:Nat}{x:List Int×Src}(h:SOk x.2):SOk (rlC i x):=by unfold rlC;split<;>first|exact ns_ok h _|exact h
theorem rlJ_ok {i m:Nat}{rules:List Ru}{x:List Int×Src}(h:QOk 7 x)(hr:RGd i m rules)(hl:rules.length=i):QOk (m+7) (rlJ i rules x):=by
 have hc:=rlC_ok (i:=i) h.ok
 unfold rlJ
 by_cases hb:rlB i x=true
 ·rw[if_pos hb]
  have hi:0<i:=by
   unfold rlB at hb
   simp at hb
   exact hb.1
  have hv:=nv_in hc i
  have hlt:(nv (rlC i x) i).toNat<rules.length:=by have:=hv.2 (by omega);omega
  have hm:ruat rules (nv (rlC i x) i).toNat∈rules:=by rw[ruat_eq hlt];exact List.getElem_mem hlt
  have he:=hr.each _ hm
  have hp:(rlP i rules (rlC i x)).length<=m:=he.2.1
  have hin:∀y∈rlP i rules (rlC i x),0<=y/\y<4000:=he.2.2
  refine⟨ns_ok (ns_ok hc _) _,?_,?_,λy hy=>?_⟩
  ·show 2<=(_++x.1).length
   rw[List.length_append]
   have:=h.two
   omega
  ·show(_++x.1).length<=_
   rw[List.length_append,List.length_drop]
   have:=h.len
   omega
  ·rcases List.mem_append.1 hy with g|g
   ·exact hin y (List.mem_of_mem_drop g)
   ·exact h.inn y g
 ·rw[if_neg hb]
  exact⟨hc,h.two,by have:=h.len;show x.1.length<=_;omega,h.inn⟩
theorem rlE_ok {m:Nat}{x:List Int×Src}(h:QOk m x):QOk m (rlE x):=by
 unfold rlE
 split
 ·refine⟨ns_ok (ns_ok h.ok _) _,by show 2<=(x.1.set _ _).length;rw[List.length_set];exact h.two,by show(x.1.set _ _).length<=_;rw[List.length_set];exact h.len,λy hy=>?_⟩
  rcases List.mem_or_eq_of_mem_set hy with g|g
  ·exact h.inn y g
  ·rw[g];omega
 ·exact⟨ns_ok h.ok 12,h.two,h.len,h.inn⟩
structure RlOk (k:Nat)(y:RlSt):Prop where
 ok:SOk y.S
 len:y.rules.length=k
 good:RGd k (7*k) y.rules
theorem rlTo_ok {c:Int}{y:RlSt}(h1:1<=c)(h2:c<=3)(h:RlOk 0 y):∀k,RlOk k (rlTo c y k)
 |0=>h
 |k+1=>by
  have ih:=rlTo_ok h1 h2 h k
  have hq:QOk (7*k+7) (rlX c k (rlTo c y k)):=rlE_ok (rlJ_ok (rlQ1_ok ih.ok h1 h2).1 ih.good ih.len)
  refine⟨ns_ok hq.ok 3,by show(_++[_]).length=_;rw[List.length_append,ih.len];rfl,?_⟩
  exact(ih.good.up (Nat.le_refl _) (by omega)).snoc hq.two (by have:=hq.len;show(rlX c k (rlTo c y k)).1.length<=_;omega) hq.inn
theorem rlN_in {S:Src}(h:SOk S):1<=rlN S/\rlN S<=11:=by
 have h3:SOk (rlS3 S):=ns_ok (ns_ok h _) _
 have hv:=nv_in h3 (3+(rlS3 S).size)
 have hz:=h3.size
 have:=hv.2 (by omega)
 unfold rlN
 omega
theorem rlL_in {S:Src}(h:SOk S):1<=rlL S/\rlL S<=3:=by
 have hv:=nv_in (ns_ok h 4) 3
 have:=hv.2 (by omega)
 unfold rlL
 omega
theorem rl0_ok {S:Src}(h:SOk S):RlOk 0 ⟨[],ns (rlS3 S) (3+(rlS3 S).size)⟩:=⟨ns_ok (ns_ok (ns_ok h _) _) _,rfl,RGd.nil _ _⟩
theorem dr_ok {S:Src}(h:SOk S):SOk (drSr S)/\RGd 11 77 (drRu S):=by
 unfold drSr drRu
 by_cases e:nv S 4=0
 ·rw[if_pos e,if_pos e]
  exact⟨(ri_few (ns_ok h 4)).1,(res_good (ns_ok h 4)).up (by omega) (by omega)⟩
 ·rw[if_neg e,if_neg e]
  have hk:=rlTo_ok (rlL_in h).1 (rlL_in h).2 (rl0_ok h) (rlN S).toNat
  have:=rlN_in h
  exact⟨hk.ok,hk.good.up (by omega) (by omega)⟩
theorem OwnR.src {C E D b:Nat}{w w':World}{v:Value}{xs:List Ru}{S:Src}(h:OwnR C E w v xs)(hS:HSrc D w b S)(hc:Chg (Sx1 b) w w'):OwnR C E w' v xs:=by
 obtain⟨vs,h0,h1,h2⟩:=h
 exact⟨vs,h0,row_src h1 hS (by decide) hc,λi hi=>row_src (h2 i hi) hS (by decide) hc⟩
def OwnRZ (B Z:Nat)(w:World)(v:Value)(xs:List Ru):Prop:=∃vs:List Value,LnA vs xs.length/\w.ownsRow B 36 3 v xs.length (rcells xs vs)/\∀i,i<xs.length->OwnI B w (vat vs i) (ruat xs i).seq/\∀g,(vat vs i).ownBlock=some g->g<Z
theorem OwnRZ.r {B Z:Nat}{w:World}{v:Value}{xs:List Ru}(h:OwnRZ B Z w v xs):OwnR B B w v xs:=by
 obtain⟨vs,h0,h1,h2⟩:=h
 exact⟨vs,h0,h1,λi hi=>(h2 i hi).1⟩
theorem OwnR.z {B Z:Nat}{w:World}{v:Value}{xs:List Ru}(h:OwnR B B w v xs)(hz:w.heap.size<=Z):OwnRZ B Z w v xs:=by
 obtain⟨vs,h0,h1,h2⟩:=h
 exact⟨vs,h0,h1,λi hi=>⟨h2 i hi,λg hg=>by have:=(own_lt (h2 i hi) g hg).2;omega⟩⟩
theorem OwnRZ.b {B Z:Nat}{w:World}{v:Value}{xs:List Ru}(h:OwnRZ B Z w v xs):OwnRb B B Z w v xs:=by
 obtain⟨vs,h0,h1,h2⟩:=h
 exact⟨vs,⟨h0,λi g hi hg=>(h2 i hi).2 g hg⟩,h1,λi hi=>(h2 i hi).1⟩
structure RLs (B D b Z:Nat)(w0 w:World)(S:Src)(v:Value)(rk:List Ru)(q:Value)(l:List Int):Prop where
 rules:OwnRZ B Z w v rk
 src:HSrc D w b S
 chg:Chg (Sx1 b) w0 w
 row:OwnI Z w q l
 hz:Z<=w.heap.size
 hB:B<=Z
 h0:w0.heap.size<=Z
section
variable {B D b Z:Nat}{w0 w w':World}{S S':Src}{v q:Value}{rk:List Ru}{l:List Int}
theorem RLs.drawn (h:RLs B D b Z w0 w S v rk q l)(hs:HSrc D w' b S')(hc:Chg (Sx1 b) w w'):RLs B D b Z w0 w' S' v rk q l:=by
 obtain⟨vs,e0,e1,e2⟩:=h.rules
 exact⟨⟨vs,e0,row_src e1 h.src (by decide) hc,λi hi=>⟨row_src (e2 i hi).1 h.src (by decide) hc,(e2 i hi).2⟩⟩,hs,h.chg.trans hc,row_src h.row h.src (by decide) hc,Nat.le_trans h.hz hc.size,h.hB,h.h0⟩
theorem RLs.next {q':Value}{l':List Int}(h:RLs B D b Z w0 w S v rk q l)(k:Nx w w')(hr:OwnI Z w' q' l'):RLs B D b Z w0 w' S v rk q' l':=by
 obtain⟨vs,e0,e1,e2⟩:=h.rules
 exact⟨⟨vs,e0,row_next e1 k,λi hi=>⟨(e2 i hi).1.next k,(e2 i hi).2⟩⟩,h.src.next k,h.chg.trans (Chg.nx k),hr,Nat.le_trans h.hz k.size,h.hB,h.h0⟩
theorem RLs.write {g n c:Nat}{cs:Array Value}(h:RLs B D b Z w0 w S v rk (.slice (some ⟨g,0,none⟩) n c) l)(hn:l.length=n)(hb:BT w g cs 2)(hg:Z<=g)(i:Nat)(z:Int):RLs B D b Z w0 (w.setCell ⟨g,i,none⟩ (.int .i64 z)) S v rk (.slice (some ⟨g,0,none⟩) n c) (l.set i z):=by
 have hc:Chg (λx=>x=g) w (w.setCell ⟨g,i,none⟩ (.int .i64 z)):=Chg.set _ _ _ rfl
 obtain⟨vs,e0,e1,e2⟩:=h.rules
 refine⟨⟨vs,e0,row_setBT e1 hb (by decide) _ _,λj hj=>⟨row_chg (e2 j hj).1 hc (λx hx e=>?_),(e2 j hj).2⟩⟩,h.src.set hb (by decide) (by decide) i _,h.chg.young hc (λx hx hl=>?_),h.row.setAt hn z,Nat.le_trans h.hz hc.size,h.hB,h.h0⟩
 ·have e':x=g:=e
  have:=(e2 j hj).2 x hx
  omega
 ·have e':x=g:=hx
  have:=h.h0
  omega
end
theorem OwnR.slc {C E:Nat}{w:World}{v:Value}{xs:List Ru}(h:OwnR C E w v xs):∃a m c,v=.slice a m c:=by
 obtain⟨vs,h0,h1,h2⟩:=h
 obtain⟨a,c,e⟩:=row_slice h1
 exact⟨a,_,c,e⟩
theorem OwnD.slc {C:Nat}{w:World}{v:Value}{xs:List Dp}(h:OwnD C w v xs):∃a m c,v=.slice a m c:=by
 obtain⟨a,c,e⟩:=row_slice h
 exact⟨a,_,c,e⟩
theorem field_res (a d:Option Addr)(b c e f:Nat)(w:World):(Instr.field 80 (.agg #[.slice a b c,.slice d e f]) 0).run Tryz.prog w=.ok (.slice a b c) w:=by kernel_rfl
attribute [local go_sem] field_res
theorem l3DrawRules_any (D b:Nat)(S:Src)(w:World)(hS:HSrc D w b S)(hok:SOk S) :
  Calls Tryz.prog 29 #[.pointer (some ⟨b,0,none⟩)] w λe w'=>(∃v,e=.returned v/\OwnR w.heap.size w.heap.size w' v (drRu S))/\HSrc D w' b (drSr S)/\Chg (Sx1 b) w w':=by
 have HS0:Hid (HSrc D w b S):=hS
 have HOK:Hid (SOk S):=hok
 have HOK1:Hid (SOk (ns S 4)):=ns_ok hok 4
 have hv0:=nv_in hok 4
 clear hS hok
 go_enter Tryz.func29,Tryz.ntmps29
 go_wp2_with fail
 refine(l1Next_any D b S 4 w HS0.out HOK.out (by omega)).mono ?_
 rintro e w1 ⟨rfl,hs1,hc1⟩
 have HS1:Hid (HSrc D w1 b (ns S 4)):=hs1
 have HC1:Hid (Chg (Sx1 b) w w1):=hc1
 clear hs1 hc1 HS0
 have HRu:Hid (drRu S=if nv S 4=0 then (resOf (riNet (ns S 4))).rules else (rlZ S).rules):=rfl
 have HSr:Hid (drSr S=if nv S 4=0 then riS (ns S 4) else (rlZ S).S):=rfl
 generalize hd0:nv S 4=d0 at *
 have HD0:Hid (nv S 4=d0):=hd0
 clear hd0
 by_cases e0:d0=0
 ·subst e0
  rw[if_pos rfl] at HRu HSr
  go_wp2_with fail
  refine(l2DrawRich_any D b (ns S 4) w1 HS1.out HOK1.out).mono ?_
  rintro e w2 ⟨v0,v1,v2,v3,vn,vw,vr,rfl,hN,hs2,hc2⟩
  have HF:=mkHid' (ri_few HOK1.out)
  have HN:Hid (HNet (w1.heap.size+1) w2 v0 v1 v2 v3 (riNet (ns S 4))):=hN.held
  have HW:Hid (wsum (riNet (ns S 4)).ways (riNet (ns S 4)).ways.length<=1048576):=by
   have h1:=wsum_3 (riNet (ns S 4)).ways (riNet (ns S 4)).ways.length HF.out.2.2.1
   have h2:=HF.out.2.1
   show _<=1048576
   omega
  have HS2:Hid (HSrc D w2 b (riS (ns S 4))):=hs2
  have HC2:Hid (Chg (Sx1 b) w w2):=HC1.out.trans hc2
  clear hN hs2 hc2 HS1 HC1
  go_wp2_with fail
  refine(specResolve_any (w1.heap.size+1) v0 v1 v2 v3 (riNet (ns S 4)) w2 HN.out HW.out).mono ?_
  rintro e w3 ⟨⟨x0,x1,rfl,hr,hd⟩,hx3⟩
  have HR3:Hid (OwnR w.heap.size w.heap.size w3 x0 (drRu S)):=by
   unfold Hid
   rw[HRu.out]
   exact hr.base HC2.out.size HC2.out.size
  have HS3:Hid (HSrc D w3 b (drSr S)):=by unfold Hid;rw[HSr.out];exact HS2.out.next hx3
  have HC3:Hid (Chg (Sx1 b) w w3):=HC2.out.trans (Chg.nx hx3)
  obtain⟨a0,m0,c0,rfl⟩:=HR3.out.slc
  obtain⟨a1,m1,c1,rfl⟩:=hd.slc
  clear hr hd hx3 HN HW HS2 HC2 HF
  go_wp2
  go_ret
  exact⟨⟨_,rfl,HR3.out⟩,HS3.out,HC3.out⟩
 have e0':(d0==0)=false:=by simpa using e0
 rw[if_neg e0] at HRu HSr
 have HL:=mkHid' (rlL_in HOK.out)
 have HNN:=mkHid' (rlN_in HOK.out)
 have HLd:Hid (rlL S=1+nv (ns S 4) 3):=rfl
 have HNd:Hid (rlN S=1+nv (ns (ns S 4) 3) (3+(ns (ns S 4) 3).size)):=rfl
 have HZ0:=mkHid' (rl0_ok HOK.out)
 have HZd:Hid (rlZ S=rlTo (rlL S) ⟨[],ns (rlS3 S) (3+(rlS3 S).size)⟩ (rlN S).toNat):=rfl
 have HOK3:Hid (SOk (rlS3 S)):=ns_ok HOK1.out 3
 have HS3d:Hid (rlS3 S=ns (ns S 4) 3):=rfl
 go_wp2_with fail
 refine(l1Next_any D b (ns S 4) 3 _ (HS1.out.next (box1 _ _)) HOK1.out (by omega)).mono ?_
 rintro e w2 ⟨rfl,hs2,hc2⟩
 have HR2:Hid (OwnR w1.heap.size w1.heap.size w2 (.slice (some ⟨w1.heap.size,0,none⟩) 0 0) []):=(ownR_none w1).src (HS1.out.next (box1 _ _)) hc2
 have HS2:Hid (HSrc D w2 b (rlS3 S)):=hs2
 have HC2:Hid (Chg (Sx1 b) w w2):=(HC1.out.trans (Chg.nx (box1 _ _))).trans hc2
 have hz1:w.heap.size<=w1.heap.size:=HC1.out.size
 have hlc:1+nv (ns S 4) 3=rlL S:=rfl
 have hl3:=HL.out
 rw[<-HS3d.out] at HNd
 generalize hL:rlL S=L at *
 have hv3:=nv_in HOK1.out 3
 generalize nv (ns S 4) 3=d3 at *
 clear hs2 hc2 HS1 HC1 hL
 have cS:=HS2.out.size
 have hsz:=HOK3.out.size
 generalize rlS3 S=S3 at *
 generalize hsz3:S3.size=z3 at *
 clear HLd HS3d hsz3
 go_wp2_with fail
 refine(l1Next_any D b S3 (3+z3) w2 HS2.out HOK3.out (by omega)).mono ?_
 rintro e w3 ⟨rfl,hs3,hc3⟩
 have HR3:Hid (OwnR w1.heap.size w1.heap.size w3 (.slice (some ⟨w1.heap.size,0,none⟩) 0 0) []):=HR2.out.src HS2.out hc3
 have HS3:Hid (HSrc D w3 b (ns S3 (3+z3))):=hs3
 have HC3:Hid (Chg (Sx1 b) w w3):=HC2.out.trans hc3
 have hn3:=HNN.out
 obtain⟨cn,hcn⟩:∃cn:Nat,rlN S=cn:=⟨(rlN S).toNat,by omega⟩
 rw[hcn,Int.toNat_natCast] at HZd
 have hcd:1+nv S3 (3+z3)=(cn:Int):=by rw[<-HNd.out];exact hcn
 have hcn2:cn<=11:=by omega
 have hvd:=nv_in HOK3.out (3+z3)
 generalize nv S3 (3+z3)=d4 at *
 generalize hy0:(⟨[],ns S3 (3+z3)⟩:RlSt)=y0 at *
 have HR3:Hid (OwnR w.heap.size w.heap.size w3 (.slice (some ⟨w1.heap.size,0,none⟩) 0 0) y0.rules):=by unfold Hid;rw[<-hy0];exact HR3.out.base hz1 hz1
 have HS3:Hid (HSrc D w3 b y0.S):=by unfold Hid;rw[<-hy0];exact HS3.out
 have HOKk:Hid (∀k,RlOk k (rlTo L y0 k)):=rlTo_ok hl3.1 hl3.2 HZ0.out
 rw[HZd.out] at HRu HSr
 clear hs3 hc3 HR2 HS2 HC2 hy0 HZ0 HZd HNd HNN hcn cS hn3
 have d1:d3=L-1:=by omega
 have d2:d4=(cn:Int)-1:=by omega
 subst d1 d2
 go_wp2
 go_loopw [3,6] (λs3 s6 wr=>∃(k c1:Nat) (a:Option Addr),k<=cn/\s6=.int .i64 (k:Int)/\s3=.slice a k c1/\Hid (OwnR w.heap.size w.heap.size wr (.slice a k c1) (rlTo L y0 k).rules)/\Hid (HSrc D wr b (rlTo L y0 k).S)/\Hid (Chg (Sx1 b) w wr)) (λ_ i _=>cn-(intOf i).toNat)
 case atStart=>exact⟨0,0,_,Nat.zero_le _,rfl,rfl,HR3,HS3,HC3⟩
 clear HR3 HS3 HC3
 obtain⟨k,c1,a,hk,rfl,rfl,HR,HS,HC⟩:=hrel
 by_cases hlt:k<cn
 ·
  have hlt':(k:Int)<(cn:Int):=by omega
  have HST:Hid (rlTo L y0 (k+1)=rlStep L k (rlTo L y0 k)):=rfl
  have HKK:=mkHid' (HOKk.out k)
  generalize rlTo L y0 k=y at *
  obtain⟨rk,sk⟩:=y
  have HST2:Hid (rlTo L y0 (k+1)=⟨rk++[⟨(k:Int),nv (rlE (rlJ k rk (rlQ1 L sk))).2 3==0,(rlE (rlJ k rk (rlQ1 L sk))).1⟩],ns (rlE (rlJ k rk (rlQ1 L sk))).2 3⟩):=HST.out
  clear HST
  have HOKs:Hid (SOk sk):=HKK.out.ok
  have HLR:Hid (rk.length=k):=HKK.out.len
  have HGD:Hid (RGd k (7*k) rk):=HKK.out.good
  have HQ1:=mkHid' (rlQ1_ok HOKs.out hl3.1 hl3.2)
  have HQd:Hid (rlQ1 L sk=sqTo L (ns sk (2+sk.size/2)) (2+nv sk (2+sk.size/2)).toNat):=rfl
  clear HKK HOKk
  simp only at HR HS
  have cS:=HS.out.size
  have hsz:=HOKs.out.size
  have hzw:w.heap.size<=wr.heap.size:=HC.out.size
  go_wp2_with fail
  refine(l1Next_any D b sk (2+sk.size/2) wr HS.out HOKs.out (by omega)).mono ?_
  rintro e w1 ⟨rfl,hs1,hc1⟩
  have HR1:Hid (OwnR w.heap.size w.heap.size w1 (.slice a k c1) rk):=HR.out.src HS.out hc1
  have HS1:Hid (HSrc D w1 b (ns sk (2+sk.size/2))):=hs1
  have HC1:Hid (Chg (Sx1 b) w w1):=HC.out.trans hc1
  have hw1:wr.heap.size<=w1.heap.size:=hc1.size
  have hv1:=nv_in HOKs.out (2+sk.size/2)
  have hv2:=hv1.2 (by omega)
  obtain⟨n1,hn1⟩:∃n1:Nat,2+nv sk (2+sk.size/2)=n1:=⟨(2+nv sk (2+sk.size/2)).toNat,by omega⟩
  have hn7:n1<=7:=by omega
  rw[hn1,Int.toNat_natCast] at HQ1 HQd
  have HK1:Hid (SOk (ns sk (2+sk.size/2))):=ns_ok HOKs.out _
  have hd1:nv sk (2+sk.size/2)=(n1:Int)-2:=by omega
  rw[hd1]
  clear hn1 hv1 hv2 hs1 hc1 HR HS HC cS hd1
  have hn2:2<=n1:=by have:=HQ1.out.1.two;have:=HQ1.out.2;omega
  have hnn:(2:Int)+((n1:Int)-2)=(n1:Int):=by omega
  go_wp2_with fail
  refine(l3DrawSeq_any D b (ns sk (2+sk.size/2)) n1 L w1 HS1.out HK1.out (by omega) (by omega)).mono ?_
  rintro e w2 ⟨⟨aq,cq,rfl,hq⟩,hs2,hc2⟩
  rw[<-HQd.out] at hq hs2
  generalize rlQ1 L sk=x1 at *
  have HRZ:Hid (OwnRZ w.heap.size w1.heap.size w2 (.slice a k c1) rk):=by
   obtain⟨vs,e0,e1,e2⟩:=HR1.out.z (Nat.le_refl w1.heap.size)
   exact⟨vs,e0,row_src e1 HS1.out (by decide) hc2,λi hi=>⟨row_src (e2 i hi).1 HS1.out (by decide) hc2,(e2 i hi).2⟩⟩
  have H2:Hid (RLs w.heap.size D b w1.heap.size w w2 x1.2 (.slice a k c1) rk (.slice aq n1 cq) x1.1):=⟨HRZ.out,hs2,HC1.out.trans hc2,hq,hc2.size,by omega,by omega⟩
  have HXL:Hid (x1.1.length=n1):=HQ1.out.2.symm
  have HXO:Hid (QOk 7 x1):=HQ1.out.1
  clear hq hs2 hc2 HRZ HR1 HS1 HC1 HQd HQ1 HK1
  generalize hZ:w1.heap.size=Z at *
  clear hZ
  have HJ:Hid (rlJ k rk x1=if rlB k x1=true then ((rlP k rk (rlC k x1)).drop (nv (ns (rlC k x1) k) (rlP k rk (rlC k x1)).length).toNat++x1.1,ns (ns (rlC k x1) k) (rlP k rk (rlC k x1)).length) else (x1.1,rlC k x1)):=rfl
  have HJO:=mkHid' (rlJ_ok HXO.out HGD.out HLR.out)
  have HBd:Hid (rlB k x1=(decide (0<k)&&decide (nv x1.2 3=0))):=rfl
  have HCd:Hid (rlC k x1=if 0<k then ns x1.2 3 else x1.2):=rfl
  have HCO:=mkHid' (rlC_ok (i:=k) HXO.out.ok)
  generalize rlC k x1=SC at *
  generalize rlB k x1=bJ at *
  generalize rlJ k rk x1=x2 at *
  go_upto_region 10 with fail
  go_cut [51] from 45 to 50 (λs51 wc=>s51=.bool bJ/\Hid (RLs w.heap.size D b Z w wc SC (.slice a k c1) rk (.slice aq n1 cq) x1.1))
  case first=>
   by_cases hk0:0<k
   ·have hki:decide ((0:Int)<(k:Int))=true:=by simp;omega
    have hkz:(0:Int)<(k:Int):=by omega
    have hSe:SC=ns x1.2 3:=by rw[HCd.out,if_pos hk0]
    have HBe:Hid (bJ=decide (nv x1.2 3=0)):=by unfold Hid;rw[HBd.out];simp[hk0]
    clear HBd HCd
    go_wp2_with fail
    refine(l1Next_any D b x1.2 3 w2 H2.out.src HXO.out.ok (by omega)).mono ?_
    rintro e w3 ⟨rfl,hs3,hc3⟩
    have H3:=mkHid' (H2.out.drawn hs3 hc3)
    rw[<-hSe] at H3
    clear hs3 hc3 hSe
    generalize nv x1.2 3=d3 at *
    have HB5:Hid (bJ=(d3==0)):=by unfold Hid;rw[HBe.out];rfl
    clear HBe
    go_wp2
    go_meet
    exact⟨by rw[HB5.out],H3⟩
   ·have hki:decide ((0:Int)<(k:Int))=false:=by simp;omega
    have hSe:SC=x1.2:=by rw[HCd.out,if_neg hk0]
    have HBe:Hid (bJ=false):=by unfold Hid;rw[HBd.out];simp[hk0]
    have H3:=mkHid' H2.out
    rw[<-hSe] at H3
    clear HBd HCd hSe
    go_wp2
    go_meet
    exact⟨by rw[HBe.out],H3⟩
  case rest=>
  obtain⟨rfl,H3⟩:=hcut
  go_upto_if 51 with fail
  go_cut [7,8] from 52 to 66 (λs7 s8 wq=>∃(n2 c2:Nat) (a2:Option Addr),s7=.slice a2 n2 c2/\Hid (x2.1.length=n2)/\Hid (RLs w.heap.size D b Z w wq x2.2 (.slice a k c1) rk (.slice a2 n2 c2) x2.1))
  case first=>
   cases bJ with
   |false=>
    rw[if_neg (by decide)] at HJ
    have e1:x2.1=x1.1:=by rw[HJ.out]
    have e2:x2.2=SC:=by rw[HJ.out]
    have HF:Hid (x2.1.length=n1/\RLs w.heap.size D b Z w wc x2.2 (.slice a k c1) rk (.slice aq n1 cq) x2.1):=by
     unfold Hid
     rw[e1,e2]
     exact⟨HXL.out,H3.out⟩
    clear e1 e2
    go_wp2
    go_meet
    exact⟨n1,cq,aq,rfl,HF.out.1,HF.out.2⟩
   |true=>
    rw[if_pos rfl] at HJ
    have hk0:0<k:=by have h:=HBd.out;simp at h;exact h.1
    have hvk:=nv_in HCO.out k
    have HPd:Hid (rlP k rk SC=(ruat rk (nv SC k).toNat).seq):=rfl
    obtain⟨i1,hi1⟩:∃i1:Nat,nv SC k=i1:=⟨(nv SC k).toNat,by omega⟩
    have hi1k:i1<k:=by have:=hvk.2 (by omega);omega
    have hi1k':(i1:Int)<k:=by omega
    rw[hi1,Int.toNat_natCast] at HPd
    have HM:Hid (ruat rk i1∈rk):=by
     have hlt:i1<rk.length:=by rw[HLR.out];exact hi1k
     unfold Hid
     rw[ruat_eq hlt]
     exact List.getElem_mem hlt
    have HE1:Hid (2<=(rlP k rk SC).length/\(rlP k rk SC).length<=7*k):=by
     unfold Hid
     rw[HPd.out]
     have:=HGD.out.each _ HM.out
     exact⟨this.1,this.2.1⟩
    clear hvk
    go_wp2_with fail
    refine(l1Next_any D b SC k wc H3.out.src HCO.out (by omega)).mono ?_
    rintro e w4 ⟨rfl,hs4,hc4⟩
    have H4:=mkHid' (H3.out.drawn hs4 hc4)
    clear hs4 hc4
    rw[hi1]
    clear hi1
    obtain⟨g,u,ea,-,-,cu,hu⟩:=H4.out.rules.r.at (i:=i1) (by rw[HLR.out];exact hi1k)
    subst ea
    rw[<-HPd.out] at hu
    generalize hP:rlP k rk SC=P at *
    have hm2:=HE1.out
    generalize hPL:P.length=m at *
    have HPL:Hid (P.length=m):=hPL
    obtain⟨g2,q2,cs2,e2,-,hcap,-,-⟩:=hu.open (by rw[HPL.out];omega)
    rw[HPL.out] at e2 hcap
    subst e2
    have HU:Hid (OwnI w.heap.size w4 (.slice (some ⟨g2,0,none⟩) m q2) P):=hu
    have HO4:Hid (SOk (ns SC k)):=ns_ok HCO.out _
    clear hu hPL hP
    go_wp2_with fail
    refine(l1Next_any D b (ns SC k) m w4 H4.out.src HO4.out (by omega)).mono ?_
    rintro e w5 ⟨rfl,hs5,hc5⟩
    have H5:=mkHid' (H4.out.drawn hs5 hc5)
    have HU5:Hid (OwnI w.heap.size w5 (.slice (some ⟨g2,0,none⟩) m q2) P):=row_src HU.out H4.out.src (by decide) hc5
    clear hs5 hc5
    have hvm:=nv_in HO4.out m
    obtain⟨i2,hi2⟩:∃i2:Nat,nv (ns SC k) m=i2:=⟨(nv (ns SC k) m).toNat,by omega⟩
    have hi2m:i2<m:=by have:=hvm.2 (by omega);omega
    have hi2m':(i2:Int)<m:=by omega
    rw[hi2] at HJ ⊢
    rw[Int.toNat_natCast] at HJ
    clear hi2 hvm
    have hne:¬q2=i2:=by omega
    have HD:Hid (HInts w.heap.size w5 (.slice (some ⟨g2,i2,none⟩) (m-i2) (q2-i2)) (P.drop i2)):=by
     obtain⟨a9,c9,e9,hm9,k9⟩:=HU5.out.held
     have hh:HInts w.heap.size w5 (.slice (some ⟨g2,0,none⟩) m q2) P:=HU5.out.held
     exact hh.drop (by omega) _ (λb off e h=>by simp at e;obtain⟨rfl,rfl⟩:=e;simp)
    have HI:Hid (HInts Z w5 (.slice aq n1 cq) x1.1):=H5.out.row.held
    have HLP:Hid ((P.drop i2).length=m-i2):=by unfold Hid;rw[List.length_drop,HPL.out]
    go_wp2_with fail
    refine(l2Plus_any w.heap.size Z _ _ (P.drop i2) x1.1 w5 HD.out HI.out (by rw[HLP.out];omega) (by rw[HXL.out];omega)).mono ?_
    rintro e w6 ⟨⟨u6,rfl,ho6⟩,hx6⟩
    have e1:x2.1=P.drop i2++x1.1:=by rw[HJ.out]
    have e2:x2.2=ns (ns SC k) m:=by rw[HJ.out]
    rw[<-e1] at ho6
    obtain⟨a6,c6,e6⟩:=ho6.slice
    subst e6
    have HF:Hid (RLs w.heap.size D b Z w w6 x2.2 (.slice (some ⟨g,0,none⟩) k c1) rk (.slice a6 x2.1.length c6) x2.1):=by
     unfold Hid
     rw[e2]
     exact H5.out.next hx6 (ho6.base H5.out.hz)
    clear ho6 hx6 e1 e2 HJ HD HI
    go_wp2
    go_meet
    exact⟨_,_,_,rfl,rfl,HF⟩
  case rest=>
  clear HJ H3 HXL HXO HCO HBd HCd
  obtain⟨n2,c2,a2,rfl,HX2,H4⟩:=hcut
  have HEd:Hid (rlE x2=if nv x2.2 12=0 then (x2.1.set (nv (ns x2.2 12) x2.1.length).toNat 3999,ns (ns x2.2 12) x2.1.length) else (x2.1,ns x2.2 12)):=rfl
  have HEO:=mkHid' (rlE_ok HJO.out)
  have HO2:Hid (SOk x2.2):=HJO.out.ok
  have h2n:2<=n2:=by have:=HJO.out.two;have:=HX2.out;omega
  have h2m:n2<=7*k+7:=by have:=HJO.out.len;have:=HX2.out;omega
  rw[HX2.out] at HEd
  generalize rlE x2=x3 at *
  go_wp2_with fail
  refine(l1Next_any D b x2.2 12 wc H4.out.src HO2.out (by omega)).mono ?_
  rintro e w5 ⟨rfl,hs5,hc5⟩
  have H5:=mkHid' (H4.out.drawn hs5 hc5)
  have HO5:Hid (SOk (ns x2.2 12)):=ns_ok HO2.out 12
  clear hs5 hc5 H4
  generalize nv x2.2 12=d12 at *
  go_upto_if 69 with fail
  generalize hbd:(d12==0)=bd
  have HBD:Hid (d12=0↔bd=true):=by unfold Hid;rw[<-hbd];simp
  clear hbd
  go_cut [] from 70 to 75 (λwq=>Hid (RLs w.heap.size D b Z w wq x3.2 (.slice a k c1) rk (.slice a2 n2 c2) x3.1))
  case first=>
   cases bd with
   |false=>
    rw[if_neg (by rw[HBD.out];decide)] at HEd
    have e1:x3.1=x2.1:=by rw[HEd.out]
    have e2:x3.2=ns x2.2 12:=by rw[HEd.out]
    have HF:Hid (RLs w.heap.size D b Z w w5 x3.2 (.slice a k c1) rk (.slice a2 n2 c2) x3.1):=by unfold Hid;rw[e1,e2];exact H5.out
    clear e1 e2 HEd
    go_wp2
    go_meet
    exact HF
   |true=>
    rw[if_pos (by rw[HBD.out])] at HEd
    go_wp2_with fail
    refine(l1Next_any D b (ns x2.2 12) n2 w5 H5.out.src HO5.out (by omega)).mono ?_
    rintro e w6 ⟨rfl,hs6,hc6⟩
    have H6:=mkHid' (H5.out.drawn hs6 hc6)
    clear hs6 hc6
    have hvm:=nv_in HO5.out n2
    obtain⟨i3,hi3⟩:∃i3:Nat,nv (ns x2.2 12) n2=i3:=⟨(nv (ns x2.2 12) n2).toNat,by omega⟩
    have hi3m:i3<n2:=by have:=hvm.2 (by omega);omega
    have hi3m':(i3:Int)<n2:=by omega
    rw[hi3] at HEd ⊢
    rw[Int.toNat_natCast] at HEd
    clear hi3 hvm
    obtain⟨g2,q2,cs2,e2,hg2,-,hb2,hc2⟩:=H6.out.row.open (by rw[HX2.out];omega)
    rw[HX2.out] at e2 hc2
    simp only[Value.slice.injEq] at e2
    obtain⟨ea,-,ec⟩:=e2
    subst ea ec
    have cy:w6.cell? ⟨g2,i3,none⟩=some (.int .i64 (iat x2.1 i3)):=hc2 i3 hi3m
    have fy:=hb2.blk.frozen i3
    have HB2:Hid (BT w6 g2 cs2 2):=hb2
    generalize iat x2.1 i3=zz at *
    have e1:x3.1=x2.1.set i3 3999:=by rw[HEd.out]
    have e2:x3.2=ns (ns x2.2 12) n2:=by rw[HEd.out]
    have HF:Hid (RLs w.heap.size D b Z w (w6.setCell ⟨g2,i3,none⟩ (.int .i64 3999)) x3.2 (.slice a k c1) rk (.slice (some ⟨g2,0,none⟩) n2 c2) x3.1):=by
     unfold Hid
     rw[e1,e2]
     exact H6.out.write HX2.out HB2.out hg2 i3 3999
    clear e1 e2 HEd hb2 hc2
    go_wp2
    go_meet
    exact HF
  case rest=>
  clear H5 HEd
  have H6:=hcut
  have HO3:Hid (SOk x3.2):=HEO.out.ok
  go_wp2_with fail
  refine(l1Next_any D b x3.2 3 wc H6.out.src HO3.out (by omega)).mono ?_
  rintro e w7 ⟨rfl,hs7,hc7⟩
  have H7:=mkHid' (H6.out.drawn hs7 hc7)
  clear hs7 hc7 H6 hcut
  have HU7:Hid (OwnI w.heap.size w7 (.slice a2 n2 c2) x3.1):=H7.out.row.base H7.out.hB
  have HST3:Hid (rlTo L y0 (k+1)=⟨rk++[⟨(k:Int),(nv x3.2 3==0),x3.1⟩],ns x3.2 3⟩):=HST2.out
  have hz7:w.heap.size<=w7.heap.size:=Nat.le_trans H7.out.hB H7.out.hz
  clear HST2
  generalize nv x3.2 3=d7 at *
  go_wp2_with (at_builtin;refine app_rule rfl _ _ rfl w.heap.size w.heap.size Z k (.slice a k c1) rk ⟨(k:Int),(d7==0),x3.1⟩ (.slice a2 n2 c2) w7 rfl H7.out.rules.b HU7.out (λg e=>(own_lt H7.out.row g e).1) rfl HLR.out (by omega) hz7 ?_)
  intro a8 c8 w8 r1 r2
  have HR8:Hid (OwnR w.heap.size w.heap.size w8 (.slice a8 (k+1) c8) (rlTo L y0 (k+1)).rules):=by unfold Hid;rw[HST3.out];exact r1
  have HRW:Hid (∃cells,w7.ownsRow w.heap.size 36 3 (.slice a k c1) k cells):=by
   obtain⟨vs,-,h1,-⟩:=H7.out.rules
   rw[HLR.out] at h1
   exact⟨_,h1⟩
  have HS8:Hid (HSrc D w8 b (rlTo L y0 (k+1)).S):=by
   unfold Hid
   rw[HST3.out]
   obtain⟨cells,h1⟩:=HRW.out
   exact H7.out.src.row h1 (by decide) (by decide) r2
  have HC8:Hid (Chg (Sx1 b) w w8):=by
   obtain⟨cells,h1⟩:=HRW.out
   exact H7.out.chg.young r2 (λx hx hl=>by have:=(own_lt h1 x hx.symm).1;omega)
  clear r1 r2 HRW
  go_wp2
  go_roundw
  case rel=>exact⟨k+1,c8,a8,by omega,by go_num,rfl,HR8,HS8,HC8⟩
  case measure=>simp[intOf];omega
 have hkn:k=cn:=by omega
 subst hkn
 go_wp2
 go_ret
 exact⟨⟨_,rfl,by rw[HRu.out];exact HR.out⟩,by rw[HSr.out];exact HS.out,HC.out⟩
theorem OwnR.rules {C:Nat}{w:World}{v:Value}{xs:List Ru}(h:OwnR C C w v xs):HRules C w v xs:=by
 obtain⟨vs,h0,h1,h2⟩:=h
 have hO:OwnR C C w v xs:=⟨vs,h0,h1,h2⟩
 obtain⟨a,c,rfl⟩:=row_slice h1
 refine⟨a,c,rfl,row_max h1,λhp=>?_⟩
 have hb:∃g,a=some ⟨g,0,none⟩/\C<=g/\g<w.heap.size:=by
  rcases h1.2 with⟨_,h3⟩|⟨g,cap,cur,hv,hg,hh,_⟩
  ·omega
  ·simp only[Value.slice.injEq] at hv
   exact⟨g,hv.1,hg,(Array.getElem?_eq_some_iff.1 hh).1⟩
 obtain⟨g,rfl,hg,hgl⟩:=hb
 refine⟨g,0,rfl,hg,hgl,λi hi=>?_⟩
 obtain⟨g',u,e,c0,c1,c2,hu⟩:=hO.at hi
 have e':g'=g:=by simpa using e.symm
 subst e'
 obtain⟨ua,uc,eu⟩:=hu.slice
 subst eu
 rw[Nat.zero_add]
 refine⟨ua,uc,c0,c1,c2,hu.held,?_⟩
 rcases hu.2 with⟨e3,h3⟩|⟨g3,cap,cur,hv,_,_,hc,_⟩
 ·show(ruat xs i).seq.length<=uc
  omega
 ·simp only[Value.slice.injEq] at hv
  show(ruat xs i).seq.length<=uc
  omega
theorem rcells_set:∀{rs:List Ru}{vs:List Value}{i:Nat},vs.length=rs.length->i<rs.length->∀(u:Value) (q:List Int),rcells (rs.set i ⟨(ruat rs i).rel,(ruat rs i).only,q⟩) (vs.set i u)=(rcells rs vs).set (i*3+2) u
 |[],_,_,_,hi,_,_=>absurd hi (Nat.not_lt_zero _)
 |r::rs,[],_,hl,_,_,_=>by simp at hl
 |r::rs,v::vs,0,hl,hi,u,q=>rfl
 |r::rs,v::vs,i+1,hl,hi,u,q=>by
  have ih:=rcells_set (rs:=rs) (vs:=vs) (i:=i) (by simpa using hl) (by simpa using hi) u q
  have e1:ruat (r::rs) (i+1)=ruat rs i:=by simp[ruat,List.getD]
  rw[e1]
  show rcell (r,v)++rcells (rs.set i _) (vs.set i u)=(rcell (r,v)++rcells rs vs).set ((i+1)*3+2) u
  rw[ih,List.set_append]
  have e2:(rcell (r,v)).length=3:=rfl
  rw[e2,if_neg (by omega),show(i+1)*3+2-3=i*3+2 by omega]
theorem rcells_keep:∀{rs:List Ru}{vs:List Value}{i:Nat},vs.length=rs.length->i<rs.length->∀(q:List Int),rcells (rs.set i ⟨(ruat rs i).rel,(ruat rs i).only,q⟩) vs=rcells rs vs
 |[],_,_,_,hi,_=>absurd hi (Nat.not_lt_zero _)
 |r::rs,[],_,hl,_,_=>by simp at hl
 |r::rs,v::vs,0,hl,hi,q=>rfl
 |r::rs,v::vs,i+1,hl,hi,q=>by
  have ih:=rcells_keep (rs:=rs) (vs:=vs) (i:=i) (by simpa using hl) (by simpa using hi) q
  have e1:ruat (r::rs) (i+1)=ruat rs i:=by simp[ruat,List.getD]
  rw[e1]
  show rcell (r,v)++rcells (rs.set i _) vs=rcell (r,v)++rcells rs vs
  rw[ih]
theorem ruat_set {rs:List Ru}{i j:Nat}{x:Ru}(hi:i<rs.length):ruat (rs.set i x) j=if j=i then x else ruat rs j:=by
 unfold ruat
 rw[List.getD_eq_getElem?_getD,List.getD_eq_getElem?_getD,List.getElem?_set]
 by_cases e:i=j
 ·subst e;simp[hi]
 ·rw[if_neg e,if_neg (λh=>e h.symm)]
theorem vat_set {vs:List Value}{i j:Nat}{x:Value}(hi:i<vs.length):vat (vs.set i x) j=if j=i then x else vat vs j:=by
 unfold vat
 rw[List.getD_eq_getElem?_getD,List.getD_eq_getElem?_getD,List.getElem?_set]
 by_cases e:i=j
 ·subst e;simp[hi]
 ·rw[if_neg e,if_neg (λh=>e h.symm)]
theorem OwnR.putSeq {C g n c i:Nat}{w:World}{rs:List Ru}{u:Value}{q:List Int}{vs:List Value}(hn:rs.length=n)(h0:LnA vs rs.length)(h1:w.ownsRow C 36 3 (.slice (some ⟨g,0,none⟩) n c) rs.length (rcells rs vs))(h2:∀i,i<rs.length->OwnI C w (vat vs i) (ruat rs i).seq)
  (hi:i<rs.length) (hu:OwnI C w u q) (hap:∀j x,j<rs.length->j≠i->(vat vs j).ownBlock=some x->u.ownBlock≠some x) :
  OwnR C C (w.setCell ⟨g,i*3+2,none⟩ u) (.slice (some ⟨g,0,none⟩) n c) (rs.set i ⟨(ruat rs i).rel,(ruat rs i).only,q⟩):=by
 subst hn
 have hc:Chg (λx=>x=g) w (w.setCell ⟨g,i*3+2,none⟩ u):=Chg.set _ _ _ rfl
 have kept:∀{z:Value}{zs:List Int},OwnI C w z zs->OwnI C (w.setCell ⟨g,i*3+2,none⟩ u) z zs:=λ{z zs} hz=>row_chg hz hc (λx hx e=>row_ne hz h1 (by decide) hx (by have e':x=g:=e;rw[e'];rfl))
 have hvl:i<vs.length:=by rw[h0.l];exact hi
 refine⟨vs.set i u,⟨by rw[List.length_set,List.length_set];exact h0.l,λa b x hab hb=>?_⟩,?_,λj hj=>?_⟩
 ·rw[List.length_set] at hb
  rw[vat_set hvl,vat_set hvl]
  by_cases ea:a=i
  ·rw[if_pos ea,if_neg (by omega)]
   intro k1 k2
   exact hap b x hb (by omega) k2 k1
  ·rw[if_neg ea]
   by_cases eb:b=i
   ·rw[if_pos eb];exact hap a x (by omega) ea
   ·rw[if_neg eb];exact h0.ap a b x hab hb
 ·rw[List.length_set,rcells_set h0.l hi]
  exact row_set h1 u
 ·rw[List.length_set] at hj
  rw[vat_set hvl,ruat_set hi]
  by_cases e:j=i
  ·rw[if_pos e,if_pos e];exact kept hu
  ·rw[if_neg e,if_neg e];exact kept (h2 j hj)
theorem OwnR.putAt {C b m cc i t:Nat}{z:Int}{w:World}{v:Value}{rs:List Ru}{vs:List Value}(h0:LnA vs rs.length)(h1:w.ownsRow C 36 3 v rs.length (rcells rs vs))(h2:∀i,i<rs.length->OwnI C w (vat vs i) (ruat rs i).seq)
  (hi:i<rs.length) (hu:vat vs i=.slice (some ⟨b,0,none⟩) m cc) (hm:(ruat rs i).seq.length=m) :
  OwnR C C (w.setCell ⟨b,t,none⟩ (.int .i64 z)) v (rs.set i ⟨(ruat rs i).rel,(ruat rs i).only,(ruat rs i).seq.set t z⟩):=by
 have hc:Chg (λx=>x=b) w (w.setCell ⟨b,t,none⟩ (.int .i64 z)):=Chg.set _ _ _ rfl
 have hui:=h2 i hi
 have hub:(vat vs i).ownBlock=some b:=by rw[hu];rfl
 refine⟨vs,⟨by rw[List.length_set];exact h0.l,λa b' x hab hb=>by rw[List.length_set] at hb;exact h0.ap a b' x hab hb⟩,?_,λj hj=>?_⟩
 ·rw[List.length_set,rcells_keep h0.l hi]
  refine row_chg h1 hc (λx hx e=>?_)
  have e':x=b:=e
  subst e'
  exact row_ne hui h1 (by decide) hub hx.symm
 ·rw[List.length_set] at hj
  rw[ruat_set hi]
  by_cases e:j=i
  ·subst e
   rw[if_pos rfl]
   rw[hu] at hui ⊢
   exact hui.setAt hm z
  ·rw[if_neg e]
   refine row_chg (h2 j hj) hc (λx hx e'=>?_)
   have e2:x=b:=e'
   subst e2
   rcases Nat.lt_or_ge j i with l|l
   ·exact h0.ap j i x l hi hx hub
   ·exact h0.ap i j x (by omega) hj hub hx
def nsI (S:Src):Nat->Src
 |0=>S
 |k+1=>ns (nsI S k) 2
theorem nsI_ok {S:Src}(h:SOk S):∀k,SOk (nsI S k)
 |0=>h
 |k+1=>ns_ok (nsI_ok h k) 2
def a1L (S:Src):Nat:=402+(nv (nsI S 402) 2).toNat
def a1Q (L:Nat):List Int:=(List.range L).map λ(i:Nat)=>(i:Int).tmod 3
theorem a1Q_succ (k:Nat):a1Q (k+1)=a1Q k++[(k:Int).tmod 3]:=by unfold a1Q;rw[List.range_succ,List.map_append];rfl
theorem a1Q_len (k:Nat):(a1Q k).length=k:=by unfold a1Q;simp
def a1R (S:Src):List Ru:=[⟨0,nv (nsI S (a1L S+1)) 2==0,a1Q (a1L S)⟩]
def a2L (S:Src):Nat:=1000+(nv (nsI S 1000) 2).toNat
def a2U (i:Nat):Ru:=⟨-(i:Int),(i:Int)%2==0,[(i:Int)%5,(i:Int)%7]⟩
def a2R (L:Nat):List Ru:=(List.range L).map a2U
theorem a2R_succ (k:Nat):a2R (k+1)=a2R k++[a2U k]:=by unfold a2R;rw[List.range_succ,List.map_append];rfl
theorem a2R_len (k:Nat):(a2R k).length=k:=by unfold a2R;simp
def a3I (rs:List Ru)(S:Src):Nat:=(nv S rs.length).toNat
def a3Q (k:Int)(r:Ru)(S:Src):List Int:=if k=3 then r.seq.take 1 else if k=4 then [] else r.seq.set (nv S r.seq.length).toNat (if k<=6 then -1 else 4000)
def a3R (k:Int)(rs:List Ru)(S:Src):List Ru:=rs.set (a3I rs S) ⟨(ruat rs (a3I rs S)).rel,(ruat rs (a3I rs S)).only,a3Q k (ruat rs (a3I rs S)) (ns S rs.length)⟩
def anyR (S:Src):List Ru:=if nv S 40=0 then (if nv (ns S 40) 2=0 then bkR 5 else bjR 5) else if nv S 40=1 then a1R (ns S 40) else if nv S 40=2 then a2R (a2L (ns S 40)) else if nv S 40<10/\0<(drRu (ns S 40)).length then a3R (nv S 40) (drRu (ns S 40)) (drSr (ns S 40)) else drRu (ns S 40)
theorem ownI_pair {C:Nat}(w:World)(x y:Int)(h:C<=w.heap.size):OwnI C (w.alloc (.cells #[.int .i64 x,.int .i64 y] 2)) (.slice (some ⟨w.heap.size,0,none⟩) 2 2) [x,y]:=
 ⟨rfl,.inr ⟨w.heap.size,2,#[.int .i64 x,.int .i64 y],rfl,h,by show(w.heap.push _)[w.heap.size]?=_;simp,Nat.le_refl _,by simp[maxLen],by simp,by simp[icells]⟩⟩
theorem any0 (D b:Nat)(S:Src)(w:World)(hS:HSrc D w b S)(hok:SOk S)(hk:nv S 40=0) :
  Calls Tryz.prog 13 #[.pointer (some ⟨b,0,none⟩)] w λe w'=>(∃v,e=.returned v/\HRules w.heap.size w' v (anyR S))/\Chg (Sx1 b) w w':=by
 have HOK:Hid (SOk S):=hok
 have HOK1:Hid (SOk (ns S 40)):=ns_ok hok 40
 have HS0:Hid (HSrc D w b S):=hS
 have hmx:Tryz.prog.follows .mixedOrders=true:=by kernel_rfl
 clear hS hok
 have hv2:=nv_in HOK1.out 2
 have hv2':=hv2.2 (by omega)
 by_cases hx:nv (ns S 40) 2=0
 ·have HF:Hid (anyR S=bkR 5):=by unfold Hid anyR;rw[if_pos hk,if_pos hx]
  have ex:nv (ns S 40) 2=0:=by exact hx
  go_enter Tryz.func13,Tryz.ntmps13
  go_wp2_with fail
  refine(l1Next_any D b S 40 w HS0.out HOK.out (by omega)).mono ?_
  rintro e w1 ⟨rfl,hs1,hc1⟩
  have HS1:Hid (HSrc D w1 b (ns S 40)):=hs1
  have HC1:Hid (Chg (Sx1 b) w w1):=hc1
  have hz1:w.heap.size<=w1.heap.size:=hc1.size
  clear hs1 hc1 HS0
  rw[hk]
  go_wp2_with fail
  refine(l1Next_any D b (ns S 40) 2 w1 HS1.out HOK1.out (by omega)).mono ?_
  rintro e w2 ⟨rfl,hs2,hc2⟩
  have HS2:=mkHid' hs2
  have HC2:Hid (Chg (Sx1 b) w w2):=HC1.out.trans hc2
  clear hs2 hc2 HS1 HC1
  rw[ex]
  go_wp2_with fail
  refine(l3Bulk_any w2).mono ?_
  rintro e w3 ⟨⟨v,rfl,hr⟩,hx3⟩
  have hz2:w.heap.size<=w2.heap.size:=HC2.out.size
  have HRU:Hid (HRules w.heap.size w3 v (anyR S)):=by unfold Hid;rw[HF.out];exact(hr.base hz2 hz2).rules
  have HC3:Hid (Chg (Sx1 b) w w3):=HC2.out.trans (Chg.nx hx3)
  obtain⟨va,vn,vc,ev⟩:=OwnR.slc hr
  subst ev
  clear hr hx3 HC2
  go_wp2
  go_ret
  exact⟨⟨_,rfl,HRU.out⟩,HC3.out⟩
 have HF:Hid (anyR S=bjR 5):=by unfold Hid anyR;rw[if_pos hk,if_neg hx]
 have ex:nv (ns S 40) 2=1:=by omega
 go_enter Tryz.func13,Tryz.ntmps13
 go_wp2_with fail
 refine(l1Next_any D b S 40 w HS0.out HOK.out (by omega)).mono ?_
 rintro e w1 ⟨rfl,hs1,hc1⟩
 have HS1:Hid (HSrc D w1 b (ns S 40)):=hs1
 have HC1:Hid (Chg (Sx1 b) w w1):=hc1
 have hz1:w.heap.size<=w1.heap.size:=hc1.size
 clear hs1 hc1 HS0
 rw[hk]
 go_wp2_with fail
 refine(l1Next_any D b (ns S 40) 2 w1 HS1.out HOK1.out (by omega)).mono ?_
 rintro e w2 ⟨rfl,hs2,hc2⟩
 have HS2:=mkHid' hs2
 have HC2:Hid (Chg (Sx1 b) w w2):=HC1.out.trans hc2
 clear hs2 hc2 HS1 HC1
 rw[ex]
 go_wp2_with fail
 refine(l3Bulk1_any w2).mono ?_
 rintro e w3 ⟨⟨v,rfl,hr⟩,hx3⟩
 have hz2:w.heap.size<=w2.heap.size:=HC2.out.size
 have HRU:Hid (HRules w.heap.size w3 v (anyR S)):=by unfold Hid;rw[HF.out];exact(hr.base hz2 hz2).rules
 have HC3:Hid (Chg (Sx1 b) w w3):=HC2.out.trans (Chg.nx hx3)
 obtain⟨va,vn,vc,ev⟩:=OwnR.slc hr
 subst ev
 clear hr hx3 HC2
 go_wp2
 go_ret
 exact⟨⟨_,rfl,HRU.out⟩,HC3.out⟩
theorem any1 (D b:Nat)(S:Src)(w:World)(hS:HSrc D w b S)(hok:SOk S)(hk:nv S 40=1) :
  Calls Tryz.prog 13 #[.pointer (some ⟨b,0,none⟩)] w λe w'=>(∃v,e=.returned v/\HRules w.heap.size w' v (anyR S))/\Chg (Sx1 b) w w':=by
 have HOK:Hid (SOk S):=hok
 have HOK1:Hid (SOk (ns S 40)):=ns_ok hok 40
 have HS0:Hid (HSrc D w b S):=hS
 have hmx:Tryz.prog.follows .mixedOrders=true:=by kernel_rfl
 clear hS hok
 have HF:Hid (anyR S=a1R (ns S 40)):=by unfold Hid anyR;rw[if_neg (by rw[hk];decide),if_pos hk]
 have HRd:Hid (a1R (ns S 40)=[⟨0,nv (nsI (ns S 40) (a1L (ns S 40)+1)) 2==0,a1Q (a1L (ns S 40))⟩]):=rfl
 have HLd:Hid (a1L (ns S 40)=402+(nv (nsI (ns S 40) 402) 2).toNat):=rfl
 go_enter Tryz.func13,Tryz.ntmps13
 go_wp2_with fail
 refine(l1Next_any D b S 40 w HS0.out HOK.out (by omega)).mono ?_
 rintro e w1 ⟨rfl,hs1,hc1⟩
 have HS1:Hid (HSrc D w1 b (ns S 40)):=hs1
 have HC1:Hid (Chg (Sx1 b) w w1):=hc1
 have hz1:w.heap.size<=w1.heap.size:=hc1.size
 clear hs1 hc1 HS0
 rw[hk]
 generalize ns S 40=S1 at *
 generalize a1L S1=L at *
 have hL:L<=403/\402<=L:=by
  have hv:=nv_in (nsI_ok HOK1.out 402) 2
  have hv':=hv.2 (by omega)
  have:=HLd.out
  omega
 have HE0:Hid (OwnI w1.heap.size (w1.alloc (.cells #[] 2)) (.slice (some ⟨w1.heap.size,0,none⟩) 0 0) (a1Q 0)):=ownI_none _ _ (Nat.le_refl _)
 have HSA:Hid (HSrc D (w1.alloc (.cells #[] 2)) b (nsI S1 0)):=HS1.out.next (box1 _ _)
 have HCA:Hid (Chg (Sx1 b) w (w1.alloc (.cells #[] 2))):=HC1.out.trans (Chg.nx (box1 _ _))
 have HXA:Hid (w1.heap.size<=(w1.alloc (.cells #[] 2)).heap.size):=(show Nx w1 (w1.alloc (.cells #[] 2)) from box1 _ _).size
 go_upto_region 6 with fail
 generalize w1.alloc (.cells #[] 2)=wA at *
 clear HS1 HC1
 generalize hz1':w1.heap.size=Z1 at *
 clear hz1'
 go_wp2
 go_loopw [4,5] (λs4 s5 wr=>∃(k c:Nat) (a:Option Addr),k<=L/\s5=.int .i64 k/\s4=.slice a k c/\Hid (OwnI Z1 wr (.slice a k c) (a1Q k))/\Hid (HSrc D wr b (nsI S1 k))/\Hid (Chg (Sx1 b) w wr)/\Hid (Z1<=wr.heap.size)) (λ_ i _=>L-(intOf i).toNat)
 case atStart=>exact⟨0,0,_,Nat.zero_le _,rfl,rfl,HE0,HSA,HCA,HXA⟩
 clear HE0 HSA HCA HXA
 obtain⟨k,c,a,hkL,rfl,rfl,HO,HS,HC,HZ⟩:=hrel
 have hv:=nv_in (nsI_ok HOK1.out k) 2
 have hv':=hv.2 (by omega)
 have HT:Hid (k<L↔(k:Int)<402+nv (nsI S1 k) 2):=by
  have hd:=HLd.out
  unfold Hid
  by_cases e:k=402
  ·subst e;omega
  ·by_cases e2:k=403
   ·subst e2;omega
   ·omega
 go_wp2_with fail
 refine(l1Next_any D b (nsI S1 k) 2 wr HS.out (nsI_ok HOK1.out k) (by omega)).mono ?_
 rintro e w2 ⟨rfl,hs2,hc2⟩
 have HO2:Hid (OwnI Z1 w2 (.slice a k c) (a1Q k)):=row_src HO.out HS.out (by decide) hc2
 have HS2:Hid (HSrc D w2 b (nsI S1 (k+1))):=hs2
 have HC2:Hid (Chg (Sx1 b) w w2):=HC.out.trans hc2
 have HZ2:Hid (Z1<=w2.heap.size):=Nat.le_trans HZ.out hc2.size
 clear hs2 hc2 HO HS HC HZ
 generalize nv (nsI S1 k) 2=d at *
 by_cases hlt:k<L
 ·have hl2:=HT.out.1 hlt
  clear HT
  have HQl:=mkHid' (a1Q_len k)
  have HQs:=mkHid' (a1Q_succ k)
  have hzz:Z1<=w2.heap.size:=HZ2.out
  go_wp2_with (at_builtin;refine app_int rfl _ _ rfl Z1 k (.slice a k c) (a1Q k) ((k:Int).tmod 3) w2 rfl HO2.out rfl HQl.out (by omega) hzz ?_)
  intro a1 c1 w3 r1 r2 r3
  have HO3:Hid (OwnI Z1 w3 (.slice a1 (k+1) c1) (a1Q (k+1))):=by unfold Hid;rw[HQs.out];exact r1
  have HS3:Hid (HSrc D w3 b (nsI S1 (k+1))):=HS2.out.row HO2.out (by decide) (by decide) r2
  have HC3:Hid (Chg (Sx1 b) w w3):=HC2.out.young r2 (λx hx hl=>by have:=(own_lt HO2.out x hx.symm).1;omega)
  have HZ3:Hid (Z1<=w3.heap.size):=Nat.le_trans HZ2.out r2.size
  clear r1 r2 r3
  go_wp2
  go_roundw
  case rel=>exact⟨k+1,c1,a1,by omega,by go_num,rfl,HO3,HS3,HC3,HZ3⟩
  case measure=>simp[intOf];omega
 have ek:k=L:=by omega
 have hl2:¬(k:Int)<402+d:=λh=>hlt (HT.out.2 h)
 subst ek
 clear HT hlt
 go_wp2_with fail
 refine(l1Next_any D b (nsI S1 (k+1)) 2 w2 HS2.out (nsI_ok HOK1.out (k+1)) (by omega)).mono ?_
 rintro e w3 ⟨rfl,hs3,hc3⟩
 have HO3:Hid (OwnI Z1 w3 (.slice a k c) (a1Q k)):=row_src HO2.out HS2.out (by decide) hc3
 have HC3:Hid (Chg (Sx1 b) w w3):=HC2.out.trans hc3
 clear hs3 hc3 HO2 HS2 HC2
 generalize nv (nsI S1 (k+1)) 2=d2 at *
 go_wp2
 go_ret
 generalize hW:w3.alloc (.cells #[.int .i64 0,.bool (d2==0),.slice a k c] 36)=w4
 have hx4:Nx w3 w4:=by rw[<-hW];exact box1 _ _
 refine⟨⟨_,rfl,?_⟩,HC3.out.trans (Chg.nx hx4)⟩
 rw[HF.out,HRd.out]
 have hz3:w.heap.size<=w3.heap.size:=HC3.out.size
 have hb4:BT w4 w3.heap.size #[.int .i64 0,.bool (d2==0),.slice a k c] 36:=by rw[<-hW];exact BT.new _ _ _ _ rfl
 have hO4:OwnI w.heap.size w4 (.slice a k c) (a1Q k):=(HO3.out.next hx4).base (by omega)
 refine⟨_,_,rfl,by simp[maxLen],λ_=>⟨w3.heap.size,0,rfl,hz3,hb4.lt,λi hi=>?_⟩⟩
 have e0:i=0:=by simp at hi;exact hi
 subst e0
 refine⟨a,c,hb4.blk.cell (i:=0) rfl,hb4.blk.cell (i:=1) rfl,?_,?_,?_⟩
 ·show w4.cell? ⟨w3.heap.size,2,none⟩=some (.slice a (a1Q k).length c)
  rw[a1Q_len];exact hb4.blk.cell (i:=2) rfl
 ·show HInts _ w4 (.slice a (a1Q k).length c) (a1Q k)
  rw[a1Q_len];exact hO4.held
 ·show(a1Q k).length<=c
  rcases hO4.2 with⟨e3,h3⟩|⟨g3,cap,cur,hv3,_,_,hc3,_⟩
  ·omega
  ·simp only[Value.slice.injEq] at hv3
   omega
theorem any2 (D b:Nat)(S:Src)(w:World)(hS:HSrc D w b S)(hok:SOk S)(hk:nv S 40=2) :
  Calls Tryz.prog 13 #[.pointer (some ⟨b,0,none⟩)] w λe w'=>(∃v,e=.returned v/\HRules w.heap.size w' v (anyR S))/\Chg (Sx1 b) w w':=by
 have HOK:Hid (SOk S):=hok
 have HOK1:Hid (SOk (ns S 40)):=ns_ok hok 40
 have HS0:Hid (HSrc D w b S):=hS
 have hmx:Tryz.prog.follows .mixedOrders=true:=by kernel_rfl
 clear hS hok
 have HF:Hid (anyR S=a2R (a2L (ns S 40))):=by unfold Hid anyR;rw[if_neg (by rw[hk];decide),if_neg (by rw[hk];decide),if_pos hk]
 have HLd:Hid (a2L (ns S 40)=1000+(nv (nsI (ns S 40) 1000) 2).toNat):=rfl
 go_enter Tryz.func13,Tryz.ntmps13
 go_wp2_with fail
 refine(l1Next_any D b S 40 w HS0.out HOK.out (by omega)).mono ?_
 rintro e w1 ⟨rfl,hs1,hc1⟩
 have HS1:Hid (HSrc D w1 b (ns S 40)):=hs1
 have HC1:Hid (Chg (Sx1 b) w w1):=hc1
 have hz1:w.heap.size<=w1.heap.size:=hc1.size
 clear hs1 hc1 HS0
 rw[hk]
 generalize ns S 40=S1 at *
 generalize a2L S1=L at *
 have hL:L<=1001/\1000<=L:=by
  have hv:=nv_in (nsI_ok HOK1.out 1000) 2
  have hv':=hv.2 (by omega)
  have:=HLd.out
  omega
 have HE0:Hid (OwnR w1.heap.size w1.heap.size (w1.alloc (.cells #[] 36)) (.slice (some ⟨w1.heap.size,0,none⟩) 0 0) (a2R 0)):=ownR_none w1
 have HSA:Hid (HSrc D (w1.alloc (.cells #[] 36)) b (nsI S1 0)):=HS1.out.next (box1 _ _)
 have HCA:Hid (Chg (Sx1 b) w (w1.alloc (.cells #[] 36))):=HC1.out.trans (Chg.nx (box1 _ _))
 have HXA:Hid (w1.heap.size<=(w1.alloc (.cells #[] 36)).heap.size):=(show Nx w1 (w1.alloc (.cells #[] 36)) from box1 _ _).size
 go_upto_region 13 with fail
 generalize w1.alloc (.cells #[] 36)=wA at *
 clear HS1 HC1
 generalize hz1':w1.heap.size=Z1 at *
 clear hz1'
 go_wp2
 go_loopw [6,7] (λs6 s7 wr=>∃(k c:Nat) (a:Option Addr),k<=L/\s7=.int .i64 k/\s6=.slice a k c/\Hid (OwnR Z1 Z1 wr (.slice a k c) (a2R k))/\Hid (HSrc D wr b (nsI S1 k))/\Hid (Chg (Sx1 b) w wr)/\Hid (Z1<=wr.heap.size)) (λ_ i _=>L-(intOf i).toNat)
 case atStart=>exact⟨0,0,_,Nat.zero_le _,rfl,rfl,HE0,HSA,HCA,HXA⟩
 clear HE0 HSA HCA HXA
 obtain⟨k,c,a,hkL,rfl,rfl,HO,HS,HC,HZ⟩:=hrel
 have hv:=nv_in (nsI_ok HOK1.out k) 2
 have hv':=hv.2 (by omega)
 have HT:Hid (k<L↔(k:Int)<1000+nv (nsI S1 k) 2):=by
  have hd:=HLd.out
  unfold Hid
  by_cases e:k=1000
  ·subst e;omega
  ·by_cases e2:k=1001
   ·subst e2;omega
   ·omega
 go_wp2_with fail
 refine(l1Next_any D b (nsI S1 k) 2 wr HS.out (nsI_ok HOK1.out k) (by omega)).mono ?_
 rintro e w2 ⟨rfl,hs2,hc2⟩
 have HO2:Hid (OwnR Z1 Z1 w2 (.slice a k c) (a2R k)):=HO.out.src HS.out hc2
 have HS2:Hid (HSrc D w2 b (nsI S1 (k+1))):=hs2
 have HC2:Hid (Chg (Sx1 b) w w2):=HC.out.trans hc2
 have HZ2:Hid (Z1<=w2.heap.size):=Nat.le_trans HZ.out hc2.size
 clear hs2 hc2 HO HS HC HZ
 generalize nv (nsI S1 k) 2=d at *
 by_cases hlt:k<L
 ·have hl2:=HT.out.1 hlt
  clear HT
  have HQl:=mkHid' (a2R_len k)
  have HQs:Hid (a2R (k+1)=a2R k++[⟨-(k:Int),(k:Int)%2==0,[(k:Int)%5,(k:Int)%7]⟩]):=a2R_succ k
  have hzz:Z1<=w2.heap.size:=HZ2.out
  have HOz:Hid (OwnRb Z1 Z1 w2.heap.size w2 (.slice a k c) (a2R k)):=HO2.out.zb (Nat.le_refl _)
  generalize hWB:w2.alloc (.cells #[.int .i64 ((k:Int)%5),.int .i64 ((k:Int)%7)] 2)=wB
  have HUB:Hid (OwnI Z1 wB (.slice (some ⟨w2.heap.size,0,none⟩) 2 2) [(k:Int)%5,(k:Int)%7]):=by unfold Hid;rw[<-hWB];exact ownI_pair _ _ _ hzz
  have HOB:Hid (OwnRb Z1 Z1 w2.heap.size wB (.slice a k c) (a2R k)):=by unfold Hid;rw[<-hWB];exact HOz.out.next (box1 _ _)
  have HXB:Hid (Nx w2 wB):=by unfold Hid;rw[<-hWB];exact box1 _ _
  have hzB:Z1<=wB.heap.size:=Nat.le_trans hzz HXB.out.size
  have HGB:Hid (∀g,(Value.slice (some ⟨w2.heap.size,0,none⟩) 2 2).ownBlock=some g->w2.heap.size<=g):=λg e=>Nat.le_of_eq (Option.some.inj e)
  subst hWB
  go_wp2_with (at_builtin;generalize hX:wpList _ _ _ _ _ _=X)
  rw[<-hX]
  clear hX X
  refine(app_rule rfl _ _ rfl Z1 Z1 w2.heap.size k (.slice a k c) (a2R k) ⟨-(k:Int),(k:Int)%2==0,[(k:Int)%5,(k:Int)%7]⟩ (.slice (some ⟨w2.heap.size,0,none⟩) 2 2) (w2.alloc (.cells #[.int .i64 ((k:Int)%5),.int .i64 ((k:Int)%7)] 2)) rfl HOB.out HUB.out HGB.out (by simp[Act.eval]) HQl.out (by omega) hzB ?_)
  intro a1 c1 w3 r1 r2
  have HO3:Hid (OwnR Z1 Z1 w3 (.slice a1 (k+1) c1) (a2R (k+1))):=by unfold Hid;rw[HQs.out];exact r1
  have HCB:Hid (Chg (Sx1 b) w (w2.alloc (.cells #[.int .i64 ((k:Int)%5),.int .i64 ((k:Int)%7)] 2))):=HC2.out.trans (Chg.nx HXB.out)
  obtain⟨vs9,-,h19,-⟩:=HO2.out
  have HSB:Hid (HSrc D (w2.alloc (.cells #[.int .i64 ((k:Int)%5),.int .i64 ((k:Int)%7)] 2)) b (nsI S1 (k+1))):=HS2.out.next HXB.out
  have HS3:Hid (HSrc D w3 b (nsI S1 (k+1))):=HSB.out.row (row_next h19 HXB.out) (by decide) (by decide) r2
  have HC3:Hid (Chg (Sx1 b) w w3):=HCB.out.young r2 (λx hx hl=>by have:=(own_lt h19 x hx.symm).1;omega)
  have HZ3:Hid (Z1<=w3.heap.size):=Nat.le_trans hzB r2.size
  clear r1 r2 h19 HOz HOB HUB HXB hzB HSB HCB HO2 HS2 HC2
  go_wp2
  go_roundw
  case rel=>exact⟨k+1,c1,a1,by omega,by go_num,rfl,HO3,HS3,HC3,HZ3⟩
  case measure=>simp[intOf];omega
 have ek:k=L:=by omega
 have hl2:¬(k:Int)<1000+d:=λh=>hlt (HT.out.2 h)
 subst ek
 clear HT hlt
 have hz2:w.heap.size<=Z1:=by omega
 have HRU:Hid (HRules w.heap.size w2 (.slice a k c) (anyR S)):=by unfold Hid;rw[HF.out];exact(HO2.out.base hz2 hz2).rules
 clear HO2 HS2
 go_wp2
 go_ret
 exact⟨⟨_,rfl,HRU.out⟩,HC2.out⟩
theorem anyP (D b:Nat)(S:Src)(w:World)(hS:HSrc D w b S)(hok:SOk S)(h3:3<=nv S 40)(hn:¬(nv S 40<10/\0<(drRu (ns S 40)).length)) :
  Calls Tryz.prog 13 #[.pointer (some ⟨b,0,none⟩)] w λe w'=>(∃v,e=.returned v/\HRules w.heap.size w' v (anyR S))/\Chg (Sx1 b) w w':=by
 have HOK:Hid (SOk S):=hok
 have HOK1:Hid (SOk (ns S 40)):=ns_ok hok 40
 have HS0:Hid (HSrc D w b S):=hS
 have hmx:Tryz.prog.follows .mixedOrders=true:=by kernel_rfl
 clear hS hok
 have HF:Hid (anyR S=drRu (ns S 40)):=by unfold Hid anyR;rw[if_neg (by omega),if_neg (by omega),if_neg (by omega),if_neg hn]
 have hk40:=nv_in HOK.out 40
 have hk40':=hk40.2 (by omega)
 have HDN:Hid (¬(nv S 40<10/\0<(drRu (ns S 40)).length)):=hn
 clear hn
 go_enter Tryz.func13,Tryz.ntmps13
 go_wp2_with fail
 refine(l1Next_any D b S 40 w HS0.out HOK.out (by omega)).mono ?_
 rintro e w1 ⟨rfl,hs1,hc1⟩
 have HS1:Hid (HSrc D w1 b (ns S 40)):=hs1
 have HC1:Hid (Chg (Sx1 b) w w1):=hc1
 have hz1:w.heap.size<=w1.heap.size:=hc1.size
 clear hs1 hc1 HS0
 generalize nv S 40=kk at *
 have dk0:(kk==0)=false:=by simp;omega
 have dk1:(kk==1)=false:=by simp;omega
 have dk2:(kk==2)=false:=by simp;omega
 go_wp2_with fail
 refine(l3DrawRules_any D b (ns S 40) w1 HS1.out HOK1.out).mono ?_
 rintro e w2 ⟨⟨v,rfl,hr⟩,hs2,hc2⟩
 have HRU:Hid (HRules w.heap.size w2 v (anyR S)):=by unfold Hid;rw[HF.out];exact(hr.base hz1 hz1).rules
 have HC2:Hid (Chg (Sx1 b) w w2):=HC1.out.trans hc2
 have hrl:=hr
 obtain⟨va,vn,vc,ev⟩:=OwnR.slc hr
 subst ev
 have hvn:vn=(drRu (ns S 40)).length:=by
  obtain⟨vs,-,h1,-⟩:=hrl
  obtain⟨a9,c9,e9⟩:=row_slice h1
  simp only[Value.slice.injEq] at e9
  exact e9.2.1
 clear hr hs2 hc2 HC1 HS1 hrl
 by_cases h10:kk<10
 ·have hv0:vn=0:=by have:=HDN.out;omega
  clear hvn HDN
  subst hv0
  go_wp2
  go_ret
  exact⟨⟨_,rfl,HRU.out⟩,HC2.out⟩
 ·clear hvn HDN
  go_wp2
  go_ret
  exact⟨⟨_,rfl,HRU.out⟩,HC2.out⟩
end Go.Proofs.YtdpfdkihbgmapaaGreat
