import Derived.Test.YtdpfdkihbgmapaaDS
import Derived.Test.YtdpfdkihbgmapaaVA
import Derived.Test.YtdpfdkihbgmapaaXAC
namespace Go.Proofs.Ytdpfdkihbgmapaa
open Go.RowKit Go.Sort
set_option linter.unusedVariables false
set_option maxRecDepth 1000000
set_option maxHeartbeats 16000000
def rlQ1 (c:Int)(S:Src):List Int×Src:=sqTo c (ns S (2+S.size/2)) (2+nv S (2+S.size/2)).toNat
def rlB (i:Nat)(x:List Int×Src):Bool:=decide (0<i)&&decide (nv x.2 3=0)
def rlC (i:Nat)(x:List Int×Src):Src:=if 0<i then ns x.2 3 else x.2
def rlP (i:Nat)(rules:List Ru)(S:Src):List Int:=(ruat rules (nv S i).toNat).seq
def rlJ (i:Nat)(rules:List Ru)(x:List Int×Src):List Int×Src:=
 if rlB i x=true then ((rlP i rules (rlC i x)).drop (nv (ns (rlC i x) i) (rlP i rules (rlC i x)).length).toNat++x.1,ns (ns (rlC i x) i) (rlP i rules (rlC i x)).length)
 else (x.1,rlC i x)
def rlE (x:List Int×Src):List Int×Src:=if nv x.2 12=0 then (x.1.set (nv (ns x.2 12) x.1.length).toNat 3999,ns (ns x.2 12) x.1.length) else (x.1,ns x.2 12)
structure RlSt where
 rules:List Ru
 S:Src
def rlX (c:Int)(i:Nat)(y:RlSt):List Int×Src:=rlE (rlJ i y.rules (rlQ1 c y.S))
def rlStep (c:Int)(i:Nat)(y:RlSt):RlSt:=⟨y.rules++[⟨(i:Int),nv (rlX c i y).2 3==0,(rlX c i y).1⟩],ns (rlX c i y).2 3⟩
def rlTo (c:Int)(y:RlSt):Nat->RlSt
 |0=>y
 |k+1=>rlStep c k (rlTo c y k)
def rlL (S:Src):Int:=1+nv (ns S 4) 3
def rlS3 (S:Src):Src:=ns (ns S 4) 3
def rlN (S:Src):Int:=1+nv (rlS3 S) (3+(rlS3 S).size)
def rlZ (S:Src):RlSt:=rlTo (rlL S) ⟨[],ns (rlS3 S) (3+(rlS3 S).size)⟩ (rlN S).toNat
def drRu (S:Src):List Ru:=if nv S 4=0 then (resOf (riNet (ns S 4))).rules else (rlZ S).rules
def drSr (S:Src):Src:=if nv S 4=0 then riS (ns S 4) else (rlZ S).S
structure QOk (m:Nat)(x:List Int×Src):Prop where
 ok:SOk x.2
 two:2<=x.1.length
 len:x.1.length<=m
 inn:∀y∈x.1,0<=y/\y<4000
theorem rlQ1_ok {c:Int}{S:Src}(h:SOk S)(h1:1<=c)(h2:c<=3):QOk 7 (rlQ1 c S)/\(2+nv S (2+S.size/2)).toNat=(rlQ1 c S).1.length:=by
 have hv:=nv_in h (2+S.size/2)
 have hz:=h.size
 have hl:=sqTo_len c (ns S (2+S.size/2)) (2+nv S (2+S.size/2)).toNat
 have:=hv.2 (by omega)
 refine⟨⟨sqTo_ok (ns_ok h _) _,?_,?_,λy hy=>?_⟩,hl.symm⟩
 ·show 2<=(sqTo _ _ _).1.length
  rw[hl];omega
 ·show(sqTo _ _ _).1.length<=7
  rw[hl];omega
 ·have:=sqTo_in (c:=c) (ns_ok h _) h1 _ y hy
  omega
theorem rlC_ok {i:Nat}{x:List Int×Src}(h:SOk x.2):SOk (rlC i x):=by unfold rlC;split<;>first|exact ns_ok h _|exact h
theorem rlJ_ok {i m:Nat}{rules:List Ru}{x:List Int×Src}(h:QOk 7 x)(hr:RGd i m rules)(hl:rules.length=i):QOk (m+7) (rlJ i rules x):=by
 have hc:=rlC_ok (i:=i) h.ok
 unfold rlJ
 by_cases hb:rlB i x=true
 ·rw[if_pos hb]
  have hi:0<i:=by
   unfold rlB at hb
   simp at hb
   exact hb.1
  have hv:=nv_in hc i
  have hlt:(nv (rlC i x) i).toNat<rules.length:=by have:=hv.2 (by omega);omega
  have hm:ruat rules (nv (rlC i x) i).toNat∈rules:=by rw[ruat_eq hlt];exact List.getElem_mem hlt
  have he:=hr.each _ hm
  have hp:(rlP i rules (rlC i x)).length<=m:=he.2.1
  have hin:∀y∈rlP i rules (rlC i x),0<=y/\y<4000:=he.2.2
  refine⟨ns_ok (ns_ok hc _) _,?_,?_,λy hy=>?_⟩
  ·show 2<=(_++x.1).length
   rw[List.length_append]
   have:=h.two
   omega
  ·show(_++x.1).length<=_
   rw[List.length_append,List.length_drop]
   have:=h.len
   omega
  ·rcases List.mem_append.1 hy with g|g
   ·exact hin y (List.mem_of_mem_drop g)
   ·exact h.inn y g
 ·rw[if_neg hb]
  exact⟨hc,h.two,by have:=h.len;show x.1.length<=_;omega,h.inn⟩
theorem rlE_ok {m:Nat}{x:List Int×Src}(h:QOk m x):QOk m (rlE x):=by
 unfold rlE
 split
 ·refine⟨ns_ok (ns_ok h.ok _) _,by show 2<=(x.1.set _ _).length;rw[List.length_set];exact h.two,by show(x.1.set _ _).length<=_;rw[List.length_set];exact h.len,λy hy=>?_⟩
  rcases List.mem_or_eq_of_mem_set hy with g|g
  ·exact h.inn y g
  ·rw[g];omega
 ·exact⟨ns_ok h.ok 12,h.two,h.len,h.inn⟩
structure RlOk (k:Nat)(y:RlSt):Prop where
 ok:SOk y.S
 len:y.rules.length=k
 good:RGd k (7*k) y.rules
theorem rlTo_ok {c:Int}{y:RlSt}(h1:1<=c)(h2:c<=3)(h:RlOk 0 y):∀k,RlOk k (rlTo c y k)
 |0=>h
 |k+1=>by
  have ih:=rlTo_ok h1 h2 h k
  have hq:QOk (7*k+7) (rlX c k (rlTo c y k)):=rlE_ok (rlJ_ok (rlQ1_ok ih.ok h1 h2).1 ih.good ih.len)
  refine⟨ns_ok hq.ok 3,by show(_++[_]).length=_;rw[List.length_append,ih.len];rfl,?_⟩
  exact(ih.good.up (Nat.le_refl _) (by omega)).snoc hq.two (by have:=hq.len;show(rlX c k (rlTo c y k)).1.length<=_;omega) hq.inn
theorem rlN_in {S:Src}(h:SOk S):1<=rlN S/\rlN S<=11:=by
 have h3:SOk (rlS3 S):=ns_ok (ns_ok h _) _
 have hv:=nv_in h3 (3+(rlS3 S).size)
 have hz:=h3.size
 have:=hv.2 (by omega)
 unfold rlN
 omega
theorem rlL_in {S:Src}(h:SOk S):1<=rlL S/\rlL S<=3:=by
 have hv:=nv_in (ns_ok h 4) 3
 have:=hv.2 (by omega)
 unfold rlL
 omega
theorem rl0_ok {S:Src}(h:SOk S):RlOk 0 ⟨[],ns (rlS3 S) (3+(rlS3 S).size)⟩:=⟨ns_ok (ns_ok (ns_ok h _) _) _,rfl,RGd.nil _ _⟩
theorem dr_ok {S:Src}(h:SOk S):SOk (drSr S)/\RGd 11 77 (drRu S):=by
 unfold drSr drRu
 by_cases e:nv S 4=0
 ·rw[if_pos e,if_pos e]
  exact⟨(ri_few (ns_ok h 4)).1,(res_good (ns_ok h 4)).up (by omega) (by omega)⟩
 ·rw[if_neg e,if_neg e]
  have hk:=rlTo_ok (rlL_in h).1 (rlL_in h).2 (rl0_ok h) (rlN S).toNat
  have:=rlN_in h
  exact⟨hk.ok,hk.good.up (by omega) (by omega)⟩
theorem OwnR.src {C E D b:Nat}{w w':World}{v:Value}{xs:List Ru}{S:Src}(h:OwnR C E w v xs)(hS:HSrc D w b S)(hc:Chg (Sx1 b) w w'):OwnR C E w' v xs:=by
 obtain⟨vs,h0,h1,h2⟩:=h
 exact⟨vs,h0,row_src h1 hS (by decide) hc,λi hi=>row_src (h2 i hi) hS (by decide) hc⟩
def OwnRZ (B Z:Nat)(w:World)(v:Value)(xs:List Ru):Prop:=∃vs:List Value,vs.length=xs.length/\w.ownsRow B 70 3 v xs.length (rcells xs vs)/\∀i,i<xs.length->OwnI B w (vat vs i) (ruat xs i).seq/\∀g,(vat vs i).ownBlock=some g->g<Z
theorem OwnRZ.r {B Z:Nat}{w:World}{v:Value}{xs:List Ru}(h:OwnRZ B Z w v xs):OwnR B B w v xs:=by
 obtain⟨vs,h0,h1,h2⟩:=h
 exact⟨vs,h0,h1,λi hi=>(h2 i hi).1⟩
theorem OwnR.z {B Z:Nat}{w:World}{v:Value}{xs:List Ru}(h:OwnR B B w v xs)(hz:w.heap.size<=Z):OwnRZ B Z w v xs:=by
 obtain⟨vs,h0,h1,h2⟩:=h
 exact⟨vs,h0,h1,λi hi=>⟨h2 i hi,λg hg=>by have:=(own_lt (h2 i hi) g hg).2;omega⟩⟩
structure RLs (B D b Z:Nat)(w0 w:World)(S:Src)(v:Value)(rk:List Ru)(q:Value)(l:List Int):Prop where
 rules:OwnRZ B Z w v rk
 src:HSrc D w b S
 chg:Chg (Sx1 b) w0 w
 row:OwnI Z w q l
 hz:Z<=w.heap.size
 hB:B<=Z
 h0:w0.heap.size<=Z
section
variable {B D b Z:Nat}{w0 w w':World}{S S':Src}{v q:Value}{rk:List Ru}{l:List Int}
theorem RLs.drawn (h:RLs B D b Z w0 w S v rk q l)(hs:HSrc D w' b S')(hc:Chg (Sx1 b) w w'):RLs B D b Z w0 w' S' v rk q l:=by
 obtain⟨vs,e0,e1,e2⟩:=h.rules
 exact⟨⟨vs,e0,row_src e1 h.src (by decide) hc,λi hi=>⟨row_src (e2 i hi).1 h.src (by decide) hc,(e2 i hi).2⟩⟩,hs,h.chg.trans hc,row_src h.row h.src (by decide) hc,Nat.le_trans h.hz hc.size,h.hB,h.h0⟩
theorem RLs.next {q':Value}{l':List Int}(h:RLs B D b Z w0 w S v rk q l)(k:Nx w w')(hr:OwnI Z w' q' l'):RLs B D b Z w0 w' S v rk q' l':=by
 obtain⟨vs,e0,e1,e2⟩:=h.rules
 exact⟨⟨vs,e0,row_next e1 k,λi hi=>⟨(e2 i hi).1.next k,(e2 i hi).2⟩⟩,h.src.next k,h.chg.trans (Chg.nx k),hr,Nat.le_trans h.hz k.size,h.hB,h.h0⟩
theorem RLs.write {g n c:Nat}{cs:Array Value}(h:RLs B D b Z w0 w S v rk (.slice (some ⟨g,0,none⟩) n c) l)(hn:l.length=n)(hb:BT w g cs 2)(hg:Z<=g)(i:Nat)(z:Int):RLs B D b Z w0 (w.setCell ⟨g,i,none⟩ (.int .i64 z)) S v rk (.slice (some ⟨g,0,none⟩) n c) (l.set i z):=by
 have hc:Chg (λx=>x=g) w (w.setCell ⟨g,i,none⟩ (.int .i64 z)):=Chg.set _ _ _ rfl
 obtain⟨vs,e0,e1,e2⟩:=h.rules
 refine⟨⟨vs,e0,row_setBT e1 hb (by decide) _ _,λj hj=>⟨row_chg (e2 j hj).1 hc (λx hx e=>?_),(e2 j hj).2⟩⟩,h.src.set hb (by decide) (by decide) i _,h.chg.young hc (λx hx hl=>?_),h.row.setAt hn z,Nat.le_trans h.hz hc.size,h.hB,h.h0⟩
 ·have e':x=g:=e
  have:=(e2 j hj).2 x hx
  omega
 ·have e':x=g:=hx
  have:=h.h0
  omega
end
theorem OwnR.slc {C E:Nat}{w:World}{v:Value}{xs:List Ru}(h:OwnR C E w v xs):∃a m c,v=.slice a m c:=by
 obtain⟨vs,h0,h1,h2⟩:=h
 obtain⟨a,c,e⟩:=row_slice h1
 exact⟨a,_,c,e⟩
theorem OwnD.slc {C:Nat}{w:World}{v:Value}{xs:List Dp}(h:OwnD C w v xs):∃a m c,v=.slice a m c:=by
 obtain⟨a,c,e⟩:=row_slice h
 exact⟨a,_,c,e⟩
theorem field_res (a d:Option Addr)(b c e f:Nat)(w:World):(Instr.field 73 (.agg #[.slice a b c,.slice d e f]) 0).run Try.prog w=.ok (.slice a b c) w:=by kernel_rfl
attribute [local go_sem] field_res
theorem l3DrawRules_any (D b:Nat)(S:Src)(w:World)(hS:HSrc D w b S)(hok:SOk S) :
  Calls Try.prog 18 #[.pointer (some ⟨b,0,none⟩)] w λe w'=>(∃v,e=.returned v/\OwnR w.heap.size w.heap.size w' v (drRu S))/\HSrc D w' b (drSr S)/\Chg (Sx1 b) w w':=by
 have HS0:Hid (HSrc D w b S):=hS
 have HOK:Hid (SOk S):=hok
 have HOK1:Hid (SOk (ns S 4)):=ns_ok hok 4
 have hv0:=nv_in hok 4
 clear hS hok
 go_enter Try.func18,Try.ntmps18
 go_wp2_with fail
 refine(l1Next_any D b S 4 w HS0.out HOK.out (by omega)).mono ?_
 rintro e w1 ⟨rfl,hs1,hc1⟩
 have HS1:Hid (HSrc D w1 b (ns S 4)):=hs1
 have HC1:Hid (Chg (Sx1 b) w w1):=hc1
 clear hs1 hc1 HS0
 have HRu:Hid (drRu S=if nv S 4=0 then (resOf (riNet (ns S 4))).rules else (rlZ S).rules):=rfl
 have HSr:Hid (drSr S=if nv S 4=0 then riS (ns S 4) else (rlZ S).S):=rfl
 generalize hd0:nv S 4=d0 at *
 have HD0:Hid (nv S 4=d0):=hd0
 clear hd0
 by_cases e0:d0=0
 ·subst e0
  rw[if_pos rfl] at HRu HSr
  go_wp2_with fail
  refine(l2DrawRich_any D b (ns S 4) w1 HS1.out HOK1.out).mono ?_
  rintro e w2 ⟨v0,v1,v2,v3,vn,vw,vr,rfl,hN,hs2,hc2⟩
  have HF:=mkHid' (ri_few HOK1.out)
  have HN:Hid (HNet (w1.heap.size+1) w2 v0 v1 v2 v3 (riNet (ns S 4))):=hN.held
  have HW:Hid (wsum (riNet (ns S 4)).ways (riNet (ns S 4)).ways.length<=1048576):=by
   have h1:=wsum_3 (riNet (ns S 4)).ways (riNet (ns S 4)).ways.length HF.out.2.2.1
   have h2:=HF.out.2.1
   show _<=1048576
   omega
  have HS2:Hid (HSrc D w2 b (riS (ns S 4))):=hs2
  have HC2:Hid (Chg (Sx1 b) w w2):=HC1.out.trans hc2
  clear hN hs2 hc2 HS1 HC1
  go_wp2_with fail
  refine(specResolve_any (w1.heap.size+1) v0 v1 v2 v3 (riNet (ns S 4)) w2 HN.out HW.out).mono ?_
  rintro e w3 ⟨⟨x0,x1,rfl,hr,hd⟩,hx3⟩
  have HR3:Hid (OwnR w.heap.size w.heap.size w3 x0 (drRu S)):=by
   unfold Hid
   rw[HRu.out]
   exact hr.base HC2.out.size HC2.out.size
  have HS3:Hid (HSrc D w3 b (drSr S)):=by unfold Hid;rw[HSr.out];exact HS2.out.next hx3
  have HC3:Hid (Chg (Sx1 b) w w3):=HC2.out.trans (Chg.nx hx3)
  obtain⟨a0,m0,c0,rfl⟩:=HR3.out.slc
  obtain⟨a1,m1,c1,rfl⟩:=hd.slc
  clear hr hd hx3 HN HW HS2 HC2 HF
  go_wp2
  go_ret
  exact⟨⟨_,rfl,HR3.out⟩,HS3.out,HC3.out⟩
 have e0':(d0==0)=false:=by simpa using e0
 rw[if_neg e0] at HRu HSr
 have HL:=mkHid' (rlL_in HOK.out)
 have HNN:=mkHid' (rlN_in HOK.out)
 have HLd:Hid (rlL S=1+nv (ns S 4) 3):=rfl
 have HNd:Hid (rlN S=1+nv (ns (ns S 4) 3) (3+(ns (ns S 4) 3).size)):=rfl
 have HZ0:=mkHid' (rl0_ok HOK.out)
 have HZd:Hid (rlZ S=rlTo (rlL S) ⟨[],ns (rlS3 S) (3+(rlS3 S).size)⟩ (rlN S).toNat):=rfl
 have HOK3:Hid (SOk (rlS3 S)):=ns_ok HOK1.out 3
 have HS3d:Hid (rlS3 S=ns (ns S 4) 3):=rfl
 go_wp2_with fail
 refine(l1Next_any D b (ns S 4) 3 _ (HS1.out.next (box1 _ _)) HOK1.out (by omega)).mono ?_
 rintro e w2 ⟨rfl,hs2,hc2⟩
 have HR2:Hid (OwnR w1.heap.size w1.heap.size w2 (.slice (some ⟨w1.heap.size,0,none⟩) 0 0) []):=(ownR_none w1).src (HS1.out.next (box1 _ _)) hc2
 have HS2:Hid (HSrc D w2 b (rlS3 S)):=hs2
 have HC2:Hid (Chg (Sx1 b) w w2):=(HC1.out.trans (Chg.nx (box1 _ _))).trans hc2
 have hz1:w.heap.size<=w1.heap.size:=HC1.out.size
 have hlc:1+nv (ns S 4) 3=rlL S:=rfl
 have hl3:=HL.out
 rw[<-HS3d.out] at HNd
 generalize hL:rlL S=L at *
 have hv3:=nv_in HOK1.out 3
 generalize nv (ns S 4) 3=d3 at *
 clear hs2 hc2 HS1 HC1 hL
 have cS:=HS2.out.size
 have hsz:=HOK3.out.size
 generalize rlS3 S=S3 at *
 generalize hsz3:S3.size=z3 at *
 clear HLd HS3d hsz3
 go_wp2_with fail
 refine(l1Next_any D b S3 (3+z3) w2 HS2.out HOK3.out (by omega)).mono ?_
 rintro e w3 ⟨rfl,hs3,hc3⟩
 have HR3:Hid (OwnR w1.heap.size w1.heap.size w3 (.slice (some ⟨w1.heap.size,0,none⟩) 0 0) []):=HR2.out.src HS2.out hc3
 have HS3:Hid (HSrc D w3 b (ns S3 (3+z3))):=hs3
 have HC3:Hid (Chg (Sx1 b) w w3):=HC2.out.trans hc3
 have hn3:=HNN.out
 obtain⟨cn,hcn⟩:∃cn:Nat,rlN S=cn:=⟨(rlN S).toNat,by omega⟩
 rw[hcn,Int.toNat_natCast] at HZd
 have hcd:1+nv S3 (3+z3)=(cn:Int):=by rw[<-HNd.out];exact hcn
 have hcn2:cn<=11:=by omega
 have hvd:=nv_in HOK3.out (3+z3)
 generalize nv S3 (3+z3)=d4 at *
 generalize hy0:(⟨[],ns S3 (3+z3)⟩:RlSt)=y0 at *
 have HR3:Hid (OwnR w.heap.size w.heap.size w3 (.slice (some ⟨w1.heap.size,0,none⟩) 0 0) y0.rules):=by unfold Hid;rw[<-hy0];exact HR3.out.base hz1 hz1
 have HS3:Hid (HSrc D w3 b y0.S):=by unfold Hid;rw[<-hy0];exact HS3.out
 have HOKk:Hid (∀k,RlOk k (rlTo L y0 k)):=rlTo_ok hl3.1 hl3.2 HZ0.out
 rw[HZd.out] at HRu HSr
 clear hs3 hc3 HR2 HS2 HC2 hy0 HZ0 HZd HNd HNN hcn cS hn3
 have d1:d3=L-1:=by omega
 have d2:d4=(cn:Int)-1:=by omega
 subst d1 d2
 go_wp2
 go_loopw [3,6] (λs3 s6 wr=>∃(k c1:Nat) (a:Option Addr),k<=cn/\s6=.int .i64 (k:Int)/\s3=.slice a k c1/\Hid (OwnR w.heap.size w.heap.size wr (.slice a k c1) (rlTo L y0 k).rules)/\Hid (HSrc D wr b (rlTo L y0 k).S)/\Hid (Chg (Sx1 b) w wr)) (λ_ i _=>cn-(intOf i).toNat)
 case atStart=>exact⟨0,0,_,Nat.zero_le _,rfl,rfl,HR3,HS3,HC3⟩
 clear HR3 HS3 HC3
 obtain⟨k,c1,a,hk,rfl,rfl,HR,HS,HC⟩:=hrel
 by_cases hlt:k<cn
 ·
  have hlt':(k:Int)<(cn:Int):=by omega
  have HST:Hid (rlTo L y0 (k+1)=rlStep L k (rlTo L y0 k)):=rfl
  have HKK:=mkHid' (HOKk.out k)
  generalize rlTo L y0 k=y at *
  obtain⟨rk,sk⟩:=y
  have HST2:Hid (rlTo L y0 (k+1)=⟨rk++[⟨(k:Int),nv (rlE (rlJ k rk (rlQ1 L sk))).2 3==0,(rlE (rlJ k rk (rlQ1 L sk))).1⟩],ns (rlE (rlJ k rk (rlQ1 L sk))).2 3⟩):=HST.out
  clear HST
  have HOKs:Hid (SOk sk):=HKK.out.ok
  have HLR:Hid (rk.length=k):=HKK.out.len
  have HGD:Hid (RGd k (7*k) rk):=HKK.out.good
  have HQ1:=mkHid' (rlQ1_ok HOKs.out hl3.1 hl3.2)
  have HQd:Hid (rlQ1 L sk=sqTo L (ns sk (2+sk.size/2)) (2+nv sk (2+sk.size/2)).toNat):=rfl
  clear HKK HOKk
  simp only at HR HS
  have cS:=HS.out.size
  have hsz:=HOKs.out.size
  have hzw:w.heap.size<=wr.heap.size:=HC.out.size
  go_wp2_with fail
  refine(l1Next_any D b sk (2+sk.size/2) wr HS.out HOKs.out (by omega)).mono ?_
  rintro e w1 ⟨rfl,hs1,hc1⟩
  have HR1:Hid (OwnR w.heap.size w.heap.size w1 (.slice a k c1) rk):=HR.out.src HS.out hc1
  have HS1:Hid (HSrc D w1 b (ns sk (2+sk.size/2))):=hs1
  have HC1:Hid (Chg (Sx1 b) w w1):=HC.out.trans hc1
  have hw1:wr.heap.size<=w1.heap.size:=hc1.size
  have hv1:=nv_in HOKs.out (2+sk.size/2)
  have hv2:=hv1.2 (by omega)
  obtain⟨n1,hn1⟩:∃n1:Nat,2+nv sk (2+sk.size/2)=n1:=⟨(2+nv sk (2+sk.size/2)).toNat,by omega⟩
  have hn7:n1<=7:=by omega
  rw[hn1,Int.toNat_natCast] at HQ1 HQd
  have HK1:Hid (SOk (ns sk (2+sk.size/2))):=ns_ok HOKs.out _
  have hd1:nv sk (2+sk.size/2)=(n1:Int)-2:=by omega
  rw[hd1]
  clear hn1 hv1 hv2 hs1 hc1 HR HS HC cS hd1
  have hn2:2<=n1:=by have:=HQ1.out.1.two;have:=HQ1.out.2;omega
  have hnn:(2:Int)+((n1:Int)-2)=(n1:Int):=by omega
  go_wp2_with fail
  refine(l3DrawSeq_any D b (ns sk (2+sk.size/2)) n1 L w1 HS1.out HK1.out (by omega) (by omega)).mono ?_
  rintro e w2 ⟨⟨aq,cq,rfl,hq⟩,hs2,hc2⟩
  rw[<-HQd.out] at hq hs2
  generalize rlQ1 L sk=x1 at *
  have HRZ:Hid (OwnRZ w.heap.size w1.heap.size w2 (.slice a k c1) rk):=by
   obtain⟨vs,e0,e1,e2⟩:=HR1.out.z (Nat.le_refl w1.heap.size)
   exact⟨vs,e0,row_src e1 HS1.out (by decide) hc2,λi hi=>⟨row_src (e2 i hi).1 HS1.out (by decide) hc2,(e2 i hi).2⟩⟩
  have H2:Hid (RLs w.heap.size D b w1.heap.size w w2 x1.2 (.slice a k c1) rk (.slice aq n1 cq) x1.1):=⟨HRZ.out,hs2,HC1.out.trans hc2,hq,hc2.size,by omega,by omega⟩
  have HXL:Hid (x1.1.length=n1):=HQ1.out.2.symm
  have HXO:Hid (QOk 7 x1):=HQ1.out.1
  clear hq hs2 hc2 HRZ HR1 HS1 HC1 HQd HQ1 HK1
  generalize hZ:w1.heap.size=Z at *
  clear hZ
  have HJ:Hid (rlJ k rk x1=if rlB k x1=true then ((rlP k rk (rlC k x1)).drop (nv (ns (rlC k x1) k) (rlP k rk (rlC k x1)).length).toNat++x1.1,ns (ns (rlC k x1) k) (rlP k rk (rlC k x1)).length) else (x1.1,rlC k x1)):=rfl
  have HJO:=mkHid' (rlJ_ok HXO.out HGD.out HLR.out)
  have HBd:Hid (rlB k x1=(decide (0<k)&&decide (nv x1.2 3=0))):=rfl
  have HCd:Hid (rlC k x1=if 0<k then ns x1.2 3 else x1.2):=rfl
  have HCO:=mkHid' (rlC_ok (i:=k) HXO.out.ok)
  generalize rlC k x1=SC at *
  generalize rlB k x1=bJ at *
  generalize rlJ k rk x1=x2 at *
  go_upto_region 10 with fail
  go_cut [51] from 45 to 50 (λs51 wc=>s51=.bool bJ/\Hid (RLs w.heap.size D b Z w wc SC (.slice a k c1) rk (.slice aq n1 cq) x1.1))
  case first=>
   by_cases hk0:0<k
   ·have hki:decide ((0:Int)<(k:Int))=true:=by simp;omega
    have hkz:(0:Int)<(k:Int):=by omega
    have hSe:SC=ns x1.2 3:=by rw[HCd.out,if_pos hk0]
    have HBe:Hid (bJ=decide (nv x1.2 3=0)):=by unfold Hid;rw[HBd.out];simp[hk0]
    clear HBd HCd
    go_wp2_with fail
    refine(l1Next_any D b x1.2 3 w2 H2.out.src HXO.out.ok (by omega)).mono ?_
    rintro e w3 ⟨rfl,hs3,hc3⟩
    have H3:=mkHid' (H2.out.drawn hs3 hc3)
    rw[<-hSe] at H3
    clear hs3 hc3 hSe
    generalize nv x1.2 3=d3 at *
    have HB5:Hid (bJ=(d3==0)):=by unfold Hid;rw[HBe.out];rfl
    clear HBe
    go_wp2
    go_meet
    exact⟨by rw[HB5.out],H3⟩
   ·have hki:decide ((0:Int)<(k:Int))=false:=by simp;omega
    have hSe:SC=x1.2:=by rw[HCd.out,if_neg hk0]
    have HBe:Hid (bJ=false):=by unfold Hid;rw[HBd.out];simp[hk0]
    have H3:=mkHid' H2.out
    rw[<-hSe] at H3
    clear HBd HCd hSe
    go_wp2
    go_meet
    exact⟨by rw[HBe.out],H3⟩
  case rest=>
  obtain⟨rfl,H3⟩:=hcut
  go_upto_if 51 with fail
  go_cut [7,8] from 52 to 66 (λs7 s8 wq=>∃(n2 c2:Nat) (a2:Option Addr),s7=.slice a2 n2 c2/\Hid (x2.1.length=n2)/\Hid (RLs w.heap.size D b Z w wq x2.2 (.slice a k c1) rk (.slice a2 n2 c2) x2.1))
  case first=>
   cases bJ with
   |false=>
    rw[if_neg (by decide)] at HJ
    have e1:x2.1=x1.1:=by rw[HJ.out]
    have e2:x2.2=SC:=by rw[HJ.out]
    have HF:Hid (x2.1.length=n1/\RLs w.heap.size D b Z w wc x2.2 (.slice a k c1) rk (.slice aq n1 cq) x2.1):=by
     unfold Hid
     rw[e1,e2]
     exact⟨HXL.out,H3.out⟩
    clear e1 e2
    go_wp2
    go_meet
    exact⟨n1,cq,aq,rfl,HF.out.1,HF.out.2⟩
   |true=>
    rw[if_pos rfl] at HJ
    have hk0:0<k:=by have h:=HBd.out;simp at h;exact h.1
    have hvk:=nv_in HCO.out k
    have HPd:Hid (rlP k rk SC=(ruat rk (nv SC k).toNat).seq):=rfl
    obtain⟨i1,hi1⟩:∃i1:Nat,nv SC k=i1:=⟨(nv SC k).toNat,by omega⟩
    have hi1k:i1<k:=by have:=hvk.2 (by omega);omega
    have hi1k':(i1:Int)<k:=by omega
    rw[hi1,Int.toNat_natCast] at HPd
    have HM:Hid (ruat rk i1∈rk):=by
     have hlt:i1<rk.length:=by rw[HLR.out];exact hi1k
     unfold Hid
     rw[ruat_eq hlt]
     exact List.getElem_mem hlt
    have HE1:Hid (2<=(rlP k rk SC).length/\(rlP k rk SC).length<=7*k):=by
     unfold Hid
     rw[HPd.out]
     have:=HGD.out.each _ HM.out
     exact⟨this.1,this.2.1⟩
    clear hvk
    go_wp2_with fail
    refine(l1Next_any D b SC k wc H3.out.src HCO.out (by omega)).mono ?_
    rintro e w4 ⟨rfl,hs4,hc4⟩
    have H4:=mkHid' (H3.out.drawn hs4 hc4)
    clear hs4 hc4
    rw[hi1]
    clear hi1
    obtain⟨g,u,ea,-,-,cu,hu⟩:=H4.out.rules.r.at (i:=i1) (by rw[HLR.out];exact hi1k)
    subst ea
    rw[<-HPd.out] at hu
    generalize hP:rlP k rk SC=P at *
    have hm2:=HE1.out
    generalize hPL:P.length=m at *
    have HPL:Hid (P.length=m):=hPL
    obtain⟨g2,q2,cs2,e2,-,hcap,-,-⟩:=hu.open (by rw[HPL.out];omega)
    rw[HPL.out] at e2 hcap
    subst e2
    have HU:Hid (OwnI w.heap.size w4 (.slice (some ⟨g2,0,none⟩) m q2) P):=hu
    have HO4:Hid (SOk (ns SC k)):=ns_ok HCO.out _
    clear hu hPL hP
    go_wp2_with fail
    refine(l1Next_any D b (ns SC k) m w4 H4.out.src HO4.out (by omega)).mono ?_
    rintro e w5 ⟨rfl,hs5,hc5⟩
    have H5:=mkHid' (H4.out.drawn hs5 hc5)
    have HU5:Hid (OwnI w.heap.size w5 (.slice (some ⟨g2,0,none⟩) m q2) P):=row_src HU.out H4.out.src (by decide) hc5
    clear hs5 hc5
    have hvm:=nv_in HO4.out m
    obtain⟨i2,hi2⟩:∃i2:Nat,nv (ns SC k) m=i2:=⟨(nv (ns SC k) m).toNat,by omega⟩
    have hi2m:i2<m:=by have:=hvm.2 (by omega);omega
    have hi2m':(i2:Int)<m:=by omega
    rw[hi2] at HJ ⊢
    rw[Int.toNat_natCast] at HJ
    clear hi2 hvm
    have hne:¬q2=i2:=by omega
    have HD:Hid (HInts w.heap.size w5 (.slice (some ⟨g2,i2,none⟩) (m-i2) (q2-i2)) (P.drop i2)):=by
     obtain⟨a9,c9,e9,hm9,k9⟩:=HU5.out.held
     have hh:HInts w.heap.size w5 (.slice (some ⟨g2,0,none⟩) m q2) P:=HU5.out.held
     exact hh.drop (by omega) _ (λb off e h=>by simp at e;obtain⟨rfl,rfl⟩:=e;simp)
    have HI:Hid (HInts Z w5 (.slice aq n1 cq) x1.1):=H5.out.row.held
    have HLP:Hid ((P.drop i2).length=m-i2):=by unfold Hid;rw[List.length_drop,HPL.out]
    go_wp2_with fail
    refine(l2Plus_any w.heap.size Z _ _ (P.drop i2) x1.1 w5 HD.out HI.out (by rw[HLP.out];omega) (by rw[HXL.out];omega)).mono ?_
    rintro e w6 ⟨⟨u6,rfl,ho6⟩,hx6⟩
    have e1:x2.1=P.drop i2++x1.1:=by rw[HJ.out]
    have e2:x2.2=ns (ns SC k) m:=by rw[HJ.out]
    rw[<-e1] at ho6
    obtain⟨a6,c6,e6⟩:=ho6.slice
    subst e6
    have HF:Hid (RLs w.heap.size D b Z w w6 x2.2 (.slice (some ⟨g,0,none⟩) k c1) rk (.slice a6 x2.1.length c6) x2.1):=by
     unfold Hid
     rw[e2]
     exact H5.out.next hx6 (ho6.base H5.out.hz)
    clear ho6 hx6 e1 e2 HJ HD HI
    go_wp2
    go_meet
    exact⟨_,_,_,rfl,rfl,HF⟩
  case rest=>
  clear HJ H3 HXL HXO HCO HBd HCd
  obtain⟨n2,c2,a2,rfl,HX2,H4⟩:=hcut
  have HEd:Hid (rlE x2=if nv x2.2 12=0 then (x2.1.set (nv (ns x2.2 12) x2.1.length).toNat 3999,ns (ns x2.2 12) x2.1.length) else (x2.1,ns x2.2 12)):=rfl
  have HEO:=mkHid' (rlE_ok HJO.out)
  have HO2:Hid (SOk x2.2):=HJO.out.ok
  have h2n:2<=n2:=by have:=HJO.out.two;have:=HX2.out;omega
  have h2m:n2<=7*k+7:=by have:=HJO.out.len;have:=HX2.out;omega
  rw[HX2.out] at HEd
  generalize rlE x2=x3 at *
  go_wp2_with fail
  refine(l1Next_any D b x2.2 12 wc H4.out.src HO2.out (by omega)).mono ?_
  rintro e w5 ⟨rfl,hs5,hc5⟩
  have H5:=mkHid' (H4.out.drawn hs5 hc5)
  have HO5:Hid (SOk (ns x2.2 12)):=ns_ok HO2.out 12
  clear hs5 hc5 H4
  generalize nv x2.2 12=d12 at *
  go_upto_if 69 with fail
  generalize hbd:(d12==0)=bd
  have HBD:Hid (d12=0↔bd=true):=by unfold Hid;rw[<-hbd];simp
  clear hbd
  go_cut [] from 70 to 75 (λwq=>Hid (RLs w.heap.size D b Z w wq x3.2 (.slice a k c1) rk (.slice a2 n2 c2) x3.1))
  case first=>
   cases bd with
   |false=>
    rw[if_neg (by rw[HBD.out];decide)] at HEd
    have e1:x3.1=x2.1:=by rw[HEd.out]
    have e2:x3.2=ns x2.2 12:=by rw[HEd.out]
    have HF:Hid (RLs w.heap.size D b Z w w5 x3.2 (.slice a k c1) rk (.slice a2 n2 c2) x3.1):=by unfold Hid;rw[e1,e2];exact H5.out
    clear e1 e2 HEd
    go_wp2
    go_meet
    exact HF
   |true=>
    rw[if_pos (by rw[HBD.out])] at HEd
    go_wp2_with fail
    refine(l1Next_any D b (ns x2.2 12) n2 w5 H5.out.src HO5.out (by omega)).mono ?_
    rintro e w6 ⟨rfl,hs6,hc6⟩
    have H6:=mkHid' (H5.out.drawn hs6 hc6)
    clear hs6 hc6
    have hvm:=nv_in HO5.out n2
    obtain⟨i3,hi3⟩:∃i3:Nat,nv (ns x2.2 12) n2=i3:=⟨(nv (ns x2.2 12) n2).toNat,by omega⟩
    have hi3m:i3<n2:=by have:=hvm.2 (by omega);omega
    have hi3m':(i3:Int)<n2:=by omega
    rw[hi3] at HEd ⊢
    rw[Int.toNat_natCast] at HEd
    clear hi3 hvm
    obtain⟨g2,q2,cs2,e2,hg2,-,hb2,hc2⟩:=H6.out.row.open (by rw[HX2.out];omega)
    rw[HX2.out] at e2 hc2
    simp only[Value.slice.injEq] at e2
    obtain⟨ea,-,ec⟩:=e2
    subst ea ec
    have cy:w6.cell? ⟨g2,i3,none⟩=some (.int .i64 (iat x2.1 i3)):=hc2 i3 hi3m
    have fy:=hb2.blk.frozen i3
    have HB2:Hid (BT w6 g2 cs2 2):=hb2
    generalize iat x2.1 i3=zz at *
    have e1:x3.1=x2.1.set i3 3999:=by rw[HEd.out]
    have e2:x3.2=ns (ns x2.2 12) n2:=by rw[HEd.out]
    have HF:Hid (RLs w.heap.size D b Z w (w6.setCell ⟨g2,i3,none⟩ (.int .i64 3999)) x3.2 (.slice a k c1) rk (.slice (some ⟨g2,0,none⟩) n2 c2) x3.1):=by
     unfold Hid
     rw[e1,e2]
     exact H6.out.write HX2.out HB2.out hg2 i3 3999
    clear e1 e2 HEd hb2 hc2
    go_wp2
    go_meet
    exact HF
  case rest=>
  clear H5 HEd
  have H6:=hcut
  have HO3:Hid (SOk x3.2):=HEO.out.ok
  go_wp2_with fail
  refine(l1Next_any D b x3.2 3 wc H6.out.src HO3.out (by omega)).mono ?_
  rintro e w7 ⟨rfl,hs7,hc7⟩
  have H7:=mkHid' (H6.out.drawn hs7 hc7)
  clear hs7 hc7 H6 hcut
  have HU7:Hid (OwnI w.heap.size w7 (.slice a2 n2 c2) x3.1):=H7.out.row.base H7.out.hB
  have HST3:Hid (rlTo L y0 (k+1)=⟨rk++[⟨(k:Int),(nv x3.2 3==0),x3.1⟩],ns x3.2 3⟩):=HST2.out
  have hz7:w.heap.size<=w7.heap.size:=Nat.le_trans H7.out.hB H7.out.hz
  clear HST2
  generalize nv x3.2 3=d7 at *
  go_wp2_with (at_builtin;refine app_rule rfl _ _ rfl w.heap.size w.heap.size k (.slice a k c1) rk ⟨(k:Int),(d7==0),x3.1⟩ (.slice a2 n2 c2) w7 rfl H7.out.rules.r HU7.out rfl HLR.out (by omega) hz7 ?_)
  intro a8 c8 w8 r1 r2
  have HR8:Hid (OwnR w.heap.size w.heap.size w8 (.slice a8 (k+1) c8) (rlTo L y0 (k+1)).rules):=by unfold Hid;rw[HST3.out];exact r1
  have HRW:Hid (∃cells,w7.ownsRow w.heap.size 70 3 (.slice a k c1) k cells):=by
   obtain⟨vs,-,h1,-⟩:=H7.out.rules
   rw[HLR.out] at h1
   exact⟨_,h1⟩
  have HS8:Hid (HSrc D w8 b (rlTo L y0 (k+1)).S):=by
   unfold Hid
   rw[HST3.out]
   obtain⟨cells,h1⟩:=HRW.out
   exact H7.out.src.row h1 (by decide) (by decide) r2
  have HC8:Hid (Chg (Sx1 b) w w8):=by
   obtain⟨cells,h1⟩:=HRW.out
   exact H7.out.chg.young r2 (λx hx hl=>by have:=(own_lt h1 x hx.symm).1;omega)
  clear r1 r2 HRW
  go_wp2
  go_roundw
  case rel=>exact⟨k+1,c8,a8,by omega,by go_num,rfl,HR8,HS8,HC8⟩
  case measure=>simp[intOf];omega
 have hkn:k=cn:=by omega
 subst hkn
 go_wp2
 go_ret
 exact⟨⟨_,rfl,by rw[HRu.out];exact HR.out⟩,by rw[HSr.out];exact HS.out,HC.out⟩
end Go.Proofs.Ytdpfdkihbgmapaa
