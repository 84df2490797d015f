import Derived.Test.YtdpfdkihbgmapaaGreatUA
import Derived.Test.YtdpfdkihbgmapaaGreatEC
import Derived.Test.YtdpfdkihbgmapaaGreatDH
namespace Go.Proofs.YtdpfdkihbgmapaaGreat
open Go.RowKit Go.Sort
set_option linter.unusedVariables false
set_option maxRecDepth 1000000
set_option maxHeartbeats 16000000
theorem rn_as {P q:List Int}{i:Nat}(hi:i<P.length):rnB P i q=(decide (q.length<=i+1)&&allN q.length (λt=>iat P (i+1-q.length+t)==iat q t)):=by
 have hl:(P.take (i+1)).length=i+1:=by rw[List.length_take];omega
 unfold rnB sufB
 rw[hl]
 by_cases c:q.length<=i+1
 ·congr 1
  unfold allN
  rw[Bool.eq_iff_iff,List.all_eq_true,List.all_eq_true]
  constructor
  ·intro h t ht
   have:=h t ht
   rw[List.mem_range] at ht
   rw[iat_take (by omega)] at this
   exact this
  ·intro h t ht
   have:=h t ht
   rw[List.mem_range] at ht
   rw[iat_take (by omega)]
   exact this
 ·simp[c]
theorem lwRun_any (B B':Nat)(v v':Value)(P q:List Int)(i:Nat)(w:World)(h0:HInts B w v P)(h1:HInts B' w v' q)(hi:i<P.length)(hPl:P.length<=1000000) :
  Calls Tryz.prog 26 #[v,.int .i64 i,v'] w λe w'=>e=.returned (.bool (rnB P i q))/\Nx w w':=by
 have HSD:Hid (rnB P i q=(decide (q.length<=i+1)&&allN q.length (λt=>iat P (i+1-q.length+t)==iat q t))):=rn_as hi
 obtain⟨a,cap,rfl,hn,hk⟩:=h0
 obtain⟨a',cap',rfl,hn',hk'⟩:=h1
 unfold maxLen at hn hn'
 generalize P.length=n at *
 generalize q.length=m at *
 by_cases e1:m<=i+1
 case neg=>
  have d1:decide ((i:Int)+1<m)=true:=by simp;omega
  have d2:(i:Int)+1<m:=by omega
  have HF:Hid (false=rnB P i q):=by unfold Hid;rw[HSD.out];simp[e1]
  go_enter Tryz.func26,Tryz.ntmps26
  go_wp2
  go_ret
  exact⟨ret_bool HF.out,Nx.refl _⟩
 have d1:decide ((i:Int)+1<m)=false:=by simp;omega
 have d2:¬(i:Int)+1<m:=by omega
 obtain⟨d,hd⟩:∃d,i+1-m=d:=⟨_,rfl⟩
 have HS2:Hid (rnB P i q=allN m (λt=>iat P (d+t)==iat q t)):=by
  unfold Hid
  rw[HSD.out,hd]
  simp[e1]
 have hdi:i+1=m+d:=by omega
 clear HSD hd
 go_enter Tryz.func26,Tryz.ntmps26
 go_wp2
 clear d1 d2
 go_loopw [7] (λj wr=>∃k:Nat,k<=m/\j=.int .i64 k/\Hid (allTo (λt=>iat P (d+t)==iat q t) k)/\Hid (Nx w wr)) (λj _=>m-(intOf j).toNat)
 case atStart=>exact⟨0,Nat.zero_le _,rfl,allTo_zero _,Nx.refl _⟩
 obtain⟨k,hkm,rfl,HA,HN⟩:=hrel
 by_cases hlt:k<m
 case neg=>
  have HF:Hid (true=rnB P i q):=by unfold Hid;rw[HS2.out,allN_yes (by omega) HA.out]
  go_wp2
  go_ret
  exact⟨ret_bool HF.out,HN.out⟩
 obtain⟨b,off,rfl,_,hb,hc⟩:=hk (by omega)
 obtain⟨b',off',rfl,_,hb',hc'⟩:=hk' (by omega)
 have x0:=cell_next HN.out hb (hc (d+k) (by omega))
 have y0:=cell_next HN.out hb' (hc' k hlt)
 have hlt':(k:Int)<m:=by omega
 have w0:IntKind.i64.wrap ((i:Int)+1)=(i:Int)+1:=by rw[IntKind.wrap_i64];omega
 have w1:IntKind.i64.wrap ((i:Int)+1-m)=(d:Int):=by rw[IntKind.wrap_i64];omega
 have w2:IntKind.i64.wrap ((d:Int)+k)=(d:Int)+k:=by rw[IntKind.wrap_i64];omega
 have hdk:(d:Int)+k<n:=by omega
 clear hc hc' hk hk' hdi
 cases g:(iat P (d+k)==iat q k)
 case false=>
  have g':(iat P (d+k) !=iat q k)=true:=by simpa using g
  have HF:Hid (false=rnB P i q):=by unfold Hid;rw[HS2.out,allN_no hlt g]
  clear g
  go_wp2
  go_quiet (fail)
  go_wp2
  go_ret
  exact⟨ret_bool HF.out,HN.out.trans ⟨rfl,rfl,rfl,Nat.le_refl _,λ_ _=>rfl⟩⟩
 case true=>
  have g':(iat P (d+k) !=iat q k)=false:=by simpa using g
  have HG:Hid ((iat P (d+k)==iat q k)=true):=g
  clear g
  go_wp2
  go_quiet (fail)
  go_wp2
  go_roundw
  case rel=>exact⟨k+1,by omega,by go_num,allTo_succ HA.out HG.out,HN.out.trans ⟨rfl,rfl,rfl,Nat.le_refl _,λ_ _=>rfl⟩⟩
  case measure=>simp[intOf];omega
theorem lwCopy_any (B:Nat)(v:Value)(zs:List Int)(w:World)(h:HInts B w v zs)(hl:zs.length<=100000) :
  Calls Tryz.prog 12 #[v] w λe w'=>(∃a c,e=.returned (.slice a zs.length c)/\OwnI w.heap.size w' (.slice a zs.length c) zs)/\Nx w w':=by
 obtain⟨va,vc,rfl,_,hk⟩:=h
 generalize hn:zs.length=n at *
 have HN:Hid (zs.length=n):=hn
 have HK:Hid (0<n->∃b off,va=some ⟨b,off,none⟩/\B<=b/\b<w.heap.size/\∀i,i<n->w.cell? ⟨b,off+i,none⟩=some (.int .i64 (iat zs i))):=hk
 clear hk hn
 have HE0:Hid (OwnI w.heap.size (w.alloc (.cells #[] 2)) (.slice (some ⟨w.heap.size,0,none⟩) 0 0) (zs.take 0)):=ownI_none _ _ (Nat.le_refl _)
 have HX0:Hid (Nx w (w.alloc (.cells #[] 2))):=box1 _ _
 go_enter Tryz.func12,Tryz.ntmps12
 go_upto_region 2 with fail
 generalize w.alloc (.cells #[] 2)=w0 at *
 go_wp2
 go_loopw [3,4] (λs3 s4 wr=>∃(k c:Nat) (a:Option Addr),k<=n/\s4=.int .i64 k/\s3=.slice a k c/\Hid (OwnI w.heap.size wr (.slice a k c) (zs.take k))/\Hid (Nx w wr)) (λ_ i _=>n-(intOf i).toNat)
 case atStart=>exact⟨0,0,_,Nat.zero_le _,rfl,rfl,HE0,HX0⟩
 clear HE0 HX0
 obtain⟨k,c,a,hkn,rfl,rfl,HO,HX⟩:=hrel
 by_cases hlt:k<n
 case neg=>
  have ek:k=n:=by omega
  subst ek
  have HF:Hid (OwnI w.heap.size wr (.slice a k c) zs):=by
   have h:=HO.out
   rw[List.take_of_length_le (by rw[HN.out];exact Nat.le_refl _)] at h
   exact h
  go_wp2
  go_ret
  exact⟨⟨a,c,rfl,HF.out⟩,HX.out⟩
 obtain⟨cb,co,rfl,_,hcb,hc⟩:=HK.out (by omega)
 have cy:=cell_next HX.out hcb (hc k hlt)
 have hlt':(k:Int)<n:=by omega
 have HTL:Hid ((zs.take k).length=k):=by unfold Hid;rw[List.length_take,HN.out];omega
 have HTS:Hid (zs.take (k+1)=zs.take k++[iat zs k]):=take_iat (by rw[HN.out];exact hlt)
 have hzz:w.heap.size<=wr.heap.size:=HX.out.size
 clear hc
 generalize iat zs k=y at *
 go_wp2_with (at_builtin;refine app_int rfl _ _ rfl w.heap.size k (.slice a k c) (zs.take k) y wr rfl HO.out rfl HTL.out (by omega) hzz ?_)
 intro a1 c1 w1 r1 r2 r3
 have HO1:Hid (OwnI w.heap.size w1 (.slice a1 (k+1) c1) (zs.take (k+1))):=by unfold Hid;rw[HTS.out];exact r1
 have HX1:Hid (Nx w w1):=Below.trans HX.out (r2.below HX.out.size (λx hx=>(own_lt HO.out x hx.symm).1))
 clear r1 r2 r3 cy
 go_wp2
 go_roundw
 case rel=>exact⟨k+1,c1,a1,by omega,by go_num,rfl,HO1,HX1⟩
 case measure=>simp[intOf];omega
def lwV (bs:List UInt8)(i n:Nat):Nat:=if n<=1 then 0 else if bs.length=0 then (i*7)%n else ((bs.getD (i%bs.length) 0).toNat+i/bs.length)%n
theorem lwV_lt {bs:List UInt8}{i n:Nat}(h:1<=n):lwV bs i n<n:=by
 unfold lwV
 split
 ·omega
 ·split
  ·exact Nat.mod_lt _ (by omega)
  ·exact Nat.mod_lt _ (by omega)
theorem lwAt_any (B:Nat)(v:Value)(bs:List UInt8)(i n:Nat)(w:World)(h:HBy B w v bs)(hi:i<=1000)(hn:n<=1000000)(hl:bs.length<=1048576) :
  Calls Tryz.prog 10 #[v,.int .i64 i,.int .i64 n] w λe w'=>e=.returned (.int .i64 (lwV bs i n:Int))/\Nx w w':=by
 have HD:Hid (lwV bs i n=if n<=1 then 0 else if bs.length=0 then (i*7)%n else ((bs.getD (i%bs.length) 0).toNat+i/bs.length)%n):=rfl
 obtain⟨va,vc,rfl,_,hk⟩:=h
 generalize hm:bs.length=m at *
 clear hm
 by_cases h1:n<=1
 ·have d1:decide ((n:Int)<=1)=true:=by simp;omega
  have d2:(n:Int)<=1:=by omega
  have HF:Hid ((0:Int)=(lwV bs i n:Int)):=by unfold Hid;rw[HD.out,if_pos h1];rfl
  go_enter Tryz.func10,Tryz.ntmps10
  go_wp2
  go_ret
  exact⟨ret_int HF.out,Nx.refl _⟩
 have d1:decide ((n:Int)<=1)=false:=by simp;omega
 have d2:¬(n:Int)<=1:=by omega
 have dn:(n:Int)≠0:=by omega
 by_cases h2:m=0
 ·subst h2
  have HF:Hid (((i:Int)*7).tmod n=(lwV bs i n:Int)):=by
   unfold Hid
   rw[HD.out,if_neg h1,if_pos rfl]
   simp[Int.tmod_eq_emod_of_nonneg (show(0:Int)<=(i:Int)*7 by omega)]
  have w1:IntKind.i64.wrap ((i:Int)*7)=(i:Int)*7:=by rw[IntKind.wrap_i64];omega
  go_enter Tryz.func10,Tryz.ntmps10
  go_wp2
  go_ret
  exact⟨ret_int HF.out,Nx.refl _⟩
 obtain⟨b,off,rfl,-,hb,hc⟩:=hk (by omega)
 obtain⟨r,hr⟩:∃r,i%m=r:=⟨_,rfl⟩
 obtain⟨q,hq⟩:∃q,i/m=q:=⟨_,rfl⟩
 have hrm:r<m:=by rw[<-hr];exact Nat.mod_lt _ (by omega)
 have hqi:q<=1000:=by rw[<-hq];exact Nat.le_trans (Nat.div_le_self _ _) hi
 have xc:w.cell? ⟨b,off+r,none⟩=some (.int .u8 (byteAt bs r)):=hc r hrm
 obtain⟨y,hy⟩:∃y:Nat,(bs.getD r 0).toNat=y:=⟨_,rfl⟩
 have hyb:byteAt bs r=(y:Int):=by unfold byteAt;rw[hy]
 have hy2:y<256:=by rw[<-hy];exact(bs.getD r 0).toNat_lt
 rw[hyb] at xc
 have t1:((i:Int)).tmod m=(r:Int):=by rw[Int.tmod_eq_emod_of_nonneg (by omega),<-hr];simp
 have t2:((i:Int)).tdiv m=(q:Int):=by rw[Int.tdiv_eq_ediv_of_nonneg (by omega),<-hq];simp
 have w2:IntKind.i64.wrap ((y:Int)+q)=(y:Int)+q:=by rw[IntKind.wrap_i64];omega
 have w3:IntKind.i64.wrap (y:Int)=(y:Int):=by rw[IntKind.wrap_i64];omega
 have w4:IntKind.i64.wrap (r:Int)=(r:Int):=by rw[IntKind.wrap_i64];omega
 have w5:IntKind.i64.wrap (q:Int)=(q:Int):=by rw[IntKind.wrap_i64];omega
 have dm:(m:Int)≠0:=by omega
 have dm':((m:Int)==0)=false:=by simp;omega
 have hrm':(r:Int)<m:=by omega
 obtain⟨z,hz⟩:∃z,(y+q)%n=z:=⟨_,rfl⟩
 have hzn:z<n:=by rw[<-hz];exact Nat.mod_lt _ (by omega)
 have t3:((y:Int)+q).tmod n=(z:Int):=by rw[Int.tmod_eq_emod_of_nonneg (by omega),<-hz];simp
 have w6:IntKind.i64.wrap (z:Int)=(z:Int):=by rw[IntKind.wrap_i64];omega
 have HF:Hid ((z:Int)=(lwV bs i n:Int)):=by unfold Hid;rw[HD.out,if_neg h1,if_neg h2,hr,hq,hy,hz]
 clear hc hk hr hq hy hyb hz HD
 go_enter Tryz.func10,Tryz.ntmps10
 go_wp2
 go_quiet (fail)
 go_wp2
 go_ret
 exact⟨ret_int HF.out,⟨rfl,rfl,rfl,Nat.le_refl _,λ_ _=>rfl⟩⟩
theorem kp_no {rs:List Ru}{P:List Int}{i j n m:Nat}(hn:rs.length=n)(hm:P.length=m)(hi:i<m)(hj:j<n)(h:kpAt rs P i j=false):false=kpB rs P:=by
 subst hn hm
 unfold kpB
 rw[allN_no hi (show kpI rs P i=false from allN_no hj h)]
theorem kp_row {rs:List Ru}{P:List Int}{i j n:Nat}(hn:rs.length=n)(hj:n<=j)(h:allTo (kpAt rs P i) j):kpI rs P i=true:=by
 subst hn
 exact allN_yes hj h
theorem lwKeeps_any (B B':Nat)(v v':Value)(rs:List Ru)(P:List Int)(w:World)(h0:HRules B w v rs)(h1:HInts B' w v' P)(hg:∀i,i<rs.length->2<=(ratA rs i).seq.length)(hPl:P.length<=10000) :
  Calls Tryz.prog 11 #[v,v'] w λe w'=>e=.returned (.bool (kpB rs P))/\Nx w w':=by
 have HX:Hid (HInts B' w v' P):=h1
 have HGD:Hid (∀i,i<rs.length->2<=(ratA rs i).seq.length):=hg
 clear hg
 obtain⟨a,cap,rfl,hn,hk⟩:=h0
 obtain⟨a',cap',rfl,hn',hk'⟩:=h1
 unfold maxLen at hn hn'
 generalize hz:rs.length=n at *
 have HZ:Hid (rs.length=n):=hz
 clear hz
 generalize hz:P.length=m at *
 have HZP:Hid (P.length=m):=hz
 clear hz
 have HK:Hid (0<n->∃b off,a=some ⟨b,off,none⟩/\B<=b/\b<w.heap.size/\∀i,i<n->HRule B w b (off+i*3) (ratA rs i)):=hk
 have HKP:Hid (0<m->∃b off,a'=some ⟨b,off,none⟩/\B'<=b/\b<w.heap.size/\∀i,i<m->w.cell? ⟨b,off+i,none⟩=some (.int .i64 (iat P i))):=hk'
 clear hk hk'
 go_enter Tryz.func11,Tryz.ntmps11
 go_wp2
 go_loopw [5] (λs5 wr=>∃i:Nat,i<=m/\s5=.int .i64 i/\Hid (allTo (kpI rs P) i)/\Hid (Nx w wr)) (λs5 _=>m-(intOf s5).toNat)
 case atStart=>exact⟨0,Nat.zero_le _,rfl,allTo_zero _,Nx.refl _⟩
 obtain⟨i,him,rfl,HAI,HN⟩:=hrel
 by_cases hlt:i<m
 case neg=>
  have HF:Hid (true=kpB rs P):=by unfold Hid kpB;rw[HZP.out,allN_yes (by omega) HAI.out]
  go_wp2
  go_ret
  exact⟨ret_bool HF.out,HN.out⟩
 obtain⟨bp,op,rfl,-,hbp,hcp⟩:=HKP.out (by omega)
 have HCP:Hid (∀i,i<m->w.cell? ⟨bp,op+i,none⟩=some (.int .i64 (iat P i))):=hcp
 clear hcp HKP
 have hlt':(i:Int)<m:=by omega
 obtain⟨wo,hwo⟩:∃wo:World,wo=wr:=⟨_,rfl⟩
 rw[<-hwo] at HN
 rw[<-hwo]
 clear hwo
 go_wp2
 go_loopw [6,7] (λs6 s7 wr=>∃j:Nat,j<=n/\s6=.int .i64 j/\Hid (allTo (kpAt rs P i) j)/\Hid (Nx w wr)) (λs6 _ _=>n-(intOf s6).toNat)
 case atStart=>exact⟨0,Nat.zero_le _,rfl,allTo_zero _,HN⟩
 clear HN
 obtain⟨j,hjn,rfl,HA,HN⟩:=hrel
 by_cases hj:j<n
 case neg=>
  have HF:Hid (kpI rs P i=true):=kp_row HZ.out (by omega) HA.out
  go_wp2
  go_roundw
  case rel=>exact⟨i+1,by omega,by go_num,allTo_succ HAI.out HF.out,HN⟩
  case measure=>simp[intOf];omega
 obtain⟨b,off,rfl,-,hb,hc⟩:=HK.out (by omega)
 obtain⟨sa,sc,c0,c1,c2,hS,hcap⟩:=hc j hj
 have c1:=cell_next HN.out hb c1
 have c2:=cell_next HN.out hb c2
 have hj':(j:Int)<n:=by omega
 have h2:=HGD.out j hj
 have HS:Hid (HInts B w (.slice sa (ratA rs j).seq.length sc) (ratA rs j).seq):=hS
 have HKD:Hid (kpAt rs P i j=(!(!(ratA rs j).only&&rnB P i (ratA rs j).seq)&&!((ratA rs j).only&&(decide (i+1<P.length)&&(rnB P i ((ratA rs j).seq.take ((ratA rs j).seq.length-1))&&(iat P (i+1) !=iat (ratA rs j).seq ((ratA rs j).seq.length-1))))))):=rfl
 rw[HZP.out] at HKD
 have HNO:Hid (kpAt rs P i j=false->false=kpB rs P):=kp_no HZ.out HZP.out hlt hj
 obtain⟨sa',sc',e',hsn,hsk⟩:=hS
 simp only[Value.slice.injEq] at e'
 obtain⟨rfl,-,rfl⟩:=e'
 unfold maxLen at hsn
 generalize ratA rs j=x at *
 generalize hq:x.seq.length=q at *
 clear hq
 obtain⟨p,rfl⟩:∃p,q=p+1:=⟨q-1,by omega⟩
 rw[Nat.add_sub_cancel] at HKD
 obtain⟨b',off',rfl,-,hb',hc'⟩:=hsk (by omega)
 have z0:=cell_next HN.out hb' (hc' p (by omega))
 have w1:IntKind.i64.wrap ((p:Int)+1-1)=(p:Int):=by rw[IntKind.wrap_i64];omega
 have w2:((p:Int)+1-1)=(p:Int):=by omega
 have w3:IntKind.i64.wrap ((i:Int)+1)=(i:Int)+1:=by rw[IntKind.wrap_i64];omega
 have hp1:(p:Int)<(p:Int)+1:=by omega
 have hp2:(p:Int)<=sc:=by omega
 have hp3:p<=sc:=by omega
 have wp:=wrapJ p (by omega)
 clear hc c0 hc' hsk
 generalize iat x.seq p=l at *
 cases g1:x.only
 case false=>
  rw[g1] at c1 HKD
  clear g1
  go_wp2_with fail
  refine(lwRun_any B' B _ _ P x.seq i _ (by exact HX.out.next HN.out) (by exact HS.out.next HN.out) (by rw[HZP.out];exact hlt) (by rw[HZP.out];omega)).mono ?_
  rintro e w1 ⟨rfl,hx⟩
  have HN1:Hid (Nx w w1):=HN.out.trans hx
  have c1:=cellq' hx c1
  clear hx c2 z0
  cases g2:rnB P i x.seq
  case true=>
   have HF:Hid (false=kpB rs P):=HNO.out (by rw[HKD.out,g2];rfl)
   clear g2
   go_wp2
   go_ret
   exact⟨ret_bool HF.out,HN1.out⟩
  case false=>
   have HF:Hid (kpAt rs P i j=true):=by unfold Hid;rw[HKD.out,g2];rfl
   clear g2
   go_wp2
   go_quiet (fail)
   go_wp2
   go_roundw
   case rel=>exact⟨j+1,by omega,by go_num,allTo_succ HA.out HF.out,HN1.out.trans ⟨rfl,rfl,rfl,Nat.le_refl _,λ_ _=>rfl⟩⟩
   case measure=>simp[intOf];omega
 case true=>
 rw[g1] at c1 HKD
 clear g1
 by_cases h3:i+1<m
 case neg=>
  have d3:decide ((i:Int)+1<m)=false:=by simp;omega
  have HF:Hid (kpAt rs P i j=true):=by unfold Hid;rw[HKD.out,decide_eq_false h3];rfl
  go_wp2
  go_quiet (fail)
  go_wp2
  go_roundw
  case rel=>exact⟨j+1,by omega,by go_num,allTo_succ HA.out HF.out,HN.out.trans ⟨rfl,rfl,rfl,Nat.le_refl _,λ_ _=>rfl⟩⟩
  case measure=>simp[intOf];omega
 have d3:decide ((i:Int)+1<m)=true:=by simp;omega
 have h3':(i:Int)+1<m:=by omega
 rw[decide_eq_true h3] at HKD
 have x1:=cell_next HN.out hbp (HCP.out (i+1) h3)
 have HU:Hid (HInts B wr (.slice (some ⟨b',off',none⟩) p sc) (x.seq.take p)):=(HS.out.take (Nat.le_succ _) _).next HN.out
 have HXr:Hid (HInts B' wr (.slice (some ⟨bp,op,none⟩) m cap') P):=HX.out.next HN.out
 have CG:Hid (∀d os,Calls Tryz.prog 26 #[.slice (some ⟨bp,op,none⟩) m cap',.int .i64 i,.slice (some ⟨b',off',none⟩) p sc] (Sort.grow (redrawn wr d) os) λe w''=>e=.returned (.bool (rnB P i (x.seq.take p)))/\∃p:Regrown,w''=Sort.grow (redrawn wr p.d) p.os):=
  λd os=>Calls.regrown_of (lwRun_any B' B _ _ P (x.seq.take p) i _ (HXr.out.next (below_regrown wr d os)) (HU.out.next (below_regrown wr d os)) (by rw[HZP.out];exact hlt) (by rw[HZP.out];omega))
 generalize rnB P i (x.seq.take p)=eB at CG HKD
 generalize iat P (i+1)=y at *
 have k1:=cell_regrown c1
 have k2:=cell_regrown c2
 have k3:=cell_regrown z0
 have k4:=cell_regrown x1
 go_upto_region 10 with fail
 clear c1 c2 z0 x1
 cases eB with
 |false=>
  have HF:Hid (kpAt rs P i j=true):=by unfold Hid;rw[HKD.out];rfl
  refine wp_region_quiet_below (by kernel_rfl) (by kernel_rfl) ?_
  repeat (go_big_quiet_step (exact CG.out _ _))
  refine wpQuiet_nil ?_
  intro _ hw'
  obtain⟨⟨dq,osq⟩,hw''⟩:=hw'
  subst hw''
  have HQ1:Hid (Nx wr (Sort.grow (redrawn wr dq) osq)):=below_regrown wr dq osq
  clear k1 k2 k3 k4 CG
  generalize Sort.grow (redrawn wr dq) osq=wq at *
  have HNq:Hid (Nx w wq):=HN.out.trans HQ1.out
  go_wp2
  go_roundw
  case rel=>exact⟨j+1,by omega,by go_num,allTo_succ HA.out HF.out,HNq⟩
  case measure=>simp[intOf];omega
 |true=>
  by_cases hy:y=l
  ·have d4:(y !=l)=false:=by simpa using hy
   have HF:Hid (kpAt rs P i j=true):=by unfold Hid;rw[HKD.out,d4];rfl
   clear hy
   refine wp_region_quiet_below (by kernel_rfl) (by kernel_rfl) ?_
   repeat (go_big_quiet_step (exact CG.out _ _))
   refine wpQuiet_nil ?_
   intro _ hw'
   obtain⟨⟨dq,osq⟩,hw''⟩:=hw'
   subst hw''
   have HQ1:Hid (Nx wr (Sort.grow (redrawn wr dq) osq)):=below_regrown wr dq osq
   clear k1 k2 k3 k4 CG
   generalize Sort.grow (redrawn wr dq) osq=wq at *
   have HNq:Hid (Nx w wq):=HN.out.trans HQ1.out
   go_wp2
   go_roundw
   case rel=>exact⟨j+1,by omega,by go_num,allTo_succ HA.out HF.out,HNq⟩
   case measure=>simp[intOf];omega
  ·have d4:(y !=l)=true:=by simpa using hy
   have HF:Hid (false=kpB rs P):=HNO.out (by rw[HKD.out,d4];rfl)
   clear hy
   refine wp_region_quiet_below (by kernel_rfl) (by kernel_rfl) ?_
   repeat (go_big_quiet_step (exact CG.out _ _))
   refine wpQuiet_nil ?_
   intro _ hw'
   obtain⟨⟨dq,osq⟩,hw''⟩:=hw'
   subst hw''
   have HQ1:Hid (Nx wr (Sort.grow (redrawn wr dq) osq)):=below_regrown wr dq osq
   clear k1 k2 k3 k4 CG
   generalize Sort.grow (redrawn wr dq) osq=wq at *
   have HNq:Hid (Nx w wq):=HN.out.trans HQ1.out
   go_wp2
   go_ret
   exact⟨ret_bool HF.out,HNq.out⟩
end Go.Proofs.YtdpfdkihbgmapaaGreat
