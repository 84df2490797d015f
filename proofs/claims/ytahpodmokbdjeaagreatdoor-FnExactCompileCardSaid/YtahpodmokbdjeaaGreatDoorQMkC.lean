import Derived.Test.YtahpodmokbdjeaaGreatDoorQMkA
import Derived.Test.YtahpodmokbdjeaaGreatDoorQNets
namespace Go.Proofs.YtahpodmokbdjeaaGreatDoor
open Go.RowKit Tryz
set_option linter.unusedVariables false
set_option maxHeartbeats 16000000
theorem Q29 (B:Nat)(w0 w1:World)(v:Value)(zs:List Wy)(w:World)(k:Int)(h0:Jy B w0 v zs)(hm:Mk B w0 w1 w)(hs:zs.length<=1048576)(hs1:∀i,i<zs.length->(wat zs i).nodes.length<=1048576/\(wat zs i).weights.length<=1048576)(hk0:0<=k)(hk1:k<=1152921504606846976) :
  Calls prog 44 #[v,iV k] w λe w'=>(∃r:Int,e=.returned (iV r)/\k<=r/\r<=k+zs.length*4194304)/\Mk B w0 w1 w':=by
 obtain⟨a,cap,rfl,hn,hk⟩:=h0
 generalize hz:zs.length=n at *
 clear hz hn
 go_enter func44,ntmps44
 go_wp2
 go_loopw [1,5] (λc i wr=>∃j:Nat,∃r:Int,j<=n/\i=iV j/\c=iV r/\(k<=r/\r<=k+j*4194304)/\Z (Mk B w0 w1 wr)) (λ_ i _=>n-(intOf i).toNat)
 case atStart=>exact⟨0,k,nZ,rfl,rfl,by omega,hm⟩
 case round=>
  obtain⟨j,r,hjn,rfl,rfl,⟨hr0,hr1⟩,HM⟩:=hrel
  clear hm
  by_cases hlt:j<n
  ·obtain⟨b,off,rfl,hB,hb,hc⟩:=hk (by omega)
   obtain⟨p2,p3,a0,a1,a2,a3,n2,n3⟩:=hc j hlt
   obtain⟨q2,m2,rfl,_⟩:=n2.slice
   obtain⟨q3,m3,rfl,_⟩:=n3.slice
   obtain⟨y0,c0,f0⟩:=HM.o.int hB hb a0
   obtain⟨y1,c1,f1⟩:=HM.o.bool hB hb a1
   have c2:=HM.o.slice hB hb a2
   have c3:=HM.o.slice hB hb a3
   have HM':Z (∀(x0:Int) (x1:Bool),Mk B w0 w1 ((wr.setCell (aD b (off+j*4)) (iV x0)).setCell (aD b (off+j*4+1)) (.bool x1))):=λx0 x1=>((HM.o.setI hB hb a0 x0).setB hB hb a1 x1)
   have hlt':(j:Int)<n:=by omega
   have hr2:r+2097200<=9223372036854775807:=by omega
   have HL:=hs1 j hlt
   have HSL:Z (∀w',Mk B w0 w1 w'->w'.cell? (aD b (off+j*4+2))=some (sL q2 _ m2)/\w'.cell? (aD b (off+j*4+3))=some (sL q3 _ m3)):=λw' h=>⟨h.slice hB hb a2,h.slice hB hb a3⟩
   have hbz:b<w1.heap.size:=zK hb HM.o.le
   clear hc hk a0 a1 a2 a3
   go_wp2_with fail
   refine(Ud B w0 w1 _ (wat zs j).nodes _ _ n2 (HM'.o _ _) HL.1 (by omega) (by omega)).mono ?_
   rintro e w2 ⟨rfl,hm2⟩
   have HM2:Z (Mk B w0 w1 w2):=hm2
   clear hm2 HM HM' c0 c1 c2 c3 f0 f1
   have c3:=(HSL.o _ HM2.o).2
   go_wp2_with fail
   refine(Ud B w0 w1 _ (wat zs j).weights _ _ n3 HM2.o HL.2 (by omega) (by omega)).mono ?_
   rintro e w3 ⟨rfl,hm3⟩
   have HM3:Z (Mk B w0 w1 w3):=hm3
   clear hm3 c3
   go_wp2
   go_roundw
   case rel=>exact⟨j+1,_,by omega,by go_num,rfl,⟨by go_num,by go_num⟩,HM3⟩
   case measure=>simp[intOf];omega
  ·go_wp2
   go_ret
   have e:j=n:=by omega
   subst e
   exact⟨⟨r,rfl,hr0,hr1⟩,HM.o⟩
theorem Q2a (B:Nat)(w0 w1:World)(v:Value)(zs:List Rl)(w:World)(k:Int)(h0:Ut B w0 v zs)(hm:Mk B w0 w1 w)(hs:zs.length<=1048576)(hs1:∀i,i<zs.length->(rat zs i).ways.length<=1048576)(hk0:0<=k)(hk1:k<=1152921504606846976) :
  Calls prog 45 #[v,iV k] w λe w'=>(∃r:Int,e=.returned (iV r)/\k<=r/\r<=k+zs.length*4194304)/\Mk B w0 w1 w':=by
 obtain⟨a,cap,rfl,hn,hk⟩:=h0
 generalize hz:zs.length=n at *
 clear hz hn
 go_enter func45,ntmps45
 go_wp2
 go_loopw [1,5] (λc i wr=>∃j:Nat,∃r:Int,j<=n/\i=iV j/\c=iV r/\(k<=r/\r<=k+j*4194304)/\Z (Mk B w0 w1 wr)) (λ_ i _=>n-(intOf i).toNat)
 case atStart=>exact⟨0,k,nZ,rfl,rfl,by omega,hm⟩
 case round=>
  obtain⟨j,r,hjn,rfl,rfl,⟨hr0,hr1⟩,HM⟩:=hrel
  clear hm
  by_cases hlt:j<n
  ·obtain⟨b,off,rfl,hB,hb,hc⟩:=hk (by omega)
   obtain⟨p6,a0,a1,a2,a3,a4,a5,a6,n6⟩:=hc j hlt
   obtain⟨q6,m6,rfl,_⟩:=n6.slice
   obtain⟨y0,c0,f0⟩:=HM.o.int hB hb a0
   obtain⟨y1,c1,f1⟩:=HM.o.bool hB hb a1
   obtain⟨y2,c2,f2⟩:=HM.o.int hB hb a2
   obtain⟨y3,c3,f3⟩:=HM.o.int hB hb a3
   obtain⟨y4,c4,f4⟩:=HM.o.bool hB hb a4
   obtain⟨y5,c5,f5⟩:=HM.o.int hB hb a5
   have c6:=HM.o.slice hB hb a6
   have HM':Z (∀(x0:Int) (x1:Bool) (x2:Int) (x3:Int) (x4:Bool) (x5:Int),Mk B w0 w1 ((((((wr.setCell (aD b (off+j*7)) (iV x0)).setCell (aD b (off+j*7+1)) (.bool x1)).setCell (aD b (off+j*7+2)) (iV x2)).setCell (aD b (off+j*7+3)) (iV x3)).setCell (aD b (off+j*7+4)) (.bool x4)).setCell (aD b (off+j*7+5)) (iV x5))):=λx0 x1 x2 x3 x4 x5=>((((((HM.o.setI hB hb a0 x0).setB hB hb a1 x1).setI hB hb a2 x2).setI hB hb a3 x3).setB hB hb a4 x4).setI hB hb a5 x5)
   have hlt':(j:Int)<n:=by omega
   have hr2:r+2097200<=9223372036854775807:=by omega
   have HL:=hs1 j hlt
   have HSL:Z (∀w',Mk B w0 w1 w'->w'.cell? (aD b (off+j*7+6))=some (sL q6 _ m6)):=λw' h=>h.slice hB hb a6
   have hbz:b<w1.heap.size:=zK hb HM.o.le
   clear hc hk a0 a1 a2 a3 a4 a5 a6
   go_wp2_with fail
   refine(Ud B w0 w1 _ (rat zs j).ways _ _ n6 (HM'.o _ _ _ _ _ _) HL (by omega) (by omega)).mono ?_
   rintro e w2 ⟨rfl,hm2⟩
   have HM2:Z (Mk B w0 w1 w2):=hm2
   clear hm2 HM HM' c0 c1 c2 c3 c4 c5 c6 f0 f1 f2 f3 f4 f5
   go_wp2
   go_roundw
   case rel=>exact⟨j+1,_,by omega,by go_num,rfl,⟨by go_num,by go_num⟩,HM2⟩
   case measure=>simp[intOf];omega
  ·go_wp2
   go_ret
   have e:j=n:=by omega
   subst e
   exact⟨⟨r,rfl,hr0,hr1⟩,HM.o⟩
theorem Mk.rebase {B:Nat}{w0 w1 w:World}(h:Mk B w0 w1 w):Mk B w0 w w:=
 ⟨rfl,rfl,rfl,lR,zP h.le h.size,λ_ _ _=>rfl,h.like⟩
theorem Mk.trans {B:Nat}{w0 w1 w w':World}(h:Mk B w0 w1 w)(k:Mk B w0 w w'):Mk B w0 w1 w':=
 ⟨k.os.trans h.os,k.tape.trans h.tape,k.output.trans h.output,zP h.size k.size,h.le,λb hb hn=>(k.same b (zK hb h.size) hn).trans (h.same b hb hn),k.like⟩
theorem Blk.mk {B:Nat}{w0 w1 w:World}{b:Nat}{cs:Array Value}(h:Blk w1 b cs)(k:Mk B w0 w1 w)(hb:w0.heap.size<=b):Blk w b cs:=by
 have hl:=h.lt
 obtain⟨t,h⟩:=h
 exact⟨t,(k.same b hl (by omega)).trans h⟩
theorem Q4c (B:Nat)(w0 w1:World)(v0 v1 v2 v3:Value)(N:Nt)(w:World)(h0:Ye B w0 v0 v1 v2 v3 N)(hm:Mk B w0 w1 w)(hs:Q92 N) :
  Calls prog 10 #[.agg #[v0,v1,v2,v3,iV N.uturn],iV 1] w λe w'=>(∃r:Int,e=.returned (iV r)/\0<=r)/\Mk B w0 w1 w':=by
 obtain⟨i0,i1,i2,i3⟩:=h0
 have s0:=hs.nodes
 have s1:=hs.ways
 have s2:=hs.rels
 have s3:=hs.turns
 have HM:Z (Mk B w0 w1 (w.alloc (.cells #[v0,v1,v2,v3,iV N.uturn] 38))):=hm.alloc _
 have hbz:w0.heap.size<=w.heap.size:=zP hm.le hm.size
 have BA:Blk (w.alloc (.cells #[v0,v1,v2,v3,iV N.uturn] 38)) w.heap.size #[v0,v1,v2,v3,iV N.uturn]:=Blk.new w _ 38 _ rfl
 clear hm
 go_enter func10,ntmps10
 go_wp2_with fail
 refine(Ud B w0 _ _ N.nodes _ 1 i0 HM.o.rebase s0 (by omega) (by omega)).mono ?_
 rintro e w2 ⟨rfl,hm2⟩
 have BA:=BA.mk hm2 hbz
 have HM:=HM.o.trans hm2
 have k0:=BA.c 1 rfl
 clear hm2
 have HM:Z _:=HM
 go_wp2_with fail
 refine(Q29 B w0 _ _ N.ways _ _ i1 HM.o.rebase s1 hs.way (by omega) (by omega)).mono ?_
 rintro e w3 ⟨⟨r3,rfl,hr0,hr1⟩,hm2⟩
 have BA:=BA.mk hm2 hbz
 have HM:=HM.o.trans hm2
 clear k0 hm2
 have k0:=BA.c 2 rfl
 have HM:Z _:=HM
 go_wp2_with fail
 refine(Q2a B w0 _ _ N.rels _ _ i2 HM.o.rebase s2 hs.rel (by omega) (by omega)).mono ?_
 rintro e w4 ⟨⟨r4,rfl,hr2,hr3⟩,hm2⟩
 have BA:=BA.mk hm2 hbz
 have HM:=HM.o.trans hm2
 clear k0 hm2
 have k0:=BA.c 3 rfl
 have HM:Z _:=HM
 go_wp2_with fail
 refine(Q03 B w0 _ _ N.turns _ _ i3 HM.o.rebase s3 (by omega) (by omega)).mono ?_
 rintro e w5 ⟨⟨r5,rfl,hr4,hr5⟩,hm2⟩
 have HM:=HM.o.trans hm2
 go_wp2
 go_ret
 exact⟨⟨r5,rfl,by omega⟩,HM⟩
end Go.Proofs.YtahpodmokbdjeaaGreatDoor
