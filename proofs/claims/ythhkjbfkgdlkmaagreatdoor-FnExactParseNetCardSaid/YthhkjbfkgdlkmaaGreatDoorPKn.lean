import Derived.Test.YthhkjbfkgdlkmaaGreatDoorPI
namespace Go.Proofs.YthhkjbfkgdlkmaaGreatDoor
open Go.RowKit Go.Sort
set_option linter.unusedVariables false
set_option maxRecDepth 1000000
set_option maxHeartbeats 16000000
theorem five {w:World}{b:Nat}{cs:Array Value}{x0 x1 x2 x3 x4:Value}(hb:BT w b cs 28) :
  BT (((((w.setCell ⟨b,0,none⟩ x0).setCell ⟨b,1,none⟩ x1).setCell ⟨b,2,none⟩ x2).setCell ⟨b,3,none⟩ x3).setCell ⟨b,4,none⟩ x4) b (((((cs.setIfInBounds 0 x0).setIfInBounds 1 x1).setIfInBounds 2 x2).setIfInBounds 3 x3).setIfInBounds 4 x4) 28
   /\ (∀{C t sz n:Nat}{v:Value}{xs:List Value},28≠t->w.ownsRow C t sz v n xs->(((((w.setCell ⟨b,0,none⟩ x0).setCell ⟨b,1,none⟩ x1).setCell ⟨b,2,none⟩ x2).setCell ⟨b,3,none⟩ x3).setCell ⟨b,4,none⟩ x4).ownsRow C t sz v n xs)
   /\ (∀w0:World,Nx w0 w->w0.heap.size<=b->Nx w0 (((((w.setCell ⟨b,0,none⟩ x0).setCell ⟨b,1,none⟩ x1).setCell ⟨b,2,none⟩ x2).setCell ⟨b,3,none⟩ x3).setCell ⟨b,4,none⟩ x4)):=by
 have b1:=hb.set 0 x0
 have b2:=b1.set 1 x1
 have b3:=b2.set 2 x2
 have b4:=b3.set 3 x3
 exact⟨b4.set 4 x4,λht h=>row_setBT (row_setBT (row_setBT (row_setBT (row_setBT h hb ht 0 x0) b1 ht 1 x1) b2 ht 2 x2) b3 ht 3 x3) b4 ht 4 x4,λw0 h k=>Below.setCell (Below.setCell (Below.setCell (Below.setCell (Below.setCell h k _) k _) k _) k _) k _⟩
theorem OwnDs.all {C:Nat}{w:World}{a:Option Addr}{n c:Nat}{xs:List Dx}(h:OwnDs C w (.slice a n c) xs)(hn:xs.length=n)(hp:0<w.heap.size):∃g,(0<n->a=some ⟨g,0,none⟩)/\g<w.heap.size/\∀i,i<n->∀q,q<17->w.cell? ⟨g,i*17+q,none⟩=(dcell (dxat xs i))[q]?:=by
 by_cases hp':0<n
 ·obtain⟨g,c',e,-,-,hg,-⟩:=h.at (i:=0) (by omega)
  simp only[Value.slice.injEq] at e
  refine⟨g,λ_=>e.1,hg,λi hi q hq=>?_⟩
  obtain⟨g',c',e',-,-,-,hc⟩:=h.at (i:=i) (by omega)
  simp only[Value.slice.injEq] at e'
  have e3:some (⟨g,0,none⟩:Addr)=some ⟨g',0,none⟩:=by rw[<-e.1,<-e'.1]
  have e4:g=g':=by simpa using e3
  have e5:dxat xs i=xs[i]'(by omega):=by simp[dxat,List.getD_eq_getElem?_getD,show i<xs.length by omega]
  rw[e4,e5];exact hc q hq
 ·exact⟨0,λh=>absurd h hp',hp,λi hi=>by omega⟩
theorem Chg.cell_below {S:Nat->Prop}{w w':World}{C g:Nat}(h:Chg S w w')(hC:C<=w.heap.size)(hS:∀x,S x->C<=x)(hg:g<C)(i:Nat):w'.cell? ⟨g,i,none⟩=w.cell? ⟨g,i,none⟩:=by
 have:=h.block g (by omega) (λk=>by have:=hS g k;omega)
 unfold World.cell?
 simp only[this]
theorem l1Net_any (C:Nat)(a:Option Addr)(n c:Nat)(xs:List Dx)(w:World)(h:OwnDs C w (.slice a n c) xs)(hn:xs.length=n)(hl:n<=300000)(hp:0<w.heap.size)(hd:∀i,i<n->(∃a l c,(dxat xs i).2.vn=.slice a l c)/\(∃a l c,(dxat xs i).2.vw=.slice a l c)/\(∃a l c,(dxat xs i).2.vr=.slice a l c)) :
  Calls Tryz.prog 20 #[.slice a n c] w λe w'=>(∃v0 v1 v2 v3,e=.returned (.agg #[v0,v1,v2,v3,.int .i64 (utx xs (tkA (des xs) 5))])/\OwnI w.heap.size w' v0 ((tkA (des xs) 1).map (aAt xs))/\w'.ownsRow w.heap.size 45 4 v1 ((tkA (des xs) 2).map (wvAt xs)).length (((tkA (des xs) 2).map (wvAt xs)).flatMap wvL)/\w'.ownsRow w.heap.size 47 7 v2 ((tkA (des xs) 3).map (rvAt xs)).length (((tkA (des xs) 3).map (rvAt xs)).flatMap rvL)/\OwnT w.heap.size w' v3 ((tkA (des xs) 4).map (tnAt xs)))/\Nx w w':=by
 have hmx:Tryz.prog.follows .mixedOrders=true:=by kernel_rfl
 obtain⟨g,hg,hgl,hdc⟩:=h.all hn hp
 have HG:Hid (0<n->a=some ⟨g,0,none⟩):=hg
 have HGL:Hid (g<w.heap.size):=hgl
 have HDC:Hid (∀i,i<n->∀q,q<17->w.cell? ⟨g,i*17+q,none⟩=(dcell (dxat xs i))[q]?):=hdc
 have HO:Hid (OwnDs C w (.slice a n c) xs):=h
 have HN:Hid (xs.length=n):=hn
 have HL:Hid ((des xs).length=n):=by unfold Hid;rw[des_len];exact hn
 have HSL1:Hid (∀i,i<n->∃a l c,(dxat xs i).2.vn=.slice a l c):=λi hi=>(hd i hi).1
 have HSL2:Hid (∀i,i<n->∃a l c,(dxat xs i).2.vw=.slice a l c):=λi hi=>(hd i hi).2.1
 have HSL3:Hid (∀i,i<n->∃a l c,(dxat xs i).2.vr=.slice a l c):=λi hi=>(hd i hi).2.2
 clear h hg hgl hdc hd hn
 have HI:=mkHid' (NK.start w xs)
 go_enter Tryz.func20,Tryz.ntmps20
 go_upto_region 2 with fail
 generalize hW:(w.alloc (.cells #[.slice none 0 0,.slice none 0 0,.slice none 0 0,.slice none 0 0,.int .i64 0] 28)).alloc (.cells #[.slice none 0 0,.slice none 0 0,.slice none 0 0,.slice none 0 0,.int .i64 0] 28)=wA
 have HI0:Hid (NK w wA xs (.slice none 0 0) (.slice none 0 0) (.slice none 0 0) (.slice none 0 0) (ptk xs 1 1) (ptk xs 1 2) (ptk xs 1 3) (ptk xs 1 4) (ptk xs 1 5)):=by unfold Hid;rw[<-hW];exact HI.out
 clear HI hW
 go_wp2
 go_loopw [4] (λs4 wr=>∃(k:Nat) (v0 v1 v2 v3:Value),1<=k/\k<=6/\s4=.int .i64 k/\Hid (NK w wr xs v0 v1 v2 v3 (ptk xs k 1) (ptk xs k 2) (ptk xs k 3) (ptk xs k 4) (ptk xs k 5))) (λs4 _=>6-(intOf s4).toNat)
 case atStart=>exact⟨1,_,_,_,_,by omega,by omega,rfl,HI0⟩
 clear HI0
 obtain⟨k,v0,v1,v2,v3,hk1,hk6,rfl,HI⟩:=hrel
 rcases (show k=1\/k=2\/k=3\/k=4\/k=5\/k=6 by omega) with rfl|rfl|rfl|rfl|rfl|rfl
 ·have HI':Hid (NK w wr xs v0 v1 v2 v3 [] (ptk xs 1 2) (ptk xs 1 3) (ptk xs 1 4) (ptk xs 1 5)):=HI.out
  clear HI
  have HI:=mkHid' HI'.out
  clear HI'
  rw[show((1:Nat):Int)=1 from rfl]
  go_wp2
  go_loopw [5,6,7] (λs5 s6 s7 wr=>∃(lf:Nat) (za zb:Int) (pre:List Nat) (v0 v1 v2 v3:Value),lf<=n/\s7=.int .i64 lf/\s5=.int .i64 za/\s6=.int .i64 zb/\Hid (pre.length+lf=n)/\Hid (pre++tk (des xs) 1 lf za zb=tkA (des xs) 1)/\Hid (NK w wr xs v0 v1 v2 v3 pre (ptk xs 1 2) (ptk xs 1 3) (ptk xs 1 4) (ptk xs 1 5))) (λ_ _ s7 _=>(intOf s7).toNat)
  case atStart=>exact⟨n,-1,-1,[],v0,v1,v2,v3,Nat.le_refl _,rfl,rfl,rfl,by unfold Hid;simp,by unfold Hid tkA;rw[HL.out];rfl,HI⟩
  clear HI
  obtain⟨lf,za,zb,pre,v0,v1,v2,v3,hlf,rfl,rfl,rfl,HPL,HT,HI⟩:=hrel
  by_cases hz:lf=0
  case pos=>
   subst hz
   have HE:Hid (pre=tkA (des xs) 1):=by unfold Hid;have:=HT.out;rw[show tk (des xs) 1 0 za zb=[] from rfl,List.append_nil] at this;exact this
   rw[HE.out] at HI
   clear HT HE HPL
   go_wp2
   go_roundw
   case rel=>exact⟨2,v0,v1,v2,v3,by omega,by omega,by first|rfl|go_num,HI⟩
   case measure=>first|(simp[intOf];done)|(simp[intOf];omega)
  have hlp:(0:Int)<(lf:Int):=by omega
  obtain⟨lg,rfl⟩:∃lg,lf=lg+1:=⟨lf-1,by omega⟩
  go_wp2_with fail
  refine(l1After_any C a n c xs wr (row_next HO.out HI.out.nx) HN.out hl 1 za zb).mono ?_
  rintro e w1 ⟨rfl,hx⟩
  have HI1:Hid (NK w w1 xs v0 v1 v2 v3 pre (ptk xs 1 2) (ptk xs 1 3) (ptk xs 1 4) (ptk xs 1 5)):=HI.out.next hx
  clear HI hx
  have hin:=aftTo_in (des xs) 1 za zb n
  have HST:Hid (aftTo (des xs) 1 za zb n<0->tk (des xs) 1 (lg+1) za zb=[]):=λh=>tk_stop (by rw[HL.out];exact h)
  have HGO:Hid (∀m:Nat,aftTo (des xs) 1 za zb n=(m:Int)->tk (des xs) 1 (lg+1) za zb=m::tk (des xs) 1 lg (dxat xs m).1.a (dxat xs m).1.b):=λm h=>by have:=tk_go (f:=lg) (m:=m) (ds:=des xs) (kind:=1) (a:=za) (b:=zb) (by rw[HL.out];exact h);rw[this,dat_dx]
  generalize aftTo (des xs) 1 za zb n=ix at *
  by_cases hneg:ix<0
  case pos=>
   have HE:Hid (pre=tkA (des xs) 1):=by unfold Hid;have:=HT.out;rw[HST.out hneg,List.append_nil] at this;exact this
   rw[HE.out] at HI1
   clear HT HE HPL HST HGO
   go_wp2
   go_roundw
   case rel=>exact⟨2,v0,v1,v2,v3,by omega,by omega,by first|rfl|go_num,HI1⟩
   case measure=>first|(simp[intOf];done)|(simp[intOf];omega)
  obtain⟨m,rfl⟩:∃m:Nat,ix=(m:Int):=⟨ix.toNat,by omega⟩
  have hmn:m<n:=by omega
  have hmn':(m:Int)<n:=by omega
  have HT2:Hid ((pre++[m])++tk (des xs) 1 lg (dxat xs m).1.a (dxat xs m).1.b=tkA (des xs) 1):=by unfold Hid;have:=HT.out;rw[HGO.out m rfl] at this;rw[<-this,List.append_assoc];rfl
  have HPL2:Hid ((pre++[m]).length+lg=n):=by unfold Hid;have:=HPL.out;rw[List.length_append,List.length_singleton];omega
  have hpn:pre.length<=n:=by have:=HPL.out;omega
  clear HT HST HGO
  have ea:=HG.out (by omega)
  subst ea
  have x1:=cellq HI1.out.nx (HDC.out m hmn 1 (by omega))
  have x2:=cellq HI1.out.nx (HDC.out m hmn 2 (by omega))
  replace x1:w1.cell? ⟨g,m*17+1,none⟩=some (.int .i64 (dxat xs m).1.a):=x1
  replace x2:w1.cell? ⟨g,m*17+2,none⟩=some (.int .i64 (dxat xs m).1.b):=x2
  obtain⟨aP,cP,eP⟩:=row_slice HI1.out.r0
  generalize hpm:(pre.map (aAt xs)).length=pm at eP
  have hpm':pm<=n:=by rw[<-hpm,List.length_map];exact hpn
  subst eP
  have HPM:Hid ((pre.map (aAt xs)).length=pm):=hpm
  clear hpm
  have q_:w1.cell? ⟨w.heap.size+1,0,none⟩=some (.slice aP pm cP):=HI1.out.box.blk.cell (i:=0) rfl
  have hzz:w.heap.size<=w1.heap.size:=HI1.out.nx.size
  go_wp2_with (at_builtin;refine app_int rfl _ _ rfl w.heap.size pm (.slice aP pm cP) (pre.map (aAt xs)) ((dxat xs m).1.a) w1 rfl HI1.out.r0 rfl HPM.out (by omega) hzz ?_)
  intro a1 c1 w2 r1 r2 r3
  have HI2:=mkHid' (NS.grow0 HI1.out r1 r2)
  clear HI1 r1 r2 r3 q_ hzz x1 x2
  have q_:w2.cell? ⟨w.heap.size+1,0,none⟩=some (.slice aP pm cP):=HI2.out.box.blk.cell (i:=0) rfl
  have f_:=HI2.out.box.blk.frozen 0
  go_upto_region 16 with fail
  generalize hW:w2.setCell ⟨w.heap.size+1,0,none⟩ (.slice a1 (pm+1) c1)=w3
  have HI3:Hid (NK w w3 xs (.slice a1 (pm+1) c1) v1 v2 v3 (pre++[m]) (ptk xs 1 2) (ptk xs 1 3) (ptk xs 1 4) (ptk xs 1 5)):=by
   unfold Hid NK
   rw[<-hW,List.map_append]
   exact HI2.out.set 0 (.slice a1 (pm+1) c1)
  clear hW HI2 q_ f_
  go_wp2
  go_roundw
  case rel=>exact⟨lg,_,_,pre++[m],_,v1,v2,v3,by omega,by go_num,rfl,rfl,HPL2,HT2,HI3⟩
  case measure=>first|(simp[intOf];done)|(simp[intOf];omega)
 ·have HI':Hid (NK w wr xs v0 v1 v2 v3 (ptk xs 2 1) [] (ptk xs 2 3) (ptk xs 2 4) (ptk xs 2 5)):=HI.out
  clear HI
  have HI:=mkHid' HI'.out
  clear HI'
  rw[show((2:Nat):Int)=2 from rfl]
  go_wp2
  go_loopw [5,6,7] (λs5 s6 s7 wr=>∃(lf:Nat) (za zb:Int) (pre:List Nat) (v0 v1 v2 v3:Value),lf<=n/\s7=.int .i64 lf/\s5=.int .i64 za/\s6=.int .i64 zb/\Hid (pre.length+lf=n)/\Hid (pre++tk (des xs) 2 lf za zb=tkA (des xs) 2)/\Hid (NK w wr xs v0 v1 v2 v3 (ptk xs 2 1) pre (ptk xs 2 3) (ptk xs 2 4) (ptk xs 2 5))) (λ_ _ s7 _=>(intOf s7).toNat)
  case atStart=>exact⟨n,-1,-1,[],v0,v1,v2,v3,Nat.le_refl _,rfl,rfl,rfl,by unfold Hid;simp,by unfold Hid tkA;rw[HL.out];rfl,HI⟩
  clear HI
  obtain⟨lf,za,zb,pre,v0,v1,v2,v3,hlf,rfl,rfl,rfl,HPL,HT,HI⟩:=hrel
  by_cases hz:lf=0
  case pos=>
   subst hz
   have HE:Hid (pre=tkA (des xs) 2):=by unfold Hid;have:=HT.out;rw[show tk (des xs) 2 0 za zb=[] from rfl,List.append_nil] at this;exact this
   rw[HE.out] at HI
   clear HT HE HPL
   go_wp2
   go_roundw
   case rel=>exact⟨3,v0,v1,v2,v3,by omega,by omega,by first|rfl|go_num,HI⟩
   case measure=>first|(simp[intOf];done)|(simp[intOf];omega)
  have hlp:(0:Int)<(lf:Int):=by omega
  obtain⟨lg,rfl⟩:∃lg,lf=lg+1:=⟨lf-1,by omega⟩
  go_wp2_with fail
  refine(l1After_any C a n c xs wr (row_next HO.out HI.out.nx) HN.out hl 2 za zb).mono ?_
  rintro e w1 ⟨rfl,hx⟩
  have HI1:Hid (NK w w1 xs v0 v1 v2 v3 (ptk xs 2 1) pre (ptk xs 2 3) (ptk xs 2 4) (ptk xs 2 5)):=HI.out.next hx
  clear HI hx
  have hin:=aftTo_in (des xs) 2 za zb n
  have HST:Hid (aftTo (des xs) 2 za zb n<0->tk (des xs) 2 (lg+1) za zb=[]):=λh=>tk_stop (by rw[HL.out];exact h)
  have HGO:Hid (∀m:Nat,aftTo (des xs) 2 za zb n=(m:Int)->tk (des xs) 2 (lg+1) za zb=m::tk (des xs) 2 lg (dxat xs m).1.a (dxat xs m).1.b):=λm h=>by have:=tk_go (f:=lg) (m:=m) (ds:=des xs) (kind:=2) (a:=za) (b:=zb) (by rw[HL.out];exact h);rw[this,dat_dx]
  generalize aftTo (des xs) 2 za zb n=ix at *
  by_cases hneg:ix<0
  case pos=>
   have HE:Hid (pre=tkA (des xs) 2):=by unfold Hid;have:=HT.out;rw[HST.out hneg,List.append_nil] at this;exact this
   rw[HE.out] at HI1
   clear HT HE HPL HST HGO
   go_wp2
   go_roundw
   case rel=>exact⟨3,v0,v1,v2,v3,by omega,by omega,by first|rfl|go_num,HI1⟩
   case measure=>first|(simp[intOf];done)|(simp[intOf];omega)
  obtain⟨m,rfl⟩:∃m:Nat,ix=(m:Int):=⟨ix.toNat,by omega⟩
  have hmn:m<n:=by omega
  have hmn':(m:Int)<n:=by omega
  have HT2:Hid ((pre++[m])++tk (des xs) 2 lg (dxat xs m).1.a (dxat xs m).1.b=tkA (des xs) 2):=by unfold Hid;have:=HT.out;rw[HGO.out m rfl] at this;rw[<-this,List.append_assoc];rfl
  have HPL2:Hid ((pre++[m]).length+lg=n):=by unfold Hid;have:=HPL.out;rw[List.length_append,List.length_singleton];omega
  have hpn:pre.length<=n:=by have:=HPL.out;omega
  clear HT HST HGO
  have ea:=HG.out (by omega)
  subst ea
  have x1:=cellq HI1.out.nx (HDC.out m hmn 1 (by omega))
  have x2:=cellq HI1.out.nx (HDC.out m hmn 2 (by omega))
  replace x1:w1.cell? ⟨g,m*17+1,none⟩=some (.int .i64 (dxat xs m).1.a):=x1
  replace x2:w1.cell? ⟨g,m*17+2,none⟩=some (.int .i64 (dxat xs m).1.b):=x2
  obtain⟨aP,cP,eP⟩:=row_slice HI1.out.r1
  generalize hpm:(pre.map (wvAt xs)).length=pm at eP
  have hpm':pm<=n:=by rw[<-hpm,List.length_map];exact hpn
  subst eP
  have HPM:Hid ((pre.map (wvAt xs)).length=pm):=hpm
  clear hpm
  go_upto_region 17 with fail
  clear x1 x2
  obtain⟨an,ln,cn,en⟩:=HSL1.out m hmn
  obtain⟨aw,lw,cw,ew⟩:=HSL2.out m hmn
  have x3_:w1.cell? ⟨g,m*17+3,none⟩=some (.int .i64 (dxat xs m).1.way.id):=by exact cellq HI1.out.nx (HDC.out m hmn 3 (by omega))
  have x4_:w1.cell? ⟨g,m*17+4,none⟩=some (.bool (dxat xs m).1.way.both):=by exact cellq HI1.out.nx (HDC.out m hmn 4 (by omega))
  have x5_:w1.cell? ⟨g,m*17+5,none⟩=some (.slice an ln cn):=by rw[<-en];exact cellq HI1.out.nx (HDC.out m hmn 5 (by omega))
  have x6_:w1.cell? ⟨g,m*17+6,none⟩=some (.slice aw lw cw):=by rw[<-ew];exact cellq HI1.out.nx (HDC.out m hmn 6 (by omega))
  have q_:w1.cell? ⟨w.heap.size+1,1,none⟩=some (.slice aP pm cP):=HI1.out.box.blk.cell (i:=1) rfl
  have hxd:Nx w1 w1.drew:=(Below.refl _ _).drew
  have HI2:Hid (NK w w1.drew xs v0 (.slice aP pm cP) v2 v3 (ptk xs 2 1) pre (ptk xs 2 3) (ptk xs 2 4) (ptk xs 2 5)):=HI1.out.next hxd
  have HSS:Hid ((λq=>q.cell? ⟨w.heap.size+1,1,none⟩=some (.slice aP pm cP)/\q.cell? ⟨g,m*17+3,none⟩=some (.int .i64 (dxat xs m).1.way.id)/\q.cell? ⟨g,m*17+4,none⟩=some (.bool (dxat xs m).1.way.both)/\q.cell? ⟨g,m*17+5,none⟩=some (.slice an ln cn)/\q.cell? ⟨g,m*17+6,none⟩=some (.slice aw lw cw)) w1.drew):=⟨cellq hxd q_,cellq hxd x3_,cellq hxd x4_,cellq hxd x5_,cellq hxd x6_⟩
  clear HI1 q_ hxd x3_ x4_ x5_ x6_
  refine(wpIn_wide (n:=9)).1 ?_
  refine wpIn_region_S (c:=10) (S:=λq=>q.cell? ⟨w.heap.size+1,1,none⟩=some (.slice aP pm cP)/\q.cell? ⟨g,m*17+3,none⟩=some (.int .i64 (dxat xs m).1.way.id)/\q.cell? ⟨g,m*17+4,none⟩=some (.bool (dxat xs m).1.way.both)/\q.cell? ⟨g,m*17+5,none⟩=some (.slice an ln cn)/\q.cell? ⟨g,m*17+6,none⟩=some (.slice aw lw cw)) hmx (by kernel_rfl) (λhw hcl=>?_)
  generalize w1.drew=wd at *
  refine tq (i:=0) (v:=.pointer (some ⟨w.heap.size+1,1,none⟩)) (λhcl=>?_)
  refine tq (i:=1) (v:=.slice aP pm cP) (λhcl=>?_)
  refine tq (i:=2) (v:=.slice (some ⟨g,0,none⟩) n c) (λhcl=>?_)
  refine tq (i:=3) (v:=.int .i64 (m:Int)) (λhcl=>?_)
  refine tq (i:=4) (v:=.pointer (some ⟨g,m*17,none⟩)) (λhcl=>?_)
  refine tq (i:=5) (v:=.pointer (some ⟨g,m*17+3,none⟩)) (λhcl=>?_)
  refine tq (i:=6) (v:=.agg #[.int .i64 (dxat xs m).1.way.id,.bool (dxat xs m).1.way.both,.slice an ln cn,.slice aw lw cw]) (λhcl=>?_)
  refine anyS_one2 (i:=7) (by kernel_rfl) hcl (λhcl=>wpOpIn_step rfl (λK hK=>?_))
  go_simp
  refine hK _ _ ⟨Or.inr ⟨cellq (box1 _ _) HSS.out.1,cellq (box1 _ _) HSS.out.2.1,cellq (box1 _ _) HSS.out.2.2.1,cellq (box1 _ _) HSS.out.2.2.2.1,cellq (box1 _ _) HSS.out.2.2.2.2⟩,?_⟩
  clear hK K
  have hzz:w.heap.size<=wd.heap.size:=HI2.out.nx.size
  refine anyS_one2 (i:=8) (by kernel_rfl) hcl (λhcl=>wpOpIn_step rfl (λK hK=>?_))
  refine app_wv_in rfl (.tmp 48) (.tmp 54) rfl w.heap.size pm (.slice aP pm cP) (pre.map (wvAt xs)) ((dxat xs m).1.way,.slice an ln cn,.slice aw lw cw) wd _ rfl (by simp[Act.eval]) HI2.out.r1 (by simp[Act.eval]) HPM.out (by intro u hu;simp[wvL,wayL] at hu;rcases hu with rfl|rfl|rfl|rfl<;>rfl) (by omega) hzz ?_
  intro a1 c1 wx r1 r2
  have HSY:Hid ((λq=>q.cell? ⟨w.heap.size+1,1,none⟩=some (.slice aP pm cP)/\q.cell? ⟨g,m*17+3,none⟩=some (.int .i64 (dxat xs m).1.way.id)/\q.cell? ⟨g,m*17+4,none⟩=some (.bool (dxat xs m).1.way.both)/\q.cell? ⟨g,m*17+5,none⟩=some (.slice an ln cn)/\q.cell? ⟨g,m*17+6,none⟩=some (.slice aw lw cw)) wx):=by
   have hxx:=HI2.out.box.row HI2.out.r1 (by decide) r2
   exact⟨hxx.blk.cell (i:=1) rfl,(Chg.cell_below r2 HI2.out.nx.size (λx hx=>(own_lt HI2.out.r1 x hx.symm).1) HGL.out _).trans HSS.out.2.1,(Chg.cell_below r2 HI2.out.nx.size (λx hx=>(own_lt HI2.out.r1 x hx.symm).1) HGL.out _).trans HSS.out.2.2.1,(Chg.cell_below r2 HI2.out.nx.size (λx hx=>(own_lt HI2.out.r1 x hx.symm).1) HGL.out _).trans HSS.out.2.2.2.1,(Chg.cell_below r2 HI2.out.nx.size (λx hx=>(own_lt HI2.out.r1 x hx.symm).1) HGL.out _).trans HSS.out.2.2.2.2⟩
  have HI3:=mkHid' (NS.grow1 HI2.out r1 r2)
  refine hK _ _ ⟨Or.inr HSY.out,?_⟩
  clear hK K HI2 r1 r2 HSS
  have HSS:=mkHid' HSY.out
  clear HSY
  refine tq (i:=9) (v:=.pointer (some ⟨w.heap.size+1,1,none⟩)) (λhcl=>?_)
  have q_:wx.cell? ⟨w.heap.size+1,1,none⟩=some (.slice aP pm cP):=HI3.out.box.blk.cell (i:=1) rfl
  have f_:=HI3.out.box.blk.frozen 1
  refine anyS_one (i:=10) (by kernel_rfl) (wpOpIn_step rfl (λK hK=>?_))
  go_simp
  refine hK _ _ ⟨Or.inl (by decide),?_⟩
  clear hK K
  refine anyS_done (by kernel_rfl) ?_ _
  clear hw hcl q_ f_ HSS
  generalize hW:wx.setCell ⟨w.heap.size+1,1,none⟩ (.slice a1 (pm+1) c1)=w3
  have HI4:Hid (NK w w3 xs v0 (.slice a1 (pm+1) c1) v2 v3 (ptk xs 2 1) (pre++[m]) (ptk xs 2 3) (ptk xs 2 4) (ptk xs 2 5)):=by
   have ey:wvAt xs m=((dxat xs m).1.way,.slice an ln cn,.slice aw lw cw):=by unfold wvAt;rw[en,ew]
   unfold Hid NK
   rw[<-hW,List.map_append,List.map_singleton,ey]
   exact HI3.out.set 1 (.slice a1 (pm+1) c1)
  clear hW HI3
  go_wp2
  go_roundw
  case rel=>exact⟨lg,_,_,pre++[m],v0,_,v2,v3,by omega,by go_num,rfl,rfl,HPL2,HT2,HI4⟩
  case measure=>first|(simp[intOf];done)|(simp[intOf];omega)
 ·have HI':Hid (NK w wr xs v0 v1 v2 v3 (ptk xs 3 1) (ptk xs 3 2) [] (ptk xs 3 4) (ptk xs 3 5)):=HI.out
  clear HI
  have HI:=mkHid' HI'.out
  clear HI'
  rw[show((3:Nat):Int)=3 from rfl]
  go_wp2
  go_loopw [5,6,7] (λs5 s6 s7 wr=>∃(lf:Nat) (za zb:Int) (pre:List Nat) (v0 v1 v2 v3:Value),lf<=n/\s7=.int .i64 lf/\s5=.int .i64 za/\s6=.int .i64 zb/\Hid (pre.length+lf=n)/\Hid (pre++tk (des xs) 3 lf za zb=tkA (des xs) 3)/\Hid (NK w wr xs v0 v1 v2 v3 (ptk xs 3 1) (ptk xs 3 2) pre (ptk xs 3 4) (ptk xs 3 5))) (λ_ _ s7 _=>(intOf s7).toNat)
  case atStart=>exact⟨n,-1,-1,[],v0,v1,v2,v3,Nat.le_refl _,rfl,rfl,rfl,by unfold Hid;simp,by unfold Hid tkA;rw[HL.out];rfl,HI⟩
  clear HI
  obtain⟨lf,za,zb,pre,v0,v1,v2,v3,hlf,rfl,rfl,rfl,HPL,HT,HI⟩:=hrel
  by_cases hz:lf=0
  case pos=>
   subst hz
   have HE:Hid (pre=tkA (des xs) 3):=by unfold Hid;have:=HT.out;rw[show tk (des xs) 3 0 za zb=[] from rfl,List.append_nil] at this;exact this
   rw[HE.out] at HI
   clear HT HE HPL
   go_wp2
   go_roundw
   case rel=>exact⟨4,v0,v1,v2,v3,by omega,by omega,by first|rfl|go_num,HI⟩
   case measure=>first|(simp[intOf];done)|(simp[intOf];omega)
  have hlp:(0:Int)<(lf:Int):=by omega
  obtain⟨lg,rfl⟩:∃lg,lf=lg+1:=⟨lf-1,by omega⟩
  go_wp2_with fail
  refine(l1After_any C a n c xs wr (row_next HO.out HI.out.nx) HN.out hl 3 za zb).mono ?_
  rintro e w1 ⟨rfl,hx⟩
  have HI1:Hid (NK w w1 xs v0 v1 v2 v3 (ptk xs 3 1) (ptk xs 3 2) pre (ptk xs 3 4) (ptk xs 3 5)):=HI.out.next hx
  clear HI hx
  have hin:=aftTo_in (des xs) 3 za zb n
  have HST:Hid (aftTo (des xs) 3 za zb n<0->tk (des xs) 3 (lg+1) za zb=[]):=λh=>tk_stop (by rw[HL.out];exact h)
  have HGO:Hid (∀m:Nat,aftTo (des xs) 3 za zb n=(m:Int)->tk (des xs) 3 (lg+1) za zb=m::tk (des xs) 3 lg (dxat xs m).1.a (dxat xs m).1.b):=λm h=>by have:=tk_go (f:=lg) (m:=m) (ds:=des xs) (kind:=3) (a:=za) (b:=zb) (by rw[HL.out];exact h);rw[this,dat_dx]
  generalize aftTo (des xs) 3 za zb n=ix at *
  by_cases hneg:ix<0
  case pos=>
   have HE:Hid (pre=tkA (des xs) 3):=by unfold Hid;have:=HT.out;rw[HST.out hneg,List.append_nil] at this;exact this
   rw[HE.out] at HI1
   clear HT HE HPL HST HGO
   go_wp2
   go_roundw
   case rel=>exact⟨4,v0,v1,v2,v3,by omega,by omega,by first|rfl|go_num,HI1⟩
   case measure=>first|(simp[intOf];done)|(simp[intOf];omega)
  obtain⟨m,rfl⟩:∃m:Nat,ix=(m:Int):=⟨ix.toNat,by omega⟩
  have hmn:m<n:=by omega
  have hmn':(m:Int)<n:=by omega
  have HT2:Hid ((pre++[m])++tk (des xs) 3 lg (dxat xs m).1.a (dxat xs m).1.b=tkA (des xs) 3):=by unfold Hid;have:=HT.out;rw[HGO.out m rfl] at this;rw[<-this,List.append_assoc];rfl
  have HPL2:Hid ((pre++[m]).length+lg=n):=by unfold Hid;have:=HPL.out;rw[List.length_append,List.length_singleton];omega
  have hpn:pre.length<=n:=by have:=HPL.out;omega
  clear HT HST HGO
  have ea:=HG.out (by omega)
  subst ea
  have x1:=cellq HI1.out.nx (HDC.out m hmn 1 (by omega))
  have x2:=cellq HI1.out.nx (HDC.out m hmn 2 (by omega))
  replace x1:w1.cell? ⟨g,m*17+1,none⟩=some (.int .i64 (dxat xs m).1.a):=x1
  replace x2:w1.cell? ⟨g,m*17+2,none⟩=some (.int .i64 (dxat xs m).1.b):=x2
  obtain⟨aP,cP,eP⟩:=row_slice HI1.out.r2
  generalize hpm:(pre.map (rvAt xs)).length=pm at eP
  have hpm':pm<=n:=by rw[<-hpm,List.length_map];exact hpn
  subst eP
  have HPM:Hid ((pre.map (rvAt xs)).length=pm):=hpm
  clear hpm
  go_upto_region 19 with fail
  clear x1 x2
  obtain⟨ar,lr,cr,er⟩:=HSL3.out m hmn
  have x7_:w1.cell? ⟨g,m*17+7,none⟩=some (.int .i64 (dxat xs m).1.rel.id):=by exact cellq HI1.out.nx (HDC.out m hmn 7 (by omega))
  have x8_:w1.cell? ⟨g,m*17+8,none⟩=some (.bool (dxat xs m).1.rel.only):=by exact cellq HI1.out.nx (HDC.out m hmn 8 (by omega))
  have x9_:w1.cell? ⟨g,m*17+9,none⟩=some (.int .i64 (dxat xs m).1.rel.frm):=by exact cellq HI1.out.nx (HDC.out m hmn 9 (by omega))
  have x10_:w1.cell? ⟨g,m*17+10,none⟩=some (.int .i64 (dxat xs m).1.rel.to):=by exact cellq HI1.out.nx (HDC.out m hmn 10 (by omega))
  have x11_:w1.cell? ⟨g,m*17+11,none⟩=some (.bool (dxat xs m).1.rel.via):=by exact cellq HI1.out.nx (HDC.out m hmn 11 (by omega))
  have x12_:w1.cell? ⟨g,m*17+12,none⟩=some (.int .i64 (dxat xs m).1.rel.node):=by exact cellq HI1.out.nx (HDC.out m hmn 12 (by omega))
  have x13_:w1.cell? ⟨g,m*17+13,none⟩=some (.slice ar lr cr):=by rw[<-er];exact cellq HI1.out.nx (HDC.out m hmn 13 (by omega))
  have q_:w1.cell? ⟨w.heap.size+1,2,none⟩=some (.slice aP pm cP):=HI1.out.box.blk.cell (i:=2) rfl
  have hxd:Nx w1 w1.drew:=(Below.refl _ _).drew
  have HI2:Hid (NK w w1.drew xs v0 v1 (.slice aP pm cP) v3 (ptk xs 3 1) (ptk xs 3 2) pre (ptk xs 3 4) (ptk xs 3 5)):=HI1.out.next hxd
  have HSS:Hid ((λq=>q.cell? ⟨w.heap.size+1,2,none⟩=some (.slice aP pm cP)/\q.cell? ⟨g,m*17+7,none⟩=some (.int .i64 (dxat xs m).1.rel.id)/\q.cell? ⟨g,m*17+8,none⟩=some (.bool (dxat xs m).1.rel.only)/\q.cell? ⟨g,m*17+9,none⟩=some (.int .i64 (dxat xs m).1.rel.frm)/\q.cell? ⟨g,m*17+10,none⟩=some (.int .i64 (dxat xs m).1.rel.to)/\q.cell? ⟨g,m*17+11,none⟩=some (.bool (dxat xs m).1.rel.via)/\q.cell? ⟨g,m*17+12,none⟩=some (.int .i64 (dxat xs m).1.rel.node)/\q.cell? ⟨g,m*17+13,none⟩=some (.slice ar lr cr)) w1.drew):=⟨cellq hxd q_,cellq hxd x7_,cellq hxd x8_,cellq hxd x9_,cellq hxd x10_,cellq hxd x11_,cellq hxd x12_,cellq hxd x13_⟩
  clear HI1 q_ hxd x7_ x8_ x9_ x10_ x11_ x12_ x13_
  refine(wpIn_wide (n:=9)).1 ?_
  refine wpIn_region_S (c:=10) (S:=λq=>q.cell? ⟨w.heap.size+1,2,none⟩=some (.slice aP pm cP)/\q.cell? ⟨g,m*17+7,none⟩=some (.int .i64 (dxat xs m).1.rel.id)/\q.cell? ⟨g,m*17+8,none⟩=some (.bool (dxat xs m).1.rel.only)/\q.cell? ⟨g,m*17+9,none⟩=some (.int .i64 (dxat xs m).1.rel.frm)/\q.cell? ⟨g,m*17+10,none⟩=some (.int .i64 (dxat xs m).1.rel.to)/\q.cell? ⟨g,m*17+11,none⟩=some (.bool (dxat xs m).1.rel.via)/\q.cell? ⟨g,m*17+12,none⟩=some (.int .i64 (dxat xs m).1.rel.node)/\q.cell? ⟨g,m*17+13,none⟩=some (.slice ar lr cr)) hmx (by kernel_rfl) (λhw hcl=>?_)
  generalize w1.drew=wd at *
  refine tq (i:=0) (v:=.pointer (some ⟨w.heap.size+1,2,none⟩)) (λhcl=>?_)
  refine tq (i:=1) (v:=.slice aP pm cP) (λhcl=>?_)
  refine tq (i:=2) (v:=.slice (some ⟨g,0,none⟩) n c) (λhcl=>?_)
  refine tq (i:=3) (v:=.int .i64 (m:Int)) (λhcl=>?_)
  refine tq (i:=4) (v:=.pointer (some ⟨g,m*17,none⟩)) (λhcl=>?_)
  refine tq (i:=5) (v:=.pointer (some ⟨g,m*17+7,none⟩)) (λhcl=>?_)
  refine tq (i:=6) (v:=.agg #[.int .i64 (dxat xs m).1.rel.id,.bool (dxat xs m).1.rel.only,.int .i64 (dxat xs m).1.rel.frm,.int .i64 (dxat xs m).1.rel.to,.bool (dxat xs m).1.rel.via,.int .i64 (dxat xs m).1.rel.node,.slice ar lr cr]) (λhcl=>?_)
  refine anyS_one2 (i:=7) (by kernel_rfl) hcl (λhcl=>wpOpIn_step rfl (λK hK=>?_))
  go_simp
  refine hK _ _ ⟨Or.inr ⟨cellq (box1 _ _) HSS.out.1,cellq (box1 _ _) HSS.out.2.1,cellq (box1 _ _) HSS.out.2.2.1,cellq (box1 _ _) HSS.out.2.2.2.1,cellq (box1 _ _) HSS.out.2.2.2.2.1,cellq (box1 _ _) HSS.out.2.2.2.2.2.1,cellq (box1 _ _) HSS.out.2.2.2.2.2.2.1,cellq (box1 _ _) HSS.out.2.2.2.2.2.2.2⟩,?_⟩
  clear hK K
  have hzz:w.heap.size<=wd.heap.size:=HI2.out.nx.size
  refine anyS_one2 (i:=8) (by kernel_rfl) hcl (λhcl=>wpOpIn_step rfl (λK hK=>?_))
  refine app_rv_in rfl (.tmp 60) (.tmp 66) rfl w.heap.size pm (.slice aP pm cP) (pre.map (rvAt xs)) ((dxat xs m).1.rel,.slice ar lr cr) wd _ rfl (by simp[Act.eval]) HI2.out.r2 (by simp[Act.eval]) HPM.out (by intro u hu;simp[rvL,relL] at hu;rcases hu with rfl|rfl|rfl|rfl|rfl|rfl|rfl<;>rfl) (by omega) hzz ?_
  intro a1 c1 wx r1 r2
  have HSY:Hid ((λq=>q.cell? ⟨w.heap.size+1,2,none⟩=some (.slice aP pm cP)/\q.cell? ⟨g,m*17+7,none⟩=some (.int .i64 (dxat xs m).1.rel.id)/\q.cell? ⟨g,m*17+8,none⟩=some (.bool (dxat xs m).1.rel.only)/\q.cell? ⟨g,m*17+9,none⟩=some (.int .i64 (dxat xs m).1.rel.frm)/\q.cell? ⟨g,m*17+10,none⟩=some (.int .i64 (dxat xs m).1.rel.to)/\q.cell? ⟨g,m*17+11,none⟩=some (.bool (dxat xs m).1.rel.via)/\q.cell? ⟨g,m*17+12,none⟩=some (.int .i64 (dxat xs m).1.rel.node)/\q.cell? ⟨g,m*17+13,none⟩=some (.slice ar lr cr)) wx):=by
   have hxx:=HI2.out.box.row HI2.out.r2 (by decide) r2
   exact⟨hxx.blk.cell (i:=2) rfl,(Chg.cell_below r2 HI2.out.nx.size (λx hx=>(own_lt HI2.out.r2 x hx.symm).1) HGL.out _).trans HSS.out.2.1,(Chg.cell_below r2 HI2.out.nx.size (λx hx=>(own_lt HI2.out.r2 x hx.symm).1) HGL.out _).trans HSS.out.2.2.1,(Chg.cell_below r2 HI2.out.nx.size (λx hx=>(own_lt HI2.out.r2 x hx.symm).1) HGL.out _).trans HSS.out.2.2.2.1,(Chg.cell_below r2 HI2.out.nx.size (λx hx=>(own_lt HI2.out.r2 x hx.symm).1) HGL.out _).trans HSS.out.2.2.2.2.1,(Chg.cell_below r2 HI2.out.nx.size (λx hx=>(own_lt HI2.out.r2 x hx.symm).1) HGL.out _).trans HSS.out.2.2.2.2.2.1,(Chg.cell_below r2 HI2.out.nx.size (λx hx=>(own_lt HI2.out.r2 x hx.symm).1) HGL.out _).trans HSS.out.2.2.2.2.2.2.1,(Chg.cell_below r2 HI2.out.nx.size (λx hx=>(own_lt HI2.out.r2 x hx.symm).1) HGL.out _).trans HSS.out.2.2.2.2.2.2.2⟩
  have HI3:=mkHid' (NS.grow2 HI2.out r1 r2)
  refine hK _ _ ⟨Or.inr HSY.out,?_⟩
  clear hK K HI2 r1 r2 HSS
  have HSS:=mkHid' HSY.out
  clear HSY
  refine tq (i:=9) (v:=.pointer (some ⟨w.heap.size+1,2,none⟩)) (λhcl=>?_)
  have q_:wx.cell? ⟨w.heap.size+1,2,none⟩=some (.slice aP pm cP):=HI3.out.box.blk.cell (i:=2) rfl
  have f_:=HI3.out.box.blk.frozen 2
  refine anyS_one (i:=10) (by kernel_rfl) (wpOpIn_step rfl (λK hK=>?_))
  go_simp
  refine hK _ _ ⟨Or.inl (by decide),?_⟩
  clear hK K
  refine anyS_done (by kernel_rfl) ?_ _
  clear hw hcl q_ f_ HSS
  generalize hW:wx.setCell ⟨w.heap.size+1,2,none⟩ (.slice a1 (pm+1) c1)=w3
  have HI4:Hid (NK w w3 xs v0 v1 (.slice a1 (pm+1) c1) v3 (ptk xs 3 1) (ptk xs 3 2) (pre++[m]) (ptk xs 3 4) (ptk xs 3 5)):=by
   have ey:rvAt xs m=((dxat xs m).1.rel,.slice ar lr cr):=by unfold rvAt;rw[er]
   unfold Hid NK
   rw[<-hW,List.map_append,List.map_singleton,ey]
   exact HI3.out.set 2 (.slice a1 (pm+1) c1)
  clear hW HI3
  go_wp2
  go_roundw
  case rel=>exact⟨lg,_,_,pre++[m],v0,v1,_,v3,by omega,by go_num,rfl,rfl,HPL2,HT2,HI4⟩
  case measure=>first|(simp[intOf];done)|(simp[intOf];omega)
 ·have HI':Hid (NK w wr xs v0 v1 v2 v3 (ptk xs 4 1) (ptk xs 4 2) (ptk xs 4 3) [] (ptk xs 4 5)):=HI.out
  clear HI
  have HI:=mkHid' HI'.out
  clear HI'
  rw[show((4:Nat):Int)=4 from rfl]
  go_wp2
  go_loopw [5,6,7] (λs5 s6 s7 wr=>∃(lf:Nat) (za zb:Int) (pre:List Nat) (v0 v1 v2 v3:Value),lf<=n/\s7=.int .i64 lf/\s5=.int .i64 za/\s6=.int .i64 zb/\Hid (pre.length+lf=n)/\Hid (pre++tk (des xs) 4 lf za zb=tkA (des xs) 4)/\Hid (NK w wr xs v0 v1 v2 v3 (ptk xs 4 1) (ptk xs 4 2) (ptk xs 4 3) pre (ptk xs 4 5))) (λ_ _ s7 _=>(intOf s7).toNat)
  case atStart=>exact⟨n,-1,-1,[],v0,v1,v2,v3,Nat.le_refl _,rfl,rfl,rfl,by unfold Hid;simp,by unfold Hid tkA;rw[HL.out];rfl,HI⟩
  clear HI
  obtain⟨lf,za,zb,pre,v0,v1,v2,v3,hlf,rfl,rfl,rfl,HPL,HT,HI⟩:=hrel
  by_cases hz:lf=0
  case pos=>
   subst hz
   have HE:Hid (pre=tkA (des xs) 4):=by unfold Hid;have:=HT.out;rw[show tk (des xs) 4 0 za zb=[] from rfl,List.append_nil] at this;exact this
   rw[HE.out] at HI
   clear HT HE HPL
   go_wp2
   go_roundw
   case rel=>exact⟨5,v0,v1,v2,v3,by omega,by omega,by first|rfl|go_num,HI⟩
   case measure=>first|(simp[intOf];done)|(simp[intOf];omega)
  have hlp:(0:Int)<(lf:Int):=by omega
  obtain⟨lg,rfl⟩:∃lg,lf=lg+1:=⟨lf-1,by omega⟩
  go_wp2_with fail
  refine(l1After_any C a n c xs wr (row_next HO.out HI.out.nx) HN.out hl 4 za zb).mono ?_
  rintro e w1 ⟨rfl,hx⟩
  have HI1:Hid (NK w w1 xs v0 v1 v2 v3 (ptk xs 4 1) (ptk xs 4 2) (ptk xs 4 3) pre (ptk xs 4 5)):=HI.out.next hx
  clear HI hx
  have hin:=aftTo_in (des xs) 4 za zb n
  have HST:Hid (aftTo (des xs) 4 za zb n<0->tk (des xs) 4 (lg+1) za zb=[]):=λh=>tk_stop (by rw[HL.out];exact h)
  have HGO:Hid (∀m:Nat,aftTo (des xs) 4 za zb n=(m:Int)->tk (des xs) 4 (lg+1) za zb=m::tk (des xs) 4 lg (dxat xs m).1.a (dxat xs m).1.b):=λm h=>by have:=tk_go (f:=lg) (m:=m) (ds:=des xs) (kind:=4) (a:=za) (b:=zb) (by rw[HL.out];exact h);rw[this,dat_dx]
  generalize aftTo (des xs) 4 za zb n=ix at *
  by_cases hneg:ix<0
  case pos=>
   have HE:Hid (pre=tkA (des xs) 4):=by unfold Hid;have:=HT.out;rw[HST.out hneg,List.append_nil] at this;exact this
   rw[HE.out] at HI1
   clear HT HE HPL HST HGO
   go_wp2
   go_roundw
   case rel=>exact⟨5,v0,v1,v2,v3,by omega,by omega,by first|rfl|go_num,HI1⟩
   case measure=>first|(simp[intOf];done)|(simp[intOf];omega)
  obtain⟨m,rfl⟩:∃m:Nat,ix=(m:Int):=⟨ix.toNat,by omega⟩
  have hmn:m<n:=by omega
  have hmn':(m:Int)<n:=by omega
  have HT2:Hid ((pre++[m])++tk (des xs) 4 lg (dxat xs m).1.a (dxat xs m).1.b=tkA (des xs) 4):=by unfold Hid;have:=HT.out;rw[HGO.out m rfl] at this;rw[<-this,List.append_assoc];rfl
  have HPL2:Hid ((pre++[m]).length+lg=n):=by unfold Hid;have:=HPL.out;rw[List.length_append,List.length_singleton];omega
  have hpn:pre.length<=n:=by have:=HPL.out;omega
  clear HT HST HGO
  have ea:=HG.out (by omega)
  subst ea
  have x1:=cellq HI1.out.nx (HDC.out m hmn 1 (by omega))
  have x2:=cellq HI1.out.nx (HDC.out m hmn 2 (by omega))
  replace x1:w1.cell? ⟨g,m*17+1,none⟩=some (.int .i64 (dxat xs m).1.a):=x1
  replace x2:w1.cell? ⟨g,m*17+2,none⟩=some (.int .i64 (dxat xs m).1.b):=x2
  obtain⟨aP,cP,eP⟩:=row_slice HI1.out.r3
  generalize hpm:(pre.map (tnAt xs)).length=pm at eP
  have hpm':pm<=n:=by rw[<-hpm,List.length_map];exact hpn
  subst eP
  have HPM:Hid ((pre.map (tnAt xs)).length=pm):=hpm
  clear hpm
  go_upto_region 21 with fail
  clear x1 x2
  have x14_:w1.cell? ⟨g,m*17+14,none⟩=some (.int .i64 (dxat xs m).1.cost):=by exact cellq HI1.out.nx (HDC.out m hmn 14 (by omega))
  have q_:w1.cell? ⟨w.heap.size+1,3,none⟩=some (.slice aP pm cP):=HI1.out.box.blk.cell (i:=3) rfl
  have hxd:Nx w1 w1.drew:=(Below.refl _ _).drew
  have HI2:Hid (NK w w1.drew xs v0 v1 v2 (.slice aP pm cP) (ptk xs 4 1) (ptk xs 4 2) (ptk xs 4 3) pre (ptk xs 4 5)):=HI1.out.next hxd
  have HSS:Hid ((λq=>q.cell? ⟨w.heap.size+1,3,none⟩=some (.slice aP pm cP)/\q.cell? ⟨g,m*17+14,none⟩=some (.int .i64 (dxat xs m).1.cost)) w1.drew):=⟨cellq hxd q_,cellq hxd x14_⟩
  clear HI1 q_ hxd x14_
  refine(wpIn_wide (n:=9)).1 ?_
  refine wpIn_region_S (c:=13) (S:=λq=>q.cell? ⟨w.heap.size+1,3,none⟩=some (.slice aP pm cP)/\q.cell? ⟨g,m*17+14,none⟩=some (.int .i64 (dxat xs m).1.cost)) hmx (by kernel_rfl) (λhw hcl=>?_)
  generalize w1.drew=wd at *
  refine tq (i:=0) (v:=.pointer (some ⟨w.heap.size+1,3,none⟩)) (λhcl=>?_)
  refine tq (i:=1) (v:=.slice aP pm cP) (λhcl=>?_)
  refine tq (i:=2) (v:=.int .i64 (dxat xs m).1.a) (λhcl=>?_)
  refine tq (i:=3) (v:=.int .i64 (dxat xs m).1.b) (λhcl=>?_)
  refine tq (i:=4) (v:=.slice (some ⟨g,0,none⟩) n c) (λhcl=>?_)
  refine tq (i:=5) (v:=.int .i64 (m:Int)) (λhcl=>?_)
  refine tq (i:=6) (v:=.pointer (some ⟨g,m*17,none⟩)) (λhcl=>?_)
  refine tq (i:=7) (v:=.pointer (some ⟨g,m*17+14,none⟩)) (λhcl=>?_)
  refine tq (i:=8) (v:=.int .i64 (dxat xs m).1.cost) (λhcl=>?_)
  refine tq (i:=9) (v:=.agg #[.int .i64 (dxat xs m).1.a,.int .i64 (dxat xs m).1.b,.int .i64 (dxat xs m).1.cost]) (λhcl=>?_)
  refine anyS_one2 (i:=10) (by kernel_rfl) hcl (λhcl=>wpOpIn_step rfl (λK hK=>?_))
  go_simp
  refine hK _ _ ⟨Or.inr ⟨cellq (box1 _ _) HSS.out.1,cellq (box1 _ _) HSS.out.2⟩,?_⟩
  clear hK K
  have hzz:w.heap.size<=wd.heap.size:=HI2.out.nx.size
  refine anyS_one2 (i:=11) (by kernel_rfl) hcl (λhcl=>wpOpIn_step rfl (λK hK=>?_))
  refine app_tn_in rfl (.tmp 72) (.tmp 81) rfl w.heap.size pm (.slice aP pm cP) (pre.map (tnAt xs)) ⟨(dxat xs m).1.a,(dxat xs m).1.b,(dxat xs m).1.cost⟩ wd _ rfl (by simp[Act.eval]) HI2.out.r3 (by simp[Act.eval]) HPM.out (by intro u hu;simp[tcell] at hu;rcases hu with rfl|rfl|rfl<;>rfl) (by omega) hzz ?_
  intro a1 c1 wx r1 r2
  have HSY:Hid ((λq=>q.cell? ⟨w.heap.size+1,3,none⟩=some (.slice aP pm cP)/\q.cell? ⟨g,m*17+14,none⟩=some (.int .i64 (dxat xs m).1.cost)) wx):=by
   have hxx:=HI2.out.box.row HI2.out.r3 (by decide) r2
   exact⟨hxx.blk.cell (i:=3) rfl,(Chg.cell_below r2 HI2.out.nx.size (λx hx=>(own_lt HI2.out.r3 x hx.symm).1) HGL.out _).trans HSS.out.2⟩
  have HI3:=mkHid' (NS.grow3 HI2.out r1 r2)
  refine hK _ _ ⟨Or.inr HSY.out,?_⟩
  clear hK K HI2 r1 r2 HSS
  have HSS:=mkHid' HSY.out
  clear HSY
  refine tq (i:=12) (v:=.pointer (some ⟨w.heap.size+1,3,none⟩)) (λhcl=>?_)
  have q_:wx.cell? ⟨w.heap.size+1,3,none⟩=some (.slice aP pm cP):=HI3.out.box.blk.cell (i:=3) rfl
  have f_:=HI3.out.box.blk.frozen 3
  refine anyS_one (i:=13) (by kernel_rfl) (wpOpIn_step rfl (λK hK=>?_))
  go_simp
  refine hK _ _ ⟨Or.inl (by decide),?_⟩
  clear hK K
  refine anyS_done (by kernel_rfl) ?_ _
  clear hw hcl q_ f_ HSS
  generalize hW:wx.setCell ⟨w.heap.size+1,3,none⟩ (.slice a1 (pm+1) c1)=w3
  have HI4:Hid (NK w w3 xs v0 v1 v2 (.slice a1 (pm+1) c1) (ptk xs 4 1) (ptk xs 4 2) (ptk xs 4 3) (pre++[m]) (ptk xs 4 5)):=by
   have ey:tnAt xs m=⟨(dxat xs m).1.a,(dxat xs m).1.b,(dxat xs m).1.cost⟩:=by unfold tnAt;rfl
   unfold Hid NK
   rw[<-hW,List.map_append,List.map_singleton,ey]
   exact HI3.out.set 3 (.slice a1 (pm+1) c1)
  clear hW HI3
  go_wp2
  go_roundw
  case rel=>exact⟨lg,_,_,pre++[m],v0,v1,v2,_,by omega,by go_num,rfl,rfl,HPL2,HT2,HI4⟩
  case measure=>first|(simp[intOf];done)|(simp[intOf];omega)
 ·have HI':Hid (NK w wr xs v0 v1 v2 v3 (ptk xs 5 1) (ptk xs 5 2) (ptk xs 5 3) (ptk xs 5 4) []):=HI.out
  clear HI
  have HI:=mkHid' HI'.out
  clear HI'
  rw[show((5:Nat):Int)=5 from rfl]
  go_wp2
  go_loopw [5,6,7] (λs5 s6 s7 wr=>∃(lf:Nat) (za zb:Int) (pre:List Nat) (v0 v1 v2 v3:Value),lf<=n/\s7=.int .i64 lf/\s5=.int .i64 za/\s6=.int .i64 zb/\Hid (pre.length+lf=n)/\Hid (pre++tk (des xs) 5 lf za zb=tkA (des xs) 5)/\Hid (NK w wr xs v0 v1 v2 v3 (ptk xs 5 1) (ptk xs 5 2) (ptk xs 5 3) (ptk xs 5 4) pre)) (λ_ _ s7 _=>(intOf s7).toNat)
  case atStart=>exact⟨n,-1,-1,[],v0,v1,v2,v3,Nat.le_refl _,rfl,rfl,rfl,by unfold Hid;simp,by unfold Hid tkA;rw[HL.out];rfl,HI⟩
  clear HI
  obtain⟨lf,za,zb,pre,v0,v1,v2,v3,hlf,rfl,rfl,rfl,HPL,HT,HI⟩:=hrel
  by_cases hz:lf=0
  case pos=>
   subst hz
   have HE:Hid (pre=tkA (des xs) 5):=by unfold Hid;have:=HT.out;rw[show tk (des xs) 5 0 za zb=[] from rfl,List.append_nil] at this;exact this
   rw[HE.out] at HI
   clear HT HE HPL
   go_wp2
   go_roundw
   case rel=>exact⟨6,v0,v1,v2,v3,by omega,by omega,by first|rfl|go_num,HI⟩
   case measure=>first|(simp[intOf];done)|(simp[intOf];omega)
  have hlp:(0:Int)<(lf:Int):=by omega
  obtain⟨lg,rfl⟩:∃lg,lf=lg+1:=⟨lf-1,by omega⟩
  go_wp2_with fail
  refine(l1After_any C a n c xs wr (row_next HO.out HI.out.nx) HN.out hl 5 za zb).mono ?_
  rintro e w1 ⟨rfl,hx⟩
  have HI1:Hid (NK w w1 xs v0 v1 v2 v3 (ptk xs 5 1) (ptk xs 5 2) (ptk xs 5 3) (ptk xs 5 4) pre):=HI.out.next hx
  clear HI hx
  have hin:=aftTo_in (des xs) 5 za zb n
  have HST:Hid (aftTo (des xs) 5 za zb n<0->tk (des xs) 5 (lg+1) za zb=[]):=λh=>tk_stop (by rw[HL.out];exact h)
  have HGO:Hid (∀m:Nat,aftTo (des xs) 5 za zb n=(m:Int)->tk (des xs) 5 (lg+1) za zb=m::tk (des xs) 5 lg (dxat xs m).1.a (dxat xs m).1.b):=λm h=>by have:=tk_go (f:=lg) (m:=m) (ds:=des xs) (kind:=5) (a:=za) (b:=zb) (by rw[HL.out];exact h);rw[this,dat_dx]
  generalize aftTo (des xs) 5 za zb n=ix at *
  by_cases hneg:ix<0
  case pos=>
   have HE:Hid (pre=tkA (des xs) 5):=by unfold Hid;have:=HT.out;rw[HST.out hneg,List.append_nil] at this;exact this
   rw[HE.out] at HI1
   clear HT HE HPL HST HGO
   go_wp2
   go_roundw
   case rel=>exact⟨6,v0,v1,v2,v3,by omega,by omega,by first|rfl|go_num,HI1⟩
   case measure=>first|(simp[intOf];done)|(simp[intOf];omega)
  obtain⟨m,rfl⟩:∃m:Nat,ix=(m:Int):=⟨ix.toNat,by omega⟩
  have hmn:m<n:=by omega
  have hmn':(m:Int)<n:=by omega
  have HT2:Hid ((pre++[m])++tk (des xs) 5 lg (dxat xs m).1.a (dxat xs m).1.b=tkA (des xs) 5):=by unfold Hid;have:=HT.out;rw[HGO.out m rfl] at this;rw[<-this,List.append_assoc];rfl
  have HPL2:Hid ((pre++[m]).length+lg=n):=by unfold Hid;have:=HPL.out;rw[List.length_append,List.length_singleton];omega
  have hpn:pre.length<=n:=by have:=HPL.out;omega
  clear HT HST HGO
  have ea:=HG.out (by omega)
  subst ea
  have x1:=cellq HI1.out.nx (HDC.out m hmn 1 (by omega))
  have x2:=cellq HI1.out.nx (HDC.out m hmn 2 (by omega))
  replace x1:w1.cell? ⟨g,m*17+1,none⟩=some (.int .i64 (dxat xs m).1.a):=x1
  replace x2:w1.cell? ⟨g,m*17+2,none⟩=some (.int .i64 (dxat xs m).1.b):=x2
  have x14:w1.cell? ⟨g,m*17+14,none⟩=some (.int .i64 (dxat xs m).1.cost):=cellq HI1.out.nx (HDC.out m hmn 14 (by omega))
  have q_:w1.cell? ⟨w.heap.size+1,4,none⟩=some (.int .i64 (utx xs pre)):=HI1.out.box.blk.cell (i:=4) rfl
  have f_:=HI1.out.box.blk.frozen 4
  go_upto_region 9 with fail
  generalize hW:w1.setCell ⟨w.heap.size+1,4,none⟩ (.int .i64 (dxat xs m).1.cost)=w3
  have HI3:Hid (NK w w3 xs v0 v1 v2 v3 (ptk xs 5 1) (ptk xs 5 2) (ptk xs 5 3) (ptk xs 5 4) (pre++[m])):=by
   unfold Hid NK
   rw[<-hW,utx_last]
   exact HI1.out.set 4 (.int .i64 (dxat xs m).1.cost)
  clear hW HI1 q_ f_ x1 x2 x14
  go_wp2
  go_roundw
  case rel=>exact⟨lg,_,_,pre++[m],v0,v1,v2,v3,by omega,by go_num,rfl,rfl,HPL2,HT2,HI3⟩
  case measure=>first|(simp[intOf];done)|(simp[intOf];omega)
 ·have HR:Hid (NS w wr #[v0,v1,v2,v3,.int .i64 (utx xs (tkA (des xs) 5))] v0 v1 v2 v3 ((tkA (des xs) 1).map (aAt xs)) ((tkA (des xs) 2).map (wvAt xs)) ((tkA (des xs) 3).map (rvAt xs)) ((tkA (des xs) 4).map (tnAt xs))):=HI.out
  clear HI
  obtain⟨ut,hut⟩:∃ut,utx xs (tkA (des xs) 5)=ut:=⟨_,rfl⟩
  rw[hut] at HR
  have HUT:=mkHid' hut
  clear hut
  obtain⟨a0,c0,e0⟩:=row_slice HR.out.r0
  generalize hn0:List.length _=n0 at e0
  clear hn0
  subst e0
  obtain⟨a1,c1,e1⟩:=row_slice HR.out.r1
  generalize hn1:List.length _=n1 at e1
  clear hn1
  subst e1
  obtain⟨a2,c2,e2⟩:=row_slice HR.out.r2
  generalize hn2:List.length _=n2 at e2
  clear hn2
  subst e2
  obtain⟨a3,c3,e3⟩:=row_slice HR.out.r3
  generalize hn3:List.length _=n3 at e3
  clear hn3
  subst e3
  have b0_:wr.cell? ⟨w.heap.size+1,0,none⟩=some (.slice a0 n0 c0):=HR.out.box.blk.cell (i:=0) rfl
  have c0_:wr.cell? ⟨w.heap.size,0,none⟩=some (.slice none 0 0):=HR.out.res.blk.cell (i:=0) rfl
  have f0_:=HR.out.res.blk.frozen 0
  have b1_:wr.cell? ⟨w.heap.size+1,1,none⟩=some (.slice a1 n1 c1):=HR.out.box.blk.cell (i:=1) rfl
  have c1_:wr.cell? ⟨w.heap.size,1,none⟩=some (.slice none 0 0):=HR.out.res.blk.cell (i:=1) rfl
  have f1_:=HR.out.res.blk.frozen 1
  have b2_:wr.cell? ⟨w.heap.size+1,2,none⟩=some (.slice a2 n2 c2):=HR.out.box.blk.cell (i:=2) rfl
  have c2_:wr.cell? ⟨w.heap.size,2,none⟩=some (.slice none 0 0):=HR.out.res.blk.cell (i:=2) rfl
  have f2_:=HR.out.res.blk.frozen 2
  have b3_:wr.cell? ⟨w.heap.size+1,3,none⟩=some (.slice a3 n3 c3):=HR.out.box.blk.cell (i:=3) rfl
  have c3_:wr.cell? ⟨w.heap.size,3,none⟩=some (.slice none 0 0):=HR.out.res.blk.cell (i:=3) rfl
  have f3_:=HR.out.res.blk.frozen 3
  have b4_:wr.cell? ⟨w.heap.size+1,4,none⟩=some (.int .i64 ut):=HR.out.box.blk.cell (i:=4) rfl
  have c4_:wr.cell? ⟨w.heap.size,4,none⟩=some (.int .i64 0):=HR.out.res.blk.cell (i:=4) rfl
  have f4_:=HR.out.res.blk.frozen 4
  go_wp2
  have h5:=five (w:=wr) (b:=w.heap.size) (x0:=.slice a0 n0 c0) (x1:=.slice a1 n1 c1) (x2:=.slice a2 n2 c2) (x3:=.slice a3 n3 c3) (x4:=.int .i64 ut) HR.out.res
  generalize ((((wr.setCell ⟨w.heap.size,0,none⟩ (.slice a0 n0 c0)).setCell ⟨w.heap.size,1,none⟩ (.slice a1 n1 c1)).setCell ⟨w.heap.size,2,none⟩ (.slice a2 n2 c2)).setCell ⟨w.heap.size,3,none⟩ (.slice a3 n3 c3)).setCell ⟨w.heap.size,4,none⟩ (.int .i64 ut)=wF at *
  obtain⟨hb,hrw,hnx⟩:=h5
  have p0_:wF.cell? ⟨w.heap.size,0,none⟩=some (.slice a0 n0 c0):=hb.blk.cell (i:=0) rfl
  have p1_:wF.cell? ⟨w.heap.size,1,none⟩=some (.slice a1 n1 c1):=hb.blk.cell (i:=1) rfl
  have p2_:wF.cell? ⟨w.heap.size,2,none⟩=some (.slice a2 n2 c2):=hb.blk.cell (i:=2) rfl
  have p3_:wF.cell? ⟨w.heap.size,3,none⟩=some (.slice a3 n3 c3):=hb.blk.cell (i:=3) rfl
  have p4_:wF.cell? ⟨w.heap.size,4,none⟩=some (.int .i64 ut):=hb.blk.cell (i:=4) rfl
  refine bodyPost_ret (v:=.agg #[.slice a0 n0 c0,.slice a1 n1 c1,.slice a2 n2 c2,.slice a3 n3 c3,.int .i64 ut]) (by simp[results,Tryz.results20,go_sem,p0_,p1_,p2_,p3_,p4_]) rfl ?_
  exact⟨⟨_,_,_,_,by rw[HUT.out],hrw (by decide) HR.out.r0,hrw (by decide) HR.out.r1,hrw (by decide) HR.out.r2,hrw (by decide) HR.out.r3⟩,hnx w HR.out.nx (Nat.le_refl _)⟩
theorem cutL_size {bs:List UInt8}{sep:UInt8}{i:Nat}(hi:i<(cutL bs sep).length):(sat (cutL bs sep) i).size<=bs.length:=by
 have hm:sat (cutL bs sep) i∈cutL bs sep:=by
  have e2:sat (cutL bs sep) i=(cutL bs sep)[i]:=by simp[sat,List.getD,hi]
  rw[e2];exact List.getElem_mem hi
 generalize sat (cutL bs sep) i=x at *
 unfold cutL at hm
 rcases List.mem_append.1 hm with h|h
 ·have:=ctTo_size _ _ _ (Nat.le_refl _) x h;omega
 ·have e:x=stOf (List.drop (ctTo bs sep bs.length).2 bs):=by simpa using h
  rw[e,stOf_size,List.length_drop];omega
theorem cutL_len (bs:List UInt8)(sep:UInt8):1<=(cutL bs sep).length/\(cutL bs sep).length<=bs.length+1:=by
 unfold cutL
 have:=(ctTo_le bs sep bs.length).2
 rw[List.length_append,List.length_singleton]
 omega
theorem fld_size {s:ByteArray}{i:Nat}(hi:i<(fldS s).length):(sat (fldS s) i).size<=s.size:=by
 unfold fldS at hi ⊢
 split at hi
 ·rename_i h
  rw[if_pos h]
  exact cut_size hi
 ·simp at hi
theorem fld_len (s:ByteArray):(fldS s).length<=s.size+1:=by
 unfold fldS
 split
 ·exact cut_len s
 ·simp
def firstN (n:Nat)(p:Nat->Bool):Option Nat:=(List.range n).find? p
theorem firstN_some {n i:Nat}{p:Nat->Bool}(hi:i<n)(hp:p i=true)(hb:∀j,j<i->p j=false):firstN n p=some i:=by
 unfold firstN
 rw[List.find?_range_eq_some]
 exact⟨hp,List.mem_range.2 hi,λj hj=>by simp[hb j hj]⟩
theorem firstN_none {n:Nat}{p:Nat->Bool}(hb:∀j,j<n->p j=false):firstN n p=none:=by
 unfold firstN
 rw[List.find?_eq_none]
 intro j hj
 simp[hb j (List.mem_range.1 hj)]
def lnC (ls:List ByteArray)(i:Nat):Int:=if (fldS (sat ls i)).length=0 then 4 else chkS (fldS (sat ls i))
def lnB (ls:List ByteArray)(i:Nat):Bool:=decide (1<=i)&&!(lnC ls i==0)
def dsTo (ls:List ByteArray)(k:Nat):List De:=(List.range k).map λi=>rdS (fldS (sat ls (i+1)))
theorem dsTo_succ (ls:List ByteArray)(k:Nat):dsTo ls (k+1)=dsTo ls k++[rdS (fldS (sat ls (k+1)))]:=by simp[dsTo,List.range_succ]
theorem dsTo_len (ls:List ByteArray)(k:Nat):(dsTo ls k).length=k:=by simp[dsTo]
def repB (ds:List De)(i:Nat):Bool:=decide (fndP (pk (dat ds i).kind (dat ds i).a (dat ds i).b) ds<(i:Int))
def danN (ds:List De)(l:List Int)(kind:Int):Bool:=l.any λx=>decide (fndP (pk kind x 0) ds<0)
def danB (ds:List De)(i:Nat):Bool:=danN ds (dat ds i).nn 1||danN ds (dat ds i).nw 2
def wegs (x:Wy):Nat:=if x.both then 2*x.weights.length else x.weights.length
def egTo (ds:List De):Nat->Nat
 |0=>0
 |k+1=>egTo ds k+wegs (dat ds k).way
def overB (ds:List De):Bool:=decide (2000<cntTo ds 1 ds.length)||(decide (2000<cntTo ds 2 ds.length)||(decide (4000<egTo ds ds.length)||(decide (1000<cntTo ds 3 ds.length)||decide (2000<cntTo ds 4 ds.length))))
abbrev Pm:=Except (Int×Int) (List De)
def prsD (ds:List De):Pm:=
 match firstN ds.length (repB ds) with
 |some i=>.error (9,(i:Int)+2)
 |none=>match firstN ds.length (danB ds) with
  |some i=>.error (10,(i:Int)+2)
  |none=>if overB ds=true then .error (11,0) else .ok ds
def prsL (ls:List ByteArray):Pm:=
 if (sat ls 0).toList≠[114,111,97,100,110,101,116,32,49] then .error (3,1)
 else match firstN ls.length (lnB ls) with
  |some i=>.error ((lnC ls i),(i:Int)+1)
  |none=>prsD (dsTo ls (ls.length-1))
def prsM (bs:List UInt8):Pm:=
 if 300000<bs.length then .error (1,0)
 else if bs.length=0\/byteAt bs (bs.length-1)≠10 then .error (2,0)
 else prsL (cutL (bs.take (bs.length-1)) 10)
def zPr:Array Value:=#[.int .i64 0,.int .i64 0,.slice none 0 0,.slice none 0 0,.slice none 0 0,.slice none 0 0,.int .i64 0]
theorem HDx.next {C:Nat}{w w':World}{x:Dx}(h:HDx C w x)(k:Nx w w'):HDx C w' x:=⟨h.h1.next k,h.h2.next k,h.h3.next k,h.h4.next k,h.h5.next k⟩
theorem HDx.base {C C':Nat}{w:World}{x:Dx}(h:HDx C w x)(k:C'<=C):HDx C' w x:=⟨row_base h.h1 k,row_base h.h2 k,row_base h.h3 k,row_base h.h4 k,row_base h.h5 k⟩
structure DS (w0 w:World)(vl:Value)(ls:List ByteArray)(v:Value)(xs:List Dx):Prop where
 nx:Nx w0 w
 res:BT w w0.heap.size zPr 30
 ln:OwnSt w0.heap.size w vl ls
 own:OwnDs w0.heap.size w v xs
 hd:∀x∈xs,HDx w0.heap.size w x
section
variable {w0 w w':World}{vl v:Value}{ls:List ByteArray}{xs:List Dx}
theorem DS.next (h:DS w0 w vl ls v xs)(k:Nx w w'):DS w0 w' vl ls v xs:=⟨h.nx.trans k,h.res.next k,row_next h.ln k,row_next h.own k,λx hx=>(h.hd x hx).next k⟩
theorem DS.grow (h:DS w0 w vl ls v xs){v':Value}{y:Dx}(hy:HDx w0.heap.size w y)(hr:OwnDs w0.heap.size w' v' (xs++[y]))(hc:Chg (λx=>some x=v.ownBlock) w w'):DS w0 w' vl ls v' (xs++[y]):=by
 have far:∀{u:Value}{zs:List Int},OwnI w0.heap.size w u zs->OwnI w0.heap.size w' u zs:=λho=>row_apart ho h.own (by decide) hc
 have farD:∀{x:Dx},HDx w0.heap.size w x->HDx w0.heap.size w' x:=λk=>⟨far k.h1,far k.h2,far k.h3,far k.h4,far k.h5⟩
 refine⟨Below.trans h.nx (hc.below h.nx.size (λx hx=>(own_lt h.own x hx.symm).1)),h.res.row h.own (by decide) hc,row_apart h.ln h.own (by decide) hc,hr,λx hx=>?_⟩
 rcases List.mem_append.1 hx with k|k
 ·exact farD (h.hd x k)
 ·have e:x=y:=by simpa using k
  rw[e];exact farD hy
end
theorem res_parsed {ts:Array Value}{w:World}{b:Nat}{x0 x1 x2 x3 x4 x5 x6:Value}(h:ts[2]?.getD undef=.pointer (some ⟨b,0,none⟩))
  (p0:w.cell? ⟨b,0,none⟩=some x0) (p1:w.cell? ⟨b,1,none⟩=some x1) (p2:w.cell? ⟨b,2,none⟩=some x2) (p3:w.cell? ⟨b,3,none⟩=some x3) (p4:w.cell? ⟨b,4,none⟩=some x4) (p5:w.cell? ⟨b,5,none⟩=some x5) (p6:w.cell? ⟨b,6,none⟩=some x6) :
  (results Tryz.f4 ts).run Tryz.prog w=.ok (.agg #[x0,x1,x2,x3,x4,x5,x6]) w:=by
 simp[results,Tryz.results4,h,go_sem,p0,p1,p2,p3,p4,p5,p6]
def noV (code line:Int):Value:=.agg #[.int .i64 code,.int .i64 line,.slice none 0 0,.slice none 0 0,.slice none 0 0,.slice none 0 0,.int .i64 0]
structure YesV (w w':World)(xs:List Dx)(v0 v1 v2 v3:Value):Prop where
 hd:∀x∈xs,HDx w.heap.size w' x
 r0:OwnI w.heap.size w' v0 ((tkA (des xs) 1).map (aAt xs))
 r1:w'.ownsRow w.heap.size 45 4 v1 ((tkA (des xs) 2).map (wvAt xs)).length (((tkA (des xs) 2).map (wvAt xs)).flatMap wvL)
 r2:w'.ownsRow w.heap.size 47 7 v2 ((tkA (des xs) 3).map (rvAt xs)).length (((tkA (des xs) 3).map (rvAt xs)).flatMap rvL)
 r3:OwnT w.heap.size w' v3 ((tkA (des xs) 4).map (tnAt xs))
def PmIs (w w':World)(p:Pm)(e:Ending):Prop:=match p with
 |.error (c,l)=>e=.returned (noV c l)
 |.ok ds=>∃xs v0 v1 v2 v3,des xs=ds/\e=.returned (.agg #[.int .i64 0,.int .i64 0,v0,v1,v2,v3,.int .i64 (utx xs (tkA (des xs) 5))])/\YesV w w' xs v0 v1 v2 v3
theorem PmIs.no {w w':World}{p:Pm}{c l:Int}(h:p=.error (c,l)):PmIs w w' p (.returned (noV c l)):=by rw[h];rfl
end Go.Proofs.YthhkjbfkgdlkmaaGreatDoor
