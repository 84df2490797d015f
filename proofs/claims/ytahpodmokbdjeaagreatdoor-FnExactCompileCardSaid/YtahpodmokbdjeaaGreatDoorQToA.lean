import Derived.Test.YtahpodmokbdjeaaGreatDoorQLeaf
import Derived.Deep.OwnRows
namespace Go.Proofs.YtahpodmokbdjeaaGreatDoor
open Go.RowKit Tryz
set_option linter.unusedVariables false
set_option maxHeartbeats 16000000
def Opn (w:World)(b:Nat):Prop:=∃cs t,w.heap[b]?=some (.cells cs t (0,0))
structure Nu (w w':World):Prop where
 nx:Nx w w'
 op:∀b,w.heap.size<=b->b<w'.heap.size->Opn w' b
theorem Nu.keeps {w w':World}(h:Nu w w')(B:Nat):Xh B w w':=h.nx.keeps B
theorem Opn.next {w w':World}{b:Nat}(h:Opn w b)(k:Nx w w'):Opn w' b:=by
 obtain⟨cs,t,h⟩:=h
 exact⟨cs,t,(k.block b (Array.getElem?_eq_some_iff.1 h).1).trans h⟩
theorem Opn.setCell {w:World}{b:Nat}(h:Opn w b)(p:Addr)(v:Value):Opn (w.setCell p v) b:=by
 obtain⟨cs,t,h⟩:=h
 by_cases e:p.block=b
 ·exact⟨if p.spot.isSome then cs else cs.setIfInBounds p.off v,t,by simp[World.setCell,Array.getElem?_modify,h,e]⟩
 ·exact⟨cs,t,(Below.heap_setCell _ _ _ _ (λh'=>e h'.symm)).trans h⟩
theorem Nu.refl (w:World):Nu w w:=⟨Nx.refl w,λb h h'=>absurd h' (by omega)⟩
theorem Nu.trans {a b c:World}(h:Nu a b)(k:Nu b c):Nu a c:=by
 refine⟨h.nx.trans k.nx,λx hx hx'=>?_⟩
 by_cases e:x<b.heap.size
 ·exact(h.op x hx e).next k.nx
 ·exact k.op x (by omega) hx'
theorem Nu.alloc {a b:World}(h:Nu a b)(cs:Array Value)(t:TypeId):Nu a (b.alloc (.cells cs t)):=by
 refine⟨h.nx.alloc _,λx hx hx'=>?_⟩
 by_cases e:x<b.heap.size
 ·exact(h.op x hx e).next (Q4 _ _)
 ·have e':x=b.heap.size:=by simp at hx';omega
  subst e'
  exact⟨cs,t,by show(b.heap.push _)[b.heap.size]?=_;simp⟩
theorem Nu.setCell {a b:World}(h:Nu a b){p:Addr}(hp:a.heap.size<=p.block)(v:Value):Nu a (b.setCell p v):=
 ⟨Below.setCell h.nx hp v,λx hx hx'=>(h.op x hx (by simpa [World.setCell] using hx')).setCell p v⟩
theorem Q0j (w:World)(cs:Array Value)(t:TypeId):Nu w (w.alloc (.cells cs t)):=(Nu.refl w).alloc cs t
theorem Q7m (w:World)(cs:Array Value)(t:TypeId)(cs':Array Value)(t':TypeId):Nu w ((w.alloc (.cells cs t)).alloc (.cells cs' t')):=(Q0j w cs t).alloc cs' t'
theorem Qga:(prog.info? 2).map (λi=>(i.zero,i.size,i.bytes))=some (some (iV 0),1,8):=by kernel_rfl
def An (w:World)(g n k:Nat)(zs:List Int):Prop:=∃f,w.rowIs g 2 n f/\∀i,i<k->f i=iV (iat zs i)
theorem An.set {w:World}{g n k:Nat}{zs:List Int}(h:An w g n k zs):An (w.setCell (aD g k) (iV (iat zs k))) g n (k+1) zs:=by
 obtain⟨f,h1,h2⟩:=h
 refine⟨_,h1.set k _,λi hi=>?_⟩
 by_cases e:i=k
 ·subst e;simp
 ·simp[e];exact h2 i (by omega)
theorem An.held {w:World}{g n:Nat}{zs:List Int}(hn:zs.length=n)(hm:n<=maxLen)(h:An w g n n zs):Q8 g w (sL (sA g) n n) zs:=by
 obtain⟨f,h1,h2⟩:=h
 subst hn
 refine⟨_,_,rfl,hm,λh0=>⟨g,0,rfl,lR,h1.lt,λi hi=>?_⟩⟩
 show w.cell? (aD g (0+i))=_
 rw[Nat.zero_add,h1.cell hi,h2 i hi]
theorem Pw (B:Nat)(v:Value)(zs:List Int)(w:World)(h0:Q8 B w v zs)(hs:zs.length<=1048576) :
  Calls prog 27 #[v] w λe w'=>(∃a' n' c',e=.returned (sL a' n' c')/\Q8 w.heap.size w' (sL a' n' c') zs)/\Nu w w':=by
 obtain⟨a,cap,rfl,hn,hk⟩:=h0
 generalize hz:zs.length=n at *
 have HZ:Z (zs.length=n):=hz
 have HM:Z (n<=maxLen):=hn
 clear hz hn
 have hmk:=run_make_row' (P:=prog) 22 2 (iV 0) 8 underlying22 Qga rfl .i64 .i64 n (by omega) (by omega)
 go_enter func27,ntmps27
 go_wp2
 go_loopw [4] (λi wr=>∃k:Nat,k<=n/\i=iV k/\Z (An wr w.heap.size n k zs)/\Z (Nu w wr)) (λi _=>n-(intOf i).toNat)
 case atStart=>exact⟨0,nZ,rfl,⟨_,World.rowIs_made _ _ _ _,λi hi=>absurd hi (zM _)⟩,Q0j _ _ _⟩
 case round=>
  obtain⟨k,hkn,rfl,HR,HN⟩:=hrel
  clear hmk
  by_cases hlt:k<n
  ·obtain⟨b,off,rfl,hB,hb,hc⟩:=hk (by omega)
   have c0:=Q0 HN.o.nx hb (hc k hlt)
   have hlt':(k:Int)<n:=by omega
   obtain⟨f,hf,hf'⟩:=HR.o
   have r0:=hf.cell hlt
   have r1:=hf.frozen k
   clear hc hk hf hf'
   go_wp2
   go_roundw
   case rel=>exact⟨k+1,by omega,by go_num,HR.o.set,Nu.setCell HN.o lR _⟩
   case measure=>simp[intOf];omega
  ·go_wp2
   go_ret
   have e:k=n:=by omega
   subst e
   exact⟨⟨_,_,_,rfl,HR.o.held HZ.o HM.o⟩,HN.o⟩
theorem Q8.base {B B':Nat}{w:World}{v:Value}{zs:List Int}(h:Q8 B w v zs)(hB:B'<=B):Q8 B' w v zs:=
 Ji.mono h hB lR λb off hb hs i hi hc=>hc
theorem Q8.store {B:Nat}{w:World}{v:Value}{zs:List Int}(h:Q8 B w v zs){g o:Nat}(hg:g<B)(u:Value):Q8 B (w.setCell (aD g o) u) v zs:=
 h.keep ⟨by simp[World.setCell],λb hb _ o'=>World.cell?_of_block (w:=w) (Below.heap_setCell _ _ _ _ (by simp;omega))⟩
def Blk (w:World)(b:Nat)(cs:Array Value):Prop:=∃t,w.heap[b]?=some (.cells cs t (0,0))
theorem Blk.lt {w:World}{b:Nat}{cs:Array Value}(h:Blk w b cs):b<w.heap.size:=by
 obtain⟨t,h⟩:=h
 exact(Array.getElem?_eq_some_iff.1 h).1
theorem Blk.cell {w:World}{b:Nat}{cs:Array Value}(h:Blk w b cs){i:Nat}{v:Value}(hi:cs[i]?=some v):w.cell? (aD b i)=some v:=by
 obtain⟨t,h⟩:=h
 simp[World.cell?,h,hi]
theorem Blk.c {w:World}{b:Nat}{cs:Array Value}(h:Blk w b cs)(i:Nat){v:Value}(hi:cs[i]?=some v):w.cell? ⟨b,i,none⟩=some v:=h.cell hi
theorem Blk.frozen {w:World}{b:Nat}{cs:Array Value}(h:Blk w b cs)(i:Nat):w.frozen? (aD b i)=false:=by
 obtain⟨t,h⟩:=h
 simp[World.frozen?,h]
theorem Blk.next {w w':World}{b:Nat}{cs:Array Value}(h:Blk w b cs)(k:Nx w w'):Blk w' b cs:=by
 have hl:=h.lt
 obtain⟨t,h⟩:=h
 exact⟨t,(k.block b hl).trans h⟩
theorem Blk.drew {w:World}{b:Nat}{cs:Array Value}(h:Blk w b cs):Blk w.drew b cs:=h
theorem Blk.new (w:World)(cs:Array Value)(t:TypeId)(n:Nat)(hn:n=w.heap.size):Blk (w.alloc (.cells cs t)) n cs:=by
 subst hn
 exact⟨t,by show(w.heap.push _)[w.heap.size]?=_;simp⟩
theorem Blk.alloc {w:World}{b:Nat}{cs:Array Value}(h:Blk w b cs)(o:Obj):Blk (w.alloc o) b cs:=h.next (by exact Below.alloc (Below.refl _ _) lR _)
theorem Blk.set {w:World}{b:Nat}{cs:Array Value}(h:Blk w b cs)(i:Nat)(v:Value):Blk (w.setCell (aD b i) v) b (cs.setIfInBounds i v):=by
 obtain⟨t,h⟩:=h
 exact⟨t,by simp[World.setCell,Array.getElem?_modify,h]⟩
theorem Blk.setOther {w:World}{b:Nat}{cs:Array Value}(h:Blk w b cs){g:Nat}(hg:b≠g)(i:Nat)(v:Value):Blk (w.setCell (aD g i) v) b cs:=by
 obtain⟨t,h⟩:=h
 exact⟨t,(Below.heap_setCell _ _ _ _ hg).trans h⟩
theorem Q9d (B:Nat)(id:Int)(both:Bool)(p q:Value)(ns ws:List Int)(w:World)(h0:Q8 B w p ns)(h1:Q8 B w q ws)(hs0:ns.length<=1048576)(hs1:ws.length<=1048576) :
  Calls prog 68 #[.agg #[iV id,.bool both,p,q]] w λe w'=>(∃a m c a' m' c',e=.returned (.agg #[iV id,.bool both,sL a m c,sL a' m' c'])/\Q8 w.heap.size w' (sL a m c) ns/\Q8 w.heap.size w' (sL a' m' c') ws)/\Nu w w':=by
 go_enter func68,ntmps68
 go_wp2_with fail
 refine(Pw B _ ns _ (h0.next (((Zk _ _ _).alloc _))) hs0).mono ?_
 rintro e w1 ⟨⟨a1,n1,c1,rfl,g1⟩,hu⟩
 have hx:=hu.nx
 have HX:Z (Nu w w1):=((Q7m _ _ _ _ _).alloc _ _).trans hu
 have BA:Blk w1 w.heap.size #[iV id,.bool both,p,q]:=(((Blk.new w _ 102 _ rfl).alloc _).alloc _).next hx
 have BB:Blk w1 (w.heap.size+1) #[iV 0,.bool false,sN,sN]:=((Blk.new _ _ 108 _ (by simp)).alloc _).next hx
 have BC:Blk w1 (w.heap.size+1+1) #[iV id,.bool both,sN,sN]:=(Blk.new _ _ 108 _ (by simp)).next hx
 have G1:Z (Q8 (w.heap.size+3) w1 (sL a1 n1 c1) ns):=g1.base (by simp)
 clear hx hu g1
 have k0:=BA.c 3 rfl
 have k1:=BC.c 2 rfl
 have k2:=BC.frozen 2
 have BC':=BC.set 2 (sL a1 n1 c1)
 have BB':=BB.setOther (g:=w.heap.size+1+1) (by omega) 2 (sL a1 n1 c1)
 have hz:=BC.lt
 go_wp2_with fail
 have hy:Nu w (w1.setCell (aD (w.heap.size+1+1) 2) (sL a1 n1 c1)):=Nu.setCell HX.o (by simp;omega) _
 refine(Pw B _ ws _ (h1.next hy.nx) hs1).mono ?_
 rintro e w2 ⟨⟨a2,n2,c2,rfl,g2⟩,hu2⟩
 have hx2:=hu2.nx
 have HX2:Z (Nu w w2):=hy.trans hu2
 have BC2:=BC'.next hx2
 have BB2:=BB'.next hx2
 have G2:Z (Q8 (w.heap.size+3) w2 (sL a2 n2 c2) ws):=g2.base (by simp[World.setCell];omega)
 have G1':Z (Q8 (w.heap.size+3) w2 (sL a1 n1 c1) ns):=(G1.o.store (by omega) _).keep (hx2.keeps _)
 clear hx2 hu2 g2 G1 hy BA BB BC BC' BB' k0 k1 k2 hz
 have k0:=BC2.c 0 rfl
 have k1:=BC2.c 1 rfl
 have k2:=BC2.c 2 rfl
 have k3:=BC2.c 3 rfl
 have k4:=BC2.frozen 3
 have j0:=BB2.c 0 rfl
 have j1:=BB2.c 1 rfl
 have j2:=BB2.c 2 rfl
 have j3:=BB2.c 3 rfl
 have f0:=BB2.frozen 0
 have f1:=BB2.frozen 1
 have f2:=BB2.frozen 2
 have f3:=BB2.frozen 3
 go_wp2
 refine bodyPost_ret (v:=.agg #[iV id,.bool both,sL a1 n1 c1,sL a2 n2 c2]) (by simp[results,results68,go_sem,j0,j1,j2,j3]) rfl ⟨⟨a1,n1,c1,a2,n2,c2,rfl,?_,?_⟩,?_⟩
 ·exact(((((G1'.o.store (by omega) _).store (by omega) _).store (by omega) _).store (by omega) _).store (by omega) _).base (by omega)
 ·exact(((((G2.o.store (by omega) _).store (by omega) _).store (by omega) _).store (by omega) _).store (by omega) _).base (by omega)
 ·exact Nu.setCell (Nu.setCell (Nu.setCell (Nu.setCell (Nu.setCell HX2.o (by simp;omega) _) (by simp) _) (by simp) _) (by simp) _) (by simp) _
theorem Q64 (x:Tn)(w:World) :
  Calls prog 70 #[.agg #[iV x.frm,iV x.to,iV x.cost]] w λe w'=>e=.returned (.agg #[iV x.frm,iV x.to,iV x.cost])/\Nu w w':=by
 go_enter func70,ntmps70
 go_wp2
 refine bodyPost_ret (v:=.agg #[iV x.frm,iV x.to,iV x.cost]) (by simp[results,results70,go_sem]) rfl ⟨rfl,?_⟩
 exact(Q7m _ _ _ _ _).alloc _ _
theorem T2 (t e:TypeId)(z:Value)(k bytes:Nat)(ht:prog.underlying t=some (.slice e))(hinfo:(prog.info? e).map (λi=>(i.zero,i.size,i.bytes))=some (some z,k,bytes))
  (n:Nat) (hbytes:bytes*n<=281474976710656) (h63:n<=9223372036854775807) (w:World) :
  (Instr.makeSlice t (iV (n:Int)) (iV (n:Int))).run prog w=.ok (sL (sA w.heap.size) n n) (w.alloc (.cells (madeCells z.cells (n*k)) e)):=by
 obtain⟨i,hi,hzz⟩:=Option.map_eq_some_iff.1 hinfo
 simp only[Prod.mk.injEq] at hzz
 obtain⟨hz,hs,hb⟩:=hzz
 have hb':(i.bytes:Int)*(n:Int)<=281474976710656:=by
  have h:((i.bytes*n:Nat):Int)<=281474976710656:=by rw[hb];omega
  rwa [Int.natCast_mul] at h
 have hr:=run_make (P:=prog) w t e i z ht hi hz .i64 .i64 n n (by omega) (Int.le_refl _) hb' (by omega)
 simp only[zX,hs] at hr
 exact hr
theorem Qi {cs:Array Value}{i j:Nat}(a:Value)(h:i≠j):(cs.setIfInBounds i a)[j]?=cs[j]?:=by rw[Array.getElem?_setIfInBounds,if_neg h]
theorem Zf {cs:Array Value}{i:Nat}(a:Value)(h:i<cs.size):(cs.setIfInBounds i a)[i]?=some a:=by simp[h]
theorem Blk.made (w:World)(z:Array Value)(n:Nat)(t:TypeId):Blk (w.alloc (.cells (madeCells z n) t)) w.heap.size (madeCells z n):=Blk.new _ _ _ _ rfl
def Ue (w:World)(g n k:Nat)(zs:List Wy):Prop:=∃cs:Array Value,Blk w g cs/\cs.size=n*4/\∀i,i<k->∃p q:Value,cs[i*4]?=some (iV (wat zs i).id)/\cs[i*4+1]?=some (.bool (wat zs i).both)/\cs[i*4+2]?=some p/\cs[i*4+3]?=some q/\Q8 (g+1) w p (wat zs i).nodes/\Q8 (g+1) w q (wat zs i).weights
theorem Ue.step {wr w1:World}{g n k:Nat}{zs:List Wy}(h:Ue wr g n k zs)(hx:Nx wr w1)(hk:k<n)(p:Value)(q:Value)(h0:Q8 (g+1) w1 p (wat zs k).nodes)(h1:Q8 (g+1) w1 q (wat zs k).weights) :
  Ue ((((w1.setCell (aD g (k*4)) (iV (wat zs k).id)).setCell (aD g (k*4+1)) (.bool (wat zs k).both)).setCell (aD g (k*4+2)) p).setCell (aD g (k*4+3)) q) g n (k+1) zs:=by
 obtain⟨cs,BK,hs,hi⟩:=h
 have hm:(k+1)*4<=n*4:=Nat.mul_le_mul_right 4 hk
 refine⟨_,(((((BK.next hx).set (k*4) (iV (wat zs k).id)).set (k*4+1) (.bool (wat zs k).both)).set (k*4+2) p).set (k*4+3) q),by simpa using hs,λi hik=>?_⟩
 by_cases e:i=k
 ·subst e
  exact⟨p,q,(by rw[Qi _ (by omega)];rw[Qi _ (by omega)];rw[Qi _ (by omega)];exact Zf _ (by simp[hs];omega)),(by rw[Qi _ (by omega)];rw[Qi _ (by omega)];exact Zf _ (by simp[hs];omega)),(by rw[Qi _ (by omega)];exact Zf _ (by simp[hs];omega)),(by  exact Zf _ (by simp[hs];omega)),((((h0.store (by omega) _).store (by omega) _).store (by omega) _).store (by omega) _),((((h1.store (by omega) _).store (by omega) _).store (by omega) _).store (by omega) _)⟩
 ·obtain⟨p',q',e0,e1,e2,e3,i0,i1⟩:=hi i (by omega)
  exact⟨p',q',(by rw[Qi _ (by omega)];rw[Qi _ (by omega)];rw[Qi _ (by omega)];rw[Qi _ (by omega)];exact e0),(by rw[Qi _ (by omega)];rw[Qi _ (by omega)];rw[Qi _ (by omega)];rw[Qi _ (by omega)];exact e1),(by rw[Qi _ (by omega)];rw[Qi _ (by omega)];rw[Qi _ (by omega)];rw[Qi _ (by omega)];exact e2),(by rw[Qi _ (by omega)];rw[Qi _ (by omega)];rw[Qi _ (by omega)];rw[Qi _ (by omega)];exact e3),(((((i0.next hx).store (by omega) _).store (by omega) _).store (by omega) _).store (by omega) _),(((((i1.next hx).store (by omega) _).store (by omega) _).store (by omega) _).store (by omega) _)⟩
theorem Ue.held {w:World}{g n:Nat}{zs:List Wy}(hn:zs.length=n)(hm:n<=maxLen)(h:Ue w g n n zs):Jy g w (sL (sA g) n n) zs:=by
 obtain⟨cs,BK,hs,hi⟩:=h
 subst hn
 refine⟨_,_,rfl,hm,λh0=>⟨g,0,rfl,lR,BK.lt,λi hik=>?_⟩⟩
 obtain⟨p',q',e0,e1,e2,e3,i0,i1⟩:=hi i hik
 exact⟨p',q',BK.cell (by simpa using e0),BK.cell (by simpa using e1),BK.cell (by simpa using e2),BK.cell (by simpa using e3),i0.base (by omega),i1.base (by omega)⟩
theorem Qh6:(prog.info? 108).map (λi=>(i.zero,i.size,i.bytes))=some (some (.agg #[iV 0,.bool false,sN,sN]),4,64):=by kernel_rfl
theorem Q63 (B:Nat)(v:Value)(zs:List Wy)(w:World)(h0:Jy B w v zs)(hs:zs.length<=1048576)(hs1:∀i,i<zs.length->(wat zs i).nodes.length<=1048576/\(wat zs i).weights.length<=1048576) :
  Calls prog 28 #[v] w λe w'=>(∃a' n' c',e=.returned (sL a' n' c')/\Jy w.heap.size w' (sL a' n' c') zs)/\Nu w w':=by
 obtain⟨a,cap,rfl,hn,hk⟩:=h0
 generalize hz:zs.length=n at *
 have HZ:Z (zs.length=n):=hz
 have HM:Z (n<=maxLen):=hn
 clear hz hn
 have hmk:=T2 34 108 (.agg #[iV 0,.bool false,sN,sN]) 4 64 underlying34 Qh6 n (by omega) (by omega)
 go_enter func28,ntmps28
 go_wp2
 go_loopw [4] (λi wr=>∃k:Nat,k<=n/\i=iV k/\Z (Ue wr w.heap.size n k zs)/\Z (Nu w wr)) (λi _=>n-(intOf i).toNat)
 case atStart=>exact⟨0,nZ,rfl,⟨_,Blk.made _ _ _ _,size_madeCells _ _,λi hi=>absurd hi (zM _)⟩,Q0j _ _ _⟩
 case round=>
  obtain⟨k,hkn,rfl,HR,HN⟩:=hrel
  clear hmk
  by_cases hlt:k<n
  ·obtain⟨b,off,rfl,hB,hb,hc⟩:=hk (by omega)
   obtain⟨p1,p2,a0,a1,a2,a3,n1,w1'⟩:=hc k hlt
   have a0:=Q0 HN.o.nx hb a0
   have a1:=Q0 HN.o.nx hb a1
   have a2:=Q0 HN.o.nx hb a2
   have a3:=Q0 HN.o.nx hb a3
   have hlt':(k:Int)<n:=by omega
   obtain⟨cs,BK,hcs,_⟩:=HR.o
   have hm:(k+1)*4<=n*4:=Nat.mul_le_mul_right 4 hlt
   have hsz:w.heap.size<wr.heap.size:=BK.lt
   clear hc hk
   go_wp2_with fail
   refine(Q9d B _ _ _ _ (wat zs k).nodes (wat zs k).weights _ (by exact n1.next HN.o.nx) (by exact w1'.next HN.o.nx) (hs1 k hlt).1 (hs1 k hlt).2).mono ?_
   rintro e w1 ⟨⟨q1,m1,c1,q2,m2,c2,rfl,g0',g1'⟩,hu⟩
   have hx:=hu.nx
   have BK1:=BK.next hx
   have g0:Z (Q8 wr.heap.size w1 (sL q1 m1 c1) (wat zs k).nodes):=g0'
   have g1:Z (Q8 wr.heap.size w1 (sL q2 m2 c2) (wat zs k).weights):=g1'
   clear g0' g1'
   have r0:=BK1.cell (i:=k*4) (zL (by omega))
   have r1:=BK1.cell (i:=k*4+1) (zL (by omega))
   have r2:=BK1.cell (i:=k*4+2) (zL (by omega))
   have r3:=BK1.cell (i:=k*4+3) (zL (by omega))
   have f0:=BK1.frozen (k*4)
   have f1:=BK1.frozen (k*4+1)
   have f2:=BK1.frozen (k*4+2)
   have f3:=BK1.frozen (k*4+3)
   have HX:Z (Nu wr w1):=hu
   clear hx hu BK BK1
   go_wp2
   go_roundw
   case rel=>exact⟨k+1,by omega,by go_num,HR.o.step HX.o.nx hlt _ _ (g0.o.base (by omega)) (g1.o.base (by omega)),Nu.setCell (Nu.setCell (Nu.setCell (Nu.setCell (HN.o.trans HX.o) lR _) lR _) lR _) lR _⟩
   case measure=>simp[intOf];omega
  ·go_wp2
   go_ret
   have e:k=n:=by omega
   subst e
   exact⟨⟨_,_,_,rfl,HR.o.held HZ.o HM.o⟩,HN.o⟩
theorem Qh5:(prog.info? 111).map (λi=>(i.zero,i.size,i.bytes))=some (some (.agg #[iV 0,.bool false,iV 0,iV 0,.bool false,iV 0,sN]),7,72):=by kernel_rfl
def Zs (w:World)(g n k:Nat)(zs:List Tn):Prop:=∃cs:Array Value,Blk w g cs/\cs.size=n*3/\∀i,i<k->cs[i*3]?=some (iV (tat zs i).frm)/\cs[i*3+1]?=some (iV (tat zs i).to)/\cs[i*3+2]?=some (iV (tat zs i).cost)
theorem Zs.step {wr w1:World}{g n k:Nat}{zs:List Tn}(h:Zs wr g n k zs)(hx:Nx wr w1)(hk:k<n)   :
  Zs (((w1.setCell (aD g (k*3)) (iV (tat zs k).frm)).setCell (aD g (k*3+1)) (iV (tat zs k).to)).setCell (aD g (k*3+2)) (iV (tat zs k).cost)) g n (k+1) zs:=by
 obtain⟨cs,BK,hs,hi⟩:=h
 have hm:(k+1)*3<=n*3:=Nat.mul_le_mul_right 3 hk
 refine⟨_,((((BK.next hx).set (k*3) (iV (tat zs k).frm)).set (k*3+1) (iV (tat zs k).to)).set (k*3+2) (iV (tat zs k).cost)),by simpa using hs,λi hik=>?_⟩
 by_cases e:i=k
 ·subst e
  exact⟨(by rw[Qi _ (by omega)];rw[Qi _ (by omega)];exact Zf _ (by simp[hs];omega)),(by rw[Qi _ (by omega)];exact Zf _ (by simp[hs];omega)),(by  exact Zf _ (by simp[hs];omega))⟩
 ·obtain⟨e0,e1,e2⟩:=hi i (by omega)
  exact⟨(by rw[Qi _ (by omega)];rw[Qi _ (by omega)];rw[Qi _ (by omega)];exact e0),(by rw[Qi _ (by omega)];rw[Qi _ (by omega)];rw[Qi _ (by omega)];exact e1),(by rw[Qi _ (by omega)];rw[Qi _ (by omega)];rw[Qi _ (by omega)];exact e2)⟩
theorem Zs.held {w:World}{g n:Nat}{zs:List Tn}(hn:zs.length=n)(hm:n<=maxLen)(h:Zs w g n n zs):V5 g w (sL (sA g) n n) zs:=by
 obtain⟨cs,BK,hs,hi⟩:=h
 subst hn
 refine⟨_,_,rfl,hm,λh0=>⟨g,0,rfl,lR,BK.lt,λi hik=>?_⟩⟩
 obtain⟨e0,e1,e2⟩:=hi i hik
 exact⟨BK.cell (by simpa using e0),BK.cell (by simpa using e1),BK.cell (by simpa using e2)⟩
theorem Qh4:(prog.info? 113).map (λi=>(i.zero,i.size,i.bytes))=some (some (.agg #[iV 0,iV 0,iV 0]),3,24):=by kernel_rfl
theorem Q3c (B:Nat)(v:Value)(zs:List Tn)(w:World)(h0:V5 B w v zs)(hs:zs.length<=1048576)  :
  Calls prog 30 #[v] w λe w'=>(∃a' n' c',e=.returned (sL a' n' c')/\V5 w.heap.size w' (sL a' n' c') zs)/\Nu w w':=by
 obtain⟨a,cap,rfl,hn,hk⟩:=h0
 generalize hz:zs.length=n at *
 have HZ:Z (zs.length=n):=hz
 have HM:Z (n<=maxLen):=hn
 clear hz hn
 have hmk:=T2 36 113 (.agg #[iV 0,iV 0,iV 0]) 3 24 underlying36 Qh4 n (by omega) (by omega)
 go_enter func30,ntmps30
 go_wp2
 go_loopw [4] (λi wr=>∃k:Nat,k<=n/\i=iV k/\Z (Zs wr w.heap.size n k zs)/\Z (Nu w wr)) (λi _=>n-(intOf i).toNat)
 case atStart=>exact⟨0,nZ,rfl,⟨_,Blk.made _ _ _ _,size_madeCells _ _,λi hi=>absurd hi (zM _)⟩,Q0j _ _ _⟩
 case round=>
  obtain⟨k,hkn,rfl,HR,HN⟩:=hrel
  clear hmk
  by_cases hlt:k<n
  ·obtain⟨b,off,rfl,hB,hb,hc⟩:=hk (by omega)
   obtain⟨a0,a1,a2⟩:=hc k hlt
   have a0:=Q0 HN.o.nx hb a0
   have a1:=Q0 HN.o.nx hb a1
   have a2:=Q0 HN.o.nx hb a2
   have hlt':(k:Int)<n:=by omega
   obtain⟨cs,BK,hcs,_⟩:=HR.o
   have hm:(k+1)*3<=n*3:=Nat.mul_le_mul_right 3 hlt
   have hsz:w.heap.size<wr.heap.size:=BK.lt
   clear hc hk
   go_wp2_with fail
   refine(Q64 (tat zs k) _).mono ?_
   rintro e w1 ⟨rfl,hu⟩
   have hx:=hu.nx
   have BK1:=BK.next hx
   have r0:=BK1.cell (i:=k*3) (zL (by omega))
   have r1:=BK1.cell (i:=k*3+1) (zL (by omega))
   have r2:=BK1.cell (i:=k*3+2) (zL (by omega))
   have f0:=BK1.frozen (k*3)
   have f1:=BK1.frozen (k*3+1)
   have f2:=BK1.frozen (k*3+2)
   have HX:Z (Nu wr w1):=hu
   clear hx hu BK BK1
   go_wp2
   go_roundw
   case rel=>exact⟨k+1,by omega,by go_num,HR.o.step HX.o.nx hlt  ,Nu.setCell (Nu.setCell (Nu.setCell (HN.o.trans HX.o) lR _) lR _) lR _⟩
   case measure=>simp[intOf];omega
  ·go_wp2
   go_ret
   have e:k=n:=by omega
   subst e
   exact⟨⟨_,_,_,rfl,HR.o.held HZ.o HM.o⟩,HN.o⟩
end Go.Proofs.YtahpodmokbdjeaaGreatDoor
namespace Go.Proofs.YtahpodmokbdjeaaGreatDoor
open Go.RowKit
set_option linter.unusedVariables false
set_option maxHeartbeats 16000000
theorem Vi {B:Nat}(w:World){g:Nat}(o:Nat)(hg:g<B)(u:Value):Xh B w (w.setCell (aD g o) u):=
 ⟨by simp[World.setCell],λb hb _ o'=>World.cell?_of_block (w:=w) (Below.heap_setCell _ _ _ _ (by simp;omega))⟩
theorem Jy.base {B B':Nat}{w:World}{v:Value}{xs:List Wy}(h:Jy B w v xs)(hB:B'<=B):Jy B' w v xs:=
 Ji.mono h hB lR λb off hb hs i hi hc=>by
  obtain⟨p,q,h0,h1,h2,h3,h4,h5⟩:=hc
  exact⟨p,q,h0,h1,h2,h3,h4.base hB,h5.base hB⟩
theorem V5.base {B B':Nat}{w:World}{v:Value}{xs:List Tn}(h:V5 B w v xs)(hB:B'<=B):V5 B' w v xs:=
 Ji.mono h hB lR λb off hb hs i hi hc=>hc
theorem Xh.trans {B:Nat}{a b c:World}(h:Xh B a b)(k:Xh B b c):Xh B a c:=
 ⟨zP h.1 k.1,λx hx hl o=>(k.2 x hx (zK hl h.1) o).trans (h.2 x hx hl o)⟩
structure Q92 (N:Nt):Prop where
 nodes:N.nodes.length<=1048576
 ways:N.ways.length<=1048576
 way:∀i,i<N.ways.length->(wat N.ways i).nodes.length<=1048576/\(wat N.ways i).weights.length<=1048576
 rels:N.rels.length<=1048576
 rel:∀i,i<N.rels.length->(rat N.rels i).ways.length<=1048576
 turns:N.turns.length<=1048576
end Go.Proofs.YtahpodmokbdjeaaGreatDoor
