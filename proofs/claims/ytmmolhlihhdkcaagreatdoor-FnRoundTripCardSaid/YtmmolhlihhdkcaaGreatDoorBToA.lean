import Derived.Test.YtmmolhlihhdkcaaGreatDoorBLeaf
import Derived.Deep.OwnRows
namespace Go.Proofs.YtmmolhlihhdkcaaGreatDoor
open Go.RowKit
set_option linter.unusedVariables false
set_option maxHeartbeats 16000000
def Opn (w:World)(b:Nat):Prop:=∃cs t,w.heap[b]?=some (.cells cs t (0,0))
structure Nu (w w':World):Prop where
 nx:Nx w w'
 op:∀b,w.heap.size<=b->b<w'.heap.size->Opn w' b
theorem Nu.size {w w':World}(h:Nu w w'):w.heap.size<=w'.heap.size:=h.nx.size
theorem Nu.keeps {w w':World}(h:Nu w w')(B:Nat):Xs B w w':=h.nx.keeps B
theorem Opn.next {w w':World}{b:Nat}(h:Opn w b)(k:Nx w w'):Opn w' b:=by
 obtain⟨cs,t,h⟩:=h
 exact⟨cs,t,(k.block b (Array.getElem?_eq_some_iff.1 h).1).trans h⟩
theorem Opn.setCell {w:World}{b:Nat}(h:Opn w b)(p:Addr)(v:Value):Opn (w.setCell p v) b:=by
 obtain⟨cs,t,h⟩:=h
 by_cases e:p.block=b
 ·exact⟨if p.spot.isSome then cs else cs.setIfInBounds p.off v,t,by simp[World.setCell,Array.getElem?_modify,h,e]⟩
 ·exact⟨cs,t,(Below.heap_setCell _ _ _ _ (λh'=>e h'.symm)).trans h⟩
theorem Nu.refl (w:World):Nu w w:=⟨Nx.refl w,λb h h'=>absurd h' (by omega)⟩
theorem Nu.trans {a b c:World}(h:Nu a b)(k:Nu b c):Nu a c:=by
 refine⟨h.nx.trans k.nx,λx hx hx'=>?_⟩
 by_cases e:x<b.heap.size
 ·exact(h.op x hx e).next k.nx
 ·exact k.op x (by omega) hx'
theorem Nu.alloc {a b:World}(h:Nu a b)(cs:Array Value)(t:TypeId):Nu a (b.alloc (.cells cs t)):=by
 refine⟨h.nx.alloc _,λx hx hx'=>?_⟩
 by_cases e:x<b.heap.size
 ·exact(h.op x hx e).next (Qd _ _)
 ·have e':x=b.heap.size:=by simp at hx';omega
  subst e'
  exact⟨cs,t,by show(b.heap.push _)[b.heap.size]?=_;simp⟩
theorem Nu.setCell {a b:World}(h:Nu a b){p:Addr}(hp:a.heap.size<=p.block)(v:Value):Nu a (b.setCell p v):=
 ⟨Below.setCell h.nx hp v,λx hx hx'=>(h.op x hx (by simpa [World.setCell] using hx')).setCell p v⟩
def Q33 (w:World)(g n k:Nat)(zs:List Int):Prop:=∃f,w.rowIs g 2 n f/\∀i,i<k->f i=.int .i64 (iat zs i)
theorem Q33.set {w:World}{g n k:Nat}{zs:List Int}(h:Q33 w g n k zs):Q33 (w.setCell ⟨g,k,none⟩ (.int .i64 (iat zs k))) g n (k+1) zs:=by
 obtain⟨f,h1,h2⟩:=h
 refine⟨_,h1.set k _,λi hi=>?_⟩
 by_cases e:i=k
 ·subst e;simp
 ·simp[e];exact h2 i (by omega)
theorem Q33.held {w:World}{g n:Nat}{zs:List Int}(hn:zs.length=n)(hm:n<=maxLen)(h:Q33 w g n n zs):Qr g w (.slice (some ⟨g,0,none⟩) n n) zs:=by
 obtain⟨f,h1,h2⟩:=h
 subst hn
 refine⟨_,_,rfl,hm,λh0=>⟨g,0,rfl,Nat.le_refl _,h1.lt,λi hi=>?_⟩⟩
 show w.cell? ⟨g,0+i,none⟩=_
 rw[Nat.zero_add,h1.cell hi,h2 i hi]
theorem Qr.base {B B':Nat}{w:World}{v:Value}{zs:List Int}(h:Qr B w v zs)(hB:B'<=B):Qr B' w v zs:=
 Jl.mono h hB (Nat.le_refl _) λb off hb hs i hi hc=>hc
theorem Qr.store {B:Nat}{w:World}{v:Value}{zs:List Int}(h:Qr B w v zs){g o:Nat}(hg:g<B)(u:Value):Qr B (w.setCell ⟨g,o,none⟩ u) v zs:=
 h.keep ⟨by simp[World.setCell],λb hb _ o'=>World.cell?_of_block (w:=w) (Below.heap_setCell _ _ _ _ (by simp;omega))⟩
def Blk (w:World)(b:Nat)(cs:Array Value):Prop:=∃t,w.heap[b]?=some (.cells cs t (0,0))
theorem Blk.lt {w:World}{b:Nat}{cs:Array Value}(h:Blk w b cs):b<w.heap.size:=by
 obtain⟨t,h⟩:=h
 exact(Array.getElem?_eq_some_iff.1 h).1
theorem Blk.cell {w:World}{b:Nat}{cs:Array Value}(h:Blk w b cs){i:Nat}{v:Value}(hi:cs[i]?=some v):w.cell? ⟨b,i,none⟩=some v:=by
 obtain⟨t,h⟩:=h
 simp[World.cell?,h,hi]
theorem Blk.frozen {w:World}{b:Nat}{cs:Array Value}(h:Blk w b cs)(i:Nat):w.frozen? ⟨b,i,none⟩=false:=by
 obtain⟨t,h⟩:=h
 simp[World.frozen?,h]
theorem Blk.next {w w':World}{b:Nat}{cs:Array Value}(h:Blk w b cs)(k:Nx w w'):Blk w' b cs:=by
 have hl:=h.lt
 obtain⟨t,h⟩:=h
 exact⟨t,(k.block b hl).trans h⟩
theorem Blk.drew {w:World}{b:Nat}{cs:Array Value}(h:Blk w b cs):Blk w.drew b cs:=h
theorem Blk.new (w:World)(cs:Array Value)(t:TypeId)(n:Nat)(hn:n=w.heap.size):Blk (w.alloc (.cells cs t)) n cs:=by
 subst hn
 exact⟨t,by show(w.heap.push _)[w.heap.size]?=_;simp⟩
theorem Blk.alloc {w:World}{b:Nat}{cs:Array Value}(h:Blk w b cs)(o:Obj):Blk (w.alloc o) b cs:=h.next (by exact Below.alloc (Below.refl _ _) (Nat.le_refl _) _)
theorem Blk.set {w:World}{b:Nat}{cs:Array Value}(h:Blk w b cs)(i:Nat)(v:Value):Blk (w.setCell ⟨b,i,none⟩ v) b (cs.setIfInBounds i v):=by
 obtain⟨t,h⟩:=h
 exact⟨t,by simp[World.setCell,Array.getElem?_modify,h]⟩
theorem Blk.setOther {w:World}{b:Nat}{cs:Array Value}(h:Blk w b cs){g:Nat}(hg:b≠g)(i:Nat)(v:Value):Blk (w.setCell ⟨g,i,none⟩ v) b cs:=by
 obtain⟨t,h⟩:=h
 exact⟨t,(Below.heap_setCell _ _ _ _ hg).trans h⟩
theorem Qg {cs:Array Value}{i j:Nat}(a:Value)(h:i≠j):(cs.setIfInBounds i a)[j]?=cs[j]?:=by rw[Array.getElem?_setIfInBounds,if_neg h]
theorem Yb {cs:Array Value}{i:Nat}(a:Value)(h:i<cs.size):(cs.setIfInBounds i a)[i]?=some a:=by simp[h]
theorem Blk.made (w:World)(z:Array Value)(n:Nat)(t:TypeId):Blk (w.alloc (.cells (madeCells z n) t)) w.heap.size (madeCells z n):=Blk.new _ _ _ _ rfl
def U7 (w:World)(g n k:Nat)(zs:List Wy):Prop:=∃cs:Array Value,Blk w g cs/\cs.size=n*4/\∀i,i<k->∃p q:Value,cs[i*4]?=some (.int .i64 (wat zs i).id)/\cs[i*4+1]?=some (.bool (wat zs i).both)/\cs[i*4+2]?=some p/\cs[i*4+3]?=some q/\Qr (g+1) w p (wat zs i).nodes/\Qr (g+1) w q (wat zs i).weights
theorem U7.step {wr w1:World}{g n k:Nat}{zs:List Wy}(h:U7 wr g n k zs)(hx:Nx wr w1)(hk:k<n)(p:Value)(q:Value)(h0:Qr (g+1) w1 p (wat zs k).nodes)(h1:Qr (g+1) w1 q (wat zs k).weights) :
  U7 ((((w1.setCell ⟨g,k*4,none⟩ (.int .i64 (wat zs k).id)).setCell ⟨g,k*4+1,none⟩ (.bool (wat zs k).both)).setCell ⟨g,k*4+2,none⟩ p).setCell ⟨g,k*4+3,none⟩ q) g n (k+1) zs:=by
 obtain⟨cs,BK,hs,hi⟩:=h
 have hm:(k+1)*4<=n*4:=Nat.mul_le_mul_right 4 hk
 refine⟨_,(((((BK.next hx).set (k*4) (.int .i64 (wat zs k).id)).set (k*4+1) (.bool (wat zs k).both)).set (k*4+2) p).set (k*4+3) q),by simpa using hs,λi hik=>?_⟩
 by_cases e:i=k
 ·subst e
  exact⟨p,q,(by rw[Qg _ (by omega)];rw[Qg _ (by omega)];rw[Qg _ (by omega)];exact Yb _ (by simp[hs];omega)),(by rw[Qg _ (by omega)];rw[Qg _ (by omega)];exact Yb _ (by simp[hs];omega)),(by rw[Qg _ (by omega)];exact Yb _ (by simp[hs];omega)),(by  exact Yb _ (by simp[hs];omega)),((((h0.store (by omega) _).store (by omega) _).store (by omega) _).store (by omega) _),((((h1.store (by omega) _).store (by omega) _).store (by omega) _).store (by omega) _)⟩
 ·obtain⟨p',q',e0,e1,e2,e3,i0,i1⟩:=hi i (by omega)
  exact⟨p',q',(by rw[Qg _ (by omega)];rw[Qg _ (by omega)];rw[Qg _ (by omega)];rw[Qg _ (by omega)];exact e0),(by rw[Qg _ (by omega)];rw[Qg _ (by omega)];rw[Qg _ (by omega)];rw[Qg _ (by omega)];exact e1),(by rw[Qg _ (by omega)];rw[Qg _ (by omega)];rw[Qg _ (by omega)];rw[Qg _ (by omega)];exact e2),(by rw[Qg _ (by omega)];rw[Qg _ (by omega)];rw[Qg _ (by omega)];rw[Qg _ (by omega)];exact e3),(((((i0.next hx).store (by omega) _).store (by omega) _).store (by omega) _).store (by omega) _),(((((i1.next hx).store (by omega) _).store (by omega) _).store (by omega) _).store (by omega) _)⟩
theorem U7.held {w:World}{g n:Nat}{zs:List Wy}(hn:zs.length=n)(hm:n<=maxLen)(h:U7 w g n n zs):Vh g w (.slice (some ⟨g,0,none⟩) n n) zs:=by
 obtain⟨cs,BK,hs,hi⟩:=h
 subst hn
 refine⟨_,_,rfl,hm,λh0=>⟨g,0,rfl,Nat.le_refl _,BK.lt,λi hik=>?_⟩⟩
 obtain⟨p',q',e0,e1,e2,e3,i0,i1⟩:=hi i hik
 exact⟨p',q',BK.cell (by simpa using e0),BK.cell (by simpa using e1),BK.cell (by simpa using e2),BK.cell (by simpa using e3),i0.base (by omega),i1.base (by omega)⟩
def U8 (w:World)(g n k:Nat)(zs:List Rl):Prop:=∃cs:Array Value,Blk w g cs/\cs.size=n*7/\∀i,i<k->∃p:Value,cs[i*7]?=some (.int .i64 (rat zs i).id)/\cs[i*7+1]?=some (.bool (rat zs i).only)/\cs[i*7+2]?=some (.int .i64 (rat zs i).frm)/\cs[i*7+3]?=some (.int .i64 (rat zs i).to)/\cs[i*7+4]?=some (.bool (rat zs i).via)/\cs[i*7+5]?=some (.int .i64 (rat zs i).node)/\cs[i*7+6]?=some p/\Qr (g+1) w p (rat zs i).ways
theorem U8.step {wr w1:World}{g n k:Nat}{zs:List Rl}(h:U8 wr g n k zs)(hx:Nx wr w1)(hk:k<n)(p:Value)(h0:Qr (g+1) w1 p (rat zs k).ways) :
  U8 (((((((w1.setCell ⟨g,k*7,none⟩ (.int .i64 (rat zs k).id)).setCell ⟨g,k*7+1,none⟩ (.bool (rat zs k).only)).setCell ⟨g,k*7+2,none⟩ (.int .i64 (rat zs k).frm)).setCell ⟨g,k*7+3,none⟩ (.int .i64 (rat zs k).to)).setCell ⟨g,k*7+4,none⟩ (.bool (rat zs k).via)).setCell ⟨g,k*7+5,none⟩ (.int .i64 (rat zs k).node)).setCell ⟨g,k*7+6,none⟩ p) g n (k+1) zs:=by
 obtain⟨cs,BK,hs,hi⟩:=h
 have hm:(k+1)*7<=n*7:=Nat.mul_le_mul_right 7 hk
 refine⟨_,((((((((BK.next hx).set (k*7) (.int .i64 (rat zs k).id)).set (k*7+1) (.bool (rat zs k).only)).set (k*7+2) (.int .i64 (rat zs k).frm)).set (k*7+3) (.int .i64 (rat zs k).to)).set (k*7+4) (.bool (rat zs k).via)).set (k*7+5) (.int .i64 (rat zs k).node)).set (k*7+6) p),by simpa using hs,λi hik=>?_⟩
 by_cases e:i=k
 ·subst e
  exact⟨p,(by rw[Qg _ (by omega)];rw[Qg _ (by omega)];rw[Qg _ (by omega)];rw[Qg _ (by omega)];rw[Qg _ (by omega)];rw[Qg _ (by omega)];exact Yb _ (by simp[hs];omega)),(by rw[Qg _ (by omega)];rw[Qg _ (by omega)];rw[Qg _ (by omega)];rw[Qg _ (by omega)];rw[Qg _ (by omega)];exact Yb _ (by simp[hs];omega)),(by rw[Qg _ (by omega)];rw[Qg _ (by omega)];rw[Qg _ (by omega)];rw[Qg _ (by omega)];exact Yb _ (by simp[hs];omega)),(by rw[Qg _ (by omega)];rw[Qg _ (by omega)];rw[Qg _ (by omega)];exact Yb _ (by simp[hs];omega)),(by rw[Qg _ (by omega)];rw[Qg _ (by omega)];exact Yb _ (by simp[hs];omega)),(by rw[Qg _ (by omega)];exact Yb _ (by simp[hs];omega)),(by  exact Yb _ (by simp[hs];omega)),(((((((h0.store (by omega) _).store (by omega) _).store (by omega) _).store (by omega) _).store (by omega) _).store (by omega) _).store (by omega) _)⟩
 ·obtain⟨p',e0,e1,e2,e3,e4,e5,e6,i0⟩:=hi i (by omega)
  exact⟨p',(by rw[Qg _ (by omega)];rw[Qg _ (by omega)];rw[Qg _ (by omega)];rw[Qg _ (by omega)];rw[Qg _ (by omega)];rw[Qg _ (by omega)];rw[Qg _ (by omega)];exact e0),(by rw[Qg _ (by omega)];rw[Qg _ (by omega)];rw[Qg _ (by omega)];rw[Qg _ (by omega)];rw[Qg _ (by omega)];rw[Qg _ (by omega)];rw[Qg _ (by omega)];exact e1),(by rw[Qg _ (by omega)];rw[Qg _ (by omega)];rw[Qg _ (by omega)];rw[Qg _ (by omega)];rw[Qg _ (by omega)];rw[Qg _ (by omega)];rw[Qg _ (by omega)];exact e2),(by rw[Qg _ (by omega)];rw[Qg _ (by omega)];rw[Qg _ (by omega)];rw[Qg _ (by omega)];rw[Qg _ (by omega)];rw[Qg _ (by omega)];rw[Qg _ (by omega)];exact e3),(by rw[Qg _ (by omega)];rw[Qg _ (by omega)];rw[Qg _ (by omega)];rw[Qg _ (by omega)];rw[Qg _ (by omega)];rw[Qg _ (by omega)];rw[Qg _ (by omega)];exact e4),(by rw[Qg _ (by omega)];rw[Qg _ (by omega)];rw[Qg _ (by omega)];rw[Qg _ (by omega)];rw[Qg _ (by omega)];rw[Qg _ (by omega)];rw[Qg _ (by omega)];exact e5),(by rw[Qg _ (by omega)];rw[Qg _ (by omega)];rw[Qg _ (by omega)];rw[Qg _ (by omega)];rw[Qg _ (by omega)];rw[Qg _ (by omega)];rw[Qg _ (by omega)];exact e6),((((((((i0.next hx).store (by omega) _).store (by omega) _).store (by omega) _).store (by omega) _).store (by omega) _).store (by omega) _).store (by omega) _)⟩
theorem U8.held {w:World}{g n:Nat}{zs:List Rl}(hn:zs.length=n)(hm:n<=maxLen)(h:U8 w g n n zs):Zx g w (.slice (some ⟨g,0,none⟩) n n) zs:=by
 obtain⟨cs,BK,hs,hi⟩:=h
 subst hn
 refine⟨_,_,rfl,hm,λh0=>⟨g,0,rfl,Nat.le_refl _,BK.lt,λi hik=>?_⟩⟩
 obtain⟨p',e0,e1,e2,e3,e4,e5,e6,i0⟩:=hi i hik
 exact⟨p',BK.cell (by simpa using e0),BK.cell (by simpa using e1),BK.cell (by simpa using e2),BK.cell (by simpa using e3),BK.cell (by simpa using e4),BK.cell (by simpa using e5),BK.cell (by simpa using e6),i0.base (by omega)⟩
def Zi (w:World)(g n k:Nat)(zs:List Tn):Prop:=∃cs:Array Value,Blk w g cs/\cs.size=n*3/\∀i,i<k->cs[i*3]?=some (.int .i64 (tat zs i).frm)/\cs[i*3+1]?=some (.int .i64 (tat zs i).to)/\cs[i*3+2]?=some (.int .i64 (tat zs i).cost)
theorem Zi.step {wr w1:World}{g n k:Nat}{zs:List Tn}(h:Zi wr g n k zs)(hx:Nx wr w1)(hk:k<n)   :
  Zi (((w1.setCell ⟨g,k*3,none⟩ (.int .i64 (tat zs k).frm)).setCell ⟨g,k*3+1,none⟩ (.int .i64 (tat zs k).to)).setCell ⟨g,k*3+2,none⟩ (.int .i64 (tat zs k).cost)) g n (k+1) zs:=by
 obtain⟨cs,BK,hs,hi⟩:=h
 have hm:(k+1)*3<=n*3:=Nat.mul_le_mul_right 3 hk
 refine⟨_,((((BK.next hx).set (k*3) (.int .i64 (tat zs k).frm)).set (k*3+1) (.int .i64 (tat zs k).to)).set (k*3+2) (.int .i64 (tat zs k).cost)),by simpa using hs,λi hik=>?_⟩
 by_cases e:i=k
 ·subst e
  exact⟨(by rw[Qg _ (by omega)];rw[Qg _ (by omega)];exact Yb _ (by simp[hs];omega)),(by rw[Qg _ (by omega)];exact Yb _ (by simp[hs];omega)),(by  exact Yb _ (by simp[hs];omega))⟩
 ·obtain⟨e0,e1,e2⟩:=hi i (by omega)
  exact⟨(by rw[Qg _ (by omega)];rw[Qg _ (by omega)];rw[Qg _ (by omega)];exact e0),(by rw[Qg _ (by omega)];rw[Qg _ (by omega)];rw[Qg _ (by omega)];exact e1),(by rw[Qg _ (by omega)];rw[Qg _ (by omega)];rw[Qg _ (by omega)];exact e2)⟩
theorem Zi.held {w:World}{g n:Nat}{zs:List Tn}(hn:zs.length=n)(hm:n<=maxLen)(h:Zi w g n n zs):Vn g w (.slice (some ⟨g,0,none⟩) n n) zs:=by
 obtain⟨cs,BK,hs,hi⟩:=h
 subst hn
 refine⟨_,_,rfl,hm,λh0=>⟨g,0,rfl,Nat.le_refl _,BK.lt,λi hik=>?_⟩⟩
 obtain⟨e0,e1,e2⟩:=hi i hik
 exact⟨BK.cell (by simpa using e0),BK.cell (by simpa using e1),BK.cell (by simpa using e2)⟩
theorem Vh.base {B B':Nat}{w:World}{v:Value}{xs:List Wy}(h:Vh B w v xs)(hB:B'<=B):Vh B' w v xs:=
 Jl.mono h hB (Nat.le_refl _) λb off hb hs i hi hc=>by
  obtain⟨p,q,h0,h1,h2,h3,h4,h5⟩:=hc
  exact⟨p,q,h0,h1,h2,h3,h4.base hB,h5.base hB⟩
theorem Zx.base {B B':Nat}{w:World}{v:Value}{xs:List Rl}(h:Zx B w v xs)(hB:B'<=B):Zx B' w v xs:=
 Jl.mono h hB (Nat.le_refl _) λb off hb hs i hi hc=>by
  obtain⟨p,h0,h1,h2,h3,h4,h5,h6,h7⟩:=hc
  exact⟨p,h0,h1,h2,h3,h4,h5,h6,h7.base hB⟩
theorem Vn.base {B B':Nat}{w:World}{v:Value}{xs:List Tn}(h:Vn B w v xs)(hB:B'<=B):Vn B' w v xs:=
 Jl.mono h hB (Nat.le_refl _) λb off hb hs i hi hc=>hc
theorem Xs.trans {B:Nat}{a b c:World}(h:Xs B a b)(k:Xs B b c):Xs B a c:=
 ⟨Nat.le_trans h.1 k.1,λx hx hl o=>(k.2 x hx (Nat.lt_of_lt_of_le hl h.1) o).trans (h.2 x hx hl o)⟩
end Go.Proofs.YtmmolhlihhdkcaaGreatDoor
