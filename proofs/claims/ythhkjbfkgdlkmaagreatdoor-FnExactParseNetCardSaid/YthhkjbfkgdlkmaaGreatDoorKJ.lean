import Derived.Test.YthhkjbfkgdlkmaaGreatDoorRoM
import Derived.Test.YthhkjbfkgdlkmaaGreatDoorKQ
import Derived.OwnWalkIn
import Derived.TacticsInMore
import Derived.Maps.Own
namespace Go.Proofs.YthhkjbfkgdlkmaaGreatDoor
open Go.RowKit Go.Sort
set_option linter.unusedVariables false
set_option maxRecDepth 1000000
set_option maxHeartbeats 16000000
theorem tq {F:Fence}{n:Nat}{P:Program}{ops:Array Oper}{Q:Exit->Act->World->Prop}{md:Region.Mode}{S:World->Prop}{c i fuel:Nat}{oi:Oper}{v:Value}{listed:Array Bool}{a:Act}{w:World}(h:Cl md ops (listed.setIfInBounds i true)->wpAnyS F n P md ops Q S c fuel (listed.setIfInBounds i true) (a.put oi.dst v) w)(hi:ops[i]?=some oi:=by rfl)(hw:Waits md ops c:=by assumption)(hcl:Cl md ops listed:=by assumption)(hic:i<c:=by decide)(hd:NoDefer F ops:=by first|exact noDefer_none rfl|exact noDefer_round (by kernel_rfl))(hs:Region.noSelect ops=true:=by kernel_rfl)(hf:Region.free md ops listed i=true:=by kernel_rfl)(hr:(Region.ready md ops listed).contains i=true:=by kernel_rfl)(hQ:∀c a w,Q (.panic c) (a.put oi.dst v) w->Q (.panic c) a w:=by exact λ_ _ _ h=>h)(hS:S w:=by first|exact HSS.out|exact HS0.out)(hy:YF P ops S oi v a:=by refine⟨Or.inl ⟨by kernel_rfl,?_⟩,λ_=>rfl⟩;intro q hq;(repeat' (obtain⟨_,hq⟩:=hq));go_simp):wpAnyS F n P md ops Q S c (fuel+1) listed a w:=
 anyS_take hw hic hcl hd hi hs hf hr hQ hy hS h
theorem row_base {C C' ty sz n:Nat}{w:World}{v:Value}{xs:List Value}(h:w.ownsRow C ty sz v n xs)(hC:C'<=C):w.ownsRow C' ty sz v n xs:=by
 obtain⟨h1,h2⟩:=h
 refine⟨h1,?_⟩
 rcases h2 with h2|⟨g,cap,cur,hv,hg,r⟩
 ·exact Or.inl h2
 ·exact Or.inr ⟨g,cap,cur,hv,by omega,r⟩
structure EB (w:World)(b e:Nat)(x:Eg):Prop where
 tail:w.cell? ⟨b,0,none⟩=some (.int .i64 x.tail)
 head:w.cell? ⟨b,1,none⟩=some (.int .i64 x.head)
 wgt:w.cell? ⟨b,2,none⟩=some (.int .i64 x.weight)
 back:w.cell? ⟨b,5,none⟩=some (.bool x.back)
 twin:w.cell? ⟨b,6,none⟩=some (.int .i64 x.twin)
 num:w.cell? ⟨b,7,none⟩=some (.int .i64 (e:Int))
theorem EB.next {w w':World}{b e:Nat}{x:Eg}(h:EB w b e x)(k:Nx w w'):EB w' b e x:=
 ⟨cellq k h.tail,cellq k h.head,cellq k h.wgt,cellq k h.back,cellq k h.twin,cellq k h.num⟩
def HPtrs (B:Nat)(w:World)(v:Value)(ps:List Nat):Prop:=HSlice B w v ps.length λb off i=>w.cell? ⟨b,off+i,none⟩=some (.pointer (some ⟨ps.getD i 0,0,none⟩))
theorem HPtrs.keep {B:Nat}{w w':World}{v:Value}{ps:List Nat}(h:HPtrs B w v ps)(k:Keeps B w w'):HPtrs B w' v ps:=
 HSlice.mono h (Nat.le_refl _) k.1 λb off hb hs i hi hc=>(k.2 b hb hs _).trans hc
theorem HPtrs.next {B:Nat}{w w':World}{v:Value}{ps:List Nat}(h:HPtrs B w v ps)(k:Nx w w'):HPtrs B w' v ps:=h.keep (k.keeps B)
theorem HPtrs.at {B:Nat}{w:World}{v:Value}{eb:Nat->Nat}{l:List Nat}(h:HPtrs B w v (l.map eb))(hp:0<l.length):∃b off c,v=.slice (some ⟨b,off,none⟩) l.length c/\b<w.heap.size/\∀i,i<l.length->w.cell? ⟨b,off+i,none⟩=some (.pointer (some ⟨eb (l.getD i 0),0,none⟩)):=by
 obtain⟨a,cap,e,_,hk⟩:=h
 rw[List.length_map] at e hk
 obtain⟨b,off,rfl,_,hb,hc⟩:=hk hp
 refine⟨b,off,cap,e,hb,λi hi=>?_⟩
 have:=hc i hi
 rw[this]
 simp[List.getD_eq_getElem?_getD,hi]
theorem OwnI.app {B:Nat}{w:World}{v:Value}{zs ys:List Int}(h:w.ownsRow B 2 1 v (zs.length+ys.length) (icells zs++icells ys)):OwnI B w v (zs++ys):=by
 unfold OwnI
 have e:icells (zs++ys)=icells zs++icells ys:=by simp[icells]
 rw[List.length_append,e]
 exact h
theorem Only.cellO {o:Option Nat}{w w':World}(h:Only o w w'){b i:Nat}{v:Value}(hn:some b≠o)(hc:w.cell? ⟨b,i,none⟩=some v):w'.cell? ⟨b,i,none⟩=some v:=by
 rw[World.cell?_of_block (h.block b (cell_lt hc) hn)]
 exact hc
theorem Only.young {o p:Option Nat}{a b c:World}(h:Only o a b)(k:Only p b c)(hp:∀g,p=some g->a.heap.size<=g):Only o a c:=
 ⟨k.os.trans h.os,k.tape.trans h.tape,k.output.trans h.output,Nat.le_trans h.size k.size,λx hx hn=>(k.block x (Nat.lt_of_lt_of_le hx h.size) (λe=>by have:=hp x e.symm;omega)).trans (h.block x hx hn)⟩
theorem EB.on {o:Option Nat}{w w':World}{b e:Nat}{x:Eg}(h:EB w b e x)(k:Only o w w')(hn:some b≠o):EB w' b e x:=
 ⟨k.cellO hn h.tail,k.cellO hn h.head,k.cellO hn h.wgt,k.cellO hn h.back,k.cellO hn h.twin,k.cellO hn h.num⟩
theorem EB.ne {w:World}{b e bw:Nat}{x:Eg}{v0 v1 v2:Value}(h:EB w b e x)(k:Blk w bw #[v0,v1,v2]):b≠bw:=by
 rintro rfl
 obtain⟨t,hb⟩:=k
 have:=h.num
 simp[World.cell?,hb] at this
def BT (w:World)(b:Nat)(cs:Array Value)(t:Nat):Prop:=w.heap[b]?=some (.cells cs t (0,0))
theorem BT.lt {w:World}{b t:Nat}{cs:Array Value}(h:BT w b cs t):b<w.heap.size:=(Array.getElem?_eq_some_iff.1 h).1
theorem BT.blk {w:World}{b t:Nat}{cs:Array Value}(h:BT w b cs t):Blk w b cs:=⟨t,h⟩
theorem BT.new (w:World)(cs:Array Value)(t n:Nat)(hn:n=w.heap.size):BT (w.alloc (.cells cs t)) n cs t:=by
 subst hn
 unfold BT
 show(w.heap.push _)[w.heap.size]?=_
 simp
theorem BT.set {w:World}{b t:Nat}{cs:Array Value}(h:BT w b cs t)(i:Nat)(v:Value):BT (w.setCell ⟨b,i,none⟩ v) b (cs.setIfInBounds i v) t:=by
 unfold BT at h ⊢
 simp[World.setCell,Array.getElem?_modify,h]
theorem BT.next {w w':World}{b t:Nat}{cs:Array Value}(h:BT w b cs t)(k:Nx w w'):BT w' b cs t:=(k.block b h.lt).trans h
theorem BT.alloc {w:World}{b t:Nat}{cs:Array Value}(h:BT w b cs t)(o:Obj):BT (w.alloc o) b cs t:=h.next (box1 _ _)
theorem BT.grown {w w':World}{o:Option Nat}{b t:Nat}{cs:Array Value}(h:BT w b cs t)(k:w.grownBy w' o)(hn:some b≠o):BT w' b cs t:=(k.block b h.lt hn).trans h
theorem Only.bt {o:Option Nat}{w w':World}{b t:Nat}{cs:Array Value}(k:Only o w w')(h:BT w b cs t)(hn:some b≠o):BT w' b cs t:=(k.block b h.lt hn).trans h
end Go.Proofs.YthhkjbfkgdlkmaaGreatDoor
namespace Go.Proofs.YthhkjbfkgdlkmaaGreatDoor
open Go.RowKit Go.Sort Go.Maps
set_option linter.unusedVariables false
set_option maxRecDepth 1000000
set_option maxHeartbeats 16000000
theorem BT.ne {w:World}{a b t u:Nat}{c d:Array Value}(h:BT w a c t)(k:BT w b d u)(hn:t≠u):a≠b:=by
 rintro rfl
 unfold BT at h k
 rw[h] at k
 simp at k
 exact hn k.2
theorem BT.neRow {w:World}{a t u C sz n:Nat}{c:Array Value}{v:Value}{xs:List Value}(h:BT w a c t)(k:w.ownsRow C u sz v n xs)(hn:t≠u):some a≠v.ownBlock:=by
 rcases k.2 with⟨rfl,_⟩|⟨g,cap,cur,rfl,_,hh,_⟩
 ·simp[Value.ownBlock]
 ·intro e
  have e':a=g:=Option.some.inj e
  subst e'
  unfold BT at h
  rw[h] at hh
  simp at hh
  exact hn hh.2
structure Chg (S:Nat->Prop)(w w':World):Prop where
 os:w'.os=w.os
 tape:w'.tape=w.tape
 output:w'.output=w.output
 size:w.heap.size<=w'.heap.size
 block:∀b,b<w.heap.size->¬S b->w'.heap[b]?=w.heap[b]?
section
variable {S:Nat->Prop}{a b c w w':World}
theorem Chg.trans (h:Chg S a b)(k:Chg S b c):Chg S a c:=
 ⟨k.os.trans h.os,k.tape.trans h.tape,k.output.trans h.output,Nat.le_trans h.size k.size,λx hx hn=>(k.block x (Nat.lt_of_lt_of_le hx h.size) hn).trans (h.block x hx hn)⟩
theorem Chg.nx (h:Nx w w'):Chg S w w':=⟨h.os,h.tape,h.output,h.size,λx hx _=>h.block x hx⟩
theorem Chg.only {o:Option Nat}(h:Only o w w')(hS:∀b,some b=o->S b):Chg S w w':=⟨h.os,h.tape,h.output,h.size,λx hx hn=>h.block x hx (λe=>hn (hS x e))⟩
theorem Chg.grown {o:Option Nat}(h:w.grownBy w' o)(hS:∀b,some b=o->S b):Chg S w w':=⟨h.os,h.tape,h.output,h.size,λx hx hn=>h.block x hx (λe=>hn (hS x e))⟩
theorem Chg.set (g i:Nat)(v:Value)(hS:S g):Chg S w (w.setCell ⟨g,i,none⟩ v):=
 ⟨rfl,rfl,rfl,by simp[World.setCell],λx hx hn=>Below.heap_setCell _ _ _ _ (λe=>hn (by subst e;exact hS))⟩
theorem Chg.young {T:Nat->Prop}(h:Chg S a b)(k:Chg T b c)(hT:∀x,T x->x<a.heap.size->S x):Chg S a c:=
 ⟨k.os.trans h.os,k.tape.trans h.tape,k.output.trans h.output,Nat.le_trans h.size k.size,λx hx hn=>(k.block x (Nat.lt_of_lt_of_le hx h.size) (λe=>hn (hT x e hx))).trans (h.block x hx hn)⟩
theorem Chg.below (h:Chg S w w'){B:Nat}(hB:B<=w.heap.size)(hS:∀x,S x->B<=x):Below B w w':=⟨h.os,h.tape,h.output,h.size,λx hx=>h.block x (by omega) (λe=>by have:=hS x e;omega)⟩
theorem BT.chg {b t:Nat}{cs:Array Value}(h:BT w b cs t)(k:Chg S w w')(hn:¬S b):BT w' b cs t:=(k.block b h.lt hn).trans h
theorem row_chg {C t sz n:Nat}{v:Value}{xs:List Value}(h:w.ownsRow C t sz v n xs)(k:Chg S w w')(hn:∀g,v.ownBlock=some g->¬S g):w'.ownsRow C t sz v n xs:=by
 refine⟨h.1,?_⟩
 rcases h.2 with h2|⟨g,cap,cur,hv,hg,hh,r⟩
 ·exact Or.inl h2
 ·exact Or.inr ⟨g,cap,cur,hv,hg,(k.block g (Array.getElem?_eq_some_iff.1 hh).1 (hn g (by rw[hv];rfl))).trans hh,r⟩
end
end Go.Proofs.YthhkjbfkgdlkmaaGreatDoor
namespace Go.Proofs.YthhkjbfkgdlkmaaGreatDoor
open Go.RowKit Go.Sort
set_option linter.unusedVariables false
set_option maxRecDepth 1000000
set_option maxHeartbeats 16000000
structure Src where
 code:List UInt8
 pos:Nat
 mix:Int
 size:Int
def byteAt (l:List UInt8)(i:Nat):Int:=((l.getD i 0).toNat:Int)
theorem byteAt_in (l:List UInt8)(i:Nat):0<=byteAt l i/\byteAt l i<256:=by
 unfold byteAt
 have:=(l.getD i 0).toNat_lt
 omega
def mx (m:Int):Int:=(m*1103+12347)%1000003
def nv (S:Src)(n:Int):Int:=if n<=1 then 0 else if S.pos<S.code.length/\n<=256 then byteAt S.code S.pos%n else mx S.mix/3%n
def ns (S:Src)(n:Int):Src:=if n<=1 then S else if S.pos<S.code.length/\n<=256 then { S with pos:=S.pos+1 } else { S with mix:=mx S.mix }
def OwnBy (C:Nat)(w:World)(v:Value)(bs:List UInt8):Prop:=w.ownsRow C 5 1 v bs.length (bs.map λx=>.int .u8 (x.toNat:Int))
theorem OwnBy.held {C:Nat}{w:World}{v:Value}{bs:List UInt8}(h:OwnBy C w v bs):HSlice C w v bs.length λb off i=>w.cell? ⟨b,off+i,none⟩=some (.int .u8 (byteAt bs i)):=by
 by_cases hp:0<bs.length
 ·obtain⟨h1,h2⟩:=h
  rcases h2 with⟨_,h3⟩|⟨b,cap,cur,hv,hg,hh,hc,hm,hs,ht⟩
  ·omega
  ·refine⟨_,_,hv,by omega,λ_=>⟨b,0,rfl,hg,(Array.getElem?_eq_some_iff.1 hh).1,λi hi=>?_⟩⟩
   have e:(cur.toList.take (bs.length*1))[i]?=(bs.map λx=>Value.int .u8 (x.toNat:Int))[i]?:=by rw[ht]
   rw[List.getElem?_take_of_lt (by omega),Array.getElem?_toList] at e
   have e2:(bs.map λx=>Value.int .u8 (x.toNat:Int))[i]?=some (.int .u8 (byteAt bs i)):=by simp[byteAt,List.getD_eq_getElem?_getD,hi]
   rw[e2] at e
   show w.cell? ⟨b,0+i,none⟩=_
   rw[Nat.zero_add]
   unfold World.cell?
   simp[hh,e]
 ·obtain⟨a,c,e⟩:=row_slice h
  have h0:bs.length=0:=by omega
  exact⟨a,c,e,by rw[h0];simp[maxLen],λh=>by omega⟩
abbrev Sx1 (b:Nat):Nat->Prop:=λx=>x=b
theorem Chg.src {b:Nat}{w w1 w2:World}(h:Chg (Sx1 b) w w1)(k:Chg (Sx1 b) w1 w2):Chg (Sx1 b) w w2:=h.trans k
end Go.Proofs.YthhkjbfkgdlkmaaGreatDoor
