import Derived.Test.YthhkjbfkgdlkmaaGreatDoorRoE
import Derived.Test.YthhkjbfkgdlkmaaGreatDoorRoD
import Derived.Test.YthhkjbfkgdlkmaaGreatDoorRoL
import Derived.Test.YthhkjbfkgdlkmaaGreatDoorPure
import Derived.Maps.AppendAt
import Derived.Deep.RegionLaw
import Derived.Deep.CutRange
import Derived.Lib.QuietBelow
import Derived.Deep.RegionHeld3
namespace Go.Proofs.YthhkjbfkgdlkmaaGreatDoor
open Go.RowKit
set_option linter.unusedVariables false
set_option maxRecDepth 1000000
set_option maxHeartbeats 16000000
theorem OwnI.slice {B:Nat}{w:World}{v:Value}{zs:List Int}(h:OwnI B w v zs):∃a c,v=.slice a zs.length c:=by
 rcases h.2 with⟨rfl,h2⟩|⟨g,cap,cur,rfl,_⟩
 ·exact⟨none,0,by rw[h2]⟩
 ·exact⟨_,_,rfl⟩
theorem OwnI.base {B B':Nat}{w:World}{v:Value}{zs:List Int}(h:OwnI B w v zs)(hB:B'<=B):OwnI B' w v zs:=by
 obtain⟨h1,h2⟩:=h
 refine⟨h1,?_⟩
 rcases h2 with h2|⟨g,cap,cur,hv,hg,r⟩
 ·exact Or.inl h2
 ·exact Or.inr ⟨g,cap,cur,hv,by omega,r⟩
theorem own_store {B:Nat}{w:World}{ty sz:Nat}{v:Value}{n:Nat}{xs:List Value}(h:w.ownsRow B ty sz v n xs){g:Nat}(hg:g<B)(o:Nat)(u:Value):(w.setCell ⟨g,o,none⟩ u).ownsRow B ty sz v n xs:=by
 obtain⟨h1,h2⟩:=h
 refine⟨h1,?_⟩
 rcases h2 with h2|⟨g',cap,cur,hv,hg',hh,r⟩
 ·exact Or.inl h2
 ·exact Or.inr ⟨g',cap,cur,hv,hg',(Below.heap_setCell _ _ _ _ (by simp;omega)).trans hh,r⟩
end Go.Proofs.YthhkjbfkgdlkmaaGreatDoor
namespace Go.Proofs.YthhkjbfkgdlkmaaGreatDoor
set_option linter.unusedVariables false
set_option maxHeartbeats 16000000
section
end
section
variable (es:List Eg)
def tlL (l:List Nat):Int:=(eat es (l.headD 0)).tail
def hdL (l:List Nat):Int:=(eat es (l.getLastD 0)).head
def growL (ls ps:List (List Nat)):List (List Nat):=ls.flatMap λl=>(ps.filter λp=>decide (hdL es l=tlL es p)).map λp=>l++p
def growAll (ls:List (List Nat))(ts:List (List (List Nat))):List (List Nat):=ts.foldl (growL es) ls
end
end Go.Proofs.YthhkjbfkgdlkmaaGreatDoor
namespace Go.Proofs.YthhkjbfkgdlkmaaGreatDoor
open Go.RowKit
set_option linter.unusedVariables false
set_option maxRecDepth 1000000
set_option maxHeartbeats 16000000
theorem SI.keep {w w':World}{v:Value}{n:Nat}{F:Nat->Int}(h:SI w v n F)(k:∀g,v.ownBlock=some g->w'.heap[g]?=w.heap[g]?):SI w' v n F:=by
 obtain⟨a,c,rfl,hk⟩:=h
 refine⟨a,c,rfl,λh0=>?_⟩
 obtain⟨g,rfl,hr⟩:=hk h0
 exact⟨g,rfl,hr.of_block (k g rfl)⟩
theorem OwnI.si {B:Nat}{w:World}{v:Value}{zs:List Int}(h:OwnI B w v zs):SI w v zs.length (iat zs):=by
 rcases h.opened with⟨rfl,h2⟩|⟨g,cap,rfl,hg,hm,hr⟩
 ·rw[h2];exact⟨none,0,rfl,λh=>absurd h (Nat.lt_irrefl _)⟩
 ·exact⟨_,_,rfl,λ_=>⟨g,rfl,hr⟩⟩
theorem own_lt {B:Nat}{w:World}{ty sz:Nat}{v:Value}{n:Nat}{xs:List Value}(h:w.ownsRow B ty sz v n xs):∀g,v.ownBlock=some g->B<=g/\g<w.heap.size:=by
 intro g hg
 rcases h.2 with⟨rfl,_⟩|⟨g',cap,cur,rfl,hb,hh,_⟩
 ·simp[Value.ownBlock] at hg
 ·simp[Value.ownBlock] at hg;subst hg;exact⟨hb,(Array.getElem?_eq_some_iff.1 hh).1⟩
theorem OwnI.snoc {B:Nat}{w:World}{v:Value}{zs:List Int}{z:Int}(h:w.ownsRow B 2 1 v (zs.length+1) (icells zs++[.int .i64 z])):OwnI B w v (zs++[z]):=by
 unfold OwnI
 have e:icells (zs++[z])=icells zs++[.int .i64 z]:=by simp[icells]
 rw[List.length_append,e]
 exact h
theorem Blk.grown {w w':World}{o:Option Nat}{b:Nat}{cs:Array Value}(h:Blk w b cs)(k:w.grownBy w' o)(hn:some b≠o):Blk w' b cs:=by
 have hl:=h.lt
 obtain⟨t,hb⟩:=h
 exact⟨t,(k.block b hl hn).trans hb⟩
structure FO (gb:Nat)(A B:Value)(C:Nat)(w:World)(vF vO:Value)(fs os:List Int):Prop where
 box:Blk w gb #[A,B,vF,vO]
 F:OwnI C w vF fs
 O:OwnI C w vO os
 ne:∀g,vF.ownBlock=some g->vO.ownBlock≠some g
theorem FO.boxF {gb C:Nat}{A B vF vO:Value}{w w':World}{fs os:List Int}(h:FO gb A B C w vF vO fs os)(hC:gb<C){o:Obj}(hg:(w.alloc o).grownBy w' vF.ownBlock):Blk w' gb #[A,B,vF,vO]:=
 (h.box.alloc o).grown hg λe=>by have:=(own_lt h.F gb e.symm).1;omega
theorem FO.boxO {gb C:Nat}{A B vF vO:Value}{w w':World}{fs os:List Int}(h:FO gb A B C w vF vO fs os)(hC:gb<C){o:Obj}(hg:(w.alloc o).grownBy w' vO.ownBlock):Blk w' gb #[A,B,vF,vO]:=
 (h.box.alloc o).grown hg λe=>by have:=(own_lt h.O gb e.symm).1;omega
theorem size_alloc' (w:World)(o:Obj):(w.alloc o).heap.size=w.heap.size+1:=Array.size_push _
theorem FO.first {gb C:Nat}{A B vF vO v':Value}{w w':World}{fs os:List Int}{z:Int}(h:FO gb A B C w vF vO fs os)(hC:gb<C){o:Obj}
  (hown:w'.ownsRow C 2 1 v' (fs.length+1) (icells fs++[.int .i64 z])) (hg:(w.alloc o).grownBy w' vF.ownBlock) (hat:v'.ownBlock=vF.ownBlock\/v'.ownBlock=some (w.heap.size+1)) :
  FO gb A B C (w'.setCell ⟨gb,2,none⟩ v') v' vO (fs++[z]) os:=by
 refine⟨(h.boxF hC hg).set 2 v',own_store (OwnI.snoc hown) hC 2 _,own_store (World.ownsRow.kept (World.ownsRow.alloc h.O o) hg ?_) hC 2 _,λg hg' hO=>?_⟩
 ·cases e:vO.ownBlock with
  |none=>exact Or.inl rfl
  |some g=>exact Or.inr λe'=>h.ne g e'.symm e
 ·rcases hat with hat|hat
  ·exact h.ne g (hat▸hg') hO
  ·rw[hat] at hg'
   have:=(own_lt h.O g hO).2
   have e:=Option.some.inj hg'
   omega
theorem FO.out {gb C:Nat}{A B vF vO v':Value}{w w':World}{fs os:List Int}{z:Int}(h:FO gb A B C w vF vO fs os)(hC:gb<C){o:Obj}
  (hown:w'.ownsRow C 2 1 v' (os.length+1) (icells os++[.int .i64 z])) (hg:(w.alloc o).grownBy w' vO.ownBlock) (hat:v'.ownBlock=vO.ownBlock\/v'.ownBlock=some (w.heap.size+1)) :
  FO gb A B C (w'.setCell ⟨gb,3,none⟩ v') vF v' fs (os++[z]):=by
 refine⟨(h.boxO hC hg).set 3 v',own_store (World.ownsRow.kept (World.ownsRow.alloc h.F o) hg ?_) hC 3 _,own_store (OwnI.snoc hown) hC 3 _,λg hF hg'=>?_⟩
 ·cases e:vF.ownBlock with
  |none=>exact Or.inl rfl
  |some g=>exact Or.inr λe'=>h.ne g e e'.symm
 ·rcases hat with hat|hat
  ·exact h.ne g hF (hat▸hg')
  ·rw[hat] at hg'
   have:=(own_lt h.F g hF).2
   have e:=Option.some.inj hg'
   omega
theorem Only.app {gb i:Nat}{W w w':World}{r:Option Nat}{o:Obj}(h:Only (some gb) W w)(hg:(w.alloc o).grownBy w' r)(hr:∀g,r=some g->W.heap.size<=g)(u:Value):Only (some gb) W (w'.setCell ⟨gb,i,none⟩ u):=by
 refine Only.set ?_ rfl u
 have hs:=h.size
 have hz:=hg.size
 rw[size_alloc'] at hz
 refine⟨hg.os.trans h.os,hg.tape.trans h.tape,hg.output.trans h.output,by omega,λb hb hn=>?_⟩
 rw[hg.block b (by rw[size_alloc'];omega) (λe=>by have:=hr b e.symm;omega)]
 have:(w.alloc o).heap[b]?=w.heap[b]?:=(box1 w o).block b (by omega)
 rw[this]
 exact h.block b hb hn
theorem Only.blk {o:Option Nat}{W w:World}{b:Nat}{cs:Array Value}(k:Only o W w)(h:Blk W b cs)(hn:some b≠o):Blk w b cs:=by
 have hl:=h.lt
 obtain⟨t,hb⟩:=h
 exact⟨t,(k.block b hl hn).trans hb⟩
theorem Only.own {o:Option Nat}{W w:World}{B ty sz:Nat}{v:Value}{n:Nat}{xs:List Value}(k:Only o W w)(h:W.ownsRow B ty sz v n xs)(hn:∀g,v.ownBlock=some g->some g≠o):w.ownsRow B ty sz v n xs:=by
 obtain⟨h1,h2⟩:=h
 refine⟨h1,?_⟩
 rcases h2 with h2|⟨g,cap,cur,hv,hg,hh,r⟩
 ·exact Or.inl h2
 ·exact Or.inr ⟨g,cap,cur,hv,hg,(k.block g (Array.getElem?_eq_some_iff.1 hh).1 (hn g (by rw[hv];rfl))).trans hh,r⟩
end Go.Proofs.YthhkjbfkgdlkmaaGreatDoor
namespace Go
set_option maxHeartbeats 16000000
end Go
namespace Go.Proofs.YthhkjbfkgdlkmaaGreatDoor
set_option maxHeartbeats 16000000
open Go.RowKit
set_option linter.unusedVariables false
set_option maxRecDepth 100000
def cellAt (x:Eg)(j:Nat):Value:=((cells7 x)[j]?).getD (.bool false)
theorem Only.nx {o:Option Nat}{a w w':World}(h:Only o a w)(k:Nx w w'):Only o a w':=
 ⟨k.os.trans h.os,k.tape.trans h.tape,k.output.trans h.output,Nat.le_trans h.size k.size,λb hb hn=>(k.block b (Nat.lt_of_lt_of_le hb h.size)).trans (h.block b hb hn)⟩
end Go.Proofs.YthhkjbfkgdlkmaaGreatDoor
namespace Go.Proofs.YthhkjbfkgdlkmaaGreatDoor
open Go.RowKit
set_option linter.unusedVariables false
set_option maxRecDepth 1000000
set_option maxHeartbeats 16000000
def CapOk (v:Value):Prop:=∃a n c,v=.slice a n c/\n<=c
def wd (ws:List (List Int))(i:Nat):List Int:=ws.getD i []
def HWords (B:Nat)(w:World)(v:Value)(ws:List (List Int)):Prop:=
 HSlice B w v ws.length λb off i=>∃vi,w.cell? ⟨b,off+i,none⟩=some vi/\HInts B w vi (wd ws i)/\CapOk vi
theorem HWords.keep {B:Nat}{w w':World}{v:Value}{ws:List (List Int)}(h:HWords B w v ws)(k:Keeps B w w'):HWords B w' v ws:=
 HSlice.mono h (Nat.le_refl _) k.1 λb off hb hs i hi hc=>by
  obtain⟨vi,h1,h2,h3⟩:=hc
  exact⟨vi,(k.2 b hb hs _).trans h1,h2.keep k,h3⟩
theorem HWords.next {B:Nat}{w w':World}{v:Value}{ws:List (List Int)}(h:HWords B w v ws)(k:Nx w w'):HWords B w' v ws:=h.keep (k.keeps B)
theorem own_ne {w:World}{B B' e e' size size' n n':Nat}{v v':Value}{xs xs':List Value}(h:w.ownsRow B e size v n xs)(h':w.ownsRow B' e' size' v' n' xs')(hne:e≠e'):v.ownBlock=none\/v.ownBlock≠v'.ownBlock:=by
 rcases h.2 with⟨rfl,_⟩|⟨g,cap,cur,rfl,_,hh,_⟩
 ·exact Or.inl rfl
 ·rcases h'.2 with⟨rfl,_⟩|⟨g',cap',cur',rfl,_,hh',_⟩
  ·exact Or.inr (by simp[Value.ownBlock])
  ·refine Or.inr λe1=>?_
   simp[Value.ownBlock] at e1
   subst e1
   rw[hh] at hh'
   simp at hh'
   exact hne hh'.2
theorem cellq {w w':World}(k:Nx w w'){b o:Nat}{v:Value}(h:w.cell? ⟨b,o,none⟩=some v):w'.cell? ⟨b,o,none⟩=some v:=cell_next k (cell_lt h) h
def wayIs (es:List Eg)(i:Int)(e:Nat):Bool:=decide ((eat es e).way=i)
def ofTo (es:List Eg)(i:Int)(k:Nat):List Nat:=(List.range k).filter (wayIs es i)
def thTo (es:List Eg)(i:Int)(k:Nat):List Nat:=(List.range k).filter λe=>wayIs es i e&&!(eat es e).back
def bkTo (es:List Eg)(i:Int)(k:Nat):List Nat:=((List.range k).filter λe=>wayIs es i e&&(eat es e).back).reverse
def travs (N:Nt)(es:List Eg)(i:Nat):List (List Nat):=[thTo es i es.length]++(if (wat N.ways i).both then [bkTo es i es.length] else [])
def wpos (xs:List Wy)(id:Int):Nat:=xs.findIdx λx=>x.id==id
def sing (l:List Nat):List (List Nat):=l.map λe=>[e]
def firstsR (N:Nt)(es:List Eg)(r:Rl):List Nat:=ofTo es (wpos N.ways r.frm) es.length
def growW (N:Nt)(es:List Eg)(r:Rl)(k:Nat):List (List Nat):=growAll es (sing (firstsR N es r)) ((r.ways.take k).map λid=>travs N es (wpos N.ways id))
theorem HWays.next {B:Nat}{w w':World}{v:Value}{xs:List Wy}(h:HWays B w v xs)(k:Nx w w'):HWays B w' v xs:=h.keep (k.keeps B)
theorem row_next {C ty sz n:Nat}{w w':World}{v:Value}{xs:List Value}(h:w.ownsRow C ty sz v n xs)(k:Nx w w'):w'.ownsRow C ty sz v n xs:=by
 obtain⟨h1,h2⟩:=h
 refine⟨h1,?_⟩
 rcases h2 with h2|⟨g,cap,cur,hv,hg,hh,r⟩
 ·exact Or.inl h2
 ·exact Or.inr ⟨g,cap,cur,hv,hg,(k.block g (Array.getElem?_eq_some_iff.1 hh).1).trans hh,r⟩
theorem row_slice {C ty sz n:Nat}{w:World}{v:Value}{xs:List Value}(h:w.ownsRow C ty sz v n xs):∃a c,v=.slice a n c:=by
 rcases h.2 with⟨rfl,h2⟩|⟨g,cap,cur,rfl,_⟩
 ·exact⟨none,0,by rw[h2]⟩
 ·exact⟨_,_,rfl⟩
end Go.Proofs.YthhkjbfkgdlkmaaGreatDoor
