import Derived.Test.YtphiaobccollhaaGreatQVSD
import Derived.Test.YtphiaobccollhaaGreatQVSV
namespace Go.Proofs.YtphiaobccollhaaGreat
open Go.RowKit Go.Sort
set_option linter.unusedVariables false
set_option maxRecDepth 1000000
set_option maxHeartbeats 16000000
variable {G:Gr}{g v:Nat}{w:World}
def Qz (G:Gr)(v:Nat):List (Nat×Int):=if v<G.eo.length then (List.range' (fst G v) (fst G (v+1)-fst G v)).map (λk=>((iat G.tt k).toNat,iat G.co k)) else []
def eoG (G:Gr)(v:Nat):Int:=iat G.eo v
def stG (G:Gr)(s:Nat):Nat:=(iat G.sr s).toNat
theorem Ul (h:VG G){u:Nat}{c:Int}:(u,c)∈Qz G v↔v<G.eo.length/\∃k,fst G v<=k/\k<fst G (v+1)/\u=(iat G.tt k).toNat/\c=iat G.co k:=by
 unfold Qz
 by_cases hv:v<G.eo.length
 ·rw[if_pos hv,List.mem_map]
  have hle:=Ku h hv
  constructor
  ·rintro⟨k,hk,e⟩
   rw[List.mem_range'_1] at hk
   simp only[Prod.mk.injEq] at e
   exact⟨hv,k,hk.1,by omega,e.1.symm,e.2.symm⟩
  ·rintro⟨_,k,h1,h2,rfl,rfl⟩
   exact⟨k,by rw[List.mem_range'_1];omega,rfl⟩
 ·rw[if_neg hv]
  simp[hv]
theorem Q2c (h:VG G){k:Nat}(hv:v<G.eo.length)(hk:k<fst G (v+1)):k<G.tt.length:=by
 have:=(Jr h (show v+1<=G.eo.length by omega)).2
 omega
theorem Iy (h:VG G):∀v u c,(u,c)∈Qz G v->u<G.eo.length:=by
 intro v u c hm
 obtain⟨hv,k,h1,h2,rfl,_⟩:=(Ul h).1 hm
 have:=h.tt k (Q2c h hv h2)
 omega
theorem Iz (h:VG G):∀v u c,(u,c)∈Qz G v->0<=c/\c<=3145728:=by
 intro v u c hm
 obtain⟨hv,k,h1,h2,_,rfl⟩:=(Ul h).1 hm
 exact h.co k (Q2c h hv h2)
theorem Qac (h:VG G){s:Nat}(hs:s<G.sr.length):stG G s<G.eo.length/\iat G.sr s=(stG G s:Int)/\eoG G (stG G s)=s:=by
 have:=h.sr s hs
 unfold stG eoG
 omega
theorem Q6w (h:VG G){s0:Nat}{w0:Int}(hw:0<=w0/\w0<=1048576){E:List Int}{c:Int}(k:WK (eoG G) (Qz G) s0 w0 E c v):0<=c/\c<=1048576+(E.length:Int)*3145728:=by
 induction k using WK.ind with
 |base=>simp;omega
 |step _ hm ih=>
  have:=Iz h _ _ _ hm
  rw[zA,List.length_singleton]
  omega
def G4 (G:Gr)(s t:Int)(r:Rt):Prop:=
 (Qq G=false/\r=⟨3,0,[]⟩)\/(Qq G=true/\¬(0<=s/\s<G.sr.length/\0<=t/\t<G.sr.length)/\r=⟨2,0,[]⟩) \/
 (Qq G=true/\(0<=s/\s<G.sr.length/\0<=t/\t<G.sr.length)/\Fl t (λc E=>∃v,WK (eoG G) (Qz G) (stG G s.toNat) (iat G.we s.toNat) E c v/\eoG G v=t) r)
def Uz:Code->List Code
 |.loop c=>c::Uz c
 |.seq a b=>Uz a++Uz b
 |.block _ c=>Uz c
 |.scope c=>Uz c
 |.cond _ a b=>Uz a++Uz b
 |_=>[]
theorem Qi.row {B:Nat}{a:Option Addr}{n c:Nat}{zs:List Int}(h:Qi B w (sL a n c) zs)(hp:0<zs.length):n=zs.length/\∃b o,a=some (aD b o)/\∀i,i<zs.length->w.cell? (aD b (o+i))=some (iV (iat zs i)):=by
 obtain⟨a',c',e,hm,hk⟩:=h
 simp only[zC] at e
 obtain⟨rfl,rfl,rfl⟩:=e
 obtain⟨b,o,e1,_,_,e2⟩:=hk hp
 exact⟨rfl,b,o,e1,e2⟩
theorem Qi.len {B:Nat}{a:Option Addr}{n c:Nat}{zs:List Int}(h:Qi B w (sL a n c) zs):n=zs.length:=by
 obtain⟨a',c',e,hm,hk⟩:=h
 simp only[zC] at e
 exact e.2.1
theorem Yu {o:Obj}(h:g=w.heap.size):(w.alloc o).heap[g]?=some o:=by
 subst h
 show(w.heap.push _)[w.heap.size]?=_
 rw[Array.getElem?_push,if_pos rfl]
theorem U3 {o:Obj}(h:w.heap[g]?=some o):w.drew.heap[g]?=some o:=h
theorem Yv {o o':Obj}(h:w.heap[g]?=some o):(w.alloc o').heap[g]?=some o:=by
 show(w.heap.push _)[g]?=_
 rw[Array.getElem?_push,if_neg (by have:=(Array.getElem?_eq_some_iff.1 h).1;omega)]
 exact h
theorem Fz (C:Nat)(w:World)(c:Int):HRt C w c 0 none 0 0 ⟨c,0,[]⟩:=⟨rfl,rfl,⟨rfl,oL ⟨rfl,rfl⟩⟩⟩
end Go.Proofs.YtphiaobccollhaaGreat
