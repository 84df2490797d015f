import Derived.Test.YtmmolhlihhdkcaaGreatDoorBDH
import Derived.Laws.BytesArg
import Derived.Laws.IdiomStrings
import Derived.Lib.ConvBytes
import Derived.Laws.CopyRow
import Derived.Great.Walk
import Derived.Laws.Strings
namespace Go.Proofs.YtmmolhlihhdkcaaGreatDoor
open Go.RowKit Go.Sort
set_option linter.unusedVariables false
set_option maxRecDepth 1000000
set_option maxHeartbeats 16000000
def bt (s:ByteArray)(i:Nat):Nat:=(s.data.toList.getD i 0).toNat
theorem Qd6 {s:ByteArray}{i:Nat}(h:i<s.size):(s[i]'h).toNat=bt s i:=by
 have h':i<s.data.toList.length:=by simpa using h
 unfold bt
 rw[List.getD_eq_getElem?_getD,List.getElem?_eq_getElem h']
 simp
 rfl
theorem bt_lt (s:ByteArray)(i:Nat):bt s i<256:=(s.data.toList.getD i 0).toNat_lt
def stOf (bs:List UInt8):ByteArray:=⟨bs.toArray⟩
theorem Xj (bs:List UInt8):(stOf bs).size=bs.length:=by simp[stOf,ByteArray.size]
def dgB (s:ByteArray)(i:Nat):Bool:=decide (48<=bt s i)&&decide (bt s i<=57)
def vTo (s:ByteArray):Nat->Int
 |0=>0
 |k+1=>vTo s k*10+((bt s k:Int)-48)
def V9 (s:ByteArray):Int:=if s.size=0\/7<s.size then -1 else if bt s 0=48/\1<s.size then -1 else if Jp s.size (dgB s)=false then -1 else if 1048576<vTo s s.size then -1 else vTo s s.size
theorem Q83 {s:ByteArray}:∀k,Vq (dgB s) k->0<=vTo s k/\vTo s k<10 ^ k
 |0,_=>⟨Int.le_refl _,by show(0:Int)<1;decide⟩
 |k+1,h=>by
  have ih:=Q83 k (λi hi=>h i (by omega))
  have hd:=h k (by omega)
  unfold dgB at hd
  simp at hd
  show 0<=vTo s k*10+((bt s k:Int)-48)/\vTo s k*10+((bt s k:Int)-48)<10 ^ (k+1)
  rw[Int.pow_succ]
  omega
theorem Q4q {s:ByteArray}{k:Nat}(hk:k<=7)(h:Vq (dgB s) k):0<=vTo s k/\vTo s k<10000000:=by
 have h1:=Q83 k h
 have h2:(10:Int) ^ k<=10 ^ 7:=by
  match k,hk with
  |0,_=>decide
  |1,_=>decide
  |2,_=>decide
  |3,_=>decide
  |4,_=>decide
  |5,_=>decide
  |6,_=>decide
  |7,_=>decide
 have h3:(10:Int) ^ 7=10000000:=by decide
 omega
theorem Qb4 {s:ByteArray}{k n:Nat}(hn:s.size=n)(h0:¬(n=0\/7<n))(h1:¬(bt s 0=48/\1<n))(hk:k<n)(h:dgB s k=false):-1=V9 s:=by
 subst hn
 unfold V9
 rw[if_neg h0,if_neg h1,if_pos (J7 hk h)]
theorem Q15 {s:ByteArray}{n:Nat}(hn:s.size=n)(h0:¬(n=0\/7<n))(h1:¬(bt s 0=48/\1<n))(h:Vq (dgB s) n):V9 s=if 1048576<vTo s n then -1 else vTo s n:=by
 subst hn
 unfold V9
 rw[if_neg h0,if_neg h1,if_neg (by rw[Jn (Nat.le_refl _) h];decide)]
def Zr (bs:List UInt8)(sep:UInt8):Nat->List ByteArray×Nat
 |0=>([],0)
 |k+1=>if bs.getD k 0=sep then ((Zr bs sep k).1++[stOf ((bs.drop (Zr bs sep k).2).take (k-(Zr bs sep k).2))],k+1) else Zr bs sep k
def Va (bs:List UInt8)(sep:UInt8):List ByteArray:=(Zr bs sep bs.length).1++[stOf (bs.drop (Zr bs sep bs.length).2)]
theorem Gk (bs:List UInt8)(sep:UInt8):∀k,(Zr bs sep k).2<=k/\(Zr bs sep k).1.length<=k
 |0=>⟨Nat.le_refl _,Nat.le_refl _⟩
 |k+1=>by
  have ih:=Gk bs sep k
  unfold Zr
  split
  ·exact⟨Nat.le_refl _,by simp;exact ih.2⟩
  ·omega
def J2 (C:Nat)(w:World)(v:Value)(ss:List ByteArray):Prop:=w.ownsRow C 9 1 v ss.length (ss.map Value.string)
theorem Fj:(Tryz.prog.info? 9).map (λi=>(i.zero,i.size,i.bytes))=some (some (.string ByteArray.empty),1,16):=by kernel_rfl
theorem Am (w:World)(p:Option Addr)(c:Nat):(convert 22 9 (.slice p 0 c)).run Tryz.prog w=.ok (.string (stOf [])) w:=by
 rw[run_convert_bytes_string w 22 9 5 _ 0 c Tryz.underlying22 Tryz.underlying5 Tryz.underlying9]
 cases p<;>simp[Conv.bytesToString,loadCells]
 all_goals rfl
theorem Q0v (w:World)(b off n c:Nat)(bs:List UInt8)(hn:bs.length=n)(h:∀i,i<n->w.cell? ⟨b,off+i,none⟩=some (.int .u8 (Qw bs i))):(convert 22 9 (.slice (some ⟨b,off,none⟩) n c)).run Tryz.prog w=.ok (.string (stOf bs)) w:=by
 have hb:∀i,i<n->Qw bs i=(bs.map λx:UInt8=>(x.toNat:Int)).getD i 0:=λi hi=>by
  unfold Qw
  simp[List.getD_eq_getElem?_getD,hn,hi]
 have e:=run_convert_bytes_arg (P:=Tryz.prog) w 22 5 Tryz.underlying22 Tryz.underlying5 b off n c (bs.map λx:UInt8=>(x.toNat:Int)) (by simp[hn]) (λi hi=>by rw[h i hi,hb i hi]) 9 Tryz.underlying9
 rw[e]
 congr 2
 unfold strOfNums stOf
 congr 2
 rw[List.map_map]
 apply List.ext_getElem
 ·simp
 ·intro i h1 h2
  simp
def sat (ss:List ByteArray)(i:Nat):ByteArray:=ss.getD i ⟨#[]⟩
theorem J2.at {C:Nat}{w:World}{a:Option Addr}{n c:Nat}{ss:List ByteArray}(h:J2 C w (.slice a n c) ss){i:Nat}(hi:i<ss.length):∃g,a=some ⟨g,0,none⟩/\C<=g/\g<w.heap.size/\w.cell? ⟨g,i,none⟩=some (.string (sat ss i)):=by
 obtain⟨h3,h4⟩:=h
 rcases h4 with⟨_,h4⟩|⟨g,cap,cur,e,hg,hh,hc,hm,hs,ht⟩
 ·omega
 ·simp only[Value.slice.injEq] at e
  refine⟨g,e.1,hg,(Array.getElem?_eq_some_iff.1 hh).1,?_⟩
  have e1:(cur.toList.take (ss.length*1))[i]?=(ss.map Value.string)[i]?:=by rw[ht]
  rw[List.getElem?_take_of_lt (by omega),Array.getElem?_toList,List.getElem?_map,List.getElem?_eq_getElem hi] at e1
  have e2:sat ss i=ss[i]:=by simp[sat,List.getD,hi]
  rw[e2]
  have hh':w.heap[g]?=some (.cells cur 9 (0,0)):=hh
  unfold World.cell?
  simp[hh',e1]
theorem J2.next {C:Nat}{w w':World}{v:Value}{ss:List ByteArray}(h:J2 C w v ss)(k:Nx w w'):J2 C w' v ss:=Qp h k
theorem J2.base {C C':Nat}{w:World}{v:Value}{ss:List ByteArray}(h:J2 C w v ss)(hC:C'<=C):J2 C' w v ss:=Jd h hC
theorem Qal (w:World)(e:TypeId)(s:ByteArray):Nx w (Lib.bytesWorld w e s):=
 ⟨rfl,rfl,rfl,by rw[Lib.bytesWorld_size];omega,λk hk=>Lib.bytesWorld_at_old w e s k hk⟩
def okC (x:ByteArray)(j:Nat):Bool:=decide (33<=bt x j)&&decide (bt x j<=126)
def okF (x:ByteArray):Bool:=decide (0<x.size)&&Jp x.size (okC x)
def Ke (s:ByteArray):List ByteArray:=Va s.data.toList 32
def Yr (s:ByteArray):List ByteArray:=if Jp (Ke s).length (λi=>okF (sat (Ke s) i))=true then Ke s else []
theorem Ig (bs:List UInt8)(sep:UInt8):∀k,k<=bs.length->∀x∈(Zr bs sep k).1,x.size<=k
 |0,_,x,hx=>by simp[Zr] at hx
 |k+1,hk,x,hx=>by
  have ih:=Ig bs sep k (by omega)
  unfold Zr at hx
  split at hx
  ·rcases List.mem_append.1 hx with h|h
   ·have:=ih x h;omega
   ·have e:x=stOf ((bs.drop (Zr bs sep k).2).take (k-(Zr bs sep k).2)):=by simpa using h
    rw[e,Xj,List.length_take];omega
  ·have:=ih x hx;omega
theorem Qai {s:ByteArray}{i:Nat}(hi:i<(Ke s).length):(sat (Ke s) i).size<=s.size:=by
 have hm:sat (Ke s) i∈Ke s:=by
  have e2:sat (Ke s) i=(Ke s)[i]:=by simp[sat,List.getD,hi]
  rw[e2];exact List.getElem_mem hi
 have hl:s.data.toList.length=s.size:=by simp
 generalize sat (Ke s) i=x at *
 unfold Ke Va at hm
 rcases List.mem_append.1 hm with h|h
 ·have:=Ig _ _ _ (Nat.le_refl _) x h;omega
 ·have e:x=stOf (List.drop (Zr s.data.toList 32 s.data.toList.length).2 s.data.toList):=by simpa using h
  rw[e,Xj,List.length_drop];omega
theorem Qc9 (s:ByteArray):(Ke s).length<=s.size+1:=by
 unfold Ke Va
 have:=(Gk s.data.toList 32 s.data.toList.length).2
 have hl:s.data.toList.length=s.size:=by simp
 rw[List.length_append,List.length_singleton]
 omega
def Vt (x:ByteArray):Bool:=x.toList==[110,111]||x.toList==[111,110,108,121]
def Q3z (f:List ByteArray)(i:Nat):Bool:=((sat f 0).toList==[119,97,121]&&i==2)||(Vt (sat f 0)&&i==3)
def I9 (f:List ByteArray)(i:Nat):Bool:=i==0||(Q3z f i||decide (0<=V9 (sat f i)))
def V3 (f:List ByteArray):Int:=
 if (sat f 0).toList≠[110,111,100,101]/\(sat f 0).toList≠[119,97,121]/\(sat f 0).toList≠[116,117,114,110]/\(sat f 0).toList≠[117,116,117,114,110]/\Vt (sat f 0)=false then 5
 else if ((sat f 0).toList=[110,111,100,101]/\f.length≠2)\/((sat f 0).toList=[117,116,117,114,110]/\f.length≠2)\/((sat f 0).toList=[116,117,114,110]/\f.length≠4) then 6
 else if (sat f 0).toList=[119,97,121]/\(f.length<6\/f.length%2=1\/204<f.length) then 6
 else if Vt (sat f 0)=true/\f.length<6 then 6
 else if (sat f 0).toList=[119,97,121]/\(sat f 2).toList≠[102]/\(sat f 2).toList≠[98] then 7
 else if Vt (sat f 0)=true/\(sat f 3).toList≠[97,116]/\(sat f 3).toList≠[98,121] then 7
 else if Vt (sat f 0)=true/\(((sat f 3).toList=[97,116]/\6<f.length)\/((sat f 3).toList=[98,121]/\9<f.length)) then 6
 else if Jp f.length (I9 f)=true then 0 else 8
structure MS (w0 w:World)(bl:List (Nat×Array Value×Nat))(rs:List (Value×List Int)):Prop where
 nx:Nx w0 w
 bx:∀(j:Nat) (p:Nat×Array Value×Nat),bl[j]?=some p->BT w p.1 p.2.1 p.2.2/\w0.heap.size<=p.1/\p.2.2≠2
 nd:∀(j j':Nat) (p p':Nat×Array Value×Nat),j≠j'->bl[j]?=some p->bl[j']?=some p'->p.1≠p'.1
 rw:∀(j:Nat) (r:Value×List Int),rs[j]?=some r->Qb w0.heap.size w r.1 r.2
 ap:∀(j j':Nat) (r r':Value×List Int) (g:Nat),j≠j'->rs[j]?=some r->rs[j']?=some r'->r.1.ownBlock=some g->r'.1.ownBlock≠some g
section
variable {w0 w w':World}{bl:List (Nat×Array Value×Nat)}{rs:List (Value×List Int)}
theorem MS.start (w:World):MS w w [] []:=⟨Nx.refl _,λj p h=>by simp at h,λj j' p p' _ h=>by simp at h,λj r h=>by simp at h,λj j' r r' g _ h=>by simp at h⟩
theorem MS.next (h:MS w0 w bl rs)(k:Nx w w'):MS w0 w' bl rs:=⟨h.nx.trans k,λj p hp=>⟨(h.bx j p hp).1.next k,(h.bx j p hp).2⟩,h.nd,λj r hr=>(h.rw j r hr).next k,h.ap⟩
theorem MS.box (h:MS w0 w bl rs)(k:Nat){b t:Nat}{cs:Array Value}(hk:bl[k]?=some (b,cs,t)):BT w b cs t:=(h.bx k _ hk).1
theorem MS.row (h:MS w0 w bl rs)(k:Nat){v:Value}{zs:List Int}(hk:rs[k]?=some (v,zs)):Qb w0.heap.size w v zs:=h.rw k _ hk
theorem MS.set (h:MS w0 w bl rs)(k:Nat){b t:Nat}{cs:Array Value}(hk:bl[k]?=some (b,cs,t))(i:Nat)(v:Value):MS w0 (w.setCell ⟨b,i,none⟩ v) (bl.set k (b,cs.setIfInBounds i v,t)) rs:=by
 obtain⟨hb,hg,ht⟩:=h.bx k _ hk
 have hl:k<bl.length:=(List.getElem?_eq_some_iff.1 hk).1
 have key:∀(j:Nat) (p:Nat×Array Value×Nat),(bl.set k (b,cs.setIfInBounds i v,t))[j]?=some p->∃p0,bl[j]?=some p0/\p.1=p0.1:=λj p hp=>by
  rw[List.getElem?_set] at hp
  by_cases e:k=j
  ·subst e
   simp[hl] at hp
   subst hp
   exact⟨_,hk,rfl⟩
  ·rw[if_neg e] at hp
   exact⟨p,hp,rfl⟩
 refine⟨Below.setCell h.nx hg _,λj p hp=>?_,λj j' p p' hj hp hp'=>?_,λj r hr=>Q2 (h.rw j r hr) hb ht _ _,h.ap⟩
 ·rw[List.getElem?_set] at hp
  by_cases e:k=j
  ·subst e
   simp[hl] at hp
   subst hp
   exact⟨hb.set i v,hg,ht⟩
  ·rw[if_neg e] at hp
   have hx:=h.bx j p hp
   exact⟨hx.1.setOther (h.nd j k p _ (λq=>e q.symm) hp hk) _ _,hx.2⟩
 ·obtain⟨q,hq,e1⟩:=key j p hp
  obtain⟨q',hq',e2⟩:=key j' p' hp'
  rw[e1,e2]
  exact h.nd j j' q q' hj hq hq'
theorem MS.grow (h:MS w0 w bl rs)(k:Nat){v v':Value}{zs zs':List Int}(hk:rs[k]?=some (v,zs))(r1:Qb w0.heap.size w' v' zs')(r2:Chg (λx=>some x=v.ownBlock) w w')(r3:∀g,v'.ownBlock=some g->v.ownBlock=some g\/w.heap.size<=g):MS w0 w' bl (rs.set k (v',zs')):=by
 have ho:=h.rw k _ hk
 have hl:k<rs.length:=(List.getElem?_eq_some_iff.1 hk).1
 refine⟨Below.trans h.nx (r2.below h.nx.size (λx hx=>(Ql ho x hx.symm).1)),λj p hp=>?_,h.nd,λj r hr=>?_,λj j' r r' g hj hr hr' hg=>?_⟩
 ·have hx:=h.bx j p hp
  exact⟨hx.1.row ho hx.2.2 r2,hx.2⟩
 ·rw[List.getElem?_set] at hr
  by_cases e:k=j
  ·subst e
   simp[hl] at hr
   subst hr
   exact r1
  ·rw[if_neg e] at hr
   exact Yw (h.rw j r hr) (λg hg=>h.ap k j _ r g e hk hr hg) r2
 ·rw[List.getElem?_set] at hr hr'
  by_cases e:k=j
  ·subst e
   simp[hl] at hr
   subst hr
   rw[if_neg hj] at hr'
   rcases r3 g hg with q|q
   ·exact h.ap k j' _ r' g hj hk hr' q
   ·intro q2
    have:=(Ql (h.rw j' r' hr') g q2).2
    omega
  ·rw[if_neg e] at hr
   by_cases e':k=j'
   ·subst e'
    simp[hl] at hr'
    subst hr'
    intro q2
    rcases r3 g q2 with q|q
    ·exact h.ap k j _ r g (λx=>hj x.symm) hk hr q hg
    ·have:=(Ql (h.rw j r hr) g hg).2
     omega
   ·rw[if_neg e'] at hr'
    exact h.ap j j' r r' g hj hr hr' hg
theorem MS.addBox (h:MS w0 w bl rs)(cs:Array Value)(t:Nat)(ht:t≠2):MS w0 (w.alloc (.cells cs t)) (bl++[(w.heap.size,cs,t)]) rs:=by
 have hx:Nx w (w.alloc (.cells cs t)):=Qd _ _
 refine⟨h.nx.trans hx,λj p hp=>?_,λj j' p p' hj hp hp'=>?_,λj r hr=>(h.rw j r hr).next hx,h.ap⟩
 ·rw[List.getElem?_append] at hp
  split at hp
  ·exact⟨(h.bx j p hp).1.next hx,(h.bx j p hp).2⟩
  ·obtain⟨e1,e2⟩:j-bl.length=0/\p=(w.heap.size,cs,t):=by
    cases hq:j-bl.length with
    |zero=>rw[hq] at hp;simp at hp;exact⟨rfl,hp.symm⟩
    |succ q=>rw[hq] at hp;simp at hp
   rw[e2]
   exact⟨BT.new _ _ _ _ rfl,h.nx.size,ht⟩
 ·have key:∀(j:Nat) (p:Nat×Array Value×Nat),(bl++[(w.heap.size,cs,t)])[j]?=some p->(j<bl.length/\bl[j]?=some p)\/(j=bl.length/\p.1=w.heap.size):=λj p hp=>by
   rw[List.getElem?_append] at hp
   split at hp
   ·rename_i hlt;exact Or.inl ⟨hlt,hp⟩
   ·cases hq:j-bl.length with
    |zero=>rw[hq] at hp;simp at hp;exact Or.inr ⟨by omega,by rw[<-hp]⟩
    |succ q=>rw[hq] at hp;simp at hp
  rcases key j p hp with⟨a1,a2⟩|⟨a1,a2⟩<;>rcases key j' p' hp' with⟨b1,b2⟩|⟨b1,b2⟩
  ·exact h.nd j j' p p' hj a2 b2
  ·have:=(h.bx j p a2).1.lt;omega
  ·have:=(h.bx j' p' b2).1.lt;omega
  ·omega
theorem MS.addRow (h:MS w0 w bl rs){v:Value}{zs:List Int}(hr:Qb w0.heap.size w v zs)(hn:∀(j:Nat) (r:Value×List Int) (g:Nat),rs[j]?=some r->r.1.ownBlock=some g->v.ownBlock≠some g):MS w0 w bl (rs++[(v,zs)]):=by
 have key:∀(j:Nat) (p:Value×List Int),(rs++[(v,zs)])[j]?=some p->(j<rs.length/\rs[j]?=some p)\/(j=rs.length/\p=(v,zs)):=λj p hp=>by
  rw[List.getElem?_append] at hp
  split at hp
  ·rename_i hlt;exact Or.inl ⟨hlt,hp⟩
  ·cases hq:j-rs.length with
   |zero=>rw[hq] at hp;simp at hp;exact Or.inr ⟨by omega,hp.symm⟩
   |succ q=>rw[hq] at hp;simp at hp
 refine⟨h.nx,h.bx,h.nd,λj r hj=>?_,λj j' r r' g hj hr1 hr2 hg=>?_⟩
 ·rcases key j r hj with⟨_,a⟩|⟨_,a⟩
  ·exact h.rw j r a
  ·rw[a];exact hr
 ·rcases key j r hr1 with⟨a1,a2⟩|⟨a1,a2⟩<;>rcases key j' r' hr2 with⟨b1,b2⟩|⟨b1,b2⟩
  ·exact h.ap j j' r r' g hj a2 b2 hg
  ·rw[b2];exact hn j r g a2 hg
  ·intro q;rw[a2] at hg;exact hn j' r' g b2 q hg
  ·omega
theorem MS.addNil (h:MS w0 w bl rs):MS w0 w bl (rs++[(.slice none 0 0,[])]):=h.addRow ⟨rfl,Or.inl ⟨rfl,rfl⟩⟩ (λj r g _ _ e=>by cases e)
end
theorem Te {w:World}{b:Nat}{cs cs':Array Value}{t:Nat}(hb:BT w b cs t):BT (w.setRow b cs') b cs' t/\Chg (λx=>x=b) w (w.setRow b cs'):=by
 have hh:w.heap[b]?=some (.cells cs t (0,0)):=hb
 have hl:=hb.lt
 refine⟨?_,?_⟩
 ·unfold BT World.setRow
  simp[Array.getElem?_modify,hh]
 ·refine⟨rfl,rfl,rfl,by simp[World.setRow],λx hx hn=>?_⟩
  have hn':¬b=x:=λe=>hn e.symm
  simp[World.setRow,Array.getElem?_modify,hn']
structure De where
 kind:Int
 a:Int
 b:Int
 way:Wy
 rel:Rl
 cost:Int
 nn:List Int
 nw:List Int
def zWy:Wy:=⟨0,false,[],[]⟩
def zRl:Rl:=⟨0,false,0,0,false,0,[]⟩
def vsL (f:List ByteArray):List Int:=f.map V9
theorem Vi (f:List ByteArray):(vsL f).length=f.length:=by simp[vsL]
theorem Xx {f:List ByteArray}{i:Nat}(h:i<f.length):iat (vsL f) i=V9 (sat f i):=by simp[vsL,iat,sat,List.getD,h]
def Jv (v:List Int):Nat->List Int
 |0=>[]
 |k+1=>if 3<=k/\k%2=1 then Jv v k++[iat v k] else Jv v k
def Jx (v:List Int):Nat->List Int
 |0=>[]
 |k+1=>if 3<=k/\k%2=0 then Jx v k++[iat v k] else Jx v k
theorem Q5f (v:List Int):∀k,(Jv v k).length<=k
 |0=>Nat.le_refl _
 |k+1=>by
  have:=Q5f v k
  unfold Jv
  split
  ·simp;omega
  ·omega
theorem Fs (v:List Int):∀k,(Jx v k).length<=k
 |0=>Nat.le_refl _
 |k+1=>by
  have:=Fs v k
  unfold Jx
  split
  ·simp;omega
  ·omega
def Wd (v:List Int):List Int:=(v.drop 4).take (v.length-5)
def rdS (f:List ByteArray):De:=
 if (sat f 0).toList=[110,111,100,101] then ⟨1,iat (vsL f) 1,0,zWy,zRl,0,[],[]⟩
 else if (sat f 0).toList=[119,97,121] then ⟨2,iat (vsL f) 1,0,⟨iat (vsL f) 1,(sat f 2).toList==[98],Jv (vsL f) f.length,Jx (vsL f) f.length⟩,zRl,0,Jv (vsL f) f.length,[]⟩
 else if Vt (sat f 0)=true then
  (if (sat f 3).toList=[97,116] then ⟨3,iat (vsL f) 1,0,zWy,⟨iat (vsL f) 1,(sat f 0).toList==[111,110,108,121],iat (vsL f) 2,iat (vsL f) (f.length-1),true,iat (vsL f) 4,[]⟩,0,[iat (vsL f) 4],[iat (vsL f) 2,iat (vsL f) (f.length-1)]⟩
   else ⟨3,iat (vsL f) 1,0,zWy,⟨iat (vsL f) 1,(sat f 0).toList==[111,110,108,121],iat (vsL f) 2,iat (vsL f) (f.length-1),false,0,Wd (vsL f)⟩,0,[],[iat (vsL f) 2,iat (vsL f) (f.length-1)]++Wd (vsL f)⟩)
 else if (sat f 0).toList=[116,117,114,110] then ⟨4,iat (vsL f) 1,iat (vsL f) 2,zWy,zRl,iat (vsL f) 3,[],[iat (vsL f) 1,iat (vsL f) 2]⟩
 else ⟨5,0,0,zWy,zRl,iat (vsL f) 1,[],[]⟩
structure HDe (C:Nat)(w:World)(d:De)(vn vw vr nn nw:Value):Prop where
 h1:Qb C w vn d.way.nodes
 h2:Qb C w vw d.way.weights
 h3:Qb C w vr d.rel.ways
 h4:Qb C w nn d.nn
 h5:Qb C w nw d.nw
theorem wrap64 {z:Int}(h0:0<=z)(h1:z<1000):IntKind.i64.wrap z=z:=by rw[IntKind.wrap_i64];omega
structure De5 where
 vn:Value
 vw:Value
 vr:Value
 nn:Value
 nw:Value
abbrev Dx:=De×De5
def Qd4 (x:Dx):List Value:=[.int .i64 x.1.kind,.int .i64 x.1.a,.int .i64 x.1.b,.int .i64 x.1.way.id,.bool x.1.way.both,x.2.vn,x.2.vw,.int .i64 x.1.rel.id,.bool x.1.rel.only,.int .i64 x.1.rel.frm,.int .i64 x.1.rel.to,.bool x.1.rel.via,.int .i64 x.1.rel.node,x.2.vr,.int .i64 x.1.cost,x.2.nn,x.2.nw]
def zDe:De:=⟨0,0,0,zWy,zRl,0,[],[]⟩
def zDx:Dx:=(zDe,⟨.slice none 0 0,.slice none 0 0,.slice none 0 0,.slice none 0 0,.slice none 0 0⟩)
def dat (ds:List De)(i:Nat):De:=ds.getD i zDe
def HDx (C:Nat)(w:World)(x:Dx):Prop:=HDe C w x.1 x.2.vn x.2.vw x.2.vr x.2.nn x.2.nw
theorem Qb.slice1 {C:Nat}{w:World}{v:Value}{l:List Int}(h:Qb C w v l):∃a c,v=.slice a l.length c:=by
 obtain⟨a,c,e⟩:=Q3 h
 exact⟨a,c,e⟩
theorem HDx.one {C:Nat}{w:World}{y:Dx}(h:HDx C w y):∀u∈Qd4 y,u.oneCell'=true:=by
 intro u hu
 obtain⟨a1,c1,e1⟩:=h.h1.slice1
 obtain⟨a2,c2,e2⟩:=h.h2.slice1
 obtain⟨a3,c3,e3⟩:=h.h3.slice1
 obtain⟨a4,c4,e4⟩:=h.h4.slice1
 obtain⟨a5,c5,e5⟩:=h.h5.slice1
 simp only[Qd4,List.mem_cons,List.not_mem_nil,or_false] at hu
 rcases hu with rfl|rfl|rfl|rfl|rfl|rfl|rfl|rfl|rfl|rfl|rfl|rfl|rfl|rfl|rfl|rfl|rfl<;>first|rfl|(rw[e1];rfl)|(rw[e2];rfl)|(rw[e3];rfl)|(rw[e4];rfl)|(rw[e5];rfl)
theorem chk0 {f:List ByteArray}(h:V3 f=0) :
  (((sat f 0).toList=[110,111,100,101]/\f.length=2)\/((sat f 0).toList=[119,97,121]/\6<=f.length/\f.length%2=0/\f.length<=204/\((sat f 2).toList=[102]\/(sat f 2).toList=[98]))
    \/ (Vt (sat f 0)=true/\6<=f.length/\(((sat f 3).toList=[97,116]/\f.length=6)\/((sat f 3).toList=[98,121]/\f.length<=9)))
    \/ ((sat f 0).toList=[116,117,114,110]/\f.length=4)\/((sat f 0).toList=[117,116,117,114,110]/\f.length=2))/\Jp f.length (I9 f)=true:=by
 unfold V3 at h
 split at h
 ·exact absurd h (by decide)
 rename_i c1
 split at h
 ·exact absurd h (by decide)
 rename_i c2
 split at h
 ·exact absurd h (by decide)
 rename_i c3
 split at h
 ·exact absurd h (by decide)
 rename_i c4
 split at h
 ·exact absurd h (by decide)
 rename_i c5
 split at h
 ·exact absurd h (by decide)
 rename_i c6
 split at h
 ·exact absurd h (by decide)
 rename_i c7
 split at h
 ·rename_i c8
  refine⟨?_,c8⟩
  by_cases w1:(sat f 0).toList=[110,111,100,101]
  ·exact Or.inl ⟨w1,Decidable.byContradiction λk=>c2 (Or.inl ⟨w1,k⟩)⟩
  by_cases w2:(sat f 0).toList=[119,97,121]
  ·refine Or.inr (Or.inl ⟨w2,Nat.le_of_not_lt λk=>c3 ⟨w2,Or.inl k⟩,?_,Nat.le_of_not_lt λk=>c3 ⟨w2,Or.inr (Or.inr k)⟩,?_⟩)
   ·have:¬f.length%2=1:=λk=>c3 ⟨w2,Or.inr (Or.inl k)⟩
    omega
   ·by_cases k:(sat f 2).toList=[102]
    ·exact Or.inl k
    ·exact Or.inr (Decidable.byContradiction λk'=>c5 ⟨w2,k,k'⟩)
  by_cases w3:Vt (sat f 0)=true
  ·refine Or.inr (Or.inr (Or.inl ⟨w3,Nat.le_of_not_lt λk=>c4 ⟨w3,k⟩,?_⟩))
   have l6:¬f.length<6:=λk=>c4 ⟨w3,k⟩
   by_cases k:(sat f 3).toList=[97,116]
   ·have:¬6<f.length:=λk'=>c7 ⟨w3,Or.inl ⟨k,k'⟩⟩
    exact Or.inl ⟨k,by omega⟩
   ·have k2:(sat f 3).toList=[98,121]:=Decidable.byContradiction λk'=>c6 ⟨w3,k,k'⟩
    exact Or.inr ⟨k2,Nat.le_of_not_lt λk'=>c7 ⟨w3,Or.inr ⟨k2,k'⟩⟩⟩
  by_cases w4:(sat f 0).toList=[116,117,114,110]
  ·exact Or.inr (Or.inr (Or.inr (Or.inl ⟨w4,Decidable.byContradiction λk=>c2 (Or.inr (Or.inr ⟨w4,k⟩))⟩)))
  by_cases w5:(sat f 0).toList=[117,116,117,114,110]
  ·exact Or.inr (Or.inr (Or.inr (Or.inr ⟨w5,Decidable.byContradiction λk=>c2 (Or.inr (Or.inl ⟨w5,k⟩))⟩)))
  exact absurd ⟨w1,w2,w4,w5,by simpa using w3⟩ c1
 ·exact absurd h (by decide)
def des (xs:List Dx):List De:=xs.map (·.1)
def Tr (p:De->Bool)(ds:List De):Int:=match ds.findIdx? p with|some i=>(i:Int)|none=>-1
def pk (kind a b:Int)(d:De):Bool:=d.kind==kind&&(d.a==a&&d.b==b)
def Xh (ds:List De)(kind:Int):Nat->Nat
 |0=>0
 |k+1=>if (dat ds k).kind=kind then Xh ds kind k+1 else Xh ds kind k
def Js (ds:List De)(kind a b:Int):Nat->Int
 |0=>-1
 |k+1=>if (dat ds k).kind≠kind then Js ds kind a b k else if (dat ds k).a<a\/((dat ds k).a=a/\(dat ds k).b<=b) then Js ds kind a b k
  else if Js ds kind a b k<0\/(dat ds k).a<(dat ds (Js ds kind a b k).toNat).a\/((dat ds k).a=(dat ds (Js ds kind a b k).toNat).a/\(dat ds k).b<(dat ds (Js ds kind a b k).toNat).b) then (k:Int) else Js ds kind a b k
theorem E4 (ds:List De)(kind a b:Int)(k:Nat):Js ds kind a b (k+1)=if (dat ds k).kind≠kind then Js ds kind a b k else if (dat ds k).a<a\/((dat ds k).a=a/\(dat ds k).b<=b) then Js ds kind a b k
  else if Js ds kind a b k<0\/(dat ds k).a<(dat ds (Js ds kind a b k).toNat).a\/((dat ds k).a=(dat ds (Js ds kind a b k).toNat).a/\(dat ds k).b<(dat ds (Js ds kind a b k).toNat).b) then (k:Int) else Js ds kind a b k:=rfl
theorem Q2z (ds:List De)(kind a b:Int):∀k,-1<=Js ds kind a b k/\Js ds kind a b k<k
 |0=>⟨by show(-1:Int)<=-1;decide,by show(-1:Int)<0;decide⟩
 |k+1=>by
  have:=Q2z ds kind a b k
  rw[E4]
  split
  ·omega
  split
  ·omega
  split<;>omega
abbrev Wv:=Wy×Value×Value
abbrev Rv:=Rl×Value
def wvL (x:Wv):List Value:=Pc x.1 x.2.1 x.2.2
def rvL (x:Rv):List Value:=Q0c x.1 x.2
structure NS (w0 w:World)(cs:Array Value)(v0 v1 v2 v3:Value)(ns:List Int)(ws:List Wv)(rs:List Rv)(ts:List Tn):Prop where
 nx:Nx w0 w
 res:BT w w0.heap.size Pa 28
 box:BT w (w0.heap.size+1) cs 28
 r0:Qb w0.heap.size w v0 ns
 r1:w.ownsRow w0.heap.size 45 4 v1 ws.length (ws.flatMap wvL)
 r2:w.ownsRow w0.heap.size 48 7 v2 rs.length (rs.flatMap rvL)
 r3:Uq w0.heap.size w v3 ts
section
variable {w0 w w':World}{cs:Array Value}{v0 v1 v2 v3:Value}{ns:List Int}{ws:List Wv}{rs:List Rv}{ts:List Tn}
theorem NS.next (h:NS w0 w cs v0 v1 v2 v3 ns ws rs ts)(k:Nx w w'):NS w0 w' cs v0 v1 v2 v3 ns ws rs ts:=
 ⟨h.nx.trans k,h.res.next k,h.box.next k,h.r0.next k,Qp h.r1 k,Qp h.r2 k,Qp h.r3 k⟩
theorem NS.set (h:NS w0 w cs v0 v1 v2 v3 ns ws rs ts)(i:Nat)(v:Value):NS w0 (w.setCell ⟨w0.heap.size+1,i,none⟩ v) (cs.setIfInBounds i v) v0 v1 v2 v3 ns ws rs ts:=
 ⟨Below.setCell h.nx (show w0.heap.size<=w0.heap.size+1 by omega) _,h.res.setOther (by omega) _ _,h.box.set i v,Q2 h.r0 h.box (by decide) i v,Q2 h.r1 h.box (by decide) i v,Q2 h.r2 h.box (by decide) i v,Q2 h.r3 h.box (by decide) i v⟩
theorem NS.nxg (h:NS w0 w cs v0 v1 v2 v3 ns ws rs ts){t sz n:Nat}{v:Value}{xs:List Value}(hr:w.ownsRow w0.heap.size t sz v n xs)(hc:Chg (λx=>some x=v.ownBlock) w w'):Nx w0 w':=
 Below.trans h.nx (hc.below h.nx.size (λx hx=>(Ql hr x hx.symm).1))
theorem NS.grow2 (h:NS w0 w cs v0 v1 v2 v3 ns ws rs ts){v:Value}{rs':List Rv}(hr:w'.ownsRow w0.heap.size 48 7 v rs'.length (rs'.flatMap rvL))(hc:Chg (λx=>some x=v2.ownBlock) w w'):NS w0 w' cs v0 v1 v v3 ns ws rs' ts:=
 ⟨h.nxg h.r2 hc,h.res.row h.r2 (by decide) hc,h.box.row h.r2 (by decide) hc,Q4 h.r0 h.r2 (by decide) hc,Q4 h.r1 h.r2 (by decide) hc,hr,Q4 h.r3 h.r2 (by decide) hc⟩
theorem NS.grow3 (h:NS w0 w cs v0 v1 v2 v3 ns ws rs ts){v:Value}{ts':List Tn}(hr:Uq w0.heap.size w' v ts')(hc:Chg (λx=>some x=v3.ownBlock) w w'):NS w0 w' cs v0 v1 v2 v ns ws rs ts':=
 ⟨h.nxg h.r3 hc,h.res.row h.r3 (by decide) hc,h.box.row h.r3 (by decide) hc,Q4 h.r0 h.r3 (by decide) hc,Q4 h.r1 h.r3 (by decide) hc,Q4 h.r2 h.r3 (by decide) hc,hr⟩
theorem NS.start (w:World):NS w ((w.alloc (.cells Pa 28)).alloc (.cells Pa 28)) Pa (.slice none 0 0) (.slice none 0 0) (.slice none 0 0) (.slice none 0 0) [] [] [] []:=by
 have b1:BT (w.alloc (.cells Pa 28)) w.heap.size Pa 28:=BT.new _ _ _ _ rfl
 have b2:=BT.new (w.alloc (.cells Pa 28)) Pa 28 (w.heap.size+1) (by rw[Q7])
 exact⟨(Qd _ _).trans (Qd _ _),b1.next (Qd _ _),b2,⟨rfl,Or.inl ⟨rfl,rfl⟩⟩,⟨rfl,Or.inl ⟨rfl,rfl⟩⟩,⟨rfl,Or.inl ⟨rfl,rfl⟩⟩,⟨rfl,Or.inl ⟨rfl,rfl⟩⟩⟩
end
def tkP (ds:List De)(kind:Int):Nat->Int->Int->List Nat
 |0,_,_=>[]
 |f+1,a,b=>if Js ds kind a b ds.length<0 then [] else (Js ds kind a b ds.length).toNat::tkP ds kind f (dat ds (Js ds kind a b ds.length).toNat).a (dat ds (Js ds kind a b ds.length).toNat).b
def Eo (xs:List Dx)(i:Nat):Dx:=xs.getD i zDx
def tkA (ds:List De)(kind:Int):List Nat:=tkP ds kind ds.length (-1) (-1)
theorem Q7q {k:Nat}{ops:Array Oper}{o:Oper}{a:Act}{K:Act->World->Prop}{Q:Exit->Act->World->Prop}{E:Prop}(hgd:o.guard=none)(s x:Operand)(ho:o.op=.call { callee:=.builtin .append,args:=#[s,x],argTypes:=#[24,24] })
  (C n:Nat) (v:Value) (l:List Wv) (y:Wv) (w0 W:World) (hW:W=w0.alloc (.cells (wvL y).toArray 45)) (hs:a.eval s=v) (hown:w0.ownsRow C 45 4 v l.length (l.flatMap wvL)) (hx:a.eval x=.slice (some ⟨w0.heap.size,0,none⟩) 1 1) (hn:l.length=n) (h1:∀u∈wvL y,u.oneCell'=true) (hm:n<=1000000) (hC:C<=w0.heap.size)
  (h:∀a' c' w',w'.ownsRow C 45 4 (.slice a' (n+1) c') (l++[y]).length ((l++[y]).flatMap wvL)->Chg (λx=>some x=v.ownBlock) w0 w'->K (a.put o.dst (.slice a' (n+1) c')) w') :
  if Region.wanted o (yielded ops a.tmps)=true then Oper.wpIn Fence.wide k Tryz.prog o a W K Q else E:=by
 subst hn
 refine Jo Yc Tryz.underlying24 rfl (by decide) (by decide) hgd s x ho C l.length v (l.flatMap wvL) (wvL y) w0 W hW hs hown hx rfl h1 hm hC (λa' c' w' r1 r2 r3=>h a' c' w' ?_ r2)
 rw[List.length_append,List.flatMap_append,List.flatMap_singleton]
 exact r1
theorem Q7s {k:Nat}{ops:Array Oper}{o:Oper}{a:Act}{K:Act->World->Prop}{Q:Exit->Act->World->Prop}{E:Prop}(hgd:o.guard=none)(s x:Operand)(ho:o.op=.call { callee:=.builtin .append,args:=#[s,x],argTypes:=#[25,25] })
  (C n:Nat) (v:Value) (l:List Rv) (y:Rv) (w0 W:World) (hW:W=w0.alloc (.cells (rvL y).toArray 48)) (hs:a.eval s=v) (hown:w0.ownsRow C 48 7 v l.length (l.flatMap rvL)) (hx:a.eval x=.slice (some ⟨w0.heap.size,0,none⟩) 1 1) (hn:l.length=n) (h1:∀u∈rvL y,u.oneCell'=true) (hm:n<=1000000) (hC:C<=w0.heap.size)
  (h:∀a' c' w',w'.ownsRow C 48 7 (.slice a' (n+1) c') (l++[y]).length ((l++[y]).flatMap rvL)->Chg (λx=>some x=v.ownBlock) w0 w'->K (a.put o.dst (.slice a' (n+1) c')) w') :
  if Region.wanted o (yielded ops a.tmps)=true then Oper.wpIn Fence.wide k Tryz.prog o a W K Q else E:=by
 subst hn
 refine Jo Wu Tryz.underlying25 rfl (by decide) (by decide) hgd s x ho C l.length v (l.flatMap rvL) (rvL y) w0 W hW hs hown hx rfl h1 hm hC (λa' c' w' r1 r2 r3=>h a' c' w' ?_ r2)
 rw[List.length_append,List.flatMap_append,List.flatMap_singleton]
 exact r1
theorem Q7r {k:Nat}{ops:Array Oper}{o:Oper}{a:Act}{K:Act->World->Prop}{Q:Exit->Act->World->Prop}{E:Prop}(hgd:o.guard=none)(s x:Operand)(ho:o.op=.call { callee:=.builtin .append,args:=#[s,x],argTypes:=#[26,26] })
  (C n:Nat) (v:Value) (l:List Tn) (y:Tn) (w0 W:World) (hW:W=w0.alloc (.cells (Je y).toArray 51)) (hs:a.eval s=v) (hown:w0.ownsRow C 51 3 v l.length (l.flatMap Je)) (hx:a.eval x=.slice (some ⟨w0.heap.size,0,none⟩) 1 1) (hn:l.length=n) (h1:∀u∈Je y,u.oneCell'=true) (hm:n<=1000000) (hC:C<=w0.heap.size)
  (h:∀a' c' w',w'.ownsRow C 51 3 (.slice a' (n+1) c') (l++[y]).length ((l++[y]).flatMap Je)->Chg (λx=>some x=v.ownBlock) w0 w'->K (a.put o.dst (.slice a' (n+1) c')) w') :
  if Region.wanted o (yielded ops a.tmps)=true then Oper.wpIn Fence.wide k Tryz.prog o a W K Q else E:=by
 subst hn
 refine Jo Ul Tryz.underlying26 rfl (by decide) (by decide) hgd s x ho C l.length v (l.flatMap Je) (Je y) w0 W hW hs hown hx rfl h1 hm hC (λa' c' w' r1 r2 r3=>h a' c' w' ?_ r2)
 rw[List.length_append,List.flatMap_append,List.flatMap_singleton]
 exact r1
def Qdb (xs:List Dx)(i:Nat):Wv:=((Eo xs i).1.way,(Eo xs i).2.vn,(Eo xs i).2.vw)
def Qdv (xs:List Dx)(i:Nat):Rv:=((Eo xs i).1.rel,(Eo xs i).2.vr)
def tnAt (xs:List Dx)(i:Nat):Tn:=⟨(Eo xs i).1.a,(Eo xs i).1.b,(Eo xs i).1.cost⟩
def aAt (xs:List Dx)(i:Nat):Int:=(Eo xs i).1.a
def utx (xs:List Dx)(l:List Nat):Int:=match l.getLast? with|some i=>(Eo xs i).1.cost|none=>0
def NK (w wr:World)(xs:List Dx)(v0 v1 v2 v3:Value)(P1 P2 P3 P4 P5:List Nat):Prop:=
 NS w wr #[v0,v1,v2,v3,.int .i64 (utx xs P5)] v0 v1 v2 v3 (P1.map (aAt xs)) (P2.map (Qdb xs)) (P3.map (Qdv xs)) (P4.map (tnAt xs))
theorem NK.start (w:World)(xs:List Dx):NK w ((w.alloc (.cells Pa 28)).alloc (.cells Pa 28)) xs (.slice none 0 0) (.slice none 0 0) (.slice none 0 0) (.slice none 0 0) [] [] [] [] []:=NS.start w
theorem five {w:World}{b:Nat}{cs:Array Value}{x0 x1 x2 x3 x4:Value}(hb:BT w b cs 28) :
  BT (((((w.setCell ⟨b,0,none⟩ x0).setCell ⟨b,1,none⟩ x1).setCell ⟨b,2,none⟩ x2).setCell ⟨b,3,none⟩ x3).setCell ⟨b,4,none⟩ x4) b (((((cs.setIfInBounds 0 x0).setIfInBounds 1 x1).setIfInBounds 2 x2).setIfInBounds 3 x3).setIfInBounds 4 x4) 28
   /\ (∀{C t sz n:Nat}{v:Value}{xs:List Value},28≠t->w.ownsRow C t sz v n xs->(((((w.setCell ⟨b,0,none⟩ x0).setCell ⟨b,1,none⟩ x1).setCell ⟨b,2,none⟩ x2).setCell ⟨b,3,none⟩ x3).setCell ⟨b,4,none⟩ x4).ownsRow C t sz v n xs)
   /\ (∀w0:World,Nx w0 w->w0.heap.size<=b->Nx w0 (((((w.setCell ⟨b,0,none⟩ x0).setCell ⟨b,1,none⟩ x1).setCell ⟨b,2,none⟩ x2).setCell ⟨b,3,none⟩ x3).setCell ⟨b,4,none⟩ x4)):=by
 have b1:=hb.set 0 x0
 have b2:=b1.set 1 x1
 have b3:=b2.set 2 x2
 have b4:=b3.set 3 x3
 exact⟨b4.set 4 x4,λht h=>Q2 (Q2 (Q2 (Q2 (Q2 h hb ht 0 x0) b1 ht 1 x1) b2 ht 2 x2) b3 ht 3 x3) b4 ht 4 x4,λw0 h k=>Below.setCell (Below.setCell (Below.setCell (Below.setCell (Below.setCell h k _) k _) k _) k _) k _⟩
theorem Q7m {bs:List UInt8}{sep:UInt8}{i:Nat}(hi:i<(Va bs sep).length):(sat (Va bs sep) i).size<=bs.length:=by
 have hm:sat (Va bs sep) i∈Va bs sep:=by
  have e2:sat (Va bs sep) i=(Va bs sep)[i]:=by simp[sat,List.getD,hi]
  rw[e2];exact List.getElem_mem hi
 generalize sat (Va bs sep) i=x at *
 unfold Va at hm
 rcases List.mem_append.1 hm with h|h
 ·have:=Ig _ _ _ (Nat.le_refl _) x h;omega
 ·have e:x=stOf (List.drop (Zr bs sep bs.length).2 bs):=by simpa using h
  rw[e,Xj,List.length_drop];omega
theorem Fw (bs:List UInt8)(sep:UInt8):1<=(Va bs sep).length/\(Va bs sep).length<=bs.length+1:=by
 unfold Va
 have:=(Gk bs sep bs.length).2
 rw[List.length_append,List.length_singleton]
 omega
theorem Qa1 {s:ByteArray}{i:Nat}(hi:i<(Yr s).length):(sat (Yr s) i).size<=s.size:=by
 unfold Yr at hi ⊢
 split at hi
 ·rename_i h
  rw[if_pos h]
  exact Qai hi
 ·simp at hi
theorem Q5u (s:ByteArray):(Yr s).length<=s.size+1:=by
 unfold Yr
 split
 ·exact Qc9 s
 ·simp
def Xf (n:Nat)(p:Nat->Bool):Option Nat:=(List.range n).find? p
theorem T4 {n i:Nat}{p:Nat->Bool}(hi:i<n)(hp:p i=true)(hb:∀j,j<i->p j=false):Xf n p=some i:=by
 unfold Xf
 rw[List.find?_range_eq_some]
 exact⟨hp,List.mem_range.2 hi,λj hj=>by simp[hb j hj]⟩
theorem Y5 {n:Nat}{p:Nat->Bool}(hb:∀j,j<n->p j=false):Xf n p=none:=by
 unfold Xf
 rw[List.find?_eq_none]
 intro j hj
 simp[hb j (List.mem_range.1 hj)]
def lnC (ls:List ByteArray)(i:Nat):Int:=if (Yr (sat ls i)).length=0 then 4 else V3 (Yr (sat ls i))
def lnB (ls:List ByteArray)(i:Nat):Bool:=decide (1<=i)&&!(lnC ls i==0)
def Z5 (ls:List ByteArray)(k:Nat):List De:=(List.range k).map λi=>rdS (Yr (sat ls (i+1)))
theorem Q7l (ls:List ByteArray)(k:Nat):Z5 ls (k+1)=Z5 ls k++[rdS (Yr (sat ls (k+1)))]:=by simp[Z5,List.range_succ]
theorem Qac (ls:List ByteArray)(k:Nat):(Z5 ls k).length=k:=by simp[Z5]
def Pz (ds:List De)(i:Nat):Bool:=decide (Tr (pk (dat ds i).kind (dat ds i).a (dat ds i).b) ds<(i:Int))
def Qah (ds:List De)(l:List Int)(kind:Int):Bool:=l.any λx=>decide (Tr (pk kind x 0) ds<0)
def Q0u (ds:List De)(i:Nat):Bool:=Qah ds (dat ds i).nn 1||Qah ds (dat ds i).nw 2
def Q37 (x:Wy):Nat:=if x.both then 2*x.weights.length else x.weights.length
def Ie (ds:List De):Nat->Nat
 |0=>0
 |k+1=>Ie ds k+Q37 (dat ds k).way
def K7 (ds:List De):Bool:=decide (2000<Xh ds 1 ds.length)||(decide (2000<Xh ds 2 ds.length)||(decide (4000<Ie ds ds.length)||(decide (1000<Xh ds 3 ds.length)||decide (2000<Xh ds 4 ds.length))))
abbrev Pm:=Except (Int×Int) (List De)
def Wk (ds:List De):Pm:=
 match Xf ds.length (Pz ds) with
 |some i=>.error (9,(i:Int)+2)
 |none=>match Xf ds.length (Q0u ds) with
  |some i=>.error (10,(i:Int)+2)
  |none=>if K7 ds=true then .error (11,0) else .ok ds
def Q3q (ls:List ByteArray):Pm:=
 if (sat ls 0).toList≠[114,111,97,100,110,101,116,32,49] then .error (3,1)
 else match Xf ls.length (lnB ls) with
  |some i=>.error ((lnC ls i),(i:Int)+1)
  |none=>Wk (Z5 ls (ls.length-1))
def Z0 (bs:List UInt8):Pm:=
 if 300000<bs.length then .error (1,0)
 else if bs.length=0\/Qw bs (bs.length-1)≠10 then .error (2,0)
 else Q3q (Va (bs.take (bs.length-1)) 10)
theorem HDx.next {C:Nat}{w w':World}{x:Dx}(h:HDx C w x)(k:Nx w w'):HDx C w' x:=⟨h.h1.next k,h.h2.next k,h.h3.next k,h.h4.next k,h.h5.next k⟩
theorem HDx.base {C C':Nat}{w:World}{x:Dx}(h:HDx C w x)(k:C'<=C):HDx C' w x:=⟨Jd h.h1 k,Jd h.h2 k,Jd h.h3 k,Jd h.h4 k,Jd h.h5 k⟩
section
variable {w0 w w':World}{vl v:Value}{ls:List ByteArray}{xs:List Dx}
end
def noV (code line:Int):Value:=.agg #[.int .i64 code,.int .i64 line,.slice none 0 0,.slice none 0 0,.slice none 0 0,.slice none 0 0,.int .i64 0]
structure YesV (w w':World)(xs:List Dx)(v0 v1 v2 v3:Value):Prop where
 hd:∀x∈xs,HDx w.heap.size w' x
 r0:Qb w.heap.size w' v0 ((tkA (des xs) 1).map (aAt xs))
 r1:w'.ownsRow w.heap.size 45 4 v1 ((tkA (des xs) 2).map (Qdb xs)).length (((tkA (des xs) 2).map (Qdb xs)).flatMap wvL)
 r2:w'.ownsRow w.heap.size 48 7 v2 ((tkA (des xs) 3).map (Qdv xs)).length (((tkA (des xs) 3).map (Qdv xs)).flatMap rvL)
 r3:Uq w.heap.size w' v3 ((tkA (des xs) 4).map (tnAt xs))
def PmIs (w w':World)(p:Pm)(e:Ending):Prop:=match p with
 |.error (c,l)=>e=.returned (noV c l)
 |.ok ds=>∃xs v0 v1 v2 v3,des xs=ds/\e=.returned (.agg #[.int .i64 0,.int .i64 0,v0,v1,v2,v3,.int .i64 (utx xs (tkA (des xs) 5))])/\YesV w w' xs v0 v1 v2 v3
theorem PmIs.no {w w':World}{p:Pm}{c l:Int}(h:p=.error (c,l)):PmIs w w' p (.returned (noV c l)):=by rw[h];rfl
theorem Qee:(Tryz.prog.info? 33).map (·.size)=some 7:=by kernel_rfl
theorem E7 {ops:Array Oper}{rest:List Oper}{o:Oper}{a:Act}{Q:Exit->Act->World->Prop}{w:World}{b t:Nat}{cs cs':Array Value}(hgd:o.guard=none)(p v:Operand)(ho:o.op=.store 33 p v)(hp:a.eval p=.pointer (some ⟨b,0,none⟩))(hv:a.eval v=.agg cs')(hb:BT w b cs t)(hs:cs.size=7)(hs':cs'.size=7)(h1:(cs'.toList.all λv=>v.oneCell')=true)
  (h:wpList Tryz.prog ops Q rest (a.put o.dst undef) (w.setRow b cs')):wpList Tryz.prog ops Q (o::rest) a w:=
 wpList_store_row hgd _ p v ho b cs' hp hv t cs hb (by rw[Qee,hs']) (by rw[hs,hs']) (by rw[<-Array.all_toList];exact h1) h
theorem Tu {ops:Array Oper}{rest:List Oper}{o:Oper}{a:Act}{Q:Exit->Act->World->Prop}{w:World}{b t:Nat}{cs cs':Array Value}(hgd:o.guard=none)(p v:Operand)(ho:o.op=.store 33 p v)(hp:a.eval p=.pointer (some ⟨b,0,none⟩))(hv:a.eval v=.agg cs')(hb:BT w b cs t)(hs:cs.size=7)(hs':cs'.size=7)(h1:(cs'.toList.all λv=>v.oneCell')=true)
  (h:∀w',Hid (w'=w.setRow b cs')->wpList Tryz.prog ops Q rest (a.put o.dst undef) w'):wpList Tryz.prog ops Q (o::rest) a w:=E7 hgd p v ho hp hv hb hs hs' h1 (h _ rfl)
theorem Qe1 (f:List ByteArray):(rdS f).way.weights.length<=f.length:=by
 unfold rdS
 split
 ·exact Nat.zero_le _
 split
 ·exact Fs _ _
 split
 ·split<;>exact Nat.zero_le _
 split<;>exact Nat.zero_le _
theorem E8 {ops:Array Oper}{rest:List Oper}{o:Oper}{a:Act}{Q:Exit->Act->World->Prop}{w:World}{v0 v1 v2 v3 u:Value}(hgd:o.guard=none)(x:Operand)(ho:o.op=.build 33 #[(2,x)])(hx:a.eval x=.agg #[v0,v1,v2,v3,u])
  (h:∀w',Hid (w'=w)->wpList Tryz.prog ops Q rest (a.put o.dst (.agg #[.int .i64 0,.int .i64 0,v0,v1,v2,v3,u])) w'):wpList Tryz.prog ops Q (o::rest) a w:=by
 refine wpList_buildTo hgd _ _ ho _ rfl #[.int .i64 0,.int .i64 0,v0,v1,v2,v3,u] ?_ (h _ rfl)
 have e:((#[(2,x)]:Array (Nat×Operand)).map λ(i,x)=>(i,a.eval x)).toList=[(2,.agg #[v0,v1,v2,v3,u])]:=by simp[hx]
 rw[e]
 show _=_
 kernel_rfl
theorem Py {w:World}{b t C u sz n:Nat}{cs cs':Array Value}{v:Value}{xs:List Value}(hb:BT w b cs t)(ht:t≠u)(h:w.ownsRow C u sz v n xs):(w.setRow b cs').ownsRow C u sz v n xs:=
 Jm h (Te hb).2 (λx hx e=>by have e':x=b:=e;subst e';exact hb.neRow h ht hx.symm)
theorem HDx.put {w:World}{b t C:Nat}{cs cs':Array Value}{x:Dx}(hb:BT w b cs t)(ht:t≠2)(h:HDx C w x):HDx C (w.setRow b cs') x:=
 ⟨Py hb ht h.h1,Py hb ht h.h2,Py hb ht h.h3,Py hb ht h.h4,Py hb ht h.h5⟩
def Q9g (z:Int):Value:=.tuple #[.int .i64 (if z<0 then 0 else z),.bool (decide (0<=z))]
theorem Q1x {z:Int}(h:0<=z):Q9g z=.tuple #[.int .i64 z,.bool true]:=by unfold Q9g;rw[if_neg (by omega),decide_eq_true h]
theorem Qbr {z:Int}(h:z<0):Q9g z=.tuple #[.int .i64 0,.bool false]:=by unfold Q9g;rw[if_pos h,decide_eq_false (by omega)]
theorem Gy (s:ByteArray)(w:World)(hl:s.size<=1048576) :
  Calls Tryz.prog 169 #[.string s] w λe w'=>e=.returned (Q9g (V9 s))/\Nx w w':=by
 have HVD:Hid (s.size=0\/7<s.size->-1=V9 s):=λh=>by unfold V9;rw[if_pos h]
 have HV1:Hid (¬(s.size=0\/7<s.size)->(bt s 0=48/\1<s.size)->-1=V9 s):=λh h1=>by unfold V9;rw[if_neg h,if_pos h1]
 obtain⟨n,hn⟩:∃n,s.size=n:=⟨_,rfl⟩
 rw[hn] at hl HVD HV1
 have HN:Hid (s.size=n):=hn
 by_cases h0:n=0
 ·have HF:Hid (-1=V9 s):=HVD.out (Or.inl h0)
  subst h0
  have es:s=⟨#[]⟩:=by
   obtain⟨⟨l⟩⟩:=s
   have:l.length=0:=hn
   rw[List.length_eq_zero_iff.1 this]
  subst es
  go_enter Tryz.func169,Tryz.ntmps169
  go_wp2
  go_ret2
  exact⟨by rw[<-HF.out];rfl,Nx.refl _⟩
 have d0:(s.toList==[])=false:=by
  simp only[beq_eq_false_iff_ne,ne_eq]
  intro h
  have h2:s.toList.length=s.size:=by rw[ByteArray.toList_eq];simp
  rw[h] at h2
  simp at h2
  omega
 by_cases h7:7<n
 ·have HF:Hid (-1=V9 s):=HVD.out (Or.inr h7)
  have d7:decide ((7:Int)<n)=true:=by simp;omega
  have d7':(7:Int)<n:=by omega
  go_enter Tryz.func169,Tryz.ntmps169
  go_wp2
  go_ret2
  exact⟨by rw[<-HF.out];rfl,Nx.refl _⟩
 have d7:decide ((7:Int)<n)=false:=by simp;omega
 have d7':¬(7:Int)<n:=by omega
 have hb0:∀h:0<s.size,(s[0]'h).toNat=bt s 0:=λh=>Qd6 h
 have HC0:Hid (¬(n=0\/7<n)):=by rintro(h|h)<;>omega
 by_cases h1:bt s 0=48/\1<n
 ·have HF:Hid (-1=V9 s):=HV1.out HC0.out h1
  have e48:=h1.1
  have h1n:(1:Int)<n:=by omega
  rw[e48] at hb0
  clear h1 e48
  go_enter Tryz.func169,Tryz.ntmps169
  go_wp2
  go_ret2
  exact⟨by rw[<-HF.out];rfl,Nx.refl _⟩
 have HC1:Hid (¬(bt s 0=48/\1<n)):=h1
 go_enter Tryz.func169,Tryz.ntmps169
 go_upto_region 1 with fail
 generalize hbb:bt s 0=b0 at *
 have HCX:Hid (¬(bt s 0=48/\1<n)):=by unfold Hid;rw[hbb];exact HC1.out
 clear hbb
 go_cut [23] from 7 to 22 (λs23 wc=>s23=.bool false/\wc=w)
 case first=>
  by_cases e48:b0=48
  ·subst e48
   have h1n:¬(1:Int)<n:=by have:=HC1.out;omega
   go_wp2
   go_meet
   exact⟨by first|rfl|simp;omega,rfl⟩
  ·have e48':((b0:Int)==48)=false:=by simp;omega
   go_wp2
   go_meet
   exact⟨by first|rfl|simp;omega,rfl⟩
 case rest=>
 obtain⟨rfl,hwc⟩:=hcut
 subst hwc
 clear hb0 h1
 go_wp2
 go_loopw [4,26] (λs3 s4 wr=>∃k:Nat,k<=n/\s4=.int .i64 k/\s3=.int .i64 (vTo s k)/\Hid (Vq (dgB s) k)/\Hid (Nx wc wr)) (λ_ i _=>n-(intOf i).toNat)
 case atStart=>exact⟨0,Nat.zero_le _,rfl,rfl,Jh _,Nx.refl _⟩
 obtain⟨k,hkn,rfl,rfl,HA,HX⟩:=hrel
 by_cases hlt:k<n
 ·have hlt':(k:Int)<n:=by omega
  have hbk:∀h:k<s.size,(s[k]'h).toNat=bt s k:=λh=>Qd6 h
  have hb256:=bt_lt s k
  have HNO:Hid (dgB s k=false->-1=V9 s):=Qb4 HN.out HC0.out HCX.out hlt
  have HVS:Hid (vTo s (k+1)=vTo s k*10+((bt s k:Int)-48)):=rfl
  have HDD:Hid (dgB s k=(decide (48<=bt s k)&&decide (bt s k<=57))):=rfl
  have hvi:=Q4q (s:=s) (k:=k) (by omega) HA.out
  generalize bt s k=b at *
  generalize vTo s k=v at *
  by_cases g1:b<48
  ·have d1:decide ((b:Int)<48)=true:=by simp;omega
   have d1':(b:Int)<48:=by omega
   have HF:Hid (-1=V9 s):=HNO.out (by rw[HDD.out,decide_eq_false (by omega)];rfl)
   go_wp2
   go_ret2
   exact⟨by rw[<-HF.out];rfl,HX.out⟩
  have d1:decide ((b:Int)<48)=false:=by simp;omega
  have d1':¬(b:Int)<48:=by omega
  by_cases g2:57<b
  ·have d2:decide ((57:Int)<(b:Int))=true:=by simp;omega
   have d2':(57:Int)<(b:Int):=by omega
   have HF:Hid (-1=V9 s):=HNO.out (by rw[HDD.out,decide_eq_false (show ¬b<=57 by omega)];simp)
   go_wp2
   go_ret2
   exact⟨by rw[<-HF.out];rfl,HX.out⟩
  have d2:decide ((57:Int)<(b:Int))=false:=by simp;omega
  have d2':¬(57:Int)<(b:Int):=by omega
  have HD:Hid (dgB s k=true):=by unfold Hid;rw[HDD.out,decide_eq_true (show 48<=b by omega),decide_eq_true (show b<=57 by omega)];rfl
  have w1:IntKind.u8.wrap ((b:Int)-48)=(b:Int)-48:=by simp[IntKind.wrap,IntKind.signed,IntKind.bits];omega
  have w2:IntKind.i64.wrap (v*10)=v*10:=by rw[IntKind.wrap_i64];omega
  have w3:IntKind.i64.wrap (v*10+((b:Int)-48))=v*10+((b:Int)-48):=by rw[IntKind.wrap_i64];omega
  have w4:IntKind.i64.wrap ((b:Int)-48)=(b:Int)-48:=by rw[IntKind.wrap_i64];omega
  clear HNO
  go_wp2
  go_roundw
  case rel=>exact⟨k+1,by omega,by go_num,by rw[HVS.out],Qv HA.out HD.out,HX⟩
  case measure=>simp[intOf];omega
 have ek:k=n:=by omega
 subst ek
 have HE:=Q0 (Q15 HN.out HC0.out HCX.out HA.out)
 have hv0:=(Q4q (s:=s) (k:=k) (by have:=HC0.out;omega) HA.out).1
 generalize vTo s k=v at *
 by_cases g:1048576<v
 ·have HF:Hid (-1=V9 s):=by unfold Hid;rw[HE.out,if_pos g]
  go_wp2
  go_ret2
  exact⟨by rw[<-HF.out];rfl,HX.out⟩
 ·have HF:Hid (v=V9 s):=by unfold Hid;rw[HE.out,if_neg g]
  go_wp2
  go_ret2
  exact⟨by rw[<-HF.out,Q1x hv0];rfl,HX.out⟩
def HSr (w:World)(v:Value)(ss:List ByteArray):Prop:=∃a c,v=.slice a ss.length c/\(0<ss.length->∃g off,a=some ⟨g,off,none⟩/\∀i,i<ss.length->w.cell? ⟨g,off+i,none⟩=some (.string (sat ss i)))
theorem HSr.next {w w':World}{v:Value}{ss:List ByteArray}(h:HSr w v ss)(k:Nx w w'):HSr w' v ss:=by
 obtain⟨a,c,e,hk⟩:=h
 refine⟨a,c,e,λhp=>?_⟩
 obtain⟨g,off,ea,hc⟩:=hk hp
 exact⟨g,off,ea,λi hi=>Qf k (hc i hi)⟩
theorem J2.hsr {C:Nat}{w:World}{v:Value}{ss:List ByteArray}(h:J2 C w v ss):HSr w v ss:=by
 obtain⟨a,c,rfl⟩:=Q3 h
 refine⟨a,c,rfl,λhp=>?_⟩
 obtain⟨g,ea,-,-,-⟩:=J2.at h (i:=0) hp
 refine⟨g,0,ea,λi hi=>?_⟩
 obtain⟨g',ea',-,-,hc⟩:=J2.at h (i:=i) hi
 have e:g=g':=by rw[ea] at ea';simpa using ea'
 rw[e,Nat.zero_add];exact hc
def Zp (ss:List ByteArray):Bool:=ss.all λs=>decide (0<=V9 s)
theorem Q5c {ss:List ByteArray}{i:Nat}(hi:i<ss.length)(h:V9 (sat ss i)<0):Zp ss=false:=by
 unfold Zp
 rw[List.all_eq_false]
 refine⟨sat ss i,?_,by simpa using h⟩
 have e:sat ss i=ss[i]:=by simp[sat,List.getD,hi]
 rw[e];exact List.getElem_mem hi
theorem Q1t {ss:List ByteArray}(h:∀i,i<ss.length->0<=V9 (sat ss i)):Zp ss=true:=by
 unfold Zp
 rw[List.all_eq_true]
 intro x hx
 obtain⟨i,hi,rfl⟩:=List.mem_iff_getElem.1 hx
 have e:sat ss i=ss[i]:=by simp[sat,List.getD,hi]
 have:=h i hi
 rw[e] at this
 simpa using this
theorem Q81 {ss:List ByteArray}{k:Nat}(hk:k<ss.length):(vsL ss).take (k+1)=(vsL ss).take k++[V9 (sat ss k)]:=by
 have e:sat ss k=ss[k]:=by simp[sat,List.getD,hk]
 rw[List.take_add_one,List.getElem?_eq_getElem (by rw[Vi];exact hk),e]
 simp[vsL]
def NmsR (w w':World)(ss:List ByteArray)(e:Ending):Prop:=(Zp ss=true/\∃v,e=.returned (.tuple #[v,.bool true])/\Qb w.heap.size w' v (vsL ss))\/(Zp ss=false/\e=.returned (.tuple #[.slice none 0 0,.bool false]))
theorem Q9d {w w':World}(h:w.grownBy w' none):Nx w w':=Chg.below (S:=λ_=>False) (Chg.grown h (λb e=>by simp at e)) (Nat.le_refl _) (λx hx=>hx.elim)
theorem Q0f (a:Option Addr)(n c:Nat)(ss:List ByteArray)(w:World)(h:HSr w (.slice a n c) ss)(hs:∀i,i<ss.length->(sat ss i).size<=300000)(hl:n<=300001) :
  Calls Tryz.prog 120 #[.slice a n c] w λe w'=>NmsR w w' ss e/\Nx w w':=by
 obtain⟨a',c',ev,hk⟩:=h
 simp only[Value.slice.injEq] at ev
 obtain⟨rfl,hn,rfl⟩:=ev
 have HN:Hid (ss.length=n):=hn.symm
 have HK:Hid (0<n->∃g off,a=some ⟨g,off,none⟩/\∀i,i<n->w.cell? ⟨g,off+i,none⟩=some (.string (sat ss i))):=by rw[hn];exact hk
 have HS:Hid (∀i,i<n->(sat ss i).size<=300000):=by rw[hn];exact hs
 clear hn hk hs
 obtain⟨ii,hi1,hi2,hi3,hi4⟩:=info_parts Zt
 go_enter Tryz.func120,Tryz.ntmps120
 go_wp2_with (at_make;refine wpList_make_own _ rfl _ _ 23 rfl w.heap.size _ ii _ 1 Tryz.underlying23 hi1 hi2 hi3 .i64 .i64 (n:Int) n rfl rfl rfl (by rw[hi4];omega) (by unfold maxLen;omega) (Nat.le_refl _) ?_)
 intro w1 r1 r2
 have HO1:Hid (Qb w.heap.size w1 (.slice (some ⟨w.heap.size,0,none⟩) 0 n) []):=r1
 have HX1:Hid (Nx w w1):=Q9d r2
 clear r1 r2 hi1 hi2 hi3 hi4
 go_wp2
 go_loopw [4,14] (λs4 s14 wr=>∃(k c4:Nat) (a4:Option Addr),k<=n/\s14=.int .i64 k/\s4=.slice a4 k c4/\Hid (Qb w.heap.size wr (.slice a4 k c4) ((vsL ss).take k))/\Hid (∀j,j<k->0<=V9 (sat ss j))/\Hid (Nx w wr)) (λ_ i _=>n-(intOf i).toNat)
 case atStart=>exact⟨0,n,_,Nat.zero_le _,rfl,rfl,HO1,λj hj=>absurd hj (Nat.not_lt_zero _),HX1⟩
 clear HO1 HX1 w1
 obtain⟨k,c4,a4,hkn,rfl,rfl,HO,HA,HX⟩:=hrel
 by_cases hlt:k<n
 ·have hlt':(k:Int)<(n:Int):=by omega
  obtain⟨g,off,ea,hc⟩:=HK.out (by omega)
  subst ea
  have xk:=Qf HX.out (hc k hlt)
  have hsk:=HS.out k hlt
  clear hc
  have HTK:=Q0 (Q81 (ss:=ss) (k:=k) (by rw[HN.out];exact hlt))
  have HNO:Hid (V9 (sat ss k)<0->Zp ss=false):=λhv=>Q5c (by rw[HN.out];exact hlt) hv
  have HAK:Hid (0<=V9 (sat ss k)->∀j,j<k+1->0<=V9 (sat ss j)):=λh0 j hj=>by
   by_cases e:j=k
   ·subst e;exact h0
   ·exact HA.out j (by omega)
  have htl:((vsL ss).take k).length=k:=by rw[List.length_take,Vi,HN.out];omega
  have HTL:Hid (((vsL ss).take k).length=k):=htl
  clear htl
  go_wp2_with fail
  refine(Gy (sat ss k) wr (by omega)).mono ?_
  rintro e w2 ⟨rfl,hx⟩
  have HO2:Hid (Qb w.heap.size w2 (.slice a4 k c4) ((vsL ss).take k)):=Qp HO.out hx
  have HX2:=Q0 (HX.out.trans hx)
  clear hx HO HX xk hsk
  generalize V9 (sat ss k)=z at *
  by_cases hz:z<0
  ·rw[Qbr hz]
   have HF:Hid (Zp ss=false):=HNO.out hz
   go_wp2
   go_ret2
   exact⟨Or.inr ⟨HF.out,rfl⟩,HX2.out⟩
  ·rw[Q1x (Int.not_lt.1 hz)]
   have hzz:w.heap.size<=w2.heap.size:=HX2.out.size
   have HA2:=Q0 (HAK.out (Int.not_lt.1 hz))
   clear HAK HNO HA
   go_wp2_with (at_builtin;refine Xb rfl _ _ rfl w.heap.size k (.slice a4 k c4) ((vsL ss).take k) z w2 rfl HO2.out rfl HTL.out (by omega) hzz ?_)
   intro a5 c5 w5 r1 r2 r3
   have HO5:Hid (Qb w.heap.size w5 (.slice a5 (k+1) c5) ((vsL ss).take (k+1))):=by unfold Hid;rw[HTK.out];exact r1
   have HX5:Hid (Nx w w5):=Below.trans HX2.out (r2.below hzz (λx hx=>(Ql HO2.out x hx.symm).1))
   clear r1 r2 r3 HO2 HX2 HTK HTL
   go_wp2
   go_roundw
   case rel=>exact⟨k+1,c5,a5,by omega,by go_num,rfl,HO5,HA2,HX5⟩
   case measure=>simp[intOf];omega
 have ek:k=n:=by omega
 subst ek
 have HOK:Hid (Zp ss=true):=Q1t (λi hi=>HA.out i (by rw[HN.out] at hi;exact hi))
 have HOF:Hid (Qb w.heap.size wr (.slice a4 k c4) (vsL ss)):=by
  have h:=HO.out
  rw[List.take_of_length_le (by rw[Vi,HN.out];exact Nat.le_refl _)] at h
  exact h
 go_wp2
 go_ret2
 exact⟨Or.inl ⟨HOK.out,_,rfl,HOF.out⟩,HX.out⟩
abbrev Nm:=Int×Int×Int
def Xn (x:Nm):List Value:=[.int .i64 x.1,.int .i64 x.2.1,.int .i64 x.2.2]
def Y9 (C:Nat)(w:World)(v:Value)(l:List Nm):Prop:=w.ownsRow C 132 3 v l.length (l.flatMap Xn)
abbrev Lv:=Int×Nm×List Nm×Value
def lvL (x:Lv):List Value:=[.int .i64 x.1,.int .i64 x.2.1.1,.int .i64 x.2.1.2.1,.int .i64 x.2.1.2.2,x.2.2.2]
def Ap (a b:Value×List Int):Prop:=∀g,a.1.ownBlock=some g->b.1.ownBlock≠some g
structure RM (w0 w:World)(rb:Nat)(vN vW vR vT:Value)(u line:Int)(vL:Value)(ns:List Int)(ws:List Wv)(rs:List Rv)(ts:List Tn)(ls:List Lv)(ir:List (Value×List Int)):Prop where
 nx:Chg (λx=>x=rb) w0 w
 bx:BT w rb #[vN,vW,vR,vT,.int .i64 u,.int .i64 line,vL] 95
 n:Qb w0.heap.size w vN ns
 wy:w.ownsRow w0.heap.size 45 4 vW ws.length (ws.flatMap wvL)
 rl:w.ownsRow w0.heap.size 48 7 vR rs.length (rs.flatMap rvL)
 tn:w.ownsRow w0.heap.size 51 3 vT ts.length (ts.flatMap Je)
 ln:w.ownsRow w0.heap.size 135 5 vL ls.length (ls.flatMap lvL)
 us:∀x∈ls,Y9 w0.heap.size w x.2.2.2 x.2.2.1
 ri:∀r∈ir,Qb w0.heap.size w r.1 r.2
 ap:((vN,ns)::ir).Pairwise Ap
section
variable {w0 w w' wx:World}{rb:Nat}{vN vW vR vT vL:Value}{u line:Int}{ns:List Int}{ws:List Wv}{rs:List Rv}{ts:List Tn}{ls:List Lv}{ir:List (Value×List Int)}
theorem RM.next (h:RM w0 w rb vN vW vR vT u line vL ns ws rs ts ls ir)(k:Nx w w'):RM w0 w' rb vN vW vR vT u line vL ns ws rs ts ls ir:=
 ⟨h.nx.trans (Chg.nx k),h.bx.next k,Qp h.n k,Qp h.wy k,Qp h.rl k,Qp h.tn k,Qp h.ln k,λx hx=>Qp (h.us x hx) k,λr hr=>Qp (h.ri r hr) k,h.ap⟩
theorem RM.nxg (h:RM w0 w rb vN vW vR vT u line vL ns ws rs ts ls ir){t sz n:Nat}{v:Value}{xs:List Value}(hr:w.ownsRow w0.heap.size t sz v n xs)(hc:Chg (λx=>some x=v.ownBlock) w w'):Chg (λx=>x=rb) w0 w':=
 h.nx.young hc (λx hx hl=>by have:=(Ql hr x hx.symm).1;omega)
theorem RM.set (h:RM w0 w rb vN vW vR vT u line vL ns ws rs ts ls ir)(i:Nat)(x:Value):Chg (λy=>y=rb) w0 (w.setCell ⟨rb,i,none⟩ x)/\BT (w.setCell ⟨rb,i,none⟩ x) rb ((#[vN,vW,vR,vT,.int .i64 u,.int .i64 line,vL]:Array Value).setIfInBounds i x) 95/\(∀{C t sz n:Nat}{v:Value}{xs:List Value},95≠t->w.ownsRow C t sz v n xs->(w.setCell ⟨rb,i,none⟩ x).ownsRow C t sz v n xs):=
 ⟨h.nx.trans (Chg.set _ _ _ rfl),h.bx.set i x,λht k=>Q2 k h.bx ht i x⟩
theorem RM.setLine (h:RM w0 w rb vN vW vR vT u line vL ns ws rs ts ls ir)(l:Int):RM w0 (w.setCell ⟨rb,5,none⟩ (.int .i64 l)) rb vN vW vR vT u l vL ns ws rs ts ls ir:=by
 obtain⟨h1,h2,h3⟩:=h.set 5 (.int .i64 l)
 exact⟨h1,h2,h3 (by decide) h.n,h3 (by decide) h.wy,h3 (by decide) h.rl,h3 (by decide) h.tn,h3 (by decide) h.ln,λx hx=>h3 (by decide) (h.us x hx),λr hr=>h3 (by decide) (h.ri r hr),h.ap⟩
theorem RM.setU (h:RM w0 w rb vN vW vR vT u line vL ns ws rs ts ls ir)(l:Int):RM w0 (w.setCell ⟨rb,4,none⟩ (.int .i64 l)) rb vN vW vR vT l line vL ns ws rs ts ls ir:=by
 obtain⟨h1,h2,h3⟩:=h.set 4 (.int .i64 l)
 exact⟨h1,h2,h3 (by decide) h.n,h3 (by decide) h.wy,h3 (by decide) h.rl,h3 (by decide) h.tn,h3 (by decide) h.ln,λx hx=>h3 (by decide) (h.us x hx),λr hr=>h3 (by decide) (h.ri r hr),h.ap⟩
theorem RM.addRows (h:RM w0 w rb vN vW vR vT u line vL ns ws rs ts ls ir){rs':List (Value×List Int)}(hr:∀r∈rs',Qb w0.heap.size w r.1 r.2)(hp:rs'.Pairwise Ap)(hx:∀a∈(vN,ns)::ir,∀b∈rs',Ap a b):RM w0 w rb vN vW vR vT u line vL ns ws rs ts ls (ir++rs'):=
 ⟨h.nx,h.bx,h.n,h.wy,h.rl,h.tn,h.ln,h.us,λr k=>by rcases List.mem_append.1 k with k|k;exact h.ri r k;exact hr r k,by rw[<-List.cons_append];exact List.pairwise_append.2 ⟨h.ap,hp,hx⟩⟩
theorem RM.rlt (h:RM w0 w rb vN vW vR vT u line vL ns ws rs ts ls ir):∀a∈(vN,ns)::ir,∀g,a.1.ownBlock=some g->g<w.heap.size:=λa ha g hg=>by
 rcases List.mem_cons.1 ha with e|k
 ·subst e;exact(Ql h.n g hg).2
 ·exact(Ql (h.ri a k) g hg).2
theorem RM.growN (h:RM w0 w rb vN vW vR vT u line vL ns ws rs ts ls ir){v':Value}{z:Int}(r1:Qb w0.heap.size wx v' (ns++[z]))(r2:Chg (λx=>some x=vN.ownBlock) w wx)(r3:∀g,v'.ownBlock=some g->vN.ownBlock=some g\/w.heap.size<=g):BT wx rb #[vN,vW,vR,vT,.int .i64 u,.int .i64 line,vL] 95/\RM w0 (wx.setCell ⟨rb,0,none⟩ v') rb v' vW vR vT u line vL (ns++[z]) ws rs ts ls ir:=by
 have hp:=List.pairwise_cons.1 h.ap
 have hb:BT wx rb #[vN,vW,vR,vT,.int .i64 u,.int .i64 line,vL] 95:=h.bx.row h.n (by decide) r2
 refine⟨hb,⟨(h.nxg h.n r2).trans (Chg.set _ _ _ rfl),hb.set 0 v',Q2 r1 hb (by decide) _ _,Q2 (Q4 h.wy h.n (by decide) r2) hb (by decide) _ _,Q2 (Q4 h.rl h.n (by decide) r2) hb (by decide) _ _,Q2 (Q4 h.tn h.n (by decide) r2) hb (by decide) _ _,Q2 (Q4 h.ln h.n (by decide) r2) hb (by decide) _ _,λx hx=>Q2 (Q4 (h.us x hx) h.n (by decide) r2) hb (by decide) _ _,λr hr=>Q2 (Jm (h.ri r hr) r2 (λg hg e=>hp.1 r hr g (Eq.symm e) hg)) hb (by decide) _ _,List.pairwise_cons.2 ⟨λr hr g hg e=>?_,hp.2⟩⟩⟩
 rcases r3 g hg with k|k
 ·exact hp.1 r hr g k e
 ·have:=(Ql (h.ri r hr) g e).2
  omega
theorem RM.growW (h:RM w0 w rb vN vW vR vT u line vL ns ws rs ts ls ir){v':Value}{y:Wv}(r1:wx.ownsRow w0.heap.size 45 4 v' (ws++[y]).length ((ws++[y]).flatMap wvL))(r2:Chg (λx=>some x=vW.ownBlock) w wx):BT wx rb #[vN,vW,vR,vT,.int .i64 u,.int .i64 line,vL] 95/\RM w0 (wx.setCell ⟨rb,1,none⟩ v') rb vN v' vR vT u line vL ns (ws++[y]) rs ts ls ir:=by
 have hb:BT wx rb #[vN,vW,vR,vT,.int .i64 u,.int .i64 line,vL] 95:=h.bx.row h.wy (by decide) r2
 exact⟨hb,⟨(h.nxg h.wy r2).trans (Chg.set _ _ _ rfl),hb.set 1 v',Q2 (Q4 h.n h.wy (by decide) r2) hb (by decide) _ _,Q2 r1 hb (by decide) _ _,Q2 (Q4 h.rl h.wy (by decide) r2) hb (by decide) _ _,Q2 (Q4 h.tn h.wy (by decide) r2) hb (by decide) _ _,Q2 (Q4 h.ln h.wy (by decide) r2) hb (by decide) _ _,λx hx=>Q2 (Q4 (h.us x hx) h.wy (by decide) r2) hb (by decide) _ _,λr hr=>Q2 (Q4 (h.ri r hr) h.wy (by decide) r2) hb (by decide) _ _,h.ap⟩⟩
theorem RM.growR (h:RM w0 w rb vN vW vR vT u line vL ns ws rs ts ls ir){v':Value}{y:Rv}(r1:wx.ownsRow w0.heap.size 48 7 v' (rs++[y]).length ((rs++[y]).flatMap rvL))(r2:Chg (λx=>some x=vR.ownBlock) w wx):BT wx rb #[vN,vW,vR,vT,.int .i64 u,.int .i64 line,vL] 95/\RM w0 (wx.setCell ⟨rb,2,none⟩ v') rb vN vW v' vT u line vL ns ws (rs++[y]) ts ls ir:=by
 have hb:BT wx rb #[vN,vW,vR,vT,.int .i64 u,.int .i64 line,vL] 95:=h.bx.row h.rl (by decide) r2
 exact⟨hb,⟨(h.nxg h.rl r2).trans (Chg.set _ _ _ rfl),hb.set 2 v',Q2 (Q4 h.n h.rl (by decide) r2) hb (by decide) _ _,Q2 (Q4 h.wy h.rl (by decide) r2) hb (by decide) _ _,Q2 r1 hb (by decide) _ _,Q2 (Q4 h.tn h.rl (by decide) r2) hb (by decide) _ _,Q2 (Q4 h.ln h.rl (by decide) r2) hb (by decide) _ _,λx hx=>Q2 (Q4 (h.us x hx) h.rl (by decide) r2) hb (by decide) _ _,λr hr=>Q2 (Q4 (h.ri r hr) h.rl (by decide) r2) hb (by decide) _ _,h.ap⟩⟩
theorem RM.growT (h:RM w0 w rb vN vW vR vT u line vL ns ws rs ts ls ir){v':Value}{y:Tn}(r1:wx.ownsRow w0.heap.size 51 3 v' (ts++[y]).length ((ts++[y]).flatMap Je))(r2:Chg (λx=>some x=vT.ownBlock) w wx):BT wx rb #[vN,vW,vR,vT,.int .i64 u,.int .i64 line,vL] 95/\RM w0 (wx.setCell ⟨rb,3,none⟩ v') rb vN vW vR v' u line vL ns ws rs (ts++[y]) ls ir:=by
 have hb:BT wx rb #[vN,vW,vR,vT,.int .i64 u,.int .i64 line,vL] 95:=h.bx.row h.tn (by decide) r2
 exact⟨hb,⟨(h.nxg h.tn r2).trans (Chg.set _ _ _ rfl),hb.set 3 v',Q2 (Q4 h.n h.tn (by decide) r2) hb (by decide) _ _,Q2 (Q4 h.wy h.tn (by decide) r2) hb (by decide) _ _,Q2 (Q4 h.rl h.tn (by decide) r2) hb (by decide) _ _,Q2 r1 hb (by decide) _ _,Q2 (Q4 h.ln h.tn (by decide) r2) hb (by decide) _ _,λx hx=>Q2 (Q4 (h.us x hx) h.tn (by decide) r2) hb (by decide) _ _,λr hr=>Q2 (Q4 (h.ri r hr) h.tn (by decide) r2) hb (by decide) _ _,h.ap⟩⟩
theorem RM.growL (h:RM w0 w rb vN vW vR vT u line vL ns ws rs ts ls ir){v':Value}{y:Lv}(r1:wx.ownsRow w0.heap.size 135 5 v' (ls++[y]).length ((ls++[y]).flatMap lvL))(r2:Chg (λx=>some x=vL.ownBlock) w wx)(hy:Y9 w0.heap.size w y.2.2.2 y.2.2.1):BT wx rb #[vN,vW,vR,vT,.int .i64 u,.int .i64 line,vL] 95/\RM w0 (wx.setCell ⟨rb,6,none⟩ v') rb vN vW vR vT u line v' ns ws rs ts (ls++[y]) ir:=by
 have hb:BT wx rb #[vN,vW,vR,vT,.int .i64 u,.int .i64 line,vL] 95:=h.bx.row h.ln (by decide) r2
 exact⟨hb,⟨(h.nxg h.ln r2).trans (Chg.set _ _ _ rfl),hb.set 6 v',Q2 (Q4 h.n h.ln (by decide) r2) hb (by decide) _ _,Q2 (Q4 h.wy h.ln (by decide) r2) hb (by decide) _ _,Q2 (Q4 h.rl h.ln (by decide) r2) hb (by decide) _ _,Q2 (Q4 h.tn h.ln (by decide) r2) hb (by decide) _ _,Q2 r1 hb (by decide) _ _,λx hx=>Q2 (Q4 (C:=w0.heap.size) (t:=132) (sz:=3) (by rcases List.mem_append.1 hx with k|k;exact h.us x k;rw[List.mem_singleton.1 k];exact hy) h.ln (by decide) r2) hb (by decide) _ _,λr hr=>Q2 (Q4 (h.ri r hr) h.ln (by decide) r2) hb (by decide) _ _,h.ap⟩⟩
end
def Yj (w w':World)(code line:Int)(v:Value):Prop:=∃fb,v=.iface 61 (.pointer (some ⟨fb,0,none⟩))/\w.heap.size<=fb/\BT w' fb #[.int .i64 code,.int .i64 line] 65
theorem Jg (rb:Nat)(code line:Int)(cs:Array Value)(w:World)(hb:BT w rb cs 95)(hl:cs[5]?=some (.int .i64 line)) :
  Calls Tryz.prog 83 #[.pointer (some ⟨rb,0,none⟩),.int .i64 code] w λe w'=>(∃v,e=.returned v/\Yj w w' code line v)/\Nx w w':=by
 have x5:w.cell? ⟨rb,5,none⟩=some (.int .i64 line):=hb.blk.cell (i:=5) hl
 go_enter Tryz.func83,Tryz.ntmps83
 go_wp2
 go_ret
 exact⟨⟨_,rfl,_,rfl,Nat.le_refl _,BT.new _ _ _ _ rfl⟩,Qd _ _⟩
theorem Uv (z:Int)(w:World) :
  Calls Tryz.prog 103 #[.int .i64 z] w λe w'=>e=.returned (.agg #[.int .i64 0,.int .i64 z,.int .i64 0])/\Nx w w':=by
 go_enter Tryz.func103,Tryz.ntmps103
 go_wp2
 have hb:BT (w.alloc (.cells #[.int .i64 0,.int .i64 z,.int .i64 0] 132)) w.heap.size #[.int .i64 0,.int .i64 z,.int .i64 0] 132:=BT.new _ _ _ _ rfl
 have hx:Nx w (w.alloc (.cells #[.int .i64 0,.int .i64 z,.int .i64 0] 132)):=Qd _ _
 generalize w.alloc (.cells #[.int .i64 0,.int .i64 z,.int .i64 0] 132)=wF at *
 have p0_:wF.cell? ⟨w.heap.size,0,none⟩=some (.int .i64 0):=hb.blk.cell (i:=0) rfl
 have p1_:wF.cell? ⟨w.heap.size,1,none⟩=some (.int .i64 z):=hb.blk.cell (i:=1) rfl
 have p2_:wF.cell? ⟨w.heap.size,2,none⟩=some (.int .i64 0):=hb.blk.cell (i:=2) rfl
 refine bodyPost_ret (v:=.agg #[.int .i64 0,.int .i64 z,.int .i64 0]) (by simp[results,Tryz.results103,go_sem,p0_,p1_,p2_]) rfl ?_
 exact⟨rfl,hx⟩
theorem Y3 (z:Int)(w:World) :
  Calls Tryz.prog 105 #[.int .i64 z] w λe w'=>e=.returned (.agg #[.int .i64 1,.int .i64 z,.int .i64 0])/\Nx w w':=by
 go_enter Tryz.func105,Tryz.ntmps105
 go_wp2
 have hb:BT (w.alloc (.cells #[.int .i64 1,.int .i64 z,.int .i64 0] 132)) w.heap.size #[.int .i64 1,.int .i64 z,.int .i64 0] 132:=BT.new _ _ _ _ rfl
 have hx:Nx w (w.alloc (.cells #[.int .i64 1,.int .i64 z,.int .i64 0] 132)):=Qd _ _
 generalize w.alloc (.cells #[.int .i64 1,.int .i64 z,.int .i64 0] 132)=wF at *
 have p0_:wF.cell? ⟨w.heap.size,0,none⟩=some (.int .i64 1):=hb.blk.cell (i:=0) rfl
 have p1_:wF.cell? ⟨w.heap.size,1,none⟩=some (.int .i64 z):=hb.blk.cell (i:=1) rfl
 have p2_:wF.cell? ⟨w.heap.size,2,none⟩=some (.int .i64 0):=hb.blk.cell (i:=2) rfl
 refine bodyPost_ret (v:=.agg #[.int .i64 1,.int .i64 z,.int .i64 0]) (by simp[results,Tryz.results105,go_sem,p0_,p1_,p2_]) rfl ?_
 exact⟨rfl,hx⟩
theorem Yj.next {w w' w'':World}{code line:Int}{v:Value}(h:Yj w w' code line v)(k:Nx w' w''):Yj w w'' code line v:=by
 obtain⟨fb,e,hl,hb⟩:=h
 exact⟨fb,e,hl,hb.next k⟩
theorem Yj.base {w0 w w':World}{code line:Int}{v:Value}(h:Yj w w' code line v)(k:Nx w0 w):Yj w0 w' code line v:=by
 obtain⟨fb,e,hl,hb⟩:=h
 exact⟨fb,e,Nat.le_trans k.size hl,hb⟩
def RnR (w w':World)(ss:List ByteArray)(line:Int)(e:Ending):Prop:=(Zp ss=true/\∃v,e=.returned (.tuple #[v,.nilIface])/\Qb w.heap.size w' v (vsL ss))\/(Zp ss=false/\∃v,e=.returned (.tuple #[.slice none 0 0,v])/\Yj w w' 8 line v)
theorem Ub (rb:Nat)(line:Int)(cs:Array Value)(a:Option Addr)(n c:Nat)(ss:List ByteArray)(w:World)(hb:BT w rb cs 95)(hl:cs[5]?=some (.int .i64 line))(h:HSr w (.slice a n c) ss)(hs:∀i,i<ss.length->(sat ss i).size<=300000)(hn:n<=300001) :
  Calls Tryz.prog 101 #[.pointer (some ⟨rb,0,none⟩),.slice a n c] w λe w'=>RnR w w' ss line e/\Nx w w':=by
 have HB:=Q0 hb
 have HL:=Q0 hl
 have HH:=Q0 h
 have HS:=Q0 hs
 clear hb hl h hs
 go_enter Tryz.func101,Tryz.ntmps101
 go_wp2_with fail
 refine(Q0f a n c ss w HH.out HS.out hn).mono ?_
 rintro e w1 ⟨hr,hx⟩
 have HX1:=Q0 hx
 have HB1:=Q0 (HB.out.next hx)
 clear hx
 rcases hr with⟨hok,v,rfl,ho⟩|⟨hno,rfl⟩
 ·have HOK:=Q0 hok
  have HO:=Q0 ho
  clear hok ho
  go_wp2
  go_ret2
  exact⟨Or.inl ⟨HOK.out,_,rfl,HO.out⟩,HX1.out⟩
 ·have HNO:=Q0 hno
  clear hno
  go_wp2_with fail
  refine(Jg rb 8 line cs w1 HB1.out HL.out).mono ?_
  rintro e w2 ⟨⟨v,rfl,hf⟩,hx⟩
  have HF:=Q0 (hf.base HX1.out)
  have HX2:=Q0 (HX1.out.trans hx)
  clear hf hx
  go_wp2
  go_ret2
  exact⟨Or.inr ⟨HNO.out,_,rfl,HF.out⟩,HX2.out⟩
theorem Q9s:(Tryz.prog.info? 135).map (λi=>(i.zero,i.size,i.bytes))=some (some (.agg #[.int .i64 0,.int .i64 0,.int .i64 0,.int .i64 0,.slice none 0 0]),5,56):=by kernel_rfl
theorem Q7t {k:Nat}{ops:Array Oper}{o:Oper}{a:Act}{K:Act->World->Prop}{Q:Exit->Act->World->Prop}{E:Prop}(hgd:o.guard=none)(s x:Operand)(ho:o.op=.call { callee:=.builtin .append,args:=#[s,x],argTypes:=#[93,93] })
  (C n:Nat) (v:Value) (l:List Lv) (y:Lv) (w0 W:World) (hW:W=w0.alloc (.cells (lvL y).toArray 135)) (hs:a.eval s=v) (hown:w0.ownsRow C 135 5 v l.length (l.flatMap lvL)) (hx:a.eval x=.slice (some ⟨w0.heap.size,0,none⟩) 1 1) (hn:l.length=n) (h1:∀u∈lvL y,u.oneCell'=true) (hm:n<=1000000) (hC:C<=w0.heap.size)
  (h:∀a' c' w',w'.ownsRow C 135 5 (.slice a' (n+1) c') (l++[y]).length ((l++[y]).flatMap lvL)->Chg (λx=>some x=v.ownBlock) w0 w'->K (a.put o.dst (.slice a' (n+1) c')) w') :
  if Region.wanted o (yielded ops a.tmps)=true then Oper.wpIn Fence.wide k Tryz.prog o a W K Q else E:=by
 subst hn
 refine Jo Q9s Tryz.underlying93 rfl (by decide) (by decide) hgd s x ho C l.length v (l.flatMap lvL) (lvL y) w0 W hW hs hown hx rfl h1 hm hC (λa' c' w' r1 r2 r3=>h a' c' w' ?_ r2)
 rw[List.length_append,List.flatMap_append,List.flatMap_singleton]
 exact r1
theorem Wo (w0:World)(rb:Nat)(vN vW vR vT:Value)(u line:Int)(vL:Value)(ns:List Int)(ws:List Wv)(rs:List Rv)(ts:List Tn)(ls:List Lv)(ir:List (Value×List Int))(w:World)(h:RM w0 w rb vN vW vR vT u line vL ns ws rs ts ls ir)(hl:ls.length<=300001)(nk na nb:Int)(ul:List Nm)(un:Value)(hun:Y9 w0.heap.size w un ul) :
  Calls Tryz.prog 102 #[.pointer (some ⟨rb,0,none⟩),.agg #[.int .i64 nk,.int .i64 na,.int .i64 nb],un] w λe w'=>e=.returned (.tuple #[])/\∃vL',RM w0 w' rb vN vW vR vT u line vL' ns ws rs ts (ls++[(line,(nk,na,nb),ul,un)]) ir:=by
 have hmx:Tryz.prog.follows .mixedOrders=true:=by kernel_rfl
 obtain⟨au,cu,eu⟩:=Q3 hun
 generalize hlu:ul.length=lu at eu
 subst eu
 clear hlu
 obtain⟨aL,cL,eL⟩:=Q3 h.ln
 obtain⟨nL,hnL⟩:∃q,ls.length=q:=⟨_,rfl⟩
 rw[hnL] at eL hl
 subst eL
 have HLN:Hid (ls.length=nL):=hnL
 have hxb:Nx w (w.alloc (.cells #[.int .i64 nk,.int .i64 na,.int .i64 nb] 132)):=Qd _ _
 have HSB:Hid (BT (w.alloc (.cells #[.int .i64 nk,.int .i64 na,.int .i64 nb] 132)) w.heap.size #[.int .i64 nk,.int .i64 na,.int .i64 nb] 132):=BT.new _ _ _ _ rfl
 have HR:=Q0 (h.next hxb)
 have HUN:Hid (Y9 w0.heap.size (w.alloc (.cells #[.int .i64 nk,.int .i64 na,.int .i64 nb] 132)) (.slice au lu cu) ul):=Qp hun hxb
 clear h hun hxb hnL
 go_enter Tryz.func102,Tryz.ntmps102
 go_upto_region 1 with fail
 generalize w.alloc (.cells #[.int .i64 nk,.int .i64 na,.int .i64 nb] 132)=w1 at *
 generalize w.heap.size=sb at *
 go_upto_region 1 with fail
 have hxd:Nx w1 w1.drew:=(Below.refl _ _).drew
 have HD:=Q0 (HR.out.next hxd)
 have HSB2:=Q0 (HSB.out.next hxd)
 have HU2:=Q0 (Qp HUN.out hxd)
 have HSS:Hid ((λq=>q.cell? ⟨rb,6,none⟩=some (.slice aL nL cL)/\q.cell? ⟨rb,5,none⟩=some (.int .i64 line)/\q.cell? ⟨sb,0,none⟩=some (.int .i64 nk)/\q.cell? ⟨sb,1,none⟩=some (.int .i64 na)/\q.cell? ⟨sb,2,none⟩=some (.int .i64 nb)) w1.drew):=⟨Qf hxd (HR.out.bx.blk.cell (i:=6) rfl),Qf hxd (HR.out.bx.blk.cell (i:=5) rfl),Qf hxd (HSB.out.blk.cell (i:=0) rfl),Qf hxd (HSB.out.blk.cell (i:=1) rfl),Qf hxd (HSB.out.blk.cell (i:=2) rfl)⟩
 clear HR hxd HSB HUN
 refine(wpIn_wide (n:=9)).1 ?_
 refine Q9 (c:=16) (S:=λq=>q.cell? ⟨rb,6,none⟩=some (.slice aL nL cL)/\q.cell? ⟨rb,5,none⟩=some (.int .i64 line)/\q.cell? ⟨sb,0,none⟩=some (.int .i64 nk)/\q.cell? ⟨sb,1,none⟩=some (.int .i64 na)/\q.cell? ⟨sb,2,none⟩=some (.int .i64 nb)) hmx (by kernel_rfl) (λhw hcl=>?_)
 generalize w1.drew=wd at *
 refine tq (i:=0) (v:=.pointer (some ⟨rb,0,none⟩)) (λhcl=>?_)
 refine tq (i:=1) (v:=.pointer (some ⟨rb,0,none⟩)) (λhcl=>?_)
 refine tq (i:=2) (v:=.pointer (some ⟨rb,0,none⟩)) (λhcl=>?_)
 refine tq (i:=3) (v:=.pointer (some ⟨rb,6,none⟩)) (λhcl=>?_)
 refine tq (i:=4) (v:=.slice aL nL cL) (λhcl=>?_)
 refine tq (i:=5) (v:=.pointer (some ⟨rb,0,none⟩)) (λhcl=>?_)
 refine tq (i:=6) (v:=.pointer (some ⟨rb,0,none⟩)) (λhcl=>?_)
 refine tq (i:=7) (v:=.pointer (some ⟨rb,5,none⟩)) (λhcl=>?_)
 refine tq (i:=8) (v:=.int .i64 line) (λhcl=>?_)
 refine tq (i:=9) (v:=.agg #[.int .i64 nk,.int .i64 na,.int .i64 nb]) (λhcl=>?_)
 refine tq (i:=10) (v:=.slice au lu cu) (λhcl=>?_)
 refine tq (i:=11) (v:=.agg #[.int .i64 line,.int .i64 nk,.int .i64 na,.int .i64 nb,.slice au lu cu]) (λhcl=>?_)
 refine Q5 (i:=12) (by kernel_rfl) hcl (λhcl=>wpOpIn_step rfl (λK hK=>?_))
 go_simp
 refine hK _ _ ⟨Or.inr ⟨Qf (Qd _ _) HSS.out.1,Qf (Qd _ _) HSS.out.2.1,Qf (Qd _ _) HSS.out.2.2.1,Qf (Qd _ _) HSS.out.2.2.2.1,Qf (Qd _ _) HSS.out.2.2.2.2⟩,?_⟩
 clear hK K
 have hzz:w0.heap.size<=wd.heap.size:=HD.out.nx.size
 refine Q5 (i:=13) (by kernel_rfl) hcl (λhcl=>wpOpIn_step rfl (λK hK=>?_))
 refine Q7t rfl (.tmp 10) (.tmp 18) rfl w0.heap.size nL (.slice aL nL cL) (ls) ((line,(nk,na,nb),ul,.slice au lu cu)) wd _ rfl (by simp[Act.eval]) HD.out.ln (by simp[Act.eval]) HLN.out (by intro u hu;simp[lvL] at hu;rcases hu with rfl|rfl|rfl|rfl|rfl<;>rfl) (by omega) hzz ?_
 intro a1 c1 wx r1 r2
 obtain⟨hbx,hrm⟩:=HD.out.growL r1 r2 HU2.out
 have HBX:=Q0 hbx
 have HRX:=Q0 hrm
 have HSY:Hid ((λq=>q.cell? ⟨rb,6,none⟩=some (.slice aL nL cL)/\q.cell? ⟨rb,5,none⟩=some (.int .i64 line)/\q.cell? ⟨sb,0,none⟩=some (.int .i64 nk)/\q.cell? ⟨sb,1,none⟩=some (.int .i64 na)/\q.cell? ⟨sb,2,none⟩=some (.int .i64 nb)) wx):=⟨HBX.out.blk.cell (i:=6) rfl,HBX.out.blk.cell (i:=5) rfl,(HSB2.out.row HD.out.ln (by decide) r2).blk.cell (i:=0) rfl,(HSB2.out.row HD.out.ln (by decide) r2).blk.cell (i:=1) rfl,(HSB2.out.row HD.out.ln (by decide) r2).blk.cell (i:=2) rfl⟩
 clear HSS
 have HSS:=HSY
 clear HSY
 refine hK _ _ ⟨Or.inr HSS.out,?_⟩
 clear hK K
 clear hrm hbx r1 r2 hzz HD HU2 HSB2
 refine tq (i:=14) (v:=.pointer (some ⟨rb,0,none⟩)) (λhcl=>?_)
 refine tq (i:=15) (v:=.pointer (some ⟨rb,6,none⟩)) (λhcl=>?_)
 have q_:wx.cell? ⟨rb,6,none⟩=some (.slice aL nL cL):=HBX.out.blk.cell (i:=6) rfl
 have f_:=HBX.out.blk.frozen 6
 refine Qk (i:=16) (by kernel_rfl) (wpOpIn_step rfl (λK hK=>?_))
 go_simp
 refine hK _ _ ⟨Or.inl (by decide),?_⟩
 clear hK K
 refine Qi (by kernel_rfl) ?_ _
 clear hw hcl q_ f_ HSS HBX
 generalize wx.setCell ⟨rb,6,none⟩ (.slice a1 (nL+1) c1)=w3 at *
 go_wp2
 exact Great.bodyPost_end0 rfl rfl ⟨rfl,_,HRX.out⟩
structure Px where
 d:De
 no:Int
 vn:Value
 vw:Value
 vr:Value
 un:Value
def Y4 (d:De):Nm:=(d.kind-1,d.a,d.b)
def Yy (d:De):List Nm:=d.nw.map (λx=>(1,x,0))++d.nn.map (λx=>(0,x,0))
def ndP (p:Px):List Int:=if p.d.kind=1 then [p.d.a] else []
def wyP (p:Px):List Wv:=if p.d.kind=2 then [(p.d.way,p.vn,p.vw)] else []
def rlP (p:Px):List Rv:=if p.d.kind=3 then [(p.d.rel,p.vr)] else []
def tnP (p:Px):List Tn:=if p.d.kind=4 then [⟨p.d.a,p.d.b,p.d.cost⟩] else []
def irP (p:Px):List (Value×List Int):=if p.d.kind=2 then [(p.vn,p.d.way.nodes),(p.vw,p.d.way.weights)] else if p.d.kind=3 then [(p.vr,p.d.rel.ways)] else []
def lnP (p:Px):Lv:=(p.no,Y4 p.d,Yy p.d,p.un)
def utO (ps:List Px):Int:=ps.foldl (λu p=>if p.d.kind=5 then p.d.cost else u) 0
def ndO (ps:List Px):List Int:=ps.flatMap ndP
def wyO (ps:List Px):List Wv:=ps.flatMap wyP
def rlO (ps:List Px):List Rv:=ps.flatMap rlP
def tnO (ps:List Px):List Tn:=ps.flatMap tnP
def irO (ps:List Px):List (Value×List Int):=ps.flatMap irP
def lnO (ps:List Px):List Lv:=ps.map lnP
theorem Zh (ps:List Px)(p:Px):utO (ps++[p])=if p.d.kind=5 then p.d.cost else utO ps:=by simp[utO,List.foldl_append]
theorem Ug (ps:List Px)(p:Px):ndO (ps++[p])=ndO ps++ndP p:=by simp[ndO]
theorem Zd (ps:List Px)(p:Px):wyO (ps++[p])=wyO ps++wyP p:=by simp[wyO]
theorem Uc (ps:List Px)(p:Px):rlO (ps++[p])=rlO ps++rlP p:=by simp[rlO]
theorem U9 (ps:List Px)(p:Px):tnO (ps++[p])=tnO ps++tnP p:=by simp[tnO]
theorem Wt (ps:List Px)(p:Px):irO (ps++[p])=irO ps++irP p:=by simp[irO]
theorem Wp (ps:List Px)(p:Px):lnO (ps++[p])=lnO ps++[lnP p]:=by simp[lnO]
theorem Q2c {α:Type}(f:Px->List α)(hf:∀p,(f p).length<=1):∀ps:List Px,(ps.flatMap f).length<=ps.length
 |[]=>Nat.le_refl _
 |p::ps=>by
  have h1:=Q2c f hf ps
  have h2:=hf p
  rw[List.flatMap_cons,List.length_append,List.length_cons]
  omega
theorem Q9k (ps:List Px):(ndO ps).length<=ps.length:=Q2c _ (λp=>by unfold ndP;split<;>simp) ps
theorem Q7v (ps:List Px):(wyO ps).length<=ps.length:=Q2c _ (λp=>by unfold wyP;split<;>simp) ps
theorem Q8q (ps:List Px):(rlO ps).length<=ps.length:=Q2c _ (λp=>by unfold rlP;split<;>simp) ps
theorem Q89 (ps:List Px):(tnO ps).length<=ps.length:=Q2c _ (λp=>by unfold tnP;split<;>simp) ps
theorem Ux (ps:List Px):(lnO ps).length=ps.length:=by simp[lnO]
def RMx (w0 w:World)(rb:Nat)(line:Int)(ps:List Px):Prop:=∃vN vW vR vT vL,RM w0 w rb vN vW vR vT (utO ps) line vL (ndO ps) (wyO ps) (rlO ps) (tnO ps) (lnO ps) (irO ps)
def Tb (w0 w w':World)(rb:Nat)(line:Int)(ps:List Px)(f:List ByteArray)(e:Ending):Prop:=
 (V3 f=0/\e=.returned .nilIface/\∃p:Px,p.d=rdS f/\p.no=line/\RMx w0 w' rb line (ps++[p]))\/(V3 f≠0/\∃v,e=.returned v/\Yj w w' (V3 f) line v/\Nx w w')
theorem Fm {C:Nat}{w:World}{g n c:Nat}{f:List ByteArray}(h:J2 C w (.slice (some ⟨g,0,none⟩) n c) f)(hn:f.length=n)(k m c':Nat)(hk:k+m<=n):HSr w (.slice (some ⟨g,k,none⟩) m c') ((f.drop k).take m):=by
 have hl:((f.drop k).take m).length=m:=by rw[List.length_take,List.length_drop];omega
 refine⟨some ⟨g,k,none⟩,c',by rw[hl],λhp=>⟨g,k,rfl,λi hi=>?_⟩⟩
 rw[hl] at hi
 obtain⟨g',e,-,-,hc⟩:=J2.at h (i:=k+i) (by omega)
 have e':g=g':=by simpa using e
 rw[e']
 have es:sat ((f.drop k).take m) i=sat f (k+i):=by simp[sat,List.getD_eq_getElem?_getD,List.getElem?_drop,hi]
 rw[es];exact hc
theorem Wz {C:Nat}{w:World}{g n c:Nat}{f:List ByteArray}(h:J2 C w (.slice (some ⟨g,0,none⟩) n c) f)(hn:f.length=n)(k c':Nat)(hk:k<=n):HSr w (.slice (some ⟨g,k,none⟩) (n-k) c') (f.drop k):=by
 have h1:=Fm h hn k (n-k) c' (by omega)
 rw[List.take_of_length_le (by rw[List.length_drop];omega)] at h1
 exact h1
theorem Uf {C:Nat}{w:World}{a:Option Addr}{n c:Nat}{f:List ByteArray}(h:J2 C w (.slice a n c) f):n<=c:=by
 obtain⟨h1,h2⟩:=h
 rcases h2 with⟨e,h4⟩|⟨g,cap,cur,e,hg,hh,hc,hm,hs,ht⟩
 ·simp only[Value.slice.injEq] at e
  omega
 ·simp only[Value.slice.injEq] at e
  omega
theorem Yz (f:List ByteArray)(k i:Nat):sat (f.drop k) i=sat f (k+i):=by simp[sat,List.getD_eq_getElem?_getD,List.getElem?_drop]
theorem Q5d {ss:List ByteArray}:Zp ss=true↔∀i,i<ss.length->0<=V9 (sat ss i):=by
 constructor
 ·intro h i hi
  cases hv:decide (V9 (sat ss i)<0) with
  |false=>have:=of_decide_eq_false hv;omega
  |true=>rw[Q5c hi (of_decide_eq_true hv)] at h;cases h
 ·exact Q1t
theorem F9 {f:List ByteArray}:Jp f.length (I9 f)=true↔∀i,i<f.length->I9 f i=true:=by
 unfold Jp
 rw[List.all_eq_true]
 exact⟨λh i hi=>h i (List.mem_range.2 hi),λh i hi=>h i (List.mem_range.1 hi)⟩
theorem Aa {f:List ByteArray}(hw:(sat f 0).toList≠[119,97,121])(hr:Vt (sat f 0)=false)(i:Nat):I9 f (1+i)=decide (0<=V9 (sat f (1+i))):=by
 have e1:((sat f 0).toList==[119,97,121])=false:=by simpa using hw
 have e2:(1+i==0)=false:=by simp
 unfold I9 Q3z
 rw[e1,hr,e2]
 simp
theorem F8 {f:List ByteArray}(hw:(sat f 0).toList≠[119,97,121])(hr:Vt (sat f 0)=false):Jp f.length (I9 f)=Zp (f.drop 1):=by
 rw[Bool.eq_iff_iff,F9,Q5d]
 constructor
 ·intro h i hi
  rw[List.length_drop] at hi
  have:=h (1+i) (by omega)
  rw[Aa hw hr] at this
  rw[Yz];exact of_decide_eq_true this
 ·intro h i hi
  cases i with
  |zero=>rfl
  |succ i=>
   have:=h i (by rw[List.length_drop];omega)
   rw[Yz] at this
   rw[show i+1=1+i by omega,Aa hw hr];exact decide_eq_true this
theorem Q66 {f:List ByteArray}(h:(sat f 0).toList=[110,111,100,101]):V3 f=if f.length≠2 then 6 else if Zp (f.drop 1)=true then 0 else 8:=by
 have hr:Vt (sat f 0)=false:=by unfold Vt;rw[h];rfl
 have hk:=F8 (f:=f) (by rw[h];decide) hr
 unfold V3
 rw[hr,h,hk]
 by_cases e:f.length=2<;>simp[e]
theorem Q2r {f:List ByteArray}(h:(sat f 0).toList=[117,116,117,114,110]):V3 f=if f.length≠2 then 6 else if Zp (f.drop 1)=true then 0 else 8:=by
 have hr:Vt (sat f 0)=false:=by unfold Vt;rw[h];rfl
 have hk:=F8 (f:=f) (by rw[h];decide) hr
 unfold V3
 rw[hr,h,hk]
 by_cases e:f.length=2<;>simp[e]
theorem Q65 {f:List ByteArray}(h:(sat f 0).toList=[116,117,114,110]):V3 f=if f.length≠4 then 6 else if Zp (f.drop 1)=true then 0 else 8:=by
 have hr:Vt (sat f 0)=false:=by unfold Vt;rw[h];rfl
 have hk:=F8 (f:=f) (by rw[h];decide) hr
 unfold V3
 rw[hr,h,hk]
 by_cases e:f.length=4<;>simp[e]
def Jy (f:List ByteArray)(k:Nat):List ByteArray:=(f.drop 1).take (k-1)++f.drop (k+1)
theorem T8 {f:List ByteArray}{k:Nat}(h1:1<=k)(h:k<f.length):(Jy f k).length=f.length-2:=by
 unfold Jy
 rw[List.length_append,List.length_take,List.length_drop,List.length_drop]
 omega
theorem W5 {f:List ByteArray}{k:Nat}(h1:1<=k)(h:k<f.length)(i:Nat):sat (Jy f k) i=if i+1<k then sat f (i+1) else sat f (i+2):=by
 unfold Jy sat
 rw[List.getD_eq_getElem?_getD,List.getElem?_append]
 have e:((f.drop 1).take (k-1)).length=k-1:=by rw[List.length_take,List.length_drop];omega
 rw[e]
 by_cases hi:i<k-1
 ·rw[if_pos hi,if_pos (by omega),List.getElem?_take_of_lt hi,List.getElem?_drop,List.getD_eq_getElem?_getD,Nat.add_comm]
 ·rw[if_neg hi,if_neg (by omega),List.getElem?_drop,List.getD_eq_getElem?_getD,show k+1+(i-(k-1))=i+2 by omega]
theorem Q9c {f:List ByteArray}{k:Nat}(h1:1<=k)(h:k<f.length)(hn:∀i,I9 f i=(i==0||(i==k||decide (0<=V9 (sat f i))))):Jp f.length (I9 f)=Zp (Jy f k):=by
 rw[Bool.eq_iff_iff,F9,Q5d]
 constructor
 ·intro q i hi
  rw[T8 h1 h] at hi
  rw[W5 h1 h]
  split
  ·have:=q (i+1) (by omega)
   rw[hn] at this
   have e1:(i+1==0)=false:=by simp
   have e2:(i+1==k)=false:=by simp;omega
   rw[e1,e2] at this
   simpa using this
  ·have:=q (i+2) (by omega)
   rw[hn] at this
   have e1:(i+2==0)=false:=by simp
   have e2:(i+2==k)=false:=by simp;omega
   rw[e1,e2] at this
   simpa using this
 ·intro q i hi
  rw[hn]
  by_cases e0:i=0
  ·simp[e0]
  by_cases ek:i=k
  ·simp[ek]
  by_cases hik:i<k
  ·have:=q (i-1) (by rw[T8 h1 h];omega)
   rw[W5 h1 h,if_pos (by omega),show i-1+1=i by omega] at this
   simp[this]
  ·have:=q (i-2) (by rw[T8 h1 h];omega)
   rw[W5 h1 h,if_neg (by omega),show i-2+2=i by omega] at this
   simp[this]
theorem Qaj {f:List ByteArray}(h:(sat f 0).toList=[119,97,121]):V3 f=if f.length<6\/f.length%2=1\/204<f.length then 6 else if (sat f 2).toList≠[102]/\(sat f 2).toList≠[98] then 7 else if Zp (Jy f 2)=true then 0 else 8:=by
 have hr:Vt (sat f 0)=false:=by unfold Vt;rw[h];rfl
 by_cases c:f.length<6\/f.length%2=1\/204<f.length
 ·unfold V3
  rw[hr,h,if_pos c]
  simp[c]
 ·have hk:=Q9c (f:=f) (k:=2) (by omega) (by omega) (λi=>by unfold I9 Q3z;rw[h,hr];simp)
  unfold V3
  rw[hr,h,if_neg c,hk]
  simp[c]
theorem Q47 {f:List ByteArray}(h:Vt (sat f 0)=true):V3 f=if f.length<6 then 6 else if (sat f 3).toList≠[97,116]/\(sat f 3).toList≠[98,121] then 7 else if ((sat f 3).toList=[97,116]/\6<f.length)\/((sat f 3).toList=[98,121]/\9<f.length) then 6 else if Zp (Jy f 3)=true then 0 else 8:=by
 have hw:(sat f 0).toList≠[110,111,100,101]/\(sat f 0).toList≠[119,97,121]/\(sat f 0).toList≠[116,117,114,110]/\(sat f 0).toList≠[117,116,117,114,110]:=by
  unfold Vt at h
  rw[Bool.or_eq_true,beq_iff_eq,beq_iff_eq] at h
  rcases h with h|h<;>rw[h]<;>decide
 obtain⟨w1,w2,w3,w4⟩:=hw
 by_cases c:f.length<6
 ·unfold V3
  rw[h,if_pos c]
  simp[c,w1,w2,w3,w4]
 ·have e2:((sat f 0).toList==[119,97,121])=false:=by simpa using w2
  have hk:=Q9c (f:=f) (k:=3) (by omega) (by omega) (λi=>by unfold I9 Q3z;rw[h,e2];simp)
  unfold V3
  rw[h,if_neg c,hk]
  simp[c,w1,w2,w3,w4]
theorem Q0g (w0:World)(rb:Nat)(line:Int)(ps:List Px)(w:World)(h:RMx w0 w rb line ps)(hps:ps.length<=300000)(C g n c:Nat)(f:List ByteArray)(hf:J2 C w (.slice (some ⟨g,0,none⟩) n c) f)(hn:f.length=n)(hn1:n<=300001)(hs:∀i,i<f.length->(sat f i).size<=300000)(hw:(sat f 0).toList=[110,111,100,101]) :
  Calls Tryz.prog 76 #[.pointer (some ⟨rb,0,none⟩),.slice (some ⟨g,0,none⟩) n c] w λe w'=>Tb w0 w w' rb line ps f e:=by
 have hmx:Tryz.prog.follows .mixedOrders=true:=by kernel_rfl
 obtain⟨vN,vW,vR,vT,vL,h⟩:=h
 have HR:=Q0 h
 have HF:=Q0 hf
 have HN:=Q0 hn
 have HS:=Q0 hs
 have HCK:=Q0 (Q66 hw)
 have HW:=Q0 hw
 have hcap:=Uf hf
 have HLL:Hid ((lnO ps).length<=300001):=by unfold Hid;rw[Ux];omega
 clear h hf hs hw
 rw[hn] at HCK
 clear hn
 by_cases h2:n=2
 case neg=>
  have HC:Hid (V3 f=6):=by unfold Hid;rw[HCK.out,if_pos h2]
  have d2:((n:Int) !=2)=true:=by simp;omega
  go_enter Tryz.func76,Tryz.ntmps76
  go_wp2_with fail
  refine(Jg rb 6 line _ w HR.out.bx rfl).mono ?_
  rintro e wr1 ⟨⟨v,rfl,hfl⟩,hx⟩
  have HFL:=Q0 (hfl)
  have HXL:=Q0 (hx)
  clear hfl hx
  go_wp2
  go_ret
  exact Or.inr ⟨by rw[HC.out];decide,_,rfl,by rw[HC.out];exact HFL.out,HXL.out⟩
 subst h2
 rw[if_neg (by simp)] at HCK
 go_enter Tryz.func76,Tryz.ntmps76
 go_wp2_with fail
 refine(Ub rb line _ (some ⟨g,1,none⟩) 1 _ (f.drop 1) w HR.out.bx rfl (Wz HF.out HN.out 1 _ (by omega)) (λi hi=>by rw[Yz];exact HS.out _ (by rw[List.length_drop] at hi;omega)) (by omega)).mono ?_
 rintro e w1 ⟨hr,hx⟩
 rcases hr with⟨hok,v,rfl,ho⟩|⟨hno,v,rfl,fb,rfl,hfb,hfl⟩
 case inr=>
  have HC:Hid (V3 f=8):=by unfold Hid;rw[HCK.out,hno];rfl
  have HFL:Hid (Yj w w1 8 line (.iface 61 (.pointer (some ⟨fb,0,none⟩)))):=⟨fb,rfl,hfb,hfl⟩
  have HXL:=Q0 hx
  clear hx hno hfb hfl
  go_wp2
  go_ret
  exact Or.inr ⟨by rw[HC.out];decide,_,rfl,by rw[HC.out];exact HFL.out,HXL.out⟩
 have HC0:Hid (V3 f=0):=by unfold Hid;rw[HCK.out,hok];rfl
 have HR1:=Q0 (HR.out.next hx)
 obtain⟨gn,cn,csn,ev,hgn,-,hbn,hcn⟩:=ho.open (by rw[Vi,List.length_drop,HN.out];decide)
 have hvl:(vsL (f.drop 1)).length=1:=by rw[Vi,List.length_drop,HN.out]
 rw[hvl] at ev hcn
 subst ev
 have HBN:=Q0 hbn
 have HNE:Hid (∀{v:Value}{k m t:Nat}{xs:List Value},w.ownsRow w0.heap.size t k v m xs->¬(some gn=v.ownBlock)):=λho e=>by have:=(Ql ho gn e.symm).2;omega
 have hrg:rb≠gn:=by have:=HR.out.bx.lt;omega
 have HRG:=Q0 hrg
 have HVA:Hid (∀i,i<1->iat (vsL (f.drop 1)) i=iat (vsL f) (1+i)):=λi hi=>by rw[Xx (by rw[List.length_drop,HN.out];omega),Xx (by rw[HN.out];omega),Yz]
 have HCN:Hid (∀i,i<1->w1.cell? ⟨gn,i,none⟩=some (.int .i64 (iat (vsL f) (1+i)))):=λi hi=>by rw[<-HVA.out i hi];exact hcn i hi
 clear hok hx ho hgn hvl hbn hcn hrg HVA
 have c0:=HCN.out 0 (by decide)
 have HRD:Hid (rdS f=⟨1,iat (vsL f) 1,0,zWy,zRl,0,[],[]⟩):=by unfold Hid rdS;rw[if_pos HW.out]
 clear HCN
 rw[Nat.add_zero] at c0
 generalize iat (vsL f) 1=z at *
 obtain⟨aN,cN,eN⟩:=Q3 HR1.out.n
 obtain⟨nN,hnN⟩:∃q,(ndO ps).length=q:=⟨_,rfl⟩
 have hnl:=Q9k ps
 rw[hnN] at eN hnl
 subst eN
 have HLN:Hid ((ndO ps).length=nN):=hnN
 have HNN:Hid (¬(some gn=(Value.slice aN nN cN).ownBlock)):=HNE.out HR.out.n
 clear hnN HR HNE
 have HCS:Hid (csn[0]?=some (.int .i64 z)):=by
  unfold Hid
  have h:=c0
  have hh:w1.heap[gn]?=some (.cells csn 2 (0,0)):=HBN.out
  unfold World.cell? at h
  simpa [hh] using h
 go_upto_region 6 with fail
 have hxd:Nx w1 w1.drew:=(Below.refl _ _).drew
 have HD:=Q0 (HR1.out.next hxd)
 have HB2:=Q0 (HBN.out.next hxd)
 have HSS:Hid ((λq=>q.cell? ⟨rb,0,none⟩=some (.slice aN nN cN)/\q.cell? ⟨gn,0,none⟩=some (.int .i64 z)) w1.drew):=⟨Qf hxd (HR1.out.bx.blk.cell (i:=0) rfl),Qf hxd (c0)⟩
 clear HR1 hxd c0 HBN
 refine(wpIn_wide (n:=9)).1 ?_
 refine Q9 (c:=14) (S:=λq=>q.cell? ⟨rb,0,none⟩=some (.slice aN nN cN)/\q.cell? ⟨gn,0,none⟩=some (.int .i64 z)) hmx (by kernel_rfl) (λhw hcl=>?_)
 generalize w1.drew=wd at *
 refine tq (i:=0) (v:=.pointer (some ⟨rb,0,none⟩)) (λhcl=>?_)
 refine tq (i:=1) (v:=.pointer (some ⟨rb,0,none⟩)) (λhcl=>?_)
 refine tq (i:=2) (v:=.pointer (some ⟨rb,0,none⟩)) (λhcl=>?_)
 refine tq (i:=3) (v:=.pointer (some ⟨rb,0,none⟩)) (λhcl=>?_)
 refine tq (i:=4) (v:=.pointer (some ⟨rb,0,none⟩)) (λhcl=>?_)
 refine tq (i:=5) (v:=.slice aN nN cN) (λhcl=>?_)
 refine tq (i:=6) (v:=.slice (some ⟨gn,0,none⟩) 1 cn) (λhcl=>?_)
 refine tq (i:=7) (v:=.pointer (some ⟨gn,0,none⟩)) (λhcl=>?_)
 refine tq (i:=8) (v:=.int .i64 z) (λhcl=>?_)
 refine Q5 (i:=9) (by kernel_rfl) hcl (λhcl=>wpOpIn_step rfl (λK hK=>?_))
 go_simp
 refine hK _ _ ⟨Or.inr ⟨Qf (Qd _ _) HSS.out.1,Qf (Qd _ _) HSS.out.2⟩,?_⟩
 clear hK K
 have hzz:w0.heap.size<=wd.heap.size:=HD.out.nx.size
 refine Q5 (i:=10) (by kernel_rfl) hcl (λhcl=>wpOpIn_step rfl (λK hK=>?_))
 refine Xz rfl (.tmp 27) (.tmp 31) rfl w0.heap.size nN (.slice aN nN cN) (ndO ps) (z) wd _ rfl (by simp[Act.eval]) HD.out.n (by simp[Act.eval]) HLN.out (by omega) hzz ?_
 intro a1 c1 wx r1 r2 r3
 obtain⟨hbx,hrm⟩:=HD.out.growN r1 r2 r3
 have HBX:=Q0 hbx
 have HRX:=Q0 hrm
 have HB3:=Q0 (HB2.out.chg r2 HNN.out)
 have HC2:Hid (wx.cell? ⟨gn,0,none⟩=some (.int .i64 z)):=by
  have e1:csn[0]?=some (.int .i64 z):=HCS.out
  exact HB3.out.blk.cell (i:=0) e1
 have HB4:=Q0 (HB3.out.setOther HRG.out.symm 0 (.slice a1 (nN+1) c1))
 have HSY:Hid ((λq=>q.cell? ⟨rb,0,none⟩=some (.slice aN nN cN)/\q.cell? ⟨gn,0,none⟩=some (.int .i64 z)) wx):=⟨HBX.out.blk.cell (i:=0) rfl,HC2.out⟩
 clear HSS
 have HSS:=HSY
 clear HSY
 refine hK _ _ ⟨Or.inr HSS.out,?_⟩
 clear hK K
 clear hrm hbx r1 r2 r3 hzz HD HB2 HB3 HC2
 refine tq (i:=11) (v:=.pointer (some ⟨rb,0,none⟩)) (λhcl=>?_)
 refine tq (i:=12) (v:=.pointer (some ⟨rb,0,none⟩)) (λhcl=>?_)
 refine tq (i:=13) (v:=.pointer (some ⟨rb,0,none⟩)) (λhcl=>?_)
 have q_:wx.cell? ⟨rb,0,none⟩=some (.slice aN nN cN):=HBX.out.blk.cell (i:=0) rfl
 have f_:=HBX.out.blk.frozen 0
 refine Qk (i:=14) (by kernel_rfl) (wpOpIn_step rfl (λK hK=>?_))
 go_simp
 refine hK _ _ ⟨Or.inl (by decide),?_⟩
 clear hK K
 refine Qi (by kernel_rfl) ?_ _
 clear hw hcl q_ f_ HSS HBX
 generalize wx.setCell ⟨rb,0,none⟩ (.slice a1 (nN+1) c1)=w3 at *
 have c0:w3.cell? ⟨gn,0,none⟩=some (.int .i64 z):=HB4.out.blk.cell (i:=0) HCS.out
 go_wp2_with fail
 refine(Uv z w3).mono ?_
 rintro e w4 ⟨rfl,hx⟩
 have HR4:=Q0 (HRX.out.next hx)
 clear hx HRX c0 HB4
 go_wp2_with fail
 refine(Wo w0 rb _ vW vR vT _ line vL _ _ _ _ _ _ w4 HR4.out HLL.out 0 z 0 [] (.slice none 0 0) ⟨rfl,Or.inl ⟨rfl,rfl⟩⟩).mono ?_
 rintro e w5 ⟨rfl,vL',hr5⟩
 have HR5:=Q0 hr5
 clear hr5 HR4
 go_wp2
 go_ret
 refine Or.inl ⟨HC0.out,rfl,⟨rdS f,line,.slice none 0 0,.slice none 0 0,.slice none 0 0,.slice none 0 0⟩,rfl,rfl,.slice a1 (nN+1) c1,vW,vR,vT,vL',?_⟩
 have h5:=HR5.out
 simpa [Zh,Ug,Zd,Uc,U9,Wt,Wp,ndP,wyP,rlP,tnP,irP,lnP,Y4,Yy,HRD.out] using h5
theorem Ed (w0:World)(rb:Nat)(line:Int)(ps:List Px)(w:World)(h:RMx w0 w rb line ps)(hps:ps.length<=300000)(C g n c:Nat)(f:List ByteArray)(hf:J2 C w (.slice (some ⟨g,0,none⟩) n c) f)(hn:f.length=n)(hn1:n<=300001)(hs:∀i,i<f.length->(sat f i).size<=300000)(hw:(sat f 0).toList=[117,116,117,114,110]) :
  Calls Tryz.prog 81 #[.pointer (some ⟨rb,0,none⟩),.slice (some ⟨g,0,none⟩) n c] w λe w'=>Tb w0 w w' rb line ps f e:=by
 have hmx:Tryz.prog.follows .mixedOrders=true:=by kernel_rfl
 obtain⟨vN,vW,vR,vT,vL,h⟩:=h
 have HR:=Q0 h
 have HF:=Q0 hf
 have HN:=Q0 hn
 have HS:=Q0 hs
 have HCK:=Q0 (Q2r hw)
 have HW:=Q0 hw
 have hcap:=Uf hf
 have HLL:Hid ((lnO ps).length<=300001):=by unfold Hid;rw[Ux];omega
 clear h hf hs hw
 rw[hn] at HCK
 clear hn
 by_cases h2:n=2
 case neg=>
  have HC:Hid (V3 f=6):=by unfold Hid;rw[HCK.out,if_pos h2]
  have d2:((n:Int) !=2)=true:=by simp;omega
  go_enter Tryz.func81,Tryz.ntmps81
  go_wp2_with fail
  refine(Jg rb 6 line _ w HR.out.bx rfl).mono ?_
  rintro e wr1 ⟨⟨v,rfl,hfl⟩,hx⟩
  have HFL:=Q0 (hfl)
  have HXL:=Q0 (hx)
  clear hfl hx
  go_wp2
  go_ret
  exact Or.inr ⟨by rw[HC.out];decide,_,rfl,by rw[HC.out];exact HFL.out,HXL.out⟩
 subst h2
 rw[if_neg (by simp)] at HCK
 go_enter Tryz.func81,Tryz.ntmps81
 go_wp2_with fail
 refine(Ub rb line _ (some ⟨g,1,none⟩) 1 _ (f.drop 1) w HR.out.bx rfl (Wz HF.out HN.out 1 _ (by omega)) (λi hi=>by rw[Yz];exact HS.out _ (by rw[List.length_drop] at hi;omega)) (by omega)).mono ?_
 rintro e w1 ⟨hr,hx⟩
 rcases hr with⟨hok,v,rfl,ho⟩|⟨hno,v,rfl,fb,rfl,hfb,hfl⟩
 case inr=>
  have HC:Hid (V3 f=8):=by unfold Hid;rw[HCK.out,hno];rfl
  have HFL:Hid (Yj w w1 8 line (.iface 61 (.pointer (some ⟨fb,0,none⟩)))):=⟨fb,rfl,hfb,hfl⟩
  have HXL:=Q0 hx
  clear hx hno hfb hfl
  go_wp2
  go_ret
  exact Or.inr ⟨by rw[HC.out];decide,_,rfl,by rw[HC.out];exact HFL.out,HXL.out⟩
 have HC0:Hid (V3 f=0):=by unfold Hid;rw[HCK.out,hok];rfl
 have HR1:=Q0 (HR.out.next hx)
 obtain⟨gn,cn,csn,ev,hgn,-,hbn,hcn⟩:=ho.open (by rw[Vi,List.length_drop,HN.out];decide)
 have hvl:(vsL (f.drop 1)).length=1:=by rw[Vi,List.length_drop,HN.out]
 rw[hvl] at ev hcn
 subst ev
 have hrg:rb≠gn:=by have:=HR.out.bx.lt;omega
 have HVA:Hid (∀i,i<1->iat (vsL (f.drop 1)) i=iat (vsL f) (1+i)):=λi hi=>by rw[Xx (by rw[List.length_drop,HN.out];omega),Xx (by rw[HN.out];omega),Yz]
 have HCN:Hid (∀i,i<1->w1.cell? ⟨gn,i,none⟩=some (.int .i64 (iat (vsL f) (1+i)))):=λi hi=>by rw[<-HVA.out i hi];exact hcn i hi
 clear hok hx ho hgn hvl hbn hcn hrg HVA
 have c0:=HCN.out 0 (by decide)
 have HRD:Hid (rdS f=⟨5,0,0,zWy,zRl,iat (vsL f) 1,[],[]⟩):=by
  unfold Hid rdS
  rw[if_neg (by rw[HW.out];decide),if_neg (by rw[HW.out];decide),if_neg (by unfold Vt;rw[HW.out];decide),if_neg (by rw[HW.out];decide)]
 clear HCN
 rw[Nat.add_zero] at c0
 generalize iat (vsL f) 1=z at *
 have q_:w1.cell? ⟨rb,4,none⟩=some (.int .i64 (utO ps)):=HR1.out.bx.blk.cell (i:=4) rfl
 have f_:=HR1.out.bx.blk.frozen 4
 have HR2:=Q0 (HR1.out.setU z)
 clear HR HR1
 go_upto_region 7 with fail
 generalize w1.setCell ⟨rb,4,none⟩ (.int .i64 z)=w2 at *
 clear q_ f_ c0
 go_wp2_with fail
 refine(Wo w0 rb _ vW vR vT _ line vL _ _ _ _ _ _ w2 HR2.out HLL.out 4 0 0 [] (.slice none 0 0) ⟨rfl,Or.inl ⟨rfl,rfl⟩⟩).mono ?_
 rintro e w5 ⟨rfl,vL',hr5⟩
 have HR5:=Q0 hr5
 clear hr5 HR2
 go_wp2
 go_ret
 refine Or.inl ⟨HC0.out,rfl,⟨rdS f,line,.slice none 0 0,.slice none 0 0,.slice none 0 0,.slice none 0 0⟩,rfl,rfl,vN,vW,vR,vT,vL',?_⟩
 have h5:=HR5.out
 simpa [Zh,Ug,Zd,Uc,U9,Wt,Wp,ndP,wyP,rlP,tnP,irP,lnP,Y4,Yy,HRD.out] using h5
theorem Q1q (w:World)(C:Nat)(hC:C<=w.heap.size)(x y:Nm):Y9 C (w.alloc (.cells #[.int .i64 x.1,.int .i64 x.2.1,.int .i64 x.2.2,.int .i64 y.1,.int .i64 y.2.1,.int .i64 y.2.2] 132)) (.slice (some ⟨w.heap.size,0,none⟩) 2 2) [x,y]:=
 ⟨rfl,Or.inr ⟨w.heap.size,2,#[.int .i64 x.1,.int .i64 x.2.1,.int .i64 x.2.2,.int .i64 y.1,.int .i64 y.2.1,.int .i64 y.2.2],rfl,hC,by show(w.heap.push _)[w.heap.size]?=_;simp,Nat.le_refl _,by simp[maxLen],by simp,by simp[Xn]⟩⟩
theorem Q0d (w0:World)(rb:Nat)(line:Int)(ps:List Px)(w:World)(h:RMx w0 w rb line ps)(hps:ps.length<=300000)(C g n c:Nat)(f:List ByteArray)(hf:J2 C w (.slice (some ⟨g,0,none⟩) n c) f)(hn:f.length=n)(hn1:n<=300001)(hs:∀i,i<f.length->(sat f i).size<=300000)(hw:(sat f 0).toList=[116,117,114,110]) :
  Calls Tryz.prog 80 #[.pointer (some ⟨rb,0,none⟩),.slice (some ⟨g,0,none⟩) n c] w λe w'=>Tb w0 w w' rb line ps f e:=by
 have hmx:Tryz.prog.follows .mixedOrders=true:=by kernel_rfl
 obtain⟨vN,vW,vR,vT,vL,h⟩:=h
 have HR:=Q0 h
 have HF:=Q0 hf
 have HN:=Q0 hn
 have HS:=Q0 hs
 have HCK:=Q0 (Q65 hw)
 have HW:=Q0 hw
 have hcap:=Uf hf
 have HLL:Hid ((lnO ps).length<=300001):=by unfold Hid;rw[Ux];omega
 clear h hf hs hw
 rw[hn] at HCK
 clear hn
 by_cases h2:n=4
 case neg=>
  have HC:Hid (V3 f=6):=by unfold Hid;rw[HCK.out,if_pos h2]
  have d2:((n:Int) !=4)=true:=by simp;omega
  go_enter Tryz.func80,Tryz.ntmps80
  go_wp2_with fail
  refine(Jg rb 6 line _ w HR.out.bx rfl).mono ?_
  rintro e wr1 ⟨⟨v,rfl,hfl⟩,hx⟩
  have HFL:=Q0 (hfl)
  have HXL:=Q0 (hx)
  clear hfl hx
  go_wp2
  go_ret
  exact Or.inr ⟨by rw[HC.out];decide,_,rfl,by rw[HC.out];exact HFL.out,HXL.out⟩
 subst h2
 rw[if_neg (by simp)] at HCK
 go_enter Tryz.func80,Tryz.ntmps80
 go_wp2_with fail
 refine(Ub rb line _ (some ⟨g,1,none⟩) 3 _ (f.drop 1) w HR.out.bx rfl (Wz HF.out HN.out 1 _ (by omega)) (λi hi=>by rw[Yz];exact HS.out _ (by rw[List.length_drop] at hi;omega)) (by omega)).mono ?_
 rintro e w1 ⟨hr,hx⟩
 rcases hr with⟨hok,v,rfl,ho⟩|⟨hno,v,rfl,fb,rfl,hfb,hfl⟩
 case inr=>
  have HC:Hid (V3 f=8):=by unfold Hid;rw[HCK.out,hno];rfl
  have HFL:Hid (Yj w w1 8 line (.iface 61 (.pointer (some ⟨fb,0,none⟩)))):=⟨fb,rfl,hfb,hfl⟩
  have HXL:=Q0 hx
  clear hx hno hfb hfl
  go_wp2
  go_ret
  exact Or.inr ⟨by rw[HC.out];decide,_,rfl,by rw[HC.out];exact HFL.out,HXL.out⟩
 have HC0:Hid (V3 f=0):=by unfold Hid;rw[HCK.out,hok];rfl
 have HR1:=Q0 (HR.out.next hx)
 obtain⟨gn,cn,csn,ev,hgn,-,hbn,hcn⟩:=ho.open (by rw[Vi,List.length_drop,HN.out];decide)
 have hvl:(vsL (f.drop 1)).length=3:=by rw[Vi,List.length_drop,HN.out]
 rw[hvl] at ev hcn
 subst ev
 have hrg:rb≠gn:=by have:=HR.out.bx.lt;omega
 have HVA:Hid (∀i,i<3->iat (vsL (f.drop 1)) i=iat (vsL f) (1+i)):=λi hi=>by rw[Xx (by rw[List.length_drop,HN.out];omega),Xx (by rw[HN.out];omega),Yz]
 have HCN:Hid (∀i,i<3->w1.cell? ⟨gn,i,none⟩=some (.int .i64 (iat (vsL f) (1+i)))):=λi hi=>by rw[<-HVA.out i hi];exact hcn i hi
 clear hok hx ho hgn hvl hbn hcn hrg HVA
 have c0:=HCN.out 0 (by decide)
 have c1:=HCN.out 1 (by decide)
 have c2:=HCN.out 2 (by decide)
 have HRD:Hid (rdS f=⟨4,iat (vsL f) 1,iat (vsL f) 2,zWy,zRl,iat (vsL f) 3,[],[iat (vsL f) 1,iat (vsL f) 2]⟩):=by
  unfold Hid rdS
  rw[if_neg (by rw[HW.out];decide),if_neg (by rw[HW.out];decide),if_neg (by unfold Vt;rw[HW.out];decide),if_pos HW.out]
 clear HCN
 simp only[Nat.reduceAdd] at c0 c1 c2
 generalize iat (vsL f) 1=z1 at *
 generalize iat (vsL f) 2=z2 at *
 generalize iat (vsL f) 3=z3 at *
 obtain⟨aT,cT,eT⟩:=Q3 HR1.out.tn
 obtain⟨nT,hnT⟩:∃q,(tnO ps).length=q:=⟨_,rfl⟩
 have hnl:=Q89 ps
 rw[hnT] at eT hnl
 subst eT
 have HLN:Hid ((tnO ps).length=nT):=hnT
 have HWZ:Hid (∀g,(Value.slice aT nT cT).ownBlock=some g->g<w1.heap.size):=λg hg=>(Ql HR1.out.tn g hg).2
 have HRL:Hid (rb<w1.heap.size):=HR1.out.bx.lt
 clear hnT HR
 go_upto_region 6 with fail
 have hxd:Nx w1 w1.drew:=(Below.refl _ _).drew
 have HSS:Hid ((λq=>q.cell? ⟨gn,0,none⟩=some (.int .i64 z1)/\q.cell? ⟨gn,1,none⟩=some (.int .i64 z2)/\q.cell? ⟨gn,2,none⟩=some (.int .i64 z3)) w1.drew):=⟨Qf hxd c0,Qf hxd c1,Qf hxd c2⟩
 have HXD:=Q0 hxd
 clear c0 c1 c2 hxd
 refine(wpIn_wide (n:=9)).1 ?_
 refine Q9 (c:=11) (S:=λq=>q.cell? ⟨gn,0,none⟩=some (.int .i64 z1)/\q.cell? ⟨gn,1,none⟩=some (.int .i64 z2)/\q.cell? ⟨gn,2,none⟩=some (.int .i64 z3)) hmx (by kernel_rfl) (λhw hcl=>?_)
 generalize w1.drew=wd at *
 refine tq (i:=0) (v:=.slice (some ⟨gn,0,none⟩) 3 cn) (λhcl=>?_)
 refine tq (i:=1) (v:=.pointer (some ⟨gn,0,none⟩)) (λhcl=>?_)
 refine tq (i:=2) (v:=.int .i64 z1) (λhcl=>?_)
 refine tq (i:=3) (v:=.slice (some ⟨gn,0,none⟩) 3 cn) (λhcl=>?_)
 refine tq (i:=4) (v:=.pointer (some ⟨gn,1,none⟩)) (λhcl=>?_)
 refine tq (i:=5) (v:=.int .i64 z2) (λhcl=>?_)
 refine tq (i:=6) (v:=.slice (some ⟨gn,0,none⟩) 3 cn) (λhcl=>?_)
 refine tq (i:=7) (v:=.pointer (some ⟨gn,2,none⟩)) (λhcl=>?_)
 refine tq (i:=8) (v:=.int .i64 z3) (λhcl=>?_)
 refine tq (i:=9) (v:=.agg #[.int .i64 z1,.int .i64 z2,.int .i64 z3]) (λhcl=>?_)
 have HTB:Hid (BT (wd.alloc (.cells #[.int .i64 0,.int .i64 0,.int .i64 0] 51)) wd.heap.size #[.int .i64 0,.int .i64 0,.int .i64 0] 51):=BT.new _ _ _ _ rfl
 have HXT:Hid (Nx wd (wd.alloc (.cells #[.int .i64 0,.int .i64 0,.int .i64 0] 51))):=Qd _ _
 refine Q5 (i:=10) (by kernel_rfl) hcl (λhcl=>wpOpIn_step rfl (λK hK=>?_))
 go_simp
 refine hK _ _ ⟨Or.inr ⟨Qf HXT.out HSS.out.1,Qf HXT.out HSS.out.2.1,Qf HXT.out HSS.out.2.2⟩,?_⟩
 clear hK K HSS
 generalize wd.alloc (.cells #[.int .i64 0,.int .i64 0,.int .i64 0] 51)=wt at *
 have HTL:Hid (w1.heap.size<=wd.heap.size):=HXD.out.size
 generalize wd.heap.size=tb at *
 have q0_:wt.cell? ⟨tb,0,none⟩=some (.int .i64 0):=HTB.out.blk.cell (i:=0) rfl
 have f0_:=HTB.out.blk.frozen 0
 have q1_:wt.cell? ⟨tb,1,none⟩=some (.int .i64 0):=HTB.out.blk.cell (i:=1) rfl
 have f1_:=HTB.out.blk.frozen 1
 have q2_:wt.cell? ⟨tb,2,none⟩=some (.int .i64 0):=HTB.out.blk.cell (i:=2) rfl
 have f2_:=HTB.out.blk.frozen 2
 refine Qk (i:=11) (by kernel_rfl) (wpOpIn_step rfl (λK hK=>?_))
 go_simp
 refine hK _ _ ⟨Or.inl (by decide),?_⟩
 clear hK K
 refine Qi (by kernel_rfl) ?_ _
 have HX2:Hid (Nx w1 (((wt.setCell ⟨tb,0,none⟩ (.int .i64 z1)).setCell ⟨tb,1,none⟩ (.int .i64 z2)).setCell ⟨tb,2,none⟩ (.int .i64 z3))):=by
  have h0:Nx w1 wt:=HXD.out.trans HXT.out
  exact Below.setCell (Below.setCell (Below.setCell h0 HTL.out _) HTL.out _) HTL.out _
 have HT2:Hid (BT (((wt.setCell ⟨tb,0,none⟩ (.int .i64 z1)).setCell ⟨tb,1,none⟩ (.int .i64 z2)).setCell ⟨tb,2,none⟩ (.int .i64 z3)) tb #[.int .i64 z1,.int .i64 z2,.int .i64 z3] 51):=((HTB.out.set 0 (.int .i64 z1)).set 1 (.int .i64 z2)).set 2 (.int .i64 z3)
 clear hw hcl q0_ q1_ q2_ f0_ f1_ f2_ HTB HXT HXD
 generalize ((wt.setCell ⟨tb,0,none⟩ (.int .i64 z1)).setCell ⟨tb,1,none⟩ (.int .i64 z2)).setCell ⟨tb,2,none⟩ (.int .i64 z3)=w2 at *
 have HR2:=Q0 (HR1.out.next HX2.out)
 have HNN:Hid (¬(some tb=(Value.slice aT nT cT).ownBlock)):=λe=>by have h1:=HWZ.out tb e.symm;have h2:=HTL.out;omega
 have HTR:Hid (tb≠rb):=by have h1:=HRL.out;have h2:=HTL.out;unfold Hid;omega
 clear HR1 HX2 HWZ HRL HTL
 go_upto_region 7 with fail
 have hxd:Nx w2 w2.drew:=(Below.refl _ _).drew
 have HD:=Q0 (HR2.out.next hxd)
 have HB2:=Q0 (HT2.out.next hxd)
 have HSS:Hid ((λq=>q.cell? ⟨rb,3,none⟩=some (.slice aT nT cT)/\q.cell? ⟨tb,0,none⟩=some (.int .i64 z1)/\q.cell? ⟨tb,1,none⟩=some (.int .i64 z2)/\q.cell? ⟨tb,2,none⟩=some (.int .i64 z3)) w2.drew):=⟨Qf hxd (HR2.out.bx.blk.cell (i:=3) rfl),Qf hxd (HT2.out.blk.cell (i:=0) rfl),Qf hxd (HT2.out.blk.cell (i:=1) rfl),Qf hxd (HT2.out.blk.cell (i:=2) rfl)⟩
 clear HR2 hxd HT2
 refine(wpIn_wide (n:=9)).1 ?_
 refine Q9 (c:=12) (S:=λq=>q.cell? ⟨rb,3,none⟩=some (.slice aT nT cT)/\q.cell? ⟨tb,0,none⟩=some (.int .i64 z1)/\q.cell? ⟨tb,1,none⟩=some (.int .i64 z2)/\q.cell? ⟨tb,2,none⟩=some (.int .i64 z3)) hmx (by kernel_rfl) (λhw hcl=>?_)
 generalize w2.drew=wd at *
 refine tq (i:=0) (v:=.pointer (some ⟨rb,0,none⟩)) (λhcl=>?_)
 refine tq (i:=1) (v:=.pointer (some ⟨rb,0,none⟩)) (λhcl=>?_)
 refine tq (i:=2) (v:=.pointer (some ⟨rb,0,none⟩)) (λhcl=>?_)
 refine tq (i:=3) (v:=.pointer (some ⟨rb,0,none⟩)) (λhcl=>?_)
 refine tq (i:=4) (v:=.pointer (some ⟨rb,3,none⟩)) (λhcl=>?_)
 refine tq (i:=5) (v:=.slice aT nT cT) (λhcl=>?_)
 refine tq (i:=6) (v:=.agg #[.int .i64 z1,.int .i64 z2,.int .i64 z3]) (λhcl=>?_)
 refine Q5 (i:=7) (by kernel_rfl) hcl (λhcl=>wpOpIn_step rfl (λK hK=>?_))
 go_simp
 refine hK _ _ ⟨Or.inr ⟨Qf (Qd _ _) HSS.out.1,Qf (Qd _ _) HSS.out.2.1,Qf (Qd _ _) HSS.out.2.2.1,Qf (Qd _ _) HSS.out.2.2.2⟩,?_⟩
 clear hK K
 have hzz:w0.heap.size<=wd.heap.size:=HD.out.nx.size
 refine Q5 (i:=8) (by kernel_rfl) hcl (λhcl=>wpOpIn_step rfl (λK hK=>?_))
 refine Q7r rfl (.tmp 38) (.tmp 40) rfl w0.heap.size nT (.slice aT nT cT) (tnO ps) (⟨z1,z2,z3⟩) wd _ rfl (by simp[Act.eval]) HD.out.tn (by simp[Act.eval]) HLN.out (by intro u hu;simp[Je] at hu;rcases hu with rfl|rfl|rfl<;>rfl) (by omega) hzz ?_
 intro a1 c1 wx r1 r2
 obtain⟨hbx,hrm⟩:=HD.out.growT r1 r2
 have HBX:=Q0 hbx
 have HRX:=Q0 hrm
 have HB3:=Q0 (HB2.out.chg r2 HNN.out)
 have HB4:=Q0 (HB3.out.setOther HTR.out 3 (.slice a1 (nT+1) c1))
 have HSY:Hid ((λq=>q.cell? ⟨rb,3,none⟩=some (.slice aT nT cT)/\q.cell? ⟨tb,0,none⟩=some (.int .i64 z1)/\q.cell? ⟨tb,1,none⟩=some (.int .i64 z2)/\q.cell? ⟨tb,2,none⟩=some (.int .i64 z3)) wx):=⟨HBX.out.blk.cell (i:=3) rfl,HB3.out.blk.cell (i:=0) rfl,HB3.out.blk.cell (i:=1) rfl,HB3.out.blk.cell (i:=2) rfl⟩
 clear HSS
 have HSS:=HSY
 clear HSY
 refine hK _ _ ⟨Or.inr HSS.out,?_⟩
 clear hK K
 clear hrm hbx r1 r2 hzz HD HB2 HB3
 refine tq (i:=9) (v:=.pointer (some ⟨rb,0,none⟩)) (λhcl=>?_)
 refine tq (i:=10) (v:=.pointer (some ⟨rb,0,none⟩)) (λhcl=>?_)
 refine tq (i:=11) (v:=.pointer (some ⟨rb,3,none⟩)) (λhcl=>?_)
 have q_:wx.cell? ⟨rb,3,none⟩=some (.slice aT nT cT):=HBX.out.blk.cell (i:=3) rfl
 have f_:=HBX.out.blk.frozen 3
 refine Qk (i:=12) (by kernel_rfl) (wpOpIn_step rfl (λK hK=>?_))
 go_simp
 refine hK _ _ ⟨Or.inl (by decide),?_⟩
 clear hK K
 refine Qi (by kernel_rfl) ?_ _
 clear hw hcl q_ f_ HSS HBX
 generalize wx.setCell ⟨rb,3,none⟩ (.slice a1 (nT+1) c1)=w3 at *
 go_upto_region 8 with fail
 have hxd:Nx w3 w3.drew:=(Below.refl _ _).drew
 have HR4:=Q0 (HRX.out.next hxd)
 have HSS:Hid ((λq=>q.cell? ⟨tb,0,none⟩=some (.int .i64 z1)/\q.cell? ⟨tb,1,none⟩=some (.int .i64 z2)) w3.drew):=⟨Qf hxd (HB4.out.blk.cell (i:=0) rfl),Qf hxd (HB4.out.blk.cell (i:=1) rfl)⟩
 clear HRX HB4 hxd
 refine(wpIn_wide (n:=9)).1 ?_
 refine Q9 (c:=13) (S:=λq=>q.cell? ⟨tb,0,none⟩=some (.int .i64 z1)/\q.cell? ⟨tb,1,none⟩=some (.int .i64 z2)) hmx (by kernel_rfl) (λhw hcl=>?_)
 generalize w3.drew=w4 at *
 refine tq (i:=0) (v:=.pointer (some ⟨rb,0,none⟩)) (λhcl=>?_)
 refine tq (i:=1) (v:=.pointer (some ⟨tb,0,none⟩)) (λhcl=>?_)
 refine tq (i:=2) (v:=.int .i64 z1) (λhcl=>?_)
 refine tq (i:=3) (v:=.pointer (some ⟨tb,1,none⟩)) (λhcl=>?_)
 refine tq (i:=4) (v:=.int .i64 z2) (λhcl=>?_)
 refine tq (i:=5) (v:=.agg #[.int .i64 3,.int .i64 z1,.int .i64 z2]) (λhcl=>?_)
 refine tq (i:=6) (v:=.pointer (some ⟨tb,0,none⟩)) (λhcl=>?_)
 refine tq (i:=7) (v:=.int .i64 z1) (λhcl=>?_)
 refine tq (i:=9) (v:=.pointer (some ⟨tb,1,none⟩)) (λhcl=>?_)
 refine tq (i:=10) (v:=.int .i64 z2) (λhcl=>?_)
 refine Q5 (i:=8) (by kernel_rfl) hcl (λhcl=>wpOpIn_step rfl (λK hK=>?_))
 go_simp
 refine⟨trivial,(callsIn_wide.2 (Y3 z1 w4)).mono ?_⟩
 rintro e w5 ⟨rfl,hx6⟩
 have HRn:=Q0 (HR4.out.next hx6)
 have HSn:Hid ((λq=>q.cell? ⟨tb,0,none⟩=some (.int .i64 z1)/\q.cell? ⟨tb,1,none⟩=some (.int .i64 z2)) w5):=⟨Qf hx6 HSS.out.1,Qf hx6 HSS.out.2⟩
 clear HR4 HSS hx6
 have HR4:=HRn
 have HSS:=HSn
 clear HRn HSn
 refine hK _ _ ⟨Or.inr HSS.out,?_⟩
 clear hK K
 refine Q5 (i:=11) (by kernel_rfl) hcl (λhcl=>wpOpIn_step rfl (λK hK=>?_))
 go_simp
 refine⟨trivial,(callsIn_wide.2 (Y3 z2 w5)).mono ?_⟩
 rintro e w6 ⟨rfl,hx6⟩
 have HRn:=Q0 (HR4.out.next hx6)
 have HSn:Hid ((λq=>q.cell? ⟨tb,0,none⟩=some (.int .i64 z1)/\q.cell? ⟨tb,1,none⟩=some (.int .i64 z2)) w6):=⟨Qf hx6 HSS.out.1,Qf hx6 HSS.out.2⟩
 clear HR4 HSS hx6
 have HR4:=HRn
 have HSS:=HSn
 clear HRn HSn
 refine hK _ _ ⟨Or.inr HSS.out,?_⟩
 clear hK K
 have HR6:=HR4
 have HS6:=HSS
 clear HR4 HSS
 refine Q5 (i:=12) (by kernel_rfl) hcl (λhcl=>wpOpIn_step rfl (λK hK=>?_))
 go_simp
 refine hK _ _ ⟨Or.inr ⟨Qf (Qd _ _) HS6.out.1,Qf (Qd _ _) HS6.out.2⟩,?_⟩
 clear hK K HS6
 have HR7:=Q0 (HR6.out.next (Qd w6 (.cells #[.int .i64 1,.int .i64 z1,.int .i64 0,.int .i64 1,.int .i64 z2,.int .i64 0] 132)))
 have HU7:=Q0 (Q1q w6 w0.heap.size HR6.out.nx.size (1,z1,0) (1,z2,0))
 clear HR6
 generalize w6.alloc (.cells #[.int .i64 1,.int .i64 z1,.int .i64 0,.int .i64 1,.int .i64 z2,.int .i64 0] 132)=w7 at *
 generalize w6.heap.size=ub at *
 refine Qk (i:=13) (by kernel_rfl) (wpOpIn_step rfl (λK hK=>?_))
 go_simp
 refine⟨trivial,(callsIn_wide.2 (Wo w0 rb _ _ _ _ _ line vL _ _ _ _ _ _ w7 HR7.out HLL.out 3 z1 z2 [(1,z1,0),(1,z2,0)] (.slice (some ⟨ub,0,none⟩) 2 2) HU7.out)).mono ?_⟩
 rintro e w8 ⟨rfl,vL',hr8⟩
 have HR8:=Q0 hr8
 refine hK _ _ ⟨Or.inl (by decide),?_⟩
 clear hK K hr8 HR7 HU7
 refine Qi (by kernel_rfl) ?_ _
 clear hw hcl
 go_wp2
 go_ret
 refine Or.inl ⟨HC0.out,rfl,⟨rdS f,line,.slice none 0 0,.slice none 0 0,.slice none 0 0,.slice (some ⟨ub,0,none⟩) 2 2⟩,rfl,rfl,vN,vW,vR,.slice a1 (nT+1) c1,vL',?_⟩
 have h8:=HR8.out
 simpa [Zh,Ug,Zd,Uc,U9,Wt,Wp,ndP,wyP,rlP,tnP,irP,lnP,Y4,Yy,HRD.out] using h8
end Go.Proofs.YtmmolhlihhdkcaaGreatDoor
