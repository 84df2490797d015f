import Derived.Test.YtmmolhlihhdkcaaGreatDoorBRC
import Derived.Test.YtmmolhlihhdkcaaGreatDoorBEnN
namespace Go.Proofs.YtmmolhlihhdkcaaGreatDoor
open Go.RowKit Go.Sort
set_option linter.unusedVariables false
set_option maxRecDepth 1000000
set_option maxHeartbeats 16000000
theorem W0 (zs:List Int):(zs.map dcL).flatMap (λy=>32::y)=zs.flatMap nm:=by
 induction zs with
 |nil=>rfl
 |cons z zs ih=>rw[List.map_cons,List.flatMap_cons,List.flatMap_cons,ih];rfl
theorem Qbu (z:Int):lnD (Zv z)++[10]=U0 z:=by
 have e:lnD (Zv z)=[110,111,100,101]++([z].map dcL).flatMap (λy=>32::y):=rfl
 rw[e,W0,U0,V6]
theorem ln_ut (z:Int):(headW++[10])++(lnD (dUt z)++[10])=Pk z:=by
 have e:lnD (dUt z)=[117,116,117,114,110]++([z].map dcL).flatMap (λy=>32::y):=rfl
 rw[e,W0,Pk,V6]
 simp[headW,Fo]
theorem Qbt (x:Tn):lnD (Um x)++[10]=Zy x:=by
 have e:lnD (Um x)=[116,117,114,110]++([x.frm,x.to,x.cost].map dcL).flatMap (λy=>32::y):=rfl
 rw[e,W0,Zy,V6]
theorem Qeb (x:Wy):lnD (Kd x)++[10]=Wg x:=by
 have e:lnD (Kd x)=[119,97,121]++((([x.id].map dcL).flatMap (λy=>32::y))++((32::(if x.both then [98] else [102]))++((iat x.nodes 0::X9 x).map dcL).flatMap (λy=>32::y))):=by
  show[119,97,121]++(dcL x.id::(if x.both then [98] else [102])::(wyV x).map dcL).flatMap (λy=>32::y)=_
  rw[List.flatMap_cons,List.flatMap_cons]
  show _=[119,97,121]++((32::dcL x.id++[])++_)
  rw[List.append_nil]
  rfl
 rw[e,W0,W0,Wg,V6,V6,Q0k,List.flatMap_cons]
 cases x.both<;>simp
theorem Qec (x:Rl):lnD (If x)++[10]=Ud x:=by
 have e:lnD (If x)=(if x.only then [111,110,108,121] else [110,111])++((([x.id,x.frm].map dcL).flatMap (λy=>32::y))++((32::(if x.via then [97,116] else [98,121]))++((rlV x).map dcL).flatMap (λy=>32::y))):=by
  show(if x.only then [111,110,108,121] else [110,111])++(dcL x.id::dcL x.frm::(if x.via then [97,116] else [98,121])::(rlV x).map dcL).flatMap (λy=>32::y)=_
  rw[List.flatMap_cons,List.flatMap_cons,List.flatMap_cons,List.map_cons,List.map_cons,List.map_nil,List.flatMap_cons,List.flatMap_cons,List.flatMap_nil]
  simp
 rw[e,W0,W0,Ud,V6]
 cases hv:x.via with
 |true=>
  rw[if_pos rfl,if_pos rfl,V6,V6,rlV,hv,if_pos rfl]
  simp
 |false=>
  rw[if_neg Bool.false_ne_true,if_neg Bool.false_ne_true,V6,V6,rlV,hv,if_neg Bool.false_ne_true,List.flatMap_append]
  simp
theorem Pu {α:Type}(l:List α)(at':Nat->α)(f:α->List UInt8)(h:∀i (hi:i<l.length),at' i=l[i]):∀k,k<=l.length->Pd (λi=>f (at' i)) k=(l.take k).flatMap f
 |0,_=>rfl
 |k+1,hk=>by
  rw[Pd,Pu l at' f h k (by omega),List.take_add_one,List.getElem?_eq_getElem (by omega),h k (by omega),List.flatMap_append]
  simp
theorem Q86 (N:Nt):txD (Up N)=Fa N:=by
 have a:=Pu N.nodes (iat N.nodes) U0 (λi hi=>V7 hi) N.nodes.length (Nat.le_refl _)
 have b:=Pu N.ways (wat N.ways) Wg (λi hi=>Us hi) N.ways.length (Nat.le_refl _)
 have c:=Pu N.rels (rat N.rels) Ud (λi hi=>Pe hi) N.rels.length (Nat.le_refl _)
 have d:=Pu N.turns (tat N.turns) Zy (λi hi=>Ay hi) N.turns.length (Nat.le_refl _)
 rw[List.take_length] at a b c d
 unfold Fa t4 t3 t2 t1 t0 Gh Ax Q0b G5
 rw[a,b,c,d,<-ln_ut]
 unfold txD Up
 rw[List.flatMap_cons,List.flatMap_append,List.flatMap_append,List.flatMap_append,List.flatMap_map,List.flatMap_map,List.flatMap_map,List.flatMap_map]
 have e1:(λz=>lnD (Zv z)++[10])=U0:=funext Qbu
 have e2:(λz=>lnD (Kd z)++[10])=Wg:=funext Qeb
 have e3:(λz=>lnD (If z)++[10])=Ud:=funext Qec
 have e4:(λz=>lnD (Um z)++[10])=Zy:=funext Qbt
 rw[e1,e2,e3,e4]
 simp only[List.append_assoc]
theorem Q5y {N:Nt}(h:Qn N=true):(Fa N).length<=256024:=by
 have hi:=Q9j h
 have:=Q8e hi N.turns.length (Nat.le_refl _)
 have:=hi.c3
 show(t4 N N.turns.length).length<=_
 omega
theorem Qa5 {N:Nt}(hv:Qn N=true){L:List De}(hp:L.Perm (Up N)):Z0 (txD L)=.ok L/\ntM L=N:=
 Q6z hv (by rw[Q86];have:=Q5y hv;omega) hp
end Go.Proofs.YtmmolhlihhdkcaaGreatDoor
