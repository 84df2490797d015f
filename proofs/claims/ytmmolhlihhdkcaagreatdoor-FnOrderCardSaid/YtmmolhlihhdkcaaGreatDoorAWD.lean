import Derived.Test.YtmmolhlihhdkcaaGreatDoorARC
import Derived.Test.YtmmolhlihhdkcaaGreatDoorAEnN
namespace Go.Proofs.YtmmolhlihhdkcaaGreatDoor
open Go.RowKit Go.Sort
set_option linter.unusedVariables false
set_option maxRecDepth 1000000
set_option maxHeartbeats 16000000
theorem W3 (zs:List Int):(zs.map dcL).flatMap (λy=>32::y)=zs.flatMap nm:=by
 induction zs with
 |nil=>rfl
 |cons z zs ih=>rw[List.map_cons,List.flatMap_cons,List.flatMap_cons,ih];rfl
theorem Qcg (z:Int):lnD (Zy z)++[10]=U2 z:=by
 have e:lnD (Zy z)=[110,111,100,101]++([z].map dcL).flatMap (λy=>32::y):=rfl
 rw[e,W3,U2,Qv]
theorem ln_ut (z:Int):(headW++[10])++(lnD (dUt z)++[10])=Pi z:=by
 have e:lnD (dUt z)=[117,116,117,114,110]++([z].map dcL).flatMap (λy=>32::y):=rfl
 rw[e,W3,Pi,Qv]
 simp[headW,Ad]
theorem Qcd (x:Tn):lnD (Up x)++[10]=Zn x:=by
 have e:lnD (Up x)=[116,117,114,110]++([x.frm,x.to,x.cost].map dcL).flatMap (λy=>32::y):=rfl
 rw[e,W3,Zn,Qv]
theorem Qf1 (x:Wy):lnD (Ke x)++[10]=U8 x:=by
 have e:lnD (Ke x)=[119,97,121]++((([x.id].map dcL).flatMap (λy=>32::y))++((32::(if x.both then [98] else [102]))++((iat x.nodes 0::K5 x).map dcL).flatMap (λy=>32::y))):=by
  show[119,97,121]++(dcL x.id::(if x.both then [98] else [102])::(wyV x).map dcL).flatMap (λy=>32::y)=_
  rw[List.flatMap_cons,List.flatMap_cons]
  show _=[119,97,121]++((32::dcL x.id++[])++_)
  rw[List.append_nil]
  rfl
 rw[e,W3,W3,U8,Qv,Qv,Ka,List.flatMap_cons]
 cases x.both<;>simp
theorem Qf2 (x:Rl):lnD (If x)++[10]=Uf x:=by
 have e:lnD (If x)=(if x.only then [111,110,108,121] else [110,111])++((([x.id,x.frm].map dcL).flatMap (λy=>32::y))++((32::(if x.via then [97,116] else [98,121]))++((rlV x).map dcL).flatMap (λy=>32::y))):=by
  show(if x.only then [111,110,108,121] else [110,111])++(dcL x.id::dcL x.frm::(if x.via then [97,116] else [98,121])::(rlV x).map dcL).flatMap (λy=>32::y)=_
  rw[List.flatMap_cons,List.flatMap_cons,List.flatMap_cons,List.map_cons,List.map_cons,List.map_nil,List.flatMap_cons,List.flatMap_cons,List.flatMap_nil]
  simp
 rw[e,W3,W3,Uf,Qv]
 cases hv:x.via with
 |true=>
  rw[if_pos rfl,if_pos rfl,Qv,Qv,rlV,hv,if_pos rfl]
  simp
 |false=>
  rw[if_neg Bool.false_ne_true,if_neg Bool.false_ne_true,Qv,Qv,rlV,hv,if_neg Bool.false_ne_true,List.flatMap_append]
  simp
theorem Ps {α:Type}(l:List α)(at':Nat->α)(f:α->List UInt8)(h:∀i (hi:i<l.length),at' i=l[i]):∀k,k<=l.length->Pa (λi=>f (at' i)) k=(l.take k).flatMap f
 |0,_=>rfl
 |k+1,hk=>by
  rw[Pa,Ps l at' f h k (by omega),List.take_add_one,List.getElem?_eq_getElem (by omega),h k (by omega),List.flatMap_append]
  simp
theorem Az (N:Nt):txD (Z3 N)=F8 N:=by
 have a:=Ps N.nodes (iat N.nodes) U2 (λi hi=>Jm hi) N.nodes.length (Nat.le_refl _)
 have b:=Ps N.ways (wat N.ways) U8 (λi hi=>Uu hi) N.ways.length (Nat.le_refl _)
 have c:=Ps N.rels (rat N.rels) Uf (λi hi=>Pc hi) N.rels.length (Nat.le_refl _)
 have d:=Ps N.turns (tat N.turns) Zn (λi hi=>Q01 hi) N.turns.length (Nat.le_refl _)
 rw[List.take_length] at a b c d
 unfold F8 t4 t3 t2 t1 t0 Gb Ay Q0e G0
 rw[a,b,c,d,<-ln_ut]
 unfold txD Z3
 rw[List.flatMap_cons,List.flatMap_append,List.flatMap_append,List.flatMap_append,List.flatMap_map,List.flatMap_map,List.flatMap_map,List.flatMap_map]
 have e1:(λz=>lnD (Zy z)++[10])=U2:=funext Qcg
 have e2:(λz=>lnD (Ke z)++[10])=U8:=funext Qf1
 have e3:(λz=>lnD (If z)++[10])=Uf:=funext Qf2
 have e4:(λz=>lnD (Up z)++[10])=Zn:=funext Qcd
 rw[e1,e2,e3,e4]
 simp only[List.append_assoc]
theorem Q6e {N:Nt}(h:Ql N=true):(F8 N).length<=256024:=by
 have hi:=Q9z h
 have:=Q8s hi N.turns.length (Nat.le_refl _)
 have:=hi.c3
 show(t4 N N.turns.length).length<=_
 omega
theorem Qan {N:Nt}(hv:Ql N=true){L:List De}(hp:L.Perm (Z3 N)):Yo (txD L)=.ok L/\ntM L=N:=
 Q7f hv (by rw[Az];have:=Q6e hv;omega) hp
end Go.Proofs.YtmmolhlihhdkcaaGreatDoor
