import Derived.OrdersIn
import Derived.OrdersHeld
import Derived.Laws.World
import Derived.Maps.AppendAt
namespace Go.Proofs.YtphiaobccollhaaGreat
open Go
set_option linter.unusedVariables false
set_option maxHeartbeats 16000000
variable {i:Nat}{v:Value}{a:Act}{w:World}{oi:Oper}
section
variable {F:Fence}{n:Nat}{P:Program}{ops:Array Oper}{Q:Exit->Act->World->Prop}{md:Region.Mode}{S:World->Prop}{c:Nat}
def YF (P:Program)(ops:Array Oper)(S:World->Prop)(o:Oper)(v:Value)(a:Act):Prop:=YieldsIf P ops S o v a/\∀w,o.about P w a.eval=none
def U8 (F:Fence)(ops:Array Oper):Prop:=∀(j:Nat) (o:Oper) (ρ:Operand->Value),ops[j]?=some o->o.semAt F.round ρ=execOp ρ o
theorem Q9 (hro:F.round=none):U8 F ops:=λj o ρ _=>by rw[hro,Oper.semAt_none]
theorem YF.op {o:Oper}(hd:U8 F ops)(hi:ops[i]?=some o)(hy:YF P ops S o v a){K:Act->World->Prop}(hS:S w)(h:K (a.put o.dst v) w):wpOpIn F n P ops Q i K a w:=by
 have ha:∀f,o.about P w a.eval=some f->F.fn f:=λf hf=>by rw[hy.2 w] at hf;cases hf
 unfold wpOpIn
 simp only[hi]
 rcases hy.1 with⟨h1,h2⟩|⟨h1,rfl⟩
 ·simp only[h1,if_true]
  unfold Oper.wpIn
  refine⟨ha,?_⟩
  rw[hd i o _ hi,h2 w hS]
  exact h
 ·simp only[h1,Bool.false_eq_true,if_false]
  exact⟨ha,h⟩
theorem YF.past {j:Nat}{oj:Oper}(hd:U8 F ops)(hj:ops[j]?=some oj)(hap:oi.apart ops oj=true)(hsi:∀cs b,oi.op≠.select cs b)(hsj:∀cs b,oj.op≠.select cs b)(hQ:∀c a w,Q (.panic c) (a.put oi.dst v) w->Q (.panic c) a w){K:Act->World->Prop}(hy:YF P ops S oi v a)(h:wpOpIn F n P ops Q j K (a.put oi.dst v) w) :
  wpOpIn F n P ops Q j (λa' w'=>YF P ops S oi v a'/\K (a'.put oi.dst v) w') a w:=by
 obtain⟨l1,l2,l3⟩:=Oper.apart_spec hap
 have kp:∀a:Act,YF P ops S oi v a->∀u,YF P ops S oi v (a.put oj.dst u):=λa hy u=>⟨hy.1.of_same (execOp_put oi hsi a oj.dst u l3) (wanted_put oi a oj.dst u l3),λw=>by rw[about_put oi w a oj.dst u l3];exact hy.2 w⟩
 have fin:∀u w',K ((a.put oi.dst v).put oj.dst u) w'->YF P ops S oi v (a.put oj.dst u)/\K ((a.put oj.dst u).put oi.dst v) w':=λu w' hk=>⟨kp a hy u,by rw[<-Act.put_comm a v u l2];exact hk⟩
 unfold wpOpIn at h ⊢
 simp only[hj] at h ⊢
 rw[wanted_put oj a oi.dst v l1,about_put oj w a oi.dst v l1] at h
 by_cases hw:Region.wanted oj (yielded ops a.tmps)=true
 ·simp only[hw,if_true] at h ⊢
  unfold Oper.wpIn at h ⊢
  rw[about_put oj w a oi.dst v l1,hd j oj _ hj,execOp_put oj hsj a oi.dst v l1] at h
  rw[hd j oj _ hj]
  refine⟨h.1,?_⟩
  replace h:=h.2
  generalize (execOp a.eval oj).run P w=res at h ⊢
  match res,h with
  |.ok (.value u) w',h=>exact fin u w' h
  |.ok .skip w',h=>exact fin undef w' h
  |.ok (.defer d) w',h=>
   have hyd:YF P ops S oi v { a with defers:=d::a.defers }:=⟨hy.1.of_same rfl rfl,hy.2⟩
   refine⟨kp _ hyd _,?_⟩
   rw[<-Act.put_comm _ v undef l2,<-Act.put_defers]
   exact h
  |.ok (.enter f args) w',h=>
   refine⟨h.1,h.2.mono λe w'' he=>?_⟩
   match e,he with
   |.returned u,he=>exact fin u w'' he
   |.panicked c,he=>exact hQ _ _ _ he
   |.outgrown,he=>exact he
  |.ok (.row row args) w',h=>exact⟨h.1,h.2.mono λu w'' he=>fin u w'' he⟩
  |.ok (.round l f tmps assign body) w',h=>
   refine⟨h.1,h.2.mono λe w'' he=>?_⟩
   match e,he with
   |.returned u,he=>exact fin u w'' he
   |.panicked c,he=>exact hQ _ _ _ he
   |.outgrown,he=>exact he
  |.halt (.panic u) w',h=>exact hQ _ _ _ h
 ·simp only[hw] at h ⊢
  exact⟨h.1,fin undef w h.2⟩
def dps (md:Region.Mode)(ops:Array Oper)(j:Nat):List Nat:=match ops[j]? with
 |some o=>(o.after.toList.filter (λe=>Region.binds md e)).map (·.on)
 |none=>[]
def Cl (md:Region.Mode)(ops:Array Oper)(listed:Array Bool):Prop:=∀k,listed.getD k false=true->∀e∈dps md ops k,listed.getD e false=true
def Qge (md:Region.Mode)(ops:Array Oper):Nat->List Nat->List Nat
 |0,ks=>ks
 |f+1,ks=>ks++Qge md ops f ((ks.flatMap (dps md ops)).eraseDups)
theorem Q80 {listed:Array Bool}(h:Cl md ops listed):∀(f:Nat) (ks:List Nat),(∀k∈ks,listed.getD k false=true)->∀k∈Qge md ops f ks,listed.getD k false=true
 |0,ks,hk,k,hm=>hk k hm
 |f+1,ks,hk,k,hm=>by
  rcases List.mem_append.1 hm with g|g
  ·exact hk k g
  ·refine Q80 h f _ (λx hx=>?_) k g
   obtain⟨y,hy,hxy⟩:=List.mem_flatMap.1 (List.mem_eraseDups.1 hx)
   exact h y (hk y hy) x hxy
def Q50 (md:Region.Mode)(ops:Array Oper)(c:Nat):Bool:=(List.range ops.size).all (λj=>decide (j<c)||(List.range c).all (λi=>(Qge md ops 12 (dps md ops j)).contains i))
def Q1a (md:Region.Mode)(ops:Array Oper)(c:Nat):Prop:=∀listed,Cl md ops listed->∀j,c<=j->j∈Region.ready md ops listed->∀i,i<c->listed.getD i true=true
theorem Qe1 {listed:Array Bool}(h:listed.getD i false=true):listed.getD i true=true:=by
 rw[Array.getD_eq_getD_getElem?] at h ⊢
 cases hl:listed[i]? with
 |none=>rw[hl] at h;simp at h
 |some b=>rw[hl] at h;simpa using h
theorem Q9z (h:Q50 md ops c=true):Q1a md ops c:=by
 intro listed hc j hj hr i hi
 obtain⟨u1,o,u2,u3⟩:=mem_ready.1 hr
 have hlt:=(Array.getElem?_eq_some_iff.1 u2).1
 unfold Q50 at h
 rw[List.all_eq_true] at h
 have h1:=h j (List.mem_range.2 hlt)
 rw[Bool.or_eq_true] at h1
 rcases h1 with h1|h1
 ·simp at h1;omega
 ·rw[List.all_eq_true] at h1
  have h2:=h1 i (List.mem_range.2 hi)
  refine Qe1 (Q80 hc 12 _ (λk hk=>?_) i (by simpa using h2))
  unfold dps at hk
  rw[u2] at hk
  obtain⟨e,he,rfl⟩:=List.mem_map.1 hk
  rw[List.mem_filter] at he
  exact u3 e (by simpa using he.1) he.2
theorem Cl.step {listed:Array Bool}{j:Nat}(h:Cl md ops listed)(hr:j∈Region.ready md ops listed):Cl md ops (listed.setIfInBounds j true):=by
 obtain⟨u1,o,u2,u3⟩:=mem_ready.1 hr
 intro k hk e he
 refine getD_set_true ?_
 by_cases hjk:j=k
 ·subst hjk
  unfold dps at he
  rw[u2] at he
  obtain⟨x,hx,rfl⟩:=List.mem_map.1 he
  rw[List.mem_filter] at hx
  exact u3 x (by simpa using hx.1) hx.2
 ·rw[getD_set_ne false hjk] at hk
  exact h k hk e he
def Vz (F:Fence)(n:Nat)(P:Program)(md:Region.Mode)(ops:Array Oper)(Q:Exit->Act->World->Prop)(S:World->Prop)(c:Nat):Nat->Array Bool->Act->World->Prop
 |0,listed,a,w=>Region.ready md ops listed=[]/\Q .normal a w
 |fuel+1,listed,a,w=>(Region.ready md ops listed=[]->Q .normal a w)/\∀i∈Region.ready md ops listed,wpOpIn F n P ops Q i (λa' w'=>(c<=i\/S w')/\Vz F n P md ops Q S c fuel (listed.setIfInBounds i true) a' w') a w
theorem Aj:∀(fuel:Nat) (listed:Array Bool) (a:Act) (w:World),Vz F n P md ops Q S c fuel listed a w->wpAnyIn F n P md ops Q fuel listed a w
 |0,_,_,_,h=>h
 |fuel+1,_,_,_,h=>⟨h.1,λi hi=>wpOpIn_mono (λa' w' h'=>Aj fuel _ a' w' h'.2) (h.2 i hi)⟩
theorem Q6j (hw:Q1a md ops c)(hic:i<c)(hd:U8 F ops)(hi:ops[i]?=some oi)(hsel:∀(j:Nat) (o:Oper) cs b,ops[j]?=some o->o.op≠.select cs b)(hQ:∀c a w,Q (.panic c) (a.put oi.dst v) w->Q (.panic c) a w)(fuel:Nat):∀(listed:Array Bool) (a:Act) (w:World),Cl md ops listed ->
  (∀j oj,ops[j]?=some oj->j≠i->listed.getD j true=false->(∀e∈oj.after,Region.binds md e=true->e.on≠i)->oi.apart ops oj=true)->i∈Region.ready md ops listed->YF P ops S oi v a->S w ->
  Vz F n P md ops Q S c fuel (listed.setIfInBounds i true) (a.put oi.dst v) w->Vz F n P md ops Q S c (fuel+1) listed a w:=by
 induction fuel with
 |zero=>
  intro listed a w hcl _ hr hy hS H
  refine⟨λh=>absurd hr (by rw[h];simp),λj hj=>?_⟩
  by_cases e:j=i
  ·subst e;exact hy.op hd hi hS ⟨Or.inr hS,H⟩
  ·exact absurd (ready_mono hj e) (by rw[H.1];simp)
 |succ fuel ih=>
  intro listed a w hcl hf hr hy hS H
  refine⟨λh=>absurd hr (by rw[h];simp),λj hj=>?_⟩
  by_cases e:j=i
  ·subst e;exact hy.op hd hi hS ⟨Or.inr hS,H⟩
  obtain⟨u1,oj,u2,u3⟩:=mem_ready.1 hj
  have nw:∀x∈oj.after,Region.binds md x=true->x.on≠i:=by
   intro x hx hb he
   have q1:=u3 x hx hb
   have q0:=(mem_ready.1 hr).1
   rw[he] at q1
   by_cases hl:i<listed.size
   ·simp[hl] at q0 q1
    rw[q0] at q1
    cases q1
   ·simp[Array.getElem?_eq_none (Nat.le_of_not_lt hl)] at q1
  have st:=hy.past hd u2 (hf j oj u2 e u1 nw) (λcs b=>hsel i oi cs b hi) (λcs b=>hsel j oj cs b u2) hQ (H.2 j (ready_mono hj e))
  have hjc:¬c<=j:=λg=>by
   have q1:=hw listed hcl j g hj i hic
   rw[(mem_ready.1 hr).1] at q1
   cases q1
  refine wpOpIn_mono (λa' w' h3=>⟨h3.2.1,ih (listed.setIfInBounds j true) a' w' (hcl.step hj) (λk ok hk hki hun hno=>hf k ok hk hki ?_ hno) (ready_mono hr (Ne.symm e)) h3.1 (h3.2.1.resolve_left hjc) ?_⟩) st
  ·by_cases hjk:j=k
   ·subst hjk;exact u1
   ·rw[getD_set_ne true hjk] at hun;exact hun
  ·rw[Array.setIfInBounds_comm _ _ e]
   exact h3.2.2
theorem Qj (hw:Q1a md ops c)(hic:i<c){fuel:Nat}{listed:Array Bool}(hcl:Cl md ops listed)(hd:U8 F ops)(hi:ops[i]?=some oi)(hs:Region.noSelect ops=true)(hf:Region.free md ops listed i=true)(hr:(Region.ready md ops listed).contains i=true)(hQ:∀c a w,Q (.panic c) (a.put oi.dst v) w->Q (.panic c) a w)(hy:YF P ops S oi v a)(hS:S w)
  (h:Cl md ops (listed.setIfInBounds i true)->Vz F n P md ops Q S c fuel (listed.setIfInBounds i true) (a.put oi.dst v) w):Vz F n P md ops Q S c (fuel+1) listed a w:=
 Q6j hw hic hd hi (Region.noSelect_spec hs) hQ fuel listed a w hcl (Region.free_spec hi hf) (by simpa using hr) hy hS (h (hcl.step (by simpa using hr)))
theorem Qh {fuel:Nat}{listed:Array Bool}(hr:Region.ready md ops listed=[i])(h:wpOpIn F n P ops Q i (λa' w'=>(c<=i\/S w')/\Vz F n P md ops Q S c fuel (listed.setIfInBounds i true) a' w') a w):Vz F n P md ops Q S c (fuel+1) listed a w:=
 ⟨λh0=>absurd (hr▸h0) (by simp),λj hj=>by rw[hr] at hj;simp at hj;subst hj;exact h⟩
theorem Ql {listed:Array Bool}(hr:Region.ready md ops listed=[])(h:Q .normal a w):∀fuel,Vz F n P md ops Q S c fuel listed a w
 |0=>⟨hr,h⟩
 |_+1=>⟨λ_=>h,by rw[hr];simp⟩
theorem Qb {id:Nat}(hm:P.follows .mixedOrders=true)(hb:Q50 .any ops c=true)(h:Q1a .any ops c->Cl .any ops (Array.replicate ops.size false)->Vz F n P .any ops Q S c ops.size (Array.replicate ops.size false) a w.drew):(Code.region id ops true).wpIn F n P Q a w:=
 wpIn_region_any hm (Aj _ _ _ _ (h (Q9z hb) (λk hk=>by
  rw[Array.getD_eq_getD_getElem?] at hk
  by_cases g:k<ops.size
  ·simp[g] at hk
  ·simp[g] at hk)))
end
theorem Tv {n:Nat}{P:Program}{ops:Array Oper}{o:Oper}{K:Act->World->Prop}{Q:Exit->Act->World->Prop}{E:Prop}
  (hg:o.guard=none) (s x:Operand) (t:TypeId) (hop:o.op=Op.call { callee:=Callee.builtin Builtin.append,args:=#[s,x],argTypes:=#[t,t] })
  (e:TypeId) (i:TypeInfo) (z:Value) (size bytes:Nat) (h1:P.underlying t=some (.slice e)) (h2:P.info? e=some i) (h3:i.zero=some z) (h4:i.size=size) (h5:i.bytes=bytes) (h6:z.cells.size=size) (h7:0<size)
  (B:Nat) (v:Value) (m0:Nat) (olds:List Value) (hs:a.eval s=v) (hown:w.ownsRow B e size v m0 olds)
  (ad:Addr) (m c:Nat) (news:List Value) (hx:a.eval x=.slice (some ad) m c) (hn:news.length=m*size) (hc:∀j u,news[j]?=some u->w.cell? (ad.add j)=some u) (h1c:∀u∈news,u.oneCell'=true)
  (b1:m0+m<=maxLen) (b2:(m0+m)*bytes<=140737488355328) (hB:B<=w.heap.size)
  (hK:∀v' w',w'.ownsRow B e size v' (m0+m) (olds++news)->w.grownBy w' v.ownBlock->(v'.ownBlock=v.ownBlock\/v'.ownBlock=some w.heap.size)->K (a.put o.dst v') w') :
  if Region.wanted o (yielded ops a.tmps)=true then Oper.wpIn Fence.wide n P o a w K Q else E:=by
 have hw:Region.wanted o (yielded ops a.tmps)=true:=by simp[Region.wanted,hg]
 rw[if_pos hw]
 obtain⟨v',w',hrun,r1,r2,_,r4⟩:=run_append_own_at (P:=P) w B t o.type e i z size bytes h1 h2 h3 h4 h5 h6 h7 v m0 olds hown ad m c news hn hc h1c b1 b2 hB
 unfold Oper.wpIn
 refine⟨λf _=>trivial,?_⟩
 rw[show Fence.wide.round=none from rfl,Oper.semAt_none]
 simp[execOp,hop,resolve,invoke,builtin,hs,hx,hrun,Result.andThen]
 exact hK v' w' r1 r2 r4
section
variable {F:Fence}{n:Nat}{P:Program}{ops:Array Oper}{Q:Exit->Act->World->Prop}{md:Region.Mode}{S:World->Prop}{c:Nat}
end
end Go.Proofs.YtphiaobccollhaaGreat
