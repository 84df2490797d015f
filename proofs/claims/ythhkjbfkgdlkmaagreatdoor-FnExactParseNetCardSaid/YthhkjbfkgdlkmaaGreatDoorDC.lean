import Derived.Test.YthhkjbfkgdlkmaaGreatDoorKJ
import Derived.Test.YthhkjbfkgdlkmaaGreatDoorKQ
namespace Go.Proofs.YthhkjbfkgdlkmaaGreatDoor
open Go.RowKit Go.Sort
set_option linter.unusedVariables false
set_option maxRecDepth 1000000
set_option maxHeartbeats 16000000
section
variable {t e:TypeId}{size bytes:Nat}{z:Value}
theorem app_row (hinfo:(Tryz.prog.info? e).map (λi=>(i.zero,i.size,i.bytes))=some (some z,size,bytes))(ht:Tryz.prog.underlying t=some (.slice e))(hz:z.cells.size=size)(hsz:0<size)(hby:bytes<=1000)
  {ops:Array Oper}{rest:List Oper}{o:Oper}{a:Act}{Q:Exit->Act->World->Prop} (hgd:o.guard=none) (s x:Operand) (ho:o.op=.call { callee:=.builtin .append,args:=#[s,x],argTypes:=#[t,t] })
  (C n:Nat) (v:Value) (xs news:List Value) (w0:World) (hs:a.eval s=v) (hown:w0.ownsRow C e size v n xs) (hx:a.eval x=.slice (some ⟨w0.heap.size,0,none⟩) 1 1) (hl:news.length=size) (h1:∀u∈news,u.oneCell'=true) (hn:n<=1000000) (hC:C<=w0.heap.size)
  (h:∀a' c' w',w'.ownsRow C e size (.slice a' (n+1) c') (n+1) (xs++news)->Chg (λx=>some x=v.ownBlock) w0 w'->(∀g,(Value.slice a' (n+1) c').ownBlock=some g->v.ownBlock=some g\/w0.heap.size<=g)->wpList Tryz.prog ops Q rest (a.put o.dst (.slice a' (n+1) c')) w') :
  wpList Tryz.prog ops Q (o::rest) a (w0.alloc (.cells news.toArray e)):=by
 obtain⟨ii,hi,hz0,hz1,hz2⟩:=info_parts hinfo
 refine wpList_append_own_at _ hgd s x t ho C e ii z size bytes ht hi hz0 hz1 hz2 hz hsz v n xs hs (World.ownsRow.alloc hown _) ⟨w0.heap.size,0,none⟩ 1 1 news hx (by rw[hl,Nat.one_mul]) (λj u hj=>new_cells w0 _ _ _ rfl j u (by simpa using hj)) h1 (by unfold maxLen;omega) ?_ (by rw[size_alloc'];omega) ?_
 ·have:(n+1)*bytes<=1000001*1000:=Nat.mul_le_mul (by omega) hby
  omega
 ·intro v' w' r1 r2 _ r4
  obtain⟨a',c',rfl⟩:=row_slice r1
  refine h a' c' w' r1 (Chg.grown ((World.grownBy_alloc w0 _ _).trans r2) (λb e=>e)) (λg hg=>?_)
  rcases r4 with r4|r4
  ·exact Or.inl (by rw[<-r4];exact hg)
  ·rw[r4] at hg
   have:=Option.some.inj hg
   rw[size_alloc'] at this
   exact Or.inr (by omega)
theorem app_row_in (hinfo:(Tryz.prog.info? e).map (λi=>(i.zero,i.size,i.bytes))=some (some z,size,bytes))(ht:Tryz.prog.underlying t=some (.slice e))(hz:z.cells.size=size)(hsz:0<size)(hby:bytes<=1000)
  {k:Nat}{ops:Array Oper}{o:Oper}{a:Act}{K:Act->World->Prop}{Q:Exit->Act->World->Prop}{E:Prop} (hgd:o.guard=none) (s x:Operand) (ho:o.op=.call { callee:=.builtin .append,args:=#[s,x],argTypes:=#[t,t] })
  (C n:Nat) (v:Value) (xs news:List Value) (w0 W:World) (hW:W=w0.alloc (.cells news.toArray e)) (hs:a.eval s=v) (hown:w0.ownsRow C e size v n xs) (hx:a.eval x=.slice (some ⟨w0.heap.size,0,none⟩) 1 1) (hl:news.length=size) (h1:∀u∈news,u.oneCell'=true) (hn:n<=1000000) (hC:C<=w0.heap.size)
  (h:∀a' c' w',w'.ownsRow C e size (.slice a' (n+1) c') (n+1) (xs++news)->Chg (λx=>some x=v.ownBlock) w0 w'->(∀g,(Value.slice a' (n+1) c').ownBlock=some g->v.ownBlock=some g\/w0.heap.size<=g)->K (a.put o.dst (.slice a' (n+1) c')) w') :
  if Region.wanted o (yielded ops a.tmps)=true then Oper.wpIn Fence.wide k Tryz.prog o a W K Q else E:=by
 obtain⟨ii,hi,hz0,hz1,hz2⟩:=info_parts hinfo
 subst hW
 refine step_append_in hgd s x t ho e ii z size bytes ht hi hz0 hz1 hz2 hz hsz C v n xs hs (World.ownsRow.alloc hown _) ⟨w0.heap.size,0,none⟩ 1 1 news hx (by rw[hl,Nat.one_mul]) (λj u hj=>new_cells w0 _ _ _ rfl j u (by simpa using hj)) h1 (by unfold maxLen;omega) ?_ (by rw[size_alloc'];omega) ?_
 ·have:(n+1)*bytes<=1000001*1000:=Nat.mul_le_mul (by omega) hby
  omega
 ·intro v' w' r1 r2 r4
  obtain⟨a',c',rfl⟩:=row_slice r1
  refine h a' c' w' r1 (Chg.grown ((World.grownBy_alloc w0 _ _).trans r2) (λb e=>e)) (λg hg=>?_)
  rcases r4 with r4|r4
  ·exact Or.inl (by rw[<-r4];exact hg)
  ·rw[r4] at hg
   have:=Option.some.inj hg
   rw[size_alloc'] at this
   exact Or.inr (by omega)
end
theorem infoTurn:(Tryz.prog.info? 69).map (λi=>(i.zero,i.size,i.bytes))=some (some (.agg #[.int .i64 0,.int .i64 0,.int .i64 0]),3,24):=by kernel_rfl
theorem infoWayE:(Tryz.prog.info? 45).map (λi=>(i.zero,i.size,i.bytes))=some (some (.agg #[.int .i64 0,.bool false,.slice none 0 0,.slice none 0 0]),4,64):=by kernel_rfl
theorem infoRelE:(Tryz.prog.info? 47).map (λi=>(i.zero,i.size,i.bytes))=some (some (.agg #[.int .i64 0,.bool false,.int .i64 0,.int .i64 0,.bool false,.int .i64 0,.slice none 0 0]),7,72):=by kernel_rfl
theorem app_int {ops:Array Oper}{rest:List Oper}{o:Oper}{a:Act}{Q:Exit->Act->World->Prop}(hgd:o.guard=none)(s x:Operand)(ho:o.op=.call { callee:=.builtin .append,args:=#[s,x],argTypes:=#[23,23] })
  (C n:Nat) (v:Value) (zs:List Int) (y:Int) (w0:World) (hs:a.eval s=v) (hown:OwnI C w0 v zs) (hx:a.eval x=.slice (some ⟨w0.heap.size,0,none⟩) 1 1) (hn:zs.length=n) (hm:n<=1000000) (hC:C<=w0.heap.size)
  (h:∀a' c' w',OwnI C w' (.slice a' (n+1) c') (zs++[y])->Chg (λx=>some x=v.ownBlock) w0 w'->(∀g,(Value.slice a' (n+1) c').ownBlock=some g->v.ownBlock=some g\/w0.heap.size<=g)->wpList Tryz.prog ops Q rest (a.put o.dst (.slice a' (n+1) c')) w') :
  wpList Tryz.prog ops Q (o::rest) a (w0.alloc (.cells #[.int .i64 y] 2)):=by
 subst hn
 refine app_row infoInt Tryz.underlying23 rfl (by decide) (by decide) hgd s x ho C zs.length v (icells zs) [.int .i64 y] w0 hs hown hx rfl (by intro u hu;simp at hu;subst hu;rfl) hm hC (λa' c' w' r1 r2 r3=>h a' c' w' ?_ r2 r3)
 exact OwnI.snoc r1
theorem app_int_in {k:Nat}{ops:Array Oper}{o:Oper}{a:Act}{K:Act->World->Prop}{Q:Exit->Act->World->Prop}{E:Prop}(hgd:o.guard=none)(s x:Operand)(ho:o.op=.call { callee:=.builtin .append,args:=#[s,x],argTypes:=#[23,23] })
  (C n:Nat) (v:Value) (zs:List Int) (y:Int) (w0 W:World) (hW:W=w0.alloc (.cells #[.int .i64 y] 2)) (hs:a.eval s=v) (hown:OwnI C w0 v zs) (hx:a.eval x=.slice (some ⟨w0.heap.size,0,none⟩) 1 1) (hn:zs.length=n) (hm:n<=1000000) (hC:C<=w0.heap.size)
  (h:∀a' c' w',OwnI C w' (.slice a' (n+1) c') (zs++[y])->Chg (λx=>some x=v.ownBlock) w0 w'->(∀g,(Value.slice a' (n+1) c').ownBlock=some g->v.ownBlock=some g\/w0.heap.size<=g)->K (a.put o.dst (.slice a' (n+1) c')) w') :
  if Region.wanted o (yielded ops a.tmps)=true then Oper.wpIn Fence.wide k Tryz.prog o a W K Q else E:=by
 subst hn
 refine app_row_in infoInt Tryz.underlying23 rfl (by decide) (by decide) hgd s x ho C zs.length v (icells zs) [.int .i64 y] w0 W hW hs hown hx rfl (by intro u hu;simp at hu;subst hu;rfl) hm hC (λa' c' w' r1 r2 r3=>h a' c' w' ?_ r2 r3)
 exact OwnI.snoc r1
def tcell (t:Tn):List Value:=[.int .i64 t.frm,.int .i64 t.to,.int .i64 t.cost]
def OwnT (C:Nat)(w:World)(v:Value)(ts:List Tn):Prop:=w.ownsRow C 69 3 v ts.length (ts.flatMap tcell)
theorem flatK {α:Type}{k:Nat}(hk:0<k)(l:List α)(f:α->List Value)(hf:∀x,(f x).length=k)(i q:Nat)(hq:q<k)(x:α)(hx:l[i]?=some x):(l.flatMap f)[i*k+q]?=(f x)[q]?:=by
 induction l generalizing i with
 |nil=>simp at hx
 |cons a l ih=>
  cases i with
  |zero=>
   simp at hx
   subst hx
   rw[List.flatMap_cons,Nat.zero_mul,Nat.zero_add,List.getElem?_append_left (by rw[hf];exact hq)]
  |succ i=>
   rw[List.flatMap_cons,List.getElem?_append_right (by rw[hf,Nat.succ_mul];omega),hf,show(i+1)*k+q-k=i*k+q by rw[Nat.succ_mul];omega]
   exact ih i (by simpa using hx)
theorem row_cells {α:Type}{C t k n:Nat}{w:World}{v:Value}{l:List α}{f:α->List Value}(h:w.ownsRow C t k v n (l.flatMap f))(hl:l.length=n)(hk:0<k)(hf:∀x,(f x).length=k){i:Nat}{x:α}(hx:l[i]?=some x) :
  ∃b c,v=.slice (some ⟨b,0,none⟩) n c/\n<=c/\n<=maxLen/\C<=b/\b<w.heap.size/\∀q,q<k->w.cell? ⟨b,i*k+q,none⟩=(f x)[q]?:=by
 have hi:i<l.length:=(List.getElem?_eq_some_iff.1 hx).1
 obtain⟨h1,h2⟩:=h
 rcases h2 with⟨_,h3⟩|⟨b,cap,cur,hv,hg,hh,hc,hm,hs,ht⟩
 ·omega
 ·refine⟨b,cap,hv,hc,by omega,hg,(Array.getElem?_eq_some_iff.1 hh).1,λq hq=>?_⟩
  have hlt:i*k+q<n*k:=by
   have:(i+1)*k<=n*k:=Nat.mul_le_mul_right _ (by omega)
   rw[Nat.succ_mul] at this
   omega
  have e1:(cur.toList.take (n*k))[i*k+q]?=(l.flatMap f)[i*k+q]?:=by rw[ht]
  rw[List.getElem?_take_of_lt hlt,Array.getElem?_toList] at e1
  have e2:=flatK hk l f hf i q hq x hx
  unfold World.cell?
  simp only[hh]
  rw[e1,e2]
  rfl
theorem row_max {C t k n:Nat}{w:World}{v:Value}{xs:List Value}(h:w.ownsRow C t k v n xs):n<=maxLen:=by
 rcases h.2 with⟨_,h3⟩|⟨b,cap,cur,hv,hg,hh,hc,hm,hs,ht⟩
 ·rw[h3];exact Nat.zero_le _
 ·omega
theorem OwnT.held {C:Nat}{w:World}{v:Value}{ts:List Tn}(h:OwnT C w v ts):HTurns C w v ts:=by
 obtain⟨a,c,rfl⟩:=row_slice h
 refine⟨a,c,rfl,row_max h,λhp=>?_⟩
 have at_:∀i,i<ts.length->ts[i]?=some (tat ts i):=λi hi=>by simp[tat,List.getD_eq_getElem?_getD,hi]
 obtain⟨b,c',e,_,_,hC,hb,_⟩:=row_cells h rfl (by decide) (λ_=>rfl) (at_ 0 hp)
 simp only[Value.slice.injEq] at e
 obtain⟨rfl,_,rfl⟩:=e
 refine⟨b,0,rfl,hC,hb,λi hi=>?_⟩
 obtain⟨b',c',e,_,_,_,_,k⟩:=row_cells h rfl (by decide) (λ_=>rfl) (at_ i hi)
 simp only[Value.slice.injEq,Option.some.injEq,Addr.mk.injEq] at e
 obtain⟨⟨rfl,_⟩,_⟩:=e
 rw[Nat.zero_add]
 exact⟨k 0 (by omega),k 1 (by omega),k 2 (by omega)⟩
end Go.Proofs.YthhkjbfkgdlkmaaGreatDoor
