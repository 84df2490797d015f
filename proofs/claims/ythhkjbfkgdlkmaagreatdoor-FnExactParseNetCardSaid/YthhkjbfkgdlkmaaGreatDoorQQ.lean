import Derived.Test.YthhkjbfkgdlkmaaGreatDoorQL
import Derived.Laws.StructEq
namespace Go.Proofs.YthhkjbfkgdlkmaaGreatDoor
open Go.RowKit Go.Sort Go.Shelf
set_option linter.unusedVariables false
set_option maxRecDepth 1000000
set_option maxHeartbeats 16000000
theorem eq_nm (x y:Nm)(w:World):(Op.equal 112 (.agg (ncell x).toArray) (.agg (ncell y).toArray)).run Tryz.prog w=.ok (x.1==y.1&&(x.2.1==y.2.1&&x.2.2==y.2.2)) w:=by
 have hf:(Tryz.prog.fieldsOf 112).toList.map (λf=>(f.type,f.offset,f.name == "_"))=[(2,0,false),(2,1,false),(2,2,false)]:=by kernel_rfl
 have hu:Tryz.prog.underlying 112=some (.struct (Tryz.prog.fieldsOf 112)):=by kernel_rfl
 have hp:Tryz.prog.stoodInHeld 112=false:=by kernel_rfl
 show(Op.equalIn (9999+1) _ _ _).run Tryz.prog w=_
 rw[run_equalIn_struct w 9999 _ _ _ hu hp]
 generalize hfs:(Tryz.prog.fieldsOf 112).toList=fs at hf
 obtain⟨f1,r1,rfl,e1,hr1⟩:=List.map_eq_cons_iff.1 hf
 obtain⟨f2,r2,rfl,e2,hr2⟩:=List.map_eq_cons_iff.1 hr1
 obtain⟨f3,r3,rfl,e3,hr3⟩:=List.map_eq_cons_iff.1 hr2
 have hr4:r3=[]:=List.map_eq_nil_iff.1 hr3
 subst hr4
 simp only[Prod.mk.injEq] at e1 e2 e3
 have key:∀(a b:Int),(Op.equalIn 9999 2 (.int .i64 a) (.int .i64 b)).run Tryz.prog w=.ok (a==b) w:=λa b=>run_equalIn_int w 9998 2 .i64 .i64 a b Tryz.underlying2
 have hpt:∀(cs:Array Value) (o:Nat) (v:Value),cs[o]?=some v->(part 2 cs o).run Tryz.prog w=.ok v w:=λcs o v h=>by
  simp[go_sem,part,h]
 have hx:=λ(o:Nat) (v:Value) (h:(ncell x)[o]?=some v)=>hpt (ncell x).toArray o v (by simpa using h)
 have hy:=λ(o:Nat) (v:Value) (h:(ncell y)[o]?=some v)=>hpt (ncell y).toArray o v (by simpa using h)
 have n1:¬f1.name = "_" := by simpa using e1.2.2
 have n2:¬f2.name = "_" := by simpa using e2.2.2
 have n3:¬f3.name = "_" := by simpa using e3.2.2
 simp[Op.eqFields,e1.1,e1.2.1,e2.1,e2.2.1,e3.1,e3.2.1,n1,n2,n3,hx 0 _ rfl,hx 1 _ rfl,hx 2 _ rfl,hy 0 _ rfl,hy 1 _ rfl,hy 2 _ rfl,key]
 by_cases h1:x.1=y.1<;>by_cases h2:x.2.1=y.2.1<;>by_cases h3:x.2.2=y.2.2<;>simp[h1,h2,h3]
theorem eq_nmB (x y:Nm):(x.1==y.1&&(x.2.1==y.2.1&&x.2.2==y.2.2))=decide (x=y):=by
 obtain⟨a,b,c⟩:=x
 obtain⟨a',b',c'⟩:=y
 rw[Bool.eq_iff_iff]
 simp[Prod.mk.injEq]
theorem check_nm (b:Bool)(x:Nm)(w:World):(Instr.checkKey b 10000 112 (.agg (ncell x).toArray)).run Tryz.prog w=.ok () w:=by
 have hf:(Tryz.prog.fieldsOf 112).toList.map (λf=>(f.type,f.offset,f.name == "_"))=[(2,0,false),(2,1,false),(2,2,false)]:=by kernel_rfl
 have hu:Tryz.prog.underlying 112=some (.struct (Tryz.prog.fieldsOf 112)):=by kernel_rfl
 show(Instr.checkKey b (9999+1) _ _).run Tryz.prog w=_
 rw[Instr.checkKey]
 simp only[Sem.run_bind,run_underlying hu,Result.andThen_ok]
 rw[<-Array.forIn_toList]
 generalize hfs:(Tryz.prog.fieldsOf 112).toList=fs at hf
 obtain⟨f1,r1,rfl,e1,hr1⟩:=List.map_eq_cons_iff.1 hf
 obtain⟨f2,r2,rfl,e2,hr2⟩:=List.map_eq_cons_iff.1 hr1
 obtain⟨f3,r3,rfl,e3,hr3⟩:=List.map_eq_cons_iff.1 hr2
 have hr4:r3=[]:=List.map_eq_nil_iff.1 hr3
 subst hr4
 simp only[Prod.mk.injEq] at e1 e2 e3
 have hck:∀z:Int,(Instr.checkKey b 9999 2 (.int .i64 z)).run Tryz.prog w=.ok () w:=λz=>by
  show(Instr.checkKey b (9998+1) _ _).run Tryz.prog w=_
  rw[Instr.checkKey]
  simp[run_underlying Tryz.underlying2]
 have hpt:∀(cs:Array Value) (o:Nat) (v:Value),cs[o]?=some v->(part 2 cs o).run Tryz.prog w=.ok v w:=λcs o v h=>by
  simp[go_sem,part,h]
 have hx:=λ(o:Nat) (v:Value) (h:(ncell x)[o]?=some v)=>hpt (ncell x).toArray o v (by simpa using h)
 have n1:¬f1.name = "_" := by simpa using e1.2.2
 have n2:¬f2.name = "_" := by simpa using e2.2.2
 have n3:¬f3.name = "_" := by simpa using e3.2.2
 simp[e1.1,e1.2.1,e2.1,e2.2.1,e3.1,e3.2.1,n1,n2,n3,hx 0 _ rfl,hx 1 _ rfl,hx 2 _ rfl,hck]
def KM (w:World)(mb:Nat)(l:List (Nm×Int)):Prop:=∃(es:Array MapEntry) (clock:Nat),w.heap[mb]?=some (.map es clock)/\es.toList.map (λe=>(e.key,e.val))=l.map (λx=>(Value.agg (ncell x.1).toArray,Value.int .i64 x.2))
theorem KM.next {w w':World}{mb:Nat}{l:List (Nm×Int)}(h:KM w mb l)(k:Nx w w'):KM w' mb l:=by
 obtain⟨es,cl,hb,he⟩:=h
 exact⟨es,cl,(k.block mb (Array.getElem?_eq_some_iff.1 hb).1).trans hb,he⟩
def hasK (l:List (Nm×Int))(x:Nm):Bool:=l.any λp=>decide (p.1=x)
theorem ask_nm (x:Nm)(w:World):∀(l:List (Nm×Int)) (es:List MapEntry) (i:Nat),es.map (λe=>(e.key,e.val))=l.map (λx=>(Value.agg (ncell x.1).toArray,Value.int .i64 x.2)) ->
  ∃r,(Instr.findAsking 112 (.agg (ncell x).toArray) es i).run Tryz.prog w=.ok r w/\((hasK l x=false/\r=none)\/(hasK l x=true/\∃j z,r=some (j,.int .i64 z)))
 |[],es,i,h=>by
  have e:es=[]:=List.map_eq_nil_iff.1 h
  subst e
  exact⟨none,by simp[Instr.findAsking],Or.inl ⟨rfl,rfl⟩⟩
 |p::l,es,i,h=>by
  obtain⟨e,es',rfl,h1,h2⟩:=List.map_eq_cons_iff.1 h
  simp only[Prod.mk.injEq] at h1
  have hq:=eq_nm x p.1 w
  rw[eq_nmB] at hq
  by_cases hx:x=p.1
  ·refine⟨some (i,e.val),?_,Or.inr ⟨by simp[hasK,hx],i,p.2,by rw[h1.2]⟩⟩
   rw[decide_eq_true hx] at hq
   simp[Instr.findAsking,h1.1,hq]
  ·obtain⟨r,hr,hc⟩:=ask_nm x w l es' (i+1) h2
   refine⟨r,?_,?_⟩
   ·rw[decide_eq_false hx] at hq
    simp[Instr.findAsking,h1.1,hq,hr]
   ·have hh:hasK (p::l) x=hasK l x:=by
     have:¬p.1=x:=λe=>hx e.symm
     simp[hasK,this]
    rw[hh];exact hc
theorem find_nm (x:Nm)(w:World)(l:List (Nm×Int))(es:List MapEntry)(h:es.map (λe=>(e.key,e.val))=l.map (λx=>(Value.agg (ncell x.1).toArray,Value.int .i64 x.2))) :
  ∃r,(Instr.findKey 112 (.agg (ncell x).toArray) es).run Tryz.prog w=.ok r w/\((hasK l x=false/\r=none)\/(hasK l x=true/\∃j z,r=some (j,.int .i64 z))):=by
 have hu:Tryz.prog.underlying 112=some (.struct (Tryz.prog.fieldsOf 112)):=by kernel_rfl
 obtain⟨r,hr,hc⟩:=ask_nm x w l es 0 h
 refine⟨r,?_,hc⟩
 cases es with
 |nil=>
  cases l with
  |cons p l=>cases h
  |nil=>
   have e:r=none:=by
    rcases hc with⟨-,e⟩|⟨e,-⟩
    ·exact e
    ·cases e
   subst e
   simp[Instr.findKey,run_underlying hu,Instr.findNow]
 |cons e es=>
  cases l with
  |nil=>cases h
  |cons p l=>
   simp only[List.map_cons,List.cons.injEq,Prod.mk.injEq] at h
   simp[Instr.findKey,run_underlying hu,Instr.findNow,h.1.1,Instr.sameNow]
   rw[h.1.1] at *
   exact hr
theorem wpList_lookK {ops:Array Oper}{rest:List Oper}{o:Oper}{a:Act}{Q:Exit->Act->World->Prop}{w:World}(hgd:o.guard=none)(m k:Operand)(ho:o.op=.lookup 110 m k true){mb:Nat}(hm:a.eval m=.map (some mb)){x:Nm}(hk:a.eval k=.agg #[.int .i64 x.1,.int .i64 x.2.1,.int .i64 x.2.2]){l:List (Nm×Int)}(hb:KM w mb l)
  (h:∀z,wpList Tryz.prog ops Q rest (a.put o.dst (.tuple #[.int .i64 z,.bool (hasK l x)])) w):wpList Tryz.prog ops Q (o::rest) a w:=by
 refine wpList_plain hgd λK hK=>?_
 obtain⟨es,cl,hb,he⟩:=hb
 obtain⟨r,hr,hc⟩:=find_nm x w l es.toList he
 have hz:(zeroValue 2).run Tryz.prog w=.ok (.int .i64 0) w:=by
  obtain⟨i,h1,h2,-⟩:=info_parts infoInt
  simp[zeroValue,typeInfo,h1,h2]
 have hr2:=run_lookM Tryz.underlying110 hb (λb=>check_nm b x w) hr hz
 have hk':a.eval k=.agg (ncell x).toArray:=hk
 unfold Oper.wp execOp
 simp[ho,hm,hk',hr2]
 rcases hc with⟨h1,rfl⟩|⟨h1,j,z,rfl⟩
 ·have hh:=h 0
  rw[h1] at hh
  exact hK _ _ hh
 ·have hh:=h z
  rw[h1] at hh
  exact hK _ _ hh
theorem wpList_putK {ops:Array Oper}{rest:List Oper}{o:Oper}{a:Act}{Q:Exit->Act->World->Prop}{w:World}(hgd:o.guard=none)(m k v:Operand)(ho:o.op=.mapUpdate 110 m k v){mb:Nat}(hm:a.eval m=.map (some mb)){x:Nm}(hk:a.eval k=.agg #[.int .i64 x.1,.int .i64 x.2.1,.int .i64 x.2.2]){z:Int}(hv:a.eval v=.int .i64 z){l:List (Nm×Int)}(hb:KM w mb l)(hno:hasK l x=false)
  (h:∀w',KM w' mb (l++[(x,z)])->Chg (λx=>x=mb) w w'->wpList Tryz.prog ops Q rest (a.put o.dst undef) w'):wpList Tryz.prog ops Q (o::rest) a w:=by
 refine wpList_plain hgd λK hK=>?_
 obtain⟨es,cl,hb,he⟩:=hb
 obtain⟨r,hr,hc⟩:=find_nm x w l es.toList he
 rcases hc with⟨-,rfl⟩|⟨h1,-⟩
 ·have hr2:=run_putM (v:=.int .i64 z) Tryz.underlying110 hb (check_nm false x w) hr
  have hk':a.eval k=.agg (ncell x).toArray:=hk
  unfold Oper.wp execOp
  simp[ho,hm,hk',hv,hr2]
  refine hK _ _ (h _ ⟨_,_,putM_at hb,?_⟩ (putM_chg _ _ _))
  simp[he]
 ·rw[hno] at h1;cases h1
end Go.Proofs.YthhkjbfkgdlkmaaGreatDoor
