import Derived.Test.YthhkjbfkgdlkmaaGreatDoorQR
import Derived.Test.YthhkjbfkgdlkmaaGreatDoorShelfQ
namespace Go.Proofs.YthhkjbfkgdlkmaaGreatDoor
open Go.RowKit Go.Sort Go.Shelf
set_option linter.unusedVariables false
set_option maxRecDepth 1000000
set_option maxHeartbeats 16000000
theorem put_take {α:Type} [Inhabited α] (enc:α->Value)(d:Array α)(cur:Array Value)(h:d.size<=cur.size):(putCells enc 0 d cur).size=cur.size/\(putCells enc 0 d cur).toList.take d.size=d.toList.map enc:=by
 refine⟨by simp[putCells],?_⟩
 apply List.ext_getElem?
 intro i
 by_cases hi:i<d.size
 ·rw[List.getElem?_take_of_lt hi,Array.getElem?_toList,List.getElem?_map,Array.getElem?_toList]
  have hc:i<cur.size:=by omega
  simp[putCells,hc,hi]
 ·rw[List.getElem?_eq_none (by simp;omega),List.getElem?_eq_none (by simp;omega)]
theorem row_putS {α:Type} [Inhabited α] {enc:α->Value}{C t sz n g c m:Nat}{w:World}{xs:List Value}{d:Array α}{os:Array Obj}(h:w.ownsRow C t sz (.slice (some ⟨g,0,none⟩) n c) n xs)(hd:d.size=n*sz) :
  (grow (putRow enc (Sort.ahead w m) g 0 d) os).ownsRow C t sz (.slice (some ⟨g,0,none⟩) n c) n (d.toList.map enc)/\Chg (λx=>x=g) w (grow (putRow enc (Sort.ahead w m) g 0 d) os):=by
 obtain⟨h1,h2⟩:=h
 rcases h2 with⟨e,_⟩|⟨g',cap,cur,e,hg,hh,hc,hm,hs,ht⟩
 ·simp at e
 simp only[Value.slice.injEq,Option.some.injEq,Addr.mk.injEq] at e
 obtain⟨⟨rfl,-⟩,-,rfl⟩:=e
 have hlt:g<w.heap.size:=(Array.getElem?_eq_some_iff.1 hh).1
 have hle:d.size<=cur.size:=by rw[hd,hs];exact Nat.mul_le_mul_right _ hc
 obtain⟨p1,p2⟩:=put_take enc d cur hle
 have hb:(grow (putRow enc (Sort.ahead w m) g 0 d) os).heap[g]?=some (.cells (putCells enc 0 d cur) t (0,0)):=by
  show((putRow enc (Sort.ahead w m) g 0 d).heap++os)[g]?=_
  rw[Array.getElem?_append_left (by simp;exact hlt)]
  show(w.heap.modify g _)[g]?=_
  rw[Array.getElem?_modify,if_pos rfl,hh]
  rfl
 refine⟨⟨by simp[hd],Or.inr ⟨g,c,putCells enc 0 d cur,rfl,hg,hb,hc,hm,by rw[p1];exact hs,by rw[<-hd];exact p2⟩⟩,⟨rfl,rfl,rfl,?_,λx hx hn=>?_⟩⟩
 ·show w.heap.size<=((putRow enc (Sort.ahead w m) g 0 d).heap++os).size
  rw[Array.size_append]
  simp
 ·show((putRow enc (Sort.ahead w m) g 0 d).heap++os)[x]?=_
  rw[Array.getElem?_append_left (by simp;exact hx)]
  show(w.heap.modify g _)[x]?=_
  have hn':¬g=x:=λe=>hn e.symm
  rw[Array.getElem?_modify,if_neg hn']
theorem row_holds {α:Type} [Inhabited α] {enc:α->Value}{C t sz n g c:Nat}{w:World}{d:Array α}(h:w.ownsRow C t sz (.slice (some ⟨g,0,none⟩) n c) n (d.toList.map enc))(hd:d.size=n*sz):Holds enc w g 0 d/\g<w.heap.size:=by
 obtain⟨h1,h2⟩:=h
 rcases h2 with⟨e,_⟩|⟨g',cap,cur,e,hg,hh,hc,hm,hs,ht⟩
 ·simp at e
 simp only[Value.slice.injEq,Option.some.injEq,Addr.mk.injEq] at e
 obtain⟨⟨rfl,-⟩,-,rfl⟩:=e
 refine⟨λj hj=>?_,(Array.getElem?_eq_some_iff.1 hh).1⟩
 have e1:(cur.toList.take (n*sz))[j]?=(d.toList.map enc)[j]?:=by rw[ht]
 rw[List.getElem?_take_of_lt (by omega),Array.getElem?_toList,List.getElem?_map,Array.getElem?_toList,Array.getElem?_eq_getElem hj] at e1
 have hh':w.heap[g]?=some (.cells cur t (0,0)):=hh
 refine⟨?_,?_⟩
 ·unfold World.cell?
  simp[hh',e1,hj]
 ·have:=(show Blk w g cur from⟨t,hh⟩).frozen (0+j)
  exact this
theorem flatK_list {α:Type} [Inhabited α] (enc:α->List Value)(k:Nat)(hk:∀x,(enc x).length=k)(d:Array α):(Sort.flatK enc k d).toList=d.toList.flatMap enc:=by
 apply List.ext_getElem?
 intro i
 by_cases k0:k=0
 ·subst k0
  have e1:(Sort.flatK enc 0 d).toList=[]:=by apply List.length_eq_zero_iff.1;simp
  have e2:d.toList.flatMap enc=[]:=by
   rw[List.flatMap_eq_nil_iff]
   intro x _
   exact List.length_eq_zero_iff.1 (hk x)
  rw[e1,e2]
 have hp:0<k:=by omega
 have hlen:(d.toList.flatMap enc).length=d.size*k:=by
  have hl:∀l:List α,(l.flatMap enc).length=l.length*k:=λl=>by
   induction l with
   |nil=>simp
   |cons x l ih=>rw[List.flatMap_cons,List.length_append,ih,hk,List.length_cons,Nat.add_mul,Nat.one_mul,Nat.add_comm]
  rw[hl];simp
 by_cases hi:i<d.size*k
 ·have hq:i/k<d.size:=(Nat.div_lt_iff_lt_mul hp).2 hi
  have hr:i%k<k:=Nat.mod_lt _ hp
  rw[Array.getElem?_toList]
  have e0:(Sort.flatK enc k d)[i]?=some ((Sort.flatK enc k d)[i]!):=by rw[getElem!_pos _ i (by simpa using hi)];simp[hi]
  rw[e0,Sort.get_flatK enc k d i hi]
  have hx:d.toList[i/k]?=some d[i/k]!:=by rw[Array.getElem?_toList,getElem!_pos d _ hq];simp[hq]
  have e1:=flatK (k:=k) hp d.toList enc hk (i/k) (i%k) hr (d[i/k]!) hx
  rw[show i/k*k+i%k=i from Nat.div_add_mod' i k] at e1
  rw[e1]
  have hl:i%k<(enc d[i/k]!).length:=by rw[hk];exact hr
  rw[List.getElem?_eq_getElem hl,getElem!_pos (enc d[i/k]!) (i%k) hl]
 ·rw[List.getElem?_eq_none (by simp;omega),List.getElem?_eq_none (by omega)]
theorem grow2 (w:World)(a b:Obj):(w.alloc a).alloc b=grow (w.drewN 0) #[a,b]:=by
 rw[alloc_eq_grow,alloc_eq_grow,grow_grow];rfl
theorem grow3 (w:World)(a b c:Obj):(((w.alloc a).alloc b).alloc c).drew=grow (w.drewN 1) #[a,b,c]:=by
 rw[alloc_eq_grow,alloc_eq_grow,alloc_eq_grow,grow_grow,grow_grow];rfl
theorem cmpWays_g (x y:Int)(b c:Bool)(p q r s:Value)(w:World) :
  Calls Tryz.prog 61 #[.agg #[.int .i64 x,.bool b,p,q],.agg #[.int .i64 y,.bool c,r,s]] w λe w'=>e=.returned (.int .i64 (cmpI x y))/\∃q os,w'=grow (w.drewN q) os:=by
 go_enter Tryz.func61,Tryz.ntmps61
 go_wp2_with (go_at_call 84;refine(cmp_any _ _ _).mono ?_;rintro e w' ⟨rfl,rfl⟩)
 go_ret
 exact⟨rfl,0,_,grow2 _ _ _⟩
theorem cmpRels_g (x y:Int)(a1 a2 a3 a4 a5 a6 b1 b2 b3 b4 b5 b6:Value)(w:World) :
  Calls Tryz.prog 63 #[.agg #[.int .i64 x,a1,a2,a3,a4,a5,a6],.agg #[.int .i64 y,b1,b2,b3,b4,b5,b6]] w λe w'=>e=.returned (.int .i64 (cmpI x y))/\∃q os,w'=grow (w.drewN q) os:=by
 go_enter Tryz.func63,Tryz.ntmps63
 go_wp2_with (go_at_call 84;refine(cmp_any _ _ _).mono ?_;rintro e w' ⟨rfl,rfl⟩)
 go_ret
 exact⟨rfl,0,_,grow2 _ _ _⟩
theorem cmpTurns_g (s t:Tn)(w:World) :
  Calls Tryz.prog 65 #[.agg #[.int .i64 s.frm,.int .i64 s.to,.int .i64 s.cost],.agg #[.int .i64 t.frm,.int .i64 t.to,.int .i64 t.cost]] w λe w'=>e=.returned (.int .i64 (cmpT s t))/\∃q os,w'=grow (w.drewN q) os:=by
 go_enter Tryz.func65,Tryz.ntmps65
 go_wp2_with fail
 go_region_held3 (λw'=>w'.cell? ⟨w.heap.size,0,none⟩=some (.int .i64 s.frm)/\w'.cell? ⟨w.heap.size,1,none⟩=some (.int .i64 s.to)/\w'.cell? ⟨w.heap.size+1,0,none⟩=some (.int .i64 t.frm)/\w'.cell? ⟨w.heap.size+1,1,none⟩=some (.int .i64 t.to)) (go_keep) (first|(go_at_call 84;refine(cmp_any _ _ _).mono ?_;rintro e w' ⟨rfl,rfl⟩)|(go_at_call 87;refine(or_any _ _ _ (cmpI s.frm t.frm) (cmpI s.to t.to) _ (by exact fresh0 _ _ _ _ _ (by simp)) (by exact fresh1 _ _ _ _ _ (by simp))).mono ?_;rintro e w' ⟨rfl,rfl⟩))
 all_goals go_wp2
 all_goals
  go_ret
  exact⟨rfl,1,_,grow3 _ _ _ _⟩
abbrev Sv:=Option Addr×Nat×Nat
def slv (s:Sv):Value:=.slice s.1 s.2.1 s.2.2
abbrev Wa:=Wy×Sv×Sv
abbrev Ra:=Rl×Sv
def encW (x:Wa):List Value:=wayL x.1 (slv x.2.1) (slv x.2.2)
def encR (x:Ra):List Value:=relL x.1 (slv x.2)
theorem swo_key {α:Type}(key:α->Int×Int)(cf:α->α->Int)(h:∀x y,cf x y<0↔((key x).1<(key y).1\/((key x).1=(key y).1/\(key x).2<(key y).2))):SWO (ltOf cf) where
 irrefl x:=by
  unfold ltOf
  rw[decide_eq_false_iff_not,h];omega
 trans x y z h1 h2:=by
  unfold ltOf at *
  rw[decide_eq_true_eq,h] at *;omega
 ntrans x y z h1 h2:=by
  unfold ltOf at *
  rw[decide_eq_false_iff_not,h] at *;omega
theorem cmpI_key (x y:Int):cmpI x y<0↔(x<y\/(x=y/\(0:Int)<0)):=by
 unfold cmpI
 split
 ·omega
 ·split<;>omega
theorem cmpT_key (s t:Tn):cmpT s t<0↔(s.frm<t.frm\/(s.frm=t.frm/\s.to<t.to)):=by
 unfold cmpT orI cmpI
 by_cases h1:s.frm<t.frm
 ·simp[h1]
 ·by_cases h2:t.frm<s.frm
  ·simp[h1,h2];omega
  ·have e:s.frm=t.frm:=by omega
   by_cases h3:s.to<t.to
   ·simp[h1,h2,h3];omega
   ·by_cases h4:t.to<s.to<;>simp[h1,h2,h3,h4]
theorem sortF_any {α:Type} [Inhabited α] {ρ:Ren}(L:SlLaysF0.n6 Tryz.prog ρ)(k:Nat)(aE:∀w,(isAgg (ρ.t 24)).run Tryz.prog w=.ok true w)(zE:∀w,(Go.sizeOf (ρ.t 24)).run Tryz.prog w=.ok k w)(enc:α->List Value)(hk:∀x,(enc x).length=k)(h1:∀x,∀v∈enc x,v.oneCell'=true)(cf:α->α->Int)(hO:SWO (ltOf cf))(g:Nat)(eg:∀args w,(callFunc g args).run Tryz.prog w=.ok (.enter g args) w)
  (hcmp:∀x y W,Calls Tryz.prog g #[.agg (enc x).toArray,.agg (enc y).toArray] W λe w'=>e=.returned (.int .i64 (cf x y))/\∃q os,w'=grow (W.drewN q) os)
  (C t:Nat) (v:Value) (l:List α) (w:World) (h:w.ownsRow C t k v l.length (l.flatMap enc)) (hl:l.length<4611686018427387904) :
  Calls Tryz.prog (ρ.f 6) #[v,.func (.func g) #[] #[]] w λe w'=>e=.returned (.tuple #[])/\∃l':List α,l'.Perm l/\l'.Pairwise (λx y=>¬cf y x<0)/\w'.ownsRow C t k v l'.length (l'.flatMap enc)/\Chg (λx=>some x=v.ownBlock) w w':=by
 obtain⟨a,c,rfl⟩:=row_slice h
 by_cases hp:l.length=0
 ·have e:l=[]:=List.length_eq_zero_iff.1 hp
  subst e
  refine(AnyF.slices_SortFunc_none L a c _ w).mono ?_
  rintro e w' ⟨rfl,rfl⟩
  exact⟨rfl,[],List.Perm.refl _,List.Pairwise.nil,h,⟨rfl,rfl,rfl,Nat.le_refl _,λ_ _ _=>rfl⟩⟩
 obtain⟨b,ea⟩:∃b,a=some ⟨b,0,none⟩:=by
  rcases h.2 with⟨e,e2⟩|⟨b,cap,cur,e,-⟩
  ·simp only[Value.slice.injEq] at e
   omega
  ·simp only[Value.slice.injEq] at e
   exact⟨b,e.1⟩
 subst ea
 have ef:(Sort.flatK enc k l.toArray).toList.map id=l.flatMap enc:=by rw[List.map_id,flatK_list enc k hk]
 have h':=h
 rw[<-ef] at h'
 obtain⟨hH,hb⟩:=row_holds (enc:=id) (d:=Sort.flatK enc k l.toArray) h' (by simp)
 have hS:=AnyQ.slices_SortFunc L k aE zE enc hk h1 cf hO g #[] b 0 c l.toArray w eg (λm os dk hs x y=>(hcmp x y _).mono λe w' hh=>hh) hH hb (by simpa using hl)
 have hsz:l.toArray.size=l.length:=by simp
 rw[hsz] at hS
 refine hS.mono ?_
 rintro e w' ⟨rfl,d',n,os,hpm,hso,rfl⟩
 have hds:d'.size=l.length:=by have:=hpm.1;simpa using this
 have hr:=row_putS (enc:=id) (m:=n) (os:=os) (d:=Sort.flatK enc k d') h (by simp[hds])
 have e2:(Sort.flatK enc k d').toList.map id=d'.toList.flatMap enc:=by rw[List.map_id,flatK_list enc k hk]
 rw[e2] at hr
 refine⟨rfl,d'.toList,?_,?_,?_,?_⟩
 ·have:=hpm.2.2
  have e3:d'.extract 0 l.length=d':=by rw[<-hds];exact Array.extract_size
  have e4:l.toArray.extract 0 l.length=l.toArray:=by rw[<-hsz];exact Array.extract_size
  rw[e3,e4] at this
  exact this
 ·rw[List.pairwise_iff_getElem]
  intro i j hi hj hij
  have:=hso i j (Nat.zero_le _) hij (by simpa [hds] using hj)
  have h3:i<d'.size:=by simpa using hi
  have h4:j<d'.size:=by simpa using hj
  rw[getElem!_pos d' i h3,getElem!_pos d' j h4] at this
  unfold ltOf at this
  simpa using this
 ·have e5:d'.toList.length=l.length:=by simp[hds]
  rw[e5]
  exact hr.1
 ·refine⟨hr.2.os,hr.2.tape,hr.2.output,hr.2.size,λx hx hn=>hr.2.block x hx (λe=>hn ?_)⟩
  have e':x=b:=e
  rw[e'];rfl
theorem sortI_any (C:Nat)(v:Value)(zs:List Int)(w:World)(h:OwnI C w v zs)(hl:zs.length<4611686018427387904) :
  Calls Tryz.prog 59 #[v] w λe w'=>e=.returned (.tuple #[])/\∃l':List Int,l'.Perm zs/\l'.Pairwise (λx y=>¬y<x)/\OwnI C w' v l'/\Chg (λx=>some x=v.ownBlock) w w':=by
 obtain⟨a,c,rfl⟩:=row_slice h
 by_cases hp:zs.length=0
 ·have e:zs=[]:=List.length_eq_zero_iff.1 hp
  subst e
  refine(AnyM.slices_Sort_int_none Tryz.sortI a c w).mono ?_
  rintro e w' ⟨rfl,rfl⟩
  exact⟨rfl,[],List.Perm.refl _,List.Pairwise.nil,h,⟨rfl,rfl,rfl,Nat.le_refl _,λ_ _ _=>rfl⟩⟩
 obtain⟨b,ea⟩:∃b,a=some ⟨b,0,none⟩:=by
  rcases h.2 with⟨e,e2⟩|⟨b,cap,cur,e,-⟩
  ·simp only[Value.slice.injEq] at e
   omega
  ·simp only[Value.slice.injEq] at e
   exact⟨b,e.1⟩
 subst ea
 obtain⟨hH,hb⟩:=row_holds (enc:=Value.int .i64) (d:=zs.toArray) h (by simp)
 refine(AnyM.slices_Sort_int Tryz.sortI b 0 c zs w hH hb hl).mono ?_
 rintro e w' ⟨rfl,n,os,rfl⟩
 have hml:(zs.mergeSort λx y=>decide (x<=y)).length=zs.length:=List.length_mergeSort _
 have hr:=row_putS (enc:=Value.int .i64) (m:=n) (os:=os) (d:=(zs.mergeSort λx y=>decide (x<=y)).toArray) h (by simp[hml])
 refine⟨rfl,zs.mergeSort λx y=>decide (x<=y),List.mergeSort_perm _ _,?_,?_,?_⟩
 ·have hs:=List.pairwise_mergeSort (le:=λx y:Int=>decide (x<=y)) (λa b c h1 h2=>by simp at *;omega) (λa b=>by simp;omega) zs
  exact hs.imp (λh=>by simp at h;omega)
 ·unfold OwnI
  rw[hml]
  exact hr.1
 ·refine⟨hr.2.os,hr.2.tape,hr.2.output,hr.2.size,λx hx hn=>hr.2.block x hx (λe=>hn ?_)⟩
  have e':x=b:=e
  rw[e'];rfl
end Go.Proofs.YthhkjbfkgdlkmaaGreatDoor
