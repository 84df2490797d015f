import Derived.Test.YtahpodmokbdjeaaGreatDoorQDC
import Derived.Test.YtahpodmokbdjeaaGreatDoorQME
namespace Go.Proofs.YtahpodmokbdjeaaGreatDoor
open Go.RowKit Go.Sort Go.Maps Go.Shelf Tryz
set_option linter.unusedVariables false
set_option maxRecDepth 1000000
set_option maxHeartbeats 16000000
theorem Qau:(173:TypeId)<prog.types.size:=of_decide_eq_true (by kernel_rfl)
theorem Qe2:(match prog.underlying 173 with|some (.array _ _)|some (.struct _)=>true|_=>false)=true:=by rw[underlying173]
theorem Tp:WideMaps.KeyLaw prog 173:=deep_law_laid Q2e (m:=3) (by omega) Qau (by kernel_rfl) Qe2
def Wq (v:Vx):Value:=.agg #[.int .i64 v.1,.int .i64 v.2]
theorem Kh {u v:Vx}(h:Wq u=Wq v):u=v:=by
 unfold Wq at h
 simp at h
 exact Prod.ext h.1 h.2
def Fit (v:Vx):Prop:=-1<=v.1/\v.1<=1000000/\-1<=v.2/\v.2<=1000000
theorem Q8a {z:Int}(h0:-1<=z)(h1:z<=1000000):(Lit.int .i64 z).wf=true:=by
 simp[Lit.wf,IntKind.min,IntKind.max,IntKind.signed,IntKind.bits]
 omega
theorem Pa {v:Vx}(h:Fit v):∃l,keyOf prog 173 (Wq v)=some l:=by
 have hk:prog.keyType 173=true:=by kernel_rfl
 have hc:prog.cellsOf 173=2:=by kernel_rfl
 have hc1:prog.cellsOf 2=1:=by kernel_rfl
 have hf:(Wq v).formed prog 173=true:=by simp[Wq,Value.formed,underlying173,hc]
 unfold keyOf
 rw[underlying173]
 simp only[hk,hf,Bool.and_self,if_true]
 have hts:0<prog.types.size:=Nat.lt_of_le_of_lt nZ Qau
 obtain⟨n,hn⟩:∃n,prog.types.size=n+1:=⟨prog.types.size-1,by omega⟩
 have k1:prog.keyLits (n+1) 2 [.int .i64 v.1]=some [.int .i64 v.1]:=by simp[Program.keyLits,underlying2,Q8a h.1 h.2.1]
 have k2:prog.keyLits (n+1) 2 [.int .i64 v.2]=some [.int .i64 v.2]:=by simp[Program.keyLits,underlying2,Q8a h.2.2.1 h.2.2.2]
 rw[hn]
 unfold Program.keyLits
 rw[underlying173]
 refine⟨.string (keyBytes [.int .i64 v.1,.int .i64 v.2]),?_⟩
 simp[Wq,Value.cells,hc,hc1,k1,k2]
def VM (w:World)(b:Nat)(ks:List Vx)(f:Vx->Int):Prop:=∃es clock,w.heap[b]?=some (.map es clock)/\es.toList.map (·.key)=ks.map Wq/\(∀e∈es.toList,∃v∈ks,e.key=Wq v/\e.val=.int .i64 (f v))/\∀k∈ks,Fit k
theorem VM.lt {w:World}{b:Nat}{ks:List Vx}{f:Vx->Int}(h:VM w b ks f):b<w.heap.size:=by
 obtain⟨es,clock,h1,r⟩:=h
 exact(Array.getElem?_eq_some_iff.1 h1).1
theorem VM.next {w w':World}{b:Nat}{ks:List Vx}{f:Vx->Int}(h:VM w b ks f)(k:Nx w w'):VM w' b ks f:=by
 have hl:=h.lt
 obtain⟨es,clock,h1,r⟩:=h
 exact⟨es,clock,(k.block b hl).trans h1,r⟩
theorem VM.chg {S:Nat->Prop}{w w':World}{b:Nat}{ks:List Vx}{f:Vx->Int}(h:VM w b ks f)(k:Chg S w w')(hn:¬S b):VM w' b ks f:=by
 have hl:=h.lt
 obtain⟨es,clock,h1,r⟩:=h
 exact⟨es,clock,(k.block b hl hn).trans h1,r⟩
theorem VM.keys {w:World}{b:Nat}{ks:List Vx}{f:Vx->Int}(h:VM w b ks f):∃es clock,w.heap[b]?=some (.map es clock)/\es.size=ks.length:=by
 obtain⟨es,clock,h1,h2,r⟩:=h
 refine⟨es,clock,h1,?_⟩
 have e:=congrArg List.length h2
 simpa using e
theorem VM.look {w:World}{b:Nat}{ks:List Vx}{f:Vx->Int}(h:VM w b ks f){v:Vx}(hv:Fit v)(ok:Bool):(Instr.lookup 164 (.map (some b)) (Wq v) ok).run prog w=.ok (if ok then .tuple #[.int .i64 (if v∈ks then f v else 0),.bool (decide (v∈ks))] else .int .i64 (if v∈ks then f v else 0)) w:=by
 obtain⟨es,clock,hb,h2,h3,hk⟩:=h
 obtain⟨l,hkey⟩:=Pa hv
 have hz:(zeroValue 2).run prog w=.ok (.int .i64 0) w:=by kernel_rfl
 have hks:∀e∈es.toList,∃l,keyOf prog 173 e.key=some l:=λe he=>by
  obtain⟨u,hu,e1,-⟩:=h3 e he
  rw[e1]
  exact Pa (hk u hu)
 rcases Tp.find w hkey es.toList hks with⟨h1,h4⟩|⟨j,e0,h1,h4,h5⟩
 ·have hn:v∉ks:=λhm=>by
   have h6:Wq v∈es.toList.map (·.key):=by rw[h2];exact List.mem_map.2 ⟨v,hm,rfl⟩
   obtain⟨x,hx,e⟩:=List.mem_map.1 h6
   exact h4 x hx e
  cases ok<;>simp[Instr.lookup,run_underlying underlying164,MapKept.run_getObj_map hb,Tp.check w _ hkey,h1,hz,Result.andThen,hn]
 ·obtain⟨u,hu,e1,e2⟩:=h3 e0 (yP h4)
  have e3:u=v:=Kh (e1.symm.trans h5)
  subst e3
  cases ok<;>simp[Instr.lookup,run_underlying underlying164,MapKept.run_getObj_map hb,Tp.check w _ hkey,h1,Result.andThen,hu,e2]
theorem VM.put {w:World}{b:Nat}{ks:List Vx}{f:Vx->Int}(h:VM w b ks f){v:Vx}(hv:Fit v)(x:Int)(hno:v∉ks):∃w',(Instr.mapUpdate 164 (.map (some b)) (Wq v) (.int .i64 x)).run prog w=.ok () w'/\VM w' b (ks++[v]) (λu=>if u=v then x else f u)/\Chg (λy=>y=b) w w':=by
 obtain⟨es,clock,hb,h2,h3,hk⟩:=h
 obtain⟨l,hkey⟩:=Pa hv
 have hks:∀e∈es.toList,∃l,keyOf prog 173 e.key=some l:=λe he=>by
  obtain⟨u,hu,e1,-⟩:=h3 e he
  rw[e1]
  exact Pa (hk u hu)
 rcases Tp.find w hkey es.toList hks with⟨h1,h4⟩|⟨j,e0,h1,h4,h5⟩
 ·refine⟨ChangeMaps.setBlock w b (.map (es.push ⟨Wq v,.int .i64 x,clock⟩) (clock+1)),by simp[Instr.mapUpdate,run_underlying underlying164,MapKept.run_getObj_map hb,Tp.check w false hkey,h1,MapKept.run_setObj_map _ hb,Result.andThen,ChangeMaps.setBlock],⟨_,_,ChangeMaps.heap_setBlock_same hb _,by simp[h2],λe he=>?_,λk hm=>?_⟩,⟨rfl,rfl,rfl,by simp[ChangeMaps.setBlock],λi _ hi=>ChangeMaps.heap_setBlock_other hb _ hi⟩⟩
  ·rw[Array.toList_push,yM,List.mem_singleton] at he
   rcases he with he|rfl
   ·obtain⟨u,hu,e1,e2⟩:=h3 e he
    refine⟨u,List.mem_append_left _ hu,e1,?_⟩
    show e.val=.int .i64 (if u=v then x else f u)
    rw[if_neg (show ¬u=v from λc=>hno (c▸hu))]
    exact e2
   ·exact⟨v,by simp,rfl,by simp⟩
  ·rcases List.mem_append.1 hm with g|g
   ·exact hk k g
   ·have:k=v:=by simpa using g
    subst this
    exact hv
 ·obtain⟨u,hu,e1,-⟩:=h3 e0 (yP h4)
  exact absurd ((Kh (e1.symm.trans h5))▸hu) hno
end Go.Proofs.YtahpodmokbdjeaaGreatDoor
