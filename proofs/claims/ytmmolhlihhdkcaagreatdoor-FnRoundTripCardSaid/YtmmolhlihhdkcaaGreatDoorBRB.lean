import Derived.Test.YtmmolhlihhdkcaaGreatDoorBQU
import Derived.LaidEql
import Derived.Stop.Asserts
import Derived.RowKitTokens
namespace Go.Proofs.YtmmolhlihhdkcaaGreatDoor
open Go.RowKit Go.Sort Go.Shelf Go.Extern.Stop Go.Stop Go.Extern
set_option linter.unusedVariables false
set_option maxRecDepth 1000000
set_option maxHeartbeats 16000000
theorem Qbg (a:Addr)(w:World):(ReflectliteValue.unpack (.iface 63 (.pointer (some a)))).run Tryz.prog w=.ok (.agg #[.pointer (some ⟨7,63,none⟩),.pointer (some ⟨w.heap.size,0,none⟩),.int .u64 150]) (w.alloc (.cells #[.pointer (some a)] 63)):=by kernel_rfl
theorem Q8r (a:Addr)(w:World):(ReflectliteValue.methodAny (ReflectliteValue.valueError "reflectlite.Value.Type" 0) (λt _ _ _=>ReflectliteType.toType t) #[.agg #[.pointer (some ⟨7,63,none⟩),.pointer (some a),.int .u64 150]]).run Tryz.prog w=.ok (.iface 142 (.agg #[.pointer (some ⟨7,63,none⟩)])) w:=by kernel_rfl
theorem Q8s (h:Value)(w:World):(Go.method 394 142 (.agg #[h]) "Kind").run Tryz.prog w=.ok (224,h) w:=by kernel_rfl
theorem Q8t (h:Value)(w:World):(Go.method 394 142 (.agg #[h]) "Elem").run Tryz.prog w=.ok (236,.agg #[h]) w:=by kernel_rfl
theorem Gw (h:Value)(w:World):(Go.method 394 142 (.agg #[h]) "Implements").run Tryz.prog w=.ok (237,.agg #[h]) w:=by kernel_rfl
theorem I4 (h:Value)(w:World):(Go.method 394 142 (.agg #[h]) "AssignableTo").run Tryz.prog w=.ok (234,.agg #[h]) w:=by kernel_rfl
theorem Q3j (h:Value)(w:World):(Go.method 394 89 h "Unwrap").run Tryz.prog w=.ok (229,h) w:=by kernel_rfl
theorem Q8u (w:World):((ReflectliteType.abiMethod λt=>(λa:Nat=>Value.int IntKind.u8 (a:Int)) <$> Rtype.kind t) #[.pointer (some ⟨7,63,none⟩)]).run Tryz.prog w=.ok (.int .u8 22) w:=by kernel_rfl
theorem Q8v (w:World):((ReflectliteType.abiMethod λt=>(λa:Nat=>Value.int IntKind.u8 (a:Int)) <$> Rtype.kind t) #[.pointer (some ⟨7,61,none⟩)]).run Tryz.prog w=.ok (.int .u8 22) w:=by kernel_rfl
theorem rf_m {z:Sem Value}{f:TypeId->Addr->Nat->Nat->Sem Value}{v:Value}{w:World}{t:TypeId}{a:Addr}{fl:Nat}{r:Result Value}(h:(ReflectliteValue.parts v).run Tryz.prog w=.ok (some (t,a,fl)) w)(k:(f t a fl (fl%32)).run Tryz.prog w=r):(ReflectliteValue.method z f #[v]).run Tryz.prog w=r:=by
 obtain⟨g,e,hg⟩:∃g,ReflectliteValue.method z f #[v]=(ReflectliteValue.parts v>>=g)/\∀t a fl,g (some (t,a,fl))=f t a fl (fl%32):=⟨_,rfl,λ_ _ _=>rfl⟩
 rw[e,Sem.run_bind,h]
 simp only[Result.andThen,hg]
 exact k
theorem A7 (a:Addr)(w:World):(ReflectliteValue.parts (.agg #[.pointer (some ⟨7,63,none⟩),.pointer (some a),.int .u64 150])).run Tryz.prog w=.ok (some (63,a,150)) w:=by kernel_rfl
theorem Q6u (a p:Addr)(W:World)(ha:W.cell? a=some (.pointer (some p))) :
  (ReflectliteValue.method (ReflectliteValue.valueError "reflectlite.Value.IsNil" 0) ReflectliteValue.isNil #[.agg #[.pointer (some ⟨7,63,none⟩),.pointer (some a),.int .u64 150]]).run Tryz.prog W=.ok (.bool false) W:=by
 refine rf_m (A7 _ _) ?_
 simp[ReflectliteValue.isNil,loadVar,isAgg,underlying,Tryz.underlying63,ha,Result.andThen]
theorem Q8x (w:World):(ReflectliteType.method ReflectliteType.elem #[.agg #[.pointer (some ⟨7,63,none⟩)]]).run Tryz.prog w=.ok (.iface 142 (.agg #[.pointer (some ⟨7,61,none⟩)])) w:=by kernel_rfl
theorem Q8w (w:World):(ReflectliteType.relation "Implements" ReflectliteType.implements_ #[.agg #[.pointer (some ⟨7,61,none⟩)],.iface 142 (.agg #[.pointer (some ⟨7,58,none⟩)])]).run Tryz.prog w=.ok (.bool true) w:=by kernel_rfl
theorem Q3h (v:Value)(w:World):(ReflectliteType.typeOf #[.iface 61 v]).run Tryz.prog w=.ok (.iface 142 (.agg #[.pointer (some ⟨7,61,none⟩)])) w:=by kernel_rfl
theorem Q3n (w:World):(ReflectliteType.relation "AssignableTo" ReflectliteType.assignableTo #[.agg #[.pointer (some ⟨7,61,none⟩)],.iface 142 (.agg #[.pointer (some ⟨7,61,none⟩)])]).run Tryz.prog w=.ok (.bool true) w:=by kernel_rfl
theorem Q3g (v:Value)(w:World):(ReflectliteType.typeOf #[.iface 89 v]).run Tryz.prog w=.ok (.iface 142 (.agg #[.pointer (some ⟨7,89,none⟩)])) w:=by kernel_rfl
theorem Q3m (w:World):(ReflectliteType.relation "AssignableTo" ReflectliteType.assignableTo #[.agg #[.pointer (some ⟨7,89,none⟩)],.iface 142 (.agg #[.pointer (some ⟨7,61,none⟩)])]).run Tryz.prog w=.ok (.bool false) w:=by kernel_rfl
theorem Qbh (e:Addr)(w:World):(ReflectliteValue.unpack (.iface 61 (.pointer (some e)))).run Tryz.prog w=.ok (.agg #[.pointer (some ⟨7,61,none⟩),.pointer (some ⟨w.heap.size,0,none⟩),.int .u64 150]) (w.alloc (.cells #[.pointer (some e)] 61)):=by kernel_rfl
theorem Q3k (w:World):(Rtype.elem? 63).run Tryz.prog w=.ok (some 61) w:=by kernel_rfl
theorem Qdy (p:Addr)(w:World):(ReflectliteValue.mk 61 p ReflectliteValue.flagAddr).run Tryz.prog w=.ok (.agg #[.pointer (some ⟨7,61,none⟩),.pointer (some p),.int .u64 406]) w:=by kernel_rfl
theorem Q6v (a p:Addr)(W:World)(ha:W.cell? a=some (.pointer (some p))) :
  (ReflectliteValue.method (ReflectliteValue.valueError "reflectlite.Value.Elem" 0) ReflectliteValue.elem #[.agg #[.pointer (some ⟨7,63,none⟩),.pointer (some a),.int .u64 150]]).run Tryz.prog W=.ok (.agg #[.pointer (some ⟨7,61,none⟩),.pointer (some p),.int .u64 406]) W:=by
 refine rf_m (A7 _ _) ?_
 simp[ReflectliteValue.elem,loadVar,isAgg,underlying,Tryz.underlying63,ha,Result.andThen,Q3k,Qdy]
theorem Q3i (a:Addr)(w:World):(ReflectliteValue.parts (.agg #[.pointer (some ⟨7,61,none⟩),.pointer (some a),.int .u64 406])).run Tryz.prog w=.ok (some (61,a,406)) w:=by kernel_rfl
theorem Q6t (a:Addr)(w:World):(ReflectliteValue.parts (.agg #[.pointer (some ⟨7,61,none⟩),.pointer (some a),.int .u64 150])).run Tryz.prog w=.ok (some (61,a,150)) w:=by kernel_rfl
theorem Q3l (w:World):(Rtype.directlyAssignable 61 61).run Tryz.prog w=.ok true w:=by kernel_rfl
theorem Qbi (ta b e:Addr)(old:Value)(W:World)(hb:W.cell? b=some (.pointer (some e)))(ht:W.cell? ta=some old)(hf:W.frozen? ta=false) :
  (ReflectliteValue.set #[.agg #[.pointer (some ⟨7,61,none⟩),.pointer (some ta),.int .u64 406],.agg #[.pointer (some ⟨7,61,none⟩),.pointer (some b),.int .u64 150]]).run Tryz.prog W=.ok (.tuple #[]) (W.setCell ta (.pointer (some e))):=by
 obtain⟨g,e1,h,e2,e3⟩:∃g:Option (TypeId×Addr×Nat)->Option (TypeId×Addr×Nat)->Sem Value,ReflectliteValue.set #[(.agg #[.pointer (some ⟨7,61,none⟩),.pointer (some ta),.int .u64 406]),(.agg #[.pointer (some ⟨7,61,none⟩),.pointer (some b),.int .u64 150])]=(ReflectliteValue.parts (.agg #[.pointer (some ⟨7,61,none⟩),.pointer (some ta),.int .u64 406])>>=λp=>ReflectliteValue.parts (.agg #[.pointer (some ⟨7,61,none⟩),.pointer (some b),.int .u64 150])>>=g p)/\∃h:Value->Bool->Sem Value,g (some (61,ta,406)) (some (61,b,150))=(loadVar 61 b>>=λu=>Rtype.directlyAssignable 61 61>>=h u)/\∀u,h u true=(storeVar 61 ta u>>=λ_=>pure (.tuple #[])):=⟨_,rfl,_,rfl,λ_=>rfl⟩
 rw[e1]
 simp only[Sem.run_bind,Q3i,Q6t,Result.andThen,e2]
 have hz:(sizeOf 61).run Tryz.prog W=.ok 1 W:=by kernel_rfl
 simp[loadVar,isAgg,underlying,Tryz.underlying61,hb,Result.andThen,Q3l,e3,storeVar,Value.cells,hz,storeCells,Addr.add]
 rw[run_store Tryz.prog W ta _ _ (by rfl)]
 simp[ht,hf]
theorem Qbd (v:Value)(xT:TypeId)(w:World):(Instr.typeAssert (.iface 89 v) xT 147 true).run Tryz.prog w=.ok (.tuple #[.nilIface,.bool false]) w:=run_typeAssert_lacksB Tryz.underlying147 (by kernel_rfl) (by kernel_rfl) v xT w
theorem Q6i (v:Value)(xT:TypeId)(w:World):(Instr.typeAssert (.iface 89 v) xT 150 true).run Tryz.prog w=.ok (.tuple #[.iface 89 v,.bool true]) w:=run_typeAssert_hasB Tryz.underlying150 (by kernel_rfl) v xT w
theorem Qeq (v:Value)(w:World):Calls Tryz.prog 31 #[.nilIface,v] w λe w'=>e=.returned (.bool false)/\w'=w:=by
 go_enter Tryz.func31,Tryz.ntmps31
 go_wp2
 go_ret
 exact⟨rfl,rfl⟩
theorem Qcj (sb fb:Nat)(t:Addr)(old:Value)(w:World)(hg:w.cell? ⟨0,0,none⟩=some (.iface 142 (.agg #[.pointer (some ⟨7,58,none⟩)])))(ht0:w.cell? t=some old)(hf0:w.frozen? t=false)(hs1:w.cell? ⟨sb,1,none⟩=some (.iface 61 (.pointer (some ⟨fb,0,none⟩)))) :
  Calls Tryz.prog 31 #[.iface 89 (.pointer (some ⟨sb,0,none⟩)),.iface 63 (.pointer (some t))] w λev w'=>ev=.returned (.bool true)/\w'=((((w.alloc (.cells #[.pointer (some t)] 63)).alloc (.cells #[.pointer (some ⟨7,63,none⟩),.pointer (some ⟨w.heap.size,0,none⟩),.int .u64 150] 101)).alloc (.cells #[.pointer (some ⟨7,63,none⟩),.pointer (some ⟨w.heap.size,0,none⟩),.int .u64 150] 101)).alloc (.cells #[.pointer (some ⟨fb,0,none⟩)] 61)).setCell t (.pointer (some ⟨fb,0,none⟩)):=by
 have htl:t.block<w.heap.size:=by
  rcases Nat.lt_or_ge t.block w.heap.size with h|h
  ·exact h
  ·simp[World.cell?,Array.getElem?_eq_none h] at ht0
 have hlt:0<w.heap.size:=by omega
 have hsl:=Zc hs1
 have x33:=@run_callFunc_extern Tryz.prog 60 _ (λargs=>ReflectliteValue.unpack (args.getD 0 (.tuple #[]))) Tryz.func60 (by kernel_rfl) (by kernel_rfl) (by kernel_rfl) (by kernel_rfl)
 have x34:=@run_callFunc_extern Tryz.prog 61 _ (ReflectliteValue.methodAny (ReflectliteValue.valueError "reflectlite.Value.Type" 0) (λt _ _ _=>ReflectliteType.toType t)) Tryz.func61 (by kernel_rfl) (by kernel_rfl) (by kernel_rfl) (by kernel_rfl)
 have x35:=@run_callFunc_extern Tryz.prog 62 _ (ReflectliteValue.method (ReflectliteValue.valueError "reflectlite.Value.IsNil" 0) ReflectliteValue.isNil) Tryz.func62 (by kernel_rfl) (by kernel_rfl) (by kernel_rfl) (by kernel_rfl)
 have xK:=@run_callFunc_extern Tryz.prog 224 _ (ReflectliteType.abiMethod λt=>do pure (.int .u8 (<-Rtype.kind t))) Tryz.func224 (by kernel_rfl) (by kernel_rfl) (by kernel_rfl) (by kernel_rfl)
 have xE:=@run_callFunc_extern Tryz.prog 236 _ (ReflectliteType.method ReflectliteType.elem) Tryz.func236 (by kernel_rfl) (by kernel_rfl) (by kernel_rfl) (by kernel_rfl)
 have xI:=@run_callFunc_extern Tryz.prog 237 _ (ReflectliteType.relation "Implements" ReflectliteType.implements_) Tryz.func237 (by kernel_rfl) (by kernel_rfl) (by kernel_rfl) (by kernel_rfl)
 have x66:=@run_callFunc_extern Tryz.prog 88 _ (ReflectliteType.typeOf) Tryz.func88 (by kernel_rfl) (by kernel_rfl) (by kernel_rfl) (by kernel_rfl)
 have xA:=@run_callFunc_extern Tryz.prog 234 _ (ReflectliteType.relation "AssignableTo" ReflectliteType.assignableTo) Tryz.func234 (by kernel_rfl) (by kernel_rfl) (by kernel_rfl) (by kernel_rfl)
 have x67:=@run_callFunc_extern Tryz.prog 89 _ (ReflectliteValue.method (ReflectliteValue.valueError "reflectlite.Value.Elem" 0) ReflectliteValue.elem) Tryz.func89 (by kernel_rfl) (by kernel_rfl) (by kernel_rfl) (by kernel_rfl)
 have x68:=@run_callFunc_extern Tryz.prog 90 _ (ReflectliteValue.set) Tryz.func90 (by kernel_rfl) (by kernel_rfl) (by kernel_rfl) (by kernel_rfl)
 have tO1:=Q3h
 have tOS:=Q3g
 have mA:=I4
 have a1:=Q3n
 have aS:=Q3m
 have v1:=Qbh
 have f6:=Qbg
 have f7:=Q8r
 have mK:=Q8s
 have mE:=Q8t
 have mI:=Gw
 have mU:=Q3j
 have k2:=Q8u
 have k1:=Q8v
 have e2:=Q8x
 have i1:=Q8w
 have tN:=Qbd
 have tU:=Q6i
 have n8:=Q6u ⟨w.heap.size,0,none⟩ t ((w.alloc (.cells #[.pointer (some t)] 63)).alloc (.cells #[.pointer (some ⟨7,63,none⟩),.pointer (some ⟨w.heap.size,0,none⟩),.int .u64 150] 101)) (by simp)
 have hg2:((w.alloc (.cells #[.pointer (some t)] 63)).alloc (.cells #[.pointer (some ⟨7,63,none⟩),.pointer (some ⟨w.heap.size,0,none⟩),.int .u64 150] 101)).cell? ⟨0,0,none⟩=some (.iface 142 (.agg #[.pointer (some ⟨7,58,none⟩)])):=by
  rw[World.cell?_alloc_lt _ _ ⟨0,0,none⟩ (by simp),World.cell?_alloc_lt _ _ ⟨0,0,none⟩ hlt];exact hg
 have hs3:(((w.alloc (.cells #[.pointer (some t)] 63)).alloc (.cells #[.pointer (some ⟨7,63,none⟩),.pointer (some ⟨w.heap.size,0,none⟩),.int .u64 150] 101)).alloc (.cells #[.pointer (some ⟨7,63,none⟩),.pointer (some ⟨w.heap.size,0,none⟩),.int .u64 150] 101)).cell? ⟨sb,1,none⟩=some (.iface 61 (.pointer (some ⟨fb,0,none⟩))):=by
  rw[World.cell?_alloc_lt _ _ ⟨sb,1,none⟩ (by simp;omega),World.cell?_alloc_lt _ _ ⟨sb,1,none⟩ (by simp;omega),World.cell?_alloc_lt _ _ ⟨sb,1,none⟩ hsl];exact hs1
 have el:=Q6v ⟨w.heap.size,0,none⟩ t (((w.alloc (.cells #[.pointer (some t)] 63)).alloc (.cells #[.pointer (some ⟨7,63,none⟩),.pointer (some ⟨w.heap.size,0,none⟩),.int .u64 150] 101)).alloc (.cells #[.pointer (some ⟨7,63,none⟩),.pointer (some ⟨w.heap.size,0,none⟩),.int .u64 150] 101)) (by rw[World.cell?_alloc_lt _ _ ⟨w.heap.size,0,none⟩ (by simp;omega)];simp)
 have st:=Qbi t ⟨w.heap.size+1+1+1,0,none⟩ ⟨fb,0,none⟩ old ((((w.alloc (.cells #[.pointer (some t)] 63)).alloc (.cells #[.pointer (some ⟨7,63,none⟩),.pointer (some ⟨w.heap.size,0,none⟩),.int .u64 150] 101)).alloc (.cells #[.pointer (some ⟨7,63,none⟩),.pointer (some ⟨w.heap.size,0,none⟩),.int .u64 150] 101)).alloc (.cells #[.pointer (some ⟨fb,0,none⟩)] 61))
  (by rw[World.cell?_alloc_at _ _ _ _ (by simp)];rfl)
  (by rw[World.cell?_alloc_lt _ _ t (by simp;omega),World.cell?_alloc_lt _ _ t (by simp;omega),World.cell?_alloc_lt _ _ t (by simp;omega),World.cell?_alloc_lt _ _ t htl];exact ht0)
  (by rw[World.frozen?_alloc_old _ _ t (by simp;omega),World.frozen?_alloc_old _ _ t (by simp;omega),World.frozen?_alloc_old _ _ t (by simp;omega),World.frozen?_alloc_old _ _ t (Nat.ne_of_lt htl)];exact hf0)
 go_enter Tryz.func31,Tryz.ntmps31
 go_wp2
 refine wp_loop_rounds 2 ?_
 rw[rounds_succ]
 go_wp2
 rw[rounds_succ]
 go_wp2
 go_ret
 exact⟨rfl,rfl⟩
end Go.Proofs.YtmmolhlihhdkcaaGreatDoor
