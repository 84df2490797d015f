import Derived.Test.YthhkjbfkgdlkmaaGreatDoorQW
import Derived.WalkKit
import Derived.LaidEql
import Derived.Stop.Asserts
import Derived.RowKitTokens
namespace Go.Proofs.YthhkjbfkgdlkmaaGreatDoor
open Go.RowKit Go.Sort Go.Shelf Go.Extern.Stop Go.Stop Go.Extern
set_option linter.unusedVariables false
set_option maxRecDepth 1000000
set_option maxHeartbeats 16000000
theorem rf_val2 (a:Addr)(w:World):(ReflectliteValue.unpack (.iface 61 (.pointer (some a)))).run Tryz.prog w=.ok (.agg #[.pointer (some ⟨4,61,none⟩),.pointer (some ⟨w.heap.size,0,none⟩),.int .u64 150]) (w.alloc (.cells #[.pointer (some a)] 61)):=by kernel_rfl
theorem rf_type2 (a:Addr)(w:World):(ReflectliteValue.methodAny (ReflectliteValue.valueError "reflectlite.Value.Type" 0) (λt _ _ _=>ReflectliteType.toType t) #[.agg #[.pointer (some ⟨4,61,none⟩),.pointer (some a),.int .u64 150]]).run Tryz.prog w=.ok (.iface 126 (.agg #[.pointer (some ⟨4,61,none⟩)])) w:=by kernel_rfl
theorem rf_mKind (h:Value)(w:World):(Go.method 360 126 (.agg #[h]) "Kind").run Tryz.prog w=.ok (187,h) w:=by kernel_rfl
theorem rf_mElem (h:Value)(w:World):(Go.method 360 126 (.agg #[h]) "Elem").run Tryz.prog w=.ok (199,.agg #[h]) w:=by kernel_rfl
theorem rf_mImplements (h:Value)(w:World):(Go.method 360 126 (.agg #[h]) "Implements").run Tryz.prog w=.ok (200,.agg #[h]) w:=by kernel_rfl
theorem rf_mAssignableTo (h:Value)(w:World):(Go.method 360 126 (.agg #[h]) "AssignableTo").run Tryz.prog w=.ok (197,.agg #[h]) w:=by kernel_rfl
theorem rf_mUnwrap (h:Value)(w:World):(Go.method 360 73 h "Unwrap").run Tryz.prog w=.ok (192,h) w:=by kernel_rfl
theorem rf_kind2 (w:World):((ReflectliteType.abiMethod λt=>(λa:Nat=>Value.int IntKind.u8 (a:Int)) <$> Rtype.kind t) #[.pointer (some ⟨4,61,none⟩)]).run Tryz.prog w=.ok (.int .u8 22) w:=by kernel_rfl
theorem rf_kind1 (w:World):((ReflectliteType.abiMethod λt=>(λa:Nat=>Value.int IntKind.u8 (a:Int)) <$> Rtype.kind t) #[.pointer (some ⟨4,59,none⟩)]).run Tryz.prog w=.ok (.int .u8 22) w:=by kernel_rfl
theorem rf_m {z:Sem Value}{f:TypeId->Addr->Nat->Nat->Sem Value}{v:Value}{w:World}{t:TypeId}{a:Addr}{fl:Nat}{r:Result Value}(h:(ReflectliteValue.parts v).run Tryz.prog w=.ok (some (t,a,fl)) w)(k:(f t a fl (fl%32)).run Tryz.prog w=r):(ReflectliteValue.method z f #[v]).run Tryz.prog w=r:=by
 obtain⟨g,e,hg⟩:∃g,ReflectliteValue.method z f #[v]=(ReflectliteValue.parts v>>=g)/\∀t a fl,g (some (t,a,fl))=f t a fl (fl%32):=⟨_,rfl,λ_ _ _=>rfl⟩
 rw[e,Sem.run_bind,h]
 simp only[Result.andThen,hg]
 exact k
theorem rf_parts2 (a:Addr)(w:World):(ReflectliteValue.parts (.agg #[.pointer (some ⟨4,61,none⟩),.pointer (some a),.int .u64 150])).run Tryz.prog w=.ok (some (61,a,150)) w:=by kernel_rfl
theorem rf_isNil2 (a p:Addr)(W:World)(ha:W.cell? a=some (.pointer (some p))) :
  (ReflectliteValue.method (ReflectliteValue.valueError "reflectlite.Value.IsNil" 0) ReflectliteValue.isNil #[.agg #[.pointer (some ⟨4,61,none⟩),.pointer (some a),.int .u64 150]]).run Tryz.prog W=.ok (.bool false) W:=by
 refine rf_m (rf_parts2 _ _) ?_
 simp[ReflectliteValue.isNil,loadVar,isAgg,underlying,Tryz.underlying61,ha,Result.andThen]
theorem rf_elem2 (w:World):(ReflectliteType.method ReflectliteType.elem #[.agg #[.pointer (some ⟨4,61,none⟩)]]).run Tryz.prog w=.ok (.iface 126 (.agg #[.pointer (some ⟨4,59,none⟩)])) w:=by kernel_rfl
theorem rf_impl1 (w:World):(ReflectliteType.relation "Implements" ReflectliteType.implements_ #[.agg #[.pointer (some ⟨4,59,none⟩)],.iface 126 (.agg #[.pointer (some ⟨4,56,none⟩)])]).run Tryz.prog w=.ok (.bool true) w:=by kernel_rfl
theorem rf_typeOf1 (v:Value)(w:World):(ReflectliteType.typeOf #[.iface 59 v]).run Tryz.prog w=.ok (.iface 126 (.agg #[.pointer (some ⟨4,59,none⟩)])) w:=by kernel_rfl
theorem rf_assign1 (w:World):(ReflectliteType.relation "AssignableTo" ReflectliteType.assignableTo #[.agg #[.pointer (some ⟨4,59,none⟩)],.iface 126 (.agg #[.pointer (some ⟨4,59,none⟩)])]).run Tryz.prog w=.ok (.bool true) w:=by kernel_rfl
theorem rf_typeOfS (v:Value)(w:World):(ReflectliteType.typeOf #[.iface 73 v]).run Tryz.prog w=.ok (.iface 126 (.agg #[.pointer (some ⟨4,73,none⟩)])) w:=by kernel_rfl
theorem rf_assignS (w:World):(ReflectliteType.relation "AssignableTo" ReflectliteType.assignableTo #[.agg #[.pointer (some ⟨4,73,none⟩)],.iface 126 (.agg #[.pointer (some ⟨4,59,none⟩)])]).run Tryz.prog w=.ok (.bool false) w:=by kernel_rfl
theorem rf_val1 (e:Addr)(w:World):(ReflectliteValue.unpack (.iface 59 (.pointer (some e)))).run Tryz.prog w=.ok (.agg #[.pointer (some ⟨4,59,none⟩),.pointer (some ⟨w.heap.size,0,none⟩),.int .u64 150]) (w.alloc (.cells #[.pointer (some e)] 59)):=by kernel_rfl
theorem rf_elemOf2 (w:World):(Rtype.elem? 61).run Tryz.prog w=.ok (some 59) w:=by kernel_rfl
theorem rf_mk1 (p:Addr)(w:World):(ReflectliteValue.mk 59 p ReflectliteValue.flagAddr).run Tryz.prog w=.ok (.agg #[.pointer (some ⟨4,59,none⟩),.pointer (some p),.int .u64 406]) w:=by kernel_rfl
theorem rf_elemV2 (a p:Addr)(W:World)(ha:W.cell? a=some (.pointer (some p))) :
  (ReflectliteValue.method (ReflectliteValue.valueError "reflectlite.Value.Elem" 0) ReflectliteValue.elem #[.agg #[.pointer (some ⟨4,61,none⟩),.pointer (some a),.int .u64 150]]).run Tryz.prog W=.ok (.agg #[.pointer (some ⟨4,59,none⟩),.pointer (some p),.int .u64 406]) W:=by
 refine rf_m (rf_parts2 _ _) ?_
 simp[ReflectliteValue.elem,loadVar,isAgg,underlying,Tryz.underlying61,ha,Result.andThen,rf_elemOf2,rf_mk1]
theorem rf_parts1a (a:Addr)(w:World):(ReflectliteValue.parts (.agg #[.pointer (some ⟨4,59,none⟩),.pointer (some a),.int .u64 406])).run Tryz.prog w=.ok (some (59,a,406)) w:=by kernel_rfl
theorem rf_parts1 (a:Addr)(w:World):(ReflectliteValue.parts (.agg #[.pointer (some ⟨4,59,none⟩),.pointer (some a),.int .u64 150])).run Tryz.prog w=.ok (some (59,a,150)) w:=by kernel_rfl
theorem rf_direct1 (w:World):(Rtype.directlyAssignable 59 59).run Tryz.prog w=.ok true w:=by kernel_rfl
theorem rf_set1 (ta b e:Addr)(old:Value)(W:World)(hb:W.cell? b=some (.pointer (some e)))(ht:W.cell? ta=some old)(hf:W.frozen? ta=false) :
  (ReflectliteValue.set #[.agg #[.pointer (some ⟨4,59,none⟩),.pointer (some ta),.int .u64 406],.agg #[.pointer (some ⟨4,59,none⟩),.pointer (some b),.int .u64 150]]).run Tryz.prog W=.ok (.tuple #[]) (W.setCell ta (.pointer (some e))):=by
 obtain⟨g,e1,h,e2,e3⟩:∃g:Option (TypeId×Addr×Nat)->Option (TypeId×Addr×Nat)->Sem Value,ReflectliteValue.set #[(.agg #[.pointer (some ⟨4,59,none⟩),.pointer (some ta),.int .u64 406]),(.agg #[.pointer (some ⟨4,59,none⟩),.pointer (some b),.int .u64 150])]=(ReflectliteValue.parts (.agg #[.pointer (some ⟨4,59,none⟩),.pointer (some ta),.int .u64 406])>>=λp=>ReflectliteValue.parts (.agg #[.pointer (some ⟨4,59,none⟩),.pointer (some b),.int .u64 150])>>=g p)/\∃h:Value->Bool->Sem Value,g (some (59,ta,406)) (some (59,b,150))=(loadVar 59 b>>=λu=>Rtype.directlyAssignable 59 59>>=h u)/\∀u,h u true=(storeVar 59 ta u>>=λ_=>pure (.tuple #[])):=⟨_,rfl,_,rfl,λ_=>rfl⟩
 rw[e1]
 simp only[Sem.run_bind,rf_parts1a,rf_parts1,Result.andThen,e2]
 have hz:(sizeOf 59).run Tryz.prog W=.ok 1 W:=by kernel_rfl
 simp[loadVar,isAgg,underlying,Tryz.underlying59,hb,Result.andThen,rf_direct1,e3,storeVar,Value.cells,hz,storeCells,Addr.add]
 rw[run_store Tryz.prog W ta _ _ (by rfl)]
 simp[ht,hf]
theorem ta_noAs (v:Value)(xT:TypeId)(w:World):(Instr.typeAssert (.iface 73 v) xT 131 true).run Tryz.prog w=.ok (.tuple #[.nilIface,.bool false]) w:=run_typeAssert_lacksB Tryz.underlying131 (by kernel_rfl) (by kernel_rfl) v xT w
theorem ta_unwrap (v:Value)(xT:TypeId)(w:World):(Instr.typeAssert (.iface 73 v) xT 134 true).run Tryz.prog w=.ok (.tuple #[.iface 73 v,.bool true]) w:=run_typeAssert_hasB Tryz.underlying134 (by kernel_rfl) v xT w
theorem as_nil (v:Value)(w:World):Calls Tryz.prog 22 #[.nilIface,v] w λe w'=>e=.returned (.bool false)/\w'=w:=by
 go_enter Tryz.func22,Tryz.ntmps22
 go_wp2
 go_ret
 exact⟨rfl,rfl⟩
theorem as_step (sb fb:Nat)(t:Addr)(old:Value)(w:World)(hg:w.cell? ⟨0,0,none⟩=some (.iface 126 (.agg #[.pointer (some ⟨4,56,none⟩)])))(ht0:w.cell? t=some old)(hf0:w.frozen? t=false)(hs1:w.cell? ⟨sb,1,none⟩=some (.iface 59 (.pointer (some ⟨fb,0,none⟩)))) :
  Calls Tryz.prog 22 #[.iface 73 (.pointer (some ⟨sb,0,none⟩)),.iface 61 (.pointer (some t))] w λev w'=>ev=.returned (.bool true)/\w'=((((w.alloc (.cells #[.pointer (some t)] 61)).alloc (.cells #[.pointer (some ⟨4,61,none⟩),.pointer (some ⟨w.heap.size,0,none⟩),.int .u64 150] 85)).alloc (.cells #[.pointer (some ⟨4,61,none⟩),.pointer (some ⟨w.heap.size,0,none⟩),.int .u64 150] 85)).alloc (.cells #[.pointer (some ⟨fb,0,none⟩)] 59)).setCell t (.pointer (some ⟨fb,0,none⟩)):=by
 have htl:t.block<w.heap.size:=by
  rcases Nat.lt_or_ge t.block w.heap.size with h|h
  ·exact h
  ·simp[World.cell?,Array.getElem?_eq_none h] at ht0
 have hlt:0<w.heap.size:=by omega
 have hsl:=cell_lt hs1
 have x33:=@run_callFunc_extern Tryz.prog 33 _ (λargs=>ReflectliteValue.unpack (args.getD 0 (.tuple #[]))) Tryz.func33 (by kernel_rfl) (by kernel_rfl) (by kernel_rfl) (by kernel_rfl)
 have x34:=@run_callFunc_extern Tryz.prog 34 _ (ReflectliteValue.methodAny (ReflectliteValue.valueError "reflectlite.Value.Type" 0) (λt _ _ _=>ReflectliteType.toType t)) Tryz.func34 (by kernel_rfl) (by kernel_rfl) (by kernel_rfl) (by kernel_rfl)
 have x35:=@run_callFunc_extern Tryz.prog 35 _ (ReflectliteValue.method (ReflectliteValue.valueError "reflectlite.Value.IsNil" 0) ReflectliteValue.isNil) Tryz.func35 (by kernel_rfl) (by kernel_rfl) (by kernel_rfl) (by kernel_rfl)
 have xK:=@run_callFunc_extern Tryz.prog 187 _ (ReflectliteType.abiMethod λt=>do pure (.int .u8 (<-Rtype.kind t))) Tryz.func187 (by kernel_rfl) (by kernel_rfl) (by kernel_rfl) (by kernel_rfl)
 have xE:=@run_callFunc_extern Tryz.prog 199 _ (ReflectliteType.method ReflectliteType.elem) Tryz.func199 (by kernel_rfl) (by kernel_rfl) (by kernel_rfl) (by kernel_rfl)
 have xI:=@run_callFunc_extern Tryz.prog 200 _ (ReflectliteType.relation "Implements" ReflectliteType.implements_) Tryz.func200 (by kernel_rfl) (by kernel_rfl) (by kernel_rfl) (by kernel_rfl)
 have x66:=@run_callFunc_extern Tryz.prog 66 _ (ReflectliteType.typeOf) Tryz.func66 (by kernel_rfl) (by kernel_rfl) (by kernel_rfl) (by kernel_rfl)
 have xA:=@run_callFunc_extern Tryz.prog 197 _ (ReflectliteType.relation "AssignableTo" ReflectliteType.assignableTo) Tryz.func197 (by kernel_rfl) (by kernel_rfl) (by kernel_rfl) (by kernel_rfl)
 have x67:=@run_callFunc_extern Tryz.prog 67 _ (ReflectliteValue.method (ReflectliteValue.valueError "reflectlite.Value.Elem" 0) ReflectliteValue.elem) Tryz.func67 (by kernel_rfl) (by kernel_rfl) (by kernel_rfl) (by kernel_rfl)
 have x68:=@run_callFunc_extern Tryz.prog 68 _ (ReflectliteValue.set) Tryz.func68 (by kernel_rfl) (by kernel_rfl) (by kernel_rfl) (by kernel_rfl)
 have tO1:=rf_typeOf1
 have tOS:=rf_typeOfS
 have mA:=rf_mAssignableTo
 have a1:=rf_assign1
 have aS:=rf_assignS
 have v1:=rf_val1
 have f6:=rf_val2
 have f7:=rf_type2
 have mK:=rf_mKind
 have mE:=rf_mElem
 have mI:=rf_mImplements
 have mU:=rf_mUnwrap
 have k2:=rf_kind2
 have k1:=rf_kind1
 have e2:=rf_elem2
 have i1:=rf_impl1
 have tN:=ta_noAs
 have tU:=ta_unwrap
 have n8:=rf_isNil2 ⟨w.heap.size,0,none⟩ t ((w.alloc (.cells #[.pointer (some t)] 61)).alloc (.cells #[.pointer (some ⟨4,61,none⟩),.pointer (some ⟨w.heap.size,0,none⟩),.int .u64 150] 85)) (by simp)
 have hg2:((w.alloc (.cells #[.pointer (some t)] 61)).alloc (.cells #[.pointer (some ⟨4,61,none⟩),.pointer (some ⟨w.heap.size,0,none⟩),.int .u64 150] 85)).cell? ⟨0,0,none⟩=some (.iface 126 (.agg #[.pointer (some ⟨4,56,none⟩)])):=by
  rw[World.cell?_alloc_lt _ _ ⟨0,0,none⟩ (by simp),World.cell?_alloc_lt _ _ ⟨0,0,none⟩ hlt];exact hg
 have hs3:(((w.alloc (.cells #[.pointer (some t)] 61)).alloc (.cells #[.pointer (some ⟨4,61,none⟩),.pointer (some ⟨w.heap.size,0,none⟩),.int .u64 150] 85)).alloc (.cells #[.pointer (some ⟨4,61,none⟩),.pointer (some ⟨w.heap.size,0,none⟩),.int .u64 150] 85)).cell? ⟨sb,1,none⟩=some (.iface 59 (.pointer (some ⟨fb,0,none⟩))):=by
  rw[World.cell?_alloc_lt _ _ ⟨sb,1,none⟩ (by simp;omega),World.cell?_alloc_lt _ _ ⟨sb,1,none⟩ (by simp;omega),World.cell?_alloc_lt _ _ ⟨sb,1,none⟩ hsl];exact hs1
 have el:=rf_elemV2 ⟨w.heap.size,0,none⟩ t (((w.alloc (.cells #[.pointer (some t)] 61)).alloc (.cells #[.pointer (some ⟨4,61,none⟩),.pointer (some ⟨w.heap.size,0,none⟩),.int .u64 150] 85)).alloc (.cells #[.pointer (some ⟨4,61,none⟩),.pointer (some ⟨w.heap.size,0,none⟩),.int .u64 150] 85)) (by rw[World.cell?_alloc_lt _ _ ⟨w.heap.size,0,none⟩ (by simp;omega)];simp)
 have st:=rf_set1 t ⟨w.heap.size+1+1+1,0,none⟩ ⟨fb,0,none⟩ old ((((w.alloc (.cells #[.pointer (some t)] 61)).alloc (.cells #[.pointer (some ⟨4,61,none⟩),.pointer (some ⟨w.heap.size,0,none⟩),.int .u64 150] 85)).alloc (.cells #[.pointer (some ⟨4,61,none⟩),.pointer (some ⟨w.heap.size,0,none⟩),.int .u64 150] 85)).alloc (.cells #[.pointer (some ⟨fb,0,none⟩)] 59))
  (by rw[World.cell?_alloc_at _ _ _ _ (by simp)];rfl)
  (by rw[World.cell?_alloc_lt _ _ t (by simp;omega),World.cell?_alloc_lt _ _ t (by simp;omega),World.cell?_alloc_lt _ _ t (by simp;omega),World.cell?_alloc_lt _ _ t htl];exact ht0)
  (by rw[World.frozen?_alloc_old _ _ t (by simp;omega),World.frozen?_alloc_old _ _ t (by simp;omega),World.frozen?_alloc_old _ _ t (by simp;omega),World.frozen?_alloc_old _ _ t (Nat.ne_of_lt htl)];exact hf0)
 go_enter Tryz.func22,Tryz.ntmps22
 go_wp2
 refine wp_loop_rounds 2 ?_
 rw[rounds_succ]
 go_wp2
 rw[rounds_succ]
 go_wp2
 go_ret
 exact⟨rfl,rfl⟩
end Go.Proofs.YthhkjbfkgdlkmaaGreatDoor
