import Derived.Test.YtmmolhlihhdkcaaGreatDoorAWF
import Derived.Stop.Joined
namespace Go.Proofs.YtmmolhlihhdkcaaGreatDoor
open Go.ChangeShapes Go.WideShapes Go.ChangeAt Go.RowKit
open Go.ChangeMaps (open_string shut_string)
set_option linter.unusedVariables false
set_option maxHeartbeats 16000000
set_option maxRecDepth 100000 in
theorem Qf3 (os:Os)(started:os.Started)(H:Type)(enc:TypeId×Value->H) :
  ReturnsInHanded {} Tryz.checked os 4 .any (λw args=>(Rows.fnOrderSpec.pre enc Tryz.prog Tryz.f4 Rows.fnOrderRow.domain false w args/\laidMetH Tryz.prog Rows.fnOrderRow.laid w)/\sizedMet enc Tryz.prog Tryz.f4 (OpenSpec.ofChange Rows.fnOrderSpec) false w args)
   (Rows.fnOrderSpec.post enc Tryz.prog Tryz.f4 false true false false):=by
 refine returnsInHanded_of_calls own started (by kernel_rfl)
  (ChangeSpec.witness_at (enc:=enc) (C:=Tryz.checked) (os:=os) (X:=λw _=>laidMetH Tryz.prog Rows.fnOrderRow.laid w) false ({ World.holding Tryz.prog os ⟨#[],#[],[]⟩ with heap:=((((World.holding Tryz.prog os ⟨#[],#[],[]⟩).heap.modify 0 fun
   |.cells _ t frozen=>.cells #[.iface 142 (.agg #[.pointer (some ⟨7,58,none⟩)])] t frozen
   |o=>o).modify 3 fun
   |.cells _ t frozen=>.cells (Go.Pinned.utf8FirstZ.map λn:Nat=>Value.int .u8 n).toArray t frozen
   |o=>o).modify 4 fun
   |.cells _ t frozen=>.cells #[.int .u8 128,.int .u8 191,.int .u8 160,.int .u8 191,.int .u8 128,.int .u8 159,.int .u8 144,.int .u8 191,.int .u8 128,.int .u8 143,.int .u8 0,.int .u8 0,.int .u8 0,.int .u8 0,.int .u8 0,.int .u8 0,.int .u8 0,.int .u8 0,.int .u8 0,.int .u8 0,.int .u8 0,.int .u8 0,.int .u8 0,.int .u8 0,.int .u8 0,.int .u8 0,.int .u8 0,.int .u8 0,.int .u8 0,.int .u8 0,.int .u8 0,.int .u8 0] t frozen
   |o=>o) }) #[.slice none 0 0,.slice none 0 0] 8 rfl (by kernel_rfl) (by kernel_rfl) (by kernel_rfl) (by kernel_rfl) (by kernel_rfl) (laidMetH_of_parts (laidMet_of_run' 8 (by kernel_rfl) (by kernel_rfl)) (by kernel_rfl))) ?_
 intro w tape i _ hsh _ hok hpre _
 obtain⟨_,_,_,fn',hfn',_,_,_,_,hval0⟩:=hok
 have efn:fn'=Tryz.f4:=Option.some.inj (hfn'.symm.trans Tryz.func4)
 subst efn
 obtain⟨⟨⟨ds,gs,before,hw,hc⟩,hx⟩,hz⟩:=hpre
 have hw':=DataW.Whole.of_heap (w':=w.forCall tape i) (by rfl) hw
 have hL:laidMetH Tryz.prog Rows.fnOrderRow.laid (w.forCall tape i):=laidMetH.of_heap (by rfl) hx
 have hLL:laidMet Tryz.prog [("unicode/utf8.acceptRanges",Rows.laid_unicode_utf8_acceptRanges),("unicode/utf8.first",Rows.laid_unicode_utf8_first)] (w.forCall tape i)/\handlesMet Tryz.prog [("errors.errorType",Rows.laid_errors_errorType)] (w.forCall tape i):=hL
 have hG:Gv (w.forCall tape i):=⟨Q0u hsh (g:=1) (t:=3) (zero:=#[.int .i64 0]) (of_decide_eq_true (by kernel_rfl)) (by kernel_rfl) rfl (by kernel_rfl) (by kernel_rfl) Tryz.underlying3,Q7t hLL.2⟩
 have hval:∀(j:Nat) t v,Tryz.f4.params[j]?=some t->i.args[j]?=some v->Value.okWide Tryz.prog (w.forCall tape i) .any w.heap.size t v:=hval0
 obtain⟨ifs,args,ivs⟩:=i
 generalize hWW:w.forCall tape ⟨ifs,args,ivs⟩=W at *
 obtain⟨p,q,hA0,hV,rfl,hfz,hnd⟩:=id hw'
 have hA:DataW.TrodAll enc Tryz.prog W 0 (λ_=>true) true Tryz.f4.params.toList args.toList ds p:=hA0
 rw[Tryz.params4] at hA hval
 obtain⟨v0,vs0,d0,ds0,p0,q0,hargs,rfl,rfl,h0,r0⟩:=trodAll_cons hA
 obtain⟨v1,vs1,d1,ds1,p1,q1,hargs1,rfl,rfl,h1,r1⟩:=trodAll_cons r0
 obtain⟨rfl,rfl,rfl⟩:=trodAll_nil r1
 obtain rfl:args=#[v0,v1]:=by cases args;simp_all
 obtain⟨rfl,rfl⟩:=trodVars_none hV
 have k0:=h0
 have k1:=h1
 have lt0:∀x∈p0,x.block<W.heap.size:=by obtain⟨m,hm⟩:=k0;exact DataW.trod_lt m _ _ _ hm
 have lt1:∀x∈p1,x.block<W.heap.size:=by obtain⟨m,hm⟩:=k1;exact DataW.trod_lt m _ _ _ hm
 obtain⟨a,n,c,rfl⟩:=okWide_slice Tryz.underlying22 (hval 0 22 v0 rfl rfl)
 obtain⟨a',n',c',rfl⟩:=okWide_slice Tryz.underlying22 (hval 1 22 v1 rfl rfl)
 obtain⟨bs,hB⟩:∃bs,HBy 0 W (.slice a n c) bs:=by obtain⟨fuel,hf⟩:=h0;exact Wo hf
 obtain⟨bs',hB'⟩:∃bs,HBy 0 W (.slice a' n' c') bs:=by obtain⟨fuel,hf⟩:=h1;exact Wo hf
 refine(Q0o 0 (.slice a n c) (.slice a' n' c') bs bs' W hB hB' hG).mono λe W' ⟨he,bel⟩=>?_
 subst he
 refine ChangeSpec.post_blind ?_
 exact⟨_,_,_,[],_,[],hw',trodAll_mk1 (shut_bool Tryz.underlying4 _),(trodAll_cons_mk (Below.trod Q5y (by kernel_rfl) (of_decide_eq_true (by kernel_rfl)) k0 bel lt0) (trodAll_cons_mk (Below.trod Q5y (by kernel_rfl) (of_decide_eq_true (by kernel_rfl)) k1 bel lt1) trodAll_mk0)),rfl,bel.frame _,λh=>by cases h⟩
theorem over:Rows.fnOrderRow.holds Tryz.pinned (OpenSpec.ofChange Rows.fnOrderSpec):=
 OpenClaim.holds_of_wide 4 Tryz.f4 rfl rfl rfl rfl rfl rfl rfl ⟨rfl,rfl,rfl,rfl,rfl⟩ rfl rfl rfl rfl rfl (by kernel_rfl) Tryz.func4 (by kernel_rfl)
  (of_decide_eq_true (by kernel_rfl)) (by unfold Func.isWrapper;first|(rw[if_pos (by decide +kernel)];kernel_rfl)|(rw[if_neg (by decide +kernel)];exact⟨rfl,rfl⟩))
  (λos started H enc _=>Qf3 os started H enc)
theorem order_holds:Rows.FnOrderCardSaid:=
 Claim7.holds_tied_plain_at .later [] [.data,.handle,.pinned] true (true,"781e7344b81df3cc87c67818e5d34007101f2c71a3a629bcf87ab3ee3934efaf") true
  over (λ_ h=>by cases h) (by kernel_rfl) (λ_ h=>by cases h) fnOrder_row_tie rfl ⟨rfl,rfl⟩ (by kernel_rfl) rfl
  (λf fn hf hfn=>by
   obtain rfl:f=4:=Option.some.inj ((show Tryz.prog.funcNamed "loop.example/s0019/laws.FnOrder" = some 4 by kernel_rfl).symm.trans hf) |>.symm
   obtain rfl:fn=Tryz.f4:=(Option.some.inj (Tryz.func4.symm.trans hfn)).symm
   exact⟨by kernel_rfl,λj t ht=>by
    rw[Tryz.params4] at ht
    have h3:t=22:=by
     rcases j with _|_|j
     ·simpa using ht.symm
     ·simpa using ht.symm
     ·simp at ht
    subst h3
    exact(show Tryz.prog.wantsStandIn 22=false by kernel_rfl)⟩)
  (by kernel_rfl)
#print axioms order_holds
end Go.Proofs.YtmmolhlihhdkcaaGreatDoor
