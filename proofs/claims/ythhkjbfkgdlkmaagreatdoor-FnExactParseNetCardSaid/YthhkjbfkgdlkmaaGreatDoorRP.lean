import Derived.Test.YthhkjbfkgdlkmaaGreatDoorRO
import Derived.Stop.Joined
namespace Go.Proofs.YthhkjbfkgdlkmaaGreatDoor
open Go.ChangeShapes Go.WideShapes Go.ChangeAt Go.RowKit
open Go.ChangeMaps (open_string shut_string)
set_option linter.unusedVariables false
set_option maxHeartbeats 16000000
set_option maxRecDepth 100000 in
theorem lifted (os:Os)(started:os.Started)(H:Type)(enc:TypeId×Value->H) :
  ReturnsInHanded {} Tryz.checked os 3 .any (λw args=>(Rows.fnExactParseNetSpec.pre enc Tryz.prog Tryz.f3 Rows.fnExactParseNetRow.domain false w args/\laidMetH Tryz.prog Rows.fnExactParseNetRow.laid w)/\sizedMet enc Tryz.prog Tryz.f3 (OpenSpec.ofChange Rows.fnExactParseNetSpec) false w args)
   (Rows.fnExactParseNetSpec.post enc Tryz.prog Tryz.f3 false true false false):=by
 refine returnsInHanded_of_calls own started (by kernel_rfl)
  (ChangeSpec.witness_at (enc:=enc) (C:=Tryz.checked) (os:=os) (X:=λw _=>laidMetH Tryz.prog Rows.fnExactParseNetRow.laid w) false ({ World.holding Tryz.prog os ⟨#[],#[],[]⟩ with heap:=((((World.holding Tryz.prog os ⟨#[],#[],[]⟩).heap.modify 0 fun
   |.cells _ t frozen=>.cells #[.iface 126 (.agg #[.pointer (some ⟨4,56,none⟩)])] t frozen
   |o=>o).modify 2 fun
   |.cells _ t frozen=>.cells (Go.Pinned.utf8FirstZ.map λn:Nat=>Value.int .u8 n).toArray t frozen
   |o=>o).modify 3 fun
   |.cells _ t frozen=>.cells #[.int .u8 128,.int .u8 191,.int .u8 160,.int .u8 191,.int .u8 128,.int .u8 159,.int .u8 144,.int .u8 191,.int .u8 128,.int .u8 143,.int .u8 0,.int .u8 0,.int .u8 0,.int .u8 0,.int .u8 0,.int .u8 0,.int .u8 0,.int .u8 0,.int .u8 0,.int .u8 0,.int .u8 0,.int .u8 0,.int .u8 0,.int .u8 0,.int .u8 0,.int .u8 0,.int .u8 0,.int .u8 0,.int .u8 0,.int .u8 0,.int .u8 0,.int .u8 0] t frozen
   |o=>o) }) #[.slice none 0 0] 8 rfl (by kernel_rfl) (by kernel_rfl) (by kernel_rfl) (by kernel_rfl) (by kernel_rfl) (laidMetH_of_parts (laidMet_of_run' 8 (by kernel_rfl) (by kernel_rfl)) (by kernel_rfl))) ?_
 intro w tape i _ hsh _ hok hpre _
 obtain⟨_,_,_,fn',hfn',_,_,_,_,hval0⟩:=hok
 have efn:fn'=Tryz.f3:=Option.some.inj (hfn'.symm.trans Tryz.func3)
 subst efn
 obtain⟨⟨⟨ds,gs,before,hw,hc⟩,hx⟩,hz⟩:=hpre
 have hw':=DataW.Whole.of_heap (w':=w.forCall tape i) (by rfl) hw
 have hL:laidMetH Tryz.prog Rows.fnExactParseNetRow.laid (w.forCall tape i):=laidMetH.of_heap (by rfl) hx
 have hG:Gv (w.forCall tape i):=⟨int_of_shape hsh (g:=1) (t:=3) (zero:=#[.int .i64 0]) (of_decide_eq_true (by kernel_rfl)) (by kernel_rfl) rfl (by kernel_rfl) (by kernel_rfl) Tryz.underlying3,handle_of hL⟩
 have hval:∀(j:Nat) t v,Tryz.f3.params[j]?=some t->i.args[j]?=some v->Value.okWide Tryz.prog (w.forCall tape i) .any w.heap.size t v:=hval0
 obtain⟨ifs,args,ivs⟩:=i
 generalize hWW:w.forCall tape ⟨ifs,args,ivs⟩=W at *
 obtain⟨p,q,hA0,hV,rfl,hfz,hnd⟩:=id hw'
 have hA:DataW.TrodAll enc Tryz.prog W 0 (λ_=>true) true Tryz.f3.params.toList args.toList ds p:=hA0
 rw[Tryz.params3] at hA hval
 obtain⟨v0,vs0,d0,ds0,p0,q0,hargs,rfl,rfl,h0,r0⟩:=trodAll_cons hA
 obtain⟨rfl,rfl,rfl⟩:=trodAll_nil r0
 obtain rfl:args=#[v0]:=by cases args;simp_all
 obtain⟨rfl,rfl⟩:=trodVars_none hV
 have k0:=h0
 have lt0:∀x∈p0,x.block<W.heap.size:=by obtain⟨m,hm⟩:=k0;exact DataW.trod_lt m _ _ _ hm
 obtain⟨a,n,c,rfl⟩:=okWide_slice Tryz.underlying22 (hval 0 22 v0 rfl rfl)
 obtain⟨bs,hB⟩:∃bs,HBy 0 W (.slice a n c) bs:=by obtain⟨fuel,hf⟩:=h0;exact open_byte_list hf
 refine(parselaw_any 0 a n c bs W hB hG).mono λe W' ⟨he,bel⟩=>?_
 subst he
 refine ChangeSpec.post_blind ?_
 exact⟨_,_,_,[],_,[],hw',trodAll_mk1 (shut_bool Tryz.underlying4 _),(trodAll_cons_mk (Below.trod laidOut (by kernel_rfl) (of_decide_eq_true (by kernel_rfl)) k0 bel lt0) trodAll_mk0),rfl,bel.frame _,λh=>by cases h⟩
theorem over:Rows.fnExactParseNetRow.holds Tryz.pinned (OpenSpec.ofChange Rows.fnExactParseNetSpec):=
 OpenClaim.holds_of_wide 3 Tryz.f3 rfl rfl rfl rfl rfl rfl rfl ⟨rfl,rfl,rfl,rfl,rfl⟩ rfl rfl rfl rfl rfl (by kernel_rfl) Tryz.func3 (by kernel_rfl)
  (of_decide_eq_true (by kernel_rfl)) (by unfold Func.isWrapper;first|(rw[if_pos (by decide +kernel)];kernel_rfl)|(rw[if_neg (by decide +kernel)];exact⟨rfl,rfl⟩))
  (λos started H enc _=>lifted os started H enc)
theorem parsenet_holds:Rows.FnExactParseNetCardSaid:=
 Claim7.holds_tied_plain_at .later [] [.data,.handle,.pinned] true (true,"b47d729cfb69aef49d58624960a6ebe57bf99da44ea1ac68c48c6be3abc34983") true
  over (λ_ h=>by cases h) (by kernel_rfl) (λ_ h=>by cases h) fnExactParseNet_row_tie rfl ⟨rfl,rfl⟩ (by kernel_rfl) rfl
  (λf fn hf hfn=>by
   obtain rfl:f=3:=Option.some.inj ((show Tryz.prog.funcNamed "loop.example/s0019/laws.FnExactParseNet" = some 3 by kernel_rfl).symm.trans hf) |>.symm
   obtain rfl:fn=Tryz.f3:=(Option.some.inj (Tryz.func3.symm.trans hfn)).symm
   exact⟨by kernel_rfl,λj t ht=>by
    rw[Tryz.params3] at ht
    have h3:t=22:=by
     rcases j with _|j
     ·simpa using ht.symm
     ·simp at ht
    subst h3
    exact(show Tryz.prog.wantsStandIn 22=false by kernel_rfl)⟩)
  (by kernel_rfl)
#print axioms parsenet_holds
end Go.Proofs.YthhkjbfkgdlkmaaGreatDoor
