import Derived.Test.YthhbdfiopjclcaaGreatDoorRows
import Derived.Test.YthhbdfiopjclcaaGreatDoorTie
import Derived.Test.YthhbdfiopjclcaaGreatDoorCards
import Derived.Test.YthhbdfiopjclcaaGreatDoorEL
import Derived.WalkKit
import Derived.ProofKit
import Derived.OpenShut
import Derived.ShutString
import Derived.ChangeOld
import Derived.Below
import Derived.LaidLaws
import Derived.Handed
import Derived.Lib.LaidTab
import Derived.Stop.LaidErr
import Derived.SevenTiedAt
namespace Go.Proofs.YthhbdfiopjclcaaGreatDoor
open Go.ChangeShapes Go.WideShapes Go.ChangeAt Go.RowKit
open Go.ChangeMaps (open_string shut_string)
set_option linter.unusedVariables false
set_option maxHeartbeats 16000000
theorem spot_code {w:World}{a:Addr}{v:Value}(h:w.cell? (a.add 0)=some v):∃b off,a=⟨b,off,none⟩:=by
 have hs:=World.cell?_spot h
 obtain⟨b,off,s⟩:=a
 simp[Addr.add] at hs
 exact⟨b,off,by rw[hs]⟩
theorem add_code (b off i:Nat):(⟨b,off,none⟩:Addr).add i=⟨b,off+i,none⟩:=by
 unfold Addr.add
 by_cases hi:i=0<;>simp[hi]
theorem cellsU8:Tryz.prog.cellsOf 5=1:=by kernel_rfl
theorem byte_of {z:Int}(h:(Lit.int .u8 z).wf=true):((UInt8.ofNat z.toNat).toNat:Int)=z:=by
 have h2:0<=z/\z<=255:=by simpa [Lit.wf,IntKind.min,IntKind.max,IntKind.signed,IntKind.bits] using h
 rw[UInt8.toNat_ofNat']
 omega
set_option maxRecDepth 100000 in
theorem open_byte_list {H:Type}{enc:TypeId×Value->H}{w:World}{m n c:Nat}{a:Option Addr}{y:DataW H×List MemPlace}(hf:DataW.trod enc Tryz.prog w 0 (λ_=>true) true m 22 [.slice a n c]=some y):∃bs,HBy 0 w (.slice a n c) bs:=by
 rcases open_ints Tryz.underlying22 Tryz.underlying5 cellsU8 hf with⟨hcs,_⟩|⟨a',len,cap,zs,hcs,_,hl,hm,hz,_,hcell,hwf⟩
 ·simp only[List.cons.injEq,Value.slice.injEq,and_true] at hcs
  obtain⟨rfl,rfl,rfl⟩:=hcs
  exact⟨[],none,0,rfl,Nat.zero_le _,λh0=>absurd h0 (Nat.lt_irrefl _)⟩
 ·simp only[List.cons.injEq,Value.slice.injEq,and_true] at hcs
  obtain⟨rfl,rfl,rfl⟩:=hcs
  have hz':zs.length=c:=by simpa using hz
  have hlen:((zs.take n).map λz=>UInt8.ofNat z.toNat).length=n:=by rw[List.length_map,List.length_take];omega
  refine⟨(zs.take n).map λz=>UInt8.ofNat z.toNat,some a',c,by rw[hlen],by rw[hlen];omega,λh0=>?_⟩
  rw[hlen] at h0
  obtain⟨b,off,rfl⟩:=spot_code (hcell 0 (by omega))
  refine⟨b,off,rfl,Nat.zero_le _,?_,λi hi=>?_⟩
  ·have h1:=hcell 0 (by omega)
   rw[add_code] at h1
   exact Zd h1
  ·rw[hlen] at hi
   have h1:=hcell i (by omega)
   rw[add_code] at h1
   rw[h1]
   have hi2:i<zs.length:=by omega
   have e1:zs.getD i 0=zs[i]:=by simp[List.getD,hi2]
   have e2:Xa ((zs.take n).map λz=>UInt8.ofNat z.toNat) i=zs[i]:=by
    unfold Xa
    have e3:((zs.take n).map λz=>UInt8.ofNat z.toNat).getD i 0=UInt8.ofNat (zs[i]).toNat:=by
     rw[List.getD_eq_getElem?_getD,List.getElem?_map,List.getElem?_take_of_lt hi,List.getElem?_eq_getElem hi2]
     rfl
    rw[e3]
    exact byte_of (hwf _ (List.getElem_mem hi2))
   rw[e1,e2]
theorem open_code {H:Type}{enc:TypeId×Value->H}{w:World}{v:Value}{d:DataW H}{p:List MemPlace}(h:DataW.Trod enc Tryz.prog w 0 (λ_=>true) true 22 v d p)(hs:∃a n c,v=.slice a n c):∃bs,HBy 0 w v bs:=by
 obtain⟨fuel,hf⟩:=h
 obtain⟨a,n,c,rfl⟩:=hs
 exact open_byte_list hf
theorem own:ownKnob Tryz.prog.godebug=none:=by kernel_rfl
theorem gT:Tryz.prog.globalNamed "internal/strconv.uint64pow10" = some 0:=by kernel_rfl
theorem gTType:(Tryz.prog.globals[0]?).map (·.type)=some 158:=by kernel_rfl
set_option maxRecDepth 100000 in
theorem tab_of_laid {W:World}(h:laidMet Tryz.prog Rows.fnResolveAccountsRow.laid W):Lib.TabIs Tryz.prog W "internal/strconv.uint64pow10" .u64 Lib.pow10Tab:=by
 have h':laidMet Tryz.prog [("math/bits.deBruijn32tab",Rows.laid_math_bits_deBruijn32tab),("math/bits.deBruijn64tab",Rows.laid_math_bits_deBruijn64tab),("internal/strconv.uint64pow10",Rows.laid_internal_strconv_uint64pow10)] W:=h
 have h2:laidMet Tryz.prog [("internal/strconv.uint64pow10",Lib.tabData .u64 Lib.pow10Tab)] W:=h'.tail.tail
 exact Lib.tabIs_of_head gT gTType Tryz.underlying158 Tryz.underlying148 (by kernel_rfl) (by kernel_rfl) h2
set_option maxRecDepth 100000 in
theorem lifted (os:Os)(started:os.Started)(H:Type)(enc:TypeId×Value->H) :
  ReturnsInHanded {} Tryz.checked os 3 .any (λw args=>(Rows.fnResolveAccountsSpec.pre enc Tryz.prog Tryz.f3 Rows.fnResolveAccountsRow.domain false w args/\laidMet Tryz.prog Rows.fnResolveAccountsRow.laid w)/\sizedMet enc Tryz.prog Tryz.f3 (OpenSpec.ofChange Rows.fnResolveAccountsSpec) false w args)
   (Rows.fnResolveAccountsSpec.post enc Tryz.prog Tryz.f3 false true false false):=by
 refine returnsInHanded_of_change_and (C:=Tryz.checked) (X:=λw _=>laidMet Tryz.prog Rows.fnResolveAccountsRow.laid w) (λ_ _ _ hh h=>h.of_heap hh) own started (by kernel_rfl) Tryz.func3
  (ChangeSpec.witness_at (enc:=enc) (C:=Tryz.checked) (os:=os) (X:=λw _=>laidMet Tryz.prog Rows.fnResolveAccountsRow.laid w) false ({ World.holding Tryz.prog os ⟨#[],#[],[]⟩ with heap := ((((World.holding Tryz.prog os ⟨#[],#[],[]⟩).heap.modify 0 fun
   |.cells _ t frozen=>.cells #[.int .u64 1,.int .u64 10,.int .u64 100,.int .u64 1000,.int .u64 10000,.int .u64 100000,.int .u64 1000000,.int .u64 10000000,.int .u64 100000000,.int .u64 1000000000,.int .u64 10000000000,.int .u64 100000000000,.int .u64 1000000000000,.int .u64 10000000000000,.int .u64 100000000000000,.int .u64 1000000000000000,.int .u64 10000000000000000,.int .u64 100000000000000000,.int .u64 1000000000000000000,.int .u64 10000000000000000000] t frozen
   |o=>o).modify 1 fun
   |.cells _ t frozen=>.cells #[.int .u8 0,.int .u8 1,.int .u8 28,.int .u8 2,.int .u8 29,.int .u8 14,.int .u8 24,.int .u8 3,.int .u8 30,.int .u8 22,.int .u8 20,.int .u8 15,.int .u8 25,.int .u8 17,.int .u8 4,.int .u8 8,.int .u8 31,.int .u8 27,.int .u8 13,.int .u8 23,.int .u8 21,.int .u8 19,.int .u8 16,.int .u8 7,.int .u8 26,.int .u8 12,.int .u8 18,.int .u8 6,.int .u8 11,.int .u8 5,.int .u8 10,.int .u8 9] t frozen
   |o=>o).modify 2 fun
   |.cells _ t frozen=>.cells #[.int .u8 0,.int .u8 1,.int .u8 56,.int .u8 2,.int .u8 57,.int .u8 49,.int .u8 28,.int .u8 3,.int .u8 61,.int .u8 58,.int .u8 42,.int .u8 50,.int .u8 38,.int .u8 29,.int .u8 17,.int .u8 4,.int .u8 62,.int .u8 47,.int .u8 59,.int .u8 36,.int .u8 45,.int .u8 43,.int .u8 51,.int .u8 22,.int .u8 53,.int .u8 39,.int .u8 33,.int .u8 30,.int .u8 24,.int .u8 18,.int .u8 12,.int .u8 5,.int .u8 63,.int .u8 55,.int .u8 48,.int .u8 27,.int .u8 60,.int .u8 41,.int .u8 37,.int .u8 16,.int .u8 46,.int .u8 35,.int .u8 44,.int .u8 21,.int .u8 52,.int .u8 32,.int .u8 23,.int .u8 11,.int .u8 54,.int .u8 26,.int .u8 40,.int .u8 15,.int .u8 34,.int .u8 20,.int .u8 31,.int .u8 10,.int .u8 25,.int .u8 14,.int .u8 19,.int .u8 9,.int .u8 13,.int .u8 8,.int .u8 7,.int .u8 6] t frozen
   |o=>o) }) #[.slice none 0 0] 8 rfl (by kernel_rfl) (by kernel_rfl) (by kernel_rfl) (by kernel_rfl) (by kernel_rfl) (laidMet_of_run' 8 (by kernel_rfl) (by kernel_rfl))) ?_
 intro W base args ds gs before hval0 hW _ _ hL _
 have hval:∀(j:Nat) t v,Tryz.f3.params[j]?=some t->args[j]?=some v->Value.okWide Tryz.prog W .any base t v:=hval0
 have hW':=hW
 obtain⟨p,q,hA0,hV,rfl,hfz,hnd⟩:=hW
 have hA:DataW.TrodAll enc Tryz.prog W 0 (λ_=>true) true Tryz.f3.params.toList args.toList ds p:=hA0
 rw[Tryz.params3] at hA hval
 obtain⟨v0,vs0,d0,ds0,p0,q0,hargs,rfl,rfl,h0,r0⟩:=trodAll_cons hA
 obtain⟨rfl,rfl,rfl⟩:=trodAll_nil r0
 obtain rfl:args=#[v0]:=by cases args;simp_all
 obtain⟨rfl,rfl⟩:=trodVars_none hV
 have k0:=h0
 have lt0:∀x∈p0,x.block<W.heap.size:=by obtain⟨m,hm⟩:=k0;exact DataW.trod_lt m _ _ _ hm
 obtain⟨P,hP⟩:=open_code h0 (okWide_slice Tryz.underlying22 (hval 0 22 v0 rfl rfl))
 clear hA0 hval0
 refine(accounts_any 0 v0 P W hP (tab_of_laid hL)).mono λe W' ⟨he,bel⟩=>?_
 subst he
 exact⟨_,rfl,_,_,_,[],_,[],hW',trodAll_mk1 (shut_bool Tryz.underlying4 _),(trodAll_cons_mk (Below.trod laidOut (by kernel_rfl) (of_decide_eq_true (by kernel_rfl)) k0 bel lt0) trodAll_mk0),rfl,bel.frame _,λh=>by cases h⟩
theorem over:Rows.fnResolveAccountsRow.holds Tryz.pinned (OpenSpec.ofChange Rows.fnResolveAccountsSpec):=
 OpenClaim.holds_of_wide 3 Tryz.f3 rfl rfl rfl rfl rfl rfl rfl ⟨rfl,rfl,rfl,rfl,rfl⟩ rfl rfl rfl rfl rfl (by kernel_rfl) Tryz.func3 (by kernel_rfl)
  (of_decide_eq_true (by kernel_rfl)) (by unfold Func.isWrapper;first|(rw[if_pos (by decide +kernel)];kernel_rfl)|(rw[if_neg (by decide +kernel)];exact⟨rfl,rfl⟩))
  (λos started H enc _=>lifted os started H enc)
theorem accounts_holds:Rows.FnResolveAccountsCardSaid:=
 Claim7.holds_tied_plain_at .later [] [.data,.data,.data] true (true,"8576b6cf9664f09d4ab5a5b9f206f8e9dd4e1263afcc99d174b7515a4ee32ee5") false
  over (λ_ h=>by cases h) (by kernel_rfl) (λ_ h=>by cases h) fnResolveAccounts_row_tie rfl ⟨rfl,rfl⟩ (by kernel_rfl) rfl
  (λf fn hf hfn=>by
   obtain rfl:f=3:=Option.some.inj ((show Tryz.prog.funcNamed "loop.example/s0019/laws.FnResolveAccounts" = some 3 by kernel_rfl).symm.trans hf) |>.symm
   obtain rfl:fn=Tryz.f3:=(Option.some.inj (Tryz.func3.symm.trans hfn)).symm
   exact⟨by kernel_rfl,λj t ht=>by
    rw[Tryz.params3] at ht
    have h3:t=22:=by
     rcases j with _|j
     ·simpa using ht.symm
     ·simp at ht
    subst h3
    exact(show Tryz.prog.wantsStandIn 22=false by kernel_rfl)⟩)
  (by kernel_rfl)
#print axioms accounts_holds
end Go.Proofs.YthhbdfiopjclcaaGreatDoor
