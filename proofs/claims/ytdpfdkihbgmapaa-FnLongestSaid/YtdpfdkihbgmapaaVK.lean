import Derived.Test.YtdpfdkihbgmapaaRows
import Derived.Test.YtdpfdkihbgmapaaVJ
import Derived.WalkKit
import Derived.ProofKit
import Derived.OpenShut
import Derived.ShutString
import Derived.ChangeOld
import Derived.Below
namespace Go.Proofs.Ytdpfdkihbgmapaa
open Go.ChangeShapes Go.WideShapes Go.ChangeAt Go.RowKit
open Go.ChangeMaps (open_string shut_string)
set_option linter.unusedVariables false
set_option maxHeartbeats 16000000
theorem spot_code {w:World}{a:Addr}{v:Value}(h:w.cell? (a.add 0)=some v):∃b off,a=⟨b,off,none⟩:=by
 have hs:=World.cell?_spot h
 obtain⟨b,off,s⟩:=a
 simp[Addr.add] at hs
 exact⟨b,off,by rw[hs]⟩
theorem add_code (b off i:Nat):(⟨b,off,none⟩:Addr).add i=⟨b,off+i,none⟩:=by
 unfold Addr.add
 by_cases hi:i=0<;>simp[hi]
theorem cellsU8:Try.prog.cellsOf 5=1:=by kernel_rfl
theorem byte_of {z:Int}(h:(Lit.int .u8 z).wf=true):((UInt8.ofNat z.toNat).toNat:Int)=z:=by
 have h2:0<=z/\z<=255:=by simpa [Lit.wf,IntKind.min,IntKind.max,IntKind.signed,IntKind.bits] using h
 rw[UInt8.toNat_ofNat']
 omega
set_option maxRecDepth 100000 in
theorem open_byte_list {H:Type}{enc:TypeId×Value->H}{w:World}{m n c:Nat}{a:Option Addr}{y:DataW H×List MemPlace}(hf:DataW.trod enc Try.prog w 0 (λ_=>true) true m 22 [.slice a n c]=some y):∃bs,HBy 0 w (.slice a n c) bs:=by
 rcases open_ints Try.underlying22 Try.underlying5 cellsU8 hf with⟨hcs,_⟩|⟨a',len,cap,zs,hcs,_,hl,hm,hz,_,hcell,hwf⟩
 ·simp only[List.cons.injEq,Value.slice.injEq,and_true] at hcs
  obtain⟨rfl,rfl,rfl⟩:=hcs
  exact⟨[],none,0,rfl,Nat.zero_le _,λh0=>absurd h0 (Nat.lt_irrefl _)⟩
 ·simp only[List.cons.injEq,Value.slice.injEq,and_true] at hcs
  obtain⟨rfl,rfl,rfl⟩:=hcs
  have hz':zs.length=c:=by simpa using hz
  have hlen:((zs.take n).map λz=>UInt8.ofNat z.toNat).length=n:=by rw[List.length_map,List.length_take];omega
  refine⟨(zs.take n).map λz=>UInt8.ofNat z.toNat,some a',c,by rw[hlen],by rw[hlen];omega,λh0=>?_⟩
  rw[hlen] at h0
  obtain⟨b,off,rfl⟩:=spot_code (hcell 0 (by omega))
  refine⟨b,off,rfl,Nat.zero_le _,?_,λi hi=>?_⟩
  ·have h1:=hcell 0 (by omega)
   rw[add_code] at h1
   exact cell_lt h1
  ·rw[hlen] at hi
   have h1:=hcell i (by omega)
   rw[add_code] at h1
   rw[h1]
   have hi2:i<zs.length:=by omega
   have e1:zs.getD i 0=zs[i]:=by simp[List.getD,hi2]
   have e2:byteAt ((zs.take n).map λz=>UInt8.ofNat z.toNat) i=zs[i]:=by
    unfold byteAt
    have e3:((zs.take n).map λz=>UInt8.ofNat z.toNat).getD i 0=UInt8.ofNat (zs[i]).toNat:=by
     rw[List.getD_eq_getElem?_getD,List.getElem?_map,List.getElem?_take_of_lt hi,List.getElem?_eq_getElem hi2]
     rfl
    rw[e3]
    exact byte_of (hwf _ (List.getElem_mem hi2))
   rw[e1,e2]
theorem open_code {H:Type}{enc:TypeId×Value->H}{w:World}{v:Value}{d:DataW H}{p:List MemPlace}(h:DataW.Trod enc Try.prog w 0 (λ_=>true) true 22 v d p)(hs:∃a n c,v=.slice a n c):∃bs,HBy 0 w v bs:=by
 obtain⟨fuel,hf⟩:=h
 obtain⟨a,n,c,rfl⟩:=hs
 exact open_byte_list hf
theorem own:ownKnob Try.prog.godebug=none:=by kernel_rfl
theorem laidOut:laidOutB Try.prog=true:=by kernel_rfl
set_option maxRecDepth 100000 in
theorem lifted (os:Os)(started:os.Started)(H:Type)(enc:TypeId×Value->H) :
  ReturnsInHanded {} Try.checked os 3 .any (Rows.fnLongestSpec.pre6 enc Try.prog Try.f3 Rows.fnLongestRow.domain false) (Rows.fnLongestSpec.post enc Try.prog Try.f3 false true false false):=by
 refine returnsInHanded_of_change (C:=Try.checked) own started (by kernel_rfl) Try.func3
  (ChangeSpec.witness6 (enc:=enc) (C:=Try.checked) false ⟨#[],#[.slice none 0 0],[]⟩ 8 (by kernel_rfl) (by kernel_rfl) (by kernel_rfl) (by kernel_rfl)) ?_
 intro W base args ds gs before hval0 hW hcnd _
 have hval:∀(j:Nat) t v,Try.f3.params[j]?=some t->args[j]?=some v->Value.okWide Try.prog W .any base t v:=hval0
 have hW':=hW
 obtain⟨p,q,hA0,hV,rfl,hfz,hnd⟩:=hW
 have hA:DataW.TrodAll enc Try.prog W 0 (λ_=>true) true Try.f3.params.toList args.toList ds p:=hA0
 rw[Try.params3] at hA hval
 obtain⟨v0,vs0,d0,ds0,p0,q0,hargs,rfl,rfl,h0,r0⟩:=trodAll_cons hA
 obtain⟨rfl,rfl,rfl⟩:=trodAll_nil r0
 obtain rfl:args=#[v0]:=by cases args;simp_all
 obtain⟨rfl,rfl⟩:=trodVars_none hV
 have k0:=h0
 have lt0:∀x∈p0,x.block<W.heap.size:=by obtain⟨m,hm⟩:=k0;exact DataW.trod_lt m _ _ _ hm
 obtain⟨P,hP⟩:=open_code h0 (okWide_slice Try.underlying22 (hval 0 22 v0 rfl rfl))
 clear hA0 hval0
 refine(lawLong_any 0 v0 P W hP).mono λe W' ⟨he,bel⟩=>?_
 subst he
 exact⟨_,rfl,_,_,_,[],_,[],hW',trodAll_mk1 (shut_bool Try.underlying4 _),(trodAll_cons_mk (Below.trod laidOut (by kernel_rfl) (of_decide_eq_true (by kernel_rfl)) k0 bel lt0) trodAll_mk0),rfl,bel.frame _,λh=>by cases h⟩
theorem over:Rows.fnLongestRow.holds Try.pinned (OpenSpec.ofChange Rows.fnLongestSpec):=
 OpenClaim.holds_of_wide 3 Try.f3 rfl rfl rfl rfl rfl rfl rfl ⟨rfl,rfl,rfl,rfl,rfl⟩ rfl rfl rfl rfl rfl (by kernel_rfl) Try.func3 (by kernel_rfl)
  (of_decide_eq_true (by kernel_rfl)) (by unfold Func.isWrapper;first|(rw[if_pos (by decide +kernel)];kernel_rfl)|(rw[if_neg (by decide +kernel)];exact⟨rfl,rfl⟩))
  (λos started H enc _=>lifted os started H enc)
theorem longest_holds:Rows.FnLongestSaid:=over
#print axioms longest_holds
end Go.Proofs.Ytdpfdkihbgmapaa
