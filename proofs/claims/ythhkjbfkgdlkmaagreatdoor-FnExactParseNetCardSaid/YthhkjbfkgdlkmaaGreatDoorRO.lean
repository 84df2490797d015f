import Derived.Test.YthhkjbfkgdlkmaaGreatDoorRows
import Derived.Test.YthhkjbfkgdlkmaaGreatDoorTie
import Derived.Test.YthhkjbfkgdlkmaaGreatDoorCards
import Derived.Test.YthhkjbfkgdlkmaaGreatDoorRJ
import Derived.WalkKit
import Derived.ProofKit
import Derived.OpenShut
import Derived.ShutString
import Derived.ChangeOld
import Derived.Below
import Derived.LaidLaws
import Derived.LaidHandle
import Derived.Handed
import Derived.SevenTiedAt
namespace Go.Proofs.YthhkjbfkgdlkmaaGreatDoor
open Go.ChangeShapes Go.WideShapes Go.ChangeAt Go.RowKit
open Go.ChangeMaps (open_string shut_string)
set_option linter.unusedVariables false
set_option maxHeartbeats 16000000
theorem spot_code {w:World}{a:Addr}{v:Value}(h:w.cell? (a.add 0)=some v):∃b off,a=⟨b,off,none⟩:=by
 have hs:=World.cell?_spot h
 obtain⟨b,off,s⟩:=a
 simp[Addr.add] at hs
 exact⟨b,off,by rw[hs]⟩
theorem add_code (b off i:Nat):(⟨b,off,none⟩:Addr).add i=⟨b,off+i,none⟩:=by
 unfold Addr.add
 by_cases hi:i=0<;>simp[hi]
theorem cellsU8:Tryz.prog.cellsOf 5=1:=by kernel_rfl
theorem byte_of {z:Int}(h:(Lit.int .u8 z).wf=true):((UInt8.ofNat z.toNat).toNat:Int)=z:=by
 have h2:0<=z/\z<=255:=by simpa [Lit.wf,IntKind.min,IntKind.max,IntKind.signed,IntKind.bits] using h
 rw[UInt8.toNat_ofNat']
 omega
set_option maxRecDepth 100000 in
theorem open_byte_list {H:Type}{enc:TypeId×Value->H}{w:World}{m n c:Nat}{a:Option Addr}{y:DataW H×List MemPlace}(hf:DataW.trod enc Tryz.prog w 0 (λ_=>true) true m 22 [.slice a n c]=some y):∃bs,HBy 0 w (.slice a n c) bs:=by
 rcases open_ints Tryz.underlying22 Tryz.underlying5 cellsU8 hf with⟨hcs,_⟩|⟨a',len,cap,zs,hcs,_,hl,hm,hz,_,hcell,hwf⟩
 ·simp only[List.cons.injEq,Value.slice.injEq,and_true] at hcs
  obtain⟨rfl,rfl,rfl⟩:=hcs
  exact⟨[],none,0,rfl,Nat.zero_le _,λh0=>absurd h0 (Nat.lt_irrefl _)⟩
 ·simp only[List.cons.injEq,Value.slice.injEq,and_true] at hcs
  obtain⟨rfl,rfl,rfl⟩:=hcs
  have hz':zs.length=c:=by simpa using hz
  have hlen:((zs.take n).map λz=>UInt8.ofNat z.toNat).length=n:=by rw[List.length_map,List.length_take];omega
  refine⟨(zs.take n).map λz=>UInt8.ofNat z.toNat,some a',c,by rw[hlen],by rw[hlen];omega,λh0=>?_⟩
  rw[hlen] at h0
  obtain⟨b,off,rfl⟩:=spot_code (hcell 0 (by omega))
  refine⟨b,off,rfl,Nat.zero_le _,?_,λi hi=>?_⟩
  ·have h1:=hcell 0 (by omega)
   rw[add_code] at h1
   exact cell_lt h1
  ·rw[hlen] at hi
   have h1:=hcell i (by omega)
   rw[add_code] at h1
   rw[h1]
   have hi2:i<zs.length:=by omega
   have e1:zs.getD i 0=zs[i]:=by simp[List.getD,hi2]
   have e2:byteAt ((zs.take n).map λz=>UInt8.ofNat z.toNat) i=zs[i]:=by
    unfold byteAt
    have e3:((zs.take n).map λz=>UInt8.ofNat z.toNat).getD i 0=UInt8.ofNat (zs[i]).toNat:=by
     rw[List.getD_eq_getElem?_getD,List.getElem?_map,List.getElem?_take_of_lt hi,List.getElem?_eq_getElem hi2]
     rfl
    rw[e3]
    exact byte_of (hwf _ (List.getElem_mem hi2))
   rw[e1,e2]
theorem own:ownKnob Tryz.prog.godebug=none:=by kernel_rfl
theorem laidOut:laidOutB Tryz.prog=true:=by kernel_rfl
theorem gE:Tryz.prog.globalNamed "errors.errorType" = some 0:=by kernel_rfl
theorem rtT:(Tryz.prog.cutTypes.find? (·.1 == "internal/reflectlite.rtype")).map (·.2)=some 126:=by kernel_rfl
theorem errRow:((List.range 260).filter λt=>Tryz.prog.rowNamed t [101,114,114,111,114])=[56]:=by kernel_rfl
theorem typesN:Tryz.prog.types.size=260:=by kernel_rfl
theorem handle_of {W:World}(h:laidMetH Tryz.prog Rows.fnExactParseNetRow.laid W):W.cell? ⟨0,0,none⟩=some (.iface 126 (.agg #[.pointer (some ⟨4,56,none⟩)])):=by
 have h':laidMet Tryz.prog [("unicode/utf8.acceptRanges",Rows.laid_unicode_utf8_acceptRanges),("unicode/utf8.first",Rows.laid_unicode_utf8_first)] W/\handlesMet Tryz.prog [("errors.errorType",Rows.laid_errors_errorType)] W:=h
 obtain⟨name,u,ty,e1,e2,e3,e4,e5⟩:=h'.2 _ (List.mem_singleton.2 rfl)
 have en:name=[101,114,114,111,114]:=(Option.some.inj e1).symm
 subst en
 obtain rfl:=Option.some.inj (rtT.symm.trans e2)
 have hm:ty∈(List.range 260).filter λt=>Tryz.prog.rowNamed t [101,114,114,111,114]:=List.mem_filter.2 ⟨List.mem_range.2 (by rw[<-typesN];exact e3),e4⟩
 rw[errRow] at hm
 obtain rfl:=List.mem_singleton.1 hm
 have hh:typeHandle Tryz.prog 56=.pointer (some ⟨4,56,none⟩):=by kernel_rfl
 rw[hh] at e5
 simpa using World.var?_cell gE e5 0
theorem int_of_shape {P:Program}{w:World}{g:Nat}{t:TypeId}{zero:Array Value}(h:w.ShapedOpen P)(hg:g<P.globals.size)
  (h0:((begin P (λ_ _=>0) default).world.heap[g]?).bind Obj.row?=some (zero,t)) (hz:zero.size=1)
  (hb:P.buildable t=true) (hc:P.cellTypes P.depth t=some [t]) (hu:P.underlying t=some (.int .i64)):∃m,w.cell? ⟨g,0,none⟩=some (.int .i64 m):=by
 obtain⟨cs,hh,hs,hr⟩:=h.1 g zero t hg h0
 obtain⟨ts,hts,_,hall⟩:=hr hb
 rw[hc] at hts
 cases hts
 have h1:0<cs.size:=by omega
 obtain⟨u,hu',hok⟩:=hall 0 cs[0] (by simp[h1])
 have e:u=t:=by simpa using hu'.symm
 subst e
 have hcell:w.cell? ⟨g,0,none⟩=some cs[0]:=by simp[World.cell?,hh,h1]
 rw[hcell]
 unfold Cell.ok at hok
 rw[hu] at hok
 cases hv:cs[0]<;>rw[hv] at hok<;>simp at hok
 obtain⟨rfl,_⟩:=hok
 exact⟨_,rfl⟩
end Go.Proofs.YthhkjbfkgdlkmaaGreatDoor
