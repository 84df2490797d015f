import Derived.Test.YthhkjbfkgdlkmaaGreatDoorRG
import Derived.Test.YthhkjbfkgdlkmaaGreatDoorRH
namespace Go.Proofs.YthhkjbfkgdlkmaaGreatDoor
open Go.RowKit Go.Sort
set_option linter.unusedVariables false
set_option maxRecDepth 1000000
set_option maxHeartbeats 16000000
theorem info5:(Tryz.prog.info? 5).map (λi=>(i.zero,i.size,i.bytes))=some (some (.int .u8 0),1,1):=by kernel_rfl
def BRow (w:World)(g n k:Nat)(bs:List UInt8):Prop:=∃f,w.rowIs g 5 n f/\∀i,i<k->f i=.int .u8 (byteAt bs i)
theorem BRow.set {w:World}{g n k:Nat}{bs:List UInt8}(h:BRow w g n k bs):BRow (w.setCell ⟨g,k,none⟩ (.int .u8 (byteAt bs k))) g n (k+1) bs:=by
 obtain⟨f,h1,h2⟩:=h
 refine⟨_,h1.set k _,λi hi=>?_⟩
 by_cases e:i=k
 ·subst e;simp
 ·simp[e];exact h2 i (by omega)
theorem BRow.keep {w w':World}{g n k:Nat}{bs:List UInt8}(h:BRow w g n k bs)(e:w'.heap[g]?=w.heap[g]?):BRow w' g n k bs:=by
 obtain⟨f,h1,h2⟩:=h
 exact⟨f,h1.of_block e,h2⟩
theorem BRow.lt {w:World}{g n k:Nat}{bs:List UInt8}(h:BRow w g n k bs):g<w.heap.size:=by
 obtain⟨f,h1,h2⟩:=h
 exact h1.lt
theorem BRow.held {w:World}{g n:Nat}{bs:List UInt8}(hn:bs.length=n)(hm:n<=1048576)(h:BRow w g n n bs):HBy g w (.slice (some ⟨g,0,none⟩) n n) bs:=by
 obtain⟨f,h1,h2⟩:=h
 subst hn
 refine⟨_,_,rfl,by unfold maxLen;omega,λh0=>⟨g,0,rfl,Nat.le_refl _,h1.lt,λi hi=>?_⟩⟩
 show w.cell? ⟨g,0+i,none⟩=_
 rw[Nat.zero_add,h1.cell hi,h2 i hi]
theorem toBytes_any (B:Nat)(v:Value)(bs:List UInt8)(w:World)(h0:HBy B w v bs)(hs:bs.length<=1048576) :
  Calls Tryz.prog 5 #[v] w λe w'=>e=.returned (.slice (some ⟨w.heap.size,0,none⟩) bs.length bs.length)/\BRow w' w.heap.size bs.length bs.length bs/\Nx w w':=by
 obtain⟨a,cap,rfl,hn,hk⟩:=h0
 generalize hz:bs.length=n at *
 clear hz hn
 have hmk:=run_make_row' (P:=Tryz.prog) 22 5 (.int .u8 0) 1 Tryz.underlying22 info5 rfl .i64 .i64 n (by omega) (by omega)
 go_enter Tryz.func5,Tryz.ntmps5
 go_wp2
 go_loopw [4] (λi wr=>∃k:Nat,k<=n/\i=.int .i64 k/\Hid (BRow wr w.heap.size n k bs)/\Hid (Nx w wr)) (λi _=>n-(intOf i).toNat)
 case atStart=>exact⟨0,Nat.zero_le _,rfl,⟨_,World.rowIs_made _ _ _ _,λi hi=>absurd hi (Nat.not_lt_zero _)⟩,box1 _ _⟩
 case round=>
  obtain⟨k,hkn,rfl,HR,HN⟩:=hrel
  clear hmk
  by_cases hlt:k<n
  ·obtain⟨b,off,rfl,hB,hb,hc⟩:=hk (by omega)
   have c0:=cell_next HN.out hb (hc k hlt)
   have hlt':(k:Int)<n:=by omega
   obtain⟨f,hf,hf'⟩:=HR.out
   have r0:=hf.cell hlt
   have r1:=hf.frozen k
   clear hc hk hf hf'
   go_wp2
   go_roundw
   case rel=>exact⟨k+1,by omega,by go_num,HR.out.set,Below.setCell HN.out (Nat.le_refl _) _⟩
   case measure=>simp[intOf];omega
  ·go_wp2
   go_ret
   have e:k=n:=by omega
   subst e
   exact⟨rfl,HR.out,HN.out⟩
theorem eqBytes_same (B B':Nat)(v v':Value)(bs:List UInt8)(w:World)(h0:HBy B w v bs)(h1:HBy B' w v' bs) :
  Calls Tryz.prog 8 #[v,v'] w λe w'=>e=.returned (.bool true)/\Nx w w':=by
 obtain⟨a,cap,rfl,hn,hk⟩:=h0
 obtain⟨a',cap',rfl,hn',hk'⟩:=h1
 unfold maxLen at hn hn'
 generalize hz:bs.length=n at *
 clear hz
 have hd:((n:Int) !=(n:Int))=false:=by simp
 go_enter Tryz.func8,Tryz.ntmps8
 go_wp2
 go_loopw [5] (λi wr=>∃k:Nat,k<=n/\i=.int .i64 k/\Hid (Nx w wr)) (λi _=>n-(intOf i).toNat)
 case atStart=>exact⟨0,Nat.zero_le _,rfl,Nx.refl _⟩
 case round=>
  obtain⟨k,hkn,rfl,HN⟩:=hrel
  by_cases hlt:k<n
  ·obtain⟨b,off,rfl,hB,hb,hc⟩:=hk (by omega)
   obtain⟨b',off',rfl,hB',hb',hc'⟩:=hk' (by omega)
   have c0:=cell_next HN.out hb (hc k hlt)
   have c1:=cell_next HN.out hb' (hc' k hlt)
   have hlt':(k:Int)<n:=by omega
   have he:(byteAt bs k !=byteAt bs k)=false:=by simp
   clear hc hk hc' hk'
   generalize byteAt bs k=fk at *
   go_wp2
   go_region_with (fail)
   all_goals go_wp2
   all_goals
    go_roundw
    case rel=>exact⟨k+1,by omega,by go_num,HN.out.drew⟩
    case measure=>simp[intOf];omega
  ·go_wp2
   go_ret
   exact⟨rfl,HN.out⟩
theorem markBytes_any (g n:Nat)(f:Nat->Value)(w:World)(h0:w.rowIs g 5 n f)(hs:n<=1048576) :
  Calls Tryz.prog 9 #[.slice (some ⟨g,0,none⟩) n n,.int .i64 1] w λe w'=>e=.returned (.int .i64 (1+n))/\Chg (λx=>x=g) w w':=by
 go_enter Tryz.func9,Tryz.ntmps9
 go_wp2
 go_loopw [1,5] (λc i wr=>∃j:Nat,j<=n/\i=.int .i64 j/\c=.int .i64 (1+j)/\Hid (∃f,wr.rowIs g 5 n f)/\Hid (Chg (λx=>x=g) w wr)) (λ_ i _=>n-(intOf i).toNat)
 case atStart=>exact⟨0,Nat.zero_le _,rfl,by simp,⟨f,h0⟩,Chg.nx (Below.refl _ _)⟩
 case round=>
  obtain⟨j,hjn,rfl,rfl,HM,HB⟩:=hrel
  clear h0
  by_cases hlt:j<n
  ·obtain⟨f,hf⟩:=HM.out
   have c0:=hf.cell hlt
   have f0:=hf.frozen j
   have HM':Hid (∃f,(wr.setCell ⟨g,j,none⟩ (.int .u8 (IntKind.u8.wrap (1+j)))).rowIs g 5 n f):=⟨_,hf.set j _⟩
   have HB':Hid (Chg (λx=>x=g) w (wr.setCell ⟨g,j,none⟩ (.int .u8 (IntKind.u8.wrap (1+j))))):=HB.out.trans (Chg.set _ _ _ rfl)
   have hlt':(j:Int)<n:=by omega
   clear hf HM HB
   go_wp2
   go_roundw
   case rel=>exact⟨j+1,by omega,by go_num,by go_num,HM',HB'⟩
   case measure=>simp[intOf];omega
  ·go_wp2
   go_ret
   have e:j=n:=by omega
   subst e
   exact⟨rfl,HB.out⟩
end Go.Proofs.YthhkjbfkgdlkmaaGreatDoor
