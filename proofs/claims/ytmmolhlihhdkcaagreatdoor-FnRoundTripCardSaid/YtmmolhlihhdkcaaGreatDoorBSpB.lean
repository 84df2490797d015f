import Derived.Test.YtmmolhlihhdkcaaGreatDoorBLeaf
namespace Go.Proofs.YtmmolhlihhdkcaaGreatDoor
open Go.RowKit
set_option linter.unusedVariables false
set_option maxHeartbeats 16000000
def Jz (x:Wy):Bool:=inB x.id&&decide (1<=x.weights.length)&&decide (x.weights.length<=100)&&decide (x.nodes.length=x.weights.length+1)
def Qu (nodes:List Int)(x:Wy):Bool:=
 Jz x&&Jp x.weights.length (λi=>inB (iat x.weights i))&&Jp x.nodes.length (λi=>Vw nodes (iat x.nodes i))
theorem Ef (B:Nat)(v0 v1 v2 v3:Value)(u:Int)(nodes:List Int)(x:Wy)(vn vw:Value)(w:World)(h0:Qr B w v0 nodes)(hN:Qr B w vn x.nodes)(hW:Qr B w vw x.weights) :
  Calls Tryz.prog 20 #[.agg #[v0,v1,v2,v3,.int .i64 u],.agg #[.int .i64 x.id,.bool x.both,vn,vw]] w λe w'=>e=.returned (.bool (Qu nodes x))/\Nx w w':=by
 obtain⟨a1,cap1,rfl,hn1,hk1⟩:=hN
 obtain⟨a2,cap2,rfl,hn2,hk2⟩:=hW
 unfold maxLen at hn1 hn2
 generalize hz1:x.nodes.length=n1 at *
 generalize hz2:x.weights.length=n2 at *
 have HZ1:Hid (x.nodes.length=n1):=hz1
 have HZ2:Hid (x.weights.length=n2):=hz2
 clear hz1 hz2
 have two:Nx w ((w.alloc (.cells #[v0,v1,v2,v3,.int .i64 u] 28)).alloc (.cells #[.int .i64 x.id,.bool x.both,.slice a1 n1 cap1,.slice a2 n2 cap2] 45)):=
  ((Below.refl _ _).alloc (Nat.le_refl _) _).alloc (by simp) _
 by_cases e1:inB x.id=true
 case neg=>
  have e1':inB x.id=false:=by simpa using e1
  have hg:false=Qu nodes x:=by simp[Qu,Jz,e1']
  have HG:Hid (false=Qu nodes x):=hg
  clear hg e1
  go_enter Tryz.func20,Tryz.ntmps20
  go_wp2_with (go_at_call 19;refine(J9 _ _).mono ?_;rintro e w' ⟨rfl,rfl⟩)
  go_ret
  exact⟨Qa HG.out,two⟩
 by_cases e2:1<=n2
 case neg=>
  have HG:Hid (false=Qu nodes x):=by unfold Hid;simp[Qu,Jz,HZ2.out];omega
  go_enter Tryz.func20,Tryz.ntmps20
  go_wp2_with (go_at_call 19;refine(J9 _ _).mono ?_;rintro e w' ⟨rfl,rfl⟩)
  go_ret
  exact⟨Qa HG.out,two⟩
 have d2:decide ((n2:Int)<1)=false:=by simp;omega
 by_cases e3:n2<=100
 case neg=>
  have HG:Hid (false=Qu nodes x):=by unfold Hid;simp[Qu,Jz,HZ2.out];omega
  go_enter Tryz.func20,Tryz.ntmps20
  go_wp2_with (go_at_call 19;refine(J9 _ _).mono ?_;rintro e w' ⟨rfl,rfl⟩)
  go_ret
  exact⟨Qa HG.out,two⟩
 have d3:decide (100<(n2:Int))=false:=by simp;omega
 by_cases e4:n1=n2+1
 case neg=>
  have HG:Hid (false=Qu nodes x):=by unfold Hid;simp[Qu,Jz,HZ2.out,HZ1.out];omega
  have d4:((n1:Int) !=(n2:Int)+1)=true:=by rw[bne_iff_ne];omega
  go_enter Tryz.func20,Tryz.ntmps20
  go_wp2_with (go_at_call 19;refine(J9 _ _).mono ?_;rintro e w' ⟨rfl,rfl⟩)
  go_ret
  exact⟨Qa HG.out,two⟩
 have d4:((n1:Int) !=(n2:Int)+1)=false:=by simp;omega
 have e4a:n1<=n2+1:=by omega
 have e4b:n2+1<=n1:=by omega
 clear e4
 have HH:Hid (Jz x=true):=by unfold Hid;simp[Jz,HZ1.out,HZ2.out,e1];omega
 go_enter Tryz.func20,Tryz.ntmps20
 go_wp2_with (go_at_call 19;refine(J9 _ _).mono ?_;rintro e w' ⟨rfl,rfl⟩)
 go_loop [5] (λi=>∃k:Nat,k<=n2/\i=.int .i64 k/\Hid (Vq (λi=>inB (iat x.weights i)) k)) (λi=>n2-(intOf i).toNat)
 case atStart=>exact⟨0,Nat.zero_le _,rfl,Jh _⟩
 case round=>
  obtain⟨k,hkn,rfl,hrel⟩:=hrel
  by_cases hlt:k<n2
  ·obtain⟨b,off,rfl,hB,hb,hc⟩:=hk2 (by omega)
   have hcc:=hc k hlt
   clear hc hk2 hk1
   by_cases hin:inB (iat x.weights k)=true
   ·go_wp2_with (go_at_call 19;refine(J9 _ _).mono ?_;rintro e w' ⟨rfl,rfl⟩)
    go_round
    case rel=>exact⟨k+1,by omega,by go_num,Qv hrel hin⟩
    case measure=>simp[intOf];omega
   ·have hin':inB (iat x.weights k)=false:=by simpa using hin
    go_wp2_with (go_at_call 19;refine(J9 _ _).mono ?_;rintro e w' ⟨rfl,rfl⟩)
    go_ret
    exact⟨Qa (by unfold Qu;rw[J7 (by rw[HZ2.out];exact hlt) hin'];simp),two⟩
  ·have HA:Hid (Jp x.weights.length (λi=>inB (iat x.weights i))=true):=Jn (by rw[HZ2.out];omega) hrel
   go_wp2
   go_loopw [6] (λi wr=>∃k:Nat,k<=n1/\i=.int .i64 k/\Hid (Vq (λi=>Vw nodes (iat x.nodes i)) k)/\Nx ((w.alloc (.cells #[v0,v1,v2,v3,.int .i64 u] 28)).alloc (.cells #[.int .i64 x.id,.bool x.both,.slice a1 n1 cap1,.slice a2 n2 cap2] 45)) wr) (λi _=>n1-(intOf i).toNat)
   case atStart=>exact⟨0,Nat.zero_le _,rfl,Jh _,Below.refl _ _⟩
   case round=>
    obtain⟨k',hkn',rfl,hrel',hnx⟩:=hrel
    have HN:Hid (Nx ((w.alloc (.cells #[v0,v1,v2,v3,.int .i64 u] 28)).alloc (.cells #[.int .i64 x.id,.bool x.both,.slice a1 n1 cap1,.slice a2 n2 cap2] 45)) wr):=hnx
    obtain⟨hcl,hfr⟩:=bcell hnx
    clear hnx
    by_cases hlt':k'<n1
    ·obtain⟨b,off,rfl,hB,hb,hc⟩:=hk1 (by omega)
     have hcc:=Q1 HN.out (by simp;omega) (Q1 two hb (hc k' hlt'))
     clear hc hk1 hk2
     by_cases hin:Vw nodes (iat x.nodes k')=true
     ·go_wp2
      go_region_with (go_at_call 41;refine(U1 B _ _ _ _ _ _ nodes _ (by exact(h0.next two).next (by first|exact HN.out|exact HN.out.drew))).mono ?_;rintro e w' ⟨rfl,hx⟩)
      all_goals go_wp2
      all_goals
       go_roundw
       case rel=>exact⟨k'+1,by omega,by go_num,Qv hrel' hin,Nx.trans HN.out.drew hx⟩
       case measure=>simp[intOf];omega
     ·have hin':Vw nodes (iat x.nodes k')=false:=by simpa using hin
      go_wp2
      go_region_with (go_at_call 41;refine(U1 B _ _ _ _ _ _ nodes _ (by exact(h0.next two).next (by first|exact HN.out|exact HN.out.drew))).mono ?_;rintro e w' ⟨rfl,hx⟩)
      all_goals go_wp2
      all_goals
       go_ret
       exact⟨Qa (by unfold Qu;rw[J7 (n:=x.nodes.length) (by rw[HZ1.out];exact hlt') hin'];simp),Nx.trans two (Nx.trans HN.out.drew hx)⟩
    ·go_wp2
     go_ret
     exact⟨Qa (by unfold Qu;rw[HH.out,HA.out,Jn (n:=x.nodes.length) (by rw[HZ1.out];omega) hrel'];rfl),Nx.trans two HN.out⟩
end Go.Proofs.YtmmolhlihhdkcaaGreatDoor
