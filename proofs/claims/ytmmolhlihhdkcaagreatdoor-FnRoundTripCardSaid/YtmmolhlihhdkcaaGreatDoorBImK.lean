import Derived.Test.YtmmolhlihhdkcaaGreatDoorBSpB
import Derived.Test.YtmmolhlihhdkcaaGreatDoorBImJ
namespace Go.Proofs.YtmmolhlihhdkcaaGreatDoor
open Go.RowKit
set_option linter.unusedVariables false
set_option maxHeartbeats 16000000
theorem Ps (B:Nat)(v0 v1 v2 v3:Value)(u:Int)(nodes:List Int)(x:Wy)(vn vw:Value)(w:World)(h0:Qr B w v0 nodes)(hN:Qr B w vn x.nodes)(hW:Qr B w vw x.weights)(hasc:Ys nodes=true) :
  Calls Tryz.prog 47 #[.agg #[v0,v1,v2,v3,.int .i64 u],.agg #[.int .i64 x.id,.bool x.both,vn,vw]] w λe w'=>e=.returned (.bool (Qu nodes x))/\Nx w w':=by
 have HASC:Hid (Ys nodes=true):=hasc
 clear hasc
 have hW0:=hW
 obtain⟨a1,cap1,rfl,hn1,hk1⟩:=hN
 obtain⟨a2,cap2,rfl,hn2,hk2⟩:=hW
 clear hk2
 unfold maxLen at hn1 hn2
 generalize hz1:x.nodes.length=n1 at *
 generalize hz2:x.weights.length=n2 at *
 have HZ1:Hid (x.nodes.length=n1):=hz1
 have HZ2:Hid (x.weights.length=n2):=hz2
 clear hz1 hz2
 have two:Nx w ((w.alloc (.cells #[v0,v1,v2,v3,.int .i64 u] 28)).alloc (.cells #[.int .i64 x.id,.bool x.both,.slice a1 n1 cap1,.slice a2 n2 cap2] 45)):=G0 _ _ _
 by_cases e1:inB x.id=true
 case neg=>
  have e1':inB x.id=false:=by simpa using e1
  have HG:Hid (false=Qu nodes x):=by unfold Hid;simp[Qu,Jz,e1']
  clear e1
  go_enter Tryz.func47,Tryz.ntmps47
  go_wp2_with (go_at_call 25;refine(Jj _ _).mono ?_;rintro e w' ⟨rfl,rfl⟩)
  go_ret
  exact⟨Qa HG.out,two⟩
 by_cases e2:1<=n2
 case neg=>
  have HG:Hid (false=Qu nodes x):=by unfold Hid;simp[Qu,Jz,HZ2.out];omega
  go_enter Tryz.func47,Tryz.ntmps47
  go_wp2_with (go_at_call 25;refine(Jj _ _).mono ?_;rintro e w' ⟨rfl,rfl⟩)
  go_ret
  exact⟨Qa HG.out,two⟩
 have d2:decide ((n2:Int)<1)=false:=by simp;omega
 by_cases e3:n2<=100
 case neg=>
  have HG:Hid (false=Qu nodes x):=by unfold Hid;simp[Qu,Jz,HZ2.out];omega
  go_enter Tryz.func47,Tryz.ntmps47
  go_wp2_with (go_at_call 25;refine(Jj _ _).mono ?_;rintro e w' ⟨rfl,rfl⟩)
  go_ret
  exact⟨Qa HG.out,two⟩
 have d3:decide (100<(n2:Int))=false:=by simp;omega
 by_cases e4:n1=n2+1
 case neg=>
  have HG:Hid (false=Qu nodes x):=by unfold Hid;simp[Qu,Jz,HZ2.out,HZ1.out];omega
  have d4:((n1:Int) !=(n2:Int)+1)=true:=by rw[bne_iff_ne];omega
  go_enter Tryz.func47,Tryz.ntmps47
  go_wp2_with (go_at_call 25;refine(Jj _ _).mono ?_;rintro e w' ⟨rfl,rfl⟩)
  go_ret
  exact⟨Qa HG.out,two⟩
 have d4:((n1:Int) !=(n2:Int)+1)=false:=by simp;omega
 have e4a:n1<=n2+1:=by omega
 have e4b:n2+1<=n1:=by omega
 clear e4
 have HH:Hid (Jz x=true):=by unfold Hid;simp[Jz,HZ1.out,HZ2.out,e1];omega
 have HTWO:Hid (Nx w ((w.alloc (.cells #[v0,v1,v2,v3,.int .i64 u] 28)).alloc (.cells #[.int .i64 x.id,.bool x.both,.slice a1 n1 cap1,.slice a2 n2 cap2] 45))):=two
 clear two
 go_enter Tryz.func47,Tryz.ntmps47
 go_wp2_with (go_at_call 25;refine(Jj _ _).mono ?_;rintro e w' ⟨rfl,rfl⟩)
 go_loopw [34] (λi wr=>∃k:Nat,k<=n1/\i=.int .i64 k/\Hid (Vq (λi=>Vw nodes (iat x.nodes i)) k)/\Hid (Nx ((w.alloc (.cells #[v0,v1,v2,v3,.int .i64 u] 28)).alloc (.cells #[.int .i64 x.id,.bool x.both,.slice a1 n1 cap1,.slice a2 n2 cap2] 45)) wr)) (λi _=>n1-(intOf i).toNat)
 case atStart=>exact⟨0,Nat.zero_le _,rfl,Jh _,Nx.refl _⟩
 case round=>
  obtain⟨k,hkn,rfl,hrel,HN⟩:=hrel
  have BA:=((Blk.new w #[v0,v1,v2,v3,.int .i64 u] 28 _ rfl).alloc (.cells #[.int .i64 x.id,.bool x.both,.slice a1 n1 cap1,.slice a2 n2 cap2] 45)).next HN.out
  have BB:=(Blk.new (w.alloc (.cells #[v0,v1,v2,v3,.int .i64 u] 28)) #[.int .i64 x.id,.bool x.both,.slice a1 n1 cap1,.slice a2 n2 cap2] 45 (w.heap.size+1) (by simp)).next HN.out
  have k0:=BA.cell (i:=0) rfl
  have k1:=BA.cell (i:=1) rfl
  have k2:=BA.cell (i:=2) rfl
  have k3:=BA.cell (i:=3) rfl
  have k4:=BA.cell (i:=4) rfl
  have l2:=BB.cell (i:=2) rfl
  have l3:=BB.cell (i:=3) rfl
  have HW:Hid (Nx w wr):=HTWO.out.trans HN.out
  clear BA BB
  by_cases hlt:k<n1
  ·obtain⟨b,off,rfl,hB,hb,hc⟩:=hk1 (by omega)
   have hcc:=Q1 HW.out hb (hc k hlt)
   have hlt':(k:Int)<n1:=by omega
   clear hc hk1
   by_cases hin:Vw nodes (iat x.nodes k)=true
   ·go_wp2_with (go_at_call 72;refine(T3 B _ _ _ _ _ _ nodes _ (by exact h0.next HW.out) HASC.out).mono ?_;rintro e w' ⟨rfl,hx⟩)
    go_roundw
    case rel=>exact⟨k+1,by omega,by go_num,Qv hrel hin,HN.out.trans hx⟩
    case measure=>simp[intOf];omega
   ·have hin':Vw nodes (iat x.nodes k)=false:=by simpa using hin
    go_wp2_with (go_at_call 72;refine(T3 B _ _ _ _ _ _ nodes _ (by exact h0.next HW.out) HASC.out).mono ?_;rintro e w' ⟨rfl,hx⟩)
    go_ret
    exact⟨Qa (by unfold Qu;rw[J7 (n:=x.nodes.length) (by rw[HZ1.out];exact hlt) hin'];simp),HW.out.trans hx⟩
  ·have HA:Hid (Jp x.nodes.length (λi=>Vw nodes (iat x.nodes i))=true):=Jn (by rw[HZ1.out];omega) hrel
   go_wp2_with (go_at_call 45;refine(Un B _ x.weights _ (by exact hW0.next HW.out)).mono ?_;rintro e w2 ⟨rfl,rfl⟩)
   go_ret
   exact⟨Qa (by unfold Qu;rw[HH.out,HA.out];simp[Uo]),HW.out⟩
def Ze (N:Nt):Bool:=Jp N.ways.length (λi=>Qu N.nodes (wat N.ways i))
theorem E9 (B:Nat)(v0 v1 v2 v3:Value)(u:Int)(N:Nt)(w:World)(h0:Qr B w v0 N.nodes)(h1:Vh B w v1 N.ways)(hasc:Ys N.nodes=true) :
  Calls Tryz.prog 27 #[.agg #[v0,v1,v2,v3,.int .i64 u]] w λe w'=>e=.returned (.bool (Ze N&&Zm N.ways))/\Nx w w':=by
 have HASC:Hid (Ys N.nodes=true):=hasc
 clear hasc
 have H1:=h1
 obtain⟨a,cap,rfl,hn,hk⟩:=h1
 unfold maxLen at hn
 generalize hz:N.ways.length=n at *
 have HZ:Hid (N.ways.length=n):=hz
 clear hz
 go_enter Tryz.func27,Tryz.ntmps27
 go_wp2
 go_loopw [4,8] (λp i wr=>∃k:Nat,k<=n/\i=.int .i64 k/\Hid (Vq (λi=>Qu N.nodes (wat N.ways i)) k)/\Hid (Nx (w.alloc (.cells #[v0,.slice a n cap,v2,v3,.int .i64 u] 28)) wr)) (λ_ i _=>n-(intOf i).toNat)
 case atStart=>exact⟨0,Nat.zero_le _,rfl,Jh _,Nx.refl _⟩
 case round=>
  obtain⟨k,hkn,rfl,hrel,HN⟩:=hrel
  have BA:=(Blk.new w #[v0,.slice a n cap,v2,v3,.int .i64 u] 28 _ rfl).next HN.out
  have k0:=BA.cell (i:=0) rfl
  have k1:=BA.cell (i:=1) rfl
  have k2:=BA.cell (i:=2) rfl
  have k3:=BA.cell (i:=3) rfl
  have k4:=BA.cell (i:=4) rfl
  have hsz:=BA.lt
  have HW:Hid (Nx w wr):=(Qd _ _).trans HN.out
  clear BA
  by_cases hlt:k<n
  ·obtain⟨b,off,rfl,hB,hb,hc⟩:=hk (by omega)
   obtain⟨p1,p2,a0,a1,a2,a3,n1,n2⟩:=hc k hlt
   have m1:=n1.next HW.out
   have m2:=n2.next HW.out
   obtain⟨an,cn,rfl,_⟩:=n1.slice
   obtain⟨aw,cw,rfl,_⟩:=n2.slice
   have a0:=Q1 HW.out hb a0
   have a1:=Q1 HW.out hb a1
   have a2:=Q1 HW.out hb a2
   have a3:=Q1 HW.out hb a3
   have hlt':(k:Int)<n:=by omega
   have hbr:b<wr.heap.size:=Nat.lt_of_lt_of_le hb HW.out.size
   clear hc hk n1 n2
   by_cases hin:Qu N.nodes (wat N.ways k)=true
   ·go_wp2_with (go_at_call 47;refine(Ps B _ _ _ _ _ N.nodes (wat N.ways k) _ _ _ (by exact(h0.next HW.out).next (Qd _ _)) (by exact m1.next (Qd _ _)) (by exact m2.next (Qd _ _)) HASC.out).mono ?_;rintro e w' ⟨rfl,hx⟩)
    go_roundw
    case rel=>exact⟨k+1,by omega,by go_num,Qv hrel hin,HN.out.trans ((Qd _ _).trans hx)⟩
    case measure=>simp[intOf];omega
   ·have hin':Qu N.nodes (wat N.ways k)=false:=by simpa using hin
    go_wp2_with (go_at_call 47;refine(Ps B _ _ _ _ _ N.nodes (wat N.ways k) _ _ _ (by exact(h0.next HW.out).next (Qd _ _)) (by exact m1.next (Qd _ _)) (by exact m2.next (Qd _ _)) HASC.out).mono ?_;rintro e w' ⟨rfl,hx⟩)
    go_ret
    exact⟨Qa (by unfold Ze;rw[J7 (by rw[HZ.out];exact hlt) hin'];rfl),HW.out.trans ((Qd _ _).trans hx)⟩
  ·have HA:Hid (Ze N=true):=Jn (by rw[HZ.out];omega) hrel
   have hge:(n:Int)<=k:=by omega
   go_wp2_with (go_at_call 48;refine(Qaq B _ N.ways _ (by exact H1.keep (HW.out.keeps B))).mono ?_;rintro e w2 ⟨rfl,hx⟩)
   go_ret
   exact⟨Qa (by rw[HA.out];rfl),HW.out.trans hx⟩
def Qy (N:Nt)(r:Rl):Bool:=
 if r.via then decide (r.ways.length=0)&&Vw N.nodes r.node
 else (r.node==0)&&(decide (1<=r.ways.length)&&(decide (r.ways.length<=4)&&Jp r.ways.length (λi=>Ju N.ways (iat r.ways i))))
def J1 (N:Nt)(r:Rl):Bool:=inB r.id&&(Ju N.ways r.frm&&(Ju N.ways r.to&&Qy N r))
theorem Pt (B:Nat)(v0 v1 v2 v3:Value)(u:Int)(N:Nt)(x:Rl)(vw:Value)(w:World)(h0:Qr B w v0 N.nodes)(h1:Vh B w v1 N.ways)(hW:Qr B w vw x.ways)(hasc:Ys N.nodes=true)(hascw:Zm N.ways=true) :
  Calls Tryz.prog 50 #[.agg #[v0,v1,v2,v3,.int .i64 u],.agg #[.int .i64 x.id,.bool x.only,.int .i64 x.frm,.int .i64 x.to,.bool x.via,.int .i64 x.node,vw]] w λe w'=>e=.returned (.bool (J1 N x))/\Nx w w':=by
 have HASC:Hid (Ys N.nodes=true):=hasc
 have HASW:Hid (Zm N.ways=true):=hascw
 clear hasc hascw
 obtain⟨a2,cap2,rfl,hn2,hk2⟩:=hW
 unfold maxLen at hn2
 generalize hz2:x.ways.length=n2 at *
 have HZ2:Hid (x.ways.length=n2):=hz2
 clear hz2
 have HTWO:Hid (Nx w ((w.alloc (.cells #[v0,v1,v2,v3,.int .i64 u] 28)).alloc (.cells #[.int .i64 x.id,.bool x.only,.int .i64 x.frm,.int .i64 x.to,.bool x.via,.int .i64 x.node,.slice a2 n2 cap2] 48))):=G0 _ _ _
 have BA:=((Blk.new w #[v0,v1,v2,v3,.int .i64 u] 28 _ rfl).alloc (.cells #[.int .i64 x.id,.bool x.only,.int .i64 x.frm,.int .i64 x.to,.bool x.via,.int .i64 x.node,.slice a2 n2 cap2] 48))
 have BB:=(Blk.new (w.alloc (.cells #[v0,v1,v2,v3,.int .i64 u] 28)) #[.int .i64 x.id,.bool x.only,.int .i64 x.frm,.int .i64 x.to,.bool x.via,.int .i64 x.node,.slice a2 n2 cap2] 48 (w.heap.size+1) (by simp))
 by_cases e1:inB x.id=true
 case neg=>
  have e1':inB x.id=false:=by simpa using e1
  have HG:Hid (false=J1 N x):=by unfold Hid;simp[J1,e1']
  clear e1
  go_enter Tryz.func50,Tryz.ntmps50
  go_wp2_with (go_at_call 25;refine(Jj _ _).mono ?_;rintro e w' ⟨rfl,rfl⟩)
  go_ret
  exact⟨Qa HG.out,HTWO.out⟩
 by_cases e2:Ju N.ways x.frm=true
 case neg=>
  have e2':Ju N.ways x.frm=false:=by simpa using e2
  have HG:Hid (false=J1 N x):=by unfold Hid;simp[J1,e2']
  clear e2
  go_enter Tryz.func50,Tryz.ntmps50
  go_wp2_with (first|(go_at_call 25;refine(Jj _ _).mono ?_;rintro e w' ⟨rfl,rfl⟩)|(go_at_call 53;refine(Xy B _ _ _ _ _ _ N.ways _ (by exact h1.keep (HTWO.out.keeps B)) HASW.out).mono ?_;rintro e w' ⟨rfl,hx⟩))
  go_ret
  exact⟨Qa HG.out,HTWO.out.trans hx⟩
 go_enter Tryz.func50,Tryz.ntmps50
 go_wp2_with fail
 refine(Jj _ _).mono ?_
 rintro e w' ⟨rfl,rfl⟩
 go_wp2_with fail
 refine(Xy B _ _ _ _ _ _ N.ways _ (by exact h1.keep (HTWO.out.keeps B)) HASW.out).mono ?_
 rintro e w1 ⟨rfl,hx⟩
 have BA1:=BA.next hx
 have BB1:=BB.next hx
 have HX1:Hid (Nx w w1):=HTWO.out.trans hx
 clear hx BA BB HTWO
 have k0:=BA1.cell (i:=0) rfl
 have k1:=BA1.cell (i:=1) rfl
 have k2:=BA1.cell (i:=2) rfl
 have k3:=BA1.cell (i:=3) rfl
 have k4:=BA1.cell (i:=4) rfl
 have l3:=BB1.cell (i:=3) rfl
 go_wp2_with fail
 refine(Xy B _ _ _ _ _ _ N.ways _ (by exact h1.keep (HX1.out.keeps B)) HASW.out).mono ?_
 rintro e w2 ⟨rfl,hx⟩
 have BA2:=BA1.next hx
 have BB2:=BB1.next hx
 have HX2:Hid (Nx w w2):=HX1.out.trans hx
 clear hx BA1 BB1 HX1 k0 k1 k2 k3 k4 l3
 by_cases e3:Ju N.ways x.to=true
 case neg=>
  have e3':Ju N.ways x.to=false:=by simpa using e3
  have HG:Hid (false=J1 N x):=by unfold Hid;simp[J1,e3']
  clear e3
  go_wp2
  go_ret
  exact⟨Qa HG.out,HX2.out⟩
 have HGT:Hid (J1 N x=Qy N x):=by unfold Hid;simp[J1,e1,e2,e3]
 have k0:=BA2.cell (i:=0) rfl
 have k1:=BA2.cell (i:=1) rfl
 have k2:=BA2.cell (i:=2) rfl
 have k3:=BA2.cell (i:=3) rfl
 have k4:=BA2.cell (i:=4) rfl
 have l4:=BB2.cell (i:=4) rfl
 have l5:=BB2.cell (i:=5) rfl
 have l6:=BB2.cell (i:=6) rfl
 cases hv:x.via
 case true=>
  rw[hv] at l4
  have hvv:Hid (x.via=true):=hv
  clear hv
  go_wp2_with fail
  refine(T3 B _ _ _ _ _ _ N.nodes _ (by exact h0.next HX2.out) HASC.out).mono ?_
  rintro e w3 ⟨rfl,hx⟩
  have BB3:=BB2.next hx
  have HX3:Hid (Nx w w3):=HX2.out.trans hx
  clear hx k0 k1 k2 k3 k4 l4 l5 l6 BA2 BB2 HX2
  have l6:=BB3.cell (i:=6) rfl
  by_cases e5:Vw N.nodes x.node=true
  ·by_cases e6:n2=0
   ·have d6:((n2:Int)==0)=true:=by simpa using e6
    have HF:Hid (Qy N x=true):=by unfold Hid;simp[Qy,hvv.out,HZ2.out,e5,e6]
    clear e6
    go_wp2
    go_ret
    exact⟨Qa (by rw[HGT.out,HF.out]),HX3.out⟩
   ·have d6:((n2:Int)==0)=false:=by simp;omega
    have HF:Hid (Qy N x=false):=by unfold Hid;simp[Qy,hvv.out,HZ2.out,e6]
    clear e6
    go_wp2
    go_ret
    exact⟨Qa (by rw[HGT.out,HF.out]),HX3.out⟩
  ·have e5':Vw N.nodes x.node=false:=by simpa using e5
   have HF:Hid (Qy N x=false):=by unfold Hid;simp[Qy,hvv.out,e5']
   clear e5
   go_wp2
   go_ret
   exact⟨Qa (by rw[HGT.out,HF.out]),HX3.out⟩
 case false=>
  rw[hv] at l4
  have hvv:Hid (x.via=false):=hv
  clear hv
  by_cases e5:x.node=0
  case neg=>
   have d5:(x.node !=0)=true:=by simpa using e5
   have HF:Hid (Qy N x=false):=by unfold Hid;simp[Qy,hvv.out,e5]
   clear e5
   go_wp2
   go_ret
   exact⟨Qa (by rw[HGT.out,HF.out]),HX2.out⟩
  have d5:(x.node !=0)=false:=by simpa using e5
  have H5:Hid (x.node=0):=e5
  clear e5
  by_cases e6:1<=n2
  case neg=>
   have d6:decide ((n2:Int)<1)=true:=by simp;omega
   have HF:Hid (Qy N x=false):=by unfold Hid;simp[Qy,hvv.out,HZ2.out];intros;omega
   go_wp2
   go_ret
   exact⟨Qa (by rw[HGT.out,HF.out]),HX2.out⟩
  have d6:decide ((n2:Int)<1)=false:=by simp;omega
  by_cases e7:n2<=4
  case neg=>
   have d7:decide (4<(n2:Int))=true:=by simp;omega
   have HF:Hid (Qy N x=false):=by unfold Hid;simp[Qy,hvv.out,HZ2.out];intros;omega
   go_wp2
   go_ret
   exact⟨Qa (by rw[HGT.out,HF.out]),HX2.out⟩
  have d7:decide (4<(n2:Int))=false:=by simp;omega
  have HT:Hid (Qy N x=Jp x.ways.length (λi=>Ju N.ways (iat x.ways i))):=by unfold Hid;simp[Qy,hvv.out,HZ2.out,H5.out,e6,e7]
  go_wp2
  go_loopw [55] (λi wr=>∃k:Nat,k<=n2/\i=.int .i64 k/\Hid (Vq (λi=>Ju N.ways (iat x.ways i)) k)/\Hid (Nx w2 wr)) (λi _=>n2-(intOf i).toNat)
  case atStart=>exact⟨0,Nat.zero_le _,rfl,Jh _,Nx.refl _⟩
  case round=>
   obtain⟨k,hkn,rfl,hrel,HN⟩:=hrel
   have BA3:=BA2.next HN.out
   have k0:=BA3.cell (i:=0) rfl
   have k1:=BA3.cell (i:=1) rfl
   have k2:=BA3.cell (i:=2) rfl
   have k3:=BA3.cell (i:=3) rfl
   have k4:=BA3.cell (i:=4) rfl
   have HW:Hid (Nx w wr):=HX2.out.trans HN.out
   clear BA3
   by_cases hlt:k<n2
   ·obtain⟨b,off,rfl,hB,hb,hc⟩:=hk2 (by omega)
    have hcc:=Q1 HW.out hb (hc k hlt)
    have hlt':(k:Int)<n2:=by omega
    clear hc hk2
    by_cases hin:Ju N.ways (iat x.ways k)=true
    ·go_wp2_with (go_at_call 53;refine(Xy B _ _ _ _ _ _ N.ways _ (by exact h1.keep (HW.out.keeps B)) HASW.out).mono ?_;rintro e w' ⟨rfl,hx⟩)
     go_roundw
     case rel=>exact⟨k+1,by omega,by go_num,Qv hrel hin,HN.out.trans hx⟩
     case measure=>simp[intOf];omega
    ·have hin':Ju N.ways (iat x.ways k)=false:=by simpa using hin
     go_wp2_with (go_at_call 53;refine(Xy B _ _ _ _ _ _ N.ways _ (by exact h1.keep (HW.out.keeps B)) HASW.out).mono ?_;rintro e w' ⟨rfl,hx⟩)
     go_ret
     exact⟨Qa (by rw[HGT.out,HT.out,J7 (by rw[HZ2.out];exact hlt) hin']),HW.out.trans hx⟩
   ·go_wp2
    go_ret
    exact⟨Qa (by rw[HGT.out,HT.out,Jn (by rw[HZ2.out];omega) hrel]),HW.out⟩
end Go.Proofs.YtmmolhlihhdkcaaGreatDoor
