import Derived.Test.YtmmolhlihhdkcaaGreatDoorBImK
namespace Go.Proofs.YtmmolhlihhdkcaaGreatDoor
open Go.RowKit
set_option linter.unusedVariables false
set_option maxHeartbeats 16000000
def Z2 (N:Nt):Bool:=Jp N.rels.length (λi=>J1 N (rat N.rels i))
theorem Ea (B:Nat)(v0 v1 v2 v3:Value)(u:Int)(N:Nt)(w:World)(h0:Qr B w v0 N.nodes)(h1:Vh B w v1 N.ways)(h2:Zx B w v2 N.rels)(hasc:Ys N.nodes=true)(hascw:Zm N.ways=true) :
  Calls Tryz.prog 28 #[.agg #[v0,v1,v2,v3,.int .i64 u]] w λe w'=>e=.returned (.bool (Z2 N&&Ii N.rels))/\Nx w w':=by
 have HASC:Hid (Ys N.nodes=true):=hasc
 have HASW:Hid (Zm N.ways=true):=hascw
 clear hasc hascw
 have H2:=h2
 obtain⟨a,cap,rfl,hn,hk⟩:=h2
 unfold maxLen at hn
 generalize hz:N.rels.length=n at *
 have HZ:Hid (N.rels.length=n):=hz
 clear hz
 go_enter Tryz.func28,Tryz.ntmps28
 go_wp2
 go_loopw [4,8] (λp i wr=>∃k:Nat,k<=n/\i=.int .i64 k/\Hid (Vq (λi=>J1 N (rat N.rels i)) k)/\Hid (Nx (w.alloc (.cells #[v0,v1,.slice a n cap,v3,.int .i64 u] 28)) wr)) (λ_ i _=>n-(intOf i).toNat)
 case atStart=>exact⟨0,Nat.zero_le _,rfl,Jh _,Nx.refl _⟩
 case round=>
  obtain⟨k,hkn,rfl,hrel,HN⟩:=hrel
  have BA:=(Blk.new w #[v0,v1,.slice a n cap,v3,.int .i64 u] 28 _ rfl).next HN.out
  have k0:=BA.cell (i:=0) rfl
  have k1:=BA.cell (i:=1) rfl
  have k2:=BA.cell (i:=2) rfl
  have k3:=BA.cell (i:=3) rfl
  have k4:=BA.cell (i:=4) rfl
  have hsz:=BA.lt
  have HW:Hid (Nx w wr):=(Qd _ _).trans HN.out
  clear BA
  by_cases hlt:k<n
  ·obtain⟨b,off,rfl,hB,hb,hc⟩:=hk (by omega)
   obtain⟨p1,a0,a1,a2,a3,a4,a5,a6,n1⟩:=hc k hlt
   have m1:=n1.next HW.out
   obtain⟨an,cn,rfl,_⟩:=n1.slice
   have a0:=Q1 HW.out hb a0
   have a1:=Q1 HW.out hb a1
   have a2:=Q1 HW.out hb a2
   have a3:=Q1 HW.out hb a3
   have a4:=Q1 HW.out hb a4
   have a5:=Q1 HW.out hb a5
   have a6:=Q1 HW.out hb a6
   have hlt':(k:Int)<n:=by omega
   have hbr:b<wr.heap.size:=Nat.lt_of_lt_of_le hb HW.out.size
   clear hc hk n1
   by_cases hin:J1 N (rat N.rels k)=true
   ·go_wp2_with (go_at_call 50;refine(Pt B _ _ _ _ _ N (rat N.rels k) _ _ (by exact(h0.next HW.out).next (Qd _ _)) (by exact(h1.keep (HW.out.keeps B)).keep ((Qd _ _).keeps B)) (by exact m1.next (Qd _ _)) HASC.out HASW.out).mono ?_;rintro e w' ⟨rfl,hx⟩)
    go_roundw
    case rel=>exact⟨k+1,by omega,by go_num,Qv hrel hin,HN.out.trans ((Qd _ _).trans hx)⟩
    case measure=>simp[intOf];omega
   ·have hin':J1 N (rat N.rels k)=false:=by simpa using hin
    go_wp2_with (go_at_call 50;refine(Pt B _ _ _ _ _ N (rat N.rels k) _ _ (by exact(h0.next HW.out).next (Qd _ _)) (by exact(h1.keep (HW.out.keeps B)).keep ((Qd _ _).keeps B)) (by exact m1.next (Qd _ _)) HASC.out HASW.out).mono ?_;rintro e w' ⟨rfl,hx⟩)
    go_ret
    exact⟨Qa (by unfold Z2;rw[J7 (by rw[HZ.out];exact hlt) hin'];rfl),HW.out.trans ((Qd _ _).trans hx)⟩
  ·have HA:Hid (Z2 N=true):=Jn (by rw[HZ.out];omega) hrel
   have hge:(n:Int)<=k:=by omega
   go_wp2_with (go_at_call 51;refine(Qas B _ N.rels _ (by exact H2.keep (HW.out.keeps B))).mono ?_;rintro e w2 ⟨rfl,hx⟩)
   go_ret
   exact⟨Qa (by rw[HA.out];rfl),HW.out.trans hx⟩
def Xc (N:Nt)(t:Tn):Bool:=Ju N.ways t.frm&&(Ju N.ways t.to&&inB t.cost)
def Vj (N:Nt):Bool:=Jp N.turns.length (λi=>Xc N (tat N.turns i))
theorem Gn (B:Nat)(v0 v1 v2 v3:Value)(u:Int)(N:Nt)(w:World)(h1:Vh B w v1 N.ways)(h3:Vn B w v3 N.turns)(hascw:Zm N.ways=true) :
  Calls Tryz.prog 29 #[.agg #[v0,v1,v2,v3,.int .i64 u]] w λe w'=>e=.returned (.bool (Vj N&&T9 N.turns))/\Nx w w':=by
 have HASW:Hid (Zm N.ways=true):=hascw
 clear hascw
 have H3:=h3
 obtain⟨a,cap,rfl,hn,hk⟩:=h3
 unfold maxLen at hn
 generalize hz:N.turns.length=n at *
 have HZ:Hid (N.turns.length=n):=hz
 clear hz
 go_enter Tryz.func29,Tryz.ntmps29
 go_wp2
 go_loopw [4,8] (λp i wr=>∃k:Nat,k<=n/\i=.int .i64 k/\Hid (Vq (λi=>Xc N (tat N.turns i)) k)/\Hid (Nx (w.alloc (.cells #[v0,v1,v2,.slice a n cap,.int .i64 u] 28)) wr)) (λ_ i _=>n-(intOf i).toNat)
 case atStart=>exact⟨0,Nat.zero_le _,rfl,Jh _,Nx.refl _⟩
 case round=>
  obtain⟨k,hkn,rfl,hrel,HN⟩:=hrel
  have BA:=(Blk.new w #[v0,v1,v2,.slice a n cap,.int .i64 u] 28 _ rfl).next HN.out
  have k0:=BA.cell (i:=0) rfl
  have k1:=BA.cell (i:=1) rfl
  have k2:=BA.cell (i:=2) rfl
  have k3:=BA.cell (i:=3) rfl
  have k4:=BA.cell (i:=4) rfl
  have hsz:=BA.lt
  have HW:Hid (Nx w wr):=(Qd _ _).trans HN.out
  by_cases hlt:k<n
  ·obtain⟨b,off,rfl,hB,hb,hc⟩:=hk (by omega)
   obtain⟨a0,a1,a2⟩:=hc k hlt
   have a0:=Q1 HW.out hb a0
   have a1:=Q1 HW.out hb a1
   have a2:=Q1 HW.out hb a2
   have hlt':(k:Int)<n:=by omega
   have hbr:b<wr.heap.size:=Nat.lt_of_lt_of_le hb HW.out.size
   have HTG:Hid (Xc N (tat N.turns k)=(Ju N.ways (tat N.turns k).frm&&(Ju N.ways (tat N.turns k).to&&inB (tat N.turns k).cost))):=rfl
   generalize htt:tat N.turns k=tk at *
   have HTT:Hid (tat N.turns k=tk):=htt
   clear hc hk htt
   have BB:=Blk.new wr #[.int .i64 tk.frm,.int .i64 tk.to,.int .i64 tk.cost] 51 _ rfl
   have BAX:=BA.alloc (.cells #[.int .i64 tk.frm,.int .i64 tk.to,.int .i64 tk.cost] 51)
   go_wp2_with fail
   refine(Xy B _ _ _ _ _ _ N.ways _ (by exact(h1.keep (HW.out.keeps B)).keep ((Qd _ _).keeps B)) HASW.out).mono ?_
   rintro e w1 ⟨rfl,hx⟩
   have BA1:=BAX.next hx
   have BB1:=BB.next hx
   have HX1:Hid (Nx wr w1):=(Qd _ _).trans hx
   clear hx BA BB BAX k0 k1 k2 k3 k4 a0 a1 a2
   have k0:=BA1.cell (i:=0) rfl
   have k1:=BA1.cell (i:=1) rfl
   have k2:=BA1.cell (i:=2) rfl
   have k3:=BA1.cell (i:=3) rfl
   have k4:=BA1.cell (i:=4) rfl
   have l1:=BB1.cell (i:=1) rfl
   by_cases e1:Ju N.ways tk.frm=true
   case neg=>
    have e1':Ju N.ways tk.frm=false:=by simpa using e1
    clear e1
    have HF:Hid (Xc N (tat N.turns k)=false):=by unfold Hid;rw[HTT.out,HTG.out,e1'];rfl
    go_wp2
    go_ret
    exact⟨Qa (by unfold Vj;rw[J7 (by rw[HZ.out];exact hlt) HF.out];rfl),HW.out.trans HX1.out⟩
   go_wp2_with fail
   refine(Xy B _ _ _ _ _ _ N.ways _ (by exact(h1.keep (HW.out.keeps B)).keep (HX1.out.keeps B)) HASW.out).mono ?_
   rintro e w2 ⟨rfl,hx⟩
   have BB2:=BB1.next hx
   have HX2:Hid (Nx wr w2):=HX1.out.trans hx
   clear hx BA1 BB1 HX1 k0 k1 k2 k3 k4 l1
   have l2:=BB2.cell (i:=2) rfl
   by_cases e2:Ju N.ways tk.to=true
   case neg=>
    have e2':Ju N.ways tk.to=false:=by simpa using e2
    clear e2
    have HF:Hid (Xc N (tat N.turns k)=false):=by unfold Hid;rw[HTT.out,HTG.out,e2'];simp
    go_wp2
    go_ret
    exact⟨Qa (by unfold Vj;rw[J7 (by rw[HZ.out];exact hlt) HF.out];rfl),HW.out.trans HX2.out⟩
   by_cases e3:inB tk.cost=true
   ·have HF:Hid (Xc N (tat N.turns k)=true):=by unfold Hid;rw[HTT.out,HTG.out,e1,e2,e3];rfl
    go_wp2_with (go_at_call 25;refine(Jj _ _).mono ?_;rintro e w' ⟨rfl,rfl⟩)
    go_roundw
    case rel=>exact⟨k+1,by omega,by go_num,Qv hrel HF.out,HN.out.trans HX2.out⟩
    case measure=>simp[intOf];omega
   ·have e3':inB tk.cost=false:=by simpa using e3
    clear e3
    have HF:Hid (Xc N (tat N.turns k)=false):=by unfold Hid;rw[HTT.out,HTG.out,e3'];simp
    go_wp2_with (go_at_call 25;refine(Jj _ _).mono ?_;rintro e w' ⟨rfl,rfl⟩)
    go_ret
    exact⟨Qa (by unfold Vj;rw[J7 (by rw[HZ.out];exact hlt) HF.out];rfl),HW.out.trans HX2.out⟩
  ·have HA:Hid (Vj N=true):=Jn (by rw[HZ.out];omega) hrel
   have hge:(n:Int)<=k:=by omega
   clear BA
   go_wp2_with (go_at_call 54;refine(Qar B _ N.turns _ (by exact H3.keep (HW.out.keeps B))).mono ?_;rintro e w2 ⟨rfl,hx⟩)
   go_ret
   exact⟨Qa (by rw[HA.out];rfl),HW.out.trans hx⟩
def Qn (N:Nt):Bool:=Xg N&&(inB N.uturn&&((Ys N.nodes&&Uo N.nodes)&&((Ze N&&Zm N.ways)&&((Z2 N&&Ii N.rels)&&(Vj N&&T9 N.turns)))))
theorem U3 (B:Nat)(v0 v1 v2 v3:Value)(N:Nt)(w:World)(h0:Yf B w v0 v1 v2 v3 N)(hs:wsum N.ways N.ways.length<=1048576) :
  Calls Tryz.prog 8 #[.agg #[v0,v1,v2,v3,.int .i64 N.uturn]] w λe w'=>e=.returned (.bool (Qn N))/\Nx w w':=by
 have HV:Hid (Qn N=(Xg N&&(inB N.uturn&&((Ys N.nodes&&Uo N.nodes)&&((Ze N&&Zm N.ways)&&((Z2 N&&Ii N.rels)&&(Vj N&&T9 N.turns))))))):=rfl
 have HS:Hid (wsum N.ways N.ways.length<=1048576):=hs
 clear hs
 go_enter Tryz.func8,Tryz.ntmps8
 go_wp2_with fail
 refine(U6 B _ _ _ _ _ N _ (by exact h0.next (Qd _ _)) HS.out).mono ?_
 rintro e w1 ⟨rfl,hx⟩
 have BA:=(Blk.new w #[v0,v1,v2,v3,.int .i64 N.uturn] 28 _ rfl).next hx
 have HX:Hid (Nx w w1):=(Qd _ _).trans hx
 clear hx
 cases g1:Xg N
 case false=>
  have HF:Hid (false=Qn N):=by unfold Hid;rw[HV.out,g1];rfl
  clear g1
  go_wp2
  go_ret
  exact⟨Qa HF.out,HX.out⟩
 have HV:Hid (Qn N=(inB N.uturn&&((Ys N.nodes&&Uo N.nodes)&&((Ze N&&Zm N.ways)&&((Z2 N&&Ii N.rels)&&(Vj N&&T9 N.turns)))))):=by unfold Hid;rw[HV.out,g1];rfl
 clear g1
 have k0:=BA.cell (i:=0) rfl
 have k1:=BA.cell (i:=1) rfl
 have k2:=BA.cell (i:=2) rfl
 have k3:=BA.cell (i:=3) rfl
 have k4:=BA.cell (i:=4) rfl
 go_wp2_with fail
 refine(Jj _ _).mono ?_
 rintro e w1' ⟨rfl,rfl⟩
 cases g2:inB N.uturn
 case false=>
  have HF:Hid (false=Qn N):=by unfold Hid;rw[HV.out,g2];rfl
  clear g2
  go_wp2
  go_ret
  exact⟨Qa HF.out,HX.out⟩
 have HV:Hid (Qn N=((Ys N.nodes&&Uo N.nodes)&&((Ze N&&Zm N.ways)&&((Z2 N&&Ii N.rels)&&(Vj N&&T9 N.turns))))):=by unfold Hid;rw[HV.out,g2];rfl
 clear g2
 go_wp2_with fail
 refine(Gp B _ _ _ _ _ N.nodes _ (by exact(h0.next HX.out).1)).mono ?_
 rintro e w2 ⟨rfl,hx⟩
 have BA:=BA.next hx
 have HX:Hid (Nx w w2):=HX.out.trans hx
 clear hx k0 k1 k2 k3 k4
 cases g3:(Ys N.nodes&&Uo N.nodes)
 case false=>
  have HF:Hid (false=Qn N):=by unfold Hid;rw[HV.out,g3];rfl
  clear g3
  go_wp2
  go_ret
  exact⟨Qa HF.out,HX.out⟩
 have HV:Hid (Qn N=((Ze N&&Zm N.ways)&&((Z2 N&&Ii N.rels)&&(Vj N&&T9 N.turns)))):=by unfold Hid;rw[HV.out,g3];rfl
 have HASC:Hid (Ys N.nodes=true):=((Bool.and_eq_true _ _).mp g3).1
 clear g3
 have k0:=BA.cell (i:=0) rfl
 have k1:=BA.cell (i:=1) rfl
 have k2:=BA.cell (i:=2) rfl
 have k3:=BA.cell (i:=3) rfl
 have k4:=BA.cell (i:=4) rfl
 go_wp2_with fail
 refine(E9 B _ _ _ _ _ N _ (by exact(h0.next HX.out).1) (by exact(h0.next HX.out).2.1) HASC.out).mono ?_
 rintro e w3 ⟨rfl,hx⟩
 have BA:=BA.next hx
 have HX:Hid (Nx w w3):=HX.out.trans hx
 clear hx k0 k1 k2 k3 k4
 cases g4:(Ze N&&Zm N.ways)
 case false=>
  have HF:Hid (false=Qn N):=by unfold Hid;rw[HV.out,g4];rfl
  clear g4
  go_wp2
  go_ret
  exact⟨Qa HF.out,HX.out⟩
 have HV:Hid (Qn N=((Z2 N&&Ii N.rels)&&(Vj N&&T9 N.turns))):=by unfold Hid;rw[HV.out,g4];rfl
 have HASW:Hid (Zm N.ways=true):=((Bool.and_eq_true _ _).mp g4).2
 clear g4
 have k0:=BA.cell (i:=0) rfl
 have k1:=BA.cell (i:=1) rfl
 have k2:=BA.cell (i:=2) rfl
 have k3:=BA.cell (i:=3) rfl
 have k4:=BA.cell (i:=4) rfl
 go_wp2_with fail
 refine(Ea B _ _ _ _ _ N _ (by exact(h0.next HX.out).1) (by exact(h0.next HX.out).2.1) (by exact(h0.next HX.out).2.2.1) HASC.out HASW.out).mono ?_
 rintro e w4 ⟨rfl,hx⟩
 have BA:=BA.next hx
 have HX:Hid (Nx w w4):=HX.out.trans hx
 clear hx k0 k1 k2 k3 k4
 cases g5:(Z2 N&&Ii N.rels)
 case false=>
  have HF:Hid (false=Qn N):=by unfold Hid;rw[HV.out,g5];rfl
  clear g5
  go_wp2
  go_ret
  exact⟨Qa HF.out,HX.out⟩
 have HV:Hid (Qn N=(Vj N&&T9 N.turns)):=by unfold Hid;rw[HV.out,g5];rfl
 clear g5
 have k0:=BA.cell (i:=0) rfl
 have k1:=BA.cell (i:=1) rfl
 have k2:=BA.cell (i:=2) rfl
 have k3:=BA.cell (i:=3) rfl
 have k4:=BA.cell (i:=4) rfl
 go_wp2_with fail
 refine(Gn B _ _ _ _ _ N _ (by exact(h0.next HX.out).2.1) (by exact(h0.next HX.out).2.2.2) HASW.out).mono ?_
 rintro e w5 ⟨rfl,hx⟩
 have BA:=BA.next hx
 have HX:Hid (Nx w w5):=HX.out.trans hx
 clear hx k0 k1 k2 k3 k4
 have HF:Hid ((Vj N&&T9 N.turns)=Qn N):=HV.out.symm
 generalize (Vj N&&T9 N.turns)=fin at *
 go_wp2
 go_ret
 exact⟨Qa HF.out,HX.out⟩
end Go.Proofs.YtmmolhlihhdkcaaGreatDoor
