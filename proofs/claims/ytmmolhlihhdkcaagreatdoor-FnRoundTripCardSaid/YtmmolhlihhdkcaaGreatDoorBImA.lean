import Derived.Test.YtmmolhlihhdkcaaGreatDoorBLeaf
import Derived.Deep.RegionHeld3
namespace Go.Proofs.YtmmolhlihhdkcaaGreatDoor
open Go.RowKit
set_option linter.unusedVariables false
set_option maxHeartbeats 16000000
def Uo (zs:List Int):Bool:=Jp zs.length (λi=>inB (iat zs i))
theorem Em (B:Nat)(v:Value)(zs:List Int)(w:World)(h0:Qr B w v zs) :
  Calls Tryz.prog 71 #[v,.func (.func 46) #[] #[]] w λe w'=>∃r:Int,e=.returned (.int .i64 r)/\decide (0<=r)=!Uo zs/\w'=w:=by
 obtain⟨a,cap,rfl,hn,hk⟩:=h0
 unfold maxLen at hn
 generalize hz:zs.length=n at *
 have HZ:Hid (zs.length=n):=hz
 clear hz
 go_enter Tryz.func71,Tryz.ntmps71
 go_wp2
 go_loop [8] (λi=>∃k:Nat,k<=n/\i=.int .i64 k/\Hid (Vq (λi=>inB (iat zs i)) k)) (λi=>n-(intOf i).toNat)
 case atStart=>exact⟨0,Nat.zero_le _,rfl,Jh _⟩
 case round=>
  obtain⟨k,hkn,rfl,hrel⟩:=hrel
  by_cases hlt:k<n
  ·obtain⟨b,off,rfl,hB,hb,hc⟩:=hk (by omega)
   have hcc:=hc k hlt
   clear hc hk
   by_cases hin:inB (iat zs k)=true
   ·go_wp2_with (go_at_call 46;refine(Wm _ _).mono ?_;rintro e w' ⟨rfl,rfl⟩)
    go_round
    case rel=>exact⟨k+1,by omega,by go_num,Qv hrel hin⟩
    case measure=>simp[intOf];omega
   ·have hin':inB (iat zs k)=false:=by simpa using hin
    go_wp2_with (go_at_call 46;refine(Wm _ _).mono ?_;rintro e w' ⟨rfl,rfl⟩)
    go_ret
    exact⟨k,rfl,by unfold Uo;rw[J7 (by rw[HZ.out];exact hlt) hin'];simp,rfl⟩
  ·go_wp2
   go_ret
   exact⟨-1,rfl,by unfold Uo;rw[Jn (by rw[HZ.out];omega) hrel];rfl,rfl⟩
theorem Un (B:Nat)(v:Value)(zs:List Int)(w:World)(h0:Qr B w v zs) :
  Calls Tryz.prog 45 #[v,.func (.func 46) #[] #[]] w λe w'=>e=.returned (.bool (!Uo zs))/\w'=w:=by
 go_enter Tryz.func45,Tryz.ntmps45
 go_wp2_with fail
 refine(Em B _ zs _ h0).mono ?_
 rintro e w' ⟨r,rfl,hr,rfl⟩
 go_wp2
 go_ret
 exact⟨rfl,rfl⟩
def ltI (zs:List Int)(i j:Nat):Bool:=decide (iat zs i<iat zs j)
def Ys (zs:List Int):Bool:=Pl zs.length (ltI zs)
theorem Q2t (B:Nat)(v:Value)(zs:List Int)(w:World)(h0:Qr B w v zs) :
  Calls Tryz.prog 43 #[v,.func (.func 44) #[] #[]] w λe w'=>e=.returned (.bool (Ys zs))/\Nx w w':=by
 obtain⟨a,cap,rfl,hn,hk⟩:=h0
 unfold maxLen at hn
 generalize hz:zs.length=n at *
 have HZ:Hid (zs.length=n):=hz
 clear hz
 go_enter Tryz.func43,Tryz.ntmps43
 go_wp2
 go_loopw [5] (λi wr=>∃j:Nat,(j+1<=n\/j=0)/\i=.int .i64 ((j:Int)+1)/\Hid (Vq (Vm (ltI zs)) (j+1))/\Nx w wr) (λi _=>n-(intOf i).toNat)
 case atStart=>exact⟨0,Or.inr rfl,rfl,Tj _,Nx.refl _⟩
 case round=>
  obtain⟨j,hj,rfl,hrel,hnx⟩:=hrel
  have HN:Hid (Nx w wr):=hnx
  clear hnx
  by_cases hlt:j+1<n
  ·obtain⟨b,off,rfl,hB,hb,hc⟩:=hk (by omega)
   have hc0:=Q1 HN.out hb (hc j (by omega))
   have hc1:=Q1 HN.out hb (hc (j+1) hlt)
   have hlt':(j:Int)+1<n:=by omega
   have hlj:(j:Int)<n:=by omega
   have hwj:=W8 j (by omega)
   clear hc hk
   by_cases hab:iat zs j<iat zs (j+1)
   ·have hd:decide (0<=V1 (iat zs j) (iat zs (j+1)))=false:=by rw[Y7];simp[hab]
    have hat:Vm (ltI zs) (j+1)=true:=by rw[J3];simp[ltI,hab]
    have HT:=hat
    clear hat
    go_wp2
    go_region_with (go_at_call 44;refine(Zw _ _ _).mono ?_;rintro e w' ⟨rfl,rfl⟩)
    all_goals go_wp2
    all_goals
     go_roundw
     case rel=>exact⟨j+1,by omega,by go_num,Qv hrel HT,HN.out.drew⟩
     case measure=>simp[intOf];omega
   ·have hd:decide (0<=V1 (iat zs j) (iat zs (j+1)))=true:=by rw[Y7];simp[hab]
    have HT:Hid (Vm (ltI zs) (j+1)=false):=by unfold Hid;rw[J3];simp[ltI];omega
    go_wp2
    go_region_with (go_at_call 44;refine(Zw _ _ _).mono ?_;rintro e w' ⟨rfl,rfl⟩)
    all_goals go_wp2
    all_goals
     go_ret
     exact⟨Qa (by unfold Ys Pl;rw[J7 (by rw[HZ.out];exact hlt) HT.out]),HN.out.drew⟩
  ·have hge:(n:Int)<=(j:Int)+1:=by omega
   go_wp2
   go_ret
   exact⟨Qa (by unfold Ys Pl;rw[Jn (by rw[HZ.out];omega) hrel]),HN.out⟩
theorem Y6 (x y:Int)(b c:Bool)(p q r s:Value)(w:World) :
  Calls Tryz.prog 49 #[.agg #[.int .i64 x,.bool b,p,q],.agg #[.int .i64 y,.bool c,r,s]] w λe w'=>e=.returned (.int .i64 (V1 x y))/\Nx w w':=by
 go_enter Tryz.func49,Tryz.ntmps49
 go_wp2_with (go_at_call 44;refine(Zw _ _ _).mono ?_;rintro e w' ⟨rfl,rfl⟩)
 go_ret
 exact⟨rfl,G0 _ _ _⟩
theorem Iq (x y:Int)(a1 a2 a3 a4 a5 a6 b1 b2 b3 b4 b5 b6:Value)(w:World) :
  Calls Tryz.prog 52 #[.agg #[.int .i64 x,a1,a2,a3,a4,a5,a6],.agg #[.int .i64 y,b1,b2,b3,b4,b5,b6]] w λe w'=>e=.returned (.int .i64 (V1 x y))/\Nx w w':=by
 go_enter Tryz.func52,Tryz.ntmps52
 go_wp2_with (go_at_call 44;refine(Zw _ _ _).mono ?_;rintro e w' ⟨rfl,rfl⟩)
 go_ret
 exact⟨rfl,G0 _ _ _⟩
def orI (a b:Int):Int:=if a=0 then b else a
theorem Q9b (b off c:Nat)(x y:Int)(w:World)(h0:w.cell? ⟨b,off,none⟩=some (.int .i64 x))(h1:w.cell? ⟨b,off+1,none⟩=some (.int .i64 y)) :
  Calls Tryz.prog 74 #[.slice (some ⟨b,off,none⟩) 2 c] w λe w'=>e=.returned (.int .i64 (orI x y))/\w'=w:=by
 go_enter Tryz.func74,Tryz.ntmps74
 go_wp2
 go_loop [8] (λi=>(i=.int .i64 0)\/(i=.int .i64 1/\Hid (x=0))\/(i=.int .i64 2/\Hid (x=0/\y=0))) (λi=>2-(intOf i).toNat)
 case atStart=>exact Or.inl rfl
 case round=>
  rcases hrel with rfl|⟨rfl,hx⟩|⟨rfl,hx⟩
  ·by_cases hx:x=0
   ·have hd:(x !=0)=false:=by simp[hx]
    have HX:Hid (x=0):=hx
    clear hx
    go_wp2
    go_round
    case rel=>exact Or.inr (Or.inl ⟨rfl,HX⟩)
    case measure=>simp[intOf]
   ·have hd:(x !=0)=true:=by simp[hx]
    go_wp2
    go_ret
    exact⟨Ut (by simp[orI,hx]),rfl⟩
  ·by_cases hy:y=0
   ·have hd:(y !=0)=false:=by simp[hy]
    have HY:Hid (x=0/\y=0):=⟨hx.out,hy⟩
    clear hy
    go_wp2
    go_round
    case rel=>exact Or.inr (Or.inr ⟨rfl,HY⟩)
    case measure=>simp[intOf]
   ·have hd:(y !=0)=true:=by simp[hy]
    go_wp2
    go_ret
    exact⟨Ut (by simp[orI,hx.out]),rfl⟩
  ·go_wp2
   go_ret
   exact⟨Ut (by simp[orI,hx.out.1,hx.out.2]),rfl⟩
def Kh (s t:Tn):Int:=orI (V1 s.frm t.frm) (V1 s.to t.to)
def Q0n (s t:Tn):Bool:=decide (s.frm<t.frm)||(s.frm==t.frm&&decide (s.to<t.to))
theorem Ip (s t:Tn):decide (0<=Kh s t)=!Q0n s t:=by
 unfold Kh Q0n orI V1
 by_cases h1:s.frm<t.frm
 ·simp[h1]
 ·by_cases h2:t.frm<s.frm
  ·have:(s.frm==t.frm)=false:=by simp;omega
   simp[h1,h2,this]
  ·have:(s.frm==t.frm)=true:=by simp;omega
   by_cases h3:s.to<t.to
   ·simp[h1,h2,this,h3]
   ·by_cases h4:t.to<s.to<;>simp[h1,h2,this,h3,h4]
theorem Q9z (W:World)(x y:Value)(t:TypeId)(n:Nat)(hn:W.heap.size=n):(W.alloc (.cells #[x,y] t)).drew.cell? ⟨n,0,none⟩=some x:=by subst hn;go_simp
theorem Q9y (W:World)(x y:Value)(t:TypeId)(n:Nat)(hn:W.heap.size=n):(W.alloc (.cells #[x,y] t)).drew.cell? ⟨n,0+1,none⟩=some y:=by subst hn;go_simp
theorem Kg (s t:Tn)(w:World) :
  Calls Tryz.prog 55 #[.agg #[.int .i64 s.frm,.int .i64 s.to,.int .i64 s.cost],.agg #[.int .i64 t.frm,.int .i64 t.to,.int .i64 t.cost]] w λe w'=>e=.returned (.int .i64 (Kh s t))/\Nx w w':=by
 go_enter Tryz.func55,Tryz.ntmps55
 go_wp2_with fail
 go_region_held3 (λw'=>w'.cell? ⟨w.heap.size,0,none⟩=some (.int .i64 s.frm)/\w'.cell? ⟨w.heap.size,1,none⟩=some (.int .i64 s.to)/\w'.cell? ⟨w.heap.size+1,0,none⟩=some (.int .i64 t.frm)/\w'.cell? ⟨w.heap.size+1,1,none⟩=some (.int .i64 t.to)) (go_keep) (first|(go_at_call 44;refine(Zw _ _ _).mono ?_;rintro e w' ⟨rfl,rfl⟩)|(go_at_call 74;refine(Q9b _ _ _ (V1 s.frm t.frm) (V1 s.to t.to) _ (by exact Q9z _ _ _ _ _ (by simp)) (by exact Q9y _ _ _ _ _ (by simp))).mono ?_;rintro e w' ⟨rfl,rfl⟩))
 all_goals go_wp2
 all_goals
  go_ret
  exact⟨rfl,((G0 _ _ _).alloc _).drew⟩
end Go.Proofs.YtmmolhlihhdkcaaGreatDoor
