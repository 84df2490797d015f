import Derived.Test.YthhbdfiopjclcaaGreatDoorLeaf
import Derived.Deep.RegionHeld3
namespace Go.Proofs.YthhbdfiopjclcaaGreatDoor
open Go.RowKit
set_option linter.unusedVariables false
set_option maxHeartbeats 16000000
def allIn (zs:List Int):Bool:=Xg zs.length (λi=>inB (iat zs i))
theorem indexFunc_any (B:Nat)(v:Value)(zs:List Int)(w:World)(h0:Qo B w v zs) :
  Calls Tryz.prog 82 #[v,.func (.func 53) #[] #[]] w λe w'=>∃r:Int,e=.returned (.int .i64 r)/\decide (0<=r)=!allIn zs/\w'=w:=by
 obtain⟨a,cap,rfl,hn,hk⟩:=h0
 unfold maxLen at hn
 generalize hz:zs.length=n at *
 have HZ:Hid (zs.length=n):=hz
 clear hz
 go_enter Tryz.func82,Tryz.ntmps82
 go_wp2
 go_loop [8] (λi=>∃k:Nat,k<=n/\i=.int .i64 k/\Hid (Y4 (λi=>inB (iat zs i)) k)) (λi=>n-(intOf i).toNat)
 case atStart=>exact⟨0,Nat.zero_le _,rfl,V1 _⟩
 case round=>
  obtain⟨k,hkn,rfl,hrel⟩:=hrel
  by_cases hlt:k<n
  ·obtain⟨b,off,rfl,hB,hb,hc⟩:=hk (by omega)
   have hcc:=hc k hlt
   clear hc hk
   by_cases hin:inB (iat zs k)=true
   ·go_wp2_with (go_at_call 53;refine(outOfRange_any _ _).mono ?_;rintro e w' ⟨rfl,rfl⟩)
    go_round
    case rel=>exact⟨k+1,by omega,by go_num,J0 hrel hin⟩
    case measure=>simp[intOf];omega
   ·have hin':inB (iat zs k)=false:=by simpa using hin
    go_wp2_with (go_at_call 53;refine(outOfRange_any _ _).mono ?_;rintro e w' ⟨rfl,rfl⟩)
    go_ret
    exact⟨k,rfl,by unfold allIn;rw[Jl (by rw[HZ.out];exact hlt) hin'];simp,rfl⟩
  ·go_wp2
   go_ret
   exact⟨-1,rfl,by unfold allIn;rw[V3 (by rw[HZ.out];omega) hrel];rfl,rfl⟩
theorem containsFunc_any (B:Nat)(v:Value)(zs:List Int)(w:World)(h0:Qo B w v zs) :
  Calls Tryz.prog 52 #[v,.func (.func 53) #[] #[]] w λe w'=>e=.returned (.bool (!allIn zs))/\w'=w:=by
 go_enter Tryz.func52,Tryz.ntmps52
 go_wp2_with fail
 refine(indexFunc_any B _ zs _ h0).mono ?_
 rintro e w' ⟨r,rfl,hr,rfl⟩
 go_wp2
 go_ret
 exact⟨rfl,rfl⟩
def ltI (zs:List Int)(i j:Nat):Bool:=decide (iat zs i<iat zs j)
def Yh (zs:List Int):Bool:=ascN zs.length (ltI zs)
theorem ascI_any (B:Nat)(v:Value)(zs:List Int)(w:World)(h0:Qo B w v zs) :
  Calls Tryz.prog 50 #[v,.func (.func 51) #[] #[]] w λe w'=>e=.returned (.bool (Yh zs))/\Nx w w':=by
 obtain⟨a,cap,rfl,hn,hk⟩:=h0
 unfold maxLen at hn
 generalize hz:zs.length=n at *
 have HZ:Hid (zs.length=n):=hz
 clear hz
 go_enter Tryz.func50,Tryz.ntmps50
 go_wp2
 go_loopw [5] (λi wr=>∃j:Nat,(j+1<=n\/j=0)/\i=.int .i64 ((j:Int)+1)/\Hid (Y4 (Vv (ltI zs)) (j+1))/\Nx w wr) (λi _=>n-(intOf i).toNat)
 case atStart=>exact⟨0,Or.inr rfl,rfl,ascAt_one _,Nx.refl _⟩
 case round=>
  obtain⟨j,hj,rfl,hrel,hnx⟩:=hrel
  have HN:Hid (Nx w wr):=hnx
  clear hnx
  by_cases hlt:j+1<n
  ·obtain⟨b,off,rfl,hB,hb,hc⟩:=hk (by omega)
   have hc0:=Q0 HN.out hb (hc j (by omega))
   have hc1:=Q0 HN.out hb (hc (j+1) hlt)
   have hlt':(j:Int)+1<n:=by omega
   have hlj:(j:Int)<n:=by omega
   have hwj:=U6 j (by omega)
   clear hc hk
   by_cases hab:iat zs j<iat zs (j+1)
   ·have hd:decide (0<=Yn (iat zs j) (iat zs (j+1)))=false:=by rw[Yl];simp[hab]
    have hat:Vv (ltI zs) (j+1)=true:=by rw[Jk];simp[ltI,hab]
    have HT:=hat
    clear hat
    go_wp2
    go_region_with (go_at_call 51;refine(cmp_any _ _ _).mono ?_;rintro e w' ⟨rfl,rfl⟩)
    all_goals go_wp2
    all_goals
     go_roundw
     case rel=>exact⟨j+1,by omega,by go_num,J0 hrel HT,HN.out.drew⟩
     case measure=>simp[intOf];omega
   ·have hd:decide (0<=Yn (iat zs j) (iat zs (j+1)))=true:=by rw[Yl];simp[hab]
    have HT:Hid (Vv (ltI zs) (j+1)=false):=by unfold Hid;rw[Jk];simp[ltI];omega
    go_wp2
    go_region_with (go_at_call 51;refine(cmp_any _ _ _).mono ?_;rintro e w' ⟨rfl,rfl⟩)
    all_goals go_wp2
    all_goals
     go_ret
     exact⟨Q8 (by unfold Yh ascN;rw[Jl (by rw[HZ.out];exact hlt) HT.out]),HN.out.drew⟩
  ·have hge:(n:Int)<=(j:Int)+1:=by omega
   go_wp2
   go_ret
   exact⟨Q8 (by unfold Yh ascN;rw[V3 (by rw[HZ.out];omega) hrel]),HN.out⟩
theorem Yk (x y:Int)(b c:Bool)(p q r s:Value)(w:World) :
  Calls Tryz.prog 56 #[.agg #[.int .i64 x,.bool b,p,q],.agg #[.int .i64 y,.bool c,r,s]] w λe w'=>e=.returned (.int .i64 (Yn x y))/\Nx w w':=by
 go_enter Tryz.func56,Tryz.ntmps56
 go_wp2_with (go_at_call 51;refine(cmp_any _ _ _).mono ?_;rintro e w' ⟨rfl,rfl⟩)
 go_ret
 exact⟨rfl,box2 _ _ _⟩
theorem cmpRels_any (x y:Int)(a1 a2 a3 a4 a5 a6 b1 b2 b3 b4 b5 b6:Value)(w:World) :
  Calls Tryz.prog 59 #[.agg #[.int .i64 x,a1,a2,a3,a4,a5,a6],.agg #[.int .i64 y,b1,b2,b3,b4,b5,b6]] w λe w'=>e=.returned (.int .i64 (Yn x y))/\Nx w w':=by
 go_enter Tryz.func59,Tryz.ntmps59
 go_wp2_with (go_at_call 51;refine(cmp_any _ _ _).mono ?_;rintro e w' ⟨rfl,rfl⟩)
 go_ret
 exact⟨rfl,box2 _ _ _⟩
def orI (a b:Int):Int:=if a=0 then b else a
theorem or_any (b off c:Nat)(x y:Int)(w:World)(h0:w.cell? ⟨b,off,none⟩=some (.int .i64 x))(h1:w.cell? ⟨b,off+1,none⟩=some (.int .i64 y)) :
  Calls Tryz.prog 85 #[.slice (some ⟨b,off,none⟩) 2 c] w λe w'=>e=.returned (.int .i64 (orI x y))/\w'=w:=by
 go_enter Tryz.func85,Tryz.ntmps85
 go_wp2
 go_loop [8] (λi=>(i=.int .i64 0)\/(i=.int .i64 1/\Hid (x=0))\/(i=.int .i64 2/\Hid (x=0/\y=0))) (λi=>2-(intOf i).toNat)
 case atStart=>exact Or.inl rfl
 case round=>
  rcases hrel with rfl|⟨rfl,hx⟩|⟨rfl,hx⟩
  ·by_cases hx:x=0
   ·have hd:(x !=0)=false:=by simp[hx]
    have HX:Hid (x=0):=hx
    clear hx
    go_wp2
    go_round
    case rel=>exact Or.inr (Or.inl ⟨rfl,HX⟩)
    case measure=>simp[intOf]
   ·have hd:(x !=0)=true:=by simp[hx]
    go_wp2
    go_ret
    exact⟨ret_int (by simp[orI,hx]),rfl⟩
  ·by_cases hy:y=0
   ·have hd:(y !=0)=false:=by simp[hy]
    have HY:Hid (x=0/\y=0):=⟨hx.out,hy⟩
    clear hy
    go_wp2
    go_round
    case rel=>exact Or.inr (Or.inr ⟨rfl,HY⟩)
    case measure=>simp[intOf]
   ·have hd:(y !=0)=true:=by simp[hy]
    go_wp2
    go_ret
    exact⟨ret_int (by simp[orI,hx.out]),rfl⟩
  ·go_wp2
   go_ret
   exact⟨ret_int (by simp[orI,hx.out.1,hx.out.2]),rfl⟩
def cmpT (s t:Tn):Int:=orI (Yn s.frm t.frm) (Yn s.to t.to)
def ltTn (s t:Tn):Bool:=decide (s.frm<t.frm)||(s.frm==t.frm&&decide (s.to<t.to))
theorem cmpT_nonneg (s t:Tn):decide (0<=cmpT s t)=!ltTn s t:=by
 unfold cmpT ltTn orI Yn
 by_cases h1:s.frm<t.frm
 ·simp[h1]
 ·by_cases h2:t.frm<s.frm
  ·have:(s.frm==t.frm)=false:=by simp;omega
   simp[h1,h2,this]
  ·have:(s.frm==t.frm)=true:=by simp;omega
   by_cases h3:s.to<t.to
   ·simp[h1,h2,this,h3]
   ·by_cases h4:t.to<s.to<;>simp[h1,h2,this,h3,h4]
theorem fresh0 (W:World)(x y:Value)(t:TypeId)(n:Nat)(hn:W.heap.size=n):(W.alloc (.cells #[x,y] t)).drew.cell? ⟨n,0,none⟩=some x:=by subst hn;go_simp
theorem fresh1 (W:World)(x y:Value)(t:TypeId)(n:Nat)(hn:W.heap.size=n):(W.alloc (.cells #[x,y] t)).drew.cell? ⟨n,0+1,none⟩=some y:=by subst hn;go_simp
theorem cmpTurns_any (s t:Tn)(w:World) :
  Calls Tryz.prog 62 #[.agg #[.int .i64 s.frm,.int .i64 s.to,.int .i64 s.cost],.agg #[.int .i64 t.frm,.int .i64 t.to,.int .i64 t.cost]] w λe w'=>e=.returned (.int .i64 (cmpT s t))/\Nx w w':=by
 go_enter Tryz.func62,Tryz.ntmps62
 go_wp2_with fail
 go_region_held3 (λw'=>w'.cell? ⟨w.heap.size,0,none⟩=some (.int .i64 s.frm)/\w'.cell? ⟨w.heap.size,1,none⟩=some (.int .i64 s.to)/\w'.cell? ⟨w.heap.size+1,0,none⟩=some (.int .i64 t.frm)/\w'.cell? ⟨w.heap.size+1,1,none⟩=some (.int .i64 t.to)) (go_keep) (first|(go_at_call 51;refine(cmp_any _ _ _).mono ?_;rintro e w' ⟨rfl,rfl⟩)|(go_at_call 85;refine(or_any _ _ _ (Yn s.frm t.frm) (Yn s.to t.to) _ (by exact fresh0 _ _ _ _ _ (by simp)) (by exact fresh1 _ _ _ _ _ (by simp))).mono ?_;rintro e w' ⟨rfl,rfl⟩))
 all_goals go_wp2
 all_goals
  go_ret
  exact⟨rfl,((box2 _ _ _).alloc _).drew⟩
end Go.Proofs.YthhbdfiopjclcaaGreatDoor
