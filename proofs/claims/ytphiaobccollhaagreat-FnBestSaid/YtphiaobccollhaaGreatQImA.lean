import Derived.Test.YtphiaobccollhaaGreatQLeaf
import Derived.Deep.RegionHeld3
namespace Go.Proofs.YtphiaobccollhaaGreat
open Go.RowKit Tryz
set_option linter.unusedVariables false
set_option maxHeartbeats 16000000
def Ki (zs:List Int):Bool:=Qo zs.length (λi=>inB (iat zs i))
theorem Q02 (B:Nat)(v:Value)(zs:List Int)(w:World)(h0:Qi B w v zs) :
  Calls prog 66 #[v,.func (.func 36) #[] #[]] w λe w'=>∃r:Int,e=.returned (iV r)/\decide (0<=r)=!Ki zs/\w'=w:=by
 obtain⟨a,cap,rfl,hn,hk⟩:=h0
 unfold maxLen at hn
 generalize hz:zs.length=n at *
 have HZ:=mh hz
 clear hz
 go_enter func66,ntmps66
 go_wp2
 go_loop [8] (λi=>∃k:Nat,k<=n/\i=iV k/\Z (Jz (λi=>inB (iat zs i)) k)) (λi=>n-(intOf i).toNat)
 case atStart=>exact⟨0,nZ,rfl,Qy _⟩
 case round=>
  obtain⟨k,hkn,rfl,hrel⟩:=hrel
  by_cases hlt:k<n
  ·obtain⟨b,off,rfl,hB,hb,hc⟩:=hk (by omega)
   have hcc:=hc k hlt
   clear hc hk
   by_cases hin:inB (iat zs k)=true
   ·go_wp2_with (go_at_call 36;refine(Tz _ _).mono ?_;rintro e w' ⟨rfl,rfl⟩)
    go_round
    case rel=>exact⟨k+1,by omega,by go_num,Qm hrel hin⟩
    case measure=>simp[intOf];omega
   ·have hin':inB (iat zs k)=false:=by simpa using hin
    go_wp2_with (go_at_call 36;refine(Tz _ _).mono ?_;rintro e w' ⟨rfl,rfl⟩)
    go_ret
    exact⟨k,rfl,by unfold Ki;rw[Qx (by rw[HZ.o];exact hlt) hin'];simp,rfl⟩
  ·go_wp2
   go_ret
   exact⟨-1,rfl,by unfold Ki;rw[Qt (by rw[HZ.o];omega) hrel];rfl,rfl⟩
theorem Gy (B:Nat)(v:Value)(zs:List Int)(w:World)(h0:Qi B w v zs) :
  Calls prog 35 #[v,.func (.func 36) #[] #[]] w λe w'=>e=.returned (.bool (!Ki zs))/\w'=w:=by
 go_enter func35,ntmps35
 go_wp2_with fail
 refine(Q02 B _ zs _ h0).mono ?_
 rintro e w' ⟨r,rfl,hr,rfl⟩
 go_wp2
 go_ret
 exact⟨rfl,rfl⟩
def ltI (zs:List Int)(i j:Nat):Bool:=decide (iat zs i<iat zs j)
def Qeu (zs:List Int):Bool:=Tg zs.length (ltI zs)
def orI (a b:Int):Int:=if a=0 then b else a
theorem Qfu (b off c:Nat)(x y:Int)(w:World)(h0:w.cell? (aD b off)=some (iV x))(h1:w.cell? (aD b (off+1))=some (iV y)) :
  Calls prog 68 #[sL (some (aD b off)) 2 c] w λe w'=>e=.returned (iV (orI x y))/\w'=w:=by
 go_enter func68,ntmps68
 go_wp2
 go_loop [8] (λi=>(i=iV 0)\/(i=iV 1/\Z (x=0))\/(i=iV 2/\Z (x=0/\y=0))) (λi=>2-(intOf i).toNat)
 case atStart=>exact oL rfl
 case round=>
  rcases hrel with rfl|⟨rfl,hx⟩|⟨rfl,hx⟩
  ·by_cases hx:x=0
   ·have hd:(x !=0)=false:=by simp[hx]
    have HX:Z (x=0):=hx
    clear hx
    go_wp2
    go_round
    case rel=>exact oR (oL ⟨rfl,HX⟩)
    case measure=>simp[intOf]
   ·have hd:(x !=0)=true:=by simp[hx]
    go_wp2
    go_ret
    exact⟨Qu (by simp[orI,hx]),rfl⟩
  ·by_cases hy:y=0
   ·have hd:(y !=0)=false:=by simp[hy]
    have HY:Z (x=0/\y=0):=⟨hx.o,hy⟩
    clear hy
    go_wp2
    go_round
    case rel=>exact oR (oR ⟨rfl,HY⟩)
    case measure=>simp[intOf]
   ·have hd:(y !=0)=true:=by simp[hy]
    go_wp2
    go_ret
    exact⟨Qu (by simp[orI,hx.o]),rfl⟩
  ·go_wp2
   go_ret
   exact⟨Qu (by simp[orI,hx.o.1,hx.o.2]),rfl⟩
def Q9b (s t:Tn):Bool:=decide (s.frm<t.frm)||(s.frm==t.frm&&decide (s.to<t.to))
theorem Qg8 (W:World)(x y:Value)(t:TypeId)(n:Nat)(hn:W.heap.size=n):(W.alloc (.cells #[x,y] t)).drew.cell? (aD n 0)=some x:=by subst hn;go_simp
theorem Qg7 (W:World)(x y:Value)(t:TypeId)(n:Nat)(hn:W.heap.size=n):(W.alloc (.cells #[x,y] t)).drew.cell? (aD n (0+1))=some y:=by subst hn;go_simp
theorem Ah {n:Nat}{lt:Nat->Nat->Bool}{f:Nat->Int}(hlt:∀i j,lt i j=decide (f i<f j))(h:Tg n lt=true):∀i j,i<j->j<n->f i<f j:=by
 intro i j hij hj
 unfold Tg Qo at h
 rw[List.all_eq_true] at h
 induction j with
 |zero=>omega
 |succ j ih=>
  have h1:=h (j+1) (List.mem_range.2 hj)
  rw[Ji,hlt] at h1
  have h1:=of_decide_eq_true h1
  by_cases e:i=j
  ·subst e;exact h1
  ·have:=ih (by omega) (by omega);omega
def ltW (xs:List Wy)(i j:Nat):Bool:=decide ((wat xs i).id<(wat xs j).id)
def Qet (xs:List Wy):Bool:=Tg xs.length (ltW xs)
def ltR (xs:List Rl)(i j:Nat):Bool:=decide ((rat xs i).id<(rat xs j).id)
def Qgk (xs:List Rl):Bool:=Tg xs.length (ltR xs)
def ltT (xs:List Tn)(i j:Nat):Bool:=Q9b (tat xs i) (tat xs j)
def Qgj (xs:List Tn):Bool:=Tg xs.length (ltT xs)
end Go.Proofs.YtphiaobccollhaaGreat
