import Derived.Test.YtdpfdkihbgmapaaGreatLeaf
import Derived.Deep.RegionHeld3
namespace Go.Proofs.YtdpfdkihbgmapaaGreat
open Go.RowKit
set_option linter.unusedVariables false
set_option maxHeartbeats 16000000
def allIn (zs:List Int):Bool:=allN zs.length (λi=>inB (iat zs i))
def ltI (zs:List Int)(i j:Nat):Bool:=decide (iat zs i<iat zs j)
def ascI (zs:List Int):Bool:=ascN zs.length (ltI zs)
def orI (a b:Int):Int:=if a=0 then b else a
theorem or_any (b off c:Nat)(x y:Int)(w:World)(h0:w.cell? ⟨b,off,none⟩=some (.int .i64 x))(h1:w.cell? ⟨b,off+1,none⟩=some (.int .i64 y)) :
  Calls Tryz.prog 57 #[.slice (some ⟨b,off,none⟩) 2 c] w λe w'=>e=.returned (.int .i64 (orI x y))/\w'=w:=by
 go_enter Tryz.func57,Tryz.ntmps57
 go_wp2
 go_loop [8] (λi=>(i=.int .i64 0)\/(i=.int .i64 1/\Hid (x=0))\/(i=.int .i64 2/\Hid (x=0/\y=0))) (λi=>2-(intOf i).toNat)
 case atStart=>exact Or.inl rfl
 case round=>
  rcases hrel with rfl|⟨rfl,hx⟩|⟨rfl,hx⟩
  ·by_cases hx:x=0
   ·have hd:(x !=0)=false:=by simp[hx]
    have HX:Hid (x=0):=hx
    clear hx
    go_wp2
    go_round
    case rel=>exact Or.inr (Or.inl ⟨rfl,HX⟩)
    case measure=>simp[intOf]
   ·have hd:(x !=0)=true:=by simp[hx]
    go_wp2
    go_ret
    exact⟨ret_int (by simp[orI,hx]),rfl⟩
  ·by_cases hy:y=0
   ·have hd:(y !=0)=false:=by simp[hy]
    have HY:Hid (x=0/\y=0):=⟨hx.out,hy⟩
    clear hy
    go_wp2
    go_round
    case rel=>exact Or.inr (Or.inr ⟨rfl,HY⟩)
    case measure=>simp[intOf]
   ·have hd:(y !=0)=true:=by simp[hy]
    go_wp2
    go_ret
    exact⟨ret_int (by simp[orI,hx.out]),rfl⟩
  ·go_wp2
   go_ret
   exact⟨ret_int (by simp[orI,hx.out.1,hx.out.2]),rfl⟩
def ltTn (s t:Tn):Bool:=decide (s.frm<t.frm)||(s.frm==t.frm&&decide (s.to<t.to))
def ltW (xs:List Wy)(i j:Nat):Bool:=decide ((wat xs i).id<(wat xs j).id)
def ascW (xs:List Wy):Bool:=ascN xs.length (ltW xs)
theorem asc_mono {n:Nat}{lt:Nat->Nat->Bool}{f:Nat->Int}(hlt:∀i j,lt i j=decide (f i<f j))(h:ascN n lt=true):∀i j,i<j->j<n->f i<f j:=by
 intro i j hij hj
 unfold ascN allN at h
 rw[List.all_eq_true] at h
 induction j with
 |zero=>omega
 |succ j ih=>
  have h1:=h (j+1) (List.mem_range.2 hj)
  rw[ascAt_succ,hlt] at h1
  have h1:=of_decide_eq_true h1
  by_cases e:i=j
  ·subst e;exact h1
  ·have:=ih (by omega) (by omega);omega
def ltR (xs:List Rl)(i j:Nat):Bool:=decide ((rat xs i).id<(rat xs j).id)
def ascR (xs:List Rl):Bool:=ascN xs.length (ltR xs)
def ltT (xs:List Tn)(i j:Nat):Bool:=ltTn (tat xs i) (tat xs j)
def ascT (xs:List Tn):Bool:=ascN xs.length (ltT xs)
end Go.Proofs.YtdpfdkihbgmapaaGreat
