import Derived.Test.YthhkjbfkgdlkmaaGreatDoorLeaf
import Derived.Deep.RegionHeld3
namespace Go.Proofs.YthhkjbfkgdlkmaaGreatDoor
open Go.RowKit
set_option linter.unusedVariables false
set_option maxHeartbeats 16000000
def orI (a b:Int):Int:=if a=0 then b else a
theorem or_any (b off c:Nat)(x y:Int)(w:World)(h0:w.cell? ⟨b,off,none⟩=some (.int .i64 x))(h1:w.cell? ⟨b,off+1,none⟩=some (.int .i64 y)) :
  Calls Tryz.prog 87 #[.slice (some ⟨b,off,none⟩) 2 c] w λe w'=>e=.returned (.int .i64 (orI x y))/\w'=w:=by
 go_enter Tryz.func87,Tryz.ntmps87
 go_wp2
 go_loop [8] (λi=>(i=.int .i64 0)\/(i=.int .i64 1/\Hid (x=0))\/(i=.int .i64 2/\Hid (x=0/\y=0))) (λi=>2-(intOf i).toNat)
 case atStart=>exact Or.inl rfl
 case round=>
  rcases hrel with rfl|⟨rfl,hx⟩|⟨rfl,hx⟩
  ·by_cases hx:x=0
   ·have hd:(x !=0)=false:=by simp[hx]
    have HX:Hid (x=0):=hx
    clear hx
    go_wp2
    go_round
    case rel=>exact Or.inr (Or.inl ⟨rfl,HX⟩)
    case measure=>simp[intOf]
   ·have hd:(x !=0)=true:=by simp[hx]
    go_wp2
    go_ret
    exact⟨ret_int (by simp[orI,hx]),rfl⟩
  ·by_cases hy:y=0
   ·have hd:(y !=0)=false:=by simp[hy]
    have HY:Hid (x=0/\y=0):=⟨hx.out,hy⟩
    clear hy
    go_wp2
    go_round
    case rel=>exact Or.inr (Or.inr ⟨rfl,HY⟩)
    case measure=>simp[intOf]
   ·have hd:(y !=0)=true:=by simp[hy]
    go_wp2
    go_ret
    exact⟨ret_int (by simp[orI,hx.out]),rfl⟩
  ·go_wp2
   go_ret
   exact⟨ret_int (by simp[orI,hx.out.1,hx.out.2]),rfl⟩
def cmpT (s t:Tn):Int:=orI (cmpI s.frm t.frm) (cmpI s.to t.to)
theorem fresh0 (W:World)(x y:Value)(t:TypeId)(n:Nat)(hn:W.heap.size=n):(W.alloc (.cells #[x,y] t)).drew.cell? ⟨n,0,none⟩=some x:=by subst hn;go_simp
theorem fresh1 (W:World)(x y:Value)(t:TypeId)(n:Nat)(hn:W.heap.size=n):(W.alloc (.cells #[x,y] t)).drew.cell? ⟨n,0+1,none⟩=some y:=by subst hn;go_simp
end Go.Proofs.YthhkjbfkgdlkmaaGreatDoor
