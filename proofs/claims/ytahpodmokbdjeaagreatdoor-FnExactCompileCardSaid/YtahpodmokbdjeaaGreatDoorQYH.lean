import Derived.Test.YtahpodmokbdjeaaGreatDoorQYG
import Derived.Test.YtahpodmokbdjeaaGreatDoorQXDE
namespace Go.Proofs.YtahpodmokbdjeaaGreatDoor
open Go.RowKit Tryz
set_option linter.unusedVariables false
set_option maxRecDepth 1000000
set_option maxHeartbeats 16000000
theorem Qew {rs:List Ru}(hg:rgB rs=true)(xs:List Int):-2<=Qw rs xs/\Qw rs xs<4000:=by
 rcases Wh hg lR xs with⟨h,_⟩|⟨h1,⟨j,hj,h2,h3,h4⟩,_⟩|⟨h,_⟩
 ·show -2<=Vk rs xs rs.length/\Vk rs xs rs.length<4000
  omega
 ·have hr:=Zo hg hj
  have:=hr.2.2 ((Qk rs j).seq.length-1) (by omega)
  show -2<=Vk rs xs rs.length/\Vk rs xs rs.length<4000
  omega
 ·show -2<=Vk rs xs rs.length/\Vk rs xs rs.length<4000
  omega
theorem G5 {rs:List Ru}(hg:rgB rs=true):Qw rs []=-1:=by
 refine(Wh hg lR []).uniq (oL ⟨rfl,?_⟩)
 rintro e ⟨j,hj,h2,h3,h4⟩
 have hr:=Zo hg hj
 have:=h3.length_le
 rw[yC,G7 h2] at this
 simp at this
 omega
theorem Qdk (rs:List Ru)(xs:List Int):Js rs xs=true↔∃j,j<rs.length/\(Qk rs j).only=false/\(Qk rs j).seq <:+ xs:=by
 unfold Js
 rw[Bool.not_eq_true',Bool.eq_false_iff]
 constructor
 ·intro h
  apply Classical.byContradiction
  intro hn
  apply h
  refine Qz lR λi hi=>?_
  unfold Wm
  cases ho:(Qk rs i).only with
  |true=>rfl
  |false=>
   cases hs:Pp (Qk rs i).seq xs with
   |false=>rfl
   |true=>exact absurd ⟨i,hi,ho,(Pb _ _).1 hs⟩ hn
 ·rintro⟨j,hj,ho,hs⟩ h
  have:=List.all_eq_true.1 h j (List.mem_range.2 hj)
  unfold Wm at this
  rw[ho,(Pb _ _).2 hs] at this
  cases this
theorem Aj {rs:List Ru}(hg:rgB rs=true):Js rs []=false:=by
 rw[Bool.eq_false_iff]
 intro h
 obtain⟨j,hj,_,h3⟩:=(Qdk rs []).1 h
 have hr:=Zo hg hj
 have:=h3.length_le
 rw[List.length_nil] at this
 omega
section
variable {rs:List Ru}{ws:List (List Int)}
theorem Q7b (hg:rgB rs=true)(hl:ws.length<=2000)(ha:Y2 ws)(hin:∀y,inW ws y↔PW rs rs.length 1 y):Uj (Qn ws (Qw rs) (Js rs))=true:=by
 have hW:WS ws:=Fv hg lR (oL lR) ha hin
 have hp:=hW.pos
 have hlen:(Qn ws (Qw rs) (Js rs)).pa.length=ws.length:=by simp[Qn]
 have h402:∀s,s<ws.length->(wd ws s).length<=402:=λs hs=>Qbn hg lR (oL lR) ((hin _).1 ⟨s,hs,rfl⟩)
 rw[E2]
 unfold Q1q
 rw[hlen,zH,zH,zH]
 refine⟨?_,Qz lR λs hs=>?_,Qz lR λs hs=>?_,Qz lR λs hs=>?_⟩
 ·unfold Gb
  simp[Qn]
  omega
 ·unfold okI
  by_cases c:s=0
  ·subst c
   rw[if_pos rfl,zH]
   refine⟨?_,?_⟩
   ·have:iat (Qn ws (Qw rs) (Js rs)).pa 0=-1:=by
     show iat (ws.map _) 0=_
     rw[Un _ hp,if_pos hW.root]
    rw[this];rfl
   ·rw[T9 hp,hW.root];rfl
  ·rw[if_neg c,Q2x hW (by omega) hs,Yw hW hs,Q5n hW s (by omega) hs]
   simpa using h402 s hs
 ·unfold muI
  by_cases c:s=0
  ·subst c
   rw[if_pos rfl,T8 hp,Ta hp,hW.root,G5 hg,Aj hg]
   rfl
  ·rw[if_neg c,T8 hs]
   have:=Qew hg (wd ws s)
   simp
   exact this
 ·unfold faI
  by_cases c:s=0
  ·subst c
   have:iat (Qn ws (Qw rs) (Js rs)).fa 0=-1:=by
    show iat (ws.map _) 0=_
    rw[Un _ hp,if_pos hW.root]
   rw[this,if_pos rfl];rfl
  ·have:iat (Qn ws (Qw rs) (Js rs)).fa s=LW ws (wd ws s) 1:=by
    show iat (ws.map _) s=_
    rw[Un _ hs,if_neg (hW.ne (by omega) hs)]
   rw[this,if_neg c,(Uh (mu:=Qw rs) (bd:=Js rs) hW (by omega) hs).1]
   simp
end
theorem Qg5 {N:Nt}{A:Au}(hv:Qe N=true)(hB:Yy (J5 N).rules 0 A):Uj A=true/\Q7f (Q9 A (wsA A)) (E1 N).length A.pa.length:=by
 rcases hB with⟨-,h,-⟩|⟨hg,ws,hI,⟨-,h,-⟩|⟨hl,-,rfl⟩⟩
 ·exact absurd h (by decide)
 ·exact absurd h (by decide)
 have hin:∀y,inW ws y↔PW (J5 N).rules (J5 N).rules.length 1 y:=λy=>⟨hI.yes y,hI.all hl y⟩
 have hV:=Q7b hg hl hI.asc hin
 have hW:WS ws:=Fv hg lR (oL lR) hI.asc hin
 have hlen:(Qn ws (Qw (J5 N).rules) (Js (J5 N).rules)).pa.length=ws.length:=by simp[Qn]
 have hT:Zc (Qn ws (Qw (J5 N).rules) (Js (J5 N).rules)) ws.length:=Wn hW
 have hok:=(Q7i hV).1
 have hp:0<ws.length:=hW.pos
 have hbd:∀s e,0<=T3 (wsA (Qn ws (Qw (J5 N).rules) (Js (J5 N).rules))) s e/\T3 (wsA (Qn ws (Qw (J5 N).rules) (Js (J5 N).rules))) s e<ws.length:=λs e=>by
  have h:=Q88 (x:=wd (wsA (Qn ws (Qw (J5 N).rules) (Js (J5 N).rules))) s++[e]) hok.e (k:=0) (f:=(wd (wsA (Qn ws (Qw (J5 N).rules) (Js (J5 N).rules))) s++[e]).length+1-0) (by omega) (by omega)
  rw[hok.l,hlen] at h
  exact h
 refine⟨hV,⟨λs e=>?_,λs e=>?_,λe he=>?_⟩⟩
 ·rw[hlen]
  unfold Q9
  have:=hbd s.toNat e
  split
  ·omega
  ·split
   ·omega
   ·split<;>omega
 ·unfold Q9
  have:=hbd s.toNat e
  split
  ·omega
  ·split
   ·omega
   ·split<;>omega
 ·have h4:=Ar (Jz hv)
  have hs:=Q0m hV (s:=0) (by rw[hlen];exact hp) (e:Int)
  rw[show((0:Nat):Int)=0 from rfl] at hs
  rw[hs]
  unfold Q7t
  rw[if_neg (by omega),if_neg (λc=>?_),if_neg (λc=>?_)]
  ·omega
  ·rw[hlen] at c
   obtain⟨g1,g2⟩:=Q8m hT hp (e:Int)
   obtain⟨v,j,h1,h2,-,-,h5⟩:=Aq hT (Wd (Qn ws (Qw (J5 N).rules) (Js (J5 N).rules)) 0++[(e:Int)]) (k:=0) nZ
   have ev:v=goOf (Qn ws (Qw (J5 N).rules) (Js (J5 N).rules)) ws.length 0 (e:Int):=by rw[g1] at h2;omega
   subst ev
   rw[Ta g2,<-Yw (mu:=Qw (J5 N).rules) (bd:=Js (J5 N).rules) hW g2,h5] at c
   obtain⟨k,hk,-,h3⟩:=(Qdk _ _).1 c
   have hr:=Zo hg hk
   have:=h3.length_le
   rw[List.length_drop,zA,Yw hW hp,hW.root] at this
   simp at this
   omega
  ·rw[Ta hp,T8 hp,hW.root,Aj hg,G5 hg] at c
   rcases c with c|c
   ·cases c
   ·exact c.1 rfl
theorem Ea (B0:Nat)(v0 v1 v2 v3:Value)(N:Nt)(w:World)(h0:Ye B0 w v0 v1 v2 v3 N)(hs:wsum N.ways N.ways.length<=1048576) :
  Calls prog 5 #[.agg #[v0,v1,v2,v3,iV N.uturn]] w λe w'=>Q0g N w w' e:=F9 B0 v0 v1 v2 v3 N w h0 hs (λA hv hB=>Qg5 hv hB)
end Go.Proofs.YtahpodmokbdjeaaGreatDoor
