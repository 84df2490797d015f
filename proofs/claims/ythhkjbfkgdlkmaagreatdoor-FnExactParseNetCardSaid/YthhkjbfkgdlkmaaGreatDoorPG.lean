import Derived.Test.YthhkjbfkgdlkmaaGreatDoorPFn
import Derived.Test.YthhkjbfkgdlkmaaGreatDoorPFu
import Derived.Test.YthhkjbfkgdlkmaaGreatDoorPFt
import Derived.Test.YthhkjbfkgdlkmaaGreatDoorPFw
import Derived.Test.YthhkjbfkgdlkmaaGreatDoorPFx
import Derived.Test.YthhkjbfkgdlkmaaGreatDoorPFy
namespace Go.Proofs.YthhkjbfkgdlkmaaGreatDoor
open Go.RowKit Go.Sort
set_option linter.unusedVariables false
set_option maxRecDepth 1000000
set_option maxHeartbeats 16000000
structure De5 where
 vn:Value
 vw:Value
 vr:Value
 nn:Value
 nw:Value
abbrev Dx:=De×De5
def dcell (x:Dx):List Value:=[.int .i64 x.1.kind,.int .i64 x.1.a,.int .i64 x.1.b,.int .i64 x.1.way.id,.bool x.1.way.both,x.2.vn,x.2.vw,.int .i64 x.1.rel.id,.bool x.1.rel.only,.int .i64 x.1.rel.frm,.int .i64 x.1.rel.to,.bool x.1.rel.via,.int .i64 x.1.rel.node,x.2.vr,.int .i64 x.1.cost,x.2.nn,x.2.nw]
def zDe:De:=⟨0,0,0,zWy,zRl,0,[],[]⟩
def zDx:Dx:=(zDe,⟨.slice none 0 0,.slice none 0 0,.slice none 0 0,.slice none 0 0,.slice none 0 0⟩)
def dat (ds:List De)(i:Nat):De:=ds.getD i zDe
def OwnDs (C:Nat)(w:World)(v:Value)(xs:List Dx):Prop:=w.ownsRow C 49 17 v xs.length (xs.flatMap dcell)
def HDx (C:Nat)(w:World)(x:Dx):Prop:=HDe C w x.1 x.2.vn x.2.vw x.2.vr x.2.nn x.2.nw
theorem deV_dcell (d:De)(a b c e g:Value):deV d a b c e g=.agg (dcell (d,⟨a,b,c,e,g⟩)).toArray:=rfl
theorem OwnDs.at {C:Nat}{w:World}{v:Value}{xs:List Dx}(h:OwnDs C w v xs){i:Nat}(hi:i<xs.length) :
  ∃b c,v=.slice (some ⟨b,0,none⟩) xs.length c/\xs.length<=c/\C<=b/\b<w.heap.size/\∀q,q<17->w.cell? ⟨b,i*17+q,none⟩=(dcell xs[i])[q]?:=by
 obtain⟨b,c,e,h1,_,hC,hb,k⟩:=row_cells (l:=xs) (f:=dcell) h rfl (by decide) (λ_=>rfl) (i:=i) (x:=xs[i]) (by simp[hi])
 exact⟨b,c,e,h1,hC,hb,k⟩
theorem infoDx:(Tryz.prog.info? 49).map (λi=>(i.zero,i.size,i.bytes))=some (some (.agg (dcell zDx).toArray),17,216):=by kernel_rfl
theorem app_de {ops:Array Oper}{rest:List Oper}{o:Oper}{a:Act}{Q:Exit->Act->World->Prop}(hgd:o.guard=none)(s x:Operand)(ho:o.op=.call { callee:=.builtin .append,args:=#[s,x],argTypes:=#[41,41] })
  (C n:Nat) (v:Value) (xs:List Dx) (y:Dx) (w0:World) (hs:a.eval s=v) (hown:OwnDs C w0 v xs) (hx:a.eval x=.slice (some ⟨w0.heap.size,0,none⟩) 1 1) (hn:xs.length=n) (hy:∀u∈dcell y,u.oneCell'=true) (hm:n<=1000000) (hC:C<=w0.heap.size)
  (h:∀a' c' w',OwnDs C w' (.slice a' (n+1) c') (xs++[y])->Chg (λx=>some x=v.ownBlock) w0 w'->(∀g,(Value.slice a' (n+1) c').ownBlock=some g->v.ownBlock=some g\/w0.heap.size<=g)->wpList Tryz.prog ops Q rest (a.put o.dst (.slice a' (n+1) c')) w') :
  wpList Tryz.prog ops Q (o::rest) a (w0.alloc (.cells (dcell y).toArray 49)):=by
 subst hn
 refine app_row infoDx Tryz.underlying41 rfl (by decide) (by decide) hgd s x ho C xs.length v (xs.flatMap dcell) (dcell y) w0 hs hown hx rfl hy hm hC (λa' c' w' r1 r2 r3=>h a' c' w' ?_ r2 r3)
 unfold OwnDs
 rw[List.length_append,List.flatMap_append,List.flatMap_singleton]
 exact r1
theorem OwnI.slice1 {C:Nat}{w:World}{v:Value}{l:List Int}(h:OwnI C w v l):∃a c,v=.slice a l.length c:=by
 obtain⟨a,c,e⟩:=row_slice h
 exact⟨a,c,e⟩
theorem HDx.one {C:Nat}{w:World}{y:Dx}(h:HDx C w y):∀u∈dcell y,u.oneCell'=true:=by
 intro u hu
 obtain⟨a1,c1,e1⟩:=h.h1.slice1
 obtain⟨a2,c2,e2⟩:=h.h2.slice1
 obtain⟨a3,c3,e3⟩:=h.h3.slice1
 obtain⟨a4,c4,e4⟩:=h.h4.slice1
 obtain⟨a5,c5,e5⟩:=h.h5.slice1
 simp only[dcell,List.mem_cons,List.not_mem_nil,or_false] at hu
 rcases hu with rfl|rfl|rfl|rfl|rfl|rfl|rfl|rfl|rfl|rfl|rfl|rfl|rfl|rfl|rfl|rfl|rfl<;>first|rfl|(rw[e1];rfl)|(rw[e2];rfl)|(rw[e3];rfl)|(rw[e4];rfl)|(rw[e5];rfl)
theorem chk0 {f:List ByteArray}(h:chkS f=0) :
  (((sat f 0).toList=[110,111,100,101]/\f.length=2)\/((sat f 0).toList=[119,97,121]/\6<=f.length/\f.length%2=0/\f.length<=204/\((sat f 2).toList=[102]\/(sat f 2).toList=[98]))
    \/ (relB (sat f 0)=true/\6<=f.length/\(((sat f 3).toList=[97,116]/\f.length=6)\/((sat f 3).toList=[98,121]/\f.length<=9)))
    \/ ((sat f 0).toList=[116,117,114,110]/\f.length=4)\/((sat f 0).toList=[117,116,117,114,110]/\f.length=2))/\allN f.length (numB f)=true:=by
 unfold chkS at h
 split at h
 ·exact absurd h (by decide)
 rename_i c1
 split at h
 ·exact absurd h (by decide)
 rename_i c2
 split at h
 ·exact absurd h (by decide)
 rename_i c3
 split at h
 ·exact absurd h (by decide)
 rename_i c4
 split at h
 ·exact absurd h (by decide)
 rename_i c5
 split at h
 ·exact absurd h (by decide)
 rename_i c6
 split at h
 ·exact absurd h (by decide)
 rename_i c7
 split at h
 ·rename_i c8
  refine⟨?_,c8⟩
  by_cases w1:(sat f 0).toList=[110,111,100,101]
  ·exact Or.inl ⟨w1,Decidable.byContradiction λk=>c2 (Or.inl ⟨w1,k⟩)⟩
  by_cases w2:(sat f 0).toList=[119,97,121]
  ·refine Or.inr (Or.inl ⟨w2,Nat.le_of_not_lt λk=>c3 ⟨w2,Or.inl k⟩,?_,Nat.le_of_not_lt λk=>c3 ⟨w2,Or.inr (Or.inr k)⟩,?_⟩)
   ·have:¬f.length%2=1:=λk=>c3 ⟨w2,Or.inr (Or.inl k)⟩
    omega
   ·by_cases k:(sat f 2).toList=[102]
    ·exact Or.inl k
    ·exact Or.inr (Decidable.byContradiction λk'=>c5 ⟨w2,k,k'⟩)
  by_cases w3:relB (sat f 0)=true
  ·refine Or.inr (Or.inr (Or.inl ⟨w3,Nat.le_of_not_lt λk=>c4 ⟨w3,k⟩,?_⟩))
   have l6:¬f.length<6:=λk=>c4 ⟨w3,k⟩
   by_cases k:(sat f 3).toList=[97,116]
   ·have:¬6<f.length:=λk'=>c7 ⟨w3,Or.inl ⟨k,k'⟩⟩
    exact Or.inl ⟨k,by omega⟩
   ·have k2:(sat f 3).toList=[98,121]:=Decidable.byContradiction λk'=>c6 ⟨w3,k,k'⟩
    exact Or.inr ⟨k2,Nat.le_of_not_lt λk'=>c7 ⟨w3,Or.inr ⟨k2,k'⟩⟩⟩
  by_cases w4:(sat f 0).toList=[116,117,114,110]
  ·exact Or.inr (Or.inr (Or.inr (Or.inl ⟨w4,Decidable.byContradiction λk=>c2 (Or.inr (Or.inr ⟨w4,k⟩))⟩)))
  by_cases w5:(sat f 0).toList=[117,116,117,114,110]
  ·exact Or.inr (Or.inr (Or.inr (Or.inr ⟨w5,Decidable.byContradiction λk=>c2 (Or.inr (Or.inl ⟨w5,k⟩))⟩)))
  exact absurd ⟨w1,w2,w4,w5,by simpa using w3⟩ c1
 ·exact absurd h (by decide)
theorem l1Read_any (C:Nat)(a:Option Addr)(n c:Nat)(f:List ByteArray)(w:World)(h:OwnSt C w (.slice a n c) f)(hn:f.length=n)(hs:∀i,i<n->(sat f i).size<=300000)(hk:chkS f=0) :
  Calls Tryz.prog 16 #[.slice a n c] w λe w'=>(∃x:Dx,x.1=rdS f/\e=.returned (.agg (dcell x).toArray)/\HDx w.heap.size w' x)/\Nx w w':=by
 have key:Calls Tryz.prog 16 #[.slice a n c] w λe w'=>(∃vn vw vr nn nw,e=.returned (deV (rdS f) vn vw vr nn nw)/\HDe w.heap.size w' (rdS f) vn vw vr nn nw)/\Nx w w':=by
  obtain⟨k,-⟩:=chk0 hk
  rcases k with⟨k,l⟩|⟨k,l,-,l',-⟩|⟨k,l,⟨z,l'⟩|⟨z,l'⟩⟩|⟨k,l⟩|⟨k,l⟩
  ·exact rd_node C a n c f w h hn (by omega) hs k (by omega)
  ·exact rd_way C a n c f w h hn (by omega) hs k (by omega)
  ·exact rd_at C a n c f w h hn (by omega) hs k z (by omega)
  ·exact rd_by C a n c f w h hn (by omega) hs k (by rw[z];decide) (by omega)
  ·exact rd_turn C a n c f w h hn (by omega) hs k (by omega)
  ·exact rd_uturn C a n c f w h hn (by omega) hs k (by omega)
 refine key.mono ?_
 rintro e w' ⟨⟨vn,vw,vr,nn,nw,rfl,hd⟩,hx⟩
 exact⟨⟨(rdS f,⟨vn,vw,vr,nn,nw⟩),rfl,by rw[deV_dcell],hd⟩,hx⟩
def des (xs:List Dx):List De:=xs.map (·.1)
theorem des_len (xs:List Dx):(des xs).length=xs.length:=by simp[des]
theorem dat_des {xs:List Dx}{i:Nat}(h:i<xs.length):(xs[i]).1=dat (des xs) i:=by simp[des,dat,List.getD_eq_getElem?_getD,h]
structure RDs (w:World)(g n:Nat)(ds:List De):Prop where
 k:∀i,i<n->w.cell? ⟨g,i*17,none⟩=some (.int .i64 (dat ds i).kind)
 a:∀i,i<n->w.cell? ⟨g,i*17+1,none⟩=some (.int .i64 (dat ds i).a)
 b:∀i,i<n->w.cell? ⟨g,i*17+2,none⟩=some (.int .i64 (dat ds i).b)
theorem OwnDs.rd {C:Nat}{w:World}{a:Option Addr}{n c:Nat}{xs:List Dx}(h:OwnDs C w (.slice a n c) xs)(hn:xs.length=n):∃g,(0<n->a=some ⟨g,0,none⟩)/\RDs w g n (des xs):=by
 by_cases hp:0<n
 ·obtain⟨g,c',e,-⟩:=h.at (i:=0) (by omega)
  simp only[Value.slice.injEq] at e
  have key:∀i (hi:i<n) q,q<17->w.cell? ⟨g,i*17+q,none⟩=(dcell (xs[i]'(by omega)))[q]?:=λi hi q hq=>by
   obtain⟨g',c',e',-,-,-,hc⟩:=h.at (i:=i) (by omega)
   simp only[Value.slice.injEq] at e'
   have e3:some (⟨g,0,none⟩:Addr)=some ⟨g',0,none⟩:=by rw[<-e.1,<-e'.1]
   have e4:g=g':=by simpa using e3
   rw[e4];exact hc q hq
  refine⟨g,λ_=>e.1,⟨λi hi=>?_,λi hi=>?_,λi hi=>?_⟩⟩
  ·rw[<-dat_des (by omega)];exact key i hi 0 (by omega)
  ·rw[<-dat_des (by omega)];exact key i hi 1 (by omega)
  ·rw[<-dat_des (by omega)];exact key i hi 2 (by omega)
 ·exact⟨0,λh=>absurd h hp,⟨λi hi=>by omega,λi hi=>by omega,λi hi=>by omega⟩⟩
def fndP (p:De->Bool)(ds:List De):Int:=match ds.findIdx? p with|some i=>(i:Int)|none=>-1
def pk (kind a b:Int)(d:De):Bool:=d.kind==kind&&(d.a==a&&d.b==b)
theorem fnd_at {p:De->Bool}{ds:List De}{i:Nat}(hi:i<ds.length)(hp:p (dat ds i)=true)(hb:∀j,j<i->p (dat ds j)=false):(i:Int)=fndP p ds:=by
 have e:ds.findIdx? p=some i:=by
  rw[List.findIdx?_eq_some_iff_getElem]
  refine⟨hi,?_,λj hj=>?_⟩
  ·simpa [dat,List.getD_eq_getElem?_getD,hi] using hp
  ·have:=hb j hj
   simpa [dat,List.getD_eq_getElem?_getD,show j<ds.length by omega] using this
 unfold fndP
 rw[e]
theorem fnd_none {p:De->Bool}{ds:List De}(hb:∀j,j<ds.length->p (dat ds j)=false):-1=fndP p ds:=by
 have e:ds.findIdx? p=none:=by
  rw[List.findIdx?_eq_none_iff]
  intro x hx
  obtain⟨j,hj,rfl⟩:=List.mem_iff_getElem.1 hx
  have:=hb j hj
  simpa [dat,List.getD_eq_getElem?_getD,hj] using this
 unfold fndP
 rw[e]
theorem l1Find_any (C:Nat)(a:Option Addr)(n c:Nat)(xs:List Dx)(w:World)(h:OwnDs C w (.slice a n c) xs)(hn:xs.length=n)(hl:n<=300000)(kind ka kb:Int) :
  Calls Tryz.prog 17 #[.slice a n c,.int .i64 kind,.int .i64 ka,.int .i64 kb] w λe w'=>e=.returned (.int .i64 (fndP (pk kind ka kb) (des xs)))/\Nx w w':=by
 obtain⟨g,hg,hr⟩:=h.rd hn
 have HG:Hid (0<n->a=some ⟨g,0,none⟩):=hg
 have HR:Hid (RDs w g n (des xs)):=hr
 have HL:Hid ((des xs).length=n):=by unfold Hid;rw[des_len];exact hn
 clear h hg hr hn
 generalize des xs=ds at *
 go_enter Tryz.func17,Tryz.ntmps17
 go_wp2
 go_loopw [9] (λs9 wr=>∃k:Nat,k<=n/\s9=.int .i64 k/\Hid (∀j,j<k->pk kind ka kb (dat ds j)=false)/\Hid (Nx w wr)) (λi _=>n-(intOf i).toNat)
 case atStart=>exact⟨0,Nat.zero_le _,rfl,λj hj=>by omega,Nx.refl _⟩
 obtain⟨k,hkn,rfl,HA,HX⟩:=hrel
 by_cases hlt:k<n
 ·have hlt':(k:Int)<n:=by omega
  have ea:=HG.out (by omega)
  clear HG
  subst ea
  have x0:=cellq HX.out (HR.out.k k hlt)
  have x1:=cellq HX.out (HR.out.a k hlt)
  have x2:=cellq HX.out (HR.out.b k hlt)
  have HAT:Hid (pk kind ka kb (dat ds k)=true->(k:Int)=fndP (pk kind ka kb) ds):=λh=>fnd_at (by rw[HL.out];exact hlt) h HA.out
  have HPK:Hid (pk kind ka kb (dat ds k)=((dat ds k).kind==kind&&((dat ds k).a==ka&&(dat ds k).b==kb))):=rfl
  have HAS:Hid (pk kind ka kb (dat ds k)=false->∀j,j<k+1->pk kind ka kb (dat ds j)=false):=λh j hj=>by
   by_cases e:j=k
   ·rw[e];exact h
   ·exact HA.out j (by omega)
  clear HA
  generalize pk kind ka kb (dat ds k)=pv at *
  generalize (dat ds k).kind=zk at *
  generalize (dat ds k).a=za at *
  generalize (dat ds k).b=zb at *
  by_cases e1:zk=kind
  ·have d1:(zk==kind)=true:=by simpa using e1
   by_cases e2:za=ka
   ·have d2:(za==ka)=true:=by simpa using e2
    by_cases e3:zb=kb
    ·have HF:Hid ((k:Int)=fndP (pk kind ka kb) ds):=HAT.out (by rw[HPK.out,d1,d2,beq_iff_eq.2 e3];rfl)
     subst e1 e2 e3
     clear d1 d2 HPK HAT HAS
     go_wp2
     go_ret
     exact⟨ret_int HF.out,HX.out⟩
    ·have d3:(zb==kb)=false:=by simpa using e3
     have HF:=mkHid' (HAS.out (by rw[HPK.out,d1,d2,d3];rfl))
     subst e1 e2
     clear d1 d2 HPK HAT HAS
     go_wp2
     go_roundw
     case rel=>exact⟨k+1,by omega,by go_num,HF,HX⟩
     case measure=>simp[intOf];omega
   ·have d2:(za==ka)=false:=by simpa using e2
    have HF:=mkHid' (HAS.out (by rw[HPK.out,d1,d2];rfl))
    subst e1
    clear d1 HPK HAT HAS
    go_wp2
    go_roundw
    case rel=>exact⟨k+1,by omega,by go_num,HF,HX⟩
    case measure=>simp[intOf];omega
  ·have d1:(zk==kind)=false:=by simpa using e1
   have HF:=mkHid' (HAS.out (by rw[HPK.out,d1];rfl))
   clear HPK HAT HAS
   go_wp2
   go_roundw
   case rel=>exact⟨k+1,by omega,by go_num,HF,HX⟩
   case measure=>simp[intOf];omega
 have ek:k=n:=by omega
 subst ek
 have HF:Hid (-1=fndP (pk kind ka kb) ds):=fnd_none (λj hj=>HA.out j (by rw[<-HL.out];exact hj))
 go_wp2
 go_ret
 exact⟨ret_int HF.out,HX.out⟩
def cntTo (ds:List De)(kind:Int):Nat->Nat
 |0=>0
 |k+1=>if (dat ds k).kind=kind then cntTo ds kind k+1 else cntTo ds kind k
theorem cntTo_le (ds:List De)(kind:Int):∀k,cntTo ds kind k<=k
 |0=>Nat.le_refl _
 |k+1=>by
  have:=cntTo_le ds kind k
  unfold cntTo
  split<;>omega
theorem l1Count_any (C:Nat)(a:Option Addr)(n c:Nat)(xs:List Dx)(w:World)(h:OwnDs C w (.slice a n c) xs)(hn:xs.length=n)(hl:n<=300000)(kind:Int) :
  Calls Tryz.prog 19 #[.slice a n c,.int .i64 kind] w λe w'=>e=.returned (.int .i64 (cntTo (des xs) kind n))/\Nx w w':=by
 obtain⟨g,hg,hr⟩:=h.rd hn
 have HG:Hid (0<n->a=some ⟨g,0,none⟩):=hg
 have HR:Hid (RDs w g n (des xs)):=hr
 clear h hg hr hn
 generalize des xs=ds at *
 go_enter Tryz.func19,Tryz.ntmps19
 go_wp2
 go_loopw [5,6] (λs5 s6 wr=>∃k:Nat,k<=n/\s6=.int .i64 k/\s5=.int .i64 (cntTo ds kind k)/\Hid (Nx w wr)) (λ_ i _=>n-(intOf i).toNat)
 case atStart=>exact⟨0,Nat.zero_le _,rfl,rfl,Nx.refl _⟩
 obtain⟨k,hkn,rfl,rfl,HX⟩:=hrel
 by_cases hlt:k<n
 ·have hlt':(k:Int)<n:=by omega
  have ea:=HG.out (by omega)
  clear HG
  subst ea
  have x0:=cellq HX.out (HR.out.k k hlt)
  have hle:=cntTo_le ds kind k
  have HS:Hid (cntTo ds kind (k+1)=if (dat ds k).kind=kind then cntTo ds kind k+1 else cntTo ds kind k):=rfl
  generalize cntTo ds kind k=m at *
  generalize (dat ds k).kind=zk at *
  by_cases e1:zk=kind
  ·have HE:Hid (cntTo ds kind (k+1)=m+1):=by unfold Hid;rw[HS.out,if_pos e1]
   clear HS
   subst e1
   go_wp2
   go_roundw
   case rel=>exact⟨k+1,by omega,by go_num,by rw[HE.out];go_num,HX⟩
   case measure=>simp[intOf];omega
  ·have d1:(zk==kind)=false:=by simpa using e1
   have HE:Hid (cntTo ds kind (k+1)=m):=by unfold Hid;rw[HS.out,if_neg e1]
   clear HS
   go_wp2
   go_roundw
   case rel=>exact⟨k+1,by omega,by go_num,by rw[HE.out],HX⟩
   case measure=>simp[intOf];omega
 have ek:k=n:=by omega
 subst ek
 go_wp2
 go_ret
 exact⟨rfl,HX.out⟩
end Go.Proofs.YthhkjbfkgdlkmaaGreatDoor
