import Derived.Test.YthhkjbfkgdlkmaaGreatDoorPG
namespace Go.Proofs.YthhkjbfkgdlkmaaGreatDoor
open Go.RowKit Go.Sort
set_option linter.unusedVariables false
set_option maxRecDepth 1000000
set_option maxHeartbeats 16000000
def aftTo (ds:List De)(kind a b:Int):Nat->Int
 |0=>-1
 |k+1=>if (dat ds k).kind≠kind then aftTo ds kind a b k else if (dat ds k).a<a\/((dat ds k).a=a/\(dat ds k).b<=b) then aftTo ds kind a b k
  else if aftTo ds kind a b k<0\/(dat ds k).a<(dat ds (aftTo ds kind a b k).toNat).a\/((dat ds k).a=(dat ds (aftTo ds kind a b k).toNat).a/\(dat ds k).b<(dat ds (aftTo ds kind a b k).toNat).b) then (k:Int) else aftTo ds kind a b k
theorem aftTo_succ (ds:List De)(kind a b:Int)(k:Nat):aftTo ds kind a b (k+1)=if (dat ds k).kind≠kind then aftTo ds kind a b k else if (dat ds k).a<a\/((dat ds k).a=a/\(dat ds k).b<=b) then aftTo ds kind a b k
  else if aftTo ds kind a b k<0\/(dat ds k).a<(dat ds (aftTo ds kind a b k).toNat).a\/((dat ds k).a=(dat ds (aftTo ds kind a b k).toNat).a/\(dat ds k).b<(dat ds (aftTo ds kind a b k).toNat).b) then (k:Int) else aftTo ds kind a b k:=rfl
theorem aftTo_in (ds:List De)(kind a b:Int):∀k,-1<=aftTo ds kind a b k/\aftTo ds kind a b k<k
 |0=>⟨by show(-1:Int)<=-1;decide,by show(-1:Int)<0;decide⟩
 |k+1=>by
  have:=aftTo_in ds kind a b k
  rw[aftTo_succ]
  split
  ·omega
  split
  ·omega
  split<;>omega
theorem l1After_any (C:Nat)(a:Option Addr)(n c:Nat)(xs:List Dx)(w:World)(h:OwnDs C w (.slice a n c) xs)(hn:xs.length=n)(hl:n<=300000)(kind ka kb:Int) :
  Calls Tryz.prog 28 #[.slice a n c,.int .i64 kind,.int .i64 ka,.int .i64 kb] w λe w'=>e=.returned (.int .i64 (aftTo (des xs) kind ka kb n))/\Nx w w':=by
 obtain⟨g,hg,hr⟩:=h.rd hn
 have HG:Hid (0<n->a=some ⟨g,0,none⟩):=hg
 have HR:Hid (RDs w g n (des xs)):=hr
 clear h hg hr hn
 generalize des xs=ds at *
 go_enter Tryz.func28,Tryz.ntmps28
 go_wp2
 go_loopw [9,10] (λs9 s10 wr=>∃k:Nat,k<=n/\s10=.int .i64 k/\s9=.int .i64 (aftTo ds kind ka kb k)/\Hid (Nx w wr)) (λ_ i _=>n-(intOf i).toNat)
 case atStart=>exact⟨0,Nat.zero_le _,rfl,rfl,Nx.refl _⟩
 obtain⟨k,hkn,rfl,rfl,HX⟩:=hrel
 have hin:=aftTo_in ds kind ka kb k
 by_cases hlt:k<n
 ·have hlt':(k:Int)<n:=by omega
  have ea:=HG.out (by omega)
  clear HG
  subst ea
  have x0:=cellq HX.out (HR.out.k k hlt)
  have x1:=cellq HX.out (HR.out.a k hlt)
  have x2:=cellq HX.out (HR.out.b k hlt)
  have HS:=mkHid' (aftTo_succ ds kind ka kb k)
  generalize aftTo ds kind ka kb k=bs at *
  generalize (dat ds k).kind=zk at *
  generalize (dat ds k).a=za at *
  generalize (dat ds k).b=zb at *
  by_cases e1:zk=kind
  ·have hk1:¬zk≠kind:=λh=>h e1
   have hkb:(zk==kind)=true:=by simpa using e1
   have hkc:(zk !=kind)=false:=by simp[e1]
   by_cases e2:za<ka
   ·have d2:decide (za<ka)=true:=by simpa using e2
    have HE:Hid (aftTo ds kind ka kb (k+1)=bs):=by unfold Hid;rw[HS.out,if_neg hk1,if_pos (Or.inl e2)]
    clear HS
    subst e1
    go_wp2
    go_roundw
    case rel=>exact⟨k+1,by omega,by go_num,by rw[HE.out],HX⟩
    case measure=>simp[intOf];omega
   have d2:decide (za<ka)=false:=by simpa using e2
   by_cases e3:za=ka
   ·have d3:(za==ka)=true:=by simpa using e3
    by_cases e3':zb<=kb
    ·have d3':decide (zb<=kb)=true:=by simpa using e3'
     have HE:Hid (aftTo ds kind ka kb (k+1)=bs):=by unfold Hid;rw[HS.out,if_neg hk1,if_pos (Or.inr ⟨e3,e3'⟩)]
     clear HS
     subst e1 e3
     go_wp2
     go_roundw
     case rel=>exact⟨k+1,by omega,by go_num,by rw[HE.out],HX⟩
     case measure=>simp[intOf];omega
    ·have d3':decide (zb<=kb)=false:=by simpa using e3'
     have HNB:¬(za<ka\/(za=ka/\zb<=kb)):=λh=>h.elim e2 (λh=>e3' h.2)
     have HT:=mkHid' HS.out
     rw[if_neg hk1,if_neg HNB] at HT
     clear HS
     have HS:=mkHid' HT.out
     clear HT
     clear hk1 HNB hkc
     subst e1 e3
     by_cases e4:bs<0
     ·have d4:decide (bs<0)=true:=by simpa using e4
      have HE:Hid (aftTo ds zk za kb (k+1)=(k:Int)):=by unfold Hid;rw[HS.out,if_pos (Or.inl e4)]
      clear HS
      go_upto_region 7 with fail
      go_quiet (fail)
      go_wp2
      go_roundw
      case rel=>exact⟨k+1,by omega,by go_num,by rw[HE.out],HX.out.trans ⟨rfl,rfl,rfl,Nat.le_refl _,λ_ _=>rfl⟩⟩
      case measure=>simp[intOf];omega
     have d4:decide (bs<0)=false:=by simpa using e4
     obtain⟨m,rfl⟩:∃m:Nat,bs=(m:Int):=⟨bs.toNat,by omega⟩
     have hmk:m<k:=by omega
     have hmn:(m:Int)<n:=by omega
     rw[Int.toNat_natCast] at HS
     have y1:=cellq HX.out (HR.out.a m (by omega))
     have y2:=cellq HX.out (HR.out.b m (by omega))
     generalize (dat ds m).a=ya at *
     generalize (dat ds m).b=yb at *
     by_cases e5:za<ya
     ·have d5:decide (za<ya)=true:=by simpa using e5
      have HE:Hid (aftTo ds zk za kb (k+1)=(k:Int)):=by unfold Hid;rw[HS.out,if_pos (Or.inr (Or.inl e5))]
      clear HS
      go_upto_region 7 with fail
      go_quiet (fail)
      go_wp2
      go_roundw
      case rel=>exact⟨k+1,by omega,by go_num,by rw[HE.out],HX.out.trans ⟨rfl,rfl,rfl,Nat.le_refl _,λ_ _=>rfl⟩⟩
      case measure=>simp[intOf];omega
     have d5:decide (za<ya)=false:=by simpa using e5
     by_cases e6:za=ya
     ·have d6:(za==ya)=true:=by simpa using e6
      by_cases e7:zb<yb
      ·have d7:decide (zb<yb)=true:=by simpa using e7
       have HE:Hid (aftTo ds zk za kb (k+1)=(k:Int)):=by unfold Hid;rw[HS.out,if_pos (Or.inr (Or.inr ⟨e6,e7⟩))]
       clear HS
       subst e6
       go_upto_region 7 with fail
       go_quiet (fail)
       go_wp2
       go_roundw
       case rel=>exact⟨k+1,by omega,by go_num,by rw[HE.out],HX.out.trans ⟨rfl,rfl,rfl,Nat.le_refl _,λ_ _=>rfl⟩⟩
       case measure=>simp[intOf];omega
      ·have d7:decide (zb<yb)=false:=by simpa using e7
       have HE:Hid (aftTo ds zk za kb (k+1)=(m:Int)):=by unfold Hid;rw[HS.out,if_neg (λh=>h.elim e4 (λh=>h.elim e5 (λh=>e7 h.2)))]
       clear HS
       subst e6
       go_upto_region 7 with fail
       go_quiet (fail)
       go_wp2
       go_roundw
       case rel=>exact⟨k+1,by omega,by go_num,by rw[HE.out],HX.out.trans ⟨rfl,rfl,rfl,Nat.le_refl _,λ_ _=>rfl⟩⟩
       case measure=>simp[intOf];omega
     ·have d6:(za==ya)=false:=by simpa using e6
      have HE:Hid (aftTo ds zk za kb (k+1)=(m:Int)):=by unfold Hid;rw[HS.out,if_neg (λh=>h.elim e4 (λh=>h.elim e5 (λh=>e6 h.1)))]
      clear HS
      go_upto_region 7 with fail
      go_quiet (fail)
      go_wp2
      go_roundw
      case rel=>exact⟨k+1,by omega,by go_num,by rw[HE.out],HX.out.trans ⟨rfl,rfl,rfl,Nat.le_refl _,λ_ _=>rfl⟩⟩
      case measure=>simp[intOf];omega
   ·have d3:(za==ka)=false:=by simpa using e3
    have HNB:¬(za<ka\/(za=ka/\zb<=kb)):=λh=>h.elim e2 (λh=>e3 h.1)
    have HT:=mkHid' HS.out
    rw[if_neg hk1,if_neg HNB] at HT
    clear HS
    have HS:=mkHid' HT.out
    clear HT
    clear hk1 HNB hkc
    subst e1
    by_cases e4:bs<0
    ·have d4:decide (bs<0)=true:=by simpa using e4
     have HE:Hid (aftTo ds zk ka kb (k+1)=(k:Int)):=by unfold Hid;rw[HS.out,if_pos (Or.inl e4)]
     clear HS
     go_upto_region 7 with fail
     go_quiet (fail)
     go_wp2
     go_roundw
     case rel=>exact⟨k+1,by omega,by go_num,by rw[HE.out],HX.out.trans ⟨rfl,rfl,rfl,Nat.le_refl _,λ_ _=>rfl⟩⟩
     case measure=>simp[intOf];omega
    have d4:decide (bs<0)=false:=by simpa using e4
    obtain⟨m,rfl⟩:∃m:Nat,bs=(m:Int):=⟨bs.toNat,by omega⟩
    have hmk:m<k:=by omega
    have hmn:(m:Int)<n:=by omega
    rw[Int.toNat_natCast] at HS
    have y1:=cellq HX.out (HR.out.a m (by omega))
    have y2:=cellq HX.out (HR.out.b m (by omega))
    generalize (dat ds m).a=ya at *
    generalize (dat ds m).b=yb at *
    by_cases e5:za<ya
    ·have d5:decide (za<ya)=true:=by simpa using e5
     have HE:Hid (aftTo ds zk ka kb (k+1)=(k:Int)):=by unfold Hid;rw[HS.out,if_pos (Or.inr (Or.inl e5))]
     clear HS
     go_upto_region 7 with fail
     go_quiet (fail)
     go_wp2
     go_roundw
     case rel=>exact⟨k+1,by omega,by go_num,by rw[HE.out],HX.out.trans ⟨rfl,rfl,rfl,Nat.le_refl _,λ_ _=>rfl⟩⟩
     case measure=>simp[intOf];omega
    have d5:decide (za<ya)=false:=by simpa using e5
    by_cases e6:za=ya
    ·have d6:(za==ya)=true:=by simpa using e6
     by_cases e7:zb<yb
     ·have d7:decide (zb<yb)=true:=by simpa using e7
      have HE:Hid (aftTo ds zk ka kb (k+1)=(k:Int)):=by unfold Hid;rw[HS.out,if_pos (Or.inr (Or.inr ⟨e6,e7⟩))]
      clear HS
      subst e6
      go_upto_region 7 with fail
      go_quiet (fail)
      go_wp2
      go_roundw
      case rel=>exact⟨k+1,by omega,by go_num,by rw[HE.out],HX.out.trans ⟨rfl,rfl,rfl,Nat.le_refl _,λ_ _=>rfl⟩⟩
      case measure=>simp[intOf];omega
     ·have d7:decide (zb<yb)=false:=by simpa using e7
      have HE:Hid (aftTo ds zk ka kb (k+1)=(m:Int)):=by unfold Hid;rw[HS.out,if_neg (λh=>h.elim e4 (λh=>h.elim e5 (λh=>e7 h.2)))]
      clear HS
      subst e6
      go_upto_region 7 with fail
      go_quiet (fail)
      go_wp2
      go_roundw
      case rel=>exact⟨k+1,by omega,by go_num,by rw[HE.out],HX.out.trans ⟨rfl,rfl,rfl,Nat.le_refl _,λ_ _=>rfl⟩⟩
      case measure=>simp[intOf];omega
    ·have d6:(za==ya)=false:=by simpa using e6
     have HE:Hid (aftTo ds zk ka kb (k+1)=(m:Int)):=by unfold Hid;rw[HS.out,if_neg (λh=>h.elim e4 (λh=>h.elim e5 (λh=>e6 h.1)))]
     clear HS
     go_upto_region 7 with fail
     go_quiet (fail)
     go_wp2
     go_roundw
     case rel=>exact⟨k+1,by omega,by go_num,by rw[HE.out],HX.out.trans ⟨rfl,rfl,rfl,Nat.le_refl _,λ_ _=>rfl⟩⟩
     case measure=>simp[intOf];omega
  ·have hkb:(zk==kind)=false:=by simpa using e1
   have hkc:(zk !=kind)=true:=by simp[e1]
   have HE:Hid (aftTo ds kind ka kb (k+1)=bs):=by unfold Hid;rw[HS.out,if_pos e1]
   clear HS
   go_wp2
   go_roundw
   case rel=>exact⟨k+1,by omega,by go_num,by rw[HE.out],HX⟩
   case measure=>simp[intOf];omega
 have ek:k=n:=by omega
 subst ek
 go_wp2
 go_ret
 exact⟨rfl,HX.out⟩
theorem l1Refuse_any (code line:Int)(w:World) :
  Calls Tryz.prog 12 #[.int .i64 code,.int .i64 line] w λe w'=>e=.returned (.agg #[.int .i64 code,.int .i64 line,.slice none 0 0,.slice none 0 0,.slice none 0 0,.slice none 0 0,.int .i64 0])/\Nx w w':=by
 go_enter Tryz.func12,Tryz.ntmps12
 go_wp2
 have hb:BT (w.alloc (.cells #[.int .i64 code,.int .i64 line,.slice none 0 0,.slice none 0 0,.slice none 0 0,.slice none 0 0,.int .i64 0] 30)) w.heap.size #[.int .i64 code,.int .i64 line,.slice none 0 0,.slice none 0 0,.slice none 0 0,.slice none 0 0,.int .i64 0] 30:=BT.new _ _ _ _ rfl
 have hx:Nx w (w.alloc (.cells #[.int .i64 code,.int .i64 line,.slice none 0 0,.slice none 0 0,.slice none 0 0,.slice none 0 0,.int .i64 0] 30)):=box1 _ _
 generalize w.alloc (.cells #[.int .i64 code,.int .i64 line,.slice none 0 0,.slice none 0 0,.slice none 0 0,.slice none 0 0,.int .i64 0] 30)=wF at *
 have p0_:wF.cell? ⟨w.heap.size,0,none⟩=some (.int .i64 code):=hb.blk.cell (i:=0) rfl
 have p1_:wF.cell? ⟨w.heap.size,1,none⟩=some (.int .i64 line):=hb.blk.cell (i:=1) rfl
 have p2_:wF.cell? ⟨w.heap.size,2,none⟩=some (.slice none 0 0):=hb.blk.cell (i:=2) rfl
 have p3_:wF.cell? ⟨w.heap.size,3,none⟩=some (.slice none 0 0):=hb.blk.cell (i:=3) rfl
 have p4_:wF.cell? ⟨w.heap.size,4,none⟩=some (.slice none 0 0):=hb.blk.cell (i:=4) rfl
 have p5_:wF.cell? ⟨w.heap.size,5,none⟩=some (.slice none 0 0):=hb.blk.cell (i:=5) rfl
 have p6_:wF.cell? ⟨w.heap.size,6,none⟩=some (.int .i64 0):=hb.blk.cell (i:=6) rfl
 refine bodyPost_ret (v:=.agg #[.int .i64 code,.int .i64 line,.slice none 0 0,.slice none 0 0,.slice none 0 0,.slice none 0 0,.int .i64 0]) (by simp[results,Tryz.results12,go_sem,p0_,p1_,p2_,p3_,p4_,p5_,p6_]) rfl ?_
 exact⟨rfl,hx⟩
abbrev Wv:=Wy×Value×Value
abbrev Rv:=Rl×Value
def wvL (x:Wv):List Value:=wayL x.1 x.2.1 x.2.2
def rvL (x:Rv):List Value:=relL x.1 x.2
structure NS (w0 w:World)(cs:Array Value)(v0 v1 v2 v3:Value)(ns:List Int)(ws:List Wv)(rs:List Rv)(ts:List Tn):Prop where
 nx:Nx w0 w
 res:BT w w0.heap.size zNet 28
 box:BT w (w0.heap.size+1) cs 28
 r0:OwnI w0.heap.size w v0 ns
 r1:w.ownsRow w0.heap.size 45 4 v1 ws.length (ws.flatMap wvL)
 r2:w.ownsRow w0.heap.size 47 7 v2 rs.length (rs.flatMap rvL)
 r3:OwnT w0.heap.size w v3 ts
section
variable {w0 w w':World}{cs:Array Value}{v0 v1 v2 v3:Value}{ns:List Int}{ws:List Wv}{rs:List Rv}{ts:List Tn}
theorem NS.next (h:NS w0 w cs v0 v1 v2 v3 ns ws rs ts)(k:Nx w w'):NS w0 w' cs v0 v1 v2 v3 ns ws rs ts:=
 ⟨h.nx.trans k,h.res.next k,h.box.next k,h.r0.next k,row_next h.r1 k,row_next h.r2 k,row_next h.r3 k⟩
theorem NS.set (h:NS w0 w cs v0 v1 v2 v3 ns ws rs ts)(i:Nat)(v:Value):NS w0 (w.setCell ⟨w0.heap.size+1,i,none⟩ v) (cs.setIfInBounds i v) v0 v1 v2 v3 ns ws rs ts:=
 ⟨Below.setCell h.nx (show w0.heap.size<=w0.heap.size+1 by omega) _,h.res.setOther (by omega) _ _,h.box.set i v,row_setBT h.r0 h.box (by decide) i v,row_setBT h.r1 h.box (by decide) i v,row_setBT h.r2 h.box (by decide) i v,row_setBT h.r3 h.box (by decide) i v⟩
theorem NS.nxg (h:NS w0 w cs v0 v1 v2 v3 ns ws rs ts){t sz n:Nat}{v:Value}{xs:List Value}(hr:w.ownsRow w0.heap.size t sz v n xs)(hc:Chg (λx=>some x=v.ownBlock) w w'):Nx w0 w':=
 Below.trans h.nx (hc.below h.nx.size (λx hx=>(own_lt hr x hx.symm).1))
theorem NS.grow0 (h:NS w0 w cs v0 v1 v2 v3 ns ws rs ts){v:Value}{ns':List Int}(hr:OwnI w0.heap.size w' v ns')(hc:Chg (λx=>some x=v0.ownBlock) w w'):NS w0 w' cs v v1 v2 v3 ns' ws rs ts:=
 ⟨h.nxg h.r0 hc,h.res.row h.r0 (by decide) hc,h.box.row h.r0 (by decide) hc,hr,row_apart h.r1 h.r0 (by decide) hc,row_apart h.r2 h.r0 (by decide) hc,row_apart h.r3 h.r0 (by decide) hc⟩
theorem NS.grow1 (h:NS w0 w cs v0 v1 v2 v3 ns ws rs ts){v:Value}{ws':List Wv}(hr:w'.ownsRow w0.heap.size 45 4 v ws'.length (ws'.flatMap wvL))(hc:Chg (λx=>some x=v1.ownBlock) w w'):NS w0 w' cs v0 v v2 v3 ns ws' rs ts:=
 ⟨h.nxg h.r1 hc,h.res.row h.r1 (by decide) hc,h.box.row h.r1 (by decide) hc,row_apart h.r0 h.r1 (by decide) hc,hr,row_apart h.r2 h.r1 (by decide) hc,row_apart h.r3 h.r1 (by decide) hc⟩
theorem NS.grow2 (h:NS w0 w cs v0 v1 v2 v3 ns ws rs ts){v:Value}{rs':List Rv}(hr:w'.ownsRow w0.heap.size 47 7 v rs'.length (rs'.flatMap rvL))(hc:Chg (λx=>some x=v2.ownBlock) w w'):NS w0 w' cs v0 v1 v v3 ns ws rs' ts:=
 ⟨h.nxg h.r2 hc,h.res.row h.r2 (by decide) hc,h.box.row h.r2 (by decide) hc,row_apart h.r0 h.r2 (by decide) hc,row_apart h.r1 h.r2 (by decide) hc,hr,row_apart h.r3 h.r2 (by decide) hc⟩
theorem NS.grow3 (h:NS w0 w cs v0 v1 v2 v3 ns ws rs ts){v:Value}{ts':List Tn}(hr:OwnT w0.heap.size w' v ts')(hc:Chg (λx=>some x=v3.ownBlock) w w'):NS w0 w' cs v0 v1 v2 v ns ws rs ts':=
 ⟨h.nxg h.r3 hc,h.res.row h.r3 (by decide) hc,h.box.row h.r3 (by decide) hc,row_apart h.r0 h.r3 (by decide) hc,row_apart h.r1 h.r3 (by decide) hc,row_apart h.r2 h.r3 (by decide) hc,hr⟩
theorem NS.start (w:World):NS w ((w.alloc (.cells zNet 28)).alloc (.cells zNet 28)) zNet (.slice none 0 0) (.slice none 0 0) (.slice none 0 0) (.slice none 0 0) [] [] [] []:=by
 have b1:BT (w.alloc (.cells zNet 28)) w.heap.size zNet 28:=BT.new _ _ _ _ rfl
 have b2:=BT.new (w.alloc (.cells zNet 28)) zNet 28 (w.heap.size+1) (by rw[size_alloc'])
 exact⟨(box1 _ _).trans (box1 _ _),b1.next (box1 _ _),b2,⟨rfl,Or.inl ⟨rfl,rfl⟩⟩,⟨rfl,Or.inl ⟨rfl,rfl⟩⟩,⟨rfl,Or.inl ⟨rfl,rfl⟩⟩,⟨rfl,Or.inl ⟨rfl,rfl⟩⟩⟩
end
def tk (ds:List De)(kind:Int):Nat->Int->Int->List Nat
 |0,_,_=>[]
 |f+1,a,b=>if aftTo ds kind a b ds.length<0 then [] else (aftTo ds kind a b ds.length).toNat::tk ds kind f (dat ds (aftTo ds kind a b ds.length).toNat).a (dat ds (aftTo ds kind a b ds.length).toNat).b
def dxat (xs:List Dx)(i:Nat):Dx:=xs.getD i zDx
def tkA (ds:List De)(kind:Int):List Nat:=tk ds kind ds.length (-1) (-1)
theorem app_wv_in {k:Nat}{ops:Array Oper}{o:Oper}{a:Act}{K:Act->World->Prop}{Q:Exit->Act->World->Prop}{E:Prop}(hgd:o.guard=none)(s x:Operand)(ho:o.op=.call { callee:=.builtin .append,args:=#[s,x],argTypes:=#[24,24] })
  (C n:Nat) (v:Value) (l:List Wv) (y:Wv) (w0 W:World) (hW:W=w0.alloc (.cells (wvL y).toArray 45)) (hs:a.eval s=v) (hown:w0.ownsRow C 45 4 v l.length (l.flatMap wvL)) (hx:a.eval x=.slice (some ⟨w0.heap.size,0,none⟩) 1 1) (hn:l.length=n) (h1:∀u∈wvL y,u.oneCell'=true) (hm:n<=1000000) (hC:C<=w0.heap.size)
  (h:∀a' c' w',w'.ownsRow C 45 4 (.slice a' (n+1) c') (l++[y]).length ((l++[y]).flatMap wvL)->Chg (λx=>some x=v.ownBlock) w0 w'->K (a.put o.dst (.slice a' (n+1) c')) w') :
  if Region.wanted o (yielded ops a.tmps)=true then Oper.wpIn Fence.wide k Tryz.prog o a W K Q else E:=by
 subst hn
 refine app_row_in infoWayE Tryz.underlying24 rfl (by decide) (by decide) hgd s x ho C l.length v (l.flatMap wvL) (wvL y) w0 W hW hs hown hx rfl h1 hm hC (λa' c' w' r1 r2 r3=>h a' c' w' ?_ r2)
 rw[List.length_append,List.flatMap_append,List.flatMap_singleton]
 exact r1
theorem app_rv_in {k:Nat}{ops:Array Oper}{o:Oper}{a:Act}{K:Act->World->Prop}{Q:Exit->Act->World->Prop}{E:Prop}(hgd:o.guard=none)(s x:Operand)(ho:o.op=.call { callee:=.builtin .append,args:=#[s,x],argTypes:=#[25,25] })
  (C n:Nat) (v:Value) (l:List Rv) (y:Rv) (w0 W:World) (hW:W=w0.alloc (.cells (rvL y).toArray 47)) (hs:a.eval s=v) (hown:w0.ownsRow C 47 7 v l.length (l.flatMap rvL)) (hx:a.eval x=.slice (some ⟨w0.heap.size,0,none⟩) 1 1) (hn:l.length=n) (h1:∀u∈rvL y,u.oneCell'=true) (hm:n<=1000000) (hC:C<=w0.heap.size)
  (h:∀a' c' w',w'.ownsRow C 47 7 (.slice a' (n+1) c') (l++[y]).length ((l++[y]).flatMap rvL)->Chg (λx=>some x=v.ownBlock) w0 w'->K (a.put o.dst (.slice a' (n+1) c')) w') :
  if Region.wanted o (yielded ops a.tmps)=true then Oper.wpIn Fence.wide k Tryz.prog o a W K Q else E:=by
 subst hn
 refine app_row_in infoRelE Tryz.underlying25 rfl (by decide) (by decide) hgd s x ho C l.length v (l.flatMap rvL) (rvL y) w0 W hW hs hown hx rfl h1 hm hC (λa' c' w' r1 r2 r3=>h a' c' w' ?_ r2)
 rw[List.length_append,List.flatMap_append,List.flatMap_singleton]
 exact r1
theorem app_tn_in {k:Nat}{ops:Array Oper}{o:Oper}{a:Act}{K:Act->World->Prop}{Q:Exit->Act->World->Prop}{E:Prop}(hgd:o.guard=none)(s x:Operand)(ho:o.op=.call { callee:=.builtin .append,args:=#[s,x],argTypes:=#[26,26] })
  (C n:Nat) (v:Value) (l:List Tn) (y:Tn) (w0 W:World) (hW:W=w0.alloc (.cells (tcell y).toArray 69)) (hs:a.eval s=v) (hown:w0.ownsRow C 69 3 v l.length (l.flatMap tcell)) (hx:a.eval x=.slice (some ⟨w0.heap.size,0,none⟩) 1 1) (hn:l.length=n) (h1:∀u∈tcell y,u.oneCell'=true) (hm:n<=1000000) (hC:C<=w0.heap.size)
  (h:∀a' c' w',w'.ownsRow C 69 3 (.slice a' (n+1) c') (l++[y]).length ((l++[y]).flatMap tcell)->Chg (λx=>some x=v.ownBlock) w0 w'->K (a.put o.dst (.slice a' (n+1) c')) w') :
  if Region.wanted o (yielded ops a.tmps)=true then Oper.wpIn Fence.wide k Tryz.prog o a W K Q else E:=by
 subst hn
 refine app_row_in infoTurn Tryz.underlying26 rfl (by decide) (by decide) hgd s x ho C l.length v (l.flatMap tcell) (tcell y) w0 W hW hs hown hx rfl h1 hm hC (λa' c' w' r1 r2 r3=>h a' c' w' ?_ r2)
 rw[List.length_append,List.flatMap_append,List.flatMap_singleton]
 exact r1
def wvAt (xs:List Dx)(i:Nat):Wv:=((dxat xs i).1.way,(dxat xs i).2.vn,(dxat xs i).2.vw)
def rvAt (xs:List Dx)(i:Nat):Rv:=((dxat xs i).1.rel,(dxat xs i).2.vr)
def tnAt (xs:List Dx)(i:Nat):Tn:=⟨(dxat xs i).1.a,(dxat xs i).1.b,(dxat xs i).1.cost⟩
def aAt (xs:List Dx)(i:Nat):Int:=(dxat xs i).1.a
def utx (xs:List Dx)(l:List Nat):Int:=match l.getLast? with|some i=>(dxat xs i).1.cost|none=>0
theorem utx_last (xs:List Dx)(l:List Nat)(i:Nat):utx xs (l++[i])=(dxat xs i).1.cost:=by simp[utx]
theorem dat_dx (xs:List Dx)(i:Nat):dat (des xs) i=(dxat xs i).1:=by
 simp[dat,des,dxat,List.getD_eq_getElem?_getD,List.getElem?_map]
 cases xs[i]?<;>rfl
def ptk (xs:List Dx)(k j:Nat):List Nat:=if j<k then tkA (des xs) j else []
def NK (w wr:World)(xs:List Dx)(v0 v1 v2 v3:Value)(P1 P2 P3 P4 P5:List Nat):Prop:=
 NS w wr #[v0,v1,v2,v3,.int .i64 (utx xs P5)] v0 v1 v2 v3 (P1.map (aAt xs)) (P2.map (wvAt xs)) (P3.map (rvAt xs)) (P4.map (tnAt xs))
theorem NK.start (w:World)(xs:List Dx):NK w ((w.alloc (.cells zNet 28)).alloc (.cells zNet 28)) xs (.slice none 0 0) (.slice none 0 0) (.slice none 0 0) (.slice none 0 0) [] [] [] [] []:=NS.start w
theorem tk_stop {ds:List De}{kind a b:Int}{f:Nat}(h:aftTo ds kind a b ds.length<0):tk ds kind f a b=[]:=by
 cases f with
 |zero=>rfl
 |succ f=>show(if _ then _ else _)=_;rw[if_pos h]
theorem tk_go {ds:List De}{kind a b:Int}{f m:Nat}(h:aftTo ds kind a b ds.length=(m:Int)):tk ds kind (f+1) a b=m::tk ds kind f (dat ds m).a (dat ds m).b:=by
 show(if _ then _ else _)=_
 rw[h,if_neg (by omega),Int.toNat_natCast]
end Go.Proofs.YthhkjbfkgdlkmaaGreatDoor
