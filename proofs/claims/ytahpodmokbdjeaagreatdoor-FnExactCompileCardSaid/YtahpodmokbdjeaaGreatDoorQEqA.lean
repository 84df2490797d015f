import Derived.Test.YtahpodmokbdjeaaGreatDoorQLeaf
import Derived.Deep.RegionHeld3
namespace Go.Proofs.YtahpodmokbdjeaaGreatDoor
open Go.RowKit Tryz
set_option linter.unusedVariables false
set_option maxHeartbeats 16000000
theorem Vb (B B':Nat)(v v':Value)(zs:List Int)(w:World)(h0:Q8 B w v zs)(h1:Q8 B' w v' zs) :
  Calls prog 39 #[v,v'] w λe w'=>e=.returned (.bool true)/\Nx w w':=by
 obtain⟨a,cap,rfl,hn,hk⟩:=h0
 obtain⟨a',cap',rfl,hn',hk'⟩:=h1
 unfold maxLen at hn hn'
 generalize zs.length=n at *
 have hd:((n:Int) !=(n:Int))=false:=by simp
 go_enter func39,ntmps39
 go_wp2
 go_loopw [5] (λi wr=>∃k:Nat,k<=n/\i=iV k/\Z (Nx w wr)) (λi _=>n-(intOf i).toNat)
 case atStart=>exact⟨0,nZ,rfl,Nx.refl _⟩
 case round=>
  obtain⟨k,hkn,rfl,HN⟩:=hrel
  by_cases hlt:k<n
  ·obtain⟨b,off,rfl,hB,hb,hc⟩:=hk (by omega)
   obtain⟨b',off',rfl,hB',hb',hc'⟩:=hk' (by omega)
   have c0:=Q0 HN.o hb (hc k hlt)
   have c1:=Q0 HN.o hb' (hc' k hlt)
   have hlt':(k:Int)<n:=by omega
   have he:(iat zs k !=iat zs k)=false:=by simp
   clear hc hk hc' hk'
   go_wp2
   go_region_with (fail)
   all_goals go_wp2
   all_goals
    go_roundw
    case rel=>exact⟨k+1,by omega,by go_num,HN.o.drew⟩
    case measure=>simp[intOf];omega
  ·go_wp2
   go_ret
   exact⟨rfl,HN.o⟩
theorem Q6y (B B':Nat)(id:Int)(both:Bool)(p q p' q':Value)(ns ws:List Int)(w:World)(h0:Q8 B w p ns)(h1:Q8 B' w p' ns)(h2:Q8 B w q ws)(h3:Q8 B' w q' ws) :
  Calls prog 93 #[.agg #[iV id,.bool both,p,q],.agg #[iV id,.bool both,p',q']] w λe w'=>e=.returned (.bool true)/\Nx w w':=by
 have hd:(id !=id)=false:=by simp
 have hd':(both !=both)=false:=by simp
 go_enter func93,ntmps93
 go_wp2_with fail
 refine(Vb B B' _ _ ns _ (h0.next (Zk _ _ _)) (h1.next (Zk _ _ _))).mono ?_
 rintro e w1 ⟨rfl,hx⟩
 have HX:Z (Nx w w1):=(Zk _ _ _).trans hx
 obtain⟨hc,hf⟩:=Qgf hx
 have hz:w.heap.size+1<w1.heap.size:=by have:=hx.size;simp at this;omega
 clear hx
 go_wp2_with fail
 refine(Vb B B' _ _ ws _ (h2.next HX.o) (h3.next HX.o)).mono ?_
 rintro e w2 ⟨rfl,hx⟩
 go_wp2
 go_ret
 exact⟨rfl,HX.o.trans hx⟩
theorem Q6z (B B':Nat)(x:Rl)(p p':Value)(w:World)(h0:Q8 B w p x.ways)(h1:Q8 B' w p' x.ways) :
  Calls prog 94 #[.agg #[iV x.id,.bool x.only,iV x.frm,iV x.to,.bool x.via,iV x.node,p],.agg #[iV x.id,.bool x.only,iV x.frm,iV x.to,.bool x.via,iV x.node,p']] w λe w'=>e=.returned (.bool true)/\Nx w w':=by
 have hd1:(x.id !=x.id)=false:=by simp
 have hd2:(x.only !=x.only)=false:=by simp
 have hd3:(x.frm !=x.frm)=false:=by simp
 have hd4:(x.to !=x.to)=false:=by simp
 have hd5:(x.via !=x.via)=false:=by simp
 have hd6:(x.node !=x.node)=false:=by simp
 go_enter func94,ntmps94
 go_wp2_with fail
 refine(Vb B B' _ _ x.ways _ (h0.next (Zk _ _ _)) (h1.next (Zk _ _ _))).mono ?_
 rintro e w1 ⟨rfl,hx⟩
 have HX:Z (Nx w w1):=(Zk _ _ _).trans hx
 clear hx
 go_wp2
 go_ret
 exact⟨rfl,HX.o⟩
theorem Q59 (x:Tn)(w:World) :
  Calls prog 95 #[.agg #[iV x.frm,iV x.to,iV x.cost],.agg #[iV x.frm,iV x.to,iV x.cost]] w λe w'=>e=.returned (.bool true)/\Nx w w':=by
 have hd1:(x.frm !=x.frm)=false:=by simp
 have hd2:(x.to !=x.to)=false:=by simp
 have hd3:(x.cost !=x.cost)=false:=by simp
 go_enter func95,ntmps95
 go_wp2
 go_ret
 exact⟨rfl,Zk _ _ _⟩
theorem Q58 (B B':Nat)(v v':Value)(zs:List Wy)(w:World)(h0:Jy B w v zs)(h1:Jy B' w v' zs) :
  Calls prog 40 #[v,v'] w λe w'=>e=.returned (.bool true)/\Nx w w':=by
 obtain⟨a,cap,rfl,hn,hk⟩:=h0
 obtain⟨a',cap',rfl,hn',hk'⟩:=h1
 unfold maxLen at hn hn'
 generalize zs.length=n at *
 have hd:((n:Int) !=(n:Int))=false:=by simp
 go_enter func40,ntmps40
 go_wp2
 go_loopw [5] (λi wr=>∃k:Nat,k<=n/\i=iV k/\Z (Nx w wr)) (λi _=>n-(intOf i).toNat)
 case atStart=>exact⟨0,nZ,rfl,Nx.refl _⟩
 case round=>
  obtain⟨k,hkn,rfl,HN⟩:=hrel
  by_cases hlt:k<n
  ·obtain⟨b,off,rfl,hB,hb,hc⟩:=hk (by omega)
   obtain⟨b',off',rfl,hB',hb',hc'⟩:=hk' (by omega)
   obtain⟨p1,p2,a0,a1,a2,a3,n1,w1⟩:=hc k hlt
   obtain⟨q1,q2,b0,b1,b2,b3,n2,w2⟩:=hc' k hlt
   have a0:=Q0 HN.o hb a0
   have a1:=Q0 HN.o hb a1
   have a2:=Q0 HN.o hb a2
   have a3:=Q0 HN.o hb a3
   have b0:=Q0 HN.o hb' b0
   have b1:=Q0 HN.o hb' b1
   have b2:=Q0 HN.o hb' b2
   have b3:=Q0 HN.o hb' b3
   have hlt':(k:Int)<n:=by omega
   clear hc hk hc' hk'
   go_wp2
   go_region_with (go_at_call 93;refine(Q6y B B' _ _ _ _ _ _ _ _ _ (by exact n1.next HN.o.drew) (by exact n2.next HN.o.drew) (by exact w1.next HN.o.drew) (by exact w2.next HN.o.drew)).mono ?_;rintro e w' ⟨rfl,hx⟩)
   all_goals go_wp2
   all_goals
    go_roundw
    case rel=>exact⟨k+1,by omega,by go_num,HN.o.drew.trans hx⟩
    case measure=>simp[intOf];omega
  ·go_wp2
   go_ret
   exact⟨rfl,HN.o⟩
theorem Q5a (B B':Nat)(v v':Value)(zs:List Rl)(w:World)(h0:Ut B w v zs)(h1:Ut B' w v' zs) :
  Calls prog 41 #[v,v'] w λe w'=>e=.returned (.bool true)/\Nx w w':=by
 obtain⟨a,cap,rfl,hn,hk⟩:=h0
 obtain⟨a',cap',rfl,hn',hk'⟩:=h1
 unfold maxLen at hn hn'
 generalize zs.length=n at *
 have hd:((n:Int) !=(n:Int))=false:=by simp
 go_enter func41,ntmps41
 go_wp2
 go_loopw [5] (λi wr=>∃k:Nat,k<=n/\i=iV k/\Z (Nx w wr)) (λi _=>n-(intOf i).toNat)
 case atStart=>exact⟨0,nZ,rfl,Nx.refl _⟩
 case round=>
  obtain⟨k,hkn,rfl,HN⟩:=hrel
  by_cases hlt:k<n
  ·obtain⟨b,off,rfl,hB,hb,hc⟩:=hk (by omega)
   obtain⟨b',off',rfl,hB',hb',hc'⟩:=hk' (by omega)
   obtain⟨p1,a0,a1,a2,a3,a4,a5,a6,n1⟩:=hc k hlt
   obtain⟨q1,b0,b1,b2,b3,b4,b5,b6,n2⟩:=hc' k hlt
   have a0:=Q0 HN.o hb a0
   have a1:=Q0 HN.o hb a1
   have a2:=Q0 HN.o hb a2
   have a3:=Q0 HN.o hb a3
   have a4:=Q0 HN.o hb a4
   have a5:=Q0 HN.o hb a5
   have a6:=Q0 HN.o hb a6
   have b0:=Q0 HN.o hb' b0
   have b1:=Q0 HN.o hb' b1
   have b2:=Q0 HN.o hb' b2
   have b3:=Q0 HN.o hb' b3
   have b4:=Q0 HN.o hb' b4
   have b5:=Q0 HN.o hb' b5
   have b6:=Q0 HN.o hb' b6
   have hlt':(k:Int)<n:=by omega
   clear hc hk hc' hk'
   go_wp2
   go_region_with (go_at_call 94;refine(Q6z B B' (rat zs k) _ _ _ (by exact n1.next HN.o.drew) (by exact n2.next HN.o.drew)).mono ?_;rintro e w' ⟨rfl,hx⟩)
   all_goals go_wp2
   all_goals
    go_roundw
    case rel=>exact⟨k+1,by omega,by go_num,HN.o.drew.trans hx⟩
    case measure=>simp[intOf];omega
  ·go_wp2
   go_ret
   exact⟨rfl,HN.o⟩
theorem Q2o (B B':Nat)(v v':Value)(zs:List Tn)(w:World)(h0:V5 B w v zs)(h1:V5 B' w v' zs) :
  Calls prog 42 #[v,v'] w λe w'=>e=.returned (.bool true)/\Nx w w':=by
 obtain⟨a,cap,rfl,hn,hk⟩:=h0
 obtain⟨a',cap',rfl,hn',hk'⟩:=h1
 unfold maxLen at hn hn'
 generalize zs.length=n at *
 have hd:((n:Int) !=(n:Int))=false:=by simp
 go_enter func42,ntmps42
 go_wp2
 go_loopw [5] (λi wr=>∃k:Nat,k<=n/\i=iV k/\Z (Nx w wr)) (λi _=>n-(intOf i).toNat)
 case atStart=>exact⟨0,nZ,rfl,Nx.refl _⟩
 case round=>
  obtain⟨k,hkn,rfl,HN⟩:=hrel
  by_cases hlt:k<n
  ·obtain⟨b,off,rfl,hB,hb,hc⟩:=hk (by omega)
   obtain⟨b',off',rfl,hB',hb',hc'⟩:=hk' (by omega)
   obtain⟨a0,a1,a2⟩:=hc k hlt
   obtain⟨b0,b1,b2⟩:=hc' k hlt
   have a0:=Q0 HN.o hb a0
   have a1:=Q0 HN.o hb a1
   have a2:=Q0 HN.o hb a2
   have b0:=Q0 HN.o hb' b0
   have b1:=Q0 HN.o hb' b1
   have b2:=Q0 HN.o hb' b2
   have hlt':(k:Int)<n:=by omega
   clear hc hk hc' hk'
   go_wp2
   go_region_with (go_at_call 95;refine(Q59 (tat zs k) _).mono ?_;rintro e w' ⟨rfl,hx⟩)
   all_goals go_wp2
   all_goals
    go_roundw
    case rel=>exact⟨k+1,by omega,by go_num,HN.o.drew.trans hx⟩
    case measure=>simp[intOf];omega
  ·go_wp2
   go_ret
   exact⟨rfl,HN.o⟩
end Go.Proofs.YtahpodmokbdjeaaGreatDoor
