import Derived.Test.YthhbdfiopjclcaaGreatDoorRoH
import Derived.Test.YthhbdfiopjclcaaGreatDoorRoD
import Derived.Test.YthhbdfiopjclcaaGreatDoorRoL
namespace Go.Proofs.YthhbdfiopjclcaaGreatDoor
open Go.RowKit
set_option linter.unusedVariables false
set_option maxRecDepth 1000000
set_option maxHeartbeats 16000000
def tlN (N:Nt):Nat->Nat:=tlE (E1 N)
def Xd (N:Nt):Rd:=⟨N.nodes,E1 N,(List.range (N.nodes.length+1)).map (λq=>((cL (tlN N) q (mN N):Nat):Int)),(outS (tlN N) (mN N) (N.nodes.length+1)).map (λe:Nat=>(e:Int))⟩
def Je (N:Nt):Rd:=if Qh N then Xd N else ⟨[],[],[],[]⟩
def Zo (B:Nat)(w:World)(v0 v1 v2 v3:Value)(R:Rd):Prop:=
 (v0=.slice none 0 0/\v1=.slice none 0 0/\v2=.slice none 0 0/\v3=.slice none 0 0/\R=⟨[],[],[],[]⟩) \/
 ∃gF gO cF cO,v2=.slice (some ⟨gF,0,none⟩) R.first.length cF/\v3=.slice (some ⟨gO,0,none⟩) R.out.length cO/\gF<gO/\V5 B w v1 R.edges/\(∀g,v1.ownBlock=some g->g<gF)/\RW w gF R.first.length (iat R.first)/\RW w gO R.out.length (iat R.out)/\Q6 (gO+1) w v0 R.nodes/\B<=gF/\R.first.length<=maxLen/\R.out.length<=maxLen
theorem Q6.slice {B:Nat}{w:World}{v:Value}{zs:List Int}(h:Q6 B w v zs):∃a c,v=.slice a zs.length c:=by
 rcases h.2 with⟨rfl,h2⟩|⟨g,cap,cur,rfl,_⟩
 ·exact⟨none,0,by rw[h2]⟩
 ·exact⟨_,_,rfl⟩
theorem Q6.base {B B':Nat}{w:World}{v:Value}{zs:List Int}(h:Q6 B w v zs)(hB:B'<=B):Q6 B' w v zs:=by
 obtain⟨h1,h2⟩:=h
 refine⟨h1,?_⟩
 rcases h2 with h2|⟨g,cap,cur,hv,hg,r⟩
 ·exact Or.inl h2
 ·exact Or.inr ⟨g,cap,cur,hv,by omega,r⟩
theorem Qn {B:Nat}{w:World}{ty sz:Nat}{v:Value}{n:Nat}{xs:List Value}(h:w.ownsRow B ty sz v n xs){g:Nat}(hg:g<B)(o:Nat)(u:Value):(w.setCell ⟨g,o,none⟩ u).ownsRow B ty sz v n xs:=by
 obtain⟨h1,h2⟩:=h
 refine⟨h1,?_⟩
 rcases h2 with h2|⟨g',cap,cur,hv,hg',hh,r⟩
 ·exact Or.inl h2
 ·exact Or.inr ⟨g',cap,cur,hv,hg',(Below.heap_setCell _ _ _ _ (by simp;omega)).trans hh,r⟩
theorem V5.base {B B':Nat}{w:World}{v:Value}{es:List Eg}(h:V5 B w v es)(hB:B'<=B):V5 B' w v es:=by
 obtain⟨h1,h2⟩:=h
 refine⟨h1,?_⟩
 rcases h2 with h2|⟨g,cap,cur,hv,hg,r⟩
 ·exact Or.inl h2
 ·exact Or.inr ⟨g,cap,cur,hv,by omega,r⟩
theorem Zo.held {B:Nat}{w:World}{v0 v1 v2 v3:Value}{R:Rd}(h:Zo B w v0 v1 v2 v3 R):Vy B w v0 v1 v2 v3 R:=by
 rcases h with⟨rfl,rfl,rfl,rfl,rfl⟩|⟨gF,gO,cF,cO,rfl,rfl,h1,h2,h3,h4,h5,h6,h7,h8,h9⟩
 ·exact⟨⟨_,_,rfl,by simp[maxLen],λh=>absurd h (Nat.lt_irrefl _)⟩,⟨_,_,rfl,by simp[maxLen],λh=>absurd h (Nat.lt_irrefl _)⟩,⟨_,_,rfl,by simp[maxLen],λh=>absurd h (Nat.lt_irrefl _)⟩,⟨_,_,rfl,by simp[maxLen],λh=>absurd h (Nat.lt_irrefl _)⟩⟩
 ·exact⟨(h6.base (by omega)).held,h2.held,h4.held rfl h8 (λi _=>rfl) h7,h5.held rfl h9 (λi _=>rfl) (by omega)⟩
theorem E1_tail {N:Nt}(h:Yi N){e:Nat}(he:e<(E1 N).length):0<=(eat (E1 N) e).tail/\(eat (E1 N) e).tail<N.nodes.length:=by
 rw[Yj] at he
 obtain⟨i,j,q,hi,hj,hq,he1⟩:=lay_of N.ways.length he
 obtain⟨_,a1⟩:=Xw hi hj hq
 rw[<-he1] at a1
 have hm:=Yv (λi j=>rfl) h.asc
 have hp:∀t,Vt N.nodes t=true->pos N.nodes t<N.nodes.length:=by
  intro t ht
  obtain⟨k,hk,rfl⟩:=hasI_at ht
  rw[pos_at hm hk]
  exact hk
 have hl:=h.len i hi
 have hns:nsN N i=(wat N.ways i).weights.length:=rfl
 have p0:=hp _ (h.has i j hi (by omega))
 have p1:=hp _ (h.has i (j+1) hi (by omega))
 rw[a1]
 split
 ·exact⟨by simp[fwd],by simp[fwd];omega⟩
 ·split
  ·exact⟨by simp[fwd],by simp[fwd];omega⟩
  ·exact⟨by simp[bwd],by simp[bwd];omega⟩
theorem tlN_lt {N:Nt}(h:Yi N){e:Nat}(he:e<mN N):tlN N e<N.nodes.length:=by
 have:=E1_tail h (e:=e) (by rw[Yj];exact he)
 unfold tlN tlE
 omega
theorem out_len {N:Nt}(h:Yi N):(Xd N).out.length=mN N:=by
 show((outS (tlN N) (mN N) (N.nodes.length+1)).map (λe:Nat=>(e:Int))).length=_
 rw[List.length_map,outS_len]
 exact cL_all λe he=>Nat.lt_succ_of_lt (tlN_lt h he)
theorem road_mk {N:Nt}(hv:Qh N=true){B:Nat}{w:World}{vn ve:Value}{gF gO cO:Nat}{F:Nat->Int}(h1:V5 B w ve (E1 N))(hb:∀g,ve.ownBlock=some g->g<gF)(hB:B<=gF)(hg:gF<gO)
  (hF:RW w gF (N.nodes.length+1) (λq=>((cL (tlE (E1 N)) q (E1 N).length:Nat):Int))) (hO:RW w gO (E1 N).length F) (hO':∀e,e<(E1 N).length->F (rank (tlE (E1 N)) (E1 N).length e)=e) (hn:Q6 (gO+1) w vn N.nodes) :
  Zo B w vn ve (.slice (some ⟨gF,0,none⟩) (N.nodes.length+1) (N.nodes.length+1)) (.slice (some ⟨gO,0,none⟩) (E1 N).length cO) (Je N):=by
 have hr:=Jq hv
 have e0:Je N=Xd N:=by simp[Je,hv]
 have l1:(Xd N).first.length=N.nodes.length+1:=by simp[Xd]
 have l2:=out_len hr
 have hm:mN N<=4000:=by unfold mN;rw[st_ed];exact hr.ed
 have c0:=hr.c0
 rw[Yj] at hF hO hO'
 rw[e0]
 refine Or.inr ⟨gF,gO,N.nodes.length+1,cO,by rw[l1],by rw[l2,Yj],hg,h1,hb,?_,?_,hn,hB,by rw[l1];unfold maxLen;omega,by rw[l2];unfold maxLen;omega⟩
 ·rw[l1]
  exact hF.congr λi hi=>(iat_map (λq=>((cL (tlN N) q (mN N):Nat):Int)) hi).symm
 ·rw[l2]
  refine hO.congr λx hx=>?_
  obtain⟨e,h2,h3⟩:=out_eq (tl:=tlN N) (n:=N.nodes.length) (λe he=>tlN_lt hr he) (F:=F) hO' hx
  rw[h3]
  have h4:(Xd N).out[x]?=some (e:Int):=by
   show((outS (tlN N) (mN N) (N.nodes.length+1)).map (λe:Nat=>(e:Int)))[x]?=_
   rw[List.getElem?_map,h2]
   rfl
  simp[iat,List.getD,h4]
theorem implRoad_any (B0:Nat)(v0 v1 v2 v3:Value)(N:Nt)(w:World)(h0:Z0 B0 w v0 v1 v2 v3 N)(hs:wsum N.ways N.ways.length<=1048576) :
  Calls Tryz.prog 7 #[.agg #[v0,v1,v2,v3,.int .i64 N.uturn]] w λe w'=>(∃r0 r1 r2 r3,e=.returned (.agg #[r0,r1,r2,r3])/\Zo w.heap.size w' r0 r1 r2 r3 (Je N))/\Nx w w':=by
 have HS:=mh hs
 have HI:=mh h0
 obtain⟨a0,c0,rfl,_⟩:=h0.1.slice
 clear hs
 go_enter Tryz.func7,Tryz.ntmps7
 go_wp2_with fail
 refine(implValid_any B0 _ _ _ _ N _ (by exact HI.out.next (box2 _ _ _)) HS.out).mono ?_
 rintro e w1 ⟨rfl,hx⟩
 have BA:Blk w1 w.heap.size #[.slice a0 N.nodes.length c0,v1,v2,v3,.int .i64 N.uturn]:=((Blk.new w _ 28 _ rfl).alloc _).next hx
 have BR:Blk w1 (w.heap.size+1) #[.slice none 0 0,.slice none 0 0,.slice none 0 0,.slice none 0 0]:=(Blk.new _ _ 38 _ (by simp)).next hx
 have HX1:Hid (Nx w w1):=(box2 _ _ _).trans hx
 have HRZ:=mh BR.lt
 clear hx
 have rz0:=BR.cell (i:=0) rfl
 have rz1:=BR.cell (i:=1) rfl
 have rz2:=BR.cell (i:=2) rfl
 have rz3:=BR.cell (i:=3) rfl
 have rf0:=BR.frozen 0
 have rf1:=BR.frozen 1
 have rf2:=BR.frozen 2
 have rf3:=BR.frozen 3
 cases hv:Qh N
 case false=>
  go_wp2
  have BR':=(((BR.set 0 (.slice none 0 0)).set 1 (.slice none 0 0)).set 2 (.slice none 0 0)).set 3 (.slice none 0 0)
  have q0:=BR'.cell (i:=0) rfl
  have q1:=BR'.cell (i:=1) rfl
  have q2:=BR'.cell (i:=2) rfl
  have q3:=BR'.cell (i:=3) rfl
  refine bodyPost_ret (v:=.agg #[.slice none 0 0,.slice none 0 0,.slice none 0 0,.slice none 0 0]) (by simp[results,Tryz.results7,go_sem,q0,q1,q2,q3]) rfl ⟨⟨_,_,_,_,rfl,Or.inl ⟨rfl,rfl,rfl,rfl,by simp[Je,hv]⟩⟩,?_⟩
  exact Below.setCell (Below.setCell (Below.setCell (Below.setCell HX1.out (by simp) _) (by simp) _) (by simp) _) (by simp) _
 have HV:=mh hv
 have HR:Hid (Yi N):=Jq hv
 have k0:=BA.cell (i:=0) rfl
 have k1:=BA.cell (i:=1) rfl
 have k2:=BA.cell (i:=2) rfl
 have k3:=BA.cell (i:=3) rfl
 have k4:=BA.cell (i:=4) rfl
 go_wp2_with fail
 refine(layEdges_any B0 _ _ _ _ N _ (by exact HI.out.next HX1.out) HS.out HV.out).mono ?_
 rintro e w2 ⟨⟨ve,rfl,ho⟩,hx⟩
 have HSZ:=mh hx.size
 have HE:=mh ho
 have BA2:=BA.next hx
 have BR2:=BR.next hx
 have HX2:Hid (Nx w w2):=HX1.out.trans hx
 clear ho hx BA BR k0 k1 k2 k3 k4 rz0 rz1 rz2 rz3 rf0 rf1 rf2 rf3
 have k0:=BA2.cell (i:=0) rfl
 obtain⟨ae,ce,hve,_⟩:=HE.out.slice
 subst hve
 have hml:(E1 N).length<=4000:=by rw[Yj];unfold mN;rw[st_ed];exact HR.out.ed
 have hnl:N.nodes.length<=2000:=HR.out.c0
 go_wp2_with fail
 refine(group_any w1.heap.size _ (E1 N) N.nodes.length _ (by exact HE.out.held) hnl hml (λe he=>E1_tail HR.out he)).mono ?_
 rintro e w3 ⟨⟨gF,gO,cO,F,rfl,hg1,hg2,hF,hO,hO'⟩,hx⟩
 have HF:=mh hF
 have HO:=mh hO
 have HO':Hid (∀e,e<(E1 N).length->F (rank (tlE (E1 N)) (E1 N).length e)=e):=hO'
 have HE3:=mh (HE.out.next hx)
 have HEB:Hid (∀g,(Value.slice ae (E1 N).length ce).ownBlock=some g->g<gF):=λg hg=>by
  obtain⟨c,fz,hh⟩:=ownE_row HE.out g hg
  have:=(Array.getElem?_eq_some_iff.1 hh).1
  omega
 have HGF:Hid (w2.heap.size<=gF/\gF<gO/\gO<w3.heap.size):=⟨hg1,hg2,hO.lt⟩
 have BA3:=BA2.next hx
 have BR3:=BR2.next hx
 have HX3:Hid (Nx w w3):=HX2.out.trans hx
 have HS1:Hid (w.heap.size<=w1.heap.size/\w1.heap.size<=w2.heap.size):=⟨HX1.out.size,HSZ.out⟩
 clear hF hO hO' hx BA2 BR2 k0 HE
 have k0:=BA3.cell (i:=0) rfl
 go_wp2_with fail
 refine(clone_any B0 _ N.nodes _ (by exact(HI.out.next HX3.out).1) (by omega)).mono ?_
 rintro e w4 ⟨⟨vn,rfl,ho⟩,hx⟩
 have HNO:=mh (ho.base HGF.out.2.2)
 obtain⟨an,cn,hvn⟩:=ho.slice
 subst hvn
 have BR4:=BR3.next hx
 have HX4:Hid (Nx w w4):=HX3.out.trans hx
 have HF4:=mh (HF.out.next hx)
 have HO4:=mh (HO.out.next hx)
 have HE4:=mh (HE3.out.next hx)
 clear ho hx HF HO HE3 BA3 BR3 k0
 have rz0:=BR4.cell (i:=0) rfl
 have rz1:=BR4.cell (i:=1) rfl
 have rz2:=BR4.cell (i:=2) rfl
 have rz3:=BR4.cell (i:=3) rfl
 have rf0:=BR4.frozen 0
 have rf1:=BR4.frozen 1
 have rf2:=BR4.frozen 2
 have rf3:=BR4.frozen 3
 go_wp2
 have BR':=(((BR4.set 0 (.slice an N.nodes.length cn)).set 1 (.slice ae (E1 N).length ce)).set 2 (.slice (some ⟨gF,0,none⟩) (N.nodes.length+1) (N.nodes.length+1))).set 3 (.slice (some ⟨gO,0,none⟩) (E1 N).length cO)
 have q0:=BR'.cell (i:=0) rfl
 have q1:=BR'.cell (i:=1) rfl
 have q2:=BR'.cell (i:=2) rfl
 have q3:=BR'.cell (i:=3) rfl
 refine bodyPost_ret (v:=.agg #[.slice an N.nodes.length cn,.slice ae (E1 N).length ce,.slice (some ⟨gF,0,none⟩) (N.nodes.length+1) (N.nodes.length+1),.slice (some ⟨gO,0,none⟩) (E1 N).length cO]) (by simp[results,Tryz.results7,go_sem,q0,q1,q2,q3]) rfl ⟨⟨_,_,_,_,rfl,?_⟩,?_⟩
 ·have z1:=HRZ.out
  have z2:=HS1.out.2
  have z3:=HGF.out.1
  have z4:=HGF.out.2.1
  refine road_mk HV.out (V5.base (B:=w1.heap.size) (Qn (Qn (Qn (Qn HE4.out z1 _ _) z1 _ _) z1 _ _) z1 _ _) (by omega)) HEB.out (by omega) z4 ?_ ?_ HO'.out (Qn (Qn (Qn (Qn HNO.out (by omega) _ _) (by omega) _ _) (by omega) _ _) (by omega) _ _)
  ·exact(((HF4.out.setOther (by simp;omega) _).setOther (by simp;omega) _).setOther (by simp;omega) _).setOther (by simp;omega) _
  ·exact(((HO4.out.setOther (by simp;omega) _).setOther (by simp;omega) _).setOther (by simp;omega) _).setOther (by simp;omega) _
 ·exact Below.setCell (Below.setCell (Below.setCell (Below.setCell HX4.out (by simp) _) (by simp) _) (by simp) _) (by simp) _
end Go.Proofs.YthhbdfiopjclcaaGreatDoor
namespace Go.Proofs.YthhbdfiopjclcaaGreatDoor
set_option linter.unusedVariables false
set_option maxHeartbeats 16000000
section
theorem flatMap_app {β γ:Type}(B:List β)(f g:β->List γ):(B.flatMap f++B.flatMap g).Perm (B.flatMap λb=>f b++g b):=by
 induction B with
 |nil=>exact List.Perm.refl _
 |cons b B ih=>
  simp only[List.flatMap_cons]
  have h1:(f b++B.flatMap f++(g b++B.flatMap g)).Perm (f b++(g b++(B.flatMap f++B.flatMap g))):=by
   rw[List.append_assoc]
   refine List.Perm.append_left _ ?_
   rw[<-List.append_assoc,<-List.append_assoc]
   exact List.Perm.append_right _ List.perm_append_comm
  refine h1.trans ?_
  rw[List.append_assoc]
  exact List.Perm.append_left _ (List.Perm.append_left _ ih)
theorem flatMap_swap {α β γ:Type}(A:List α)(B:List β)(f:α->β->List γ):(A.flatMap λa=>B.flatMap λb=>f a b).Perm (B.flatMap λb=>A.flatMap λa=>f a b):=by
 induction A with
 |nil=>simp
 |cons a A ih=>
  simp only[List.flatMap_cons]
  exact(List.Perm.append_left _ ih).trans (flatMap_app B (f a) (λb=>A.flatMap λa=>f a b))
theorem Ya {β γ:Type}{B:List β}{f g:β->List γ}(h:∀b∈B,f b=g b):B.flatMap f=B.flatMap g:=by
 induction B with
 |nil=>rfl
 |cons b B ih=>rw[List.flatMap_cons,List.flatMap_cons,h b (by simp),ih (λc hc=>h c (by simp[hc]))]
theorem Xt {β γ:Type}(B:List β)(p:β->Bool)(f:β->List γ):(B.filter p).flatMap f=B.flatMap λb=>if p b then f b else []:=by
 induction B with
 |nil=>rfl
 |cons b B ih=>
  by_cases h:p b=true
  ·simp[h,ih]
  ·simp[h,ih]
end
section
variable (es:List Eg)
def tlL (l:List Nat):Int:=(eat es (l.headD 0)).tail
def hdL (l:List Nat):Int:=(eat es (l.getLastD 0)).head
def J3 (ls ps:List (List Nat)):List (List Nat):=ls.flatMap λl=>(ps.filter λp=>decide (hdL es l=tlL es p)).map λp=>l++p
theorem growL_flat (ls ps:List (List Nat)):J3 es ls ps=ls.flatMap λl=>J3 es [l] ps:=by
 unfold J3
 simp
theorem growL_app (ls ls' ps:List (List Nat)):J3 es (ls++ls') ps=J3 es ls ps++J3 es ls' ps:=by simp[J3]
def Jb (ls:List (List Nat))(ts:List (List (List Nat))):List (List Nat):=ts.foldl (J3 es) ls
theorem growAll_app (ts:List (List (List Nat))):∀(ls ls':List (List Nat)),Jb es (ls++ls') ts=Jb es ls ts++Jb es ls' ts:=by
 induction ts with
 |nil=>intro ls ls';rfl
 |cons t ts ih=>
  intro ls ls'
  show Jb es (J3 es (ls++ls') t) ts=Jb es (J3 es ls t) ts++Jb es (J3 es ls' t) ts
  rw[growL_app,ih]
theorem growAll_nil (ts:List (List (List Nat))):Jb es [] ts=[]:=by
 induction ts with
 |nil=>rfl
 |cons t ts ih=>exact ih
theorem Xz (ts:List (List (List Nat)))(ls:List (List Nat)):Jb es ls ts=ls.flatMap λl=>Jb es [l] ts:=by
 induction ls with
 |nil=>rw[growAll_nil];rfl
 |cons l ls ih=>
  rw[show l::ls=[l]++ls from rfl,growAll_app,ih]
  simp
theorem hdL_app {l p:List Nat}(hp:p≠[]):hdL es (l++p)=hdL es p:=by
 unfold hdL
 rw[List.getLastD_eq_getLast?,List.getLastD_eq_getLast?,List.getLast?_append]
 cases h:p.getLast? with
 |none=>exact absurd (List.getLast?_eq_none_iff.1 h) hp
 |some x=>rfl
theorem tlL_app {l p:List Nat}(hl:l≠[]):tlL es (l++p)=tlL es l:=by
 cases l with
 |nil=>exact absurd rfl hl
 |cons a l=>rfl
theorem growL_ahead {l m:List Nat}(hm:m≠[])(ps:List (List Nat)):J3 es [l++m] ps=(J3 es [m] ps).map λq=>l++q:=by
 simp only[J3,List.flatMap_cons,List.flatMap_nil,List.append_nil,List.map_map,hdL_app es hm]
 refine List.map_congr_left (λq _=>?_)
 simp[List.append_assoc]
theorem growL_ne {l:List Nat}(hl:l≠[])(ps:List (List Nat)):∀q∈J3 es [l] ps,q≠[]:=by
 intro q hq
 simp only[J3,List.flatMap_cons,List.flatMap_nil,List.append_nil,List.mem_map] at hq
 obtain⟨p,_,rfl⟩:=hq
 simp[hl]
theorem growAll_ahead (ts:List (List (List Nat))):∀{l m:List Nat},m≠[]->Jb es [l++m] ts=(Jb es [m] ts).map λq=>l++q:=by
 induction ts with
 |nil=>intro l m _;rfl
 |cons t ts ih=>
  intro l m hm
  show Jb es (J3 es [l++m] t) ts=(Jb es (J3 es [m] t) ts).map _
  rw[growL_ahead es hm,Xz,Xz es ts (J3 es [m] t),List.map_flatMap,List.flatMap_map]
  refine Ya (λq hq=>?_)
  exact ih (growL_ne es hm t q hq)
theorem growAll_first {a:List Nat}(t:List (List Nat))(ts:List (List (List Nat)))(ht:∀p∈t,p≠[]):Jb es [a] (t::ts)=((Jb es t ts).filter λm=>decide (hdL es a=tlL es m)).map λm=>a++m:=by
 have hne:∀(ls:List (List Nat)) (ts:List (List (List Nat))),(∀l∈ls,l≠[])->∀q∈Jb es ls ts,q≠[]:=by
  intro ls ts
  induction ts generalizing ls with
  |nil=>exact λh=>h
  |cons t ts ih=>
   intro h
   refine ih (J3 es ls t) (λq hq=>?_)
   rw[growL_flat] at hq
   obtain⟨l,hl,hq⟩:=List.mem_flatMap.1 hq
   exact growL_ne es (h l hl) t q hq
 have htl:∀(ts:List (List (List Nat))) (p:List Nat),p≠[]->∀m∈Jb es [p] ts,tlL es m=tlL es p:=by
  intro ts
  induction ts with
  |nil=>intro p _ m hm;have:m=p:=by simpa [Jb] using hm
        rw[this]
  |cons t ts ih=>
   intro p hp m hm
   have hm':m∈Jb es (J3 es [p] t) ts:=hm
   rw[Xz] at hm'
   obtain⟨l,hl,hm'⟩:=List.mem_flatMap.1 hm'
   have h1:=ih l (growL_ne es hp t l hl) m hm'
   simp only[J3,List.flatMap_cons,List.flatMap_nil,List.append_nil,List.mem_map] at hl
   obtain⟨q,_,rfl⟩:=hl
   rw[h1,tlL_app es hp]
 show Jb es (J3 es [a] t) ts=_
 rw[Xz es ts t,Xz]
 simp only[J3,List.flatMap_cons,List.flatMap_nil,List.append_nil,List.flatMap_map,List.filter_flatMap,List.map_flatMap]
 rw[Xt]
 refine Ya (λp hp=>?_)
 have hf:∀m∈Jb es [p] ts,decide (hdL es a=tlL es m)=decide (hdL es a=tlL es p):=λm hm=>by rw[htl ts p (ht p hp) m hm]
 by_cases h:hdL es a=tlL es p
 ·rw[if_pos (by simpa using h),growAll_ahead es ts (ht p hp)]
  rw[List.filter_eq_self.2 (λm hm=>by rw[hf m hm];simpa using h)]
 ·rw[if_neg (by simpa using h)]
  rw[List.filter_eq_nil_iff.2 (λm hm=>by rw[hf m hm];simpa using h)]
  rfl
def chainsM (F T:List Nat)(ms:List (List Nat)):List (List Nat):=F.flatMap λa=>ms.flatMap λm=>T.flatMap λb=>if decide ((eat es a).head=tlL es m)&&decide (hdL es m=(eat es b).tail) then [[a]++m++[b]] else []
def chainsP (F T:List Nat)(ms:List (List Nat)):List (List Nat):=ms.flatMap λm=>(F.filter λa=>decide ((eat es a).head=tlL es m)).flatMap λa=>(T.filter λb=>decide ((eat es b).tail=hdL es m)).map λb=>[a]++m++[b]
theorem chains_perm (F T:List Nat)(ms:List (List Nat)):(chainsM es F T ms).Perm (chainsP es F T ms):=by
 have e:chainsP es F T ms=ms.flatMap λm=>F.flatMap λa=>T.flatMap λb=>if decide ((eat es a).head=tlL es m)&&decide (hdL es m=(eat es b).tail) then [[a]++m++[b]] else []:=by
  unfold chainsP
  refine Ya (λm _=>?_)
  rw[Xt]
  refine Ya (λa _=>?_)
  by_cases h:(eat es a).head=tlL es m
  ·rw[if_pos (by simpa using h),List.map_eq_flatMap,Xt]
   refine Ya (λb _=>?_)
   by_cases g:(eat es b).tail=hdL es m
   ·simp[h,g]
   ·have g':¬hdL es m=(eat es b).tail:=λx=>g x.symm
    simp[h,g,g']
  ·rw[if_neg (by simpa using h)]
   symm
   rw[List.flatMap_eq_nil_iff]
   intro b _
   simp[h]
 rw[e]
 exact flatMap_swap F ms _
theorem grow_chains (F T:List Nat)(t:List (List Nat))(ts:List (List (List Nat)))(ht:∀p∈t,p≠[])(hms:∀m∈Jb es t ts,m≠[]):J3 es (Jb es (F.map λa=>[a]) (t::ts)) (T.map λb=>[b])=chainsM es F T (Jb es t ts):=by
 rw[Xz,List.flatMap_map,growL_flat]
 unfold chainsM
 rw[List.flatMap_assoc]
 refine Ya (λa _=>?_)
 rw[growAll_first es t ts ht,List.flatMap_map,Xt]
 refine Ya (λm hm=>?_)
 have ha:hdL es [a]=(eat es a).head:=rfl
 by_cases h:(eat es a).head=tlL es m
 ·rw[if_pos (by rw[ha];simpa using h)]
  simp only[J3,List.flatMap_cons,List.flatMap_nil,List.append_nil,List.filter_map,List.map_map]
  rw[List.map_eq_flatMap,Xt]
  refine Ya (λb _=>?_)
  have e1:hdL es ([a]++m)=hdL es m:=hdL_app es (hms m hm)
  have e2:tlL es [b]=(eat es b).tail:=rfl
  simp only[Function.comp_apply,e1,e2]
  by_cases g:hdL es m=(eat es b).tail
  ·simp[h,g]
  ·simp[h,g]
 ·rw[if_neg (by rw[ha];simpa using h)]
  symm
  rw[List.flatMap_eq_nil_iff]
  intro b _
  simp[h]
end
end Go.Proofs.YthhbdfiopjclcaaGreatDoor
namespace Go.Proofs.YthhbdfiopjclcaaGreatDoor
open Go.RowKit
set_option linter.unusedVariables false
set_option maxRecDepth 1000000
set_option maxHeartbeats 16000000
theorem SI.keep {w w':World}{v:Value}{n:Nat}{F:Nat->Int}(h:SI w v n F)(k:∀g,v.ownBlock=some g->w'.heap[g]?=w.heap[g]?):SI w' v n F:=by
 obtain⟨a,c,rfl,hk⟩:=h
 refine⟨a,c,rfl,λh0=>?_⟩
 obtain⟨g,rfl,hr⟩:=hk h0
 exact⟨g,rfl,hr.of_block (k g rfl)⟩
theorem SE.keep {w w':World}{v:Value}{n:Nat}{V:Nat->Nat->Value}(h:SE w v n V)(k:∀g,v.ownBlock=some g->w'.heap[g]?=w.heap[g]?):SE w' v n V:=by
 obtain⟨a,c,rfl,hk⟩:=h
 refine⟨a,c,rfl,λh0=>?_⟩
 obtain⟨g,rfl,cs,hb,r⟩:=hk h0
 exact⟨g,rfl,cs,(k g rfl).trans hb,r⟩
theorem V5.se {B:Nat}{w:World}{v:Value}{es:List Eg}(h:V5 B w v es):SE w v es.length (λi j=>((Ve (eat es i))[j]?).getD (.bool false)):=by
 rcases h.2 with⟨rfl,h2⟩|⟨g,cap,cur,rfl,hg,hh,hc,hm,hs,ht⟩
 ·rw[h2];exact⟨none,0,rfl,λh=>absurd h (Nat.lt_irrefl _)⟩
 ·refine⟨_,_,rfl,λ_=>⟨g,rfl,cur,hh,by rw[hs];exact Nat.mul_le_mul_right 7 hc,λi j hi hj=>?_⟩⟩
  have h3:(cur.toList.take (es.length*7))[i*7+j]?=(Y5 es)[i*7+j]?:=by rw[ht]
  rw[List.getElem?_take_of_lt (by omega),ecells_at hi hj] at h3
  rw[<-Array.getElem?_toList,h3]
  have:j<(Ve (eat es i)).length:=hj
  show(Ve (eat es i))[j]?=some (((Ve (eat es i))[j]?).getD (.bool false))
  rw[List.getElem?_eq_getElem this]
  rfl
theorem Q6.si {B:Nat}{w:World}{v:Value}{zs:List Int}(h:Q6 B w v zs):SI w v zs.length (iat zs):=by
 rcases h.opened with⟨rfl,h2⟩|⟨g,cap,rfl,hg,hm,hr⟩
 ·rw[h2];exact⟨none,0,rfl,λh=>absurd h (Nat.lt_irrefl _)⟩
 ·exact⟨_,_,rfl,λ_=>⟨g,rfl,hr⟩⟩
structure Four (B:Nat)(w:World)(v0 v1 v2 v3:Value)(n0 n1 n2 n3:Nat)(F0:Nat->Int)(V:Nat->Nat->Value)(F2 F3:Nat->Int):Prop where
 s0:SI w v0 n0 F0
 s1:SE w v1 n1 V
 s2:SI w v2 n2 F2
 s3:SI w v3 n3 F3
 b0:∀g,v0.ownBlock=some g->B<=g/\g<w.heap.size
 b1:∀g,v1.ownBlock=some g->B<=g/\g<w.heap.size
 b2:∀g,v2.ownBlock=some g->B<=g/\g<w.heap.size
 b3:∀g,v3.ownBlock=some g->B<=g/\g<w.heap.size
 d01:∀g,v0.ownBlock=some g->v1.ownBlock≠some g
 d02:∀g,v0.ownBlock=some g->v2.ownBlock≠some g
 d03:∀g,v0.ownBlock=some g->v3.ownBlock≠some g
 d12:∀g,v1.ownBlock=some g->v2.ownBlock≠some g
 d13:∀g,v1.ownBlock=some g->v3.ownBlock≠some g
 d23:∀g,v2.ownBlock=some g->v3.ownBlock≠some g
theorem Qf {B:Nat}{w:World}{ty sz:Nat}{v:Value}{n:Nat}{xs:List Value}(h:w.ownsRow B ty sz v n xs):∀g,v.ownBlock=some g->B<=g/\g<w.heap.size:=by
 intro g hg
 rcases h.2 with⟨rfl,_⟩|⟨g',cap,cur,rfl,hb,hh,_⟩
 ·simp[Value.ownBlock] at hg
 ·simp[Value.ownBlock] at hg;subst hg;exact⟨hb,(Array.getElem?_eq_some_iff.1 hh).1⟩
theorem Zo.four {B:Nat}{w:World}{v0 v1 v2 v3:Value}{R:Rd}(h:Zo B w v0 v1 v2 v3 R):∃F0 V F2 F3,Four B w v0 v1 v2 v3 R.nodes.length R.edges.length R.first.length R.out.length F0 V F2 F3:=by
 rcases h with⟨rfl,rfl,rfl,rfl,rfl⟩|⟨gF,gO,cF,cO,rfl,rfl,h1,h2,h3,h4,h5,h6,h7,h8,h9⟩
 ·refine⟨λ_=>0,λ_ _=>.bool false,λ_=>0,λ_=>0,⟨none,0,rfl,λh=>absurd h (Nat.lt_irrefl _)⟩,⟨none,0,rfl,λh=>absurd h (Nat.lt_irrefl _)⟩,⟨none,0,rfl,λh=>absurd h (Nat.lt_irrefl _)⟩,⟨none,0,rfl,λh=>absurd h (Nat.lt_irrefl _)⟩,?_,?_,?_,?_,?_,?_,?_,?_,?_,?_⟩<;>intro g hg<;>simp[Value.ownBlock] at hg
 ·have z4:=h4.lt
  have z5:=h5.lt
  have l0:=Qf h6
  have l1:=Qf h2
  have e2:(Value.slice (some ⟨gF,0,none⟩) R.first.length cF).ownBlock=some gF:=rfl
  have e3:(Value.slice (some ⟨gO,0,none⟩) R.out.length cO).ownBlock=some gO:=rfl
  refine⟨_,_,_,_,h6.si,h2.se,⟨_,_,rfl,λ_=>⟨gF,rfl,h4⟩⟩,⟨_,_,rfl,λ_=>⟨gO,rfl,h5⟩⟩,?_,l1,?_,?_,?_,?_,?_,?_,?_,?_⟩
  ·intro g hg;have:=l0 g hg;omega
  ·intro g hg;rw[e2] at hg;have:=Option.some.inj hg;omega
  ·intro g hg;rw[e3] at hg;have:=Option.some.inj hg;omega
  ·intro g hg hg';have:=l0 g hg;have:=h3 g hg';omega
  ·intro g hg hg';rw[e2] at hg';have:=l0 g hg;have:=Option.some.inj hg';omega
  ·intro g hg hg';rw[e3] at hg';have:=l0 g hg;have:=Option.some.inj hg';omega
  ·intro g hg hg';rw[e2] at hg';have:=h3 g hg;have:=Option.some.inj hg';omega
  ·intro g hg hg';rw[e3] at hg';have:=h3 g hg;have:=Option.some.inj hg';omega
  ·intro g hg hg';rw[e2] at hg;rw[e3] at hg';have:=Option.some.inj hg;have:=Option.some.inj hg';omega
end Go.Proofs.YthhbdfiopjclcaaGreatDoor
