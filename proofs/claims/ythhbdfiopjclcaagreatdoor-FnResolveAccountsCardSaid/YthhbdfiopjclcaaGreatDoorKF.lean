import Derived.Test.YthhbdfiopjclcaaGreatDoorRoS
namespace Go.Proofs.YthhbdfiopjclcaaGreatDoor
open Go.RowKit
set_option linter.unusedVariables false
set_option maxRecDepth 1000000
set_option maxHeartbeats 16000000
theorem Qt (w:World)(n:Nat):Nx w (w.drewN n):=below_drewN (Below.refl _ w) n
theorem V4.at' {B:Nat}{w:World}{a:Option Addr}{n c:Nat}{es:List Eg}(h:V4 B w (.slice a n c) es)(hp:0<es.length):n=es.length/\∃b off,a=some ⟨b,off,none⟩/\b<w.heap.size/\∀i,i<es.length->HEdge w b (off+i*7) (eat es i):=by
 obtain⟨a',cap,e,_,hk⟩:=h
 simp only[Value.slice.injEq] at e
 obtain⟨rfl,rfl,rfl⟩:=e
 obtain⟨b,off,e,_,hb,hc⟩:=hk hp
 exact⟨rfl,b,off,e,hb,hc⟩
theorem l2Grow_any (B B1 B2:Nat)(v0 v1 v2 v3 vl vp:Value)(R:Rd)(ls ps:List (List Nat))(w:World)(h0:Vy B w v0 v1 v2 v3 R)(hm:R.edges.length<=4000)(hl:Vl B1 w vl (ls.map Qd))(hp:Vl B2 w vp (ps.map Qd))(hgl:∀l∈ls,Zz R.edges.length l)(hgp:∀l∈ps,Zz R.edges.length l)(hL:ls.length<=1000000)(hP:ps.length<=10000) :
  Calls Tryz.prog 74 #[.agg #[v0,v1,v2,v3],vl,vp] w λe w'=>(∃u,e=.returned u/\Vh w.heap.size w' u ((J3 R.edges ls ps).map Qd))/\Nx w w':=by
 obtain⟨ii,hi,hz0,hz1,hz2⟩:=info_parts infoWord
 obtain⟨a,cap,rfl,hml,hk⟩:=h0.2.1
 have HE:=mh h0.2.1
 clear h0 hk hml
 have HLW:=mh hl
 have HPW:=mh hp
 obtain⟨la,lc,rfl,_,_⟩:=hl
 obtain⟨pa,pc,rfl,_,_⟩:=hp
 have HGL:=mh hgl
 have HGP:=mh hgp
 clear hgl hgp
 generalize hes:R.edges=es at *
 clear hes
 simp only[List.length_map] at *
 generalize hz:es.length=m at *
 have HZ:Hid (es.length=m):=hz
 generalize hnl:ls.length=nl at *
 have HNL:Hid (ls.length=nl):=hnl
 generalize hnp:ps.length=np at *
 have HNP:Hid (ps.length=np):=hnp
 have HPROD:Hid (nl*np<=10000000000):=Nat.le_trans (Nat.mul_le_mul hL hP) (by decide)
 clear hz hnl hnp
 have HB0:Hid (Blk (w.alloc (.cells #[v0,.slice a m cap,v2,v3] 38)) w.heap.size #[v0,.slice a m cap,v2,v3]):=Blk.new w _ _ _ rfl
 have HX0:Hid (Nx w (w.alloc (.cells #[v0,.slice a m cap,v2,v3] 38))):=Qc _ _
 go_enter Tryz.func74,Tryz.ntmps74
 go_upto_region 1 with fail
 generalize w.alloc (.cells #[v0,.slice a m cap,v2,v3] 38)=w1 at *
 go_wp2
 go_loopw [7,8] (λu i wr=>∃k:Nat,k<=nl/\i=.int .i64 k/\Hid (Vh w1.heap.size wr u ((Vj es ls ps k 0).map Qd))/\Hid (Nx w1 wr)) (λ_ i _=>nl-(intOf i).toNat)
 case atStart=>exact⟨0,Nat.zero_le _,rfl,ownW_none w1.heap.size w1 (Nat.le_refl _),Qc _ _⟩
 obtain⟨k,hkm,rfl,HO,HN⟩:=hrel
 by_cases hlt:k<nl
 case neg=>
  have ek:nl=k:=by omega
  subst ek
  have HF:Hid (Vh w1.heap.size wr u7 ((J3 es ls ps).map Qd)):=by
   have:=HO.out
   rw[growTo_zero,<-HNL.out,List.take_length] at this
   exact this
  clear HO hlt hkm
  go_wp2
  go_ret
  exact⟨⟨_,rfl,HF.out.base HX0.out.size⟩,HX0.out.trans HN.out⟩
 have hlt':(k:Int)<nl:=by omega
 have HKL:Hid (k<ls.length):=by unfold Hid;rw[HNL.out];exact hlt
 go_wp2
 go_loopw [7,9] (λu j wr=>∃q:Nat,q<=np/\j=.int .i64 q/\Hid (Vh w1.heap.size wr u ((Vj es ls ps k q).map Qd))/\Hid (Nx w1 wr)) (λ_ j _=>np-(intOf j).toNat)
 case atStart=>exact⟨0,Nat.zero_le _,rfl,HO,HN⟩
 clear HO HN
 obtain⟨q,hqm,rfl,HO,HN⟩:=hrel
 by_cases hq:q<np
 case neg=>
  have eq:np=q:=by omega
  subst eq
  have HF:Hid (Vh w1.heap.size wr u7 ((Vj es ls ps (k+1) 0).map Qd)):=by
   have:=HO.out
   rw[<-HNP.out,growTo_end HKL.out] at this
   exact this
  clear HO hq hqm
  go_wp2
  go_roundw
  case rel=>exact⟨k+1,by omega,by go_num,HF,HN⟩
  case measure=>simp[intOf];omega
 have hq':(q:Int)<np:=by omega
 have HQP:Hid (q<ps.length):=by unfold Hid;rw[HNP.out];exact hq
 have HGk:=HGL.out _ (lsat_mem HKL.out)
 have HGq:=HGP.out _ (lsat_mem HQP.out)
 have HLEN:Hid (((Vj es ls ps k q).map Qd).length<=10000000000):=by
  unfold Hid
  rw[List.length_map]
  have h1:=growTo_len es (ls:=ls) (ps:=ps) (i:=k) (j:=q) HKL.out (by rw[HNP.out];omega)
  rw[HNL.out,HNP.out] at h1
  exact Nat.le_trans h1 HPROD.out
 have HYES:Hid (hdL es (Jj ls k)=tlL es (Jj ps q)->(Vj es ls ps k (q+1)).map Qd=(Vj es ls ps k q).map Qd++[Qd (Jj ls k)++Qd (Jj ps q)]):=λh=>by rw[growTo_yes HQP.out h,List.map_append,<-nums_app];rfl
 have HNO:Hid (hdL es (Jj ls k)≠tlL es (Jj ps q)->Vj es ls ps k (q+1)=Vj es ls ps k q):=λh=>growTo_no HQP.out h
 have HHD:Hid (hdL es (Jj ls k)=(eat es ((Jj ls k).getLastD 0)).head):=rfl
 have HTL:Hid (tlL es (Jj ps q)=(eat es ((Jj ps q).headD 0)).tail):=rfl
 generalize hll:Jj ls k=l at *
 generalize hpp:Jj ps q=p at *
 obtain⟨bl,ol,cl,el,hbl,vi,hvi,hvI,hcI⟩:=HLW.out.at' (i:=k) (by rw[List.length_map,HNL.out];exact hlt)
 obtain⟨bp,op,cp,ep,hbp,vj,hvj,hvJ,hcJ⟩:=HPW.out.at' (i:=q) (by rw[List.length_map,HNP.out];exact hq)
 rw[wd_nums HKL.out,hll] at hvI
 rw[wd_nums HQP.out,hpp] at hvJ
 simp only[Value.slice.injEq] at el ep
 obtain⟨rfl,el2,rfl⟩:=el
 obtain⟨rfl,ep2,rfl⟩:=ep
 clear el2 ep2
 have HVI:=mh hvI
 have HVJ:=mh hvJ
 obtain⟨lm,hlm⟩:∃lm,l.length=lm+1:=⟨l.length-1,by have:=List.length_pos_iff.2 HGk.1;omega⟩
 obtain⟨pm,hpm⟩:∃pm,p.length=pm+1:=⟨p.length-1,by have:=List.length_pos_iff.2 HGq.1;omega⟩
 have hlm5:lm<=100000:=by have:=HGk.2.1;omega
 obtain⟨ai,ci,rfl,hmi,hki⟩:=hvI
 obtain⟨aj,cj,rfl,hmj,hkj⟩:=hvJ
 rw[Qw] at hki hkj hvi hvj
 obtain⟨bi,oi,rfl,_,hbi,hci⟩:=hki (by omega)
 obtain⟨bj,oj,rfl,_,hbj,hcj⟩:=hkj (by omega)
 have HLI:=last_lt HGk
 have HHJ:=head_lt HGq
 have y1:w.cell? ⟨bi,oi+lm,none⟩=some (.int .i64 ((l.getLastD 0:Nat):Int)):=by
  have:=hci lm (by omega)
  rw[show lm=l.length-1 by omega,iat_last HGk.1] at this
  rw[show lm=l.length-1 by omega]
  exact this
 have y2:w.cell? ⟨bj,oj,none⟩=some (.int .i64 ((p.headD 0:Nat):Int)):=by
  have:=hcj 0 (by omega)
  dsimp only at this
  rw[iat_first HGq.1] at this
  exact this
 obtain⟨ez2,be,oe,rfl,hbe,hce⟩:=HE.out.at' (by rw[HZ.out];omega)
 clear ez2
 have z1:=(hce _ (by rw[HZ.out];exact HLI)).2.1
 have z2:=(hce _ (by rw[HZ.out];exact HHJ)).1
 generalize l.getLastD 0=x at *
 generalize p.headD 0=y at *
 rw[hlm] at hvi
 rw[hpm] at hvj
 have HVI2:Hid (Qo B1 w (.slice (some ⟨bi,oi,none⟩) (lm+1) ci) (Qd l)):=by have:=HVI.out;rw[Qw,hlm] at this;exact this
 have HVJ2:Hid (Qo B2 w (.slice (some ⟨bj,oj,none⟩) (pm+1) cj) (Qd p)):=by have:=HVJ.out;rw[Qw,hpm] at this;exact this
 have HLL:Hid ((Qd l).length<=100000/\(Qd p).length<=100000):=⟨by rw[Qw];exact HGk.2.1,by rw[Qw];exact HGq.2.1⟩
 clear hci hcj hki hkj hce hmi hmj HVI HVJ hcI hcJ hlm hpm hll hpp HGk HGq hbl hbp hbi hbj hbe
 have HXw:Hid (Nx w wr):=HX0.out.trans HN.out
 have r0:=(HB0.out.next HN.out).cell (i:=1) rfl
 have a1:=Q3 HXw.out hvi
 have a2:=Q3 HXw.out hvj
 have a3:=Q3 HXw.out y1
 have a4:=Q3 HXw.out y2
 have a5:=Q3 HXw.out z1
 have a6:=Q3 HXw.out z2
 have hx':(x:Int)<m:=by omega
 have hy':(y:Int)<m:=by omega
 have hlm':(lm:Int)<(lm:Int)+1:=by omega
 have hpm':(0:Int)<(pm:Int)+1:=by omega
 have HC1:=mh hvi
 have HC2:=mh hvj
 clear hvi hvj y1 y2 z1 z2
 go_upto_region 8 with fail
 go_quiet (fail)
 have HDQ:Hid (Nx wr (wr.drewN nq)):=Qt _ _
 generalize wr.drewN nq=wq at *
 have b0:=Q3 HDQ.out r0
 have b1:=Q3 HDQ.out a1
 have b2:=Q3 HDQ.out a2
 have b4:=Q3 HDQ.out a4
 have b5:=Q3 HDQ.out a5
 have b6:=Q3 HDQ.out a6
 have HOQ:=mh (HO.out.next HDQ.out)
 have HNQ:Hid (Nx w1 wq):=HN.out.trans HDQ.out
 have HXQ:Hid (Nx w wq):=HXw.out.trans HDQ.out
 clear r0 a1 a2 a3 a4 a5 a6 HO HN
 generalize (eat es x).head=hd at *
 generalize (eat es y).tail=td at *
 by_cases hj:hd=td
 case neg=>
  have g1:(hd==td)=false:=by simpa using hj
  have HE2:=mh (HNO.out (by rw[HHD.out,HTL.out];exact hj))
  clear hj
  go_upto_region 10 with fail
  go_quiet (fail)
  have HDQ2:Hid (Nx wq (wq.drewN nq)):=Qt _ _
  generalize wq.drewN nq=wz at *
  clear b0 b1 b2 b4 b5 b6
  go_wp2
  go_roundw
  case rel=>exact⟨q+1,by omega,by go_num,by unfold Hid;rw[HE2.out];exact HOQ.out.next HDQ2.out,HNQ.out.trans HDQ2.out⟩
  case measure=>simp[intOf];omega
 have g1:(hd==td)=true:=by simpa using hj
 have HES:=mh (HYES.out (by rw[HHD.out,HTL.out];exact hj))
 clear hj
 go_upto_region 10 with fail
 go_quiet (fail)
 have HDQ2:Hid (Nx wq (wq.drewN nq)):=Qt _ _
 generalize wq.drewN nq=wz at *
 have c1:=Q3 HDQ2.out b1
 have c2:=Q3 HDQ2.out b2
 have HOZ:=mh (HOQ.out.next HDQ2.out)
 have HNZ:Hid (Nx w1 wz):=HNQ.out.trans HDQ2.out
 have HXZ:Hid (Nx w wz):=HXQ.out.trans HDQ2.out
 have HSZ:=mh HNZ.out.size
 clear b0 b1 b2 b4 b5 b6 HOQ HNQ HXQ HDQ HDQ2
 generalize (Vj es ls ps k q).map Qd=ws at *
 obtain⟨ua,uc,hus⟩:=HOZ.out.slice
 subst hus
 generalize hwl:ws.length=wl at *
 have HWL:Hid (ws.length=wl):=hwl
 have hwl4:wl<=10000000000:=HLEN.out
 clear hwl
 have HVIZ:=mh (HVI2.out.next HXZ.out)
 have HVJZ:=mh (HVJ2.out.next HXZ.out)
 go_wp2
 go_region_held3 (λw'=>w'.cell? ⟨bl,ol+k,none⟩=some (.slice (some ⟨bi,oi,none⟩) (lm+1) ci)/\w'.cell? ⟨bp,op+q,none⟩=some (.slice (some ⟨bj,oj,none⟩) (pm+1) cj)) (first|exact⟨t1,t2⟩|exact⟨Q3 (Qc _ _) t1,Q3 (Qc _ _) t2⟩|(go_keep;done)) (first|(go_at_call 48;refine(l2Plus_any B1 B2 _ _ (Qd l) (Qd p) _ (by exact HVIZ.out.next (Below.refl _ _).drew) (by exact HVJZ.out.next (Below.refl _ _).drew) (by have:=HLL.out;omega) (by have:=HLL.out;omega)).mono ?_;rintro e w5 ⟨⟨u5,rfl,hO5⟩,hx5⟩;have HX5:Hid (Nx wz w5):=(Below.refl _ _).drew.trans hx5;have HO5:Hid (Q6 w1.heap.size w5 u5 (Qd l++Qd p)):=hO5.base HSZ.out;have HOZ5:Hid (Vh w1.heap.size w5 (.slice ua wl uc) ws):=HOZ.out.next HX5.out;have t1:=Q3 HX5.out c1;have t2:=Q3 HX5.out c2;obtain⟨ub,ud,hub⟩:=HO5.out.slice;generalize (Qd l++Qd p).length=un at hub;subst hub;obtain⟨cs5,hrow5,hwd5⟩:=HOZ5.out;have HROW5:Hid (w5.ownsRow w1.heap.size 102 1 (.slice ua wl uc) ws.length cs5):=hrow5;have HWD5:Hid (∀i,i<ws.length->Q6 w1.heap.size w5 (vat cs5 i) (wd ws i)):=hwd5;have HS5:Hid (w1.heap.size<=w5.heap.size):=Nat.le_trans HSZ.out HX5.out.size;have HN5:Hid (Nx w1 w5):=HNZ.out.trans HX5.out;clear hO5 hx5 hrow5 hwd5)|(refine step_append_at rfl (.tmp 59) (.tmp 72) 99 rfl 102 ii (.agg #[.slice none 0 0]) 1 24 Tryz.underlying99 hi hz0 hz1 hz2 rfl (by decide) w1.heap.size (.slice ua wl uc) ws.length cs5 (by simp[Act.eval]) (World.ownsRow.alloc HROW5.out _) ⟨w5.heap.size,0,none⟩ 1 1 [.slice ub un ud] (by simp[Act.eval]) rfl (λj u hj=>Qx w5 _ _ _ rfl j u hj) (by intro u hu;simp at hu;subst hu;rfl) (by rw[HWL.out];unfold maxLen;omega) (by rw[HWL.out];omega) (by rw[Q1];have:=HS5.out;omega) ?_;intro v7 w7 hown hgrow hat;have HO7:Hid (Vh w1.heap.size w7 v7 (ws++[Qd l++Qd p])):=Vh.snoc HROW5.out HWD5.out HO5.out _ hgrow hown;have HN7:Hid (Nx w1 w7):=Below.grown (HN5.out.alloc _) hgrow (by rw[Q1];have:=HS5.out;omega) (λg hg=>(Qf HROW5.out g hg).1);have t1:=Q3 (HX0.out.trans HN7.out) HC1.out;have t2:=Q3 (HX0.out.trans HN7.out) HC2.out;clear hown hgrow hat))
 all_goals
  go_wp2
  go_roundw
  case rel=>exact⟨q+1,by omega,by go_num,by unfold Hid;rw[HES.out];exact HO7.out,HN7⟩
  case measure=>simp[intOf];omega
def wpos (xs:List Wy)(id:Int):Nat:=xs.findIdx λx=>x.id==id
theorem wpos_at {xs:List Wy}{id:Int}{k:Nat}(hk:k<xs.length)(h:(wat xs k).id=id)(hn:notW xs id k):wpos xs id=k:=by
 unfold wpos
 rw[List.findIdx_eq hk]
 refine⟨by rw[<-wat_eq hk];simpa using h,λj hj=>?_⟩
 have:=hn j hj
 rw[wat_eq (by omega)] at this
 simpa using this
theorem V8 {xs:List Wy}{id:Int}(h:Ji xs id=true):wpos xs id<xs.length:=by
 unfold wpos Ji at *
 exact List.findIdx_lt_length.2 (by simpa using List.any_eq_true.1 h)
theorem wpos_id {xs:List Wy}{id:Int}(h:Ji xs id=true):(wat xs (wpos xs id)).id=id:=by
 have hl:=V8 h
 have h2:(xs[wpos xs id].id==id)=true:=List.findIdx_getElem (p:=λx:Wy=>x.id==id) (xs:=xs) (w:=hl)
 rw[wat_eq hl]
 simpa using h2
theorem ret_natI {a b:Nat}(h:b=a):Ending.returned (.int .i64 (a:Int))=.returned (.int .i64 (b:Int)):=by rw[h]
theorem l1WayAt_pos (B:Nat)(v0 v1 v2 v3:Value)(u id:Int)(xs:List Wy)(w:World)(h0:Vw B w v1 xs)(hh:Ji xs id=true) :
  Calls Tryz.prog 20 #[.agg #[v0,v1,v2,v3,.int .i64 u],.int .i64 id] w λe w'=>e=.returned (.int .i64 (wpos xs id:Int))/\Nx w w':=by
 obtain⟨a,cap,rfl,hn,hk⟩:=h0
 unfold maxLen at hn
 have HH:Hid (Ji xs id=true):=hh
 clear hh
 generalize hz:xs.length=n at *
 have HZ:Hid (xs.length=n):=hz
 clear hz
 go_enter Tryz.func20,Tryz.ntmps20
 go_wp2
 go_loop [5] (λi=>∃k:Nat,k<=n/\i=.int .i64 k/\Hid (notW xs id k)) (λi=>n-(intOf i).toNat)
 case atStart=>exact⟨0,Nat.zero_le _,rfl,notW_zero _ _⟩
 case round=>
  obtain⟨k,hkn,rfl,hrel⟩:=hrel
  by_cases hlt:k<n
  ·obtain⟨b,off,rfl,hB,hb,hc⟩:=hk (by omega)
   obtain⟨vn,vw,hcc,_⟩:=hc k hlt
   clear hc hk
   go_wp2
   ·go_ret
    exact⟨ret_natI (wpos_at (by rw[HZ.out];exact hlt) (by simpa using(show((wat xs k).id==id)=true by assumption)) hrel.out),(Below.refl _ _).alloc (Nat.le_refl _) _⟩
   ·go_round
    case rel=>exact⟨k+1,by omega,by go_num,notW_succ hrel (by assumption)⟩
    case measure=>simp[intOf];omega
  ·exfalso
   have:=hasW_no (xs:=xs) (id:=id) (k:=k) (by rw[HZ.out];omega) hrel.out
   rw[HH.out] at this
   cases this
def Vg (l:List Nat):List (List Nat):=l.map λe=>[e]
theorem ones_sing (l:List Nat):ones l=(Vg l).map Qd:=by simp[ones,Vg,Qd]
theorem sing_good {es:List Eg}{i:Int}:∀l∈Vg (Jp es i es.length),Zz es.length l:=by
 intro l hl
 obtain⟨e,he,rfl⟩:=List.mem_map.1 hl
 refine⟨by simp,by simp,λx hx=>?_⟩
 have:x=e:=by simpa using hx
 subst this
 unfold Jp at he
 exact List.mem_range.1 (List.mem_filter.1 he).1
theorem Zv (l:List Nat):(Vg l).length=l.length:=by simp[Vg]
theorem Z3 {N:Nt}{es:List Eg}{i:Nat}(hm:es.length<=4000)(h1:Vi es i es.length≠[])(h2:(wat N.ways i).both=true->Vu es i es.length≠[]):∀l∈J1 N es i,Zz es.length l/\l.length<=4000:=by
 have a1:Zz es.length (Vi es i es.length)/\(Vi es i es.length).length<=4000:=by
  have:=thTo_len es i es.length
  rw[Qw] at this
  exact⟨⟨h1,by omega,λe he=>by unfold Vi at he;exact List.mem_range.1 (List.mem_filter.1 he).1⟩,by omega⟩
 intro l hl
 unfold J1 at hl
 rcases List.mem_append.1 hl with g|g
 ·have:l=Vi es i es.length:=by simpa using g
  rw[this];exact a1
 ·by_cases hb:(wat N.ways i).both=true
  ·rw[if_pos hb] at g
   have:l=Vu es i es.length:=by simpa using g
   have hl:=bkTo_len es i es.length
   rw[Qw] at hl
   rw[this]
   exact⟨⟨h2 hb,by omega,λe he=>by unfold Vu at he;exact List.mem_range.1 (List.mem_filter.1 (List.mem_reverse.1 he)).1⟩,by omega⟩
  ·rw[if_neg hb] at g
   simp at g
theorem travs_len (N:Nt)(es:List Eg)(i:Nat):(J1 N es i).length<=2:=by
 unfold J1
 split<;>simp
theorem growL_good {es:List Eg}{m c d:Nat}{ls ps:List (List Nat)}(h1:∀l∈ls,Zz m l/\l.length<=c)(h2:∀l∈ps,Zz m l/\l.length<=d)(hc:c+d<=100000):∀l∈J3 es ls ps,Zz m l/\l.length<=c+d:=by
 intro q hq
 unfold J3 at hq
 obtain⟨l,hl,hq⟩:=List.mem_flatMap.1 hq
 obtain⟨p,hp,rfl⟩:=List.mem_map.1 hq
 have hp':=(List.mem_filter.1 hp).1
 have e1:=h1 l hl
 have e2:=h2 p hp'
 refine⟨⟨by simp[e1.1.1],by rw[List.length_append];omega,λe he=>?_⟩,by rw[List.length_append];omega⟩
 rcases List.mem_append.1 he with g|g
 ·exact e1.1.2.2 e g
 ·exact e2.1.2.2 e g
def Qp (N:Nt)(es:List Eg)(r:Rl):List Nat:=Jp es (wpos N.ways r.frm) es.length
def J2 (N:Nt)(es:List Eg)(r:Rl):List Nat:=Jp es (wpos N.ways r.to) es.length
def Vf (nodes:List Int)(es:List Eg)(node:Int)(e:Nat):Bool:=decide (iat nodes (eat es e).head.toNat=node)
def Y9 (N:Nt)(es:List Eg)(r:Rl)(k:Nat):List (List Nat):=Jb es (Vg (Qp N es r)) ((r.ways.take k).map λid=>J1 N es (wpos N.ways id))
def Y1 (N:Nt)(nodes:List Int)(es:List Eg)(r:Rl):List (List Nat):=
 if r.via then J3 es (Vg ((Qp N es r).filter (Vf nodes es r.node))) (Vg (J2 N es r)) else J3 es (Y9 N es r r.ways.length) (Vg (J2 N es r))
theorem growW_succ {N:Nt}{es:List Eg}{r:Rl}{k:Nat}(hk:k<r.ways.length):Y9 N es r (k+1)=J3 es (Y9 N es r k) (J1 N es (wpos N.ways (iat r.ways k))):=by
 unfold Y9 Jb
 rw[List.take_succ_eq_append_getElem hk,List.map_append,List.foldl_append,Vp hk]
 rfl
theorem Vh.at {C:Nat}{w:World}{a:Option Addr}{n c:Nat}{ws:List (List Int)}(h:Vh C w (.slice a n c) ws){i:Nat}(hi:i<ws.length):∃g u,a=some ⟨g,0,none⟩/\w.cell? ⟨g,i,none⟩=some u/\Q6 C w u (wd ws i):=by
 obtain⟨cs,h1,h2⟩:=h
 obtain⟨h3,h4⟩:=h1
 rw[Nat.mul_one] at h3
 rcases h4 with⟨_,h4⟩|⟨g,cap,cur,e,hg,hh,hc,hm,hs,ht⟩
 ·omega
 ·simp only[Value.slice.injEq] at e
  refine⟨g,vat cs i,e.1,?_,h2 i hi⟩
  have e:(cur.toList.take (ws.length*1))[i]?=cs[i]?:=by rw[ht]
  rw[List.getElem?_take_of_lt (by omega),Array.getElem?_toList] at e
  simp[World.cell?,hh,e,vat,List.getD,show i<cs.length by omega]
theorem Vw.next {B:Nat}{w w':World}{v:Value}{xs:List Wy}(h:Vw B w v xs)(k:Nx w w'):Vw B w' v xs:=h.keep (k.keeps B)
def OwnV (C D:Nat)(w:World)(v:Value)(ws:List (List Int)):Prop:=
 ∃cs:List Value,w.ownsRow C 102 1 v ws.length cs/\∀i,i<ws.length->Q6 D w (vat cs i) (wd ws i)
theorem OwnV.next {C D:Nat}{w w':World}{v:Value}{ws:List (List Int)}(h:OwnV C D w v ws)(k:Nx w w'):OwnV C D w' v ws:=by
 obtain⟨cs,h1,h2⟩:=h
 refine⟨cs,?_,λi hi=>(h2 i hi).next k⟩
 obtain⟨h3,h4⟩:=h1
 refine⟨h3,?_⟩
 rcases h4 with h4|⟨g,cap,cur,hv,hg,hh,r⟩
 ·exact Or.inl h4
 ·exact Or.inr ⟨g,cap,cur,hv,hg,(k.block g (Array.getElem?_eq_some_iff.1 hh).1).trans hh,r⟩
theorem OwnV.own {C D:Nat}{w:World}{v:Value}{ws:List (List Int)}(h:OwnV C D w v ws)(hD:D<=C):Vh D w v ws:=by
 obtain⟨cs,h1,h2⟩:=h
 refine⟨cs,?_,h2⟩
 obtain⟨h3,h4⟩:=h1
 refine⟨h3,?_⟩
 rcases h4 with h4|⟨g,cap,cur,hv,hg,r⟩
 ·exact Or.inl h4
 ·exact Or.inr ⟨g,cap,cur,hv,by omega,r⟩
theorem ownV_none (D:Nat)(w:World):OwnV w.heap.size D (w.alloc (.cells #[] 102)) (.slice (some ⟨w.heap.size,0,none⟩) 0 0) []:=
 ⟨[],⟨rfl,.inr ⟨w.heap.size,0,#[],rfl,Nat.le_refl _,by show(w.heap.push _)[w.heap.size]?=_;simp,Nat.le_refl _,by simp[maxLen],by simp,by simp⟩⟩,λi hi=>absurd hi (Nat.not_lt_zero _)⟩
theorem OwnV.snoc {C D:Nat}{w w':World}{v v' u:Value}{ws:List (List Int)}{x:List Int}{cs:List Value}(h1:w.ownsRow C 102 1 v ws.length cs)(h2:∀i,i<ws.length->Q6 D w (vat cs i) (wd ws i))
  (hu:Q6 D w u x) (ho:Obj) (hg:(w.alloc ho).grownBy w' v.ownBlock) (hn:w'.ownsRow C 102 1 v' (ws.length+1) (cs++[u])):OwnV C D w' v' (ws++[x]):=by
 have hl:cs.length=ws.length:=by have:=h1.1;omega
 have kept:∀{z:Value}{zs:List Int},Q6 D w z zs->Q6 D w' z zs:=λ{z zs} hz=>World.ownsRow.kept (World.ownsRow.alloc hz ho) hg (own_ne hz h1 (by decide))
 refine⟨cs++[u],by rw[List.length_append];exact hn,λi hi=>?_⟩
 rw[List.length_append,List.length_singleton] at hi
 by_cases e:i<ws.length
 ·rw[wd_snoc e]
  have:vat (cs++[u]) i=vat cs i:=by simp[vat,List.getD,List.getElem?_append_left (show i<cs.length by omega)]
  rw[this]
  exact kept (h2 i e)
 ·have e':i=ws.length:=by omega
  rw[wd_end e']
  have:vat (cs++[u]) i=u:=by rw[e',<-hl];simp[vat,List.getD]
  rw[this]
  exact kept hu
theorem sing_wd {F:List Nat}{k:Nat}(hk:k<F.length):wd ((Vg F).map Qd) k=[((F.getD k 0:Nat):Int)]:=by
 simp[wd,Vg,Qd,List.getD_eq_getElem?_getD,hk]
theorem filt_yes {F:List Nat}{p:Nat->Bool}{k:Nat}(hk:k<F.length)(h:p (F.getD k 0)=true):(Vg ((F.take (k+1)).filter p)).map Qd=(Vg ((F.take k).filter p)).map Qd++[[((F.getD k 0:Nat):Int)]]:=by
 have e:F.getD k 0=F[k]:=by simp[List.getD_eq_getElem?_getD,hk]
 rw[e] at h ⊢
 rw[List.take_succ_eq_append_getElem hk,List.filter_append]
 simp[Vg,Qd,h]
theorem filt_no {F:List Nat}{p:Nat->Bool}{k:Nat}(hk:k<F.length)(h:p (F.getD k 0)=false):(F.take (k+1)).filter p=(F.take k).filter p:=by
 have e:F.getD k 0=F[k]:=by simp[List.getD_eq_getElem?_getD,hk]
 rw[e] at h
 rw[List.take_succ_eq_append_getElem hk,List.filter_append]
 simp[h]
structure RelIn (N:Nt)(R:Rd)(r:Rl):Prop where
 frm:Ji N.ways r.frm=true
 dst:Ji N.ways r.to=true
 len:r.ways.length<=4
 ways:∀k,k<r.ways.length->Ji N.ways (iat r.ways k)=true
 th:∀i,i<N.ways.length->Vi R.edges i R.edges.length≠[]/\((wat N.ways i).both=true->Vu R.edges i R.edges.length≠[])
 hd:∀e,e<R.edges.length->0<=(eat R.edges e).head/\(eat R.edges e).head<R.nodes.length
theorem growW_good {N:Nt}{R:Rd}{r:Rl}(h:RelIn N R r)(hm:R.edges.length<=4000):∀k,k<=r.ways.length->(∀l∈Y9 N R.edges r k,Zz R.edges.length l/\l.length<=1+4000*k)/\(Y9 N R.edges r k).length<=4000*2 ^ k
 |0,_=>by
  refine⟨λl hl=>?_,?_⟩
  ·have hl':l∈Vg (Qp N R.edges r):=hl
   refine⟨sing_good l hl',?_⟩
   obtain⟨e,_,rfl⟩:=List.mem_map.1 hl'
   simp
  ·show(Vg (Qp N R.edges r)).length<=_
   rw[Zv]
   have:=ofTo_len R.edges (wpos N.ways r.frm) R.edges.length
   unfold Qp
   omega
 |k+1,hk=>by
  obtain⟨h1,h2⟩:=growW_good h hm k (by omega)
  have hw:=V8 (h.ways k (by omega))
  have ht:=h.th _ hw
  have h3:=Z3 (N:=N) hm ht.1 ht.2
  have hk4:=h.len
  rw[growW_succ (by omega)]
  refine⟨λl hl=>?_,?_⟩
  ·have:=growL_good h1 h3 (by omega) l hl
   exact⟨this.1,by omega⟩
  ·have a1:=growL_len R.edges (Y9 N R.edges r k) (J1 N R.edges (wpos N.ways (iat r.ways k)))
   have a2:=travs_len N R.edges (wpos N.ways (iat r.ways k))
   have a3:=Nat.mul_le_mul h2 a2
   rw[Nat.pow_succ]
   omega
theorem l2Chains_any (B0 B Bw:Nat)(n0 n1 n2 n3:Value)(N:Nt)(v0 v1 v2 v3:Value)(R:Rd)(r:Rl)(vw:Value)(w:World)(hN:Z0 B0 w n0 n1 n2 n3 N)(h0:Vy B w v0 v1 v2 v3 R)(hw:Qo Bw w vw r.ways)(hm:R.edges.length<=4000)(hR:RelIn N R r) :
  Calls Tryz.prog 44 #[.agg #[n0,n1,n2,n3,.int .i64 N.uturn],.agg #[v0,v1,v2,v3],.agg #[.int .i64 r.id,.bool r.only,.int .i64 r.frm,.int .i64 r.to,.bool r.via,.int .i64 r.node,vw]] w λe w'=>(∃u,e=.returned u/\Vh w.heap.size w' u ((Y1 N R.nodes R.edges r).map Qd))/\Nx w w':=by
 obtain⟨ii,hi,hz0,hz1,hz2⟩:=info_parts infoWord
 have HNET:=mh hN
 have HROAD:=mh h0
 have HW:=mh hw
 have HR:Hid (RelIn N R r):=hR
 clear hN h0 hR
 obtain⟨a0,q0,e0,jm,jk⟩:=HNET.out.1
 clear jm jk
 obtain⟨a1,q1,e1,jm,jk⟩:=HNET.out.2.1
 clear jm jk
 obtain⟨a2,q2,e2,jm,jk⟩:=HNET.out.2.2.1
 clear jm jk
 obtain⟨a3,q3,e3,jm,jk⟩:=HNET.out.2.2.2
 clear jm jk
 generalize N.nodes.length=l0 at e0
 generalize N.ways.length=l1 at e1
 generalize N.rels.length=l2 at e2
 generalize N.turns.length=l3 at e3
 obtain⟨a4,q4,e4,jm,jk⟩:=HROAD.out.1
 clear jm jk
 obtain⟨a5,q5,e5,jm,jk⟩:=HROAD.out.2.1
 clear jm jk
 obtain⟨a6,q6,e6,jm,jk⟩:=HROAD.out.2.2.1
 clear jm jk
 obtain⟨a7,q7,e7,jm,jk⟩:=HROAD.out.2.2.2
 clear jm jk
 generalize R.nodes.length=l4 at e4
 generalize R.edges.length=l5 at e5
 generalize R.first.length=l6 at e6
 generalize R.out.length=l7 at e7
 obtain⟨aw,qw,ew,jm,jk⟩:=hw
 clear jm jk
 generalize r.ways.length=lw at ew
 subst e0 e1 e2 e3 e4 e5 e6 e7 ew
 generalize hW1:((w.alloc (.cells #[.slice a0 l0 q0,.slice a1 l1 q1,.slice a2 l2 q2,.slice a3 l3 q3,.int .i64 N.uturn] 28)).alloc (.cells #[.slice a4 l4 q4,.slice a5 l5 q5,.slice a6 l6 q6,.slice a7 l7 q7] 38)).alloc (.cells #[.int .i64 r.id,.bool r.only,.int .i64 r.frm,.int .i64 r.to,.bool r.via,.int .i64 r.node,.slice aw lw qw] 41)=w1
 have HX1:Hid (Nx w w1):=by unfold Hid;rw[<-hW1];exact(box2 _ _ _).alloc _
 have BN:Hid (Blk w1 w.heap.size #[.slice a0 l0 q0,.slice a1 l1 q1,.slice a2 l2 q2,.slice a3 l3 q3,.int .i64 N.uturn]):=by unfold Hid;rw[<-hW1];exact((Blk.new w _ _ _ rfl).alloc _).alloc _
 have BR:Hid (Blk w1 (w.heap.size+1) #[.slice a4 l4 q4,.slice a5 l5 q5,.slice a6 l6 q6,.slice a7 l7 q7]):=by unfold Hid;rw[<-hW1];exact(Blk.new _ _ _ _ (by rw[Q1])).alloc _
 have BL:Hid (Blk w1 (w.heap.size+2) #[.int .i64 r.id,.bool r.only,.int .i64 r.frm,.int .i64 r.to,.bool r.via,.int .i64 r.node,.slice aw lw qw]):=by unfold Hid;rw[<-hW1];exact Blk.new _ _ _ _ (by rw[Q1,Q1])
 go_enter Tryz.func44,Tryz.ntmps44
 go_upto_region 1 with fail
 clear hW1
 have HFR:=HR.out.frm
 have HTO:=HR.out.dst
 have HX11:Hid (Nx w1 w1):=Below.refl _ _
 have k0:w1.cell? ⟨w.heap.size,0,none⟩=some (.slice a0 l0 q0):=(BN.out.next (Below.refl _ _)).cell (i:=0) rfl
 have k1:w1.cell? ⟨w.heap.size,1,none⟩=some (.slice a1 l1 q1):=(BN.out.next (Below.refl _ _)).cell (i:=1) rfl
 have k2:w1.cell? ⟨w.heap.size,2,none⟩=some (.slice a2 l2 q2):=(BN.out.next (Below.refl _ _)).cell (i:=2) rfl
 have k3:w1.cell? ⟨w.heap.size,3,none⟩=some (.slice a3 l3 q3):=(BN.out.next (Below.refl _ _)).cell (i:=3) rfl
 have k4:w1.cell? ⟨w.heap.size,4,none⟩=some (.int .i64 N.uturn):=(BN.out.next (Below.refl _ _)).cell (i:=4) rfl
 have k5:w1.cell? ⟨w.heap.size+1,0,none⟩=some (.slice a4 l4 q4):=(BR.out.next (Below.refl _ _)).cell (i:=0) rfl
 have k6:w1.cell? ⟨w.heap.size+1,1,none⟩=some (.slice a5 l5 q5):=(BR.out.next (Below.refl _ _)).cell (i:=1) rfl
 have k7:w1.cell? ⟨w.heap.size+1,2,none⟩=some (.slice a6 l6 q6):=(BR.out.next (Below.refl _ _)).cell (i:=2) rfl
 have k8:w1.cell? ⟨w.heap.size+1,3,none⟩=some (.slice a7 l7 q7):=(BR.out.next (Below.refl _ _)).cell (i:=3) rfl
 have kf:=BL.out.cell (i:=2) rfl
 go_region_held3 (λw'=>w'.cell? ⟨w.heap.size,0,none⟩=some (.slice a0 l0 q0)/\w'.cell? ⟨w.heap.size,1,none⟩=some (.slice a1 l1 q1)/\w'.cell? ⟨w.heap.size,2,none⟩=some (.slice a2 l2 q2)/\w'.cell? ⟨w.heap.size,3,none⟩=some (.slice a3 l3 q3)/\w'.cell? ⟨w.heap.size,4,none⟩=some (.int .i64 N.uturn)/\w'.cell? ⟨w.heap.size+1,0,none⟩=some (.slice a4 l4 q4)/\w'.cell? ⟨w.heap.size+1,1,none⟩=some (.slice a5 l5 q5)/\w'.cell? ⟨w.heap.size+1,2,none⟩=some (.slice a6 l6 q6)/\w'.cell? ⟨w.heap.size+1,3,none⟩=some (.slice a7 l7 q7)/\w'.cell? ⟨w.heap.size+2,2,none⟩=some (.int .i64 r.frm)) (first|exact⟨Q3 HXbw2.out k0,Q3 HXbw2.out k1,Q3 HXbw2.out k2,Q3 HXbw2.out k3,Q3 HXbw2.out k4,Q3 HXbw2.out k5,Q3 HXbw2.out k6,Q3 HXbw2.out k7,Q3 HXbw2.out k8,Q3 HXbw2.out kf⟩|exact⟨Q3 HXaw2.out k0,Q3 HXaw2.out k1,Q3 HXaw2.out k2,Q3 HXaw2.out k3,Q3 HXaw2.out k4,Q3 HXaw2.out k5,Q3 HXaw2.out k6,Q3 HXaw2.out k7,Q3 HXaw2.out k8,Q3 HXaw2.out kf⟩|(go_keep;done)) (first|(go_at_call 20;refine(l1WayAt_pos B0 _ _ _ _ _ _ N.ways _ (by exact HNET.out.2.1.next (HX1.out.trans (Below.refl _ _).drew)) HFR).mono ?_;rintro e waw2 ⟨rfl,hxa⟩;have HXaw2:Hid (Nx w1 waw2):=(Below.refl _ _).drew.trans hxa;clear hxa)|(go_at_call 73;refine(l2Of_any B _ _ _ _ R _ _ (by exact HROAD.out.next (HX1.out.trans HXaw2.out)) hm).mono ?_;rintro e w2 ⟨⟨uf,rfl,hOuf⟩,hxb⟩;have HXbw2:Hid (Nx w1 w2):=HXaw2.out.trans hxb;have HOuf:Hid (Vh w1.heap.size w2 uf (ones (Jp R.edges (wpos N.ways r.frm) R.edges.length))):=hOuf.base (by have:=HX11.out.size;have:=HXaw2.out.size;omega);clear hOuf hxb))
 have HXw2:Hid (Nx w w2):=HX1.out.trans HXbw2.out
 have HX1w2:Hid (Nx w1 w2):=HXbw2.out
 have HLF:Hid (ones (Jp R.edges (wpos N.ways r.frm) R.edges.length)=(Vg (Qp N R.edges r)).map Qd):=ones_sing _
 have HLT:Hid (ones (Jp R.edges (wpos N.ways r.to) R.edges.length)=(Vg (J2 N R.edges r)).map Qd):=ones_sing _
 obtain⟨fa,fc,hfe⟩:=HOuf.out.slice
 generalize hfl:(ones (Jp R.edges (wpos N.ways r.frm) R.edges.length)).length=fl at hfe
 have HFL:=mh hfl
 subst hfe
 clear k0 k1 k2 k3 k4 k5 k6 k7 k8 kf hfl
 have k0:w2.cell? ⟨w.heap.size,0,none⟩=some (.slice a0 l0 q0):=(BN.out.next HX1w2.out).cell (i:=0) rfl
 have k1:w2.cell? ⟨w.heap.size,1,none⟩=some (.slice a1 l1 q1):=(BN.out.next HX1w2.out).cell (i:=1) rfl
 have k2:w2.cell? ⟨w.heap.size,2,none⟩=some (.slice a2 l2 q2):=(BN.out.next HX1w2.out).cell (i:=2) rfl
 have k3:w2.cell? ⟨w.heap.size,3,none⟩=some (.slice a3 l3 q3):=(BN.out.next HX1w2.out).cell (i:=3) rfl
 have k4:w2.cell? ⟨w.heap.size,4,none⟩=some (.int .i64 N.uturn):=(BN.out.next HX1w2.out).cell (i:=4) rfl
 have k5:w2.cell? ⟨w.heap.size+1,0,none⟩=some (.slice a4 l4 q4):=(BR.out.next HX1w2.out).cell (i:=0) rfl
 have k6:w2.cell? ⟨w.heap.size+1,1,none⟩=some (.slice a5 l5 q5):=(BR.out.next HX1w2.out).cell (i:=1) rfl
 have k7:w2.cell? ⟨w.heap.size+1,2,none⟩=some (.slice a6 l6 q6):=(BR.out.next HX1w2.out).cell (i:=2) rfl
 have k8:w2.cell? ⟨w.heap.size+1,3,none⟩=some (.slice a7 l7 q7):=(BR.out.next HX1w2.out).cell (i:=3) rfl
 have kf:=(BL.out.next HX1w2.out).cell (i:=3) rfl
 go_wp2
 go_region_held3 (λw'=>w'.cell? ⟨w.heap.size,0,none⟩=some (.slice a0 l0 q0)/\w'.cell? ⟨w.heap.size,1,none⟩=some (.slice a1 l1 q1)/\w'.cell? ⟨w.heap.size,2,none⟩=some (.slice a2 l2 q2)/\w'.cell? ⟨w.heap.size,3,none⟩=some (.slice a3 l3 q3)/\w'.cell? ⟨w.heap.size,4,none⟩=some (.int .i64 N.uturn)/\w'.cell? ⟨w.heap.size+1,0,none⟩=some (.slice a4 l4 q4)/\w'.cell? ⟨w.heap.size+1,1,none⟩=some (.slice a5 l5 q5)/\w'.cell? ⟨w.heap.size+1,2,none⟩=some (.slice a6 l6 q6)/\w'.cell? ⟨w.heap.size+1,3,none⟩=some (.slice a7 l7 q7)/\w'.cell? ⟨w.heap.size+2,3,none⟩=some (.int .i64 r.to)) (first|exact⟨Q3 HXbw3.out k0,Q3 HXbw3.out k1,Q3 HXbw3.out k2,Q3 HXbw3.out k3,Q3 HXbw3.out k4,Q3 HXbw3.out k5,Q3 HXbw3.out k6,Q3 HXbw3.out k7,Q3 HXbw3.out k8,Q3 HXbw3.out kf⟩|exact⟨Q3 HXaw3.out k0,Q3 HXaw3.out k1,Q3 HXaw3.out k2,Q3 HXaw3.out k3,Q3 HXaw3.out k4,Q3 HXaw3.out k5,Q3 HXaw3.out k6,Q3 HXaw3.out k7,Q3 HXaw3.out k8,Q3 HXaw3.out kf⟩|(go_keep;done)) (first|(go_at_call 20;refine(l1WayAt_pos B0 _ _ _ _ _ _ N.ways _ (by exact HNET.out.2.1.next (HXw2.out.trans (Below.refl _ _).drew)) HTO).mono ?_;rintro e waw3 ⟨rfl,hxa⟩;have HXaw3:Hid (Nx w2 waw3):=(Below.refl _ _).drew.trans hxa;clear hxa)|(go_at_call 73;refine(l2Of_any B _ _ _ _ R _ _ (by exact HROAD.out.next (HXw2.out.trans HXaw3.out)) hm).mono ?_;rintro e w3 ⟨⟨ut,rfl,hOut⟩,hxb⟩;have HXbw3:Hid (Nx w2 w3):=HXaw3.out.trans hxb;have HOut:Hid (Vh w1.heap.size w3 ut (ones (Jp R.edges (wpos N.ways r.to) R.edges.length))):=hOut.base (by have:=HX1w2.out.size;have:=HXaw3.out.size;omega);clear hOut hxb))
 have HXw3:Hid (Nx w w3):=HXw2.out.trans HXbw3.out
 have HX1w3:Hid (Nx w1 w3):=HX1w2.out.trans HXbw3.out
 have HOF:Hid (Vh w1.heap.size w3 (.slice fa fl fc) ((Vg (Qp N R.edges r)).map Qd)):=by have:=HOuf.out.next HXbw3.out;rw[HLF.out] at this;exact this
 have HOT:Hid (Vh w1.heap.size w3 ut ((Vg (J2 N R.edges r)).map Qd)):=by have:=HOut.out;rw[HLT.out] at this;exact this
 have hfl4:fl<=4000:=by rw[<-HFL.out,ones_len];have:=ofTo_len R.edges (wpos N.ways r.frm) R.edges.length;omega
 have HFLS:Hid ((Vg (Qp N R.edges r)).length=fl):=by have:=HFL.out;rw[HLF.out,List.length_map] at this;exact this
 obtain⟨ta,tc,hte⟩:=HOT.out.slice
 generalize htl:((Vg (J2 N R.edges r)).map Qd).length=tl at hte
 have HTL:Hid ((Vg (J2 N R.edges r)).length=tl):=by rw[List.length_map] at htl;exact htl
 have htl4:tl<=4000:=by rw[<-HTL.out,Zv];have:=ofTo_len R.edges (wpos N.ways r.to) R.edges.length;unfold J2;omega
 subst hte
 clear k0 k1 k2 k3 k4 k5 k6 k7 k8 kf htl HOuf HOut HLF HLT HFL
 have kv:=(BL.out.next HX1w3.out).cell (i:=4) rfl
 have HCH:Hid (Y1 N R.nodes R.edges r=if r.via then J3 R.edges (Vg ((Qp N R.edges r).filter (Vf R.nodes R.edges r.node))) (Vg (J2 N R.edges r)) else J3 R.edges (Y9 N R.edges r r.ways.length) (Vg (J2 N R.edges r))):=rfl
 cases hvia:r.via
 ·rw[hvia] at kv HCH
  have HCH2:Hid (Y1 N R.nodes R.edges r=J3 R.edges (Y9 N R.edges r r.ways.length) (Vg (J2 N R.edges r))):=by unfold Hid;rw[HCH.out];rfl
  clear HCH hvia
  have HWL:Hid (r.ways.length=lw):=ints_len HW.out
  have hlw4:lw<=4:=by rw[<-HWL.out];exact HR.out.len
  go_wp2
  go_loopw [7,11] (λu i wr=>∃k:Nat,k<=lw/\i=.int .i64 k/\Hid (Vh w1.heap.size wr u ((Y9 N R.edges r k).map Qd))/\Hid (Nx w1 wr)/\Hid (Vh w1.heap.size wr (.slice ta tl tc) ((Vg (J2 N R.edges r)).map Qd))) (λ_ i _=>lw-(intOf i).toNat)
  case atStart=>exact⟨0,Nat.zero_le _,rfl,HOF,HX1w3,HOT⟩
  clear HOF HOT kv
  obtain⟨k,hkm,rfl,HO,HN,HOT⟩:=hrel
  have HXr:Hid (Nx w wr):=HX1.out.trans HN.out
  obtain⟨ga,gc,hge⟩:=HO.out.slice
  generalize hgl:((Y9 N R.edges r k).map Qd).length=gl at hge
  subst hge
  have HGG:=growW_good HR.out hm k (by rw[HWL.out];exact hkm)
  have HGL:Hid ((Y9 N R.edges r k).length<=1000000/\∀l∈Y9 N R.edges r k,Zz R.edges.length l):=by
   refine⟨?_,λl hl=>(HGG.1 l hl).1⟩
   have h1:=HGG.2
   have h2:2 ^ k<=2 ^ 4:=Nat.pow_le_pow_right (by decide) (by omega)
   omega
  clear hgl HGG
  have kl:=(BL.out.next HN.out).cell (i:=6) rfl
  have k0:wr.cell? ⟨w.heap.size,0,none⟩=some (.slice a0 l0 q0):=(BN.out.next HN.out).cell (i:=0) rfl
  have k1:wr.cell? ⟨w.heap.size,1,none⟩=some (.slice a1 l1 q1):=(BN.out.next HN.out).cell (i:=1) rfl
  have k2:wr.cell? ⟨w.heap.size,2,none⟩=some (.slice a2 l2 q2):=(BN.out.next HN.out).cell (i:=2) rfl
  have k3:wr.cell? ⟨w.heap.size,3,none⟩=some (.slice a3 l3 q3):=(BN.out.next HN.out).cell (i:=3) rfl
  have k4:wr.cell? ⟨w.heap.size,4,none⟩=some (.int .i64 N.uturn):=(BN.out.next HN.out).cell (i:=4) rfl
  have k5:wr.cell? ⟨w.heap.size+1,0,none⟩=some (.slice a4 l4 q4):=(BR.out.next HN.out).cell (i:=0) rfl
  have k6:wr.cell? ⟨w.heap.size+1,1,none⟩=some (.slice a5 l5 q5):=(BR.out.next HN.out).cell (i:=1) rfl
  have k7:wr.cell? ⟨w.heap.size+1,2,none⟩=some (.slice a6 l6 q6):=(BR.out.next HN.out).cell (i:=2) rfl
  have k8:wr.cell? ⟨w.heap.size+1,3,none⟩=some (.slice a7 l7 q7):=(BR.out.next HN.out).cell (i:=3) rfl
  by_cases hlt:k<lw
  ·have hlt':(k:Int)<lw:=by omega
   have HKW:Hid (k<r.ways.length):=by unfold Hid;rw[HWL.out];exact hlt
   have HES:Hid (Y9 N R.edges r (k+1)=J3 R.edges (Y9 N R.edges r k) (J1 N R.edges (wpos N.ways (iat r.ways k)))):=growW_succ HKW.out
   have hway:=HR.out.ways k HKW.out
   have HWP:=mh (V8 hway)
   have HTG:Hid (∀l∈J1 N R.edges (wpos N.ways (iat r.ways k)),Zz R.edges.length l):=λl hl=>(Z3 hm (HR.out.th _ HWP.out).1 (HR.out.th _ HWP.out).2 l hl).1
   obtain⟨bw,ow,haw,hbw,hcw⟩:=Yb HW.out HXr.out hlt
   subst haw
   have kw:wr.cell? ⟨bw,ow+k,none⟩=some (.int .i64 (iat r.ways k)):=hcw
   have HWAY:=mh hway
   clear hcw hway
   generalize iat r.ways k=wid at *
   go_wp2
   go_region_held3 (λw'=>w'.cell? ⟨w.heap.size,0,none⟩=some (.slice a0 l0 q0)/\w'.cell? ⟨w.heap.size,1,none⟩=some (.slice a1 l1 q1)/\w'.cell? ⟨w.heap.size,2,none⟩=some (.slice a2 l2 q2)/\w'.cell? ⟨w.heap.size,3,none⟩=some (.slice a3 l3 q3)/\w'.cell? ⟨w.heap.size,4,none⟩=some (.int .i64 N.uturn)/\w'.cell? ⟨w.heap.size+1,0,none⟩=some (.slice a4 l4 q4)/\w'.cell? ⟨w.heap.size+1,1,none⟩=some (.slice a5 l5 q5)/\w'.cell? ⟨w.heap.size+1,2,none⟩=some (.slice a6 l6 q6)/\w'.cell? ⟨w.heap.size+1,3,none⟩=some (.slice a7 l7 q7)/\w'.cell? ⟨w.heap.size+2,6,none⟩=some (.slice (some ⟨bw,ow,none⟩) lw qw)/\w'.cell? ⟨bw,ow+k,none⟩=some (.int .i64 wid)) (first|exact⟨Q3 HXc.out k0,Q3 HXc.out k1,Q3 HXc.out k2,Q3 HXc.out k3,Q3 HXc.out k4,Q3 HXc.out k5,Q3 HXc.out k6,Q3 HXc.out k7,Q3 HXc.out k8,Q3 HXc.out kl,Q3 HXc.out kw⟩|exact⟨Q3 HXb.out k0,Q3 HXb.out k1,Q3 HXb.out k2,Q3 HXb.out k3,Q3 HXb.out k4,Q3 HXb.out k5,Q3 HXb.out k6,Q3 HXb.out k7,Q3 HXb.out k8,Q3 HXb.out kl,Q3 HXb.out kw⟩|exact⟨Q3 HXa.out k0,Q3 HXa.out k1,Q3 HXa.out k2,Q3 HXa.out k3,Q3 HXa.out k4,Q3 HXa.out k5,Q3 HXa.out k6,Q3 HXa.out k7,Q3 HXa.out k8,Q3 HXa.out kl,Q3 HXa.out kw⟩|(go_keep;done)) (first|(go_at_call 20;refine(l1WayAt_pos B0 _ _ _ _ _ _ N.ways _ (by exact HNET.out.2.1.next (HXr.out.trans (Below.refl _ _).drew)) HWAY.out).mono ?_;rintro e wa ⟨rfl,hxa⟩;have HXa:Hid (Nx wr wa):=(Below.refl _ _).drew.trans hxa;clear hxa)|(go_at_call 75;refine(Za B0 B _ _ _ _ N _ _ _ _ R _ _ (by exact HNET.out.next (HXr.out.trans HXa.out)) (by exact HROAD.out.next (HXr.out.trans HXa.out)) hm HWP.out).mono ?_;rintro e wb ⟨⟨ub,rfl,hOb⟩,hxb⟩;have HXb:Hid (Nx wr wb):=HXa.out.trans hxb;have HOb:Hid (Vh wa.heap.size wb ub ((J1 N R.edges (wpos N.ways wid)).map Qd)):=hOb;clear hOb hxb)|(go_at_call 74;refine(l2Grow_any B w1.heap.size wa.heap.size _ _ _ _ _ _ R (Y9 N R.edges r k) (J1 N R.edges (wpos N.ways wid)) _ (by exact HROAD.out.next (HXr.out.trans HXb.out)) hm (by exact(HO.out.next HXb.out).held) (by exact HOb.out.held) HGL.out.2 HTG.out HGL.out.1 (by have:=travs_len N R.edges (wpos N.ways wid);omega)).mono ?_;rintro e wc ⟨⟨uc,rfl,hOc⟩,hxc⟩;have HXc:Hid (Nx wr wc):=HXb.out.trans hxc;have HOc:Hid (Vh w1.heap.size wc uc ((Y9 N R.edges r (k+1)).map Qd)):=(by unfold Hid;rw[HES.out];exact hOc.base (by have:=HN.out.size;have:=HXb.out.size;omega));clear hOc hxc))
   all_goals
    clear k0 k1 k2 k3 k4 k5 k6 k7 k8 kl kw
    go_wp2
    go_roundw
    case rel=>exact⟨k+1,by omega,by go_num,HOc,HN.out.trans HXc.out,HOT.out.next HXc.out⟩
    case measure=>simp[intOf];omega
  ·have ek:lw=k:=by omega
   subst ek
   have HF:Hid (J3 R.edges (Y9 N R.edges r lw) (Vg (J2 N R.edges r))=Y1 N R.nodes R.edges r):=by unfold Hid;rw[HCH2.out,HWL.out]
   clear hlt hkm
   go_wp2_with fail
   refine(l2Grow_any B w1.heap.size w1.heap.size _ _ _ _ _ _ R (Y9 N R.edges r lw) (Vg (J2 N R.edges r)) _ (by exact HROAD.out.next HXr.out) hm (by exact HO.out.held) (by exact HOT.out.held) HGL.out.2 (λl hl=>sing_good l hl) HGL.out.1 (by rw[HTL.out];omega)).mono ?_
   rintro e wc ⟨⟨uc,rfl,hOc⟩,hxc⟩
   rw[HF.out] at hOc
   have HOc:=mh (hOc.base (HXr.out.size))
   have HXc:Hid (Nx w wc):=HXr.out.trans hxc
   clear hOc hxc k0 k1 k2 k3 k4 k5 k6 k7 k8 kl
   go_wp2
   go_ret
   exact⟨⟨_,rfl,HOc.out⟩,HXc.out⟩
 ·rw[hvia] at kv HCH
  have HCH2:Hid (Y1 N R.nodes R.edges r=J3 R.edges (Vg ((Qp N R.edges r).filter (Vf R.nodes R.edges r.node))) (Vg (J2 N R.edges r))):=by unfold Hid;rw[HCH.out];rfl
  clear HCH hvia
  have HFM:Hid (∀k,k<fl->(Qp N R.edges r).getD k 0<R.edges.length):=λk hk=>by
   have hk':k<(Qp N R.edges r).length:=by have:=HFLS.out;rw[Zv] at this;omega
   have e:(Qp N R.edges r).getD k 0=(Qp N R.edges r)[k]:=by simp[List.getD_eq_getElem?_getD,hk']
   rw[e]
   have:=List.getElem_mem hk'
   unfold Qp Jp at this
   exact List.mem_range.1 (List.mem_filter.1 this).1
  have HFN:Hid ((Qp N R.edges r).length=fl):=by have:=HFLS.out;rw[Zv] at this;exact this
  generalize Qp N R.edges r=F at *
  go_wp2
  go_loopw [9,10] (λu i wr=>∃k:Nat,k<=fl/\i=.int .i64 k/\Hid (OwnV w3.heap.size w1.heap.size wr u ((Vg ((F.take k).filter (Vf R.nodes R.edges r.node))).map Qd))/\Hid (Nx w3 wr)) (λ_ i _=>fl-(intOf i).toNat)
  case atStart=>exact⟨0,Nat.zero_le _,rfl,ownV_none w1.heap.size w3,Qc _ _⟩
  clear kv
  obtain⟨k,hkm,rfl,HO,HN3⟩:=hrel
  have HN:Hid (Nx w1 wr):=HX1w3.out.trans HN3.out
  have HXr:Hid (Nx w wr):=HX1.out.trans HN.out
  have HOFr:=mh (HOF.out.next HN3.out)
  have HOTr:=mh (HOT.out.next HN3.out)
  have k0:wr.cell? ⟨w.heap.size,0,none⟩=some (.slice a0 l0 q0):=(BN.out.next HN.out).cell (i:=0) rfl
  have k1:wr.cell? ⟨w.heap.size,1,none⟩=some (.slice a1 l1 q1):=(BN.out.next HN.out).cell (i:=1) rfl
  have k2:wr.cell? ⟨w.heap.size,2,none⟩=some (.slice a2 l2 q2):=(BN.out.next HN.out).cell (i:=2) rfl
  have k3:wr.cell? ⟨w.heap.size,3,none⟩=some (.slice a3 l3 q3):=(BN.out.next HN.out).cell (i:=3) rfl
  have k4:wr.cell? ⟨w.heap.size,4,none⟩=some (.int .i64 N.uturn):=(BN.out.next HN.out).cell (i:=4) rfl
  have k5:wr.cell? ⟨w.heap.size+1,0,none⟩=some (.slice a4 l4 q4):=(BR.out.next HN.out).cell (i:=0) rfl
  have k6:wr.cell? ⟨w.heap.size+1,1,none⟩=some (.slice a5 l5 q5):=(BR.out.next HN.out).cell (i:=1) rfl
  have k7:wr.cell? ⟨w.heap.size+1,2,none⟩=some (.slice a6 l6 q6):=(BR.out.next HN.out).cell (i:=2) rfl
  have k8:wr.cell? ⟨w.heap.size+1,3,none⟩=some (.slice a7 l7 q7):=(BR.out.next HN.out).cell (i:=3) rfl
  by_cases hlt:k<fl
  case neg=>
   have ek:fl=k:=by omega
   subst ek
   have HO:=HO.out.own HX1w3.out.size
   have HO:=mh HO
   obtain⟨ua,uc,hue⟩:=HO.out.slice
   generalize hul:((Vg ((F.take fl).filter (Vf R.nodes R.edges r.node))).map Qd).length=ul at hue
   subst hue
   have HTA:Hid (F.take fl=F):=by unfold Hid;rw[<-HFN.out,List.take_length]
   have HUL:Hid ((Vg ((F.take fl).filter (Vf R.nodes R.edges r.node))).length<=1000000/\∀l∈Vg ((F.take fl).filter (Vf R.nodes R.edges r.node)),Zz R.edges.length l):=by
    rw[HTA.out]
    refine⟨?_,λl hl=>?_⟩
    ·rw[Zv]
     have:=List.length_filter_le (Vf R.nodes R.edges r.node) F
     have:=HFN.out
     omega
    ·obtain⟨e,he,rfl⟩:=List.mem_map.1 hl
     refine⟨by simp,by simp,λx hx=>?_⟩
     have hxe:x=e:=by simpa using hx
     subst hxe
     obtain⟨j,hj,hje⟩:=List.mem_iff_getElem.1 (List.mem_filter.1 he).1
     have:=HFM.out j (by rw[<-HFN.out];exact hj)
     rw[show F.getD j 0=F[j] by simp[List.getD_eq_getElem?_getD,hj],hje] at this
     exact this
   have HF:Hid (J3 R.edges (Vg ((F.take fl).filter (Vf R.nodes R.edges r.node))) (Vg (J2 N R.edges r))=Y1 N R.nodes R.edges r):=by unfold Hid;rw[HCH2.out,HTA.out]
   clear hlt hkm hul
   go_wp2_with fail
   refine(l2Grow_any B w1.heap.size w1.heap.size _ _ _ _ _ _ R _ (Vg (J2 N R.edges r)) _ (by exact HROAD.out.next HXr.out) hm (by exact HO.out.held) (by exact HOTr.out.held) HUL.out.2 (λl hl=>sing_good l hl) HUL.out.1 (by rw[HTL.out];omega)).mono ?_
   rintro e wc ⟨⟨uc,rfl,hOc⟩,hxc⟩
   rw[HF.out] at hOc
   have HOc:=mh (hOc.base (HXr.out.size))
   have HXc:Hid (Nx w wc):=HXr.out.trans hxc
   clear hOc hxc k0 k1 k2 k3 k4 k5 k6 k7 k8
   go_wp2
   go_ret
   exact⟨⟨_,rfl,HOc.out⟩,HXc.out⟩
  have hlt':(k:Int)<fl:=by omega
  have HKF:Hid (k<F.length):=by unfold Hid;rw[HFN.out];exact hlt
  have HFE:=HFM.out k hlt
  have HYES:Hid (Vf R.nodes R.edges r.node (F.getD k 0)=true->(Vg ((F.take (k+1)).filter (Vf R.nodes R.edges r.node))).map Qd=(Vg ((F.take k).filter (Vf R.nodes R.edges r.node))).map Qd++[[((F.getD k 0:Nat):Int)]]):=λh=>filt_yes HKF.out h
  have HNO:Hid (Vf R.nodes R.edges r.node (F.getD k 0)=false->(F.take (k+1)).filter (Vf R.nodes R.edges r.node)=(F.take k).filter (Vf R.nodes R.edges r.node)):=λh=>filt_no HKF.out h
  obtain⟨gf,uk,hfa,hck,hOk⟩:=HOFr.out.at (i:=k) (by rw[List.length_map,Zv];exact HKF.out)
  rw[sing_wd HKF.out] at hOk
  subst hfa
  have HOK:=mh hOk
  obtain⟨wa,wcp,hue⟩:=hOk.slice
  simp only[List.length_singleton] at hue
  subst hue
  obtain⟨gw,hwa,hc0⟩:∃gw,wa=some ⟨gw,0,none⟩/\wr.cell? ⟨gw,0,none⟩=some (.int .i64 ((F.getD k 0:Nat):Int)):=by
   rcases hOk.opened with⟨e,h2⟩|⟨g,cap,e,_,_,hr⟩
   ·simp at h2
   ·simp only[Value.slice.injEq] at e
    exact⟨g,e.1,hr.cell (i:=0) (by simp)⟩
  subst hwa
  obtain⟨ez,be,oe,ha5,hbe,hce⟩:=V4.at' HROAD.out.2.1 (by omega)
  subst ha5
  have z1:=(hce _ HFE).2.1
  have hh:=HR.out.hd _ HFE
  have HAT:Hid (Vf R.nodes R.edges r.node (F.getD k 0)=decide (iat R.nodes (eat R.edges (F.getD k 0)).head.toNat=r.node)):=rfl
  generalize F.getD k 0=fe at *
  obtain⟨hn,hhn⟩:∃hn:Nat,(eat R.edges fe).head=(hn:Int):=⟨(eat R.edges fe).head.toNat,by omega⟩
  rw[hhn] at z1 HAT hh
  rw[Int.toNat_natCast] at HAT
  have HNL:=mh (ints_len HROAD.out.1)
  have hn4:hn<l4:=by have:=HNL.out;omega
  obtain⟨bn,on,ha4,hbn,hcn⟩:=Yb HROAD.out.1 HXr.out hn4
  subst ha4
  have hm5:(fe:Int)<l5:=by omega
  have hn4':(hn:Int)<l4:=by omega
  have a1:=Q3 HXr.out z1
  have kn:=(BL.out.next HN.out).cell (i:=5) rfl
  clear hce z1 hh ez hhn hOk
  generalize iat R.nodes hn=nd at *
  by_cases hat:nd=r.node
  case neg=>
   have g1:(nd==r.node)=false:=by simpa using hat
   have HE2:=HNO.out (by rw[HAT.out];simpa using hat)
   have HE3:=mh HE2
   clear hat HE2
   go_upto_region 8 with fail
   go_quiet (fail)
   have HDQ:Hid (Nx wr (wr.drewN nq)):=Qt _ _
   generalize wr.drewN nq=wq at *
   clear k0 k1 k2 k3 k4 k5 k6 k7 k8 a1 kn hcn hc0 hck
   go_wp2
   go_roundw
   case rel=>exact⟨k+1,by omega,by go_num,by unfold Hid;rw[HE3.out];exact HO.out.next HDQ.out,HN3.out.trans HDQ.out⟩
   case measure=>simp[intOf];omega
  have g1:(nd==r.node)=true:=by simpa using hat
  have HES:=mh (HYES.out (by rw[HAT.out];simpa using hat))
  have HLN:Hid (((Vg ((F.take k).filter (Vf R.nodes R.edges r.node))).map Qd).length<=4000):=by
   unfold Hid
   rw[List.length_map,Zv]
   have:=List.length_filter_le (Vf R.nodes R.edges r.node) (F.take k)
   rw[List.length_take] at this
   omega
  clear hat
  go_upto_region 8 with fail
  go_quiet (fail)
  have HDQ:Hid (Nx wr (wr.drewN nq)):=Qt _ _
  generalize wr.drewN nq=wq at *
  have hckq:=Q3 HDQ.out hck
  have HOKq:=mh (HOK.out.next HDQ.out)
  have HOq:=mh (HO.out.next HDQ.out)
  have HNq:Hid (Nx w1 wq):=HN.out.trans HDQ.out
  have HN3q:Hid (Nx w3 wq):=HN3.out.trans HDQ.out
  clear k0 k1 k2 k3 k4 k5 k6 k7 k8 a1 kn hcn hc0 hck HOK HO
  generalize (Vg ((F.take k).filter (Vf R.nodes R.edges r.node))).map Qd=ws at *
  obtain⟨cs,hrow,hwords⟩:=HOq.out
  have HROW:=mh hrow
  have HWD:=mh hwords
  obtain⟨ua,uc,hue⟩:=(HOq.out.own HX1w3.out.size).slice
  subst hue
  generalize hwl:ws.length=wl at *
  have HWL2:Hid (ws.length=wl):=hwl
  have hwl4:wl<=4000:=HLN.out
  have HSQ:=mh HN3q.out.size
  clear hrow hwords hwl
  go_wp2_with (at_builtin;refine wpList_append_own_at _ rfl _ _ 99 rfl w3.heap.size 102 ii (.agg #[.slice none 0 0]) 1 24 Tryz.underlying99 hi hz0 hz1 hz2 rfl (by decide) _ _ _ rfl (World.ownsRow.alloc HROW.out _) ⟨wq.heap.size,0,none⟩ 1 1 [.slice (some ⟨gw,0,none⟩) 1 wcp] rfl rfl ?e1 ?e2 ?e3 ?e4 ?e5 ?_)
  case e1=>intro j u hj;exact Qx _ _ _ _ rfl j u hj
  case e2=>intro u hu;simp at hu;subst hu;rfl
  case e3=>unfold maxLen;omega
  case e4=>omega
  case e5=>rw[Q1];have:=HSQ.out;omega
  intro v7 w7 hown hgrow _ hat7
  have HO7:Hid (OwnV w3.heap.size w1.heap.size w7 v7 ((Vg ((F.take (k+1)).filter (Vf R.nodes R.edges r.node))).map Qd)):=by unfold Hid;rw[HES.out];exact OwnV.snoc (by rw[HWL2.out];exact HROW.out) (λi hi=>HWD.out i (by rw[<-HWL2.out];exact hi)) HOKq.out _ hgrow (by rw[HWL2.out];exact hown)
  have HN7:Hid (Nx w3 w7):=Below.grown (HN3q.out.alloc _) hgrow (by rw[Q1];have:=HSQ.out;omega) (λg hg=>(Qf HROW.out g hg).1)
  clear hown hgrow hat7 hckq
  go_wp2
  go_roundw
  case rel=>exact⟨k+1,by omega,by go_num,HO7,HN7⟩
  case measure=>simp[intOf];omega
structure Ru where
 rel:Int
 only:Bool
 seq:List Int
structure Dp where
 rel:Int
 reason:Int
structure Rs where
 rules:List Ru
 drops:List Dp
def V0 (xs:List Ru)(i:Nat):Ru:=xs.getD i ⟨0,false,[]⟩
def dpat (xs:List Dp)(i:Nat):Dp:=xs.getD i ⟨0,0⟩
theorem ruat_eq {xs:List Ru}{i:Nat}(h:i<xs.length):V0 xs i=xs[i]:=by simp[V0,List.getD,h]
theorem dpat_eq {xs:List Dp}{i:Nat}(h:i<xs.length):dpat xs i=xs[i]:=by simp[dpat,List.getD,h]
def rpt (rules:List Ru)(only:Bool)(seq:List Int):Bool:=rules.any λu=>u.only==only&&decide (u.seq=seq)
def reason (rules:List Ru)(only:Bool)(ch:List (List Nat)):Int:=
 if ch.length=0 then 1 else if 1<ch.length then 2 else if rpt rules only (Qd (Jj ch 0)) then 3 else 0
def Jo (S:Rs)(r:Rl)(ch:List (List Nat)):Rs:=
 if reason S.rules r.only ch=0 then ⟨S.rules++[⟨r.id,r.only,Qd (Jj ch 0)⟩],S.drops⟩ else ⟨S.rules,S.drops++[⟨r.id,reason S.rules r.only ch⟩]⟩
def Qq (ch:Rl->List (List Nat))(rels:List Rl):Nat->Rs
 |0=>⟨[],[]⟩
 |k+1=>Jo (Qq ch rels k) (rat rels k) (ch (rat rels k))
theorem resTo_len (ch:Rl->List (List Nat))(rels:List Rl)(k:Nat):(Qq ch rels k).rules.length<=k/\(Qq ch rels k).drops.length<=k:=by
 induction k with
 |zero=>simp[Qq]
 |succ k ih=>
  show(Jo _ _ _).rules.length<=_/\(Jo _ _ _).drops.length<=_
  unfold Jo
  split
  ·simp;omega
  ·simp;omega
theorem resStep_perm {S:Rs}{r:Rl}{c d:List (List Nat)}(h:c.Perm d):Jo S r c=Jo S r d:=by
 have hl:=h.length_eq
 have h0:c.length=1->Jj c 0=Jj d 0:=λe=>by
  match c,d,e,hl,h with
  |[x],[y],_,_,h=>have:=List.singleton_perm_singleton.1 h;rw[this]
 have hr:reason S.rules r.only c=reason S.rules r.only d:=by
  unfold reason
  rw[hl]
  by_cases e0:d.length=0
  ·rw[if_pos e0,if_pos e0]
  ·by_cases e1:1<d.length
   ·rw[if_neg e0,if_neg e0,if_pos e1,if_pos e1]
   ·rw[h0 (by omega)]
 unfold Jo
 rw[hr]
 by_cases e:reason S.rules r.only d=0
 ·have:d.length=1:=by
   unfold reason at e
   by_cases e0:d.length=0
   ·rw[if_pos e0] at e;omega
   ·by_cases e1:1<d.length
    ·rw[if_neg e0,if_pos e1] at e;omega
    ·omega
  rw[if_pos e,if_pos e,h0 (by omega)]
 ·rw[if_neg e,if_neg e]
theorem resTo_perm {c d:Rl->List (List Nat)}{rels:List Rl}(h:∀k,k<rels.length->(c (rat rels k)).Perm (d (rat rels k))):∀k,k<=rels.length->Qq c rels k=Qq d rels k
 |0,_=>rfl
 |k+1,hk=>by
  show Jo _ _ _=Jo _ _ _
  rw[resTo_perm h k (by omega),resStep_perm (h k (by omega))]
theorem infoRule:(Tryz.prog.info? 45).map (λi=>(i.zero,i.size,i.bytes))=some (some (.agg #[.int .i64 0,.bool false,.slice none 0 0]),3,40):=by kernel_rfl
theorem infoDrop:(Tryz.prog.info? 43).map (λi=>(i.zero,i.size,i.bytes))=some (some (.agg #[.int .i64 0,.int .i64 0]),2,16):=by kernel_rfl
def rcell (x:Ru×Value):List Value:=[.int .i64 x.1.rel,.bool x.1.only,x.2]
def Z8 (xs:List Ru)(vs:List Value):List Value:=(xs.zip vs).flatMap rcell
def Yz (C D:Nat)(w:World)(v:Value)(xs:List Ru):Prop:=
 ∃vs:List Value,vs.length=xs.length/\w.ownsRow C 45 3 v xs.length (Z8 xs vs)/\∀i,i<xs.length->Q6 D w (vat vs i) (V0 xs i).seq
def dcells (xs:List Dp):List Value:=xs.flatMap λx=>[.int .i64 x.rel,.int .i64 x.reason]
def Xk (C:Nat)(w:World)(v:Value)(xs:List Dp):Prop:=w.ownsRow C 43 2 v xs.length (dcells xs)
theorem Ju {C ty sz n:Nat}{w w':World}{v:Value}{xs:List Value}(h:w.ownsRow C ty sz v n xs)(k:Nx w w'):w'.ownsRow C ty sz v n xs:=by
 obtain⟨h1,h2⟩:=h
 refine⟨h1,?_⟩
 rcases h2 with h2|⟨g,cap,cur,hv,hg,hh,r⟩
 ·exact Or.inl h2
 ·exact Or.inr ⟨g,cap,cur,hv,hg,(k.block g (Array.getElem?_eq_some_iff.1 hh).1).trans hh,r⟩
theorem Q2 {C ty sz n:Nat}{w:World}{v:Value}{xs:List Value}(h:w.ownsRow C ty sz v n xs):∃a c,v=.slice a n c:=by
 rcases h.2 with⟨rfl,h2⟩|⟨g,cap,cur,rfl,_⟩
 ·exact⟨none,0,by rw[h2]⟩
 ·exact⟨_,_,rfl⟩
theorem Yz.next {C D:Nat}{w w':World}{v:Value}{xs:List Ru}(h:Yz C D w v xs)(k:Nx w w'):Yz C D w' v xs:=by
 obtain⟨vs,h1,h2,h3⟩:=h
 exact⟨vs,h1,Ju h2 k,λi hi=>(h3 i hi).next k⟩
theorem Xk.next {C:Nat}{w w':World}{v:Value}{xs:List Dp}(h:Xk C w v xs)(k:Nx w w'):Xk C w' v xs:=Ju h k
theorem rcells_snoc {xs:List Ru}{vs:List Value}(h:vs.length=xs.length)(x:Ru)(u:Value):Z8 (xs++[x]) (vs++[u])=Z8 xs vs++[.int .i64 x.rel,.bool x.only,u]:=by
 unfold Z8
 rw[List.zip_append h.symm,List.flatMap_append]
 rfl
theorem ruat_snoc {xs:List Ru}{x:Ru}{i:Nat}(h:i<xs.length):V0 (xs++[x]) i=V0 xs i:=by simp[V0,List.getD,List.getElem?_append_left h]
theorem ruat_end {xs:List Ru}{x:Ru}{i:Nat}(h:i=xs.length):V0 (xs++[x]) i=x:=by subst h;simp[V0,List.getD]
theorem Yz.snoc {C D:Nat}{w w':World}{v v' u:Value}{xs:List Ru}{x:Ru}{vs:List Value}(h0:vs.length=xs.length)(h1:w.ownsRow C 45 3 v xs.length (Z8 xs vs))(h2:∀i,i<xs.length->Q6 D w (vat vs i) (V0 xs i).seq)
  (hu:Q6 D w u x.seq) (ho:Obj) (hg:(w.alloc ho).grownBy w' v.ownBlock) (hn:w'.ownsRow C 45 3 v' (xs.length+1) (Z8 xs vs++[.int .i64 x.rel,.bool x.only,u])):Yz C D w' v' (xs++[x]):=by
 have kept:∀{z:Value}{zs:List Int},Q6 D w z zs->Q6 D w' z zs:=λ{z zs} hz=>World.ownsRow.kept (World.ownsRow.alloc hz ho) hg (own_ne hz h1 (by decide))
 refine⟨vs++[u],by simp[h0],by rw[List.length_append,rcells_snoc h0];exact hn,λi hi=>?_⟩
 rw[List.length_append,List.length_singleton] at hi
 by_cases e:i<xs.length
 ·rw[ruat_snoc e]
  have:vat (vs++[u]) i=vat vs i:=by simp[vat,List.getD,List.getElem?_append_left (show i<vs.length by omega)]
  rw[this]
  exact kept (h2 i e)
 ·have e':i=xs.length:=by omega
  rw[ruat_end e']
  have:vat (vs++[u]) i=u:=by rw[e',<-h0];simp[vat,List.getD]
  rw[this]
  exact kept hu
theorem dcells_snoc (xs:List Dp)(x:Dp):dcells (xs++[x])=dcells xs++[.int .i64 x.rel,.int .i64 x.reason]:=by simp[dcells]
theorem Xk.snoc {C:Nat}{w:World}{v:Value}{xs:List Dp}{x:Dp}(h:w.ownsRow C 43 2 v (xs.length+1) (dcells xs++[.int .i64 x.rel,.int .i64 x.reason])):Xk C w v (xs++[x]):=by
 unfold Xk
 rw[List.length_append,dcells_snoc]
 exact h
theorem flat3 {α:Type}(l:List α)(f:α->List Value)(hf:∀x,(f x).length=3)(i q:Nat)(hq:q<3)(x:α)(hx:l[i]?=some x):(l.flatMap f)[i*3+q]?=(f x)[q]?:=by
 induction l generalizing i with
 |nil=>simp at hx
 |cons a l ih=>
  cases i with
  |zero=>
   have:a=x:=by simpa using hx
   subst this
   rw[List.flatMap_cons,Nat.zero_mul,Nat.zero_add,List.getElem?_append_left (by rw[hf];exact hq)]
  |succ i=>
   rw[List.flatMap_cons,List.getElem?_append_right (by rw[hf];omega),hf,show(i+1)*3+q-3=i*3+q by omega]
   exact ih i (by simpa using hx)
theorem Yz.at {C D:Nat}{w:World}{a:Option Addr}{n c:Nat}{xs:List Ru}(h:Yz C D w (.slice a n c) xs){i:Nat}(hi:i<xs.length):∃g u,a=some ⟨g,0,none⟩/\w.cell? ⟨g,i*3,none⟩=some (.int .i64 (V0 xs i).rel)/\w.cell? ⟨g,i*3+1,none⟩=some (.bool (V0 xs i).only)/\w.cell? ⟨g,i*3+2,none⟩=some u/\Q6 D w u (V0 xs i).seq:=by
 obtain⟨vs,h0,h1,h2⟩:=h
 obtain⟨h3,h4⟩:=h1
 rcases h4 with⟨_,h4⟩|⟨g,cap,cur,e,hg,hh,hc,hm,hs,ht⟩
 ·omega
 ·simp only[Value.slice.injEq] at e
  have hz:(xs.zip vs)[i]?=some (V0 xs i,vat vs i):=by
   rw[List.getElem?_zip_eq_some]
   exact⟨by rw[ruat_eq hi];exact List.getElem?_eq_getElem hi,by simp[vat,List.getD,List.getElem?_eq_getElem (show i<vs.length by omega)]⟩
  have key:∀q,q<3->w.cell? ⟨g,i*3+q,none⟩=(rcell (V0 xs i,vat vs i))[q]?:=λq hq=>by
   have e1:(cur.toList.take (xs.length*3))[i*3+q]?=(Z8 xs vs)[i*3+q]?:=by rw[ht]
   rw[List.getElem?_take_of_lt (by omega),Array.getElem?_toList] at e1
   have e2:=flat3 (xs.zip vs) rcell (λ_=>rfl) i q hq _ hz
   unfold Z8 at e1
   rw[e2] at e1
   have hlt:i*3+q<cur.size:=by omega
   simp only[World.cell?,hh,e1]
   rfl
  exact⟨g,vat vs i,e.1,key 0 (by omega),key 1 (by omega),key 2 (by omega),h2 i hi⟩
end Go.Proofs.YthhbdfiopjclcaaGreatDoor
