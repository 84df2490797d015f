import Derived.Test.YtdpfdkihbgmapaaXAC
namespace Go.Proofs.Ytdpfdkihbgmapaa
open Go.RowKit
set_option linter.unusedVariables false
set_option maxRecDepth 1000000
set_option maxHeartbeats 16000000
theorem spell_cnt {A:Au}{s:Nat}:((spellK A s).2=true->(spellK A s).1.length=s)/\((spellK A s).2=false->(spellK A s).1.length<s):=by
 induction s with
 |zero=>exact⟨λ_=>rfl,λh=>by simp[spellK] at h⟩
 |succ s ih=>
  rw[spellK]
  split
  ·rename_i hc
   simp only[Bool.and_eq_true] at hc
   exact⟨λ_=>by rw[List.length_append,ih.1 hc.1];rfl,λh=>by simp at h⟩
  ·refine⟨λh=>by simp at h,λ_=>?_⟩
   show(spellK A s).1.length<s+1
   cases e:(spellK A s).2 with
   |true=>rw[ih.1 e];omega
   |false=>have:=ih.2 e;omega
theorem spell_asc {A:Au}{s:Nat}{ws:List (List Int)}(h:spellK A s=(ws,true)):AscW ws:=by
 induction s generalizing ws with
 |zero=>
  rw[spellK] at h
  obtain⟨rfl,_⟩:=Prod.mk.inj h
  intro i j _ hj
  simp at hj
 |succ s ih=>
  rw[spellK] at h
  split at h
  ·rename_i hc
   simp only[Bool.and_eq_true] at hc
   have h1:=ih (ws:=(spellK A s).1) (by rw[<-hc.1])
   have hl:=spell_cnt.1 hc.1
   obtain⟨rfl,_⟩:=Prod.mk.inj h
   intro i j hij hj
   rw[List.length_append,List.length_singleton,hl] at hj
   by_cases e:j<s
   ·rw[wd_snoc (by omega),wd_snoc (by omega)]
    exact h1 i j hij (by omega)
   ·have ej:j=s:=by omega
    subst ej
    rw[wd_snoc (i:=i) (by omega),wd_end (i:=j) (by omega),if_neg (by omega)]
    have hb:=hc.2
    unfold okS okW at hb
    rw[if_neg (by omega)] at hb
    simp only[Bool.and_eq_true] at hb
    rcases Nat.lt_or_eq_of_le (show i<=j-1 by omega) with h2|h2
    ·exact bef_trans (h1 i (j-1) h2 (by omega)) hb.2.2
    ·rw[h2];exact hb.2.2
  ·obtain⟨_,h2⟩:=Prod.mk.inj h
   simp at h2
def lensOk (A:Au):Bool:=decide (1<=A.pa.length)&&(decide (A.pa.length<=2000)&&((A.la.length==A.pa.length)&&((A.fa.length==A.pa.length)&&((A.mu.length==A.pa.length)&&(A.bd.length==A.pa.length)))))
def sOkS (A:Au)(ws:List (List Int))(s:Nat):Bool:=s==0||(decide (-2<=iat A.mu s)&&(decide (iat A.mu s<4000)&&(iat A.fa s==lngW ws (wd ws s) 1 ((wd ws s).length+1-1))))
def validS (A:Au):Bool:=lensOk A&&((spellK A A.pa.length).2&&((iat A.fa 0==-1)&&((iat A.mu 0==-1)&&((!bat A.bd 0)&&allN A.pa.length (sOkS A (spellK A A.pa.length).1)))))
theorem sOk_one (A:Au)(ws:List (List Int)):allTo (sOkS A ws) 1:=λi hi=>by
 obtain rfl:i=0:=by omega
 rfl
theorem vs_len {A:Au}(h:lensOk A=false):false=validS A:=by simp[validS,h]
theorem specValidA_any (B:Nat)(v0 v1 v2 v3 v4:Value)(A:Au)(w:World)(h0:HA B w v0 v1 v2 v3 v4 A) :
  Calls Try.prog 6 #[.agg #[v0,v1,v2,v3,v4]] w λe w'=>e=.returned (.bool (validS A))/\Nx w w':=by
 have HH:Hid (HA B w v0 v1 v2 v3 v4 A):=h0
 obtain⟨⟨a0,c0,rfl,hn0,hk0⟩,⟨a1,c1,rfl,hn1,hk1⟩,⟨a2,c2,rfl,hn2,hk2⟩,⟨a3,c3,rfl,hn3,hk3⟩,⟨a4,c4,rfl,hn4,hk4⟩⟩:=h0
 unfold maxLen at hn0 hn1 hn2 hn3 hn4
 generalize hz0:A.pa.length=n0 at *
 have Z0:Hid (A.pa.length=n0):=hz0
 clear hz0
 generalize hz1:A.la.length=n1 at *
 have Z1:Hid (A.la.length=n1):=hz1
 clear hz1
 generalize hz2:A.fa.length=n2 at *
 have Z2:Hid (A.fa.length=n2):=hz2
 clear hz2
 generalize hz3:A.mu.length=n3 at *
 have Z3:Hid (A.mu.length=n3):=hz3
 clear hz3
 generalize hz4:A.bd.length=n4 at *
 have Z4:Hid (A.bd.length=n4):=hz4
 clear hz4
 by_cases e1:1<=n0
 case neg=>
  have d1:decide ((n0:Int)<1)=true:=by simp;omega
  have HF:Hid (false=validS A):=vs_len (by unfold lensOk;rw[Z0.out,Z1.out,Z2.out,Z3.out,Z4.out];simp;omega)
  go_enter Try.func6,Try.ntmps6
  go_wp2
  go_ret
  exact⟨ret_bool HF.out,box1 _ _⟩
 have d1:decide ((n0:Int)<1)=false:=by simp;omega
 by_cases e2:n0<=2000
 case neg=>
  have d2:decide (2000<(n0:Int))=true:=by simp;omega
  have HF:Hid (false=validS A):=vs_len (by unfold lensOk;rw[Z0.out,Z1.out,Z2.out,Z3.out,Z4.out];simp;omega)
  go_enter Try.func6,Try.ntmps6
  go_wp2
  go_ret
  exact⟨ret_bool HF.out,box1 _ _⟩
 have d2:decide (2000<(n0:Int))=false:=by simp;omega
 by_cases g1:n0=n1
 case neg=>
  have q1:((n1:Int) !=(n0:Int))=true:=by simp;omega
  have HF:Hid (false=validS A):=vs_len (by unfold lensOk;rw[Z0.out,Z1.out,Z2.out,Z3.out,Z4.out];simp;omega)
  go_enter Try.func6,Try.ntmps6
  go_wp2
  go_ret
  exact⟨ret_bool HF.out,box1 _ _⟩
 subst g1
 have q1:((n0:Int) !=(n0:Int))=false:=by simp
 by_cases g2:n0=n2
 case neg=>
  have q2:((n2:Int) !=(n0:Int))=true:=by simp;omega
  have HF:Hid (false=validS A):=vs_len (by unfold lensOk;rw[Z0.out,Z1.out,Z2.out,Z3.out,Z4.out];simp;omega)
  go_enter Try.func6,Try.ntmps6
  go_wp2
  go_ret
  exact⟨ret_bool HF.out,box1 _ _⟩
 subst g2
 have q2:((n0:Int) !=(n0:Int))=false:=by simp
 by_cases g3:n0=n3
 case neg=>
  have q3:((n3:Int) !=(n0:Int))=true:=by simp;omega
  have HF:Hid (false=validS A):=vs_len (by unfold lensOk;rw[Z0.out,Z1.out,Z2.out,Z3.out,Z4.out];simp;omega)
  go_enter Try.func6,Try.ntmps6
  go_wp2
  go_ret
  exact⟨ret_bool HF.out,box1 _ _⟩
 subst g3
 have q3:((n0:Int) !=(n0:Int))=false:=by simp
 by_cases g4:n0=n4
 case neg=>
  have q4:((n4:Int) !=(n0:Int))=true:=by simp;omega
  have HF:Hid (false=validS A):=vs_len (by unfold lensOk;rw[Z0.out,Z1.out,Z2.out,Z3.out,Z4.out];simp;omega)
  go_enter Try.func6,Try.ntmps6
  go_wp2
  go_ret
  exact⟨ret_bool HF.out,box1 _ _⟩
 subst g4
 have q4:((n0:Int) !=(n0:Int))=false:=by simp
 have HL:Hid (lensOk A=true):=by unfold Hid lensOk;rw[Z0.out,Z1.out,Z2.out,Z3.out,Z4.out];simp;omega
 have HVD:Hid (validS A=((spellK A n0).2&&((iat A.fa 0==-1)&&((iat A.mu 0==-1)&&((!bat A.bd 0)&&allN n0 (sOkS A (spellK A n0).1)))))):=by unfold Hid validS;rw[HL.out,Z0.out,Bool.true_and]
 go_enter Try.func6,Try.ntmps6
 go_wp2_with fail
 refine(l3Spell_any B _ _ _ _ _ A _ (by exact HH.out.next (box1 _ _)) (by rw[Z1.out,Z0.out]) (by rw[Z0.out];exact e2)).mono ?_
 rintro e w1 ⟨⟨vw,rfl,ho⟩,hx⟩
 rw[Z0.out] at ho
 have BA:=(Blk.new w #[.slice a0 n0 c0,.slice a1 n0 c1,.slice a2 n0 c2,.slice a3 n0 c3,.slice a4 n0 c4] 26 _ rfl).next hx
 have HX:Hid (Nx w w1):=(box1 _ _).trans hx
 obtain⟨aw,cw,hvw⟩:=ho.slice
 subst hvw
 have HOW:Hid (OwnW (w.heap.size+1) w1 (.slice aw (spellK A n0).1.length cw) (spellK A n0).1):=by unfold Hid;have:=ho;simpa using this
 have HBA:Hid (Blk w1 w.heap.size #[.slice a0 n0 c0,.slice a1 n0 c1,.slice a2 n0 c2,.slice a3 n0 c3,.slice a4 n0 c4]):=BA
 clear ho hx d1 d2 q1 q2 q3 q4
 have hcnt:=spell_cnt (A:=A) (s:=n0)
 have HSA:Hid (∀ws,spellK A n0=(ws,true)->AscW ws/\∀i,(wd ws i).length<=402):=λws h=>⟨spell_asc h,spell_len h⟩
 generalize hsp:spellK A n0=sp at *
 obtain⟨ws,ok⟩:=sp
 have HSP:Hid (spellK A n0=(ws,ok)):=hsp
 simp only at HOW HVD hcnt ⊢
 clear hsp
 cases ok
 ·have hwl:ws.length<n0:=hcnt.2 rfl
  generalize ws.length=nw0 at *
  have hwl':(nw0:Int)<n0:=by omega
  have HF:Hid (false=validS A):=by unfold Hid;rw[HVD.out];rfl
  go_wp2
  go_ret
  exact⟨ret_bool HF.out,HX.out⟩
 have hwl:ws.length=n0:=hcnt.1 rfl
 have HWL:Hid (ws.length=n0):=hwl
 rw[hwl] at HOW ⊢
 have HAS:Hid (AscW ws/\∀i,(wd ws i).length<=402):=HSA.out ws rfl
 clear hcnt HSA hwl
 obtain⟨b2,o2,ha2,_,hb2,hc2⟩:=hk2 (by omega)
 obtain⟨b3,o3,ha3,_,hb3,hc3⟩:=hk3 (by omega)
 obtain⟨b4,o4,ha4,_,hb4,hc4⟩:=hk4 (by omega)
 subst ha2 ha3 ha4
 have HC2:Hid (∀i,i<n0->w.cell? ⟨b2,o2+i,none⟩=some (.int .i64 (iat A.fa i))):=hc2
 have HC3:Hid (∀i,i<n0->w.cell? ⟨b3,o3+i,none⟩=some (.int .i64 (iat A.mu i))):=hc3
 have x2:=cell_next HX.out hb2 (HC2.out 0 (by omega))
 have x3:=cell_next HX.out hb3 (HC3.out 0 (by omega))
 have x4:=cell_next HX.out hb4 (hc4 0 (by omega))
 rw[Nat.add_zero] at x2 x3 x4
 have k2:=BA.cell (i:=2) rfl
 have k3:=BA.cell (i:=3) rfl
 have k4:=BA.cell (i:=4) rfl
 have hn00:(0:Int)<n0:=by omega
 clear hc2 hc3 hc4 hk0 hk1 hk2 hk3 hk4
 by_cases g1:iat A.fa 0=-1
 case neg=>
  have f1:(iat A.fa 0 !=-1)=true:=by simpa using g1
  have HF:Hid (false=validS A):=by unfold Hid;rw[HVD.out];simp[g1]
  clear g1
  go_wp2
  go_ret
  exact⟨ret_bool HF.out,HX.out⟩
 have f1:(iat A.fa 0 !=-1)=false:=by simpa using g1
 by_cases g2:iat A.mu 0=-1
 case neg=>
  have f2:(iat A.mu 0 !=-1)=true:=by simpa using g2
  have HF:Hid (false=validS A):=by unfold Hid;rw[HVD.out];simp[g2]
  clear g1 g2
  go_wp2
  go_ret
  exact⟨ret_bool HF.out,HX.out⟩
 have f2:(iat A.mu 0 !=-1)=false:=by simpa using g2
 cases g3:bat A.bd 0
 case true=>
  have HF:Hid (false=validS A):=by unfold Hid;rw[HVD.out];simp[g3]
  rw[g3] at x4
  clear g1 g2 g3
  go_wp2
  go_ret
  exact⟨ret_bool HF.out,HX.out⟩
 rw[g3] at x4
 have HVE:Hid (validS A=allN n0 (sOkS A ws)):=by unfold Hid;rw[HVD.out,g1,g2,g3];simp
 clear g1 g2 g3 HVD
 go_wp2
 clear x2 x3 x4 k2 k3 k4 f1 f2
 go_loopw [5] (λi wr=>∃k:Nat,1<=k/\k<=n0/\i=.int .i64 k/\Hid (allTo (sOkS A ws) k)/\Hid (Nx w1 wr)) (λi _=>n0-(intOf i).toNat)
 case atStart=>exact⟨1,Nat.le_refl _,e1,rfl,sOk_one A ws,Nx.refl _⟩
 obtain⟨k,hk1,hkn,rfl,HA',HN⟩:=hrel
 have HW:Hid (Nx w wr):=HX.out.trans HN.out
 by_cases hlt:k<n0
 ·have hlt':(k:Int)<n0:=by omega
  have BW:=HBA.out.next HN.out
  have x2:=cell_regrown (cell_next HW.out hb2 (HC2.out k hlt))
  have x3:=cell_regrown (cell_next HW.out hb3 (HC3.out k hlt))
  have k2:=cell_regrown (BW.cell (i:=2) rfl)
  have k3:=cell_regrown (BW.cell (i:=3) rfl)
  have HWO:Hid (OwnW (w.heap.size+1) wr (.slice aw n0 cw) ws):=HOW.out.next HN.out
  obtain⟨gw,ow,hav,hcw⟩:=HWO.out.held.at (by omega)
  subst hav
  obtain⟨vi,hv1,hv2,hv3⟩:=hcw k hlt
  have y0:=cell_regrown hv1
  have HOD:Hid (sOkS A ws k=(decide (-2<=iat A.mu k)&&(decide (iat A.mu k<4000)&&(iat A.fa k==lngW ws (wd ws k) 1 ((wd ws k).length+1-1))))):=by
   unfold Hid sOkS
   have:(k==0)=false:=by simp;omega
   rw[this,Bool.false_or]
  have CG:Hid (∀d os,Calls Try.prog 15 #[.slice (some ⟨gw,ow,none⟩) n0 cw,vi,.int .i64 1] (Sort.grow (redrawn wr d) os) λe w''=>e=.returned (.int .i64 (lngW ws (wd ws k) 1 ((wd ws k).length+1-1)))/\∃p:Regrown,w''=Sort.grow (redrawn wr p.d) p.os):=
   λd os=>Calls.regrown_of (l3Longest_any (w.heap.size+1) (w.heap.size+1) _ _ ws (wd ws k) 1 _ (HWO.out.held.next (below_regrown wr d os)) (hv2.next (below_regrown wr d os)) HAS.out.1 (by rw[HWL.out];omega) (by have:=HAS.out.2 k;omega) (by omega) hv3)
  have HFB:Hid (sOkS A ws k=false->false=validS A):=λh=>by rw[HVE.out,allN_no hlt h]
  clear hcw hv1 hv2 hv3 BW
  generalize lngW ws (wd ws k) 1 ((wd ws k).length+1-1)=lg at *
  by_cases g1:iat A.mu k < -2
  ·have f1:decide (iat A.mu k < -2)=true:=by simpa using g1
   have HF:Hid (false=validS A):=HFB.out (by rw[HOD.out];simp;omega)
   clear g1
   go_wp2
   refine wp_region_quiet_below (by kernel_rfl) (by kernel_rfl) ?_
   repeat (go_big_quiet_step (exact CG.out _ _))
   refine wpQuiet_nil ?_
   intro _ hw'
   obtain⟨⟨dq,osq⟩,hw''⟩:=hw'
   subst hw''
   have HB:Hid (Nx wr (Sort.grow (redrawn wr dq) osq)):=below_regrown wr dq osq
   go_wp2
   go_ret
   exact⟨ret_bool HF.out,HW.out.trans HB.out⟩
  have f1:decide (iat A.mu k < -2)=false:=by simpa using g1
  by_cases g2:4000<=iat A.mu k
  ·have f2:decide (4000<=iat A.mu k)=true:=by simpa using g2
   have HF:Hid (false=validS A):=HFB.out (by rw[HOD.out];simp;omega)
   clear g1 g2
   go_wp2
   refine wp_region_quiet_below (by kernel_rfl) (by kernel_rfl) ?_
   repeat (go_big_quiet_step (exact CG.out _ _))
   refine wpQuiet_nil ?_
   intro _ hw'
   obtain⟨⟨dq,osq⟩,hw''⟩:=hw'
   subst hw''
   have HB:Hid (Nx wr (Sort.grow (redrawn wr dq) osq)):=below_regrown wr dq osq
   go_wp2
   go_ret
   exact⟨ret_bool HF.out,HW.out.trans HB.out⟩
  have f2:decide (4000<=iat A.mu k)=false:=by simpa using g2
  by_cases g3:iat A.fa k=lg
  ·have f3:(iat A.fa k !=lg)=false:=by simpa using g3
   have HF:Hid (sOkS A ws k=true):=by unfold Hid;rw[HOD.out];simp;omega
   clear g1 g2 g3
   go_wp2
   refine wp_region_quiet_below (by kernel_rfl) (by kernel_rfl) ?_
   repeat (go_big_quiet_step (exact CG.out _ _))
   refine wpQuiet_nil ?_
   intro _ hw'
   obtain⟨⟨dq,osq⟩,hw''⟩:=hw'
   subst hw''
   have HB:Hid (Nx wr (Sort.grow (redrawn wr dq) osq)):=below_regrown wr dq osq
   go_wp2
   go_roundw
   case rel=>exact⟨k+1,by omega,by omega,by go_num,allTo_succ HA'.out HF.out,HN.out.trans HB.out⟩
   case measure=>simp[intOf];omega
  ·have f3:(iat A.fa k !=lg)=true:=by simpa using g3
   have HF:Hid (false=validS A):=HFB.out (by rw[HOD.out];simp;omega)
   clear g1 g2 g3
   go_wp2
   refine wp_region_quiet_below (by kernel_rfl) (by kernel_rfl) ?_
   repeat (go_big_quiet_step (exact CG.out _ _))
   refine wpQuiet_nil ?_
   intro _ hw'
   obtain⟨⟨dq,osq⟩,hw''⟩:=hw'
   subst hw''
   have HB:Hid (Nx wr (Sort.grow (redrawn wr dq) osq)):=below_regrown wr dq osq
   go_wp2
   go_ret
   exact⟨ret_bool HF.out,HW.out.trans HB.out⟩
 have ek:n0=k:=by omega
 subst ek
 have HF:Hid (true=validS A):=by unfold Hid;rw[HVE.out,allN_yes (Nat.le_refl _) HA'.out]
 clear HA' hlt hkn
 go_wp2
 go_ret
 exact⟨ret_bool HF.out,HW.out⟩
theorem lngW_bd {ws:List (List Int)}{x:List Int}(h0:0<=stW ws []){k f:Nat}(hf:k+f=x.length+1)(h1:1<=f):0<=lngW ws x k f/\lngW ws x k f<ws.length:=by
 induction f generalizing k with
 |zero=>omega
 |succ f ih=>
  rw[lngW]
  split
  ·rename_i h
   obtain⟨a,e,_,ha,_⟩:=findA_some h
   unfold stW
   rw[e]
   omega
  ·rename_i h
   by_cases e:f=0
   ·subst e
    have hk:k=x.length:=by omega
    rw[hk,List.drop_length] at h
    exact absurd h0 h
   ·exact ih (by omega) (by omega)
def lngE (ws:List (List Int))(s:Nat)(e:Int):Int:=lngW ws (wd ws s++[e]) 0 ((wd ws s++[e]).length+1-0)
def stepS (A:Au)(ws:List (List Int))(s e:Int):Int:=
 if s<0\/(ws.length:Int)<=s\/e<0\/4000<=e then -1
 else if bat A.bd s.toNat=true\/(iat A.mu s.toNat≠-1/\iat A.mu s.toNat≠e) then -1
 else if bat A.bd (lngE ws s.toNat e).toNat=true then -1 else lngE ws s.toNat e
structure WsOk (A:Au)(ws:List (List Int))(n:Nat):Prop where
 l:ws.length=n
 m:A.mu.length=n
 b:A.bd.length=n
 n:n<=2000
 asc:AscW ws
 len:∀i,(wd ws i).length<=402
 e:0<=stW ws []
theorem HInts.cellAt {B:Nat}{w w':World}{a:Option Addr}{n c:Nat}{xs:List Int}(h:HInts B w (.slice a n c) xs)(k:Nx w w'){i:Nat}(hi:i<n):∃b off,a=some ⟨b,off,none⟩/\w'.cell? ⟨b,off+i,none⟩=some (.int .i64 (iat xs i)):=by
 obtain⟨a',c',e,_,hk⟩:=h
 simp only[Value.slice.injEq] at e
 obtain⟨rfl,rfl,rfl⟩:=e
 obtain⟨b,off,ha,_,hb,hc⟩:=hk (by omega)
 exact⟨b,off,ha,cell_next k hb (hc i hi)⟩
theorem HBools.rowAt {B:Nat}{w:World}{a:Option Addr}{n c:Nat}{xs:List Bool}(h:HBools B w (.slice a n c) xs)(h0:0<n):∃b off,a=some ⟨b,off,none⟩/\b<w.heap.size/\∀i,i<n->w.cell? ⟨b,off+i,none⟩=some (.bool (bat xs i)):=by
 obtain⟨a',c',e,_,hk⟩:=h
 simp only[Value.slice.injEq] at e
 obtain⟨rfl,rfl,rfl⟩:=e
 obtain⟨b,off,ha,_,hb,hc⟩:=hk h0
 exact⟨b,off,ha,hb,hc⟩
theorem l3Step_any (B Bw:Nat)(v0 v1 v2:Value)(a3 a4 aw:Option Addr)(n c3 c4 cw:Nat)(A:Au)(ws:List (List Int))(s e:Int)(w:World)(h0:HA B w v0 v1 v2 (.slice a3 n c3) (.slice a4 n c4) A)(hw:HWords Bw w (.slice aw n cw) ws)(hW:WsOk A ws n) :
  Calls Try.prog 12 #[.agg #[v0,v1,v2,.slice a3 n c3,.slice a4 n c4],.slice aw n cw,.int .i64 s,.int .i64 e] w λr w'=>r=.returned (.int .i64 (stepS A ws s e))/\Nx w w':=by
 have HWD:Hid (HWords Bw w (.slice aw n cw) ws):=hw
 have HWS:Hid (WsOk A ws n):=hW
 have HD:Hid (stepS A ws s e=if s<0\/(n:Int)<=s\/e<0\/4000<=e then -1 else if bat A.bd s.toNat=true\/(iat A.mu s.toNat≠-1/\iat A.mu s.toNat≠e) then -1 else if bat A.bd (lngE ws s.toNat e).toNat=true then -1 else lngE ws s.toNat e):=by unfold Hid stepS;rw[hW.l]
 have hn:=hW.n
 have h3:=h0.h3
 have h4:=h0.h4
 clear h0 hW
 by_cases g1:s<0
 ·have f1:decide (s<0)=true:=by simpa using g1
  have HF:Hid (-1=stepS A ws s e):=by unfold Hid;rw[HD.out,if_pos (Or.inl g1)]
  clear g1
  go_enter Try.func12,Try.ntmps12
  go_wp2
  go_ret
  exact⟨ret_int HF.out,box1 _ _⟩
 have f1:decide (s<0)=false:=by simpa using g1
 by_cases g2:(n:Int)<=s
 ·have f2:decide ((n:Int)<=s)=true:=by simpa using g2
  have HF:Hid (-1=stepS A ws s e):=by unfold Hid;rw[HD.out,if_pos (Or.inr (Or.inl g2))]
  clear g1 g2
  go_enter Try.func12,Try.ntmps12
  go_wp2
  go_ret
  exact⟨ret_int HF.out,box1 _ _⟩
 have f2:decide ((n:Int)<=s)=false:=by simpa using g2
 by_cases g3:e<0
 ·have f3:decide (e<0)=true:=by simpa using g3
  have HF:Hid (-1=stepS A ws s e):=by unfold Hid;rw[HD.out,if_pos (Or.inr (Or.inr (Or.inl g3)))]
  clear g1 g2 g3
  go_enter Try.func12,Try.ntmps12
  go_wp2
  go_ret
  exact⟨ret_int HF.out,box1 _ _⟩
 have f3:decide (e<0)=false:=by simpa using g3
 by_cases g4:4000<=e
 ·have f4:decide (4000<=e)=true:=by simpa using g4
  have HF:Hid (-1=stepS A ws s e):=by unfold Hid;rw[HD.out,if_pos (Or.inr (Or.inr (Or.inr g4)))]
  clear g1 g2 g3 g4
  go_enter Try.func12,Try.ntmps12
  go_wp2
  go_ret
  exact⟨ret_int HF.out,box1 _ _⟩
 have f4:decide (4000<=e)=false:=by simpa using g4
 obtain⟨k,rfl⟩:∃k:Nat,s=(k:Int):=⟨s.toNat,by omega⟩
 have hkn:k<n:=by omega
 have hkn':(k:Int)<n:=by omega
 have HD2:Hid (stepS A ws k e=if bat A.bd k=true\/(iat A.mu k≠-1/\iat A.mu k≠e) then -1 else if bat A.bd (lngE ws k e).toNat=true then -1 else lngE ws k e):=by
  unfold Hid
  rw[HD.out,if_neg (by omega),Int.toNat_natCast]
 clear g1 g2 g3 g4 HD
 obtain⟨b3,o3,ha3,y3⟩:=h3.cellAt (Nx.refl w) hkn
 obtain⟨b4,o4,ha4,hb4,hc4⟩:=h4.rowAt (by omega)
 subst ha3 ha4
 have HC4:Hid (∀i,i<n->w.cell? ⟨b4,o4+i,none⟩=some (.bool (bat A.bd i))):=hc4
 have x3:=Lib.cell?_alloc_some (.cells #[v0,v1,v2,.slice (some ⟨b3,o3,none⟩) n c3,.slice (some ⟨b4,o4,none⟩) n c4] 26) y3
 have x4:=Lib.cell?_alloc_some (.cells #[v0,v1,v2,.slice (some ⟨b3,o3,none⟩) n c3,.slice (some ⟨b4,o4,none⟩) n c4] 26) (hc4 k hkn)
 clear hc4 h3 h4 y3
 cases g5:bat A.bd k
 case true=>
  have HF:Hid (-1=stepS A ws k e):=by unfold Hid;rw[HD2.out,if_pos (Or.inl g5)]
  rw[g5] at x4
  clear g5
  go_enter Try.func12,Try.ntmps12
  go_wp2
  go_ret
  exact⟨ret_int HF.out,box1 _ _⟩
 rw[g5] at x4
 by_cases g6:iat A.mu k=-1\/iat A.mu k=e
 case neg=>
  have f6:(iat A.mu k !=-1)=true:=by simp;omega
  have f7:(iat A.mu k !=e)=true:=by simp;omega
  have HF:Hid (-1=stepS A ws k e):=by unfold Hid;rw[HD2.out,if_pos (Or.inr (by omega))]
  clear g5 g6
  go_enter Try.func12,Try.ntmps12
  go_wp2
  go_ret
  exact⟨ret_int HF.out,box1 _ _⟩
 have HD3:Hid (stepS A ws k e=if bat A.bd (lngE ws k e).toNat=true then -1 else lngE ws k e):=by
  unfold Hid
  rw[HD2.out,if_neg (by rw[g5];simp;omega)]
 have HLB:Hid (0<=lngE ws k e/\lngE ws k e<n):=by
  have:=lngW_bd (ws:=ws) (x:=wd ws k++[e]) HWS.out.e (k:=0) (f:=(wd ws k++[e]).length+1-0) (by omega) (by omega)
  rw[HWS.out.l] at this
  exact this
 have HLD:Hid (lngE ws k e=lngW ws (wd ws k++[e]) 0 ((wd ws k++[e]).length+1-0)):=rfl
 have W0:Hid (∀o:Obj,Nx w (w.alloc o)):=λo=>box1 w o
 obtain⟨gw,ow,hav,hcw⟩:=HWD.out.at (by omega)
 subst hav
 obtain⟨vi,hv1,hv2,_⟩:=hcw k hkn
 have HV1:Hid (w.cell? ⟨gw,ow+k,none⟩=some vi):=hv1
 have HV2:Hid (HInts Bw w vi (wd ws k)):=hv2
 have z1:=Lib.cell?_alloc_some (.cells #[v0,v1,v2,.slice (some ⟨b3,o3,none⟩) n c3,.slice (some ⟨b4,o4,none⟩) n c4] 26) hv1
 have HBX:Hid (Blk (w.alloc (.cells #[v0,v1,v2,.slice (some ⟨b3,o3,none⟩) n c3,.slice (some ⟨b4,o4,none⟩) n c4] 26)) w.heap.size #[v0,v1,v2,.slice (some ⟨b3,o3,none⟩) n c3,.slice (some ⟨b4,o4,none⟩) n c4]):=Blk.new w _ 26 _ rfl
 clear hcw hv1 hv2 HD2 g5
 have ht:∃t1 t2:Bool,(iat A.mu k !=-1)=t1/\(iat A.mu k !=e)=t2/\(t1&&t2)=false:=⟨_,_,rfl,rfl,by simp;omega⟩
 obtain⟨t1,t2,f6,f7,f8⟩:=ht
 clear g6
 go_enter Try.func12,Try.ntmps12
 cases t1
 ·go_wp2_with fail
  refine(l2Plus_any Bw (w.heap.size+1) _ _ (wd ws k) [e] _ (by exact HV2.out.next (box2 _ _ _)) (by exact(ownI_two w _ e).held) (by have:=HWS.out.len k;omega) (by simp)).mono ?_
  rintro r w1 ⟨⟨u,rfl,hu⟩,hx⟩
  have HN1:Hid (Nx w w1):=(box2 _ _ _).trans hx
  have HB1:=(HBX.out.alloc (.cells #[.int .i64 e] 2)).next hx
  have HU1:Hid (OwnI (w.heap.size+2) w1 u (wd ws k++[e])):=by unfold Hid;simpa using hu
  clear hx hu x3 x4 z1
  go_wp2_with fail
  refine(l3Longest_any Bw (w.heap.size+2) _ _ ws (wd ws k++[e]) 0 _ (by exact HWD.out.next HN1.out) (by exact HU1.out.held) HWS.out.asc (by rw[HWS.out.l];omega) (by have:=HWS.out.len k;simp;omega) (by omega) HU1.out.capOk).mono ?_
  rintro r w2 ⟨rfl,hx⟩
  rw[<-HLD.out]
  obtain⟨z,hz⟩:∃z:Nat,lngE ws k e=(z:Int):=⟨(lngE ws k e).toNat,by have:=HLB.out.1;omega⟩
  have hzn:z<n:=by have:=HLB.out.2;omega
  have hzn':(z:Int)<n:=by omega
  have HN2:Hid (Nx w w2):=HN1.out.trans hx
  have HB2:=HB1.next hx
  have k4:=HB2.cell (i:=4) rfl
  have x4:=cell_next HN2.out hb4 (HC4.out z hzn)
  rw[hz] at HD3 ⊢
  rw[Int.toNat_natCast] at HD3
  clear hx hz HB1 HB2
  cases g9:bat A.bd z
  ·have HF:Hid ((z:Int)=stepS A ws k e):=by unfold Hid;rw[HD3.out,if_neg (by rw[g9];simp)]
   rw[g9] at x4
   clear g9
   go_wp2
   go_ret
   exact⟨ret_int HF.out,HN2.out⟩
  ·have HF:Hid (-1=stepS A ws k e):=by unfold Hid;rw[HD3.out,if_pos g9]
   rw[g9] at x4
   clear g9
   go_wp2
   go_ret
   exact⟨ret_int HF.out,HN2.out⟩
 ·cases t2
  ·go_wp2_with fail
   refine(l2Plus_any Bw (w.heap.size+1) _ _ (wd ws k) [e] _ (by exact HV2.out.next (box2 _ _ _)) (by exact(ownI_two w _ e).held) (by have:=HWS.out.len k;omega) (by simp)).mono ?_
   rintro r w1 ⟨⟨u,rfl,hu⟩,hx⟩
   have HN1:Hid (Nx w w1):=(box2 _ _ _).trans hx
   have HB1:=(HBX.out.alloc (.cells #[.int .i64 e] 2)).next hx
   have HU1:Hid (OwnI (w.heap.size+2) w1 u (wd ws k++[e])):=by unfold Hid;simpa using hu
   clear hx hu x3 x4 z1
   go_wp2_with fail
   refine(l3Longest_any Bw (w.heap.size+2) _ _ ws (wd ws k++[e]) 0 _ (by exact HWD.out.next HN1.out) (by exact HU1.out.held) HWS.out.asc (by rw[HWS.out.l];omega) (by have:=HWS.out.len k;simp;omega) (by omega) HU1.out.capOk).mono ?_
   rintro r w2 ⟨rfl,hx⟩
   rw[<-HLD.out]
   obtain⟨z,hz⟩:∃z:Nat,lngE ws k e=(z:Int):=⟨(lngE ws k e).toNat,by have:=HLB.out.1;omega⟩
   have hzn:z<n:=by have:=HLB.out.2;omega
   have hzn':(z:Int)<n:=by omega
   have HN2:Hid (Nx w w2):=HN1.out.trans hx
   have HB2:=HB1.next hx
   have k4:=HB2.cell (i:=4) rfl
   have x4:=cell_next HN2.out hb4 (HC4.out z hzn)
   rw[hz] at HD3 ⊢
   rw[Int.toNat_natCast] at HD3
   clear hx hz HB1 HB2
   cases g9:bat A.bd z
   ·have HF:Hid ((z:Int)=stepS A ws k e):=by unfold Hid;rw[HD3.out,if_neg (by rw[g9];simp)]
    rw[g9] at x4
    clear g9
    go_wp2
    go_ret
    exact⟨ret_int HF.out,HN2.out⟩
   ·have HF:Hid (-1=stepS A ws k e):=by unfold Hid;rw[HD3.out,if_pos g9]
    rw[g9] at x4
    clear g9
    go_wp2
    go_ret
    exact⟨ret_int HF.out,HN2.out⟩
  ·simp at f8
def wsA (A:Au):List (List Int):=(spellK A A.pa.length).1
theorem spell_zero {A:Au}{s:Nat}{ws:List (List Int)}(h:spellK A (s+1)=(ws,true)):wd ws 0=[]:=by
 induction s generalizing ws with
 |zero=>
  rw[spellK] at h
  split at h
  ·obtain⟨rfl,_⟩:=Prod.mk.inj h
   rfl
  ·obtain⟨_,h2⟩:=Prod.mk.inj h
   simp at h2
 |succ s ih=>
  rw[spellK] at h
  split at h
  ·rename_i hc
   simp only[Bool.and_eq_true] at hc
   have h1:=ih (ws:=(spellK A (s+1)).1) (by rw[<-hc.1])
   have hl:=spell_cnt.1 hc.1
   obtain⟨rfl,_⟩:=Prod.mk.inj h
   rw[wd_snoc (by omega)]
   exact h1
  ·obtain⟨_,h2⟩:=Prod.mk.inj h
   simp at h2
theorem ws_of {A:Au}(h:validS A=true):WsOk A (wsA A) A.pa.length/\A.la.length=A.pa.length/\A.fa.length=A.pa.length/\1<=A.pa.length:=by
 unfold validS at h
 simp only[Bool.and_eq_true] at h
 obtain⟨h1,h2,h3,h4,h5,h6⟩:=h
 unfold lensOk at h1
 simp only[Bool.and_eq_true,decide_eq_true_eq,beq_iff_eq] at h1
 obtain⟨q1,q2,q3,q4,q5,q6⟩:=h1
 have hs:spellK A A.pa.length=(wsA A,true):=by rw[<-h2];rfl
 have hl:(wsA A).length=A.pa.length:=spell_cnt.1 h2
 obtain⟨m,hm⟩:∃m,A.pa.length=m+1:=⟨A.pa.length-1,by omega⟩
 have hz:wd (wsA A) 0=[]:=by rw[hm] at hs;exact spell_zero hs
 refine⟨⟨hl,q5,q6,q2,spell_asc hs,spell_len hs,?_⟩,q3,q4,q1⟩
 have:stW (wsA A) []=((0:Nat):Int):=findA_one (Nat.le_refl _) (by omega) (by rw[hz];rfl) (λb _ hb=>absurd hb (Nat.not_lt_zero _))
 rw[this]
 omega
theorem lngW_ge (ws:List (List Int))(x:List Int)(k f:Nat):-1<=lngW ws x k f:=by
 induction f generalizing k with
 |zero=>rw[lngW];omega
 |succ f ih=>
  rw[lngW]
  split
  ·omega
  ·exact ih _
theorem stepS_ge (A:Au)(ws:List (List Int))(s e:Int):-1<=stepS A ws s e:=by
 unfold stepS
 split
 ·omega
 ·split
  ·omega
  ·split
   ·omega
   ·exact lngW_ge _ _ _ _
def runK (A:Au)(ws:List (List Int))(P:List Int):Nat->Int
 |0=>0
 |k+1=>if runK A ws P k<0 then -1 else stepS A ws (runK A ws P k) (iat P k)
theorem runK_neg {A:Au}{ws:List (List Int)}{P:List Int}{k d:Nat}(h:runK A ws P (k+1)<0):runK A ws P (k+1+d)=-1:=by
 induction d with
 |zero=>
  have:-1<=runK A ws P (k+1):=by
   rw[runK]
   split
   ·omega
   ·exact stepS_ge _ _ _ _
  rw[Nat.add_zero]
  omega
 |succ d ih=>rw[<-Nat.add_assoc,runK,ih,if_pos (by omega)]
def runA (A:Au)(P:List Int):Int:=if validS A=true/\P.length<=10000 then runK A (wsA A) P P.length else -1
def RowToB (w:World)(g n k:Nat)(zs:List Bool):Prop:=∃f,w.rowIs g 4 n f/\∀i,i<k->f i=.bool (bat zs i)
theorem RowToB.set {w:World}{g n k:Nat}{zs:List Bool}(h:RowToB w g n k zs):RowToB (w.setCell ⟨g,k,none⟩ (.bool (bat zs k))) g n (k+1) zs:=by
 obtain⟨f,h1,h2⟩:=h
 refine⟨_,h1.set k _,λi hi=>?_⟩
 by_cases e:i=k
 ·subst e;simp
 ·simp[e];exact h2 i (by omega)
theorem RowToB.held {w:World}{g n:Nat}{zs:List Bool}(hn:zs.length=n)(hm:n<=maxLen)(h:RowToB w g n n zs):HBools g w (.slice (some ⟨g,0,none⟩) n n) zs:=by
 obtain⟨f,h1,h2⟩:=h
 subst hn
 refine⟨_,_,rfl,hm,λh0=>⟨g,0,rfl,Nat.le_refl _,h1.lt,λi hi=>?_⟩⟩
 show w.cell? ⟨g,0+i,none⟩=_
 rw[Nat.zero_add,h1.cell hi,h2 i hi]
theorem HBools.store {B:Nat}{w:World}{v:Value}{zs:List Bool}(h:HBools B w v zs){g o:Nat}(hg:g<B)(u:Value):HBools B (w.setCell ⟨g,o,none⟩ u) v zs:=h.keep (set_keeps _ _ hg _)
structure SmallA (A:Au):Prop where
 s0:A.pa.length<=1048576
 s1:A.la.length<=1048576
 s2:A.fa.length<=1048576
 s3:A.mu.length<=1048576
 s4:A.bd.length<=1048576
def wl (A:Au):Nat->List (List Int)
 |0=>[]
 |s+1=>wl A s++[if s=0 then [] else nw A (wl A s) s]
theorem wl_len (A:Au)(s:Nat):(wl A s).length=s:=by
 induction s with
 |zero=>rfl
 |succ s ih=>rw[wl,List.length_append,ih];rfl
def Wd (A:Au)(s:Nat):List Int:=if s=0 then [] else nw A (wl A s) s
theorem wl_wd {A:Au}{m s:Nat}(h:s<m):wd (wl A m) s=Wd A s:=by
 induction m with
 |zero=>omega
 |succ m ih=>
  rw[wl]
  by_cases e:s<m
  ·rw[wd_snoc (by rw[wl_len];exact e)]
   exact ih e
  ·have:s=m:=by omega
   subst this
   rw[wd_end (by rw[wl_len])]
   rfl
theorem Wd_zero (A:Au):Wd A 0=[]:=rfl
theorem okR_at {A:Au}{s:Nat}(h:okR A s=true):0<=iat A.pa s/\iat A.pa s<s/\0<=iat A.la s/\iat A.la s<4000:=by
 simp only[okR,Bool.and_eq_true,decide_eq_true_eq] at h
 omega
theorem Wd_step {A:Au}{s:Nat}(h:okR A s=true)(h0:1<=s):Wd A s=Wd A (iat A.pa s).toNat++[iat A.la s]:=by
 have:=okR_at h
 unfold Wd
 rw[if_neg (by omega)]
 unfold nw
 rw[wl_wd (by omega)]
 rfl
theorem spell_iff (A:Au)(s:Nat):(spellK A s).2=allN s (λt=>okS A (wl A t) t)/\((spellK A s).2=true->spellK A s=(wl A s,true)):=by
 induction s with
 |zero=>exact⟨rfl,λ_=>rfl⟩
 |succ s ih=>
  have ea:allN (s+1) (λt=>okS A (wl A t) t)=(allN s (λt=>okS A (wl A t) t)&&okS A (wl A s) s):=by
   unfold allN
   rw[List.range_succ,List.all_append]
   simp
  rw[ea,<-ih.1]
  cases hf:(spellK A s).2 with
  |false=>
   rw[spellK,hf]
   simp
  |true=>
   have hs:=ih.2 hf
   rw[spellK,hs]
   simp only[Bool.true_and]
   by_cases ho:okS A (wl A s) s=true
   ·rw[if_pos ho]
    exact⟨ho.symm,λ_=>rfl⟩
   ·rw[if_neg ho]
    exact⟨by simp at ho;rw[ho],λh=>by simp at h⟩
theorem lex_snoc {x y:List Int}(a b:Int)(h:x.length=y.length):lexB (x++[a]) (y++[b])=(lexB x y||(decide (x=y)&&decide (a<b))):=by
 induction x generalizing y with
 |nil=>
  match y,h with
  |[],_=>
   simp only[List.nil_append,lexB]
   by_cases e:a=b
   ·subst e;simp
   ·rw[if_neg e];simp
 |cons c x ih=>
  match y,h with
  |d::y,h=>
   simp only[List.cons_append,lexB]
   by_cases e:c=d
   ·subst e
    rw[if_pos rfl,if_pos rfl,ih (by simpa using h)]
    simp
   ·rw[if_neg e,if_neg e]
    simp[e]
theorem bef_snoc (x y:List Int)(a b:Int):befB (x++[a]) (y++[b])=(befB x y||(decide (x=y)&&decide (a<b))):=by
 unfold befB
 by_cases e:x.length=y.length
 ·rw[if_pos (by simp[e]),if_pos e]
  exact lex_snoc a b e
 ·have:x≠y:=λh=>e (by rw[h])
  rw[if_neg (by simp[e]),if_neg e]
  simp[this]
def pairAsc (A:Au)(s:Nat):Bool:=decide (iat A.pa (s-1)<iat A.pa s)||(decide (iat A.pa (s-1)=iat A.pa s)&&decide (iat A.la (s-1)<iat A.la s))
def AscTo (A:Au)(s:Nat):Prop:=∀i j,i<j->j<s->befB (Wd A i) (Wd A j)=true
theorem AscTo.ne {A:Au}{s i j:Nat}(h:AscTo A s)(hi:i<s)(hj:j<s):befB (Wd A i) (Wd A j)=decide (i<j)/\decide (Wd A i=Wd A j)=decide (i=j):=by
 rcases Nat.lt_trichotomy i j with e|rfl|e
 ·have hb:=h i j e hj
  refine⟨by rw[hb];simp[e],?_⟩
  have:Wd A i≠Wd A j:=λh'=>by rw[h',bef_self] at hb;simp at hb
  simp[this]
  omega
 ·exact⟨by rw[bef_self];simp,by simp⟩
 ·have hb:=h j i e hi
  refine⟨?_,?_⟩
  ·cases e2:befB (Wd A i) (Wd A j) with
   |false=>symm;simp;omega
   |true=>
    have:=bef_trans hb e2
    rw[bef_self] at this
    simp at this
  ·have:Wd A i≠Wd A j:=λh'=>by rw[h',bef_self] at hb;simp at hb
   simp[this]
   omega
theorem bef_pair {A:Au}{s:Nat}(hr:iat A.pa 0=-1)(ho:∀t,1<=t->t<=s->okR A t=true)(ha:AscTo A s)(hs:1<=s):befB (Wd A (s-1)) (Wd A s)=pairAsc A s:=by
 have h1:=okR_at (ho s hs (Nat.le_refl _))
 rw[Wd_step (ho s hs (Nat.le_refl _)) hs]
 by_cases e:s=1
 ·subst e
  have hp:iat A.pa 1=0:=by omega
  have:pairAsc A 1=true:=by
   unfold pairAsc
   simp only[Nat.sub_self]
   rw[hr,hp]
   rfl
  rw[this,Nat.sub_self,Wd_zero,hp]
  show befB [] ([]++[iat A.la 1])=true
  rfl
 ·have h2:=okR_at (ho (s-1) (by omega) (by omega))
  obtain⟨q1,q2⟩:=ha.ne (i:=(iat A.pa (s-1)).toNat) (j:=(iat A.pa s).toNat) (by omega) (by omega)
  rw[Wd_step (ho (s-1) (by omega) (by omega)) (by omega),bef_snoc,q1,q2]
  unfold pairAsc
  congr 1
  ·simp;omega
  ·congr 1
   simp
   omega
theorem asc_up {A:Au}{s:Nat}(ha:AscTo A s)(hb:1<=s->befB (Wd A (s-1)) (Wd A s)=true):AscTo A (s+1):=by
 intro i j hij hj
 by_cases e:j<s
 ·exact ha i j hij e
 ·have:j=s:=by omega
  subst this
  have h1:=hb (by omega)
  rcases Nat.lt_or_eq_of_le (show i<=j-1 by omega) with h2|h2
  ·exact bef_trans (ha i (j-1) h2 (by omega)) h1
  ·rw[h2];exact h1
def okI (A:Au)(s:Nat):Bool:=if s=0 then (iat A.pa 0==-1)&&(iat A.la 0==-1) else okR A s&&(decide ((Wd A s).length<=402)&&pairAsc A s)
theorem spell_okI {A:Au}(s:Nat):allN s (λt=>okS A (wl A t) t)=allN s (okI A)/\(allN s (okI A)=true->AscTo A s):=by
 induction s with
 |zero=>exact⟨rfl,λ_ i j h1 h2=>absurd h2 (Nat.not_lt_zero _)⟩
 |succ s ih=>
  have e1:∀p:Nat->Bool,allN (s+1) p=(allN s p&&p s):=λp=>by
   unfold allN
   rw[List.range_succ,List.all_append]
   simp
  rw[e1,e1,ih.1]
  cases hf:allN s (okI A) with
  |false=>exact⟨rfl,λh=>by simp at h⟩
  |true=>
   have hasc:=ih.2 hf
   simp only[Bool.true_and]
   have ho:∀t,1<=t->t<s->okR A t=true:=λt h1 h2=>by
    have:=List.all_eq_true.1 hf t (List.mem_range.2 h2)
    unfold okI at this
    rw[if_neg (by omega)] at this
    simp only[Bool.and_eq_true] at this
    exact this.1
   have key:okS A (wl A s) s=okI A s:=by
    unfold okS okI
    by_cases e:s=0
    ·rw[if_pos e,if_pos e]
    ·rw[if_neg e,if_neg e]
     unfold okW
     have eW:nw A (wl A s) s=Wd A s:=by unfold Wd;rw[if_neg e]
     rw[eW,wl_wd (by omega)]
     cases hr:okR A s with
     |false=>rfl
     |true=>
      have hz:iat A.pa 0=-1:=by
       have:=List.all_eq_true.1 hf 0 (List.mem_range.2 (by omega))
       unfold okI at this
       rw[if_pos rfl] at this
       simp only[Bool.and_eq_true,beq_iff_eq] at this
       exact this.1
      rw[bef_pair hz (λt h1 h2=>by rcases Nat.lt_or_eq_of_le h2 with h3|rfl;exact ho t h1 h3;exact hr) hasc (by omega)]
   refine⟨key,λh=>asc_up hasc λh1=>?_⟩
   rw[<-key] at h
   unfold okS okW at h
   rw[if_neg (by omega)] at h
   simp only[Bool.and_eq_true] at h
   have h3:=h.2.2
   rw[wl_wd (by omega)] at h3
   unfold Wd
   rw[if_neg (show ¬s=0 by omega)]
   exact h3
structure Trie (A:Au)(n:Nat):Prop where
 pos:1<=n
 ok:∀t,1<=t->t<n->okR A t=true
 asc:AscTo A n
theorem Trie.inj {A:Au}{n i j:Nat}(h:Trie A n)(hi:i<n)(hj:j<n)(e:Wd A i=Wd A j):i=j:=by
 have:=(h.asc.ne hi hj).2
 rw[decide_eq_true (by exact e)] at this
 simpa using this.symm
theorem st_word {A:Au}{n s:Nat}(h:Trie A n)(hs:s<n):stW (wl A n) (Wd A s)=s:=by
 unfold stW
 rw[wl_len]
 refine findA_one (Nat.zero_le _) (by omega) ?_ λb _ hb=>?_
 ·rw[wl_wd hs];simp
 ·rw[wl_wd (by omega),decide_eq_false_iff_not]
  intro e
  have:=h.inj (by omega) hs e
  omega
theorem st_some {A:Au}{n:Nat}{x:List Int}(h:0<=stW (wl A n) x):∃s,s<n/\Wd A s=x/\stW (wl A n) x=s:=by
 unfold stW at h ⊢
 rw[wl_len] at h ⊢
 obtain⟨a,e,_,ha,hf⟩:=findA_some h
 refine⟨a,by omega,?_,e⟩
 rw[wl_wd (by omega)] at hf
 simpa using hf
theorem Wd_ne {A:Au}{n s:Nat}(h:Trie A n)(h1:1<=s)(hs:s<n):Wd A s≠[]:=by
 rw[Wd_step (h.ok s h1 hs) h1]
 simp
def IsCh (A:Au)(n s:Nat)(e:Int)(t:Nat):Prop:=1<=t/\t<n/\iat A.pa t=s/\iat A.la t=e
theorem IsCh.word {A:Au}{n s t:Nat}{e:Int}(h:Trie A n)(hc:IsCh A n s e t):Wd A t=Wd A s++[e]:=by
 rw[Wd_step (h.ok t hc.1 hc.2.1) hc.1,hc.2.2.1,hc.2.2.2,Int.toNat_natCast]
theorem ch_of {A:Au}{n s:Nat}{e:Int}(h:Trie A n)(hs:s<n)(hp:0<=stW (wl A n) (Wd A s++[e])):∃t,IsCh A n s e t/\stW (wl A n) (Wd A s++[e])=t:=by
 obtain⟨t,ht,hw,hst⟩:=st_some hp
 have h1:1<=t:=by
  rcases Nat.eq_zero_or_pos t with e0|e0
  ·subst e0
   rw[Wd_zero] at hw
   simp at hw
  ·exact e0
 have ho:=okR_at (h.ok t h1 ht)
 rw[Wd_step (h.ok t h1 ht) h1] at hw
 obtain⟨h2,h3⟩:=List.append_inj' hw rfl
 have:=h.inj (i:=(iat A.pa t).toNat) (j:=s) (by omega) hs h2
 exact⟨t,⟨h1,ht,by omega,by simpa using h3⟩,hst⟩
theorem pre_word {A:Au}{n:Nat}{x:List Int}{e:Int}(h:Trie A n)(hp:0<=stW (wl A n) (x++[e])):0<=stW (wl A n) x:=by
 obtain⟨t,ht,hw,_⟩:=st_some hp
 have h1:1<=t:=by
  rcases Nat.eq_zero_or_pos t with e0|e0
  ·subst e0
   rw[Wd_zero] at hw
   simp at hw
  ·exact e0
 have ho:=okR_at (h.ok t h1 ht)
 rw[Wd_step (h.ok t h1 ht) h1] at hw
 obtain⟨h2,_⟩:=List.append_inj' hw rfl
 rw[<-h2,st_word h (by omega)]
 omega
def LW (ws:List (List Int))(x:List Int)(k:Nat):Int:=lngW ws x k (x.length+1-k)
theorem LW_hit {ws:List (List Int)}{x:List Int}{k:Nat}(hk:k<=x.length)(h:0<=stW ws (x.drop k)):LW ws x k=stW ws (x.drop k):=by
 unfold LW
 rw[show x.length+1-k=(x.length-k)+1 by omega,lngW,if_pos h]
theorem LW_skip {ws:List (List Int)}{x:List Int}{k:Nat}(hk:k<=x.length)(h:¬0<=stW ws (x.drop k)):LW ws x k=LW ws x (k+1):=by
 unfold LW
 rw[show x.length+1-k=(x.length+1-(k+1))+1 by omega,lngW,if_neg h]
theorem lng_drop {ws:List (List Int)}(x:List Int)(j k f:Nat):lngW ws (x.drop j) k f=lngW ws x (j+k) f:=by
 induction f generalizing k with
 |zero=>rw[lngW,lngW]
 |succ f ih=>rw[lngW,lngW,List.drop_drop,ih,Nat.add_assoc]
theorem LW_drop {ws:List (List Int)}{x:List Int}{j:Nat}(hj:j<=x.length):LW ws (x.drop j) 0=LW ws x j:=by
 unfold LW
 rw[lng_drop,List.length_drop,Nat.add_zero]
 congr 1
 omega
theorem st_nil {A:Au}{n:Nat}(h:Trie A n):stW (wl A n) []=((0:Nat):Int):=by
 have:=st_word h (s:=0) h.pos
 rwa [Wd_zero] at this
theorem LW_end {A:Au}{n:Nat}(h:Trie A n)(x:List Int):LW (wl A n) x x.length=0:=by
 rw[LW_hit (Nat.le_refl _) (by rw[List.drop_length,st_nil h];omega),List.drop_length,st_nil h]
 rfl
theorem LW_state {A:Au}{n:Nat}(h:Trie A n)(x:List Int){k:Nat}(hk:k<=x.length):∃v j,v<n/\LW (wl A n) x k=v/\k<=j/\j<=x.length/\Wd A v=x.drop j:=by
 generalize hd:x.length-k=d
 induction d generalizing k with
 |zero=>
  have:k=x.length:=by omega
  subst this
  exact⟨0,x.length,h.pos,LW_end h x,Nat.le_refl _,Nat.le_refl _,by rw[List.drop_length];rfl⟩
 |succ d ih=>
  by_cases hp:0<=stW (wl A n) (x.drop k)
  ·obtain⟨s,hs,hw,hst⟩:=st_some hp
   exact⟨s,k,hs,by rw[LW_hit hk hp,hst],Nat.le_refl _,hk,hw⟩
  ·obtain⟨v,j,h1,h2,h3,h4,h5⟩:=ih (k:=k+1) (by omega) (by omega)
   exact⟨v,j,h1,by rw[LW_skip hk hp,h2],by omega,h4,h5⟩
theorem LW_shift {A:Au}{n:Nat}(h:Trie A n)(x:List Int)(e:Int){k v:Nat}(hk:k<=x.length)(hv:LW (wl A n) x k=v):LW (wl A n) (x++[e]) k=LW (wl A n) (Wd A v++[e]) 0:=by
 generalize hd:x.length-k=d
 induction d generalizing k with
 |zero=>
  have:k=x.length:=by omega
  subst this
  have hv0:v=0:=by rw[LW_end h x] at hv;omega
  subst hv0
  have:(x++[e]).drop x.length=[e]:=by simp
  rw[<-LW_drop (x:=x++[e]) (by simp),this]
  rfl
 |succ d ih=>
  by_cases hp:0<=stW (wl A n) (x.drop k)
  ·obtain⟨s,hs,hw,hst⟩:=st_some hp
   rw[LW_hit hk hp,hst] at hv
   have:s=v:=by omega
   subst this
   have:(x++[e]).drop k=x.drop k++[e]:=by rw[List.drop_append_of_le_length hk]
   rw[<-LW_drop (x:=x++[e]) (by simp;omega),this,hw]
  ·have hn:¬0<=stW (wl A n) ((x++[e]).drop k):=λhq=>hp (by rw[List.drop_append_of_le_length hk] at hq;exact pre_word h hq)
   rw[LW_skip (by simp;omega) hn]
   rw[LW_skip hk hp] at hv
   exact ih (by omega) hv (by omega)
def failOf (A:Au)(n s:Nat):Nat:=(LW (wl A n) (Wd A s) 1).toNat
theorem fail_spec {A:Au}{n s:Nat}(h:Trie A n)(h1:1<=s)(hs:s<n):LW (wl A n) (Wd A s) 1=(failOf A n s:Int)/\failOf A n s<s:=by
 have hne:=Wd_ne h h1 hs
 have hl:1<=(Wd A s).length:=List.length_pos_iff.2 hne
 obtain⟨v,j,hv,e,hj,hj2,hw⟩:=LW_state h (Wd A s) (k:=1) hl
 have ev:failOf A n s=v:=by unfold failOf;rw[e,Int.toNat_natCast]
 rw[ev]
 refine⟨e,?_⟩
 have hlen:(Wd A v).length<(Wd A s).length:=by rw[hw,List.length_drop];omega
 have hb:befB (Wd A v) (Wd A s)=true:=by
  unfold befB
  rw[if_neg (by omega)]
  simpa using hlen
 rw[(h.asc.ne hv hs).1] at hb
 simpa using hb
def goOf (A:Au)(n s:Nat)(e:Int):Nat:=(LW (wl A n) (Wd A s++[e]) 0).toNat
theorem go_lw {A:Au}{n s:Nat}(h:Trie A n)(hs:s<n)(e:Int):LW (wl A n) (Wd A s++[e]) 0=(goOf A n s e:Int)/\goOf A n s e<n:=by
 obtain⟨v,j,hv,e1,_⟩:=LW_state h (Wd A s++[e]) (k:=0) (Nat.zero_le _)
 have:goOf A n s e=v:=by unfold goOf;rw[e1,Int.toNat_natCast]
 rw[this]
 exact⟨e1,hv⟩
theorem go_child {A:Au}{n s t:Nat}{e:Int}(h:Trie A n)(hs:s<n)(hc:IsCh A n s e t):goOf A n s e=t:=by
 have hw:=hc.word h
 have hst:=st_word h hc.2.1
 rw[hw] at hst
 unfold goOf
 rw[LW_hit (Nat.zero_le _) (by rw[List.drop_zero,hst];omega),List.drop_zero,hst,Int.toNat_natCast]
theorem no_child {A:Au}{n s:Nat}{e:Int}(h:Trie A n)(hs:s<n)(hc:∀t,¬IsCh A n s e t):¬0<=stW (wl A n) (Wd A s++[e]):=λhp=>by
 obtain⟨t,ht,_⟩:=ch_of h hs hp
 exact hc t ht
theorem go_root {A:Au}{n:Nat}{e:Int}(h:Trie A n)(hc:∀t,¬IsCh A n 0 e t):goOf A n 0 e=0:=by
 have hn:=no_child h h.pos hc
 unfold goOf
 rw[LW_skip (Nat.zero_le _) (by rw[List.drop_zero];exact hn)]
 have:(Wd A 0++[e]).length=1:=rfl
 have h2:=LW_end h (Wd A 0++[e])
 rw[this] at h2
 rw[h2]
 rfl
theorem go_fall {A:Au}{n s:Nat}{e:Int}(h:Trie A n)(h1:1<=s)(hs:s<n)(hc:∀t,¬IsCh A n s e t):goOf A n s e=goOf A n (failOf A n s) e:=by
 have hn:=no_child h hs hc
 have hl:1<=(Wd A s).length:=List.length_pos_iff.2 (Wd_ne h h1 hs)
 unfold goOf
 rw[LW_skip (Nat.zero_le _) (by rw[List.drop_zero];exact hn),LW_shift h (Wd A s) e hl (fail_spec h h1 hs).1]
theorem fail_child {A:Au}{n s t:Nat}{e:Int}(h:Trie A n)(hs:s<n)(hc:IsCh A n s e t):failOf A n t=if s=0 then 0 else goOf A n (failOf A n s) e:=by
 have hw:=hc.word h
 by_cases e0:s=0
 ·subst e0
  rw[if_pos rfl]
  unfold failOf
  rw[hw]
  have:(Wd A 0++[e]).length=1:=rfl
  have h2:=LW_end h (Wd A 0++[e])
  rw[this] at h2
  rw[h2]
  rfl
 ·rw[if_neg e0]
  have hl:1<=(Wd A s).length:=List.length_pos_iff.2 (Wd_ne h (by omega) hs)
  show(LW (wl A n) (Wd A t) 1).toNat=_
  rw[hw,LW_shift h (Wd A s) e hl (fail_spec h (by omega) hs).1]
  rfl
theorem trie_of {A:Au}{n:Nat}(hn:1<=n)(h:allN n (okI A)=true):Trie A n:=by
 refine⟨hn,λt h1 h2=>?_,(spell_okI n).2 h⟩
 have:=List.all_eq_true.1 h t (List.mem_range.2 h2)
 unfold okI at this
 rw[if_neg (by omega)] at this
 simp only[Bool.and_eq_true] at this
 exact this.1
def muI (A:Au)(s:Nat):Bool:=if s=0 then (iat A.mu 0==-1)&&!bat A.bd 0 else decide (-2<=iat A.mu s)&&decide (iat A.mu s<4000)
def faI (A:Au)(n s:Nat):Bool:=iat A.fa s==(if s=0 then -1 else (failOf A n s:Int))
def validI (A:Au):Bool:=lensOk A&&(allN A.pa.length (okI A)&&(allN A.pa.length (muI A)&&allN A.pa.length (faI A A.pa.length)))
theorem allN_split {n:Nat}{p:Nat->Bool}(hn:1<=n):allN n p=(p 0&&allN n (λs=>s==0||p s)):=by
 unfold allN
 rw[Bool.eq_iff_iff,Bool.and_eq_true,List.all_eq_true,List.all_eq_true]
 constructor
 ·intro h
  exact⟨h 0 (List.mem_range.2 hn),λs hs=>by rw[h s hs];simp⟩
 ·rintro⟨h0,h⟩ s hs
  by_cases e:s=0
  ·rw[e];exact h0
  ·have:=h s hs
   simpa [e] using this
theorem allN_congr {n:Nat}{p q:Nat->Bool}(h:∀s,s<n->p s=q s):allN n p=allN n q:=by
 unfold allN
 rw[Bool.eq_iff_iff,List.all_eq_true,List.all_eq_true]
 constructor
 ·intro k s hs;rw[<-h s (List.mem_range.1 hs)];exact k s hs
 ·intro k s hs;rw[h s (List.mem_range.1 hs)];exact k s hs
theorem valid_same (A:Au):validS A=validI A:=by
 unfold validS validI
 cases hl:lensOk A with
 |false=>rfl
 |true=>
  simp only[Bool.true_and]
  have hn:1<=A.pa.length:=by
   unfold lensOk at hl
   simp only[Bool.and_eq_true,decide_eq_true_eq] at hl
   exact hl.1
  obtain⟨s1,s2⟩:=spell_iff A A.pa.length
  rw[(spell_okI A.pa.length).1] at s1
  cases ho:allN A.pa.length (okI A) with
  |false=>rw[s1,ho];rfl
  |true=>
   rw[ho] at s1
   rw[s2 s1]
   simp only[Bool.true_and]
   have T:=trie_of hn ho
   rw[allN_split (p:=muI A) hn,allN_split (p:=faI A A.pa.length) hn]
   have e1:allN A.pa.length (sOkS A (wl A A.pa.length))=(allN A.pa.length (λs=>s==0||muI A s)&&allN A.pa.length (λs=>s==0||faI A A.pa.length s)):=by
    rw[<-allN_and]
    refine allN_congr λs hs=>?_
    unfold sOkS muI faI
    by_cases e:s=0
    ·subst e;rfl
    ·have e':(s==0)=false:=by simpa using e
     rw[e',if_neg e,if_neg e]
     simp only[Bool.false_or]
     have:lngW (wl A A.pa.length) (wd (wl A A.pa.length) s) 1 ((wd (wl A A.pa.length) s).length+1-1)=(failOf A A.pa.length s:Int):=by
      rw[wl_wd hs]
      exact(fail_spec T (by omega) hs).1
     rw[this,Bool.and_assoc]
   rw[e1]
   have m0:muI A 0=((iat A.mu 0==-1)&&!bat A.bd 0):=rfl
   have f0:faI A A.pa.length 0=(iat A.fa 0==-1):=rfl
   rw[m0,f0]
   cases (iat A.fa 0==-1)<;>cases (iat A.mu 0==-1)<;>cases bat A.bd 0<;>simp
theorem ws_same {A:Au}(h:validS A=true):wsA A=wl A A.pa.length/\Trie A A.pa.length:=by
 have h1:=h
 rw[valid_same] at h1
 unfold validI at h1
 simp only[Bool.and_eq_true] at h1
 have hn:1<=A.pa.length:=(ws_of h).2.2.2
 obtain⟨s1,s2⟩:=spell_iff A A.pa.length
 rw[(spell_okI A.pa.length).1,h1.2.1] at s1
 refine⟨?_,trie_of hn h1.2.1⟩
 unfold wsA
 rw[s2 s1]
theorem lngE_go {A:Au}(h:validS A=true){s:Nat}(hs:s<A.pa.length)(e:Int):lngE (wsA A) s e=(goOf A A.pa.length s e:Int):=by
 obtain⟨e1,T⟩:=ws_same h
 unfold lngE
 rw[e1,wl_wd hs]
 exact(go_lw T hs e).1
def stepI (A:Au)(s:Nat)(e:Int):Int:=
 if e<0\/4000<=e then -1
 else if bat A.bd s=true\/(iat A.mu s≠-1/\iat A.mu s≠e) then -1
 else if bat A.bd (goOf A A.pa.length s e)=true then -1 else (goOf A A.pa.length s e:Int)
theorem step_same {A:Au}(h:validS A=true){s:Nat}(hs:s<A.pa.length)(e:Int):stepS A (wsA A) (s:Int) e=stepI A s e:=by
 have hl:=(ws_of h).1.l
 unfold stepS stepI
 rw[hl]
 by_cases g:e<0\/4000<=e
 ·rw[if_pos g,if_pos (by omega)]
 ·rw[if_neg g,if_neg (by omega),Int.toNat_natCast,lngE_go h hs,Int.toNat_natCast]
def noE (e:Int):Bool:=decide (e<0\/4000<=e)
theorem noEdge_any (e:Int)(w:World):Calls Try.prog 26 #[.int .i64 e] w λr w'=>r=.returned (.bool (noE e))/\w'=w:=by
 by_cases h1:e<0
 ·have f1:decide (e<0)=true:=by simpa using h1
  have HF:Hid (true=noE e):=by unfold Hid noE;simp;omega
  go_enter Try.func26,Try.ntmps26
  go_wp2
  go_ret
  exact⟨ret_bool HF.out,rfl⟩
 ·have f1:decide (e<0)=false:=by simpa using h1
  by_cases h2:4000<=e
  ·have f2:decide (4000<=e)=true:=by simpa using h2
   have HF:Hid (true=noE e):=by unfold Hid noE;simp;omega
   go_enter Try.func26,Try.ntmps26
   go_wp2
   go_ret
   exact⟨ret_bool HF.out,rfl⟩
  ·have f2:decide (4000<=e)=false:=by simpa using h2
   have HF:Hid (false=noE e):=by unfold Hid noE;simp;omega
   go_enter Try.func26,Try.ntmps26
   go_wp2
   go_ret
   exact⟨ret_bool HF.out,rfl⟩
def muB (m:Int):Bool:=decide (-2<=m)&&decide (m<4000)
theorem validMust_any (m:Int)(w:World):Calls Try.prog 36 #[.int .i64 m] w λr w'=>r=.returned (.bool (muB m))/\w'=w:=by
 by_cases h1:m=-1
 ·have f1:(m==-1)=true:=by simpa using h1
  have HF:Hid (true=muB m):=by unfold Hid muB;simp;omega
  clear h1
  go_enter Try.func36,Try.ntmps36
  go_wp2
  go_ret
  exact⟨ret_bool HF.out,rfl⟩
 ·have f1:(m==-1)=false:=by simpa using h1
  by_cases h2:m=-2
  ·have f2:(m==-2)=true:=by simpa using h2
   have HF:Hid (true=muB m):=by unfold Hid muB;simp;omega
   clear h1 h2
   go_enter Try.func36,Try.ntmps36
   go_wp2
   go_ret
   exact⟨ret_bool HF.out,rfl⟩
  ·have f2:(m==-2)=false:=by simpa using h2
   have HF:Hid ((!noE m)=muB m):=by unfold Hid muB noE;rw[Bool.eq_iff_iff];simp;omega
   clear h1 h2
   go_enter Try.func36,Try.ntmps36
   go_wp2_with (go_at_call 26;refine(noEdge_any _ _).mono ?_;rintro e w' ⟨rfl,rfl⟩)
   go_ret
   exact⟨ret_bool HF.out,rfl⟩
def vlAt (A:Au)(s:Nat):Bool:=if s=0 then (iat A.pa 0==-1)&&((iat A.la 0==-1)&&((iat A.mu 0==-1)&&!bat A.bd 0)) else okR A s&&(muB (iat A.mu s)&&pairAsc A s)
def vlI (A:Au):Bool:=lensOk A&&allN A.pa.length (vlAt A)
theorem vl_len {A:Au}(h:lensOk A=false):false=vlI A:=by simp[vlI,h]
theorem or_asc (p q a b:Int):decide (0<=orI (cmpI p q) (cmpI a b))=!(decide (p<q)||(decide (p=q)&&decide (a<b))):=by
 unfold orI cmpI
 rw[Bool.eq_iff_iff]
 by_cases h1:p<q
 ·simp[h1]
 ·by_cases h2:q<p
  ·simp[h1,h2];omega
  ·have:p=q:=by omega
   subst this
   by_cases h3:a<b
   ·simp[h3]
   ·by_cases h4:b<a<;>simp[h3,h4]
theorem vl_valid (A:Au):validI A=(vlI A&&(allN A.pa.length (λs=>decide ((Wd A s).length<=402))&&allN A.pa.length (faI A A.pa.length))):=by
 unfold validI vlI
 cases hl:lensOk A with
 |false=>rfl
 |true=>
  have hn:1<=A.pa.length:=by
   unfold lensOk at hl
   simp only[Bool.and_eq_true,decide_eq_true_eq] at hl
   exact hl.1
  simp only[Bool.true_and]
  have e1:(allN A.pa.length (okI A)&&(allN A.pa.length (muI A)&&allN A.pa.length (faI A A.pa.length)))=allN A.pa.length (λs=>okI A s&&(muI A s&&faI A A.pa.length s)):=by rw[allN_and,allN_and]
  have e2:(allN A.pa.length (vlAt A)&&(allN A.pa.length (λs=>decide ((Wd A s).length<=402))&&allN A.pa.length (faI A A.pa.length)))=allN A.pa.length (λs=>vlAt A s&&(decide ((Wd A s).length<=402)&&faI A A.pa.length s)):=by rw[allN_and,allN_and]
  rw[e1,e2]
  refine allN_congr λs hs=>?_
  generalize faI A A.pa.length s=f
  unfold okI muI vlAt muB
  by_cases e:s=0
  ·subst e
   simp only[if_true,Wd_zero]
   cases (iat A.pa 0==-1)<;>cases (iat A.la 0==-1)<;>cases (iat A.mu 0==-1)<;>cases bat A.bd 0<;>cases f<;>rfl
  ·simp only[if_neg e]
   cases okR A s<;>cases decide ((Wd A s).length<=402)<;>cases pairAsc A s<;>cases decide (-2<=iat A.mu s)<;>cases decide (iat A.mu s<4000)<;>cases f<;>rfl
end Go.Proofs.Ytdpfdkihbgmapaa
