import Derived.Test.YthhkjbfkgdlkmaaGreatDoorQU
namespace Go.Proofs.YthhkjbfkgdlkmaaGreatDoor
open Go.RowKit Go.Sort Go.Shelf
set_option linter.unusedVariables false
set_option maxRecDepth 1000000
set_option maxHeartbeats 16000000
section
variable {w0 w wx:World}{rb:Nat}{vN vW vR vT vL:Value}{u line:Int}{ns:List Int}{ws:List Wv}{rs:List Rv}{ts:List Tn}{ls:List Lv}{ir:List (Value×List Int)}
theorem RM.resN (h:RM w0 w rb vN vW vR vT u line vL ns ws rs ts ls ir){l:List Int}(r1:OwnI w0.heap.size wx vN l)(r2:Chg (λx=>some x=vN.ownBlock) w wx):RM w0 wx rb vN vW vR vT u line vL l ws rs ts ls ir:=by
 have hp:=List.pairwise_cons.1 h.ap
 exact⟨h.nxg h.n r2,h.bx.row h.n (by decide) r2,r1,row_apart h.wy h.n (by decide) r2,row_apart h.rl h.n (by decide) r2,row_apart h.tn h.n (by decide) r2,row_apart h.ln h.n (by decide) r2,λx hx=>row_apart (h.us x hx) h.n (by decide) r2,λr hr=>row_chg (h.ri r hr) r2 (λg hg e=>hp.1 r hr g (Eq.symm e) hg),List.pairwise_cons.2 ⟨λr hr g hg=>hp.1 r hr g hg,hp.2⟩⟩
theorem RM.resW (h:RM w0 w rb vN vW vR vT u line vL ns ws rs ts ls ir){l:List Wv}(r1:wx.ownsRow w0.heap.size 45 4 vW l.length (l.flatMap wvL))(r2:Chg (λx=>some x=vW.ownBlock) w wx):RM w0 wx rb vN vW vR vT u line vL ns l rs ts ls ir:=
 ⟨h.nxg h.wy r2,h.bx.row h.wy (by decide) r2,row_apart h.n h.wy (by decide) r2,r1,row_apart h.rl h.wy (by decide) r2,row_apart h.tn h.wy (by decide) r2,row_apart h.ln h.wy (by decide) r2,λx hx=>row_apart (h.us x hx) h.wy (by decide) r2,λr hr=>row_apart (h.ri r hr) h.wy (by decide) r2,h.ap⟩
theorem RM.resR (h:RM w0 w rb vN vW vR vT u line vL ns ws rs ts ls ir){l:List Rv}(r1:wx.ownsRow w0.heap.size 47 7 vR l.length (l.flatMap rvL))(r2:Chg (λx=>some x=vR.ownBlock) w wx):RM w0 wx rb vN vW vR vT u line vL ns ws l ts ls ir:=
 ⟨h.nxg h.rl r2,h.bx.row h.rl (by decide) r2,row_apart h.n h.rl (by decide) r2,row_apart h.wy h.rl (by decide) r2,r1,row_apart h.tn h.rl (by decide) r2,row_apart h.ln h.rl (by decide) r2,λx hx=>row_apart (h.us x hx) h.rl (by decide) r2,λr hr=>row_apart (h.ri r hr) h.rl (by decide) r2,h.ap⟩
theorem RM.resT (h:RM w0 w rb vN vW vR vT u line vL ns ws rs ts ls ir){l:List Tn}(r1:wx.ownsRow w0.heap.size 69 3 vT l.length (l.flatMap tcell))(r2:Chg (λx=>some x=vT.ownBlock) w wx):RM w0 wx rb vN vW vR vT u line vL ns ws rs l ls ir:=
 ⟨h.nxg h.tn r2,h.bx.row h.tn (by decide) r2,row_apart h.n h.tn (by decide) r2,row_apart h.wy h.tn (by decide) r2,row_apart h.rl h.tn (by decide) r2,r1,row_apart h.ln h.tn (by decide) r2,λx hx=>row_apart (h.us x hx) h.tn (by decide) r2,λr hr=>row_apart (h.ri r hr) h.tn (by decide) r2,h.ap⟩
end
def toWv (x:Wa):Wv:=(x.1,slv x.2.1,slv x.2.2)
def toRv (x:Ra):Rv:=(x.1,slv x.2)
theorem wa_of:∀l:List Wv,(∀x∈l,(∃a n c,x.2.1=.slice a n c)/\(∃a n c,x.2.2=.slice a n c))->∃m:List Wa,l=m.map toWv
 |[],_=>⟨[],rfl⟩
 |x::l,h=>by
  obtain⟨m,rfl⟩:=wa_of l (λy hy=>h y (List.mem_cons.2 (Or.inr hy)))
  obtain⟨⟨a,n,c,e1⟩,⟨a',n',c',e2⟩⟩:=h x (List.mem_cons.2 (Or.inl rfl))
  refine⟨(x.1,(a,n,c),(a',n',c'))::m,?_⟩
  have e:x=toWv (x.1,(a,n,c),(a',n',c')):=by
   obtain⟨y,v1,v2⟩:=x
   have e1':v1=.slice a n c:=e1
   have e2':v2=.slice a' n' c':=e2
   rw[e1',e2'];rfl
  rw[List.map_cons,<-e]
theorem ra_of:∀l:List Rv,(∀x∈l,∃a n c,x.2=.slice a n c)->∃m:List Ra,l=m.map toRv
 |[],_=>⟨[],rfl⟩
 |x::l,h=>by
  obtain⟨m,rfl⟩:=ra_of l (λy hy=>h y (List.mem_cons.2 (Or.inr hy)))
  obtain⟨a,n,c,e1⟩:=h x (List.mem_cons.2 (Or.inl rfl))
  refine⟨(x.1,(a,n,c))::m,?_⟩
  have e:x=toRv (x.1,(a,n,c)):=by
   obtain⟨y,v1⟩:=x
   have e1':v1=.slice a n c:=e1
   rw[e1'];rfl
  rw[List.map_cons,<-e]
theorem flat_wa (m:List Wa):(m.map toWv).flatMap wvL=m.flatMap encW:=by rw[List.flatMap_map];rfl
theorem flat_ra (m:List Ra):(m.map toRv).flatMap rvL=m.flatMap encR:=by rw[List.flatMap_map];rfl
theorem sortW_any (C:Nat)(v:Value)(l:List Wa)(w:World)(h:w.ownsRow C 45 4 v l.length (l.flatMap encW))(hl:l.length<4611686018427387904) :
  Calls Tryz.prog 60 #[v,.func (.func 61) #[] #[]] w λe w'=>e=.returned (.tuple #[])/\∃l':List Wa,l'.Perm l/\l'.Pairwise (λx y=>¬(λx y=>cmpI x.1.id y.1.id) y x<0)/\w'.ownsRow C 45 4 v l'.length (l'.flatMap encW)/\Chg (λx=>some x=v.ownBlock) w w':=by
 have hinh:Inhabited Wa:=⟨(zWy,(none,0,0),(none,0,0))⟩
 exact @sortF_any Wa hinh _ Tryz.sortW 4 (λw=>by
  show(isAgg 45).run Tryz.prog w=.ok true w
  simp[isAgg,run_underlying Tryz.underlying45]) (λw=>by
  have hi:(Tryz.prog.info? 45).map (·.size)=some 4:=by kernel_rfl
  obtain⟨i,h1,h2⟩:=Option.map_eq_some_iff.1 hi
  show(Go.sizeOf 45).run Tryz.prog w=.ok 4 w
  simp[Go.sizeOf,typeInfo,h1,h2]) encW (λ_=>rfl) (λx v hv=>by simp[encW,wayL,slv] at hv;rcases hv with rfl|rfl|rfl|rfl<;>rfl) (λx y=>cmpI x.1.id y.1.id) (swo_key (λx=>(x.1.id,0)) _ (λx y=>cmpI_key _ _)) 61 (enters_of Tryz.func61 (by kernel_rfl) rfl) (λx y W=>cmpWays_g _ _ _ _ _ _ _ _ W) C 45 v l w h hl
theorem sortR_any (C:Nat)(v:Value)(l:List Ra)(w:World)(h:w.ownsRow C 47 7 v l.length (l.flatMap encR))(hl:l.length<4611686018427387904) :
  Calls Tryz.prog 62 #[v,.func (.func 63) #[] #[]] w λe w'=>e=.returned (.tuple #[])/\∃l':List Ra,l'.Perm l/\l'.Pairwise (λx y=>¬(λx y=>cmpI x.1.id y.1.id) y x<0)/\w'.ownsRow C 47 7 v l'.length (l'.flatMap encR)/\Chg (λx=>some x=v.ownBlock) w w':=by
 have hinh:Inhabited Ra:=⟨(zRl,(none,0,0))⟩
 exact @sortF_any Ra hinh _ Tryz.sortR 7 (λw=>by
  show(isAgg 47).run Tryz.prog w=.ok true w
  simp[isAgg,run_underlying Tryz.underlying47]) (λw=>by
  have hi:(Tryz.prog.info? 47).map (·.size)=some 7:=by kernel_rfl
  obtain⟨i,h1,h2⟩:=Option.map_eq_some_iff.1 hi
  show(Go.sizeOf 47).run Tryz.prog w=.ok 7 w
  simp[Go.sizeOf,typeInfo,h1,h2]) encR (λ_=>rfl) (λx v hv=>by simp[encR,relL,slv] at hv;rcases hv with rfl|rfl|rfl|rfl|rfl|rfl|rfl<;>rfl) (λx y=>cmpI x.1.id y.1.id) (swo_key (λx=>(x.1.id,0)) _ (λx y=>cmpI_key _ _)) 63 (enters_of Tryz.func63 (by kernel_rfl) rfl) (λx y W=>cmpRels_g _ _ _ _ _ _ _ _ _ _ _ _ _ _ W) C 47 v l w h hl
theorem sortT_any (C:Nat)(v:Value)(l:List Tn)(w:World)(h:w.ownsRow C 69 3 v l.length (l.flatMap tcell))(hl:l.length<4611686018427387904) :
  Calls Tryz.prog 64 #[v,.func (.func 65) #[] #[]] w λe w'=>e=.returned (.tuple #[])/\∃l':List Tn,l'.Perm l/\l'.Pairwise (λx y=>¬(cmpT) y x<0)/\w'.ownsRow C 69 3 v l'.length (l'.flatMap tcell)/\Chg (λx=>some x=v.ownBlock) w w':=by
 have hinh:Inhabited Tn:=⟨⟨0,0,0⟩⟩
 exact @sortF_any Tn hinh _ Tryz.sortT 3 (λw=>by
  show(isAgg 69).run Tryz.prog w=.ok true w
  simp[isAgg,run_underlying Tryz.underlying69]) (λw=>by
  have hi:(Tryz.prog.info? 69).map (·.size)=some 3:=by kernel_rfl
  obtain⟨i,h1,h2⟩:=Option.map_eq_some_iff.1 hi
  show(Go.sizeOf 69).run Tryz.prog w=.ok 3 w
  simp[Go.sizeOf,typeInfo,h1,h2]) tcell (λ_=>rfl) (λx v hv=>by simp[tcell] at hv;rcases hv with rfl|rfl|rfl<;>rfl) (cmpT) (swo_key (λx=>(x.frm,x.to)) _ cmpT_key) 65 (enters_of Tryz.func65 (by kernel_rfl) rfl) (λx y W=>cmpTurns_g x y W) C 69 v l w h hl
def SortR (w0 w':World)(rb:Nat)(vN vW vR vT:Value)(u line:Int)(vL:Value)(ps:List Px)(ls:List Lv):Prop:=∃ns' ws' rs' ts',(ns'.Perm (ndO ps)/\ns'.Pairwise (λx y=>x<=y))/\(ws'.Perm (wyO ps)/\ws'.Pairwise (λx y=>0<=cmpI y.1.id x.1.id))/\(rs'.Perm (rlO ps)/\rs'.Pairwise (λx y=>0<=cmpI y.1.id x.1.id))/\(ts'.Perm (tnO ps)/\ts'.Pairwise (λx y=>0<=cmpT y x))/\RM w0 w' rb vN vW vR vT u line vL ns' ws' rs' ts' ls (irO ps)
theorem sortLists_any (w0:World)(rb:Nat)(vN vW vR vT:Value)(u line:Int)(vL:Value)(ps:List Px)(ls:List Lv)(w:World)(h:RM w0 w rb vN vW vR vT u line vL (ndO ps) (wyO ps) (rlO ps) (tnO ps) ls (irO ps))(hps:ps.length<=300000) :
  Calls Tryz.prog 32 #[.pointer (some ⟨rb,0,none⟩)] w λe w'=>e=.returned (.tuple #[])/\SortR w0 w' rb vN vW vR vT u line vL ps ls:=by
 have HR:=mkHid' h
 have HWL:Hid (∃m:List Wa,wyO ps=m.map toWv):=wa_of _ (λx hx=>by
  obtain⟨a,c,e⟩:=row_slice (h.ri _ (wy_ir hx).1)
  obtain⟨a',c',e'⟩:=row_slice (h.ri _ (wy_ir hx).2)
  exact⟨⟨_,_,_,e⟩,⟨_,_,_,e'⟩⟩)
 have HRL:Hid (∃m:List Ra,rlO ps=m.map toRv):=ra_of _ (λx hx=>by
  obtain⟨a,c,e⟩:=row_slice (h.ri _ (rl_ir hx))
  exact⟨_,_,_,e⟩)
 have l1:=ndO_le ps
 have l2:=wyO_le ps
 have l3:=rlO_le ps
 have l4:=tnO_le ps
 clear h
 have x0:w.cell? ⟨rb,0,none⟩=some vN:=HR.out.bx.blk.cell (i:=0) rfl
 obtain⟨a0,c0,e0⟩:=row_slice HR.out.n
 rw[e0] at x0
 go_enter Tryz.func32,Tryz.ntmps32
 go_wp2_with fail
 refine(sortI_any w0.heap.size _ (ndO ps) w (e0▸HR.out.n) (by omega)).mono ?_
 rintro e w1 ⟨rfl,ns',p1,s1,o1,q1⟩
 rw[<-e0] at o1 q1
 have HR1:=mkHid' (HR.out.resN o1 q1)
 have HP1:Hid (ns'.Perm (ndO ps)/\ns'.Pairwise (λx y=>x<=y)):=And.intro p1 (s1.imp (λh=>Int.not_lt.1 h))
 clear p1 s1 o1 q1 HR x0 e0
 have x1:w1.cell? ⟨rb,1,none⟩=some vW:=HR1.out.bx.blk.cell (i:=1) rfl
 obtain⟨a1,c1,e1⟩:=row_slice HR1.out.wy
 obtain⟨mW,hmW⟩:=HWL.out
 rw[hmW,List.length_map] at e1 l2
 have HMW:=mkHid' hmW
 clear hmW
 rw[e1] at x1
 go_wp2_with fail
 refine(sortW_any w0.heap.size _ mW w1 (by have h:=HR1.out.wy;rw[e1,HMW.out,List.length_map,flat_wa] at h;exact h) (by omega)).mono ?_
 rintro e w2 ⟨rfl,mW',p2,s2,o2,q2⟩
 rw[<-e1] at o2 q2
 have HR2:=mkHid' (HR1.out.resW (l:=mW'.map toWv) (by rw[List.length_map,flat_wa];exact o2) q2)
 have HP2:Hid ((mW'.map toWv).Perm (wyO ps)/\(mW'.map toWv).Pairwise (λx y=>0<=cmpI y.1.id x.1.id)):=⟨by rw[HMW.out];exact p2.map _,List.pairwise_map.2 (s2.imp (λh=>Int.not_lt.1 h))⟩
 clear p2 s2 o2 q2 HR1 x1 e1 HMW HWL
 have x2:w2.cell? ⟨rb,2,none⟩=some vR:=HR2.out.bx.blk.cell (i:=2) rfl
 obtain⟨a2,c2,e2⟩:=row_slice HR2.out.rl
 obtain⟨mR,hmR⟩:=HRL.out
 rw[hmR,List.length_map] at e2 l3
 have HMR:=mkHid' hmR
 clear hmR
 rw[e2] at x2
 go_wp2_with fail
 refine(sortR_any w0.heap.size _ mR w2 (by have h:=HR2.out.rl;rw[e2,HMR.out,List.length_map,flat_ra] at h;exact h) (by omega)).mono ?_
 rintro e w3 ⟨rfl,mR',p3,s3,o3,q3⟩
 rw[<-e2] at o3 q3
 have HR3:=mkHid' (HR2.out.resR (l:=mR'.map toRv) (by rw[List.length_map,flat_ra];exact o3) q3)
 have HP3:Hid ((mR'.map toRv).Perm (rlO ps)/\(mR'.map toRv).Pairwise (λx y=>0<=cmpI y.1.id x.1.id)):=⟨by rw[HMR.out];exact p3.map _,List.pairwise_map.2 (s3.imp (λh=>Int.not_lt.1 h))⟩
 clear p3 s3 o3 q3 HR2 x2 e2 HMR HRL
 have x3:w3.cell? ⟨rb,3,none⟩=some vT:=HR3.out.bx.blk.cell (i:=3) rfl
 obtain⟨a3,c3,e3⟩:=row_slice HR3.out.tn
 rw[e3] at x3
 go_wp2_with fail
 refine(sortT_any w0.heap.size _ (tnO ps) w3 (by have h:=HR3.out.tn;rw[e3] at h;exact h) (by omega)).mono ?_
 rintro e w4 ⟨rfl,ts',p4,s4,o4,q4⟩
 rw[<-e3] at o4 q4
 have HR4:=mkHid' (HR3.out.resT o4 q4)
 have HP4:Hid (ts'.Perm (tnO ps)/\ts'.Pairwise (λx y=>0<=cmpT y x)):=And.intro p4 (s4.imp (λh=>Int.not_lt.1 h))
 clear p4 s4 o4 q4 HR3 x3 e3
 go_wp2
 exact Great.bodyPost_end0 rfl rfl ⟨rfl,ns',mW'.map toWv,mR'.map toRv,ts',HP1.out,HP2.out,HP3.out,HP4.out,HR4.out⟩
theorem bytes_back (l:List UInt8):Lib.bytesOf (l.map λx:UInt8=>(x.toNat:Int))=l:=by
 unfold Lib.bytesOf
 rw[List.map_map]
 conv=>rhs;rw[<-List.map_id l]
 apply List.map_congr_left
 intro x _
 simp
theorem addA (b o i:Nat):(⟨b,o,none⟩:Addr).add i=⟨b,o+i,none⟩:=addS_at b o i
theorem add_zero_ (a:Addr):a.add 0=a:=by unfold Addr.add;simp
theorem split_lines (b o n c:Nat)(bs:List UInt8)(w:World)(hn:bs.length=n)(hc:∀i,i<n->w.cell? ⟨b,o+i,none⟩=some (.int .u8 (byteAt bs i)))(hb:b<w.heap.size)(hl:n<=300000)(hcap:n<=c)(hcm:c<=9223372036854775807)(g2:Nat)(x2:w.cell? ⟨g2,0,none⟩=some (.int .u8 10))(hG:Gl w) :
  Calls Tryz.prog 49 #[.slice (some ⟨b,o,none⟩) n c,.slice (some ⟨g2,0,none⟩) 1 1] w λe w'=>(∃g,e=.returned (.slice (some ⟨g,0,none⟩) (cutL bs 10).length (cutL bs 10).length)/\g<w'.heap.size/\∀i,i<(cutL bs 10).length->∃ai ci,w'.cell? ⟨g,i,none⟩=some (.slice ai (sat (cutL bs 10) i).size ci)/\HBm w'.heap.size w' ai (sat (cutL bs 10) i).data.toList)/\Nx w w':=by
 obtain⟨m,hm⟩:=hG
 have hxl:(bs.map λx:UInt8=>(x.toNat:Int)).length=n:=by rw[List.length_map,hn]
 have hS:=Any.bytes_Split Tryz.splitB ⟨b,o,none⟩ ⟨g2,0,none⟩ n c 1 1 (bs.map λx:UInt8=>(x.toNat:Int)) [10] m w hxl rfl (λx hx=>by
   obtain⟨y,-,rfl⟩:=List.mem_map.1 hx
   have:=y.toNat_lt
   omega) (λy hy=>by have e:y=10:=by simpa using hy
                     omega) (λi hi=>by
   rw[addA,hc i hi]
   have:byteAt bs i=(bs.map λx:UInt8=>(x.toNat:Int)).getD i 0:=by
    unfold byteAt
    simp[List.getD_eq_getElem?_getD,hn,hi]
   rw[this]) (λi hi=>by
   have e:i=0:=by omega
   subst e
   rw[add_zero_,x2];rfl) hcap (by omega) (by omega) hcm (by omega) hm
 refine hS.mono ?_
 rintro e w' ⟨rfl,q,rfl⟩
 rw[bytes_back]
 have e10:Lib.bytesOf [10]=[10]:=rfl
 rw[e10]
 have hsp:=split_sp 10 bs
 have hspec:=Lib.splitV_spec [10] 0 (by decide) (by decide) (Lib.count bs [10]) ⟨b,o,none⟩ c bs (by omega)
 have hlen:=Lib.splitV_length [10] 0 (Lib.count bs [10]) ⟨b,o,none⟩ c bs
 rw[hsp] at hspec hlen
 have hcl:(cutL bs 10).length=(sp 10 bs).length:=by rw[cutL_sp,List.length_map]
 have hcn:Lib.count bs [10]+1=(cutL bs 10).length:=by
  rw[hcl,<-hsp]
  have h:=Lib.splitB_all ⟨#[10]⟩ (by decide) 0 _ (stOf bs) rfl
  have d:=congrArg List.length (Lib.splitB_data ⟨#[10]⟩ 0 (Lib.countB (stOf bs) ⟨#[10]⟩) (stOf bs))
  rw[List.length_map,h] at d
  exact d
 rw[hcn]
 generalize Lib.splitV [10] 0 (Lib.count bs [10]) ⟨b,o,none⟩ c bs=vs at *
 have hx:Nx w ((w.alloc (.cells vs.toArray (Tryz.splitB_ren.t 22))).drewN q):=Nx.trans (box1 _ _) (show Nx (w.alloc (.cells vs.toArray (Tryz.splitB_ren.t 22))) ((w.alloc (.cells vs.toArray (Tryz.splitB_ren.t 22))).drewN q) from⟨rfl,rfl,rfl,Nat.le_refl _,λ_ _=>rfl⟩)
 have hg:((w.alloc (.cells vs.toArray (Tryz.splitB_ren.t 22))).drewN q).heap[w.heap.size]?=some (.cells vs.toArray (Tryz.splitB_ren.t 22)):=by
  show(w.heap.push _)[w.heap.size]?=_
  simp
 generalize (w.alloc (.cells vs.toArray (Tryz.splitB_ren.t 22))).drewN q=W at *
 refine⟨⟨w.heap.size,rfl,(Array.getElem?_eq_some_iff.1 hg).1,λi hi=>?_⟩,hx⟩
 have hiv:i<vs.length:=by rw[hlen,<-hcl];exact hi
 obtain⟨a',off,len,cp,ev,-,hol,hk,had⟩:=hspec i vs[i] (by simp[hiv])
 have hsi:sat (cutL bs 10) i=stOf ((bs.drop off).take len):=by
  rw[cutL_sp]
  unfold sat
  rw[List.getD_eq_getElem?_getD,List.getElem?_map,hk];rfl
 have hln:((bs.drop off).take len).length=len:=by rw[List.length_take,List.length_drop];omega
 rw[hsi,stOf_size,hln]
 refine⟨some a',cp,?_,λhp=>?_⟩
 ·have hg':W.heap[w.heap.size]?=some (.cells vs.toArray (Tryz.splitB_ren.t 22) (0,0)):=hg
  unfold World.cell?
  simp[hg',hiv,ev]
 ·have hp':0<len:=by
   have:(stOf ((bs.drop off).take len)).data.toList.length=len:=hln
   omega
  have e0:=had 0 hp'
  rw[add_zero_,Nat.add_zero,addA] at e0
  refine⟨b,o+off,by rw[e0],Nat.lt_of_lt_of_le hb hx.size,λj hj=>?_⟩
  have hj':j<len:=by
   have:(stOf ((bs.drop off).take len)).data.toList.length=len:=hln
   omega
  have hcj:=cellq hx (hc (off+j) (by omega))
  rw[Nat.add_assoc]
  have eb:byteAt (stOf ((bs.drop off).take len)).data.toList j=byteAt bs (off+j):=by
   show byteAt ((bs.drop off).take len) j=_
   unfold byteAt
   simp[List.getD_eq_getElem?_getD,hj',List.getElem?_drop]
  rw[eb];exact hcj
def restM (ls:List ByteArray):Pm:=match firstN ls.length (lnB ls) with
 |some i=>.error ((lnC ls i),(i:Int)+1)
 |none=>prsD (dsTo ls (ls.length-1))
def CutR (w w':World)(bs:List UInt8)(e:Ending):Prop:=
 (∃c l,prsM bs=.error (c,l)/\∃v,e=.returned (.tuple #[.slice none 0 0,v])/\FltR w w' c l v)\/(bs.length<=300000/\0<bs.length/\prsM bs=restM (cutL (bs.take (bs.length-1)) 10)/\∃v,e=.returned (.tuple #[v,.nilIface])/\LnR w'.heap.size w' v (cutL (bs.take (bs.length-1)) 10) ((cutL (bs.take (bs.length-1)) 10).length-1))
theorem cutText_any (B:Nat)(a:Option Addr)(n c:Nat)(bs:List UInt8)(w:World)(h:HBy B w (.slice a n c) bs)(hcap:n<=c)(hcm:c<=9223372036854775807)(hG:Gl w) :
  Calls Tryz.prog 29 #[.slice a n c] w λe w'=>CutR w w' bs e/\Nx w w':=by
 obtain⟨va,vc,e,hmx_,hk⟩:=h
 simp only[Value.slice.injEq] at e
 obtain⟨rfl,hbl,rfl⟩:=e
 have HBL:Hid (bs.length=n):=hbl.symm
 have HK:Hid (0<n->∃b off,a=some ⟨b,off,none⟩/\b<w.heap.size/\∀i,i<n->w.cell? ⟨b,off+i,none⟩=some (.int .u8 (byteAt bs i))):=λhp=>by
  obtain⟨b,off,e,-,h4,h5⟩:=hk (by omega)
  exact⟨b,off,e,h4,λi hi=>h5 i (by omega)⟩
 have HG:=mkHid' hG
 clear hbl hmx_ hk hG
 have HP0:Hid (prsM bs=if 300000<bs.length then .error (1,0) else if bs.length=0\/byteAt bs (bs.length-1)≠10 then .error (2,0) else prsL (cutL (bs.take (bs.length-1)) 10)):=rfl
 rw[HBL.out] at HP0
 by_cases h1:300000<n
 ·have h1':(300000:Int)<(n:Int):=by omega
  have HPF:Hid (prsM bs=.error (1,0)):=by unfold Hid;rw[HP0.out,if_pos h1]
  go_enter Tryz.func29,Tryz.ntmps29
  go_wp2
  go_ret2
  exact⟨Or.inl ⟨1,0,HPF.out,_,rfl,_,rfl,Nat.le_refl _,BT.new _ _ _ _ rfl⟩,box1 _ _⟩
 have h1':¬(300000:Int)<(n:Int):=by omega
 rw[if_neg h1] at HP0
 by_cases h2:n=0
 ·have HPF:Hid (prsM bs=.error (2,0)):=by unfold Hid;rw[HP0.out,if_pos (Or.inl h2)]
  subst h2
  go_enter Tryz.func29,Tryz.ntmps29
  go_wp2
  go_ret2
  exact⟨Or.inl ⟨2,0,HPF.out,_,rfl,_,rfl,Nat.le_refl _,BT.new _ _ _ _ rfl⟩,box1 _ _⟩
 obtain⟨m,hm⟩:∃m,n=m+1:=⟨n-1,by omega⟩
 have HM:Hid (n-1=m):=by unfold Hid;omega
 have hnm:m<n:=by omega
 have hnm':(m:Int)<(n:Int):=by omega
 have hns:(n:Int)-1=(m:Int):=by omega
 have hm0:¬(m:Int)<0:=by omega
 have hwm:IntKind.i64.wrap (m:Int)=(m:Int):=by rw[IntKind.wrap_i64];omega
 have hmc:m<=c:=by omega
 have hmc':(m:Int)<=(c:Int):=by omega
 clear hm
 rw[HM.out] at HP0
 obtain⟨b,off,ea,hb,hcell⟩:=HK.out (by omega)
 subst ea
 have xm:=hcell m hnm
 have HCL:=mkHid' hcell
 have HBW:=mkHid' hb
 clear hcell hb HK
 have hbr:=byteAt_in bs m
 generalize hzb:byteAt bs m=zb at *
 by_cases h3:zb=10
 case neg=>
  have HPF:Hid (prsM bs=.error (2,0)):=by unfold Hid;rw[HP0.out,if_pos (Or.inr h3)]
  have d3:(zb !=10)=true:=by simpa using h3
  have d3':(zb==10)=false:=by simpa using h3
  clear hzb
  go_enter Tryz.func29,Tryz.ntmps29
  go_wp2
  go_ret2
  exact⟨Or.inl ⟨2,0,HPF.out,_,rfl,_,rfl,Nat.le_refl _,BT.new _ _ _ _ rfl⟩,box1 _ _⟩
 have HP2:Hid (prsM bs=prsL (cutL (bs.take m) 10)):=by unfold Hid;rw[HP0.out,if_neg (by rintro(h|h);exact h2 h;exact h h3)]
 clear HP0 hzb
 subst h3
 have HTL:Hid ((bs.take m).length=m):=by unfold Hid;rw[List.length_take,HBL.out];omega
 have HBT:Hid (∀i,i<m->w.cell? ⟨b,off+i,none⟩=some (.int .u8 (byteAt (bs.take m) i))):=λi hi=>by
  have eb:byteAt (bs.take m) i=byteAt bs i:=by simp[byteAt,List.getD_eq_getElem?_getD,hi]
  rw[eb]
  exact HCL.out i (by omega)
 have HFN:Hid (bs.length<=300000/\0<bs.length/\bs.length-1=m):=by rw[HBL.out];exact⟨by omega,by omega,HM.out⟩
 have HXB:Hid (BT (w.alloc (.cells #[.int .u8 10] 5)) w.heap.size #[.int .u8 10] 5):=BT.new _ _ _ _ rfl
 have HX1:Hid (Nx w (w.alloc (.cells #[.int .u8 10] 5))):=box1 _ _
 go_enter Tryz.func29,Tryz.ntmps29
 go_wp2_with fail
 generalize w.alloc (.cells #[.int .u8 10] 5)=w1 at *
 refine(split_lines b off m c (bs.take m) w1 HTL.out (λi hi=>cellq HX1.out (HBT.out i hi)) (Nat.lt_of_lt_of_le HBW.out HX1.out.size) (by omega) hmc hcm w.heap.size (HXB.out.blk.cell (i:=0) rfl) (HG.out.next HX1.out)).mono ?_
 rintro e w2 ⟨⟨g,rfl,hgl,hrow⟩,hx⟩
 have HX2:=mkHid' (HX1.out.trans hx)
 have HRW:=mkHid' hrow
 have HGL:=mkHid' hgl
 have hcl:=cutL_len (bs.take m) 10
 clear hx hrow hgl HX1 HXB HBT HCL xm hbr HBW HTL
 have HFE:Hid (cutL (bs.take (bs.length-1)) 10=cutL (bs.take m) 10):=by unfold Hid;rw[HFN.out.2.2]
 generalize cutL (bs.take m) 10=ls at *
 obtain⟨nl,hnl⟩:∃q,ls.length=q:=⟨_,rfl⟩
 have HNL:Hid (ls.length=nl):=hnl
 rw[hnl] at HRW hcl ⊢
 clear hnl
 have hnl1:1<=nl:=hcl.1
 have hnl0:(0:Int)<(nl:Int):=by omega
 have hnl0':¬nl=0:=by omega
 have hnl1':(1:Int)<=(nl:Int):=by omega
 clear hcl
 obtain⟨a0,c0,y0,hb0⟩:=HRW.out 0 (by omega)
 have HCV:Hid ((convert 22 9 (.slice a0 (sat ls 0).size c0)).run Tryz.prog w2=.ok (.string (sat ls 0)) w2):=by
  by_cases hz:(sat ls 0).size=0
  ·have e0:sat ls 0=stOf []:=by
    generalize sat ls 0=s at *
    obtain⟨⟨l⟩⟩:=s
    have:l=[]:=List.length_eq_zero_iff.1 hz
    subst this;rfl
   unfold Hid
   rw[e0]
   exact conv_zero w2 a0 c0
  ·obtain⟨b',o',ea,-,hc'⟩:=hb0 (by simpa using Nat.pos_of_ne_zero hz)
   subst ea
   have h:=conv_at w2 b' o' (sat ls 0).size c0 (sat ls 0).data.toList (by simp) (λi hi=>hc' i (by simpa using hi))
   exact h
 have hcv:=HCV.out
 clear hb0 HCV
 by_cases h4:(sat ls 0).toList=[114,111,97,100,110,101,116,32,49]
 case neg=>
  have HPF:Hid (prsM bs=.error (3,1)):=by unfold Hid;rw[HP2.out];unfold prsL;rw[if_pos h4]
  have d4:((sat ls 0).toList==[114,111,97,100,110,101,116,32,49])=false:=by simpa using h4
  have d4':((sat ls 0).toList !=[114,111,97,100,110,101,116,32,49])=true:=by simpa using h4
  go_wp2
  go_ret2
  exact⟨Or.inl ⟨3,1,HPF.out,_,rfl,_,rfl,HX2.out.size,BT.new _ _ _ _ rfl⟩,HX2.out.trans (box1 _ _)⟩
 have HPR:Hid (prsM bs=restM ls):=by unfold Hid;rw[HP2.out];unfold prsL;rw[if_neg (by simpa using h4)];rfl
 have HLR:Hid (∀a',(1<nl->a'=some ⟨g,1,none⟩)->∀c',LnR w2.heap.size w2 (.slice a' (nl-1) c') ls (nl-1)):=λa' ha c'=>by
  refine⟨a',c',rfl,λhp=>⟨g,1,ha (by omega),HGL.out,λi hi=>?_⟩⟩
  obtain⟨ai,ci,y,hb⟩:=HRW.out (i+1) (by omega)
  exact⟨ai,ci,by rw[Nat.add_comm 1 i];exact y,hb⟩
 clear HP2
 by_cases h5:nl=1
 ·have h5':nl-1=0:=by omega
  have HLF:Hid (∀a' c',LnR w2.heap.size w2 (.slice a' 0 c') ls (ls.length-1)):=λa' c'=>by
   have h:=HLR.out a' (λh=>by omega) c'
   rw[h5'] at h
   rw[HNL.out,h5'];exact h
  clear HLR HRW
  subst h5
  go_wp2
  go_ret2
  exact⟨Or.inr ⟨HFN.out.1,HFN.out.2.1,by rw[HFE.out];exact HPR.out,_,rfl,by rw[HFE.out];exact HLF.out _ _⟩,HX2.out⟩
 ·have h5':¬nl=1:=h5
  have HLF:Hid (∀c',LnR w2.heap.size w2 (.slice (some ⟨g,1,none⟩) (nl-1) c') ls (ls.length-1)):=λc'=>by
   rw[HNL.out];exact HLR.out _ (λ_=>rfl) c'
  clear HLR HRW
  go_wp2
  go_ret2
  exact⟨Or.inr ⟨HFN.out.1,HFN.out.2.1,by rw[HFE.out];exact HPR.out,_,rfl,by rw[HFE.out];exact HLF.out _⟩,HX2.out⟩
theorem sp_sum (c:UInt8):∀l:List UInt8,((sp c l).map (λx=>x.length+1)).sum=l.length+1
 |[]=>rfl
 |b::l=>by
  have ih:=sp_sum c l
  rw[sp]
  split
  ·simp[ih];omega
  ·cases h:sp c l with
   |nil=>have:=sp_ne c l;rw[h] at this;cases this
   |cons x xs=>
    rw[h] at ih
    simp[extH] at ih ⊢
    omega
theorem cut_sum (bs:List UInt8)(c:UInt8):((cutL bs c).map (λs=>s.size+1)).sum=bs.length+1:=by
 rw[cutL_sp,List.map_map,<-sp_sum c bs]
 rfl
theorem sum_mono {α:Type}{f g:α->Nat}:∀l:List α,(∀x∈l,f x<=g x)->(l.map f).sum<=(l.map g).sum
 |[],_=>Nat.le_refl _
 |x::l,h=>by
  have h1:=sum_mono l (λy hy=>h y (List.mem_cons.2 (Or.inr hy)))
  have h2:=h x (List.mem_cons.2 (Or.inl rfl))
  simp only[List.map_cons,List.sum_cons]
  omega
theorem dsTo_tail (s:ByteArray)(tl:List ByteArray):dsTo (s::tl) tl.length=tl.map (λx=>rdS (fldS x)):=by
 apply List.ext_getElem?
 intro i
 unfold dsTo
 rw[List.getElem?_map,List.getElem?_map]
 by_cases h:i<tl.length
 ·rw[List.getElem?_range h,List.getElem?_eq_getElem h]
  have e:sat (s::tl) (i+1)=tl[i]:=by simp[sat,List.getD_eq_getElem?_getD,h]
  simp[e]
 ·rw[List.getElem?_eq_none (by simp;omega),List.getElem?_eq_none (by omega)]
  rfl
theorem wsum_snoc {xs:List Wy}{x:Wy}:∀k,k<=xs.length->wsum (xs++[x]) k=wsum xs k
 |0,_=>rfl
 |k+1,h=>by
  unfold wsum
  have e:wat (xs++[x]) k=wat xs k:=by simp[wat,List.getD_eq_getElem?_getD,List.getElem?_append_left (show k<xs.length by omega)]
  rw[e,wsum_snoc k (by omega)]
theorem wsum_ps (ps:List Px):wsum ((wyO ps).map (·.1)) (wyO ps).length<=(ps.map (λp=>p.d.way.weights.length)).sum:=by
 refine rev_ind (P:=λps=>wsum ((wyO ps).map (·.1)) (wyO ps).length<=(ps.map (λp=>p.d.way.weights.length)).sum) (Nat.le_refl _) (λps p ih=>?_) ps
 rw[wyO_snoc,List.map_append,List.map_append,List.sum_append,List.length_append]
 unfold wyP
 split
 ·rw[List.map_singleton,List.length_singleton,List.map_singleton]
  show wsum ((wyO ps).map (·.1)++[p.d.way]) (wyO ps).length+(wat ((wyO ps).map (·.1)++[p.d.way]) (wyO ps).length).weights.length<=_
  have e1:wat ((wyO ps).map (·.1)++[p.d.way]) (wyO ps).length=p.d.way:=by
   have:(wyO ps).length=((wyO ps).map (·.1)).length:=by simp
   rw[this]
   simp[wat,List.getD_eq_getElem?_getD]
  rw[e1,wsum_snoc _ (by simp)]
  simp
  omega
 ·simp
  omega
theorem rd_wn (f:List ByteArray)(h:(rdS f).kind≠2):(rdS f).way.weights=[]:=by
 unfold rdS at h ⊢
 split
 ·rfl
 rename_i h1
 rw[if_neg h1] at h
 split
 ·rename_i h2
  rw[if_pos h2] at h
  exact absurd rfl h
 split
 ·split<;>rfl
 split<;>rfl
theorem ds_wn {ps:List Px}{ls:List ByteArray}{n:Nat}(h:ps.map (·.d)=dsTo ls n):WnOk ps:=λp hp hk=>by
 have hm:p.d∈dsTo ls n:=by rw[<-h];exact List.mem_map.2 ⟨p,hp,rfl⟩
 unfold dsTo at hm
 obtain⟨i,-,e⟩:=List.mem_map.1 hm
 rw[<-e] at hk ⊢
 exact rd_wn _ hk
theorem ds_wsum {ps:List Px}{bs:List UInt8}(h:ps.map (·.d)=dsTo (cutL bs 10) ((cutL bs 10).length-1))(hl:bs.length<=300000):wsum (ntO ps).ways (ntO ps).ways.length<=1048576:=by
 have h1:=wsum_ps ps
 have h2:=cut_sum bs 10
 have h0:=(cutL_len bs 10).1
 generalize cutL bs 10=ls at *
 cases ls with
 |nil=>cases h0
 |cons s tl=>
  have e:(s::tl).length-1=tl.length:=by simp
  rw[e,dsTo_tail] at h
  have h3:(ps.map (λp=>p.d.way.weights.length)).sum=(tl.map (λx=>(rdS (fldS x)).way.weights.length)).sum:=by
   have:ps.map (λp=>p.d.way.weights.length)=(ps.map (·.d)).map (λd=>d.way.weights.length):=by rw[List.map_map];rfl
   rw[this,h,List.map_map];rfl
  have h4:=sum_mono (f:=λx=>(rdS (fldS x)).way.weights.length) (g:=λs:ByteArray=>s.size+1) tl (λx _=>Nat.le_trans (rdS_wt _) (fld_len x))
  simp only[List.map_cons,List.sum_cons] at h2
  show wsum ((wyO ps).map (·.1)) ((wyO ps).map (·.1)).length<=_
  rw[List.length_map]
  omega
def StpR (w w':World)(code line:Int)(v:Value):Prop:=∃sb s fv,v=.iface 73 (.pointer (some ⟨sb,0,none⟩))/\w.heap.size<=sb/\BT w' sb #[.string s,fv] 75/\FltR w w' code line fv
def NetR (w w':World)(bs:List UInt8)(e:Ending):Prop:=
 (∃c l,prsM bs=.error (c,l)/\∃v,e=.returned (.tuple #[.agg #[.slice none 0 0,.slice none 0 0,.slice none 0 0,.slice none 0 0,.int .i64 0],v])/\StpR w w' c l v)\/(∃(wm:World) (rb:Nat) (vN vW vR vT:Value) (line:Int) (vL:Value) (ps:List Px) (wq:World),prsM bs=.ok (dsP ps)/\e=.returned (.tuple #[.agg #[vN,vW,vR,vT,.int .i64 (utO ps)],.nilIface])/\SortR wm wq rb vN vW vR vT (utO ps) line vL ps (lnO ps)/\Nx w wm/\w.heap.size<wm.heap.size/\Chg (λx=>x=w.heap.size) wq w')
theorem infoNt:(Tryz.prog.info? 28).map (·.size)=some 5:=by kernel_rfl
theorem wpList_storeN {ops:Array Oper}{rest:List Oper}{o:Oper}{a:Act}{Q:Exit->Act->World->Prop}{w:World}{b t:Nat}{cs cs':Array Value}(hgd:o.guard=none)(p v:Operand)(ho:o.op=.store 28 p v)(hp:a.eval p=.pointer (some ⟨b,0,none⟩))(hv:a.eval v=.agg cs')(hb:BT w b cs t)(hs:cs.size=5)(hs':cs'.size=5)(h1:(cs'.toList.all λv=>v.oneCell')=true)
  (h:∀w',BT w' b cs' t->Chg (λx=>x=b) w w'->wpList Tryz.prog ops Q rest (a.put o.dst undef) w'):wpList Tryz.prog ops Q (o::rest) a w:=
 wpList_store_row hgd _ p v ho b cs' hp hv t cs hb (by rw[infoNt,hs']) (by rw[hs,hs']) (by rw[<-Array.all_toList];exact h1) (h _ (setRow_bt hb).1 (setRow_bt hb).2)
theorem ret_net {R:Ending->World->Prop}{a:Act}{w:World}{b t:Nat}{x0 x1 x2 x3 x4 v:Value}(h2:a.tmps[2]?.getD undef=.pointer (some ⟨b,0,none⟩))(h3:a.tmps[3]?.getD undef=v)(hd:a.defers=[])(hb:BT w b #[x0,x1,x2,x3,x4] t)(hR:R (.returned (.tuple #[.agg #[x0,x1,x2,x3,x4],v])) w):bodyPost Tryz.prog Tryz.f21 R .ret a w:=by
 have p0:=hb.blk.cell (i:=0) (v:=x0) rfl
 have p1:=hb.blk.cell (i:=1) (v:=x1) rfl
 have p2:=hb.blk.cell (i:=2) (v:=x2) rfl
 have p3:=hb.blk.cell (i:=3) (v:=x3) rfl
 have p4:=hb.blk.cell (i:=4) (v:=x4) rfl
 refine bodyPost_ret (v:=.tuple #[.agg #[x0,x1,x2,x3,x4],v]) ?_ hd hR
 simp[results,Tryz.results21,h2,h3,go_sem,p0,p1,p2,p3,p4]
theorem HBm.eqb {M:Nat}{w w':World}{a:Option Addr}{bs:List UInt8}(h:HBm M w a bs)(k:Eqb M w w'):HBm M w' a bs:=λhp=>by
 obtain⟨b,off,e,hb,hc⟩:=h hp
 exact⟨b,off,e,hb,λi hi=>by rw[eqb_cell k hb];exact hc i hi⟩
theorem LnR.eqb {M:Nat}{w w':World}{v:Value}{ls:List ByteArray}{n:Nat}(h:LnR M w v ls n)(k:Eqb M w w'):LnR M w' v ls n:=by
 obtain⟨a,c,e,hh⟩:=h
 refine⟨a,c,e,λhp=>?_⟩
 obtain⟨g,off,ea,hg,hc⟩:=hh hp
 refine⟨g,off,ea,hg,λi hi=>?_⟩
 obtain⟨ai,ci,x,hb⟩:=hc i hi
 exact⟨ai,ci,by rw[eqb_cell k hg];exact x,hb.eqb k⟩
theorem HBy.next_ {B:Nat}{w w':World}{v:Value}{bs:List UInt8}(h:HBy B w v bs)(k:Nx w w'):HBy B w' v bs:=by
 obtain⟨a,c,e,hm,hk⟩:=h
 refine⟨a,c,e,hm,λhp=>?_⟩
 obtain⟨b,off,ea,h1,h2,h3⟩:=hk hp
 exact⟨b,off,ea,h1,Nat.lt_of_lt_of_le h2 k.size,λi hi=>cellq k (h3 i hi)⟩
theorem readNet_any (B:Nat)(a:Option Addr)(n c:Nat)(bs:List UInt8)(w:World)(h:HBy B w (.slice a n c) bs)(hcap:n<=c)(hcm:c<=9223372036854775807)(hG:Gl w) :
  Calls Tryz.prog 21 #[.slice a n c] w λe w'=>NetR w w' bs e/\Nx w w':=by
 have HW0:Hid (BT (w.alloc (.cells #[.slice none 0 0,.slice none 0 0,.slice none 0 0,.slice none 0 0,.int .i64 0] 28)) w.heap.size #[.slice none 0 0,.slice none 0 0,.slice none 0 0,.slice none 0 0,.int .i64 0] 28):=BT.new _ _ _ _ rfl
 have HX0:Hid (Nx w (w.alloc (.cells #[.slice none 0 0,.slice none 0 0,.slice none 0 0,.slice none 0 0,.int .i64 0] 28))):=box1 _ _
 have HH:=mkHid' h
 have HG:=mkHid' hG
 clear h hG
 go_enter Tryz.func21,Tryz.ntmps21
 go_wp2_with fail
 generalize w.alloc (.cells #[.slice none 0 0,.slice none 0 0,.slice none 0 0,.slice none 0 0,.int .i64 0] 28)=w1 at *
 refine(cutText_any B a n c bs w1 (HBy.next_ HH.out HX0.out) hcap hcm (HG.out.next HX0.out)).mono ?_
 rintro e w2 ⟨hcut,hx⟩
 have HX2:=mkHid' (HX0.out.trans hx)
 have HB2:=mkHid' (HW0.out.next hx)
 have HS12:Hid (w.heap.size<=w1.heap.size):=HX0.out.size
 have HN1:Hid (w.heap.size<w1.heap.size):=HW0.out.lt
 clear hx HW0 HH
 obtain⟨nb,hnb⟩:∃q,w.heap.size=q:=⟨_,rfl⟩
 have HNB:Hid (w.heap.size=nb):=hnb
 rw[hnb] at HB2 ⊢
 clear hnb
 rcases hcut with⟨cc,l,hpm,v,rfl,fb,rfl,hfb,hbf⟩|⟨hbl,hb0,hpm,v,rfl,hln⟩
 case inl=>
  have HPM:=mkHid' hpm
  have HFB:Hid (w.heap.size<=fb):=by have h1:=HS12.out;have h2:=HNB.out;unfold Hid;omega
  have HBF:=mkHid' hbf
  have HBw:=HB2
  have HXw:=HX2
  have HFN:Hid (fb≠nb):=by
   intro e
   have h1:=hfb
   have h2:=HN1.out
   have h3:=HNB.out
   omega
  clear hpm hfb hbf
  have HSB:Hid (BT (w2.alloc (.cells #[.string ⟨#[115,116,101,112,32,65]⟩,.iface 59 (.pointer (some ⟨fb,0,none⟩))] 75)) w2.heap.size #[.string ⟨#[115,116,101,112,32,65]⟩,.iface 59 (.pointer (some ⟨fb,0,none⟩))] 75):=BT.new _ _ _ _ rfl
  have HXS:Hid (Nx w2 (w2.alloc (.cells #[.string ⟨#[115,116,101,112,32,65]⟩,.iface 59 (.pointer (some ⟨fb,0,none⟩))] 75))):=box1 _ _
  go_wp2_with (refine wpList_storeN rfl _ _ rfl rfl rfl (HBw.out.next HXS.out) rfl rfl rfl ?_)
  intro wz hbz hcz
  have HBz:=mkHid' hbz
  have HCz:=mkHid' hcz
  clear hbz hcz
  go_wp2
  refine ret_net rfl rfl rfl HBz.out ?_
  have hsz:w.heap.size<=w2.heap.size:=HXw.out.size
  have hne:w2.heap.size≠nb:=by have:=HBw.out.lt;omega
  refine⟨Or.inl ⟨cc,l,HPM.out,_,rfl,w2.heap.size,_,_,rfl,hsz,HSB.out.chg HCz.out hne,fb,rfl,HFB.out,(HBF.out.next HXS.out).chg HCz.out (by have h1:=HBF.out.lt;have h2:=HFN.out;exact h2)⟩,?_⟩
  refine Below.trans (HXw.out.trans HXS.out) (HCz.out.below (HXw.out.trans HXS.out).size (λx hx=>?_))
  have e:x=nb:=hx
  have:=HNB.out
  omega
 have HPM:=mkHid' hpm
 have HLN:=mkHid' hln
 obtain⟨al,cl,ev,-⟩:=hln
 subst ev
 have HBL:Hid (bs.length<=300000/\0<bs.length):=⟨hbl,hb0⟩
 clear hpm hbl hb0
 have HC1:=mkHid' (cutL_len (bs.take (bs.length-1)) 10)
 have HC2:Hid (∀i,i<(cutL (bs.take (bs.length-1)) 10).length->(sat (cutL (bs.take (bs.length-1)) 10) i).size<=300000):=λi hi=>by
  have h1:=cutL_size hi
  have h2:=HBL.out
  have h3:(bs.take (bs.length-1)).length<=bs.length:=by rw[List.length_take];omega
  omega
 have HC3:Hid ((bs.take (bs.length-1)).length<=300000):=by
  have h2:=HBL.out
  unfold Hid
  rw[List.length_take];omega
 generalize hbt:bs.take (bs.length-1)=bt_ at *
 clear hbt
 have HB3:Hid (BT (w2.alloc (.cells #[.slice none 0 0,.slice none 0 0,.slice none 0 0,.slice none 0 0,.int .i64 0,.int .i64 0,.slice none 0 0] 79)) w2.heap.size #[.slice none 0 0,.slice none 0 0,.slice none 0 0,.slice none 0 0,.int .i64 0,.int .i64 0,.slice none 0 0] 79):=BT.new _ _ _ _ rfl
 have HX3:Hid (Nx w2 (w2.alloc (.cells #[.slice none 0 0,.slice none 0 0,.slice none 0 0,.slice none 0 0,.int .i64 0,.int .i64 0,.slice none 0 0] 79))):=box1 _ _
 go_wp2_with fail
 generalize w2.alloc (.cells #[.slice none 0 0,.slice none 0 0,.slice none 0 0,.slice none 0 0,.int .i64 0,.int .i64 0,.slice none 0 0] 79)=w3 at *
 obtain⟨rb,hrb⟩:∃q,w2.heap.size=q:=⟨_,rfl⟩
 have HRB:Hid (w2.heap.size=rb):=hrb
 rw[hrb] at HB3 HLN ⊢
 clear hrb
 have HGM:Hid (Tryz.splitS_ren.g 1<rb):=by
  obtain⟨m,hm⟩:=HG.out
  have h1:=cell_lt hm
  have h2:=HX2.out.size
  have h3:=HRB.out
  unfold Hid;omega
 refine(readLines_any rb rb (.slice al ((cutL bt_ 10).length-1) cl) (cutL bt_ 10) w3 HB3.out HC1.out.1 (by have h1:=HC1.out.2;have h2:=HC3.out;omega) HC2.out (HLN.out.eqb (HX3.out.eqb (by rw[HRB.out];exact Nat.le_refl _))) (HG.out.next (HX2.out.trans HX3.out)) ⟨Nat.le_refl _,HGM.out⟩).mono ?_
 rintro e w4 hlr
 have HNR:Hid (nb≠rb/\w.heap.size<=rb/\nb<rb):=by
  have h1:=HB2.out.lt
  have h2:=HRB.out
  have h3:=HX2.out.size
  refine⟨?_,?_,?_⟩<;>omega
 have HBn:=mkHid' (HB2.out.next HX3.out)
 have HB3z:Hid (rb<w3.heap.size):=HB3.out.lt
 have HXn:=mkHid' (HX2.out.trans HX3.out)
 clear HB2 HX2 HX3 HB3 HLN
 rcases hlr with⟨i,hfi,v,rfl,⟨fb,rfl,hfb,hbf⟩,hch⟩|⟨hfn,rfl,wm,ps,line,hxm,hrm,hds,hno⟩
 case inl=>
  have HCH:=mkHid' hch
  clear hch
  have HPM2:Hid (prsM bs=.error ((lnC (cutL bt_ 10) i),(i:Int)+1)):=by unfold Hid;rw[HPM.out];unfold restM;rw[hfi]
  clear HPM
  have HPM:=HPM2
  clear HPM2
  obtain⟨cc,hcc⟩:∃q,(lnC (cutL bt_ 10) i)=q:=⟨_,rfl⟩
  obtain⟨l,hll⟩:∃q,(i:Int)+1=q:=⟨_,rfl⟩
  have HBw:=mkHid' (HBn.out.chg HCH.out HNR.out.1)
  have HXw:Hid (Nx w w4):=Below.trans HXn.out (HCH.out.below HXn.out.size (λx hx=>by have e:x=rb:=hx;have:=HNR.out;omega))
  have HBF:=mkHid' hbf
  have HFB:Hid (w.heap.size<=fb):=by have h1:=hfb;have h2:=HXn.out.size;have h3:=HB3z.out;unfold Hid;omega
  have HFN:Hid (fb≠nb):=by have h1:=hfb;have h2:=HXn.out.size;have h3:=HB3z.out;have h9:=HNR.out;unfold Hid;omega
  rw[hcc,hll] at HPM HBF
  clear hfb hbf hcc hll
  have HSB:Hid (BT (w4.alloc (.cells #[.string ⟨#[115,116,101,112,32,66]⟩,.iface 59 (.pointer (some ⟨fb,0,none⟩))] 75)) w4.heap.size #[.string ⟨#[115,116,101,112,32,66]⟩,.iface 59 (.pointer (some ⟨fb,0,none⟩))] 75):=BT.new _ _ _ _ rfl
  have HXS:Hid (Nx w4 (w4.alloc (.cells #[.string ⟨#[115,116,101,112,32,66]⟩,.iface 59 (.pointer (some ⟨fb,0,none⟩))] 75))):=box1 _ _
  go_wp2_with (refine wpList_storeN rfl _ _ rfl rfl rfl (HBw.out.next HXS.out) rfl rfl rfl ?_)
  intro wz hbz hcz
  have HBz:=mkHid' hbz
  have HCz:=mkHid' hcz
  clear hbz hcz
  go_wp2
  refine ret_net rfl rfl rfl HBz.out ?_
  have hsz:w.heap.size<=w4.heap.size:=HXw.out.size
  have hne:w4.heap.size≠nb:=by have:=HBw.out.lt;omega
  refine⟨Or.inl ⟨cc,l,HPM.out,_,rfl,w4.heap.size,_,_,rfl,hsz,HSB.out.chg HCz.out hne,fb,rfl,HFB.out,(HBF.out.next HXS.out).chg HCz.out (by have h1:=HBF.out.lt;have h2:=HFN.out;exact h2)⟩,?_⟩
  refine Below.trans (HXw.out.trans HXS.out) (HCz.out.below (HXw.out.trans HXS.out).size (λx hx=>?_))
  have e:x=nb:=hx
  have:=HNB.out
  omega
 have HPD:Hid (prsM bs=prsD (dsP ps)):=by unfold Hid;rw[HPM.out];unfold restM;rw[hfn,<-hds];rfl
 have HNO:=mkHid' hno
 have HXM:Hid (Nx w wm):=HXn.out.trans hxm
 have HBm:=mkHid' (HBn.out.next hxm)
 have HNM:Hid (nb<wm.heap.size):=HBm.out.lt
 have HWN:=mkHid' (ds_wn hds)
 have HWS:=mkHid' (ds_wsum hds HC3.out)
 have HPL:Hid (ps.length<=300000):=by
  have h1:(ps.map (·.d)).length=(cutL bt_ 10).length-1:=by rw[hds,dsTo_len]
  have h2:=HC1.out.2
  have h3:=HC3.out
  rw[List.length_map] at h1
  unfold Hid;omega
 have HRM:=mkHid' hrm
 obtain⟨vN,vW,vR,vT,vL,hr⟩:=hrm
 have HR4:=mkHid' hr
 clear hfn hds hno hxm hr HC1 HC2 HC3 HPM
 go_wp2_with fail
 refine(checkWhole_any wm rb line ps w4 HRM.out HPL.out HNO.out HWN.out HWS.out).mono ?_
 rintro e w5 ⟨hck,hx5⟩
 have HR5:=mkHid' (HR4.out.next hx5)
 have HX5:=mkHid' hx5
 clear hx5 HRM HNO HWN HWS
 rcases hck with⟨hyes,rfl⟩|⟨c_,l_,hno,v,rfl,fb,rfl,hfb,hbf⟩
 case inr=>
  have HPM:=HPD
  have HPM2:Hid (prsM bs=.error (c_,l_)):=by unfold Hid;rw[HPD.out,hno]
  clear HPM
  have HPM:=HPM2
  clear HPM2
  obtain⟨cc,hcc⟩:∃q,c_=q:=⟨_,rfl⟩
  obtain⟨l,hll⟩:∃q,l_=q:=⟨_,rfl⟩
  have HBw:=mkHid' (HBm.out.chg HR5.out.nx HNR.out.1)
  have HXw:Hid (Nx w w5):=Below.trans HXM.out (HR5.out.nx.below HXM.out.size (λx hx=>by have e:x=rb:=hx;have:=HNR.out;omega))
  have HBF:=mkHid' hbf
  have HFB:Hid (w.heap.size<=fb):=by have h1:=hfb;have h2:=HR4.out.nx.size;have h3:=HXM.out.size;have h4:=HB3z.out;have h5:=HBm.out.lt;have h6:=HNM.out;unfold Hid;omega
  have HFN:Hid (fb≠nb):=by have h1:=hfb;have h2:=HR4.out.nx.size;have h3:=HXM.out.size;have h4:=HB3z.out;have h5:=HBm.out.lt;have h6:=HNM.out;have h9:=HNR.out;unfold Hid;omega
  rw[hcc,hll] at HPM HBF
  clear hfb hbf hcc hll
  have HSB:Hid (BT (w5.alloc (.cells #[.string ⟨#[115,116,101,112,32,67]⟩,.iface 59 (.pointer (some ⟨fb,0,none⟩))] 75)) w5.heap.size #[.string ⟨#[115,116,101,112,32,67]⟩,.iface 59 (.pointer (some ⟨fb,0,none⟩))] 75):=BT.new _ _ _ _ rfl
  have HXS:Hid (Nx w5 (w5.alloc (.cells #[.string ⟨#[115,116,101,112,32,67]⟩,.iface 59 (.pointer (some ⟨fb,0,none⟩))] 75))):=box1 _ _
  go_wp2_with (refine wpList_storeN rfl _ _ rfl rfl rfl (HBw.out.next HXS.out) rfl rfl rfl ?_)
  intro wz hbz hcz
  have HBz:=mkHid' hbz
  have HCz:=mkHid' hcz
  clear hbz hcz
  go_wp2
  refine ret_net rfl rfl rfl HBz.out ?_
  have hsz:w.heap.size<=w5.heap.size:=HXw.out.size
  have hne:w5.heap.size≠nb:=by have:=HBw.out.lt;omega
  refine⟨Or.inl ⟨cc,l,HPM.out,_,rfl,w5.heap.size,_,_,rfl,hsz,HSB.out.chg HCz.out hne,fb,rfl,HFB.out,(HBF.out.next HXS.out).chg HCz.out (by have h1:=HBF.out.lt;have h2:=HFN.out;exact h2)⟩,?_⟩
  refine Below.trans (HXw.out.trans HXS.out) (HCz.out.below (HXw.out.trans HXS.out).size (λx hx=>?_))
  have e:x=nb:=hx
  have:=HNB.out
  omega
 have HPY:Hid (prsM bs=.ok (dsP ps)):=by unfold Hid;rw[HPD.out,hyes]
 clear hyes HPD HR4 HX5
 go_wp2_with fail
 refine(sortLists_any wm rb vN vW vR vT (utO ps) line vL ps (lnO ps) w5 HR5.out HPL.out).mono ?_
 rintro e w6 ⟨rfl,hso⟩
 have HSO:=mkHid' hso
 obtain⟨ns',ws',rs',ts',-,-,-,-,hr6⟩:=hso
 have HR6:=mkHid' hr6
 clear hr6 HR5
 obtain⟨a0,c0,e0⟩:=row_slice HR6.out.n
 obtain⟨a1,c1,e1⟩:=row_slice HR6.out.wy
 obtain⟨a2,c2,e2⟩:=row_slice HR6.out.rl
 obtain⟨a3,c3,e3⟩:=row_slice HR6.out.tn
 have b0_:w6.cell? ⟨rb,0,none⟩=some vN:=HR6.out.bx.blk.cell (i:=0) rfl
 have b1_:w6.cell? ⟨rb,1,none⟩=some vW:=HR6.out.bx.blk.cell (i:=1) rfl
 have b2_:w6.cell? ⟨rb,2,none⟩=some vR:=HR6.out.bx.blk.cell (i:=2) rfl
 have b3_:w6.cell? ⟨rb,3,none⟩=some vT:=HR6.out.bx.blk.cell (i:=3) rfl
 have b4_:w6.cell? ⟨rb,4,none⟩=some (.int .i64 (utO ps)):=HR6.out.bx.blk.cell (i:=4) rfl
 have HB6:=mkHid' (HBm.out.chg HR6.out.nx HNR.out.1)
 have HX6:Hid (Nx w w6):=Below.trans HXM.out (HR6.out.nx.below HXM.out.size (λx hx=>by have e:x=rb:=hx;have:=HNR.out;omega))
 subst e0 e1 e2 e3
 clear HR6
 go_wp2_with (refine wpList_storeN rfl _ _ rfl rfl rfl HB6.out rfl rfl rfl ?_)
 intro wz hbz hcz
 have HBz:=mkHid' hbz
 have HCz:=mkHid' hcz
 clear hbz hcz b0_ b1_ b2_ b3_ b4_
 go_wp2
 refine ret_net rfl rfl rfl HBz.out ?_
 refine⟨Or.inr ⟨wm,rb,_,_,_,_,line,vL,ps,w6,HPY.out,rfl,HSO.out,HXM.out,by have h1:=HNM.out;have h2:=HNB.out;omega,by rw[HNB.out];exact HCz.out⟩,?_⟩
 refine Below.trans HX6.out (HCz.out.below HX6.out.size (λx hx=>?_))
 have e:x=nb:=hx
 have:=HNB.out
 omega
end Go.Proofs.YthhkjbfkgdlkmaaGreatDoor
