import Derived.Test.YthhkjbfkgdlkmaaGreatDoorPLr
namespace Go.Proofs.YthhkjbfkgdlkmaaGreatDoor
open Go.RowKit Go.Sort
set_option linter.unusedVariables false
set_option maxRecDepth 1000000
set_option maxHeartbeats 16000000
theorem infoLine:(Tryz.prog.info? 115).map (λi=>(i.zero,i.size,i.bytes))=some (some (.agg #[.int .i64 0,.int .i64 0,.int .i64 0,.int .i64 0,.slice none 0 0]),5,56):=by kernel_rfl
theorem app_lv_in {k:Nat}{ops:Array Oper}{o:Oper}{a:Act}{K:Act->World->Prop}{Q:Exit->Act->World->Prop}{E:Prop}(hgd:o.guard=none)(s x:Operand)(ho:o.op=.call { callee:=.builtin .append,args:=#[s,x],argTypes:=#[77,77] })
  (C n:Nat) (v:Value) (l:List Lv) (y:Lv) (w0 W:World) (hW:W=w0.alloc (.cells (lvL y).toArray 115)) (hs:a.eval s=v) (hown:w0.ownsRow C 115 5 v l.length (l.flatMap lvL)) (hx:a.eval x=.slice (some ⟨w0.heap.size,0,none⟩) 1 1) (hn:l.length=n) (h1:∀u∈lvL y,u.oneCell'=true) (hm:n<=1000000) (hC:C<=w0.heap.size)
  (h:∀a' c' w',w'.ownsRow C 115 5 (.slice a' (n+1) c') (l++[y]).length ((l++[y]).flatMap lvL)->Chg (λx=>some x=v.ownBlock) w0 w'->K (a.put o.dst (.slice a' (n+1) c')) w') :
  if Region.wanted o (yielded ops a.tmps)=true then Oper.wpIn Fence.wide k Tryz.prog o a W K Q else E:=by
 subst hn
 refine app_row_in infoLine Tryz.underlying77 rfl (by decide) (by decide) hgd s x ho C l.length v (l.flatMap lvL) (lvL y) w0 W hW hs hown hx rfl h1 hm hC (λa' c' w' r1 r2 r3=>h a' c' w' ?_ r2)
 rw[List.length_append,List.flatMap_append,List.flatMap_singleton]
 exact r1
theorem note_any (w0:World)(rb:Nat)(vN vW vR vT:Value)(u line:Int)(vL:Value)(ns:List Int)(ws:List Wv)(rs:List Rv)(ts:List Tn)(ls:List Lv)(ir:List (Value×List Int))(w:World)(h:RM w0 w rb vN vW vR vT u line vL ns ws rs ts ls ir)(hl:ls.length<=300001)(nk na nb:Int)(ul:List Nm)(un:Value)(hun:OwnN w0.heap.size w un ul) :
  Calls Tryz.prog 74 #[.pointer (some ⟨rb,0,none⟩),.agg #[.int .i64 nk,.int .i64 na,.int .i64 nb],un] w λe w'=>e=.returned (.tuple #[])/\∃vL',RM w0 w' rb vN vW vR vT u line vL' ns ws rs ts (ls++[(line,(nk,na,nb),ul,un)]) ir:=by
 have hmx:Tryz.prog.follows .mixedOrders=true:=by kernel_rfl
 obtain⟨au,cu,eu⟩:=row_slice hun
 generalize hlu:ul.length=lu at eu
 subst eu
 clear hlu
 obtain⟨aL,cL,eL⟩:=row_slice h.ln
 obtain⟨nL,hnL⟩:∃q,ls.length=q:=⟨_,rfl⟩
 rw[hnL] at eL hl
 subst eL
 have HLN:Hid (ls.length=nL):=hnL
 have hxb:Nx w (w.alloc (.cells #[.int .i64 nk,.int .i64 na,.int .i64 nb] 112)):=box1 _ _
 have HSB:Hid (BT (w.alloc (.cells #[.int .i64 nk,.int .i64 na,.int .i64 nb] 112)) w.heap.size #[.int .i64 nk,.int .i64 na,.int .i64 nb] 112):=BT.new _ _ _ _ rfl
 have HR:=mkHid' (h.next hxb)
 have HUN:Hid (OwnN w0.heap.size (w.alloc (.cells #[.int .i64 nk,.int .i64 na,.int .i64 nb] 112)) (.slice au lu cu) ul):=row_next hun hxb
 clear h hun hxb hnL
 go_enter Tryz.func74,Tryz.ntmps74
 go_upto_region 1 with fail
 generalize w.alloc (.cells #[.int .i64 nk,.int .i64 na,.int .i64 nb] 112)=w1 at *
 generalize w.heap.size=sb at *
 go_upto_region 1 with fail
 have hxd:Nx w1 w1.drew:=(Below.refl _ _).drew
 have HD:=mkHid' (HR.out.next hxd)
 have HSB2:=mkHid' (HSB.out.next hxd)
 have HU2:=mkHid' (row_next HUN.out hxd)
 have HSS:Hid ((λq=>q.cell? ⟨rb,6,none⟩=some (.slice aL nL cL)/\q.cell? ⟨rb,5,none⟩=some (.int .i64 line)/\q.cell? ⟨sb,0,none⟩=some (.int .i64 nk)/\q.cell? ⟨sb,1,none⟩=some (.int .i64 na)/\q.cell? ⟨sb,2,none⟩=some (.int .i64 nb)) w1.drew):=⟨cellq hxd (HR.out.bx.blk.cell (i:=6) rfl),cellq hxd (HR.out.bx.blk.cell (i:=5) rfl),cellq hxd (HSB.out.blk.cell (i:=0) rfl),cellq hxd (HSB.out.blk.cell (i:=1) rfl),cellq hxd (HSB.out.blk.cell (i:=2) rfl)⟩
 clear HR hxd HSB HUN
 refine(wpIn_wide (n:=9)).1 ?_
 refine wpIn_region_S (c:=16) (S:=λq=>q.cell? ⟨rb,6,none⟩=some (.slice aL nL cL)/\q.cell? ⟨rb,5,none⟩=some (.int .i64 line)/\q.cell? ⟨sb,0,none⟩=some (.int .i64 nk)/\q.cell? ⟨sb,1,none⟩=some (.int .i64 na)/\q.cell? ⟨sb,2,none⟩=some (.int .i64 nb)) hmx (by kernel_rfl) (λhw hcl=>?_)
 generalize w1.drew=wd at *
 refine tq (i:=0) (v:=.pointer (some ⟨rb,0,none⟩)) (λhcl=>?_)
 refine tq (i:=1) (v:=.pointer (some ⟨rb,0,none⟩)) (λhcl=>?_)
 refine tq (i:=2) (v:=.pointer (some ⟨rb,0,none⟩)) (λhcl=>?_)
 refine tq (i:=3) (v:=.pointer (some ⟨rb,6,none⟩)) (λhcl=>?_)
 refine tq (i:=4) (v:=.slice aL nL cL) (λhcl=>?_)
 refine tq (i:=5) (v:=.pointer (some ⟨rb,0,none⟩)) (λhcl=>?_)
 refine tq (i:=6) (v:=.pointer (some ⟨rb,0,none⟩)) (λhcl=>?_)
 refine tq (i:=7) (v:=.pointer (some ⟨rb,5,none⟩)) (λhcl=>?_)
 refine tq (i:=8) (v:=.int .i64 line) (λhcl=>?_)
 refine tq (i:=9) (v:=.agg #[.int .i64 nk,.int .i64 na,.int .i64 nb]) (λhcl=>?_)
 refine tq (i:=10) (v:=.slice au lu cu) (λhcl=>?_)
 refine tq (i:=11) (v:=.agg #[.int .i64 line,.int .i64 nk,.int .i64 na,.int .i64 nb,.slice au lu cu]) (λhcl=>?_)
 refine anyS_one2 (i:=12) (by kernel_rfl) hcl (λhcl=>wpOpIn_step rfl (λK hK=>?_))
 go_simp
 refine hK _ _ ⟨Or.inr ⟨cellq (box1 _ _) HSS.out.1,cellq (box1 _ _) HSS.out.2.1,cellq (box1 _ _) HSS.out.2.2.1,cellq (box1 _ _) HSS.out.2.2.2.1,cellq (box1 _ _) HSS.out.2.2.2.2⟩,?_⟩
 clear hK K
 have hzz:w0.heap.size<=wd.heap.size:=HD.out.nx.size
 refine anyS_one2 (i:=13) (by kernel_rfl) hcl (λhcl=>wpOpIn_step rfl (λK hK=>?_))
 refine app_lv_in rfl (.tmp 10) (.tmp 18) rfl w0.heap.size nL (.slice aL nL cL) (ls) ((line,(nk,na,nb),ul,.slice au lu cu)) wd _ rfl (by simp[Act.eval]) HD.out.ln (by simp[Act.eval]) HLN.out (by intro u hu;simp[lvL] at hu;rcases hu with rfl|rfl|rfl|rfl|rfl<;>rfl) (by omega) hzz ?_
 intro a1 c1 wx r1 r2
 obtain⟨hbx,hrm⟩:=HD.out.growL r1 r2 HU2.out
 have HBX:=mkHid' hbx
 have HRX:=mkHid' hrm
 have HSY:Hid ((λq=>q.cell? ⟨rb,6,none⟩=some (.slice aL nL cL)/\q.cell? ⟨rb,5,none⟩=some (.int .i64 line)/\q.cell? ⟨sb,0,none⟩=some (.int .i64 nk)/\q.cell? ⟨sb,1,none⟩=some (.int .i64 na)/\q.cell? ⟨sb,2,none⟩=some (.int .i64 nb)) wx):=⟨HBX.out.blk.cell (i:=6) rfl,HBX.out.blk.cell (i:=5) rfl,(HSB2.out.row HD.out.ln (by decide) r2).blk.cell (i:=0) rfl,(HSB2.out.row HD.out.ln (by decide) r2).blk.cell (i:=1) rfl,(HSB2.out.row HD.out.ln (by decide) r2).blk.cell (i:=2) rfl⟩
 clear HSS
 have HSS:=HSY
 clear HSY
 refine hK _ _ ⟨Or.inr HSS.out,?_⟩
 clear hK K
 clear hrm hbx r1 r2 hzz HD HU2 HSB2
 refine tq (i:=14) (v:=.pointer (some ⟨rb,0,none⟩)) (λhcl=>?_)
 refine tq (i:=15) (v:=.pointer (some ⟨rb,6,none⟩)) (λhcl=>?_)
 have q_:wx.cell? ⟨rb,6,none⟩=some (.slice aL nL cL):=HBX.out.blk.cell (i:=6) rfl
 have f_:=HBX.out.blk.frozen 6
 refine anyS_one (i:=16) (by kernel_rfl) (wpOpIn_step rfl (λK hK=>?_))
 go_simp
 refine hK _ _ ⟨Or.inl (by decide),?_⟩
 clear hK K
 refine anyS_done (by kernel_rfl) ?_ _
 clear hw hcl q_ f_ HSS HBX
 generalize wx.setCell ⟨rb,6,none⟩ (.slice a1 (nL+1) c1)=w3 at *
 go_wp2
 exact Great.bodyPost_end0 rfl rfl ⟨rfl,_,HRX.out⟩
structure Px where
 d:De
 no:Int
 vn:Value
 vw:Value
 vr:Value
 un:Value
def selfN (d:De):Nm:=(d.kind-1,d.a,d.b)
def usesN (d:De):List Nm:=d.nw.map (λx=>(1,x,0))++d.nn.map (λx=>(0,x,0))
def ndP (p:Px):List Int:=if p.d.kind=1 then [p.d.a] else []
def wyP (p:Px):List Wv:=if p.d.kind=2 then [(p.d.way,p.vn,p.vw)] else []
def rlP (p:Px):List Rv:=if p.d.kind=3 then [(p.d.rel,p.vr)] else []
def tnP (p:Px):List Tn:=if p.d.kind=4 then [⟨p.d.a,p.d.b,p.d.cost⟩] else []
def irP (p:Px):List (Value×List Int):=if p.d.kind=2 then [(p.vn,p.d.way.nodes),(p.vw,p.d.way.weights)] else if p.d.kind=3 then [(p.vr,p.d.rel.ways)] else []
def lnP (p:Px):Lv:=(p.no,selfN p.d,usesN p.d,p.un)
def utO (ps:List Px):Int:=ps.foldl (λu p=>if p.d.kind=5 then p.d.cost else u) 0
def ndO (ps:List Px):List Int:=ps.flatMap ndP
def wyO (ps:List Px):List Wv:=ps.flatMap wyP
def rlO (ps:List Px):List Rv:=ps.flatMap rlP
def tnO (ps:List Px):List Tn:=ps.flatMap tnP
def irO (ps:List Px):List (Value×List Int):=ps.flatMap irP
def lnO (ps:List Px):List Lv:=ps.map lnP
theorem utO_snoc (ps:List Px)(p:Px):utO (ps++[p])=if p.d.kind=5 then p.d.cost else utO ps:=by simp[utO,List.foldl_append]
theorem ndO_snoc (ps:List Px)(p:Px):ndO (ps++[p])=ndO ps++ndP p:=by simp[ndO]
theorem wyO_snoc (ps:List Px)(p:Px):wyO (ps++[p])=wyO ps++wyP p:=by simp[wyO]
theorem rlO_snoc (ps:List Px)(p:Px):rlO (ps++[p])=rlO ps++rlP p:=by simp[rlO]
theorem tnO_snoc (ps:List Px)(p:Px):tnO (ps++[p])=tnO ps++tnP p:=by simp[tnO]
theorem irO_snoc (ps:List Px)(p:Px):irO (ps++[p])=irO ps++irP p:=by simp[irO]
theorem lnO_snoc (ps:List Px)(p:Px):lnO (ps++[p])=lnO ps++[lnP p]:=by simp[lnO]
theorem fm_le {α:Type}(f:Px->List α)(hf:∀p,(f p).length<=1):∀ps:List Px,(ps.flatMap f).length<=ps.length
 |[]=>Nat.le_refl _
 |p::ps=>by
  have h1:=fm_le f hf ps
  have h2:=hf p
  rw[List.flatMap_cons,List.length_append,List.length_cons]
  omega
theorem ndO_le (ps:List Px):(ndO ps).length<=ps.length:=fm_le _ (λp=>by unfold ndP;split<;>simp) ps
theorem wyO_le (ps:List Px):(wyO ps).length<=ps.length:=fm_le _ (λp=>by unfold wyP;split<;>simp) ps
theorem rlO_le (ps:List Px):(rlO ps).length<=ps.length:=fm_le _ (λp=>by unfold rlP;split<;>simp) ps
theorem tnO_le (ps:List Px):(tnO ps).length<=ps.length:=fm_le _ (λp=>by unfold tnP;split<;>simp) ps
theorem lnO_len (ps:List Px):(lnO ps).length=ps.length:=by simp[lnO]
def RMx (w0 w:World)(rb:Nat)(line:Int)(ps:List Px):Prop:=∃vN vW vR vT vL,RM w0 w rb vN vW vR vT (utO ps) line vL (ndO ps) (wyO ps) (rlO ps) (tnO ps) (lnO ps) (irO ps)
def ReadR (w0 w w':World)(rb:Nat)(line:Int)(ps:List Px)(f:List ByteArray)(e:Ending):Prop:=
 (chkS f=0/\e=.returned .nilIface/\∃p:Px,p.d=rdS f/\p.no=line/\RMx w0 w' rb line (ps++[p]))\/(chkS f≠0/\∃v,e=.returned v/\FltR w w' (chkS f) line v/\Nx w w')
theorem hsr_part {C:Nat}{w:World}{g n c:Nat}{f:List ByteArray}(h:OwnSt C w (.slice (some ⟨g,0,none⟩) n c) f)(hn:f.length=n)(k m c':Nat)(hk:k+m<=n):HSr w (.slice (some ⟨g,k,none⟩) m c') ((f.drop k).take m):=by
 have hl:((f.drop k).take m).length=m:=by rw[List.length_take,List.length_drop];omega
 refine⟨some ⟨g,k,none⟩,c',by rw[hl],λhp=>⟨g,k,rfl,λi hi=>?_⟩⟩
 rw[hl] at hi
 obtain⟨g',e,-,-,hc⟩:=OwnSt.at h (i:=k+i) (by omega)
 have e':g=g':=by simpa using e
 rw[e']
 have es:sat ((f.drop k).take m) i=sat f (k+i):=by simp[sat,List.getD_eq_getElem?_getD,List.getElem?_drop,hi]
 rw[es];exact hc
theorem hsr_drop {C:Nat}{w:World}{g n c:Nat}{f:List ByteArray}(h:OwnSt C w (.slice (some ⟨g,0,none⟩) n c) f)(hn:f.length=n)(k c':Nat)(hk:k<=n):HSr w (.slice (some ⟨g,k,none⟩) (n-k) c') (f.drop k):=by
 have h1:=hsr_part h hn k (n-k) c' (by omega)
 rw[List.take_of_length_le (by rw[List.length_drop];omega)] at h1
 exact h1
theorem ownSt_cap {C:Nat}{w:World}{a:Option Addr}{n c:Nat}{f:List ByteArray}(h:OwnSt C w (.slice a n c) f):n<=c:=by
 obtain⟨h1,h2⟩:=h
 rcases h2 with⟨e,h4⟩|⟨g,cap,cur,e,hg,hh,hc,hm,hs,ht⟩
 ·simp only[Value.slice.injEq] at e
  omega
 ·simp only[Value.slice.injEq] at e
  omega
theorem sat_drop (f:List ByteArray)(k i:Nat):sat (f.drop k) i=sat f (k+i):=by simp[sat,List.getD_eq_getElem?_getD,List.getElem?_drop]
theorem okNs_at {ss:List ByteArray}:okNs ss=true↔∀i,i<ss.length->0<=valS (sat ss i):=by
 constructor
 ·intro h i hi
  cases hv:decide (valS (sat ss i)<0) with
  |false=>have:=of_decide_eq_false hv;omega
  |true=>rw[okNs_no hi (of_decide_eq_true hv)] at h;cases h
 ·exact okNs_yes
theorem numB_all {f:List ByteArray}:allN f.length (numB f)=true↔∀i,i<f.length->numB f i=true:=by
 unfold allN
 rw[List.all_eq_true]
 exact⟨λh i hi=>h i (List.mem_range.2 hi),λh i hi=>h i (List.mem_range.1 hi)⟩
theorem num_plain {f:List ByteArray}(hw:(sat f 0).toList≠[119,97,121])(hr:relB (sat f 0)=false)(i:Nat):numB f (1+i)=decide (0<=valS (sat f (1+i))):=by
 have e1:((sat f 0).toList==[119,97,121])=false:=by simpa using hw
 have e2:(1+i==0)=false:=by simp
 unfold numB freB
 rw[e1,hr,e2]
 simp
theorem ok_plain {f:List ByteArray}(hw:(sat f 0).toList≠[119,97,121])(hr:relB (sat f 0)=false):allN f.length (numB f)=okNs (f.drop 1):=by
 rw[Bool.eq_iff_iff,numB_all,okNs_at]
 constructor
 ·intro h i hi
  rw[List.length_drop] at hi
  have:=h (1+i) (by omega)
  rw[num_plain hw hr] at this
  rw[sat_drop];exact of_decide_eq_true this
 ·intro h i hi
  cases i with
  |zero=>rfl
  |succ i=>
   have:=h i (by rw[List.length_drop];omega)
   rw[sat_drop] at this
   rw[show i+1=1+i by omega,num_plain hw hr];exact decide_eq_true this
theorem ck_node {f:List ByteArray}(h:(sat f 0).toList=[110,111,100,101]):chkS f=if f.length≠2 then 6 else if okNs (f.drop 1)=true then 0 else 8:=by
 have hr:relB (sat f 0)=false:=by unfold relB;rw[h];rfl
 have hk:=ok_plain (f:=f) (by rw[h];decide) hr
 unfold chkS
 rw[hr,h,hk]
 by_cases e:f.length=2<;>simp[e]
theorem ck_uturn {f:List ByteArray}(h:(sat f 0).toList=[117,116,117,114,110]):chkS f=if f.length≠2 then 6 else if okNs (f.drop 1)=true then 0 else 8:=by
 have hr:relB (sat f 0)=false:=by unfold relB;rw[h];rfl
 have hk:=ok_plain (f:=f) (by rw[h];decide) hr
 unfold chkS
 rw[hr,h,hk]
 by_cases e:f.length=2<;>simp[e]
theorem ck_turn {f:List ByteArray}(h:(sat f 0).toList=[116,117,114,110]):chkS f=if f.length≠4 then 6 else if okNs (f.drop 1)=true then 0 else 8:=by
 have hr:relB (sat f 0)=false:=by unfold relB;rw[h];rfl
 have hk:=ok_plain (f:=f) (by rw[h];decide) hr
 unfold chkS
 rw[hr,h,hk]
 by_cases e:f.length=4<;>simp[e]
def butK (f:List ByteArray)(k:Nat):List ByteArray:=(f.drop 1).take (k-1)++f.drop (k+1)
theorem butK_len {f:List ByteArray}{k:Nat}(h1:1<=k)(h:k<f.length):(butK f k).length=f.length-2:=by
 unfold butK
 rw[List.length_append,List.length_take,List.length_drop,List.length_drop]
 omega
theorem butK_at {f:List ByteArray}{k:Nat}(h1:1<=k)(h:k<f.length)(i:Nat):sat (butK f k) i=if i+1<k then sat f (i+1) else sat f (i+2):=by
 unfold butK sat
 rw[List.getD_eq_getElem?_getD,List.getElem?_append]
 have e:((f.drop 1).take (k-1)).length=k-1:=by rw[List.length_take,List.length_drop];omega
 rw[e]
 by_cases hi:i<k-1
 ·rw[if_pos hi,if_pos (by omega),List.getElem?_take_of_lt hi,List.getElem?_drop,List.getD_eq_getElem?_getD,Nat.add_comm]
 ·rw[if_neg hi,if_neg (by omega),List.getElem?_drop,List.getD_eq_getElem?_getD,show k+1+(i-(k-1))=i+2 by omega]
theorem ok_but {f:List ByteArray}{k:Nat}(h1:1<=k)(h:k<f.length)(hn:∀i,numB f i=(i==0||(i==k||decide (0<=valS (sat f i))))):allN f.length (numB f)=okNs (butK f k):=by
 rw[Bool.eq_iff_iff,numB_all,okNs_at]
 constructor
 ·intro q i hi
  rw[butK_len h1 h] at hi
  rw[butK_at h1 h]
  split
  ·have:=q (i+1) (by omega)
   rw[hn] at this
   have e1:(i+1==0)=false:=by simp
   have e2:(i+1==k)=false:=by simp;omega
   rw[e1,e2] at this
   simpa using this
  ·have:=q (i+2) (by omega)
   rw[hn] at this
   have e1:(i+2==0)=false:=by simp
   have e2:(i+2==k)=false:=by simp;omega
   rw[e1,e2] at this
   simpa using this
 ·intro q i hi
  rw[hn]
  by_cases e0:i=0
  ·simp[e0]
  by_cases ek:i=k
  ·simp[ek]
  by_cases hik:i<k
  ·have:=q (i-1) (by rw[butK_len h1 h];omega)
   rw[butK_at h1 h,if_pos (by omega),show i-1+1=i by omega] at this
   simp[this]
  ·have:=q (i-2) (by rw[butK_len h1 h];omega)
   rw[butK_at h1 h,if_neg (by omega),show i-2+2=i by omega] at this
   simp[this]
theorem ck_way {f:List ByteArray}(h:(sat f 0).toList=[119,97,121]):chkS f=if f.length<6\/f.length%2=1\/204<f.length then 6 else if (sat f 2).toList≠[102]/\(sat f 2).toList≠[98] then 7 else if okNs (butK f 2)=true then 0 else 8:=by
 have hr:relB (sat f 0)=false:=by unfold relB;rw[h];rfl
 by_cases c:f.length<6\/f.length%2=1\/204<f.length
 ·unfold chkS
  rw[hr,h,if_pos c]
  simp[c]
 ·have hk:=ok_but (f:=f) (k:=2) (by omega) (by omega) (λi=>by unfold numB freB;rw[h,hr];simp)
  unfold chkS
  rw[hr,h,if_neg c,hk]
  simp[c]
theorem ck_rel {f:List ByteArray}(h:relB (sat f 0)=true):chkS f=if f.length<6 then 6 else if (sat f 3).toList≠[97,116]/\(sat f 3).toList≠[98,121] then 7 else if ((sat f 3).toList=[97,116]/\6<f.length)\/((sat f 3).toList=[98,121]/\9<f.length) then 6 else if okNs (butK f 3)=true then 0 else 8:=by
 have hw:(sat f 0).toList≠[110,111,100,101]/\(sat f 0).toList≠[119,97,121]/\(sat f 0).toList≠[116,117,114,110]/\(sat f 0).toList≠[117,116,117,114,110]:=by
  unfold relB at h
  rw[Bool.or_eq_true,beq_iff_eq,beq_iff_eq] at h
  rcases h with h|h<;>rw[h]<;>decide
 obtain⟨w1,w2,w3,w4⟩:=hw
 by_cases c:f.length<6
 ·unfold chkS
  rw[h,if_pos c]
  simp[c,w1,w2,w3,w4]
 ·have e2:((sat f 0).toList==[119,97,121])=false:=by simpa using w2
  have hk:=ok_but (f:=f) (k:=3) (by omega) (by omega) (λi=>by unfold numB freB;rw[h,e2];simp)
  unfold chkS
  rw[h,if_neg c,hk]
  simp[c,w1,w2,w3,w4]
theorem readNode_any (w0:World)(rb:Nat)(line:Int)(ps:List Px)(w:World)(h:RMx w0 w rb line ps)(hps:ps.length<=300000)(C g n c:Nat)(f:List ByteArray)(hf:OwnSt C w (.slice (some ⟨g,0,none⟩) n c) f)(hn:f.length=n)(hn1:n<=300001)(hs:∀i,i<f.length->(sat f i).size<=300000)(hw:(sat f 0).toList=[110,111,100,101]) :
  Calls Tryz.prog 50 #[.pointer (some ⟨rb,0,none⟩),.slice (some ⟨g,0,none⟩) n c] w λe w'=>ReadR w0 w w' rb line ps f e:=by
 have hmx:Tryz.prog.follows .mixedOrders=true:=by kernel_rfl
 obtain⟨vN,vW,vR,vT,vL,h⟩:=h
 have HR:=mkHid' h
 have HF:=mkHid' hf
 have HN:=mkHid' hn
 have HS:=mkHid' hs
 have HCK:=mkHid' (ck_node hw)
 have HW:=mkHid' hw
 have hcap:=ownSt_cap hf
 have HLL:Hid ((lnO ps).length<=300001):=by unfold Hid;rw[lnO_len];omega
 clear h hf hs hw
 rw[hn] at HCK
 clear hn
 by_cases h2:n=2
 case neg=>
  have HC:Hid (chkS f=6):=by unfold Hid;rw[HCK.out,if_pos h2]
  have d2:((n:Int) !=2)=true:=by simp;omega
  go_enter Tryz.func50,Tryz.ntmps50
  go_wp2_with fail
  refine(refuse_any rb 6 line _ w HR.out.bx rfl).mono ?_
  rintro e wr1 ⟨⟨v,rfl,hfl⟩,hx⟩
  have HFL:=mkHid' (hfl)
  have HXL:=mkHid' (hx)
  clear hfl hx
  go_wp2
  go_ret
  exact Or.inr ⟨by rw[HC.out];decide,_,rfl,by rw[HC.out];exact HFL.out,HXL.out⟩
 subst h2
 rw[if_neg (by simp)] at HCK
 go_enter Tryz.func50,Tryz.ntmps50
 go_wp2_with fail
 refine(rnums_any rb line _ (some ⟨g,1,none⟩) 1 _ (f.drop 1) w HR.out.bx rfl (hsr_drop HF.out HN.out 1 _ (by omega)) (λi hi=>by rw[sat_drop];exact HS.out _ (by rw[List.length_drop] at hi;omega)) (by omega)).mono ?_
 rintro e w1 ⟨hr,hx⟩
 rcases hr with⟨hok,v,rfl,ho⟩|⟨hno,v,rfl,fb,rfl,hfb,hfl⟩
 case inr=>
  have HC:Hid (chkS f=8):=by unfold Hid;rw[HCK.out,hno];rfl
  have HFL:Hid (FltR w w1 8 line (.iface 59 (.pointer (some ⟨fb,0,none⟩)))):=⟨fb,rfl,hfb,hfl⟩
  have HXL:=mkHid' hx
  clear hx hno hfb hfl
  go_wp2
  go_ret
  exact Or.inr ⟨by rw[HC.out];decide,_,rfl,by rw[HC.out];exact HFL.out,HXL.out⟩
 have HC0:Hid (chkS f=0):=by unfold Hid;rw[HCK.out,hok];rfl
 have HR1:=mkHid' (HR.out.next hx)
 obtain⟨gn,cn,csn,ev,hgn,-,hbn,hcn⟩:=ho.open (by rw[vsL_len,List.length_drop,HN.out];decide)
 have hvl:(vsL (f.drop 1)).length=1:=by rw[vsL_len,List.length_drop,HN.out]
 rw[hvl] at ev hcn
 subst ev
 have HBN:=mkHid' hbn
 have HNE:Hid (∀{v:Value}{k m t:Nat}{xs:List Value},w.ownsRow w0.heap.size t k v m xs->¬(some gn=v.ownBlock)):=λho e=>by have:=(own_lt ho gn e.symm).2;omega
 have hrg:rb≠gn:=by have:=HR.out.bx.lt;omega
 have HRG:=mkHid' hrg
 have HVA:Hid (∀i,i<1->iat (vsL (f.drop 1)) i=iat (vsL f) (1+i)):=λi hi=>by rw[vsL_at (by rw[List.length_drop,HN.out];omega),vsL_at (by rw[HN.out];omega),sat_drop]
 have HCN:Hid (∀i,i<1->w1.cell? ⟨gn,i,none⟩=some (.int .i64 (iat (vsL f) (1+i)))):=λi hi=>by rw[<-HVA.out i hi];exact hcn i hi
 clear hok hx ho hgn hvl hbn hcn hrg HVA
 have c0:=HCN.out 0 (by decide)
 have HRD:Hid (rdS f=⟨1,iat (vsL f) 1,0,zWy,zRl,0,[],[]⟩):=by unfold Hid rdS;rw[if_pos HW.out]
 clear HCN
 rw[Nat.add_zero] at c0
 generalize iat (vsL f) 1=z at *
 obtain⟨aN,cN,eN⟩:=row_slice HR1.out.n
 obtain⟨nN,hnN⟩:∃q,(ndO ps).length=q:=⟨_,rfl⟩
 have hnl:=ndO_le ps
 rw[hnN] at eN hnl
 subst eN
 have HLN:Hid ((ndO ps).length=nN):=hnN
 have HNN:Hid (¬(some gn=(Value.slice aN nN cN).ownBlock)):=HNE.out HR.out.n
 clear hnN HR HNE
 have HCS:Hid (csn[0]?=some (.int .i64 z)):=by
  unfold Hid
  have h:=c0
  have hh:w1.heap[gn]?=some (.cells csn 2 (0,0)):=HBN.out
  unfold World.cell? at h
  simpa [hh] using h
 go_upto_region 6 with fail
 have hxd:Nx w1 w1.drew:=(Below.refl _ _).drew
 have HD:=mkHid' (HR1.out.next hxd)
 have HB2:=mkHid' (HBN.out.next hxd)
 have HSS:Hid ((λq=>q.cell? ⟨rb,0,none⟩=some (.slice aN nN cN)/\q.cell? ⟨gn,0,none⟩=some (.int .i64 z)) w1.drew):=⟨cellq hxd (HR1.out.bx.blk.cell (i:=0) rfl),cellq hxd (c0)⟩
 clear HR1 hxd c0 HBN
 refine(wpIn_wide (n:=9)).1 ?_
 refine wpIn_region_S (c:=14) (S:=λq=>q.cell? ⟨rb,0,none⟩=some (.slice aN nN cN)/\q.cell? ⟨gn,0,none⟩=some (.int .i64 z)) hmx (by kernel_rfl) (λhw hcl=>?_)
 generalize w1.drew=wd at *
 refine tq (i:=0) (v:=.pointer (some ⟨rb,0,none⟩)) (λhcl=>?_)
 refine tq (i:=1) (v:=.pointer (some ⟨rb,0,none⟩)) (λhcl=>?_)
 refine tq (i:=2) (v:=.pointer (some ⟨rb,0,none⟩)) (λhcl=>?_)
 refine tq (i:=3) (v:=.pointer (some ⟨rb,0,none⟩)) (λhcl=>?_)
 refine tq (i:=4) (v:=.pointer (some ⟨rb,0,none⟩)) (λhcl=>?_)
 refine tq (i:=5) (v:=.slice aN nN cN) (λhcl=>?_)
 refine tq (i:=6) (v:=.slice (some ⟨gn,0,none⟩) 1 cn) (λhcl=>?_)
 refine tq (i:=7) (v:=.pointer (some ⟨gn,0,none⟩)) (λhcl=>?_)
 refine tq (i:=8) (v:=.int .i64 z) (λhcl=>?_)
 refine anyS_one2 (i:=9) (by kernel_rfl) hcl (λhcl=>wpOpIn_step rfl (λK hK=>?_))
 go_simp
 refine hK _ _ ⟨Or.inr ⟨cellq (box1 _ _) HSS.out.1,cellq (box1 _ _) HSS.out.2⟩,?_⟩
 clear hK K
 have hzz:w0.heap.size<=wd.heap.size:=HD.out.nx.size
 refine anyS_one2 (i:=10) (by kernel_rfl) hcl (λhcl=>wpOpIn_step rfl (λK hK=>?_))
 refine app_int_in rfl (.tmp 27) (.tmp 31) rfl w0.heap.size nN (.slice aN nN cN) (ndO ps) (z) wd _ rfl (by simp[Act.eval]) HD.out.n (by simp[Act.eval]) HLN.out (by omega) hzz ?_
 intro a1 c1 wx r1 r2 r3
 obtain⟨hbx,hrm⟩:=HD.out.growN r1 r2 r3
 have HBX:=mkHid' hbx
 have HRX:=mkHid' hrm
 have HB3:=mkHid' (HB2.out.chg r2 HNN.out)
 have HC2:Hid (wx.cell? ⟨gn,0,none⟩=some (.int .i64 z)):=by
  have e1:csn[0]?=some (.int .i64 z):=HCS.out
  exact HB3.out.blk.cell (i:=0) e1
 have HB4:=mkHid' (HB3.out.setOther HRG.out.symm 0 (.slice a1 (nN+1) c1))
 have HSY:Hid ((λq=>q.cell? ⟨rb,0,none⟩=some (.slice aN nN cN)/\q.cell? ⟨gn,0,none⟩=some (.int .i64 z)) wx):=⟨HBX.out.blk.cell (i:=0) rfl,HC2.out⟩
 clear HSS
 have HSS:=HSY
 clear HSY
 refine hK _ _ ⟨Or.inr HSS.out,?_⟩
 clear hK K
 clear hrm hbx r1 r2 r3 hzz HD HB2 HB3 HC2
 refine tq (i:=11) (v:=.pointer (some ⟨rb,0,none⟩)) (λhcl=>?_)
 refine tq (i:=12) (v:=.pointer (some ⟨rb,0,none⟩)) (λhcl=>?_)
 refine tq (i:=13) (v:=.pointer (some ⟨rb,0,none⟩)) (λhcl=>?_)
 have q_:wx.cell? ⟨rb,0,none⟩=some (.slice aN nN cN):=HBX.out.blk.cell (i:=0) rfl
 have f_:=HBX.out.blk.frozen 0
 refine anyS_one (i:=14) (by kernel_rfl) (wpOpIn_step rfl (λK hK=>?_))
 go_simp
 refine hK _ _ ⟨Or.inl (by decide),?_⟩
 clear hK K
 refine anyS_done (by kernel_rfl) ?_ _
 clear hw hcl q_ f_ HSS HBX
 generalize wx.setCell ⟨rb,0,none⟩ (.slice a1 (nN+1) c1)=w3 at *
 have c0:w3.cell? ⟨gn,0,none⟩=some (.int .i64 z):=HB4.out.blk.cell (i:=0) HCS.out
 go_wp2_with fail
 refine(nodeName_any z w3).mono ?_
 rintro e w4 ⟨rfl,hx⟩
 have HR4:=mkHid' (HRX.out.next hx)
 clear hx HRX c0 HB4
 go_wp2_with fail
 refine(note_any w0 rb _ vW vR vT _ line vL _ _ _ _ _ _ w4 HR4.out HLL.out 0 z 0 [] (.slice none 0 0) ⟨rfl,Or.inl ⟨rfl,rfl⟩⟩).mono ?_
 rintro e w5 ⟨rfl,vL',hr5⟩
 have HR5:=mkHid' hr5
 clear hr5 HR4
 go_wp2
 go_ret
 refine Or.inl ⟨HC0.out,rfl,⟨rdS f,line,.slice none 0 0,.slice none 0 0,.slice none 0 0,.slice none 0 0⟩,rfl,rfl,.slice a1 (nN+1) c1,vW,vR,vT,vL',?_⟩
 have h5:=HR5.out
 simpa [utO_snoc,ndO_snoc,wyO_snoc,rlO_snoc,tnO_snoc,irO_snoc,lnO_snoc,ndP,wyP,rlP,tnP,irP,lnP,selfN,usesN,HRD.out] using h5
theorem readUTurn_any (w0:World)(rb:Nat)(line:Int)(ps:List Px)(w:World)(h:RMx w0 w rb line ps)(hps:ps.length<=300000)(C g n c:Nat)(f:List ByteArray)(hf:OwnSt C w (.slice (some ⟨g,0,none⟩) n c) f)(hn:f.length=n)(hn1:n<=300001)(hs:∀i,i<f.length->(sat f i).size<=300000)(hw:(sat f 0).toList=[117,116,117,114,110]) :
  Calls Tryz.prog 55 #[.pointer (some ⟨rb,0,none⟩),.slice (some ⟨g,0,none⟩) n c] w λe w'=>ReadR w0 w w' rb line ps f e:=by
 have hmx:Tryz.prog.follows .mixedOrders=true:=by kernel_rfl
 obtain⟨vN,vW,vR,vT,vL,h⟩:=h
 have HR:=mkHid' h
 have HF:=mkHid' hf
 have HN:=mkHid' hn
 have HS:=mkHid' hs
 have HCK:=mkHid' (ck_uturn hw)
 have HW:=mkHid' hw
 have hcap:=ownSt_cap hf
 have HLL:Hid ((lnO ps).length<=300001):=by unfold Hid;rw[lnO_len];omega
 clear h hf hs hw
 rw[hn] at HCK
 clear hn
 by_cases h2:n=2
 case neg=>
  have HC:Hid (chkS f=6):=by unfold Hid;rw[HCK.out,if_pos h2]
  have d2:((n:Int) !=2)=true:=by simp;omega
  go_enter Tryz.func55,Tryz.ntmps55
  go_wp2_with fail
  refine(refuse_any rb 6 line _ w HR.out.bx rfl).mono ?_
  rintro e wr1 ⟨⟨v,rfl,hfl⟩,hx⟩
  have HFL:=mkHid' (hfl)
  have HXL:=mkHid' (hx)
  clear hfl hx
  go_wp2
  go_ret
  exact Or.inr ⟨by rw[HC.out];decide,_,rfl,by rw[HC.out];exact HFL.out,HXL.out⟩
 subst h2
 rw[if_neg (by simp)] at HCK
 go_enter Tryz.func55,Tryz.ntmps55
 go_wp2_with fail
 refine(rnums_any rb line _ (some ⟨g,1,none⟩) 1 _ (f.drop 1) w HR.out.bx rfl (hsr_drop HF.out HN.out 1 _ (by omega)) (λi hi=>by rw[sat_drop];exact HS.out _ (by rw[List.length_drop] at hi;omega)) (by omega)).mono ?_
 rintro e w1 ⟨hr,hx⟩
 rcases hr with⟨hok,v,rfl,ho⟩|⟨hno,v,rfl,fb,rfl,hfb,hfl⟩
 case inr=>
  have HC:Hid (chkS f=8):=by unfold Hid;rw[HCK.out,hno];rfl
  have HFL:Hid (FltR w w1 8 line (.iface 59 (.pointer (some ⟨fb,0,none⟩)))):=⟨fb,rfl,hfb,hfl⟩
  have HXL:=mkHid' hx
  clear hx hno hfb hfl
  go_wp2
  go_ret
  exact Or.inr ⟨by rw[HC.out];decide,_,rfl,by rw[HC.out];exact HFL.out,HXL.out⟩
 have HC0:Hid (chkS f=0):=by unfold Hid;rw[HCK.out,hok];rfl
 have HR1:=mkHid' (HR.out.next hx)
 obtain⟨gn,cn,csn,ev,hgn,-,hbn,hcn⟩:=ho.open (by rw[vsL_len,List.length_drop,HN.out];decide)
 have hvl:(vsL (f.drop 1)).length=1:=by rw[vsL_len,List.length_drop,HN.out]
 rw[hvl] at ev hcn
 subst ev
 have HBN:=mkHid' hbn
 have HNE:Hid (∀{v:Value}{k m t:Nat}{xs:List Value},w.ownsRow w0.heap.size t k v m xs->¬(some gn=v.ownBlock)):=λho e=>by have:=(own_lt ho gn e.symm).2;omega
 have hrg:rb≠gn:=by have:=HR.out.bx.lt;omega
 have HRG:=mkHid' hrg
 have HVA:Hid (∀i,i<1->iat (vsL (f.drop 1)) i=iat (vsL f) (1+i)):=λi hi=>by rw[vsL_at (by rw[List.length_drop,HN.out];omega),vsL_at (by rw[HN.out];omega),sat_drop]
 have HCN:Hid (∀i,i<1->w1.cell? ⟨gn,i,none⟩=some (.int .i64 (iat (vsL f) (1+i)))):=λi hi=>by rw[<-HVA.out i hi];exact hcn i hi
 clear hok hx ho hgn hvl hbn hcn hrg HVA
 have c0:=HCN.out 0 (by decide)
 have HRD:Hid (rdS f=⟨5,0,0,zWy,zRl,iat (vsL f) 1,[],[]⟩):=by
  unfold Hid rdS
  rw[if_neg (by rw[HW.out];decide),if_neg (by rw[HW.out];decide),if_neg (by unfold relB;rw[HW.out];decide),if_neg (by rw[HW.out];decide)]
 clear HCN
 rw[Nat.add_zero] at c0
 generalize iat (vsL f) 1=z at *
 have q_:w1.cell? ⟨rb,4,none⟩=some (.int .i64 (utO ps)):=HR1.out.bx.blk.cell (i:=4) rfl
 have f_:=HR1.out.bx.blk.frozen 4
 have HR2:=mkHid' (HR1.out.setU z)
 clear HR HR1
 go_upto_region 7 with fail
 generalize w1.setCell ⟨rb,4,none⟩ (.int .i64 z)=w2 at *
 clear q_ f_ c0
 go_wp2_with fail
 refine(note_any w0 rb _ vW vR vT _ line vL _ _ _ _ _ _ w2 HR2.out HLL.out 4 0 0 [] (.slice none 0 0) ⟨rfl,Or.inl ⟨rfl,rfl⟩⟩).mono ?_
 rintro e w5 ⟨rfl,vL',hr5⟩
 have HR5:=mkHid' hr5
 clear hr5 HR2
 go_wp2
 go_ret
 refine Or.inl ⟨HC0.out,rfl,⟨rdS f,line,.slice none 0 0,.slice none 0 0,.slice none 0 0,.slice none 0 0⟩,rfl,rfl,vN,vW,vR,vT,vL',?_⟩
 have h5:=HR5.out
 simpa [utO_snoc,ndO_snoc,wyO_snoc,rlO_snoc,tnO_snoc,irO_snoc,lnO_snoc,ndP,wyP,rlP,tnP,irP,lnP,selfN,usesN,HRD.out] using h5
theorem ownN_two (w:World)(C:Nat)(hC:C<=w.heap.size)(x y:Nm):OwnN C (w.alloc (.cells #[.int .i64 x.1,.int .i64 x.2.1,.int .i64 x.2.2,.int .i64 y.1,.int .i64 y.2.1,.int .i64 y.2.2] 112)) (.slice (some ⟨w.heap.size,0,none⟩) 2 2) [x,y]:=
 ⟨rfl,Or.inr ⟨w.heap.size,2,#[.int .i64 x.1,.int .i64 x.2.1,.int .i64 x.2.2,.int .i64 y.1,.int .i64 y.2.1,.int .i64 y.2.2],rfl,hC,by show(w.heap.push _)[w.heap.size]?=_;simp,Nat.le_refl _,by simp[maxLen],by simp,by simp[ncell]⟩⟩
theorem readTurn_any (w0:World)(rb:Nat)(line:Int)(ps:List Px)(w:World)(h:RMx w0 w rb line ps)(hps:ps.length<=300000)(C g n c:Nat)(f:List ByteArray)(hf:OwnSt C w (.slice (some ⟨g,0,none⟩) n c) f)(hn:f.length=n)(hn1:n<=300001)(hs:∀i,i<f.length->(sat f i).size<=300000)(hw:(sat f 0).toList=[116,117,114,110]) :
  Calls Tryz.prog 54 #[.pointer (some ⟨rb,0,none⟩),.slice (some ⟨g,0,none⟩) n c] w λe w'=>ReadR w0 w w' rb line ps f e:=by
 have hmx:Tryz.prog.follows .mixedOrders=true:=by kernel_rfl
 obtain⟨vN,vW,vR,vT,vL,h⟩:=h
 have HR:=mkHid' h
 have HF:=mkHid' hf
 have HN:=mkHid' hn
 have HS:=mkHid' hs
 have HCK:=mkHid' (ck_turn hw)
 have HW:=mkHid' hw
 have hcap:=ownSt_cap hf
 have HLL:Hid ((lnO ps).length<=300001):=by unfold Hid;rw[lnO_len];omega
 clear h hf hs hw
 rw[hn] at HCK
 clear hn
 by_cases h2:n=4
 case neg=>
  have HC:Hid (chkS f=6):=by unfold Hid;rw[HCK.out,if_pos h2]
  have d2:((n:Int) !=4)=true:=by simp;omega
  go_enter Tryz.func54,Tryz.ntmps54
  go_wp2_with fail
  refine(refuse_any rb 6 line _ w HR.out.bx rfl).mono ?_
  rintro e wr1 ⟨⟨v,rfl,hfl⟩,hx⟩
  have HFL:=mkHid' (hfl)
  have HXL:=mkHid' (hx)
  clear hfl hx
  go_wp2
  go_ret
  exact Or.inr ⟨by rw[HC.out];decide,_,rfl,by rw[HC.out];exact HFL.out,HXL.out⟩
 subst h2
 rw[if_neg (by simp)] at HCK
 go_enter Tryz.func54,Tryz.ntmps54
 go_wp2_with fail
 refine(rnums_any rb line _ (some ⟨g,1,none⟩) 3 _ (f.drop 1) w HR.out.bx rfl (hsr_drop HF.out HN.out 1 _ (by omega)) (λi hi=>by rw[sat_drop];exact HS.out _ (by rw[List.length_drop] at hi;omega)) (by omega)).mono ?_
 rintro e w1 ⟨hr,hx⟩
 rcases hr with⟨hok,v,rfl,ho⟩|⟨hno,v,rfl,fb,rfl,hfb,hfl⟩
 case inr=>
  have HC:Hid (chkS f=8):=by unfold Hid;rw[HCK.out,hno];rfl
  have HFL:Hid (FltR w w1 8 line (.iface 59 (.pointer (some ⟨fb,0,none⟩)))):=⟨fb,rfl,hfb,hfl⟩
  have HXL:=mkHid' hx
  clear hx hno hfb hfl
  go_wp2
  go_ret
  exact Or.inr ⟨by rw[HC.out];decide,_,rfl,by rw[HC.out];exact HFL.out,HXL.out⟩
 have HC0:Hid (chkS f=0):=by unfold Hid;rw[HCK.out,hok];rfl
 have HR1:=mkHid' (HR.out.next hx)
 obtain⟨gn,cn,csn,ev,hgn,-,hbn,hcn⟩:=ho.open (by rw[vsL_len,List.length_drop,HN.out];decide)
 have hvl:(vsL (f.drop 1)).length=3:=by rw[vsL_len,List.length_drop,HN.out]
 rw[hvl] at ev hcn
 subst ev
 have HBN:=mkHid' hbn
 have HNE:Hid (∀{v:Value}{k m t:Nat}{xs:List Value},w.ownsRow w0.heap.size t k v m xs->¬(some gn=v.ownBlock)):=λho e=>by have:=(own_lt ho gn e.symm).2;omega
 have hrg:rb≠gn:=by have:=HR.out.bx.lt;omega
 have HRG:=mkHid' hrg
 have HVA:Hid (∀i,i<3->iat (vsL (f.drop 1)) i=iat (vsL f) (1+i)):=λi hi=>by rw[vsL_at (by rw[List.length_drop,HN.out];omega),vsL_at (by rw[HN.out];omega),sat_drop]
 have HCN:Hid (∀i,i<3->w1.cell? ⟨gn,i,none⟩=some (.int .i64 (iat (vsL f) (1+i)))):=λi hi=>by rw[<-HVA.out i hi];exact hcn i hi
 clear hok hx ho hgn hvl hbn hcn hrg HVA
 have c0:=HCN.out 0 (by decide)
 have c1:=HCN.out 1 (by decide)
 have c2:=HCN.out 2 (by decide)
 have HRD:Hid (rdS f=⟨4,iat (vsL f) 1,iat (vsL f) 2,zWy,zRl,iat (vsL f) 3,[],[iat (vsL f) 1,iat (vsL f) 2]⟩):=by
  unfold Hid rdS
  rw[if_neg (by rw[HW.out];decide),if_neg (by rw[HW.out];decide),if_neg (by unfold relB;rw[HW.out];decide),if_pos HW.out]
 clear HCN
 simp only[Nat.reduceAdd] at c0 c1 c2
 generalize iat (vsL f) 1=z1 at *
 generalize iat (vsL f) 2=z2 at *
 generalize iat (vsL f) 3=z3 at *
 obtain⟨aT,cT,eT⟩:=row_slice HR1.out.tn
 obtain⟨nT,hnT⟩:∃q,(tnO ps).length=q:=⟨_,rfl⟩
 have hnl:=tnO_le ps
 rw[hnT] at eT hnl
 subst eT
 have HLN:Hid ((tnO ps).length=nT):=hnT
 have HWZ:Hid (∀g,(Value.slice aT nT cT).ownBlock=some g->g<w1.heap.size):=λg hg=>(own_lt HR1.out.tn g hg).2
 have HRL:Hid (rb<w1.heap.size):=HR1.out.bx.lt
 clear hnT HR HNE
 go_upto_region 6 with fail
 have hxd:Nx w1 w1.drew:=(Below.refl _ _).drew
 have HSS:Hid ((λq=>q.cell? ⟨gn,0,none⟩=some (.int .i64 z1)/\q.cell? ⟨gn,1,none⟩=some (.int .i64 z2)/\q.cell? ⟨gn,2,none⟩=some (.int .i64 z3)) w1.drew):=⟨cellq hxd c0,cellq hxd c1,cellq hxd c2⟩
 have HXD:=mkHid' hxd
 clear c0 c1 c2 hxd
 refine(wpIn_wide (n:=9)).1 ?_
 refine wpIn_region_S (c:=11) (S:=λq=>q.cell? ⟨gn,0,none⟩=some (.int .i64 z1)/\q.cell? ⟨gn,1,none⟩=some (.int .i64 z2)/\q.cell? ⟨gn,2,none⟩=some (.int .i64 z3)) hmx (by kernel_rfl) (λhw hcl=>?_)
 generalize w1.drew=wd at *
 refine tq (i:=0) (v:=.slice (some ⟨gn,0,none⟩) 3 cn) (λhcl=>?_)
 refine tq (i:=1) (v:=.pointer (some ⟨gn,0,none⟩)) (λhcl=>?_)
 refine tq (i:=2) (v:=.int .i64 z1) (λhcl=>?_)
 refine tq (i:=3) (v:=.slice (some ⟨gn,0,none⟩) 3 cn) (λhcl=>?_)
 refine tq (i:=4) (v:=.pointer (some ⟨gn,1,none⟩)) (λhcl=>?_)
 refine tq (i:=5) (v:=.int .i64 z2) (λhcl=>?_)
 refine tq (i:=6) (v:=.slice (some ⟨gn,0,none⟩) 3 cn) (λhcl=>?_)
 refine tq (i:=7) (v:=.pointer (some ⟨gn,2,none⟩)) (λhcl=>?_)
 refine tq (i:=8) (v:=.int .i64 z3) (λhcl=>?_)
 refine tq (i:=9) (v:=.agg #[.int .i64 z1,.int .i64 z2,.int .i64 z3]) (λhcl=>?_)
 have HTB:Hid (BT (wd.alloc (.cells #[.int .i64 0,.int .i64 0,.int .i64 0] 69)) wd.heap.size #[.int .i64 0,.int .i64 0,.int .i64 0] 69):=BT.new _ _ _ _ rfl
 have HXT:Hid (Nx wd (wd.alloc (.cells #[.int .i64 0,.int .i64 0,.int .i64 0] 69))):=box1 _ _
 refine anyS_one2 (i:=10) (by kernel_rfl) hcl (λhcl=>wpOpIn_step rfl (λK hK=>?_))
 go_simp
 refine hK _ _ ⟨Or.inr ⟨cellq HXT.out HSS.out.1,cellq HXT.out HSS.out.2.1,cellq HXT.out HSS.out.2.2⟩,?_⟩
 clear hK K HSS
 generalize wd.alloc (.cells #[.int .i64 0,.int .i64 0,.int .i64 0] 69)=wt at *
 have HTL:Hid (w1.heap.size<=wd.heap.size):=HXD.out.size
 generalize wd.heap.size=tb at *
 have q0_:wt.cell? ⟨tb,0,none⟩=some (.int .i64 0):=HTB.out.blk.cell (i:=0) rfl
 have f0_:=HTB.out.blk.frozen 0
 have q1_:wt.cell? ⟨tb,1,none⟩=some (.int .i64 0):=HTB.out.blk.cell (i:=1) rfl
 have f1_:=HTB.out.blk.frozen 1
 have q2_:wt.cell? ⟨tb,2,none⟩=some (.int .i64 0):=HTB.out.blk.cell (i:=2) rfl
 have f2_:=HTB.out.blk.frozen 2
 refine anyS_one (i:=11) (by kernel_rfl) (wpOpIn_step rfl (λK hK=>?_))
 go_simp
 refine hK _ _ ⟨Or.inl (by decide),?_⟩
 clear hK K
 refine anyS_done (by kernel_rfl) ?_ _
 have HX2:Hid (Nx w1 (((wt.setCell ⟨tb,0,none⟩ (.int .i64 z1)).setCell ⟨tb,1,none⟩ (.int .i64 z2)).setCell ⟨tb,2,none⟩ (.int .i64 z3))):=by
  have h0:Nx w1 wt:=HXD.out.trans HXT.out
  exact Below.setCell (Below.setCell (Below.setCell h0 HTL.out _) HTL.out _) HTL.out _
 have HT2:Hid (BT (((wt.setCell ⟨tb,0,none⟩ (.int .i64 z1)).setCell ⟨tb,1,none⟩ (.int .i64 z2)).setCell ⟨tb,2,none⟩ (.int .i64 z3)) tb #[.int .i64 z1,.int .i64 z2,.int .i64 z3] 69):=((HTB.out.set 0 (.int .i64 z1)).set 1 (.int .i64 z2)).set 2 (.int .i64 z3)
 clear hw hcl q0_ q1_ q2_ f0_ f1_ f2_ HTB HXT HXD
 generalize ((wt.setCell ⟨tb,0,none⟩ (.int .i64 z1)).setCell ⟨tb,1,none⟩ (.int .i64 z2)).setCell ⟨tb,2,none⟩ (.int .i64 z3)=w2 at *
 have HR2:=mkHid' (HR1.out.next HX2.out)
 have HNN:Hid (¬(some tb=(Value.slice aT nT cT).ownBlock)):=λe=>by have h1:=HWZ.out tb e.symm;have h2:=HTL.out;omega
 have HTR:Hid (tb≠rb):=by have h1:=HRL.out;have h2:=HTL.out;unfold Hid;omega
 clear HR1 HX2 HWZ HRL HTL
 go_upto_region 7 with fail
 have hxd:Nx w2 w2.drew:=(Below.refl _ _).drew
 have HD:=mkHid' (HR2.out.next hxd)
 have HB2:=mkHid' (HT2.out.next hxd)
 have HSS:Hid ((λq=>q.cell? ⟨rb,3,none⟩=some (.slice aT nT cT)/\q.cell? ⟨tb,0,none⟩=some (.int .i64 z1)/\q.cell? ⟨tb,1,none⟩=some (.int .i64 z2)/\q.cell? ⟨tb,2,none⟩=some (.int .i64 z3)) w2.drew):=⟨cellq hxd (HR2.out.bx.blk.cell (i:=3) rfl),cellq hxd (HT2.out.blk.cell (i:=0) rfl),cellq hxd (HT2.out.blk.cell (i:=1) rfl),cellq hxd (HT2.out.blk.cell (i:=2) rfl)⟩
 clear HR2 hxd HT2
 refine(wpIn_wide (n:=9)).1 ?_
 refine wpIn_region_S (c:=12) (S:=λq=>q.cell? ⟨rb,3,none⟩=some (.slice aT nT cT)/\q.cell? ⟨tb,0,none⟩=some (.int .i64 z1)/\q.cell? ⟨tb,1,none⟩=some (.int .i64 z2)/\q.cell? ⟨tb,2,none⟩=some (.int .i64 z3)) hmx (by kernel_rfl) (λhw hcl=>?_)
 generalize w2.drew=wd at *
 refine tq (i:=0) (v:=.pointer (some ⟨rb,0,none⟩)) (λhcl=>?_)
 refine tq (i:=1) (v:=.pointer (some ⟨rb,0,none⟩)) (λhcl=>?_)
 refine tq (i:=2) (v:=.pointer (some ⟨rb,0,none⟩)) (λhcl=>?_)
 refine tq (i:=3) (v:=.pointer (some ⟨rb,0,none⟩)) (λhcl=>?_)
 refine tq (i:=4) (v:=.pointer (some ⟨rb,3,none⟩)) (λhcl=>?_)
 refine tq (i:=5) (v:=.slice aT nT cT) (λhcl=>?_)
 refine tq (i:=6) (v:=.agg #[.int .i64 z1,.int .i64 z2,.int .i64 z3]) (λhcl=>?_)
 refine anyS_one2 (i:=7) (by kernel_rfl) hcl (λhcl=>wpOpIn_step rfl (λK hK=>?_))
 go_simp
 refine hK _ _ ⟨Or.inr ⟨cellq (box1 _ _) HSS.out.1,cellq (box1 _ _) HSS.out.2.1,cellq (box1 _ _) HSS.out.2.2.1,cellq (box1 _ _) HSS.out.2.2.2⟩,?_⟩
 clear hK K
 have hzz:w0.heap.size<=wd.heap.size:=HD.out.nx.size
 refine anyS_one2 (i:=8) (by kernel_rfl) hcl (λhcl=>wpOpIn_step rfl (λK hK=>?_))
 refine app_tn_in rfl (.tmp 38) (.tmp 40) rfl w0.heap.size nT (.slice aT nT cT) (tnO ps) (⟨z1,z2,z3⟩) wd _ rfl (by simp[Act.eval]) HD.out.tn (by simp[Act.eval]) HLN.out (by intro u hu;simp[tcell] at hu;rcases hu with rfl|rfl|rfl<;>rfl) (by omega) hzz ?_
 intro a1 c1 wx r1 r2
 obtain⟨hbx,hrm⟩:=HD.out.growT r1 r2
 have HBX:=mkHid' hbx
 have HRX:=mkHid' hrm
 have HB3:=mkHid' (HB2.out.chg r2 HNN.out)
 have HB4:=mkHid' (HB3.out.setOther HTR.out 3 (.slice a1 (nT+1) c1))
 have HSY:Hid ((λq=>q.cell? ⟨rb,3,none⟩=some (.slice aT nT cT)/\q.cell? ⟨tb,0,none⟩=some (.int .i64 z1)/\q.cell? ⟨tb,1,none⟩=some (.int .i64 z2)/\q.cell? ⟨tb,2,none⟩=some (.int .i64 z3)) wx):=⟨HBX.out.blk.cell (i:=3) rfl,HB3.out.blk.cell (i:=0) rfl,HB3.out.blk.cell (i:=1) rfl,HB3.out.blk.cell (i:=2) rfl⟩
 clear HSS
 have HSS:=HSY
 clear HSY
 refine hK _ _ ⟨Or.inr HSS.out,?_⟩
 clear hK K
 clear hrm hbx r1 r2 hzz HD HB2 HB3
 refine tq (i:=9) (v:=.pointer (some ⟨rb,0,none⟩)) (λhcl=>?_)
 refine tq (i:=10) (v:=.pointer (some ⟨rb,0,none⟩)) (λhcl=>?_)
 refine tq (i:=11) (v:=.pointer (some ⟨rb,3,none⟩)) (λhcl=>?_)
 have q_:wx.cell? ⟨rb,3,none⟩=some (.slice aT nT cT):=HBX.out.blk.cell (i:=3) rfl
 have f_:=HBX.out.blk.frozen 3
 refine anyS_one (i:=12) (by kernel_rfl) (wpOpIn_step rfl (λK hK=>?_))
 go_simp
 refine hK _ _ ⟨Or.inl (by decide),?_⟩
 clear hK K
 refine anyS_done (by kernel_rfl) ?_ _
 clear hw hcl q_ f_ HSS HBX
 generalize wx.setCell ⟨rb,3,none⟩ (.slice a1 (nT+1) c1)=w3 at *
 go_upto_region 8 with fail
 have hxd:Nx w3 w3.drew:=(Below.refl _ _).drew
 have HR4:=mkHid' (HRX.out.next hxd)
 have HSS:Hid ((λq=>q.cell? ⟨tb,0,none⟩=some (.int .i64 z1)/\q.cell? ⟨tb,1,none⟩=some (.int .i64 z2)) w3.drew):=⟨cellq hxd (HB4.out.blk.cell (i:=0) rfl),cellq hxd (HB4.out.blk.cell (i:=1) rfl)⟩
 clear HRX HB4 hxd
 refine(wpIn_wide (n:=9)).1 ?_
 refine wpIn_region_S (c:=13) (S:=λq=>q.cell? ⟨tb,0,none⟩=some (.int .i64 z1)/\q.cell? ⟨tb,1,none⟩=some (.int .i64 z2)) hmx (by kernel_rfl) (λhw hcl=>?_)
 generalize w3.drew=w4 at *
 refine tq (i:=0) (v:=.pointer (some ⟨rb,0,none⟩)) (λhcl=>?_)
 refine tq (i:=1) (v:=.pointer (some ⟨tb,0,none⟩)) (λhcl=>?_)
 refine tq (i:=2) (v:=.int .i64 z1) (λhcl=>?_)
 refine tq (i:=3) (v:=.pointer (some ⟨tb,1,none⟩)) (λhcl=>?_)
 refine tq (i:=4) (v:=.int .i64 z2) (λhcl=>?_)
 refine tq (i:=5) (v:=.agg #[.int .i64 3,.int .i64 z1,.int .i64 z2]) (λhcl=>?_)
 refine tq (i:=6) (v:=.pointer (some ⟨tb,0,none⟩)) (λhcl=>?_)
 refine tq (i:=7) (v:=.int .i64 z1) (λhcl=>?_)
 refine tq (i:=9) (v:=.pointer (some ⟨tb,1,none⟩)) (λhcl=>?_)
 refine tq (i:=10) (v:=.int .i64 z2) (λhcl=>?_)
 refine anyS_one2 (i:=8) (by kernel_rfl) hcl (λhcl=>wpOpIn_step rfl (λK hK=>?_))
 go_simp
 refine⟨trivial,(callsIn_wide.2 (wayName_any z1 w4)).mono ?_⟩
 rintro e w5 ⟨rfl,hx6⟩
 have HRn:=mkHid' (HR4.out.next hx6)
 have HSn:Hid ((λq=>q.cell? ⟨tb,0,none⟩=some (.int .i64 z1)/\q.cell? ⟨tb,1,none⟩=some (.int .i64 z2)) w5):=⟨cellq hx6 HSS.out.1,cellq hx6 HSS.out.2⟩
 clear HR4 HSS hx6
 have HR4:=HRn
 have HSS:=HSn
 clear HRn HSn
 refine hK _ _ ⟨Or.inr HSS.out,?_⟩
 clear hK K
 refine anyS_one2 (i:=11) (by kernel_rfl) hcl (λhcl=>wpOpIn_step rfl (λK hK=>?_))
 go_simp
 refine⟨trivial,(callsIn_wide.2 (wayName_any z2 w5)).mono ?_⟩
 rintro e w6 ⟨rfl,hx6⟩
 have HRn:=mkHid' (HR4.out.next hx6)
 have HSn:Hid ((λq=>q.cell? ⟨tb,0,none⟩=some (.int .i64 z1)/\q.cell? ⟨tb,1,none⟩=some (.int .i64 z2)) w6):=⟨cellq hx6 HSS.out.1,cellq hx6 HSS.out.2⟩
 clear HR4 HSS hx6
 have HR4:=HRn
 have HSS:=HSn
 clear HRn HSn
 refine hK _ _ ⟨Or.inr HSS.out,?_⟩
 clear hK K
 have HR6:=HR4
 have HS6:=HSS
 clear HR4 HSS
 refine anyS_one2 (i:=12) (by kernel_rfl) hcl (λhcl=>wpOpIn_step rfl (λK hK=>?_))
 go_simp
 refine hK _ _ ⟨Or.inr ⟨cellq (box1 _ _) HS6.out.1,cellq (box1 _ _) HS6.out.2⟩,?_⟩
 clear hK K HS6
 have HR7:=mkHid' (HR6.out.next (box1 w6 (.cells #[.int .i64 1,.int .i64 z1,.int .i64 0,.int .i64 1,.int .i64 z2,.int .i64 0] 112)))
 have HU7:=mkHid' (ownN_two w6 w0.heap.size HR6.out.nx.size (1,z1,0) (1,z2,0))
 clear HR6
 generalize w6.alloc (.cells #[.int .i64 1,.int .i64 z1,.int .i64 0,.int .i64 1,.int .i64 z2,.int .i64 0] 112)=w7 at *
 generalize w6.heap.size=ub at *
 refine anyS_one (i:=13) (by kernel_rfl) (wpOpIn_step rfl (λK hK=>?_))
 go_simp
 refine⟨trivial,(callsIn_wide.2 (note_any w0 rb _ _ _ _ _ line vL _ _ _ _ _ _ w7 HR7.out HLL.out 3 z1 z2 [(1,z1,0),(1,z2,0)] (.slice (some ⟨ub,0,none⟩) 2 2) HU7.out)).mono ?_⟩
 rintro e w8 ⟨rfl,vL',hr8⟩
 have HR8:=mkHid' hr8
 refine hK _ _ ⟨Or.inl (by decide),?_⟩
 clear hK K hr8 HR7 HU7
 refine anyS_done (by kernel_rfl) ?_ _
 clear hw hcl
 go_wp2
 go_ret
 refine Or.inl ⟨HC0.out,rfl,⟨rdS f,line,.slice none 0 0,.slice none 0 0,.slice none 0 0,.slice (some ⟨ub,0,none⟩) 2 2⟩,rfl,rfl,vN,vW,vR,.slice a1 (nT+1) c1,vL',?_⟩
 have h8:=HR8.out
 simpa [utO_snoc,ndO_snoc,wyO_snoc,rlO_snoc,tnO_snoc,irO_snoc,lnO_snoc,ndP,wyP,rlP,tnP,irP,lnP,selfN,usesN,HRD.out] using h8
end Go.Proofs.YthhkjbfkgdlkmaaGreatDoor
