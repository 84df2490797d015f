import Derived.Test.YthhkjbfkgdlkmaaGreatDoorDC
import Derived.Test.YthhkjbfkgdlkmaaGreatDoorLB
import Derived.Test.YthhkjbfkgdlkmaaGreatDoorKJ
import Derived.Laws.BytesArg
import Derived.Laws.IdiomStrings
import Derived.Lib.ConvBytes
namespace Go.Proofs.YthhkjbfkgdlkmaaGreatDoor
open Go.RowKit Go.Sort
set_option linter.unusedVariables false
set_option maxRecDepth 1000000
set_option maxHeartbeats 16000000
def wayL (x:Wy)(a b:Value):List Value:=[.int .i64 x.id,.bool x.both,a,b]
def wrow (ws:List Wy)(vn vw:Nat->Value):List Value:=(List.range ws.length).flatMap λi=>wayL (wat ws i) (vn i) (vw i)
def OwnWs (C:Nat)(w:World)(v:Value)(ws:List Wy)(vn vw:Nat->Value):Prop:=w.ownsRow C 45 4 v ws.length (wrow ws vn vw)
theorem OwnWs.at {C:Nat}{w:World}{v:Value}{ws:List Wy}{vn vw:Nat->Value}(h:OwnWs C w v ws vn vw){i:Nat}(hi:i<ws.length) :
  ∃b c,v=.slice (some ⟨b,0,none⟩) ws.length c/\C<=b/\b<w.heap.size/\w.cell? ⟨b,i*4,none⟩=some (.int .i64 (wat ws i).id)/\w.cell? ⟨b,i*4+1,none⟩=some (.bool (wat ws i).both)/\w.cell? ⟨b,i*4+2,none⟩=some (vn i)/\w.cell? ⟨b,i*4+3,none⟩=some (vw i):=by
 obtain⟨b,c,e,_,_,hC,hb,k⟩:=row_cells (l:=List.range ws.length) (f:=λi=>wayL (wat ws i) (vn i) (vw i)) h (List.length_range) (by decide) (λ_=>rfl) (i:=i) (x:=i) (by simp[hi])
 exact⟨b,c,e,hC,hb,k 0 (by omega),k 1 (by omega),k 2 (by omega),k 3 (by omega)⟩
theorem OwnWs.held {C:Nat}{w:World}{v:Value}{ws:List Wy}{vn vw:Nat->Value}(h:OwnWs C w v ws vn vw)(hn:∀i,i<ws.length->OwnI C w (vn i) (wat ws i).nodes)(hw:∀i,i<ws.length->OwnI C w (vw i) (wat ws i).weights):HWays C w v ws:=by
 obtain⟨a,c,rfl⟩:=row_slice h
 refine⟨a,c,rfl,row_max h,λhp=>?_⟩
 obtain⟨b,c',e,hC,hb,_⟩:=h.at hp
 simp only[Value.slice.injEq] at e
 obtain⟨rfl,_,rfl⟩:=e
 refine⟨b,0,rfl,hC,hb,λi hi=>?_⟩
 obtain⟨b',c',e,_,_,k0,k1,k2,k3⟩:=h.at hi
 simp only[Value.slice.injEq,Option.some.injEq,Addr.mk.injEq] at e
 obtain⟨⟨rfl,_⟩,_⟩:=e
 rw[Nat.zero_add]
 exact⟨_,_,k0,k1,k2,k3,(hn i hi).held,(hw i hi).held⟩
def relL (x:Rl)(a:Value):List Value:=[.int .i64 x.id,.bool x.only,.int .i64 x.frm,.int .i64 x.to,.bool x.via,.int .i64 x.node,a]
def rrow (rs:List Rl)(vr:Nat->Value):List Value:=(List.range rs.length).flatMap λi=>relL (rat rs i) (vr i)
def OwnRl (C:Nat)(w:World)(v:Value)(rs:List Rl)(vr:Nat->Value):Prop:=w.ownsRow C 47 7 v rs.length (rrow rs vr)
theorem OwnRl.at {C:Nat}{w:World}{v:Value}{rs:List Rl}{vr:Nat->Value}(h:OwnRl C w v rs vr){i:Nat}(hi:i<rs.length) :
  ∃b c,v=.slice (some ⟨b,0,none⟩) rs.length c/\C<=b/\b<w.heap.size/\w.cell? ⟨b,i*7,none⟩=some (.int .i64 (rat rs i).id)/\w.cell? ⟨b,i*7+1,none⟩=some (.bool (rat rs i).only)/\w.cell? ⟨b,i*7+2,none⟩=some (.int .i64 (rat rs i).frm)/\w.cell? ⟨b,i*7+3,none⟩=some (.int .i64 (rat rs i).to)/\w.cell? ⟨b,i*7+4,none⟩=some (.bool (rat rs i).via)/\w.cell? ⟨b,i*7+5,none⟩=some (.int .i64 (rat rs i).node)/\w.cell? ⟨b,i*7+6,none⟩=some (vr i):=by
 obtain⟨b,c,e,_,_,hC,hb,k⟩:=row_cells (l:=List.range rs.length) (f:=λi=>relL (rat rs i) (vr i)) h (List.length_range) (by decide) (λ_=>rfl) (i:=i) (x:=i) (by simp[hi])
 exact⟨b,c,e,hC,hb,k 0 (by omega),k 1 (by omega),k 2 (by omega),k 3 (by omega),k 4 (by omega),k 5 (by omega),k 6 (by omega)⟩
theorem OwnRl.held {C:Nat}{w:World}{v:Value}{rs:List Rl}{vr:Nat->Value}(h:OwnRl C w v rs vr)(hr:∀i,i<rs.length->OwnI C w (vr i) (rat rs i).ways):HRels C w v rs:=by
 obtain⟨a,c,rfl⟩:=row_slice h
 refine⟨a,c,rfl,row_max h,λhp=>?_⟩
 obtain⟨b,c',e,hC,hb,_⟩:=h.at hp
 simp only[Value.slice.injEq] at e
 obtain⟨rfl,_,rfl⟩:=e
 refine⟨b,0,rfl,hC,hb,λi hi=>?_⟩
 obtain⟨b',c',e,_,_,k0,k1,k2,k3,k4,k5,k6⟩:=h.at hi
 simp only[Value.slice.injEq,Option.some.injEq,Addr.mk.injEq] at e
 obtain⟨⟨rfl,_⟩,_⟩:=e
 rw[Nat.zero_add]
 exact⟨_,k0,k1,k2,k3,k4,k5,k6,(hr i hi).held⟩
def Apt (l:List Value):Prop:=l.Pairwise λa b=>∀g,a.ownBlock=some g->b.ownBlock≠some g
def irows (N:Nt)(v0:Value)(vn vw vr:Nat->Value):List Value:=v0::((List.range N.ways.length).flatMap λi=>[vn i,vw i])++(List.range N.rels.length).map vr
structure ONt (C:Nat)(w:World)(v0 v1 v2 v3:Value)(N:Nt)(vn vw vr:Nat->Value):Prop where
 nodes:OwnI C w v0 N.nodes
 ways:OwnWs C w v1 N.ways vn vw
 wn:∀i,i<N.ways.length->OwnI C w (vn i) (wat N.ways i).nodes
 ww:∀i,i<N.ways.length->OwnI C w (vw i) (wat N.ways i).weights
 rels:OwnRl C w v2 N.rels vr
 rw_:∀i,i<N.rels.length->OwnI C w (vr i) (rat N.rels i).ways
 turns:OwnT C w v3 N.turns
 apart:Apt (irows N v0 vn vw vr)
theorem ONt.held {C:Nat}{w:World}{v0 v1 v2 v3:Value}{N:Nt}{vn vw vr:Nat->Value}(h:ONt C w v0 v1 v2 v3 N vn vw vr):HNet C w v0 v1 v2 v3 N:=⟨h.nodes.held,h.ways.held h.wn h.ww,h.rels.held h.rw_,h.turns.held⟩
theorem ONt.next {C:Nat}{w w':World}{v0 v1 v2 v3:Value}{N:Nt}{vn vw vr:Nat->Value}(h:ONt C w v0 v1 v2 v3 N vn vw vr)(k:Nx w w'):ONt C w' v0 v1 v2 v3 N vn vw vr:=
 ⟨h.nodes.next k,row_next h.ways k,λi hi=>(h.wn i hi).next k,λi hi=>(h.ww i hi).next k,row_next h.rels k,λi hi=>(h.rw_ i hi).next k,row_next h.turns k,h.apart⟩
theorem HTurns.at {B:Nat}{w:World}{tb tq n c:Nat}{ts:List Tn}(h:HTurns B w (.slice (some ⟨tb,tq,none⟩) n c) ts){i:Nat}(hi:i<ts.length):HTurn w tb (tq+i*3) (tat ts i):=by
 obtain⟨a,c',e,_,k⟩:=h
 simp only[Value.slice.injEq] at e
 obtain⟨rfl,_,_⟩:=e
 obtain⟨b,o,e2,_,_,hc⟩:=k (by omega)
 simp only[Option.some.injEq,Addr.mk.injEq] at e2
 obtain⟨rfl,rfl,_⟩:=e2
 exact hc i hi
theorem BT.setOther {w:World}{b g t:Nat}{cs:Array Value}(h:BT w b cs t)(hn:b≠g)(i:Nat)(v:Value):BT (w.setCell ⟨g,i,none⟩ v) b cs t:=h.chg (Chg.set (S:=λx=>x=g) _ _ _ rfl) hn
theorem row_setBT {C t u sz n g:Nat}{w:World}{v:Value}{xs:List Value}{cs:Array Value}(h:w.ownsRow C t sz v n xs)(hb:BT w g cs u)(hn:u≠t)(i:Nat)(x:Value):(w.setCell ⟨g,i,none⟩ x).ownsRow C t sz v n xs:=
 row_chg h (Chg.set (S:=λy=>y=g) _ _ _ rfl) (λk hk e=>by
  have e':k=g:=e
  subst e'
  exact hb.neRow h hn hk.symm)
theorem row_bt {C t sz n g:Nat}{w:World}{v:Value}{xs:List Value}(h:w.ownsRow C t sz v n xs)(hg:v.ownBlock=some g):∃cs,BT w g cs t:=by
 rcases h.2 with⟨rfl,_⟩|⟨b,cap,cur,rfl,_,hh,_⟩
 ·cases hg
 ·have e:b=g:=by simpa [Value.ownBlock] using hg
  subst e
  exact⟨cur,hh⟩
theorem row_apart {C C' t u sz sz' n m:Nat}{w w':World}{v v':Value}{xs ys:List Value}(h:w.ownsRow C t sz v n xs)(k:w.ownsRow C' u sz' v' m ys)(hn:t≠u)(hc:Chg (λx=>some x=v'.ownBlock) w w'):w'.ownsRow C t sz v n xs:=
 row_chg h hc (λg hg hs=>by
  obtain⟨cs,hb⟩:=row_bt h hg
  exact hb.neRow k hn hs)
theorem row_far {C t sz n:Nat}{w w':World}{v v':Value}{xs:List Value}(h:w.ownsRow C t sz v n xs)(ha:∀g,v'.ownBlock=some g->v.ownBlock≠some g)(hc:Chg (λx=>some x=v'.ownBlock) w w'):w'.ownsRow C t sz v n xs:=
 row_chg h hc (λg hg hs=>ha g hs.symm hg)
theorem BT.row {C t u sz n b:Nat}{w w':World}{v:Value}{xs:List Value}{cs:Array Value}(h:BT w b cs u)(k:w.ownsRow C t sz v n xs)(hn:u≠t)(hc:Chg (λx=>some x=v.ownBlock) w w'):BT w' b cs u:=h.chg hc (h.neRow k hn)
def zNet:Array Value:=#[.slice none 0 0,.slice none 0 0,.slice none 0 0,.slice none 0 0,.int .i64 0]
section
variable {C D b:Nat}{w w':World}{S S':Src}{v0 v1 v3:Value}{nodes:List Int}{ws:List Wy}{vn vw:Nat->Value}{ts:List Tn}
end
section
variable {D b:Nat}{wr w w':World}{S S':Src}{id:Int}{bo:Bool}{va vb:Value}{nd wt:List Int}
end
theorem HInts.at_ {B:Nat}{w:World}{b o n c:Nat}{zs:List Int}(h:HInts B w (.slice (some ⟨b,o,none⟩) n c) zs)(i:Nat)(hi:i<zs.length):w.cell? ⟨b,o+i,none⟩=some (.int .i64 (iat zs i)):=by
 obtain⟨a,c',e,_,k⟩:=h
 simp only[Value.slice.injEq] at e
 obtain⟨rfl,_,_⟩:=e
 obtain⟨b',o',e2,_,_,hc⟩:=k (by omega)
 simp only[Option.some.injEq,Addr.mk.injEq] at e2
 obtain⟨rfl,rfl,_⟩:=e2
 exact hc i hi
theorem anyS_one2 {F:Fence}{n:Nat}{P:Program}{ops:Array Oper}{Q:Exit->Act->World->Prop}{md:Region.Mode}{S:World->Prop}{c i fuel:Nat}{listed:Array Bool}{a:Act}{w:World}(hr:Region.ready md ops listed=[i])(hcl:Cl md ops listed)(h:Cl md ops (listed.setIfInBounds i true)->wpOpIn F n P ops Q i (λa' w'=>(c<=i\/S w')/\wpAnyS F n P md ops Q S c fuel (listed.setIfInBounds i true) a' w') a w):wpAnyS F n P md ops Q S c (fuel+1) listed a w:=
 anyS_one hr (h (hcl.step (by rw[hr];simp)))
theorem mkHid' {p:Prop}(h:p):Hid p:=h
def HBy (B:Nat)(w:World)(v:Value)(bs:List UInt8):Prop:=HSlice B w v bs.length λb off i=>w.cell? ⟨b,off+i,none⟩=some (.int .u8 (byteAt bs i))
theorem Chg.cellAt {T:Nat->Prop}{w w':World}{b o:Nat}(h:Chg T w w')(hb:b<w.heap.size)(hn:¬T b):w'.cell? ⟨b,o,none⟩=w.cell? ⟨b,o,none⟩:=by
 have:=h.block b hb hn
 unfold World.cell?
 simp only[this]
section
variable {w wr w':World}{id:Int}{bo:Bool}{va vb:Value}{nd wt:List Int}
end
def bt (s:ByteArray)(i:Nat):Nat:=(s.data.toList.getD i 0).toNat
theorem bt_at {s:ByteArray}{i:Nat}(h:i<s.size):(s[i]'h).toNat=bt s i:=by
 have h':i<s.data.toList.length:=by simpa using h
 unfold bt
 rw[List.getD_eq_getElem?_getD,List.getElem?_eq_getElem h']
 simp
 rfl
theorem bt_lt (s:ByteArray)(i:Nat):bt s i<256:=(s.data.toList.getD i 0).toNat_lt
def stOf (bs:List UInt8):ByteArray:=⟨bs.toArray⟩
theorem stOf_size (bs:List UInt8):(stOf bs).size=bs.length:=by simp[stOf,ByteArray.size]
def dgB (s:ByteArray)(i:Nat):Bool:=decide (48<=bt s i)&&decide (bt s i<=57)
def vTo (s:ByteArray):Nat->Int
 |0=>0
 |k+1=>vTo s k*10+((bt s k:Int)-48)
def valS (s:ByteArray):Int:=if s.size=0\/7<s.size then -1 else if bt s 0=48/\1<s.size then -1 else if allN s.size (dgB s)=false then -1 else if 1048576<vTo s s.size then -1 else vTo s s.size
theorem vTo_in {s:ByteArray}:∀k,allTo (dgB s) k->0<=vTo s k/\vTo s k<10 ^ k
 |0,_=>⟨Int.le_refl _,by show(0:Int)<1;decide⟩
 |k+1,h=>by
  have ih:=vTo_in k (λi hi=>h i (by omega))
  have hd:=h k (by omega)
  unfold dgB at hd
  simp at hd
  show 0<=vTo s k*10+((bt s k:Int)-48)/\vTo s k*10+((bt s k:Int)-48)<10 ^ (k+1)
  rw[Int.pow_succ]
  omega
theorem vTo_cap {s:ByteArray}{k:Nat}(hk:k<=7)(h:allTo (dgB s) k):0<=vTo s k/\vTo s k<10000000:=by
 have h1:=vTo_in k h
 have h2:(10:Int) ^ k<=10 ^ 7:=by
  match k,hk with
  |0,_=>decide
  |1,_=>decide
  |2,_=>decide
  |3,_=>decide
  |4,_=>decide
  |5,_=>decide
  |6,_=>decide
  |7,_=>decide
 have h3:(10:Int) ^ 7=10000000:=by decide
 omega
theorem valS_no {s:ByteArray}{k n:Nat}(hn:s.size=n)(h0:¬(n=0\/7<n))(h1:¬(bt s 0=48/\1<n))(hk:k<n)(h:dgB s k=false):-1=valS s:=by
 subst hn
 unfold valS
 rw[if_neg h0,if_neg h1,if_pos (allN_no hk h)]
theorem valS_end {s:ByteArray}{n:Nat}(hn:s.size=n)(h0:¬(n=0\/7<n))(h1:¬(bt s 0=48/\1<n))(h:allTo (dgB s) n):valS s=if 1048576<vTo s n then -1 else vTo s n:=by
 subst hn
 unfold valS
 rw[if_neg h0,if_neg h1,if_neg (by rw[allN_yes (Nat.le_refl _) h];decide)]
theorem valS_in (s:ByteArray):-1<=valS s/\valS s<=1048576:=by
 unfold valS
 split
 ·omega
 ·split
  ·omega
  ·split
   ·omega
   ·rename_i h
    split
    ·omega
    ·have ha:allN s.size (dgB s)=true:=by simpa using h
     have:=vTo_in (s:=s) s.size (λi hi=>List.all_eq_true.1 ha i (List.mem_range.2 hi))
     omega
theorem l1Value_any (s:ByteArray)(w:World)(hl:s.size<=1048576) :
  Calls Tryz.prog 27 #[.string s] w λe w'=>e=.returned (.int .i64 (valS s))/\Nx w w':=by
 have HVD:Hid (s.size=0\/7<s.size->-1=valS s):=λh=>by unfold valS;rw[if_pos h]
 have HV1:Hid (¬(s.size=0\/7<s.size)->(bt s 0=48/\1<s.size)->-1=valS s):=λh h1=>by unfold valS;rw[if_neg h,if_pos h1]
 obtain⟨n,hn⟩:∃n,s.size=n:=⟨_,rfl⟩
 rw[hn] at hl HVD HV1
 have HN:Hid (s.size=n):=hn
 by_cases h0:n=0
 ·have HF:Hid (-1=valS s):=HVD.out (Or.inl h0)
  subst h0
  go_enter Tryz.func27,Tryz.ntmps27
  go_wp2
  go_ret
  exact⟨ret_int HF.out,Nx.refl _⟩
 have d0:((n:Int)==0)=false:=by simp;omega
 by_cases h7:7<n
 ·have HF:Hid (-1=valS s):=HVD.out (Or.inr h7)
  have d7:decide ((7:Int)<n)=true:=by simp;omega
  have d7':(7:Int)<n:=by omega
  go_enter Tryz.func27,Tryz.ntmps27
  go_wp2
  go_ret
  exact⟨ret_int HF.out,Nx.refl _⟩
 have d7:decide ((7:Int)<n)=false:=by simp;omega
 have d7':¬(7:Int)<n:=by omega
 have hb0:∀h:0<s.size,(s[0]'h).toNat=bt s 0:=λh=>bt_at h
 have HC0:Hid (¬(n=0\/7<n)):=by rintro(h|h)<;>omega
 by_cases h1:bt s 0=48/\1<n
 ·have HF:Hid (-1=valS s):=HV1.out HC0.out h1
  have e48:=h1.1
  have h1n:(1:Int)<n:=by omega
  rw[e48] at hb0
  clear h1 e48
  go_enter Tryz.func27,Tryz.ntmps27
  go_wp2
  go_ret
  exact⟨ret_int HF.out,Nx.refl _⟩
 have HC1:Hid (¬(bt s 0=48/\1<n)):=h1
 have H0B:Hid (∀h:0<s.size,(s[0]'h).toNat=bt s 0):=hb0
 go_enter Tryz.func27,Tryz.ntmps27
 go_upto_region 3 with fail
 generalize hbb:bt s 0=b0 at *
 have HCX:Hid (¬(bt s 0=48/\1<n)):=by unfold Hid;rw[hbb];exact HC1.out
 clear hbb
 go_cut [20] from 13 to 19 (λs20 wc=>s20=.bool false/\wc=w)
 case first=>
  by_cases e48:b0=48
  ·subst e48
   have h1n:¬(1:Int)<n:=by have:=HC1.out;omega
   go_wp2
   go_meet
   exact⟨by first|rfl|simp;omega,rfl⟩
  ·have e48':((b0:Int)==48)=false:=by simp;omega
   go_wp2
   go_meet
   exact⟨by first|rfl|simp;omega,rfl⟩
 case rest=>
 obtain⟨rfl,hwc⟩:=hcut
 subst hwc
 clear hb0 h1
 go_wp2
 go_loopw [3,4] (λs3 s4 wr=>∃k:Nat,k<=n/\s4=.int .i64 k/\s3=.int .i64 (vTo s k)/\Hid (allTo (dgB s) k)/\Hid (Nx wc wr)) (λ_ i _=>n-(intOf i).toNat)
 case atStart=>exact⟨0,Nat.zero_le _,rfl,rfl,allTo_zero _,Nx.refl _⟩
 obtain⟨k,hkn,rfl,rfl,HA,HX⟩:=hrel
 by_cases hlt:k<n
 ·have hlt':(k:Int)<n:=by omega
  have hbk:∀h:k<s.size,(s[k]'h).toNat=bt s k:=λh=>bt_at h
  have hb256:=bt_lt s k
  have HNO:Hid (dgB s k=false->-1=valS s):=valS_no HN.out HC0.out HCX.out hlt
  have HVS:Hid (vTo s (k+1)=vTo s k*10+((bt s k:Int)-48)):=rfl
  have HDD:Hid (dgB s k=(decide (48<=bt s k)&&decide (bt s k<=57))):=rfl
  have hvi:=vTo_cap (s:=s) (k:=k) (by omega) HA.out
  generalize bt s k=b at *
  generalize vTo s k=v at *
  by_cases g1:b<48
  ·have d1:decide ((b:Int)<48)=true:=by simp;omega
   have d1':(b:Int)<48:=by omega
   have HF:Hid (-1=valS s):=HNO.out (by rw[HDD.out,decide_eq_false (by omega)];rfl)
   go_wp2
   go_ret
   exact⟨ret_int HF.out,HX.out⟩
  have d1:decide ((b:Int)<48)=false:=by simp;omega
  have d1':¬(b:Int)<48:=by omega
  by_cases g2:57<b
  ·have d2:decide ((57:Int)<(b:Int))=true:=by simp;omega
   have d2':(57:Int)<(b:Int):=by omega
   have HF:Hid (-1=valS s):=HNO.out (by rw[HDD.out,decide_eq_false (show ¬b<=57 by omega)];simp)
   go_wp2
   go_ret
   exact⟨ret_int HF.out,HX.out⟩
  have d2:decide ((57:Int)<(b:Int))=false:=by simp;omega
  have d2':¬(57:Int)<(b:Int):=by omega
  have HD:Hid (dgB s k=true):=by unfold Hid;rw[HDD.out,decide_eq_true (show 48<=b by omega),decide_eq_true (show b<=57 by omega)];rfl
  have w1:IntKind.u8.wrap ((b:Int)-48)=(b:Int)-48:=by simp[IntKind.wrap,IntKind.signed,IntKind.bits];omega
  have w2:IntKind.i64.wrap (v*10)=v*10:=by rw[IntKind.wrap_i64];omega
  have w3:IntKind.i64.wrap (v*10+((b:Int)-48))=v*10+((b:Int)-48):=by rw[IntKind.wrap_i64];omega
  have w4:IntKind.i64.wrap ((b:Int)-48)=(b:Int)-48:=by rw[IntKind.wrap_i64];omega
  clear HNO
  go_wp2
  go_roundw
  case rel=>exact⟨k+1,by omega,by go_num,by rw[HVS.out],allTo_succ HA.out HD.out,HX⟩
  case measure=>simp[intOf];omega
 have ek:k=n:=by omega
 subst ek
 have HE:=mkHid' (valS_end HN.out HC0.out HCX.out HA.out)
 generalize vTo s k=v at *
 by_cases g:1048576<v
 ·have HF:Hid (-1=valS s):=by unfold Hid;rw[HE.out,if_pos g]
  go_wp2
  go_ret
  exact⟨ret_int HF.out,HX.out⟩
 ·have HF:Hid (v=valS s):=by unfold Hid;rw[HE.out,if_neg g]
  go_wp2
  go_ret
  exact⟨ret_int HF.out,HX.out⟩
def ctTo (bs:List UInt8)(sep:UInt8):Nat->List ByteArray×Nat
 |0=>([],0)
 |k+1=>if bs.getD k 0=sep then ((ctTo bs sep k).1++[stOf ((bs.drop (ctTo bs sep k).2).take (k-(ctTo bs sep k).2))],k+1) else ctTo bs sep k
def cutL (bs:List UInt8)(sep:UInt8):List ByteArray:=(ctTo bs sep bs.length).1++[stOf (bs.drop (ctTo bs sep bs.length).2)]
theorem ctTo_le (bs:List UInt8)(sep:UInt8):∀k,(ctTo bs sep k).2<=k/\(ctTo bs sep k).1.length<=k
 |0=>⟨Nat.le_refl _,Nat.le_refl _⟩
 |k+1=>by
  have ih:=ctTo_le bs sep k
  unfold ctTo
  split
  ·exact⟨Nat.le_refl _,by simp;exact ih.2⟩
  ·omega
def OwnSt (C:Nat)(w:World)(v:Value)(ss:List ByteArray):Prop:=w.ownsRow C 9 1 v ss.length (ss.map Value.string)
theorem infoStr9:(Tryz.prog.info? 9).map (λi=>(i.zero,i.size,i.bytes))=some (some (.string ByteArray.empty),1,16):=by kernel_rfl
theorem ownSt_none (w:World):OwnSt w.heap.size (w.alloc (.cells #[] 9)) (.slice (some ⟨w.heap.size,0,none⟩) 0 0) []:=
 ⟨rfl,.inr ⟨w.heap.size,0,#[],rfl,Nat.le_refl _,by show(w.heap.push _)[w.heap.size]?=_;simp,Nat.le_refl _,by simp[maxLen],by simp,by simp⟩⟩
theorem app_str {ops:Array Oper}{rest:List Oper}{o:Oper}{a:Act}{Q:Exit->Act->World->Prop}(hgd:o.guard=none)(s x:Operand)(ho:o.op=.call { callee:=.builtin .append,args:=#[s,x],argTypes:=#[39,39] })
  (C n:Nat) (v:Value) (ss:List ByteArray) (y:ByteArray) (w0:World) (hs:a.eval s=v) (hown:OwnSt C w0 v ss) (hx:a.eval x=.slice (some ⟨w0.heap.size,0,none⟩) 1 1) (hn:ss.length=n) (hm:n<=1000000) (hC:C<=w0.heap.size)
  (h:∀a' c' w',OwnSt C w' (.slice a' (n+1) c') (ss++[y])->Chg (λx=>some x=v.ownBlock) w0 w'->(∀g,(Value.slice a' (n+1) c').ownBlock=some g->v.ownBlock=some g\/w0.heap.size<=g)->wpList Tryz.prog ops Q rest (a.put o.dst (.slice a' (n+1) c')) w') :
  wpList Tryz.prog ops Q (o::rest) a (w0.alloc (.cells #[.string y] 9)):=by
 subst hn
 refine app_row infoStr9 Tryz.underlying39 rfl (by decide) (by decide) hgd s x ho C ss.length v (ss.map Value.string) [.string y] w0 hs hown hx rfl (by intro u hu;simp at hu;subst hu;rfl) hm hC (λa' c' w' r1 r2 r3=>h a' c' w' ?_ r2 r3)
 unfold OwnSt
 rw[List.length_append,List.map_append]
 exact r1
theorem conv_zero (w:World)(p:Option Addr)(c:Nat):(convert 22 9 (.slice p 0 c)).run Tryz.prog w=.ok (.string (stOf [])) w:=by
 rw[run_convert_bytes_string w 22 9 5 _ 0 c Tryz.underlying22 Tryz.underlying5 Tryz.underlying9]
 cases p<;>simp[Conv.bytesToString,loadCells]
 all_goals rfl
theorem conv_at (w:World)(b off n c:Nat)(bs:List UInt8)(hn:bs.length=n)(h:∀i,i<n->w.cell? ⟨b,off+i,none⟩=some (.int .u8 (byteAt bs i))):(convert 22 9 (.slice (some ⟨b,off,none⟩) n c)).run Tryz.prog w=.ok (.string (stOf bs)) w:=by
 have hb:∀i,i<n->byteAt bs i=(bs.map λx:UInt8=>(x.toNat:Int)).getD i 0:=λi hi=>by
  unfold byteAt
  simp[List.getD_eq_getElem?_getD,hn,hi]
 have e:=run_convert_bytes_arg (P:=Tryz.prog) w 22 5 Tryz.underlying22 Tryz.underlying5 b off n c (bs.map λx:UInt8=>(x.toNat:Int)) (by simp[hn]) (λi hi=>by rw[h i hi,hb i hi]) 9 Tryz.underlying9
 rw[e]
 congr 2
 unfold strOfNums stOf
 congr 2
 rw[List.map_map]
 apply List.ext_getElem
 ·simp
 ·intro i h1 h2
  simp
theorem l1Cut_any (B:Nat)(a:Option Addr)(n cap:Nat)(bs:List UInt8)(sep:UInt8)(w:World)(h:HBy B w (.slice a n cap) bs)(hcap:n<=cap)(hl:n<=300000) :
  Calls Tryz.prog 13 #[.slice a n cap,.int .u8 (sep.toNat:Int)] w λe w'=>(∃a' c',e=.returned (.slice a' (cutL bs sep).length c')/\OwnSt w.heap.size w' (.slice a' (cutL bs sep).length c') (cutL bs sep))/\Nx w w':=by
 obtain⟨va,vc,e,_,hk⟩:=h
 simp only[Value.slice.injEq] at e
 obtain⟨rfl,hbl,rfl⟩:=e
 have HN:Hid (bs.length=n):=hbl.symm
 rw[<-hbl] at hk
 have HK:Hid (0<n->∃b off,a=some ⟨b,off,none⟩/\B<=b/\b<w.heap.size/\∀i,i<n->w.cell? ⟨b,off+i,none⟩=some (.int .u8 (byteAt bs i))):=hk
 clear hk hbl
 have HE0:Hid (OwnSt w.heap.size (w.alloc (.cells #[] 9)) (.slice (some ⟨w.heap.size,0,none⟩) 0 0) (ctTo bs sep 0).1):=ownSt_none w
 have HX0:Hid (Nx w (w.alloc (.cells #[] 9))):=box1 _ _
 go_enter Tryz.func13,Tryz.ntmps13
 go_upto_region 2 with fail
 generalize w.alloc (.cells #[] 9)=w0 at *
 go_wp2
 go_loopw [5,6,7] (λs5 s6 s7 wr=>∃(k m c f:Nat) (x:Option Addr),k<=n/\s7=.int .i64 k/\s6=.int .i64 f/\s5=.slice x m c/\f<=k/\m<=k/\Hid ((ctTo bs sep k).2=f/\(ctTo bs sep k).1.length=m)/\Hid (OwnSt w.heap.size wr (.slice x m c) (ctTo bs sep k).1)/\Hid (Nx w wr)) (λ_ _ i _=>n-(intOf i).toNat)
 case atStart=>exact⟨0,0,0,0,_,Nat.zero_le _,rfl,rfl,rfl,Nat.le_refl _,Nat.le_refl _,⟨rfl,rfl⟩,HE0,HX0⟩
 clear HE0 HX0
 obtain⟨k,m,c,f,x,hkn,rfl,rfl,rfl,hfk,hmk,HCT,HO,HX⟩:=hrel
 by_cases hlt:k<n
 ·have hlt':(k:Int)<n:=by omega
  obtain⟨b,off,rfl,-,hb,hc⟩:=HK.out (by omega)
  have xk:=cell_next HX.out hb (hc k hlt)
  generalize hy:byteAt bs k=y at *
  have HBY:Hid (y=(sep.toNat:Int)↔bs.getD k 0=sep):=by
   unfold Hid
   rw[<-hy]
   unfold byteAt
   constructor
   ·intro e
    have e':(bs.getD k 0).toNat=sep.toNat:=by omega
    exact UInt8.toNat_inj.1 e'
   ·intro e;rw[e]
  have HCD:Hid (ctTo bs sep (k+1)=if bs.getD k 0=sep then ((ctTo bs sep k).1++[stOf ((bs.drop (ctTo bs sep k).2).take (k-(ctTo bs sep k).2))],k+1) else ctTo bs sep k):=rfl
  by_cases hs:y=(sep.toNat:Int)
  ·have d1:(y==(sep.toNat:Int))=true:=by simpa using hs
   have HC1:Hid (ctTo bs sep (k+1)=((ctTo bs sep k).1++[stOf ((bs.drop f).take (k-f))],k+1)):=by unfold Hid;rw[HCD.out,if_pos (HBY.out.1 hs),HCT.out.1]
   have hzz:w.heap.size<=wr.heap.size:=HX.out.size
   have HCV:Hid ((convert 22 9 (.slice (some ⟨b,off+f,none⟩) (k-f) (cap-f))).run Tryz.prog wr=.ok (.string (stOf ((bs.drop f).take (k-f)))) wr):=conv_at wr b (off+f) (k-f) (cap-f) _ (by rw[List.length_take,List.length_drop,HN.out];omega) (λi hi=>by
    have hx:=cell_next HX.out hb (hc (f+i) (by omega))
    rw[Nat.add_assoc,hx]
    unfold byteAt
    congr 3
    rw[List.getD_eq_getElem?_getD,List.getD_eq_getElem?_getD,List.getElem?_take_of_lt hi,List.getElem?_drop])
   clear hc HCD HBY hy
   go_wp2_with fail
   rw[HCV.out]
   go_wp2_with (at_builtin;refine app_str rfl _ _ rfl w.heap.size m (.slice x m c) (ctTo bs sep k).1 (stOf ((bs.drop f).take (k-f))) wr rfl HO.out rfl HCT.out.2 (by omega) hzz ?_)
   intro a1 c1 w1 r1 r2 r3
   have HO1:Hid (OwnSt w.heap.size w1 (.slice a1 (m+1) c1) (ctTo bs sep (k+1)).1):=by unfold Hid;rw[HC1.out];exact r1
   have HX1:Hid (Nx w w1):=Below.trans HX.out (r2.below HX.out.size (λq hq=>(own_lt HO.out q hq.symm).1))
   have HCT1:Hid ((ctTo bs sep (k+1)).2=k+1/\(ctTo bs sep (k+1)).1.length=m+1):=by unfold Hid;rw[HC1.out];exact⟨rfl,by rw[List.length_append,HCT.out.2];rfl⟩
   clear r1 r2 r3 HCV xk
   go_wp2
   go_roundw
   case rel=>exact⟨k+1,m+1,c1,k+1,a1,by omega,by go_num,by go_num,rfl,by omega,by omega,HCT1,HO1,HX1⟩
   case measure=>simp[intOf];omega
  ·have d1:(y==(sep.toNat:Int))=false:=by simpa using hs
   have HC1:Hid (ctTo bs sep (k+1)=ctTo bs sep k):=by unfold Hid;rw[HCD.out,if_neg (λe=>hs (HBY.out.2 e))]
   have HO1:Hid (OwnSt w.heap.size wr (.slice x m c) (ctTo bs sep (k+1)).1):=by unfold Hid;rw[HC1.out];exact HO.out
   have HCT1:Hid ((ctTo bs sep (k+1)).2=f/\(ctTo bs sep (k+1)).1.length=m):=by unfold Hid;rw[HC1.out];exact HCT.out
   clear hc hs hy HCD HBY
   go_wp2
   go_roundw
   case rel=>exact⟨k+1,m,c,f,x,by omega,by go_num,rfl,rfl,by omega,by omega,HCT1,HO1,HX⟩
   case measure=>simp[intOf];omega
 have ek:k=n:=by omega
 subst ek
 have HCL:Hid (cutL bs sep=(ctTo bs sep k).1++[stOf (bs.drop f)]):=by unfold Hid cutL;rw[HN.out,HCT.out.1]
 have HCLl:Hid ((cutL bs sep).length=m+1):=by unfold Hid;rw[HCL.out,List.length_append,HCT.out.2];rfl
 have hzz:w.heap.size<=wr.heap.size:=HX.out.size
 by_cases hk0:k=0
 ·subst hk0
  have hf0:f=0:=by omega
  subst hf0
  have hbs:bs.drop 0=[]:=by rw[List.drop_zero];exact List.length_eq_zero_iff.1 HN.out
  have HCV:Hid ((convert 22 9 (.slice a 0 cap)).run Tryz.prog wr=.ok (.string (stOf (bs.drop 0))) wr):=by unfold Hid;rw[hbs];exact conv_zero wr a cap
  clear hbs
  go_wp2_with fail
  rw[HCV.out]
  go_wp2_with (at_builtin;refine app_str rfl _ _ rfl w.heap.size m (.slice x m c) (ctTo bs sep 0).1 (stOf (bs.drop 0)) wr rfl HO.out rfl HCT.out.2 (by omega) hzz ?_)
  intro a1 c1 w1 r1 r2 r3
  have HO1:Hid (OwnSt w.heap.size w1 (.slice a1 (m+1) c1) (cutL bs sep)):=by unfold Hid;rw[HCL.out];exact r1
  have HX1:Hid (Nx w w1):=Below.trans HX.out (r2.below HX.out.size (λq hq=>(own_lt HO.out q hq.symm).1))
  clear r1 r2 r3 HCV HCL
  go_wp2
  go_ret
  rw[HCLl.out]
  exact⟨⟨a1,c1,rfl,HO1.out⟩,HX1.out⟩
 obtain⟨b,off,rfl,-,hb,hc⟩:=HK.out (by omega)
 by_cases hf:f<cap
 ·have hfc:¬cap=f:=by omega
  have HCV:Hid ((convert 22 9 (.slice (some ⟨b,off+f,none⟩) (k-f) (cap-f))).run Tryz.prog wr=.ok (.string (stOf (bs.drop f))) wr):=conv_at wr b (off+f) (k-f) (cap-f) _ (by rw[List.length_drop,HN.out]) (λi hi=>by
   have hx:=cell_next HX.out hb (hc (f+i) (by omega))
   rw[Nat.add_assoc,hx]
   unfold byteAt
   congr 3
   rw[List.getD_eq_getElem?_getD,List.getD_eq_getElem?_getD,List.getElem?_drop])
  clear hc
  go_wp2_with fail
  rw[HCV.out]
  go_wp2_with (at_builtin;refine app_str rfl _ _ rfl w.heap.size m (.slice x m c) (ctTo bs sep k).1 (stOf (bs.drop f)) wr rfl HO.out rfl HCT.out.2 (by omega) hzz ?_)
  intro a1 c1 w1 r1 r2 r3
  have HO1:Hid (OwnSt w.heap.size w1 (.slice a1 (m+1) c1) (cutL bs sep)):=by unfold Hid;rw[HCL.out];exact r1
  have HX1:Hid (Nx w w1):=Below.trans HX.out (r2.below HX.out.size (λq hq=>(own_lt HO.out q hq.symm).1))
  clear r1 r2 r3 HCV HCL
  go_wp2
  go_ret
  rw[HCLl.out]
  exact⟨⟨a1,c1,rfl,HO1.out⟩,HX1.out⟩
 ·have hfc:f=cap:=by omega
  have hfk:k=f:=by omega
  subst hfc
  subst hfk
  have hbs:bs.drop k=[]:=List.drop_eq_nil_of_le (by rw[HN.out];exact Nat.le_refl _)
  have HCV:Hid ((convert 22 9 (.slice (some ⟨b,off,none⟩) 0 0)).run Tryz.prog wr=.ok (.string (stOf (bs.drop k))) wr):=by unfold Hid;rw[hbs];exact conv_zero wr _ 0
  clear hbs hc
  go_wp2_with fail
  rw[HCV.out]
  go_wp2_with (at_builtin;refine app_str rfl _ _ rfl w.heap.size m (.slice x m c) (ctTo bs sep k).1 (stOf (bs.drop k)) wr rfl HO.out rfl HCT.out.2 (by omega) hzz ?_)
  intro a1 c1 w1 r1 r2 r3
  have HO1:Hid (OwnSt w.heap.size w1 (.slice a1 (m+1) c1) (cutL bs sep)):=by unfold Hid;rw[HCL.out];exact r1
  have HX1:Hid (Nx w w1):=Below.trans HX.out (r2.below HX.out.size (λq hq=>(own_lt HO.out q hq.symm).1))
  clear r1 r2 r3 HCV HCL
  go_wp2
  go_ret
  rw[HCLl.out]
  exact⟨⟨a1,c1,rfl,HO1.out⟩,HX1.out⟩
def sat (ss:List ByteArray)(i:Nat):ByteArray:=ss.getD i ⟨#[]⟩
theorem OwnSt.at {C:Nat}{w:World}{a:Option Addr}{n c:Nat}{ss:List ByteArray}(h:OwnSt C w (.slice a n c) ss){i:Nat}(hi:i<ss.length):∃g,a=some ⟨g,0,none⟩/\C<=g/\g<w.heap.size/\w.cell? ⟨g,i,none⟩=some (.string (sat ss i)):=by
 obtain⟨h3,h4⟩:=h
 rcases h4 with⟨_,h4⟩|⟨g,cap,cur,e,hg,hh,hc,hm,hs,ht⟩
 ·omega
 ·simp only[Value.slice.injEq] at e
  refine⟨g,e.1,hg,(Array.getElem?_eq_some_iff.1 hh).1,?_⟩
  have e1:(cur.toList.take (ss.length*1))[i]?=(ss.map Value.string)[i]?:=by rw[ht]
  rw[List.getElem?_take_of_lt (by omega),Array.getElem?_toList,List.getElem?_map,List.getElem?_eq_getElem hi] at e1
  have e2:sat ss i=ss[i]:=by simp[sat,List.getD,hi]
  rw[e2]
  have hh':w.heap[g]?=some (.cells cur 9 (0,0)):=hh
  unfold World.cell?
  simp[hh',e1]
theorem OwnSt.next {C:Nat}{w w':World}{v:Value}{ss:List ByteArray}(h:OwnSt C w v ss)(k:Nx w w'):OwnSt C w' v ss:=row_next h k
theorem OwnSt.base {C C':Nat}{w:World}{v:Value}{ss:List ByteArray}(h:OwnSt C w v ss)(hC:C'<=C):OwnSt C' w v ss:=row_base h hC
theorem bytes_nx (w:World)(e:TypeId)(s:ByteArray):Nx w (Lib.bytesWorld w e s):=
 ⟨rfl,rfl,rfl,by rw[Lib.bytesWorld_size];omega,λk hk=>Lib.bytesWorld_at_old w e s k hk⟩
def okC (x:ByteArray)(j:Nat):Bool:=decide (33<=bt x j)&&decide (bt x j<=126)
def okF (x:ByteArray):Bool:=decide (0<x.size)&&allN x.size (okC x)
def cutS (s:ByteArray):List ByteArray:=cutL s.data.toList 32
def fldS (s:ByteArray):List ByteArray:=if allN (cutS s).length (λi=>okF (sat (cutS s) i))=true then cutS s else []
theorem fld_no {s:ByteArray}{i n:Nat}(hn:(cutS s).length=n)(hi:i<n)(h:okF (sat (cutS s) i)=false):[]=fldS s:=by
 subst hn
 unfold fldS
 rw[allN_no (p:=λi=>okF (sat (cutS s) i)) hi h]
 rfl
theorem fld_yes {s:ByteArray}{i n:Nat}(hn:(cutS s).length=n)(hi:n<=i)(h:allTo (λi=>okF (sat (cutS s) i)) i):cutS s=fldS s:=by
 subst hn
 unfold fldS
 rw[allN_yes hi h,if_pos rfl]
theorem ctTo_size (bs:List UInt8)(sep:UInt8):∀k,k<=bs.length->∀x∈(ctTo bs sep k).1,x.size<=k
 |0,_,x,hx=>by simp[ctTo] at hx
 |k+1,hk,x,hx=>by
  have ih:=ctTo_size bs sep k (by omega)
  unfold ctTo at hx
  split at hx
  ·rcases List.mem_append.1 hx with h|h
   ·have:=ih x h;omega
   ·have e:x=stOf ((bs.drop (ctTo bs sep k).2).take (k-(ctTo bs sep k).2)):=by simpa using h
    rw[e,stOf_size,List.length_take];omega
  ·have:=ih x hx;omega
theorem cut_size {s:ByteArray}{i:Nat}(hi:i<(cutS s).length):(sat (cutS s) i).size<=s.size:=by
 have hm:sat (cutS s) i∈cutS s:=by
  have e2:sat (cutS s) i=(cutS s)[i]:=by simp[sat,List.getD,hi]
  rw[e2];exact List.getElem_mem hi
 have hl:s.data.toList.length=s.size:=by simp
 generalize sat (cutS s) i=x at *
 unfold cutS cutL at hm
 rcases List.mem_append.1 hm with h|h
 ·have:=ctTo_size _ _ _ (Nat.le_refl _) x h;omega
 ·have e:x=stOf (List.drop (ctTo s.data.toList 32 s.data.toList.length).2 s.data.toList):=by simpa using h
  rw[e,stOf_size,List.length_drop];omega
theorem cut_len (s:ByteArray):(cutS s).length<=s.size+1:=by
 unfold cutS cutL
 have:=(ctTo_le s.data.toList 32 s.data.toList.length).2
 have hl:s.data.toList.length=s.size:=by simp
 rw[List.length_append,List.length_singleton]
 omega
theorem l1Fields_any (s:ByteArray)(w:World)(hl:s.size<=300000) :
  Calls Tryz.prog 14 #[.string s] w λe w'=>(∃a' c',e=.returned (.slice a' (fldS s).length c')/\OwnSt w.heap.size w' (.slice a' (fldS s).length c') (fldS s))/\Nx w w':=by
 have HCV:Hid ((convert 9 22 (.string s)).run Tryz.prog w=.ok (.slice (some ⟨w.heap.size,0,none⟩) s.size (grownCap w s.size 0 5)) (Lib.bytesWorld w 5 s)):=Lib.run_convert_string_bytes w _ _ _ s Tryz.underlying9 Tryz.underlying22 Tryz.underlying5
 have hge:=grownCap_ge w s.size 0 5
 have hbl:s.data.toList.length=s.size:=by simp
 have HB:Hid (HBy w.heap.size (Lib.bytesWorld w 5 s) (.slice (some ⟨w.heap.size,0,none⟩) s.size (grownCap w s.size 0 5)) s.data.toList):=⟨_,_,by rw[hbl],by rw[hbl];unfold maxLen;omega,λh0=>⟨w.heap.size,0,rfl,Nat.le_refl _,by rw[Lib.bytesWorld_size];omega,λi hi=>by
  show(Lib.bytesWorld w 5 s).cell? ⟨w.heap.size,0+i,none⟩=some (.int .u8 (byteAt s.data.toList i))
  rw[Nat.zero_add,Lib.bytesWorld_cell w _ s i (by rw[<-hbl];exact hi)]
  rfl⟩⟩
 have HX0:Hid (Nx w (Lib.bytesWorld w 5 s)):=bytes_nx _ _ _
 clear hbl
 generalize grownCap w s.size 0 5=gc at *
 go_enter Tryz.func14,Tryz.ntmps14
 go_wp2_with fail
 rw[HCV.out]
 clear HCV
 generalize Lib.bytesWorld w 5 s=w0 at *
 go_wp2_with fail
 refine(l1Cut_any w.heap.size _ s.size gc s.data.toList 32 w0 HB.out hge hl).mono ?_
 rintro e w1 ⟨⟨a,c,rfl,ho⟩,hx⟩
 have HCD:Hid (cutL s.data.toList 32=cutS s):=rfl
 rw[HCD.out] at ho ⊢
 have hz0:w.heap.size<=w0.heap.size:=HX0.out.size
 have HO:Hid (OwnSt w.heap.size w1 (.slice a (cutS s).length c) (cutS s)):=OwnSt.base ho hz0
 have HX1:Hid (Nx w w1):=HX0.out.trans hx
 have hcl:=cut_len s
 have HSZ:Hid (∀i,i<(cutS s).length->(sat (cutS s) i).size<=s.size):=λi hi=>cut_size hi
 have HNO:Hid (∀i,i<(cutS s).length->okF (sat (cutS s) i)=false->[]=fldS s):=λi hi h=>fld_no rfl hi h
 have HYES:Hid (∀i,(cutS s).length<=i->allTo (λi=>okF (sat (cutS s) i)) i->cutS s=fldS s):=λi hi h=>fld_yes rfl hi h
 clear ho hx HB HX0 HCD
 generalize hfs:(cutS s).length=n at *
 have HFL:Hid ((cutS s).length=n):=hfs
 clear hfs
 generalize cutS s=fs at *
 go_wp2
 go_loopw [4] (λs4 wr=>∃i:Nat,i<=n/\s4=.int .i64 i/\Hid (allTo (λi=>okF (sat fs i)) i)/\Hid (Nx w1 wr)) (λs4 _=>n-(intOf s4).toNat)
 case atStart=>exact⟨0,Nat.zero_le _,rfl,allTo_zero _,Nx.refl _⟩
 obtain⟨i,hin,rfl,HA,HX⟩:=hrel
 by_cases hi:i<n
 case neg=>
  have HF:Hid (fs=fldS s):=HYES.out i (by omega) HA.out
  have HOF:Hid (OwnSt w.heap.size wr (.slice a n c) (fldS s)):=by unfold Hid;rw[<-HF.out];exact OwnSt.next HO.out HX.out
  have HFL2:Hid ((fldS s).length=n):=by unfold Hid;rw[<-HF.out];exact HFL.out
  go_wp2
  go_ret
  rw[HFL2.out]
  exact⟨⟨a,c,rfl,HOF.out⟩,HX1.out.trans HX.out⟩
 obtain⟨g,rfl,-,hg,hcell⟩:=OwnSt.at HO.out (i:=i) (by rw[HFL.out];exact hi)
 have HCELL:Hid (w1.cell? ⟨g,i,none⟩=some (.string (sat fs i))):=hcell
 have hi':(i:Int)<n:=by omega
 have HN1:=mkHid' (HNO.out i hi)
 have HOD:Hid (okF (sat fs i)=(decide (0<(sat fs i).size)&&allN (sat fs i).size (okC (sat fs i)))):=rfl
 have hsz:=HSZ.out i hi
 clear hcell
 generalize hxx:sat fs i=x at *
 have HXX:Hid (sat fs i=x):=hxx
 clear hxx
 obtain⟨m,hm⟩:∃m,x.size=m:=⟨_,rfl⟩
 rw[hm] at HOD hsz
 have HMM:Hid (x.size=m):=hm
 have xc:=cellq HX.out HCELL.out
 have HE0:Hid (OwnSt w.heap.size (wr.alloc (.cells #[] 9)) (.slice (some ⟨wr.heap.size,0,none⟩) 0 0) []):=OwnSt.base (ownSt_none wr) (Nat.le_trans HX1.out.size HX.out.size)
 have HXE:Hid (Nx w (wr.alloc (.cells #[] 9))):=(HX1.out.trans HX.out).trans (box1 _ _)
 by_cases hm0:m=0
 ·subst hm0
  have HF:Hid ([]=fldS s):=HN1.out (by rw[HOD.out];rfl)
  clear HN1
  go_wp2
  go_ret
  rw[<-HF.out]
  exact⟨⟨_,_,rfl,HE0.out⟩,HXE.out⟩
 clear HE0 HXE
 have hm0':((m:Int)==0)=false:=by simp;omega
 obtain⟨wo,hwo⟩:∃wo:World,wo=wr:=⟨_,rfl⟩
 rw[<-hwo] at HX xc
 rw[<-hwo]
 clear hwo
 go_wp2
 go_loopw [5] (λs5 wr=>∃j:Nat,j<=m/\s5=.int .i64 j/\Hid (allTo (okC x) j)/\Hid (Nx w1 wr)) (λs5 _=>m-(intOf s5).toNat)
 case atStart=>exact⟨0,Nat.zero_le _,rfl,allTo_zero _,HX⟩
 clear HX xc
 obtain⟨j,hjm,rfl,HJ,HX⟩:=hrel
 have xc:=cellq HX.out HCELL.out
 by_cases hj:j<m
 case neg=>
  have HOK:Hid (okF (sat fs i)=true):=by unfold Hid;rw[HXX.out,HOD.out,allN_yes (by omega) HJ.out,decide_eq_true (show 0<m by omega)];rfl
  go_wp2
  go_roundw
  case rel=>exact⟨i+1,by omega,by go_num,allTo_succ HA.out HOK.out,HX⟩
  case measure=>simp[intOf];omega
 have hj':(j:Int)<m:=by omega
 have hbk:∀h:j<x.size,(x[j]'h).toNat=bt x j:=λh=>bt_at h
 have HCC:Hid (okC x j=(decide (33<=bt x j)&&decide (bt x j<=126))):=rfl
 have HBD:Hid (okC x j=false->[]=fldS s):=λh=>HN1.out (by rw[HOD.out,allN_no hj h];simp)
 have hb256:=bt_lt x j
 have HE0:Hid (OwnSt w.heap.size (wr.alloc (.cells #[] 9)) (.slice (some ⟨wr.heap.size,0,none⟩) 0 0) []):=OwnSt.base (ownSt_none wr) (Nat.le_trans HX1.out.size HX.out.size)
 have HXE:Hid (Nx w (wr.alloc (.cells #[] 9))):=(HX1.out.trans HX.out).trans (box1 _ _)
 clear HN1
 generalize bt x j=b at *
 by_cases g1:b<33
 ·have d1:decide ((b:Int)<33)=true:=by simp;omega
  have d1':(b:Int)<33:=by omega
  have HF:Hid ([]=fldS s):=HBD.out (by rw[HCC.out,decide_eq_false (by omega)];rfl)
  go_wp2
  go_ret
  rw[<-HF.out]
  exact⟨⟨_,_,rfl,HE0.out⟩,HXE.out⟩
 have d1:decide ((b:Int)<33)=false:=by simp;omega
 have d1':¬(b:Int)<33:=by omega
 by_cases g2:126<b
 ·have d2:decide ((126:Int)<(b:Int))=true:=by simp;omega
  have d2':(126:Int)<(b:Int):=by omega
  have HF:Hid ([]=fldS s):=HBD.out (by rw[HCC.out,decide_eq_false (show ¬b<=126 by omega)];simp)
  go_wp2
  go_ret
  rw[<-HF.out]
  exact⟨⟨_,_,rfl,HE0.out⟩,HXE.out⟩
 have d2:decide ((126:Int)<(b:Int))=false:=by simp;omega
 have d2':¬(126:Int)<(b:Int):=by omega
 have HD:Hid (okC x j=true):=by unfold Hid;rw[HCC.out,decide_eq_true (show 33<=b by omega),decide_eq_true (show b<=126 by omega)];rfl
 clear HBD HE0 HXE
 go_wp2
 go_roundw
 case rel=>exact⟨j+1,by omega,by go_num,allTo_succ HJ.out HD.out,HX⟩
 case measure=>simp[intOf];omega
end Go.Proofs.YthhkjbfkgdlkmaaGreatDoor
