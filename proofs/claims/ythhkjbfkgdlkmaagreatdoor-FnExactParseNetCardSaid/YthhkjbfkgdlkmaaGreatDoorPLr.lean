import Derived.Test.YthhkjbfkgdlkmaaGreatDoorPKn
import Derived.Great.Walk
import Derived.Laws.Strings
import Derived.OwnWalk
namespace Go.Proofs.YthhkjbfkgdlkmaaGreatDoor
open Go.RowKit Go.Sort
set_option linter.unusedVariables false
set_option maxRecDepth 1000000
set_option maxHeartbeats 16000000
theorem infoPr:(Tryz.prog.info? 30).map (·.size)=some 7:=by kernel_rfl
theorem wpList_storeP {ops:Array Oper}{rest:List Oper}{o:Oper}{a:Act}{Q:Exit->Act->World->Prop}{w:World}{b t:Nat}{cs cs':Array Value}(hgd:o.guard=none)(p v:Operand)(ho:o.op=.store 30 p v)(hp:a.eval p=.pointer (some ⟨b,0,none⟩))(hv:a.eval v=.agg cs')(hb:BT w b cs t)(hs:cs.size=7)(hs':cs'.size=7)(h1:(cs'.toList.all λv=>v.oneCell')=true)
  (h:wpList Tryz.prog ops Q rest (a.put o.dst undef) (w.setRow b cs')):wpList Tryz.prog ops Q (o::rest) a w:=
 wpList_store_row hgd _ p v ho b cs' hp hv t cs hb (by rw[infoPr,hs']) (by rw[hs,hs']) (by rw[<-Array.all_toList];exact h1) h
theorem wpList_storeQ {ops:Array Oper}{rest:List Oper}{o:Oper}{a:Act}{Q:Exit->Act->World->Prop}{w:World}{b t:Nat}{cs cs':Array Value}(hgd:o.guard=none)(p v:Operand)(ho:o.op=.store 30 p v)(hp:a.eval p=.pointer (some ⟨b,0,none⟩))(hv:a.eval v=.agg cs')(hb:BT w b cs t)(hs:cs.size=7)(hs':cs'.size=7)(h1:(cs'.toList.all λv=>v.oneCell')=true)
  (h:∀w',Hid (w'=w.setRow b cs')->wpList Tryz.prog ops Q rest (a.put o.dst undef) w'):wpList Tryz.prog ops Q (o::rest) a w:=wpList_storeP hgd p v ho hp hv hb hs hs' h1 (h _ rfl)
theorem ret_parsed {R:Ending->World->Prop}{a:Act}{w:World}{b t:Nat}{x0 x1 x2 x3 x4 x5 x6:Value}(h2:a.tmps[2]?.getD undef=.pointer (some ⟨b,0,none⟩))(hd:a.defers=[])(hb:BT w b #[x0,x1,x2,x3,x4,x5,x6] t)(hR:R (.returned (.agg #[x0,x1,x2,x3,x4,x5,x6])) w):bodyPost Tryz.prog Tryz.f4 R .ret a w:=
 bodyPost_ret (res_parsed h2 (hb.blk.cell (i:=0) rfl) (hb.blk.cell (i:=1) rfl) (hb.blk.cell (i:=2) rfl) (hb.blk.cell (i:=3) rfl) (hb.blk.cell (i:=4) rfl) (hb.blk.cell (i:=5) rfl) (hb.blk.cell (i:=6) rfl)) hd hR
theorem wpList_refuse {ops:Array Oper}{o:Oper}{a:Act}{Q:Exit->Act->World->Prop}{w0 w:World}{b t:Nat}{cs:Array Value}(code line:Int)(hgd:o.guard=none)(p v:Operand)(ho:o.op=.store 30 p v)(hd:o.dst=none)(hp:a.eval p=.pointer (some ⟨b,0,none⟩))(hv:a.eval v=noV code line)(hb:BT w b cs t)(hs:cs.size=7)(hx:Nx w0 w)(hl:w0.heap.size<=b)
  (h:∀w',BT w' b #[.int .i64 code,.int .i64 line,.slice none 0 0,.slice none 0 0,.slice none 0 0,.slice none 0 0,.int .i64 0] t->Nx w0 w'->wpList Tryz.prog ops Q [] a w'):wpList Tryz.prog ops Q [o] a w:=by
 refine wpList_storeP hgd p v ho hp hv hb hs rfl rfl ?_
 obtain⟨k1,k2⟩:=setRow_bt (cs':=#[.int .i64 code,.int .i64 line,.slice none 0 0,.slice none 0 0,.slice none 0 0,.slice none 0 0,.int .i64 0]) hb
 rw[hd]
 exact h _ k1 (Below.trans hx (k2.below hx.size (λx e=>by have e':x=b:=e;rw[e'];exact hl)))
theorem wpList_buildDe {ops:Array Oper}{rest:List Oper}{o:Oper}{a:Act}{Q:Exit->Act->World->Prop}{w:World}{y:Dx}(hgd:o.guard=none)(x:Operand)(ho:o.op=.buildSlice 41 1 #[(0,x)])(hx:a.eval x=.agg (dcell y).toArray)
  (h:wpList Tryz.prog ops Q rest (a.put o.dst (.slice (some ⟨w.heap.size,0,none⟩) 1 1)) (w.alloc (.cells (dcell y).toArray 49))):wpList Tryz.prog ops Q (o::rest) a w:=by
 have hi:=infoDx
 cases hie:Tryz.prog.info? 49 with
 |none=>rw[hie] at hi;cases hi
 |some ie=>
  rw[hie] at hi
  simp only[Option.map_some,Option.some.injEq,Prod.mk.injEq] at hi
  obtain⟨hz,hs,-⟩:=hi
  refine wpList_buildSlice hgd _ _ 1 _ ho (dcell y).toArray ie _ Tryz.underlying41 hie hz (by rw[hs];decide) (by rw[hs];decide) ?_ h
  have e:((#[(0,x)]:Array (Nat×Operand)).map λ(i,x)=>(i,a.eval x)).toList=[(0,.agg (dcell y).toArray)]:=by simp[hx]
  rw[e,hs]
  have hv17:∀v∈[Value.agg (dcell y).toArray],v.cells.size=17:=λv hv=>by
   have e:v=.agg (dcell y).toArray:=by simpa using hv
   rw[e];rfl
  have hf:=Great.fill_whole (s:=17) (by decide) [.agg (dcell y).toArray] ((Array.range (1*17)).map ((Value.agg (dcell zDx).toArray).cells[·%(Value.agg (dcell zDx).toArray).cells.size]!)) hv17 (by simp)
  exact hf
theorem rdS_wt (f:List ByteArray):(rdS f).way.weights.length<=f.length:=by
 unfold rdS
 split
 ·exact Nat.zero_le _
 split
 ·exact evens_le _ _
 split
 ·split<;>exact Nat.zero_le _
 split<;>exact Nat.zero_le _
theorem dsTo_wt {ls:List ByteArray}{nl k:Nat}(h:∀i,i<nl->(sat ls i).size<=300000)(hk:k<nl):∀j,j<k->(dat (dsTo ls k) j).way.weights.length<=300001:=λj hj=>by
 have e:dat (dsTo ls k) j=rdS (fldS (sat ls (j+1))):=by simp[dat,dsTo,List.getD_eq_getElem?_getD,hj]
 rw[e]
 have h1:=h (j+1) (by omega)
 have h2:=fld_len (sat ls (j+1))
 have h3:=rdS_wt (fldS (sat ls (j+1)))
 omega
theorem OwnI.max_ {C:Nat}{w:World}{v:Value}{zs:List Int}(h:OwnI C w v zs):zs.length<=9223372036854775807:=by
 rcases h.opened with⟨-,h2⟩|⟨g,cap,rfl,hg,hm,hr⟩
 ·omega
 ·unfold maxLen at hm;omega
theorem rowc {C:Nat}{w:World}{a:Option Addr}{n c:Nat}{zs:List Int}(h:OwnI C w (.slice a n c) zs):∀j,j<zs.length->∃gn,a=some ⟨gn,0,none⟩/\w.cell? ⟨gn,j,none⟩=some (.int .i64 (iat zs j)):=λj hj=>by
 obtain⟨g',c',cs,e,-,-,-,hc⟩:=h.open (by omega)
 simp only[Value.slice.injEq] at e
 exact⟨g',e.1,hc j hj⟩
theorem danN_true {ds:List De}{l:List Int}{kind:Int}{q:Nat}(hq:q<l.length)(h:fndP (pk kind (iat l q) 0) ds<0):danN ds l kind=true:=by
 unfold danN
 rw[List.any_eq_true]
 refine⟨iat l q,?_,decide_eq_true h⟩
 have e:iat l q=l[q]:=by simp[iat,List.getD,hq]
 rw[e];exact List.getElem_mem hq
theorem danN_false {ds:List De}{l:List Int}{kind:Int}(h:∀q,q<l.length->0<=fndP (pk kind (iat l q) 0) ds):danN ds l kind=false:=by
 unfold danN
 rw[List.any_eq_false]
 intro x hx
 obtain⟨q,hq,rfl⟩:=List.mem_iff_getElem.1 hx
 have e:iat l q=l[q]:=by simp[iat,List.getD,hq]
 have:=h q hq
 rw[e] at this
 simpa using this
theorem wpList_buildP {ops:Array Oper}{rest:List Oper}{o:Oper}{a:Act}{Q:Exit->Act->World->Prop}{w:World}{v0 v1 v2 v3 u:Value}(hgd:o.guard=none)(x:Operand)(ho:o.op=.build 30 #[(2,x)])(hx:a.eval x=.agg #[v0,v1,v2,v3,u])
  (h:∀w',Hid (w'=w)->wpList Tryz.prog ops Q rest (a.put o.dst (.agg #[.int .i64 0,.int .i64 0,v0,v1,v2,v3,u])) w'):wpList Tryz.prog ops Q (o::rest) a w:=by
 refine wpList_buildTo hgd _ _ ho _ rfl #[.int .i64 0,.int .i64 0,v0,v1,v2,v3,u] ?_ (h _ rfl)
 have e:((#[(2,x)]:Array (Nat×Operand)).map λ(i,x)=>(i,a.eval x)).toList=[(2,.agg #[v0,v1,v2,v3,u])]:=by simp[hx]
 rw[e]
 show _=_
 kernel_rfl
theorem row_put {w:World}{b t C u sz n:Nat}{cs cs':Array Value}{v:Value}{xs:List Value}(hb:BT w b cs t)(ht:t≠u)(h:w.ownsRow C u sz v n xs):(w.setRow b cs').ownsRow C u sz v n xs:=
 row_chg h (setRow_bt hb).2 (λx hx e=>by have e':x=b:=e;subst e';exact hb.neRow h ht hx.symm)
theorem HDx.put {w:World}{b t C:Nat}{cs cs':Array Value}{x:Dx}(hb:BT w b cs t)(ht:t≠2)(h:HDx C w x):HDx C (w.setRow b cs') x:=
 ⟨row_put hb ht h.h1,row_put hb ht h.h2,row_put hb ht h.h3,row_put hb ht h.h4,row_put hb ht h.h5⟩
theorem egTo_le {ds:List De}{k:Nat}(h:∀j,j<k->(dat ds j).way.weights.length<=300001):∀i,i<=k->egTo ds i<=i*600002
 |0,_=>Nat.le_refl _
 |i+1,hi=>by
  have h1:=egTo_le h i (by omega)
  have h2:=h i (by omega)
  unfold egTo wegs
  split<;>omega
theorem dxat_eq {xs:List Dx}{i:Nat}(h:i<xs.length):dxat xs i=xs[i]:=by simp[dxat,List.getD_eq_getElem?_getD,h]
def numR (z:Int):Value:=.tuple #[.int .i64 (if z<0 then 0 else z),.bool (decide (0<=z))]
theorem numR_yes {z:Int}(h:0<=z):numR z=.tuple #[.int .i64 z,.bool true]:=by unfold numR;rw[if_neg (by omega),decide_eq_true h]
theorem numR_no {z:Int}(h:z<0):numR z=.tuple #[.int .i64 0,.bool false]:=by unfold numR;rw[if_pos h,decide_eq_false (by omega)]
theorem readNumber_any (s:ByteArray)(w:World)(hl:s.size<=1048576) :
  Calls Tryz.prog 138 #[.string s] w λe w'=>e=.returned (numR (valS s))/\Nx w w':=by
 have HVD:Hid (s.size=0\/7<s.size->-1=valS s):=λh=>by unfold valS;rw[if_pos h]
 have HV1:Hid (¬(s.size=0\/7<s.size)->(bt s 0=48/\1<s.size)->-1=valS s):=λh h1=>by unfold valS;rw[if_neg h,if_pos h1]
 obtain⟨n,hn⟩:∃n,s.size=n:=⟨_,rfl⟩
 rw[hn] at hl HVD HV1
 have HN:Hid (s.size=n):=hn
 by_cases h0:n=0
 ·have HF:Hid (-1=valS s):=HVD.out (Or.inl h0)
  subst h0
  have es:s=⟨#[]⟩:=by
   obtain⟨⟨l⟩⟩:=s
   have:l.length=0:=hn
   rw[List.length_eq_zero_iff.1 this]
  subst es
  go_enter Tryz.func138,Tryz.ntmps138
  go_wp2
  go_ret2
  exact⟨by rw[<-HF.out];rfl,Nx.refl _⟩
 have d0:(s.toList==[])=false:=by
  simp only[beq_eq_false_iff_ne,ne_eq]
  intro h
  have h2:s.toList.length=s.size:=by rw[ByteArray.toList_eq];simp
  rw[h] at h2
  simp at h2
  omega
 by_cases h7:7<n
 ·have HF:Hid (-1=valS s):=HVD.out (Or.inr h7)
  have d7:decide ((7:Int)<n)=true:=by simp;omega
  have d7':(7:Int)<n:=by omega
  go_enter Tryz.func138,Tryz.ntmps138
  go_wp2
  go_ret2
  exact⟨by rw[<-HF.out];rfl,Nx.refl _⟩
 have d7:decide ((7:Int)<n)=false:=by simp;omega
 have d7':¬(7:Int)<n:=by omega
 have hb0:∀h:0<s.size,(s[0]'h).toNat=bt s 0:=λh=>bt_at h
 have HC0:Hid (¬(n=0\/7<n)):=by rintro(h|h)<;>omega
 by_cases h1:bt s 0=48/\1<n
 ·have HF:Hid (-1=valS s):=HV1.out HC0.out h1
  have e48:=h1.1
  have h1n:(1:Int)<n:=by omega
  rw[e48] at hb0
  clear h1 e48
  go_enter Tryz.func138,Tryz.ntmps138
  go_wp2
  go_ret2
  exact⟨by rw[<-HF.out];rfl,Nx.refl _⟩
 have HC1:Hid (¬(bt s 0=48/\1<n)):=h1
 have H0B:Hid (∀h:0<s.size,(s[0]'h).toNat=bt s 0):=hb0
 go_enter Tryz.func138,Tryz.ntmps138
 go_upto_region 1 with fail
 generalize hbb:bt s 0=b0 at *
 have HCX:Hid (¬(bt s 0=48/\1<n)):=by unfold Hid;rw[hbb];exact HC1.out
 clear hbb
 go_cut [23] from 7 to 22 (λs23 wc=>s23=.bool false/\wc=w)
 case first=>
  by_cases e48:b0=48
  ·subst e48
   have h1n:¬(1:Int)<n:=by have:=HC1.out;omega
   go_wp2
   go_meet
   exact⟨by first|rfl|simp;omega,rfl⟩
  ·have e48':((b0:Int)==48)=false:=by simp;omega
   go_wp2
   go_meet
   exact⟨by first|rfl|simp;omega,rfl⟩
 case rest=>
 obtain⟨rfl,hwc⟩:=hcut
 subst hwc
 clear hb0 h1
 go_wp2
 go_loopw [4,26] (λs3 s4 wr=>∃k:Nat,k<=n/\s4=.int .i64 k/\s3=.int .i64 (vTo s k)/\Hid (allTo (dgB s) k)/\Hid (Nx wc wr)) (λ_ i _=>n-(intOf i).toNat)
 case atStart=>exact⟨0,Nat.zero_le _,rfl,rfl,allTo_zero _,Nx.refl _⟩
 obtain⟨k,hkn,rfl,rfl,HA,HX⟩:=hrel
 by_cases hlt:k<n
 ·have hlt':(k:Int)<n:=by omega
  have hbk:∀h:k<s.size,(s[k]'h).toNat=bt s k:=λh=>bt_at h
  have hb256:=bt_lt s k
  have HNO:Hid (dgB s k=false->-1=valS s):=valS_no HN.out HC0.out HCX.out hlt
  have HVS:Hid (vTo s (k+1)=vTo s k*10+((bt s k:Int)-48)):=rfl
  have HDD:Hid (dgB s k=(decide (48<=bt s k)&&decide (bt s k<=57))):=rfl
  have hvi:=vTo_cap (s:=s) (k:=k) (by omega) HA.out
  generalize bt s k=b at *
  generalize vTo s k=v at *
  by_cases g1:b<48
  ·have d1:decide ((b:Int)<48)=true:=by simp;omega
   have d1':(b:Int)<48:=by omega
   have HF:Hid (-1=valS s):=HNO.out (by rw[HDD.out,decide_eq_false (by omega)];rfl)
   go_wp2
   go_ret2
   exact⟨by rw[<-HF.out];rfl,HX.out⟩
  have d1:decide ((b:Int)<48)=false:=by simp;omega
  have d1':¬(b:Int)<48:=by omega
  by_cases g2:57<b
  ·have d2:decide ((57:Int)<(b:Int))=true:=by simp;omega
   have d2':(57:Int)<(b:Int):=by omega
   have HF:Hid (-1=valS s):=HNO.out (by rw[HDD.out,decide_eq_false (show ¬b<=57 by omega)];simp)
   go_wp2
   go_ret2
   exact⟨by rw[<-HF.out];rfl,HX.out⟩
  have d2:decide ((57:Int)<(b:Int))=false:=by simp;omega
  have d2':¬(57:Int)<(b:Int):=by omega
  have HD:Hid (dgB s k=true):=by unfold Hid;rw[HDD.out,decide_eq_true (show 48<=b by omega),decide_eq_true (show b<=57 by omega)];rfl
  have w1:IntKind.u8.wrap ((b:Int)-48)=(b:Int)-48:=by simp[IntKind.wrap,IntKind.signed,IntKind.bits];omega
  have w2:IntKind.i64.wrap (v*10)=v*10:=by rw[IntKind.wrap_i64];omega
  have w3:IntKind.i64.wrap (v*10+((b:Int)-48))=v*10+((b:Int)-48):=by rw[IntKind.wrap_i64];omega
  have w4:IntKind.i64.wrap ((b:Int)-48)=(b:Int)-48:=by rw[IntKind.wrap_i64];omega
  clear HNO
  go_wp2
  go_roundw
  case rel=>exact⟨k+1,by omega,by go_num,by rw[HVS.out],allTo_succ HA.out HD.out,HX⟩
  case measure=>simp[intOf];omega
 have ek:k=n:=by omega
 subst ek
 have HE:=mkHid' (valS_end HN.out HC0.out HCX.out HA.out)
 have hv0:=(vTo_cap (s:=s) (k:=k) (by have:=HC0.out;omega) HA.out).1
 generalize vTo s k=v at *
 by_cases g:1048576<v
 ·have HF:Hid (-1=valS s):=by unfold Hid;rw[HE.out,if_pos g]
  go_wp2
  go_ret2
  exact⟨by rw[<-HF.out];rfl,HX.out⟩
 ·have HF:Hid (v=valS s):=by unfold Hid;rw[HE.out,if_neg g]
  go_wp2
  go_ret2
  exact⟨by rw[<-HF.out,numR_yes hv0];rfl,HX.out⟩
def HSr (w:World)(v:Value)(ss:List ByteArray):Prop:=∃a c,v=.slice a ss.length c/\(0<ss.length->∃g off,a=some ⟨g,off,none⟩/\∀i,i<ss.length->w.cell? ⟨g,off+i,none⟩=some (.string (sat ss i)))
theorem HSr.next {w w':World}{v:Value}{ss:List ByteArray}(h:HSr w v ss)(k:Nx w w'):HSr w' v ss:=by
 obtain⟨a,c,e,hk⟩:=h
 refine⟨a,c,e,λhp=>?_⟩
 obtain⟨g,off,ea,hc⟩:=hk hp
 exact⟨g,off,ea,λi hi=>cellq k (hc i hi)⟩
theorem OwnSt.hsr {C:Nat}{w:World}{v:Value}{ss:List ByteArray}(h:OwnSt C w v ss):HSr w v ss:=by
 obtain⟨a,c,rfl⟩:=row_slice h
 refine⟨a,c,rfl,λhp=>?_⟩
 obtain⟨g,ea,-,-,-⟩:=OwnSt.at h (i:=0) hp
 refine⟨g,0,ea,λi hi=>?_⟩
 obtain⟨g',ea',-,-,hc⟩:=OwnSt.at h (i:=i) hi
 have e:g=g':=by rw[ea] at ea';simpa using ea'
 rw[e,Nat.zero_add];exact hc
def okNs (ss:List ByteArray):Bool:=ss.all λs=>decide (0<=valS s)
theorem okNs_no {ss:List ByteArray}{i:Nat}(hi:i<ss.length)(h:valS (sat ss i)<0):okNs ss=false:=by
 unfold okNs
 rw[List.all_eq_false]
 refine⟨sat ss i,?_,by simpa using h⟩
 have e:sat ss i=ss[i]:=by simp[sat,List.getD,hi]
 rw[e];exact List.getElem_mem hi
theorem okNs_yes {ss:List ByteArray}(h:∀i,i<ss.length->0<=valS (sat ss i)):okNs ss=true:=by
 unfold okNs
 rw[List.all_eq_true]
 intro x hx
 obtain⟨i,hi,rfl⟩:=List.mem_iff_getElem.1 hx
 have e:sat ss i=ss[i]:=by simp[sat,List.getD,hi]
 have:=h i hi
 rw[e] at this
 simpa using this
theorem vsL_take {ss:List ByteArray}{k:Nat}(hk:k<ss.length):(vsL ss).take (k+1)=(vsL ss).take k++[valS (sat ss k)]:=by
 have e:sat ss k=ss[k]:=by simp[sat,List.getD,hk]
 rw[List.take_add_one,List.getElem?_eq_getElem (by rw[vsL_len];exact hk),e]
 simp[vsL]
def NmsR (w w':World)(ss:List ByteArray)(e:Ending):Prop:=(okNs ss=true/\∃v,e=.returned (.tuple #[v,.bool true])/\OwnI w.heap.size w' v (vsL ss))\/(okNs ss=false/\e=.returned (.tuple #[.slice none 0 0,.bool false]))
theorem nx_grown {w w':World}(h:w.grownBy w' none):Nx w w':=Chg.below (S:=λ_=>False) (Chg.grown h (λb e=>by simp at e)) (Nat.le_refl _) (λx hx=>hx.elim)
theorem readNums_any (a:Option Addr)(n c:Nat)(ss:List ByteArray)(w:World)(h:HSr w (.slice a n c) ss)(hs:∀i,i<ss.length->(sat ss i).size<=300000)(hl:n<=300001) :
  Calls Tryz.prog 91 #[.slice a n c] w λe w'=>NmsR w w' ss e/\Nx w w':=by
 obtain⟨a',c',ev,hk⟩:=h
 simp only[Value.slice.injEq] at ev
 obtain⟨rfl,hn,rfl⟩:=ev
 have HN:Hid (ss.length=n):=hn.symm
 have HK:Hid (0<n->∃g off,a=some ⟨g,off,none⟩/\∀i,i<n->w.cell? ⟨g,off+i,none⟩=some (.string (sat ss i))):=by rw[hn];exact hk
 have HS:Hid (∀i,i<n->(sat ss i).size<=300000):=by rw[hn];exact hs
 clear hn hk hs
 obtain⟨ii,hi1,hi2,hi3,hi4⟩:=info_parts infoInt
 go_enter Tryz.func91,Tryz.ntmps91
 go_wp2_with (at_make;refine wpList_make_own _ rfl _ _ 23 rfl w.heap.size _ ii _ 1 Tryz.underlying23 hi1 hi2 hi3 .i64 .i64 (n:Int) n rfl rfl rfl (by rw[hi4];omega) (by unfold maxLen;omega) (Nat.le_refl _) ?_)
 intro w1 r1 r2
 have HO1:Hid (OwnI w.heap.size w1 (.slice (some ⟨w.heap.size,0,none⟩) 0 n) []):=r1
 have HX1:Hid (Nx w w1):=nx_grown r2
 clear r1 r2 hi1 hi2 hi3 hi4
 go_wp2
 go_loopw [4,14] (λs4 s14 wr=>∃(k c4:Nat) (a4:Option Addr),k<=n/\s14=.int .i64 k/\s4=.slice a4 k c4/\Hid (OwnI w.heap.size wr (.slice a4 k c4) ((vsL ss).take k))/\Hid (∀j,j<k->0<=valS (sat ss j))/\Hid (Nx w wr)) (λ_ i _=>n-(intOf i).toNat)
 case atStart=>exact⟨0,n,_,Nat.zero_le _,rfl,rfl,HO1,λj hj=>absurd hj (Nat.not_lt_zero _),HX1⟩
 clear HO1 HX1 w1
 obtain⟨k,c4,a4,hkn,rfl,rfl,HO,HA,HX⟩:=hrel
 by_cases hlt:k<n
 ·have hlt':(k:Int)<(n:Int):=by omega
  obtain⟨g,off,ea,hc⟩:=HK.out (by omega)
  subst ea
  have xk:=cellq HX.out (hc k hlt)
  have hsk:=HS.out k hlt
  clear hc
  have HZK:Hid (okNs ss=false\/0<=valS (sat ss k)):=by
   by_cases hv:valS (sat ss k)<0
   ·exact Or.inl (okNs_no (by rw[HN.out];exact hlt) hv)
   ·exact Or.inr (Int.not_lt.1 hv)
  have HTK:=mkHid' (vsL_take (ss:=ss) (k:=k) (by rw[HN.out];exact hlt))
  have HNO:Hid (valS (sat ss k)<0->okNs ss=false):=λhv=>okNs_no (by rw[HN.out];exact hlt) hv
  have HAK:Hid (0<=valS (sat ss k)->∀j,j<k+1->0<=valS (sat ss j)):=λh0 j hj=>by
   by_cases e:j=k
   ·subst e;exact h0
   ·exact HA.out j (by omega)
  have htl:((vsL ss).take k).length=k:=by rw[List.length_take,vsL_len,HN.out];omega
  have HTL:Hid (((vsL ss).take k).length=k):=htl
  clear htl
  go_wp2_with fail
  refine(readNumber_any (sat ss k) wr (by omega)).mono ?_
  rintro e w2 ⟨rfl,hx⟩
  have HO2:Hid (OwnI w.heap.size w2 (.slice a4 k c4) ((vsL ss).take k)):=row_next HO.out hx
  have HX2:=mkHid' (HX.out.trans hx)
  clear hx HO HX xk hsk HZK
  generalize valS (sat ss k)=z at *
  by_cases hz:z<0
  ·rw[numR_no hz]
   have HF:Hid (okNs ss=false):=HNO.out hz
   go_wp2
   go_ret2
   exact⟨Or.inr ⟨HF.out,rfl⟩,HX2.out⟩
  ·rw[numR_yes (Int.not_lt.1 hz)]
   have hzz:w.heap.size<=w2.heap.size:=HX2.out.size
   have HA2:=mkHid' (HAK.out (Int.not_lt.1 hz))
   clear HAK HNO HA
   go_wp2_with (at_builtin;refine app_int rfl _ _ rfl w.heap.size k (.slice a4 k c4) ((vsL ss).take k) z w2 rfl HO2.out rfl HTL.out (by omega) hzz ?_)
   intro a5 c5 w5 r1 r2 r3
   have HO5:Hid (OwnI w.heap.size w5 (.slice a5 (k+1) c5) ((vsL ss).take (k+1))):=by unfold Hid;rw[HTK.out];exact r1
   have HX5:Hid (Nx w w5):=Below.trans HX2.out (r2.below hzz (λx hx=>(own_lt HO2.out x hx.symm).1))
   clear r1 r2 r3 HO2 HX2 HTK HTL
   go_wp2
   go_roundw
   case rel=>exact⟨k+1,c5,a5,by omega,by go_num,rfl,HO5,HA2,HX5⟩
   case measure=>simp[intOf];omega
 have ek:k=n:=by omega
 subst ek
 have HOK:Hid (okNs ss=true):=okNs_yes (λi hi=>HA.out i (by rw[HN.out] at hi;exact hi))
 have HOF:Hid (OwnI w.heap.size wr (.slice a4 k c4) (vsL ss)):=by
  have h:=HO.out
  rw[List.take_of_length_le (by rw[vsL_len,HN.out];exact Nat.le_refl _)] at h
  exact h
 go_wp2
 go_ret2
 exact⟨Or.inl ⟨HOK.out,_,rfl,HOF.out⟩,HX.out⟩
abbrev Nm:=Int×Int×Int
def ncell (x:Nm):List Value:=[.int .i64 x.1,.int .i64 x.2.1,.int .i64 x.2.2]
def OwnN (C:Nat)(w:World)(v:Value)(l:List Nm):Prop:=w.ownsRow C 112 3 v l.length (l.flatMap ncell)
abbrev Lv:=Int×Nm×List Nm×Value
def lvL (x:Lv):List Value:=[.int .i64 x.1,.int .i64 x.2.1.1,.int .i64 x.2.1.2.1,.int .i64 x.2.1.2.2,x.2.2.2]
def Ap (a b:Value×List Int):Prop:=∀g,a.1.ownBlock=some g->b.1.ownBlock≠some g
structure RM (w0 w:World)(rb:Nat)(vN vW vR vT:Value)(u line:Int)(vL:Value)(ns:List Int)(ws:List Wv)(rs:List Rv)(ts:List Tn)(ls:List Lv)(ir:List (Value×List Int)):Prop where
 nx:Chg (λx=>x=rb) w0 w
 bx:BT w rb #[vN,vW,vR,vT,.int .i64 u,.int .i64 line,vL] 79
 n:OwnI w0.heap.size w vN ns
 wy:w.ownsRow w0.heap.size 45 4 vW ws.length (ws.flatMap wvL)
 rl:w.ownsRow w0.heap.size 47 7 vR rs.length (rs.flatMap rvL)
 tn:w.ownsRow w0.heap.size 69 3 vT ts.length (ts.flatMap tcell)
 ln:w.ownsRow w0.heap.size 115 5 vL ls.length (ls.flatMap lvL)
 us:∀x∈ls,OwnN w0.heap.size w x.2.2.2 x.2.2.1
 ri:∀r∈ir,OwnI w0.heap.size w r.1 r.2
 ap:((vN,ns)::ir).Pairwise Ap
section
variable {w0 w w' wx:World}{rb:Nat}{vN vW vR vT vL:Value}{u line:Int}{ns:List Int}{ws:List Wv}{rs:List Rv}{ts:List Tn}{ls:List Lv}{ir:List (Value×List Int)}
theorem RM.next (h:RM w0 w rb vN vW vR vT u line vL ns ws rs ts ls ir)(k:Nx w w'):RM w0 w' rb vN vW vR vT u line vL ns ws rs ts ls ir:=
 ⟨h.nx.trans (Chg.nx k),h.bx.next k,row_next h.n k,row_next h.wy k,row_next h.rl k,row_next h.tn k,row_next h.ln k,λx hx=>row_next (h.us x hx) k,λr hr=>row_next (h.ri r hr) k,h.ap⟩
theorem RM.nxg (h:RM w0 w rb vN vW vR vT u line vL ns ws rs ts ls ir){t sz n:Nat}{v:Value}{xs:List Value}(hr:w.ownsRow w0.heap.size t sz v n xs)(hc:Chg (λx=>some x=v.ownBlock) w w'):Chg (λx=>x=rb) w0 w':=
 h.nx.young hc (λx hx hl=>by have:=(own_lt hr x hx.symm).1;omega)
theorem RM.set (h:RM w0 w rb vN vW vR vT u line vL ns ws rs ts ls ir)(i:Nat)(x:Value):Chg (λy=>y=rb) w0 (w.setCell ⟨rb,i,none⟩ x)/\BT (w.setCell ⟨rb,i,none⟩ x) rb ((#[vN,vW,vR,vT,.int .i64 u,.int .i64 line,vL]:Array Value).setIfInBounds i x) 79/\(∀{C t sz n:Nat}{v:Value}{xs:List Value},79≠t->w.ownsRow C t sz v n xs->(w.setCell ⟨rb,i,none⟩ x).ownsRow C t sz v n xs):=
 ⟨h.nx.trans (Chg.set _ _ _ rfl),h.bx.set i x,λht k=>row_setBT k h.bx ht i x⟩
theorem RM.setLine (h:RM w0 w rb vN vW vR vT u line vL ns ws rs ts ls ir)(l:Int):RM w0 (w.setCell ⟨rb,5,none⟩ (.int .i64 l)) rb vN vW vR vT u l vL ns ws rs ts ls ir:=by
 obtain⟨h1,h2,h3⟩:=h.set 5 (.int .i64 l)
 exact⟨h1,h2,h3 (by decide) h.n,h3 (by decide) h.wy,h3 (by decide) h.rl,h3 (by decide) h.tn,h3 (by decide) h.ln,λx hx=>h3 (by decide) (h.us x hx),λr hr=>h3 (by decide) (h.ri r hr),h.ap⟩
theorem RM.setU (h:RM w0 w rb vN vW vR vT u line vL ns ws rs ts ls ir)(l:Int):RM w0 (w.setCell ⟨rb,4,none⟩ (.int .i64 l)) rb vN vW vR vT l line vL ns ws rs ts ls ir:=by
 obtain⟨h1,h2,h3⟩:=h.set 4 (.int .i64 l)
 exact⟨h1,h2,h3 (by decide) h.n,h3 (by decide) h.wy,h3 (by decide) h.rl,h3 (by decide) h.tn,h3 (by decide) h.ln,λx hx=>h3 (by decide) (h.us x hx),λr hr=>h3 (by decide) (h.ri r hr),h.ap⟩
theorem RM.addRows (h:RM w0 w rb vN vW vR vT u line vL ns ws rs ts ls ir){rs':List (Value×List Int)}(hr:∀r∈rs',OwnI w0.heap.size w r.1 r.2)(hp:rs'.Pairwise Ap)(hx:∀a∈(vN,ns)::ir,∀b∈rs',Ap a b):RM w0 w rb vN vW vR vT u line vL ns ws rs ts ls (ir++rs'):=
 ⟨h.nx,h.bx,h.n,h.wy,h.rl,h.tn,h.ln,h.us,λr k=>by rcases List.mem_append.1 k with k|k;exact h.ri r k;exact hr r k,by rw[<-List.cons_append];exact List.pairwise_append.2 ⟨h.ap,hp,hx⟩⟩
theorem RM.rlt (h:RM w0 w rb vN vW vR vT u line vL ns ws rs ts ls ir):∀a∈(vN,ns)::ir,∀g,a.1.ownBlock=some g->g<w.heap.size:=λa ha g hg=>by
 rcases List.mem_cons.1 ha with e|k
 ·subst e;exact(own_lt h.n g hg).2
 ·exact(own_lt (h.ri a k) g hg).2
theorem RM.growN (h:RM w0 w rb vN vW vR vT u line vL ns ws rs ts ls ir){v':Value}{z:Int}(r1:OwnI w0.heap.size wx v' (ns++[z]))(r2:Chg (λx=>some x=vN.ownBlock) w wx)(r3:∀g,v'.ownBlock=some g->vN.ownBlock=some g\/w.heap.size<=g):BT wx rb #[vN,vW,vR,vT,.int .i64 u,.int .i64 line,vL] 79/\RM w0 (wx.setCell ⟨rb,0,none⟩ v') rb v' vW vR vT u line vL (ns++[z]) ws rs ts ls ir:=by
 have hp:=List.pairwise_cons.1 h.ap
 have hb:BT wx rb #[vN,vW,vR,vT,.int .i64 u,.int .i64 line,vL] 79:=h.bx.row h.n (by decide) r2
 refine⟨hb,⟨(h.nxg h.n r2).trans (Chg.set _ _ _ rfl),hb.set 0 v',row_setBT r1 hb (by decide) _ _,row_setBT (row_apart h.wy h.n (by decide) r2) hb (by decide) _ _,row_setBT (row_apart h.rl h.n (by decide) r2) hb (by decide) _ _,row_setBT (row_apart h.tn h.n (by decide) r2) hb (by decide) _ _,row_setBT (row_apart h.ln h.n (by decide) r2) hb (by decide) _ _,λx hx=>row_setBT (row_apart (h.us x hx) h.n (by decide) r2) hb (by decide) _ _,λr hr=>row_setBT (row_chg (h.ri r hr) r2 (λg hg e=>hp.1 r hr g (Eq.symm e) hg)) hb (by decide) _ _,List.pairwise_cons.2 ⟨λr hr g hg e=>?_,hp.2⟩⟩⟩
 rcases r3 g hg with k|k
 ·exact hp.1 r hr g k e
 ·have:=(own_lt (h.ri r hr) g e).2
  omega
theorem RM.growW (h:RM w0 w rb vN vW vR vT u line vL ns ws rs ts ls ir){v':Value}{y:Wv}(r1:wx.ownsRow w0.heap.size 45 4 v' (ws++[y]).length ((ws++[y]).flatMap wvL))(r2:Chg (λx=>some x=vW.ownBlock) w wx):BT wx rb #[vN,vW,vR,vT,.int .i64 u,.int .i64 line,vL] 79/\RM w0 (wx.setCell ⟨rb,1,none⟩ v') rb vN v' vR vT u line vL ns (ws++[y]) rs ts ls ir:=by
 have hb:BT wx rb #[vN,vW,vR,vT,.int .i64 u,.int .i64 line,vL] 79:=h.bx.row h.wy (by decide) r2
 exact⟨hb,⟨(h.nxg h.wy r2).trans (Chg.set _ _ _ rfl),hb.set 1 v',row_setBT (row_apart h.n h.wy (by decide) r2) hb (by decide) _ _,row_setBT r1 hb (by decide) _ _,row_setBT (row_apart h.rl h.wy (by decide) r2) hb (by decide) _ _,row_setBT (row_apart h.tn h.wy (by decide) r2) hb (by decide) _ _,row_setBT (row_apart h.ln h.wy (by decide) r2) hb (by decide) _ _,λx hx=>row_setBT (row_apart (h.us x hx) h.wy (by decide) r2) hb (by decide) _ _,λr hr=>row_setBT (row_apart (h.ri r hr) h.wy (by decide) r2) hb (by decide) _ _,h.ap⟩⟩
theorem RM.growR (h:RM w0 w rb vN vW vR vT u line vL ns ws rs ts ls ir){v':Value}{y:Rv}(r1:wx.ownsRow w0.heap.size 47 7 v' (rs++[y]).length ((rs++[y]).flatMap rvL))(r2:Chg (λx=>some x=vR.ownBlock) w wx):BT wx rb #[vN,vW,vR,vT,.int .i64 u,.int .i64 line,vL] 79/\RM w0 (wx.setCell ⟨rb,2,none⟩ v') rb vN vW v' vT u line vL ns ws (rs++[y]) ts ls ir:=by
 have hb:BT wx rb #[vN,vW,vR,vT,.int .i64 u,.int .i64 line,vL] 79:=h.bx.row h.rl (by decide) r2
 exact⟨hb,⟨(h.nxg h.rl r2).trans (Chg.set _ _ _ rfl),hb.set 2 v',row_setBT (row_apart h.n h.rl (by decide) r2) hb (by decide) _ _,row_setBT (row_apart h.wy h.rl (by decide) r2) hb (by decide) _ _,row_setBT r1 hb (by decide) _ _,row_setBT (row_apart h.tn h.rl (by decide) r2) hb (by decide) _ _,row_setBT (row_apart h.ln h.rl (by decide) r2) hb (by decide) _ _,λx hx=>row_setBT (row_apart (h.us x hx) h.rl (by decide) r2) hb (by decide) _ _,λr hr=>row_setBT (row_apart (h.ri r hr) h.rl (by decide) r2) hb (by decide) _ _,h.ap⟩⟩
theorem RM.growT (h:RM w0 w rb vN vW vR vT u line vL ns ws rs ts ls ir){v':Value}{y:Tn}(r1:wx.ownsRow w0.heap.size 69 3 v' (ts++[y]).length ((ts++[y]).flatMap tcell))(r2:Chg (λx=>some x=vT.ownBlock) w wx):BT wx rb #[vN,vW,vR,vT,.int .i64 u,.int .i64 line,vL] 79/\RM w0 (wx.setCell ⟨rb,3,none⟩ v') rb vN vW vR v' u line vL ns ws rs (ts++[y]) ls ir:=by
 have hb:BT wx rb #[vN,vW,vR,vT,.int .i64 u,.int .i64 line,vL] 79:=h.bx.row h.tn (by decide) r2
 exact⟨hb,⟨(h.nxg h.tn r2).trans (Chg.set _ _ _ rfl),hb.set 3 v',row_setBT (row_apart h.n h.tn (by decide) r2) hb (by decide) _ _,row_setBT (row_apart h.wy h.tn (by decide) r2) hb (by decide) _ _,row_setBT (row_apart h.rl h.tn (by decide) r2) hb (by decide) _ _,row_setBT r1 hb (by decide) _ _,row_setBT (row_apart h.ln h.tn (by decide) r2) hb (by decide) _ _,λx hx=>row_setBT (row_apart (h.us x hx) h.tn (by decide) r2) hb (by decide) _ _,λr hr=>row_setBT (row_apart (h.ri r hr) h.tn (by decide) r2) hb (by decide) _ _,h.ap⟩⟩
theorem RM.growL (h:RM w0 w rb vN vW vR vT u line vL ns ws rs ts ls ir){v':Value}{y:Lv}(r1:wx.ownsRow w0.heap.size 115 5 v' (ls++[y]).length ((ls++[y]).flatMap lvL))(r2:Chg (λx=>some x=vL.ownBlock) w wx)(hy:OwnN w0.heap.size w y.2.2.2 y.2.2.1):BT wx rb #[vN,vW,vR,vT,.int .i64 u,.int .i64 line,vL] 79/\RM w0 (wx.setCell ⟨rb,6,none⟩ v') rb vN vW vR vT u line v' ns ws rs ts (ls++[y]) ir:=by
 have hb:BT wx rb #[vN,vW,vR,vT,.int .i64 u,.int .i64 line,vL] 79:=h.bx.row h.ln (by decide) r2
 exact⟨hb,⟨(h.nxg h.ln r2).trans (Chg.set _ _ _ rfl),hb.set 6 v',row_setBT (row_apart h.n h.ln (by decide) r2) hb (by decide) _ _,row_setBT (row_apart h.wy h.ln (by decide) r2) hb (by decide) _ _,row_setBT (row_apart h.rl h.ln (by decide) r2) hb (by decide) _ _,row_setBT (row_apart h.tn h.ln (by decide) r2) hb (by decide) _ _,row_setBT r1 hb (by decide) _ _,λx hx=>row_setBT (row_apart (C:=w0.heap.size) (t:=112) (sz:=3) (by rcases List.mem_append.1 hx with k|k;exact h.us x k;rw[List.mem_singleton.1 k];exact hy) h.ln (by decide) r2) hb (by decide) _ _,λr hr=>row_setBT (row_apart (h.ri r hr) h.ln (by decide) r2) hb (by decide) _ _,h.ap⟩⟩
end
def FltR (w w':World)(code line:Int)(v:Value):Prop:=∃fb,v=.iface 59 (.pointer (some ⟨fb,0,none⟩))/\w.heap.size<=fb/\BT w' fb #[.int .i64 code,.int .i64 line] 63
theorem refuse_any (rb:Nat)(code line:Int)(cs:Array Value)(w:World)(hb:BT w rb cs 79)(hl:cs[5]?=some (.int .i64 line)) :
  Calls Tryz.prog 57 #[.pointer (some ⟨rb,0,none⟩),.int .i64 code] w λe w'=>(∃v,e=.returned v/\FltR w w' code line v)/\Nx w w':=by
 have x5:w.cell? ⟨rb,5,none⟩=some (.int .i64 line):=hb.blk.cell (i:=5) hl
 go_enter Tryz.func57,Tryz.ntmps57
 go_wp2
 go_ret
 exact⟨⟨_,rfl,_,rfl,Nat.le_refl _,BT.new _ _ _ _ rfl⟩,box1 _ _⟩
theorem nodeName_any (z:Int)(w:World) :
  Calls Tryz.prog 75 #[.int .i64 z] w λe w'=>e=.returned (.agg #[.int .i64 0,.int .i64 z,.int .i64 0])/\Nx w w':=by
 go_enter Tryz.func75,Tryz.ntmps75
 go_wp2
 have hb:BT (w.alloc (.cells #[.int .i64 0,.int .i64 z,.int .i64 0] 112)) w.heap.size #[.int .i64 0,.int .i64 z,.int .i64 0] 112:=BT.new _ _ _ _ rfl
 have hx:Nx w (w.alloc (.cells #[.int .i64 0,.int .i64 z,.int .i64 0] 112)):=box1 _ _
 generalize w.alloc (.cells #[.int .i64 0,.int .i64 z,.int .i64 0] 112)=wF at *
 have p0_:wF.cell? ⟨w.heap.size,0,none⟩=some (.int .i64 0):=hb.blk.cell (i:=0) rfl
 have p1_:wF.cell? ⟨w.heap.size,1,none⟩=some (.int .i64 z):=hb.blk.cell (i:=1) rfl
 have p2_:wF.cell? ⟨w.heap.size,2,none⟩=some (.int .i64 0):=hb.blk.cell (i:=2) rfl
 refine bodyPost_ret (v:=.agg #[.int .i64 0,.int .i64 z,.int .i64 0]) (by simp[results,Tryz.results75,go_sem,p0_,p1_,p2_]) rfl ?_
 exact⟨rfl,hx⟩
theorem wayName_any (z:Int)(w:World) :
  Calls Tryz.prog 77 #[.int .i64 z] w λe w'=>e=.returned (.agg #[.int .i64 1,.int .i64 z,.int .i64 0])/\Nx w w':=by
 go_enter Tryz.func77,Tryz.ntmps77
 go_wp2
 have hb:BT (w.alloc (.cells #[.int .i64 1,.int .i64 z,.int .i64 0] 112)) w.heap.size #[.int .i64 1,.int .i64 z,.int .i64 0] 112:=BT.new _ _ _ _ rfl
 have hx:Nx w (w.alloc (.cells #[.int .i64 1,.int .i64 z,.int .i64 0] 112)):=box1 _ _
 generalize w.alloc (.cells #[.int .i64 1,.int .i64 z,.int .i64 0] 112)=wF at *
 have p0_:wF.cell? ⟨w.heap.size,0,none⟩=some (.int .i64 1):=hb.blk.cell (i:=0) rfl
 have p1_:wF.cell? ⟨w.heap.size,1,none⟩=some (.int .i64 z):=hb.blk.cell (i:=1) rfl
 have p2_:wF.cell? ⟨w.heap.size,2,none⟩=some (.int .i64 0):=hb.blk.cell (i:=2) rfl
 refine bodyPost_ret (v:=.agg #[.int .i64 1,.int .i64 z,.int .i64 0]) (by simp[results,Tryz.results77,go_sem,p0_,p1_,p2_]) rfl ?_
 exact⟨rfl,hx⟩
theorem FltR.next {w w' w'':World}{code line:Int}{v:Value}(h:FltR w w' code line v)(k:Nx w' w''):FltR w w'' code line v:=by
 obtain⟨fb,e,hl,hb⟩:=h
 exact⟨fb,e,hl,hb.next k⟩
theorem FltR.base {w0 w w':World}{code line:Int}{v:Value}(h:FltR w w' code line v)(k:Nx w0 w):FltR w0 w' code line v:=by
 obtain⟨fb,e,hl,hb⟩:=h
 exact⟨fb,e,Nat.le_trans k.size hl,hb⟩
def RnR (w w':World)(ss:List ByteArray)(line:Int)(e:Ending):Prop:=(okNs ss=true/\∃v,e=.returned (.tuple #[v,.nilIface])/\OwnI w.heap.size w' v (vsL ss))\/(okNs ss=false/\∃v,e=.returned (.tuple #[.slice none 0 0,v])/\FltR w w' 8 line v)
theorem rnums_any (rb:Nat)(line:Int)(cs:Array Value)(a:Option Addr)(n c:Nat)(ss:List ByteArray)(w:World)(hb:BT w rb cs 79)(hl:cs[5]?=some (.int .i64 line))(h:HSr w (.slice a n c) ss)(hs:∀i,i<ss.length->(sat ss i).size<=300000)(hn:n<=300001) :
  Calls Tryz.prog 73 #[.pointer (some ⟨rb,0,none⟩),.slice a n c] w λe w'=>RnR w w' ss line e/\Nx w w':=by
 have HB:=mkHid' hb
 have HL:=mkHid' hl
 have HH:=mkHid' h
 have HS:=mkHid' hs
 clear hb hl h hs
 go_enter Tryz.func73,Tryz.ntmps73
 go_wp2_with fail
 refine(readNums_any a n c ss w HH.out HS.out hn).mono ?_
 rintro e w1 ⟨hr,hx⟩
 have HX1:=mkHid' hx
 have HB1:=mkHid' (HB.out.next hx)
 clear hx
 rcases hr with⟨hok,v,rfl,ho⟩|⟨hno,rfl⟩
 ·have HOK:=mkHid' hok
  have HO:=mkHid' ho
  clear hok ho
  go_wp2
  go_ret2
  exact⟨Or.inl ⟨HOK.out,_,rfl,HO.out⟩,HX1.out⟩
 ·have HNO:=mkHid' hno
  clear hno
  go_wp2_with fail
  refine(refuse_any rb 8 line cs w1 HB1.out HL.out).mono ?_
  rintro e w2 ⟨⟨v,rfl,hf⟩,hx⟩
  have HF:=mkHid' (hf.base HX1.out)
  have HX2:=mkHid' (HX1.out.trans hx)
  clear hf hx
  go_wp2
  go_ret2
  exact⟨Or.inr ⟨HNO.out,_,rfl,HF.out⟩,HX2.out⟩
end Go.Proofs.YthhkjbfkgdlkmaaGreatDoor
