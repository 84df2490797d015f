import Derived.Test.YthhkjbfkgdlkmaaGreatDoorQL
import Derived.Test.YthhkjbfkgdlkmaaGreatDoorPM
namespace Go.Proofs.YthhkjbfkgdlkmaaGreatDoor
open Go.RowKit Go.Sort
set_option linter.unusedVariables false
set_option maxRecDepth 1000000
set_option maxHeartbeats 16000000
def Eqb (M:Nat)(w w':World):Prop:=∀b,b<M->w'.heap[b]?=w.heap[b]?
theorem Eqb.trans {M:Nat}{a b c:World}(h:Eqb M a b)(k:Eqb M b c):Eqb M a c:=λx hx=>(k x hx).trans (h x hx)
theorem eqb_cell {M:Nat}{w w':World}(h:Eqb M w w'){b o:Nat}(hb:b<M):w'.cell? ⟨b,o,none⟩=w.cell? ⟨b,o,none⟩:=by
 have e:=h b hb
 simp[World.cell?,e]
theorem Nx.eqb {M:Nat}{w w':World}(h:Nx w w')(hM:M<=w.heap.size):Eqb M w w':=λb hb=>h.block b (by omega)
theorem Chg.eqb {M rb:Nat}{w w':World}(h:Chg (λx=>x=rb) w w')(hM:M<=w.heap.size)(hr:M<=rb):Eqb M w w':=λb hb=>h.block b (by omega) (λe=>by have e':b=rb:=e;omega)
def HBm (M:Nat)(w:World)(a:Option Addr)(bs:List UInt8):Prop:=0<bs.length->∃b off,a=some ⟨b,off,none⟩/\b<M/\∀i,i<bs.length->w.cell? ⟨b,off+i,none⟩=some (.int .u8 (byteAt bs i))
theorem HBm.z {M:Nat}{w w':World}{a:Option Addr}{bs:List UInt8}(h:HBm M w a bs)(k:Eqb M w w'):HBz w' a bs:=λhp=>by
 obtain⟨b,off,e,hb,hc⟩:=h hp
 exact⟨b,off,e,λi hi=>by rw[eqb_cell k hb];exact hc i hi⟩
def LnR (M:Nat)(w:World)(v:Value)(ls:List ByteArray)(n:Nat):Prop:=∃a c,v=.slice a n c/\(0<n->∃g off,a=some ⟨g,off,none⟩/\g<M/\∀i,i<n->∃ai ci,w.cell? ⟨g,off+i,none⟩=some (.slice ai (sat ls (i+1)).size ci)/\HBm M w ai (sat ls (i+1)).data.toList)
theorem stOf_data (s:ByteArray):stOf s.data.toList=s:=rfl
def pat (ps:List Px)(i:Nat):Px:=ps.getD i ⟨zDe,0,.slice none 0 0,.slice none 0 0,.slice none 0 0,.slice none 0 0⟩
def NoOk (ps:List Px):Prop:=∀i,i<ps.length->(pat ps i).no=(i:Int)+2
theorem NoOk.snoc {ps:List Px}{p:Px}(h:NoOk ps)(hp:p.no=(ps.length:Int)+2):NoOk (ps++[p]):=λi hi=>by
 rw[List.length_append,List.length_singleton] at hi
 unfold pat
 rw[List.getD_eq_getElem?_getD]
 by_cases e:i<ps.length
 ·rw[List.getElem?_append_left e]
  have:=h i e
  unfold pat at this
  rw[List.getD_eq_getElem?_getD] at this
  exact this
 ·have e':i=ps.length:=by omega
  subst e'
  simpa using hp
def LinesR (M:Nat)(w w':World)(rb:Nat)(ls:List ByteArray)(e:Ending):Prop:=
 (∃i,firstN ls.length (lnB ls)=some i/\∃v,e=.returned v/\(FltR w w' (lnC ls i) ((i:Int)+1) v/\Chg (λx=>x=rb) w w'))\/(firstN ls.length (lnB ls)=none/\e=.returned .nilIface/\∃wm ps line,Nx w wm/\RMx wm w' rb line ps/\ps.map (·.d)=dsTo ls (ls.length-1)/\NoOk ps)
theorem find_none {s:ByteArray}{rb:Nat}(h0:¬s.toList=[110,111,100,101])(h1:¬s.toList=[119,97,121])(h2:¬s.toList=[110,111])(h3:¬s.toList=[111,110,108,121])(h4:¬s.toList=[116,117,114,110])(h5:¬s.toList=[117,116,117,114,110]):Instr.findNow .string (.string s) ((((((((#[]:Array MapEntry).push (MapEntry.mk (.string ⟨#[110,111,100,101]⟩) (.func (.func 50) #[.pointer (some ⟨rb,0,none⟩)] #[]) 0)).push (MapEntry.mk (.string ⟨#[119,97,121]⟩) (.func (.func 51) #[.pointer (some ⟨rb,0,none⟩)] #[]) 1)).push (MapEntry.mk (.string ⟨#[110,111]⟩) (.func (.func 52) #[.pointer (some ⟨rb,0,none⟩)] #[]) 2)).push (MapEntry.mk (.string ⟨#[111,110,108,121]⟩) (.func (.func 53) #[.pointer (some ⟨rb,0,none⟩)] #[]) 3)).push (MapEntry.mk (.string ⟨#[116,117,114,110]⟩) (.func (.func 54) #[.pointer (some ⟨rb,0,none⟩)] #[]) 4)).push (MapEntry.mk (.string ⟨#[117,116,117,114,110]⟩) (.func (.func 55) #[.pointer (some ⟨rb,0,none⟩)] #[]) 5))).toList 0=some none:=by
 have key:∀(l:List UInt8),¬s.toList=l->(s==(⟨l.toArray⟩:ByteArray))=false:=λl h=>by
  have e0:(s==(⟨l.toArray⟩:ByteArray))=(s.data==l.toArray):=by cases s;rfl
  rw[e0,beq_eq_false_iff_ne]
  intro e
  apply h
  rw[ByteArray.toList_eq,e]
 have e0:=key [110,111,100,101] h0
 have e1:=key [119,97,121] h1
 have e2:=key [110,111] h2
 have e3:=key [111,110,108,121] h3
 have e4:=key [116,117,114,110] h4
 have e5:=key [117,116,117,114,110] h5
 simp only[List.toArray] at e0 e1 e2 e3 e4 e5
 simp[Instr.findNow,Instr.sameNow,e0,e1,e2,e3,e4,e5]
theorem readLines_any (M:Nat)(rb:Nat)(v:Value)(ls:List ByteArray)(w:World)(hb:BT w rb #[.slice none 0 0,.slice none 0 0,.slice none 0 0,.slice none 0 0,.int .i64 0,.int .i64 0,.slice none 0 0] 79)(hp:1<=ls.length)(hl:ls.length<=300001)(hs:∀i,i<ls.length->(sat ls i).size<=300000)(hv:LnR M w v ls (ls.length-1))(hG:Gl w)(hMr:M<=rb/\Tryz.splitS_ren.g 1<M) :
  Calls Tryz.prog 30 #[.pointer (some ⟨rb,0,none⟩),v] w λe w'=>LinesR M w w' rb ls e:=by
 obtain⟨n,hnl⟩:∃n,ls.length=n+1:=⟨ls.length-1,by omega⟩
 have HNL:Hid (ls.length=n+1):=hnl
 rw[show ls.length-1=n by omega] at hv
 obtain⟨al,cl,rfl,hal⟩:=hv
 have HAL:=mkHid' hal
 have HSZ:=mkHid' hs
 have HG:=mkHid' hG
 have HMR:=mkHid' hMr
 have hnb:n<=300000:=by omega
 clear hal hs hG hMr hnl hl hp
 have HB0:=mkHid' hb
 have hrl:=hb.lt
 have HRL:=mkHid' hrl
 clear hb hrl
 go_enter Tryz.func30,Tryz.ntmps30
 go_wp2_with (refine wpList_mkM rfl _ rfl ?_)
 intro mb wa HMB hm0 hx0
 have HX0:=mkHid' hx0
 clear hx0
 go_wp2_with (refine wpList_insS rfl _ _ _ rfl rfl rfl rfl hm0 rfl ?_)
 intro w1_ hm1 hx1
 have HC1:=mkHid' hx1
 clear hm0 hx1
 go_wp2_with (refine wpList_insS rfl _ _ _ rfl rfl rfl rfl hm1 rfl ?_)
 intro w2_ hm2 hx2
 have HC2:=mkHid' (HC1.out.trans hx2)
 clear hx2 hm1 HC1
 go_wp2_with (refine wpList_insS rfl _ _ _ rfl rfl rfl rfl hm2 rfl ?_)
 intro w3_ hm3 hx3
 have HC3:=mkHid' (HC2.out.trans hx3)
 clear hx3 hm2 HC2
 go_wp2_with (refine wpList_insS rfl _ _ _ rfl rfl rfl rfl hm3 rfl ?_)
 intro w4_ hm4 hx4
 have HC4:=mkHid' (HC3.out.trans hx4)
 clear hx4 hm3 HC3
 go_wp2_with (refine wpList_insS rfl _ _ _ rfl rfl rfl rfl hm4 rfl ?_)
 intro w5_ hm5 hx5
 have HC5:=mkHid' (HC4.out.trans hx5)
 clear hx5 hm4 HC4
 go_wp2_with (refine wpList_insS rfl _ _ _ rfl rfl rfl rfl hm5 rfl ?_)
 intro w6_ hm6 hx6
 have HC6:=mkHid' (HC5.out.trans hx6)
 clear hx6 hm5 HC5
 have HMP:Hid (w6_.heap[mb]?=some (.map ((((((((#[]:Array MapEntry).push (MapEntry.mk (.string ⟨#[110,111,100,101]⟩) (.func (.func 50) #[.pointer (some ⟨rb,0,none⟩)] #[]) 0)).push (MapEntry.mk (.string ⟨#[119,97,121]⟩) (.func (.func 51) #[.pointer (some ⟨rb,0,none⟩)] #[]) 1)).push (MapEntry.mk (.string ⟨#[110,111]⟩) (.func (.func 52) #[.pointer (some ⟨rb,0,none⟩)] #[]) 2)).push (MapEntry.mk (.string ⟨#[111,110,108,121]⟩) (.func (.func 53) #[.pointer (some ⟨rb,0,none⟩)] #[]) 3)).push (MapEntry.mk (.string ⟨#[116,117,114,110]⟩) (.func (.func 54) #[.pointer (some ⟨rb,0,none⟩)] #[]) 4)).push (MapEntry.mk (.string ⟨#[117,116,117,114,110]⟩) (.func (.func 55) #[.pointer (some ⟨rb,0,none⟩)] #[]) 5))) 6)):=hm6
 have HX6:Hid (Nx w w6_):=by
  have h1:=HC6.out
  refine Below.trans HX0.out (h1.below HX0.out.size (λx hx=>?_))
  have e:x=mb:=hx
  have:=HMB.out
  omega
 clear hm6 HC6 HX0
 have HR0:=mkHid' (RM.start (HB0.out.next HX6.out))
 have HZ6:Hid (w.heap.size<=w6_.heap.size):=HX6.out.size
 have HML:Hid (mb<w6_.heap.size/\mb≠rb):=⟨(Array.getElem?_eq_some_iff.1 HMP.out).1,by have h1:=HMB.out;have h2:=HRL.out;omega⟩
 go_wp2
 go_loopw [28] (λs28 wr=>∃(i:Nat) (ps:List Px) (line:Int),i<=n/\s28=.int .i64 i/\Hid (RMx w6_ wr rb line ps)/\Hid (ps.length=i/\ps.map (·.d)=dsTo ls i/\NoOk ps)/\Hid (∀j,j<i+1->lnB ls j=false)) (λs28 _=>n-(intOf s28).toNat)
 case atStart=>exact⟨0,[],0,Nat.zero_le _,rfl,HR0,⟨rfl,rfl,λi hi=>absurd hi (Nat.not_lt_zero _)⟩,lnB_one ls⟩
 clear HR0
 obtain⟨i,ps,line,hin,rfl,HR,HPS,HNB⟩:=hrel
 by_cases hlt:i<n
 ·have hlt':(i:Int)<(n:Int):=by omega
  obtain⟨vN,vW,vR,vT,vL,hr⟩:=HR.out
  have HE6:Hid (Eqb M w w6_):=HX6.out.eqb (by have h1:=HRL.out;have h2:=HMR.out;omega)
  have HEQ:Hid (Eqb M w wr):=HE6.out.trans (hr.nx.eqb (by have h1:=HRL.out;have h2:=HMR.out;have h3:=HZ6.out;omega) HMR.out.1)
  obtain⟨g,off,ea,hgM,hcl⟩:=HAL.out (by omega)
  subst ea
  obtain⟨ai,ci,xc,hby⟩:=hcl i hlt
  have hsz:=HSZ.out (i+1) (by rw[HNL.out];omega)
  have xi:wr.cell? ⟨g,off+i,none⟩=some (.slice ai (sat ls (i+1)).size ci):=by rw[eqb_cell HEQ.out hgM];exact xc
  have HBY:=mkHid' hby
  clear hcl xc hby
  have HLC:Hid (lnC ls (i+1)=if (fldS (sat ls (i+1))).length=0 then 4 else chkS (fldS (sat ls (i+1)))):=rfl
  have HBI:Hid (lnC ls (i+1)≠0->firstN ls.length (lnB ls)=some (i+1)):=λh=>firstN_some (by rw[HNL.out];omega) (by unfold lnB;rw[decide_eq_true (by omega:1<=i+1)];simp[h]) HNB.out
  have HBN:Hid (lnC ls (i+1)=0->∀j,j<i+1+1->lnB ls j=false):=λh j hj=>by
   by_cases e:j=i+1
   ·subst e;unfold lnB;rw[h];simp
   ·exact HNB.out j (by omega)
  have HDX:=mkHid' (dsTo_succ ls i)
  have q5:wr.cell? ⟨rb,5,none⟩=some (.int .i64 line):=hr.bx.blk.cell (i:=5) rfl
  have f5:=hr.bx.blk.frozen 5
  have hwi:IntKind.i64.wrap ((i:Int)+2)=(i:Int)+2:=by rw[IntKind.wrap_i64];omega
  have HR7:=mkHid' (hr.setLine ((i:Int)+2))
  have HZR:Hid (w6_.heap.size<=wr.heap.size):=hr.nx.size
  have HE7:Hid (Eqb M w (wr.setCell ⟨rb,5,none⟩ (.int .i64 ((i:Int)+2)))):=HEQ.out.trans ((Chg.set (S:=λx=>x=rb) rb 5 _ rfl).eqb (by have h1:=HRL.out;have h2:=HMR.out;have h3:=HZ6.out;have h4:=HZR.out;omega) HMR.out.1)
  clear hr HR HNB
  generalize hsl:sat ls (i+1)=s at *
  clear hsl
  generalize hsn:s.size=sn at *
  have HSN:Hid (s.data.toList.length=sn):=by unfold Hid;rw[<-hsn];simp
  clear hsn
  obtain⟨lc,hlc⟩:∃q,lnC ls (i+1)=q:=⟨_,rfl⟩
  have HLE:Hid (lnC ls (i+1)=lc):=hlc
  rw[hlc] at HLC HBI HBN
  clear hlc
  go_upto_region 6 with fail
  generalize wr.setCell ⟨rb,5,none⟩ (.int .i64 ((i:Int)+2))=w7 at *
  clear q5 f5 xi
  go_wp2_with fail
  refine(splitF_any ai sn ci s.data.toList w7 (HBY.out.z HE7.out) HSN.out (by omega) (by
   obtain⟨m,hm⟩:=HG.out
   exact⟨m,by rw[eqb_cell HE7.out HMR.out.2];exact hm⟩)).mono ?_
  rintro e w8 ⟨hsp,hx⟩
  rw[stOf_data] at hsp
  have HX8:=mkHid' hx
  have HR8:=mkHid' (HR7.out.next hx)
  have HZ8:Hid (w.heap.size<=w7.heap.size):=Nat.le_trans HX6.out.size HR7.out.nx.size
  clear hx HR7 HE7 HBY
  rcases hsp with⟨hlk,v,rfl,ho⟩|⟨hlk,rfl⟩
  case inr=>
   have e0:fldS s=[]:=by have h:=fldS_lk s.data.toList;rw[hlk,stOf_data] at h;exact h
   have HL4:Hid (lc=4):=by unfold Hid;rw[HLC.out,e0];rfl
   clear hlk e0
   go_wp2_with fail
   refine(refuse_any rb 4 ((i:Int)+2) _ w8 HR8.out.bx rfl).mono ?_
   rintro e w9 ⟨⟨v,rfl,hfl⟩,hx⟩
   have HFL:Hid (FltR w w9 lc ((i:Int)+1+1) v):=by
    obtain⟨fb,e1,e2,e3⟩:=hfl
    rw[HL4.out]
    refine⟨fb,e1,?_,by rw[show(i:Int)+1+1=(i:Int)+2 by omega];exact e3⟩
    have h1:=HZ8.out
    have h2:=HX8.out.size
    omega
   have HCH:Hid (Chg (λx=>x=rb) w w9):=(Chg.nx HX6.out).trans (HR8.out.nx.trans (Chg.nx hx))
   clear hfl hx
   go_wp2
   go_ret
   refine Or.inl ⟨i+1,HBI.out (by rw[HL4.out];decide),v,rfl,?_,HCH.out⟩
   have h:=HFL.out
   rw[show(((i+1:Nat):Int)+1)=(i:Int)+1+1 by omega]
   rw[HLE.out]
   exact h
  have HFE:Hid (0<(fldS s).length):=by
   have h:=fldS_lk s.data.toList
   rw[hlk,stOf_data,if_pos rfl] at h
   unfold Hid
   rw[h,List.length_map]
   exact sp_ne 32 _
  have HLF:Hid (lc=chkS (fldS s)):=by
   have h:=HFE.out
   unfold Hid
   rw[HLC.out,if_neg (by omega)]
  have hfl:=fld_len s
  have HFZ:Hid (∀j,j<(fldS s).length->(sat (fldS s) j).size<=300000):=λj hj=>by
   have h1:=fld_size hj
   have h2:s.size=sn:=by have:=HSN.out;simpa using this
   omega
  have HFN:Hid ((fldS s).length<=300001):=by
   have h2:s.size=sn:=by have:=HSN.out;simpa using this
   unfold Hid;omega
  clear hlk HLC hfl HSN
  generalize fldS s=f at *
  clear s
  obtain⟨ab,cb,eb⟩:=row_slice ho
  obtain⟨nf,hnf⟩:∃q,f.length=q:=⟨_,rfl⟩
  rw[hnf] at eb HFE HFN
  have HNF:=mkHid' hnf
  subst eb
  obtain⟨gf,eg,-,-,xf0⟩:=OwnSt.at ho (i:=0) (by rw[hnf];exact HFE.out)
  subst eg
  have HOF:=mkHid' ho
  clear ho hnf
  have hnf0:(0:Int)<(nf:Int):=by have:=HFE.out;omega
  have hnf0':¬nf=0:=by have:=HFE.out;omega
  have HM8:Hid (w8.heap[mb]?=some (.map ((((((((#[]:Array MapEntry).push (MapEntry.mk (.string ⟨#[110,111,100,101]⟩) (.func (.func 50) #[.pointer (some ⟨rb,0,none⟩)] #[]) 0)).push (MapEntry.mk (.string ⟨#[119,97,121]⟩) (.func (.func 51) #[.pointer (some ⟨rb,0,none⟩)] #[]) 1)).push (MapEntry.mk (.string ⟨#[110,111]⟩) (.func (.func 52) #[.pointer (some ⟨rb,0,none⟩)] #[]) 2)).push (MapEntry.mk (.string ⟨#[111,110,108,121]⟩) (.func (.func 53) #[.pointer (some ⟨rb,0,none⟩)] #[]) 3)).push (MapEntry.mk (.string ⟨#[116,117,114,110]⟩) (.func (.func 54) #[.pointer (some ⟨rb,0,none⟩)] #[]) 4)).push (MapEntry.mk (.string ⟨#[117,116,117,114,110]⟩) (.func (.func 55) #[.pointer (some ⟨rb,0,none⟩)] #[]) 5))) 6)):=by
   have h1:w8.heap[mb]?=w6_.heap[mb]?:=HR8.out.nx.block mb HML.out.1 HML.out.2
   unfold Hid
   rw[h1];exact HMP.out
  by_cases hw0:(sat f 0).toList=[110,111,100,101]
  ·have hfw:Instr.findNow .string (.string (sat f 0)) ((((((((#[]:Array MapEntry).push (MapEntry.mk (.string ⟨#[110,111,100,101]⟩) (.func (.func 50) #[.pointer (some ⟨rb,0,none⟩)] #[]) 0)).push (MapEntry.mk (.string ⟨#[119,97,121]⟩) (.func (.func 51) #[.pointer (some ⟨rb,0,none⟩)] #[]) 1)).push (MapEntry.mk (.string ⟨#[110,111]⟩) (.func (.func 52) #[.pointer (some ⟨rb,0,none⟩)] #[]) 2)).push (MapEntry.mk (.string ⟨#[111,110,108,121]⟩) (.func (.func 53) #[.pointer (some ⟨rb,0,none⟩)] #[]) 3)).push (MapEntry.mk (.string ⟨#[116,117,114,110]⟩) (.func (.func 54) #[.pointer (some ⟨rb,0,none⟩)] #[]) 4)).push (MapEntry.mk (.string ⟨#[117,116,117,114,110]⟩) (.func (.func 55) #[.pointer (some ⟨rb,0,none⟩)] #[]) 5))).toList 0=some (some (0,.func (.func 50) #[.pointer (some ⟨rb,0,none⟩)] #[])):=by rw[str_of hw0];rfl
   go_wp2_with (refine wpList_lookY rfl _ _ rfl rfl rfl HM8.out hfw ?_)
   refine(readNode_any w6_ rb ((i:Int)+2) ps w8 ⟨_,_,_,_,_,HR8.out⟩ (by have:=HPS.out.1;omega) _ gf nf cb f HOF.out HNF.out HFN.out HFZ.out hw0).mono ?_
   rintro e w9 (⟨h0,rfl,p,hpd,hpn,hrx⟩|⟨h0,v,rfl,hfl,hx9⟩)
   ·have HR9:=mkHid' hrx
    have HP2:Hid ((ps++[p]).length=i+1/\(ps++[p]).map (·.d)=dsTo ls (i+1)/\NoOk (ps++[p])):=by
     obtain⟨h1,h2,h3⟩:=HPS.out
     refine⟨by rw[List.length_append,h1];rfl,by rw[List.map_append,h2,HDX.out,List.map_singleton,hpd],h3.snoc (by rw[hpn,h1])⟩
    have HB2:=mkHid' (HBN.out (by rw[HLF.out,h0]))
    clear hrx hpd hpn h0 hfw xf0 HM8 HR8 HOF HBN HBI
    go_wp2
    go_roundw
    case rel=>exact⟨i+1,ps++[p],(i:Int)+2,by omega,by go_num,HR9,HP2,HB2⟩
    case measure=>simp[intOf];omega
   ·obtain⟨fb,rfl,e2,e3⟩:=hfl
    have HL0:Hid (lc≠0):=by unfold Hid;rw[HLF.out];exact h0
    have HFL:Hid (FltR w w9 lc ((i:Int)+1+1) (.iface 59 (.pointer (some ⟨fb,0,none⟩)))):=by
     refine⟨fb,rfl,?_,by rw[HLF.out,show(i:Int)+1+1=(i:Int)+2 by omega];exact e3⟩
     have h1:=HZ8.out
     have h2:=HX8.out.size
     omega
    have HCH:Hid (Chg (λx=>x=rb) w w9):=(Chg.nx HX6.out).trans (HR8.out.nx.trans (Chg.nx hx9))
    clear e2 e3 h0 hx9 hfw xf0 HM8 HR8 HOF HBN
    go_wp2
    go_ret
    refine Or.inl ⟨i+1,HBI.out HL0.out,_,rfl,?_,HCH.out⟩
    have h:=HFL.out
    rw[show(((i+1:Nat):Int)+1)=(i:Int)+1+1 by omega]
    rw[HLE.out]
    exact h
  by_cases hw1:(sat f 0).toList=[119,97,121]
  ·have hfw:Instr.findNow .string (.string (sat f 0)) ((((((((#[]:Array MapEntry).push (MapEntry.mk (.string ⟨#[110,111,100,101]⟩) (.func (.func 50) #[.pointer (some ⟨rb,0,none⟩)] #[]) 0)).push (MapEntry.mk (.string ⟨#[119,97,121]⟩) (.func (.func 51) #[.pointer (some ⟨rb,0,none⟩)] #[]) 1)).push (MapEntry.mk (.string ⟨#[110,111]⟩) (.func (.func 52) #[.pointer (some ⟨rb,0,none⟩)] #[]) 2)).push (MapEntry.mk (.string ⟨#[111,110,108,121]⟩) (.func (.func 53) #[.pointer (some ⟨rb,0,none⟩)] #[]) 3)).push (MapEntry.mk (.string ⟨#[116,117,114,110]⟩) (.func (.func 54) #[.pointer (some ⟨rb,0,none⟩)] #[]) 4)).push (MapEntry.mk (.string ⟨#[117,116,117,114,110]⟩) (.func (.func 55) #[.pointer (some ⟨rb,0,none⟩)] #[]) 5))).toList 0=some (some (1,.func (.func 51) #[.pointer (some ⟨rb,0,none⟩)] #[])):=by rw[str_of hw1];rfl
   go_wp2_with (refine wpList_lookY rfl _ _ rfl rfl rfl HM8.out hfw ?_)
   refine(readWay_any w6_ rb ((i:Int)+2) ps w8 ⟨_,_,_,_,_,HR8.out⟩ (by have:=HPS.out.1;omega) _ gf nf cb f HOF.out HNF.out HFN.out HFZ.out hw1).mono ?_
   rintro e w9 (⟨h0,rfl,p,hpd,hpn,hrx⟩|⟨h0,v,rfl,hfl,hx9⟩)
   ·have HR9:=mkHid' hrx
    have HP2:Hid ((ps++[p]).length=i+1/\(ps++[p]).map (·.d)=dsTo ls (i+1)/\NoOk (ps++[p])):=by
     obtain⟨h1,h2,h3⟩:=HPS.out
     refine⟨by rw[List.length_append,h1];rfl,by rw[List.map_append,h2,HDX.out,List.map_singleton,hpd],h3.snoc (by rw[hpn,h1])⟩
    have HB2:=mkHid' (HBN.out (by rw[HLF.out,h0]))
    clear hrx hpd hpn h0 hfw xf0 HM8 HR8 HOF HBN HBI
    go_wp2
    go_roundw
    case rel=>exact⟨i+1,ps++[p],(i:Int)+2,by omega,by go_num,HR9,HP2,HB2⟩
    case measure=>simp[intOf];omega
   ·obtain⟨fb,rfl,e2,e3⟩:=hfl
    have HL0:Hid (lc≠0):=by unfold Hid;rw[HLF.out];exact h0
    have HFL:Hid (FltR w w9 lc ((i:Int)+1+1) (.iface 59 (.pointer (some ⟨fb,0,none⟩)))):=by
     refine⟨fb,rfl,?_,by rw[HLF.out,show(i:Int)+1+1=(i:Int)+2 by omega];exact e3⟩
     have h1:=HZ8.out
     have h2:=HX8.out.size
     omega
    have HCH:Hid (Chg (λx=>x=rb) w w9):=(Chg.nx HX6.out).trans (HR8.out.nx.trans (Chg.nx hx9))
    clear e2 e3 h0 hx9 hfw xf0 HM8 HR8 HOF HBN
    go_wp2
    go_ret
    refine Or.inl ⟨i+1,HBI.out HL0.out,_,rfl,?_,HCH.out⟩
    have h:=HFL.out
    rw[show(((i+1:Nat):Int)+1)=(i:Int)+1+1 by omega]
    rw[HLE.out]
    exact h
  by_cases hw2:(sat f 0).toList=[110,111]
  ·have hfw:Instr.findNow .string (.string (sat f 0)) ((((((((#[]:Array MapEntry).push (MapEntry.mk (.string ⟨#[110,111,100,101]⟩) (.func (.func 50) #[.pointer (some ⟨rb,0,none⟩)] #[]) 0)).push (MapEntry.mk (.string ⟨#[119,97,121]⟩) (.func (.func 51) #[.pointer (some ⟨rb,0,none⟩)] #[]) 1)).push (MapEntry.mk (.string ⟨#[110,111]⟩) (.func (.func 52) #[.pointer (some ⟨rb,0,none⟩)] #[]) 2)).push (MapEntry.mk (.string ⟨#[111,110,108,121]⟩) (.func (.func 53) #[.pointer (some ⟨rb,0,none⟩)] #[]) 3)).push (MapEntry.mk (.string ⟨#[116,117,114,110]⟩) (.func (.func 54) #[.pointer (some ⟨rb,0,none⟩)] #[]) 4)).push (MapEntry.mk (.string ⟨#[117,116,117,114,110]⟩) (.func (.func 55) #[.pointer (some ⟨rb,0,none⟩)] #[]) 5))).toList 0=some (some (2,.func (.func 52) #[.pointer (some ⟨rb,0,none⟩)] #[])):=by rw[str_of hw2];rfl
   go_wp2_with (refine wpList_lookY rfl _ _ rfl rfl rfl HM8.out hfw ?_)
   refine(readNo_any w6_ rb ((i:Int)+2) ps w8 ⟨_,_,_,_,_,HR8.out⟩ (by have:=HPS.out.1;omega) _ gf nf cb f HOF.out HNF.out HFN.out HFZ.out hw2).mono ?_
   rintro e w9 (⟨h0,rfl,p,hpd,hpn,hrx⟩|⟨h0,v,rfl,hfl,hx9⟩)
   ·have HR9:=mkHid' hrx
    have HP2:Hid ((ps++[p]).length=i+1/\(ps++[p]).map (·.d)=dsTo ls (i+1)/\NoOk (ps++[p])):=by
     obtain⟨h1,h2,h3⟩:=HPS.out
     refine⟨by rw[List.length_append,h1];rfl,by rw[List.map_append,h2,HDX.out,List.map_singleton,hpd],h3.snoc (by rw[hpn,h1])⟩
    have HB2:=mkHid' (HBN.out (by rw[HLF.out,h0]))
    clear hrx hpd hpn h0 hfw xf0 HM8 HR8 HOF HBN HBI
    go_wp2
    go_roundw
    case rel=>exact⟨i+1,ps++[p],(i:Int)+2,by omega,by go_num,HR9,HP2,HB2⟩
    case measure=>simp[intOf];omega
   ·obtain⟨fb,rfl,e2,e3⟩:=hfl
    have HL0:Hid (lc≠0):=by unfold Hid;rw[HLF.out];exact h0
    have HFL:Hid (FltR w w9 lc ((i:Int)+1+1) (.iface 59 (.pointer (some ⟨fb,0,none⟩)))):=by
     refine⟨fb,rfl,?_,by rw[HLF.out,show(i:Int)+1+1=(i:Int)+2 by omega];exact e3⟩
     have h1:=HZ8.out
     have h2:=HX8.out.size
     omega
    have HCH:Hid (Chg (λx=>x=rb) w w9):=(Chg.nx HX6.out).trans (HR8.out.nx.trans (Chg.nx hx9))
    clear e2 e3 h0 hx9 hfw xf0 HM8 HR8 HOF HBN
    go_wp2
    go_ret
    refine Or.inl ⟨i+1,HBI.out HL0.out,_,rfl,?_,HCH.out⟩
    have h:=HFL.out
    rw[show(((i+1:Nat):Int)+1)=(i:Int)+1+1 by omega]
    rw[HLE.out]
    exact h
  by_cases hw3:(sat f 0).toList=[111,110,108,121]
  ·have hfw:Instr.findNow .string (.string (sat f 0)) ((((((((#[]:Array MapEntry).push (MapEntry.mk (.string ⟨#[110,111,100,101]⟩) (.func (.func 50) #[.pointer (some ⟨rb,0,none⟩)] #[]) 0)).push (MapEntry.mk (.string ⟨#[119,97,121]⟩) (.func (.func 51) #[.pointer (some ⟨rb,0,none⟩)] #[]) 1)).push (MapEntry.mk (.string ⟨#[110,111]⟩) (.func (.func 52) #[.pointer (some ⟨rb,0,none⟩)] #[]) 2)).push (MapEntry.mk (.string ⟨#[111,110,108,121]⟩) (.func (.func 53) #[.pointer (some ⟨rb,0,none⟩)] #[]) 3)).push (MapEntry.mk (.string ⟨#[116,117,114,110]⟩) (.func (.func 54) #[.pointer (some ⟨rb,0,none⟩)] #[]) 4)).push (MapEntry.mk (.string ⟨#[117,116,117,114,110]⟩) (.func (.func 55) #[.pointer (some ⟨rb,0,none⟩)] #[]) 5))).toList 0=some (some (3,.func (.func 53) #[.pointer (some ⟨rb,0,none⟩)] #[])):=by rw[str_of hw3];rfl
   go_wp2_with (refine wpList_lookY rfl _ _ rfl rfl rfl HM8.out hfw ?_)
   refine(readOnly_any w6_ rb ((i:Int)+2) ps w8 ⟨_,_,_,_,_,HR8.out⟩ (by have:=HPS.out.1;omega) _ gf nf cb f HOF.out HNF.out HFN.out HFZ.out hw3).mono ?_
   rintro e w9 (⟨h0,rfl,p,hpd,hpn,hrx⟩|⟨h0,v,rfl,hfl,hx9⟩)
   ·have HR9:=mkHid' hrx
    have HP2:Hid ((ps++[p]).length=i+1/\(ps++[p]).map (·.d)=dsTo ls (i+1)/\NoOk (ps++[p])):=by
     obtain⟨h1,h2,h3⟩:=HPS.out
     refine⟨by rw[List.length_append,h1];rfl,by rw[List.map_append,h2,HDX.out,List.map_singleton,hpd],h3.snoc (by rw[hpn,h1])⟩
    have HB2:=mkHid' (HBN.out (by rw[HLF.out,h0]))
    clear hrx hpd hpn h0 hfw xf0 HM8 HR8 HOF HBN HBI
    go_wp2
    go_roundw
    case rel=>exact⟨i+1,ps++[p],(i:Int)+2,by omega,by go_num,HR9,HP2,HB2⟩
    case measure=>simp[intOf];omega
   ·obtain⟨fb,rfl,e2,e3⟩:=hfl
    have HL0:Hid (lc≠0):=by unfold Hid;rw[HLF.out];exact h0
    have HFL:Hid (FltR w w9 lc ((i:Int)+1+1) (.iface 59 (.pointer (some ⟨fb,0,none⟩)))):=by
     refine⟨fb,rfl,?_,by rw[HLF.out,show(i:Int)+1+1=(i:Int)+2 by omega];exact e3⟩
     have h1:=HZ8.out
     have h2:=HX8.out.size
     omega
    have HCH:Hid (Chg (λx=>x=rb) w w9):=(Chg.nx HX6.out).trans (HR8.out.nx.trans (Chg.nx hx9))
    clear e2 e3 h0 hx9 hfw xf0 HM8 HR8 HOF HBN
    go_wp2
    go_ret
    refine Or.inl ⟨i+1,HBI.out HL0.out,_,rfl,?_,HCH.out⟩
    have h:=HFL.out
    rw[show(((i+1:Nat):Int)+1)=(i:Int)+1+1 by omega]
    rw[HLE.out]
    exact h
  by_cases hw4:(sat f 0).toList=[116,117,114,110]
  ·have hfw:Instr.findNow .string (.string (sat f 0)) ((((((((#[]:Array MapEntry).push (MapEntry.mk (.string ⟨#[110,111,100,101]⟩) (.func (.func 50) #[.pointer (some ⟨rb,0,none⟩)] #[]) 0)).push (MapEntry.mk (.string ⟨#[119,97,121]⟩) (.func (.func 51) #[.pointer (some ⟨rb,0,none⟩)] #[]) 1)).push (MapEntry.mk (.string ⟨#[110,111]⟩) (.func (.func 52) #[.pointer (some ⟨rb,0,none⟩)] #[]) 2)).push (MapEntry.mk (.string ⟨#[111,110,108,121]⟩) (.func (.func 53) #[.pointer (some ⟨rb,0,none⟩)] #[]) 3)).push (MapEntry.mk (.string ⟨#[116,117,114,110]⟩) (.func (.func 54) #[.pointer (some ⟨rb,0,none⟩)] #[]) 4)).push (MapEntry.mk (.string ⟨#[117,116,117,114,110]⟩) (.func (.func 55) #[.pointer (some ⟨rb,0,none⟩)] #[]) 5))).toList 0=some (some (4,.func (.func 54) #[.pointer (some ⟨rb,0,none⟩)] #[])):=by rw[str_of hw4];rfl
   go_wp2_with (refine wpList_lookY rfl _ _ rfl rfl rfl HM8.out hfw ?_)
   refine(readTurn_any w6_ rb ((i:Int)+2) ps w8 ⟨_,_,_,_,_,HR8.out⟩ (by have:=HPS.out.1;omega) _ gf nf cb f HOF.out HNF.out HFN.out HFZ.out hw4).mono ?_
   rintro e w9 (⟨h0,rfl,p,hpd,hpn,hrx⟩|⟨h0,v,rfl,hfl,hx9⟩)
   ·have HR9:=mkHid' hrx
    have HP2:Hid ((ps++[p]).length=i+1/\(ps++[p]).map (·.d)=dsTo ls (i+1)/\NoOk (ps++[p])):=by
     obtain⟨h1,h2,h3⟩:=HPS.out
     refine⟨by rw[List.length_append,h1];rfl,by rw[List.map_append,h2,HDX.out,List.map_singleton,hpd],h3.snoc (by rw[hpn,h1])⟩
    have HB2:=mkHid' (HBN.out (by rw[HLF.out,h0]))
    clear hrx hpd hpn h0 hfw xf0 HM8 HR8 HOF HBN HBI
    go_wp2
    go_roundw
    case rel=>exact⟨i+1,ps++[p],(i:Int)+2,by omega,by go_num,HR9,HP2,HB2⟩
    case measure=>simp[intOf];omega
   ·obtain⟨fb,rfl,e2,e3⟩:=hfl
    have HL0:Hid (lc≠0):=by unfold Hid;rw[HLF.out];exact h0
    have HFL:Hid (FltR w w9 lc ((i:Int)+1+1) (.iface 59 (.pointer (some ⟨fb,0,none⟩)))):=by
     refine⟨fb,rfl,?_,by rw[HLF.out,show(i:Int)+1+1=(i:Int)+2 by omega];exact e3⟩
     have h1:=HZ8.out
     have h2:=HX8.out.size
     omega
    have HCH:Hid (Chg (λx=>x=rb) w w9):=(Chg.nx HX6.out).trans (HR8.out.nx.trans (Chg.nx hx9))
    clear e2 e3 h0 hx9 hfw xf0 HM8 HR8 HOF HBN
    go_wp2
    go_ret
    refine Or.inl ⟨i+1,HBI.out HL0.out,_,rfl,?_,HCH.out⟩
    have h:=HFL.out
    rw[show(((i+1:Nat):Int)+1)=(i:Int)+1+1 by omega]
    rw[HLE.out]
    exact h
  by_cases hw5:(sat f 0).toList=[117,116,117,114,110]
  ·have hfw:Instr.findNow .string (.string (sat f 0)) ((((((((#[]:Array MapEntry).push (MapEntry.mk (.string ⟨#[110,111,100,101]⟩) (.func (.func 50) #[.pointer (some ⟨rb,0,none⟩)] #[]) 0)).push (MapEntry.mk (.string ⟨#[119,97,121]⟩) (.func (.func 51) #[.pointer (some ⟨rb,0,none⟩)] #[]) 1)).push (MapEntry.mk (.string ⟨#[110,111]⟩) (.func (.func 52) #[.pointer (some ⟨rb,0,none⟩)] #[]) 2)).push (MapEntry.mk (.string ⟨#[111,110,108,121]⟩) (.func (.func 53) #[.pointer (some ⟨rb,0,none⟩)] #[]) 3)).push (MapEntry.mk (.string ⟨#[116,117,114,110]⟩) (.func (.func 54) #[.pointer (some ⟨rb,0,none⟩)] #[]) 4)).push (MapEntry.mk (.string ⟨#[117,116,117,114,110]⟩) (.func (.func 55) #[.pointer (some ⟨rb,0,none⟩)] #[]) 5))).toList 0=some (some (5,.func (.func 55) #[.pointer (some ⟨rb,0,none⟩)] #[])):=by rw[str_of hw5];rfl
   go_wp2_with (refine wpList_lookY rfl _ _ rfl rfl rfl HM8.out hfw ?_)
   refine(readUTurn_any w6_ rb ((i:Int)+2) ps w8 ⟨_,_,_,_,_,HR8.out⟩ (by have:=HPS.out.1;omega) _ gf nf cb f HOF.out HNF.out HFN.out HFZ.out hw5).mono ?_
   rintro e w9 (⟨h0,rfl,p,hpd,hpn,hrx⟩|⟨h0,v,rfl,hfl,hx9⟩)
   ·have HR9:=mkHid' hrx
    have HP2:Hid ((ps++[p]).length=i+1/\(ps++[p]).map (·.d)=dsTo ls (i+1)/\NoOk (ps++[p])):=by
     obtain⟨h1,h2,h3⟩:=HPS.out
     refine⟨by rw[List.length_append,h1];rfl,by rw[List.map_append,h2,HDX.out,List.map_singleton,hpd],h3.snoc (by rw[hpn,h1])⟩
    have HB2:=mkHid' (HBN.out (by rw[HLF.out,h0]))
    clear hrx hpd hpn h0 hfw xf0 HM8 HR8 HOF HBN HBI
    go_wp2
    go_roundw
    case rel=>exact⟨i+1,ps++[p],(i:Int)+2,by omega,by go_num,HR9,HP2,HB2⟩
    case measure=>simp[intOf];omega
   ·obtain⟨fb,rfl,e2,e3⟩:=hfl
    have HL0:Hid (lc≠0):=by unfold Hid;rw[HLF.out];exact h0
    have HFL:Hid (FltR w w9 lc ((i:Int)+1+1) (.iface 59 (.pointer (some ⟨fb,0,none⟩)))):=by
     refine⟨fb,rfl,?_,by rw[HLF.out,show(i:Int)+1+1=(i:Int)+2 by omega];exact e3⟩
     have h1:=HZ8.out
     have h2:=HX8.out.size
     omega
    have HCH:Hid (Chg (λx=>x=rb) w w9):=(Chg.nx HX6.out).trans (HR8.out.nx.trans (Chg.nx hx9))
    clear e2 e3 h0 hx9 hfw xf0 HM8 HR8 HOF HBN
    go_wp2
    go_ret
    refine Or.inl ⟨i+1,HBI.out HL0.out,_,rfl,?_,HCH.out⟩
    have h:=HFL.out
    rw[show(((i+1:Nat):Int)+1)=(i:Int)+1+1 by omega]
    rw[HLE.out]
    exact h
  have HL5:Hid (lc=5):=by
   unfold Hid
   rw[HLF.out]
   unfold chkS relB
   have e1:((sat f 0).toList==[110,111])=false:=by simpa using hw2
   have e2:((sat f 0).toList==[111,110,108,121])=false:=by simpa using hw3
   rw[e1,e2,if_pos ⟨hw0,hw1,hw4,hw5,rfl⟩]
  have hfw:Instr.findNow .string (.string (sat f 0)) ((((((((#[]:Array MapEntry).push (MapEntry.mk (.string ⟨#[110,111,100,101]⟩) (.func (.func 50) #[.pointer (some ⟨rb,0,none⟩)] #[]) 0)).push (MapEntry.mk (.string ⟨#[119,97,121]⟩) (.func (.func 51) #[.pointer (some ⟨rb,0,none⟩)] #[]) 1)).push (MapEntry.mk (.string ⟨#[110,111]⟩) (.func (.func 52) #[.pointer (some ⟨rb,0,none⟩)] #[]) 2)).push (MapEntry.mk (.string ⟨#[111,110,108,121]⟩) (.func (.func 53) #[.pointer (some ⟨rb,0,none⟩)] #[]) 3)).push (MapEntry.mk (.string ⟨#[116,117,114,110]⟩) (.func (.func 54) #[.pointer (some ⟨rb,0,none⟩)] #[]) 4)).push (MapEntry.mk (.string ⟨#[117,116,117,114,110]⟩) (.func (.func 55) #[.pointer (some ⟨rb,0,none⟩)] #[]) 5))).toList 0=some none:=find_none hw0 hw1 hw2 hw3 hw4 hw5
  go_wp2_with (refine wpList_lookN rfl _ _ rfl rfl rfl HM8.out hfw ?_)
  refine(refuse_any rb 5 ((i:Int)+2) _ w8 HR8.out.bx rfl).mono ?_
  rintro e w9 ⟨⟨v,rfl,hfl⟩,hx⟩
  have HFL:Hid (FltR w w9 lc ((i:Int)+1+1) v):=by
   obtain⟨fb,e1,e2,e3⟩:=hfl
   rw[HL5.out]
   refine⟨fb,e1,?_,by rw[show(i:Int)+1+1=(i:Int)+2 by omega];exact e3⟩
   have h1:=HZ8.out
   have h2:=HX8.out.size
   omega
  have HCH:Hid (Chg (λx=>x=rb) w w9):=(Chg.nx HX6.out).trans (HR8.out.nx.trans (Chg.nx hx))
  clear hfl hx
  go_wp2
  go_ret
  refine Or.inl ⟨i+1,HBI.out (by rw[HL5.out];decide),v,rfl,?_,HCH.out⟩
  have h:=HFL.out
  rw[show(((i+1:Nat):Int)+1)=(i:Int)+1+1 by omega]
  rw[HLE.out]
  exact h
 have ei:i=n:=by omega
 subst ei
 go_wp2
 go_ret
 refine Or.inr ⟨firstN_none (λj hj=>HNB.out j (by rw[HNL.out] at hj;exact hj)),rfl,w6_,ps,line,HX6.out,HR.out,by rw[HNL.out];exact HPS.out.2.1,HPS.out.2.2⟩
end Go.Proofs.YthhkjbfkgdlkmaaGreatDoor
