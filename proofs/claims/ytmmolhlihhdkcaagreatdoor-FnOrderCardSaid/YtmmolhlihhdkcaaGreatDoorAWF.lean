import Derived.Test.YtmmolhlihhdkcaaGreatDoorAWD
import Derived.Test.YtmmolhlihhdkcaaGreatDoorAWE
import Derived.Test.YtmmolhlihhdkcaaGreatDoorAEF
import Derived.Lib.LaidTab
namespace Go.Proofs.YtmmolhlihhdkcaaGreatDoor
open Go.RowKit Go.Sort
set_option linter.unusedVariables false
set_option maxRecDepth 1000000
set_option maxHeartbeats 16000000
theorem Fq (B:Nat)(v:Value)(code:List UInt8)(w:World)(h:HBy B w v code)(hl:code.length<=1048576) :
  Calls Tryz.prog 5 #[v] w λe w'=>(∃v0 v1 v2 v3,e=.returned (.agg #[v0,v1,v2,v3,.int .i64 (Uo (Wi code)).uturn])/\∃vn vw vr,ONt (w.heap.size+1) w' v0 v1 v2 v3 (Uo (Wi code)) vn vw vr)/\Nx w w':=by
 have HB:=Q0 h
 have HL:Hid (code.length<=1048576):=hl
 obtain⟨ca,cc,rfl,hmx1,hk⟩:=h
 clear hk hmx1 hl
 go_enter Tryz.func5,Tryz.ntmps5
 go_upto_region 1 with fail
 have HX0:Hid (Nx w (w.alloc (.cells #[.slice none 0 0,.slice none 0 0,.slice none 0 0,.slice none 0 0,.int .i64 0] 28))):=Qc _ _
 have HB0:Hid (BT (w.alloc (.cells #[.slice none 0 0,.slice none 0 0,.slice none 0 0,.slice none 0 0,.int .i64 0] 28)) w.heap.size #[.slice none 0 0,.slice none 0 0,.slice none 0 0,.slice none 0 0,.int .i64 0] 28):=BT.new _ _ _ _ rfl
 have HZ:Hid ((w.alloc (.cells #[.slice none 0 0,.slice none 0 0,.slice none 0 0,.slice none 0 0,.int .i64 0] 28)).heap.size=w.heap.size+1):=by unfold Hid;rw[Q7]
 generalize w.alloc (.cells #[.slice none 0 0,.slice none 0 0,.slice none 0 0,.slice none 0 0,.int .i64 0] 28)=wA at *
 have HBA:=Q0 (HB.out.next HX0.out)
 clear HB
 go_wp2_with fail
 refine(Q0t B _ code wA HBA.out HL.out).mono ?_
 rintro e w1 ⟨⟨b,rfl,hs1,hb1⟩,hx1⟩
 have HS1:=Q0 hs1
 have HX1:Hid (Nx w w1):=HX0.out.trans hx1
 have HB1:=Q0 (HB0.out.next hx1)
 have HBL:Hid (wA.heap.size<=b):=hb1
 clear hs1 hx1 hb1 HX0 HB0 HBA
 go_wp2_with fail
 refine(Ei _ b (Wi code) w1 HS1.out (Q1j code)).mono ?_
 rintro e w3 ⟨⟨v0,v1,v2,v3,rfl,vn,vw,vr,hO3⟩,hc3⟩
 have O3:=Q0 (hO3.base (show w.heap.size+1<=w1.heap.size+1 by have:=HX1.out.size;omega))
 have HX3:Hid (Nx w w3):=Below.trans HX1.out (hc3.below HX1.out.size (λx hx=>by have e:x=b:=hx;have:=HBL.out;have:=HZ.out;omega))
 have HB3:Hid (BT w3 w.heap.size #[.slice none 0 0,.slice none 0 0,.slice none 0 0,.slice none 0 0,.int .i64 0] 28):=HB1.out.chg hc3 (λe=>by have e':w.heap.size=b:=e;have:=HBL.out;have:=HZ.out;omega)
 clear hO3 hc3 HS1 HX1 HB1 HBL HZ
 obtain⟨a0,q0,e0⟩:=Q3 O3.out.nodes
 obtain⟨a1,q1,e1⟩:=Q3 O3.out.ways
 obtain⟨a2,q2,e2⟩:=Q3 O3.out.rels
 obtain⟨a3,q3,e3⟩:=Q3 O3.out.turns
 generalize hN0:Uo (Wi code)=NN at *
 have HNN:Hid (Uo (Wi code)=NN):=hN0
 clear hN0
 generalize NN.nodes.length=l0 at e0
 generalize NN.ways.length=l1 at e1
 generalize NN.rels.length=l2 at e2
 generalize NN.turns.length=l3 at e3
 generalize huu:NN.uturn=uu
 have HU:Hid (NN.uturn=uu):=huu
 clear huu
 subst e0 e1 e2 e3
 have BR:=HB3.out
 have x0:=BR.blk.cell (i:=0) rfl
 have fz0:=BR.blk.frozen 0
 have x1:=BR.blk.cell (i:=1) rfl
 have fz1:=BR.blk.frozen 1
 have x2:=BR.blk.cell (i:=2) rfl
 have fz2:=BR.blk.frozen 2
 have x3:=BR.blk.cell (i:=3) rfl
 have fz3:=BR.blk.frozen 3
 have x4:=BR.blk.cell (i:=4) rfl
 have fz4:=BR.blk.frozen 4
 have BS:=Ti (a0:=.slice a0 l0 q0) (a1:=.slice a1 l1 q1) (a2:=.slice a2 l2 q2) (a3:=.slice a3 l3 q3) (a4:=.int .i64 uu) BR
 have P0:Hid (_=some (Value.slice a0 l0 q0)):=BS.blk.cell (i:=0) rfl
 have P1:Hid (_=some (Value.slice a1 l1 q1)):=BS.blk.cell (i:=1) rfl
 have P2:Hid (_=some (Value.slice a2 l2 q2)):=BS.blk.cell (i:=2) rfl
 have P3:Hid (_=some (Value.slice a3 l3 q3)):=BS.blk.cell (i:=3) rfl
 have P4:Hid (_=some (Value.int .i64 uu)):=BS.blk.cell (i:=4) rfl
 have HCF:Hid (Chg (λx=>x=w.heap.size) w3 (((((w3.setCell ⟨w.heap.size,0,none⟩ (.slice a0 l0 q0)).setCell ⟨w.heap.size,1,none⟩ (.slice a1 l1 q1)).setCell ⟨w.heap.size,2,none⟩ (.slice a2 l2 q2)).setCell ⟨w.heap.size,3,none⟩ (.slice a3 l3 q3)).setCell ⟨w.heap.size,4,none⟩ (.int .i64 uu))):=Tp
 clear BS BR
 go_wp2
 generalize hWF:(((((w3.setCell ⟨w.heap.size,0,none⟩ (.slice a0 l0 q0)).setCell ⟨w.heap.size,1,none⟩ (.slice a1 l1 q1)).setCell ⟨w.heap.size,2,none⟩ (.slice a2 l2 q2)).setCell ⟨w.heap.size,3,none⟩ (.slice a3 l3 q3)).setCell ⟨w.heap.size,4,none⟩ (.int .i64 uu))=wF at P0 P1 P2 P3 P4 HCF ⊢
 have p0_:=P0.out
 have p1_:=P1.out
 have p2_:=P2.out
 have p3_:=P3.out
 have p4_:=P4.out
 refine bodyPost_ret (v:=.agg #[.slice a0 l0 q0,.slice a1 l1 q1,.slice a2 l2 q2,.slice a3 l3 q3,.int .i64 uu]) (by simp[results,Tryz.results5,go_sem,p0_,p1_,p2_,p3_,p4_]) rfl ?_
 have hO:=O3.out.turnBox HB3.out (by decide) (λe=>absurd e (by decide)) HCF.out
 rw[HNN.out,<-HU.out]
 exact⟨⟨_,_,_,_,rfl,_,_,_,hO⟩,Below.trans HX3.out (HCF.out.below HX3.out.size (λx hx=>by have e:x=w.heap.size:=hx;omega))⟩
def Qbe (w:World):Prop:=Lib.TabIs Tryz.prog w "internal/strconv.uint64pow10" .u64 Lib.pow10Tab
theorem Qbe.tab {w:World}(h:Qbe w):Tab w.heap.size w:=Lib.tabBelow_of_tabIs h
theorem Qbe.next {w w':World}(h:Qbe w)(k:Nx w w'):Qbe w':=(h.tab).on k |>.here
theorem Own.held {B:Nat}{w:World}{v:Value}{bs:List UInt8}(h:Own B w v bs):HBy B w v bs:=by
 obtain⟨h1,h2⟩:=h
 rcases h2 with⟨rfl,h2⟩|⟨g,cap,cur,rfl,hg,hh,hc,hm,hs,ht⟩
 ·unfold HBy
  rw[h2]
  exact⟨_,_,rfl,by simp[maxLen],λh=>by omega⟩
 ·refine⟨_,_,rfl,by omega,λh0=>⟨g,0,rfl,hg,(Array.getElem?_eq_some_iff.1 hh).1,λi hi=>?_⟩⟩
  have e:cur[i]?=some (.int .u8 (Qq bs i)):=by
   have:(cur.toList.take (bs.length*1))[i]?=(Lib.byteCells bs)[i]?:=by rw[ht]
   rw[List.getElem?_take_of_lt (by omega)] at this
   rw[<-Array.getElem?_toList,this]
   simp[Lib.byteCells,hi,Qq]
  unfold World.cell?
  simp only[hh]
  simpa using e
theorem HBy.conv {B:Nat}{w:World}{v:Value}{bs:List UInt8}(h:HBy B w v bs):(convert 22 9 v).run Tryz.prog w=.ok (.string (stOf bs)) w:=by
 obtain⟨a,c,rfl,hm,hk⟩:=h
 by_cases h0:0<bs.length
 ·obtain⟨b,off,rfl,-,-,hc⟩:=hk h0
  exact Gg w b off bs.length c bs rfl hc
 ·have e:bs=[]:=List.length_eq_zero_iff.1 (by omega)
  subst e
  exact Al w a c
def lwV (bs:List UInt8)(i n:Nat):Nat:=if n<=1 then 0 else if bs.length=0 then (i*7)%n else ((bs.getD (i%bs.length) 0).toNat+i/bs.length)%n
theorem Qf0 {bs:List UInt8}{i n:Nat}(h:1<=n):lwV bs i n<n:=by
 unfold lwV
 split
 ·omega
 ·split
  ·exact Nat.mod_lt _ (by omega)
  ·exact Nat.mod_lt _ (by omega)
theorem Qa2 (B:Nat)(v:Value)(bs:List UInt8)(i n:Nat)(w:World)(h:HBy B w v bs)(hi:i<=1000000)(hn:n<=1000000)(hl:bs.length<=1048576) :
  Calls Tryz.prog 13 #[v,.int .i64 i,.int .i64 n] w λe w'=>e=.returned (.int .i64 (lwV bs i n:Int))/\Nx w w':=by
 have HD:Hid (lwV bs i n=if n<=1 then 0 else if bs.length=0 then (i*7)%n else ((bs.getD (i%bs.length) 0).toNat+i/bs.length)%n):=rfl
 obtain⟨va,vc,rfl,_,hk⟩:=h
 generalize hm:bs.length=m at *
 clear hm
 by_cases h1:n<=1
 ·have d1:decide ((n:Int)<=1)=true:=by simp;omega
  have d2:(n:Int)<=1:=by omega
  have HF:Hid ((0:Int)=(lwV bs i n:Int)):=by unfold Hid;rw[HD.out,if_pos h1];rfl
  go_enter Tryz.func13,Tryz.ntmps13
  go_wp2
  go_ret
  exact⟨Yx HF.out,Nx.refl _⟩
 have d1:decide ((n:Int)<=1)=false:=by simp;omega
 have d2:¬(n:Int)<=1:=by omega
 have dn:(n:Int)≠0:=by omega
 by_cases h2:m=0
 ·subst h2
  have HF:Hid (((i:Int)*7).tmod n=(lwV bs i n:Int)):=by
   unfold Hid
   rw[HD.out,if_neg h1,if_pos rfl]
   simp[Int.tmod_eq_emod_of_nonneg (show(0:Int)<=(i:Int)*7 by omega)]
  have w1:IntKind.i64.wrap ((i:Int)*7)=(i:Int)*7:=by rw[IntKind.wrap_i64];omega
  go_enter Tryz.func13,Tryz.ntmps13
  go_wp2
  go_ret
  exact⟨Yx HF.out,Nx.refl _⟩
 obtain⟨b,off,rfl,-,hb,hc⟩:=hk (by omega)
 obtain⟨r,hr⟩:∃r,i%m=r:=⟨_,rfl⟩
 obtain⟨q,hq⟩:∃q,i/m=q:=⟨_,rfl⟩
 have hrm:r<m:=by rw[<-hr];exact Nat.mod_lt _ (by omega)
 have hqi:q<=1000000:=by rw[<-hq];exact Nat.le_trans (Nat.div_le_self _ _) hi
 have xc:w.cell? ⟨b,off+r,none⟩=some (.int .u8 (Qq bs r)):=hc r hrm
 obtain⟨y,hy⟩:∃y:Nat,(bs.getD r 0).toNat=y:=⟨_,rfl⟩
 have hyb:Qq bs r=(y:Int):=by unfold Qq;rw[hy]
 have hy2:y<256:=by rw[<-hy];exact(bs.getD r 0).toNat_lt
 rw[hyb] at xc
 have t1:((i:Int)).tmod m=(r:Int):=by rw[Int.tmod_eq_emod_of_nonneg (by omega),<-hr];simp
 have t2:((i:Int)).tdiv m=(q:Int):=by rw[Int.tdiv_eq_ediv_of_nonneg (by omega),<-hq];simp
 have w2:IntKind.i64.wrap ((y:Int)+q)=(y:Int)+q:=by rw[IntKind.wrap_i64];omega
 have w3:IntKind.i64.wrap (y:Int)=(y:Int):=by rw[IntKind.wrap_i64];omega
 have w4:IntKind.i64.wrap (r:Int)=(r:Int):=by rw[IntKind.wrap_i64];omega
 have w5:IntKind.i64.wrap (q:Int)=(q:Int):=by rw[IntKind.wrap_i64];omega
 have dm:(m:Int)≠0:=by omega
 have dm':((m:Int)==0)=false:=by simp;omega
 have hrm':(r:Int)<m:=by omega
 obtain⟨z,hz⟩:∃z,(y+q)%n=z:=⟨_,rfl⟩
 have hzn:z<n:=by rw[<-hz];exact Nat.mod_lt _ (by omega)
 have t3:((y:Int)+q).tmod n=(z:Int):=by rw[Int.tmod_eq_emod_of_nonneg (by omega),<-hz];simp
 have w6:IntKind.i64.wrap (z:Int)=(z:Int):=by rw[IntKind.wrap_i64];omega
 have HF:Hid ((z:Int)=(lwV bs i n:Int)):=by unfold Hid;rw[HD.out,if_neg h1,if_neg h2,hr,hq,hy,hz]
 clear hc hk hr hq hy hyb hz HD
 go_enter Tryz.func13,Tryz.ntmps13
 go_wp2
 go_quiet (fail)
 go_wp2
 go_ret
 exact⟨Yx HF.out,⟨rfl,rfl,rfl,Nat.le_refl _,λ_ _=>rfl⟩⟩
def Xd (bs:List UInt8):Nat->List ByteArray×Nat
 |0=>([],0)
 |k+1=>if bs.getD k 0=10 then ((Xd bs k).1++[stOf ((bs.drop (Xd bs k).2).take (k+1-(Xd bs k).2))],k+1) else Xd bs k
theorem Qdn {P b R:List UInt8}{acc:List ByteArray}(hb:(10:UInt8)∉b)(h:Xd (P++((b++[10])++R)) P.length=(acc,P.length)):∀k,k<=b.length->Xd (P++((b++[10])++R)) (P.length+k)=(acc,P.length)
 |0,_=>h
 |k+1,hk=>by
  have hk':k<b.length:=by omega
  have e:(P++((b++[10])++R)).getD (P.length+k) 0=b[k]:=by
   rw[List.getD_eq_getElem?_getD,List.getElem?_append_right (by omega),Nat.add_sub_cancel_left,List.getElem?_append_left (by simp;omega),List.getElem?_append_left hk',List.getElem?_eq_getElem hk']
   rfl
  have e2:b[k]≠10:=λx=>hb (x▸List.getElem_mem _)
  have ih:=Qdn hb h k (by omega)
  show Xd _ (P.length+k+1)=_
  rw[Xd,e,if_neg e2]
  exact ih
theorem Qcf {P b R:List UInt8}{acc:List ByteArray}(hb:(10:UInt8)∉b)(h:Xd (P++((b++[10])++R)) P.length=(acc,P.length)):Xd (P++((b++[10])++R)) (P++(b++[10])).length=(acc++[stOf (b++[10])],(P++(b++[10])).length):=by
 have hin:=Qdn hb h b.length (Nat.le_refl _)
 have el:(P++(b++[10])).length=P.length+b.length+1:=by simp;omega
 have e:(P++((b++[10])++R)).getD (P.length+b.length) 0=10:=by
  rw[List.getD_eq_getElem?_getD,List.getElem?_append_right (by omega),Nat.add_sub_cancel_left,List.getElem?_append_left (by simp),List.getElem?_append_right (Nat.le_refl _),Nat.sub_self]
  rfl
 have ed:((P++((b++[10])++R)).drop P.length).take (P.length+b.length+1-P.length)=b++[10]:=by
  rw[List.drop_left,show P.length+b.length+1-P.length=(b++[10]).length by simp;omega,List.take_left]
 rw[el,Xd,e,if_pos rfl,hin]
 show(acc++[stOf (((P++((b++[10])++R)).drop P.length).take (P.length+b.length+1-P.length))],_)=_
 rw[ed]
theorem Qa3:∀(ls:List (List UInt8)) (P:List UInt8) (acc:List ByteArray),(∀b∈ls,(10:UInt8)∉b)->Xd (P++ls.flatMap (λb=>b++[10])) P.length=(acc,P.length)->Xd (P++ls.flatMap (λb=>b++[10])) (P++ls.flatMap (λb=>b++[10])).length=(acc++ls.map (λb=>stOf (b++[10])),(P++ls.flatMap (λb=>b++[10])).length)
 |[],P,acc,_,h=>by simpa using h
 |b::ls,P,acc,hb,h=>by
  rw[List.flatMap_cons] at h ⊢
  have h1:=Qcf (hb b (by simp)) h
  rw[<-List.append_assoc P (b++[10])] at h1 ⊢
  have h2:=Qa3 ls (P++(b++[10])) _ (λx hx=>hb x (by simp[hx])) h1
  rw[h2,List.map_cons]
  simp
def lnS (L:List De):List ByteArray:=stOf (headW++[10])::L.map (λd=>stOf (lnD d++[10]))
theorem Qce (L:List De):(Xd (txD L) (txD L).length).1=lnS L:=by
 have h:=Qa3 (headW::L.map lnD) [] [] (λb hb=>by
  rcases List.mem_cons.1 hb with rfl|hb
  ·decide
  ·obtain⟨d,_,rfl⟩:=List.mem_map.1 hb
   exact Aa d) rfl
 rw[List.flatMap_cons,List.flatMap_map,List.map_cons,List.map_map] at h
 have e:([]:List UInt8)++((headW++[10])++L.flatMap (λd=>lnD d++[10]))=txD L:=rfl
 rw[e] at h
 rw[h]
 rfl
theorem Qa4 {L:List De}{i j:Nat}(hi:1<=i)(hj:1<=j)(hil:i<(lnS L).length)(hjl:j<(lnS L).length):∃M:List De,M.Perm L/\lnS M=((lnS L).set i (sat (lnS L) j)).set j (sat (lnS L) i):=by
 obtain⟨i,rfl⟩:∃k,i=k+1:=⟨i-1,by omega⟩
 obtain⟨j,rfl⟩:∃k,j=k+1:=⟨j-1,by omega⟩
 have hi':i<L.length:=by simpa [lnS] using hil
 have hj':j<L.length:=by simpa [lnS] using hjl
 refine⟨(L.set i L[j]).set j L[i],List.set_set_perm hi' hj',?_⟩
 have e1:sat (lnS L) (j+1)=stOf (lnD L[j]++[10]):=by simp[sat,lnS,List.getD_eq_getElem?_getD,hj']
 have e2:sat (lnS L) (i+1)=stOf (lnD L[i]++[10]):=by simp[sat,lnS,List.getD_eq_getElem?_getD,hi']
 rw[e1,e2]
 simp only[lnS,List.set_cons_succ,List.map_set]
theorem Q0s (L:List De):(lnS L).length=L.length+1:=by simp[lnS]
theorem Q5v (L:List De):(lnS L).flatMap (λs=>s.data.toList)=txD L:=by
 unfold lnS txD
 rw[List.flatMap_cons,List.flatMap_map]
 rfl
theorem Q52 (ss:List ByteArray){k:Nat}(h:k<ss.length):(ss.take (k+1)).flatMap (λs=>s.data.toList)=(ss.take k).flatMap (λs=>s.data.toList)++(sat ss k).data.toList:=by
 rw[List.take_succ_eq_append_getElem h,List.flatMap_append]
 simp[sat,List.getD_eq_getElem?_getD,h]
theorem Qe5 (ss:List ByteArray)(k:Nat):((ss.take k).flatMap (λs=>s.data.toList)).length<=(ss.flatMap (λs=>s.data.toList)).length:=by
 conv=>rhs;rw[<-List.take_append_drop k ss,List.flatMap_append,List.length_append]
 omega
theorem Qbo (ss:List ByteArray){k:Nat}(h:k<ss.length):((ss.take k).flatMap (λs=>s.data.toList)).length+(sat ss k).size<=(ss.flatMap (λs=>s.data.toList)).length:=by
 have h1:=Qe5 ss (k+1)
 rw[Q52 ss h,List.length_append] at h1
 have e:(sat ss k).data.toList.length=(sat ss k).size:=by simp
 omega
theorem Qu.setAt {C n b c i:Nat}{w:World}{ss:List ByteArray}(h:Qu C w (.slice (some ⟨b,0,none⟩) n c) ss)(hn:ss.length=n)(s:ByteArray):Qu C (w.setCell ⟨b,i,none⟩ (.string s)) (.slice (some ⟨b,0,none⟩) n c) (ss.set i s):=by
 subst hn
 have k:=Xj (i:=i) h (.string s)
 show(w.setCell _ _).ownsRow C _ 1 _ (ss.set i s).length ((ss.set i s).map Value.string)
 rw[List.length_set,List.map_set]
 exact k
theorem Qu.fz {C n g c:Nat}{w:World}{ss:List ByteArray}(h:Qu C w (.slice (some ⟨g,0,none⟩) n c) ss)(i:Nat):w.frozen? ⟨g,i,none⟩=false:=by
 obtain⟨h3,h4⟩:=h
 rcases h4 with⟨e,_⟩|⟨g',cap,cur,e,hg,hh,hc,hm,hs,ht⟩
 ·cases e
 ·simp only[Value.slice.injEq,Option.some.injEq,Addr.mk.injEq] at e
  obtain⟨⟨rfl,_⟩,_⟩:=e
  have hb:BT w g cur 9:=hh
  exact hb.blk.frozen i
theorem Q0n {B n c:Nat}{w:World}{a:Option Addr}{bs:List UInt8}(h:Own B w (.slice a n c) bs):n<=c/\c<=maxLen:=by
 obtain⟨h1,h2⟩:=h
 rcases h2 with⟨e,h4⟩|⟨g,cap,cur,e,hg,hh,hc,hm,hs,ht⟩
 ·simp only[Value.slice.injEq] at e
  exact⟨by omega,by simp[maxLen];omega⟩
 ·simp only[Value.slice.injEq] at e
  omega
theorem Qc7 {B n c:Nat}{w:World}{a:Option Addr}{bs:List UInt8}(h:Own B w (.slice a n c) bs)(h0:0<n):∃g,a=some ⟨g,0,none⟩:=by
 obtain⟨h1,h2⟩:=h
 rcases h2 with⟨e,h4⟩|⟨g,cap,cur,e,hg,hh,hc,hm,hs,ht⟩
 ·simp only[Value.slice.injEq] at e
  omega
 ·simp only[Value.slice.injEq] at e
  exact⟨g,e.1⟩
theorem Q9s {w w':World}{g i:Nat}(h:Nx w w')(hg:w.heap.size<=g)(v:Value):Nx w (w'.setCell ⟨g,i,none⟩ v):=
 Below.trans h ((Chg.set (S:=λx=>x=g) g i v rfl).below h.size (λx e=>by have e':x=g:=e;omega))
theorem Qc2:Yo []=.error (2,0):=by rw[Yo,if_neg (by decide),if_pos (Or.inl (List.length_nil))]
theorem Q4a (w:World):(Instr.field 33 (.agg #[.int .i64 2,.int .i64 0,.slice none 0 0,.slice none 0 0,.slice none 0 0,.slice none 0 0,.int .i64 0]) 0).run Tryz.prog w=.ok (.int .i64 2) w:=by kernel_rfl
attribute [local go_sem] Q4a
theorem Q0o (B:Nat)(v u:Value)(code more:List UInt8)(w:World)(h:HBy B w v code)(h2:HBy B w u more)(hG:Gv w) :
  Calls Tryz.prog 4 #[v,u] w λe w'=>e=.returned (.bool true)/\Nx w w':=by
 have HB:=Q0 h
 have HM0:=Q0 h2
 have HG:=Q0 hG
 obtain⟨ca,cc,rfl,hmx0,-⟩:=h
 obtain⟨da,dc,rfl,hmx1,-⟩:=h2
 unfold maxLen at hmx0 hmx1
 generalize hn:code.length=n at hmx0 ⊢
 generalize hr:more.length=r at hmx1 ⊢
 have HN:Hid (code.length=n):=hn
 have HR:Hid (more.length=r):=hr
 clear hG hn hr
 go_enter Tryz.func4,Tryz.ntmps4
 by_cases hbig:1048576<n
 ·have hbig':(1048576:Int)<n:=by omega
  go_wp2
  go_ret
  exact⟨rfl,Nx.refl _⟩
 by_cases hbig2:1048576<r
 ·have hbig':¬(1048576:Int)<n:=by omega
  have hbig3:(1048576:Int)<r:=by omega
  go_wp2
  go_ret
  exact⟨rfl,Nx.refl _⟩
 have hbig':¬(1048576:Int)<n:=by omega
 have hbig3:¬(1048576:Int)<r:=by omega
 have HL:Hid (code.length<=1048576):=by unfold Hid;rw[HN.out];omega
 have HL2:Hid (more.length<=1048576):=by unfold Hid;rw[HR.out];omega
 rw[HN.out] at HB
 rw[HR.out] at HM0
 have HB':Hid (HBy B w (.slice ca n cc) code):=HB
 have HM':Hid (HBy B w (.slice da r dc) more):=HM0
 clear HB HM0
 go_wp2_with fail
 refine(Fq B _ code w HB'.out HL.out).mono ?_
 rintro e w1 ⟨⟨v0,v1,v2,v3,rfl,vn,vw,vr,hO⟩,hx⟩
 have HWS:=Q0 (Qcr (Q1j code)).sum
 generalize hNN:Uo (Wi code)=N at *
 clear hNN
 obtain⟨a0,c0,rfl⟩:=Q3 hO.nodes
 obtain⟨a1,c1,rfl⟩:=Q3 hO.ways
 obtain⟨a2,c2,rfl⟩:=Q3 hO.rels
 obtain⟨a3,c3,rfl⟩:=Q3 hO.turns
 have hH:=hO.held
 generalize h0n:N.nodes.length=nn at hH ⊢
 generalize h1n:N.ways.length=nw at hH ⊢
 generalize h2n:N.rels.length=nr at hH ⊢
 generalize h3n:N.turns.length=nt at hH ⊢
 have HNL:Hid (N.nodes.length=nn/\N.ways.length=nw/\N.rels.length=nr/\N.turns.length=nt):=⟨h0n,h1n,h2n,h3n⟩
 have HO1:=Q0 hH
 have HX1:Hid (Nx w w1):=hx
 have HBX:Hid (BT (w1.alloc (.cells #[.slice a0 nn c0,.slice a1 nw c1,.slice a2 nr c2,.slice a3 nt c3,.int .i64 N.uturn] 28)) w1.heap.size #[.slice a0 nn c0,.slice a1 nw c1,.slice a2 nr c2,.slice a3 nt c3,.int .i64 N.uturn] 28):=BT.new _ _ _ _ rfl
 have HXA:Hid (Nx w1 (w1.alloc (.cells #[.slice a0 nn c0,.slice a1 nw c1,.slice a2 nr c2,.slice a3 nt c3,.int .i64 N.uturn] 28))):=Qc _ _
 clear h0n h1n h2n h3n hO hH hx HB' HL
 go_upto_region 4 with fail
 generalize w1.alloc (.cells #[.slice a0 nn c0,.slice a1 nw c1,.slice a2 nr c2,.slice a3 nt c3,.int .i64 N.uturn] 28)=w2 at *
 generalize w1.heap.size=p3 at *
 have HX2:Hid (Nx w w2):=HX1.out.trans HXA.out
 have HO2:=Q0 (HO1.out.next HXA.out)
 clear HO1 HX1 HXA
 have b0:=HBX.out.blk.cell (i:=0) rfl
 have b1:=HBX.out.blk.cell (i:=1) rfl
 have b2:=HBX.out.blk.cell (i:=2) rfl
 have b3:=HBX.out.blk.cell (i:=3) rfl
 have b4:=HBX.out.blk.cell (i:=4) rfl
 go_wp2_with fail
 refine(Gr _ _ _ _ _ N w2 HO2.out HWS.out).mono ?_
 rintro e w4 ⟨⟨vt,rfl,hT⟩,hx⟩
 obtain⟨ta,tc,rfl⟩:=Q3 hT
 have HX4w:Hid (Nx w w4):=HX2.out.trans hx
 have HO4:=Q0 (HO2.out.next hx)
 have HBX4:=Q0 (HBX.out.next hx)
 generalize hme:(Ja N).length=m at hT ⊢
 have HTO:=Q0 hT
 have HM:Hid ((Ja N).length=m):=hme
 have hcap:=(Q0n hT).1
 have hcmx:=(Q0n hT).2
 unfold maxLen at hcmx
 clear hT hme hx HX2 HO2 HBX b0 b1 b2 b3 b4
 cases hvv:Ql N with
 |false=>
  have HV:Hid (Ql N=false):=hvv
  have he0:Ja N=[]:=by unfold Ja;rw[hvv];rfl
  have HE:Hid (Ja N=[]):=he0
  have hm0:m=0:=by rw[<-HM.out,he0];rfl
  subst hm0
  have hTH:HBy w2.heap.size w4 (.slice ta 0 tc) []:=by
   have e:=HTO.out.held
   rw[he0] at e
   exact e
  have HTH:=Q0 hTH
  clear hvv he0 hTH
  have b0:=HBX4.out.blk.cell (i:=0) rfl
  have b1:=HBX4.out.blk.cell (i:=1) rfl
  have b2:=HBX4.out.blk.cell (i:=2) rfl
  have b3:=HBX4.out.blk.cell (i:=3) rfl
  have b4:=HBX4.out.blk.cell (i:=4) rfl
  go_wp2_with fail
  refine(El _ _ _ _ _ N w4 HO4.out HWS.out).mono ?_
  rintro e w6 ⟨rfl,hx⟩
  rw[HV.out]
  have HX6:Hid (Nx w w6):=HX4w.out.trans hx
  have HT6:=Q0 (HTH.out.next hx)
  clear hx b0 b1 b2 b3 b4
  go_wp2_with fail
  refine(Tw _ _ 0 tc [] w6 HT6.out (Nat.zero_le _) hcmx (HG.out.next HX6.out)).mono ?_
  rintro e w7 ⟨hp,hx⟩
  rw[Qc2] at hp
  have hp':e=.returned (noV 2 0):=hp
  subst hp'
  unfold noV
  go_wp2
  go_ret
  exact⟨rfl,HX6.out.trans hx⟩
 |true=>
  have HV:Hid (Ql N=true):=hvv
  have HE:Hid (Ja N=F8 N):=by unfold Hid Ja;rw[hvv];rfl
  have hm1:m<=256024:=by rw[<-HM.out,HE.out];exact Q6e hvv
  have hm0:0<m:=by
   rw[<-HM.out,HE.out,<-Az]
   unfold txD
   rw[List.length_append]
   exact Nat.lt_of_lt_of_le (by decide) (Nat.le_add_right _ _)
  have hm2:((m:Int)==0)=false:=by simp;omega
  have hm3:¬(m:Int)=0:=by omega
  obtain⟨tg,htg⟩:=Qc7 HTO.out hm0
  subst htg
  have HTB:Hid (tg<w4.heap.size/\∀i,i<m->w4.cell? ⟨tg,0+i,none⟩=some (.int .u8 (Qq (Ja N) i))):=by
   obtain⟨a',c',e,-,hk⟩:=HTO.out.held
   simp only[Value.slice.injEq] at e
   obtain⟨e1,e2,e3⟩:=e
   rw[HM.out] at hk
   obtain⟨b',o',e4,-,hb,hc⟩:=hk hm0
   rw[<-e1] at e4
   simp only[Option.some.injEq,Addr.mk.injEq,and_true] at e4
   obtain⟨rfl,rfl⟩:=e4
   exact⟨hb,hc⟩
  have HE0:Hid (Qu w4.heap.size (w4.alloc (.cells #[] 9)) (.slice (some ⟨w4.heap.size,0,none⟩) 0 0) (Xd (Ja N) 0).1):=Q41 w4
  have HX0:Hid (Nx w4 (w4.alloc (.cells #[] 9))):=Qc _ _
  clear hvv HTO
  go_upto_region 8 with fail
  generalize w4.alloc (.cells #[] 9)=w5 at *
  go_wp2
  go_loopw [7,8,9] (λs7 s8 s9 wr=>∃(k q c f:Nat) (x:Option Addr),k<=m/\s9=.int .i64 k/\s8=.int .i64 f/\s7=.slice x q c/\f<=k/\q<=k/\Hid ((Xd (Ja N) k).2=f/\(Xd (Ja N) k).1.length=q)/\Hid (Qu w4.heap.size wr (.slice x q c) (Xd (Ja N) k).1)/\Hid (Nx w4 wr)) (λ_ _ i _=>m-(intOf i).toNat)
  case atStart=>exact⟨0,0,0,0,_,Nat.zero_le _,rfl,rfl,rfl,Nat.le_refl _,Nat.le_refl _,⟨rfl,rfl⟩,HE0,HX0⟩
  clear HE0 HX0
  obtain⟨k,q,c,f,x,hkn,rfl,rfl,rfl,hfk,hmk,HCT,HO,HX⟩:=hrel
  by_cases hlt:k<m
  ·have hlt':(k:Int)<m:=by omega
   have xk:=Q1 HX.out HTB.out.1 (HTB.out.2 k hlt)
   rw[Nat.zero_add] at xk
   generalize hy:Qq (Ja N) k=y at *
   have HBY:Hid (y=10↔(Ja N).getD k 0=10):=by
    unfold Hid
    rw[<-hy]
    unfold Qq
    constructor
    ·intro e
     have e':((Ja N).getD k 0).toNat=(10:UInt8).toNat:=by have:(10:UInt8).toNat=10:=rfl;omega
     exact UInt8.toNat_inj.1 e'
    ·intro e;rw[e];rfl
   have HCD:Hid (Xd (Ja N) (k+1)=if (Ja N).getD k 0=10 then ((Xd (Ja N) k).1++[stOf (((Ja N).drop (Xd (Ja N) k).2).take (k+1-(Xd (Ja N) k).2))],k+1) else Xd (Ja N) k):=rfl
   by_cases hs:y=10
   ·have d1:(y==(10:Int))=true:=by simpa using hs
    have HC1:Hid (Xd (Ja N) (k+1)=((Xd (Ja N) k).1++[stOf (((Ja N).drop f).take (k+1-f))],k+1)):=by unfold Hid;rw[HCD.out,if_pos (HBY.out.1 hs),HCT.out.1]
    have hzz:w4.heap.size<=wr.heap.size:=HX.out.size
    have HCV:Hid ((convert 22 9 (.slice (some ⟨tg,f,none⟩) (k+1-f) (tc-f))).run Tryz.prog wr=.ok (.string (stOf (((Ja N).drop f).take (k+1-f)))) wr):=Gg wr tg f (k+1-f) (tc-f) _ (by rw[List.length_take,List.length_drop,HM.out];omega) (λi hi=>by
     have hx:=Q1 HX.out HTB.out.1 (HTB.out.2 (f+i) (by omega))
     rw[Nat.zero_add] at hx
     rw[hx]
     unfold Qq
     congr 3
     rw[List.getD_eq_getElem?_getD,List.getD_eq_getElem?_getD,List.getElem?_take_of_lt hi,List.getElem?_drop])
    clear HCD HBY hy
    go_wp2_with fail
    rw[HCV.out]
    go_wp2_with (at_builtin;refine Qd6 rfl _ _ rfl w4.heap.size q (.slice x q c) (Xd (Ja N) k).1 (stOf (((Ja N).drop f).take (k+1-f))) wr rfl HO.out rfl HCT.out.2 (by omega) hzz ?_)
    intro a1' c1' w1' r1 r2 r3
    have HO1:Hid (Qu w4.heap.size w1' (.slice a1' (q+1) c1') (Xd (Ja N) (k+1)).1):=by unfold Hid;rw[HC1.out];exact r1
    have HX1:Hid (Nx w4 w1'):=Below.trans HX.out (r2.below HX.out.size (λq hq=>(Qj HO.out q hq.symm).1))
    have HCT1:Hid ((Xd (Ja N) (k+1)).2=k+1/\(Xd (Ja N) (k+1)).1.length=q+1):=by unfold Hid;rw[HC1.out];exact⟨rfl,by rw[List.length_append,HCT.out.2];rfl⟩
    clear r1 r2 r3 HCV xk
    go_wp2
    go_roundw
    case rel=>exact⟨k+1,q+1,c1',k+1,a1',by omega,by go_num,by go_num,rfl,by omega,by omega,HCT1,HO1,HX1⟩
    case measure=>simp[intOf];omega
   ·have d1:(y==(10:Int))=false:=by simpa using hs
    have HC1:Hid (Xd (Ja N) (k+1)=Xd (Ja N) k):=by unfold Hid;rw[HCD.out,if_neg (λe=>hs (HBY.out.2 e))]
    have HO1:Hid (Qu w4.heap.size wr (.slice x q c) (Xd (Ja N) (k+1)).1):=by unfold Hid;rw[HC1.out];exact HO.out
    have HCT1:Hid ((Xd (Ja N) (k+1)).2=f/\(Xd (Ja N) (k+1)).1.length=q):=by unfold Hid;rw[HC1.out];exact HCT.out
    clear hs hy HCD HBY
    go_wp2
    go_roundw
    case rel=>exact⟨k+1,q,c,f,x,by omega,by go_num,rfl,rfl,by omega,by omega,HCT1,HO1,HX⟩
    case measure=>simp[intOf];omega
  have ek:k=m:=by omega
  subst ek
  have hls:(Xd (Ja N) k).1=lnS (Z3 N):=by
   have e:=Qce (Z3 N)
   rw[Az,<-HE.out,HM.out] at e
   exact e
  have HO1:Hid (Qu w4.heap.size wr (.slice x q c) (lnS (Z3 N))):=by unfold Hid;rw[<-hls];exact HO.out
  have hq1:(lnS (Z3 N)).length=q:=by rw[<-hls];exact HCT.out.2
  have HQ:Hid ((lnS (Z3 N)).length=q):=hq1
  have hq0:1<=q:=by rw[<-hq1,Q0s];omega
  obtain⟨lg,hlg,hlC,-,-⟩:=HO1.out.at (i:=0) (by rw[hq1];omega)
  subst hlg
  have HLC:Hid (w4.heap.size<=lg):=hlC
  clear HO HCT hls hq1 hlC
  go_wp2
  go_loopw [10] (λs10 wz=>∃(j:Nat) (L:List De),1<=j/\j<=q/\s10=.int .i64 j/\Hid (L.Perm (Z3 N))/\Hid (Qu w4.heap.size wz (.slice (some ⟨lg,0,none⟩) q c) (lnS L))/\Hid (Nx w4 wz)) (λi _=>q-(intOf i).toNat)
  case atStart=>exact⟨1,Z3 N,Nat.le_refl _,hq0,rfl,List.Perm.refl _,HO1,HX⟩
  clear HO1 HX
  obtain⟨j,L,hj1,hjq,rfl,HP,HO,HX⟩:=hrel
  have HLL:Hid ((lnS L).length=q):=by unfold Hid;rw[<-HQ.out,Q0s,Q0s,HP.out.length_eq]
  by_cases hlt:j<q
  ·have hlt':(j:Int)<q:=by omega
   have HMW:Hid (HBy B wr (.slice da r dc) more):=HM'.out.next (HX4w.out.trans HX.out)
   go_wp2_with fail
   refine(Qa2 B _ more j j wr HMW.out (by omega) (by omega) HL2.out).mono ?_
   rintro e wa ⟨rfl,hx⟩
   have hu1:lwV more j j<j:=Qf0 hj1
   generalize hu:lwV more j j=u at *
   have HO1:=Q0 (HO.out.next hx)
   have HX1:Hid (Nx w4 wa):=HX.out.trans hx
   have hju:1+u<q:=by omega
   have hju':1+(u:Int)<q:=by omega
   have hw1:IntKind.i64.wrap (1+(u:Int))=1+(u:Int):=by rw[IntKind.wrap_i64];omega
   obtain⟨g1,e1,-,-,x1⟩:=HO1.out.at (i:=j) (by rw[HLL.out];exact hlt)
   obtain⟨g2,e2,-,-,x2⟩:=HO1.out.at (i:=1+u) (by rw[HLL.out];exact hju)
   simp only[Option.some.injEq,Addr.mk.injEq,and_true] at e1 e2
   subst e1
   subst e2
   have f1:=HO1.out.fz j
   have HS1:=Q0 (HO1.out.setAt (i:=j) HLL.out (sat (lnS L) (1+u)))
   have HX2:Hid (Nx w4 (wa.setCell ⟨lg,j,none⟩ (.string (sat (lnS L) (1+u))))):=Q9s HX1.out HLC.out _
   obtain⟨M,hMp,hMe⟩:=Qa4 (L:=L) (i:=j) (j:=1+u) hj1 (by omega) (by rw[HLL.out];exact hlt) (by rw[HLL.out];exact hju)
   have HMP:Hid (M.Perm (Z3 N)):=hMp.trans HP.out
   have HME:Hid (lnS M=((lnS L).set j (sat (lnS L) (1+u))).set (1+u) (sat (lnS L) j)):=hMe
   clear hx hu HO HX HMW hMp hMe
   generalize sat (lnS L) (1+u)=tb at *
   generalize sat (lnS L) j=tj at *
   go_upto_region 21 with fail
   generalize wa.setCell ⟨lg,j,none⟩ (.string tb)=wb at *
   have HSL:Hid (((lnS L).set j tb).length=q):=by unfold Hid;rw[List.length_set];exact HLL.out
   obtain⟨g2,e2,-,-,x3⟩:=HS1.out.at (i:=1+u) (by rw[HSL.out];exact hju)
   simp only[Option.some.injEq,Addr.mk.injEq,and_true] at e2
   subst e2
   have f2:=HS1.out.fz (1+u)
   have HS2:=Q0 (HS1.out.setAt (i:=1+u) HSL.out tj)
   have HX3:Hid (Nx w4 (wb.setCell ⟨lg,1+u,none⟩ (.string tj))):=Q9s HX2.out HLC.out _
   clear HX2 HS1 x1 x2 f1 HO1 HX1
   generalize sat ((lnS L).set j tb) (1+u)=tz at *
   go_wp2
   generalize wb.setCell ⟨lg,1+u,none⟩ (.string tj)=wc at *
   go_roundw
   case rel=>exact⟨j+1,M,by omega,by omega,by go_num,HMP,by unfold Hid;rw[HME.out];exact HS2.out,HX3⟩
   case measure=>simp[intOf];omega
  have ej:j=q:=by omega
  subst ej
  obtain⟨wL,hwL⟩:∃x,x=wr:=⟨_,rfl⟩
  subst hwL
  have hTL:(txD L).length<=256024:=by
   rw[Q51 HP.out,Az,<-HE.out,HM.out]
   omega
  have HTL:Hid ((txD L).length<=256024):=hTL
  have HBK:=Q0 (Qan HV.out HP.out)
  have HE0:Hid (Own wL.heap.size (wL.alloc (.cells #[] 5)) (.slice (some ⟨wL.heap.size,0,none⟩) 0 0) (((lnS L).take 0).flatMap (λs=>s.data.toList))):=A2 _ _ (Nat.le_refl _)
  have HX0:Hid (Nx wL (wL.alloc (.cells #[] 5))):=Qc _ _
  clear hTL
  go_upto_region 23 with fail
  generalize wL.alloc (.cells #[] 5)=wo at *
  go_wp2
  go_loopw [13,14] (λs13 s14 wy=>∃(i l d:Nat) (x:Option Addr),i<=j/\s14=.int .i64 i/\s13=.slice x l d/\Hid ((((lnS L).take i).flatMap (λs=>s.data.toList)).length=l)/\Hid (Own wL.heap.size wy (.slice x l d) (((lnS L).take i).flatMap (λs=>s.data.toList)))/\Hid (Nx wL wy)) (λ_ i _=>j-(intOf i).toNat)
  case atStart=>exact⟨0,0,0,_,Nat.zero_le _,rfl,rfl,rfl,HE0,HX0⟩
  clear HE0 HX0
  obtain⟨i,l,d,x,hij,rfl,rfl,HLn,HOw,HXw⟩:=hrel
  by_cases hlt:i<j
  ·have hlt':(i:Int)<j:=by omega
   obtain⟨g1,e1,-,-,x1⟩:=(HO.out.next HXw.out).at (i:=i) (by rw[HLL.out];exact hlt)
   simp only[Option.some.injEq,Addr.mk.injEq,and_true] at e1
   subst e1
   have hl1:=Qbo (lnS L) (k:=i) (by rw[HLL.out];exact hlt)
   rw[Q5v,HLn.out] at hl1
   have hl2:=HTL.out
   have HSN:=Q0 (Q52 (lnS L) (k:=i) (by rw[HLL.out];exact hlt))
   have hzz:wL.heap.size<=wr.heap.size:=HXw.out.size
   generalize hsx:sat (lnS L) i=sx at *
   obtain⟨ib,hib,hz0,hz1,hz2⟩:=info_parts Fg
   clear hsx
   go_wp2_with (at_builtin;refine Lib.wpList_append_own_string _ rfl _ _ 22 9 rfl wL.heap.size 5 ib Tryz.underlying22 Tryz.underlying9 hib hz0 hz1 hz2 (.slice x l d) l (Lib.byteCells (((lnS L).take i).flatMap (λs=>s.data.toList))) rfl ?l0 sx rfl ?l1 ?l2 hzz ?_)
   case l0=>
    have e:=HOw.out
    unfold Own at e
    rw[HLn.out] at e
    exact e
   case l1=>unfold maxLen;omega
   case l2=>omega
   intro v1' w1' hown' hgrow _
   have HO1:Hid (Own wL.heap.size w1' v1' (((lnS L).take (i+1)).flatMap (λs=>s.data.toList))):=by
    unfold Hid
    rw[HSN.out]
    exact Own.str (by rw[HLn.out];exact hown')
   have HX1:Hid (Nx wL w1'):=HXw.out.grown hgrow hzz (λk hk=>(HOw.out.lt k hk).1)
   obtain⟨a',c',rfl⟩:=Q3 HO1.out
   generalize hnl:(((lnS L).take (i+1)).flatMap (λs=>s.data.toList)).length=l' at HO1 ⊢
   have HLn1:Hid ((((lnS L).take (i+1)).flatMap (λs=>s.data.toList)).length=l'):=hnl
   clear hown' hgrow hnl x1
   go_wp2
   go_roundw
   case rel=>exact⟨i+1,l',c',a',by omega,by go_num,rfl,HLn1,HO1,HX1⟩
   case measure=>simp[intOf];omega
  have ei:i=j:=by omega
  subst ei
  have hall:((lnS L).take i).flatMap (λs=>s.data.toList)=txD L:=by rw[<-HLL.out,List.take_length,Q5v]
  rw[hall] at HLn HOw
  have hlm:l<=256024:=by rw[<-HLn.out];exact HTL.out
  have hoc:=Q0n HOw.out
  have hoc1:=hoc.1
  have hoc2:=hoc.2
  unfold maxLen at hoc2
  have HXf:Hid (Nx w wr):=HX4w.out.trans (HX.out.trans HXw.out)
  have HXg:Hid (Nx w4 wr):=HX.out.trans HXw.out
  have hob:HBy wL.heap.size wr (.slice x l d) (txD L):=HOw.out.held
  have HOB:=Q0 hob
  clear hall hoc hob HOw
  go_wp2_with fail
  refine(Tw _ _ l d (txD L) wr HOB.out hoc1 hoc2 (HG.out.next HXf.out)).mono ?_
  rintro e w7 ⟨hp,hx⟩
  obtain⟨u0,u1,u2,u3,rfl,hH⟩:=Qd8.net hp HBK.out.1
  rw[HBK.out.2] at hH ⊢
  obtain⟨p0,q0,rfl,-⟩:=hH.1
  obtain⟨p1,q1,rfl,-⟩:=hH.2.1
  obtain⟨p2,q2,rfl,-⟩:=hH.2.2.1
  obtain⟨p3',q3,rfl,-⟩:=hH.2.2.2
  rw[HNL.out.1,HNL.out.2.1,HNL.out.2.2.1,HNL.out.2.2.2] at hH ⊢
  have HH7:=Q0 hH
  have HX7:Hid (Nx w4 w7):=HXg.out.trans hx
  have HBP:Hid (BT (w7.alloc (.cells #[.int .i64 0,.int .i64 0,.slice p0 nn q0,.slice p1 nw q1,.slice p2 nr q2,.slice p3' nt q3,.int .i64 N.uturn] 33)) w7.heap.size #[.int .i64 0,.int .i64 0,.slice p0 nn q0,.slice p1 nw q1,.slice p2 nr q2,.slice p3' nt q3,.int .i64 N.uturn] 33):=BT.new _ _ _ _ rfl
  have HXA:Hid (Nx w7 (w7.alloc (.cells #[.int .i64 0,.int .i64 0,.slice p0 nn q0,.slice p1 nw q1,.slice p2 nr q2,.slice p3' nt q3,.int .i64 N.uturn] 33))):=Qc _ _
  clear hp hH hx HOB
  go_upto_region 28 with fail
  generalize w7.alloc (.cells #[.int .i64 0,.int .i64 0,.slice p0 nn q0,.slice p1 nw q1,.slice p2 nr q2,.slice p3' nt q3,.int .i64 N.uturn] 33)=w8 at *
  generalize w7.heap.size=p5 at *
  have HX8:Hid (Nx w4 w8):=HX7.out.trans HXA.out
  have HH8:=Q0 (HH7.out.next HXA.out)
  have HO8:=Q0 (HO4.out.next HX8.out)
  have HBX8:=Q0 (HBX4.out.next HX8.out)
  clear HH7 HX7 HXA
  have b0:=HBX8.out.blk.cell (i:=0) rfl
  have b1:=HBX8.out.blk.cell (i:=1) rfl
  have b2:=HBX8.out.blk.cell (i:=2) rfl
  have b3:=HBX8.out.blk.cell (i:=3) rfl
  have b4:=HBX8.out.blk.cell (i:=4) rfl
  have y0:=HBP.out.blk.cell (i:=0) rfl
  have y1:=HBP.out.blk.cell (i:=1) rfl
  have y2:=HBP.out.blk.cell (i:=2) rfl
  have y3:=HBP.out.blk.cell (i:=3) rfl
  have y4:=HBP.out.blk.cell (i:=4) rfl
  have y5:=HBP.out.blk.cell (i:=5) rfl
  have y6:=HBP.out.blk.cell (i:=6) rfl
  go_wp2_with fail
  refine(Q0q _ _ _ _ _ _ _ _ _ _ N w8 HH8.out HO8.out).mono ?_
  rintro e w9 ⟨rfl,hx⟩
  clear b0 b1 b2 b3 b4 y0 y1 y2 y3 y4 y5 y6
  go_wp2
  go_ret
  exact⟨rfl,HX4w.out.trans (HX8.out.trans hx)⟩
end Go.Proofs.YtmmolhlihhdkcaaGreatDoor
