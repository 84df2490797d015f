import Derived.Test.YtahpodmokbdjeaaGreatDoorQLK
import Derived.Test.YtahpodmokbdjeaaGreatDoorQShAI
import Derived.Lib.AppendIntMem
import Derived.Lib.ItoaLen
import Derived.DeepKeys4
import Derived.Laws.BytesArg
import Derived.Laws.IdiomStrings
import Derived.Laws.IdiomMaps
namespace Go.Proofs.YtahpodmokbdjeaaGreatDoor
open Go.RowKit Go.Sort Go.Maps Go.Shelf Tryz
set_option linter.unusedVariables false
set_option maxRecDepth 1000000
set_option maxHeartbeats 16000000
theorem Qcs:(prog.info? 5).map (λi=>(i.zero,i.size,i.bytes))=some (some (.int .u8 0),1,1):=by kernel_rfl
def Own (B:Nat)(w:World)(v:Value)(bs:List UInt8):Prop:=w.ownsRow B 5 1 v bs.length (Lib.byteCells bs)
def Gx (B:Nat)(w w':World):Prop:=Below B w w'/\Lib.OthersKept 5 none w w'
theorem Gx.refl (B:Nat)(w:World):Gx B w w:=⟨Below.refl _ _,Lib.OthersKept.refl _ _ _⟩
theorem Gx.trans {B:Nat}{a b c:World}(h:Gx B a b)(k:Gx B b c):Gx B a c:=⟨h.1.trans k.1,h.2.trans k.2⟩
theorem Gx.alloc {B:Nat}{a w:World}(h:Gx B a w)(hB:B<=w.heap.size)(o:Obj):Gx B a (w.alloc o):=⟨h.1.alloc hB o,h.2.alloc o⟩
theorem Qeq {B:Nat}{w:World}{v:Value}{bs:List UInt8}(h:Own B w v bs):∀g,v.ownBlock=some g->∃c fz,w.heap[g]?=some (.cells c 5 fz):=by
 intro g hg
 rcases h.2 with⟨rfl,_⟩|⟨g',cap,cur,rfl,_,hh,_⟩
 ·simp[Value.ownBlock] at hg
 ·simp[Value.ownBlock] at hg;subst hg;exact⟨_,_,hh⟩
theorem Gx.grown {B:Nat}{a w w':World}{v:Value}{bs:List UInt8}(h:Gx B a w)(hown:Own B w v bs)(hg:w.grownBy w' v.ownBlock)(hB:B<=w.heap.size):Gx B a w':=by
 refine⟨h.1.grown hg hB (λk hk=>(hown.lt k hk).1),h.2.trans ?_⟩
 intro k o hk hb ho
 have hlt:k<w.heap.size:=(Array.getElem?_eq_some_iff.1 hk).1
 rw[hg.block k hlt (λe=>by
  obtain⟨c,fz,hh⟩:=Qeq hown k e.symm
  rw[hk] at hh
  exact ho c fz (by simpa using hh))]
 exact hk
theorem Own.alloc {B:Nat}{w:World}{v:Value}{bs:List UInt8}(h:Own B w v bs)(o:Obj):Own B (w.alloc o) v bs:=zB h o
theorem Own.snoc {B:Nat}{w:World}{v:Value}{bs:List UInt8}{b:UInt8}(h:w.ownsRow B 5 1 v (bs.length+1) (Lib.byteCells bs++[.int .u8 (b.toNat:Int)])):Own B w v (bs++[b]):=by
 unfold Own
 rw[zA,Lib.byteCells_append]
 exact h
theorem Q8s (k:Nat):∀n,n<10 ^ (k+1)->(Lib.decDigits n).length<=k+1:=by
 induction k with
 |zero=>intro n hn;rw[Lib.decDigits,dif_pos (by simpa using hn)];simp
 |succ k ih=>
  intro n hn
  rw[Lib.decDigits]
  by_cases h:n<10
  ·rw[dif_pos h];simp
  ·rw[dif_neg h,zA]
   have:=ih (n/10) (by rw[Nat.pow_succ] at hn;omega)
   simp;omega
def Zi (zs:List Int):Nat->List UInt8
 |0=>[]
 |k+1=>Zi zs k++(32::Lib.decDigits (iat zs k).toNat)
def Q7v (zs:List Int):Prop:=∀i,i<zs.length->0<=iat zs i/\iat zs i<=1048576
theorem Q6g {zs:List Int}(h:Q7v zs)(k:Nat)(hk:k<=zs.length):(Zi zs k).length<=8*k:=by
 induction k with
 |zero=>simp[Zi]
 |succ k ih=>
  have h1:=ih (by omega)
  have h2:(Lib.decDigits (iat zs k).toNat).length<=7:=Q8s 6 _ (by have:=h k (by omega);omega)
  simp only[Zi,zA,List.length_cons]
  omega
def Tab (B:Nat)(w:World):Prop:=Lib.TabBelow prog B w "internal/strconv.uint64pow10" .u64 Lib.pow10Tab
theorem Qco {x:Int}(h:0<=x):Lib.itoa x=Lib.decDigits x.toNat:=by unfold Lib.itoa;rw[if_neg (by omega)]
theorem Q5q (B n:Nat)(i:Int)(h0:-9223372036854775808<=i)(h1:i<=9223372036854775807)(sv:Value)(xs:List Value)(w:World)(hown:w.ownsRow B 5 1 sv n xs)(hBw:B<=w.heap.size)(hlim:n+21<=140737488355328)
  (htab:Lib.TabBelow prog B w "internal/strconv.uint64pow10" .u64 Lib.pow10Tab) :
  Calls prog 137 #[sv,iV i,iV 10] w λe w'=>∃v',e=.returned v'/\w'.ownsRow B 5 1 v' (n+(Lib.itoa i).length) (xs++Lib.byteCells (Lib.itoa i))/\RowKit.Below B w w'/\Lib.OthersKept 5 none w w':=Any.strconv_AppendInt_10 Tryz.laysAI B n i h0 h1 sv xs w hown hBw hlim htab
theorem Q5r (vz:Value)(zs:List Int)(w:World)(hz:Q8 0 w vz zs)(hzl:zs.length<=40000)(hsm:Q7v zs)(ht:Tab w.heap.size w) :
  Calls prog 85 #[sN,vz] w λe w'=>(∃v',e=.returned v'/\Own w.heap.size w' v' (Zi zs zs.length))/\Nx w w':=by
 obtain⟨i0,hi,hz0,hz1,hz2⟩:=info_parts Qcs
 have HZN:Z (Q8 0 w vz zs):=hz
 have HSM:Z (Q7v zs):=hsm
 have HT:Z (Tab w.heap.size w):=ht
 have HNL:Z (∀k,k<=zs.length->(Zi zs k).length<=8*k):=λk hk=>Q6g hsm k hk
 obtain⟨a,cap,rfl,hn,_⟩:=hz
 generalize hzn:zs.length=n at *
 have HZ:Z (zs.length=n):=hzn
 clear hzn hsm ht
 go_enter func85,ntmps85
 go_wp2
 go_loopw [0,6,9] (λo x i wr=>∃k:Nat,k<=n/\i=iV k/\Z (Own w.heap.size wr o (Zi zs k))/\Z (Gx w.heap.size w wr)) (λ_ _ i _=>n-(intOf i).toNat)
 case atStart=>exact⟨0,nZ,rfl,⟨rfl,oL ⟨rfl,rfl⟩⟩,Gx.refl _ _⟩
 case round=>
  obtain⟨k,hkn,rfl,HO,HG⟩:=hrel
  have HB:Z (w.heap.size<=wr.heap.size):=HG.o.1.size
  have HLL:Z ((Zi zs k).length<=320000):=by have:=HNL.o k hkn;unfold Z;omega
  by_cases hlt:k<n
  ·obtain⟨a',cap',e',_,hk'⟩:=HZN.o.next (show Nx w wr from HG.o.1)
   simp at e'
   obtain⟨ea,en,ec⟩:=e'
   clear en
   obtain⟨b,off,hab,_,hb,hc⟩:=hk' (by rw[HZ.o];omega)
   have hcc:=hc k (by rw[HZ.o];exact hlt)
   rw[<-ea] at hab
   subst hab
   clear hc hk' ea ec
   have hlt':(k:Int)<n:=by omega
   have hv:=HSM.o k (by rw[HZ.o];exact hlt)
   go_wp2_with (at_builtin;refine wpList_append_own _ rfl _ _ 158 rfl w.heap.size 5 i0 (.int .u8 0) 1 1 underlying158 hi hz0 hz1 hz2 rfl (by decide) _ _ _ rfl (HO.o.alloc _) (aD wr.heap.size 0) 1 1 [Value.int .u8 ((32:UInt8).toNat:Int)] rfl rfl ?c1 ?c2 ?c3 ?c4 ?c5 ?_)
   case c1=>
    intro j u hj
    match j,hj with
    |0,hj=>simp at hj;subst hj;simp[Addr.add]
   case c2=>intro u hu;simp at hu;subst hu;rfl
   case c3=>have:=HLL.o;unfold maxLen;omega
   case c4=>have:=HLL.o;omega
   case c5=>have:=HB.o;simp;omega
   ·intro v1 w1 hown' hgrow _
    have HO1:Z (Own w.heap.size w1 v1 (Zi zs k++[32])):=Own.snoc (by simpa using hown')
    have HG1:Z (Gx w.heap.size w w1):=(HG.o.alloc HB.o _).grown (HO.o.alloc _) hgrow (by have:=HB.o;simp;omega)
    have HB1:Z (w.heap.size<=w1.heap.size):=HG1.o.1.size
    clear hown' hgrow
    go_wp2_with fail
    refine(Q5q w.heap.size _ _ (by omega) (by omega) _ _ _ HO1.o HB1.o (by have:=HLL.o;simp only[zA,List.length_cons,List.length_nil] at this ⊢;omega) (HT.o.on HG1.o.1)).mono ?_
    rintro e w2 ⟨v2,rfl,ho,hbl,hok⟩
    have HO2:Z (Own w.heap.size w2 v2 (Zi zs (k+1))):=by
     unfold Z Own
     rw[Qco hv.1,<-Lib.byteCells_append,<-zA] at ho
     simp only[yE,List.cons_append,List.nil_append] at ho
     exact ho
    have HG2:Z (Gx w.heap.size w w2):=HG1.o.trans ⟨hbl,hok⟩
    clear ho hbl hok
    go_wp2
    go_roundw
    case rel=>exact⟨k+1,by omega,by go_num,HO2,HG2⟩
    case measure=>simp[intOf];omega
  ·have ek:n=k:=by omega
   subst ek
   go_wp2
   go_ret
   exact⟨⟨_,rfl,HO.o⟩,HG.o.1⟩
theorem Own.conv {B:Nat}{w:World}{v:Value}{bs:List UInt8}(h:Own B w v bs):(convert 158 9 v).run prog w=.ok (.string ⟨bs.toArray⟩) w:=by
 obtain⟨h1,h2⟩:=h
 rcases h2 with⟨rfl,h3⟩|⟨g,cap,cur,rfl,hg,hh,hc,hm,hs,ht⟩
 ·have e:bs=[]:=List.length_eq_zero_iff.1 h3
  subst e
  exact run_convert_bytes_nil (P:=prog) w 158 5 underlying158 underlying5 0 0 9 underlying9
 ·refine run_convert_bytes_back (P:=prog) w 158 9 5 ⟨g,0,none⟩ cap bs underlying158 underlying5 underlying9 (λj hj=>?_)
  rw[add_at,Nat.zero_add]
  have e1:(cur.toList.take (bs.length*1))[j]?=(Lib.byteCells bs)[j]?:=by rw[ht]
  rw[zT (by omega),zQ] at e1
  simp only[World.cell?,hh,e1,Lib.byteCells,yD,zJ hj]
  rfl
def txt (l:List Nat):List UInt8:=l.flatMap λn=>32::Lib.decDigits n
theorem Wz (l:List Nat):∀k,k<=l.length->Zi (Qb l) k=txt (l.take k)
 |0,_=>by simp[Zi,txt]
 |k+1,hk=>by
  have hlt:k<l.length:=by omega
  unfold Zi
  rw[Wz l k (by omega),zR hlt]
  unfold txt
  rw[List.flatMap_append]
  simp[iat,Qb,List.getD_eq_getElem?_getD,hlt]
theorem Qae (n:Nat):∀x∈Lib.decDigits n,x≠32:=by
 induction n using Nat.strongRecOn with
 |ind n ih=>
  intro x hx
  rw[Lib.decDigits] at hx
  by_cases h:n<10
  ·rw[dif_pos h] at hx
   have:x=UInt8.ofNat (48+n):=by simpa using hx
   subst this
   intro e
   have:=congrArg UInt8.toNat e
   simp at this
   omega
  ·rw[dif_neg h] at hx
   rcases List.mem_append.1 hx with g|g
   ·exact ih (n/10) (by omega) x g
   ·have:x=UInt8.ofNat (48+n%10):=by simpa using g
    subst this
    intro e
    have:=congrArg UInt8.toNat e
    simp at this
    omega
theorem Qdc (n:Nat):Lib.decDigits n≠[]:=by
 rw[Lib.decDigits]
 split<;>simp
theorem Q8r {a b:Nat}(ha:a<10)(hb:b<10)(h:UInt8.ofNat (48+a)=UInt8.ofNat (48+b)):a=b:=by
 have:=congrArg UInt8.toNat h
 simp at this
 omega
theorem Q72 {n:Nat}(h:n<10):Lib.decDigits n=[UInt8.ofNat (48+n)]:=by rw[Lib.decDigits,dif_pos h]
theorem Q73 {n:Nat}(h:¬n<10):Lib.decDigits n=Lib.decDigits (n/10)++[UInt8.ofNat (48+n%10)]:=by rw[Lib.decDigits,dif_neg h]
theorem Qfg:∀(n m:Nat),Lib.decDigits n=Lib.decDigits m->n=m:=by
 intro n
 induction n using Nat.strongRecOn with
 |ind n ih=>
  intro m h
  by_cases hn:n<10
  ·rw[Q72 hn] at h
   by_cases hm:m<10
   ·rw[Q72 hm] at h
    exact Q8r hn hm (by simpa using h)
   ·rw[Q73 hm] at h
    have:=congrArg List.length h
    have hp:0<(Lib.decDigits (m/10)).length:=List.length_pos_iff.2 (Qdc _)
    simp only[zA,List.length_cons,List.length_nil] at this
    omega
  ·rw[Q73 hn] at h
   by_cases hm:m<10
   ·rw[Q72 hm] at h
    have:=congrArg List.length h
    have hp:0<(Lib.decDigits (n/10)).length:=List.length_pos_iff.2 (Qdc _)
    simp only[zA,List.length_cons,List.length_nil] at this
    omega
   ·rw[Q73 hm] at h
    obtain⟨h1,h2⟩:=List.append_inj' h rfl
    have e1:=ih (n/10) (by omega) (m/10) h1
    have e2:=Q8r (Nat.mod_lt n (by omega)) (Nat.mod_lt m (by omega)) (by simpa using h2)
    omega
theorem Q3a (l:List Nat):∀x,(txt l).head?=some x->x=32:=by
 intro x hx
 cases l with
 |nil=>simp[txt] at hx
 |cons a l=>simp[txt] at hx;exact hx.symm
theorem Q3f (n:Nat)(r:List UInt8)(hr:∀x,r.head?=some x->x=32):(Lib.decDigits n++r).takeWhile (· !=32)=Lib.decDigits n:=by
 rw[List.takeWhile_append_of_pos (λx hx=>by simpa using Qae n x hx)]
 cases r with
 |nil=>simp
 |cons x r=>
  have:=hr x rfl
  subst this
  simp
theorem Q7n:∀(l m:List Nat),txt l=txt m->l=m
 |[],[],_=>rfl
 |[],b::m,h=>by simp[txt] at h
 |a::l,[],h=>by simp[txt] at h
 |a::l,b::m,h=>by
  have h':Lib.decDigits a++txt l=Lib.decDigits b++txt m:=by
   have:(32::(Lib.decDigits a++txt l):List UInt8)=32::(Lib.decDigits b++txt m):=by simpa [txt] using h
   simpa using this
  have e1:Lib.decDigits a=Lib.decDigits b:=by
   rw[<-Q3f a (txt l) (Q3a l),<-Q3f b (txt m) (Q3a m),h']
  have e2:txt l=txt m:=by
   rw[e1] at h'
   exact List.append_cancel_left h'
  rw[Qfg a b e1,Q7n l m e2]
theorem Q2e:laidOutB prog=true:=by kernel_rfl
theorem Qbc:(161:TypeId)<prog.types.size:=of_decide_eq_true (by kernel_rfl)
theorem Qei:(match prog.underlying 161 with|some (.array _ _)|some (.struct _)=>true|_=>false)=true:=by rw[underlying161]
theorem Ed:WideMaps.KeyLaw prog 161:=deep_law_laid Q2e (m:=3) (by omega) Qbc (by kernel_rfl) Qei
def Kq (b:Bool)(bs:List UInt8):Value:=.agg #[.bool b,.string ⟨bs.toArray⟩]
theorem Qbd {b c:Bool}{x y:List UInt8}(h:Kq b x=Kq c y):b=c/\x=y:=by
 unfold Kq at h
 simpa using h
theorem Qej (b:Bool)(bs:List UInt8)(hs:bs.length<=1000000):∃l,keyOf prog 161 (Kq b bs)=some l:=by
 have hk:prog.keyType 161=true:=by kernel_rfl
 have hc:prog.cellsOf 161=2:=by kernel_rfl
 have hc1:prog.cellsOf 4=1:=by kernel_rfl
 have hc2:prog.cellsOf 9=1:=by kernel_rfl
 have hf:(Kq b bs).formed prog 161=true:=by simp[Kq,Value.formed,underlying161,hc]
 have hsz:(⟨bs.toArray⟩:ByteArray).size<=maxLen:=by
  show bs.toArray.size<=maxLen
  simp[maxLen]
  omega
 unfold keyOf
 rw[underlying161]
 simp only[hk,hf,Bool.and_self,if_true]
 have hts:0<prog.types.size:=Nat.lt_of_le_of_lt nZ Qbc
 obtain⟨n,hn⟩:∃n,prog.types.size=n+1:=⟨prog.types.size-1,by omega⟩
 have k1:prog.keyLits (n+1) 4 [.bool b]=some [.bool b]:=by simp[Program.keyLits,underlying4]
 have k2:prog.keyLits (n+1) 9 [.string ⟨bs.toArray⟩]=some [.string bs]:=by simp[Program.keyLits,underlying9,hsz]
 rw[hn]
 unfold Program.keyLits
 rw[underlying161]
 refine⟨.string (keyBytes [.bool b,.string bs]),?_⟩
 simp[Kq,Value.cells,hc,hc1,hc2,k1,k2]
def Yd (w:World)(b:Nat)(ks:List Value):Prop:=∃es clock,w.heap[b]?=some (.map es clock)/\es.toList.map (·.key)=ks/\ks.length<=1000/\∀k∈ks,∃l,keyOf prog 161 k=some l
theorem Yd.new (w:World)(n:Nat)(hn:n=w.heap.size):Yd (w.alloc (.map #[] 0)) n []:=by
 subst hn
 exact⟨#[],0,by show(w.heap.push _)[w.heap.size]?=_;simp,rfl,by simp,λk hk=>by simp at hk⟩
theorem Yd.ck {X K:Nat->Prop}{A B:World}{b:Nat}{ks:List Value}(h:Yd A b ks)(c:Ck X K A B)(hx:¬X b):Yd B b ks:=by
 obtain⟨es,clock,h1,r⟩:=h
 exact⟨es,clock,c.block b _ h1 hx (oR rfl),r⟩
theorem Yd.look {w:World}{b:Nat}{ks:List Value}(h:Yd w b ks){key:Value}{l:Lit}(hkey:keyOf prog 161 key=some l):∃v bb,(Instr.lookup 152 (.map (some b)) key true).run prog w=.ok (.tuple #[v,.bool bb]) w/\(bb=true↔key∈ks):=by
 obtain⟨es,clock,hb,rfl,hl,hk⟩:=h
 have hz:(zeroValue 2).run prog w=.ok (.int .i64 0) w:=by kernel_rfl
 rcases Ed.find w hkey es.toList (λe he=>hk e.key (List.mem_map.2 ⟨e,he,rfl⟩)) with⟨h1,h2⟩|⟨j,e0,h1,h2,h3⟩
 ·refine⟨.int .i64 0,false,by simp[Instr.lookup,run_underlying underlying152,MapKept.run_getObj_map hb,Ed.check w _ hkey,h1,hz,Result.andThen],?_⟩
  constructor
  ·intro e;cases e
  ·intro hm
   obtain⟨x,hx,rfl⟩:=List.mem_map.1 hm
   exact absurd rfl (h2 x hx)
 ·refine⟨e0.val,true,by simp[Instr.lookup,run_underlying underlying152,MapKept.run_getObj_map hb,Ed.check w _ hkey,h1,Result.andThen],?_⟩
  exact⟨λ_=>List.mem_map.2 ⟨e0,yP h2,h3⟩,λ_=>rfl⟩
theorem Yd.put {w:World}{b:Nat}{ks:List Value}(h:Yd w b ks){key val:Value}{l:Lit}(hkey:keyOf prog 161 key=some l)(hno:key∉ks)(hn:ks.length<1000):∃w',(Instr.mapUpdate 152 (.map (some b)) key val).run prog w=.ok () w'/\Yd w' b (ks++[key])/\Chg (λx=>x=b) w w':=by
 obtain⟨es,clock,hb,rfl,hl,hk⟩:=h
 rcases Ed.find w hkey es.toList (λe he=>hk e.key (List.mem_map.2 ⟨e,he,rfl⟩)) with⟨h1,h2⟩|⟨j,e0,h1,h2,h3⟩
 ·refine⟨ChangeMaps.setBlock w b (.map (es.push ⟨key,val,clock⟩) (clock+1)),by simp[Instr.mapUpdate,run_underlying underlying152,MapKept.run_getObj_map hb,Ed.check w false hkey,h1,MapKept.run_setObj_map _ hb,Result.andThen,ChangeMaps.setBlock],⟨_,_,ChangeMaps.heap_setBlock_same hb _,by simp,by simp at hn ⊢;omega,λk hm=>?_⟩,⟨rfl,rfl,rfl,by simp[ChangeMaps.setBlock],λi _ hi=>ChangeMaps.heap_setBlock_other hb _ hi⟩⟩
  rcases List.mem_append.1 hm with g|g
  ·exact hk k g
  ·have:k=key:=by simpa using g
   subst this
   exact⟨l,hkey⟩
 ·exact absurd (List.mem_map.2 ⟨e0,yP h2,h3⟩) hno
theorem Q2r {C:Nat}{N:Nt}{L:Lk}{wR:World}{r:Rl}{vw:Value}{b2 b3 b5 b6:Nat}(hv:Qe N=true)(hR:LR C N (E1 N) N.ways.length (E1 N).length (E1 N).length (E1 N).length N.ways.length wR L)(hg:Ke N r)(hcp:Vw vw):Ik prog 131 #[pT b2,pT b3,pT b5,pT b6] (PyC (chP N r)) wR.heap.size (chP N r).length (Qdv N L wR r vw b2 b3 b5 b6):=
 λX l m J Jx W hX hInv hJ hJx hY h0=>Q75 C wR.heap.size N L wR r vw b2 b3 b5 b6 hv hR lR hg hcp X l m J Jx W hX hInv hJ hJx hY h0
def Te (w:World)(v:Value)(xs:List Rl):Prop:=
 Ji 0 w v xs.length λb off i=>∃vw,w.cell? (aD b (off+i*7))=some (iV (rat xs i).id)/\w.cell? (aD b (off+i*7+1))=some (.bool (rat xs i).only)/\w.cell? (aD b (off+i*7+2))=some (iV (rat xs i).frm)/\w.cell? (aD b (off+i*7+3))=some (iV (rat xs i).to) /\
  w.cell? (aD b (off+i*7+4))=some (.bool (rat xs i).via)/\w.cell? (aD b (off+i*7+5))=some (iV (rat xs i).node)/\w.cell? (aD b (off+i*7+6))=some vw/\Q8 0 w vw (rat xs i).ways/\Vw vw
theorem Te.next {w w':World}{v:Value}{xs:List Rl}(h:Te w v xs)(k:Nx w w'):Te w' v xs:=
 Ji.mono h lR k.size λb off hb hs i hi hc=>by
  obtain⟨vw,h0,h1,h2,h3,h4,h5,h6,h7,h8⟩:=hc
  exact⟨vw,Q1 k h0,Q1 k h1,Q1 k h2,Q1 k h3,Q1 k h4,Q1 k h5,Q1 k h6,h7.next k,h8⟩
def Xz (C:Nat)(w:World)(v:Value)(xs:List Ru):Prop:=
 ∃vs:List Value,vs.length=xs.length/\w.ownsRow C 126 3 v xs.length (Z1 xs vs)/\(∀i,i<xs.length->Qd C w (vat vs i) (Z0 xs i).seq)/\∀i j g,i<j->j<xs.length->(vat vs i).ownBlock=some g->(vat vs j).ownBlock≠some g
theorem Xz.next {C:Nat}{w w':World}{v:Value}{xs:List Ru}(h:Xz C w v xs)(k:Nx w w'):Xz C w' v xs:=by
 obtain⟨vs,h1,h2,h3,h4⟩:=h
 exact⟨vs,h1,V7 h2 k,λi hi=>(h3 i hi).next k,h4⟩
def Q0e (w:World):Prop:=Lib.TabIs prog w "internal/strconv.uint64pow10" .u64 Lib.pow10Tab
theorem Q0e.tab {w:World}(h:Q0e w):Tab w.heap.size w:=Lib.tabBelow_of_tabIs h
theorem Q0e.next {w w':World}(h:Q0e w)(k:Nx w w'):Q0e w':=(h.tab).on k |>.here
theorem mkRn (w:World)(n:Int):(Instr.makeMap 152 (some (iV n))).run prog w=.ok (.map (some w.heap.size)) (w.alloc (.map #[] 0)):=by
 simp[Instr.makeMap,asInt,go_sem]
theorem Xz.slice {C:Nat}{w:World}{v:Value}{xs:List Ru}(h:Xz C w v xs):∃a c,v=sL a xs.length c:=by
 obtain⟨vs,_,h2,_⟩:=h
 exact Q7 h2
def rk (x:Ru):Value:=Kq x.only (Zi x.seq x.seq.length)
theorem Xz.chg {S:Nat->Prop}{C:Nat}{w w':World}{v:Value}{xs:List Ru}(h:Xz C w v xs)(c:Chg S w w')(hr:∀g,v.ownBlock=some g->¬S g)(hi:∀u zs g,Qd C w u zs->u.ownBlock=some g->¬S g):Xz C w' v xs:=by
 obtain⟨vs,h1,h2,h3,h4⟩:=h
 exact⟨vs,h1,Qs h2 c hr,λi hlt=>Qs (h3 i hlt) c (λg hg=>hi _ _ g (h3 i hlt) hg),h4⟩
theorem Xz.low {S:Nat->Prop}{C:Nat}{w w':World}{v:Value}{xs:List Ru}(h:Xz C w v xs)(c:Chg S w w')(hS:∀b,S b->b<C):Xz C w' v xs:=by
 refine h.chg c (λg hg x=>?_) (λu zs g hu hg x=>?_)
 ·obtain⟨vs,h1,h2,h3,h4⟩:=h
  have:=(Q5 h2 g hg).1
  have:=hS g x
  omega
 ·have:=(Q5 hu g hg).1
  have:=hS g x
  omega
theorem Zg {S:Nat->Prop}{C t sz n:Nat}{w w':World}{v:Value}{xs:List Value}(h:w.ownsRow C t sz v n xs)(c:Chg S w w')(hS:∀b,S b->b<C):w'.ownsRow C t sz v n xs:=Qs h c (λg hg x=>by have:=(Q5 h g hg).1;have:=hS g x;omega)
theorem Xz.base {C C':Nat}{w:World}{v:Value}{xs:List Ru}(h:Xz C w v xs)(hC:C'<=C):Xz C' w v xs:=by
 obtain⟨vs,h1,h2,h3,h4⟩:=h
 exact⟨vs,h1,Jn h2 hC,λi hi=>(h3 i hi).base hC,h4⟩
theorem Xz.drops {C:Nat}{w w7:World}{v vd:Value}{xs:List Ru}{ds:List Dp}{o:Obj}(h:Xz C w v xs)(hd:Y1 C w vd ds)(hg:(w.alloc o).grownBy w7 vd.ownBlock):Xz C w7 v xs:=by
 have h':=h.next (Q4 w o)
 have hd':=Y1.next hd (Q4 w o)
 have c:Chg (λx=>some x=vd.ownBlock) (w.alloc o) w7:=Chg.grown hg (λ_ e=>e)
 refine h'.chg c (λg hg' x=>?_) (λu zs g hu hg' x=>?_)
 ·obtain⟨vs,h1,h2,h3,h4⟩:=h'
  rcases Xr h2 hd' (by decide) with e|e
  ·rw[e] at hg';cases hg'
  ·exact e (hg'.trans x)
 ·rcases Xr hu hd' (by decide) with e|e
  ·rw[e] at hg';cases hg'
  ·exact e (hg'.trans x)
theorem Xz.snoc {C:Nat}{w w':World}{v v' u:Value}{xs:List Ru}{x:Ru}{vs:List Value}(h0:vs.length=xs.length)(h1:w.ownsRow C 126 3 v xs.length (Z1 xs vs))(h2:∀i,i<xs.length->Qd C w (vat vs i) (Z0 xs i).seq)(hap:∀i j g,i<j->j<xs.length->(vat vs i).ownBlock=some g->(vat vs j).ownBlock≠some g)
  (hu:Qd C w u x.seq) (hnew:∀i g,i<xs.length->(vat vs i).ownBlock=some g->u.ownBlock≠some g) (ho:Obj) (hg:(w.alloc ho).grownBy w' v.ownBlock) (hn:w'.ownsRow C 126 3 v' (xs.length+1) (Z1 xs vs++[iV x.rel,.bool x.only,u])):Xz C w' v' (xs++[x]):=by
 have kept:∀{z:Value}{zs:List Int},Qd C w z zs->Qd C w' z zs:=λ{z zs} hz=>zN (zB hz ho) hg (Xr hz h1 (by decide))
 have va:∀i,i<xs.length->vat (vs++[u]) i=vat vs i:=λi hi=>by simp[vat,List.getD,List.getElem?_append_left (show i<vs.length by omega)]
 have vb:vat (vs++[u]) xs.length=u:=by rw[<-h0];simp[vat,List.getD]
 refine⟨vs++[u],by simp[h0],by rw[zA,Gw h0];exact hn,λi hi=>?_,λi j g hij hj e=>?_⟩
 ·rw[zA,List.length_singleton] at hi
  by_cases e:i<xs.length
  ·rw[Q0t e,va i e]
   exact kept (h2 i e)
  ·have e':i=xs.length:=by omega
   rw[Q3o e',e',vb]
   exact kept hu
 ·rw[zA,List.length_singleton] at hj
  rw[va i (by omega)] at e
  by_cases q:j<xs.length
  ·rw[va j q]
   exact hap i j g hij q e
  ·have e':j=xs.length:=by omega
   rw[e',vb]
   exact hnew i g (by omega) e
theorem Pz {ch:Rl->List (List Nat)}{rels:List Rl}:∀k,∀x∈(Qq ch rels k).rules,∃l:List Nat,x.seq=Qb l
 |0,x,hx=>by simp[Qq] at hx
 |k+1,x,hx=>by
  have hx':x∈(Jh (Qq ch rels k) (rat rels k) (ch (rat rels k))).rules:=hx
  unfold Jh at hx'
  split at hx'
  ·rcases List.mem_append.1 hx' with g|g
   ·exact Pz k x g
   ·have:=List.mem_singleton.1 g
    exact⟨Jd (ch (rat rels k)) 0,by rw[this]⟩
  ·exact Pz k x hx'
theorem Q1y (x:Ru)(l:List Nat)(h:x.seq=Qb l):rk x=Kq x.only (txt l):=by
 unfold rk
 rw[h,J6,Wz l l.length lR,zU]
theorem Qgn {rules:List Ru}(hn:∀x∈rules,∃l:List Nat,x.seq=Qb l)(only:Bool)(l:List Nat):Kq only (txt l)∈rules.map rk↔rpt rules only (Qb l)=true:=by
 unfold rpt
 rw[List.mem_map,List.any_eq_true]
 constructor
 ·rintro⟨x,hx,e⟩
  obtain⟨m,hm⟩:=hn x hx
  rw[Q1y x m hm] at e
  obtain⟨e1,e2⟩:=Qbd e
  refine⟨x,hx,?_⟩
  rw[hm,Q7n m l e2,e1]
  simp
 ·rintro⟨x,hx,e⟩
  simp only[zH,beq_iff_eq,decide_eq_true_eq] at e
  refine⟨x,hx,?_⟩
  rw[Q1y x l e.2,e.1]
theorem Qhg {N:Nt}{r:Rl}(hv:Qe N=true)(hg:Ke N r):∀l∈chP N r,l.length<=16002/\∀e∈l,e<4000:=by
 intro l hl
 unfold chP Ya at hl
 obtain⟨m,hm,hl⟩:=List.mem_flatMap.1 hl
 obtain⟨a,ha,hl⟩:=List.mem_flatMap.1 hl
 obtain⟨b,hb,rfl⟩:=List.mem_map.1 hl
 have hle:=Gu hv
 have ha':a<4000:=zK (Wx (List.mem_filter.1 ha).1) hle
 have hb':b<4000:=zK (Wx (List.mem_filter.1 hb).1) hle
 have hm':m.l.length<=16000/\∀e∈m.l,e<4000:=by
  unfold Jt at hm
  cases hvia:r.via
  ·rw[hvia] at hm
   simp only[Bool.false_eq_true,if_false] at hm
   obtain⟨x,hx,rfl⟩:=List.mem_map.1 hm
   have h4:=hg.one hvia
   have h1:=Uf hv hg hvia (r.ways.length-1) (by omega) x hx
   exact⟨by simp only[Xq];omega,λe he=>zK (h1.1.2.2 e he) hle⟩
  ·rw[hvia] at hm
   simp only[if_true] at hm
   have:=List.mem_singleton.1 hm
   subst this
   simp
 refine⟨by simp;omega,λe he=>?_⟩
 simp only[List.cons_append,List.nil_append,List.mem_cons,yM,List.not_mem_nil,or_false] at he
 rcases he with rfl|he|rfl
 ·exact ha'
 ·exact hm'.2 e he
 ·exact hb'
theorem Own.next {B:Nat}{w w':World}{v:Value}{bs:List UInt8}(h:Own B w v bs)(k:Nx w w'):Own B w' v bs:=V7 h k
theorem Eb {l:List Nat}(h:∀e∈l,e<4000):Q7v (Qb l):=λi hi=>by
 have hi':i<l.length:=by simpa [Qb] using hi
 rw[A1 hi']
 have:natat l i∈l:=by simp[natat,List.getD_eq_getElem?_getD,hi']
 have:=h _ this
 omega
theorem Qe4 {l:List Nat}(h1:l.length<=16002)(h2:∀e∈l,e<4000):(txt l).length<=1000000:=by
 have key:∀l:List Nat,(∀e∈l,e<4000)->(txt l).length<=5*l.length:=by
  intro l
  induction l with
  |nil=>intro _;simp[txt]
  |cons a l ih=>
   intro h
   have h3:=ih (λe he=>h e (List.mem_cons_of_mem _ he))
   have h4:(Lib.decDigits a).length<=4:=Q8s 3 a (by have:=h a (List.mem_cons_self ..);omega)
   have e:txt (a::l)=(32::Lib.decDigits a)++txt l:=by simp[txt]
   rw[e,zA,List.length_cons,List.length_cons]
   omega
 have:=key l h2
 omega
theorem Qc2 {S:Nat->Prop}{w A B:World}(h:Nx w A)(c:Chg S A B)(hS:∀b,S b->w.heap.size<=b):Nx w B:=
 ⟨c.os.trans h.os,c.tape.trans h.tape,c.output.trans h.output,zP h.size c.size,λb hb=>(c.block b (zK hb h.size) (λx=>by have:=hS b x;omega)).trans (h.block b hb)⟩
theorem Qcd {cs:List (List Nat)}(h:cs.length=1):Jd cs 0∈cs:=by
 match cs,h with
 |[x],_=>simp[Jd]
theorem Q3r (C:Nat)(N:Nt)(L:Lk)(w:World)(hv:Qe N=true)(hR:LR C N (E1 N) N.ways.length (E1 N).length (E1 N).length (E1 N).length N.ways.length w L)(h0:Q8 0 w L.v0 N.nodes)(h2:Te w L.v2 N.rels)(ht:Q0e w) :
  Calls prog 34 #[pT L.br] w λe w'=>(∃vr vd,e=.returned (.agg #[vr,vd])/\Xz w.heap.size w' vr (Qq (chP N) N.rels N.rels.length).rules/\Y1 w.heap.size w' vd (Qq (chP N) N.rels N.rels.length).drops)/\Nx w w':=by
 obtain⟨iR,hiR,hzR0,hzR1,hzR2⟩:=info_parts Q4r
 obtain⟨iD,hiD,hzD0,hzD1,hzD2⟩:=info_parts Q4u
 have HV:Z (Qe N=true):=hv
 have HR:Z (LR C N (E1 N) N.ways.length (E1 N).length (E1 N).length (E1 N).length N.ways.length w L):=hR
 have H0:Z (Q8 0 w L.v0 N.nodes):=h0
 have H2:Z (Te w L.v2 N.rels):=h2
 have HT:Z (Q0e w):=ht
 have hmx:prog.follows .mixedOrders=true:=by kernel_rfl
 obtain⟨a2,c2,he2,hm2,_⟩:=h2
 unfold maxLen at hm2
 generalize hnr:N.rels.length=nr at *
 have HNR:Z (N.rels.length=nr):=hnr
 have HE2:Z (L.v2=sL a2 nr c2):=he2
 have hrb:nr<=1000:=by rw[<-hnr];exact(Yv hv).cnt
 have x2:w.cell? (aD L.br 2)=some (sL a2 nr c2):=by rw[<-he2];exact hR.road.c 2 rfl
 have y2:=Q1 ((Q4 w (.cells #[sN,sN] 63)).trans (Q4 _ (.cells #[sN,sN] 63))) x2
 have z2:=Q1 (Q4 _ (.map #[] 0)) y2
 have hmk:∀W:World,(Instr.makeMap 152 (some (iV (nr:Int)))).run prog W=.ok (.map (some W.heap.size)) (W.alloc (.map #[] 0)):=λW=>mkRn W nr
 clear hv hR h0 ht hnr he2 hm2
 go_enter func34,ntmps34
 go_wp2_with fail
 generalize hW0:((w.alloc (.cells #[sN,sN] 63)).alloc (.cells #[sN,sN] 63)).alloc (.map #[] 0)=w0
 have HX0:Z (Nx w w0):=by rw[<-hW0];exact((Q4 _ _).trans (Q4 _ _)).trans (Q4 _ _)
 have HB0:Z (BT w0 w.heap.size #[sN,sN] 63):=by rw[<-hW0];exact((BT.new w _ _ _ rfl).alloc _).alloc _
 have HB1:Z (BT w0 (w.heap.size+1) #[sN,sN] 63):=by rw[<-hW0];exact(BT.new _ _ _ _ (by simp)).alloc _
 have HMP:Z (Yd w0 (w.heap.size+1+1) []):=by rw[<-hW0];exact Yd.new _ _ (by simp)
 have HSZ:w0.heap.size=w.heap.size+3:=by rw[<-hW0];simp
 clear hW0 x2 y2 z2
 generalize hb1:w.heap.size+1=b1 at *
 generalize hbm:b1+1=bm at *
 have HBB:Z (b1=w.heap.size+1/\bm=w.heap.size+2):=by unfold Z;omega
 clear hb1 hbm
 have HS0:Z (w0.heap.size=w.heap.size+3):=HSZ
 clear HSZ
 go_loopw [6,7,8,9,10,11,25] (λp6 p7 p8 p9 p10 p11 i wr=>∃(k:Nat) (vr vd:Value),k<=nr/\i=iV k/\Z (BT wr w.heap.size #[sN,sN] 63)/\Z (BT wr b1 #[vr,vd] 63)/\Z (Yd wr bm ((Qq (chP N) N.rels k).rules.map rk))/\Z (Xz w0.heap.size wr vr (Qq (chP N) N.rels k).rules)/\Z (Y1 w0.heap.size wr vd (Qq (chP N) N.rels k).drops)/\Z (w0.heap.size<=wr.heap.size)/\Z (Nx w wr)) (λ_ _ _ _ _ _ i _=>nr-(intOf i).toNat)
 case atStart=>exact⟨0,_,_,nZ,rfl,HB0,HB1,HMP,⟨[],rfl,⟨rfl,oL ⟨rfl,rfl⟩⟩,λi hi=>absurd hi (zM _),λi j g _ hj=>absurd hj (zM _)⟩,⟨rfl,oL ⟨rfl,rfl⟩⟩,lR,HX0⟩
 case round=>
  clear HB0 HB1 HMP
  obtain⟨k,vr,vd,hkn,rfl,HB0,HB1,HM,HOX,HOD,HZW0,HN⟩:=hrel
  have hrl:=Q0u (chP N) N.rels k
  obtain⟨ar,cr,rfl⟩:=HOX.o.slice
  obtain⟨ad,cd,rfl⟩:=Q7 HOD.o
  generalize hnu:(Qq (chP N) N.rels k).rules.length=nu at *
  generalize hnd:(Qq (chP N) N.rels k).drops.length=nd at *
  have HNU:Z ((Qq (chP N) N.rels k).rules.length=nu):=hnu
  have HND:Z ((Qq (chP N) N.rels k).drops.length=nd):=hnd
  clear hnu hnd
  by_cases hlt:k<nr
  ·have hlr:k<N.rels.length:=by rw[HNR.o];exact hlt
   have HG:Z (Ke N (rat N.rels k)):=Qg6 ((Yv HV.o).rel k hlr)
   obtain⟨a',c',e',_,hk'⟩:=HE2.o▸(H2.o.next HN.o)
   obtain⟨b,off,rfl,_,hb,hcs⟩:=hk' (by omega)
   simp only[zC] at e'
   obtain⟨rfl,hzz,rfl⟩:=e'
   obtain⟨vw,z0,z1,z2,z3,z4,z5,z6,hzw,hcp⟩:=hcs k hlr
   have HZW:Z (Q8 0 wr vw (rat N.rels k).ways):=hzw
   have HCP:Z (Vw vw):=hcp
   obtain⟨va,vn,vc,rfl,_⟩:=hcp
   have hlt':(k:Int)<nr:=by omega
   clear hcs hk' hzz hzw
   go_upto_region 6 with fail
   generalize hW5:wr.alloc (.cells #[iV (rat N.rels k).id,.bool (rat N.rels k).only,iV (rat N.rels k).frm,iV (rat N.rels k).to,.bool (rat N.rels k).via,iV (rat N.rels k).node,sL va vn vc] 111)=w5
   have HX5:Z (Nx wr w5):=by rw[<-hW5];exact Q4 _ _
   have HB5:Z (BT w5 wr.heap.size #[iV (rat N.rels k).id,.bool (rat N.rels k).only,iV (rat N.rels k).frm,iV (rat N.rels k).to,.bool (rat N.rels k).via,iV (rat N.rels k).node,sL va vn vc] 111):=by rw[<-hW5];exact BT.new _ _ _ _ rfl
   have HN5:Z (Nx w w5):=HN.o.trans HX5.o
   have q0:=HB5.o.c 0 rfl
   have q1:=HB5.o.c 1 rfl
   have q2:=HB5.o.c 2 rfl
   have q3:=HB5.o.c 3 rfl
   have q4:=HB5.o.c 4 rfl
   have q5:=HB5.o.c 5 rfl
   have q6:=HB5.o.c 6 rfl
   clear hW5 z0 z1 z2 z3 z4 z5 z6
   go_wp2_with (go_at_call 84;refine(Q74 C N L (rat N.rels k) va vn vc _ HV.o (HR.o.next HN5.o) HG.o).mono ?_;rintro e w6 ⟨⟨b2,b3,b5,b6,rfl,hb2,hb3,hb5,hb6⟩,hx6⟩)
   have HN6:Z (Nx w w6):=HN5.o.trans hx6
   refine(Qb9 131 _ (chP N (rat N.rels k)) _ w.heap.size (Q2r (r:=(rat N.rels k)) (vw:=sL va vn vc) HV.o HR.o HG.o HCP.o) (λ_ _=>rfl) w6 HN6.o.size (λB hB=>⟨(Ck.nx HN6.o).trans hB,(H0.o.next HN6.o).ck hB,((HZW.o.next HX5.o).next hx6).ck hB,hb2.ck hB id,hb3.ck hB id,hb5.ck hB id,hb6.ck hB id⟩)).mono ?_
   rintro e w7 ⟨⟨sv,rfl,hsv⟩,hx7⟩
   have HX67:Z (Nx w6 w7):=hx7
   have HX57:Z (Nx w5 w7):=hx6.trans hx7
   have HXR7:Z (Nx wr w7):=HX5.o.trans HX57.o
   have HN7:Z (Nx w w7):=HN6.o.trans hx7
   have HZ6:Z (wr.heap.size<w6.heap.size/\w0.heap.size<=w6.heap.size):=⟨zK HB5.o.lt hx6.size,by have:=HZW0.o;have:=HX5.o.size;have:=hx6.size;omega⟩
   have HSL:∃sl:List Nat,Q8 0 w7 sv (Qb sl)/\sl.length<=16002/\(∀e∈sl,e<4000)/\(((chP N (rat N.rels k)).length=1/\sl=Jd (chP N (rat N.rels k)) 0/\Qd w6.heap.size w7 sv (Qb sl))\/(chP N (rat N.rels k)).length≠1):=by
    rcases hsv with⟨h1,h2⟩|⟨h1,rfl⟩
    ·have ho:=Qhg HV.o HG.o _ (Qcd h1)
     exact⟨Jd (chP N (rat N.rels k)) 0,(Qd.base h2 nZ).held,ho.1,ho.2,oL ⟨h1,rfl,h2⟩⟩
    ·exact⟨[],⟨none,0,rfl,by simp[Qb],λhp=>by simp[Qb] at hp⟩,by simp,λe he=>by simp at he,oR h1⟩
   obtain⟨sl,hsi,hsl,hse,hcase⟩:=HSL
   have HSI:Z (Q8 0 w7 sv (Qb sl)):=hsi
   have HSM:Z (sl.length<=16002/\∀e∈sl,e<4000):=⟨hsl,hse⟩
   have HCASE:Z (((chP N (rat N.rels k)).length=1/\sl=Jd (chP N (rat N.rels k)) 0/\Qd w6.heap.size w7 sv (Qb sl))\/(chP N (rat N.rels k)).length≠1):=hcase
   obtain⟨sa,sc,rfl,_,_⟩:=hsi
   generalize hsn:(Qb sl).length=sn at *
   generalize hso:Ws (chP N (rat N.rels k))=so at *
   have HSO:Z (Ws (chP N (rat N.rels k))=so):=hso
   clear hsv hsl hse hcase hsn hso hx6 hx7 hb2 hb3 hb5 hb6 q0 q1 q2 q3 q4 q5 q6
   go_upto_region 7 with fail
   have HB7:Z (BT w7 wr.heap.size #[iV (rat N.rels k).id,.bool (rat N.rels k).only,iV (rat N.rels k).frm,iV (rat N.rels k).to,.bool (rat N.rels k).via,iV (rat N.rels k).node,sL va vn vc] 111):=HB5.o.next HX57.o
   go_cut [9,25] from 25 to 79 (λs9 s25 wc=>∃gb,s9=pT gb/\s25=iV k/\Z (w7.heap.size<=gb)/\Z (Nx w7 wc)/\Z (BT wc gb #[.bool (rat N.rels k).only,.string ⟨(txt sl).toArray⟩] 161))
   case first=>
    have HSN:Z (∀q,Nx w7 q->(λq=>q.cell? (aD wr.heap.size 1)=some (.bool (rat N.rels k).only)) q):=λq hq=>Q1 hq (HB7.o.c 1 rfl)
    have HSS:Z ((λq=>q.cell? (aD wr.heap.size 1)=some (.bool (rat N.rels k).only)) w7.drew):=HSN.o _ (show Nx w7 w7.drew from(Below.refl _ _).drew)
    refine(wpIn_wide (n:=9)).1 ?_
    refine Qj (c:=8) (S:=λq=>q.cell? (aD wr.heap.size 1)=some (.bool (rat N.rels k).only)) hmx (by kernel_rfl) (λhw hcl=>?_)
    refine tq (i:=0) (v:=.pointer (some (aD wr.heap.size 1))) (λhcl=>?_)
    refine tq (i:=1) (v:=.bool (rat N.rels k).only) (λhcl=>?_)
    refine tq (i:=2) (v:=sL sa sn sc) (λhcl=>?_)
    refine P7 (i:=3) (j:=6) (by kernel_rfl) (wpOpIn_step rfl (λK hK=>?_)) (wpOpIn_step rfl (λK hK=>?_))
    ·go_simp
     refine⟨trivial,(callsIn_wide.2 (Q5r _ (Qb sl) _ (HSI.o.next (show Nx w7 w7.drew from(Below.refl _ _).drew)) (by rw[J6];have:=HSM.o.1;omega) (Eb HSM.o.2) ((HT.o.next (HN7.o.trans (show Nx w7 w7.drew from(Below.refl _ _).drew))).tab))).mono ?_⟩
     rintro e wx0 ⟨⟨bv,rfl,hbo⟩,hxb⟩
     have HNX0:Z (Nx w7 wx0):=(show Nx w7 w7.drew from(Below.refl _ _).drew).trans hxb
     have HOW:Z (Own w7.drew.heap.size wx0 bv (txt sl)):=by
      rw[J6,Wz sl sl.length lR,zU] at hbo
      exact hbo
     obtain⟨ba,bc,rfl⟩:=Q7 HOW.o
     generalize hbn:(txt sl).length=bn at *
     clear hbo hxb hbn
     refine hK _ _ ⟨oR (HSN.o _ HNX0.o),?_⟩
     clear hK K
     refine P7 (i:=4) (j:=6) (by kernel_rfl) (wpOpIn_step rfl (λK hK=>?_)) (wpOpIn_step rfl (λK hK=>?_))
     ·have hcv:=HOW.o.conv
      go_simp
      clear hcv
      refine hK _ _ ⟨oR (HSN.o _ HNX0.o),?_⟩
      clear hK K
      refine P7 (i:=5) (j:=6) (by kernel_rfl) (wpOpIn_step rfl (λK hK=>?_)) (wpOpIn_step rfl (λK hK=>?_))
      ·go_simp
       refine hK _ _ ⟨oR (HSN.o _ HNX0.o),?_⟩
       clear hK K
       refine Qg (i:=6) (by kernel_rfl) (wpOpIn_step rfl (λK hK=>?_))
       go_simp
       generalize hWx:wx0.alloc (.cells #[.bool false,.string ⟨#[]⟩] 161)=wx1
       have HLX1:Z (Nx wx0 wx1):=by rw[<-hWx];exact Q4 _ _
       have HNX1:Z (Nx w7 wx1):=HNX0.o.trans HLX1.o
       have HBX:Z (BT wx1 wx0.heap.size #[.bool false,.string ⟨#[]⟩] 161):=by rw[<-hWx];exact BT.new wx0 _ _ _ rfl
       have HGE:Z (w7.heap.size<=wx0.heap.size):=HNX0.o.size
       have HOWN:=Ti (Own.next HOW.o HLX1.o)
       clear HOW
       have HOW:=HOWN
       clear hWx
       refine hK _ _ ⟨oR (HSN.o _ HNX1.o),?_⟩
       clear hK K
       refine Qg (i:=7) (by kernel_rfl) (wpOpIn_step rfl (λK hK=>?_))
       have g0:=HBX.o.c 0 rfl
       have g1:=HBX.o.c 1 rfl
       have f0:=HBX.o.blk.frozen 0
       have f1:=HBX.o.blk.frozen 1
       go_simp
       have HNXZ:Z (Nx w7 ((wx1.setCell (aD wx0.heap.size 0) (.bool (rat N.rels k).only)).setCell (aD wx0.heap.size 1) (.string ⟨(txt sl).toArray⟩))):=Below.setCell (Below.setCell HNX1.o HGE.o _) HGE.o _
       refine hK _ _ ⟨oR (HSN.o _ HNXZ.o),?_⟩
       clear hK K
       refine Qm (by kernel_rfl) ?_ _
       go_wp2
       go_meet
       exact⟨_,rfl,rfl,HGE,HNXZ,(HBX.o.set 0 _).set 1 _⟩
      ·go_simp
       generalize hWx:wx0.alloc (.cells #[.bool false,.string ⟨#[]⟩] 161)=wx1
       have HLX1:Z (Nx wx0 wx1):=by rw[<-hWx];exact Q4 _ _
       have HNX1:Z (Nx w7 wx1):=HNX0.o.trans HLX1.o
       have HBX:Z (BT wx1 wx0.heap.size #[.bool false,.string ⟨#[]⟩] 161):=by rw[<-hWx];exact BT.new wx0 _ _ _ rfl
       have HGE:Z (w7.heap.size<=wx0.heap.size):=HNX0.o.size
       have HOWN:=Ti (Own.next HOW.o HLX1.o)
       clear HOW
       have HOW:=HOWN
       clear hWx
       refine hK _ _ ⟨oR (HSN.o _ HNX1.o),?_⟩
       clear hK K
       refine Qg (i:=5) (by kernel_rfl) (wpOpIn_step rfl (λK hK=>?_))
       go_simp
       refine hK _ _ ⟨oR (HSN.o _ HNX1.o),?_⟩
       clear hK K
       refine Qg (i:=7) (by kernel_rfl) (wpOpIn_step rfl (λK hK=>?_))
       have g0:=HBX.o.c 0 rfl
       have g1:=HBX.o.c 1 rfl
       have f0:=HBX.o.blk.frozen 0
       have f1:=HBX.o.blk.frozen 1
       go_simp
       have HNXZ:Z (Nx w7 ((wx1.setCell (aD wx0.heap.size 0) (.bool (rat N.rels k).only)).setCell (aD wx0.heap.size 1) (.string ⟨(txt sl).toArray⟩))):=Below.setCell (Below.setCell HNX1.o HGE.o _) HGE.o _
       refine hK _ _ ⟨oR (HSN.o _ HNXZ.o),?_⟩
       clear hK K
       refine Qm (by kernel_rfl) ?_ _
       go_wp2
       go_meet
       exact⟨_,rfl,rfl,HGE,HNXZ,(HBX.o.set 0 _).set 1 _⟩
     ·go_simp
      generalize hWx:wx0.alloc (.cells #[.bool false,.string ⟨#[]⟩] 161)=wx1
      have HLX1:Z (Nx wx0 wx1):=by rw[<-hWx];exact Q4 _ _
      have HNX1:Z (Nx w7 wx1):=HNX0.o.trans HLX1.o
      have HBX:Z (BT wx1 wx0.heap.size #[.bool false,.string ⟨#[]⟩] 161):=by rw[<-hWx];exact BT.new wx0 _ _ _ rfl
      have HGE:Z (w7.heap.size<=wx0.heap.size):=HNX0.o.size
      have HOWN:=Ti (Own.next HOW.o HLX1.o)
      clear HOW
      have HOW:=HOWN
      clear hWx
      refine hK _ _ ⟨oR (HSN.o _ HNX1.o),?_⟩
      clear hK K
      refine Qg (i:=4) (by kernel_rfl) (wpOpIn_step rfl (λK hK=>?_))
      have hcv:=HOW.o.conv
      go_simp
      clear hcv
      refine hK _ _ ⟨oR (HSN.o _ HNX1.o),?_⟩
      clear hK K
      refine Qg (i:=5) (by kernel_rfl) (wpOpIn_step rfl (λK hK=>?_))
      go_simp
      refine hK _ _ ⟨oR (HSN.o _ HNX1.o),?_⟩
      clear hK K
      refine Qg (i:=7) (by kernel_rfl) (wpOpIn_step rfl (λK hK=>?_))
      have g0:=HBX.o.c 0 rfl
      have g1:=HBX.o.c 1 rfl
      have f0:=HBX.o.blk.frozen 0
      have f1:=HBX.o.blk.frozen 1
      go_simp
      have HNXZ:Z (Nx w7 ((wx1.setCell (aD wx0.heap.size 0) (.bool (rat N.rels k).only)).setCell (aD wx0.heap.size 1) (.string ⟨(txt sl).toArray⟩))):=Below.setCell (Below.setCell HNX1.o HGE.o _) HGE.o _
      refine hK _ _ ⟨oR (HSN.o _ HNXZ.o),?_⟩
      clear hK K
      refine Qm (by kernel_rfl) ?_ _
      go_wp2
      go_meet
      exact⟨_,rfl,rfl,HGE,HNXZ,(HBX.o.set 0 _).set 1 _⟩
    ·go_simp
     generalize hWx:(w7.alloc (.cells #[.bool false,.string ⟨#[]⟩] 161)).drew=wx0
     have HLX0:Z (Nx w7 wx0):=by rw[<-hWx];exact(Q4 _ _).drew
     have HNX0:Z (Nx w7 wx0):=HLX0.o
     have HBX:Z (BT wx0 w7.heap.size #[.bool false,.string ⟨#[]⟩] 161):=by rw[<-hWx];exact BT.new w7 _ _ _ rfl
     have HGE:Z (w7.heap.size<=w7.heap.size):=lR
     clear hWx
     refine hK _ _ ⟨oR (HSN.o _ HNX0.o),?_⟩
     clear hK K
     refine Qg (i:=3) (by kernel_rfl) (wpOpIn_step rfl (λK hK=>?_))
     go_simp
     refine⟨trivial,(callsIn_wide.2 (Q5r _ (Qb sl) wx0 (HSI.o.next HNX0.o) (by rw[J6];have:=HSM.o.1;omega) (Eb HSM.o.2) ((HT.o.next (HN7.o.trans HNX0.o)).tab))).mono ?_⟩
     rintro e wx1 ⟨⟨bv,rfl,hbo⟩,hxb⟩
     have HNX1:Z (Nx w7 wx1):=HNX0.o.trans hxb
     have HOW:Z (Own wx0.heap.size wx1 bv (txt sl)):=by
      rw[J6,Wz sl sl.length lR,zU] at hbo
      exact hbo
     obtain⟨ba,bc,rfl⟩:=Q7 HOW.o
     have HBX1:=Ti (HBX.o.next hxb)
     clear HBX
     have HBX:=HBX1
     generalize hbn:(txt sl).length=bn at *
     clear hbo hxb hbn
     refine hK _ _ ⟨oR (HSN.o _ HNX1.o),?_⟩
     clear hK K
     refine Qg (i:=4) (by kernel_rfl) (wpOpIn_step rfl (λK hK=>?_))
     have hcv:=HOW.o.conv
     go_simp
     clear hcv
     refine hK _ _ ⟨oR (HSN.o _ HNX1.o),?_⟩
     clear hK K
     refine Qg (i:=5) (by kernel_rfl) (wpOpIn_step rfl (λK hK=>?_))
     go_simp
     refine hK _ _ ⟨oR (HSN.o _ HNX1.o),?_⟩
     clear hK K
     refine Qg (i:=7) (by kernel_rfl) (wpOpIn_step rfl (λK hK=>?_))
     have g0:=HBX.o.c 0 rfl
     have g1:=HBX.o.c 1 rfl
     have f0:=HBX.o.blk.frozen 0
     have f1:=HBX.o.blk.frozen 1
     go_simp
     have HNXZ:Z (Nx w7 ((wx1.setCell (aD w7.heap.size 0) (.bool (rat N.rels k).only)).setCell (aD w7.heap.size 1) (.string ⟨(txt sl).toArray⟩))):=Below.setCell (Below.setCell HNX1.o HGE.o _) HGE.o _
     refine hK _ _ ⟨oR (HSN.o _ HNXZ.o),?_⟩
     clear hK K
     refine Qm (by kernel_rfl) ?_ _
     go_wp2
     go_meet
     exact⟨_,rfl,rfl,HGE,HNXZ,(HBX.o.set 0 _).set 1 _⟩
   case rest=>
    obtain⟨gb,rfl,rfl,HGB,HXC,HBG⟩:=hcut
    have HXRC:Z (Nx wr wc):=HXR7.o.trans HXC.o
    have HNC:Z (Nx w wc):=HN.o.trans HXRC.o
    have HB0C:Z (BT wc w.heap.size #[sN,sN] 63):=HB0.o.next HXRC.o
    have HB1C:Z (BT wc b1 #[sL ar nu cr,sL ad nd cd] 63):=HB1.o.next HXRC.o
    have HMC:Z (Yd wc bm ((Qq (chP N) N.rels k).rules.map rk)):=HM.o.ck (Ck.nx (X:=noX) (K:=noX) HXRC.o) id
    have HOXC:Z (Xz w0.heap.size wc (sL ar nu cr) (Qq (chP N) N.rels k).rules):=HOX.o.next HXRC.o
    have HODC:Z (Y1 w0.heap.size wc (sL ad nd cd) (Qq (chP N) N.rels k).drops):=Y1.next HOD.o HXRC.o
    have HBRC:Z (BT wc wr.heap.size #[iV (rat N.rels k).id,.bool (rat N.rels k).only,iV (rat N.rels k).frm,iV (rat N.rels k).to,.bool (rat N.rels k).via,iV (rat N.rels k).node,sL va vn vc] 111):=HB7.o.next HXC.o
    have HZC:Z (w0.heap.size<=wc.heap.size):=zP HZW0.o HXRC.o.size
    obtain⟨kl,hkl⟩:=Qej (rat N.rels k).only (txt sl) (Qe4 HSM.o.1 HSM.o.2)
    obtain⟨lv,bb,hlk,hbb⟩:=HMC.o.look hkl
    have HKL:Z (keyOf prog 161 (Kq (rat N.rels k).only (txt sl))=some kl):=hkl
    have HBBK:Z (bb=true↔Kq (rat N.rels k).only (txt sl)∈(Qq (chP N) N.rels k).rules.map rk):=hbb
    have hrp:=Qgn (Pz (ch:=chP N) (rels:=N.rels) k) (rat N.rels k).only sl
    have HRPT:Z (rpt (Qq (chP N) N.rels k).rules (rat N.rels k).only (Qb sl)=bb):=by
     unfold Z
     cases hb:bb
     ·cases h:rpt (Qq (chP N) N.rels k).rules (rat N.rels k).only (Qb sl)
      ·rfl
      ·exact absurd (hbb.2 (hrp.2 h)) (by rw[hb];simp)
     ·exact hrp.1 (hbb.1 hb)
    unfold Kq at hlk
    have e0:=HBG.o.c 0 rfl
    have e1:=HBG.o.c 1 rfl
    have q0:=HBRC.o.c 0 rfl
    have q1:=HBRC.o.c 1 rfl
    have x0:=HB1C.o.c 0 rfl
    have x1:=HB1C.o.c 1 rfl
    clear hkl hbb hrp
    have hkb:nu<=1000/\nd<=1000:=by omega
    by_cases hone:(chP N (rat N.rels k)).length=1
    ·have hso:so=0:=by have:=HSO.o;unfold Ws at this;rw[if_neg (by omega),if_pos hone] at this;omega
     subst hso
     have HONE:Z ((chP N (rat N.rels k)).length=1):=hone
     obtain⟨_,hsl,hown⟩:=HCASE.o.resolve_right (λh=>h hone)
     have HSL:Z (sl=Jd (chP N (rat N.rels k)) 0):=hsl
     have HOWS:Z (Qd w6.heap.size w7 (sL sa sn sc) (Qb sl)):=hown
     have HREA:Z (reason (Qq (chP N) N.rels k).rules (rat N.rels k).only (chP N (rat N.rels k))=if bb then 3 else 0):=by
      unfold Z reason
      rw[if_neg (by omega),if_neg (by omega),<-hsl,HRPT.o]
     clear hone hsl hown
     cases bb
     ·have HSTEP:Z ((Qq (chP N) N.rels (k+1))=⟨(Qq (chP N) N.rels k).rules++[⟨(rat N.rels k).id,(rat N.rels k).only,Qb sl⟩],(Qq (chP N) N.rels k).drops⟩):=by
       show Jh _ _ _=_
       unfold Jh
       rw[if_pos (by rw[HREA.o];rfl),<-HSL.o]
      obtain⟨w8,hup,hm8,hc8⟩:=HMC.o.put (val:=iV (rat N.rels k).id) HKL.o (λh=>by have:=HBBK.o.2 h;cases this) (by rw[zG,HNU.o];have:=hrl.1;omega)
      have HM8:Z (Yd w8 bm (((Qq (chP N) N.rels k).rules++[(⟨(rat N.rels k).id,(rat N.rels k).only,Qb sl⟩:Ru)]).map rk)):=by
       unfold Z
       rw[yL,List.map_singleton,Q1y _ sl rfl]
       exact hm8
      have HC8:Z (Chg (λx=>x=bm) wc w8):=hc8
      have nbm:∀b,b=bm->b<w0.heap.size:=λb e=>by have:=HBB.o;have:=HS0.o;omega
      have HB08:Z (BT w8 w.heap.size #[sN,sN] 63):=HB0C.o.chg hc8 (by have:=HBB.o;omega)
      have HB18:Z (BT w8 b1 #[sL ar nu cr,sL ad nd cd] 63):=HB1C.o.chg hc8 (by have:=HBB.o;omega)
      have HOD8:Z (Y1 w0.heap.size w8 (sL ad nd cd) (Qq (chP N) N.rels k).drops):=Zg HODC.o hc8 nbm
      have HBR8:Z (BT w8 wr.heap.size #[iV (rat N.rels k).id,.bool (rat N.rels k).only,iV (rat N.rels k).frm,iV (rat N.rels k).to,.bool (rat N.rels k).via,iV (rat N.rels k).node,sL va vn vc] 111):=HBRC.o.chg hc8 (by have:=HBB.o;have:=HS0.o;have:=HZW0.o;omega)
      have HZ8:Z (w0.heap.size<=w8.heap.size):=zP HZC.o hc8.size
      have HN8:Z (Nx w w8):=Qc2 HNC.o hc8 (λb e=>by have:=HBB.o;omega)
      have HSQ8:Z (Qd w0.heap.size w8 (sL sa sn sc) (Qb sl)):=Zg (Qd.base (Qd.next HOWS.o HXC.o) HZ6.o.2) hc8 nbm
      obtain⟨vs,jv,hrow,jw,jap⟩:=HOX.o
      have HJV:Z (vs.length=(Qq (chP N) N.rels k).rules.length):=jv
      have HROW:Z (w8.ownsRow w0.heap.size 126 3 (sL ar nu cr) (Qq (chP N) N.rels k).rules.length (Z1 (Qq (chP N) N.rels k).rules vs)):=Zg (V7 hrow HXRC.o) hc8 nbm
      have HJW:Z (∀i,i<(Qq (chP N) N.rels k).rules.length->Qd w0.heap.size w8 (vat vs i) (Z0 (Qq (chP N) N.rels k).rules i).seq):=λi hi=>Zg (Qd.next (jw i hi) HXRC.o) hc8 nbm
      have HJN:Z (∀i g,i<(Qq (chP N) N.rels k).rules.length->(vat vs i).ownBlock=some g->(sL sa sn sc).ownBlock≠some g):=λi g hi hg e=>by
       have h1:=(Q5 (jw i hi) g hg).2
       have h2:=(Q5 HOWS.o g e).1
       have:=HZ6.o.1
       omega
      have HJA:Z (∀i j g,i<j->j<(Qq (chP N) N.rels k).rules.length->(vat vs i).ownBlock=some g->(vat vs j).ownBlock≠some g):=jap
      have r0:=HBR8.o.c 0 rfl
      have r1:=HBR8.o.c 1 rfl
      have s0:=HB18.o.c 0 rfl
      clear hm8 hc8 jv hrow jw jap
      unfold Kq at hup
      go_wp2_with (at_builtin;refine wpList_append_own_at _ rfl _ _ 60 rfl w0.heap.size 126 iR (.agg #[iV 0,.bool false,sN]) 3 40 underlying60 hiR hzR0 hzR1 hzR2 rfl (by decide) _ _ _ rfl (zB HROW.o _) (aD w8.heap.size 0) 1 1 [iV (rat N.rels k).id,.bool (rat N.rels k).only,sL sa sn sc] rfl rfl (λj u hj=>Ql w8 _ _ _ rfl j u hj) ?c2 ?c3 ?c4 ?c5 ?_)
      case c2=>first|exact⟨rfl,rfl,rfl⟩|(intro u hu;simp at hu;rcases hu with rfl|rfl|rfl<;>rfl)
      case c3=>rw[HNU.o];unfold maxLen;omega
      case c4=>rw[HNU.o];omega
      case c5=>have:=HZ8.o;simp;omega
      intro v9 w9 hown hgrow _ _
      obtain⟨a9,c9,rfl⟩:=Q7 hown
      have HOX9:Z (Xz w0.heap.size w9 (sL a9 _ c9) ((Qq (chP N) N.rels k).rules++[(⟨(rat N.rels k).id,(rat N.rels k).only,Qb sl⟩:Ru)])):=Xz.snoc HJV.o HROW.o HJW.o HJA.o HSQ8.o HJN.o _ hgrow hown
      have HC9:Z (Chg (λx=>some x=(sL ar nu cr).ownBlock) _ w9):=Chg.grown hgrow (λ_ e=>e)
      have nlow:∀b,b<w0.heap.size->¬some b=(sL ar nu cr).ownBlock:=λb hb e=>by have:=(Q5 HROW.o b e.symm).1;omega
      have HB19:Z (BT w9 b1 #[sL ar nu cr,sL ad nd cd] 63):=(HB18.o.alloc _).chg HC9.o (nlow _ (by have:=HBB.o;have:=HS0.o;omega))
      have HB09:Z (BT w9 w.heap.size #[sN,sN] 63):=(HB08.o.alloc _).chg HC9.o (nlow _ (by have:=HS0.o;omega))
      have HM9:Z (Yd w9 bm (((Qq (chP N) N.rels k).rules++[(⟨(rat N.rels k).id,(rat N.rels k).only,Qb sl⟩:Ru)]).map rk)):=(HM8.o.ck (Ck.nx (X:=noX) (K:=noX) (Q4 _ _)) id).ck (Ck.chg (K:=noX) HC9.o) (nlow _ (by have:=HBB.o;have:=HS0.o;omega))
      have HOD9:Z (Y1 w0.heap.size w9 (sL ad nd cd) (Qq (chP N) N.rels k).drops):=zN (zB HOD8.o _) hgrow (Xr HOD8.o HROW.o (by decide))
      have HN9:Z (Nx w w9):=Below.grown (HN8.o.alloc _) hgrow (by have:=HZ8.o;have:=HS0.o;simp;omega) (λg hg=>by have:=(Q5 HROW.o g hg).1;have:=HS0.o;omega)
      have HZ9:Z (w0.heap.size<=w9.heap.size):=by have h1:=HZ8.o;have h2:=hgrow.size;simp at h2;unfold Z;omega
      have t0:=HB19.o.c 0 rfl
      have g0:=HB19.o.blk.frozen 0
      clear hown hgrow
      go_wp2
      go_roundw
      case rel=>
       have cs:Chg (λx=>x=b1) w9 (w9.setCell (aD b1 0) (sL a9 ((Qq (chP N) N.rels k).rules.length+1) c9)):=Chg.set _ _ _ rfl
       have nb1:∀b,b=b1->b<w0.heap.size:=λb e=>by have:=HBB.o;have:=HS0.o;omega
       refine⟨k+1,_,_,by omega,by go_num,HB09.o.chg cs (by have:=HBB.o;omega),HB19.o.set 0 _,?_,?_,?_,?_,?_⟩
       ·show Yd _ _ _
        rw[HSTEP.o]
        exact HM9.o.ck (Ck.chg (K:=noX) cs) (by have:=HBB.o;omega)
       ·show Xz _ _ _ _
        rw[HSTEP.o]
        exact HOX9.o.low cs nb1
       ·show Y1 _ _ _ _
        rw[HSTEP.o]
        exact Zg HOD9.o cs nb1
       ·have:=HZ9.o
        unfold Z
        simpa [World.setCell] using this
       ·exact Below.setCell HN9.o (by have:=HBB.o;show w.heap.size<=b1;omega) _
      case measure=>simp[intOf];omega
     ·have HSTEP:Z ((Qq (chP N) N.rels (k+1))=⟨(Qq (chP N) N.rels k).rules,(Qq (chP N) N.rels k).drops++[⟨(rat N.rels k).id,3⟩]⟩):=by
       show Jh _ _ _=_
       unfold Jh
       rw[if_neg (by rw[HREA.o];simp),HREA.o]
       rfl
      go_wp2_with (at_builtin;refine wpList_append_own_at _ rfl _ _ 61 rfl w0.heap.size 128 iD (.agg #[iV 0,iV 0]) 2 16 underlying61 hiD hzD0 hzD1 hzD2 rfl (by decide) _ _ _ rfl (zB HODC.o _) (aD wc.heap.size 0) 1 1 [iV (rat N.rels k).id,iV 3] rfl rfl (λj u hj=>Ql wc _ _ _ rfl j u hj) ?c2 ?c3 ?c4 ?c5 ?_)
      case c2=>first|exact⟨rfl,rfl⟩|(intro u hu;simp at hu;rcases hu with rfl|rfl<;>rfl)
      case c3=>rw[HND.o];unfold maxLen;omega
      case c4=>rw[HND.o];omega
      case c5=>have:=HZC.o;simp;omega
      intro v9 w9 hown hgrow _ _
      obtain⟨a9,c9,rfl⟩:=Q7 hown
      have HOD9:Z (Y1 w0.heap.size w9 (sL a9 _ c9) ((Qq (chP N) N.rels k).drops++[⟨(rat N.rels k).id,3⟩])):=Y1.snoc hown
      have HOX9:Z (Xz w0.heap.size w9 (sL ar nu cr) (Qq (chP N) N.rels k).rules):=Xz.drops HOXC.o HODC.o hgrow
      have HC9:Z (Chg (λx=>some x=(sL ad nd cd).ownBlock) _ w9):=Chg.grown hgrow (λ_ e=>e)
      have nlow:∀b,b<w0.heap.size->¬some b=(sL ad nd cd).ownBlock:=λb hb e=>by have:=(Q5 HODC.o b e.symm).1;omega
      have HB19:Z (BT w9 b1 #[sL ar nu cr,sL ad nd cd] 63):=(HB1C.o.alloc _).chg HC9.o (nlow _ (by have:=HBB.o;have:=HS0.o;omega))
      have HB09:Z (BT w9 w.heap.size #[sN,sN] 63):=(HB0C.o.alloc _).chg HC9.o (nlow _ (by have:=HS0.o;omega))
      have HM9:Z (Yd w9 bm ((Qq (chP N) N.rels k).rules.map rk)):=(HMC.o.ck (Ck.nx (X:=noX) (K:=noX) (Q4 _ _)) id).ck (Ck.chg (K:=noX) HC9.o) (nlow _ (by have:=HBB.o;have:=HS0.o;omega))
      have HN9:Z (Nx w w9):=Below.grown (HNC.o.alloc _) hgrow (by have:=HZC.o;have:=HS0.o;simp;omega) (λg hg=>by have:=(Q5 HODC.o g hg).1;have:=HS0.o;omega)
      have HZ9:Z (w0.heap.size<=w9.heap.size):=by have h1:=HZC.o;have h2:=hgrow.size;simp at h2;unfold Z;omega
      have t0:=HB19.o.c 1 rfl
      have g0:=HB19.o.blk.frozen 1
      clear hown hgrow
      go_wp2
      go_roundw
      case rel=>
       have cs:Chg (λx=>x=b1) w9 (w9.setCell (aD b1 1) (sL a9 ((Qq (chP N) N.rels k).drops.length+1) c9)):=Chg.set _ _ _ rfl
       have nb1:∀b,b=b1->b<w0.heap.size:=λb e=>by have:=HBB.o;have:=HS0.o;omega
       refine⟨k+1,_,_,by omega,by go_num,HB09.o.chg cs (by have:=HBB.o;omega),HB19.o.set 1 _,?_,?_,?_,?_,?_⟩
       ·show Yd _ _ _
        rw[HSTEP.o]
        exact HM9.o.ck (Ck.chg (K:=noX) cs) (by have:=HBB.o;omega)
       ·show Xz _ _ _ _
        rw[HSTEP.o]
        exact HOX9.o.low cs nb1
       ·show Y1 _ _ _ _
        rw[HSTEP.o]
        exact Zg HOD9.o cs nb1
       ·have:=HZ9.o
        unfold Z
        simpa [World.setCell] using this
       ·exact Below.setCell HN9.o (by have:=HBB.o;show w.heap.size<=b1;omega) _
      case measure=>simp[intOf];omega
    ·have hso:¬so=0:=by have:=HSO.o;unfold Ws at this;rw[if_neg hone] at this;split at this<;>omega
     have hsb:(so==0)=false:=by simpa using hso
     have hsn:(so !=0)=true:=by simpa using hso
     have HSTEP:Z ((Qq (chP N) N.rels (k+1))=⟨(Qq (chP N) N.rels k).rules,(Qq (chP N) N.rels k).drops++[⟨(rat N.rels k).id,so⟩]⟩):=by
      have hr:reason (Qq (chP N) N.rels k).rules (rat N.rels k).only (chP N (rat N.rels k))=so:=by
       have:=HSO.o
       unfold Ws at this
       unfold reason
       by_cases h0:(chP N (rat N.rels k)).length=0
       ·rw[if_pos h0] at this ⊢;exact this
       ·rw[if_neg h0,if_neg hone] at this
        rw[if_neg h0,if_pos (by omega)];exact this
      show Jh _ _ _=_
      unfold Jh
      rw[if_neg (by rw[hr];exact hso),hr]
     clear hone
     cases bb
     ·skip
      go_wp2_with (at_builtin;refine wpList_append_own_at _ rfl _ _ 61 rfl w0.heap.size 128 iD (.agg #[iV 0,iV 0]) 2 16 underlying61 hiD hzD0 hzD1 hzD2 rfl (by decide) _ _ _ rfl (zB HODC.o _) (aD wc.heap.size 0) 1 1 [iV (rat N.rels k).id,iV so] rfl rfl (λj u hj=>Ql wc _ _ _ rfl j u hj) ?c2 ?c3 ?c4 ?c5 ?_)
      case c2=>first|exact⟨rfl,rfl⟩|(intro u hu;simp at hu;rcases hu with rfl|rfl<;>rfl)
      case c3=>rw[HND.o];unfold maxLen;omega
      case c4=>rw[HND.o];omega
      case c5=>have:=HZC.o;simp;omega
      intro v9 w9 hown hgrow _ _
      obtain⟨a9,c9,rfl⟩:=Q7 hown
      have HOD9:Z (Y1 w0.heap.size w9 (sL a9 _ c9) ((Qq (chP N) N.rels k).drops++[⟨(rat N.rels k).id,so⟩])):=Y1.snoc hown
      have HOX9:Z (Xz w0.heap.size w9 (sL ar nu cr) (Qq (chP N) N.rels k).rules):=Xz.drops HOXC.o HODC.o hgrow
      have HC9:Z (Chg (λx=>some x=(sL ad nd cd).ownBlock) _ w9):=Chg.grown hgrow (λ_ e=>e)
      have nlow:∀b,b<w0.heap.size->¬some b=(sL ad nd cd).ownBlock:=λb hb e=>by have:=(Q5 HODC.o b e.symm).1;omega
      have HB19:Z (BT w9 b1 #[sL ar nu cr,sL ad nd cd] 63):=(HB1C.o.alloc _).chg HC9.o (nlow _ (by have:=HBB.o;have:=HS0.o;omega))
      have HB09:Z (BT w9 w.heap.size #[sN,sN] 63):=(HB0C.o.alloc _).chg HC9.o (nlow _ (by have:=HS0.o;omega))
      have HM9:Z (Yd w9 bm ((Qq (chP N) N.rels k).rules.map rk)):=(HMC.o.ck (Ck.nx (X:=noX) (K:=noX) (Q4 _ _)) id).ck (Ck.chg (K:=noX) HC9.o) (nlow _ (by have:=HBB.o;have:=HS0.o;omega))
      have HN9:Z (Nx w w9):=Below.grown (HNC.o.alloc _) hgrow (by have:=HZC.o;have:=HS0.o;simp;omega) (λg hg=>by have:=(Q5 HODC.o g hg).1;have:=HS0.o;omega)
      have HZ9:Z (w0.heap.size<=w9.heap.size):=by have h1:=HZC.o;have h2:=hgrow.size;simp at h2;unfold Z;omega
      have t0:=HB19.o.c 1 rfl
      have g0:=HB19.o.blk.frozen 1
      clear hown hgrow
      go_wp2
      go_roundw
      case rel=>
       have cs:Chg (λx=>x=b1) w9 (w9.setCell (aD b1 1) (sL a9 ((Qq (chP N) N.rels k).drops.length+1) c9)):=Chg.set _ _ _ rfl
       have nb1:∀b,b=b1->b<w0.heap.size:=λb e=>by have:=HBB.o;have:=HS0.o;omega
       refine⟨k+1,_,_,by omega,by go_num,HB09.o.chg cs (by have:=HBB.o;omega),HB19.o.set 1 _,?_,?_,?_,?_,?_⟩
       ·show Yd _ _ _
        rw[HSTEP.o]
        exact HM9.o.ck (Ck.chg (K:=noX) cs) (by have:=HBB.o;omega)
       ·show Xz _ _ _ _
        rw[HSTEP.o]
        exact HOX9.o.low cs nb1
       ·show Y1 _ _ _ _
        rw[HSTEP.o]
        exact Zg HOD9.o cs nb1
       ·have:=HZ9.o
        unfold Z
        simpa [World.setCell] using this
       ·exact Below.setCell HN9.o (by have:=HBB.o;show w.heap.size<=b1;omega) _
      case measure=>simp[intOf];omega
     ·skip
      go_wp2_with (at_builtin;refine wpList_append_own_at _ rfl _ _ 61 rfl w0.heap.size 128 iD (.agg #[iV 0,iV 0]) 2 16 underlying61 hiD hzD0 hzD1 hzD2 rfl (by decide) _ _ _ rfl (zB HODC.o _) (aD wc.heap.size 0) 1 1 [iV (rat N.rels k).id,iV so] rfl rfl (λj u hj=>Ql wc _ _ _ rfl j u hj) ?c2 ?c3 ?c4 ?c5 ?_)
      case c2=>first|exact⟨rfl,rfl⟩|(intro u hu;simp at hu;rcases hu with rfl|rfl<;>rfl)
      case c3=>rw[HND.o];unfold maxLen;omega
      case c4=>rw[HND.o];omega
      case c5=>have:=HZC.o;simp;omega
      intro v9 w9 hown hgrow _ _
      obtain⟨a9,c9,rfl⟩:=Q7 hown
      have HOD9:Z (Y1 w0.heap.size w9 (sL a9 _ c9) ((Qq (chP N) N.rels k).drops++[⟨(rat N.rels k).id,so⟩])):=Y1.snoc hown
      have HOX9:Z (Xz w0.heap.size w9 (sL ar nu cr) (Qq (chP N) N.rels k).rules):=Xz.drops HOXC.o HODC.o hgrow
      have HC9:Z (Chg (λx=>some x=(sL ad nd cd).ownBlock) _ w9):=Chg.grown hgrow (λ_ e=>e)
      have nlow:∀b,b<w0.heap.size->¬some b=(sL ad nd cd).ownBlock:=λb hb e=>by have:=(Q5 HODC.o b e.symm).1;omega
      have HB19:Z (BT w9 b1 #[sL ar nu cr,sL ad nd cd] 63):=(HB1C.o.alloc _).chg HC9.o (nlow _ (by have:=HBB.o;have:=HS0.o;omega))
      have HB09:Z (BT w9 w.heap.size #[sN,sN] 63):=(HB0C.o.alloc _).chg HC9.o (nlow _ (by have:=HS0.o;omega))
      have HM9:Z (Yd w9 bm ((Qq (chP N) N.rels k).rules.map rk)):=(HMC.o.ck (Ck.nx (X:=noX) (K:=noX) (Q4 _ _)) id).ck (Ck.chg (K:=noX) HC9.o) (nlow _ (by have:=HBB.o;have:=HS0.o;omega))
      have HN9:Z (Nx w w9):=Below.grown (HNC.o.alloc _) hgrow (by have:=HZC.o;have:=HS0.o;simp;omega) (λg hg=>by have:=(Q5 HODC.o g hg).1;have:=HS0.o;omega)
      have HZ9:Z (w0.heap.size<=w9.heap.size):=by have h1:=HZC.o;have h2:=hgrow.size;simp at h2;unfold Z;omega
      have t0:=HB19.o.c 1 rfl
      have g0:=HB19.o.blk.frozen 1
      clear hown hgrow
      go_wp2
      go_roundw
      case rel=>
       have cs:Chg (λx=>x=b1) w9 (w9.setCell (aD b1 1) (sL a9 ((Qq (chP N) N.rels k).drops.length+1) c9)):=Chg.set _ _ _ rfl
       have nb1:∀b,b=b1->b<w0.heap.size:=λb e=>by have:=HBB.o;have:=HS0.o;omega
       refine⟨k+1,_,_,by omega,by go_num,HB09.o.chg cs (by have:=HBB.o;omega),HB19.o.set 1 _,?_,?_,?_,?_,?_⟩
       ·show Yd _ _ _
        rw[HSTEP.o]
        exact HM9.o.ck (Ck.chg (K:=noX) cs) (by have:=HBB.o;omega)
       ·show Xz _ _ _ _
        rw[HSTEP.o]
        exact HOX9.o.low cs nb1
       ·show Y1 _ _ _ _
        rw[HSTEP.o]
        exact Zg HOD9.o cs nb1
       ·have:=HZ9.o
        unfold Z
        simpa [World.setCell] using this
       ·exact Below.setCell HN9.o (by have:=HBB.o;show w.heap.size<=b1;omega) _
      case measure=>simp[intOf];omega
  ·have ek:k=nr:=by omega
   subst ek
   have y0:=HB0.o.c 0 rfl
   have y1:=HB0.o.c 1 rfl
   have f0:=HB0.o.blk.frozen 0
   have f1:=HB0.o.blk.frozen 1
   have z0:=HB1.o.c 0 rfl
   have z1:=HB1.o.c 1 rfl
   have BR':=(HB0.o.set 0 (sL ar nu cr)).set 1 (sL ad nd cd)
   have p0:_=some (sL ar nu cr):=BR'.c 0 rfl
   have p1:_=some (sL ad nd cd):=BR'.c 1 rfl
   go_wp2
   refine bodyPost_ret (v:=.agg #[sL ar nu cr,sL ad nd cd]) (by simp[results,results34,go_sem,p0,p1]) rfl ?_
   have h1:w.heap.size<w0.heap.size:=by have:=HS0.o;omega
   have c1:Chg (λx=>x=w.heap.size) wr ((wr.setCell (aD w.heap.size 0) (sL ar nu cr)).setCell (aD w.heap.size 1) (sL ad nd cd)):=(Chg.set (S:=λx=>x=w.heap.size) w.heap.size 0 _ rfl).trans (Chg.set (S:=λx=>x=w.heap.size) w.heap.size 1 _ rfl)
   refine⟨⟨_,_,rfl,(HOX.o.low c1 (λb e=>by omega)).base (Nat.le_of_lt h1),Jn (Zg HOD.o c1 (λb e=>by omega)) (Nat.le_of_lt h1)⟩,Below.setCell (Below.setCell HN.o lR _) lR _⟩
end Go.Proofs.YtahpodmokbdjeaaGreatDoor
namespace Go.Proofs.YtahpodmokbdjeaaGreatDoor
open Go.RowKit Tryz
set_option linter.unusedVariables false
set_option maxRecDepth 1000000
set_option maxHeartbeats 16000000
def HIc (B:Nat)(w:World)(v:Value)(zs:List Int):Prop:=Q8 B w v zs/\Vw v
theorem HIc.keep {B:Nat}{w w':World}{v:Value}{zs:List Int}(h:HIc B w v zs)(k:Xh B w w'):HIc B w' v zs:=⟨h.1.keep k,h.2⟩
theorem HIc.next {B:Nat}{w w':World}{v:Value}{zs:List Int}(h:HIc B w v zs)(k:Nx w w'):HIc B w' v zs:=⟨h.1.next k,h.2⟩
theorem HIc.base {B B':Nat}{w:World}{v:Value}{zs:List Int}(h:HIc B w v zs)(hB:B'<=B):HIc B' w v zs:=⟨h.1.base hB,h.2⟩
theorem HIc.store {B:Nat}{w:World}{v:Value}{zs:List Int}(h:HIc B w v zs){g o:Nat}(hg:g<B)(u:Value):HIc B (w.setCell (aD g o) u) v zs:=⟨h.1.store hg u,h.2⟩
def HRelX (B:Nat)(w:World)(b o:Nat)(x:Rl):Prop:=
 ∃vw,w.cell? (aD b o)=some (iV x.id)/\w.cell? (aD b (o+1))=some (.bool x.only)/\w.cell? (aD b (o+2))=some (iV x.frm)/\w.cell? (aD b (o+3))=some (iV x.to) /\
  w.cell? (aD b (o+4))=some (.bool x.via)/\w.cell? (aD b (o+5))=some (iV x.node)/\w.cell? (aD b (o+6))=some vw/\HIc B w vw x.ways
def Yq (B:Nat)(w:World)(v:Value)(xs:List Rl):Prop:=
 Ji B w v xs.length λb off i=>HRelX B w b (off+i*7) (rat xs i)
theorem Yq.keep {B:Nat}{w w':World}{v:Value}{xs:List Rl}(h:Yq B w v xs)(k:Xh B w w'):Yq B w' v xs:=
 Ji.mono h lR k.1 λb off hB hs i hi hc=>by
  obtain⟨vw,h0,h1,h2,h3,h4,h5,h6,h7⟩:=hc
  exact⟨vw,(k.2 b hB hs _).trans h0,(k.2 b hB hs _).trans h1,(k.2 b hB hs _).trans h2,(k.2 b hB hs _).trans h3,(k.2 b hB hs _).trans h4,(k.2 b hB hs _).trans h5,(k.2 b hB hs _).trans h6,h7.keep k⟩
theorem Yq.base {B B':Nat}{w:World}{v:Value}{xs:List Rl}(h:Yq B w v xs)(hB:B'<=B):Yq B' w v xs:=
 Ji.mono h hB lR λb off _ _ i hi hc=>by
  obtain⟨vw,h0,h1,h2,h3,h4,h5,h6,h7⟩:=hc
  exact⟨vw,h0,h1,h2,h3,h4,h5,h6,h7.base hB⟩
theorem Yq.rels {B:Nat}{w:World}{v:Value}{xs:List Rl}(h:Yq B w v xs):Ut B w v xs:=
 Ji.mono h lR lR λb off _ _ i hi hc=>by
  obtain⟨vw,h0,h1,h2,h3,h4,h5,h6,h7⟩:=hc
  exact⟨vw,h0,h1,h2,h3,h4,h5,h6,h7.1⟩
theorem Yq.caps {B:Nat}{w:World}{v:Value}{xs:List Rl}(h:Yq B w v xs):Te w v xs:=
 Ji.mono h nZ lR λb off _ _ i hi hc=>by
  obtain⟨vw,h0,h1,h2,h3,h4,h5,h6,h7⟩:=hc
  exact⟨vw,h0,h1,h2,h3,h4,h5,h6,h7.1.base nZ,h7.2⟩
def Q5x (B:Nat)(w:World)(v0 v1 v2 v3:Value)(N:Nt):Prop:=
 Q8 B w v0 N.nodes/\Jy B w v1 N.ways/\Yq B w v2 N.rels/\V5 B w v3 N.turns
theorem Q5x.net {B:Nat}{w:World}{v0 v1 v2 v3:Value}{N:Nt}(h:Q5x B w v0 v1 v2 v3 N):Ye B w v0 v1 v2 v3 N:=⟨h.1,h.2.1,h.2.2.1.rels,h.2.2.2⟩
theorem Q5x.caps {B:Nat}{w:World}{v0 v1 v2 v3:Value}{N:Nt}(h:Q5x B w v0 v1 v2 v3 N):Te w v2 N.rels:=h.2.2.1.caps
theorem Qb0 (B:Nat)(v:Value)(zs:List Int)(w:World)(h0:Q8 B w v zs)(hs:zs.length<=1048576) :
  Calls prog 27 #[v] w λe w'=>(∃a' n' c',e=.returned (sL a' n' c')/\HIc w.heap.size w' (sL a' n' c') zs)/\Nu w w':=by
 obtain⟨a,cap,rfl,hn,hk⟩:=h0
 generalize hz:zs.length=n at *
 have HZ:Z (zs.length=n):=hz
 have HM:Z (n<=maxLen):=hn
 clear hz hn
 have hmk:=run_make_row' (P:=prog) 22 2 (iV 0) 8 underlying22 Qga rfl .i64 .i64 n (by omega) (by omega)
 go_enter func27,ntmps27
 go_wp2
 go_loopw [4] (λi wr=>∃k:Nat,k<=n/\i=iV k/\Z (An wr w.heap.size n k zs)/\Z (Nu w wr)) (λi _=>n-(intOf i).toNat)
 case atStart=>exact⟨0,nZ,rfl,⟨_,World.rowIs_made _ _ _ _,λi hi=>absurd hi (zM _)⟩,Q0j _ _ _⟩
 case round=>
  obtain⟨k,hkn,rfl,HR,HN⟩:=hrel
  clear hmk
  by_cases hlt:k<n
  ·obtain⟨b,off,rfl,hB,hb,hc⟩:=hk (by omega)
   have c0:=Q0 HN.o.nx hb (hc k hlt)
   have hlt':(k:Int)<n:=by omega
   obtain⟨f,hf,hf'⟩:=HR.o
   have r0:=hf.cell hlt
   have r1:=hf.frozen k
   clear hc hk hf hf'
   go_wp2
   go_roundw
   case rel=>exact⟨k+1,by omega,by go_num,HR.o.set,Nu.setCell HN.o lR _⟩
   case measure=>simp[intOf];omega
  ·go_wp2
   go_ret
   have e:k=n:=by omega
   subst e
   exact⟨⟨_,_,_,rfl,⟨HR.o.held HZ.o HM.o,_,_,_,rfl,lR⟩⟩,HN.o⟩
theorem Qea (B:Nat)(x:Rl)(p:Value)(w:World)(h0:Q8 B w p x.ways)(hs0:x.ways.length<=1048576) :
  Calls prog 69 #[.agg #[iV x.id,.bool x.only,iV x.frm,iV x.to,.bool x.via,iV x.node,p]] w λe w'=>(∃a m c,e=.returned (.agg #[iV x.id,.bool x.only,iV x.frm,iV x.to,.bool x.via,iV x.node,sL a m c])/\HIc w.heap.size w' (sL a m c) x.ways)/\Nu w w':=by
 go_enter func69,ntmps69
 go_wp2_with fail
 refine(Qb0 B _ x.ways _ (h0.next (((Zk _ _ _).alloc _))) hs0).mono ?_
 rintro e w1 ⟨⟨a1,n1,c1,rfl,g1⟩,hu⟩
 have hx:=hu.nx
 have HX:Z (Nu w w1):=((Q7m _ _ _ _ _).alloc _ _).trans hu
 have BB2:Blk w1 (w.heap.size+1) #[iV 0,.bool false,iV 0,iV 0,.bool false,iV 0,sN]:=((Blk.new _ _ 111 _ (by simp)).alloc _).next hx
 have BC2:Blk w1 (w.heap.size+1+1) #[iV x.id,.bool x.only,iV x.frm,iV x.to,.bool x.via,iV x.node,sN]:=(Blk.new _ _ 111 _ (by simp)).next hx
 have G1:Z (HIc (w.heap.size+3) w1 (sL a1 n1 c1) x.ways):=g1.base (by simp)
 clear hx hu g1
 have k0:=BC2.c 0 rfl
 have k1:=BC2.c 1 rfl
 have k2:=BC2.c 2 rfl
 have k3:=BC2.c 3 rfl
 have k4:=BC2.c 4 rfl
 have k5:=BC2.c 5 rfl
 have k6:=BC2.c 6 rfl
 have kf:=BC2.frozen 6
 have j0:=BB2.c 0 rfl
 have j1:=BB2.c 1 rfl
 have j2:=BB2.c 2 rfl
 have j3:=BB2.c 3 rfl
 have j4:=BB2.c 4 rfl
 have j5:=BB2.c 5 rfl
 have j6:=BB2.c 6 rfl
 have f0:=BB2.frozen 0
 have f1:=BB2.frozen 1
 have f2:=BB2.frozen 2
 have f3:=BB2.frozen 3
 have f4:=BB2.frozen 4
 have f5:=BB2.frozen 5
 have f6:=BB2.frozen 6
 go_wp2
 refine bodyPost_ret (v:=.agg #[iV x.id,.bool x.only,iV x.frm,iV x.to,.bool x.via,iV x.node,sL a1 n1 c1]) (by simp[results,results69,go_sem,j0,j1,j2,j3,j4,j5,j6]) rfl ⟨⟨a1,n1,c1,rfl,?_⟩,?_⟩
 ·exact((((((((G1.o.store (by omega) _).store (by omega) _).store (by omega) _).store (by omega) _).store (by omega) _).store (by omega) _).store (by omega) _).store (by omega) _).base (by omega)
 ·exact Nu.setCell (Nu.setCell (Nu.setCell (Nu.setCell (Nu.setCell (Nu.setCell (Nu.setCell (Nu.setCell HX.o (by simp;omega) _) (by simp) _) (by simp) _) (by simp) _) (by simp) _) (by simp) _) (by simp) _) (by simp) _
def Zt (w:World)(g n k:Nat)(zs:List Rl):Prop:=∃cs:Array Value,Blk w g cs/\cs.size=n*7/\∀i,i<k->∃p:Value,cs[i*7]?=some (iV (rat zs i).id)/\cs[i*7+1]?=some (.bool (rat zs i).only)/\cs[i*7+2]?=some (iV (rat zs i).frm)/\cs[i*7+3]?=some (iV (rat zs i).to)/\cs[i*7+4]?=some (.bool (rat zs i).via)/\cs[i*7+5]?=some (iV (rat zs i).node)/\cs[i*7+6]?=some p/\HIc (g+1) w p (rat zs i).ways
theorem Zt.step {wr w1:World}{g n k:Nat}{zs:List Rl}(h:Zt wr g n k zs)(hx:Nx wr w1)(hk:k<n)(p:Value)(h0:HIc (g+1) w1 p (rat zs k).ways) :
  Zt (((((((w1.setCell (aD g (k*7)) (iV (rat zs k).id)).setCell (aD g (k*7+1)) (.bool (rat zs k).only)).setCell (aD g (k*7+2)) (iV (rat zs k).frm)).setCell (aD g (k*7+3)) (iV (rat zs k).to)).setCell (aD g (k*7+4)) (.bool (rat zs k).via)).setCell (aD g (k*7+5)) (iV (rat zs k).node)).setCell (aD g (k*7+6)) p) g n (k+1) zs:=by
 obtain⟨cs,BK,hs,hi⟩:=h
 have hm:(k+1)*7<=n*7:=Nat.mul_le_mul_right 7 hk
 refine⟨_,((((((((BK.next hx).set (k*7) (iV (rat zs k).id)).set (k*7+1) (.bool (rat zs k).only)).set (k*7+2) (iV (rat zs k).frm)).set (k*7+3) (iV (rat zs k).to)).set (k*7+4) (.bool (rat zs k).via)).set (k*7+5) (iV (rat zs k).node)).set (k*7+6) p),by simpa using hs,λi hik=>?_⟩
 by_cases e:i=k
 ·subst e
  exact⟨p,(by rw[Qi _ (by omega)];rw[Qi _ (by omega)];rw[Qi _ (by omega)];rw[Qi _ (by omega)];rw[Qi _ (by omega)];rw[Qi _ (by omega)];exact Zf _ (by simp[hs];omega)),(by rw[Qi _ (by omega)];rw[Qi _ (by omega)];rw[Qi _ (by omega)];rw[Qi _ (by omega)];rw[Qi _ (by omega)];exact Zf _ (by simp[hs];omega)),(by rw[Qi _ (by omega)];rw[Qi _ (by omega)];rw[Qi _ (by omega)];rw[Qi _ (by omega)];exact Zf _ (by simp[hs];omega)),(by rw[Qi _ (by omega)];rw[Qi _ (by omega)];rw[Qi _ (by omega)];exact Zf _ (by simp[hs];omega)),(by rw[Qi _ (by omega)];rw[Qi _ (by omega)];exact Zf _ (by simp[hs];omega)),(by rw[Qi _ (by omega)];exact Zf _ (by simp[hs];omega)),(by  exact Zf _ (by simp[hs];omega)),(((((((h0.store (by omega) _).store (by omega) _).store (by omega) _).store (by omega) _).store (by omega) _).store (by omega) _).store (by omega) _)⟩
 ·obtain⟨p',e0,e1,e2,e3,e4,e5,e6,i0⟩:=hi i (by omega)
  exact⟨p',(by rw[Qi _ (by omega)];rw[Qi _ (by omega)];rw[Qi _ (by omega)];rw[Qi _ (by omega)];rw[Qi _ (by omega)];rw[Qi _ (by omega)];rw[Qi _ (by omega)];exact e0),(by rw[Qi _ (by omega)];rw[Qi _ (by omega)];rw[Qi _ (by omega)];rw[Qi _ (by omega)];rw[Qi _ (by omega)];rw[Qi _ (by omega)];rw[Qi _ (by omega)];exact e1),(by rw[Qi _ (by omega)];rw[Qi _ (by omega)];rw[Qi _ (by omega)];rw[Qi _ (by omega)];rw[Qi _ (by omega)];rw[Qi _ (by omega)];rw[Qi _ (by omega)];exact e2),(by rw[Qi _ (by omega)];rw[Qi _ (by omega)];rw[Qi _ (by omega)];rw[Qi _ (by omega)];rw[Qi _ (by omega)];rw[Qi _ (by omega)];rw[Qi _ (by omega)];exact e3),(by rw[Qi _ (by omega)];rw[Qi _ (by omega)];rw[Qi _ (by omega)];rw[Qi _ (by omega)];rw[Qi _ (by omega)];rw[Qi _ (by omega)];rw[Qi _ (by omega)];exact e4),(by rw[Qi _ (by omega)];rw[Qi _ (by omega)];rw[Qi _ (by omega)];rw[Qi _ (by omega)];rw[Qi _ (by omega)];rw[Qi _ (by omega)];rw[Qi _ (by omega)];exact e5),(by rw[Qi _ (by omega)];rw[Qi _ (by omega)];rw[Qi _ (by omega)];rw[Qi _ (by omega)];rw[Qi _ (by omega)];rw[Qi _ (by omega)];rw[Qi _ (by omega)];exact e6),((((((((i0.next hx).store (by omega) _).store (by omega) _).store (by omega) _).store (by omega) _).store (by omega) _).store (by omega) _).store (by omega) _)⟩
theorem Zt.held {w:World}{g n:Nat}{zs:List Rl}(hn:zs.length=n)(hm:n<=maxLen)(h:Zt w g n n zs):Yq g w (sL (sA g) n n) zs:=by
 obtain⟨cs,BK,hs,hi⟩:=h
 subst hn
 refine⟨_,_,rfl,hm,λh0=>⟨g,0,rfl,lR,BK.lt,λi hik=>?_⟩⟩
 obtain⟨p',e0,e1,e2,e3,e4,e5,e6,i0⟩:=hi i hik
 exact⟨p',BK.cell (by simpa using e0),BK.cell (by simpa using e1),BK.cell (by simpa using e2),BK.cell (by simpa using e3),BK.cell (by simpa using e4),BK.cell (by simpa using e5),BK.cell (by simpa using e6),i0.base (by omega)⟩
theorem Qaz (B:Nat)(v:Value)(zs:List Rl)(w:World)(h0:Ut B w v zs)(hs:zs.length<=1048576)(hs1:∀i,i<zs.length->(rat zs i).ways.length<=1048576) :
  Calls prog 29 #[v] w λe w'=>(∃a' n' c',e=.returned (sL a' n' c')/\Yq w.heap.size w' (sL a' n' c') zs)/\Nu w w':=by
 obtain⟨a,cap,rfl,hn,hk⟩:=h0
 generalize hz:zs.length=n at *
 have HZ:Z (zs.length=n):=hz
 have HM:Z (n<=maxLen):=hn
 clear hz hn
 have hmk:=T2 35 111 (.agg #[iV 0,.bool false,iV 0,iV 0,.bool false,iV 0,sN]) 7 72 underlying35 Qh5 n (by omega) (by omega)
 go_enter func29,ntmps29
 go_wp2
 go_loopw [4] (λi wr=>∃k:Nat,k<=n/\i=iV k/\Z (Zt wr w.heap.size n k zs)/\Z (Nu w wr)) (λi _=>n-(intOf i).toNat)
 case atStart=>exact⟨0,nZ,rfl,⟨_,Blk.made _ _ _ _,size_madeCells _ _,λi hi=>absurd hi (zM _)⟩,Q0j _ _ _⟩
 case round=>
  obtain⟨k,hkn,rfl,HR,HN⟩:=hrel
  clear hmk
  by_cases hlt:k<n
  ·obtain⟨b,off,rfl,hB,hb,hc⟩:=hk (by omega)
   obtain⟨p1,a0,a1,a2,a3,a4,a5,a6,n1⟩:=hc k hlt
   have a0:=Q0 HN.o.nx hb a0
   have a1:=Q0 HN.o.nx hb a1
   have a2:=Q0 HN.o.nx hb a2
   have a3:=Q0 HN.o.nx hb a3
   have a4:=Q0 HN.o.nx hb a4
   have a5:=Q0 HN.o.nx hb a5
   have a6:=Q0 HN.o.nx hb a6
   have hlt':(k:Int)<n:=by omega
   obtain⟨cs,BK,hcs,_⟩:=HR.o
   have hm:(k+1)*7<=n*7:=Nat.mul_le_mul_right 7 hlt
   have hsz:w.heap.size<wr.heap.size:=BK.lt
   clear hc hk
   go_wp2_with fail
   refine(Qea B (rat zs k) _ _ (by exact n1.next HN.o.nx) (hs1 k hlt)).mono ?_
   rintro e w1 ⟨⟨q1,m1,c1,rfl,g0'⟩,hu⟩
   have hx:=hu.nx
   have BK1:=BK.next hx
   have g0:Z (HIc wr.heap.size w1 (sL q1 m1 c1) (rat zs k).ways):=g0'
   clear g0'
   have r0:=BK1.cell (i:=k*7) (zL (by omega))
   have r1:=BK1.cell (i:=k*7+1) (zL (by omega))
   have r2:=BK1.cell (i:=k*7+2) (zL (by omega))
   have r3:=BK1.cell (i:=k*7+3) (zL (by omega))
   have r4:=BK1.cell (i:=k*7+4) (zL (by omega))
   have r5:=BK1.cell (i:=k*7+5) (zL (by omega))
   have r6:=BK1.cell (i:=k*7+6) (zL (by omega))
   have f0:=BK1.frozen (k*7)
   have f1:=BK1.frozen (k*7+1)
   have f2:=BK1.frozen (k*7+2)
   have f3:=BK1.frozen (k*7+3)
   have f4:=BK1.frozen (k*7+4)
   have f5:=BK1.frozen (k*7+5)
   have f6:=BK1.frozen (k*7+6)
   have HX:Z (Nu wr w1):=hu
   clear hx hu BK BK1
   go_wp2
   go_roundw
   case rel=>exact⟨k+1,by omega,by go_num,HR.o.step HX.o.nx hlt _ (g0.o.base (by omega)),Nu.setCell (Nu.setCell (Nu.setCell (Nu.setCell (Nu.setCell (Nu.setCell (Nu.setCell (HN.o.trans HX.o) lR _) lR _) lR _) lR _) lR _) lR _) lR _⟩
   case measure=>simp[intOf];omega
  ·go_wp2
   go_ret
   have e:k=n:=by omega
   subst e
   exact⟨⟨_,_,_,rfl,HR.o.held HZ.o HM.o⟩,HN.o⟩
theorem Fe (B:Nat)(v0 v1 v2 v3:Value)(N:Nt)(w:World)(h0:Ye B w v0 v1 v2 v3 N)(hs:Q92 N) :
  Calls prog 6 #[.agg #[v0,v1,v2,v3,iV N.uturn]] w λe w'=>(∃a0 n0 c0 a1 n1 c1 a2 n2 c2 a3 n3 c3,e=.returned (.agg #[sL a0 n0 c0,sL a1 n1 c1,sL a2 n2 c2,sL a3 n3 c3,iV N.uturn])/\Q5x w.heap.size w' (sL a0 n0 c0) (sL a1 n1 c1) (sL a2 n2 c2) (sL a3 n3 c3) N)/\Nu w w':=by
 obtain⟨i0,i1,i2,i3⟩:=h0
 go_enter func6,ntmps6
 go_wp2_with fail
 have HXX:Z (Nu w (((w.alloc (.cells #[v0,v1,v2,v3,iV N.uturn] 27)).alloc (.cells #[sN,sN,sN,sN,iV 0] 38)).alloc (.cells #[sN,sN,sN,sN,iV 0] 38))):=(Q7m _ _ _ _ _).alloc _ _
 have BA:Blk (((w.alloc (.cells #[v0,v1,v2,v3,iV N.uturn] 27)).alloc (.cells #[sN,sN,sN,sN,iV 0] 38)).alloc (.cells #[sN,sN,sN,sN,iV 0] 38)) w.heap.size #[v0,v1,v2,v3,iV N.uturn]:=((Blk.new w _ 27 _ rfl).alloc _).alloc _
 have BB:Blk (((w.alloc (.cells #[v0,v1,v2,v3,iV N.uturn] 27)).alloc (.cells #[sN,sN,sN,sN,iV 0] 38)).alloc (.cells #[sN,sN,sN,sN,iV 0] 38)) (w.heap.size+1) #[sN,sN,sN,sN,iV 0]:=(Blk.new _ _ 38 _ (by simp)).alloc _
 have BC:Blk (((w.alloc (.cells #[v0,v1,v2,v3,iV N.uturn] 27)).alloc (.cells #[sN,sN,sN,sN,iV 0] 38)).alloc (.cells #[sN,sN,sN,sN,iV 0] 38)) (w.heap.size+1+1) #[sN,sN,sN,sN,iV 0]:=Blk.new _ _ 38 _ (by simp)
 have hsz:w.heap.size+3<=(((w.alloc (.cells #[v0,v1,v2,v3,iV N.uturn] 27)).alloc (.cells #[sN,sN,sN,sN,iV 0] 38)).alloc (.cells #[sN,sN,sN,sN,iV 0] 38)).heap.size:=by simp
 refine(Pw B _ N.nodes _ (by exact i0.keep (HXX.o.keeps B)) hs.nodes).mono ?_
 rintro e w0 ⟨⟨a0,n0,c0,rfl,g0⟩,hu⟩
 have hx:=hu.nx
 have HX:Z (Nu w w0):=HXX.o.trans hu
 clear HXX
 have BA:=BA.next hx
 have BB:=BB.next hx
 have BC:=BC.next hx
 have G0:Z (Q8 (w.heap.size+3) w0 (sL a0 n0 c0) N.nodes):=g0.base hsz
 have hsz:w.heap.size+3<=w0.heap.size:=zP hsz hx.size
 clear hx hu g0
 have k0:=BA.c 1 rfl
 have k1:=BC.c 0 rfl
 have k2:=BC.frozen 0
 have HS:Z (w.heap.size+3<=w0.heap.size):=hsz
 go_wp2_with fail
 have HXX:Z (Nu w (w0.setCell (aD (w.heap.size+1+1) 0) (sL a0 n0 c0))):=Nu.setCell HX.o (by simp;omega) _
 have BA:=BA.setOther (g:=w.heap.size+1+1) (by omega) 0 (sL a0 n0 c0)
 have BB:=BB.setOther (g:=w.heap.size+1+1) (by omega) 0 (sL a0 n0 c0)
 have BC:=BC.set 0 (sL a0 n0 c0)
 have hsz:w.heap.size+3<=(w0.setCell (aD (w.heap.size+1+1) 0) (sL a0 n0 c0)).heap.size:=by simp only[World.setCell,Array.size_modify];exact HS.o
 have G0:Z (Q8 (w.heap.size+3) (w0.setCell (aD (w.heap.size+1+1) 0) (sL a0 n0 c0)) (sL a0 n0 c0) N.nodes):=G0.o.keep (Vi _ _ (by omega) _)
 clear k0 k1 k2 HS HX
 refine(Q63 B _ N.ways _ (by exact i1.keep (HXX.o.keeps B)) hs.ways hs.way).mono ?_
 rintro e w1 ⟨⟨a1,n1,c1,rfl,g1⟩,hu⟩
 have hx:=hu.nx
 have HX:Z (Nu w w1):=HXX.o.trans hu
 clear HXX
 have BA:=BA.next hx
 have BB:=BB.next hx
 have BC:=BC.next hx
 have G1:Z (Jy (w.heap.size+3) w1 (sL a1 n1 c1) N.ways):=g1.base hsz
 have G0:Z (Q8 (w.heap.size+3) w1 (sL a0 n0 c0) N.nodes):=G0.o.keep (hx.keeps _)
 have hsz:w.heap.size+3<=w1.heap.size:=zP hsz hx.size
 clear hx hu g1
 have k0:=BA.c 2 rfl
 have k1:=BC.c 1 rfl
 have k2:=BC.frozen 1
 have HS:Z (w.heap.size+3<=w1.heap.size):=hsz
 go_wp2_with fail
 have HXX:Z (Nu w (w1.setCell (aD (w.heap.size+1+1) 1) (sL a1 n1 c1))):=Nu.setCell HX.o (by simp;omega) _
 have BA:=BA.setOther (g:=w.heap.size+1+1) (by omega) 1 (sL a1 n1 c1)
 have BB:=BB.setOther (g:=w.heap.size+1+1) (by omega) 1 (sL a1 n1 c1)
 have BC:=BC.set 1 (sL a1 n1 c1)
 have hsz:w.heap.size+3<=(w1.setCell (aD (w.heap.size+1+1) 1) (sL a1 n1 c1)).heap.size:=by simp only[World.setCell,Array.size_modify];exact HS.o
 have G0:Z (Q8 (w.heap.size+3) (w1.setCell (aD (w.heap.size+1+1) 1) (sL a1 n1 c1)) (sL a0 n0 c0) N.nodes):=G0.o.keep (Vi _ _ (by omega) _)
 have G1:Z (Jy (w.heap.size+3) (w1.setCell (aD (w.heap.size+1+1) 1) (sL a1 n1 c1)) (sL a1 n1 c1) N.ways):=G1.o.keep (Vi _ _ (by omega) _)
 clear k0 k1 k2 HS HX
 refine(Qaz B _ N.rels _ (by exact i2.keep (HXX.o.keeps B)) hs.rels hs.rel).mono ?_
 rintro e w2 ⟨⟨a2,n2,c2,rfl,g2⟩,hu⟩
 have hx:=hu.nx
 have HX:Z (Nu w w2):=HXX.o.trans hu
 clear HXX
 have BA:=BA.next hx
 have BB:=BB.next hx
 have BC:=BC.next hx
 have G2:Z (Yq (w.heap.size+3) w2 (sL a2 n2 c2) N.rels):=g2.base hsz
 have G0:Z (Q8 (w.heap.size+3) w2 (sL a0 n0 c0) N.nodes):=G0.o.keep (hx.keeps _)
 have G1:Z (Jy (w.heap.size+3) w2 (sL a1 n1 c1) N.ways):=G1.o.keep (hx.keeps _)
 have hsz:w.heap.size+3<=w2.heap.size:=zP hsz hx.size
 clear hx hu g2
 have k0:=BA.c 3 rfl
 have k1:=BC.c 2 rfl
 have k2:=BC.frozen 2
 have HS:Z (w.heap.size+3<=w2.heap.size):=hsz
 go_wp2_with fail
 have HXX:Z (Nu w (w2.setCell (aD (w.heap.size+1+1) 2) (sL a2 n2 c2))):=Nu.setCell HX.o (by simp;omega) _
 have BA:=BA.setOther (g:=w.heap.size+1+1) (by omega) 2 (sL a2 n2 c2)
 have BB:=BB.setOther (g:=w.heap.size+1+1) (by omega) 2 (sL a2 n2 c2)
 have BC:=BC.set 2 (sL a2 n2 c2)
 have hsz:w.heap.size+3<=(w2.setCell (aD (w.heap.size+1+1) 2) (sL a2 n2 c2)).heap.size:=by simp only[World.setCell,Array.size_modify];exact HS.o
 have G0:Z (Q8 (w.heap.size+3) (w2.setCell (aD (w.heap.size+1+1) 2) (sL a2 n2 c2)) (sL a0 n0 c0) N.nodes):=G0.o.keep (Vi _ _ (by omega) _)
 have G1:Z (Jy (w.heap.size+3) (w2.setCell (aD (w.heap.size+1+1) 2) (sL a2 n2 c2)) (sL a1 n1 c1) N.ways):=G1.o.keep (Vi _ _ (by omega) _)
 have G2:Z (Yq (w.heap.size+3) (w2.setCell (aD (w.heap.size+1+1) 2) (sL a2 n2 c2)) (sL a2 n2 c2) N.rels):=G2.o.keep (Vi _ _ (by omega) _)
 clear k0 k1 k2 HS HX
 refine(Q3c B _ N.turns _ (by exact i3.keep (HXX.o.keeps B)) hs.turns).mono ?_
 rintro e w3 ⟨⟨a3,n3,c3,rfl,g3⟩,hu⟩
 have hx:=hu.nx
 have HX:Z (Nu w w3):=HXX.o.trans hu
 clear HXX
 have BA:=BA.next hx
 have BB:=BB.next hx
 have BC:=BC.next hx
 have G3:Z (V5 (w.heap.size+3) w3 (sL a3 n3 c3) N.turns):=g3.base hsz
 have G0:Z (Q8 (w.heap.size+3) w3 (sL a0 n0 c0) N.nodes):=G0.o.keep (hx.keeps _)
 have G1:Z (Jy (w.heap.size+3) w3 (sL a1 n1 c1) N.ways):=G1.o.keep (hx.keeps _)
 have G2:Z (Yq (w.heap.size+3) w3 (sL a2 n2 c2) N.rels):=G2.o.keep (hx.keeps _)
 have hsz:w.heap.size+3<=w3.heap.size:=zP hsz hx.size
 clear hx hu g3
 have k0:=BA.c 4 rfl
 have l0:=BC.c 0 rfl
 have m0:=BB.c 0 rfl
 have f0:=BB.frozen 0
 have l1:=BC.c 1 rfl
 have m1:=BB.c 1 rfl
 have f1:=BB.frozen 1
 have l2:=BC.c 2 rfl
 have m2:=BB.c 2 rfl
 have f2:=BB.frozen 2
 have l3:=BC.c 3 rfl
 have m3:=BB.c 3 rfl
 have f3:=BB.frozen 3
 have l4:=BC.c 4 rfl
 have m4:=BB.c 4 rfl
 have f4:=BB.frozen 4
 have f5:=BC.frozen 3
 have f6:=BC.frozen 4
 go_wp2
 have K7:=((((((Vi (B:=w.heap.size+3) w3 (g:=w.heap.size+1+1) 3 (by omega) (sL a3 n3 c3)).trans (Vi _ (g:=w.heap.size+1+1) 4 (by omega) (iV N.uturn))).trans (Vi _ (g:=w.heap.size+1) 0 (by omega) (sL a0 n0 c0))).trans (Vi _ (g:=w.heap.size+1) 1 (by omega) (sL a1 n1 c1))).trans (Vi _ (g:=w.heap.size+1) 2 (by omega) (sL a2 n2 c2))).trans (Vi _ (g:=w.heap.size+1) 3 (by omega) (sL a3 n3 c3))).trans (Vi _ (g:=w.heap.size+1) 4 (by omega) (iV N.uturn))
 refine bodyPost_ret (v:=.agg #[sL a0 n0 c0,sL a1 n1 c1,sL a2 n2 c2,sL a3 n3 c3,iV N.uturn]) (by simp[results,results6,go_sem,m0,m1,m2,m3,m4]) rfl ⟨⟨a0,n0,c0,a1,n1,c1,a2,n2,c2,a3,n3,c3,rfl,?_,?_,?_,?_⟩,?_⟩
 ·exact(G0.o.keep K7).base (by omega)
 ·exact(G1.o.keep K7).base (by omega)
 ·exact(G2.o.keep K7).base (by omega)
 ·exact(G3.o.keep K7).base (by omega)
 ·exact Nu.setCell (Nu.setCell (Nu.setCell (Nu.setCell (Nu.setCell (Nu.setCell (Nu.setCell HX.o (by simp;omega) _) (by simp;omega) _) (by simp) _) (by simp) _) (by simp) _) (by simp) _) (by simp) _
end Go.Proofs.YtahpodmokbdjeaaGreatDoor
namespace Go.Proofs.YtahpodmokbdjeaaGreatDoor
open Go.RowKit Go.Sort
set_option linter.unusedVariables false
set_option maxRecDepth 1000000
set_option maxHeartbeats 16000000
def Vd (ts:List Tn)(a b:Int):Nat->Int
 |0=>0
 |k+1=>Vd ts a b k+if (tat ts k).frm=a/\(tat ts k).to=b then (tat ts k).cost else 0
def Xc (N:Nt)(es:List Eg)(e:Nat):Int:=(wat N.ways (eat es e).way.toNat).id
def Ym (N:Nt)(es:List Eg)(e f:Nat):Int:=Vd N.turns (Xc N es e) (Xc N es f) N.turns.length+if (eat es e).twin=(f:Int) then N.uturn else 0
end Go.Proofs.YtahpodmokbdjeaaGreatDoor
namespace Go.Proofs.YtahpodmokbdjeaaGreatDoor
open Go.RowKit Go.Sort Tryz
set_option linter.unusedVariables false
set_option maxRecDepth 1000000
set_option maxHeartbeats 16000000
structure Wc (N:Nt)(es:List Eg):Prop where
 way:∀e,e<es.length->∃i:Nat,i<N.ways.length/\(eat es e).way=i
 cost:∀i,i<N.turns.length->0<=(tat N.turns i).cost/\(tat N.turns i).cost<=1048576
 turns:N.turns.length<=2000
 uturn:0<=N.uturn/\N.uturn<=1048576
 weight:∀e,e<es.length->0<=(eat es e).weight/\(eat es e).weight<=1048576
theorem Io {N:Nt}{es:List Eg}(h:Wc N es)(a b:Int):∀k,k<=N.turns.length->0<=Vd N.turns a b k/\Vd N.turns a b k<=1048576*k
 |0,_=>by simp[Vd]
 |k+1,hk=>by
  have h1:=Io h a b k (by omega)
  have h2:=h.cost k (by omega)
  unfold Vd
  split<;>omega
theorem Q3b {N:Nt}{es:List Eg}(h:Wc N es)(e f:Nat):0<=Ym N es e f/\Ym N es e f<=3000000000:=by
 have h1:=Io h (Xc N es e) (Xc N es f) N.turns.length lR
 have h2:=h.uturn
 have h3:=h.turns
 unfold Ym
 split<;>omega
theorem Et (B0 B:Nat)(n0 n1 n2 n3:Value)(N:Nt)(v0 v1 v2 v3:Value)(R:Rd)(e f:Nat)(w:World)(hN:Ye B0 w n0 n1 n2 n3 N)(hR:Zq B w v0 v1 v2 v3 R)(hc:Wc N R.edges)(he:e<R.edges.length)(hf:f<R.edges.length) :
  Calls prog 25 #[.agg #[n0,n1,n2,n3,iV N.uturn],.agg #[v0,v1,v2,v3],iV (e:Int),iV (f:Int)] w λr w'=>r=.returned (iV (Ym N R.edges e f))/\Nx w w':=by
 have HC:Z (Wc N R.edges):=hc
 have HN:Z (Ye B0 w n0 n1 n2 n3 N):=hN
 have HR:Z (Zq B w v0 v1 v2 v3 R):=hR
 obtain⟨i,hi,hwi⟩:=hc.way e he
 obtain⟨j,hj,hwj⟩:=hc.way f hf
 have HWE:Z (Xc N R.edges e=(wat N.ways i).id):=by unfold Z Xc;rw[hwi];rfl
 have HWF:Z (Xc N R.edges f=(wat N.ways j).id):=by unfold Z Xc;rw[hwj];rfl
 obtain⟨a1,q1,e1,m1,k1⟩:=hN.2.1
 obtain⟨b1,o1,ea1,_,_,c1⟩:=k1 (by omega)
 obtain⟨a3,q3,e3,m3,k3⟩:=hN.2.2.2
 obtain⟨r1,s1,f1,p1,t1⟩:=hR.2.1
 obtain⟨rb,ro,fa1,_,_,ce⟩:=t1 (by omega)
 subst ea1 fa1
 obtain⟨_,_,x0,_⟩:=c1 i hi
 obtain⟨_,_,x1,_⟩:=c1 j hj
 obtain⟨_,_,_,y0,_,_,y1⟩:=ce e he
 obtain⟨_,_,_,z0,_,_,_⟩:=ce f hf
 rw[hwi] at y0
 rw[hwj] at z0
 unfold maxLen at m1 m3 p1
 generalize hn1:N.ways.length=l1 at *
 generalize hn3:N.turns.length=l3 at *
 generalize hre:R.edges.length=le at *
 have HN3:Z (N.turns.length=l3):=hn3
 have HTL:Z (∀k,k<=l3->0<=Vd N.turns (wat N.ways i).id (wat N.ways j).id k/\Vd N.turns (wat N.ways i).id (wat N.ways j).id k<=1048576*k):=λk hk=>Io HC.o _ _ k (by rw[HN3.o];exact hk)
 have hl3:l3<=2000:=by have:=HC.o.turns;rw[HN3.o] at this;exact this
 have hut:=HC.o.uturn
 subst e1 e3 f1
 have h3:(e:Int)<le:=by omega
 have h4:(f:Int)<le:=by omega
 have h5:(i:Int)<l1:=by omega
 have h6:(j:Int)<l1:=by omega
 clear hN hR hc k1 c1 t1 ce hwi hwj hn1 hn3 hre
 generalize hWA:(w.alloc (.cells #[n0,sL (some (aD b1 o1)) l1 q1,n2,sL a3 l3 q3,iV N.uturn] 38)).alloc (.cells #[v0,sL (some (aD rb ro)) le s1,v2,v3] 52)=wA
 have HXA:Z (Nx w wA):=by rw[<-hWA];exact(Q4 _ _).trans (Q4 _ _)
 have HBN:Z (BT wA w.heap.size #[n0,sL (some (aD b1 o1)) l1 q1,n2,sL a3 l3 q3,iV N.uturn] 38):=by rw[<-hWA];exact(BT.new w _ _ _ rfl).alloc _
 have HBR:Z (BT wA (w.heap.size+1) #[v0,sL (some (aD rb ro)) le s1,v2,v3] 52):=by rw[<-hWA];exact BT.new _ _ _ _ (by simp)
 have HX0:Z (w.cell? (aD b1 (o1+i*4))=some (iV (wat N.ways i).id)):=x0
 have HX1:Z (w.cell? (aD b1 (o1+j*4))=some (iV (wat N.ways j).id)):=x1
 have HY0:Z (w.cell? (aD rb (ro+e*7+3))=some (iV (i:Int))):=y0
 have HY1:Z (w.cell? (aD rb (ro+e*7+6))=some (iV (eat R.edges e).twin)):=y1
 have HZ0:Z (w.cell? (aD rb (ro+f*7+3))=some (iV (j:Int))):=z0
 generalize (wat N.ways i).id=ide at *
 generalize (wat N.ways j).id=idf at *
 clear x0 x1 y0 y1 z0
 go_enter func25,ntmps25
 go_wp2
 try rw[hWA]
 generalize hbR:w.heap.size+1=bR at *
 clear hWA hbR
 go_loopw [9,10] (λc i wr=>∃k:Nat,k<=l3/\i=iV k/\c=iV (Vd N.turns ide idf k)/\Z (Nx wA wr)) (λ_ i _=>l3-(intOf i).toNat)
 case atStart=>exact⟨0,nZ,rfl,rfl,Nx.refl _⟩
 obtain⟨k,hkl,rfl,rfl,HX⟩:=hrel
 have hck:=HTL.o k hkl
 have HXW:Z (Nx w wr):=HXA.o.trans HX.o
 by_cases hlt:k<l3
 ·obtain⟨tb,tof,rfl,_,_,ct⟩:=k3 (by omega)
  obtain⟨t0,t1,t2⟩:=ct k hlt
  have HST:Z (Vd N.turns ide idf (k+1)=Vd N.turns ide idf k+if (tat N.turns k).frm=ide/\(tat N.turns k).to=idf then (tat N.turns k).cost else 0):=rfl
  have hcb:=HC.o.cost k (by rw[HN3.o];exact hlt)
  have u0:=Q1 HXW.o t0
  have u1:=Q1 HXW.o t1
  have u2:=Q1 HXW.o t2
  have w0:=Q1 HXW.o HX0.o
  have w1:=Q1 HXW.o HX1.o
  have w2:=Q1 HXW.o HY0.o
  have w3:=Q1 HXW.o HZ0.o
  have n1c:=(HBN.o.next HX.o).c 1 rfl
  have n3c:=(HBN.o.next HX.o).c 3 rfl
  have r1c:=(HBR.o.next HX.o).c 1 rfl
  generalize (tat N.turns k).frm=tf at *
  generalize (tat N.turns k).to=tt at *
  generalize (tat N.turns k).cost=tc at *
  generalize Vd N.turns ide idf k=ck at *
  have hlt':(k:Int)<l3:=by omega
  clear ct t0 t1 t2
  by_cases hA:tf=ide
  ·have gA:(tf==ide)=true:=by simpa using hA
   by_cases hB:tt=idf
   ·have gB:(tt==idf)=true:=by simpa using hB
    have HS:Z (Vd N.turns ide idf (k+1)=ck+tc):=by unfold Z;rw[HST.o,if_pos ⟨hA,hB⟩]
    clear hA hB
    go_wp2
    go_quiet (fail)
    have HDQ:Z (Nx wr (wr.drewN nq)):=Va _ _
    generalize wr.drewN nq=wq at *
    have d2:=Q1 HDQ.o u2
    have d3:=Q1 HDQ.o n3c
    clear u0 u1 u2 w0 w1 w2 w3 n1c n3c r1c
    go_wp2
    go_roundw
    case rel=>exact⟨k+1,by omega,by go_num,by rw[HS.o],HX.o.trans HDQ.o⟩
    case measure=>simp[intOf];omega
   ·have gB:(tt==idf)=false:=by simpa using hB
    have HS:Z (Vd N.turns ide idf (k+1)=ck):=by unfold Z;rw[HST.o,if_neg (λh=>hB h.2)];omega
    clear hA hB
    go_wp2
    go_quiet (fail)
    have HDQ:Z (Nx wr (wr.drewN nq)):=Va _ _
    generalize wr.drewN nq=wq at *
    clear u0 u1 u2 w0 w1 w2 w3 n1c n3c r1c
    go_wp2
    go_roundw
    case rel=>exact⟨k+1,by omega,by go_num,by rw[HS.o],HX.o.trans HDQ.o⟩
    case measure=>simp[intOf];omega
  ·have gA:(tf==ide)=false:=by simpa using hA
   have HS:Z (Vd N.turns ide idf (k+1)=ck):=by unfold Z;rw[HST.o,if_neg (λh=>hA h.1)];omega
   clear hA
   go_wp2
   go_quiet (fail)
   have HDQ:Z (Nx wr (wr.drewN nq)):=Va _ _
   generalize wr.drewN nq=wq at *
   clear u0 u1 u2 w0 w1 w2 w3 n1c n3c r1c
   go_wp2
   go_roundw
   case rel=>exact⟨k+1,by omega,by go_num,by rw[HS.o],HX.o.trans HDQ.o⟩
   case measure=>simp[intOf];omega
 ·have ek:k=l3:=by omega
  subst ek
  have HT:Z (Ym N R.edges e f=Vd N.turns ide idf k+if (eat R.edges e).twin=(f:Int) then N.uturn else 0):=by unfold Z Ym;rw[HWE.o,HWF.o,HN3.o]
  have y1:=Q1 HXW.o HY1.o
  have r1c:=(HBR.o.next HX.o).c 1 rfl
  have n4c:=(HBN.o.next HX.o).c 4 rfl
  have n3c:=(HBN.o.next HX.o).c 3 rfl
  generalize Vd N.turns ide idf k=ck at *
  generalize (eat R.edges e).twin=tw at *
  by_cases hA:tw=(f:Int)
  ·have gA:(tw==(f:Int))=true:=by simpa using hA
   have HS:Z (Ym N R.edges e f=ck+N.uturn):=by unfold Z;rw[HT.o,if_pos hA]
   clear hA
   go_wp2
   go_ret
   exact⟨by rw[HS.o];rfl,HXW.o⟩
  ·have gA:(tw==(f:Int))=false:=by simpa using hA
   have HS:Z (Ym N R.edges e f=ck):=by unfold Z;rw[HT.o,if_neg hA];omega
   clear hA
   go_wp2
   go_ret
   exact⟨by rw[HS.o];rfl,HXW.o⟩
end Go.Proofs.YtahpodmokbdjeaaGreatDoor
namespace Go.Proofs.YtahpodmokbdjeaaGreatDoor
open Go.RowKit Go.Sort
set_option linter.unusedVariables false
set_option maxRecDepth 1000000
set_option maxHeartbeats 16000000
theorem Pj {N:Nt}(hv:Qe N=true):Wc N (E1 N):=by
 have h:=hv
 simp only[Qe,U8,zH,decide_eq_true_eq] at h
 obtain⟨⟨c0,c1,ed,c2,c3⟩,hu,⟨ha,hn⟩,⟨hw,_⟩,⟨hr,_⟩,ht,_⟩:=h
 have hin:∀{v:Int},inB v=true->0<=v/\v<=1048576:=λh=>by simpa [inB] using h
 have hwt:∀i j,i<N.ways.length->j<(wat N.ways i).weights.length->0<=iat (wat N.ways i).weights j/\iat (wat N.ways i).weights j<=1048576:=λi j hi hj=>by
  have:=Yj hw hi
  simp only[Qu,zH] at this
  exact hin (Yj this.1.2 hj)
 have hpl:∀e,e<(E1 N).length->∃i j:Nat,i<N.ways.length/\j<(wat N.ways i).weights.length/\(eat (E1 N) e).way=i/\(eat (E1 N) e).weight=iat (wat N.ways i).weights j:=λe he=>by
  rw[Wb] at he
  obtain⟨i,j,q,hi,hj,hq,he1⟩:=Tw N.ways.length he
  obtain⟨_,a1⟩:=Yb hi hj hq
  rw[<-he1] at a1
  refine⟨i,j,hi,hj,?_,?_⟩
  ·rw[a1];split
   ·rfl
   ·split<;>rfl
  ·rw[a1];split
   ·rfl
   ·split<;>rfl
 refine⟨λe he=>?_,λi hi=>?_,c3,hin hu,λe he=>?_⟩
 ·obtain⟨i,j,hi,_,h1,_⟩:=hpl e he
  exact⟨i,hi,h1⟩
 ·have:=Yj ht hi
  simp only[Y3,zH] at this
  exact hin this.2.2
 ·obtain⟨i,j,hi,hj,_,h2⟩:=hpl e he
  rw[h2]
  exact hwt i j hi hj
end Go.Proofs.YtahpodmokbdjeaaGreatDoor
