import Derived.Test.YthhbdfiopjclcaaGreatDoorLK
import Derived.Test.YthhbdfiopjclcaaGreatDoorShAI
import Derived.Lib.AppendIntMem
import Derived.Lib.ItoaLen
import Derived.Lib.OthersKept
import Derived.DeepKeys4
import Derived.Laws.BytesArg
import Derived.Laws.IdiomStrings
import Derived.Laws.IdiomMaps
namespace Go.Proofs.YthhbdfiopjclcaaGreatDoor
open Go.RowKit Go.Sort Go.Maps Go.Shelf
set_option linter.unusedVariables false
set_option maxRecDepth 1000000
set_option maxHeartbeats 16000000
theorem infoByte:(Tryz.prog.info? 5).map (λi=>(i.zero,i.size,i.bytes))=some (some (.int .u8 0),1,1):=by kernel_rfl
def Own (B:Nat)(w:World)(v:Value)(bs:List UInt8):Prop:=w.ownsRow B 5 1 v bs.length (Lib.byteCells bs)
def Gx (B:Nat)(w w':World):Prop:=Below B w w'/\Lib.OthersKept 5 none w w'
theorem Gx.refl (B:Nat)(w:World):Gx B w w:=⟨Below.refl _ _,Lib.OthersKept.refl _ _ _⟩
theorem Gx.trans {B:Nat}{a b c:World}(h:Gx B a b)(k:Gx B b c):Gx B a c:=⟨h.1.trans k.1,h.2.trans k.2⟩
theorem Gx.alloc {B:Nat}{a w:World}(h:Gx B a w)(hB:B<=w.heap.size)(o:Obj):Gx B a (w.alloc o):=⟨h.1.alloc hB o,h.2.alloc o⟩
theorem own_row {B:Nat}{w:World}{v:Value}{bs:List UInt8}(h:Own B w v bs):∀g,v.ownBlock=some g->∃c fz,w.heap[g]?=some (.cells c 5 fz):=by
 intro g hg
 rcases h.2 with⟨rfl,_⟩|⟨g',cap,cur,rfl,_,hh,_⟩
 ·simp[Value.ownBlock] at hg
 ·simp[Value.ownBlock] at hg;subst hg;exact⟨_,_,hh⟩
theorem Gx.grown {B:Nat}{a w w':World}{v:Value}{bs:List UInt8}(h:Gx B a w)(hown:Own B w v bs)(hg:w.grownBy w' v.ownBlock)(hB:B<=w.heap.size):Gx B a w':=by
 refine⟨h.1.grown hg hB (λk hk=>(hown.lt k hk).1),h.2.trans ?_⟩
 intro k o hk hb ho
 have hlt:k<w.heap.size:=(Array.getElem?_eq_some_iff.1 hk).1
 rw[hg.block k hlt (λe=>by
  obtain⟨c,fz,hh⟩:=own_row hown k e.symm
  rw[hk] at hh
  exact ho c fz (by simpa using hh))]
 exact hk
theorem Own.alloc {B:Nat}{w:World}{v:Value}{bs:List UInt8}(h:Own B w v bs)(o:Obj):Own B (w.alloc o) v bs:=World.ownsRow.alloc h o
theorem Own.snoc {B:Nat}{w:World}{v:Value}{bs:List UInt8}{b:UInt8}(h:w.ownsRow B 5 1 v (bs.length+1) (Lib.byteCells bs++[.int .u8 (b.toNat:Int)])):Own B w v (bs++[b]):=by
 unfold Own
 rw[List.length_append,Lib.byteCells_append]
 exact h
theorem dec_len (k:Nat):∀n,n<10 ^ (k+1)->(Lib.decDigits n).length<=k+1:=by
 induction k with
 |zero=>intro n hn;rw[Lib.decDigits,dif_pos (by simpa using hn)];simp
 |succ k ih=>
  intro n hn
  rw[Lib.decDigits]
  by_cases h:n<10
  ·rw[dif_pos h];simp
  ·rw[dif_neg h,List.length_append]
   have:=ih (n/10) (by rw[Nat.pow_succ] at hn;omega)
   simp;omega
def Yu (zs:List Int):Nat->List UInt8
 |0=>[]
 |k+1=>Yu zs k++(32::Lib.decDigits (iat zs k).toNat)
def small (zs:List Int):Prop:=∀i,i<zs.length->0<=iat zs i/\iat zs i<=1048576
theorem numsTo_len {zs:List Int}(h:small zs)(k:Nat)(hk:k<=zs.length):(Yu zs k).length<=8*k:=by
 induction k with
 |zero=>simp[Yu]
 |succ k ih=>
  have h1:=ih (by omega)
  have h2:(Lib.decDigits (iat zs k).toNat).length<=7:=dec_len 6 _ (by have:=h k (by omega);omega)
  simp only[Yu,List.length_append,List.length_cons]
  omega
def Tab (B:Nat)(w:World):Prop:=Lib.TabBelow Tryz.prog B w "internal/strconv.uint64pow10" .u64 Lib.pow10Tab
theorem itoa_dec {x:Int}(h:0<=x):Lib.itoa x=Lib.decDigits x.toNat:=by unfold Lib.itoa;rw[if_neg (by omega)]
theorem appendInt10 (B n:Nat)(i:Int)(h0:-9223372036854775808<=i)(h1:i<=9223372036854775807)(sv:Value)(xs:List Value)(w:World)(hown:w.ownsRow B 5 1 sv n xs)(hBw:B<=w.heap.size)(hlim:n+21<=140737488355328)
  (htab:Lib.TabBelow Tryz.prog B w "internal/strconv.uint64pow10" .u64 Lib.pow10Tab) :
  Calls Tryz.prog 71 #[sv,.int .i64 i,.int .i64 10] w λe w'=>∃v',e=.returned v'/\w'.ownsRow B 5 1 v' (n+(Lib.itoa i).length) (xs++Lib.byteCells (Lib.itoa i))/\RowKit.Below B w w'/\Lib.OthersKept 5 none w w':=Any.strconv_AppendInt_10 Tryz.laysAI B n i h0 h1 sv xs w hown hBw hlim htab
theorem appN_any (vz:Value)(zs:List Int)(w:World)(hz:Qo 0 w vz zs)(hzl:zs.length<=40000)(hsm:small zs)(ht:Tab w.heap.size w) :
  Calls Tryz.prog 39 #[.slice none 0 0,vz] w λe w'=>(∃v',e=.returned v'/\Own w.heap.size w' v' (Yu zs zs.length))/\Nx w w':=by
 obtain⟨i0,hi,hz0,hz1,hz2⟩:=info_parts infoByte
 have HZN:Hid (Qo 0 w vz zs):=hz
 have HSM:Hid (small zs):=hsm
 have HT:Hid (Tab w.heap.size w):=ht
 have HNL:Hid (∀k,k<=zs.length->(Yu zs k).length<=8*k):=λk hk=>numsTo_len hsm k hk
 obtain⟨a,cap,rfl,hn,_⟩:=hz
 generalize hzn:zs.length=n at *
 have HZ:Hid (zs.length=n):=hzn
 clear hzn hsm ht
 go_enter Tryz.func39,Tryz.ntmps39
 go_wp2
 go_loopw [0,6,9] (λo x i wr=>∃k:Nat,k<=n/\i=.int .i64 k/\Hid (Own w.heap.size wr o (Yu zs k))/\Hid (Gx w.heap.size w wr)) (λ_ _ i _=>n-(intOf i).toNat)
 case atStart=>exact⟨0,Nat.zero_le _,rfl,⟨rfl,Or.inl ⟨rfl,rfl⟩⟩,Gx.refl _ _⟩
 case round=>
  obtain⟨k,hkn,rfl,HO,HG⟩:=hrel
  have HB:Hid (w.heap.size<=wr.heap.size):=HG.out.1.size
  have HLL:Hid ((Yu zs k).length<=320000):=by have:=HNL.out k hkn;unfold Hid;omega
  by_cases hlt:k<n
  ·obtain⟨a',cap',e',_,hk'⟩:=HZN.out.next (show Nx w wr from HG.out.1)
   simp at e'
   obtain⟨ea,en,ec⟩:=e'
   clear en
   obtain⟨b,off,hab,_,hb,hc⟩:=hk' (by rw[HZ.out];omega)
   have hcc:=hc k (by rw[HZ.out];exact hlt)
   rw[<-ea] at hab
   subst hab
   clear hc hk' ea ec
   have hlt':(k:Int)<n:=by omega
   have hv:=HSM.out k (by rw[HZ.out];exact hlt)
   go_wp2_with (at_builtin;refine wpList_append_own _ rfl _ _ 22 rfl w.heap.size 5 i0 (.int .u8 0) 1 1 Tryz.underlying22 hi hz0 hz1 hz2 rfl (by decide) _ _ _ rfl (HO.out.alloc _) ⟨wr.heap.size,0,none⟩ 1 1 [Value.int .u8 ((32:UInt8).toNat:Int)] rfl rfl ?c1 ?c2 ?c3 ?c4 ?c5 ?_)
   case c1=>
    intro j u hj
    match j,hj with
    |0,hj=>simp at hj;subst hj;simp[Addr.add]
   case c2=>intro u hu;simp at hu;subst hu;rfl
   case c3=>have:=HLL.out;unfold maxLen;omega
   case c4=>have:=HLL.out;omega
   case c5=>have:=HB.out;simp;omega
   ·intro v1 w1 hown' hgrow _
    have HO1:Hid (Own w.heap.size w1 v1 (Yu zs k++[32])):=Own.snoc (by simpa using hown')
    have HG1:Hid (Gx w.heap.size w w1):=(HG.out.alloc HB.out _).grown (HO.out.alloc _) hgrow (by have:=HB.out;simp;omega)
    have HB1:Hid (w.heap.size<=w1.heap.size):=HG1.out.1.size
    clear hown' hgrow
    go_wp2_with fail
    refine(appendInt10 w.heap.size _ _ (by omega) (by omega) _ _ _ HO1.out HB1.out (by have:=HLL.out;simp only[List.length_append,List.length_cons,List.length_nil] at this ⊢;omega) (HT.out.on HG1.out.1)).mono ?_
    rintro e w2 ⟨v2,rfl,ho,hbl,hok⟩
    have HO2:Hid (Own w.heap.size w2 v2 (Yu zs (k+1))):=by
     unfold Hid Own
     rw[itoa_dec hv.1,<-Lib.byteCells_append,<-List.length_append] at ho
     simp only[List.append_assoc,List.cons_append,List.nil_append] at ho
     exact ho
    have HG2:Hid (Gx w.heap.size w w2):=HG1.out.trans ⟨hbl,hok⟩
    clear ho hbl hok
    go_wp2
    go_roundw
    case rel=>exact⟨k+1,by omega,by go_num,HO2,HG2⟩
    case measure=>simp[intOf];omega
  ·have ek:n=k:=by omega
   subst ek
   go_wp2
   go_ret
   exact⟨⟨_,rfl,HO.out⟩,HG.out.1⟩
theorem Own.conv {B:Nat}{w:World}{v:Value}{bs:List UInt8}(h:Own B w v bs):(convert 22 9 v).run Tryz.prog w=.ok (.string ⟨bs.toArray⟩) w:=by
 obtain⟨h1,h2⟩:=h
 rcases h2 with⟨rfl,h3⟩|⟨g,cap,cur,rfl,hg,hh,hc,hm,hs,ht⟩
 ·have e:bs=[]:=List.length_eq_zero_iff.1 h3
  subst e
  exact run_convert_bytes_nil (P:=Tryz.prog) w 22 5 Tryz.underlying22 Tryz.underlying5 0 0 9 Tryz.underlying9
 ·refine run_convert_bytes_back (P:=Tryz.prog) w 22 9 5 ⟨g,0,none⟩ cap bs Tryz.underlying22 Tryz.underlying5 Tryz.underlying9 (λj hj=>?_)
  rw[add_at,Nat.zero_add]
  have e1:(cur.toList.take (bs.length*1))[j]?=(Lib.byteCells bs)[j]?:=by rw[ht]
  rw[List.getElem?_take_of_lt (by omega),Array.getElem?_toList] at e1
  simp only[World.cell?,hh,e1,Lib.byteCells,List.getElem?_map,List.getElem?_eq_getElem hj]
  rfl
def txt (l:List Nat):List UInt8:=l.flatMap λn=>32::Lib.decDigits n
theorem numsTo_txt (l:List Nat):∀k,k<=l.length->Yu (Qd l) k=txt (l.take k)
 |0,_=>by simp[Yu,txt]
 |k+1,hk=>by
  have hlt:k<l.length:=by omega
  unfold Yu
  rw[numsTo_txt l k (by omega),List.take_succ_eq_append_getElem hlt]
  unfold txt
  rw[List.flatMap_append]
  simp[iat,Qd,List.getD_eq_getElem?_getD,hlt]
theorem dec_digit (n:Nat):∀x∈Lib.decDigits n,x≠32:=by
 induction n using Nat.strongRecOn with
 |ind n ih=>
  intro x hx
  rw[Lib.decDigits] at hx
  by_cases h:n<10
  ·rw[dif_pos h] at hx
   have:x=UInt8.ofNat (48+n):=by simpa using hx
   subst this
   intro e
   have:=congrArg UInt8.toNat e
   simp at this
   omega
  ·rw[dif_neg h] at hx
   rcases List.mem_append.1 hx with g|g
   ·exact ih (n/10) (by omega) x g
   ·have:x=UInt8.ofNat (48+n%10):=by simpa using g
    subst this
    intro e
    have:=congrArg UInt8.toNat e
    simp at this
    omega
theorem dec_ne (n:Nat):Lib.decDigits n≠[]:=by
 rw[Lib.decDigits]
 split<;>simp
theorem dig_inj {a b:Nat}(ha:a<10)(hb:b<10)(h:UInt8.ofNat (48+a)=UInt8.ofNat (48+b)):a=b:=by
 have:=congrArg UInt8.toNat h
 simp at this
 omega
theorem dec_lt {n:Nat}(h:n<10):Lib.decDigits n=[UInt8.ofNat (48+n)]:=by rw[Lib.decDigits,dif_pos h]
theorem dec_ge {n:Nat}(h:¬n<10):Lib.decDigits n=Lib.decDigits (n/10)++[UInt8.ofNat (48+n%10)]:=by rw[Lib.decDigits,dif_neg h]
theorem dec_inj:∀(n m:Nat),Lib.decDigits n=Lib.decDigits m->n=m:=by
 intro n
 induction n using Nat.strongRecOn with
 |ind n ih=>
  intro m h
  by_cases hn:n<10
  ·rw[dec_lt hn] at h
   by_cases hm:m<10
   ·rw[dec_lt hm] at h
    exact dig_inj hn hm (by simpa using h)
   ·rw[dec_ge hm] at h
    have:=congrArg List.length h
    have hp:0<(Lib.decDigits (m/10)).length:=List.length_pos_iff.2 (dec_ne _)
    simp only[List.length_append,List.length_cons,List.length_nil] at this
    omega
  ·rw[dec_ge hn] at h
   by_cases hm:m<10
   ·rw[dec_lt hm] at h
    have:=congrArg List.length h
    have hp:0<(Lib.decDigits (n/10)).length:=List.length_pos_iff.2 (dec_ne _)
    simp only[List.length_append,List.length_cons,List.length_nil] at this
    omega
   ·rw[dec_ge hm] at h
    obtain⟨h1,h2⟩:=List.append_inj' h rfl
    have e1:=ih (n/10) (by omega) (m/10) h1
    have e2:=dig_inj (Nat.mod_lt n (by omega)) (Nat.mod_lt m (by omega)) (by simpa using h2)
    omega
theorem txt_head (l:List Nat):∀x,(txt l).head?=some x->x=32:=by
 intro x hx
 cases l with
 |nil=>simp[txt] at hx
 |cons a l=>simp[txt] at hx;exact hx.symm
theorem take_dec (n:Nat)(r:List UInt8)(hr:∀x,r.head?=some x->x=32):(Lib.decDigits n++r).takeWhile (· !=32)=Lib.decDigits n:=by
 rw[List.takeWhile_append_of_pos (λx hx=>by simpa using dec_digit n x hx)]
 cases r with
 |nil=>simp
 |cons x r=>
  have:=hr x rfl
  subst this
  simp
theorem txt_inj:∀(l m:List Nat),txt l=txt m->l=m
 |[],[],_=>rfl
 |[],b::m,h=>by simp[txt] at h
 |a::l,[],h=>by simp[txt] at h
 |a::l,b::m,h=>by
  have h':Lib.decDigits a++txt l=Lib.decDigits b++txt m:=by
   have:(32::(Lib.decDigits a++txt l):List UInt8)=32::(Lib.decDigits b++txt m):=by simpa [txt] using h
   simpa using this
  have e1:Lib.decDigits a=Lib.decDigits b:=by
   rw[<-take_dec a (txt l) (txt_head l),<-take_dec b (txt m) (txt_head m),h']
  have e2:txt l=txt m:=by
   rw[e1] at h'
   exact List.append_cancel_left h'
  rw[dec_inj a b e1,txt_inj l m e2]
theorem laidOut:laidOutB Tryz.prog=true:=by kernel_rfl
theorem rn_row:(94:TypeId)<Tryz.prog.types.size:=of_decide_eq_true (by kernel_rfl)
theorem rn_wide:(match Tryz.prog.underlying 94 with|some (.array _ _)|some (.struct _)=>true|_=>false)=true:=by rw[Tryz.underlying94]
theorem rn_law:WideMaps.KeyLaw Tryz.prog 94:=deep_law_laid laidOut (m:=3) (by omega) rn_row (by kernel_rfl) rn_wide
def rkey (b:Bool)(bs:List UInt8):Value:=.agg #[.bool b,.string ⟨bs.toArray⟩]
theorem rkey_inj {b c:Bool}{x y:List UInt8}(h:rkey b x=rkey c y):b=c/\x=y:=by
 unfold rkey at h
 simpa using h
theorem rkey_ok (b:Bool)(bs:List UInt8)(hs:bs.length<=1000000):∃l,keyOf Tryz.prog 94 (rkey b bs)=some l:=by
 have hk:Tryz.prog.keyType 94=true:=by kernel_rfl
 have hc:Tryz.prog.cellsOf 94=2:=by kernel_rfl
 have hc1:Tryz.prog.cellsOf 4=1:=by kernel_rfl
 have hc2:Tryz.prog.cellsOf 9=1:=by kernel_rfl
 have hf:(rkey b bs).formed Tryz.prog 94=true:=by simp[rkey,Value.formed,Tryz.underlying94,hc]
 have hsz:(⟨bs.toArray⟩:ByteArray).size<=maxLen:=by
  show bs.toArray.size<=maxLen
  simp[maxLen]
  omega
 unfold keyOf
 rw[Tryz.underlying94]
 simp only[hk,hf,Bool.and_self,if_true]
 have hts:0<Tryz.prog.types.size:=Nat.lt_of_le_of_lt (Nat.zero_le _) rn_row
 obtain⟨n,hn⟩:∃n,Tryz.prog.types.size=n+1:=⟨Tryz.prog.types.size-1,by omega⟩
 have k1:Tryz.prog.keyLits (n+1) 4 [.bool b]=some [.bool b]:=by simp[Program.keyLits,Tryz.underlying4]
 have k2:Tryz.prog.keyLits (n+1) 9 [.string ⟨bs.toArray⟩]=some [.string bs]:=by simp[Program.keyLits,Tryz.underlying9,hsz]
 rw[hn]
 unfold Program.keyLits
 rw[Tryz.underlying94]
 refine⟨.string (keyBytes [.bool b,.string bs]),?_⟩
 simp[rkey,Value.cells,hc,hc1,hc2,k1,k2]
def Xo (w:World)(b:Nat)(ks:List Value):Prop:=∃es clock,w.heap[b]?=some (.map es clock)/\es.toList.map (·.key)=ks/\ks.length<=1000/\∀k∈ks,∃l,keyOf Tryz.prog 94 k=some l
theorem Xo.new (w:World)(n:Nat)(hn:n=w.heap.size):Xo (w.alloc (.map #[] 0)) n []:=by
 subst hn
 exact⟨#[],0,by show(w.heap.push _)[w.heap.size]?=_;simp,rfl,by simp,λk hk=>by simp at hk⟩
theorem Xo.ck {X K:Nat->Prop}{A B:World}{b:Nat}{ks:List Value}(h:Xo A b ks)(c:Ck X K A B)(hx:¬X b):Xo B b ks:=by
 obtain⟨es,clock,h1,r⟩:=h
 exact⟨es,clock,c.block b _ h1 hx (Or.inr rfl),r⟩
theorem Xo.lt {w:World}{b:Nat}{ks:List Value}(h:Xo w b ks):b<w.heap.size:=by
 obtain⟨es,clock,h1,r⟩:=h
 exact(Array.getElem?_eq_some_iff.1 h1).1
theorem Xo.look {w:World}{b:Nat}{ks:List Value}(h:Xo w b ks){key:Value}{l:Lit}(hkey:keyOf Tryz.prog 94 key=some l):∃v bb,(Instr.lookup 86 (.map (some b)) key true).run Tryz.prog w=.ok (.tuple #[v,.bool bb]) w/\(bb=true↔key∈ks):=by
 obtain⟨es,clock,hb,rfl,hl,hk⟩:=h
 have hz:(zeroValue 2).run Tryz.prog w=.ok (.int .i64 0) w:=by kernel_rfl
 rcases rn_law.find w hkey es.toList (λe he=>hk e.key (List.mem_map.2 ⟨e,he,rfl⟩)) with⟨h1,h2⟩|⟨j,e0,h1,h2,h3⟩
 ·refine⟨.int .i64 0,false,by simp[Instr.lookup,run_underlying Tryz.underlying86,MapKept.run_getObj_map hb,rn_law.check w _ hkey,h1,hz,Result.andThen],?_⟩
  constructor
  ·intro e;cases e
  ·intro hm
   obtain⟨x,hx,rfl⟩:=List.mem_map.1 hm
   exact absurd rfl (h2 x hx)
 ·refine⟨e0.val,true,by simp[Instr.lookup,run_underlying Tryz.underlying86,MapKept.run_getObj_map hb,rn_law.check w _ hkey,h1,Result.andThen],?_⟩
  exact⟨λ_=>List.mem_map.2 ⟨e0,List.mem_of_getElem? h2,h3⟩,λ_=>rfl⟩
theorem Xo.put {w:World}{b:Nat}{ks:List Value}(h:Xo w b ks){key val:Value}{l:Lit}(hkey:keyOf Tryz.prog 94 key=some l)(hno:key∉ks)(hn:ks.length<1000):∃w',(Instr.mapUpdate 86 (.map (some b)) key val).run Tryz.prog w=.ok () w'/\Xo w' b (ks++[key])/\Chg (λx=>x=b) w w':=by
 obtain⟨es,clock,hb,rfl,hl,hk⟩:=h
 rcases rn_law.find w hkey es.toList (λe he=>hk e.key (List.mem_map.2 ⟨e,he,rfl⟩)) with⟨h1,h2⟩|⟨j,e0,h1,h2,h3⟩
 ·refine⟨ChangeMaps.setBlock w b (.map (es.push ⟨key,val,clock⟩) (clock+1)),by simp[Instr.mapUpdate,run_underlying Tryz.underlying86,MapKept.run_getObj_map hb,rn_law.check w false hkey,h1,MapKept.run_setObj_map _ hb,Result.andThen,ChangeMaps.setBlock],⟨_,_,ChangeMaps.heap_setBlock_same hb _,by simp,by simp at hn ⊢;omega,λk hm=>?_⟩,⟨rfl,rfl,rfl,by simp[ChangeMaps.setBlock],λi _ hi=>ChangeMaps.heap_setBlock_other hb _ hi⟩⟩
  rcases List.mem_append.1 hm with g|g
  ·exact hk k g
  ·have:k=key:=by simpa using g
   subst this
   exact⟨l,hkey⟩
 ·exact absurd (List.mem_map.2 ⟨e0,List.mem_of_getElem? h2,h3⟩) hno
theorem chains_gives {C:Nat}{N:Nt}{L:Lk}{wR:World}{r:Rl}{vw:Value}{b2 b3 b5 b6:Nat}(hv:Qh N=true)(hR:LR C N (E1 N) N.ways.length (E1 N).length (E1 N).length (E1 N).length N.ways.length wR L)(hg:RelG N r)(hcp:Yx vw):Gives Tryz.prog 65 #[.pointer (some ⟨b2,0,none⟩),.pointer (some ⟨b3,0,none⟩),.pointer (some ⟨b5,0,none⟩),.pointer (some ⟨b6,0,none⟩)] (PyC (chP N r)) wR.heap.size (chP N r).length (InvC N L wR r vw b2 b3 b5 b6):=
 λX l m J Jx W hX hInv hJ hJx hY h0=>chains1_in C wR.heap.size N L wR r vw b2 b3 b5 b6 hv hR (Nat.le_refl _) hg hcp X l m J Jx W hX hInv hJ hJx hY h0
def HRelsC (w:World)(v:Value)(xs:List Rl):Prop:=
 Jz 0 w v xs.length λb off i=>∃vw,w.cell? ⟨b,off+i*7,none⟩=some (.int .i64 (rat xs i).id)/\w.cell? ⟨b,off+i*7+1,none⟩=some (.bool (rat xs i).only)/\w.cell? ⟨b,off+i*7+2,none⟩=some (.int .i64 (rat xs i).frm)/\w.cell? ⟨b,off+i*7+3,none⟩=some (.int .i64 (rat xs i).to) /\
  w.cell? ⟨b,off+i*7+4,none⟩=some (.bool (rat xs i).via)/\w.cell? ⟨b,off+i*7+5,none⟩=some (.int .i64 (rat xs i).node)/\w.cell? ⟨b,off+i*7+6,none⟩=some vw/\Qo 0 w vw (rat xs i).ways/\Yx vw
theorem HRelsC.next {w w':World}{v:Value}{xs:List Rl}(h:HRelsC w v xs)(k:Nx w w'):HRelsC w' v xs:=
 Jz.mono h (Nat.le_refl _) k.size λb off hb hs i hi hc=>by
  obtain⟨vw,h0,h1,h2,h3,h4,h5,h6,h7,h8⟩:=hc
  exact⟨vw,Q3 k h0,Q3 k h1,Q3 k h2,Q3 k h3,Q3 k h4,Q3 k h5,Q3 k h6,h7.next k,h8⟩
def Xp (C:Nat)(w:World)(v:Value)(xs:List Ru):Prop:=
 ∃vs:List Value,vs.length=xs.length/\w.ownsRow C 45 3 v xs.length (Z8 xs vs)/\(∀i,i<xs.length->Q6 C w (vat vs i) (V0 xs i).seq)/\∀i j g,i<j->j<xs.length->(vat vs i).ownBlock=some g->(vat vs j).ownBlock≠some g
theorem Xp.next {C:Nat}{w w':World}{v:Value}{xs:List Ru}(h:Xp C w v xs)(k:Nx w w'):Xp C w' v xs:=by
 obtain⟨vs,h1,h2,h3,h4⟩:=h
 exact⟨vs,h1,Ju h2 k,λi hi=>(h3 i hi).next k,h4⟩
def TabW (w:World):Prop:=Lib.TabIs Tryz.prog w "internal/strconv.uint64pow10" .u64 Lib.pow10Tab
theorem TabW.tab {w:World}(h:TabW w):Tab w.heap.size w:=Lib.tabBelow_of_tabIs h
theorem TabW.next {w w':World}(h:TabW w)(k:Nx w w'):TabW w':=(h.tab).on k |>.here
theorem mkRn (w:World)(n:Int):(Instr.makeMap 86 (some (.int .i64 n))).run Tryz.prog w=.ok (.map (some w.heap.size)) (w.alloc (.map #[] 0)):=by
 simp[Instr.makeMap,asInt,go_sem]
theorem Xp.slice {C:Nat}{w:World}{v:Value}{xs:List Ru}(h:Xp C w v xs):∃a c,v=.slice a xs.length c:=by
 obtain⟨vs,_,h2,_⟩:=h
 exact Q2 h2
def rk (x:Ru):Value:=rkey x.only (Yu x.seq x.seq.length)
theorem Xp.chg {S:Nat->Prop}{C:Nat}{w w':World}{v:Value}{xs:List Ru}(h:Xp C w v xs)(c:Chg S w w')(hr:∀g,v.ownBlock=some g->¬S g)(hi:∀u zs g,Q6 C w u zs->u.ownBlock=some g->¬S g):Xp C w' v xs:=by
 obtain⟨vs,h1,h2,h3,h4⟩:=h
 exact⟨vs,h1,Qz h2 c hr,λi hlt=>Qz (h3 i hlt) c (λg hg=>hi _ _ g (h3 i hlt) hg),h4⟩
theorem Xp.low {S:Nat->Prop}{C:Nat}{w w':World}{v:Value}{xs:List Ru}(h:Xp C w v xs)(c:Chg S w w')(hS:∀b,S b->b<C):Xp C w' v xs:=by
 refine h.chg c (λg hg x=>?_) (λu zs g hu hg x=>?_)
 ·obtain⟨vs,h1,h2,h3,h4⟩:=h
  have:=(Qf h2 g hg).1
  have:=hS g x
  omega
 ·have:=(Qf hu g hg).1
  have:=hS g x
  omega
theorem Y6 {S:Nat->Prop}{C t sz n:Nat}{w w':World}{v:Value}{xs:List Value}(h:w.ownsRow C t sz v n xs)(c:Chg S w w')(hS:∀b,S b->b<C):w'.ownsRow C t sz v n xs:=Qz h c (λg hg x=>by have:=(Qf h g hg).1;have:=hS g x;omega)
theorem Xp.base {C C':Nat}{w:World}{v:Value}{xs:List Ru}(h:Xp C w v xs)(hC:C'<=C):Xp C' w v xs:=by
 obtain⟨vs,h1,h2,h3,h4⟩:=h
 exact⟨vs,h1,Yt h2 hC,λi hi=>(h3 i hi).base hC,h4⟩
theorem Xp.drops {C:Nat}{w w7:World}{v vd:Value}{xs:List Ru}{ds:List Dp}{o:Obj}(h:Xp C w v xs)(hd:Xk C w vd ds)(hg:(w.alloc o).grownBy w7 vd.ownBlock):Xp C w7 v xs:=by
 have h':=h.next (Qc w o)
 have hd':=Xk.next hd (Qc w o)
 have c:Chg (λx=>some x=vd.ownBlock) (w.alloc o) w7:=Chg.grown hg (λ_ e=>e)
 refine h'.chg c (λg hg' x=>?_) (λu zs g hu hg' x=>?_)
 ·obtain⟨vs,h1,h2,h3,h4⟩:=h'
  rcases own_ne h2 hd' (by decide) with e|e
  ·rw[e] at hg';cases hg'
  ·exact e (hg'.trans x)
 ·rcases own_ne hu hd' (by decide) with e|e
  ·rw[e] at hg';cases hg'
  ·exact e (hg'.trans x)
theorem Xp.snoc {C:Nat}{w w':World}{v v' u:Value}{xs:List Ru}{x:Ru}{vs:List Value}(h0:vs.length=xs.length)(h1:w.ownsRow C 45 3 v xs.length (Z8 xs vs))(h2:∀i,i<xs.length->Q6 C w (vat vs i) (V0 xs i).seq)(hap:∀i j g,i<j->j<xs.length->(vat vs i).ownBlock=some g->(vat vs j).ownBlock≠some g)
  (hu:Q6 C w u x.seq) (hnew:∀i g,i<xs.length->(vat vs i).ownBlock=some g->u.ownBlock≠some g) (ho:Obj) (hg:(w.alloc ho).grownBy w' v.ownBlock) (hn:w'.ownsRow C 45 3 v' (xs.length+1) (Z8 xs vs++[.int .i64 x.rel,.bool x.only,u])):Xp C w' v' (xs++[x]):=by
 have kept:∀{z:Value}{zs:List Int},Q6 C w z zs->Q6 C w' z zs:=λ{z zs} hz=>World.ownsRow.kept (World.ownsRow.alloc hz ho) hg (own_ne hz h1 (by decide))
 have va:∀i,i<xs.length->vat (vs++[u]) i=vat vs i:=λi hi=>by simp[vat,List.getD,List.getElem?_append_left (show i<vs.length by omega)]
 have vb:vat (vs++[u]) xs.length=u:=by rw[<-h0];simp[vat,List.getD]
 refine⟨vs++[u],by simp[h0],by rw[List.length_append,rcells_snoc h0];exact hn,λi hi=>?_,λi j g hij hj e=>?_⟩
 ·rw[List.length_append,List.length_singleton] at hi
  by_cases e:i<xs.length
  ·rw[ruat_snoc e,va i e]
   exact kept (h2 i e)
  ·have e':i=xs.length:=by omega
   rw[ruat_end e',e',vb]
   exact kept hu
 ·rw[List.length_append,List.length_singleton] at hj
  rw[va i (by omega)] at e
  by_cases q:j<xs.length
  ·rw[va j q]
   exact hap i j g hij q e
  ·have e':j=xs.length:=by omega
   rw[e',vb]
   exact hnew i g (by omega) e
theorem resTo_nums {ch:Rl->List (List Nat)}{rels:List Rl}:∀k,∀x∈(Qq ch rels k).rules,∃l:List Nat,x.seq=Qd l
 |0,x,hx=>by simp[Qq] at hx
 |k+1,x,hx=>by
  have hx':x∈(Jo (Qq ch rels k) (rat rels k) (ch (rat rels k))).rules:=hx
  unfold Jo at hx'
  split at hx'
  ·rcases List.mem_append.1 hx' with g|g
   ·exact resTo_nums k x g
   ·have:=List.mem_singleton.1 g
    exact⟨Jj (ch (rat rels k)) 0,by rw[this]⟩
  ·exact resTo_nums k x hx'
theorem rk_nums (x:Ru)(l:List Nat)(h:x.seq=Qd l):rk x=rkey x.only (txt l):=by
 unfold rk
 rw[h,Qw,numsTo_txt l l.length (Nat.le_refl _),List.take_length]
theorem rk_mem {rules:List Ru}(hn:∀x∈rules,∃l:List Nat,x.seq=Qd l)(only:Bool)(l:List Nat):rkey only (txt l)∈rules.map rk↔rpt rules only (Qd l)=true:=by
 unfold rpt
 rw[List.mem_map,List.any_eq_true]
 constructor
 ·rintro⟨x,hx,e⟩
  obtain⟨m,hm⟩:=hn x hx
  rw[rk_nums x m hm] at e
  obtain⟨e1,e2⟩:=rkey_inj e
  refine⟨x,hx,?_⟩
  rw[hm,txt_inj m l e2,e1]
  simp
 ·rintro⟨x,hx,e⟩
  simp only[Bool.and_eq_true,beq_iff_eq,decide_eq_true_eq] at e
  refine⟨x,hx,?_⟩
  rw[rk_nums x l e.2,e.1]
theorem chP_ok {N:Nt}{r:Rl}(hv:Qh N=true)(hg:RelG N r):∀l∈chP N r,l.length<=16002/\∀e∈l,e<4000:=by
 intro l hl
 unfold chP Xv at hl
 obtain⟨m,hm,hl⟩:=List.mem_flatMap.1 hl
 obtain⟨a,ha,hl⟩:=List.mem_flatMap.1 hl
 obtain⟨b,hb,rfl⟩:=List.mem_map.1 hl
 have hle:=E1_le' hv
 have ha':a<4000:=Nat.lt_of_lt_of_le (ofTo_lt (List.mem_filter.1 ha).1) hle
 have hb':b<4000:=Nat.lt_of_lt_of_le (ofTo_lt (List.mem_filter.1 hb).1) hle
 have hm':m.l.length<=16000/\∀e∈m.l,e<4000:=by
  unfold V9 at hm
  cases hvia:r.via
  ·rw[hvia] at hm
   simp only[Bool.false_eq_true,if_false] at hm
   obtain⟨x,hx,rfl⟩:=List.mem_map.1 hm
   have h4:=hg.one hvia
   have h1:=Zp hv hg hvia (r.ways.length-1) (by omega) x hx
   exact⟨by simp only[Ye];omega,λe he=>Nat.lt_of_lt_of_le (h1.1.2.2 e he) hle⟩
  ·rw[hvia] at hm
   simp only[if_true] at hm
   have:=List.mem_singleton.1 hm
   subst this
   simp
 refine⟨by simp;omega,λe he=>?_⟩
 simp only[List.cons_append,List.nil_append,List.mem_cons,List.mem_append,List.not_mem_nil,or_false] at he
 rcases he with rfl|he|rfl
 ·exact ha'
 ·exact hm'.2 e he
 ·exact hb'
theorem Own.next {B:Nat}{w w':World}{v:Value}{bs:List UInt8}(h:Own B w v bs)(k:Nx w w'):Own B w' v bs:=Ju h k
theorem small_nums {l:List Nat}(h:∀e∈l,e<4000):small (Qd l):=λi hi=>by
 have hi':i<l.length:=by simpa [Qd] using hi
 rw[iat_nums hi']
 have:natat l i∈l:=by simp[natat,List.getD_eq_getElem?_getD,hi']
 have:=h _ this
 omega
theorem txt_len {l:List Nat}(h1:l.length<=16002)(h2:∀e∈l,e<4000):(txt l).length<=1000000:=by
 have key:∀l:List Nat,(∀e∈l,e<4000)->(txt l).length<=5*l.length:=by
  intro l
  induction l with
  |nil=>intro _;simp[txt]
  |cons a l ih=>
   intro h
   have h3:=ih (λe he=>h e (List.mem_cons_of_mem _ he))
   have h4:(Lib.decDigits a).length<=4:=dec_len 3 a (by have:=h a (List.mem_cons_self ..);omega)
   have e:txt (a::l)=(32::Lib.decDigits a)++txt l:=by simp[txt]
   rw[e,List.length_append,List.length_cons,List.length_cons]
   omega
 have:=key l h2
 omega
theorem nx_young {S:Nat->Prop}{w A B:World}(h:Nx w A)(c:Chg S A B)(hS:∀b,S b->w.heap.size<=b):Nx w B:=
 ⟨c.os.trans h.os,c.tape.trans h.tape,c.output.trans h.output,Nat.le_trans h.size c.size,λb hb=>(c.block b (Nat.lt_of_lt_of_le hb h.size) (λx=>by have:=hS b x;omega)).trans (h.block b hb)⟩
theorem lsat_one {cs:List (List Nat)}(h:cs.length=1):Jj cs 0∈cs:=by
 match cs,h with
 |[x],_=>simp[Jj]
theorem resolve_any (C:Nat)(N:Nt)(L:Lk)(w:World)(hv:Qh N=true)(hR:LR C N (E1 N) N.ways.length (E1 N).length (E1 N).length (E1 N).length N.ways.length w L)(h0:Qo 0 w L.v0 N.nodes)(h2:HRelsC w L.v2 N.rels)(ht:TabW w) :
  Calls Tryz.prog 15 #[.pointer (some ⟨L.br,0,none⟩)] w λe w'=>(∃vr vd,e=.returned (.agg #[vr,vd])/\Xp w.heap.size w' vr (Qq (chP N) N.rels N.rels.length).rules/\Xk w.heap.size w' vd (Qq (chP N) N.rels N.rels.length).drops)/\Nx w w':=by
 obtain⟨iR,hiR,hzR0,hzR1,hzR2⟩:=info_parts infoRule
 obtain⟨iD,hiD,hzD0,hzD1,hzD2⟩:=info_parts infoDrop
 have HV:=mh hv
 have HR:=mh hR
 have H0:=mh h0
 have H2:=mh h2
 have HT:Hid (TabW w):=ht
 have hmx:Tryz.prog.follows .mixedOrders=true:=by kernel_rfl
 obtain⟨a2,c2,he2,hm2,_⟩:=h2
 unfold maxLen at hm2
 generalize hnr:N.rels.length=nr at *
 have HNR:=mh hnr
 have HE2:=mh he2
 have hrb:nr<=1000:=by rw[<-hnr];exact(X9 hv).cnt
 have x2:w.cell? ⟨L.br,2,none⟩=some (.slice a2 nr c2):=by rw[<-he2];exact hR.road.blk.cell (i:=2) rfl
 have y2:=Q3 ((Qc w (.cells #[.slice none 0 0,.slice none 0 0] 33)).trans (Qc _ (.cells #[.slice none 0 0,.slice none 0 0] 33))) x2
 have z2:=Q3 (Qc _ (.map #[] 0)) y2
 have hmk:∀W:World,(Instr.makeMap 86 (some (.int .i64 (nr:Int)))).run Tryz.prog W=.ok (.map (some W.heap.size)) (W.alloc (.map #[] 0)):=λW=>mkRn W nr
 clear hv hR h0 ht hnr he2 hm2
 go_enter Tryz.func15,Tryz.ntmps15
 go_wp2_with fail
 generalize hW0:((w.alloc (.cells #[.slice none 0 0,.slice none 0 0] 33)).alloc (.cells #[.slice none 0 0,.slice none 0 0] 33)).alloc (.map #[] 0)=w0
 have HX0:Hid (Nx w w0):=by unfold Hid;rw[<-hW0];exact((Qc _ _).trans (Qc _ _)).trans (Qc _ _)
 have HB0:Hid (BT w0 w.heap.size #[.slice none 0 0,.slice none 0 0] 33):=by unfold Hid;rw[<-hW0];exact((BT.new w _ _ _ rfl).alloc _).alloc _
 have HB1:Hid (BT w0 (w.heap.size+1) #[.slice none 0 0,.slice none 0 0] 33):=by unfold Hid;rw[<-hW0];exact(BT.new _ _ _ _ (by simp)).alloc _
 have HMP:Hid (Xo w0 (w.heap.size+1+1) []):=by unfold Hid;rw[<-hW0];exact Xo.new _ _ (by simp)
 have HSZ:w0.heap.size=w.heap.size+3:=by rw[<-hW0];simp
 clear hW0 x2 y2 z2
 generalize hb1:w.heap.size+1=b1 at *
 generalize hbm:b1+1=bm at *
 have HBB:Hid (b1=w.heap.size+1/\bm=w.heap.size+2):=by unfold Hid;omega
 clear hb1 hbm
 have HS0:=mh HSZ
 clear HSZ
 go_loopw [6,7,8,9,10,11,25] (λp6 p7 p8 p9 p10 p11 i wr=>∃(k:Nat) (vr vd:Value),k<=nr/\i=.int .i64 k/\Hid (BT wr w.heap.size #[.slice none 0 0,.slice none 0 0] 33)/\Hid (BT wr b1 #[vr,vd] 33)/\Hid (Xo wr bm ((Qq (chP N) N.rels k).rules.map rk))/\Hid (Xp w0.heap.size wr vr (Qq (chP N) N.rels k).rules)/\Hid (Xk w0.heap.size wr vd (Qq (chP N) N.rels k).drops)/\Hid (w0.heap.size<=wr.heap.size)/\Hid (Nx w wr)) (λ_ _ _ _ _ _ i _=>nr-(intOf i).toNat)
 case atStart=>exact⟨0,_,_,Nat.zero_le _,rfl,HB0,HB1,HMP,⟨[],rfl,⟨rfl,Or.inl ⟨rfl,rfl⟩⟩,λi hi=>absurd hi (Nat.not_lt_zero _),λi j g _ hj=>absurd hj (Nat.not_lt_zero _)⟩,⟨rfl,Or.inl ⟨rfl,rfl⟩⟩,Nat.le_refl _,HX0⟩
 case round=>
  clear HB0 HB1 HMP
  obtain⟨k,vr,vd,hkn,rfl,HB0,HB1,HM,HOX,HOD,HZW0,HN⟩:=hrel
  have hrl:=resTo_len (chP N) N.rels k
  obtain⟨ar,cr,rfl⟩:=HOX.out.slice
  obtain⟨ad,cd,rfl⟩:=Q2 HOD.out
  generalize hnu:(Qq (chP N) N.rels k).rules.length=nu at *
  generalize hnd:(Qq (chP N) N.rels k).drops.length=nd at *
  have HNU:=mh hnu
  have HND:=mh hnd
  clear hnu hnd
  by_cases hlt:k<nr
  ·have hlr:k<N.rels.length:=by rw[HNR.out];exact hlt
   have HG:=mh (rel_g ((X9 HV.out).rel k hlr))
   obtain⟨a',c',e',_,hk'⟩:=HE2.out▸(H2.out.next HN.out)
   obtain⟨b,off,rfl,_,hb,hcs⟩:=hk' (by omega)
   simp only[Value.slice.injEq] at e'
   obtain⟨rfl,hzz,rfl⟩:=e'
   obtain⟨vw,z0,z1,z2,z3,z4,z5,z6,hzw,hcp⟩:=hcs k hlr
   have HZW:=mh hzw
   have HCP:Hid (Yx vw):=hcp
   obtain⟨va,vn,vc,rfl,_⟩:=hcp
   have hlt':(k:Int)<nr:=by omega
   clear hcs hk' hzz hzw
   go_upto_region 6 with fail
   generalize hW5:wr.alloc (.cells #[.int .i64 (rat N.rels k).id,.bool (rat N.rels k).only,.int .i64 (rat N.rels k).frm,.int .i64 (rat N.rels k).to,.bool (rat N.rels k).via,.int .i64 (rat N.rels k).node,.slice va vn vc] 41)=w5
   have HX5:Hid (Nx wr w5):=by unfold Hid;rw[<-hW5];exact Qc _ _
   have HB5:Hid (BT w5 wr.heap.size #[.int .i64 (rat N.rels k).id,.bool (rat N.rels k).only,.int .i64 (rat N.rels k).frm,.int .i64 (rat N.rels k).to,.bool (rat N.rels k).via,.int .i64 (rat N.rels k).node,.slice va vn vc] 41):=by unfold Hid;rw[<-hW5];exact BT.new _ _ _ _ rfl
   have HN5:Hid (Nx w w5):=HN.out.trans HX5.out
   have q0:=HB5.out.blk.cell (i:=0) rfl
   have q1:=HB5.out.blk.cell (i:=1) rfl
   have q2:=HB5.out.blk.cell (i:=2) rfl
   have q3:=HB5.out.blk.cell (i:=3) rfl
   have q4:=HB5.out.blk.cell (i:=4) rfl
   have q5:=HB5.out.blk.cell (i:=5) rfl
   have q6:=HB5.out.blk.cell (i:=6) rfl
   clear hW5 z0 z1 z2 z3 z4 z5 z6
   go_wp2_with (go_at_call 38;refine(chains_any C N L (rat N.rels k) va vn vc _ HV.out (HR.out.next HN5.out) HG.out).mono ?_;rintro e w6 ⟨⟨b2,b3,b5,b6,rfl,hb2,hb3,hb5,hb6⟩,hx6⟩)
   have HN6:Hid (Nx w w6):=HN5.out.trans hx6
   refine(sole_any 65 _ (chP N (rat N.rels k)) _ w.heap.size (chains_gives (r:=(rat N.rels k)) (vw:=.slice va vn vc) HV.out HR.out HG.out HCP.out) (λ_ _=>rfl) w6 HN6.out.size (λB hB=>⟨(Ck.nx HN6.out).trans hB,(H0.out.next HN6.out).ck hB,((HZW.out.next HX5.out).next hx6).ck hB,hb2.ck hB id,hb3.ck hB id,hb5.ck hB id,hb6.ck hB id⟩)).mono ?_
   rintro e w7 ⟨⟨sv,rfl,hsv⟩,hx7⟩
   have HX67:Hid (Nx w6 w7):=hx7
   have HX57:Hid (Nx w5 w7):=hx6.trans hx7
   have HXR7:Hid (Nx wr w7):=HX5.out.trans HX57.out
   have HN7:Hid (Nx w w7):=HN6.out.trans hx7
   have HZ6:Hid (wr.heap.size<w6.heap.size/\w0.heap.size<=w6.heap.size):=⟨Nat.lt_of_lt_of_le HB5.out.lt hx6.size,by have:=HZW0.out;have:=HX5.out.size;have:=hx6.size;omega⟩
   have HSL:∃sl:List Nat,Qo 0 w7 sv (Qd sl)/\sl.length<=16002/\(∀e∈sl,e<4000)/\(((chP N (rat N.rels k)).length=1/\sl=Jj (chP N (rat N.rels k)) 0/\Q6 w6.heap.size w7 sv (Qd sl))\/(chP N (rat N.rels k)).length≠1):=by
    rcases hsv with⟨h1,h2⟩|⟨h1,rfl⟩
    ·have ho:=chP_ok HV.out HG.out _ (lsat_one h1)
     exact⟨Jj (chP N (rat N.rels k)) 0,(Q6.base h2 (Nat.zero_le _)).held,ho.1,ho.2,Or.inl ⟨h1,rfl,h2⟩⟩
    ·exact⟨[],⟨none,0,rfl,by simp[Qd],λhp=>by simp[Qd] at hp⟩,by simp,λe he=>by simp at he,Or.inr h1⟩
   obtain⟨sl,hsi,hsl,hse,hcase⟩:=HSL
   have HSI:=mh hsi
   have HSM:Hid (sl.length<=16002/\∀e∈sl,e<4000):=⟨hsl,hse⟩
   have HCASE:=mh hcase
   obtain⟨sa,sc,rfl,_,_⟩:=hsi
   generalize hsn:(Qd sl).length=sn at *
   generalize hso:soleOf (chP N (rat N.rels k))=so at *
   have HSO:=mh hso
   clear hsv hsl hse hcase hsn hso hx6 hx7 hb2 hb3 hb5 hb6 q0 q1 q2 q3 q4 q5 q6
   go_upto_region 7 with fail
   have HB7:=mh (HB5.out.next HX57.out)
   go_cut [9,25] from 25 to 79 (λs9 s25 wc=>∃gb,s9=.pointer (some ⟨gb,0,none⟩)/\s25=.int .i64 k/\Hid (w7.heap.size<=gb)/\Hid (Nx w7 wc)/\Hid (BT wc gb #[.bool (rat N.rels k).only,.string ⟨(txt sl).toArray⟩] 94))
   case first=>
    have HSN:Hid (∀q,Nx w7 q->(λq=>q.cell? ⟨wr.heap.size,1,none⟩=some (.bool (rat N.rels k).only)) q):=λq hq=>Q3 hq (HB7.out.blk.cell (i:=1) rfl)
    have HSS:Hid ((λq=>q.cell? ⟨wr.heap.size,1,none⟩=some (.bool (rat N.rels k).only)) w7.drew):=HSN.out _ (show Nx w7 w7.drew from(Below.refl _ _).drew)
    refine(wpIn_wide (n:=9)).1 ?_
    refine Q9 (c:=8) (S:=λq=>q.cell? ⟨wr.heap.size,1,none⟩=some (.bool (rat N.rels k).only)) hmx (by kernel_rfl) (λhw hcl=>?_)
    refine tq (i:=0) (v:=.pointer (some ⟨wr.heap.size,1,none⟩)) (λhcl=>?_)
    refine tq (i:=1) (v:=.bool (rat N.rels k).only) (λhcl=>?_)
    refine tq (i:=2) (v:=.slice sa sn sc) (λhcl=>?_)
    refine anyS_two (i:=3) (j:=6) (by kernel_rfl) (wpOpIn_step rfl (λK hK=>?_)) (wpOpIn_step rfl (λK hK=>?_))
    ·go_simp
     refine⟨trivial,(callsIn_wide.2 (appN_any _ (Qd sl) _ (HSI.out.next (show Nx w7 w7.drew from(Below.refl _ _).drew)) (by rw[Qw];have:=HSM.out.1;omega) (small_nums HSM.out.2) ((HT.out.next (HN7.out.trans (show Nx w7 w7.drew from(Below.refl _ _).drew))).tab))).mono ?_⟩
     rintro e wx0 ⟨⟨bv,rfl,hbo⟩,hxb⟩
     have HNX0:Hid (Nx w7 wx0):=(show Nx w7 w7.drew from(Below.refl _ _).drew).trans hxb
     have HOW:Hid (Own w7.drew.heap.size wx0 bv (txt sl)):=by
      rw[Qw,numsTo_txt sl sl.length (Nat.le_refl _),List.take_length] at hbo
      exact hbo
     obtain⟨ba,bc,rfl⟩:=Q2 HOW.out
     generalize hbn:(txt sl).length=bn at *
     clear hbo hxb hbn
     refine hK _ _ ⟨Or.inr (HSN.out _ HNX0.out),?_⟩
     clear hK K
     refine anyS_two (i:=4) (j:=6) (by kernel_rfl) (wpOpIn_step rfl (λK hK=>?_)) (wpOpIn_step rfl (λK hK=>?_))
     ·have hcv:=HOW.out.conv
      go_simp
      clear hcv
      refine hK _ _ ⟨Or.inr (HSN.out _ HNX0.out),?_⟩
      clear hK K
      refine anyS_two (i:=5) (j:=6) (by kernel_rfl) (wpOpIn_step rfl (λK hK=>?_)) (wpOpIn_step rfl (λK hK=>?_))
      ·go_simp
       refine hK _ _ ⟨Or.inr (HSN.out _ HNX0.out),?_⟩
       clear hK K
       refine Q5 (i:=6) (by kernel_rfl) (wpOpIn_step rfl (λK hK=>?_))
       go_simp
       generalize hWx:wx0.alloc (.cells #[.bool false,.string ⟨#[]⟩] 94)=wx1
       have HLX1:Hid (Nx wx0 wx1):=by unfold Hid;rw[<-hWx];exact Qc _ _
       have HNX1:Hid (Nx w7 wx1):=HNX0.out.trans HLX1.out
       have HBX:Hid (BT wx1 wx0.heap.size #[.bool false,.string ⟨#[]⟩] 94):=by unfold Hid;rw[<-hWx];exact BT.new wx0 _ _ _ rfl
       have HGE:=mh HNX0.out.size
       have HOWN:=mkHid (Own.next HOW.out HLX1.out)
       clear HOW
       have HOW:=HOWN
       clear hWx
       refine hK _ _ ⟨Or.inr (HSN.out _ HNX1.out),?_⟩
       clear hK K
       refine Q5 (i:=7) (by kernel_rfl) (wpOpIn_step rfl (λK hK=>?_))
       have g0:=HBX.out.blk.cell (i:=0) rfl
       have g1:=HBX.out.blk.cell (i:=1) rfl
       have f0:=HBX.out.blk.frozen 0
       have f1:=HBX.out.blk.frozen 1
       go_simp
       have HNXZ:Hid (Nx w7 ((wx1.setCell ⟨wx0.heap.size,0,none⟩ (.bool (rat N.rels k).only)).setCell ⟨wx0.heap.size,1,none⟩ (.string ⟨(txt sl).toArray⟩))):=Below.setCell (Below.setCell HNX1.out HGE.out _) HGE.out _
       refine hK _ _ ⟨Or.inr (HSN.out _ HNXZ.out),?_⟩
       clear hK K
       refine Qj (by kernel_rfl) ?_ _
       go_wp2
       go_meet
       exact⟨_,rfl,rfl,HGE,HNXZ,(HBX.out.set 0 _).set 1 _⟩
      ·go_simp
       generalize hWx:wx0.alloc (.cells #[.bool false,.string ⟨#[]⟩] 94)=wx1
       have HLX1:Hid (Nx wx0 wx1):=by unfold Hid;rw[<-hWx];exact Qc _ _
       have HNX1:Hid (Nx w7 wx1):=HNX0.out.trans HLX1.out
       have HBX:Hid (BT wx1 wx0.heap.size #[.bool false,.string ⟨#[]⟩] 94):=by unfold Hid;rw[<-hWx];exact BT.new wx0 _ _ _ rfl
       have HGE:=mh HNX0.out.size
       have HOWN:=mkHid (Own.next HOW.out HLX1.out)
       clear HOW
       have HOW:=HOWN
       clear hWx
       refine hK _ _ ⟨Or.inr (HSN.out _ HNX1.out),?_⟩
       clear hK K
       refine Q5 (i:=5) (by kernel_rfl) (wpOpIn_step rfl (λK hK=>?_))
       go_simp
       refine hK _ _ ⟨Or.inr (HSN.out _ HNX1.out),?_⟩
       clear hK K
       refine Q5 (i:=7) (by kernel_rfl) (wpOpIn_step rfl (λK hK=>?_))
       have g0:=HBX.out.blk.cell (i:=0) rfl
       have g1:=HBX.out.blk.cell (i:=1) rfl
       have f0:=HBX.out.blk.frozen 0
       have f1:=HBX.out.blk.frozen 1
       go_simp
       have HNXZ:Hid (Nx w7 ((wx1.setCell ⟨wx0.heap.size,0,none⟩ (.bool (rat N.rels k).only)).setCell ⟨wx0.heap.size,1,none⟩ (.string ⟨(txt sl).toArray⟩))):=Below.setCell (Below.setCell HNX1.out HGE.out _) HGE.out _
       refine hK _ _ ⟨Or.inr (HSN.out _ HNXZ.out),?_⟩
       clear hK K
       refine Qj (by kernel_rfl) ?_ _
       go_wp2
       go_meet
       exact⟨_,rfl,rfl,HGE,HNXZ,(HBX.out.set 0 _).set 1 _⟩
     ·go_simp
      generalize hWx:wx0.alloc (.cells #[.bool false,.string ⟨#[]⟩] 94)=wx1
      have HLX1:Hid (Nx wx0 wx1):=by unfold Hid;rw[<-hWx];exact Qc _ _
      have HNX1:Hid (Nx w7 wx1):=HNX0.out.trans HLX1.out
      have HBX:Hid (BT wx1 wx0.heap.size #[.bool false,.string ⟨#[]⟩] 94):=by unfold Hid;rw[<-hWx];exact BT.new wx0 _ _ _ rfl
      have HGE:=mh HNX0.out.size
      have HOWN:=mkHid (Own.next HOW.out HLX1.out)
      clear HOW
      have HOW:=HOWN
      clear hWx
      refine hK _ _ ⟨Or.inr (HSN.out _ HNX1.out),?_⟩
      clear hK K
      refine Q5 (i:=4) (by kernel_rfl) (wpOpIn_step rfl (λK hK=>?_))
      have hcv:=HOW.out.conv
      go_simp
      clear hcv
      refine hK _ _ ⟨Or.inr (HSN.out _ HNX1.out),?_⟩
      clear hK K
      refine Q5 (i:=5) (by kernel_rfl) (wpOpIn_step rfl (λK hK=>?_))
      go_simp
      refine hK _ _ ⟨Or.inr (HSN.out _ HNX1.out),?_⟩
      clear hK K
      refine Q5 (i:=7) (by kernel_rfl) (wpOpIn_step rfl (λK hK=>?_))
      have g0:=HBX.out.blk.cell (i:=0) rfl
      have g1:=HBX.out.blk.cell (i:=1) rfl
      have f0:=HBX.out.blk.frozen 0
      have f1:=HBX.out.blk.frozen 1
      go_simp
      have HNXZ:Hid (Nx w7 ((wx1.setCell ⟨wx0.heap.size,0,none⟩ (.bool (rat N.rels k).only)).setCell ⟨wx0.heap.size,1,none⟩ (.string ⟨(txt sl).toArray⟩))):=Below.setCell (Below.setCell HNX1.out HGE.out _) HGE.out _
      refine hK _ _ ⟨Or.inr (HSN.out _ HNXZ.out),?_⟩
      clear hK K
      refine Qj (by kernel_rfl) ?_ _
      go_wp2
      go_meet
      exact⟨_,rfl,rfl,HGE,HNXZ,(HBX.out.set 0 _).set 1 _⟩
    ·go_simp
     generalize hWx:(w7.alloc (.cells #[.bool false,.string ⟨#[]⟩] 94)).drew=wx0
     have HLX0:Hid (Nx w7 wx0):=by unfold Hid;rw[<-hWx];exact(Qc _ _).drew
     have HNX0:Hid (Nx w7 wx0):=HLX0.out
     have HBX:Hid (BT wx0 w7.heap.size #[.bool false,.string ⟨#[]⟩] 94):=by unfold Hid;rw[<-hWx];exact BT.new w7 _ _ _ rfl
     have HGE:Hid (w7.heap.size<=w7.heap.size):=Nat.le_refl _
     clear hWx
     refine hK _ _ ⟨Or.inr (HSN.out _ HNX0.out),?_⟩
     clear hK K
     refine Q5 (i:=3) (by kernel_rfl) (wpOpIn_step rfl (λK hK=>?_))
     go_simp
     refine⟨trivial,(callsIn_wide.2 (appN_any _ (Qd sl) wx0 (HSI.out.next HNX0.out) (by rw[Qw];have:=HSM.out.1;omega) (small_nums HSM.out.2) ((HT.out.next (HN7.out.trans HNX0.out)).tab))).mono ?_⟩
     rintro e wx1 ⟨⟨bv,rfl,hbo⟩,hxb⟩
     have HNX1:Hid (Nx w7 wx1):=HNX0.out.trans hxb
     have HOW:Hid (Own wx0.heap.size wx1 bv (txt sl)):=by
      rw[Qw,numsTo_txt sl sl.length (Nat.le_refl _),List.take_length] at hbo
      exact hbo
     obtain⟨ba,bc,rfl⟩:=Q2 HOW.out
     have HBX1:=mkHid (HBX.out.next hxb)
     clear HBX
     have HBX:=HBX1
     generalize hbn:(txt sl).length=bn at *
     clear hbo hxb hbn
     refine hK _ _ ⟨Or.inr (HSN.out _ HNX1.out),?_⟩
     clear hK K
     refine Q5 (i:=4) (by kernel_rfl) (wpOpIn_step rfl (λK hK=>?_))
     have hcv:=HOW.out.conv
     go_simp
     clear hcv
     refine hK _ _ ⟨Or.inr (HSN.out _ HNX1.out),?_⟩
     clear hK K
     refine Q5 (i:=5) (by kernel_rfl) (wpOpIn_step rfl (λK hK=>?_))
     go_simp
     refine hK _ _ ⟨Or.inr (HSN.out _ HNX1.out),?_⟩
     clear hK K
     refine Q5 (i:=7) (by kernel_rfl) (wpOpIn_step rfl (λK hK=>?_))
     have g0:=HBX.out.blk.cell (i:=0) rfl
     have g1:=HBX.out.blk.cell (i:=1) rfl
     have f0:=HBX.out.blk.frozen 0
     have f1:=HBX.out.blk.frozen 1
     go_simp
     have HNXZ:Hid (Nx w7 ((wx1.setCell ⟨w7.heap.size,0,none⟩ (.bool (rat N.rels k).only)).setCell ⟨w7.heap.size,1,none⟩ (.string ⟨(txt sl).toArray⟩))):=Below.setCell (Below.setCell HNX1.out HGE.out _) HGE.out _
     refine hK _ _ ⟨Or.inr (HSN.out _ HNXZ.out),?_⟩
     clear hK K
     refine Qj (by kernel_rfl) ?_ _
     go_wp2
     go_meet
     exact⟨_,rfl,rfl,HGE,HNXZ,(HBX.out.set 0 _).set 1 _⟩
   case rest=>
    obtain⟨gb,rfl,rfl,HGB,HXC,HBG⟩:=hcut
    have HXRC:Hid (Nx wr wc):=HXR7.out.trans HXC.out
    have HNC:Hid (Nx w wc):=HN.out.trans HXRC.out
    have HB0C:=mh (HB0.out.next HXRC.out)
    have HB1C:=mh (HB1.out.next HXRC.out)
    have HMC:=mh (HM.out.ck (Ck.nx (X:=noX) (K:=noX) HXRC.out) id)
    have HOXC:Hid (Xp w0.heap.size wc (.slice ar nu cr) (Qq (chP N) N.rels k).rules):=HOX.out.next HXRC.out
    have HODC:Hid (Xk w0.heap.size wc (.slice ad nd cd) (Qq (chP N) N.rels k).drops):=Xk.next HOD.out HXRC.out
    have HBRC:=mh (HB7.out.next HXC.out)
    have HZC:=mh (Nat.le_trans HZW0.out HXRC.out.size)
    obtain⟨kl,hkl⟩:=rkey_ok (rat N.rels k).only (txt sl) (txt_len HSM.out.1 HSM.out.2)
    obtain⟨lv,bb,hlk,hbb⟩:=HMC.out.look hkl
    have HKL:=mh hkl
    have HBBK:=mh hbb
    have hrp:=rk_mem (resTo_nums (ch:=chP N) (rels:=N.rels) k) (rat N.rels k).only sl
    have HRPT:Hid (rpt (Qq (chP N) N.rels k).rules (rat N.rels k).only (Qd sl)=bb):=by
     unfold Hid
     cases hb:bb
     ·cases h:rpt (Qq (chP N) N.rels k).rules (rat N.rels k).only (Qd sl)
      ·rfl
      ·exact absurd (hbb.2 (hrp.2 h)) (by rw[hb];simp)
     ·exact hrp.1 (hbb.1 hb)
    unfold rkey at hlk
    have e0:=HBG.out.blk.cell (i:=0) rfl
    have e1:=HBG.out.blk.cell (i:=1) rfl
    have q0:=HBRC.out.blk.cell (i:=0) rfl
    have q1:=HBRC.out.blk.cell (i:=1) rfl
    have x0:=HB1C.out.blk.cell (i:=0) rfl
    have x1:=HB1C.out.blk.cell (i:=1) rfl
    clear hkl hbb hrp
    have hkb:nu<=1000/\nd<=1000:=by omega
    by_cases hone:(chP N (rat N.rels k)).length=1
    ·have hso:so=0:=by have:=HSO.out;unfold soleOf at this;rw[if_neg (by omega),if_pos hone] at this;omega
     subst hso
     have HONE:=mh hone
     obtain⟨_,hsl,hown⟩:=HCASE.out.resolve_right (λh=>h hone)
     have HSL:=mh hsl
     have HOWS:=mh hown
     have HREA:Hid (reason (Qq (chP N) N.rels k).rules (rat N.rels k).only (chP N (rat N.rels k))=if bb then 3 else 0):=by
      unfold Hid reason
      rw[if_neg (by omega),if_neg (by omega),<-hsl,HRPT.out]
     clear hone hsl hown
     cases bb
     ·have HSTEP:Hid ((Qq (chP N) N.rels (k+1))=⟨(Qq (chP N) N.rels k).rules++[⟨(rat N.rels k).id,(rat N.rels k).only,Qd sl⟩],(Qq (chP N) N.rels k).drops⟩):=by
       show Jo _ _ _=_
       unfold Jo
       rw[if_pos (by rw[HREA.out];rfl),<-HSL.out]
      obtain⟨w8,hup,hm8,hc8⟩:=HMC.out.put (val:=.int .i64 (rat N.rels k).id) HKL.out (λh=>by have:=HBBK.out.2 h;cases this) (by rw[List.length_map,HNU.out];have:=hrl.1;omega)
      have HM8:Hid (Xo w8 bm (((Qq (chP N) N.rels k).rules++[(⟨(rat N.rels k).id,(rat N.rels k).only,Qd sl⟩:Ru)]).map rk)):=by
       unfold Hid
       rw[List.map_append,List.map_singleton,rk_nums _ sl rfl]
       exact hm8
      have HC8:=mh hc8
      have nbm:∀b,b=bm->b<w0.heap.size:=λb e=>by have:=HBB.out;have:=HS0.out;omega
      have HB08:=mh (HB0C.out.chg hc8 (by have:=HBB.out;omega))
      have HB18:=mh (HB1C.out.chg hc8 (by have:=HBB.out;omega))
      have HOD8:=mh (Y6 HODC.out hc8 nbm)
      have HBR8:=mh (HBRC.out.chg hc8 (by have:=HBB.out;have:=HS0.out;have:=HZW0.out;omega))
      have HZ8:=mh (Nat.le_trans HZC.out hc8.size)
      have HN8:Hid (Nx w w8):=nx_young HNC.out hc8 (λb e=>by have:=HBB.out;omega)
      have HSQ8:=mh (Y6 (Q6.base (Q6.next HOWS.out HXC.out) HZ6.out.2) hc8 nbm)
      obtain⟨vs,jv,hrow,jw,jap⟩:=HOX.out
      have HJV:=mh jv
      have HROW:=mh (Y6 (Ju hrow HXRC.out) hc8 nbm)
      have HJW:Hid (∀i,i<(Qq (chP N) N.rels k).rules.length->Q6 w0.heap.size w8 (vat vs i) (V0 (Qq (chP N) N.rels k).rules i).seq):=λi hi=>Y6 (Q6.next (jw i hi) HXRC.out) hc8 nbm
      have HJN:Hid (∀i g,i<(Qq (chP N) N.rels k).rules.length->(vat vs i).ownBlock=some g->(Value.slice sa sn sc).ownBlock≠some g):=λi g hi hg e=>by
       have h1:=(Qf (jw i hi) g hg).2
       have h2:=(Qf HOWS.out g e).1
       have:=HZ6.out.1
       omega
      have HJA:=mh jap
      have r0:=HBR8.out.blk.cell (i:=0) rfl
      have r1:=HBR8.out.blk.cell (i:=1) rfl
      have s0:=HB18.out.blk.cell (i:=0) rfl
      clear hm8 hc8 jv hrow jw jap
      unfold rkey at hup
      go_wp2_with (at_builtin;refine wpList_append_own_at _ rfl _ _ 30 rfl w0.heap.size 45 iR (.agg #[.int .i64 0,.bool false,.slice none 0 0]) 3 40 Tryz.underlying30 hiR hzR0 hzR1 hzR2 rfl (by decide) _ _ _ rfl (World.ownsRow.alloc HROW.out _) ⟨w8.heap.size,0,none⟩ 1 1 [.int .i64 (rat N.rels k).id,.bool (rat N.rels k).only,.slice sa sn sc] rfl rfl (λj u hj=>Qx w8 _ _ _ rfl j u hj) ?c2 ?c3 ?c4 ?c5 ?_)
      case c2=>first|exact⟨rfl,rfl,rfl⟩|(intro u hu;simp at hu;rcases hu with rfl|rfl|rfl<;>rfl)
      case c3=>rw[HNU.out];unfold maxLen;omega
      case c4=>rw[HNU.out];omega
      case c5=>have:=HZ8.out;simp;omega
      intro v9 w9 hown hgrow _ _
      obtain⟨a9,c9,rfl⟩:=Q2 hown
      have HOX9:Hid (Xp w0.heap.size w9 (.slice a9 _ c9) ((Qq (chP N) N.rels k).rules++[(⟨(rat N.rels k).id,(rat N.rels k).only,Qd sl⟩:Ru)])):=Xp.snoc HJV.out HROW.out HJW.out HJA.out HSQ8.out HJN.out _ hgrow hown
      have HC9:Hid (Chg (λx=>some x=(Value.slice ar nu cr).ownBlock) _ w9):=Chg.grown hgrow (λ_ e=>e)
      have nlow:∀b,b<w0.heap.size->¬some b=(Value.slice ar nu cr).ownBlock:=λb hb e=>by have:=(Qf HROW.out b e.symm).1;omega
      have HB19:Hid (BT w9 b1 #[.slice ar nu cr,.slice ad nd cd] 33):=(HB18.out.alloc _).chg HC9.out (nlow _ (by have:=HBB.out;have:=HS0.out;omega))
      have HB09:Hid (BT w9 w.heap.size #[.slice none 0 0,.slice none 0 0] 33):=(HB08.out.alloc _).chg HC9.out (nlow _ (by have:=HS0.out;omega))
      have HM9:Hid (Xo w9 bm (((Qq (chP N) N.rels k).rules++[(⟨(rat N.rels k).id,(rat N.rels k).only,Qd sl⟩:Ru)]).map rk)):=(HM8.out.ck (Ck.nx (X:=noX) (K:=noX) (Qc _ _)) id).ck (Ck.chg (K:=noX) HC9.out) (nlow _ (by have:=HBB.out;have:=HS0.out;omega))
      have HOD9:Hid (Xk w0.heap.size w9 (.slice ad nd cd) (Qq (chP N) N.rels k).drops):=World.ownsRow.kept (World.ownsRow.alloc HOD8.out _) hgrow (own_ne HOD8.out HROW.out (by decide))
      have HN9:Hid (Nx w w9):=Below.grown (HN8.out.alloc _) hgrow (by have:=HZ8.out;have:=HS0.out;simp;omega) (λg hg=>by have:=(Qf HROW.out g hg).1;have:=HS0.out;omega)
      have HZ9:Hid (w0.heap.size<=w9.heap.size):=by have h1:=HZ8.out;have h2:=hgrow.size;simp at h2;unfold Hid;omega
      have t0:=HB19.out.blk.cell (i:=0) rfl
      have g0:=HB19.out.blk.frozen 0
      clear hown hgrow
      go_wp2
      go_roundw
      case rel=>
       have cs:Chg (λx=>x=b1) w9 (w9.setCell ⟨b1,0,none⟩ (.slice a9 ((Qq (chP N) N.rels k).rules.length+1) c9)):=Chg.set _ _ _ rfl
       have nb1:∀b,b=b1->b<w0.heap.size:=λb e=>by have:=HBB.out;have:=HS0.out;omega
       refine⟨k+1,_,_,by omega,by go_num,HB09.out.chg cs (by have:=HBB.out;omega),HB19.out.set 0 _,?_,?_,?_,?_,?_⟩
       ·show Xo _ _ _
        rw[HSTEP.out]
        exact HM9.out.ck (Ck.chg (K:=noX) cs) (by have:=HBB.out;omega)
       ·show Xp _ _ _ _
        rw[HSTEP.out]
        exact HOX9.out.low cs nb1
       ·show Xk _ _ _ _
        rw[HSTEP.out]
        exact Y6 HOD9.out cs nb1
       ·have:=HZ9.out
        unfold Hid
        simpa [World.setCell] using this
       ·exact Below.setCell HN9.out (by have:=HBB.out;show w.heap.size<=b1;omega) _
      case measure=>simp[intOf];omega
     ·have HSTEP:Hid ((Qq (chP N) N.rels (k+1))=⟨(Qq (chP N) N.rels k).rules,(Qq (chP N) N.rels k).drops++[⟨(rat N.rels k).id,3⟩]⟩):=by
       show Jo _ _ _=_
       unfold Jo
       rw[if_neg (by rw[HREA.out];simp),HREA.out]
       rfl
      go_wp2_with (at_builtin;refine wpList_append_own_at _ rfl _ _ 31 rfl w0.heap.size 43 iD (.agg #[.int .i64 0,.int .i64 0]) 2 16 Tryz.underlying31 hiD hzD0 hzD1 hzD2 rfl (by decide) _ _ _ rfl (World.ownsRow.alloc HODC.out _) ⟨wc.heap.size,0,none⟩ 1 1 [.int .i64 (rat N.rels k).id,.int .i64 3] rfl rfl (λj u hj=>Qx wc _ _ _ rfl j u hj) ?c2 ?c3 ?c4 ?c5 ?_)
      case c2=>first|exact⟨rfl,rfl⟩|(intro u hu;simp at hu;rcases hu with rfl|rfl<;>rfl)
      case c3=>rw[HND.out];unfold maxLen;omega
      case c4=>rw[HND.out];omega
      case c5=>have:=HZC.out;simp;omega
      intro v9 w9 hown hgrow _ _
      obtain⟨a9,c9,rfl⟩:=Q2 hown
      have HOD9:Hid (Xk w0.heap.size w9 (.slice a9 _ c9) ((Qq (chP N) N.rels k).drops++[⟨(rat N.rels k).id,3⟩])):=Xk.snoc hown
      have HOX9:Hid (Xp w0.heap.size w9 (.slice ar nu cr) (Qq (chP N) N.rels k).rules):=Xp.drops HOXC.out HODC.out hgrow
      have HC9:Hid (Chg (λx=>some x=(Value.slice ad nd cd).ownBlock) _ w9):=Chg.grown hgrow (λ_ e=>e)
      have nlow:∀b,b<w0.heap.size->¬some b=(Value.slice ad nd cd).ownBlock:=λb hb e=>by have:=(Qf HODC.out b e.symm).1;omega
      have HB19:Hid (BT w9 b1 #[.slice ar nu cr,.slice ad nd cd] 33):=(HB1C.out.alloc _).chg HC9.out (nlow _ (by have:=HBB.out;have:=HS0.out;omega))
      have HB09:Hid (BT w9 w.heap.size #[.slice none 0 0,.slice none 0 0] 33):=(HB0C.out.alloc _).chg HC9.out (nlow _ (by have:=HS0.out;omega))
      have HM9:Hid (Xo w9 bm ((Qq (chP N) N.rels k).rules.map rk)):=(HMC.out.ck (Ck.nx (X:=noX) (K:=noX) (Qc _ _)) id).ck (Ck.chg (K:=noX) HC9.out) (nlow _ (by have:=HBB.out;have:=HS0.out;omega))
      have HN9:Hid (Nx w w9):=Below.grown (HNC.out.alloc _) hgrow (by have:=HZC.out;have:=HS0.out;simp;omega) (λg hg=>by have:=(Qf HODC.out g hg).1;have:=HS0.out;omega)
      have HZ9:Hid (w0.heap.size<=w9.heap.size):=by have h1:=HZC.out;have h2:=hgrow.size;simp at h2;unfold Hid;omega
      have t0:=HB19.out.blk.cell (i:=1) rfl
      have g0:=HB19.out.blk.frozen 1
      clear hown hgrow
      go_wp2
      go_roundw
      case rel=>
       have cs:Chg (λx=>x=b1) w9 (w9.setCell ⟨b1,1,none⟩ (.slice a9 ((Qq (chP N) N.rels k).drops.length+1) c9)):=Chg.set _ _ _ rfl
       have nb1:∀b,b=b1->b<w0.heap.size:=λb e=>by have:=HBB.out;have:=HS0.out;omega
       refine⟨k+1,_,_,by omega,by go_num,HB09.out.chg cs (by have:=HBB.out;omega),HB19.out.set 1 _,?_,?_,?_,?_,?_⟩
       ·show Xo _ _ _
        rw[HSTEP.out]
        exact HM9.out.ck (Ck.chg (K:=noX) cs) (by have:=HBB.out;omega)
       ·show Xp _ _ _ _
        rw[HSTEP.out]
        exact HOX9.out.low cs nb1
       ·show Xk _ _ _ _
        rw[HSTEP.out]
        exact Y6 HOD9.out cs nb1
       ·have:=HZ9.out
        unfold Hid
        simpa [World.setCell] using this
       ·exact Below.setCell HN9.out (by have:=HBB.out;show w.heap.size<=b1;omega) _
      case measure=>simp[intOf];omega
    ·have hso:¬so=0:=by have:=HSO.out;unfold soleOf at this;rw[if_neg hone] at this;split at this<;>omega
     have hsb:(so==0)=false:=by simpa using hso
     have hsn:(so !=0)=true:=by simpa using hso
     have HSTEP:Hid ((Qq (chP N) N.rels (k+1))=⟨(Qq (chP N) N.rels k).rules,(Qq (chP N) N.rels k).drops++[⟨(rat N.rels k).id,so⟩]⟩):=by
      have hr:reason (Qq (chP N) N.rels k).rules (rat N.rels k).only (chP N (rat N.rels k))=so:=by
       have:=HSO.out
       unfold soleOf at this
       unfold reason
       by_cases h0:(chP N (rat N.rels k)).length=0
       ·rw[if_pos h0] at this ⊢;exact this
       ·rw[if_neg h0,if_neg hone] at this
        rw[if_neg h0,if_pos (by omega)];exact this
      show Jo _ _ _=_
      unfold Jo
      rw[if_neg (by rw[hr];exact hso),hr]
     clear hone
     cases bb
     ·skip
      go_wp2_with (at_builtin;refine wpList_append_own_at _ rfl _ _ 31 rfl w0.heap.size 43 iD (.agg #[.int .i64 0,.int .i64 0]) 2 16 Tryz.underlying31 hiD hzD0 hzD1 hzD2 rfl (by decide) _ _ _ rfl (World.ownsRow.alloc HODC.out _) ⟨wc.heap.size,0,none⟩ 1 1 [.int .i64 (rat N.rels k).id,.int .i64 so] rfl rfl (λj u hj=>Qx wc _ _ _ rfl j u hj) ?c2 ?c3 ?c4 ?c5 ?_)
      case c2=>first|exact⟨rfl,rfl⟩|(intro u hu;simp at hu;rcases hu with rfl|rfl<;>rfl)
      case c3=>rw[HND.out];unfold maxLen;omega
      case c4=>rw[HND.out];omega
      case c5=>have:=HZC.out;simp;omega
      intro v9 w9 hown hgrow _ _
      obtain⟨a9,c9,rfl⟩:=Q2 hown
      have HOD9:Hid (Xk w0.heap.size w9 (.slice a9 _ c9) ((Qq (chP N) N.rels k).drops++[⟨(rat N.rels k).id,so⟩])):=Xk.snoc hown
      have HOX9:Hid (Xp w0.heap.size w9 (.slice ar nu cr) (Qq (chP N) N.rels k).rules):=Xp.drops HOXC.out HODC.out hgrow
      have HC9:Hid (Chg (λx=>some x=(Value.slice ad nd cd).ownBlock) _ w9):=Chg.grown hgrow (λ_ e=>e)
      have nlow:∀b,b<w0.heap.size->¬some b=(Value.slice ad nd cd).ownBlock:=λb hb e=>by have:=(Qf HODC.out b e.symm).1;omega
      have HB19:Hid (BT w9 b1 #[.slice ar nu cr,.slice ad nd cd] 33):=(HB1C.out.alloc _).chg HC9.out (nlow _ (by have:=HBB.out;have:=HS0.out;omega))
      have HB09:Hid (BT w9 w.heap.size #[.slice none 0 0,.slice none 0 0] 33):=(HB0C.out.alloc _).chg HC9.out (nlow _ (by have:=HS0.out;omega))
      have HM9:Hid (Xo w9 bm ((Qq (chP N) N.rels k).rules.map rk)):=(HMC.out.ck (Ck.nx (X:=noX) (K:=noX) (Qc _ _)) id).ck (Ck.chg (K:=noX) HC9.out) (nlow _ (by have:=HBB.out;have:=HS0.out;omega))
      have HN9:Hid (Nx w w9):=Below.grown (HNC.out.alloc _) hgrow (by have:=HZC.out;have:=HS0.out;simp;omega) (λg hg=>by have:=(Qf HODC.out g hg).1;have:=HS0.out;omega)
      have HZ9:Hid (w0.heap.size<=w9.heap.size):=by have h1:=HZC.out;have h2:=hgrow.size;simp at h2;unfold Hid;omega
      have t0:=HB19.out.blk.cell (i:=1) rfl
      have g0:=HB19.out.blk.frozen 1
      clear hown hgrow
      go_wp2
      go_roundw
      case rel=>
       have cs:Chg (λx=>x=b1) w9 (w9.setCell ⟨b1,1,none⟩ (.slice a9 ((Qq (chP N) N.rels k).drops.length+1) c9)):=Chg.set _ _ _ rfl
       have nb1:∀b,b=b1->b<w0.heap.size:=λb e=>by have:=HBB.out;have:=HS0.out;omega
       refine⟨k+1,_,_,by omega,by go_num,HB09.out.chg cs (by have:=HBB.out;omega),HB19.out.set 1 _,?_,?_,?_,?_,?_⟩
       ·show Xo _ _ _
        rw[HSTEP.out]
        exact HM9.out.ck (Ck.chg (K:=noX) cs) (by have:=HBB.out;omega)
       ·show Xp _ _ _ _
        rw[HSTEP.out]
        exact HOX9.out.low cs nb1
       ·show Xk _ _ _ _
        rw[HSTEP.out]
        exact Y6 HOD9.out cs nb1
       ·have:=HZ9.out
        unfold Hid
        simpa [World.setCell] using this
       ·exact Below.setCell HN9.out (by have:=HBB.out;show w.heap.size<=b1;omega) _
      case measure=>simp[intOf];omega
     ·skip
      go_wp2_with (at_builtin;refine wpList_append_own_at _ rfl _ _ 31 rfl w0.heap.size 43 iD (.agg #[.int .i64 0,.int .i64 0]) 2 16 Tryz.underlying31 hiD hzD0 hzD1 hzD2 rfl (by decide) _ _ _ rfl (World.ownsRow.alloc HODC.out _) ⟨wc.heap.size,0,none⟩ 1 1 [.int .i64 (rat N.rels k).id,.int .i64 so] rfl rfl (λj u hj=>Qx wc _ _ _ rfl j u hj) ?c2 ?c3 ?c4 ?c5 ?_)
      case c2=>first|exact⟨rfl,rfl⟩|(intro u hu;simp at hu;rcases hu with rfl|rfl<;>rfl)
      case c3=>rw[HND.out];unfold maxLen;omega
      case c4=>rw[HND.out];omega
      case c5=>have:=HZC.out;simp;omega
      intro v9 w9 hown hgrow _ _
      obtain⟨a9,c9,rfl⟩:=Q2 hown
      have HOD9:Hid (Xk w0.heap.size w9 (.slice a9 _ c9) ((Qq (chP N) N.rels k).drops++[⟨(rat N.rels k).id,so⟩])):=Xk.snoc hown
      have HOX9:=mh (Xp.drops HOXC.out HODC.out hgrow)
      have HC9:Hid (Chg (λx=>some x=(Value.slice ad nd cd).ownBlock) _ w9):=Chg.grown hgrow (λ_ e=>e)
      have nlow:∀b,b<w0.heap.size->¬some b=(Value.slice ad nd cd).ownBlock:=λb hb e=>by have:=(Qf HODC.out b e.symm).1;omega
      have HB19:Hid (BT w9 b1 #[.slice ar nu cr,.slice ad nd cd] 33):=(HB1C.out.alloc _).chg HC9.out (nlow _ (by have:=HBB.out;have:=HS0.out;omega))
      have HB09:Hid (BT w9 w.heap.size #[.slice none 0 0,.slice none 0 0] 33):=(HB0C.out.alloc _).chg HC9.out (nlow _ (by have:=HS0.out;omega))
      have HM9:Hid (Xo w9 bm ((Qq (chP N) N.rels k).rules.map rk)):=(HMC.out.ck (Ck.nx (X:=noX) (K:=noX) (Qc _ _)) id).ck (Ck.chg (K:=noX) HC9.out) (nlow _ (by have:=HBB.out;have:=HS0.out;omega))
      have HN9:Hid (Nx w w9):=Below.grown (HNC.out.alloc _) hgrow (by have:=HZC.out;have:=HS0.out;simp;omega) (λg hg=>by have:=(Qf HODC.out g hg).1;have:=HS0.out;omega)
      have HZ9:Hid (w0.heap.size<=w9.heap.size):=by have h1:=HZC.out;have h2:=hgrow.size;simp at h2;unfold Hid;omega
      have t0:=HB19.out.blk.cell (i:=1) rfl
      have g0:=HB19.out.blk.frozen 1
      clear hown hgrow
      go_wp2
      go_roundw
      case rel=>
       have cs:Chg (λx=>x=b1) w9 (w9.setCell ⟨b1,1,none⟩ (.slice a9 ((Qq (chP N) N.rels k).drops.length+1) c9)):=Chg.set _ _ _ rfl
       have nb1:∀b,b=b1->b<w0.heap.size:=λb e=>by have:=HBB.out;have:=HS0.out;omega
       refine⟨k+1,_,_,by omega,by go_num,HB09.out.chg cs (by have:=HBB.out;omega),HB19.out.set 1 _,?_,?_,?_,?_,?_⟩
       ·show Xo _ _ _
        rw[HSTEP.out]
        exact HM9.out.ck (Ck.chg (K:=noX) cs) (by have:=HBB.out;omega)
       ·show Xp _ _ _ _
        rw[HSTEP.out]
        exact HOX9.out.low cs nb1
       ·show Xk _ _ _ _
        rw[HSTEP.out]
        exact Y6 HOD9.out cs nb1
       ·have:=HZ9.out
        unfold Hid
        simpa [World.setCell] using this
       ·exact Below.setCell HN9.out (by have:=HBB.out;show w.heap.size<=b1;omega) _
      case measure=>simp[intOf];omega
  ·have ek:k=nr:=by omega
   subst ek
   have y0:=HB0.out.blk.cell (i:=0) rfl
   have y1:=HB0.out.blk.cell (i:=1) rfl
   have f0:=HB0.out.blk.frozen 0
   have f1:=HB0.out.blk.frozen 1
   have z0:=HB1.out.blk.cell (i:=0) rfl
   have z1:=HB1.out.blk.cell (i:=1) rfl
   have BR':=(HB0.out.set 0 (.slice ar nu cr)).set 1 (.slice ad nd cd)
   have p0:_=some (Value.slice ar nu cr):=BR'.blk.cell (i:=0) rfl
   have p1:_=some (Value.slice ad nd cd):=BR'.blk.cell (i:=1) rfl
   go_wp2
   refine bodyPost_ret (v:=.agg #[.slice ar nu cr,.slice ad nd cd]) (by simp[results,Tryz.results15,go_sem,p0,p1]) rfl ?_
   have h1:w.heap.size<w0.heap.size:=by have:=HS0.out;omega
   have c1:Chg (λx=>x=w.heap.size) wr ((wr.setCell ⟨w.heap.size,0,none⟩ (.slice ar nu cr)).setCell ⟨w.heap.size,1,none⟩ (.slice ad nd cd)):=(Chg.set (S:=λx=>x=w.heap.size) w.heap.size 0 _ rfl).trans (Chg.set (S:=λx=>x=w.heap.size) w.heap.size 1 _ rfl)
   refine⟨⟨_,_,rfl,(HOX.out.low c1 (λb e=>by omega)).base (Nat.le_of_lt h1),Yt (Y6 HOD.out c1 (λb e=>by omega)) (Nat.le_of_lt h1)⟩,Below.setCell (Below.setCell HN.out (Nat.le_refl _) _) (Nat.le_refl _) _⟩
theorem implResolve_any (B0:Nat)(v0 v1 v2 v3:Value)(N:Nt)(w:World)(h0:Z0 B0 w v0 v1 v2 v3 N)(hc:HRelsC w v2 N.rels)(hs:wsum N.ways N.ways.length<=1048576)(ht:TabW w) :
  Calls Tryz.prog 5 #[.agg #[v0,v1,v2,v3,.int .i64 N.uturn]] w λe w'=>(∃vr vd,e=.returned (.agg #[vr,vd])/\Xp w.heap.size w' vr (J5 N).rules/\Xk w.heap.size w' vd (J5 N).drops)/\Nx w w':=by
 have HS:=mh hs
 have HI:=mh h0
 have HC:=mh hc
 have HT:Hid (TabW w):=ht
 obtain⟨a0,q0,rfl,jm,jk⟩:=h0.1
 clear jm jk
 obtain⟨a1,q1,rfl,jm,jk⟩:=h0.2.1
 clear jm jk
 obtain⟨a2,q2,rfl,jm,jk⟩:=h0.2.2.1
 clear jm jk
 obtain⟨a3,q3,rfl,jm,jk⟩:=h0.2.2.2
 clear jm jk hs h0 hc ht
 generalize N.nodes.length=l0 at *
 generalize N.rels.length=l2 at *
 generalize N.turns.length=l3 at *
 go_enter Tryz.func5,Tryz.ntmps5
 go_wp2_with fail
 generalize hWA:(w.alloc (.cells #[.slice a0 l0 q0,.slice a1 N.ways.length q1,.slice a2 l2 q2,.slice a3 l3 q3,.int .i64 N.uturn] 28)).alloc (.cells #[.slice none 0 0,.slice none 0 0] 33)=wA
 have HXA:Hid (Nx w wA):=by unfold Hid;rw[<-hWA];exact(Qc _ _).trans (Qc _ _)
 have BG:Hid (BT wA w.heap.size #[.slice a0 l0 q0,.slice a1 N.ways.length q1,.slice a2 l2 q2,.slice a3 l3 q3,.int .i64 N.uturn] 28):=by unfold Hid;rw[<-hWA];exact(BT.new w _ _ _ rfl).alloc _
 have BZ:Hid (BT wA (w.heap.size+1) #[.slice none 0 0,.slice none 0 0] 33):=by unfold Hid;rw[<-hWA];exact BT.new _ _ _ _ (by rw[Q1])
 have HSA:Hid (wA.heap.size=w.heap.size+2):=by unfold Hid;rw[<-hWA,Q1,Q1]
 clear hWA
 refine(implValid_any B0 _ _ _ _ N _ (by exact HI.out.next HXA.out) HS.out).mono ?_
 rintro e w1 ⟨rfl,hx⟩
 have HXA1:Hid (Nx wA w1):=hx
 have HX1:Hid (Nx w w1):=HXA.out.trans hx
 have BG1:=mh (BG.out.next hx)
 have BZ1:=mh (BZ.out.next hx)
 clear hx
 cases hv:Qh N
 case false=>
  have HF:Hid (J5 N=⟨[],[]⟩):=by unfold Hid J5;rw[hv];rfl
  clear hv
  have y0:=BZ1.out.blk.cell (i:=0) rfl
  have y1:=BZ1.out.blk.cell (i:=1) rfl
  have z0:=BZ1.out.blk.frozen 0
  have z1:=BZ1.out.blk.frozen 1
  have BR':=(BZ1.out.set 0 (.slice none 0 0)).set 1 (.slice none 0 0)
  have p0:_=some (Value.slice none 0 0):=BR'.blk.cell (i:=0) rfl
  have p1:_=some (Value.slice none 0 0):=BR'.blk.cell (i:=1) rfl
  go_wp2
  refine bodyPost_ret (v:=.agg #[.slice none 0 0,.slice none 0 0]) (by simp[results,Tryz.results5,go_sem,p0,p1]) rfl ?_
  rw[HF.out]
  exact⟨⟨_,_,rfl,⟨[],rfl,⟨rfl,.inl ⟨rfl,rfl⟩⟩,λi hi=>absurd hi (Nat.not_lt_zero _),λi j g _ hj=>absurd hj (Nat.not_lt_zero _)⟩,⟨rfl,.inl ⟨rfl,rfl⟩⟩⟩,Below.setCell (Below.setCell HX1.out (Nat.le_succ _) _) (Nat.le_succ _) _⟩
 have HF:=mh (res_same hv)
 have HV:=mh hv
 clear hv
 have k0:=BG1.out.blk.cell (i:=0) rfl
 have k1:=BG1.out.blk.cell (i:=1) rfl
 have k2:=BG1.out.blk.cell (i:=2) rfl
 have k3:=BG1.out.blk.cell (i:=3) rfl
 have k4:=BG1.out.blk.cell (i:=4) rfl
 go_wp2_with fail
 refine(linkRoad_any B0 _ _ _ _ N _ (by exact HI.out.next HX1.out) HS.out HV.out).mono ?_
 rintro e w2 ⟨⟨L,rfl,e0,e1,e2,e3,hLR⟩,hx2⟩
 have HLR:=mh hLR
 have HX2:Hid (Nx w w2):=HX1.out.trans hx2
 have HX12:Hid (Nx w1 w2):=hx2
 have HE:Hid (L.v0=.slice a0 l0 q0/\L.v2=.slice a2 l2 q2):=⟨e0,e2⟩
 clear hLR hx2 e0 e1 e2 e3 k0 k1 k2 k3 k4
 go_wp2_with fail
 refine(resolve_any w1.heap.size N L w2 HV.out HLR.out (by rw[HE.out.1];exact(HI.out.1.next HX2.out).base (Nat.zero_le _)) (by rw[HE.out.2];exact HC.out.next HX2.out) (HT.out.next HX2.out)).mono ?_
 rintro e w3 ⟨⟨vr,vd,rfl,hr,hd⟩,hx3⟩
 have HR3:=mh hr
 have HD3:=mh hd
 obtain⟨ar,cr,rfl⟩:=hr.slice
 obtain⟨ad,cd,rfl⟩:=Q2 hd
 generalize (Qq (chP N) N.rels N.rels.length).rules.length=nr at *
 generalize (Qq (chP N) N.rels N.rels.length).drops.length=nd at *
 have HX3:Hid (Nx w w3):=HX2.out.trans hx3
 have BZ3:=mh ((BZ1.out.next HX12.out).next hx3)
 clear hr hd hx3
 have y0:=BZ3.out.blk.cell (i:=0) rfl
 have y1:=BZ3.out.blk.cell (i:=1) rfl
 have z0:=BZ3.out.blk.frozen 0
 have z1:=BZ3.out.blk.frozen 1
 have BR':=(BZ3.out.set 0 (.slice ar nr cr)).set 1 (.slice ad nd cd)
 have p0:_=some (Value.slice ar nr cr):=BR'.blk.cell (i:=0) rfl
 have p1:_=some (Value.slice ad nd cd):=BR'.blk.cell (i:=1) rfl
 clear BR'
 go_wp2
 refine bodyPost_ret (v:=.agg #[.slice ar nr cr,.slice ad nd cd]) (by simp[results,Tryz.results5,go_sem,p0,p1]) rfl ?_
 have h1:w.heap.size+1<w2.heap.size:=by have:=HSA.out;have:=HXA1.out.size;have:=HX12.out.size;omega
 have c1:Chg (λx=>x=w.heap.size+1) w3 ((w3.setCell ⟨w.heap.size+1,0,none⟩ (.slice ar nr cr)).setCell ⟨w.heap.size+1,1,none⟩ (.slice ad nd cd)):=(Chg.set (S:=λx=>x=w.heap.size+1) (w.heap.size+1) 0 _ rfl).trans (Chg.set (S:=λx=>x=w.heap.size+1) (w.heap.size+1) 1 _ rfl)
 rw[HF.out]
 exact⟨⟨_,_,rfl,(HR3.out.low c1 (λb e=>by omega)).base (by omega),Yt (Y6 HD3.out c1 (λb e=>by omega)) (by omega)⟩,Below.setCell (Below.setCell HX3.out (Nat.le_succ _) _) (Nat.le_succ _) _⟩
end Go.Proofs.YthhbdfiopjclcaaGreatDoor
namespace Go.Proofs.YthhbdfiopjclcaaGreatDoor
open Go.RowKit Go.Sort
set_option linter.unusedVariables false
set_option maxRecDepth 1000000
set_option maxHeartbeats 16000000
theorem eq_sorted:∀{a b:List Nat},a.Pairwise (·<·)->b.Pairwise (·<·)->(∀x,x∈a↔x∈b)->a=b
 |[],[],_,_,_=>rfl
 |[],y::ys,_,_,h=>absurd ((h y).2 (by simp)) (by simp)
 |x::xs,[],_,_,h=>absurd ((h x).1 (by simp)) (by simp)
 |x::xs,y::ys,ha,hb,h=>by
  obtain⟨a1,a2⟩:=List.pairwise_cons.1 ha
  obtain⟨b1,b2⟩:=List.pairwise_cons.1 hb
  have e:x=y:=by
   rcases List.mem_cons.1 ((h x).1 (by simp)) with e|hx
   ·exact e
   ·rcases List.mem_cons.1 ((h y).2 (by simp)) with e|hy
    ·exact e.symm
    ·have:=a1 y hy
     have:=b1 x hx
     omega
  subst e
  congr 1
  refine eq_sorted a2 b2 λz=>⟨λhz=>?_,λhz=>?_⟩
  ·rcases List.mem_cons.1 ((h z).1 (List.mem_cons_of_mem _ hz)) with e|q
   ·have:=a1 z hz
    omega
   ·exact q
  ·rcases List.mem_cons.1 ((h z).2 (List.mem_cons_of_mem _ hz)) with e|q
   ·have:=b1 z hz
    omega
   ·exact q
theorem filter_seq {p:Nat->Bool}{f:Nat->Nat}{n M:Nat}(hm:∀a b,a<b->b<n->f a<f b)(hl:∀a,a<n->f a<M)(hp:∀a,a<n->p (f a)=true)(hq:∀e,e<M->p e=true->∃a,a<n/\e=f a):(List.range M).filter p=(List.range n).map f:=by
 refine eq_sorted (List.pairwise_lt_range.filter _) ?_ λx=>?_
 ·rw[List.pairwise_map]
  refine List.pairwise_iff_getElem.2 λi j hi hj hij=>?_
  rw[List.length_range] at hj
  simp only[List.getElem_range]
  exact hm i j hij hj
 ·rw[List.mem_filter,List.mem_range,List.mem_map]
  constructor
  ·rintro⟨h1,h2⟩
   obtain⟨a,ha,e⟩:=hq x h1 h2
   exact⟨a,List.mem_range.2 ha,e.symm⟩
  ·rintro⟨a,ha,rfl⟩
   have ha':=List.mem_range.1 ha
   exact⟨hl a ha',hp a ha'⟩
def plc (N:Nt)(i j q:Nat):Nat:=st (nsN N) (bnN N) i+bnN N i*j+q
theorem bn_in (N:Nt)(i:Nat):bnN N i=1\/bnN N i=2:=by unfold bnN;split<;>simp
theorem plc_lt {N:Nt}{i a b q:Nat}(h:a<b):plc N i a q<plc N i b q:=by
 unfold plc
 have h1:bnN N i*(a+1)<=bnN N i*b:=Nat.mul_le_mul_left _ h
 rw[Nat.mul_succ] at h1
 rcases bn_in N i with e|e<;>omega
def nod (N:Nt)(i j:Nat):Int:=pos N.nodes (iat (wat N.ways i).nodes j)
theorem U9 {N:Nt}{i j q:Nat}(hi:i<N.ways.length)(hj:j<nsN N i)(hq:q<bnN N i):plc N i j q<(E1 N).length/\(eat (E1 N) (plc N i j q)).way=i/\(eat (E1 N) (plc N i j q)).back=decide (q=1)/\(eat (E1 N) (plc N i j q)).tail=nod N i (j+q)/\(eat (E1 N) (plc N i j q)).head=nod N i (j+1-q):=by
 obtain⟨_,a1⟩:=Xw hi hj hq
 refine⟨by rw[Yj];exact st_in hi hj hq,?_⟩
 unfold plc
 rw[a1]
 rcases bn_in N i with e|e
 ·have q0:q=0:=by omega
  subst q0
  rw[if_pos e]
  exact⟨rfl,rfl,rfl,rfl⟩
 ·rw[if_neg (by omega)]
  rcases (show q=0\/q=1 by omega) with rfl|rfl
  ·rw[if_pos rfl]
   exact⟨rfl,rfl,rfl,rfl⟩
  ·rw[if_neg (by omega)]
   exact⟨rfl,rfl,rfl,rfl⟩
theorem way_seq {N:Nt}{i q:Nat}(hi:i<N.ways.length)(hq:q<bnN N i):(List.range (E1 N).length).filter (λe=>Vx (E1 N) i e&&((eat (E1 N) e).back==decide (q=1)))=(List.range (nsN N i)).map λj=>plc N i j q:=by
 refine filter_seq (λa b h _=>plc_lt h) (λa ha=>(U9 hi ha hq).1) (λa ha=>?_) (λe he hp=>?_)
 ·obtain⟨_,h1,h2,_⟩:=U9 hi ha hq
  simp[Vx,h1,h2]
 ·rw[Yj] at he
  obtain⟨i',j,q',hi',hj,hq',rfl⟩:=lay_of N.ways.length he
  obtain⟨_,h1,h2,_⟩:=U9 hi' hj hq'
  unfold plc at h1 h2
  simp only[Vx,h1,h2,Bool.and_eq_true,decide_eq_true_eq,beq_iff_eq] at hp
  have ei:i'=i:=by omega
  subst ei
  have eq:q'=q:=by
   have h3:=hp.2
   rcases bn_in N i' with e|e
   ·omega
   ·rcases (show q'=0\/q'=1 by omega) with rfl|rfl<;>rcases (show q=0\/q=1 by omega) with rfl|rfl<;>simp at h3 ⊢
  subst eq
  exact⟨j,hj,rfl⟩
theorem th_seq {N:Nt}{i:Nat}(hi:i<N.ways.length):Vi (E1 N) i (E1 N).length=(List.range (nsN N i)).map λj=>plc N i j 0:=by
 rw[<-way_seq hi (by rcases bn_in N i with e|e<;>omega)]
 unfold Vi
 congr 1
 funext e
 cases (eat (E1 N) e).back<;>simp
theorem bk_seq {N:Nt}{i:Nat}(hi:i<N.ways.length)(hb:(wat N.ways i).both=true):Vu (E1 N) i (E1 N).length=((List.range (nsN N i)).map λj=>plc N i j 1).reverse:=by
 rw[<-way_seq hi (by unfold bnN;rw[if_pos hb];omega)]
 unfold Vu
 congr 2
 funext e
 cases (eat (E1 N) e).back<;>simp
def Jn (es:List Eg)(l:List Nat):Prop:=∀u a b,l[u]?=some a->l[u+1]?=some b->(eat es a).head=(eat es b).tail
theorem at_last {l:List Nat}(h:l≠[]):l[l.length-1]?=some (l.getLastD 0):=by
 rw[<-List.getLast?_eq_getElem?]
 cases l with
 |nil=>exact absurd rfl h
 |cons a l=>rw[List.getLast?_cons,List.getLastD_cons,List.getLastD_eq_getLast?]
theorem at_head {l:List Nat}(h:l≠[]):l[0]?=some (l.headD 0):=by
 cases l with
 |nil=>exact absurd rfl h
 |cons a l=>rfl
theorem Jn.app {es:List Eg}{l p:List Nat}(hl:Jn es l)(hp:Jn es p)(nl:l≠[])(np:p≠[])(h:hdL es l=tlL es p):Jn es (l++p):=by
 have l0:0<l.length:=List.length_pos_iff.2 nl
 intro u a b ha hb
 rcases Nat.lt_trichotomy (u+1) l.length with c|c|c
 ·rw[List.getElem?_append_left (by omega)] at ha
  rw[List.getElem?_append_left c] at hb
  exact hl u a b ha hb
 ·rw[List.getElem?_append_left (by omega),show u=l.length-1 by omega,at_last nl] at ha
  rw[List.getElem?_append_right (by omega),show u+1-l.length=0 by omega,at_head np] at hb
  have e1:=Option.some.inj ha
  have e2:=Option.some.inj hb
  unfold hdL tlL at h
  rw[<-e1,<-e2]
  exact h
 ·rw[List.getElem?_append_right (by omega)] at ha hb
  rw[show u+1-l.length=u-l.length+1 by omega] at hb
  exact hp _ a b ha hb
theorem seq_at {n u a:Nat}{f:Nat->Nat}(h:((List.range n).map f)[u]?=some a):u<n/\a=f u:=by
 rw[List.getElem?_map] at h
 by_cases hu:u<n
 ·rw[List.getElem?_range hu] at h
  exact⟨hu,(Option.some.inj h).symm⟩
 ·rw[List.getElem?_eq_none (by rw[List.length_range];omega)] at h
  simp at h
theorem trav_ok {N:Nt}{i:Nat}(hi:i<N.ways.length)(h1:1<=nsN N i):∀p∈J1 N (E1 N) i,p≠[]/\p.length=nsN N i/\(∀e∈p,e<(E1 N).length)/\Jn (E1 N) p:=by
 have one:∀q,q<bnN N i->∀e∈(List.range (nsN N i)).map (λj=>plc N i j q),e<(E1 N).length:=λq hq e he=>by
  obtain⟨j,hj,rfl⟩:=List.mem_map.1 he
  exact(U9 hi (List.mem_range.1 hj) hq).1
 have ne:∀{p:List Nat},p.length=nsN N i->p≠[]:=λhl e=>by
  rw[e] at hl
  simp at hl
  omega
 intro p hp
 unfold J1 at hp
 rcases List.mem_append.1 hp with g|g
 ·have e:p=Vi (E1 N) i (E1 N).length:=by simpa using g
  rw[e,th_seq hi]
  have hq:0<bnN N i:=by rcases bn_in N i with e|e<;>omega
  refine⟨ne (by simp),by simp,one 0 hq,λu a b ha hb=>?_⟩
  obtain⟨ua,rfl⟩:=seq_at ha
  obtain⟨ub,rfl⟩:=seq_at hb
  rw[(U9 hi ua hq).2.2.2.2,(U9 hi ub hq).2.2.2.1]
  rfl
 ·split at g
  ·rename_i hb
   have e:p=Vu (E1 N) i (E1 N).length:=by simpa using g
   rw[e,bk_seq hi hb]
   have hq:1<bnN N i:=by unfold bnN;rw[if_pos hb];omega
   refine⟨ne (by simp),by simp,λe he=>one 1 hq e (List.mem_reverse.1 he),λu a b ha hb=>?_⟩
   have hu:u+1<((List.range (nsN N i)).map λj=>plc N i j 1).length:=by
    have:=(List.getElem?_eq_some_iff.1 hb).1
    rw[List.length_reverse] at this
    exact this
   rw[List.getElem?_reverse (by omega)] at ha
   rw[List.getElem?_reverse hu] at hb
   rw[List.length_map,List.length_range] at ha hb hu
   obtain⟨ua,rfl⟩:=seq_at ha
   obtain⟨ub,rfl⟩:=seq_at hb
   rw[(U9 hi ua hq).2.2.2.2,(U9 hi ub hq).2.2.2.1]
   congr 1
   omega
  ·simp at g
theorem growL_mem {es:List Eg}{ls ps:List (List Nat)}{l:List Nat}(h:l∈J3 es ls ps):∃a∈ls,∃p∈ps,hdL es a=tlL es p/\l=a++p:=by
 unfold J3 at h
 obtain⟨a,ha,h1⟩:=List.mem_flatMap.1 h
 obtain⟨p,hp,e⟩:=List.mem_map.1 h1
 obtain⟨hp1,hp2⟩:=List.mem_filter.1 hp
 exact⟨a,ha,p,hp1,by simpa using hp2,e.symm⟩
structure Ch (N:Nt)(r:Rl)(n:Nat)(l:List Nat):Prop where
 ne:l≠[]
 len:l.length=n
 lt:∀e∈l,e<(E1 N).length
 jn:Jn (E1 N) l
 hd:(eat (E1 N) (l.headD 0)).way=(wpos N.ways r.frm:Int)
theorem Ch.app {N:Nt}{r:Rl}{n:Nat}{l p:List Nat}(h:Ch N r n l)(np:p≠[])(hp:∀e∈p,e<(E1 N).length)(jp:Jn (E1 N) p)(e:hdL (E1 N) l=tlL (E1 N) p):Ch N r (n+p.length) (l++p):=by
 refine⟨λq=>h.ne (List.append_eq_nil_iff.1 q).1,by rw[List.length_append,h.len],λx hx=>?_,h.jn.app jp h.ne np e,?_⟩
 ·rcases List.mem_append.1 hx with g|g
  ·exact h.lt x g
  ·exact hp x g
 ·have e2:(l++p).headD 0=l.headD 0:=by
   cases hl:l with
   |nil=>exact absurd hl h.ne
   |cons a l=>rfl
  rw[e2]
  exact h.hd
theorem one_ch {N:Nt}{r:Rl}{e:Nat}(he:e∈Qp N (E1 N) r):Ch N r 1 [e]:=by
 unfold Qp Jp at he
 obtain⟨h1,h2⟩:=List.mem_filter.1 he
 refine⟨by simp,rfl,λx hx=>?_,λu a b _ hb=>by simp at hb,?_⟩
 ·have:x=e:=by simpa using hx
  rw[this]
  exact List.mem_range.1 h1
 ·unfold Vx at h2
  simpa using h2
def smW (N:Nt)(ways:List Int):Nat->Nat
 |0=>0
 |t+1=>smW N ways t+nsN N (wpos N.ways (iat ways t))
theorem growW_ch {N:Nt}{r:Rl}(h1:∀i,i<N.ways.length->1<=nsN N i)(hw:∀k,k<r.ways.length->Ji N.ways (iat r.ways k)=true):∀k,k<=r.ways.length->∀l∈Y9 N (E1 N) r k,Ch N r (1+smW N r.ways k) l
 |0,_,l,hl=>by
  have hl':l∈Vg (Qp N (E1 N) r):=hl
  obtain⟨e,he,rfl⟩:=List.mem_map.1 hl'
  exact one_ch he
 |k+1,hk,l,hl=>by
  rw[growW_succ (by omega)] at hl
  obtain⟨a,ha,p,hp,e,rfl⟩:=growL_mem hl
  have h2:=growW_ch h1 hw k (by omega) a ha
  have h3:=V8 (hw k (by omega))
  obtain⟨t1,t2,t3,t4⟩:=trav_ok h3 (h1 _ h3) p hp
  have h4:=h2.app t1 t3 t4 e
  rw[t2,Nat.add_assoc] at h4
  exact h4
def szIn (ws:List Wy)(id:Int)(a:Nat):Nat->Nat
 |0=>a
 |v+1=>if (wat ws v).id=id then szIn ws id a v+(wat ws v).weights.length else szIn ws id a v
def Zg (ws:List Wy)(ways:List Int):Nat->Nat
 |0=>2
 |u+1=>szIn ws (iat ways u) (Zg ws ways u) ws.length
theorem szIn_eq {ws:List Wy}{id:Int}{a:Nat}(hm:∀i j,i<j->j<ws.length->(wat ws i).id<(wat ws j).id)(hh:Ji ws id=true):∀v,v<=ws.length->szIn ws id a v=if wpos ws id<v then a+(wat ws (wpos ws id)).weights.length else a
 |0,_=>by simp[szIn]
 |v+1,hv=>by
  have h1:=V8 hh
  have h2:=wpos_id hh
  unfold szIn
  rw[szIn_eq hm hh v (by omega)]
  rcases Nat.lt_trichotomy (wpos ws id) v with c|c|c
  ·have:=hm _ _ c (by omega)
   rw[if_neg (by omega),if_pos c,if_pos (by omega)]
  ·subst c
   rw[if_pos h2,if_neg (by omega),if_pos (by omega)]
  ·have:=hm _ _ c h1
   rw[if_neg (by omega),if_neg (by omega),if_neg (by omega)]
theorem szTo_eq {N:Nt}{ways:List Int}(hm:∀i j,i<j->j<N.ways.length->(wat N.ways i).id<(wat N.ways j).id)(hw:∀k,k<ways.length->Ji N.ways (iat ways k)=true):∀u,u<=ways.length->Zg N.ways ways u=2+smW N ways u
 |0,_=>rfl
 |u+1,hu=>by
  have h:=hw u (by omega)
  unfold Zg
  rw[szIn_eq hm h _ (Nat.le_refl _),if_pos (V8 h),szTo_eq hm hw u (by omega)]
  show _=2+(smW N ways u+nsN N (wpos N.ways (iat ways u)))
  unfold nsN
  omega
structure Acc (N:Nt)(r:Rl)(q:List Int):Prop where
 len:q.length=Zg N.ways r.ways r.ways.length
 two:2<=q.length
 big:q.length<=100000
 inn:∀u,u<q.length->0<=iat q u/\iat q u<(E1 N).length
 join:∀u,u+1<q.length->(eat (E1 N) (iat q u).toNat).head=(eat (E1 N) (iat q (u+1)).toNat).tail
 frm:∃i,i<N.ways.length/\(eat (E1 N) (iat q 0).toNat).way=(i:Int)/\(wat N.ways i).id=r.frm
 dst:∃i,i<N.ways.length/\(eat (E1 N) (iat q (q.length-1)).toNat).way=(i:Int)/\(wat N.ways i).id=r.to
 via:r.via=true->iat N.nodes (eat (E1 N) (iat q 0).toNat).head.toNat=r.node
theorem nums_at {l:List Nat}{u:Nat}(hu:u<l.length):∃e,l[u]?=some e/\iat (Qd l) u=(e:Int):=by
 refine⟨l[u],List.getElem?_eq_getElem hu,?_⟩
 rw[Vp (by rw[Qw];exact hu)]
 simp[Qd]
theorem ch_acc {N:Nt}{r:Rl}{n b:Nat}{l:List Nat}(hc:Ch N r n l)(hb:b∈J2 N (E1 N) r)(he:hdL (E1 N) l=tlL (E1 N) [b])(hf:Ji N.ways r.frm=true)(ht:Ji N.ways r.to=true)(hn:n+1=Zg N.ways r.ways r.ways.length)(hbig:n+1<=100000)(hv:r.via=true->iat N.nodes (eat (E1 N) (l.headD 0)).head.toNat=r.node):Acc N r (Qd (l++[b])):=by
 unfold J2 Jp at hb
 obtain⟨b1,b2⟩:=List.mem_filter.1 hb
 have bl:=List.mem_range.1 b1
 have bw:(eat (E1 N) b).way=(wpos N.ways r.to:Int):=by unfold Vx at b2;simpa using b2
 have h:=hc.app (p:=[b]) (by simp) (λe q=>by have e2:e=b:=(by simpa using q);rw[e2];exact bl) (λu a c _ q=>by simp at q) he
 have hl:(l++[b]).length=n+1:=h.len
 have n1:1<=n:=by
  have:=List.length_pos_iff.2 hc.ne
  have:=hc.len
  omega
 have h0:(l++[b])[0]?=some (l.headD 0):=by
  rw[List.getElem?_append_left (by have:=hc.len;omega)]
  exact at_head hc.ne
 have z0:iat (Qd (l++[b])) 0=((l.headD 0:Nat):Int):=by
  obtain⟨e,e1,e2⟩:=nums_at (l:=l++[b]) (u:=0) (by omega)
  rw[h0] at e1
  rw[e2,Option.some.inj e1]
 have zl:iat (Qd (l++[b])) (n+1-1)=(b:Int):=by
  obtain⟨e,e1,e2⟩:=nums_at (l:=l++[b]) (u:=n) (by omega)
  rw[List.getElem?_append_right (by rw[hc.len];exact Nat.le_refl _),hc.len,Nat.sub_self] at e1
  rw[Nat.add_sub_cancel,e2]
  simp at e1
  rw[e1]
 refine⟨by rw[Qw,hl,hn],by rw[Qw,hl];omega,by rw[Qw,hl];exact hbig,λu hu=>?_,λu hu=>?_,⟨_,V8 hf,?_,wpos_id hf⟩,⟨_,V8 ht,?_,wpos_id ht⟩,λe=>?_⟩
 ·rw[Qw] at hu
  obtain⟨e,e1,e2⟩:=nums_at hu
  have:=h.lt e (List.mem_of_getElem? e1)
  rw[e2]
  omega
 ·rw[Qw] at hu
  obtain⟨e,e1,e2⟩:=nums_at (l:=l++[b]) (u:=u) (by omega)
  obtain⟨f,f1,f2⟩:=nums_at hu
  rw[e2,f2,Int.toNat_natCast,Int.toNat_natCast]
  exact h.jn u e f e1 f1
 ·rw[z0,Int.toNat_natCast]
  exact hc.hd
 ·rw[Qw,hl,zl,Int.toNat_natCast]
  exact bw
 ·rw[z0,Int.toNat_natCast]
  exact hv e
theorem acc_of {N:Nt}(hv:Qh N=true){k:Nat}(hk:k<N.rels.length){l:List Nat}(h:l∈Y1 N N.nodes (E1 N) (rat N.rels k)):Acc N (rat N.rels k) (Qd l):=by
 have hr:=X9 hv
 have h1:∀i,i<N.ways.length->1<=nsN N i:=hr.one
 have hI:=all_in hv k hk
 have hm:∀i j,i<j->j<N.ways.length->(wat N.ways i).id<(wat N.ways j).id:=Yv (f:=λi=>(wat N.ways i).id) (λi j=>rfl) hr.ascw
 have hG:=hr.rel k hk
 have hE:=E1_le (Jq hv)
 generalize rat N.rels k=r at *
 have hwv:r.via=true->r.ways=[]:=λe=>by
  simp only[J9,Bool.and_eq_true] at hG
  obtain⟨_,_,_,hT⟩:=hG
  unfold J6 at hT
  rw[if_pos e] at hT
  simp at hT
  exact hT.1
 have hsz:=szTo_eq hm hI.ways r.ways.length (Nat.le_refl _)
 have big:∀t,t<=r.ways.length->smW N r.ways t<=4000*t:=λt=>by
  induction t with
  |zero=>intro _;simp[smW]
  |succ t ih=>
   intro ht
   have a:=ih (by omega)
   have b:nsN N (wpos N.ways (iat r.ways t))<=4000:=by
    have hw:=V8 (hI.ways t (by omega))
    have e:=th_seq hw
    have e2:=thTo_len (E1 N) (wpos N.ways (iat r.ways t)) (E1 N).length
    rw[Qw,e,List.length_map,List.length_range] at e2
    omega
   show smW N r.ways t+nsN N _<=_
   omega
 have hb4:=big r.ways.length (Nat.le_refl _)
 have hl4:=hI.len
 unfold Y1 at h
 split at h
 ·rename_i e
  obtain⟨a,ha,p,hp,ej,rfl⟩:=growL_mem h
  obtain⟨x,hx,rfl⟩:=List.mem_map.1 ha
  obtain⟨b,hb,rfl⟩:=List.mem_map.1 hp
  obtain⟨x1,x2⟩:=List.mem_filter.1 hx
  refine ch_acc (n:=1) (one_ch x1) hb ej hI.frm hI.dst ?_ (by omega) (λ_=>?_)
  ·rw[hwv e];rfl
  ·unfold Vf at x2
   simpa using x2
 ·rename_i e
  obtain⟨a,ha,p,hp,ej,rfl⟩:=growL_mem h
  obtain⟨b,hb,rfl⟩:=List.mem_map.1 hp
  refine ch_acc (growW_ch h1 hI.ways _ (Nat.le_refl _) a ha) hb ej hI.frm hI.dst ?_ (by omega) (λq=>absurd q e)
  rw[hsz]
  omega
theorem lwSame_any (B B':Nat)(v v':Value)(xs ys:List Int)(w:World)(h0:Qo B w v xs)(h1:Qo B' w v' ys) :
  Calls Tryz.prog 10 #[v,v'] w λe w'=>e=.returned (.bool (decide (xs=ys)))/\Nx w w':=by
 obtain⟨a,cap,rfl,hn,hk⟩:=h0
 obtain⟨a',cap',rfl,hn',hk'⟩:=h1
 unfold maxLen at hn hn'
 generalize hz:xs.length=n at *
 have HZ:Hid (xs.length=n):=hz
 clear hz
 generalize hz:ys.length=n' at *
 have HZ':Hid (ys.length=n'):=hz
 clear hz
 by_cases hl:n=n'
 case neg=>
  have hd:((n:Int) !=(n':Int))=true:=by simp;omega
  have HF:Hid (false=decide (xs=ys)):=by
   unfold Hid
   symm
   rw[decide_eq_false_iff_not]
   intro e
   apply hl
   rw[<-HZ.out,<-HZ'.out,e]
  clear hl
  go_enter Tryz.func10,Tryz.ntmps10
  go_wp2
  go_ret
  exact⟨Q8 HF.out,Nx.refl _⟩
 subst hl
 have hd:((n:Int) !=(n:Int))=false:=by simp
 go_enter Tryz.func10,Tryz.ntmps10
 go_wp2
 go_loopw [5] (λi wr=>∃k:Nat,k<=n/\i=.int .i64 k/\Hid (agTo xs ys k)/\Hid (Nx w wr)) (λi _=>n-(intOf i).toNat)
 case atStart=>exact⟨0,Nat.zero_le _,rfl,agTo_zero _ _,Nx.refl _⟩
 obtain⟨k,hkn,rfl,HA,HN⟩:=hrel
 by_cases hlt:k<n
 ·obtain⟨b,off,rfl,hB,hb,hc⟩:=hk (by omega)
  obtain⟨b',off',rfl,hB',hb',hc'⟩:=hk' (by omega)
  have c0:=Q0 HN.out hb (hc k hlt)
  have c1:=Q0 HN.out hb' (hc' k hlt)
  have hlt':(k:Int)<n:=by omega
  clear hc hk hc' hk'
  by_cases he:iat xs k=iat ys k
  ·have he':(iat xs k !=iat ys k)=false:=by simpa using he
   have HA':Hid (agTo xs ys (k+1)):=agTo_succ HA.out he
   clear he
   go_wp2
   go_quiet (fail)
   go_wp2
   go_roundw
   case rel=>exact⟨k+1,by omega,by go_num,HA',HN.out.trans ⟨rfl,rfl,rfl,Nat.le_refl _,λ_ _=>rfl⟩⟩
   case measure=>simp[intOf];omega
  ·have he':(iat xs k !=iat ys k)=true:=by simpa using he
   have HF:Hid (false=decide (xs=ys)):=by
    unfold Hid
    symm
    rw[decide_eq_false_iff_not]
    intro e
    exact he (by rw[e])
   clear he
   go_wp2
   go_quiet (fail)
   go_wp2
   go_ret
   exact⟨Q8 HF.out,HN.out.trans ⟨rfl,rfl,rfl,Nat.le_refl _,λ_ _=>rfl⟩⟩
 have ek:n=k:=by omega
 subst ek
 have HF:Hid (true=decide (xs=ys)):=by
  unfold Hid
  symm
  rw[decide_eq_true_iff]
  exact ag_all (by rw[HZ.out];exact HA.out) (by rw[HZ.out,HZ'.out])
 clear HA hlt hkn hk hk'
 go_wp2
 go_ret
 exact⟨Q8 HF.out,HN.out⟩
def rtN (N:Nt)(k:Nat):Rs:=Qq (U0 N (Xd N)) N.rels k
theorem rt_of {N:Nt}(hv:Qh N=true):J5 N=rtN N N.rels.length:=by unfold J5;rw[if_pos hv];rfl
theorem rt_step {N:Nt}(hv:Qh N=true){k:Nat}(hk:k<N.rels.length) :
  (∃d,rtN N (k+1)=⟨(rtN N k).rules,(rtN N k).drops++[⟨(rat N.rels k).id,d⟩]⟩) \/
  ∃q,rtN N (k+1)=⟨(rtN N k).rules++[⟨(rat N.rels k).id,(rat N.rels k).only,q⟩],(rtN N k).drops⟩/\Acc N (rat N.rels k) q/\rpt (rtN N k).rules (rat N.rels k).only q=false:=by
 have e0:rtN N (k+1)=Jo (rtN N k) (rat N.rels k) (U0 N (Xd N) (rat N.rels k)):=rfl
 have hin:∀l∈U0 N (Xd N) (rat N.rels k),Acc N (rat N.rels k) (Qd l):=λl hl=>acc_of hv hk hl
 rw[e0]
 generalize U0 N (Xd N) (rat N.rels k)=ch at *
 unfold Jo
 by_cases e:reason (rtN N k).rules (rat N.rels k).only ch=0
 ·rw[if_pos e]
  unfold reason at e
  by_cases c0:ch.length=0
  ·rw[if_pos c0] at e;omega
  ·by_cases c1:1<ch.length
   ·rw[if_neg c0,if_pos c1] at e;omega
   ·rw[if_neg c0,if_neg c1] at e
    refine Or.inr ⟨_,rfl,hin _ (lsat_mem (by omega)),?_⟩
    cases hr:rpt (rtN N k).rules (rat N.rels k).only (Qd (Jj ch 0))
    ·rfl
    ·rw[hr] at e
     simp at e
 ·rw[if_neg e]
  exact Or.inl ⟨_,rfl⟩
theorem rt_len {N:Nt}(hv:Qh N=true):∀k,k<=N.rels.length->(rtN N k).rules.length+(rtN N k).drops.length=k
 |0,_=>rfl
 |k+1,hk=>by
  have h:=rt_len hv k (by omega)
  rcases rt_step hv (k:=k) (by omega) with⟨d,e⟩|⟨q,e,_⟩
  ·rw[e];simp;omega
  ·rw[e];simp;omega
theorem rt_pre {N:Nt}(hv:Qh N=true){k:Nat}:∀m,k+m<=N.rels.length->(rtN N k).rules <+: (rtN N (k+m)).rules/\(rtN N k).drops <+: (rtN N (k+m)).drops
 |0,_=>⟨List.prefix_refl _,List.prefix_refl _⟩
 |m+1,hm=>by
  have h:=rt_pre hv (k:=k) m (by omega)
  have e0:rtN N (k+(m+1))=rtN N (k+m+1):=rfl
  rw[e0]
  rcases rt_step hv (k:=k+m) (by omega) with⟨d,e⟩|⟨q,e,_⟩
  ·rw[e];exact⟨h.1,h.2.trans (List.prefix_append _ _)⟩
  ·rw[e];exact⟨h.1.trans (List.prefix_append _ _),h.2⟩
theorem pre_at {α:Type}{a b:List α}(h:a <+: b){i:Nat}(hi:i<a.length):b[i]?=a[i]?:=by
 obtain⟨t,rfl⟩:=h
 exact List.getElem?_append_left hi
theorem ruat_get {xs ys:List Ru}{i:Nat}(h:xs[i]?=ys[i]?):V0 xs i=V0 ys i:=by
 unfold V0
 rw[List.getD_eq_getElem?_getD,List.getD_eq_getElem?_getD,h]
theorem dpat_get {xs ys:List Dp}{i:Nat}(h:xs[i]?=ys[i]?):dpat xs i=dpat ys i:=by
 unfold dpat
 rw[List.getD_eq_getElem?_getD,List.getD_eq_getElem?_getD,h]
theorem rt_later {N:Nt}(hv:Qh N=true){k:Nat}:∀m,k+m<=N.rels.length->∀j,(rtN N k).drops.length<=j->j<(rtN N (k+m)).drops.length->∃k',k<=k'/\k'<N.rels.length/\(dpat (rtN N (k+m)).drops j).rel=(rat N.rels k').id
 |0,_,j,h1,h2=>by rw[Nat.add_zero] at h2;omega
 |m+1,hm,j,h1,h2=>by
  have e0:rtN N (k+(m+1))=rtN N (k+m+1):=rfl
  rw[e0] at h2 ⊢
  rcases rt_step hv (k:=k+m) (by omega) with⟨d,e⟩|⟨q,e,_⟩
  ·rw[e] at h2 ⊢
   simp only[List.length_append,List.length_singleton] at h2
   by_cases c:j<(rtN N (k+m)).drops.length
   ·obtain⟨k',a1,a2,a3⟩:=rt_later hv m (by omega) j h1 c
    refine⟨k',a1,a2,?_⟩
    rw[<-a3]
    congr 1
    exact dpat_get (List.getElem?_append_left c)
   ·refine⟨k+m,by omega,by omega,?_⟩
    have ej:j=(rtN N (k+m)).drops.length:=by omega
    subst ej
    simp[dpat,List.getD_eq_getElem?_getD]
  ·rw[e] at h2 ⊢
   exact rt_later hv m (by omega) j h1 h2
structure LwD (N:Nt)(k:Nat):Prop where
 lt:(rtN N k).drops.length<(J5 N).drops.length
 rel:(dpat (J5 N).drops (rtN N k).drops.length).rel=(rat N.rels k).id
 ri:(rtN N (k+1)).rules.length=(rtN N k).rules.length
 dj:(rtN N (k+1)).drops.length=(rtN N k).drops.length+1
structure LwR (N:Nt)(k:Nat):Prop where
 no:(rtN N k).drops.length<(J5 N).drops.length->(dpat (J5 N).drops (rtN N k).drops.length).rel≠(rat N.rels k).id
 lt:(rtN N k).rules.length<(J5 N).rules.length
 rel:(V0 (J5 N).rules (rtN N k).rules.length).rel=(rat N.rels k).id
 only:(V0 (J5 N).rules (rtN N k).rules.length).only=(rat N.rels k).only
 acc:Acc N (rat N.rels k) (V0 (J5 N).rules (rtN N k).rules.length).seq
 new:∀u,u<(rtN N k).rules.length->(V0 (J5 N).rules u).only=(rat N.rels k).only->(V0 (J5 N).rules u).seq≠(V0 (J5 N).rules (rtN N k).rules.length).seq
 ri:(rtN N (k+1)).rules.length=(rtN N k).rules.length+1
 dj:(rtN N (k+1)).drops.length=(rtN N k).drops.length
theorem law_step {N:Nt}(hv:Qh N=true){k:Nat}(hk:k<N.rels.length):LwD N k\/LwR N k:=by
 have hp:=rt_pre hv (k:=k+1) (N.rels.length-(k+1)) (by omega)
 have hp0:=rt_pre hv (k:=k) (N.rels.length-k) (by omega)
 rw[show k+1+(N.rels.length-(k+1))=N.rels.length by omega,<-rt_of hv] at hp
 rw[show k+(N.rels.length-k)=N.rels.length by omega,<-rt_of hv] at hp0
 have asc:∀i j,i<j->j<N.rels.length->(rat N.rels i).id<(rat N.rels j).id:=by
  have h:=hv
  simp only[Qh,Bool.and_eq_true] at h
  exact Yv (f:=λi=>(rat N.rels i).id) (λi j=>rfl) h.2.2.2.2.1.2
 rcases rt_step hv hk with⟨d,e⟩|⟨q,e,hA,hr⟩
 ·have hl:(rtN N (k+1)).drops.length=(rtN N k).drops.length+1:=by rw[e];simp
  have hat:(J5 N).drops[(rtN N k).drops.length]?=some ⟨(rat N.rels k).id,d⟩:=by
   rw[pre_at hp.2 (by omega),e]
   simp
  refine Or.inl ⟨(List.getElem?_eq_some_iff.1 hat).1,?_,by rw[e],hl⟩
  unfold dpat
  rw[List.getD_eq_getElem?_getD,hat]
  rfl
 ·have hl:(rtN N (k+1)).rules.length=(rtN N k).rules.length+1:=by rw[e];simp
  have hat:(J5 N).rules[(rtN N k).rules.length]?=some ⟨(rat N.rels k).id,(rat N.rels k).only,q⟩:=by
   rw[pre_at hp.1 (by omega),e]
   simp
  have ha:V0 (J5 N).rules (rtN N k).rules.length=⟨(rat N.rels k).id,(rat N.rels k).only,q⟩:=by
   unfold V0
   rw[List.getD_eq_getElem?_getD,hat]
   rfl
  refine Or.inr ⟨λhj he=>?_,(List.getElem?_eq_some_iff.1 hat).1,by rw[ha],by rw[ha],by rw[ha];exact hA,λu hu ho hs=>?_,hl,by rw[e]⟩
  ·have hlat:=rt_later hv (k:=k+1) (N.rels.length-(k+1)) (by omega) (rtN N k).drops.length (by rw[e];exact Nat.le_refl _)
   rw[show k+1+(N.rels.length-(k+1))=N.rels.length by omega,<-rt_of hv] at hlat
   obtain⟨k',a1,a2,a3⟩:=hlat hj
   have:=asc k k' (by omega) a2
   rw[he] at a3
   omega
  ·rw[ha] at hs
   have e1:V0 (J5 N).rules u=V0 (rtN N k).rules u:=ruat_get (pre_at hp0.1 hu)
   rw[e1] at ho hs
   unfold rpt at hr
   rw[List.any_eq_false] at hr
   refine hr (V0 (rtN N k).rules u) ?_ (by simp[ho,hs])
   rw[ruat_eq hu]
   exact List.getElem_mem hu
end Go.Proofs.YthhbdfiopjclcaaGreatDoor
