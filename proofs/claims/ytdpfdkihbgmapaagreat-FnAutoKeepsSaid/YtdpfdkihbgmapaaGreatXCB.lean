import Derived.Test.YtdpfdkihbgmapaaGreatXAC
import Derived.Maps.AppendAt
import Derived.Deep.RegionLaw
namespace Go.Proofs.YtdpfdkihbgmapaaGreat
open Go.RowKit Go.Sort
set_option linter.unusedVariables false
set_option maxRecDepth 1000000
set_option maxHeartbeats 16000000
theorem lex_tri {a b:List Int}(hl:a.length=b.length)(hn:a≠b)(h:lexB a b=false):lexB b a=true:=by
 induction a generalizing b with
 |nil=>cases b with
  |nil=>exact absurd rfl hn
  |cons y b=>simp at hl
 |cons x a ih=>cases b with
  |nil=>simp at hl
  |cons y b=>
   unfold lexB at h ⊢
   by_cases e:x=y
   ·subst e
    rw[if_pos rfl] at h ⊢
    exact ih (by simpa using hl) (λe=>hn (by rw[e])) h
   ·rw[if_neg e] at h
    rw[if_neg (λh'=>e h'.symm)]
    simp at h ⊢
    omega
theorem bef_tri {a b:List Int}(hn:a≠b)(h:befB a b=false):befB b a=true:=by
 unfold befB at h ⊢
 by_cases e:a.length=b.length
 ·rw[if_pos e] at h
  rw[if_pos e.symm]
  exact lex_tri e hn h
 ·rw[if_neg e] at h
  rw[if_neg (λh'=>e h'.symm)]
  simp at h ⊢
  omega
def insAt (ws:List (List Int))(i:Nat)(x:List Int):List (List Int):=ws.take i++x::ws.drop i
theorem insAt_len {ws:List (List Int)}{i:Nat}(x:List Int)(h:i<=ws.length):(insAt ws i x).length=ws.length+1:=by
 simp[insAt];omega
theorem insAt_at {ws:List (List Int)}{i:Nat}(x:List Int)(h:i<=ws.length)(j:Nat):wd (insAt ws i x) j=if j<i then wd ws j else if j=i then x else wd ws (j-1):=by
 unfold wd insAt
 have hl:(ws.take i).length=i:=by rw[List.length_take];omega
 by_cases c:j<i
 ·rw[if_pos c,List.getD,List.getElem?_append_left (by omega),List.getElem?_take_of_lt c];rfl
 ·rw[if_neg c,List.getD,List.getElem?_append_right (by omega),hl]
  by_cases d:j=i
  ·subst d
   rw[if_pos rfl];simp
  ·rw[if_neg d]
   obtain⟨m,rfl⟩:∃m,j=i+(m+1):=⟨j-i-1,by omega⟩
   rw[show i+(m+1)-i=m+1 by omega,List.getElem?_cons_succ,List.getElem?_drop,show i+(m+1)-1=i+m by omega];rfl
theorem insAt_asc {ws:List (List Int)}{x:List Int}{i:Nat}(ha:AscW ws)(h:PlaceW ws x i i)(hi:i<=ws.length)(hn:∀j,j<ws.length->wd ws j≠x):AscW (insAt ws i x):=by
 intro a b hab hb
 rw[insAt_len x hi] at hb
 rw[insAt_at x hi,insAt_at x hi]
 by_cases c1:b<i
 ·rw[if_pos c1,if_pos (by omega)];exact ha a b hab (by omega)
 ·rw[if_neg c1]
  by_cases c2:b=i
  ·subst c2
   rw[if_pos rfl,if_pos hab]
   exact h.1 a hab
  ·rw[if_neg c2]
   have hx:befB x (wd ws (b-1))=true:=bef_tri (hn (b-1) (by omega)) (h.2 (b-1) (by omega) (by omega))
   by_cases c3:a<i
   ·rw[if_pos c3];exact ha a (b-1) (by omega) (by omega)
   ·rw[if_neg c3]
    by_cases c4:a=i
    ·rw[if_pos c4];exact hx
    ·rw[if_neg c4];exact ha (a-1) (b-1) (by omega) (by omega)
def inW (ws:List (List Int))(x:List Int):Prop:=∃j,j<ws.length/\wd ws j=x
def InsW (ws:List (List Int))(x:List Int)(ws':List (List Int)):Prop:=
 (inW ws x/\ws'=ws)\/(¬inW ws x/\∃i,i<=ws.length/\PlaceW ws x i i/\ws'=insAt ws i x)
theorem InsW.asc {ws ws':List (List Int)}{x:List Int}(h:InsW ws x ws')(ha:AscW ws):AscW ws':=by
 rcases h with⟨_,rfl⟩|⟨hn,i,hi,hp,rfl⟩
 ·exact ha
 ·exact insAt_asc ha hp hi λj hj e=>hn ⟨j,hj,e⟩
theorem InsW.mem {ws ws':List (List Int)}{x:List Int}(h:InsW ws x ws')(y:List Int):inW ws' y↔y=x\/inW ws y:=by
 rcases h with⟨h1,rfl⟩|⟨hn,i,hi,hp,rfl⟩
 ·exact⟨Or.inr,λh=>h.elim (λe=>e▸h1) id⟩
 ·constructor
  ·rintro⟨j,hj,e⟩
   rw[insAt_len x hi] at hj
   rw[insAt_at x hi] at e
   by_cases c:j<i
   ·rw[if_pos c] at e;exact Or.inr ⟨j,by omega,e⟩
   ·rw[if_neg c] at e
    by_cases d:j=i
    ·rw[if_pos d] at e;exact Or.inl e.symm
    ·rw[if_neg d] at e;exact Or.inr ⟨j-1,by omega,e⟩
  ·rintro(rfl|⟨j,hj,e⟩)
   ·exact⟨i,by rw[insAt_len _ hi];omega,by rw[insAt_at _ hi,if_neg (Nat.lt_irrefl _),if_pos rfl]⟩
   ·by_cases c:j<i
    ·exact⟨j,by rw[insAt_len x hi];omega,by rw[insAt_at x hi,if_pos c];exact e⟩
    ·exact⟨j+1,by rw[insAt_len x hi];omega,by rw[insAt_at x hi,if_neg (by omega),if_neg (by omega),Nat.add_sub_cancel];exact e⟩
theorem InsW.len {ws ws':List (List Int)}{x:List Int}(h:InsW ws x ws'):ws.length<=ws'.length/\ws'.length<=ws.length+1:=by
 rcases h with⟨_,rfl⟩|⟨hn,i,hi,hp,rfl⟩
 ·omega
 ·rw[insAt_len x hi];omega
def WR (B:Nat)(w0 w:World)(v:Value)(ws:List (List Int)):Prop:=
 ∃cs:List Value,w.ownsRow w0.heap.size 51 1 v ws.length cs/\∀i,i<ws.length->HInts B w0 (vat cs i) (wd ws i)/\CapOk (vat cs i)
theorem WR.slice {B:Nat}{w0 w:World}{v:Value}{ws:List (List Int)}(h:WR B w0 w v ws):∃a c,v=.slice a ws.length c:=by
 obtain⟨cs,h1,_⟩:=h
 rcases h1.2 with⟨rfl,h2⟩|⟨g,cap,cur,rfl,_⟩
 ·exact⟨none,0,by rw[h2]⟩
 ·exact⟨_,_,rfl⟩
theorem own_next {C ty sz:Nat}{w w':World}{v:Value}{n:Nat}{xs:List Value}(h:w.ownsRow C ty sz v n xs)(k:Nx w w'):w'.ownsRow C ty sz v n xs:=by
 obtain⟨h3,h4⟩:=h
 refine⟨h3,?_⟩
 rcases h4 with h4|⟨g,cap,cur,hv,hg,hh,r⟩
 ·exact Or.inl h4
 ·exact Or.inr ⟨g,cap,cur,hv,hg,(k.block g (Array.getElem?_eq_some_iff.1 hh).1).trans hh,r⟩
theorem WR.next {B:Nat}{w0 w w':World}{v:Value}{ws:List (List Int)}(h:WR B w0 w v ws)(k:Nx w w'):WR B w0 w' v ws:=by
 obtain⟨cs,h1,h2⟩:=h
 exact⟨cs,own_next h1 k,h2⟩
theorem WR.held {B:Nat}{w0 w:World}{v:Value}{ws:List (List Int)}(h:WR B w0 w v ws)(k:Nx w0 w):HWords 0 w v ws:=by
 obtain⟨cs,h1,h2⟩:=h
 obtain⟨h3,h4⟩:=h1
 rw[Nat.mul_one] at h3
 rcases h4 with⟨rfl,h4⟩|⟨g,cap,cur,rfl,hg,hh,hc,hm,hs,ht⟩
 ·unfold HWords
  rw[h4]
  exact⟨_,_,rfl,by simp[maxLen],λh=>by omega⟩
 ·refine⟨_,_,rfl,by omega,λh0=>⟨g,0,rfl,Nat.zero_le _,(Array.getElem?_eq_some_iff.1 hh).1,λi hi=>⟨vat cs i,?_,((h2 i hi).1.next k).base (Nat.zero_le _),(h2 i hi).2⟩⟩⟩
  have e:(cur.toList.take (ws.length*1))[i]?=cs[i]?:=by rw[ht]
  rw[List.getElem?_take_of_lt (by omega),Array.getElem?_toList] at e
  show w.cell? ⟨g,0+i,none⟩=_
  rw[Nat.zero_add]
  simp[World.cell?,hh,e,vat,List.getD,show i<cs.length by omega]
def OV (C:Nat)(w:World)(g n cap:Nat)(F:Nat->Value):Prop:=
 ∃cur,C<=g/\w.heap[g]?=some (.cells cur 51 (0,0))/\n<=cap/\cap<=maxLen/\cur.size=cap/\∀i,i<n->cur[i]?=some (F i)
theorem OV.of {C:Nat}{w:World}{v:Value}{n:Nat}{cs:List Value}(h:w.ownsRow C 51 1 v n cs)(h0:0<n):∃g cap,v=.slice (some ⟨g,0,none⟩) n cap/\OV C w g n cap (vat cs):=by
 obtain⟨h3,h4⟩:=h
 rcases h4 with⟨_,h4⟩|⟨g,cap,cur,rfl,hg,hh,hc,hm,hs,ht⟩
 ·omega
 ·refine⟨g,cap,rfl,cur,hg,hh,hc,hm,by omega,λi hi=>?_⟩
  have e:(cur.toList.take (n*1))[i]?=cs[i]?:=by rw[ht]
  rw[List.getElem?_take_of_lt (by omega),Array.getElem?_toList] at e
  rw[e]
  simp[vat,List.getD,show i<cs.length by omega]
theorem OV.own {C:Nat}{w:World}{g n cap:Nat}{F:Nat->Value}(h:OV C w g n cap F):w.ownsRow C 51 1 (.slice (some ⟨g,0,none⟩) n cap) n ((List.range n).map F):=by
 obtain⟨cur,hg,hh,hc,hm,hs,hF⟩:=h
 refine⟨by simp,.inr ⟨g,cap,cur,rfl,hg,hh,hc,hm,by omega,?_⟩⟩
 apply List.ext_getElem?
 intro i
 by_cases c:i<n
 ·rw[List.getElem?_take_of_lt (by omega),Array.getElem?_toList,hF i c]
  simp[c]
 ·rw[List.getElem?_eq_none (by simp;omega),List.getElem?_eq_none (by simp;omega)]
theorem OV.cell {C:Nat}{w:World}{g n cap:Nat}{F:Nat->Value}(h:OV C w g n cap F){i:Nat}(hi:i<n):w.cell? ⟨g,i,none⟩=some (F i):=by
 obtain⟨cur,hg,hh,hc,hm,hs,hF⟩:=h
 simp[World.cell?,hh,hF i hi]
theorem OV.frozen {C:Nat}{w:World}{g n cap:Nat}{F:Nat->Value}(h:OV C w g n cap F)(i:Nat):w.frozen? ⟨g,i,none⟩=false:=by
 obtain⟨cur,hg,hh,_⟩:=h
 simp[World.frozen?,hh]
theorem OV.ge {C:Nat}{w:World}{g n cap:Nat}{F:Nat->Value}(h:OV C w g n cap F):C<=g:=by
 obtain⟨cur,hg,_⟩:=h
 exact hg
theorem OV.set {C:Nat}{w:World}{g n cap:Nat}{F:Nat->Value}(h:OV C w g n cap F)(i:Nat)(x:Value):OV C (w.setCell ⟨g,i,none⟩ x) g n cap (λj=>if j=i then x else F j):=by
 obtain⟨cur,hg,hh,hc,hm,hs,hF⟩:=h
 refine⟨cur.setIfInBounds i x,hg,by simp[World.setCell,Array.getElem?_modify,hh],hc,hm,by simpa using hs,λj hj=>?_⟩
 by_cases e:j=i
 ·subst e
  simp[show j<cur.size by omega]
 ·rw[Array.getElem?_setIfInBounds_ne (λh=>e h.symm),hF j hj]
  show some (F j)=some (if j=i then x else F j)
  rw[if_neg e]
theorem OV.congr {C:Nat}{w:World}{g n cap:Nat}{F G:Nat->Value}(h:OV C w g n cap F)(e:∀i,i<n->F i=G i):OV C w g n cap G:=by
 obtain⟨cur,hg,hh,hc,hm,hs,hF⟩:=h
 exact⟨cur,hg,hh,hc,hm,hs,λi hi=>by rw[hF i hi,e i hi]⟩
def shF (c:Nat->Value)(t k:Nat):Value:=if k<=t then c k else c (k-1)
theorem infoW:(Tryz.prog.info? 51).map (λi=>(i.zero,i.size,i.bytes))=some (some (.agg #[.slice none 0 0]),1,24):=by kernel_rfl
def InsE (B:Nat)(w0 w':World)(ws:List (List Int))(x:List Int)(e:Ending):Prop:=∃v2 ws',e=.returned v2/\WR B w0 w' v2 ws'/\InsW ws x ws'
theorem l3Insert_any (B:Nat)(w0 w:World)(v:Value)(xa:Option Addr)(xn xc:Nat)(ws:List (List Int))(x:List Int)(hW:WR B w0 w v ws)(hN:Nx w0 w)(hx:HInts B w0 (.slice xa xn xc) x)(hxc:xn<=xc)(ha:AscW ws)(hl:ws.length<=100000)(h0:0<ws.length) :
  Calls Tryz.prog 35 #[v,.slice xa xn xc] w λe w'=>InsE B w0 w' ws x e/\Nx w0 w':=by
 obtain⟨ii,hi,hz0,hz1,hz2⟩:=info_parts infoW
 have HW:Hid (WR B w0 w v ws):=hW
 have HN0:Hid (Nx w0 w):=hN
 have HX:Hid (HInts B w0 (.slice xa xn xc) x):=hx
 have HXC:Hid (xn<=xc):=hxc
 have HA:Hid (AscW ws):=ha
 have HL:Hid (ws.length<=100000):=hl
 obtain⟨va,vc,hvs⟩:=hW.slice
 subst hvs
 clear hx ha hN hW hxc
 go_enter Tryz.func35,Tryz.ntmps35
 go_wp2_with fail
 refine(l3Place_any 0 B _ _ ws x _ (HW.out.held HN0.out) (HX.out.next HN0.out) HA.out (by have:=HL.out;omega)).mono ?_
 rintro e w1 ⟨⟨i,rfl,hin,hp⟩,hx1⟩
 have HN1:Hid (Nx w0 w1):=HN0.out.trans hx1
 have HW1:Hid (WR B w0 w1 (.slice va ws.length vc) ws):=HW.out.next hx1
 have HP:Hid (PlaceW ws x i i):=hp
 clear hp hx1 HW HN0
 have hH:=HW1.out.held HN1.out
 obtain⟨ha',hc',hev,hmx,hrow⟩:=hH
 simp only[Value.slice.injEq] at hev
 obtain⟨rfl,_,rfl⟩:=hev
 unfold maxLen at hmx
 have HNO:Hid ((i<ws.length->wd ws i≠x)->¬inW ws x):=by
  intro hne
  rintro⟨j,hj,ej⟩
  rcases Nat.lt_trichotomy j i with h1|rfl|h1
  ·have:=HP.out.1 j h1
   rw[ej,bef_self] at this;cases this
  ·exact hne hj ej
  ·have h2:=HA.out i j h1 hj
   have h3:=HP.out.2 i (Nat.le_refl _) (by omega)
   rw[ej] at h2
   rw[h2] at h3;cases h3
 generalize hz:ws.length=n at *
 have HZ:Hid (ws.length=n):=hz
 clear hz
 obtain⟨b,off,rfl,_,hb,hc⟩:=hrow h0
 by_cases hlt:i<n
 ·obtain⟨vi,hci,hHi,cpi⟩:=hc i hlt
  have hlt':(i:Int)<n:=by omega
  obtain⟨a2,n2,c2,rfl,_⟩:=cpi
  have HHI:Hid (HInts 0 w1 (.slice a2 n2 c2) (wd ws i)):=hHi
  clear hc hHi
  go_wp2_with fail
  refine(l2Same_any 0 B _ _ (wd ws i) x _ (by exact HHI.out) (by exact HX.out.next HN1.out)).mono ?_
  rintro e w2 ⟨rfl,hx2⟩
  have HNZ:Hid (Nx w0 w2):=HN1.out.trans hx2
  have HWZ:Hid (WR B w0 w2 (.slice (some ⟨b,off,none⟩) n vc) ws):=HW1.out.next hx2
  clear hx2 HW1 HN1 HHI hci hrow
  by_cases hsm:wd ws i=x
  ·have hd:decide (wd ws i=x)=true:=by simpa using hsm
   have HIN:Hid (inW ws x):=⟨i,by rw[HZ.out];exact hlt,hsm⟩
   rw[hd]
   clear hsm hd
   go_wp2
   go_ret
   exact⟨⟨_,ws,rfl,HWZ.out,Or.inl ⟨HIN.out,rfl⟩⟩,HNZ.out⟩
  have hd:decide (wd ws i=x)=false:=by simpa using hsm
  have HNI:Hid (¬inW ws x):=HNO.out λ_=>hsm
  rw[hd]
  clear hsm hd HNO
  obtain⟨cs,hown,hcs⟩:=HWZ.out
  have hcl:cs.length=n:=by have:=hown.1;rw[HZ.out] at this;omega
  rw[HZ.out] at hown hcs
  have HOWN:Hid (w2.ownsRow w0.heap.size 51 1 (.slice (some ⟨b,off,none⟩) n vc) n cs):=hown
  have HCS:Hid (∀i,i<n->HInts B w0 (vat cs i) (wd ws i)/\CapOk (vat cs i)):=hcs
  clear hown hcs HWZ
  go_wp2_with (at_builtin;refine wpList_append_own_at _ rfl _ _ 48 rfl w0.heap.size 51 ii (.agg #[.slice none 0 0]) 1 24 Tryz.underlying48 hi hz0 hz1 hz2 rfl (by decide) _ _ _ rfl (World.ownsRow.alloc HOWN.out _) ⟨w2.heap.size,0,none⟩ 1 1 [.slice xa xn xc] rfl rfl ?c1 ?c2 ?c3 ?c4 ?c5 ?_)
  case c1=>exact λj u hj=>new_cells w2 _ _ _ rfl j u hj
  case c2=>intro u hu;simp at hu;subst hu;rfl
  case c3=>have:=HL.out;unfold maxLen;omega
  case c4=>have:=HL.out;omega
  case c5=>have:=HNZ.out.size;simp;omega
  intro v7 w7 hown' hgrow _ _
  have HN7:Hid (Nx w0 w7):=Below.grown (Below.alloc HNZ.out HNZ.out.size _) hgrow (by have:=HNZ.out.size;simp;omega) (λg hg=>(own_lt HOWN.out g hg).1)
  obtain⟨g,cap7,hv7,hov⟩:=OV.of hown' (by omega)
  subst hv7
  have HSL:Hid (∀k,k<n+1->∃a n c,vat (cs++[.slice xa xn xc]) k=.slice a n c/\n<=c):=by
   intro k hk
   by_cases e:k<n
   ·have:vat (cs++[.slice xa xn xc]) k=vat cs k:=by simp[vat,List.getD,List.getElem?_append_left (show k<cs.length by omega)]
    rw[this]
    exact(HCS.out k e).2
   ·have:vat (cs++[.slice xa xn xc]) k=.slice xa xn xc:=by rw[show k=cs.length by omega];simp[vat,List.getD]
    rw[this]
    exact⟨_,_,_,rfl,HXC.out⟩
  have HFIN:Hid (∀k,k<n+1->HInts B w0 (if k=i then .slice xa xn xc else shF (vat (cs++[.slice xa xn xc])) i k) (wd (insAt ws i x) k)/\CapOk (if k=i then .slice xa xn xc else shF (vat (cs++[.slice xa xn xc])) i k)):=by
   intro k hk
   rw[insAt_at x (by rw[HZ.out];exact hin)]
   unfold shF
   have hcc:∀q,q<n->vat (cs++[.slice xa xn xc]) q=vat cs q:=λq hq=>by simp[vat,List.getD,List.getElem?_append_left (show q<cs.length by omega)]
   by_cases e1:k<i
   ·rw[if_neg (by omega),if_pos (by omega),if_pos e1,hcc k (by omega)]
    exact HCS.out k (by omega)
   ·rw[if_neg e1]
    by_cases e2:k=i
    ·rw[if_pos e2,if_pos e2]
     exact⟨HX.out,_,_,_,rfl,HXC.out⟩
    ·rw[if_neg e2,if_neg e2,if_neg (by omega),hcc (k-1) (by omega)]
     exact HCS.out (k-1) (by omega)
  have HOV:Hid (OV w0.heap.size w7 g (n+1) cap7 (shF (vat (cs++[.slice xa xn xc])) n)):=hov.congr λk hk=>by unfold shF;rw[if_pos (by omega)]
  have HGE:Hid (w0.heap.size<=g):=hov.ge
  clear hown' hgrow hov HOWN HCS HNZ hcl
  generalize vat (cs++[.slice xa xn xc])=c at *
  have hln:=HL.out
  have wn:IntKind.i64.wrap ((n:Int)+1-1)=(n:Int):=by rw[IntKind.wrap_i64];omega
  have wn2:((n:Int)+1-1)=(n:Int):=by omega
  have wn3:=wrapJ n (by omega)
  go_wp2
  go_loopw [6] (λj wr=>∃t:Nat,i<=t/\t<=n/\j=.int .i64 t/\Hid (OV w0.heap.size wr g (n+1) cap7 (shF c t))/\Hid (Nx w0 wr)) (λj _=>(intOf j).toNat)
  case atStart=>exact⟨n,hin,Nat.le_refl _,by go_num,HOV,HN7⟩
  clear HOV HN7
  obtain⟨t,hit,htn,rfl,HOV,HN⟩:=hrel
  by_cases hgt:i<t
  ·obtain⟨s,rfl⟩:∃s,t=s+1:=⟨t-1,by omega⟩
   have hgt':(i:Int)<(s:Int)+1:=by omega
   have y0:=HOV.out.cell (i:=s) (by omega)
   have y1:=HOV.out.cell (i:=s+1) (by omega)
   have y2:=HOV.out.frozen (s+1)
   have ws1:IntKind.i64.wrap ((s:Int)+1-1)=(s:Int):=by rw[IntKind.wrap_i64];omega
   have ws2:((s:Int)+1-1)=(s:Int):=by omega
   have ws3:=wrapJ s (by omega)
   have hs1:(s:Int)<(n:Int)+1:=by omega
   have hs2:(s:Int)+1<(n:Int)+1:=by omega
   have es:shF c (s+1) s=c s:=by unfold shF;rw[if_pos (by omega)]
   rw[es] at y0
   obtain⟨qa,qn,qc,hq,_⟩:=HSL.out s (by omega)
   have HQ:Hid (c s=.slice qa qn qc):=hq
   rw[hq] at y0
   clear es hq wn wn2 wn3
   go_wp2
   go_roundw
   case rel=>exact⟨s,by omega,by omega,by go_num,(HOV.out.set (s+1) (.slice qa qn qc)).congr (λk hk=>by
     show(if k=s+1 then Value.slice qa qn qc else shF c (s+1) k)=shF c s k
     unfold shF
     by_cases e:k=s+1
     ·subst e;rw[if_pos rfl,if_neg (by omega),Nat.add_sub_cancel,HQ.out]
     ·rw[if_neg e]
      by_cases e2:k<=s
      ·rw[if_pos (by omega),if_pos e2]
      ·rw[if_neg (by omega),if_neg e2]),Below.setCell HN.out HGE.out _⟩
   case measure=>simp[intOf]
  ·have et:t=i:=by omega
   subst et
   have y1:=HOV.out.cell (i:=t) (by omega)
   have y2:=HOV.out.frozen t
   have hs2:(t:Int)<(n:Int)+1:=by omega
   have hgt':¬(t:Int)<t:=by omega
   have HRES:Hid (∀w8,OV w0.heap.size w8 g (n+1) cap7 (λk=>if k=t then .slice xa xn xc else shF c t k)->WR B w0 w8 (.slice (some ⟨g,0,none⟩) (n+1) cap7) (insAt ws t x)):=by
    intro w8 h8
    have hl8:(insAt ws t x).length=n+1:=by rw[insAt_len x (by rw[HZ.out];exact hin),HZ.out]
    refine⟨_,by rw[hl8];exact h8.own,λk hk=>?_⟩
    rw[hl8] at hk
    have:vat ((List.range (n+1)).map (λk=>if k=t then Value.slice xa xn xc else shF c t k)) k=if k=t then Value.slice xa xn xc else shF c t k:=by simp[vat,List.getD,hk]
    rw[this]
    exact HFIN.out k hk
   clear hgt wn wn2 wn3
   go_wp2
   go_ret
   exact⟨⟨_,_,rfl,HRES.out _ (HOV.out.set t (.slice xa xn xc)),Or.inr ⟨HNI.out,t,by rw[HZ.out];exact hin,HP.out,rfl⟩⟩,Below.setCell HN.out HGE.out _⟩
 ·have hlt2:¬(i:Int)<n:=by omega
  have HNI:Hid (¬inW ws x):=HNO.out λh=>absurd h hlt
  have HNZ:Hid (Nx w0 w1):=HN1
  have HWZ:Hid (WR B w0 w1 (.slice (some ⟨b,off,none⟩) n vc) ws):=HW1
  clear hc HW1 HN1 HNO hrow
  obtain⟨cs,hown,hcs⟩:=HWZ.out
  have hcl:cs.length=n:=by have:=hown.1;rw[HZ.out] at this;omega
  rw[HZ.out] at hown hcs
  have HOWN:Hid (w1.ownsRow w0.heap.size 51 1 (.slice (some ⟨b,off,none⟩) n vc) n cs):=hown
  have HCS:Hid (∀i,i<n->HInts B w0 (vat cs i) (wd ws i)/\CapOk (vat cs i)):=hcs
  clear hown hcs HWZ
  go_wp2_with (at_builtin;refine wpList_append_own_at _ rfl _ _ 48 rfl w0.heap.size 51 ii (.agg #[.slice none 0 0]) 1 24 Tryz.underlying48 hi hz0 hz1 hz2 rfl (by decide) _ _ _ rfl (World.ownsRow.alloc HOWN.out _) ⟨w1.heap.size,0,none⟩ 1 1 [.slice xa xn xc] rfl rfl ?c1 ?c2 ?c3 ?c4 ?c5 ?_)
  case c1=>exact λj u hj=>new_cells w1 _ _ _ rfl j u hj
  case c2=>intro u hu;simp at hu;subst hu;rfl
  case c3=>have:=HL.out;unfold maxLen;omega
  case c4=>have:=HL.out;omega
  case c5=>have:=HNZ.out.size;simp;omega
  intro v7 w7 hown' hgrow _ _
  have HN7:Hid (Nx w0 w7):=Below.grown (Below.alloc HNZ.out HNZ.out.size _) hgrow (by have:=HNZ.out.size;simp;omega) (λg hg=>(own_lt HOWN.out g hg).1)
  obtain⟨g,cap7,hv7,hov⟩:=OV.of hown' (by omega)
  subst hv7
  have HSL:Hid (∀k,k<n+1->∃a n c,vat (cs++[.slice xa xn xc]) k=.slice a n c/\n<=c):=by
   intro k hk
   by_cases e:k<n
   ·have:vat (cs++[.slice xa xn xc]) k=vat cs k:=by simp[vat,List.getD,List.getElem?_append_left (show k<cs.length by omega)]
    rw[this]
    exact(HCS.out k e).2
   ·have:vat (cs++[.slice xa xn xc]) k=.slice xa xn xc:=by rw[show k=cs.length by omega];simp[vat,List.getD]
    rw[this]
    exact⟨_,_,_,rfl,HXC.out⟩
  have HFIN:Hid (∀k,k<n+1->HInts B w0 (if k=i then .slice xa xn xc else shF (vat (cs++[.slice xa xn xc])) i k) (wd (insAt ws i x) k)/\CapOk (if k=i then .slice xa xn xc else shF (vat (cs++[.slice xa xn xc])) i k)):=by
   intro k hk
   rw[insAt_at x (by rw[HZ.out];exact hin)]
   unfold shF
   have hcc:∀q,q<n->vat (cs++[.slice xa xn xc]) q=vat cs q:=λq hq=>by simp[vat,List.getD,List.getElem?_append_left (show q<cs.length by omega)]
   by_cases e1:k<i
   ·rw[if_neg (by omega),if_pos (by omega),if_pos e1,hcc k (by omega)]
    exact HCS.out k (by omega)
   ·rw[if_neg e1]
    by_cases e2:k=i
    ·rw[if_pos e2,if_pos e2]
     exact⟨HX.out,_,_,_,rfl,HXC.out⟩
    ·rw[if_neg e2,if_neg e2,if_neg (by omega),hcc (k-1) (by omega)]
     exact HCS.out (k-1) (by omega)
  have HOV:Hid (OV w0.heap.size w7 g (n+1) cap7 (shF (vat (cs++[.slice xa xn xc])) n)):=hov.congr λk hk=>by unfold shF;rw[if_pos (by omega)]
  have HGE:Hid (w0.heap.size<=g):=hov.ge
  clear hown' hgrow hov HOWN HCS HNZ hcl
  generalize vat (cs++[.slice xa xn xc])=c at *
  have hln:=HL.out
  have wn:IntKind.i64.wrap ((n:Int)+1-1)=(n:Int):=by rw[IntKind.wrap_i64];omega
  have wn2:((n:Int)+1-1)=(n:Int):=by omega
  have wn3:=wrapJ n (by omega)
  go_wp2
  go_loopw [6] (λj wr=>∃t:Nat,i<=t/\t<=n/\j=.int .i64 t/\Hid (OV w0.heap.size wr g (n+1) cap7 (shF c t))/\Hid (Nx w0 wr)) (λj _=>(intOf j).toNat)
  case atStart=>exact⟨n,hin,Nat.le_refl _,by go_num,HOV,HN7⟩
  clear HOV HN7
  obtain⟨t,hit,htn,rfl,HOV,HN⟩:=hrel
  by_cases hgt:i<t
  ·exfalso;omega
  ·have et:t=i:=by omega
   subst et
   have y1:=HOV.out.cell (i:=t) (by omega)
   have y2:=HOV.out.frozen t
   have hs2:(t:Int)<(n:Int)+1:=by omega
   have hgt':¬(t:Int)<t:=by omega
   have HRES:Hid (∀w8,OV w0.heap.size w8 g (n+1) cap7 (λk=>if k=t then .slice xa xn xc else shF c t k)->WR B w0 w8 (.slice (some ⟨g,0,none⟩) (n+1) cap7) (insAt ws t x)):=by
    intro w8 h8
    have hl8:(insAt ws t x).length=n+1:=by rw[insAt_len x (by rw[HZ.out];exact hin),HZ.out]
    refine⟨_,by rw[hl8];exact h8.own,λk hk=>?_⟩
    rw[hl8] at hk
    have:vat ((List.range (n+1)).map (λk=>if k=t then Value.slice xa xn xc else shF c t k)) k=if k=t then Value.slice xa xn xc else shF c t k:=by simp[vat,List.getD,hk]
    rw[this]
    exact HFIN.out k hk
   clear hgt wn wn2 wn3
   go_wp2
   go_ret
   exact⟨⟨_,_,rfl,HRES.out _ (HOV.out.set t (.slice xa xn xc)),Or.inr ⟨HNI.out,t,by rw[HZ.out];exact hin,HP.out,rfl⟩⟩,Below.setCell HN.out HGE.out _⟩
def most (x:Ru):Nat:=if x.only then x.seq.length-1 else x.seq.length
def PW (rs:List Ru)(i k:Nat)(y:List Int):Prop:=
 y=[]\/(∃j,j<i/\∃q,1<=q/\q<=most (ratA rs j)/\y=(ratA rs j).seq.take q)\/∃q,1<=q/\q<k/\y=(ratA rs i).seq.take q
structure WI (rs:List Ru)(i k:Nat)(ws:List (List Int)):Prop where
 asc:AscW ws
 l0:0<ws.length
 l1:ws.length<=2001
 yes:∀y,inW ws y->PW rs i k y
 all:ws.length<=2000->∀y,PW rs i k y->inW ws y
theorem PW.up {rs:List Ru}{i k:Nat}{y:List Int}(h:PW rs i k y):PW rs i (k+1) y:=by
 rcases h with h|h|⟨q,h1,h2,h3⟩
 ·exact Or.inl h
 ·exact Or.inr (Or.inl h)
 ·exact Or.inr (Or.inr ⟨q,h1,by omega,h3⟩)
theorem WI.start (rs:List Ru):WI rs 0 1 [[]]:=by
 refine⟨λi j h1 h2=>by simp at h2;omega,by simp,by simp,λy h=>?_,λ_ y h=>?_⟩
 ·obtain⟨j,hj,e⟩:=h
  simp at hj
  subst hj
  exact Or.inl e.symm
 ·rcases h with rfl|⟨j,hj,_⟩|⟨q,h1,h2,_⟩
  ·exact⟨0,by simp,rfl⟩
  ·omega
  ·omega
theorem WI.step {rs:List Ru}{i k:Nat}{ws ws':List (List Int)}{x:List Int}(h:WI rs i k ws)(hI:InsW ws x ws')(hx:x=(ratA rs i).seq.take k)(hl:ws.length<=2000)(hk:1<=k:=by omega):WI rs i (k+1) ws':=by
 have hlen:=hI.len
 refine⟨hI.asc h.asc,by have:=h.l0;omega,by omega,λy hy=>?_,λ_ y hy=>?_⟩
 ·rcases (hI.mem y).1 hy with rfl|hy
  ·exact Or.inr (Or.inr ⟨k,hk,Nat.lt_succ_self _,hx⟩)
  ·exact(h.yes y hy).up
 ·refine(hI.mem y).2 ?_
  rcases hy with hy|hy|⟨q,h1,h2,h3⟩
  ·exact Or.inr (h.all hl y (Or.inl hy))
  ·exact Or.inr (h.all hl y (Or.inr (Or.inl hy)))
  ·by_cases e:q=k
   ·subst e;exact Or.inl (h3.trans hx.symm)
   ·exact Or.inr (h.all hl y (Or.inr (Or.inr ⟨q,h1,by omega,h3⟩)))
theorem WI.skip {rs:List Ru}{i k:Nat}{ws:List (List Int)}(h:WI rs i k ws)(hl:¬ws.length<=2000):WI rs i (k+1) ws:=
 ⟨h.asc,h.l0,h.l1,λy hy=>(h.yes y hy).up,λh'=>absurd h' hl⟩
theorem WI.close {rs:List Ru}{i m:Nat}{ws:List (List Int)}(h:WI rs i (m+1) ws)(hm:most (ratA rs i)=m):WI rs (i+1) 1 ws:=by
 refine⟨h.asc,h.l0,h.l1,λy hy=>?_,λhl y hy=>h.all hl y ?_⟩
 ·rcases h.yes y hy with h1|⟨j,hj,q,h1,h2,h3⟩|⟨q,h1,h2,h3⟩
  ·exact Or.inl h1
  ·exact Or.inr (Or.inl ⟨j,by omega,q,h1,h2,h3⟩)
  ·exact Or.inr (Or.inl ⟨i,by omega,q,h1,by omega,h3⟩)
 ·rcases hy with h1|⟨j,hj,q,h1,h2,h3⟩|⟨q,h1,h2,h3⟩
  ·exact Or.inl h1
  ·by_cases e:j=i
   ·subst e;exact Or.inr (Or.inr ⟨q,h1,by omega,h3⟩)
   ·exact Or.inr (Or.inl ⟨j,by omega,q,h1,h2,h3⟩)
  ·omega
def WdE (B:Nat)(rs:List Ru)(w w':World)(e:Ending):Prop:=∃v2 ws,e=.returned v2/\WR B w w' v2 ws/\WI rs rs.length 1 ws
theorem l3Words_any (B:Nat)(v:Value)(rs:List Ru)(w:World)(h0:HRules B w v rs)(hg:∀i,i<rs.length->2<=(ratA rs i).seq.length/\(ratA rs i).seq.length<=402) :
  Calls Tryz.prog 18 #[v] w λe w'=>WdE B rs w w' e/\Nx w w':=by
 have HGD:Hid (∀i,i<rs.length->2<=(ratA rs i).seq.length/\(ratA rs i).seq.length<=402):=hg
 clear hg
 obtain⟨a,cap,rfl,hn,hk⟩:=h0
 unfold maxLen at hn
 generalize hz:rs.length=n at *
 have HZ:Hid (rs.length=n):=hz
 clear hz
 have HWR0:Hid (WR B w ((w.alloc (.cells #[] 2)).alloc (.cells #[.slice (some ⟨w.heap.size,0,none⟩) 0 0] 51)) (.slice (some ⟨w.heap.size+1,0,none⟩) 1 1) [[]]):=by
  refine⟨[.slice (some ⟨w.heap.size,0,none⟩) 0 0],⟨rfl,.inr ⟨w.heap.size+1,1,#[.slice (some ⟨w.heap.size,0,none⟩) 0 0],rfl,Nat.le_succ _,?_,Nat.le_refl _,by simp[maxLen],by simp,by simp⟩⟩,λi hi=>?_⟩
  ·show((w.heap.push _).push _)[w.heap.size+1]?=_
   rw[Array.getElem?_push,if_pos (by simp)]
  ·have e:i=0:=by simpa using hi
   subst e
   exact⟨⟨_,_,rfl,by simp[maxLen,wd],λh=>by simp[wd] at h⟩,_,_,_,rfl,Nat.le_refl _⟩
 go_enter Tryz.func18,Tryz.ntmps18
 go_wp2
 go_loopw [3,4,5,6] (λu i _ _ wr=>∃(k:Nat) (ws:List (List Int)),k<=n/\i=.int .i64 k/\Hid (WR B w wr u ws)/\Hid (Nx w wr)/\Hid (WI rs k 1 ws)) (λ_ i _ _ _=>n-(intOf i).toNat)
 case atStart=>exact⟨0,_,Nat.zero_le _,rfl,HWR0,box2 _ _ _,WI.start rs⟩
 clear HWR0
 obtain⟨k,ws0,hkn,rfl,HWR,HN,HWI⟩:=hrel
 by_cases hlt:k<n
 case neg=>
  have ek:n=k:=by omega
  have HF:Hid (WI rs rs.length 1 ws0):=by unfold Hid;rw[HZ.out,ek];exact HWI.out
  clear ek
  obtain⟨va,vc,hvs⟩:=HWR.out.slice
  subst hvs
  go_wp2
  go_ret
  exact⟨⟨_,ws0,rfl,HWR.out,HF.out⟩,HN.out⟩
 obtain⟨b,off,rfl,_,hb,hc⟩:=hk (by omega)
 obtain⟨sa,sc,c0',c1',c2',hS,hcap⟩:=hc k hlt
 have C0:Hid (w.cell? ⟨b,off+k*3+2,none⟩=some (.slice sa (ratA rs k).seq.length sc)):=c2'
 have c1:=cellq' HN.out c1'
 have c2:=cellq' HN.out c2'
 have hlt':(k:Int)<n:=by omega
 have h2:=HGD.out k hlt
 have HS:Hid (HInts B w (.slice sa (ratA rs k).seq.length sc) (ratA rs k).seq):=hS
 have HMO0:Hid (most (ratA rs k)=if (ratA rs k).only=true then (ratA rs k).seq.length-1 else (ratA rs k).seq.length):=rfl
 clear hc hk c0' c1' c2' hS HGD
 generalize hx:ratA rs k=x at *
 have HX:Hid (ratA rs k=x):=hx
 clear hx
 generalize hq:x.seq.length=m at *
 clear hq
 obtain⟨p,rfl⟩:∃p,m=p+1:=⟨m-1,by omega⟩
 have w1:IntKind.i64.wrap ((p:Int)+1-1)=(p:Int):=by rw[IntKind.wrap_i64];omega
 have w2:((p:Int)+1-1)=(p:Int):=by omega
 have wp:=wrapJ p (by omega)
 cases g1:x.only
 case true=>
  have HMO:Hid (most x=p):=by unfold Hid;rw[HMO0.out,g1,if_pos rfl];rfl
  rw[g1] at c1
  clear g1 HMO0
  go_wp2
  go_loopw [3,6] (λu j wz=>∃(q:Nat) (ws:List (List Int)),1<=q/\q<=p+1/\j=.int .i64 q/\Hid (WR B w wz u ws)/\Hid (Nx w wz)/\Hid (WI rs k q ws)) (λ_ j _=>p+1-(intOf j).toNat)
  case atStart=>exact⟨1,_,Nat.le_refl _,by omega,rfl,HWR,HN,HWI⟩
  clear HWR HWI HN
  obtain⟨q,ws,hq1,hqm,rfl,HWR,HN,HWI⟩:=hrel
  obtain⟨va,vc,hvs⟩:=HWR.out.slice
  subst hvs
  have c0:=cellq' HN.out C0.out
  by_cases hql:q<=p
  ·have hql':(q:Int)<=p:=by omega
   have hqc:(q:Int)<=sc:=by omega
   have hql2:=HWI.out.l1
   by_cases hle:ws.length<=2000
   ·have hle':decide ((ws.length:Int)<=2000)=true:=by simp;omega
    have HXQ:Hid (HInts B w (.slice sa q sc) (x.seq.take q)):=HS.out.take (by omega) _
    go_wp2_with fail
    refine(l3Insert_any B w _ _ _ _ _ ws (x.seq.take q) (by exact HWR.out) HN.out (by exact HXQ.out) (by omega) HWI.out.asc (by omega) HWI.out.l0).mono ?_
    rintro e w1 ⟨⟨v2,ws',rfl,hW',hI⟩,hx⟩
    have HW1:Hid (WR B w w1 v2 ws'):=hW'
    have HN1:Hid (Nx w w1):=hx
    have HI1:Hid (WI rs k (q+1) ws'):=HWI.out.step hI (by rw[HX.out]) hle
    clear hW' hI hx
    go_wp2
    go_roundw
    case rel=>exact⟨q+1,_,by omega,by omega,by go_num,HW1,HN1,HI1⟩
    case measure=>simp[intOf];omega
   ·have hle':decide ((ws.length:Int)<=2000)=false:=by simp;omega
    have HI1:Hid (WI rs k (q+1) ws):=HWI.out.skip hle
    go_wp2
    go_roundw
    case rel=>exact⟨q+1,_,by omega,by omega,by go_num,HWR,HN,HI1⟩
    case measure=>simp[intOf];omega
  ·have eq:q=p+1:=by omega
   have HI1:Hid (WI rs (k+1) 1 ws):=(eq▸HWI.out).close (by rw[HX.out];exact HMO.out)
   have hql':¬(q:Int)<=p:=by omega
   clear eq
   go_wp2
   go_roundw
   case rel=>exact⟨k+1,_,by omega,by go_num,HWR,HN,HI1⟩
   case measure=>simp[intOf];omega
 case false=>
  have HMO:Hid (most x=p+1):=by unfold Hid;rw[HMO0.out,g1];rfl
  rw[g1] at c1
  clear g1 HMO0
  generalize hmm:p+1=m at *
  have hmi:(p:Int)+1=m:=by omega
  rw[hmi] at *
  clear hmm hmi w1 w2 wp
  go_wp2
  go_loopw [3,6] (λu j wz=>∃(q:Nat) (ws:List (List Int)),1<=q/\q<=m+1/\j=.int .i64 q/\Hid (WR B w wz u ws)/\Hid (Nx w wz)/\Hid (WI rs k q ws)) (λ_ j _=>m+1-(intOf j).toNat)
  case atStart=>exact⟨1,_,Nat.le_refl _,by omega,rfl,HWR,HN,HWI⟩
  clear HWR HWI HN
  obtain⟨q,ws,hq1,hqm,rfl,HWR,HN,HWI⟩:=hrel
  obtain⟨va,vc,hvs⟩:=HWR.out.slice
  subst hvs
  have c0:=cellq' HN.out C0.out
  by_cases hql:q<=m
  ·have hql':(q:Int)<=m:=by omega
   have hqc:(q:Int)<=sc:=by omega
   have hql2:=HWI.out.l1
   by_cases hle:ws.length<=2000
   ·have hle':decide ((ws.length:Int)<=2000)=true:=by simp;omega
    have HXQ:Hid (HInts B w (.slice sa q sc) (x.seq.take q)):=HS.out.take (by omega) _
    go_wp2_with fail
    refine(l3Insert_any B w _ _ _ _ _ ws (x.seq.take q) (by exact HWR.out) HN.out (by exact HXQ.out) (by omega) HWI.out.asc (by omega) HWI.out.l0).mono ?_
    rintro e w1 ⟨⟨v2,ws',rfl,hW',hI⟩,hx⟩
    have HW1:Hid (WR B w w1 v2 ws'):=hW'
    have HN1:Hid (Nx w w1):=hx
    have HI1:Hid (WI rs k (q+1) ws'):=HWI.out.step hI (by rw[HX.out]) hle
    clear hW' hI hx
    go_wp2
    go_roundw
    case rel=>exact⟨q+1,_,by omega,by omega,by go_num,HW1,HN1,HI1⟩
    case measure=>simp[intOf];omega
   ·have hle':decide ((ws.length:Int)<=2000)=false:=by simp;omega
    have HI1:Hid (WI rs k (q+1) ws):=HWI.out.skip hle
    go_wp2
    go_roundw
    case rel=>exact⟨q+1,_,by omega,by omega,by go_num,HWR,HN,HI1⟩
    case measure=>simp[intOf];omega
  ·have eq:q=m+1:=by omega
   have HI1:Hid (WI rs (k+1) 1 ws):=(eq▸HWI.out).close (by rw[HX.out];exact HMO.out)
   have hql':¬(q:Int)<=m:=by omega
   clear eq
   go_wp2
   go_roundw
   case rel=>exact⟨k+1,_,by omega,by go_num,HWR,HN,HI1⟩
   case measure=>simp[intOf];omega
end Go.Proofs.YtdpfdkihbgmapaaGreat
namespace Go
set_option maxHeartbeats 16000000
end Go
namespace Go.Proofs.YtdpfdkihbgmapaaGreat
set_option maxHeartbeats 16000000
open Go.RowKit Go.Sort
set_option linter.unusedVariables false
set_option maxRecDepth 100000
theorem infoBool:(Tryz.prog.info? 4).map (λi=>(i.zero,i.size,i.bytes))=some (some (.bool false),1,1):=by kernel_rfl
def bcells (bs:List Bool):List Value:=bs.map λb=>.bool b
def OwnB (C:Nat)(w:World)(v:Value)(bs:List Bool):Prop:=w.ownsRow C 4 1 v bs.length (bcells bs)
theorem OwnB.snoc {B:Nat}{w:World}{v:Value}{bs:List Bool}{z:Bool}(h:w.ownsRow B 4 1 v (bs.length+1) (bcells bs++[.bool z])):OwnB B w v (bs++[z]):=by
 unfold OwnB
 have e:bcells (bs++[z])=bcells bs++[.bool z]:=by simp[bcells]
 rw[List.length_append,e]
 exact h
theorem OwnB.slice {B:Nat}{w:World}{v:Value}{bs:List Bool}(h:OwnB B w v bs):∃a c,v=.slice a bs.length c:=by
 rcases h.2 with⟨rfl,h2⟩|⟨g,cap,cur,rfl,_⟩
 ·exact⟨none,0,by rw[h2]⟩
 ·exact⟨_,_,rfl⟩
theorem bcells_at {bs:List Bool}{i:Nat}(hi:i<bs.length):(bcells bs)[i]?=some (.bool (bat bs i)):=by rw[bat_eq hi];simp[bcells,hi]
theorem OwnB.held {B:Nat}{w:World}{v:Value}{bs:List Bool}(h:OwnB B w v bs):HBools B w v bs:=by
 obtain⟨h1,h2⟩:=h
 rcases h2 with⟨rfl,h3⟩|⟨g,cap,cur,rfl,hg,hh,hc,hm,hs,ht⟩
 ·unfold HBools
  rw[h3]
  exact⟨_,_,rfl,Nat.zero_le _,λh=>absurd h (Nat.lt_irrefl _)⟩
 ·refine⟨_,_,rfl,by omega,λh0=>⟨g,0,rfl,hg,(Array.getElem?_eq_some_iff.1 hh).1,λi hi=>?_⟩⟩
  have e:(cur.toList.take (bs.length*1))[i]?=(bcells bs)[i]?:=by rw[ht]
  rw[List.getElem?_take_of_lt (by omega),bcells_at hi,Array.getElem?_toList] at e
  show w.cell? ⟨g,0+i,none⟩=_
  rw[Nat.zero_add]
  simp[World.cell?,hh,e]
theorem own_apart {p q:Value}(h:∀b,p.ownBlock=some b->q.ownBlock≠some b):q.ownBlock=none\/q.ownBlock≠p.ownBlock:=by
 cases e:q.ownBlock with
 |none=>exact Or.inl rfl
 |some b=>exact Or.inr λh'=>h b h'.symm e
theorem apart_swap {p q:Value}(h:∀b,p.ownBlock=some b->q.ownBlock≠some b):∀b,q.ownBlock=some b->p.ownBlock≠some b:=λb h1 h2=>h b h2 h1
theorem apart_new {p q v:Value}{w:World}{o:Obj}(h:∀b,p.ownBlock=some b->q.ownBlock≠some b)(hat:v.ownBlock=p.ownBlock\/v.ownBlock=some (w.alloc o).heap.size)(hq:∀b,q.ownBlock=some b->b<w.heap.size):∀b,v.ownBlock=some b->q.ownBlock≠some b:=by
 intro b hb hb'
 rcases hat with e|e
 ·exact h b (e▸hb) hb'
 ·rw[e] at hb
  have h1:=Option.some.inj hb
  have h2:=hq b hb'
  rw[size_alloc'] at h1
  omega
structure R5 (C g:Nat)(w:World)(p0 p1 p2 p3 p4:Value)(A:Au):Prop where
 gc:g<C
 bx:Blk w g #[p0,p1,p2,p3,p4]
 o0:OwnI C w p0 A.pa
 o1:OwnI C w p1 A.la
 o2:OwnI C w p2 A.fa
 o3:OwnI C w p3 A.mu
 o4:OwnB C w p4 A.bd
 a01:∀b,p0.ownBlock=some b->p1.ownBlock≠some b
 a02:∀b,p0.ownBlock=some b->p2.ownBlock≠some b
 a03:∀b,p0.ownBlock=some b->p3.ownBlock≠some b
 a12:∀b,p1.ownBlock=some b->p2.ownBlock≠some b
 a13:∀b,p1.ownBlock=some b->p3.ownBlock≠some b
 a23:∀b,p2.ownBlock=some b->p3.ownBlock≠some b
theorem R5.next {C g:Nat}{w:World}{p0 p1 p2 p3 p4:Value}{A:Au}{w':World}(h:R5 C g w p0 p1 p2 p3 p4 A)(k:Nx w w'):R5 C g w' p0 p1 p2 p3 p4 A:=
 ⟨h.gc,h.bx.next k,own_next h.o0 k,own_next h.o1 k,own_next h.o2 k,own_next h.o3 k,own_next h.o4 k,h.a01,h.a02,h.a03,h.a12,h.a13,h.a23⟩
theorem R5.app0 {C g:Nat}{w:World}{p0 p1 p2 p3 p4:Value}{A:Au}{w':World}{v:Value}{z:Int}(h:R5 C g w p0 p1 p2 p3 p4 A)(ob:Obj)(hown:w'.ownsRow C 2 1 v (A.pa.length+1) (icells A.pa++[.int .i64 z]))(hgr:(w.alloc ob).grownBy w' p0.ownBlock)(hat:v.ownBlock=p0.ownBlock\/v.ownBlock=some (w.alloc ob).heap.size) :
  R5 C g (w'.setCell ⟨g,0,none⟩ v) v p1 p2 p3 p4 { A with pa:=A.pa++[z] }:=
 ⟨h.gc,(Blk.grown (h.bx.alloc ob) hgr (λe=>by have:=(own_lt h.o0 _ e.symm).1;have:=h.gc;omega)).set 0 v,
  own_store (OwnI.snoc hown) h.gc 0 _,
  own_store (World.ownsRow.kept (World.ownsRow.alloc h.o1 ob) hgr (own_apart h.a01)) h.gc 0 _,
  own_store (World.ownsRow.kept (World.ownsRow.alloc h.o2 ob) hgr (own_apart h.a02)) h.gc 0 _,
  own_store (World.ownsRow.kept (World.ownsRow.alloc h.o3 ob) hgr (own_apart h.a03)) h.gc 0 _,
  own_store (World.ownsRow.kept (World.ownsRow.alloc h.o4 ob) hgr (own_ne h.o4 h.o0 (by decide))) h.gc 0 _,
  apart_new h.a01 hat (λb e=>(own_lt h.o1 b e).2),
  apart_new h.a02 hat (λb e=>(own_lt h.o2 b e).2),
  apart_new h.a03 hat (λb e=>(own_lt h.o3 b e).2),
  h.a12,
  h.a13,
  h.a23⟩
theorem R5.box0 {C g:Nat}{w:World}{p0 p1 p2 p3 p4:Value}{A:Au}{w':World}(h:R5 C g w p0 p1 p2 p3 p4 A)(ob:Obj)(hgr:(w.alloc ob).grownBy w' p0.ownBlock):w'.cell? ⟨g,0,none⟩=some p0/\w'.frozen? ⟨g,0,none⟩=false:=by
 have:=Blk.grown (h.bx.alloc ob) hgr (λe=>by have:=(own_lt h.o0 _ e.symm).1;have:=h.gc;omega)
 exact⟨this.cell (i:=0) rfl,this.frozen 0⟩
theorem R5.low0 {C g:Nat}{w:World}{p0 p1 p2 p3 p4:Value}{A:Au}{w0 w':World}{v:Value}(h:R5 C g w p0 p1 p2 p3 p4 A)(ob:Obj)(hgr:(w.alloc ob).grownBy w' p0.ownBlock)(hb:Below g w0 w):Below g w0 (w'.setCell ⟨g,0,none⟩ v):=
 Below.setCell (Below.grown (Below.alloc hb (Nat.le_of_lt h.bx.lt) ob) hgr (by have:=h.bx.lt;rw[size_alloc'];omega) (λb e=>by have:=(own_lt h.o0 b e).1;have:=h.gc;omega)) (Nat.le_refl _) _
theorem R5.app1 {C g:Nat}{w:World}{p0 p1 p2 p3 p4:Value}{A:Au}{w':World}{v:Value}{z:Int}(h:R5 C g w p0 p1 p2 p3 p4 A)(ob:Obj)(hown:w'.ownsRow C 2 1 v (A.la.length+1) (icells A.la++[.int .i64 z]))(hgr:(w.alloc ob).grownBy w' p1.ownBlock)(hat:v.ownBlock=p1.ownBlock\/v.ownBlock=some (w.alloc ob).heap.size) :
  R5 C g (w'.setCell ⟨g,1,none⟩ v) p0 v p2 p3 p4 { A with la:=A.la++[z] }:=
 ⟨h.gc,(Blk.grown (h.bx.alloc ob) hgr (λe=>by have:=(own_lt h.o1 _ e.symm).1;have:=h.gc;omega)).set 1 v,
  own_store (World.ownsRow.kept (World.ownsRow.alloc h.o0 ob) hgr (own_apart (apart_swap h.a01))) h.gc 1 _,
  own_store (OwnI.snoc hown) h.gc 1 _,
  own_store (World.ownsRow.kept (World.ownsRow.alloc h.o2 ob) hgr (own_apart h.a12)) h.gc 1 _,
  own_store (World.ownsRow.kept (World.ownsRow.alloc h.o3 ob) hgr (own_apart h.a13)) h.gc 1 _,
  own_store (World.ownsRow.kept (World.ownsRow.alloc h.o4 ob) hgr (own_ne h.o4 h.o1 (by decide))) h.gc 1 _,
  apart_swap (apart_new (apart_swap h.a01) hat (λb e=>(own_lt h.o0 b e).2)),
  h.a02,
  h.a03,
  apart_new h.a12 hat (λb e=>(own_lt h.o2 b e).2),
  apart_new h.a13 hat (λb e=>(own_lt h.o3 b e).2),
  h.a23⟩
theorem R5.box1 {C g:Nat}{w:World}{p0 p1 p2 p3 p4:Value}{A:Au}{w':World}(h:R5 C g w p0 p1 p2 p3 p4 A)(ob:Obj)(hgr:(w.alloc ob).grownBy w' p1.ownBlock):w'.cell? ⟨g,1,none⟩=some p1/\w'.frozen? ⟨g,1,none⟩=false:=by
 have:=Blk.grown (h.bx.alloc ob) hgr (λe=>by have:=(own_lt h.o1 _ e.symm).1;have:=h.gc;omega)
 exact⟨this.cell (i:=1) rfl,this.frozen 1⟩
theorem R5.low1 {C g:Nat}{w:World}{p0 p1 p2 p3 p4:Value}{A:Au}{w0 w':World}{v:Value}(h:R5 C g w p0 p1 p2 p3 p4 A)(ob:Obj)(hgr:(w.alloc ob).grownBy w' p1.ownBlock)(hb:Below g w0 w):Below g w0 (w'.setCell ⟨g,1,none⟩ v):=
 Below.setCell (Below.grown (Below.alloc hb (Nat.le_of_lt h.bx.lt) ob) hgr (by have:=h.bx.lt;rw[size_alloc'];omega) (λb e=>by have:=(own_lt h.o1 b e).1;have:=h.gc;omega)) (Nat.le_refl _) _
theorem R5.app2 {C g:Nat}{w:World}{p0 p1 p2 p3 p4:Value}{A:Au}{w':World}{v:Value}{z:Int}(h:R5 C g w p0 p1 p2 p3 p4 A)(ob:Obj)(hown:w'.ownsRow C 2 1 v (A.fa.length+1) (icells A.fa++[.int .i64 z]))(hgr:(w.alloc ob).grownBy w' p2.ownBlock)(hat:v.ownBlock=p2.ownBlock\/v.ownBlock=some (w.alloc ob).heap.size) :
  R5 C g (w'.setCell ⟨g,2,none⟩ v) p0 p1 v p3 p4 { A with fa:=A.fa++[z] }:=
 ⟨h.gc,(Blk.grown (h.bx.alloc ob) hgr (λe=>by have:=(own_lt h.o2 _ e.symm).1;have:=h.gc;omega)).set 2 v,
  own_store (World.ownsRow.kept (World.ownsRow.alloc h.o0 ob) hgr (own_apart (apart_swap h.a02))) h.gc 2 _,
  own_store (World.ownsRow.kept (World.ownsRow.alloc h.o1 ob) hgr (own_apart (apart_swap h.a12))) h.gc 2 _,
  own_store (OwnI.snoc hown) h.gc 2 _,
  own_store (World.ownsRow.kept (World.ownsRow.alloc h.o3 ob) hgr (own_apart h.a23)) h.gc 2 _,
  own_store (World.ownsRow.kept (World.ownsRow.alloc h.o4 ob) hgr (own_ne h.o4 h.o2 (by decide))) h.gc 2 _,
  h.a01,
  apart_swap (apart_new (apart_swap h.a02) hat (λb e=>(own_lt h.o0 b e).2)),
  h.a03,
  apart_swap (apart_new (apart_swap h.a12) hat (λb e=>(own_lt h.o1 b e).2)),
  h.a13,
  apart_new h.a23 hat (λb e=>(own_lt h.o3 b e).2)⟩
theorem R5.box2 {C g:Nat}{w:World}{p0 p1 p2 p3 p4:Value}{A:Au}{w':World}(h:R5 C g w p0 p1 p2 p3 p4 A)(ob:Obj)(hgr:(w.alloc ob).grownBy w' p2.ownBlock):w'.cell? ⟨g,2,none⟩=some p2/\w'.frozen? ⟨g,2,none⟩=false:=by
 have:=Blk.grown (h.bx.alloc ob) hgr (λe=>by have:=(own_lt h.o2 _ e.symm).1;have:=h.gc;omega)
 exact⟨this.cell (i:=2) rfl,this.frozen 2⟩
theorem R5.low2 {C g:Nat}{w:World}{p0 p1 p2 p3 p4:Value}{A:Au}{w0 w':World}{v:Value}(h:R5 C g w p0 p1 p2 p3 p4 A)(ob:Obj)(hgr:(w.alloc ob).grownBy w' p2.ownBlock)(hb:Below g w0 w):Below g w0 (w'.setCell ⟨g,2,none⟩ v):=
 Below.setCell (Below.grown (Below.alloc hb (Nat.le_of_lt h.bx.lt) ob) hgr (by have:=h.bx.lt;rw[size_alloc'];omega) (λb e=>by have:=(own_lt h.o2 b e).1;have:=h.gc;omega)) (Nat.le_refl _) _
theorem R5.app3 {C g:Nat}{w:World}{p0 p1 p2 p3 p4:Value}{A:Au}{w':World}{v:Value}{z:Int}(h:R5 C g w p0 p1 p2 p3 p4 A)(ob:Obj)(hown:w'.ownsRow C 2 1 v (A.mu.length+1) (icells A.mu++[.int .i64 z]))(hgr:(w.alloc ob).grownBy w' p3.ownBlock)(hat:v.ownBlock=p3.ownBlock\/v.ownBlock=some (w.alloc ob).heap.size) :
  R5 C g (w'.setCell ⟨g,3,none⟩ v) p0 p1 p2 v p4 { A with mu:=A.mu++[z] }:=
 ⟨h.gc,(Blk.grown (h.bx.alloc ob) hgr (λe=>by have:=(own_lt h.o3 _ e.symm).1;have:=h.gc;omega)).set 3 v,
  own_store (World.ownsRow.kept (World.ownsRow.alloc h.o0 ob) hgr (own_apart (apart_swap h.a03))) h.gc 3 _,
  own_store (World.ownsRow.kept (World.ownsRow.alloc h.o1 ob) hgr (own_apart (apart_swap h.a13))) h.gc 3 _,
  own_store (World.ownsRow.kept (World.ownsRow.alloc h.o2 ob) hgr (own_apart (apart_swap h.a23))) h.gc 3 _,
  own_store (OwnI.snoc hown) h.gc 3 _,
  own_store (World.ownsRow.kept (World.ownsRow.alloc h.o4 ob) hgr (own_ne h.o4 h.o3 (by decide))) h.gc 3 _,
  h.a01,
  h.a02,
  apart_swap (apart_new (apart_swap h.a03) hat (λb e=>(own_lt h.o0 b e).2)),
  h.a12,
  apart_swap (apart_new (apart_swap h.a13) hat (λb e=>(own_lt h.o1 b e).2)),
  apart_swap (apart_new (apart_swap h.a23) hat (λb e=>(own_lt h.o2 b e).2))⟩
theorem R5.box3 {C g:Nat}{w:World}{p0 p1 p2 p3 p4:Value}{A:Au}{w':World}(h:R5 C g w p0 p1 p2 p3 p4 A)(ob:Obj)(hgr:(w.alloc ob).grownBy w' p3.ownBlock):w'.cell? ⟨g,3,none⟩=some p3/\w'.frozen? ⟨g,3,none⟩=false:=by
 have:=Blk.grown (h.bx.alloc ob) hgr (λe=>by have:=(own_lt h.o3 _ e.symm).1;have:=h.gc;omega)
 exact⟨this.cell (i:=3) rfl,this.frozen 3⟩
theorem R5.low3 {C g:Nat}{w:World}{p0 p1 p2 p3 p4:Value}{A:Au}{w0 w':World}{v:Value}(h:R5 C g w p0 p1 p2 p3 p4 A)(ob:Obj)(hgr:(w.alloc ob).grownBy w' p3.ownBlock)(hb:Below g w0 w):Below g w0 (w'.setCell ⟨g,3,none⟩ v):=
 Below.setCell (Below.grown (Below.alloc hb (Nat.le_of_lt h.bx.lt) ob) hgr (by have:=h.bx.lt;rw[size_alloc'];omega) (λb e=>by have:=(own_lt h.o3 b e).1;have:=h.gc;omega)) (Nat.le_refl _) _
theorem R5.app4 {C g:Nat}{w:World}{p0 p1 p2 p3 p4:Value}{A:Au}{w':World}{v:Value}{z:Bool}(h:R5 C g w p0 p1 p2 p3 p4 A)(ob:Obj)(hown:w'.ownsRow C 4 1 v (A.bd.length+1) (bcells A.bd++[.bool z]))(hgr:(w.alloc ob).grownBy w' p4.ownBlock)(hat:v.ownBlock=p4.ownBlock\/v.ownBlock=some (w.alloc ob).heap.size) :
  R5 C g (w'.setCell ⟨g,4,none⟩ v) p0 p1 p2 p3 v { A with bd:=A.bd++[z] }:=
 ⟨h.gc,(Blk.grown (h.bx.alloc ob) hgr (λe=>by have:=(own_lt h.o4 _ e.symm).1;have:=h.gc;omega)).set 4 v,
  own_store (World.ownsRow.kept (World.ownsRow.alloc h.o0 ob) hgr (own_ne h.o0 h.o4 (by decide))) h.gc 4 _,
  own_store (World.ownsRow.kept (World.ownsRow.alloc h.o1 ob) hgr (own_ne h.o1 h.o4 (by decide))) h.gc 4 _,
  own_store (World.ownsRow.kept (World.ownsRow.alloc h.o2 ob) hgr (own_ne h.o2 h.o4 (by decide))) h.gc 4 _,
  own_store (World.ownsRow.kept (World.ownsRow.alloc h.o3 ob) hgr (own_ne h.o3 h.o4 (by decide))) h.gc 4 _,
  own_store (OwnB.snoc hown) h.gc 4 _,
  h.a01,
  h.a02,
  h.a03,
  h.a12,
  h.a13,
  h.a23⟩
theorem R5.box4 {C g:Nat}{w:World}{p0 p1 p2 p3 p4:Value}{A:Au}{w':World}(h:R5 C g w p0 p1 p2 p3 p4 A)(ob:Obj)(hgr:(w.alloc ob).grownBy w' p4.ownBlock):w'.cell? ⟨g,4,none⟩=some p4/\w'.frozen? ⟨g,4,none⟩=false:=by
 have:=Blk.grown (h.bx.alloc ob) hgr (λe=>by have:=(own_lt h.o4 _ e.symm).1;have:=h.gc;omega)
 exact⟨this.cell (i:=4) rfl,this.frozen 4⟩
theorem R5.low4 {C g:Nat}{w:World}{p0 p1 p2 p3 p4:Value}{A:Au}{w0 w':World}{v:Value}(h:R5 C g w p0 p1 p2 p3 p4 A)(ob:Obj)(hgr:(w.alloc ob).grownBy w' p4.ownBlock)(hb:Below g w0 w):Below g w0 (w'.setCell ⟨g,4,none⟩ v):=
 Below.setCell (Below.grown (Below.alloc hb (Nat.le_of_lt h.bx.lt) ob) hgr (by have:=h.bx.lt;rw[size_alloc'];omega) (λb e=>by have:=(own_lt h.o4 b e).1;have:=h.gc;omega)) (Nat.le_refl _) _
end Go.Proofs.YtdpfdkihbgmapaaGreat
