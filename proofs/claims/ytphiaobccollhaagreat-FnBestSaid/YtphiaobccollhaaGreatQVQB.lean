import Derived.Test.YtphiaobccollhaaGreatQVPP
import Derived.Test.YtphiaobccollhaaGreatQVShelf
import Derived.Laws.CopyOwn
namespace Go.Proofs.YtphiaobccollhaaGreat
open Go.RowKit Go.Sort Go.Maps Go.Shelf Tryz
set_option linter.unusedVariables false
set_option maxRecDepth 1000000
set_option maxHeartbeats 16000000
variable {W w:World}{g n v:Nat}{N eo:Nat->Int}{G:Gr}{t:Int}{K:Nat->Rk}{S:List Nat}
theorem Qdo (n:Nat)(hn:n<=100000)(w:World):Calls prog 100 #[.int .u64 1,.int .u64 (n:Int)] w λe w'=>e=.returned (.tuple #[.int .u64 0,.int .u64 (n:Int)])/\w'=w:=by
 have h:=Any.bits_Mul Tryz.mulA 1 n (by omega) (by omega) w
 rw[show 1*n/18446744073709551616=0 by omega,show 1*n%18446744073709551616=n by omega] at h
 exact h
def fl (z:Int)(n i:Nat):List Value:=List.replicate i (iV z)++List.replicate (n-i) (iV 0)
theorem Qg9 (z:Int)(n i:Nat)(h:i<=n):(fl z n i).length=n:=by simp[fl];omega
theorem Qga (z:Int)(n i k:Nat)(h:k<i):(fl z n i)[k]?=some (iV z):=by
 unfold fl;rw[zT (by simpa using h)];simp[h]
theorem Q9l (z:Int)(n i j:Nat)(h:i+j<=n):splice (fl z n i) i (List.replicate j (iV z))=fl z n (i+j):=by
 unfold splice fl
 apply List.ext_getElem?
 intro k
 simp only[List.getElem?_append,List.getElem?_take,List.getElem?_drop,List.getElem?_replicate,zA,zX,List.length_replicate]
 have e0:min i (i+(n-i))=i:=by omega
 rw[e0]
 by_cases h1:k<i
 ·simp[h1,show k<i+j by omega]
 ·by_cases h2:k<i+j
  ·simp[h1,h2,show k-i<j by omega]
  ·by_cases h3:k<n
   ·simp[h1,h2,show ¬k-i<j by omega,show ¬i+j+(k-i-j)<i by omega,show i+j+(k-i-j)-i<n-i by omega,show k-(i+j)<n-(i+j) by omega]
   ·simp[h1,h2,show ¬k-i<j by omega,show ¬i+j+(k-i-j)<i by omega,show ¬i+j+(k-i-j)-i<n-i by omega,show ¬k-(i+j)<n-(i+j) by omega]
theorem Q9a (n:Nat):madeCells #[iV 0] n=(List.replicate n (iV 0)).toArray:=by
 apply Array.ext'
 simp only[madeCells]
 apply List.ext_getElem?
 intro k
 by_cases h:k<n<;>simp[h,Nat.mod_one]
theorem Qe2 (z:Int)(n:Nat):fl z n n=J0 (List.replicate n z):=by simp[fl,J0]
theorem sz2:(prog.info? 2).map (·.size)=some 1:=by kernel_rfl
theorem Q5d (w:World)(xb n:Nat)(z:Int)(hx:w.cell? (aD xb 0)=some (iV z))(hn:1<=n)(hn6:n<=6000) :
  Calls prog 76 #[sL (sA xb) 1 1,iV (n:Int)] w λe w'=>e=.returned (sL (sA w.heap.size) n n)/\w'.heap[w.heap.size]?=some (.cells (J0 (List.replicate n z)).toArray 2 (0,0))/\Nx w w':=by
 have hmk:=run_make_row' (P:=prog) 23 2 (iV 0) 8 underlying23 info2 rfl .i64 .i64 n (by omega) (by omega)
 have d0:decide ((n:Int)<0)=false:=yC (by omega)
 have d1:decide ((9223372036854775807:Int)<(n:Int))=false:=yC (by omega)
 have hg0:(w.alloc (.cells (madeCells #[iV 0] n) 2)).heap[w.heap.size]?=some (.cells (List.replicate n (iV 0)).toArray 2 (0,0)):=by
  rw[Q9a]
  have:=Yu (w:=w) (o:=.cells (List.replicate n (iV 0)).toArray 2) (g:=w.heap.size) rfl
  exact this
 have hx1:(w.alloc (.cells (madeCells #[iV 0] n) 2)).cell? (aD xb 0)=some (iV z):=Q0 (Nx.alloc (Nx.refl _) _) hx
 go_enter func76,ntmps76
 have hcp:∀ty,(Builtin.copy_ #[23,23] ty #[sL (sA w.heap.size) n n,sL (sA xb) 1 1]).run prog (w.alloc (.cells (madeCells #[iV 0] n) 2))=.ok (iV 1) ((w.alloc (.cells (madeCells #[iV 0] n) 2)).setRow w.heap.size (fl z n 1).toArray):=λty=>by
  have h:=run_copy_row prog (w.alloc (.cells (madeCells #[iV 0] n) 2)) 23 23 ty 2 w.heap.size 0 n n (aD xb 0) 1 1 _ 2 [iV z] underlying23 sz2 hg0 (show 1=min 1 n by omega) (λj v hj=>by
   match j with
   |0=>simp at hj;subst hj;exact hx1
   |j+1=>simp at hj) (by simp;omega) (by simp[Value.oneCell'])
  rw[h]
  have e:(List.replicate n (iV 0)).toArray.toList.take 0++[iV z]++(List.replicate n (iV 0)).toArray.toList.drop (0+[iV z].length)=fl z n 1:=by simp[fl]
  rw[e]
  rfl
 go_wp2_with (first|(go_at_call 100;refine(Qdo n (by omega) _).mono ?_;rintro e w' ⟨rfl,hw⟩;rw[hw];clear hw))
 have HR0:Z (((w.alloc (.cells (madeCells #[iV 0] n) 2)).setRow w.heap.size (fl z n 1).toArray).heap[w.heap.size]?=some (.cells (fl z n 1).toArray 2 (0,0))):=setRow_heap _ _ _ _ _ _ hg0
 have HX0:Z (Nx w ((w.alloc (.cells (madeCells #[iV 0] n) 2)).setRow w.heap.size (fl z n 1).toArray)):=below_setRow (Nx.alloc (Nx.refl _) _) lR _
 generalize (w.alloc (.cells (madeCells #[iV 0] n) 2)).setRow w.heap.size (fl z n 1).toArray=w1 at *
 clear hcp hg0 hx1 hmk
 go_loopw [8] (λs8 wr=>∃i:Nat,1<=i/\i<=n/\s8=iV (i:Int)/\Z (wr.heap[w.heap.size]?=some (.cells (fl z n i).toArray 2 (0,0)))/\Z (Nx w wr)) (λs8 _=>n-(intOf s8).toNat)
 case atStart=>exact⟨1,lR,hn,rfl,HR0,HX0⟩
 clear HR0 HX0
 obtain⟨i,hi1,hin,rfl,HR,HX⟩:=hrel
 by_cases hi:i=n
 ·subst hi
  have d2:decide ((i:Int)<(i:Int))=false:=yC (by omega)
  go_wp2
  go_ret
  refine⟨rfl,?_,HX.o⟩
  rw[<-Qe2];exact HR.o
 have d2:decide ((i:Int)<(n:Int))=true:=yB (by omega)
 go_wp2_with fail
 have hlt:i<n:=by omega
 obtain⟨j,hj⟩:∃j,j=min i (n-i):=⟨_,rfl⟩
 have HJ:=mh hj
 have hj1:1<=j:=by omega
 have hj2:i+j<=n:=by omega
 clear hj
 have hcp:∀ty,(Builtin.copy_ #[23,23] ty #[sL (some (aD w.heap.size i)) (n-i) (n-i),sL (sA w.heap.size) i n]).run prog wr.drew=.ok (iV (j:Int)) (wr.drew.setRow w.heap.size (fl z n (i+j)).toArray):=λty=>by
  have h:=run_copy_row prog wr.drew 23 23 ty 2 w.heap.size i (n-i) (n-i) (aD w.heap.size 0) i n _ 2 (List.replicate j (iV z)) underlying23 sz2 HR.o (by rw[List.length_replicate];exact HJ.o) (λk v hk=>by
   have hkj:k<j:=by have:=(List.getElem?_eq_some_iff.1 hk).1;simpa using this
   have hv:v=iV z:=by have:=List.getElem?_replicate (n:=j) (a:=iV z) (i:=k);rw[this,if_pos hkj] at hk;exact(zE hk).symm
   subst hv
   have:=HJ.o
   have hki:k<i:=by omega
   have e:((aD w.heap.size 0):Addr).add k=(aD w.heap.size k):=by unfold Addr.add;split<;>simp_all
   rw[e]
   have hr:wr.drew.heap[w.heap.size]?=_:=HR.o
   simp only[World.cell?,hr]
   simpa using Qga z n i k hki) (by rw[List.length_replicate];have:=Qg9 z n i (by omega);simp only[List.size_toArray,this];omega) (by simp[Value.oneCell'])
  rw[h,List.length_replicate]
  have e:(fl z n i).toArray.toList.take i++List.replicate j (iV z)++(fl z n i).toArray.toList.drop (i+j)=fl z n (i+j):=by
   have:=Q9l z n i j hj2
   simpa [splice] using this
  rw[e]
  rfl
 go_region
 go_wp2
 refine⟨⟨i+j,by omega,hj2,rfl,setRow_heap wr.drew _ _ _ _ _ HR.o,below_setRow HX.o.drew lR _⟩,?_⟩
 show n-((i:Int)+(j:Int)).toNat<n-(i:Int).toNat
 omega
section
variable {P:Program}{ops:Array Oper}{Q:Exit->Act->World->Prop}{md:Region.Mode}
theorem Q5k (l n:Nat)(hd:U8 (Fence.wide.inRound l) ops)(hl:¬LetsOut Q){i:Nat}{K:Act->World->Prop}{a:Act}(h:wpOp P ops Q i K a w):wpOpIn (Fence.wide.inRound l) n P ops Q i K a w:=by
 unfold wpOp at h
 unfold wpOpIn
 cases ho:ops[i]? with
 |none=>rw[ho] at h;exact h
 |some o=>
  rw[ho] at h
  simp only at h ⊢
  by_cases hw:Region.wanted o (yielded ops a.tmps)=true
  ·simp only[hw,if_true] at h ⊢
   rcases h with h|⟨_,g⟩
   ·refine⟨λf _=>trivial,?_⟩
    rw[hd i o a.eval ho]
    unfold Oper.wp at h
    generalize (execOp a.eval o).run P w=r at h ⊢
    match r,h with
    |.ok (.value u) w',h=>exact h
    |.ok .skip w',h=>exact h
    |.ok (.defer d) w',h=>exact h
    |.ok (.enter f args) w',h=>exact⟨λe=>(by cases e),(CallsIn.inRound l (callsIn_wide.2 h))⟩
    |.ok (.row row args) w',h=>exact⟨λe=>(by cases e),λc cs _=>let ⟨v,w',r,s⟩:=h c cs;⟨v,w',r,stepsIn_wide.2 s⟩⟩
    |.halt (.panic u) w',h=>exact h
   ·exact absurd g hl
  ·simp only[hw] at h ⊢
   exact⟨λf _=>trivial,h⟩
theorem G2 (l n:Nat)(hd:U8 (Fence.wide.inRound l) ops)(hl:¬LetsOut Q):∀(fuel:Nat) (listed:Array Bool) (a:Act) (w:World),wpAny P md ops Q fuel listed a w->wpAnyIn (Fence.wide.inRound l) n P md ops Q fuel listed a w
 |0,_,_,_,h=>h
 |fuel+1,_,_,_,h=>⟨h.1,λi hi=>wpOpIn_mono (λa' w' h'=>G2 l n hd hl fuel _ a' w' h') (Q5k l n hd hl (h.2 i hi))⟩
theorem Vl {id l:Nat}{a:Act}{os:List Oper}(hm:P.follows .mixedOrders=true)(hB:Region.lexB .any os.toArray=true)(hd:∀o∈os,∀c,o.op≠.defer c)(hl:¬LetsOut Q)
  (h:wpQuiet P os.toArray (λw'=>∃p:Regrown,w'=Sort.grow (redrawn w p.d) p.os) (λa'=>∀w',(∃p:Regrown,w'=Sort.grow (redrawn w p.d) p.os)->Q .normal a' w') os a):(Code.region id os.toArray true).wpIn (Fence.wide.inRound l) n P Q a w:=by
 have hd':U8 (Fence.wide.inRound l) os.toArray:=λj o ρ hj=>Oper.semAt_some l ρ o (hd o (by
  have h1:os[j]?=some o:=by simpa using hj
  exact yJ h1))
 simp only[Region.lexB,zG] at hB
 refine wpIn_region_any hm (G2 l n hd' hl _ _ _ _ (wpAny_of_quiet (Q:=λa'=>∀w',(∃p:Regrown,w'=Sort.grow (redrawn w p.d) p.os)->Q .normal a' w') (λ_ w' hw' h=>h w' hw') _ _ _ _ ⟨⟨w.drawn+1,#[]⟩,by rw[grow_empty];rfl⟩ ?_))
 have:=wpAnyQ_lex (C:=λw'=>∃p:Regrown,w'=Sort.grow (redrawn w p.d) p.os) (md:=.any) hB.1 os.toArray.toList 0 (Array.replicate os.toArray.size false) a (by simp) (by simpa using hB.2) (by simpa using h)
 simpa using this
end
attribute [local go_sem] Oper.semAt_some
def nfR (N:List Int)(v:Nat):Int:=N.getD v (-1)
theorem Qb7 {N:List Int}(h:v<N.length):nfR N v=iat N v:=by simp[nfR,V5 h,h]
theorem Qdl (N:List Int)(h:v<N.length)(z:Int):nfR (N.set v z) v=z:=by simp[nfR,h]
theorem Qb6 (N:List Int){y:Nat}(h:y≠v)(z:Int):nfR (N.set v z) y=nfR N y:=by simp[nfR,List.getElem?_set_ne (Ne.symm h)]
theorem Qdm (n v:Nat):nfR (List.replicate n (-1)) v=-1:=by
 unfold nfR
 simp only[zD,List.getElem?_replicate]
 split<;>rfl
theorem Q95 (hv:v<G.eo.length)(r:Rk):Zf G r v (fst G (v+1))=(Qz G v).map (λq=>(q.1,aft r q.2)):=by
 unfold Zf Qz
 rw[if_pos hv,List.map_map]
 rfl
theorem Qaz {k:Nat}(hv:v<G.eo.length)(r:Rk)(h1:fst G v<=k)(h2:k<fst G (v+1)):∃post,Qz G v=(List.range' (fst G v) (k-fst G v)).map (λj=>((iat G.tt j).toNat,iat G.co j))++((iat G.tt k).toNat,iat G.co k)::post/\Zf G r v k=((List.range' (fst G v) (k-fst G v)).map (λj=>((iat G.tt j).toNat,iat G.co j))).map (λq=>(q.1,aft r q.2)):=by
 refine⟨(List.range' (k+1) (fst G (v+1)-(k+1))).map (λj=>((iat G.tt j).toNat,iat G.co j)),?_,?_⟩
 ·unfold Qz
  rw[if_pos hv,show fst G (v+1)-fst G v=(k-fst G v)+((fst G (v+1)-(k+1))+1) by omega,<-List.range'_append_1,yF,List.range'_succ,List.map_cons,show fst G v+(k-fst G v)=k by omega]
 ·unfold Zf
  rw[List.map_map]
  rfl
def Ig (eo:Nat->Int)(t:Int)(K:Nat->Rk)(b:Rk)(N:Nat->Int)(x:Nat×Rk):Prop:=K x.1=x.2/\(Uq eo t K b x.1\/N x.1≠-1)
theorem Q7c {b:Rk}{q:Nat×Int}:Ig eo t K b N (q.1,aft (K v) q.2)↔okA eo t K b N v q:=Iff.rfl
theorem Qec (hv:v<G.eo.length){b:Rk}{ys:List (Nat×Rk)}(h:ys=Zf G (K v) v (fst G (v+1)))(hn:∀x∈ys,¬Ig (eoG G) t K b N x):∀q∈Qz G v,¬okA (eoG G) t K b N v q:=by
 intro q hq hk
 refine hn (q.1,aft (K v) q.2) ?_ (Q7c.2 hk)
 rw[h,Q95 hv]
 exact List.mem_map_of_mem (f:=λq:Nat×Int=>(q.1,aft (K v) q.2)) hq
theorem Qeb {k:Nat}(hv:v<G.eo.length)(h1:fst G v<=k)(h2:k<fst G (v+1)){b:Rk}{ys:List (Nat×Rk)}{x:Nat×Rk}(h:ys++[x]=Zf G (K v) v (k+1))(hn:∀x∈ys,¬Ig (eoG G) t K b N x)(hx:Ig (eoG G) t K b N x):∃pre c post,Qz G v=pre++(x.1,c)::post/\okA (eoG G) t K b N v (x.1,c)/\(∀q∈pre,¬okA (eoG G) t K b N v q):=by
 rw[Q0m G (K v) h1] at h
 obtain⟨e1,e2⟩:=List.append_inj' h rfl
 have e3:x=((iat G.tt k).toNat,aft (K v) (iat G.co k)):=by simpa using e2
 obtain⟨post,p1,p2⟩:=Qaz hv (K v) h1 h2
 subst e3
 refine⟨_,iat G.co k,post,p1,hx,λq hq hk=>?_⟩
 refine hn (q.1,aft (K v) q.2) ?_ (Q7c.2 hk)
 rw[e1,p2]
 exact List.mem_map_of_mem (f:=λq:Nat×Int=>(q.1,aft (K v) q.2)) hq
def Q3p (o:Oper):Bool:=match o.op with|.defer _=>false|_=>true
theorem T4 {os:List Oper}(h:os.all Q3p=true):∀o∈os,∀c,o.op≠.defer c:=λo ho c e=>by
 have:=List.all_eq_true.1 h o ho
 unfold Q3p at this
 rw[e] at this
 cases this
theorem KeepsFrom.on {B:Nat}{W':World}(h:OnS S W W')(hS:∀g∈S,∃c ty fz,W.heap[g]?=some (.cells c ty fz)):KeepsFrom B W W':=
 ⟨h.size,λi o _ hi ho=>(h.block i (Array.getElem?_eq_some_iff.1 hi).1 (λe=>by
  obtain⟨c,ty,fz,hc⟩:=hS i e
  rw[hc] at hi
  cases hi
  cases ho)).trans hi⟩
theorem rk_ne {a:Rk}{c:Rk}(h:a≠c):(a.1==c.1&&a.2==c.2)=false:=by
 rw[Bool.eq_false_iff]
 intro g
 simp at g
 exact h (Prod.ext g.1 g.2)
theorem Qdd {N:List Int}(h:w.heap[g]?=some (.cells (J0 N).toArray 2 (0,0)))(v:Nat)(z:Int):(w.setCell (aD g v) (iV z)).heap[g]?=some (.cells (J0 (N.set v z)).toArray 2 (0,0)):=by
 simp[World.setCell,Array.getElem?_modify,h,J0,List.map_set]
def CJ (W0:World)(t:Int)(K:Nat->Rk)(b:Rk)(G:Gr)(v:Nat)(N:List Int)(pre:List (Q6p G (K v) v))(W:World):Prop:=Nx W0 W/\∀x∈pre.map (·.1),¬Ig (eoG G) t K b (nfR N) x
def CJx (W0:World)(t:Int)(K:Nat->Rk)(b:Rk)(G:Gr)(v:Nat)(N:List Int)(g:Nat)(c:Code)(pre:List (Q6p G (K v) v))(W:World):Prop:=
 c=.exit 2/\∃pre0 x,pre.map (·.1)=pre0++[x]/\(∀x∈pre0,¬Ig (eoG G) t K b (nfR N) x)/\Ig (eoG G) t K b (nfR N) x/\OnS [g] W0 W/\W.heap[g]?=some (.cells (J0 (N.set v (x.1:Int))).toArray 2 (0,0))
theorem Q2j (l0:Nat)(r0:Loop)(W0:World)(p q rb n:Nat)(a0:Option Addr)(m0 c0:Nat)(g1 g2 g3 g4 g5 g6:Value)(t:Int)(sv:Value)(b:Rk)(K:Nat->Rk)(G:Gr)(B v:Nat)(bS bN Bv g bg bv bs:Nat)(N:List Int)(b2 o2 m2 c2:Nat)(a3:Option Addr)(m3 c3:Nat)(a4:Option Addr)(m4 c4:Nat)(hl0:W0.heap[l0]?=some (.loop r0))(HVG:Z (VG G))(hm2:m2=G.fi.length)(hm3:m3=G.tt.length)(hm4:m4=G.co.length)(hnG:G.eo.length=n)(hn:n<=6000)(hv:v<n)(hr1:0<=(K v).1/\(K v).1<=100000000000)(hr2:0<=(K v).2/\(K v).2<=100000)
  (HS:Z (SB W0 p [sL a0 m0 c0,g1,g2,g3,g4,g5,g6] t rb n q sv b)) (HK:Z (RKM W0 rb n K)) (HG0:Z (Qi B W0 (sL a0 m0 c0) G.eo))
  (HB:Z (W0.cell? (aD bS 0)=some (pT p)/\W0.cell? (aD bN 0)=some (sL (sA g) n n)/\W0.cell? (aD Bv 0)=some (iV (v:Int)))) (HN:Z (N.length=n/\W0.heap[g]?=some (.cells (J0 N).toArray 2 (0,0))))
  (HI:Z (ITC W0 bg bv bs p rb n v b2 o2 m2 c2 a3 m3 c3 a4 m4 c4 G (K v))) (u0 u2 u4 u6 u7 u8 u9 u10 u11 u12 u13 u14 u15 u16 u17 u18 u19 u20 u21 u22 u23 u25 u26 u27 u28 u29 u30 u31 u32 u33 u34 u35 u36 u37 u38 u39 u40 u41 u42 u43 u44 u45 u46 u47 u48 u49 u50 u51 u52:Value) (ds:List Deferred) (Q:Exit->Act->World->Prop)
  (hdone:∀W,Nx W0 W->(∀q∈Qz G v,¬okA (eoG G) t K b (nfR N) v q)->Q .normal ⟨List.toArray (u0::pT bS::u2::pT bN::u4::pT Bv::u6::u7::u8::u9::u10::u11::u12::u13::u14::u15::u16::u17::u18::u19::u20::u21::u22::u23 :: .func (.func 74) #[] #[pT bg,pT bv,pT bs]::u25::u26::u27::u28::u29::u30::u31::u32::u33::u34::u35::u36::u37::u38::u39::u40::u41::u42::u43::u44::u45::u46::u47::u48::u49::u50::u51::u52::[]),ds⟩ W)
  (hstop:∀(W:World) (y:Nat),OnS [g] W0 W->W.heap[g]?=some (.cells (J0 (N.set v (y:Int))).toArray 2 (0,0))->(∃pre c post,Qz G v=pre++(y,c)::post/\okA (eoG G) t K b (nfR N) v (y,c)/\(∀q∈pre,¬okA (eoG G) t K b (nfR N) v q))->Q (.exit 2) ⟨List.toArray (u0::pT bS::u2::pT bN::u4::pT Bv::u6::u7::u8::u9::u10::u11::u12::u13::u14::u15::u16::u17::u18::u19::u20::u21::u22::u23 :: .func (.func 74) #[] #[pT bg,pT bv,pT bs]::u25::u26::u27::u28::u29::u30::u31::u32::u33::u34::u35::u36::u37::u38::u39::u40::u41::u42::u43::u44::u45::u46::u47::u48::u49::u50::u51::u52::[]),ds⟩ W) :
  Code.wpIn (Fence.wide.inRound l0) 7 prog ((((Tryz.f50.body.map Xn).getD [])[1]?).getD .skip) Q ⟨List.toArray (u0::pT bS::u2::pT bN::u4::pT Bv::u6::u7::u8::u9::u10::u11::u12::u13::u14::u15::u16::u17::u18::u19::u20::u21::u22::u23 :: .func (.func 74) #[] #[pT bg,pT bv,pT bs]::u25::u26::u27::u28::u29::u30::u31::u32::u33::u34::u35::u36::u37::u38::u39::u40::u41::u42::u43::u44::u45::u46::u47::u48::u49::u50::u51::u52::[]),ds⟩ W0:=by
 conv=>arg 4;whnf
 have HDONE:Z _:=hdone
 have HSTOP:Z _:=hstop
 clear hdone hstop
 refine wpIn_rangeFunc_ownN (n:=7) (F:=Fence.wide.inRound l0) rfl hl0 (by decide) (gf:=74) (lb:=#[pT bg,pT bv,pT bs]) rfl trivial (enters_of func74 (by kernel_rfl) rfl)
  (SeqStopsK.inRound l0 (If bg bv bs p rb n v b2 o2 m2 c2 a3 m3 c3 a4 m4 c4 G (K v) 40000 6 HVG.o (by omega) hm2 hm3 hm4 hv hr1 hr2 ?hN W0 HI.o)) (λh1 h2 h3=>h2 (h1 h3)) (λW l o o' _ h ho _ hI=>Q7n bg bv bs p rb n v b2 o2 m2 c2 a3 m3 c3 a4 m4 c4 G (K v) W l o o' h ho hI) (Below.refl _ _) (λ_=>rfl)
  (CJ W0 t K b G v N) (CJx W0 t K b G v N g) ?hI ?hIx ⟨Below.refl _ _,by simp⟩
  (λx a' W=>∃Bx,W.cell? (aD Bx 0)=some (iV x.1.2.1)/\W.cell? (aD Bx 1)=some (iV x.1.2.2)/\a'=⟨List.toArray (u0::pT bS::u2::pT bN::u4::pT Bv::iV (x.1.1:Int)::pT Bx::u8::u9::u10::u11::u12::u13::u14::u15::u16::u17::u18::u19::u20::u21::u22::u23 :: .func (.func 74) #[] #[pT bg,pT bv,pT bs]::iV (x.1.1:Int) :: .agg #[iV x.1.2.1,iV x.1.2.2]::u27::u28::u29::u30::u31::u32::u33::u34::u35::u36::u37::u38::u39::u40::u41::u42::u43::u44::u45::u46::u47::u48::u49::u50::u51::u52::[]),[]⟩) ?hAx ?assign ?body ?done ?stop
 case hN=>
  have h1:=(Jr HVG.o (show v+1<=G.eo.length by omega)).2
  have h2:=HVG.o.t
  omega
 case hI=>
  rintro pre W W' row ⟨h1,h2⟩ hg hr
  exact⟨ownFrom_below (β:=Unit) lR lR () W W' row h1 hg hr,h2⟩
 case hIx=>
  rintro c pre W W' row ⟨hc,pre0,x,h1,h2,h3,h4,h5⟩ hg hr
  have hgl:=(Array.getElem?_eq_some_iff.1 HN.o.2).1
  refine⟨hc,pre0,x,h1,h2,h3,⟨hg.os.trans h4.os,hg.tape.trans h4.tape,hg.output.trans h4.output,zM h4.size hg.size,λi hi hm=>(hg.block i (zJ hi h4.size) (λe=>?_)).trans (h4.block i hi hm)⟩,(hg.block g (Array.getElem?_eq_some_iff.1 h5).1 (λe=>?_)).trans h5⟩
  ·have:=(hr i e.symm).1
   omega
  ·have:=(hr g e.symm).1
   omega
 case hAx=>
  rintro x a' _ W W' row ⟨Bx,h2,h3,h4⟩ hg hr
  exact⟨Bx,cell_kept h2 hg (λr e=>(hr r e).2),cell_kept h3 hg (λr e=>(hr r e).2),h4⟩
 case stop=>
  rintro c pre W ⟨k,k1,k2,k3⟩ ⟨rfl,pre0,x,h1,h2,h3,h4,h5⟩
  refine wpIn_exit ?_
  exact HSTOP.o W x.1 h4 h5 (Qeb (by omega) k1 k2 (h1.symm.trans k3) h2 h3)
 case done=>
  rintro ys W hys ⟨h1,h2⟩
  exact HDONE.o W h1 (Qec (by omega) hys h2)
 case assign=>
  rintro l pre x W K ⟨hB,hI⟩ hK
  have HB1:Z (Nx W0 (W.alloc (.cells #[iV x.1.2.1,iV x.1.2.2] 52))):=hB.trans (Qe _ _)
  have HI2:Z _:=hI
  clear hB hI
  unfold Qc0
  gi_wp2
  exact hK _ _ ((KeepsOthers.alloc _ _).from _) (λh=>h.kept (λb o u hc=>Q0 (Qe _ _) hc)) ⟨HB1.o,HI2.o⟩ ⟨W.heap.size,(Blk.new W #[iV x.1.2.1,iV x.1.2.2] 52 _ rfl).c 0 rfl,(Blk.new W #[iV x.1.2.1,iV x.1.2.2] 52 _ rfl).c 1 rfl,rfl⟩
 case body=>
  rintro l pre x a' W hl ⟨rec,hrec⟩ ⟨hB,hI⟩ ⟨Bx,hb1,hb2,rfl⟩ hlen
  have HB1:=mh hB
  have HI2:=mh hI
  obtain⟨k,hk,hxe⟩:=Q7b HVG.o (by omega) x.2
  have htn:x.1.1<n:=by have:=Iy HVG.o _ _ _ hk;omega
  have htn':(x.1.1:Int)<n:=by omega
  have hvn':(v:Int)<n:=by omega
  have x1:=Q0 hB HB.o.1
  have x2:=Q0 hB HB.o.2.1
  have hS:=HS.o.kept (hB.block p HS.o.lt)
  have x3:=hS.cell.2.1
  have hK:=HK.o.next hB
  have r1:=hK.c1 htn
  have r2:=hK.c2 htn
  have HNL:=mh HN.o.1
  have hgW:=(hB.block g (Array.getElem?_eq_some_iff.1 HN.o.2).1).trans HN.o.2
  have HGW:=mh hgW
  have x4:W.cell? (aD g x.1.1)=some (iV (nfR N x.1.1)):=by
   rw[Qb7 (by rw[HNL.o];exact htn)]
   simp only[World.cell?,hgW]
   have:=Pt (zs:=N) (i:=x.1.1) (by rw[HNL.o];exact htn)
   simpa using this
  have hEQ:=λW:World=>Q2d (K x.1.1).1 (K x.1.1).2 x.1.2.1 x.1.2.2 W
  have CG:Z (∀d os,Calls prog 51 #[pT p,iV (x.1.1:Int)] (Sort.grow (redrawn W d) os) λe w''=>e=.returned (.bool (endB (eoG G) t K b x.1.1))/\∃p:Regrown,w''=Sort.grow (redrawn W p.d) p.os):=
   λd os=>Calls.regrown_of (Ab B p rb n q a0 m0 c0 g1 g2 g3 g4 g5 g6 G t sv b K x.1.1 _ (hS.kept ((below_regrown W d os).block p hS.lt)) (hK.next (below_regrown W d os)) ((HG0.o.next hB).next (below_regrown W d os)) hnG htn)
  have HOK:Z (Ig (eoG G) t K b (nfR N) x.1↔(K x.1.1=x.1.2/\(Uq (eoG G) t K b x.1.1\/nfR N x.1.1≠-1))):=Iff.rfl
  have HEND:Z (∀(W':World),Nx W W'->¬Ig (eoG G) t K b (nfR N) x.1->KeepsFrom W0.heap.size W W'/\(ITC W bg bv bs p rb n v b2 o2 m2 c2 a3 m3 c3 a4 m4 c4 G (K v)->ITC W' bg bv bs p rb n v b2 o2 m2 c2 a3 m3 c3 a4 m4 c4 G (K v))/\CJ W0 t K b G v N (pre++[x]) W'):=by
   intro W' h1 h2
   refine⟨KeepsFrom.on (OnS.nx (S:=[]) h1) (by simp),λh=>h.kept (λb o u hc=>Q0 h1 hc),HB1.o.trans h1,λy hy=>?_⟩
   rw[yF,yG] at hy
   rcases hy with hy|hy
   ·exact HI2.o y hy
   ·have:y=x.1:=by simpa using hy
    subst this
    exact h2
  have HVB:=mh (Q0 hB HB.o.2.2)
  have HNS:Z (∀W3,Nx W W3->Ig (eoG G) t K b (nfR N) x.1->KeepsFrom W0.heap.size W (W3.setCell (aD g v) (iV (x.1.1:Int)))/\CJx W0 t K b G v N g (.exit 2) (pre++[x]) (W3.setCell (aD g v) (iV (x.1.1:Int)))):=by
   intro W3 h1 h2
   have hg3:=(h1.block g (Array.getElem?_eq_some_iff.1 HGW.o).1).trans HGW.o
   refine⟨KeepsFrom.on ((OnS.nx (S:=[g]) h1).tr (OnS.set [g] W3 (by simp) v _)) (λz hz=>by have:=List.mem_singleton.1 hz;subst this;exact⟨_,_,_,HGW.o⟩),rfl,pre.map (·.1),x.1,by simp,HI2.o,h2,(OnS.nx (S:=[g]) (HB1.o.trans h1)).tr (OnS.set [g] W3 (by simp) v _),Qdd hg3 v _⟩
  have HOK1:Z (K x.1.1≠x.1.2->¬Ig (eoG G) t K b (nfR N) x.1):=λh g=>h g.1
  have HOK2:Z (K x.1.1=x.1.2->Uq (eoG G) t K b x.1.1->Ig (eoG G) t K b (nfR N) x.1):=λh g=>⟨h,oL g⟩
  have HOK3:Z (K x.1.1=x.1.2->nfR N x.1.1≠-1->Ig (eoG G) t K b (nfR N) x.1):=λh g=>⟨h,oR g⟩
  have HOK4:Z (¬Uq (eoG G) t K b x.1.1->¬nfR N x.1.1≠-1->¬Ig (eoG G) t K b (nfR N) x.1):=λh1 h2 g=>g.2.elim h1 h2
  have HEQ:=mh hEQ
  have HCV:Z (W.cell? (aD g v)=some (iV (iat N v))):=by
   unfold Z
   simp only[World.cell?,hgW]
   have:=Pt (zs:=N) (i:=v) (by rw[HNL.o];exact hv)
   simpa using this
  have HFZ:Z (∀W3,Nx W W3->W3.frozen? (aD g v)=false):=λW3 h1=>by
   have hg3:=(h1.block g (Array.getElem?_eq_some_iff.1 HGW.o).1).trans HGW.o
   simp[World.frozen?,hg3]
  have HX2:=mh x2
  have x1:=cell_regrown x1
  have x2:=cell_regrown x2
  have x3:=cell_regrown x3
  have x4:=cell_regrown x4
  have r1:=cell_regrown r1
  have r2:=cell_regrown r2
  have hb1:=cell_regrown hb1
  have hb2:=cell_regrown hb2
  clear hEQ hS hK hgW hB hI hk hxe hm2 hm3 hm4
  refine wpIn_block ?_
  refine wpIn_seq ?_
  by_cases he:K x.1.1=x.1.2
  case neg=>
   have hq:∀W:World,(Op.equalIn 10000 52 (.agg #[iV (K x.1.1).1,iV (K x.1.1).2]) (.agg #[iV x.1.2.1,iV x.1.2.2])).run prog W=.ok false W:=λW=>by rw[HEQ.o W,rk_ne he]
   have HOK:=mh (HOK1.o he)
   clear he
   refine Vl (by kernel_rfl) (by kernel_rfl) (T4 (by kernel_rfl)) (λ⟨_,_,h⟩=>h) ?_
   repeat (go_big_quiet_step (exact CG.o _ _))
   refine wpQuiet_nil ?_
   intro W' hw'
   obtain⟨⟨dq,osq⟩,hw''⟩:=hw'
   have HB3:Z (Nx W W'):=by rw[hw''];exact below_regrown W dq osq
   clear hw'' hq
   gi_wp2
   exact HEND.o W' HB3.o HOK.o
  have hq:∀W:World,(Op.equalIn 10000 52 (.agg #[iV (K x.1.1).1,iV (K x.1.1).2]) (.agg #[iV x.1.2.1,iV x.1.2.2])).run prog W=.ok true W:=λW=>by rw[HEQ.o W,he];simp
  have HE:=mh he
  clear he
  by_cases hend:Uq (eoG G) t K b x.1.1
  ·have de:endB (eoG G) t K b x.1.1=true:=(endB_iff _ _ _ _ _).2 hend
   rw[de] at CG
   have HOK:=mh (HOK2.o HE.o hend)
   clear hend de
   refine Vl (by kernel_rfl) (by kernel_rfl) (T4 (by kernel_rfl)) (λ⟨_,_,h⟩=>h) ?_
   repeat (go_big_quiet_step (exact CG.o _ _))
   refine wpQuiet_nil ?_
   intro W' hw'
   obtain⟨⟨dq,osq⟩,hw''⟩:=hw'
   have HB3:Z (Nx W W'):=by rw[hw''];exact below_regrown W dq osq
   clear hw'' hq x1 x2 x3 x4 r1 r2 hb1 hb2
   have z1:=Q0 HB3.o HX2.o
   have z2:=Q0 HB3.o HVB.o
   have z3:=Q0 HB3.o HCV.o
   have z4:=HFZ.o W' HB3.o
   gi_wp2
   exact HNS.o W' HB3.o HOK.o
  have de:endB (eoG G) t K b x.1.1=false:=Bool.eq_false_iff.2 (λh=>hend ((endB_iff _ _ _ _ _).1 h))
  rw[de] at CG
  have HNE:=mh hend
  clear hend de
  by_cases hm:nfR N x.1.1=-1
  ·have d2:(nfR N x.1.1 !=-1)=false:=by simpa using hm
   have HOK:=mh (HOK4.o HNE.o (λh=>h hm))
   clear hm
   refine Vl (by kernel_rfl) (by kernel_rfl) (T4 (by kernel_rfl)) (λ⟨_,_,h⟩=>h) ?_
   repeat (go_big_quiet_step (exact CG.o _ _))
   refine wpQuiet_nil ?_
   intro W' hw'
   obtain⟨⟨dq,osq⟩,hw''⟩:=hw'
   have HB3:Z (Nx W W'):=by rw[hw''];exact below_regrown W dq osq
   clear hw'' hq
   gi_wp2
   exact HEND.o W' HB3.o HOK.o
  have d2:(nfR N x.1.1 !=-1)=true:=by simpa using hm
  have HOK:=mh (HOK3.o HE.o hm)
  clear hm
  refine Vl (by kernel_rfl) (by kernel_rfl) (T4 (by kernel_rfl)) (λ⟨_,_,h⟩=>h) ?_
  repeat (go_big_quiet_step (exact CG.o _ _))
  refine wpQuiet_nil ?_
  intro W' hw'
  obtain⟨⟨dq,osq⟩,hw''⟩:=hw'
  have HB3:Z (Nx W W'):=by rw[hw''];exact below_regrown W dq osq
  clear hw'' hq x1 x2 x3 x4 r1 r2 hb1 hb2 d2
  have z1:=Q0 HB3.o HX2.o
  have z2:=Q0 HB3.o HVB.o
  have z3:=Q0 HB3.o HCV.o
  have z4:=HFZ.o W' HB3.o
  gi_wp2
  exact HNS.o W' HB3.o HOK.o
attribute [local go_sem] Oper.semAt_some
theorem ITB.on {W':World}{bq:Nat}{sa:Option Addr}{cap:Nat}{T:List Nat}(h:ITB W bq sa cap S)(k:OnS T W W')(h1:bq∉T)(h2:∀gs o,sa=some (aD gs o)->gs∉T):ITB W' bq sa cap S:=
 ⟨k.cell h1 h.b,λi hi=>by obtain⟨gs,e,hc⟩:=h.r i hi;exact⟨gs,e,k.cell (h2 gs 0 e) hc⟩⟩
theorem Qgf (S:List Nat):((bk S S.length).map (·.2)).reverse=S:=by
 refine List.ext_getElem (by simp[bk]) (λi h1 h2=>?_)
 simp[bk]
 rw[show S.length-1-(S.length-1-i)=i by omega]
 simp[lat,h2]
theorem Q6h (hnd:S.Nodup)(hasc:S.Pairwise (λu v=>¬rlt (K v) (K u))){c:Nat}(hc:c<S.length):lat S (S.length-1-c)∉((bk S c).map (·.2)).reverse/\∀u∈((bk S c).map (·.2)).reverse,¬rlt (K u) (K (lat S (S.length-1-c))):=by
 have key:∀u∈((bk S c).map (·.2)).reverse,∃i j,i<j/\∃(hi:i<S.length) (hj:j<S.length),S[i]=lat S (S.length-1-c)/\S[j]=u:=by
  intro u hu
  rw[List.mem_reverse] at hu
  obtain⟨y,hy,rfl⟩:=List.mem_map.1 hu
  unfold bk at hy
  obtain⟨d,hd,rfl⟩:=List.mem_map.1 hy
  have hd':=List.mem_range.1 hd
  refine⟨S.length-1-c,S.length-1-d,by omega,by omega,by omega,?_,?_⟩
  ·have:S.length-1-c<S.length:=by omega
   simp[lat,this]
  ·have:S.length-1-d<S.length:=by omega
   simp[lat,this]
 refine⟨λh=>?_,λu hu=>?_⟩
 ·obtain⟨i,j,hij,hi,hj,e1,e2⟩:=key _ h
  have:=(List.pairwise_iff_getElem.1 hnd) i j hi hj hij
  exact this (e1.trans e2.symm)
 ·obtain⟨i,j,hij,hi,hj,e1,e2⟩:=key _ hu
  have:=(List.pairwise_iff_getElem.1 hasc) i j hi hj hij
  rw[e1,e2] at this
  exact this
def CI2 (w2:World)(n g:Nat)(t:Int)(K:Nat->Rk)(b:Rk)(G:Gr)(S:List Nat)(pre:List (Q1c S))(W:World):Prop:=
 ∃N:List Int,N.length=n/\(pre.map (·.1)=bk S pre.length->NX (eoG G) (Qz G) t K b ((pre.map (·.1.2)).reverse) (nfR N))/\W.heap[g]?=some (.cells (J0 N).toArray 2 (0,0))/\OnS [g] w2 W
theorem CI2.own {w2:World}{b:Rk}(hg:g<w2.heap.size):OwnFrom w2.heap.size (CI2 w2 n g t K b G S):=by
 rintro pre W W' row ⟨N,h1,h2,h3,h4⟩ hgr hr
 refine⟨N,h1,h2,(hgr.block g (Array.getElem?_eq_some_iff.1 h3).1 (λe=>?_)).trans h3,⟨hgr.os.trans h4.os,hgr.tape.trans h4.tape,hgr.output.trans h4.output,zM h4.size hgr.size,λi hi hm=>(hgr.block i (zJ hi h4.size) (λe=>?_)).trans (h4.block i hi hm)⟩⟩
 ·have:=(hr g e.symm).1
  omega
 ·have:=(hr i e.symm).1
  omega
theorem CI2.step {w2:World}{b:Rk}(hG:VG G)(hnd:S.Nodup)(hasc:S.Pairwise (λu v=>¬rlt (K v) (K u))){pre:List (Q1c S)}{x:Q1c S}{N N':List Int}(hl:pre.length<S.length)(hN':N'.length=n)(hNX:pre.map (·.1)=bk S pre.length->NX (eoG G) (Qz G) t K b ((pre.map (·.1.2)).reverse) (nfR N))(hW:W.heap[g]?=some (.cells (J0 N').toArray 2 (0,0)))(ho:OnS [g] w2 W)(hne:∀y,y≠x.1.2->nfR N' y=nfR N y)
  (hs:(∃pr y k post,Qz G x.1.2=pr++(y,k)::post/\okA (eoG G) t K b (nfR N) x.1.2 (y,k)/\(∀q∈pr,¬okA (eoG G) t K b (nfR N) x.1.2 q)/\nfR N' x.1.2=(y:Int))\/(nfR N' x.1.2=nfR N x.1.2/\∀q∈Qz G x.1.2,¬okA (eoG G) t K b (nfR N) x.1.2 q)):CI2 w2 n g t K b G S (pre++[x]) W:=by
 refine⟨N',hN',λhb=>?_,hW,ho⟩
 rw[zA,List.length_singleton,Q81,yF] at hb
 obtain⟨e1,e2⟩:=List.append_inj' hb rfl
 have e3:x.1=(S.length-1-pre.length,lat S (S.length-1-pre.length)):=by simpa using e2
 have hT:(pre.map (·.1.2)).reverse=((bk S pre.length).map (·.2)).reverse:=by rw[<-e1,List.map_map];rfl
 have hv:x.1.2=lat S (S.length-1-pre.length):=by rw[e3]
 obtain⟨f1,f2⟩:=Q6h hnd hasc hl
 rw[<-hT,<-hv] at f1 f2
 have hX:=hNX e1
 have e4:((pre++[x]).map (·.1.2)).reverse=x.1.2::(pre.map (·.1.2)).reverse:=by simp
 rw[e4]
 refine hX.step (λv u k h=>(Iz hG v u k h).1) f1 f2 hne ?_
 rcases hs with h|⟨h1,h2⟩
 ·exact oL h
 ·exact oR ⟨h1.trans (hX.o _ f1),h2⟩
theorem Q2i (wC w2:World)(p q rb n:Nat)(a0:Option Addr)(m0 c0:Nat)(a1:Option Addr)(m1 c1:Nat)(a2:Option Addr)(m2 c2:Nat)(a3:Option Addr)(m3 c3:Nat)(a4:Option Addr)(m4 c4:Nat)(a5:Option Addr)(m5 c5:Nat)(a6:Option Addr)(m6 c6:Nat)(t:Int)(sv:Value)(b:Rk)(K:Nat->Rk)(G:Gr)(B:Nat)(S:List Nat)(bS bN g bq:Nat)(sa:Option Addr)(cap:Nat)(HVG:Z (VG G))(HH:Z (HG B wC (sL a0 m0 c0) (sL a1 m1 c1) (sL a2 m2 c2) (sL a3 m3 c3) (sL a4 m4 c4) (sL a5 m5 c5) (sL a6 m6 c6) G))(hnG:G.eo.length=n)(hn:n<=6000)(HNX:Z (Nx wC w2/\wC.heap.size<=g))
  (HS:Z (SB w2 p [sL a0 m0 c0,sL a1 m1 c1,sL a2 m2 c2,sL a3 m3 c3,sL a4 m4 c4,sL a5 m5 c5,sL a6 m6 c6] t rb n q sv b)) (HK:Z (RKM w2 rb n K)) (HB:Z (w2.cell? (aD bS 0)=some (pT p)/\w2.cell? (aD bN 0)=some (sL (sA g) n n))) (HN:Z (w2.heap[g]?=some (.cells (J0 (List.replicate n (-1))).toArray 2 (0,0)))) (HIT:Z (ITB w2 bq sa cap S))
  (HSEP:Z ((bS≠g/\bN≠g/\p≠g/\rb≠g/\bq≠g)/\∀gs o,sa=some (aD gs o)->gs≠g)) (hSl:S.length<=6000) (HSn:Z (∀v∈S,v<n)) (HRB:Z (∀v∈S,(0<=(K v).1/\(K v).1<=100000000000)/\(0<=(K v).2/\(K v).2<=100000))) (HND:Z (S.Nodup)) (HASC:Z (S.Pairwise (λu v=>¬rlt (K v) (K u))))
  (u0 u2 u4 u5 u6 u7 u8 u9 u10 u11 u12 u13 u14 u15 u16 u17 u18 u20 u21 u22 u23 u24 u25 u26 u27 u28 u29 u30 u31 u32 u33 u34 u35 u36 u37 u38 u39 u40 u41 u42 u43 u44 u45 u46 u47 u48 u49 u50 u51 u52:Value) (ds:List Deferred) (Q:Exit->Act->World->Prop)
  (hdone:∀(E:Nat) (N:List Int) (W:World),w2.heap.size<=E->N.length=n->NX (eoG G) (Qz G) t K b S (nfR N)->W.heap[g]?=some (.cells (J0 N).toArray 2 (0,0))->OnS [g] w2 W->W.heap[E]?=some (.deferred (some []))->Q .normal ⟨List.toArray (u0::pT bS::u2::pT bN::u4::u5::u6::u7::u8::u9::u10::u11::u12::u13::u14::u15::u16::u17::u18 :: .func (.func 101) #[] #[pT bq]::u20::u21::u22::u23::u24::u25::u26::u27::u28::u29::u30::u31::u32::u33::u34::u35::u36::u37::u38::u39::u40::u41::u42::u43::u44::u45::u46::u47::u48::u49::u50::u51::u52::[]),Q99 E::ds⟩ W) :
  Code.wp prog ((((Tryz.f50.body.map Xn).getD [])[0]?).getD .skip) Q ⟨List.toArray (u0::pT bS::u2::pT bN::u4::u5::u6::u7::u8::u9::u10::u11::u12::u13::u14::u15::u16::u17::u18 :: .func (.func 101) #[] #[pT bq]::u20::u21::u22::u23::u24::u25::u26::u27::u28::u29::u30::u31::u32::u33::u34::u35::u36::u37::u38::u39::u40::u41::u42::u43::u44::u45::u46::u47::u48::u49::u50::u51::u52::[]),ds⟩ w2:=by
 conv=>arg 2;whnf
 have HDONE:Z _:=hdone
 clear hdone
 have hgl:=(Array.getElem?_eq_some_iff.1 HN.o).1
 refine(wpIn_wide (n:=9)).1 ?_
 refine wpIn_rangeFunc_ownH (n:=9) (F:=Fence.wide) rfl (by decide) (gf:=101) (lb:=#[pT bq]) rfl trivial (enters_of func101 (by kernel_rfl) rfl)
  (Q6g 7 bq sa cap S (by omega) w2 HIT.o) (λh1 h2 h3=>h2 (h1 h3)) (λW l o o' _ h ho _ hI=>hI.kept (λb q u hc=>cell_kept hc (grownBy_putObj' W l o') (λk e=>by cases e;exact⟨o,h,ho⟩))) (Below.refl _ _) (λ_=>rfl)
  (CI2 w2 n g t K b G S) (λ_ _ _=>False) (CI2.own hgl) (λ_ _ _ _ _ h _ _=>h) ⟨List.replicate n (-1),by simp,λ_=>NX.start _ _ _ _ _ (Qdm n),HN.o,OnS.refl _ _⟩
  (λx a' W=>∃Bv,W.cell? (aD Bv 0)=some (iV (x.1.2:Int))/\a'=⟨List.toArray (u0::pT bS::u2::pT bN::u4::pT Bv::u6::u7::u8::u9::u10::u11::u12::u13::u14::u15::u16::u17::u18 :: .func (.func 101) #[] #[pT bq]::iV (x.1.1:Int)::iV (x.1.2:Int)::u22::u23::u24::u25::u26::u27::u28::u29::u30::u31::u32::u33::u34::u35::u36::u37::u38::u39::u40::u41::u42::u43::u44::u45::u46::u47::u48::u49::u50::u51::u52::[]),[]⟩) ?hAx ?assign ?body ?done ?stop
 case hAx=>
  rintro x a' _ W W' row ⟨Bv,h2,h4⟩ hg hr
  exact⟨Bv,cell_kept h2 hg (λr e=>(hr r e).2),h4⟩
 case stop=>
  rintro D c pre W _ _ h _
  exact h.elim
 case done=>
  rintro E ys W hE hys ⟨N,h1,h2,h3,h4⟩ hK
  have hl:ys.length=S.length:=by
   have:=congrArg List.length hys
   rw[Qc7,zF] at this
   exact this
  have h5:=h2 (by rw[hl];exact hys)
  have e:(ys.map (·.1.2)).reverse=S:=by
   have:ys.map (·.1.2)=(bk S S.length).map (·.2):=by rw[<-hys,List.map_map];rfl
   rw[this]
   exact Qgf S
  rw[e] at h5
  exact HDONE.o E N W hE h1 h5 h3 h4 hK
 case assign=>
  intro l pre x W K' hI hK
  have HI2:Z (CI2 w2 n g t K b G S pre (W.alloc (.cells #[iV (x.1.2:Int)] 2))):=(CI2.own hgl).alloc _ hI
  clear hI
  unfold Qe4
  gi_wp2
  exact hK _ _ ((KeepsOthers.alloc _ _).from _) (λh=>h.kept (λb o u hc=>Q0 (Qe _ _) hc)) HI2.o ⟨W.heap.size,(Blk.new W #[iV (x.1.2:Int)] 2 _ rfl).c 0 rfl,rfl⟩
 case body=>
  rintro l pre x a' W hl ⟨rec,hrec⟩ ⟨N,hNl,hNX,hgW,hOn⟩ ⟨Bv,hbv,rfl⟩ hlen
  obtain⟨c,hc,hxe⟩:=x.2
  have hvS:x.1.2∈S:=by rw[hxe];exact T7 (by omega)
  have hvn:=HSn.o _ hvS
  obtain⟨⟨n1,n2,n3,n4,n5⟩,n6⟩:=HSEP.o
  have x1:=hOn.cell (by simpa using n1) HB.o.1
  have HX2:=mh (hOn.cell (by simpa using n2) HB.o.2)
  have HSW:=mh (HS.o.kept (hOn.block p HS.o.lt (by simpa using n3)))
  have HKW:=mh (HK.o.kept (hOn.block rb HK.o.lt (by simpa using n4)))
  have HCW:Z (Nx wC W):=Below.trans HNX.o.1 (hOn.below HNX.o.1.size (by simpa using HNX.o.2))
  have HNXX:=mh hNX
  have HGW:Z (N.length=n/\W.heap[g]?=some (.cells (J0 N).toArray 2 (0,0))):=⟨hNl,hgW⟩
  have HON:=mh hOn
  have HREC:=mh hrec
  have HBV:=mh hbv
  have HVS:=mh hvS
  have HLEN:=mh hlen
  clear hNX hgW hOn hrec hxe hc hvS hlen hNl n1 n2 n3 n4 n5 n6
  refine wpIn_block ?_
  refine wpIn_seq ?_
  gi_wp2_with (refine⟨trivial,?_⟩;gi_at_call 49;refine(CallsIn.inRound l (callsIn_wide.2 (Er p rb n q _ _ _ _ _ _ _ t sv b x.1.2 _ HSW.o (by intro x hx;simp at hx;rcases hx with rfl|rfl|rfl|rfl|rfl|rfl|rfl<;>exact⟨_,_,_,rfl⟩)))).mono ?_;rintro e W4 ⟨bg,bv,bs,rfl,hOW,hls,hx4⟩)
  have H4:=mh hx4
  have hvG:x.1.2<G.eo.length:=by omega
  obtain⟨e2,b2,o2,ha2,hc2⟩:=HH.o.h2.row (by have:=HVG.o.lf;omega)
  have e3:=HH.o.h3.len
  have e4:=HH.o.h4.len
  subst ha2
  have hfl:=Ku HVG.o hvG
  have hft:=(Jr HVG.o (show x.1.2+1<=G.eo.length by omega)).2
  have HC4:=mh (HCW.o.trans H4.o)
  have HITC:Z (ITC W4 bg bv bs p rb n x.1.2 b2 o2 m2 c2 a3 m3 c3 a4 m4 c4 G (K x.1.2)):=by
   have hs4:=HSW.o.kept (H4.o.block p HSW.o.lt)
   have hk4:=HKW.o.next H4.o
   refine⟨hOW.g.c 2 rfl,hOW.g.c 3 rfl,hOW.g.c 4 rfl,hOW.v.c 0 rfl,hOW.s.c 0 rfl,hs4.cell.2.1,hk4.c1 hvn,hk4.c2 hvn,?_,?_,λk h1 h2=>?_,λk h1 h2=>?_⟩
   ·rw[<-(Jr HVG.o (show x.1.2<=G.eo.length by omega)).1]
    exact Q0 HC4.o (hc2 _ (by have:=HVG.o.lf;omega))
   ·rw[<-(Jr HVG.o (show x.1.2+1<=G.eo.length by omega)).1]
    exact Q0 HC4.o (hc2 _ (by have:=HVG.o.lf;omega))
   ·obtain⟨_,b,o,ha,hc⟩:=HH.o.h3.row (by omega)
    exact⟨b,o,ha,Q0 HC4.o (hc k (by omega))⟩
   ·have:=HVG.o.lc
    obtain⟨_,b,o,ha,hc⟩:=HH.o.h4.row (by omega)
    exact⟨b,o,ha,Q0 HC4.o (hc k (by omega))⟩
  have HN4:Z (N.length=n/\W4.heap[g]?=some (.cells (J0 N).toArray 2 (0,0))):=⟨HGW.o.1,(H4.o.block g (Array.getElem?_eq_some_iff.1 HGW.o.2).1).trans HGW.o.2⟩
  have hl4:=(H4.o.block l (Array.getElem?_eq_some_iff.1 HREC.o).1).trans HREC.o
  have hgl4:=(Array.getElem?_eq_some_iff.1 HN4.o.2).1
  refine Q2j l rec W4 p q rb n a0 m0 c0 _ _ _ _ _ _ t sv b K G B x.1.2 bS bN Bv g bg bv bs N b2 o2 m2 c2 a3 m3 c3 a4 m4 c4 hl4 HVG e2 e3 e4 hnG hn hvn (HRB.o _ HVS.o).1 (HRB.o _ HVS.o).2 (HSW.o.kept (H4.o.block p HSW.o.lt)) (HKW.o.next H4.o) (HH.o.h0.next HC4.o) ⟨Q0 H4.o x1,Q0 H4.o HX2.o,Q0 H4.o HBV.o⟩ HN4 HITC _ _ _ _ _ _ _ _ _ _ _ _ _ _ _ _ _ _ _ _ _ _ _ _ _ _ _ _ _ _ _ _ _ _ _ _ _ _ _ _ _ _ _ _ _ _ _ _ _ _ _ ?_ ?_
  ·intro W5 h5 hno
   have h45:=H4.o.trans h5
   refine⟨KeepsFrom.on (OnS.nx (S:=[]) h45) (by simp),λh=>h.kept (λb o u hc=>Q0 h45 hc),?_⟩
   exact CI2.step HVG.o HND.o HASC.o HLEN.o HGW.o.1 HNXX.o ((h45.block g (Array.getElem?_eq_some_iff.1 HGW.o.2).1).trans HGW.o.2) (HON.o.tr (OnS.nx h45)) (λ_ _=>rfl) (oR ⟨rfl,hno⟩)
  ·intro W5 y h5 hg5 hy
   have h45:=(OnS.nx (S:=[g]) H4.o).tr h5
   obtain⟨⟨n1,n2,n3,n4,n5⟩,n6⟩:=HSEP.o
   refine⟨KeepsFrom.on h45 (λz hz=>by have:=List.mem_singleton.1 hz;subst this;exact⟨_,_,_,HGW.o.2⟩),λh=>h.on h45 (by simpa using n5) (λgs o e=>by simpa using n6 gs o e),?_⟩
   obtain⟨pr,k,post,q1,q2,q3⟩:=hy
   exact CI2.step HVG.o HND.o HASC.o HLEN.o (by rw[List.length_set];exact HGW.o.1) HNXX.o hg5 (HON.o.tr h45) (λz hz=>Qb6 N hz _) (oL ⟨pr,y,k,post,q1,q2,q3,Qdl N (by rw[HGW.o.1];exact hvn) _⟩)
theorem DJ.bounds (hG:VG G){s0:Nat}{w0:Int}{O:List Nat}(h:DJ (eoG G) (Qz G) s0 w0 t (Qz G) K S O)(hs0:s0<G.eo.length)(hw0:0<=w0/\w0<=1048576):(∀v∈S,v<G.eo.length)/\S.length<=G.eo.length/\∀v∈S,(0<=(K v).1/\(K v).1<=100000000000)/\(0<=(K v).2/\(K v).2<=100000):=by
 have h1:∀v∈S,v<G.eo.length:=λv hv=>by
  obtain⟨E,c,hW,_⟩:=h.real v ((h.dom v).2 (oL hv))
  exact hW.bd hs0 (Iy hG)
 have h2:=Pr G.eo.length S h.nds h1
 refine⟨h1,h2,λv hv=>?_⟩
 obtain⟨E,c,hW,e⟩:=h.real v ((h.dom v).2 (oL hv))
 have h3:=Q6w hG hw0 hW
 have h4:=h.cn.1 v hv
 have h5:=hG.v
 rw[e] at h4 ⊢
 simp only at h4 ⊢
 omega
theorem Q6c (wC w:World)(sb p q mb rb n:Nat)(a0:Option Addr)(m0 c0:Nat)(a1:Option Addr)(m1 c1:Nat)(a2:Option Addr)(m2 c2:Nat)(a3:Option Addr)(m3 c3:Nat)(a4:Option Addr)(m4 c4:Nat)(a5:Option Addr)(m5 c5:Nat)(a6:Option Addr)(m6 c6:Nat)(t:Int)(G:Gr)(B:Nat)(s0:Nat)(w0:Int)(b:Rk)(iv sv:Value)(K:Nat->Rk)(L:List Nat)(D:DM)(S O:List Nat)(HVG:Z (VG G))(HH:Z (HG B wC (sL a0 m0 c0) (sL a1 m1 c1) (sL a2 m2 c2) (sL a3 m3 c3) (sL a4 m4 c4) (sL a5 m5 c5) (sL a6 m6 c6) G))(hnG:G.eo.length=n)(hn1:1<=n)(hs0:s0<n)(hw0:0<=w0/\w0<=1048576)(hnx:Nx wC w)(h:SR wC.heap.size w sb p q mb rb n [sL a0 m0 c0,sL a1 m1 c1,sL a2 m2 c2,sL a3 m3 c3,sL a4 m4 c4,sL a5 m5 c5,sL a6 m6 c6] t b iv sv K L D S)(hDJ:DJ (eoG G) (Qz G) s0 w0 t (Qz G) K S O) :
  Calls prog 50 #[pT p] w λe w'=>∃g N,e=.returned (sL (sA g) n n)/\w'.heap[g]?=some (.cells (J0 N).toArray 2 (0,0))/\N.length=n/\NX (eoG G) (Qz G) t K b S (nfR N)/\Nx w w':=by
 have hn6:n<=6000:=by have:=HVG.o.v;omega
 have HD:=mh hDJ
 obtain⟨hb1,hb2,hb3⟩:=hDJ.bounds HVG.o (by omega) hw0
 have HSn:Z (∀v∈S,v<n):=by rw[<-hnG];exact hb1
 have HRB:=mh hb3
 have hSl:S.length<=6000:=by omega
 clear hb1 hb2 hb3 hDJ
 obtain⟨sa,sc,hsv⟩:=h.d.slice
 rw[Ja] at hsv
 subst hsv
 have H:=mh h
 clear h
 refine(callsIn_wide (n:=9)).1 (callsIn_of_wp_marks func50 rfl trivial ?_ rfl)
 simp only[ntmps50,List.size_toArray,List.length_cons,List.length_nil,Nat.reduceAdd,Nat.reduceSub,Array.replicate_succ,Array.replicate_zero,List.push_toArray,List.append_toArray,List.nil_append,List.cons_append]
 refine wpIn_wide.2 ?_
 have HX1:Z (Nx w (w.alloc (.cells #[pT p] 47))):=Qe _ _
 have HB1:Z (Blk (w.alloc (.cells #[pT p] 47)) w.heap.size #[pT p]):=Blk.new w _ _ _ rfl
 have HZ1:Z ((w.alloc (.cells #[pT p] 47)).heap.size=w.heap.size+1):=Q1 _ _
 go_upto_region 1 with fail
 generalize w.alloc (.cells #[pT p] 47)=w1 at *
 have HX2:Z (Nx w1 (w1.alloc (.cells #[iV (-1)] 2))):=Qe _ _
 have hS1:=H.o.next (HX1.o.trans HX2.o)
 have x1:=Q0 HX2.o (HB1.o.c 0 rfl)
 have k8:=hS1.s.cell.2.1
 have HM1:Z ((w1.alloc (.cells #[iV (-1)] 2)).cell? (aD w1.heap.size 0)=some (iV (-1))):=(Blk.new w1 #[iV (-1)] 2 _ rfl).c 0 rfl
 have HZ2:Z ((w1.alloc (.cells #[iV (-1)] 2)).heap.size=w1.heap.size+1):=Q1 _ _
 clear hS1
 go_wp2_with fail
 refine(Q5d _ w1.heap.size n (-1) HM1.o hn1 hn6).mono ?_
 rintro e w3 ⟨rfl,hrow,hx3⟩
 have HX3:=mh ((HX1.o.trans HX2.o).trans hx3)
 generalize hgg:(w1.alloc (.cells #[iV (-1)] 2)).heap.size=g at *
 have HG3:=mh hrow
 have HGZ:Z (w.heap.size+1<g):=by have:=HZ1.o;have:=HZ2.o;unfold Z;omega
 have HX13:Z (w3.cell? (aD w.heap.size 0)=some (pT p)):=Q0 hx3 x1
 have HS3:=mh (H.o.next HX3.o)
 have HX4:Z (Nx w3 (w3.alloc (.cells #[sL (sA g) n n] 23))):=Qe _ _
 have HB4:Z (Blk (w3.alloc (.cells #[sL (sA g) n n] 23)) w3.heap.size #[sL (sA g) n n]):=Blk.new w3 _ _ _ rfl
 have HGL:=mh ((Array.getElem?_eq_some_iff.1 hrow).1)
 clear hrow hx3 x1 k8 HX2 HM1 hgg HZ1 HZ2 HX1 HB1
 go_upto_region 2 with fail
 generalize w3.alloc (.cells #[sL (sA g) n n] 23)=w4 at *
 have HS4:=mh (HS3.o.next HX4.o)
 have x1:=Q0 HX4.o HX13.o
 have k10:=HS4.o.s.cell.2.2.2.1
 go_wp2_with fail
 refine(Qcd _ _ _ _).mono ?_
 rintro e w5 ⟨rfl,hw5⟩
 have HX5:Z (Nx w4 w5):=by rw[hw5];exact Qe _ _
 have HB5:Z (w5.cell? (aD w4.heap.size 0)=some (sL sa S.length sc)):=by rw[hw5];exact(Blk.new w4 _ _ _ rfl).c 0 rfl
 clear hw5 k10
 have HS5:=mh (HS4.o.next HX5.o)
 have HG5:=mh ((HX5.o.block g (zJ HGL.o HX4.o.size)).trans ((HX4.o.block g HGL.o).trans HG3.o))
 have HC5:Z (Nx wC w5/\wC.heap.size<=g):=⟨((hnx.trans HX3.o).trans HX4.o).trans HX5.o,by have:=hnx.size;have:=HGZ.o;omega⟩
 have HIT:Z (ITB w5 w4.heap.size sa sc S):=by
  refine⟨HB5.o,λi hi=>?_⟩
  have hd:=HS5.o.d
  obtain⟨gs,e,hc⟩:=hd.cell (i:=i) (by rw[Ja];exact hi)
  exact⟨gs,e,by rw[Q25 hi] at hc;exact hc⟩
 have HSEP:Z ((w.heap.size≠g/\w3.heap.size≠g/\p≠g/\rb≠g/\w4.heap.size≠g)/\∀gs o,sa=some (aD gs o)->gs≠g):=by
  have h1:=HGZ.o
  have h2:=HGL.o
  have h3:=HX4.o.size
  have h4:=H.o.s.lt
  have h5:=H.o.k.lt
  refine⟨⟨by omega,by omega,by omega,by omega,by omega⟩,λgs o e=>?_⟩
  subst e
  rcases H.o.d.2 with⟨e2,_⟩|⟨g2,cap,cur,e2,_,hh,_⟩
  ·cases e2
  ·simp only[zC,Option.some.injEq,Addr.mk.injEq] at e2
   have:=(Array.getElem?_eq_some_iff.1 hh).1
   omega
 have HCB:Z (w5.cell? (aD w.heap.size 0)=some (pT p)/\w5.cell? (aD w3.heap.size 0)=some (sL (sA g) n n)):=⟨Q0 HX5.o x1,Q0 HX5.o (HB4.o.c 0 rfl)⟩
 clear x1
 go_wp2
 refine Q2i wC w5 p q rb n a0 m0 c0 a1 m1 c1 a2 m2 c2 a3 m3 c3 a4 m4 c4 a5 m5 c5 a6 m6 c6 t (sL sa S.length sc) b K G B S w.heap.size w3.heap.size g w4.heap.size sa sc HVG HH hnG hn6 HC5 HS5.o.s HS5.o.k HCB HG5 HIT HSEP hSl HSn HRB HD.o.nds HD.o.asc _ _ _ _ _ _ _ _ _ _ _ _ _ _ _ _ _ _ _ _ _ _ _ _ _ _ _ _ _ _ _ _ _ _ _ _ _ _ _ _ _ _ _ _ _ _ _ _ _ _ _ _ ?_
 intro E N W hE hNl hNX hgW hOn hK
 have z1:=hOn.cell (by simpa using HSEP.o.1.2.1) HCB.o.2
 have HNl:=mh hNl
 have HGW:=mh hgW
 have HON:=mh hOn
 have HEK:=mh hK
 clear hNl hgW hOn hK
 go_wp2
 refine U2 [E] W (by simp) (by simpa using HEK.o) (λW' ho=>?_)
 have hEg:g≠E:=λe=>by
  have h1:=HGW.o
  rw[e,HEK.o] at h1
  cases h1
 refine⟨_,results_tmp rfl _ _ _,g,N,rfl,(ho.block g (Array.getElem?_eq_some_iff.1 HGW.o).1 (by simpa using hEg)).trans HGW.o,HNl.o,hNX,?_⟩
 have h1:=(HX3.o.trans HX4.o).trans HX5.o
 have h2:=HON.o.below h1.size (by simp;have:=HGZ.o;omega)
 refine Below.trans (Below.trans h1 h2) (ho.below (by have:=HON.o.size;have:=h1.size;omega) (by simp;have:=h1.size;omega))
theorem Q10 {G:Gr}(h:VG G){v:Nat}(hv:v<G.eo.length):∀d k,fst G v<=k->k+d+1<fst G (v+1)->Us G k<Us G (k+d+1)
 |0,k,h1,h2=>by
  have e1:=(Jr h (show v<=G.eo.length by omega)).1
  have e2:=(Jr h (show v+1<=G.eo.length by omega)).1
  have:=h.asc v hv (k+1) (by rw[e1];omega) (by rw[e2];omega)
  simpa using this
 |d+1,k,h1,h2=>by
  have e1:=(Jr h (show v<=G.eo.length by omega)).1
  have e2:=(Jr h (show v+1<=G.eo.length by omega)).1
  have h3:=Q10 h hv d k h1 (by omega)
  have:=h.asc v hv (k+d+1+1) (by rw[e1];omega) (by rw[e2];omega)
  have e3:k+d+1+1-1=k+d+1:=by omega
  rw[e3] at this
  have e4:k+(d+1)+1=k+d+1+1:=by omega
  rw[e4]
  omega
theorem Qci (h:VG G)(v:Nat):(Qz G v).Pairwise (λp q=>eoG G p.1<eoG G q.1):=by
 unfold Qz
 split
 ·rename_i hv
  rw[List.pairwise_map]
  refine List.Pairwise.imp_of_mem (λ{a b} ha hb hab=>?_) (List.pairwise_lt_range' (s:=fst G v) (n:=fst G (v+1)-fst G v) (step:=1) (by decide))
  have ha':=List.mem_range'_1.1 ha
  have hb':=List.mem_range'_1.1 hb
  have:=Q10 h hv (b-a-1) a ha'.1 (by omega)
  rw[show a+(b-a-1)+1=b by omega] at this
  exact this
 ·exact List.Pairwise.nil
theorem TRV.casesF {b:Rk}{x:Nat}{F:List Int}(h:TRV eo t K b N x F):(Uq eo t K b x/\F=[])\/(¬Uq eo t K b x/\∃y F2,N x=(y:Nat)/\F=eo y::F2/\TRV eo t K b N y F2):=by
 induction h using TRV.ind with
 |nil h=>exact oL ⟨h,rfl⟩
 |cons h1 h2 h3 hzz=>exact oR ⟨h1,_,_,h2,rfl,h3⟩
theorem TRV.len {arcs:Nat->List (Nat×Int)}{b:Rk}(hX:NX eo arcs t K b S N){x:Nat}{F:List Int}(h:TRV eo t K b N x F):b.2=(K x).2+F.length:=by
 induction h using TRV.ind with
 |nil h=>rw[h.2];simp
 |cons h1 h2 h3 ih=>
  obtain⟨_,k,_,g2,_⟩:=hX.go h2
  rw[ih,g2,List.length_cons]
  simp only[aft]
  omega
def Ia:Value->Nat
 |.slice _ n _=>n
 |_=>0
theorem Q8j (wC w:World)(sb p q mb rb n:Nat)(a0:Option Addr)(m0 c0:Nat)(a1:Option Addr)(m1 c1:Nat)(a2:Option Addr)(m2 c2:Nat)(a3:Option Addr)(m3 c3:Nat)(a4:Option Addr)(m4 c4:Nat)(a5:Option Addr)(m5 c5:Nat)(a6:Option Addr)(m6 c6:Nat)(t:Int)(G:Gr)(B:Nat)(s0:Nat)(w0:Int)(v0:Nat)(iv sv:Value)(K:Nat->Rk)(L:List Nat)(D:DM)(S O:List Nat)(HVG:Z (VG G))(HH:Z (HG B wC (sL a0 m0 c0) (sL a1 m1 c1) (sL a2 m2 c2) (sL a3 m3 c3) (sL a4 m4 c4) (sL a5 m5 c5) (sL a6 m6 c6) G))(hnG:G.eo.length=n)(hs0:s0<n)(hw0:0<=w0/\w0<=1048576)(hnx:Nx wC w)(h:SR wC.heap.size w sb p q mb rb n [sL a0 m0 c0,sL a1 m1 c1,sL a2 m2 c2,sL a3 m3 c3,sL a4 m4 c4,sL a5 m5 c5,sL a6 m6 c6] t (K v0) iv sv K L D S)(hDJ:DJ (eoG G) (Qz G) s0 w0 t (Qz G) K S O)(hv0:v0∈O)(hle:∀y∈O,¬rlt (K y) (K v0))(ht:eoG G v0=t) :
  Calls prog 31 #[pT p,iV (s0:Int)] w λe w'=>∃v' E,e=.returned v'/\Q5 w.heap.size w' v' E/\Fl t (λc E=>∃v,WK (eoG G) (Qz G) s0 w0 E c v/\eoG G v=t) ⟨0,(K v0).1,E⟩/\E.length<=7001/\Nx w w':=by
 have hn6:n<=6000:=by have:=HVG.o.v;omega
 obtain⟨ii,hi,hz0,hz1,hz2⟩:=info_parts Zp
 have H:=mh h
 have HD:=mh hDJ
 have HV0:=mh hv0
 have HLE:=mh hle
 have HT:=mh ht
 clear h hDJ hv0 hle ht
 go_enter func31,ntmps31
 go_wp2_with fail
 refine(Q6c wC w sb p q mb rb n a0 m0 c0 a1 m1 c1 a2 m2 c2 a3 m3 c3 a4 m4 c4 a5 m5 c5 a6 m6 c6 t G B s0 w0 (K v0) iv sv K L D S O HVG HH hnG (by omega) hs0 hw0 hnx H.o HD.o).mono ?_
 rintro e w1 ⟨g,N,rfl,hg,hNl,hNX,hx1⟩
 obtain⟨F,hF,hBest⟩:=HD.o.found (λv u k h=>(Iz HVG.o v u k h).1) (Qci HVG.o) HV0.o HLE.o HT.o hNX
 have HBEST:=mh hBest
 have HTR0:=mh hF
 have hFl:F.length<=7000:=by
  have h1:=hF.len hNX
  have h2:=HD.o.cn.2 v0 HV0.o
  have h3:=(HD.o.bounds HVG.o (by omega) hw0).2.1
  obtain⟨E,c,hW,e⟩:=HD.o.real s0 HD.o.st.1
  have h4:0<=(K s0).2:=by rw[e];simp
  omega
 have HNX:=mh hNX
 have HX1:=mh hx1
 have HS1:=mh (H.o.next hx1)
 have HC1:=mh (hnx.trans hx1)
 have HG1:=mh hg
 have HNL:=mh hNl
 obtain⟨e0,b0,o0,ha0,hc0⟩:=(HH.o.next HC1.o).h0.row (by omega)
 subst ha0
 have HE0:=mh e0
 have HC0:=mh hc0
 have x0:w1.cell? (aD b0 (o0+s0))=some (iV (eoG G s0)):=hc0 s0 (by omega)
 have k0:=HS1.o.s.gcell.1
 have hsm:(s0:Int)<m0:=by omega
 clear hg hNl hNX hx1 hF hBest e0 hc0
 go_upto_region 3 with fail
 have HO0:Z (Q5 w1.heap.size (w1.alloc (.cells #[iV (eoG G s0)] 2)) (sL (sA w1.heap.size) 1 1) [eoG G s0]):=Ws _ _ _ lR
 have HX2:Z (Nx w1 (w1.alloc (.cells #[iV (eoG G s0)] 2))):=Qe _ _
 clear x0 k0 hsm
 generalize w1.alloc (.cells #[iV (eoG G s0)] 2)=w2 at *
 go_wp2
 go_loopw [6,7] (λev vv wr=>∃(v:Nat) (E F':List Int),v<n/\vv=iV v/\Z (TRV (eoG G) t K (K v0) (nfR N) v F')/\Z (E++F'=eoG G s0::F)/\Z (Q5 w1.heap.size wr ev E)/\Z (Nx w1 wr)) (λev _ _=>F.length+1-Ia ev)
 case atStart=>exact⟨s0,[eoG G s0],F,hs0,rfl,HTR0,rfl,HO0,HX2⟩
 case round=>
  clear HO0 HX2 HTR0
  obtain⟨v,E,F',hv,rfl,HTR,HEF,HO,HN⟩:=hrel
  have HSr:=mh (HS1.o.next HN.o)
  rcases HTR.o.casesF with⟨he,hF⟩|⟨he,y,F2,hy,hF,hT2⟩
  ·have HE:Z (E=eoG G s0::F):=by have:=HEF.o;rw[hF,List.append_nil] at this;exact this
   have de:endB (eoG G) t K (K v0) v=true:=(endB_iff _ _ _ _ _).2 he
   clear he hF
   go_wp2_with fail
   refine(Ab B p rb n q (some (aD b0 o0)) m0 c0 _ _ _ _ _ _ G t sv (K v0) K v _ HSr.o.s HSr.o.k (HH.o.next (HC1.o.trans HN.o)).h0 hnG hv).mono ?_
   rintro e w4 ⟨rfl,hx4⟩
   rw[de]
   have HX4:=mh hx4
   clear hx4 de
   go_wp2
   go_ret
   refine⟨_,eoG G s0::F,rfl,?_,HBEST.o,by simp;omega,(HX1.o.trans HN.o).trans HX4.o⟩
   have:=HO.o.next HX4.o
   rw[HE.o] at this
   exact this.base HX1.o.size
  ·have de:endB (eoG G) t K (K v0) v=false:=Bool.eq_false_iff.2 (λh=>he ((endB_iff _ _ _ _ _).1 h))
   obtain⟨hvS,kk,hkk,_,_⟩:=HNX.o.go hy
   have hyn:y<n:=by have:=Iy HVG.o _ _ _ hkk;omega
   have HEF2:Z ((E++[eoG G y])++F2=eoG G s0::F):=by have:=HEF.o;rw[hF] at this;unfold Z;rw[zZ];exact this
   have HT2:=mh hT2
   have hEl:E.length+F2.length=F.length:=by have:=congrArg List.length HEF2.o;simp at this;omega
   have HEL:=mh hEl
   obtain⟨ea,ec,hev⟩:=HO.o.slice
   have HCV:Z (w1.cell? (aD g v)=some (iV (y:Int))):=by
    unfold Z
    rw[<-hy,Qb7 (by rw[HNL.o];exact hv)]
    simp only[World.cell?,HG1.o]
    have:=Pt (zs:=N) (i:=v) (by rw[HNL.o];exact hv)
    simpa using this
   subst hev
   clear he hF hy hvS hkk hT2 hEl
   go_wp2_with fail
   refine(Ab B p rb n q (some (aD b0 o0)) m0 c0 _ _ _ _ _ _ G t sv (K v0) K v _ HSr.o.s HSr.o.k (HH.o.next (HC1.o.trans HN.o)).h0 hnG hv).mono ?_
   rintro e w4 ⟨rfl,hx4⟩
   rw[de]
   have HX4:=mh hx4
   have HN4:=mh (HN.o.trans hx4)
   have HO4:=mh (HO.o.next hx4)
   have HS4:=mh (HSr.o.next hx4)
   have c1:=Q0 HN4.o HCV.o
   have c2:=Q0 HN4.o (HC0.o y (by omega))
   rw[show iat G.eo y=eoG G y from rfl] at c2
   have c3:=HS4.o.s.gcell.1
   have hvn':(v:Int)<n:=by omega
   have hym:(y:Int)<m0:=by have:=HE0.o;omega
   have hEb:E.length<=7000:=by have:=HEL.o;omega
   have HEB:=mh hEb
   clear hx4 de
   generalize hev:eoG G y=ey at *
   generalize hel:E.length=el at *
   have HELN:=mh hel
   clear hel
   go_wp2_with (at_builtin;refine wpList_append_own_at _ rfl _ _ 23 rfl w1.heap.size 2 ii (iV 0) 1 8 underlying23 hi hz0 hz1 hz2 rfl (by decide) _ _ _ rfl (zB HO4.o _) (aD w4.heap.size 0) 1 1 [iV ey] rfl rfl (λj u hj=>Qn w4 _ _ _ rfl j u hj) ?d2 ?d3 ?d4 ?d5 ?_)
   case d2=>intro u hu;simp at hu;subst hu;rfl
   case d3=>rw[HELN.o];unfold maxLen;omega
   case d4=>rw[HELN.o];omega
   case d5=>rw[Q1];have:=HN4.o.size;omega
   intro v7 w7 hown hgrow _ _
   have HO7:=mh (Q5.snoc hown)
   have HN7:Z (Nx w1 w7):=Below.grown (HN4.o.alloc _) hgrow (by rw[Q1];have:=HN4.o.size;omega) (λg hg=>(Q7 HO4.o g hg).1)
   have HM:Z (Ia v7=el+1):=by
    obtain⟨a7,c7,e7⟩:=HO7.o.slice
    unfold Z
    rw[e7]
    simp[Ia,HELN.o]
   clear hown hgrow c1 c2 c3
   go_wp2
   go_roundw
   case rel=>exact⟨y,E++[ey],F2,hyn,rfl,HT2,HEF2,HO7,HN7⟩
   case measure=>
    have h1:=HM.o
    have h2:=HEL.o
    have h3:=HELN.o
    show F.length+1-Ia v7<F.length+1-E.length
    rw[h1]
    omega
end Go.Proofs.YtphiaobccollhaaGreat
