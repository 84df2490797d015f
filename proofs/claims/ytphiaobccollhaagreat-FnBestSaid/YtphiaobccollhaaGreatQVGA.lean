import Derived.Test.YtphiaobccollhaaGreatQLD
import Derived.Test.YtphiaobccollhaaGreatQXDA
namespace Go.Proofs.YtphiaobccollhaaGreat
open Go.RowKit
set_option linter.unusedVariables false
set_option maxRecDepth 1000000
set_option maxHeartbeats 16000000
open Tryz
variable {B k n:Nat}{w:World}{v0 v1 v2 v3 v4 v5 v6:Value}
def Qc4 (a b c d:Int):Int:=orI (Y9 a c) (Y9 b d)
def ltV (a b c d:Int):Bool:=decide (a<c)||(a==c&&decide (b<d))
theorem Fg (a b c d:Int):decide (0<=Qc4 a b c d)=!ltV a b c d:=by
 unfold Qc4 ltV orI Y9
 by_cases h1:a<c
 ·simp[h1]
 ·by_cases h2:c<a
  ·have:(a==c)=false:=by simp;omega
   simp[h1,h2,this]
  ·have:(a==c)=true:=by simp;omega
   by_cases h3:b<d
   ·simp[h1,h2,this,h3]
   ·by_cases h4:d<b<;>simp[h1,h2,this,h3,h4]
theorem Q14 (a b c d:Int)(w:World) :
  Calls prog 38 #[.agg #[iV a,iV b],.agg #[iV c,iV d]] w λe w'=>e=.returned (iV (Qc4 a b c d))/\Nx w w':=by
 go_enter func38,ntmps38
 go_wp2_with fail
 go_region_held3 (λw'=>w'.cell? (aD w.heap.size 0)=some (iV a)/\w'.cell? (aD w.heap.size 1)=some (iV b)/\w'.cell? (aD (w.heap.size+1) 0)=some (iV c)/\w'.cell? (aD (w.heap.size+1) 1)=some (iV d)) (go_keep) (first|(go_at_call 41;refine(Tb _ _ _).mono ?_;rintro e w' ⟨rfl,rfl⟩)|(go_at_call 68;refine(Qfu _ _ _ (Y9 a c) (Y9 b d) _ (by exact Qg8 _ _ _ _ _ (by simp)) (by exact Qg7 _ _ _ _ _ (by simp))).mono ?_;rintro e w' ⟨rfl,rfl⟩))
 all_goals go_wp2
 all_goals
  go_ret
  exact⟨rfl,((Uk _ _ _).alloc _).drew⟩
def HVsV (B:Nat)(w:World)(v:Value)(n:Nat)(X Y:Nat->Int):Prop:=
 Jn B w v n λb off i=>w.cell? (aD b (off+i*2))=some (iV (X i))/\w.cell? (aD b (off+i*2+1))=some (iV (Y i))
def Eu (X Y:Nat->Int)(i j:Nat):Bool:=ltV (X i) (Y i) (X j) (Y j)
theorem Q9r (B:Nat)(v:Value)(n:Nat)(X Y:Nat->Int)(w:World)(h0:HVsV B w v n X Y) :
  Calls prog 37 #[v,.func (.func 38) #[] #[]] w λe w'=>e=.returned (.bool (Tg n (Eu X Y)))/\Nx w w':=by
 obtain⟨a,cap,rfl,hn,hk⟩:=h0
 unfold maxLen at hn
 go_enter func37,ntmps37
 go_wp2
 go_loopw [5] (λi wr=>∃j:Nat,(j+1<=n\/j=0)/\i=iV ((j:Int)+1)/\Z (Jz (Xy (Eu X Y)) (j+1))/\Nx w wr) (λi _=>n-(intOf i).toNat)
 case atStart=>exact⟨0,oR rfl,rfl,Q17 _,Nx.refl _⟩
 case round=>
  obtain⟨j,hj,rfl,hrel,hnx⟩:=hrel
  have HN:=mh hnx
  clear hnx
  by_cases hlt:j+1<n
  ·obtain⟨b,off,rfl,hB,hb,hc⟩:=hk (by omega)
   obtain⟨a0,a1⟩:=hc j (by omega)
   obtain⟨b0,b1⟩:=hc (j+1) hlt
   have a0:=Q2 HN.o hb a0
   have a1:=Q2 HN.o hb a1
   have b0:=Q2 HN.o hb b0
   have b1:=Q2 HN.o hb b1
   have hlt':(j:Int)+1<n:=by omega
   have hlj:(j:Int)<n:=by omega
   have hwj:=Va j (by omega)
   clear hc hk
   by_cases hab:Eu X Y j (j+1)=true
   ·have hd:decide (0<=Qc4 (X j) (Y j) (X (j+1)) (Y (j+1)))=false:=by rw[Fg];simpa [Eu] using hab
    have HT:Z (Xy (Eu X Y) (j+1)=true):=by rw[Ji];exact hab
    clear hab
    go_wp2
    go_region_with (go_at_call 38;refine(Q14 (X j) (Y j) (X (j+1)) (Y (j+1)) _).mono ?_;rintro e w' ⟨rfl,hx⟩)
    all_goals go_wp2
    all_goals
     go_roundw
     case rel=>exact⟨j+1,by omega,by go_num,Qm hrel HT.o,HN.o.drew.trans hx⟩
     case measure=>simp[intOf];omega
   ·have hd:decide (0<=Qc4 (X j) (Y j) (X (j+1)) (Y (j+1)))=true:=by rw[Fg];simpa [Eu] using hab
    have HT:Z (Xy (Eu X Y) (j+1)=false):=by unfold Z;rw[Ji];simpa using hab
    clear hab
    go_wp2
    go_region_with (go_at_call 38;refine(Q14 (X j) (Y j) (X (j+1)) (Y (j+1)) _).mono ?_;rintro e w' ⟨rfl,hx⟩)
    all_goals go_wp2
    all_goals
     go_ret
     exact⟨Q3 (by unfold Tg;rw[Qx hlt HT.o]),HN.o.drew.trans hx⟩
  ·have hge:(n:Int)<=(j:Int)+1:=by omega
   go_wp2
   go_ret
   exact⟨Q3 (by unfold Tg;rw[Qt (by omega) hrel]),HN.o⟩
def leI (zs:List Int)(i:Nat):Bool:=decide (iat zs i<=iat zs (i+1))
def Qg6 (p:Nat->Bool)(k n:Nat):Prop:=∀i,k<=i->i<n->p i=true
theorem Q24 (B:Nat)(v:Value)(zs:List Int)(m:Nat)(w:World)(h0:Qi B w v zs)(hz0:zs.length=m+1) :
  Calls prog 39 #[v] w λe w'=>e=.returned (.bool (Qo m (leI zs)))/\Nx w w':=by
 obtain⟨a,cap,rfl,hn,hk⟩:=h0
 unfold maxLen at hn
 rw[hz0] at *
 clear hz0
 have hmm:((m+1:Nat):Int)-1=m:=by omega
 have hwm:=Va m (by omega)
 go_enter func39,ntmps39
 go_wp2
 go_loopw [3] (λi wr=>∃j:Nat,j<=m/\i=iV j/\Z (Qg6 (leI zs) j m)/\Z (Nx w wr)) (λi _=>(intOf i).toNat)
 case atStart=>exact⟨m,lR,by go_num,λi h1 h2=>absurd h2 (by omega),Nx.refl _⟩
 case round=>
  obtain⟨j,hj,rfl,hrel,HN⟩:=hrel
  cases j with
  |zero=>
   go_wp2
   go_ret
   exact⟨Q3 (Qt lR (λi hi=>hrel.o i nZ hi)).symm,HN.o⟩
  |succ j=>
   obtain⟨b,off,rfl,hB,hb,hc⟩:=hk (by omega)
   have c1:=Q2 HN.o hb (hc (j+1) (by omega))
   have c0:=Q2 HN.o hb (hc j (by omega))
   have hp:(0:Int)<((j+1:Nat):Int):=by omega
   have hl1:((j+1:Nat):Int)<((m+1:Nat):Int):=by omega
   have hl0:(j:Int)<((m+1:Nat):Int):=by omega
   have hs:((j+1:Nat):Int)-1=j:=by omega
   have hwj:=Va j (by omega)
   clear hc hk
   by_cases hab:iat zs (j+1)<iat zs j
   ·have hd:decide (iat zs (j+1)<iat zs j)=true:=by simp[hab]
    have HT:Z (leI zs j=false):=by unfold Z leI;simp;omega
    go_wp2
    go_region_with (go_at_call 69;refine(Q3w _ _ _).mono ?_;rintro e w' ⟨rfl,rfl⟩)
    all_goals go_wp2
    all_goals
     go_ret
     exact⟨Q3 (Qx (by omega) HT.o).symm,HN.o.drew⟩
   ·have hd:decide (iat zs (j+1)<iat zs j)=false:=by simp;omega
    have HT:Z (leI zs j=true):=by unfold Z leI;simp;omega
    clear hab
    go_wp2
    go_region_with (go_at_call 69;refine(Q3w _ _ _).mono ?_;rintro e w' ⟨rfl,rfl⟩)
    all_goals go_wp2
    all_goals
     go_roundw
     case rel=>exact⟨j,by omega,by go_num,λi h1 h2=>by
            by_cases e:i=j
            ·subst e;exact HT.o
            ·exact hrel.o i (by omega) h2,HN.o.drew⟩
     case measure=>simp[intOf]
structure Gr where
 eo:List Int
 so:List Int
 fi:List Int
 tt:List Int
 co:List Int
 sr:List Int
 we:List Int
structure HG (B:Nat)(w:World)(v0 v1 v2 v3 v4 v5 v6:Value)(G:Gr):Prop where
 h0:Qi B w v0 G.eo
 h1:Qi B w v1 G.so
 h2:Qi B w v2 G.fi
 h3:Qi B w v3 G.tt
 h4:Qi B w v4 G.co
 h5:Qi B w v5 G.sr
 h6:Qi B w v6 G.we
 c3:G6 v3
theorem HG.keep {w':World}{G:Gr}(h:HG B w v0 v1 v2 v3 v4 v5 v6 G)(k:Ym B w w'):HG B w' v0 v1 v2 v3 v4 v5 v6 G:=⟨h.h0.keep k,h.h1.keep k,h.h2.keep k,h.h3.keep k,h.h4.keep k,h.h5.keep k,h.h6.keep k,h.c3⟩
theorem HG.next {w':World}{G:Gr}(h:HG B w v0 v1 v2 v3 v4 v5 v6 G)(k:Nx w w'):HG B w' v0 v1 v2 v3 v4 v5 v6 G:=h.keep (k.keeps B)
theorem HG.base {B':Nat}{G:Gr}(h:HG B w v0 v1 v2 v3 v4 v5 v6 G)(k:B'<=B):HG B' w v0 v1 v2 v3 v4 v5 v6 G:=⟨h.h0.base k,h.h1.base k,h.h2.base k,h.h3.base k,h.h4.base k,h.h5.base k,h.h6.base k,h.c3⟩
structure Q2r (G:Gr):Prop where
 s0:G.eo.length<=1048576
 s1:G.so.length<=1048576
 s2:G.fi.length<=1048576
 s3:G.tt.length<=1048576
 s4:G.co.length<=1048576
 s5:G.sr.length<=1048576
 s6:G.we.length<=1048576
def Ag (G:Gr):Bool:=decide (G.sr.length<=4000)&&(G.we.length==G.sr.length)&&decide (G.eo.length<=6000)&&(G.so.length==G.eo.length)
def wOk (G:Gr)(i:Nat):Bool:=inB (iat G.we i)
def We (G:Gr)(i j:Nat):Bool:=decide (iat G.eo i<iat G.eo j)||(iat G.eo i==iat G.eo j&&decide (iat G.so i<iat G.so j))
def vOk (G:Gr)(i:Nat):Bool:=decide (0<=iat G.eo i)&&decide (iat G.eo i<(G.sr.length:Int))&&decide (0<=iat G.so i)&&decide (iat G.so i<2000)&&(i==0||We G (i-1) i)
def sOk (G:Gr)(i:Nat):Bool:=decide (0<=iat G.sr i)&&decide (iat G.sr i<(G.eo.length:Int))&&(iat G.eo (iat G.sr i).toNat==(i:Int))
def Ph (G:Gr):Bool:=(G.fi.length==G.eo.length+1)&&(iat G.fi 0==0)&&(iat G.fi G.eo.length==(G.tt.length:Int))
def fOk (G:Gr)(i:Nat):Bool:=decide (iat G.fi i<=iat G.fi (i+1))
def Kz (G:Gr):Bool:=(G.co.length==G.tt.length)&&decide (G.tt.length<=40000)
def tOk (G:Gr)(k:Nat):Bool:=decide (0<=iat G.tt k)&&decide (iat G.tt k<(G.eo.length:Int))&&decide (0<=iat G.co k)&&decide (iat G.co k<=3145728)
def Us (G:Gr)(k:Nat):Int:=iat G.eo (iat G.tt k).toNat
def oAt (G:Gr)(i k:Nat):Bool:=decide ((k:Int)<=iat G.fi i)||decide (Us G (k-1)<Us G k)
def oOk (G:Gr)(i:Nat):Bool:=Qo (iat G.fi (i+1)).toNat (oAt G i)
def Qq (G:Gr):Bool:=Ag G&&(Qo G.we.length (wOk G)&&(Qo G.eo.length (vOk G)&&(Qo G.sr.length (sOk G)&&(Ph G&&(Qo G.eo.length (fOk G)&&(Kz G&&(Qo G.tt.length (tOk G)&&Qo G.eo.length (oOk G))))))))
theorem Q6x {G:Gr}(h:Ag G=false):false=Qq G:=by simp[Qq,h]
theorem vg_w {G:Gr}(hn:G.we.length=n)(hk:k<n)(h:wOk G k=false):false=Qq G:=by subst hn;simp[Qq,Qx hk h]
theorem Q8d {G:Gr}(hn:G.eo.length=n)(hk:k<n)(h:vOk G k=false):false=Qq G:=by subst hn;simp[Qq,Qx hk h]
theorem Qfi {G:Gr}(hn:G.sr.length=n)(hk:k<n)(h:sOk G k=false):false=Qq G:=by subst hn;simp[Qq,Qx hk h]
theorem Qa0 {G:Gr}(h:Ph G=false):false=Qq G:=by simp[Qq,h]
theorem vg_f {G:Gr}(hn:G.eo.length=n)(hk:k<n)(h:fOk G k=false):false=Qq G:=by subst hn;simp[Qq,Qx hk h]
theorem Qf5 {G:Gr}(h:Kz G=false):false=Qq G:=by simp[Qq,h]
theorem Qcy {G:Gr}(hn:G.tt.length=n)(hk:k<n)(h:tOk G k=false):false=Qq G:=by subst hn;simp[Qq,Qx hk h]
theorem vg_o {G:Gr}(hn:G.eo.length=n)(hk:k<n)(h:oOk G k=false):false=Qq G:=by subst hn;simp[Qq,Qx hk h]
theorem Qfh {G:Gr}(h1:Ag G=true)(h2:Qo G.we.length (wOk G)=true)(h3:Qo G.eo.length (vOk G)=true)(h4:Qo G.sr.length (sOk G)=true)(h5:Ph G=true)(h6:Qo G.eo.length (fOk G)=true)(h7:Kz G=true)(h8:Qo G.tt.length (tOk G)=true)(h9:Qo G.eo.length (oOk G)=true):true=Qq G:=by
 simp[Qq,h1,h2,h3,h4,h5,h6,h7,h8,h9]
theorem Q7x {G:Gr}(h:Qo n (fOk G)=true){i d:Nat}(hi:i+d<=n):iat G.fi i<=iat G.fi (i+d):=by
 induction d with
 |zero=>exact Int.le_refl _
 |succ d ih=>
  have h1:=ih (by omega)
  have h2:=Jf h (i:=i+d) (by omega)
  simp only[fOk,decide_eq_true_eq] at h2
  rw[<-Nat.add_assoc]
  omega
theorem Qby {G:Gr}{m:Nat}(hn:G.eo.length=n)(hm:G.tt.length=m)(h5:Ph G=true)(h6:Qo n (fOk G)=true){i:Nat}(hi:i<=n):0<=iat G.fi i/\iat G.fi i<=m:=by
 subst hn hm
 simp only[Ph,zG,beq_iff_eq] at h5
 have a:=Q7x h6 (i:=0) (d:=i) (by omega)
 have b:=Q7x h6 (i:=i) (d:=G.eo.length-i) (by omega)
 rw[Nat.zero_add] at a
 rw[show i+(G.eo.length-i)=G.eo.length by omega] at b
 omega
theorem Qa4 {G:Gr}{m:Nat}(hn:G.eo.length=n)(h8:Qo m (tOk G)=true)(hk:k<m):0<=iat G.tt k/\iat G.tt k<n:=by
 subst hn
 have:=Jf h8 hk
 simp only[tOk,zG,decide_eq_true_eq] at this
 omega
theorem Yo (B:Nat)(v0 v1 v2 v3 v4 v5 v6:Value)(G:Gr)(w:World)(h0:HG B w v0 v1 v2 v3 v4 v5 v6 G) :
  Calls prog 5 #[.agg #[v0,v1,v2,v3,v4,v5,v6]] w λe w'=>e=.returned (.bool (Qq G))/\Nx w w':=by
 obtain⟨⟨a0,c0,rfl,hn0,hk0⟩,⟨a1,c1,rfl,hn1,hk1⟩,⟨a2,c2,rfl,hn2,hk2⟩,⟨a3,c3,rfl,hn3,hk3⟩,⟨a4,c4,rfl,hn4,hk4⟩,⟨a5,c5,rfl,hn5,hk5⟩,⟨a6,c6,rfl,hn6,hk6⟩⟩:=h0
 unfold maxLen at hn0 hn1 hn2 hn3 hn4 hn5 hn6
 generalize hz0:G.eo.length=n0 at *
 have Z0:=mh hz0
 clear hz0
 generalize hz1:G.so.length=n1 at *
 have Z1:=mh hz1
 clear hz1
 generalize hz2:G.fi.length=n2 at *
 have Z2:=mh hz2
 clear hz2
 generalize hz3:G.tt.length=n3 at *
 have Z3:=mh hz3
 clear hz3
 generalize hz4:G.co.length=n4 at *
 have Z4:=mh hz4
 clear hz4
 generalize hz5:G.sr.length=n5 at *
 have Z5:=mh hz5
 clear hz5
 generalize hz6:G.we.length=n6 at *
 have Z6:=mh hz6
 clear hz6
 by_cases e1:n5<=4000
 case neg=>
  have d1:decide (4000<(n5:Int))=true:=by simp;omega
  have HF:Z (false=Qq G):=Q6x (by simp[Ag,Z5.o,Z6.o,Z0.o,Z1.o,e1])
  go_enter func5,ntmps5
  go_wp2
  go_ret
  exact⟨Q3 HF.o,Qe _ _⟩
 have d1:decide (4000<(n5:Int))=false:=by simp;omega
 by_cases e2:n5=n6
 case neg=>
  have d2:((n6:Int) !=(n5:Int))=true:=by simp;omega
  have HF:Z (false=Qq G):=Q6x (by simp[Ag,Z5.o,Z6.o,Z0.o,Z1.o,Ne.symm e2])
  go_enter func5,ntmps5
  go_wp2
  go_ret
  exact⟨Q3 HF.o,Qe _ _⟩
 subst e2
 have d2:((n5:Int) !=(n5:Int))=false:=by simp
 by_cases e3:n0<=6000
 case neg=>
  have d3:decide (6000<(n0:Int))=true:=by simp;omega
  have HF:Z (false=Qq G):=Q6x (by simp[Ag,Z5.o,Z6.o,Z0.o,Z1.o,e3])
  go_enter func5,ntmps5
  go_wp2
  go_ret
  exact⟨Q3 HF.o,Qe _ _⟩
 have d3:decide (6000<(n0:Int))=false:=by simp;omega
 by_cases e4:n0=n1
 case neg=>
  have d4:((n1:Int) !=(n0:Int))=true:=by simp;omega
  have HF:Z (false=Qq G):=Q6x (by simp[Ag,Z5.o,Z6.o,Z0.o,Z1.o,Ne.symm e4])
  go_enter func5,ntmps5
  go_wp2
  go_ret
  exact⟨Q3 HF.o,Qe _ _⟩
 subst e4
 have d4:((n0:Int) !=(n0:Int))=false:=by simp
 have H1:Z (Ag G=true):=by unfold Z;simp[Ag,Z5.o,Z6.o,Z0.o,Z1.o,e1,e3]
 go_enter func5,ntmps5
 go_wp2
 clear d1 d2 d3 d4
 go_loopw [5] (λi wr=>∃k:Nat,k<=n5/\i=iV k/\Z (Jz (wOk G) k)/\Z (Nx (w.alloc (.cells #[sL a0 n0 c0,sL a1 n0 c1,sL a2 n2 c2,sL a3 n3 c3,sL a4 n4 c4,sL a5 n5 c5,sL a6 n5 c6] 25)) wr)) (λi _=>n5-(intOf i).toNat)
 case atStart=>exact⟨0,nZ,rfl,Qy _,Nx.refl _⟩
 obtain⟨k,hkn,rfl,HA,HN⟩:=hrel
 have BA:=(Blk.new w #[sL a0 n0 c0,sL a1 n0 c1,sL a2 n2 c2,sL a3 n3 c3,sL a4 n4 c4,sL a5 n5 c5,sL a6 n5 c6] 25 _ rfl).next HN.o
 have HW:=mh ((Qe _ _).trans HN.o)
 have k6:=BA.c 6 rfl
 by_cases hlt:k<n5
 ·obtain⟨b,off,rfl,_,hb,hc⟩:=hk6 (by omega)
  have hlt':(k:Int)<n5:=by omega
  have x0:=Q2 HW.o hb (hc k hlt)
  clear BA hc hk0 hk1 hk2 hk3 hk4 hk5 hk6
  by_cases hin:inB (iat G.we k)=true
  ·have HF:Z (wOk G k=true):=hin
   go_wp2_with (go_at_call 14;refine(J8 _ _).mono ?_;rintro e w' ⟨rfl,rfl⟩)
   go_roundw
   case rel=>exact⟨k+1,by omega,by go_num,Qm HA.o HF.o,HN⟩
   case measure=>simp[intOf];omega
  ·have hin':inB (iat G.we k)=false:=by simpa using hin
   have HF:=mh (vg_w Z6.o hlt hin')
   clear hin
   go_wp2_with (go_at_call 14;refine(J8 _ _).mono ?_;rintro e w' ⟨rfl,rfl⟩)
   go_ret
   exact⟨Q3 HF.o,HW.o⟩
 have H2:Z (Qo G.we.length (wOk G)=true):=Qt (by rw[Z6.o];omega) HA.o
 have ek:n5=k:=by omega
 subst ek
 clear HA hlt hkn BA hk6
 go_wp2
 clear k6
 go_loopw [6] (λi wr=>∃k:Nat,k<=n0/\i=iV k/\Z (Jz (vOk G) k)/\Z (Nx (w.alloc (.cells #[sL a0 n0 c0,sL a1 n0 c1,sL a2 n2 c2,sL a3 n3 c3,sL a4 n4 c4,sL a5 n5 c5,sL a6 n5 c6] 25)) wr)) (λi _=>n0-(intOf i).toNat)
 case atStart=>exact⟨0,nZ,rfl,Qy _,HN⟩
 clear HN HW
 obtain⟨k,hkn,rfl,HA,HN⟩:=hrel
 have BA:=(Blk.new w #[sL a0 n0 c0,sL a1 n0 c1,sL a2 n2 c2,sL a3 n3 c3,sL a4 n4 c4,sL a5 n5 c5,sL a6 n5 c6] 25 _ rfl).next HN.o
 have HW:=mh ((Qe _ _).trans HN.o)
 have k0:=BA.c 0 rfl
 have k1:=BA.c 1 rfl
 by_cases hlt:k<n0
 ·obtain⟨b,off,rfl,_,hb,hc⟩:=hk0 (by omega)
  obtain⟨b',off',rfl,_,hb',hc'⟩:=hk1 (by omega)
  have hlt':(k:Int)<n0:=by omega
  have x0:=Q2 HW.o hb (hc k hlt)
  have y0:=Q2 HW.o hb' (hc' k (by omega))
  have HVD:Z (vOk G k=(decide (0<=iat G.eo k)&&decide (iat G.eo k<(n5:Int))&&decide (0<=iat G.so k)&&decide (iat G.so k<2000)&&(k==0||We G (k-1) k))):=by unfold Z;rw[<-Z5.o];rfl
  clear BA hk0 hk1 hk2 hk3 hk4 hk5
  by_cases g1:iat G.eo k<0
  ·have f1:decide (iat G.eo k<0)=true:=by simpa using g1
   have HF:=mh (Q8d Z0.o hlt (by rw[HVD.o];simp;omega))
   clear hc hc' g1
   go_wp2
   go_ret
   exact⟨Q3 HF.o,HW.o⟩
  have f1:decide (iat G.eo k<0)=false:=by simpa using g1
  by_cases g2:(n5:Int)<=iat G.eo k
  ·have f2:decide ((n5:Int)<=iat G.eo k)=true:=by simpa using g2
   have HF:=mh (Q8d Z0.o hlt (by rw[HVD.o];simp;omega))
   clear hc hc' g1 g2
   go_wp2
   go_ret
   exact⟨Q3 HF.o,HW.o⟩
  have f2:decide ((n5:Int)<=iat G.eo k)=false:=by simpa using g2
  by_cases g3:iat G.so k<0
  ·have f3:decide (iat G.so k<0)=true:=by simpa using g3
   have HF:=mh (Q8d Z0.o hlt (by rw[HVD.o];simp;omega))
   clear hc hc' g1 g2 g3
   go_wp2
   go_ret
   exact⟨Q3 HF.o,HW.o⟩
  have f3:decide (iat G.so k<0)=false:=by simpa using g3
  by_cases g4:2000<=iat G.so k
  ·have f4:decide (2000<=iat G.so k)=true:=by simpa using g4
   have HF:=mh (Q8d Z0.o hlt (by rw[HVD.o];simp;omega))
   clear hc hc' g1 g2 g3 g4
   go_wp2
   go_ret
   exact⟨Q3 HF.o,HW.o⟩
  have f4:decide (2000<=iat G.so k)=false:=by simpa using g4
  have HV2:Z (vOk G k=(k==0||We G (k-1) k)):=by
   unfold Z
   rw[HVD.o]
   have q1:decide (0<=iat G.eo k)=true:=by simp;omega
   have q2:decide (iat G.eo k<(n5:Int))=true:=by simp;omega
   have q3:decide (0<=iat G.so k)=true:=by simp;omega
   have q4:decide (iat G.so k<2000)=true:=by simp;omega
   rw[q1,q2,q3,q4]
   simp
  clear g1 g2 g3 g4 HVD
  by_cases hk:k=0
  ·have HF:Z (vOk G k=true):=by unfold Z;rw[HV2.o];simp[hk]
   have hkq:decide (0<(k:Int))=false:=by simp;omega
   have hkp:decide (0<k)=false:=by simp;omega
   clear hc hc' hk
   go_wp2
   go_quiet (fail)
   go_wp2
   go_roundw
   case rel=>exact⟨k+1,by omega,by go_num,Qm HA.o HF.o,HN.o.trans ⟨rfl,rfl,rfl,lR,λ_ _=>rfl⟩⟩
   case measure=>simp[intOf];omega
  obtain⟨j,rfl⟩:∃j,k=j+1:=⟨k-1,by omega⟩
  have hjp:decide (0<(j:Int)+1)=true:=by rw[decide_eq_true_iff];omega
  have hwj:=Va j (by omega)
  have hjl:(j:Int)<n0:=by omega
  have x1:=Q2 HW.o hb (hc j (by omega))
  have y1:=Q2 HW.o hb' (hc' j (by omega))
  have HV3:Z (vOk G (j+1)=We G j (j+1)):=by unfold Z;rw[HV2.o];simp
  clear hc hc' hk HV2
  by_cases g5:iat G.eo (j+1)<iat G.eo j
  ·have f5:decide (iat G.eo (j+1)<iat G.eo j)=true:=by simpa using g5
   have HF:=mh (Q8d Z0.o hlt (by rw[HV3.o];unfold We;simp;omega))
   clear g5
   go_wp2
   go_quiet (fail)
   go_wp2
   go_ret
   exact⟨Q3 HF.o,HW.o.trans ⟨rfl,rfl,rfl,lR,λ_ _=>rfl⟩⟩
  have f5:decide (iat G.eo (j+1)<iat G.eo j)=false:=by simpa using g5
  by_cases g6:iat G.eo (j+1)=iat G.eo j
  ·have f6:(iat G.eo (j+1)==iat G.eo j)=true:=by simpa using g6
   by_cases g7:iat G.so (j+1)<=iat G.so j
   ·have f7:decide (iat G.so (j+1)<=iat G.so j)=true:=by simpa using g7
    have HF:=mh (Q8d Z0.o hlt (by rw[HV3.o];unfold We;simp;omega))
    clear g5 g6 g7
    go_wp2
    go_quiet (fail)
    go_wp2
    go_ret
    exact⟨Q3 HF.o,HW.o.trans ⟨rfl,rfl,rfl,lR,λ_ _=>rfl⟩⟩
   ·have f7:decide (iat G.so (j+1)<=iat G.so j)=false:=by simpa using g7
    have HF:Z (vOk G (j+1)=true):=by unfold Z;rw[HV3.o];unfold We;simp;omega
    clear g5 g6 g7
    go_wp2
    go_quiet (fail)
    go_wp2
    go_roundw
    case rel=>exact⟨j+1+1,by omega,by go_num,Qm HA.o HF.o,HN.o.trans ⟨rfl,rfl,rfl,lR,λ_ _=>rfl⟩⟩
    case measure=>simp[intOf];omega
  ·have f6:(iat G.eo (j+1)==iat G.eo j)=false:=by simpa using g6
   have HF:Z (vOk G (j+1)=true):=by unfold Z;rw[HV3.o];unfold We;simp;omega
   clear g5 g6
   go_wp2
   go_quiet (fail)
   go_wp2
   go_roundw
   case rel=>exact⟨j+1+1,by omega,by go_num,Qm HA.o HF.o,HN.o.trans ⟨rfl,rfl,rfl,lR,λ_ _=>rfl⟩⟩
   case measure=>simp[intOf];omega
 have H3:Z (Qo G.eo.length (vOk G)=true):=Qt (by rw[Z0.o];omega) HA.o
 have ek:n0=k:=by omega
 subst ek
 clear HA hlt hkn BA hk1 k1
 go_wp2
 clear k0
 go_loopw [7] (λi wr=>∃k:Nat,k<=n5/\i=iV k/\Z (Jz (sOk G) k)/\Z (Nx (w.alloc (.cells #[sL a0 n0 c0,sL a1 n0 c1,sL a2 n2 c2,sL a3 n3 c3,sL a4 n4 c4,sL a5 n5 c5,sL a6 n5 c6] 25)) wr)) (λi _=>n5-(intOf i).toNat)
 case atStart=>exact⟨0,nZ,rfl,Qy _,HN⟩
 clear HN HW
 obtain⟨k,hkn,rfl,HA,HN⟩:=hrel
 have BA:=(Blk.new w #[sL a0 n0 c0,sL a1 n0 c1,sL a2 n2 c2,sL a3 n3 c3,sL a4 n4 c4,sL a5 n5 c5,sL a6 n5 c6] 25 _ rfl).next HN.o
 have HW:=mh ((Qe _ _).trans HN.o)
 have k0:=BA.c 0 rfl
 have k5:=BA.c 5 rfl
 by_cases hlt:k<n5
 ·obtain⟨b',off',rfl,_,hb',hc'⟩:=hk5 (by omega)
  have hlt':(k:Int)<n5:=by omega
  have y0:=Q2 HW.o hb' (hc' k hlt)
  have HSD:Z (sOk G k=(decide (0<=iat G.sr k)&&decide (iat G.sr k<(n0:Int))&&(iat G.eo (iat G.sr k).toNat==(k:Int)))):=by unfold Z;rw[<-Z0.o];rfl
  clear BA hc' hk2 hk3 hk4 hk5
  by_cases g1:iat G.sr k<0
  ·have f1:decide (iat G.sr k<0)=true:=by simpa using g1
   have HF:=mh (Qfi Z5.o hlt (by rw[HSD.o];simp;omega))
   clear g1 hk0
   go_wp2
   go_quiet (fail)
   go_wp2
   go_ret
   exact⟨Q3 HF.o,HW.o.trans ⟨rfl,rfl,rfl,lR,λ_ _=>rfl⟩⟩
  have f1:decide (iat G.sr k<0)=false:=by simpa using g1
  by_cases g2:(n0:Int)<=iat G.sr k
  ·have f2:decide ((n0:Int)<=iat G.sr k)=true:=by simpa using g2
   have HF:=mh (Qfi Z5.o hlt (by rw[HSD.o];simp;omega))
   clear g1 g2 hk0
   go_wp2
   go_quiet (fail)
   go_wp2
   go_ret
   exact⟨Q3 HF.o,HW.o.trans ⟨rfl,rfl,rfl,lR,λ_ _=>rfl⟩⟩
  obtain⟨t,ht⟩:∃t:Nat,iat G.sr k=(t:Int):=⟨(iat G.sr k).toNat,by omega⟩
  have HS2:Z (sOk G k=(iat G.eo t==(k:Int))):=by
   unfold Z
   rw[HSD.o,ht]
   have q1:decide (0<=(t:Int))=true:=by simp
   have q2:decide ((t:Int)<(n0:Int))=true:=by simp;omega
   rw[q1,q2]
   simp
  rw[ht] at y0 f1 g2
  have htn:t<n0:=by omega
  have htn':(t:Int)<n0:=by omega
  have f2:decide ((n0:Int)<=(t:Int))=false:=by simp;omega
  obtain⟨b,off,rfl,_,hb,hc⟩:=hk0 (by omega)
  have x0:=Q2 HW.o hb (hc t htn)
  clear hc g1 g2 ht HSD
  by_cases g3:iat G.eo t=(k:Int)
  ·have f3:(iat G.eo t !=(k:Int))=false:=by simpa using g3
   have HF:Z (sOk G k=true):=by unfold Z;rw[HS2.o];simpa using g3
   clear g3
   go_wp2
   go_quiet (fail)
   go_wp2
   go_roundw
   case rel=>exact⟨k+1,by omega,by go_num,Qm HA.o HF.o,HN.o.trans ⟨rfl,rfl,rfl,lR,λ_ _=>rfl⟩⟩
   case measure=>simp[intOf];omega
  ·have f3:(iat G.eo t !=(k:Int))=true:=by simpa using g3
   have HF:=mh (Qfi Z5.o hlt (by rw[HS2.o];simpa using g3))
   clear g3
   go_wp2
   go_quiet (fail)
   go_wp2
   go_ret
   exact⟨Q3 HF.o,HW.o.trans ⟨rfl,rfl,rfl,lR,λ_ _=>rfl⟩⟩
 have H4:Z (Qo G.sr.length (sOk G)=true):=Qt (by rw[Z5.o];omega) HA.o
 have ek:n5=k:=by omega
 subst ek
 clear HA hlt hkn hk5 k0
 have k2:=BA.c 2 rfl
 have k3:=BA.c 3 rfl
 clear BA
 have HCD:Z (Ph G=((n2==n0+1)&&(iat G.fi 0==0)&&(iat G.fi n0==(n3:Int)))):=by unfold Z;rw[<-Z0.o,<-Z2.o,<-Z3.o];rfl
 have hw0:=Va (n0+1) (by omega)
 by_cases g1:n2=n0+1
 case neg=>
  have f1:((n2:Int) !=(n0:Int)+1)=true:=by simp;omega
  have HF:=mh (Qa0 (by rw[HCD.o];simp;omega))
  clear g1 hk0 hk2 hk3 hk4
  go_wp2
  go_quiet (fail)
  go_wp2
  go_ret
  exact⟨Q3 HF.o,HW.o.trans ⟨rfl,rfl,rfl,lR,λ_ _=>rfl⟩⟩
 have f1:((n2:Int) !=(n0:Int)+1)=false:=by simp;omega
 have E2:=mh g1
 obtain⟨b2,o2,ha2,_,hb2,hc2⟩:=hk2 (by omega)
 subst ha2
 have x0:=Q2 HW.o hb2 (hc2 0 (by omega))
 have x1:=Q2 HW.o hb2 (hc2 n0 (by omega))
 have hp1:(0:Int)<n2:=by omega
 have hp2:(n0:Int)<n2:=by omega
 rw[Nat.add_zero] at x0
 by_cases g2:iat G.fi 0=0
 case neg=>
  have f2:(iat G.fi 0 !=0)=true:=by simpa using g2
  have HF:=mh (Qa0 (by rw[HCD.o];simp;omega))
  clear g1 g2 hk0 hk3 hk4 hc2
  go_wp2
  go_quiet (fail)
  go_wp2
  go_ret
  exact⟨Q3 HF.o,HW.o.trans ⟨rfl,rfl,rfl,lR,λ_ _=>rfl⟩⟩
 have f2:(iat G.fi 0 !=0)=false:=by simpa using g2
 by_cases g3:iat G.fi n0=(n3:Int)
 case neg=>
  have f3:(iat G.fi n0 !=(n3:Int))=true:=by simpa using g3
  have HF:=mh (Qa0 (by rw[HCD.o];simp;omega))
  clear g1 g2 g3 hk0 hk3 hk4 hc2
  go_wp2
  go_quiet (fail)
  go_wp2
  go_ret
  exact⟨Q3 HF.o,HW.o.trans ⟨rfl,rfl,rfl,lR,λ_ _=>rfl⟩⟩
 have f3:(iat G.fi n0 !=(n3:Int))=false:=by simpa using g3
 have H5:Z (Ph G=true):=by unfold Z;rw[HCD.o];simp[g1,g2,g3]
 have HC2:=mh hc2
 clear g1 g2 g3 HCD hc2
 go_wp2
 go_quiet (fail)
 go_wp2
 clear f1 f2 f3 x0 x1 k2 k3 k5 hw0
 go_loopw [8] (λi wr=>∃k:Nat,k<=n0/\i=iV k/\Z (Jz (fOk G) k)/\Z (Nx (w.alloc (.cells #[sL a0 n0 c0,sL a1 n0 c1,sL (some (aD b2 o2)) n2 c2,sL a3 n3 c3,sL a4 n4 c4,sL a5 n5 c5,sL a6 n5 c6] 25)) wr)) (λi _=>n0-(intOf i).toNat)
 case atStart=>exact⟨0,nZ,rfl,Qy _,HN.o.trans ⟨rfl,rfl,rfl,lR,λ_ _=>rfl⟩⟩
 clear HN HW
 obtain⟨k,hkn,rfl,HA,HN⟩:=hrel
 have BA:=(Blk.new w #[sL a0 n0 c0,sL a1 n0 c1,sL (some (aD b2 o2)) n2 c2,sL a3 n3 c3,sL a4 n4 c4,sL a5 n5 c5,sL a6 n5 c6] 25 _ rfl).next HN.o
 have HW:=mh ((Qe _ _).trans HN.o)
 have k2:=BA.c 2 rfl
 clear BA
 by_cases hlt:k<n0
 ·have hlt':(k:Int)<n0:=by omega
  have hl2:(k:Int)<n2:=by have:=E2.o;omega
  have hl3:(k:Int)+1<n2:=by have:=E2.o;omega
  have hw1:=Va (k+1) (by omega)
  have x0:=Q2 HW.o hb2 (HC2.o k (by have:=E2.o;omega))
  have x1:=Q2 HW.o hb2 (HC2.o (k+1) (by have:=E2.o;omega))
  clear hk0 hk3 hk4
  by_cases g1:iat G.fi (k+1)<iat G.fi k
  ·have f1:decide (iat G.fi (k+1)<iat G.fi k)=true:=by simpa using g1
   have HF:=mh (vg_f Z0.o hlt (by unfold fOk;simp;omega))
   clear g1
   go_wp2
   go_quiet (fail)
   go_wp2
   go_ret
   exact⟨Q3 HF.o,HW.o.trans ⟨rfl,rfl,rfl,lR,λ_ _=>rfl⟩⟩
  ·have f1:decide (iat G.fi (k+1)<iat G.fi k)=false:=by simpa using g1
   have HF:Z (fOk G k=true):=by unfold Z fOk;simp;omega
   clear g1
   go_wp2
   go_quiet (fail)
   go_wp2
   go_roundw
   case rel=>exact⟨k+1,by omega,by go_num,Qm HA.o HF.o,HN.o.trans ⟨rfl,rfl,rfl,lR,λ_ _=>rfl⟩⟩
   case measure=>simp[intOf];omega
 have H6:Z (Qo n0 (fOk G)=true):=Qt (by omega) HA.o
 have BA:=(Blk.new w #[sL a0 n0 c0,sL a1 n0 c1,sL (some (aD b2 o2)) n2 c2,sL a3 n3 c3,sL a4 n4 c4,sL a5 n5 c5,sL a6 n5 c6] 25 _ rfl).next HN.o
 have ek:n0=k:=by omega
 subst ek
 clear HA hlt hkn k2
 have k3:=BA.c 3 rfl
 have k4:=BA.c 4 rfl
 clear BA
 have HCD:Z (Kz G=((n4==n3)&&decide (n3<=40000))):=by unfold Z;rw[<-Z4.o,<-Z3.o];rfl
 by_cases g1:n3=n4
 case neg=>
  have f1:((n4:Int) !=(n3:Int))=true:=by simp;omega
  have HF:=mh (Qf5 (by rw[HCD.o];simp;omega))
  clear g1 hk0 hk3 hk4
  go_wp2
  go_ret
  exact⟨Q3 HF.o,HW.o⟩
 subst g1
 have f1:((n3:Int) !=(n3:Int))=false:=by simp
 by_cases g2:n3<=40000
 case neg=>
  have f2:decide (40000<(n3:Int))=true:=by simp;omega
  have HF:=mh (Qf5 (by rw[HCD.o];simp;omega))
  clear g2 hk0 hk3 hk4
  go_wp2
  go_ret
  exact⟨Q3 HF.o,HW.o⟩
 have f2:decide (40000<(n3:Int))=false:=by simp;omega
 have H7:Z (Kz G=true):=by unfold Z;rw[HCD.o];simp[g2]
 clear HCD
 go_wp2
 clear f1 f2 k3 k4
 go_loopw [9] (λi wr=>∃k:Nat,k<=n3/\i=iV k/\Z (Jz (tOk G) k)/\Z (Nx (w.alloc (.cells #[sL a0 n0 c0,sL a1 n0 c1,sL (some (aD b2 o2)) n2 c2,sL a3 n3 c3,sL a4 n3 c4,sL a5 n5 c5,sL a6 n5 c6] 25)) wr)) (λi _=>n3-(intOf i).toNat)
 case atStart=>exact⟨0,nZ,rfl,Qy _,HN⟩
 clear HN HW
 obtain⟨k,hkn,rfl,HA,HN⟩:=hrel
 have BA:=(Blk.new w #[sL a0 n0 c0,sL a1 n0 c1,sL (some (aD b2 o2)) n2 c2,sL a3 n3 c3,sL a4 n3 c4,sL a5 n5 c5,sL a6 n5 c6] 25 _ rfl).next HN.o
 have HW:=mh ((Qe _ _).trans HN.o)
 have k3:=BA.c 3 rfl
 have k4:=BA.c 4 rfl
 by_cases hlt:k<n3
 ·obtain⟨b,off,rfl,_,hb,hc⟩:=hk3 (by omega)
  obtain⟨b',off',rfl,_,hb',hc'⟩:=hk4 (by omega)
  have hlt':(k:Int)<n3:=by omega
  have x0:=Q2 HW.o hb (hc k hlt)
  have y0:=Q2 HW.o hb' (hc' k (by omega))
  have HVD:Z (tOk G k=(decide (0<=iat G.tt k)&&decide (iat G.tt k<(n0:Int))&&decide (0<=iat G.co k)&&decide (iat G.co k<=3145728))):=by unfold Z;rw[<-Z0.o];rfl
  clear BA hc hc' hk0 hk3 hk4
  by_cases g1:iat G.tt k<0
  ·have f1:decide (iat G.tt k<0)=true:=by simpa using g1
   have HF:=mh (Qcy Z3.o hlt (by rw[HVD.o];simp;omega))
   clear g1
   go_wp2
   go_ret
   exact⟨Q3 HF.o,HW.o⟩
  have f1:decide (iat G.tt k<0)=false:=by simpa using g1
  by_cases g2:(n0:Int)<=iat G.tt k
  ·have f2:decide ((n0:Int)<=iat G.tt k)=true:=by simpa using g2
   have HF:=mh (Qcy Z3.o hlt (by rw[HVD.o];simp;omega))
   clear g1 g2
   go_wp2
   go_ret
   exact⟨Q3 HF.o,HW.o⟩
  have f2:decide ((n0:Int)<=iat G.tt k)=false:=by simpa using g2
  by_cases g3:iat G.co k<0
  ·have f3:decide (iat G.co k<0)=true:=by simpa using g3
   have HF:=mh (Qcy Z3.o hlt (by rw[HVD.o];simp;omega))
   clear g1 g2 g3
   go_wp2
   go_ret
   exact⟨Q3 HF.o,HW.o⟩
  have f3:decide (iat G.co k<0)=false:=by simpa using g3
  by_cases g4:3145728<iat G.co k
  ·have f4:decide (3145728<iat G.co k)=true:=by simpa using g4
   have HF:=mh (Qcy Z3.o hlt (by rw[HVD.o];simp;omega))
   clear g1 g2 g3 g4
   go_wp2
   go_ret
   exact⟨Q3 HF.o,HW.o⟩
  have f4:decide (3145728<iat G.co k)=false:=by simpa using g4
  have HF:Z (tOk G k=true):=by unfold Z;rw[HVD.o];simp;omega
  clear g1 g2 g3 g4 HVD
  go_wp2
  go_roundw
  case rel=>exact⟨k+1,by omega,by go_num,Qm HA.o HF.o,HN⟩
  case measure=>simp[intOf];omega
 have H8:Z (Qo n3 (tOk G)=true):=Qt (by omega) HA.o
 have ek:n3=k:=by omega
 subst ek
 clear HA hlt hkn BA hk4 k4
 go_wp2
 clear k3
 have HFB:Z (∀i,i<=n0->0<=iat G.fi i/\iat G.fi i<=n3):=λi hi=>Qby Z0.o Z3.o H5.o H6.o hi
 have HTB:Z (∀k,k<n3->0<=iat G.tt k/\iat G.tt k<n0):=λk hk=>Qa4 Z0.o H8.o hk
 go_loopw [10,11] (λi q wr=>∃k:Nat,k<=n0/\i=iV k/\Z (Jz (oOk G) k)/\Z (Nx (w.alloc (.cells #[sL a0 n0 c0,sL a1 n0 c1,sL (some (aD b2 o2)) n2 c2,sL a3 n3 c3,sL a4 n3 c4,sL a5 n5 c5,sL a6 n5 c6] 25)) wr)) (λi _ _=>n0-(intOf i).toNat)
 case atStart=>exact⟨0,nZ,rfl,Qy _,HN⟩
 clear HN HW
 obtain⟨k,hkn,rfl,HA,HN⟩:=hrel
 have HW:=mh ((Qe _ _).trans HN.o)
 by_cases hlt:k<n0
 ·have hlt':(k:Int)<n0:=by omega
  obtain⟨p,hp⟩:∃p:Nat,iat G.fi k=(p:Int):=⟨(iat G.fi k).toNat,by have:=(HFB.o k (by omega)).1;omega⟩
  obtain⟨r,hr⟩:∃r:Nat,iat G.fi (k+1)=(r:Int):=⟨(iat G.fi (k+1)).toNat,by have:=(HFB.o (k+1) (by omega)).1;omega⟩
  have hp3:p<=n3:=by have:=(HFB.o k (by omega)).2;omega
  have hr3:r<=n3:=by have:=(HFB.o (k+1) (by omega)).2;omega
  have hl2:(k:Int)<n2:=by have:=E2.o;omega
  have hl3:(k:Int)+1<n2:=by have:=E2.o;omega
  have hw1:=Va (k+1) (by omega)
  have hw2:=Va (p+1) (by omega)
  have x0:=Q2 HW.o hb2 (HC2.o k (by have:=E2.o;omega))
  have k2:=((Blk.new w #[sL a0 n0 c0,sL a1 n0 c1,sL (some (aD b2 o2)) n2 c2,sL a3 n3 c3,sL a4 n3 c4,sL a5 n5 c5,sL a6 n5 c6] 25 _ rfl).next HN.o).c 2 rfl
  rw[hp] at x0
  have HOD:Z (oOk G k=Qo r (oAt G k)):=by unfold Z oOk;rw[hr];rfl
  have HAD:Z (∀q:Nat,q<=p->oAt G k q=true):=λq hq=>by unfold oAt;rw[hp];simp;omega
  have HAE:Z (∀q:Nat,p<q->oAt G k q=decide (Us G (q-1)<Us G q)):=λq hq=>by
   unfold oAt
   have:decide ((q:Int)<=iat G.fi k)=false:=by rw[hp];simp;omega
   rw[this]
   simp
  have x1':w.cell? (aD b2 (o2+(k+1)))=some (iV (r:Int)):=by rw[<-hr];exact HC2.o (k+1) (by have:=E2.o;omega)
  go_wp2
  clear x0 k2
  go_loopw [11] (λi wr=>∃q:Nat,(q<=r\/q=p+1)/\p<q/\i=iV q/\Z (Jz (oAt G k) q)/\Z (Nx (w.alloc (.cells #[sL a0 n0 c0,sL a1 n0 c1,sL (some (aD b2 o2)) n2 c2,sL a3 n3 c3,sL a4 n3 c4,sL a5 n5 c5,sL a6 n5 c6] 25)) wr)) (λi _=>r-(intOf i).toNat)
  case atStart=>exact⟨p+1,oR rfl,Nat.lt_succ_self _,by go_num,λi hi=>HAD.o i (by omega),HN⟩
  clear HN HW
  obtain⟨q,hq1,hq2,rfl,HB,HN⟩:=hrel
  have BA:=(Blk.new w #[sL a0 n0 c0,sL a1 n0 c1,sL (some (aD b2 o2)) n2 c2,sL a3 n3 c3,sL a4 n3 c4,sL a5 n5 c5,sL a6 n5 c6] 25 _ rfl).next HN.o
  have HW:=mh ((Qe _ _).trans HN.o)
  have k2:=BA.c 2 rfl
  have x1:=Q2 HW.o hb2 x1'
  by_cases hqr:q<r
  ·have hqr':(q:Int)<r:=by omega
   obtain⟨u,rfl⟩:∃u,q=u+1:=⟨q-1,by omega⟩
   obtain⟨s,hs⟩:∃s:Nat,iat G.tt (u+1)=(s:Int):=⟨(iat G.tt (u+1)).toNat,by have:=(HTB.o (u+1) (by omega)).1;omega⟩
   obtain⟨t,ht⟩:∃t:Nat,iat G.tt u=(t:Int):=⟨(iat G.tt u).toNat,by have:=(HTB.o u (by omega)).1;omega⟩
   have hs0:s<n0:=by have:=(HTB.o (u+1) (by omega)).2;omega
   have ht0:t<n0:=by have:=(HTB.o u (by omega)).2;omega
   have hs0':(s:Int)<n0:=by omega
   have ht0':(t:Int)<n0:=by omega
   have hu3:(u:Int)<n3:=by omega
   have hu4:(u:Int)+1<n3:=by omega
   have hwu:=Va u (by omega)
   obtain⟨b,off,ha,_,hb,hc⟩:=hk3 (by omega)
   obtain⟨b',off',ha',_,hb',hc'⟩:=hk0 (by omega)
   subst ha ha'
   have k0:=BA.c 0 rfl
   have k3:=BA.c 3 rfl
   have y0:=Q2 HW.o hb (hc (u+1) (by omega))
   have y1:=Q2 HW.o hb (hc u (by omega))
   have z0:=Q2 HW.o hb' (hc' s hs0)
   have z1:=Q2 HW.o hb' (hc' t ht0)
   rw[hs] at y0
   rw[ht] at y1
   have HQD:Z (oAt G k (u+1)=decide (iat G.eo t<iat G.eo s)):=by
    unfold Z
    rw[HAE.o (u+1) hq2]
    unfold Us
    rw[Nat.add_sub_cancel,hs,ht]
    rfl
   clear hc hc' BA hs ht hp hr x1'
   by_cases g1:iat G.eo s<=iat G.eo t
   ·have f1:decide (iat G.eo s<=iat G.eo t)=true:=by simpa using g1
    have HF:=mh (vg_o Z0.o hlt (by rw[HOD.o];exact Qx hqr (by rw[HQD.o];simpa using g1)))
    clear g1
    go_wp2
    go_quiet (fail)
    go_wp2
    go_ret
    exact⟨Q3 HF.o,HW.o.trans ⟨rfl,rfl,rfl,lR,λ_ _=>rfl⟩⟩
   ·have f1:decide (iat G.eo s<=iat G.eo t)=false:=by simpa using g1
    have HF:Z (oAt G k (u+1)=true):=by unfold Z;rw[HQD.o];simp;omega
    clear g1
    go_wp2
    go_quiet (fail)
    go_wp2
    go_roundw
    case rel=>exact⟨u+1+1,by omega,by omega,by go_num,Qm HB.o HF.o,HN.o.trans ⟨rfl,rfl,rfl,lR,λ_ _=>rfl⟩⟩
    case measure=>simp[intOf];omega
  have hqr':¬(q:Int)<r:=by omega
  have HF:Z (oOk G k=true):=by rw[HOD.o];exact Qt (by omega) HB.o
  clear BA x1'
  go_wp2
  go_roundw
  case rel=>exact⟨k+1,by omega,by go_num,Qm HA.o HF.o,HN⟩
  case measure=>simp[intOf];omega
 have H9:Z (Qo G.eo.length (oOk G)=true):=Qt (by rw[Z0.o];omega) HA.o
 have HF:=mh (Qfh H1.o H2.o H3.o H4.o H5.o (by rw[Z0.o];exact H6.o) H7.o (by rw[Z3.o];exact H8.o) H9.o)
 have ek:n0=k:=by omega
 subst ek
 clear HA
 go_wp2
 go_ret
 exact⟨Q3 HF.o,HW.o⟩
def inZ (v m:Int):Bool:=decide (0<=v)&&decide (v<m)
theorem Qg1 {v m:Int}(h:inZ v m=true):0<=v/\v<m:=by simpa [inZ] using h
theorem Je (v m:Int)(w:World)(h0:0<=m)(hn:m<=9223372036854775807) :
  Calls prog 28 #[iV v,iV m] w λe w'=>e=.returned (.bool (inZ v m))/\w'=w:=by
 have hw:IntKind.i64.wrap m=m:=by rw[IntKind.wrap_i64];omega
 by_cases h1:0<=v
 ·by_cases h2:v<m
  ·go_enter func28,ntmps28
   go_wp2
   go_ret
   exact⟨Q3 (by simp[inZ,h1,h2]),rfl⟩
  ·go_enter func28,ntmps28
   go_wp2
   go_ret
   exact⟨Q3 (by simp[inZ];omega),rfl⟩
 ·go_enter func28,ntmps28
  go_wp2
  go_ret
  exact⟨Q3 (by simp[inZ];omega),rfl⟩
end Go.Proofs.YtphiaobccollhaaGreat
