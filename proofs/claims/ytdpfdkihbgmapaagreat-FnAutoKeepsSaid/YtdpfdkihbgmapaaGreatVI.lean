import Derived.Test.YtdpfdkihbgmapaaGreatXBK
import Derived.Test.YtdpfdkihbgmapaaGreatXDA
namespace Go.Proofs.YtdpfdkihbgmapaaGreat
open Go.RowKit
set_option linter.unusedVariables false
set_option maxRecDepth 1000000
set_option maxHeartbeats 16000000
theorem LW_first {A:Au}{n:Nat}(h:Trie A n)(x:List Int):∀(d k v j:Nat),k+d=j->j<=x.length->LW (wl A n) x k=v->0<=stW (wl A n) (x.drop j)->∃i,k<=i/\i<=j/\Wd A v=x.drop i
 |0,k,v,j,hd,hj,hv,hs=>by
  have e:j=k:=by omega
  subst e
  rw[LW_hit hj hs] at hv
  obtain⟨s,h1,h2,h3⟩:=st_some hs
  have e:s=v:=by omega
  subst e
  exact⟨j,Nat.le_refl _,Nat.le_refl _,h2⟩
 |d+1,k,v,j,hd,hj,hv,hs=>by
  by_cases c:0<=stW (wl A n) (x.drop k)
  ·rw[LW_hit (by omega) c] at hv
   obtain⟨s,h1,h2,h3⟩:=st_some c
   have e:s=v:=by omega
   subst e
   exact⟨k,Nat.le_refl _,by omega,h2⟩
  ·rw[LW_skip (by omega) c] at hv
   obtain⟨i,h1,h2,h3⟩:=LW_first h x d (k+1) v j (by omega) hj hv hs
   exact⟨i,by omega,h2,h3⟩
theorem lw_top {A:Au}{n v:Nat}(h:Trie A n){x:List Int}(hv:LW (wl A n) x 0=v):v<n/\Wd A v <:+ x/\∀z,z<n->Wd A z <:+ x->z<=v:=by
 obtain⟨v',j,h1,h2,h3,h4,h5⟩:=LW_state h x (k:=0) (Nat.zero_le _)
 have e:v'=v:=by omega
 subst e
 refine⟨h1,by rw[h5];exact List.drop_suffix _ _,λz hz hs=>?_⟩
 have ez:Wd A z=x.drop (x.length-(Wd A z).length):=List.suffix_iff_eq_drop.1 hs
 have hl:=hs.length_le
 obtain⟨i,_,i2,i3⟩:=LW_first h x (x.length-(Wd A z).length) 0 v' (x.length-(Wd A z).length) (by omega) (by omega) hv (by rw[<-ez,st_word h hz];omega)
 apply Decidable.byContradiction
 intro hn
 have hb:=h.asc v' z (by omega) hz
 have hb2:=bef_len hb
 have l1:(Wd A v').length=x.length-i:=by rw[i3,List.length_drop]
 have ei:i=x.length-(Wd A z).length:=by omega
 have e2:Wd A v'=Wd A z:=by rw[i3,ei];exact ez.symm
 have:=h.inj h1 hz e2
 omega
theorem take_iat {P:List Int}{i:Nat}(hi:i<P.length):P.take (i+1)=P.take i++[iat P i]:=by rw[List.take_succ_eq_append_getElem hi,iat_eq hi]
structure RI (A:Au)(P:List Int)(i v:Nat):Prop where
 lw:LW (wl A A.pa.length) (P.take i) 0=v
 run:runK A (wsA A) P i=v
 bad:bat A.bd v=false
 lt:v<A.pa.length
theorem RI.start {A:Au}{P:List Int}(hv:validS A=true):RI A P 0 0:=by
 have ht:=(ws_same hv).2
 have hI:validI A=true:=by rw[<-valid_same];exact hv
 refine⟨?_,rfl,(vi_root hI).2,ht.pos⟩
 have:=LW_end ht (P.take 0)
 rw[List.take_zero] at this ⊢
 exact this
theorem RI.fail {A:Au}{P:List Int}{i v:Nat}(hv:validS A=true)(h:RI A P i v)(hf:iat P i<0\/4000<=iat P i\/(iat A.mu v≠-1/\iat A.mu v≠iat P i)):runK A (wsA A) P (i+1)=-1:=by
 rw[runK,h.run,if_neg (by omega)]
 unfold stepS
 by_cases c:(v:Int)<0\/((wsA A).length:Int)<=v\/iat P i<0\/4000<=iat P i
 ·rw[if_pos c]
 ·rw[if_neg c,if_pos]
  rw[Int.toNat_natCast]
  rcases hf with f|f|f
  ·omega
  ·omega
  ·exact Or.inr f
theorem RI.next {A:Au}{P:List Int}{i v u:Nat}(hv:validS A=true)(h:RI A P i v)(hi:i<P.length)(hf:¬(iat P i<0\/4000<=iat P i\/(iat A.mu v≠-1/\iat A.mu v≠iat P i)))(hu:LW (wl A A.pa.length) (P.take (i+1)) 0=u):u<A.pa.length/\(bat A.bd u=true->runK A (wsA A) P (i+1)=-1)/\(bat A.bd u=false->RI A P (i+1) u):=by
 have ht:=(ws_same hv).2
 have hw:=(ws_of hv).1
 have hul:=(lw_top ht hu).1
 have eg:(goOf A A.pa.length v (iat P i):Int)=u:=by
  rw[<-hu,take_iat hi,LW_shift ht (P.take i) (iat P i) (Nat.zero_le _) h.lw]
  exact(go_lw ht h.lt (iat P i)).1.symm
 have er:runK A (wsA A) P (i+1)=if bat A.bd u=true then -1 else (u:Int):=by
  rw[runK,h.run,if_neg (by omega)]
  unfold stepS
  have hl:=hw.l
  have hlt:=h.lt
  rw[if_neg (by omega),if_neg,lngE_go hv (by rw[Int.toNat_natCast];exact h.lt)]
  ·have eg':goOf A A.pa.length v (iat P i)=u:=by omega
   simp only[Int.toNat_natCast,eg']
  rw[Int.toNat_natCast,h.bad]
  rintro(c|c)
  ·cases c
  ·exact hf (Or.inr (Or.inr c))
 refine⟨hul,λhb=>by rw[er,if_pos hb],λhb=>⟨hu,by rw[er,if_neg (by rw[hb];decide)],hb,hul⟩⟩
theorem lw_some {A:Au}(hv:validS A=true)(x:List Int):∃u:Nat,LW (wl A A.pa.length) x 0=u:=by
 obtain⟨v,j,_,h,_⟩:=LW_state (ws_same hv).2 x (k:=0) (Nat.zero_le _)
 exact⟨v,h⟩
def Up (A:Au)(P:List Int)(i z y k:Nat):Prop:=Wd A z=Wd A y++(P.take (i+1)).drop k
theorem Up.start {A:Au}{P:List Int}{i z:Nat}(hi:i<P.length):Up A P i z z (i+1):=by
 unfold Up
 rw[List.drop_eq_nil_of_le (by rw[List.length_take];omega),List.append_nil]
theorem Up.go {A:Au}{P:List Int}{i z y k t:Nat}(h:Up A P i z y (k+1))(hv:validS A=true)(hi:i<P.length)(hk:k<=i)(hy:1<=y)(hyn:y<A.pa.length)(ht:iat A.pa y=t)(e:iat A.la y=iat P k):Up A P i z t k:=by
 have hT:=(ws_same hv).2
 have hs:=Wd_step (hT.ok y hy hyn) hy
 unfold Up at h ⊢
 rw[h,hs,ht,Int.toNat_natCast,List.append_assoc]
 congr 1
 have hl:k<(P.take (i+1)).length:=by rw[List.length_take];omega
 rw[List.drop_eq_getElem_cons hl,e]
 rw[List.getElem_take,iat_eq (show k<P.length by omega)]
 rfl
theorem Up.par {A:Au}{y:Nat}(hv:validS A=true)(hy:1<=y)(hyn:y<A.pa.length):∃t:Nat,iat A.pa y=t/\t<y:=by
 have:=okR_at ((ws_same hv).2.ok y hy hyn)
 exact⟨(iat A.pa y).toNat,by omega,by omega⟩
theorem Up.yes {A:Au}{P:List Int}{i z k:Nat}(h:Up A P i z 0 k):Wd A z <:+ P.take (i+1):=by
 unfold Up at h
 rw[h,Wd_zero,List.nil_append]
 exact List.drop_suffix _ _
theorem Up.no {A:Au}{P:List Int}{i z y k:Nat}(h:Up A P i z y k)(hv:validS A=true)(hi:i<P.length)(hk:k<=i+1)(hy:1<=y)(hyn:y<A.pa.length)(hn:¬(0<k/\iat A.la y=iat P (k-1))):¬Wd A z <:+ P.take (i+1):=by
 intro hs
 have hT:=(ws_same hv).2
 have hst:=Wd_step (hT.ok y hy hyn) hy
 unfold Up at h
 have hl:(P.take (i+1)).length=i+1:=by rw[List.length_take];omega
 have hs2:Wd A y++(P.take (i+1)).drop k <:+ (P.take (i+1)).take k++(P.take (i+1)).drop k:=by rw[List.take_append_drop,<-h];exact hs
 have hs3:Wd A y <:+ (P.take (i+1)).take k:=by
  obtain⟨t,ht⟩:=hs2
  rw[<-List.append_assoc] at ht
  exact⟨t,List.append_cancel_right ht⟩
 rw[hst,List.take_take,show min k (i+1)=k by omega] at hs3
 obtain⟨t,ht⟩:=hs3
 cases k with
 |zero=>simp at ht
 |succ k=>
  rw[take_iat (show k<P.length by omega),<-List.append_assoc] at ht
  have:=List.append_inj_right' ht rfl
  simp at this
  exact hn ⟨by omega,by simpa using this⟩
end Go.Proofs.YtdpfdkihbgmapaaGreat
