import Derived.Test.YthhkjbfkgdlkmaaGreatDoorQE
import Derived.Test.YthhkjbfkgdlkmaaGreatDoorShelfP
namespace Go.Proofs.YthhkjbfkgdlkmaaGreatDoor
open Go.RowKit Go.Sort Go.Shelf
set_option linter.unusedVariables false
set_option maxRecDepth 1000000
set_option maxHeartbeats 16000000
theorem growNilS_any (n:Nat)(w:World)(hn:0<n)(hb:n<=10000000) :
  Calls Tryz.prog 92 #[.slice none 0 0,.int .i64 (n:Int)] w λe w'=>(∃cap,e=.returned (.slice (some ⟨w.heap.size,0,none⟩) 0 cap)/\OwnSt w.heap.size w' (.slice (some ⟨w.heap.size,0,none⟩) 0 cap) [])/\Nx w w':=by
 obtain⟨ii,hi,hz0,hz1,hz2⟩:=info_parts infoStr9
 refine Calls.mono (Any8.slices_Grow_grow Tryz.growS ii (.string ByteArray.empty) hi hz0 (by rw[hz1];decide) none 0 0 n [] w (Nat.le_refl _) (by omega) (by rw[hz2];omega) (by omega) (by simp) (λ_=>rfl) (λa h=>by cases h)) ?_
 rintro e w' ⟨rfl,rfl⟩
 have hg:=grownCap_ge w (0+n) 0 (Tryz.growS_ren.t 25)
 have hl:=grownCap_le_maxLen w (0+n) 0 (Tryz.growS_ren.t 25) (by unfold maxLen;omega)
 have key:∀(cs:Array Value) (cap:Nat),cs.size=cap->cap<=maxLen->OwnSt w.heap.size (w.drew.alloc (.cells cs 9)) (.slice (some ⟨w.heap.size,0,none⟩) 0 cap) []:=λcs cap h1 h2=>
  ⟨rfl,Or.inr ⟨w.heap.size,cap,cs,rfl,Nat.le_refl _,by show(w.heap.push _)[w.heap.size]?=_;simp,Nat.zero_le _,h2,by omega,by simp⟩⟩
 refine⟨⟨_,rfl,key _ _ ?_ hl⟩,Nx.trans (show Nx w w.drew from(Below.refl _ _).drew) (box1 w.drew _)⟩
 simp[Builtin.zeroCells,Value.cells]
 have e:grownCap w (0+n) 0 (Tryz.growS_ren.t 25)=grownCap w n 0 (Tryz.growS_ren.t 25):=by rw[Nat.zero_add]
 rw[e] at hg
 omega
theorem addS_at (b off i:Nat):(⟨b,off,none⟩:Addr).add i=⟨b,off+i,none⟩:=by
 unfold Addr.add
 by_cases hi:i=0<;>simp[hi]
theorem OwnSt.app {B:Nat}{w:World}{v:Value}{zs ys:List ByteArray}(h:w.ownsRow B 9 1 v (zs.length+ys.length) (zs.map Value.string++ys.map Value.string)):OwnSt B w v (zs++ys):=by
 unfold OwnSt
 rw[List.length_append,List.map_append]
 exact h
theorem hsr_news {w:World}{g k m c:Nat}{ss:List ByteArray}(h:HSr w (.slice (some ⟨g,k,none⟩) m c) ss):∀j u,(ss.map Value.string)[j]?=some u->w.cell? ((⟨g,k,none⟩:Addr).add j)=some u:=λj u hj=>by
 obtain⟨a',c',e,hk⟩:=h
 have hjl:j<ss.length:=by
  have:=(List.getElem?_eq_some_iff.1 hj).1
  simpa using this
 obtain⟨g',off,ea,hc⟩:=hk (by omega)
 simp only[Value.slice.injEq] at e
 have e1:some (⟨g,k,none⟩:Addr)=some ⟨g',off,none⟩:=by rw[e.1,ea]
 simp only[Option.some.injEq,Addr.mk.injEq] at e1
 obtain⟨rfl,rfl,-⟩:=e1
 rw[addS_at,hc j hjl]
 rw[List.getElem?_map,List.getElem?_eq_getElem hjl] at hj
 have es:sat ss j=ss[j]:=by simp[sat,List.getD,hjl]
 rw[es];simpa using hj
theorem hsr_len {w:World}{a:Option Addr}{m c:Nat}{ss:List ByteArray}(h:HSr w (.slice a m c) ss):ss.length=m:=by
 obtain⟨a',c',e,hk⟩:=h
 simp only[Value.slice.injEq] at e
 exact e.2.1.symm
theorem concatS_any (gv g k1 m1 c1 k2 m2 c2:Nat)(s1 s2:List ByteArray)(w:World)(x0:w.cell? ⟨gv,0,none⟩=some (.slice (some ⟨g,k1,none⟩) m1 c1))(x1:w.cell? ⟨gv,1,none⟩=some (.slice (some ⟨g,k2,none⟩) m2 c2))
  (h1:HSr w (.slice (some ⟨g,k1,none⟩) m1 c1) s1) (h2:HSr w (.slice (some ⟨g,k2,none⟩) m2 c2) s2) (hp1:0<m1) (hp2:0<m2) (hl:m1+m2<=300001) :
  Calls Tryz.prog 76 #[.slice (some ⟨gv,0,none⟩) 2 2] w λe w'=>(∃u,e=.returned u/\OwnSt w.heap.size w' u (s1++s2))/\Nx w w':=by
 obtain⟨ii,hi,hz0,hz1,hz2⟩:=info_parts infoStr9
 have H1:=mkHid' h1
 have H2:=mkHid' h2
 have HL1:=mkHid' (hsr_len h1)
 have HL2:=mkHid' (hsr_len h2)
 clear h1 h2
 have HX0:=mkHid' x0
 have HX1:=mkHid' x1
 have g1:decide ((m1:Int)<0)=false:=by simp
 have g2:decide ((m1:Int)+(m2:Int)<0)=false:=by simp;omega
 go_enter Tryz.func76,Tryz.ntmps76
 go_wp2
 go_loopw [3,11] (λs i wr=>((i=.int .i64 0/\s=.int .i64 0)\/(i=.int .i64 1/\s=.int .i64 m1)\/(i=.int .i64 2/\s=.int .i64 (m1+m2:Nat)))/\Hid (w=wr)) (λ_ i _=>2-(intOf i).toNat)
 case atStart=>exact⟨Or.inl ⟨rfl,rfl⟩,rfl⟩
 obtain⟨hc,hww⟩:=hrel
 have hww2:=hww.out
 subst hww2
 clear hww
 rcases hc with⟨rfl,rfl⟩|⟨rfl,rfl⟩|⟨rfl,rfl⟩
 ·go_wp2
  go_roundw
  case rel=>exact⟨Or.inr (Or.inl ⟨rfl,by simp⟩),(trivial:True)⟩
  case measure=>simp[intOf]
 ·go_wp2
  go_roundw
  case rel=>exact⟨Or.inr (Or.inr ⟨rfl,by simp⟩),(trivial:True)⟩
  case measure=>simp[intOf]
 clear x0 x1
 go_wp2_with fail
 refine(growNilS_any (m1+m2) _ (by omega) (by omega)).mono ?_
 rintro e w2 ⟨⟨cp,rfl,hO⟩,hx⟩
 have HO2:Hid (OwnSt w.heap.size w2 (.slice (some ⟨w.heap.size,0,none⟩) 0 cp) []):=hO
 have HX2:Hid (Nx w w2):=hx
 clear hO hx
 go_wp2
 go_loopw [6,27] (λu i wq=>((i=.int .i64 0/\Hid (OwnSt w.heap.size wq u []))\/(i=.int .i64 1/\Hid (OwnSt w.heap.size wq u s1))\/(i=.int .i64 2/\Hid (OwnSt w.heap.size wq u (s1++s2))))/\Hid (Nx w wq)) (λ_ i _=>2-(intOf i).toNat)
 case atStart=>exact⟨Or.inl ⟨rfl,HO2⟩,HX2⟩
 clear HO2 HX2
 obtain⟨hc,HN⟩:=hrel
 rcases hc with⟨rfl,HO⟩|⟨rfl,HO⟩|⟨rfl,HO⟩
 ·have y0:=cellq HN.out HX0.out
  have HNW:=mkHid' (hsr_news (H1.out.next HN.out))
  obtain⟨ua,uc,hue⟩:=row_slice HO.out
  subst hue
  go_wp2_with (at_builtin;refine wpList_append_own_at _ rfl _ _ 39 rfl w.heap.size 9 ii (.string ByteArray.empty) 1 16 Tryz.underlying39 hi hz0 hz1 hz2 rfl (by decide) _ _ _ rfl HO.out ⟨g,k1,none⟩ m1 c1 (s1.map Value.string) rfl ?f0 HNW.out ?f2 ?f3 ?f4 ?f5 ?_)
  case f0=>rw[List.length_map,HL1.out];omega
  case f2=>intro u hu;obtain⟨z,_,rfl⟩:=List.mem_map.1 hu;rfl
  case f3=>simp;unfold maxLen;omega
  case f4=>simp;omega
  case f5=>exact HN.out.size
  intro v7 w7 hown hgrow _ hat7
  have HO7:Hid (OwnSt w.heap.size w7 v7 s1):=by
   unfold Hid OwnSt
   rw[HL1.out];exact hown
  have HN7:Hid (Nx w w7):=Below.grown HN.out hgrow HN.out.size (λg hg=>(own_lt HO.out g hg).1)
  clear hown hgrow hat7 y0 HO HN HNW
  go_wp2
  go_roundw
  case rel=>exact⟨Or.inr (Or.inl ⟨rfl,HO7⟩),HN7⟩
  case measure=>simp[intOf]
 ·have y1:=cellq HN.out HX1.out
  have HNW:=mkHid' (hsr_news (H2.out.next HN.out))
  obtain⟨ua,uc,hue⟩:=row_slice HO.out
  rw[HL1.out] at hue
  subst hue
  go_wp2_with (at_builtin;refine wpList_append_own_at _ rfl _ _ 39 rfl w.heap.size 9 ii (.string ByteArray.empty) 1 16 Tryz.underlying39 hi hz0 hz1 hz2 rfl (by decide) _ _ _ rfl HO.out ⟨g,k2,none⟩ m2 c2 (s2.map Value.string) rfl ?f0 HNW.out ?f2 ?f3 ?f4 ?f5 ?_)
  case f0=>rw[List.length_map,HL2.out];omega
  case f2=>intro u hu;obtain⟨z,_,rfl⟩:=List.mem_map.1 hu;rfl
  case f3=>rw[HL1.out];unfold maxLen;omega
  case f4=>rw[HL1.out];omega
  case f5=>exact HN.out.size
  intro v7 w7 hown hgrow _ hat7
  have HO7:Hid (OwnSt w.heap.size w7 v7 (s1++s2)):=OwnSt.app (by rw[HL2.out];exact hown)
  have HN7:Hid (Nx w w7):=Below.grown HN.out hgrow HN.out.size (λg hg=>(own_lt HO.out g hg).1)
  clear hown hgrow hat7 y1 HO HN HNW
  go_wp2
  go_roundw
  case rel=>exact⟨Or.inr (Or.inr ⟨rfl,HO7⟩),HN7⟩
  case measure=>simp[intOf]
 ·go_wp2
  go_ret
  exact⟨⟨_,rfl,HO.out⟩,HN.out⟩
end Go.Proofs.YthhkjbfkgdlkmaaGreatDoor
