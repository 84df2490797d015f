import Derived.Test.YtmmolhlihhdkcaaGreatDoorBEnD
import Derived.Lib.SlBytesConst
namespace Go.Proofs.YtmmolhlihhdkcaaGreatDoor
open Go.RowKit
set_option linter.unusedVariables false
set_option maxRecDepth 1000000
set_option maxHeartbeats 16000000
theorem G2 (B:Nat)(v0:Value)(b0:List UInt8)(x:Rl)(vz:Value)(w:World)(hown:Own B w v0 b0)(hB:B<=w.heap.size)(hl:b0.length<=380000)(hz:Ji B w vz x.ways)(hzl:x.ways.length<=100)(hsm:small x.ways)
  (hid:0<=x.id/\x.id<=1048576) (hfr:0<=x.frm/\x.frm<=1048576) (hto:0<=x.to/\x.to<=1048576) (hnd:0<=x.node/\x.node<=1048576) (ht:Tab B w) :
  Calls Tryz.prog 18 #[v0,.agg #[.int .i64 x.id,.bool false,.int .i64 x.frm,.int .i64 x.to,.bool true,.int .i64 x.node,vz]] w λe w'=>(∃v',e=.returned v'/\Own B w' v' (b0++([110,111]++(Q6 [x.id,x.frm] [x.id,x.frm].length++([32,97,116]++(Q6 [x.node] [x.node].length++(Q6 [x.to] [x.to].length++[10])))))))  /\ Gx B w w':=by
 obtain⟨i0,hi,hz0,hz1,hz2⟩:=info_parts Yd
 have HT:Hid (Tab B w):=ht
 have HID:Hid ((0<=x.id/\x.id<=1048576)/\(0<=x.frm/\x.frm<=1048576)/\(0<=x.to/\x.to<=1048576)/\(0<=x.node/\x.node<=1048576)):=⟨hid,hfr,hto,hnd⟩
 have HO0:Hid (Own B (w.alloc (.cells #[.int .i64 x.id,.bool false,.int .i64 x.frm,.int .i64 x.to,.bool true,.int .i64 x.node,vz] 48)) v0 b0):=hown.alloc _
 have HA0:Hid (Gx B w (w.alloc (.cells #[.int .i64 x.id,.bool false,.int .i64 x.frm,.int .i64 x.to,.bool true,.int .i64 x.node,vz] 48))):=(Gx.refl B w).alloc hB _
 have HB0:Hid (B<=(w.alloc (.cells #[.int .i64 x.id,.bool false,.int .i64 x.frm,.int .i64 x.to,.bool true,.int .i64 x.node,vz] 48)).heap.size):=HA0.out.1.size |> Nat.le_trans hB
 have HL0:Hid (b0.length<=b0.length+0):=Nat.le_refl _
 have BA0:Zs (w.alloc (.cells #[.int .i64 x.id,.bool false,.int .i64 x.frm,.int .i64 x.to,.bool true,.int .i64 x.node,vz] 48)) w.heap.size #[.int .i64 x.id,.bool false,.int .i64 x.frm,.int .i64 x.to,.bool true,.int .i64 x.node,vz]:=Zs.new _ _ _ _ (by decide) rfl
 clear hown hid hfr hto hnd hz hsm ht
 go_enter Tryz.func18,Tryz.ntmps18
 go_wp2_with (at_builtin;refine Lib.wpList_append_own_string _ rfl _ _ 22 9 rfl B 5 i0 Tryz.underlying22 Tryz.underlying9 hi hz0 hz1 hz2 _ _ _ rfl HO0.out ⟨#[110,111]⟩ rfl ?la1 ?lb1 HB0.out ?_)
 case la1=>have:=HL0.out;simp only[ByteArray.size];unfold maxLen;simp;omega
 case lb1=>have:=HL0.out;simp[ByteArray.size];omega
 intro v1 w1 hown' hgrow _
 have HO1:Hid (Own B w1 v1 (b0++[110,111])):=Own.str hown'
 have HG1:Hid (Gx B (w.alloc (.cells #[.int .i64 x.id,.bool false,.int .i64 x.frm,.int .i64 x.to,.bool true,.int .i64 x.node,vz] 48)) w1):=(Gx.refl B (w.alloc (.cells #[.int .i64 x.id,.bool false,.int .i64 x.frm,.int .i64 x.to,.bool true,.int .i64 x.node,vz] 48))).grown HO0.out hgrow HB0.out
 clear hown' hgrow
 have HA1:Hid (Gx B w w1):=HA0.out.trans HG1.out
 have HB1:Hid (B<=w1.heap.size):=Nat.le_trans HB0.out HG1.out.1.size
 have HL1:Hid ((b0++[110,111]).length<=b0.length+2):=by
  have h1:=HL0.out
  unfold Hid
  simp only[List.length_append,List.length_cons,List.length_nil]
  omega
 have BA1:=BA0.keep HG1.out
 generalize hb1:b0++[110,111]=b1 at *
 have HE1:Hid (b0++[110,111]=b1):=hb1
 clear hb1
 have kk0:=BA1.blk.cell (i:=0) rfl
 have kk2:=BA1.blk.cell (i:=2) rfl
 go_wp2_with fail
 refine(Qm B _ b1 _ [x.id,x.frm] _ (HO1.out.alloc _) (by have:=HB1.out;simp at this ⊢;omega) (by have:=HL1.out;omega) (A9 _ _ _ _) (by simp) (Zj HID.out.1 HID.out.2.1) (HT.out.on (HA1.out.trans ((Gx.refl B w1).alloc HB1.out _)).1)).mono ?_
 rintro e w2 ⟨⟨v2,rfl,ho⟩,hg⟩
 have HO2:Hid (Own B w2 v2 (b1++Q6 [x.id,x.frm] [x.id,x.frm].length)):=ho
 have HG2:Hid (Gx B w1 w2):=((Gx.refl B w1).alloc HB1.out _).trans hg
 clear ho hg
 have HA2:Hid (Gx B w w2):=HA1.out.trans HG2.out
 have HB2:Hid (B<=w2.heap.size):=Nat.le_trans HB1.out HG2.out.1.size
 have HL2:Hid ((b1++Q6 [x.id,x.frm] [x.id,x.frm].length).length<=b0.length+18):=by
  have h1:=HL1.out
  unfold Hid
  have h2:=Qq (Zj HID.out.1 HID.out.2.1) _ (Nat.le_refl [x.id,x.frm].length)
  rw[List.length_append]
  try simp only[List.length_cons,List.length_nil] at h2 ⊢
  omega
 have BA2:=BA1.keep HG2.out
 generalize hb2:b1++Q6 [x.id,x.frm] [x.id,x.frm].length=b2 at *
 have HE2:Hid (b1++Q6 [x.id,x.frm] [x.id,x.frm].length=b2):=hb2
 clear hb2
 have kk4:=BA2.blk.cell (i:=4) rfl
 go_wp2_with (at_builtin;refine Lib.wpList_append_own_string _ rfl _ _ 22 9 rfl B 5 i0 Tryz.underlying22 Tryz.underlying9 hi hz0 hz1 hz2 _ _ _ rfl HO2.out ⟨#[32,97,116]⟩ rfl ?la3 ?lb3 HB2.out ?_)
 case la3=>have:=HL2.out;simp only[ByteArray.size];unfold maxLen;simp;omega
 case lb3=>have:=HL2.out;simp[ByteArray.size];omega
 intro v3 w3 hown' hgrow _
 have HO3:Hid (Own B w3 v3 (b2++[32,97,116])):=Own.str hown'
 have HG3:Hid (Gx B w2 w3):=(Gx.refl B w2).grown HO2.out hgrow HB2.out
 clear hown' hgrow
 have HA3:Hid (Gx B w w3):=HA2.out.trans HG3.out
 have HB3:Hid (B<=w3.heap.size):=Nat.le_trans HB2.out HG3.out.1.size
 have HL3:Hid ((b2++[32,97,116]).length<=b0.length+21):=by
  have h1:=HL2.out
  unfold Hid
  simp only[List.length_append,List.length_cons,List.length_nil]
  omega
 have BA3:=BA2.keep HG3.out
 generalize hb3:b2++[32,97,116]=b3 at *
 have HE3:Hid (b2++[32,97,116]=b3):=hb3
 clear hb3
 have kk5:=BA3.blk.cell (i:=5) rfl
 go_wp2_with fail
 refine(Qm B _ b3 _ [x.node] _ (HO3.out.alloc _) (by have:=HB3.out;simp at this ⊢;omega) (by have:=HL3.out;omega) (Wn _ _ _) (by simp) (Jk HID.out.2.2.2) (HT.out.on (HA3.out.trans ((Gx.refl B w3).alloc HB3.out _)).1)).mono ?_
 rintro e w4 ⟨⟨v4,rfl,ho⟩,hg⟩
 have HO4:Hid (Own B w4 v4 (b3++Q6 [x.node] [x.node].length)):=ho
 have HG4:Hid (Gx B w3 w4):=((Gx.refl B w3).alloc HB3.out _).trans hg
 clear ho hg
 have HA4:Hid (Gx B w w4):=HA3.out.trans HG4.out
 have HB4:Hid (B<=w4.heap.size):=Nat.le_trans HB3.out HG4.out.1.size
 have HL4:Hid ((b3++Q6 [x.node] [x.node].length).length<=b0.length+29):=by
  have h1:=HL3.out
  unfold Hid
  have h2:=Qq (Jk HID.out.2.2.2) _ (Nat.le_refl [x.node].length)
  rw[List.length_append]
  try simp only[List.length_cons,List.length_nil] at h2 ⊢
  omega
 have BA4:=BA3.keep HG4.out
 generalize hb4:b3++Q6 [x.node] [x.node].length=b4 at *
 have HE4:Hid (b3++Q6 [x.node] [x.node].length=b4):=hb4
 clear hb4
 have kk3:=BA4.blk.cell (i:=3) rfl
 go_wp2_with fail
 refine(Qm B _ b4 _ [x.to] _ (HO4.out.alloc _) (by have:=HB4.out;simp at this ⊢;omega) (by have:=HL4.out;omega) (Wn _ _ _) (by simp) (Jk HID.out.2.2.1) (HT.out.on (HA4.out.trans ((Gx.refl B w4).alloc HB4.out _)).1)).mono ?_
 rintro e w5 ⟨⟨v5,rfl,ho⟩,hg⟩
 have HO5:Hid (Own B w5 v5 (b4++Q6 [x.to] [x.to].length)):=ho
 have HG5:Hid (Gx B w4 w5):=((Gx.refl B w4).alloc HB4.out _).trans hg
 clear ho hg
 have HA5:Hid (Gx B w w5):=HA4.out.trans HG5.out
 have HB5:Hid (B<=w5.heap.size):=Nat.le_trans HB4.out HG5.out.1.size
 have HL5:Hid ((b4++Q6 [x.to] [x.to].length).length<=b0.length+37):=by
  have h1:=HL4.out
  unfold Hid
  have h2:=Qq (Jk HID.out.2.2.1) _ (Nat.le_refl [x.to].length)
  rw[List.length_append]
  try simp only[List.length_cons,List.length_nil] at h2 ⊢
  omega
 have BA5:=BA4.keep HG5.out
 generalize hb5:b4++Q6 [x.to] [x.to].length=b5 at *
 have HE5:Hid (b4++Q6 [x.to] [x.to].length=b5):=hb5
 clear hb5
 go_wp2_with (at_builtin;refine wpList_append_own _ rfl _ _ 22 rfl B 5 i0 (.int .u8 0) 1 1 Tryz.underlying22 hi hz0 hz1 hz2 rfl (by decide) _ _ _ rfl (HO5.out.alloc _) ⟨w5.heap.size,0,none⟩ 1 1 [Value.int .u8 ((10:UInt8).toNat:Int)] rfl rfl ?c1 ?c2 ?c3 ?c4 ?c5 ?_)
 case c1=>
  intro j u hj
  match j,hj with
  |0,hj=>simp at hj;subst hj;simp[Addr.add]
 case c2=>intro u hu;simp at hu;subst hu;rfl
 case c3=>have:=HL5.out;unfold maxLen;omega
 case c4=>have:=HL5.out;omega
 case c5=>have:=HB5.out;simp;omega
 intro v' w' hown' hgrow _
 have HO':Hid (Own B w' v' (b5++[10])):=Own.snoc hown'
 have HG':Hid (Gx B w w'):=(HA5.out.alloc HB5.out _).grown (HO5.out.alloc _) hgrow (by have:=HB5.out;simp;omega)
 clear hown' hgrow
 go_wp2
 go_ret
 exact⟨⟨_,rfl,by have e1:=HE1.out;have e2:=HE2.out;have e3:=HE3.out;have e4:=HE4.out;have e5:=HE5.out;subst e1 e2 e3 e4 e5;simp only[List.append_assoc] at HO' ⊢;exact HO'.out⟩,HG'.out⟩
theorem Ko (B:Nat)(v0:Value)(b0:List UInt8)(x:Rl)(vz:Value)(w:World)(hown:Own B w v0 b0)(hB:B<=w.heap.size)(hl:b0.length<=380000)(hz:Ji B w vz x.ways)(hzl:x.ways.length<=100)(hsm:small x.ways)
  (hid:0<=x.id/\x.id<=1048576) (hfr:0<=x.frm/\x.frm<=1048576) (hto:0<=x.to/\x.to<=1048576) (hnd:0<=x.node/\x.node<=1048576) (ht:Tab B w) :
  Calls Tryz.prog 18 #[v0,.agg #[.int .i64 x.id,.bool true,.int .i64 x.frm,.int .i64 x.to,.bool true,.int .i64 x.node,vz]] w λe w'=>(∃v',e=.returned v'/\Own B w' v' (b0++([111,110,108,121]++(Q6 [x.id,x.frm] [x.id,x.frm].length++([32,97,116]++(Q6 [x.node] [x.node].length++(Q6 [x.to] [x.to].length++[10])))))))  /\ Gx B w w':=by
 obtain⟨i0,hi,hz0,hz1,hz2⟩:=info_parts Yd
 have HT:Hid (Tab B w):=ht
 have HID:Hid ((0<=x.id/\x.id<=1048576)/\(0<=x.frm/\x.frm<=1048576)/\(0<=x.to/\x.to<=1048576)/\(0<=x.node/\x.node<=1048576)):=⟨hid,hfr,hto,hnd⟩
 have HO0:Hid (Own B (w.alloc (.cells #[.int .i64 x.id,.bool true,.int .i64 x.frm,.int .i64 x.to,.bool true,.int .i64 x.node,vz] 48)) v0 b0):=hown.alloc _
 have HA0:Hid (Gx B w (w.alloc (.cells #[.int .i64 x.id,.bool true,.int .i64 x.frm,.int .i64 x.to,.bool true,.int .i64 x.node,vz] 48))):=(Gx.refl B w).alloc hB _
 have HB0:Hid (B<=(w.alloc (.cells #[.int .i64 x.id,.bool true,.int .i64 x.frm,.int .i64 x.to,.bool true,.int .i64 x.node,vz] 48)).heap.size):=HA0.out.1.size |> Nat.le_trans hB
 have HL0:Hid (b0.length<=b0.length+0):=Nat.le_refl _
 have BA0:Zs (w.alloc (.cells #[.int .i64 x.id,.bool true,.int .i64 x.frm,.int .i64 x.to,.bool true,.int .i64 x.node,vz] 48)) w.heap.size #[.int .i64 x.id,.bool true,.int .i64 x.frm,.int .i64 x.to,.bool true,.int .i64 x.node,vz]:=Zs.new _ _ _ _ (by decide) rfl
 clear hown hid hfr hto hnd hz hsm ht
 go_enter Tryz.func18,Tryz.ntmps18
 go_wp2_with (at_builtin;refine Lib.wpList_append_own_string _ rfl _ _ 22 9 rfl B 5 i0 Tryz.underlying22 Tryz.underlying9 hi hz0 hz1 hz2 _ _ _ rfl HO0.out ⟨#[111,110,108,121]⟩ rfl ?la1 ?lb1 HB0.out ?_)
 case la1=>have:=HL0.out;simp only[ByteArray.size];unfold maxLen;simp;omega
 case lb1=>have:=HL0.out;simp[ByteArray.size];omega
 intro v1 w1 hown' hgrow _
 have HO1:Hid (Own B w1 v1 (b0++[111,110,108,121])):=Own.str hown'
 have HG1:Hid (Gx B (w.alloc (.cells #[.int .i64 x.id,.bool true,.int .i64 x.frm,.int .i64 x.to,.bool true,.int .i64 x.node,vz] 48)) w1):=(Gx.refl B (w.alloc (.cells #[.int .i64 x.id,.bool true,.int .i64 x.frm,.int .i64 x.to,.bool true,.int .i64 x.node,vz] 48))).grown HO0.out hgrow HB0.out
 clear hown' hgrow
 have HA1:Hid (Gx B w w1):=HA0.out.trans HG1.out
 have HB1:Hid (B<=w1.heap.size):=Nat.le_trans HB0.out HG1.out.1.size
 have HL1:Hid ((b0++[111,110,108,121]).length<=b0.length+4):=by
  have h1:=HL0.out
  unfold Hid
  simp only[List.length_append,List.length_cons,List.length_nil]
  omega
 have BA1:=BA0.keep HG1.out
 generalize hb1:b0++[111,110,108,121]=b1 at *
 have HE1:Hid (b0++[111,110,108,121]=b1):=hb1
 clear hb1
 have kk0:=BA1.blk.cell (i:=0) rfl
 have kk2:=BA1.blk.cell (i:=2) rfl
 go_wp2_with fail
 refine(Qm B _ b1 _ [x.id,x.frm] _ (HO1.out.alloc _) (by have:=HB1.out;simp at this ⊢;omega) (by have:=HL1.out;omega) (A9 _ _ _ _) (by simp) (Zj HID.out.1 HID.out.2.1) (HT.out.on (HA1.out.trans ((Gx.refl B w1).alloc HB1.out _)).1)).mono ?_
 rintro e w2 ⟨⟨v2,rfl,ho⟩,hg⟩
 have HO2:Hid (Own B w2 v2 (b1++Q6 [x.id,x.frm] [x.id,x.frm].length)):=ho
 have HG2:Hid (Gx B w1 w2):=((Gx.refl B w1).alloc HB1.out _).trans hg
 clear ho hg
 have HA2:Hid (Gx B w w2):=HA1.out.trans HG2.out
 have HB2:Hid (B<=w2.heap.size):=Nat.le_trans HB1.out HG2.out.1.size
 have HL2:Hid ((b1++Q6 [x.id,x.frm] [x.id,x.frm].length).length<=b0.length+20):=by
  have h1:=HL1.out
  unfold Hid
  have h2:=Qq (Zj HID.out.1 HID.out.2.1) _ (Nat.le_refl [x.id,x.frm].length)
  rw[List.length_append]
  try simp only[List.length_cons,List.length_nil] at h2 ⊢
  omega
 have BA2:=BA1.keep HG2.out
 generalize hb2:b1++Q6 [x.id,x.frm] [x.id,x.frm].length=b2 at *
 have HE2:Hid (b1++Q6 [x.id,x.frm] [x.id,x.frm].length=b2):=hb2
 clear hb2
 have kk4:=BA2.blk.cell (i:=4) rfl
 go_wp2_with (at_builtin;refine Lib.wpList_append_own_string _ rfl _ _ 22 9 rfl B 5 i0 Tryz.underlying22 Tryz.underlying9 hi hz0 hz1 hz2 _ _ _ rfl HO2.out ⟨#[32,97,116]⟩ rfl ?la3 ?lb3 HB2.out ?_)
 case la3=>have:=HL2.out;simp only[ByteArray.size];unfold maxLen;simp;omega
 case lb3=>have:=HL2.out;simp[ByteArray.size];omega
 intro v3 w3 hown' hgrow _
 have HO3:Hid (Own B w3 v3 (b2++[32,97,116])):=Own.str hown'
 have HG3:Hid (Gx B w2 w3):=(Gx.refl B w2).grown HO2.out hgrow HB2.out
 clear hown' hgrow
 have HA3:Hid (Gx B w w3):=HA2.out.trans HG3.out
 have HB3:Hid (B<=w3.heap.size):=Nat.le_trans HB2.out HG3.out.1.size
 have HL3:Hid ((b2++[32,97,116]).length<=b0.length+23):=by
  have h1:=HL2.out
  unfold Hid
  simp only[List.length_append,List.length_cons,List.length_nil]
  omega
 have BA3:=BA2.keep HG3.out
 generalize hb3:b2++[32,97,116]=b3 at *
 have HE3:Hid (b2++[32,97,116]=b3):=hb3
 clear hb3
 have kk5:=BA3.blk.cell (i:=5) rfl
 go_wp2_with fail
 refine(Qm B _ b3 _ [x.node] _ (HO3.out.alloc _) (by have:=HB3.out;simp at this ⊢;omega) (by have:=HL3.out;omega) (Wn _ _ _) (by simp) (Jk HID.out.2.2.2) (HT.out.on (HA3.out.trans ((Gx.refl B w3).alloc HB3.out _)).1)).mono ?_
 rintro e w4 ⟨⟨v4,rfl,ho⟩,hg⟩
 have HO4:Hid (Own B w4 v4 (b3++Q6 [x.node] [x.node].length)):=ho
 have HG4:Hid (Gx B w3 w4):=((Gx.refl B w3).alloc HB3.out _).trans hg
 clear ho hg
 have HA4:Hid (Gx B w w4):=HA3.out.trans HG4.out
 have HB4:Hid (B<=w4.heap.size):=Nat.le_trans HB3.out HG4.out.1.size
 have HL4:Hid ((b3++Q6 [x.node] [x.node].length).length<=b0.length+31):=by
  have h1:=HL3.out
  unfold Hid
  have h2:=Qq (Jk HID.out.2.2.2) _ (Nat.le_refl [x.node].length)
  rw[List.length_append]
  try simp only[List.length_cons,List.length_nil] at h2 ⊢
  omega
 have BA4:=BA3.keep HG4.out
 generalize hb4:b3++Q6 [x.node] [x.node].length=b4 at *
 have HE4:Hid (b3++Q6 [x.node] [x.node].length=b4):=hb4
 clear hb4
 have kk3:=BA4.blk.cell (i:=3) rfl
 go_wp2_with fail
 refine(Qm B _ b4 _ [x.to] _ (HO4.out.alloc _) (by have:=HB4.out;simp at this ⊢;omega) (by have:=HL4.out;omega) (Wn _ _ _) (by simp) (Jk HID.out.2.2.1) (HT.out.on (HA4.out.trans ((Gx.refl B w4).alloc HB4.out _)).1)).mono ?_
 rintro e w5 ⟨⟨v5,rfl,ho⟩,hg⟩
 have HO5:Hid (Own B w5 v5 (b4++Q6 [x.to] [x.to].length)):=ho
 have HG5:Hid (Gx B w4 w5):=((Gx.refl B w4).alloc HB4.out _).trans hg
 clear ho hg
 have HA5:Hid (Gx B w w5):=HA4.out.trans HG5.out
 have HB5:Hid (B<=w5.heap.size):=Nat.le_trans HB4.out HG5.out.1.size
 have HL5:Hid ((b4++Q6 [x.to] [x.to].length).length<=b0.length+39):=by
  have h1:=HL4.out
  unfold Hid
  have h2:=Qq (Jk HID.out.2.2.1) _ (Nat.le_refl [x.to].length)
  rw[List.length_append]
  try simp only[List.length_cons,List.length_nil] at h2 ⊢
  omega
 have BA5:=BA4.keep HG5.out
 generalize hb5:b4++Q6 [x.to] [x.to].length=b5 at *
 have HE5:Hid (b4++Q6 [x.to] [x.to].length=b5):=hb5
 clear hb5
 go_wp2_with (at_builtin;refine wpList_append_own _ rfl _ _ 22 rfl B 5 i0 (.int .u8 0) 1 1 Tryz.underlying22 hi hz0 hz1 hz2 rfl (by decide) _ _ _ rfl (HO5.out.alloc _) ⟨w5.heap.size,0,none⟩ 1 1 [Value.int .u8 ((10:UInt8).toNat:Int)] rfl rfl ?c1 ?c2 ?c3 ?c4 ?c5 ?_)
 case c1=>
  intro j u hj
  match j,hj with
  |0,hj=>simp at hj;subst hj;simp[Addr.add]
 case c2=>intro u hu;simp at hu;subst hu;rfl
 case c3=>have:=HL5.out;unfold maxLen;omega
 case c4=>have:=HL5.out;omega
 case c5=>have:=HB5.out;simp;omega
 intro v' w' hown' hgrow _
 have HO':Hid (Own B w' v' (b5++[10])):=Own.snoc hown'
 have HG':Hid (Gx B w w'):=(HA5.out.alloc HB5.out _).grown (HO5.out.alloc _) hgrow (by have:=HB5.out;simp;omega)
 clear hown' hgrow
 go_wp2
 go_ret
 exact⟨⟨_,rfl,by have e1:=HE1.out;have e2:=HE2.out;have e3:=HE3.out;have e4:=HE4.out;have e5:=HE5.out;subst e1 e2 e3 e4 e5;simp only[List.append_assoc] at HO' ⊢;exact HO'.out⟩,HG'.out⟩
theorem G1 (B:Nat)(v0:Value)(b0:List UInt8)(x:Rl)(vz:Value)(w:World)(hown:Own B w v0 b0)(hB:B<=w.heap.size)(hl:b0.length<=380000)(hz:Ji B w vz x.ways)(hzl:x.ways.length<=100)(hsm:small x.ways)
  (hid:0<=x.id/\x.id<=1048576) (hfr:0<=x.frm/\x.frm<=1048576) (hto:0<=x.to/\x.to<=1048576) (hnd:0<=x.node/\x.node<=1048576) (ht:Tab B w) :
  Calls Tryz.prog 18 #[v0,.agg #[.int .i64 x.id,.bool false,.int .i64 x.frm,.int .i64 x.to,.bool false,.int .i64 x.node,vz]] w λe w'=>(∃v',e=.returned v'/\Own B w' v' (b0++([110,111]++(Q6 [x.id,x.frm] [x.id,x.frm].length++([32,98,121]++(Q6 x.ways x.ways.length++(Q6 [x.to] [x.to].length++[10])))))))  /\ Gx B w w':=by
 obtain⟨i0,hi,hz0,hz1,hz2⟩:=info_parts Yd
 have HZN:Hid (Ji B w vz x.ways):=hz
 have HSM:Hid (small x.ways):=hsm
 have HT:Hid (Tab B w):=ht
 have HID:Hid ((0<=x.id/\x.id<=1048576)/\(0<=x.frm/\x.frm<=1048576)/\(0<=x.to/\x.to<=1048576)/\(0<=x.node/\x.node<=1048576)):=⟨hid,hfr,hto,hnd⟩
 have HO0:Hid (Own B (w.alloc (.cells #[.int .i64 x.id,.bool false,.int .i64 x.frm,.int .i64 x.to,.bool false,.int .i64 x.node,vz] 48)) v0 b0):=hown.alloc _
 have HA0:Hid (Gx B w (w.alloc (.cells #[.int .i64 x.id,.bool false,.int .i64 x.frm,.int .i64 x.to,.bool false,.int .i64 x.node,vz] 48))):=(Gx.refl B w).alloc hB _
 have HB0:Hid (B<=(w.alloc (.cells #[.int .i64 x.id,.bool false,.int .i64 x.frm,.int .i64 x.to,.bool false,.int .i64 x.node,vz] 48)).heap.size):=HA0.out.1.size |> Nat.le_trans hB
 have HL0:Hid (b0.length<=b0.length+0):=Nat.le_refl _
 have BA0:Zs (w.alloc (.cells #[.int .i64 x.id,.bool false,.int .i64 x.frm,.int .i64 x.to,.bool false,.int .i64 x.node,vz] 48)) w.heap.size #[.int .i64 x.id,.bool false,.int .i64 x.frm,.int .i64 x.to,.bool false,.int .i64 x.node,vz]:=Zs.new _ _ _ _ (by decide) rfl
 clear hown hid hfr hto hnd hz hsm ht
 go_enter Tryz.func18,Tryz.ntmps18
 go_wp2_with (at_builtin;refine Lib.wpList_append_own_string _ rfl _ _ 22 9 rfl B 5 i0 Tryz.underlying22 Tryz.underlying9 hi hz0 hz1 hz2 _ _ _ rfl HO0.out ⟨#[110,111]⟩ rfl ?la1 ?lb1 HB0.out ?_)
 case la1=>have:=HL0.out;simp only[ByteArray.size];unfold maxLen;simp;omega
 case lb1=>have:=HL0.out;simp[ByteArray.size];omega
 intro v1 w1 hown' hgrow _
 have HO1:Hid (Own B w1 v1 (b0++[110,111])):=Own.str hown'
 have HG1:Hid (Gx B (w.alloc (.cells #[.int .i64 x.id,.bool false,.int .i64 x.frm,.int .i64 x.to,.bool false,.int .i64 x.node,vz] 48)) w1):=(Gx.refl B (w.alloc (.cells #[.int .i64 x.id,.bool false,.int .i64 x.frm,.int .i64 x.to,.bool false,.int .i64 x.node,vz] 48))).grown HO0.out hgrow HB0.out
 clear hown' hgrow
 have HA1:Hid (Gx B w w1):=HA0.out.trans HG1.out
 have HB1:Hid (B<=w1.heap.size):=Nat.le_trans HB0.out HG1.out.1.size
 have HL1:Hid ((b0++[110,111]).length<=b0.length+2):=by
  have h1:=HL0.out
  unfold Hid
  simp only[List.length_append,List.length_cons,List.length_nil]
  omega
 have BA1:=BA0.keep HG1.out
 generalize hb1:b0++[110,111]=b1 at *
 have HE1:Hid (b0++[110,111]=b1):=hb1
 clear hb1
 have kk0:=BA1.blk.cell (i:=0) rfl
 have kk2:=BA1.blk.cell (i:=2) rfl
 go_wp2_with fail
 refine(Qm B _ b1 _ [x.id,x.frm] _ (HO1.out.alloc _) (by have:=HB1.out;simp at this ⊢;omega) (by have:=HL1.out;omega) (A9 _ _ _ _) (by simp) (Zj HID.out.1 HID.out.2.1) (HT.out.on (HA1.out.trans ((Gx.refl B w1).alloc HB1.out _)).1)).mono ?_
 rintro e w2 ⟨⟨v2,rfl,ho⟩,hg⟩
 have HO2:Hid (Own B w2 v2 (b1++Q6 [x.id,x.frm] [x.id,x.frm].length)):=ho
 have HG2:Hid (Gx B w1 w2):=((Gx.refl B w1).alloc HB1.out _).trans hg
 clear ho hg
 have HA2:Hid (Gx B w w2):=HA1.out.trans HG2.out
 have HB2:Hid (B<=w2.heap.size):=Nat.le_trans HB1.out HG2.out.1.size
 have HL2:Hid ((b1++Q6 [x.id,x.frm] [x.id,x.frm].length).length<=b0.length+18):=by
  have h1:=HL1.out
  unfold Hid
  have h2:=Qq (Zj HID.out.1 HID.out.2.1) _ (Nat.le_refl [x.id,x.frm].length)
  rw[List.length_append]
  try simp only[List.length_cons,List.length_nil] at h2 ⊢
  omega
 have BA2:=BA1.keep HG2.out
 generalize hb2:b1++Q6 [x.id,x.frm] [x.id,x.frm].length=b2 at *
 have HE2:Hid (b1++Q6 [x.id,x.frm] [x.id,x.frm].length=b2):=hb2
 clear hb2
 have kk4:=BA2.blk.cell (i:=4) rfl
 go_wp2_with (at_builtin;refine Lib.wpList_append_own_string _ rfl _ _ 22 9 rfl B 5 i0 Tryz.underlying22 Tryz.underlying9 hi hz0 hz1 hz2 _ _ _ rfl HO2.out ⟨#[32,98,121]⟩ rfl ?la3 ?lb3 HB2.out ?_)
 case la3=>have:=HL2.out;simp only[ByteArray.size];unfold maxLen;simp;omega
 case lb3=>have:=HL2.out;simp[ByteArray.size];omega
 intro v3 w3 hown' hgrow _
 have HO3:Hid (Own B w3 v3 (b2++[32,98,121])):=Own.str hown'
 have HG3:Hid (Gx B w2 w3):=(Gx.refl B w2).grown HO2.out hgrow HB2.out
 clear hown' hgrow
 have HA3:Hid (Gx B w w3):=HA2.out.trans HG3.out
 have HB3:Hid (B<=w3.heap.size):=Nat.le_trans HB2.out HG3.out.1.size
 have HL3:Hid ((b2++[32,98,121]).length<=b0.length+21):=by
  have h1:=HL2.out
  unfold Hid
  simp only[List.length_append,List.length_cons,List.length_nil]
  omega
 have BA3:=BA2.keep HG3.out
 generalize hb3:b2++[32,98,121]=b3 at *
 have HE3:Hid (b2++[32,98,121]=b3):=hb3
 clear hb3
 have kk6:=BA3.blk.cell (i:=6) rfl
 go_wp2_with fail
 refine(Qm B _ b3 _ x.ways _ HO3.out HB3.out (by have:=HL3.out;omega) (HZN.out.keep HA3.out) (by omega) HSM.out (HT.out.on (HA3.out.trans (Gx.refl B w3)).1)).mono ?_
 rintro e w4 ⟨⟨v4,rfl,ho⟩,hg⟩
 have HO4:Hid (Own B w4 v4 (b3++Q6 x.ways x.ways.length)):=ho
 have HG4:Hid (Gx B w3 w4):=(Gx.refl B w3).trans hg
 clear ho hg
 have HA4:Hid (Gx B w w4):=HA3.out.trans HG4.out
 have HB4:Hid (B<=w4.heap.size):=Nat.le_trans HB3.out HG4.out.1.size
 have HL4:Hid ((b3++Q6 x.ways x.ways.length).length<=b0.length+821):=by
  have h1:=HL3.out
  unfold Hid
  have h2:=Qq HSM.out _ (Nat.le_refl x.ways.length)
  rw[List.length_append]
  try simp only[List.length_cons,List.length_nil] at h2 ⊢
  omega
 have BA4:=BA3.keep HG4.out
 generalize hb4:b3++Q6 x.ways x.ways.length=b4 at *
 have HE4:Hid (b3++Q6 x.ways x.ways.length=b4):=hb4
 clear hb4
 have kk3:=BA4.blk.cell (i:=3) rfl
 go_wp2_with fail
 refine(Qm B _ b4 _ [x.to] _ (HO4.out.alloc _) (by have:=HB4.out;simp at this ⊢;omega) (by have:=HL4.out;omega) (Wn _ _ _) (by simp) (Jk HID.out.2.2.1) (HT.out.on (HA4.out.trans ((Gx.refl B w4).alloc HB4.out _)).1)).mono ?_
 rintro e w5 ⟨⟨v5,rfl,ho⟩,hg⟩
 have HO5:Hid (Own B w5 v5 (b4++Q6 [x.to] [x.to].length)):=ho
 have HG5:Hid (Gx B w4 w5):=((Gx.refl B w4).alloc HB4.out _).trans hg
 clear ho hg
 have HA5:Hid (Gx B w w5):=HA4.out.trans HG5.out
 have HB5:Hid (B<=w5.heap.size):=Nat.le_trans HB4.out HG5.out.1.size
 have HL5:Hid ((b4++Q6 [x.to] [x.to].length).length<=b0.length+829):=by
  have h1:=HL4.out
  unfold Hid
  have h2:=Qq (Jk HID.out.2.2.1) _ (Nat.le_refl [x.to].length)
  rw[List.length_append]
  try simp only[List.length_cons,List.length_nil] at h2 ⊢
  omega
 have BA5:=BA4.keep HG5.out
 generalize hb5:b4++Q6 [x.to] [x.to].length=b5 at *
 have HE5:Hid (b4++Q6 [x.to] [x.to].length=b5):=hb5
 clear hb5
 go_wp2_with (at_builtin;refine wpList_append_own _ rfl _ _ 22 rfl B 5 i0 (.int .u8 0) 1 1 Tryz.underlying22 hi hz0 hz1 hz2 rfl (by decide) _ _ _ rfl (HO5.out.alloc _) ⟨w5.heap.size,0,none⟩ 1 1 [Value.int .u8 ((10:UInt8).toNat:Int)] rfl rfl ?c1 ?c2 ?c3 ?c4 ?c5 ?_)
 case c1=>
  intro j u hj
  match j,hj with
  |0,hj=>simp at hj;subst hj;simp[Addr.add]
 case c2=>intro u hu;simp at hu;subst hu;rfl
 case c3=>have:=HL5.out;unfold maxLen;omega
 case c4=>have:=HL5.out;omega
 case c5=>have:=HB5.out;simp;omega
 intro v' w' hown' hgrow _
 have HO':Hid (Own B w' v' (b5++[10])):=Own.snoc hown'
 have HG':Hid (Gx B w w'):=(HA5.out.alloc HB5.out _).grown (HO5.out.alloc _) hgrow (by have:=HB5.out;simp;omega)
 clear hown' hgrow
 go_wp2
 go_ret
 exact⟨⟨_,rfl,by have e1:=HE1.out;have e2:=HE2.out;have e3:=HE3.out;have e4:=HE4.out;have e5:=HE5.out;subst e1 e2 e3 e4 e5;simp only[List.append_assoc] at HO' ⊢;exact HO'.out⟩,HG'.out⟩
theorem Kn (B:Nat)(v0:Value)(b0:List UInt8)(x:Rl)(vz:Value)(w:World)(hown:Own B w v0 b0)(hB:B<=w.heap.size)(hl:b0.length<=380000)(hz:Ji B w vz x.ways)(hzl:x.ways.length<=100)(hsm:small x.ways)
  (hid:0<=x.id/\x.id<=1048576) (hfr:0<=x.frm/\x.frm<=1048576) (hto:0<=x.to/\x.to<=1048576) (hnd:0<=x.node/\x.node<=1048576) (ht:Tab B w) :
  Calls Tryz.prog 18 #[v0,.agg #[.int .i64 x.id,.bool true,.int .i64 x.frm,.int .i64 x.to,.bool false,.int .i64 x.node,vz]] w λe w'=>(∃v',e=.returned v'/\Own B w' v' (b0++([111,110,108,121]++(Q6 [x.id,x.frm] [x.id,x.frm].length++([32,98,121]++(Q6 x.ways x.ways.length++(Q6 [x.to] [x.to].length++[10])))))))  /\ Gx B w w':=by
 obtain⟨i0,hi,hz0,hz1,hz2⟩:=info_parts Yd
 have HZN:Hid (Ji B w vz x.ways):=hz
 have HSM:Hid (small x.ways):=hsm
 have HT:Hid (Tab B w):=ht
 have HID:Hid ((0<=x.id/\x.id<=1048576)/\(0<=x.frm/\x.frm<=1048576)/\(0<=x.to/\x.to<=1048576)/\(0<=x.node/\x.node<=1048576)):=⟨hid,hfr,hto,hnd⟩
 have HO0:Hid (Own B (w.alloc (.cells #[.int .i64 x.id,.bool true,.int .i64 x.frm,.int .i64 x.to,.bool false,.int .i64 x.node,vz] 48)) v0 b0):=hown.alloc _
 have HA0:Hid (Gx B w (w.alloc (.cells #[.int .i64 x.id,.bool true,.int .i64 x.frm,.int .i64 x.to,.bool false,.int .i64 x.node,vz] 48))):=(Gx.refl B w).alloc hB _
 have HB0:Hid (B<=(w.alloc (.cells #[.int .i64 x.id,.bool true,.int .i64 x.frm,.int .i64 x.to,.bool false,.int .i64 x.node,vz] 48)).heap.size):=HA0.out.1.size |> Nat.le_trans hB
 have HL0:Hid (b0.length<=b0.length+0):=Nat.le_refl _
 have BA0:Zs (w.alloc (.cells #[.int .i64 x.id,.bool true,.int .i64 x.frm,.int .i64 x.to,.bool false,.int .i64 x.node,vz] 48)) w.heap.size #[.int .i64 x.id,.bool true,.int .i64 x.frm,.int .i64 x.to,.bool false,.int .i64 x.node,vz]:=Zs.new _ _ _ _ (by decide) rfl
 clear hown hid hfr hto hnd hz hsm ht
 go_enter Tryz.func18,Tryz.ntmps18
 go_wp2_with (at_builtin;refine Lib.wpList_append_own_string _ rfl _ _ 22 9 rfl B 5 i0 Tryz.underlying22 Tryz.underlying9 hi hz0 hz1 hz2 _ _ _ rfl HO0.out ⟨#[111,110,108,121]⟩ rfl ?la1 ?lb1 HB0.out ?_)
 case la1=>have:=HL0.out;simp only[ByteArray.size];unfold maxLen;simp;omega
 case lb1=>have:=HL0.out;simp[ByteArray.size];omega
 intro v1 w1 hown' hgrow _
 have HO1:Hid (Own B w1 v1 (b0++[111,110,108,121])):=Own.str hown'
 have HG1:Hid (Gx B (w.alloc (.cells #[.int .i64 x.id,.bool true,.int .i64 x.frm,.int .i64 x.to,.bool false,.int .i64 x.node,vz] 48)) w1):=(Gx.refl B (w.alloc (.cells #[.int .i64 x.id,.bool true,.int .i64 x.frm,.int .i64 x.to,.bool false,.int .i64 x.node,vz] 48))).grown HO0.out hgrow HB0.out
 clear hown' hgrow
 have HA1:Hid (Gx B w w1):=HA0.out.trans HG1.out
 have HB1:Hid (B<=w1.heap.size):=Nat.le_trans HB0.out HG1.out.1.size
 have HL1:Hid ((b0++[111,110,108,121]).length<=b0.length+4):=by
  have h1:=HL0.out
  unfold Hid
  simp only[List.length_append,List.length_cons,List.length_nil]
  omega
 have BA1:=BA0.keep HG1.out
 generalize hb1:b0++[111,110,108,121]=b1 at *
 have HE1:Hid (b0++[111,110,108,121]=b1):=hb1
 clear hb1
 have kk0:=BA1.blk.cell (i:=0) rfl
 have kk2:=BA1.blk.cell (i:=2) rfl
 go_wp2_with fail
 refine(Qm B _ b1 _ [x.id,x.frm] _ (HO1.out.alloc _) (by have:=HB1.out;simp at this ⊢;omega) (by have:=HL1.out;omega) (A9 _ _ _ _) (by simp) (Zj HID.out.1 HID.out.2.1) (HT.out.on (HA1.out.trans ((Gx.refl B w1).alloc HB1.out _)).1)).mono ?_
 rintro e w2 ⟨⟨v2,rfl,ho⟩,hg⟩
 have HO2:Hid (Own B w2 v2 (b1++Q6 [x.id,x.frm] [x.id,x.frm].length)):=ho
 have HG2:Hid (Gx B w1 w2):=((Gx.refl B w1).alloc HB1.out _).trans hg
 clear ho hg
 have HA2:Hid (Gx B w w2):=HA1.out.trans HG2.out
 have HB2:Hid (B<=w2.heap.size):=Nat.le_trans HB1.out HG2.out.1.size
 have HL2:Hid ((b1++Q6 [x.id,x.frm] [x.id,x.frm].length).length<=b0.length+20):=by
  have h1:=HL1.out
  unfold Hid
  have h2:=Qq (Zj HID.out.1 HID.out.2.1) _ (Nat.le_refl [x.id,x.frm].length)
  rw[List.length_append]
  try simp only[List.length_cons,List.length_nil] at h2 ⊢
  omega
 have BA2:=BA1.keep HG2.out
 generalize hb2:b1++Q6 [x.id,x.frm] [x.id,x.frm].length=b2 at *
 have HE2:Hid (b1++Q6 [x.id,x.frm] [x.id,x.frm].length=b2):=hb2
 clear hb2
 have kk4:=BA2.blk.cell (i:=4) rfl
 go_wp2_with (at_builtin;refine Lib.wpList_append_own_string _ rfl _ _ 22 9 rfl B 5 i0 Tryz.underlying22 Tryz.underlying9 hi hz0 hz1 hz2 _ _ _ rfl HO2.out ⟨#[32,98,121]⟩ rfl ?la3 ?lb3 HB2.out ?_)
 case la3=>have:=HL2.out;simp only[ByteArray.size];unfold maxLen;simp;omega
 case lb3=>have:=HL2.out;simp[ByteArray.size];omega
 intro v3 w3 hown' hgrow _
 have HO3:Hid (Own B w3 v3 (b2++[32,98,121])):=Own.str hown'
 have HG3:Hid (Gx B w2 w3):=(Gx.refl B w2).grown HO2.out hgrow HB2.out
 clear hown' hgrow
 have HA3:Hid (Gx B w w3):=HA2.out.trans HG3.out
 have HB3:Hid (B<=w3.heap.size):=Nat.le_trans HB2.out HG3.out.1.size
 have HL3:Hid ((b2++[32,98,121]).length<=b0.length+23):=by
  have h1:=HL2.out
  unfold Hid
  simp only[List.length_append,List.length_cons,List.length_nil]
  omega
 have BA3:=BA2.keep HG3.out
 generalize hb3:b2++[32,98,121]=b3 at *
 have HE3:Hid (b2++[32,98,121]=b3):=hb3
 clear hb3
 have kk6:=BA3.blk.cell (i:=6) rfl
 go_wp2_with fail
 refine(Qm B _ b3 _ x.ways _ HO3.out HB3.out (by have:=HL3.out;omega) (HZN.out.keep HA3.out) (by omega) HSM.out (HT.out.on (HA3.out.trans (Gx.refl B w3)).1)).mono ?_
 rintro e w4 ⟨⟨v4,rfl,ho⟩,hg⟩
 have HO4:Hid (Own B w4 v4 (b3++Q6 x.ways x.ways.length)):=ho
 have HG4:Hid (Gx B w3 w4):=(Gx.refl B w3).trans hg
 clear ho hg
 have HA4:Hid (Gx B w w4):=HA3.out.trans HG4.out
 have HB4:Hid (B<=w4.heap.size):=Nat.le_trans HB3.out HG4.out.1.size
 have HL4:Hid ((b3++Q6 x.ways x.ways.length).length<=b0.length+823):=by
  have h1:=HL3.out
  unfold Hid
  have h2:=Qq HSM.out _ (Nat.le_refl x.ways.length)
  rw[List.length_append]
  try simp only[List.length_cons,List.length_nil] at h2 ⊢
  omega
 have BA4:=BA3.keep HG4.out
 generalize hb4:b3++Q6 x.ways x.ways.length=b4 at *
 have HE4:Hid (b3++Q6 x.ways x.ways.length=b4):=hb4
 clear hb4
 have kk3:=BA4.blk.cell (i:=3) rfl
 go_wp2_with fail
 refine(Qm B _ b4 _ [x.to] _ (HO4.out.alloc _) (by have:=HB4.out;simp at this ⊢;omega) (by have:=HL4.out;omega) (Wn _ _ _) (by simp) (Jk HID.out.2.2.1) (HT.out.on (HA4.out.trans ((Gx.refl B w4).alloc HB4.out _)).1)).mono ?_
 rintro e w5 ⟨⟨v5,rfl,ho⟩,hg⟩
 have HO5:Hid (Own B w5 v5 (b4++Q6 [x.to] [x.to].length)):=ho
 have HG5:Hid (Gx B w4 w5):=((Gx.refl B w4).alloc HB4.out _).trans hg
 clear ho hg
 have HA5:Hid (Gx B w w5):=HA4.out.trans HG5.out
 have HB5:Hid (B<=w5.heap.size):=Nat.le_trans HB4.out HG5.out.1.size
 have HL5:Hid ((b4++Q6 [x.to] [x.to].length).length<=b0.length+831):=by
  have h1:=HL4.out
  unfold Hid
  have h2:=Qq (Jk HID.out.2.2.1) _ (Nat.le_refl [x.to].length)
  rw[List.length_append]
  try simp only[List.length_cons,List.length_nil] at h2 ⊢
  omega
 have BA5:=BA4.keep HG5.out
 generalize hb5:b4++Q6 [x.to] [x.to].length=b5 at *
 have HE5:Hid (b4++Q6 [x.to] [x.to].length=b5):=hb5
 clear hb5
 go_wp2_with (at_builtin;refine wpList_append_own _ rfl _ _ 22 rfl B 5 i0 (.int .u8 0) 1 1 Tryz.underlying22 hi hz0 hz1 hz2 rfl (by decide) _ _ _ rfl (HO5.out.alloc _) ⟨w5.heap.size,0,none⟩ 1 1 [Value.int .u8 ((10:UInt8).toNat:Int)] rfl rfl ?c1 ?c2 ?c3 ?c4 ?c5 ?_)
 case c1=>
  intro j u hj
  match j,hj with
  |0,hj=>simp at hj;subst hj;simp[Addr.add]
 case c2=>intro u hu;simp at hu;subst hu;rfl
 case c3=>have:=HL5.out;unfold maxLen;omega
 case c4=>have:=HL5.out;omega
 case c5=>have:=HB5.out;simp;omega
 intro v' w' hown' hgrow _
 have HO':Hid (Own B w' v' (b5++[10])):=Own.snoc hown'
 have HG':Hid (Gx B w w'):=(HA5.out.alloc HB5.out _).grown (HO5.out.alloc _) hgrow (by have:=HB5.out;simp;omega)
 clear hown' hgrow
 go_wp2
 go_ret
 exact⟨⟨_,rfl,by have e1:=HE1.out;have e2:=HE2.out;have e3:=HE3.out;have e4:=HE4.out;have e5:=HE5.out;subst e1 e2 e3 e4 e5;simp only[List.append_assoc] at HO' ⊢;exact HO'.out⟩,HG'.out⟩
end Go.Proofs.YtmmolhlihhdkcaaGreatDoor
namespace Go.Proofs.YtmmolhlihhdkcaaGreatDoor
open Go.RowKit Go.Lib
set_option linter.unusedVariables false
set_option maxRecDepth 1000000
set_option maxHeartbeats 16000000
theorem Iv (w:World)(B:Nat)(t u ty e:TypeId)(i:TypeInfo)(ht:Tryz.prog.underlying t=some (.slice e))(hu:Tryz.prog.underlying u=some .string)(hi:Tryz.prog.info? e=some i)(hz:i.zero=some (.int .u8 0))
  (hsize:i.size=1) (hby:i.bytes=1) (g n:Nat) (xs:List Value) (hxl:xs.length=n) (hold:∀j u,xs[j]?=some u->w.cell? ((⟨g,0,none⟩:Addr).add j)=some u) (s:ByteArray) (hs0:0<s.size) (hn:n+s.size<=1048576) (hbase:B<=w.heap.size) :
  ∃v' w',(Builtin.append_ #[t,u] ty #[.slice (some ⟨g,0,none⟩) n n,.string s]).run Tryz.prog w=.ok v' w'/\w'.ownsRow B e 1 v' (n+s.size) (xs++strCells s)/\w.grownBy w' none:=by
 have h63:n+s.size<=maxLen:=by simp only[maxLen];omega
 have hlen:(xs++strCells s).length=(n+s.size)*1:=by rw[List.length_append,hxl,strCells_length,Nat.mul_one]
 have hge:=grownCap_ge w (n+s.size) n e
 have hcm:grownCap w (n+s.size) n e<=maxLen:=grownCap_le_maxLen w (n+s.size) n e h63
 have hr:=run_append_grow_string (P:=Tryz.prog) w t u ty e i (.int .u8 0) ht hu hi hz ⟨g,0,none⟩ n n xs (by rw[hsize];simpa using hxl) hold s (by omega) (by omega) (by rw[hby];exact growslice_fits (by omega) (by omega))
 refine⟨_,_,hr,⟨hlen,.inr ⟨w.heap.size,_,_,rfl,hbase,heap_alloc_new w.drew _,hge,hcm,?_,?_⟩⟩,⟨rfl,rfl,rfl,by simp,λk hk _=>heap_alloc_old w.drew _ hk⟩⟩
 ·have hz1:(Value.int IntKind.u8 0).cells.size=1:=rfl
  simp only[Array.size_append,List.size_toArray,size_zeroCells,hz1,hxl,strCells_length]
  omega
 ·simp only[Array.toList_append,List.append_assoc]
  rw[<-List.append_assoc,<-hlen]
  exact List.take_left
theorem Pb {w:World}{ops:Array Oper}{rest:List Oper}{o:Oper}{a:Act}{Q:Exit->Act->World->Prop}(hgd:o.guard=none)(sl x:Operand)(t u:TypeId)
  (ho:o.op=.call { callee:=.builtin .append,args:=#[sl,x],argTypes:=#[t,u] })
  (B:Nat) (e:TypeId) (i:TypeInfo) (ht:Tryz.prog.underlying t=some (.slice e)) (hu:Tryz.prog.underlying u=some .string) (hi:Tryz.prog.info? e=some i) (hz:i.zero=some (.int .u8 0))
  (hsize:i.size=1) (hby:i.bytes=1) (g n:Nat) (xs:List Value) (hs:a.eval sl=.slice (some ⟨g,0,none⟩) n n) (hxl:xs.length=n) (hold:∀j u,xs[j]?=some u->w.cell? ((⟨g,0,none⟩:Addr).add j)=some u)
  (s:ByteArray) (hx:a.eval x=.string s) (hs0:0<s.size) (hn:n+s.size<=1048576) (hbase:B<=w.heap.size)
  (h:∀v' w',w'.ownsRow B e 1 v' (n+s.size) (xs++strCells s)->w.grownBy w' none->wpList Tryz.prog ops Q rest (a.put o.dst v') w'):wpList Tryz.prog ops Q (o::rest) a w:=by
 refine wpList_plain hgd λK hK=>?_
 obtain⟨v',w',hr,h2,h3⟩:=Iv w B t u o.type e i ht hu hi hz hsize hby g n xs hxl hold s hs0 hn hbase
 unfold Oper.wp execOp
 simp only[ho,resolve,invoke,builtin,Sem.run_bind,Sem.run_pure,Result.andThen_ok,List.map_toArray,List.map_cons,List.map_nil,hs,hx,hr]
 exact hK _ _ (h v' w' h2 h3)
def Q4j (w:World)(g:Nat)(bs:List UInt8):Prop:=∀j u,(byteCells bs)[j]?=some u->w.cell? ((⟨g,0,none⟩:Addr).add j)=some u
theorem Gx.grown0 {B:Nat}{a w w':World}(h:Gx B a w)(hg:w.grownBy w' none)(hB:B<=w.heap.size):Gx B a w':=by
 refine⟨h.1.grown hg hB (λk hk=>by simp at hk),h.2.trans ?_⟩
 intro k o hk hb ho
 have hlt:k<w.heap.size:=(Array.getElem?_eq_some_iff.1 hk).1
 rw[hg.block k hlt (by simp)]
 exact hk
theorem Kl (bs:List UInt8):(byteCells bs).length=bs.length:=by simp[byteCells]
theorem G3 (B:Nat)(g:Nat)(bs:List UInt8)(s:ByteArray)(vz:Value)(zs:List Int)(w:World)(hf:Q4j w g bs)(hs0:0<s.size)(hB:B<=w.heap.size)(hl:bs.length<=390000)(hs:s.size<=100)(hz:Ji B w vz zs)(hzl:zs.length<=1000)(hsm:small zs)(ht:Tab B w) :
  Calls Tryz.prog 16 #[.slice (some ⟨g,0,none⟩) bs.length bs.length,.string s,vz] w λe w'=>(∃v',e=.returned v'/\Own B w' v' (bs++s.data.toList++Q6 zs zs.length++[10]))/\Gx B w w':=by
 obtain⟨i0,hi,hz0,hz1,hz2⟩:=info_parts Yd
 have HZN:Hid (Ji B w vz zs):=hz
 have HSM:Hid (small zs):=hsm
 have HT:Hid (Tab B w):=ht
 have HNL:Hid ((Q6 zs zs.length).length<=8*zs.length):=Qq hsm _ (Nat.le_refl _)
 have hsl:s.data.toList.length=s.size:=by simp
 have HSL:Hid (s.data.toList.length=s.size):=hsl
 have HF:Hid (Q4j w g bs):=hf
 clear hsm ht hz hsl hf
 go_enter Tryz.func16,Tryz.ntmps16
 go_wp2_with (at_builtin;refine Pb rfl _ _ 22 9 rfl B 5 i0 Tryz.underlying22 Tryz.underlying9 hi hz0 hz1 hz2 g bs.length (byteCells bs) rfl (Kl bs) HF.out s rfl hs0 ?l2 hB ?_)
 case l2=>omega
 ·intro v1 w1 hown' hgrow
  have HO1:Hid (Own B w1 v1 (bs++s.data.toList)):=Own.str hown'
  have HG1:Hid (Gx B w w1):=(Gx.refl B w).grown0 hgrow hB
  have HB1:Hid (B<=w1.heap.size):=Nat.le_trans hB HG1.out.1.size
  have HL1:Hid ((bs++s.data.toList).length<=390100):=by unfold Hid;rw[List.length_append,HSL.out];omega
  clear hown' hgrow
  go_wp2_with fail
  refine(Qm B _ (bs++s.data.toList) _ zs _ HO1.out HB1.out (by have:=HL1.out;omega) (HZN.out.keep HG1.out) hzl HSM.out (HT.out.on HG1.out.1)).mono ?_
  rintro e w2 ⟨⟨v2,rfl,ho⟩,hg⟩
  have HO2:Hid (Own B w2 v2 (bs++s.data.toList++Q6 zs zs.length)):=ho
  have HG2:Hid (Gx B w w2):=HG1.out.trans hg
  have HB2:Hid (B<=w2.heap.size):=Nat.le_trans hB HG2.out.1.size
  have HL2:Hid ((bs++s.data.toList++Q6 zs zs.length).length<=400000):=by
   have h1:=HL1.out
   have h2:=HNL.out
   unfold Hid
   rw[List.length_append]
   omega
  clear ho hg
  generalize hb2:bs++s.data.toList++Q6 zs zs.length=b2 at *
  have HE:Hid (bs++s.data.toList++Q6 zs zs.length=b2):=hb2
  clear hb2
  go_wp2_with (at_builtin;refine wpList_append_own _ rfl _ _ 22 rfl B 5 i0 (.int .u8 0) 1 1 Tryz.underlying22 hi hz0 hz1 hz2 rfl (by decide) _ _ _ rfl (HO2.out.alloc _) ⟨w2.heap.size,0,none⟩ 1 1 [Value.int .u8 ((10:UInt8).toNat:Int)] rfl rfl ?c1 ?c2 ?c3 ?c4 ?c5 ?_)
  case c1=>
   intro j u hj
   match j,hj with
   |0,hj=>simp at hj;subst hj;simp[Addr.add]
  case c2=>intro u hu;simp at hu;subst hu;rfl
  case c3=>have:=HL2.out;unfold maxLen;omega
  case c4=>have:=HL2.out;omega
  case c5=>have:=HB2.out;simp;omega
  ·intro v' w' hown' hgrow _
   have HO':Hid (Own B w' v' (b2++[10])):=Own.snoc hown'
   have HG':Hid (Gx B w w'):=(HG2.out.alloc HB2.out _).grown (HO2.out.alloc _) hgrow (by have:=HB2.out;simp;omega)
   clear hown' hgrow
   go_wp2
   go_ret
   exact⟨⟨_,rfl,by rw[HE.out];exact HO'.out⟩,HG'.out⟩
end Go.Proofs.YtmmolhlihhdkcaaGreatDoor
namespace Go.Proofs.YtmmolhlihhdkcaaGreatDoor
open Go.RowKit
set_option linter.unusedVariables false
set_option maxHeartbeats 16000000
def U0 (z:Int):List UInt8:=[110,111,100,101]++Q6 [z] [z].length++[10]
def Wg (x:Wy):List UInt8:=[119,97,121]++(Q6 [x.id] [x.id].length++((if x.both then [32,98] else [32,102])++(Q6 [iat x.nodes 0] [iat x.nodes 0].length++(Q6 (X9 x) (2*x.weights.length)++[10]))))
def Ud (x:Rl):List UInt8:=(if x.only then [111,110,108,121] else [110,111])++(Q6 [x.id,x.frm] [x.id,x.frm].length ++
 (if x.via then [32,97,116]++(Q6 [x.node] [x.node].length++(Q6 [x.to] [x.to].length++[10])) else [32,98,121]++(Q6 x.ways x.ways.length++(Q6 [x.to] [x.to].length++[10]))))
def Zy (x:Tn):List UInt8:=[116,117,114,110]++Q6 [x.frm,x.to,x.cost] [x.frm,x.to,x.cost].length++[10]
def Fo:List UInt8:=[114,111,97,100,110,101,116,32,49,10]
def Pk (u:Int):List UInt8:=Fo++[117,116,117,114,110]++Q6 [u] [u].length++[10]
def Pd (f:Nat->List UInt8):Nat->List UInt8
 |0=>[]
 |k+1=>Pd f k++f k
def Gh (zs:List Int)(k:Nat):List UInt8:=Pd (λi=>U0 (iat zs i)) k
def Ax (xs:List Wy)(k:Nat):List UInt8:=Pd (λi=>Wg (wat xs i)) k
def Q0b (xs:List Rl)(k:Nat):List UInt8:=Pd (λi=>Ud (rat xs i)) k
def G5 (xs:List Tn)(k:Nat):List UInt8:=Pd (λi=>Zy (tat xs i)) k
def t0 (N:Nt):List UInt8:=Pk N.uturn
def t1 (N:Nt)(k:Nat):List UInt8:=t0 N++Gh N.nodes k
def t2 (N:Nt)(k:Nat):List UInt8:=t1 N N.nodes.length++Ax N.ways k
def t3 (N:Nt)(k:Nat):List UInt8:=t2 N N.ways.length++Q0b N.rels k
def t4 (N:Nt)(k:Nat):List UInt8:=t3 N N.rels.length++G5 N.turns k
def Fa (N:Nt):List UInt8:=t4 N N.turns.length
def Xa (N:Nt):List UInt8:=if Qn N then Fa N else []
theorem Q51 (N:Nt):t1 N 0=t0 N:=by simp[t1,Gh,Pd]
theorem Q4z (N:Nt):t2 N 0=t1 N N.nodes.length:=by simp[t2,Ax,Pd]
theorem Q4x (N:Nt):t3 N 0=t2 N N.ways.length:=by simp[t3,Q0b,Pd]
theorem Q4v (N:Nt):t4 N 0=t3 N N.rels.length:=by simp[t4,G5,Pd]
theorem Q52 (N:Nt)(k:Nat):t1 N (k+1)=t1 N k++U0 (iat N.nodes k):=by simp[t1,Gh,Pd]
theorem Q50 (N:Nt)(k:Nat):t2 N (k+1)=t2 N k++Wg (wat N.ways k):=by simp[t2,Ax,Pd]
theorem Q4y (N:Nt)(k:Nat):t3 N (k+1)=t3 N k++Ud (rat N.rels k):=by simp[t3,Q0b,Pd]
theorem Q4w (N:Nt)(k:Nat):t4 N (k+1)=t4 N k++Zy (tat N.turns k):=by simp[t4,G5,Pd]
def In (x:Int):Prop:=0<=x/\x<=1048576
theorem Fk {x:Int}(h:inB x=true):In x:=by simpa [inB,In] using h
theorem Q5r {zs:List Int}{x:Int}(ha:∀i,i<zs.length->In (iat zs i))(h:Vw zs x=true):In x:=by
 unfold Vw at h
 rw[List.any_eq_true] at h
 obtain⟨y,hy,e⟩:=h
 obtain⟨i,hi,rfl⟩:=List.getElem_of_mem hy
 have:=ha i hi
 rw[V7 hi] at this
 rwa [<-(beq_iff_eq.1 e)]
theorem Uz {xs:List Wy}{x:Int}(ha:∀i,i<xs.length->In (wat xs i).id)(h:Ju xs x=true):In x:=by
 unfold Ju at h
 rw[List.any_eq_true] at h
 obtain⟨y,hy,e⟩:=h
 obtain⟨i,hi,rfl⟩:=List.getElem_of_mem hy
 have:=ha i hi
 rw[Us hi] at this
 rwa [<-(beq_iff_eq.1 e)]
structure Q68 (x:Wy):Prop where
 id:In x.id
 nodes:small x.nodes
 weights:small x.weights
 len:x.nodes.length=x.weights.length+1
 seg:x.weights.length<=100
structure Q4g (x:Rl):Prop where
 id:In x.id
 frm:In x.frm
 tt:In x.to
 node:In x.node
 ways:small x.ways
 len:x.ways.length<=4
structure Qay (x:Tn):Prop where
 frm:In x.frm
 tt:In x.to
 cost:In x.cost
structure E5 (N:Nt):Prop where
 ut:In N.uturn
 c0:N.nodes.length<=2000
 c1:N.ways.length<=2000
 c2:N.rels.length<=1000
 c3:N.turns.length<=2000
 ed:edTo N.ways N.ways.length<=4000
 nodes:∀i,i<N.nodes.length->In (iat N.nodes i)
 ways:∀i,i<N.ways.length->Q68 (wat N.ways i)
 rels:∀i,i<N.rels.length->Q4g (rat N.rels i)
 turns:∀i,i<N.turns.length->Qay (tat N.turns i)
theorem Q9j {N:Nt}(h:Qn N=true):E5 N:=by
 simp only[Qn,Xg,Bool.and_eq_true,decide_eq_true_eq] at h
 obtain⟨⟨c0,c1,ed,c2,c3⟩,hu,⟨_,hn⟩,⟨hw,_⟩,⟨hr,_⟩,ht,_⟩:=h
 have an:∀i,i<N.nodes.length->In (iat N.nodes i):=λi hi=>Fk (Xv hn hi)
 have aw:∀i,i<N.ways.length->Q68 (wat N.ways i):=λi hi=>by
  have:=Xv hw hi
  simp only[Qu,Jz,Bool.and_eq_true,decide_eq_true_eq] at this
  obtain⟨⟨⟨⟨⟨g0,g1⟩,g2⟩,g3⟩,g4⟩,g5⟩:=this
  exact⟨Fk g0,λj hj=>Q5r an (Xv g5 hj),λj hj=>Fk (Xv g4 hj),g3,g2⟩
 have ai:∀i,i<N.ways.length->In (wat N.ways i).id:=λi hi=>(aw i hi).id
 refine⟨Fk hu,c0,c1,c2,c3,ed,an,aw,λi hi=>?_,λi hi=>?_⟩
 ·have:=Xv hr hi
  simp only[J1,Qy,Bool.and_eq_true] at this
  obtain⟨g0,g1,g2,g3⟩:=this
  by_cases hv:(rat N.rels i).via=true
  ·rw[if_pos hv] at g3
   simp only[Bool.and_eq_true,decide_eq_true_eq] at g3
   exact⟨Fk g0,Uz ai g1,Uz ai g2,Q5r an g3.2,λj hj=>by omega,by omega⟩
  ·rw[if_neg hv] at g3
   simp only[Bool.and_eq_true,decide_eq_true_eq,beq_iff_eq] at g3
   exact⟨Fk g0,Uz ai g1,Uz ai g2,by rw[g3.1];exact⟨by omega,by omega⟩,λj hj=>Uz ai (Xv g3.2.2.2 hj),g3.2.2.1⟩
 ·have:=Xv ht hi
  simp only[Xc,Bool.and_eq_true] at this
  exact⟨Uz ai this.1,Uz ai this.2.1,Fk this.2.2⟩
theorem Q8m {x y z:Int}(h:In x)(h':In y)(h'':In z):small [x,y,z]:=by
 intro i hi
 match i,hi with
 |0,_=>exact h
 |1,_=>exact h'
 |2,_=>exact h''
theorem Q3v {z:Int}(h:In z):(U0 z).length<=13:=by
 have:=Qq (Jk h) [z].length (Nat.le_refl _)
 simp only[U0,List.length_append,List.length_cons,List.length_nil] at *;omega
theorem Q3y {z:Int}(h:In z):(Pk z).length<=24:=by
 have:=Qq (Jk h) [z].length (Nat.le_refl _)
 simp only[Pk,Fo,List.length_append,List.length_cons,List.length_nil] at *;omega
theorem Q39 {x:Tn}(h:Qay x):(Zy x).length<=29:=by
 have:=Qq (Q8m h.frm h.tt h.cost) [x.frm,x.to,x.cost].length (Nat.le_refl _)
 simp only[Zy,List.length_append,List.length_cons,List.length_nil] at *;omega
theorem Q6c {x:Wy}(h:Q68 x):(Wg x).length<=22+16*x.weights.length:=by
 have a:=Qq (Jk h.id) [x.id].length (Nat.le_refl _)
 have b:=Qq (Jk (h.nodes 0 (by rw[h.len];omega))) [iat x.nodes 0].length (Nat.le_refl _)
 have c:=Qq (Wl h.nodes h.weights h.len) (2*x.weights.length) (by rw[Ue];exact Nat.le_refl _)
 have d:(if x.both then [32,98] else [32,102]:List UInt8).length=2:=by split<;>rfl
 simp only[Wg,List.length_append,List.length_cons,List.length_nil] at *;omega
theorem Q6w {x:Rl}(h:Q4g x):(Ud x).length<=64:=by
 have a:=Qq (Zj h.id h.frm) [x.id,x.frm].length (Nat.le_refl _)
 have b:=Qq (Jk h.node) [x.node].length (Nat.le_refl _)
 have c:=Qq (Jk h.tt) [x.to].length (Nat.le_refl _)
 have d:=Qq h.ways x.ways.length (Nat.le_refl _)
 have l:=h.len
 have e:(if x.only then [111,110,108,121] else [110,111]:List UInt8).length<=4:=by split<;>simp
 cases hv:x.via
 all_goals
  simp only[Ud,hv,if_true,Bool.false_eq_true,if_false,List.length_append,List.length_cons,List.length_nil] at *
  omega
theorem Q8h {N:Nt}(h:E5 N)(k:Nat)(hk:k<=N.nodes.length):(t1 N k).length<=24+13*k:=by
 induction k with
 |zero=>rw[Q51];exact Q3y h.ut
 |succ k ih=>rw[Q52,List.length_append];have:=ih (by omega);have:=Q3v (h.nodes k (by omega));omega
theorem Qdh {N:Nt}(h:E5 N)(k:Nat)(hk:k<=N.ways.length):(t2 N k).length<=26024+22*k+16*edTo N.ways k:=by
 induction k with
 |zero=>rw[Q4z];have:=Q8h h _ (Nat.le_refl _);have:=h.c0;omega
 |succ k ih=>
  rw[Q50,List.length_append]
  have:=ih (by omega)
  have:=Q6c (h.ways k (by omega))
  have:(wat N.ways k).weights.length<=Tz (wat N.ways k):=by unfold Tz;split<;>omega
  simp only[edTo]
  omega
theorem Q40 (xs:List Wy){j k:Nat}(h:j<=k):edTo xs j<=edTo xs k:=by
 induction k with
 |zero=>simp at h;subst h;exact Nat.le_refl _
 |succ k ih=>
  rcases Nat.lt_succ_iff_lt_or_eq.1 (Nat.lt_succ_of_le h) with h1|rfl
  ·have:=ih (by omega);simp only[edTo];omega
  ·exact Nat.le_refl _
theorem Q8g {N:Nt}(h:E5 N)(k:Nat)(hk:k<=N.ways.length):(t2 N k).length<=134024:=by
 have:=Qdh h k hk
 have:=Q40 N.ways hk
 have:=h.ed
 have:=h.c1
 omega
theorem Q8f {N:Nt}(h:E5 N)(k:Nat)(hk:k<=N.rels.length):(t3 N k).length<=134024+64*k:=by
 induction k with
 |zero=>rw[Q4x];exact Q8g h _ (Nat.le_refl _)
 |succ k ih=>rw[Q4y,List.length_append];have:=ih (by omega);have:=Q6w (h.rels k (by omega));omega
theorem Q8e {N:Nt}(h:E5 N)(k:Nat)(hk:k<=N.turns.length):(t4 N k).length<=198024+29*k:=by
 induction k with
 |zero=>rw[Q4v];have:=Q8f h _ (Nat.le_refl _);have:=h.c2;omega
 |succ k ih=>rw[Q4w,List.length_append];have:=ih (by omega);have:=Q39 (h.turns k (by omega));omega
end Go.Proofs.YtmmolhlihhdkcaaGreatDoor
namespace Go.Proofs.YtmmolhlihhdkcaaGreatDoor
open Go.RowKit
set_option linter.unusedVariables false
set_option maxRecDepth 1000000
set_option maxHeartbeats 16000000
theorem nums3 (B:Nat)(w:World)(x y z:Int):Ji B (w.alloc (.cells #[.int .i64 x,.int .i64 y,.int .i64 z] 2)) (.slice (some ⟨w.heap.size,0,none⟩) 3 3) [x,y,z]:=by
 refine⟨_,_,rfl,by simp[maxLen],λ_=>⟨w.heap.size,0,rfl,Nat.zero_le _,by simp,λi hi=>⟨Or.inr ⟨#[.int .i64 x,.int .i64 y,.int .i64 z],2,(0,0),by decide,by show(w.heap.push _)[w.heap.size]?=_;simp⟩,?_⟩⟩⟩
 simp only[List.length_cons,List.length_nil] at hi
 rcases (show i=0\/i=1\/i=2 by omega) with rfl|rfl|rfl<;>simp[iat]
theorem Es (B:Nat)(v0:Value)(b0:List UInt8)(x:Wy)(a1 a2:Option Addr)(n1 c1 n2 c2:Nat)(w:World)(hown:Own B w v0 b0)(hB:B<=w.heap.size)(hl:b0.length<=380000)(hzn:Ji B w (.slice a1 n1 c1) x.nodes)(hzw:Ji B w (.slice a2 n2 c2) x.weights)(hx:Q68 x)(ht:Tab B w) :
  Calls Tryz.prog 17 #[v0,.agg #[.int .i64 x.id,.bool x.both,.slice a1 n1 c1,.slice a2 n2 c2]] w λe w'=>(∃v',e=.returned v'/\Own B w' v' (b0++Wg x))/\Gx B w w':=by
 cases h:x.both
 ·have:=Q2u B v0 b0 x a1 a2 n1 c1 n2 c2 w hown hB hl hzn hzw hx.nodes hx.weights hx.len hx.seg hx.id ht
  simpa only [Wg,h,Bool.false_eq_true,if_false] using this
 ·have:=Q2v B v0 b0 x a1 a2 n1 c1 n2 c2 w hown hB hl hzn hzw hx.nodes hx.weights hx.len hx.seg hx.id ht
  simpa only [Wg,h,if_true] using this
theorem Et (B:Nat)(v0:Value)(b0:List UInt8)(x:Rl)(vz:Value)(w:World)(hown:Own B w v0 b0)(hB:B<=w.heap.size)(hl:b0.length<=380000)(hz:Ji B w vz x.ways)(hx:Q4g x)(ht:Tab B w) :
  Calls Tryz.prog 18 #[v0,.agg #[.int .i64 x.id,.bool x.only,.int .i64 x.frm,.int .i64 x.to,.bool x.via,.int .i64 x.node,vz]] w λe w'=>(∃v',e=.returned v'/\Own B w' v' (b0++Ud x))/\Gx B w w':=by
 have l:x.ways.length<=100:=by have:=hx.len;omega
 cases h:x.only<;>cases h':x.via
 ·have:=G1 B v0 b0 x vz w hown hB hl hz l hx.ways hx.id hx.frm hx.tt hx.node ht
  simpa only [Ud,h,h',Bool.false_eq_true,if_false] using this
 ·have:=G2 B v0 b0 x vz w hown hB hl hz l hx.ways hx.id hx.frm hx.tt hx.node ht
  simpa only [Ud,h,h',Bool.false_eq_true,if_true,if_false] using this
 ·have:=Kn B v0 b0 x vz w hown hB hl hz l hx.ways hx.id hx.frm hx.tt hx.node ht
  simpa only [Ud,h,h',Bool.false_eq_true,if_true,if_false] using this
 ·have:=Ko B v0 b0 x vz w hown hB hl hz l hx.ways hx.id hx.frm hx.tt hx.node ht
  simpa only [Ud,h,h',if_true] using this
theorem Q7b (b:List UInt8)(z:Int):b++(⟨#[110,111,100,101]⟩:ByteArray).data.toList++Q6 [z] [z].length++[10]=b++U0 z:=by simp[U0]
theorem Q7a (b:List UInt8)(x:Tn):b++(⟨#[116,117,114,110]⟩:ByteArray).data.toList++Q6 [x.frm,x.to,x.cost] [x.frm,x.to,x.cost].length++[10]=b++Zy x:=by simp[Zy]
theorem Q73 (B:Nat)(w:World)(h:B<=w.heap.size):Own B (w.alloc (.cells #[] 5)) (.slice (some ⟨w.heap.size,0,none⟩) 0 0) []:=by
 refine⟨rfl,.inr ⟨w.heap.size,0,#[],rfl,h,by show(w.heap.push _)[w.heap.size]?=_;simp,Nat.le_refl _,by simp[maxLen],by simp,by simp[Lib.byteCells]⟩⟩
theorem Qak (w:World)(C:Array Value)(t:TypeId)(fz:Nat×Nat)(j:Nat):(w.alloc (.cells C t fz)).cell? ⟨w.heap.size,j,none⟩=C[j]?:=by
 have h:(w.alloc (.cells C t fz)).heap[w.heap.size]?=some (.cells C t fz):=by show(w.heap.push _)[w.heap.size]?=_;simp
 unfold World.cell?
 rw[h]
 simp
theorem Q7f (w:World)(fz:Nat×Nat):Q4j (w.alloc (.cells #[.int .u8 114,.int .u8 111,.int .u8 97,.int .u8 100,.int .u8 110,.int .u8 101,.int .u8 116,.int .u8 32,.int .u8 49,.int .u8 10] 5 fz)) w.heap.size Fo:=by
 intro j u hj
 rw[show(⟨w.heap.size,0,none⟩:Addr).add j=⟨w.heap.size,j,none⟩ from by simp[Addr.add];exact λh=>h.symm,Qak,<-Array.getElem?_toList]
 exact hj
theorem Q4j.alloc {w:World}{g:Nat}{bs:List UInt8}(h:Q4j w g bs)(o:Obj):Q4j (w.alloc o) g bs:=λj u hj=>Lib.cell?_alloc_marked o (h j u hj)
theorem Q9e (B:Nat)(w:World)(x:Int)(n:Nat)(h:n=w.heap.size):Ji B (w.alloc (.cells #[.int .i64 x] 2)) (.slice (some ⟨n,0,none⟩) 1 1) [x]:=by subst h;exact Wn B w x
theorem Qe8 (B:Nat)(w:World)(x y z:Int)(n:Nat)(h:n=w.heap.size):Ji B (w.alloc (.cells #[.int .i64 x,.int .i64 y,.int .i64 z] 2)) (.slice (some ⟨n,0,none⟩) 3 3) [x,y,z]:=by subst h;exact nums3 B w x y z
theorem Own.cast {B:Nat}{w:World}{v:Value}{a b:List UInt8}(h:Own B w v a)(e:a=b):Own B w v b:=e▸h
theorem Qa7 {N:Nt}(h:Qn N=false):Xa N=[]:=by simp[Xa,h]
theorem Q7i {N:Nt}(h:Qn N=true):Xa N=Fa N:=by simp[Xa,h]
theorem Qbx (u:Int):Fo++(⟨#[117,116,117,114,110]⟩:ByteArray).data.toList++Q6 [u] [u].length++[10]=Pk u:=by simp[Pk]
theorem Ww (B0:Nat)(v0 v1 v2 v3:Value)(N:Nt)(w:World)(h0:Yf B0 w v0 v1 v2 v3 N)(hs:wsum N.ways N.ways.length<=1048576)(ht:Tab w.heap.size w) :
  Calls Tryz.prog 6 #[.agg #[v0,v1,v2,v3,.int .i64 N.uturn]] w λe w'=>(∃v',e=.returned v'/\Own w.heap.size w' v' (Xa N))/\Below w.heap.size w w':=by
 have HT:Hid (Tab w.heap.size w):=ht
 clear ht
 have kc:=λ(w:World) (C:Array Value) (n c:Nat)=>Lib.run_convert_bytes_const (P:=Tryz.prog) w 22 5 C n c Tryz.underlying22 Tryz.underlying5
 obtain⟨i0,i1,i2,i3⟩:=h0
 have HI0:Hid (Ji w.heap.size w v0 N.nodes):=i0.nums (Nat.le_refl _)
 have HI:Hid (Yf B0 w v0 v1 v2 v3 N):=⟨i0,i1,i2,i3⟩
 obtain⟨a0,c0,rfl,hn0,_⟩:=i0
 obtain⟨a1,c1,rfl,hn1,hk1⟩:=i1
 obtain⟨a2,c2,rfl,hn2,hk2⟩:=i2
 obtain⟨a3,c3,rfl,hn3,hk3⟩:=i3
 unfold maxLen at hn0 hn1 hn2 hn3
 generalize hz0:N.nodes.length=m0 at *
 generalize hz1:N.ways.length=m1 at *
 generalize hz2:N.rels.length=m2 at *
 generalize hz3:N.turns.length=m3 at *
 have HZ:Hid (N.nodes.length=m0/\N.ways.length=m1/\N.rels.length=m2/\N.turns.length=m3):=⟨hz0,hz1,hz2,hz3⟩
 clear hz0 hz1 hz2 hz3
 go_enter Tryz.func6,Tryz.ntmps6
 go_wp2_with fail
 refine(U3 B0 _ _ _ _ N _ (by exact HI.out.next (Qd _ _)) (by rw[HZ.out.2.1];exact hs)).mono ?_
 rintro e w1 ⟨rfl,hx⟩
 cases hv:Qn N
 case false=>
  go_wp2
  go_ret
  exact⟨⟨_,rfl,by rw[Qa7 hv];exact Q73 _ _ (Nat.le_trans (by simp) hx.size)⟩,(((Qd _ _).trans hx).trans (Qd _ _))⟩
 have HV:Hid (Qn N=true):=hv
 have HN:Hid (E5 N):=Q9j hv
 have BA:Zs w1 w.heap.size #[.slice a0 m0 c0,.slice a1 m1 c1,.slice a2 m2 c2,.slice a3 m3 c3,.int .i64 N.uturn]:=(Zs.new w #[.slice a0 m0 c0,.slice a1 m1 c1,.slice a2 m2 c2,.slice a3 m3 c3,.int .i64 N.uturn] 28 _ (by decide) rfl).keep (B:=w.heap.size) (Gx.of_nx hx (by simp))
 have HG1:Hid (Gx w.heap.size w w1):=((Gx.refl w.heap.size w).alloc (Nat.le_refl _) _).trans (Gx.of_nx hx (by simp))
 have HB1:Hid (w.heap.size<=w1.heap.size):=HG1.out.1.size
 clear hx hs
 have HF:Hid (Q4j (w1.alloc (.cells #[.int .u8 114,.int .u8 111,.int .u8 97,.int .u8 100,.int .u8 110,.int .u8 101,.int .u8 116,.int .u8 32,.int .u8 49,.int .u8 10] 5 (10,11))) w1.heap.size Fo):=Q7f _ _
 have HG2:Hid (Gx w.heap.size w1 (w1.alloc (.cells #[.int .u8 114,.int .u8 111,.int .u8 97,.int .u8 100,.int .u8 110,.int .u8 101,.int .u8 116,.int .u8 32,.int .u8 49,.int .u8 10] 5 (10,11)))):=(Gx.refl w.heap.size w1).alloc HB1.out _
 have BA2:Zs (w1.alloc (.cells #[.int .u8 114,.int .u8 111,.int .u8 97,.int .u8 100,.int .u8 110,.int .u8 101,.int .u8 116,.int .u8 32,.int .u8 49,.int .u8 10] 5 (10,11))) w.heap.size #[.slice a0 m0 c0,.slice a1 m1 c1,.slice a2 m2 c2,.slice a3 m3 c3,.int .i64 N.uturn]:=BA.keep HG2.out
 have kk0:=BA2.blk.cell (i:=4) rfl
 go_wp2_with fail
 refine(G3 w.heap.size w1.heap.size Fo ⟨#[117,116,117,114,110]⟩ _ [N.uturn] _ (HF.out.alloc _) (by decide) (by have:=HB1.out;simp;omega) (by decide) (by decide) (Q9e _ _ _ _ (by simp)) (by simp) (Jk HN.out.ut) (HT.out.on (HG1.out.trans (HG2.out.alloc (by have:=HB1.out;simp;omega) _)).1)).mono ?_
 rintro e w2 ⟨⟨o2,rfl,ho⟩,hg⟩
 have HO2:Hid (Own w.heap.size w2 o2 (t0 N)):=by unfold Hid;rw[Qbx] at ho;exact ho
 have HG3:Hid (Gx w.heap.size w1 w2):=(HG2.out.alloc (by have:=HB1.out;simp;omega) _).trans hg
 clear ho hg HF HG2 BA2 kk0
 have BA2:=BA.keep HG3.out
 have kk0:=BA2.blk.cell (i:=0) rfl
 go_wp2
 clear kk0
 go_loopw [3,5,26] (λo p i wr=>∃k:Nat,k<=m0/\i=.int .i64 k/\Hid (Own w.heap.size wr o (t1 N k))/\Hid (Gx w.heap.size w1 wr)) (λ_ _ i _=>m0-(intOf i).toNat)
 case atStart=>exact⟨0,Nat.zero_le _,rfl,by unfold Hid;rw[Q51];exact HO2.out,HG3⟩
 case round=>
  obtain⟨k,hkn,rfl,HO,HG⟩:=hrel
  have HGA:Hid (Gx w.heap.size w wr):=HG1.out.trans HG.out
  have HB:Hid (w.heap.size<=wr.heap.size):=HGA.out.1.size
  have HLL:Hid ((t1 N k).length<=380000):=by
   have h1:=Q8h HN.out k (by rw[HZ.out.1];exact hkn)
   have h2:=HN.out.c0
   rw[HZ.out.1] at h2
   unfold Hid
   omega
  by_cases hlt:k<m0
  ·obtain⟨b,off,h2a,h2c⟩:=W3 HI0.out HGA.out (k:=k) (by rw[HZ.out.1];exact hlt)
   subst h2a
   have hlt':(k:Int)<m0:=by omega
   go_wp2_with fail
   refine(Ta w.heap.size _ (t1 N k) ⟨#[110,111,100,101]⟩ _ [iat N.nodes k] _ (HO.out.alloc _) (by have:=HB.out;simp;omega) (by have:=HLL.out;omega) (by decide) (Q9e _ _ _ _ rfl) (by simp) (Jk (HN.out.nodes k (by rw[HZ.out.1];exact hlt))) (HT.out.on (HGA.out.alloc HB.out _).1)).mono ?_
   rintro e wn ⟨⟨vn,rfl,ho⟩,hg⟩
   have HO':Hid (Own w.heap.size wn vn (t1 N (k+1))):=by
    unfold Hid
    rw[Q7b] at ho
    rw[Q52]
    exact ho
   have HG':Hid (Gx w.heap.size w1 wn):=(HG.out.alloc HB.out _).trans hg
   clear ho hg
   go_wp2
   go_roundw
   case rel=>exact⟨k+1,by omega,by go_num,HO',HG'⟩
   case measure=>simp[intOf];omega
  have ek:m0=k:=by omega
  subst ek
  have HOW:=Own.cast HO.out (show t1 N m0=t2 N 0 by rw[Q4z,HZ.out.1])
  clear HO
  have HO:Hid _:=HOW
  clear HOW HLL HGA HB HO2 HG3 BA2 hkn hlt
  have BA2:=BA.keep HG.out
  have kk0:=BA2.blk.cell (i:=1) rfl
  go_wp2
  clear kk0 BA2
  go_loopw [3,7,38] (λo p i wr=>∃k:Nat,k<=m1/\i=.int .i64 k/\Hid (Own w.heap.size wr o (t2 N k))/\Hid (Gx w.heap.size w1 wr)) (λ_ _ i _=>m1-(intOf i).toNat)
  case atStart=>exact⟨0,Nat.zero_le _,rfl,HO,HG⟩
  clear HO HG
  obtain⟨k,hkn,rfl,HO,HG⟩:=hrel
  have HGA:Hid (Gx w.heap.size w wr):=HG1.out.trans HG.out
  have HB:Hid (w.heap.size<=wr.heap.size):=HGA.out.1.size
  have HLL:Hid ((t2 N k).length<=380000):=by
   have h1:=Q8g HN.out k (by rw[HZ.out.2.1];exact hkn)
   unfold Hid
   omega
  by_cases hlt:k<m1
  ·obtain⟨b,off,rfl,hB,hb,hc⟩:=hk1 (by omega)
   obtain⟨p1,p2,d0,d1,d2,d3,n1,n2⟩:=hc k hlt
   have HM1:Hid (Ji w.heap.size w p1 (wat N.ways k).nodes):=n1.nums (Nat.le_refl _)
   have HM2:Hid (Ji w.heap.size w p2 (wat N.ways k).weights):=n2.nums (Nat.le_refl _)
   obtain⟨an,cn,rfl,_⟩:=n1.slice
   obtain⟨aw,cw,rfl,_⟩:=n2.slice
   have d0:=Q1 HGA.out.1 hb d0
   have d1:=Q1 HGA.out.1 hb d1
   have d2:=Q1 HGA.out.1 hb d2
   have d3:=Q1 HGA.out.1 hb d3
   have hlt':(k:Int)<m1:=by omega
   have hbr:b<wr.heap.size:=Nat.lt_of_lt_of_le hb HB.out
   clear hc hk1 n1 n2
   go_wp2_with fail
   refine(Es w.heap.size _ (t2 N k) (wat N.ways k) _ _ _ _ _ _ _ (HO.out.alloc _) (by have:=HB.out;simp;omega) HLL.out (HM1.out.keep (HGA.out.alloc HB.out _)) (HM2.out.keep (HGA.out.alloc HB.out _)) (HN.out.ways k (by rw[HZ.out.2.1];exact hlt)) (HT.out.on (HGA.out.alloc HB.out _).1)).mono ?_
   rintro e wn ⟨⟨vn,rfl,ho⟩,hg⟩
   have HO':Hid (Own w.heap.size wn vn (t2 N (k+1))):=by
    unfold Hid
    rw[Q50]
    exact ho
   have HG':Hid (Gx w.heap.size w1 wn):=(HG.out.alloc HB.out _).trans hg
   clear ho hg
   go_wp2
   go_roundw
   case rel=>exact⟨k+1,by omega,by go_num,HO',HG'⟩
   case measure=>simp[intOf];omega
  have ek:m1=k:=by omega
  subst ek
  have HOW:=Own.cast HO.out (show t2 N m1=t3 N 0 by rw[Q4x,HZ.out.2.1])
  clear HO
  have HO:Hid _:=HOW
  clear HOW HLL HGA HB hkn hlt
  have BA2:=BA.keep HG.out
  have kk0:=BA2.blk.cell (i:=2) rfl
  go_wp2
  clear kk0 BA2
  go_loopw [3,9,49] (λo p i wr=>∃k:Nat,k<=m2/\i=.int .i64 k/\Hid (Own w.heap.size wr o (t3 N k))/\Hid (Gx w.heap.size w1 wr)) (λ_ _ i _=>m2-(intOf i).toNat)
  case atStart=>exact⟨0,Nat.zero_le _,rfl,HO,HG⟩
  clear HO HG
  obtain⟨k,hkn,rfl,HO,HG⟩:=hrel
  have HGA:Hid (Gx w.heap.size w wr):=HG1.out.trans HG.out
  have HB:Hid (w.heap.size<=wr.heap.size):=HGA.out.1.size
  have HLL:Hid ((t3 N k).length<=380000):=by
   have h1:=Q8f HN.out k (by rw[HZ.out.2.2.1];exact hkn)
   have h2:=HN.out.c2
   rw[HZ.out.2.2.1] at h2
   unfold Hid
   omega
  by_cases hlt:k<m2
  ·obtain⟨b,off,rfl,hB,hb,hc⟩:=hk2 (by omega)
   obtain⟨p1,d0,d1,d2,d3,d4,d5,d6,n1⟩:=hc k hlt
   have HM1:Hid (Ji w.heap.size w p1 (rat N.rels k).ways):=n1.nums (Nat.le_refl _)
   obtain⟨an,cn,rfl,_⟩:=n1.slice
   have d0:=Q1 HGA.out.1 hb d0
   have d1:=Q1 HGA.out.1 hb d1
   have d2:=Q1 HGA.out.1 hb d2
   have d3:=Q1 HGA.out.1 hb d3
   have d4:=Q1 HGA.out.1 hb d4
   have d5:=Q1 HGA.out.1 hb d5
   have d6:=Q1 HGA.out.1 hb d6
   have hlt':(k:Int)<m2:=by omega
   have hbr:b<wr.heap.size:=Nat.lt_of_lt_of_le hb HB.out
   clear hc hk2 n1
   go_wp2_with fail
   refine(Et w.heap.size _ (t3 N k) (rat N.rels k) _ _ (HO.out.alloc _) (by have:=HB.out;simp;omega) HLL.out (HM1.out.keep (HGA.out.alloc HB.out _)) (HN.out.rels k (by rw[HZ.out.2.2.1];exact hlt)) (HT.out.on (HGA.out.alloc HB.out _).1)).mono ?_
   rintro e wn ⟨⟨vn,rfl,ho⟩,hg⟩
   have HO':Hid (Own w.heap.size wn vn (t3 N (k+1))):=by
    unfold Hid
    rw[Q4y]
    exact ho
   have HG':Hid (Gx w.heap.size w1 wn):=(HG.out.alloc HB.out _).trans hg
   clear ho hg
   go_wp2
   go_roundw
   case rel=>exact⟨k+1,by omega,by go_num,HO',HG'⟩
   case measure=>simp[intOf];omega
  have ek:m2=k:=by omega
  subst ek
  have HOW:=Own.cast HO.out (show t3 N m2=t4 N 0 by rw[Q4v,HZ.out.2.2.1])
  clear HO
  have HO:Hid _:=HOW
  clear HOW HLL HGA HB hkn hlt
  have BA2:=BA.keep HG.out
  have kk0:=BA2.blk.cell (i:=3) rfl
  go_wp2
  clear kk0 BA2
  go_loopw [3,11,60] (λo p i wr=>∃k:Nat,k<=m3/\i=.int .i64 k/\Hid (Own w.heap.size wr o (t4 N k))/\Hid (Gx w.heap.size w1 wr)) (λ_ _ i _=>m3-(intOf i).toNat)
  case atStart=>exact⟨0,Nat.zero_le _,rfl,HO,HG⟩
  clear HO HG
  obtain⟨k,hkn,rfl,HO,HG⟩:=hrel
  have HGA:Hid (Gx w.heap.size w wr):=HG1.out.trans HG.out
  have HB:Hid (w.heap.size<=wr.heap.size):=HGA.out.1.size
  have HLL:Hid ((t4 N k).length<=380000):=by
   have h1:=Q8e HN.out k (by rw[HZ.out.2.2.2];exact hkn)
   have h2:=HN.out.c3
   rw[HZ.out.2.2.2] at h2
   unfold Hid
   omega
  by_cases hlt:k<m3
  ·obtain⟨b,off,rfl,hB,hb,hc⟩:=hk3 (by omega)
   obtain⟨d0,d1,d2⟩:=hc k hlt
   have d0:=Q1 HGA.out.1 hb d0
   have d1:=Q1 HGA.out.1 hb d1
   have d2:=Q1 HGA.out.1 hb d2
   have hlt':(k:Int)<m3:=by omega
   have hbr:b<wr.heap.size:=Nat.lt_of_lt_of_le hb HB.out
   clear hc hk3
   go_wp2_with fail
   refine(Ta w.heap.size _ (t4 N k) ⟨#[116,117,114,110]⟩ _ [(tat N.turns k).frm,(tat N.turns k).to,(tat N.turns k).cost] _ ((HO.out.alloc _).alloc _) (by have:=HB.out;simp;omega) (by have:=HLL.out;omega) (by decide) (Qe8 _ _ _ _ _ _ (by simp)) (by simp) (Q8m (HN.out.turns k (by rw[HZ.out.2.2.2];exact hlt)).frm (HN.out.turns k (by rw[HZ.out.2.2.2];exact hlt)).tt (HN.out.turns k (by rw[HZ.out.2.2.2];exact hlt)).cost) (HT.out.on ((HGA.out.alloc HB.out _).alloc (by have:=HB.out;simp;omega) _).1)).mono ?_
   rintro e wn ⟨⟨vn,rfl,ho⟩,hg⟩
   have HO':Hid (Own w.heap.size wn vn (t4 N (k+1))):=by
    unfold Hid
    rw[Q7a] at ho
    rw[Q4w]
    exact ho
   have HG':Hid (Gx w.heap.size w1 wn):=((HG.out.alloc HB.out _).alloc (by have:=HB.out;simp;omega) _).trans hg
   clear ho hg
   go_wp2
   go_roundw
   case rel=>exact⟨k+1,by omega,by go_num,HO',HG'⟩
   case measure=>simp[intOf];omega
  have ek:m3=k:=by omega
  subst ek
  go_wp2
  go_ret
  exact⟨⟨_,rfl,by rw[Q7i HV.out];unfold Fa;rw[HZ.out.2.2.2];exact HO.out⟩,HGA.out.1⟩
def nm (z:Int):List UInt8:=32::Lib.decDigits z.toNat
theorem Q1w (zs:List Int)(k:Nat)(h:k<=zs.length):Q6 zs k=(zs.take k).flatMap nm:=by
 induction k with
 |zero=>simp[Q6]
 |succ k ih=>
  rw[Q6,ih (by omega),List.take_succ_eq_append_getElem (by omega),List.flatMap_append,V7 (by omega)]
  simp[nm]
theorem V6 (zs:List Int):Q6 zs zs.length=zs.flatMap nm:=by rw[Q1w zs _ (Nat.le_refl _),List.take_length]
theorem Q0k (x:Wy):Q6 (X9 x) (2*x.weights.length)=(X9 x).flatMap nm:=by rw[<-Ue,V6]
theorem Qb.alloc {B:Nat}{w:World}{v:Value}{zs:List Int}(h:Qb B w v zs)(o:Obj):Qb B (w.alloc o) v zs:=World.ownsRow.alloc h o
theorem Qb.nums {C B:Nat}{w:World}{v:Value}{zs:List Int}(h:Qb C w v zs):Ji B w v zs:=by
 obtain⟨h1,h2⟩:=h
 rcases h2 with⟨rfl,h2⟩|⟨g,cap,cur,rfl,hg,hh,hc,hm,hs,ht⟩
 ·have:zs.length=0:=by first|exact h2|exact h2.symm|omega
  exact⟨none,0,by rw[this],by rw[this];simp[maxLen],λh=>by omega⟩
 ·refine⟨_,_,rfl,by omega,λh0=>⟨g,0,rfl,Nat.zero_le _,(Array.getElem?_eq_some_iff.1 hh).1,λi hi=>⟨Or.inr ⟨cur,2,_,by decide,hh⟩,?_⟩⟩⟩
  have e:cur[i]?=some (.int .i64 (iat zs i)):=by
   have:(cur.toList.take (zs.length*1))[i]?=(Qx zs)[i]?:=by rw[ht]
   rw[List.getElem?_take_of_lt (by omega)] at this
   rw[<-Array.getElem?_toList,this,V7 hi]
   simp[Qx,hi]
  unfold World.cell?
  simp only[hh]
  simpa using e
def wv (x:Wy)(k:Nat):List Int:=iat x.nodes 0::(List.range k).flatMap λi=>[iat x.weights i,iat x.nodes (i+1)]
end Go.Proofs.YtmmolhlihhdkcaaGreatDoor
