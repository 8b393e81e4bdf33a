/-
  The walk of the document's Pattern.
-/
import Derived.Test.YtblonfjlcfjodaaGreatDoorJTt
namespace Go.Proofs.YtblonfjlcfjodaaGreatDoor
set_option linter.unusedSimpArgs false
set_option linter.unusedVariables false
set_option maxRecDepth 100000
set_option maxHeartbeats 4000000
section
open Go.RowKit
theorem zgM (x:Nd) (s:Sl) (w:World) (hx:IsP w (fun _=>True) (paL x s) x) (hw:x.wide) (hwt:x.wt<=65536):Calls Tryz.prog 21 #[paOf x s] w (Shown (PatV x) w):=by
 rw[← docP_show];have hfit:=zgf x hw hwt;have HX:=zb hx;have HD:Hid (docP x=if boundsD ((x.parts 1).take 4097)≠0 then([],boundsD ((x.parts 1).take 4097)) else if patMayD x then longD (patTextD x) else([],5)):=zb rfl
 have HLN:Hid ((patTextD x).length<=1000000000):=zb (by have:=(ze9 x hw).2;omega);have HPT:Hid (∀ W,IsP W (fun _=>True) (paL x s) x->Calls Tryz.prog 50 #[paOf x s,.int .i64 1,.int .i64 4097] W (PartsMade ((x.parts 1).take 4097) W)):=zb fun W h=>zfs x.size x s W 1 4097 (Nat.le_refl _) (by omega) h;have HMY:Hid (∀ W,IsP W (fun _=>True) (paL x s) x->Calls Tryz.prog 51 #[paOf x s] W (YesMade (patMayD x) W)):=zb fun W h=>zfN x.size x s W (Nat.le_refl _) hfit h;have HTX:Hid (∀ W,patMayD x=true->IsP W (fun _=>True) (paL x s) x->Calls Tryz.prog 52 #[paOf x s] W (StrMade (patTextD x) W)):=zb fun W hm h=>zfw x.size x s W (Nat.le_refl _) hw hwt hfit hm h;have HPL:Hid (((x.parts 1).take 4097).length<=5000):=zb (by rw[List.length_take];omega);have HLG:Hid (∀ W,Calls Tryz.prog 46 #[.string ⟨(patTextD x).toArray⟩] W (LongTold (longD (patTextD x)) W)):=zb fun W=>t_long (patTextD x) W HLN.out;clear hx hw hwt hfit;generalize (x.parts 1).take 4097=PL at *;unfold paOf at HPT HMY HTX;unfold paOf
 go_enter Tryz.func21, Tryz.ntmps21
 go_upto_region 1 with fail
 obtain⟨W0,hW0⟩:∃ W,w.alloc (.cells #[.int .i64 x.hd.kind,.int .i64 x.hd.pos,.string ⟨x.hd.name.toArray⟩,.int .i64 x.hd.n,.string ⟨x.hd.s.toArray⟩,.slice s.la x.hd.labels.length s.lc,.slice s.aa x.args.length s.ac] 39 (0,0))=W:=⟨_,rfl⟩;have HB0:Hid (Below w.heap.size w W0):=zb (by rw[← hW0];exact zj _);have HPX:Hid (PaBox W0 w.heap.size x s):=zb (by rw[← hW0];exact zA w _ _ rfl);rw[hW0];clear hW0;generalize hbx:w.heap.size=bx at HPX ⊢;clear hbx;replace HX:=zb (HX.out.below HB0.out);obtain⟨b0,b1,b2,b3,b4,b5,b6,bf⟩:=Box7.cells HPX.out;have bl:=Box7.lt HPX.out;clear bf
 go_wp2_with fail
 refine(HPT.out _ HX.out).mono ?_;rintro e w1 ⟨v1,rfl,hb1,hr1⟩;have HB1:=zb (HB0.out.trans (hb1.mono HB0.out.size));replace HX:=zb (HX.out.below hb1);replace HPX:=zb (Box7.below HPX.out hb1);have HBD:=zb (zgv _ PL v1 w1 hr1 HPL.out);clear hb1 hr1 HB0 b0 b1 b2 b3 b4 b5 b6 bl HPT HPL
 go_wp2_with fail
 refine HBD.out.mono ?_;rintro e w2 ⟨rfl,hb2⟩;have HB2:=zb (HB1.out.trans (hb2.mono HB1.out.size));replace HX:=zb (HX.out.below hb2);replace HPX:=zb (Box7.below HPX.out hb2);clear hb2 HB1 HBD;generalize boundsD PL=bd at *;by_cases hb:bd=0
 . subst hb;have HD2:Hid (docP x=if patMayD x then longD (patTextD x) else([],5)):=zb (by rw[HD.out,if_neg (fun h=>h rfl)])
   clear HD;obtain⟨b0,b1,b2,b3,b4,b5,b6,bf⟩:=Box7.cells HPX.out;have bl:=Box7.lt HPX.out;clear bf
   go_wp2_with fail
   refine(HMY.out _ HX.out).mono ?_;rintro e w3 ⟨rfl,hb3⟩;have HB3:=zb (HB2.out.trans (hb3.mono HB2.out.size));replace HX:=zb (HX.out.below hb3);replace HPX:=zb (Box7.below HPX.out hb3);clear hb3 HB2 HMY b0 b1 b2 b3 b4 b5 b6 bl;cases hm:patMayD x
   . have HR:Hid (docP x=([],5)):=zb (by rw[HD2.out,hm];rfl);clear HD2 hm HTX HLG HLN
     go_wp2_with fail
     go_ret2;exact⟨HB3.out,by rw[HR.out];rfl⟩
   . have HR:Hid (docP x=longD (patTextD x)):=zb (by rw[HD2.out,hm];rfl);have HTC:=zb (HTX.out w3 hm HX.out);clear HD2 hm HTX;obtain⟨b0,b1,b2,b3,b4,b5,b6,bf⟩:=Box7.cells HPX.out;have bl:=Box7.lt HPX.out;clear bf;generalize patTextD x=tx at *
     go_wp2_with fail
     refine HTC.out.mono ?_;rintro e w4 ⟨rfl,hb4⟩;have HB4:=zb (HB3.out.trans (hb4.mono HB3.out.size));clear hb4 HB3 HTC b0 b1 b2 b3 b4 b5 b6 bl
     go_wp2_with fail
     refine(HLG.out _).mono ?_;rintro e w5 ⟨rfl,rfl⟩;clear HLG;generalize longD tx=ld at *
     go_wp2_with fail
     go_ret2;exact⟨HB4.out,by rw[HR.out];rfl⟩
 . have HR:Hid (docP x=([],bd)):=zb (by rw[HD.out,if_pos hb]);have e1:(bd != 0)=true:=by rw[bne_iff_ne];exact hb
   clear HD hb HTX HLG HMY
   go_wp2_with fail
   go_ret2;exact⟨HB2.out,by rw[HR.out];rfl⟩
end
section
open Go.RowKit
attribute [local go_sem] Oper.semAt_some
theorem zb2 (x:Nd) (s:Sl) (w:World) (hx:IsP w (fun _=>True) (paL x s) x) (hw:x.wide) (hl:0<longP x 65536) (ht:Tab w):Calls Tryz.prog 20 #[paOf x s] w (Shown (PatV x) w) :=
 zaN x s w hx (zac hw (vO hx) hl).1 (by
  have h1:=(zac hw (vO hx) hl).2;have h2:=vI 2 x;show((0,1)::([]++(x.parts 2++((0,2)::[]++[])))).length<=70000;simp only[List.length_cons,List.length_append,List.length_nil];omega) ht
structure PaIn (w:World) (b:Nat) (x:Nd) (s:Sl):Prop where
 box:PaBox w b x s
 tree:IsP w (fun _=>True) (paL x s) x
theorem PaIn.below {w w':World} {b:Nat} {x:Nd} {s:Sl} (h:PaIn w b x s) (hb:Below w.heap.size w w'):PaIn w' b x s:=⟨h.box.below hb,h.tree.below hb⟩
theorem PaIn.new {w:World} {x:Nd} {s:Sl} (h:IsP w (fun _=>True) (paL x s) x):PaIn (w.alloc (paObj x s)) w.heap.size x s:=⟨PaBox.new w x s,h.below (zj _)⟩
theorem zfY (x:Nd) (sx:Sl) (w:World) (hy:Ready w) (ht:Tab w) (hx:IsP w (fun _=>True) (paL x sx) x) (wx:x.wide):Calls Tryz.prog 5 #[paOf x sx] w (YesMade true w):=by
 have HY:=zb hy;have HT:=zb ht;have HW:=zb wx;have HBR:=zb (vO hx);have hb2:=zj (w:=w) (paObj x sx);have HX:Hid (PaIn (w.alloc (paObj x sx)) w.heap.size x sx):=zb (PaIn.new hx);have HB0:=zb hb2;clear hy ht hx wx hb2;unfold paOf
 go_enter Tryz.func5, Tryz.ntmps5
 go_upto_region 1 with fail
 obtain⟨W0,hW0⟩:∃ W,w.alloc (paObj x sx)=W:=⟨_,rfl⟩;rw[hW0] at HB0 HX;unfold paObj at hW0;rw[hW0];clear hW0;replace HY:=zb (HY.out.below HB0.out);replace HT:Hid (Tab W0):=zb (HT.out.below HB0.out);generalize hbx:w.heap.size=bx at HX ⊢;clear hbx
 go_wp2_with fail
 refine(vc _ HY.out HT.out).mono ?_;rintro e w1 ⟨rfl,hb1⟩;replace HX:=zb (HX.out.below hb1);replace HY:=zb (HY.out.below hb1);replace HT:Hid (Tab w1):=zb (HT.out.below hb1);have HB1:=zb (HB0.out.trans (hb1.mono HB0.out.size));clear hb1 HB0;have HC:=zb (zcZ x sx w1 HW.out HX.out.tree);unfold paOf at HC;obtain⟨f0,f1,f2,f3,f4,f5,f6,-⟩:=Box7.cells HX.out.box;have fl:=HX.out.box.lt;by_cases hl1:longP x 65536<=0
 . have l1:decide (longP x 65536<=0)=true:=decide_eq_true hl1;generalize longP x 65536=n1 at *
   go_wp2_with fail
   refine HC.out.mono ?_;rintro e w2 ⟨rfl,hb2⟩;have HB2:=zb (HB1.out.trans (hb2.mono HB1.out.size));clear hb2
   go_wp2_with fail
   go_ret;exact⟨rfl,HB2.out⟩
 have l1:decide (longP x 65536<=0)=false:=decide_eq_false hl1;have HP1:Hid (0<longP x 65536):=zb (by omega);have HWT:Hid (x.wt<=65536):=zb (zac HW.out HBR.out HP1.out).2;obtain⟨n1,hn1⟩:∃ n,longP x 65536=n:=⟨_,rfl⟩;rw[hn1] at HC l1 hl1;clear hn1
 go_wp2_with fail
 refine HC.out.mono ?_;rintro e w2 ⟨rfl,hb2⟩;replace HX:=zb (HX.out.below hb2);replace HY:=zb (HY.out.below hb2);replace HT:Hid (Tab w2):=zb (HT.out.below hb2);have HB2:=zb (HB1.out.trans (hb2.mono HB1.out.size));clear hb2 HB1 HC f0 f1 f2 f3 f4 f5 f6 fl;have HC:=zb (zb2 x sx w2 HX.out.tree HW.out HP1.out HT.out);unfold paOf at HC;obtain⟨f0,f1,f2,f3,f4,f5,f6,-⟩:=Box7.cells HX.out.box;have fl:=HX.out.box.lt
 go_wp2_with fail
 refine HC.out.mono ?_;rintro e w3 ⟨hb3,rfl⟩;replace HX:=zb (HX.out.below hb3);replace HY:=zb (HY.out.below hb3);have HB3:=zb (HB2.out.trans (hb3.mono HB2.out.size));clear hb3 HB2 HC f0 f1 f2 f3 f4 f5 f6 fl l1 hl1 HP1 HBR HY HT;have HC:=zb (zgM x sx w3 HX.out.tree HW.out HWT.out);unfold paOf at HC;obtain⟨f0,f1,f2,f3,f4,f5,f6,-⟩:=Box7.cells HX.out.box;have fl:=HX.out.box.lt;obtain⟨⟨t,c⟩,hr⟩:∃ r,PatV x=r:=⟨_,rfl⟩;rw[hr] at HC ⊢;clear hr;dsimp only;have B1:(t == t)=true:=by simp
 have B2:(c == c)=true:=by simp
 go_wp2_with fail
 refine HC.out.mono ?_;rintro e w4 ⟨hb4,rfl⟩;have HB4:=zb (HB3.out.trans (hb4.mono HB3.out.size));clear hb4 HC;dsimp only
 go_wp2_with fail
 go_ret;exact⟨rfl,HB4.out⟩
end
