/-
  The walk of let.
-/
import Derived.Test.YtigbapkdpaahjaaGreatDoorGNode
import Derived.RegionDies
namespace Go.Proofs.YtigbapkdpaahjaaGreatDoor
set_option linter.unusedSimpArgs false
set_option linter.unusedVariables false
set_option maxRecDepth 100000
set_option maxHeartbeats 4000000
open Go.RowKit
theorem w_let (f p:Nat) (t:Tok) (hs:Says f .seq 47 #[ptrV p] p) (hf:Says f .fn 130 #[ptrV p] p):Says (f+1) (.letb t) 132 #[ptrV p,tokVal t] p:=by
 have HHS:=zb hs
 clear hs
 have HHF:=zb hf
 clear hf
 intro T w hp hne
 have HLT:=zb hp.lt
 have HK:=zb (Keep.start hp)
 have hbx:=zj (w:=w) (tokObj t)
 have HT:=zb (TkBox.new w t)
 have HTP:Hid (p<w.heap.size):=HLT
 replace HK:=zb (HK.out.below hbx)
 clear hbx
 have hbx:=zj (w:=(w.alloc (tokObj t))) zeroObj
 replace HT:=zb (HT.out.below hbx)
 have HX:Hid (ZeroBox ((w.alloc (tokObj t)).alloc zeroObj) (w.heap.size+1)):=zb (by have h9:=ZeroBox.new (w.alloc (tokObj t));rwa [World.size_alloc] at h9)
 replace HK:=zb (HK.out.below hbx)
 clear hbx
 have HPB:Hid (p<(w.heap.size+1)):=zb (by have:=HLT.out;omega)
 have HB0:Hid (w.heap.size≤(w.heap.size+1)):=zb (by omega)
 have HR:Hid (run (f+1) (.letb t) T=exec (run f) (step (.letb t)) T):=zb rfl
 have HN:=zb hne
 obtain⟨t0,S0,hT0⟩:=hp.row.cons
 generalize run (f+1) (.letb t) T=res at *
 subst hT0
 simp only[step,need,name,bound,exec] at HR
 clear hp hne
 unfold tokVal tokAgg
 go_enter Tryz.func132, Tryz.ntmps132
 have HAC:=zb (fun W b h hb=>yc p t0 S0 [sRec] _ _ rfl rfl (by decide) W b h hb)
 go_wp2_with fail
 refine(HAC.out _ _ HK.out.at_ (by simp)).mono ?_
 rintro e W1 (⟨hy,rfl,hp2,hg2⟩ | ⟨hy,rfl,hb2⟩)
 · rw[hy,if_pos rfl] at HR
   have hk2:=Keep.mk hp2 hg2
   replace HX:=zb (HX.out.keep hk2 HPB.out)
   replace HT:=zb (HT.out.keep hk2 HTP.out)
   replace HK:=zb (HK.out.trans hk2)
   clear hy hp2 hg2 hk2 HAC
   have hbx:=zj (w:=W1) (tokObj t0)
   have HU:=zb (TkBox.new W1 t0)
   have HUP:Hid (p<W1.heap.size):=zb (by have:=HPB.out;have:=HX.out.lt;omega)
   have HUZ:Hid ((w.heap.size+1)<W1.heap.size):=zb HX.out.lt
   replace HX:=zb (HX.out.below hbx)
   replace HT:=zb (HT.out.below hbx)
   replace HK:=zb (HK.out.below hbx)
   clear hbx
   obtain⟨t2,S2,rfl⟩:=HK.out.at_.row.cons
   simp only[exec] at HR
   have HAC:=zb (fun W h=>vQ p t2 S2 W h)
   unfold tokVal tokAgg
   go_wp2_with fail
   refine(HAC.out _ HK.out.at_).mono ?_
   rintro e W3 (⟨hy,rfl,hp2,hg2⟩ | ⟨hy,rfl,hb2⟩)
   · rw[hy,if_pos rfl] at HR
     have hk2:=Keep.mk hp2 hg2
     replace HX:=zb (HX.out.keep hk2 HPB.out)
     replace HT:=zb (HT.out.keep hk2 HTP.out)
     replace HU:=zb (HU.out.keep hk2 HUP.out)
     replace HK:=zb (HK.out.trans hk2)
     clear hy hp2 hg2 hk2 HAC
     obtain⟨t4,S4,rfl⟩:=HK.out.at_.row.cons
     simp only[exec] at HR
     have HAC:=zb (fun W b h hb=>zE p t4 S4 [sEq] _ _ rfl rfl (by decide) W b h hb)
     go_wp2_with fail
     refine(HAC.out _ _ HK.out.at_ (by simp)).mono ?_
     rintro e W5 (⟨hy,rfl,hp2,hg2⟩ | ⟨hy,rfl,hb2⟩)
     · rw[hy,if_pos rfl] at HR
       have hk2:=Keep.mk hp2 hg2
       replace HX:=zb (HX.out.keep hk2 HPB.out)
       replace HT:=zb (HT.out.keep hk2 HTP.out)
       replace HU:=zb (HU.out.keep hk2 HUP.out)
       replace HK:=zb (HK.out.trans hk2)
       clear hp2 hg2 hk2 HAC hy
       unfold tokVal tokAgg
       go_wp2_with fail
       cases hr:run f .fn S4 with
       | out =>
        rw[hr] at HR
        exact absurd HR.out HN.out
       | bad R9 =>
        rw[hr] at HR
        refine(HHF.out S4 _ HK.out.at_ (by rw[hr];exact fun h=>by cases h)).mono ?_
        rw[hr]
        rintro e w8 ⟨t8,S8,rfl,rfl,hg⟩
        have HG:=zb (zo HK.out.grown hg)
        clear hg hr
        unfold faultV
        go_wp2_with fail
        exact⟨rfl,by rw[HR.out];exact⟨t8,S8,rfl,rfl,HG.out⟩⟩
       | ok a R6 =>
        rw[hr] at HR
        refine(HHF.out S4 _ HK.out.at_ (by rw[hr];exact fun h=>by cases h)).mono ?_
        rw[hr]
        rintro e W6 ⟨s6,rfl,ha,hk⟩
        clear hr
        have HAa:Hid (IsE W6 (fun g=>(w.heap.size+1)<g) (exL a s6) a):=zb (ha.wide fun g hg=>zd HX.out.lt hg)
        clear ha
        replace HX:=zb (HX.out.keep hk HPB.out)
        replace HT:=zb (HT.out.keep hk HTP.out)
        replace HU:=zb (HU.out.keep hk HUP.out)
        replace HK:=zb (HK.out.trans hk)
        clear hk
        have hbx:=zj (w:=W6) (exObj a s6)
        have HF:=zb (ExBox.new W6 a s6)
        have HFP:Hid (p<W6.heap.size):=zb (by have:=HPB.out;have:=HX.out.lt;omega)
        have HFZ:Hid ((w.heap.size+1)<W6.heap.size):=zb HX.out.lt
        replace HX:=zb (HX.out.below hbx)
        replace HT:=zb (HT.out.below hbx)
        replace HU:=zb (HU.out.below hbx)
        replace HAa:=zb (HAa.out.below hbx)
        replace HK:=zb (HK.out.below hbx)
        clear hbx
        obtain⟨t7,S7,rfl⟩:=HK.out.at_.row.cons
        simp only[exec] at HR
        have HAC:=zb (fun W b h hb=>zE p t7 S7 [sIn] _ _ rfl rfl (by decide) W b h hb)
        unfold exOf exV
        go_wp2_with fail
        refine(HAC.out _ _ HK.out.at_ (by simp)).mono ?_
        rintro e W8 (⟨hy,rfl,hp2,hg2⟩ | ⟨hy,rfl,hb2⟩)
        · rw[hy,if_pos rfl] at HR
          have hk2:=Keep.mk hp2 hg2
          replace HX:=zb (HX.out.keep hk2 HPB.out)
          replace HT:=zb (HT.out.keep hk2 HTP.out)
          replace HU:=zb (HU.out.keep hk2 HUP.out)
          replace HF:=zb (HF.out.keep hk2 HFP.out)
          replace HAa:=zb (HAa.out.keep hk2 (fun g hg=>by have:=HPB.out;omega))
          replace HK:=zb (HK.out.trans hk2)
          clear hp2 hg2 hk2 HAC hy
          unfold tokVal tokAgg
          go_upto_region 9 with fail
          generalize hb1:W6.heap.size=b1 at *
          clear hb1
          have HKd:=zb (HK.out.below (zm _))
          have hz0:Below W8.heap.size W8 (W8.alloc zeroObj).drew:=(zj zeroObj).trans ((zm _).mono (by simp))
          have HZ0:=zb hz0
          have HKe:=zb (HK.out.below hz0)
          have HEe:=zb ((ZeroBox.new W8).below (zm _))
          clear hz0
          obtain⟨k0,k1,k2,k3,_⟩:=TokBox.cells (HT.out);have kl:=(HT.out).lt
          have n0:¬w.heap.size=(w.heap.size+1):=by skip;omega
          have m0:¬(w.heap.size+1)=w.heap.size:=by skip;omega
          have p0:¬w.heap.size=W8.heap.size:=by omega
          have q0:¬W8.heap.size=w.heap.size:=by omega
          obtain⟨f0,f1,f2,f3,f4,f5,f6,f7,_⟩:=Box8.cells (HF.out);have fl:=(HF.out).lt
          have n1:¬b1=(w.heap.size+1):=by have:=HFZ.out;omega
          have m1:¬(w.heap.size+1)=b1:=by have:=HFZ.out;omega
          have p1:¬b1=W8.heap.size:=by omega
          have q1:¬W8.heap.size=b1:=by omega
          cases hr:run f .seq S7 with
          | out =>
           rw[hr] at HR
           exact absurd HR.out HN.out
          | bad R9 =>
           rw[hr] at HR
           have HSC:Hid (∀ W,PAt W p S7→Calls Tryz.prog 47 #[ptrV p] W (Told (.bad R9) W p)):=zb (fun W h=>by
            have:=HHS.out S7 W h (by rw[hr];exact fun h=>by cases h)
            rwa [hr] at this)
           clear hr
           go_region_dies
           all_goals first | (refine(HSC.out _ HKd.out.at_).mono ?_;rintro e w8 ⟨t8,S8,rfl,rfl,hg⟩;have HG:=zb (zo HKd.out.grown hg);exact⟨rfl,by rw[HR.out];exact⟨t8,S8,rfl,rfl,HG.out⟩⟩) | (refine(HSC.out _ HKe.out.at_).mono ?_;rintro e w8 ⟨t8,S8,rfl,rfl,hg⟩;have HG:=zb (zo HKe.out.grown hg);exact⟨rfl,by rw[HR.out];exact⟨t8,S8,rfl,rfl,HG.out⟩⟩)
          | ok b Ry =>
           rw[hr] at HR
           have HSC:Hid (∀ W,PAt W p S7→Calls Tryz.prog 47 #[ptrV p] W (Told (.ok b Ry) W p)):=zb (fun W h=>by
            have:=HHS.out S7 W h (by rw[hr];exact fun h=>by cases h)
            rwa [hr] at this)
           clear hr
           have HEN0:Hid (w.heap.size≤W8.heap.size∧W8.heap.size≠(w.heap.size+1)):=zb ⟨HK.out.size,by have:=HX.out.lt;omega⟩
           go_region_held3 (fun W=>W.cell? ⟨w.heap.size,0,none⟩=some (.int .i64 t.1.kind)∧W.cell? ⟨w.heap.size,1,none⟩=some (.int .i64 (t.2:Nat))∧W.cell? ⟨w.heap.size,2,none⟩=some (.string ⟨t.1.text.toArray⟩)∧W.cell? ⟨w.heap.size,3,none⟩=some (.int .i64 t.1.n)∧W.cell? ⟨b1,0,none⟩=some (.int .i64 a.hd.kind)∧W.cell? ⟨b1,1,none⟩=some (.int .i64 a.hd.pos)∧W.cell? ⟨b1,2,none⟩=some (.string ⟨a.hd.name.toArray⟩)∧W.cell? ⟨b1,3,none⟩=some (.int .i64 a.hd.n)∧W.cell? ⟨b1,4,none⟩=some (.string ⟨a.hd.s.toArray⟩)∧W.cell? ⟨b1,5,none⟩=some (.slice s6.la a.hd.labels.length s6.lc)∧W.cell? ⟨b1,6,none⟩=some (.slice s6.aa a.args.length s6.ac)∧W.cell? ⟨b1,7,none⟩=some (.slice s6.ra a.arms.length s6.rc)) (go_keep) (first | (go_at_call 47; refine(HSC.out _ HKd.out.at_).mono ?_;rintro e Wy ⟨sy,rfl,ha,hk⟩;have HAb:Hid (IsE Wy (fun g=>(w.heap.size+1)<g) (exL b sy) b):=zb (ha.wide fun g hg=>zd (HX.out.below (zm _)).lt hg);replace HAa:=zb ((HAa.out.below (zm _)).keep hk (fun g hg=>Nat.lt_trans HPB.out hg));replace HX:=zb ((HX.out.below (zm _)).keep hk HPB.out);replace HT:=zb ((HT.out.below (zm _)).keep hk HTP.out);replace HU:=zb ((HU.out.below (zm _)).keep hk HUP.out);replace HF:=zb ((HF.out.below (zm _)).keep hk HFP.out);replace HK:=zb (HKd.out.trans hk);clear HKd HKe;obtain⟨k0,k1,k2,k3,_⟩:=TokBox.cells (HT.out);have kl:=(HT.out).lt;obtain⟨f0,f1,f2,f3,f4,f5,f6,f7,_⟩:=Box8.cells (HF.out);have fl:=(HF.out).lt;clear ha hk;unfold exOf exV) | (go_at_call 47; refine(HSC.out _ HKe.out.at_).mono ?_;rintro e Wy ⟨sy,rfl,ha,hk⟩;have HAb:=zb (ha.fresh_new (b0:=(w.heap.size+1)) (be:=W8.heap.size) (HX.out.below HZ0.out).lt HEe.out.lt);have HEZ:=zb (HEe.out.keep hk (Nat.lt_trans HPB.out HX.out.lt));replace HAa:=zb (((HAa.out.fresh zeroObj).below (zm _)).keep hk (fun g hg=>Nat.lt_trans HPB.out hg.1));replace HX:=zb ((HX.out.below HZ0.out).keep hk HPB.out);replace HT:=zb ((HT.out.below HZ0.out).keep hk HTP.out);replace HU:=zb ((HU.out.below HZ0.out).keep hk HUP.out);replace HF:=zb ((HF.out.below HZ0.out).keep hk HFP.out);replace HK:=zb (HKe.out.trans hk);clear HKd HKe;obtain⟨k0,k1,k2,k3,_⟩:=TokBox.cells (HT.out);have kl:=(HT.out).lt;obtain⟨f0,f1,f2,f3,f4,f5,f6,f7,_⟩:=Box8.cells (HF.out);have fl:=(HF.out).lt;clear ha hk;unfold exOf exV) | (go_at_call 87; refine(zz 10 t (some _) 2 2 _).mono ?_;rintro e Wz ⟨rfl,hb2⟩;have HNR:=zb (zG (L:=[exL a s6,exL b sy]) (args:=[a,b]) HK.out ⟨HAa.out,HAb.out,trivial⟩ HX.out.lt (by simp) ⟨10,t.2,[],0,[],[]⟩ rfl hb2);have HTR:=zb HNR.out.1;replace HX:=zb (HX.out.below HNR.out.2.2);replace HK:=zb HNR.out.2.1;have p0:¬w.heap.size=Wz.heap.size:=(by have:=HT.out.lt;have:=HNR.out.2.2.size;omega);have q0:¬Wz.heap.size=w.heap.size:=(by omega);have p1:¬b1=Wz.heap.size:=(by have:=HF.out.lt;have:=HNR.out.2.2.size;omega);have q1:¬Wz.heap.size=b1:=(by omega);replace HT:=zb (HT.out.below HNR.out.2.2);replace HU:=zb (HU.out.below HNR.out.2.2);replace HF:=zb (HF.out.below HNR.out.2.2);obtain⟨k0,k1,k2,k3,_⟩:=TokBox.cells (HT.out);have kl:=(HT.out).lt;obtain⟨f0,f1,f2,f3,f4,f5,f6,f7,_⟩:=Box8.cells (HF.out);have fl:=(HF.out).lt;clear hb2 HNR;unfold exV) | (go_at_call 87; refine(zz 10 t (some _) 2 2 _).mono ?_;rintro e Wz ⟨rfl,hb2⟩;have HNR:=zb (zJ (N:=Nb ((w.heap.size+1)) W8.heap.size) (L:=[exL a s6,exL b sy]) (args:=[a,b]) HK.out ⟨HAa.out,HAb.out,trivial⟩ ⟨HX.out.lt,Nat.ne_of_gt HEZ.out.lt⟩ (by simp) ⟨10,t.2,[],0,[],[]⟩ rfl hb2);have HTR:=zb HNR.out.1;replace HEZ:=zb (HEZ.out.below HNR.out.2.2);have HEN:Hid (w.heap.size≤W8.heap.size∧W8.heap.size≠(w.heap.size+1)):=HEN0;replace HX:=zb (HX.out.below HNR.out.2.2);replace HK:=zb HNR.out.2.1;obtain⟨x0,x1,x2,x3,x4,x5,x6,x7,xf⟩:=(Box8.cells HEZ.out);have y0:=xf 0;have y1:=xf 1;have y2:=xf 2;have y3:=xf 3;have y4:=xf 4;have y5:=xf 5;have y6:=xf 6;have y7:=xf 7;have hxl:=HEZ.out.lt;clear xf;replace HT:=zb (HT.out.below HNR.out.2.2);replace HU:=zb (HU.out.below HNR.out.2.2);replace HF:=zb (HF.out.below HNR.out.2.2);obtain⟨k0,k1,k2,k3,_⟩:=TokBox.cells (HT.out);have kl:=(HT.out).lt;obtain⟨f0,f1,f2,f3,f4,f5,f6,f7,_⟩:=Box8.cells (HF.out);have fl:=(HF.out).lt;clear hb2 HNR;unfold exV) | (go_at_call 87; refine(zz 10 t (some _) 2 2 _).mono ?_;rintro e Wz ⟨rfl,hb2⟩;have HNR:=zb (zJ (N:=Nb ((w.heap.size+1)) Wy.heap.size) (L:=[exL a s6,exL b sy]) (args:=[a,b]) (HK.out.below (zj zeroObj)) ⟨HAa.out.fresh zeroObj,HAb.out.fresh zeroObj,trivial⟩ ⟨(HX.out.below (zj zeroObj)).lt,by simp⟩ (by simp) ⟨10,t.2,[],0,[],[]⟩ rfl hb2);have HTR:=zb HNR.out.1;have HEZ:=zb ((ZeroBox.new Wy).below HNR.out.2.2);replace HNR:Hid (True∧Keep w p Ry Wz∧Below Wy.heap.size Wy Wz):=zb ⟨trivial,HNR.out.2.1,(zj zeroObj).trans (HNR.out.2.2.mono (by simp))⟩;simp only[World.size_alloc] at HTR;have HEN:Hid (w.heap.size≤Wy.heap.size∧Wy.heap.size≠(w.heap.size+1)):=zb ⟨HK.out.size,by have:=HX.out.lt;omega⟩;replace HX:=zb (HX.out.below HNR.out.2.2);replace HK:=zb HNR.out.2.1;obtain⟨x0,x1,x2,x3,x4,x5,x6,x7,xf⟩:=(Box8.cells HEZ.out);have y0:=xf 0;have y1:=xf 1;have y2:=xf 2;have y3:=xf 3;have y4:=xf 4;have y5:=xf 5;have y6:=xf 6;have y7:=xf 7;have hxl:=HEZ.out.lt;clear xf;have p0:¬w.heap.size=Wy.heap.size:=(by have:=HT.out.lt;have:=HNR.out.2.2.size;omega);have q0:¬Wy.heap.size=w.heap.size:=(by omega);have p1:¬b1=Wy.heap.size:=(by have:=HF.out.lt;have:=HNR.out.2.2.size;omega);have q1:¬Wy.heap.size=b1:=(by omega);replace HT:=zb (HT.out.below HNR.out.2.2);replace HU:=zb (HU.out.below HNR.out.2.2);replace HF:=zb (HF.out.below HNR.out.2.2);obtain⟨k0,k1,k2,k3,_⟩:=TokBox.cells (HT.out);have kl:=(HT.out).lt;obtain⟨f0,f1,f2,f3,f4,f5,f6,f7,_⟩:=Box8.cells (HF.out);have fl:=(HF.out).lt;clear hb2 HNR;unfold exV) | (go_at_call 87; refine(zz 10 t (some _) 2 2 _).mono ?_;rintro e Wz ⟨rfl,hb2⟩;have HN0:=zG (L:=[exL a s6,exL b sy]) (args:=[a,b]) HK.out ⟨HAa.out,HAb.out,trivial⟩ HX.out.lt (by simp) ⟨10,t.2,[],0,[],[]⟩ rfl (Below.refl _ (Wy.alloc (.cells (List.flatten [exL a s6,exL b sy]).toArray 27 (0,0))));have HTR:=zb ((HN0.1.fresh zeroObj).below hb2);have HEZ:=zb ((ZeroBox.new (Wy.alloc (.cells (List.flatten [exL a s6,exL b sy]).toArray 27 (0,0)))).below hb2);have HNR:Hid (True∧Keep w p Ry Wz∧Below Wy.heap.size Wy Wz):=zb ⟨trivial,(HN0.2.1.below (zj zeroObj)).below hb2,(HN0.2.2.trans ((zj zeroObj).mono HN0.2.2.size)).trans (hb2.mono (by simp;omega))⟩;clear HN0;simp only[World.size_alloc] at HTR HEZ;have HEN:Hid (w.heap.size≤Wy.heap.size+1∧Wy.heap.size+1≠(w.heap.size+1)):=zb ⟨by have:=HK.out.size;omega,by have:=HX.out.lt;omega⟩;replace HX:=zb (HX.out.below HNR.out.2.2);replace HK:=zb HNR.out.2.1;obtain⟨x0,x1,x2,x3,x4,x5,x6,x7,xf⟩:=(Box8.cells HEZ.out);have y0:=xf 0;have y1:=xf 1;have y2:=xf 2;have y3:=xf 3;have y4:=xf 4;have y5:=xf 5;have y6:=xf 6;have y7:=xf 7;have hxl:=HEZ.out.lt;clear xf;have p0:¬w.heap.size=(Wy.heap.size+1):=(by have:=HT.out.lt;have:=HNR.out.2.2.size;omega);have q0:¬(Wy.heap.size+1)=w.heap.size:=(by omega);have p1:¬b1=(Wy.heap.size+1):=(by have:=HF.out.lt;have:=HNR.out.2.2.size;omega);have q1:¬(Wy.heap.size+1)=b1:=(by omega);replace HT:=zb (HT.out.below HNR.out.2.2);replace HU:=zb (HU.out.below HNR.out.2.2);replace HF:=zb (HF.out.below HNR.out.2.2);obtain⟨k0,k1,k2,k3,_⟩:=TokBox.cells (HT.out);have kl:=(HT.out).lt;obtain⟨f0,f1,f2,f3,f4,f5,f6,f7,_⟩:=Box8.cells (HF.out);have fl:=(HF.out).lt;clear hb2 HNR;unfold exV))
           all_goals
            first
             | (have HE:=zb (yK (h:=⟨10,t.2,[],0,[],[]⟩) (args:=[a,b]) HTR.out HK.out HLT.out HX.out.lt _ rfl);have hb5:=zj (w:=Wz) (.cells #[.int .i64 10,.int .i64 (t.2:Nat),.string ⟨#[]⟩,.int .i64 (0),.string ⟨#[]⟩,.slice none 0 0,.slice (some ⟨Wy.heap.size,0,none⟩) 2 2,.slice none 0 0] 27 (0,0));replace HX:=zb (HX.out.below hb5);replace HT:=zb (HT.out.below hb5);replace HU:=zb (HU.out.below hb5);replace HF:=zb (HF.out.below hb5);clear hb5 HTR HK HZ0 HEe HEN0;generalize World.alloc Wz _=w5 at *)
             | (have HE9:=zb (ya (h:=⟨10,t.2,[],0,[],[]⟩) (args:=[a,b]) HEZ.out HTR.out HK.out HLT.out HEN.out.1 HEN.out.2 rfl);unfold set8 at HE9;have HE:=zb HE9.out.1;replace HX:Hid (ZeroBox _ ((w.heap.size+1))):=zb ((HE9.out.2 _ HEN.out.2.symm).trans HX.out);replace HT:Hid (TkBox _ (w.heap.size) t):=zb ((HE9.out.2 _ p0).trans HT.out);clear HE9 HTR HK HEZ HZ0 HEe HEN0 HEN;clear x0 x1 x2 x3 x4 x5 x6 x7 y0 y1 y2 y3 y4 y5 y6 y7 hxl;generalize World.setCell _ _ _=w5 at *)
            obtain⟨e0,e1,e2,e3,e4,e5,e6,e7,ef⟩:=Box8.cells HE.out.box
            have g2:=ef 2
            have el:=HE.out.box.lt
            clear ef
            go_upto_region 11 with fail
            replace HX:=zb (HX.out.set HE.out.ne 2 (.string ⟨t2.1.text.toArray⟩))
            replace HE:=zb (HE.out.name t2.1.text)
            clear e0 e1 e2 e3 e4 e5 e6 e7 g2 el
            generalize World.setCell _ _ _=w4 at *
            obtain⟨e0,e1,e2,e3,e4,e5,e6,e7,ef⟩:=Box8.cells HE.out.box
            have el:=HE.out.box.lt
            clear ef
            obtain⟨x0,x1,x2,x3,x4,x5,x6,x7,xf⟩:=(Box8.cells HX.out)
            have y0:=xf 0
            have y1:=xf 1
            have y2:=xf 2
            have y3:=xf 3
            have y4:=xf 4
            have y5:=xf 5
            have y6:=xf 6
            have y7:=xf 7
            have hxl:=HX.out.lt
            clear xf
            have HS:=zb (HE.out.ret rfl HX.out HB0.out HLT.out rfl)
            unfold set8 at HS
            dsimp only at HS
            go_wp2_with fail
            generalize World.setCell _ _ _=w9 at *
            rw[HR.out]
            exact zu Tryz.results132 rfl rfl (HS.out _ (Below.refl _ _))
        · rw[hy,if_neg (by decide)] at HR
          have HG:=zb (zr HK.out.grown hb2)
          clear hb2 HAC
          unfold faultV
          go_wp2_with fail
          exact⟨rfl,by rw[HR.out];exact⟨t7,S7,rfl,rfl,HG.out⟩⟩
     · rw[hy,if_neg (by decide)] at HR
       have HG:=zb (zr HK.out.grown hb2)
       clear hb2 HAC
       unfold faultV
       go_wp2_with fail
       exact⟨rfl,by rw[HR.out];exact⟨t4,S4,rfl,rfl,HG.out⟩⟩
   · rw[hy,if_neg (by decide)] at HR
     have HG:=zb (zr HK.out.grown hb2)
     clear hb2 HAC
     unfold faultV
     go_wp2_with fail
     exact⟨rfl,by rw[HR.out];exact⟨t2,S2,rfl,rfl,HG.out⟩⟩
 · rw[hy,if_neg (by decide)] at HR
   replace HX:=zb (HX.out.below hb2)
   replace HT:=zb (HT.out.below hb2)
   replace HK:=zb (HK.out.below hb2)
   clear hb2 HAC
   have hbp:=zj (w:=W1) zeroTok
   replace HX:=zb (HX.out.below hbp)
   replace HT:=zb (HT.out.below hbp)
   replace HK:=zb (HK.out.below hbp)
   clear hbp
   have HAC:=zb (fun W h=>vQ p t0 S0 W h)
   unfold tokAgg
   go_wp2_with fail
   refine(HAC.out _ HK.out.at_).mono ?_
   rintro e W2 (⟨hy,rfl,hp2,hg2⟩ | ⟨hy,rfl,hb2⟩)
   · rw[hy,if_pos rfl] at HR
     have hk2:=Keep.mk hp2 hg2
     replace HX:=zb (HX.out.keep hk2 HPB.out)
     replace HT:=zb (HT.out.keep hk2 HTP.out)
     replace HK:=zb (HK.out.trans hk2)
     clear hy hp2 hg2 hk2 HAC
     obtain⟨t3,S3,rfl⟩:=HK.out.at_.row.cons
     simp only[exec] at HR
     have HAC:=zb (fun W b h hb=>zE p t3 S3 [sEq] _ _ rfl rfl (by decide) W b h hb)
     go_wp2_with fail
     refine(HAC.out _ _ HK.out.at_ (by simp)).mono ?_
     rintro e W4 (⟨hy,rfl,hp2,hg2⟩ | ⟨hy,rfl,hb2⟩)
     · rw[hy,if_pos rfl] at HR
       have hk2:=Keep.mk hp2 hg2
       replace HX:=zb (HX.out.keep hk2 HPB.out)
       replace HT:=zb (HT.out.keep hk2 HTP.out)
       replace HK:=zb (HK.out.trans hk2)
       clear hp2 hg2 hk2 HAC hy
       unfold tokVal tokAgg
       go_wp2_with fail
       cases hr:run f .seq S3 with
       | out =>
        rw[hr] at HR
        exact absurd HR.out HN.out
       | bad R9 =>
        rw[hr] at HR
        refine(HHS.out S3 _ HK.out.at_ (by rw[hr];exact fun h=>by cases h)).mono ?_
        rw[hr]
        rintro e w8 ⟨t8,S8,rfl,rfl,hg⟩
        have HG:=zb (zo HK.out.grown hg)
        clear hg hr
        unfold faultV
        go_wp2_with fail
        exact⟨rfl,by rw[HR.out];exact⟨t8,S8,rfl,rfl,HG.out⟩⟩
       | ok a R5 =>
        rw[hr] at HR
        refine(HHS.out S3 _ HK.out.at_ (by rw[hr];exact fun h=>by cases h)).mono ?_
        rw[hr]
        rintro e W5 ⟨s5,rfl,ha,hk⟩
        clear hr
        have HAa:Hid (IsE W5 (fun g=>(w.heap.size+1)<g) (exL a s5) a):=zb (ha.wide fun g hg=>zd HX.out.lt hg)
        clear ha
        replace HX:=zb (HX.out.keep hk HPB.out)
        replace HT:=zb (HT.out.keep hk HTP.out)
        replace HK:=zb (HK.out.trans hk)
        clear hk
        have hbx:=zj (w:=W5) (exObj a s5)
        have HF:=zb (ExBox.new W5 a s5)
        have HFP:Hid (p<W5.heap.size):=zb (by have:=HPB.out;have:=HX.out.lt;omega)
        have HFZ:Hid ((w.heap.size+1)<W5.heap.size):=zb HX.out.lt
        replace HX:=zb (HX.out.below hbx)
        replace HT:=zb (HT.out.below hbx)
        replace HAa:=zb (HAa.out.below hbx)
        replace HK:=zb (HK.out.below hbx)
        clear hbx
        obtain⟨t6,S6,rfl⟩:=HK.out.at_.row.cons
        simp only[exec] at HR
        have HAC:=zb (fun W b h hb=>zE p t6 S6 [sIn] _ _ rfl rfl (by decide) W b h hb)
        unfold exOf exV
        go_wp2_with fail
        refine(HAC.out _ _ HK.out.at_ (by simp)).mono ?_
        rintro e W7 (⟨hy,rfl,hp2,hg2⟩ | ⟨hy,rfl,hb2⟩)
        · rw[hy,if_pos rfl] at HR
          have hk2:=Keep.mk hp2 hg2
          replace HX:=zb (HX.out.keep hk2 HPB.out)
          replace HT:=zb (HT.out.keep hk2 HTP.out)
          replace HF:=zb (HF.out.keep hk2 HFP.out)
          replace HAa:=zb (HAa.out.keep hk2 (fun g hg=>by have:=HPB.out;omega))
          replace HK:=zb (HK.out.trans hk2)
          clear hp2 hg2 hk2 HAC hy
          unfold tokVal tokAgg
          go_upto_region 9 with fail
          generalize hb1:W5.heap.size=b1 at *
          clear hb1
          have HKd:=zb (HK.out.below (zm _))
          have hz0:Below W7.heap.size W7 (W7.alloc zeroObj).drew:=(zj zeroObj).trans ((zm _).mono (by simp))
          have HZ0:=zb hz0
          have HKe:=zb (HK.out.below hz0)
          have HEe:=zb ((ZeroBox.new W7).below (zm _))
          clear hz0
          obtain⟨k0,k1,k2,k3,_⟩:=TokBox.cells (HT.out);have kl:=(HT.out).lt
          have n0:¬w.heap.size=(w.heap.size+1):=by skip;omega
          have m0:¬(w.heap.size+1)=w.heap.size:=by skip;omega
          have p0:¬w.heap.size=W7.heap.size:=by omega
          have q0:¬W7.heap.size=w.heap.size:=by omega
          obtain⟨f0,f1,f2,f3,f4,f5,f6,f7,_⟩:=Box8.cells (HF.out);have fl:=(HF.out).lt
          have n1:¬b1=(w.heap.size+1):=by have:=HFZ.out;omega
          have m1:¬(w.heap.size+1)=b1:=by have:=HFZ.out;omega
          have p1:¬b1=W7.heap.size:=by omega
          have q1:¬W7.heap.size=b1:=by omega
          cases hr:run f .seq S6 with
          | out =>
           rw[hr] at HR
           exact absurd HR.out HN.out
          | bad R9 =>
           rw[hr] at HR
           have HSC:Hid (∀ W,PAt W p S6→Calls Tryz.prog 47 #[ptrV p] W (Told (.bad R9) W p)):=zb (fun W h=>by
            have:=HHS.out S6 W h (by rw[hr];exact fun h=>by cases h)
            rwa [hr] at this)
           clear hr
           go_region_dies
           all_goals first | (refine(HSC.out _ HKd.out.at_).mono ?_;rintro e w8 ⟨t8,S8,rfl,rfl,hg⟩;have HG:=zb (zo HKd.out.grown hg);exact⟨rfl,by rw[HR.out];exact⟨t8,S8,rfl,rfl,HG.out⟩⟩) | (refine(HSC.out _ HKe.out.at_).mono ?_;rintro e w8 ⟨t8,S8,rfl,rfl,hg⟩;have HG:=zb (zo HKe.out.grown hg);exact⟨rfl,by rw[HR.out];exact⟨t8,S8,rfl,rfl,HG.out⟩⟩)
          | ok b Ry =>
           rw[hr] at HR
           have HSC:Hid (∀ W,PAt W p S6→Calls Tryz.prog 47 #[ptrV p] W (Told (.ok b Ry) W p)):=zb (fun W h=>by
            have:=HHS.out S6 W h (by rw[hr];exact fun h=>by cases h)
            rwa [hr] at this)
           clear hr
           have HEN0:Hid (w.heap.size≤W7.heap.size∧W7.heap.size≠(w.heap.size+1)):=zb ⟨HK.out.size,by have:=HX.out.lt;omega⟩
           go_region_held3 (fun W=>W.cell? ⟨w.heap.size,0,none⟩=some (.int .i64 t.1.kind)∧W.cell? ⟨w.heap.size,1,none⟩=some (.int .i64 (t.2:Nat))∧W.cell? ⟨w.heap.size,2,none⟩=some (.string ⟨t.1.text.toArray⟩)∧W.cell? ⟨w.heap.size,3,none⟩=some (.int .i64 t.1.n)∧W.cell? ⟨b1,0,none⟩=some (.int .i64 a.hd.kind)∧W.cell? ⟨b1,1,none⟩=some (.int .i64 a.hd.pos)∧W.cell? ⟨b1,2,none⟩=some (.string ⟨a.hd.name.toArray⟩)∧W.cell? ⟨b1,3,none⟩=some (.int .i64 a.hd.n)∧W.cell? ⟨b1,4,none⟩=some (.string ⟨a.hd.s.toArray⟩)∧W.cell? ⟨b1,5,none⟩=some (.slice s5.la a.hd.labels.length s5.lc)∧W.cell? ⟨b1,6,none⟩=some (.slice s5.aa a.args.length s5.ac)∧W.cell? ⟨b1,7,none⟩=some (.slice s5.ra a.arms.length s5.rc)) (go_keep) (first | (go_at_call 47; refine(HSC.out _ HKd.out.at_).mono ?_;rintro e Wy ⟨sy,rfl,ha,hk⟩;have HAb:Hid (IsE Wy (fun g=>(w.heap.size+1)<g) (exL b sy) b):=zb (ha.wide fun g hg=>zd (HX.out.below (zm _)).lt hg);replace HAa:=zb ((HAa.out.below (zm _)).keep hk (fun g hg=>Nat.lt_trans HPB.out hg));replace HX:=zb ((HX.out.below (zm _)).keep hk HPB.out);replace HT:=zb ((HT.out.below (zm _)).keep hk HTP.out);replace HF:=zb ((HF.out.below (zm _)).keep hk HFP.out);replace HK:=zb (HKd.out.trans hk);clear HKd HKe;obtain⟨k0,k1,k2,k3,_⟩:=TokBox.cells (HT.out);have kl:=(HT.out).lt;obtain⟨f0,f1,f2,f3,f4,f5,f6,f7,_⟩:=Box8.cells (HF.out);have fl:=(HF.out).lt;clear ha hk;unfold exOf exV) | (go_at_call 47; refine(HSC.out _ HKe.out.at_).mono ?_;rintro e Wy ⟨sy,rfl,ha,hk⟩;have HAb:=zb (ha.fresh_new (b0:=(w.heap.size+1)) (be:=W7.heap.size) (HX.out.below HZ0.out).lt HEe.out.lt);have HEZ:=zb (HEe.out.keep hk (Nat.lt_trans HPB.out HX.out.lt));replace HAa:=zb (((HAa.out.fresh zeroObj).below (zm _)).keep hk (fun g hg=>Nat.lt_trans HPB.out hg.1));replace HX:=zb ((HX.out.below HZ0.out).keep hk HPB.out);replace HT:=zb ((HT.out.below HZ0.out).keep hk HTP.out);replace HF:=zb ((HF.out.below HZ0.out).keep hk HFP.out);replace HK:=zb (HKe.out.trans hk);clear HKd HKe;obtain⟨k0,k1,k2,k3,_⟩:=TokBox.cells (HT.out);have kl:=(HT.out).lt;obtain⟨f0,f1,f2,f3,f4,f5,f6,f7,_⟩:=Box8.cells (HF.out);have fl:=(HF.out).lt;clear ha hk;unfold exOf exV) | (go_at_call 87; refine(zz 9 t (some _) 2 2 _).mono ?_;rintro e Wz ⟨rfl,hb2⟩;have HNR:=zb (zG (L:=[exL a s5,exL b sy]) (args:=[a,b]) HK.out ⟨HAa.out,HAb.out,trivial⟩ HX.out.lt (by simp) ⟨9,t.2,[],0,[],[]⟩ rfl hb2);have HTR:=zb HNR.out.1;replace HX:=zb (HX.out.below HNR.out.2.2);replace HK:=zb HNR.out.2.1;have p0:¬w.heap.size=Wz.heap.size:=(by have:=HT.out.lt;have:=HNR.out.2.2.size;omega);have q0:¬Wz.heap.size=w.heap.size:=(by omega);have p1:¬b1=Wz.heap.size:=(by have:=HF.out.lt;have:=HNR.out.2.2.size;omega);have q1:¬Wz.heap.size=b1:=(by omega);replace HT:=zb (HT.out.below HNR.out.2.2);replace HF:=zb (HF.out.below HNR.out.2.2);obtain⟨k0,k1,k2,k3,_⟩:=TokBox.cells (HT.out);have kl:=(HT.out).lt;obtain⟨f0,f1,f2,f3,f4,f5,f6,f7,_⟩:=Box8.cells (HF.out);have fl:=(HF.out).lt;clear hb2 HNR;unfold exV) | (go_at_call 87; refine(zz 9 t (some _) 2 2 _).mono ?_;rintro e Wz ⟨rfl,hb2⟩;have HNR:=zb (zJ (N:=Nb ((w.heap.size+1)) W7.heap.size) (L:=[exL a s5,exL b sy]) (args:=[a,b]) HK.out ⟨HAa.out,HAb.out,trivial⟩ ⟨HX.out.lt,Nat.ne_of_gt HEZ.out.lt⟩ (by simp) ⟨9,t.2,[],0,[],[]⟩ rfl hb2);have HTR:=zb HNR.out.1;replace HEZ:=zb (HEZ.out.below HNR.out.2.2);have HEN:Hid (w.heap.size≤W7.heap.size∧W7.heap.size≠(w.heap.size+1)):=HEN0;replace HX:=zb (HX.out.below HNR.out.2.2);replace HK:=zb HNR.out.2.1;obtain⟨x0,x1,x2,x3,x4,x5,x6,x7,xf⟩:=(Box8.cells HEZ.out);have y0:=xf 0;have y1:=xf 1;have y2:=xf 2;have y3:=xf 3;have y4:=xf 4;have y5:=xf 5;have y6:=xf 6;have y7:=xf 7;have hxl:=HEZ.out.lt;clear xf;replace HT:=zb (HT.out.below HNR.out.2.2);replace HF:=zb (HF.out.below HNR.out.2.2);obtain⟨k0,k1,k2,k3,_⟩:=TokBox.cells (HT.out);have kl:=(HT.out).lt;obtain⟨f0,f1,f2,f3,f4,f5,f6,f7,_⟩:=Box8.cells (HF.out);have fl:=(HF.out).lt;clear hb2 HNR;unfold exV) | (go_at_call 87; refine(zz 9 t (some _) 2 2 _).mono ?_;rintro e Wz ⟨rfl,hb2⟩;have HNR:=zb (zJ (N:=Nb ((w.heap.size+1)) Wy.heap.size) (L:=[exL a s5,exL b sy]) (args:=[a,b]) (HK.out.below (zj zeroObj)) ⟨HAa.out.fresh zeroObj,HAb.out.fresh zeroObj,trivial⟩ ⟨(HX.out.below (zj zeroObj)).lt,by simp⟩ (by simp) ⟨9,t.2,[],0,[],[]⟩ rfl hb2);have HTR:=zb HNR.out.1;have HEZ:=zb ((ZeroBox.new Wy).below HNR.out.2.2);replace HNR:Hid (True∧Keep w p Ry Wz∧Below Wy.heap.size Wy Wz):=zb ⟨trivial,HNR.out.2.1,(zj zeroObj).trans (HNR.out.2.2.mono (by simp))⟩;simp only[World.size_alloc] at HTR;have HEN:Hid (w.heap.size≤Wy.heap.size∧Wy.heap.size≠(w.heap.size+1)):=zb ⟨HK.out.size,by have:=HX.out.lt;omega⟩;replace HX:=zb (HX.out.below HNR.out.2.2);replace HK:=zb HNR.out.2.1;obtain⟨x0,x1,x2,x3,x4,x5,x6,x7,xf⟩:=(Box8.cells HEZ.out);have y0:=xf 0;have y1:=xf 1;have y2:=xf 2;have y3:=xf 3;have y4:=xf 4;have y5:=xf 5;have y6:=xf 6;have y7:=xf 7;have hxl:=HEZ.out.lt;clear xf;have p0:¬w.heap.size=Wy.heap.size:=(by have:=HT.out.lt;have:=HNR.out.2.2.size;omega);have q0:¬Wy.heap.size=w.heap.size:=(by omega);have p1:¬b1=Wy.heap.size:=(by have:=HF.out.lt;have:=HNR.out.2.2.size;omega);have q1:¬Wy.heap.size=b1:=(by omega);replace HT:=zb (HT.out.below HNR.out.2.2);replace HF:=zb (HF.out.below HNR.out.2.2);obtain⟨k0,k1,k2,k3,_⟩:=TokBox.cells (HT.out);have kl:=(HT.out).lt;obtain⟨f0,f1,f2,f3,f4,f5,f6,f7,_⟩:=Box8.cells (HF.out);have fl:=(HF.out).lt;clear hb2 HNR;unfold exV) | (go_at_call 87; refine(zz 9 t (some _) 2 2 _).mono ?_;rintro e Wz ⟨rfl,hb2⟩;have HN0:=zG (L:=[exL a s5,exL b sy]) (args:=[a,b]) HK.out ⟨HAa.out,HAb.out,trivial⟩ HX.out.lt (by simp) ⟨9,t.2,[],0,[],[]⟩ rfl (Below.refl _ (Wy.alloc (.cells (List.flatten [exL a s5,exL b sy]).toArray 27 (0,0))));have HTR:=zb ((HN0.1.fresh zeroObj).below hb2);have HEZ:=zb ((ZeroBox.new (Wy.alloc (.cells (List.flatten [exL a s5,exL b sy]).toArray 27 (0,0)))).below hb2);have HNR:Hid (True∧Keep w p Ry Wz∧Below Wy.heap.size Wy Wz):=zb ⟨trivial,(HN0.2.1.below (zj zeroObj)).below hb2,(HN0.2.2.trans ((zj zeroObj).mono HN0.2.2.size)).trans (hb2.mono (by simp;omega))⟩;clear HN0;simp only[World.size_alloc] at HTR HEZ;have HEN:Hid (w.heap.size≤Wy.heap.size+1∧Wy.heap.size+1≠(w.heap.size+1)):=zb ⟨by have:=HK.out.size;omega,by have:=HX.out.lt;omega⟩;replace HX:=zb (HX.out.below HNR.out.2.2);replace HK:=zb HNR.out.2.1;obtain⟨x0,x1,x2,x3,x4,x5,x6,x7,xf⟩:=(Box8.cells HEZ.out);have y0:=xf 0;have y1:=xf 1;have y2:=xf 2;have y3:=xf 3;have y4:=xf 4;have y5:=xf 5;have y6:=xf 6;have y7:=xf 7;have hxl:=HEZ.out.lt;clear xf;have p0:¬w.heap.size=(Wy.heap.size+1):=(by have:=HT.out.lt;have:=HNR.out.2.2.size;omega);have q0:¬(Wy.heap.size+1)=w.heap.size:=(by omega);have p1:¬b1=(Wy.heap.size+1):=(by have:=HF.out.lt;have:=HNR.out.2.2.size;omega);have q1:¬(Wy.heap.size+1)=b1:=(by omega);replace HT:=zb (HT.out.below HNR.out.2.2);replace HF:=zb (HF.out.below HNR.out.2.2);obtain⟨k0,k1,k2,k3,_⟩:=TokBox.cells (HT.out);have kl:=(HT.out).lt;obtain⟨f0,f1,f2,f3,f4,f5,f6,f7,_⟩:=Box8.cells (HF.out);have fl:=(HF.out).lt;clear hb2 HNR;unfold exV))
           all_goals
            first
             | (have HE:=zb (yK (h:=⟨9,t.2,[],0,[],[]⟩) (args:=[a,b]) HTR.out HK.out HLT.out HX.out.lt _ rfl);have hb5:=zj (w:=Wz) (.cells #[.int .i64 9,.int .i64 (t.2:Nat),.string ⟨#[]⟩,.int .i64 (0),.string ⟨#[]⟩,.slice none 0 0,.slice (some ⟨Wy.heap.size,0,none⟩) 2 2,.slice none 0 0] 27 (0,0));replace HX:=zb (HX.out.below hb5);replace HT:=zb (HT.out.below hb5);replace HF:=zb (HF.out.below hb5);clear hb5 HTR HK HZ0 HEe HEN0;generalize World.alloc Wz _=w5 at *)
             | (have HE9:=zb (ya (h:=⟨9,t.2,[],0,[],[]⟩) (args:=[a,b]) HEZ.out HTR.out HK.out HLT.out HEN.out.1 HEN.out.2 rfl);unfold set8 at HE9;have HE:=zb HE9.out.1;replace HX:Hid (ZeroBox _ ((w.heap.size+1))):=zb ((HE9.out.2 _ HEN.out.2.symm).trans HX.out);replace HT:Hid (TkBox _ (w.heap.size) t):=zb ((HE9.out.2 _ p0).trans HT.out);clear HE9 HTR HK HEZ HZ0 HEe HEN0 HEN;clear x0 x1 x2 x3 x4 x5 x6 x7 y0 y1 y2 y3 y4 y5 y6 y7 hxl;generalize World.setCell _ _ _=w5 at *)
            obtain⟨e0,e1,e2,e3,e4,e5,e6,e7,ef⟩:=Box8.cells HE.out.box
            have g2:=ef 2
            have el:=HE.out.box.lt
            clear ef
            go_upto_region 11 with fail
            replace HX:=zb (HX.out.set HE.out.ne 2 (.string ⟨t0.1.text.toArray⟩))
            replace HE:=zb (HE.out.name t0.1.text)
            clear e0 e1 e2 e3 e4 e5 e6 e7 g2 el
            generalize World.setCell _ _ _=w4 at *
            obtain⟨e0,e1,e2,e3,e4,e5,e6,e7,ef⟩:=Box8.cells HE.out.box
            have el:=HE.out.box.lt
            clear ef
            obtain⟨x0,x1,x2,x3,x4,x5,x6,x7,xf⟩:=(Box8.cells HX.out)
            have y0:=xf 0
            have y1:=xf 1
            have y2:=xf 2
            have y3:=xf 3
            have y4:=xf 4
            have y5:=xf 5
            have y6:=xf 6
            have y7:=xf 7
            have hxl:=HX.out.lt
            clear xf
            have HS:=zb (HE.out.ret rfl HX.out HB0.out HLT.out rfl)
            unfold set8 at HS
            dsimp only at HS
            go_wp2_with fail
            generalize World.setCell _ _ _=w9 at *
            rw[HR.out]
            exact zu Tryz.results132 rfl rfl (HS.out _ (Below.refl _ _))
        · rw[hy,if_neg (by decide)] at HR
          have HG:=zb (zr HK.out.grown hb2)
          clear hb2 HAC
          unfold faultV
          go_wp2_with fail
          exact⟨rfl,by rw[HR.out];exact⟨t6,S6,rfl,rfl,HG.out⟩⟩
     · rw[hy,if_neg (by decide)] at HR
       have HG:=zb (zr HK.out.grown hb2)
       clear hb2 HAC
       unfold faultV
       go_wp2_with fail
       exact⟨rfl,by rw[HR.out];exact⟨t3,S3,rfl,rfl,HG.out⟩⟩
   · rw[hy,if_neg (by decide)] at HR
     have HG:=zb (zr HK.out.grown hb2)
     clear hb2 HAC
     unfold faultV
     go_wp2_with fail
     exact⟨rfl,by rw[HR.out];exact⟨t0,S0,rfl,rfl,HG.out⟩⟩
