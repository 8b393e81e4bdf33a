/-
  The walk of fun.
-/
import Derived.Test.YtblonfjlcfjodaaGreatDoorGNode
import Derived.RegionDies
namespace Go.Proofs.YtblonfjlcfjodaaGreatDoor
set_option linter.unusedSimpArgs false
set_option linter.unusedVariables false
set_option maxRecDepth 100000
set_option maxHeartbeats 4000000
section
open Go.RowKit
theorem w_fun (f p:Nat) (hs:Says f .seq 69 #[ptrV p] p):Says (f+1) .fn 177 #[ptrV p] p:=by
 have HHS:=zb hs;clear hs;intro T w hp hne;have HLT:=zb hp.lt;have HK:=zb (Keep.start hp);have hbx:=zj (w:=w) zeroObj;have HX:Hid (ZeroBox (w.alloc zeroObj) w.heap.size):=zb (ZeroBox.new w);replace HK:=zb (HK.out.below hbx);clear hbx;have HPB:Hid (p<w.heap.size):=zb (by have:=HLT.out;omega);have HB0:Hid (w.heap.size<=w.heap.size):=zb (by omega);have HR:Hid (run (f+1) .fn T=exec (run f) (step .fn) T):=zb rfl;have HN:=zb hne;obtain⟨t0,S0,hT0⟩:=hp.row.cons;generalize run (f+1) .fn T=res at *;subst hT0;simp only[step,need,name,exec] at HR;clear hp hne
 go_enter Tryz.func177, Tryz.ntmps177
 have HAC:=zb (fun W b h hb=>zE p t0 S0 [sFun] _ _ rfl rfl (by decide) W b h hb)
 go_wp2_with fail
 refine(HAC.out _ _ HK.out.at_ (by simp)).mono ?_;rintro e W1 (⟨hy,rfl,hp2,hg2⟩ | ⟨hy,rfl,hb2⟩)
 . rw[hy,if_pos rfl] at HR;have hk2:=Keep.mk hp2 hg2;replace HX:=zb (HX.out.keep hk2 HPB.out);replace HK:=zb (HK.out.trans hk2);clear hp2 hg2 hk2 HAC hy;have hbx:=zj (w:=W1) (tokObj t0);have HT:=zb (TkBox.new W1 t0);have HTP:Hid (p<W1.heap.size):=zb (by have:=HPB.out;have:=HX.out.lt;omega);have HTZ:Hid (w.heap.size<W1.heap.size):=zb HX.out.lt;replace HX:=zb (HX.out.below hbx);replace HK:=zb (HK.out.below hbx);clear hbx;obtain⟨t2,S2,rfl⟩:=HK.out.at_.row.cons;simp only[exec] at HR;have HAC:=zb (fun W h=>vQ p t2 S2 W h);unfold tokVal tokAgg
   go_wp2_with fail
   refine(HAC.out _ HK.out.at_).mono ?_;rintro e W3 (⟨hy,rfl,hp2,hg2⟩ | ⟨hy,rfl,hb2⟩)
   . rw[hy,if_pos rfl] at HR;have hk2:=Keep.mk hp2 hg2;replace HX:=zb (HX.out.keep hk2 HPB.out);replace HT:=zb (HT.out.keep hk2 HTP.out);replace HK:=zb (HK.out.trans hk2);clear hy hp2 hg2 hk2 HAC;obtain⟨t4,S4,rfl⟩:=HK.out.at_.row.cons;simp only[exec] at HR;have HAC:=zb (fun W b h hb=>zE p t4 S4 [sArrow] _ _ rfl rfl (by decide) W b h hb)
     go_wp2_with fail
     refine(HAC.out _ _ HK.out.at_ (by simp)).mono ?_;rintro e W5 (⟨hy,rfl,hp2,hg2⟩ | ⟨hy,rfl,hb2⟩)
     . rw[hy,if_pos rfl] at HR;have hk2:=Keep.mk hp2 hg2;replace HX:=zb (HX.out.keep hk2 HPB.out);replace HT:=zb (HT.out.keep hk2 HTP.out);replace HK:=zb (HK.out.trans hk2);clear hp2 hg2 hk2 HAC hy;unfold tokVal tokAgg
       go_upto_region 4 with fail
       generalize hb0:W1.heap.size=b0 at *;clear hb0;have HKd:=zb (HK.out.below (zm _));have hz0:Below W5.heap.size W5 (W5.alloc zeroObj).drew:=(zj zeroObj).trans ((zm _).mono (by simp));have HZ0:=zb hz0;have HKe:=zb (HK.out.below hz0);have HEe:=zb ((ZeroBox.new W5).below (zm _));clear hz0;obtain⟨k0,k1,k2,k3,_⟩:=TokBox.cells (HT.out);have kl:=(HT.out).lt;have n0:¬b0=w.heap.size:=by have:=HTZ.out;omega
       have m0:¬w.heap.size=b0:=by have:=HTZ.out;omega
       have p0:¬b0=W5.heap.size:=by omega
       have q0:¬W5.heap.size=b0:=by omega
       cases hr:run f .seq S4 with
       | out =>
        rw[hr] at HR;exact absurd HR.out HN.out
       | bad R9 =>
        rw[hr] at HR;have HSC:Hid (∀ W,PAt W p S4->Calls Tryz.prog 69 #[ptrV p] W (Told (.bad R9) W p)):=zb (fun W h=>by
         have:=HHS.out S4 W h (by rw[hr];exact fun h=>by cases h)
         rwa [hr] at this)
        clear hr
        go_region_dies
        all_goals first | (refine(HSC.out _ HKd.out.at_).mono ?_;rintro e w8 ⟨t8,S8,rfl,rfl,hg⟩;have HG:=zb (zo HKd.out.grown hg);exact⟨rfl,by rw[HR.out];exact⟨t8,S8,rfl,rfl,HG.out⟩⟩) | (refine(HSC.out _ HKe.out.at_).mono ?_;rintro e w8 ⟨t8,S8,rfl,rfl,hg⟩;have HG:=zb (zo HKe.out.grown hg);exact⟨rfl,by rw[HR.out];exact⟨t8,S8,rfl,rfl,HG.out⟩⟩)
       | ok b Ry =>
        rw[hr] at HR;have HSC:Hid (∀ W,PAt W p S4->Calls Tryz.prog 69 #[ptrV p] W (Told (.ok b Ry) W p)):=zb (fun W h=>by
         have:=HHS.out S4 W h (by rw[hr];exact fun h=>by cases h)
         rwa [hr] at this)
        clear hr;have HEN0:Hid (w.heap.size<=W5.heap.size/\W5.heap.size≠w.heap.size):=zb ⟨HK.out.size,by have:=HX.out.lt;omega⟩
        go_region_held3 (fun W=>W.cell? ⟨b0,0,none⟩=some (.int .i64 t0.1.kind)/\W.cell? ⟨b0,1,none⟩=some (.int .i64 (t0.2:Nat))/\W.cell? ⟨b0,2,none⟩=some (.string ⟨t0.1.text.toArray⟩)/\W.cell? ⟨b0,3,none⟩=some (.int .i64 t0.1.n)) (go_keep) (first | (go_at_call 69; refine(HSC.out _ HKd.out.at_).mono ?_;rintro e Wy ⟨sy,rfl,ha,hk⟩;have HAb:Hid (IsE Wy (fun g=>w.heap.size<g) (exL b sy) b):=zb (ha.wide fun g hg=>zd (HX.out.below (zm _)).lt hg);replace HX:=zb ((HX.out.below (zm _)).keep hk HPB.out);replace HT:=zb ((HT.out.below (zm _)).keep hk HTP.out);replace HK:=zb (HKd.out.trans hk);clear HKd HKe;obtain⟨k0,k1,k2,k3,_⟩:=TokBox.cells (HT.out);have kl:=(HT.out).lt;clear ha hk;unfold exOf exV) | (go_at_call 69; refine(HSC.out _ HKe.out.at_).mono ?_;rintro e Wy ⟨sy,rfl,ha,hk⟩;have HAb:=zb (ha.fresh_new (b0:=w.heap.size) (be:=W5.heap.size) (HX.out.below HZ0.out).lt HEe.out.lt);have HEZ:=zb (HEe.out.keep hk (Nat.lt_trans HPB.out HX.out.lt));replace HX:=zb ((HX.out.below HZ0.out).keep hk HPB.out);replace HT:=zb ((HT.out.below HZ0.out).keep hk HTP.out);replace HK:=zb (HKe.out.trans hk);clear HKd HKe;obtain⟨k0,k1,k2,k3,_⟩:=TokBox.cells (HT.out);have kl:=(HT.out).lt;clear ha hk;unfold exOf exV) | (go_at_call 123; refine(zz 7 t0 (some _) 1 1 _).mono ?_;rintro e Wz ⟨rfl,hb2⟩;have HNR:=zb (zG (L:=[exL b sy]) (args:=[b]) HK.out ⟨HAb.out,trivial⟩ HX.out.lt (by simp) ⟨7,t0.2,[],0,[],[]⟩ rfl hb2);have HTR:=zb HNR.out.1;replace HX:=zb (HX.out.below HNR.out.2.2);replace HK:=zb HNR.out.2.1;have p0:¬b0=Wz.heap.size:=(by have:=HT.out.lt;have:=HNR.out.2.2.size;omega);have q0:¬Wz.heap.size=b0:=(by omega);replace HT:=zb (HT.out.below HNR.out.2.2);obtain⟨k0,k1,k2,k3,_⟩:=TokBox.cells (HT.out);have kl:=(HT.out).lt;clear hb2 HNR;unfold exV) | (go_at_call 123; refine(zz 7 t0 (some _) 1 1 _).mono ?_;rintro e Wz ⟨rfl,hb2⟩;have HNR:=zb (zJ (N:=Nb (w.heap.size) W5.heap.size) (L:=[exL b sy]) (args:=[b]) HK.out ⟨HAb.out,trivial⟩ ⟨HX.out.lt,Nat.ne_of_gt HEZ.out.lt⟩ (by simp) ⟨7,t0.2,[],0,[],[]⟩ rfl hb2);have HTR:=zb HNR.out.1;replace HEZ:=zb (HEZ.out.below HNR.out.2.2);have HEN:Hid (w.heap.size<=W5.heap.size/\W5.heap.size≠w.heap.size):=HEN0;replace HX:=zb (HX.out.below HNR.out.2.2);replace HK:=zb HNR.out.2.1;obtain⟨x0,x1,x2,x3,x4,x5,x6,x7,xf⟩:=(Box8.cells HEZ.out);have y0:=xf 0;have y1:=xf 1;have y2:=xf 2;have y3:=xf 3;have y4:=xf 4;have y5:=xf 5;have y6:=xf 6;have y7:=xf 7;have hxl:=HEZ.out.lt;clear xf;replace HT:=zb (HT.out.below HNR.out.2.2);obtain⟨k0,k1,k2,k3,_⟩:=TokBox.cells (HT.out);have kl:=(HT.out).lt;clear hb2 HNR;unfold exV) | (go_at_call 123; refine(zz 7 t0 (some _) 1 1 _).mono ?_;rintro e Wz ⟨rfl,hb2⟩;have HNR:=zb (zJ (N:=Nb (w.heap.size) Wy.heap.size) (L:=[exL b sy]) (args:=[b]) (HK.out.below (zj zeroObj)) ⟨HAb.out.fresh zeroObj,trivial⟩ ⟨(HX.out.below (zj zeroObj)).lt,by simp⟩ (by simp) ⟨7,t0.2,[],0,[],[]⟩ rfl hb2);have HTR:=zb HNR.out.1;have HEZ:=zb ((ZeroBox.new Wy).below HNR.out.2.2);replace HNR:Hid (True/\Keep w p Ry Wz/\Below Wy.heap.size Wy Wz):=zb ⟨trivial,HNR.out.2.1,(zj zeroObj).trans (HNR.out.2.2.mono (by simp))⟩;simp only[World.size_alloc] at HTR;have HEN:Hid (w.heap.size<=Wy.heap.size/\Wy.heap.size≠w.heap.size):=zb ⟨HK.out.size,by have:=HX.out.lt;omega⟩;replace HX:=zb (HX.out.below HNR.out.2.2);replace HK:=zb HNR.out.2.1;obtain⟨x0,x1,x2,x3,x4,x5,x6,x7,xf⟩:=(Box8.cells HEZ.out);have y0:=xf 0;have y1:=xf 1;have y2:=xf 2;have y3:=xf 3;have y4:=xf 4;have y5:=xf 5;have y6:=xf 6;have y7:=xf 7;have hxl:=HEZ.out.lt;clear xf;have p0:¬b0=Wy.heap.size:=(by have:=HT.out.lt;have:=HNR.out.2.2.size;omega);have q0:¬Wy.heap.size=b0:=(by omega);replace HT:=zb (HT.out.below HNR.out.2.2);obtain⟨k0,k1,k2,k3,_⟩:=TokBox.cells (HT.out);have kl:=(HT.out).lt;clear hb2 HNR;unfold exV) | (go_at_call 123; refine(zz 7 t0 (some _) 1 1 _).mono ?_;rintro e Wz ⟨rfl,hb2⟩;have HN0:=zG (L:=[exL b sy]) (args:=[b]) HK.out ⟨HAb.out,trivial⟩ HX.out.lt (by simp) ⟨7,t0.2,[],0,[],[]⟩ rfl (Below.refl _ (Wy.alloc (.cells (List.flatten [exL b sy]).toArray 27 (0,0))));have HTR:=zb ((HN0.1.fresh zeroObj).below hb2);have HEZ:=zb ((ZeroBox.new (Wy.alloc (.cells (List.flatten [exL b sy]).toArray 27 (0,0)))).below hb2);have HNR:Hid (True/\Keep w p Ry Wz/\Below Wy.heap.size Wy Wz):=zb ⟨trivial,(HN0.2.1.below (zj zeroObj)).below hb2,(HN0.2.2.trans ((zj zeroObj).mono HN0.2.2.size)).trans (hb2.mono (by simp;omega))⟩;clear HN0;simp only[World.size_alloc] at HTR HEZ;have HEN:Hid (w.heap.size<=Wy.heap.size+1/\Wy.heap.size+1≠w.heap.size):=zb ⟨by have:=HK.out.size;omega,by have:=HX.out.lt;omega⟩;replace HX:=zb (HX.out.below HNR.out.2.2);replace HK:=zb HNR.out.2.1;obtain⟨x0,x1,x2,x3,x4,x5,x6,x7,xf⟩:=(Box8.cells HEZ.out);have y0:=xf 0;have y1:=xf 1;have y2:=xf 2;have y3:=xf 3;have y4:=xf 4;have y5:=xf 5;have y6:=xf 6;have y7:=xf 7;have hxl:=HEZ.out.lt;clear xf;have p0:¬b0=(Wy.heap.size+1):=(by have:=HT.out.lt;have:=HNR.out.2.2.size;omega);have q0:¬(Wy.heap.size+1)=b0:=(by omega);replace HT:=zb (HT.out.below HNR.out.2.2);obtain⟨k0,k1,k2,k3,_⟩:=TokBox.cells (HT.out);have kl:=(HT.out).lt;clear hb2 HNR;unfold exV))
        all_goals
         first
          | (have HE:=zb (yK (h:=⟨7,t0.2,[],0,[],[]⟩) (args:=[b]) HTR.out HK.out HLT.out HX.out.lt _ rfl);have hb5:=zj (w:=Wz) (.cells #[.int .i64 7,.int .i64 (t0.2:Nat),.string ⟨#[]⟩,.int .i64 (0),.string ⟨#[]⟩,.slice none 0 0,.slice (some ⟨Wy.heap.size,0,none⟩) 1 1,.slice none 0 0] 27 (0,0));replace HX:=zb (HX.out.below hb5);replace HT:=zb (HT.out.below hb5);clear hb5 HTR HK HZ0 HEe HEN0;generalize World.alloc Wz _=w5 at *)
          | (have HE9:=zb (ya (h:=⟨7,t0.2,[],0,[],[]⟩) (args:=[b]) HEZ.out HTR.out HK.out HLT.out HEN.out.1 HEN.out.2 rfl);unfold set8 at HE9;have HE:=zb HE9.out.1;replace HX:Hid (ZeroBox _ (w.heap.size)):=zb ((HE9.out.2 _ HEN.out.2.symm).trans HX.out);replace HT:Hid (TkBox _ (b0) t0):=zb ((HE9.out.2 _ p0).trans HT.out);clear HE9 HTR HK HEZ HZ0 HEe HEN0 HEN;clear x0 x1 x2 x3 x4 x5 x6 x7 y0 y1 y2 y3 y4 y5 y6 y7 hxl;generalize World.setCell _ _ _=w5 at *)
         obtain⟨e0,e1,e2,e3,e4,e5,e6,e7,ef⟩:=Box8.cells HE.out.box;have g2:=ef 2;have el:=HE.out.box.lt;clear ef
         go_upto_region 6 with fail
         replace HX:=zb (HX.out.set HE.out.ne 2 (.string ⟨t2.1.text.toArray⟩));replace HE:=zb (HE.out.name t2.1.text);clear e0 e1 e2 e3 e4 e5 e6 e7 g2 el;generalize World.setCell _ _ _=w4 at *;obtain⟨e0,e1,e2,e3,e4,e5,e6,e7,ef⟩:=Box8.cells HE.out.box;have el:=HE.out.box.lt;clear ef;obtain⟨x0,x1,x2,x3,x4,x5,x6,x7,xf⟩:=(Box8.cells HX.out);have y0:=xf 0;have y1:=xf 1;have y2:=xf 2;have y3:=xf 3;have y4:=xf 4;have y5:=xf 5;have y6:=xf 6;have y7:=xf 7;have hxl:=HX.out.lt;clear xf;have HS:=zb (HE.out.ret rfl HX.out HB0.out HLT.out rfl);unfold set8 at HS;dsimp only at HS
         go_wp2_with fail
         generalize World.setCell _ _ _=w9 at *;rw[HR.out];exact zu Tryz.results177 rfl rfl (HS.out _ (Below.refl _ _))
     . rw[hy,if_neg (by decide)] at HR;have HG:=zb (zr HK.out.grown hb2);clear hb2 HAC;unfold faultV
       go_wp2_with fail
       exact⟨rfl,by rw[HR.out];exact⟨t4,S4,rfl,rfl,HG.out⟩⟩
   . rw[hy,if_neg (by decide)] at HR;have HG:=zb (zr HK.out.grown hb2);clear hb2 HAC;unfold faultV
     go_wp2_with fail
     exact⟨rfl,by rw[HR.out];exact⟨t2,S2,rfl,rfl,HG.out⟩⟩
 . rw[hy,if_neg (by decide)] at HR;have HG:=zb (zr HK.out.grown hb2);clear hb2 HAC;unfold faultV
   go_wp2_with fail
   exact⟨rfl,by rw[HR.out];exact⟨t0,S0,rfl,rfl,HG.out⟩⟩
end
section
open Go.RowKit
theorem w_choice (f p:Nat) (t:Tok) (hs:Says f .seq 69 #[ptrV p] p) (hi:Says f .item 121 #[ptrV p] p):Says (f+1) (.choice t) 181 #[ptrV p,tokVal t] p:=by
 have HHS:=zb hs;clear hs;have HHI:=zb hi;clear hi;intro T w hp hne;have HLT:=zb hp.lt;have HK:=zb (Keep.start hp);have hbx:=zj (w:=w) (tokObj t);have HT:=zb (TkBox.new w t);have HTP:Hid (p<w.heap.size):=HLT;replace HK:=zb (HK.out.below hbx);clear hbx;have hbx:=zj (w:=(w.alloc (tokObj t))) zeroObj;replace HT:=zb (HT.out.below hbx);have HX:Hid (ZeroBox ((w.alloc (tokObj t)).alloc zeroObj) (w.heap.size+1)):=zb (by have h9:=ZeroBox.new (w.alloc (tokObj t));rwa [World.size_alloc] at h9);replace HK:=zb (HK.out.below hbx);clear hbx;have HPB:Hid (p<(w.heap.size+1)):=zb (by have:=HLT.out;omega);have HB0:Hid (w.heap.size<=(w.heap.size+1)):=zb (by omega);have HR:Hid (run (f+1) (.choice t) T=exec (run f) (step (.choice t)) T):=zb rfl;have HN:=zb hne;obtain⟨t0,S0,hT0⟩:=hp.row.cons;generalize run (f+1) (.choice t) T=res at *;subst hT0;simp only[step,need,exec] at HR;clear hp hne;unfold tokVal tokAgg
 go_enter Tryz.func181, Tryz.ntmps181
 go_wp2_with fail
 cases hr:run f .seq (t0::S0) with
 | out =>
  rw[hr] at HR;exact absurd HR.out HN.out
 | bad R9 =>
  rw[hr] at HR;refine(HHS.out (t0::S0) _ HK.out.at_ (by rw[hr];exact fun h=>by cases h)).mono ?_;rw[hr];rintro e w8 ⟨t8,S8,rfl,rfl,hg⟩;have HG:=zb (zo HK.out.grown hg);clear hg hr;unfold faultV
  go_wp2_with fail
  exact⟨rfl,by rw[HR.out];exact⟨t8,S8,rfl,rfl,HG.out⟩⟩
 | ok a R1 =>
  rw[hr] at HR;refine(HHS.out (t0::S0) _ HK.out.at_ (by rw[hr];exact fun h=>by cases h)).mono ?_;rw[hr];rintro e W1 ⟨s1,rfl,ha,hk⟩;clear hr;have HAa:Hid (IsE W1 (fun g=>(w.heap.size+1)<g) (exL a s1) a):=zb (ha.wide fun g hg=>zd HX.out.lt hg);clear ha;replace HX:=zb (HX.out.keep hk HPB.out);replace HT:=zb (HT.out.keep hk HTP.out);replace HK:=zb (HK.out.trans hk);clear hk;have hbx:=zj (w:=W1) (exObj a s1);have HF:=zb (ExBox.new W1 a s1);have HFP:Hid (p<W1.heap.size):=zb (by have:=HPB.out;have:=HX.out.lt;omega);have HFZ:Hid ((w.heap.size+1)<W1.heap.size):=zb HX.out.lt;replace HX:=zb (HX.out.below hbx);replace HT:=zb (HT.out.below hbx);replace HAa:=zb (HAa.out.below hbx);replace HK:=zb (HK.out.below hbx);clear hbx;obtain⟨t2,S2,rfl⟩:=HK.out.at_.row.cons;simp only[exec] at HR;have HAC:=zb (fun W b h hb=>zE p t2 S2 [sThen] _ _ rfl rfl (by decide) W b h hb);unfold exOf exV
  go_wp2_with fail
  refine(HAC.out _ _ HK.out.at_ (by simp)).mono ?_;rintro e W3 (⟨hy,rfl,hp2,hg2⟩ | ⟨hy,rfl,hb2⟩)
  . rw[hy,if_pos rfl] at HR;have hk2:=Keep.mk hp2 hg2;replace HX:=zb (HX.out.keep hk2 HPB.out);replace HT:=zb (HT.out.keep hk2 HTP.out);replace HF:=zb (HF.out.keep hk2 HFP.out);replace HAa:=zb (HAa.out.keep hk2 (fun g hg=>by have:=HPB.out;omega));replace HK:=zb (HK.out.trans hk2);clear hp2 hg2 hk2 HAC hy;unfold tokVal tokAgg
    go_wp2_with fail
    cases hr:run f .item S2 with
    | out =>
     rw[hr] at HR;exact absurd HR.out HN.out
    | bad R9 =>
     rw[hr] at HR;refine(HHI.out S2 _ HK.out.at_ (by rw[hr];exact fun h=>by cases h)).mono ?_;rw[hr];rintro e w8 ⟨t8,S8,rfl,rfl,hg⟩;have HG:=zb (zo HK.out.grown hg);clear hg hr;unfold faultV
     go_wp2_with fail
     exact⟨rfl,by rw[HR.out];exact⟨t8,S8,rfl,rfl,HG.out⟩⟩
    | ok b R4 =>
     rw[hr] at HR;refine(HHI.out S2 _ HK.out.at_ (by rw[hr];exact fun h=>by cases h)).mono ?_;rw[hr];rintro e W4 ⟨s4,rfl,ha,hk⟩;clear hr;have HAb:Hid (IsE W4 (fun g=>(w.heap.size+1)<g) (exL b s4) b):=zb (ha.wide fun g hg=>zd HX.out.lt hg);clear ha;replace HX:=zb (HX.out.keep hk HPB.out);replace HT:=zb (HT.out.keep hk HTP.out);replace HF:=zb (HF.out.keep hk HFP.out);replace HAa:=zb (HAa.out.keep hk (fun g hg=>by have:=HPB.out;omega));replace HK:=zb (HK.out.trans hk);clear hk;have hbx:=zj (w:=W4) (exObj b s4);have HQ:=zb (ExBox.new W4 b s4);have HQP:Hid (p<W4.heap.size):=zb (by have:=HPB.out;have:=HX.out.lt;omega);have HQZ:Hid ((w.heap.size+1)<W4.heap.size):=zb HX.out.lt;replace HX:=zb (HX.out.below hbx);replace HT:=zb (HT.out.below hbx);replace HF:=zb (HF.out.below hbx);replace HAa:=zb (HAa.out.below hbx);replace HAb:=zb (HAb.out.below hbx);replace HK:=zb (HK.out.below hbx);clear hbx;obtain⟨t5,S5,rfl⟩:=HK.out.at_.row.cons;simp only[exec] at HR;have HAC:=zb (fun W b h hb=>zE p t5 S5 [sElse] _ _ rfl rfl (by decide) W b h hb);unfold exOf exV
     go_wp2_with fail
     refine(HAC.out _ _ HK.out.at_ (by simp)).mono ?_;rintro e W6 (⟨hy,rfl,hp2,hg2⟩ | ⟨hy,rfl,hb2⟩)
     . rw[hy,if_pos rfl] at HR;have hk2:=Keep.mk hp2 hg2;replace HX:=zb (HX.out.keep hk2 HPB.out);replace HT:=zb (HT.out.keep hk2 HTP.out);replace HF:=zb (HF.out.keep hk2 HFP.out);replace HQ:=zb (HQ.out.keep hk2 HQP.out);replace HAa:=zb (HAa.out.keep hk2 (fun g hg=>by have:=HPB.out;omega));replace HAb:=zb (HAb.out.keep hk2 (fun g hg=>by have:=HPB.out;omega));replace HK:=zb (HK.out.trans hk2);clear hp2 hg2 hk2 HAC hy;have hnd:∀ y,node 11 t [a,b,y]=.mk ⟨11,t.2,[],0,[],[]⟩ [a,b,y] []:=fun _=>rfl;simp only[hnd] at HR;clear hnd;unfold tokVal tokAgg
       go_upto_region 5 with fail
       generalize hb1:W1.heap.size=b1 at *;clear hb1;generalize hb2:W4.heap.size=b2 at *;clear hb2;have HKd:=zb (HK.out.below (zm _));obtain⟨k0,k1,k2,k3,_⟩:=TokBox.cells (HT.out);have kl:=(HT.out).lt;have n0:¬w.heap.size=(w.heap.size+1):=by skip;omega
       have m0:¬(w.heap.size+1)=w.heap.size:=by skip;omega
       obtain⟨f0,f1,f2,f3,f4,f5,f6,f7,_⟩:=Box8.cells (HF.out);have fl:=(HF.out).lt;have n1:¬b1=(w.heap.size+1):=by have:=HFZ.out;omega
       have m1:¬(w.heap.size+1)=b1:=by have:=HFZ.out;omega
       obtain⟨h0,h1,h2,h3,h4,h5,h6,h7,_⟩:=Box8.cells (HQ.out);have hl:=(HQ.out).lt;have n2:¬b2=(w.heap.size+1):=by have:=HQZ.out;omega
       have m2:¬(w.heap.size+1)=b2:=by have:=HQZ.out;omega
       cases hr:run f .item S5 with
       | out =>
        rw[hr] at HR;exact absurd HR.out HN.out
       | bad R9 =>
        rw[hr] at HR;have HSC:Hid (∀ W,PAt W p S5->Calls Tryz.prog 121 #[ptrV p] W (Told (.bad R9) W p)):=zb (fun W h=>by
         have:=HHI.out S5 W h (by rw[hr];exact fun h=>by cases h)
         rwa [hr] at this)
        clear hr
        go_region_dies
        all_goals
         refine(HSC.out _ HKd.out.at_).mono ?_;rintro e w8 ⟨t8,S8,rfl,rfl,hg⟩;have HG:=zb (zo HKd.out.grown hg);exact⟨rfl,by rw[HR.out];exact⟨t8,S8,rfl,rfl,HG.out⟩⟩
       | ok y Ry =>
        rw[hr] at HR;have HSC:Hid (∀ W,PAt W p S5->Calls Tryz.prog 121 #[ptrV p] W (Told (.ok y Ry) W p)):=zb (fun W h=>by
         have:=HHI.out S5 W h (by rw[hr];exact fun h=>by cases h)
         rwa [hr] at this)
        clear hr
        go_region_held3 (fun W=>W.cell? ⟨w.heap.size,0,none⟩=some (.int .i64 t.1.kind)/\W.cell? ⟨w.heap.size,1,none⟩=some (.int .i64 (t.2:Nat))/\W.cell? ⟨w.heap.size,2,none⟩=some (.string ⟨t.1.text.toArray⟩)/\W.cell? ⟨w.heap.size,3,none⟩=some (.int .i64 t.1.n)/\W.cell? ⟨b1,0,none⟩=some (.int .i64 a.hd.kind)/\W.cell? ⟨b1,1,none⟩=some (.int .i64 a.hd.pos)/\W.cell? ⟨b1,2,none⟩=some (.string ⟨a.hd.name.toArray⟩)/\W.cell? ⟨b1,3,none⟩=some (.int .i64 a.hd.n)/\W.cell? ⟨b1,4,none⟩=some (.string ⟨a.hd.s.toArray⟩)/\W.cell? ⟨b1,5,none⟩=some (.slice s1.la a.hd.labels.length s1.lc)/\W.cell? ⟨b1,6,none⟩=some (.slice s1.aa a.args.length s1.ac)/\W.cell? ⟨b1,7,none⟩=some (.slice s1.ra a.arms.length s1.rc)/\W.cell? ⟨b2,0,none⟩=some (.int .i64 b.hd.kind)/\W.cell? ⟨b2,1,none⟩=some (.int .i64 b.hd.pos)/\W.cell? ⟨b2,2,none⟩=some (.string ⟨b.hd.name.toArray⟩)/\W.cell? ⟨b2,3,none⟩=some (.int .i64 b.hd.n)/\W.cell? ⟨b2,4,none⟩=some (.string ⟨b.hd.s.toArray⟩)/\W.cell? ⟨b2,5,none⟩=some (.slice s4.la b.hd.labels.length s4.lc)/\W.cell? ⟨b2,6,none⟩=some (.slice s4.aa b.args.length s4.ac)/\W.cell? ⟨b2,7,none⟩=some (.slice s4.ra b.arms.length s4.rc)) (go_keep) (first | (go_at_call 121; refine(HSC.out _ HKd.out.at_).mono ?_;rintro e Wy ⟨sy,rfl,ha,hk⟩;have HAy:Hid (IsE Wy (fun g=>(w.heap.size+1)<g) (exL y sy) y):=zb (ha.wide fun g hg=>zd (HX.out.below (zm _)).lt hg);replace HX:=zb ((HX.out.below (zm _)).keep hk HPB.out);replace HT:=zb ((HT.out.below (zm _)).keep hk HTP.out);replace HF:=zb ((HF.out.below (zm _)).keep hk HFP.out);replace HQ:=zb ((HQ.out.below (zm _)).keep hk HQP.out);replace HAa:=zb ((HAa.out.below (zm _)).keep hk (fun g hg=>by have:=HPB.out;omega));replace HAb:=zb ((HAb.out.below (zm _)).keep hk (fun g hg=>by have:=HPB.out;omega));replace HK:=zb (HKd.out.trans hk);clear HKd;obtain⟨k0,k1,k2,k3,_⟩:=TokBox.cells (HT.out);have kl:=(HT.out).lt;obtain⟨f0,f1,f2,f3,f4,f5,f6,f7,_⟩:=Box8.cells (HF.out);have fl:=(HF.out).lt;obtain⟨h0,h1,h2,h3,h4,h5,h6,h7,_⟩:=Box8.cells (HQ.out);have hl:=(HQ.out).lt;clear ha hk;unfold exOf exV) | (go_at_call 123; refine(zz 11 t _ _ _ _).mono ?_;rintro e Wz ⟨rfl,hb2⟩;have HNR:=zb (zG (L:=[exL a s1,exL b s4,exL y sy]) (args:=[a,b,y]) HK.out ⟨HAa.out,HAb.out,HAy.out,trivial⟩ HX.out.lt (by simp) ⟨11,t.2,[],0,[],[]⟩ rfl hb2);replace HX:=zb (HX.out.below HNR.out.2.2);replace HT:=zb (HT.out.below HNR.out.2.2);replace HF:=zb (HF.out.below HNR.out.2.2);replace HQ:=zb (HQ.out.below HNR.out.2.2);obtain⟨k0,k1,k2,k3,_⟩:=TokBox.cells (HT.out);have kl:=(HT.out).lt;obtain⟨f0,f1,f2,f3,f4,f5,f6,f7,_⟩:=Box8.cells (HF.out);have fl:=(HF.out).lt;obtain⟨h0,h1,h2,h3,h4,h5,h6,h7,_⟩:=Box8.cells (HQ.out);have hl:=(HQ.out).lt;obtain⟨x0,x1,x2,x3,x4,x5,x6,x7,xf⟩:=(Box8.cells HX.out);have y0:=xf 0;have y1:=xf 1;have y2:=xf 2;have y3:=xf 3;have y4:=xf 4;have y5:=xf 5;have y6:=xf 6;have y7:=xf 7;have hxl:=HX.out.lt;clear xf;clear hb2;unfold exV))
        have HS:=zb (yM HX.out HB0.out HLT.out ⟨HNR.out.1,HNR.out.2.1⟩ 3 rfl ⟨#[]⟩ rfl rfl);unfold set8 at HS
        go_wp2_with fail
        generalize World.setCell _ _ _=w9 at *;rw[HR.out];exact zu Tryz.results181 rfl rfl (HS.out _ (Below.refl _ _))
     . rw[hy,if_neg (by decide)] at HR;have HG:=zb (zr HK.out.grown hb2);clear hb2 HAC;unfold faultV
       go_wp2_with fail
       exact⟨rfl,by rw[HR.out];exact⟨t5,S5,rfl,rfl,HG.out⟩⟩
  . rw[hy,if_neg (by decide)] at HR;have HG:=zb (zr HK.out.grown hb2);clear hb2 HAC;unfold faultV
    go_wp2_with fail
    exact⟨rfl,by rw[HR.out];exact⟨t2,S2,rfl,rfl,HG.out⟩⟩
end
section
open Go.RowKit
theorem w_unary (f p:Nat) (hu:Says f .unary 224 #[ptrV p] p) (ha:Says f .app 232 #[ptrV p] p):Says (f+1) .unary 224 #[ptrV p] p:=by
 have HHU:=zb hu;clear hu;have HHA:=zb ha;clear ha;intro T w hp hne;have HLT:=zb hp.lt;have HK:=zb (Keep.start hp);have hbx:=zj (w:=w) zeroObj;have HX:Hid (ZeroBox (w.alloc zeroObj) w.heap.size):=zb (ZeroBox.new w);replace HK:=zb (HK.out.below hbx);clear hbx;have HPB:Hid (p<w.heap.size):=zb (by have:=HLT.out;omega);have HB0:Hid (w.heap.size<=w.heap.size):=zb (by omega);have HR:Hid (run (f+1) .unary T=exec (run f) (step .unary) T):=zb rfl;have HN:=zb hne;obtain⟨t0,S0,hT0⟩:=hp.row.cons;generalize run (f+1) .unary T=res at *;subst hT0;simp only[step,exec] at HR;clear hp hne
 go_enter Tryz.func224, Tryz.ntmps224
 have HAC:=zb (fun W b h hb=>yc p t0 S0 [sMinus,sNot] _ _ rfl rfl (by decide) W b h hb)
 go_wp2_with fail
 refine(HAC.out _ _ HK.out.at_ (by simp)).mono ?_;rintro e W1 (⟨hy,rfl,hp2,hg2⟩ | ⟨hy,rfl,hb2⟩)
 . rw[hy,if_pos rfl] at HR;have hk2:=Keep.mk hp2 hg2;replace HX:=zb (HX.out.keep hk2 HPB.out);replace HK:=zb (HK.out.trans hk2);clear hy hp2 hg2 hk2 HAC;have hbx:=zj (w:=W1) (tokObj t0);have HT:=zb (TkBox.new W1 t0);have HTP:Hid (p<W1.heap.size):=zb (by have:=HPB.out;have:=HX.out.lt;omega);have HTZ:Hid (w.heap.size<W1.heap.size):=zb HX.out.lt;replace HX:=zb (HX.out.below hbx);replace HK:=zb (HK.out.below hbx);clear hbx;unfold tokVal tokAgg
   go_upto_region 4 with fail
   generalize hb0:W1.heap.size=b0 at *;clear hb0;generalize (W1.alloc (tokObj t0))=w3 at *;have HKd:=zb (HK.out.below (zm _));have hz0:Below w3.heap.size w3 (w3.alloc zeroObj).drew:=(zj zeroObj).trans ((zm _).mono (by simp));have HZ0:=zb hz0;have HKe:=zb (HK.out.below hz0);have HEe:=zb ((ZeroBox.new w3).below (zm _));clear hz0;obtain⟨k0,k1,k2,k3,_⟩:=TokBox.cells (HT.out);have kl:=(HT.out).lt;have n0:¬b0=w.heap.size:=by have:=HTZ.out;omega
   have m0:¬w.heap.size=b0:=by have:=HTZ.out;omega
   have p0:¬b0=w3.heap.size:=by omega
   have q0:¬w3.heap.size=b0:=by omega
   cases hr:run f .unary S0 with
   | out =>
    rw[hr] at HR;exact absurd HR.out HN.out
   | bad R9 =>
    rw[hr] at HR;have HSC:Hid (∀ W,PAt W p S0->Calls Tryz.prog 224 #[ptrV p] W (Told (.bad R9) W p)):=zb (fun W h=>by
     have:=HHU.out S0 W h (by rw[hr];exact fun h=>by cases h)
     rwa [hr] at this)
    clear hr
    go_region_dies
    all_goals first | (refine(HSC.out _ HKd.out.at_).mono ?_;rintro e w8 ⟨t8,S8,rfl,rfl,hg⟩;have HG:=zb (zo HKd.out.grown hg);exact⟨rfl,by rw[HR.out];exact⟨t8,S8,rfl,rfl,HG.out⟩⟩) | (refine(HSC.out _ HKe.out.at_).mono ?_;rintro e w8 ⟨t8,S8,rfl,rfl,hg⟩;have HG:=zb (zo HKe.out.grown hg);exact⟨rfl,by rw[HR.out];exact⟨t8,S8,rfl,rfl,HG.out⟩⟩)
   | ok y Ry =>
    rw[hr] at HR;have HSC:Hid (∀ W,PAt W p S0->Calls Tryz.prog 224 #[ptrV p] W (Told (.ok y Ry) W p)):=zb (fun W h=>by
     have:=HHU.out S0 W h (by rw[hr];exact fun h=>by cases h)
     rwa [hr] at this)
    clear hr;have HEN0:Hid (w.heap.size<=w3.heap.size/\w3.heap.size≠w.heap.size):=zb ⟨HK.out.size,by have:=HX.out.lt;omega⟩
    go_region_held3 (fun W=>W.cell? ⟨b0,0,none⟩=some (.int .i64 t0.1.kind)/\W.cell? ⟨b0,1,none⟩=some (.int .i64 (t0.2:Nat))/\W.cell? ⟨b0,2,none⟩=some (.string ⟨t0.1.text.toArray⟩)/\W.cell? ⟨b0,3,none⟩=some (.int .i64 t0.1.n)) (go_keep) (first | (go_at_call 224; refine(HSC.out _ HKd.out.at_).mono ?_;rintro e Wy ⟨sy,rfl,ha,hk⟩;have HAy:Hid (IsE Wy (fun g=>w.heap.size<g) (exL y sy) y):=zb (ha.wide fun g hg=>zd (HX.out.below (zm _)).lt hg);replace HX:=zb ((HX.out.below (zm _)).keep hk HPB.out);replace HT:=zb ((HT.out.below (zm _)).keep hk HTP.out);replace HK:=zb (HKd.out.trans hk);clear HKd HKe;obtain⟨k0,k1,k2,k3,_⟩:=TokBox.cells (HT.out);have kl:=(HT.out).lt;clear ha hk;unfold exOf exV) | (go_at_call 224; refine(HSC.out _ HKe.out.at_).mono ?_;rintro e Wy ⟨sy,rfl,ha,hk⟩;have HAy:=zb (ha.fresh_new (b0:=w.heap.size) (be:=w3.heap.size) (HX.out.below HZ0.out).lt HEe.out.lt);have HEZ:=zb (HEe.out.keep hk (Nat.lt_trans HPB.out HX.out.lt));replace HX:=zb ((HX.out.below HZ0.out).keep hk HPB.out);replace HT:=zb ((HT.out.below HZ0.out).keep hk HTP.out);replace HK:=zb (HKe.out.trans hk);clear HKd HKe;obtain⟨k0,k1,k2,k3,_⟩:=TokBox.cells (HT.out);have kl:=(HT.out).lt;clear ha hk;unfold exOf exV) | (go_at_call 123; refine(zz 19 t0 (some _) 1 1 _).mono ?_;rintro e Wz ⟨rfl,hb2⟩;have HNR:=zb (zG (L:=[exL y sy]) (args:=[y]) HK.out ⟨HAy.out,trivial⟩ HX.out.lt (by simp) ⟨19,t0.2,[],opOf t0.1.text,[],[]⟩ rfl hb2);have HTR:=zb HNR.out.1;replace HX:=zb (HX.out.below HNR.out.2.2);replace HK:=zb HNR.out.2.1;have p0:¬b0=Wz.heap.size:=(by have:=HT.out.lt;have:=HNR.out.2.2.size;omega);have q0:¬Wz.heap.size=b0:=(by omega);replace HT:=zb (HT.out.below HNR.out.2.2);obtain⟨k0,k1,k2,k3,_⟩:=TokBox.cells (HT.out);have kl:=(HT.out).lt;clear hb2 HNR;unfold exV) | (go_at_call 123; refine(zz 19 t0 (some _) 1 1 _).mono ?_;rintro e Wz ⟨rfl,hb2⟩;have HNR:=zb (zJ (N:=Nb (w.heap.size) w3.heap.size) (L:=[exL y sy]) (args:=[y]) HK.out ⟨HAy.out,trivial⟩ ⟨HX.out.lt,Nat.ne_of_gt HEZ.out.lt⟩ (by simp) ⟨19,t0.2,[],opOf t0.1.text,[],[]⟩ rfl hb2);have HTR:=zb HNR.out.1;replace HEZ:=zb (HEZ.out.below HNR.out.2.2);have HEN:Hid (w.heap.size<=w3.heap.size/\w3.heap.size≠w.heap.size):=HEN0;replace HX:=zb (HX.out.below HNR.out.2.2);replace HK:=zb HNR.out.2.1;obtain⟨x0,x1,x2,x3,x4,x5,x6,x7,xf⟩:=(Box8.cells HEZ.out);have y0:=xf 0;have y1:=xf 1;have y2:=xf 2;have y3:=xf 3;have y4:=xf 4;have y5:=xf 5;have y6:=xf 6;have y7:=xf 7;have hxl:=HEZ.out.lt;clear xf;replace HT:=zb (HT.out.below HNR.out.2.2);obtain⟨k0,k1,k2,k3,_⟩:=TokBox.cells (HT.out);have kl:=(HT.out).lt;clear hb2 HNR;unfold exV) | (go_at_call 123; refine(zz 19 t0 (some _) 1 1 _).mono ?_;rintro e Wz ⟨rfl,hb2⟩;have HNR:=zb (zJ (N:=Nb (w.heap.size) Wy.heap.size) (L:=[exL y sy]) (args:=[y]) (HK.out.below (zj zeroObj)) ⟨HAy.out.fresh zeroObj,trivial⟩ ⟨(HX.out.below (zj zeroObj)).lt,by simp⟩ (by simp) ⟨19,t0.2,[],opOf t0.1.text,[],[]⟩ rfl hb2);have HTR:=zb HNR.out.1;have HEZ:=zb ((ZeroBox.new Wy).below HNR.out.2.2);replace HNR:Hid (True/\Keep w p Ry Wz/\Below Wy.heap.size Wy Wz):=zb ⟨trivial,HNR.out.2.1,(zj zeroObj).trans (HNR.out.2.2.mono (by simp))⟩;simp only[World.size_alloc] at HTR;have HEN:Hid (w.heap.size<=Wy.heap.size/\Wy.heap.size≠w.heap.size):=zb ⟨HK.out.size,by have:=HX.out.lt;omega⟩;replace HX:=zb (HX.out.below HNR.out.2.2);replace HK:=zb HNR.out.2.1;obtain⟨x0,x1,x2,x3,x4,x5,x6,x7,xf⟩:=(Box8.cells HEZ.out);have y0:=xf 0;have y1:=xf 1;have y2:=xf 2;have y3:=xf 3;have y4:=xf 4;have y5:=xf 5;have y6:=xf 6;have y7:=xf 7;have hxl:=HEZ.out.lt;clear xf;have p0:¬b0=Wy.heap.size:=(by have:=HT.out.lt;have:=HNR.out.2.2.size;omega);have q0:¬Wy.heap.size=b0:=(by omega);replace HT:=zb (HT.out.below HNR.out.2.2);obtain⟨k0,k1,k2,k3,_⟩:=TokBox.cells (HT.out);have kl:=(HT.out).lt;clear hb2 HNR;unfold exV) | (go_at_call 123; refine(zz 19 t0 (some _) 1 1 _).mono ?_;rintro e Wz ⟨rfl,hb2⟩;have HN0:=zG (L:=[exL y sy]) (args:=[y]) HK.out ⟨HAy.out,trivial⟩ HX.out.lt (by simp) ⟨19,t0.2,[],opOf t0.1.text,[],[]⟩ rfl (Below.refl _ (Wy.alloc (.cells (List.flatten [exL y sy]).toArray 27 (0,0))));have HTR:=zb ((HN0.1.fresh zeroObj).below hb2);have HEZ:=zb ((ZeroBox.new (Wy.alloc (.cells (List.flatten [exL y sy]).toArray 27 (0,0)))).below hb2);have HNR:Hid (True/\Keep w p Ry Wz/\Below Wy.heap.size Wy Wz):=zb ⟨trivial,(HN0.2.1.below (zj zeroObj)).below hb2,(HN0.2.2.trans ((zj zeroObj).mono HN0.2.2.size)).trans (hb2.mono (by simp;omega))⟩;clear HN0;simp only[World.size_alloc] at HTR HEZ;have HEN:Hid (w.heap.size<=Wy.heap.size+1/\Wy.heap.size+1≠w.heap.size):=zb ⟨by have:=HK.out.size;omega,by have:=HX.out.lt;omega⟩;replace HX:=zb (HX.out.below HNR.out.2.2);replace HK:=zb HNR.out.2.1;obtain⟨x0,x1,x2,x3,x4,x5,x6,x7,xf⟩:=(Box8.cells HEZ.out);have y0:=xf 0;have y1:=xf 1;have y2:=xf 2;have y3:=xf 3;have y4:=xf 4;have y5:=xf 5;have y6:=xf 6;have y7:=xf 7;have hxl:=HEZ.out.lt;clear xf;have p0:¬b0=(Wy.heap.size+1):=(by have:=HT.out.lt;have:=HNR.out.2.2.size;omega);have q0:¬(Wy.heap.size+1)=b0:=(by omega);replace HT:=zb (HT.out.below HNR.out.2.2);obtain⟨k0,k1,k2,k3,_⟩:=TokBox.cells (HT.out);have kl:=(HT.out).lt;clear hb2 HNR;unfold exV))
    all_goals
     first
      | (have HE:=zb (yK (h:=⟨19,t0.2,[],opOf t0.1.text,[],[]⟩) (args:=[y]) HTR.out HK.out HLT.out HX.out.lt _ rfl);have hb5:=zj (w:=Wz) (.cells #[.int .i64 19,.int .i64 (t0.2:Nat),.string ⟨#[]⟩,.int .i64 (opOf t0.1.text),.string ⟨#[]⟩,.slice none 0 0,.slice (some ⟨Wy.heap.size,0,none⟩) 1 1,.slice none 0 0] 27 (0,0));replace HX:=zb (HX.out.below hb5);replace HT:=zb (HT.out.below hb5);clear hb5 HTR HK HZ0 HEe HEN0;generalize World.alloc Wz _=w5 at *)
      | (have HE9:=zb (ya (h:=⟨19,t0.2,[],opOf t0.1.text,[],[]⟩) (args:=[y]) HEZ.out HTR.out HK.out HLT.out HEN.out.1 HEN.out.2 rfl);unfold set8 at HE9;have HE:=zb HE9.out.1;replace HX:Hid (ZeroBox _ (w.heap.size)):=zb ((HE9.out.2 _ HEN.out.2.symm).trans HX.out);replace HT:Hid (TkBox _ (b0) t0):=zb ((HE9.out.2 _ p0).trans HT.out);clear HE9 HTR HK HEZ HZ0 HEe HEN0 HEN;clear x0 x1 x2 x3 x4 x5 x6 x7 y0 y1 y2 y3 y4 y5 y6 y7 hxl;generalize World.setCell _ _ _=w5 at *)
     obtain⟨k0,k1,k2,k3,_⟩:=TokBox.cells HT.out;have kl:=HT.out.lt;by_cases hx:t0.1.text=sMinus
     . rw[if_pos hx] at HR;have BM:(t0.1.text == [45])=true:=by rw[hx];rfl
       clear hx;obtain⟨e0,e1,e2,e3,e4,e5,e6,e7,ef⟩:=Box8.cells HE.out.box;have g3:=ef 3;have el:=HE.out.box.lt;clear ef
       go_upto_region 7 with fail
       replace HX:=zb (HX.out.set HE.out.ne 3 (.int .i64 6));replace HE:=zb (HE.out.num 6);clear e0 e1 e2 e3 e4 e5 e6 e7 g3 el k0 k1 k2 k3 kl;generalize World.setCell _ _ _=w4 at *;obtain⟨e0,e1,e2,e3,e4,e5,e6,e7,ef⟩:=Box8.cells HE.out.box;have el:=HE.out.box.lt;clear ef;obtain⟨x0,x1,x2,x3,x4,x5,x6,x7,xf⟩:=(Box8.cells HX.out);have y0:=xf 0;have y1:=xf 1;have y2:=xf 2;have y3:=xf 3;have y4:=xf 4;have y5:=xf 5;have y6:=xf 6;have y7:=xf 7;have hxl:=HX.out.lt;clear xf;have HS:=zb (HE.out.ret rfl HX.out HB0.out HLT.out rfl);unfold set8 at HS;dsimp only at HS
       go_wp2_with fail
       generalize World.setCell _ _ _=w9 at *;rw[HR.out];exact zu Tryz.results224 rfl rfl (HS.out _ (Below.refl _ _))
     . rw[if_neg hx] at HR;have BM:(t0.1.text == [45])=false:=beq_eq_false_iff_ne.2 hx;clear hx;obtain⟨e0,e1,e2,e3,e4,e5,e6,e7,ef⟩:=Box8.cells HE.out.box;have el:=HE.out.box.lt;clear ef;obtain⟨x0,x1,x2,x3,x4,x5,x6,x7,xf⟩:=(Box8.cells HX.out);have y0:=xf 0;have y1:=xf 1;have y2:=xf 2;have y3:=xf 3;have y4:=xf 4;have y5:=xf 5;have y6:=xf 6;have y7:=xf 7;have hxl:=HX.out.lt;clear xf;have HS:=zb (HE.out.ret rfl HX.out HB0.out HLT.out rfl);unfold set8 at HS;dsimp only at HS
       go_wp2_with fail
       generalize World.setCell _ _ _=w9 at *;rw[HR.out];exact zu Tryz.results224 rfl rfl (HS.out _ (Below.refl _ _))
 . rw[hy,if_neg (by decide)] at HR;replace HX:=zb (HX.out.below hb2);replace HK:=zb (HK.out.below hb2);clear hb2 HAC;have hbp:=zj (w:=W1) zeroTok;replace HX:=zb (HX.out.below hbp);replace HK:=zb (HK.out.below hbp);clear hbp;unfold tokAgg
   go_wp2_with fail
   cases hr:run f .app (t0::S0) with
   | out =>
    rw[hr] at HR;exact absurd HR.out HN.out
   | bad R9 =>
    rw[hr] at HR;refine(HHA.out (t0::S0) _ HK.out.at_ (by rw[hr];exact fun h=>by cases h)).mono ?_;rw[hr];rintro e w8 ⟨t8,S8,rfl,rfl,hg⟩;have HG:=zb (zo HK.out.grown hg);clear hg hr;unfold faultV
    go_wp2_with fail
    exact⟨rfl,by rw[HR.out];exact⟨t8,S8,rfl,rfl,HG.out⟩⟩
   | ok y R2 =>
    rw[hr] at HR;refine(HHA.out (t0::S0) _ HK.out.at_ (by rw[hr];exact fun h=>by cases h)).mono ?_;rw[hr];rintro e W2 ⟨s2,rfl,ha,hk⟩;clear hr;have HAy:Hid (IsE W2 (fun g=>w.heap.size<g) (exL y s2) y):=zb (ha.wide fun g hg=>zd HX.out.lt hg);clear ha;replace HX:=zb (HX.out.keep hk HPB.out);replace HK:=zb (HK.out.trans hk);clear hk;obtain⟨x0,x1,x2,x3,x4,x5,x6,x7,xf⟩:=(Box8.cells HX.out);have y0:=xf 0;have y1:=xf 1;have y2:=xf 2;have y3:=xf 3;have y4:=xf 4;have y5:=xf 5;have y6:=xf 6;have y7:=xf 7;have hxl:=HX.out.lt;clear xf;have HS:=zb (zH HX.out HB0.out HK.out HLT.out HAy.out rfl);unfold set8 at HS;unfold exOf exV
    go_wp2_with fail
    generalize World.setCell _ _ _=w9 at *;rw[HR.out];exact zu Tryz.results224 rfl rfl (HS.out _ (Below.refl _ _))
end
