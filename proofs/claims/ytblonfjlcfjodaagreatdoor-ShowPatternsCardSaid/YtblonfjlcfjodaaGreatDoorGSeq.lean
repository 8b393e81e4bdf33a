/-
  The walks of seq, assign.
-/
import Derived.Test.YtblonfjlcfjodaaGreatDoorGNode
import Derived.RegionDies
namespace Go.Proofs.YtblonfjlcfjodaaGreatDoor
set_option linter.unusedSimpArgs false
set_option linter.unusedVariables false
set_option maxRecDepth 100000
set_option maxHeartbeats 4000000
section
open Go.RowKit
theorem w_seq (f p:Nat) (hi:Says f .item 121 #[ptrV p] p) (hs:Says f .seq 69 #[ptrV p] p):Says (f+1) .seq 69 #[ptrV p] p:=by
 have HHI:=zb hi;clear hi;have HHS:=zb hs;clear hs;intro T w hp hne;have HLT:=zb hp.lt;have HK:=zb (Keep.start hp);have hbx:=zj (w:=w) zeroObj;have HX:Hid (ZeroBox (w.alloc zeroObj) w.heap.size):=zb (ZeroBox.new w);replace HK:=zb (HK.out.below hbx);clear hbx;have HPB:Hid (p<w.heap.size):=zb (by have:=HLT.out;omega);have HB0:Hid (w.heap.size<=w.heap.size):=zb (by omega);have HR:Hid (run (f+1) .seq T=exec (run f) (step .seq) T):=zb rfl;have HN:=zb hne;obtain⟨t0,S0,hT0⟩:=hp.row.cons;generalize run (f+1) .seq T=res at *;subst hT0;simp only[step,exec] at HR;clear hp hne
 go_enter Tryz.func69, Tryz.ntmps69
 go_wp2_with fail
 cases hr:run f .item (t0::S0) with
 | out =>
  rw[hr] at HR;exact absurd HR.out HN.out
 | bad R9 =>
  rw[hr] at HR;refine(HHI.out (t0::S0) _ HK.out.at_ (by rw[hr];exact fun h=>by cases h)).mono ?_;rw[hr];rintro e w8 ⟨t8,S8,rfl,rfl,hg⟩;have HG:=zb (zo HK.out.grown hg);clear hg hr;unfold faultV
  go_wp2_with fail
  exact⟨rfl,by rw[HR.out];exact⟨t8,S8,rfl,rfl,HG.out⟩⟩
 | ok a R1 =>
  rw[hr] at HR;refine(HHI.out (t0::S0) _ HK.out.at_ (by rw[hr];exact fun h=>by cases h)).mono ?_;rw[hr];rintro e W1 ⟨s1,rfl,ha,hk⟩;clear hr;have HAa:Hid (IsE W1 (fun g=>w.heap.size<g) (exL a s1) a):=zb (ha.wide fun g hg=>zd HX.out.lt hg);clear ha;replace HX:=zb (HX.out.keep hk HPB.out);replace HK:=zb (HK.out.trans hk);clear hk;have hbx:=zj (w:=W1) (exObj a s1);have HF:=zb (ExBox.new W1 a s1);have HFP:Hid (p<W1.heap.size):=zb (by have:=HPB.out;have:=HX.out.lt;omega);have HFZ:Hid (w.heap.size<W1.heap.size):=zb HX.out.lt;replace HX:=zb (HX.out.below hbx);replace HAa:=zb (HAa.out.below hbx);replace HK:=zb (HK.out.below hbx);clear hbx;obtain⟨t2,S2,rfl⟩:=HK.out.at_.row.cons;simp only[exec] at HR;have HAC:=zb (fun W b h hb=>yc p t2 S2 [sSemi] _ _ rfl rfl (by decide) W b h hb);unfold exOf exV
  go_wp2_with fail
  refine(HAC.out _ _ HK.out.at_ (by simp)).mono ?_;rintro e W3 (⟨hy,rfl,hp2,hg2⟩ | ⟨hy,rfl,hb2⟩)
  . rw[hy,if_pos rfl] at HR;have hk2:=Keep.mk hp2 hg2;replace HX:=zb (HX.out.keep hk2 HPB.out);replace HF:=zb (HF.out.keep hk2 HFP.out);replace HAa:=zb (HAa.out.keep hk2 (fun g hg=>by have:=HPB.out;omega));replace HK:=zb (HK.out.trans hk2);clear hy hp2 hg2 hk2 HAC;have hbx:=zj (w:=W3) (tokObj t2);have HT:=zb (TkBox.new W3 t2);have HTP:Hid (p<W3.heap.size):=zb (by have:=HPB.out;have:=HX.out.lt;omega);have HTZ:Hid (w.heap.size<W3.heap.size):=zb HX.out.lt;replace HX:=zb (HX.out.below hbx);replace HF:=zb (HF.out.below hbx);replace HAa:=zb (HAa.out.below hbx);replace HK:=zb (HK.out.below hbx);clear hbx;have hnd:∀ y,node 20 t2 [a,y]=.mk ⟨20,t2.2,[],0,[],[]⟩ [a,y] []:=fun _=>rfl;simp only[hnd] at HR;clear hnd;unfold tokVal tokAgg
    go_upto_region 4 with fail
    generalize hb0:W3.heap.size=b0 at *;clear hb0;generalize hb1:W1.heap.size=b1 at *;clear hb1;generalize (W3.alloc (tokObj t2))=w3 at *;have HKd:=zb (HK.out.below (zm _));obtain⟨k0,k1,k2,k3,_⟩:=TokBox.cells (HT.out);have kl:=(HT.out).lt;have n0:¬b0=w.heap.size:=by have:=HTZ.out;omega
    have m0:¬w.heap.size=b0:=by have:=HTZ.out;omega
    obtain⟨f0,f1,f2,f3,f4,f5,f6,f7,_⟩:=Box8.cells (HF.out);have fl:=(HF.out).lt;have n1:¬b1=w.heap.size:=by have:=HFZ.out;omega
    have m1:¬w.heap.size=b1:=by have:=HFZ.out;omega
    cases hr:run f .seq S2 with
    | out =>
     rw[hr] at HR;exact absurd HR.out HN.out
    | bad R9 =>
     rw[hr] at HR;have HSC:Hid (∀ W,PAt W p S2->Calls Tryz.prog 69 #[ptrV p] W (Told (.bad R9) W p)):=zb (fun W h=>by
      have:=HHS.out S2 W h (by rw[hr];exact fun h=>by cases h)
      rwa [hr] at this)
     clear hr
     go_region_dies
     all_goals
      refine(HSC.out _ HKd.out.at_).mono ?_;rintro e w8 ⟨t8,S8,rfl,rfl,hg⟩;have HG:=zb (zo HKd.out.grown hg);exact⟨rfl,by rw[HR.out];exact⟨t8,S8,rfl,rfl,HG.out⟩⟩
    | ok b Ry =>
     rw[hr] at HR;have HSC:Hid (∀ W,PAt W p S2->Calls Tryz.prog 69 #[ptrV p] W (Told (.ok b Ry) W p)):=zb (fun W h=>by
      have:=HHS.out S2 W h (by rw[hr];exact fun h=>by cases h)
      rwa [hr] at this)
     clear hr
     go_region_held3 (fun W=>W.cell? ⟨b0,0,none⟩=some (.int .i64 t2.1.kind)/\W.cell? ⟨b0,1,none⟩=some (.int .i64 (t2.2:Nat))/\W.cell? ⟨b0,2,none⟩=some (.string ⟨t2.1.text.toArray⟩)/\W.cell? ⟨b0,3,none⟩=some (.int .i64 t2.1.n)/\W.cell? ⟨b1,0,none⟩=some (.int .i64 a.hd.kind)/\W.cell? ⟨b1,1,none⟩=some (.int .i64 a.hd.pos)/\W.cell? ⟨b1,2,none⟩=some (.string ⟨a.hd.name.toArray⟩)/\W.cell? ⟨b1,3,none⟩=some (.int .i64 a.hd.n)/\W.cell? ⟨b1,4,none⟩=some (.string ⟨a.hd.s.toArray⟩)/\W.cell? ⟨b1,5,none⟩=some (.slice s1.la a.hd.labels.length s1.lc)/\W.cell? ⟨b1,6,none⟩=some (.slice s1.aa a.args.length s1.ac)/\W.cell? ⟨b1,7,none⟩=some (.slice s1.ra a.arms.length s1.rc)) (go_keep) (first | (go_at_call 69; refine(HSC.out _ HKd.out.at_).mono ?_;rintro e Wy ⟨sy,rfl,ha,hk⟩;have HAb:Hid (IsE Wy (fun g=>w.heap.size<g) (exL b sy) b):=zb (ha.wide fun g hg=>zd (HX.out.below (zm _)).lt hg);replace HX:=zb ((HX.out.below (zm _)).keep hk HPB.out);replace HF:=zb ((HF.out.below (zm _)).keep hk HFP.out);replace HT:=zb ((HT.out.below (zm _)).keep hk HTP.out);replace HAa:=zb ((HAa.out.below (zm _)).keep hk (fun g hg=>by have:=HPB.out;omega));replace HK:=zb (HKd.out.trans hk);clear HKd;obtain⟨k0,k1,k2,k3,_⟩:=TokBox.cells (HT.out);have kl:=(HT.out).lt;obtain⟨f0,f1,f2,f3,f4,f5,f6,f7,_⟩:=Box8.cells (HF.out);have fl:=(HF.out).lt;clear ha hk;unfold exOf exV) | (go_at_call 123; refine(zz 20 t2 _ _ _ _).mono ?_;rintro e Wz ⟨rfl,hb2⟩;have HNR:=zb (zG (L:=[exL a s1,exL b sy]) (args:=[a,b]) HK.out ⟨HAa.out,HAb.out,trivial⟩ HX.out.lt (by simp) ⟨20,t2.2,[],0,[],[]⟩ rfl hb2);replace HX:=zb (HX.out.below HNR.out.2.2);replace HF:=zb (HF.out.below HNR.out.2.2);replace HT:=zb (HT.out.below HNR.out.2.2);obtain⟨k0,k1,k2,k3,_⟩:=TokBox.cells (HT.out);have kl:=(HT.out).lt;obtain⟨f0,f1,f2,f3,f4,f5,f6,f7,_⟩:=Box8.cells (HF.out);have fl:=(HF.out).lt;obtain⟨x0,x1,x2,x3,x4,x5,x6,x7,xf⟩:=(Box8.cells HX.out);have y0:=xf 0;have y1:=xf 1;have y2:=xf 2;have y3:=xf 3;have y4:=xf 4;have y5:=xf 5;have y6:=xf 6;have y7:=xf 7;have hxl:=HX.out.lt;clear xf;clear hb2;unfold exV))
     have HS:=zb (yM HX.out HB0.out HLT.out ⟨HNR.out.1,HNR.out.2.1⟩ 2 rfl ⟨#[]⟩ rfl rfl);unfold set8 at HS
     go_wp2_with fail
     generalize World.setCell _ _ _=w9 at *;rw[HR.out];exact zu Tryz.results69 rfl rfl (HS.out _ (Below.refl _ _))
  . rw[hy,if_neg (by decide)] at HR;replace HX:=zb (HX.out.below hb2);replace HF:=zb (HF.out.below hb2);replace HAa:=zb (HAa.out.below hb2);replace HK:=zb (HK.out.below hb2);clear hb2 HAC;obtain⟨x0,x1,x2,x3,x4,x5,x6,x7,xf⟩:=(Box8.cells HX.out);have y0:=xf 0;have y1:=xf 1;have y2:=xf 2;have y3:=xf 3;have y4:=xf 4;have y5:=xf 5;have y6:=xf 6;have y7:=xf 7;have hxl:=HX.out.lt;clear xf;obtain⟨f0,f1,f2,f3,f4,f5,f6,f7,_⟩:=Box8.cells (HF.out);have fl:=(HF.out).lt;have HS:=zb (zH HX.out HB0.out HK.out HLT.out HAa.out rfl);unfold set8 at HS;unfold tokAgg
    go_wp2_with fail
    generalize World.setCell _ _ _=w9 at *;rw[HR.out];exact zu Tryz.results69 rfl rfl (HS.out _ (zj _))
theorem w_assign (f p:Nat) (hl:Says f (.level 0) 212 #[ptrV p,.int .i64 0] p) (hi:Says f .item 121 #[ptrV p] p):Says (f+1) .asg 178 #[ptrV p] p:=by
 have HHL:=zb hl;clear hl;have HHI:=zb hi;clear hi;intro T w hp hne;have HLT:=zb hp.lt;have HK:=zb (Keep.start hp);have hbx:=zj (w:=w) zeroObj;have HX:Hid (ZeroBox (w.alloc zeroObj) w.heap.size):=zb (ZeroBox.new w);replace HK:=zb (HK.out.below hbx);clear hbx;have HPB:Hid (p<w.heap.size):=zb (by have:=HLT.out;omega);have HB0:Hid (w.heap.size<=w.heap.size):=zb (by omega);have HR:Hid (run (f+1) .asg T=exec (run f) (step .asg) T):=zb rfl;have HN:=zb hne;obtain⟨t0,S0,hT0⟩:=hp.row.cons;generalize run (f+1) .asg T=res at *;subst hT0;simp only[step,exec] at HR;clear hp hne
 go_enter Tryz.func178, Tryz.ntmps178
 go_wp2_with fail
 cases hr:run f (.level 0) (t0::S0) with
 | out =>
  rw[hr] at HR;exact absurd HR.out HN.out
 | bad R9 =>
  rw[hr] at HR;refine(HHL.out (t0::S0) _ HK.out.at_ (by rw[hr];exact fun h=>by cases h)).mono ?_;rw[hr];rintro e w8 ⟨t8,S8,rfl,rfl,hg⟩;have HG:=zb (zo HK.out.grown hg);clear hg hr;unfold faultV
  go_wp2_with fail
  exact⟨rfl,by rw[HR.out];exact⟨t8,S8,rfl,rfl,HG.out⟩⟩
 | ok a R1 =>
  rw[hr] at HR;refine(HHL.out (t0::S0) _ HK.out.at_ (by rw[hr];exact fun h=>by cases h)).mono ?_;rw[hr];rintro e W1 ⟨s1,rfl,ha,hk⟩;clear hr;have HAa:Hid (IsE W1 (fun g=>w.heap.size<g) (exL a s1) a):=zb (ha.wide fun g hg=>zd HX.out.lt hg);clear ha;replace HX:=zb (HX.out.keep hk HPB.out);replace HK:=zb (HK.out.trans hk);clear hk;have hbx:=zj (w:=W1) (exObj a s1);have HF:=zb (ExBox.new W1 a s1);have HFP:Hid (p<W1.heap.size):=zb (by have:=HPB.out;have:=HX.out.lt;omega);have HFZ:Hid (w.heap.size<W1.heap.size):=zb HX.out.lt;replace HX:=zb (HX.out.below hbx);replace HAa:=zb (HAa.out.below hbx);replace HK:=zb (HK.out.below hbx);clear hbx;obtain⟨t2,S2,rfl⟩:=HK.out.at_.row.cons;simp only[exec] at HR;have HAC:=zb (fun W b h hb=>yc p t2 S2 [sAssign] _ _ rfl rfl (by decide) W b h hb);unfold exOf exV
  go_wp2_with fail
  refine(HAC.out _ _ HK.out.at_ (by simp)).mono ?_;rintro e W3 (⟨hy,rfl,hp2,hg2⟩ | ⟨hy,rfl,hb2⟩)
  . rw[hy,if_pos rfl] at HR;have hk2:=Keep.mk hp2 hg2;replace HX:=zb (HX.out.keep hk2 HPB.out);replace HF:=zb (HF.out.keep hk2 HFP.out);replace HAa:=zb (HAa.out.keep hk2 (fun g hg=>by have:=HPB.out;omega));replace HK:=zb (HK.out.trans hk2);clear hy hp2 hg2 hk2 HAC;have hbx:=zj (w:=W3) (tokObj t2);have HT:=zb (TkBox.new W3 t2);have HTP:Hid (p<W3.heap.size):=zb (by have:=HPB.out;have:=HX.out.lt;omega);have HTZ:Hid (w.heap.size<W3.heap.size):=zb HX.out.lt;replace HX:=zb (HX.out.below hbx);replace HF:=zb (HF.out.below hbx);replace HAa:=zb (HAa.out.below hbx);replace HK:=zb (HK.out.below hbx);clear hbx;have hnd:∀ y,node 19 t2 [a,y]=.mk ⟨19,t2.2,[],opOf t2.1.text,[],[]⟩ [a,y] []:=fun _=>rfl;simp only[hnd] at HR;clear hnd;unfold tokVal tokAgg
    go_upto_region 4 with fail
    generalize hb0:W3.heap.size=b0 at *;clear hb0;generalize hb1:W1.heap.size=b1 at *;clear hb1;generalize (W3.alloc (tokObj t2))=w3 at *;have HKd:=zb (HK.out.below (zm _));obtain⟨k0,k1,k2,k3,_⟩:=TokBox.cells (HT.out);have kl:=(HT.out).lt;have n0:¬b0=w.heap.size:=by have:=HTZ.out;omega
    have m0:¬w.heap.size=b0:=by have:=HTZ.out;omega
    obtain⟨f0,f1,f2,f3,f4,f5,f6,f7,_⟩:=Box8.cells (HF.out);have fl:=(HF.out).lt;have n1:¬b1=w.heap.size:=by have:=HFZ.out;omega
    have m1:¬w.heap.size=b1:=by have:=HFZ.out;omega
    cases hr:run f .item S2 with
    | out =>
     rw[hr] at HR;exact absurd HR.out HN.out
    | bad R9 =>
     rw[hr] at HR;have HSC:Hid (∀ W,PAt W p S2->Calls Tryz.prog 121 #[ptrV p] W (Told (.bad R9) W p)):=zb (fun W h=>by
      have:=HHI.out S2 W h (by rw[hr];exact fun h=>by cases h)
      rwa [hr] at this)
     clear hr
     go_region_dies
     all_goals
      refine(HSC.out _ HKd.out.at_).mono ?_;rintro e w8 ⟨t8,S8,rfl,rfl,hg⟩;have HG:=zb (zo HKd.out.grown hg);exact⟨rfl,by rw[HR.out];exact⟨t8,S8,rfl,rfl,HG.out⟩⟩
    | ok b Ry =>
     rw[hr] at HR;have HSC:Hid (∀ W,PAt W p S2->Calls Tryz.prog 121 #[ptrV p] W (Told (.ok b Ry) W p)):=zb (fun W h=>by
      have:=HHI.out S2 W h (by rw[hr];exact fun h=>by cases h)
      rwa [hr] at this)
     clear hr
     go_region_held3 (fun W=>W.cell? ⟨b0,0,none⟩=some (.int .i64 t2.1.kind)/\W.cell? ⟨b0,1,none⟩=some (.int .i64 (t2.2:Nat))/\W.cell? ⟨b0,2,none⟩=some (.string ⟨t2.1.text.toArray⟩)/\W.cell? ⟨b0,3,none⟩=some (.int .i64 t2.1.n)/\W.cell? ⟨b1,0,none⟩=some (.int .i64 a.hd.kind)/\W.cell? ⟨b1,1,none⟩=some (.int .i64 a.hd.pos)/\W.cell? ⟨b1,2,none⟩=some (.string ⟨a.hd.name.toArray⟩)/\W.cell? ⟨b1,3,none⟩=some (.int .i64 a.hd.n)/\W.cell? ⟨b1,4,none⟩=some (.string ⟨a.hd.s.toArray⟩)/\W.cell? ⟨b1,5,none⟩=some (.slice s1.la a.hd.labels.length s1.lc)/\W.cell? ⟨b1,6,none⟩=some (.slice s1.aa a.args.length s1.ac)/\W.cell? ⟨b1,7,none⟩=some (.slice s1.ra a.arms.length s1.rc)) (go_keep) (first | (go_at_call 121; refine(HSC.out _ HKd.out.at_).mono ?_;rintro e Wy ⟨sy,rfl,ha,hk⟩;have HAb:Hid (IsE Wy (fun g=>w.heap.size<g) (exL b sy) b):=zb (ha.wide fun g hg=>zd (HX.out.below (zm _)).lt hg);replace HX:=zb ((HX.out.below (zm _)).keep hk HPB.out);replace HF:=zb ((HF.out.below (zm _)).keep hk HFP.out);replace HT:=zb ((HT.out.below (zm _)).keep hk HTP.out);replace HAa:=zb ((HAa.out.below (zm _)).keep hk (fun g hg=>by have:=HPB.out;omega));replace HK:=zb (HKd.out.trans hk);clear HKd;obtain⟨k0,k1,k2,k3,_⟩:=TokBox.cells (HT.out);have kl:=(HT.out).lt;obtain⟨f0,f1,f2,f3,f4,f5,f6,f7,_⟩:=Box8.cells (HF.out);have fl:=(HF.out).lt;clear ha hk;unfold exOf exV) | (go_at_call 123; refine(zz 19 t2 _ _ _ _).mono ?_;rintro e Wz ⟨rfl,hb2⟩;have HNR:=zb (zG (L:=[exL a s1,exL b sy]) (args:=[a,b]) HK.out ⟨HAa.out,HAb.out,trivial⟩ HX.out.lt (by simp) ⟨19,t2.2,[],opOf t2.1.text,[],[]⟩ rfl hb2);replace HX:=zb (HX.out.below HNR.out.2.2);replace HF:=zb (HF.out.below HNR.out.2.2);replace HT:=zb (HT.out.below HNR.out.2.2);obtain⟨k0,k1,k2,k3,_⟩:=TokBox.cells (HT.out);have kl:=(HT.out).lt;obtain⟨f0,f1,f2,f3,f4,f5,f6,f7,_⟩:=Box8.cells (HF.out);have fl:=(HF.out).lt;obtain⟨x0,x1,x2,x3,x4,x5,x6,x7,xf⟩:=(Box8.cells HX.out);have y0:=xf 0;have y1:=xf 1;have y2:=xf 2;have y3:=xf 3;have y4:=xf 4;have y5:=xf 5;have y6:=xf 6;have y7:=xf 7;have hxl:=HX.out.lt;clear xf;clear hb2;unfold exV))
     have HS:=zb (yM HX.out HB0.out HLT.out ⟨HNR.out.1,HNR.out.2.1⟩ 2 rfl ⟨#[]⟩ rfl rfl);unfold set8 at HS
     go_wp2_with fail
     generalize World.setCell _ _ _=w9 at *;rw[HR.out];exact zu Tryz.results178 rfl rfl (HS.out _ (Below.refl _ _))
  . rw[hy,if_neg (by decide)] at HR;replace HX:=zb (HX.out.below hb2);replace HF:=zb (HF.out.below hb2);replace HAa:=zb (HAa.out.below hb2);replace HK:=zb (HK.out.below hb2);clear hb2 HAC;obtain⟨x0,x1,x2,x3,x4,x5,x6,x7,xf⟩:=(Box8.cells HX.out);have y0:=xf 0;have y1:=xf 1;have y2:=xf 2;have y3:=xf 3;have y4:=xf 4;have y5:=xf 5;have y6:=xf 6;have y7:=xf 7;have hxl:=HX.out.lt;clear xf;obtain⟨f0,f1,f2,f3,f4,f5,f6,f7,_⟩:=Box8.cells (HF.out);have fl:=(HF.out).lt;have HS:=zb (zH HX.out HB0.out HK.out HLT.out HAa.out rfl);unfold set8 at HS;unfold tokAgg
    go_wp2_with fail
    generalize World.setCell _ _ _=w9 at *;rw[HR.out];exact zu Tryz.results178 rfl rfl (HS.out _ (zj _))
end
section
open Go.RowKit
theorem w_item (f p:Nat) (hf:Says f .fn 177 #[ptrV p] p) (hl:∀ t,Says f (.letb t) 179 #[ptrV p,tokVal t] p) (hc:∀ k t,k≠19->Says f (.cases k t) 180 #[ptrV p,.int .i64 k,tokVal t] p) (hi:∀ t,Says f (.choice t) 181 #[ptrV p,tokVal t] p) (hp1:Says f .post 182 #[ptrV p] p) (ha:Says f .asg 178 #[ptrV p] p):Says (f+1) .item 121 #[ptrV p] p:=by
 have HHF:=zb hf;clear hf;have HHL:=zb hl;clear hl;have HHC:=zb hc;clear hc;have HHI:=zb hi;clear hi;have HHP1:=zb hp1;clear hp1;have HHA:=zb ha;clear ha;intro T w hp hne;have HLT:=zb hp.lt;have HK:=zb (Keep.start hp);have hbx:=zj (w:=w) zeroObj;have HX:Hid (ZeroBox (w.alloc zeroObj) w.heap.size):=zb (ZeroBox.new w);replace HK:=zb (HK.out.below hbx);clear hbx;have HPB:Hid (p<w.heap.size):=zb (by have:=HLT.out;omega);have HB0:Hid (w.heap.size<=w.heap.size):=zb (by omega);have HR:Hid (run (f+1) .item T=exec (run f) (step .item) T):=zb rfl;have HN:=zb hne;obtain⟨t0,S0,hT0⟩:=hp.row.cons;generalize run (f+1) .item T=res at *;subst hT0;simp only[step,exec] at HR;clear hp hne
 go_enter Tryz.func121, Tryz.ntmps121
 have HAC:=zb (fun W b h hb=>qL p t0 S0 [sFun] _ _ rfl rfl (by decide) W b h hb)
 go_wp2_with fail
 refine(HAC.out _ _ HK.out.at_ (by simp)).mono ?_;rintro e W1 ⟨rfl,hb2⟩;replace HX:=zb (HX.out.below hb2);replace HK:=zb (HK.out.below hb2);clear hb2 HAC;cases hy:isOne [sFun] t0 with
 | true =>
  rw[hy,if_pos rfl] at HR;clear hy
  go_wp2_with fail
  cases hr:run f .fn (t0::S0) with
  | out =>
   rw[hr] at HR;exact absurd HR.out HN.out
  | bad R9 =>
   rw[hr] at HR;refine(HHF.out (t0::S0) _ HK.out.at_ (by rw[hr];exact fun h=>by cases h)).mono ?_;rw[hr];rintro e w8 ⟨t8,S8,rfl,rfl,hg⟩;have HG:=zb (zo HK.out.grown hg);clear hg hr;unfold faultV
   go_wp2_with fail
   exact⟨rfl,by rw[HR.out];exact⟨t8,S8,rfl,rfl,HG.out⟩⟩
  | ok y R2 =>
   rw[hr] at HR;refine(HHF.out (t0::S0) _ HK.out.at_ (by rw[hr];exact fun h=>by cases h)).mono ?_;rw[hr];rintro e W2 ⟨s2,rfl,ha,hk⟩;clear hr;have HAy:Hid (IsE W2 (fun g=>w.heap.size<g) (exL y s2) y):=zb (ha.wide fun g hg=>zd HX.out.lt hg);clear ha;replace HX:=zb (HX.out.keep hk HPB.out);replace HK:=zb (HK.out.trans hk);clear hk;obtain⟨x0,x1,x2,x3,x4,x5,x6,x7,xf⟩:=(Box8.cells HX.out);have y0:=xf 0;have y1:=xf 1;have y2:=xf 2;have y3:=xf 3;have y4:=xf 4;have y5:=xf 5;have y6:=xf 6;have y7:=xf 7;have hxl:=HX.out.lt;clear xf;have HS:=zb (zH HX.out HB0.out HK.out HLT.out HAy.out rfl);unfold set8 at HS;unfold exOf exV
   go_wp2_with fail
   generalize World.setCell _ _ _=w9 at *;rw[HR.out];exact zu Tryz.results121 rfl rfl (HS.out _ (Below.refl _ _))
 | false =>
  rw[hy,if_neg (by decide)] at HR;clear hy;have HAC:=zb (fun W b h hb=>yc p t0 S0 [sLet,sMatch,sTry,sIf,sRaise] _ _ rfl rfl (by decide) W b h hb)
  go_wp2_with fail
  refine(HAC.out _ _ HK.out.at_ (by simp)).mono ?_;rintro e W2 (⟨hy,rfl,hp2,hg2⟩ | ⟨hy,rfl,hb2⟩)
  . rw[hy,if_pos rfl] at HR;have hk2:=Keep.mk hp2 hg2;replace HX:=zb (HX.out.keep hk2 HPB.out);replace HK:=zb (HK.out.trans hk2);clear hy hp2 hg2 hk2 HAC;have hbx:=zj (w:=W2) (tokObj t0);have HT:=zb (TkBox.new W2 t0);have HTP:Hid (p<W2.heap.size):=zb (by have:=HPB.out;have:=HX.out.lt;omega);have HTZ:Hid (w.heap.size<W2.heap.size):=zb HX.out.lt;replace HX:=zb (HX.out.below hbx);replace HK:=zb (HK.out.below hbx);clear hbx;obtain⟨k0,k1,k2,k3,_⟩:=TokBox.cells (HT.out);have kl:=(HT.out).lt;by_cases hx:t0.1.text=sLet
    . rw[if_pos hx] at HR;have BsLet:(t0.1.text == [108,101,116])=true:=by rw[hx];rfl
      clear hx;simp only[exec] at HR;unfold tokVal tokAgg
      go_wp2_with fail
      cases hr:run f (.letb t0) S0 with
      | out =>
       rw[hr] at HR;exact absurd HR.out HN.out
      | bad R9 =>
       rw[hr] at HR;refine(HHL.out _ S0 _ HK.out.at_ (by rw[hr];exact fun h=>by cases h)).mono ?_;rw[hr];rintro e w8 ⟨t8,S8,rfl,rfl,hg⟩;have HG:=zb (zo HK.out.grown hg);clear hg hr;unfold faultV
       go_wp2_with fail
       exact⟨rfl,by rw[HR.out];exact⟨t8,S8,rfl,rfl,HG.out⟩⟩
      | ok y R3 =>
       rw[hr] at HR;refine(HHL.out _ S0 _ HK.out.at_ (by rw[hr];exact fun h=>by cases h)).mono ?_;rw[hr];rintro e W3 ⟨s3,rfl,ha,hk⟩;clear hr;have HAy:Hid (IsE W3 (fun g=>w.heap.size<g) (exL y s3) y):=zb (ha.wide fun g hg=>zd HX.out.lt hg);clear ha;replace HX:=zb (HX.out.keep hk HPB.out);replace HT:=zb (HT.out.keep hk HTP.out);replace HK:=zb (HK.out.trans hk);clear hk;obtain⟨x0,x1,x2,x3,x4,x5,x6,x7,xf⟩:=(Box8.cells HX.out);have y0:=xf 0;have y1:=xf 1;have y2:=xf 2;have y3:=xf 3;have y4:=xf 4;have y5:=xf 5;have y6:=xf 6;have y7:=xf 7;have hxl:=HX.out.lt;clear xf;have HS:=zb (zH HX.out HB0.out HK.out HLT.out HAy.out rfl);unfold set8 at HS;unfold exOf exV
       go_wp2_with fail
       generalize World.setCell _ _ _=w9 at *;rw[HR.out];exact zu Tryz.results121 rfl rfl (HS.out _ (Below.refl _ _))
    . rw[if_neg hx] at HR;have BsLet:(t0.1.text == [108,101,116])=false:=beq_eq_false_iff_ne.2 hx;clear hx;by_cases hx:t0.1.text=sMatch
      . rw[if_pos hx] at HR;have BsMatch:(t0.1.text == [109,97,116,99,104])=true:=by rw[hx];rfl
        clear hx;simp only[exec] at HR;unfold tokVal tokAgg
        go_wp2_with fail
        cases hr:run f (.cases 16 t0) S0 with
        | out =>
         rw[hr] at HR;exact absurd HR.out HN.out
        | bad R9 =>
         rw[hr] at HR;refine(HHC.out _ _ (by decide) S0 _ HK.out.at_ (by rw[hr];exact fun h=>by cases h)).mono ?_;rw[hr];rintro e w8 ⟨t8,S8,rfl,rfl,hg⟩;have HG:=zb (zo HK.out.grown hg);clear hg hr;unfold faultV
         go_wp2_with fail
         exact⟨rfl,by rw[HR.out];exact⟨t8,S8,rfl,rfl,HG.out⟩⟩
        | ok y R3 =>
         rw[hr] at HR;refine(HHC.out _ _ (by decide) S0 _ HK.out.at_ (by rw[hr];exact fun h=>by cases h)).mono ?_;rw[hr];rintro e W3 ⟨s3,rfl,ha,hk⟩;clear hr;have HAy:Hid (IsE W3 (fun g=>w.heap.size<g) (exL y s3) y):=zb (ha.wide fun g hg=>zd HX.out.lt hg);clear ha;replace HX:=zb (HX.out.keep hk HPB.out);replace HT:=zb (HT.out.keep hk HTP.out);replace HK:=zb (HK.out.trans hk);clear hk;obtain⟨x0,x1,x2,x3,x4,x5,x6,x7,xf⟩:=(Box8.cells HX.out);have y0:=xf 0;have y1:=xf 1;have y2:=xf 2;have y3:=xf 3;have y4:=xf 4;have y5:=xf 5;have y6:=xf 6;have y7:=xf 7;have hxl:=HX.out.lt;clear xf;have HS:=zb (zH HX.out HB0.out HK.out HLT.out HAy.out rfl);unfold set8 at HS;unfold exOf exV
         go_wp2_with fail
         generalize World.setCell _ _ _=w9 at *;rw[HR.out];exact zu Tryz.results121 rfl rfl (HS.out _ (Below.refl _ _))
      . rw[if_neg hx] at HR;have BsMatch:(t0.1.text == [109,97,116,99,104])=false:=beq_eq_false_iff_ne.2 hx;clear hx;by_cases hx:t0.1.text=sTry
        . rw[if_pos hx] at HR;have BsTry:(t0.1.text == [116,114,121])=true:=by rw[hx];rfl
          clear hx;simp only[exec] at HR;unfold tokVal tokAgg
          go_wp2_with fail
          cases hr:run f (.cases 17 t0) S0 with
          | out =>
           rw[hr] at HR;exact absurd HR.out HN.out
          | bad R9 =>
           rw[hr] at HR;refine(HHC.out _ _ (by decide) S0 _ HK.out.at_ (by rw[hr];exact fun h=>by cases h)).mono ?_;rw[hr];rintro e w8 ⟨t8,S8,rfl,rfl,hg⟩;have HG:=zb (zo HK.out.grown hg);clear hg hr;unfold faultV
           go_wp2_with fail
           exact⟨rfl,by rw[HR.out];exact⟨t8,S8,rfl,rfl,HG.out⟩⟩
          | ok y R3 =>
           rw[hr] at HR;refine(HHC.out _ _ (by decide) S0 _ HK.out.at_ (by rw[hr];exact fun h=>by cases h)).mono ?_;rw[hr];rintro e W3 ⟨s3,rfl,ha,hk⟩;clear hr;have HAy:Hid (IsE W3 (fun g=>w.heap.size<g) (exL y s3) y):=zb (ha.wide fun g hg=>zd HX.out.lt hg);clear ha;replace HX:=zb (HX.out.keep hk HPB.out);replace HT:=zb (HT.out.keep hk HTP.out);replace HK:=zb (HK.out.trans hk);clear hk;obtain⟨x0,x1,x2,x3,x4,x5,x6,x7,xf⟩:=(Box8.cells HX.out);have y0:=xf 0;have y1:=xf 1;have y2:=xf 2;have y3:=xf 3;have y4:=xf 4;have y5:=xf 5;have y6:=xf 6;have y7:=xf 7;have hxl:=HX.out.lt;clear xf;have HS:=zb (zH HX.out HB0.out HK.out HLT.out HAy.out rfl);unfold set8 at HS;unfold exOf exV
           go_wp2_with fail
           generalize World.setCell _ _ _=w9 at *;rw[HR.out];exact zu Tryz.results121 rfl rfl (HS.out _ (Below.refl _ _))
        . rw[if_neg hx] at HR;have BsTry:(t0.1.text == [116,114,121])=false:=beq_eq_false_iff_ne.2 hx;clear hx;by_cases hx:t0.1.text=sIf
          . rw[if_pos hx] at HR;have BsIf:(t0.1.text == [105,102])=true:=by rw[hx];rfl
            clear hx;simp only[exec] at HR;unfold tokVal tokAgg
            go_wp2_with fail
            cases hr:run f (.choice t0) S0 with
            | out =>
             rw[hr] at HR;exact absurd HR.out HN.out
            | bad R9 =>
             rw[hr] at HR;refine(HHI.out _ S0 _ HK.out.at_ (by rw[hr];exact fun h=>by cases h)).mono ?_;rw[hr];rintro e w8 ⟨t8,S8,rfl,rfl,hg⟩;have HG:=zb (zo HK.out.grown hg);clear hg hr;unfold faultV
             go_wp2_with fail
             exact⟨rfl,by rw[HR.out];exact⟨t8,S8,rfl,rfl,HG.out⟩⟩
            | ok y R3 =>
             rw[hr] at HR;refine(HHI.out _ S0 _ HK.out.at_ (by rw[hr];exact fun h=>by cases h)).mono ?_;rw[hr];rintro e W3 ⟨s3,rfl,ha,hk⟩;clear hr;have HAy:Hid (IsE W3 (fun g=>w.heap.size<g) (exL y s3) y):=zb (ha.wide fun g hg=>zd HX.out.lt hg);clear ha;replace HX:=zb (HX.out.keep hk HPB.out);replace HT:=zb (HT.out.keep hk HTP.out);replace HK:=zb (HK.out.trans hk);clear hk;obtain⟨x0,x1,x2,x3,x4,x5,x6,x7,xf⟩:=(Box8.cells HX.out);have y0:=xf 0;have y1:=xf 1;have y2:=xf 2;have y3:=xf 3;have y4:=xf 4;have y5:=xf 5;have y6:=xf 6;have y7:=xf 7;have hxl:=HX.out.lt;clear xf;have HS:=zb (zH HX.out HB0.out HK.out HLT.out HAy.out rfl);unfold set8 at HS;unfold exOf exV
             go_wp2_with fail
             generalize World.setCell _ _ _=w9 at *;rw[HR.out];exact zu Tryz.results121 rfl rfl (HS.out _ (Below.refl _ _))
          . rw[if_neg hx] at HR;have BsIf:(t0.1.text == [105,102])=false:=beq_eq_false_iff_ne.2 hx;clear hx;simp only[exec] at HR;have hnd:∀ y,node 18 t0 [y]=.mk ⟨18,t0.2,[],0,[],[]⟩ [y] []:=fun _=>rfl;simp only[hnd] at HR;clear hnd;unfold tokVal tokAgg
            go_upto_region 15 with fail
            generalize hb0:W2.heap.size=b0 at *;clear hb0;generalize (W2.alloc (tokObj t0))=w3 at *;have HKd:=zb (HK.out.below (zm _));obtain⟨k0,k1,k2,k3,_⟩:=TokBox.cells (HT.out);have kl:=(HT.out).lt;have n0:¬b0=w.heap.size:=by have:=HTZ.out;omega
            have m0:¬w.heap.size=b0:=by have:=HTZ.out;omega
            cases hr:run f .post S0 with
            | out =>
             rw[hr] at HR;exact absurd HR.out HN.out
            | bad R9 =>
             rw[hr] at HR;have HSC:Hid (∀ W,PAt W p S0->Calls Tryz.prog 182 #[ptrV p] W (Told (.bad R9) W p)):=zb (fun W h=>by
              have:=HHP1.out S0 W h (by rw[hr];exact fun h=>by cases h)
              rwa [hr] at this)
             clear hr
             go_region_dies
             all_goals
              refine(HSC.out _ HKd.out.at_).mono ?_;rintro e w8 ⟨t8,S8,rfl,rfl,hg⟩;have HG:=zb (zo HKd.out.grown hg);exact⟨rfl,by rw[HR.out];exact⟨t8,S8,rfl,rfl,HG.out⟩⟩
            | ok b Ry =>
             rw[hr] at HR;have HSC:Hid (∀ W,PAt W p S0->Calls Tryz.prog 182 #[ptrV p] W (Told (.ok b Ry) W p)):=zb (fun W h=>by
              have:=HHP1.out S0 W h (by rw[hr];exact fun h=>by cases h)
              rwa [hr] at this)
             clear hr
             go_region_held3 (fun W=>W.cell? ⟨b0,0,none⟩=some (.int .i64 t0.1.kind)/\W.cell? ⟨b0,1,none⟩=some (.int .i64 (t0.2:Nat))/\W.cell? ⟨b0,2,none⟩=some (.string ⟨t0.1.text.toArray⟩)/\W.cell? ⟨b0,3,none⟩=some (.int .i64 t0.1.n)) (go_keep) (first | (go_at_call 182; refine(HSC.out _ HKd.out.at_).mono ?_;rintro e Wy ⟨sy,rfl,ha,hk⟩;have HAb:Hid (IsE Wy (fun g=>w.heap.size<g) (exL b sy) b):=zb (ha.wide fun g hg=>zd (HX.out.below (zm _)).lt hg);replace HX:=zb ((HX.out.below (zm _)).keep hk HPB.out);replace HT:=zb ((HT.out.below (zm _)).keep hk HTP.out);replace HK:=zb (HKd.out.trans hk);clear HKd;obtain⟨k0,k1,k2,k3,_⟩:=TokBox.cells (HT.out);have kl:=(HT.out).lt;clear ha hk;unfold exOf exV) | (go_at_call 123; refine(zz 18 t0 _ _ _ _).mono ?_;rintro e Wz ⟨rfl,hb2⟩;have HNR:=zb (zG (L:=[exL b sy]) (args:=[b]) HK.out ⟨HAb.out,trivial⟩ HX.out.lt (by simp) ⟨18,t0.2,[],0,[],[]⟩ rfl hb2);replace HX:=zb (HX.out.below HNR.out.2.2);replace HT:=zb (HT.out.below HNR.out.2.2);obtain⟨k0,k1,k2,k3,_⟩:=TokBox.cells (HT.out);have kl:=(HT.out).lt;obtain⟨x0,x1,x2,x3,x4,x5,x6,x7,xf⟩:=(Box8.cells HX.out);have y0:=xf 0;have y1:=xf 1;have y2:=xf 2;have y3:=xf 3;have y4:=xf 4;have y5:=xf 5;have y6:=xf 6;have y7:=xf 7;have hxl:=HX.out.lt;clear xf;clear hb2;unfold exV))
             have HS:=zb (yM HX.out HB0.out HLT.out ⟨HNR.out.1,HNR.out.2.1⟩ 1 rfl ⟨#[]⟩ rfl rfl);unfold set8 at HS
             go_wp2_with fail
             generalize World.setCell _ _ _=w9 at *;rw[HR.out];exact zu Tryz.results121 rfl rfl (HS.out _ (Below.refl _ _))
  . rw[hy,if_neg (by decide)] at HR;replace HX:=zb (HX.out.below hb2);replace HK:=zb (HK.out.below hb2);clear hb2 HAC;have hbp:=zj (w:=W2) zeroTok;replace HX:=zb (HX.out.below hbp);replace HK:=zb (HK.out.below hbp);clear hbp;unfold tokAgg
    go_wp2_with fail
    cases hr:run f .asg (t0::S0) with
    | out =>
     rw[hr] at HR;exact absurd HR.out HN.out
    | bad R9 =>
     rw[hr] at HR;refine(HHA.out (t0::S0) _ HK.out.at_ (by rw[hr];exact fun h=>by cases h)).mono ?_;rw[hr];rintro e w8 ⟨t8,S8,rfl,rfl,hg⟩;have HG:=zb (zo HK.out.grown hg);clear hg hr;unfold faultV
     go_wp2_with fail
     exact⟨rfl,by rw[HR.out];exact⟨t8,S8,rfl,rfl,HG.out⟩⟩
    | ok y R3 =>
     rw[hr] at HR;refine(HHA.out (t0::S0) _ HK.out.at_ (by rw[hr];exact fun h=>by cases h)).mono ?_;rw[hr];rintro e W3 ⟨s3,rfl,ha,hk⟩;clear hr;have HAy:Hid (IsE W3 (fun g=>w.heap.size<g) (exL y s3) y):=zb (ha.wide fun g hg=>zd HX.out.lt hg);clear ha;replace HX:=zb (HX.out.keep hk HPB.out);replace HK:=zb (HK.out.trans hk);clear hk;obtain⟨x0,x1,x2,x3,x4,x5,x6,x7,xf⟩:=(Box8.cells HX.out);have y0:=xf 0;have y1:=xf 1;have y2:=xf 2;have y3:=xf 3;have y4:=xf 4;have y5:=xf 5;have y6:=xf 6;have y7:=xf 7;have hxl:=HX.out.lt;clear xf;have HS:=zb (zH HX.out HB0.out HK.out HLT.out HAy.out rfl);unfold set8 at HS;unfold exOf exV
     go_wp2_with fail
     generalize World.setCell _ _ _=w9 at *;rw[HR.out];exact zu Tryz.results121 rfl rfl (HS.out _ (Below.refl _ _))
end
