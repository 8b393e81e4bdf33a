/-
  The walk of choice.
-/
import Derived.Test.YtigbapkdpaahjaaGreatDoorGNode
import Derived.RegionDies
namespace Go.Proofs.YtigbapkdpaahjaaGreatDoor
set_option linter.unusedSimpArgs false
set_option linter.unusedVariables false
set_option maxRecDepth 100000
set_option maxHeartbeats 4000000
open Go.RowKit
theorem w_choice (f p:Nat) (t:Tok) (hs:Says f .seq 47 #[ptrV p] p) (hi:Says f .item 85 #[ptrV p] p):Says (f+1) (.choice t) 134 #[ptrV p,tokVal t] p:=by
 have HHS:=zb hs
 clear hs
 have HHI:=zb hi
 clear hi
 intro T w hp hne
 have HLT:=zb hp.lt
 have HK:=zb (Keep.start hp)
 have hbx:=zj (w:=w) (tokObj t)
 have HT:=zb (TkBox.new w t)
 have HTP:Hid (p<w.heap.size):=HLT
 replace HK:=zb (HK.out.below hbx)
 clear hbx
 have hbx:=zj (w:=(w.alloc (tokObj t))) zeroObj
 replace HT:=zb (HT.out.below hbx)
 have HX:Hid (ZeroBox ((w.alloc (tokObj t)).alloc zeroObj) (w.heap.size+1)):=zb (by have h9:=ZeroBox.new (w.alloc (tokObj t));rwa [World.size_alloc] at h9)
 replace HK:=zb (HK.out.below hbx)
 clear hbx
 have HPB:Hid (p<(w.heap.size+1)):=zb (by have:=HLT.out;omega)
 have HB0:Hid (w.heap.size≤(w.heap.size+1)):=zb (by omega)
 have HR:Hid (run (f+1) (.choice t) T=exec (run f) (step (.choice t)) T):=zb rfl
 have HN:=zb hne
 obtain⟨t0,S0,hT0⟩:=hp.row.cons
 generalize run (f+1) (.choice t) T=res at *
 subst hT0
 simp only[step,need,exec] at HR
 clear hp hne
 unfold tokVal tokAgg
 go_enter Tryz.func134, Tryz.ntmps134
 go_wp2_with fail
 cases hr:run f .seq (t0::S0) with
 | out =>
  rw[hr] at HR
  exact absurd HR.out HN.out
 | bad R9 =>
  rw[hr] at HR
  refine(HHS.out (t0::S0) _ HK.out.at_ (by rw[hr];exact fun h=>by cases h)).mono ?_
  rw[hr]
  rintro e w8 ⟨t8,S8,rfl,rfl,hg⟩
  have HG:=zb (zo HK.out.grown hg)
  clear hg hr
  unfold faultV
  go_wp2_with fail
  exact⟨rfl,by rw[HR.out];exact⟨t8,S8,rfl,rfl,HG.out⟩⟩
 | ok a R1 =>
  rw[hr] at HR
  refine(HHS.out (t0::S0) _ HK.out.at_ (by rw[hr];exact fun h=>by cases h)).mono ?_
  rw[hr]
  rintro e W1 ⟨s1,rfl,ha,hk⟩
  clear hr
  have HAa:Hid (IsE W1 (fun g=>(w.heap.size+1)<g) (exL a s1) a):=zb (ha.wide fun g hg=>zd HX.out.lt hg)
  clear ha
  replace HX:=zb (HX.out.keep hk HPB.out)
  replace HT:=zb (HT.out.keep hk HTP.out)
  replace HK:=zb (HK.out.trans hk)
  clear hk
  have hbx:=zj (w:=W1) (exObj a s1)
  have HF:=zb (ExBox.new W1 a s1)
  have HFP:Hid (p<W1.heap.size):=zb (by have:=HPB.out;have:=HX.out.lt;omega)
  have HFZ:Hid ((w.heap.size+1)<W1.heap.size):=zb HX.out.lt
  replace HX:=zb (HX.out.below hbx)
  replace HT:=zb (HT.out.below hbx)
  replace HAa:=zb (HAa.out.below hbx)
  replace HK:=zb (HK.out.below hbx)
  clear hbx
  obtain⟨t2,S2,rfl⟩:=HK.out.at_.row.cons
  simp only[exec] at HR
  have HAC:=zb (fun W b h hb=>zE p t2 S2 [sThen] _ _ rfl rfl (by decide) W b h hb)
  unfold exOf exV
  go_wp2_with fail
  refine(HAC.out _ _ HK.out.at_ (by simp)).mono ?_
  rintro e W3 (⟨hy,rfl,hp2,hg2⟩ | ⟨hy,rfl,hb2⟩)
  · rw[hy,if_pos rfl] at HR
    have hk2:=Keep.mk hp2 hg2
    replace HX:=zb (HX.out.keep hk2 HPB.out)
    replace HT:=zb (HT.out.keep hk2 HTP.out)
    replace HF:=zb (HF.out.keep hk2 HFP.out)
    replace HAa:=zb (HAa.out.keep hk2 (fun g hg=>by have:=HPB.out;omega))
    replace HK:=zb (HK.out.trans hk2)
    clear hp2 hg2 hk2 HAC hy
    unfold tokVal tokAgg
    go_wp2_with fail
    cases hr:run f .item S2 with
    | out =>
     rw[hr] at HR
     exact absurd HR.out HN.out
    | bad R9 =>
     rw[hr] at HR
     refine(HHI.out S2 _ HK.out.at_ (by rw[hr];exact fun h=>by cases h)).mono ?_
     rw[hr]
     rintro e w8 ⟨t8,S8,rfl,rfl,hg⟩
     have HG:=zb (zo HK.out.grown hg)
     clear hg hr
     unfold faultV
     go_wp2_with fail
     exact⟨rfl,by rw[HR.out];exact⟨t8,S8,rfl,rfl,HG.out⟩⟩
    | ok b R4 =>
     rw[hr] at HR
     refine(HHI.out S2 _ HK.out.at_ (by rw[hr];exact fun h=>by cases h)).mono ?_
     rw[hr]
     rintro e W4 ⟨s4,rfl,ha,hk⟩
     clear hr
     have HAb:Hid (IsE W4 (fun g=>(w.heap.size+1)<g) (exL b s4) b):=zb (ha.wide fun g hg=>zd HX.out.lt hg)
     clear ha
     replace HX:=zb (HX.out.keep hk HPB.out)
     replace HT:=zb (HT.out.keep hk HTP.out)
     replace HF:=zb (HF.out.keep hk HFP.out)
     replace HAa:=zb (HAa.out.keep hk (fun g hg=>by have:=HPB.out;omega))
     replace HK:=zb (HK.out.trans hk)
     clear hk
     have hbx:=zj (w:=W4) (exObj b s4)
     have HQ:=zb (ExBox.new W4 b s4)
     have HQP:Hid (p<W4.heap.size):=zb (by have:=HPB.out;have:=HX.out.lt;omega)
     have HQZ:Hid ((w.heap.size+1)<W4.heap.size):=zb HX.out.lt
     replace HX:=zb (HX.out.below hbx)
     replace HT:=zb (HT.out.below hbx)
     replace HF:=zb (HF.out.below hbx)
     replace HAa:=zb (HAa.out.below hbx)
     replace HAb:=zb (HAb.out.below hbx)
     replace HK:=zb (HK.out.below hbx)
     clear hbx
     obtain⟨t5,S5,rfl⟩:=HK.out.at_.row.cons
     simp only[exec] at HR
     have HAC:=zb (fun W b h hb=>zE p t5 S5 [sElse] _ _ rfl rfl (by decide) W b h hb)
     unfold exOf exV
     go_wp2_with fail
     refine(HAC.out _ _ HK.out.at_ (by simp)).mono ?_
     rintro e W6 (⟨hy,rfl,hp2,hg2⟩ | ⟨hy,rfl,hb2⟩)
     · rw[hy,if_pos rfl] at HR
       have hk2:=Keep.mk hp2 hg2
       replace HX:=zb (HX.out.keep hk2 HPB.out)
       replace HT:=zb (HT.out.keep hk2 HTP.out)
       replace HF:=zb (HF.out.keep hk2 HFP.out)
       replace HQ:=zb (HQ.out.keep hk2 HQP.out)
       replace HAa:=zb (HAa.out.keep hk2 (fun g hg=>by have:=HPB.out;omega))
       replace HAb:=zb (HAb.out.keep hk2 (fun g hg=>by have:=HPB.out;omega))
       replace HK:=zb (HK.out.trans hk2)
       clear hp2 hg2 hk2 HAC hy
       have hnd:∀ y,node 11 t [a,b,y]=.mk ⟨11,t.2,[],0,[],[]⟩ [a,b,y] []:=fun _=>rfl
       simp only[hnd] at HR
       clear hnd
       unfold tokVal tokAgg
       go_upto_region 5 with fail
       generalize hb1:W1.heap.size=b1 at *
       clear hb1
       generalize hb2:W4.heap.size=b2 at *
       clear hb2
       have HKd:=zb (HK.out.below (zm _))
       obtain⟨k0,k1,k2,k3,_⟩:=TokBox.cells (HT.out);have kl:=(HT.out).lt
       have n0:¬w.heap.size=(w.heap.size+1):=by skip;omega
       have m0:¬(w.heap.size+1)=w.heap.size:=by skip;omega
       obtain⟨f0,f1,f2,f3,f4,f5,f6,f7,_⟩:=Box8.cells (HF.out);have fl:=(HF.out).lt
       have n1:¬b1=(w.heap.size+1):=by have:=HFZ.out;omega
       have m1:¬(w.heap.size+1)=b1:=by have:=HFZ.out;omega
       obtain⟨h0,h1,h2,h3,h4,h5,h6,h7,_⟩:=Box8.cells (HQ.out);have hl:=(HQ.out).lt
       have n2:¬b2=(w.heap.size+1):=by have:=HQZ.out;omega
       have m2:¬(w.heap.size+1)=b2:=by have:=HQZ.out;omega
       cases hr:run f .item S5 with
       | out =>
        rw[hr] at HR
        exact absurd HR.out HN.out
       | bad R9 =>
        rw[hr] at HR
        have HSC:Hid (∀ W,PAt W p S5→Calls Tryz.prog 85 #[ptrV p] W (Told (.bad R9) W p)):=zb (fun W h=>by
         have:=HHI.out S5 W h (by rw[hr];exact fun h=>by cases h)
         rwa [hr] at this)
        clear hr
        go_region_dies
        all_goals
         refine(HSC.out _ HKd.out.at_).mono ?_
         rintro e w8 ⟨t8,S8,rfl,rfl,hg⟩
         have HG:=zb (zo HKd.out.grown hg)
         exact⟨rfl,by rw[HR.out];exact⟨t8,S8,rfl,rfl,HG.out⟩⟩
       | ok y Ry =>
        rw[hr] at HR
        have HSC:Hid (∀ W,PAt W p S5→Calls Tryz.prog 85 #[ptrV p] W (Told (.ok y Ry) W p)):=zb (fun W h=>by
         have:=HHI.out S5 W h (by rw[hr];exact fun h=>by cases h)
         rwa [hr] at this)
        clear hr
        go_region_held3 (fun W=>W.cell? ⟨w.heap.size,0,none⟩=some (.int .i64 t.1.kind)∧W.cell? ⟨w.heap.size,1,none⟩=some (.int .i64 (t.2:Nat))∧W.cell? ⟨w.heap.size,2,none⟩=some (.string ⟨t.1.text.toArray⟩)∧W.cell? ⟨w.heap.size,3,none⟩=some (.int .i64 t.1.n)∧W.cell? ⟨b1,0,none⟩=some (.int .i64 a.hd.kind)∧W.cell? ⟨b1,1,none⟩=some (.int .i64 a.hd.pos)∧W.cell? ⟨b1,2,none⟩=some (.string ⟨a.hd.name.toArray⟩)∧W.cell? ⟨b1,3,none⟩=some (.int .i64 a.hd.n)∧W.cell? ⟨b1,4,none⟩=some (.string ⟨a.hd.s.toArray⟩)∧W.cell? ⟨b1,5,none⟩=some (.slice s1.la a.hd.labels.length s1.lc)∧W.cell? ⟨b1,6,none⟩=some (.slice s1.aa a.args.length s1.ac)∧W.cell? ⟨b1,7,none⟩=some (.slice s1.ra a.arms.length s1.rc)∧W.cell? ⟨b2,0,none⟩=some (.int .i64 b.hd.kind)∧W.cell? ⟨b2,1,none⟩=some (.int .i64 b.hd.pos)∧W.cell? ⟨b2,2,none⟩=some (.string ⟨b.hd.name.toArray⟩)∧W.cell? ⟨b2,3,none⟩=some (.int .i64 b.hd.n)∧W.cell? ⟨b2,4,none⟩=some (.string ⟨b.hd.s.toArray⟩)∧W.cell? ⟨b2,5,none⟩=some (.slice s4.la b.hd.labels.length s4.lc)∧W.cell? ⟨b2,6,none⟩=some (.slice s4.aa b.args.length s4.ac)∧W.cell? ⟨b2,7,none⟩=some (.slice s4.ra b.arms.length s4.rc)) (go_keep) (first | (go_at_call 85; refine(HSC.out _ HKd.out.at_).mono ?_;rintro e Wy ⟨sy,rfl,ha,hk⟩;have HAy:Hid (IsE Wy (fun g=>(w.heap.size+1)<g) (exL y sy) y):=zb (ha.wide fun g hg=>zd (HX.out.below (zm _)).lt hg);replace HX:=zb ((HX.out.below (zm _)).keep hk HPB.out);replace HT:=zb ((HT.out.below (zm _)).keep hk HTP.out);replace HF:=zb ((HF.out.below (zm _)).keep hk HFP.out);replace HQ:=zb ((HQ.out.below (zm _)).keep hk HQP.out);replace HAa:=zb ((HAa.out.below (zm _)).keep hk (fun g hg=>by have:=HPB.out;omega));replace HAb:=zb ((HAb.out.below (zm _)).keep hk (fun g hg=>by have:=HPB.out;omega));replace HK:=zb (HKd.out.trans hk);clear HKd;obtain⟨k0,k1,k2,k3,_⟩:=TokBox.cells (HT.out);have kl:=(HT.out).lt;obtain⟨f0,f1,f2,f3,f4,f5,f6,f7,_⟩:=Box8.cells (HF.out);have fl:=(HF.out).lt;obtain⟨h0,h1,h2,h3,h4,h5,h6,h7,_⟩:=Box8.cells (HQ.out);have hl:=(HQ.out).lt;clear ha hk;unfold exOf exV) | (go_at_call 87; refine(zz 11 t _ _ _ _).mono ?_;rintro e Wz ⟨rfl,hb2⟩;have HNR:=zb (zG (L:=[exL a s1,exL b s4,exL y sy]) (args:=[a,b,y]) HK.out ⟨HAa.out,HAb.out,HAy.out,trivial⟩ HX.out.lt (by simp) ⟨11,t.2,[],0,[],[]⟩ rfl hb2);replace HX:=zb (HX.out.below HNR.out.2.2);replace HT:=zb (HT.out.below HNR.out.2.2);replace HF:=zb (HF.out.below HNR.out.2.2);replace HQ:=zb (HQ.out.below HNR.out.2.2);obtain⟨k0,k1,k2,k3,_⟩:=TokBox.cells (HT.out);have kl:=(HT.out).lt;obtain⟨f0,f1,f2,f3,f4,f5,f6,f7,_⟩:=Box8.cells (HF.out);have fl:=(HF.out).lt;obtain⟨h0,h1,h2,h3,h4,h5,h6,h7,_⟩:=Box8.cells (HQ.out);have hl:=(HQ.out).lt;obtain⟨x0,x1,x2,x3,x4,x5,x6,x7,xf⟩:=(Box8.cells HX.out);have y0:=xf 0;have y1:=xf 1;have y2:=xf 2;have y3:=xf 3;have y4:=xf 4;have y5:=xf 5;have y6:=xf 6;have y7:=xf 7;have hxl:=HX.out.lt;clear xf;clear hb2;unfold exV))
        have HS:=zb (yM HX.out HB0.out HLT.out ⟨HNR.out.1,HNR.out.2.1⟩ 3 rfl ⟨#[]⟩ rfl rfl)
        unfold set8 at HS
        go_wp2_with fail
        generalize World.setCell _ _ _=w9 at *
        rw[HR.out]
        exact zu Tryz.results134 rfl rfl (HS.out _ (Below.refl _ _))
     · rw[hy,if_neg (by decide)] at HR
       have HG:=zb (zr HK.out.grown hb2)
       clear hb2 HAC
       unfold faultV
       go_wp2_with fail
       exact⟨rfl,by rw[HR.out];exact⟨t5,S5,rfl,rfl,HG.out⟩⟩
  · rw[hy,if_neg (by decide)] at HR
    have HG:=zb (zr HK.out.grown hb2)
    clear hb2 HAC
    unfold faultV
    go_wp2_with fail
    exact⟨rfl,by rw[HR.out];exact⟨t2,S2,rfl,rfl,HG.out⟩⟩
