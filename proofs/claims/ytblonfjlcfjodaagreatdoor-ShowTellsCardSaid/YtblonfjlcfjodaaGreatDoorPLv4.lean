/-
  The walk of level 4.
-/
import Derived.Test.YtblonfjlcfjodaaGreatDoorPLevA
namespace Go.Proofs.YtblonfjlcfjodaaGreatDoor
set_option linter.unusedSimpArgs false
set_option linter.unusedVariables false
set_option maxRecDepth 100000
set_option maxHeartbeats 4000000
open Go.RowKit
theorem w_level4 (f p:Nat) (hn:Says f (.level 5) 212 #[ptrV p,.int .i64 5] p) (hr:∀ k,k<=f->Says k (.level 5) 212 #[ptrV p,.int .i64 5] p):Says (f+1) (.level 4) 212 #[ptrV p,.int .i64 4] p:=by
 have HHN:=zb hn;clear hn;have HHR:=zb hr;clear hr;intro T w hp hne;have HLT:=zb hp.lt;have HK:=zb (Keep.start hp);have hbx:=zj (w:=w) zeroObj;have HX:Hid (ZeroBox (w.alloc zeroObj) w.heap.size):=zb (ZeroBox.new w);replace HK:=zb (HK.out.below hbx);clear hbx;have HPB:Hid (p<w.heap.size):=zb (by have:=HLT.out;omega);have HB0:Hid (w.heap.size<=w.heap.size):=zb (by omega);have HR:Hid (run (f+1) (.level 4) T=exec (run f) (step (.level 4)) T):=zb rfl;have HN:=zb hne;obtain⟨t0,S0,hT0⟩:=hp.row.cons;generalize run (f+1) (.level 4) T=res at *;subst hT0;simp only[wc (show 4<5 by decide),Nat.reduceAdd] at HR;clear hp hne;have HV:=HK.out.at_.vars;have hv:=HV.levels;have u0:=hv 20 _ rfl;have u1:=hv 21 _ rfl;have u2:=hv 22 _ rfl;have u3:=hv 23 _ rfl;have u4:=hv 24 _ rfl;have ug : 2 < w.heap.size:=by have:=HLT.out;have:=HK.out.at_.low.2;omega
 clear hv HV
 go_enter Tryz.func212, Tryz.ntmps212
 go_wp2_with fail
 clear u0 u1 u2 u3 u4 ug;have hbx:=zj (w:=(w.alloc zeroObj)) (.cells #[.int .i64 19,.int .i64 1,.string ⟨#[42]⟩,.string ⟨#[47]⟩,.string ⟨#[37]⟩] 236 (0,0));have HL:Hid (Box5 ((w.alloc zeroObj).alloc (.cells #[.int .i64 19,.int .i64 1,.string ⟨#[42]⟩,.string ⟨#[47]⟩,.string ⟨#[37]⟩] 236 (0,0))) (w.heap.size+1) 236 (.int .i64 19) (.int .i64 1) (.string ⟨#[42]⟩) (.string ⟨#[47]⟩) (.string ⟨#[37]⟩)):=zb (vN _ _ _ _ _ _ _ _ (by rw[World.size_alloc]));replace HX:=zb (HX.out.below hbx);replace HK:=zb (HK.out.below hbx);clear hbx;have HLP:Hid (p<w.heap.size+1):=zb (by have:=HLT.out;omega)
 go_wp2_with fail
 cases hr:run f (.level 5) (t0::S0) with
 | out =>
  rw[hr] at HR;exact absurd HR.out HN.out
 | bad R9 =>
  rw[hr] at HR;refine(HHN.out (t0::S0) _ HK.out.at_ (by rw[hr];exact fun h=>by cases h)).mono ?_;rw[hr];rintro e w8 ⟨t8,S8,rfl,rfl,hg⟩;have HG:=zb (zo HK.out.grown hg);clear hg hr;unfold faultV
  go_wp2_with fail
  exact⟨rfl,by rw[HR.out];exact⟨t8,S8,rfl,rfl,HG.out⟩⟩
 | ok x R1 =>
  rw[hr] at HR;refine(HHN.out (t0::S0) _ HK.out.at_ (by rw[hr];exact fun h=>by cases h)).mono ?_;rw[hr];rintro e W1 ⟨s1,rfl,ha,hk⟩;clear hr;have HAx:Hid (IsE W1 (fun g=>w.heap.size<g) (exL x s1) x):=zb (ha.wide fun g hg=>zd HX.out.lt hg);clear ha;replace HX:=zb (HX.out.keep hk HPB.out);replace HL:=zb (HL.out.keep hk HLP.out);replace HK:=zb (HK.out.trans hk);clear hk;simp only at HR;have HRL:Hid (∃ k,k<=f/\res=run k (.lvl 4 x) R1):=zb ⟨f,Nat.le_refl _,HR.out⟩;have HA0:Hid (IsE (W1.alloc (exObj x s1)) (Nb w.heap.size W1.heap.size) (exL x s1) x):=zb (HAx.out.fresh _);have hbx:=zj (w:=W1) (exObj x s1);have HF0:=zb (ExBox.new W1 x s1);have HX0:=zb (HX.out.below hbx);have HL0:=zb (HL.out.below hbx);have HK0:=zb (HK.out.below hbx);have HNE:Hid (W1.heap.size≠w.heap.size/\w.heap.size<=W1.heap.size/\p<W1.heap.size/\w.heap.size+1<W1.heap.size/\p<w.heap.size+1):=zb ⟨by have:=HX.out.lt;omega,HK.out.size,by have:=HK.out.size;have:=HLT.out;omega,Box5.lt HL.out,by have:=HLT.out;omega⟩;clear hbx HAx HX HK HL HR;unfold exOf exV
  go_wp2_with fail
  generalize hbe:W1.heap.size=be at *;clear hbe;have HBL:Hid (w.heap.size<w.heap.size+1):=zb (by omega);generalize w.heap.size+1=bl at *;generalize W1.alloc (exObj x s1)=w3 at *
  go_loopw [8] (fun _ wr=>∃(x:Nd) (s:Sl) (R:List Tok),Hid (ExBox wr be x s)/\Hid (IsE wr (Nb w.heap.size be) (exL x s) x)/\Hid (Keep w p R wr)/\Hid (ZeroBox wr w.heap.size)/\Hid (Box5 wr bl 236 (.int .i64 19) (.int .i64 1) (.string ⟨#[42]⟩) (.string ⟨#[47]⟩) (.string ⟨#[37]⟩))/\Hid (∃ k,k<=f/\res=run k (.lvl 4 x) R)) (fun _ wr=>lenAt wr p)
  case atStart=>exact⟨x,s1,R1,HF0,HA0,HK0,HX0,HL0,HRL⟩
  case round =>
   clear HF0 HA0 HK0 HX0 HL0 HRL;obtain⟨x,s,R,HF,HA,HK,HX,HL,HRL⟩:=hrel;obtain⟨t,S,rfl⟩:=HK.out.at_.row.cons;have HM:=zb HK.out.at_.len;obtain⟨k,hk,HRk⟩:=HRL.out;obtain⟨k,rfl⟩:∃ j,k=j+1:=by
    cases k with
    | zero=>exact absurd HRk HN.out
    | succ k=>exact⟨k,rfl⟩
   have HR:Hid (res=exec (run k) (step (.lvl 4 x)) (t::S)):=zb HRk;have HPk:=zb (HHR.out k (by omega));clear HRk HRL;obtain⟨l0,l1,l2,l3,l4,lf⟩:=Box5.cells HL.out;have ll:=Box5.lt HL.out;have HAC:=zb (wK p t S (signsOf 4) 0 _ _ _ rfl _ bl _ _ _ HK.out.at_ HL.out)
   go_wp2_with fail
   refine HAC.out.mono ?_;clear l0 l1 l2 l3 l4 lf ll;rintro e V2 (⟨hy,rfl,hp2,hg2⟩ | ⟨hy,rfl,hb2⟩)
   . replace HR:=zb (HR.out.trans (lvl_left4 hy));have hk2:=Keep.mk hp2 hg2;replace HF:=zb (HF.out.keep hk2 HNE.out.2.2.1);replace HA:=zb (HA.out.keep hk2 (fun g hg=>Nat.lt_trans HPB.out hg.1));replace HX:=zb (HX.out.keep hk2 HPB.out);replace HL:=zb (HL.out.keep hk2 HNE.out.2.2.2.2);replace HK:=zb (HK.out.trans hk2);obtain⟨l0,l1,l2,l3,l4,_⟩:=Box5.cells HL.out;have ll:=Box5.lt HL.out;have hbx:=zj (w:=V2) (tokObj t);have HT:=zb (TkBox.new V2 t);have HTP:Hid (p<V2.heap.size):=zb (by have:=HX.out.lt;have:=HPB.out;omega);have HTZ:Hid (w.heap.size<V2.heap.size):=zb HX.out.lt;have HTE:Hid (be<V2.heap.size/\bl<V2.heap.size):=zb ⟨HF.out.lt,Box5.lt HL.out⟩;replace HF:=zb (HF.out.below hbx);replace HA:=zb (HA.out.below hbx);replace HX:=zb (HX.out.below hbx);replace HL:=zb (HL.out.below hbx);replace HK:=zb (HK.out.below hbx);clear hy hp2 hg2 hk2 HAC hbx;unfold tokVal tokAgg
     go_upto_region 13 with fail
     clear l0 l1 l2 l3 l4 ll;generalize V2.heap.size=bt at *;generalize V2.alloc (tokObj t)=w4 at *;have HKd:=zb (HK.out.below (zm _));obtain⟨e0,e1,e2,e3,e4,e5,e6,e7,ef⟩:=Box8.cells HF.out;have g0:=ef 0;have g1:=ef 1;have g2:=ef 2;have g3:=ef 3;have g4:=ef 4;have g5:=ef 5;have g6:=ef 6;have g7:=ef 7;have el:=HF.out.lt;clear ef;obtain⟨k0,k1,k2,k3,_⟩:=TokBox.cells HT.out;have kl:=HT.out.lt;obtain⟨l0,l1,l2,l3,l4,_⟩:=Box5.cells HL.out;have ll:=Box5.lt HL.out;cases hr:run k (.level 5) S with
     | out =>
      rw[hr] at HR;exact absurd HR.out HN.out
     | bad R9 =>
      rw[hr] at HR;have HSC:Hid (∀ W,PAt W p S->Calls Tryz.prog 212 #[ptrV p,.int .i64 5] W (Told (.bad R9) W p)):=zb (fun W h=>by
       have:=HPk.out S W h (by rw[hr];exact fun h=>by cases h)
       rwa [hr] at this)
      clear hr
      go_region_dies
      all_goals
       refine(HSC.out _ HKd.out.at_).mono ?_;rintro e w8 ⟨t8,S8,rfl,rfl,hg⟩;have HG:=zb (zo HKd.out.grown hg);exact⟨rfl,by rw[HR.out];exact⟨t8,S8,rfl,rfl,HG.out⟩⟩
     | ok b R2 =>
      rw[hr] at HR;have HSC:Hid (∀ W,PAt W p S->Calls Tryz.prog 212 #[ptrV p,.int .i64 5] W (Told (.ok b R2) W p)):=zb (fun W h=>by
       have:=HPk.out S W h (by rw[hr];exact fun h=>by cases h)
       rwa [hr] at this)
      have HM2:Hid (R2.length<=S.length):=zb (by
       have h9:=xd k (.level 5) S;rw[hr] at h9;obtain⟨P,h1,_,h3⟩:=h9;have h4:=congrArg List.length h1;rw[List.length_append] at h4;omega)
      clear hr;refine yg 10 (fun W=>W.cell? ⟨bl,0,none⟩=some (.int .i64 19)/\W.cell? ⟨bt,0,none⟩=some (.int .i64 t.1.kind)/\W.cell? ⟨bt,1,none⟩=some (.int .i64 (t.2:Nat))/\W.cell? ⟨bt,2,none⟩=some (.string ⟨t.1.text.toArray⟩)/\W.cell? ⟨bt,3,none⟩=some (.int .i64 t.1.n)/\W.cell? ⟨be,0,none⟩=some (.int .i64 x.hd.kind)/\W.cell? ⟨be,1,none⟩=some (.int .i64 x.hd.pos)/\W.cell? ⟨be,2,none⟩=some (.string ⟨x.hd.name.toArray⟩)/\W.cell? ⟨be,3,none⟩=some (.int .i64 x.hd.n)/\W.cell? ⟨be,4,none⟩=some (.string ⟨x.hd.s.toArray⟩)/\W.cell? ⟨be,5,none⟩=some (.slice s.la x.hd.labels.length s.lc)/\W.cell? ⟨be,6,none⟩=some (.slice s.aa x.args.length s.ac)/\W.cell? ⟨be,7,none⟩=some (.slice s.ra x.arms.length s.rc)) (by kernel_rfl) (by kernel_rfl) (by go_keep) (fun hL inv hHeld=>?_);refine zl 0 hL rfl inv (fun inv=>?_)
      (try simp only[Act.put,zg,zh,zi])
      refine zl 1 hL rfl inv (fun inv=>?_)
      (try simp only[Act.put,zg,zh,zi])
      refine zl 2 hL rfl inv (fun inv=>?_)
      (try simp only[Act.put,zg,zh,zi])
      refine zl 3 hL rfl inv (fun inv=>?_)
      (try simp only[Act.put,zg,zh,zi])
      refine zl 4 hL rfl inv (fun inv=>?_)
      (try simp only[Act.put,zg,zh,zi])
      refine zl 5 hL rfl inv (fun inv=>?_)
      (try simp only[Act.put,zg,zh,zi])
      refine zl 6 hL rfl inv (fun inv=>?_)
      (try simp only[Act.put,zg,zh,zi])
      refine yb (i:=7) (by kernel_rfl) (by kernel_rfl) rfl inv (fun K hK=>?_)
      go_simp
      go_at_call 212
      refine(HSC.out _ HKd.out.at_).mono ?_;rintro e Wy ⟨sy,rfl,ha,hk⟩;have HAb:Hid (IsE Wy (Nb w.heap.size be) (exL b sy) b):=zb (ha.fresh_new (HX.out.below (zm _)).lt (HF.out.below (zm _)).lt);replace HA:=zb ((HA.out.below (zm _)).keep hk (fun g hg=>Nat.lt_trans HPB.out hg.1));replace HX:=zb ((HX.out.below (zm _)).keep hk HPB.out);replace HF:=zb ((HF.out.below (zm _)).keep hk HNE.out.2.2.1);replace HL:=zb ((HL.out.below (zm _)).keep hk HNE.out.2.2.2.2);replace HT:=zb ((HT.out.below (zm _)).keep hk HTP.out);replace HK:=zb (HKd.out.trans hk);clear HKd e0 e1 e2 e3 e4 e5 e6 e7 g0 g1 g2 g3 g4 g5 g6 g7 el k0 k1 k2 k3 kl l0 l1 l2 l3 l4 ll ha hk;obtain⟨e0,e1,e2,e3,e4,e5,e6,e7,ef⟩:=Box8.cells HF.out;have g0:=ef 0;have g1:=ef 1;have g2:=ef 2;have g3:=ef 3;have g4:=ef 4;have g5:=ef 5;have g6:=ef 6;have g7:=ef 7;have el:=HF.out.lt;clear ef;obtain⟨k0,k1,k2,k3,_⟩:=TokBox.cells HT.out;have kl:=HT.out.lt;obtain⟨l0,l1,l2,l3,l4,_⟩:=Box5.cells HL.out;have ll:=Box5.lt HL.out;unfold exOf exV;refine hK.out _ _ ⟨l0,k0,k1,k2,k3,e0,e1,e2,e3,e4,e5,e6,e7⟩ (fun hHeld inv=>?_);clear hK K
      (try simp only[Act.put,zg,zh,zi])
      refine yb (i:=8) (by kernel_rfl) (by kernel_rfl) rfl inv (fun K hK=>?_)
      go_simp
      generalize hw3:Wy.alloc _=w3;have hbw:Below Wy.heap.size Wy w3:=by subst hw3;exact zj _
      have HNX:Hid (∀ W2,Below w3.heap.size w3 W2->IsE W2 (Nb w.heap.size be) (exL (.mk ⟨19,t.2,[],opOf t.1.text,[],[]⟩ [x,b] []) ⟨none,0,some ⟨Wy.heap.size,0,none⟩,2,none,0⟩) (.mk ⟨19,t.2,[],opOf t.1.text,[],[]⟩ [x,b] [])/\Keep w p R2 W2/\Below Wy.heap.size Wy W2):=zb (by
       subst hw3;exact fun W2 hb=>zJ (N:=Nb w.heap.size be) (L:=[exL x s,exL b sy]) (args:=[x,b]) HK.out ⟨HA.out,HAb.out,trivial⟩ ⟨HX.out.lt,Nat.ne_of_gt el⟩ (by simp) ⟨19,t.2,[],opOf t.1.text,[],[]⟩ rfl hb)
      replace HF:=zb (HF.out.below hbw);replace HX:=zb (HX.out.below hbw);replace HL:=zb (HL.out.below hbw);replace HT:=zb (HT.out.below hbw);clear hw3 hbw e0 e1 e2 e3 e4 e5 e6 e7 g0 g1 g2 g3 g4 g5 g6 g7 el k0 k1 k2 k3 kl l0 l1 l2 l3 l4 ll hHeld HA HAb HK;obtain⟨e0,e1,e2,e3,e4,e5,e6,e7,ef⟩:=Box8.cells HF.out;have g0:=ef 0;have g1:=ef 1;have g2:=ef 2;have g3:=ef 3;have g4:=ef 4;have g5:=ef 5;have g6:=ef 6;have g7:=ef 7;have el:=HF.out.lt;clear ef;obtain⟨k0,k1,k2,k3,_⟩:=TokBox.cells HT.out;have kl:=HT.out.lt;obtain⟨l0,l1,l2,l3,l4,_⟩:=Box5.cells HL.out;have ll:=Box5.lt HL.out;refine hK.out _ _ ⟨l0,k0,k1,k2,k3,e0,e1,e2,e3,e4,e5,e6,e7⟩ (fun hHeld inv=>?_);clear hK K
      (try simp only[Act.put,zg,zh,zi])
      refine yb (i:=9) (by kernel_rfl) (by kernel_rfl) rfl inv (fun K hK=>?_)
      go_simp
      go_at_call 123
      refine(zz 19 t (some _) 2 2 _).mono ?_;rintro e Wz ⟨rfl,hb2⟩;have HNR:=zb (HNX.out Wz hb2);replace HF:=zb (HF.out.below hb2);replace HX:=zb (HX.out.below hb2);replace HL:=zb (HL.out.below hb2);replace HT:=zb (HT.out.below hb2);clear e0 e1 e2 e3 e4 e5 e6 e7 g0 g1 g2 g3 g4 g5 g6 g7 el k0 k1 k2 k3 kl l0 l1 l2 l3 l4 ll hHeld hb2 HNX;obtain⟨e0,e1,e2,e3,e4,e5,e6,e7,ef⟩:=Box8.cells HF.out;have g0:=ef 0;have g1:=ef 1;have g2:=ef 2;have g3:=ef 3;have g4:=ef 4;have g5:=ef 5;have g6:=ef 6;have g7:=ef 7;have el:=HF.out.lt;clear ef;obtain⟨k0,k1,k2,k3,_⟩:=TokBox.cells HT.out;have kl:=HT.out.lt;obtain⟨l0,l1,l2,l3,l4,_⟩:=Box5.cells HL.out;have ll:=Box5.lt HL.out;have HE9:=zb (ya (h:=⟨19,t.2,[],opOf t.1.text,[],[]⟩) (args:=[x,b]) HF.out HNR.out.1 HNR.out.2.1 HLT.out HNE.out.2.1 HNE.out.1 rfl);unfold set8 at HE9;simp only[List.length_cons,List.length_nil,Nat.zero_add] at HE9;unfold exV;refine hK.out _ _ ⟨l0,k0,k1,k2,k3,e0,e1,e2,e3,e4,e5,e6,e7⟩ (fun hHeld inv=>?_);clear hK K;refine yw (by kernel_rfl) rfl (by kernel_rfl) (fun K hK=>?_)
      go_simp
      refine hK.out _ _ ?_;clear hK K inv hHeld hL;have HE:=zb HE9.out.1;replace HX:Hid (ZeroBox _ w.heap.size):=zb ((HE9.out.2 _ HNE.out.1.symm).trans HX.out);replace HL:Hid (Box5 _ bl 236 (.int .i64 19) (.int .i64 1) (.string ⟨#[42]⟩) (.string ⟨#[47]⟩) (.string ⟨#[37]⟩)):=zb ((HE9.out.2 _ (Nat.ne_of_lt HNE.out.2.2.2.1)).trans HL.out);clear HE9 HNR HF HT e0 e1 e2 e3 e4 e5 e6 e7 g0 g1 g2 g3 g4 g5 g6 g7 el k0 k1 k2 k3 kl l0 l1 l2 l3 l4 ll;generalize World.setCell _ _ _=w5 at *;have HM3:=zb HE.out.keep.at_.len
      go_roundw
      case rel=>exact⟨_,_,_,_,_,_,_,_,_,_,_,_,_,_,_,_,_,_,_,_,_,_,_,_,_,_,_,_,_,_,_,_,_,_,_,_,_,_,_,_,_,_,_,_,_,_,_,⟨.mk ⟨19,t.2,[],opOf t.1.text,[],[]⟩ [x,b] [],⟨none,0,some ⟨Wy.heap.size,0,none⟩,2,none,0⟩,R2,zb HE.out.box,zb HE.out.tree,zb HE.out.keep,HX,HL,zb ⟨k,by omega,HR.out⟩⟩,rfl⟩
      case measure=>rw[HM3.out,HM.out];have:=HM2.out;simp;omega
   . replace HR:=zb (HR.out.trans (rZ hy));replace HF:=zb (HF.out.below hb2);have HAx:=zb ((HA.out.below hb2).wide (fun g hg=>hg.1));replace HX:=zb (HX.out.below hb2);replace HK:=zb (HK.out.below hb2);clear hb2 HAC hy HA HL;obtain⟨x0,x1,x2,x3,x4,x5,x6,x7,xf⟩:=(Box8.cells HX.out);have y0:=xf 0;have y1:=xf 1;have y2:=xf 2;have y3:=xf 3;have y4:=xf 4;have y5:=xf 5;have y6:=xf 6;have y7:=xf 7;have hxl:=HX.out.lt;clear xf;obtain⟨f0,f1,f2,f3,f4,f5,f6,f7,_⟩:=Box8.cells (HF.out);have fl:=(HF.out).lt;have HS:=zb (zH HX.out HB0.out HK.out HLT.out HAx.out rfl);unfold set8 at HS;unfold tokAgg
     go_wp2_with fail
     generalize World.setCell _ _ _=w9 at *;rw[HR.out];exact zu Tryz.results212 rfl rfl (HS.out _ (zj _))
