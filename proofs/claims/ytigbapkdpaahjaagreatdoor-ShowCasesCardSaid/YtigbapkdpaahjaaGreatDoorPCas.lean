/-
  The walk of cases.
-/
import Derived.Test.YtigbapkdpaahjaaGreatDoorGNode
import Derived.RegionDies
namespace Go.Proofs.YtigbapkdpaahjaaGreatDoor
set_option linter.unusedSimpArgs false
set_option linter.unusedVariables false
set_option maxRecDepth 100000
set_option maxHeartbeats 4000000
open Go.RowKit
theorem sL {k:Int} (hk:k≠19) (t:Tok) (sa:Option Addr) (sn sc:Nat) (w:World):Calls Tryz.prog 87 #[.int .i64 k,tokVal t,.slice sa sn sc] w (ValMade (exV k (t.2:Nat) [] 0 [] nilS (.slice sa sn sc) nilS) w):=by
 have h:=zz k t sa sn sc w
 rwa [if_neg hk] at h
theorem NodeIn.arms {w W:World} {p b0 be:Nat} {R:List Tok} {k:Int} {q:Nat} {args:List Nd} {g ga:Option Addr} {c ca:Nat} {l:List (Nd×Nd)} (hn:NodeIn w p b0 be R ⟨k,q,[],0,[],[]⟩ args g c W) (ha:ArRow W (Nb b0 be) (.slice ga l.length ca) l) :
 Box8 (W.setCell ⟨be,7,none⟩ (.slice ga l.length ca)) be 27 (.int .i64 k) (.int .i64 (q:Nat)) (.string ⟨#[]⟩) (.int .i64 0) (.string ⟨#[]⟩) (.slice none 0 0) (.slice g args.length c) (.slice ga l.length ca) ∧
 IsE (W.setCell ⟨be,7,none⟩ (.slice ga l.length ca)) (fun g=>b0<g) (exL (.mk ⟨k,q,[],0,[],[]⟩ args l) ⟨none,0,g,c,ga,ca⟩) (.mk ⟨k,q,[],0,[],[]⟩ args l)∧Keep w p R (W.setCell ⟨be,7,none⟩ (.slice ga l.length ca)):=by
 have hm:Move W (Nb b0 be) (W.setCell ⟨be,7,none⟩ (.slice ga l.length ca)) (fun g=>b0<g):=fun j hj _=>⟨hj.1,Below.heap_setCell _ _ _ _ hj.2⟩
 refine⟨zn hn.box 7 _,?_,hn.keep.set hn.new hn.lt _ _⟩
 obtain⟨vl,va,vr,h1,h2,⟨L,h3,h4⟩,_⟩:=hn.tree
 have h1:[Value.int .i64 k,.int .i64 (q:Nat),.string ⟨#[]⟩,.int .i64 0,.string ⟨#[]⟩,.slice none 0 0,.slice g args.length c,.slice none 0 0]=_:=h1
 simp only[List.cons.injEq,true_and,and_true] at h1
 obtain⟨rfl,rfl,rfl⟩:=h1
 obtain⟨M,h5,h6⟩:=ha.ex
 exact⟨_,_,_,rfl,h2.move hm,⟨L,h3.move hm,IsEs.move hm h4⟩,M,h5.move hm,IsAs.move hm h6⟩
theorem ret_arms {w w2 w9:World} {p b0:Nat} {R:List Tok} {k:Int} {q:Nat} {args:List Nd} {l:List (Nd×Nd)} {g ga:Option Addr} {c ca:Nat} {c0 c1 c2 c3 c4 c5 c6 c7:Value} (hx:Box8 w2 b0 27 c0 c1 c2 c3 c4 c5 c6 c7) (hb0:w.heap.size≤b0) (hk:Keep w p R w2) (hp:p<w.heap.size)
 (hi:IsE w2 (fun g=>b0<g) (exL (.mk ⟨k,q,[],0,[],[]⟩ args l) ⟨none,0,g,c,ga,ca⟩) (.mk ⟨k,q,[],0,[],[]⟩ args l))
 (he:set8 w2 b0 (.int .i64 k) (.int .i64 (q:Nat)) (.string ⟨#[]⟩) (.int .i64 0) (.string ⟨#[]⟩) (.slice none 0 0) (.slice g args.length c) (.slice ga l.length ca)=w9) :
 ∀ w10,Below w9.heap.size w9 w10→ExBox w10 b0 (.mk ⟨k,q,[],0,[],[]⟩ args l) ⟨none,0,g,c,ga,ca⟩∧Told (.ok (.mk ⟨k,q,[],0,[],[]⟩ args l) R) w p (.returned (exOf (.mk ⟨k,q,[],0,[],[]⟩ args l) ⟨none,0,g,c,ga,ca⟩)) w10 :=
 zH (x:=.mk ⟨k,q,[],0,[],[]⟩ args l) (s:=⟨none,0,g,c,ga,ca⟩) hx hb0 hk hp hi he
theorem w_cases (f p:Nat) (k:Int) (hk9:k≠19) (t:Tok) (hs:Says f .seq 47 #[ptrV p] p) (ha:SaysA f (.arms []) 164 #[ptrV p] p):Says (f+1) (.cases k t) 133 #[ptrV p,.int .i64 k,tokVal t] p:=by
 have HHS:=zb hs
 clear hs
 have HHA:=zb ha
 clear ha
 have HHK9:=zb hk9
 clear hk9
 intro T w hp hne
 have HLT:=zb hp.lt
 have HK:=zb (Keep.start hp)
 have hbx:=zj (w:=w) (tokObj t)
 have HT:=zb (TkBox.new w t)
 have HTP:Hid (p<w.heap.size):=HLT
 replace HK:=zb (HK.out.below hbx)
 clear hbx
 have hbx:=zj (w:=(w.alloc (tokObj t))) zeroObj
 replace HT:=zb (HT.out.below hbx)
 have HX:Hid (ZeroBox ((w.alloc (tokObj t)).alloc zeroObj) (w.heap.size+1)):=zb (by have h9:=ZeroBox.new (w.alloc (tokObj t));rwa [World.size_alloc] at h9)
 replace HK:=zb (HK.out.below hbx)
 clear hbx
 have HPB:Hid (p<(w.heap.size+1)):=zb (by have:=HLT.out;omega)
 have HB0:Hid (w.heap.size≤(w.heap.size+1)):=zb (by omega)
 have HR:Hid (run (f+1) (.cases k t) T=exec (run f) (step (.cases k t)) T):=zb rfl
 have HN:=zb hne
 obtain⟨t0,S0,hT0⟩:=hp.row.cons
 generalize run (f+1) (.cases k t) T=res at *
 subst hT0
 simp only[step,need,exec] at HR
 clear hp hne
 unfold tokVal tokAgg
 go_enter Tryz.func133, Tryz.ntmps133
 go_upto_region 1 with fail
 generalize ((w.alloc (tokObj t)).alloc zeroObj)=w3 at *
 have HKd:=zb (HK.out.below (zm _))
 have hz0:Below w3.heap.size w3 (w3.alloc zeroObj).drew:=(zj zeroObj).trans ((zm _).mono (by simp))
 have HZ0:=zb hz0
 have HKe:=zb (HK.out.below hz0)
 have HEe:=zb ((ZeroBox.new w3).below (zm _))
 clear hz0
 obtain⟨k0,k1,k2,k3,_⟩:=TokBox.cells (HT.out);have kl:=(HT.out).lt
 have n0:¬w.heap.size=(w.heap.size+1):=by skip;omega
 have m0:¬(w.heap.size+1)=w.heap.size:=by skip;omega
 have p0:¬w.heap.size=w3.heap.size:=by omega
 have q0:¬w3.heap.size=w.heap.size:=by omega
 cases hr:run f .seq (t0::S0) with
 | out =>
  rw[hr] at HR
  exact absurd HR.out HN.out
 | bad R9 =>
  rw[hr] at HR
  have HSC:Hid (∀ W,PAt W p (t0::S0)→Calls Tryz.prog 47 #[ptrV p] W (Told (.bad R9) W p)):=zb (fun W h=>by
   have:=HHS.out (t0::S0) W h (by rw[hr];exact fun h=>by cases h)
   rwa [hr] at this)
  clear hr
  go_region_dies
  all_goals first | (refine(HSC.out _ HKd.out.at_).mono ?_;rintro e w8 ⟨t8,S8,rfl,rfl,hg⟩;have HG:=zb (zo HKd.out.grown hg);exact⟨rfl,by rw[HR.out];exact⟨t8,S8,rfl,rfl,HG.out⟩⟩) | (refine(HSC.out _ HKe.out.at_).mono ?_;rintro e w8 ⟨t8,S8,rfl,rfl,hg⟩;have HG:=zb (zo HKe.out.grown hg);exact⟨rfl,by rw[HR.out];exact⟨t8,S8,rfl,rfl,HG.out⟩⟩)
 | ok a Ry =>
  rw[hr] at HR
  have HSC:Hid (∀ W,PAt W p (t0::S0)→Calls Tryz.prog 47 #[ptrV p] W (Told (.ok a Ry) W p)):=zb (fun W h=>by
   have:=HHS.out (t0::S0) W h (by rw[hr];exact fun h=>by cases h)
   rwa [hr] at this)
  clear hr
  have HEN0:Hid (w.heap.size≤w3.heap.size∧w3.heap.size≠(w.heap.size+1)):=zb ⟨HK.out.size,by have:=HX.out.lt;omega⟩
  go_region_held3 (fun W=>W.cell? ⟨w.heap.size,0,none⟩=some (.int .i64 t.1.kind)∧W.cell? ⟨w.heap.size,1,none⟩=some (.int .i64 (t.2:Nat))∧W.cell? ⟨w.heap.size,2,none⟩=some (.string ⟨t.1.text.toArray⟩)∧W.cell? ⟨w.heap.size,3,none⟩=some (.int .i64 t.1.n)) (go_keep) (first | (go_at_call 47; refine(HSC.out _ HKd.out.at_).mono ?_;rintro e Wy ⟨sy,rfl,ha,hk⟩;have HAa:Hid (IsE Wy (fun g=>(w.heap.size+1)<g) (exL a sy) a):=zb (ha.wide fun g hg=>zd (HX.out.below (zm _)).lt hg);replace HX:=zb ((HX.out.below (zm _)).keep hk HPB.out);replace HT:=zb ((HT.out.below (zm _)).keep hk HTP.out);replace HK:=zb (HKd.out.trans hk);clear HKd HKe;obtain⟨k0,k1,k2,k3,_⟩:=TokBox.cells (HT.out);have kl:=(HT.out).lt;clear ha hk;unfold exOf exV) | (go_at_call 47; refine(HSC.out _ HKe.out.at_).mono ?_;rintro e Wy ⟨sy,rfl,ha,hk⟩;have HAa:=zb (ha.fresh_new (b0:=(w.heap.size+1)) (be:=w3.heap.size) (HX.out.below HZ0.out).lt HEe.out.lt);have HEZ:=zb (HEe.out.keep hk (Nat.lt_trans HPB.out HX.out.lt));replace HX:=zb ((HX.out.below HZ0.out).keep hk HPB.out);replace HT:=zb ((HT.out.below HZ0.out).keep hk HTP.out);replace HK:=zb (HKe.out.trans hk);clear HKd HKe;obtain⟨k0,k1,k2,k3,_⟩:=TokBox.cells (HT.out);have kl:=(HT.out).lt;clear ha hk;unfold exOf exV) | (go_at_call 87; refine(sL HHK9.out t (some _) 1 1 _).mono ?_;rintro e Wz ⟨rfl,hb2⟩;have HNR:=zb (zG (L:=[exL a sy]) (args:=[a]) HK.out ⟨HAa.out,trivial⟩ HX.out.lt (by simp) ⟨k,t.2,[],0,[],[]⟩ rfl hb2);have HTR:=zb HNR.out.1;replace HX:=zb (HX.out.below HNR.out.2.2);replace HK:=zb HNR.out.2.1;have p0:¬w.heap.size=Wz.heap.size:=(by have:=HT.out.lt;have:=HNR.out.2.2.size;omega);have q0:¬Wz.heap.size=w.heap.size:=(by omega);replace HT:=zb (HT.out.below HNR.out.2.2);obtain⟨k0,k1,k2,k3,_⟩:=TokBox.cells (HT.out);have kl:=(HT.out).lt;clear hb2 HNR;unfold exV) | (go_at_call 87; refine(sL HHK9.out t (some _) 1 1 _).mono ?_;rintro e Wz ⟨rfl,hb2⟩;have HNR:=zb (zJ (N:=Nb ((w.heap.size+1)) w3.heap.size) (L:=[exL a sy]) (args:=[a]) HK.out ⟨HAa.out,trivial⟩ ⟨HX.out.lt,Nat.ne_of_gt HEZ.out.lt⟩ (by simp) ⟨k,t.2,[],0,[],[]⟩ rfl hb2);have HTR:=zb HNR.out.1;replace HEZ:=zb (HEZ.out.below HNR.out.2.2);have HEN:Hid (w.heap.size≤w3.heap.size∧w3.heap.size≠(w.heap.size+1)):=HEN0;replace HX:=zb (HX.out.below HNR.out.2.2);replace HK:=zb HNR.out.2.1;obtain⟨x0,x1,x2,x3,x4,x5,x6,x7,xf⟩:=(Box8.cells HEZ.out);have y0:=xf 0;have y1:=xf 1;have y2:=xf 2;have y3:=xf 3;have y4:=xf 4;have y5:=xf 5;have y6:=xf 6;have y7:=xf 7;have hxl:=HEZ.out.lt;clear xf;replace HT:=zb (HT.out.below HNR.out.2.2);obtain⟨k0,k1,k2,k3,_⟩:=TokBox.cells (HT.out);have kl:=(HT.out).lt;clear hb2 HNR;unfold exV) | (go_at_call 87; refine(sL HHK9.out t (some _) 1 1 _).mono ?_;rintro e Wz ⟨rfl,hb2⟩;have HNR:=zb (zJ (N:=Nb ((w.heap.size+1)) Wy.heap.size) (L:=[exL a sy]) (args:=[a]) (HK.out.below (zj zeroObj)) ⟨HAa.out.fresh zeroObj,trivial⟩ ⟨(HX.out.below (zj zeroObj)).lt,by simp⟩ (by simp) ⟨k,t.2,[],0,[],[]⟩ rfl hb2);have HTR:=zb HNR.out.1;have HEZ:=zb ((ZeroBox.new Wy).below HNR.out.2.2);replace HNR:Hid (True∧Keep w p Ry Wz∧Below Wy.heap.size Wy Wz):=zb ⟨trivial,HNR.out.2.1,(zj zeroObj).trans (HNR.out.2.2.mono (by simp))⟩;simp only[World.size_alloc] at HTR;have HEN:Hid (w.heap.size≤Wy.heap.size∧Wy.heap.size≠(w.heap.size+1)):=zb ⟨HK.out.size,by have:=HX.out.lt;omega⟩;replace HX:=zb (HX.out.below HNR.out.2.2);replace HK:=zb HNR.out.2.1;obtain⟨x0,x1,x2,x3,x4,x5,x6,x7,xf⟩:=(Box8.cells HEZ.out);have y0:=xf 0;have y1:=xf 1;have y2:=xf 2;have y3:=xf 3;have y4:=xf 4;have y5:=xf 5;have y6:=xf 6;have y7:=xf 7;have hxl:=HEZ.out.lt;clear xf;have p0:¬w.heap.size=Wy.heap.size:=(by have:=HT.out.lt;have:=HNR.out.2.2.size;omega);have q0:¬Wy.heap.size=w.heap.size:=(by omega);replace HT:=zb (HT.out.below HNR.out.2.2);obtain⟨k0,k1,k2,k3,_⟩:=TokBox.cells (HT.out);have kl:=(HT.out).lt;clear hb2 HNR;unfold exV) | (go_at_call 87; refine(sL HHK9.out t (some _) 1 1 _).mono ?_;rintro e Wz ⟨rfl,hb2⟩;have HN0:=zG (L:=[exL a sy]) (args:=[a]) HK.out ⟨HAa.out,trivial⟩ HX.out.lt (by simp) ⟨k,t.2,[],0,[],[]⟩ rfl (Below.refl _ (Wy.alloc (.cells (List.flatten [exL a sy]).toArray 27 (0,0))));have HTR:=zb ((HN0.1.fresh zeroObj).below hb2);have HEZ:=zb ((ZeroBox.new (Wy.alloc (.cells (List.flatten [exL a sy]).toArray 27 (0,0)))).below hb2);have HNR:Hid (True∧Keep w p Ry Wz∧Below Wy.heap.size Wy Wz):=zb ⟨trivial,(HN0.2.1.below (zj zeroObj)).below hb2,(HN0.2.2.trans ((zj zeroObj).mono HN0.2.2.size)).trans (hb2.mono (by simp;omega))⟩;clear HN0;simp only[World.size_alloc] at HTR HEZ;have HEN:Hid (w.heap.size≤Wy.heap.size+1∧Wy.heap.size+1≠(w.heap.size+1)):=zb ⟨by have:=HK.out.size;omega,by have:=HX.out.lt;omega⟩;replace HX:=zb (HX.out.below HNR.out.2.2);replace HK:=zb HNR.out.2.1;obtain⟨x0,x1,x2,x3,x4,x5,x6,x7,xf⟩:=(Box8.cells HEZ.out);have y0:=xf 0;have y1:=xf 1;have y2:=xf 2;have y3:=xf 3;have y4:=xf 4;have y5:=xf 5;have y6:=xf 6;have y7:=xf 7;have hxl:=HEZ.out.lt;clear xf;have p0:¬w.heap.size=(Wy.heap.size+1):=(by have:=HT.out.lt;have:=HNR.out.2.2.size;omega);have q0:¬(Wy.heap.size+1)=w.heap.size:=(by omega);replace HT:=zb (HT.out.below HNR.out.2.2);obtain⟨k0,k1,k2,k3,_⟩:=TokBox.cells (HT.out);have kl:=(HT.out).lt;clear hb2 HNR;unfold exV))
  all_goals
   first
    | (have HE:=zb (yK (h:=⟨k,t.2,[],0,[],[]⟩) (args:=[a]) HTR.out HK.out HLT.out HX.out.lt _ rfl);have hb5:=zj (w:=Wz) (.cells #[.int .i64 k,.int .i64 (t.2:Nat),.string ⟨#[]⟩,.int .i64 (0),.string ⟨#[]⟩,.slice none 0 0,.slice (some ⟨Wy.heap.size,0,none⟩) 1 1,.slice none 0 0] 27 (0,0));replace HX:=zb (HX.out.below hb5);replace HT:=zb (HT.out.below hb5);clear hb5 HTR HK HZ0 HEe HEN0;generalize World.alloc Wz _=w5 at *)
    | (have HE9:=zb (ya (h:=⟨k,t.2,[],0,[],[]⟩) (args:=[a]) HEZ.out HTR.out HK.out HLT.out HEN.out.1 HEN.out.2 rfl);unfold set8 at HE9;have HE:=zb HE9.out.1;replace HX:Hid (ZeroBox _ ((w.heap.size+1))):=zb ((HE9.out.2 _ HEN.out.2.symm).trans HX.out);replace HT:Hid (TkBox _ (w.heap.size) t):=zb ((HE9.out.2 _ p0).trans HT.out);clear HE9 HTR HK HEZ HZ0 HEe HEN0 HEN;clear x0 x1 x2 x3 x4 x5 x6 x7 y0 y1 y2 y3 y4 y5 y6 y7 hxl;generalize World.setCell _ _ _=w5 at *)
   obtain⟨t1,S1,rfl⟩:=HE.out.keep.at_.row.cons
   simp only[exec] at HR
   have HAC:=zb (fun W b h hb=>zE p t1 S1 [sWith] _ _ rfl rfl (by decide) W b h hb)
   go_wp2_with fail
   refine(HAC.out _ _ HE.out.keep.at_ (by simp)).mono ?_
   rintro e W1 (⟨hy,rfl,hp2,hg2⟩ | ⟨hy,rfl,hb2⟩)
   · rw[hy,if_pos rfl] at HR
     have hk2:=Keep.mk hp2 hg2
     replace HX:=zb (HX.out.keep hk2 HPB.out)
     replace HE:=zb (HE.out.more HPB.out hk2)
     clear hp2 hg2 hk2 HAC hy
     go_wp2_with fail
     cases hr:run f (.arms []) S1 with
     | out =>
      rw[hr] at HR
      exact absurd HR.out HN.out
     | bad R9 =>
      rw[hr] at HR
      refine(HHA.out S1 _ HE.out.keep.at_ (by rw[hr];exact fun h=>by cases h)).mono ?_
      rw[hr]
      rintro e w8 ⟨t8,S8,rfl,rfl,hg⟩
      have HG:=zb (zo HE.out.keep.grown hg)
      clear hg hr
      unfold faultV
      go_wp2_with fail
      exact⟨rfl,by rw[HR.out];exact⟨t8,S8,rfl,rfl,HG.out⟩⟩
     | ok r R2 =>
      rw[hr] at HR
      refine(HHA.out S1 _ HE.out.keep.at_ (by rw[hr];exact fun h=>by cases h)).mono ?_
      rw[hr]
      rintro e W2 ⟨ga,ca,rfl,har,hk⟩
      have HAR:Hid (ArRow W2 (Nb (w.heap.size+1) _) (.slice ga r.arms.length ca) r.arms):=zb (by
       obtain⟨M,h1,h2⟩:=har.ex
       have hm:Move W2 (fun g=>W1.heap.size≤g) W2 (Nb (w.heap.size+1) _):=fun g hg _=>⟨⟨zd HX.out.lt hg,Nat.ne_of_gt (zd HE.out.box.lt hg)⟩,rfl⟩
       exact⟨M,h1.move hm,IsAs.move hm h2⟩)
      replace HX:=zb (HX.out.keep hk HPB.out)
      replace HE:=zb (HE.out.more HPB.out hk)
      clear hr har hk
      have HE3:=zb (HE.out.arms HAR.out)
      obtain⟨e0,e1,e2,e3,e4,e5,e6,e7,ef⟩:=Box8.cells HE.out.box
      have g7:=ef 7
      have el:=HE.out.box.lt
      clear ef
      go_upto_region 4 with fail
      replace HX:=zb (HX.out.set HE.out.ne 7 (.slice ga r.arms.length ca))
      clear HE HAR e0 e1 e2 e3 e4 e5 e6 e7 g7 el
      generalize World.setCell _ _ _=w6 at *
      obtain⟨e0,e1,e2,e3,e4,e5,e6,e7,_⟩:=Box8.cells HE3.out.1
      have el:=Box8.lt HE3.out.1
      obtain⟨x0,x1,x2,x3,x4,x5,x6,x7,xf⟩:=(Box8.cells HX.out)
      have y0:=xf 0
      have y1:=xf 1
      have y2:=xf 2
      have y3:=xf 3
      have y4:=xf 4
      have y5:=xf 5
      have y6:=xf 6
      have y7:=xf 7
      have hxl:=HX.out.lt
      clear xf
      have HS:=zb (ret_arms HX.out HB0.out HE3.out.2.2 HLT.out HE3.out.2.1 rfl)
      unfold set8 at HS
      simp only[List.length_cons,List.length_nil,Nat.zero_add] at HS
      go_wp2_with fail
      generalize World.setCell _ _ _=w9 at *
      rw[HR.out]
      exact zu Tryz.results133 rfl rfl (HS.out _ (Below.refl _ _))
   · rw[hy,if_neg (by decide)] at HR
     have HG:=zb (zr HE.out.keep.grown hb2)
     clear hb2 HAC
     unfold faultV
     go_wp2_with fail
     exact⟨rfl,by rw[HR.out];exact⟨t1,S1,rfl,rfl,HG.out⟩⟩
