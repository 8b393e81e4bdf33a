/-
  The walk of atom.
-/
import Derived.Test.YtblonfjlcfjodaaGreatDoorGNode
import Derived.RegionDies
namespace Go.Proofs.YtblonfjlcfjodaaGreatDoor
set_option linter.unusedSimpArgs false
set_option linter.unusedVariables false
set_option maxRecDepth 100000
set_option maxHeartbeats 4000000
open Go.RowKit
def leafK (t:Tok):Int:=if t.1.kind=1 then 2 else if t.1.kind=2 then 7 else if t.1.kind=4 then 3 else if t.1.kind=5 then 4 else 5
theorem tE {t:Tok}:∃ h:Hd,leafE t=.mk h [] []/\h.labels=[]/\h.pos=t.2/\leafV t=.agg #[.int .i64 h.kind,.int .i64 (leafK t),.string ⟨h.name.toArray⟩,.int .i64 h.n,.string ⟨h.s.toArray⟩]:=by
 unfold leafE leafV leafK
 split
 . exact⟨_,rfl,rfl,rfl,rfl⟩
 . split
   . exact⟨_,rfl,rfl,rfl,rfl⟩
   . split
     . exact⟨_,rfl,rfl,rfl,rfl⟩
     . split
       . exact⟨_,rfl,rfl,rfl,rfl⟩
       . exact⟨_,rfl,rfl,rfl,rfl⟩
theorem bare_is (W:World) (N:Nat->Prop) (h:Hd) (hl:h.labels=[]):IsE W N (exL (.mk h [] []) ⟨none,0,none,0,none,0⟩) (.mk h [] []):=by
 obtain⟨k,q,x,n,s,ls⟩:=h;obtain rfl:ls=[]:=hl;exact⟨_,_,_,rfl,zx _ _ _ _,⟨[],zx _ _ _ _,trivial⟩,[],zx _ _ _ _,trivial⟩
theorem qF (k a n:Int) (s:ByteArray) (w:World):(Instr.field 69 (.agg #[.int .i64 k,.int .i64 a,.string s,.int .i64 n]) 1).run Tryz.prog w=.ok (.int .i64 a) w:=by kernel_rfl
theorem zdI (k a n:Int) (s:ByteArray) (w:World):(Instr.field 69 (.agg #[.int .i64 k,.int .i64 a,.string s,.int .i64 n]) 3).run Tryz.prog w=.ok (.int .i64 n) w:=by kernel_rfl
theorem zca {w w2 w9:World} {p b0:Nat} {R:List Tok} {h:Hd} {c0 c1 c2 c3 c4 c5 c6 c7:Value} (hl:h.labels=[]) (hk:Keep w p R w2) (hx:Box8 w2 b0 27 c0 c1 c2 c3 c4 c5 c6 c7) (hb0:w.heap.size<=b0) (hp:p<w.heap.size)
 (he:set8 w2 b0 (.int .i64 h.kind) (.int .i64 h.pos) (.string ⟨h.name.toArray⟩) (.int .i64 h.n) (.string ⟨h.s.toArray⟩) (.slice none 0 0) (.slice none 0 0) (.slice none 0 0)=w9) :
 ∀ w10,Below w9.heap.size w9 w10->ExBox w10 b0 (.mk h [] []) ⟨none,0,none,0,none,0⟩/\Told (.ok (.mk h [] []) R) w p (.returned (exOf (.mk h [] []) ⟨none,0,none,0,none,0⟩)) w10:=by
 obtain⟨k,q,x,n,s,ls⟩:=h;obtain rfl:ls=[]:=hl;exact zH (x:=.mk ⟨k,q,x,n,s,[]⟩ [] []) (s:=⟨none,0,none,0,none,0⟩) hx hb0 hk hp (bare_is _ _ _ rfl) he
theorem w_atom (f p:Nat) (hs:Says f .seq 69 #[ptrV p] p) (hb:∀ t,Says f (.braces t) 227 #[ptrV p,tokVal t] p):Says (f+1) .atom 214 #[ptrV p] p:=by
 have HHS:=zb hs;clear hs;have HHB:=zb hb;clear hb;intro T w hp hne;have HLT:=zb hp.lt;have HK:=zb (Keep.start hp);have hbx:=zj (w:=w) zeroObj;have HX:Hid (ZeroBox (w.alloc zeroObj) w.heap.size):=zb (ZeroBox.new w);replace HK:=zb (HK.out.below hbx);clear hbx;have HPB:Hid (p<w.heap.size):=zb (by have:=HLT.out;omega);have HB0:Hid (w.heap.size<=w.heap.size):=zb (by omega);have HR:Hid (run (f+1) .atom T=exec (run f) (step .atom) T):=zb rfl;have HN:=zb hne;obtain⟨t0,S0,hT0⟩:=hp.row.cons;generalize run (f+1) .atom T=res at *;subst hT0;simp only[step,need,exec] at HR;clear hp hne
 go_enter Tryz.func214, Tryz.ntmps214
 obtain⟨g,off,cap,q0,_,l1,l2,l3,j0,j1,j2,j3⟩:=HK.out.at_.view;have jb:(0:Int)<((S0.length:Int)+1):=by omega
 have jg:g<w.heap.size:=by have:=HLT.out;omega
 go_wp2_with fail
 refine(ro t0 _).mono ?_;rintro e V1 ⟨rfl,hb2⟩;replace HX:=zb (HX.out.below hb2);replace HK:=zb (HK.out.below hb2);clear hb2;clear q0 l1 l2 l3 j0 j1 j2 j3 jb jg;cases hy:isLeaf t0 with
 | true =>
  rw[hy,if_pos rfl] at HR;have hk0:=wD t0 hy;obtain⟨u0,S1,rfl⟩:=xx HK.out.at_.row hk0;have HRD:=zb (fun W h=>vB p t0 u0 S1 W h hk0);obtain⟨h,hE,hlab,hpos,hV⟩:=tE (t:=t0);rw[hE] at HR;rw[hV];have HH:=zb (And.intro hlab hpos);clear hE hlab hpos hV hy hk0;have hbx:=zj (w:=V1) (.cells #[.int .i64 h.kind,.int .i64 (leafK t0),.string ⟨h.name.toArray⟩,.int .i64 h.n,.string ⟨h.s.toArray⟩] 239 (0,0));have HL:Hid (Box5 (V1.alloc (.cells #[.int .i64 h.kind,.int .i64 (leafK t0),.string ⟨h.name.toArray⟩,.int .i64 h.n,.string ⟨h.s.toArray⟩] 239 (0,0))) V1.heap.size 239 (.int .i64 h.kind) (.int .i64 (leafK t0)) (.string ⟨h.name.toArray⟩) (.int .i64 h.n) (.string ⟨h.s.toArray⟩)):=zb (zA _ _ _ rfl);have HLP:Hid (p<V1.heap.size/\w.heap.size<V1.heap.size):=zb ⟨by have:=HPB.out;have:=HX.out.lt;omega,HX.out.lt⟩;replace HX:=zb (HX.out.below hbx);replace HK:=zb (HK.out.below hbx);clear hbx
  go_upto_region 3 with fail
  generalize V1.heap.size=bl at *;generalize V1.alloc (.cells _ _ _)=w3 at *;have HKd:=zb (HK.out.below (zm _));obtain⟨k0,k1,k2,k3,k4,_⟩:=Box5.cells HL.out;have kl:=Box5.lt HL.out;have n0:¬bl=w.heap.size:=by have:=HLP.out;omega
  have m0:¬w.heap.size=bl:=by have:=HLP.out;omega
  have htf:=qF t0.1.kind (t0.2:Nat) t0.1.n ⟨t0.1.text.toArray⟩
  go_region_held3 (fun W=>W.cell? ⟨bl,0,none⟩=some (.int .i64 h.kind)/\W.cell? ⟨bl,1,none⟩=some (.int .i64 (leafK t0))/\W.cell? ⟨bl,2,none⟩=some (.string ⟨h.name.toArray⟩)/\W.cell? ⟨bl,3,none⟩=some (.int .i64 h.n)/\W.cell? ⟨bl,4,none⟩=some (.string ⟨h.s.toArray⟩)) (go_keep) ((go_at_call 183; refine(HRD.out _ HKd.out.at_).mono ?_;rintro e Wy ⟨rfl,hp2,hg2⟩;have hk:=Keep.mk hp2 hg2;replace HX:=zb ((HX.out.below (zm _)).keep hk HPB.out);replace HL:=zb (Box5.keep (Box5.below HL.out (zm _)) hk HLP.out.1);replace HK:=zb (HKd.out.trans hk);clear HKd HRD hk hp2 hg2;obtain⟨k0,k1,k2,k3,k4,_⟩:=Box5.cells HL.out;have kl:=Box5.lt HL.out;obtain⟨x0,x1,x2,x3,x4,x5,x6,x7,xf⟩:=(Box8.cells HX.out);have y0:=xf 0;have y1:=xf 1;have y2:=xf 2;have y3:=xf 3;have y4:=xf 4;have y5:=xf 5;have y6:=xf 6;have y7:=xf 7;have hxl:=HX.out.lt;clear xf;unfold tokVal tokAgg))
  have HS:=zb (zca HH.out.1 HK.out HX.out HB0.out HLT.out rfl);rw[HH.out.2] at HS;unfold set8 at HS
  go_wp2_with fail
  generalize World.setCell _ _ _=w9 at *;rw[HR.out];exact zu Tryz.results214 rfl rfl (HS.out _ (Below.refl _ _))
 | false =>
  rw[hy,if_neg (by decide)] at HR;clear hy;obtain⟨va,vb,vx,vn,vs,hv⟩:=uB t0;rw[hv];clear hv;have hbp:=zj (w:=V1) (.cells #[.int .i64 va,.int .i64 vb,.string vx,.int .i64 vn,.string vs] 239 (0,0));replace HX:=zb (HX.out.below hbp);replace HK:=zb (HK.out.below hbp);clear hbp;have HAC:=zb (fun W b h hb=>zE p t0 S0 [sOpen,sCurl] _ _ rfl rfl (by decide) W b h hb)
  go_wp2_with fail
  refine(HAC.out _ _ HK.out.at_ (by simp)).mono ?_;rintro e W1 (⟨hy,rfl,hp2,hg2⟩ | ⟨hy,rfl,hb2⟩)
  . rw[hy,if_pos rfl] at HR;have hk2:=Keep.mk hp2 hg2;replace HX:=zb (HX.out.keep hk2 HPB.out);replace HK:=zb (HK.out.trans hk2);clear hp2 hg2 hk2 HAC ;have hbx:=zj (w:=W1) (tokObj t0);have HT:=zb (TkBox.new W1 t0);have HTP:Hid (p<W1.heap.size):=zb (by have:=HPB.out;have:=HX.out.lt;omega);have HTZ:Hid (w.heap.size<W1.heap.size):=zb HX.out.lt;replace HX:=zb (HX.out.below hbx);replace HK:=zb (HK.out.below hbx);clear hbx;by_cases hx:t0.1.text=sCurl
    . rw[if_pos hx] at HR;obtain⟨k0,k1,k2,k3,_⟩:=TokBox.cells (HT.out);have kl:=(HT.out).lt;have BM:(t0.1.text == [123])=true:=by rw[hx];rfl
      clear hx;simp only[exec] at HR;have HHBt:=zb (HHB.out t0);unfold tokVal tokAgg
      go_wp2_with fail
      cases hr:run f (.braces t0) S0 with
      | out =>
       rw[hr] at HR;exact absurd HR.out HN.out
      | bad R9 =>
       rw[hr] at HR;refine(HHBt.out S0 _ HK.out.at_ (by rw[hr];exact fun h=>by cases h)).mono ?_;rw[hr];rintro e w8 ⟨t8,S8,rfl,rfl,hg⟩;have HG:=zb (zo HK.out.grown hg);clear hg hr;unfold faultV
       go_wp2_with fail
       exact⟨rfl,by rw[HR.out];exact⟨t8,S8,rfl,rfl,HG.out⟩⟩
      | ok x R2 =>
       rw[hr] at HR;refine(HHBt.out S0 _ HK.out.at_ (by rw[hr];exact fun h=>by cases h)).mono ?_;rw[hr];rintro e W2 ⟨s2,rfl,ha,hk⟩;clear hr;have HAx:Hid (IsE W2 (fun g=>w.heap.size<g) (exL x s2) x):=zb (ha.wide fun g hg=>zd HX.out.lt hg);clear ha;replace HX:=zb (HX.out.keep hk HPB.out);replace HT:=zb (HT.out.keep hk HTP.out);replace HK:=zb (HK.out.trans hk);clear hk;obtain⟨x0,x1,x2,x3,x4,x5,x6,x7,xf⟩:=(Box8.cells HX.out);have y0:=xf 0;have y1:=xf 1;have y2:=xf 2;have y3:=xf 3;have y4:=xf 4;have y5:=xf 5;have y6:=xf 6;have y7:=xf 7;have hxl:=HX.out.lt;clear xf;have HS:=zb (zH HX.out HB0.out HK.out HLT.out HAx.out rfl);unfold set8 at HS;unfold exOf exV
       go_wp2_with fail
       generalize World.setCell _ _ _=w9 at *;rw[HR.out];exact zu Tryz.results214 rfl rfl (HS.out _ (Below.refl _ _))
    . rw[if_neg hx] at HR;obtain⟨k0,k1,k2,k3,_⟩:=TokBox.cells (HT.out);have kl:=(HT.out).lt;have BM:(t0.1.text == [123])=false:=beq_eq_false_iff_ne.2 hx;clear hx;obtain⟨t2,S2,rfl⟩:=HK.out.at_.row.cons;simp only[exec] at HR;have HAC:=zb (fun W b h hb=>yc p t2 S2 [sShut] _ _ rfl rfl (by decide) W b h hb);unfold tokVal tokAgg
      go_wp2_with fail
      refine(HAC.out _ _ HK.out.at_ (by simp)).mono ?_;rintro e W3 (⟨hy,rfl,hp2,hg2⟩ | ⟨hy,rfl,hb2⟩)
      . rw[hy,if_pos rfl] at HR;have hk2:=Keep.mk hp2 hg2;replace HX:=zb (HX.out.keep hk2 HPB.out);replace HT:=zb (HT.out.keep hk2 HTP.out);replace HK:=zb (HK.out.trans hk2);clear hy hp2 hg2 hk2 HAC;have hbx:=zj (w:=W3) (tokObj t2);have HU:=zb (TkBox.new W3 t2);have HUP:Hid (p<W3.heap.size):=zb (by have:=HPB.out;have:=HX.out.lt;omega);have HUZ:Hid (w.heap.size<W3.heap.size):=zb HX.out.lt;replace HX:=zb (HX.out.below hbx);replace HT:=zb (HT.out.below hbx);replace HK:=zb (HK.out.below hbx);clear hbx;unfold tokVal tokAgg
        go_upto_region 9 with fail
        clear k0 k1 k2 k3 kl;generalize (W3.alloc (tokObj t2))=w3 at *;obtain⟨k0,k1,k2,k3,_⟩:=TokBox.cells (HT.out);have kl:=(HT.out).lt
        go_wp2_with fail
        refine(zz 5 t0 none 0 0 _).mono ?_;rintro e Wz ⟨rfl,hb2⟩;replace HX:=zb (HX.out.below hb2);replace HT:=zb (HT.out.below hb2);replace HU:=zb (HU.out.below hb2);replace HK:=zb (HK.out.below hb2);clear hb2 k0 k1 k2 k3 kl;unfold exV;obtain⟨x0,x1,x2,x3,x4,x5,x6,x7,xf⟩:=(Box8.cells HX.out);have y0:=xf 0;have y1:=xf 1;have y2:=xf 2;have y3:=xf 3;have y4:=xf 4;have y5:=xf 5;have y6:=xf 6;have y7:=xf 7;have hxl:=HX.out.lt;clear xf;have HS:=zb (zca (h:=⟨5,t0.2,[],0,[],[]⟩) rfl HK.out HX.out HB0.out HLT.out rfl);unfold set8 at HS
        go_wp2_with fail
        generalize World.setCell _ _ _=w9 at *;rw[HR.out];exact zu Tryz.results214 rfl rfl (HS.out _ (Below.refl _ _))
      . rw[hy,if_neg (by decide)] at HR;replace HX:=zb (HX.out.below hb2);replace HT:=zb (HT.out.below hb2);replace HK:=zb (HK.out.below hb2);clear hb2 HAC;have hbp:=zj (w:=W3) zeroTok;replace HX:=zb (HX.out.below hbp);replace HT:=zb (HT.out.below hbp);replace HK:=zb (HK.out.below hbp);clear hbp;unfold tokAgg
        go_wp2_with fail
        cases hr:run f .seq (t2::S2) with
        | out =>
         rw[hr] at HR;exact absurd HR.out HN.out
        | bad R9 =>
         rw[hr] at HR;refine(HHS.out (t2::S2) _ HK.out.at_ (by rw[hr];exact fun h=>by cases h)).mono ?_;rw[hr];rintro e w8 ⟨t8,S8,rfl,rfl,hg⟩;have HG:=zb (zo HK.out.grown hg);clear hg hr;unfold faultV
         go_wp2_with fail
         exact⟨rfl,by rw[HR.out];exact⟨t8,S8,rfl,rfl,HG.out⟩⟩
        | ok x R4 =>
         rw[hr] at HR;refine(HHS.out (t2::S2) _ HK.out.at_ (by rw[hr];exact fun h=>by cases h)).mono ?_;rw[hr];rintro e W4 ⟨s4,rfl,ha,hk⟩;clear hr;have HAx:Hid (IsE W4 (fun g=>w.heap.size<g) (exL x s4) x):=zb (ha.wide fun g hg=>zd HX.out.lt hg);clear ha;replace HX:=zb (HX.out.keep hk HPB.out);replace HT:=zb (HT.out.keep hk HTP.out);replace HK:=zb (HK.out.trans hk);clear hk;have hbx:=zj (w:=W4) (exObj x s4);have HF:=zb (ExBox.new W4 x s4);have HFP:Hid (p<W4.heap.size):=zb (by have:=HPB.out;have:=HX.out.lt;omega);have HFZ:Hid (w.heap.size<W4.heap.size):=zb HX.out.lt;replace HX:=zb (HX.out.below hbx);replace HT:=zb (HT.out.below hbx);replace HAx:=zb (HAx.out.below hbx);replace HK:=zb (HK.out.below hbx);clear hbx;obtain⟨t5,S5,rfl⟩:=HK.out.at_.row.cons;simp only[exec] at HR;have HAC:=zb (fun W b h hb=>zE p t5 S5 [sShut] _ _ rfl rfl (by decide) W b h hb);unfold exOf exV
         go_wp2_with fail
         refine(HAC.out _ _ HK.out.at_ (by simp)).mono ?_;rintro e W6 (⟨hy,rfl,hp2,hg2⟩ | ⟨hy,rfl,hb2⟩)
         . rw[hy,if_pos rfl] at HR;have hk2:=Keep.mk hp2 hg2;replace HX:=zb (HX.out.keep hk2 HPB.out);replace HT:=zb (HT.out.keep hk2 HTP.out);replace HF:=zb (HF.out.keep hk2 HFP.out);replace HAx:=zb (HAx.out.keep hk2 (fun g hg=>by have:=HPB.out;omega));replace HK:=zb (HK.out.trans hk2);clear hp2 hg2 hk2 HAC hy;obtain⟨x0,x1,x2,x3,x4,x5,x6,x7,xf⟩:=(Box8.cells HX.out);have y0:=xf 0;have y1:=xf 1;have y2:=xf 2;have y3:=xf 3;have y4:=xf 4;have y5:=xf 5;have y6:=xf 6;have y7:=xf 7;have hxl:=HX.out.lt;clear xf;obtain⟨f0,f1,f2,f3,f4,f5,f6,f7,_⟩:=Box8.cells (HF.out);have fl:=(HF.out).lt;have HS:=zb (zH HX.out HB0.out HK.out HLT.out HAx.out rfl);unfold set8 at HS;unfold tokVal tokAgg
           go_wp2_with fail
           generalize World.setCell _ _ _=w9 at *;rw[HR.out];exact zu Tryz.results214 rfl rfl (HS.out _ (Below.refl _ _))
         . rw[hy,if_neg (by decide)] at HR;have HG:=zb (zr HK.out.grown hb2);clear hb2 HAC;unfold faultV
           go_wp2_with fail
           exact⟨rfl,by rw[HR.out];exact⟨t5,S5,rfl,rfl,HG.out⟩⟩
  . rw[hy,if_neg (by decide)] at HR;have HG:=zb (zr HK.out.grown hb2);clear hb2 HAC;unfold faultV
    go_wp2_with fail
    exact⟨rfl,by rw[HR.out];exact⟨t0,S0,rfl,rfl,HG.out⟩⟩
