/-
  The law ShowReads: the walk.
-/
import Derived.Test.YtigbapkdpaahjaaGreatDoorJAwk
import Derived.Test.YtigbapkdpaahjaaGreatDoorGSmE
import Derived.Test.YtigbapkdpaahjaaGreatDoorJPr
namespace Go.Proofs.YtigbapkdpaahjaaGreatDoor
set_option linter.unusedSimpArgs false
set_option linter.unusedVariables false
set_option maxRecDepth 100000
set_option maxHeartbeats 4000000
open Go.RowKit
attribute [local go_sem] Oper.semAt_some
theorem zdf (s:ByteArray) (w:World) (hy:Ready w) (ht:Tab w) (_hs:s.size≤140737488355328):Calls Tryz.prog 7 #[.string s] w (YesMade true w):=by
 have HY:=zb hy
 have HT:=zb ht
 clear hy ht
 go_enter Tryz.func7, Tryz.ntmps7
 go_wp2_with fail
 refine(vc _ HY.out HT.out).mono ?_
 rintro e w1 ⟨rfl,hb1⟩
 replace HY:=zb (HY.out.below hb1)
 replace HT:Hid (Tab w1):=zb (HT.out.below hb1)
 have HB1:=zb hb1
 clear hb1
 cases hP:ParseV s.data.toList with
 | bad er q =>
  have e1:(er != 0)=true:=by rw[bne_iff_ne];exact zbV hP
  have HPA:=zb (zap hP w1 HY.out)
  clear hP
  go_wp2_with fail
  refine HPA.out.mono ?_
  rintro e w2 ⟨hb2,rfl⟩
  have HB2:=zb (HB1.out.trans (hb2.mono HB1.out.size))
  clear hb2 HB1 HPA
  unfold errV exV
  go_upto_region 4 with fail
  all_goals
   obtain⟨W2,hW2⟩:∃ W,w2.alloc zeroObj=W:=⟨_,rfl⟩
   have hbx:=zj (w:=w2) zeroObj
   rw[hW2] at hbx
   have HB3:=zb (HB2.out.trans (hbx.mono HB2.out.size))
   unfold zeroObj at hW2
   try rw[hW2]
   clear hW2 hbx HB2
   go_wp2_with fail
   go_ret
   exact⟨rfl,HB3.out⟩
 | ok x =>
  have HPA:=zb (zan hP w1 HY.out)
  have HFX:=zb (vV hP)
  have HSH:=zb (zcf hP)
  clear hP
  go_wp2_with fail
  refine HPA.out.mono ?_
  rintro e w2 ⟨hb2,s2,rfl,hi⟩
  replace HY:=zb (HY.out.below hb2)
  replace HT:Hid (Tab w2):=zb (HT.out.below hb2)
  have HB2:=zb (HB1.out.trans (hb2.mono HB1.out.size))
  have HI:=zb (hi.wide fun _ _=>trivial)
  have HBA:=zb (zcU x (xP hi))
  clear hb2 hi HB1 HPA
  unfold exOf exV
  go_upto_region 6 with fail
  all_goals
   obtain⟨W2,hW2⟩:∃ W,w2.alloc (exObj x s2)=W:=⟨_,rfl⟩
   have hbx:=zj (w:=w2) (exObj x s2)
   have HX:Hid (InBox W2 w2.heap.size x s2):=zb (by rw[← hW2];exact InBox.new HI.out)
   rw[hW2] at hbx
   replace HY:=zb (HY.out.below hbx)
   replace HT:Hid (Tab W2):=zb (HT.out.below hbx)
   have HB3:=zb (HB2.out.trans (hbx.mono HB2.out.size))
   unfold exObj at hW2
   try rw[hW2]
   clear hW2 hbx HB2 HI
   generalize w2.heap.size=bx at *
   have HC:=zb (qK x s2 W2 HX.out.tree HFX.out.1 HFX.out.2 HT.out)
   unfold exOf exV at HC
   obtain⟨f0,f1,f2,f3,f4,f5,f6,f7,-⟩:=Box8.cells HX.out.box
   have fl:=HX.out.box.lt
   go_wp2_with fail
   refine HC.out.mono ?_
   rintro e w3 ⟨hb3,rfl⟩
   replace HX:=zb (HX.out.below hb3)
   replace HY:=zb (HY.out.below hb3)
   have HB4:=zb (HB3.out.trans (hb3.mono HB3.out.size))
   clear hb3 HB3 HC f0 f1 f2 f3 f4 f5 f6 f7 fl HT HFX
   rcases HBA.out with⟨t,y,hs,hp,_,_,ha2⟩ | ⟨c,hc,hs⟩
   · rw[hs]
     have HPA:=zb (zco hp w3 HY.out)
     have HA2:=zb ha2
     clear hs hp ha2 HBA HY HSH
     go_wp2_with fail
     refine HPA.out.mono ?_
     rintro e w4 ⟨hb4,s4,rfl,hi⟩
     replace HX:=zb (HX.out.below hb4)
     have HB5:=zb (HB4.out.trans (hb4.mono HB4.out.size))
     have HI:=zb (hi.wide fun _ _=>trivial)
     clear hb4 hi HB4 HPA
     unfold exOf exV
     go_upto_region 10 with fail
     all_goals
      obtain⟨W4,hW4⟩:∃ W,w4.alloc (exObj y s4)=W:=⟨_,rfl⟩
      have hbx:=zj (w:=w4) (exObj y s4)
      have HZ:Hid (InBox W4 w4.heap.size y s4):=zb (by rw[← hW4];exact InBox.new HI.out)
      rw[hW4] at hbx
      replace HX:=zb (HX.out.below hbx)
      have HB6:=zb (HB5.out.trans (hbx.mono HB5.out.size))
      unfold exObj at hW4
      try rw[hW4]
      clear hW4 hbx HB5 HI
      generalize w4.heap.size=bz at *
      have HC:=uC false x y s2 s4 W4 HX.out.tree HZ.out.tree
      rw[HA2.out] at HC
      unfold exOf exV at HC
      replace HC:=zb HC
      obtain⟨f0,f1,f2,f3,f4,f5,f6,f7,-⟩:=Box8.cells HX.out.box
      have fl:=HX.out.box.lt
      obtain⟨g0,g1,g2,g3,g4,g5,g6,g7,-⟩:=Box8.cells HZ.out.box
      have gl:=HZ.out.box.lt
      go_wp2_with fail
      refine HC.out.mono ?_
      rintro e w5 ⟨rfl,hb5⟩
      have HB7:=zb (HB6.out.trans (hb5.mono HB6.out.size))
      clear hb5
      go_wp2_with fail
      go_ret
      exact⟨rfl,HB7.out⟩
   · have hc4:c=4:=by
      rcases HSH.out with⟨t,h4⟩ | h4
      · rw[hs] at h4
        exact absurd (congrArg Prod.snd h4) hc
      · rw[hs] at h4
        exact congrArg Prod.snd h4
     subst hc4
     rw[hs]
     clear hs hc HBA HSH
     go_wp2_with fail
     go_ret
     exact⟨rfl,HB4.out⟩
