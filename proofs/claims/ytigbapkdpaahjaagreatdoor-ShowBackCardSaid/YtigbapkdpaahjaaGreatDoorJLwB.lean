/-
  The law ShowBack: the walk.
-/
import Derived.Test.YtigbapkdpaahjaaGreatDoorJAwk
import Derived.Test.YtigbapkdpaahjaaGreatDoorGSmE
namespace Go.Proofs.YtigbapkdpaahjaaGreatDoor
set_option linter.unusedSimpArgs false
set_option linter.unusedVariables false
set_option maxRecDepth 100000
set_option maxHeartbeats 4000000
open Go.RowKit
attribute [local go_sem] Oper.semAt_some
theorem law_Back7 (x:Nd) (sx:Sl) (w:World) (hy:Ready w) (ht:Tab w) (hx:IsE w (fun _=>True) (exL x sx) x) (wx:x.wide):Calls Tryz.prog 6 #[exOf x sx] w (YesMade true w):=by
 have HY:=zb hy
 have HT:=zb ht
 have HW:=zb wx
 have HBA:=zb (zcU x (xP hx))
 have hb2:=zj (w:=w) (exObj x sx)
 have HX:Hid (InBox (w.alloc (exObj x sx)) w.heap.size x sx):=zb (InBox.new hx)
 have HB0:=zb hb2
 clear hy ht hx wx hb2
 unfold exOf exV
 go_enter Tryz.func6, Tryz.ntmps6
 go_upto_region 1 with fail
 obtain⟨W0,hW0⟩:∃ W,w.alloc (exObj x sx)=W:=⟨_,rfl⟩
 rw[hW0] at HB0 HX
 unfold exObj at hW0
 rw[hW0]
 clear hW0
 replace HY:=zb (HY.out.below HB0.out)
 replace HT:Hid (Tab W0):=zb (HT.out.below HB0.out)
 generalize hbx:w.heap.size=bx at HX ⊢
 clear hbx
 go_wp2_with fail
 refine(vc _ HY.out HT.out).mono ?_
 rintro e w1 ⟨rfl,hb1⟩
 replace HX:=zb (HX.out.below hb1)
 replace HY:=zb (HY.out.below hb1)
 replace HT:Hid (Tab w1):=zb (HT.out.below hb1)
 have HB1:=zb (HB0.out.trans (hb1.mono HB0.out.size))
 clear hb1 HB0
 have HC:=zb (rO x sx w1 HW.out HX.out.tree)
 unfold exOf exV at HC
 obtain⟨f0,f1,f2,f3,f4,f5,f6,f7,-⟩:=Box8.cells HX.out.box
 have fl:=HX.out.box.lt
 by_cases hl1:longE x 65536≤0
 · have l1:decide (longE x 65536≤0)=true:=decide_eq_true hl1
   generalize longE x 65536=n1 at *
   go_wp2_with fail
   refine HC.out.mono ?_
   rintro e w2 ⟨rfl,hb2⟩
   have HB2:=zb (HB1.out.trans (hb2.mono HB1.out.size))
   clear hb2
   go_wp2_with fail
   go_ret
   exact⟨rfl,HB2.out⟩
 have l1:decide (longE x 65536≤0)=false:=decide_eq_false hl1
 have HP1:Hid (0<longE x 65536):=zb (by omega)
 obtain⟨n1,hn1⟩:∃ n,longE x 65536=n:=⟨_,rfl⟩
 rw[hn1] at HC l1 hl1
 clear hn1
 go_wp2_with fail
 refine HC.out.mono ?_
 rintro e w2 ⟨rfl,hb2⟩
 replace HX:=zb (HX.out.below hb2)
 replace HY:=zb (HY.out.below hb2)
 replace HT:Hid (Tab w2):=zb (HT.out.below hb2)
 have HB2:=zb (HB1.out.trans (hb2.mono HB1.out.size))
 clear hb2 HB1 HC f0 f1 f2 f3 f4 f5 f6 f7 fl
 have HC:=zb (qB x sx w2 HX.out.tree HW.out HP1.out HT.out)
 unfold exOf exV at HC
 obtain⟨f0,f1,f2,f3,f4,f5,f6,f7,-⟩:=Box8.cells HX.out.box
 have fl:=HX.out.box.lt
 go_wp2_with fail
 refine HC.out.mono ?_
 rintro e w3 ⟨hb3,rfl⟩
 replace HX:=zb (HX.out.below hb3)
 replace HY:=zb (HY.out.below hb3)
 replace HT:Hid (Tab w3):=zb (HT.out.below hb3)
 have HB3:=zb (HB2.out.trans (hb3.mono HB2.out.size))
 clear hb3 HB2 HC f0 f1 f2 f3 f4 f5 f6 f7 fl l1 hl1 HP1 HW
 rcases HBA.out with⟨t,y,hs,hp,hs2,ha1,ha2⟩ | ⟨c,hc,hs⟩
 · rw[hs]
   have HPA:=zb (zco hp w3 HY.out)
   have HFI:=zb (vV hp)
   have HS2:=zb hs2
   have HA1:=zb ha1
   have B1:(t == t)=true:=by simp
   clear hs hp hs2 ha1 ha2 HBA HY
   go_wp2_with fail
   refine HPA.out.mono ?_
   rintro e w4 ⟨hb4,s4,rfl,hi⟩
   replace HX:=zb (HX.out.below hb4)
   replace HT:Hid (Tab w4):=zb (HT.out.below hb4)
   have HB4:=zb (HB3.out.trans (hb4.mono HB3.out.size))
   have HI:=zb (hi.wide fun _ _=>trivial)
   clear hb4 hi HB3 HPA
   unfold exOf exV
   go_upto_region 9 with fail
   all_goals
    obtain⟨W4,hW4⟩:∃ W,w4.alloc (exObj y s4)=W:=⟨_,rfl⟩
    have hbx:=zj (w:=w4) (exObj y s4)
    have HZ:Hid (InBox W4 w4.heap.size y s4):=zb (by rw[← hW4];exact InBox.new HI.out)
    rw[hW4] at hbx
    replace HX:=zb (HX.out.below hbx)
    replace HT:Hid (Tab W4):=zb (HT.out.below hbx)
    have HB5:=zb (HB4.out.trans (hbx.mono HB4.out.size))
    unfold exObj at hW4
    try rw[hW4]
    clear hW4 hbx HB4 HI
    generalize w4.heap.size=bz at *
    have HC:=qK y s4 W4 HZ.out.tree HFI.out.1 HFI.out.2 HT.out
    rw[HS2.out] at HC
    unfold exOf exV at HC
    replace HC:=zb HC
    obtain⟨g0,g1,g2,g3,g4,g5,g6,g7,-⟩:=Box8.cells HZ.out.box
    have gl:=HZ.out.box.lt
    go_wp2_with fail
    refine HC.out.mono ?_
    rintro e w5 ⟨hb5,rfl⟩
    replace HX:=zb (HX.out.below hb5)
    replace HZ:=zb (HZ.out.below hb5)
    have HB6:=zb (HB5.out.trans (hb5.mono HB5.out.size))
    clear hb5 HB5 HC g0 g1 g2 g3 g4 g5 g6 g7 gl HT HFI HS2
    have HC:=uC false y x s4 sx w5 HZ.out.tree HX.out.tree
    rw[HA1.out] at HC
    unfold exOf exV at HC
    replace HC:=zb HC
    obtain⟨f0,f1,f2,f3,f4,f5,f6,f7,-⟩:=Box8.cells HX.out.box
    have fl:=HX.out.box.lt
    obtain⟨g0,g1,g2,g3,g4,g5,g6,g7,-⟩:=Box8.cells HZ.out.box
    have gl:=HZ.out.box.lt
    go_wp2_with fail
    refine HC.out.mono ?_
    rintro e w6 ⟨rfl,hb6⟩
    have HB7:=zb (HB6.out.trans (hb6.mono HB6.out.size))
    clear hb6
    go_wp2_with fail
    go_ret
    exact⟨rfl,HB7.out⟩
 · rw[hs]
   have e1:(c != 0)=true:=by rw[bne_iff_ne];exact hc
   clear hs hc HBA
   go_wp2_with fail
   go_ret
   exact⟨rfl,HB3.out⟩
