/-
  The law ShowApart: the walk.
-/
import Derived.Test.YtigbapkdpaahjaaGreatDoorJAwk
import Derived.Test.YtigbapkdpaahjaaGreatDoorGSmE
namespace Go.Proofs.YtigbapkdpaahjaaGreatDoor
set_option linter.unusedSimpArgs false
set_option linter.unusedVariables false
set_option maxRecDepth 100000
set_option maxHeartbeats 4000000
open Go.RowKit
attribute [local go_sem] Oper.semAt_some
theorem zdw (x y:Nd) (sx sy:Sl) (w:World) (hy:Ready w) (ht:Tab w) (hx:IsE w (fun _=>True) (exL x sx) x) (hy2:IsE w (fun _=>True) (exL y sy) y) (wx:x.wide) (wy:y.wide):Calls Tryz.prog 8 #[exOf x sx,exOf y sy] w (YesMade true w):=by
 have HY:=zb hy
 have HT:=zb ht
 have HW:=zb (And.intro wx wy)
 have HBR:=zb (And.intro (xP hx) (xP hy2))
 have hb2:=zB (w:=w) (exObj x sx) (exObj y sy)
 have HX:Hid (InBox ((w.alloc (exObj x sx)).alloc (exObj y sy)) w.heap.size x sx):=zb ((InBox.new hx).below (zj _))
 have HZ:Hid (InBox ((w.alloc (exObj x sx)).alloc (exObj y sy)) (w.heap.size+1) y sy):=zb (by
  have h:=InBox.new (w:=w.alloc (exObj x sx)) (hy2.below (zj _))
  rwa [World.size_alloc] at h)
 have HB0:=zb hb2
 clear hy ht hx hy2 wx wy hb2
 unfold exOf exV
 go_enter Tryz.func8, Tryz.ntmps8
 go_upto_region 1 with fail
 obtain⟨W0,hW0⟩:∃ W,(w.alloc (exObj x sx)).alloc (exObj y sy)=W:=⟨_,rfl⟩
 rw[hW0] at HB0 HX HZ
 unfold exObj at hW0
 rw[hW0]
 clear hW0
 replace HY:=zb (HY.out.below HB0.out)
 replace HT:Hid (Tab W0):=zb (HT.out.below HB0.out)
 have hne:w.heap.size≠w.heap.size+1:=by omega
 generalize hbx:w.heap.size=bx at HX HZ hne ⊢
 generalize hbz:bx+1=bz at HZ hne ⊢
 clear hbx hbz
 go_wp2_with fail
 refine(vc _ HY.out HT.out).mono ?_
 rintro e w1 ⟨rfl,hb1⟩
 replace HX:=zb (HX.out.below hb1)
 replace HZ:=zb (HZ.out.below hb1)
 replace HT:Hid (Tab w1):=zb (HT.out.below hb1)
 have HB1:=zb (HB0.out.trans (hb1.mono HB0.out.size))
 clear hb1 HB0 HY
 have HC:=zb (rO x sx w1 HW.out.1 HX.out.tree)
 unfold exOf exV at HC
 obtain⟨f0,f1,f2,f3,f4,f5,f6,f7,_⟩:=Box8.cells HX.out.box
 have fl:=HX.out.box.lt
 by_cases hl1:longE x 65536≤0
 · have l1:decide (longE x 65536≤0)=true:=decide_eq_true hl1
   generalize longE x 65536=n1 at *
   go_wp2_with fail
   refine HC.out.mono ?_
   rintro e w2 ⟨rfl,hb2⟩
   have HB2:=zb (HB1.out.trans (hb2.mono HB1.out.size))
   clear hb2
   go_wp2_with fail
   go_ret
   exact⟨rfl,HB2.out⟩
 have l1:decide (longE x 65536≤0)=false:=decide_eq_false hl1
 have HP1:Hid (0<longE x 65536):=zb (by omega)
 obtain⟨n1,hn1⟩:∃ n,longE x 65536=n:=⟨_,rfl⟩
 rw[hn1] at HC l1 hl1
 clear hn1
 go_wp2_with fail
 refine HC.out.mono ?_
 rintro e w2 ⟨rfl,hb2⟩
 replace HX:=zb (HX.out.below hb2)
 replace HZ:=zb (HZ.out.below hb2)
 replace HT:Hid (Tab w2):=zb (HT.out.below hb2)
 have HB2:=zb (HB1.out.trans (hb2.mono HB1.out.size))
 clear hb2 HB1 HC f0 f1 f2 f3 f4 f5 f6 f7 fl
 have HC:=zb (rO y sy w2 HW.out.2 HZ.out.tree)
 unfold exOf exV at HC
 obtain⟨f0,f1,f2,f3,f4,f5,f6,f7,_⟩:=Box8.cells HZ.out.box
 have fl:=HZ.out.box.lt
 by_cases hl2:longE y 65536≤0
 · have l2:decide (longE y 65536≤0)=true:=decide_eq_true hl2
   generalize longE y 65536=n2 at *
   go_wp2_with fail
   refine HC.out.mono ?_
   rintro e w3 ⟨rfl,hb3⟩
   have HB3:=zb (HB2.out.trans (hb3.mono HB2.out.size))
   clear hb3
   go_wp2_with fail
   go_ret
   exact⟨rfl,HB3.out⟩
 have l2:decide (longE y 65536≤0)=false:=decide_eq_false hl2
 have HP2:Hid (0<longE y 65536):=zb (by omega)
 obtain⟨n2,hn2⟩:∃ n,longE y 65536=n:=⟨_,rfl⟩
 rw[hn2] at HC l2 hl2
 clear hn2
 go_wp2_with fail
 refine HC.out.mono ?_
 rintro e w3 ⟨rfl,hb3⟩
 replace HX:=zb (HX.out.below hb3)
 replace HZ:=zb (HZ.out.below hb3)
 replace HT:Hid (Tab w3):=zb (HT.out.below hb3)
 have HB3:=zb (HB2.out.trans (hb3.mono HB2.out.size))
 clear hb3 HB2 HC f0 f1 f2 f3 f4 f5 f6 f7 fl
 have HC:=zb (qB x sx w3 HX.out.tree HW.out.1 HP1.out HT.out)
 unfold exOf exV at HC
 obtain⟨f0,f1,f2,f3,f4,f5,f6,f7,_⟩:=Box8.cells HX.out.box
 have fl:=HX.out.box.lt
 go_wp2_with fail
 refine HC.out.mono ?_
 rintro e w4 ⟨hb4,rfl⟩
 replace HX:=zb (HX.out.below hb4)
 replace HZ:=zb (HZ.out.below hb4)
 replace HT:Hid (Tab w4):=zb (HT.out.below hb4)
 have HB4:=zb (HB3.out.trans (hb4.mono HB3.out.size))
 clear hb4 HB3 HC f0 f1 f2 f3 f4 f5 f6 f7 fl l1 l2 hl1 hl2
 have HC:=zb (qB y sy w4 HZ.out.tree HW.out.2 HP2.out HT.out)
 unfold exOf exV at HC
 obtain⟨f0,f1,f2,f3,f4,f5,f6,f7,_⟩:=Box8.cells HZ.out.box
 have fl:=HZ.out.box.lt
 go_wp2_with fail
 refine HC.out.mono ?_
 rintro e w5 ⟨hb5,rfl⟩
 replace HX:=zb (HX.out.below hb5)
 replace HZ:=zb (HZ.out.below hb5)
 have HB5:=zb (HB4.out.trans (hb5.mono HB4.out.size))
 clear hb5 HB4 HC f0 f1 f2 f3 f4 f5 f6 f7 fl HT
 obtain⟨⟨t1,c1⟩,hr1⟩:∃ r,ShowV x=r:=⟨_,rfl⟩
 obtain⟨⟨t2,c2⟩,hr2⟩:∃ r,ShowV y=r:=⟨_,rfl⟩
 have HAP:Hid (c1=0→c2=0→(t1 == t2)=x.alike false y):=zb (fun h1 h2=>by
  subst h1;subst h2
  rw[bytes_eq]
  have h3:=zdF HBR.out.1 HBR.out.2 hr1 hr2
  cases ha:x.alike false y with
  | true=>exact decide_eq_true (h3.2 ((xQ x y).1 ha))
  | false=>exact decide_eq_false (fun e=>absurd ((xQ x y).2 (h3.1 e)) (by rw[ha];decide)))
 rw[hr1,hr2]
 clear hr1 hr2 HBR HW HP1 HP2
 dsimp only
 by_cases h1:c1=0
 · have e1:(c1 != 0)=false:=by rw[bne_eq_false_iff_eq];exact h1
   by_cases h2:c2=0
   · have e2:(c2 != 0)=false:=by rw[bne_eq_false_iff_eq];exact h2
     have hbe:=HAP.out h1 h2
     have HC:=zb (uC false x y sx sy w5 HX.out.tree HZ.out.tree)
     unfold exOf exV at HC
     generalize x.alike false y=ab at *
     have B1:(ab == ab)=true:=by simp
     obtain⟨f0,f1,f2,f3,f4,f5,f6,f7,_⟩:=Box8.cells HX.out.box
     have fl:=HX.out.box.lt
     obtain⟨g0,g1,g2,g3,g4,g5,g6,g7,_⟩:=Box8.cells HZ.out.box
     have gl:=HZ.out.box.lt
     clear h1 h2 HAP
     go_wp2_with fail
     refine HC.out.mono ?_
     rintro e w6 ⟨rfl,hb6⟩
     have HB6:=zb (HB5.out.trans (hb6.mono HB5.out.size))
     clear hb6
     go_wp2_with fail
     go_ret
     exact⟨rfl,HB6.out⟩
   · have e2:(c2 != 0)=true:=by rw[bne_iff_ne];exact h2
     clear h1 h2 HAP
     go_wp2_with fail
     go_ret
     exact⟨rfl,HB5.out⟩
 · have e1:(c1 != 0)=true:=by rw[bne_iff_ne];exact h1
   clear h1 HAP
   go_wp2_with fail
   go_ret
   exact⟨rfl,HB5.out⟩
