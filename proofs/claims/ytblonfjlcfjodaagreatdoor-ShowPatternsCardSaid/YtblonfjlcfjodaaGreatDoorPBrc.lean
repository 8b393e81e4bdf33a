/-
  The walk of braces.
-/
import Derived.Test.YtblonfjlcfjodaaGreatDoorGNode
import Derived.RegionDies
namespace Go.Proofs.YtblonfjlcfjodaaGreatDoor
set_option linter.unusedSimpArgs false
set_option linter.unusedVariables false
set_option maxRecDepth 100000
set_option maxHeartbeats 4000000
open Go.RowKit
theorem PAt.view2 {w:World} {p:Nat} {t u:Tok} {R:List Tok} (h:PAt w p (t::u::R)):∃ g off cap,w.cell? ⟨p,0,none⟩=some (.slice (some ⟨g,off,none⟩) (R.length+1+1) cap)/\R.length+1+1<=cap/\g<p /\
 w.cell? ⟨g,off,none⟩=some (.int .i64 t.1.kind)/\w.cell? ⟨g,off+4,none⟩=some (.int .i64 u.1.kind)/\w.cell? ⟨g,off+4+1,none⟩=some (.int .i64 (u.2:Nat))/\w.cell? ⟨g,off+4+2,none⟩=some (.string ⟨u.1.text.toArray⟩)/\w.cell? ⟨g,off+4+3,none⟩=some (.int .i64 u.1.n):=by
 obtain⟨⟨g,off,cap,h1,h2,h3,h4,h5⟩,_⟩:=h;obtain⟨k1,_⟩:=h5 0 t rfl;obtain⟨m1,m2,m3,m4⟩:=h5 1 u rfl;rw[Nat.zero_mul,Nat.add_zero] at k1;rw[Nat.one_mul] at m1 m2 m3 m4;exact⟨g,off,cap,by rw[zf h1];rfl,h2,h3,k1,m1,m2,m3,m4⟩
theorem rl {rec:Md->List Tok->PR} {t u:Tok} {S:List Tok} (h:isOne [sUncurl] u=true∨(isOne [sUncurl] u=false/\isKind 1 u=true/\second (isOne [sEq]) S=true)):exec rec (step (.braces t)) (u::S)=match rec (.fields true) (u::S) with
 | .ok r R=>.ok (.mk ⟨12,t.2,[],0,[],r.hd.labels⟩ r.args []) R
 | .bad R=>.bad R
 | .out=>.out:=by
 have h0:exec rec (recordB t) (u::S)=match rec (.fields true) (u::S) with
  | .ok r R=>.ok (.mk ⟨12,t.2,[],0,[],r.hd.labels⟩ r.args []) R
  | .bad R=>.bad R
  | .out=>.out:=by
  unfold recordB;rw[exec];cases rec (.fields true) (u::S) <;> rfl
 rw[← h0];show(if isOne [sUncurl] u=true then _ else if (isKind 1 u&&second (isOne [sEq]) S)=true then _ else _)=_
 rcases h with h | ⟨h,h1,h2⟩
 . rw[if_pos h]
 . rw[if_neg (by rw[h];decide),if_pos (by rw[h1,h2];rfl)]
theorem sm {rec:Md->List Tok->PR} {t u:Tok} {S:List Tok} (h:isOne [sUncurl] u=false) (h1:(isKind 1 u&&second (isOne [sEq]) S)=false):exec rec (step (.braces t)) (u::S)=exec rec (withB t) (u::S):=by
 show(if isOne [sUncurl] u=true then _ else if (isKind 1 u&&second (isOne [sEq]) S)=true then _ else _)=_
 rw[if_neg (by rw[h];decide),if_neg (by rw[h1];decide)]
theorem zc4 {w w2 w9:World} {p b0:Nat} {R:List Tok} {k:Int} {q:Nat} {ls:List (List UInt8)} {args:List Nd} {gl g:Option Addr} {cl c:Nat} {c0 c1 c2 c3 c4 c5 c6 c7:Value} (hx:Box8 w2 b0 27 c0 c1 c2 c3 c4 c5 c6 c7) (hb0:w.heap.size<=b0) (hk:Keep w p R w2) (hp:p<w.heap.size)
 (hi:IsE w2 (fun g=>b0<g) (exL (.mk ⟨k,q,[],0,[],ls⟩ args []) ⟨gl,cl,g,c,none,0⟩) (.mk ⟨k,q,[],0,[],ls⟩ args []))
 (he:set8 w2 b0 (.int .i64 k) (.int .i64 (q:Nat)) (.string ⟨#[]⟩) (.int .i64 0) (.string ⟨#[]⟩) (.slice gl ls.length cl) (.slice g args.length c) (.slice none 0 0)=w9) :
 ∀ w10,Below w9.heap.size w9 w10->ExBox w10 b0 (.mk ⟨k,q,[],0,[],ls⟩ args []) ⟨gl,cl,g,c,none,0⟩/\Told (.ok (.mk ⟨k,q,[],0,[],ls⟩ args []) R) w p (.returned (exOf (.mk ⟨k,q,[],0,[],ls⟩ args []) ⟨gl,cl,g,c,none,0⟩)) w10 :=
 zH (x:=.mk ⟨k,q,[],0,[],ls⟩ args []) (s:=⟨gl,cl,g,c,none,0⟩) hx hb0 hk hp hi he
theorem w_braces (f p:Nat) (t:Tok) (hs:Says f .seq 69 #[ptrV p] p) (hfl:SaysF true f (.fields true) 234 #[ptrV p,(.func (.func 69) #[ptrV p] #[])] p):Says (f+1) (.braces t) 227 #[ptrV p,tokVal t] p:=by
 have HHS:=zb hs;clear hs;have HHFL:=zb hfl;clear hfl;intro T w hp hne;have HLT:=zb hp.lt;have HK:=zb (Keep.start hp);have hbx:=zj (w:=w) (tokObj t);have HT:=zb (TkBox.new w t);have HTP:Hid (p<w.heap.size):=HLT;replace HK:=zb (HK.out.below hbx);clear hbx;have hbx:=zj (w:=(w.alloc (tokObj t))) zeroObj;replace HT:=zb (HT.out.below hbx);have HX:Hid (ZeroBox ((w.alloc (tokObj t)).alloc zeroObj) (w.heap.size+1)):=zb (by have h9:=ZeroBox.new (w.alloc (tokObj t));rwa [World.size_alloc] at h9);replace HK:=zb (HK.out.below hbx);clear hbx;have HPB:Hid (p<(w.heap.size+1)):=zb (by have:=HLT.out;omega);have HB0:Hid (w.heap.size<=(w.heap.size+1)):=zb (by omega);have HR:Hid (run (f+1) (.braces t) T=exec (run f) (step (.braces t)) T):=zb rfl;have HN:=zb hne;obtain⟨t0,S0,hT0⟩:=hp.row.cons;generalize run (f+1) (.braces t) T=res at *;subst hT0;clear hp hne;have HSE:=zb (fun W b h hb=>qL p t0 S0 [sUncurl] _ _ rfl rfl (by decide) W b h hb);unfold tokVal tokAgg
 go_enter Tryz.func227, Tryz.ntmps227
 go_wp2_with fail
 refine(HSE.out _ _ HK.out.at_ (by simp)).mono ?_;rintro e W1 ⟨rfl,hb2⟩;replace HX:=zb (HX.out.below hb2);replace HT:=zb (HT.out.below hb2);replace HK:=zb (HK.out.below hb2);clear hb2 HSE;cases hy:isOne [sUncurl] t0 with
 | true =>
  replace HR:=zb (HR.out.trans (rl (.inl hy)));clear hy
  go_upto_region 2 with fail
  obtain⟨k0,k1,k2,k3,_⟩:=TokBox.cells HT.out;have kl:=HT.out.lt
  go_wp2_with fail
  refine(zz 12 t none 0 0 _).mono ?_;rintro e Wz ⟨rfl,hb2⟩;clear k0 k1 k2 k3 kl;replace HX:=zb (HX.out.below hb2);replace HK:=zb (HK.out.below hb2);clear hb2 HT;have hbx:=zj (w:=Wz) (.cells #[.int .i64 12,.int .i64 (t.2:Nat),.string ⟨#[]⟩,.int .i64 0,.string ⟨#[]⟩,.slice none 0 0,.slice none 0 0,.slice none 0 0] 27 (0,0));have HE:=zb (vE Wz (.int .i64 12) (.int .i64 (t.2:Nat)) (.string ⟨#[]⟩) (.int .i64 0) (.string ⟨#[]⟩) (.slice none 0 0) (.slice none 0 0) (.slice none 0 0) 27);have HEN:Hid (w.heap.size+1<Wz.heap.size/\p<Wz.heap.size):=zb ⟨HX.out.lt,by have:=HPB.out;have:=HX.out.lt;omega⟩;replace HX:=zb (HX.out.below hbx);replace HK:=zb (HK.out.below hbx);clear hbx;unfold exV
  go_wp2_with fail
  generalize Wz.heap.size=be at *;generalize Wz.alloc _=w4 at *;cases hr:run f (.fields true) (t0::S0) with
  | out =>
   rw[hr] at HR;exact absurd HR.out HN.out
  | bad R9 =>
   rw[hr] at HR;refine(HHFL.out (t0::S0) _ HK.out.at_ (by rw[hr];exact fun h=>by cases h)).mono ?_;rw[hr];rintro e w8 ⟨t8,S8,rfl,rfl,hg⟩;have HG:=zb (zo HK.out.grown hg);clear hg hr;unfold faultV
   go_wp2_with fail
   exact⟨rfl,by rw[HR.out];exact⟨t8,S8,rfl,rfl,HG.out⟩⟩
  | ok r R2 =>
   rw[hr] at HR;refine(HHFL.out (t0::S0) _ HK.out.at_ (by rw[hr];exact fun h=>by cases h)).mono ?_;rw[hr];rintro e W2 ⟨gl,cl,ga,ca,rfl,hls,hro,hk⟩;have hro:ExRow _ _ _ _:=hro;have hsz:w4.heap.size<=W2.heap.size:=hk.size;have hlt:be<w4.heap.size:=Box8.lt HE.out;have HA:Hid (∀ W3,(∀ j,j≠be->W3.heap[j]? = W2.heap[j]?)->IsE W3 (fun g=>w.heap.size+1<g) (exL (.mk ⟨12,t.2,[],0,[],r.hd.labels⟩ r.args []) ⟨gl,cl,ga,ca,none,0⟩) (.mk ⟨12,t.2,[],0,[],r.hd.labels⟩ r.args [])):=zb (by
    intro W3 h9;have hm:Move W2 (fun g=>w4.heap.size<=g) W3 (fun g=>w.heap.size+1<g):=fun g hg _=>⟨zd HX.out.lt hg,h9 g (by omega)⟩;obtain⟨LL,h1,h2⟩:=hro.ex;exact⟨_,_,_,rfl,hls.move hm,⟨LL,h1.move hm,IsEs.move hm h2⟩,[],zx _ _ _ _,trivial⟩)
   replace HX:=zb (HX.out.keep hk HPB.out);replace HE:=zb (Box8.keep HE.out hk HEN.out.2);replace HK:=zb (HK.out.trans hk);have HE5:=zb (show Box8 (W2.setCell ⟨be,5,none⟩ (.slice gl r.hd.labels.length cl)) be 27 (.int .i64 12) (.int .i64 (t.2:Nat)) (.string ⟨#[]⟩) (.int .i64 0) (.string ⟨#[]⟩) (.slice gl r.hd.labels.length cl) (.slice none 0 0) (.slice none 0 0) from zn HE.out 5 _)
   have HE6:=zb (show Box8 ((W2.setCell ⟨be,5,none⟩ (.slice gl r.hd.labels.length cl)).setCell ⟨be,6,none⟩ (.slice ga r.args.length ca)) be 27 (.int .i64 12) (.int .i64 (t.2:Nat)) (.string ⟨#[]⟩) (.int .i64 0) (.string ⟨#[]⟩) (.slice gl r.hd.labels.length cl) (.slice ga r.args.length ca) (.slice none 0 0) from zn HE5.out 6 _)
   have HW:Hid (Keep w p R2 ((W2.setCell ⟨be,5,none⟩ (.slice gl r.hd.labels.length cl)).setCell ⟨be,6,none⟩ (.slice ga r.args.length ca))/\ZeroBox ((W2.setCell ⟨be,5,none⟩ (.slice gl r.hd.labels.length cl)).setCell ⟨be,6,none⟩ (.slice ga r.args.length ca)) (w.heap.size+1)/\∀ j,j≠be->((W2.setCell ⟨be,5,none⟩ (.slice gl r.hd.labels.length cl)).setCell ⟨be,6,none⟩ (.slice ga r.args.length ca)).heap[j]? = W2.heap[j]?):=zb (by
    have h1:w.heap.size<=be:=by have:=HEN.out.1;omega
    have h2:be≠w.heap.size+1:=by have:=HEN.out.1;omega
    exact⟨(HK.out.set h1 HEN.out.2 _ _).set h1 HEN.out.2 _ _,(HX.out.set h2 _ _).set h2 _ _,fun j hj=>(Below.heap_setCell _ _ _ _ hj).trans (Below.heap_setCell _ _ _ _ hj)⟩)
   obtain⟨e0,e1,e2,e3,e4,e5,e6,e7,ef⟩:=Box8.cells HE.out;have g5:=ef 5;have g6:=ef 6;have el:=Box8.lt HE.out;clear ef hr hls hro hk hsz hlt
   go_upto_region 4 with fail
   replace HX:=zb HW.out.2.1;replace HK:=zb HW.out.1;replace HA:=zb (HA.out _ HW.out.2.2);clear e0 e1 e2 e3 e4 e5 e6 e7 g5 g6 el HE HE5 HW;generalize World.setCell _ _ _=w6 at *;obtain⟨e0,e1,e2,e3,e4,e5,e6,e7,_⟩:=Box8.cells HE6.out;have el:=Box8.lt HE6.out;obtain⟨x0,x1,x2,x3,x4,x5,x6,x7,xf⟩:=(Box8.cells HX.out);have y0:=xf 0;have y1:=xf 1;have y2:=xf 2;have y3:=xf 3;have y4:=xf 4;have y5:=xf 5;have y6:=xf 6;have y7:=xf 7;have hxl:=HX.out.lt;clear xf;have HS:=zb (zc4 HX.out HB0.out HK.out HLT.out HA.out rfl);unfold set8 at HS
   go_wp2_with fail
   generalize World.setCell _ _ _=w9 at *;rw[HR.out];exact zu Tryz.results227 rfl rfl (HS.out _ (Below.refl _ _))
 | false =>
  by_cases hk:t0.1.kind=1
  . have hk0:t0.1.kind≠0:=by omega
    obtain⟨u0,S1,rfl⟩:=xx HK.out.at_.row hk0;obtain⟨g,off,cap,q0,l1,l2,j0,m0,m1,m2,m3⟩:=HK.out.at_.view2;have B3:(t0.1.kind == 1)=true:=by rw[beq_iff_eq];exact hk
    have jb:(0:Int)<((S1.length:Int)+1+1):=by omega
    have jc:(1:Int)<((S1.length:Int)+1+1):=by omega
    have jg:g<W1.heap.size:=by have:=HX.out.lt;have:=HPB.out;omega
    have HIO:=zb (fun W b hb=>tJ u0 [sEq] _ _ rfl rfl (by decide) W b hb);have hkk:isKind 1 t0=true:=decide_eq_true hk;clear hk hk0;unfold tokVal tokAgg at HIO
    go_wp2_with fail
    refine(HIO.out _ _ (by simp)).mono ?_;rintro e W2 ⟨rfl,hb2⟩;replace HX:=zb (HX.out.below hb2);replace HT:=zb (HT.out.below hb2);replace HK:=zb (HK.out.below hb2);clear hb2 HIO q0 l1 l2 j0 m0 m1 m2 m3 B3 jb jc jg;cases hz:isOne [sEq] u0 with
    | true =>
     replace HR:=zb (HR.out.trans (rl (.inr ⟨hy,hkk,hz⟩)));clear hy hz hkk
     go_upto_region 2 with fail
     obtain⟨k0,k1,k2,k3,_⟩:=TokBox.cells HT.out;have kl:=HT.out.lt
     go_wp2_with fail
     refine(zz 12 t none 0 0 _).mono ?_;rintro e Wz ⟨rfl,hb2⟩;clear k0 k1 k2 k3 kl;replace HX:=zb (HX.out.below hb2);replace HK:=zb (HK.out.below hb2);clear hb2 HT;have hbx:=zj (w:=Wz) (.cells #[.int .i64 12,.int .i64 (t.2:Nat),.string ⟨#[]⟩,.int .i64 0,.string ⟨#[]⟩,.slice none 0 0,.slice none 0 0,.slice none 0 0] 27 (0,0));have HE:=zb (vE Wz (.int .i64 12) (.int .i64 (t.2:Nat)) (.string ⟨#[]⟩) (.int .i64 0) (.string ⟨#[]⟩) (.slice none 0 0) (.slice none 0 0) (.slice none 0 0) 27);have HEN:Hid (w.heap.size+1<Wz.heap.size/\p<Wz.heap.size):=zb ⟨HX.out.lt,by have:=HPB.out;have:=HX.out.lt;omega⟩;replace HX:=zb (HX.out.below hbx);replace HK:=zb (HK.out.below hbx);clear hbx;unfold exV
     go_wp2_with fail
     generalize Wz.heap.size=be at *;generalize Wz.alloc _=w4 at *;cases hr:run f (.fields true) (t0::u0::S1) with
     | out =>
      rw[hr] at HR;exact absurd HR.out HN.out
     | bad R9 =>
      rw[hr] at HR;refine(HHFL.out (t0::u0::S1) _ HK.out.at_ (by rw[hr];exact fun h=>by cases h)).mono ?_;rw[hr];rintro e w8 ⟨t8,S8,rfl,rfl,hg⟩;have HG:=zb (zo HK.out.grown hg);clear hg hr;unfold faultV
      go_wp2_with fail
      exact⟨rfl,by rw[HR.out];exact⟨t8,S8,rfl,rfl,HG.out⟩⟩
     | ok r R2 =>
      rw[hr] at HR;refine(HHFL.out (t0::u0::S1) _ HK.out.at_ (by rw[hr];exact fun h=>by cases h)).mono ?_;rw[hr];rintro e W2 ⟨gl,cl,ga,ca,rfl,hls,hro,hk⟩;have hro:ExRow _ _ _ _:=hro;have hsz:w4.heap.size<=W2.heap.size:=hk.size;have hlt:be<w4.heap.size:=Box8.lt HE.out;have HA:Hid (∀ W3,(∀ j,j≠be->W3.heap[j]? = W2.heap[j]?)->IsE W3 (fun g=>w.heap.size+1<g) (exL (.mk ⟨12,t.2,[],0,[],r.hd.labels⟩ r.args []) ⟨gl,cl,ga,ca,none,0⟩) (.mk ⟨12,t.2,[],0,[],r.hd.labels⟩ r.args [])):=zb (by
       intro W3 h9;have hm:Move W2 (fun g=>w4.heap.size<=g) W3 (fun g=>w.heap.size+1<g):=fun g hg _=>⟨zd HX.out.lt hg,h9 g (by omega)⟩;obtain⟨LL,h1,h2⟩:=hro.ex;exact⟨_,_,_,rfl,hls.move hm,⟨LL,h1.move hm,IsEs.move hm h2⟩,[],zx _ _ _ _,trivial⟩)
      replace HX:=zb (HX.out.keep hk HPB.out);replace HE:=zb (Box8.keep HE.out hk HEN.out.2);replace HK:=zb (HK.out.trans hk);have HE5:=zb (show Box8 (W2.setCell ⟨be,5,none⟩ (.slice gl r.hd.labels.length cl)) be 27 (.int .i64 12) (.int .i64 (t.2:Nat)) (.string ⟨#[]⟩) (.int .i64 0) (.string ⟨#[]⟩) (.slice gl r.hd.labels.length cl) (.slice none 0 0) (.slice none 0 0) from zn HE.out 5 _)
      have HE6:=zb (show Box8 ((W2.setCell ⟨be,5,none⟩ (.slice gl r.hd.labels.length cl)).setCell ⟨be,6,none⟩ (.slice ga r.args.length ca)) be 27 (.int .i64 12) (.int .i64 (t.2:Nat)) (.string ⟨#[]⟩) (.int .i64 0) (.string ⟨#[]⟩) (.slice gl r.hd.labels.length cl) (.slice ga r.args.length ca) (.slice none 0 0) from zn HE5.out 6 _)
      have HW:Hid (Keep w p R2 ((W2.setCell ⟨be,5,none⟩ (.slice gl r.hd.labels.length cl)).setCell ⟨be,6,none⟩ (.slice ga r.args.length ca))/\ZeroBox ((W2.setCell ⟨be,5,none⟩ (.slice gl r.hd.labels.length cl)).setCell ⟨be,6,none⟩ (.slice ga r.args.length ca)) (w.heap.size+1)/\∀ j,j≠be->((W2.setCell ⟨be,5,none⟩ (.slice gl r.hd.labels.length cl)).setCell ⟨be,6,none⟩ (.slice ga r.args.length ca)).heap[j]? = W2.heap[j]?):=zb (by
       have h1:w.heap.size<=be:=by have:=HEN.out.1;omega
       have h2:be≠w.heap.size+1:=by have:=HEN.out.1;omega
       exact⟨(HK.out.set h1 HEN.out.2 _ _).set h1 HEN.out.2 _ _,(HX.out.set h2 _ _).set h2 _ _,fun j hj=>(Below.heap_setCell _ _ _ _ hj).trans (Below.heap_setCell _ _ _ _ hj)⟩)
      obtain⟨e0,e1,e2,e3,e4,e5,e6,e7,ef⟩:=Box8.cells HE.out;have g5:=ef 5;have g6:=ef 6;have el:=Box8.lt HE.out;clear ef hr hls hro hk hsz hlt
      go_upto_region 4 with fail
      replace HX:=zb HW.out.2.1;replace HK:=zb HW.out.1;replace HA:=zb (HA.out _ HW.out.2.2);clear e0 e1 e2 e3 e4 e5 e6 e7 g5 g6 el HE HE5 HW;generalize World.setCell _ _ _=w6 at *;obtain⟨e0,e1,e2,e3,e4,e5,e6,e7,_⟩:=Box8.cells HE6.out;have el:=Box8.lt HE6.out;obtain⟨x0,x1,x2,x3,x4,x5,x6,x7,xf⟩:=(Box8.cells HX.out);have y0:=xf 0;have y1:=xf 1;have y2:=xf 2;have y3:=xf 3;have y4:=xf 4;have y5:=xf 5;have y6:=xf 6;have y7:=xf 7;have hxl:=HX.out.lt;clear xf;have HS:=zb (zc4 HX.out HB0.out HK.out HLT.out HA.out rfl);unfold set8 at HS
      go_wp2_with fail
      generalize World.setCell _ _ _=w9 at *;rw[HR.out];exact zu Tryz.results227 rfl rfl (HS.out _ (Below.refl _ _))
    | false =>
     replace HR:=zb (HR.out.trans (sm hy (show(isKind 1 t0&&isOne [sEq] u0)=false by rw[hz,Bool.and_false])));clear hy hz hkk
     go_wp2_with fail
     unfold withB need name at HR;simp only[exec] at HR;cases hr:run f .seq (t0::u0::S1) with
     | out =>
      rw[hr] at HR;exact absurd HR.out HN.out
     | bad R9 =>
      rw[hr] at HR;refine(HHS.out (t0::u0::S1) _ HK.out.at_ (by rw[hr];exact fun h=>by cases h)).mono ?_;rw[hr];rintro e w8 ⟨t8,S8,rfl,rfl,hg⟩;have HG:=zb (zo HK.out.grown hg);clear hg hr;unfold faultV
      go_wp2_with fail
      exact⟨rfl,by rw[HR.out];exact⟨t8,S8,rfl,rfl,HG.out⟩⟩
     | ok a R1 =>
      rw[hr] at HR;refine(HHS.out (t0::u0::S1) _ HK.out.at_ (by rw[hr];exact fun h=>by cases h)).mono ?_;rw[hr];rintro e W1 ⟨s1,rfl,ha,hk⟩;clear hr;have HAa:Hid (IsE W1 (fun g=>(w.heap.size+1)<g) (exL a s1) a):=zb (ha.wide fun g hg=>zd HX.out.lt hg);clear ha;replace HX:=zb (HX.out.keep hk HPB.out);replace HT:=zb (HT.out.keep hk HTP.out);replace HK:=zb (HK.out.trans hk);clear hk;have hbx:=zj (w:=W1) (exObj a s1);have HF:=zb (ExBox.new W1 a s1);have HFP:Hid (p<W1.heap.size):=zb (by have:=HPB.out;have:=HX.out.lt;omega);have HFZ:Hid ((w.heap.size+1)<W1.heap.size):=zb HX.out.lt;replace HX:=zb (HX.out.below hbx);replace HT:=zb (HT.out.below hbx);replace HAa:=zb (HAa.out.below hbx);replace HK:=zb (HK.out.below hbx);clear hbx;obtain⟨t2,S2,rfl⟩:=HK.out.at_.row.cons;simp only[exec] at HR;have HAC:=zb (fun W b h hb=>zE p t2 S2 [sWith] _ _ rfl rfl (by decide) W b h hb);unfold exOf exV
      go_wp2_with fail
      refine(HAC.out _ _ HK.out.at_ (by simp)).mono ?_;rintro e W3 (⟨hy,rfl,hp2,hg2⟩ | ⟨hy,rfl,hb2⟩)
      . rw[hy,if_pos rfl] at HR;have hk2:=Keep.mk hp2 hg2;replace HX:=zb (HX.out.keep hk2 HPB.out);replace HT:=zb (HT.out.keep hk2 HTP.out);replace HF:=zb (HF.out.keep hk2 HFP.out);replace HAa:=zb (HAa.out.keep hk2 (fun g hg=>by have:=HPB.out;omega));replace HK:=zb (HK.out.trans hk2);clear hp2 hg2 hk2 HAC hy;obtain⟨t4,S4,rfl⟩:=HK.out.at_.row.cons;simp only[exec] at HR;have HAC:=zb (fun W h=>vQ p t4 S4 W h);unfold tokVal tokAgg
        go_wp2_with fail
        refine(HAC.out _ HK.out.at_).mono ?_;rintro e W5 (⟨hy,rfl,hp2,hg2⟩ | ⟨hy,rfl,hb2⟩)
        . rw[hy,if_pos rfl] at HR;have hk2:=Keep.mk hp2 hg2;replace HX:=zb (HX.out.keep hk2 HPB.out);replace HT:=zb (HT.out.keep hk2 HTP.out);replace HF:=zb (HF.out.keep hk2 HFP.out);replace HAa:=zb (HAa.out.keep hk2 (fun g hg=>by have:=HPB.out;omega));replace HK:=zb (HK.out.trans hk2);clear hy hp2 hg2 hk2 HAC;obtain⟨t6,S6,rfl⟩:=HK.out.at_.row.cons;simp only[exec] at HR;have HAC:=zb (fun W b h hb=>zE p t6 S6 [sEq] _ _ rfl rfl (by decide) W b h hb)
          go_wp2_with fail
          refine(HAC.out _ _ HK.out.at_ (by simp)).mono ?_;rintro e W7 (⟨hy,rfl,hp2,hg2⟩ | ⟨hy,rfl,hb2⟩)
          . rw[hy,if_pos rfl] at HR;have hk2:=Keep.mk hp2 hg2;replace HX:=zb (HX.out.keep hk2 HPB.out);replace HT:=zb (HT.out.keep hk2 HTP.out);replace HF:=zb (HF.out.keep hk2 HFP.out);replace HAa:=zb (HAa.out.keep hk2 (fun g hg=>by have:=HPB.out;omega));replace HK:=zb (HK.out.trans hk2);clear hp2 hg2 hk2 HAC hy;unfold tokVal tokAgg
            go_upto_region 9 with fail
            generalize hb1:W1.heap.size=b1 at *;clear hb1;have HKd:=zb (HK.out.below (zm _));have hz0:Below W7.heap.size W7 (W7.alloc zeroObj).drew:=(zj zeroObj).trans ((zm _).mono (by simp));have HZ0:=zb hz0;have HKe:=zb (HK.out.below hz0);have HEe:=zb ((ZeroBox.new W7).below (zm _));clear hz0;obtain⟨k0,k1,k2,k3,_⟩:=TokBox.cells (HT.out);have kl:=(HT.out).lt;have n0:¬w.heap.size=(w.heap.size+1):=by skip;omega
            have m0:¬(w.heap.size+1)=w.heap.size:=by skip;omega
            have p0:¬w.heap.size=W7.heap.size:=by omega
            have q0:¬W7.heap.size=w.heap.size:=by omega
            obtain⟨f0,f1,f2,f3,f4,f5,f6,f7,_⟩:=Box8.cells (HF.out);have fl:=(HF.out).lt;have n1:¬b1=(w.heap.size+1):=by have:=HFZ.out;omega
            have m1:¬(w.heap.size+1)=b1:=by have:=HFZ.out;omega
            have p1:¬b1=W7.heap.size:=by omega
            have q1:¬W7.heap.size=b1:=by omega
            cases hr:run f .seq S6 with
            | out =>
             rw[hr] at HR;exact absurd HR.out HN.out
            | bad R9 =>
             rw[hr] at HR;have HSC:Hid (∀ W,PAt W p S6->Calls Tryz.prog 69 #[ptrV p] W (Told (.bad R9) W p)):=zb (fun W h=>by
              have:=HHS.out S6 W h (by rw[hr];exact fun h=>by cases h)
              rwa [hr] at this)
             clear hr
             go_region_dies
             all_goals first | (refine(HSC.out _ HKd.out.at_).mono ?_;rintro e w8 ⟨t8,S8,rfl,rfl,hg⟩;have HG:=zb (zo HKd.out.grown hg);exact⟨rfl,by rw[HR.out];exact⟨t8,S8,rfl,rfl,HG.out⟩⟩) | (refine(HSC.out _ HKe.out.at_).mono ?_;rintro e w8 ⟨t8,S8,rfl,rfl,hg⟩;have HG:=zb (zo HKe.out.grown hg);exact⟨rfl,by rw[HR.out];exact⟨t8,S8,rfl,rfl,HG.out⟩⟩)
            | ok b Ry =>
             rw[hr] at HR;have HSC:Hid (∀ W,PAt W p S6->Calls Tryz.prog 69 #[ptrV p] W (Told (.ok b Ry) W p)):=zb (fun W h=>by
              have:=HHS.out S6 W h (by rw[hr];exact fun h=>by cases h)
              rwa [hr] at this)
             clear hr;have HEN0:Hid (w.heap.size<=W7.heap.size/\W7.heap.size≠(w.heap.size+1)):=zb ⟨HK.out.size,by have:=HX.out.lt;omega⟩
             go_region_held3 (fun W=>W.cell? ⟨w.heap.size,0,none⟩=some (.int .i64 t.1.kind)/\W.cell? ⟨w.heap.size,1,none⟩=some (.int .i64 (t.2:Nat))/\W.cell? ⟨w.heap.size,2,none⟩=some (.string ⟨t.1.text.toArray⟩)/\W.cell? ⟨w.heap.size,3,none⟩=some (.int .i64 t.1.n)/\W.cell? ⟨b1,0,none⟩=some (.int .i64 a.hd.kind)/\W.cell? ⟨b1,1,none⟩=some (.int .i64 a.hd.pos)/\W.cell? ⟨b1,2,none⟩=some (.string ⟨a.hd.name.toArray⟩)/\W.cell? ⟨b1,3,none⟩=some (.int .i64 a.hd.n)/\W.cell? ⟨b1,4,none⟩=some (.string ⟨a.hd.s.toArray⟩)/\W.cell? ⟨b1,5,none⟩=some (.slice s1.la a.hd.labels.length s1.lc)/\W.cell? ⟨b1,6,none⟩=some (.slice s1.aa a.args.length s1.ac)/\W.cell? ⟨b1,7,none⟩=some (.slice s1.ra a.arms.length s1.rc)) (go_keep) (first | (go_at_call 69; refine(HSC.out _ HKd.out.at_).mono ?_;rintro e Wy ⟨sy,rfl,ha,hk⟩;have HAb:Hid (IsE Wy (fun g=>(w.heap.size+1)<g) (exL b sy) b):=zb (ha.wide fun g hg=>zd (HX.out.below (zm _)).lt hg);replace HAa:=zb ((HAa.out.below (zm _)).keep hk (fun g hg=>Nat.lt_trans HPB.out hg));replace HX:=zb ((HX.out.below (zm _)).keep hk HPB.out);replace HT:=zb ((HT.out.below (zm _)).keep hk HTP.out);replace HF:=zb ((HF.out.below (zm _)).keep hk HFP.out);replace HK:=zb (HKd.out.trans hk);clear HKd HKe;obtain⟨k0,k1,k2,k3,_⟩:=TokBox.cells (HT.out);have kl:=(HT.out).lt;obtain⟨f0,f1,f2,f3,f4,f5,f6,f7,_⟩:=Box8.cells (HF.out);have fl:=(HF.out).lt;clear ha hk;unfold exOf exV) | (go_at_call 69; refine(HSC.out _ HKe.out.at_).mono ?_;rintro e Wy ⟨sy,rfl,ha,hk⟩;have HAb:=zb (ha.fresh_new (b0:=(w.heap.size+1)) (be:=W7.heap.size) (HX.out.below HZ0.out).lt HEe.out.lt);have HEZ:=zb (HEe.out.keep hk (Nat.lt_trans HPB.out HX.out.lt));replace HAa:=zb (((HAa.out.fresh zeroObj).below (zm _)).keep hk (fun g hg=>Nat.lt_trans HPB.out hg.1));replace HX:=zb ((HX.out.below HZ0.out).keep hk HPB.out);replace HT:=zb ((HT.out.below HZ0.out).keep hk HTP.out);replace HF:=zb ((HF.out.below HZ0.out).keep hk HFP.out);replace HK:=zb (HKe.out.trans hk);clear HKd HKe;obtain⟨k0,k1,k2,k3,_⟩:=TokBox.cells (HT.out);have kl:=(HT.out).lt;obtain⟨f0,f1,f2,f3,f4,f5,f6,f7,_⟩:=Box8.cells (HF.out);have fl:=(HF.out).lt;clear ha hk;unfold exOf exV) | (go_at_call 123; refine(zz 13 t (some _) 2 2 _).mono ?_;rintro e Wz ⟨rfl,hb2⟩;have HNR:=zb (zG (L:=[exL a s1,exL b sy]) (args:=[a,b]) HK.out ⟨HAa.out,HAb.out,trivial⟩ HX.out.lt (by simp) ⟨13,t.2,[],0,[],[]⟩ rfl hb2);have HTR:=zb HNR.out.1;replace HX:=zb (HX.out.below HNR.out.2.2);replace HK:=zb HNR.out.2.1;have p0:¬w.heap.size=Wz.heap.size:=(by have:=HT.out.lt;have:=HNR.out.2.2.size;omega);have q0:¬Wz.heap.size=w.heap.size:=(by omega);have p1:¬b1=Wz.heap.size:=(by have:=HF.out.lt;have:=HNR.out.2.2.size;omega);have q1:¬Wz.heap.size=b1:=(by omega);replace HT:=zb (HT.out.below HNR.out.2.2);replace HF:=zb (HF.out.below HNR.out.2.2);obtain⟨k0,k1,k2,k3,_⟩:=TokBox.cells (HT.out);have kl:=(HT.out).lt;obtain⟨f0,f1,f2,f3,f4,f5,f6,f7,_⟩:=Box8.cells (HF.out);have fl:=(HF.out).lt;clear hb2 HNR;unfold exV) | (go_at_call 123; refine(zz 13 t (some _) 2 2 _).mono ?_;rintro e Wz ⟨rfl,hb2⟩;have HNR:=zb (zJ (N:=Nb ((w.heap.size+1)) W7.heap.size) (L:=[exL a s1,exL b sy]) (args:=[a,b]) HK.out ⟨HAa.out,HAb.out,trivial⟩ ⟨HX.out.lt,Nat.ne_of_gt HEZ.out.lt⟩ (by simp) ⟨13,t.2,[],0,[],[]⟩ rfl hb2);have HTR:=zb HNR.out.1;replace HEZ:=zb (HEZ.out.below HNR.out.2.2);have HEN:Hid (w.heap.size<=W7.heap.size/\W7.heap.size≠(w.heap.size+1)):=HEN0;replace HX:=zb (HX.out.below HNR.out.2.2);replace HK:=zb HNR.out.2.1;obtain⟨x0,x1,x2,x3,x4,x5,x6,x7,xf⟩:=(Box8.cells HEZ.out);have y0:=xf 0;have y1:=xf 1;have y2:=xf 2;have y3:=xf 3;have y4:=xf 4;have y5:=xf 5;have y6:=xf 6;have y7:=xf 7;have hxl:=HEZ.out.lt;clear xf;replace HT:=zb (HT.out.below HNR.out.2.2);replace HF:=zb (HF.out.below HNR.out.2.2);obtain⟨k0,k1,k2,k3,_⟩:=TokBox.cells (HT.out);have kl:=(HT.out).lt;obtain⟨f0,f1,f2,f3,f4,f5,f6,f7,_⟩:=Box8.cells (HF.out);have fl:=(HF.out).lt;clear hb2 HNR;unfold exV) | (go_at_call 123; refine(zz 13 t (some _) 2 2 _).mono ?_;rintro e Wz ⟨rfl,hb2⟩;have HNR:=zb (zJ (N:=Nb ((w.heap.size+1)) Wy.heap.size) (L:=[exL a s1,exL b sy]) (args:=[a,b]) (HK.out.below (zj zeroObj)) ⟨HAa.out.fresh zeroObj,HAb.out.fresh zeroObj,trivial⟩ ⟨(HX.out.below (zj zeroObj)).lt,by simp⟩ (by simp) ⟨13,t.2,[],0,[],[]⟩ rfl hb2);have HTR:=zb HNR.out.1;have HEZ:=zb ((ZeroBox.new Wy).below HNR.out.2.2);replace HNR:Hid (True/\Keep w p Ry Wz/\Below Wy.heap.size Wy Wz):=zb ⟨trivial,HNR.out.2.1,(zj zeroObj).trans (HNR.out.2.2.mono (by simp))⟩;simp only[World.size_alloc] at HTR;have HEN:Hid (w.heap.size<=Wy.heap.size/\Wy.heap.size≠(w.heap.size+1)):=zb ⟨HK.out.size,by have:=HX.out.lt;omega⟩;replace HX:=zb (HX.out.below HNR.out.2.2);replace HK:=zb HNR.out.2.1;obtain⟨x0,x1,x2,x3,x4,x5,x6,x7,xf⟩:=(Box8.cells HEZ.out);have y0:=xf 0;have y1:=xf 1;have y2:=xf 2;have y3:=xf 3;have y4:=xf 4;have y5:=xf 5;have y6:=xf 6;have y7:=xf 7;have hxl:=HEZ.out.lt;clear xf;have p0:¬w.heap.size=Wy.heap.size:=(by have:=HT.out.lt;have:=HNR.out.2.2.size;omega);have q0:¬Wy.heap.size=w.heap.size:=(by omega);have p1:¬b1=Wy.heap.size:=(by have:=HF.out.lt;have:=HNR.out.2.2.size;omega);have q1:¬Wy.heap.size=b1:=(by omega);replace HT:=zb (HT.out.below HNR.out.2.2);replace HF:=zb (HF.out.below HNR.out.2.2);obtain⟨k0,k1,k2,k3,_⟩:=TokBox.cells (HT.out);have kl:=(HT.out).lt;obtain⟨f0,f1,f2,f3,f4,f5,f6,f7,_⟩:=Box8.cells (HF.out);have fl:=(HF.out).lt;clear hb2 HNR;unfold exV) | (go_at_call 123; refine(zz 13 t (some _) 2 2 _).mono ?_;rintro e Wz ⟨rfl,hb2⟩;have HN0:=zG (L:=[exL a s1,exL b sy]) (args:=[a,b]) HK.out ⟨HAa.out,HAb.out,trivial⟩ HX.out.lt (by simp) ⟨13,t.2,[],0,[],[]⟩ rfl (Below.refl _ (Wy.alloc (.cells (List.flatten [exL a s1,exL b sy]).toArray 27 (0,0))));have HTR:=zb ((HN0.1.fresh zeroObj).below hb2);have HEZ:=zb ((ZeroBox.new (Wy.alloc (.cells (List.flatten [exL a s1,exL b sy]).toArray 27 (0,0)))).below hb2);have HNR:Hid (True/\Keep w p Ry Wz/\Below Wy.heap.size Wy Wz):=zb ⟨trivial,(HN0.2.1.below (zj zeroObj)).below hb2,(HN0.2.2.trans ((zj zeroObj).mono HN0.2.2.size)).trans (hb2.mono (by simp;omega))⟩;clear HN0;simp only[World.size_alloc] at HTR HEZ;have HEN:Hid (w.heap.size<=Wy.heap.size+1/\Wy.heap.size+1≠(w.heap.size+1)):=zb ⟨by have:=HK.out.size;omega,by have:=HX.out.lt;omega⟩;replace HX:=zb (HX.out.below HNR.out.2.2);replace HK:=zb HNR.out.2.1;obtain⟨x0,x1,x2,x3,x4,x5,x6,x7,xf⟩:=(Box8.cells HEZ.out);have y0:=xf 0;have y1:=xf 1;have y2:=xf 2;have y3:=xf 3;have y4:=xf 4;have y5:=xf 5;have y6:=xf 6;have y7:=xf 7;have hxl:=HEZ.out.lt;clear xf;have p0:¬w.heap.size=(Wy.heap.size+1):=(by have:=HT.out.lt;have:=HNR.out.2.2.size;omega);have q0:¬(Wy.heap.size+1)=w.heap.size:=(by omega);have p1:¬b1=(Wy.heap.size+1):=(by have:=HF.out.lt;have:=HNR.out.2.2.size;omega);have q1:¬(Wy.heap.size+1)=b1:=(by omega);replace HT:=zb (HT.out.below HNR.out.2.2);replace HF:=zb (HF.out.below HNR.out.2.2);obtain⟨k0,k1,k2,k3,_⟩:=TokBox.cells (HT.out);have kl:=(HT.out).lt;obtain⟨f0,f1,f2,f3,f4,f5,f6,f7,_⟩:=Box8.cells (HF.out);have fl:=(HF.out).lt;clear hb2 HNR;unfold exV))
             all_goals
              first
               | (have HE:=zb (yK (h:=⟨13,t.2,[],0,[],[]⟩) (args:=[a,b]) HTR.out HK.out HLT.out HX.out.lt _ rfl);have hb5:=zj (w:=Wz) (.cells #[.int .i64 13,.int .i64 (t.2:Nat),.string ⟨#[]⟩,.int .i64 (0),.string ⟨#[]⟩,.slice none 0 0,.slice (some ⟨Wy.heap.size,0,none⟩) 2 2,.slice none 0 0] 27 (0,0));replace HX:=zb (HX.out.below hb5);replace HT:=zb (HT.out.below hb5);replace HF:=zb (HF.out.below hb5);clear hb5 HTR HK HZ0 HEe HEN0;generalize World.alloc Wz _=w5 at *)
               | (have HE9:=zb (ya (h:=⟨13,t.2,[],0,[],[]⟩) (args:=[a,b]) HEZ.out HTR.out HK.out HLT.out HEN.out.1 HEN.out.2 rfl);unfold set8 at HE9;have HE:=zb HE9.out.1;replace HX:Hid (ZeroBox _ ((w.heap.size+1))):=zb ((HE9.out.2 _ HEN.out.2.symm).trans HX.out);replace HT:Hid (TkBox _ (w.heap.size) t):=zb ((HE9.out.2 _ p0).trans HT.out);clear HE9 HTR HK HEZ HZ0 HEe HEN0 HEN;clear x0 x1 x2 x3 x4 x5 x6 x7 y0 y1 y2 y3 y4 y5 y6 y7 hxl;generalize World.setCell _ _ _=w5 at *)
              obtain⟨e0,e1,e2,e3,e4,e5,e6,e7,ef⟩:=Box8.cells HE.out.box;have g2:=ef 2;have el:=HE.out.box.lt;clear ef
              go_upto_region 11 with fail
              replace HX:=zb (HX.out.set HE.out.ne 2 (.string ⟨t4.1.text.toArray⟩));replace HE:=zb (HE.out.name t4.1.text);clear e0 e1 e2 e3 e4 e5 e6 e7 g2 el;generalize World.setCell _ _ _=w4 at *;obtain⟨t9,S9,rfl⟩:=HE.out.keep.at_.row.cons;simp only[exec] at HR;have HAC:=zb (fun W b h hb=>zE p t9 S9 [sUncurl] _ _ rfl rfl (by decide) W b h hb)
              go_wp2_with fail
              refine(HAC.out _ _ HE.out.keep.at_ (by first | rfl | simp)).mono ?_
              rintro e Wn (⟨hy,rfl,hp2,hg2⟩ | ⟨hy,rfl,hb2⟩)
              . rw[hy,if_pos rfl] at HR;have hk2:=Keep.mk hp2 hg2;replace HX:=zb (HX.out.keep hk2 HPB.out);replace HE:=zb (HE.out.more HPB.out hk2);clear hp2 hg2 hk2 HAC hy;obtain⟨e0,e1,e2,e3,e4,e5,e6,e7,ef⟩:=Box8.cells HE.out.box;have el:=HE.out.box.lt;clear ef;obtain⟨x0,x1,x2,x3,x4,x5,x6,x7,xf⟩:=(Box8.cells HX.out);have y0:=xf 0;have y1:=xf 1;have y2:=xf 2;have y3:=xf 3;have y4:=xf 4;have y5:=xf 5;have y6:=xf 6;have y7:=xf 7;have hxl:=HX.out.lt;clear xf;have HS:=zb (HE.out.ret rfl HX.out HB0.out HLT.out rfl);unfold set8 at HS;dsimp only at HS
                go_wp2_with fail
                generalize World.setCell _ _ _=w9 at *;rw[HR.out];exact zu Tryz.results227 rfl rfl (HS.out _ (Below.refl _ _))
              . rw[hy,if_neg (by decide)] at HR;have HG:=zb (zr HE.out.keep.grown hb2);clear hb2 HAC;unfold faultV
                go_wp2_with fail
                exact⟨rfl,by rw[HR.out];exact⟨t9,S9,rfl,rfl,HG.out⟩⟩
          . rw[hy,if_neg (by decide)] at HR;have HG:=zb (zr HK.out.grown hb2);clear hb2 HAC;unfold faultV
            go_wp2_with fail
            exact⟨rfl,by rw[HR.out];exact⟨t6,S6,rfl,rfl,HG.out⟩⟩
        . rw[hy,if_neg (by decide)] at HR;have HG:=zb (zr HK.out.grown hb2);clear hb2 HAC;unfold faultV
          go_wp2_with fail
          exact⟨rfl,by rw[HR.out];exact⟨t4,S4,rfl,rfl,HG.out⟩⟩
      . rw[hy,if_neg (by decide)] at HR;have HG:=zb (zr HK.out.grown hb2);clear hb2 HAC;unfold faultV
        go_wp2_with fail
        exact⟨rfl,by rw[HR.out];exact⟨t2,S2,rfl,rfl,HG.out⟩⟩
  . have B3:(t0.1.kind == 1)=false:=beq_eq_false_iff_ne.2 hk;obtain⟨g,off,cap,q0,_,l1,l2,l3,j0,j1,j2,j3⟩:=HK.out.at_.view;have jb:(0:Int)<((S0.length:Int)+1):=by omega
    have jg:g<W1.heap.size:=by have:=HX.out.lt;have:=HPB.out;omega
    replace HR:=zb (HR.out.trans (sm hy (show(isKind 1 t0&&second (isOne [sEq]) S0)=false by rw[show isKind 1 t0=false from decide_eq_false hk,Bool.false_and])))
    clear hk hy
    go_wp2_with fail
    clear q0 l1 l2 l3 j0 j1 j2 j3 jb jg B3;unfold withB need name at HR;simp only[exec] at HR;cases hr:run f .seq (t0::S0) with
    | out =>
     rw[hr] at HR;exact absurd HR.out HN.out
    | bad R9 =>
     rw[hr] at HR;refine(HHS.out (t0::S0) _ HK.out.at_ (by rw[hr];exact fun h=>by cases h)).mono ?_;rw[hr];rintro e w8 ⟨t8,S8,rfl,rfl,hg⟩;have HG:=zb (zo HK.out.grown hg);clear hg hr;unfold faultV
     go_wp2_with fail
     exact⟨rfl,by rw[HR.out];exact⟨t8,S8,rfl,rfl,HG.out⟩⟩
    | ok a R1 =>
     rw[hr] at HR;refine(HHS.out (t0::S0) _ HK.out.at_ (by rw[hr];exact fun h=>by cases h)).mono ?_;rw[hr];rintro e W1 ⟨s1,rfl,ha,hk⟩;clear hr;have HAa:Hid (IsE W1 (fun g=>(w.heap.size+1)<g) (exL a s1) a):=zb (ha.wide fun g hg=>zd HX.out.lt hg);clear ha;replace HX:=zb (HX.out.keep hk HPB.out);replace HT:=zb (HT.out.keep hk HTP.out);replace HK:=zb (HK.out.trans hk);clear hk;have hbx:=zj (w:=W1) (exObj a s1);have HF:=zb (ExBox.new W1 a s1);have HFP:Hid (p<W1.heap.size):=zb (by have:=HPB.out;have:=HX.out.lt;omega);have HFZ:Hid ((w.heap.size+1)<W1.heap.size):=zb HX.out.lt;replace HX:=zb (HX.out.below hbx);replace HT:=zb (HT.out.below hbx);replace HAa:=zb (HAa.out.below hbx);replace HK:=zb (HK.out.below hbx);clear hbx;obtain⟨t2,S2,rfl⟩:=HK.out.at_.row.cons;simp only[exec] at HR;have HAC:=zb (fun W b h hb=>zE p t2 S2 [sWith] _ _ rfl rfl (by decide) W b h hb);unfold exOf exV
     go_wp2_with fail
     refine(HAC.out _ _ HK.out.at_ (by simp)).mono ?_;rintro e W3 (⟨hy,rfl,hp2,hg2⟩ | ⟨hy,rfl,hb2⟩)
     . rw[hy,if_pos rfl] at HR;have hk2:=Keep.mk hp2 hg2;replace HX:=zb (HX.out.keep hk2 HPB.out);replace HT:=zb (HT.out.keep hk2 HTP.out);replace HF:=zb (HF.out.keep hk2 HFP.out);replace HAa:=zb (HAa.out.keep hk2 (fun g hg=>by have:=HPB.out;omega));replace HK:=zb (HK.out.trans hk2);clear hp2 hg2 hk2 HAC hy;obtain⟨t4,S4,rfl⟩:=HK.out.at_.row.cons;simp only[exec] at HR;have HAC:=zb (fun W h=>vQ p t4 S4 W h);unfold tokVal tokAgg
       go_wp2_with fail
       refine(HAC.out _ HK.out.at_).mono ?_;rintro e W5 (⟨hy,rfl,hp2,hg2⟩ | ⟨hy,rfl,hb2⟩)
       . rw[hy,if_pos rfl] at HR;have hk2:=Keep.mk hp2 hg2;replace HX:=zb (HX.out.keep hk2 HPB.out);replace HT:=zb (HT.out.keep hk2 HTP.out);replace HF:=zb (HF.out.keep hk2 HFP.out);replace HAa:=zb (HAa.out.keep hk2 (fun g hg=>by have:=HPB.out;omega));replace HK:=zb (HK.out.trans hk2);clear hy hp2 hg2 hk2 HAC;obtain⟨t6,S6,rfl⟩:=HK.out.at_.row.cons;simp only[exec] at HR;have HAC:=zb (fun W b h hb=>zE p t6 S6 [sEq] _ _ rfl rfl (by decide) W b h hb)
         go_wp2_with fail
         refine(HAC.out _ _ HK.out.at_ (by simp)).mono ?_;rintro e W7 (⟨hy,rfl,hp2,hg2⟩ | ⟨hy,rfl,hb2⟩)
         . rw[hy,if_pos rfl] at HR;have hk2:=Keep.mk hp2 hg2;replace HX:=zb (HX.out.keep hk2 HPB.out);replace HT:=zb (HT.out.keep hk2 HTP.out);replace HF:=zb (HF.out.keep hk2 HFP.out);replace HAa:=zb (HAa.out.keep hk2 (fun g hg=>by have:=HPB.out;omega));replace HK:=zb (HK.out.trans hk2);clear hp2 hg2 hk2 HAC hy;unfold tokVal tokAgg
           go_upto_region 9 with fail
           generalize hb1:W1.heap.size=b1 at *;clear hb1;have HKd:=zb (HK.out.below (zm _));have hz0:Below W7.heap.size W7 (W7.alloc zeroObj).drew:=(zj zeroObj).trans ((zm _).mono (by simp));have HZ0:=zb hz0;have HKe:=zb (HK.out.below hz0);have HEe:=zb ((ZeroBox.new W7).below (zm _));clear hz0;obtain⟨k0,k1,k2,k3,_⟩:=TokBox.cells (HT.out);have kl:=(HT.out).lt;have n0:¬w.heap.size=(w.heap.size+1):=by skip;omega
           have m0:¬(w.heap.size+1)=w.heap.size:=by skip;omega
           have p0:¬w.heap.size=W7.heap.size:=by omega
           have q0:¬W7.heap.size=w.heap.size:=by omega
           obtain⟨f0,f1,f2,f3,f4,f5,f6,f7,_⟩:=Box8.cells (HF.out);have fl:=(HF.out).lt;have n1:¬b1=(w.heap.size+1):=by have:=HFZ.out;omega
           have m1:¬(w.heap.size+1)=b1:=by have:=HFZ.out;omega
           have p1:¬b1=W7.heap.size:=by omega
           have q1:¬W7.heap.size=b1:=by omega
           cases hr:run f .seq S6 with
           | out =>
            rw[hr] at HR;exact absurd HR.out HN.out
           | bad R9 =>
            rw[hr] at HR;have HSC:Hid (∀ W,PAt W p S6->Calls Tryz.prog 69 #[ptrV p] W (Told (.bad R9) W p)):=zb (fun W h=>by
             have:=HHS.out S6 W h (by rw[hr];exact fun h=>by cases h)
             rwa [hr] at this)
            clear hr
            go_region_dies
            all_goals first | (refine(HSC.out _ HKd.out.at_).mono ?_;rintro e w8 ⟨t8,S8,rfl,rfl,hg⟩;have HG:=zb (zo HKd.out.grown hg);exact⟨rfl,by rw[HR.out];exact⟨t8,S8,rfl,rfl,HG.out⟩⟩) | (refine(HSC.out _ HKe.out.at_).mono ?_;rintro e w8 ⟨t8,S8,rfl,rfl,hg⟩;have HG:=zb (zo HKe.out.grown hg);exact⟨rfl,by rw[HR.out];exact⟨t8,S8,rfl,rfl,HG.out⟩⟩)
           | ok b Ry =>
            rw[hr] at HR;have HSC:Hid (∀ W,PAt W p S6->Calls Tryz.prog 69 #[ptrV p] W (Told (.ok b Ry) W p)):=zb (fun W h=>by
             have:=HHS.out S6 W h (by rw[hr];exact fun h=>by cases h)
             rwa [hr] at this)
            clear hr;have HEN0:Hid (w.heap.size<=W7.heap.size/\W7.heap.size≠(w.heap.size+1)):=zb ⟨HK.out.size,by have:=HX.out.lt;omega⟩
            go_region_held3 (fun W=>W.cell? ⟨w.heap.size,0,none⟩=some (.int .i64 t.1.kind)/\W.cell? ⟨w.heap.size,1,none⟩=some (.int .i64 (t.2:Nat))/\W.cell? ⟨w.heap.size,2,none⟩=some (.string ⟨t.1.text.toArray⟩)/\W.cell? ⟨w.heap.size,3,none⟩=some (.int .i64 t.1.n)/\W.cell? ⟨b1,0,none⟩=some (.int .i64 a.hd.kind)/\W.cell? ⟨b1,1,none⟩=some (.int .i64 a.hd.pos)/\W.cell? ⟨b1,2,none⟩=some (.string ⟨a.hd.name.toArray⟩)/\W.cell? ⟨b1,3,none⟩=some (.int .i64 a.hd.n)/\W.cell? ⟨b1,4,none⟩=some (.string ⟨a.hd.s.toArray⟩)/\W.cell? ⟨b1,5,none⟩=some (.slice s1.la a.hd.labels.length s1.lc)/\W.cell? ⟨b1,6,none⟩=some (.slice s1.aa a.args.length s1.ac)/\W.cell? ⟨b1,7,none⟩=some (.slice s1.ra a.arms.length s1.rc)) (go_keep) (first | (go_at_call 69; refine(HSC.out _ HKd.out.at_).mono ?_;rintro e Wy ⟨sy,rfl,ha,hk⟩;have HAb:Hid (IsE Wy (fun g=>(w.heap.size+1)<g) (exL b sy) b):=zb (ha.wide fun g hg=>zd (HX.out.below (zm _)).lt hg);replace HAa:=zb ((HAa.out.below (zm _)).keep hk (fun g hg=>Nat.lt_trans HPB.out hg));replace HX:=zb ((HX.out.below (zm _)).keep hk HPB.out);replace HT:=zb ((HT.out.below (zm _)).keep hk HTP.out);replace HF:=zb ((HF.out.below (zm _)).keep hk HFP.out);replace HK:=zb (HKd.out.trans hk);clear HKd HKe;obtain⟨k0,k1,k2,k3,_⟩:=TokBox.cells (HT.out);have kl:=(HT.out).lt;obtain⟨f0,f1,f2,f3,f4,f5,f6,f7,_⟩:=Box8.cells (HF.out);have fl:=(HF.out).lt;clear ha hk;unfold exOf exV) | (go_at_call 69; refine(HSC.out _ HKe.out.at_).mono ?_;rintro e Wy ⟨sy,rfl,ha,hk⟩;have HAb:=zb (ha.fresh_new (b0:=(w.heap.size+1)) (be:=W7.heap.size) (HX.out.below HZ0.out).lt HEe.out.lt);have HEZ:=zb (HEe.out.keep hk (Nat.lt_trans HPB.out HX.out.lt));replace HAa:=zb (((HAa.out.fresh zeroObj).below (zm _)).keep hk (fun g hg=>Nat.lt_trans HPB.out hg.1));replace HX:=zb ((HX.out.below HZ0.out).keep hk HPB.out);replace HT:=zb ((HT.out.below HZ0.out).keep hk HTP.out);replace HF:=zb ((HF.out.below HZ0.out).keep hk HFP.out);replace HK:=zb (HKe.out.trans hk);clear HKd HKe;obtain⟨k0,k1,k2,k3,_⟩:=TokBox.cells (HT.out);have kl:=(HT.out).lt;obtain⟨f0,f1,f2,f3,f4,f5,f6,f7,_⟩:=Box8.cells (HF.out);have fl:=(HF.out).lt;clear ha hk;unfold exOf exV) | (go_at_call 123; refine(zz 13 t (some _) 2 2 _).mono ?_;rintro e Wz ⟨rfl,hb2⟩;have HNR:=zb (zG (L:=[exL a s1,exL b sy]) (args:=[a,b]) HK.out ⟨HAa.out,HAb.out,trivial⟩ HX.out.lt (by simp) ⟨13,t.2,[],0,[],[]⟩ rfl hb2);have HTR:=zb HNR.out.1;replace HX:=zb (HX.out.below HNR.out.2.2);replace HK:=zb HNR.out.2.1;have p0:¬w.heap.size=Wz.heap.size:=(by have:=HT.out.lt;have:=HNR.out.2.2.size;omega);have q0:¬Wz.heap.size=w.heap.size:=(by omega);have p1:¬b1=Wz.heap.size:=(by have:=HF.out.lt;have:=HNR.out.2.2.size;omega);have q1:¬Wz.heap.size=b1:=(by omega);replace HT:=zb (HT.out.below HNR.out.2.2);replace HF:=zb (HF.out.below HNR.out.2.2);obtain⟨k0,k1,k2,k3,_⟩:=TokBox.cells (HT.out);have kl:=(HT.out).lt;obtain⟨f0,f1,f2,f3,f4,f5,f6,f7,_⟩:=Box8.cells (HF.out);have fl:=(HF.out).lt;clear hb2 HNR;unfold exV) | (go_at_call 123; refine(zz 13 t (some _) 2 2 _).mono ?_;rintro e Wz ⟨rfl,hb2⟩;have HNR:=zb (zJ (N:=Nb ((w.heap.size+1)) W7.heap.size) (L:=[exL a s1,exL b sy]) (args:=[a,b]) HK.out ⟨HAa.out,HAb.out,trivial⟩ ⟨HX.out.lt,Nat.ne_of_gt HEZ.out.lt⟩ (by simp) ⟨13,t.2,[],0,[],[]⟩ rfl hb2);have HTR:=zb HNR.out.1;replace HEZ:=zb (HEZ.out.below HNR.out.2.2);have HEN:Hid (w.heap.size<=W7.heap.size/\W7.heap.size≠(w.heap.size+1)):=HEN0;replace HX:=zb (HX.out.below HNR.out.2.2);replace HK:=zb HNR.out.2.1;obtain⟨x0,x1,x2,x3,x4,x5,x6,x7,xf⟩:=(Box8.cells HEZ.out);have y0:=xf 0;have y1:=xf 1;have y2:=xf 2;have y3:=xf 3;have y4:=xf 4;have y5:=xf 5;have y6:=xf 6;have y7:=xf 7;have hxl:=HEZ.out.lt;clear xf;replace HT:=zb (HT.out.below HNR.out.2.2);replace HF:=zb (HF.out.below HNR.out.2.2);obtain⟨k0,k1,k2,k3,_⟩:=TokBox.cells (HT.out);have kl:=(HT.out).lt;obtain⟨f0,f1,f2,f3,f4,f5,f6,f7,_⟩:=Box8.cells (HF.out);have fl:=(HF.out).lt;clear hb2 HNR;unfold exV) | (go_at_call 123; refine(zz 13 t (some _) 2 2 _).mono ?_;rintro e Wz ⟨rfl,hb2⟩;have HNR:=zb (zJ (N:=Nb ((w.heap.size+1)) Wy.heap.size) (L:=[exL a s1,exL b sy]) (args:=[a,b]) (HK.out.below (zj zeroObj)) ⟨HAa.out.fresh zeroObj,HAb.out.fresh zeroObj,trivial⟩ ⟨(HX.out.below (zj zeroObj)).lt,by simp⟩ (by simp) ⟨13,t.2,[],0,[],[]⟩ rfl hb2);have HTR:=zb HNR.out.1;have HEZ:=zb ((ZeroBox.new Wy).below HNR.out.2.2);replace HNR:Hid (True/\Keep w p Ry Wz/\Below Wy.heap.size Wy Wz):=zb ⟨trivial,HNR.out.2.1,(zj zeroObj).trans (HNR.out.2.2.mono (by simp))⟩;simp only[World.size_alloc] at HTR;have HEN:Hid (w.heap.size<=Wy.heap.size/\Wy.heap.size≠(w.heap.size+1)):=zb ⟨HK.out.size,by have:=HX.out.lt;omega⟩;replace HX:=zb (HX.out.below HNR.out.2.2);replace HK:=zb HNR.out.2.1;obtain⟨x0,x1,x2,x3,x4,x5,x6,x7,xf⟩:=(Box8.cells HEZ.out);have y0:=xf 0;have y1:=xf 1;have y2:=xf 2;have y3:=xf 3;have y4:=xf 4;have y5:=xf 5;have y6:=xf 6;have y7:=xf 7;have hxl:=HEZ.out.lt;clear xf;have p0:¬w.heap.size=Wy.heap.size:=(by have:=HT.out.lt;have:=HNR.out.2.2.size;omega);have q0:¬Wy.heap.size=w.heap.size:=(by omega);have p1:¬b1=Wy.heap.size:=(by have:=HF.out.lt;have:=HNR.out.2.2.size;omega);have q1:¬Wy.heap.size=b1:=(by omega);replace HT:=zb (HT.out.below HNR.out.2.2);replace HF:=zb (HF.out.below HNR.out.2.2);obtain⟨k0,k1,k2,k3,_⟩:=TokBox.cells (HT.out);have kl:=(HT.out).lt;obtain⟨f0,f1,f2,f3,f4,f5,f6,f7,_⟩:=Box8.cells (HF.out);have fl:=(HF.out).lt;clear hb2 HNR;unfold exV) | (go_at_call 123; refine(zz 13 t (some _) 2 2 _).mono ?_;rintro e Wz ⟨rfl,hb2⟩;have HN0:=zG (L:=[exL a s1,exL b sy]) (args:=[a,b]) HK.out ⟨HAa.out,HAb.out,trivial⟩ HX.out.lt (by simp) ⟨13,t.2,[],0,[],[]⟩ rfl (Below.refl _ (Wy.alloc (.cells (List.flatten [exL a s1,exL b sy]).toArray 27 (0,0))));have HTR:=zb ((HN0.1.fresh zeroObj).below hb2);have HEZ:=zb ((ZeroBox.new (Wy.alloc (.cells (List.flatten [exL a s1,exL b sy]).toArray 27 (0,0)))).below hb2);have HNR:Hid (True/\Keep w p Ry Wz/\Below Wy.heap.size Wy Wz):=zb ⟨trivial,(HN0.2.1.below (zj zeroObj)).below hb2,(HN0.2.2.trans ((zj zeroObj).mono HN0.2.2.size)).trans (hb2.mono (by simp;omega))⟩;clear HN0;simp only[World.size_alloc] at HTR HEZ;have HEN:Hid (w.heap.size<=Wy.heap.size+1/\Wy.heap.size+1≠(w.heap.size+1)):=zb ⟨by have:=HK.out.size;omega,by have:=HX.out.lt;omega⟩;replace HX:=zb (HX.out.below HNR.out.2.2);replace HK:=zb HNR.out.2.1;obtain⟨x0,x1,x2,x3,x4,x5,x6,x7,xf⟩:=(Box8.cells HEZ.out);have y0:=xf 0;have y1:=xf 1;have y2:=xf 2;have y3:=xf 3;have y4:=xf 4;have y5:=xf 5;have y6:=xf 6;have y7:=xf 7;have hxl:=HEZ.out.lt;clear xf;have p0:¬w.heap.size=(Wy.heap.size+1):=(by have:=HT.out.lt;have:=HNR.out.2.2.size;omega);have q0:¬(Wy.heap.size+1)=w.heap.size:=(by omega);have p1:¬b1=(Wy.heap.size+1):=(by have:=HF.out.lt;have:=HNR.out.2.2.size;omega);have q1:¬(Wy.heap.size+1)=b1:=(by omega);replace HT:=zb (HT.out.below HNR.out.2.2);replace HF:=zb (HF.out.below HNR.out.2.2);obtain⟨k0,k1,k2,k3,_⟩:=TokBox.cells (HT.out);have kl:=(HT.out).lt;obtain⟨f0,f1,f2,f3,f4,f5,f6,f7,_⟩:=Box8.cells (HF.out);have fl:=(HF.out).lt;clear hb2 HNR;unfold exV))
            all_goals
             first
              | (have HE:=zb (yK (h:=⟨13,t.2,[],0,[],[]⟩) (args:=[a,b]) HTR.out HK.out HLT.out HX.out.lt _ rfl);have hb5:=zj (w:=Wz) (.cells #[.int .i64 13,.int .i64 (t.2:Nat),.string ⟨#[]⟩,.int .i64 (0),.string ⟨#[]⟩,.slice none 0 0,.slice (some ⟨Wy.heap.size,0,none⟩) 2 2,.slice none 0 0] 27 (0,0));replace HX:=zb (HX.out.below hb5);replace HT:=zb (HT.out.below hb5);replace HF:=zb (HF.out.below hb5);clear hb5 HTR HK HZ0 HEe HEN0;generalize World.alloc Wz _=w5 at *)
              | (have HE9:=zb (ya (h:=⟨13,t.2,[],0,[],[]⟩) (args:=[a,b]) HEZ.out HTR.out HK.out HLT.out HEN.out.1 HEN.out.2 rfl);unfold set8 at HE9;have HE:=zb HE9.out.1;replace HX:Hid (ZeroBox _ ((w.heap.size+1))):=zb ((HE9.out.2 _ HEN.out.2.symm).trans HX.out);replace HT:Hid (TkBox _ (w.heap.size) t):=zb ((HE9.out.2 _ p0).trans HT.out);clear HE9 HTR HK HEZ HZ0 HEe HEN0 HEN;clear x0 x1 x2 x3 x4 x5 x6 x7 y0 y1 y2 y3 y4 y5 y6 y7 hxl;generalize World.setCell _ _ _=w5 at *)
             obtain⟨e0,e1,e2,e3,e4,e5,e6,e7,ef⟩:=Box8.cells HE.out.box;have g2:=ef 2;have el:=HE.out.box.lt;clear ef
             go_upto_region 11 with fail
             replace HX:=zb (HX.out.set HE.out.ne 2 (.string ⟨t4.1.text.toArray⟩));replace HE:=zb (HE.out.name t4.1.text);clear e0 e1 e2 e3 e4 e5 e6 e7 g2 el;generalize World.setCell _ _ _=w4 at *;obtain⟨t9,S9,rfl⟩:=HE.out.keep.at_.row.cons;simp only[exec] at HR;have HAC:=zb (fun W b h hb=>zE p t9 S9 [sUncurl] _ _ rfl rfl (by decide) W b h hb)
             go_wp2_with fail
             refine(HAC.out _ _ HE.out.keep.at_ (by first | rfl | simp)).mono ?_
             rintro e Wn (⟨hy,rfl,hp2,hg2⟩ | ⟨hy,rfl,hb2⟩)
             . rw[hy,if_pos rfl] at HR;have hk2:=Keep.mk hp2 hg2;replace HX:=zb (HX.out.keep hk2 HPB.out);replace HE:=zb (HE.out.more HPB.out hk2);clear hp2 hg2 hk2 HAC hy;obtain⟨e0,e1,e2,e3,e4,e5,e6,e7,ef⟩:=Box8.cells HE.out.box;have el:=HE.out.box.lt;clear ef;obtain⟨x0,x1,x2,x3,x4,x5,x6,x7,xf⟩:=(Box8.cells HX.out);have y0:=xf 0;have y1:=xf 1;have y2:=xf 2;have y3:=xf 3;have y4:=xf 4;have y5:=xf 5;have y6:=xf 6;have y7:=xf 7;have hxl:=HX.out.lt;clear xf;have HS:=zb (HE.out.ret rfl HX.out HB0.out HLT.out rfl);unfold set8 at HS;dsimp only at HS
               go_wp2_with fail
               generalize World.setCell _ _ _=w9 at *;rw[HR.out];exact zu Tryz.results227 rfl rfl (HS.out _ (Below.refl _ _))
             . rw[hy,if_neg (by decide)] at HR;have HG:=zb (zr HE.out.keep.grown hb2);clear hb2 HAC;unfold faultV
               go_wp2_with fail
               exact⟨rfl,by rw[HR.out];exact⟨t9,S9,rfl,rfl,HG.out⟩⟩
         . rw[hy,if_neg (by decide)] at HR;have HG:=zb (zr HK.out.grown hb2);clear hb2 HAC;unfold faultV
           go_wp2_with fail
           exact⟨rfl,by rw[HR.out];exact⟨t6,S6,rfl,rfl,HG.out⟩⟩
       . rw[hy,if_neg (by decide)] at HR;have HG:=zb (zr HK.out.grown hb2);clear hb2 HAC;unfold faultV
         go_wp2_with fail
         exact⟨rfl,by rw[HR.out];exact⟨t4,S4,rfl,rfl,HG.out⟩⟩
     . rw[hy,if_neg (by decide)] at HR;have HG:=zb (zr HK.out.grown hb2);clear hb2 HAC;unfold faultV
       go_wp2_with fail
       exact⟨rfl,by rw[HR.out];exact⟨t2,S2,rfl,rfl,HG.out⟩⟩
