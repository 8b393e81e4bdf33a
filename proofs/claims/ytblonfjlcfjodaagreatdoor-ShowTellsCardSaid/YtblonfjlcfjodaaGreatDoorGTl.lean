/-
  The walk of the document's May.
-/
import Derived.Test.YtblonfjlcfjodaaGreatDoorJTe
namespace Go.Proofs.YtblonfjlcfjodaaGreatDoor
set_option linter.unusedSimpArgs false
set_option linter.unusedVariables false
set_option maxRecDepth 100000
set_option maxHeartbeats 4000000
section
open Go.RowKit
theorem zgk (x:Nd) (s:Sl) (w:World) (hn:x.hd.name.length<=900000) (hl:∀ l∈x.hd.labels,l.length<=900000) (hx:IsE w (fun _=>True) (exL x s) x)
 (hrec:∀ a∈x.args,∀(t:Sl) (W:World),IsE W (fun _=>True) (exL a t) a->Calls Tryz.prog 45 #[exOf a t] W (YesMade (mayD a) W))
 (hpat:∀ c∈x.arms,∀(t:Sl) (W:World),IsP W (fun _=>True) (paL c.1 t) c.1->Calls Tryz.prog 51 #[paOf c.1 t] W (YesMade (patMayD c.1) W))
 (hbod:∀ c∈x.arms,∀(t:Sl) (W:World),IsE W (fun _=>True) (exL c.2 t) c.2->Calls Tryz.prog 45 #[exOf c.2 t] W (YesMade (mayD c.2) W))
 : Calls Tryz.prog 45 #[exOf x s] w (YesMade (mayD x) w):=by
 have HX:=zb hx;have HREC:=zb hrec;have HPAT:=zb hpat;have HBOD:=zb hbod;have HT:=zb (zg9 x);have HF:Hid (∀ W,Below w.heap.size w W->Calls Tryz.prog 85 #[exOf x s] W (YesMade (formD x) W)):=zb fun W hW=>t_form x s W hn hl (hx.below hW);generalize formD x=fb at *;clear hx hrec hpat hbod hn hl;unfold exOf exV at HF;unfold exOf exV
 go_enter Tryz.func45, Tryz.ntmps45
 go_upto_region 1 with fail
 obtain⟨W0,hW0⟩:∃ W,w.alloc (.cells #[.int .i64 x.hd.kind,.int .i64 x.hd.pos,.string ⟨x.hd.name.toArray⟩,.int .i64 x.hd.n,.string ⟨x.hd.s.toArray⟩,.slice s.la x.hd.labels.length s.lc,.slice s.aa x.args.length s.ac,.slice s.ra x.arms.length s.rc] 27 (0,0))=W:=⟨_,rfl⟩;have HB0:Hid (Below w.heap.size w W0):=zb (by rw[← hW0];exact zj _);have HPX:Hid (ExBox W0 w.heap.size x s):=zb (by rw[← hW0];exact zA w _ _ rfl);rw[hW0];clear hW0;generalize hbx:w.heap.size=bx at HPX ⊢;clear hbx;obtain⟨a0,a1,a2,a3,a4,a5,a6,a7,af⟩:=Box8.cells HPX.out;have al:=HPX.out.lt;clear af
 go_wp2_with fail
 refine(HF.out _ HB0.out).mono ?_;rintro e w1 ⟨rfl,hb1⟩;have HB1:=zb (HB0.out.trans (hb1.mono HB0.out.size));have HP1:=zb (Box8.below HPX.out hb1);have HX1:=zb (HX.out.below HB1.out);clear hb1 HPX HF HX HB0 a0 a1 a2 a3 a4 a5 a6 a7 al;cases fb
 . have HR:Hid (mayD x=false):=zb (by rw[HT.out];rfl);clear HT
   go_wp2_with fail
   go_ret;exact⟨by rw[HR.out];rfl,HB1.out⟩
 have HLE:Hid (x.args.length<=9223372036854775807/\x.arms.length<=9223372036854775807):=zb ⟨HX1.out.look.2.2.1,HX1.out.look.2.2.2.1⟩;have HZ:=zb (Below.refl w1.heap.size w1)
 go_upto_region 4 with fail
 go_loopw [3] (fun vi wr=>∃ k:Nat,k<=x.args.length/\vi=.int .i64 k/\Hid (Below w1.heap.size w1 wr)/\Hid ((x.args.take k).all mayD=true)) (fun vi _=>x.args.length-(intOf vi).toNat)
 case atStart=>exact⟨0,Nat.zero_le _,by go_num,HZ,zb rfl⟩
 case round =>
  clear HZ;obtain⟨k,hk1,rfl,HV,HAL⟩:=hrel;obtain⟨a0,a1,a2,a3,a4,a5,a6,a7,af⟩:=Box8.cells (Box8.below HP1.out HV.out);have al:=Box8.lt (Box8.below HP1.out HV.out);clear af;by_cases hk2:k<x.args.length
  . have h2:decide ((k:Int)<(x.args.length:Int))=true:=decide_eq_true (by omega);have h3:(k:Int)<(x.args.length:Int):=by omega
    have h4:(0:Int)<=(k:Int):=by omega
    have E5:IntKind.i64.wrap ((k:Int)+1)=(k:Int)+1:=by rw[IntKind.wrap_i64];have:=HLE.out.1;omega
    obtain⟨ca,hca⟩:∃ a,x.args[k]? = some a:=⟨_,List.getElem?_eq_getElem hk2⟩;obtain⟨g1,o1,t1,e1,l1,i1,c1⟩:=(HX1.out.below HV.out).look.2.2.2.2.1 k ca hca;rw[e1] at a6;have x0:=c1 0 _ rfl;have x1:=c1 1 _ rfl;have x2:=c1 2 _ rfl;have x3:=c1 3 _ rfl;have x4:=c1 4 _ rfl;have x5:=c1 5 _ rfl;have x6:=c1 6 _ rfl;have x7:=c1 7 _ rfl;rw[Nat.add_zero] at x0;have HC:=zb (HREC.out ca (List.mem_of_getElem? hca) t1 wr i1);have HN:=zb (zfL hca HAL.out);have HAF:Hid (x.args.all mayD=false->mayD x=false):=zb (fun h=>by rw[HT.out,h];rfl);clear c1 e1 i1 hca HAL;generalize mayD ca=b at *;unfold exOf exV at HC
    go_wp2_with fail
    refine HC.out.mono ?_;rintro e w6 ⟨rfl,hb6⟩;have HV6:=zb (HV.out.trans (hb6.mono HV.out.size));clear hb6 HC;cases b
    . have HR:Hid (mayD x=false):=zb (HAF.out (HN.out.2 rfl));clear HN HAF HT
      go_wp2_with fail
      go_ret;exact⟨by rw[HR.out];rfl,HB1.out.trans (HV6.out.mono HB1.out.size)⟩
    . have HN2:=zb (HN.out.1 rfl);clear HN HAF
      go_wp2_with fail
      go_roundw
      case rel=>exact⟨k+1,by omega,by go_num,HV6,HN2⟩
      case measure=>simp [intOf];omega
  . have h2:decide ((k:Int)<(x.args.length:Int))=false:=decide_eq_false (by omega);have h3:¬(k:Int)<(x.args.length:Int):=by omega
    have HT:Hid (mayD x=x.arms.all fun q=>patMayD q.1&&mayD q.2):=zb (by rw[HT.out,zge (by omega) HAL.out];rfl);clear HAL
    go_upto_region 9 with fail
    clear h2 h3 a0 a1 a2 a3 a4 a5 a6 a7 al;have HZV:=HV
    go_loopw [4] (fun vi wr=>∃ k:Nat,k<=x.arms.length/\vi=.int .i64 k/\Hid (Below w1.heap.size w1 wr)/\Hid ((x.arms.take k).all (fun q=>patMayD q.1&&mayD q.2)=true)) (fun vi _=>x.arms.length-(intOf vi).toNat)
    case atStart=>exact⟨0,Nat.zero_le _,by go_num,HZV,zb rfl⟩
    case round =>
     clear HZV HV;obtain⟨k,hk1,rfl,HV,HAL⟩:=hrel;obtain⟨a0,a1,a2,a3,a4,a5,a6,a7,af⟩:=Box8.cells (Box8.below HP1.out HV.out);have al:=Box8.lt (Box8.below HP1.out HV.out);clear af;by_cases hk2:k<x.arms.length
     . have h2:decide ((k:Int)<(x.arms.length:Int))=true:=decide_eq_true (by omega);have h3:(k:Int)<(x.arms.length:Int):=by omega
       have h4:(0:Int)<=(k:Int):=by omega
       have E5:IntKind.i64.wrap ((k:Int)+1)=(k:Int)+1:=by rw[IntKind.wrap_i64];have:=HLE.out.2;omega
       obtain⟨ca,hca⟩:∃ a,x.arms[k]? = some a:=⟨_,List.getElem?_eq_getElem hk2⟩;obtain⟨g1,o1,t1,r1,e1,l1,i1,j1,c1⟩:=(HX1.out.below HV.out).look.2.2.2.2.2 k ca hca;rw[e1] at a7;have y0:=c1 0 _ rfl;have y1:=c1 1 _ rfl;have y2:=c1 2 _ rfl;have y3:=c1 3 _ rfl;have y4:=c1 4 _ rfl;have y5:=c1 5 _ rfl;have y6:=c1 6 _ rfl;have y7:=c1 7 _ rfl;have y8:=c1 8 _ rfl;have y9:=c1 9 _ rfl;have y10:=c1 10 _ rfl;have y11:=c1 11 _ rfl;have y12:=c1 12 _ rfl;have y13:=c1 13 _ rfl;have y14:=c1 14 _ rfl;rw[Nat.add_zero] at y0;have HCP:=zb (fun W (h:Below wr.heap.size wr W)=>HPAT.out ca (List.mem_of_getElem? hca) t1 W (i1.below h));have HCB:=zb (fun W (h:Below wr.heap.size wr W)=>HBOD.out ca (List.mem_of_getElem? hca) r1 W (j1.below h));have HN:=zb (zfL hca HAL.out);have HAF:Hid (x.arms.all (fun q=>patMayD q.1&&mayD q.2)=false->mayD x=false):=zb (fun h=>by rw[HT.out,h]);clear c1 e1 i1 j1 hca HAL;generalize patMayD ca.1=pb at *;generalize mayD ca.2=eb at *;unfold paOf at HCP;unfold exOf exV at HCB;have HRF:=zb (Below.refl wr.heap.size wr);cases pb
       . have HR:Hid (mayD x=false):=zb (HAF.out (HN.out.2 rfl));clear HN HAF HT HCB
         go_upto_region 11 with fail
         go_wp2_with (first | (go_at_call 51; refine(HCP.out _ (Below.refl _ _)).mono ?_;rintro e w6 ⟨rfl,hb6⟩;have HV6:=zb (HV.out.trans (hb6.mono HV.out.size));clear hb6))
         go_ret;exact⟨by rw[HR.out];rfl,HB1.out.trans (HV6.out.mono HB1.out.size)⟩
       . have HCK:Hid (∀ W,Below wr.heap.size wr W->W.cell? ⟨bx,7,none⟩=some (.slice (some ⟨g1,o1,none⟩) x.arms.length s.rc)/\W.cell? ⟨g1,o1+k*15,none⟩=some (.int .i64 ca.1.hd.kind)/\W.cell? ⟨g1,o1+k*15+1,none⟩=some (.int .i64 ca.1.hd.pos)/\W.cell? ⟨g1,o1+k*15+2,none⟩=some (.string ⟨ca.1.hd.name.toArray⟩)/\W.cell? ⟨g1,o1+k*15+3,none⟩=some (.int .i64 ca.1.hd.n)/\W.cell? ⟨g1,o1+k*15+4,none⟩=some (.string ⟨ca.1.hd.s.toArray⟩)/\W.cell? ⟨g1,o1+k*15+5,none⟩=some (.slice t1.la ca.1.hd.labels.length t1.lc)/\W.cell? ⟨g1,o1+k*15+6,none⟩=some (.slice t1.aa ca.1.args.length t1.ac)/\W.cell? ⟨g1,o1+k*15+7,none⟩=some (.int .i64 ca.2.hd.kind)/\W.cell? ⟨g1,o1+k*15+8,none⟩=some (.int .i64 ca.2.hd.pos)/\W.cell? ⟨g1,o1+k*15+9,none⟩=some (.string ⟨ca.2.hd.name.toArray⟩)/\W.cell? ⟨g1,o1+k*15+10,none⟩=some (.int .i64 ca.2.hd.n)/\W.cell? ⟨g1,o1+k*15+11,none⟩=some (.string ⟨ca.2.hd.s.toArray⟩)/\W.cell? ⟨g1,o1+k*15+12,none⟩=some (.slice r1.la ca.2.hd.labels.length r1.lc)/\W.cell? ⟨g1,o1+k*15+13,none⟩=some (.slice r1.aa ca.2.args.length r1.ac)/\W.cell? ⟨g1,o1+k*15+14,none⟩=some (.slice r1.ra ca.2.arms.length r1.rc)):=zb (fun W h=>⟨(ze (w:=wr) (a:=⟨bx,_,none⟩) (h.block bx al)).trans a7,(ze (w:=wr) (a:=⟨g1,_,none⟩) (h.block g1 l1)).trans y0,(ze (w:=wr) (a:=⟨g1,_,none⟩) (h.block g1 l1)).trans y1,(ze (w:=wr) (a:=⟨g1,_,none⟩) (h.block g1 l1)).trans y2,(ze (w:=wr) (a:=⟨g1,_,none⟩) (h.block g1 l1)).trans y3,(ze (w:=wr) (a:=⟨g1,_,none⟩) (h.block g1 l1)).trans y4,(ze (w:=wr) (a:=⟨g1,_,none⟩) (h.block g1 l1)).trans y5,(ze (w:=wr) (a:=⟨g1,_,none⟩) (h.block g1 l1)).trans y6,(ze (w:=wr) (a:=⟨g1,_,none⟩) (h.block g1 l1)).trans y7,(ze (w:=wr) (a:=⟨g1,_,none⟩) (h.block g1 l1)).trans y8,(ze (w:=wr) (a:=⟨g1,_,none⟩) (h.block g1 l1)).trans y9,(ze (w:=wr) (a:=⟨g1,_,none⟩) (h.block g1 l1)).trans y10,(ze (w:=wr) (a:=⟨g1,_,none⟩) (h.block g1 l1)).trans y11,(ze (w:=wr) (a:=⟨g1,_,none⟩) (h.block g1 l1)).trans y12,(ze (w:=wr) (a:=⟨g1,_,none⟩) (h.block g1 l1)).trans y13,(ze (w:=wr) (a:=⟨g1,_,none⟩) (h.block g1 l1)).trans y14⟩);have hcases:eb=true∨eb=false:=by cases eb <;> simp
         go_upto_region 11 with fail
         rcases hcases with rfl | rfl
         . have HN2:=zb (HN.out.1 rfl);clear HN HAF
           go_wp2_with (first
            | (go_at_call 51; refine(HCP.out _ (Below.refl _ _)).mono ?_;rintro e w6 ⟨rfl,hb6⟩;have HB6:=zb hb6;have HV6:=zb (HV.out.trans (hb6.mono HV.out.size));clear hb6;obtain⟨za,z0,z1,z2,z3,z4,z5,z6,z7,z8,z9,z10,z11,z12,z13,z14⟩:=HCK.out _ HB6.out)
            | (go_at_call 45; refine(HCB.out _ HB6.out).mono ?_;rintro e w7 ⟨rfl,hb7⟩;have HV7:=zb (HV6.out.trans (hb7.mono HV6.out.size));clear hb7))
           go_roundw
           case rel=>exact⟨k+1,by omega,by go_num,HV7,HN2⟩
           case measure=>simp [intOf];omega
         . have HR:Hid (mayD x=false):=zb (HAF.out (HN.out.2 rfl));clear HN HAF HT
           go_wp2_with (first
            | (go_at_call 51; refine(HCP.out _ (Below.refl _ _)).mono ?_;rintro e w6 ⟨rfl,hb6⟩;have HB6:=zb hb6;have HV6:=zb (HV.out.trans (hb6.mono HV.out.size));clear hb6;obtain⟨za,z0,z1,z2,z3,z4,z5,z6,z7,z8,z9,z10,z11,z12,z13,z14⟩:=HCK.out _ HB6.out)
            | (go_at_call 45; refine(HCB.out _ HB6.out).mono ?_;rintro e w7 ⟨rfl,hb7⟩;have HV7:=zb (HV6.out.trans (hb7.mono HV6.out.size));clear hb7))
           go_ret;exact⟨by rw[HR.out];rfl,HB1.out.trans (HV7.out.mono HB1.out.size)⟩
     . have h2:decide ((k:Int)<(x.arms.length:Int))=false:=decide_eq_false (by omega);have h3:¬(k:Int)<(x.arms.length:Int):=by omega
       have HR:Hid (mayD x=true):=zb (by rw[HT.out,zge (by omega) HAL.out]);clear HAL HT
       go_wp2_with fail
       go_ret;exact⟨by rw[HR.out];rfl,HB1.out.trans (HV.out.mono HB1.out.size)⟩
theorem t_May:∀(m:Nat) (x:Nd) (s:Sl) (w:World),x.size<=m->x.fit->IsE w (fun _=>True) (exL x s) x->Calls Tryz.prog 45 #[exOf x s] w (YesMade (mayD x) w)
 | 0,x,_,_,h,_,_=>absurd h (by cases x;show ¬(1+_+_<=0);omega)
 | m+1,x,s,w,h,hf,hx=>zgk x s w (zgq hf) (zf5 hf) hx (fun a ha t W hi=>t_May m a t W (by have:=xO ha;omega) (zeC hf ha) hi)
  (fun c hc t W hi=>zfN c.1.size c.1 t W (Nat.le_refl _) (zfq hf hc).1 hi) (fun c hc t W hi=>t_May m c.2 t W (by have:=(uX hc).2;omega) (zfq hf hc).2 hi)
end
section
open Go.RowKit
theorem t_Show7 (x:Nd) (s:Sl) (w:World) (hx:IsE w (fun _=>True) (exL x s) x) (hw:x.wide) (hwt:x.wt<=65536):Calls Tryz.prog 18 #[exOf x s] w (Shown (ShowV x) w):=by
 rw[← docE_show];have hfit:=zgf x hw hwt;have HX:=zb hx;have HD:Hid (docE x=if boundsD ((x.parts 1).take 4097)≠0 then([],boundsD ((x.parts 1).take 4097)) else if mayD x then longD (textD x) else([],5)):=zb rfl
 have HLN:Hid ((textD x).length<=1000000000):=zb (by have:=(ze9 x hw).1;omega);have HPT:Hid (∀ W,IsE W (fun _=>True) (exL x s) x->Calls Tryz.prog 36 #[exOf x s,.int .i64 1,.int .i64 4097] W (PartsMade ((x.parts 1).take 4097) W)):=zb fun W h=>zgj x.size x s W 1 4097 (Nat.le_refl _) (by omega) h;have HMY:Hid (∀ W,IsE W (fun _=>True) (exL x s) x->Calls Tryz.prog 45 #[exOf x s] W (YesMade (mayD x) W)):=zb fun W h=>t_May x.size x s W (Nat.le_refl _) hfit h;have HTX:Hid (∀ W,mayD x=true->IsE W (fun _=>True) (exL x s) x->Calls Tryz.prog 47 #[exOf x s] W (StrMade (textD x) W)):=zb fun W hm h=>zgL x.size x s W (Nat.le_refl _) hw hwt hfit hm h;have HPL:Hid (((x.parts 1).take 4097).length<=5000):=zb (by rw[List.length_take];omega);have HLG:Hid (∀ W,Calls Tryz.prog 46 #[.string ⟨(textD x).toArray⟩] W (LongTold (longD (textD x)) W)):=zb fun W=>t_long (textD x) W HLN.out;clear hx hw hwt hfit;generalize (x.parts 1).take 4097=PL at *;unfold exOf exV at HPT HMY HTX;unfold exOf exV
 go_enter Tryz.func18, Tryz.ntmps18
 go_upto_region 1 with fail
 obtain⟨W0,hW0⟩:∃ W,w.alloc (.cells #[.int .i64 x.hd.kind,.int .i64 x.hd.pos,.string ⟨x.hd.name.toArray⟩,.int .i64 x.hd.n,.string ⟨x.hd.s.toArray⟩,.slice s.la x.hd.labels.length s.lc,.slice s.aa x.args.length s.ac,.slice s.ra x.arms.length s.rc] 27 (0,0))=W:=⟨_,rfl⟩;have HB0:Hid (Below w.heap.size w W0):=zb (by rw[← hW0];exact zj _);have HPX:Hid (ExBox W0 w.heap.size x s):=zb (by rw[← hW0];exact zA w _ _ rfl);rw[hW0];clear hW0;generalize hbx:w.heap.size=bx at HPX ⊢;clear hbx;replace HX:=zb (HX.out.below HB0.out);obtain⟨b0,b1,b2,b3,b4,b5,b6,b7,bf⟩:=Box8.cells HPX.out;have bl:=Box8.lt HPX.out;clear bf
 go_wp2_with fail
 refine(HPT.out _ HX.out).mono ?_;rintro e w1 ⟨v1,rfl,hb1,hr1⟩;have HB1:=zb (HB0.out.trans (hb1.mono HB0.out.size));replace HX:=zb (HX.out.below hb1);replace HPX:=zb (Box8.below HPX.out hb1);have HBD:=zb (zgv _ PL v1 w1 hr1 HPL.out);clear hb1 hr1 HB0 b0 b1 b2 b3 b4 b5 b6 b7 bl HPT HPL
 go_wp2_with fail
 refine HBD.out.mono ?_;rintro e w2 ⟨rfl,hb2⟩;have HB2:=zb (HB1.out.trans (hb2.mono HB1.out.size));replace HX:=zb (HX.out.below hb2);replace HPX:=zb (Box8.below HPX.out hb2);clear hb2 HB1 HBD;generalize boundsD PL=bd at *;by_cases hb:bd=0
 . subst hb;have HD2:Hid (docE x=if mayD x then longD (textD x) else([],5)):=zb (by rw[HD.out,if_neg (fun h=>h rfl)])
   clear HD;obtain⟨b0,b1,b2,b3,b4,b5,b6,b7,bf⟩:=Box8.cells HPX.out;have bl:=Box8.lt HPX.out;clear bf
   go_wp2_with fail
   refine(HMY.out _ HX.out).mono ?_;rintro e w3 ⟨rfl,hb3⟩;have HB3:=zb (HB2.out.trans (hb3.mono HB2.out.size));replace HX:=zb (HX.out.below hb3);replace HPX:=zb (Box8.below HPX.out hb3);clear hb3 HB2 HMY b0 b1 b2 b3 b4 b5 b6 b7 bl;cases hm:mayD x
   . have HR:Hid (docE x=([],5)):=zb (by rw[HD2.out,hm];rfl);clear HD2 hm HTX HLG HLN
     go_wp2_with fail
     go_ret2;exact⟨HB3.out,by rw[HR.out];rfl⟩
   . have HR:Hid (docE x=longD (textD x)):=zb (by rw[HD2.out,hm];rfl);have HTC:=zb (HTX.out w3 hm HX.out);clear HD2 hm HTX;obtain⟨b0,b1,b2,b3,b4,b5,b6,b7,bf⟩:=Box8.cells HPX.out;have bl:=Box8.lt HPX.out;clear bf;generalize textD x=tx at *
     go_wp2_with fail
     refine HTC.out.mono ?_;rintro e w4 ⟨rfl,hb4⟩;have HB4:=zb (HB3.out.trans (hb4.mono HB3.out.size));clear hb4 HB3 HTC b0 b1 b2 b3 b4 b5 b6 b7 bl
     go_wp2_with fail
     refine(HLG.out _).mono ?_;rintro e w5 ⟨rfl,rfl⟩;clear HLG;generalize longD tx=ld at *
     go_wp2_with fail
     go_ret2;exact⟨HB4.out,by rw[HR.out];rfl⟩
 . have HR:Hid (docE x=([],bd)):=zb (by rw[HD.out,if_pos hb]);have e1:(bd != 0)=true:=by rw[bne_iff_ne];exact hb
   clear HD hb HTX HLG HMY
   go_wp2_with fail
   go_ret2;exact⟨HB2.out,by rw[HR.out];rfl⟩
end
section
open Go.RowKit
attribute [local go_sem] Oper.semAt_some
theorem zgP (x:Nd) (sx:Sl) (w:World) (hy:Ready w) (ht:Tab w) (hx:IsE w (fun _=>True) (exL x sx) x) (wx:x.wide):Calls Tryz.prog 4 #[exOf x sx] w (YesMade true w):=by
 have HY:=zb hy;have HT:=zb ht;have HW:=zb wx;have HBR:=zb (xP hx);have hb2:=zj (w:=w) (exObj x sx);have HX:Hid (InBox (w.alloc (exObj x sx)) w.heap.size x sx):=zb (InBox.new hx);have HB0:=zb hb2;clear hy ht hx wx hb2;unfold exOf exV
 go_enter Tryz.func4, Tryz.ntmps4
 go_upto_region 1 with fail
 obtain⟨W0,hW0⟩:∃ W,w.alloc (exObj x sx)=W:=⟨_,rfl⟩;rw[hW0] at HB0 HX;unfold exObj at hW0;rw[hW0];clear hW0;replace HY:=zb (HY.out.below HB0.out);replace HT:Hid (Tab W0):=zb (HT.out.below HB0.out);generalize hbx:w.heap.size=bx at HX ⊢;clear hbx
 go_wp2_with fail
 refine(vc _ HY.out HT.out).mono ?_;rintro e w1 ⟨rfl,hb1⟩;replace HX:=zb (HX.out.below hb1);replace HY:=zb (HY.out.below hb1);replace HT:Hid (Tab w1):=zb (HT.out.below hb1);have HB1:=zb (HB0.out.trans (hb1.mono HB0.out.size));clear hb1 HB0;have HC:=zb (rO x sx w1 HW.out HX.out.tree);unfold exOf exV at HC;obtain⟨f0,f1,f2,f3,f4,f5,f6,f7,-⟩:=Box8.cells HX.out.box;have fl:=HX.out.box.lt;by_cases hl1:longE x 65536<=0
 . have l1:decide (longE x 65536<=0)=true:=decide_eq_true hl1;generalize longE x 65536=n1 at *
   go_wp2_with fail
   refine HC.out.mono ?_;rintro e w2 ⟨rfl,hb2⟩;have HB2:=zb (HB1.out.trans (hb2.mono HB1.out.size));clear hb2
   go_wp2_with fail
   go_ret;exact⟨rfl,HB2.out⟩
 have l1:decide (longE x 65536<=0)=false:=decide_eq_false hl1;have HP1:Hid (0<longE x 65536):=zb (by omega);have HWT:Hid (x.wt<=65536):=zb (by have:=zgn x HBR.out 65536 HP1.out;have:=HP1.out;omega);obtain⟨n1,hn1⟩:∃ n,longE x 65536=n:=⟨_,rfl⟩;rw[hn1] at HC l1 hl1;clear hn1
 go_wp2_with fail
 refine HC.out.mono ?_;rintro e w2 ⟨rfl,hb2⟩;replace HX:=zb (HX.out.below hb2);replace HY:=zb (HY.out.below hb2);replace HT:Hid (Tab w2):=zb (HT.out.below hb2);have HB2:=zb (HB1.out.trans (hb2.mono HB1.out.size));clear hb2 HB1 HC f0 f1 f2 f3 f4 f5 f6 f7 fl;have HC:=zb (qB x sx w2 HX.out.tree HW.out HP1.out HT.out);unfold exOf exV at HC;obtain⟨f0,f1,f2,f3,f4,f5,f6,f7,-⟩:=Box8.cells HX.out.box;have fl:=HX.out.box.lt
 go_wp2_with fail
 refine HC.out.mono ?_;rintro e w3 ⟨hb3,rfl⟩;replace HX:=zb (HX.out.below hb3);replace HY:=zb (HY.out.below hb3);replace HT:Hid (Tab w3):=zb (HT.out.below hb3);have HB3:=zb (HB2.out.trans (hb3.mono HB2.out.size));clear hb3 HB2 HC f0 f1 f2 f3 f4 f5 f6 f7 fl l1 hl1 HP1 HBR HY HT;have HC:=zb (t_Show7 x sx w3 HX.out.tree HW.out HWT.out);unfold exOf exV at HC;obtain⟨f0,f1,f2,f3,f4,f5,f6,f7,-⟩:=Box8.cells HX.out.box;have fl:=HX.out.box.lt;obtain⟨⟨t,c⟩,hr⟩:∃ r,ShowV x=r:=⟨_,rfl⟩;rw[hr] at HC ⊢;clear hr;dsimp only;have B1:(t == t)=true:=by simp
 have B2:(c == c)=true:=by simp
 go_wp2_with fail
 refine HC.out.mono ?_;rintro e w4 ⟨hb4,rfl⟩;have HB4:=zb (HB3.out.trans (hb4.mono HB3.out.size));clear hb4 HC;dsimp only
 go_wp2_with fail
 go_ret;exact⟨rfl,HB4.out⟩
end
