/-
  The document's own comparison of expressions: the walk.
-/
import Derived.Test.YtigbapkdpaahjaaGreatDoorPBoth
namespace Go.Proofs.YtigbapkdpaahjaaGreatDoor
set_option linter.unusedSimpArgs false
set_option linter.unusedVariables false
set_option maxRecDepth 100000
set_option maxHeartbeats 4000000
section
open Go.RowKit
theorem zcu (x y:Nd) (sx sy:Sl) (w:World) (hx:IsE w (fun _=>True) (exL x sx) x) (hy:IsE w (fun _=>True) (exL y sy) y)
 (hrec:∀ a∈x.args,∀(b:Nd) (sa sb:Sl) (W:World),IsE W (fun _=>True) (exL a sa) a→IsE W (fun _=>True) (exL b sb) b→Calls Tryz.prog 13 #[exOf a sa,exOf b sb,.bool false] W (YesMade (a.alike false b) W))
 (hpat:∀ c∈x.arms,∀(b:Nd) (sa sb:Sl) (W:World),IsP W (fun _=>True) (paL c.1 sa) c.1→IsP W (fun _=>True) (paL b sb) b→Calls Tryz.prog 21 #[paOf c.1 sa,paOf b sb,.bool false] W (YesMade (c.1.alike false b) W))
 (hbod:∀ c∈x.arms,∀(b:Nd) (sa sb:Sl) (W:World),IsE W (fun _=>True) (exL c.2 sa) c.2→IsE W (fun _=>True) (exL b sb) b→Calls Tryz.prog 13 #[exOf c.2 sa,exOf b sb,.bool false] W (YesMade (c.2.alike false b) W)) :
 Calls Tryz.prog 13 #[exOf x sx,exOf y sy,.bool false] w (YesMade (x.alike false y) w):=by
 have HX:=zb hx
 have HY:=zb hy
 have HREC:=zb hrec
 have HPAT:=zb hpat
 have HBOD:=zb hbod
 clear hx hy hrec hpat hbod
 obtain⟨bb,HBB⟩:∃ b,Hid (x.alike false y=b):=⟨_,zb rfl⟩
 rw[HBB.out]
 unfold exOf exV
 go_enter Tryz.func13, Tryz.ntmps13
 go_upto_region 1 with fail
 obtain⟨W0,hW0⟩:∃ W,(w.alloc (.cells #[.int .i64 x.hd.kind,.int .i64 x.hd.pos,.string ⟨x.hd.name.toArray⟩,.int .i64 x.hd.n,.string ⟨x.hd.s.toArray⟩,.slice sx.la x.hd.labels.length sx.lc,.slice sx.aa x.args.length sx.ac,.slice sx.ra x.arms.length sx.rc] 27 (0,0))).alloc (.cells #[.int .i64 y.hd.kind,.int .i64 y.hd.pos,.string ⟨y.hd.name.toArray⟩,.int .i64 y.hd.n,.string ⟨y.hd.s.toArray⟩,.slice sy.la y.hd.labels.length sy.lc,.slice sy.aa y.args.length sy.ac,.slice sy.ra y.arms.length sy.rc] 27 (0,0))=W:=⟨_,rfl⟩
 have HB0:Hid (Below w.heap.size w W0):=zb (by rw[← hW0];exact zB _ _)
 have HPX:Hid (ExBox W0 w.heap.size x sx):=zb (by rw[← hW0];exact((zj _).block _ (zp (ExBox.new w x sx))).trans (ExBox.new w x sx))
 have HPY:Hid (ExBox W0 (w.heap.size+1) y sy):=zb (by rw[← hW0];exact zA _ _ _ (by rw[World.size_alloc]))
 rw[hW0]
 clear hW0
 replace HX:=zb (HX.out.below HB0.out)
 replace HY:=zb (HY.out.below HB0.out)
 generalize hbx:w.heap.size=bx at HPX HPY ⊢
 generalize hby:bx+1=by' at HPX HPY ⊢
 clear hbx hby
 obtain⟨a0,a1,a2,a3,a4,a5,a6,a7,af⟩:=Box8.cells HPX.out
 obtain⟨b0,b1,b2,b3,b4,b5,b6,b7,bf⟩:=Box8.cells HPY.out
 have al:=HPX.out.lt
 have bl:=HPY.out.lt
 clear af bf
 have HTX:=zb (fun W (h:Below W0.heap.size W0 W)=>zeY _ _ x.hd.labels y.hd.labels _ _ W (HX.out.below h).look.1 (HY.out.below h).look.1)
 by_cases hkind:x.hd.kind=y.hd.kind
 · skip
   have qkind:(x.hd.kind == y.hd.kind)=true:=beq_iff_eq.2 hkind
   have pkind:(x.hd.kind != y.hd.kind)=false:=by rw[bne_eq_false_iff_eq];exact hkind
   by_cases hname:x.hd.name=y.hd.name
   · skip
     have qname:(x.hd.name == y.hd.name)=true:=beq_iff_eq.2 hname
     have pname:(x.hd.name != y.hd.name)=false:=by rw[bne_eq_false_iff_eq];exact hname
     by_cases hn:x.hd.n=y.hd.n
     · skip
       have qn:(x.hd.n == y.hd.n)=true:=beq_iff_eq.2 hn
       have pn:(x.hd.n != y.hd.n)=false:=by rw[bne_eq_false_iff_eq];exact hn
       by_cases hs:x.hd.s=y.hd.s
       · skip
         have qs:(x.hd.s == y.hd.s)=true:=beq_iff_eq.2 hs
         have ps:(x.hd.s != y.hd.s)=false:=by rw[bne_eq_false_iff_eq];exact hs
         by_cases hlab:x.hd.labels=y.hd.labels
         · skip
           replace HTX:Hid (∀ W,Below W0.heap.size W0 W→Calls Tryz.prog 30 #[.slice sx.la x.hd.labels.length sx.lc,.slice sy.la y.hd.labels.length sy.lc] W (YesDrawn true W)):=zb (fun W h=>by have h9:=HTX.out W h;rwa [decide_eq_true hlab] at h9)
           by_cases hargs:x.args.length=y.args.length
           · skip
             have qargs:((x.args.length:Int) != (y.args.length:Int))=false:=by rw[bne_eq_false_iff_eq];omega
             have rargs:(x.args.length != y.args.length)=false:=by rw[bne_eq_false_iff_eq];omega
             by_cases harms:x.arms.length=y.arms.length
             · skip
               have qarms:((x.arms.length:Int) != (y.arms.length:Int))=false:=by rw[bne_eq_false_iff_eq];omega
               have rarms:(x.arms.length != y.arms.length)=false:=by rw[bne_eq_false_iff_eq];omega
               have HHD:Hid (x.hd.alike false y.hd=true):=zb (by simp [Hd.alike,hkind,hname,hn,hs,hlab])
               have HLA:Hid (x.args.length=y.args.length):=zb hargs
               have HLR:Hid (x.arms.length=y.arms.length):=zb harms
               clear hkind hname hn hs hlab hargs harms
               go_wp2_with fail
               refine(HTX.out _ (Below.refl _ _)).mono ?_
               rintro e w' ⟨rfl,nq,rfl⟩
               go_upto_region 3 with fail
               clear HTX qkind qname qn qs qargs qarms pkind pname pn ps rargs rarms
               obtain⟨W1,hW1⟩:∃ W,W0.drewN nq=W:=⟨_,rfl⟩
               have hb1:Below W0.heap.size W0 W1:=by rw[← hW1];exact yJ _ _
               rw[hW1]
               clear hW1
               replace HX:=zb (HX.out.below hb1)
               replace HY:=zb (HY.out.below hb1)
               replace HPX:=zb (Box8.below HPX.out hb1)
               replace HPY:=zb (Box8.below HPY.out hb1)
               replace HB0:=zb (HB0.out.trans (hb1.mono HB0.out.size))
               clear hb1 a0 b0 a1 b1 a2 b2 a3 b3 a4 b4 a5 b5 a6 b6 a7 b7 al bl
               have HZ:=zb (Below.refl W1.heap.size W1)
               have HG:Hid (∀ i,i<x.args.length→∃ a b,x.args[i]? = some a∧y.args[i]? = some b):=zb (fun i h=>⟨x.args[i],y.args[i]'(by have:=HLA.out;omega),List.getElem?_eq_getElem h,List.getElem?_eq_getElem _⟩)
               have HLE:Hid (x.args.length≤9223372036854775807):=zb HX.out.look.2.2.1
               go_wp2_with fail
               go_loopw [7] (fun vk wr=>∃ kz:Nat,kz≤x.args.length∧vk=.int .i64 kz∧Hid (Below W1.heap.size W1 wr)∧Hid (∀(i:Nat) (a b:Nd),i<kz→x.args[i]? = some a→y.args[i]? = some b→a.alike false b=true)) (fun vk _=>x.args.length-(intOf vk).toNat)
               case atStart=>exact⟨0,Nat.zero_le _,by go_num,HZ,zb (fun i a b h=>absurd h (by omega))⟩
               case round =>
                obtain⟨kz,hk,rfl,HV,HL⟩:=hrel
                clear HZ
                obtain⟨a0,a1,a2,a3,a4,a5,a6,a7,af⟩:=Box8.cells (Box8.below HPX.out HV.out)
                clear af
                obtain⟨b0,b1,b2,b3,b4,b5,b6,b7,bf⟩:=Box8.cells (Box8.below HPY.out HV.out)
                clear bf
                have al:=Box8.lt (Box8.below HPX.out HV.out)
                have bl:=Box8.lt (Box8.below HPY.out HV.out)
                by_cases hk2:kz<x.args.length
                · obtain⟨ca,cb,hca,hcb⟩:=HG.out kz hk2
                  have h2:decide ((kz:Int)<(x.args.length:Int))=true:=decide_eq_true (by omega)
                  have h3:(kz:Int)<(x.args.length:Int):=by omega
                  have h4:(0:Int)≤(kz:Int):=by omega
                  have E5:IntKind.i64.wrap ((kz:Int)+1)=(kz:Int)+1:=by rw[IntKind.wrap_i64];have:=HLE.out;omega
                  have h6:(kz:Int)<(y.args.length:Int):=by have:=HLA.out;omega
                  obtain⟨g1,o1,t1,e1,l1,i1,c1⟩:=(HX.out.below HV.out).look.2.2.2.2.1 kz ca hca
                  obtain⟨g2,o2,t2,e2,l2,i2,c2⟩:=(HY.out.below HV.out).look.2.2.2.2.1 kz cb hcb
                  rw[e1] at a6
                  rw[e2] at b6
                  have x0:=c1 0 _ rfl
                  have y0:=c2 0 _ rfl
                  have x1:=c1 1 _ rfl
                  have y1:=c2 1 _ rfl
                  have x2:=c1 2 _ rfl
                  have y2:=c2 2 _ rfl
                  have x3:=c1 3 _ rfl
                  have y3:=c2 3 _ rfl
                  have x4:=c1 4 _ rfl
                  have y4:=c2 4 _ rfl
                  have x5:=c1 5 _ rfl
                  have y5:=c2 5 _ rfl
                  have x6:=c1 6 _ rfl
                  have y6:=c2 6 _ rfl
                  have x7:=c1 7 _ rfl
                  have y7:=c2 7 _ rfl
                  rw[Nat.add_zero] at x0 y0
                  have HCALL:Hid (∀ W,Below wr.heap.size wr W→Calls Tryz.prog 13 #[exOf ca t1,exOf cb t2,.bool false] W (YesMade (ca.alike false cb) W)):=zb (fun W h=>HREC.out ca (List.mem_of_getElem? hca) cb t1 t2 W (i1.below h) (i2.below h))
                  have HLN:Hid (ca.alike false cb=true→∀(i:Nat) (a b:Nd),i<kz+1→x.args[i]? = some a→y.args[i]? = some b→a.alike false b=true):=zb (fun hc i a b hi ha hb=>by
                   by_cases h:i<kz
                   · exact HL.out i a b h ha hb
                   · obtain rfl:i=kz:=by omega
                     rw[hca] at ha
                     rw[hcb] at hb
                     obtain rfl:=zc ha
                     obtain rfl:=zc hb
                     exact hc)
                  have HNO:Hid (ca.alike false cb=false→bb=false):=zb (fun hc=>by rw[← HBB.out,zS,uz hca hcb hc];simp)
                  clear c1 c2 e1 e2 i1 i2 hca hcb HL
                  obtain⟨rb,hrb⟩:∃ rb,ca.alike false cb=rb:=⟨_,rfl⟩
                  rw[hrb] at HCALL HLN HNO
                  clear hrb
                  unfold exOf exV at HCALL
                  go_upto_region 6 with fail
                  clear h2
                  go_still_tail 11,(by kernel_rfl)
                  change wpList _ _ _ _ _ wr.drew
                  have hdr:=zm wr
                  have HDR:=zb hdr
                  clear hdr x0 y0 x1 y1 x2 y2 x3 y3 x4 y4 x5 y5 x6 y6 x7 y7 l1 l2 a0 b0 a1 b1 a2 b2 a3 b3 a4 b4 a5 b5 a6 b6 a7 b7 al bl h3 h4 h6
                  generalize wr.drew=w5 at *
                  go_wp2_with fail
                  refine(HCALL.out _ HDR.out).mono ?_
                  rintro e w6 ⟨rfl,hb6⟩
                  have HVN:=zb (HV.out.trans ((HDR.out.trans (hb6.mono HDR.out.size)).mono HV.out.size))
                  clear hb6 HCALL HDR
                  cases rb with
                  | true =>
                   go_wp2_with fail
                   go_roundw
                   case rel=>exact⟨kz+1,by omega,by go_num,HVN,zb (HLN.out (by simp))⟩
                   case measure=>simp [intOf];omega
                  | false =>
                   go_wp2_with fail
                   go_ret
                   exact⟨by rw[HNO.out (by simp)];rfl,HB0.out.trans (HVN.out.mono HB0.out.size)⟩
                · have h2:decide ((kz:Int)<(x.args.length:Int))=false:=decide_eq_false (by omega)
                  have HAN:Hid (alikeN false x.args y.args=true):=zb (uG HLA.out (fun i a b ha hb=>HL.out i a b (by have:=(List.getElem?_eq_some_iff.1 ha).1;omega) ha hb))
                  have HG2:Hid (∀ i,i<x.arms.length→∃ a b,x.arms[i]? = some a∧y.arms[i]? = some b):=zb (fun i h=>⟨x.arms[i],y.arms[i]'(by have:=HLR.out;omega),List.getElem?_eq_getElem h,List.getElem?_eq_getElem _⟩)
                  have HLE2:Hid (x.arms.length≤9223372036854775807):=zb HX.out.look.2.2.2.1
                  clear HL HG HLE HLA
                  go_wp2_with fail
                  clear h2 a0 b0 a1 b1 a2 b2 a3 b3 a4 b4 a5 b5 a6 b6 a7 b7 al bl hk2 hk
                  go_loopw [8] (fun vk w8=>∃ k:Nat,k≤x.arms.length∧vk=.int .i64 k∧Hid (Below W1.heap.size W1 w8)∧Hid (∀(i:Nat) (c d:Nd×Nd),i<k→x.arms[i]? = some c→y.arms[i]? = some d→c.1.alike false d.1=true∧c.2.alike false d.2=true)) (fun vk _=>x.arms.length-(intOf vk).toNat)
                  case atStart=>exact⟨0,Nat.zero_le _,by go_num,HV,zb (fun i a b h=>absurd h (by omega))⟩
                  case round =>
                   clear HV
                   obtain⟨k,hk,rfl,HV,HL⟩:=hrel
                   obtain⟨a0,a1,a2,a3,a4,a5,a6,a7,af⟩:=Box8.cells (Box8.below HPX.out HV.out)
                   clear af
                   obtain⟨b0,b1,b2,b3,b4,b5,b6,b7,bf⟩:=Box8.cells (Box8.below HPY.out HV.out)
                   clear bf
                   have al:=Box8.lt (Box8.below HPX.out HV.out)
                   have bl:=Box8.lt (Box8.below HPY.out HV.out)
                   by_cases hk2:k<x.arms.length
                   · obtain⟨ca,cb,hca,hcb⟩:=HG2.out k hk2
                     have h2:decide ((k:Int)<(x.arms.length:Int))=true:=decide_eq_true (by omega)
                     have h3:(k:Int)<(x.arms.length:Int):=by omega
                     have h4:(0:Int)≤(k:Int):=by omega
                     have E5:IntKind.i64.wrap ((k:Int)+1)=(k:Int)+1:=by rw[IntKind.wrap_i64];have:=HLE2.out;omega
                     have h6:(k:Int)<(y.arms.length:Int):=by have:=HLR.out;omega
                     obtain⟨g1,o1,t1,r1,e1,l1,i1,j1,c1⟩:=(HX.out.below HV.out).look.2.2.2.2.2 k ca hca
                     obtain⟨g2,o2,t2,r2,e2,l2,i2,j2,c2⟩:=(HY.out.below HV.out).look.2.2.2.2.2 k cb hcb
                     rw[e1] at a7
                     rw[e2] at b7
                     have HS:Hid (∀ W,Below wr.heap.size wr W→(W.cell? ⟨bx,7,none⟩=some (.slice (some ⟨g1,o1,none⟩) x.arms.length sx.rc)∧W.cell? ⟨by',7,none⟩=some (.slice (some ⟨g2,o2,none⟩) y.arms.length sy.rc)∧W.cell? ⟨g1,o1+k*15,none⟩=some (.int .i64 ca.1.hd.kind)∧W.cell? ⟨g1,o1+k*15+1,none⟩=some (.int .i64 ca.1.hd.pos)∧W.cell? ⟨g1,o1+k*15+2,none⟩=some (.string ⟨ca.1.hd.name.toArray⟩)∧W.cell? ⟨g1,o1+k*15+3,none⟩=some (.int .i64 ca.1.hd.n)∧W.cell? ⟨g1,o1+k*15+4,none⟩=some (.string ⟨ca.1.hd.s.toArray⟩)∧W.cell? ⟨g1,o1+k*15+5,none⟩=some (.slice t1.la ca.1.hd.labels.length t1.lc)∧W.cell? ⟨g1,o1+k*15+6,none⟩=some (.slice t1.aa ca.1.args.length t1.ac)∧W.cell? ⟨g1,o1+k*15+7,none⟩=some (.int .i64 ca.2.hd.kind)∧W.cell? ⟨g1,o1+k*15+8,none⟩=some (.int .i64 ca.2.hd.pos)∧W.cell? ⟨g1,o1+k*15+9,none⟩=some (.string ⟨ca.2.hd.name.toArray⟩)∧W.cell? ⟨g1,o1+k*15+10,none⟩=some (.int .i64 ca.2.hd.n)∧W.cell? ⟨g1,o1+k*15+11,none⟩=some (.string ⟨ca.2.hd.s.toArray⟩)∧W.cell? ⟨g1,o1+k*15+12,none⟩=some (.slice r1.la ca.2.hd.labels.length r1.lc)∧W.cell? ⟨g1,o1+k*15+13,none⟩=some (.slice r1.aa ca.2.args.length r1.ac)∧W.cell? ⟨g1,o1+k*15+14,none⟩=some (.slice r1.ra ca.2.arms.length r1.rc)∧W.cell? ⟨g2,o2+k*15,none⟩=some (.int .i64 cb.1.hd.kind)∧W.cell? ⟨g2,o2+k*15+1,none⟩=some (.int .i64 cb.1.hd.pos)∧W.cell? ⟨g2,o2+k*15+2,none⟩=some (.string ⟨cb.1.hd.name.toArray⟩)∧W.cell? ⟨g2,o2+k*15+3,none⟩=some (.int .i64 cb.1.hd.n)∧W.cell? ⟨g2,o2+k*15+4,none⟩=some (.string ⟨cb.1.hd.s.toArray⟩)∧W.cell? ⟨g2,o2+k*15+5,none⟩=some (.slice t2.la cb.1.hd.labels.length t2.lc)∧W.cell? ⟨g2,o2+k*15+6,none⟩=some (.slice t2.aa cb.1.args.length t2.ac)∧W.cell? ⟨g2,o2+k*15+7,none⟩=some (.int .i64 cb.2.hd.kind)∧W.cell? ⟨g2,o2+k*15+8,none⟩=some (.int .i64 cb.2.hd.pos)∧W.cell? ⟨g2,o2+k*15+9,none⟩=some (.string ⟨cb.2.hd.name.toArray⟩)∧W.cell? ⟨g2,o2+k*15+10,none⟩=some (.int .i64 cb.2.hd.n)∧W.cell? ⟨g2,o2+k*15+11,none⟩=some (.string ⟨cb.2.hd.s.toArray⟩)∧W.cell? ⟨g2,o2+k*15+12,none⟩=some (.slice r2.la cb.2.hd.labels.length r2.lc)∧W.cell? ⟨g2,o2+k*15+13,none⟩=some (.slice r2.aa cb.2.args.length r2.ac)∧W.cell? ⟨g2,o2+k*15+14,none⟩=some (.slice r2.ra cb.2.arms.length r2.rc))∧bx<W.heap.size∧by'<W.heap.size∧g1<W.heap.size∧g2<W.heap.size):=zb (fun W hb=>by
                      have hx1:∀(j:Nat) (u:Value),(paL ca.1 t1++exL ca.2 r1)[j]? = some u→W.cell? ⟨g1,o1+k*15+j,none⟩=some u:=fun j u hu=>(hb.cell (p:=⟨g1,o1+k*15+j,none⟩) l1).trans (c1 j u hu)
                      have hx2:∀(j:Nat) (u:Value),(paL cb.1 t2++exL cb.2 r2)[j]? = some u→W.cell? ⟨g2,o2+k*15+j,none⟩=some u:=fun j u hu=>(hb.cell (p:=⟨g2,o2+k*15+j,none⟩) l2).trans (c2 j u hu)
                      exact⟨⟨(hb.cell (p:=⟨bx,7,none⟩) al).trans a7,(hb.cell (p:=⟨by',7,none⟩) bl).trans b7,hx1 0 _ rfl,hx1 1 _ rfl,hx1 2 _ rfl,hx1 3 _ rfl,hx1 4 _ rfl,hx1 5 _ rfl,hx1 6 _ rfl,hx1 7 _ rfl,hx1 8 _ rfl,hx1 9 _ rfl,hx1 10 _ rfl,hx1 11 _ rfl,hx1 12 _ rfl,hx1 13 _ rfl,hx1 14 _ rfl,hx2 0 _ rfl,hx2 1 _ rfl,hx2 2 _ rfl,hx2 3 _ rfl,hx2 4 _ rfl,hx2 5 _ rfl,hx2 6 _ rfl,hx2 7 _ rfl,hx2 8 _ rfl,hx2 9 _ rfl,hx2 10 _ rfl,hx2 11 _ rfl,hx2 12 _ rfl,hx2 13 _ rfl,hx2 14 _ rfl⟩,zd al hb.size,zd bl hb.size,zd l1 hb.size,zd l2 hb.size⟩)
                     have HC1:Hid (∀ W,Below wr.heap.size wr W→Calls Tryz.prog 21 #[paOf ca.1 t1,paOf cb.1 t2,.bool false] W (YesMade (ca.1.alike false cb.1) W)):=zb (fun W h=>HPAT.out ca (List.mem_of_getElem? hca) cb.1 t1 t2 W (i1.below h) (i2.below h))
                     have HC2:Hid (∀ W,Below wr.heap.size wr W→Calls Tryz.prog 13 #[exOf ca.2 r1,exOf cb.2 r2,.bool false] W (YesMade (ca.2.alike false cb.2) W)):=zb (fun W h=>HBOD.out ca (List.mem_of_getElem? hca) cb.2 r1 r2 W (j1.below h) (j2.below h))
                     have HLN:Hid (ca.1.alike false cb.1=true→ca.2.alike false cb.2=true→∀(i:Nat) (a b:Nd×Nd),i<k+1→x.arms[i]? = some a→y.arms[i]? = some b→a.1.alike false b.1=true∧a.2.alike false b.2=true):=zb (fun hc hd i a b hi ha hb=>by
                      by_cases h:i<k
                      · exact HL.out i a b h ha hb
                      · obtain rfl:i=k:=by omega
                        rw[hca] at ha
                        rw[hcb] at hb
                        obtain rfl:=zc ha
                        obtain rfl:=zc hb
                        exact⟨hc,hd⟩)
                     have HNO:Hid (ca.1.alike false cb.1=false∨ca.2.alike false cb.2=false→bb=false):=zb (fun hc=>by rw[← HBB.out,zS,rC hca hcb hc];simp)
                     clear c1 c2 e1 e2 i1 i2 j1 j2 hca hcb HL l1 l2 al bl a0 b0 a1 b1 a2 b2 a3 b3 a4 b4 a5 b5 a6 b6 a7 b7
                     obtain⟨rb1,hrb1⟩:∃ rb,ca.1.alike false cb.1=rb:=⟨_,rfl⟩
                     obtain⟨rb2,hrb2⟩:∃ rb,ca.2.alike false cb.2=rb:=⟨_,rfl⟩
                     rw[hrb1] at HC1 HLN HNO
                     rw[hrb2] at HC2 HLN HNO
                     clear hrb1 hrb2
                     unfold exOf exV at HC2
                     unfold paOf at HC1
                     obtain⟨⟨f0,f1,f2,f3,f4,f5,f6,f7,f8,f9,f10,f11,f12,f13,f14,f15,f16,f17,f18,f19,f20,f21,f22,f23,f24,f25,f26,f27,f28,f29,f30,f31⟩,al,bl,l1,l2⟩:=HS.out wr (Below.refl _ _)
                     go_upto_region 11 with fail
                     clear h2
                     cases rb1 with
                     | true =>
                      refine yg 31 (fun W=>W.cell? ⟨bx,7,none⟩=some (.slice (some ⟨g1,o1,none⟩) x.arms.length sx.rc)∧W.cell? ⟨by',7,none⟩=some (.slice (some ⟨g2,o2,none⟩) y.arms.length sy.rc)∧W.cell? ⟨g1,o1+k*15,none⟩=some (.int .i64 ca.1.hd.kind)∧W.cell? ⟨g1,o1+k*15+1,none⟩=some (.int .i64 ca.1.hd.pos)∧W.cell? ⟨g1,o1+k*15+2,none⟩=some (.string ⟨ca.1.hd.name.toArray⟩)∧W.cell? ⟨g1,o1+k*15+3,none⟩=some (.int .i64 ca.1.hd.n)∧W.cell? ⟨g1,o1+k*15+4,none⟩=some (.string ⟨ca.1.hd.s.toArray⟩)∧W.cell? ⟨g1,o1+k*15+5,none⟩=some (.slice t1.la ca.1.hd.labels.length t1.lc)∧W.cell? ⟨g1,o1+k*15+6,none⟩=some (.slice t1.aa ca.1.args.length t1.ac)∧W.cell? ⟨g1,o1+k*15+7,none⟩=some (.int .i64 ca.2.hd.kind)∧W.cell? ⟨g1,o1+k*15+8,none⟩=some (.int .i64 ca.2.hd.pos)∧W.cell? ⟨g1,o1+k*15+9,none⟩=some (.string ⟨ca.2.hd.name.toArray⟩)∧W.cell? ⟨g1,o1+k*15+10,none⟩=some (.int .i64 ca.2.hd.n)∧W.cell? ⟨g1,o1+k*15+11,none⟩=some (.string ⟨ca.2.hd.s.toArray⟩)∧W.cell? ⟨g1,o1+k*15+12,none⟩=some (.slice r1.la ca.2.hd.labels.length r1.lc)∧W.cell? ⟨g1,o1+k*15+13,none⟩=some (.slice r1.aa ca.2.args.length r1.ac)∧W.cell? ⟨g1,o1+k*15+14,none⟩=some (.slice r1.ra ca.2.arms.length r1.rc)∧W.cell? ⟨g2,o2+k*15,none⟩=some (.int .i64 cb.1.hd.kind)∧W.cell? ⟨g2,o2+k*15+1,none⟩=some (.int .i64 cb.1.hd.pos)∧W.cell? ⟨g2,o2+k*15+2,none⟩=some (.string ⟨cb.1.hd.name.toArray⟩)∧W.cell? ⟨g2,o2+k*15+3,none⟩=some (.int .i64 cb.1.hd.n)∧W.cell? ⟨g2,o2+k*15+4,none⟩=some (.string ⟨cb.1.hd.s.toArray⟩)∧W.cell? ⟨g2,o2+k*15+5,none⟩=some (.slice t2.la cb.1.hd.labels.length t2.lc)∧W.cell? ⟨g2,o2+k*15+6,none⟩=some (.slice t2.aa cb.1.args.length t2.ac)∧W.cell? ⟨g2,o2+k*15+7,none⟩=some (.int .i64 cb.2.hd.kind)∧W.cell? ⟨g2,o2+k*15+8,none⟩=some (.int .i64 cb.2.hd.pos)∧W.cell? ⟨g2,o2+k*15+9,none⟩=some (.string ⟨cb.2.hd.name.toArray⟩)∧W.cell? ⟨g2,o2+k*15+10,none⟩=some (.int .i64 cb.2.hd.n)∧W.cell? ⟨g2,o2+k*15+11,none⟩=some (.string ⟨cb.2.hd.s.toArray⟩)∧W.cell? ⟨g2,o2+k*15+12,none⟩=some (.slice r2.la cb.2.hd.labels.length r2.lc)∧W.cell? ⟨g2,o2+k*15+13,none⟩=some (.slice r2.aa cb.2.args.length r2.ac)∧W.cell? ⟨g2,o2+k*15+14,none⟩=some (.slice r2.ra cb.2.arms.length r2.rc)) (by kernel_rfl) (by kernel_rfl) (by go_keep) (fun hL inv hHeld=>?_)
                      refine anyK_tk (v:=?_) 0 hL rfl inv (Or.inl ⟨by rfl,?_⟩) (fun inv=>?_)
                      rotate_left
                      · intro w hSw;(try dsimp only at hSw);go_simp;try with_reducible rfl
                      (try simp only[Act.put,zg,zh,zi])
                      refine anyK_tk (v:=?_) 1 hL rfl inv (Or.inl ⟨by rfl,?_⟩) (fun inv=>?_)
                      rotate_left
                      · intro w hSw;(try dsimp only at hSw);go_simp;try with_reducible rfl
                      (try simp only[Act.put,zg,zh,zi])
                      refine anyK_tk (v:=?_) 2 hL rfl inv (Or.inl ⟨by rfl,?_⟩) (fun inv=>?_)
                      rotate_left
                      · intro w hSw;(try dsimp only at hSw);go_simp;try with_reducible rfl
                      (try simp only[Act.put,zg,zh,zi])
                      refine anyK_tk (v:=?_) 3 hL rfl inv (Or.inl ⟨by rfl,?_⟩) (fun inv=>?_)
                      rotate_left
                      · intro w hSw;(try dsimp only at hSw);go_simp;try with_reducible rfl
                      (try simp only[Act.put,zg,zh,zi])
                      refine anyK_tk (v:=?_) 4 hL rfl inv (Or.inl ⟨by rfl,?_⟩) (fun inv=>?_)
                      rotate_left
                      · intro w hSw;(try dsimp only at hSw);go_simp;try with_reducible rfl
                      (try simp only[Act.put,zg,zh,zi])
                      refine anyK_tk (v:=?_) 5 hL rfl inv (Or.inl ⟨by rfl,?_⟩) (fun inv=>?_)
                      rotate_left
                      · intro w hSw;(try dsimp only at hSw);go_simp;try with_reducible rfl
                      (try simp only[Act.put,zg,zh,zi])
                      refine anyK_tk (v:=?_) 6 hL rfl inv (Or.inl ⟨by rfl,?_⟩) (fun inv=>?_)
                      rotate_left
                      · intro w hSw;(try dsimp only at hSw);go_simp;try with_reducible rfl
                      (try simp only[Act.put,zg,zh,zi])
                      refine anyK_tk (v:=?_) 7 hL rfl inv (Or.inl ⟨by rfl,?_⟩) (fun inv=>?_)
                      rotate_left
                      · intro w hSw;(try dsimp only at hSw);go_simp;try with_reducible rfl
                      (try simp only[Act.put,zg,zh,zi])
                      refine anyK_tk (v:=?_) 8 hL rfl inv (Or.inl ⟨by rfl,?_⟩) (fun inv=>?_)
                      rotate_left
                      · intro w hSw;(try dsimp only at hSw);go_simp;try with_reducible rfl
                      (try simp only[Act.put,zg,zh,zi])
                      refine anyK_tk (v:=?_) 9 hL rfl inv (Or.inl ⟨by rfl,?_⟩) (fun inv=>?_)
                      rotate_left
                      · intro w hSw;(try dsimp only at hSw);go_simp;try with_reducible rfl
                      (try simp only[Act.put,zg,zh,zi])
                      refine anyK_tk (v:=?_) 10 hL rfl inv (Or.inl ⟨by rfl,?_⟩) (fun inv=>?_)
                      rotate_left
                      · intro w hSw;(try dsimp only at hSw);go_simp;try with_reducible rfl
                      (try simp only[Act.put,zg,zh,zi])
                      refine anyK_tk (v:=?_) 11 hL rfl inv (Or.inl ⟨by rfl,?_⟩) (fun inv=>?_)
                      rotate_left
                      · intro w hSw;(try dsimp only at hSw);go_simp;try with_reducible rfl
                      (try simp only[Act.put,zg,zh,zi])
                      refine anyK_tk (v:=?_) 12 hL rfl inv (Or.inl ⟨by rfl,?_⟩) (fun inv=>?_)
                      rotate_left
                      · intro w hSw;(try dsimp only at hSw);go_simp;try with_reducible rfl
                      (try simp only[Act.put,zg,zh,zi])
                      refine yb (i:=13) (by kernel_rfl) (by kernel_rfl) rfl inv (fun K hK=>?_)
                      go_simp
                      go_at_call 21
                      refine(HC1.out _ (zm _)).mono ?_
                      rintro e W5 ⟨rfl,hb5⟩
                      have HB5:=zb ((zm wr).trans (hb5.mono (zm wr).size))
                      clear hb5 hHeld HC1 f0 f1 f2 f3 f4 f5 f6 f7 f8 f9 f10 f11 f12 f13 f14 f15 f16 f17 f18 f19 f20 f21 f22 f23 f24 f25 f26 f27 f28 f29 f30 f31 al bl l1 l2
                      obtain⟨hf,al,bl,l1,l2⟩:=HS.out W5 HB5.out
                      refine hK.out _ _ hf (fun hHeld inv=>?_)
                      clear hK K
                      (try simp only[Act.put,zg,zh,zi])
                      refine anyK_tk (v:=?_) 14 hL rfl inv (Or.inl ⟨by rfl,?_⟩) (fun inv=>?_)
                      rotate_left
                      · intro w hSw;(try dsimp only at hSw);go_simp;try with_reducible rfl
                      (try simp only[Act.put,zg,zh,zi])
                      refine anyK_tk (v:=?_) 15 hL rfl inv (Or.inl ⟨by rfl,?_⟩) (fun inv=>?_)
                      rotate_left
                      · intro w hSw;(try dsimp only at hSw);go_simp;try with_reducible rfl
                      (try simp only[Act.put,zg,zh,zi])
                      refine anyK_tk (v:=?_) 16 hL rfl inv (Or.inl ⟨by rfl,?_⟩) (fun inv=>?_)
                      rotate_left
                      · intro w hSw;(try dsimp only at hSw);go_simp;try with_reducible rfl
                      (try simp only[Act.put,zg,zh,zi])
                      refine anyK_tk (v:=?_) 17 hL rfl inv (Or.inl ⟨by rfl,?_⟩) (fun inv=>?_)
                      rotate_left
                      · intro w hSw;(try dsimp only at hSw);go_simp;try with_reducible rfl
                      (try simp only[Act.put,zg,zh,zi])
                      refine anyK_tk (v:=?_) 18 hL rfl inv (Or.inl ⟨by rfl,?_⟩) (fun inv=>?_)
                      rotate_left
                      · intro w hSw;(try dsimp only at hSw);go_simp;try with_reducible rfl
                      (try simp only[Act.put,zg,zh,zi])
                      refine anyK_tk (v:=?_) 19 hL rfl inv (Or.inl ⟨by rfl,?_⟩) (fun inv=>?_)
                      rotate_left
                      · intro w hSw;(try dsimp only at hSw);go_simp;try with_reducible rfl
                      (try simp only[Act.put,zg,zh,zi])
                      refine anyK_tk (v:=?_) 20 hL rfl inv (Or.inl ⟨by rfl,?_⟩) (fun inv=>?_)
                      rotate_left
                      · intro w hSw;(try dsimp only at hSw);go_simp;try with_reducible rfl
                      (try simp only[Act.put,zg,zh,zi])
                      refine anyK_tk (v:=?_) 21 hL rfl inv (Or.inl ⟨by rfl,?_⟩) (fun inv=>?_)
                      rotate_left
                      · intro w hSw;(try dsimp only at hSw);go_simp;try with_reducible rfl
                      (try simp only[Act.put,zg,zh,zi])
                      refine anyK_tk (v:=?_) 22 hL rfl inv (Or.inl ⟨by rfl,?_⟩) (fun inv=>?_)
                      rotate_left
                      · intro w hSw;(try dsimp only at hSw);go_simp;try with_reducible rfl
                      (try simp only[Act.put,zg,zh,zi])
                      refine anyK_tk (v:=?_) 23 hL rfl inv (Or.inl ⟨by rfl,?_⟩) (fun inv=>?_)
                      rotate_left
                      · intro w hSw;(try dsimp only at hSw);go_simp;try with_reducible rfl
                      (try simp only[Act.put,zg,zh,zi])
                      refine anyK_tk (v:=?_) 24 hL rfl inv (Or.inl ⟨by rfl,?_⟩) (fun inv=>?_)
                      rotate_left
                      · intro w hSw;(try dsimp only at hSw);go_simp;try with_reducible rfl
                      (try simp only[Act.put,zg,zh,zi])
                      refine anyK_tk (v:=?_) 25 hL rfl inv (Or.inl ⟨by rfl,?_⟩) (fun inv=>?_)
                      rotate_left
                      · intro w hSw;(try dsimp only at hSw);go_simp;try with_reducible rfl
                      (try simp only[Act.put,zg,zh,zi])
                      refine anyK_tk (v:=?_) 26 hL rfl inv (Or.inl ⟨by rfl,?_⟩) (fun inv=>?_)
                      rotate_left
                      · intro w hSw;(try dsimp only at hSw);go_simp;try with_reducible rfl
                      (try simp only[Act.put,zg,zh,zi])
                      refine anyK_tk (v:=?_) 27 hL rfl inv (Or.inl ⟨by rfl,?_⟩) (fun inv=>?_)
                      rotate_left
                      · intro w hSw;(try dsimp only at hSw);go_simp;try with_reducible rfl
                      (try simp only[Act.put,zg,zh,zi])
                      refine anyK_tk (v:=?_) 28 hL rfl inv (Or.inl ⟨by rfl,?_⟩) (fun inv=>?_)
                      rotate_left
                      · intro w hSw;(try dsimp only at hSw);go_simp;try with_reducible rfl
                      (try simp only[Act.put,zg,zh,zi])
                      refine yb (i:=29) (by kernel_rfl) (by kernel_rfl) rfl inv (fun K hK=>?_)
                      go_simp
                      go_at_call 13
                      refine(HC2.out _ HB5.out).mono ?_
                      rintro e W6 ⟨rfl,hb6⟩
                      have HB6:=zb (HB5.out.trans (hb6.mono HB5.out.size))
                      clear hb6 hHeld hf HC2 al bl l1 l2
                      obtain⟨hf,al,bl,l1,l2⟩:=HS.out W6 HB6.out
                      refine hK.out _ _ hf (fun hHeld inv=>?_)
                      clear hK K
                      (try simp only[Act.put,zg,zh,zi])
                      refine anyK_tk (v:=?_) 30 hL rfl inv (Or.inl ⟨by rfl,?_⟩) (fun inv=>?_)
                      rotate_left
                      · intro w hSw;(try dsimp only at hSw);go_simp;try with_reducible rfl
                      (try simp only[Act.put,zg,zh,zi])
                      refine yw (by kernel_rfl) rfl (by kernel_rfl) (fun K hK=>?_)
                      go_simp
                      refine hK.out _ _ ?_
                      clear hK K inv hHeld hL hf al bl l1 l2
                      cases rb2 with
                      | true =>
                       have HVN:=zb (HV.out.trans (HB6.out.mono HV.out.size))
                       go_wp2_with fail
                       go_roundw
                       case rel=>exact⟨k+1,by omega,by go_num,HVN,zb (HLN.out (by simp) (by simp))⟩
                       case measure=>simp [intOf];omega
                      | false =>
                       have HVN:=zb (HV.out.trans (HB6.out.mono HV.out.size))
                       go_wp2_with fail
                       go_ret
                       exact⟨by rw[HNO.out (by simp)];rfl,HB0.out.trans (HVN.out.mono HB0.out.size)⟩
                     | false =>
                      refine yg 31 (fun W=>W.cell? ⟨bx,7,none⟩=some (.slice (some ⟨g1,o1,none⟩) x.arms.length sx.rc)∧W.cell? ⟨by',7,none⟩=some (.slice (some ⟨g2,o2,none⟩) y.arms.length sy.rc)∧W.cell? ⟨g1,o1+k*15,none⟩=some (.int .i64 ca.1.hd.kind)∧W.cell? ⟨g1,o1+k*15+1,none⟩=some (.int .i64 ca.1.hd.pos)∧W.cell? ⟨g1,o1+k*15+2,none⟩=some (.string ⟨ca.1.hd.name.toArray⟩)∧W.cell? ⟨g1,o1+k*15+3,none⟩=some (.int .i64 ca.1.hd.n)∧W.cell? ⟨g1,o1+k*15+4,none⟩=some (.string ⟨ca.1.hd.s.toArray⟩)∧W.cell? ⟨g1,o1+k*15+5,none⟩=some (.slice t1.la ca.1.hd.labels.length t1.lc)∧W.cell? ⟨g1,o1+k*15+6,none⟩=some (.slice t1.aa ca.1.args.length t1.ac)∧W.cell? ⟨g1,o1+k*15+7,none⟩=some (.int .i64 ca.2.hd.kind)∧W.cell? ⟨g1,o1+k*15+8,none⟩=some (.int .i64 ca.2.hd.pos)∧W.cell? ⟨g1,o1+k*15+9,none⟩=some (.string ⟨ca.2.hd.name.toArray⟩)∧W.cell? ⟨g1,o1+k*15+10,none⟩=some (.int .i64 ca.2.hd.n)∧W.cell? ⟨g1,o1+k*15+11,none⟩=some (.string ⟨ca.2.hd.s.toArray⟩)∧W.cell? ⟨g1,o1+k*15+12,none⟩=some (.slice r1.la ca.2.hd.labels.length r1.lc)∧W.cell? ⟨g1,o1+k*15+13,none⟩=some (.slice r1.aa ca.2.args.length r1.ac)∧W.cell? ⟨g1,o1+k*15+14,none⟩=some (.slice r1.ra ca.2.arms.length r1.rc)∧W.cell? ⟨g2,o2+k*15,none⟩=some (.int .i64 cb.1.hd.kind)∧W.cell? ⟨g2,o2+k*15+1,none⟩=some (.int .i64 cb.1.hd.pos)∧W.cell? ⟨g2,o2+k*15+2,none⟩=some (.string ⟨cb.1.hd.name.toArray⟩)∧W.cell? ⟨g2,o2+k*15+3,none⟩=some (.int .i64 cb.1.hd.n)∧W.cell? ⟨g2,o2+k*15+4,none⟩=some (.string ⟨cb.1.hd.s.toArray⟩)∧W.cell? ⟨g2,o2+k*15+5,none⟩=some (.slice t2.la cb.1.hd.labels.length t2.lc)∧W.cell? ⟨g2,o2+k*15+6,none⟩=some (.slice t2.aa cb.1.args.length t2.ac)∧W.cell? ⟨g2,o2+k*15+7,none⟩=some (.int .i64 cb.2.hd.kind)∧W.cell? ⟨g2,o2+k*15+8,none⟩=some (.int .i64 cb.2.hd.pos)∧W.cell? ⟨g2,o2+k*15+9,none⟩=some (.string ⟨cb.2.hd.name.toArray⟩)∧W.cell? ⟨g2,o2+k*15+10,none⟩=some (.int .i64 cb.2.hd.n)∧W.cell? ⟨g2,o2+k*15+11,none⟩=some (.string ⟨cb.2.hd.s.toArray⟩)∧W.cell? ⟨g2,o2+k*15+12,none⟩=some (.slice r2.la cb.2.hd.labels.length r2.lc)∧W.cell? ⟨g2,o2+k*15+13,none⟩=some (.slice r2.aa cb.2.args.length r2.ac)∧W.cell? ⟨g2,o2+k*15+14,none⟩=some (.slice r2.ra cb.2.arms.length r2.rc)) (by kernel_rfl) (by kernel_rfl) (by go_keep) (fun hL inv hHeld=>?_)
                      refine anyK_tk (v:=?_) 0 hL rfl inv (Or.inl ⟨by rfl,?_⟩) (fun inv=>?_)
                      rotate_left
                      · intro w hSw;(try dsimp only at hSw);go_simp;try with_reducible rfl
                      (try simp only[Act.put,zg,zh,zi])
                      refine anyK_tk (v:=?_) 1 hL rfl inv (Or.inl ⟨by rfl,?_⟩) (fun inv=>?_)
                      rotate_left
                      · intro w hSw;(try dsimp only at hSw);go_simp;try with_reducible rfl
                      (try simp only[Act.put,zg,zh,zi])
                      refine anyK_tk (v:=?_) 2 hL rfl inv (Or.inl ⟨by rfl,?_⟩) (fun inv=>?_)
                      rotate_left
                      · intro w hSw;(try dsimp only at hSw);go_simp;try with_reducible rfl
                      (try simp only[Act.put,zg,zh,zi])
                      refine anyK_tk (v:=?_) 3 hL rfl inv (Or.inl ⟨by rfl,?_⟩) (fun inv=>?_)
                      rotate_left
                      · intro w hSw;(try dsimp only at hSw);go_simp;try with_reducible rfl
                      (try simp only[Act.put,zg,zh,zi])
                      refine anyK_tk (v:=?_) 4 hL rfl inv (Or.inl ⟨by rfl,?_⟩) (fun inv=>?_)
                      rotate_left
                      · intro w hSw;(try dsimp only at hSw);go_simp;try with_reducible rfl
                      (try simp only[Act.put,zg,zh,zi])
                      refine anyK_tk (v:=?_) 5 hL rfl inv (Or.inl ⟨by rfl,?_⟩) (fun inv=>?_)
                      rotate_left
                      · intro w hSw;(try dsimp only at hSw);go_simp;try with_reducible rfl
                      (try simp only[Act.put,zg,zh,zi])
                      refine anyK_tk (v:=?_) 6 hL rfl inv (Or.inl ⟨by rfl,?_⟩) (fun inv=>?_)
                      rotate_left
                      · intro w hSw;(try dsimp only at hSw);go_simp;try with_reducible rfl
                      (try simp only[Act.put,zg,zh,zi])
                      refine anyK_tk (v:=?_) 7 hL rfl inv (Or.inl ⟨by rfl,?_⟩) (fun inv=>?_)
                      rotate_left
                      · intro w hSw;(try dsimp only at hSw);go_simp;try with_reducible rfl
                      (try simp only[Act.put,zg,zh,zi])
                      refine anyK_tk (v:=?_) 8 hL rfl inv (Or.inl ⟨by rfl,?_⟩) (fun inv=>?_)
                      rotate_left
                      · intro w hSw;(try dsimp only at hSw);go_simp;try with_reducible rfl
                      (try simp only[Act.put,zg,zh,zi])
                      refine anyK_tk (v:=?_) 9 hL rfl inv (Or.inl ⟨by rfl,?_⟩) (fun inv=>?_)
                      rotate_left
                      · intro w hSw;(try dsimp only at hSw);go_simp;try with_reducible rfl
                      (try simp only[Act.put,zg,zh,zi])
                      refine anyK_tk (v:=?_) 10 hL rfl inv (Or.inl ⟨by rfl,?_⟩) (fun inv=>?_)
                      rotate_left
                      · intro w hSw;(try dsimp only at hSw);go_simp;try with_reducible rfl
                      (try simp only[Act.put,zg,zh,zi])
                      refine anyK_tk (v:=?_) 11 hL rfl inv (Or.inl ⟨by rfl,?_⟩) (fun inv=>?_)
                      rotate_left
                      · intro w hSw;(try dsimp only at hSw);go_simp;try with_reducible rfl
                      (try simp only[Act.put,zg,zh,zi])
                      refine anyK_tk (v:=?_) 12 hL rfl inv (Or.inl ⟨by rfl,?_⟩) (fun inv=>?_)
                      rotate_left
                      · intro w hSw;(try dsimp only at hSw);go_simp;try with_reducible rfl
                      (try simp only[Act.put,zg,zh,zi])
                      refine yb (i:=13) (by kernel_rfl) (by kernel_rfl) rfl inv (fun K hK=>?_)
                      go_simp
                      go_at_call 21
                      refine(HC1.out _ (zm _)).mono ?_
                      rintro e W5 ⟨rfl,hb5⟩
                      have HB5:=zb ((zm wr).trans (hb5.mono (zm wr).size))
                      clear hb5 hHeld HC1 f0 f1 f2 f3 f4 f5 f6 f7 f8 f9 f10 f11 f12 f13 f14 f15 f16 f17 f18 f19 f20 f21 f22 f23 f24 f25 f26 f27 f28 f29 f30 f31 al bl l1 l2
                      obtain⟨hf,al,bl,l1,l2⟩:=HS.out W5 HB5.out
                      refine hK.out _ _ hf (fun hHeld inv=>?_)
                      clear hK K
                      (try simp only[Act.put,zg,zh,zi])
                      refine anyK_tk (v:=?_) 14 hL rfl inv (Or.inl ⟨by rfl,?_⟩) (fun inv=>?_)
                      rotate_left
                      · intro w hSw;(try dsimp only at hSw);go_simp;try with_reducible rfl
                      (try simp only[Act.put,zg,zh,zi])
                      refine anyK_tk (v:=?_) 15 hL rfl inv (Or.inl ⟨by rfl,?_⟩) (fun inv=>?_)
                      rotate_left
                      · intro w hSw;(try dsimp only at hSw);go_simp;try with_reducible rfl
                      (try simp only[Act.put,zg,zh,zi])
                      refine anyK_tk (v:=undef) 16 hL rfl inv (Or.inr ⟨by rfl,rfl⟩) (fun inv=>?_)
                      (try simp only[Act.put,zg,zh,zi])
                      refine anyK_tk (v:=undef) 17 hL rfl inv (Or.inr ⟨by rfl,rfl⟩) (fun inv=>?_)
                      (try simp only[Act.put,zg,zh,zi])
                      refine anyK_tk (v:=undef) 18 hL rfl inv (Or.inr ⟨by rfl,rfl⟩) (fun inv=>?_)
                      (try simp only[Act.put,zg,zh,zi])
                      refine anyK_tk (v:=undef) 19 hL rfl inv (Or.inr ⟨by rfl,rfl⟩) (fun inv=>?_)
                      (try simp only[Act.put,zg,zh,zi])
                      refine anyK_tk (v:=undef) 20 hL rfl inv (Or.inr ⟨by rfl,rfl⟩) (fun inv=>?_)
                      (try simp only[Act.put,zg,zh,zi])
                      refine anyK_tk (v:=undef) 21 hL rfl inv (Or.inr ⟨by rfl,rfl⟩) (fun inv=>?_)
                      (try simp only[Act.put,zg,zh,zi])
                      refine anyK_tk (v:=undef) 22 hL rfl inv (Or.inr ⟨by rfl,rfl⟩) (fun inv=>?_)
                      (try simp only[Act.put,zg,zh,zi])
                      refine anyK_tk (v:=undef) 23 hL rfl inv (Or.inr ⟨by rfl,rfl⟩) (fun inv=>?_)
                      (try simp only[Act.put,zg,zh,zi])
                      refine anyK_tk (v:=undef) 24 hL rfl inv (Or.inr ⟨by rfl,rfl⟩) (fun inv=>?_)
                      (try simp only[Act.put,zg,zh,zi])
                      refine anyK_tk (v:=undef) 25 hL rfl inv (Or.inr ⟨by rfl,rfl⟩) (fun inv=>?_)
                      (try simp only[Act.put,zg,zh,zi])
                      refine anyK_tk (v:=undef) 26 hL rfl inv (Or.inr ⟨by rfl,rfl⟩) (fun inv=>?_)
                      (try simp only[Act.put,zg,zh,zi])
                      refine anyK_tk (v:=undef) 27 hL rfl inv (Or.inr ⟨by rfl,rfl⟩) (fun inv=>?_)
                      (try simp only[Act.put,zg,zh,zi])
                      refine anyK_tk (v:=undef) 28 hL rfl inv (Or.inr ⟨by rfl,rfl⟩) (fun inv=>?_)
                      (try simp only[Act.put,zg,zh,zi])
                      refine anyK_tk (v:=undef) 29 hL rfl inv (Or.inr ⟨by rfl,rfl⟩) (fun inv=>?_)
                      (try simp only[Act.put,zg,zh,zi])
                      refine anyK_tk (v:=undef) 30 hL rfl inv (Or.inr ⟨by rfl,rfl⟩) (fun inv=>?_)
                      (try simp only[Act.put,zg,zh,zi])
                      refine yw (by kernel_rfl) rfl (by kernel_rfl) (fun K hK=>?_)
                      go_simp
                      refine hK.out _ _ ?_
                      clear hK K inv hHeld hL hf al bl l1 l2
                      have HVN:=zb (HV.out.trans (HB5.out.mono HV.out.size))
                      go_wp2_with fail
                      go_ret
                      exact⟨by rw[HNO.out (by simp)];rfl,HB0.out.trans (HVN.out.mono HB0.out.size)⟩
                   · have h2:decide ((k:Int)<(x.arms.length:Int))=false:=decide_eq_false (by omega)
                     have HN:Hid (bb=true):=zb (by
                      rw[← HBB.out,zS,HHD.out,HAN.out,qp HLR.out (fun i a b ha hb=>HL.out i a b (by have:=(List.getElem?_eq_some_iff.1 ha).1;omega) ha hb)]
                      rfl)
                     have HBN:=zb (HB0.out.trans (HV.out.mono HB0.out.size))
                     clear HL HG2
                     go_wp2_with fail
                     go_ret
                     exact⟨by rw[HN.out];rfl,HBN.out⟩
             · skip
               have HN:Hid (bb=false):=zb (by rw[← HBB.out,zS];rw[ri harms];simp)
               have qarms:((x.arms.length:Int) != (y.arms.length:Int))=true:=by rw[bne_iff_ne];omega
               have rarms:(x.arms.length != y.arms.length)=true:=by rw[bne_iff_ne];omega
               clear hkind hname hn hs hlab hargs harms
               go_wp2_with fail
               refine(HTX.out _ (Below.refl _ _)).mono ?_
               rintro e w' ⟨rfl,nq,rfl⟩
               go_wp2_with fail
               go_ret
               exact⟨by rw[HN.out];rfl,HB0.out.trans ((yJ _ _).mono HB0.out.size)⟩
           · skip
             have HN:Hid (bb=false):=zb (by rw[← HBB.out,zS];rw[ux hargs];simp)
             have qargs:((x.args.length:Int) != (y.args.length:Int))=true:=by rw[bne_iff_ne];omega
             have rargs:(x.args.length != y.args.length)=true:=by rw[bne_iff_ne];omega
             clear hkind hname hn hs hlab hargs
             go_wp2_with fail
             refine(HTX.out _ (Below.refl _ _)).mono ?_
             rintro e w' ⟨rfl,nq,rfl⟩
             go_wp2_with fail
             go_ret
             exact⟨by rw[HN.out];rfl,HB0.out.trans ((yJ _ _).mono HB0.out.size)⟩
         · skip
           have HN:Hid (bb=false):=zb (by rw[← HBB.out,zS];simp [Hd.alike,hlab])
           replace HTX:Hid (∀ W,Below W0.heap.size W0 W→Calls Tryz.prog 30 #[.slice sx.la x.hd.labels.length sx.lc,.slice sy.la y.hd.labels.length sy.lc] W (YesDrawn false W)):=zb (fun W h=>by have h9:=HTX.out W h;rwa [decide_eq_false hlab] at h9)
           clear hkind hname hn hs hlab
           go_wp2_with fail
           refine(HTX.out _ (Below.refl _ _)).mono ?_
           rintro e w' ⟨rfl,nq,rfl⟩
           go_wp2_with fail
           go_ret
           exact⟨by rw[HN.out];rfl,HB0.out.trans ((yJ _ _).mono HB0.out.size)⟩
       · skip
         have HN:Hid (bb=false):=zb (by rw[← HBB.out,zS];simp [Hd.alike,hs])
         have qs:(x.hd.s == y.hd.s)=false:=beq_eq_false_iff_ne.2 hs
         have ps:(x.hd.s != y.hd.s)=true:=bne_iff_ne.2 hs
         clear hkind hname hn hs
         go_wp2_with fail
         go_ret
         exact⟨by rw[HN.out];rfl,HB0.out⟩
     · skip
       have HN:Hid (bb=false):=zb (by rw[← HBB.out,zS];simp [Hd.alike,hn])
       have qn:(x.hd.n == y.hd.n)=false:=beq_eq_false_iff_ne.2 hn
       have pn:(x.hd.n != y.hd.n)=true:=bne_iff_ne.2 hn
       clear hkind hname hn
       go_wp2_with fail
       go_ret
       exact⟨by rw[HN.out];rfl,HB0.out⟩
   · skip
     have HN:Hid (bb=false):=zb (by rw[← HBB.out,zS];simp [Hd.alike,hname])
     have qname:(x.hd.name == y.hd.name)=false:=beq_eq_false_iff_ne.2 hname
     have pname:(x.hd.name != y.hd.name)=true:=bne_iff_ne.2 hname
     clear hkind hname
     go_wp2_with fail
     go_ret
     exact⟨by rw[HN.out];rfl,HB0.out⟩
 · skip
   have HN:Hid (bb=false):=zb (by rw[← HBB.out,zS];simp [Hd.alike,hkind])
   have qkind:(x.hd.kind == y.hd.kind)=false:=beq_eq_false_iff_ne.2 hkind
   have pkind:(x.hd.kind != y.hd.kind)=true:=bne_iff_ne.2 hkind
   clear hkind
   go_wp2_with fail
   go_ret
   exact⟨by rw[HN.out];rfl,HB0.out⟩
theorem zep (_:Bool):∀(n:Nat) (x y:Nd) (sx sy:Sl) (w:World),x.size≤n→IsE w (fun _=>True) (exL x sx) x→IsE w (fun _=>True) (exL y sy) y→Calls Tryz.prog 13 #[exOf x sx,exOf y sy,.bool false] w (YesMade (x.alike false y) w)
 | 0,x,_,_,_,_,h,_,_=>absurd h (by cases x;show ¬(1+_+_≤0);omega)
 | n+1,x,y,sx,sy,w,h,hx,hy=>zcu x y sx sy w hx hy (fun a ha b sa sb W h1 h2=>zep false n a b sa sb W (by have:=xO ha;omega) h1 h2) (fun c hc b sa sb W h1 h2=>tI false _ c.1 b sa sb W (Nat.le_refl _) h1 h2) (fun c hc b sa sb W h1 h2=>zep false n c.2 b sa sb W (by have:=(uX hc).2;omega) h1 h2)
end
section
open Go.RowKit
theorem uC (_:Bool) (x y:Nd) (sx sy:Sl) (w:World) (hx:IsE w (fun _=>True) (exL x sx) x) (hy:IsE w (fun _=>True) (exL y sy) y):Calls Tryz.prog 13 #[exOf x sx,exOf y sy,.bool false] w (YesMade (x.alike false y) w):=zep false x.size x y sx sy w (Nat.le_refl _) hx hy
end
