/-
  The walk of posts.
-/
import Derived.Test.YtblonfjlcfjodaaGreatDoorGNode
import Derived.RegionDies
namespace Go.Proofs.YtblonfjlcfjodaaGreatDoor
set_option linter.unusedSimpArgs false
set_option linter.unusedVariables false
set_option maxRecDepth 100000
set_option maxHeartbeats 4000000
section
open Go.RowKit
theorem infoExpr:(Tryz.prog.info? 27).map (fun i=>(i.zero,i.size,i.bytes))=some (some (.agg #[.int .i64 0,.int .i64 0,.string ⟨#[]⟩,.int .i64 0,.string ⟨#[]⟩,.slice none 0 0,.slice none 0 0,.slice none 0 0]),8,128):=by kernel_rfl
theorem zeF:∃ i:TypeInfo, Tryz.prog.info? 27 = some i/\i.zero=some (.agg #[.int .i64 0,.int .i64 0,.string ⟨#[]⟩,.int .i64 0,.string ⟨#[]⟩,.slice none 0 0,.slice none 0 0,.slice none 0 0])/\i.size=8/\i.bytes=128:=by
 have h:=infoExpr;cases hi : Tryz.prog.info? 27 with
 | none=>rw[hi] at h;cases h
 | some i =>
  rw[hi] at h;have h:=zc h;exact⟨i,rfl,congrArg (fun x=>x.1) h,congrArg (fun x=>x.2.1) h,congrArg (fun x=>x.2.2) h⟩
theorem zcv (w:World) (x:Nd) (s:Sl):∀(j:Nat) (u:Value),(exL x s)[j]? = some u->(w.alloc (exObj x s)).cell? ((⟨w.heap.size,0,none⟩:Addr).add j)=some u:=by
 intro j u hj;rw[Addr.add_lit,zf (zA w _ _ rfl)]
 simpa [exL] using hj
theorem ex_one (x:Nd) (s:Sl):∀ u∈exL x s,u.oneCell'=true:=by
 intro u hu;simp only[exL,List.mem_cons,List.not_mem_nil,or_false] at hu;rcases hu with rfl | rfl | rfl | rfl | rfl | rfl | rfl | rfl <;> rfl
theorem w_posts (f p:Nat) (n:Nat) (hn:n<=3) (hp1:∀ k,k<=f->Says k .post 182 #[ptrV p] p):SaysR (f+1) (.posts n []) 240 #[ptrV p,.int .i64 (n:Nat)] p:=by
 intro T w hp hne;have HLT:=zb hp.lt;have HK:=zb (Keep.start hp);have HP1:=zb hp1;have HN:=zb hne;have HR0:Hid (∃ k,k<=f+1/\run (f+1) (.posts n []) T=run k (.posts (n-0) []) T):=zb ⟨f+1,Nat.le_refl _,rfl⟩;generalize run (f+1) (.posts n []) T=res at *;obtain⟨i0,hi0,hz0,hz1,hz2⟩:=zeF;have HG0:Hid (GRow w.heap.size 27 8 w (.slice none 0 0) 0 [] (fun W N=>IsEs W N [] [])):=zb (GRow.start trivial);clear hp hne hp1
 go_enter Tryz.func240, Tryz.ntmps240
 go_wp2_with fail
 go_loopw [5,7] (fun vl vi wr=>∃(i:Nat) (l:List Nd) (L:List (List Value)) (R:List Tok) (u:Value),u=vl/\i<=n/\vi=.int .i64 i/\l.length=i/\Hid (GRow w.heap.size 27 8 wr u i L.flatten (fun W N=>IsEs W N L l))/\Hid (Keep w p R wr)/\Hid (∃ k,k<=f+1/\res=run k (.posts (n-i) l) R)) (fun _ vi _=>n-(intOf vi).toNat)
 case atStart=>exact⟨0,[],[],T,_,rfl,by omega,by go_num,rfl,HG0,HK,HR0⟩
 case round =>
  obtain⟨i,l,L,R,u,rfl,hi,rfl,hl,HG,HK,HRK⟩:=hrel;clear HG0 HR0;obtain⟨k,hk,HRk⟩:=HRK.out;by_cases hi2:i<n
  . have g1:decide ((i:Int)<(n:Int))=true:=decide_eq_true (by omega);obtain⟨k,rfl⟩:∃ j,k=j+1:=by
     cases k with
     | zero=>exact absurd HRk HN.out
     | succ k=>exact⟨k,rfl⟩
    have HR:Hid (res=exec (run k) (step (.posts (n-i) l)) R):=zb HRk;simp only[step] at HR;rw[if_neg (by omega)] at HR;simp only[exec] at HR;have HPk:=zb (HP1.out k (by omega));clear HRk HRK
    go_wp2_with fail
    cases hr:run k .post R with
    | out =>
     rw[hr] at HR;exact absurd HR.out HN.out
    | bad R9 =>
     rw[hr] at HR;refine(HPk.out R _ HK.out.at_ (by rw[hr];exact fun h=>by cases h)).mono ?_;rw[hr];rintro e w8 ⟨t8,S8,rfl,rfl,hg⟩;have HGR:=zb (zo HK.out.grown hg);clear hg hr;unfold faultV
     go_wp2_with fail
     exact⟨rfl,by rw[HR.out];exact⟨t8,S8,rfl,rfl,HGR.out⟩⟩
    | ok x R2 =>
     rw[hr] at HR;refine(HPk.out R _ HK.out.at_ (by rw[hr];exact fun h=>by cases h)).mono ?_;rw[hr];rintro e W2 ⟨s,rfl,ha,hk2⟩;have HA:Hid (IsE W2 (fun g=>w.heap.size<=g/\some g≠u.ownBlock) (exL x s) x):=zb (ha.wide fun g hg=>⟨Nat.le_trans HK.out.size hg,HG.out.new hg⟩);replace HG:=zb (HG.out.keep (zV L l) hk2 HLT.out);replace HK:=zb (HK.out.trans hk2);have hbx:=zj (w:=W2) (exObj x s);have hown:Hid ((W2.alloc (exObj x s)).ownsRow w.heap.size 27 8 u i L.flatten):=zb (HG.out.below (zV L l) hbx).own;have HGb:=zb (HG.out.below (zV L l) hbx);have HKb:=zb (HK.out.below hbx);have HAb:=zb (HA.out.below hbx);have hsrc:=zb (zcv W2 x s);have hone:=zb (ex_one x s);have hbw:w.heap.size<=(W2.alloc (exObj x s)).heap.size:=by have:=HKb.out.size;omega
     clear ha hr hk2 hbx HG HK HA;unfold exOf exV
     go_wp2_with (at_builtin;refine wpList_append_own_at _ rfl (.tmp 9) (.tmp 12) 24 rfl w.heap.size 27 i0 _ 8 128 Tryz.underlying24 hi0 hz0 hz1 hz2 rfl (by decide) _ _ _ rfl hown.out ⟨W2.heap.size,0,none⟩ 1 1 (exL x s) rfl rfl hsrc.out hone.out (by unfold maxLen;omega) (by omega) hbw ?_)
     intro v1 w4 hown1 hgr1 hnn1 hat1;have HG2:Hid (GRow w.heap.size 27 8 w4 v1 (i+1) (L++[exL x s]).flatten (fun W N=>IsEs W N (L++[exL x s]) (l++[x]))):=zb (by
      rw[← World.size_alloc W2 (exObj x s)] at hat1;have h:=HGb.out.push (Is':=fun W N=>IsEs W N (L++[exL x s]) (l++[x])) hown1 hgr1 hat1 (fun h=>IsEs.append h ⟨HAb.out,trivial⟩) (zV _ _)
      rwa [List.flatten_append,List.flatten_singleton])
     have HK2:=zb (HGb.out.keeps HKb.out (Nat.le_refl _) HLT.out hgr1).1;obtain⟨a1,c1,rfl⟩:=HG2.out.form;clear hown1 hgr1 hnn1 hat1 hown hsrc hone hbw HGb HKb HAb
     go_wp2_with fail
     go_roundw
     case rel=>exact⟨i+1,l++[x],L++[exL x s],R2,_,rfl,by omega,by go_num,by rw[List.length_append,hl];rfl,HG2,HK2,zb ⟨k,by omega,by rw[HR.out,show n-(i+1)=n-i-1 by omega];cases run k (.posts (n-i-1) (l++[x])) R2 <;> rfl⟩⟩
     case measure=>simp [intOf];omega
  . have g1:decide ((i:Int)<(n:Int))=false:=decide_eq_false (by omega);obtain⟨k,rfl⟩:∃ j,k=j+1:=by
     cases k with
     | zero=>exact absurd HRk HN.out
     | succ k=>exact⟨k,rfl⟩
    have HR:Hid (res=.ok (bag [] l []) R):=zb (by
     rw[HRk,zq];simp only[step];rw[if_pos (by omega)];rfl)
    obtain⟨a1,c1,rfl⟩:=HG.out.form;clear HRk HRK
    go_wp2_with fail
    go_ret;rw[HR.out];refine⟨a1,c1,by rw[show(bag [] l []).args=l from rfl,hl];rfl,⟨L,?_,?_⟩,HK.out⟩
    . rw[show(bag [] l []).args=l from rfl,hl];exact HG.out.rowIn
    . exact HG.out.all (zV L l)
end
section
open Go.RowKit
theorem w_post (f p:Nat) (hp1:Says f .post 182 #[ptrV p] p) (ha:Says f .atom 214 #[ptrV p] p):Says (f+1) .post 182 #[ptrV p] p:=by
 have HHP1:=zb hp1;clear hp1;have HHA:=zb ha;clear ha;intro T w hp hne;have HLT:=zb hp.lt;have HK:=zb (Keep.start hp);have hbx:=zj (w:=w) zeroObj;have HX:Hid (ZeroBox (w.alloc zeroObj) w.heap.size):=zb (ZeroBox.new w);replace HK:=zb (HK.out.below hbx);clear hbx;have HPB:Hid (p<w.heap.size):=zb (by have:=HLT.out;omega);have HB0:Hid (w.heap.size<=w.heap.size):=zb (by omega);have HR:Hid (run (f+1) .post T=exec (run f) (step .post) T):=zb rfl;have HN:=zb hne;obtain⟨t0,S0,hT0⟩:=hp.row.cons;generalize run (f+1) .post T=res at *;subst hT0;simp only[step,exec] at HR;clear hp hne
 go_enter Tryz.func182, Tryz.ntmps182
 have HAC:=zb (fun W b h hb=>yc p t0 S0 [sBang] _ _ rfl rfl (by decide) W b h hb)
 go_wp2_with fail
 refine(HAC.out _ _ HK.out.at_ (by simp)).mono ?_;rintro e W1 (⟨hy,rfl,hp2,hg2⟩ | ⟨hy,rfl,hb2⟩)
 . rw[hy,if_pos rfl] at HR;have hk2:=Keep.mk hp2 hg2;replace HX:=zb (HX.out.keep hk2 HPB.out);replace HK:=zb (HK.out.trans hk2);clear hy hp2 hg2 hk2 HAC;have hbx:=zj (w:=W1) (tokObj t0);have HT:=zb (TkBox.new W1 t0);have HTP:Hid (p<W1.heap.size):=zb (by have:=HPB.out;have:=HX.out.lt;omega);have HTZ:Hid (w.heap.size<W1.heap.size):=zb HX.out.lt;replace HX:=zb (HX.out.below hbx);replace HK:=zb (HK.out.below hbx);clear hbx;have hnd:∀ y,node 19 t0 [y]=.mk ⟨19,t0.2,[],opOf t0.1.text,[],[]⟩ [y] []:=fun _=>rfl;simp only[hnd] at HR;clear hnd;unfold tokVal tokAgg
   go_upto_region 3 with fail
   generalize hb0:W1.heap.size=b0 at *;clear hb0;generalize (W1.alloc (tokObj t0))=w3 at *;have HKd:=zb (HK.out.below (zm _));obtain⟨k0,k1,k2,k3,_⟩:=TokBox.cells (HT.out);have kl:=(HT.out).lt;have n0:¬b0=w.heap.size:=by have:=HTZ.out;omega
   have m0:¬w.heap.size=b0:=by have:=HTZ.out;omega
   cases hr:run f .post S0 with
   | out =>
    rw[hr] at HR;exact absurd HR.out HN.out
   | bad R9 =>
    rw[hr] at HR;have HSC:Hid (∀ W,PAt W p S0->Calls Tryz.prog 182 #[ptrV p] W (Told (.bad R9) W p)):=zb (fun W h=>by
     have:=HHP1.out S0 W h (by rw[hr];exact fun h=>by cases h)
     rwa [hr] at this)
    clear hr
    go_region_dies
    all_goals
     refine(HSC.out _ HKd.out.at_).mono ?_;rintro e w8 ⟨t8,S8,rfl,rfl,hg⟩;have HG:=zb (zo HKd.out.grown hg);exact⟨rfl,by rw[HR.out];exact⟨t8,S8,rfl,rfl,HG.out⟩⟩
   | ok y Ry =>
    rw[hr] at HR;have HSC:Hid (∀ W,PAt W p S0->Calls Tryz.prog 182 #[ptrV p] W (Told (.ok y Ry) W p)):=zb (fun W h=>by
     have:=HHP1.out S0 W h (by rw[hr];exact fun h=>by cases h)
     rwa [hr] at this)
    clear hr
    go_region_held3 (fun W=>W.cell? ⟨b0,0,none⟩=some (.int .i64 t0.1.kind)/\W.cell? ⟨b0,1,none⟩=some (.int .i64 (t0.2:Nat))/\W.cell? ⟨b0,2,none⟩=some (.string ⟨t0.1.text.toArray⟩)/\W.cell? ⟨b0,3,none⟩=some (.int .i64 t0.1.n)) (go_keep) (first | (go_at_call 182; refine(HSC.out _ HKd.out.at_).mono ?_;rintro e Wy ⟨sy,rfl,ha,hk⟩;have HAy:Hid (IsE Wy (fun g=>w.heap.size<g) (exL y sy) y):=zb (ha.wide fun g hg=>zd (HX.out.below (zm _)).lt hg);replace HX:=zb ((HX.out.below (zm _)).keep hk HPB.out);replace HT:=zb ((HT.out.below (zm _)).keep hk HTP.out);replace HK:=zb (HKd.out.trans hk);clear HKd;obtain⟨k0,k1,k2,k3,_⟩:=TokBox.cells (HT.out);have kl:=(HT.out).lt;clear ha hk;unfold exOf exV) | (go_at_call 123; refine(zz 19 t0 _ _ _ _).mono ?_;rintro e Wz ⟨rfl,hb2⟩;have HNR:=zb (zG (L:=[exL y sy]) (args:=[y]) HK.out ⟨HAy.out,trivial⟩ HX.out.lt (by simp) ⟨19,t0.2,[],opOf t0.1.text,[],[]⟩ rfl hb2);replace HX:=zb (HX.out.below HNR.out.2.2);replace HT:=zb (HT.out.below HNR.out.2.2);obtain⟨k0,k1,k2,k3,_⟩:=TokBox.cells (HT.out);have kl:=(HT.out).lt;obtain⟨x0,x1,x2,x3,x4,x5,x6,x7,xf⟩:=(Box8.cells HX.out);have y0:=xf 0;have y1:=xf 1;have y2:=xf 2;have y3:=xf 3;have y4:=xf 4;have y5:=xf 5;have y6:=xf 6;have y7:=xf 7;have hxl:=HX.out.lt;clear xf;clear hb2;unfold exV))
    have HS:=zb (yM HX.out HB0.out HLT.out ⟨HNR.out.1,HNR.out.2.1⟩ 1 rfl ⟨#[]⟩ rfl rfl);unfold set8 at HS
    go_wp2_with fail
    generalize World.setCell _ _ _=w9 at *;rw[HR.out];exact zu Tryz.results182 rfl rfl (HS.out _ (Below.refl _ _))
 . rw[hy,if_neg (by decide)] at HR;replace HX:=zb (HX.out.below hb2);replace HK:=zb (HK.out.below hb2);clear hb2 HAC;have hbp:=zj (w:=W1) zeroTok;replace HX:=zb (HX.out.below hbp);replace HK:=zb (HK.out.below hbp);clear hbp;unfold tokAgg
   go_wp2_with fail
   cases hr:run f .atom (t0::S0) with
   | out =>
    rw[hr] at HR;exact absurd HR.out HN.out
   | bad R9 =>
    rw[hr] at HR;refine(HHA.out (t0::S0) _ HK.out.at_ (by rw[hr];exact fun h=>by cases h)).mono ?_;rw[hr];rintro e w8 ⟨t8,S8,rfl,rfl,hg⟩;have HG:=zb (zo HK.out.grown hg);clear hg hr;unfold faultV
    go_wp2_with fail
    exact⟨rfl,by rw[HR.out];exact⟨t8,S8,rfl,rfl,HG.out⟩⟩
   | ok x R2 =>
    rw[hr] at HR;refine(HHA.out (t0::S0) _ HK.out.at_ (by rw[hr];exact fun h=>by cases h)).mono ?_;rw[hr];rintro e W2 ⟨s2,rfl,ha,hk⟩;clear hr;have HAx:Hid (IsE W2 (fun g=>w.heap.size<g) (exL x s2) x):=zb (ha.wide fun g hg=>zd HX.out.lt hg);clear ha;replace HX:=zb (HX.out.keep hk HPB.out);replace HK:=zb (HK.out.trans hk);clear hk;simp only at HR;have HRL:Hid (∃ k,k<=f/\res=run k (.dots x) R2):=zb ⟨f,Nat.le_refl _,by rw[HR.out];cases run f (.dots x) R2 <;> rfl⟩
    have HA0:Hid (IsE (W2.alloc (exObj x s2)) (Nb w.heap.size W2.heap.size) (exL x s2) x):=zb (HAx.out.fresh _);have hbx:=zj (w:=W2) (exObj x s2);have HF0:=zb (ExBox.new W2 x s2);have HX0:=zb (HX.out.below hbx);have HK0:=zb (HK.out.below hbx);have HNE:Hid (W2.heap.size≠w.heap.size/\w.heap.size<=W2.heap.size/\p<W2.heap.size):=zb ⟨by have:=HX.out.lt;omega,HK.out.size,by have:=HK.out.size;have:=HLT.out;omega⟩;clear hbx HAx HX HK HR;unfold exOf exV
    go_wp2_with fail
    generalize hbe:W2.heap.size=be at *;clear hbe;generalize W2.alloc (exObj x s2)=w3 at *
    go_loopw [7] (fun _ wr=>∃(x:Nd) (s:Sl) (R:List Tok),Hid (ExBox wr be x s)/\Hid (IsE wr (Nb w.heap.size be) (exL x s) x)/\Hid (Keep w p R wr)/\Hid (ZeroBox wr w.heap.size)/\Hid (∃ k,k<=f/\res=run k (.dots x) R)) (fun _ wr=>lenAt wr p)
    case atStart=>exact⟨x,s2,R2,HF0,HA0,HK0,HX0,HRL⟩
    case round =>
     clear HF0 HA0 HK0 HX0 HRL;obtain⟨x,s,R,HF,HA,HK,HX,HRL⟩:=hrel;obtain⟨t,S,rfl⟩:=HK.out.at_.row.cons;have HM:=zb HK.out.at_.len;obtain⟨k,hk,HRk⟩:=HRL.out;obtain⟨k,rfl⟩:∃ j,k=j+1:=by
      cases k with
      | zero=>exact absurd HRk HN.out
      | succ k=>exact⟨k,rfl⟩
     have HR:Hid (res=exec (run k) (step (.dots x)) (t::S)):=zb HRk;simp only[step,name,exec] at HR;clear HRk HRL;have HAC:=zb (fun W b h hb=>yc p t S [sDot] _ _ rfl rfl (by decide) W b h hb)
     go_wp2_with fail
     refine(HAC.out _ _ HK.out.at_ (by simp)).mono ?_;rintro e V2 (⟨hy,rfl,hp2,hg2⟩ | ⟨hy,rfl,hb2⟩)
     . rw[hy,if_pos rfl] at HR;have hk2:=Keep.mk hp2 hg2;replace HF:=zb (HF.out.keep hk2 HNE.out.2.2);replace HA:=zb (HA.out.keep hk2 (fun g hg=>Nat.lt_trans HPB.out hg.1));replace HX:=zb (HX.out.keep hk2 HPB.out);replace HK:=zb (HK.out.trans hk2);have hbx:=zj (w:=V2) (tokObj t);have HT:=zb (TkBox.new V2 t);replace HF:=zb (HF.out.below hbx);replace HA:=zb (HA.out.below hbx);replace HX:=zb (HX.out.below hbx);replace HK:=zb (HK.out.below hbx);clear hy hp2 hg2 hk2 HAC hbx;obtain⟨e0,e1,e2,e3,e4,e5,e6,e7,_⟩:=Box8.cells HF.out;have el:=HF.out.lt;obtain⟨k0,k1,k2,k3,_⟩:=TokBox.cells HT.out;have kl:=HT.out.lt;unfold tokVal tokAgg
       go_wp2_with fail
       refine(zz 14 t (some _) 1 1 _).mono ?_;rintro e V3 ⟨rfl,hb3⟩;have HNR:=zb (zJ (N:=Nb w.heap.size be) (L:=[exL x s]) (args:=[x]) HK.out ⟨HA.out,trivial⟩ ⟨HX.out.lt,Nat.ne_of_gt el⟩ (by simp) ⟨14,t.2,[],0,[],[]⟩ rfl hb3);replace HF:=zb (HF.out.below HNR.out.2.2);replace HX:=zb (HX.out.below HNR.out.2.2);replace HK:=zb HNR.out.2.1;clear e0 e1 e2 e3 e4 e5 e6 e7 el k0 k1 k2 k3 kl hb3 HT;obtain⟨e0,e1,e2,e3,e4,e5,e6,e7,ef⟩:=Box8.cells HF.out;have g0:=ef 0;have g1:=ef 1;have g2:=ef 2;have g3:=ef 3;have g4:=ef 4;have g5:=ef 5;have g6:=ef 6;have g7:=ef 7;have el:=HF.out.lt;have HE9:=zb (ya (h:=⟨14,t.2,[],0,[],[]⟩) (args:=[x]) HF.out HNR.out.1 HK.out HLT.out HNE.out.2.1 HNE.out.1 rfl);unfold set8 at HE9;simp only[World.size_alloc,List.length_cons,List.length_nil,Nat.zero_add] at HE9;clear ef;unfold exV
       go_upto_region 9 with fail
       have HE:=zb HE9.out.1;replace HX:Hid (ZeroBox _ w.heap.size):=zb ((HE9.out.2 _ HNE.out.1.symm).trans HX.out);clear HE9 HNR HF HK e0 e1 e2 e3 e4 e5 e6 e7 g0 g1 g2 g3 g4 g5 g6 g7 el;generalize World.setCell _ _ _=w5 at *;obtain⟨t2,S2,rfl⟩:=HE.out.keep.at_.row.cons;simp only[exec] at HR;have HM2:=zb HE.out.keep.at_.len;have HNM:=zb (vQ p t2 S2 w5 HE.out.keep.at_)
       go_wp2_with fail
       refine HNM.out.mono ?_;rintro e V4 (⟨hy,rfl,hp2,hg2⟩ | ⟨hy,rfl,hb2⟩)
       . rw[hy,if_pos rfl] at HR;have hk2:=Keep.mk hp2 hg2;replace HX:=zb (HX.out.keep hk2 HPB.out);replace HE:=zb (HE.out.more HPB.out hk2);clear hy hp2 hg2 hk2 HNM;obtain⟨e0,e1,e2,e3,e4,e5,e6,e7,ef⟩:=Box8.cells HE.out.box;have g2:=ef 2;have el:=HE.out.box.lt;clear ef
         go_wp2_with fail
         replace HX:=zb (HX.out.set HE.out.ne 2 (.string ⟨t2.1.text.toArray⟩));replace HE:=zb (HE.out.name t2.1.text);clear e0 e1 e2 e3 e4 e5 e6 e7 g2 el;generalize World.setCell _ _ _=w6 at *;have HM3:=zb HE.out.keep.at_.len
         go_roundw
         case rel=>exact⟨named 14 t t2.1.text [x],⟨none,0,some ⟨V2.heap.size+1,0,none⟩,1,none,0⟩,S2,zb HE.out.box,zb HE.out.tree,zb HE.out.keep,HX,zb ⟨k,by omega,by rw[HR.out];show _=run k (.dots (named 14 t t2.1.text [x])) S2;cases run k (.dots (named 14 t t2.1.text [x])) S2 <;> rfl⟩⟩
         case measure=>rw[HM3.out,HM.out];simp;omega
       . rw[hy,if_neg (by decide)] at HR;have HG:=zb (zr HE.out.keep.grown hb2);clear hb2 HNM;unfold faultV
         go_wp2_with fail
         exact⟨rfl,by rw[HR.out];exact⟨t2,S2,rfl,rfl,HG.out⟩⟩
     . rw[hy,if_neg (by decide)] at HR;replace HF:=zb (HF.out.below hb2);have HAx:=zb ((HA.out.below hb2).wide (fun g hg=>hg.1));replace HX:=zb (HX.out.below hb2);replace HK:=zb (HK.out.below hb2);clear hb2 HAC hy HA;obtain⟨x0,x1,x2,x3,x4,x5,x6,x7,xf⟩:=(Box8.cells HX.out);have y0:=xf 0;have y1:=xf 1;have y2:=xf 2;have y3:=xf 3;have y4:=xf 4;have y5:=xf 5;have y6:=xf 6;have y7:=xf 7;have hxl:=HX.out.lt;clear xf;obtain⟨f0,f1,f2,f3,f4,f5,f6,f7,_⟩:=Box8.cells (HF.out);have fl:=(HF.out).lt;have HS:=zb (zH HX.out HB0.out HK.out HLT.out HAx.out rfl);unfold set8 at HS;unfold tokAgg
       go_wp2_with fail
       generalize World.setCell _ _ _=w9 at *;rw[HR.out];exact zu Tryz.results182 rfl rfl (HS.out _ (zj _))
end
