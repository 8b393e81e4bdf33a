/-
  The walk of app.
-/
import Derived.Test.YtblonfjlcfjodaaGreatDoorGNode
import Derived.RegionDies
namespace Go.Proofs.YtblonfjlcfjodaaGreatDoor
set_option linter.unusedSimpArgs false
set_option linter.unusedVariables false
set_option maxRecDepth 100000
set_option maxHeartbeats 4000000
open Go.RowKit
def app3:PM:=.call .post fun e=>.call (.apps e) .ret
def app2:PM:=.acc (isOne word3) (fun t=>.call (.posts 3 []) fun r=>.ret (node 19 t r.args)) app3
def app1:PM:=.acc (isOne word2) (fun t=>.call (.posts 2 []) fun r=>.ret (node 19 t r.args)) app2
def app0:PM:=.acc (isOne word1) (fun t=>.call (.posts 1 []) fun r=>.ret (node 19 t r.args)) app1
theorem app_no {rec:Md->List Tok->PR} {t:Tok} {S:List Tok} (h:isKind 3 t=false):exec rec (step .app) (t::S)=exec rec app0 (t::S):=by
 show(if isKind 3 t=true then _ else _)=_
 rw[h];rfl
theorem app_yes {rec:Md->List Tok->PR} {t:Tok} {S:List Tok} (h:isKind 3 t=true):exec rec (step .app) (t::S)=match rec .post S with
 | .ok x R=>.ok (named 15 t t.1.text [x]) R
 | .bad R=>.bad R
 | .out=>.out:=by
 show(if isKind 3 t=true then _ else _)=_
 rw[h,if_pos rfl];cases hq:rec .post S <;> simp only[exec,hq]
theorem app0_no {rec:Md->List Tok->PR} {t:Tok} {S:List Tok} (h:isOne word1 t=false):exec rec app0 (t::S)=exec rec app1 (t::S):=by
 show(if isOne word1 t=true then _ else _)=_
 rw[h];rfl
theorem app0_yes {rec:Md->List Tok->PR} {t:Tok} {S:List Tok} (h:isOne word1 t=true):exec rec app0 (t::S)=match rec (.posts 1 []) S with
 | .ok x R=>.ok (node 19 t x.args) R
 | .bad R=>.bad R
 | .out=>.out:=by
 show(if isOne word1 t=true then _ else _)=_
 rw[h,if_pos rfl];cases hq:rec (.posts 1 []) S <;> simp only[exec,hq]
theorem app1_no {rec:Md->List Tok->PR} {t:Tok} {S:List Tok} (h:isOne word2 t=false):exec rec app1 (t::S)=exec rec app2 (t::S):=by
 show(if isOne word2 t=true then _ else _)=_
 rw[h];rfl
theorem app1_yes {rec:Md->List Tok->PR} {t:Tok} {S:List Tok} (h:isOne word2 t=true):exec rec app1 (t::S)=match rec (.posts 2 []) S with
 | .ok x R=>.ok (node 19 t x.args) R
 | .bad R=>.bad R
 | .out=>.out:=by
 show(if isOne word2 t=true then _ else _)=_
 rw[h,if_pos rfl];cases hq:rec (.posts 2 []) S <;> simp only[exec,hq]
theorem app2_no {rec:Md->List Tok->PR} {t:Tok} {S:List Tok} (h:isOne word3 t=false):exec rec app2 (t::S)=exec rec app3 (t::S):=by
 show(if isOne word3 t=true then _ else _)=_
 rw[h];rfl
theorem app2_yes {rec:Md->List Tok->PR} {t:Tok} {S:List Tok} (h:isOne word3 t=true):exec rec app2 (t::S)=match rec (.posts 3 []) S with
 | .ok x R=>.ok (node 19 t x.args) R
 | .bad R=>.bad R
 | .out=>.out:=by
 show(if isOne word3 t=true then _ else _)=_
 rw[h,if_pos rfl];cases hq:rec (.posts 3 []) S <;> simp only[exec,hq]
theorem zcw (W:World):(Instr.index 256 (.agg #[.string ⟨#[114,101,102]⟩,.string ⟨#[108,101,110]⟩,.string ⟨#[115,105,122,101]⟩,.string ⟨#[103,101,116,99]⟩,.string ⟨#[112,117,116,99]⟩,.string ⟨#[97,114,114,97,121]⟩,.string ⟨#[103,101,116]⟩,.string ⟨#[98,121,116,101]⟩,.string ⟨#[99,97,116]⟩,.string ⟨#[]⟩,.string ⟨#[115,101,116]⟩,.string ⟨#[]⟩,.string ⟨#[]⟩,.string ⟨#[]⟩,.string ⟨#[]⟩]) (.int .i64 0)).run Tryz.prog W=.ok (.agg #[.string ⟨#[114,101,102]⟩,.string ⟨#[108,101,110]⟩,.string ⟨#[115,105,122,101]⟩,.string ⟨#[103,101,116,99]⟩,.string ⟨#[112,117,116,99]⟩]) W:=by kernel_rfl
theorem zct (W:World):(Instr.index 256 (.agg #[.string ⟨#[114,101,102]⟩,.string ⟨#[108,101,110]⟩,.string ⟨#[115,105,122,101]⟩,.string ⟨#[103,101,116,99]⟩,.string ⟨#[112,117,116,99]⟩,.string ⟨#[97,114,114,97,121]⟩,.string ⟨#[103,101,116]⟩,.string ⟨#[98,121,116,101]⟩,.string ⟨#[99,97,116]⟩,.string ⟨#[]⟩,.string ⟨#[115,101,116]⟩,.string ⟨#[]⟩,.string ⟨#[]⟩,.string ⟨#[]⟩,.string ⟨#[]⟩]) (.int .i64 1)).run Tryz.prog W=.ok (.agg #[.string ⟨#[97,114,114,97,121]⟩,.string ⟨#[103,101,116]⟩,.string ⟨#[98,121,116,101]⟩,.string ⟨#[99,97,116]⟩,.string ⟨#[]⟩]) W:=by kernel_rfl
theorem zcD (W:World):(Instr.index 256 (.agg #[.string ⟨#[114,101,102]⟩,.string ⟨#[108,101,110]⟩,.string ⟨#[115,105,122,101]⟩,.string ⟨#[103,101,116,99]⟩,.string ⟨#[112,117,116,99]⟩,.string ⟨#[97,114,114,97,121]⟩,.string ⟨#[103,101,116]⟩,.string ⟨#[98,121,116,101]⟩,.string ⟨#[99,97,116]⟩,.string ⟨#[]⟩,.string ⟨#[115,101,116]⟩,.string ⟨#[]⟩,.string ⟨#[]⟩,.string ⟨#[]⟩,.string ⟨#[]⟩]) (.int .i64 2)).run Tryz.prog W=.ok (.agg #[.string ⟨#[115,101,116]⟩,.string ⟨#[]⟩,.string ⟨#[]⟩,.string ⟨#[]⟩,.string ⟨#[]⟩]) W:=by kernel_rfl
theorem q7 {t:Tok} (h:TokOK t) (l:List (List UInt8)) (k:Nat):isOne (l++List.replicate k []) t=isOne l t:=by
 unfold isOne;by_cases hk:t.1.kind=7∨t.1.kind=6
 . have ht:=h.text hk;have:(l++List.replicate k []).contains t.1.text=l.contains t.1.text:=by
    rw[Bool.eq_iff_iff];simp only[List.contains_iff_mem,List.mem_append,List.mem_replicate];exact⟨fun h=>h.resolve_right fun h=>ht h.2,.inl⟩
   rw[this]
 . have:(decide (t.1.kind=7)||decide (t.1.kind=6))=false:=by simpa using hk
   rw[this,Bool.false_and,Bool.false_and]
theorem strAt_ty (W:World) (b:Nat) (hb:b=W.heap.size) (L:List (List UInt8)) (ty:TypeId) (n:Nat) (hn:L.length=n):StrAt (W.alloc (.cells (L.map fun l=>Value.string ⟨l.toArray⟩).toArray ty (0,0))) (.slice (some ⟨b,0,none⟩) n n) L:=by
 subst hb hn;exact⟨W.heap.size,0,L.length,rfl,by simp,fun i l hl=>by
  rw[zf (zA W _ _ rfl),Nat.zero_add,List.getElem?_toArray,List.getElem?_map,hl];rfl⟩
theorem uu (p:Nat) (t:Tok) (R:List Tok) (L:List (List UInt8)) (k:Nat) (ty:TypeId) (cs:Array Value) (hcs:((L++List.replicate k []).map fun (l:List UInt8)=>Value.string ⟨l.toArray⟩).toArray=cs) (n:Nat) (hn:(L++List.replicate k []).length=n) (hl:n<=1000) (W:World) (b:Nat) (h:PAt W p (t::R)) (hb:b=W.heap.size) :
 Calls Tryz.prog 122 #[.pointer (some ⟨p,0,none⟩),.slice (some ⟨b,0,none⟩) n n] (W.alloc (.cells cs ty (0,0))) (Accepted L p t R W):=by
 subst hcs;refine(qk p t R _ (L++List.replicate k []) _ (h.below (zj _)) (strAt_ty W b hb _ ty n hn) (by omega)).mono fun e w' h9=>?_;unfold Accepted at h9;rw[q7 (h.ok t (by simp)) L k] at h9;exact sq (zj _) h9
theorem us {N:Nat->Prop} {w W1 W2:World} {p:Nat} {R:List Tok} {args:List Nd} {g:Option Addr} {c:Nat} (hk:Keep w p R W1) (hr:ExRow W1 N (.slice g args.length c) args) (h:Hd) (hlab:h.labels=[]) (hb:Below W1.heap.size W1 W2) :
 IsE W2 N (exL (.mk h args []) ⟨none,0,g,c,none,0⟩) (.mk h args [])/\Keep w p R W2:=by
 obtain⟨L,h1,h2⟩:=hr.ex;obtain⟨k,q,x,n,s,ls⟩:=h;obtain rfl:ls=[]:=hlab;have hm:Move W1 N W2 N:=fun g hg hl=>⟨hg,hb.block g hl⟩;exact⟨⟨_,_,_,rfl,zx _ _ _ _,⟨L,h1.move hm,h2.moves hm⟩,[],zx _ _ _ _,trivial⟩,hk.below hb⟩
theorem ExRow.wide {w:World} {N N':Nat->Prop} {v:Value} {l:List Nd} (h:ExRow w N v l) (hk:∀ g,N g->N' g):ExRow w N' v l:=by
 obtain⟨L,h1,h2⟩:=h.ex;exact⟨L,h1.move fun g hg _=>⟨hk g hg,rfl⟩,h2.moves fun g hg _=>⟨hk g hg,rfl⟩⟩
theorem w_app (f p:Nat) (hp1:∀ k,k<=f->Says k .post 182 #[ptrV p] p) (hps:∀ n,n<=3->SaysR f (.posts n []) 240 #[ptrV p,.int .i64 (n:Nat)] p):Says (f+1) .app 232 #[ptrV p] p:=by
 have HHP1:=zb hp1;clear hp1;have HHPS:=zb hps;clear hps;have HHPF:=zb (HHP1.out f (Nat.le_refl _));intro T w hp hne;have HLT:=zb hp.lt;have HK:=zb (Keep.start hp);have hbx:=zj (w:=w) zeroObj;have HX:Hid (ZeroBox (w.alloc zeroObj) w.heap.size):=zb (ZeroBox.new w);replace HK:=zb (HK.out.below hbx);clear hbx;have HPB:Hid (p<w.heap.size):=zb (by have:=HLT.out;omega);have HB0:Hid (w.heap.size<=w.heap.size):=zb (by omega);have HR:Hid (run (f+1) .app T=exec (run f) (step .app) T):=zb rfl;have HN:=zb hne;obtain⟨t0,S0,hT0⟩:=hp.row.cons;generalize run (f+1) .app T=res at *;subst hT0;clear hp hne
 go_enter Tryz.func232, Tryz.ntmps232
 obtain⟨g,off,cap,q0,_,l1,l2,l3,j0,j1,j2,j3⟩:=HK.out.at_.view;have jb:(0:Int)<((S0.length:Int)+1):=by omega
 have jg:g<w.heap.size:=by have:=HLT.out;omega
 by_cases hk:t0.1.kind=3
 . have B3:(t0.1.kind == 3)=true:=by rw[beq_iff_eq];exact hk
   have hk0:t0.1.kind≠0:=by omega
   obtain⟨u0,S1,rfl⟩:=xx HK.out.at_.row hk0;replace HR:=zb (HR.out.trans (app_yes (decide_eq_true hk)));have HRD:=zb (fun W h=>vB p t0 u0 S1 W h hk0);clear hk hk0
   go_wp2_with fail
   refine(HRD.out _ HK.out.at_).mono ?_;rintro e V1 ⟨rfl,hp2,hg2⟩;have hk2:=Keep.mk hp2 hg2;replace HX:=zb (HX.out.keep hk2 HPB.out);replace HK:=zb (HK.out.trans hk2);clear hp2 hg2 hk2 HRD q0 l1 l2 l3 j0 j1 j2 j3 jb jg B3;have hbx:=zj (w:=V1) (tokObj t0);have HT:=zb (TkBox.new V1 t0);have HTP:Hid (p<V1.heap.size):=zb (by have:=HPB.out;have:=HX.out.lt;omega);have HTZ:Hid (w.heap.size<V1.heap.size):=zb HX.out.lt;replace HX:=zb (HX.out.below hbx);replace HK:=zb (HK.out.below hbx);clear hbx;unfold tokVal tokAgg
   go_upto_region 3 with fail
   generalize hb0:V1.heap.size=b0 at *;clear hb0;generalize (V1.alloc (tokObj t0))=w3 at *;have HKd:=zb (HK.out.below (zm _));have hz0:Below w3.heap.size w3 (w3.alloc zeroObj).drew:=(zj zeroObj).trans ((zm _).mono (by simp));have HZ0:=zb hz0;have HKe:=zb (HK.out.below hz0);have HEe:=zb ((ZeroBox.new w3).below (zm _));clear hz0;obtain⟨k0,k1,k2,k3,_⟩:=TokBox.cells (HT.out);have kl:=(HT.out).lt;have n0:¬b0=w.heap.size:=by have:=HTZ.out;omega
   have m0:¬w.heap.size=b0:=by have:=HTZ.out;omega
   have p0:¬b0=w3.heap.size:=by omega
   have q0:¬w3.heap.size=b0:=by omega
   cases hr:run f .post (u0::S1) with
   | out =>
    rw[hr] at HR;exact absurd HR.out HN.out
   | bad R9 =>
    rw[hr] at HR;have HSC:Hid (∀ W,PAt W p (u0::S1)->Calls Tryz.prog 182 #[ptrV p] W (Told (.bad R9) W p)):=zb (fun W h=>by
     have:=HHPF.out (u0::S1) W h (by rw[hr];exact fun h=>by cases h)
     rwa [hr] at this)
    clear hr
    go_region_dies
    all_goals first | (refine(HSC.out _ HKd.out.at_).mono ?_;rintro e w8 ⟨t8,S8,rfl,rfl,hg⟩;have HG:=zb (zo HKd.out.grown hg);exact⟨rfl,by rw[HR.out];exact⟨t8,S8,rfl,rfl,HG.out⟩⟩) | (refine(HSC.out _ HKe.out.at_).mono ?_;rintro e w8 ⟨t8,S8,rfl,rfl,hg⟩;have HG:=zb (zo HKe.out.grown hg);exact⟨rfl,by rw[HR.out];exact⟨t8,S8,rfl,rfl,HG.out⟩⟩)
   | ok b Ry =>
    rw[hr] at HR;have HSC:Hid (∀ W,PAt W p (u0::S1)->Calls Tryz.prog 182 #[ptrV p] W (Told (.ok b Ry) W p)):=zb (fun W h=>by
     have:=HHPF.out (u0::S1) W h (by rw[hr];exact fun h=>by cases h)
     rwa [hr] at this)
    clear hr;have HEN0:Hid (w.heap.size<=w3.heap.size/\w3.heap.size≠w.heap.size):=zb ⟨HK.out.size,by have:=HX.out.lt;omega⟩
    go_region_held3 (fun W=>W.cell? ⟨b0,0,none⟩=some (.int .i64 t0.1.kind)/\W.cell? ⟨b0,1,none⟩=some (.int .i64 (t0.2:Nat))/\W.cell? ⟨b0,2,none⟩=some (.string ⟨t0.1.text.toArray⟩)/\W.cell? ⟨b0,3,none⟩=some (.int .i64 t0.1.n)) (go_keep) (first | (go_at_call 182; refine(HSC.out _ HKd.out.at_).mono ?_;rintro e Wy ⟨sy,rfl,ha,hk⟩;have HAb:Hid (IsE Wy (fun g=>w.heap.size<g) (exL b sy) b):=zb (ha.wide fun g hg=>zd (HX.out.below (zm _)).lt hg);replace HX:=zb ((HX.out.below (zm _)).keep hk HPB.out);replace HT:=zb ((HT.out.below (zm _)).keep hk HTP.out);replace HK:=zb (HKd.out.trans hk);clear HKd HKe;obtain⟨k0,k1,k2,k3,_⟩:=TokBox.cells (HT.out);have kl:=(HT.out).lt;clear ha hk;unfold exOf exV) | (go_at_call 182; refine(HSC.out _ HKe.out.at_).mono ?_;rintro e Wy ⟨sy,rfl,ha,hk⟩;have HAb:=zb (ha.fresh_new (b0:=w.heap.size) (be:=w3.heap.size) (HX.out.below HZ0.out).lt HEe.out.lt);have HEZ:=zb (HEe.out.keep hk (Nat.lt_trans HPB.out HX.out.lt));replace HX:=zb ((HX.out.below HZ0.out).keep hk HPB.out);replace HT:=zb ((HT.out.below HZ0.out).keep hk HTP.out);replace HK:=zb (HKe.out.trans hk);clear HKd HKe;obtain⟨k0,k1,k2,k3,_⟩:=TokBox.cells (HT.out);have kl:=(HT.out).lt;clear ha hk;unfold exOf exV) | (go_at_call 123; refine(zz 15 t0 (some _) 1 1 _).mono ?_;rintro e Wz ⟨rfl,hb2⟩;have HNR:=zb (zG (L:=[exL b sy]) (args:=[b]) HK.out ⟨HAb.out,trivial⟩ HX.out.lt (by simp) ⟨15,t0.2,[],0,[],[]⟩ rfl hb2);have HTR:=zb HNR.out.1;replace HX:=zb (HX.out.below HNR.out.2.2);replace HK:=zb HNR.out.2.1;have p0:¬b0=Wz.heap.size:=(by have:=HT.out.lt;have:=HNR.out.2.2.size;omega);have q0:¬Wz.heap.size=b0:=(by omega);replace HT:=zb (HT.out.below HNR.out.2.2);obtain⟨k0,k1,k2,k3,_⟩:=TokBox.cells (HT.out);have kl:=(HT.out).lt;clear hb2 HNR;unfold exV) | (go_at_call 123; refine(zz 15 t0 (some _) 1 1 _).mono ?_;rintro e Wz ⟨rfl,hb2⟩;have HNR:=zb (zJ (N:=Nb (w.heap.size) w3.heap.size) (L:=[exL b sy]) (args:=[b]) HK.out ⟨HAb.out,trivial⟩ ⟨HX.out.lt,Nat.ne_of_gt HEZ.out.lt⟩ (by simp) ⟨15,t0.2,[],0,[],[]⟩ rfl hb2);have HTR:=zb HNR.out.1;replace HEZ:=zb (HEZ.out.below HNR.out.2.2);have HEN:Hid (w.heap.size<=w3.heap.size/\w3.heap.size≠w.heap.size):=HEN0;replace HX:=zb (HX.out.below HNR.out.2.2);replace HK:=zb HNR.out.2.1;obtain⟨x0,x1,x2,x3,x4,x5,x6,x7,xf⟩:=(Box8.cells HEZ.out);have y0:=xf 0;have y1:=xf 1;have y2:=xf 2;have y3:=xf 3;have y4:=xf 4;have y5:=xf 5;have y6:=xf 6;have y7:=xf 7;have hxl:=HEZ.out.lt;clear xf;replace HT:=zb (HT.out.below HNR.out.2.2);obtain⟨k0,k1,k2,k3,_⟩:=TokBox.cells (HT.out);have kl:=(HT.out).lt;clear hb2 HNR;unfold exV) | (go_at_call 123; refine(zz 15 t0 (some _) 1 1 _).mono ?_;rintro e Wz ⟨rfl,hb2⟩;have HNR:=zb (zJ (N:=Nb (w.heap.size) Wy.heap.size) (L:=[exL b sy]) (args:=[b]) (HK.out.below (zj zeroObj)) ⟨HAb.out.fresh zeroObj,trivial⟩ ⟨(HX.out.below (zj zeroObj)).lt,by simp⟩ (by simp) ⟨15,t0.2,[],0,[],[]⟩ rfl hb2);have HTR:=zb HNR.out.1;have HEZ:=zb ((ZeroBox.new Wy).below HNR.out.2.2);replace HNR:Hid (True/\Keep w p Ry Wz/\Below Wy.heap.size Wy Wz):=zb ⟨trivial,HNR.out.2.1,(zj zeroObj).trans (HNR.out.2.2.mono (by simp))⟩;simp only[World.size_alloc] at HTR;have HEN:Hid (w.heap.size<=Wy.heap.size/\Wy.heap.size≠w.heap.size):=zb ⟨HK.out.size,by have:=HX.out.lt;omega⟩;replace HX:=zb (HX.out.below HNR.out.2.2);replace HK:=zb HNR.out.2.1;obtain⟨x0,x1,x2,x3,x4,x5,x6,x7,xf⟩:=(Box8.cells HEZ.out);have y0:=xf 0;have y1:=xf 1;have y2:=xf 2;have y3:=xf 3;have y4:=xf 4;have y5:=xf 5;have y6:=xf 6;have y7:=xf 7;have hxl:=HEZ.out.lt;clear xf;have p0:¬b0=Wy.heap.size:=(by have:=HT.out.lt;have:=HNR.out.2.2.size;omega);have q0:¬Wy.heap.size=b0:=(by omega);replace HT:=zb (HT.out.below HNR.out.2.2);obtain⟨k0,k1,k2,k3,_⟩:=TokBox.cells (HT.out);have kl:=(HT.out).lt;clear hb2 HNR;unfold exV) | (go_at_call 123; refine(zz 15 t0 (some _) 1 1 _).mono ?_;rintro e Wz ⟨rfl,hb2⟩;have HN0:=zG (L:=[exL b sy]) (args:=[b]) HK.out ⟨HAb.out,trivial⟩ HX.out.lt (by simp) ⟨15,t0.2,[],0,[],[]⟩ rfl (Below.refl _ (Wy.alloc (.cells (List.flatten [exL b sy]).toArray 27 (0,0))));have HTR:=zb ((HN0.1.fresh zeroObj).below hb2);have HEZ:=zb ((ZeroBox.new (Wy.alloc (.cells (List.flatten [exL b sy]).toArray 27 (0,0)))).below hb2);have HNR:Hid (True/\Keep w p Ry Wz/\Below Wy.heap.size Wy Wz):=zb ⟨trivial,(HN0.2.1.below (zj zeroObj)).below hb2,(HN0.2.2.trans ((zj zeroObj).mono HN0.2.2.size)).trans (hb2.mono (by simp;omega))⟩;clear HN0;simp only[World.size_alloc] at HTR HEZ;have HEN:Hid (w.heap.size<=Wy.heap.size+1/\Wy.heap.size+1≠w.heap.size):=zb ⟨by have:=HK.out.size;omega,by have:=HX.out.lt;omega⟩;replace HX:=zb (HX.out.below HNR.out.2.2);replace HK:=zb HNR.out.2.1;obtain⟨x0,x1,x2,x3,x4,x5,x6,x7,xf⟩:=(Box8.cells HEZ.out);have y0:=xf 0;have y1:=xf 1;have y2:=xf 2;have y3:=xf 3;have y4:=xf 4;have y5:=xf 5;have y6:=xf 6;have y7:=xf 7;have hxl:=HEZ.out.lt;clear xf;have p0:¬b0=(Wy.heap.size+1):=(by have:=HT.out.lt;have:=HNR.out.2.2.size;omega);have q0:¬(Wy.heap.size+1)=b0:=(by omega);replace HT:=zb (HT.out.below HNR.out.2.2);obtain⟨k0,k1,k2,k3,_⟩:=TokBox.cells (HT.out);have kl:=(HT.out).lt;clear hb2 HNR;unfold exV))
    all_goals
     first
      | (have HE:=zb (yK (h:=⟨15,t0.2,[],0,[],[]⟩) (args:=[b]) HTR.out HK.out HLT.out HX.out.lt _ rfl);have hb5:=zj (w:=Wz) (.cells #[.int .i64 15,.int .i64 (t0.2:Nat),.string ⟨#[]⟩,.int .i64 (0),.string ⟨#[]⟩,.slice none 0 0,.slice (some ⟨Wy.heap.size,0,none⟩) 1 1,.slice none 0 0] 27 (0,0));replace HX:=zb (HX.out.below hb5);replace HT:=zb (HT.out.below hb5);clear hb5 HTR HK HZ0 HEe HEN0;generalize World.alloc Wz _=w5 at *)
      | (have HE9:=zb (ya (h:=⟨15,t0.2,[],0,[],[]⟩) (args:=[b]) HEZ.out HTR.out HK.out HLT.out HEN.out.1 HEN.out.2 rfl);unfold set8 at HE9;have HE:=zb HE9.out.1;replace HX:Hid (ZeroBox _ (w.heap.size)):=zb ((HE9.out.2 _ HEN.out.2.symm).trans HX.out);replace HT:Hid (TkBox _ (b0) t0):=zb ((HE9.out.2 _ p0).trans HT.out);clear HE9 HTR HK HEZ HZ0 HEe HEN0 HEN;clear x0 x1 x2 x3 x4 x5 x6 x7 y0 y1 y2 y3 y4 y5 y6 y7 hxl;generalize World.setCell _ _ _=w5 at *)
     obtain⟨k0,k1,k2,k3,_⟩:=TokBox.cells HT.out;have kl:=HT.out.lt;obtain⟨e0,e1,e2,e3,e4,e5,e6,e7,ef⟩:=Box8.cells HE.out.box;have g2:=ef 2;have el:=HE.out.box.lt;clear ef
     go_upto_region 5 with fail
     replace HX:=zb (HX.out.set HE.out.ne 2 (.string ⟨t0.1.text.toArray⟩));replace HE:=zb (HE.out.name t0.1.text);clear e0 e1 e2 e3 e4 e5 e6 e7 g2 el;generalize World.setCell _ _ _=w4 at *;obtain⟨e0,e1,e2,e3,e4,e5,e6,e7,ef⟩:=Box8.cells HE.out.box;have el:=HE.out.box.lt;clear ef;obtain⟨x0,x1,x2,x3,x4,x5,x6,x7,xf⟩:=(Box8.cells HX.out);have y0:=xf 0;have y1:=xf 1;have y2:=xf 2;have y3:=xf 3;have y4:=xf 4;have y5:=xf 5;have y6:=xf 6;have y7:=xf 7;have hxl:=HX.out.lt;clear xf;have HS:=zb (HE.out.ret rfl HX.out HB0.out HLT.out rfl);unfold set8 at HS;dsimp only at HS
     go_wp2_with fail
     generalize World.setCell _ _ _=w9 at *;rw[HR.out];exact zu Tryz.results232 rfl rfl (HS.out _ (Below.refl _ _))
 . have B3:(t0.1.kind == 3)=false:=beq_eq_false_iff_ne.2 hk;have HV:=HK.out.at_.vars;have hw:=HV.words;have u0:=hw 0 _ rfl;have u1:=hw 1 _ rfl;have u2:=hw 2 _ rfl;have u3:=hw 3 _ rfl;have u4:=hw 4 _ rfl;have u5:=hw 5 _ rfl;have u6:=hw 6 _ rfl;have u7:=hw 7 _ rfl;have u8:=hw 8 _ rfl;have u9:=hw 9 _ rfl;have u10:=hw 10 _ rfl;have u11:=hw 11 _ rfl;have u12:=hw 12 _ rfl;have u13:=hw 13 _ rfl;have u14:=hw 14 _ rfl;have ug : 3 < w.heap.size:=by have:=HLT.out;have:=HK.out.at_.low.1;omega
   clear hw HV;replace HR:=zb (HR.out.trans (app_no (decide_eq_false hk)));clear hk
   go_wp2_with fail
   clear u0 u1 u2 u3 u4 u5 u6 u7 u8 u9 u10 u11 u12 u13 u14 ug q0 l1 l2 l3 j0 j1 j2 j3 jb jg B3;generalize w.alloc zeroObj=wz at *
   go_loopw [30] (fun vi wr=>(vi=.int .i64 0/\Hid (Keep w p (t0::S0) wr)/\Hid (ZeroBox wr w.heap.size)/\Hid (res=exec (run f) app0 (t0::S0)))∨(vi=.int .i64 1/\Hid (Keep w p (t0::S0) wr)/\Hid (ZeroBox wr w.heap.size)/\Hid (res=exec (run f) app1 (t0::S0)))∨(vi=.int .i64 2/\Hid (Keep w p (t0::S0) wr)/\Hid (ZeroBox wr w.heap.size)/\Hid (res=exec (run f) app2 (t0::S0)))∨(vi=.int .i64 3/\Hid (Keep w p (t0::S0) wr)/\Hid (ZeroBox wr w.heap.size)/\Hid (res=exec (run f) app3 (t0::S0)))) (fun vi _=>3-(intOf vi).toNat)
   case atStart=>exact .inl ⟨rfl,HK,HX,HR⟩
   case round =>
    clear HK HX HR;rcases hrel with⟨rfl,HK,HX,HR⟩ | ⟨rfl,HK,HX,HR⟩ | ⟨rfl,HK,HX,HR⟩ | ⟨rfl,HK,HX,HR⟩
    . have hix:=zcw;have HAC:=zb (fun W b h hb=>uu p t0 S0 word1 0 255 _ rfl 5 rfl (by decide) W b h hb)
      go_wp2_with fail
      refine(HAC.out _ _ HK.out.at_ (by first | rfl | simp)).mono ?_
      rintro e V1 (⟨hy,rfl,hp2,hg2⟩ | ⟨hy,rfl,hb2⟩)
      . replace HR:=zb (HR.out.trans (app0_yes hy));have hk2:=Keep.mk hp2 hg2;replace HX:=zb (HX.out.keep hk2 HPB.out);replace HK:=zb (HK.out.trans hk2);clear hy hp2 hg2 hk2 HAC hix;have hbx:=zj (w:=V1) (tokObj t0);have HT:=zb (TkBox.new V1 t0);have HTP:Hid (p<V1.heap.size):=zb (by have:=HPB.out;have:=HX.out.lt;omega);have HTZ:Hid (w.heap.size<V1.heap.size):=zb HX.out.lt;replace HX:=zb (HX.out.below hbx);replace HK:=zb (HK.out.below hbx);clear hbx;unfold tokVal tokAgg
        go_upto_region 11 with fail
        generalize hb0:V1.heap.size=b0 at *;clear hb0;generalize (V1.alloc (tokObj t0))=w3 at *;have HKd:=zb (HK.out.below (zm _));obtain⟨k0,k1,k2,k3,_⟩:=TokBox.cells (HT.out);have kl:=(HT.out).lt;have n0:¬b0=w.heap.size:=by have:=HTZ.out;omega
        have m0:¬w.heap.size=b0:=by have:=HTZ.out;omega
        cases hr:run f (.posts 1 []) S0 with
        | out =>
         rw[hr] at HR;exact absurd HR.out HN.out
        | bad R9 =>
         rw[hr] at HR;have HSC:Hid (∀ W,PAt W p S0->Calls Tryz.prog 240 #[ptrV p,.int .i64 1] W (ToldR (.bad R9) W p)):=zb (fun W h=>by
          have:=HHPS.out 1 (by decide) S0 W h (by rw[hr];exact fun h=>by cases h)
          rwa [hr] at this)
         clear hr
         go_region_dies
         all_goals
          refine(HSC.out _ HKd.out.at_).mono ?_;rintro e w8 ⟨t8,S8,rfl,rfl,hg⟩;have HG:=zb (zo HKd.out.grown hg);exact⟨rfl,by rw[HR.out];exact⟨t8,S8,rfl,rfl,HG.out⟩⟩
        | ok x R2 =>
         rw[hr] at HR;have HSC:Hid (∀ W,PAt W p S0->Calls Tryz.prog 240 #[ptrV p,.int .i64 1] W (ToldR (.ok x R2) W p)):=zb (fun W h=>by
          have:=HHPS.out 1 (by decide) S0 W h (by rw[hr];exact fun h=>by cases h)
          rwa [hr] at this)
         clear hr
         go_region_held3 (fun W=>W.cell? ⟨b0,0,none⟩=some (.int .i64 t0.1.kind)/\W.cell? ⟨b0,1,none⟩=some (.int .i64 (t0.2:Nat))/\W.cell? ⟨b0,2,none⟩=some (.string ⟨t0.1.text.toArray⟩)/\W.cell? ⟨b0,3,none⟩=some (.int .i64 t0.1.n)) (go_keep) (first | (go_at_call 240; refine(HSC.out _ HKd.out.at_).mono ?_;rintro e Wy ⟨g9,c9,rfl,ha,hk⟩;have HAx:=zb (ha.wide (N':=fun g=>w.heap.size<g) fun g hg=>zd (HX.out.below (zm _)).lt hg);replace HX:=zb ((HX.out.below (zm _)).keep hk HPB.out);replace HT:=zb ((HT.out.below (zm _)).keep hk HTP.out);replace HK:=zb (HKd.out.trans hk);clear HKd;obtain⟨k0,k1,k2,k3,_⟩:=TokBox.cells (HT.out);have kl:=(HT.out).lt;clear ha hk) | (go_at_call 123; refine(zz 19 t0 _ _ _ _).mono ?_;rintro e Wz ⟨rfl,hb2⟩;have HNR:=zb (us HK.out HAx.out ⟨19,t0.2,[],opOf t0.1.text,[],[]⟩ rfl hb2);replace HX:=zb (HX.out.below hb2);replace HT:=zb (HT.out.below hb2);obtain⟨k0,k1,k2,k3,_⟩:=TokBox.cells (HT.out);have kl:=(HT.out).lt;obtain⟨x0,x1,x2,x3,x4,x5,x6,x7,xf⟩:=(Box8.cells HX.out);have y0:=xf 0;have y1:=xf 1;have y2:=xf 2;have y3:=xf 3;have y4:=xf 4;have y5:=xf 5;have y6:=xf 6;have y7:=xf 7;have hxl:=HX.out.lt;clear xf;clear hb2;unfold exV))
         have HS:=zb (yM (args:=x.args) HX.out HB0.out HLT.out ⟨HNR.out.1,HNR.out.2⟩ x.args.length rfl ⟨#[]⟩ rfl rfl);unfold set8 at HS
         go_wp2_with fail
         generalize World.setCell _ _ _=w9 at *;rw[HR.out];exact zu Tryz.results232 rfl rfl (HS.out _ (Below.refl _ _))
      . replace HR:=zb (HR.out.trans (app0_no hy));replace HX:=zb (HX.out.below hb2);replace HK:=zb (HK.out.below hb2);clear hb2 HAC hy hix;have hbp:=zj (w:=V1) zeroTok;replace HX:=zb (HX.out.below hbp);replace HK:=zb (HK.out.below hbp);clear hbp;unfold tokAgg
        go_wp2_with fail
        go_roundw
        case rel=>exact .inr (.inl ⟨by first | rfl | go_num,HK,HX,HR⟩)
        case measure=>first | decide | (simp [intOf];done) | omega
    . have hix:=zct;have HAC:=zb (fun W b h hb=>uu p t0 S0 word2 1 255 _ rfl 5 rfl (by decide) W b h hb)
      go_wp2_with fail
      refine(HAC.out _ _ HK.out.at_ (by first | rfl | simp)).mono ?_
      rintro e V1 (⟨hy,rfl,hp2,hg2⟩ | ⟨hy,rfl,hb2⟩)
      . replace HR:=zb (HR.out.trans (app1_yes hy));have hk2:=Keep.mk hp2 hg2;replace HX:=zb (HX.out.keep hk2 HPB.out);replace HK:=zb (HK.out.trans hk2);clear hy hp2 hg2 hk2 HAC hix;have hbx:=zj (w:=V1) (tokObj t0);have HT:=zb (TkBox.new V1 t0);have HTP:Hid (p<V1.heap.size):=zb (by have:=HPB.out;have:=HX.out.lt;omega);have HTZ:Hid (w.heap.size<V1.heap.size):=zb HX.out.lt;replace HX:=zb (HX.out.below hbx);replace HK:=zb (HK.out.below hbx);clear hbx;unfold tokVal tokAgg
        go_upto_region 11 with fail
        generalize hb0:V1.heap.size=b0 at *;clear hb0;generalize (V1.alloc (tokObj t0))=w3 at *;have HKd:=zb (HK.out.below (zm _));obtain⟨k0,k1,k2,k3,_⟩:=TokBox.cells (HT.out);have kl:=(HT.out).lt;have n0:¬b0=w.heap.size:=by have:=HTZ.out;omega
        have m0:¬w.heap.size=b0:=by have:=HTZ.out;omega
        cases hr:run f (.posts 2 []) S0 with
        | out =>
         rw[hr] at HR;exact absurd HR.out HN.out
        | bad R9 =>
         rw[hr] at HR;have HSC:Hid (∀ W,PAt W p S0->Calls Tryz.prog 240 #[ptrV p,.int .i64 2] W (ToldR (.bad R9) W p)):=zb (fun W h=>by
          have:=HHPS.out 2 (by decide) S0 W h (by rw[hr];exact fun h=>by cases h)
          rwa [hr] at this)
         clear hr
         go_region_dies
         all_goals
          refine(HSC.out _ HKd.out.at_).mono ?_;rintro e w8 ⟨t8,S8,rfl,rfl,hg⟩;have HG:=zb (zo HKd.out.grown hg);exact⟨rfl,by rw[HR.out];exact⟨t8,S8,rfl,rfl,HG.out⟩⟩
        | ok x R2 =>
         rw[hr] at HR;have HSC:Hid (∀ W,PAt W p S0->Calls Tryz.prog 240 #[ptrV p,.int .i64 2] W (ToldR (.ok x R2) W p)):=zb (fun W h=>by
          have:=HHPS.out 2 (by decide) S0 W h (by rw[hr];exact fun h=>by cases h)
          rwa [hr] at this)
         clear hr
         go_region_held3 (fun W=>W.cell? ⟨b0,0,none⟩=some (.int .i64 t0.1.kind)/\W.cell? ⟨b0,1,none⟩=some (.int .i64 (t0.2:Nat))/\W.cell? ⟨b0,2,none⟩=some (.string ⟨t0.1.text.toArray⟩)/\W.cell? ⟨b0,3,none⟩=some (.int .i64 t0.1.n)) (go_keep) (first | (go_at_call 240; refine(HSC.out _ HKd.out.at_).mono ?_;rintro e Wy ⟨g9,c9,rfl,ha,hk⟩;have HAx:=zb (ha.wide (N':=fun g=>w.heap.size<g) fun g hg=>zd (HX.out.below (zm _)).lt hg);replace HX:=zb ((HX.out.below (zm _)).keep hk HPB.out);replace HT:=zb ((HT.out.below (zm _)).keep hk HTP.out);replace HK:=zb (HKd.out.trans hk);clear HKd;obtain⟨k0,k1,k2,k3,_⟩:=TokBox.cells (HT.out);have kl:=(HT.out).lt;clear ha hk) | (go_at_call 123; refine(zz 19 t0 _ _ _ _).mono ?_;rintro e Wz ⟨rfl,hb2⟩;have HNR:=zb (us HK.out HAx.out ⟨19,t0.2,[],opOf t0.1.text,[],[]⟩ rfl hb2);replace HX:=zb (HX.out.below hb2);replace HT:=zb (HT.out.below hb2);obtain⟨k0,k1,k2,k3,_⟩:=TokBox.cells (HT.out);have kl:=(HT.out).lt;obtain⟨x0,x1,x2,x3,x4,x5,x6,x7,xf⟩:=(Box8.cells HX.out);have y0:=xf 0;have y1:=xf 1;have y2:=xf 2;have y3:=xf 3;have y4:=xf 4;have y5:=xf 5;have y6:=xf 6;have y7:=xf 7;have hxl:=HX.out.lt;clear xf;clear hb2;unfold exV))
         have HS:=zb (yM (args:=x.args) HX.out HB0.out HLT.out ⟨HNR.out.1,HNR.out.2⟩ x.args.length rfl ⟨#[]⟩ rfl rfl);unfold set8 at HS
         go_wp2_with fail
         generalize World.setCell _ _ _=w9 at *;rw[HR.out];exact zu Tryz.results232 rfl rfl (HS.out _ (Below.refl _ _))
      . replace HR:=zb (HR.out.trans (app1_no hy));replace HX:=zb (HX.out.below hb2);replace HK:=zb (HK.out.below hb2);clear hb2 HAC hy hix;have hbp:=zj (w:=V1) zeroTok;replace HX:=zb (HX.out.below hbp);replace HK:=zb (HK.out.below hbp);clear hbp;unfold tokAgg
        go_wp2_with fail
        go_roundw
        case rel=>exact .inr (.inr (.inl ⟨by first | rfl | go_num,HK,HX,HR⟩))
        case measure=>first | decide | (simp [intOf];done) | omega
    . have hix:=zcD;have HAC:=zb (fun W b h hb=>uu p t0 S0 word3 4 255 _ rfl 5 rfl (by decide) W b h hb)
      go_wp2_with fail
      refine(HAC.out _ _ HK.out.at_ (by first | rfl | simp)).mono ?_
      rintro e V1 (⟨hy,rfl,hp2,hg2⟩ | ⟨hy,rfl,hb2⟩)
      . replace HR:=zb (HR.out.trans (app2_yes hy));have hk2:=Keep.mk hp2 hg2;replace HX:=zb (HX.out.keep hk2 HPB.out);replace HK:=zb (HK.out.trans hk2);clear hy hp2 hg2 hk2 HAC hix;have hbx:=zj (w:=V1) (tokObj t0);have HT:=zb (TkBox.new V1 t0);have HTP:Hid (p<V1.heap.size):=zb (by have:=HPB.out;have:=HX.out.lt;omega);have HTZ:Hid (w.heap.size<V1.heap.size):=zb HX.out.lt;replace HX:=zb (HX.out.below hbx);replace HK:=zb (HK.out.below hbx);clear hbx;unfold tokVal tokAgg
        go_upto_region 11 with fail
        generalize hb0:V1.heap.size=b0 at *;clear hb0;generalize (V1.alloc (tokObj t0))=w3 at *;have HKd:=zb (HK.out.below (zm _));obtain⟨k0,k1,k2,k3,_⟩:=TokBox.cells (HT.out);have kl:=(HT.out).lt;have n0:¬b0=w.heap.size:=by have:=HTZ.out;omega
        have m0:¬w.heap.size=b0:=by have:=HTZ.out;omega
        cases hr:run f (.posts 3 []) S0 with
        | out =>
         rw[hr] at HR;exact absurd HR.out HN.out
        | bad R9 =>
         rw[hr] at HR;have HSC:Hid (∀ W,PAt W p S0->Calls Tryz.prog 240 #[ptrV p,.int .i64 3] W (ToldR (.bad R9) W p)):=zb (fun W h=>by
          have:=HHPS.out 3 (by decide) S0 W h (by rw[hr];exact fun h=>by cases h)
          rwa [hr] at this)
         clear hr
         go_region_dies
         all_goals
          refine(HSC.out _ HKd.out.at_).mono ?_;rintro e w8 ⟨t8,S8,rfl,rfl,hg⟩;have HG:=zb (zo HKd.out.grown hg);exact⟨rfl,by rw[HR.out];exact⟨t8,S8,rfl,rfl,HG.out⟩⟩
        | ok x R2 =>
         rw[hr] at HR;have HSC:Hid (∀ W,PAt W p S0->Calls Tryz.prog 240 #[ptrV p,.int .i64 3] W (ToldR (.ok x R2) W p)):=zb (fun W h=>by
          have:=HHPS.out 3 (by decide) S0 W h (by rw[hr];exact fun h=>by cases h)
          rwa [hr] at this)
         clear hr
         go_region_held3 (fun W=>W.cell? ⟨b0,0,none⟩=some (.int .i64 t0.1.kind)/\W.cell? ⟨b0,1,none⟩=some (.int .i64 (t0.2:Nat))/\W.cell? ⟨b0,2,none⟩=some (.string ⟨t0.1.text.toArray⟩)/\W.cell? ⟨b0,3,none⟩=some (.int .i64 t0.1.n)) (go_keep) (first | (go_at_call 240; refine(HSC.out _ HKd.out.at_).mono ?_;rintro e Wy ⟨g9,c9,rfl,ha,hk⟩;have HAx:=zb (ha.wide (N':=fun g=>w.heap.size<g) fun g hg=>zd (HX.out.below (zm _)).lt hg);replace HX:=zb ((HX.out.below (zm _)).keep hk HPB.out);replace HT:=zb ((HT.out.below (zm _)).keep hk HTP.out);replace HK:=zb (HKd.out.trans hk);clear HKd;obtain⟨k0,k1,k2,k3,_⟩:=TokBox.cells (HT.out);have kl:=(HT.out).lt;clear ha hk) | (go_at_call 123; refine(zz 19 t0 _ _ _ _).mono ?_;rintro e Wz ⟨rfl,hb2⟩;have HNR:=zb (us HK.out HAx.out ⟨19,t0.2,[],opOf t0.1.text,[],[]⟩ rfl hb2);replace HX:=zb (HX.out.below hb2);replace HT:=zb (HT.out.below hb2);obtain⟨k0,k1,k2,k3,_⟩:=TokBox.cells (HT.out);have kl:=(HT.out).lt;obtain⟨x0,x1,x2,x3,x4,x5,x6,x7,xf⟩:=(Box8.cells HX.out);have y0:=xf 0;have y1:=xf 1;have y2:=xf 2;have y3:=xf 3;have y4:=xf 4;have y5:=xf 5;have y6:=xf 6;have y7:=xf 7;have hxl:=HX.out.lt;clear xf;clear hb2;unfold exV))
         have HS:=zb (yM (args:=x.args) HX.out HB0.out HLT.out ⟨HNR.out.1,HNR.out.2⟩ x.args.length rfl ⟨#[]⟩ rfl rfl);unfold set8 at HS
         go_wp2_with fail
         generalize World.setCell _ _ _=w9 at *;rw[HR.out];exact zu Tryz.results232 rfl rfl (HS.out _ (Below.refl _ _))
      . replace HR:=zb (HR.out.trans (app2_no hy));replace HX:=zb (HX.out.below hb2);replace HK:=zb (HK.out.below hb2);clear hb2 HAC hy hix;have hbp:=zj (w:=V1) zeroTok;replace HX:=zb (HX.out.below hbp);replace HK:=zb (HK.out.below hbp);clear hbp;unfold tokAgg
        go_wp2_with fail
        go_roundw
        case rel=>exact .inr (.inr (.inr (⟨by first | rfl | go_num,HK,HX,HR⟩)))
        case measure=>first | decide | (simp [intOf];done) | omega
    . unfold app3 at HR;simp only[exec] at HR
      go_wp2_with fail
      cases hr:run f .post (t0::S0) with
      | out =>
       rw[hr] at HR;exact absurd HR.out HN.out
      | bad R9 =>
       rw[hr] at HR;refine(HHPF.out (t0::S0) _ HK.out.at_ (by rw[hr];exact fun h=>by cases h)).mono ?_;rw[hr];rintro e w8 ⟨t8,S8,rfl,rfl,hg⟩;have HG:=zb (zo HK.out.grown hg);clear hg hr;unfold faultV
       go_wp2_with fail
       exact⟨rfl,by rw[HR.out];exact⟨t8,S8,rfl,rfl,HG.out⟩⟩
      | ok x R1 =>
       rw[hr] at HR;refine(HHPF.out (t0::S0) _ HK.out.at_ (by rw[hr];exact fun h=>by cases h)).mono ?_;rw[hr];rintro e W1 ⟨s1,rfl,ha,hk⟩;clear hr;have HAx:Hid (IsE W1 (fun g=>w.heap.size<g) (exL x s1) x):=zb (ha.wide fun g hg=>zd HX.out.lt hg);clear ha;replace HX:=zb (HX.out.keep hk HPB.out);replace HK:=zb (HK.out.trans hk);clear hk;simp only at HR;have HRL:Hid (∃ k,k<=f/\res=run k (.apps x) R1):=zb ⟨f,Nat.le_refl _,by rw[HR.out];cases run f (.apps x) R1 <;> rfl⟩
       have HA0:Hid (IsE (W1.alloc (exObj x s1)) (Nb w.heap.size W1.heap.size) (exL x s1) x):=zb (HAx.out.fresh _);have hbx:=zj (w:=W1) (exObj x s1);have HF0:=zb (ExBox.new W1 x s1);have HX0:=zb (HX.out.below hbx);have HK0:=zb (HK.out.below hbx);have HNE:Hid (W1.heap.size≠w.heap.size/\w.heap.size<=W1.heap.size/\p<W1.heap.size):=zb ⟨by have:=HX.out.lt;omega,HK.out.size,by have:=HK.out.size;have:=HLT.out;omega⟩;clear hbx HAx HX HK HR;unfold exOf exV
       go_wp2_with fail
       generalize hbe:W1.heap.size=be at *;clear hbe;generalize W1.alloc (exObj x s1)=w3 at *
       go_loopw [51] (fun _ wr=>∃(x:Nd) (s:Sl) (R:List Tok),Hid (ExBox wr be x s)/\Hid (IsE wr (Nb w.heap.size be) (exL x s) x)/\Hid (Keep w p R wr)/\Hid (ZeroBox wr w.heap.size)/\Hid (∃ k,k<=f/\res=run k (.apps x) R)) (fun _ wr=>lenAt wr p)
       case atStart=>exact⟨x,s1,R1,HF0,HA0,HK0,HX0,HRL⟩
       case round =>
        clear HF0 HA0 HK0 HX0 HRL;obtain⟨x,s,R,HF,HA,HK,HX,HRL⟩:=hrel;obtain⟨t,S,rfl⟩:=HK.out.at_.row.cons;have HM:=zb HK.out.at_.len;obtain⟨k,hk,HRk⟩:=HRL.out;obtain⟨k,rfl⟩:∃ j,k=j+1:=by
         cases k with
         | zero=>exact absurd HRk HN.out
         | succ k=>exact⟨k,rfl⟩
        have HR:Hid (res=exec (run k) (step (.apps x)) (t::S)):=zb HRk;simp only[step,exec] at HR;have HPk:=zb (HHP1.out k (by omega));clear HRk HRL;have HAC:=zb (fun W h=>zbg p t S W h)
        go_wp2_with fail
        refine(HAC.out _ HK.out.at_).mono ?_;rintro e V2 ⟨rfl,hb2⟩;replace HF:=zb (HF.out.below hb2);replace HA:=zb (HA.out.below hb2);replace HX:=zb (HX.out.below hb2);replace HK:=zb (HK.out.below hb2);clear hb2 HAC;cases hy:begins t with
        | true =>
         rw[hy,if_pos rfl] at HR;clear hy
         go_upto_region 15 with fail
         have HKd:=zb (HK.out.below (zm _));obtain⟨e0,e1,e2,e3,e4,e5,e6,e7,ef⟩:=Box8.cells HF.out;have g0:=ef 0;have g1:=ef 1;have g2:=ef 2;have g3:=ef 3;have g4:=ef 4;have g5:=ef 5;have g6:=ef 6;have g7:=ef 7;have el:=HF.out.lt;clear ef;cases hr:run k .post (t::S) with
         | out =>
          rw[hr] at HR;exact absurd HR.out HN.out
         | bad R9 =>
          rw[hr] at HR;have HSC:Hid (∀ W,PAt W p (t::S)->Calls Tryz.prog 182 #[ptrV p] W (Told (.bad R9) W p)):=zb (fun W h=>by
           have:=HPk.out (t::S) W h (by rw[hr];exact fun h=>by cases h)
           rwa [hr] at this)
          clear hr
          go_region_dies
          all_goals
           refine(HSC.out _ HKd.out.at_).mono ?_;rintro e w8 ⟨t8,S8,rfl,rfl,hg⟩;have HG:=zb (zo HKd.out.grown hg);exact⟨rfl,by rw[HR.out];exact⟨t8,S8,rfl,rfl,HG.out⟩⟩
         | ok b R2 =>
          rw[hr] at HR;have HSC:Hid (∀ W,PAt W p (t::S)->Calls Tryz.prog 182 #[ptrV p] W (Told (.ok b R2) W p)):=zb (fun W h=>by
           have:=HPk.out (t::S) W h (by rw[hr];exact fun h=>by cases h)
           rwa [hr] at this)
          have HM2:Hid (R2.length<S.length+1):=zb (by
           have h9:=xd k .post (t::S);rw[hr] at h9;obtain⟨P,h1,_,h3⟩:=h9;have h4:=congrArg List.length h1;have h5:=List.length_pos_iff.2 (h3 rfl);rw[List.length_append,List.length_cons] at h4;omega)
          clear hr;refine yg 7 (fun W=>W.cell? ⟨be,0,none⟩=some (.int .i64 x.hd.kind)/\W.cell? ⟨be,1,none⟩=some (.int .i64 x.hd.pos)/\W.cell? ⟨be,2,none⟩=some (.string ⟨x.hd.name.toArray⟩)/\W.cell? ⟨be,3,none⟩=some (.int .i64 x.hd.n)/\W.cell? ⟨be,4,none⟩=some (.string ⟨x.hd.s.toArray⟩)/\W.cell? ⟨be,5,none⟩=some (.slice s.la x.hd.labels.length s.lc)/\W.cell? ⟨be,6,none⟩=some (.slice s.aa x.args.length s.ac)/\W.cell? ⟨be,7,none⟩=some (.slice s.ra x.arms.length s.rc)) (by kernel_rfl) (by kernel_rfl) (by go_keep) (fun hL inv hHeld=>?_);refine zl 0 hL rfl inv (fun inv=>?_)
          (try simp only[Act.put,zg,zh,zi])
          refine zl 1 hL rfl inv (fun inv=>?_)
          (try simp only[Act.put,zg,zh,zi])
          refine zl 2 hL rfl inv (fun inv=>?_)
          (try simp only[Act.put,zg,zh,zi])
          refine zl 3 hL rfl inv (fun inv=>?_)
          (try simp only[Act.put,zg,zh,zi])
          refine yb (i:=4) (by kernel_rfl) (by kernel_rfl) rfl inv (fun K hK=>?_)
          go_simp
          go_at_call 182
          refine(HSC.out _ HKd.out.at_).mono ?_;rintro e Wy ⟨sy,rfl,ha,hk⟩;have HAb:Hid (IsE Wy (Nb w.heap.size be) (exL b sy) b):=zb (ha.fresh_new (HX.out.below (zm _)).lt (HF.out.below (zm _)).lt);replace HA:=zb ((HA.out.below (zm _)).keep hk (fun g hg=>Nat.lt_trans HPB.out hg.1));replace HX:=zb ((HX.out.below (zm _)).keep hk HPB.out);replace HF:=zb ((HF.out.below (zm _)).keep hk HNE.out.2.2);replace HK:=zb (HKd.out.trans hk);clear HKd e0 e1 e2 e3 e4 e5 e6 e7 g0 g1 g2 g3 g4 g5 g6 g7 el ha hk;obtain⟨e0,e1,e2,e3,e4,e5,e6,e7,ef⟩:=Box8.cells HF.out;have g0:=ef 0;have g1:=ef 1;have g2:=ef 2;have g3:=ef 3;have g4:=ef 4;have g5:=ef 5;have g6:=ef 6;have g7:=ef 7;have el:=HF.out.lt;clear ef;unfold exOf exV;refine hK.out _ _ ⟨e0,e1,e2,e3,e4,e5,e6,e7⟩ (fun hHeld inv=>?_);clear hK K
          (try simp only[Act.put,zg,zh,zi])
          refine yb (i:=5) (by kernel_rfl) (by kernel_rfl) rfl inv (fun K hK=>?_)
          go_simp
          generalize hw3:Wy.alloc _=w3;have HNR:Hid (IsE w3 (Nb w.heap.size be) (exL (.mk ⟨8,x.hd.pos,[],0,[],[]⟩ [x,b] []) ⟨none,0,some ⟨Wy.heap.size,0,none⟩,2,none,0⟩) (.mk ⟨8,x.hd.pos,[],0,[],[]⟩ [x,b] [])/\Keep w p R2 w3/\Below Wy.heap.size Wy w3):=zb (by
           subst hw3;exact zJ (N:=Nb w.heap.size be) (L:=[exL x s,exL b sy]) (args:=[x,b]) HK.out ⟨HA.out,HAb.out,trivial⟩ ⟨HX.out.lt,Nat.ne_of_gt el⟩ (by simp) ⟨8,x.hd.pos,[],0,[],[]⟩ rfl (Below.refl _ _))
          replace HF:=zb (HF.out.below HNR.out.2.2);replace HX:=zb (HX.out.below HNR.out.2.2);replace HK:=zb HNR.out.2.1;clear hw3 e0 e1 e2 e3 e4 e5 e6 e7 g0 g1 g2 g3 g4 g5 g6 g7 el hHeld;obtain⟨e0,e1,e2,e3,e4,e5,e6,e7,ef⟩:=Box8.cells HF.out;have g0:=ef 0;have g1:=ef 1;have g2:=ef 2;have g3:=ef 3;have g4:=ef 4;have g5:=ef 5;have g6:=ef 6;have g7:=ef 7;have el:=HF.out.lt;refine hK.out _ _ ⟨e0,e1,e2,e3,e4,e5,e6,e7⟩ (fun hHeld inv=>?_);clear hK K
          (try simp only[Act.put,zg,zh,zi])
          refine zl 6 hL rfl inv (fun inv=>?_)
          (try simp only[Act.put,zg,zh,zi])
          have HE9:=zb (ya (h:=⟨8,x.hd.pos,[],0,[],[]⟩) (args:=[x,b]) HF.out HNR.out.1 HK.out HLT.out HNE.out.2.1 HNE.out.1 rfl);unfold set8 at HE9;simp only[List.length_cons,List.length_nil,Nat.zero_add] at HE9;clear ef;refine yw (by kernel_rfl) rfl (by kernel_rfl) (fun K hK=>?_)
          go_simp
          refine hK.out _ _ ?_;clear hK K inv hHeld hL;have HE:=zb HE9.out.1;replace HX:Hid (ZeroBox _ w.heap.size):=zb ((HE9.out.2 _ HNE.out.1.symm).trans HX.out);clear HE9 HNR HF HK e0 e1 e2 e3 e4 e5 e6 e7 g0 g1 g2 g3 g4 g5 g6 g7 el;generalize World.setCell _ _ _=w5 at *;have HM3:=zb HE.out.keep.at_.len
          go_roundw
          case rel=>exact⟨_,_,_,_,_,_,_,_,_,⟨.mk ⟨8,x.hd.pos,[],0,[],[]⟩ [x,b] [],⟨none,0,some ⟨Wy.heap.size,0,none⟩,2,none,0⟩,R2,zb HE.out.box,zb HE.out.tree,zb HE.out.keep,HX,zb ⟨k,by omega,by rw[HR.out];show _=run k (.apps (.mk ⟨8,x.hd.pos,[],0,[],[]⟩ [x,b] [])) R2;simp only;cases run k (.apps (.mk ⟨8,x.hd.pos,[],0,[],[]⟩ [x,b] [])) R2 <;> rfl⟩⟩,rfl⟩
          case measure=>rw[HM3.out,HM.out];have:=HM2.out;simp;omega
        | false =>
         rw[hy,if_neg (by decide)] at HR;have HAx:=zb (HA.out.wide (fun g hg=>hg.1));clear hy HA;obtain⟨x0,x1,x2,x3,x4,x5,x6,x7,xf⟩:=(Box8.cells HX.out);have y0:=xf 0;have y1:=xf 1;have y2:=xf 2;have y3:=xf 3;have y4:=xf 4;have y5:=xf 5;have y6:=xf 6;have y7:=xf 7;have hxl:=HX.out.lt;clear xf;obtain⟨f0,f1,f2,f3,f4,f5,f6,f7,_⟩:=Box8.cells (HF.out);have fl:=(HF.out).lt;have HS:=zb (zH HX.out HB0.out HK.out HLT.out HAx.out rfl);unfold set8 at HS
         go_wp2_with fail
         generalize World.setCell _ _ _=w9 at *;rw[HR.out];exact zu Tryz.results232 rfl rfl (HS.out _ (Below.refl _ _))
