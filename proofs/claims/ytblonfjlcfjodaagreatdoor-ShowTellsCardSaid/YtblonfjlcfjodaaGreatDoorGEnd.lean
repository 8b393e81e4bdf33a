/-
  The walk of text.
-/
import Derived.Test.YtblonfjlcfjodaaGreatDoorGSeq
import Derived.Test.YtblonfjlcfjodaaGreatDoorGFun
import Derived.Test.YtblonfjlcfjodaaGreatDoorPLet
import Derived.Test.YtblonfjlcfjodaaGreatDoorGLv0
import Derived.Test.YtblonfjlcfjodaaGreatDoorGLv2
import Derived.Test.YtblonfjlcfjodaaGreatDoorPLv3
import Derived.Test.YtblonfjlcfjodaaGreatDoorPLv4
import Derived.Test.YtblonfjlcfjodaaGreatDoorGPatA
import Derived.Test.YtblonfjlcfjodaaGreatDoorPFld
import Derived.Test.YtblonfjlcfjodaaGreatDoorPBrc
import Derived.Test.YtblonfjlcfjodaaGreatDoorGIter
import Derived.Defers
import Derived.Recover
import Derived.Test.YtblonfjlcfjodaaGreatDoorGPure
namespace Go.Proofs.YtblonfjlcfjodaaGreatDoor
set_option linter.unusedSimpArgs false
set_option linter.unusedVariables false
set_option maxRecDepth 100000
set_option maxHeartbeats 4000000
section
open Go.RowKit
def ToldT (r:PR) (a:World) (e:Ending) (w':World):Prop:=match r with
 | .ok x _=>∃ s,e=.returned (exOf x s)/\IsE w' (fun g=>a.heap.size<=g) (exL x s) x/\Below a.heap.size a w'
 | .bad R=>∃ t S,R=t::S/\e=faultV t.2/\Below a.heap.size a w'
 | .out=>False
theorem zaf {a w':World} {p:Nat} {o:Obj} (hp:p=a.heap.size) (h:(a.alloc o).grownBy w' (some p)):Below a.heap.size a w':=by
 subst hp;refine⟨h.os,h.tape,h.output,by have:=h.size;rw[World.size_alloc] at this;omega,fun i hi=>?_⟩;rw[h.block i (by rw[World.size_alloc];omega) (fun e=>by have:=zc e;omega)];exact(zj o).block i hi
theorem text_ret {w W1 w9:World} {p:Nat} {R:List Tok} {x:Nd} {s:Sl} {o o':Obj} {c0 c1 c2 c3 c4 c5 c6 c7:Value} (hp:p=w.heap.size+1) (hk:Keep ((w.alloc o).alloc o') p R W1) (hx:Box8 W1 w.heap.size 27 c0 c1 c2 c3 c4 c5 c6 c7) (hi:IsE W1 (fun g=>w.heap.size<g) (exL x s) x)
 (he:set8 W1 w.heap.size (.int .i64 x.hd.kind) (.int .i64 x.hd.pos) (.string ⟨x.hd.name.toArray⟩) (.int .i64 x.hd.n) (.string ⟨x.hd.s.toArray⟩) (.slice s.la x.hd.labels.length s.lc) (.slice s.aa x.args.length s.ac) (.slice s.ra x.arms.length s.rc)=w9) :
 ∀ w10,Below w9.heap.size w9 w10->ExBox w10 w.heap.size x s/\ToldT (.ok x R) w (.returned (exOf x s)) w10:=by
 have h1:Below w.heap.size w W1:=by
  have h2:Below (w.alloc o).heap.size (w.alloc o) W1:=zaf (by rw[hp,World.size_alloc]) hk.grown;exact(zj o).trans (h2.mono (by simp))
 obtain⟨h3,h4,h5⟩:=hx.stored h1 (Nat.le_refl _) he;intro w10 hb;refine⟨h3.below hb,s,rfl,?_,h4.trans (hb.mono h4.size)⟩;exact(hi.other (w':=w9) (N':=fun g=>w.heap.size<=g) fun g hg=>⟨Nat.le_of_lt hg,h5 g (by omega)⟩).move fun g hg hl=>⟨hg,hb.block g hl⟩
theorem zc9 {w W1:World} {p:Nat} {o o':Obj} (hp:p=w.heap.size+1) (hg:((w.alloc o).alloc o').grownBy W1 (some p)):Below w.heap.size w W1:=by
 have h2:Below (w.alloc o).heap.size (w.alloc o) W1:=zaf (by rw[hp,World.size_alloc]) hg;exact(zj o).trans (h2.mono (by simp))
theorem w_text (f:Nat) (hs:∀ p,Says f .seq 69 #[ptrV p] p):∀(T:List Tok) (g off cap:Nat) (w:World),g<w.heap.size->T.length<=cap->T.length<=5000->TokLies w g off T->Row T->(∀ t∈T,TokOK t)->Vars w->(3 < w.heap.size/\2 < w.heap.size)->run (f+1) .text T≠.out->Calls Tryz.prog 33 #[.slice (some ⟨g,off,none⟩) T.length cap] w (ToldT (run (f+1) .text T) w):=by
 intro T g off cap w hg hcap hlen hlies hrow hok hvars hlow hne;have HN:=zb hne;have HR:Hid (run (f+1) .text T=exec (run f) (step .text) T):=zb rfl;generalize run (f+1) .text T=res at *;simp only[step,exec] at HR;have HPA:Hid (PAt ((w.alloc zeroObj).alloc (.cells #[.slice (some ⟨g,off,none⟩) T.length cap] 124 (0,0))) (w.heap.size+1) T):=zb (by
  have hb:=(zB (w:=w) zeroObj (.cells #[.slice (some ⟨g,off,none⟩) T.length cap] 124 (0,0)));refine⟨⟨g,off,cap,zA _ _ _ (by rw[World.size_alloc]),hcap,by omega,hlen,hlies.keep (hb.block g hg)⟩,hrow,hok,hvars.keep (p:=w.heap.size) hlow.1 hlow.2 fun b hx=>hb.block b hx,by omega⟩)
 have HX0:Hid (ZeroBox ((w.alloc zeroObj).alloc (.cells #[.slice (some ⟨g,off,none⟩) T.length cap] 124 (0,0))) w.heap.size):=zb ((ZeroBox.new w).below (zj _));have HPP:Hid (w.heap.size+1=w.heap.size+1):=zb rfl;have HSQ:=zb (hs (w.heap.size+1));clear hs hg hcap hlen hlies hrow hok hvars hlow hne
 go_enter Tryz.func33, Tryz.ntmps33
 go_wp2_with fail
 generalize hW0:(w.alloc zeroObj).alloc (.cells #[.slice (some ⟨g,off,none⟩) T.length cap] 124 (0,0))=W0 at *;have HW0:Hid (((w.alloc zeroObj).alloc (.cells #[.slice (some ⟨g,off,none⟩) T.length cap] 124 (0,0)))=W0):=zb hW0;have HSZ:Hid (W0.heap.size=w.heap.size+2):=zb (by rw[← hW0,World.size_alloc,World.size_alloc]);clear hW0;generalize hp:w.heap.size+1=p at *;have HP:Hid (p=w.heap.size+1):=zb hp.symm;clear hp;cases hr:run f .seq T with
 | out =>
  rw[hr] at HR;exact absurd HR.out HN.out
 | bad R9 =>
  rw[hr] at HR;refine(HSQ.out T _ HPA.out (by rw[hr];exact fun h=>by cases h)).mono ?_;rw[hr];rintro e w8 ⟨t8,S8,rfl,rfl,hg⟩;have HB:=zb (zc9 HP.out (by rw[HW0.out];exact hg));clear hg hr;unfold faultV
  go_wp2_with fail
  exact⟨rfl,by rw[HR.out];exact⟨t8,S8,rfl,rfl,HB.out⟩⟩
 | ok x R =>
  rw[hr] at HR;refine(HSQ.out T _ HPA.out (by rw[hr];exact fun h=>by cases h)).mono ?_;rw[hr];rintro e W1 ⟨s,rfl,ha,hk⟩;have HA:Hid (IsE W1 (fun g=>w.heap.size<g) (exL x s) x):=zb (ha.wide fun g hg=>by have:=HSZ.out;omega);have HX:Hid (ZeroBox W1 w.heap.size):=zb ((hk.block w.heap.size (by have:=HSZ.out;omega) (by have:=HP.out;omega)).trans HX0.out);have HK:=zb hk;clear ha hk hr HX0 HPA;have hbx:=zj (w:=W1) (exObj x s);have HF:=zb (ExBox.new W1 x s);have HFZ:Hid (w.heap.size<W1.heap.size/\p<W1.heap.size):=zb ⟨HX.out.lt,HK.out.at_.lt⟩;replace HX:=zb (HX.out.below hbx);replace HA:=zb (HA.out.below hbx);replace HK:=zb (HK.out.below hbx);clear hbx;obtain⟨t,S,rfl⟩:=HK.out.at_.row.cons;simp only at HR;obtain⟨g2,off2,cap2,q0,_,l1,l2,l3,j0,j1,j2,j3⟩:=HK.out.at_.view;have jb:(0:Int)<((S.length:Int)+1):=by omega
  have jg:g2<W1.heap.size:=by have:=HFZ.out;omega
  have jp:p<W1.heap.size:=HFZ.out.2;by_cases hk:t.1.kind=0
  . have B0:(t.1.kind != 0)=false:=by rw[bne_eq_false_iff_eq];exact hk
    rw[if_pos (show isKind 0 t=true from decide_eq_true hk)] at HR
    clear hk;unfold exOf exV
    go_upto_region 5 with fail
    clear q0 l1 l2 l3 j0 j1 j2 j3 jb jg jp B0;generalize W1.heap.size=bf at *;generalize W1.alloc (exObj x s)=w3 at *;obtain⟨f0,f1,f2,f3,f4,f5,f6,f7,_⟩:=Box8.cells HF.out;have fl:=HF.out.lt;obtain⟨x0,x1,x2,x3,x4,x5,x6,x7,xf⟩:=(Box8.cells HX.out);have y0:=xf 0;have y1:=xf 1;have y2:=xf 2;have y3:=xf 3;have y4:=xf 4;have y5:=xf 5;have y6:=xf 6;have y7:=xf 7;have hxl:=HX.out.lt;clear xf;have HS:=zb (text_ret HP.out (by rw[HW0.out];exact HK.out) HX.out HA.out rfl);unfold set8 at HS
    go_wp2_with fail
    generalize World.setCell _ _ _=w9 at *;rw[HR.out];exact zu Tryz.results33 rfl rfl (HS.out _ (Below.refl _ _))
  . have B0:(t.1.kind != 0)=true:=by rw[bne_iff_ne];exact hk
    rw[if_neg (show ¬isKind 0 t=true from fun h=>hk (of_decide_eq_true h))] at HR
    clear hk;have HRF:=zb (th p t S _ HK.out.at_);unfold exOf exV
    go_wp2_with fail
    refine HRF.out.mono ?_;rintro e W2 h9;obtain⟨rfl,hb2⟩:=h9;have HB:=zb (zc9 HP.out (by rw[HW0.out];exact zr HK.out.grown hb2));clear hb2;unfold faultV
    go_wp2_with fail
    exact⟨rfl,by rw[HR.out];exact⟨t,S,rfl,rfl,HB.out⟩⟩
end
section
open Go.RowKit
structure AllSay (f p:Nat):Prop where
 seq:Says f .seq 69 #[ptrV p] p
 item:Says f .item 121 #[ptrV p] p
 fn:Says f .fn 177 #[ptrV p] p
 asg:Says f .asg 178 #[ptrV p] p
 letb:∀ t,Says f (.letb t) 179 #[ptrV p,tokVal t] p
 cases:∀ k t,k≠19->Says f (.cases k t) 180 #[ptrV p,.int .i64 k,tokVal t] p
 choice:∀ t,Says f (.choice t) 181 #[ptrV p,tokVal t] p
 lv0:Says f (.level 0) 212 #[ptrV p,.int .i64 0] p
 lv1:Says f (.level 1) 212 #[ptrV p,.int .i64 1] p
 lv2:Says f (.level 2) 212 #[ptrV p,.int .i64 2] p
 lv3:Says f (.level 3) 212 #[ptrV p,.int .i64 3] p
 lv4:Says f (.level 4) 212 #[ptrV p,.int .i64 4] p
 lv5:Says f (.level 5) 212 #[ptrV p,.int .i64 5] p
 unary:Says f .unary 224 #[ptrV p] p
 app:Says f .app 232 #[ptrV p] p
 post:Says f .post 182 #[ptrV p] p
 posts:∀ n,n<=3->SaysR f (.posts n []) 240 #[ptrV p,.int .i64 (n:Nat)] p
 atom:Says f .atom 214 #[ptrV p] p
 braces:∀ t,Says f (.braces t) 227 #[ptrV p,tokVal t] p
 arms:SaysA f (.arms []) 213 #[ptrV p] p
 pat:SaysP f .pat 225 #[ptrV p] p
 patom:SaysP f .patom 233 #[ptrV p] p
 fldE:SaysF true f (.fields true) 234 #[ptrV p,(.func (.func 69) #[ptrV p] #[])] p
 fldP:SaysF false f (.fields false) 244 #[ptrV p,(.func (.func 225) #[ptrV p] #[])] p
theorem zO {m:Md} {g:FuncId} {args:Array Value} {p:Nat}:Says 0 m g args p:=fun _ _ _ h=>absurd rfl h
theorem rp {m:Md} {g:FuncId} {args:Array Value} {p:Nat}:SaysP 0 m g args p:=fun _ _ _ h=>absurd rfl h
theorem zek {m:Md} {g:FuncId} {args:Array Value} {p:Nat}:SaysA 0 m g args p:=fun _ _ _ h=>absurd rfl h
theorem zdc {m:Md} {g:FuncId} {args:Array Value} {p:Nat}:SaysR 0 m g args p:=fun _ _ _ h=>absurd rfl h
theorem qr {b:Bool} {m:Md} {g:FuncId} {args:Array Value} {p:Nat}:SaysF b 0 m g args p:=fun _ _ _ h=>absurd rfl h
theorem zeO (p:Nat):∀ f k,k<=f->AllSay k p
 | 0,k,h=>by
  obtain rfl:k=0:=by omega
  exact⟨zO,zO,zO,zO,fun _=>zO,fun _ _ _=>zO,fun _=>zO,zO,zO,zO,zO,zO,zO,zO,zO,zO,fun _ _=>zdc,zO,fun _=>zO,zek,rp,rp,qr,qr⟩
 | f+1,k,h=>by
  have ih:=zeO p f;by_cases hk:k<=f
  . exact ih k hk
  . obtain rfl:k=f+1:=by omega
    have a:=ih f (Nat.le_refl _);exact {
     seq:=w_seq f p a.item a.seq
     item:=w_item f p a.fn a.letb a.cases a.choice a.post a.asg
     fn:=w_fun f p a.seq
     asg:=w_assign f p a.lv0 a.item
     letb:=fun t=>w_let f p t a.seq a.fn
     cases:=fun k t hk=>w_cases f p k hk t a.seq a.arms
     choice:=fun t=>w_choice f p t a.seq a.item
     lv0:=w_level0 f p a.lv1 (fun j hj=>(ih j hj).lv0)
     lv1:=w_level1 f p a.lv2 (fun j hj=>(ih j hj).lv1)
     lv2:=w_level2 f p a.lv3 (fun j hj=>(ih j hj).lv3)
     lv3:=w_level3 f p a.lv4 (fun j hj=>(ih j hj).lv4)
     lv4:=w_level4 f p a.lv5 (fun j hj=>(ih j hj).lv5)
     lv5:=w_level5 f p a.unary
     unary:=w_unary f p a.unary a.app
     app:=w_app f p (fun j hj=>(ih j hj).post) a.posts
     post:=w_post f p a.post a.atom
     posts:=fun n hn=>w_posts f p n hn (fun j hj=>(ih j hj).post)
     atom:=w_atom f p a.seq a.braces
     braces:=fun t=>w_braces f p t a.seq a.fldE
     arms:=w_arms f p (fun j hj=>(ih j hj).pat) (fun j hj=>(ih j hj).seq)
     pat:=w_pat f p a.patom
     patom:=w_patom f p a.pat a.fldP
     fldE:=w_fieldsE f p (fun j hj=>(ih j hj).seq)
     fldP:=w_fieldsP f p (fun j hj=>(ih j hj).pat) }
theorem p_text {T:List Tok} {g off cap:Nat} {w:World} (hg:g<w.heap.size) (hc:T.length<=cap) (hl:T.length<=5000) (hT:TokLies w g off T) (hr:Row T) (ho:∀ t∈T,TokOK t) (hv:Vars w) (hw : 3 < w.heap.size/\2 < w.heap.size):Calls Tryz.prog 33 #[.slice (some ⟨g,off,none⟩) T.length cap] w (ToldT (tokV T) w) :=
 w_text (16*T.length+15) (fun p=>(zeO p _ _ (Nat.le_refl _)).seq) T g off cap w hg hc hl hT hr ho hv hw (vW hr)
end
section
open Go.RowKit
theorem p_idle (a b c:Value) (w:World):CallsD Tryz.prog 31 #[a,b,c] .returning w fun e u' w'=>e=.returned (.tuple #[])/\u'=.returning/\w'=w:=by
 refine callsD_of_wpS Tryz.func31 rfl fun c₀ cs hu=>?_;apply wpS_seq;apply wpS_region;simp [wpOpsS,go_sem,recoverD,hu, Tryz.ntmps31,Exit.thenS];refine wpS_of_wp ?_;show Code.wp _ _ _ { tmps:=#[a,b,c,.nilIface,undef,.nilIface,undef,undef,undef,undef,undef,undef,undef,undef,undef],defers:=[] } _
 go_wp2_with fail
 cases c₀;simp_all [bodyPostS,results, Tryz.results31]
theorem zec {w:World} {b0 b1 b2:Nat} {y0 y1 y2 y3 y4 y5 y6 y7 z1 z2:Value} {t1 t2:TypeId} (h0:Box8 w b0 27 y0 y1 y2 y3 y4 y5 y6 y7) (h1:w.heap[b1]? = some (.cells #[z1] t1 (0,0))) (h2:w.heap[b2]? = some (.cells #[z2] t2 (0,0))) (n1:¬b0=b1) (n2:¬b0=b2) (n3:¬b1=b2) (u0 u1 u2 u3 u4 u5 u6 u7 v1 v2:Value) (o:Obj) (w9:World)
 (he:((((set8 w b0 u0 u1 u2 u3 u4 u5 u6 u7).setCell ⟨b1,0,none⟩ v1).setCell ⟨b2,0,none⟩ v2).alloc o).drew=w9) :
 Box8 w9 b0 27 u0 u1 u2 u3 u4 u5 u6 u7/\w9.heap[b1]? = some (.cells #[v1] t1 (0,0))/\w9.heap[b2]? = some (.cells #[v2] t2 (0,0))/\∀ n,n<=b0->n<=b1->n<=b2->n<=w.heap.size->Below n w w9:=by
 subst he;have s0:=h0.set (v0:=u0) (v1:=u1) (v2:=u2) (v3:=u3) (v4:=u4) (v5:=u5) (v6:=u6) (v7:=u7);have s1:(set8 w b0 u0 u1 u2 u3 u4 u5 u6 u7).heap[b1]? = some (.cells #[z1] t1 (0,0)):=(wW (fun e=>n1 e.symm)).trans h1;have s2:(set8 w b0 u0 u1 u2 u3 u4 u5 u6 u7).heap[b2]? = some (.cells #[z2] t2 (0,0)):=(wW (fun e=>n2 e.symm)).trans h2;obtain⟨S,hS⟩:∃ S,set8 w b0 u0 u1 u2 u3 u4 u5 u6 u7=S:=⟨_,rfl⟩;have hbel:∀ n,n<=b0->Below n w S:=fun n hn=>hS▸rT (Below.refl n w) hn;rw[hS] at s0 s1 s2 ⊢;have q1:(S.setCell ⟨b1,0,none⟩ v1).heap[b1]? = some (.cells #[v1] t1 (0,0)):=zn s1 0 v1;have q1':((S.setCell ⟨b1,0,none⟩ v1).setCell ⟨b2,0,none⟩ v2).heap[b1]? = some (.cells #[v1] t1 (0,0)):=(Below.heap_setCell _ _ _ _ n3).trans q1;have q2:((S.setCell ⟨b1,0,none⟩ v1).setCell ⟨b2,0,none⟩ v2).heap[b2]? = some (.cells #[v2] t2 (0,0)):=zn ((Below.heap_setCell _ _ _ _ (fun e=>n3 e.symm)).trans s2) 0 v2;have q0:((S.setCell ⟨b1,0,none⟩ v1).setCell ⟨b2,0,none⟩ v2).heap[b0]? = some (.cells #[u0,u1,u2,u3,u4,u5,u6,u7] 27 (0,0)):=(Below.heap_setCell _ _ _ _ n2).trans ((Below.heap_setCell _ _ _ _ n1).trans s0);refine⟨((zj o).block _ (zp q0)).trans q0,((zj o).block _ (zp q1')).trans q1',((zj o).block _ (zp q2)).trans q2,fun n a b c d=>?_⟩;have e1:=((hbel n a).setCell (p:=⟨b1,0,none⟩) b v1).setCell (p:=⟨b2,0,none⟩) c v2;exact e1.trans (((zj o).mono (Nat.le_trans d (by have:=e1.size;omega))).drew)
theorem fault_is (er q:Int) (w:World):(Instr.typeAssert (.iface 59 (.agg #[.int .i64 er,.int .i64 q])) 20 59 false).run Tryz.prog w=.ok (.agg #[.int .i64 er,.int .i64 q]) w:=by kernel_rfl
theorem p_catch (b0 b1 b2:Nat) (er q:Int) (older:List PanicEntry) (w:World) (y0 y1 y2 y3 y4 y5 y6 y7 z1 z2:Value) (h0:Box8 w b0 27 y0 y1 y2 y3 y4 y5 y6 y7) (h1:w.heap[b1]? = some (.cells #[z1] 28 (0,0))) (h2:w.heap[b2]? = some (.cells #[z2] 3 (0,0))) (hn:b0≠b1/\b0≠b2/\b1≠b2) :
 CallsD Tryz.prog 31 #[.pointer (some ⟨b0,0,none⟩),.pointer (some ⟨b1,0,none⟩),.pointer (some ⟨b2,0,none⟩)] (.panicking ({ v:=.iface 59 (.agg #[.int .i64 er,.int .i64 q]),recovered:=false }::older)) w fun e u' w' =>
  e=.returned (.tuple #[])/\u'=.panicking ({ v:=.iface 59 (.agg #[.int .i64 er,.int .i64 q]),recovered:=true }::older)/\ZeroBox w' b0/\w'.heap[b1]? = some (.cells #[.int .i64 er] 28 (0,0))/\w'.heap[b2]? = some (.cells #[.int .i64 q] 3 (0,0))/\∀ n,n<=b0->n<=b1->n<=b2->n<=w.heap.size->Below n w w':=by
 refine callsD_of_wpS Tryz.func31 rfl fun c₀ cs hu=>?_;apply wpS_seq;apply wpS_region;simp [wpOpsS,go_sem,recoverD,hu, Tryz.ntmps31,Exit.thenS];refine wpS_of_wp ?_;show Code.wp _ _ _ { tmps:=#[.pointer (some ⟨b0,0,none⟩),.pointer (some ⟨b1,0,none⟩),.pointer (some ⟨b2,0,none⟩),.iface 59 (.agg #[.int .i64 er,.int .i64 q]),undef,.iface 59 (.agg #[.int .i64 er,.int .i64 q]),undef,undef,undef,undef,undef,undef,undef,undef,undef],defers:=[] } _;obtain⟨x0,x1,x2,x3,x4,x5,x6,x7,xf⟩:=Box8.cells h0;have z1c:w.cell? ⟨b1,0,none⟩=some z1:=by rw[zf h1];rfl
 have z2c:w.cell? ⟨b2,0,none⟩=some z2:=by rw[zf h2];rfl
 have f1:w.frozen? ⟨b1,0,none⟩=false:=Lib.frozen_of_heap h1 0;have f2:w.frozen? ⟨b2,0,none⟩=false:=Lib.frozen_of_heap h2 0;have f3:=xf 0;have f4:=xf 1;have f5:=xf 2;have f6:=xf 3;have f7:=xf 4;have f8:=xf 5;have f9:=xf 6;have f10:=xf 7;have l0:=Box8.lt h0;have l1:=zp h1;have l2:=zp h2;obtain⟨n1,n2,n3⟩:=hn;have n4:¬b1=b0:=fun e=>n1 e.symm;have n5:¬b2=b0:=fun e=>n2 e.symm;have n6:¬b2=b1:=fun e=>n3 e.symm;clear xf;have hta:=fault_is er q
 go_upto_region 3 with fail
 go_region
 refine⟨rfl,_,rfl,.tuple #[],by simp [results, Tryz.results31],rfl,rfl,?_⟩;exact zec h0 h1 h2 n1 n2 n3 (.int .i64 0) (.int .i64 0) (.string ⟨#[]⟩) (.int .i64 0) (.string ⟨#[]⟩) (.slice none 0 0) (.slice none 0 0) (.slice none 0 0) (.int .i64 er) (.int .i64 q) _ _ rfl
end
section
open Go.RowKit
structure Ready (w:World):Prop where
 syms:Syms w
 vars:Vars w
 low : 3 < w.heap.size/\2 < w.heap.size
theorem Ready.below {w w':World} (h:Ready w) (hb:Below w.heap.size w w'):Ready w' :=
 ⟨h.syms.below hb,h.vars.keep h.low.1 h.low.2 hb.block,zd h.low.1 hb.size,zd h.low.2 hb.size⟩
def errV (er q:Int):Value:=.tuple #[exV 0 0 [] 0 [] (.slice none 0 0) (.slice none 0 0) (.slice none 0 0),.int .i64 er,.int .i64 q]
def Parsed (r:PV) (w:World) (e:Ending) (w':World):Prop:=Below w.heap.size w w'/\match r with
 | .ok x=>∃ s,e=.returned (.tuple #[exOf x s,.int .i64 0,.int .i64 0])/\IsE w' (fun g=>w.heap.size<=g) (exL x s) x
 | .bad er q=>e=.returned (errV er (q:Nat))
theorem toks_ok {l:List UInt8} {X:List Tok} (h:lexGo 0 0 l=.ok X) (hl:l.length<=4096):∀ t∈X++[endT l.length],TokOK t:=by
 intro t ht;rcases List.mem_append.1 ht with hx | hx
 . have h1:=(rU 0 l X h t hx).1.head;have h2:=zbQ 4096 0 l X hl h t hx;have h3:=lexGo_pos 0 l X h t hx;refine⟨fun hk he=>?_,h2.lo,h2.hi,by omega⟩;obtain⟨c,r,h4,_⟩:=h1;unfold tokText at h4;rcases hk with hk | hk <;> simp [hk,he] at h4
 . obtain rfl:=List.mem_singleton.1 hx;exact⟨(fun hk=>by rcases hk with hk | hk <;> cases hk),(by show(0:Int)<=0;omega),(by show(0:Int)<=4611686018427387903;omega),hl⟩
theorem zbu {l:List UInt8} {B:Nat} {v:Value} {er:Int} {q:Nat} {w w':World} (h:LexOut l B v er q w) (hk:∀ g,B<=g->w'.heap[g]? = w.heap[g]?):LexOut l B v er q w':=by
 rcases h with⟨h1,h2,h3,X,h4,h5⟩ | h
 . exact .inl ⟨h1,h2,h3,X,h4,h5.keep fun b hx=>hk b (World.ownsRow.lt h5 b hx).1⟩
 . exact .inr h
theorem tok_lies {B:Nat} {w:World} {v:Value} {T:List Tok} (h:TokRow B w v T) (hn:T≠[]):∃ g cap,v=.slice (some ⟨g,0,none⟩) T.length cap/\g<w.heap.size/\T.length<=cap/\TokLies w g 0 T:=by
 have h0:=h;rcases h.2 with⟨_,h1⟩ | ⟨g,cap,cur,rfl,hb,hg,hc,_⟩
 . exact absurd (List.eq_nil_of_length_eq_zero h1) hn
 . refine⟨g,cap,rfl,zp hg,hc,fun i t ht=>?_⟩;have hi:=(List.getElem?_eq_some_iff.1 ht).1;obtain⟨k1,k2,k3,k4⟩:=sj ht;have hj:∀ j,j<T.length*4->w.cell? ⟨g,j,none⟩=(tokCells T)[j]? := fun j hj=>World.ownsRow.cellAt h0 j hj;rw[Nat.zero_add];exact⟨(hj _ (by omega)).trans k1,(hj _ (by omega)).trans k2,(hj _ (by omega)).trans k3,(hj _ (by omega)).trans k4⟩
structure Door (w:World) (b0 b1 b2:Nat) (er q:Int) (W:World):Prop where
 below:Below w.heap.size w W
 box:∃ y0 y1 y2 y3 y4 y5 y6 y7,Box8 W b0 27 y0 y1 y2 y3 y4 y5 y6 y7
 errc:W.heap[b1]? = some (.cells #[.int .i64 er] 28 (0,0))
 atc:W.heap[b2]? = some (.cells #[.int .i64 q] 3 (0,0))
 low:w.heap.size<=b0/\w.heap.size<=b1/\w.heap.size<=b2
 ne:b0≠b1/\b0≠b2/\b1≠b2
theorem Door.keep {w W W':World} {b0 b1 b2:Nat} {er q:Int} (h:Door w b0 b1 b2 er q W) (hb:Below W.heap.size W W'):Door w b0 b1 b2 er q W':=by
 obtain⟨h1,⟨y0,y1,y2,y3,y4,y5,y6,y7,h2⟩,h3,h4,h5,h6⟩:=h;exact⟨h1.trans (hb.mono h1.size),⟨y0,y1,y2,y3,y4,y5,y6,y7,h2.below hb⟩,(hb.block _ (zp h3)).trans h3,(hb.block _ (zp h4)).trans h4,h5,h6⟩
theorem Door.set {w W W9:World} {b0 b1 b2:Nat} {er q:Int} (h:Door w b0 b1 b2 er q W) (u v:Int) (he:(W.setCell ⟨b1,0,none⟩ (.int .i64 u)).setCell ⟨b2,0,none⟩ (.int .i64 v)=W9):Door w b0 b1 b2 u v W9/\∀ g,g≠b1->g≠b2->W9.heap[g]? = W.heap[g]? := by
 subst he;obtain⟨h1,⟨y0,y1,y2,y3,y4,y5,y6,y7,h2⟩,h3,h4,h5,h6⟩:=h;have hk:∀ g,g≠b1->g≠b2->((W.setCell ⟨b1,0,none⟩ (.int .i64 u)).setCell ⟨b2,0,none⟩ (.int .i64 v)).heap[g]? = W.heap[g]? := fun g k1 k2=>(Below.heap_setCell _ _ _ _ k2).trans (Below.heap_setCell _ _ _ _ k1);refine⟨⟨(h1.setCell (p:=⟨b1,0,none⟩) h5.2.1 _).setCell (p:=⟨b2,0,none⟩) h5.2.2 _,⟨y0,y1,y2,y3,y4,y5,y6,y7,(hk b0 h6.1 h6.2.1).trans h2⟩,?_,?_,h5,h6⟩,hk⟩
 . exact(Below.heap_setCell _ _ _ _ h6.2.2).trans (zn h3 0 _)
 . exact zn ((Below.heap_setCell _ _ _ _ (fun e=>h6.2.2 e.symm)).trans h4) 0 _
theorem Door.put {w W W9:World} {b0 b1 b2:Nat} {er q:Int} (h:Door w b0 b1 b2 er q W) (x:Nd) (s:Sl) (he:set8 W b0 (.int .i64 x.hd.kind) (.int .i64 x.hd.pos) (.string ⟨x.hd.name.toArray⟩) (.int .i64 x.hd.n) (.string ⟨x.hd.s.toArray⟩) (.slice s.la x.hd.labels.length s.lc) (.slice s.aa x.args.length s.ac) (.slice s.ra x.arms.length s.rc)=W9):Door w b0 b1 b2 er q W9/\ExBox W9 b0 x s/\∀ g,g≠b0->W9.heap[g]? = W.heap[g]? := by
 obtain⟨h1,⟨y0,y1,y2,y3,y4,y5,y6,y7,h2⟩,h3,h4,h5,h6⟩:=h;obtain⟨k1,k2,k3⟩:=h2.stored h1 h5.1 he;exact⟨⟨k2,⟨_,_,_,_,_,_,_,_,k1⟩,(k3 _ (fun e=>h6.1 e.symm)).trans h3,(k3 _ (fun e=>h6.2.1 e.symm)).trans h4,h5,h6⟩,k1,k3⟩
theorem um {tmps:Array Value} {W:World} {b0 b1 b2:Nat} {u0 u1 u2 u3 u4 u5 u6 u7:Value} {er q:Int} (t0:tmps[2]?.getD undef=ptrV b0) (t1:tmps[3]?.getD undef=ptrV b1) (t2:tmps[4]?.getD undef=ptrV b2) (h0:Box8 W b0 27 u0 u1 u2 u3 u4 u5 u6 u7) (h1:W.heap[b1]? = some (.cells #[.int .i64 er] 28 (0,0))) (h2:W.heap[b2]? = some (.cells #[.int .i64 q] 3 (0,0))) :
 (results Tryz.f12 tmps).run Tryz.prog W=.ok (.tuple #[.agg #[u0,u1,u2,u3,u4,u5,u6,u7],.int .i64 er,.int .i64 q]) W:=by
 have k1:W.cell? ⟨b1,0,none⟩=some (.int .i64 er):=by rw[zf h1];rfl
 have k2:W.cell? ⟨b2,0,none⟩=some (.int .i64 q):=by rw[zf h2];rfl
 obtain⟨c0,c1,c2,c3,c4,c5,c6,c7,_⟩:=Box8.cells h0;simp [results, Tryz.results12,Result.andThen,t0,t1,t2,ptrV,asAddr,go_sem,k1,k2,c0,c1,c2,c3,c4,c5,c6,c7]
abbrev doorD (b0 b1 b2:Nat):List Deferred:=[{ target:=.fn (.func 31) #[ptrV b0,ptrV b1,ptrV b2],args:=#[] }]
theorem tj {w W:World} {b0 b1 b2:Nat} {er0 q0 er:Int} {q:Nat} (h:Door w b0 b1 b2 er0 q0 W) {tmps:Array Value} (t0:tmps[2]?.getD undef=ptrV b0) (t1:tmps[3]?.getD undef=ptrV b1) (t2:tmps[4]?.getD undef=ptrV b2) :
 bodyPostD Tryz.prog Tryz.f12 (Parsed (.bad er q) w) (Exit.panic [{ v:=.iface 59 (.agg #[.int .i64 er,.int .i64 (q:Nat)]),recovered:=false }]) { tmps:=tmps,defers:=doorD b0 b1 b2 } W:=by
 obtain⟨h1,⟨y0,y1,y2,y3,y4,y5,y6,y7,h2⟩,h3,h4,h5,h6⟩:=h;refine leaves_cons (f := 31) (args:=#[ptrV b0,ptrV b1,ptrV b2]) (by simp) (by simp [go_sem]) ?_;refine(p_catch b0 b1 b2 er q [] W y0 y1 y2 y3 y4 y5 y6 y7 _ _ h2 h3 h4 h6).mono ?_;rintro e u' w'' ⟨rfl,rfl,hz,k1,k2,hb⟩;have hB:=hb w.heap.size h5.1 h5.2.1 h5.2.2 h1.size;exact⟨_,um t0 t1 t2 hz k1 k2,h1.trans hB,rfl⟩
theorem door_good {w W:World} {b0 b1 b2:Nat} {x:Nd} {s:Sl} (h:Door w b0 b1 b2 0 0 W) (hx:ExBox W b0 x s) (hi:IsE W (fun g=>w.heap.size<=g) (exL x s) x) {tmps:Array Value} (t0:tmps[2]?.getD undef=ptrV b0) (t1:tmps[3]?.getD undef=ptrV b1) (t2:tmps[4]?.getD undef=ptrV b2) :
 bodyPostD Tryz.prog Tryz.f12 (Parsed (.ok x) w) Exit.ret { tmps:=tmps,defers:=doorD b0 b1 b2 } W:=by
 refine leaves_cons (f := 31) (args:=#[ptrV b0,ptrV b1,ptrV b2]) (by simp) (by simp [go_sem]) ?_;refine(p_idle _ _ _ W).mono ?_;rintro e u' w'' ⟨rfl,rfl,rfl⟩;exact⟨_,um t0 t1 t2 hx h.errc h.atc,h.below,s,rfl,hi⟩
theorem sK (s:ByteArray) (w:World) (hy:Ready w):Calls Tryz.prog 12 #[.string s] w (Parsed (ParseV s.data.toList) w):=by
 have HY:=zb hy;clear hy;obtain⟨pv,hpv⟩:∃ pv,ParseV s.data.toList=pv:=⟨_,rfl⟩;rw[hpv];have hmf:∀(fn:Fn) (first cap:Array Value) (w:World),(Instr.makeFunc fn first cap).run Tryz.prog w=.ok (.func fn first cap) w:=fun _ _ _ _=>rfl
 go_enter_defers Tryz.func12, Tryz.ntmps12
 go_wp2_with fail
 obtain⟨W0,hW0⟩:∃ W,((w.alloc zeroObj).alloc (.cells #[.int .i64 0] 28 (0,0))).alloc (.cells #[.int .i64 0] 3 (0,0))=W:=⟨_,rfl⟩;have HD:Hid (Door w w.heap.size (w.heap.size+1) (w.heap.size+1+1) 0 0 W0):=zb (by
  rw[← hW0];have hb1:=zB (w:=w) zeroObj (.cells #[.int .i64 0] 28 (0,0));have hb2:=zj (w:=(w.alloc zeroObj).alloc (.cells #[.int .i64 0] 28 (0,0))) (.cells #[.int .i64 0] 3 (0,0));have hb3:=zB (w:=w.alloc zeroObj) (.cells #[.int .i64 0] 28 (0,0)) (.cells #[.int .i64 0] 3 (0,0));have m1:((w.alloc zeroObj).alloc (.cells #[.int .i64 0] 28 (0,0))).heap[w.heap.size+1]? = some (.cells #[.int .i64 0] 28 (0,0)):=zA _ _ _ (by rw[World.size_alloc]);exact⟨hb1.trans (hb2.mono hb1.size),⟨_,_,_,_,_,_,_,_,(ZeroBox.new w).below hb3⟩,(hb2.block _ (zp m1)).trans m1,zA _ _ _ (by rw[World.size_alloc,World.size_alloc]),by omega,by omega⟩)
 rw[hW0];clear hW0;have HSB:Hid (w.heap.size<W0.heap.size/\w.heap.size+1<W0.heap.size/\w.heap.size+1+1<W0.heap.size):=zb ⟨by obtain⟨_,_,_,_,_,_,_,_,h⟩:=HD.out.box;exact zp h,zp HD.out.errc,zp HD.out.atc⟩;generalize hb0:w.heap.size=b0 at HD HSB ⊢;generalize hb1:b0+1=b1 at *;generalize hb2:b1+1=b2 at *;clear hb0 hb1 hb2;refine(lex_out s _ (HY.out.below HD.out.below).syms).mono ?_;rintro e W1 ⟨v,er,q,rfl,hb,hl⟩;replace HD:=zb (HD.out.keep hb);have HL:=zb hl;clear hb hl;have c1:W1.cell? ⟨b1,0,none⟩=some (.int .i64 0):=by rw[zf HD.out.errc];rfl
 have c2:W1.cell? ⟨b2,0,none⟩=some (.int .i64 0):=by rw[zf HD.out.atc];rfl
 have f1:W1.frozen? ⟨b1,0,none⟩=false:=Lib.frozen_of_heap HD.out.errc 0;have f2:W1.frozen? ⟨b2,0,none⟩=false:=Lib.frozen_of_heap HD.out.atc 0;have l1:=zp HD.out.errc;have l2:=zp HD.out.atc;have n1:¬b1=b2:=HD.out.ne.2.2;have n2:¬b2=b1:=fun e=>n1 e.symm
 go_upto_region 3 with fail
 obtain⟨W2,hW2⟩:∃ W,(W1.setCell ⟨b1,0,none⟩ (.int .i64 er)).setCell ⟨b2,0,none⟩ (.int .i64 (q:Nat))=W:=⟨_,rfl⟩;have hdk:=HD.out.set er (q:Nat) hW2;replace HL:=zb (zbu HL.out fun g hg=>hdk.2 g (by have:=HSB.out;omega) (by have:=HSB.out;omega));replace HD:=zb hdk.1;rw[hW2];clear hW2 hdk c1 c2 f1 f2 l1 l2;have c1:W2.cell? ⟨b1,0,none⟩=some (.int .i64 er):=by rw[zf HD.out.errc];rfl
 have c2:W2.cell? ⟨b2,0,none⟩=some (.int .i64 (q:Nat)):=by rw[zf HD.out.atc];rfl
 have f1:W2.frozen? ⟨b1,0,none⟩=false:=Lib.frozen_of_heap HD.out.errc 0;have f2:W2.frozen? ⟨b2,0,none⟩=false:=Lib.frozen_of_heap HD.out.atc 0;have l1:=zp HD.out.errc;have l2:=zp HD.out.atc;rcases HL.out with⟨rfl,rfl,h3,X,h4,h5⟩ | ⟨rfl,hbad⟩
 . obtain⟨g,cap,rfl,hg,hcap,hlies⟩:=tok_lies h5 (by simp);have hX:=lexGo_len 0 _ X h4;have HRY:=zb (HY.out.below HD.out.below);have HPV:Hid (pv=match tokV (X++[endT s.data.toList.length]) with
    | .ok x _=>treeV x
    | .bad R=>.bad 21 ((R.head?.map (·.2)).getD 0)
    | .out=>.bad 0 0):=zb (by rw[← hpv];unfold ParseV;rw[za7 h4 h3];rfl)
   have hrow:=zdT (qh h4) s.data.toList.length;have HLN:Hid ((X++[endT s.data.toList.length]).length<=5000):=zb (by rw[List.length_append,List.length_singleton];omega);have HTX:=zb (p_text (w:=W2) (T:=X++[endT s.data.toList.length]) hg hcap HLN.out hlies hrow (toks_ok h4 h3) HRY.out.vars HRY.out.low);have HRUN:=zb (vW hrow);clear hX hrow h3 h4 h5 hg hcap hlies HL HRY;generalize X++[endT s.data.toList.length]=T at *;clear hpv
   go_wp2_with fail
   refine HTX.out.mono ?_;clear HTX c1 c2 f1 f2 l1 l2;cases ht:tokV T with
   | out=>exact absurd ht HRUN.out
   | bad R =>
    rw[ht] at HPV;rintro e W3 ⟨t,S,rfl,rfl,hb⟩;replace HD:=zb (HD.out.keep hb);clear hb ht;obtain rfl:=HPV.out;unfold faultV
    go_wp2_with fail
    exact tj HD.out (by rfl) (by rfl) (by rfl)
   | ok x R =>
    rw[ht] at HPV;rintro e W3 ⟨s9,rfl,hi,hb⟩;have HW2:Hid (b0<W2.heap.size/\b1<W2.heap.size/\b2<W2.heap.size/\w.heap.size<=W2.heap.size):=zb ⟨by obtain⟨_,_,_,_,_,_,_,_,h⟩:=HD.out.box;exact zp h,zp HD.out.errc,zp HD.out.atc,HD.out.below.size⟩;have HN:Hid ((x.parts 1).length<=70000):=zb (by have:=tokV_size ht;have:=HLN.out;omega);replace HD:=zb (HD.out.keep hb);have HI:=zb hi;have HPS:Hid (∀ q,deepV 200 x=some q->∃ n:Nat,q=(n:Int)):=zb (fun q hq=>deep_nat ht hq);have HPV2:=HPV;clear hb ht hi HPV;obtain⟨y0,y1,y2,y3,y4,y5,y6,y7,hbx⟩:=HD.out.box;obtain⟨x0,x1,x2,x3,x4,x5,x6,x7,xf⟩:=Box8.cells hbx;have z0:=xf 0;have z1:=xf 1;have z2:=xf 2;have z3:=xf 3;have z4:=xf 4;have z5:=xf 5;have z6:=xf 6;have z7:=xf 7;have hxl:=hbx.lt;clear xf hbx;unfold exOf exV
    go_upto_region 6 with fail
    obtain⟨W4,hW4⟩:∃ W,set8 W3 b0 (.int .i64 x.hd.kind) (.int .i64 x.hd.pos) (.string ⟨x.hd.name.toArray⟩) (.int .i64 x.hd.n) (.string ⟨x.hd.s.toArray⟩) (.slice s9.la x.hd.labels.length s9.lc) (.slice s9.aa x.args.length s9.ac) (.slice s9.ra x.arms.length s9.rc)=W:=⟨_,rfl⟩;have hdk:=HD.out.put x s9 hW4;unfold set8 at hW4;rw[hW4];replace HI:=zb (HI.out.other (w':=W4) (N':=fun g=>W2.heap.size<=g) fun g hg=>⟨hg,hdk.2.2 g (by have:=HW2.out;omega)⟩);replace HD:=zb hdk.1;have HE:=zb hdk.2.1;clear hW4 hdk x0 x1 x2 x3 x4 x5 x6 x7 z0 z1 z2 z3 z4 z5 z6 z7 hxl;obtain⟨f0,f1,f2,f3,f4,f5,f6,f7,_⟩:=Box8.cells HE.out;have fl:=HE.out.lt;have HC:=zeD x s9 4096 W4 (HI.out.wide fun _ _=>trivial) HN.out (by decide) (by decide);unfold exOf exV at HC;by_cases hN:4096<(x.parts 1).length
    . have hc:countV (x.parts 1).length 4096=4097:=by unfold countV;rw[if_neg (by decide)];omega
      rw[hc] at HC;obtain rfl:pv=.bad 3 0:=by rw[HPV2.out];unfold treeV;rw[if_pos hN]
      replace HC:=zb HC
      go_wp2_with fail
      refine HC.out.mono ?_;rintro e W5 ⟨rfl,hb⟩;replace HD:=zb (HD.out.keep hb);clear HC hb hc hN HPV2
      go_wp2_with fail
      exact tj HD.out (by rfl) (by rfl) (by rfl)
    . have hc:countV (x.parts 1).length 4096=((x.parts 1).length:Nat):=by unfold countV;rw[if_neg (by decide)];omega
      have hN2:¬(4096:Int)<((x.parts 1).length:Nat):=by omega
      rw[hc] at HC;replace HPV2:Hid (pv=match deepV 200 x with | some q=>.bad 22 q.toNat | none=>.ok x):=zb (by rw[HPV2.out];unfold treeV;rw[if_neg hN];rfl)
      replace HC:=zb HC
      go_wp2_with fail
      refine HC.out.mono ?_;rintro e W5 ⟨rfl,hb⟩;replace HD:=zb (HD.out.keep hb);replace HI:=zb (HI.out.below hb);replace HE:=zb (HE.out.below hb);clear HC hb hc hN f0 f1 f2 f3 f4 f5 f6 f7 fl;obtain⟨f0,f1,f2,f3,f4,f5,f6,f7,_⟩:=Box8.cells HE.out;have fl:=HE.out.lt;have HC:=p_deep x s9 200 W5 (HI.out.wide fun _ _=>trivial) HN.out;unfold exOf exV at HC;cases hdv:deepV 200 x with
      | some q =>
       rw[hdv] at HPV2 HC;obtain⟨qn,rfl⟩:=HPS.out q hdv;obtain rfl:=HPV2.out;replace HC:=zb HC
       go_wp2_with fail
       refine HC.out.mono ?_;rintro e W6 ⟨rfl,hb⟩;replace HD:=zb (HD.out.keep hb);clear HC hb HPV2;simp only[Option.getD_some,Option.isSome_some]
       go_wp2_with fail
       exact tj HD.out (by rfl) (by rfl) (by rfl)
      | none =>
       rw[hdv] at HPV2 HC;obtain rfl:=HPV2.out;replace HC:=zb HC
       go_wp2_with fail
       refine HC.out.mono ?_;rintro e W6 ⟨rfl,hb⟩;replace HD:=zb (HD.out.keep hb);replace HI:=zb (HI.out.below hb);replace HE:=zb (HE.out.below hb);clear HC hb HPV2;simp only[Option.getD_none,Option.isSome_none]
       go_upto_region 11 with fail
       obtain⟨x0,x1,x2,x3,x4,x5,x6,x7,xf⟩:=Box8.cells HE.out;have z0:=xf 0;have z1:=xf 1;have z2:=xf 2;have z3:=xf 3;have z4:=xf 4;have z5:=xf 5;have z6:=xf 6;have z7:=xf 7;have hxl:=HE.out.lt;have c1:W6.cell? ⟨b1,0,none⟩=some (.int .i64 0):=by rw[zf HD.out.errc];rfl
       have c2:W6.cell? ⟨b2,0,none⟩=some (.int .i64 0):=by rw[zf HD.out.atc];rfl
       have u1:W6.frozen? ⟨b1,0,none⟩=false:=Lib.frozen_of_heap HD.out.errc 0;have u2:W6.frozen? ⟨b2,0,none⟩=false:=Lib.frozen_of_heap HD.out.atc 0;have l1:=zp HD.out.errc;have l2:=zp HD.out.atc;have n3:¬b0=b1:=HD.out.ne.1;have n4:¬b0=b2:=HD.out.ne.2.1;have n5:¬b1=b0:=fun e=>n3 e.symm;have n6:¬b2=b0:=fun e=>n4 e.symm;clear xf f0 f1 f2 f3 f4 f5 f6 f7 fl;have HFIN:Hid (∀ W9,((set8 W6 b0 (.int .i64 x.hd.kind) (.int .i64 x.hd.pos) (.string ⟨x.hd.name.toArray⟩) (.int .i64 x.hd.n) (.string ⟨x.hd.s.toArray⟩) (.slice s9.la x.hd.labels.length s9.lc) (.slice s9.aa x.args.length s9.ac) (.slice s9.ra x.arms.length s9.rc)).setCell ⟨b1,0,none⟩ (.int .i64 0)).setCell ⟨b2,0,none⟩ (.int .i64 0)=W9->Door w b0 b1 b2 0 0 W9/\ExBox W9 b0 x s9/\IsE W9 (fun g=>w.heap.size<=g) (exL x s9) x):=zb (by
        intro W9 he;obtain⟨k1,k2,k3⟩:=HD.out.put x s9 rfl;obtain⟨k4,k5⟩:=k1.set 0 0 he;refine⟨k4,(k5 b0 n3 n4).trans k2,?_⟩;exact HI.out.other fun g hg=>⟨by have:=HW2.out;omega,(k5 g (by have:=HW2.out;omega) (by have:=HW2.out;omega)).trans (k3 g (by have:=HW2.out;omega))⟩)
       unfold set8 at HFIN
       go_wp2_with fail
       all_goals
        have hf:=HFIN.out _ rfl;refine door_good (s:=s9) (tmps:=_) hf.1 hf.2.1 hf.2.2 ?_ ?_ ?_ <;> rfl
 . have hne:(er != 0)=true:=by
    rw[bne_iff_ne];rcases hbad with⟨rfl,_⟩ | ⟨_,rfl | rfl,_⟩ <;> decide
   obtain rfl:pv=.bad er q:=by
    rw[← hpv];rcases hbad with⟨rfl,rfl,h6⟩ | ⟨h6,h7,_,h8⟩
    . unfold ParseV;rw[uJ h6]
    . unfold ParseV LexV;rw[if_neg (by omega),h8]
   clear hbad HL hpv
   go_wp2_with fail
   refine tj (tmps:=_) HD.out ?_ ?_ ?_ <;> rfl
end
section
open Go.RowKit
end
