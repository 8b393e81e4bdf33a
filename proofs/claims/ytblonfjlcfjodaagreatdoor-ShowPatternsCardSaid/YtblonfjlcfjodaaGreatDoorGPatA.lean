/-
  The walks of negative and patLeaf.
-/
import Derived.Test.YtblonfjlcfjodaaGreatDoorPAtom
import Derived.IntWalk
namespace Go.Proofs.YtblonfjlcfjodaaGreatDoor
set_option linter.unusedSimpArgs false
set_option linter.unusedVariables false
set_option maxRecDepth 100000
set_option maxHeartbeats 4000000
section
open Go.RowKit
theorem load_pa {w:World} {b:Nat} {x:Nd} {s:Sl} (h:PaBox w b x s):(loadVar 39 ⟨b,0,none⟩).run Tryz.prog w=.ok (paOf x s) w:=by
 obtain⟨c0,c1,c2,c3,c4,c5,c6,_⟩:=Box7.cells h;simp [go_sem,c0,c1,c2,c3,c4,c5,c6,paOf]
theorem xz {fn:Func} {q:Tmp} (hr:fn.results=#[.cell q 39]) {a:Act} {b:Nat} {w:World} {x:Nd} {s:Sl} {Q:Ending->World->Prop} (ha:a.tmps.getD q undef=.pointer (some ⟨b,0,none⟩)) (hd:a.defers=[]) (h:PaBox w b x s/\Q (.returned (paOf x s)) w):bodyPost Tryz.prog fn Q .ret a w:=by
 refine bodyPost_ret (v:=paOf x s) ?_ hd h.2;rw[uR hr,ha];simp [asAddr,Result.andThen,load_pa h.1]
theorem xB {w w2 w9:World} {p b0:Nat} {R:List Tok} {x:Nd} {s:Sl} {c0 c1 c2 c3 c4 c5 c6:Value} (hx:Box7 w2 b0 39 c0 c1 c2 c3 c4 c5 c6) (hb0:w.heap.size<=b0) (hk:Keep w p R w2) (hp:p<w.heap.size) (hi:IsP w2 (fun g=>b0<g) (paL x s) x)
 (he:set7 w2 b0 (.int .i64 x.hd.kind) (.int .i64 x.hd.pos) (.string ⟨x.hd.name.toArray⟩) (.int .i64 x.hd.n) (.string ⟨x.hd.s.toArray⟩) (.slice s.la x.hd.labels.length s.lc) (.slice s.aa x.args.length s.ac)=w9) :
 ∀ w10,Below w9.heap.size w9 w10->PaBox w10 b0 x s/\ToldP (.ok x R) w p (.returned (paOf x s)) w10:=by
 obtain⟨h1,h2,h3⟩:=hx.put hk hb0 (by omega) he;intro w10 hb;refine⟨h1.below hb,s,rfl,?_,h2.below hb⟩;exact(hi.other (w':=w9) (N':=fun g=>w.heap.size<=g) fun g hg=>⟨by omega,h3 g (by omega)⟩).move fun g hg hl=>⟨hg,hb.block g hl⟩
theorem bare_isP (W:World) (N:Nat->Prop) (h:Hd) (hl:h.labels=[]):IsP W N (paL (.mk h [] []) ⟨none,0,none,0,none,0⟩) (.mk h [] []):=by
 obtain⟨k,q,x,n,s,ls⟩:=h;obtain rfl:ls=[]:=hl;exact⟨rfl,_,_,rfl,zx _ _ _ _,[],zx _ _ _ _,trivial⟩
theorem wE {w w2 w9:World} {p b0:Nat} {R:List Tok} {h:Hd} {c0 c1 c2 c3 c4 c5 c6:Value} (hl:h.labels=[]) (hk:Keep w p R w2) (hx:Box7 w2 b0 39 c0 c1 c2 c3 c4 c5 c6) (hb0:w.heap.size<=b0) (hp:p<w.heap.size)
 (he:set7 w2 b0 (.int .i64 h.kind) (.int .i64 h.pos) (.string ⟨h.name.toArray⟩) (.int .i64 h.n) (.string ⟨h.s.toArray⟩) (.slice none 0 0) (.slice none 0 0)=w9) :
 ∀ w10,Below w9.heap.size w9 w10->PaBox w10 b0 (.mk h [] []) ⟨none,0,none,0,none,0⟩/\ToldP (.ok (.mk h [] []) R) w p (.returned (paOf (.mk h [] []) ⟨none,0,none,0,none,0⟩)) w10:=by
 obtain⟨k,q,x,n,s,ls⟩:=h;obtain rfl:ls=[]:=hl;exact xB (x:=.mk ⟨k,q,x,n,s,[]⟩ [] []) (s:=⟨none,0,none,0,none,0⟩) hx hb0 hk hp (bare_isP _ _ _ rfl) he
theorem zb6 {w:World} {N:Nat->Prop}:∀{L:List (List Value)} {r:List Nd},IsPs w N L r->L.flatten.length=r.length*7
 | [],[],_=>rfl
 | cs::L,x::r,h=>by
  rw[List.flatten_cons,List.length_append,h.1.len,zb6 h.2,List.length_cons];omega
 | [],_::_,h=>h.elim
 | _::_,[],h=>h.elim
theorem zeg {t:Tok} {h:Hd} (he:leafE t=.mk h [] []):leafP t=if leafK t=2/\h.name=[95] then .mk ⟨1,t.2,[],0,[],[]⟩ [] [] else .mk ⟨leafK t,t.2,h.name,h.n,h.s,[]⟩ [] []:=by
 unfold leafE at he;unfold leafP leafK
 split at he
 . rename_i h1;obtain⟨rfl,_,_⟩:=Nd.mk.inj he;rw[if_pos h1,if_pos h1];by_cases hx:t.1.text=[95]
   . rw[if_pos hx,if_pos ⟨rfl,hx⟩]
   . rw[if_neg hx,if_neg (fun h=>hx h.2)]
 . rename_i h1;rw[if_neg h1,if_neg h1]
   split at he
   . rename_i h2;obtain⟨rfl,_,_⟩:=Nd.mk.inj he;rw[if_pos h2,if_pos h2,if_neg (fun h=>by have:=h.1;omega)]
   . rename_i h2;rw[if_neg h2,if_neg h2]
     split at he
     . rename_i h3;obtain⟨rfl,_,_⟩:=Nd.mk.inj he;rw[if_pos h3,if_pos h3,if_neg (fun h=>by have:=h.1;omega)]
     . rename_i h3;rw[if_neg h3,if_neg h3]
       split at he
       . rename_i h4;obtain⟨rfl,_,_⟩:=Nd.mk.inj he;rw[if_pos h4,if_pos h4,if_neg (fun h=>by have:=h.1;omega)]
       . rename_i h4;obtain⟨rfl,_,_⟩:=Nd.mk.inj he;rw[if_neg h4,if_neg h4];exact(if_neg (fun hh=>absurd hh.1 (by decide))).symm
theorem wrap_neg {n:Int} (h0:0<=n) (h1:n<=4611686018427387903):IntKind.i64.wrap (-n)=-n:=IntWalk.i64_in _ (by omega)
theorem zdA (rec:Md->List Tok->PR) (p q:Nat):∀(T:List Tok) (w:World),PAt w p T->Calls Tryz.prog 243 #[ptrV p,.int .i64 (q:Nat)] w (ToldP (exec rec (.acc (isKind 4) (fun u=>.ret (.mk ⟨3,q,[],-u.1.n,[],[]⟩ [] [])) .fail) T) w p):=by
 intro T w hp;have HLT:=zb hp.lt;have HK:=zb (Keep.start hp);have hbx:=zj (w:=w) zeroPat;have HX:Hid (ZeroPa (w.alloc zeroPat) w.heap.size):=zb (ZeroPa.new w);replace HK:=zb (HK.out.below hbx);clear hbx;have HPB:Hid (p<w.heap.size):=HLT;have HB0:Hid (w.heap.size<=w.heap.size):=zb (by omega);obtain⟨t0,S0,hT0⟩:=hp.row.cons;subst hT0;have HR:Hid (exec rec (.acc (isKind 4) (fun u=>.ret (.mk ⟨3,q,[],-u.1.n,[],[]⟩ [] [])) .fail) (t0::S0)=if isKind 4 t0=true then .ok (.mk ⟨3,q,[],-t0.1.n,[],[]⟩ [] []) S0 else .bad (t0::S0)):=zb (by simp only[exec])
 generalize exec rec _ (t0::S0)=res at *;have HO:=zb (hp.ok t0 (by simp));clear hp
 go_enter Tryz.func243, Tryz.ntmps243
 obtain⟨g,off,cap,q0,_,l1,l2,l3,j0,j1,j2,j3⟩:=HK.out.at_.view;have jb:(0:Int)<((S0.length:Int)+1):=by omega
 have jg:g<w.heap.size:=by have:=HLT.out;omega
 by_cases hk:t0.1.kind=4
 . rw[if_pos (show isKind 4 t0=true from decide_eq_true hk)] at HR
   have B3:(t0.1.kind == 4)=true:=by rw[beq_iff_eq];exact hk
   have B4:(t0.1.kind != 4)=false:=by rw[bne_eq_false_iff_eq];exact hk
   have hk0:t0.1.kind≠0:=by omega
   obtain⟨u0,S1,rfl⟩:=xx HK.out.at_.row hk0;have HRD:=zb (fun W h=>vB p t0 u0 S1 W h hk0);clear hk hk0
   go_wp2_with fail
   refine(HRD.out _ HK.out.at_).mono ?_;rintro e V1 ⟨rfl,hp2,hg2⟩;have hk2:=Keep.mk hp2 hg2;replace HX:=zb (HX.out.keep hk2 HPB.out);replace HK:=zb (HK.out.trans hk2);clear hp2 hg2 hk2 HRD q0 l1 l2 l3 j0 j1 j2 j3 jb jg B3 B4;have htf:=zdI t0.1.kind (t0.2:Nat) t0.1.n ⟨t0.1.text.toArray⟩;have hwn:=wrap_neg HO.out.low HO.out.high;clear HO;unfold tokVal tokAgg;obtain⟨x0,x1,x2,x3,x4,x5,x6,xf⟩:=(Box7.cells HX.out);have y0:=xf 0;have y1:=xf 1;have y2:=xf 2;have y3:=xf 3;have y4:=xf 4;have y5:=xf 5;have y6:=xf 6;have hxl:=HX.out.lt;clear xf;have HS:=zb (wE (h:=⟨3,q,[],-t0.1.n,[],[]⟩) rfl HK.out HX.out HB0.out HLT.out rfl);unfold set7 at HS
   go_wp2_with fail
   generalize World.setCell _ _ _=w9 at *;rw[HR.out];exact xz Tryz.results243 rfl rfl (HS.out _ (Below.refl _ _))
 . rw[if_neg (show ¬isKind 4 t0=true from fun h=>hk (of_decide_eq_true h))] at HR
   have B3:(t0.1.kind == 4)=false:=beq_eq_false_iff_ne.2 hk;have B4:(t0.1.kind != 4)=true:=by rw[bne_iff_ne];exact hk
   clear hk
   go_wp2_with fail
   refine(th p t0 S0 _ HK.out.at_).mono ?_;rintro e V1 h9;obtain⟨rfl,hb2⟩:=h9;have HG:=zb (zr HK.out.grown hb2);clear hb2;unfold faultV
   go_wp2_with fail
   exact⟨rfl,by rw[HR.out];exact⟨t0,S0,rfl,rfl,HG.out⟩⟩
theorem w_patLeaf (p:Nat) (t:Tok) (S:List Tok) (hl:isLeaf t=true):∀(w:World),PAt w p (t::S)->Calls Tryz.prog 242 #[ptrV p,leafV t] w (ToldP (.ok (leafP t) S) w p):=by
 intro w hp;have HLT:=zb hp.lt;have HK:=zb (Keep.start hp);have hk0:=wD t hl;obtain⟨u0,S1,rfl⟩:=xx hp.row hk0;have HRD:=zb (fun W h=>vB p t u0 S1 W h hk0);obtain⟨h,hE,hlab,hpos,hV⟩:=tE (t:=t);have HR:Hid (PR.ok (leafP t) (u0::S1)=_):=zb (congrArg (PR.ok · (u0::S1)) (zeg hE));rw[hV];generalize PR.ok (leafP t) (u0::S1)=res at *;generalize leafK t=lk at *;clear hE hlab hpos hV hk0 hl;have hbx:=zj (w:=w) (.cells #[.int .i64 h.kind,.int .i64 lk,.string ⟨h.name.toArray⟩,.int .i64 h.n,.string ⟨h.s.toArray⟩] 239 (0,0));have HL:Hid (Box5 (w.alloc (.cells #[.int .i64 h.kind,.int .i64 lk,.string ⟨h.name.toArray⟩,.int .i64 h.n,.string ⟨h.s.toArray⟩] 239 (0,0))) w.heap.size 239 (.int .i64 h.kind) (.int .i64 lk) (.string ⟨h.name.toArray⟩) (.int .i64 h.n) (.string ⟨h.s.toArray⟩)):=zb (zA _ _ _ rfl);replace HK:=zb (HK.out.below hbx);clear hbx;have hbx:=zj (w:=w.alloc (.cells #[.int .i64 h.kind,.int .i64 lk,.string ⟨h.name.toArray⟩,.int .i64 h.n,.string ⟨h.s.toArray⟩] 239 (0,0))) zeroPat;have HX:Hid (ZeroPa ((w.alloc (.cells #[.int .i64 h.kind,.int .i64 lk,.string ⟨h.name.toArray⟩,.int .i64 h.n,.string ⟨h.s.toArray⟩] 239 (0,0))).alloc zeroPat) (w.heap.size+1)):=zb (by have h9:=ZeroPa.new (w.alloc (.cells #[.int .i64 h.kind,.int .i64 lk,.string ⟨h.name.toArray⟩,.int .i64 h.n,.string ⟨h.s.toArray⟩] 239 (0,0)));rwa [World.size_alloc] at h9);replace HK:=zb (HK.out.below hbx);replace HL:=zb (Box5.below HL.out hbx);clear hbx;have HPB:Hid (p<w.heap.size+1):=zb (by have:=HLT.out;omega);have HB0:Hid (w.heap.size<=w.heap.size+1):=zb (by omega);clear hp
 go_enter Tryz.func242, Tryz.ntmps242
 go_wp2_with fail
 refine(HRD.out _ HK.out.at_).mono ?_;rintro e V1 ⟨rfl,hp2,hg2⟩;have hk2:=Keep.mk hp2 hg2;replace HX:=zb (HX.out.keep hk2 HPB.out);replace HL:=zb (Box5.keep HL.out hk2 HLT.out);replace HK:=zb (HK.out.trans hk2);clear hp2 hg2 hk2 HRD;have htf:=qF t.1.kind (t.2:Nat) t.1.n ⟨t.1.text.toArray⟩;obtain⟨k0,k1,k2,k3,k4,_⟩:=Box5.cells HL.out;have kl:=Box5.lt HL.out;unfold tokVal tokAgg;obtain⟨x0,x1,x2,x3,x4,x5,x6,xf⟩:=(Box7.cells HX.out);have y0:=xf 0;have y1:=xf 1;have y2:=xf 2;have y3:=xf 3;have y4:=xf 4;have y5:=xf 5;have y6:=xf 6;have hxl:=HX.out.lt;clear xf;by_cases h1:lk=2
 . subst h1;by_cases h2:h.name=[95]
   . rw[if_pos ⟨rfl,h2⟩] at HR;have B2:(h.name == [95])=true:=by rw[beq_iff_eq];exact h2
     clear h2;have HS:=zb (wE (h:=⟨1,t.2,[],0,[],[]⟩) rfl HK.out HX.out HB0.out HLT.out rfl);unfold set7 at HS
     go_wp2_with fail
     generalize World.setCell _ _ _=w9 at *;rw[HR.out];exact xz Tryz.results242 rfl rfl (HS.out _ (Below.refl _ _))
   . rw[if_neg (fun h=>h2 h.2)] at HR;have B2:(h.name == [95])=false:=beq_eq_false_iff_ne.2 h2;clear h2;have HS:=zb (wE (h:=⟨2,t.2,h.name,h.n,h.s,[]⟩) rfl HK.out HX.out HB0.out HLT.out rfl);unfold set7 at HS
     go_wp2_with fail
     generalize World.setCell _ _ _=w9 at *;rw[HR.out];exact xz Tryz.results242 rfl rfl (HS.out _ (Below.refl _ _))
 . rw[if_neg (fun h=>h1 h.1)] at HR;have B1:(lk == 2)=false:=beq_eq_false_iff_ne.2 h1;clear h1;have HS:=zb (wE (h:=⟨lk,t.2,h.name,h.n,h.s,[]⟩) rfl HK.out HX.out HB0.out HLT.out rfl);unfold set7 at HS
   go_wp2_with fail
   generalize World.setCell _ _ _=w9 at *;rw[HR.out];exact xz Tryz.results242 rfl rfl (HS.out _ (Below.refl _ _))
end
section
open Go.RowKit
theorem node_rowP {w W1 W2:World} {p b0:Nat} {R:List Tok} {args:List Nd} {L:List (List Value)} (hk:Keep w p R W1) (ha:IsPs W1 (fun g=>b0<g) L args) (hz:b0<W1.heap.size) (hl:args.length<=1000) (h:Hd) (hlab:h.labels=[])
 (hb:Below (W1.alloc (.cells L.flatten.toArray 39 (0,0))).heap.size (W1.alloc (.cells L.flatten.toArray 39 (0,0))) W2) :
 IsP W2 (fun g=>b0<g) (paL (.mk h args []) ⟨none,0,some ⟨W1.heap.size,0,none⟩,args.length,none,0⟩) (.mk h args [])/\Keep w p R W2/\Below W1.heap.size W1 W2:=by
 obtain⟨k,q,x,n,s,ls⟩:=h;obtain rfl:ls=[]:=hlab;have hb1:Below W1.heap.size W1 W2:=(zj _).trans (hb.mono (by simp));exact⟨⟨rfl,_,_,rfl,zx _ _ _ _,L,tH hl (zb6 ha) hz hb,IsPs.move (fun g hg hl=>⟨hg,hb1.block g hl⟩) ha⟩,hk.below hb1,hb1⟩
theorem ret_nodeP {w w2 w9:World} {p b0:Nat} {R:List Tok} {k n:Int} {q:Nat} {x:List UInt8} {args:List Nd} {g:Option Addr} {c:Nat} {c0 c1 c2 c3 c4 c5 c6:Value} (hx:Box7 w2 b0 39 c0 c1 c2 c3 c4 c5 c6) (hb0:w.heap.size<=b0) (hp:p<w.heap.size)
 (hi:IsP w2 (fun g=>b0<g) (paL (.mk ⟨k,q,x,n,[],[]⟩ args []) ⟨none,0,g,c,none,0⟩) (.mk ⟨k,q,x,n,[],[]⟩ args [])/\Keep w p R w2) (m:Nat) (hm:args.length=m) (X:ByteArray) (hX:(⟨x.toArray⟩:ByteArray)=X)
 (he:set7 w2 b0 (.int .i64 k) (.int .i64 (q:Nat)) (.string X) (.int .i64 n) (.string ⟨#[]⟩) (.slice none 0 0) (.slice g m c)=w9) :
 ∀ w10,Below w9.heap.size w9 w10->PaBox w10 b0 (.mk ⟨k,q,x,n,[],[]⟩ args []) ⟨none,0,g,c,none,0⟩/\ToldP (.ok (.mk ⟨k,q,x,n,[],[]⟩ args []) R) w p (.returned (paOf (.mk ⟨k,q,x,n,[],[]⟩ args []) ⟨none,0,g,c,none,0⟩)) w10:=by
 subst hm hX;exact xB hx hb0 hi.2 hp hi.1 he
theorem ret_bagP {w w2 w9:World} {p b0:Nat} {R:List Tok} {k:Int} {q:Nat} {ls:List (List UInt8)} {args:List Nd} {gl g:Option Addr} {cl c:Nat} {c0 c1 c2 c3 c4 c5 c6:Value} (hx:Box7 w2 b0 39 c0 c1 c2 c3 c4 c5 c6) (hb0:w.heap.size<=b0) (hk:Keep w p R w2) (hp:p<w.heap.size)
 (hi:IsP w2 (fun g=>b0<g) (paL (.mk ⟨k,q,[],0,[],ls⟩ args []) ⟨gl,cl,g,c,none,0⟩) (.mk ⟨k,q,[],0,[],ls⟩ args []))
 (he:set7 w2 b0 (.int .i64 k) (.int .i64 (q:Nat)) (.string ⟨#[]⟩) (.int .i64 0) (.string ⟨#[]⟩) (.slice gl ls.length cl) (.slice g args.length c)=w9) :
 ∀ w10,Below w9.heap.size w9 w10->PaBox w10 b0 (.mk ⟨k,q,[],0,[],ls⟩ args []) ⟨gl,cl,g,c,none,0⟩/\ToldP (.ok (.mk ⟨k,q,[],0,[],ls⟩ args []) R) w p (.returned (paOf (.mk ⟨k,q,[],0,[],ls⟩ args []) ⟨gl,cl,g,c,none,0⟩)) w10 :=
 xB (x:=.mk ⟨k,q,[],0,[],ls⟩ args []) (s:=⟨gl,cl,g,c,none,0⟩) hx hb0 hk hp hi he
theorem pat_tag {rec:Md->List Tok->PR} {t:Tok} {S:List Tok} (h:isKind 3 t=true):exec rec (step .pat) (t::S)=match rec .patom S with
 | .ok x R=>.ok (.mk ⟨8,t.2,t.1.text,0,[],[]⟩ [x] []) R
 | .bad R=>.bad R
 | .out=>.out:=by
 show(if isKind 3 t=true then exec rec (.call .patom fun p=>.ret (nodeN 8 t t.1.text 0 [p])) S else _)=_
 rw[h,if_pos rfl];cases hq:rec .patom S <;> simp only[exec,hq,nodeN]
theorem pat_no {rec:Md->List Tok->PR} {t:Tok} {S:List Tok} (h:isKind 3 t=false):exec rec (step .pat) (t::S)=rec .patom (t::S):=by
 show(if isKind 3 t=true then _ else exec rec (.call .patom .ret) (t::S))=_
 rw[h,if_neg (by decide)];cases hq:rec .patom (t::S) <;> simp only[exec,hq]
section
variable {rec : Md -> List Tok -> PR} {t : Tok} {S : List Tok}
theorem zds (h:isLeaf t=true):exec rec (step .patom) (t::S)=.ok (leafP t) S:=by
 show(if isLeaf t=true then _ else _)=_
 rw[h];rfl
theorem uy (h:isLeaf t=false) (h1:isOne [sMinus,sOpen,sCurl] t=true):exec rec (step .patom) (t::S)=exec rec (if t.1.text=sMinus then .acc (isKind 4) (fun u=>.ret (nodeN 3 t [] (-u.1.n) [])) .fail
 else if t.1.text=sCurl then .call (.fields false) fun r=>.ret (.mk ⟨9,t.2,[],0,[],r.hd.labels⟩ r.args [])
 else .acc (isOne [sShut]) (fun _=>.ret (nodeN 6 t [] 0 [])) (.call .pat fun p=>need [sShut] fun _=>.ret p)) S:=by
 show(if isLeaf t=true then _ else if isOne [sMinus,sOpen,sCurl] t=true then _ else _)=_
 rw[h,h1];rfl
theorem patom_bad (h:isLeaf t=false) (h1:isOne [sMinus,sOpen,sCurl] t=false):exec rec (step .patom) (t::S)=.bad (t::S):=by
 show(if isLeaf t=true then _ else if isOne [sMinus,sOpen,sCurl] t=true then _ else _)=_
 rw[h,h1];rfl
theorem zb0 (h:isLeaf t=false) (h1:isOne [sMinus,sOpen,sCurl] t=true) (hx:t.1.text=sMinus):exec rec (step .patom) (t::S)=exec rec (.acc (isKind 4) (fun u=>.ret (.mk ⟨3,t.2,[],-u.1.n,[],[]⟩ [] [])) .fail) S:=by
 rw[uy h h1,if_pos hx];rfl
theorem zei (h:isLeaf t=false) (h1:isOne [sMinus,sOpen,sCurl] t=true) (hx:¬t.1.text=sMinus) (hy:t.1.text=sCurl):exec rec (step .patom) (t::S)=match rec (.fields false) S with
 | .ok r R=>.ok (.mk ⟨9,t.2,[],0,[],r.hd.labels⟩ r.args []) R
 | .bad R=>.bad R
 | .out=>.out:=by
 rw[uy h h1,if_neg hx,if_pos hy];cases hq:rec (.fields false) S <;> simp only[exec,hq]
theorem zeq (h:isLeaf t=false) (h1:isOne [sMinus,sOpen,sCurl] t=true) (hx:¬t.1.text=sMinus) (hy:¬t.1.text=sCurl):exec rec (step .patom) (t::S)=exec rec (.acc (isOne [sShut]) (fun _=>.ret (.mk ⟨6,t.2,[],0,[],[]⟩ [] [])) (.call .pat fun p=>.acc (isOne [sShut]) (fun _=>.ret p) .fail)) S:=by
 rw[uy h h1,if_neg hx,if_neg hy];rfl
end
theorem w_pat (f p:Nat) (ha:SaysP f .patom 233 #[ptrV p] p):SaysP (f+1) .pat 225 #[ptrV p] p:=by
 have HHA:=zb ha;clear ha;intro T w hp hne;have HLT:=zb hp.lt;have HK:=zb (Keep.start hp);have hbx:=zj (w:=w) zeroPat;have HX:Hid (ZeroPa (w.alloc zeroPat) w.heap.size):=zb (ZeroPa.new w);replace HK:=zb (HK.out.below hbx);clear hbx;have HPB:Hid (p<w.heap.size):=zb (by have:=HLT.out;omega);have HB0:Hid (w.heap.size<=w.heap.size):=zb (by omega);have HR:Hid (run (f+1) .pat T=exec (run f) (step .pat) T):=zb rfl;have HN:=zb hne;obtain⟨t0,S0,hT0⟩:=hp.row.cons;generalize run (f+1) .pat T=res at *;subst hT0;clear hp hne
 go_enter Tryz.func225, Tryz.ntmps225
 obtain⟨g,off,cap,q0,_,l1,l2,l3,j0,j1,j2,j3⟩:=HK.out.at_.view;have jb:(0:Int)<((S0.length:Int)+1):=by omega
 have jg:g<w.heap.size:=by have:=HLT.out;omega
 by_cases hk:t0.1.kind=3
 . have B3:(t0.1.kind == 3)=true:=by rw[beq_iff_eq];exact hk
   have hk0:t0.1.kind≠0:=by omega
   obtain⟨u0,S1,rfl⟩:=xx HK.out.at_.row hk0;replace HR:=zb (HR.out.trans (pat_tag (decide_eq_true hk)));have HRD:=zb (fun W h=>vB p t0 u0 S1 W h hk0);clear hk hk0
   go_wp2_with fail
   refine(HRD.out _ HK.out.at_).mono ?_;rintro e V1 ⟨rfl,hp2,hg2⟩;have hk2:=Keep.mk hp2 hg2;replace HX:=zb (HX.out.keep hk2 HPB.out);replace HK:=zb (HK.out.trans hk2);clear hp2 hg2 hk2 HRD q0 l1 l2 l3 j0 j1 j2 j3 jb jg B3;have hbx:=zj (w:=V1) (tokObj t0);have HT:=zb (TkBox.new V1 t0);have HTP:Hid (p<V1.heap.size):=zb (by have:=HPB.out;have:=HX.out.lt;omega);have HTZ:Hid (w.heap.size<V1.heap.size):=zb HX.out.lt;replace HX:=zb (HX.out.below hbx);replace HK:=zb (HK.out.below hbx);clear hbx;unfold tokVal tokAgg
   go_upto_region 3 with fail
   generalize V1.heap.size=bt at *;generalize V1.alloc (tokObj t0)=w3 at *;have HKd:=zb (HK.out.below (zm _));obtain⟨k0,k1,k2,k3,_⟩:=TokBox.cells HT.out;have kl:=HT.out.lt;cases hr:run f .patom (u0::S1) with
   | out =>
    rw[hr] at HR;exact absurd HR.out HN.out
   | bad R9 =>
    rw[hr] at HR;have HSC:Hid (∀ W,PAt W p (u0::S1)->Calls Tryz.prog 233 #[ptrV p] W (ToldP (.bad R9) W p)):=zb (fun W h=>by
     have:=HHA.out (u0::S1) W h (by rw[hr];exact fun h=>by cases h)
     rwa [hr] at this)
    clear hr
    go_region_dies
    all_goals
     refine(HSC.out _ HKd.out.at_).mono ?_;rintro e w8 ⟨t8,S8,rfl,rfl,hg⟩;have HG:=zb (zo HKd.out.grown hg);exact⟨rfl,by rw[HR.out];exact⟨t8,S8,rfl,rfl,HG.out⟩⟩
   | ok b R2 =>
    rw[hr] at HR;have HSC:Hid (∀ W,PAt W p (u0::S1)->Calls Tryz.prog 233 #[ptrV p] W (ToldP (.ok b R2) W p)):=zb (fun W h=>by
     have:=HHA.out (u0::S1) W h (by rw[hr];exact fun h=>by cases h)
     rwa [hr] at this)
    clear hr;refine yg 8 (fun W=>W.cell? ⟨bt,0,none⟩=some (.int .i64 t0.1.kind)/\W.cell? ⟨bt,1,none⟩=some (.int .i64 (t0.2:Nat))/\W.cell? ⟨bt,2,none⟩=some (.string ⟨t0.1.text.toArray⟩)/\W.cell? ⟨bt,3,none⟩=some (.int .i64 t0.1.n)) (by kernel_rfl) (by kernel_rfl) (by go_keep) (fun hL inv hHeld=>?_);refine zl 0 hL rfl inv (fun inv=>?_)
    (try simp only[Act.put,zg,zh,zi])
    refine zl 1 hL rfl inv (fun inv=>?_)
    (try simp only[Act.put,zg,zh,zi])
    refine zl 2 hL rfl inv (fun inv=>?_)
    (try simp only[Act.put,zg,zh,zi])
    refine zl 3 hL rfl inv (fun inv=>?_)
    (try simp only[Act.put,zg,zh,zi])
    refine zl 4 hL rfl inv (fun inv=>?_)
    (try simp only[Act.put,zg,zh,zi])
    refine yb (i:=5) (by kernel_rfl) (by kernel_rfl) rfl inv (fun K hK=>?_)
    go_simp
    go_at_call 233
    refine(HSC.out _ HKd.out.at_).mono ?_;rintro e Wy ⟨sy,rfl,ha,hk⟩;have HAb:Hid (IsP Wy (fun g=>w.heap.size<g) (paL b sy) b):=zb (ha.wide fun g hg=>zd (HX.out.below (zm _)).lt hg);replace HX:=zb ((HX.out.below (zm _)).keep hk HPB.out);replace HT:=zb ((HT.out.below (zm _)).keep hk HTP.out);replace HK:=zb (HKd.out.trans hk);clear HKd k0 k1 k2 k3 kl ha hk;obtain⟨k0,k1,k2,k3,_⟩:=TokBox.cells HT.out;have kl:=HT.out.lt;unfold paOf;refine hK.out _ _ ⟨k0,k1,k2,k3⟩ (fun hHeld inv=>?_);clear hK K
    (try simp only[Act.put,zg,zh,zi])
    refine yb (i:=6) (by kernel_rfl) (by kernel_rfl) rfl inv (fun K hK=>?_)
    go_simp
    generalize hw3:Wy.alloc _=w4;have hbw:Below Wy.heap.size Wy w4:=by subst hw3;exact zj _
    have HNR:Hid (IsP w4 (fun g=>w.heap.size<g) (paL (.mk ⟨8,t0.2,t0.1.text,0,[],[]⟩ [b] []) ⟨none,0,some ⟨Wy.heap.size,0,none⟩,1,none,0⟩) (.mk ⟨8,t0.2,t0.1.text,0,[],[]⟩ [b] [])/\Keep w p R2 w4/\Below Wy.heap.size Wy w4):=zb (by
     subst hw3;exact node_rowP (L:=[paL b sy]) (args:=[b]) HK.out ⟨HAb.out,trivial⟩ HX.out.lt (by simp) ⟨8,t0.2,t0.1.text,0,[],[]⟩ rfl (Below.refl _ _))
    replace HX:=zb (HX.out.below hbw);replace HT:=zb (HT.out.below hbw);clear hw3 hbw k0 k1 k2 k3 kl hHeld HAb HK;obtain⟨k0,k1,k2,k3,_⟩:=TokBox.cells HT.out;have kl:=HT.out.lt;refine hK.out _ _ ⟨k0,k1,k2,k3⟩ (fun hHeld inv=>?_);clear hK K
    (try simp only[Act.put,zg,zh,zi])
    refine zl 7 hL rfl inv (fun inv=>?_)
    (try simp only[Act.put,zg,zh,zi])
    have HS:=zb (ret_nodeP HX.out HB0.out HLT.out ⟨HNR.out.1,HNR.out.2.1⟩ 1 rfl ⟨t0.1.text.toArray⟩ rfl rfl);unfold set7 at HS;obtain⟨x0,x1,x2,x3,x4,x5,x6,xf⟩:=(Box7.cells HX.out);have y0:=xf 0;have y1:=xf 1;have y2:=xf 2;have y3:=xf 3;have y4:=xf 4;have y5:=xf 5;have y6:=xf 6;have hxl:=HX.out.lt;clear xf;refine yw (by kernel_rfl) rfl (by kernel_rfl) (fun K hK=>?_)
    go_simp
    refine hK.out _ _ ?_;clear hK K inv hHeld hL
    go_wp2_with fail
    generalize World.setCell _ _ _=w9 at *;rw[HR.out];exact xz Tryz.results225 rfl rfl (HS.out _ (Below.refl _ _))
 . have B3:(t0.1.kind == 3)=false:=beq_eq_false_iff_ne.2 hk;replace HR:=zb (HR.out.trans (pat_no (decide_eq_false hk)));clear hk
   go_wp2_with fail
   clear q0 l1 l2 l3 j0 j1 j2 j3 jb jg B3;cases hr:run f .patom (t0::S0) with
   | out =>
    rw[hr] at HR;exact absurd HR.out HN.out
   | bad R9 =>
    rw[hr] at HR;refine(HHA.out (t0::S0) _ HK.out.at_ (by rw[hr];exact fun h=>by cases h)).mono ?_;rw[hr];rintro e w8 ⟨t8,S8,rfl,rfl,hg⟩;have HG:=zb (zo HK.out.grown hg);clear hg hr;unfold faultV
    go_wp2_with fail
    exact⟨rfl,by rw[HR.out];exact⟨t8,S8,rfl,rfl,HG.out⟩⟩
   | ok x R1 =>
    rw[hr] at HR;refine(HHA.out (t0::S0) _ HK.out.at_ (by rw[hr];exact fun h=>by cases h)).mono ?_;rw[hr];rintro e W1 ⟨s1,rfl,ha,hk⟩;clear hr;have HAx:Hid (IsP W1 (fun g=>w.heap.size<g) (paL x s1) x):=zb (ha.wide fun g hg=>zd HX.out.lt hg);clear ha;replace HX:=zb (HX.out.keep hk HPB.out);replace HK:=zb (HK.out.trans hk);clear hk;obtain⟨x0,x1,x2,x3,x4,x5,x6,xf⟩:=(Box7.cells HX.out);have y0:=xf 0;have y1:=xf 1;have y2:=xf 2;have y3:=xf 3;have y4:=xf 4;have y5:=xf 5;have y6:=xf 6;have hxl:=HX.out.lt;clear xf;have HS:=zb (xB HX.out HB0.out HK.out HLT.out HAx.out rfl);unfold set7 at HS;unfold paOf
    go_wp2_with fail
    generalize World.setCell _ _ _=w9 at *;rw[HR.out];exact xz Tryz.results225 rfl rfl (HS.out _ (Below.refl _ _))
theorem w_patom (f p:Nat) (hpt:SaysP f .pat 225 #[ptrV p] p) (hfl:SaysF false f (.fields false) 244 #[ptrV p,(.func (.func 225) #[ptrV p] #[])] p):SaysP (f+1) .patom 233 #[ptrV p] p:=by
 have HHPT:=zb hpt;clear hpt;have HHFL:=zb hfl;clear hfl;intro T w hp hne;have HLT:=zb hp.lt;have HK:=zb (Keep.start hp);have hbx:=zj (w:=w) zeroPat;have HX:Hid (ZeroPa (w.alloc zeroPat) w.heap.size):=zb (ZeroPa.new w);replace HK:=zb (HK.out.below hbx);clear hbx;have HPB:Hid (p<w.heap.size):=zb (by have:=HLT.out;omega);have HB0:Hid (w.heap.size<=w.heap.size):=zb (by omega);have HR:Hid (run (f+1) .patom T=exec (run f) (step .patom) T):=zb rfl;have HN:=zb hne;obtain⟨t0,S0,hT0⟩:=hp.row.cons;generalize run (f+1) .patom T=res at *;subst hT0;clear hp hne
 go_enter Tryz.func233, Tryz.ntmps233
 obtain⟨g,off,cap,q0,_,l1,l2,l3,j0,j1,j2,j3⟩:=HK.out.at_.view;have jb:(0:Int)<((S0.length:Int)+1):=by omega
 have jg:g<w.heap.size:=by have:=HLT.out;omega
 go_wp2_with fail
 refine(ro t0 _).mono ?_;rintro e V1 ⟨rfl,hb2⟩;replace HX:=zb (HX.out.below hb2);replace HK:=zb (HK.out.below hb2);clear hb2;clear q0 l1 l2 l3 j0 j1 j2 j3 jb jg;cases hl:isLeaf t0 with
 | true =>
  replace HR:=zb (HR.out.trans (zds hl));obtain⟨h,hE,hlab,hpos,hV⟩:=tE (t:=t0);have HPL:Hid (∀ W,PAt W p (t0::S0)->Calls Tryz.prog 242 #[ptrV p,.agg #[.int .i64 h.kind,.int .i64 (leafK t0),.string ⟨h.name.toArray⟩,.int .i64 h.n,.string ⟨h.s.toArray⟩]] W (ToldP (.ok (leafP t0) S0) W p)):=zb (fun W h=>by rw[← hV];exact w_patLeaf p t0 S0 hl W h);rw[hV];generalize leafK t0=lk at *;generalize leafP t0=x at *;clear hE hlab hpos hV hl;have hbx:=zj (w:=V1) (.cells #[.int .i64 h.kind,.int .i64 (lk),.string ⟨h.name.toArray⟩,.int .i64 h.n,.string ⟨h.s.toArray⟩] 239 (0,0));replace HX:=zb (HX.out.below hbx);replace HK:=zb (HK.out.below hbx);clear hbx
  go_wp2_with fail
  refine(HPL.out _ HK.out.at_).mono ?_;rintro e W1 ⟨s1,rfl,ha,hk⟩;have HAx:Hid (IsP W1 (fun g=>w.heap.size<g) (paL x s1) x):=zb (ha.wide fun g hg=>zd HX.out.lt hg);clear ha;replace HX:=zb (HX.out.keep hk HPB.out);replace HK:=zb (HK.out.trans hk);clear hk;obtain⟨x0,x1,x2,x3,x4,x5,x6,xf⟩:=(Box7.cells HX.out);have y0:=xf 0;have y1:=xf 1;have y2:=xf 2;have y3:=xf 3;have y4:=xf 4;have y5:=xf 5;have y6:=xf 6;have hxl:=HX.out.lt;clear xf;have HS:=zb (xB HX.out HB0.out HK.out HLT.out HAx.out rfl);unfold set7 at HS;unfold paOf
  go_wp2_with fail
  generalize World.setCell _ _ _=w9 at *;rw[HR.out];exact xz Tryz.results233 rfl rfl (HS.out _ (Below.refl _ _))
 | false =>
  obtain⟨va,vb,vx,vn,vs,hv⟩:=uB t0;rw[hv];clear hv;have hbp:=zj (w:=V1) (.cells #[.int .i64 va,.int .i64 vb,.string vx,.int .i64 vn,.string vs] 239 (0,0));replace HX:=zb (HX.out.below hbp);replace HK:=zb (HK.out.below hbp);clear hbp;have HAC:=zb (fun W b h hb=>zE p t0 S0 [sMinus,sOpen,sCurl] _ _ rfl rfl (by decide) W b h hb)
  go_wp2_with fail
  refine(HAC.out _ _ HK.out.at_ (by simp)).mono ?_;rintro e W1 (⟨hy,rfl,hp2,hg2⟩ | ⟨hy,rfl,hb2⟩)
  . skip
    have hk2:=Keep.mk hp2 hg2;replace HX:=zb (HX.out.keep hk2 HPB.out);replace HK:=zb (HK.out.trans hk2);clear hp2 hg2 hk2 HAC ;have hbx:=zj (w:=W1) (tokObj t0);have HT:=zb (TkBox.new W1 t0);have HTP:Hid (p<W1.heap.size):=zb (by have:=HPB.out;have:=HX.out.lt;omega);have HTZ:Hid (w.heap.size<W1.heap.size):=zb HX.out.lt;replace HX:=zb (HX.out.below hbx);replace HK:=zb (HK.out.below hbx);clear hbx;obtain⟨k0,k1,k2,k3,_⟩:=TokBox.cells (HT.out);have kl:=(HT.out).lt;by_cases hx:t0.1.text=sMinus
    . replace HR:=zb (HR.out.trans (zb0 hl hy hx));have BM:(t0.1.text == [45])=true:=by rw[hx];rfl
      clear hx hl hy;have HNG:=zb (fun W h=>zdA (run f) p t0.2 S0 W h);unfold tokVal tokAgg
      go_wp2_with fail
      cases hr:exec (run f) (.acc (isKind 4) (fun u=>.ret (.mk ⟨3,t0.2,[],-u.1.n,[],[]⟩ [] [])) .fail) S0 with
      | out =>
       rw[hr] at HR;exact absurd HR.out HN.out
      | bad R9 =>
       rw[hr] at HR;refine(HNG.out _ HK.out.at_).mono ?_;rw[hr];rintro e w8 ⟨t8,S8,rfl,rfl,hg⟩;have HG:=zb (zo HK.out.grown hg);clear hg hr;unfold faultV
       go_wp2_with fail
       exact⟨rfl,by rw[HR.out];exact⟨t8,S8,rfl,rfl,HG.out⟩⟩
      | ok x R2 =>
       rw[hr] at HR;refine(HNG.out _ HK.out.at_).mono ?_;rw[hr];rintro e W2 ⟨s2,rfl,ha,hk⟩;clear hr;have HAx:Hid (IsP W2 (fun g=>w.heap.size<g) (paL x s2) x):=zb (ha.wide fun g hg=>zd HX.out.lt hg);clear ha;replace HX:=zb (HX.out.keep hk HPB.out);replace HT:=zb (HT.out.keep hk HTP.out);replace HK:=zb (HK.out.trans hk);clear hk;obtain⟨x0,x1,x2,x3,x4,x5,x6,xf⟩:=(Box7.cells HX.out);have y0:=xf 0;have y1:=xf 1;have y2:=xf 2;have y3:=xf 3;have y4:=xf 4;have y5:=xf 5;have y6:=xf 6;have hxl:=HX.out.lt;clear xf;have HS:=zb (xB HX.out HB0.out HK.out HLT.out HAx.out rfl);unfold set7 at HS;unfold paOf
       go_wp2_with fail
       generalize World.setCell _ _ _=w9 at *;rw[HR.out];exact xz Tryz.results233 rfl rfl (HS.out _ (Below.refl _ _))
    . by_cases hz:t0.1.text=sCurl
      . replace HR:=zb (HR.out.trans (zei hl hy hx hz));have BM:(t0.1.text == [45])=false:=beq_eq_false_iff_ne.2 hx;have BC:(t0.1.text == [123])=true:=by rw[hz];rfl
        clear hx hl hy hz;unfold tokVal tokAgg
        go_wp2_with fail
        cases hr:run f (.fields false) S0 with
        | out =>
         rw[hr] at HR;exact absurd HR.out HN.out
        | bad R9 =>
         rw[hr] at HR;refine(HHFL.out S0 _ HK.out.at_ (by rw[hr];exact fun h=>by cases h)).mono ?_;rw[hr];rintro e w8 ⟨t8,S8,rfl,rfl,hg⟩;have HG:=zb (zo HK.out.grown hg);clear hg hr;unfold faultV
         go_wp2_with fail
         exact⟨rfl,by rw[HR.out];exact⟨t8,S8,rfl,rfl,HG.out⟩⟩
        | ok x R1 =>
         rw[hr] at HR;refine(HHFL.out S0 _ HK.out.at_ (by rw[hr];exact fun h=>by cases h)).mono ?_;rw[hr];rintro e W9 ⟨gl,cl,ga,ca,rfl,hls,hro,hk⟩;have hro:PaRow _ _ _ _:=hro;have HA:Hid (IsP W9 (fun g=>w.heap.size<g) (paL (.mk ⟨9,t0.2,[],0,[],x.hd.labels⟩ x.args []) ⟨gl,cl,ga,ca,none,0⟩) (.mk ⟨9,t0.2,[],0,[],x.hd.labels⟩ x.args [])):=zb (by
          have hm:Move W9 (fun g=>(W1.alloc (tokObj t0)).heap.size<=g) W9 (fun g=>w.heap.size<g):=fun g hg hl=>⟨zd HX.out.lt hg,rfl⟩;obtain⟨LL,h1,h2⟩:=hro.ex;exact⟨rfl,_,_,rfl,hls.move hm,LL,h1.move hm,IsPs.move hm h2⟩)
         replace HX:=zb (HX.out.keep hk HPB.out);replace HT:=zb (HT.out.keep hk HTP.out);replace HK:=zb (HK.out.trans hk);clear hk hls hro hr k0 k1 k2 k3 kl;obtain⟨k0,k1,k2,k3,_⟩:=TokBox.cells HT.out;have kl:=HT.out.lt;obtain⟨x0,x1,x2,x3,x4,x5,x6,xf⟩:=(Box7.cells HX.out);have y0:=xf 0;have y1:=xf 1;have y2:=xf 2;have y3:=xf 3;have y4:=xf 4;have y5:=xf 5;have y6:=xf 6;have hxl:=HX.out.lt;clear xf;have HS:=zb (ret_bagP HX.out HB0.out HK.out HLT.out HA.out rfl);unfold set7 at HS
         go_wp2_with fail
         generalize World.setCell _ _ _=w9 at *;rw[HR.out];exact xz Tryz.results233 rfl rfl (HS.out _ (Below.refl _ _))
      . replace HR:=zb (HR.out.trans (zeq hl hy hx hz));have BM:(t0.1.text == [45])=false:=beq_eq_false_iff_ne.2 hx;have BC:(t0.1.text == [123])=false:=beq_eq_false_iff_ne.2 hz;clear hx hl hy hz;obtain⟨t2,S2,rfl⟩:=HK.out.at_.row.cons;simp only[exec] at HR;have HAC:=zb (fun W b h hb=>yc p t2 S2 [sShut] _ _ rfl rfl (by decide) W b h hb);unfold tokVal tokAgg
        go_wp2_with fail
        refine(HAC.out _ _ HK.out.at_ (by simp)).mono ?_;rintro e W3 (⟨hy,rfl,hp2,hg2⟩ | ⟨hy,rfl,hb2⟩)
        . rw[hy,if_pos rfl] at HR;have hk2:=Keep.mk hp2 hg2;replace HX:=zb (HX.out.keep hk2 HPB.out);replace HT:=zb (HT.out.keep hk2 HTP.out);replace HK:=zb (HK.out.trans hk2);clear hy hp2 hg2 hk2 HAC;have hbx:=zj (w:=W3) (tokObj t2);have HU:=zb (TkBox.new W3 t2);have HUP:Hid (p<W3.heap.size):=zb (by have:=HPB.out;have:=HX.out.lt;omega);have HUZ:Hid (w.heap.size<W3.heap.size):=zb HX.out.lt;replace HX:=zb (HX.out.below hbx);replace HT:=zb (HT.out.below hbx);replace HK:=zb (HK.out.below hbx);clear hbx;unfold tokVal tokAgg
          go_upto_region 13 with fail
          clear k0 k1 k2 k3 kl;generalize (W3.alloc (tokObj t2))=w3 at *;obtain⟨k0,k1,k2,k3,_⟩:=TokBox.cells (HT.out);have kl:=(HT.out).lt;obtain⟨x0,x1,x2,x3,x4,x5,x6,xf⟩:=(Box7.cells HX.out);have y0:=xf 0;have y1:=xf 1;have y2:=xf 2;have y3:=xf 3;have y4:=xf 4;have y5:=xf 5;have y6:=xf 6;have hxl:=HX.out.lt;clear xf;have HS:=zb (wE (h:=⟨6,t0.2,[],0,[],[]⟩) rfl HK.out HX.out HB0.out HLT.out rfl);unfold set7 at HS
          go_wp2_with fail
          generalize World.setCell _ _ _=w9 at *;rw[HR.out];exact xz Tryz.results233 rfl rfl (HS.out _ (Below.refl _ _))
        . rw[hy,if_neg (by decide)] at HR;replace HX:=zb (HX.out.below hb2);replace HT:=zb (HT.out.below hb2);replace HK:=zb (HK.out.below hb2);clear hb2 HAC;have hbp:=zj (w:=W3) zeroTok;replace HX:=zb (HX.out.below hbp);replace HT:=zb (HT.out.below hbp);replace HK:=zb (HK.out.below hbp);clear hbp;unfold tokAgg
          go_wp2_with fail
          cases hr:run f .pat (t2::S2) with
          | out =>
           rw[hr] at HR;exact absurd HR.out HN.out
          | bad R9 =>
           rw[hr] at HR;refine(HHPT.out (t2::S2) _ HK.out.at_ (by rw[hr];exact fun h=>by cases h)).mono ?_;rw[hr];rintro e w8 ⟨t8,S8,rfl,rfl,hg⟩;have HG:=zb (zo HK.out.grown hg);clear hg hr;unfold faultV
           go_wp2_with fail
           exact⟨rfl,by rw[HR.out];exact⟨t8,S8,rfl,rfl,HG.out⟩⟩
          | ok x R4 =>
           rw[hr] at HR;refine(HHPT.out (t2::S2) _ HK.out.at_ (by rw[hr];exact fun h=>by cases h)).mono ?_;rw[hr];rintro e W4 ⟨s4,rfl,ha,hk⟩;clear hr;have HAx:Hid (IsP W4 (fun g=>w.heap.size<g) (paL x s4) x):=zb (ha.wide fun g hg=>zd HX.out.lt hg);clear ha;replace HX:=zb (HX.out.keep hk HPB.out);replace HT:=zb (HT.out.keep hk HTP.out);replace HK:=zb (HK.out.trans hk);clear hk;have hbx:=zj (w:=W4) (paObj x s4);have HF:=zb (PaBox.new W4 x s4);have HFP:Hid (p<W4.heap.size):=zb (by have:=HPB.out;have:=HX.out.lt;omega);have HFZ:Hid (w.heap.size<W4.heap.size):=zb HX.out.lt;replace HX:=zb (HX.out.below hbx);replace HT:=zb (HT.out.below hbx);replace HAx:=zb (HAx.out.below hbx);replace HK:=zb (HK.out.below hbx);clear hbx;obtain⟨t5,S5,rfl⟩:=HK.out.at_.row.cons;simp only[exec] at HR;have HAC:=zb (fun W b h hb=>zE p t5 S5 [sShut] _ _ rfl rfl (by decide) W b h hb);unfold paOf
           go_wp2_with fail
           refine(HAC.out _ _ HK.out.at_ (by simp)).mono ?_;rintro e W6 (⟨hy,rfl,hp2,hg2⟩ | ⟨hy,rfl,hb2⟩)
           . rw[hy,if_pos rfl] at HR;have hk2:=Keep.mk hp2 hg2;replace HX:=zb (HX.out.keep hk2 HPB.out);replace HT:=zb (HT.out.keep hk2 HTP.out);replace HF:=zb (HF.out.keep hk2 HFP.out);replace HAx:=zb (HAx.out.keep hk2 (fun g hg=>by have:=HPB.out;omega));replace HK:=zb (HK.out.trans hk2);clear hp2 hg2 hk2 HAC hy;obtain⟨x0,x1,x2,x3,x4,x5,x6,xf⟩:=(Box7.cells HX.out);have y0:=xf 0;have y1:=xf 1;have y2:=xf 2;have y3:=xf 3;have y4:=xf 4;have y5:=xf 5;have y6:=xf 6;have hxl:=HX.out.lt;clear xf;obtain⟨f0,f1,f2,f3,f4,f5,f6,_⟩:=Box7.cells (HF.out);have fl:=(HF.out).lt;have HS:=zb (xB HX.out HB0.out HK.out HLT.out HAx.out rfl);unfold set7 at HS;unfold tokVal tokAgg
             go_wp2_with fail
             generalize World.setCell _ _ _=w9 at *;rw[HR.out];exact xz Tryz.results233 rfl rfl (HS.out _ (Below.refl _ _))
           . rw[hy,if_neg (by decide)] at HR;have HG:=zb (zr HK.out.grown hb2);clear hb2 HAC;unfold faultV
             go_wp2_with fail
             exact⟨rfl,by rw[HR.out];exact⟨t5,S5,rfl,rfl,HG.out⟩⟩
  . replace HR:=zb (HR.out.trans (patom_bad hl hy));have HG:=zb (zr HK.out.grown hb2);clear hb2 HAC;unfold faultV
    go_wp2_with fail
    exact⟨rfl,by rw[HR.out];exact⟨t0,S0,rfl,rfl,HG.out⟩⟩
end
section
open Go.RowKit
theorem sL {k:Int} (hk:k≠19) (t:Tok) (sa:Option Addr) (sn sc:Nat) (w:World):Calls Tryz.prog 123 #[.int .i64 k,tokVal t,.slice sa sn sc] w (ValMade (exV k (t.2:Nat) [] 0 [] nilS (.slice sa sn sc) nilS) w):=by
 have h:=zz k t sa sn sc w
 rwa [if_neg hk] at h
theorem NodeIn.arms {w W:World} {p b0 be:Nat} {R:List Tok} {k:Int} {q:Nat} {args:List Nd} {g ga:Option Addr} {c ca:Nat} {l:List (Nd×Nd)} (hn:NodeIn w p b0 be R ⟨k,q,[],0,[],[]⟩ args g c W) (ha:ArRow W (Nb b0 be) (.slice ga l.length ca) l) :
 Box8 (W.setCell ⟨be,7,none⟩ (.slice ga l.length ca)) be 27 (.int .i64 k) (.int .i64 (q:Nat)) (.string ⟨#[]⟩) (.int .i64 0) (.string ⟨#[]⟩) (.slice none 0 0) (.slice g args.length c) (.slice ga l.length ca) /\
 IsE (W.setCell ⟨be,7,none⟩ (.slice ga l.length ca)) (fun g=>b0<g) (exL (.mk ⟨k,q,[],0,[],[]⟩ args l) ⟨none,0,g,c,ga,ca⟩) (.mk ⟨k,q,[],0,[],[]⟩ args l)/\Keep w p R (W.setCell ⟨be,7,none⟩ (.slice ga l.length ca)):=by
 have hm:Move W (Nb b0 be) (W.setCell ⟨be,7,none⟩ (.slice ga l.length ca)) (fun g=>b0<g):=fun j hj _=>⟨hj.1,Below.heap_setCell _ _ _ _ hj.2⟩;refine⟨zn hn.box 7 _,?_,hn.keep.set hn.new hn.lt _ _⟩;obtain⟨vl,va,vr,h1,h2,⟨L,h3,h4⟩,_⟩:=hn.tree;have h1:[Value.int .i64 k,.int .i64 (q:Nat),.string ⟨#[]⟩,.int .i64 0,.string ⟨#[]⟩,.slice none 0 0,.slice g args.length c,.slice none 0 0]=_:=h1;simp only[List.cons.injEq,true_and,and_true] at h1;obtain⟨rfl,rfl,rfl⟩:=h1;obtain⟨M,h5,h6⟩:=ha.ex;exact⟨_,_,_,rfl,h2.move hm,⟨L,h3.move hm,IsEs.move hm h4⟩,M,h5.move hm,IsAs.move hm h6⟩
theorem ret_arms {w w2 w9:World} {p b0:Nat} {R:List Tok} {k:Int} {q:Nat} {args:List Nd} {l:List (Nd×Nd)} {g ga:Option Addr} {c ca:Nat} {c0 c1 c2 c3 c4 c5 c6 c7:Value} (hx:Box8 w2 b0 27 c0 c1 c2 c3 c4 c5 c6 c7) (hb0:w.heap.size<=b0) (hk:Keep w p R w2) (hp:p<w.heap.size)
 (hi:IsE w2 (fun g=>b0<g) (exL (.mk ⟨k,q,[],0,[],[]⟩ args l) ⟨none,0,g,c,ga,ca⟩) (.mk ⟨k,q,[],0,[],[]⟩ args l))
 (he:set8 w2 b0 (.int .i64 k) (.int .i64 (q:Nat)) (.string ⟨#[]⟩) (.int .i64 0) (.string ⟨#[]⟩) (.slice none 0 0) (.slice g args.length c) (.slice ga l.length ca)=w9) :
 ∀ w10,Below w9.heap.size w9 w10->ExBox w10 b0 (.mk ⟨k,q,[],0,[],[]⟩ args l) ⟨none,0,g,c,ga,ca⟩/\Told (.ok (.mk ⟨k,q,[],0,[],[]⟩ args l) R) w p (.returned (exOf (.mk ⟨k,q,[],0,[],[]⟩ args l) ⟨none,0,g,c,ga,ca⟩)) w10 :=
 zH (x:=.mk ⟨k,q,[],0,[],[]⟩ args l) (s:=⟨none,0,g,c,ga,ca⟩) hx hb0 hk hp hi he
theorem w_cases (f p:Nat) (k:Int) (hk9:k≠19) (t:Tok) (hs:Says f .seq 69 #[ptrV p] p) (ha:SaysA f (.arms []) 213 #[ptrV p] p):Says (f+1) (.cases k t) 180 #[ptrV p,.int .i64 k,tokVal t] p:=by
 have HHS:=zb hs;clear hs;have HHA:=zb ha;clear ha;have HHK9:=zb hk9;clear hk9;intro T w hp hne;have HLT:=zb hp.lt;have HK:=zb (Keep.start hp);have hbx:=zj (w:=w) (tokObj t);have HT:=zb (TkBox.new w t);have HTP:Hid (p<w.heap.size):=HLT;replace HK:=zb (HK.out.below hbx);clear hbx;have hbx:=zj (w:=(w.alloc (tokObj t))) zeroObj;replace HT:=zb (HT.out.below hbx);have HX:Hid (ZeroBox ((w.alloc (tokObj t)).alloc zeroObj) (w.heap.size+1)):=zb (by have h9:=ZeroBox.new (w.alloc (tokObj t));rwa [World.size_alloc] at h9);replace HK:=zb (HK.out.below hbx);clear hbx;have HPB:Hid (p<(w.heap.size+1)):=zb (by have:=HLT.out;omega);have HB0:Hid (w.heap.size<=(w.heap.size+1)):=zb (by omega);have HR:Hid (run (f+1) (.cases k t) T=exec (run f) (step (.cases k t)) T):=zb rfl;have HN:=zb hne;obtain⟨t0,S0,hT0⟩:=hp.row.cons;generalize run (f+1) (.cases k t) T=res at *;subst hT0;simp only[step,need,exec] at HR;clear hp hne;unfold tokVal tokAgg
 go_enter Tryz.func180, Tryz.ntmps180
 go_upto_region 1 with fail
 generalize ((w.alloc (tokObj t)).alloc zeroObj)=w3 at *;have HKd:=zb (HK.out.below (zm _));have hz0:Below w3.heap.size w3 (w3.alloc zeroObj).drew:=(zj zeroObj).trans ((zm _).mono (by simp));have HZ0:=zb hz0;have HKe:=zb (HK.out.below hz0);have HEe:=zb ((ZeroBox.new w3).below (zm _));clear hz0;obtain⟨k0,k1,k2,k3,_⟩:=TokBox.cells (HT.out);have kl:=(HT.out).lt;have n0:¬w.heap.size=(w.heap.size+1):=by skip;omega
 have m0:¬(w.heap.size+1)=w.heap.size:=by skip;omega
 have p0:¬w.heap.size=w3.heap.size:=by omega
 have q0:¬w3.heap.size=w.heap.size:=by omega
 cases hr:run f .seq (t0::S0) with
 | out =>
  rw[hr] at HR;exact absurd HR.out HN.out
 | bad R9 =>
  rw[hr] at HR;have HSC:Hid (∀ W,PAt W p (t0::S0)->Calls Tryz.prog 69 #[ptrV p] W (Told (.bad R9) W p)):=zb (fun W h=>by
   have:=HHS.out (t0::S0) W h (by rw[hr];exact fun h=>by cases h)
   rwa [hr] at this)
  clear hr
  go_region_dies
  all_goals first | (refine(HSC.out _ HKd.out.at_).mono ?_;rintro e w8 ⟨t8,S8,rfl,rfl,hg⟩;have HG:=zb (zo HKd.out.grown hg);exact⟨rfl,by rw[HR.out];exact⟨t8,S8,rfl,rfl,HG.out⟩⟩) | (refine(HSC.out _ HKe.out.at_).mono ?_;rintro e w8 ⟨t8,S8,rfl,rfl,hg⟩;have HG:=zb (zo HKe.out.grown hg);exact⟨rfl,by rw[HR.out];exact⟨t8,S8,rfl,rfl,HG.out⟩⟩)
 | ok a Ry =>
  rw[hr] at HR;have HSC:Hid (∀ W,PAt W p (t0::S0)->Calls Tryz.prog 69 #[ptrV p] W (Told (.ok a Ry) W p)):=zb (fun W h=>by
   have:=HHS.out (t0::S0) W h (by rw[hr];exact fun h=>by cases h)
   rwa [hr] at this)
  clear hr;have HEN0:Hid (w.heap.size<=w3.heap.size/\w3.heap.size≠(w.heap.size+1)):=zb ⟨HK.out.size,by have:=HX.out.lt;omega⟩
  go_region_held3 (fun W=>W.cell? ⟨w.heap.size,0,none⟩=some (.int .i64 t.1.kind)/\W.cell? ⟨w.heap.size,1,none⟩=some (.int .i64 (t.2:Nat))/\W.cell? ⟨w.heap.size,2,none⟩=some (.string ⟨t.1.text.toArray⟩)/\W.cell? ⟨w.heap.size,3,none⟩=some (.int .i64 t.1.n)) (go_keep) (first | (go_at_call 69; refine(HSC.out _ HKd.out.at_).mono ?_;rintro e Wy ⟨sy,rfl,ha,hk⟩;have HAa:Hid (IsE Wy (fun g=>(w.heap.size+1)<g) (exL a sy) a):=zb (ha.wide fun g hg=>zd (HX.out.below (zm _)).lt hg);replace HX:=zb ((HX.out.below (zm _)).keep hk HPB.out);replace HT:=zb ((HT.out.below (zm _)).keep hk HTP.out);replace HK:=zb (HKd.out.trans hk);clear HKd HKe;obtain⟨k0,k1,k2,k3,_⟩:=TokBox.cells (HT.out);have kl:=(HT.out).lt;clear ha hk;unfold exOf exV) | (go_at_call 69; refine(HSC.out _ HKe.out.at_).mono ?_;rintro e Wy ⟨sy,rfl,ha,hk⟩;have HAa:=zb (ha.fresh_new (b0:=(w.heap.size+1)) (be:=w3.heap.size) (HX.out.below HZ0.out).lt HEe.out.lt);have HEZ:=zb (HEe.out.keep hk (Nat.lt_trans HPB.out HX.out.lt));replace HX:=zb ((HX.out.below HZ0.out).keep hk HPB.out);replace HT:=zb ((HT.out.below HZ0.out).keep hk HTP.out);replace HK:=zb (HKe.out.trans hk);clear HKd HKe;obtain⟨k0,k1,k2,k3,_⟩:=TokBox.cells (HT.out);have kl:=(HT.out).lt;clear ha hk;unfold exOf exV) | (go_at_call 123; refine(sL HHK9.out t (some _) 1 1 _).mono ?_;rintro e Wz ⟨rfl,hb2⟩;have HNR:=zb (zG (L:=[exL a sy]) (args:=[a]) HK.out ⟨HAa.out,trivial⟩ HX.out.lt (by simp) ⟨k,t.2,[],0,[],[]⟩ rfl hb2);have HTR:=zb HNR.out.1;replace HX:=zb (HX.out.below HNR.out.2.2);replace HK:=zb HNR.out.2.1;have p0:¬w.heap.size=Wz.heap.size:=(by have:=HT.out.lt;have:=HNR.out.2.2.size;omega);have q0:¬Wz.heap.size=w.heap.size:=(by omega);replace HT:=zb (HT.out.below HNR.out.2.2);obtain⟨k0,k1,k2,k3,_⟩:=TokBox.cells (HT.out);have kl:=(HT.out).lt;clear hb2 HNR;unfold exV) | (go_at_call 123; refine(sL HHK9.out t (some _) 1 1 _).mono ?_;rintro e Wz ⟨rfl,hb2⟩;have HNR:=zb (zJ (N:=Nb ((w.heap.size+1)) w3.heap.size) (L:=[exL a sy]) (args:=[a]) HK.out ⟨HAa.out,trivial⟩ ⟨HX.out.lt,Nat.ne_of_gt HEZ.out.lt⟩ (by simp) ⟨k,t.2,[],0,[],[]⟩ rfl hb2);have HTR:=zb HNR.out.1;replace HEZ:=zb (HEZ.out.below HNR.out.2.2);have HEN:Hid (w.heap.size<=w3.heap.size/\w3.heap.size≠(w.heap.size+1)):=HEN0;replace HX:=zb (HX.out.below HNR.out.2.2);replace HK:=zb HNR.out.2.1;obtain⟨x0,x1,x2,x3,x4,x5,x6,x7,xf⟩:=(Box8.cells HEZ.out);have y0:=xf 0;have y1:=xf 1;have y2:=xf 2;have y3:=xf 3;have y4:=xf 4;have y5:=xf 5;have y6:=xf 6;have y7:=xf 7;have hxl:=HEZ.out.lt;clear xf;replace HT:=zb (HT.out.below HNR.out.2.2);obtain⟨k0,k1,k2,k3,_⟩:=TokBox.cells (HT.out);have kl:=(HT.out).lt;clear hb2 HNR;unfold exV) | (go_at_call 123; refine(sL HHK9.out t (some _) 1 1 _).mono ?_;rintro e Wz ⟨rfl,hb2⟩;have HNR:=zb (zJ (N:=Nb ((w.heap.size+1)) Wy.heap.size) (L:=[exL a sy]) (args:=[a]) (HK.out.below (zj zeroObj)) ⟨HAa.out.fresh zeroObj,trivial⟩ ⟨(HX.out.below (zj zeroObj)).lt,by simp⟩ (by simp) ⟨k,t.2,[],0,[],[]⟩ rfl hb2);have HTR:=zb HNR.out.1;have HEZ:=zb ((ZeroBox.new Wy).below HNR.out.2.2);replace HNR:Hid (True/\Keep w p Ry Wz/\Below Wy.heap.size Wy Wz):=zb ⟨trivial,HNR.out.2.1,(zj zeroObj).trans (HNR.out.2.2.mono (by simp))⟩;simp only[World.size_alloc] at HTR;have HEN:Hid (w.heap.size<=Wy.heap.size/\Wy.heap.size≠(w.heap.size+1)):=zb ⟨HK.out.size,by have:=HX.out.lt;omega⟩;replace HX:=zb (HX.out.below HNR.out.2.2);replace HK:=zb HNR.out.2.1;obtain⟨x0,x1,x2,x3,x4,x5,x6,x7,xf⟩:=(Box8.cells HEZ.out);have y0:=xf 0;have y1:=xf 1;have y2:=xf 2;have y3:=xf 3;have y4:=xf 4;have y5:=xf 5;have y6:=xf 6;have y7:=xf 7;have hxl:=HEZ.out.lt;clear xf;have p0:¬w.heap.size=Wy.heap.size:=(by have:=HT.out.lt;have:=HNR.out.2.2.size;omega);have q0:¬Wy.heap.size=w.heap.size:=(by omega);replace HT:=zb (HT.out.below HNR.out.2.2);obtain⟨k0,k1,k2,k3,_⟩:=TokBox.cells (HT.out);have kl:=(HT.out).lt;clear hb2 HNR;unfold exV) | (go_at_call 123; refine(sL HHK9.out t (some _) 1 1 _).mono ?_;rintro e Wz ⟨rfl,hb2⟩;have HN0:=zG (L:=[exL a sy]) (args:=[a]) HK.out ⟨HAa.out,trivial⟩ HX.out.lt (by simp) ⟨k,t.2,[],0,[],[]⟩ rfl (Below.refl _ (Wy.alloc (.cells (List.flatten [exL a sy]).toArray 27 (0,0))));have HTR:=zb ((HN0.1.fresh zeroObj).below hb2);have HEZ:=zb ((ZeroBox.new (Wy.alloc (.cells (List.flatten [exL a sy]).toArray 27 (0,0)))).below hb2);have HNR:Hid (True/\Keep w p Ry Wz/\Below Wy.heap.size Wy Wz):=zb ⟨trivial,(HN0.2.1.below (zj zeroObj)).below hb2,(HN0.2.2.trans ((zj zeroObj).mono HN0.2.2.size)).trans (hb2.mono (by simp;omega))⟩;clear HN0;simp only[World.size_alloc] at HTR HEZ;have HEN:Hid (w.heap.size<=Wy.heap.size+1/\Wy.heap.size+1≠(w.heap.size+1)):=zb ⟨by have:=HK.out.size;omega,by have:=HX.out.lt;omega⟩;replace HX:=zb (HX.out.below HNR.out.2.2);replace HK:=zb HNR.out.2.1;obtain⟨x0,x1,x2,x3,x4,x5,x6,x7,xf⟩:=(Box8.cells HEZ.out);have y0:=xf 0;have y1:=xf 1;have y2:=xf 2;have y3:=xf 3;have y4:=xf 4;have y5:=xf 5;have y6:=xf 6;have y7:=xf 7;have hxl:=HEZ.out.lt;clear xf;have p0:¬w.heap.size=(Wy.heap.size+1):=(by have:=HT.out.lt;have:=HNR.out.2.2.size;omega);have q0:¬(Wy.heap.size+1)=w.heap.size:=(by omega);replace HT:=zb (HT.out.below HNR.out.2.2);obtain⟨k0,k1,k2,k3,_⟩:=TokBox.cells (HT.out);have kl:=(HT.out).lt;clear hb2 HNR;unfold exV))
  all_goals
   first
    | (have HE:=zb (yK (h:=⟨k,t.2,[],0,[],[]⟩) (args:=[a]) HTR.out HK.out HLT.out HX.out.lt _ rfl);have hb5:=zj (w:=Wz) (.cells #[.int .i64 k,.int .i64 (t.2:Nat),.string ⟨#[]⟩,.int .i64 (0),.string ⟨#[]⟩,.slice none 0 0,.slice (some ⟨Wy.heap.size,0,none⟩) 1 1,.slice none 0 0] 27 (0,0));replace HX:=zb (HX.out.below hb5);replace HT:=zb (HT.out.below hb5);clear hb5 HTR HK HZ0 HEe HEN0;generalize World.alloc Wz _=w5 at *)
    | (have HE9:=zb (ya (h:=⟨k,t.2,[],0,[],[]⟩) (args:=[a]) HEZ.out HTR.out HK.out HLT.out HEN.out.1 HEN.out.2 rfl);unfold set8 at HE9;have HE:=zb HE9.out.1;replace HX:Hid (ZeroBox _ ((w.heap.size+1))):=zb ((HE9.out.2 _ HEN.out.2.symm).trans HX.out);replace HT:Hid (TkBox _ (w.heap.size) t):=zb ((HE9.out.2 _ p0).trans HT.out);clear HE9 HTR HK HEZ HZ0 HEe HEN0 HEN;clear x0 x1 x2 x3 x4 x5 x6 x7 y0 y1 y2 y3 y4 y5 y6 y7 hxl;generalize World.setCell _ _ _=w5 at *)
   obtain⟨t1,S1,rfl⟩:=HE.out.keep.at_.row.cons;simp only[exec] at HR;have HAC:=zb (fun W b h hb=>zE p t1 S1 [sWith] _ _ rfl rfl (by decide) W b h hb)
   go_wp2_with fail
   refine(HAC.out _ _ HE.out.keep.at_ (by simp)).mono ?_;rintro e W1 (⟨hy,rfl,hp2,hg2⟩ | ⟨hy,rfl,hb2⟩)
   . rw[hy,if_pos rfl] at HR;have hk2:=Keep.mk hp2 hg2;replace HX:=zb (HX.out.keep hk2 HPB.out);replace HE:=zb (HE.out.more HPB.out hk2);clear hp2 hg2 hk2 HAC hy
     go_wp2_with fail
     cases hr:run f (.arms []) S1 with
     | out =>
      rw[hr] at HR;exact absurd HR.out HN.out
     | bad R9 =>
      rw[hr] at HR;refine(HHA.out S1 _ HE.out.keep.at_ (by rw[hr];exact fun h=>by cases h)).mono ?_;rw[hr];rintro e w8 ⟨t8,S8,rfl,rfl,hg⟩;have HG:=zb (zo HE.out.keep.grown hg);clear hg hr;unfold faultV
      go_wp2_with fail
      exact⟨rfl,by rw[HR.out];exact⟨t8,S8,rfl,rfl,HG.out⟩⟩
     | ok r R2 =>
      rw[hr] at HR;refine(HHA.out S1 _ HE.out.keep.at_ (by rw[hr];exact fun h=>by cases h)).mono ?_;rw[hr];rintro e W2 ⟨ga,ca,rfl,har,hk⟩;have HAR:Hid (ArRow W2 (Nb (w.heap.size+1) _) (.slice ga r.arms.length ca) r.arms):=zb (by
       obtain⟨M,h1,h2⟩:=har.ex;have hm:Move W2 (fun g=>W1.heap.size<=g) W2 (Nb (w.heap.size+1) _):=fun g hg _=>⟨⟨zd HX.out.lt hg,Nat.ne_of_gt (zd HE.out.box.lt hg)⟩,rfl⟩;exact⟨M,h1.move hm,IsAs.move hm h2⟩)
      replace HX:=zb (HX.out.keep hk HPB.out);replace HE:=zb (HE.out.more HPB.out hk);clear hr har hk;have HE3:=zb (HE.out.arms HAR.out);obtain⟨e0,e1,e2,e3,e4,e5,e6,e7,ef⟩:=Box8.cells HE.out.box;have g7:=ef 7;have el:=HE.out.box.lt;clear ef
      go_upto_region 4 with fail
      replace HX:=zb (HX.out.set HE.out.ne 7 (.slice ga r.arms.length ca));clear HE HAR e0 e1 e2 e3 e4 e5 e6 e7 g7 el;generalize World.setCell _ _ _=w6 at *;obtain⟨e0,e1,e2,e3,e4,e5,e6,e7,_⟩:=Box8.cells HE3.out.1;have el:=Box8.lt HE3.out.1;obtain⟨x0,x1,x2,x3,x4,x5,x6,x7,xf⟩:=(Box8.cells HX.out);have y0:=xf 0;have y1:=xf 1;have y2:=xf 2;have y3:=xf 3;have y4:=xf 4;have y5:=xf 5;have y6:=xf 6;have y7:=xf 7;have hxl:=HX.out.lt;clear xf;have HS:=zb (ret_arms HX.out HB0.out HE3.out.2.2 HLT.out HE3.out.2.1 rfl);unfold set8 at HS;simp only[List.length_cons,List.length_nil,Nat.zero_add] at HS
      go_wp2_with fail
      generalize World.setCell _ _ _=w9 at *;rw[HR.out];exact zu Tryz.results180 rfl rfl (HS.out _ (Below.refl _ _))
   . rw[hy,if_neg (by decide)] at HR;have HG:=zb (zr HE.out.keep.grown hb2);clear hb2 HAC;unfold faultV
     go_wp2_with fail
     exact⟨rfl,by rw[HR.out];exact⟨t1,S1,rfl,rfl,HG.out⟩⟩
end
section
open Go.RowKit
theorem sD {P:Program} {ops:Array Oper} {o:Oper} {a:Act} {w:World} {K:Act->World->Prop} {Q:Exit->Act->World->Prop} {E:Prop} (hgd:o.guard=none) (s x:Operand) (t:TypeId)
 (ho:o.op=.call { callee:=.builtin .append,args:=#[s,x],argTypes:=#[t,t] })
 (base:Nat) (e:TypeId) (i:TypeInfo) (z:Value) (size bytes:Nat) (ht:P.underlying t=some (.slice e)) (hi:P.info? e=some i) (hz:i.zero=some z)
 (hsize:i.size=size) (hby:i.bytes=bytes) (hzs:z.cells.size=size) (hsz:0<size)
 (v:Value) (n:Nat) (xs:List Value) (hs:a.eval s=v) (hown:w.ownsRow base e size v n xs)
 (ao:Option Addr) (m c:Nat) (news:List Value) (hx:a.eval x=.slice ao m c) (hl:news.length=m*size) (hnews:∃ ad,ao=some ad/\∀ j u,news[j]? = some u->w.cell? (ad.add j)=some u) (h1:∀ u∈news,u.oneCell'=true)
 (h63:n+m<=maxLen) (hbytes:(n+m)*bytes<=140737488355328) (hbase:base<=w.heap.size)
 (h:∀ v' w',w'.ownsRow base e size v' (n+m) (xs++news)->w.grownBy w' v.ownBlock->(v'=.slice none 0 0↔v=.slice none 0 0/\m=0)->(v'.ownBlock=v.ownBlock∨v'.ownBlock=some w.heap.size)->K (a.put o.dst v') w') :
 if Region.wanted o (yielded ops a.tmps)=true then Oper.wp P o a w K Q else E:=by
 have hw:Region.wanted o (yielded ops a.tmps)=true:=by simp [Region.wanted,hgd]
 rw[if_pos hw];obtain⟨ad,rfl,hnews⟩:=hnews;obtain⟨v',w',hr,h2,h3,h4,h5⟩:=run_append_own_at (P:=P) w base t o.type e i z size bytes ht hi hz hsize hby hzs hsz v n xs hown ad m c news hl hnews h1 h63 hbytes hbase;unfold Oper.wp execOp;simp only[ho,resolve,invoke,builtin,Sem.run_bind,Sem.run_pure,Result.andThen_ok,List.map_toArray,List.map_cons,List.map_nil,hs,hx,hr];exact h v' w' h2 h3 h4 h5
theorem infoArm:(Tryz.prog.info? 77).map (fun i=>(i.zero,i.size,i.bytes))=some (some (.agg #[.int .i64 0,.int .i64 0,.string ⟨#[]⟩,.int .i64 0,.string ⟨#[]⟩,.slice none 0 0,.slice none 0 0,.int .i64 0,.int .i64 0,.string ⟨#[]⟩,.int .i64 0,.string ⟨#[]⟩,.slice none 0 0,.slice none 0 0,.slice none 0 0]),15,232):=by kernel_rfl
theorem ar_info:∃ i:TypeInfo, Tryz.prog.info? 77 = some i/\i.zero=some (.agg #[.int .i64 0,.int .i64 0,.string ⟨#[]⟩,.int .i64 0,.string ⟨#[]⟩,.slice none 0 0,.slice none 0 0,.int .i64 0,.int .i64 0,.string ⟨#[]⟩,.int .i64 0,.string ⟨#[]⟩,.slice none 0 0,.slice none 0 0,.slice none 0 0])/\i.size=15/\i.bytes=232:=by
 have h:=infoArm;cases hi : Tryz.prog.info? 77 with
 | none=>rw[hi] at h;cases h
 | some i =>
  rw[hi] at h;have h:=zc h;exact⟨i,rfl,congrArg (fun x=>x.1) h,congrArg (fun x=>x.2.1) h,congrArg (fun x=>x.2.2) h⟩
abbrev arObj (x:Nd) (s:Sl) (b:Nd) (r:Sl):Obj:=.cells #[.int .i64 x.hd.kind,.int .i64 x.hd.pos,.string ⟨x.hd.name.toArray⟩,.int .i64 x.hd.n,.string ⟨x.hd.s.toArray⟩,.slice s.la x.hd.labels.length s.lc,.slice s.aa x.args.length s.ac,.int .i64 b.hd.kind,.int .i64 b.hd.pos,.string ⟨b.hd.name.toArray⟩,.int .i64 b.hd.n,.string ⟨b.hd.s.toArray⟩,.slice r.la b.hd.labels.length r.lc,.slice r.aa b.args.length r.ac,.slice r.ra b.arms.length r.rc] 77 (0,0)
theorem ar_cells (w:World) (x:Nd) (s:Sl) (b:Nd) (r:Sl):∀(j:Nat) (u:Value),(paL x s++exL b r)[j]? = some u->(w.alloc (arObj x s b r)).cell? ((⟨w.heap.size,0,none⟩:Addr).add j)=some u:=by
 intro j u hj;rw[Addr.add_lit,zf (zA w _ _ rfl)]
 simpa [exL,paL] using hj
theorem exec_call (rec:Md->List Tok->PR) (m:Md) (T:List Tok):exec rec (.call m .ret) T=rec m T:=by
 rw[exec];cases rec m T <;> rfl
theorem ar_one (x:Nd) (s:Sl) (b:Nd) (r:Sl):∀ u∈paL x s++exL b r,u.oneCell'=true:=by
 intro u hu;simp only[exL,paL,List.cons_append,List.nil_append,List.mem_cons,List.not_mem_nil,or_false] at hu;rcases hu with rfl | rfl | rfl | rfl | rfl | rfl | rfl | rfl | rfl | rfl | rfl | rfl | rfl | rfl | rfl <;> rfl
theorem w_arms (f p:Nat) (hpat:∀ k,k<=f->SaysP k .pat 225 #[ptrV p] p) (hs:∀ k,k<=f->Says k .seq 69 #[ptrV p] p):SaysA (f+1) (.arms []) 213 #[ptrV p] p:=by
 intro T w hp hne;have HLT:=zb hp.lt;have HK:=zb (Keep.start hp);have HTL:Hid (T.length<=5000):=zb (by obtain⟨g,off,cap,_,_,_,h,_⟩:=hp.ex;exact h);have HPP:=zb hpat;have HPS:=zb hs;have HN:=zb hne;have HR0:Hid (∃ k,k<=f+1/\run (f+1) (.arms []) T=run k (.arms []) T):=zb ⟨f+1,Nat.le_refl _,rfl⟩;generalize run (f+1) (.arms []) T=res at *;obtain⟨i0,hi0,hz0,hz1,hz2⟩:=ar_info;have HG0:Hid (GRow w.heap.size 77 15 w (.slice none 0 0) 0 [] (fun W N=>IsAs W N [] [])):=zb (GRow.start trivial);clear hp hne hpat hs
 go_enter Tryz.func213, Tryz.ntmps213
 go_wp2_with fail
 go_loopw [3] (fun vl wr=>∃(l:List (Nd×Nd)) (L:List (List Value)) (R:List Tok) (u:Value),u=vl/\Hid (l.length+R.length<=T.length)/\Hid (GRow w.heap.size 77 15 wr u l.length L.flatten (fun W N=>IsAs W N L l))/\Hid (Keep w p R wr)/\Hid (∃ k,k<=f+1/\res=run k (.arms l) R)) (fun _ wr=>lenAt wr p)
 case atStart=>exact⟨[],[],T,_,rfl,zb (by simp),HG0,HK,HR0⟩
 case round =>
  obtain⟨l,L,R,u,rfl,HLL,HG,HK,HRK⟩:=hrel;clear HG0 HR0;have HM:=zb HK.out.at_.len;obtain⟨k,hk,HRk⟩:=HRK.out;obtain⟨k,rfl⟩:∃ j,k=j+1:=by
   cases k with
   | zero=>exact absurd HRk HN.out
   | succ k=>exact⟨k,rfl⟩
  have HR:Hid (res=exec (run k) (step (.arms l)) R):=zb HRk;simp only[step,need,exec] at HR;have HPk:=zb (HPP.out k (by omega));have HSk:=zb (HPS.out k (by omega));clear HRk HRK;obtain⟨a0,c0,rfl⟩:=HG.out.form
  go_wp2_with fail
  cases hr:run k .pat R with
  | out =>
   rw[hr] at HR;exact absurd HR.out HN.out
  | bad R9 =>
   rw[hr] at HR;refine(HPk.out R _ HK.out.at_ (by rw[hr];exact fun h=>by cases h)).mono ?_;rw[hr];rintro e w8 ⟨t8,S8,rfl,rfl,hg⟩;have HGR:=zb (zo HK.out.grown hg);clear hg hr;unfold faultV
   go_wp2_with fail
   exact⟨rfl,by rw[HR.out];exact⟨t8,S8,rfl,rfl,HGR.out⟩⟩
  | ok x R1 =>
   have HM1:Hid (R1.length<R.length):=zb (by
    have h9:=xd k .pat R;rw[hr] at h9;obtain⟨P,h1,_,h3⟩:=h9;have h4:=congrArg List.length h1;have h5:=List.length_pos_iff.2 (h3 rfl);rw[List.length_append] at h4;omega)
   rw[hr] at HR;refine(HPk.out R _ HK.out.at_ (by rw[hr];exact fun h=>by cases h)).mono ?_;rw[hr];rintro e W1 ⟨s,rfl,ha,hk2⟩;have HA:Hid (IsP W1 (fun g=>w.heap.size<=g/\some g≠(Value.slice a0 l.length c0).ownBlock) (paL x s) x):=zb (ha.wide fun g hg=>⟨Nat.le_trans HK.out.size hg,HG.out.new hg⟩);replace HG:=zb (HG.out.keep (xe L l) hk2 HLT.out);replace HK:=zb (HK.out.trans hk2);have hbx:=zj (w:=W1) (paObj x s);have HB:=zb (PaBox.new W1 x s);have HBN:Hid (w.heap.size<=W1.heap.size/\p<W1.heap.size/\some W1.heap.size≠(Value.slice a0 l.length c0).ownBlock):=zb ⟨HK.out.size,by have:=HK.out.size;have:=HLT.out;omega,HG.out.new (Nat.le_refl _)⟩;replace HG:=zb (HG.out.below (xe L l) hbx);replace HK:=zb (HK.out.below hbx);replace HA:=zb (HA.out.below hbx);clear ha hr hk2 hbx;obtain⟨t1,S1,rfl⟩:=HK.out.at_.row.cons;simp only[exec] at HR;have HAC:=zb (fun W b h hb=>zE p t1 S1 [sArrow] _ _ rfl rfl (by decide) W b h hb);unfold paOf
   go_wp2_with fail
   refine(HAC.out _ _ HK.out.at_ (by simp)).mono ?_;rintro e W2 (⟨hy,rfl,hp2,hg2⟩ | ⟨hy,rfl,hb2⟩)
   . rw[hy,if_pos rfl] at HR;have hk2:=Keep.mk hp2 hg2;replace HG:=zb (HG.out.keep (xe L l) hk2 HLT.out);replace HA:=zb (HA.out.keep hk2 (fun g hg=>by have:=HLT.out;have:=hg.1;omega));replace HB:=zb (HB.out.keep hk2 HBN.out.2.1);replace HK:=zb (HK.out.trans hk2);clear hp2 hg2 hk2 HAC hy
     go_upto_region 4 with fail
     generalize W1.heap.size=bp at *;have HKd:=zb (HK.out.below (zm _));obtain⟨k0,k1,k2,k3,k4,k5,k6,_⟩:=Box7.cells HB.out;have kl:=HB.out.lt;cases hr:run k .seq S1 with
     | out =>
      rw[hr] at HR;exact absurd HR.out HN.out
     | bad R9 =>
      rw[hr] at HR;have HSC:Hid (∀ W,PAt W p S1->Calls Tryz.prog 69 #[ptrV p] W (Told (.bad R9) W p)):=zb (fun W h=>by
       have:=HSk.out S1 W h (by rw[hr];exact fun h=>by cases h)
       rwa [hr] at this)
      clear hr
      go_region_dies
      all_goals
       refine(HSC.out _ HKd.out.at_).mono ?_;rintro e w8 ⟨t8,S8,rfl,rfl,hg⟩;have HGR:=zb (zo HKd.out.grown hg);exact⟨rfl,by rw[HR.out];exact⟨t8,S8,rfl,rfl,HGR.out⟩⟩
     | ok b R2 =>
      have HM2:Hid (R2.length<=S1.length):=zb (by
       have h9:=xd k .seq S1;rw[hr] at h9;obtain⟨P,h1,_,h3⟩:=h9;have h4:=congrArg List.length h1;rw[List.length_append] at h4;omega)
      rw[hr] at HR;have HSC:Hid (∀ W,PAt W p S1->Calls Tryz.prog 69 #[ptrV p] W (Told (.ok b R2) W p)):=zb (fun W h=>by
       have:=HSk.out S1 W h (by rw[hr];exact fun h=>by cases h)
       rwa [hr] at this)
      clear hr;refine yg 7 (fun W=>W.cell? ⟨bp,0,none⟩=some (.int .i64 x.hd.kind)/\W.cell? ⟨bp,1,none⟩=some (.int .i64 x.hd.pos)/\W.cell? ⟨bp,2,none⟩=some (.string ⟨x.hd.name.toArray⟩)/\W.cell? ⟨bp,3,none⟩=some (.int .i64 x.hd.n)/\W.cell? ⟨bp,4,none⟩=some (.string ⟨x.hd.s.toArray⟩)/\W.cell? ⟨bp,5,none⟩=some (.slice s.la x.hd.labels.length s.lc)/\W.cell? ⟨bp,6,none⟩=some (.slice s.aa x.args.length s.ac)) (by kernel_rfl) (by kernel_rfl) (by go_keep) (fun hL inv hHeld=>?_);refine zl 0 hL rfl inv (fun inv=>?_)
      (try simp only[Act.put,zg,zh,zi])
      refine zl 1 hL rfl inv (fun inv=>?_)
      (try simp only[Act.put,zg,zh,zi])
      refine zl 2 hL rfl inv (fun inv=>?_)
      (try simp only[Act.put,zg,zh,zi])
      refine yb (i:=3) (by kernel_rfl) (by kernel_rfl) rfl inv (fun K hK=>?_)
      go_simp
      go_at_call 69
      refine(HSC.out _ HKd.out.at_).mono ?_;rintro e Wy ⟨sy,rfl,ha,hk⟩;have HAb:Hid (IsE Wy (fun g=>w.heap.size<=g/\some g≠(Value.slice a0 l.length c0).ownBlock) (exL b sy) b):=zb (ha.wide fun g hg=>⟨Nat.le_trans HKd.out.size hg,(HG.out.below (xe L l) (zm _)).new hg⟩);replace HA:=zb ((HA.out.below (zm _)).keep hk (fun g hg=>by have:=HLT.out;have:=hg.1;omega));replace HG:=zb ((HG.out.below (xe L l) (zm _)).keep (xe L l) hk HLT.out);replace HB:=zb ((HB.out.below (zm _)).keep hk HBN.out.2.1);replace HK:=zb (HKd.out.trans hk);clear HKd k0 k1 k2 k3 k4 k5 k6 kl ha hk;obtain⟨k0,k1,k2,k3,k4,k5,k6,_⟩:=Box7.cells HB.out;have kl:=HB.out.lt;unfold exOf exV;refine hK.out _ _ ⟨k0,k1,k2,k3,k4,k5,k6⟩ (fun hHeld inv=>?_);clear hK K
      (try simp only[Act.put,zg,zh,zi])
      refine zl 4 hL rfl inv (fun inv=>?_)
      (try simp only[Act.put,zg,zh,zi])
      refine yb (i:=5) (by kernel_rfl) (by kernel_rfl) rfl inv (fun K hK=>?_)
      go_simp
      have hsrc:=ar_cells Wy x s b sy;have hbw:Below Wy.heap.size Wy (Wy.alloc (arObj x s b sy)):=zj _;unfold arObj at hsrc hbw;generalize hw3:Wy.alloc _=w4 at *;replace HG:=zb (HG.out.below (xe L l) hbw);replace HK:=zb (HK.out.below hbw);replace HA:=zb (HA.out.below hbw);replace HAb:=zb (HAb.out.below hbw);replace HB:=zb (HB.out.below hbw);have hsz:w4.heap.size=Wy.heap.size+1:=by rw[← hw3,World.size_alloc]
      clear hw3 hbw k0 k1 k2 k3 k4 k5 k6 kl hHeld;obtain⟨k0,k1,k2,k3,k4,k5,k6,_⟩:=Box7.cells HB.out;have kl:=HB.out.lt;refine hK.out _ _ ⟨k0,k1,k2,k3,k4,k5,k6⟩ (fun hHeld inv=>?_);clear hK K
      (try simp only[Act.put,zg,zh,zi])
      refine yb (i:=6) (by kernel_rfl) (by kernel_rfl) rfl inv (fun K hK=>?_);refine sD rfl (.tmp 10) (.tmp 15) 25 rfl w.heap.size 77 i0 _ 15 232 Tryz.underlying25 hi0 hz0 hz1 hz2 rfl (by decide) _ _ _ rfl HG.out.own (some ⟨Wy.heap.size,0,none⟩) 1 1 (paL x s++exL b sy) rfl rfl ⟨_,rfl,hsrc⟩ (ar_one x s b sy) ?_ ?_ (by have:=HK.out.size;omega) ?_
      . have:=HLL.out;have:=HTL.out;unfold maxLen;omega
      . have:=HLL.out;have:=HTL.out;omega
      intro v1 w5 hown1 hgr1 hnn1 hat1;have HG2:Hid (GRow w.heap.size 77 15 w5 v1 (l.length+1) (L++[paL x s++exL b sy]).flatten (fun W N=>IsAs W N (L++[paL x s++exL b sy]) (l++[(x,b)]))):=zb (by
       have h:=HG.out.push (Is':=fun W N=>IsAs W N (L++[paL x s++exL b sy]) (l++[(x,b)])) hown1 hgr1 hat1 (fun h=>IsAs.append h ⟨⟨paL x s,exL b sy,rfl,HA.out,HAb.out⟩,trivial⟩) (xe _ _)
       rwa [List.flatten_append,List.flatten_singleton])
      have HK2:=zb (HG.out.keeps HK.out (Nat.le_refl _) HLT.out hgr1).1;have HB2:Hid (PaBox w5 bp x s):=zb ((hgr1.block bp kl HBN.out.2.2).trans HB.out);obtain⟨a1,c1,rfl⟩:=HG2.out.form;clear hown1 hgr1 hnn1 hat1 hsrc HG HK HA HAb HB k0 k1 k2 k3 k4 k5 k6 kl hHeld hsz;obtain⟨k0,k1,k2,k3,k4,k5,k6,_⟩:=Box7.cells HB2.out;refine hK.out _ _ ⟨k0,k1,k2,k3,k4,k5,k6⟩ (fun hHeld inv=>?_);clear hK K
      (try simp only[Act.put,zg,zh,zi])
      refine yw (by kernel_rfl) rfl (by kernel_rfl) (fun K hK=>?_)
      go_simp
      refine hK.out _ _ ?_;clear hK K inv hHeld hL k0 k1 k2 k3 k4 k5 k6 HB2;obtain⟨t2,S2,rfl⟩:=HK2.out.at_.row.cons;simp only[exec] at HR;have HAC:=zb (fun W b h hb=>zE p t2 S2 [sBar,sEnd] _ _ rfl rfl (by decide) W b h hb);have htf:=ud t2.1.kind (t2.2:Nat) t2.1.n ⟨t2.1.text.toArray⟩
      go_wp2_with fail
      refine(HAC.out _ _ HK2.out.at_ (by simp)).mono ?_;rintro e W3 (⟨hy,rfl,hp2,hg2⟩ | ⟨hy,rfl,hb2⟩)
      . rw[hy,if_pos rfl] at HR;have hk2:=Keep.mk hp2 hg2;replace HG2:=zb (HG2.out.keep (xe _ _) hk2 HLT.out);replace HK2:=zb (HK2.out.trans hk2);clear hp2 hg2 hk2 HAC hy;unfold tokVal tokAgg;by_cases hx:t2.1.text=sEnd
        . rw[if_pos hx] at HR;have BE:(t2.1.text == [101,110,100])=true:=by rw[hx];rfl
          clear hx
          go_wp2_with fail
          go_ret;rw[HR.out];refine⟨a1,c1,by rw[show(bag [] [] (l++[(x,b)])).arms=l++[(x,b)] from rfl,List.length_append];rfl,⟨L++[paL x s++exL b sy],?_,?_⟩,HK2.out⟩
          . rw[show(bag [] [] (l++[(x,b)])).arms=l++[(x,b)] from rfl,List.length_append];exact HG2.out.rowIn
          . exact HG2.out.all (xe _ _)
        . rw[if_neg hx] at HR;have BE:(t2.1.text == [101,110,100])=false:=beq_eq_false_iff_ne.2 hx;clear hx;have HM3:=zb HK2.out.at_.len
          go_wp2_with fail
          go_roundw
          case rel=>exact⟨l++[(x,b)],L++[paL x s++exL b sy],S2,_,rfl,zb (by have:=HLL.out;have:=HM1.out;have:=HM2.out;simp only[List.length_append,List.length_cons,List.length_nil] at *;omega),by rw[List.length_append];exact HG2,HK2,zb ⟨k,by omega,by rw[HR.out];exact exec_call _ _ _⟩⟩
          case measure=>rw[HM3.out,HM.out];have:=HM1.out;have:=HM2.out;simp only[List.length_cons] at *;omega
      . rw[hy,if_neg (by decide)] at HR;have HGR:=zb (zr HK2.out.grown hb2);clear hb2 HAC;unfold faultV
        go_wp2_with fail
        exact⟨rfl,by rw[HR.out];exact⟨t2,S2,rfl,rfl,HGR.out⟩⟩
   . rw[hy,if_neg (by decide)] at HR;have HGR:=zb (zr HK.out.grown hb2);clear hb2 HAC;unfold faultV
     go_wp2_with fail
     exact⟨rfl,by rw[HR.out];exact⟨t1,S1,rfl,rfl,HGR.out⟩⟩
end
