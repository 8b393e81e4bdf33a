/-
  The walks of negative and patLeaf.
-/
import Derived.Test.YtigbapkdpaahjaaGreatDoorPAtom
import Derived.IntWalk
namespace Go.Proofs.YtigbapkdpaahjaaGreatDoor
set_option linter.unusedSimpArgs false
set_option linter.unusedVariables false
set_option maxRecDepth 100000
set_option maxHeartbeats 4000000
open Go.RowKit
theorem load_pa {w:World} {b:Nat} {x:Nd} {s:Sl} (h:PaBox w b x s):(loadVar 39 ⟨b,0,none⟩).run Tryz.prog w=.ok (paOf x s) w:=by
 obtain⟨c0,c1,c2,c3,c4,c5,c6,_⟩:=Box7.cells h
 simp [go_sem,c0,c1,c2,c3,c4,c5,c6,paOf]
theorem xz {fn:Func} {q:Tmp} (hr:fn.results=#[.cell q 39]) {a:Act} {b:Nat} {w:World} {x:Nd} {s:Sl} {Q:Ending→World→Prop} (ha:a.tmps.getD q undef=.pointer (some ⟨b,0,none⟩)) (hd:a.defers=[]) (h:PaBox w b x s∧Q (.returned (paOf x s)) w):bodyPost Tryz.prog fn Q .ret a w:=by
 refine bodyPost_ret (v:=paOf x s) ?_ hd h.2
 rw[uR hr,ha]
 simp [asAddr,Result.andThen,load_pa h.1]
theorem xB {w w2 w9:World} {p b0:Nat} {R:List Tok} {x:Nd} {s:Sl} {c0 c1 c2 c3 c4 c5 c6:Value} (hx:Box7 w2 b0 39 c0 c1 c2 c3 c4 c5 c6) (hb0:w.heap.size≤b0) (hk:Keep w p R w2) (hp:p<w.heap.size) (hi:IsP w2 (fun g=>b0<g) (paL x s) x)
 (he:set7 w2 b0 (.int .i64 x.hd.kind) (.int .i64 x.hd.pos) (.string ⟨x.hd.name.toArray⟩) (.int .i64 x.hd.n) (.string ⟨x.hd.s.toArray⟩) (.slice s.la x.hd.labels.length s.lc) (.slice s.aa x.args.length s.ac)=w9) :
 ∀ w10,Below w9.heap.size w9 w10→PaBox w10 b0 x s∧ToldP (.ok x R) w p (.returned (paOf x s)) w10:=by
 obtain⟨h1,h2,h3⟩:=hx.put hk hb0 (by omega) he
 intro w10 hb
 refine⟨h1.below hb,s,rfl,?_,h2.below hb⟩
 exact(hi.other (w':=w9) (N':=fun g=>w.heap.size≤g) fun g hg=>⟨by omega,h3 g (by omega)⟩).move fun g hg hl=>⟨hg,hb.block g hl⟩
theorem bare_isP (W:World) (N:Nat→Prop) (h:Hd) (hl:h.labels=[]):IsP W N (paL (.mk h [] []) ⟨none,0,none,0,none,0⟩) (.mk h [] []):=by
 obtain⟨k,q,x,n,s,ls⟩:=h
 obtain rfl:ls=[]:=hl
 exact⟨rfl,_,_,rfl,zx _ _ _ _,[],zx _ _ _ _,trivial⟩
theorem wE {w w2 w9:World} {p b0:Nat} {R:List Tok} {h:Hd} {c0 c1 c2 c3 c4 c5 c6:Value} (hl:h.labels=[]) (hk:Keep w p R w2) (hx:Box7 w2 b0 39 c0 c1 c2 c3 c4 c5 c6) (hb0:w.heap.size≤b0) (hp:p<w.heap.size)
 (he:set7 w2 b0 (.int .i64 h.kind) (.int .i64 h.pos) (.string ⟨h.name.toArray⟩) (.int .i64 h.n) (.string ⟨h.s.toArray⟩) (.slice none 0 0) (.slice none 0 0)=w9) :
 ∀ w10,Below w9.heap.size w9 w10→PaBox w10 b0 (.mk h [] []) ⟨none,0,none,0,none,0⟩∧ToldP (.ok (.mk h [] []) R) w p (.returned (paOf (.mk h [] []) ⟨none,0,none,0,none,0⟩)) w10:=by
 obtain⟨k,q,x,n,s,ls⟩:=h
 obtain rfl:ls=[]:=hl
 exact xB (x:=.mk ⟨k,q,x,n,s,[]⟩ [] []) (s:=⟨none,0,none,0,none,0⟩) hx hb0 hk hp (bare_isP _ _ _ rfl) he
theorem zb6 {w:World} {N:Nat→Prop}:∀{L:List (List Value)} {r:List Nd},IsPs w N L r→L.flatten.length=r.length*7
 | [],[],_=>rfl
 | cs::L,x::r,h=>by
  rw[List.flatten_cons,List.length_append,h.1.len,zb6 h.2,List.length_cons];omega
 | [],_::_,h=>h.elim
 | _::_,[],h=>h.elim
theorem zeg {t:Tok} {h:Hd} (he:leafE t=.mk h [] []):leafP t=if leafK t=2∧h.name=[95] then .mk ⟨1,t.2,[],0,[],[]⟩ [] [] else .mk ⟨leafK t,t.2,h.name,h.n,h.s,[]⟩ [] []:=by
 unfold leafE at he
 unfold leafP leafK
 split at he
 · rename_i h1
   obtain⟨rfl,_,_⟩:=Nd.mk.inj he
   rw[if_pos h1,if_pos h1]
   by_cases hx:t.1.text=[95]
   · rw[if_pos hx,if_pos ⟨rfl,hx⟩]
   · rw[if_neg hx,if_neg (fun h=>hx h.2)]
 · rename_i h1
   rw[if_neg h1,if_neg h1]
   split at he
   · rename_i h2
     obtain⟨rfl,_,_⟩:=Nd.mk.inj he
     rw[if_pos h2,if_pos h2,if_neg (fun h=>by have:=h.1;omega)]
   · rename_i h2
     rw[if_neg h2,if_neg h2]
     split at he
     · rename_i h3
       obtain⟨rfl,_,_⟩:=Nd.mk.inj he
       rw[if_pos h3,if_pos h3,if_neg (fun h=>by have:=h.1;omega)]
     · rename_i h3
       rw[if_neg h3,if_neg h3]
       split at he
       · rename_i h4
         obtain⟨rfl,_,_⟩:=Nd.mk.inj he
         rw[if_pos h4,if_pos h4,if_neg (fun h=>by have:=h.1;omega)]
       · rename_i h4
         obtain⟨rfl,_,_⟩:=Nd.mk.inj he
         rw[if_neg h4,if_neg h4]
         exact(if_neg (fun hh=>absurd hh.1 (by decide))).symm
theorem wrap_neg {n:Int} (h0:0≤n) (h1:n≤4611686018427387903):IntKind.i64.wrap (-n)=-n:=IntWalk.i64_in _ (by omega)
theorem zdA (rec:Md→List Tok→PR) (p q:Nat):∀(T:List Tok) (w:World),PAt w p T→Calls Tryz.prog 195 #[ptrV p,.int .i64 (q:Nat)] w (ToldP (exec rec (.acc (isKind 4) (fun u=>.ret (.mk ⟨3,q,[],-u.1.n,[],[]⟩ [] [])) .fail) T) w p):=by
 intro T w hp
 have HLT:=zb hp.lt
 have HK:=zb (Keep.start hp)
 have hbx:=zj (w:=w) zeroPat
 have HX:Hid (ZeroPa (w.alloc zeroPat) w.heap.size):=zb (ZeroPa.new w)
 replace HK:=zb (HK.out.below hbx)
 clear hbx
 have HPB:Hid (p<w.heap.size):=HLT
 have HB0:Hid (w.heap.size≤w.heap.size):=zb (by omega)
 obtain⟨t0,S0,hT0⟩:=hp.row.cons
 subst hT0
 have HR:Hid (exec rec (.acc (isKind 4) (fun u=>.ret (.mk ⟨3,q,[],-u.1.n,[],[]⟩ [] [])) .fail) (t0::S0)=if isKind 4 t0=true then .ok (.mk ⟨3,q,[],-t0.1.n,[],[]⟩ [] []) S0 else .bad (t0::S0)):=zb (by simp only[exec])
 generalize exec rec _ (t0::S0)=res at *
 have HO:=zb (hp.ok t0 (by simp))
 clear hp
 go_enter Tryz.func195, Tryz.ntmps195
 obtain⟨g,off,cap,q0,_,l1,l2,l3,j0,j1,j2,j3⟩:=HK.out.at_.view
 have jb:(0:Int)<((S0.length:Int)+1):=by omega
 have jg:g<w.heap.size:=by have:=HLT.out;omega
 by_cases hk:t0.1.kind=4
 · rw[if_pos (show isKind 4 t0=true from decide_eq_true hk)] at HR
   have B3:(t0.1.kind == 4)=true:=by rw[beq_iff_eq];exact hk
   have B4:(t0.1.kind != 4)=false:=by rw[bne_eq_false_iff_eq];exact hk
   have hk0:t0.1.kind≠0:=by omega
   obtain⟨u0,S1,rfl⟩:=xx HK.out.at_.row hk0
   have HRD:=zb (fun W h=>vB p t0 u0 S1 W h hk0)
   clear hk hk0
   go_wp2_with fail
   refine(HRD.out _ HK.out.at_).mono ?_
   rintro e V1 ⟨rfl,hp2,hg2⟩
   have hk2:=Keep.mk hp2 hg2
   replace HX:=zb (HX.out.keep hk2 HPB.out)
   replace HK:=zb (HK.out.trans hk2)
   clear hp2 hg2 hk2 HRD q0 l1 l2 l3 j0 j1 j2 j3 jb jg B3 B4
   have htf:=zdI t0.1.kind (t0.2:Nat) t0.1.n ⟨t0.1.text.toArray⟩
   have hwn:=wrap_neg HO.out.low HO.out.high
   clear HO
   unfold tokVal tokAgg
   obtain⟨x0,x1,x2,x3,x4,x5,x6,xf⟩:=(Box7.cells HX.out)
   have y0:=xf 0
   have y1:=xf 1
   have y2:=xf 2
   have y3:=xf 3
   have y4:=xf 4
   have y5:=xf 5
   have y6:=xf 6
   have hxl:=HX.out.lt
   clear xf
   have HS:=zb (wE (h:=⟨3,q,[],-t0.1.n,[],[]⟩) rfl HK.out HX.out HB0.out HLT.out rfl)
   unfold set7 at HS
   go_wp2_with fail
   generalize World.setCell _ _ _=w9 at *
   rw[HR.out]
   exact xz Tryz.results195 rfl rfl (HS.out _ (Below.refl _ _))
 · rw[if_neg (show ¬isKind 4 t0=true from fun h=>hk (of_decide_eq_true h))] at HR
   have B3:(t0.1.kind == 4)=false:=beq_eq_false_iff_ne.2 hk
   have B4:(t0.1.kind != 4)=true:=by rw[bne_iff_ne];exact hk
   clear hk
   go_wp2_with fail
   refine(th p t0 S0 _ HK.out.at_).mono ?_
   rintro e V1 h9
   obtain⟨rfl,hb2⟩:=h9
   have HG:=zb (zr HK.out.grown hb2)
   clear hb2
   unfold faultV
   go_wp2_with fail
   exact⟨rfl,by rw[HR.out];exact⟨t0,S0,rfl,rfl,HG.out⟩⟩
theorem w_patLeaf (p:Nat) (t:Tok) (S:List Tok) (hl:isLeaf t=true):∀(w:World),PAt w p (t::S)→Calls Tryz.prog 194 #[ptrV p,leafV t] w (ToldP (.ok (leafP t) S) w p):=by
 intro w hp
 have HLT:=zb hp.lt
 have HK:=zb (Keep.start hp)
 have hk0:=wD t hl
 obtain⟨u0,S1,rfl⟩:=xx hp.row hk0
 have HRD:=zb (fun W h=>vB p t u0 S1 W h hk0)
 obtain⟨h,hE,hlab,hpos,hV⟩:=tE (t:=t)
 have HR:Hid (PR.ok (leafP t) (u0::S1)=_):=zb (congrArg (PR.ok · (u0::S1)) (zeg hE))
 rw[hV]
 generalize PR.ok (leafP t) (u0::S1)=res at *
 generalize leafK t=lk at *
 clear hE hlab hpos hV hk0 hl
 have hbx:=zj (w:=w) (.cells #[.int .i64 h.kind,.int .i64 lk,.string ⟨h.name.toArray⟩,.int .i64 h.n,.string ⟨h.s.toArray⟩] 175 (0,0))
 have HL:Hid (Box5 (w.alloc (.cells #[.int .i64 h.kind,.int .i64 lk,.string ⟨h.name.toArray⟩,.int .i64 h.n,.string ⟨h.s.toArray⟩] 175 (0,0))) w.heap.size 175 (.int .i64 h.kind) (.int .i64 lk) (.string ⟨h.name.toArray⟩) (.int .i64 h.n) (.string ⟨h.s.toArray⟩)):=zb (zA _ _ _ rfl)
 replace HK:=zb (HK.out.below hbx)
 clear hbx
 have hbx:=zj (w:=w.alloc (.cells #[.int .i64 h.kind,.int .i64 lk,.string ⟨h.name.toArray⟩,.int .i64 h.n,.string ⟨h.s.toArray⟩] 175 (0,0))) zeroPat
 have HX:Hid (ZeroPa ((w.alloc (.cells #[.int .i64 h.kind,.int .i64 lk,.string ⟨h.name.toArray⟩,.int .i64 h.n,.string ⟨h.s.toArray⟩] 175 (0,0))).alloc zeroPat) (w.heap.size+1)):=zb (by have h9:=ZeroPa.new (w.alloc (.cells #[.int .i64 h.kind,.int .i64 lk,.string ⟨h.name.toArray⟩,.int .i64 h.n,.string ⟨h.s.toArray⟩] 175 (0,0)));rwa [World.size_alloc] at h9)
 replace HK:=zb (HK.out.below hbx)
 replace HL:=zb (Box5.below HL.out hbx)
 clear hbx
 have HPB:Hid (p<w.heap.size+1):=zb (by have:=HLT.out;omega)
 have HB0:Hid (w.heap.size≤w.heap.size+1):=zb (by omega)
 clear hp
 go_enter Tryz.func194, Tryz.ntmps194
 go_wp2_with fail
 refine(HRD.out _ HK.out.at_).mono ?_
 rintro e V1 ⟨rfl,hp2,hg2⟩
 have hk2:=Keep.mk hp2 hg2
 replace HX:=zb (HX.out.keep hk2 HPB.out)
 replace HL:=zb (Box5.keep HL.out hk2 HLT.out)
 replace HK:=zb (HK.out.trans hk2)
 clear hp2 hg2 hk2 HRD
 have htf:=qF t.1.kind (t.2:Nat) t.1.n ⟨t.1.text.toArray⟩
 obtain⟨k0,k1,k2,k3,k4,_⟩:=Box5.cells HL.out
 have kl:=Box5.lt HL.out
 unfold tokVal tokAgg
 obtain⟨x0,x1,x2,x3,x4,x5,x6,xf⟩:=(Box7.cells HX.out)
 have y0:=xf 0
 have y1:=xf 1
 have y2:=xf 2
 have y3:=xf 3
 have y4:=xf 4
 have y5:=xf 5
 have y6:=xf 6
 have hxl:=HX.out.lt
 clear xf
 by_cases h1:lk=2
 · subst h1
   by_cases h2:h.name=[95]
   · rw[if_pos ⟨rfl,h2⟩] at HR
     have B2:(h.name == [95])=true:=by rw[beq_iff_eq];exact h2
     clear h2
     have HS:=zb (wE (h:=⟨1,t.2,[],0,[],[]⟩) rfl HK.out HX.out HB0.out HLT.out rfl)
     unfold set7 at HS
     go_wp2_with fail
     generalize World.setCell _ _ _=w9 at *
     rw[HR.out]
     exact xz Tryz.results194 rfl rfl (HS.out _ (Below.refl _ _))
   · rw[if_neg (fun h=>h2 h.2)] at HR
     have B2:(h.name == [95])=false:=beq_eq_false_iff_ne.2 h2
     clear h2
     have HS:=zb (wE (h:=⟨2,t.2,h.name,h.n,h.s,[]⟩) rfl HK.out HX.out HB0.out HLT.out rfl)
     unfold set7 at HS
     go_wp2_with fail
     generalize World.setCell _ _ _=w9 at *
     rw[HR.out]
     exact xz Tryz.results194 rfl rfl (HS.out _ (Below.refl _ _))
 · rw[if_neg (fun h=>h1 h.1)] at HR
   have B1:(lk == 2)=false:=beq_eq_false_iff_ne.2 h1
   clear h1
   have HS:=zb (wE (h:=⟨lk,t.2,h.name,h.n,h.s,[]⟩) rfl HK.out HX.out HB0.out HLT.out rfl)
   unfold set7 at HS
   go_wp2_with fail
   generalize World.setCell _ _ _=w9 at *
   rw[HR.out]
   exact xz Tryz.results194 rfl rfl (HS.out _ (Below.refl _ _))
