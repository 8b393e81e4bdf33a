/-
  The walks of pat and patom.
-/
import Derived.Test.YtigbapkdpaahjaaGreatDoorPPatA
namespace Go.Proofs.YtigbapkdpaahjaaGreatDoor
set_option linter.unusedSimpArgs false
set_option linter.unusedVariables false
set_option maxRecDepth 100000
set_option maxHeartbeats 4000000
open Go.RowKit
theorem node_rowP {w W1 W2:World} {p b0:Nat} {R:List Tok} {args:List Nd} {L:List (List Value)} (hk:Keep w p R W1) (ha:IsPs W1 (fun g=>b0<g) L args) (hz:b0<W1.heap.size) (hl:args.length≤1000) (h:Hd) (hlab:h.labels=[])
 (hb:Below (W1.alloc (.cells L.flatten.toArray 39 (0,0))).heap.size (W1.alloc (.cells L.flatten.toArray 39 (0,0))) W2) :
 IsP W2 (fun g=>b0<g) (paL (.mk h args []) ⟨none,0,some ⟨W1.heap.size,0,none⟩,args.length,none,0⟩) (.mk h args [])∧Keep w p R W2∧Below W1.heap.size W1 W2:=by
 obtain⟨k,q,x,n,s,ls⟩:=h
 obtain rfl:ls=[]:=hlab
 have hb1:Below W1.heap.size W1 W2:=(zj _).trans (hb.mono (by simp))
 exact⟨⟨rfl,_,_,rfl,zx _ _ _ _,L,tH hl (zb6 ha) hz hb,IsPs.move (fun g hg hl=>⟨hg,hb1.block g hl⟩) ha⟩,hk.below hb1,hb1⟩
theorem ret_nodeP {w w2 w9:World} {p b0:Nat} {R:List Tok} {k n:Int} {q:Nat} {x:List UInt8} {args:List Nd} {g:Option Addr} {c:Nat} {c0 c1 c2 c3 c4 c5 c6:Value} (hx:Box7 w2 b0 39 c0 c1 c2 c3 c4 c5 c6) (hb0:w.heap.size≤b0) (hp:p<w.heap.size)
 (hi:IsP w2 (fun g=>b0<g) (paL (.mk ⟨k,q,x,n,[],[]⟩ args []) ⟨none,0,g,c,none,0⟩) (.mk ⟨k,q,x,n,[],[]⟩ args [])∧Keep w p R w2) (m:Nat) (hm:args.length=m) (X:ByteArray) (hX:(⟨x.toArray⟩:ByteArray)=X)
 (he:set7 w2 b0 (.int .i64 k) (.int .i64 (q:Nat)) (.string X) (.int .i64 n) (.string ⟨#[]⟩) (.slice none 0 0) (.slice g m c)=w9) :
 ∀ w10,Below w9.heap.size w9 w10→PaBox w10 b0 (.mk ⟨k,q,x,n,[],[]⟩ args []) ⟨none,0,g,c,none,0⟩∧ToldP (.ok (.mk ⟨k,q,x,n,[],[]⟩ args []) R) w p (.returned (paOf (.mk ⟨k,q,x,n,[],[]⟩ args []) ⟨none,0,g,c,none,0⟩)) w10:=by
 subst hm hX
 exact xB hx hb0 hi.2 hp hi.1 he
theorem ret_bagP {w w2 w9:World} {p b0:Nat} {R:List Tok} {k:Int} {q:Nat} {ls:List (List UInt8)} {args:List Nd} {gl g:Option Addr} {cl c:Nat} {c0 c1 c2 c3 c4 c5 c6:Value} (hx:Box7 w2 b0 39 c0 c1 c2 c3 c4 c5 c6) (hb0:w.heap.size≤b0) (hk:Keep w p R w2) (hp:p<w.heap.size)
 (hi:IsP w2 (fun g=>b0<g) (paL (.mk ⟨k,q,[],0,[],ls⟩ args []) ⟨gl,cl,g,c,none,0⟩) (.mk ⟨k,q,[],0,[],ls⟩ args []))
 (he:set7 w2 b0 (.int .i64 k) (.int .i64 (q:Nat)) (.string ⟨#[]⟩) (.int .i64 0) (.string ⟨#[]⟩) (.slice gl ls.length cl) (.slice g args.length c)=w9) :
 ∀ w10,Below w9.heap.size w9 w10→PaBox w10 b0 (.mk ⟨k,q,[],0,[],ls⟩ args []) ⟨gl,cl,g,c,none,0⟩∧ToldP (.ok (.mk ⟨k,q,[],0,[],ls⟩ args []) R) w p (.returned (paOf (.mk ⟨k,q,[],0,[],ls⟩ args []) ⟨gl,cl,g,c,none,0⟩)) w10 :=
 xB (x:=.mk ⟨k,q,[],0,[],ls⟩ args []) (s:=⟨gl,cl,g,c,none,0⟩) hx hb0 hk hp hi he
theorem pat_tag {rec:Md→List Tok→PR} {t:Tok} {S:List Tok} (h:isKind 3 t=true):exec rec (step .pat) (t::S)=match rec .patom S with
 | .ok x R=>.ok (.mk ⟨8,t.2,t.1.text,0,[],[]⟩ [x] []) R
 | .bad R=>.bad R
 | .out=>.out:=by
 show(if isKind 3 t=true then exec rec (.call .patom fun p=>.ret (nodeN 8 t t.1.text 0 [p])) S else _)=_
 rw[h,if_pos rfl]
 cases hq:rec .patom S <;> simp only[exec,hq,nodeN]
theorem pat_no {rec:Md→List Tok→PR} {t:Tok} {S:List Tok} (h:isKind 3 t=false):exec rec (step .pat) (t::S)=rec .patom (t::S):=by
 show(if isKind 3 t=true then _ else exec rec (.call .patom .ret) (t::S))=_
 rw[h,if_neg (by decide)]
 cases hq:rec .patom (t::S) <;> simp only[exec,hq]
section
variable {rec : Md → List Tok → PR} {t : Tok} {S : List Tok}
theorem zds (h:isLeaf t=true):exec rec (step .patom) (t::S)=.ok (leafP t) S:=by
 show(if isLeaf t=true then _ else _)=_
 rw[h];rfl
theorem uy (h:isLeaf t=false) (h1:isOne [sMinus,sOpen,sCurl] t=true):exec rec (step .patom) (t::S)=exec rec (if t.1.text=sMinus then .acc (isKind 4) (fun u=>.ret (nodeN 3 t [] (-u.1.n) [])) .fail
 else if t.1.text=sCurl then .call (.fields false) fun r=>.ret (.mk ⟨9,t.2,[],0,[],r.hd.labels⟩ r.args [])
 else .acc (isOne [sShut]) (fun _=>.ret (nodeN 6 t [] 0 [])) (.call .pat fun p=>need [sShut] fun _=>.ret p)) S:=by
 show(if isLeaf t=true then _ else if isOne [sMinus,sOpen,sCurl] t=true then _ else _)=_
 rw[h,h1];rfl
theorem patom_bad (h:isLeaf t=false) (h1:isOne [sMinus,sOpen,sCurl] t=false):exec rec (step .patom) (t::S)=.bad (t::S):=by
 show(if isLeaf t=true then _ else if isOne [sMinus,sOpen,sCurl] t=true then _ else _)=_
 rw[h,h1];rfl
theorem zb0 (h:isLeaf t=false) (h1:isOne [sMinus,sOpen,sCurl] t=true) (hx:t.1.text=sMinus):exec rec (step .patom) (t::S)=exec rec (.acc (isKind 4) (fun u=>.ret (.mk ⟨3,t.2,[],-u.1.n,[],[]⟩ [] [])) .fail) S:=by
 rw[uy h h1,if_pos hx];rfl
theorem zei (h:isLeaf t=false) (h1:isOne [sMinus,sOpen,sCurl] t=true) (hx:¬t.1.text=sMinus) (hy:t.1.text=sCurl):exec rec (step .patom) (t::S)=match rec (.fields false) S with
 | .ok r R=>.ok (.mk ⟨9,t.2,[],0,[],r.hd.labels⟩ r.args []) R
 | .bad R=>.bad R
 | .out=>.out:=by
 rw[uy h h1,if_neg hx,if_pos hy]
 cases hq:rec (.fields false) S <;> simp only[exec,hq]
theorem zeq (h:isLeaf t=false) (h1:isOne [sMinus,sOpen,sCurl] t=true) (hx:¬t.1.text=sMinus) (hy:¬t.1.text=sCurl):exec rec (step .patom) (t::S)=exec rec (.acc (isOne [sShut]) (fun _=>.ret (.mk ⟨6,t.2,[],0,[],[]⟩ [] [])) (.call .pat fun p=>.acc (isOne [sShut]) (fun _=>.ret p) .fail)) S:=by
 rw[uy h h1,if_neg hx,if_neg hy];rfl
end
theorem w_pat (f p:Nat) (ha:SaysP f .patom 185 #[ptrV p] p):SaysP (f+1) .pat 176 #[ptrV p] p:=by
 have HHA:=zb ha
 clear ha
 intro T w hp hne
 have HLT:=zb hp.lt
 have HK:=zb (Keep.start hp)
 have hbx:=zj (w:=w) zeroPat
 have HX:Hid (ZeroPa (w.alloc zeroPat) w.heap.size):=zb (ZeroPa.new w)
 replace HK:=zb (HK.out.below hbx)
 clear hbx
 have HPB:Hid (p<w.heap.size):=zb (by have:=HLT.out;omega)
 have HB0:Hid (w.heap.size≤w.heap.size):=zb (by omega)
 have HR:Hid (run (f+1) .pat T=exec (run f) (step .pat) T):=zb rfl
 have HN:=zb hne
 obtain⟨t0,S0,hT0⟩:=hp.row.cons
 generalize run (f+1) .pat T=res at *
 subst hT0
 clear hp hne
 go_enter Tryz.func176, Tryz.ntmps176
 obtain⟨g,off,cap,q0,_,l1,l2,l3,j0,j1,j2,j3⟩:=HK.out.at_.view
 have jb:(0:Int)<((S0.length:Int)+1):=by omega
 have jg:g<w.heap.size:=by have:=HLT.out;omega
 by_cases hk:t0.1.kind=3
 · have B3:(t0.1.kind == 3)=true:=by rw[beq_iff_eq];exact hk
   have hk0:t0.1.kind≠0:=by omega
   obtain⟨u0,S1,rfl⟩:=xx HK.out.at_.row hk0
   replace HR:=zb (HR.out.trans (pat_tag (decide_eq_true hk)))
   have HRD:=zb (fun W h=>vB p t0 u0 S1 W h hk0)
   clear hk hk0
   go_wp2_with fail
   refine(HRD.out _ HK.out.at_).mono ?_
   rintro e V1 ⟨rfl,hp2,hg2⟩
   have hk2:=Keep.mk hp2 hg2
   replace HX:=zb (HX.out.keep hk2 HPB.out)
   replace HK:=zb (HK.out.trans hk2)
   clear hp2 hg2 hk2 HRD q0 l1 l2 l3 j0 j1 j2 j3 jb jg B3
   have hbx:=zj (w:=V1) (tokObj t0)
   have HT:=zb (TkBox.new V1 t0)
   have HTP:Hid (p<V1.heap.size):=zb (by have:=HPB.out;have:=HX.out.lt;omega)
   have HTZ:Hid (w.heap.size<V1.heap.size):=zb HX.out.lt
   replace HX:=zb (HX.out.below hbx)
   replace HK:=zb (HK.out.below hbx)
   clear hbx
   unfold tokVal tokAgg
   go_upto_region 3 with fail
   generalize V1.heap.size=bt at *
   generalize V1.alloc (tokObj t0)=w3 at *
   have HKd:=zb (HK.out.below (zm _))
   obtain⟨k0,k1,k2,k3,_⟩:=TokBox.cells HT.out
   have kl:=HT.out.lt
   cases hr:run f .patom (u0::S1) with
   | out =>
    rw[hr] at HR
    exact absurd HR.out HN.out
   | bad R9 =>
    rw[hr] at HR
    have HSC:Hid (∀ W,PAt W p (u0::S1)→Calls Tryz.prog 185 #[ptrV p] W (ToldP (.bad R9) W p)):=zb (fun W h=>by
     have:=HHA.out (u0::S1) W h (by rw[hr];exact fun h=>by cases h)
     rwa [hr] at this)
    clear hr
    go_region_dies
    all_goals
     refine(HSC.out _ HKd.out.at_).mono ?_
     rintro e w8 ⟨t8,S8,rfl,rfl,hg⟩
     have HG:=zb (zo HKd.out.grown hg)
     exact⟨rfl,by rw[HR.out];exact⟨t8,S8,rfl,rfl,HG.out⟩⟩
   | ok b R2 =>
    rw[hr] at HR
    have HSC:Hid (∀ W,PAt W p (u0::S1)→Calls Tryz.prog 185 #[ptrV p] W (ToldP (.ok b R2) W p)):=zb (fun W h=>by
     have:=HHA.out (u0::S1) W h (by rw[hr];exact fun h=>by cases h)
     rwa [hr] at this)
    clear hr
    refine yg 8 (fun W=>W.cell? ⟨bt,0,none⟩=some (.int .i64 t0.1.kind)∧W.cell? ⟨bt,1,none⟩=some (.int .i64 (t0.2:Nat))∧W.cell? ⟨bt,2,none⟩=some (.string ⟨t0.1.text.toArray⟩)∧W.cell? ⟨bt,3,none⟩=some (.int .i64 t0.1.n)) (by kernel_rfl) (by kernel_rfl) (by go_keep) (fun hL inv hHeld=>?_)
    refine anyK_tk (v:=?_) 0 hL rfl inv (Or.inl ⟨by rfl,?_⟩) (fun inv=>?_)
    rotate_left
    · intro w hSw;(try dsimp only at hSw);go_simp;try with_reducible rfl
    (try simp only[Act.put,zg,zh,zi])
    refine anyK_tk (v:=?_) 1 hL rfl inv (Or.inl ⟨by rfl,?_⟩) (fun inv=>?_)
    rotate_left
    · intro w hSw;(try dsimp only at hSw);go_simp;try with_reducible rfl
    (try simp only[Act.put,zg,zh,zi])
    refine anyK_tk (v:=?_) 2 hL rfl inv (Or.inl ⟨by rfl,?_⟩) (fun inv=>?_)
    rotate_left
    · intro w hSw;(try dsimp only at hSw);go_simp;try with_reducible rfl
    (try simp only[Act.put,zg,zh,zi])
    refine anyK_tk (v:=?_) 3 hL rfl inv (Or.inl ⟨by rfl,?_⟩) (fun inv=>?_)
    rotate_left
    · intro w hSw;(try dsimp only at hSw);go_simp;try with_reducible rfl
    (try simp only[Act.put,zg,zh,zi])
    refine anyK_tk (v:=?_) 4 hL rfl inv (Or.inl ⟨by rfl,?_⟩) (fun inv=>?_)
    rotate_left
    · intro w hSw;(try dsimp only at hSw);go_simp;try with_reducible rfl
    (try simp only[Act.put,zg,zh,zi])
    refine yb (i:=5) (by kernel_rfl) (by kernel_rfl) rfl inv (fun K hK=>?_)
    go_simp
    go_at_call 185
    refine(HSC.out _ HKd.out.at_).mono ?_
    rintro e Wy ⟨sy,rfl,ha,hk⟩
    have HAb:Hid (IsP Wy (fun g=>w.heap.size<g) (paL b sy) b):=zb (ha.wide fun g hg=>zd (HX.out.below (zm _)).lt hg)
    replace HX:=zb ((HX.out.below (zm _)).keep hk HPB.out)
    replace HT:=zb ((HT.out.below (zm _)).keep hk HTP.out)
    replace HK:=zb (HKd.out.trans hk)
    clear HKd k0 k1 k2 k3 kl ha hk
    obtain⟨k0,k1,k2,k3,_⟩:=TokBox.cells HT.out
    have kl:=HT.out.lt
    unfold paOf
    refine hK.out _ _ ⟨k0,k1,k2,k3⟩ (fun hHeld inv=>?_)
    clear hK K
    (try simp only[Act.put,zg,zh,zi])
    refine yb (i:=6) (by kernel_rfl) (by kernel_rfl) rfl inv (fun K hK=>?_)
    go_simp
    generalize hw3:Wy.alloc _=w4
    have hbw:Below Wy.heap.size Wy w4:=by subst hw3;exact zj _
    have HNR:Hid (IsP w4 (fun g=>w.heap.size<g) (paL (.mk ⟨8,t0.2,t0.1.text,0,[],[]⟩ [b] []) ⟨none,0,some ⟨Wy.heap.size,0,none⟩,1,none,0⟩) (.mk ⟨8,t0.2,t0.1.text,0,[],[]⟩ [b] [])∧Keep w p R2 w4∧Below Wy.heap.size Wy w4):=zb (by
     subst hw3
     exact node_rowP (L:=[paL b sy]) (args:=[b]) HK.out ⟨HAb.out,trivial⟩ HX.out.lt (by simp) ⟨8,t0.2,t0.1.text,0,[],[]⟩ rfl (Below.refl _ _))
    replace HX:=zb (HX.out.below hbw)
    replace HT:=zb (HT.out.below hbw)
    clear hw3 hbw k0 k1 k2 k3 kl hHeld HAb HK
    obtain⟨k0,k1,k2,k3,_⟩:=TokBox.cells HT.out
    have kl:=HT.out.lt
    refine hK.out _ _ ⟨k0,k1,k2,k3⟩ (fun hHeld inv=>?_)
    clear hK K
    (try simp only[Act.put,zg,zh,zi])
    refine anyK_tk (v:=?_) 7 hL rfl inv (Or.inl ⟨by rfl,?_⟩) (fun inv=>?_)
    rotate_left
    · intro w hSw;(try dsimp only at hSw);go_simp;try with_reducible rfl
    (try simp only[Act.put,zg,zh,zi])
    have HS:=zb (ret_nodeP HX.out HB0.out HLT.out ⟨HNR.out.1,HNR.out.2.1⟩ 1 rfl ⟨t0.1.text.toArray⟩ rfl rfl)
    unfold set7 at HS
    obtain⟨x0,x1,x2,x3,x4,x5,x6,xf⟩:=(Box7.cells HX.out)
    have y0:=xf 0
    have y1:=xf 1
    have y2:=xf 2
    have y3:=xf 3
    have y4:=xf 4
    have y5:=xf 5
    have y6:=xf 6
    have hxl:=HX.out.lt
    clear xf
    refine yw (by kernel_rfl) rfl (by kernel_rfl) (fun K hK=>?_)
    go_simp
    refine hK.out _ _ ?_
    clear hK K inv hHeld hL
    go_wp2_with fail
    generalize World.setCell _ _ _=w9 at *
    rw[HR.out]
    exact xz Tryz.results176 rfl rfl (HS.out _ (Below.refl _ _))
 · have B3:(t0.1.kind == 3)=false:=beq_eq_false_iff_ne.2 hk
   replace HR:=zb (HR.out.trans (pat_no (decide_eq_false hk)))
   clear hk
   go_wp2_with fail
   clear q0 l1 l2 l3 j0 j1 j2 j3 jb jg B3
   cases hr:run f .patom (t0::S0) with
   | out =>
    rw[hr] at HR
    exact absurd HR.out HN.out
   | bad R9 =>
    rw[hr] at HR
    refine(HHA.out (t0::S0) _ HK.out.at_ (by rw[hr];exact fun h=>by cases h)).mono ?_
    rw[hr]
    rintro e w8 ⟨t8,S8,rfl,rfl,hg⟩
    have HG:=zb (zo HK.out.grown hg)
    clear hg hr
    unfold faultV
    go_wp2_with fail
    exact⟨rfl,by rw[HR.out];exact⟨t8,S8,rfl,rfl,HG.out⟩⟩
   | ok x R1 =>
    rw[hr] at HR
    refine(HHA.out (t0::S0) _ HK.out.at_ (by rw[hr];exact fun h=>by cases h)).mono ?_
    rw[hr]
    rintro e W1 ⟨s1,rfl,ha,hk⟩
    clear hr
    have HAx:Hid (IsP W1 (fun g=>w.heap.size<g) (paL x s1) x):=zb (ha.wide fun g hg=>zd HX.out.lt hg)
    clear ha
    replace HX:=zb (HX.out.keep hk HPB.out)
    replace HK:=zb (HK.out.trans hk)
    clear hk
    obtain⟨x0,x1,x2,x3,x4,x5,x6,xf⟩:=(Box7.cells HX.out)
    have y0:=xf 0
    have y1:=xf 1
    have y2:=xf 2
    have y3:=xf 3
    have y4:=xf 4
    have y5:=xf 5
    have y6:=xf 6
    have hxl:=HX.out.lt
    clear xf
    have HS:=zb (xB HX.out HB0.out HK.out HLT.out HAx.out rfl)
    unfold set7 at HS
    unfold paOf
    go_wp2_with fail
    generalize World.setCell _ _ _=w9 at *
    rw[HR.out]
    exact xz Tryz.results176 rfl rfl (HS.out _ (Below.refl _ _))
theorem w_patom (f p:Nat) (hpt:SaysP f .pat 176 #[ptrV p] p) (hfl:SaysF false f (.fields false) 196 #[ptrV p,(.func (.func 176) #[ptrV p] #[])] p):SaysP (f+1) .patom 185 #[ptrV p] p:=by
 have HHPT:=zb hpt
 clear hpt
 have HHFL:=zb hfl
 clear hfl
 intro T w hp hne
 have HLT:=zb hp.lt
 have HK:=zb (Keep.start hp)
 have hbx:=zj (w:=w) zeroPat
 have HX:Hid (ZeroPa (w.alloc zeroPat) w.heap.size):=zb (ZeroPa.new w)
 replace HK:=zb (HK.out.below hbx)
 clear hbx
 have HPB:Hid (p<w.heap.size):=zb (by have:=HLT.out;omega)
 have HB0:Hid (w.heap.size≤w.heap.size):=zb (by omega)
 have HR:Hid (run (f+1) .patom T=exec (run f) (step .patom) T):=zb rfl
 have HN:=zb hne
 obtain⟨t0,S0,hT0⟩:=hp.row.cons
 generalize run (f+1) .patom T=res at *
 subst hT0
 clear hp hne
 go_enter Tryz.func185, Tryz.ntmps185
 obtain⟨g,off,cap,q0,_,l1,l2,l3,j0,j1,j2,j3⟩:=HK.out.at_.view
 have jb:(0:Int)<((S0.length:Int)+1):=by omega
 have jg:g<w.heap.size:=by have:=HLT.out;omega
 go_wp2_with fail
 refine(ro t0 _).mono ?_
 rintro e V1 ⟨rfl,hb2⟩
 replace HX:=zb (HX.out.below hb2)
 replace HK:=zb (HK.out.below hb2)
 clear hb2
 clear q0 l1 l2 l3 j0 j1 j2 j3 jb jg
 cases hl:isLeaf t0 with
 | true =>
  replace HR:=zb (HR.out.trans (zds hl))
  obtain⟨h,hE,hlab,hpos,hV⟩:=tE (t:=t0)
  have HPL:Hid (∀ W,PAt W p (t0::S0)→Calls Tryz.prog 194 #[ptrV p,.agg #[.int .i64 h.kind,.int .i64 (leafK t0),.string ⟨h.name.toArray⟩,.int .i64 h.n,.string ⟨h.s.toArray⟩]] W (ToldP (.ok (leafP t0) S0) W p)):=zb (fun W h=>by rw[← hV];exact w_patLeaf p t0 S0 hl W h)
  rw[hV]
  generalize leafK t0=lk at *
  generalize leafP t0=x at *
  clear hE hlab hpos hV hl
  have hbx:=zj (w:=V1) (.cells #[.int .i64 h.kind,.int .i64 (lk),.string ⟨h.name.toArray⟩,.int .i64 h.n,.string ⟨h.s.toArray⟩] 175 (0,0))
  replace HX:=zb (HX.out.below hbx)
  replace HK:=zb (HK.out.below hbx)
  clear hbx
  go_wp2_with fail
  refine(HPL.out _ HK.out.at_).mono ?_
  rintro e W1 ⟨s1,rfl,ha,hk⟩
  have HAx:Hid (IsP W1 (fun g=>w.heap.size<g) (paL x s1) x):=zb (ha.wide fun g hg=>zd HX.out.lt hg)
  clear ha
  replace HX:=zb (HX.out.keep hk HPB.out)
  replace HK:=zb (HK.out.trans hk)
  clear hk
  obtain⟨x0,x1,x2,x3,x4,x5,x6,xf⟩:=(Box7.cells HX.out)
  have y0:=xf 0
  have y1:=xf 1
  have y2:=xf 2
  have y3:=xf 3
  have y4:=xf 4
  have y5:=xf 5
  have y6:=xf 6
  have hxl:=HX.out.lt
  clear xf
  have HS:=zb (xB HX.out HB0.out HK.out HLT.out HAx.out rfl)
  unfold set7 at HS
  unfold paOf
  go_wp2_with fail
  generalize World.setCell _ _ _=w9 at *
  rw[HR.out]
  exact xz Tryz.results185 rfl rfl (HS.out _ (Below.refl _ _))
 | false =>
  obtain⟨va,vb,vx,vn,vs,hv⟩:=uB t0
  rw[hv]
  clear hv
  have hbp:=zj (w:=V1) (.cells #[.int .i64 va,.int .i64 vb,.string vx,.int .i64 vn,.string vs] 175 (0,0))
  replace HX:=zb (HX.out.below hbp)
  replace HK:=zb (HK.out.below hbp)
  clear hbp
  have HAC:=zb (fun W b h hb=>zE p t0 S0 [sMinus,sOpen,sCurl] _ _ rfl rfl (by decide) W b h hb)
  go_wp2_with fail
  refine(HAC.out _ _ HK.out.at_ (by simp)).mono ?_
  rintro e W1 (⟨hy,rfl,hp2,hg2⟩ | ⟨hy,rfl,hb2⟩)
  · skip
    have hk2:=Keep.mk hp2 hg2
    replace HX:=zb (HX.out.keep hk2 HPB.out)
    replace HK:=zb (HK.out.trans hk2)
    clear hp2 hg2 hk2 HAC 
    have hbx:=zj (w:=W1) (tokObj t0)
    have HT:=zb (TkBox.new W1 t0)
    have HTP:Hid (p<W1.heap.size):=zb (by have:=HPB.out;have:=HX.out.lt;omega)
    have HTZ:Hid (w.heap.size<W1.heap.size):=zb HX.out.lt
    replace HX:=zb (HX.out.below hbx)
    replace HK:=zb (HK.out.below hbx)
    clear hbx
    obtain⟨k0,k1,k2,k3,_⟩:=TokBox.cells (HT.out)
    have kl:=(HT.out).lt
    by_cases hx:t0.1.text=sMinus
    · replace HR:=zb (HR.out.trans (zb0 hl hy hx))
      have BM:(t0.1.text == [45])=true:=by rw[hx];rfl
      clear hx hl hy
      have HNG:=zb (fun W h=>zdA (run f) p t0.2 S0 W h)
      unfold tokVal tokAgg
      go_wp2_with fail
      cases hr:exec (run f) (.acc (isKind 4) (fun u=>.ret (.mk ⟨3,t0.2,[],-u.1.n,[],[]⟩ [] [])) .fail) S0 with
      | out =>
       rw[hr] at HR
       exact absurd HR.out HN.out
      | bad R9 =>
       rw[hr] at HR
       refine(HNG.out _ HK.out.at_).mono ?_
       rw[hr]
       rintro e w8 ⟨t8,S8,rfl,rfl,hg⟩
       have HG:=zb (zo HK.out.grown hg)
       clear hg hr
       unfold faultV
       go_wp2_with fail
       exact⟨rfl,by rw[HR.out];exact⟨t8,S8,rfl,rfl,HG.out⟩⟩
      | ok x R2 =>
       rw[hr] at HR
       refine(HNG.out _ HK.out.at_).mono ?_
       rw[hr]
       rintro e W2 ⟨s2,rfl,ha,hk⟩
       clear hr
       have HAx:Hid (IsP W2 (fun g=>w.heap.size<g) (paL x s2) x):=zb (ha.wide fun g hg=>zd HX.out.lt hg)
       clear ha
       replace HX:=zb (HX.out.keep hk HPB.out)
       replace HT:=zb (HT.out.keep hk HTP.out)
       replace HK:=zb (HK.out.trans hk)
       clear hk
       obtain⟨x0,x1,x2,x3,x4,x5,x6,xf⟩:=(Box7.cells HX.out)
       have y0:=xf 0
       have y1:=xf 1
       have y2:=xf 2
       have y3:=xf 3
       have y4:=xf 4
       have y5:=xf 5
       have y6:=xf 6
       have hxl:=HX.out.lt
       clear xf
       have HS:=zb (xB HX.out HB0.out HK.out HLT.out HAx.out rfl)
       unfold set7 at HS
       unfold paOf
       go_wp2_with fail
       generalize World.setCell _ _ _=w9 at *
       rw[HR.out]
       exact xz Tryz.results185 rfl rfl (HS.out _ (Below.refl _ _))
    · by_cases hz:t0.1.text=sCurl
      · replace HR:=zb (HR.out.trans (zei hl hy hx hz))
        have BM:(t0.1.text == [45])=false:=beq_eq_false_iff_ne.2 hx
        have BC:(t0.1.text == [123])=true:=by rw[hz];rfl
        clear hx hl hy hz
        unfold tokVal tokAgg
        go_wp2_with fail
        cases hr:run f (.fields false) S0 with
        | out =>
         rw[hr] at HR
         exact absurd HR.out HN.out
        | bad R9 =>
         rw[hr] at HR
         refine(HHFL.out S0 _ HK.out.at_ (by rw[hr];exact fun h=>by cases h)).mono ?_
         rw[hr]
         rintro e w8 ⟨t8,S8,rfl,rfl,hg⟩
         have HG:=zb (zo HK.out.grown hg)
         clear hg hr
         unfold faultV
         go_wp2_with fail
         exact⟨rfl,by rw[HR.out];exact⟨t8,S8,rfl,rfl,HG.out⟩⟩
        | ok x R1 =>
         rw[hr] at HR
         refine(HHFL.out S0 _ HK.out.at_ (by rw[hr];exact fun h=>by cases h)).mono ?_
         rw[hr]
         rintro e W9 ⟨gl,cl,ga,ca,rfl,hls,hro,hk⟩
         have hro:PaRow _ _ _ _:=hro
         have HA:Hid (IsP W9 (fun g=>w.heap.size<g) (paL (.mk ⟨9,t0.2,[],0,[],x.hd.labels⟩ x.args []) ⟨gl,cl,ga,ca,none,0⟩) (.mk ⟨9,t0.2,[],0,[],x.hd.labels⟩ x.args [])):=zb (by
          have hm:Move W9 (fun g=>(W1.alloc (tokObj t0)).heap.size≤g) W9 (fun g=>w.heap.size<g):=fun g hg hl=>⟨zd HX.out.lt hg,rfl⟩
          obtain⟨LL,h1,h2⟩:=hro.ex
          exact⟨rfl,_,_,rfl,hls.move hm,LL,h1.move hm,IsPs.move hm h2⟩)
         replace HX:=zb (HX.out.keep hk HPB.out)
         replace HT:=zb (HT.out.keep hk HTP.out)
         replace HK:=zb (HK.out.trans hk)
         clear hk hls hro hr k0 k1 k2 k3 kl
         obtain⟨k0,k1,k2,k3,_⟩:=TokBox.cells HT.out
         have kl:=HT.out.lt
         obtain⟨x0,x1,x2,x3,x4,x5,x6,xf⟩:=(Box7.cells HX.out)
         have y0:=xf 0
         have y1:=xf 1
         have y2:=xf 2
         have y3:=xf 3
         have y4:=xf 4
         have y5:=xf 5
         have y6:=xf 6
         have hxl:=HX.out.lt
         clear xf
         have HS:=zb (ret_bagP HX.out HB0.out HK.out HLT.out HA.out rfl)
         unfold set7 at HS
         go_wp2_with fail
         generalize World.setCell _ _ _=w9 at *
         rw[HR.out]
         exact xz Tryz.results185 rfl rfl (HS.out _ (Below.refl _ _))
      · replace HR:=zb (HR.out.trans (zeq hl hy hx hz))
        have BM:(t0.1.text == [45])=false:=beq_eq_false_iff_ne.2 hx
        have BC:(t0.1.text == [123])=false:=beq_eq_false_iff_ne.2 hz
        clear hx hl hy hz
        obtain⟨t2,S2,rfl⟩:=HK.out.at_.row.cons
        simp only[exec] at HR
        have HAC:=zb (fun W b h hb=>yc p t2 S2 [sShut] _ _ rfl rfl (by decide) W b h hb)
        unfold tokVal tokAgg
        go_wp2_with fail
        refine(HAC.out _ _ HK.out.at_ (by simp)).mono ?_
        rintro e W3 (⟨hy,rfl,hp2,hg2⟩ | ⟨hy,rfl,hb2⟩)
        · rw[hy,if_pos rfl] at HR
          have hk2:=Keep.mk hp2 hg2
          replace HX:=zb (HX.out.keep hk2 HPB.out)
          replace HT:=zb (HT.out.keep hk2 HTP.out)
          replace HK:=zb (HK.out.trans hk2)
          clear hy hp2 hg2 hk2 HAC
          have hbx:=zj (w:=W3) (tokObj t2)
          have HU:=zb (TkBox.new W3 t2)
          have HUP:Hid (p<W3.heap.size):=zb (by have:=HPB.out;have:=HX.out.lt;omega)
          have HUZ:Hid (w.heap.size<W3.heap.size):=zb HX.out.lt
          replace HX:=zb (HX.out.below hbx)
          replace HT:=zb (HT.out.below hbx)
          replace HK:=zb (HK.out.below hbx)
          clear hbx
          unfold tokVal tokAgg
          go_upto_region 13 with fail
          clear k0 k1 k2 k3 kl
          generalize (W3.alloc (tokObj t2))=w3 at *
          obtain⟨k0,k1,k2,k3,_⟩:=TokBox.cells (HT.out)
          have kl:=(HT.out).lt
          obtain⟨x0,x1,x2,x3,x4,x5,x6,xf⟩:=(Box7.cells HX.out)
          have y0:=xf 0
          have y1:=xf 1
          have y2:=xf 2
          have y3:=xf 3
          have y4:=xf 4
          have y5:=xf 5
          have y6:=xf 6
          have hxl:=HX.out.lt
          clear xf
          have HS:=zb (wE (h:=⟨6,t0.2,[],0,[],[]⟩) rfl HK.out HX.out HB0.out HLT.out rfl)
          unfold set7 at HS
          go_wp2_with fail
          generalize World.setCell _ _ _=w9 at *
          rw[HR.out]
          exact xz Tryz.results185 rfl rfl (HS.out _ (Below.refl _ _))
        · rw[hy,if_neg (by decide)] at HR
          replace HX:=zb (HX.out.below hb2)
          replace HT:=zb (HT.out.below hb2)
          replace HK:=zb (HK.out.below hb2)
          clear hb2 HAC
          have hbp:=zj (w:=W3) zeroTok
          replace HX:=zb (HX.out.below hbp)
          replace HT:=zb (HT.out.below hbp)
          replace HK:=zb (HK.out.below hbp)
          clear hbp
          unfold tokAgg
          go_wp2_with fail
          cases hr:run f .pat (t2::S2) with
          | out =>
           rw[hr] at HR
           exact absurd HR.out HN.out
          | bad R9 =>
           rw[hr] at HR
           refine(HHPT.out (t2::S2) _ HK.out.at_ (by rw[hr];exact fun h=>by cases h)).mono ?_
           rw[hr]
           rintro e w8 ⟨t8,S8,rfl,rfl,hg⟩
           have HG:=zb (zo HK.out.grown hg)
           clear hg hr
           unfold faultV
           go_wp2_with fail
           exact⟨rfl,by rw[HR.out];exact⟨t8,S8,rfl,rfl,HG.out⟩⟩
          | ok x R4 =>
           rw[hr] at HR
           refine(HHPT.out (t2::S2) _ HK.out.at_ (by rw[hr];exact fun h=>by cases h)).mono ?_
           rw[hr]
           rintro e W4 ⟨s4,rfl,ha,hk⟩
           clear hr
           have HAx:Hid (IsP W4 (fun g=>w.heap.size<g) (paL x s4) x):=zb (ha.wide fun g hg=>zd HX.out.lt hg)
           clear ha
           replace HX:=zb (HX.out.keep hk HPB.out)
           replace HT:=zb (HT.out.keep hk HTP.out)
           replace HK:=zb (HK.out.trans hk)
           clear hk
           have hbx:=zj (w:=W4) (paObj x s4)
           have HF:=zb (PaBox.new W4 x s4)
           have HFP:Hid (p<W4.heap.size):=zb (by have:=HPB.out;have:=HX.out.lt;omega)
           have HFZ:Hid (w.heap.size<W4.heap.size):=zb HX.out.lt
           replace HX:=zb (HX.out.below hbx)
           replace HT:=zb (HT.out.below hbx)
           replace HAx:=zb (HAx.out.below hbx)
           replace HK:=zb (HK.out.below hbx)
           clear hbx
           obtain⟨t5,S5,rfl⟩:=HK.out.at_.row.cons
           simp only[exec] at HR
           have HAC:=zb (fun W b h hb=>zE p t5 S5 [sShut] _ _ rfl rfl (by decide) W b h hb)
           unfold paOf
           go_wp2_with fail
           refine(HAC.out _ _ HK.out.at_ (by simp)).mono ?_
           rintro e W6 (⟨hy,rfl,hp2,hg2⟩ | ⟨hy,rfl,hb2⟩)
           · rw[hy,if_pos rfl] at HR
             have hk2:=Keep.mk hp2 hg2
             replace HX:=zb (HX.out.keep hk2 HPB.out)
             replace HT:=zb (HT.out.keep hk2 HTP.out)
             replace HF:=zb (HF.out.keep hk2 HFP.out)
             replace HAx:=zb (HAx.out.keep hk2 (fun g hg=>by have:=HPB.out;omega))
             replace HK:=zb (HK.out.trans hk2)
             clear hp2 hg2 hk2 HAC hy
             obtain⟨x0,x1,x2,x3,x4,x5,x6,xf⟩:=(Box7.cells HX.out)
             have y0:=xf 0
             have y1:=xf 1
             have y2:=xf 2
             have y3:=xf 3
             have y4:=xf 4
             have y5:=xf 5
             have y6:=xf 6
             have hxl:=HX.out.lt
             clear xf
             obtain⟨f0,f1,f2,f3,f4,f5,f6,_⟩:=Box7.cells (HF.out);have fl:=(HF.out).lt
             have HS:=zb (xB HX.out HB0.out HK.out HLT.out HAx.out rfl)
             unfold set7 at HS
             unfold tokVal tokAgg
             go_wp2_with fail
             generalize World.setCell _ _ _=w9 at *
             rw[HR.out]
             exact xz Tryz.results185 rfl rfl (HS.out _ (Below.refl _ _))
           · rw[hy,if_neg (by decide)] at HR
             have HG:=zb (zr HK.out.grown hb2)
             clear hb2 HAC
             unfold faultV
             go_wp2_with fail
             exact⟨rfl,by rw[HR.out];exact⟨t5,S5,rfl,rfl,HG.out⟩⟩
  · replace HR:=zb (HR.out.trans (patom_bad hl hy))
    have HG:=zb (zr HK.out.grown hb2)
    clear hb2 HAC
    unfold faultV
    go_wp2_with fail
    exact⟨rfl,by rw[HR.out];exact⟨t0,S0,rfl,rfl,HG.out⟩⟩
