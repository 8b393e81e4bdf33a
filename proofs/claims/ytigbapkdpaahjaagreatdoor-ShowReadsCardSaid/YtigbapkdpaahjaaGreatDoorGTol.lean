/-
  Plain facts: a text that is told holds the texts of its parts; what is told and read again; places aside the t.
-/
import Derived.Test.YtigbapkdpaahjaaGreatDoorGBak
import Derived.Test.YtigbapkdpaahjaaGreatDoorGShowC
import Derived.Test.YtigbapkdpaahjaaGreatDoorGBase
namespace Go.Proofs.YtigbapkdpaahjaaGreatDoor
set_option linter.unusedSimpArgs false
set_option linter.unusedVariables false
section
open Go.RowKit
theorem ui:∀{more:Bool} {ls:List (List UInt8)} {az:List (Option (List UInt8))} {q:List UInt8×List (Option (List UInt8))},fieldsV more ls az=some q→∀ t,some t∈az→t.length≤q.1.length∨some t∈q.2
 | _,[],az,q,h,t,ht=>by
  rw[fieldsV] at h
  obtain rfl:=zc h
  exact .inr ht
 | more,l::ls,[],q,h,t,ht=>by cases h
 | more,l::ls,none::az,q,h,t,ht=>by cases h
 | more,l::ls,some s::az,q,h,t,ht=>by
  rw[fieldsV] at h
  split at h
  · cases hf:fieldsV true ls az with
    | none=>rw[hf] at h;cases h
    | some p =>
     rw[hf] at h
     obtain rfl:=zc h
     rcases List.mem_cons.1 ht with ht | ht
     · obtain rfl:=zc ht
       left
       simp only[List.length_append];omega
     · rcases ui hf t ht with h1 | h1
       · left
         simp only[List.length_append];omega
       · exact .inr h1
  · cases h
theorem sv:∀{more:Bool} {az:List (Option (List UInt8))} {s:List UInt8},armsV more az=some s→∀ t,some t∈az→t.length≤s.length
 | _,[],s,h,t,ht=>by cases ht
 | more,none::az,s,h,t,ht=>by cases h
 | more,some u::az,s,h,t,ht=>by
  rw[armsV] at h
  cases hf:armsV true az with
  | none=>rw[hf] at h;cases h
  | some p =>
   rw[hf] at h
   obtain rfl:=zc h
   rcases List.mem_cons.1 ht with ht | ht
   · obtain rfl:=zc ht
     simp only[List.length_append];omega
   · have:=sv hf t ht
     simp only[List.length_append];omega
theorem zaZ:∀{more:Bool} {az:List (Option (List UInt8))} {s:List UInt8},armsV more az=some s→none ∉ az
 | _,[],s,h,ht=>by cases ht
 | more,none::az,s,h,ht=>by cases h
 | more,some u::az,s,h,ht=>by
  rw[armsV] at h
  cases hf:armsV true az with
  | none=>rw[hf] at h;cases h
  | some p =>
   rcases List.mem_cons.1 ht with ht | ht
   · cases ht
   · exact zaZ hf ht
theorem sC:∀{more:Bool} {ls:List (List UInt8)} {az:List (Option (List UInt8))} {q:List UInt8×List (Option (List UInt8))},fieldsV more ls az=some q→none∈az→none∈q.2
 | _,[],az,q,h,ht=>by
  rw[fieldsV] at h
  obtain rfl:=zc h
  exact ht
 | more,l::ls,[],q,h,ht=>by cases h
 | more,l::ls,none::az,q,h,ht=>by cases h
 | more,l::ls,some s::az,q,h,ht=>by
  rw[fieldsV] at h
  split at h
  · cases hf:fieldsV true ls az with
    | none=>rw[hf] at h;cases h
    | some p =>
     rw[hf] at h
     obtain rfl:=zc h
     rcases List.mem_cons.1 ht with ht | ht
     · cases ht
     · show none∈p.2
       exact sC hf ht
  · cases h
structure Holds (x:Sn) (n:Nat):Prop where
 s:x.s=[]∨(qall (x.s.take 4096)).length≤n
 args:∀ a∈x.args,∃ t,a=some t∧t.length≤n
 arms:∀ a∈x.arms,∃ t,a=some t∧t.length≤n
theorem Holds.more {x:Sn} {n m:Nat} (h:Holds x n) (hm:n≤m):Holds x m :=
 ⟨h.s.imp id fun h=>Nat.le_trans h hm,fun a ha=>(h.args a ha).imp fun t h=>⟨h.1,Nat.le_trans h.2 hm⟩,fun a ha=>(h.arms a ha).imp fun t h=>⟨h.1,Nat.le_trans h.2 hm⟩⟩
theorem zcr {c:Nat} {x y:Sn} {t:List UInt8} {n:Nat} (h:stepV c x=some (t,y)) (hy:Holds y n):Holds x (t.length+n):=by
 have hn:n≤t.length+n:=by omega
 obtain⟨nm,i,s,ls,az,ar⟩:=x
 unfold stepV at h
 split at h
 · split at h
   · obtain⟨rfl,rfl⟩:=Prod.mk.inj (zc h)
     exact⟨(hy.more hn).s,(hy.more hn).args,(hy.more hn).arms⟩
   · cases h
 split at h
 · split at h
   · obtain⟨rfl,rfl⟩:=Prod.mk.inj (zc h)
     exact⟨(hy.more hn).s,(hy.more hn).args,(hy.more hn).arms⟩
   · cases h
 split at h
 · split at h
   · obtain⟨rfl,rfl⟩:=Prod.mk.inj (zc h)
     exact⟨(hy.more hn).s,(hy.more hn).args,(hy.more hn).arms⟩
   · cases h
 split at h
 · split at h
   · obtain⟨rfl,rfl⟩:=Prod.mk.inj (zc h)
     exact⟨(hy.more hn).s,(hy.more hn).args,(hy.more hn).arms⟩
   · split at h
     · obtain⟨rfl,rfl⟩:=Prod.mk.inj (zc h)
       exact⟨(hy.more hn).s,(hy.more hn).args,(hy.more hn).arms⟩
     · cases h
 split at h
 · obtain⟨rfl,rfl⟩:=Prod.mk.inj (zc h)
   exact⟨.inr (Nat.le_add_right _ _),(hy.more hn).args,(hy.more hn).arms⟩
 split at h
 · split at h
   · rename_i u l hl
     have hl:az=some u::l:=hl
     subst hl
     obtain⟨rfl,rfl⟩:=Prod.mk.inj (zc h)
     refine⟨(hy.more hn).s,fun a ha=>?_,(hy.more hn).arms⟩
     rcases List.mem_cons.1 ha with rfl | ha
     · exact⟨_,rfl,Nat.le_add_right _ _⟩
     · exact(hy.more hn).args a ha
   · cases h
 split at h
 · cases hf:fieldsV false ls az with
   | none=>simp only[hf] at h;cases h
   | some q =>
    simp only[hf] at h
    obtain⟨rfl,rfl⟩:=Prod.mk.inj (zc h)
    refine⟨(hy.more hn).s,fun a ha=>?_,(hy.more hn).arms⟩
    cases a with
    | none =>
     obtain⟨t,h1,_⟩:=hy.args none (sC hf ha)
     cases h1
    | some u =>
     rcases ui hf u ha with h1 | h1
     · exact⟨u,rfl,by omega⟩
     · exact(hy.more hn).args _ h1
 split at h
 · split at h
   · cases h
   · cases hf:armsV false ar with
     | none=>simp only[hf] at h;cases h
     | some q =>
      simp only[hf] at h
      obtain⟨rfl,rfl⟩:=Prod.mk.inj (zc h)
      refine⟨(hy.more hn).s,(hy.more hn).args,fun a ha=>?_⟩
      cases a with
      | none=>exact absurd ha (zaZ hf)
      | some u =>
       have:=sv hf u ha
       exact⟨u,rfl,by omega⟩
 · obtain⟨rfl,rfl⟩:=Prod.mk.inj (zc h)
   exact hy.more hn
theorem se:∀{f:List UInt8} {x:Sn} {s:List UInt8},formV f x=some s→Holds x s.length
 | [],x,s,h=>by
  obtain⟨rfl,rfl⟩:=zX h
  exact⟨.inl rfl,fun a ha=>(by cases ha),fun a ha=>(by cases ha)⟩
 | c::f,x,s,h=>by
  obtain⟨t,y,r,h1,h2,rfl⟩:=yp h
  rw[List.length_append]
  exact zcr h1 (se h2)
theorem wm {f:List UInt8} {x:Sn} {s:List UInt8} (h:putV f x=some s):Holds x s.length:=se (xZ h).2
mutual
def Nd.bareE:Nd→Prop
 | .mk h l a=>bareEs l∧bareAs a
def bareEs:List Nd→Prop
 | []=>True
 | x::r=>x.bareE∧bareEs r
def bareAs:List (Nd×Nd)→Prop
 | []=>True
 | (p,b)::r=>p.bareP∧b.bareE∧bareAs r
def Nd.bareP:Nd→Prop
 | .mk h l a=>a=[]∧barePs l
def barePs:List Nd→Prop
 | []=>True
 | x::r=>x.bareP∧barePs r
end
theorem wd {s:List UInt8} {n:Nat} (h:s=[]∨(qall (s.take 4096)).length≤n) (hn:n≤4096):s.length≤4096:=by
 rcases h with rfl | h
 · simp
 · have:=zb8 (s.take 4096)
   rw[List.length_take] at this
   omega
theorem zeH {l:List Nd} (h:∀ x∈l,x.okE):okEs l:=by
 induction l with
 | nil=>trivial
 | cons x l ih=>exact⟨h x (by simp),ih fun y hy=>h y (by simp [hy])⟩
theorem okPs_of {l:List Nd} (h:∀ x∈l,x.okP):okPs l:=by
 induction l with
 | nil=>trivial
 | cons x l ih=>exact⟨h x (by simp),ih fun y hy=>h y (by simp [hy])⟩
theorem okAs_of {l:List (Nd×Nd)} (h:∀ q∈l,q.1.okP∧q.2.okE):okAs l:=by
 induction l with
 | nil=>trivial
 | cons x l ih=>exact⟨(h x (by simp)).1,(h x (by simp)).2,ih fun y hy=>h y (by simp [hy])⟩
theorem wh:∀{l:List Nd},bareEs l→∀ x∈l,x.bareE
 | y::r,h,x,hx=>(List.mem_cons.1 hx).elim (fun e=>e▸h.1) (fun hx=>wh h.2 x hx)
theorem uE:∀{l:List Nd},barePs l→∀ x∈l,x.bareP
 | y::r,h,x,hx=>(List.mem_cons.1 hx).elim (fun e=>e▸h.1) (fun hx=>uE h.2 x hx)
theorem wn:∀{l:List (Nd×Nd)},bareAs l→∀ q∈l,q.1.bareP∧q.2.bareE
 | (p,b)::r,h,x,hx=>(List.mem_cons.1 hx).elim (fun e=>e▸⟨h.1,h.2.1⟩) (fun hx=>wn h.2.2 x hx)
theorem arm_parts {p b:Option (List UInt8)} {t:List UInt8} (h:armV p b=some t):∃ u v,p=some u∧b=some v∧u.length≤t.length∧v.length≤t.length:=by
 cases p with
 | none=>cases h
 | some u =>
  cases b with
  | none=>cases h
  | some v =>
   have h:some (u++([32,45,62,32]++v))=some t:=h
   obtain rfl:=zc h
   exact⟨u,v,rfl,rfl,by simp only[List.length_append];omega,by simp only[List.length_append];omega⟩
theorem ok_all:∀ x:Nd,(x.bareE→(∀ s,showE x=some s→s.length≤4096→x.okE)∧(∀ s,showF [x]=some s→s.length≤4096→x.okE))∧(x.bareP→∀ s,showP x=some s→s.length≤4096→x.okP):=by
 refine xw fun h l a hl ha=>⟨fun hx=>?_,fun hx=>?_⟩
 · obtain⟨h1,h2⟩:=hx
   have arms_ok:∀ n,n≤4096→(∀ q∈(a.map fun q=>armV (showP q.1) (showE q.2)),∃ t,q=some t∧t.length≤n)→okAs a:=fun n hn hh=>okAs_of fun q hq=>by
    obtain⟨t,h3,h4⟩:=hh _ (List.mem_map.2 ⟨q,hq,rfl⟩)
    obtain⟨u,v,h5,h6,h7,h8⟩:=arm_parts h3
    exact⟨(ha q hq).1.2 (wn h2 q hq).1 u h5 (by omega),((ha q hq).2.1 (wn h2 q hq).2).1 v h6 (by omega)⟩
   have args_ok:∀ n,n≤4096→(∀ q∈l.map showE,∃ t,q=some t∧t.length≤n)→okEs l:=fun n hn hh=>zeH fun y hy=>by
    obtain⟨t,h3,h4⟩:=hh _ (List.mem_map.2 ⟨y,hy,rfl⟩)
    exact((hl y hy).1 (wh h1 y hy)).1 t h3 (by omega)
   refine⟨fun s hs hn=>?_,fun s hs hn=>?_⟩
   · have hs:exprV h (showEs l) (showAs a) (showF l)=some s:=hs
     rw[yf,yd] at hs
     unfold exprV at hs
     split at hs
     · have hh:=wm hs
       exact⟨wd hh.s hn,args_ok _ hn hh.args,arms_ok _ hn hh.arms⟩
     · have hh:=wm hs
       refine⟨wd hh.s hn,?_,arms_ok _ hn hh.arms⟩
       have hg:=hh.args
       split at hg
       · cases l with
         | nil=>trivial
         | cons x m =>
          have hg:∀ q∈showF (x::m)::m.map showE,∃ t,q=some t∧t.length≤s.length:=hg
          have e:showF (x::m)=showF [x]:=by cases x;rfl
          obtain⟨t,h3,h4⟩:=hg (showF (x::m)) (List.mem_cons_self ..)
          have h3:showF [x]=some t:=by rw[← e];exact h3
          refine⟨((hl x (by simp)).1 (wh h1 x (by simp))).2 t h3 (by omega),zeH fun y hy=>?_⟩
          obtain⟨t,h3,h4⟩:=hg _ (List.mem_cons_of_mem _ (List.mem_map.2 ⟨y,hy,rfl⟩))
          exact((hl y (by simp [hy])).1 (wh h1 y (by simp [hy]))).1 t h3 (by omega)
       · exact args_ok _ hn hg
   · have hs:funV h (showEs l) (showAs a)=some s:=hs
     rw[yf,yd] at hs
     unfold funV at hs
     split at hs
     · have hh:=wm hs
       exact⟨wd hh.s hn,args_ok _ hn hh.args,arms_ok _ hn hh.arms⟩
     · cases hs
 · obtain⟨rfl,h2⟩:=hx
   intro s hs hn
   have hs:patV h (showPs l)=some s:=hs
   rw[xD] at hs
   have args_ok:∀ n,n≤4096→(∀ q∈l.map showP,∃ t,q=some t∧t.length≤n)→okPs l:=fun n hn hh=>okPs_of fun y hy=>by
    obtain⟨t,h3,h4⟩:=hh _ (List.mem_map.2 ⟨y,hy,rfl⟩)
    exact(hl y hy).2 (uE h2 y hy) t h3 (by omega)
   unfold patV at hs
   split at hs
   · cases hs
   split at hs
   · have hh:=wm hs
     exact⟨wd hh.s hn,rfl,args_ok _ hn hh.args⟩
   · have hh:=wm hs
     exact⟨wd hh.s hn,rfl,args_ok _ hn hh.args⟩
mutual
theorem vO {w:World} {N:Nat→Prop}:∀{cs:List Value} {x:Nd},IsP w N cs x→x.bareP
 | cs,.mk h l a,h0=>by
  obtain⟨h1,vl,va,_,_,L,_,h5⟩:=h0
  exact⟨h1,zal h5⟩
theorem zal {w:World} {N:Nat→Prop}:∀{L:List (List Value)} {r:List Nd},IsPs w N L r→barePs r
 | [],[],_=>trivial
 | _::_,_::_,h=>⟨vO h.1,zal h.2⟩
 | [],_::_,h=>h.elim
 | _::_,[],h=>h.elim
end
mutual
theorem xP {w:World} {N:Nat→Prop}:∀{cs:List Value} {x:Nd},IsE w N cs x→x.bareE
 | cs,.mk h l a,h0=>by
  obtain⟨vl,va,vr,_,_,⟨L,_,h5⟩,M,_,h7⟩:=h0
  exact⟨zau h5,zav h7⟩
theorem zau {w:World} {N:Nat→Prop}:∀{L:List (List Value)} {r:List Nd},IsEs w N L r→bareEs r
 | [],[],_=>trivial
 | _::_,_::_,h=>⟨xP h.1,zau h.2⟩
 | [],_::_,h=>h.elim
 | _::_,[],h=>h.elim
theorem zav {w:World} {N:Nat→Prop}:∀{L:List (List Value)} {r:List (Nd×Nd)},IsAs w N L r→bareAs r
 | [],[],_=>trivial
 | _::_,(_,_)::_,⟨⟨_,_,_,h2,h3⟩,h4⟩=>⟨vO h2,xP h3,zav h4⟩
 | [],_::_,h=>h.elim
 | _::_,[],h=>h.elim
end
theorem zeE:∀ x:Nd,(showE x.er=showE x∧showF [x.er]=showF [x])∧showP x.er=showP x:=by
 refine xw fun h l a hl ha=>?_
 have h1:showEs (ersN l)=showEs l:=by
  rw[yf,yf,uK,List.map_map]
  exact List.map_congr_left fun y hy=>(hl y hy).1.1
 have h2:showPs (ersN l)=showPs l:=by
  rw[xD,xD,uK,List.map_map]
  exact List.map_congr_left fun y hy=>(hl y hy).2
 have h3:showAs (ersA a)=showAs a:=by
  rw[yd,yd,tu,List.map_map]
  exact List.map_congr_left fun q hq=>by
   show armV (showP q.1.er) (showE q.2.er)=_
   rw[(ha q hq).1.2,(ha q hq).2.1.1]
 have h4:showF (ersN l)=showF l:=by
  cases l with
  | nil=>rfl
  | cons x m =>
   have h5:=(hl x (by simp)).1.2
   have e:∀(y:Nd) (m:List Nd),showF (y::m)=showF [y]:=fun y m=>by cases y;rfl
   rw[ersN,e,e x m,h5]
 refine⟨⟨?_,?_⟩,?_⟩
 · show exprV h.er (showEs (ersN l)) (showAs (ersA a)) (showF (ersN l))=exprV h (showEs l) (showAs a) (showF l)
   rw[h1,h3,h4];rfl
 · show funV h.er (showEs (ersN l)) (showAs (ersA a))=funV h (showEs l) (showAs a)
   rw[h1,h3];rfl
 · show patV h.er (showPs (ersN l))=patV h (showPs l)
   rw[h2];rfl
theorem limV_er {x y:Nd} (h:x.er=y.er) (a b:Int):limV x a b=limV y a b:=by
 have h1:(x.parts 1).map (·.2)=(y.parts 1).map (·.2):=by rw[← Nd.parts_er,h,Nd.parts_er]
 have h2:(x.parts 1).length=(y.parts 1).length:=by simpa using congrArg List.length h1
 have h3:=qS (fun k=>decide (b<(k:Int))) h1
 have h4:(deepV b x).isSome=(deepV b y).isSome:=by
  unfold deepV
  rw[Option.isSome_map,Option.isSome_map]
  have:∀ o:Option (Int×Nat),o.isSome = !o.isNone:=fun o=>by cases o <;> rfl
  rw[this,this,h3]
 unfold limV
 rw[h2,h4]
theorem zck {x y:Nd} (h:x.er=y.er):ShowV x=ShowV y:=by
 unfold ShowV
 rw[limV_er h,← (zeE x).1.1,h,(zeE y).1.1]
theorem treeV_lim {x:Nd} (h:limV x 4096 200=0):treeV x=.ok x:=by
 unfold limV at h
 unfold treeV
 split at h
 · cases h
 · split at h
   · cases h
   · rename_i h1 h2
     rw[if_neg (by omega)]
     cases hd:deepV 200 x with
     | none=>rfl
     | some q=>rw[hd] at h2;exact absurd rfl h2
theorem lim_treeV {x:Nd} (h:treeV x=.ok x):limV x 4096 200=0:=by
 unfold treeV at h
 unfold limV
 split at h
 · cases h
 · cases hd:deepV 200 x with
   | none=>rw[if_neg (by omega)];rfl
   | some q=>rw[hd] at h;cases h
theorem tT {x:Nd} {t:List UInt8} (hb:x.bareE) (h:ShowV x=(t,0)):∃ y,ParseV t=.ok y∧y.er=x.er:=by
 unfold ShowV at h
 split at h
 · rename_i hl
   exact absurd (congrArg Prod.snd h) hl
 · rename_i hl
   have hl:limV x 4096 200=0:=by simpa using hl
   cases hs:showE x with
   | none=>rw[hs] at h;exact absurd (show(5:Int)=0 from congrArg Prod.snd h) (by decide)
   | some s =>
    rw[hs] at h
    have h:(if s.length≤4096 then(s,(0:Int)) else([],4))=(t,0):=h
    split at h
    · rename_i hn
      obtain rfl:s=t:=congrArg Prod.fst h
      obtain⟨W,hW,hO⟩:=((zb7 x).1 (((ok_all x).1 hb).1 s hs hn)).1 s hs
      have hR:=hO.opd.seq (u:=endT 0) (vS (by kernel_rfl)) []
      obtain⟨y,hy,hp⟩:=zb4 hW.e hn hR
      rw[treeV_lim (by rw[limV_er hy];exact hl)] at hp
      exact⟨y,hp,hy⟩
    · exact absurd (show(4:Int)=0 from congrArg Prod.snd h) (by decide)
theorem showV_err {x:Nd} (h:(ShowV x).2≠0):(ShowV x).1=[]:=by
 unfold ShowV at h ⊢
 split
 · rfl
 · rename_i hl
   rw[if_neg hl] at h
   cases hs:showE x with
   | none=>rfl
   | some s =>
    rw[hs] at h
    show(if s.length≤4096 then(s,(0:Int)) else([],4)).1=[]
    have h:(if s.length≤4096 then(s,(0:Int)) else([],4)).2≠0:=h
    split
    · rename_i hn
      rw[if_pos hn] at h
      exact absurd rfl h
    · rfl
theorem zdF {x y:Nd} {t u:List UInt8} (hx:x.bareE) (hy:y.bareE) (h:ShowV x=(t,0)) (h':ShowV y=(u,0)):t=u↔x.er=y.er:=by
 constructor
 · rintro rfl
   obtain⟨a,h1,h2⟩:=tT hx h
   obtain⟨b,h3,h4⟩:=tT hy h'
   rw[h1] at h3
   obtain rfl:=PV.ok.inj h3
   rw[← h2,h4]
 · intro e
   rw[zck e,h'] at h
   exact(congrArg Prod.fst h).symm
end
section
open Go.RowKit
def costV (h:Hd):Nat:=h.name.length+h.s.length+1
def longL:List (List UInt8)→Int→Int
 | [],n=>n
 | t::r,n=>if 0<n then longL r (n-((t.length:Int)+1)) else n
mutual
def longP:Nd→Int→Int
 | .mk h l _,n=>longPs l (longL h.labels (n-(costV h:Int)))
def longPs:List Nd→Int→Int
 | [],n=>n
 | x::r,n=>if 0<n then longPs r (longP x n) else n
end
mutual
def longE:Nd→Int→Int
 | .mk h l a,n=>longAs a (longEs l (longL h.labels (n-(costV h:Int))))
def longEs:List Nd→Int→Int
 | [],n=>n
 | x::r,n=>if 0<n then longEs r (longE x n) else n
def longAs:List (Nd×Nd)→Int→Int
 | [],n=>n
 | (p,b)::r,n=>if 0<n then longAs r (longE b (longP p n)) else n
end
theorem vh {ls:List (List UInt8)} {n:Int} (h:¬0<n):longL ls n=n:=by
 cases ls with
 | nil=>rfl
 | cons t r=>rw[longL,if_neg h]
theorem wv {l:List Nd} {n:Int} (h:¬0<n):longPs l n=n:=by
 cases l with
 | nil=>rfl
 | cons t r=>rw[longPs,if_neg h]
theorem wo {l:List Nd} {n:Int} (h:¬0<n):longEs l n=n:=by
 cases l with
 | nil=>rfl
 | cons t r=>rw[longEs,if_neg h]
theorem wA {l:List (Nd×Nd)} {n:Int} (h:¬0<n):longAs l n=n:=by
 cases l with
 | nil=>rfl
 | cons t r=>obtain⟨p,b⟩:=t;rw[longAs,if_neg h]
theorem zao {h:Hd} (hw:h.wide):(costV h:Int)≤281474976710657:=by
 have h1:=hw.name
 have h2:=hw.s
 unfold costV;omega
theorem vp:∀(ls:List (List UInt8)) (n:Int),(∀ l∈ls,l.length≤140737488355328)→min n (-140737488355329)≤longL ls n∧longL ls n≤n
 | [],n,_=>⟨by rw[longL];omega,by rw[longL];omega⟩
 | t::r,n,h=>by
  rw[longL]
  split
  · have h1:=h t (by simp)
    have h2:=vp r (n-((t.length:Int)+1)) fun l hl=>h l (by simp [hl])
    omega
  · omega
theorem vf:∀ x:Nd,x.wide→∀ n:Int,min n 0-281474976710657≤longP x n∧longP x n≤n:=by
 refine xw fun h l a hl _ hw n=>?_
 obtain⟨h1,h2,_⟩:=hw
 have hps:∀(l:List Nd),(∀ y∈l,y.wide∧∀ n:Int,min n 0-281474976710657≤longP y n∧longP y n≤n)→∀ n:Int,min n (-281474976710657)≤longPs l n∧longPs l n≤n:=by
  intro l
  induction l with
  | nil=>intro _ n;rw[longPs];omega
  | cons y r ih =>
   intro hy n
   rw[longPs]
   split
   · have h3:=(hy y (by simp)).2 n
     have h4:=ih (fun z hz=>hy z (by simp [hz])) (longP y n)
     omega
   · omega
 have hc:=zao h1
 have h5:=vp h.labels (n-(costV h:Int)) h1.labels
 have h6:=hps l (fun y hy=>⟨xG h2 y hy,hl y hy (xG h2 y hy)⟩) (longL h.labels (n-(costV h:Int)))
 show min n 0-281474976710657≤longPs l (longL h.labels (n-(costV h:Int)))∧longPs l (longL h.labels (n-(costV h:Int)))≤n
 by_cases hn:0<n-(costV h:Int)
 · omega
 · rw[vh hn,wv hn];omega
theorem uT:∀ x:Nd,x.wide→∀ n:Int,min n 0-562949953421314≤longE x n∧longE x n≤n∧(¬0<n→n-281474976710657≤longE x n):=by
 refine xw fun h l a hl ha hw n=>?_
 obtain⟨h1,h2,h3⟩:=hw
 have hes:∀(l:List Nd),(∀ y∈l,∀ n:Int,min n 0-562949953421314≤longE y n∧longE y n≤n)→∀ n:Int,min n (-562949953421314)≤longEs l n∧longEs l n≤n:=by
  intro l
  induction l with
  | nil=>intro _ n;rw[longEs];omega
  | cons y r ih =>
   intro hy n
   rw[longEs]
   split
   · have h3:=(hy y (by simp)) n
     have h4:=ih (fun z hz=>hy z (by simp [hz])) (longE y n)
     omega
   · omega
 have has:∀(l:List (Nd×Nd)),(∀ q∈l,q.1.wide∧∀ n:Int,min n 0-562949953421314≤longE q.2 n∧longE q.2 n≤n∧(¬0<n→n-281474976710657≤longE q.2 n))→∀ n:Int,min n (-562949953421314)≤longAs l n∧longAs l n≤n:=by
  intro l
  induction l with
  | nil=>intro _ n;rw[longAs];omega
  | cons q r ih =>
   obtain⟨p,b⟩:=q
   intro hy n
   rw[longAs]
   split
   · have h2:=vf p (hy (p,b) (by simp)).1 n
     have h3:=(hy (p,b) (by simp)).2 (longP p n)
     have h4:=ih (fun z hz=>hy z (by simp [hz])) (longE b (longP p n))
     dsimp only at h3
     by_cases h5:0<longP p n
     · omega
     · have:=h3.2.2 h5
       omega
   · omega
 have hc:=zao h1
 have h5:=vp h.labels (n-(costV h:Int)) h1.labels
 have h6:=hes l (fun y hy m=>⟨(hl y hy (xG h2 y hy) m).1,(hl y hy (xG h2 y hy) m).2.1⟩) (longL h.labels (n-(costV h:Int)))
 have h7:=has a (fun q hq=>⟨(xY h3 q hq).1,(ha q hq).2 (xY h3 q hq).2⟩) (longEs l (longL h.labels (n-(costV h:Int))))
 show min n 0-562949953421314≤longAs a (longEs l (longL h.labels (n-(costV h:Int))))∧longAs a (longEs l (longL h.labels (n-(costV h:Int))))≤n∧(¬0<n→n-281474976710657≤longAs a (longEs l (longL h.labels (n-(costV h:Int)))))
 by_cases hn:0<n-(costV h:Int)
 · refine⟨by omega,by omega,fun h=>by omega⟩
 · rw[vh hn,wo hn,wA hn]
   refine⟨by omega,by omega,fun h=>by omega⟩
def wtL:List (List UInt8)→Nat
 | []=>0
 | t::r=>t.length+1+wtL r
mutual
def Nd.wt:Nd→Nat
 | .mk h l a=>costV h+wtL h.labels+wtN l+wtA a
def wtN:List Nd→Nat
 | []=>0
 | x::r=>x.wt+wtN r
def wtA:List (Nd×Nd)→Nat
 | []=>0
 | (p,b)::r=>p.wt+b.wt+wtA r
end
theorem rA:∀(ls:List (List UInt8)) (n:Int),0<longL ls n→longL ls n=n-(wtL ls:Int)
 | [],n,_=>by rw[longL,wtL];omega
 | t::r,n,h=>by
  rw[longL] at h ⊢
  split at h
  · rename_i hn
    rw[if_pos hn,rA r _ h,wtL];omega
  · rename_i hn
    exact absurd h hn
theorem zcJ:∀ x:Nd,x.bareP→∀ n:Int,0<longP x n→longP x n=n-(x.wt:Int):=by
 refine xw fun h l a hl _ hb n hn=>?_
 obtain⟨rfl,hb⟩:=hb
 have hps:∀(l:List Nd),(∀ y∈l,∀ n:Int,0<longP y n→longP y n=n-(y.wt:Int))→∀ n:Int,0<longPs l n→longPs l n=n-(wtN l:Int):=by
  intro l
  induction l with
  | nil=>intro _ n _;rw[longPs,wtN];omega
  | cons y r ih =>
   intro hy n hn
   rw[longPs] at hn ⊢
   split at hn
   · rename_i h0
     by_cases h1:0<longP y n
     · rw[if_pos h0,ih (fun z hz=>hy z (by simp [hz])) _ hn,hy y (by simp) n h1,wtN];omega
     · rw[wv h1] at hn;exact absurd hn h1
   · rename_i h0;exact absurd hn h0
 have hn:0<longPs l (longL h.labels (n-(costV h:Int))):=hn
 have h1:=hps l (fun y hy=>hl y hy (uE hb y hy)) _ hn
 by_cases h2:0<longL h.labels (n-(costV h:Int))
 · show longPs l (longL h.labels (n-(costV h:Int)))=n-((costV h+wtL h.labels+wtN l+wtA []:Nat):Int)
   rw[h1,rA _ _ h2,wtA];omega
 · rw[wv h2] at hn;exact absurd hn h2
theorem longE_wt:∀ x:Nd,x.bareE→∀ n:Int,0<longE x n→longE x n=n-(x.wt:Int):=by
 refine xw fun h l a hl ha hb n hn=>?_
 obtain⟨hb,hb2⟩:=hb
 have hes:∀(l:List Nd),(∀ y∈l,∀ n:Int,0<longE y n→longE y n=n-(y.wt:Int))→∀ n:Int,0<longEs l n→longEs l n=n-(wtN l:Int):=by
  intro l
  induction l with
  | nil=>intro _ n _;rw[longEs,wtN];omega
  | cons y r ih =>
   intro hy n hn
   rw[longEs] at hn ⊢
   split at hn
   · rename_i h0
     by_cases h1:0<longE y n
     · rw[if_pos h0,ih (fun z hz=>hy z (by simp [hz])) _ hn,hy y (by simp) n h1,wtN];omega
     · rw[wo h1] at hn;exact absurd hn h1
   · rename_i h0;exact absurd hn h0
 have hle:∀(q:Nd) (n:Int),longE q n≤n:=by
  refine xw fun h l a hl ha n=>?_
  have e1:∀(l:List Nd),(∀ y∈l,∀ n:Int,longE y n≤n)→∀ n:Int,longEs l n≤n:=by
   intro l
   induction l with
   | nil=>intro _ n;rw[longEs];omega
   | cons y r ih =>
    intro hy n
    rw[longEs]
    split
    · have h1:=hy y (by simp) n
      have h2:=ih (fun z hz=>hy z (by simp [hz])) (longE y n)
      omega
    · omega
  have e0:∀(ls:List (List UInt8)) (n:Int),longL ls n≤n:=by
   intro ls
   induction ls with
   | nil=>intro n;rw[longL];omega
   | cons t r ih =>
    intro n
    rw[longL]
    split
    · have:=ih (n-((t.length:Int)+1));omega
    · omega
  have ep:∀(q:Nd) (n:Int),longP q n≤n:=by
   refine xw fun h l a hl ha n=>?_
   have e1:∀(l:List Nd),(∀ y∈l,∀ n:Int,longP y n≤n)→∀ n:Int,longPs l n≤n:=by
    intro l
    induction l with
    | nil=>intro _ n;rw[longPs];omega
    | cons y r ih =>
     intro hy n
     rw[longPs]
     split
     · have h1:=hy y (by simp) n
       have h2:=ih (fun z hz=>hy z (by simp [hz])) (longP y n)
       omega
     · omega
   have h1:=e0 h.labels (n-(costV h:Int))
   have h2:=e1 l hl (longL h.labels (n-(costV h:Int)))
   show longPs l (longL h.labels (n-(costV h:Int)))≤n
   omega
  have e2:∀(l:List (Nd×Nd)),(∀ q∈l,∀ n:Int,longE q.2 n≤n)→∀ n:Int,longAs l n≤n:=by
   intro l
   induction l with
   | nil=>intro _ n;rw[longAs];omega
   | cons q r ih =>
    obtain⟨p,b⟩:=q
    intro hy n
    rw[longAs]
    split
    · have h0:=ep p n
      have h1:=hy (p,b) (by simp) (longP p n)
      have h2:=ih (fun z hz=>hy z (by simp [hz])) (longE b (longP p n))
      dsimp only at h1
      omega
    · omega
  have h1:=e0 h.labels (n-(costV h:Int))
  have h2:=e1 l hl (longL h.labels (n-(costV h:Int)))
  have h3:=e2 a (fun q hq=>(ha q hq).2) (longEs l (longL h.labels (n-(costV h:Int))))
  show longAs a (longEs l (longL h.labels (n-(costV h:Int))))≤n
  omega
 have has:∀(l:List (Nd×Nd)),(∀ q∈l,q.1.bareP∧∀ n:Int,0<longE q.2 n→longE q.2 n=n-(q.2.wt:Int))→∀ n:Int,0<longAs l n→longAs l n=n-(wtA l:Int):=by
  intro l
  induction l with
  | nil=>intro _ n _;rw[longAs,wtA];omega
  | cons q r ih =>
   obtain⟨p,b⟩:=q
   intro hy n hn
   rw[longAs] at hn ⊢
   split at hn
   · rename_i h0
     by_cases h1:0<longE b (longP p n)
     · have h2:=hle b (longP p n)
       have h5:longE b (longP p n)=longP p n-(b.wt:Int):=(hy (p,b) (by simp)).2 _ h1
       rw[if_pos h0,ih (fun z hz=>hy z (by simp [hz])) _ hn,h5,zcJ p (hy (p,b) (by simp)).1 n (by omega),wtA];omega
     · rw[wA h1] at hn;exact absurd hn h1
   · rename_i h0;exact absurd hn h0
 have hn:0<longAs a (longEs l (longL h.labels (n-(costV h:Int)))):=hn
 have h3:=has a (fun q hq=>⟨(wn hb2 q hq).1,(ha q hq).2 (wn hb2 q hq).2⟩) _ hn
 by_cases h4:0<longEs l (longL h.labels (n-(costV h:Int)))
 · have h1:=hes l (fun y hy=>hl y hy (wh hb y hy)) _ h4
   by_cases h2:0<longL h.labels (n-(costV h:Int))
   · show longAs a (longEs l (longL h.labels (n-(costV h:Int))))=n-((costV h+wtL h.labels+wtN l+wtA a:Nat):Int)
     rw[h3,h1,rA _ _ h2];omega
   · rw[wo h2] at h4;exact absurd h4 h2
 · rw[wA h4] at hn;exact absurd hn h4
theorem wtL_mem:∀{ls:List (List UInt8)} {l:List UInt8},l∈ls→l.length<wtL ls
 | t::r,l,h=>by
  rw[wtL]
  rcases List.mem_cons.1 h with rfl | h
  · omega
  · have:=wtL_mem h;omega
theorem wtL_len:∀ ls:List (List UInt8),ls.length≤wtL ls
 | []=>Nat.le_refl _
 | t::r=>by have:=wtL_len r;rw[wtL,List.length_cons];omega
theorem Nd.wt_pos (x:Nd):1≤x.wt:=by
 cases x with
 | mk h l a=>show 1≤costV h+wtL h.labels+wtN l+wtA a;unfold costV;omega
theorem wtN_len:∀ l:List Nd,l.length≤wtN l
 | []=>Nat.le_refl _
 | x::r=>by have:=wtN_len r;have:=x.wt_pos;rw[wtN,List.length_cons];omega
theorem wtA_len:∀ l:List (Nd×Nd),l.length≤wtA l
 | []=>Nat.le_refl _
 | (p,b)::r=>by have:=wtA_len r;have:=p.wt_pos;rw[wtA,List.length_cons];omega
theorem zeN:∀{l:List Nd} {x:Nd},x∈l→x.wt≤wtN l
 | y::r,x,h=>by
  rw[wtN]
  rcases List.mem_cons.1 h with rfl | h
  · omega
  · have:=zeN h;omega
theorem wtA_mem:∀{l:List (Nd×Nd)} {q:Nd×Nd},q∈l→q.1.wt+q.2.wt≤wtA l
 | (p,b)::r,q,h=>by
  rw[wtA]
  rcases List.mem_cons.1 h with rfl | h
  · show p.wt+b.wt≤_;omega
  · have:=wtA_mem h;omega
mutual
theorem vI (d:Nat):∀ x:Nd,(x.parts d).length≤x.wt
 | .mk h l a=>by
  show((h.pos,d)::(partsN (d+1) l++partsA (d+1) a)).length≤costV h+wtL h.labels+wtN l+wtA a
  have h1:=zar (d+1) l
  have h2:=za1 (d+1) a
  rw[List.length_cons,List.length_append]
  unfold costV;omega
theorem zar (d:Nat):∀ l:List Nd,(partsN d l).length≤wtN l
 | []=>Nat.le_refl _
 | x::r=>by
  show(x.parts d++partsN d r).length≤x.wt+wtN r
  have h1:=vI d x
  have h2:=zar d r
  rw[List.length_append];omega
theorem za1 (d:Nat):∀ l:List (Nd×Nd),(partsA d l).length≤wtA l
 | []=>Nat.le_refl _
 | (p,b)::r=>by
  show(p.parts d++(b.parts d++partsA d r)).length≤p.wt+b.wt+wtA r
  have h1:=vI d p
  have h2:=vI d b
  have h3:=za1 d r
  rw[List.length_append,List.length_append];omega
end
theorem zbb:∀{l:List Nd},(∀ x∈l,x.fit)→fitN l
 | [],_=>trivial
 | x::r,h=>⟨h x (by simp),zbb fun y hy=>h y (by simp [hy])⟩
theorem zbh:∀{l:List (Nd×Nd)},(∀ x∈l,x.1.fit∧x.2.fit)→fitA l
 | [],_=>trivial
 | (p,b)::r,h=>⟨(h (p,b) (by simp)).1,(h (p,b) (by simp)).2,zbh fun y hy=>h y (by simp [hy])⟩
theorem wt_fit:∀ x:Nd,x.wide→x.wt≤65536→x.fit:=by
 refine xw fun h l a hl ha hw hn=>?_
 obtain⟨h1,h2,h3⟩:=hw
 have hn:costV h+wtL h.labels+wtN l+wtA a≤65536:=hn
 have e1:=wtL_len h.labels
 have e2:=wtN_len l
 have e3:=wtA_len a
 have e4:costV h=h.name.length+h.s.length+1:=rfl
 refine⟨⟨by omega,by omega,by omega,fun t ht=>?_,h1.n.1,h1.n.2⟩,by omega,by omega,zbb fun x hx=>?_,zbh fun q hq=>?_⟩
 · have:=wtL_mem ht;omega
 · have:=zeN hx
   exact hl x hx (xG h2 x hx) (by omega)
 · have:=wtA_mem hq
   exact⟨(ha q hq).1 (xY h3 q hq).1 (by omega),(ha q hq).2 (xY h3 q hq).2 (by omega)⟩
theorem zaP {x:Nd} (hw:x.wide) (hb:x.bareE) (h:0<longE x 65536):x.fit∧(x.parts 1).length≤70000:=by
 have h1:=longE_wt x hb 65536 h
 have h2:=vI 1 x
 exact⟨wt_fit x hw (by omega),by omega⟩
theorem zac {x:Nd} (hw:x.wide) (hb:x.bareP) (h:0<longP x 65536):x.fit∧x.wt≤65536:=by
 have h1:=zcJ x hb 65536 h
 exact⟨wt_fit x hw (by omega),by omega⟩
end
section
open Go.RowKit
def small (l:List UInt8):Prop:=l.length≤4096
def smalls (l:List (List UInt8)):Prop:=∀ x∈l,small x
def rng (n:Int):Prop:=-9223372036854775808≤n∧n≤9223372036854775807
def tame (h:Hd):Prop:=small h.name∧small h.s∧smalls h.labels∧rng h.n
theorem yU:small []:=by unfold small;simp
theorem xC:smalls []:=fun x hx=>by cases hx
theorem zcd {l:List (List UInt8)} {x:List UInt8} (h:smalls l) (hx:small x):smalls (l++[x]):=fun y hy=>by
 rcases List.mem_append.1 hy with hy | hy
 · exact h y hy
 · obtain rfl:=List.mem_singleton.1 hy
   exact hx
theorem xA (n:Int) (h:(decide (-9223372036854775808≤n)&&decide (n≤9223372036854775807))=true):rng n:=by
 rw[Bool.and_eq_true,decide_eq_true_eq,decide_eq_true_eq] at h;exact h
theorem rng_ite {p:Prop} [Decidable p] {a b:Int} (ha:rng a) (hb:rng b):rng (if p then a else b):=by
 split
 · exact ha
 · exact hb
theorem zcO (x:List UInt8):rng (opOf x):=by
 unfold opOf
 repeat' refine rng_ite ?_ ?_
 all_goals exact xA _ (by decide)
mutual
def Nd.tm:Nd→Prop
 | .mk h l a=>tame h∧h.labels.length≤l.length∧tmN l∧tmA a
def tmN:List Nd→Prop
 | []=>True
 | x::r=>x.tm∧tmN r
def tmA:List (Nd×Nd)→Prop
 | []=>True
 | (p,b)::r=>p.tm∧b.tm∧tmA r
end
theorem rQ (l r:List Nd):tmN (l++r)↔tmN l∧tmN r:=by
 induction l with
 | nil=>show tmN r↔True∧tmN r;simp
 | cons x l ih=>show x.tm∧tmN (l++r)↔(x.tm∧tmN l)∧tmN r;rw[ih,and_assoc]
theorem zdD (l r:List (Nd×Nd)):tmA (l++r)↔tmA l∧tmA r:=by
 induction l with
 | nil=>show tmA r↔True∧tmA r;simp
 | cons x l ih=>show x.1.tm∧x.2.tm∧tmA (l++r)↔(x.1.tm∧x.2.tm∧tmA l)∧tmA r;rw[ih];simp [and_assoc]
theorem tmN_mem:∀{l:List Nd},tmN l→∀ x∈l,x.tm
 | y::r,h,x,hx=>(List.mem_cons.1 hx).elim (fun e=>e▸h.1) (fun hx=>tmN_mem h.2 x hx)
theorem zbd:∀{l:List (Nd×Nd)},tmA l→∀ q∈l,q.1.tm∧q.2.tm
 | (p,b)::r,h,x,hx=>(List.mem_cons.1 hx).elim (fun e=>e▸⟨h.1,h.2.1⟩) (fun hx=>zbd h.2.2 x hx)
def TokT (t:Tok):Prop:=small t.1.text∧0≤t.1.n∧t.1.n≤4611686018427387903
theorem zQ (k pos:Int) {n:Int} {l:List Nd} {a:List (Nd×Nd)} (hn:rng n) (hl:tmN l) (ha:tmA a):(Nd.mk ⟨k,pos,[],n,[],[]⟩ l a).tm:=⟨⟨yU,yU,xC,hn⟩,Nat.zero_le _,hl,ha⟩
theorem yN (k pos:Int) {n:Int} {nm:List UInt8} {l:List Nd} {a:List (Nd×Nd)} (hx:small nm) (hn:rng n) (hl:tmN l) (ha:tmA a):(Nd.mk ⟨k,pos,nm,n,[],[]⟩ l a).tm:=⟨⟨hx,yU,xC,hn⟩,Nat.zero_le _,hl,ha⟩
theorem tm_rec (k pos:Int) {ls:List (List UInt8)} {l:List Nd} (hs:smalls ls) (hc:ls.length=l.length) (hl:tmN l):(Nd.mk ⟨k,pos,[],0,[],ls⟩ l []).tm:=⟨⟨yU,yU,hs,show rng 0 from xA 0 (by decide)⟩,Nat.le_of_eq hc,hl,trivial⟩
theorem yC (k:Int) (x:List UInt8):rng (if k=19 then opOf x else 0):=by
 split
 · exact zcO x
 · exact xA _ (by decide)
theorem tm1 {a:Nd} (h:a.tm):tmN [a]:=⟨h,trivial⟩
theorem tm2 {a b:Nd} (h:a.tm) (h':b.tm):tmN [a,b]:=⟨h,h',trivial⟩
theorem tm3 {a b c:Nd} (h:a.tm) (h':b.tm) (h'':c.tm):tmN [a,b,c]:=⟨h,h',h'',trivial⟩
theorem leafE_tm {t:Tok} (h:TokT t):(leafE t).tm:=by
 have hn:rng t.1.n:=⟨by have:=h.2.1;omega,by have:=h.2.2;omega⟩
 have z:rng 0:=xA _ (by decide)
 unfold leafE
 repeat' split
 · exact yN 1 _ h.1 z trivial trivial
 · exact yN 6 _ h.1 z trivial trivial
 · exact zQ 2 _ hn trivial trivial
 · exact⟨⟨yU,h.1,xC,z⟩,Nat.zero_le _,trivial,trivial⟩
 · exact zQ 4 _ (xA _ (by decide)) trivial trivial
 · exact zQ 4 _ (xA _ (by decide)) trivial trivial
theorem leafP_tm {t:Tok} (h:TokT t):(leafP t).tm:=by
 have hn:rng t.1.n:=⟨by have:=h.2.1;omega,by have:=h.2.2;omega⟩
 have z:rng 0:=xA _ (by decide)
 unfold leafP
 repeat' split
 · exact zQ 1 _ z trivial trivial
 · exact yN 2 _ h.1 z trivial trivial
 · exact yN 7 _ h.1 z trivial trivial
 · exact zQ 3 _ hn trivial trivial
 · exact⟨⟨yU,h.1,xC,z⟩,Nat.zero_le _,trivial,trivial⟩
 · exact zQ 5 _ (xA _ (by decide)) trivial trivial
 · exact zQ 5 _ (xA _ (by decide)) trivial trivial
def Md.holdT:Md→Prop
 | .arms l=>tmA l
 | .lvl _ e | .apps e | .dots e=>e.tm
 | .posts _ l=>tmN l
 | .field _ ls l=>smalls ls∧ls.length=l.length∧tmN l
 | _=>True
def Md.madeT:Md→Nd→Prop
 | .posts _ _,x=>tmN x.args
 | .field _ _ _,x | .fields _,x=>smalls x.hd.labels∧x.hd.labels.length=x.args.length∧tmN x.args
 | .arms _,x=>tmA x.arms
 | _,x=>x.tm
def PM.tmd (o:Md):PM→Prop
 | .ret x=>o.madeT x
 | .fail=>True
 | .call m k=>m.holdT∧∀ x,m.madeT x→PM.tmd o (k x)
 | .acc p yes no=>(∀ t:Tok,TokT t→PM.tmd o (yes t))∧PM.tmd o no
 | .look _ yes no=>PM.tmd o yes∧PM.tmd o no
 | .look2 _ _ yes no=>PM.tmd o yes∧PM.tmd o no
theorem yW {o:Md} {p:Prop} [Decidable p] {x y:PM} (hx:x.tmd o) (hy:y.tmd o):(if p then x else y).tmd o:=by
 split
 · exact hx
 · exact hy
theorem step_tmd (m:Md) (hm:m.holdT):(step m).tmd m:=by
 have z:rng 0:=xA _ (by decide)
 cases m
 case text=>exact⟨trivial,fun x hx=>⟨hx,trivial⟩⟩
 case seq=>exact⟨trivial,fun a ha=>⟨fun t _=>⟨trivial,fun b hb=>zQ 20 _ (yC 20 _) (tm2 ha hb) trivial⟩,ha⟩⟩
 case item=>exact⟨⟨trivial,fun x hx=>hx⟩,fun t _=>yW ⟨trivial,fun x hx=>hx⟩ (yW ⟨trivial,fun x hx=>hx⟩ (yW ⟨trivial,fun x hx=>hx⟩ (yW ⟨trivial,fun x hx=>hx⟩ ⟨trivial,fun x hx=>zQ 18 _ (yC 18 _) (tm1 hx) trivial⟩))),trivial,fun x hx=>hx⟩
 case fn=>exact⟨fun t _=>⟨fun u hu=>⟨fun v _=>⟨trivial,fun e he=>yN 7 _ hu.1 (yC 7 _) (tm1 he) trivial⟩,trivial⟩,trivial⟩,trivial⟩
 case letb t=>exact⟨fun _ _=>⟨fun u hu=>⟨fun v _=>⟨trivial,fun a ha=>⟨fun w _=>⟨trivial,fun b hb=>yN 10 _ hu.1 (yC 10 _) (tm2 ha hb) trivial⟩,trivial⟩⟩,trivial⟩,trivial⟩,⟨fun u hu=>⟨fun v _=>⟨trivial,fun a ha=>⟨fun w _=>⟨trivial,fun b hb=>yN 9 _ hu.1 (yC 9 _) (tm2 ha hb) trivial⟩,trivial⟩⟩,trivial⟩,trivial⟩⟩
 case cases k t=>exact⟨trivial,fun e he=>⟨fun u _=>⟨trivial,fun r hr=>zQ k _ z (tm1 he) hr⟩,trivial⟩⟩
 case arms l =>
  have hl:∀ p b:Nd,p.tm→b.tm→tmA (l++[(p,b)]):=fun p b hp hb=>(zdD _ _).2 ⟨hm,hp,hb,trivial⟩
  exact⟨trivial,fun p hp=>⟨fun t _=>⟨trivial,fun b hb=>⟨fun u _=>yW (hl p b hp hb) ⟨hl p b hp hb,fun x hx=>hx⟩,trivial⟩⟩,trivial⟩⟩
 case choice t=>exact⟨trivial,fun a ha=>⟨fun _ _=>⟨trivial,fun b hb=>⟨fun _ _=>⟨trivial,fun c hc=>zQ 11 _ (yC 11 _) (tm3 ha hb hc) trivial⟩,trivial⟩⟩,trivial⟩⟩
 case asg=>exact⟨trivial,fun a ha=>⟨fun t _=>⟨trivial,fun b hb=>zQ 19 _ (yC 19 _) (tm2 ha hb) trivial⟩,ha⟩⟩
 case level n=>exact yW ⟨trivial,fun x hx=>hx⟩ ⟨trivial,fun x hx=>⟨hx,fun y hy=>hy⟩⟩
 case lvl n a=>exact⟨fun t _=>yW ⟨trivial,fun b hb=>zQ 19 _ (yC 19 _) (tm2 hm hb) trivial⟩ (yW ⟨trivial,fun b hb=>zQ _ _ (yC _ _) (tm2 hm hb) trivial⟩ ⟨trivial,fun b hb=>⟨zQ 19 _ (yC 19 _) (tm2 hm hb) trivial,fun x hx=>hx⟩⟩),hm⟩
 case unary=>exact⟨fun t _=>⟨trivial,fun a ha=>zQ 19 _ (by split;exact xA _ (by decide);exact zcO _) (tm1 ha) trivial⟩,trivial,fun x hx=>hx⟩
 case app=>exact⟨fun t ht=>⟨trivial,fun a ha=>yN 15 _ ht.1 (yC 15 _) (tm1 ha) trivial⟩,⟨fun t _=>⟨trivial,fun r hr=>zQ 19 _ (yC 19 _) hr trivial⟩,⟨fun t _=>⟨trivial,fun r hr=>zQ 19 _ (yC 19 _) hr trivial⟩,⟨fun t _=>⟨trivial,fun r hr=>zQ 19 _ (yC 19 _) hr trivial⟩,trivial,fun x hx=>⟨hx,fun y hy=>hy⟩⟩⟩⟩⟩
 case apps e=>exact⟨⟨trivial,fun b hb=>⟨zQ 8 _ z (tm2 hm hb) trivial,fun x hx=>hx⟩⟩,hm⟩
 case posts n l=>exact yW hm ⟨trivial,fun x hx=>⟨(rQ _ _).2 ⟨hm,hx,trivial⟩,fun y hy=>hy⟩⟩
 case post=>exact⟨fun t _=>⟨trivial,fun a ha=>zQ 19 _ (yC 19 _) (tm1 ha) trivial⟩,⟨trivial,fun x hx=>⟨hx,fun y hy=>hy⟩⟩⟩
 case dots e=>exact⟨fun t _=>⟨fun u hu=>⟨yN 14 _ hu.1 (yC 14 _) (tm1 hm) trivial,fun x hx=>hx⟩,trivial⟩,hm⟩
 case atom=>exact⟨fun t ht=>leafE_tm ht,⟨fun t _=>yW ⟨trivial,fun x hx=>hx⟩ ⟨fun u _=>zQ 5 _ (yC 5 _) trivial trivial,⟨trivial,fun e he=>⟨fun _ _=>he,trivial⟩⟩⟩,trivial⟩⟩
 case braces t =>
  have hrec:(recordB t).tmd (.braces t):=⟨trivial,fun r hr=>tm_rec 12 _ hr.1 hr.2.1 hr.2.2⟩
  exact⟨hrec,hrec,⟨trivial,fun o ho=>⟨fun _ _=>⟨fun u hu=>⟨fun _ _=>⟨trivial,fun v hv=>⟨fun _ _=>yN 13 _ hu.1 (yC 13 _) (tm2 ho hv) trivial,trivial⟩⟩,trivial⟩,trivial⟩,trivial⟩⟩⟩
 case fields b=>exact⟨fun _ _=>⟨xC,rfl,trivial⟩,⟨⟨xC,rfl,trivial⟩,fun x hx=>hx⟩⟩
 case field b ls l =>
  obtain⟨h1,h2,h3⟩:=hm
  refine⟨fun u hu=>⟨fun _ _=>⟨by cases b <;> trivial,fun v hv=>⟨fun t _=>?_,trivial⟩⟩,trivial⟩,trivial⟩
  have hv:v.tm:=by cases b <;> exact hv
  have k1:(ls++[u.1.text]).length=(l++[v]).length:=by rw[List.length_append,List.length_append,h2];rfl
  have k2:=zcd h1 hu.1
  have k3:tmN (l++[v]):=(rQ _ _).2 ⟨h3,hv,trivial⟩
  exact yW ⟨k2,k1,k3⟩ ⟨⟨k2,k1,k3⟩,fun x hx=>hx⟩
 case pat=>exact⟨fun t ht=>⟨trivial,fun q hq=>yN 8 _ ht.1 z (tm1 hq) trivial⟩,trivial,fun x hx=>hx⟩
 case patom=>exact⟨fun t ht=>leafP_tm ht,⟨fun t _=>yW ⟨fun u hu=>zQ 3 _ ⟨by have:=hu.2;omega,by have:=hu.2;omega⟩ trivial trivial,trivial⟩ (yW ⟨trivial,fun r hr=>tm_rec 9 _ hr.1 hr.2.1 hr.2.2⟩ ⟨fun _ _=>zQ 6 _ z trivial trivial,⟨trivial,fun q hq=>⟨fun _ _=>hq,trivial⟩⟩⟩),trivial⟩⟩
theorem xL {o:Md} {rec:Md→List Tok→PR} (hr:∀ m T x R,m.holdT→(∀ t∈T,TokT t)→rec m T=.ok x R→m.madeT x∧∀ t∈R,TokT t):∀(pm:PM) (T:List Tok),pm.tmd o→(∀ t∈T,TokT t)→∀ x R,exec rec pm T=.ok x R→o.madeT x∧∀ t∈R,TokT t
 | .ret y,T,h,hT,x,R,he=>by
  obtain⟨rfl,rfl⟩:=PR.ok.inj he
  exact⟨h,hT⟩
 | .fail,_,_,_,_,_,he=>by cases he
 | .call m k,T,h,hT,x,R,he=>by
  rw[exec] at he
  cases hm:rec m T with
  | ok y U =>
   rw[hm] at he
   obtain⟨h1,h2⟩:=hr m T y U h.1 hT hm
   exact xL hr (k y) U (h.2 y h1) h2 x R he
  | bad U=>rw[hm] at he;cases he
  | out=>rw[hm] at he;cases he
 | .acc p yes no,[],h,hT,x,R,he=>by cases he
 | .acc p yes no,t::U,h,hT,x,R,he=>by
  rw[exec] at he
  split at he
  · exact xL hr (yes t) U (h.1 t (hT t (by simp))) (fun u hu=>hT u (by simp [hu])) x R he
  · exact xL hr no (t::U) h.2 hT x R he
 | .look p yes no,[],h,hT,x,R,he=>by cases he
 | .look p yes no,t::U,h,hT,x,R,he=>by
  rw[exec] at he
  split at he
  · exact xL hr yes (t::U) h.1 hT x R he
  · exact xL hr no (t::U) h.2 hT x R he
 | .look2 p q yes no,[],h,hT,x,R,he=>by cases he
 | .look2 p q yes no,t::U,h,hT,x,R,he=>by
  rw[exec] at he
  split at he
  · exact xL hr yes (t::U) h.1 hT x R he
  · exact xL hr no (t::U) h.2 hT x R he
theorem run_tmd:∀(f:Nat) (m:Md) (T:List Tok) (x:Nd) (R:List Tok),m.holdT→(∀ t∈T,TokT t)→run f m T=.ok x R→m.madeT x∧∀ t∈R,TokT t
 | 0,_,_,_,_,_,_,h=>by cases h
 | f+1,m,T,x,R,h,hT,he=>xL (fun m T x R h hT he=>run_tmd f m T x R h hT he) (step m) T (step_tmd m h) hT x R he
theorem tokT_of {l:List UInt8} {t:TK} {n:Nat} (h:oneV l=.tok t n) (hl:l.length≤4096):TokT (t,0):=by
 have h34:=yG h
 cases l with
 | nil=>cases h
 | cons c r =>
  rw[zC] at h
  have hn:=yz (c::r)
  have hr:=yz r
  rw[List.length_cons] at hl hn
  have z:∀(k:Int) (nm:List UInt8),small nm→TokT (⟨k,nm,0⟩,0):=fun k nm h=>⟨h,Int.le_refl _,by show(0:Int)≤_;decide⟩
  split at h
  · obtain⟨rfl,rfl⟩:=OneR.tok.inj h
    exact z _ _ (by unfold small;omega)
  split at h
  · obtain⟨rfl,rfl⟩:=OneR.tok.inj h
    exact z _ _ (by unfold small;omega)
  split at h
  · unfold tagTok at h
    split at h
    · obtain⟨rfl,rfl⟩:=OneR.tok.inj h
      exact z _ _ (by unfold small;omega)
    · cases h
  split at h
  · unfold intTok at h
    split at h
    · obtain⟨rfl,rfl⟩:=OneR.tok.inj h
      exact⟨yU,vH _⟩
    · cases h
  split at h
  · unfold strTok at h
    split at h
    · obtain⟨rfl,rfl⟩:=OneR.tok.inj h
      refine z _ _ ?_
      have h5:=congrArg List.length h34.1
      have h6:tokText ⟨5,(UnqV ((c::r).take (qsize (c::r)))).1,0⟩=qall (UnqV ((c::r).take (qsize (c::r)))).1:=rfl
      rw[h6,List.length_take,List.length_cons] at h5
      have h7:=zb8 (UnqV ((c::r).take (qsize (c::r)))).1
      unfold small;omega
    · cases h
  · unfold signTok at h
    split at h
    · rename_i s hs
      obtain⟨rfl,rfl⟩:=OneR.tok.inj h
      have:=(zaH s (List.mem_of_find?_eq_some hs)).2.2
      exact z _ _ (by unfold small;omega)
    · cases h
theorem zev (p:Nat) (l:List UInt8):l.length≤4096→∀ T,lexGo p 0 l=.ok T→∀ x∈T,TokT x:=by
 refine yu (fun p l=>l.length≤4096→∀ T,lexGo p 0 l=.ok T→∀ x∈T,TokT x) ?_ ?_ ?_ ?_ l.length p l (Nat.le_refl _)
 · intro p _ T h x hx
   obtain rfl:[]=T:=LR.ok.inj h
   cases hx
 · intro p c r hc ih hl T h
   rw[zN hc] at h
   exact ih (by rw[List.length_cons] at hl;omega) T h
 · intro p c r e hc h hl T hT
   rw[yi hc _ h] at hT;cases hT
 · intro p c r t n hc h ih hl T hT x hx
   rw[zY hc _ h] at hT
   obtain⟨U,hU,rfl⟩:=LR.add_ok hT
   rcases List.mem_append.1 hx with hx | hx
   · obtain rfl:=List.mem_singleton.1 hx
     exact tokT_of h hl
   · exact ih (by rw[List.length_drop];omega) U hU x hx
theorem zaT (d:Nat):∀ l:List Nd,l.length≤(partsN d l).length
 | []=>Nat.le_refl _
 | x::r=>by
  show r.length+1≤(x.parts d++partsN d r).length
  have h1:=zaT d r
  have h2:1≤(x.parts d).length:=by
   cases x with
   | mk h l a=>show 1≤((h.pos,d)::(partsN (d+1) l++partsA (d+1) a)).length;rw[List.length_cons];omega
  rw[List.length_append];omega
theorem zag (d:Nat):∀ l:List (Nd×Nd),l.length≤(partsA d l).length
 | []=>Nat.le_refl _
 | (p,b)::r=>by
  show r.length+1≤(p.parts d++(b.parts d++partsA d r)).length
  have h1:=zag d r
  have h2:1≤(p.parts d).length:=by
   cases p with
   | mk h l a=>show 1≤((h.pos,d)::(partsN (d+1) l++partsA (d+1) a)).length;rw[List.length_cons];omega
  rw[List.length_append,List.length_append];omega
theorem zaI (d:Nat):∀{l:List Nd} {x:Nd},x∈l→(x.parts d).length≤(partsN d l).length
 | y::r,x,h=>by
  show _≤(y.parts d++partsN d r).length
  rw[List.length_append]
  rcases List.mem_cons.1 h with rfl | h
  · omega
  · have:=zaI d h;omega
theorem zaC (d:Nat):∀{l:List (Nd×Nd)} {q:Nd×Nd},q∈l→(q.1.parts d).length≤(partsA d l).length∧(q.2.parts d).length≤(partsA d l).length
 | (p,b)::r,q,h=>by
  show _≤(p.parts d++(b.parts d++partsA d r)).length∧_≤(p.parts d++(b.parts d++partsA d r)).length
  rw[List.length_append,List.length_append]
  rcases List.mem_cons.1 h with rfl | h
  · show(p.parts d).length≤_∧(b.parts d).length≤_
    exact⟨by omega,by omega⟩
  · have:=zaC d h;omega
theorem tm_fit:∀ x:Nd,∀ d:Nat,x.tm→(x.parts d).length≤4096→x.fit:=by
 refine xw fun h l a hl ha d hx hn=>?_
 obtain⟨⟨h1,h2,h3,h4⟩,h5,h6,h7⟩:=hx
 have hn:((h.pos,d)::(partsN (d+1) l++partsA (d+1) a)).length≤4096:=hn
 rw[List.length_cons,List.length_append] at hn
 have e1:=zaT (d+1) l
 have e2:=zag (d+1) a
 unfold small at h1 h2
 refine⟨⟨by omega,by omega,by omega,fun t ht=>?_,h4.1,h4.2⟩,by omega,by omega,zbb fun y hy=>?_,zbh fun q hq=>?_⟩
 · have:=h3 t ht
   unfold small at this;omega
 · have:=zaI (d+1) hy
   exact hl y hy (d+1) (tmN_mem h6 y hy) (by omega)
 · have:=zaC (d+1) hq
   exact⟨(ha q hq).1 (d+1) (zbd h7 q hq).1 (by omega),(ha q hq).2 (d+1) (zbd h7 q hq).2 (by omega)⟩
theorem zaK {l:List UInt8} {x:Nd} (h:ParseV l=.ok x):limV x 4096 200=0:=by
 rcases wu l with⟨e,q',h1,h2⟩ | ⟨X,hX,hl,hV,⟨z,hz,h2⟩ | ⟨A,t,B,hT,hv,h2⟩⟩
 · rw[h2] at h;cases h
 · rw[h2] at h
   have hzx:z=x:=by
    rcases wk z with h3 | h3 | ⟨_,h3⟩ <;> rw[h3] at h <;> cases h
    rfl
   subst hzx
   exact lim_treeV h
 · rw[h2] at h;cases h
theorem vV {l:List UInt8} {x:Nd} (h:ParseV l=.ok x):x.fit∧(x.parts 1).length≤70000:=by
 have hlim:=zaK h
 have hp:(x.parts 1).length≤4096:=by
  unfold limV at hlim
  split at hlim
  · cases hlim
  · omega
 rcases wu l with⟨e,q',h1,h2⟩ | ⟨X,hX,hl,hV,⟨z,hz,h2⟩ | ⟨A,t,B,hT,hv,h2⟩⟩
 · rw[h2] at h;cases h
 · rw[h2] at h
   have hzx:z=x:=by
    rcases wk z with h3 | h3 | ⟨_,h3⟩ <;> rw[h3] at h <;> cases h
    rfl
   subst hzx
   refine⟨tm_fit z 1 (run_tmd _ .text _ z _ trivial (fun t ht=>?_) hz).1 hp,by omega⟩
   rcases List.mem_append.1 ht with ht | ht
   · exact zev 0 l hl X hX t ht
   · obtain rfl:=List.mem_singleton.1 ht
     exact⟨yU,Int.le_refl _,by show(0:Int)≤_;decide⟩
 · rw[h2] at h;cases h
end
