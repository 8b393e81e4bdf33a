/-
  The document's own comparison of two rows of texts: the walk.
-/
import Derived.StillTailTactics
import Derived.Test.YtblonfjlcfjodaaGreatDoorGEnd
namespace Go.Proofs.YtblonfjlcfjodaaGreatDoor
set_option linter.unusedSimpArgs false
set_option linter.unusedVariables false
set_option maxRecDepth 100000
set_option maxHeartbeats 2000000
section
open Go.RowKit
theorem yJ (w:World):∀ m,Below w.heap.size w (w.drewN m)
 | 0=>⟨rfl,rfl,rfl,Nat.le_refl _,fun _ _=>rfl⟩
 | _+1=>⟨rfl,rfl,rfl,Nat.le_refl _,fun _ _=>rfl⟩
end
section
open Go.RowKit
theorem sM {k:Nat}:∀{L:List (List Value)} {i j:Nat} {cs:List Value} {u:Value},(∀ c∈L,c.length=k)->L[i]? = some cs->cs[j]? = some u->L.flatten[i*k+j]? = some u
 | c::L,0,j,cs,u,hL,hi,hj=>by
  obtain rfl:=zc hi;rw[List.flatten_cons,Nat.zero_mul,Nat.zero_add,List.getElem?_append_left (List.getElem?_eq_some_iff.1 hj).1];exact hj
 | c::L,i+1,j,cs,u,hL,hi,hj=>by
  have hc:=hL c (by simp);rw[List.flatten_cons,Nat.add_mul,Nat.one_mul,List.getElem?_append_right (by omega),show i*k+k+j-c.length=i*k+j by omega];exact sM (fun d hd=>hL d (by simp [hd])) (by simpa using hi) hj
 | [],_,_,_,_,_,hi,_=>by simp at hi
theorem zcC {w:World} {N:Nat->Prop}:∀{L:List (List Value)} {l:List Nd} {i:Nat} {a:Nd},IsPs w N L l->l[i]? = some a->∃ cs,L[i]? = some cs/\IsP w N cs a
 | cs::L,e::l,0,a,h,hi=>by
  obtain rfl:=zc hi;exact⟨cs,rfl,h.1⟩
 | cs::L,e::l,i+1,a,h,hi=>by
  obtain⟨c,h1,h2⟩:=zcC (L:=L) (l:=l) (i:=i) h.2 (by simpa using hi);exact⟨c,by simpa using h1,h2⟩
 | [],_::_,_,_,h,_=>h.elim
 | [],[],_,_,_,hi=>by simp at hi
 | _::_,[],_,_,_,hi=>by simp at hi
theorem zc2 {w:World} {N:Nat->Prop}:∀{L:List (List Value)} {l:List Nd},IsPs w N L l->∀ c∈L,c.length=7
 | cs::L,e::l,h,c,hc=>by
  rcases List.mem_cons.1 hc with rfl | hc
  . exact h.1.len
  . exact zc2 h.2 c hc
 | [],_,_,_,hc=>by cases hc
 | _::_,[],h,_,_=>h.elim
theorem IsP.look {w:World} {N:Nat->Prop} {x:Nd} {s:Sl} (h:IsP w N (paL x s) x):x.arms=[]/\RowIn w N 9 1 (.slice s.la x.hd.labels.length s.lc) x.hd.labels.length (strCells x.hd.labels)/\x.args.length<=s.ac/\x.args.length<=9223372036854775807/\∀(i:Nat) (a:Nd),x.args[i]? = some a->∃ g o t,s.aa=some ⟨g,o,none⟩/\g<w.heap.size/\IsP w N (paL a t) a/\∀(j:Nat) (u:Value),(paL a t)[j]? = some u->w.cell? ⟨g,o+i*7+j,none⟩=some u:=by
 cases x with
 | mk hd l m =>
  obtain⟨h0,vl,va,he,h1,L,⟨⟨a,c,hv,hc,h2⟩,h3⟩,h4⟩:=h;have e1:vl=.slice s.la hd.labels.length s.lc:=(zc (congrArg (fun l:List Value=>l[5]?) he)).symm;have e2:va=.slice s.aa l.length s.ac:=(zc (congrArg (fun l:List Value=>l[6]?) he)).symm;subst e1;rw[e2] at hv;obtain⟨rfl,_,rfl⟩:=Value.slice.inj hv;refine⟨h0,h1,hc,h3,fun i a hi=>?_⟩;rcases h2 with h2 | ⟨g,o,he2,_,hg,hcell⟩
  . have:=(List.getElem?_eq_some_iff.1 hi).1;have h2:l.length=0:=h2;have h5:i<l.length:=this;omega
  . obtain⟨cs,k1,k2⟩:=zcC h4 hi;have k3:∃ t,cs=paL a t:=by
     cases a with
     | mk hb lb mb =>
      obtain⟨_,ul,ua,rfl,⟨⟨a1,c1,rfl,_⟩,_⟩,_,⟨⟨a2,c2,rfl,_⟩,_⟩,_⟩:=k2;exact⟨⟨a1,c1,a2,c2,none,0⟩,rfl⟩
    obtain⟨t,rfl⟩:=k3;exact⟨g,o,t,he2,hg.lt,k2,fun j u hu=>by rw[Nat.add_assoc];exact hcell _ _ (sM (zc2 h4) k1 hu)⟩
end
section
open Go.RowKit
theorem zcW {w:World} {N:Nat->Prop}:∀{L:List (List Value)} {l:List Nd} {i:Nat} {a:Nd},IsEs w N L l->l[i]? = some a->∃ cs,L[i]? = some cs/\IsE w N cs a
 | cs::L,e::l,0,a,h,hi=>by
  obtain rfl:=zc hi;exact⟨cs,rfl,h.1⟩
 | cs::L,e::l,i+1,a,h,hi=>by
  obtain⟨c,h1,h2⟩:=zcW (L:=L) (l:=l) (i:=i) h.2 (by simpa using hi);exact⟨c,by simpa using h1,h2⟩
 | [],_::_,_,_,h,_=>h.elim
 | [],[],_,_,_,hi=>by simp at hi
 | _::_,[],_,_,_,hi=>by simp at hi
theorem zcs {w:World} {N:Nat->Prop}:∀{L:List (List Value)} {l:List Nd},IsEs w N L l->∀ c∈L,c.length=8
 | cs::L,e::l,h,c,hc=>by
  rcases List.mem_cons.1 hc with rfl | hc
  . exact h.1.len
  . exact zcs h.2 c hc
 | [],_,_,_,hc=>by cases hc
 | _::_,[],h,_,_=>h.elim
theorem zc3 {w:World} {N:Nat->Prop}:∀{L:List (List Value)} {l:List (Nd×Nd)} {i:Nat} {a:Nd×Nd},IsAs w N L l->l[i]? = some a->∃ c1 c2,L[i]? = some (c1++c2)/\IsP w N c1 a.1/\IsE w N c2 a.2
 | cs::L,(p,b)::l,0,a,h,hi=>by
  obtain rfl:=zc hi;obtain⟨⟨c1,c2,rfl,h1,h2⟩,_⟩:=h;exact⟨c1,c2,rfl,h1,h2⟩
 | cs::L,(p,b)::l,i+1,a,h,hi=>by
  obtain⟨c1,c2,h1,h2⟩:=zc3 (L:=L) (l:=l) (i:=i) h.2 (by simpa using hi);exact⟨c1,c2,by simpa using h1,h2⟩
 | [],(_,_)::_,_,_,h,_=>h.elim
 | [],[],_,_,_,hi=>by simp at hi
 | _::_,[],_,_,_,hi=>by simp at hi
theorem zcK {w:World} {N:Nat->Prop}:∀{L:List (List Value)} {l:List (Nd×Nd)},IsAs w N L l->∀ c∈L,c.length=15
 | cs::L,(p,b)::l,h,c,hc=>by
  obtain⟨⟨c1,c2,rfl,h1,h2⟩,h3⟩:=h;rcases List.mem_cons.1 hc with rfl | hc
  . rw[List.length_append,h1.len,h2.len]
  . exact zcK h3 c hc
 | [],_,_,_,hc=>by cases hc
 | _::_,[],h,_,_=>h.elim
theorem isP_form {w:World} {N:Nat->Prop} {cs:List Value} {a:Nd} (h:IsP w N cs a):∃ t,cs=paL a t:=by
 cases a with
 | mk hb lb mb =>
  obtain⟨_,ul,ua,rfl,⟨⟨a1,c1,rfl,_⟩,_⟩,_,⟨⟨a2,c2,rfl,_⟩,_⟩,_⟩:=h;exact⟨⟨a1,c1,a2,c2,none,0⟩,rfl⟩
theorem IsE.look {w:World} {N:Nat->Prop} {x:Nd} {s:Sl} (h:IsE w N (exL x s) x):RowIn w N 9 1 (.slice s.la x.hd.labels.length s.lc) x.hd.labels.length (strCells x.hd.labels)/\x.args.length<=s.ac/\x.args.length<=9223372036854775807/\x.arms.length<=9223372036854775807 /\
 (∀(i:Nat) (a:Nd),x.args[i]? = some a->∃ g o t,s.aa=some ⟨g,o,none⟩/\g<w.heap.size/\IsE w N (exL a t) a/\∀(j:Nat) (u:Value),(exL a t)[j]? = some u->w.cell? ⟨g,o+i*8+j,none⟩=some u) /\
 (∀(i:Nat) (a:Nd×Nd),x.arms[i]? = some a->∃ g o t r,s.ra=some ⟨g,o,none⟩/\g<w.heap.size/\IsP w N (paL a.1 t) a.1/\IsE w N (exL a.2 r) a.2/\∀(j:Nat) (u:Value),(paL a.1 t++exL a.2 r)[j]? = some u->w.cell? ⟨g,o+i*15+j,none⟩=some u):=by
 cases x with
 | mk hd l m =>
  obtain⟨vl,va,vr,he,h1,⟨L,⟨⟨a,c,hv,hc,h2⟩,h3⟩,h4⟩,M,⟨⟨a',c',hv',hc',h2'⟩,h3'⟩,h4'⟩:=h;have e1:vl=.slice s.la hd.labels.length s.lc:=(zc (congrArg (fun l:List Value=>l[5]?) he)).symm;have e2:va=.slice s.aa l.length s.ac:=(zc (congrArg (fun l:List Value=>l[6]?) he)).symm;have e3:vr=.slice s.ra m.length s.rc:=(zc (congrArg (fun l:List Value=>l[7]?) he)).symm;subst e1;rw[e2] at hv;rw[e3] at hv';obtain⟨rfl,_,rfl⟩:=Value.slice.inj hv;obtain⟨rfl,_,rfl⟩:=Value.slice.inj hv';refine⟨h1,hc,h3,h3',fun i a hi=>?_,fun i a hi=>?_⟩
  . rcases h2 with h2 | ⟨g,o,he2,_,hg,hcell⟩
    . have:=(List.getElem?_eq_some_iff.1 hi).1;have h2:l.length=0:=h2;have h5:i<l.length:=this;omega
    . obtain⟨cs,k1,k2⟩:=zcW h4 hi;obtain⟨t,rfl⟩:=k2.form;exact⟨g,o,t,he2,hg.lt,k2,fun j u hu=>by rw[Nat.add_assoc];exact hcell _ _ (sM (zcs h4) k1 hu)⟩
  . rcases h2' with h2 | ⟨g,o,he2,_,hg,hcell⟩
    . have:=(List.getElem?_eq_some_iff.1 hi).1;have h2:m.length=0:=h2;have h5:i<m.length:=this;omega
    . obtain⟨c1,c2,k1,k2,k3⟩:=zc3 h4' hi;obtain⟨t,rfl⟩:=isP_form k2;obtain⟨r,rfl⟩:=k3.form;exact⟨g,o,t,r,he2,hg.lt,k2,k3,fun j u hu=>by rw[Nat.add_assoc];exact hcell _ _ (sM (zcK h4') k1 hu)⟩
end
section
open Go.RowKit
theorem isE_zero (w:World):IsE w (fun _=>True) (exL z0 ⟨none,0,none,0,none,0⟩) z0:=⟨_,_,_,rfl,zx _ _ _ _,⟨[],zx _ _ _ _,trivial⟩,[],zx _ _ _ _,trivial⟩
structure InBox (w:World) (b:Nat) (x:Nd) (s:Sl):Prop where
 box:ExBox w b x s
 tree:IsE w (fun _=>True) (exL x s) x
theorem InBox.below {w w':World} {b:Nat} {x:Nd} {s:Sl} (h:InBox w b x s) (hb:Below w.heap.size w w'):InBox w' b x s:=⟨h.box.below hb,h.tree.below hb⟩
theorem InBox.new {w:World} {x:Nd} {s:Sl} (h:IsE w (fun _=>True) (exL x s) x):InBox (w.alloc (exObj x s)) w.heap.size x s:=⟨ExBox.new w x s,h.below (zj _)⟩
end
