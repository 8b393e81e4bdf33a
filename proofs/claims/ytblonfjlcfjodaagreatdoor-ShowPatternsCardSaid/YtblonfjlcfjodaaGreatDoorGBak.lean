/-
  Plain facts: tokens that stand side by side are read one by one,.
-/
import Derived.Test.YtblonfjlcfjodaaGreatDoorGShowA
namespace Go.Proofs.YtblonfjlcfjodaaGreatDoor
set_option linter.unusedSimpArgs false
set_option linter.unusedVariables false
section
open Go.RowKit
def softC (c:UInt8):Bool := !isBody c&&(!(decide (c=62))&&(!(decide (c=61))&&(!(decide (c=38))&&!(decide (c=124)))))
def Soft (m:List UInt8):Prop:=m=[]∨∃ d r,m=d::r/\softC d=true
def LexS (l:List UInt8) (E:List Tok):Prop:=∀ m M,Soft m->LexE m M->LexE (l++m) (E++M)
end
section
open Go.RowKit
abbrev wT (t:List UInt8):Tok:=(⟨6,t,0⟩,0)
abbrev sT (t:List UInt8):Tok:=(⟨7,t,0⟩,0)
abbrev curlT:Tok:=sT sCurl
def Hd0 (t:Tok):Prop:=isLeaf t=true∨t=openT 0∨t=curlT
structure Op (W:List Tok) (x:Nd):Prop where
 head:∃ t T,W=t::T/\Hd0 t/\(T=[]∨∃ v V,T=v::V/\(isOne [sEq] v=false∨isKind 1 t=false))
 reads:∀ R y R',Rd (.dots x) R y R'->Rd .post (W++R) y R'
structure Halts (u:Tok):Prop where
 stops:Stops u
 sg:NoSg u
structure FnW (W:List Tok) (x:Nd):Prop where
 head:∃ T,W=wT sFun::T
 reads:∀ u Z,Halts u->Rd .fn (W++u::Z) x (u::Z)
structure Fl where
 label:List UInt8
 toks:List Tok
 it:Nd
structure PatW (W:List Tok) (p:Nd):Prop where
 head:∃ t T,W=t::T/\isKind 3 t=false
 reads:∀ R,Rd .patom (W++R) p R
structure Am where
 ptoks:List Tok
 p:Nd
 btoks:List Tok
 b:Nd
end
section
open Go.RowKit
mutual
theorem xw {P:Nd->Prop} (H:∀ h l a,(∀ y∈l,P y)->(∀ q∈a,P q.1/\P q.2)->P (.mk h l a)):∀ x,P x
 | .mk h l a=>H h l a (zeG H l) (ze0 H a)
theorem zeG {P:Nd->Prop} (H:∀ h l a,(∀ y∈l,P y)->(∀ q∈a,P q.1/\P q.2)->P (.mk h l a)):∀ l:List Nd,∀ y∈l,P y
 | [],_,hy=>nomatch hy
 | x::r,y,hy=>(List.mem_cons.1 hy).elim (fun e=>e▸xw H x) (fun h=>zeG H r y h)
theorem ze0 {P:Nd->Prop} (H:∀ h l a,(∀ y∈l,P y)->(∀ q∈a,P q.1/\P q.2)->P (.mk h l a)):∀ l:List (Nd×Nd),∀ q∈l,P q.1/\P q.2
 | [],_,hy=>nomatch hy
 | (x,z)::r,q,hy=>(List.mem_cons.1 hy).elim (fun e=>e▸⟨xw H x,xw H z⟩) (fun h=>ze0 H r q h)
end
theorem yf:∀ l:List Nd,showEs l=l.map showE
 | []=>rfl
 | x::l=>by rw[showEs,yf l];rfl
theorem xD:∀ l:List Nd,showPs l=l.map showP
 | []=>rfl
 | x::l=>by rw[showPs,xD l];rfl
theorem yd:∀ l:List (Nd×Nd),showAs l=l.map fun q=>armV (showP q.1) (showE q.2)
 | []=>rfl
 | (p,b)::l=>by rw[showAs,yd l];rfl
def litC (c:UInt8):Bool:=decide (c.toNat≠120)&&(decide (c.toNat≠88)&&(decide (c.toNat≠78)&&(decide (c.toNat≠84)&&(decide (c.toNat≠83)&&(decide (c.toNat≠65)&&(decide (c.toNat≠66)&&(decide (c.toNat≠67)&&(decide (c.toNat≠76)&&decide (c.toNat≠77)))))))))
theorem zaw {c:UInt8} (hc:litC c=true) (x:Sn):stepV c.toNat x=some ([c],x):=by
 unfold litC at hc;simp only[Bool.and_eq_true,decide_eq_true_eq] at hc;obtain⟨h1,h2,h3,h4,h5,h6,h7,h8,h9,h10⟩:=hc;unfold stepV;rw[if_neg h1,if_neg h2,if_neg h3,if_neg h4,if_neg h5,if_neg (by omega),if_neg h9,if_neg h10];simp
theorem yp {c:UInt8} {f s:List UInt8} {x:Sn} (h:formV (c::f) x=some s):∃ t y r,stepV c.toNat x=some (t,y)/\formV f y=some r/\s=t++r:=by
 rw[formV] at h;cases hs:stepV c.toNat x with
 | none=>rw[hs] at h;cases h
 | some q =>
  obtain⟨t,y⟩:=q;rw[hs] at h;cases hf:formV f y with
  | none=>simp only[hf] at h;cases h
  | some r =>
   simp only[hf] at h;exact⟨t,y,r,rfl,hf,(zc h).symm⟩
theorem zy:∀{l f s:List UInt8} {x:Sn},l.all litC=true->formV (l++f) x=some s->∃ r,formV f x=some r/\s=l++r
 | [],f,s,x,_,h=>⟨s,h,rfl⟩
 | c::l,f,s,x,hl,h=>by
  rw[List.all_cons,Bool.and_eq_true] at hl;obtain⟨t,y,r,h1,h2,rfl⟩:=yp h;rw[zaw hl.1] at h1;obtain⟨rfl,rfl⟩:=Prod.mk.inj (zc h1);obtain⟨r',h3,rfl⟩:=zy hl.2 h2;exact⟨r',h3,rfl⟩
theorem zX {s:List UInt8} {x:Sn} (h:formV [] x=some s):s=[]/\x=⟨[],0,[],[],[],[]⟩:=by
 rw[formV] at h
 split at h
 . rename_i hz;refine⟨(zc h).symm,?_⟩;obtain⟨a,b,c,d,e,f⟩:=x;unfold Sn.zero at hz;simp only[Bool.and_eq_true,decide_eq_true_eq,List.isEmpty_iff] at hz;obtain⟨⟨⟨⟨⟨rfl,rfl⟩,rfl⟩,rfl⟩,rfl⟩,rfl⟩:=hz;rfl
 . cases h
theorem yr {l s:List UInt8} {x:Sn} (hl:l.all litC=true) (h:formV l x=some s):s=l/\x=⟨[],0,[],[],[],[]⟩:=by
 have h:formV (l++[]) x=some s:=by rw[List.append_nil];exact h
 obtain⟨r,h1,rfl⟩:=zy hl h;obtain⟨rfl,h2⟩:=zX h1;exact⟨List.append_nil _,h2⟩
theorem r9 {f s:List UInt8} {nm:List UInt8} {n:Int} {st:List UInt8} {ls:List (List UInt8)} {az ar:List (Option (List UInt8))} (h:formV (120::f) ⟨nm,n,st,ls,az,ar⟩=some s):isNam nm=true/\∃ r,formV f ⟨[],n,st,ls,az,ar⟩=some r/\s=nm++r:=by
 obtain⟨t,y,r,h1,h2,rfl⟩:=yp h;have h1:(if isNam nm then some (nm,(⟨[],n,st,ls,az,ar⟩:Sn)) else none)=some (t,y):=h1
 split at h1
 . rename_i hn;obtain⟨rfl,rfl⟩:=Prod.mk.inj (zc h1);exact⟨hn,r,h2,rfl⟩
 . cases h1
theorem inv_X {f s:List UInt8} {nm:List UInt8} {n:Int} {st:List UInt8} {ls:List (List UInt8)} {az ar:List (Option (List UInt8))} (h:formV (88::f) ⟨nm,n,st,ls,az,ar⟩=some s):isUpN nm=true/\∃ r,formV f ⟨[],n,st,ls,az,ar⟩=some r/\s=nm++r:=by
 obtain⟨t,y,r,h1,h2,rfl⟩:=yp h;have h1:(if isUpN nm then some (nm,(⟨[],n,st,ls,az,ar⟩:Sn)) else none)=some (t,y):=h1
 split at h1
 . rename_i hn;obtain⟨rfl,rfl⟩:=Prod.mk.inj (zc h1);exact⟨hn,r,h2,rfl⟩
 . cases h1
theorem inv_N {f s:List UInt8} {nm:List UInt8} {n:Int} {st:List UInt8} {ls:List (List UInt8)} {az ar:List (Option (List UInt8))} (h:formV (78::f) ⟨nm,n,st,ls,az,ar⟩=some s):(0<=n/\n<4611686018427387904)/\∃ r,formV f ⟨nm,0,st,ls,az,ar⟩=some r/\s=Lib.itoa n++r:=by
 obtain⟨t,y,r,h1,h2,rfl⟩:=yp h;have h1:(if 0<=n/\n<4611686018427387904 then some (Lib.itoa n,(⟨nm,0,st,ls,az,ar⟩:Sn)) else none)=some (t,y):=h1
 split at h1
 . rename_i hn;obtain⟨rfl,rfl⟩:=Prod.mk.inj (zc h1);exact⟨hn,r,h2,rfl⟩
 . cases h1
theorem inv_T {f s:List UInt8} {nm:List UInt8} {n:Int} {st:List UInt8} {ls:List (List UInt8)} {az ar:List (Option (List UInt8))} (h:formV (84::f) ⟨nm,n,st,ls,az,ar⟩=some s):(n=0∨n=1)/\∃ r,formV f ⟨nm,0,st,ls,az,ar⟩=some r/\s=(if n=0 then sFalse else sTrue)++r:=by
 obtain⟨t,y,r,h1,h2,rfl⟩:=yp h;have h1:(if n=0 then some ([102,97,108,115,101],(⟨nm,0,st,ls,az,ar⟩:Sn)) else if n=1 then some ([116,114,117,101],(⟨nm,0,st,ls,az,ar⟩:Sn)) else none)=some (t,y):=h1
 split at h1
 . rename_i hn;obtain⟨rfl,rfl⟩:=Prod.mk.inj (zc h1);exact⟨.inl hn,r,h2,by rw[if_pos hn];rfl⟩
 . rename_i hn
   split at h1
   . rename_i hn1;obtain⟨rfl,rfl⟩:=Prod.mk.inj (zc h1);exact⟨.inr hn1,r,h2,by rw[if_neg hn];rfl⟩
   . cases h1
theorem inv_S {f s:List UInt8} {nm:List UInt8} {n:Int} {st:List UInt8} {ls:List (List UInt8)} {az ar:List (Option (List UInt8))} (h:formV (83::f) ⟨nm,n,st,ls,az,ar⟩=some s):∃ r,formV f ⟨nm,n,[],ls,az,ar⟩=some r/\s=qall (st.take 4096)++r:=by
 obtain⟨t,y,r,h1,h2,rfl⟩:=yp h;have h1:some (qall (st.take 4096),(⟨nm,n,[],ls,az,ar⟩:Sn))=some (t,y):=h1;obtain⟨rfl,rfl⟩:=Prod.mk.inj (zc h1);exact⟨r,h2,rfl⟩
theorem wq {c:UInt8} (hc:c=65∨c=66∨c=67) {f s:List UInt8} {nm:List UInt8} {n:Int} {st:List UInt8} {ls:List (List UInt8)} {az ar:List (Option (List UInt8))} (h:formV (c::f) ⟨nm,n,st,ls,az,ar⟩=some s):∃ a l,az=some a::l/\∃ r,formV f ⟨nm,n,st,ls,l,ar⟩=some r/\s=a++r:=by
 obtain⟨t,y,r,h1,h2,rfl⟩:=yp h;rcases az with _ | ⟨_ | a,l⟩
 . rcases hc with rfl | rfl | rfl <;> cases h1
 . rcases hc with rfl | rfl | rfl <;> cases h1
 . have h1:some (a,(⟨nm,n,st,ls,l,ar⟩:Sn))=some (t,y):=by
    rcases hc with rfl | rfl | rfl <;> exact h1
   obtain⟨rfl,rfl⟩:=Prod.mk.inj (zc h1);exact⟨_,_,rfl,r,h2,rfl⟩
theorem inv_L {f s:List UInt8} {nm:List UInt8} {n:Int} {st:List UInt8} {ls:List (List UInt8)} {az ar:List (Option (List UInt8))} (h:formV (76::f) ⟨nm,n,st,ls,az,ar⟩=some s):∃ t l,fieldsV false ls az=some (t,l)/\∃ r,formV f ⟨nm,n,st,[],l,ar⟩=some r/\s=t++r:=by
 obtain⟨t,y,r,h1,h2,rfl⟩:=yp h;have h1:((fieldsV false ls az).map fun p=>(p.1,(⟨nm,n,st,[],p.2,ar⟩:Sn)))=some (t,y):=h1;cases hf:fieldsV false ls az with
 | none=>rw[hf] at h1;cases h1
 | some q =>
  rw[hf] at h1;obtain⟨rfl,rfl⟩:=Prod.mk.inj (zc h1);exact⟨_,_,rfl,r,h2,rfl⟩
theorem inv_M {f s:List UInt8} {nm:List UInt8} {n:Int} {st:List UInt8} {ls:List (List UInt8)} {az ar:List (Option (List UInt8))} (h:formV (77::f) ⟨nm,n,st,ls,az,ar⟩=some s):ar≠[]/\∃ t,armsV false ar=some t/\∃ r,formV f ⟨nm,n,st,ls,az,[]⟩=some r/\s=t++r:=by
 obtain⟨t,y,r,h1,h2,rfl⟩:=yp h;have h1:(if ar=[] then none else(armsV false ar).map fun t=>(t,(⟨nm,n,st,ls,az,[]⟩:Sn)))=some (t,y):=h1
 split at h1
 . cases h1
 . rename_i hn;cases hf:armsV false ar with
   | none=>rw[hf] at h1;cases h1
   | some q =>
    rw[hf] at h1;obtain⟨rfl,rfl⟩:=Prod.mk.inj (zc h1);exact⟨hn,_,rfl,r,h2,rfl⟩
theorem xg {l:List Nd} {a:List UInt8} {r:List (Option (List UInt8))} (h:l.map showE=some a::r):∃ x m,l=x::m/\showE x=some a/\m.map showE=r:=by
 cases l with
 | nil=>cases h
 | cons x m =>
  rw[List.map_cons] at h;exact⟨x,m,rfl,(List.cons.inj h).1,(List.cons.inj h).2⟩
theorem ps_cons {l:List Nd} {a:List UInt8} {r:List (Option (List UInt8))} (h:l.map showP=some a::r):∃ x m,l=x::m/\showP x=some a/\m.map showP=r:=by
 cases l with
 | nil=>cases h
 | cons x m =>
  rw[List.map_cons] at h;exact⟨x,m,rfl,(List.cons.inj h).1,(List.cons.inj h).2⟩
def TolE (x:Nd):Prop:=∀ s,showE x=some s->∃ W,LexS s W/\Op W x.er
theorem uv {n:Int} {l:List (List UInt8)} (h:pickV n l≠[]):0<=n/\n<(l.length:Int):=by
 unfold pickV at h
 split at h
 . exact absurd rfl h
 . refine⟨by omega,?_⟩;cases Nat.lt_or_ge n.toNat l.length with
   | inl h1=>omega
   | inr h1=>rw[List.getElem?_eq_none h1] at h;exact absurd rfl h
theorem xZ {f s:List UInt8} {x:Sn} (h:putV f x=some s):f≠[]/\formV f x=some s:=by
 unfold putV at h
 split at h
 . cases h
 . rename_i hf;exact⟨hf,h⟩
section
variable {args : List Nd} {arms : List (Nd × Nd)} {nm st s : List UInt8} {n : Int} {ls : List (List UInt8)} (hA : ∀ y ∈ args, TolE y)
include hA
end
abbrev mkX (k pos:Int) (nm:List UInt8) (n:Int) (st:List UInt8) (ls:List (List UInt8)) (args:List Nd) (arms:List (Nd×Nd)):Nd:=.mk ⟨k,pos,nm,n,st,ls⟩ args arms
section
variable {args : List Nd} {arms : List (Nd × Nd)} {nm st s : List UInt8} {n pos : Int} {ls : List (List UInt8)} (hA : ∀ y ∈ args, TolE y)
include hA
end
theorem zb8 (l:List UInt8):l.length+2<=(qall l).length:=by
 have:=uq l;unfold qall;simp;omega
mutual
def Nd.okE:Nd->Prop
 | .mk h l a=>h.s.length<=4096/\okEs l/\okAs a
def okEs:List Nd->Prop
 | []=>True
 | x::r=>x.okE/\okEs r
def okAs:List (Nd×Nd)->Prop
 | []=>True
 | (p,b)::r=>p.okP/\b.okE/\okAs r
def Nd.okP:Nd->Prop
 | .mk h l a=>h.s.length<=4096/\a=[]/\okPs l
def okPs:List Nd->Prop
 | []=>True
 | x::r=>x.okP/\okPs r
end
end
