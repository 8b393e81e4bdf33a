/-
  Plain facts: which expressions may be told, and their texts, as.
-/
import Derived.Test.YtblonfjlcfjodaaGreatDoorGTol
namespace Go.Proofs.YtblonfjlcfjodaaGreatDoor
set_option linter.unusedSimpArgs false
set_option linter.unusedVariables false
section
open Go.RowKit
def plainD (b1 b2 b3:Bool) (la ag am:Int):Nd->Bool
 | .mk ⟨_,_,nm,n,st,ls⟩ args arms=>(b1||decide (nm=[]))&&((b2||decide (n=0))&&((b3||decide (st=[]))&&(decide ((ls.length:Int)=la)&&(decide ((args.length:Int)=ag)&&decide ((arms.length:Int)=am)))))
def manyD (n:Int):Int:=if n=6∨n=9∨n=10∨n=11∨n=16∨n=17∨n=20∨n=21 then 1 else if n=15 then 3 else if n<1∨21<n then 0 else 2
def formD:Nd->Bool
 | .mk ⟨k,pos,nm,n,st,ls⟩ args arms =>
 if k=1 then plainD true false false 0 0 0 (.mk ⟨k,pos,nm,n,st,ls⟩ args arms)&&isNam nm
 else if k=6 then plainD true false false 0 0 0 (.mk ⟨k,pos,nm,n,st,ls⟩ args arms)&&isUpN nm
 else if k=2 then plainD false true false 0 0 0 (.mk ⟨k,pos,nm,n,st,ls⟩ args arms)&&(decide (0<=n)&&decide (n<=4611686018427387903))
 else if k=4 then plainD false true false 0 0 0 (.mk ⟨k,pos,nm,n,st,ls⟩ args arms)&&(decide (n=0)||decide (n=1))
 else if k=3 then plainD false false true 0 0 0 (.mk ⟨k,pos,nm,n,st,ls⟩ args arms)
 else if k=5 then plainD false false false 0 0 0 (.mk ⟨k,pos,nm,n,st,ls⟩ args arms)
 else if k=7∨k=14 then plainD true false false 0 1 0 (.mk ⟨k,pos,nm,n,st,ls⟩ args arms)&&isNam nm
 else if k=15 then plainD true false false 0 1 0 (.mk ⟨k,pos,nm,n,st,ls⟩ args arms)&&isUpN nm
 else if k=18 then plainD false false false 0 1 0 (.mk ⟨k,pos,nm,n,st,ls⟩ args arms)
 else if k=8∨k=20∨k=21∨k=22 then plainD false false false 0 2 0 (.mk ⟨k,pos,nm,n,st,ls⟩ args arms)
 else if k=9∨k=13 then plainD true false false 0 2 0 (.mk ⟨k,pos,nm,n,st,ls⟩ args arms)&&isNam nm
 else if k=10 then plainD true false false 0 2 0 (.mk ⟨k,pos,nm,n,st,ls⟩ args arms)&&(isNam nm&&(match args with | []=>false | a::_=>decide (a.hd.kind=7)))
 else if k=11 then plainD false false false 0 3 0 (.mk ⟨k,pos,nm,n,st,ls⟩ args arms)
 else if k=12 then ls.all isNam&&plainD false false false (ls.length:Int) (ls.length:Int) 0 (.mk ⟨k,pos,nm,n,st,ls⟩ args arms)
 else if k=16∨k=17 then decide (0<arms.length)&&plainD false false false 0 1 (arms.length:Int) (.mk ⟨k,pos,nm,n,st,ls⟩ args arms)
 else if k=19 then decide (0<manyD n)&&plainD false true false 0 (manyD n) 0 (.mk ⟨k,pos,nm,n,st,ls⟩ args arms)
 else false
def patFormD:Nd->Bool
 | .mk ⟨k,_,nm,n,st,ls⟩ args _ =>
 (decide (k=2∨k=7∨k=8)||decide (nm=[]))&&((decide (k=3∨k=5)||decide (n=0))&&((decide (k=4)||decide (st=[])) &&
 (decide ((ls.length:Int)=if k=9 then(ls.length:Int) else 0)&&(decide ((args.length:Int)=if k=9 then(ls.length:Int) else if k=8 then 1 else 0) &&
 (if k=1∨k=6∨k=4 then true
  else if k=2 then isNam nm&&decide (nm≠[95])
  else if k=7∨k=8 then isUpN nm
  else if k=3 then decide (n<=4611686018427387903)&&decide (-4611686018427387903<=n)
  else if k=5 then decide (n=0)||decide (n=1)
  else if k=9 then ls.all isNam
  else false)))))
mutual
def patMayD:Nd->Bool
 | .mk h l a=>patFormD (.mk h l a)&&patMayDs l
def patMayDs:List Nd->Bool
 | []=>true
 | x::l=>patMayD x&&patMayDs l
end
mutual
def mayD:Nd->Bool
 | .mk h l a=>formD (.mk h l a)&&(mayDs l&&mayDa a)
def mayDs:List Nd->Bool
 | []=>true
 | x::l=>mayD x&&mayDs l
def mayDa:List (Nd×Nd)->Bool
 | []=>true
 | (p,b)::l=>(patMayD p&&mayD b)&&mayDa l
end
def truthD (n:Int):List UInt8:=if n=1 then sTrue else sFalse
def fieldsD:Bool->List (List UInt8)->List (List UInt8)->List UInt8
 | more,l::ls,t::ts=>(if more then [44,32] else [])++(l++([32,61,32]++(t++fieldsD true ls ts)))
 | _,_,_=>[]
def armsD:Bool->List (List UInt8)->List UInt8
 | _,[]=>[]
 | more,t::ts=>(if more then [32,124,32] else [])++(t++armsD true ts)
def signD (n:Int):List UInt8:=if n<0 then [] else(([[],sPlus,sMinus,sTimes,sOver,sRem,sMinus,sEq,sLess,sNot,sRef,sBang,sAssign,sArray,sGet,sSet,sLen,sSize,sByte,sCat,sGetc,sPutc]:List (List UInt8))[n.toNat]?).getD []
def patTextV (h:Hd) (ts:List (List UInt8)):List UInt8 :=
 if h.kind=1 then [95] else if h.kind=2∨h.kind=7 then h.name else if h.kind=3 then Lib.itoa h.n else if h.kind=4 then qall h.s else if h.kind=5 then truthD h.n else if h.kind=6 then [40,41]
 else if h.kind=8 then [40,35]++(h.name++([32]++(ts.getD 0 []++[41]))) else [123]++(fieldsD false h.labels ts++[125])
mutual
def patTextD:Nd->List UInt8
 | .mk h l _=>patTextV h (patTextDs l)
def patTextDs:List Nd->List (List UInt8)
 | []=>[]
 | x::l=>patTextD x::patTextDs l
end
def insideD (t:List UInt8):List UInt8:=if t.length<2 then t else(t.drop 1).take (t.length-2)
def textV (h:Hd) (ts ars:List (List UInt8)):List UInt8 :=
 if h.kind=1∨h.kind=6 then h.name
 else if h.kind=2 then Lib.itoa h.n
 else if h.kind=3 then qall h.s
 else if h.kind=4 then truthD h.n
 else if h.kind=5 then [40,41]
 else if h.kind=7 then [40,102,117,110,32]++(h.name++([32,45,62,32]++(ts.getD 0 []++[41])))
 else if h.kind=8 then [40]++(ts.getD 0 []++([32]++(ts.getD 1 []++[41])))
 else if h.kind=9 then [40,108,101,116,32]++(h.name++([32,61,32]++(ts.getD 0 []++([32,105,110,32]++(ts.getD 1 []++[41])))))
 else if h.kind=10 then [40,108,101,116,32,114,101,99,32]++(h.name++([32,61,32]++(insideD (ts.getD 0 [])++([32,105,110,32]++(ts.getD 1 []++[41])))))
 else if h.kind=11 then [40,105,102,32]++(ts.getD 0 []++([32,116,104,101,110,32]++(ts.getD 1 []++([32,101,108,115,101,32]++(ts.getD 2 []++[41])))))
 else if h.kind=12 then [123]++(fieldsD false h.labels ts++[125])
 else if h.kind=13 then [123]++(ts.getD 0 []++([32,119,105,116,104,32]++(h.name++([32,61,32]++(ts.getD 1 []++[125])))))
 else if h.kind=14 then ts.getD 0 []++([46]++h.name)
 else if h.kind=15 then [40,35]++(h.name++([32]++(ts.getD 0 []++[41])))
 else if h.kind=18 then [40,114,97,105,115,101,32]++(ts.getD 0 []++[41])
 else if h.kind=20 then [40]++(ts.getD 0 []++([59,32]++(ts.getD 1 []++[41])))
 else if h.kind=21 then [40]++(ts.getD 0 []++([32,38,38,32]++(ts.getD 1 []++[41])))
 else if h.kind=22 then [40]++(ts.getD 0 []++([32,124,124,32]++(ts.getD 1 []++[41])))
 else if h.kind=16∨h.kind=17 then(if h.kind=17 then [40,116,114,121,32] else [40,109,97,116,99,104,32])++(ts.getD 0 []++([32,119,105,116,104,32]++(armsD false ars++[32,101,110,100,41])))
 else if h.n=6∨h.n=9∨h.n=11 then [40]++(signD h.n++([32]++(ts.getD 0 []++[41])))
 else if h.n<=8∨h.n=12 then [40]++(ts.getD 0 []++([32]++(signD h.n++([32]++(ts.getD 1 []++[41])))))
 else [40]++(signD h.n++((ts.flatMap fun t=>[32]++t)++[41]))
mutual
def textD:Nd->List UInt8
 | .mk h l a=>textV h (textDs l) (textDa a)
def textDs:List Nd->List (List UInt8)
 | []=>[]
 | x::l=>textD x::textDs l
def textDa:List (Nd×Nd)->List (List UInt8)
 | []=>[]
 | (p,b)::l=>(patTextD p++([32,45,62,32]++textD b))::textDa l
end
theorem zfi:∀ l:List Nd,textDs l=l.map textD
 | []=>rfl
 | x::l=>by rw[textDs,zfi l];rfl
theorem zfa:∀ l:List Nd,patTextDs l=l.map patTextD
 | []=>rfl
 | x::l=>by rw[patTextDs,zfa l];rfl
theorem ze5:∀ l:List (Nd×Nd),textDa l=l.map fun q=>patTextD q.1++([32,45,62,32]++textD q.2)
 | []=>rfl
 | (p,b)::l=>by rw[textDa,ze5 l];rfl
theorem zfo:∀ l:List Nd,mayDs l=l.all mayD
 | []=>rfl
 | x::l=>by rw[mayDs,zfo l];rfl
theorem zfb:∀ l:List Nd,patMayDs l=l.all patMayD
 | []=>rfl
 | x::l=>by rw[patMayDs,zfb l];rfl
theorem zfg:∀ l:List (Nd×Nd),mayDa l=l.all fun q=>patMayD q.1&&mayD q.2
 | []=>rfl
 | (p,b)::l=>by rw[mayDa,zfg l];rfl
def Rel (s t:List UInt8):Prop:=s=t∨4096<s.length/\4096<t.length
theorem Rel.refl (s:List UInt8):Rel s s:=.inl rfl
theorem Rel.app {a a' b b':List UInt8} (h:Rel a a') (h':Rel b b'):Rel (a++b) (a'++b'):=by
 rcases h with rfl | ⟨h1,h2⟩
 . rcases h' with rfl | ⟨h1,h2⟩
   . exact .inl rfl
   . exact .inr ⟨by rw[List.length_append];omega,by rw[List.length_append];omega⟩
 . exact .inr ⟨by rw[List.length_append];omega,by rw[List.length_append];omega⟩
theorem zgA (s:List UInt8):Rel (qall (s.take 4096)) (qall s):=by
 by_cases h:s.length<=4096
 . rw[List.take_of_length_le h];exact .inl rfl
 . refine .inr ⟨?_,?_⟩
   . have:=zb8 (s.take 4096);rw[List.length_take] at this;omega
   . have:=zb8 s;omega
def KE (x:Nd) (s:List UInt8):Prop:=mayD x=true/\Rel s (textD x)
def KF (x:Nd) (s:List UInt8):Prop:=x.hd.kind=7/\mayD x=true/\∃ t,textD x=40::(t++[41])/\Rel s t
def KP (x:Nd) (s:List UInt8):Prop:=patMayD x=true/\Rel s (patTextD x)
theorem zfv {K:Nd->List UInt8->Prop} {sh:Nd->Option (List UInt8)} {tx:Nd->List UInt8} (hK:∀ y s,K y s->Rel s (tx y)):∀(ls:List (List UInt8)) (args:List Nd) (more:Bool) (t:List UInt8),(∀ y∈args,∀ s,sh y=some s->K y s)->fieldsV more ls (args.map sh)=some (t,[]) ->
 ls.length=args.length/\ls.all isNam=true/\(∀ y∈args,∃ s,sh y=some s)/\Rel t (fieldsD more ls (args.map tx))
 | [],args,more,t,_,h=>by
  rw[fieldsV] at h;obtain⟨rfl,h2⟩:=Prod.mk.inj (zc h);obtain rfl:args=[]:=by simpa using h2
  exact⟨rfl,rfl,fun _ hy=>(by cases hy),.inl (by cases more <;> rfl)⟩
 | l::ls,[],more,t,_,h=>by cases h
 | l::ls,x::args,more,t,hA,h=>by
  rw[List.map_cons] at h;cases hx:sh x with
  | none=>rw[hx] at h;cases h
  | some s =>
   rw[hx,fieldsV] at h
   split at h
   . rename_i hn;cases hf:fieldsV true ls (args.map sh) with
     | none=>rw[hf] at h;cases h
     | some q =>
      rw[hf] at h;obtain⟨q1,q2⟩:=q;obtain⟨rfl,rfl⟩:=Prod.mk.inj (zc h);obtain⟨h1,h2,h3,h4⟩:=zfv hK ls args true q1 (fun y hy=>hA y (by simp [hy])) hf;refine⟨by rw[List.length_cons,List.length_cons,h1],by rw[List.all_cons,hn,h2];rfl,fun y hy=>?_,?_⟩
      . rcases List.mem_cons.1 hy with rfl | hy
        . exact⟨s,hx⟩
        . exact h3 y hy
      . exact(Rel.refl _).app ((Rel.refl _).app ((Rel.refl _).app ((hK x s (hA x (by simp) s hx)).app h4)))
   . cases h
theorem zgb:∀(arms:List (Nd×Nd)) (more:Bool) (t:List UInt8),(∀ q∈arms,(∀ s,showP q.1=some s->KP q.1 s)/\∀ s,showE q.2=some s->KE q.2 s)->armsV more (arms.map fun q=>armV (showP q.1) (showE q.2))=some t ->
 (arms.all fun q=>patMayD q.1&&mayD q.2)=true/\Rel t (armsD more (arms.map fun q=>patTextD q.1++([32,45,62,32]++textD q.2)))
 | [],more,t,_,h=>by
  rw[List.map_nil,armsV] at h;obtain rfl:=zc h;exact⟨rfl,.inl (by cases more <;> rfl)⟩
 | (p,b)::arms,more,t,hA,h=>by
  rw[List.map_cons] at h;have h:armsV more (armV (showP p) (showE b)::(arms.map fun q=>armV (showP q.1) (showE q.2)))=some t:=h;cases hp:showP p with
  | none=>rw[hp] at h;cases h
  | some s =>
   cases hb:showE b with
   | none=>rw[hp,hb] at h;cases h
   | some u =>
    rw[hp,hb] at h;have h:((armsV true (arms.map fun q=>armV (showP q.1) (showE q.2))).map fun v=>(if more then [32,124,32] else [])++((s++([32,45,62,32]++u))++v))=some t:=h
    cases hf:armsV true (arms.map fun q=>armV (showP q.1) (showE q.2)) with
    | none=>rw[hf] at h;cases h
    | some v =>
     rw[hf] at h;obtain rfl:=zc h;obtain⟨h1,h2⟩:=zgb arms true v (fun q hq=>hA q (by simp [hq])) hf;obtain⟨k1,k2⟩:=(hA (p,b) (by simp)).1 s hp;obtain⟨k3,k4⟩:=(hA (p,b) (by simp)).2 u hb;refine⟨by rw[List.all_cons,h1,k1,k3];rfl,?_⟩;exact(Rel.refl _).app ((k2.app ((Rel.refl _).app k4)).app h2)
section
variable {args : List Nd} {arms : List (Nd × Nd)} {nm st s : List UInt8} {n : Int} {ls : List (List UInt8)} (hA : ∀ y ∈ args, ∀ s, showE y = some s -> KE y s)
include hA
theorem zfe {l0 l1:List UInt8} (g0:l0.all litC=true) (g1:l1.all litC=true) (h:formV (l0++65::l1) ⟨nm,n,st,ls,args.map showE,arms.map fun q=>armV (showP q.1) (showE q.2)⟩=some s) :
 nm=[]/\n=0/\st=[]/\ls=[]/\arms=[]/\∃ x a,args=[x]/\KE x a/\s=l0++(a++l1):=by
 obtain⟨r1,h1,rfl⟩:=zy g0 h;obtain⟨a,l,h2,r2,h3,rfl⟩:=wq (.inl rfl) h1;obtain⟨rfl,h4⟩:=yr g1 h3;simp only[Sn.mk.injEq] at h4;obtain⟨rfl,rfl,rfl,rfl,rfl,h5⟩:=h4;obtain⟨x,m,rfl,hx,hm⟩:=xg h2;obtain rfl:m=[]:=by simpa using hm
 obtain rfl:arms=[]:=by simpa using h5
 exact⟨rfl,rfl,rfl,rfl,rfl,x,a,rfl,hA x (by simp) a hx,rfl⟩
theorem rb {l0 l1 l2:List UInt8} (g0:l0.all litC=true) (g1:l1.all litC=true) (g2:l2.all litC=true) (h:formV (l0++65::(l1++66::l2)) ⟨nm,n,st,ls,args.map showE,arms.map fun q=>armV (showP q.1) (showE q.2)⟩=some s) :
 nm=[]/\n=0/\st=[]/\ls=[]/\arms=[]/\∃ x y a b,args=[x,y]/\KE x a/\KE y b/\s=l0++(a++(l1++(b++l2))):=by
 obtain⟨r1,h1,rfl⟩:=zy g0 h;obtain⟨a,l,h2,r2,h3,rfl⟩:=wq (.inl rfl) h1;obtain⟨r3,h4,rfl⟩:=zy g1 h3;obtain⟨b,l',h5,r4,h6,rfl⟩:=wq (.inr (.inl rfl)) h4;obtain⟨rfl,h7⟩:=yr g2 h6;simp only[Sn.mk.injEq] at h7;obtain⟨rfl,rfl,rfl,rfl,rfl,h8⟩:=h7;obtain⟨x,m,rfl,hx,hm⟩:=xg h2;obtain⟨y,m',rfl,hy,hm'⟩:=xg (hm.trans h5);obtain rfl:m'=[]:=by simpa using hm'
 obtain rfl:arms=[]:=by simpa using h8
 exact⟨rfl,rfl,rfl,rfl,rfl,x,y,a,b,rfl,hA x (by simp) a hx,hA y (by simp) b hy,rfl⟩
theorem zgm {l0 l1 l2 l3:List UInt8} (g0:l0.all litC=true) (g1:l1.all litC=true) (g2:l2.all litC=true) (g3:l3.all litC=true) (h:formV (l0++65::(l1++66::(l2++67::l3))) ⟨nm,n,st,ls,args.map showE,arms.map fun q=>armV (showP q.1) (showE q.2)⟩=some s) :
 nm=[]/\n=0/\st=[]/\ls=[]/\arms=[]/\∃ x y z a b c,args=[x,y,z]/\KE x a/\KE y b/\KE z c/\s=l0++(a++(l1++(b++(l2++(c++l3))))):=by
 obtain⟨r1,h1,rfl⟩:=zy g0 h;obtain⟨a,l,h2,r2,h3,rfl⟩:=wq (.inl rfl) h1;obtain⟨r3,h4,rfl⟩:=zy g1 h3;obtain⟨b,l',h5,r4,h6,rfl⟩:=wq (.inr (.inl rfl)) h4;obtain⟨r5,h7,rfl⟩:=zy g2 h6;obtain⟨c,l'',h8,r6,h9,rfl⟩:=wq (.inr (.inr rfl)) h7;obtain⟨rfl,h10⟩:=yr g3 h9;simp only[Sn.mk.injEq] at h10;obtain⟨rfl,rfl,rfl,rfl,rfl,h11⟩:=h10;obtain⟨x,m,rfl,hx,hm⟩:=xg h2;obtain⟨y,m',rfl,hy,hm'⟩:=xg (hm.trans h5);obtain⟨z,m'',rfl,hz,hm''⟩:=xg (hm'.trans h8);obtain rfl:m''=[]:=by simpa using hm''
 obtain rfl:arms=[]:=by simpa using h11
 exact⟨rfl,rfl,rfl,rfl,rfl,x,y,z,a,b,c,rfl,hA x (by simp) a hx,hA y (by simp) b hy,hA z (by simp) c hz,rfl⟩
theorem kd_nam1 {l0 l1 l2:List UInt8} (g0:l0.all litC=true) (g1:l1.all litC=true) (g2:l2.all litC=true) (h:formV (l0++120::(l1++65::l2)) ⟨nm,n,st,ls,args.map showE,arms.map fun q=>armV (showP q.1) (showE q.2)⟩=some s) :
 isNam nm=true/\n=0/\st=[]/\ls=[]/\arms=[]/\∃ x a,args=[x]/\KE x a/\s=l0++(nm++(l1++(a++l2))):=by
 obtain⟨r1,h1,rfl⟩:=zy g0 h;obtain⟨hn,r2,h2,rfl⟩:=r9 h1;obtain⟨_,rfl,rfl,rfl,rfl,x,a,rfl,h3,rfl⟩:=zfe hA g1 g2 h2;exact⟨hn,rfl,rfl,rfl,rfl,x,a,rfl,h3,rfl⟩
end
theorem ze7 {s t u:List UInt8} (h:Rel s t) (e:u=t):Rel s u:=e▸h
theorem kd_op {args:List Nd} {arms:List (Nd×Nd)} {nm st s:List UInt8} {n pos:Int} {ls:List (List UInt8)} (hA:∀ y∈args,∀ s,showE y=some s->KE y s)
 (h:putV (pickV n opForms) ⟨nm,0,st,ls,args.map showE,arms.map fun q=>armV (showP q.1) (showE q.2)⟩=some s):KE (mkX 19 pos nm n st ls args arms) s:=by
 obtain⟨hne,h⟩:=xZ h;obtain⟨h0,h1⟩:=uv hne;have h1:n<22:=h1;have hn:n=0∨n=1∨n=2∨n=3∨n=4∨n=5∨n=6∨n=7∨n=8∨n=9∨n=10∨n=11∨n=12∨n=13∨n=14∨n=15∨n=16∨n=17∨n=18∨n=19∨n=20∨n=21:=by omega
 clear h0 h1;rcases hn with rfl | rfl | rfl | rfl | rfl | rfl | rfl | rfl | rfl | rfl | rfl | rfl | rfl | rfl | rfl | rfl | rfl | rfl | rfl | rfl | rfl | rfl
 . exact absurd rfl hne
 . obtain⟨rfl,_,rfl,rfl,rfl,x,y,a,b,rfl,h1,h2,rfl⟩:=rb (l0:=[40]) (l1:=[32,43,32]) (l2:=[41]) hA (by decide) (by decide) (by decide) h;exact⟨by simp [mayD,mayDs,mayDa,formD,plainD,manyD,h1.1,h2.1],((Rel.refl _).app (h1.2.app (((Rel.refl [32,43,32]):Rel _ _).app (h2.2.app (Rel.refl _)))))⟩
 . obtain⟨rfl,_,rfl,rfl,rfl,x,y,a,b,rfl,h1,h2,rfl⟩:=rb (l0:=[40]) (l1:=[32,45,32]) (l2:=[41]) hA (by decide) (by decide) (by decide) h;exact⟨by simp [mayD,mayDs,mayDa,formD,plainD,manyD,h1.1,h2.1],((Rel.refl _).app (h1.2.app (((Rel.refl [32,45,32]):Rel _ _).app (h2.2.app (Rel.refl _)))))⟩
 . obtain⟨rfl,_,rfl,rfl,rfl,x,y,a,b,rfl,h1,h2,rfl⟩:=rb (l0:=[40]) (l1:=[32,42,32]) (l2:=[41]) hA (by decide) (by decide) (by decide) h;exact⟨by simp [mayD,mayDs,mayDa,formD,plainD,manyD,h1.1,h2.1],((Rel.refl _).app (h1.2.app (((Rel.refl [32,42,32]):Rel _ _).app (h2.2.app (Rel.refl _)))))⟩
 . obtain⟨rfl,_,rfl,rfl,rfl,x,y,a,b,rfl,h1,h2,rfl⟩:=rb (l0:=[40]) (l1:=[32,47,32]) (l2:=[41]) hA (by decide) (by decide) (by decide) h;exact⟨by simp [mayD,mayDs,mayDa,formD,plainD,manyD,h1.1,h2.1],((Rel.refl _).app (h1.2.app (((Rel.refl [32,47,32]):Rel _ _).app (h2.2.app (Rel.refl _)))))⟩
 . obtain⟨rfl,_,rfl,rfl,rfl,x,y,a,b,rfl,h1,h2,rfl⟩:=rb (l0:=[40]) (l1:=[32,37,32]) (l2:=[41]) hA (by decide) (by decide) (by decide) h;exact⟨by simp [mayD,mayDs,mayDa,formD,plainD,manyD,h1.1,h2.1],((Rel.refl _).app (h1.2.app (((Rel.refl [32,37,32]):Rel _ _).app (h2.2.app (Rel.refl _)))))⟩
 . obtain⟨rfl,_,rfl,rfl,rfl,x,a,rfl,h1,rfl⟩:=zfe (l0:=[40,45,32]) (l1:=[41]) hA (by decide) (by decide) h;exact⟨by simp [mayD,mayDs,mayDa,formD,plainD,manyD,h1.1],((Rel.refl [40,45,32]).app (h1.2.app (Rel.refl _)))⟩
 . obtain⟨rfl,_,rfl,rfl,rfl,x,y,a,b,rfl,h1,h2,rfl⟩:=rb (l0:=[40]) (l1:=[32,61,32]) (l2:=[41]) hA (by decide) (by decide) (by decide) h;exact⟨by simp [mayD,mayDs,mayDa,formD,plainD,manyD,h1.1,h2.1],((Rel.refl _).app (h1.2.app (((Rel.refl [32,61,32]):Rel _ _).app (h2.2.app (Rel.refl _)))))⟩
 . obtain⟨rfl,_,rfl,rfl,rfl,x,y,a,b,rfl,h1,h2,rfl⟩:=rb (l0:=[40]) (l1:=[32,60,32]) (l2:=[41]) hA (by decide) (by decide) (by decide) h;exact⟨by simp [mayD,mayDs,mayDa,formD,plainD,manyD,h1.1,h2.1],((Rel.refl _).app (h1.2.app (((Rel.refl [32,60,32]):Rel _ _).app (h2.2.app (Rel.refl _)))))⟩
 . obtain⟨rfl,_,rfl,rfl,rfl,x,a,rfl,h1,rfl⟩:=zfe (l0:=[40,110,111,116,32]) (l1:=[41]) hA (by decide) (by decide) h;exact⟨by simp [mayD,mayDs,mayDa,formD,plainD,manyD,h1.1],((Rel.refl [40,110,111,116,32]).app (h1.2.app (Rel.refl _)))⟩
 . obtain⟨rfl,_,rfl,rfl,rfl,x,a,rfl,h1,rfl⟩:=zfe (l0:=[40,114,101,102,32]) (l1:=[41]) hA (by decide) (by decide) h;exact⟨by simp [mayD,mayDs,mayDa,formD,plainD,manyD,h1.1],ze7 ((Rel.refl [40,114,101,102,32]).app (h1.2.app (Rel.refl _))) (by simp [textD,textDs,textV,signD,sRef,sLen,sSize,sGetc,sPutc])⟩
 . obtain⟨rfl,_,rfl,rfl,rfl,x,a,rfl,h1,rfl⟩:=zfe (l0:=[40,33,32]) (l1:=[41]) hA (by decide) (by decide) h;exact⟨by simp [mayD,mayDs,mayDa,formD,plainD,manyD,h1.1],((Rel.refl [40,33,32]).app (h1.2.app (Rel.refl _)))⟩
 . obtain⟨rfl,_,rfl,rfl,rfl,x,y,a,b,rfl,h1,h2,rfl⟩:=rb (l0:=[40]) (l1:=[32,58,61,32]) (l2:=[41]) hA (by decide) (by decide) (by decide) h;exact⟨by simp [mayD,mayDs,mayDa,formD,plainD,manyD,h1.1,h2.1],((Rel.refl _).app (h1.2.app (((Rel.refl [32,58,61,32]):Rel _ _).app (h2.2.app (Rel.refl _)))))⟩
 . obtain⟨rfl,_,rfl,rfl,rfl,x,y,a,b,rfl,h1,h2,rfl⟩:=rb (l0:=[40,97,114,114,97,121,32]) (l1:=[32]) (l2:=[41]) hA (by decide) (by decide) (by decide) h;exact⟨by simp [mayD,mayDs,mayDa,formD,plainD,manyD,h1.1,h2.1],ze7 ((Rel.refl [40,97,114,114,97,121,32]).app (h1.2.app ((Rel.refl _).app (h2.2.app (Rel.refl _))))) (by simp [textD,textDs,textV,signD,sArray,sGet,sByte,sCat])⟩
 . obtain⟨rfl,_,rfl,rfl,rfl,x,y,a,b,rfl,h1,h2,rfl⟩:=rb (l0:=[40,103,101,116,32]) (l1:=[32]) (l2:=[41]) hA (by decide) (by decide) (by decide) h;exact⟨by simp [mayD,mayDs,mayDa,formD,plainD,manyD,h1.1,h2.1],ze7 ((Rel.refl [40,103,101,116,32]).app (h1.2.app ((Rel.refl _).app (h2.2.app (Rel.refl _))))) (by simp [textD,textDs,textV,signD,sArray,sGet,sByte,sCat])⟩
 . obtain⟨rfl,_,rfl,rfl,rfl,x,y,z,a,b,c,rfl,h1,h2,h3,rfl⟩:=zgm (l0:=[40,115,101,116,32]) (l1:=[32]) (l2:=[32]) (l3:=[41]) hA (by decide) (by decide) (by decide) (by decide) h;exact⟨by simp [mayD,mayDs,mayDa,formD,plainD,manyD,h1.1,h2.1,h3.1],ze7 ((Rel.refl [40,115,101,116,32]).app (h1.2.app ((Rel.refl _).app (h2.2.app ((Rel.refl _).app (h3.2.app (Rel.refl _))))))) (by simp [textD,textDs,textV,signD,sSet])⟩
 . obtain⟨rfl,_,rfl,rfl,rfl,x,a,rfl,h1,rfl⟩:=zfe (l0:=[40,108,101,110,32]) (l1:=[41]) hA (by decide) (by decide) h;exact⟨by simp [mayD,mayDs,mayDa,formD,plainD,manyD,h1.1],ze7 ((Rel.refl [40,108,101,110,32]).app (h1.2.app (Rel.refl _))) (by simp [textD,textDs,textV,signD,sRef,sLen,sSize,sGetc,sPutc])⟩
 . obtain⟨rfl,_,rfl,rfl,rfl,x,a,rfl,h1,rfl⟩:=zfe (l0:=[40,115,105,122,101,32]) (l1:=[41]) hA (by decide) (by decide) h;exact⟨by simp [mayD,mayDs,mayDa,formD,plainD,manyD,h1.1],ze7 ((Rel.refl [40,115,105,122,101,32]).app (h1.2.app (Rel.refl _))) (by simp [textD,textDs,textV,signD,sRef,sLen,sSize,sGetc,sPutc])⟩
 . obtain⟨rfl,_,rfl,rfl,rfl,x,y,a,b,rfl,h1,h2,rfl⟩:=rb (l0:=[40,98,121,116,101,32]) (l1:=[32]) (l2:=[41]) hA (by decide) (by decide) (by decide) h;exact⟨by simp [mayD,mayDs,mayDa,formD,plainD,manyD,h1.1,h2.1],ze7 ((Rel.refl [40,98,121,116,101,32]).app (h1.2.app ((Rel.refl _).app (h2.2.app (Rel.refl _))))) (by simp [textD,textDs,textV,signD,sArray,sGet,sByte,sCat])⟩
 . obtain⟨rfl,_,rfl,rfl,rfl,x,y,a,b,rfl,h1,h2,rfl⟩:=rb (l0:=[40,99,97,116,32]) (l1:=[32]) (l2:=[41]) hA (by decide) (by decide) (by decide) h;exact⟨by simp [mayD,mayDs,mayDa,formD,plainD,manyD,h1.1,h2.1],ze7 ((Rel.refl [40,99,97,116,32]).app (h1.2.app ((Rel.refl _).app (h2.2.app (Rel.refl _))))) (by simp [textD,textDs,textV,signD,sArray,sGet,sByte,sCat])⟩
 . obtain⟨rfl,_,rfl,rfl,rfl,x,a,rfl,h1,rfl⟩:=zfe (l0:=[40,103,101,116,99,32]) (l1:=[41]) hA (by decide) (by decide) h;exact⟨by simp [mayD,mayDs,mayDa,formD,plainD,manyD,h1.1],ze7 ((Rel.refl [40,103,101,116,99,32]).app (h1.2.app (Rel.refl _))) (by simp [textD,textDs,textV,signD,sRef,sLen,sSize,sGetc,sPutc])⟩
 . obtain⟨rfl,_,rfl,rfl,rfl,x,a,rfl,h1,rfl⟩:=zfe (l0:=[40,112,117,116,99,32]) (l1:=[41]) hA (by decide) (by decide) h;exact⟨by simp [mayD,mayDs,mayDa,formD,plainD,manyD,h1.1],ze7 ((Rel.refl [40,112,117,116,99,32]).app (h1.2.app (Rel.refl _))) (by simp [textD,textDs,textV,signD,sRef,sLen,sSize,sGetc,sPutc])⟩
theorem kd_expr {args:List Nd} {arms:List (Nd×Nd)} {nm st s:List UInt8} {k n pos:Int} {ls:List (List UInt8)} (hA:∀ y∈args,∀ s,showE y=some s->KE y s) (hM:∀ q∈arms,(∀ s,showP q.1=some s->KP q.1 s)/\∀ s,showE q.2=some s->KE q.2 s) (hF:∀ y∈args,∀ s,showF [y]=some s->KF y s)
 (h:exprV ⟨k,pos,nm,n,st,ls⟩ (args.map showE) (arms.map fun q=>armV (showP q.1) (showE q.2)) (showF args)=some s):KE (mkX k pos nm n st ls args arms) s:=by
 unfold exprV at h;by_cases h19:k=19
 . subst h19;rw[if_pos rfl] at h;exact kd_op hA h
 rw[if_neg h19] at h;obtain⟨hne,h⟩:=xZ h;obtain⟨h0,h1⟩:=uv hne;have h0:0<=k:=h0;have h1:k<23:=h1;have hk:k=0∨k=1∨k=2∨k=3∨k=4∨k=5∨k=6∨k=7∨k=8∨k=9∨k=10∨k=11∨k=12∨k=13∨k=14∨k=15∨k=16∨k=17∨k=18∨k=19∨k=20∨k=21∨k=22:=by omega
 rcases hk with rfl | rfl | rfl | rfl | rfl | rfl | rfl | rfl | rfl | rfl | rfl | rfl | rfl | rfl | rfl | rfl | rfl | rfl | rfl | rfl | rfl | rfl | rfl
 . exact absurd rfl hne
 . obtain⟨hn,r,h2,rfl⟩:=r9 (f:=[]) h;obtain⟨rfl,h3⟩:=zX h2;simp only[Sn.mk.injEq] at h3;obtain⟨_,rfl,rfl,rfl,h4,h5⟩:=h3;obtain rfl:args=[]:=by simpa using h4
   obtain rfl:arms=[]:=by simpa using h5
   rw[List.append_nil];exact⟨by simp [mayD,mayDs,mayDa,formD,plainD,hn],.inl rfl⟩
 . obtain⟨hn,r,h2,rfl⟩:=inv_N (f:=[]) h;obtain⟨rfl,h3⟩:=zX h2;simp only[Sn.mk.injEq] at h3;obtain⟨rfl,_,rfl,rfl,h4,h5⟩:=h3;obtain rfl:args=[]:=by simpa using h4
   obtain rfl:arms=[]:=by simpa using h5
   rw[List.append_nil];have hn:0<=n/\n<4611686018427387904:=hn;exact⟨by simp [mayD,mayDs,mayDa,formD,plainD];omega,.inl rfl⟩
 . obtain⟨r,h2,rfl⟩:=inv_S (f:=[]) h;obtain⟨rfl,h3⟩:=zX h2;simp only[Sn.mk.injEq] at h3;obtain⟨rfl,rfl,_,rfl,h4,h5⟩:=h3;obtain rfl:args=[]:=by simpa using h4
   obtain rfl:arms=[]:=by simpa using h5
   rw[List.append_nil];exact⟨by simp [mayD,mayDs,mayDa,formD,plainD],zgA st⟩
 . obtain⟨hn,r,h2,rfl⟩:=inv_T (f:=[]) h;obtain⟨rfl,h3⟩:=zX h2;simp only[Sn.mk.injEq] at h3;obtain⟨rfl,_,rfl,rfl,h4,h5⟩:=h3;obtain rfl:args=[]:=by simpa using h4
   obtain rfl:arms=[]:=by simpa using h5
   rw[List.append_nil];have hn:n=0∨n=1:=hn;rcases hn with rfl | rfl
   . exact⟨by simp [mayD,mayDs,mayDa,formD,plainD],.inl rfl⟩
   . exact⟨by simp [mayD,mayDs,mayDa,formD,plainD],.inl rfl⟩
 . obtain⟨rfl,h3⟩:=yr (l:=[40,41]) (by decide) h;simp only[Sn.mk.injEq] at h3;obtain⟨rfl,rfl,rfl,rfl,h4,h5⟩:=h3;obtain rfl:args=[]:=by simpa using h4
   obtain rfl:arms=[]:=by simpa using h5
   exact⟨by simp [mayD,mayDs,mayDa,formD,plainD],.inl rfl⟩
 . obtain⟨hn,r,h2,rfl⟩:=inv_X (f:=[]) h;obtain⟨rfl,h3⟩:=zX h2;simp only[Sn.mk.injEq] at h3;obtain⟨_,rfl,rfl,rfl,h4,h5⟩:=h3;obtain rfl:args=[]:=by simpa using h4
   obtain rfl:arms=[]:=by simpa using h5
   rw[List.append_nil];exact⟨by simp [mayD,mayDs,mayDa,formD,plainD,hn],.inl rfl⟩
 . obtain⟨hn,rfl,rfl,rfl,rfl,x,a,rfl,h1,rfl⟩:=kd_nam1 (l0:=[40,102,117,110,32]) (l1:=[32,45,62,32]) (l2:=[41]) hA (by decide) (by decide) (by decide) h;exact⟨by simp [mayD,mayDs,mayDa,formD,plainD,hn,h1.1],((Rel.refl _).app ((Rel.refl _).app ((Rel.refl _).app (h1.2.app (Rel.refl _)))))⟩
 . obtain⟨rfl,rfl,rfl,rfl,rfl,x,y,a,b,rfl,h1,h2,rfl⟩:=rb (l0:=[40]) (l1:=[32]) (l2:=[41]) hA (by decide) (by decide) (by decide) h;exact⟨by simp [mayD,mayDs,mayDa,formD,plainD,manyD,h1.1,h2.1],((Rel.refl _).app (h1.2.app ((Rel.refl _).app (h2.2.app (Rel.refl _)))))⟩
 . have h:formV ([40,108,101,116,32]++120::([32,61,32]++65::([32,105,110,32]++66::[41]))) ⟨nm,n,st,ls,args.map showE,arms.map fun q=>armV (showP q.1) (showE q.2)⟩=some s:=h;obtain⟨r1,h2,rfl⟩:=zy (by decide) h;obtain⟨hn,r2,h3,rfl⟩:=r9 h2;obtain⟨_,rfl,rfl,rfl,rfl,x,y,a,b,rfl,h5,h6,rfl⟩:=rb hA (by decide) (by decide) (by decide) h3;exact⟨by simp [mayD,mayDs,mayDa,formD,plainD,hn,h5.1,h6.1],((Rel.refl _).app ((Rel.refl _).app ((Rel.refl _).app (h5.2.app ((Rel.refl _).app (h6.2.app (Rel.refl _)))))))⟩
 . have h:formV ([40,108,101,116,32,114,101,99,32]++120::([32,61,32]++65::([32,105,110,32]++66::[41]))) ⟨nm,n,st,ls,(match args.map showE with | []=>[] | _::l=>showF args::l),arms.map fun q=>armV (showP q.1) (showE q.2)⟩=some s:=h
   obtain⟨r1,h2,rfl⟩:=zy (by decide) h;obtain⟨hn,r2,h3,rfl⟩:=r9 h2;obtain⟨r3,h4,rfl⟩:=zy (by decide) h3;obtain⟨a,l,h5,r4,h6,rfl⟩:=wq (.inl rfl) h4;obtain⟨r5,h7,rfl⟩:=zy (by decide) h6;obtain⟨b,l',h8,r6,h9,rfl⟩:=wq (.inr (.inl rfl)) h7;obtain⟨rfl,h10⟩:=yr (by decide) h9;simp only[Sn.mk.injEq] at h10;obtain⟨_,rfl,rfl,rfl,rfl,h11⟩:=h10;obtain rfl:arms=[]:=by simpa using h11
   cases args with
   | nil=>cases h5
   | cons x m =>
    rw[List.map_cons] at h5;have h5:showF (x::m)::m.map showE=some a::l:=h5;obtain⟨g1,g2⟩:=List.cons.inj h5;obtain⟨y,m',rfl,hy,hm'⟩:=xg (g2.trans h8);obtain rfl:m'=[]:=by simpa using hm'
    have g1:showF [x]=some a:=by
     cases x;exact g1
    obtain⟨k7,kx,t,ht,hr⟩:=hF x (by simp) a g1;obtain⟨ky,k4⟩:=hA y (by simp) b hy;have hf:formD (mkX 10 pos nm 0 [] [] [x,y] [])=true:=by
     simp [formD,plainD,hn,k7]
    refine⟨by show(formD (mkX 10 pos nm 0 [] [] [x,y] [])&&((mayD x&&(mayD y&&true))&&true))=true;rw[hf,kx,ky];rfl,?_⟩;have hi:insideD (textD x)=t:=by
     rw[ht];unfold insideD;rw[if_neg (by simp)];simp
    have e:textD (mkX 10 pos nm 0 [] [] [x,y] [])=[40,108,101,116,32,114,101,99,32]++(nm++([32,61,32]++(insideD (textD x)++([32,105,110,32]++(textD y++[41]))))):=rfl;rw[e,hi];exact((Rel.refl _).app ((Rel.refl _).app ((Rel.refl _).app (hr.app ((Rel.refl _).app (k4.app (Rel.refl _)))))))
 . obtain⟨rfl,rfl,rfl,rfl,rfl,x,y,z,a,b,c,rfl,k1,k2,k3,rfl⟩:=zgm (l0:=[40,105,102,32]) (l1:=[32,116,104,101,110,32]) (l2:=[32,101,108,115,101,32]) (l3:=[41]) hA (by decide) (by decide) (by decide) (by decide) h;exact⟨by simp [mayD,mayDs,mayDa,formD,plainD,k1.1,k2.1,k3.1],((Rel.refl _).app (k1.2.app ((Rel.refl _).app (k2.2.app ((Rel.refl _).app (k3.2.app (Rel.refl _)))))))⟩
 . obtain⟨r1,h2,rfl⟩:=zy (l:=[123]) (f:=[76,125]) (by decide) h;obtain⟨t,l,h3,r2,h4,rfl⟩:=inv_L h2;obtain⟨rfl,h5⟩:=yr (l:=[125]) (by decide) h4;simp only[Sn.mk.injEq] at h5;obtain⟨rfl,rfl,rfl,_,rfl,h6⟩:=h5;obtain rfl:arms=[]:=by simpa using h6
   obtain⟨g1,g2,g3,g4⟩:=zfv (K:=KE) (tx:=textD) (fun _ _ h=>h.2) ls args false t hA h3;have hm:mayDs args=true:=by
    rw[zfo,List.all_eq_true];intro y hy;obtain⟨u,hu⟩:=g3 y hy;exact(hA y hy u hu).1
   refine⟨by simp [mayD,mayDs,mayDa,formD,plainD,g1,g2,hm,- List.all_eq_true],?_⟩;have e:textD (mkX 12 pos [] 0 [] ls args [])=[123]++(fieldsD false ls (textDs args)++[125]):=rfl;rw[e,zfi];exact((Rel.refl _).app (g4.app (Rel.refl _)))
 . obtain⟨r1,h2,rfl⟩:=zy (by decide) (show formV ([123]++65::([32,119,105,116,104,32]++120::([32,61,32]++66::[125]))) ⟨nm,n,st,ls,args.map showE,arms.map fun q=>armV (showP q.1) (showE q.2)⟩=some s from h)
   obtain⟨a,l,h3,r2,h4,rfl⟩:=wq (.inl rfl) h2;obtain⟨r3,h5,rfl⟩:=zy (by decide) h4;obtain⟨hn,r4,h6,rfl⟩:=r9 h5;obtain⟨r5,h7,rfl⟩:=zy (by decide) h6;obtain⟨b,l',h8,r6,h9,rfl⟩:=wq (.inr (.inl rfl)) h7;obtain⟨rfl,h10⟩:=yr (by decide) h9;simp only[Sn.mk.injEq] at h10;obtain⟨_,rfl,rfl,rfl,rfl,h11⟩:=h10;obtain rfl:arms=[]:=by simpa using h11
   obtain⟨x,m,rfl,hx,hm⟩:=xg h3;obtain⟨y,m',rfl,hy,hm'⟩:=xg (hm.trans h8);obtain rfl:m'=[]:=by simpa using hm'
   have k1:=hA x (by simp) a hx;have k2:=hA y (by simp) b hy;exact⟨by simp [mayD,mayDs,mayDa,formD,plainD,hn,k1.1,k2.1],((Rel.refl _).app (k1.2.app ((Rel.refl _).app ((Rel.refl _).app ((Rel.refl _).app (k2.2.app (Rel.refl _)))))))⟩
 . obtain⟨a,l,h3,r2,h4,rfl⟩:=wq (.inl rfl) h;obtain⟨r3,h5,rfl⟩:=zy (l:=[46]) (f:=[120]) (by decide) h4;obtain⟨hn,r4,h6,rfl⟩:=r9 h5;obtain⟨rfl,h10⟩:=zX h6;simp only[Sn.mk.injEq] at h10;obtain⟨_,rfl,rfl,rfl,rfl,h11⟩:=h10;obtain rfl:arms=[]:=by simpa using h11
   obtain⟨x,m,rfl,hx,hm⟩:=xg h3;obtain rfl:m=[]:=by simpa using hm
   have k1:=hA x (by simp) a hx;rw[List.append_nil];exact⟨by simp [mayD,mayDs,mayDa,formD,plainD,hn,k1.1],(k1.2.app ((Rel.refl _).app (Rel.refl _)))⟩
 . obtain⟨r1,h2,rfl⟩:=zy (by decide) (show formV ([40,35]++88::([32]++65::[41])) ⟨nm,n,st,ls,args.map showE,arms.map fun q=>armV (showP q.1) (showE q.2)⟩=some s from h)
   obtain⟨hn,r2,h3,rfl⟩:=inv_X h2;obtain⟨_,rfl,rfl,rfl,rfl,x,a,rfl,k1,rfl⟩:=zfe hA (by decide) (by decide) h3;exact⟨by simp [mayD,mayDs,mayDa,formD,plainD,hn,k1.1],((Rel.refl _).app ((Rel.refl _).app ((Rel.refl _).app (k1.2.app (Rel.refl _)))))⟩
 . obtain⟨r1,h2,rfl⟩:=zy (by decide) (show formV ([40,109,97,116,99,104,32]++65::([32,119,105,116,104,32]++77::[32,101,110,100,41])) ⟨nm,n,st,ls,args.map showE,arms.map fun q=>armV (showP q.1) (showE q.2)⟩=some s from h)
   obtain⟨a,l,h3,r2,h4,rfl⟩:=wq (.inl rfl) h2;obtain⟨r3,h5,rfl⟩:=zy (by decide) h4;obtain⟨hne',t,h6,r4,h7,rfl⟩:=inv_M h5;obtain⟨rfl,h10⟩:=yr (by decide) h7;simp only[Sn.mk.injEq] at h10;obtain⟨rfl,rfl,rfl,rfl,rfl,_⟩:=h10;obtain⟨x,m,rfl,hx,hm⟩:=xg h3;obtain rfl:m=[]:=by simpa using hm
   have k1:=hA x (by simp) a hx;obtain⟨g1,g2⟩:=zgb arms false t hM h6;rw[← zfg] at g1;have hl:0<arms.length:=by
    cases arms with
    | nil=>exact absurd rfl hne'
    | cons=>simp
   refine⟨by simp [mayD,mayDs,mayDa,formD,plainD,k1.1,g1,hl,List.length_pos_iff.1 hl],?_⟩;have e:textD (mkX 16 pos [] 0 [] [] [x] arms)=[40,109,97,116,99,104,32]++(textD x++([32,119,105,116,104,32]++(armsD false (textDa arms)++[32,101,110,100,41]))):=rfl;rw[e,ze5];exact((Rel.refl _).app (k1.2.app ((Rel.refl _).app (g2.app (Rel.refl _)))))
 . obtain⟨r1,h2,rfl⟩:=zy (by decide) (show formV ([40,116,114,121,32]++65::([32,119,105,116,104,32]++77::[32,101,110,100,41])) ⟨nm,n,st,ls,args.map showE,arms.map fun q=>armV (showP q.1) (showE q.2)⟩=some s from h)
   obtain⟨a,l,h3,r2,h4,rfl⟩:=wq (.inl rfl) h2;obtain⟨r3,h5,rfl⟩:=zy (by decide) h4;obtain⟨hne',t,h6,r4,h7,rfl⟩:=inv_M h5;obtain⟨rfl,h10⟩:=yr (by decide) h7;simp only[Sn.mk.injEq] at h10;obtain⟨rfl,rfl,rfl,rfl,rfl,_⟩:=h10;obtain⟨x,m,rfl,hx,hm⟩:=xg h3;obtain rfl:m=[]:=by simpa using hm
   have k1:=hA x (by simp) a hx;obtain⟨g1,g2⟩:=zgb arms false t hM h6;rw[← zfg] at g1;have hl:0<arms.length:=by
    cases arms with
    | nil=>exact absurd rfl hne'
    | cons=>simp
   refine⟨by simp [mayD,mayDs,mayDa,formD,plainD,k1.1,g1,hl,List.length_pos_iff.1 hl],?_⟩;have e:textD (mkX 17 pos [] 0 [] [] [x] arms)=[40,116,114,121,32]++(textD x++([32,119,105,116,104,32]++(armsD false (textDa arms)++[32,101,110,100,41]))):=rfl;rw[e,ze5];exact((Rel.refl _).app (k1.2.app ((Rel.refl _).app (g2.app (Rel.refl _)))))
 . obtain⟨rfl,rfl,rfl,rfl,rfl,x,a,rfl,h1,rfl⟩:=zfe (l0:=[40,114,97,105,115,101,32]) (l1:=[41]) hA (by decide) (by decide) h;exact⟨by simp [mayD,mayDs,mayDa,formD,plainD,manyD,h1.1],((Rel.refl _).app (h1.2.app (Rel.refl _)))⟩
 . exact absurd rfl hne
 . obtain⟨rfl,rfl,rfl,rfl,rfl,x,y,a,b,rfl,h1,h2,rfl⟩:=rb (l0:=[40]) (l1:=[59,32]) (l2:=[41]) hA (by decide) (by decide) (by decide) h;exact⟨by simp [mayD,mayDs,mayDa,formD,plainD,manyD,h1.1,h2.1],((Rel.refl _).app (h1.2.app ((Rel.refl _).app (h2.2.app (Rel.refl _)))))⟩
 . obtain⟨rfl,rfl,rfl,rfl,rfl,x,y,a,b,rfl,h1,h2,rfl⟩:=rb (l0:=[40]) (l1:=[32,38,38,32]) (l2:=[41]) hA (by decide) (by decide) (by decide) h;exact⟨by simp [mayD,mayDs,mayDa,formD,plainD,manyD,h1.1,h2.1],((Rel.refl _).app (h1.2.app ((Rel.refl _).app (h2.2.app (Rel.refl _)))))⟩
 . obtain⟨rfl,rfl,rfl,rfl,rfl,x,y,a,b,rfl,h1,h2,rfl⟩:=rb (l0:=[40]) (l1:=[32,124,124,32]) (l2:=[41]) hA (by decide) (by decide) (by decide) h;exact⟨by simp [mayD,mayDs,mayDa,formD,plainD,manyD,h1.1,h2.1],((Rel.refl _).app (h1.2.app ((Rel.refl _).app (h2.2.app (Rel.refl _)))))⟩
theorem kd_fn {args:List Nd} {arms:List (Nd×Nd)} {nm st s:List UInt8} {k n pos:Int} {ls:List (List UInt8)} (hA:∀ y∈args,∀ s,showE y=some s->KE y s)
 (h:funV ⟨k,pos,nm,n,st,ls⟩ (args.map showE) (arms.map fun q=>armV (showP q.1) (showE q.2))=some s):KF (mkX k pos nm n st ls args arms) s:=by
 unfold funV at h
 split at h
 . rename_i h7;have h7:k=7:=h7;subst h7;obtain⟨hne,h⟩:=xZ h;obtain⟨hn,rfl,rfl,rfl,rfl,x,a,rfl,k1,rfl⟩:=kd_nam1 (l0:=[102,117,110,32]) (l1:=[32,45,62,32]) (l2:=[]) hA (by decide) (by decide) (by decide) h;refine⟨rfl,by simp [mayD,mayDs,mayDa,formD,plainD,hn,k1.1],[102,117,110,32]++(nm++([32,45,62,32]++(textD x++[]))),?_,((Rel.refl _).app ((Rel.refl _).app ((Rel.refl _).app (k1.2.app (Rel.refl _)))))⟩;have e:textD (mkX 7 pos nm 0 [] [] [x] [])=[40,102,117,110,32]++(nm++([32,45,62,32]++(textD x++[41]))):=rfl;rw[e];simp
 . cases h
theorem kd_pat {args:List Nd} {nm st s:List UInt8} {k n pos:Int} {ls:List (List UInt8)} (hA:∀ y∈args,∀ s,showP y=some s->KP y s)
 (h:patV ⟨k,pos,nm,n,st,ls⟩ (args.map showP)=some s):KP (mkX k pos nm n st ls args []) s:=by
 unfold patV at h
 split at h
 . cases h
 rename_i h2u
 split at h
 . rename_i h3;obtain⟨h3,hneg⟩:=h3;have h3:k=3:=h3;have hneg:n<0:=hneg;subst h3;obtain⟨_,h⟩:=xZ h;obtain⟨r1,h4,rfl⟩:=zy (l:=[45]) (f:=[78]) (by decide) h;obtain⟨hn,r2,h5,rfl⟩:=inv_N h4;obtain⟨rfl,h6⟩:=zX h5;simp only[Sn.mk.injEq] at h6;obtain⟨rfl,_,rfl,rfl,h7,_⟩:=h6;obtain rfl:args=[]:=by simpa using h7
   have hne:¬n=-9223372036854775808:=fun e=>by
    subst e;have h9:=hn.1;rw[if_pos rfl] at h9;exact absurd (show(0:Int)<=-9223372036854775808 from h9) (by decide)
   have e:(if (⟨3,pos,[],n,[],[]⟩:Hd).n=-9223372036854775808 then(⟨3,pos,[],n,[],[]⟩:Hd).n else -(⟨3,pos,[],n,[],[]⟩:Hd).n)=-n:=if_neg hne
   rw[e] at hn ⊢;rw[List.append_nil];have hn:0<=-n/\-n<4611686018427387904:=hn;refine⟨by simp [patMayD,patMayDs,patFormD];omega,.inl ?_⟩;show [45]++Lib.itoa (-n)=Lib.itoa n;unfold Lib.itoa;rw[if_neg (by omega),if_pos hneg,show(-n).toNat=n.natAbs from by omega]
   simp
 rename_i hn3;obtain⟨hne,h⟩:=xZ h;obtain⟨h0,h1⟩:=uv hne;have h0:0<=k:=h0;have h1:k<10:=h1;have hk:k=0∨k=1∨k=2∨k=3∨k=4∨k=5∨k=6∨k=7∨k=8∨k=9:=by omega
 rcases hk with rfl | rfl | rfl | rfl | rfl | rfl | rfl | rfl | rfl | rfl
 . exact absurd rfl hne
 . obtain⟨rfl,h3⟩:=yr (l:=[95]) (by decide) h;simp only[Sn.mk.injEq] at h3;obtain⟨rfl,rfl,rfl,rfl,h4,_⟩:=h3;obtain rfl:args=[]:=by simpa using h4
   exact⟨by simp [patMayD,patMayDs,patFormD],.inl rfl⟩
 . obtain⟨hn,r,h2,rfl⟩:=r9 (f:=[]) h;obtain⟨rfl,h3⟩:=zX h2;simp only[Sn.mk.injEq] at h3;obtain⟨_,rfl,rfl,rfl,h4,_⟩:=h3;obtain rfl:args=[]:=by simpa using h4
   have hnu:nm≠[95]:=fun e=>h2u ⟨rfl,e⟩;rw[List.append_nil];exact⟨by simp [patMayD,patMayDs,patFormD,hn,hnu],.inl rfl⟩
 . obtain⟨hn,r,h2,rfl⟩:=inv_N (f:=[]) h;obtain⟨rfl,h3⟩:=zX h2;simp only[Sn.mk.injEq] at h3;obtain⟨rfl,_,rfl,rfl,h4,_⟩:=h3;obtain rfl:args=[]:=by simpa using h4
   rw[List.append_nil];have hn:0<=n/\n<4611686018427387904:=hn;exact⟨by simp [patMayD,patMayDs,patFormD];omega,.inl rfl⟩
 . obtain⟨r,h2,rfl⟩:=inv_S (f:=[]) h;obtain⟨rfl,h3⟩:=zX h2;simp only[Sn.mk.injEq] at h3;obtain⟨rfl,rfl,_,rfl,h4,_⟩:=h3;obtain rfl:args=[]:=by simpa using h4
   rw[List.append_nil];exact⟨by simp [patMayD,patMayDs,patFormD],zgA st⟩
 . obtain⟨hn,r,h2,rfl⟩:=inv_T (f:=[]) h;obtain⟨rfl,h3⟩:=zX h2;simp only[Sn.mk.injEq] at h3;obtain⟨rfl,_,rfl,rfl,h4,_⟩:=h3;obtain rfl:args=[]:=by simpa using h4
   rw[List.append_nil];have hn:n=0∨n=1:=hn;rcases hn with rfl | rfl
   . exact⟨by simp [patMayD,patMayDs,patFormD],.inl rfl⟩
   . exact⟨by simp [patMayD,patMayDs,patFormD],.inl rfl⟩
 . obtain⟨rfl,h3⟩:=yr (l:=[40,41]) (by decide) h;simp only[Sn.mk.injEq] at h3;obtain⟨rfl,rfl,rfl,rfl,h4,_⟩:=h3;obtain rfl:args=[]:=by simpa using h4
   exact⟨by simp [patMayD,patMayDs,patFormD],.inl rfl⟩
 . obtain⟨hn,r,h2,rfl⟩:=inv_X (f:=[]) h;obtain⟨rfl,h3⟩:=zX h2;simp only[Sn.mk.injEq] at h3;obtain⟨_,rfl,rfl,rfl,h4,_⟩:=h3;obtain rfl:args=[]:=by simpa using h4
   rw[List.append_nil];exact⟨by simp [patMayD,patMayDs,patFormD,hn],.inl rfl⟩
 . obtain⟨r1,h2,rfl⟩:=zy (by decide) (show formV ([40,35]++88::([32]++65::[41])) ⟨nm,n,st,ls,args.map showP,[]⟩=some s from h)
   obtain⟨hn,r2,h3,rfl⟩:=inv_X h2;obtain⟨r3,h4,rfl⟩:=zy (by decide) h3;obtain⟨a,l,h5,r4,h6,rfl⟩:=wq (.inl rfl) h4;obtain⟨rfl,h7⟩:=yr (by decide) h6;simp only[Sn.mk.injEq] at h7;obtain⟨_,rfl,rfl,rfl,rfl,_⟩:=h7;obtain⟨x,m,rfl,hx,hm⟩:=ps_cons h5;obtain rfl:m=[]:=by simpa using hm
   have k1:=hA x (by simp) a hx;exact⟨by simp [patMayD,patMayDs,patFormD,hn,k1.1],((Rel.refl _).app ((Rel.refl _).app ((Rel.refl _).app (k1.2.app (Rel.refl _)))))⟩
 . obtain⟨r1,h2,rfl⟩:=zy (l:=[123]) (f:=[76,125]) (by decide) h;obtain⟨t,l,h3,r2,h4,rfl⟩:=inv_L h2;obtain⟨rfl,h5⟩:=yr (l:=[125]) (by decide) h4;simp only[Sn.mk.injEq] at h5;obtain⟨rfl,rfl,rfl,_,rfl,_⟩:=h5;obtain⟨g1,g2,g3,g4⟩:=zfv (K:=KP) (tx:=patTextD) (fun _ _ h=>h.2) ls args false t hA h3;have hm:patMayDs args=true:=by
    rw[zfb,List.all_eq_true];intro y hy;obtain⟨u,hu⟩:=g3 y hy;exact(hA y hy u hu).1
   refine⟨by simp [patMayD,patMayDs,patFormD,g1,g2,hm,- List.all_eq_true],?_⟩;have e:patTextD (mkX 9 pos [] 0 [] ls args [])=[123]++(fieldsD false ls (patTextDs args)++[125]):=rfl;rw[e,zfa];exact((Rel.refl _).app (g4.app (Rel.refl _)))
theorem zgd:∀ x:Nd,((∀ s,showE x=some s->KE x s)/\∀ s,showF [x]=some s->KF x s)/\∀ s,showP x=some s->KP x s:=by
 refine xw fun h l a hl ha=>?_;have hA:∀ y∈l,∀ s,showE y=some s->KE y s:=fun y hy=>(hl y hy).1.1;refine⟨⟨fun s hs=>?_,fun s hs=>?_⟩,fun s hs=>?_⟩
 . have hs:exprV h (showEs l) (showAs a) (showF l)=some s:=hs;rw[yf,yd] at hs;exact kd_expr hA (fun q hq=>⟨(ha q hq).1.2,(ha q hq).2.1.1⟩) (fun y hy=>(hl y hy).1.2) hs
 . have hs:funV h (showEs l) (showAs a)=some s:=hs;rw[yf,yd] at hs;exact kd_fn hA hs
 . have hs:patV h (showPs l)=some s:=hs;rw[xD] at hs;exact kd_pat (fun y hy=>(hl y hy).2) hs
end
section
open Go.RowKit
def PrE (x:Nd):Prop:=∃ s,showE x=some s
def PrP (x:Nd):Prop:=∃ s,showP x=some s
def PrF (x:Nd):Prop:=∃ s,showF [x]=some s
def Pr (f:List UInt8) (x:Sn):Prop:=∃ s,formV f x=some s
theorem xI {c:UInt8} {f:List UInt8} {x y:Sn} {t:List UInt8} (h:stepV c.toNat x=some (t,y)) (hf:Pr f y):Pr (c::f) x:=by
 obtain⟨s,hs⟩:=hf;exact⟨t++s,by rw[formV,h];simp only[hs];rfl⟩
theorem zK:∀{l f:List UInt8} {x:Sn},l.all litC=true->Pr f x->Pr (l++f) x
 | [],_,_,_,h=>h
 | c::l,f,x,hl,h=>by
  rw[List.all_cons,Bool.and_eq_true] at hl;exact xI (zaw hl.1 x) (zK hl.2 h)
theorem zU {l:List UInt8} (hl:l.all litC=true):Pr l ⟨[],0,[],[],[],[]⟩:=by
 have:=zK (f:=[]) hl (x:=⟨[],0,[],[],[],[]⟩) ⟨[],rfl⟩
 rwa [List.append_nil] at this
section
variable {f nm st : List UInt8} {n : Int} {ls : List (List UInt8)} {az ar : List (Option (List UInt8))}
theorem pr_x (hn:isNam nm=true) (h:Pr f ⟨[],n,st,ls,az,ar⟩):Pr (120::f) ⟨nm,n,st,ls,az,ar⟩:=xI (t:=nm) (show(if isNam nm then some (nm,(⟨[],n,st,ls,az,ar⟩:Sn)) else none)=_ from if_pos hn) h
theorem pr_X (hn:isUpN nm=true) (h:Pr f ⟨[],n,st,ls,az,ar⟩):Pr (88::f) ⟨nm,n,st,ls,az,ar⟩:=xI (t:=nm) (show(if isUpN nm then some (nm,(⟨[],n,st,ls,az,ar⟩:Sn)) else none)=_ from if_pos hn) h
theorem pr_N (hn:0<=n/\n<4611686018427387904) (h:Pr f ⟨nm,0,st,ls,az,ar⟩):Pr (78::f) ⟨nm,n,st,ls,az,ar⟩:=xI (t:=Lib.itoa n) (show(if 0<=n/\n<4611686018427387904 then some (Lib.itoa n,(⟨nm,0,st,ls,az,ar⟩:Sn)) else none)=_ from if_pos hn) h
theorem pr_T (hn:n=0∨n=1) (h:Pr f ⟨nm,0,st,ls,az,ar⟩):Pr (84::f) ⟨nm,n,st,ls,az,ar⟩:=by
 rcases hn with rfl | rfl
 . exact xI (t:=[102,97,108,115,101]) rfl h
 . exact xI (t:=[116,114,117,101]) rfl h
theorem pr_S (h:Pr f ⟨nm,n,[],ls,az,ar⟩):Pr (83::f) ⟨nm,n,st,ls,az,ar⟩:=xI (t:=qall (st.take 4096)) rfl h
theorem pr_A {c:UInt8} (hc:c=65∨c=66∨c=67) {a:Option (List UInt8)} {l:List (Option (List UInt8))} (ha:∃ s,a=some s) (h:Pr f ⟨nm,n,st,ls,l,ar⟩):Pr (c::f) ⟨nm,n,st,ls,a::l,ar⟩:=by
 obtain⟨s,rfl⟩:=ha;rcases hc with rfl | rfl | rfl <;> exact xI (t:=s) rfl h
theorem zaQ:∀{more:Bool} {ls:List (List UInt8)} {az:List (Option (List UInt8))},ls.length=az.length->(∀ l∈ls,isNam l=true)->(∀ a∈az,∃ s,a=some s)->∃ t,fieldsV more ls az=some (t,[])
 | _,[],[],_,_,_=>⟨[],rfl⟩
 | _,[],_::_,h,_,_=>by cases h
 | _,_::_,[],h,_,_=>by cases h
 | more,l::ls,a::az,h,hn,ha=>by
  obtain⟨s,rfl⟩:=ha a (by simp);obtain⟨t,ht⟩:=zaQ (more:=true) (ls:=ls) (az:=az) (by simpa using h) (fun x hx=>hn x (by simp [hx])) (fun x hx=>ha x (by simp [hx]));exact⟨_,by rw[fieldsV,if_pos (hn l (by simp)),ht];rfl⟩
theorem pr_L (h1:ls.length=az.length) (h2:∀ l∈ls,isNam l=true) (h3:∀ a∈az,∃ s,a=some s) (h:Pr f ⟨nm,n,st,[],[],ar⟩):Pr (76::f) ⟨nm,n,st,ls,az,ar⟩:=by
 obtain⟨t,ht⟩:=zaQ (more:=false) h1 h2 h3;exact xI (t:=t) (show((fieldsV false ls az).map fun p=>(p.1,(⟨nm,n,st,[],p.2,ar⟩:Sn)))=_ by rw[ht];rfl) h
theorem zg8:∀{more:Bool} {ar:List (Option (List UInt8))},(∀ a∈ar,∃ s,a=some s)->∃ t,armsV more ar=some t
 | _,[],_=>⟨[],rfl⟩
 | more,a::ar,h=>by
  obtain⟨s,rfl⟩:=h a (by simp);obtain⟨t,ht⟩:=zg8 (more:=true) (ar:=ar) fun x hx=>h x (by simp [hx]);exact⟨_,by rw[armsV,ht];rfl⟩
theorem pr_M (hne:ar≠[]) (h3:∀ a∈ar,∃ s,a=some s) (h:Pr f ⟨nm,n,st,ls,az,[]⟩):Pr (77::f) ⟨nm,n,st,ls,az,ar⟩:=by
 obtain⟨t,ht⟩:=zg8 (more:=false) h3;exact xI (t:=t) (show(if ar=[] then none else(armsV false ar).map fun t=>(t,(⟨nm,n,st,ls,az,[]⟩:Sn)))=_ by rw[if_neg hne,ht];rfl) h
end
theorem uw {f:List UInt8} {x:Sn} (hf:f≠[]) (h:Pr f x):∃ s,putV f x=some s:=by
 unfold putV;rw[if_neg hf];exact h
theorem zZ {k pos n:Int} {nm st:List UInt8} {ls:List (List UInt8)} {args:List Nd} {arms:List (Nd×Nd)} {f:List UInt8} (h19:k≠19) (h10:k≠10) (hf:pickV k exprForms=f) (hne:f≠[]) (h:Pr f ⟨nm,n,st,ls,args.map showE,arms.map fun q=>armV (showP q.1) (showE q.2)⟩):PrE (.mk ⟨k,pos,nm,n,st,ls⟩ args arms):=by
 show ∃ s,exprV ⟨k,pos,nm,n,st,ls⟩ (showEs args) (showAs arms) (showF args)=some s;unfold exprV;rw[if_neg h19,hf,if_neg h10,yf,yd];exact uw hne h
theorem xb {pos n:Int} {nm st:List UInt8} {ls:List (List UInt8)} {args:List Nd} {arms:List (Nd×Nd)} {f:List UInt8} (hf:pickV n opForms=f) (hne:f≠[]) (h:Pr f ⟨nm,0,st,ls,args.map showE,arms.map fun q=>armV (showP q.1) (showE q.2)⟩):PrE (.mk ⟨19,pos,nm,n,st,ls⟩ args arms):=by
 show ∃ s,exprV ⟨19,pos,nm,n,st,ls⟩ (showEs args) (showAs arms) (showF args)=some s;unfold exprV;rw[if_pos rfl,hf,yf,yd];exact uw hne h
theorem wP {k pos n:Int} {nm st:List UInt8} {ls:List (List UInt8)} {args:List Nd} {arms:List (Nd×Nd)} {f:List UInt8} (h2:¬(k=2/\nm=[95])) (h3:¬(k=3/\n<0)) (hf:pickV k patForms=f) (hne:f≠[]) (h:Pr f ⟨nm,n,st,ls,args.map showP,[]⟩):PrP (.mk ⟨k,pos,nm,n,st,ls⟩ args arms):=by
 show ∃ s,patV ⟨k,pos,nm,n,st,ls⟩ (showPs args)=some s;unfold patV;rw[if_neg h2,if_neg h3,hf,xD];exact uw hne h
structure TokG (t:Tok):Prop where
 nam:t.1.kind=1->isNam t.1.text=true
 up:t.1.kind=2∨t.1.kind=3->isUpN t.1.text=true
 int:t.1.kind=4->0<=t.1.n/\t.1.n<4611686018427387904
def Md.keeps:Md->Prop
 | .cases k _=>k=16∨k=17
 | .arms l=>∀ q∈l,PrP q.1/\PrE q.2
 | .lvl _ e | .apps e | .dots e=>PrE e
 | .posts _ l=>∀ x∈l,PrE x
 | .field b ls l=>ls.length=l.length/\(∀ x∈ls,isNam x=true)/\∀ x∈l,if b=true then PrE x else PrP x
 | _=>True
def Md.tells:Md->Nd->Prop
 | .fn,x=>PrE x/\PrF x
 | .posts n l,x=>x.args.length=l.length+n/\∀ y∈x.args,PrE y
 | .arms _,x=>x.arms≠[]/\∀ q∈x.arms,PrP q.1/\PrE q.2
 | .fields b,x | .field b _ _,x=>x.hd.labels.length=x.args.length/\(∀ l∈x.hd.labels,isNam l=true)/\∀ y∈x.args,if b=true then PrE y else PrP y
 | .pat,x | .patom,x=>PrP x
 | _,x=>PrE x
def PM.told (o:Md):PM->Prop
 | .ret x=>o.tells x
 | .fail=>True
 | .call m k=>m.keeps/\∀ x,m.tells x->PM.told o (k x)
 | .acc p yes no=>(∀ t,p t=true->TokG t->PM.told o (yes t))/\PM.told o no
 | .look _ yes no=>PM.told o yes/\PM.told o no
 | .look2 _ _ yes no=>PM.told o yes/\PM.told o no
theorem yn {a b:Nd} (ha:PrE a) (hb:PrE b) (l1 l2 l0:List UInt8) (g0:l0.all litC=true) (g1:l1.all litC=true) (g2:l2.all litC=true):Pr (l0++65::(l1++66::l2)) ⟨[],0,[],[],[a,b].map showE,([]:List (Nd×Nd)).map fun q=>armV (showP q.1) (showE q.2)⟩ :=
 zK g0 (pr_A (.inl rfl) ha (zK g1 (pr_A (.inr (.inl rfl)) hb (zU g2))))
theorem xh {a:Nd} (ha:PrE a) (l0 l1:List UInt8) (g0:l0.all litC=true) (g1:l1.all litC=true):Pr (l0++65::l1) ⟨[],0,[],[],[a].map showE,([]:List (Nd×Nd)).map fun q=>armV (showP q.1) (showE q.2)⟩ :=
 zK g0 (pr_A (.inl rfl) ha (zU g1))
theorem zgW {a b c:Nd} (ha:PrE a) (hb:PrE b) (hc:PrE c) (l0 l1 l2 l3:List UInt8) (g0:l0.all litC=true) (g1:l1.all litC=true) (g2:l2.all litC=true) (g3:l3.all litC=true):Pr (l0++65::(l1++66::(l2++67::l3))) ⟨[],0,[],[],[a,b,c].map showE,([]:List (Nd×Nd)).map fun q=>armV (showP q.1) (showE q.2)⟩ :=
 zK g0 (pr_A (.inl rfl) ha (zK g1 (pr_A (.inr (.inl rfl)) hb (zK g2 (pr_A (.inr (.inr rfl)) hc (zU g3))))))
end
section
open Go.RowKit
theorem wy {b1 b2 b3:Bool} {la ag am k pos n:Int} {nm st:List UInt8} {ls:List (List UInt8)} {args:List Nd} {arms:List (Nd×Nd)} (h:plainD b1 b2 b3 la ag am (.mk ⟨k,pos,nm,n,st,ls⟩ args arms)=true) :
 (b1=false->nm=[])/\(b2=false->n=0)/\(b3=false->st=[])/\(ls.length:Int)=la/\(args.length:Int)=ag/\(arms.length:Int)=am:=by
 unfold plainD at h;dsimp only at h;simp only[Bool.and_eq_true,Bool.or_eq_true,decide_eq_true_eq] at h;obtain⟨h1,h2,h3,h4,h5,h6⟩:=h;refine⟨fun e=>?_,fun e=>?_,fun e=>?_,h4,h5,h6⟩
 . subst e;rcases h1 with h | h
   . cases h
   . exact h
 . subst e;rcases h2 with h | h
   . cases h
   . exact h
 . subst e;rcases h3 with h | h
   . cases h
   . exact h
theorem len0 {α:Type} {l:List α} (h:(l.length:Int)=0):l=[]:=List.eq_nil_of_length_eq_zero (by omega)
theorem len1 {α:Type} {l:List α} (h:(l.length:Int)=1):∃ x,l=[x]:=by
 rcases l with _ | ⟨x,_ | ⟨y,l⟩⟩
 . cases h
 . exact⟨x,rfl⟩
 . rw[List.length_cons,List.length_cons] at h;omega
theorem len2 {α:Type} {l:List α} (h:(l.length:Int)=2):∃ x y,l=[x,y]:=by
 rcases l with _ | ⟨x,l⟩
 . cases h
 . obtain⟨y,rfl⟩:=len1 (l:=l) (by rw[List.length_cons] at h;omega);exact⟨x,y,rfl⟩
theorem len3 {α:Type} {l:List α} (h:(l.length:Int)=3):∃ x y z,l=[x,y,z]:=by
 rcases l with _ | ⟨x,l⟩
 . cases h
 . obtain⟨y,z,rfl⟩:=len2 (l:=l) (by rw[List.length_cons] at h;omega);exact⟨x,y,z,rfl⟩
theorem say_expr {args:List Nd} {arms:List (Nd×Nd)} {nm st:List UInt8} {k n pos:Int} {ls:List (List UInt8)} (hA:∀ y∈args,PrE y) (hM:∀ q∈arms,PrP q.1/\PrE q.2) (hF:∀ y∈args,y.hd.kind=7->PrF y)
 (hf:formD (.mk ⟨k,pos,nm,n,st,ls⟩ args arms)=true):PrE (.mk ⟨k,pos,nm,n,st,ls⟩ args arms):=by
 unfold formD at hf;dsimp only at hf;by_cases e:k=1
 . rw[if_pos e] at hf
   try simp only[Bool.and_eq_true,Bool.or_eq_true,decide_eq_true_eq] at hf
   subst e;obtain⟨h1,h2,h3,h4,h5,h6⟩:=wy hf.1;obtain rfl:=h2 rfl;obtain rfl:=h3 rfl;obtain rfl:=len0 h4;obtain rfl:=len0 h6;obtain rfl:=len0 h5;exact zZ (f:=[120]) (by decide) (by decide) rfl (by decide) (pr_x hf.2 (zU (l:=[]) rfl))
 rw[if_neg e] at hf;clear e;by_cases e:k=6
 . rw[if_pos e] at hf
   try simp only[Bool.and_eq_true,Bool.or_eq_true,decide_eq_true_eq] at hf
   subst e;obtain⟨h1,h2,h3,h4,h5,h6⟩:=wy hf.1;obtain rfl:=h2 rfl;obtain rfl:=h3 rfl;obtain rfl:=len0 h4;obtain rfl:=len0 h6;obtain rfl:=len0 h5;exact zZ (f:=[88]) (by decide) (by decide) rfl (by decide) (pr_X hf.2 (zU (l:=[]) rfl))
 rw[if_neg e] at hf;clear e;by_cases e:k=2
 . rw[if_pos e] at hf
   try simp only[Bool.and_eq_true,Bool.or_eq_true,decide_eq_true_eq] at hf
   subst e;obtain⟨h1,h2,h3,h4,h5,h6⟩:=wy hf.1;obtain rfl:=h1 rfl;obtain rfl:=h3 rfl;obtain rfl:=len0 h4;obtain rfl:=len0 h6;obtain rfl:=len0 h5;exact zZ (f:=[78]) (by decide) (by decide) rfl (by decide) (pr_N ⟨hf.2.1,by have:=hf.2.2;omega⟩ (zU (l:=[]) rfl))
 rw[if_neg e] at hf;clear e;by_cases e:k=4
 . rw[if_pos e] at hf
   try simp only[Bool.and_eq_true,Bool.or_eq_true,decide_eq_true_eq] at hf
   subst e;obtain⟨h1,h2,h3,h4,h5,h6⟩:=wy hf.1;obtain rfl:=h1 rfl;obtain rfl:=h3 rfl;obtain rfl:=len0 h4;obtain rfl:=len0 h6;obtain rfl:=len0 h5;exact zZ (f:=[84]) (by decide) (by decide) rfl (by decide) (pr_T hf.2 (zU (l:=[]) rfl))
 rw[if_neg e] at hf;clear e;by_cases e:k=3
 . rw[if_pos e] at hf
   try simp only[Bool.and_eq_true,Bool.or_eq_true,decide_eq_true_eq] at hf
   subst e;obtain⟨h1,h2,h3,h4,h5,h6⟩:=wy hf;obtain rfl:=h1 rfl;obtain rfl:=h2 rfl;obtain rfl:=len0 h4;obtain rfl:=len0 h6;obtain rfl:=len0 h5;exact zZ (f:=[83]) (by decide) (by decide) rfl (by decide) (pr_S (zU (l:=[]) rfl))
 rw[if_neg e] at hf;clear e;by_cases e:k=5
 . rw[if_pos e] at hf
   try simp only[Bool.and_eq_true,Bool.or_eq_true,decide_eq_true_eq] at hf
   subst e;obtain⟨h1,h2,h3,h4,h5,h6⟩:=wy hf;obtain rfl:=h1 rfl;obtain rfl:=h2 rfl;obtain rfl:=h3 rfl;obtain rfl:=len0 h4;obtain rfl:=len0 h6;obtain rfl:=len0 h5;exact zZ (f:=[40,41]) (by decide) (by decide) rfl (by decide) (zU (by decide))
 rw[if_neg e] at hf;clear e;by_cases e:k=7∨k=14
 . rw[if_pos e] at hf
   try simp only[Bool.and_eq_true,Bool.or_eq_true,decide_eq_true_eq] at hf
   rcases e with rfl | rfl
   . skip
     obtain⟨h1,h2,h3,h4,h5,h6⟩:=wy hf.1;obtain rfl:=h2 rfl;obtain rfl:=h3 rfl;obtain rfl:=len0 h4;obtain rfl:=len0 h6;obtain⟨x,rfl⟩:=len1 h5;have hx:=hA x (by simp);exact zZ (f:=[40,102,117,110,32]++120::([32,45,62,32]++65::[41])) (by decide) (by decide) rfl (by decide) (zK (by decide) (pr_x hf.2 (xh hx _ _ (by decide) (by decide))))
   . skip
     obtain⟨h1,h2,h3,h4,h5,h6⟩:=wy hf.1;obtain rfl:=h2 rfl;obtain rfl:=h3 rfl;obtain rfl:=len0 h4;obtain rfl:=len0 h6;obtain⟨x,rfl⟩:=len1 h5;have hx:=hA x (by simp);exact zZ (f:=65::([46]++[120])) (by decide) (by decide) rfl (by decide) (pr_A (.inl rfl) hx (zK (by decide) (pr_x hf.2 (zU (l:=[]) rfl))))
 rw[if_neg e] at hf;clear e;by_cases e:k=15
 . rw[if_pos e] at hf
   try simp only[Bool.and_eq_true,Bool.or_eq_true,decide_eq_true_eq] at hf
   subst e;obtain⟨h1,h2,h3,h4,h5,h6⟩:=wy hf.1;obtain rfl:=h2 rfl;obtain rfl:=h3 rfl;obtain rfl:=len0 h4;obtain rfl:=len0 h6;obtain⟨x,rfl⟩:=len1 h5;have hx:=hA x (by simp);exact zZ (f:=[40,35]++88::([32]++65::[41])) (by decide) (by decide) rfl (by decide) (zK (by decide) (pr_X hf.2 (xh hx _ _ (by decide) (by decide))))
 rw[if_neg e] at hf;clear e;by_cases e:k=18
 . rw[if_pos e] at hf
   try simp only[Bool.and_eq_true,Bool.or_eq_true,decide_eq_true_eq] at hf
   subst e;obtain⟨h1,h2,h3,h4,h5,h6⟩:=wy hf;obtain rfl:=h1 rfl;obtain rfl:=h2 rfl;obtain rfl:=h3 rfl;obtain rfl:=len0 h4;obtain rfl:=len0 h6;obtain⟨x,rfl⟩:=len1 h5;have hx:=hA x (by simp);exact zZ (f:=[40,114,97,105,115,101,32]++65::[41]) (by decide) (by decide) rfl (by decide) (xh hx _ _ (by decide) (by decide))
 rw[if_neg e] at hf;clear e;by_cases e:k=8∨k=20∨k=21∨k=22
 . rw[if_pos e] at hf
   try simp only[Bool.and_eq_true,Bool.or_eq_true,decide_eq_true_eq] at hf
   rcases e with rfl | rfl | rfl | rfl
   . skip
     obtain⟨h1,h2,h3,h4,h5,h6⟩:=wy hf;obtain rfl:=h1 rfl;obtain rfl:=h2 rfl;obtain rfl:=h3 rfl;obtain rfl:=len0 h4;obtain rfl:=len0 h6;obtain⟨x,y,rfl⟩:=len2 h5;have hx:=hA x (by simp);have hy:=hA y (by simp);exact zZ (f:=[40]++65::([32]++66::[41])) (by decide) (by decide) rfl (by decide) (yn hx hy _ _ _ (by decide) (by decide) (by decide))
   . skip
     obtain⟨h1,h2,h3,h4,h5,h6⟩:=wy hf;obtain rfl:=h1 rfl;obtain rfl:=h2 rfl;obtain rfl:=h3 rfl;obtain rfl:=len0 h4;obtain rfl:=len0 h6;obtain⟨x,y,rfl⟩:=len2 h5;have hx:=hA x (by simp);have hy:=hA y (by simp);exact zZ (f:=[40]++65::([59,32]++66::[41])) (by decide) (by decide) rfl (by decide) (yn hx hy _ _ _ (by decide) (by decide) (by decide))
   . skip
     obtain⟨h1,h2,h3,h4,h5,h6⟩:=wy hf;obtain rfl:=h1 rfl;obtain rfl:=h2 rfl;obtain rfl:=h3 rfl;obtain rfl:=len0 h4;obtain rfl:=len0 h6;obtain⟨x,y,rfl⟩:=len2 h5;have hx:=hA x (by simp);have hy:=hA y (by simp);exact zZ (f:=[40]++65::([32,38,38,32]++66::[41])) (by decide) (by decide) rfl (by decide) (yn hx hy _ _ _ (by decide) (by decide) (by decide))
   . skip
     obtain⟨h1,h2,h3,h4,h5,h6⟩:=wy hf;obtain rfl:=h1 rfl;obtain rfl:=h2 rfl;obtain rfl:=h3 rfl;obtain rfl:=len0 h4;obtain rfl:=len0 h6;obtain⟨x,y,rfl⟩:=len2 h5;have hx:=hA x (by simp);have hy:=hA y (by simp);exact zZ (f:=[40]++65::([32,124,124,32]++66::[41])) (by decide) (by decide) rfl (by decide) (yn hx hy _ _ _ (by decide) (by decide) (by decide))
 rw[if_neg e] at hf;clear e;by_cases e:k=9∨k=13
 . rw[if_pos e] at hf
   try simp only[Bool.and_eq_true,Bool.or_eq_true,decide_eq_true_eq] at hf
   rcases e with rfl | rfl
   . skip
     obtain⟨h1,h2,h3,h4,h5,h6⟩:=wy hf.1;obtain rfl:=h2 rfl;obtain rfl:=h3 rfl;obtain rfl:=len0 h4;obtain rfl:=len0 h6;obtain⟨x,y,rfl⟩:=len2 h5;have hx:=hA x (by simp);have hy:=hA y (by simp);exact zZ (f:=[40,108,101,116,32]++120::([32,61,32]++65::([32,105,110,32]++66::[41]))) (by decide) (by decide) rfl (by decide) (zK (by decide) (pr_x hf.2 (yn hx hy _ _ _ (by decide) (by decide) (by decide))))
   . skip
     obtain⟨h1,h2,h3,h4,h5,h6⟩:=wy hf.1;obtain rfl:=h2 rfl;obtain rfl:=h3 rfl;obtain rfl:=len0 h4;obtain rfl:=len0 h6;obtain⟨x,y,rfl⟩:=len2 h5;have hx:=hA x (by simp);have hy:=hA y (by simp);exact zZ (f:=[123]++65::([32,119,105,116,104,32]++120::([32,61,32]++66::[125]))) (by decide) (by decide) rfl (by decide) (zK (by decide) (pr_A (.inl rfl) hx (zK (by decide) (pr_x hf.2 (zK (by decide) (pr_A (.inr (.inl rfl)) hy (zU (by decide))))))))
 rw[if_neg e] at hf;clear e;by_cases e:k=10
 . rw[if_pos e] at hf
   try simp only[Bool.and_eq_true,Bool.or_eq_true,decide_eq_true_eq] at hf
   subst e;obtain⟨h1,h2,h3,h4,h5,h6⟩:=wy hf.1;obtain rfl:=h2 rfl;obtain rfl:=h3 rfl;obtain rfl:=len0 h4;obtain rfl:=len0 h6;obtain⟨x,y,rfl⟩:=len2 h5;have hx:=hA x (by simp);have hy:=hA y (by simp);have hx:=hF x (by simp) (of_decide_eq_true hf.2.2);have e:showF [x,y]=showF [x]:=by cases x;rfl
   show ∃ s,exprV _ (showEs [x,y]) (showAs []) (showF [x,y])=some s;unfold exprV;rw[if_neg (show ¬(10:Int)=19 by decide),yf,yd,e];refine uw (show pickV 10 exprForms≠[] by decide) (show Pr ([40,108,101,116,32,114,101,99,32]++120::([32,61,32]++65::([32,105,110,32]++66::[41]))) ⟨nm,0,[],[],[showF [x],showE y],[]⟩ from ?_)
   exact zK (by decide) (pr_x hf.2.1 (zK (by decide) (pr_A (.inl rfl) hx (zK (by decide) (pr_A (.inr (.inl rfl)) hy (zU (by decide)))))))
 rw[if_neg e] at hf;clear e;by_cases e:k=11
 . rw[if_pos e] at hf
   try simp only[Bool.and_eq_true,Bool.or_eq_true,decide_eq_true_eq] at hf
   subst e;obtain⟨h1,h2,h3,h4,h5,h6⟩:=wy hf;obtain rfl:=h1 rfl;obtain rfl:=h2 rfl;obtain rfl:=h3 rfl;obtain rfl:=len0 h4;obtain rfl:=len0 h6;obtain⟨x,y,z,rfl⟩:=len3 h5;have hx:=hA x (by simp);have hy:=hA y (by simp);have hz:=hA z (by simp);exact zZ (f:=[40,105,102,32]++65::([32,116,104,101,110,32]++66::([32,101,108,115,101,32]++67::[41]))) (by decide) (by decide) rfl (by decide) (zgW hx hy hz _ _ _ _ (by decide) (by decide) (by decide) (by decide))
 rw[if_neg e] at hf;clear e;by_cases e:k=12
 . rw[if_pos e] at hf
   try simp only[Bool.and_eq_true,Bool.or_eq_true,decide_eq_true_eq] at hf
   subst e;obtain⟨h1,h2,h3,h4,h5,h6⟩:=wy hf.2;obtain rfl:=h1 rfl;obtain rfl:=h2 rfl;obtain rfl:=h3 rfl;obtain rfl:=len0 h6;have hl:ls.length=(args.map showE).length:=by rw[List.length_map];omega
   exact zZ (f:=[123]++76::[125]) (by decide) (by decide) rfl (by decide) (zK (by decide) (pr_L hl (fun l hl=>List.all_eq_true.1 hf.1 l hl) (fun a ha=>by obtain⟨y,hy,rfl⟩:=List.mem_map.1 ha;exact hA y hy) (zU (by decide))))
 rw[if_neg e] at hf;clear e;by_cases e:k=16∨k=17
 . rw[if_pos e] at hf
   try simp only[Bool.and_eq_true,Bool.or_eq_true,decide_eq_true_eq] at hf
   rcases e with rfl | rfl
   . skip
     obtain⟨h1,h2,h3,h4,h5,h6⟩:=wy hf.2;obtain rfl:=h1 rfl;obtain rfl:=h2 rfl;obtain rfl:=h3 rfl;obtain rfl:=len0 h4;obtain⟨x,rfl⟩:=len1 h5;have hx:=hA x (by simp);have hne:(arms.map fun q=>armV (showP q.1) (showE q.2))≠[]:=by
      intro e;have:=hf.1;rw[List.map_eq_nil_iff] at e;subst e;exact absurd this (by decide)
     have hm:∀ a∈(arms.map fun q=>armV (showP q.1) (showE q.2)),∃ s,a=some s:=fun a ha=>by
      obtain⟨q,hq,rfl⟩:=List.mem_map.1 ha;obtain⟨⟨s,hs⟩,t,ht⟩:=hM q hq;exact⟨_,by rw[hs,ht];rfl⟩
     exact zZ (f:=[40,109,97,116,99,104,32]++65::([32,119,105,116,104,32]++77::[32,101,110,100,41])) (by decide) (by decide) rfl (by decide) (zK (by decide) (pr_A (.inl rfl) hx (zK (by decide) (pr_M hne hm (zU (by decide))))))
   . skip
     obtain⟨h1,h2,h3,h4,h5,h6⟩:=wy hf.2;obtain rfl:=h1 rfl;obtain rfl:=h2 rfl;obtain rfl:=h3 rfl;obtain rfl:=len0 h4;obtain⟨x,rfl⟩:=len1 h5;have hx:=hA x (by simp);have hne:(arms.map fun q=>armV (showP q.1) (showE q.2))≠[]:=by
      intro e;have:=hf.1;rw[List.map_eq_nil_iff] at e;subst e;exact absurd this (by decide)
     have hm:∀ a∈(arms.map fun q=>armV (showP q.1) (showE q.2)),∃ s,a=some s:=fun a ha=>by
      obtain⟨q,hq,rfl⟩:=List.mem_map.1 ha;obtain⟨⟨s,hs⟩,t,ht⟩:=hM q hq;exact⟨_,by rw[hs,ht];rfl⟩
     exact zZ (f:=[40,116,114,121,32]++65::([32,119,105,116,104,32]++77::[32,101,110,100,41])) (by decide) (by decide) rfl (by decide) (zK (by decide) (pr_A (.inl rfl) hx (zK (by decide) (pr_M hne hm (zU (by decide))))))
 rw[if_neg e] at hf;clear e;by_cases e:k=19
 . rw[if_pos e] at hf
   try simp only[Bool.and_eq_true,Bool.or_eq_true,decide_eq_true_eq] at hf
   subst e;obtain⟨h1,h2,h3,h4,h5,h6⟩:=wy hf.2;obtain rfl:=h1 rfl;obtain rfl:=h3 rfl;obtain rfl:=len0 h4;obtain rfl:=len0 h6;have hn:=hf.1;have hr:1<=n/\n<=21:=by
    unfold manyD at hn
    split at hn
    . omega
    split at hn
    . omega
    split at hn
    . exact absurd hn (by decide)
    . omega
   have hn:n=1∨n=2∨n=3∨n=4∨n=5∨n=6∨n=7∨n=8∨n=9∨n=10∨n=11∨n=12∨n=13∨n=14∨n=15∨n=16∨n=17∨n=18∨n=19∨n=20∨n=21:=by omega
   rcases hn with rfl | rfl | rfl | rfl | rfl | rfl | rfl | rfl | rfl | rfl | rfl | rfl | rfl | rfl | rfl | rfl | rfl | rfl | rfl | rfl | rfl
   . obtain⟨x,y,rfl⟩:=len2 h5;exact xb (f:=[40]++65::([32,43,32]++66::[41])) rfl (by decide) (yn (hA x (by simp)) (hA y (by simp)) _ _ _ (by decide) (by decide) (by decide))
   . obtain⟨x,y,rfl⟩:=len2 h5;exact xb (f:=[40]++65::([32,45,32]++66::[41])) rfl (by decide) (yn (hA x (by simp)) (hA y (by simp)) _ _ _ (by decide) (by decide) (by decide))
   . obtain⟨x,y,rfl⟩:=len2 h5;exact xb (f:=[40]++65::([32,42,32]++66::[41])) rfl (by decide) (yn (hA x (by simp)) (hA y (by simp)) _ _ _ (by decide) (by decide) (by decide))
   . obtain⟨x,y,rfl⟩:=len2 h5;exact xb (f:=[40]++65::([32,47,32]++66::[41])) rfl (by decide) (yn (hA x (by simp)) (hA y (by simp)) _ _ _ (by decide) (by decide) (by decide))
   . obtain⟨x,y,rfl⟩:=len2 h5;exact xb (f:=[40]++65::([32,37,32]++66::[41])) rfl (by decide) (yn (hA x (by simp)) (hA y (by simp)) _ _ _ (by decide) (by decide) (by decide))
   . obtain⟨x,rfl⟩:=len1 h5;exact xb (f:=[40,45,32]++65::[41]) rfl (by decide) (xh (hA x (by simp)) _ _ (by decide) (by decide))
   . obtain⟨x,y,rfl⟩:=len2 h5;exact xb (f:=[40]++65::([32,61,32]++66::[41])) rfl (by decide) (yn (hA x (by simp)) (hA y (by simp)) _ _ _ (by decide) (by decide) (by decide))
   . obtain⟨x,y,rfl⟩:=len2 h5;exact xb (f:=[40]++65::([32,60,32]++66::[41])) rfl (by decide) (yn (hA x (by simp)) (hA y (by simp)) _ _ _ (by decide) (by decide) (by decide))
   . obtain⟨x,rfl⟩:=len1 h5;exact xb (f:=[40,110,111,116,32]++65::[41]) rfl (by decide) (xh (hA x (by simp)) _ _ (by decide) (by decide))
   . obtain⟨x,rfl⟩:=len1 h5;exact xb (f:=[40,114,101,102,32]++65::[41]) rfl (by decide) (xh (hA x (by simp)) _ _ (by decide) (by decide))
   . obtain⟨x,rfl⟩:=len1 h5;exact xb (f:=[40,33,32]++65::[41]) rfl (by decide) (xh (hA x (by simp)) _ _ (by decide) (by decide))
   . obtain⟨x,y,rfl⟩:=len2 h5;exact xb (f:=[40]++65::([32,58,61,32]++66::[41])) rfl (by decide) (yn (hA x (by simp)) (hA y (by simp)) _ _ _ (by decide) (by decide) (by decide))
   . obtain⟨x,y,rfl⟩:=len2 h5;exact xb (f:=[40,97,114,114,97,121,32]++65::([32]++66::[41])) rfl (by decide) (yn (hA x (by simp)) (hA y (by simp)) _ _ _ (by decide) (by decide) (by decide))
   . obtain⟨x,y,rfl⟩:=len2 h5;exact xb (f:=[40,103,101,116,32]++65::([32]++66::[41])) rfl (by decide) (yn (hA x (by simp)) (hA y (by simp)) _ _ _ (by decide) (by decide) (by decide))
   . obtain⟨x,y,z,rfl⟩:=len3 h5;exact xb (f:=[40,115,101,116,32]++65::([32]++66::([32]++67::[41]))) rfl (by decide) (zgW (hA x (by simp)) (hA y (by simp)) (hA z (by simp)) _ _ _ _ (by decide) (by decide) (by decide) (by decide))
   . obtain⟨x,rfl⟩:=len1 h5;exact xb (f:=[40,108,101,110,32]++65::[41]) rfl (by decide) (xh (hA x (by simp)) _ _ (by decide) (by decide))
   . obtain⟨x,rfl⟩:=len1 h5;exact xb (f:=[40,115,105,122,101,32]++65::[41]) rfl (by decide) (xh (hA x (by simp)) _ _ (by decide) (by decide))
   . obtain⟨x,y,rfl⟩:=len2 h5;exact xb (f:=[40,98,121,116,101,32]++65::([32]++66::[41])) rfl (by decide) (yn (hA x (by simp)) (hA y (by simp)) _ _ _ (by decide) (by decide) (by decide))
   . obtain⟨x,y,rfl⟩:=len2 h5;exact xb (f:=[40,99,97,116,32]++65::([32]++66::[41])) rfl (by decide) (yn (hA x (by simp)) (hA y (by simp)) _ _ _ (by decide) (by decide) (by decide))
   . obtain⟨x,rfl⟩:=len1 h5;exact xb (f:=[40,103,101,116,99,32]++65::[41]) rfl (by decide) (xh (hA x (by simp)) _ _ (by decide) (by decide))
   . obtain⟨x,rfl⟩:=len1 h5;exact xb (f:=[40,112,117,116,99,32]++65::[41]) rfl (by decide) (xh (hA x (by simp)) _ _ (by decide) (by decide))
 rw[if_neg e] at hf;clear e;cases hf
theorem say_fn {args:List Nd} {arms:List (Nd×Nd)} {nm st:List UInt8} {k n pos:Int} {ls:List (List UInt8)} (hA:∀ y∈args,PrE y) (h7:k=7)
 (hf:formD (.mk ⟨k,pos,nm,n,st,ls⟩ args arms)=true):PrF (.mk ⟨k,pos,nm,n,st,ls⟩ args arms):=by
 subst h7;have hf:(plainD true false false 0 1 0 (.mk ⟨7,pos,nm,n,st,ls⟩ args arms)&&isNam nm)=true:=hf;rw[Bool.and_eq_true] at hf;obtain⟨h1,h2,h3,h4,h5,h6⟩:=wy hf.1;obtain rfl:=h2 rfl;obtain rfl:=h3 rfl;obtain rfl:=len0 h4;obtain rfl:=len0 h6;obtain⟨x,rfl⟩:=len1 h5;have hx:=hA x (by simp);show ∃ s,funV _ (showEs [x]) (showAs [])=some s;unfold funV;rw[if_pos rfl,yf,yd];exact uw (by decide) (show Pr ([102,117,110,32]++120::([32,45,62,32]++65::[])) _ from zK (by decide) (pr_x hf.2 (xh hx _ _ (by decide) (by decide))))
theorem say_pat {args:List Nd} {arms:List (Nd×Nd)} {nm st:List UInt8} {k n pos:Int} {ls:List (List UInt8)} (hA:∀ y∈args,PrP y)
 (hf:patFormD (.mk ⟨k,pos,nm,n,st,ls⟩ args arms)=true):PrP (.mk ⟨k,pos,nm,n,st,ls⟩ args arms):=by
 unfold patFormD at hf;dsimp only at hf;simp only[Bool.and_eq_true] at hf;obtain⟨h1,h2,h3,h4,h5,hf⟩:=hf;simp only[Bool.or_eq_true,decide_eq_true_eq] at h1 h2 h3 h4 h5;have hk:k=1∨k=2∨k=3∨k=4∨k=5∨k=6∨k=7∨k=8∨k=9:=by
  refine Classical.byContradiction fun hk=>?_;rw[if_neg (by omega),if_neg (by omega),if_neg (by omega),if_neg (by omega),if_neg (by omega),if_neg (by omega)] at hf;cases hf
 rcases hk with rfl | rfl | rfl | rfl | rfl | rfl | rfl | rfl | rfl
 . skip
   obtain rfl:nm=[]:=h1.resolve_left (by decide);obtain rfl:n=0:=h2.resolve_left (by decide);obtain rfl:st=[]:=h3.resolve_left (by decide);obtain rfl:ls=[]:=len0 h4;obtain rfl:args=[]:=len0 h5;exact wP (f:=[95]) (fun h=>absurd h.1 (by decide)) (fun h=>absurd h.1 (by decide)) rfl (by decide) (zU (by decide))
 . skip
   obtain rfl:n=0:=h2.resolve_left (by decide);obtain rfl:st=[]:=h3.resolve_left (by decide);obtain rfl:ls=[]:=len0 h4;obtain rfl:args=[]:=len0 h5;have hf:(isNam nm&&decide (nm≠[95]))=true:=hf;simp only[Bool.and_eq_true,decide_eq_true_eq] at hf;exact wP (f:=[120]) (fun h=>hf.2 h.2) (fun h=>absurd h.1 (by decide)) rfl (by decide) (pr_x hf.1 (zU (l:=[]) rfl))
 . skip
   obtain rfl:nm=[]:=h1.resolve_left (by decide);obtain rfl:st=[]:=h3.resolve_left (by decide);obtain rfl:ls=[]:=len0 h4;obtain rfl:args=[]:=len0 h5;have hf:(decide (n<=4611686018427387903)&&decide (-4611686018427387903<=n))=true:=hf;simp only[Bool.and_eq_true,decide_eq_true_eq] at hf;by_cases hneg:n<0
   . show ∃ s,patV _ (showPs [])=some s;unfold patV;rw[if_neg (fun h=>absurd h.1 (by show ¬(3:Int)=2;decide)),if_pos ⟨rfl,hneg⟩];have e:(if (⟨3,pos,[],n,[],[]⟩:Hd).n=-9223372036854775808 then(⟨3,pos,[],n,[],[]⟩:Hd).n else -(⟨3,pos,[],n,[],[]⟩:Hd).n)=-n:=if_neg (show ¬n=-9223372036854775808 by omega)
     rw[e];exact uw (by decide) (show Pr ([45]++[78]) ⟨[],-n,[],[],[],[]⟩ from zK (by decide) (pr_N ⟨by omega,by omega⟩ (zU (l:=[]) rfl)))
   . exact wP (f:=[78]) (fun h=>absurd h.1 (by decide)) (fun h=>hneg h.2) rfl (by decide) (pr_N ⟨by omega,by omega⟩ (zU (l:=[]) rfl))
 . skip
   obtain rfl:nm=[]:=h1.resolve_left (by decide);obtain rfl:n=0:=h2.resolve_left (by decide);obtain rfl:ls=[]:=len0 h4;obtain rfl:args=[]:=len0 h5;exact wP (f:=[83]) (fun h=>absurd h.1 (by decide)) (fun h=>absurd h.1 (by decide)) rfl (by decide) (pr_S (zU (l:=[]) rfl))
 . skip
   obtain rfl:nm=[]:=h1.resolve_left (by decide);obtain rfl:st=[]:=h3.resolve_left (by decide);obtain rfl:ls=[]:=len0 h4;obtain rfl:args=[]:=len0 h5;have hf:(decide (n=0)||decide (n=1))=true:=hf;simp only[Bool.or_eq_true,decide_eq_true_eq] at hf;exact wP (f:=[84]) (fun h=>absurd h.1 (by decide)) (fun h=>absurd h.1 (by decide)) rfl (by decide) (pr_T hf (zU (l:=[]) rfl))
 . skip
   obtain rfl:nm=[]:=h1.resolve_left (by decide);obtain rfl:n=0:=h2.resolve_left (by decide);obtain rfl:st=[]:=h3.resolve_left (by decide);obtain rfl:ls=[]:=len0 h4;obtain rfl:args=[]:=len0 h5;exact wP (f:=[40,41]) (fun h=>absurd h.1 (by decide)) (fun h=>absurd h.1 (by decide)) rfl (by decide) (zU (by decide))
 . skip
   obtain rfl:n=0:=h2.resolve_left (by decide);obtain rfl:st=[]:=h3.resolve_left (by decide);obtain rfl:ls=[]:=len0 h4;obtain rfl:args=[]:=len0 h5;exact wP (f:=[88]) (fun h=>absurd h.1 (by decide)) (fun h=>absurd h.1 (by decide)) rfl (by decide) (pr_X (show isUpN nm=true from hf) (zU (l:=[]) rfl))
 . skip
   obtain rfl:n=0:=h2.resolve_left (by decide);obtain rfl:st=[]:=h3.resolve_left (by decide);obtain rfl:ls=[]:=len0 h4;obtain⟨x,rfl⟩:=len1 (l:=args) h5;have hx:=hA x (by simp);exact wP (f:=[40,35]++88::([32]++65::[41])) (fun h=>absurd h.1 (by decide)) (fun h=>absurd h.1 (by decide)) rfl (by decide) (zK (by decide) (pr_X (show isUpN nm=true from hf) (zK (by decide) (pr_A (.inl rfl) hx (zU (by decide))))))
 . skip
   obtain rfl:nm=[]:=h1.resolve_left (by decide);obtain rfl:n=0:=h2.resolve_left (by decide);obtain rfl:st=[]:=h3.resolve_left (by decide);have hl:ls.length=(args.map showP).length:=by rw[List.length_map];have h5:(args.length:Int)=(ls.length:Int):=h5;omega
   have hf:ls.all isNam=true:=hf;exact wP (f:=[123]++76::[125]) (fun h=>absurd h.1 (by decide)) (fun h=>absurd h.1 (by decide)) rfl (by decide) (zK (by decide) (pr_L hl (fun l hl=>List.all_eq_true.1 hf l hl) (fun a ha=>by obtain⟨y,hy,rfl⟩:=List.mem_map.1 ha;exact hA y hy) (zU (by decide))))
theorem zg0:∀ x:Nd,((mayD x=true->PrE x)/\(mayD x=true->x.hd.kind=7->PrF x))/\(patMayD x=true->PrP x):=by
 refine xw fun h l a hl ha=>?_;obtain⟨k,pos,nm,n,st,ls⟩:=h;have H:mayD (.mk ⟨k,pos,nm,n,st,ls⟩ l a)=true->formD (.mk ⟨k,pos,nm,n,st,ls⟩ l a)=true/\(∀ y∈l,mayD y=true)/\∀ q∈a,patMayD q.1=true/\mayD q.2=true:=fun h=>by
  have h:(formD (.mk ⟨k,pos,nm,n,st,ls⟩ l a)&&(mayDs l&&mayDa a))=true:=h;rw[Bool.and_eq_true,Bool.and_eq_true,zfo,zfg,List.all_eq_true,List.all_eq_true] at h;exact⟨h.1,h.2.1,fun q hq=>by simpa using h.2.2 q hq⟩
 refine⟨⟨fun h=>?_,fun h h7=>?_⟩,fun h=>?_⟩
 . obtain⟨h1,h2,h3⟩:=H h;exact say_expr (fun y hy=>(hl y hy).1.1 (h2 y hy)) (fun q hq=>⟨(ha q hq).1.2 (h3 q hq).1,(ha q hq).2.1.1 (h3 q hq).2⟩) (fun y hy=>(hl y hy).1.2 (h2 y hy)) h1
 . obtain⟨h1,h2,h3⟩:=H h;exact say_fn (fun y hy=>(hl y hy).1.1 (h2 y hy)) h7 h1
 . have h:(patFormD (.mk ⟨k,pos,nm,n,st,ls⟩ l a)&&patMayDs l)=true:=h;rw[Bool.and_eq_true,zfb,List.all_eq_true] at h;exact say_pat (fun y hy=>(hl y hy).2 (h.2 y hy)) h.1
theorem show_doc (x:Nd):(mayD x=false/\showE x=none)∨mayD x=true/\∃ s,showE x=some s/\Rel s (textD x):=by
 cases h:showE x with
 | none =>
  refine .inl ⟨?_,rfl⟩;cases hm:mayD x with
  | false=>rfl
  | true =>
   obtain⟨s,hs⟩:=(zg0 x).1.1 hm;rw[h] at hs;cases hs
 | some s=>exact .inr ⟨((zgd x).1.1 s h).1,s,rfl,((zgd x).1.1 s h).2⟩
theorem showP_doc (x:Nd):(patMayD x=false/\showP x=none)∨patMayD x=true/\∃ s,showP x=some s/\Rel s (patTextD x):=by
 cases h:showP x with
 | none =>
  refine .inl ⟨?_,rfl⟩;cases hm:patMayD x with
  | false=>rfl
  | true =>
   obtain⟨s,hs⟩:=(zg0 x).2 hm;rw[h] at hs;cases hs
 | some s=>exact .inr ⟨((zgd x).2 s h).1,s,rfl,((zgd x).2 s h).2⟩
end
