/-
  Plain facts: which tokens a text of bytes has, token by token; w.
-/
import Derived.Test.YtblonfjlcfjodaaGreatDoorGWord
import Derived.Laws.RangeAny
namespace Go.Proofs.YtblonfjlcfjodaaGreatDoor
set_option linter.unusedSimpArgs false
set_option linter.unusedVariables false
set_option maxRecDepth 100000
section
open Go.RowKit
theorem zcP (c:UInt8) (h:isDig c=true):UInt8.ofNat (48+(c.toNat-48))=c/\48<=c.toNat/\c.toNat<=57:=by
 unfold isDig at h;simp only[Bool.and_eq_true,decide_eq_true_eq] at h;refine⟨?_,h⟩;rw[show 48+(c.toNat-48)=c.toNat by omega];simp
theorem sE (k:Nat):∀(l:List UInt8) (n:Int),l.length=k->l≠[]->l.all isDig=true->l.head?≠some 48->readGo 0 l=some n->1<=n/\Lib.decDigits n.toNat=l:=by
 induction k with
 | zero=>intro l n hl hne;exact absurd (List.length_eq_zero_iff.1 hl) hne
 | succ k ih =>
  intro l n hl hne ha hh hr;obtain⟨a,c,rfl⟩:∃ a c,l=a++[c]:=⟨l.dropLast,l.getLast hne,(List.dropLast_concat_getLast hne).symm⟩;rw[List.all_append,Bool.and_eq_true] at ha;obtain⟨hc1,hc2,hc3⟩:=zcP c (by simpa using ha.2);rw[uk] at hr;cases ha0:readGo 0 a with
  | none=>rw[ha0] at hr;simp at hr
  | some m =>
   rw[ha0,Option.bind_some,readGo] at hr
   split at hr
   . cases hr
   . rw[readGo] at hr;have hn:n=10*m+((c.toNat:Int)-48):=(zc hr).symm;by_cases hae:a=[]
     . subst hae;rw[readGo] at ha0;have hm:m=0:=(zc ha0).symm;have hc:c.toNat≠48:=fun h=>by
        have:c=48:=UInt8.toNat_inj.1 h;subst this;exact hh rfl
       refine⟨by omega,?_⟩;rw[Lib.decDigits,dif_pos (by omega),show n.toNat=c.toNat-48 by omega,hc1];rfl
     . have hha:a.head?≠some 48:=by
        cases a with
        | nil=>exact absurd rfl hae
        | cons x a=>simpa using hh
       obtain⟨h1,h2⟩:=ih a m (by simpa using hl) hae ha.1 hha ha0;refine⟨by omega,?_⟩;rw[Lib.decDigits,dif_neg (by omega),show n.toNat / 10=m.toNat by omega,h2,show n.toNat % 10=c.toNat-48 by omega,hc1]
theorem rg {l:List UInt8} {n:Int} (h:ReadV l=(n,0)):Lib.itoa n=l/\0<=n:=by
 unfold ReadV at h
 split at h
 . rename_i hn
   split at h
   . rename_i m hm;obtain rfl:m=n:=congrArg Prod.fst h;unfold isNum at hn;simp only[Bool.and_eq_true,Bool.or_eq_true,decide_eq_true_eq] at hn;obtain⟨ha,h0 | ⟨h1,h2⟩⟩:=hn
     . subst h0;have:readGo 0 [48]=some 0:=by decide
       rw[this] at hm;cases hm;refine⟨?_,by omega⟩;unfold Lib.itoa;rw[if_neg (by decide),Lib.decDigits,dif_pos (by decide)];rfl
     . obtain⟨h3,h4⟩:=sE _ l m rfl h1 ha h2 hm;refine⟨?_,by omega⟩;unfold Lib.itoa;rw[if_neg (by omega),h4]
   . cases h
 . cases h
theorem zay {l:List UInt8}:(ReadV l).2=0∨(ReadV l).2=2∨(ReadV l).2=5:=by
 unfold ReadV
 split
 . split
   . exact .inl rfl
   . exact .inr (.inl rfl)
 . exact .inr (.inr rfl)
theorem sd:∀(f:Nat) (l r:List UInt8),l.length<=f->unq f l=some r->qbody r=l
 | 0,l,r,hl,h=>by
  obtain rfl:l=[]:=List.length_eq_zero_iff.1 (by omega);rw[zbz] at h;cases h;rfl
 | f+1,l,r,hl,h=>by
  rw[unq] at h
  split at h
  . rename_i h0;cases h;rw[h0];rfl
  . have hM:=Mn_lt l;generalize Mn l=M at *
    split at h
    . rename_i hne hp;obtain⟨t,rfl⟩:=zbH hp;rw[List.drop_left] at h;cases hu:unq f t with
      | none=>rw[hu] at h;cases h
      | some r' =>
       rw[hu] at h;obtain rfl:UInt8.ofNat M::r'=r:=zc h;have hq:=zg6 M;rw[List.length_append] at hl;have hb:=sd f t r' (by omega) hu;have h1:(UInt8.ofNat M).toNat=M:=by simp only[UInt8.toNat_ofNat'];omega
       rw[wS,hb,h1]
    . cases h
theorem unqV_of {l r:List UInt8} (h:UnqV l=(r,0)):qall r=l/\2<=l.length:=by
 unfold UnqV at h
 split at h
 . cases h
 . rename_i hx;simp only[not_or,Classical.not_not] at hx;obtain⟨h0,h1,h2⟩:=hx
   split at h
   . rename_i x hu;obtain rfl:x=r:=congrArg Prod.fst h;refine⟨?_,by omega⟩;have hb:=sd l.length _ x (by rw[List.length_take,List.length_drop];omega) hu;unfold qall;rw[hb]
     match l,h0,h1,h2 with
     | c::d::m,_,h1,h2 =>
      have hc:c=34:=h1;subst hc;have hl:(34::d::m).length-1=m.length+1:=by simp
      rw[hl] at h2;have e1:((34::d::m).length-2)=m.length:=by simp
      rw[e1];congr 1;show List.take m.length (d::m)++[34]=d::m;have h3:(d::m).getD m.length 0=34:=h2;have h4:(d::m)[m.length]'(by simp)=34:=by rw[← h3];simp [List.getD_eq_getElem?_getD]
      rw[← h4,← List.take_succ_eq_append_getElem (by simp)];exact List.take_of_length_le (by simp)
   . cases h
def isLow (c:UInt8):Bool:=(decide (97<=c.toNat)&&decide (c.toNat<=122))||decide (c.toNat=95)
def isUp (c:UInt8):Bool:=decide (65<=c.toNat)&&decide (c.toNat<=90)
def isBody (c:UInt8):Bool:=isLow c||isUp c||isDig c
def isBlank (c:UInt8):Bool:=decide (c=32)||decide (c=10)
def keyL:List (List UInt8):=[[108,101,116],[114,101,99],[105,110],[102,117,110],[109,97,116,99,104],[119,105,116,104],[101,110,100],[105,102],[116,104,101,110],[101,108,115,101],[116,114,117,101],[102,97,108,115,101],[114,97,105,115,101],[116,114,121],[110,111,116],[114,101,102],[97,114,114,97,121],[103,101,116],[115,101,116],[108,101,110],[115,105,122,101],[98,121,116,101],[99,97,116],[103,101,116,99],[112,117,116,99]]
def signL:List (List UInt8):=[[45,62],[58,61],[38,38],[124,124],[40],[41],[123],[125],[61],[59],[44],[46],[124],[43],[45],[42],[47],[37],[60],[33]]
structure TK where
 kind:Int
 text:List UInt8
 n:Int
inductive OneR
 | tok (t:TK) (size:Nat)
 | err (e:Int)
def qscan (odd:Bool) (i:Nat):List UInt8->Nat
 | []=>0
 | c::r=>if c=34/\odd=false then i+1 else qscan (decide (c=92)&&!odd) (i+1) r
def qsize (l:List UInt8):Nat:=qscan false 1 (l.drop 1)
def nameOf (l:List UInt8):List UInt8:=l.takeWhile isBody
def strTok (l:List UInt8):OneR:=if (UnqV (l.take (qsize l))).2=0 then .tok ⟨5,(UnqV (l.take (qsize l))).1,0⟩ (qsize l) else .err 20
def intTok (l:List UInt8):OneR:=if (ReadV (nameOf l)).2=0 then .tok ⟨4,[],(ReadV (nameOf l)).1⟩ (nameOf l).length else .err (if (ReadV (nameOf l)).2=5 then 20 else(ReadV (nameOf l)).2)
def signTok (l:List UInt8):OneR:=match signL.find? (·.isPrefixOf l) with
 | some s=>.tok ⟨7,s,0⟩ s.length
 | none=>.err 20
def tagTok (r:List UInt8):OneR:=if r.head?.any isUp=true then .tok ⟨3,nameOf r,0⟩ (1+(nameOf r).length) else .err 20
def isKey (l:List UInt8):Bool:=keyL.contains l
def oneV:List UInt8->OneR
 | []=>.err 20
 | c::r =>
  if isLow c=true then .tok ⟨if isKey (nameOf (c::r))=true then 6 else 1,nameOf (c::r),0⟩ (nameOf (c::r)).length
  else if isUp c=true then .tok ⟨2,nameOf (c::r),0⟩ (nameOf (c::r)).length
  else if c=35 then tagTok r
  else if isDig c=true then intTok (c::r)
  else if c=34 then strTok (c::r)
  else signTok (c::r)
theorem zC (c:UInt8) (r:List UInt8):oneV (c::r) =
 if isLow c=true then .tok ⟨if isKey (nameOf (c::r))=true then 6 else 1,nameOf (c::r),0⟩ (nameOf (c::r)).length
 else if isUp c=true then .tok ⟨2,nameOf (c::r),0⟩ (nameOf (c::r)).length
 else if c=35 then tagTok r
 else if isDig c=true then intTok (c::r)
 else if c=34 then strTok (c::r)
 else signTok (c::r):=rfl
def tokText (t:TK):List UInt8:=if t.kind=3 then 35::t.text else if t.kind=4 then Lib.itoa t.n else if t.kind=5 then qall t.text else t.text
theorem re {c:UInt8} (h:isLow c=true):isBody c=true:=by unfold isBody;rw[h];rfl
theorem v8 {c:UInt8} (h:isUp c=true):isBody c=true:=by unfold isBody;rw[h];simp
theorem rS {c:UInt8} (h:isDig c=true):isBody c=true:=by unfold isBody;rw[h];simp
theorem blank_not {c:UInt8} (h:isBlank c=true):isBody c=false/\isLow c=false/\isUp c=false/\isDig c=false/\c≠35/\c≠34:=by
 unfold isBlank at h;simp only[Bool.or_eq_true,decide_eq_true_eq] at h;rcases h with rfl | rfl <;> decide
theorem zw {c:UInt8} (h:isBody c=true) (r:List UInt8):nameOf (c::r)=c::nameOf r:=by
 unfold nameOf;rw[List.takeWhile_cons,if_pos h]
theorem yo {c:UInt8} (h:isBody c=false) (r:List UInt8):nameOf (c::r)=[]:=by
 unfold nameOf;rw[List.takeWhile_cons,if_neg (by rw[h];decide)]
theorem xM (l:List UInt8):nameOf (nameOf l)=nameOf l:=by
 induction l with
 | nil=>rfl
 | cons c r ih =>
  by_cases hc:isBody c=true
  . rw[zw hc,zw hc,ih]
  . rw[yo (by simpa using hc)];rfl
theorem zW (l:List UInt8):l.take (nameOf l).length=nameOf l:=by
 induction l with
 | nil=>rfl
 | cons c r ih =>
  by_cases hc:isBody c=true
  . rw[zw hc,List.length_cons,List.take_succ_cons,ih]
  . rw[yo (by simpa using hc)];rfl
theorem yz (l:List UInt8):(nameOf l).length<=l.length:=by
 rw[← zW l,List.length_take];omega
theorem zdg (l:List UInt8):(nameOf l).all isBody=true:=by
 induction l with
 | nil=>rfl
 | cons c r ih =>
  by_cases hc:isBody c=true
  . rw[zw hc,List.all_cons,hc,ih];rfl
  . rw[yo (by simpa using hc)];rfl
theorem ww:∀(l:List UInt8) (odd:Bool) (i:Nat),qscan odd i l=0∨i<qscan odd i l/\qscan odd i l<=i+l.length
 | [],_,_=>.inl rfl
 | c::r,odd,i=>by
  rw[qscan]
  split
  . exact .inr ⟨by omega,by rw[List.length_cons];omega⟩
  . rcases ww r (decide (c=92)&&!odd) (i+1) with h | ⟨h1,h2⟩
    . exact .inl h
    . exact .inr ⟨by omega,by rw[List.length_cons];omega⟩
theorem rk:∀(l:List UInt8) (odd:Bool) (i:Nat),qscan odd i l≠0->qscan odd i (l.take (qscan odd i l-i))=qscan odd i l
 | [],_,_,h=>absurd rfl h
 | c::r,odd,i,h=>by
  rw[qscan] at h ⊢
  split
  . rename_i hx;rw[show i+1-i=0+1 by omega,List.take_succ_cons,qscan,if_pos hx]
  . rename_i hx;rw[if_neg hx] at h;have ih:=rk r (decide (c=92)&&!odd) (i+1) h;rcases ww r (decide (c=92)&&!odd) (i+1) with h0 | ⟨h1,h2⟩
    . exact absurd h0 h
    . generalize qscan (decide (c=92)&&!odd) (i+1) r=n at *;rw[show n-i=(n-(i+1))+1 by omega,List.take_succ_cons,qscan,if_neg hx];exact ih
theorem s8 (l:List UInt8):qsize l<=l.length:=by
 unfold qsize;rcases ww (l.drop 1) false 1 with h | ⟨h1,h2⟩
 . omega
 . rw[List.length_drop] at h2;cases l with
   | nil=>simp [qscan]
   | cons c r=>rw[List.length_cons] at h2 ⊢;omega
theorem zdQ {l:List UInt8} (h:qsize l≠0):qsize (l.take (qsize l))=qsize l:=by
 cases l with
 | nil=>exact absurd rfl h
 | cons c r =>
  have h1:qsize (c::r)=qscan false 1 r:=rfl;have h2:=rk r false 1 h;rcases ww r false 1 with h0 | ⟨h3,h4⟩
  . exact absurd h0 h
  . rw[h1];generalize qscan false 1 r=n at *;rw[show n=(n-1)+1 by omega,List.take_succ_cons];rw[show n-1+1=n by omega];exact h2
theorem zaH:∀ s∈signL,signL.find? (·.isPrefixOf s)=some s/\1<=s.length/\s.length<=2:=by decide
theorem sign_head:∀ s∈signL,∃ c r,s=c::r/\isLow c=false/\isUp c=false/\c≠35/\isDig c=false/\c≠34/\isBlank c=false:=by
 intro s hs;have h:∀ s∈signL,(match s with | []=>false | c::_ => !isLow c&&!isUp c&&!(decide (c=35))&&!isDig c&&!(decide (c=34))&&!isBlank c)=true:=by decide
 have:=h s hs;cases s with
 | nil=>cases this
 | cons c r =>
  simp only[Bool.and_eq_true,Bool.not_eq_true',decide_eq_false_iff_not] at this;obtain⟨⟨⟨⟨⟨h1,h2⟩,h3⟩,h4⟩,h5⟩,h6⟩:=this;exact⟨c,r,rfl,h1,h2,h3,h4,h5,h6⟩
structure Good (t:TK):Prop where
 self:oneV (tokText t)=.tok t (tokText t).length
 head:∃ c r,tokText t=c::r/\isBlank c=false
theorem wb {c:UInt8} (h:isBody c=true):isBlank c=false:=by
 cases hb:isBlank c with
 | false=>rfl
 | true=>rw[(blank_not hb).1] at h;cases h
theorem yG {l:List UInt8} {t:TK} {n:Nat} (h:oneV l=.tok t n):l.take n=tokText t/\n<=l.length/\1<=n/\1<=t.kind/\Good t:=by
 cases l with
 | nil=>cases h
 | cons c r =>
  rw[zC] at h
  split at h
  . rename_i hc;have hb:=re hc;obtain⟨rfl,rfl⟩:=OneR.tok.inj h;have hx:tokText ⟨if isKey (nameOf (c::r))=true then 6 else 1,nameOf (c::r),0⟩=nameOf (c::r):=by
     split <;> rfl
    refine⟨?_,yz _,?_,?_,?_,?_⟩
    . rw[hx];exact zW _
    . rw[zw hb];simp
    . show(1:Int)<=if isKey (nameOf (c::r))=true then 6 else 1
      split <;> omega
    . rw[hx];have he:=xM (c::r);rw[zw hb] at he ⊢;rw[zC,if_pos hc,he]
    . rw[hx,zw hb];exact⟨_,_,rfl,wb hb⟩
  . rename_i hlow
    split at h
    . rename_i hc;have hb:=v8 hc;obtain⟨rfl,rfl⟩:=OneR.tok.inj h;have hx:tokText ⟨2,nameOf (c::r),0⟩=nameOf (c::r):=rfl;refine⟨?_,yz _,?_,(by decide:(1:Int)<=2),?_,?_⟩
      . rw[hx];exact zW _
      . rw[zw hb];simp
      . rw[hx];have he:=xM (c::r);rw[zw hb] at he ⊢;rw[zC,if_neg hlow,if_pos hc,he]
      . rw[hx,zw hb];exact⟨_,_,rfl,wb hb⟩
    . rename_i hup
      split at h
      . rename_i hc;subst hc;unfold tagTok at h
        split at h
        . rename_i hr;obtain⟨rfl,rfl⟩:=OneR.tok.inj h;have hx:tokText ⟨3,nameOf r,0⟩=35::nameOf r:=rfl;cases r with
          | nil=>cases hr
          | cons d r =>
           have hd:isUp d=true:=hr;refine⟨?_,?_,by omega,(by decide:(1:Int)<=3),?_,?_⟩
           . rw[hx,Nat.add_comm,List.take_succ_cons,zW]
           . have:=yz (d::r);rw[List.length_cons];omega
           . rw[hx];have he:=xM (d::r);rw[zw (v8 hd)] at he ⊢;rw[zC,if_neg (by decide),if_neg (by decide),if_pos rfl];unfold tagTok;have hd2:(d::nameOf r).head?.any isUp=true:=hd;rw[if_pos hd2,he,Nat.add_comm];rfl
           . rw[hx];exact⟨_,_,rfl,by decide⟩
        . cases h
      . rename_i h35
        split at h
        . rename_i hc;have hb:=rS hc;unfold intTok at h
          split at h
          . rename_i hr;obtain⟨rfl,rfl⟩:=OneR.tok.inj h;have hv:ReadV (nameOf (c::r))=((ReadV (nameOf (c::r))).1,0):=by rw[← hr]
            obtain⟨hi,_⟩:=rg hv;have hx:tokText ⟨4,[],(ReadV (nameOf (c::r))).1⟩=nameOf (c::r):=hi;refine⟨?_,yz _,?_,(by decide:(1:Int)<=4),?_,?_⟩
            . rw[hx];exact zW _
            . rw[zw hb];simp
            . rw[hx];have he:=xM (c::r);rw[zw hb] at he hr ⊢;rw[zC,if_neg hlow,if_neg hup,if_neg h35,if_pos hc];unfold intTok;rw[he,if_pos hr]
            . rw[hx,zw hb];exact⟨_,_,rfl,wb hb⟩
          . cases h
        . rename_i hdig
          split at h
          . rename_i hc;subst hc;unfold strTok at h
            split at h
            . rename_i hr;obtain⟨rfl,rfl⟩:=OneR.tok.inj h;have hv:UnqV ((34::r).take (qsize (34::r)))=((UnqV ((34::r).take (qsize (34::r)))).1,0):=by rw[← hr]
              obtain⟨hi,hl2⟩:=unqV_of hv;have hx:tokText ⟨5,(UnqV ((34::r).take (qsize (34::r)))).1,0⟩=(34::r).take (qsize (34::r)):=hi;have hq:=s8 (34::r);rw[List.length_take] at hl2;have hq0:qsize (34::r)≠0:=by omega
              have ht:=zdQ hq0;refine⟨hx.symm,hq,by omega,(by decide:(1:Int)<=5),?_,?_⟩
              . rw[hx];have hlt:((34::r).take (qsize (34::r))).length=qsize (34::r):=by rw[List.length_take];omega
                obtain⟨r',hr'⟩:∃ r',(34::r).take (qsize (34::r))=34::r':=by
                 obtain⟨k,hk⟩:∃ k,qsize (34::r)=k+1:=⟨qsize (34::r)-1,by omega⟩;rw[hk,List.take_succ_cons];exact⟨_,rfl⟩
                generalize qsize (34::r)=q at *;rw[hr'] at hr ht hlt ⊢;rw[zC,if_neg (by decide),if_neg (by decide),if_neg (by decide),if_neg (by decide),if_pos rfl];unfold strTok;rw[ht,List.take_of_length_le (by omega),if_pos hr,hlt]
              . rw[hx];obtain⟨k,hk⟩:∃ k,qsize (34::r)=k+1:=⟨qsize (34::r)-1,by omega⟩;rw[hk,List.take_succ_cons];exact⟨_,_,rfl,by decide⟩
            . cases h
          . rename_i h34;unfold signTok at h
            split at h
            . rename_i s hs;obtain⟨rfl,rfl⟩:=OneR.tok.inj h;have hm:=List.mem_of_find?_eq_some hs;have hp:=List.find?_some hs;simp only[List.isPrefixOf_iff_prefix] at hp;obtain⟨m,hm2⟩:=hp;obtain⟨h1,h2,h3⟩:=zaH s hm;obtain⟨d,q,rfl,g1,g2,g3,g4,g5,g6⟩:=sign_head s hm;have hx:tokText ⟨7,d::q,0⟩=d::q:=rfl;refine⟨?_,?_,h2,(by decide:(1:Int)<=7),?_,⟨_,_,hx,g6⟩⟩
              . rw[hx,← hm2,List.take_left]
              . rw[← hm2,List.length_append];omega
              . rw[hx,zC,if_neg (by rw[g1];decide),if_neg (by rw[g2];decide),if_neg g3,if_neg (by rw[g4];decide),if_neg g5];unfold signTok;rw[h1]
            . cases h
inductive LR
 | ok (T:List (TK×Nat))
 | bad (e:Int) (at_:Nat)
def LR.add (x:List (TK×Nat)):LR->LR
 | .ok T=>.ok (x++T)
 | .bad e q=>.bad e q
def lexGo:Nat->Nat->List UInt8->LR
 | _,_,[]=>.ok []
 | p,k+1,_::r=>lexGo (p+1) k r
 | p,0,c::r =>
  if isBlank c=true then lexGo (p+1) 0 r
  else match oneV (c::r) with
   | .err e=>.bad e p
   | .tok t n=>(lexGo (p+1) (n-1) r).add [(t,p)]
theorem zaD (p k:Nat):lexGo p k []=.ok []:=by cases k <;> rfl
theorem zN {c:UInt8} (hc:isBlank c=true) (p:Nat) (r:List UInt8):lexGo p 0 (c::r)=lexGo (p+1) 0 r:=by rw[lexGo,if_pos hc]
theorem yi {c:UInt8} (hc:isBlank c=false) (p:Nat) {r:List UInt8} {e:Int} (h:oneV (c::r)=.err e):lexGo p 0 (c::r)=.bad e p:=by
 rw[lexGo,if_neg (by rw[hc];decide),h]
theorem qw:∀(k p:Nat) (l:List UInt8),k<=l.length->lexGo p k l=lexGo (p+k) 0 (l.drop k)
 | 0,_,_,_=>rfl
 | k+1,p,[],h=>by simp at h
 | k+1,p,c::r,h=>by
  rw[lexGo,qw k (p+1) r (by simpa using h),List.drop_succ_cons];congr 1;omega
theorem zY {c:UInt8} (hc:isBlank c=false) (p:Nat) {r:List UInt8} {t:TK} {n:Nat} (h:oneV (c::r)=.tok t n):lexGo p 0 (c::r)=(lexGo (p+n) 0 ((c::r).drop n)).add [(t,p)]:=by
 obtain⟨_,h2,h3,_⟩:=yG h;rw[List.length_cons] at h2;rw[lexGo,if_neg (by rw[hc];decide),h];show(lexGo (p+1) (n-1) r).add [(t,p)]=_;rw[qw _ _ _ (by omega),show p+1+(n-1)=p+n by omega];obtain⟨k,rfl⟩:∃ k,n=k+1:=⟨n-1,by omega⟩;rfl
theorem LR.add_add (x y:List (TK×Nat)) (r:LR):(r.add y).add x=r.add (x++y):=by
 cases r with
 | ok T=>show LR.ok (x++(y++T))=.ok (x++y++T);rw[List.append_assoc]
 | bad e q=>rfl
theorem LR.add_ok {x:List (TK×Nat)} {r:LR} {T:List (TK×Nat)} (h:r.add x=.ok T):∃ U,r=.ok U/\T=x++U:=by
 cases r with
 | ok U=>exact⟨U,rfl,(LR.ok.inj h).symm⟩
 | bad e q=>cases h
theorem LR.add_bad {x:List (TK×Nat)} {r:LR} {e:Int} {q:Nat} (h:r.add x=.bad e q):r=.bad e q:=by
 cases r with
 | ok U=>cases h
 | bad e q=>exact h
theorem yu (P:Nat->List UInt8->Prop) (h0:∀ p,P p []) (hb:∀ p c r,isBlank c=true->P (p+1) r->P p (c::r)) (he:∀ p c r e,isBlank c=false->oneV (c::r)=.err e->P p (c::r))
 (ht:∀ p c r t n,isBlank c=false->oneV (c::r)=.tok t n->P (p+n) ((c::r).drop n)->P p (c::r)):∀(k p:Nat) (l:List UInt8),l.length<=k->P p l
 | 0,p,l,h=>by
  obtain rfl:l=[]:=List.length_eq_zero_iff.1 (by omega);exact h0 p
 | k+1,p,[],_=>h0 p
 | k+1,p,c::r,h=>by
  rw[List.length_cons] at h;cases hc:isBlank c with
  | true=>exact hb p c r hc (yu P h0 hb he ht k (p+1) r (by omega))
  | false =>
   cases h1:oneV (c::r) with
   | err e=>exact he p c r e hc h1
   | tok t n =>
    obtain⟨_,h2,h3,_⟩:=yG h1;exact ht p c r t n hc h1 (yu P h0 hb he ht k (p+n) ((c::r).drop n) (by rw[List.length_drop,List.length_cons];omega))
theorem rU (p:Nat) (l:List UInt8):∀ T,lexGo p 0 l=.ok T->∀ x∈T,Good x.1/\1<=x.1.kind:=by
 refine yu (fun p l=>∀ T,lexGo p 0 l=.ok T->∀ x∈T,Good x.1/\1<=x.1.kind) ?_ ?_ ?_ ?_ l.length p l (Nat.le_refl _)
 . intro p T h x hx;obtain rfl:[]=T:=LR.ok.inj h;cases hx
 . intro p c r hc ih T h;rw[zN hc] at h;exact ih T h
 . intro p c r e hc h T hT;rw[yi hc _ h] at hT;cases hT
 . intro p c r t n hc h ih T hT x hx;rw[zY hc _ h] at hT;obtain⟨U,hU,rfl⟩:=LR.add_ok hT;rcases List.mem_append.1 hx with hx | hx
   . obtain rfl:=List.mem_singleton.1 hx;obtain⟨_,_,_,h4,h5⟩:=yG h;exact⟨h5,h4⟩
   . exact ih U hU x hx
theorem zaj (p:Nat) (l:List UInt8):∀ e q,lexGo p 0 l=.bad e q->p<=q/\q<p+l.length/\(e=2∨e=20):=by
 refine yu (fun p l=>∀ e q,lexGo p 0 l=.bad e q->p<=q/\q<p+l.length/\(e=2∨e=20)) ?_ ?_ ?_ ?_ l.length p l (Nat.le_refl _)
 . intro p e q h;cases h
 . intro p c r hc ih e q h;rw[zN hc] at h;obtain⟨h1,h2,h3⟩:=ih e q h;exact⟨by omega,by rw[List.length_cons];omega,h3⟩
 . intro p c r e hc h e' q hq;rw[yi hc _ h] at hq;obtain⟨rfl,rfl⟩:=LR.bad.inj hq;refine⟨Nat.le_refl _,by rw[List.length_cons];omega,?_⟩;rw[zC] at h
   split at h
   . cases h
   . split at h
     . cases h
     . split at h
       . unfold tagTok at h
         split at h
         . cases h
         . exact .inr (OneR.err.inj h).symm
       . split at h
         . unfold intTok at h
           split at h
           . cases h
           . rename_i h0;have h:=OneR.err.inj h;rcases zay (l:=nameOf (c::r)) with h5 | h5 | h5
             . exact absurd h5 h0
             . rw[h5] at h;exact .inl h.symm
             . rw[h5] at h;exact .inr h.symm
         . split at h
           . unfold strTok at h
             split at h
             . cases h
             . exact .inr (OneR.err.inj h).symm
           . unfold signTok at h
             split at h
             . cases h
             . exact .inr (OneR.err.inj h).symm
 . intro p c r t n hc h ih e q hq;rw[zY hc _ h] at hq;have h1:=ih e q (LR.add_bad hq);obtain⟨_,h2,h3,_⟩:=yG h;rw[List.length_drop] at h1;omega
end
section
open Go.RowKit
def lowN (x:Nat):Bool:=(decide (97<=x)&&decide (x<=122))||decide (x=95)
def upN (x:Nat):Bool:=decide (65<=x)&&decide (x<=90)
def digN (x:Nat):Bool:=decide (48<=x)&&decide (x<=57)
def bodyN (x:Nat):Bool:=lowN x||upN x||digN x
theorem low_at (c:UInt8):lowN c.toNat=isLow c:=rfl
theorem up_at (c:UInt8):upN c.toNat=isUp c:=rfl
theorem zbB (c:UInt8):bodyN c.toNat=isBody c:=rfl
theorem wJ (x:Nat) (h:128<=x):lowN x=false/\upN x=false/\digN x=false/\bodyN x=false:=by
 have h1:lowN x=false:=by unfold lowN;simp;omega
 have h2:upN x=false:=by unfold upN;simp;omega
 have h3:digN x=false:=by unfold digN;simp;omega
 exact⟨h1,h2,h3,by unfold bodyN;rw[h1,h2,h3];rfl⟩
theorem zbt (x:Nat) (w:World):Calls Tryz.prog 112 #[.int .i32 x] w fun e w'=>e=.returned (.bool (lowN x))/\w=w':=by
 by_cases h1:97<=x
 . have g1:decide ((97:Int)<=(x:Int))=true:=decide_eq_true (by omega);by_cases h2:x<=122
   . have g2:decide ((x:Int)<=122)=true:=decide_eq_true (by omega);have HE:=zb (show lowN x=true by unfold lowN;simp;omega)
     go_enter Tryz.func112, Tryz.ntmps112
     go_wp2_with fail
     go_ret;exact⟨by rw[HE.out];rfl,rfl⟩
   . have g2:decide ((x:Int)<=122)=false:=decide_eq_false (by omega);have g3:((x:Int) == 95)=false:=by rw[beq_eq_false_iff_ne];omega
     have HE:=zb (show lowN x=false by unfold lowN;simp;omega)
     go_enter Tryz.func112, Tryz.ntmps112
     go_wp2_with fail
     go_ret;exact⟨by rw[HE.out];rfl,rfl⟩
 . have g1:decide ((97:Int)<=(x:Int))=false:=decide_eq_false (by omega);by_cases h2:x=95
   . have g3:((x:Int) == 95)=true:=by rw[beq_iff_eq];omega
     have HE:=zb (show lowN x=true by unfold lowN;simp;omega);clear h2
     go_enter Tryz.func112, Tryz.ntmps112
     go_wp2_with fail
     go_ret;exact⟨by rw[HE.out];rfl,rfl⟩
   . have g3:((x:Int) == 95)=false:=by rw[beq_eq_false_iff_ne];omega
     have HE:=zb (show lowN x=false by unfold lowN;simp;omega)
     go_enter Tryz.func112, Tryz.ntmps112
     go_wp2_with fail
     go_ret;exact⟨by rw[HE.out];rfl,rfl⟩
theorem zdG (x:Nat) (w:World):Calls Tryz.prog 114 #[.int .i32 x] w fun e w'=>e=.returned (.bool (upN x))/\w=w':=by
 by_cases h1:65<=x
 . have g1:decide ((65:Int)<=(x:Int))=true:=decide_eq_true (by omega);have g2:decide ((x:Int)<=90)=decide (x<=90):=by rw[decide_eq_decide];omega
   have HE:=zb (show upN x=decide (x<=90) by unfold upN;simp [h1])
   go_enter Tryz.func114, Tryz.ntmps114
   go_wp2_with fail
   go_ret;exact⟨by rw[HE.out];rfl,rfl⟩
 . have g1:decide ((65:Int)<=(x:Int))=false:=decide_eq_false (by omega);have HE:=zb (show upN x=false by unfold upN;simp;omega)
   go_enter Tryz.func114, Tryz.ntmps114
   go_wp2_with fail
   go_ret;exact⟨by rw[HE.out];rfl,rfl⟩
theorem zgV (x:Nat) (w:World):Calls Tryz.prog 117 #[.int .i32 x] w fun e w'=>e=.returned (.bool (digN x))/\w=w':=by
 by_cases h1:48<=x
 . have g1:decide ((48:Int)<=(x:Int))=true:=decide_eq_true (by omega);have g2:decide ((x:Int)<=57)=decide (x<=57):=by rw[decide_eq_decide];omega
   have HE:=zb (show digN x=decide (x<=57) by unfold digN;simp [h1])
   go_enter Tryz.func117, Tryz.ntmps117
   go_wp2_with fail
   go_ret;exact⟨by rw[HE.out];rfl,rfl⟩
 . have g1:decide ((48:Int)<=(x:Int))=false:=decide_eq_false (by omega);have HE:=zb (show digN x=false by unfold digN;simp;omega)
   go_enter Tryz.func117, Tryz.ntmps117
   go_wp2_with fail
   go_ret;exact⟨by rw[HE.out];rfl,rfl⟩
theorem lex_body (x:Nat) (w:World):Calls Tryz.prog 203 #[.int .i32 x] w fun e w'=>e=.returned (.bool (bodyN x))/\w=w':=by
 have HL:=zb (fun W=>zbt x W);have HU:=zb (fun W=>zdG x W);have HD:=zb (fun W=>zgV x W);have HE:=zb (show bodyN x=(lowN x||upN x||digN x) from rfl)
 generalize lowN x=a at *;generalize upN x=b at *;generalize digN x=c at *
 go_enter Tryz.func203, Tryz.ntmps203
 go_wp2_with fail
 refine(HL.out _).mono ?_;rintro e w1 ⟨rfl,rfl⟩;cases a with
 | true =>
  go_wp2_with fail
  go_ret;exact⟨by rw[HE.out];rfl,rfl⟩
 | false =>
  go_wp2_with fail
  refine(HU.out _).mono ?_;rintro e w1 ⟨rfl,rfl⟩;cases b with
  | true =>
   go_wp2_with fail
   go_ret;exact⟨by rw[HE.out];rfl,rfl⟩
  | false =>
   go_wp2_with fail
   refine(HD.out _).mono ?_;rintro e w1 ⟨rfl,rfl⟩
   go_wp2_with fail
   go_ret;exact⟨by rw[HE.out];rfl,rfl⟩
end
section
open Go.RowKit
theorem zae {l:List UInt8}:∀{p:Nat},(l.take p).all isBody=true->(h:p<l.length)->isBody (l[p]'h)=false->(nameOf l).length=p:=by
 induction l with
 | nil=>intro p _ h;simp at h
 | cons c r ih =>
  intro p ha h hc;cases p with
  | zero=>rw[yo (show isBody c=false from hc)];rfl
  | succ p =>
   rw[List.take_succ_cons,List.all_cons,Bool.and_eq_true] at ha;rw[zw ha.1,List.length_cons,ih ha.2 (by simpa using h) hc]
theorem zbE {l:List UInt8} (h:l.all isBody=true):nameOf l=l:=by
 induction l with
 | nil=>rfl
 | cons c r ih =>
  rw[List.all_cons,Bool.and_eq_true] at h;rw[zw h.1,ih h.2]
theorem zbL (s:ByteArray):(s.data.toList.take 0).all isBody=true:=rfl
theorem all_step' (s:ByteArray) (k:Nat) (h:k<s.size) (ha:(s.data.toList.take k).all isBody=true) (hc:isBody s[k]=true):(s.data.toList.take (k+1)).all isBody=true:=by
 rw[tW s k h,List.all_append,ha];simp [hc]
def SizeIs (n:Nat) (w:World) (e:Ending) (w':World):Prop:=e=.returned (.int .i64 n)/\Below w.heap.size w w'
theorem xi (w:World) (s:ByteArray) (p:Nat):Below w.heap.size w (w.iter s p):=(Below.refl _ w).alloc (Nat.le_refl _) _
theorem yQ (s:ByteArray) (w:World):Calls Tryz.prog 169 #[.string s] w (SizeIs (nameOf s.data.toList).length w):=by
 have HB:=zb (fun x W=>lex_body x W)
 go_enter Tryz.func169, Tryz.ntmps169
 go_wp2_with fail
 go_loopw [] (fun wr=>∃ pos:Nat,pos<=s.size/\wr=w.iter s pos/\Hid ((s.data.toList.take pos).all isBody=true)) (fun wr=>s.size-wr.iterPos w.heap.size)
 case atStart=>exact⟨0,by omega,rfl,zb (zbL s)⟩
 case round =>
  obtain⟨pos,hpl,rfl,HA⟩:=hrel;by_cases hp:pos<s.size
  . by_cases ha:(s[pos]'hp).toNat<128
    . have hnx:∀ ty,(Instr.next (.pointer (some ⟨w.heap.size,0,none⟩)) true ty).run Tryz.prog (w.iter s pos)=_:=fun ty=>run_next_ascii w s pos ty hp ha
      have HAS:=zb (fun h=>all_step' s pos hp HA.out h);have HAT:=zb (fun (h:isBody (s[pos]'hp)=false)=>zae (l:=s.data.toList) HA.out (show pos<s.data.toList.length from hp) h)
      have HC:=zb (zbB s[pos]);generalize (s[pos]'hp)=c at *
      go_wp2_with fail
      refine(HB.out c.toNat _).mono ?_;rintro e w1 ⟨rfl,rfl⟩;rw[HC.out];cases hb:isBody c with
      | true =>
       have HN:=zb (HAS.out hb);clear hb
       go_wp2_with fail
       go_roundw
       case rel=>exact⟨pos+1,by omega,rfl,HN⟩
       case measure=>simp;omega
      | false =>
       have HN:=zb (HAT.out hb);clear hb
       go_wp2_with fail
       go_ret;exact⟨by rw[HN.out];rfl,xi w s _⟩
    . have hnx:∀ ty,(Instr.next (.pointer (some ⟨w.heap.size,0,none⟩)) true ty).run Tryz.prog (w.iter s pos)=_:=fun ty=>run_next_any w s pos ty hp
      have HC:=zb (wJ _ (decode_high s pos hp (by omega)).1);have HN:=zb (zae (l:=s.data.toList) HA.out (show pos<s.data.toList.length from hp) (by
       have:=(wJ _ (show 128<=(s[pos]'hp).toNat by omega)).2.2.2;rw[zbB] at this;exact this))
      generalize (Utf8.decode s pos).1=x at *;generalize (Utf8.decode s pos).2=k at *
      go_wp2_with fail
      refine(HB.out x _).mono ?_;rintro e w1 ⟨rfl,rfl⟩;rw[HC.out.2.2.2]
      go_wp2_with fail
      go_ret;exact⟨by rw[HN.out];rfl,xi w s _⟩
  . have hnx:∀ ty,(Instr.next (.pointer (some ⟨w.heap.size,0,none⟩)) true ty).run Tryz.prog (w.iter s pos)=_:=fun ty=>run_next_end w s pos ty hp
    obtain rfl:pos=s.size:=by omega
    have HN:=zb (zbE (l:=s.data.toList) (by have:=HA.out;rw[tB] at this;exact this))
    go_wp2_with fail
    go_ret;exact⟨by rw[HN.out];rfl,xi w s _⟩
theorem wU (s:ByteArray) (pos:Nat) (h:pos<s.size) (ha:128<=(s[pos]'h).toNat):pos+(Utf8.decode s pos).2<=s.size/\1<=(Utf8.decode s pos).2/\∀ k,k<(Utf8.decode s pos).2->∀(hk:pos+k<s.size),128<=(s[pos+k]'hk).toNat:=by
 have hn:¬(s[pos]'h).toNat<128:=by omega
 have hg:∀ k,∀(hk:pos+k<s.size),s.get! (pos+k)=s[pos+k]'hk:=fun k hk=>by
  have:=get_at s (pos+k) hk
  rwa [Nat.add_zero] at this
 simp only[Utf8.decode,get_at s pos h,hn,if_false]
 split
 . rename_i hx;simp only[Bool.and_eq_true,beq_iff_eq,decide_eq_true_eq] at hx;obtain⟨_,h1,h2⟩:=hx;rw[hg 1 h1] at h2
   split
   . refine⟨by show pos+2<=_;omega,by show 1<=2;decide,fun k hk hl=>?_⟩;have hk:k<2:=hk;obtain rfl | rfl:k=0∨k=1:=by omega
     . exact ha
     . omega
   . refine⟨by show pos+1<=_;omega,by decide,fun k hk hl=>?_⟩;have hk:k<1:=hk;obtain rfl:k=0:=by omega
     exact ha
 . split
   . rename_i hx;simp only[Bool.and_eq_true,beq_iff_eq,decide_eq_true_eq] at hx;obtain⟨⟨_,h1,h2⟩,h3,h4⟩:=hx;rw[hg 1 h1] at h2;rw[hg 2 h3] at h4
     split
     . refine⟨by show pos+3<=_;omega,by show 1<=3;decide,fun k hk hl=>?_⟩;have hk:k<3:=hk;obtain rfl | rfl | rfl:k=0∨k=1∨k=2:=by omega
       . exact ha
       . omega
       . omega
     . refine⟨by show pos+1<=_;omega,by decide,fun k hk hl=>?_⟩;have hk:k<1:=hk;obtain rfl:k=0:=by omega
       exact ha
   . split
     . rename_i hx;simp only[Bool.and_eq_true,beq_iff_eq,decide_eq_true_eq] at hx;obtain⟨⟨⟨_,h1,h2⟩,h3,h4⟩,h5,h6⟩:=hx;rw[hg 1 h1] at h2;rw[hg 2 h3] at h4;rw[hg 3 h5] at h6
       split
       . refine⟨by show pos+4<=_;omega,by show 1<=4;decide,fun k hk hl=>?_⟩;have hk:k<4:=hk;obtain rfl | rfl | rfl | rfl:k=0∨k=1∨k=2∨k=3:=by omega
         . exact ha
         . omega
         . omega
         . omega
       . refine⟨by show pos+1<=_;omega,by decide,fun k hk hl=>?_⟩;have hk:k<1:=hk;obtain rfl:k=0:=by omega
         exact ha
     . refine⟨by show pos+1<=_;omega,by decide,fun k hk hl=>?_⟩;have hk:k<1:=hk;obtain rfl:k=0:=by omega
       exact ha
theorem zej {l:List UInt8}:∀(k:Nat) (odd:Bool) (i:Nat),1<=k->k<=l.length->(∀ j,j<k->∀(h:j<l.length),128<=(l[j]'h).toNat)->qscan odd i l=qscan false (i+k) (l.drop k):=by
 induction l with
 | nil=>intro k odd i h1 h2 _;simp at h2;omega
 | cons c r ih =>
  intro k odd i h1 h2 h3;have hc:128<=c.toNat:=h3 0 (by omega) (by simp);have c1:c≠34:=fun e=>by rw[e] at hc;exact absurd hc (by decide)
  have c2:c≠92:=fun e=>by rw[e] at hc;exact absurd hc (by decide)
  rw[qscan,if_neg (fun h=>c1 h.1),decide_eq_false c2,Bool.false_and];rcases Nat.eq_or_lt_of_le h1 with rfl | h4
  . rfl
  . obtain⟨j,rfl⟩:∃ j,k=j+1:=⟨k-1,by omega⟩;rw[ih j false (i+1) (by omega) (by simpa using h2) (fun x hx hl=>h3 (x+1) (by omega) (by simpa using hl)),List.drop_succ_cons];congr 1;omega
def QAt (s:ByteArray) (pos:Nat) (odd:Bool):Prop:=(pos=0/\odd=false)∨(1<=pos/\qsize s.data.toList=qscan odd pos (s.data.toList.drop pos))
theorem QAt.here {s:ByteArray} {pos:Nat} {odd:Bool} (h:QAt s pos odd) (h34:s.data.toList.head? = some 34) (hp:pos<s.size) :
 (s[pos]'hp=34/\odd=false/\1<=pos/\qsize s.data.toList=pos+1)∨((s[pos]'hp=34->pos=0∨odd=true)/\QAt s (pos+1) (decide (s[pos]'hp=92)&&!odd)):=by
 rcases h with⟨rfl,rfl⟩ | ⟨h1,h2⟩
 . rw[uV s hp] at h34;have h34:=zc h34;refine .inr ⟨fun _=>.inl rfl,.inr ⟨by omega,?_⟩⟩;rw[h34];rfl
 . rw[yk s pos hp,qscan] at h2;by_cases hc:s[pos]'hp=34/\odd=false
   . rw[if_pos hc] at h2;exact .inl ⟨hc.1,hc.2,h1,h2⟩
   . rw[if_neg hc] at h2;refine .inr ⟨fun h3=>.inr ?_,.inr ⟨by omega,h2⟩⟩;cases odd with
     | true=>rfl
     | false=>exact absurd ⟨h3,rfl⟩ hc
theorem QAt.high {s:ByteArray} {pos:Nat} {odd:Bool} (h:QAt s pos odd) (h34:s.data.toList.head? = some 34) (hp:pos<s.size) (ha:128<=(s[pos]'hp).toNat):1<=pos/\QAt s (pos+(Utf8.decode s pos).2) false:=by
 obtain⟨h1,h2,h3⟩:=wU s pos hp ha;rcases h with⟨rfl,rfl⟩ | ⟨h4,h5⟩
 . rw[uV s hp] at h34;rw[zc h34] at ha;exact absurd ha (by decide)
 . refine⟨h4,.inr ⟨by omega,?_⟩⟩;have hl:s.data.toList.length=s.size:=rfl;rw[h5,zej (Utf8.decode s pos).2 odd pos h2 (by rw[List.length_drop];omega) (fun j hj hl=>by
    rw[List.getElem_drop];rw[List.length_drop] at hl;exact h3 j hj (by omega)),List.drop_drop]
theorem QAt.stop {s:ByteArray} {odd:Bool} (h:QAt s s.size odd):qsize s.data.toList=0:=by
 rcases h with⟨h1,_⟩ | ⟨_,h2⟩
 . have:s.data.toList=[]:=List.length_eq_zero_iff.1 (show s.size=0 by omega);rw[this];rfl
 . rw[h2,rW];rfl
theorem qt (s:ByteArray) (w:World) (hs:s.size<=maxLen) (h34:s.data.toList.head? = some 34):Calls Tryz.prog 173 #[.string s] w (SizeIs (qsize s.data.toList) w):=by
 have H34:=zb h34;clear h34
 go_enter Tryz.func173, Tryz.ntmps173
 go_wp2_with fail
 go_loopw [3] (fun vo wr=>∃(pos:Nat) (odd:Bool),pos<=s.size/\vo=.bool odd/\wr=w.iter s pos/\Hid (QAt s pos odd)) (fun _ wr=>s.size-wr.iterPos w.heap.size)
 case atStart=>exact⟨0,false,by omega,rfl,rfl,zb (.inl ⟨rfl,rfl⟩)⟩
 case round =>
  obtain⟨pos,odd,hpl,rfl,rfl,HA⟩:=hrel;by_cases hp:pos<s.size
  . by_cases ha:(s[pos]'hp).toNat<128
    . have hnx:∀ ty,(Instr.next (.pointer (some ⟨w.heap.size,0,none⟩)) true ty).run Tryz.prog (w.iter s pos)=_:=fun ty=>run_next_ascii w s pos ty hp ha
      have HQ:=zb (HA.out.here H34.out hp);generalize (s[pos]'hp)=c at *;rcases HQ.out with⟨h1,h2,h3,h4⟩ | ⟨h1,h2⟩
      . have HN:=zb h4;subst h1 h2;have g1:decide ((0:Int)<(pos:Int))=true:=decide_eq_true (by omega);have g2:decide (0<pos)=true:=decide_eq_true (by omega);clear HQ h4
        go_wp2_with fail
        go_ret;refine⟨?_,xi w s _⟩;rw[HN.out,← show wrap64 ((pos:Int)+1)=((pos+1:Nat):Int) by unfold wrap64;unfold maxLen at hs;omega];rfl
      . have HN:=zb h2;clear HQ h2;by_cases c34:c=34
        . have h5:=h1 c34;clear h1;subst c34;rcases h5 with rfl | rfl
          . clear HA
            go_wp2_with fail
            go_roundw
            case rel=>exact⟨1,_,by omega,rfl,rfl,HN⟩
            case measure=>simp;omega
          . by_cases h0:0<pos
            . have g1:decide ((0:Int)<(pos:Int))=true:=decide_eq_true (by omega);have g2:decide (0<pos)=true:=decide_eq_true h0
              go_wp2_with fail
              go_roundw
              case rel=>exact⟨pos+1,_,by omega,rfl,rfl,HN⟩
              case measure=>simp;omega
            . obtain rfl:pos=0:=by omega
              go_wp2_with fail
              go_roundw
              case rel=>exact⟨1,_,by omega,rfl,rfl,HN⟩
              case measure=>simp;omega
        . have g1:((c.toNat:Int) == 34)=false:=(ws (n:=34) (by decide)).2 c34;clear h1;by_cases c92:c=92
          . subst c92
            go_wp2_with fail
            go_roundw
            case rel=>exact⟨pos+1,_,by omega,rfl,rfl,zb (by simpa using HN.out)⟩
            case measure=>simp;omega
          . have g2:((c.toNat:Int) == 92)=false:=(ws (n:=92) (by decide)).2 c92;have HN2:Hid (QAt s (pos+1) false):=zb (by have:=HN.out;rw[decide_eq_false c92,Bool.false_and] at this;exact this);clear c34 c92 HN
            go_wp2_with fail
            go_roundw
            case rel=>exact⟨pos+1,_,by omega,rfl,rfl,HN2⟩
            case measure=>simp;omega
    . have hnx:∀ ty,(Instr.next (.pointer (some ⟨w.heap.size,0,none⟩)) true ty).run Tryz.prog (w.iter s pos)=_:=fun ty=>run_next_any w s pos ty hp
      obtain⟨h1,h2⟩:=HA.out.high H34.out hp (by omega);have HN:=zb h2;have hx:=(decode_high s pos hp (by omega)).1;obtain⟨hk1,hk2,_⟩:=wU s pos hp (by omega);clear h2;generalize (Utf8.decode s pos).1=x at *;generalize (Utf8.decode s pos).2=k at *;have g1:((x:Int) == 34)=false:=by rw[beq_eq_false_iff_ne];omega
      have g2:((x:Int) == 92)=false:=by rw[beq_eq_false_iff_ne];omega
      go_wp2_with fail
      go_roundw
      case rel=>exact⟨pos+k,_,by omega,rfl,rfl,HN⟩
      case measure=>simp;omega
  . have hnx:∀ ty,(Instr.next (.pointer (some ⟨w.heap.size,0,none⟩)) true ty).run Tryz.prog (w.iter s pos)=_:=fun ty=>run_next_end w s pos ty hp
    obtain rfl:pos=s.size:=by omega
    have HN:=zb HA.out.stop
    go_wp2_with fail
    go_ret;exact⟨by rw[HN.out];rfl,xi w s _⟩
end
section
open Go.RowKit
def tokAgg (k a:Int) (s:List UInt8) (n:Int):Value:=.agg #[.int .i64 k,.int .i64 a,.string ⟨s.toArray⟩,.int .i64 n]
def ValMade (v:Value) (w:World) (e:Ending) (w':World):Prop:=e=.returned v/\Below w.heap.size w w'
theorem zp {w:World} {q:Nat} {cs:Array Value} {t:TypeId} {fr:Nat×Nat} (h:w.heap[q]? = some (.cells cs t fr)):q<w.heap.size:=(Array.getElem?_eq_some_iff.1 h).1
def TokBox (w:World) (b:Nat) (k a:Int) (s:ByteArray) (n:Int):Prop:=w.heap[b]? = some (.cells #[.int .i64 k,.int .i64 a,.string s,.int .i64 n] 69 (0,0))
theorem TokBox.cells {w:World} {b:Nat} {k a n:Int} {s:ByteArray} (h:TokBox w b k a s n):w.cell? ⟨b,0,none⟩=some (.int .i64 k)/\w.cell? ⟨b,1,none⟩=some (.int .i64 a)/\w.cell? ⟨b,2,none⟩=some (.string s)/\w.cell? ⟨b,3,none⟩=some (.int .i64 n)/\∀ i,w.frozen? ⟨b,i,none⟩=false:=by
 refine⟨?_,?_,?_,?_,Lib.frozen_of_heap h⟩ <;> (rw[zf h];rfl)
theorem TokBox.new (w:World):TokBox (w.alloc (.cells #[.int .i64 0,.int .i64 0,.string ⟨#[]⟩,.int .i64 0] 69 (0,0))) w.heap.size 0 0 ⟨#[]⟩ 0:=zA w _ _ rfl
theorem zR (w:World):Below w.heap.size w (w.alloc (.cells #[.int .i64 0,.int .i64 0,.string ⟨#[]⟩,.int .i64 0] 69 (0,0))):=(Below.refl _ w).alloc (Nat.le_refl _) _
theorem TokBox.below {w w':World} {b B:Nat} {k a n:Int} {s:ByteArray} (h:TokBox w b k a s n) (hb:Below B w w') (hB:b<B):TokBox w' b k a s n:=(hb.block b hB).trans h
theorem zn {w:World} {b:Nat} {c:Array Value} {t:TypeId} {fz:Nat×Nat} (h:w.heap[b]? = some (.cells c t fz)) (i:Nat) (v:Value):(w.setCell ⟨b,i,none⟩ v).heap[b]? = some (.cells (c.setIfInBounds i v) t fz):=by
 simp [World.setCell,Array.getElem?_modify,h]
def tokSet (w:World) (b:Nat) (k a:Int) (s:ByteArray) (n:Int):World:=(((w.setCell ⟨b,0,none⟩ (.int .i64 k)).setCell ⟨b,1,none⟩ (.int .i64 a)).setCell ⟨b,2,none⟩ (.string s)).setCell ⟨b,3,none⟩ (.int .i64 n)
theorem TokBox.set {w:World} {b:Nat} {k a n:Int} {s:ByteArray} (h:TokBox w b k a s n) (k' a':Int) (s':ByteArray) (n':Int):TokBox (tokSet w b k' a' s' n') b k' a' s' n' :=
 zn (zn (zn (zn h 0 _) 1 _) 2 _) 3 _
theorem zbI {B:Nat} {w w':World} {b:Nat} (h:Below B w w') (hB:B<=b) (k a:Int) (s:ByteArray) (n:Int):Below B w (tokSet w' b k a s n) :=
 (((h.setCell (p:=⟨b,0,none⟩) hB _).setCell (p:=⟨b,1,none⟩) hB _).setCell (p:=⟨b,2,none⟩) hB _).setCell (p:=⟨b,3,none⟩) hB _
theorem zD {w w1 w2:World} {b:Nat} {k a n:Int} {s:ByteArray} (h:TokBox w1 b k a s n) (hb:Below w.heap.size w w1) (hB:w.heap.size<=b) (k' a':Int) (s':ByteArray) (n':Int) (he:tokSet w1 b k' a' s' n'=w2):TokBox w2 b k' a' s' n'/\Below w.heap.size w w2:=by
 subst he;exact⟨h.set _ _ _ _,zbI hb hB _ _ _ _⟩
theorem tA (s:ByteArray) (w:World) (hs:s.size<=281474976710656):Calls Tryz.prog 201 #[.string s] w (ValMade (.string s) w):=by
 go_enter Tryz.func201, Tryz.ntmps201
 go_wp2_with fail
 refine(Tryz.stringslite_Clone s _ hs).mono ?_;rintro e w1 ⟨rfl,hb⟩;have HB:=zb hb;clear hb
 go_wp2_with fail
 go_ret;exact⟨rfl,HB.out⟩
theorem vM (k:Int) (s:ByteArray) (w:World) (hs:s.size<=281474976710656):Calls Tryz.prog 171 #[.int .i64 k,.string s] w (ValMade (tokAgg k 0 s.data.toList 0) w):=by
 have HC:=zb (fun W=>tA s W hs);have HE:=zb (zd7 s)
 go_enter Tryz.func171, Tryz.ntmps171
 go_wp2_with fail
 refine(HC.out _).mono ?_;rintro e w1 ⟨rfl,hb⟩;have hn:=(TokBox.new w).below hb (by simp);obtain⟨c0,c1,c2,c3,cf⟩:=hn.cells;have f0:=cf 0;have f1:=cf 1;have f2:=cf 2;have f3:=cf 3;have hl:=zp hn;have HB:=zb hb;have HN:=zb hn;clear hb hn cf
 go_wp2_with fail
 have HS:=zb (zD HN.out ((zR w).trans (HB.out.mono (by simp))) (Nat.le_refl _) k 0 s 0 rfl);unfold tokSet at HS;generalize World.setCell _ _ _=w9 at *;obtain⟨d0,d1,d2,d3,_⟩:=HS.out.1.cells;refine bodyPost_ret (v:=tokAgg k 0 s.data.toList 0) (by simp [results, Tryz.results171,go_sem,d0,d1,d2,d3,tokAgg]) rfl ⟨rfl,HS.out.2⟩
end
