/-
  The walks of the document's sign and long.
-/
import Derived.Test.YtblonfjlcfjodaaGreatDoorPRow
import Derived.Test.YtblonfjlcfjodaaGreatDoorJTp
namespace Go.Proofs.YtblonfjlcfjodaaGreatDoor
set_option linter.unusedSimpArgs false
set_option linter.unusedVariables false
set_option maxRecDepth 100000
set_option maxHeartbeats 4000000
section
open Go.RowKit
theorem t_sign (n:Int) (w:World) (h0:1<=n) (h1:n<=21):Calls Tryz.prog 90 #[.int .i64 n] w (StrMade (signD n) w):=by
 have hn:n=1∨n=2∨n=3∨n=4∨n=5∨n=6∨n=7∨n=8∨n=9∨n=10∨n=11∨n=12∨n=13∨n=14∨n=15∨n=16∨n=17∨n=18∨n=19∨n=20∨n=21:=by omega
 clear h0 h1;rcases hn with rfl | rfl | rfl | rfl | rfl | rfl | rfl | rfl | rfl | rfl | rfl | rfl | rfl | rfl | rfl | rfl | rfl | rfl | rfl | rfl | rfl
 all_goals
  go_enter Tryz.func90, Tryz.ntmps90
  go_wp2_with fail
  go_ret;exact⟨rfl,zj _⟩
def longD (s:List UInt8):List UInt8×Int:=if 4096<s.length then([],4) else(s,0)
def LongTold (r:List UInt8×Int) (w:World) (e:Ending) (w':World):Prop:=e=.returned (.tuple #[.string ⟨r.1.toArray⟩,.int .i64 r.2])/\w=w'
theorem t_long (l:List UInt8) (w:World) (hl:l.length<=1000000000):Calls Tryz.prog 46 #[.string ⟨l.toArray⟩] w (LongTold (longD l) w):=by
 have q1:(⟨l.toArray⟩:ByteArray).size=l.length:=by simp [ByteArray.size]
 go_enter Tryz.func46, Tryz.ntmps46
 by_cases h:4096<l.length
 . have e:decide ((4096:Int)<(l.length:Int))=true:=decide_eq_true (by omega);have HT:Hid (longD l=([],4)):=zb (if_pos h)
   go_wp2_with fail
   go_ret2;exact⟨by rw[HT.out];rfl,rfl⟩
 . have e:decide ((4096:Int)<(l.length:Int))=false:=decide_eq_false (by omega);have HT:Hid (longD l=(l,0)):=zb (if_neg h)
   go_wp2_with fail
   go_ret2;exact⟨by rw[HT.out];rfl,rfl⟩
end
section
open Go.RowKit
def szs:List (List UInt8)->Nat
 | []=>0
 | t::r=>t.length+10+szs r
theorem zf7 (ts:List (List UInt8)):(ts.getD 0 []).length+(ts.getD 1 []).length+(ts.getD 2 []).length<=szs ts:=by
 match ts with
 | []=>exact Nat.le_refl _
 | [a]=>show a.length+0+0<=a.length+10+0;omega
 | [a,b]=>show a.length+b.length+0<=a.length+10+(b.length+10+0);omega
 | a::b::c::r=>show a.length+b.length+c.length<=a.length+10+(b.length+10+(c.length+10+szs r));omega
theorem zfl:∀(ls ts:List (List UInt8)) (more:Bool),(fieldsD more ls ts).length<=wtL ls+szs ts
 | [],ts,more=>by unfold fieldsD;exact Nat.zero_le _
 | l::ls,[],more=>by unfold fieldsD;exact Nat.zero_le _
 | l::ls,t::ts,more=>by
  have h:=zfl ls ts true;have h2:(if more then [44,32] else []:List UInt8).length<=2:=by cases more <;> decide
  rw[fieldsD,wtL,szs];simp only[List.length_append,List.length_cons,List.length_nil];omega
theorem zf3:∀(ts:List (List UInt8)) (more:Bool),(armsD more ts).length<=szs ts
 | [],more=>by unfold armsD;exact Nat.zero_le _
 | t::ts,more=>by
  have h:=zf3 ts true;have h2:(if more then [32,124,32] else []:List UInt8).length<=3:=by cases more <;> decide
  rw[armsD,szs];simp only[List.length_append];omega
theorem zgp:∀ ts:List (List UInt8),(ts.flatMap fun t=>[32]++t).length<=szs ts
 | []=>Nat.zero_le _
 | t::ts=>by
  have h:=zgp ts;rw[List.flatMap_cons,szs];simp only[List.length_append,List.length_cons,List.length_nil];omega
theorem zfD (t:List UInt8):(insideD t).length<=t.length:=by
 unfold insideD
 split
 . exact Nat.le_refl _
 . rw[List.length_take,List.length_drop];omega
theorem zf4 (n:Int):(signD n).length<=6:=by
 unfold signD
 split
 . exact Nat.zero_le _
 . generalize n.toNat=k;have h:∀ t∈([[],sPlus,sMinus,sTimes,sOver,sRem,sMinus,sEq,sLess,sNot,sRef,sBang,sAssign,sArray,sGet,sSet,sLen,sSize,sByte,sCat,sGetc,sPutc]:List (List UInt8)),t.length<=6:=by decide
   generalize ([[],sPlus,sMinus,sTimes,sOver,sRem,sMinus,sEq,sLess,sNot,sRef,sBang,sAssign,sArray,sGet,sSet,sLen,sSize,sByte,sCat,sGetc,sPutc]:List (List UInt8))=L at h;cases hk:L[k]? with
   | none=>exact Nat.zero_le _
   | some t=>exact h t (List.mem_of_getElem? hk)
theorem zfV (n:Int):(truthD n).length<=5:=by
 unfold truthD
 split <;> decide
theorem zf6 (l:List UInt8):(qall l).length<=4*l.length+2:=by
 have:=tv l;unfold qall;simp only[List.length_cons,List.length_append,List.length_nil];omega
theorem zf9 {h:Hd} (hw:h.wide) (ts:List (List UInt8)):(patTextV h ts).length<=40+4*costV h+wtL h.labels+szs ts:=by
 have h1:=zf7 ts;have h2:=zfl h.labels ts false;have h3:=zfV h.n;have h4:=zf6 h.s;have h5:=zea h.n hw.n.1 hw.n.2;unfold patTextV costV
 repeat' split
 all_goals try simp only[List.length_append,List.length_cons,List.length_nil]
 all_goals omega
theorem ite_len {c:Prop} [Decidable c] {a b:List UInt8} {n:Nat} (ha:a.length<=n) (hb:b.length<=n):(if c then a else b).length<=n:=by
 by_cases h:c
 . rw[if_pos h];exact ha
 . rw[if_neg h];exact hb
theorem textV_len {h:Hd} (hw:h.wide) (ts ars:List (List UInt8)):(textV h ts ars).length<=40+4*costV h+wtL h.labels+szs ts+szs ars:=by
 have h1:=zf7 ts;have h2:=zfl h.labels ts false;have h3:=zfV h.n;have h4:=zf6 h.s;have h5:=zea h.n hw.n.1 hw.n.2;have h6:=zf3 ars false;have h7:=zgp ts;have h8:=zfD (ts.getD 0 []);have h9:=zf4 h.n;have h10:(if h.kind=17 then [40,116,114,121,32] else [40,109,97,116,99,104,32]:List UInt8).length<=7:=ite_len (by decide) (by decide)
 unfold textV costV;generalize (if h.kind=17 then [40,116,114,121,32] else [40,109,97,116,99,104,32]:List UInt8)=mt at *
 generalize Lib.itoa h.n=v0 at *;generalize qall h.s=v1 at *;generalize truthD h.n=v2 at *;generalize insideD (ts.getD 0 [])=v3 at *;generalize signD h.n=v4 at *;generalize fieldsD false h.labels ts=v5 at *;generalize armsD false ars=v6 at *;generalize (ts.flatMap fun t=>[32]++t)=v7 at *;generalize ts.getD 0 []=u0 at *;generalize ts.getD 1 []=u1 at *;generalize ts.getD 2 []=u2 at *
 repeat' apply ite_len
 all_goals try simp only[List.length_append,List.length_cons,List.length_nil]
 all_goals omega
theorem zf8 {f:Nd->List UInt8}:∀{l:List Nd},(∀ y∈l,(f y).length+10<=60*y.wt)->szs (l.map f)<=60*wtN l
 | [],_=>Nat.zero_le _
 | x::r,h=>by
  have h1:=h x (by simp);have h2:=zf8 (l:=r) fun y hy=>h y (by simp [hy]);show(f x).length+10+szs (r.map f)<=60*(x.wt+wtN r);omega
theorem zgs:∀{l:List (Nd×Nd)},(∀ q∈l,(patTextD q.1).length+10<=60*q.1.wt/\(textD q.2).length+10<=60*q.2.wt)->szs (textDa l)<=60*wtA l
 | [],_=>Nat.zero_le _
 | (p,b)::r,h=>by
  have h1:=h (p,b) (by simp);have h2:=zgs (l:=r) fun y hy=>h y (by simp [hy]);dsimp only at h1;rw[textDa,szs,wtA];simp only[List.length_append,List.length_cons,List.length_nil];omega
theorem ze9:∀ x:Nd,x.wide->(textD x).length+10<=60*x.wt/\(patTextD x).length+10<=60*x.wt:=by
 refine xw fun h l a hl ha hw=>?_;obtain⟨h1,h2,h3⟩:=hw;have e1:=textV_len h1 (textDs l) (textDa a);have e2:=zf9 h1 (patTextDs l);have e3:=zf8 (f:=textD) fun y hy=>(hl y hy (xG h2 y hy)).1;have e4:=zf8 (f:=patTextD) fun y hy=>(hl y hy (xG h2 y hy)).2;have e5:=zgs fun q hq=>⟨((ha q hq).1 (xY h3 q hq).1).2,((ha q hq).2 (xY h3 q hq).2).1⟩;rw[← zfi] at e3;rw[← zfa] at e4;have e6:1<=costV h:=by unfold costV;omega
 rw[textD,patTextD,Nd.wt];constructor <;> omega
def boundsD (L:List (Int×Nat)):Int:=if 4096<L.length then 3 else if L.any (fun t=>decide (200<t.2)) then 22 else 0
theorem zgz (L:List (Int×Nat)) (m:Nat):(L.find? fun t=>decide ((m:Int)<(t.2:Int))).isSome=L.any (fun t=>decide (m<t.2)):=by
 induction L with
 | nil=>rfl
 | cons t r ih =>
  rw[List.find?_cons,List.any_cons];by_cases h:m<t.2
  . rw[decide_eq_true h,decide_eq_true (by omega:(m:Int)<(t.2:Int))];rfl
  . rw[decide_eq_false h,decide_eq_false (by omega:¬(m:Int)<(t.2:Int))];exact ih
theorem zfA {L:List (Int×Nat)} (h:¬4096<L.length):boundsD (L.take 4097)=if L.any (fun t=>decide (200<t.2)) then 22 else 0:=by
 rw[List.take_of_length_le (by omega)];unfold boundsD;rw[if_neg h]
theorem zfu {L:List (Int×Nat)} (h:4096<L.length):boundsD (L.take 4097)=3:=by
 unfold boundsD;rw[if_pos (by rw[List.length_take];omega)]
theorem zgl {x:Nd} {p d:Int} (h:¬p<((x.parts 1).length:Int)):limV x p d=if (deepV d x).isSome then 22 else 0:=by
 unfold limV;rw[if_neg h]
theorem zgT (x:Nd):boundsD ((x.parts 1).take 4097)=limV x 4096 200:=by
 by_cases h:4096<(x.parts 1).length
 . rw[zfu h];unfold limV;rw[if_pos (by omega)]
 . rw[zfA h,zgl (by omega)];unfold deepV;rw[Option.isSome_map];have e:=zgz (x.parts 1) 200;rw[show((200:Nat):Int)=200 from rfl] at e
   rw[e]
theorem zfB:∀(x:Nd) (d:Nat),x.parts (d+1)=(x.parts d).map fun t=>(t.1,t.2+1):=by
 refine xw fun h l a hl ha d=>?_;have e1:∀(l:List Nd),(∀ y∈l,∀ d:Nat,y.parts (d+1)=(y.parts d).map fun t=>(t.1,t.2+1))->partsN (d+1+1) l=(partsN (d+1) l).map fun t=>(t.1,t.2+1):=by
  intro l
  induction l with
  | nil=>intro _;rfl
  | cons y r ih =>
   intro hy;rw[partsN,partsN,List.map_append,hy y (by simp),ih fun z hz=>hy z (by simp [hz])]
 have e2:∀(l:List (Nd×Nd)),(∀ q∈l,(∀ d:Nat,q.1.parts (d+1)=(q.1.parts d).map fun t=>(t.1,t.2+1))/\∀ d:Nat,q.2.parts (d+1)=(q.2.parts d).map fun t=>(t.1,t.2+1))->partsA (d+1+1) l=(partsA (d+1) l).map fun t=>(t.1,t.2+1):=by
  intro l
  induction l with
  | nil=>intro _;rfl
  | cons q r ih =>
   obtain⟨p,b⟩:=q;intro hy;rw[partsA,partsA,List.map_append,List.map_append,(hy (p,b) (by simp)).1,(hy (p,b) (by simp)).2,ih fun z hz=>hy z (by simp [hz])]
 rw[Nd.parts,Nd.parts,List.map_cons,List.map_append,e1 l hl,e2 a ha]
theorem zfQ (x:Nd):(wrapP x).parts 1=(0,1)::(x.parts 2++[(0,2)]):=by
 show(0,1)::([]++(x.parts 2++(z0.parts 2++[])))=_;rfl
theorem zgx (x:Nd):((wrapP x).parts 1).length=(x.parts 1).length+2:=by
 rw[zfQ,zfB x 1];simp only[List.length_cons,List.length_append,List.length_map,List.length_nil]
theorem zgB (x:Nd):boundsD ((x.parts 1).take 4097)=limV (wrapP x) 4098 201:=by
 by_cases h:4096<(x.parts 1).length
 . rw[zfu h];unfold limV;rw[if_pos (by rw[zgx];omega)]
 . rw[zfA h,zgl (by rw[zgx];omega)];unfold deepV;rw[Option.isSome_map,zfQ,zfB x 1];have e:=zgz ((0,1)::((x.parts 1).map (fun t=>(t.1,t.2+1))++[(0,2)])) 201;rw[show((201:Nat):Int)=201 from rfl] at e
   rw[e,List.any_cons,List.any_append,List.any_map,List.any_cons,List.any_nil];have e2:((x.parts 1).any ((fun t:Int×Nat=>decide (201<t.2))∘fun t=>(t.1,t.2+1)))=(x.parts 1).any fun t=>decide (200<t.2):=by
    congr 1;funext t;show decide (201<t.2+1)=decide (200<t.2);rw[decide_eq_decide];omega
   rw[e2,show decide (201<1)=false from rfl,show decide (201<2)=false from rfl,Bool.false_or,Bool.or_false,Bool.or_false]
def docE (x:Nd):List UInt8×Int:=if boundsD ((x.parts 1).take 4097)≠0 then([],boundsD ((x.parts 1).take 4097)) else if mayD x then longD (textD x) else([],5)
def docP (x:Nd):List UInt8×Int:=if boundsD ((x.parts 1).take 4097)≠0 then([],boundsD ((x.parts 1).take 4097)) else if patMayD x then longD (patTextD x) else([],5)
theorem zgw {s t:List UInt8} (h:Rel s t):longD t=if s.length<=4096 then(s,0) else([],4):=by
 unfold longD;rcases h with rfl | ⟨h1,h2⟩
 . by_cases h:s.length<=4096
   . rw[if_neg (by omega),if_pos h]
   . rw[if_pos (by omega),if_neg h]
 . rw[if_pos h2,if_neg (by omega)]
theorem docE_show (x:Nd):docE x=ShowV x:=by
 have hb:=zgT x;by_cases h:limV x 4096 200=0
 . have e1:docE x=if mayD x then longD (textD x) else([],5):=by
    unfold docE;rw[if_neg (fun hn=>hn (hb.trans h))]
   have e2:ShowV x=match showE x with
    | none=>([],5)
    | some t=>if t.length<=4096 then(t,0) else([],4):=by
    unfold ShowV;rw[if_neg (fun hn=>hn h)];rfl
   rw[e1,e2];rcases show_doc x with⟨h1,h2⟩ | ⟨h1,s,h2,h3⟩
   . rw[h1,h2];rfl
   . rw[h1,h2,if_pos rfl,zgw h3]
 . unfold docE ShowV;rw[hb,if_pos h,if_pos h]
theorem docP_show (x:Nd):docP x=PatV x:=by
 have hb:=zgB x;by_cases h:limV (wrapP x) 4098 201=0
 . have e1:docP x=if patMayD x then longD (patTextD x) else([],5):=by
    unfold docP;rw[if_neg (fun hn=>hn (hb.trans h))]
   have e2:PatV x=match showP x with
    | none=>([],5)
    | some t=>if t.length<=4096 then(t,0) else([],4):=by
    unfold PatV;rw[if_neg (fun hn=>hn h)];rfl
   rw[e1,e2];rcases showP_doc x with⟨h1,h2⟩ | ⟨h1,s,h2,h3⟩
   . rw[h1,h2];rfl
   . rw[h1,h2,if_pos rfl,zgw h3]
 . unfold docP PatV;rw[hb,if_pos h,if_pos h]
end
section
open Go.RowKit
theorem partsC_at {L:List (Int×Nat)} {i:Nat} {t:Int×Nat} (h:L[i]? = some t):(partCells L)[i*2]? = some (.int .i64 t.1)/\(partCells L)[i*2+1]? = some (.int .i64 (t.2:Nat)):=by
 induction L generalizing i with
 | nil=>simp at h
 | cons a L ih =>
  cases i with
  | zero =>
   obtain rfl:=zc h;exact⟨rfl,rfl⟩
  | succ i =>
   obtain⟨h1,h2⟩:=ih (by simpa using h);have e:partCells (a::L)=.int .i64 a.1::.int .i64 (a.2:Nat)::partCells L:=rfl;rw[e,show(i+1)*2=i*2+2 by omega];exact⟨h1,h2⟩
theorem PartRow.cell_ {B:Nat} {w:World} {v:Value} {L:List (Int×Nat)} (h:PartRow B w v L):∃ A c,v=.slice A L.length c/\L.length<=c/\∀(W:World) (i:Nat) (t:Int×Nat),L[i]? = some t->Below w.heap.size w W->∃ g,A=some ⟨g,0,none⟩/\g<W.heap.size/\W.cell? ⟨g,i*2+1,none⟩=some (.int .i64 (t.2:Nat)):=by
 have h0:=h;rcases h.2 with⟨h1,h2⟩ | ⟨g,cap,cur,rfl,hb,hg,hc,hk,_⟩
 . refine⟨none,0,by rw[h1,h2],by omega,fun W i t ht _=>?_⟩;have:=(List.getElem?_eq_some_iff.1 ht).1;omega
 . refine⟨_,cap,rfl,by omega,fun W i t ht hbw=>⟨g,rfl,zd (zp hg) hbw.size,?_⟩⟩;have hi:=(List.getElem?_eq_some_iff.1 ht).1;obtain⟨k1,k2⟩:=partsC_at ht;have hj:∀ j,j<L.length*2->W.cell? ⟨g,j,none⟩=(partCells L)[j]? := fun j hj=>(hbw.cell (p:=⟨g,j,none⟩) (zp hg)).trans (World.ownsRow.cellAt h0 j hj);exact(hj _ (by omega)).trans k2
def NumB (r:Int) (w:World) (e:Ending) (w':World):Prop:=e=.returned (.int .i64 r)/\Below w.heap.size w w'
theorem any_next {α:Type} {f:α->Bool} {l:List α} {k:Nat} {x:α} (h:l[k]? = some x) (ha:(l.take k).any f=false):(f x=false->(l.take (k+1)).any f=false)/\(f x=true->l.any f=true):=by
 refine⟨fun hf=>?_,fun hf=>?_⟩
 . rw[List.take_add_one,h,List.any_append,ha];simp [hf]
 . rw[List.any_eq_true];exact⟨x,List.mem_of_getElem? h,hf⟩
theorem zgv (B:Nat) (L:List (Int×Nat)) (v:Value) (w:World) (h:PartRow B w v L) (hn:L.length<=5000):Calls Tryz.prog 44 #[v] w (NumB (boundsD L) w):=by
 obtain⟨A,c,rfl,hc,hat⟩:=h.cell_;have HAT:=zb hat;clear hat h;by_cases hm:4096<L.length
 . have e:decide ((4096:Int)<(L.length:Int))=true:=decide_eq_true (by omega);have HR:Hid (boundsD L=3):=zb (if_pos hm);clear hm
   go_enter Tryz.func44, Tryz.ntmps44
   go_wp2_with fail
   go_ret;exact⟨by rw[HR.out];rfl,Below.refl _ _⟩
 . have e:decide ((4096:Int)<(L.length:Int))=false:=decide_eq_false (by omega);have HR:Hid (boundsD L=if L.any (fun t=>decide (200<t.2)) then 22 else 0):=zb (if_neg hm)
   clear hm;have HZ:=zb (Below.refl w.heap.size w)
   go_enter Tryz.func44, Tryz.ntmps44
   go_upto_region 4 with fail
   clear e
   go_loopw [3] (fun vi wr=>∃ k:Nat,k<=L.length/\vi=.int .i64 k/\Hid (Below w.heap.size w wr)/\Hid ((L.take k).any (fun t=>decide (200<t.2))=false)) (fun vi _=>L.length-(intOf vi).toNat)
   case atStart=>exact⟨0,Nat.zero_le _,by go_num,HZ,zb rfl⟩
   case round =>
    clear HZ;obtain⟨k,hk1,rfl,HV,HAL⟩:=hrel;by_cases hk2:k<L.length
    . have h2:decide ((k:Int)<(L.length:Int))=true:=decide_eq_true (by omega);have h3:(k:Int)<(L.length:Int):=by omega
      have h4:(0:Int)<=(k:Int):=by omega
      have E5:IntKind.i64.wrap ((k:Int)+1)=(k:Int)+1:=by rw[IntKind.wrap_i64];omega
      obtain⟨t,ht⟩:∃ t,L[k]? = some t:=⟨_,List.getElem?_eq_getElem hk2⟩;obtain⟨g,rfl,hgl,y0⟩:=HAT.out _ k t ht HV.out;have HN:=zb (any_next ht HAL.out);clear ht HAL;by_cases hd:200<t.2
      . have l1:decide ((200:Int)<(t.2:Int))=true:=decide_eq_true (by omega);have HR2:Hid (boundsD L=22):=zb (by rw[HR.out,HN.out.2 (decide_eq_true hd)];rfl);clear hd HN HR
        go_wp2_with fail
        go_ret;exact⟨by rw[HR2.out];rfl,by first | exact HV.out | exact HV.out.drew⟩
      . have l1:decide ((200:Int)<(t.2:Int))=false:=decide_eq_false (by omega);have HN2:=zb (HN.out.1 (decide_eq_false hd));clear hd HN
        go_wp2_with fail
        go_roundw
        case rel=>exact⟨k+1,by omega,by go_num,HV,HN2⟩
        case measure=>simp [intOf];omega
    . have h2:decide ((k:Int)<(L.length:Int))=false:=decide_eq_false (by omega);have h3:¬(k:Int)<(L.length:Int):=by omega
      have HR2:Hid (boundsD L=0):=zb (by
       have h9:=HAL.out;rw[List.take_of_length_le (by omega)] at h9;rw[HR.out,h9];rfl)
      clear HAL HR
      go_wp2_with fail
      go_ret;exact⟨by rw[HR2.out];rfl,HV.out⟩
end
section
open Go.RowKit
theorem zfS (x:Nd):patMayD x=(patFormD x&&x.args.all patMayD):=by
 obtain⟨h,l,a⟩:=x;show(patFormD (.mk h l a)&&patMayDs l)=_;rw[zfb];rfl
theorem zg9 (x:Nd):mayD x=(formD x&&(x.args.all mayD&&x.arms.all fun q=>patMayD q.1&&mayD q.2)):=by
 obtain⟨h,l,a⟩:=x;show(formD (.mk h l a)&&(mayDs l&&mayDa a))=_;rw[zfo,zfg];rfl
theorem zfL {α:Type} {f:α->Bool} {l:List α} {k:Nat} {x:α} (h:l[k]? = some x) (ha:(l.take k).all f=true):(f x=true->(l.take (k+1)).all f=true)/\(f x=false->l.all f=false):=by
 refine⟨fun hf=>?_,fun hf=>?_⟩
 . rw[List.take_add_one,h,List.all_append,ha];simp [hf]
 . rw[List.all_eq_false];exact⟨x,List.mem_of_getElem? h,by rw[hf];decide⟩
theorem zgq {x:Nd} (h:x.fit):x.hd.name.length<=900000:=by cases x;exact Nat.le_trans h.1.1 (by decide)
theorem zf5 {x:Nd} (h:x.fit):∀ l∈x.hd.labels,l.length<=900000:=by cases x;exact fun l hl=>Nat.le_trans (h.1.2.2.2.1 l hl) (by decide)
theorem zge {α:Type} {f:α->Bool} {l:List α} {k:Nat} (hk:l.length<=k) (ha:(l.take k).all f=true):l.all f=true:=by rwa [List.take_of_length_le hk] at ha
theorem zfR (x:Nd) (s:Sl) (w:World) (hn:x.hd.name.length<=900000) (hl:∀ l∈x.hd.labels,l.length<=900000) (hx:IsP w (fun _=>True) (paL x s) x)
 (hrec:∀ a∈x.args,∀(t:Sl) (W:World),IsP W (fun _=>True) (paL a t) a->Calls Tryz.prog 51 #[paOf a t] W (YesMade (patMayD a) W))
 : Calls Tryz.prog 51 #[paOf x s] w (YesMade (patMayD x) w):=by
 have HX:=zb hx;have HREC:=zb hrec;have HT:=zb (zfS x);have HF:Hid (∀ W,Below w.heap.size w W->Calls Tryz.prog 94 #[paOf x s] W (YesMade (patFormD x) W)):=zb fun W hW=>t_patForm x s W hn hl (hx.below hW);generalize patFormD x=fb at *;clear hx hrec hn hl;unfold paOf at HF;unfold paOf
 go_enter Tryz.func51, Tryz.ntmps51
 go_upto_region 1 with fail
 obtain⟨W0,hW0⟩:∃ W,w.alloc (.cells #[.int .i64 x.hd.kind,.int .i64 x.hd.pos,.string ⟨x.hd.name.toArray⟩,.int .i64 x.hd.n,.string ⟨x.hd.s.toArray⟩,.slice s.la x.hd.labels.length s.lc,.slice s.aa x.args.length s.ac] 39 (0,0))=W:=⟨_,rfl⟩;have HB0:Hid (Below w.heap.size w W0):=zb (by rw[← hW0];exact zj _);have HPX:Hid (PaBox W0 w.heap.size x s):=zb (by rw[← hW0];exact zA w _ _ rfl);rw[hW0];clear hW0;generalize hbx:w.heap.size=bx at HPX ⊢;clear hbx;obtain⟨a0,a1,a2,a3,a4,a5,a6,af⟩:=Box7.cells HPX.out;have al:=HPX.out.lt;clear af
 go_wp2_with fail
 refine(HF.out _ HB0.out).mono ?_;rintro e w1 ⟨rfl,hb1⟩;have HB1:=zb (HB0.out.trans (hb1.mono HB0.out.size));have HP1:=zb (Box7.below HPX.out hb1);have HX1:=zb (HX.out.below HB1.out);clear hb1 HPX HF HX HB0 a0 a1 a2 a3 a4 a5 a6 al;cases fb
 . have HR:Hid (patMayD x=false):=zb (by rw[HT.out];rfl);clear HT
   go_wp2_with fail
   go_ret;exact⟨by rw[HR.out];rfl,HB1.out⟩
 have HLE:Hid (x.args.length<=9223372036854775807):=zb HX1.out.look.2.2.2.1;have HZ:=zb (Below.refl w1.heap.size w1)
 go_upto_region 4 with fail
 go_loopw [3] (fun vi wr=>∃ k:Nat,k<=x.args.length/\vi=.int .i64 k/\Hid (Below w1.heap.size w1 wr)/\Hid ((x.args.take k).all patMayD=true)) (fun vi _=>x.args.length-(intOf vi).toNat)
 case atStart=>exact⟨0,Nat.zero_le _,by go_num,HZ,zb rfl⟩
 case round =>
  clear HZ;obtain⟨k,hk1,rfl,HV,HAL⟩:=hrel;obtain⟨a0,a1,a2,a3,a4,a5,a6,af⟩:=Box7.cells (Box7.below HP1.out HV.out);have al:=Box7.lt (Box7.below HP1.out HV.out);clear af;by_cases hk2:k<x.args.length
  . have h2:decide ((k:Int)<(x.args.length:Int))=true:=decide_eq_true (by omega);have h3:(k:Int)<(x.args.length:Int):=by omega
    have h4:(0:Int)<=(k:Int):=by omega
    have E5:IntKind.i64.wrap ((k:Int)+1)=(k:Int)+1:=by rw[IntKind.wrap_i64];have:=HLE.out;omega
    obtain⟨ca,hca⟩:∃ a,x.args[k]? = some a:=⟨_,List.getElem?_eq_getElem hk2⟩;obtain⟨g1,o1,t1,e1,l1,i1,c1⟩:=(HX1.out.below HV.out).look.2.2.2.2 k ca hca;rw[e1] at a6;have x0:=c1 0 _ rfl;have x1:=c1 1 _ rfl;have x2:=c1 2 _ rfl;have x3:=c1 3 _ rfl;have x4:=c1 4 _ rfl;have x5:=c1 5 _ rfl;have x6:=c1 6 _ rfl;rw[Nat.add_zero] at x0;have HC:=zb (HREC.out ca (List.mem_of_getElem? hca) t1 wr i1);have HN:=zb (zfL hca HAL.out);have HAF:Hid (x.args.all patMayD=false->patMayD x=false):=zb (fun h=>by rw[HT.out,h];rfl);clear c1 e1 i1 hca HAL;generalize patMayD ca=b at *;unfold paOf at HC
    go_wp2_with fail
    refine HC.out.mono ?_;rintro e w6 ⟨rfl,hb6⟩;have HV6:=zb (HV.out.trans (hb6.mono HV.out.size));clear hb6 HC;cases b
    . have HR:Hid (patMayD x=false):=zb (HAF.out (HN.out.2 rfl));clear HN HAF HT
      go_wp2_with fail
      go_ret;exact⟨by rw[HR.out];rfl,HB1.out.trans (HV6.out.mono HB1.out.size)⟩
    . have HN2:=zb (HN.out.1 rfl);clear HN HAF
      go_wp2_with fail
      go_roundw
      case rel=>exact⟨k+1,by omega,by go_num,HV6,HN2⟩
      case measure=>simp [intOf];omega
  . have h2:decide ((k:Int)<(x.args.length:Int))=false:=decide_eq_false (by omega);have h3:¬(k:Int)<(x.args.length:Int):=by omega
    have HR:Hid (patMayD x=true):=zb (by rw[HT.out,zge (by omega) HAL.out];rfl);clear HAL HT
    go_wp2_with fail
    go_ret;exact⟨by rw[HR.out];rfl,HB1.out.trans (HV.out.mono HB1.out.size)⟩
theorem zfN:∀(m:Nat) (x:Nd) (s:Sl) (w:World),x.size<=m->x.fit->IsP w (fun _=>True) (paL x s) x->Calls Tryz.prog 51 #[paOf x s] w (YesMade (patMayD x) w)
 | 0,x,_,_,h,_,_=>absurd h (by cases x;show ¬(1+_+_<=0);omega)
 | m+1,x,s,w,h,hf,hx=>zfR x s w (zgq hf) (zf5 hf) hx fun a ha t W hi=>zfN m a t W (by have:=xO ha;omega) (zeC hf ha) hi
end
