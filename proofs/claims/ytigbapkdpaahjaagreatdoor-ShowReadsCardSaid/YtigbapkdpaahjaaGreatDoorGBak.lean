/-
  Plain facts: tokens that stand side by side are read one by one, where what stands behind a token can't length.
-/
import Derived.Test.YtigbapkdpaahjaaGreatDoorGBin
import Derived.Test.YtigbapkdpaahjaaGreatDoorGShowA
namespace Go.Proofs.YtigbapkdpaahjaaGreatDoor
set_option linter.unusedSimpArgs false
set_option linter.unusedVariables false
section
open Go.RowKit
def softC (c:UInt8):Bool := !isBody c&&(!(decide (c=62))&&(!(decide (c=61))&&(!(decide (c=38))&&!(decide (c=124)))))
theorem rK {c:UInt8} (h:softC c=true):isBody c=false:=by
 unfold softC at h
 cases hb:isBody c with
 | false=>rfl
 | true=>rw[hb] at h;cases h
theorem sH:∀ s∈signL,∀ c∈s.tail,softC c=false:=by decide
theorem uO {d:UInt8} (hd:softC d=true):∀(s l m:List UInt8),(∀ c∈s,softC c=false)→s.isPrefixOf (l++d::m)=s.isPrefixOf l
 | [],l,m,_=>by simp
 | c::s,[],m,h=>by
  have:c≠d:=fun e=>by
   have:=h c (by simp)
   rw[e,hd] at this;cases this
  show((c == d)&&s.isPrefixOf m)=false
  rw[beq_eq_false_iff_ne.2 this];rfl
 | c::s,e::l,m,h=>by
  show((c == e)&&s.isPrefixOf (l++d::m))=((c == e)&&s.isPrefixOf l)
  rw[uO hd s l m fun x hx=>h x (by simp [hx])]
theorem qZ {d:UInt8} (hd:softC d=true) (e:UInt8) (l m:List UInt8):signTok (e::l++d::m)=signTok (e::l):=by
 unfold signTok
 rw[tF _ (·.isPrefixOf (e::l)) signL fun s hs=>by
  cases s with
  | nil=>simp
  | cons c s =>
   show((c == e)&&s.isPrefixOf (l++d::m))=((c == e)&&s.isPrefixOf l)
   rw[uO hd s l m fun x hx=>sH _ hs x hx]]
theorem uM {d:UInt8} (hd:softC d=true) (l m:List UInt8):nameOf (l++d::m)=nameOf l:=by
 induction l with
 | nil=>exact yo (rK hd) m
 | cons c r ih =>
  by_cases hc:isBody c=true
  · rw[List.cons_append,zw hc,zw hc,ih]
  · rw[List.cons_append,yo (by simpa using hc),yo (by simpa using hc)]
theorem zbw {d:UInt8} (hd:softC d=true) (r m:List UInt8):tagTok (r++d::m)=tagTok r:=by
 unfold tagTok
 rw[uM hd]
 have:(r++d::m).head?.any isUp=r.head?.any isUp:=by
  cases r with
  | nil =>
   show isUp d=false
   cases hu:isUp d with
   | false=>rfl
   | true=>exact absurd (rK hd) (by rw[v8 hu];decide)
  | cons c r=>rfl
 rw[this]
theorem rH {d:UInt8} (hd:softC d=true) {l:List UInt8} (m:List UInt8) (hl:l≠[]) (hq:qsize (l++d::m)=qsize l∨l.head?≠some 34):oneV (l++d::m)=oneV l:=by
 cases l with
 | nil=>exact absurd rfl hl
 | cons c r =>
  have hn:=uM hd (c::r) m
  have hs:=qZ hd c r m
  have ht:=zbw hd r m
  rw[List.cons_append] at hn hs hq ⊢
  rw[zC,zC,hn,hs,ht]
  have hi:intTok (c::(r++d::m))=intTok (c::r):=by unfold intTok;rw[hn]
  rw[hi]
  by_cases h34:c=34
  · subst h34
    rcases hq with hq | hq
    · have:=tZ (l:=34::r) (m:=d::m) hq
      rw[List.cons_append] at this
      rw[this]
    · exact absurd rfl hq
  · rw[if_neg h34,if_neg h34]
theorem zdK {d:UInt8} (hd:softC d=true) {l:List UInt8} {t:TK} {n:Nat} (h:oneV l=.tok t n) (m:List UInt8):oneV (l++d::m)=.tok t n:=by
 have hl:l≠[]:=fun e=>by rw[e] at h;cases h
 rw[← h]
 by_cases h34:l.head? = some 34
 · exact rH hd m hl (.inl (ru _ hl (qy h h34)))
 · exact rH hd m hl (.inr h34)
def Soft (m:List UInt8):Prop:=m=[]∨∃ d r,m=d::r∧softC d=true
theorem Soft.append {a b:List UInt8} (h:Soft a) (h':Soft b):Soft (a++b):=by
 rcases h with rfl | ⟨d,r,rfl,hd⟩
 · exact h'
 · exact .inr ⟨d,r++b,rfl,hd⟩
theorem xp {c:UInt8} (h:softC c=true) (r:List UInt8):Soft (c::r):=.inr ⟨c,r,rfl,h⟩
def LexA (l:List UInt8) (E:List Tok):Prop:=∀ m M,LexE m M→LexE (l++m) (E++M)
def LexS (l:List UInt8) (E:List Tok):Prop:=∀ m M,Soft m→LexE m M→LexE (l++m) (E++M)
theorem LexA.s {l:List UInt8} {E:List Tok} (h:LexA l E):LexS l E:=fun m M _ hM=>h m M hM
theorem lexA_nil:LexA [] []:=fun m M h=>h
theorem LexA.app {a b:List UInt8} {E F:List Tok} (h:LexA a E) (h':LexA b F):LexA (a++b) (E++F):=fun m M hM=>by
 rw[List.append_assoc,List.append_assoc];exact h _ _ (h' _ _ hM)
theorem LexA.then {a b:List UInt8} {E F:List Tok} (h:LexA a E) (h':LexS b F):LexS (a++b) (E++F):=fun m M hm hM=>by
 rw[List.append_assoc,List.append_assoc];exact h _ _ (h' _ _ hm hM)
theorem LexS.app {c:UInt8} {a b:List UInt8} {E F:List Tok} (h:LexS a E) (h':LexA (c::b) F) (hc:softC c=true):LexA (a++c::b) (E++F):=fun m M hM=>by
 rw[List.append_assoc,List.append_assoc];exact h _ _ (xp hc _) (h' _ _ hM)
theorem LexS.then {a b:List UInt8} {E F:List Tok} (h:LexS a E) (h':LexS b F) (hb:Soft b):LexS (a++b) (E++F):=fun m M hm hM=>by
 rw[List.append_assoc,List.append_assoc];exact h _ _ (hb.append hm) (h' _ _ hm hM)
theorem LexS.e {a:List UInt8} {E:List Tok} (h:LexS a E):LexE a E:=by
 have:=h [] [] (.inl rfl) lexE_nil
 rwa [List.append_nil,List.append_nil] at this
theorem yl {t:TK} (h:Good t):LexS (tokText t) [(t,0)]:=fun m M hm hM p=>by
 obtain⟨h1,c,r,hc,hb⟩:=h
 obtain⟨U,hU,e⟩:=hM (p+(tokText t).length)
 have h2:oneV (tokText t++m)=.tok t (tokText t).length:=by
  rcases hm with rfl | ⟨d,s,rfl,hd⟩
  · rw[List.append_nil];exact h1
  · exact zdK hd h1 s
 refine⟨[(t,p)]++U,?_,by rw[List.map_append,e];rfl⟩
 rw[hc,List.cons_append] at h2 ⊢
 rw[zY hb _ h2,← List.cons_append,List.drop_left]
 rw[hc] at hU
 rw[hU];rfl
theorem lexA_blank:LexA [32] []:=fun m M hM p=>by
 obtain⟨U,hU,e⟩:=hM (p+1)
 exact⟨U,by rw[List.singleton_append,zN (by decide),hU],e⟩
theorem zv {l:List UInt8} {X:List Tok} (h:lexGo 0 0 l=.ok X):LexA (l++[32]) (X.map er):=fun m M hM p=>by
 obtain⟨U0,h0,e0⟩:=lexE_of h p
 obtain⟨U,hU,e⟩:=hM (p+l.length+1)
 refine⟨U0++U,?_,by rw[List.map_append,e0,e]⟩
 rw[List.append_assoc,List.singleton_append,lexGo_two m p l _ h0,hU];rfl
def lone:List UInt8:=[40,41,123,125,46,59,44]
theorem wB {c:UInt8} (hc:c∈lone):LexA [c] [(⟨7,[c],0⟩,0)]:=fun m M hM p=>by
 obtain⟨U,hU,e⟩:=hM (p+1)
 have h:isBlank c=false∧oneV (c::m)=.tok ⟨7,[c],0⟩ 1:=by
  unfold lone at hc
  simp only[List.mem_cons,List.not_mem_nil,or_false] at hc
  rcases hc with rfl | rfl | rfl | rfl | rfl | rfl | rfl
  all_goals
   refine⟨by decide,?_⟩
   rw[zC,if_neg (by decide),if_neg (by decide),if_neg (by decide),if_neg (by decide),if_neg (by decide)]
   unfold signTok signL
   simp [List.isPrefixOf,List.find?]
 refine⟨[(⟨7,[c],0⟩,p)]++U,?_,by rw[List.map_append,e];rfl⟩
 rw[List.singleton_append,zY h.1 _ h.2]
 show(lexGo (p+1) 0 m).add _=_
 rw[hU];rfl
theorem zab {l:List UInt8} (h:isNam l=true):∃ c r,l=c::r∧isLow c=true∧nameOf l=l∧isKey l=false:=by
 unfold isNam at h
 simp only[Bool.and_eq_true,decide_eq_true_eq,Bool.not_eq_true'] at h
 obtain⟨⟨h1,h2⟩,h3⟩:=h
 cases l with
 | nil=>cases h1
 | cons c r =>
  refine⟨c,r,rfl,h1,?_,h3⟩
  have:=zW (c::r)
  rw[h2,List.take_length] at this
  exact this.symm
theorem good_nam {l:List UInt8} (h:isNam l=true):Good ⟨1,l,0⟩:=by
 obtain⟨c,r,rfl,h1,h2,h3⟩:=zab h
 have hx:tokText ⟨1,c::r,0⟩=c::r:=rfl
 refine⟨?_,by rw[hx];exact⟨c,r,rfl,wb (re h1)⟩⟩
 rw[hx,zC,if_pos h1,h2,h3,if_neg (by decide)]
theorem zbU {l:List UInt8} (h:isUpN l=true):∃ c r,l=c::r∧isUp c=true∧nameOf l=l:=by
 cases l with
 | nil=>cases h
 | cons c r =>
  unfold isUpN at h
  simp only[Bool.and_eq_true] at h
  have h1:isUp c=true:=by unfold isUp;rw[Bool.and_eq_true];exact h.1
  obtain⟨d,s,hd,_,h2,_⟩:=zab h.2
  obtain⟨rfl,rfl⟩:=List.cons.inj hd
  have h3:isBody 95=true:=by decide
  rw[zw h3] at h2
  exact⟨c,r,rfl,h1,by rw[zw (v8 h1),(List.cons.inj h2).2]⟩
theorem zeJ {l:List UInt8} (h:isUpN l=true):Good ⟨2,l,0⟩:=by
 obtain⟨c,r,rfl,h1,h2⟩:=zbU h
 have hx:tokText ⟨2,c::r,0⟩=c::r:=rfl
 refine⟨?_,by rw[hx];exact⟨c,r,rfl,wb (v8 h1)⟩⟩
 rw[hx,zC,if_neg (by rw[zbx h1];decide),if_pos h1,h2]
theorem zcX {l:List UInt8} (h:isUpN l=true):Good ⟨3,l,0⟩:=by
 obtain⟨c,r,rfl,h1,h2⟩:=zbU h
 have hx:tokText ⟨3,c::r,0⟩=35::c::r:=rfl
 refine⟨?_,by rw[hx];exact⟨35,_,rfl,by decide⟩⟩
 rw[hx,zC,if_neg (by decide),if_neg (by decide),if_pos rfl]
 unfold tagTok
 rw[if_pos (show(c::r).head?.any isUp=true from h1),h2,List.length_cons,Nat.add_comm];rfl
theorem qo:∀{l:List UInt8},l.all isDig=true→nameOf l=l
 | [],_=>rfl
 | c::r,h=>by
  rw[List.all_cons,Bool.and_eq_true] at h
  rw[zw (rS h.1),qo h.2]
theorem tr {n:Int} (h0:0≤n) (h1:n<4611686018427387904):Good ⟨4,[],n⟩:=by
 have hx:tokText ⟨4,[],n⟩=Lib.itoa n:=rfl
 have h2:=zdo n h0 (by omega)
 have h3:Lib.itoa n=Lib.decDigits n.toNat:=by unfold Lib.itoa;rw[if_neg (by omega)]
 have h4:=zbA (n.toNat+1) n.toNat (by omega)
 have hne:Lib.decDigits n.toNat≠[]:=by
  rw[Lib.decDigits]
  split <;> simp
 rw[← h3] at h4 hne
 have h5:=qo h4
 cases hl:Lib.itoa n with
 | nil=>exact absurd hl hne
 | cons c r =>
  rw[hl] at h2 h4 h5
  have hd:isDig c=true:=by rw[List.all_cons,Bool.and_eq_true] at h4;exact h4.1
  obtain⟨g1,g2,g3,g4⟩:=isDig_not hd
  refine⟨?_,⟨c,r,by rw[hx,hl],wb (rS hd)⟩⟩
  rw[hx,hl,zC,if_neg (by rw[g1];decide),if_neg (by rw[g2];decide),if_neg g3,if_pos hd]
  unfold intTok
  rw[h5,h2,if_pos rfl]
theorem r8 (k:Nat) (h:k<16):hexd k≠34∧hexd k≠92:=(by decide:∀ k:Fin 16,hexd k.val≠34∧hexd k.val≠92) ⟨k,h⟩
theorem qscan_qf (n:Nat) (hn:n<256) (i:Nat) (m:List UInt8):qscan false i (qf n++m)=qscan false (i+(qf n).length) m:=by
 unfold qf
 split
 · rfl
 split
 · rfl
 split
 · rfl
 rename_i e1 e2 e3
 split
 · have a1:UInt8.ofNat n≠34:=rE n hn 34 (by decide) e1
   have a2:UInt8.ofNat n≠92:=rE n hn 92 (by decide) e2
   rw[List.singleton_append,qscan,if_neg (fun h=>a1 h.1),decide_eq_false a2];rfl
 · obtain⟨a1,a2⟩:=r8 (n / 16) (by omega)
   obtain⟨b1,b2⟩:=r8 (n % 16) (by omega)
   show qscan false i (92::120::hexd (n / 16)::hexd (n % 16)::m)=_
   rw[qscan,if_neg (by decide),qscan,if_neg (by decide)]
   show qscan false (i+1+1) (hexd (n / 16)::hexd (n % 16)::m)=_
   rw[qscan,if_neg (fun h=>a1 h.1),decide_eq_false a2]
   show qscan false (i+1+1+1) (hexd (n % 16)::m)=_
   rw[qscan,if_neg (fun h=>b1 h.1),decide_eq_false b2];rfl
theorem qE:∀(l:List UInt8) (i:Nat) (m:List UInt8),qscan false i (qbody l++34::m)=i+(qbody l).length+1
 | [],i,m=>by
  show qscan false i (34::m)=i+0+1
  rw[qscan,if_pos ⟨rfl,rfl⟩]
 | c::l,i,m=>by
  rw[wS,List.append_assoc,qscan_qf _ c.toNat_lt,qE l,List.length_append];omega
theorem zai (l:List UInt8):Good ⟨5,l,0⟩:=by
 have hx:tokText ⟨5,l,0⟩=qall l:=rfl
 refine⟨?_,by rw[hx];exact⟨34,_,rfl,by decide⟩⟩
 have hq:qsize (qall l)=(qall l).length:=by
  show qscan false 1 (qbody l++[34])=_
  rw[qE]
  unfold qall
  simp;omega
 have hu:=unqV_back l
 rw[hx]
 show strTok (qall l)=_
 unfold strTok
 rw[hq,List.take_length,hu,if_pos rfl]
end
section
open Go.RowKit
abbrev wT (t:List UInt8):Tok:=(⟨6,t,0⟩,0)
abbrev sT (t:List UInt8):Tok:=(⟨7,t,0⟩,0)
abbrev nT (t:List UInt8):Tok:=(⟨1,t,0⟩,0)
abbrev curlT:Tok:=sT sCurl
def Hd0 (t:Tok):Prop:=isLeaf t=true∨t=openT 0∨t=curlT
theorem leaf_not {l:List (List UInt8)} (h1:l.contains sTrue=false) (h2:l.contains sFalse=false) {t:Tok} (h:isLeaf t=true):isOne l t=false:=by
 cases ho:isOne l t with
 | false=>rfl
 | true =>
  exfalso
  unfold isOne at ho
  simp only[Bool.and_eq_true,Bool.or_eq_true,decide_eq_true_eq] at ho
  unfold isLeaf isTruth isKind isOne at h
  simp only[Bool.and_eq_true,Bool.or_eq_true,decide_eq_true_eq] at h
  rcases h with (((h | h) | h) | h) | h
  · omega
  · omega
  · omega
  · omega
  · rcases h with h | h
    · have:t.1.text=sTrue:=by simpa using h.2
      rw[this,h1] at ho;cases ho.2
    · have:t.1.text=sFalse:=by simpa using h.2
      rw[this,h2] at ho;cases ho.2
theorem yD {l:List (List UInt8)} (h1:l.contains sTrue=false) (h2:l.contains sFalse=false) (h3:l.contains sOpen=false) (h4:l.contains sCurl=false) {t:Tok} (h:Hd0 t):isOne l t=false:=by
 rcases h with h | rfl | rfl
 · exact leaf_not h1 h2 h
 · unfold isOne;rw[show(openT 0).1.text=sOpen from rfl,h3,Bool.and_false]
 · unfold isOne;rw[show curlT.1.text=sCurl from rfl,h4,Bool.and_false]
theorem zbY {t:Tok} (h:isLeaf t=true):isKind 3 t=false:=by
 unfold isLeaf isTruth isKind isOne at h
 simp only[Bool.and_eq_true,Bool.or_eq_true,decide_eq_true_eq] at h
 unfold isKind
 refine decide_eq_false ?_
 rcases h with (((h | h) | h) | h) | (h | h) <;> omega
theorem hd0_tag {t:Tok} (h:Hd0 t):isKind 3 t=false:=by
 rcases h with h | rfl | rfl
 · exact zbY h
 · rfl
 · rfl
theorem zd3 {t:Tok} (h:Hd0 t):begins t=true:=by
 unfold begins
 rcases h with h | rfl | rfl
 · rw[h];rfl
 · rfl
 · rfl
structure Op (W:List Tok) (x:Nd):Prop where
 head:∃ t T,W=t::T∧Hd0 t∧(T=[]∨∃ v V,T=v::V∧(isOne [sEq] v=false∨isKind 1 t=false))
 reads:∀ R y R',Rd (.dots x) R y R'→Rd .post (W++R) y R'
theorem zbm {u:Tok} {Z:List Tok} {x:Nd} (hu:isOne [sDot] u=false):Rd (.dots x) (u::Z) x (u::Z) :=
 ⟨1,by rw[zq];simp only[step,exec,hu,Bool.false_eq_true,if_false]⟩
theorem rd_post {t:Tok} {T R R':List Tok} {x y:Nd} (ht:isOne [sBang] t=false) (h:Rd .atom (t::T) x R) (h':Rd (.dots x) R y R'):Rd .post (t::T) y R':=by
 obtain⟨f,hf⟩:=h.up
 obtain⟨g,hg⟩:=h'.up
 exact⟨max f g+1,by rw[zq];simp only[step,exec,ht,Bool.false_eq_true,if_false,hf _ (Nat.le_max_left _ _),hg _ (Nat.le_max_right _ _)]⟩
theorem uW {t:Tok} {T:List Tok} {x:Nd} (hh:Hd0 t) (hk:T=[]∨∃ v V,T=v::V∧(isOne [sEq] v=false∨isKind 1 t=false)) (h:∀ R,Rd .atom (t::(T++R)) x R):Op (t::T) x :=
 ⟨⟨t,T,rfl,hh,hk⟩,fun R y R' hd=>rd_post (yD (by decide) (by decide) (by decide) (by decide) hh) (h R) hd⟩
theorem uc {t:Tok} (h:isLeaf t=true):Op [t] (leafE t) :=
 uW (.inl h) (.inl rfl) fun R=>⟨1,by rw[zq];simp only[step,exec,h,if_true,List.nil_append]⟩
theorem zbD:Op [openT 0,shutT 0] (node 5 (openT 0) []) :=
 uW (.inr (.inl rfl)) (.inr ⟨_,_,rfl,.inr rfl⟩) fun R=>⟨1,by
  rw[zq]
  simp only[step,need,exec,show isLeaf (openT 0)=false from rfl,show isOne [sOpen,sCurl] (openT 0)=true from rfl,if_neg (show ¬(openT 0).1.text=sCurl from show ¬sOpen=sCurl by decide),show isOne [sShut] (shutT 0)=true from rfl,if_true,Bool.false_eq_true,if_false,List.cons_append,List.nil_append]⟩
theorem yv {X:List Tok} {x:Nd} (h:∀ R,Rd .seq (X++shutT 0::R) x (shutT 0::R)):Op (openT 0::(X++[shutT 0])) x:=by
 have hk:X++[shutT 0]=[]∨∃ v V,X++[shutT 0]=v::V∧(isOne [sEq] v=false∨isKind 1 (openT 0)=false):=by
  cases X with
  | nil=>exact .inr ⟨_,_,rfl,.inr rfl⟩
  | cons v V=>exact .inr ⟨_,_,rfl,.inr rfl⟩
 refine uW (.inr (.inl rfl)) hk fun R=>?_
 obtain⟨f,hf⟩:=h R
 refine⟨f+1,?_⟩
 rw[List.append_assoc]
 exact run_atom 0 0 hf
theorem op_dot {W:List Tok} {x:Nd} (h:Op W x) (n:List UInt8):Op (W++[sT sDot,nT n]) (named 14 (sT sDot) n [x]):=by
 obtain⟨⟨t,T,rfl,hh,hk⟩,hr⟩:=h
 refine⟨⟨t,T++[sT sDot,nT n],rfl,hh,.inr ?_⟩,fun R y R' hd=>?_⟩
 · rcases hk with rfl | ⟨v,V,rfl,hv⟩
   · exact⟨_,_,rfl,.inl rfl⟩
   · exact⟨v,_,rfl,hv⟩
 · have h1:Rd (.dots x) (sT sDot::nT n::R) y R':=by
    obtain⟨f,hf⟩:=hd
    exact⟨f+1,by rw[zq];simp only[step,name,exec,show isOne [sDot] (sT sDot)=true from rfl,show isKind 1 (nT n)=true from rfl,if_true,hf]⟩
   have:=hr _ _ _ h1
   rwa [List.append_assoc]
theorem Op.post {W:List Tok} {x:Nd} (h:Op W x) {u:Tok} {Z:List Tok} (hu:isOne [sDot] u=false):Rd .post (W++u::Z) x (u::Z):=h.reads _ _ _ (zbm hu)
theorem vw {t:Tok} {T R:List Tok} {x:Nd} (ht:isOne [sMinus,sNot] t=false) (h:Rd .app (t::T) x R):Rd .unary (t::T) x R:=by
 obtain⟨f,hf⟩:=h
 exact⟨f+1,by rw[zq];simp only[step,exec,ht,Bool.false_eq_true,if_false,hf]⟩
theorem wV {u:Tok} {Z:List Tok} {x:Nd} (hu:begins u=false):Rd (.apps x) (u::Z) x (u::Z) :=
 ⟨1,by rw[zq];simp only[step,exec,hu,Bool.false_eq_true,if_false]⟩
theorem zd1 {t:Tok} {T R R':List Tok} {x y:Nd} (h3:isKind 3 t=false) (a1:isOne word1 t=false) (a2:isOne word2 t=false) (a3:isOne word3 t=false) (h:Rd .post (t::T) x R) (h':Rd (.apps x) R y R'):Rd .app (t::T) y R':=by
 obtain⟨f,hf⟩:=h.up
 obtain⟨g,hg⟩:=h'.up
 exact⟨max f g+1,by rw[zq];simp only[step,exec,h3,a1,a2,a3,Bool.false_eq_true,if_false,hf _ (Nat.le_max_left _ _),hg _ (Nat.le_max_right _ _)]⟩
theorem Op.opd {W:List Tok} {x:Nd} (h:Op W x):Opd W x:=by
 have hp:=fun u Z hu=>h.post (u:=u) (Z:=Z) hu
 obtain⟨⟨t,T,rfl,hh,_⟩,_⟩:=h
 refine⟨fun Z=>⟨t,T++Z,rfl,yD (by decide) (by decide) (by decide) (by decide) hh,yD (by decide) (by decide) (by decide) (by decide) hh⟩,fun u Z hu=>?_⟩
 exact vw (yD (by decide) (by decide) (by decide) (by decide) hh) (zd1 (hd0_tag hh) (yD (by decide) (by decide) (by decide) (by decide) hh) (yD (by decide) (by decide) (by decide) (by decide) hh) (yD (by decide) (by decide) (by decide) (by decide) hh) (hp u Z hu.dot) (wV hu.begin_))
structure Halts (u:Tok):Prop where
 stops:Stops u
 sg:NoSg u
theorem vS {u:Tok} (h:(isOne [sDot] u||(begins u||(isOne [sSemi] u||(isOne [sAssign] u||(isOne [sOr] u||(isOne [sAnd] u||(isOne [sEq,sLess] u||(isOne [sPlus,sMinus] u||isOne [sTimes,sOver,sRem] u))))))))=false):Halts u:=by
 simp only[Bool.or_eq_false_iff] at h
 obtain⟨h1,h2,h3,h4,h5,h6,h7,h8,h9⟩:=h
 refine⟨⟨h1,h2⟩,fun j hj=>?_⟩
 match j,hj with
 | 0,_=>exact h3
 | 1,_=>exact h4
 | 2,_=>exact h5
 | 3,_=>exact h6
 | 4,_=>exact h7
 | 5,_=>exact h8
 | 6,_=>exact h9
theorem Opd.seq {W:List Tok} {x:Nd} (h:Opd W x) {u:Tok} (hu:Halts u) (Z:List Tok):Rd .seq (W++u::Z) x (u::Z) :=
 h.at_ (n:=0) hu.stops (by omega) fun j _ hj=>hu.sg j (by omega)
theorem Opd.item {W:List Tok} {x:Nd} (h:Opd W x) {u:Tok} (hu:Halts u) (Z:List Tok):Rd .item (W++u::Z) x (u::Z) :=
 sI (h.st _) (h.at_ (n:=1) hu.stops (by omega) fun j _ hj=>hu.sg j (by omega))
theorem vF {T Z:List Tok} {u:Tok} {x:Nd} (h:Rd .item T x (u::Z)) (hu:isOne [sSemi] u=false):Rd .seq T x (u::Z):=by
 obtain⟨f,hf⟩:=h
 exact⟨f+1,by rw[zq];simp only[step,exec,hf,hu,Bool.false_eq_true,if_false]⟩
theorem halts_shut:Halts (shutT 0):=vS rfl
theorem vq {t:List UInt8} (h:([sIn,sThen,sElse,sWith,sEnd]:List (List UInt8)).contains t=true):Halts (wT t):=by
 simp only[List.contains_cons,List.contains_nil,Bool.or_eq_true,beq_iff_eq,Bool.or_false] at h
 rcases h with rfl | rfl | rfl | rfl | rfl <;> exact vS rfl
theorem sQ {t:List UInt8} (h:([sUncurl,sComma,sBar]:List (List UInt8)).contains t=true):Halts (sT t):=by
 simp only[List.contains_cons,List.contains_nil,Bool.or_eq_true,beq_iff_eq,Bool.or_false] at h
 rcases h with rfl | rfl | rfl <;> exact vS rfl
theorem op_two {A B:List Tok} {a b:Nd} (hA:Op A a) (hB:Op B b) {i:Nat} (hi:i<11):Op (openT 0::((A++bT i::B)++[shutT 0])) (nd (blev i) (bT i) a b) :=
 yv fun R=>by
  have:=two_from (R:=R) hA.opd hB.opd (sgAt hi) halts_shut.stops (Nat.zero_le _) fun j _ h=>halts_shut.sg j h
  rw[List.append_assoc]
  exact this
theorem op_app {A B:List Tok} {a b:Nd} (hA:Op A a) (hB:Op B b) (ha:a.hd.pos=0):Op (openT 0::((A++B)++[shutT 0])) (.mk ⟨8,0,[],0,[],[]⟩ [a,b] []):=by
 have hst:=hA.opd.st
 obtain⟨tb,TB,hTB,hhb,_⟩:=hB.head
 have hdb:isOne [sDot] tb=false:=yD (by decide) (by decide) (by decide) (by decide) hhb
 have hp:=fun Z=>hA.post (u:=tb) (Z:=Z) hdb
 obtain⟨⟨t,T,rfl,hh,_⟩,_⟩:=hA
 have hO:Opd ((t::T)++B) (.mk ⟨8,0,[],0,[],[]⟩ [a,b] []):=by
  refine⟨fun Z=>by rw[List.append_assoc];exact hst _,fun u Z hu=>?_⟩
  rw[List.append_assoc]
  refine vw (yD (by decide) (by decide) (by decide) (by decide) hh) (zd1 (hd0_tag hh) (yD (by decide) (by decide) (by decide) (by decide) hh) (yD (by decide) (by decide) (by decide) (by decide) hh) (yD (by decide) (by decide) (by decide) (by decide) hh) (x:=a) (R:=B++u::Z) ?_ ?_)
  · subst hTB
    exact hp _
  · obtain⟨f,hf⟩:=(hB.post (u:=u) (Z:=Z) hu.dot).up
    obtain⟨g,hg⟩:=(wV (x:=.mk ⟨8,0,[],0,[],[]⟩ [a,b] []) (Z:=Z) hu.begin_).up
    refine⟨max f g+1,?_⟩
    have hf:=hf _ (Nat.le_max_left f g)
    have hg:=hg _ (Nat.le_max_right f g)
    rw[zq]
    subst hTB
    simp only[step,List.cons_append,exec,zd3 hhb,if_true] at hf ⊢
    simp only[hf,ha,hg]
 exact yv fun R=>hO.seq halts_shut R
theorem opd_un {t:Tok} {W:List Tok} {x:Nd} (ht:isOne [sMinus,sNot] t=true) (h1:isOne [sFun] t=false) (h2:isOne [sLet,sMatch,sTry,sIf,sRaise] t=false) (h:Opd W x):Opd (t::W) (nodeN 19 t [] (if t.1.text=sMinus then 6 else opOf t.1.text) [x]) :=
 ⟨fun Z=>⟨_,_,rfl,h1,h2⟩,fun u Z hu=>by
  obtain⟨f,hf⟩:=h.reads u Z hu
  exact⟨f+1,by rw[List.cons_append,zq];simp only[step,exec,ht,if_true,hf]⟩⟩
theorem op_un {t:Tok} {W:List Tok} {x:Nd} (ht:isOne [sMinus,sNot] t=true) (h1:isOne [sFun] t=false) (h2:isOne [sLet,sMatch,sTry,sIf,sRaise] t=false) (h:Op W x):Op (openT 0::((t::W)++[shutT 0])) (nodeN 19 t [] (if t.1.text=sMinus then 6 else opOf t.1.text) [x]) :=
 yv fun R=>(opd_un ht h1 h2 h.opd).seq halts_shut R
theorem op_bang {W:List Tok} {x:Nd} (h:Op W x):Op (openT 0::((sT sBang::W)++[shutT 0])) (node 19 (sT sBang) [x]):=by
 have hO:Opd (sT sBang::W) (node 19 (sT sBang) [x]):=by
  refine⟨fun Z=>⟨_,_,rfl,rfl,rfl⟩,fun u Z hu=>?_⟩
  refine vw rfl (zd1 rfl rfl rfl rfl (x:=node 19 (sT sBang) [x]) (R:=u::Z) ?_ (wV hu.begin_))
  obtain⟨f,hf⟩:=h.post (u:=u) (Z:=Z) hu.dot
  exact⟨f+1,by rw[zq];simp only[step,exec,show isOne [sBang] (sT sBang)=true from rfl,if_true,List.append_eq,hf]⟩
 exact yv fun R=>hO.seq halts_shut R
theorem op_tag {W:List Tok} {x:Nd} (h:Op W x) (n:List UInt8):Op (openT 0::(((⟨3,n,0⟩,0)::W)++[shutT 0])) (named 15 (⟨3,n,0⟩,0) n [x]):=by
 have hO:Opd ((⟨3,n,0⟩,0)::W) (named 15 (⟨3,n,0⟩,0) n [x]):=by
  refine⟨fun Z=>⟨_,_,rfl,rfl,rfl⟩,fun u Z hu=>?_⟩
  refine vw rfl ?_
  obtain⟨f,hf⟩:=h.post (u:=u) (Z:=Z) hu.dot
  exact⟨f+1,by rw[zq];simp only[step,exec,show isKind 3 ((⟨3,n,0⟩,0):Tok)=true from rfl,if_true,List.append_eq,hf]⟩
 exact yv fun R=>hO.seq halts_shut R
theorem zbO:∀(L:List (List Tok×Nd)),(∀ q∈L,Op q.1 q.2)→∀(l:List Nd) {u:Tok} {Z:List Tok},isOne [sDot] u=false→Rd (.posts L.length l) ((L.map (·.1)).flatten++u::Z) (bag [] (l++L.map (·.2)) []) (u::Z)
 | [],_,l,u,Z,hu=>⟨1,by
  rw[zq]
  simp only[step,List.length_nil,if_true,exec,List.map_nil,List.flatten_nil,List.nil_append,List.append_nil]⟩
 | (W,x)::L,h,l,u,Z,hu=>by
  have h1:=h (W,x) (by simp)
  have h2:=zbO L (fun q hq=>h q (by simp [hq])) (l++[x]) (Z:=Z) hu
  obtain⟨v,V,hv,hvd⟩:∃ v V,(L.map (·.1)).flatten++u::Z=v::V∧isOne [sDot] v=false:=by
   cases L with
   | nil=>exact⟨u,Z,rfl,hu⟩
   | cons q L =>
    obtain⟨t,T,hT,hh,_⟩:=(h q (by simp)).head
    refine⟨t,T++((L.map (·.1)).flatten++u::Z),?_,yD (by decide) (by decide) (by decide) (by decide) hh⟩
    rw[List.map_cons,List.flatten_cons,hT,List.append_assoc];rfl
  obtain⟨g,hg⟩:=h2.up
  obtain⟨f,hf⟩:=(h1.post (u:=v) (Z:=V) hvd).up
  refine⟨max f g+1,?_⟩
  have hf:=hf _ (Nat.le_max_left f g)
  have hg:=hg _ (Nat.le_max_right f g)
  rw[zq,List.map_cons,List.flatten_cons,List.append_assoc,hv]
  rw[hv] at hg
  simp only[step,List.length_cons,if_neg (show ¬L.length+1=0 by omega),exec,hf,show L.length+1-1=L.length from rfl,hg,List.map_cons]
  rw[List.append_assoc];rfl
theorem zbq {t:Tok} {L:List (List Tok×Nd)} (h:∀ q∈L,Op q.1 q.2) (hw:isOne word1 t=true∧L.length=1∨isOne word1 t=false∧isOne word2 t=true∧L.length=2∨isOne word1 t=false∧isOne word2 t=false∧isOne word3 t=true∧L.length=3) (h0:isKind 3 t=false) (h1:isOne [sFun] t=false) (h2:isOne [sLet,sMatch,sTry,sIf,sRaise] t=false) (h3:isOne [sMinus,sNot] t=false):Op (openT 0::((t::(L.map (·.1)).flatten)++[shutT 0])) (node 19 t (L.map (·.2))):=by
 have hO:Opd (t::(L.map (·.1)).flatten) (node 19 t (L.map (·.2))):=by
  refine⟨fun Z=>⟨_,_,rfl,h1,h2⟩,fun u Z hu=>?_⟩
  refine vw h3 ?_
  obtain⟨f,hf⟩:=zbO L h [] (u:=u) (Z:=Z) hu.dot
  rw[List.nil_append] at hf
  refine⟨f+1,?_⟩
  rw[zq]
  rcases hw with⟨a1,a2⟩ | ⟨a1,a2,a3⟩ | ⟨a1,a2,a3,a4⟩
  · rw[a2] at hf
    simp only[step,exec,h0,a1,if_true,Bool.false_eq_true,if_false,List.append_eq,hf];rfl
  · rw[a3] at hf
    simp only[step,exec,h0,a1,a2,if_true,Bool.false_eq_true,if_false,List.append_eq,hf];rfl
  · rw[a4] at hf
    simp only[step,exec,h0,a1,a2,a3,if_true,Bool.false_eq_true,if_false,List.append_eq,hf];rfl
 exact yv fun R=>hO.seq halts_shut R
structure FnW (W:List Tok) (x:Nd):Prop where
 head:∃ T,W=wT sFun::T
 reads:∀ u Z,Halts u→Rd .fn (W++u::Z) x (u::Z)
theorem fnW {A:List Tok} {a:Nd} (n:List UInt8) (hA:Op A a):FnW (wT sFun::nT n::sT sArrow::A) (named 7 (wT sFun) n [a]) :=
 ⟨⟨_,rfl⟩,fun u Z hu=>by
  obtain⟨f,hf⟩:=hA.opd.seq hu Z
  exact⟨f+1,by
   rw[List.cons_append,List.cons_append,List.cons_append,zq]
   simp only[step,need,name,exec,show isOne [sFun] (wT sFun)=true from rfl,show isKind 1 (nT n)=true from rfl,show isOne [sArrow] (sT sArrow)=true from rfl,if_true,hf]⟩⟩
theorem op_fn {W:List Tok} {x:Nd} (h:FnW W x):Op (openT 0::(W++[shutT 0])) x :=
 yv fun R=>by
  obtain⟨f,hf⟩:=h.reads (shutT 0) R halts_shut
  obtain⟨T,rfl⟩:=h.head
  refine vF ⟨f+1,?_⟩ rfl
  rw[List.cons_append] at hf ⊢
  rw[zq]
  simp only[step,exec,show isOne [sFun] (wT sFun)=true from rfl,if_true,hf]
theorem op_let {A B:List Tok} {a b:Nd} (n:List UInt8) (hA:Op A a) (hB:Op B b):Op (openT 0::((wT sLet::nT n::sT sEq::(A++wT sIn::B))++[shutT 0])) (named 9 (wT sLet) n [a,b]) :=
 yv fun R=>by
  obtain⟨f,hf⟩:=(hA.opd.seq (u:=wT sIn) (vq (by decide)) (B++shutT 0::R)).up
  obtain⟨g,hg⟩:=(hB.opd.seq halts_shut R).up
  have hf:=hf _ (Nat.le_max_left f g)
  have hg:=hg _ (Nat.le_max_right f g)
  have hb:run (max f g+1) (.letb (wT sLet)) (nT n::sT sEq::(A++wT sIn::(B++shutT 0::R)))=.ok (named 9 (wT sLet) n [a,b]) (shutT 0::R):=by
   rw[zq]
   simp only[step,bound,need,name,exec,show isOne [sRec] (nT n)=false from rfl,show isKind 1 (nT n)=true from rfl,show isOne [sEq] (sT sEq)=true from rfl,show isOne [sIn] (wT sIn)=true from rfl,if_true,Bool.false_eq_true,if_false,hf,hg]
  refine vF ⟨max f g+2,?_⟩ rfl
  simp only[List.cons_append,List.append_assoc]
  rw[zq]
  simp only[step,exec,show isOne [sFun] (wT sLet)=false from rfl,show isOne [sLet,sMatch,sTry,sIf,sRaise] (wT sLet)=true from rfl,if_true,Bool.false_eq_true,if_false,hb]
theorem op_rec {A B:List Tok} {a b:Nd} (n:List UInt8) (hA:FnW A a) (hB:Op B b):Op (openT 0::((wT sLet::wT sRec::nT n::sT sEq::(A++wT sIn::B))++[shutT 0])) (named 10 (wT sLet) n [a,b]) :=
 yv fun R=>by
  obtain⟨f,hf⟩:=(hA.reads (wT sIn) (B++shutT 0::R) (vq (by decide))).up
  obtain⟨g,hg⟩:=(hB.opd.seq halts_shut R).up
  have hf:=hf _ (Nat.le_max_left f g)
  have hg:=hg _ (Nat.le_max_right f g)
  have hb:run (max f g+1) (.letb (wT sLet)) (wT sRec::nT n::sT sEq::(A++wT sIn::(B++shutT 0::R)))=.ok (named 10 (wT sLet) n [a,b]) (shutT 0::R):=by
   rw[zq]
   simp only[step,bound,need,name,exec,show isOne [sRec] (wT sRec)=true from rfl,show isKind 1 (nT n)=true from rfl,show isOne [sEq] (sT sEq)=true from rfl,show isOne [sIn] (wT sIn)=true from rfl,if_true,Bool.false_eq_true,if_false,hf,hg]
  refine vF ⟨max f g+2,?_⟩ rfl
  simp only[List.cons_append,List.append_assoc]
  rw[zq]
  simp only[step,exec,show isOne [sFun] (wT sLet)=false from rfl,show isOne [sLet,sMatch,sTry,sIf,sRaise] (wT sLet)=true from rfl,if_true,Bool.false_eq_true,if_false,hb]
theorem op_if {A B C:List Tok} {a b c:Nd} (hA:Op A a) (hB:Op B b) (hC:Op C c):Op (openT 0::((wT sIf::(A++wT sThen::(B++wT sElse::C)))++[shutT 0])) (node 11 (wT sIf) [a,b,c]) :=
 yv fun R=>by
  obtain⟨f,hf⟩:=(hA.opd.seq (u:=wT sThen) (vq (by decide)) (B++wT sElse::(C++shutT 0::R))).up
  obtain⟨g,hg⟩:=(hB.opd.item (u:=wT sElse) (vq (by decide)) (C++shutT 0::R)).up
  obtain⟨k,hk⟩:=(hC.opd.item halts_shut R).up
  have hf:=hf (max f (max g k)) (Nat.le_max_left _ _)
  have hg:=hg (max f (max g k)) (Nat.le_trans (Nat.le_max_left _ _) (Nat.le_max_right _ _))
  have hk:=hk (max f (max g k)) (Nat.le_trans (Nat.le_max_right _ _) (Nat.le_max_right _ _))
  have hb:run (max f (max g k)+1) (.choice (wT sIf)) (A++wT sThen::(B++wT sElse::(C++shutT 0::R)))=.ok (node 11 (wT sIf) [a,b,c]) (shutT 0::R):=by
   rw[zq]
   simp only[step,need,exec,show isOne [sThen] (wT sThen)=true from rfl,show isOne [sElse] (wT sElse)=true from rfl,if_true,hf,hg,hk]
  refine vF ⟨max f (max g k)+2,?_⟩ rfl
  simp only[List.cons_append,List.append_assoc]
  rw[zq]
  simp only[step,exec,show isOne [sFun] (wT sIf)=false from rfl,show isOne [sLet,sMatch,sTry,sIf,sRaise] (wT sIf)=true from rfl,if_true,Bool.false_eq_true,if_false,if_neg (show ¬(wT sIf).1.text=sLet from show ¬sIf=sLet by decide),if_neg (show ¬(wT sIf).1.text=sMatch from show ¬sIf=sMatch by decide),if_neg (show ¬(wT sIf).1.text=sTry from show ¬sIf=sTry by decide),show((wT sIf).1.text=sIf)=True from eq_true rfl,hb]
theorem op_raise {A:List Tok} {a:Nd} (hA:Op A a):Op (openT 0::((wT sRaise::A)++[shutT 0])) (node 18 (wT sRaise) [a]) :=
 yv fun R=>by
  obtain⟨f,hf⟩:=hA.post (u:=shutT 0) (Z:=R) rfl
  refine vF ⟨f+1,?_⟩ rfl
  simp only[List.cons_append,List.append_assoc]
  rw[zq]
  simp only[step,exec,show isOne [sFun] (wT sRaise)=false from rfl,show isOne [sLet,sMatch,sTry,sIf,sRaise] (wT sRaise)=true from rfl,if_true,Bool.false_eq_true,if_false,if_neg (show ¬(wT sRaise).1.text=sLet from show ¬sRaise=sLet by decide),if_neg (show ¬(wT sRaise).1.text=sMatch from show ¬sRaise=sMatch by decide),if_neg (show ¬(wT sRaise).1.text=sTry from show ¬sRaise=sTry by decide),if_neg (show ¬(wT sRaise).1.text=sIf from show ¬sRaise=sIf by decide),List.append_eq,hf]
theorem op_with {A B:List Tok} {a b:Nd} (n:List UInt8) (hA:Op A a) (hB:Op B b):Op (curlT::(A++wT sWith::nT n::sT sEq::(B++[sT sUncurl]))) (named 13 curlT n [a,b]):=by
 have hk:A++wT sWith::nT n::sT sEq::(B++[sT sUncurl])=[]∨∃ v V,A++wT sWith::nT n::sT sEq::(B++[sT sUncurl])=v::V∧(isOne [sEq] v=false∨isKind 1 curlT=false):=by
  obtain⟨⟨t,T,rfl,_⟩,_⟩:=hA
  exact .inr ⟨_,_,rfl,.inr rfl⟩
 refine uW (.inr (.inr rfl)) hk fun R=>?_
 obtain⟨f,hf⟩:=(hA.opd.seq (u:=wT sWith) (vq (by decide)) (nT n::sT sEq::(B++sT sUncurl::R))).up
 obtain⟨g,hg⟩:=(hB.opd.seq (u:=sT sUncurl) (sQ (by decide)) R).up
 have hf:=hf _ (Nat.le_max_left f g)
 have hg:=hg _ (Nat.le_max_right f g)
 have hb:run (max f g+1) (.braces curlT) (A++wT sWith::nT n::sT sEq::(B++sT sUncurl::R))=.ok (named 13 curlT n [a,b]) R:=by
  obtain⟨⟨t,T,rfl,hh,hk⟩,_⟩:=hA
  have h2:(isKind 1 t&&second (isOne [sEq]) (T++wT sWith::nT n::sT sEq::(B++sT sUncurl::R)))=false:=by
   rcases hk with rfl | ⟨v,V,rfl,hv | hv⟩
   · rw[show second (isOne [sEq]) ([]++wT sWith::nT n::sT sEq::(B++sT sUncurl::R))=false from rfl,Bool.and_false]
   · rw[show second (isOne [sEq]) ((v::V)++wT sWith::nT n::sT sEq::(B++sT sUncurl::R))=isOne [sEq] v from rfl,hv,Bool.and_false]
   · rw[hv,Bool.false_and]
  have h3:isOne [sUncurl] t=false:=yD (by decide) (by decide) (by decide) (by decide) hh
  rw[List.cons_append] at hf ⊢
  rw[zq]
  simp only[step,withB,need,name,exec,h2,h3,Bool.false_eq_true,if_false,hf,show isOne [sWith] (wT sWith)=true from rfl,show isKind 1 (nT n)=true from rfl,show isOne [sEq] (sT sEq)=true from rfl,show isOne [sUncurl] (sT sUncurl)=true from rfl,if_true,hg]
 refine⟨max f g+2,?_⟩
 simp only[List.cons_append,List.append_assoc,List.nil_append]
 rw[zq]
 simp only[step,need,exec,show isLeaf curlT=false from rfl,show isOne [sOpen,sCurl] curlT=true from rfl,show(curlT.1.text=sCurl)=True from eq_true rfl,if_true,Bool.false_eq_true,if_false,hb]
structure Fl where
 label:List UInt8
 toks:List Tok
 it:Nd
def fldT:Bool→List Fl→List Tok
 | _,[]=>[]
 | more,f::l=>(if more then [sT sComma] else [])++(nT f.label::sT sEq::(f.toks++fldT true l))
def fieldMd (b:Bool):Md:=if b=true then .seq else .pat
theorem zcc (b:Bool):∀(f:Fl) (L:List Fl),(∀ g∈f::L,∀ u Z,Halts u→Rd (fieldMd b) (g.toks++u::Z) g.it (u::Z))→∀(ls:List (List UInt8)) (l:List Nd) (R:List Tok),Rd (.field b ls l) (fldT false (f::L)++sT sUncurl::R) (bag (ls++(f::L).map (·.label)) (l++(f::L).map (·.it)) []) R
 | f,[],h,ls,l,R=>by
  obtain⟨k,hk⟩:=h f (by simp) (sT sUncurl) R (sQ (by decide))
  refine⟨k+1,?_⟩
  unfold fieldMd at hk
  rw[zq]
  simp only[step,need,name,fldT,Bool.false_eq_true,if_false,List.nil_append,List.cons_append,List.append_nil,exec,show isKind 1 (nT f.label)=true from rfl,show isOne [sEq] (sT sEq)=true from rfl,if_true,hk,show isOne [sComma,sUncurl] (sT sUncurl)=true from rfl,show((sT sUncurl).1.text=sUncurl)=True from eq_true rfl,List.map_cons,List.map_nil]
 | f,g::L,h,ls,l,R=>by
  obtain⟨k,hk⟩:=(h f (by simp) (sT sComma) (fldT false (g::L)++sT sUncurl::R) (sQ (by decide))).up
  obtain⟨j,hj⟩:=(zcc b g L (fun q hq=>h q (by simp [hq])) (ls++[f.label]) (l++[f.it]) R).up
  have hk:=hk _ (Nat.le_max_left k j)
  have hj:=hj _ (Nat.le_max_right k j)
  refine⟨max k j+1,?_⟩
  unfold fieldMd at hk
  have e:fldT false (f::g::L)++sT sUncurl::R=nT f.label::sT sEq::(f.toks++sT sComma::(fldT false (g::L)++sT sUncurl::R)):=by
   simp [fldT]
  rw[e,zq]
  simp only[step,need,name,exec,show isKind 1 (nT f.label)=true from rfl,show isOne [sEq] (sT sEq)=true from rfl,if_true,hk,show isOne [sComma,sUncurl] (sT sComma)=true from rfl,if_neg (show ¬(sT sComma).1.text=sUncurl from show ¬sComma=sUncurl by decide),hj]
  simp
theorem zat (b:Bool) (L:List Fl) (h:∀ g∈L,∀ u Z,Halts u→Rd (fieldMd b) (g.toks++u::Z) g.it (u::Z)) (R:List Tok):Rd (.fields b) (fldT false L++sT sUncurl::R) (bag (L.map (·.label)) (L.map (·.it)) []) R:=by
 cases L with
 | nil=>exact⟨1,by rw[zq];simp only[step,exec,fldT,List.nil_append,show isOne [sUncurl] (sT sUncurl)=true from rfl,if_true,List.map_nil]⟩
 | cons f L =>
  obtain⟨k,hk⟩:=zcc b f L h [] [] R
  refine⟨k+1,?_⟩
  rw[List.nil_append,List.nil_append] at hk
  have e:fldT false (f::L)++sT sUncurl::R=nT f.label::(sT sEq::(f.toks++fldT true L)++sT sUncurl::R):=by simp [fldT]
  rw[e] at hk ⊢
  rw[zq]
  simp only[step,exec,show isOne [sUncurl] (nT f.label)=false from rfl,Bool.false_eq_true,if_false,hk]
theorem op_record (L:List Fl) (h:∀ g∈L,Op g.toks g.it):Op (curlT::(fldT false L++[sT sUncurl])) (.mk ⟨12,0,[],0,[],L.map (·.label)⟩ (L.map (·.it)) []):=by
 have hk:fldT false L++[sT sUncurl]=[]∨∃ v V,fldT false L++[sT sUncurl]=v::V∧(isOne [sEq] v=false∨isKind 1 curlT=false):=by
  cases L with
  | nil=>exact .inr ⟨_,_,rfl,.inr rfl⟩
  | cons f L=>exact .inr ⟨_,_,rfl,.inr rfl⟩
 refine uW (.inr (.inr rfl)) hk fun R=>?_
 obtain⟨f,hf⟩:=zat true L (fun g hg u Z hu=>(h g hg).opd.seq hu Z) R
 have hb:run (f+1) (.braces curlT) (fldT false L++sT sUncurl::R)=.ok (.mk ⟨12,0,[],0,[],L.map (·.label)⟩ (L.map (·.it)) []) R:=by
  rw[zq]
  cases L with
  | nil =>
   simp only[fldT,List.nil_append] at hf ⊢
   simp only[step,recordB,exec,show isOne [sUncurl] (sT sUncurl)=true from rfl,if_true,hf];rfl
  | cons q L =>
   have e:fldT false (q::L)++sT sUncurl::R=nT q.label::sT sEq::((q.toks++fldT true L)++sT sUncurl::R):=by simp [fldT]
   rw[e] at hf ⊢
   simp only[step,recordB,exec,show isOne [sUncurl] (nT q.label)=false from rfl,show isKind 1 (nT q.label)=true from rfl,second,show isOne [sEq] (sT sEq)=true from rfl,Bool.and_self,if_true,Bool.false_eq_true,if_false,hf];rfl
 refine⟨f+2,?_⟩
 simp only[List.cons_append,List.append_assoc,List.nil_append]
 rw[zq]
 simp only[step,need,exec,show isLeaf curlT=false from rfl,show isOne [sOpen,sCurl] curlT=true from rfl,show(curlT.1.text=sCurl)=True from eq_true rfl,if_true,Bool.false_eq_true,if_false,hb]
structure PatW (W:List Tok) (p:Nd):Prop where
 head:∃ t T,W=t::T∧isKind 3 t=false
 reads:∀ R,Rd .patom (W++R) p R
theorem PatW.pat {W:List Tok} {p:Nd} (h:PatW W p) (R:List Tok):Rd .pat (W++R) p R:=by
 obtain⟨f,hf⟩:=h.reads R
 obtain⟨t,T,rfl,ht⟩:=h.head
 exact⟨f+1,by rw[List.cons_append] at hf ⊢;rw[zq];simp only[step,exec,ht,Bool.false_eq_true,if_false,hf]⟩
theorem wi {t:Tok} (h:isLeaf t=true):PatW [t] (leafP t) :=
 ⟨⟨t,[],rfl,zbY h⟩,fun R=>⟨1,by rw[List.singleton_append,zq];simp only[step,exec,h,if_true]⟩⟩
theorem pat_minus (n:Int):PatW [sT sMinus,(⟨4,[],n⟩,0)] (nodeN 3 (sT sMinus) [] (-n) []) :=
 ⟨⟨_,_,rfl,rfl⟩,fun R=>⟨1,by
  rw[List.cons_append,List.singleton_append,zq]
  simp only[step,need,exec,show isLeaf (sT sMinus)=false from rfl,show isOne [sMinus,sOpen,sCurl] (sT sMinus)=true from rfl,show((sT sMinus).1.text=sMinus)=True from eq_true rfl,show isKind 4 ((⟨4,[],n⟩,0):Tok)=true from rfl,if_true,Bool.false_eq_true,if_false]⟩⟩
theorem pat_unit:PatW [openT 0,shutT 0] (nodeN 6 (openT 0) [] 0 []) :=
 ⟨⟨_,_,rfl,rfl⟩,fun R=>⟨1,by
  rw[List.cons_append,List.singleton_append,zq]
  simp only[step,need,exec,show isLeaf (openT 0)=false from rfl,show isOne [sMinus,sOpen,sCurl] (openT 0)=true from rfl,if_neg (show ¬(openT 0).1.text=sMinus from show ¬sOpen=sMinus by decide),if_neg (show ¬(openT 0).1.text=sCurl from show ¬sOpen=sCurl by decide),show isOne [sShut] (shutT 0)=true from rfl,if_true,Bool.false_eq_true,if_false]⟩⟩
theorem patw_tag {W:List Tok} {p:Nd} (h:PatW W p) (n:List UInt8):PatW (openT 0::(⟨3,n,0⟩,0)::(W++[shutT 0])) (nodeN 8 (⟨3,n,0⟩,0) n 0 [p]) :=
 ⟨⟨_,_,rfl,rfl⟩,fun R=>by
  obtain⟨f,hf⟩:=h.reads (shutT 0::R)
  have hb:run (f+1) .pat ((⟨3,n,0⟩,0)::(W++shutT 0::R))=.ok (nodeN 8 (⟨3,n,0⟩,0) n 0 [p]) (shutT 0::R):=by
   rw[zq]
   simp only[step,exec,show isKind 3 ((⟨3,n,0⟩,0):Tok)=true from rfl,if_true,hf]
  refine⟨f+2,?_⟩
  simp only[List.cons_append,List.append_assoc,List.nil_append]
  rw[zq]
  simp only[step,need,exec,show isLeaf (openT 0)=false from rfl,show isOne [sMinus,sOpen,sCurl] (openT 0)=true from rfl,if_neg (show ¬(openT 0).1.text=sMinus from show ¬sOpen=sMinus by decide),if_neg (show ¬(openT 0).1.text=sCurl from show ¬sOpen=sCurl by decide),show isOne [sShut] ((⟨3,n,0⟩,0):Tok)=false from rfl,show isOne [sShut] (shutT 0)=true from rfl,if_true,Bool.false_eq_true,if_false,hb]⟩
theorem zdl (L:List Fl) (h:∀ g∈L,PatW g.toks g.it):PatW (curlT::(fldT false L++[sT sUncurl])) (.mk ⟨9,0,[],0,[],L.map (·.label)⟩ (L.map (·.it)) []) :=
 ⟨⟨_,_,rfl,rfl⟩,fun R=>by
  obtain⟨f,hf⟩:=zat false L (fun g hg u Z hu=>(h g hg).pat _) R
  refine⟨f+1,?_⟩
  simp only[List.cons_append,List.append_assoc,List.nil_append]
  rw[zq]
  simp only[step,need,exec,show isLeaf curlT=false from rfl,show isOne [sMinus,sOpen,sCurl] curlT=true from rfl,if_neg (show ¬curlT.1.text=sMinus from show ¬sCurl=sMinus by decide),show(curlT.1.text=sCurl)=True from eq_true rfl,if_true,Bool.false_eq_true,if_false,hf];rfl⟩
structure Am where
 ptoks:List Tok
 p:Nd
 btoks:List Tok
 b:Nd
def armT:Bool→List Am→List Tok
 | _,[]=>[]
 | more,a::l=>(if more then [sT sBar] else [])++(a.ptoks++(sT sArrow::(a.btoks++armT true l)))
theorem rd_arms:∀(a:Am) (L:List Am),(∀ q∈a::L,PatW q.ptoks q.p∧Op q.btoks q.b)→∀(l:List (Nd×Nd)) (R:List Tok),Rd (.arms l) (armT false (a::L)++wT sEnd::R) (bag [] [] (l++(a::L).map fun q=>(q.p,q.b))) R
 | a,[],h,l,R=>by
  obtain⟨h1,h2⟩:=h a (by simp)
  obtain⟨f,hf⟩:=(h1.pat (sT sArrow::(a.btoks++wT sEnd::R))).up
  obtain⟨g,hg⟩:=(h2.opd.seq (u:=wT sEnd) (vq (by decide)) R).up
  have hf:=hf _ (Nat.le_max_left f g)
  have hg:=hg _ (Nat.le_max_right f g)
  refine⟨max f g+1,?_⟩
  have e:armT false [a]++wT sEnd::R=a.ptoks++sT sArrow::(a.btoks++wT sEnd::R):=by simp [armT]
  rw[e,zq]
  simp only[step,need,exec,hf,show isOne [sArrow] (sT sArrow)=true from rfl,if_true,hg,show isOne [sBar,sEnd] (wT sEnd)=true from rfl,show((wT sEnd).1.text=sEnd)=True from eq_true rfl,List.map_cons,List.map_nil]
 | a,c::L,h,l,R=>by
  obtain⟨h1,h2⟩:=h a (by simp)
  obtain⟨f,hf⟩:=(h1.pat (sT sArrow::(a.btoks++sT sBar::(armT false (c::L)++wT sEnd::R)))).up
  obtain⟨g,hg⟩:=(h2.opd.seq (u:=sT sBar) (sQ (by decide)) (armT false (c::L)++wT sEnd::R)).up
  obtain⟨k,hk⟩:=(rd_arms c L (fun q hq=>h q (by simp [hq])) (l++[(a.p,a.b)]) R).up
  have hf:=hf (max f (max g k)) (Nat.le_max_left _ _)
  have hg:=hg (max f (max g k)) (Nat.le_trans (Nat.le_max_left _ _) (Nat.le_max_right _ _))
  have hk:=hk (max f (max g k)) (Nat.le_trans (Nat.le_max_right _ _) (Nat.le_max_right _ _))
  refine⟨max f (max g k)+1,?_⟩
  have e:armT false (a::c::L)++wT sEnd::R=a.ptoks++sT sArrow::(a.btoks++sT sBar::(armT false (c::L)++wT sEnd::R)):=by simp [armT]
  rw[e,zq]
  simp only[step,need,exec,hf,show isOne [sArrow] (sT sArrow)=true from rfl,if_true,hg,show isOne [sBar,sEnd] (sT sBar)=true from rfl,if_neg (show ¬(sT sBar).1.text=sEnd from show ¬sBar=sEnd by decide),hk]
  simp
theorem qx {A:List Tok} {a:Nd} (k:Int) (t:Tok) (hA:Op A a) (c:Am) (L:List Am) (h:∀ q∈c::L,PatW q.ptoks q.p∧Op q.btoks q.b) (R:List Tok):Rd (.cases k t) (A++wT sWith::(armT false (c::L)++wT sEnd::R)) (.mk ⟨k,t.2,[],0,[],[]⟩ [a] ((c::L).map fun q=>(q.p,q.b))) R:=by
 obtain⟨f,hf⟩:=(hA.opd.seq (u:=wT sWith) (vq (by decide)) (armT false (c::L)++wT sEnd::R)).up
 obtain⟨g,hg⟩:=(rd_arms c L h [] R).up
 have hf:=hf _ (Nat.le_max_left f g)
 have hg:=hg _ (Nat.le_max_right f g)
 refine⟨max f g+1,?_⟩
 rw[List.nil_append] at hg
 rw[zq]
 simp only[step,need,exec,hf,show isOne [sWith] (wT sWith)=true from rfl,if_true,hg];rfl
theorem op_match {A:List Tok} {a:Nd} (hA:Op A a) (c:Am) (L:List Am) (h:∀ q∈c::L,PatW q.ptoks q.p∧Op q.btoks q.b):Op (openT 0::((wT sMatch::(A++wT sWith::(armT false (c::L)++[wT sEnd])))++[shutT 0])) (.mk ⟨16,0,[],0,[],[]⟩ [a] ((c::L).map fun q=>(q.p,q.b))) :=
 yv fun R=>by
  obtain⟨f,hf⟩:=qx 16 (wT sMatch) hA c L h (shutT 0::R)
  refine vF ⟨f+1,?_⟩ rfl
  simp only[List.cons_append,List.append_assoc,List.nil_append]
  rw[zq]
  simp only[step,exec,show isOne [sFun] (wT sMatch)=false from rfl,show isOne [sLet,sMatch,sTry,sIf,sRaise] (wT sMatch)=true from rfl,if_true,Bool.false_eq_true,if_false,if_neg (show ¬(wT sMatch).1.text=sLet from show ¬sMatch=sLet by decide),show((wT sMatch).1.text=sMatch)=True from eq_true rfl,hf];rfl
theorem op_try {A:List Tok} {a:Nd} (hA:Op A a) (c:Am) (L:List Am) (h:∀ q∈c::L,PatW q.ptoks q.p∧Op q.btoks q.b):Op (openT 0::((wT sTry::(A++wT sWith::(armT false (c::L)++[wT sEnd])))++[shutT 0])) (.mk ⟨17,0,[],0,[],[]⟩ [a] ((c::L).map fun q=>(q.p,q.b))) :=
 yv fun R=>by
  obtain⟨f,hf⟩:=qx 17 (wT sTry) hA c L h (shutT 0::R)
  refine vF ⟨f+1,?_⟩ rfl
  simp only[List.cons_append,List.append_assoc,List.nil_append]
  rw[zq]
  simp only[step,exec,show isOne [sFun] (wT sTry)=false from rfl,show isOne [sLet,sMatch,sTry,sIf,sRaise] (wT sTry)=true from rfl,if_true,Bool.false_eq_true,if_false,if_neg (show ¬(wT sTry).1.text=sLet from show ¬sTry=sLet by decide),if_neg (show ¬(wT sTry).1.text=sMatch from show ¬sTry=sMatch by decide),show((wT sTry).1.text=sTry)=True from eq_true rfl,hf];rfl
end
section
open Go.RowKit
mutual
theorem xw {P:Nd→Prop} (H:∀ h l a,(∀ y∈l,P y)→(∀ q∈a,P q.1∧P q.2)→P (.mk h l a)):∀ x,P x
 | .mk h l a=>H h l a (zeG H l) (nd_indA H a)
theorem zeG {P:Nd→Prop} (H:∀ h l a,(∀ y∈l,P y)→(∀ q∈a,P q.1∧P q.2)→P (.mk h l a)):∀ l:List Nd,∀ y∈l,P y
 | [],_,hy=>nomatch hy
 | x::r,y,hy=>(List.mem_cons.1 hy).elim (fun e=>e▸xw H x) (fun h=>zeG H r y h)
theorem nd_indA {P:Nd→Prop} (H:∀ h l a,(∀ y∈l,P y)→(∀ q∈a,P q.1∧P q.2)→P (.mk h l a)):∀ l:List (Nd×Nd),∀ q∈l,P q.1∧P q.2
 | [],_,hy=>nomatch hy
 | (x,z)::r,q,hy=>(List.mem_cons.1 hy).elim (fun e=>e▸⟨xw H x,xw H z⟩) (fun h=>nd_indA H r q h)
end
theorem yf:∀ l:List Nd,showEs l=l.map showE
 | []=>rfl
 | x::l=>by rw[showEs,yf l];rfl
theorem xD:∀ l:List Nd,showPs l=l.map showP
 | []=>rfl
 | x::l=>by rw[showPs,xD l];rfl
theorem yd:∀ l:List (Nd×Nd),showAs l=l.map fun q=>armV (showP q.1) (showE q.2)
 | []=>rfl
 | (p,b)::l=>by rw[showAs,yd l];rfl
theorem uK:∀ l:List Nd,ersN l=l.map Nd.er
 | []=>rfl
 | x::l=>by rw[ersN,uK l];rfl
theorem tu:∀ l:List (Nd×Nd),ersA l=l.map fun q=>(q.1.er,q.2.er)
 | []=>rfl
 | (p,b)::l=>by rw[ersA,tu l];rfl
def litC (c:UInt8):Bool:=decide (c.toNat≠120)&&(decide (c.toNat≠88)&&(decide (c.toNat≠78)&&(decide (c.toNat≠84)&&(decide (c.toNat≠83)&&(decide (c.toNat≠65)&&(decide (c.toNat≠66)&&(decide (c.toNat≠67)&&(decide (c.toNat≠76)&&decide (c.toNat≠77)))))))))
theorem zaw {c:UInt8} (hc:litC c=true) (x:Sn):stepV c.toNat x=some ([c],x):=by
 unfold litC at hc
 simp only[Bool.and_eq_true,decide_eq_true_eq] at hc
 obtain⟨h1,h2,h3,h4,h5,h6,h7,h8,h9,h10⟩:=hc
 unfold stepV
 rw[if_neg h1,if_neg h2,if_neg h3,if_neg h4,if_neg h5,if_neg (by omega),if_neg h9,if_neg h10]
 simp
theorem yp {c:UInt8} {f s:List UInt8} {x:Sn} (h:formV (c::f) x=some s):∃ t y r,stepV c.toNat x=some (t,y)∧formV f y=some r∧s=t++r:=by
 rw[formV] at h
 cases hs:stepV c.toNat x with
 | none=>rw[hs] at h;cases h
 | some q =>
  obtain⟨t,y⟩:=q
  rw[hs] at h
  cases hf:formV f y with
  | none=>simp only[hf] at h;cases h
  | some r =>
   simp only[hf] at h
   exact⟨t,y,r,rfl,hf,(zc h).symm⟩
theorem zy:∀{l f s:List UInt8} {x:Sn},l.all litC=true→formV (l++f) x=some s→∃ r,formV f x=some r∧s=l++r
 | [],f,s,x,_,h=>⟨s,h,rfl⟩
 | c::l,f,s,x,hl,h=>by
  rw[List.all_cons,Bool.and_eq_true] at hl
  obtain⟨t,y,r,h1,h2,rfl⟩:=yp h
  rw[zaw hl.1] at h1
  obtain⟨rfl,rfl⟩:=Prod.mk.inj (zc h1)
  obtain⟨r',h3,rfl⟩:=zy hl.2 h2
  exact⟨r',h3,rfl⟩
theorem zX {s:List UInt8} {x:Sn} (h:formV [] x=some s):s=[]∧x=⟨[],0,[],[],[],[]⟩:=by
 rw[formV] at h
 split at h
 · rename_i hz
   refine⟨(zc h).symm,?_⟩
   obtain⟨a,b,c,d,e,f⟩:=x
   unfold Sn.zero at hz
   simp only[Bool.and_eq_true,decide_eq_true_eq,List.isEmpty_iff] at hz
   obtain⟨⟨⟨⟨⟨rfl,rfl⟩,rfl⟩,rfl⟩,rfl⟩,rfl⟩:=hz
   rfl
 · cases h
theorem yr {l s:List UInt8} {x:Sn} (hl:l.all litC=true) (h:formV l x=some s):s=l∧x=⟨[],0,[],[],[],[]⟩:=by
 have h:formV (l++[]) x=some s:=by rw[List.append_nil];exact h
 obtain⟨r,h1,rfl⟩:=zy hl h
 obtain⟨rfl,h2⟩:=zX h1
 exact⟨List.append_nil _,h2⟩
theorem r9 {f s:List UInt8} {nm:List UInt8} {n:Int} {st:List UInt8} {ls:List (List UInt8)} {az ar:List (Option (List UInt8))} (h:formV (120::f) ⟨nm,n,st,ls,az,ar⟩=some s):isNam nm=true∧∃ r,formV f ⟨[],n,st,ls,az,ar⟩=some r∧s=nm++r:=by
 obtain⟨t,y,r,h1,h2,rfl⟩:=yp h
 have h1:(if isNam nm then some (nm,(⟨[],n,st,ls,az,ar⟩:Sn)) else none)=some (t,y):=h1
 split at h1
 · rename_i hn
   obtain⟨rfl,rfl⟩:=Prod.mk.inj (zc h1)
   exact⟨hn,r,h2,rfl⟩
 · cases h1
theorem inv_X {f s:List UInt8} {nm:List UInt8} {n:Int} {st:List UInt8} {ls:List (List UInt8)} {az ar:List (Option (List UInt8))} (h:formV (88::f) ⟨nm,n,st,ls,az,ar⟩=some s):isUpN nm=true∧∃ r,formV f ⟨[],n,st,ls,az,ar⟩=some r∧s=nm++r:=by
 obtain⟨t,y,r,h1,h2,rfl⟩:=yp h
 have h1:(if isUpN nm then some (nm,(⟨[],n,st,ls,az,ar⟩:Sn)) else none)=some (t,y):=h1
 split at h1
 · rename_i hn
   obtain⟨rfl,rfl⟩:=Prod.mk.inj (zc h1)
   exact⟨hn,r,h2,rfl⟩
 · cases h1
theorem inv_N {f s:List UInt8} {nm:List UInt8} {n:Int} {st:List UInt8} {ls:List (List UInt8)} {az ar:List (Option (List UInt8))} (h:formV (78::f) ⟨nm,n,st,ls,az,ar⟩=some s):(0≤n∧n<4611686018427387904)∧∃ r,formV f ⟨nm,0,st,ls,az,ar⟩=some r∧s=Lib.itoa n++r:=by
 obtain⟨t,y,r,h1,h2,rfl⟩:=yp h
 have h1:(if 0≤n∧n<4611686018427387904 then some (Lib.itoa n,(⟨nm,0,st,ls,az,ar⟩:Sn)) else none)=some (t,y):=h1
 split at h1
 · rename_i hn
   obtain⟨rfl,rfl⟩:=Prod.mk.inj (zc h1)
   exact⟨hn,r,h2,rfl⟩
 · cases h1
theorem inv_T {f s:List UInt8} {nm:List UInt8} {n:Int} {st:List UInt8} {ls:List (List UInt8)} {az ar:List (Option (List UInt8))} (h:formV (84::f) ⟨nm,n,st,ls,az,ar⟩=some s):(n=0∨n=1)∧∃ r,formV f ⟨nm,0,st,ls,az,ar⟩=some r∧s=(if n=0 then sFalse else sTrue)++r:=by
 obtain⟨t,y,r,h1,h2,rfl⟩:=yp h
 have h1:(if n=0 then some ([102,97,108,115,101],(⟨nm,0,st,ls,az,ar⟩:Sn)) else if n=1 then some ([116,114,117,101],(⟨nm,0,st,ls,az,ar⟩:Sn)) else none)=some (t,y):=h1
 split at h1
 · rename_i hn
   obtain⟨rfl,rfl⟩:=Prod.mk.inj (zc h1)
   exact⟨.inl hn,r,h2,by rw[if_pos hn];rfl⟩
 · rename_i hn
   split at h1
   · rename_i hn1
     obtain⟨rfl,rfl⟩:=Prod.mk.inj (zc h1)
     exact⟨.inr hn1,r,h2,by rw[if_neg hn];rfl⟩
   · cases h1
theorem inv_S {f s:List UInt8} {nm:List UInt8} {n:Int} {st:List UInt8} {ls:List (List UInt8)} {az ar:List (Option (List UInt8))} (h:formV (83::f) ⟨nm,n,st,ls,az,ar⟩=some s):∃ r,formV f ⟨nm,n,[],ls,az,ar⟩=some r∧s=qall (st.take 4096)++r:=by
 obtain⟨t,y,r,h1,h2,rfl⟩:=yp h
 have h1:some (qall (st.take 4096),(⟨nm,n,[],ls,az,ar⟩:Sn))=some (t,y):=h1
 obtain⟨rfl,rfl⟩:=Prod.mk.inj (zc h1)
 exact⟨r,h2,rfl⟩
theorem wq {c:UInt8} (hc:c=65∨c=66∨c=67) {f s:List UInt8} {nm:List UInt8} {n:Int} {st:List UInt8} {ls:List (List UInt8)} {az ar:List (Option (List UInt8))} (h:formV (c::f) ⟨nm,n,st,ls,az,ar⟩=some s):∃ a l,az=some a::l∧∃ r,formV f ⟨nm,n,st,ls,l,ar⟩=some r∧s=a++r:=by
 obtain⟨t,y,r,h1,h2,rfl⟩:=yp h
 rcases az with _ | ⟨_ | a,l⟩
 · rcases hc with rfl | rfl | rfl <;> cases h1
 · rcases hc with rfl | rfl | rfl <;> cases h1
 · have h1:some (a,(⟨nm,n,st,ls,l,ar⟩:Sn))=some (t,y):=by
    rcases hc with rfl | rfl | rfl <;> exact h1
   obtain⟨rfl,rfl⟩:=Prod.mk.inj (zc h1)
   exact⟨_,_,rfl,r,h2,rfl⟩
theorem inv_L {f s:List UInt8} {nm:List UInt8} {n:Int} {st:List UInt8} {ls:List (List UInt8)} {az ar:List (Option (List UInt8))} (h:formV (76::f) ⟨nm,n,st,ls,az,ar⟩=some s):∃ t l,fieldsV false ls az=some (t,l)∧∃ r,formV f ⟨nm,n,st,[],l,ar⟩=some r∧s=t++r:=by
 obtain⟨t,y,r,h1,h2,rfl⟩:=yp h
 have h1:((fieldsV false ls az).map fun p=>(p.1,(⟨nm,n,st,[],p.2,ar⟩:Sn)))=some (t,y):=h1
 cases hf:fieldsV false ls az with
 | none=>rw[hf] at h1;cases h1
 | some q =>
  rw[hf] at h1
  obtain⟨rfl,rfl⟩:=Prod.mk.inj (zc h1)
  exact⟨_,_,rfl,r,h2,rfl⟩
theorem inv_M {f s:List UInt8} {nm:List UInt8} {n:Int} {st:List UInt8} {ls:List (List UInt8)} {az ar:List (Option (List UInt8))} (h:formV (77::f) ⟨nm,n,st,ls,az,ar⟩=some s):ar≠[]∧∃ t,armsV false ar=some t∧∃ r,formV f ⟨nm,n,st,ls,az,[]⟩=some r∧s=t++r:=by
 obtain⟨t,y,r,h1,h2,rfl⟩:=yp h
 have h1:(if ar=[] then none else(armsV false ar).map fun t=>(t,(⟨nm,n,st,ls,az,[]⟩:Sn)))=some (t,y):=h1
 split at h1
 · cases h1
 · rename_i hn
   cases hf:armsV false ar with
   | none=>rw[hf] at h1;cases h1
   | some q =>
    rw[hf] at h1
    obtain⟨rfl,rfl⟩:=Prod.mk.inj (zc h1)
    exact⟨hn,_,rfl,r,h2,rfl⟩
theorem xg {l:List Nd} {a:List UInt8} {r:List (Option (List UInt8))} (h:l.map showE=some a::r):∃ x m,l=x::m∧showE x=some a∧m.map showE=r:=by
 cases l with
 | nil=>cases h
 | cons x m =>
  rw[List.map_cons] at h
  exact⟨x,m,rfl,(List.cons.inj h).1,(List.cons.inj h).2⟩
theorem ps_cons {l:List Nd} {a:List UInt8} {r:List (Option (List UInt8))} (h:l.map showP=some a::r):∃ x m,l=x::m∧showP x=some a∧m.map showP=r:=by
 cases l with
 | nil=>cases h
 | cons x m =>
  rw[List.map_cons] at h
  exact⟨x,m,rfl,(List.cons.inj h).1,(List.cons.inj h).2⟩
theorem LexS.to {s:List UInt8} {W W':List Tok} (h:LexS s W) (e:W=W'):LexS s W':=e▸h
theorem LexA.to {s:List UInt8} {W W':List Tok} (h:LexA s W) (e:W=W'):LexA s W':=e▸h
theorem LexS.lit {a l m:List UInt8} {c:UInt8} {E F G:List Tok} (h:LexS a E) (h1:LexA (c::l) F) (h2:LexA m G) (hc:softC c=true):LexA (a++((c::l)++m)) (E++(F++G)):=LexS.app (b:=l++m) h (h1.app h2) hc
theorem LexS.shut {a:List UInt8} {c:UInt8} {E:List Tok} (h:LexS a E) (hc:c∈lone) (hs:softC c=true):LexA (a++[c]) (E++[sT [c]]):=LexS.app (b:=[]) h (wB hc) hs
theorem LexS.sh {a:List UInt8} {E:List Tok} (h:LexS a E):LexA (a++[41]) (E++[shutT 0]):=h.shut (c:=41) (by decide) (by decide)
theorem LexS.un {a:List UInt8} {E:List Tok} (h:LexS a E):LexA (a++[125]) (E++[sT sUncurl]):=h.shut (c:=125) (by decide) (by decide)
theorem yZ {n:List UInt8} (h:isNam n=true):LexS n [nT n]:=yl (good_nam h)
theorem lx_fun1:LexA [40,102,117,110,32] [sT sOpen,wT sFun]:=zv (l:=[40,102,117,110]) (X:=[(⟨7,[40],0⟩,0),(⟨6,[102,117,110],0⟩,1)]) (by kernel_rfl)
theorem lx_arrow:LexA [32,45,62,32] [sT sArrow]:=zv (l:=[32,45,62]) (X:=[(⟨7,[45,62],0⟩,1)]) (by kernel_rfl)
theorem lx_fun:LexA [102,117,110,32] [wT sFun]:=zv (l:=[102,117,110]) (X:=[(⟨6,[102,117,110],0⟩,0)]) (by kernel_rfl)
theorem lx_let:LexA [40,108,101,116,32] [sT sOpen,wT sLet]:=zv (l:=[40,108,101,116]) (X:=[(⟨7,[40],0⟩,0),(⟨6,[108,101,116],0⟩,1)]) (by kernel_rfl)
theorem lx_eq:LexA [32,61,32] [sT sEq]:=zv (l:=[32,61]) (X:=[(⟨7,[61],0⟩,1)]) (by kernel_rfl)
theorem lx_in:LexA [32,105,110,32] [wT sIn]:=zv (l:=[32,105,110]) (X:=[(⟨6,[105,110],0⟩,1)]) (by kernel_rfl)
theorem lx_rec:LexA [40,108,101,116,32,114,101,99,32] [sT sOpen,wT sLet,wT sRec]:=zv (l:=[40,108,101,116,32,114,101,99]) (X:=[(⟨7,[40],0⟩,0),(⟨6,[108,101,116],0⟩,1),(⟨6,[114,101,99],0⟩,5)]) (by kernel_rfl)
theorem lx_if:LexA [40,105,102,32] [sT sOpen,wT sIf]:=zv (l:=[40,105,102]) (X:=[(⟨7,[40],0⟩,0),(⟨6,[105,102],0⟩,1)]) (by kernel_rfl)
theorem lx_then:LexA [32,116,104,101,110,32] [wT sThen]:=zv (l:=[32,116,104,101,110]) (X:=[(⟨6,[116,104,101,110],0⟩,1)]) (by kernel_rfl)
theorem lx_else:LexA [32,101,108,115,101,32] [wT sElse]:=zv (l:=[32,101,108,115,101]) (X:=[(⟨6,[101,108,115,101],0⟩,1)]) (by kernel_rfl)
theorem zbk:LexA [32,119,105,116,104,32] [wT sWith]:=zv (l:=[32,119,105,116,104]) (X:=[(⟨6,[119,105,116,104],0⟩,1)]) (by kernel_rfl)
theorem lx_match:LexA [40,109,97,116,99,104,32] [sT sOpen,wT sMatch]:=zv (l:=[40,109,97,116,99,104]) (X:=[(⟨7,[40],0⟩,0),(⟨6,[109,97,116,99,104],0⟩,1)]) (by kernel_rfl)
theorem lx_try:LexA [40,116,114,121,32] [sT sOpen,wT sTry]:=zv (l:=[40,116,114,121]) (X:=[(⟨7,[40],0⟩,0),(⟨6,[116,114,121],0⟩,1)]) (by kernel_rfl)
theorem lx_raise:LexA [40,114,97,105,115,101,32] [sT sOpen,wT sRaise]:=zv (l:=[40,114,97,105,115,101]) (X:=[(⟨7,[40],0⟩,0),(⟨6,[114,97,105,115,101],0⟩,1)]) (by kernel_rfl)
theorem lx_semi:LexA [59,32] [sT sSemi]:=zv (l:=[59]) (X:=[(⟨7,[59],0⟩,0)]) (by kernel_rfl)
theorem lx_comma:LexA [44,32] [sT sComma]:=zv (l:=[44]) (X:=[(⟨7,[44],0⟩,0)]) (by kernel_rfl)
theorem lx_bar:LexA [32,124,32] [sT sBar]:=zv (l:=[32,124]) (X:=[(⟨7,[124],0⟩,1)]) (by kernel_rfl)
theorem lu_minus:LexA [40,45,32] [sT sOpen,sT sMinus]:=zv (l:=[40,45]) (X:=[(⟨7,[40],0⟩,0),(⟨7,[45],0⟩,1)]) (by kernel_rfl)
theorem lu_not:LexA [40,110,111,116,32] [sT sOpen,wT sNot]:=zv (l:=[40,110,111,116]) (X:=[(⟨7,[40],0⟩,0),(⟨6,[110,111,116],0⟩,1)]) (by kernel_rfl)
theorem lu_bang:LexA [40,33,32] [sT sOpen,sT sBang]:=zv (l:=[40,33]) (X:=[(⟨7,[40],0⟩,0),(⟨7,[33],0⟩,1)]) (by kernel_rfl)
theorem lu_ref:LexA [40,114,101,102,32] [sT sOpen,wT sRef]:=zv (l:=[40,114,101,102]) (X:=[(⟨7,[40],0⟩,0),(⟨6,[114,101,102],0⟩,1)]) (by kernel_rfl)
theorem lu_len:LexA [40,108,101,110,32] [sT sOpen,wT sLen]:=zv (l:=[40,108,101,110]) (X:=[(⟨7,[40],0⟩,0),(⟨6,[108,101,110],0⟩,1)]) (by kernel_rfl)
theorem lu_size:LexA [40,115,105,122,101,32] [sT sOpen,wT sSize]:=zv (l:=[40,115,105,122,101]) (X:=[(⟨7,[40],0⟩,0),(⟨6,[115,105,122,101],0⟩,1)]) (by kernel_rfl)
theorem lu_getc:LexA [40,103,101,116,99,32] [sT sOpen,wT sGetc]:=zv (l:=[40,103,101,116,99]) (X:=[(⟨7,[40],0⟩,0),(⟨6,[103,101,116,99],0⟩,1)]) (by kernel_rfl)
theorem lu_putc:LexA [40,112,117,116,99,32] [sT sOpen,wT sPutc]:=zv (l:=[40,112,117,116,99]) (X:=[(⟨7,[40],0⟩,0),(⟨6,[112,117,116,99],0⟩,1)]) (by kernel_rfl)
theorem lu_array:LexA [40,97,114,114,97,121,32] [sT sOpen,wT sArray]:=zv (l:=[40,97,114,114,97,121]) (X:=[(⟨7,[40],0⟩,0),(⟨6,[97,114,114,97,121],0⟩,1)]) (by kernel_rfl)
theorem lu_get:LexA [40,103,101,116,32] [sT sOpen,wT sGet]:=zv (l:=[40,103,101,116]) (X:=[(⟨7,[40],0⟩,0),(⟨6,[103,101,116],0⟩,1)]) (by kernel_rfl)
theorem lu_byte:LexA [40,98,121,116,101,32] [sT sOpen,wT sByte]:=zv (l:=[40,98,121,116,101]) (X:=[(⟨7,[40],0⟩,0),(⟨6,[98,121,116,101],0⟩,1)]) (by kernel_rfl)
theorem lu_cat:LexA [40,99,97,116,32] [sT sOpen,wT sCat]:=zv (l:=[40,99,97,116]) (X:=[(⟨7,[40],0⟩,0),(⟨6,[99,97,116],0⟩,1)]) (by kernel_rfl)
theorem lu_set:LexA [40,115,101,116,32] [sT sOpen,wT sSet]:=zv (l:=[40,115,101,116]) (X:=[(⟨7,[40],0⟩,0),(⟨6,[115,101,116],0⟩,1)]) (by kernel_rfl)
theorem lb_1:LexA [32,58,61,32] [sT sAssign]:=zv (l:=[32,58,61]) (X:=[(⟨7,[58,61],0⟩,1)]) (by kernel_rfl)
theorem lb_2:LexA [32,124,124,32] [sT sOr]:=zv (l:=[32,124,124]) (X:=[(⟨7,[124,124],0⟩,1)]) (by kernel_rfl)
theorem lb_3:LexA [32,38,38,32] [sT sAnd]:=zv (l:=[32,38,38]) (X:=[(⟨7,[38,38],0⟩,1)]) (by kernel_rfl)
theorem lb_4:LexA [32,61,32] [sT sEq]:=zv (l:=[32,61]) (X:=[(⟨7,[61],0⟩,1)]) (by kernel_rfl)
theorem lb_5:LexA [32,60,32] [sT sLess]:=zv (l:=[32,60]) (X:=[(⟨7,[60],0⟩,1)]) (by kernel_rfl)
theorem lb_6:LexA [32,43,32] [sT sPlus]:=zv (l:=[32,43]) (X:=[(⟨7,[43],0⟩,1)]) (by kernel_rfl)
theorem lb_7:LexA [32,45,32] [sT sMinus]:=zv (l:=[32,45]) (X:=[(⟨7,[45],0⟩,1)]) (by kernel_rfl)
theorem lb_8:LexA [32,42,32] [sT sTimes]:=zv (l:=[32,42]) (X:=[(⟨7,[42],0⟩,1)]) (by kernel_rfl)
theorem lb_9:LexA [32,47,32] [sT sOver]:=zv (l:=[32,47]) (X:=[(⟨7,[47],0⟩,1)]) (by kernel_rfl)
theorem lb_10:LexA [32,37,32] [sT sRem]:=zv (l:=[32,37]) (X:=[(⟨7,[37],0⟩,1)]) (by kernel_rfl)
theorem lx_open:LexA [40] [openT 0]:=wB (by decide)
theorem lx_curl:LexA [123] [curlT]:=wB (by decide)
theorem lx_end:LexA [32,101,110,100,41] [wT sEnd,shutT 0] :=
 (lexA_blank.app (LexS.sh (yl (t:=⟨6,sEnd,0⟩) ⟨by kernel_rfl,101,[110,100],rfl,by decide⟩))).to (by rfl)
def TolE (x:Nd):Prop:=∀ s,showE x=some s→∃ W,LexS s W∧Op W x.er
def TolP (x:Nd):Prop:=∀ s,showP x=some s→∃ W,LexS s W∧PatW W x.er
def TolF (x:Nd):Prop:=∀ s,showF [x]=some s→∃ W,LexS s W∧FnW W x.er
theorem zce {ls:List (List UInt8)} {az:List (Option (List UInt8))} {q:List UInt8×List (Option (List UInt8))} (h:fieldsV true ls az=some q):Soft q.1:=by
 match ls,az,h with
 | [],az,h=>rw[fieldsV] at h;obtain rfl:=zc h;exact .inl rfl
 | l::ls,some t::az,h =>
  rw[fieldsV] at h
  split at h
  · cases hf:fieldsV true ls az with
    | none=>rw[hf] at h;cases h
    | some p =>
     rw[hf] at h
     obtain rfl:=zc h
     exact xp (by decide) _
  · cases h
theorem vA {K:List Tok→Nd→Prop} {sh:Nd→Option (List UInt8)}:∀(ls:List (List UInt8)) (args:List Nd) (more:Bool) (t:List UInt8),(∀ y∈args,∀ s,sh y=some s→∃ W,LexS s W∧K W y.er)→fieldsV more ls (args.map sh)=some (t,[]) →
 ∃ L:List Fl,L.map (·.label)=ls∧L.map (·.it)=args.map Nd.er∧(∀ g∈L,K g.toks g.it)∧LexS t (fldT more L)
 | [],args,more,t,_,h=>by
  rw[fieldsV] at h
  obtain⟨rfl,h2⟩:=Prod.mk.inj (zc h)
  obtain rfl:args=[]:=by simpa using h2
  exact⟨[],rfl,rfl,fun _ hg=>(by cases hg),lexA_nil.s⟩
 | l::ls,[],more,t,_,h=>by cases h
 | l::ls,x::args,more,t,hA,h=>by
  rw[List.map_cons] at h
  cases hx:sh x with
  | none=>rw[hx] at h;cases h
  | some s =>
   rw[hx,fieldsV] at h
   split at h
   · rename_i hn
     cases hf:fieldsV true ls (args.map sh) with
     | none=>rw[hf] at h;cases h
     | some q =>
      rw[hf] at h
      obtain⟨q1,q2⟩:=q
      obtain⟨rfl,rfl⟩:=Prod.mk.inj (zc h)
      obtain⟨L,h1,h2,h3,h4⟩:=vA ls args true q1 (fun y hy=>hA y (by simp [hy])) hf
      obtain⟨W,hW,hK⟩:=hA x (by simp) s hx
      refine⟨⟨l,W,x.er⟩::L,by rw[List.map_cons,h1],by rw[List.map_cons,List.map_cons,h2],fun g hg=>?_,?_⟩
      · rcases List.mem_cons.1 hg with rfl | hg
        · exact hK
        · exact h3 g hg
      · have h5:LexS (l++([32,61,32]++(s++q1))) ([nT l]++([sT sEq]++(W++fldT true L))) :=
         (yZ hn).then (lx_eq.then (hW.then h4 (zce hf))) (xp (by decide) _)
        cases more with
        | true=>exact(lx_comma.then h5).to (by simp [fldT])
        | false=>exact(lexA_nil.then h5).to (by simp [fldT])
   · cases h
theorem arms_soft {az:List (Option (List UInt8))} {t:List UInt8} (h:armsV true az=some t):Soft t:=by
 match az,h with
 | [],h=>rw[armsV] at h;obtain rfl:=zc h;exact .inl rfl
 | some t::az,h =>
  rw[armsV] at h
  cases hf:armsV true az with
  | none=>rw[hf] at h;cases h
  | some p =>
   rw[hf] at h
   obtain rfl:=zc h
   exact xp (by decide) _
 | none::az,h=>cases h
theorem tO:∀(arms:List (Nd×Nd)) (more:Bool) (t:List UInt8),(∀ q∈arms,TolP q.1∧TolE q.2)→armsV more (arms.map fun q=>armV (showP q.1) (showE q.2))=some t →
 ∃ L:List Am,(L.map fun q=>(q.p,q.b))=arms.map (fun q=>(q.1.er,q.2.er))∧(∀ q∈L,PatW q.ptoks q.p∧Op q.btoks q.b)∧LexS t (armT more L)
 | [],more,t,_,h=>by
  rw[List.map_nil,armsV] at h
  obtain rfl:=zc h
  exact⟨[],rfl,fun _ hg=>(by cases hg),lexA_nil.s⟩
 | (p,b)::arms,more,t,hA,h=>by
  rw[List.map_cons] at h
  have h:armsV more (armV (showP p) (showE b)::(arms.map fun q=>armV (showP q.1) (showE q.2)))=some t:=h
  cases hp:showP p with
  | none=>rw[hp] at h;cases h
  | some s =>
   cases hb:showE b with
   | none=>rw[hp,hb] at h;cases h
   | some u =>
    rw[hp,hb] at h
    have h:((armsV true (arms.map fun q=>armV (showP q.1) (showE q.2))).map fun v=>(if more then [32,124,32] else [])++((s++([32,45,62,32]++u))++v))=some t:=h
    cases hf:armsV true (arms.map fun q=>armV (showP q.1) (showE q.2)) with
    | none=>rw[hf] at h;cases h
    | some v =>
     rw[hf] at h
     obtain rfl:=zc h
     obtain⟨L,h1,h2,h3⟩:=tO arms true v (fun q hq=>hA q (by simp [hq])) hf
     obtain⟨P,hP,hPW⟩:=(hA (p,b) (by simp)).1 s hp
     obtain⟨B,hB,hBW⟩:=(hA (p,b) (by simp)).2 u hb
     refine⟨⟨P,p.er,B,b.er⟩::L,by rw[List.map_cons,List.map_cons,h1],fun q hq=>?_,?_⟩
     · rcases List.mem_cons.1 hq with rfl | hq
       · exact⟨hPW,hBW⟩
       · exact h2 q hq
     · have h5:LexS ((s++([32,45,62,32]++u))++v) ((P++([sT sArrow]++B))++armT true L) :=
        LexS.then (hP.then (lx_arrow.then hB) (xp (by decide) _)) h3 (arms_soft hf)
       cases more with
       | true=>exact(lx_bar.then h5).to (by simp [armT])
       | false=>exact(lexA_nil.then h5).to (by simp [armT])
theorem uv {n:Int} {l:List (List UInt8)} (h:pickV n l≠[]):0≤n∧n<(l.length:Int):=by
 unfold pickV at h
 split at h
 · exact absurd rfl h
 · refine⟨by omega,?_⟩
   cases Nat.lt_or_ge n.toNat l.length with
   | inl h1=>omega
   | inr h1=>rw[List.getElem?_eq_none h1] at h;exact absurd rfl h
theorem xZ {f s:List UInt8} {x:Sn} (h:putV f x=some s):f≠[]∧formV f x=some s:=by
 unfold putV at h
 split at h
 · cases h
 · rename_i hf;exact⟨hf,h⟩
section
variable {args : List Nd} {arms : List (Nd × Nd)} {nm st s : List UInt8} {n : Int} {ls : List (List UInt8)} (hA : ∀ y ∈ args, TolE y)
include hA
theorem wM {l0 l1:List UInt8} (g0:l0.all litC=true) (g1:l1.all litC=true) (h:formV (l0++65::l1) ⟨nm,n,st,ls,args.map showE,arms.map fun q=>armV (showP q.1) (showE q.2)⟩=some s) :
 nm=[]∧n=0∧st=[]∧ls=[]∧arms=[]∧∃ x a A,args=[x]∧LexS a A∧Op A x.er∧s=l0++(a++l1):=by
 obtain⟨r1,h1,rfl⟩:=zy g0 h
 obtain⟨a,l,h2,r2,h3,rfl⟩:=wq (.inl rfl) h1
 obtain⟨rfl,h4⟩:=yr g1 h3
 simp only[Sn.mk.injEq] at h4
 obtain⟨rfl,rfl,rfl,rfl,rfl,h5⟩:=h4
 obtain⟨x,m,rfl,hx,hm⟩:=xg h2
 obtain rfl:m=[]:=by simpa using hm
 obtain rfl:arms=[]:=by simpa using h5
 obtain⟨A,h6,h7⟩:=hA x (by simp) a hx
 exact⟨rfl,rfl,rfl,rfl,rfl,x,a,A,rfl,h6,h7,rfl⟩
theorem we {l0 l1 l2:List UInt8} (g0:l0.all litC=true) (g1:l1.all litC=true) (g2:l2.all litC=true) (h:formV (l0++65::(l1++66::l2)) ⟨nm,n,st,ls,args.map showE,arms.map fun q=>armV (showP q.1) (showE q.2)⟩=some s) :
 nm=[]∧n=0∧st=[]∧ls=[]∧arms=[]∧∃ x y a b A B,args=[x,y]∧LexS a A∧Op A x.er∧LexS b B∧Op B y.er∧s=l0++(a++(l1++(b++l2))):=by
 obtain⟨r1,h1,rfl⟩:=zy g0 h
 obtain⟨a,l,h2,r2,h3,rfl⟩:=wq (.inl rfl) h1
 obtain⟨r3,h4,rfl⟩:=zy g1 h3
 obtain⟨b,l',h5,r4,h6,rfl⟩:=wq (.inr (.inl rfl)) h4
 obtain⟨rfl,h7⟩:=yr g2 h6
 simp only[Sn.mk.injEq] at h7
 obtain⟨rfl,rfl,rfl,rfl,rfl,h8⟩:=h7
 obtain⟨x,m,rfl,hx,hm⟩:=xg h2
 obtain⟨y,m',rfl,hy,hm'⟩:=xg (hm.trans h5)
 obtain rfl:m'=[]:=by simpa using hm'
 obtain rfl:arms=[]:=by simpa using h8
 obtain⟨A,k1,k2⟩:=hA x (by simp) a hx
 obtain⟨B,k3,k4⟩:=hA y (by simp) b hy
 exact⟨rfl,rfl,rfl,rfl,rfl,x,y,a,b,A,B,rfl,k1,k2,k3,k4,rfl⟩
theorem qb {l0 l1 l2 l3:List UInt8} (g0:l0.all litC=true) (g1:l1.all litC=true) (g2:l2.all litC=true) (g3:l3.all litC=true) (h:formV (l0++65::(l1++66::(l2++67::l3))) ⟨nm,n,st,ls,args.map showE,arms.map fun q=>armV (showP q.1) (showE q.2)⟩=some s) :
 nm=[]∧n=0∧st=[]∧ls=[]∧arms=[]∧∃ x y z a b c A B C,args=[x,y,z]∧LexS a A∧Op A x.er∧LexS b B∧Op B y.er∧LexS c C∧Op C z.er∧s=l0++(a++(l1++(b++(l2++(c++l3))))):=by
 obtain⟨r1,h1,rfl⟩:=zy g0 h
 obtain⟨a,l,h2,r2,h3,rfl⟩:=wq (.inl rfl) h1
 obtain⟨r3,h4,rfl⟩:=zy g1 h3
 obtain⟨b,l',h5,r4,h6,rfl⟩:=wq (.inr (.inl rfl)) h4
 obtain⟨r5,h7,rfl⟩:=zy g2 h6
 obtain⟨c,l'',h8,r6,h9,rfl⟩:=wq (.inr (.inr rfl)) h7
 obtain⟨rfl,h10⟩:=yr g3 h9
 simp only[Sn.mk.injEq] at h10
 obtain⟨rfl,rfl,rfl,rfl,rfl,h11⟩:=h10
 obtain⟨x,m,rfl,hx,hm⟩:=xg h2
 obtain⟨y,m',rfl,hy,hm'⟩:=xg (hm.trans h5)
 obtain⟨z,m'',rfl,hz,hm''⟩:=xg (hm'.trans h8)
 obtain rfl:m''=[]:=by simpa using hm''
 obtain rfl:arms=[]:=by simpa using h11
 obtain⟨A,k1,k2⟩:=hA x (by simp) a hx
 obtain⟨B,k3,k4⟩:=hA y (by simp) b hy
 obtain⟨C,k5,k6⟩:=hA z (by simp) c hz
 exact⟨rfl,rfl,rfl,rfl,rfl,x,y,z,a,b,c,A,B,C,rfl,k1,k2,k3,k4,k5,k6,rfl⟩
theorem zam {l0 l1 l2:List UInt8} (g0:l0.all litC=true) (g1:l1.all litC=true) (g2:l2.all litC=true) (h:formV (l0++120::(l1++65::l2)) ⟨nm,n,st,ls,args.map showE,arms.map fun q=>armV (showP q.1) (showE q.2)⟩=some s) :
 isNam nm=true∧n=0∧st=[]∧ls=[]∧arms=[]∧∃ x a A,args=[x]∧LexS a A∧Op A x.er∧s=l0++(nm++(l1++(a++l2))):=by
 obtain⟨r1,h1,rfl⟩:=zy g0 h
 obtain⟨hn,r2,h2,rfl⟩:=r9 h1
 obtain⟨_,rfl,rfl,rfl,rfl,x,a,A,rfl,h3,h4,rfl⟩:=wM hA g1 g2 h2
 exact⟨hn,rfl,rfl,rfl,rfl,x,a,A,rfl,h3,h4,rfl⟩
theorem form_nam2 {l0 l1 l2 l3:List UInt8} (g0:l0.all litC=true) (g1:l1.all litC=true) (g2:l2.all litC=true) (g3:l3.all litC=true) (h:formV (l0++120::(l1++65::(l2++66::l3))) ⟨nm,n,st,ls,args.map showE,arms.map fun q=>armV (showP q.1) (showE q.2)⟩=some s) :
 isNam nm=true∧n=0∧st=[]∧ls=[]∧arms=[]∧∃ x y a b A B,args=[x,y]∧LexS a A∧Op A x.er∧LexS b B∧Op B y.er∧s=l0++(nm++(l1++(a++(l2++(b++l3))))):=by
 obtain⟨r1,h1,rfl⟩:=zy g0 h
 obtain⟨hn,r2,h2,rfl⟩:=r9 h1
 obtain⟨_,rfl,rfl,rfl,rfl,x,y,a,b,A,B,rfl,h3,h4,h5,h6,rfl⟩:=we hA g1 g2 g3 h2
 exact⟨hn,rfl,rfl,rfl,rfl,x,y,a,b,A,B,rfl,h3,h4,h5,h6,rfl⟩
end
abbrev mkX (k pos:Int) (nm:List UInt8) (n:Int) (st:List UInt8) (ls:List (List UInt8)) (args:List Nd) (arms:List (Nd×Nd)):Nd:=.mk ⟨k,pos,nm,n,st,ls⟩ args arms
theorem yX (h:Hd) (l:List Nd) (a:List (Nd×Nd)):(Nd.mk h l a).er=.mk h.er (l.map Nd.er) (a.map fun q=>(q.1.er,q.2.er)):=by rw[← uK,← tu];rfl
section
variable {args : List Nd} {arms : List (Nd × Nd)} {nm st s : List UInt8} {n pos : Int} {ls : List (List UInt8)} (hA : ∀ y ∈ args, TolE y)
include hA
theorem yO {i:Nat} (hi:i<11) {c:UInt8} {l1:List UInt8} (g1:(c::l1).all litC=true) (hc:softC c=true) (hl:LexA (c::l1) [bT i]) (k m:Int) (hk:∀ a b:Nd,nd (blev i) (bT i) a b=.mk ⟨k,0,[],m,[],[]⟩ [a,b] [])
 (h:formV ([40]++65::((c::l1)++66::[41])) ⟨nm,0,st,ls,args.map showE,arms.map fun q=>armV (showP q.1) (showE q.2)⟩=some s):∃ W,LexS s W∧Op W (mkX k pos nm m st ls args arms).er:=by
 obtain⟨rfl,_,rfl,rfl,rfl,x,y,a,b,A,B,rfl,h1,h2,h3,h4,rfl⟩:=we hA (by decide) g1 (by decide) h
 refine⟨_,(lx_open.app (h1.lit hl (h3.sh) hc)).s,?_⟩
 rw[yX]
 have:=op_two h2 h4 hi
 rw[hk] at this
 simpa [Hd.er] using this
theorem wj {l:List UInt8} (g:l.all litC=true) {t:Tok} (hl:LexA l [openT 0,t]) (m:Int) (hw:isOne word1 t=true) (h0:isKind 3 t=false) (h1:isOne [sFun] t=false) (h2:isOne [sLet,sMatch,sTry,sIf,sRaise] t=false) (h3:isOne [sMinus,sNot] t=false) (hk:∀ L,node 19 t L=.mk ⟨19,0,[],m,[],[]⟩ L [])
 (h:formV (l++65::[41]) ⟨nm,0,st,ls,args.map showE,arms.map fun q=>armV (showP q.1) (showE q.2)⟩=some s):∃ W,LexS s W∧Op W (mkX 19 pos nm m st ls args arms).er:=by
 obtain⟨rfl,_,rfl,rfl,rfl,x,a,A,rfl,k1,k2,rfl⟩:=wM hA g (by decide) h
 refine⟨_,(hl.app (k1.sh)).s,?_⟩
 rw[yX]
 have:=zbq (t:=t) (L:=[(A,x.er)]) (fun q hq=>by obtain rfl:=List.mem_singleton.1 hq;exact k2) (.inl ⟨hw,rfl⟩) h0 h1 h2 h3
 rw[hk] at this
 simpa [Hd.er] using this
theorem vj {l:List UInt8} (g:l.all litC=true) {t:Tok} (hl:LexA l [openT 0,t]) (m:Int) (hw1:isOne word1 t=false) (hw:isOne word2 t=true) (h0:isKind 3 t=false) (h1:isOne [sFun] t=false) (h2:isOne [sLet,sMatch,sTry,sIf,sRaise] t=false) (h3:isOne [sMinus,sNot] t=false) (hk:∀ L,node 19 t L=.mk ⟨19,0,[],m,[],[]⟩ L [])
 (h:formV (l++65::([32]++66::[41])) ⟨nm,0,st,ls,args.map showE,arms.map fun q=>armV (showP q.1) (showE q.2)⟩=some s):∃ W,LexS s W∧Op W (mkX 19 pos nm m st ls args arms).er:=by
 obtain⟨rfl,_,rfl,rfl,rfl,x,y,a,b,A,B,rfl,k1,k2,k3,k4,rfl⟩:=we hA g (by decide) (by decide) h
 refine⟨_,(hl.app (k1.lit lexA_blank (k3.sh) (by decide))).s,?_⟩
 rw[yX]
 have:=zbq (t:=t) (L:=[(A,x.er),(B,y.er)]) (fun q hq=>by
  rcases List.mem_cons.1 hq with rfl | hq
  · exact k2
  · obtain rfl:=List.mem_singleton.1 hq;exact k4) (.inr (.inl ⟨hw1,hw,rfl⟩)) h0 h1 h2 h3
 rw[hk] at this
 simpa [Hd.er] using this
theorem zd5 {l:List UInt8} (g:l.all litC=true) {t:Tok} (hl:LexA l [openT 0,t]) (m:Int) (hw1:isOne word1 t=false) (hw2:isOne word2 t=false) (hw:isOne word3 t=true) (h0:isKind 3 t=false) (h1:isOne [sFun] t=false) (h2:isOne [sLet,sMatch,sTry,sIf,sRaise] t=false) (h3:isOne [sMinus,sNot] t=false) (hk:∀ L,node 19 t L=.mk ⟨19,0,[],m,[],[]⟩ L [])
 (h:formV (l++65::([32]++66::([32]++67::[41]))) ⟨nm,0,st,ls,args.map showE,arms.map fun q=>armV (showP q.1) (showE q.2)⟩=some s):∃ W,LexS s W∧Op W (mkX 19 pos nm m st ls args arms).er:=by
 obtain⟨rfl,_,rfl,rfl,rfl,x,y,z,a,b,c,A,B,C,rfl,k1,k2,k3,k4,k5,k6,rfl⟩:=qb hA g (by decide) (by decide) (by decide) h
 refine⟨_,(hl.app (k1.lit lexA_blank (k3.lit lexA_blank (k5.sh) (by decide)) (by decide))).s,?_⟩
 rw[yX]
 have:=zbq (t:=t) (L:=[(A,x.er),(B,y.er),(C,z.er)]) (fun q hq=>by
  rcases List.mem_cons.1 hq with rfl | hq
  · exact k2
  rcases List.mem_cons.1 hq with rfl | hq
  · exact k4
  · obtain rfl:=List.mem_singleton.1 hq;exact k6) (.inr (.inr ⟨hw1,hw2,hw,rfl⟩)) h0 h1 h2 h3
 rw[hk] at this
 simpa [Hd.er] using this
theorem told_un {l:List UInt8} (g:l.all litC=true) {t:Tok} (hl:LexA l [openT 0,t]) (m:Int) (ht:isOne [sMinus,sNot] t=true) (h1:isOne [sFun] t=false) (h2:isOne [sLet,sMatch,sTry,sIf,sRaise] t=false) (hk:∀ L,nodeN 19 t [] (if t.1.text=sMinus then 6 else opOf t.1.text) L=.mk ⟨19,0,[],m,[],[]⟩ L [])
 (h:formV (l++65::[41]) ⟨nm,0,st,ls,args.map showE,arms.map fun q=>armV (showP q.1) (showE q.2)⟩=some s):∃ W,LexS s W∧Op W (mkX 19 pos nm m st ls args arms).er:=by
 obtain⟨rfl,_,rfl,rfl,rfl,x,a,A,rfl,k1,k2,rfl⟩:=wM hA g (by decide) h
 refine⟨_,(hl.app (k1.sh)).s,?_⟩
 rw[yX]
 have:=op_un ht h1 h2 k2
 rw[hk] at this
 simpa [Hd.er] using this
theorem told_op (h:putV (pickV n opForms) ⟨nm,0,st,ls,args.map showE,arms.map fun q=>armV (showP q.1) (showE q.2)⟩=some s):∃ W,LexS s W∧Op W (mkX 19 pos nm n st ls args arms).er:=by
 obtain⟨hne,h⟩:=xZ h
 obtain⟨h0,h1⟩:=uv hne
 have h1:n<22:=h1
 have hn:n=0∨n=1∨n=2∨n=3∨n=4∨n=5∨n=6∨n=7∨n=8∨n=9∨n=10∨n=11∨n=12∨n=13∨n=14∨n=15∨n=16∨n=17∨n=18∨n=19∨n=20∨n=21:=by omega
 rcases hn with rfl | rfl | rfl | rfl | rfl | rfl | rfl | rfl | rfl | rfl | rfl | rfl | rfl | rfl | rfl | rfl | rfl | rfl | rfl | rfl | rfl | rfl
 · exact absurd rfl hne
 · exact yO (i:=6) hA (by decide) (by decide) (by decide) lb_6 19 1 (fun _ _=>rfl) h
 · exact yO (i:=7) hA (by decide) (by decide) (by decide) lb_7 19 2 (fun _ _=>rfl) h
 · exact yO (i:=8) hA (by decide) (by decide) (by decide) lb_8 19 3 (fun _ _=>rfl) h
 · exact yO (i:=9) hA (by decide) (by decide) (by decide) lb_9 19 4 (fun _ _=>rfl) h
 · exact yO (i:=10) hA (by decide) (by decide) (by decide) lb_10 19 5 (fun _ _=>rfl) h
 · exact told_un hA (l:=[40,45,32]) (by decide) lu_minus 6 rfl rfl rfl (fun _=>rfl) h
 · exact yO (i:=4) hA (by decide) (by decide) (by decide) lb_4 19 7 (fun _ _=>rfl) h
 · exact yO (i:=5) hA (by decide) (by decide) (by decide) lb_5 19 8 (fun _ _=>rfl) h
 · exact told_un hA (l:=[40,110,111,116,32]) (by decide) lu_not 9 rfl rfl rfl (fun _=>rfl) h
 · exact wj hA (l:=[40,114,101,102,32]) (by decide) lu_ref 10 rfl rfl rfl rfl rfl (fun _=>rfl) h
 · obtain⟨rfl,_,rfl,rfl,rfl,x,a,A,rfl,k1,k2,rfl⟩:=wM (l0:=[40,33,32]) hA (by decide) (by decide) h
   refine⟨_,(lu_bang.app (k1.sh)).s,?_⟩
   rw[yX]
   have:=op_bang k2
   rw[show node 19 (sT sBang) [x.er]=.mk ⟨19,0,[],11,[],[]⟩ [x.er] [] from rfl] at this
   simpa [Hd.er] using this
 · exact yO (i:=1) hA (by decide) (by decide) (by decide) lb_1 19 12 (fun _ _=>rfl) h
 · exact vj hA (l:=[40,97,114,114,97,121,32]) (by decide) lu_array 13 rfl rfl rfl rfl rfl rfl (fun _=>rfl) h
 · exact vj hA (l:=[40,103,101,116,32]) (by decide) lu_get 14 rfl rfl rfl rfl rfl rfl (fun _=>rfl) h
 · exact zd5 hA (l:=[40,115,101,116,32]) (by decide) lu_set 15 rfl rfl rfl rfl rfl rfl rfl (fun _=>rfl) h
 · exact wj hA (l:=[40,108,101,110,32]) (by decide) lu_len 16 rfl rfl rfl rfl rfl (fun _=>rfl) h
 · exact wj hA (l:=[40,115,105,122,101,32]) (by decide) lu_size 17 rfl rfl rfl rfl rfl (fun _=>rfl) h
 · exact vj hA (l:=[40,98,121,116,101,32]) (by decide) lu_byte 18 rfl rfl rfl rfl rfl rfl (fun _=>rfl) h
 · exact vj hA (l:=[40,99,97,116,32]) (by decide) lu_cat 19 rfl rfl rfl rfl rfl rfl (fun _=>rfl) h
 · exact wj hA (l:=[40,103,101,116,99,32]) (by decide) lu_getc 20 rfl rfl rfl rfl rfl (fun _=>rfl) h
 · exact wj hA (l:=[40,112,117,116,99,32]) (by decide) lu_putc 21 rfl rfl rfl rfl rfl (fun _=>rfl) h
end
theorem leaf_1 (n:List UInt8):isLeaf (nT n)=true:=by unfold isLeaf;rw[show isKind 1 (nT n)=true from rfl];rfl
theorem tV {k:Int} (hk:k=2∨k=4∨k=5) (n:List UInt8) (i:Int):isLeaf ((⟨k,n,i⟩,0):Tok)=true:=by
 unfold isLeaf isKind
 rcases hk with rfl | rfl | rfl <;> simp
theorem zaM:LexS sTrue [wT sTrue]:=yl (t:=⟨6,sTrue,0⟩) ⟨by kernel_rfl,_,_,rfl,by decide⟩
theorem rv:LexS sFalse [wT sFalse]:=yl (t:=⟨6,sFalse,0⟩) ⟨by kernel_rfl,_,_,rfl,by decide⟩
theorem za0:LexS [40,41] [openT 0,shutT 0]:=((lx_open.app (wB (c:=41) (by decide))).s:LexS ([40]++[41]) _)
theorem zb8 (l:List UInt8):l.length+2≤(qall l).length:=by
 have:=uq l
 unfold qall
 simp;omega
theorem told_expr {args:List Nd} {arms:List (Nd×Nd)} {nm st s:List UInt8} {k n pos:Int} {ls:List (List UInt8)} (hA:∀ y∈args,TolE y) (hM:∀ q∈arms,TolP q.1∧TolE q.2) (hF:∀ y∈args,TolF y) (hst:st.length≤4096)
 (h:exprV ⟨k,pos,nm,n,st,ls⟩ (args.map showE) (arms.map fun q=>armV (showP q.1) (showE q.2)) (showF args)=some s):∃ W,LexS s W∧Op W (mkX k pos nm n st ls args arms).er:=by
 unfold exprV at h
 by_cases h19:k=19
 · subst h19
   rw[if_pos rfl] at h
   exact told_op hA h
 rw[if_neg h19] at h
 obtain⟨hne,h⟩:=xZ h
 obtain⟨h0,h1⟩:=uv hne
 have h0:0≤k:=h0
 have h1:k<23:=h1
 have hk:k=0∨k=1∨k=2∨k=3∨k=4∨k=5∨k=6∨k=7∨k=8∨k=9∨k=10∨k=11∨k=12∨k=13∨k=14∨k=15∨k=16∨k=17∨k=18∨k=19∨k=20∨k=21∨k=22:=by omega
 rcases hk with rfl | rfl | rfl | rfl | rfl | rfl | rfl | rfl | rfl | rfl | rfl | rfl | rfl | rfl | rfl | rfl | rfl | rfl | rfl | rfl | rfl | rfl | rfl
 · exact absurd rfl hne
 · obtain⟨hn,r,h2,rfl⟩:=r9 (f:=[]) h
   obtain⟨rfl,h3⟩:=zX h2
   simp only[Sn.mk.injEq] at h3
   obtain⟨_,rfl,rfl,rfl,h4,h5⟩:=h3
   obtain rfl:args=[]:=by simpa using h4
   obtain rfl:arms=[]:=by simpa using h5
   exact⟨_,by rw[List.append_nil];exact yZ hn,uc (leaf_1 nm)⟩
 · obtain⟨hn,r,h2,rfl⟩:=inv_N (f:=[]) h
   obtain⟨rfl,h3⟩:=zX h2
   simp only[Sn.mk.injEq] at h3
   obtain⟨rfl,_,rfl,rfl,h4,h5⟩:=h3
   obtain rfl:args=[]:=by simpa using h4
   obtain rfl:arms=[]:=by simpa using h5
   exact⟨_,by rw[List.append_nil];exact yl (tr hn.1 hn.2),uc (tV (.inr (.inl rfl)) [] n)⟩
 · obtain⟨r,h2,rfl⟩:=inv_S (f:=[]) h
   obtain⟨rfl,h3⟩:=zX h2
   simp only[Sn.mk.injEq] at h3
   obtain⟨rfl,rfl,_,rfl,h4,h5⟩:=h3
   obtain rfl:args=[]:=by simpa using h4
   obtain rfl:arms=[]:=by simpa using h5
   rw[List.take_of_length_le hst]
   exact⟨_,by rw[List.append_nil];exact yl (zai st),uc (tV (.inr (.inr rfl)) st 0)⟩
 · obtain⟨hn,r,h2,rfl⟩:=inv_T (f:=[]) h
   obtain⟨rfl,h3⟩:=zX h2
   simp only[Sn.mk.injEq] at h3
   obtain⟨rfl,_,rfl,rfl,h4,h5⟩:=h3
   obtain rfl:args=[]:=by simpa using h4
   obtain rfl:arms=[]:=by simpa using h5
   rw[List.append_nil]
   rcases hn with rfl | rfl
   · exact⟨_,rv,uc (t:=wT sFalse) rfl⟩
   · exact⟨_,zaM,uc (t:=wT sTrue) rfl⟩
 · obtain⟨rfl,h3⟩:=yr (l:=[40,41]) (by decide) h
   simp only[Sn.mk.injEq] at h3
   obtain⟨rfl,rfl,rfl,rfl,h4,h5⟩:=h3
   obtain rfl:args=[]:=by simpa using h4
   obtain rfl:arms=[]:=by simpa using h5
   exact⟨_,za0,zbD⟩
 · obtain⟨hn,r,h2,rfl⟩:=inv_X (f:=[]) h
   obtain⟨rfl,h3⟩:=zX h2
   simp only[Sn.mk.injEq] at h3
   obtain⟨_,rfl,rfl,rfl,h4,h5⟩:=h3
   obtain rfl:args=[]:=by simpa using h4
   obtain rfl:arms=[]:=by simpa using h5
   exact⟨_,by rw[List.append_nil];exact yl (zeJ hn),uc (tV (.inl rfl) nm 0)⟩
 · obtain⟨hn,rfl,rfl,rfl,rfl,x,a,A,rfl,k1,k2,rfl⟩:=zam (l0:=[40,102,117,110,32]) (l1:=[32,45,62,32]) (l2:=[41]) hA (by decide) (by decide) (by decide) h
   refine⟨_,(lx_fun1.app ((yZ hn).lit lx_arrow (k1.sh) (by decide))).s,?_⟩
   rw[yX]
   simpa [Hd.er,named,nodeN] using op_fn (fnW nm k2)
 · obtain⟨rfl,rfl,rfl,rfl,rfl,x,y,a,b,A,B,rfl,k1,k2,k3,k4,rfl⟩:=we (l0:=[40]) (l1:=[32]) (l2:=[41]) hA (by decide) (by decide) (by decide) h
   refine⟨_,(lx_open.app (k1.lit lexA_blank (k3.sh) (by decide))).s,?_⟩
   rw[yX]
   simpa [Hd.er] using op_app k2 k4 (by rw[Nd.er_hd];rfl)
 · obtain⟨hn,rfl,rfl,rfl,rfl,x,y,a,b,A,B,rfl,k1,k2,k3,k4,rfl⟩:=form_nam2 (l0:=[40,108,101,116,32]) (l1:=[32,61,32]) (l2:=[32,105,110,32]) (l3:=[41]) hA (by decide) (by decide) (by decide) (by decide) h
   refine⟨_,(lx_let.app ((yZ hn).lit lx_eq (k1.lit lx_in (k3.sh) (by decide)) (by decide))).s,?_⟩
   rw[yX]
   simpa [Hd.er,named,nodeN] using op_let nm k2 k4
 · have h:formV ([40,108,101,116,32,114,101,99,32]++120::([32,61,32]++65::([32,105,110,32]++66::[41]))) ⟨nm,n,st,ls,(match args.map showE with | []=>[] | _::l=>showF args::l),arms.map fun q=>armV (showP q.1) (showE q.2)⟩=some s:=h
   obtain⟨r1,h2,rfl⟩:=zy (by decide) h
   obtain⟨hn,r2,h3,rfl⟩:=r9 h2
   obtain⟨r3,h4,rfl⟩:=zy (by decide) h3
   obtain⟨a,l,h5,r4,h6,rfl⟩:=wq (.inl rfl) h4
   obtain⟨r5,h7,rfl⟩:=zy (by decide) h6
   obtain⟨b,l',h8,r6,h9,rfl⟩:=wq (.inr (.inl rfl)) h7
   obtain⟨rfl,h10⟩:=yr (by decide) h9
   simp only[Sn.mk.injEq] at h10
   obtain⟨_,rfl,rfl,rfl,rfl,h11⟩:=h10
   obtain rfl:arms=[]:=by simpa using h11
   cases args with
   | nil=>cases h5
   | cons x m =>
    rw[List.map_cons] at h5
    have h5:showF (x::m)::m.map showE=some a::l:=h5
    obtain⟨g1,g2⟩:=List.cons.inj h5
    obtain⟨y,m',rfl,hy,hm'⟩:=xg (g2.trans h8)
    obtain rfl:m'=[]:=by simpa using hm'
    have g1:showF [x]=some a:=by
     cases x
     exact g1
    obtain⟨A,k1,k2⟩:=hF x (by simp) a g1
    obtain⟨B,k3,k4⟩:=hA y (by simp) b hy
    refine⟨_,(lx_rec.app ((yZ hn).lit lx_eq (k1.lit lx_in (k3.sh) (by decide)) (by decide))).s,?_⟩
    rw[yX]
    simpa [Hd.er,named,nodeN] using op_rec nm k2 k4
 · obtain⟨rfl,rfl,rfl,rfl,rfl,x,y,z,a,b,c,A,B,C,rfl,k1,k2,k3,k4,k5,k6,rfl⟩:=qb (l0:=[40,105,102,32]) (l1:=[32,116,104,101,110,32]) (l2:=[32,101,108,115,101,32]) (l3:=[41]) hA (by decide) (by decide) (by decide) (by decide) h
   refine⟨_,(lx_if.app (k1.lit lx_then (k3.lit lx_else (k5.sh) (by decide)) (by decide))).s,?_⟩
   rw[yX]
   simpa [Hd.er,node,nodeN] using op_if k2 k4 k6
 · obtain⟨r1,h2,rfl⟩:=zy (l:=[123]) (f:=[76,125]) (by decide) h
   obtain⟨t,l,h3,r2,h4,rfl⟩:=inv_L h2
   obtain⟨rfl,h5⟩:=yr (l:=[125]) (by decide) h4
   simp only[Sn.mk.injEq] at h5
   obtain⟨rfl,rfl,rfl,_,rfl,h6⟩:=h5
   obtain rfl:arms=[]:=by simpa using h6
   obtain⟨L,g1,g2,g3,g4⟩:=vA (K:=Op) ls args false t hA h3
   refine⟨_,(lx_curl.app (g4.un)).s,?_⟩
   rw[yX]
   have:=op_record L g3
   rw[g1,g2] at this
   simpa [Hd.er] using this
 · obtain⟨r1,h2,rfl⟩:=zy (by decide) (show formV ([123]++65::([32,119,105,116,104,32]++120::([32,61,32]++66::[125]))) ⟨nm,n,st,ls,args.map showE,arms.map fun q=>armV (showP q.1) (showE q.2)⟩=some s from h)
   obtain⟨a,l,h3,r2,h4,rfl⟩:=wq (.inl rfl) h2
   obtain⟨r3,h5,rfl⟩:=zy (by decide) h4
   obtain⟨hn,r4,h6,rfl⟩:=r9 h5
   obtain⟨r5,h7,rfl⟩:=zy (by decide) h6
   obtain⟨b,l',h8,r6,h9,rfl⟩:=wq (.inr (.inl rfl)) h7
   obtain⟨rfl,h10⟩:=yr (by decide) h9
   simp only[Sn.mk.injEq] at h10
   obtain⟨_,rfl,rfl,rfl,rfl,h11⟩:=h10
   obtain rfl:arms=[]:=by simpa using h11
   obtain⟨x,m,rfl,hx,hm⟩:=xg h3
   obtain⟨y,m',rfl,hy,hm'⟩:=xg (hm.trans h8)
   obtain rfl:m'=[]:=by simpa using hm'
   obtain⟨A,k1,k2⟩:=hA x (by simp) a hx
   obtain⟨B,k3,k4⟩:=hA y (by simp) b hy
   refine⟨_,(lx_curl.app (k1.lit zbk ((yZ hn).lit lx_eq (k3.un) (by decide)) (by decide))).s,?_⟩
   rw[yX]
   simpa [Hd.er,named,nodeN] using op_with nm k2 k4
 · obtain⟨a,l,h3,r2,h4,rfl⟩:=wq (.inl rfl) h
   obtain⟨r3,h5,rfl⟩:=zy (l:=[46]) (f:=[120]) (by decide) h4
   obtain⟨hn,r4,h6,rfl⟩:=r9 h5
   obtain⟨rfl,h10⟩:=zX h6
   simp only[Sn.mk.injEq] at h10
   obtain⟨_,rfl,rfl,rfl,rfl,h11⟩:=h10
   obtain rfl:arms=[]:=by simpa using h11
   obtain⟨x,m,rfl,hx,hm⟩:=xg h3
   obtain rfl:m=[]:=by simpa using hm
   obtain⟨A,k1,k2⟩:=hA x (by simp) a hx
   refine⟨A++([sT sDot]++[nT nm]),k1.then ((wB (c:=46) (by decide)).then (by rw[List.append_nil];exact yZ hn)) (xp (by decide) _),?_⟩
   rw[yX]
   simpa [Hd.er,named,nodeN] using op_dot k2 nm
 · obtain⟨r1,h2,rfl⟩:=zy (by decide) (show formV ([40,35]++88::([32]++65::[41])) ⟨nm,n,st,ls,args.map showE,arms.map fun q=>armV (showP q.1) (showE q.2)⟩=some s from h)
   obtain⟨hn,r2,h3,rfl⟩:=inv_X h2
   obtain⟨_,rfl,rfl,rfl,rfl,x,a,A,rfl,k1,k2,rfl⟩:=wM hA (by decide) (by decide) h3
   refine⟨_,(show LexS ([40]++((35::nm)++([32]++(a++[41])))) _ from(lx_open.app ((yl (zcX hn)).lit lexA_blank (k1.sh) (by decide))).s),?_⟩
   rw[yX]
   simpa [Hd.er,named,nodeN] using op_tag k2 nm
 · obtain⟨r1,h2,rfl⟩:=zy (by decide) (show formV ([40,109,97,116,99,104,32]++65::([32,119,105,116,104,32]++77::[32,101,110,100,41])) ⟨nm,n,st,ls,args.map showE,arms.map fun q=>armV (showP q.1) (showE q.2)⟩=some s from h)
   obtain⟨a,l,h3,r2,h4,rfl⟩:=wq (.inl rfl) h2
   obtain⟨r3,h5,rfl⟩:=zy (by decide) h4
   obtain⟨hne',t,h6,r4,h7,rfl⟩:=inv_M h5
   obtain⟨rfl,h10⟩:=yr (by decide) h7
   simp only[Sn.mk.injEq] at h10
   obtain⟨rfl,rfl,rfl,rfl,rfl,_⟩:=h10
   obtain⟨x,m,rfl,hx,hm⟩:=xg h3
   obtain rfl:m=[]:=by simpa using hm
   obtain⟨A,k1,k2⟩:=hA x (by simp) a hx
   obtain⟨L,g1,g2,g3⟩:=tO arms false t hM h6
   cases L with
   | nil =>
    have:arms=[]:=by simpa using g1
    subst this
    exact absurd rfl hne'
   | cons c L =>
    refine⟨_,(lx_match.app (k1.lit zbk (g3.app (c:=32) lx_end (by decide)) (by decide))).s,?_⟩
    rw[yX,← g1]
    simpa [Hd.er] using op_match k2 c L g2
 · obtain⟨r1,h2,rfl⟩:=zy (by decide) (show formV ([40,116,114,121,32]++65::([32,119,105,116,104,32]++77::[32,101,110,100,41])) ⟨nm,n,st,ls,args.map showE,arms.map fun q=>armV (showP q.1) (showE q.2)⟩=some s from h)
   obtain⟨a,l,h3,r2,h4,rfl⟩:=wq (.inl rfl) h2
   obtain⟨r3,h5,rfl⟩:=zy (by decide) h4
   obtain⟨hne',t,h6,r4,h7,rfl⟩:=inv_M h5
   obtain⟨rfl,h10⟩:=yr (by decide) h7
   simp only[Sn.mk.injEq] at h10
   obtain⟨rfl,rfl,rfl,rfl,rfl,_⟩:=h10
   obtain⟨x,m,rfl,hx,hm⟩:=xg h3
   obtain rfl:m=[]:=by simpa using hm
   obtain⟨A,k1,k2⟩:=hA x (by simp) a hx
   obtain⟨L,g1,g2,g3⟩:=tO arms false t hM h6
   cases L with
   | nil =>
    have:arms=[]:=by simpa using g1
    subst this
    exact absurd rfl hne'
   | cons c L =>
    refine⟨_,(lx_try.app (k1.lit zbk (g3.app (c:=32) lx_end (by decide)) (by decide))).s,?_⟩
    rw[yX,← g1]
    simpa [Hd.er] using op_try k2 c L g2
 · obtain⟨rfl,rfl,rfl,rfl,rfl,x,a,A,rfl,k1,k2,rfl⟩:=wM (l0:=[40,114,97,105,115,101,32]) (l1:=[41]) hA (by decide) (by decide) h
   refine⟨_,(lx_raise.app (k1.sh)).s,?_⟩
   rw[yX]
   simpa [Hd.er,node,nodeN] using op_raise k2
 · exact absurd rfl hne
 · have hz:n=0:=by
    obtain⟨_,hz,_⟩:=we (l0:=[40]) (l1:=[59,32]) (l2:=[41]) hA (by decide) (by decide) (by decide) h
    exact hz
   subst hz
   exact yO (i:=0) hA (by decide) (by decide) (by decide) lx_semi 20 0 (fun _ _=>rfl) h
 · have hz:n=0:=by
    obtain⟨_,hz,_⟩:=we (l0:=[40]) (l1:=[32,38,38,32]) (l2:=[41]) hA (by decide) (by decide) (by decide) h
    exact hz
   subst hz
   exact yO (i:=3) hA (by decide) (by decide) (by decide) lb_3 21 0 (fun _ _=>rfl) h
 · have hz:n=0:=by
    obtain⟨_,hz,_⟩:=we (l0:=[40]) (l1:=[32,124,124,32]) (l2:=[41]) hA (by decide) (by decide) (by decide) h
    exact hz
   subst hz
   exact yO (i:=2) hA (by decide) (by decide) (by decide) lb_2 22 0 (fun _ _=>rfl) h
theorem told_fn {args:List Nd} {arms:List (Nd×Nd)} {nm st s:List UInt8} {k n pos:Int} {ls:List (List UInt8)} (hA:∀ y∈args,TolE y)
 (h:funV ⟨k,pos,nm,n,st,ls⟩ (args.map showE) (arms.map fun q=>armV (showP q.1) (showE q.2))=some s):∃ W,LexS s W∧FnW W (mkX k pos nm n st ls args arms).er:=by
 unfold funV at h
 split at h
 · rename_i h7
   have h7:k=7:=h7
   subst h7
   obtain⟨hne,h⟩:=xZ h
   obtain⟨hn,rfl,rfl,rfl,rfl,x,a,A,rfl,k1,k2,rfl⟩:=zam (l0:=[102,117,110,32]) (l1:=[32,45,62,32]) (l2:=[]) hA (by decide) (by decide) (by decide) h
   refine⟨_,lx_fun.then ((yZ hn).then (lx_arrow.then (by rw[List.append_nil];exact k1)) (xp (by decide) _)),?_⟩
   rw[yX]
   simpa [Hd.er,named,nodeN] using fnW nm k2
 · cases h
theorem lex_minus {n:Int} (h0:0≤n) (h1:n<4611686018427387904):LexS ([45]++Lib.itoa n) ([sT sMinus]++[(⟨4,[],n⟩,0)]):=fun m M hm hM p=>by
 obtain⟨U,hU,e⟩:=yl (tr h0 h1) m M hm hM (p+1)
 obtain⟨c,r,hc,hb⟩:=(tr h0 h1).head
 have hx:tokText ⟨4,[],n⟩=Lib.itoa n:=rfl
 have hd:c≠62:=fun e=>by
  have h4:=zbA (n.toNat+1) n.toNat (by omega)
  have h3:Lib.itoa n=Lib.decDigits n.toNat:=by unfold Lib.itoa;rw[if_neg (by omega)]
  rw[← h3,← hx,hc,List.all_cons,e] at h4
  simp [isDig] at h4
 rw[hx] at hU hc
 refine⟨[(⟨7,sMinus,0⟩,p)]++U,?_,by rw[List.map_append,e];rfl⟩
 have h2:oneV (45::(Lib.itoa n++m))=.tok ⟨7,sMinus,0⟩ 1:=by
  rw[zC,if_neg (by decide),if_neg (by decide),if_neg (by decide),if_neg (by decide),if_neg (by decide),hc]
  unfold signTok signL
  have hb62:((62:UInt8) == c)=false:=beq_eq_false_iff_ne.2 (Ne.symm hd)
  simp [List.isPrefixOf,List.find?,hb62,sMinus]
 rw[List.append_assoc,List.singleton_append,zY (by decide) _ h2]
 show(lexGo (p+1) 0 (Lib.itoa n++m)).add _=_
 rw[hU];rfl
theorem told_pat {args:List Nd} {nm st s:List UInt8} {k n pos:Int} {ls:List (List UInt8)} (hA:∀ y∈args,TolP y) (hst:st.length≤4096)
 (h:patV ⟨k,pos,nm,n,st,ls⟩ (args.map showP)=some s):∃ W,LexS s W∧PatW W (mkX k pos nm n st ls args []).er:=by
 unfold patV at h
 split at h
 · cases h
 rename_i h2u
 split at h
 · rename_i h3
   obtain⟨h3,hneg⟩:=h3
   have h3:k=3:=h3
   have hneg:n<0:=hneg
   subst h3
   obtain⟨_,h⟩:=xZ h
   obtain⟨r1,h4,rfl⟩:=zy (l:=[45]) (f:=[78]) (by decide) h
   obtain⟨hn,r2,h5,rfl⟩:=inv_N h4
   obtain⟨rfl,h6⟩:=zX h5
   simp only[Sn.mk.injEq] at h6
   obtain⟨rfl,_,rfl,rfl,h7,_⟩:=h6
   obtain rfl:args=[]:=by simpa using h7
   have hne:¬n=-9223372036854775808:=fun e=>by
    subst e
    have h9:=hn.1
    rw[if_pos rfl] at h9
    exact absurd (show(0:Int)≤-9223372036854775808 from h9) (by decide)
   have e:(if (⟨3,pos,[],n,[],[]⟩:Hd).n=-9223372036854775808 then(⟨3,pos,[],n,[],[]⟩:Hd).n else -(⟨3,pos,[],n,[],[]⟩:Hd).n)=-n:=if_neg hne
   rw[e] at hn ⊢
   refine⟨[sT sMinus]++[(⟨4,[],-n⟩,0)],?_,?_⟩
   · rw[List.append_nil]
     exact lex_minus hn.1 hn.2
   · have:=pat_minus (-n)
     rw[Int.neg_neg] at this
     rw[yX]
     simpa [Hd.er,nodeN] using this
 rename_i hn3
 obtain⟨hne,h⟩:=xZ h
 obtain⟨h0,h1⟩:=uv hne
 have h0:0≤k:=h0
 have h1:k<10:=h1
 have hk:k=0∨k=1∨k=2∨k=3∨k=4∨k=5∨k=6∨k=7∨k=8∨k=9:=by omega
 rcases hk with rfl | rfl | rfl | rfl | rfl | rfl | rfl | rfl | rfl | rfl
 · exact absurd rfl hne
 · obtain⟨rfl,h3⟩:=yr (l:=[95]) (by decide) h
   simp only[Sn.mk.injEq] at h3
   obtain⟨rfl,rfl,rfl,rfl,h4,_⟩:=h3
   obtain rfl:args=[]:=by simpa using h4
   exact⟨[nT [95]],yZ (by decide),wi (t:=nT [95]) rfl⟩
 · obtain⟨hn,r,h2,rfl⟩:=r9 (f:=[]) h
   obtain⟨rfl,h3⟩:=zX h2
   simp only[Sn.mk.injEq] at h3
   obtain⟨_,rfl,rfl,rfl,h4,_⟩:=h3
   obtain rfl:args=[]:=by simpa using h4
   have hnu:nm≠[95]:=fun e=>h2u ⟨rfl,e⟩
   refine⟨_,by rw[List.append_nil];exact yZ hn,?_⟩
   have:=wi (leaf_1 nm)
   rw[show leafP (nT nm)=.mk ⟨2,0,nm,0,[],[]⟩ [] [] from by unfold leafP;rw[if_pos rfl,if_neg hnu];rfl] at this
   exact this
 · obtain⟨hn,r,h2,rfl⟩:=inv_N (f:=[]) h
   obtain⟨rfl,h3⟩:=zX h2
   simp only[Sn.mk.injEq] at h3
   obtain⟨rfl,_,rfl,rfl,h4,_⟩:=h3
   obtain rfl:args=[]:=by simpa using h4
   exact⟨_,by rw[List.append_nil];exact yl (tr hn.1 hn.2),wi (tV (.inr (.inl rfl)) [] n)⟩
 · obtain⟨r,h2,rfl⟩:=inv_S (f:=[]) h
   obtain⟨rfl,h3⟩:=zX h2
   simp only[Sn.mk.injEq] at h3
   obtain⟨rfl,rfl,_,rfl,h4,_⟩:=h3
   obtain rfl:args=[]:=by simpa using h4
   rw[List.take_of_length_le (show st.length≤4096 from hst)]
   exact⟨_,by rw[List.append_nil];exact yl (zai st),wi (tV (.inr (.inr rfl)) st 0)⟩
 · obtain⟨hn,r,h2,rfl⟩:=inv_T (f:=[]) h
   obtain⟨rfl,h3⟩:=zX h2
   simp only[Sn.mk.injEq] at h3
   obtain⟨rfl,_,rfl,rfl,h4,_⟩:=h3
   obtain rfl:args=[]:=by simpa using h4
   rw[List.append_nil]
   rcases hn with rfl | rfl
   · exact⟨_,rv,wi (t:=wT sFalse) rfl⟩
   · exact⟨_,zaM,wi (t:=wT sTrue) rfl⟩
 · obtain⟨rfl,h3⟩:=yr (l:=[40,41]) (by decide) h
   simp only[Sn.mk.injEq] at h3
   obtain⟨rfl,rfl,rfl,rfl,h4,_⟩:=h3
   obtain rfl:args=[]:=by simpa using h4
   exact⟨_,za0,pat_unit⟩
 · obtain⟨hn,r,h2,rfl⟩:=inv_X (f:=[]) h
   obtain⟨rfl,h3⟩:=zX h2
   simp only[Sn.mk.injEq] at h3
   obtain⟨_,rfl,rfl,rfl,h4,_⟩:=h3
   obtain rfl:args=[]:=by simpa using h4
   exact⟨_,by rw[List.append_nil];exact yl (zeJ hn),wi (tV (.inl rfl) nm 0)⟩
 · obtain⟨r1,h2,rfl⟩:=zy (by decide) (show formV ([40,35]++88::([32]++65::[41])) ⟨nm,n,st,ls,args.map showP,[]⟩=some s from h)
   obtain⟨hn,r2,h3,rfl⟩:=inv_X h2
   obtain⟨r3,h4,rfl⟩:=zy (by decide) h3
   obtain⟨a,l,h5,r4,h6,rfl⟩:=wq (.inl rfl) h4
   obtain⟨rfl,h7⟩:=yr (by decide) h6
   simp only[Sn.mk.injEq] at h7
   obtain⟨_,rfl,rfl,rfl,rfl,_⟩:=h7
   obtain⟨x,m,rfl,hx,hm⟩:=ps_cons h5
   obtain rfl:m=[]:=by simpa using hm
   obtain⟨A,k1,k2⟩:=hA x (by simp) a hx
   refine⟨_,(show LexS ([40]++((35::nm)++([32]++(a++[41])))) _ from(lx_open.app ((yl (zcX hn)).lit lexA_blank (k1.sh) (by decide))).s),?_⟩
   rw[yX]
   simpa [Hd.er,nodeN] using patw_tag k2 nm
 · obtain⟨r1,h2,rfl⟩:=zy (l:=[123]) (f:=[76,125]) (by decide) h
   obtain⟨t,l,h3,r2,h4,rfl⟩:=inv_L h2
   obtain⟨rfl,h5⟩:=yr (l:=[125]) (by decide) h4
   simp only[Sn.mk.injEq] at h5
   obtain⟨rfl,rfl,rfl,_,rfl,_⟩:=h5
   obtain⟨L,g1,g2,g3,g4⟩:=vA (K:=PatW) ls args false t hA h3
   refine⟨_,(lx_curl.app (g4.un)).s,?_⟩
   rw[yX]
   have:=zdl L g3
   rw[g1,g2] at this
   simpa [Hd.er] using this
mutual
def Nd.okE:Nd→Prop
 | .mk h l a=>h.s.length≤4096∧okEs l∧okAs a
def okEs:List Nd→Prop
 | []=>True
 | x::r=>x.okE∧okEs r
def okAs:List (Nd×Nd)→Prop
 | []=>True
 | (p,b)::r=>p.okP∧b.okE∧okAs r
def Nd.okP:Nd→Prop
 | .mk h l a=>h.s.length≤4096∧a=[]∧okPs l
def okPs:List Nd→Prop
 | []=>True
 | x::r=>x.okP∧okPs r
end
theorem sU:∀{l:List Nd},okEs l→∀ x∈l,x.okE
 | y::r,h,x,hx=>(List.mem_cons.1 hx).elim (fun e=>e▸h.1) (fun hx=>sU h.2 x hx)
theorem zda:∀{l:List Nd},okPs l→∀ x∈l,x.okP
 | y::r,h,x,hx=>(List.mem_cons.1 hx).elim (fun e=>e▸h.1) (fun hx=>zda h.2 x hx)
theorem rP:∀{l:List (Nd×Nd)},okAs l→∀ q∈l,q.1.okP∧q.2.okE
 | (p,b)::r,h,x,hx=>(List.mem_cons.1 hx).elim (fun e=>e▸⟨h.1,h.2.1⟩) (fun hx=>rP h.2.2 x hx)
theorem zb7:∀ x:Nd,(x.okE→TolE x∧TolF x)∧(x.okP→TolP x):=by
 refine xw fun h l a hl ha=>⟨fun hx=>?_,fun hx=>?_⟩
 · obtain⟨h1,h2,h3⟩:=hx
   have hA:∀ y∈l,TolE y:=fun y hy=>((hl y hy).1 (sU h2 y hy)).1
   have hF:∀ y∈l,TolF y:=fun y hy=>((hl y hy).1 (sU h2 y hy)).2
   have hM:∀ q∈a,TolP q.1∧TolE q.2:=fun q hq=>⟨(ha q hq).1.2 (rP h3 q hq).1,((ha q hq).2.1 (rP h3 q hq).2).1⟩
   refine⟨fun s hs=>?_,fun s hs=>?_⟩
   · have hs:exprV h (showEs l) (showAs a) (showF l)=some s:=hs
     rw[yf,yd] at hs
     exact told_expr hA hM hF h1 hs
   · have hs:funV h (showEs l) (showAs a)=some s:=hs
     rw[yf,yd] at hs
     exact told_fn hA hs
 · obtain⟨h1,rfl,h3⟩:=hx
   have hA:∀ y∈l,TolP y:=fun y hy=>(hl y hy).2 (zda h3 y hy)
   intro s hs
   have hs:patV h (showPs l)=some s:=hs
   rw[xD] at hs
   exact told_pat hA h1 hs
end
