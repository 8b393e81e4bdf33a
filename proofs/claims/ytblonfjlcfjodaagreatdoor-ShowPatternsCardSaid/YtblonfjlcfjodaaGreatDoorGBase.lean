/-
  What the rows' proofs of stage 5 share: the listed variable's co.
-/
import Derived.ProofKit
import Derived.LaidMore
import Derived.OpenShut
import Derived.Stop.Joined
import Derived.Stop.LaidErr
import Derived.SliceStrings
import Derived.SizedLaws
import Derived.Lib.LaidU8
import Derived.Deep.Strs
import Derived.DeepKeys2
import Derived.Test.YtblonfjlcfjodaaGreatDoorGSame
import Derived.Deep.Slices
import Derived.Deep.Fields
import Derived.ChangeSame
import Derived.Carry
namespace Go.Proofs.YtblonfjlcfjodaaGreatDoor
set_option linter.unusedSimpArgs false
set_option linter.unusedVariables false
set_option maxRecDepth 100000
section
open Go.ChangeShapes Go.WideShapes Go.ChangeAt Go.WideMaps Go.WideElems Go.RowKit
theorem own:ownKnob Tryz.prog.godebug=none:=by kernel_rfl
theorem symsGlobal : Tryz.prog.globalNamed "marquetry/lex.symbols" = some 1 := by kernel_rfl
theorem symsType:(Tryz.prog.globals[1]?).map (·.type)=some 23 := by kernel_rfl
theorem cellsStr : Tryz.prog.cellsOf 9 = 1:=by kernel_rfl
theorem symsData:(Rows.laid_marquetry_lex_symbols:DataW Unit)=.slice (signL.map fun l=>.lit (.string l)) []:=by rfl
theorem zbG {W : World} (h1 : Lib.VarReads Tryz.prog W "marquetry/lex.symbols" Rows.laid_marquetry_lex_symbols) : Syms W := by
 obtain⟨g',t',cs,fuel,p,hg,hty,hvar,hd⟩:=h1;obtain rfl:=zc (symsGlobal.symm.trans hg);obtain rfl:=zc (symsType.symm.trans hty);rcases open_strings Tryz.underlying23 Tryz.underlying9 cellsStr hd with⟨_,hx⟩ | ⟨a,len,cap,ss,hcs,_,hlc,_,hsl,hx,hcell,_⟩
 . cases hx
 have e0:=congrArg Prod.fst hx;rw[symsData] at e0;simp only[DataW.slice.injEq] at e0;obtain⟨eE,eR⟩:=e0;have hlen:(ss.take len).length=20:=by
  have:=congrArg List.length eE;simp only[List.length_map] at this;rw[show signL.length=20 from rfl] at this
  unfold strs at this;simp at this ⊢;omega
 have hsl2:ss.length=cap:=by simpa using hsl
 have hl20:len=20:=by rw[List.length_take] at hlen;omega
 subst hl20;have hss:∀ i,i<20->ss.getD i ByteArray.empty=⟨(signL.getD i []).toArray⟩:=fun i hi=>by
  have h9:=congrArg (fun l=>l[i]?) eE;unfold strs at h9;simp only[List.getElem?_map,List.getElem?_take,if_pos hi] at h9;rw[List.getElem?_eq_getElem (show i<signL.length from hi),List.getElem?_eq_getElem (show i<ss.length by omega)] at h9
  simp only[Option.map_some,Option.some.injEq,DataW.lit.injEq,Lit.string.injEq] at h9;rw[List.getD_eq_getElem?_getD,List.getElem?_eq_getElem (show i<ss.length by omega),List.getD_eq_getElem?_getD,List.getElem?_eq_getElem (show i<signL.length from hi)]
  simp only[Option.getD_some];rw[h9]
 have hc0:=hcell 0 (by omega);obtain⟨R,o,sR⟩:=a;obtain rfl:sR=none:=by
  have:(Addr.add ⟨R,o,sR⟩ 0)=⟨R,o,sR⟩:=by simp [Addr.add]
  rw[this] at hc0;exact Go.Proofs.cell_spot hc0
 have hgc:W.cell? ⟨1,0,none⟩=some (.slice (some ⟨R,o,none⟩) 20 cap):=by
  rw[World.var?_cell hg hvar 0,← Array.getElem?_toList,hcs];rfl
 have hb:R<W.heap.size:=by
  rw[Addr.add_lit] at hc0;exact World.block_lt_of_cell? W (a:=⟨R,o+0,none⟩) hc0
 exact⟨World.block_lt_of_cell? W (a:=⟨1,0,none⟩) hgc,R,o,cap,hgc,hb,fun i hi=>by
  have h9:=hcell i (by omega);rw[Addr.add_lit,hss i hi] at h9;exact h9⟩
end
section
open Go.ChangeShapes Go.WideShapes Go.ChangeAt Go.WideMaps Go.WideElems Go.RowKit
def laidP : List (String × DataW Unit) := [("marquetry/lex.symbols", Rows.laid_marquetry_lex_symbols), ("marquetry/parse.levels", Rows.laid_marquetry_parse_levels), ("marquetry/parse.words", Rows.laid_marquetry_parse_words)]
def leafS:DataW Unit->List Value
 | .lit (.string l)=>[.string ⟨l.toArray⟩]
 | _=>[]
def leafI:DataW Unit->List Value
 | .lit (.int k n)=>[.int k n]
 | _=>[]
def arrF (f:DataW Unit->List Value):DataW Unit->List Value
 | .agg l=>l.flatMap f
 | _=>[]
def st3F (f g h:DataW Unit->List Value):DataW Unit->List Value
 | .agg [a,b,c]=>f a++(g b++h c)
 | _=>[]
def Flat (W:World) (t:TypeId) (f:DataW Unit->List Value):Prop:=∀ m cs (x:DataW Unit×List MemPlace),DataW.trod (fun _=>()) Tryz.prog W 0 (fun _=>true) false m t cs=some x->cs=f x.1
theorem rt (W:World):Flat W 9 leafS:=fun m cs x h=>by
 obtain⟨s,rfl,rfl,_⟩:=DataW.trod_string Tryz.underlying9 h;simp [leafS]
theorem qD (W:World):Flat W 3 leafI:=fun m cs x h=>by
 obtain⟨n,rfl,rfl,_⟩:=DataW.trod_int Tryz.underlying3 h;rfl
theorem ti {W:World} {t e:TypeId} {n:Nat} {f:DataW Unit->List Value} (ht : Tryz.prog.underlying t=some (.array n e)) (hc : Tryz.prog.cellsOf t=n * Tryz.prog.cellsOf e) (hf:Flat W e f):Flat W t (arrF f):=fun m cs x h=>by
 obtain⟨xs,m',rfl,rfl,hl,hn,hi⟩:=DataW.trod_array ht h;have h1:=chunks_flatten (Tryz.prog.cellsOf e) n cs (hl.trans hc);rw[← h1];show _=(xs.map (·.1)).flatMap f;have h2:(List.range n).map (fun i=>(cs.drop (i * Tryz.prog.cellsOf e)).take (Tryz.prog.cellsOf e))=xs.map (fun y=>f y.1):=by
  apply List.ext_getElem
  . simp [hn]
  . intro i hi1 hi2;have hin:i<n:=by simpa using hi1
    have h3:=hi i hin;rw[List.getElem?_eq_getElem (by omega)] at h3;have h4:=hf _ _ _ h3
    simpa using h4
 rw[h2,List.flatMap_map];rfl
theorem st3_flat {W:World} {t:TypeId} {f0 f1 f2:Field} {f g h:DataW Unit->List Value} (ht : Tryz.prog.underlying t=some (.struct #[f0,f1,f2])) (h0:f0.offset=0) (h1:f1.offset = Tryz.prog.cellsOf f0.type) (h2:f2.offset = Tryz.prog.cellsOf f0.type + Tryz.prog.cellsOf f1.type) (hc : Tryz.prog.cellsOf t = Tryz.prog.cellsOf f0.type + Tryz.prog.cellsOf f1.type + Tryz.prog.cellsOf f2.type)
 (hf:Flat W f0.type f) (hg:Flat W f1.type g) (hh:Flat W f2.type h):Flat W t (st3F f g h):=fun m cs x hx=>by
 obtain⟨y0,y1,y2,n,rfl,hl,k0,k1,k2⟩:=Go.Deep.trod_struct3 ht hx;have e0:=hf _ _ _ k0;have e1:=hg _ _ _ k1;have e2:=hh _ _ _ k2;rw[h0,List.drop_zero] at e0;rw[h1] at e1;rw[h2] at e2;show cs=f y0.1++(g y1.1++h y2.1);rw[← e0,← e1,← e2];have h3:(cs.drop (Tryz.prog.cellsOf f0.type + Tryz.prog.cellsOf f1.type)).take (Tryz.prog.cellsOf f2.type)=cs.drop (Tryz.prog.cellsOf f0.type + Tryz.prog.cellsOf f1.type):=List.take_of_length_le (by rw[List.length_drop];omega);rw[h3,← List.drop_drop,List.take_append_drop,List.take_append_drop]
theorem wordsGlobal : Tryz.prog.globalNamed "marquetry/parse.words" = some 3 := by kernel_rfl
theorem wordsType:(Tryz.prog.globals[3]?).map (·.type)=some 256 := by kernel_rfl
theorem levelsGlobal : Tryz.prog.globalNamed "marquetry/parse.levels" = some 2 := by kernel_rfl
theorem levelsType:(Tryz.prog.globals[2]?).map (·.type)=some 237 := by kernel_rfl
theorem zdJ (W:World):Flat W 256 (arrF (arrF leafS)) :=
 ti (e := 255) (n:=3) (by kernel_rfl) (by kernel_rfl) (ti (e := 9) (n:=5) (by kernel_rfl) (by kernel_rfl) (rt W))
theorem zdM {u:Option TypeDesc} {a b c:TypeId×Nat} (h:(match u with | some (.struct fs)=>fs.toList.map (fun f=>(f.type,f.offset)) | _=>[])=[a,b,c]):∃ f0 f1 f2:Field,u=some (.struct #[f0,f1,f2])/\f0.type=a.1/\f0.offset=a.2/\f1.type=b.1/\f1.offset=b.2/\f2.type=c.1/\f2.offset=c.2:=by
 split at h
 . rename_i fs;obtain⟨l⟩:=fs;have h3:l.length=3:=by have:=congrArg List.length h;simpa using this
   obtain⟨f0,f1,f2,rfl⟩:∃ f0 f1 f2,l=[f0,f1,f2]:=by
    rcases l with _ | ⟨f0,_ | ⟨f1,_ | ⟨f2,_ | ⟨f3,r⟩⟩⟩⟩
    . cases h3
    . cases h3
    . cases h3
    . exact⟨f0,f1,f2,rfl⟩
    . simp at h3
   simp only[List.map_cons,List.map_nil,List.cons.injEq,and_true] at h;obtain⟨rfl,rfl,rfl⟩:=h;exact⟨f0,f1,f2,rfl,rfl,rfl,rfl,rfl,rfl,rfl⟩
 . cases h
theorem zcH:∃ f0 f1 f2:Field, Tryz.prog.underlying 236 = some (.struct #[f0,f1,f2])/\f0.type = 3/\f0.offset=0/\f1.type = 3/\f1.offset=1/\f2.type = 234/\f2.offset=2 :=
 zdM (u := Tryz.prog.underlying 236) (a:=(3,0)) (b:=(3,1)) (c:=(234,2)) (by kernel_rfl)
theorem zbT (W:World):Flat W 237 (arrF (st3F leafI leafI (arrF leafS))):=by
 obtain⟨f0,f1,f2,hu,t0,o0,t1,o1,t2,o2⟩:=zcH;refine ti (e := 236) (n:=5) (by kernel_rfl) (by kernel_rfl) (st3_flat hu o0 ?_ ?_ ?_ ?_ ?_ ?_)
 . rw[o1,t0];kernel_rfl
 . rw[o2,t0,t1];kernel_rfl
 . rw[t0,t1,t2];kernel_rfl
 . rw[t0];exact qD W
 . rw[t1];exact qD W
 . rw[t2];exact ti (e := 9) (n:=3) (by kernel_rfl) (by kernel_rfl) (rt W)
theorem qU {W:World} (h:laidMetH Tryz.prog laidP W):Ready W:=by
 rw[MakeChecks.laidMetH_plain _ _ _ (by kernel_rfl)] at h;have hw:∀(i:Nat) (v:Value),wordCells[i]? = some v->W.cell? ⟨3,i,none⟩=some v:=by
  have h1 := Lib.laidMet.reads h (n := "marquetry/parse.words") (d := Rows.laid_marquetry_parse_words) (by simp [laidP])
  obtain⟨g',t',cs,fuel,p,hg,hty,hvar,hd⟩:=h1;obtain rfl:=zc (wordsGlobal.symm.trans hg);obtain rfl:=zc (wordsType.symm.trans hty);have h2:cs.toList=wordCells:=(zdJ W _ _ _ hd).trans rfl;intro i v hv;rw[World.var?_cell hg hvar i,← Array.getElem?_toList,h2];exact hv
 have hl:∀(i:Nat) (v:Value),levelCells[i]? = some v->W.cell? ⟨2,i,none⟩=some v:=by
  have h1 := Lib.laidMet.reads h (n := "marquetry/parse.levels") (d := Rows.laid_marquetry_parse_levels) (by simp [laidP])
  obtain⟨g',t',cs,fuel,p,hg,hty,hvar,hd⟩:=h1;obtain rfl:=zc (levelsGlobal.symm.trans hg);obtain rfl:=zc (levelsType.symm.trans hty);have h2:cs.toList=levelCells:=(zbT W _ _ _ hd).trans rfl;intro i v hv;rw[World.var?_cell hg hvar i,← Array.getElem?_toList,h2];exact hv
 exact ⟨zbG (Lib.laidMet.reads h (n := "marquetry/lex.symbols") (d := Rows.laid_marquetry_lex_symbols) (by simp [laidP])), ⟨hw, hl⟩, World.block_lt_of_cell? W (a := ⟨3, 0, none⟩) (hw 0 _ rfl), World.block_lt_of_cell? W (a := ⟨2, 0, none⟩) (hl 0 _ rfl)⟩
end
section
open Go.ChangeShapes Go.WideShapes Go.ChangeAt Go.WideMaps Go.WideElems Go.RowKit Go.Deep
structure Hd.wide (h:Hd):Prop where
 kind:-9223372036854775808<=h.kind/\h.kind<=9223372036854775807
 pos:-9223372036854775808<=h.pos/\h.pos<=9223372036854775807
 name:h.name.length<=140737488355328
 n:-9223372036854775808<=h.n/\h.n<=9223372036854775807
 s:h.s.length<=140737488355328
 labels:∀ l∈h.labels,l.length<=140737488355328
mutual
def Nd.wide:Nd->Prop
 | .mk h l a=>h.wide/\wideN l/\wideA a
def wideN:List Nd->Prop
 | []=>True
 | x::r=>x.wide/\wideN r
def wideA:List (Nd×Nd)->Prop
 | []=>True
 | (p,b)::r=>p.wide/\b.wide/\wideA r
end
theorem rD:∀{l:List Nd},(∀ x∈l,x.wide)->wideN l
 | [],_=>trivial
 | x::r,h=>⟨h x (by simp),rD fun y hy=>h y (by simp [hy])⟩
theorem zcN:∀{l:List (Nd×Nd)},(∀ x∈l,x.1.wide/\x.2.wide)->wideA l
 | [],_=>trivial
 | (p,b)::r,h=>⟨(h (p,b) (by simp)).1,(h (p,b) (by simp)).2,zcN fun y hy=>h y (by simp [hy])⟩
theorem xG:∀{l:List Nd},wideN l->∀ x∈l,x.wide
 | y::r,h,x,hx=>by
  rcases List.mem_cons.1 hx with rfl | hx
  . exact h.1
  . exact xG h.2 x hx
theorem xY:∀{l:List (Nd×Nd)},wideA l->∀ x∈l,x.1.wide/\x.2.wide
 | (p,b)::r,h,x,hx=>by
  rcases List.mem_cons.1 hx with rfl | hx
  . exact⟨h.1,h.2.1⟩
  . exact xY h.2.2 x hx
theorem Nd.wide.hd {x:Nd} (h:x.wide):x.hd.wide:=by cases x;exact h.1
theorem Nd.wide.args {x:Nd} (h:x.wide):∀ y∈x.args,y.wide:=by cases x;exact xG h.2.1
theorem Nd.wide.arms {x:Nd} (h:x.wide):∀ y∈x.arms,y.1.wide/\y.2.wide:=by cases x;exact xY h.2.2
theorem xR {α:Type} {n:Nat} {Q:Nat->α->Prop} (h:∀ i,i<n->∃ a,Q i a):∃ l:List α,l.length=n/\∀ i a,l[i]? = some a->Q i a:=by
 induction n with
 | zero=>exact⟨[],rfl,fun i a h=>by simp at h⟩
 | succ n ih =>
  obtain⟨l,hl,hq⟩:=ih fun i hi=>h i (by omega);obtain⟨a,ha⟩:=h n (by omega);refine⟨l++[a],by simp [hl],fun i b hb=>?_⟩;by_cases hi:i<l.length
  . rw[List.getElem?_append_left hi] at hb;exact hq i b hb
  . rw[List.getElem?_append_right (by omega)] at hb;have:i-l.length=0:=by
     have:=(List.getElem?_eq_some_iff.1 hb).1;simp at this;omega
    rw[this] at hb;obtain rfl:=zc hb;obtain rfl:i=n:=by omega
    exact ha
theorem zcG {k:Nat}:∀{L:List (List Value)} {i:Nat} {u:Value},(∀ c∈L,c.length=k)->L.flatten[i]? = some u->∃ q j cs,i=q*k+j/\L[q]? = some cs/\cs[j]? = some u
 | [],_,_,_,h=>by simp at h
 | c::L,i,u,hL,h=>by
  have hc:=hL c (by simp);rw[List.flatten_cons] at h;by_cases hi:i<c.length
  . rw[List.getElem?_append_left hi] at h;exact⟨0,i,c,by omega,rfl,h⟩
  . rw[List.getElem?_append_right (by omega)] at h;obtain⟨q,j,cs,h1,h2,h3⟩:=zcG (fun d hd=>hL d (by simp [hd])) h;refine⟨q+1,j,cs,?_,by simpa using h2,h3⟩;rw[Nat.add_mul];omega
theorem zdZ {w:World} {g o:Nat} {u:Value} (h:w.cell? ⟨g,o,none⟩=some u):CellsIn w g:=by
 unfold World.cell? at h;simp only at h;cases hb:w.heap[g]? with
 | none=>rw[hb] at h;cases h
 | some b =>
  rw[hb] at h;cases b with
  | cells c t f=>exact⟨c,t,f,hb⟩
  | _=>first | (cases h;done) | (simp at h;done)
section
variable {H : Type} {enc : TypeId × Value -> H} {w : World} {spare : Nat -> Bool} {held : Bool}
def Light (t:TypeId) (d:DataW H):Prop:=∀ n∈d.weights Tryz.prog t,n<=reachBytes
theorem Light.field {t:TypeId} {fs:Array Field} {parts:List (DataW H)} {j:Nat} {f:Field} {d:DataW H} (h:Light t (.agg parts)) (hu : Tryz.prog.underlying t=some (.struct fs)) (hf:fs[j]? = some f) (hd:parts[j]? = some d):Light f.type d:=fun n hn=>h n (by
 simp only[DataW.weights,hu];exact DataW.weights_mem_each (j:=j) (t:=f.type) (by rw[List.getElem?_map,Array.getElem?_toList,hf];rfl) hd n hn)
theorem vz {e:TypeId}:∀{l:List (DataW H)} {d:DataW H},d∈l->∀ n∈d.weights Tryz.prog e,n∈DataW.weightsAll Tryz.prog e l
 | a::l,d,hd,n,hn=>by
  simp only[DataW.weightsAll,List.mem_append];rcases List.mem_cons.1 hd with rfl | hd
  . exact .inl hn
  . exact .inr (vz hd n hn)
theorem Light.elem {t e:TypeId} {elems rest:List (DataW H)} {d:DataW H} (h:Light t (.slice elems rest)) (hu : Tryz.prog.underlying t=some (.slice e)) (hd:d∈elems):Light e d:=fun n hn=>h n (by
 simp only[DataW.weights,hu,List.mem_cons,List.mem_append];exact .inr (.inl (vz hd n hn)))
theorem Light.text {t:TypeId} {l:List UInt8} (h:Light t (.lit (.string l):DataW H)):l.length<=140737488355328:=by
 have h1:=h l.length (by simp [DataW.weights]);have h2:reachBytes<=140737488355328:=by decide
 omega
theorem vX {t e:TypeId} {k fuel:Nat} {v:Value} {x:DataW H×List MemPlace} (hu : Tryz.prog.underlying t=some (.slice e)) (hk : Tryz.prog.cellsOf e=k) (hk0:0<k) (h:DataW.trod enc Tryz.prog w 0 spare held fuel t [v]=some x) (hL:Light t x.1) (Q:List Value->Prop)
 (hq:∀(n:Nat) (cs:List Value) (y:DataW H×List MemPlace),n<fuel->DataW.trod enc Tryz.prog w 0 spare held n e cs=some y->Light e y.1->cs.length=k->Q cs) :
 ∃(n:Nat) (L:List (List Value)),L.length=n/\(∀(i:Nat) (cs:List Value),L[i]? = some cs->cs.length=k/\Q cs)/\RowIn w (fun _=>True) e k v n L.flatten:=by
 rcases DataW.trod_slice hu h with⟨hv,_⟩ | ⟨a,len,cap,elems,rest,n,rfl,hv,rfl,_,hlc,hcm,hel,hget,_,_⟩
 . obtain rfl:v=.slice none 0 0:=(List.cons.inj hv).1;exact⟨0,[],rfl,fun i cs h=>by simp at h,zx _ _ _ _⟩
 . obtain rfl:v=.slice (some a) len cap:=(List.cons.inj hv).1;have hone:∀ i,i<len->∃ cs:List Value,(∀ j,j<k->w.cell? (a.add (i*k+j))=cs[j]?)/\cs.length=k/\Q cs:=by
    intro i hi;have h1:=hget i hi;have h2:i<elems.length:=by omega
    rw[List.getElem?_eq_getElem h2,hk] at h1;obtain⟨cs,hc,ht⟩:=Option.bind_eq_some_iff.1 h1;obtain⟨_,hcl,hat⟩:=World.cells?_some hc;refine⟨cs,fun j hj=>by rw[← hat j hj,add_add],hcl,hq n cs _ (Nat.lt_succ_self n) ht ?_ hcl⟩;exact hL.elem hu (List.mem_map.2 ⟨_,List.getElem_mem h2,rfl⟩)
   obtain⟨L,hLl,hLq⟩:=xR hone;refine⟨len,L,hLl,fun i cs hi=>(hLq i cs hi).2,⟨some a,cap,rfl,hlc,?_⟩,by unfold maxLen at hcm;omega⟩;by_cases h0:len=0
   . exact .inl h0
   . right;have hz:∃ cs,L[0]? = some cs:=⟨_,List.getElem?_eq_getElem (by omega)⟩;obtain⟨cs0,hz⟩:=hz;obtain⟨hz1,hz2,_⟩:=hLq 0 cs0 hz;have c0:=hz1 0 hk0;rw[Nat.zero_mul,Nat.add_zero,List.getElem?_eq_getElem (by omega)] at c0;have hspot:a.spot=none:=by simpa [Addr.add] using World.cell?_spot c0
     obtain⟨b,off,spot⟩:=a;subst hspot;have hadd:∀ j,(Addr.add ⟨b,off,none⟩ j)=⟨b,off+j,none⟩:=fun j=>by unfold Addr.add;split <;> simp_all
     rw[hadd] at c0;refine⟨b,off,rfl,trivial,zdZ c0,fun i u hu=>?_⟩;obtain⟨q,j,cs,rfl,h2,h3⟩:=zcG (k:=k) (fun c hc=>by
      obtain⟨i,hi⟩:=List.getElem?_of_mem hc;exact(hLq i c hi).2.1) hu
     obtain⟨h4,h5,_⟩:=hLq q cs h2;have hj:=(List.getElem?_eq_some_iff.1 h3).1;rw[← hadd,h4 j (by omega)];exact h3
theorem ye {t:TypeId} {fs:Array Field} {cs:List Value} {n j:Nat} {T:TypeId} {ys:List (DataW H×List MemPlace)} (hone:oneCellFields Tryz.prog fs=true) (hu : Tryz.prog.underlying t=some (.struct fs)) (hlen:ys.length=fs.size) (hcl:cs.length=fs.size)
 (hall:∀(j:Nat) (f:Field),fs[j]? = some f->DataW.trod enc Tryz.prog w 0 spare held n f.type ((cs.drop f.offset).take (Tryz.prog.cellsOf f.type))=ys[j]?)
 (hL:Light t (.agg (ys.map (·.1)):DataW H)) (hT:(fs[j]?).map (·.type)=some T):∃ v y,cs[j]? = some v/\DataW.trod enc Tryz.prog w 0 spare held n T [v]=some y/\Light T y.1:=by
 cases hf:fs[j]? with
 | none=>rw[hf] at hT;cases hT
 | some f =>
  rw[hf] at hT;obtain rfl:f.type=T:=zc hT;obtain⟨h1,h2⟩:=hone_of hone j f hf;have h3:=hall j f hf;have hj:j<fs.size:=(Array.getElem?_eq_some_iff.1 hf).1;rw[h1,h2,List.getElem?_eq_getElem (show j<ys.length by omega)] at h3;have h4:(cs.drop j).take 1=[cs[j]'(by omega)]:=by
   rw[List.drop_eq_getElem_cons (by omega)];rfl
  rw[h4] at h3;exact⟨_,_,List.getElem?_eq_getElem (by omega),h3,hL.field hu hf (by rw[List.getElem?_map,List.getElem?_eq_getElem (show j<ys.length by omega)];rfl)⟩
theorem vT {n:Nat} {T:TypeId} {v:Value} {y:DataW H×List MemPlace} (hu : Tryz.prog.underlying T=some (.int .i64)) (h:DataW.trod enc Tryz.prog w 0 spare held n T [v]=some y):∃ z:Int,v=.int .i64 z/\-9223372036854775808<=z/\z<=9223372036854775807:=by
 obtain⟨z,hz,_,hw⟩:=DataW.trod_int hu h;have hb:=bounds_i64 hw;exact⟨z,(List.cons.inj hz).1,hb.1,hb.2⟩
theorem vL {n:Nat} {v:Value} {y:DataW H×List MemPlace} (h:DataW.trod enc Tryz.prog w 0 spare held n 9 [v]=some y) (hL:Light 9 y.1):∃ l:List UInt8,v=.string ⟨l.toArray⟩/\l.length<=140737488355328:=by
 obtain⟨s,hs,rfl,_⟩:=DataW.trod_string Tryz.underlying9 h;exact⟨s.data.toList,(List.cons.inj hs).1.trans (by simp),hL.text⟩
theorem zaU {n:Nat} {v:Value} {y:DataW H×List MemPlace} (h:DataW.trod enc Tryz.prog w 0 spare held n 23 [v]=some y) (hL:Light 23 y.1):∃ ls:List (List UInt8),RowIn w (fun _=>True) 9 1 v ls.length (strCells ls)/\∀ l∈ls,l.length<=140737488355328:=by
 obtain⟨m,L,hLl,hLq,hrow⟩:=vX (k:=1) Tryz.underlying23 (by kernel_rfl) (by decide) h hL (fun cs=>∃ l:List UInt8,cs=[.string ⟨l.toArray⟩]/\l.length<=140737488355328) (fun n cs y _ ht hl hc=>by
  obtain⟨u,rfl⟩:∃ u,cs=[u]:=List.length_eq_one_iff.1 hc;obtain⟨l,rfl,h9⟩:=vL ht hl;exact⟨l,rfl,h9⟩)
 obtain⟨ls,hl1,hl2⟩:=xR (n:=m) (Q:=fun i (l:List UInt8)=>L[i]? = some [.string ⟨l.toArray⟩]/\l.length<=140737488355328) (fun i hi=>by
  have h1:L[i]? = some L[i]:=List.getElem?_eq_getElem (by omega);obtain⟨_,l,h2,h3⟩:=hLq i _ h1;exact⟨l,by rw[h1,h2],h3⟩)
 have he:L=ls.map fun l=>[.string ⟨l.toArray⟩]:=by
  refine List.ext_getElem? fun i=>?_;by_cases hi:i<ls.length
  . rw[(hl2 i _ (List.getElem?_eq_getElem hi)).1,List.getElem?_map,List.getElem?_eq_getElem hi];rfl
  . rw[List.getElem?_eq_none (by omega),List.getElem?_eq_none (by rw[List.length_map];omega)]
 refine⟨ls,?_,fun l hl=>?_⟩
 . have h1:L.flatten=strCells ls:=by
    rw[he];unfold strCells
    induction ls with
    | nil=>rfl
    | cons a ls ih=>exact congrArg (_::·) (by
     have:∀ r:List (List UInt8),(r.map fun l=>[Value.string ⟨l.toArray⟩]).flatten=r.map fun x=>.string ⟨x.toArray⟩:=fun r=>by
      induction r with
      | nil=>rfl
      | cons b r ih=>exact congrArg (_::·) ih
     exact this ls)
   rw[h1] at hrow;rw[hl1];exact hrow
 . obtain⟨i,hi⟩:=List.getElem?_of_mem hl;exact(hl2 i l hi).2
theorem zeQ {N:Nat->Prop}:∀{L:List (List Value)} {l:List Nd},L.length=l.length->(∀(i:Nat) (x:Nd),l[i]? = some x->∃ cs,L[i]? = some cs/\IsP w N cs x)->IsPs w N L l
 | [],[],_,_=>trivial
 | cs::L,x::l,hl,h=>⟨by
  obtain⟨c,h1,h2⟩:=h 0 x rfl;obtain rfl:=zc h1;exact h2,zeQ (by simpa using hl) fun i y hy=>by
  obtain⟨c,h1,h2⟩:=h (i+1) y (by simpa using hy);exact⟨c,by simpa using h1,h2⟩⟩
 | [],_::_,hl,_=>by cases hl
 | _::_,[],hl,_=>by cases hl
theorem zg3 {N:Nat->Prop}:∀{L:List (List Value)} {l:List Nd},L.length=l.length->(∀(i:Nat) (x:Nd),l[i]? = some x->∃ cs,L[i]? = some cs/\IsE w N cs x)->IsEs w N L l
 | [],[],_,_=>trivial
 | cs::L,x::l,hl,h=>⟨by
  obtain⟨c,h1,h2⟩:=h 0 x rfl;obtain rfl:=zc h1;exact h2,zg3 (by simpa using hl) fun i y hy=>by
  obtain⟨c,h1,h2⟩:=h (i+1) y (by simpa using hy);exact⟨c,by simpa using h1,h2⟩⟩
 | [],_::_,hl,_=>by cases hl
 | _::_,[],hl,_=>by cases hl
theorem ze4 {N:Nat->Prop}:∀{L:List (List Value)} {l:List (Nd×Nd)},L.length=l.length->(∀(i:Nat) (x:Nd×Nd),l[i]? = some x->∃ c1 c2,L[i]? = some (c1++c2)/\IsP w N c1 x.1/\IsE w N c2 x.2)->IsAs w N L l
 | [],[],_,_=>trivial
 | cs::L,(p,b)::l,hl,h=>⟨by
  obtain⟨c1,c2,h1,h2,h3⟩:=h 0 (p,b) rfl;obtain rfl:=zc h1;exact⟨c1,c2,rfl,h2,h3⟩,ze4 (by simpa using hl) fun i y hy=>by
  obtain⟨c1,c2,h1,h2⟩:=h (i+1) y (by simpa using hy);exact⟨c1,c2,by simpa using h1,h2⟩⟩
 | [],_::_,hl,_=>by cases hl
 | _::_,[],hl,_=>by cases hl
end
noncomputable def fieldsOf (t:TypeId):Array Field:=match Tryz.prog.underlying t with
 | some (.struct fs)=>fs
 | _=>#[]
theorem qa {t:TypeId} (h:(match Tryz.prog.underlying t with | some (.struct _)=>true | _=>false)=true) : Tryz.prog.underlying t=some (.struct (fieldsOf t)):=by
 unfold fieldsOf;cases hu : Tryz.prog.underlying t with
 | none=>rw[hu] at h;cases h
 | some u=>rw[hu] at h;cases u <;> first | rfl | cases h
theorem xr : Tryz.prog.underlying 39 = some (.struct (fieldsOf 39)):=qa (by kernel_rfl)
theorem yh : Tryz.prog.underlying 27 = some (.struct (fieldsOf 27)):=qa (by kernel_rfl)
theorem qm : Tryz.prog.underlying 77 = some (.struct (fieldsOf 77)):=qa (by kernel_rfl)
section
variable {H : Type} {enc : TypeId × Value -> H} {w : World} {spare : Nat -> Bool} {held : Bool}
theorem list7 {cs:List Value} {v0 v1 v2 v3 v4 v5 v6:Value} (h:cs.length=7) (h0:cs[0]? = some v0) (h1:cs[1]? = some v1) (h2:cs[2]? = some v2) (h3:cs[3]? = some v3) (h4:cs[4]? = some v4) (h5:cs[5]? = some v5) (h6:cs[6]? = some v6):cs=[v0,v1,v2,v3,v4,v5,v6]:=by
 refine List.ext_getElem? fun i=>?_
 match i with
 | 0=>exact h0
 | 1=>exact h1
 | 2=>exact h2
 | 3=>exact h3
 | 4=>exact h4
 | 5=>exact h5
 | 6=>exact h6
 | n+7=>rw[List.getElem?_eq_none (by omega),List.getElem?_eq_none (by simp)]
theorem list8 {cs:List Value} {v0 v1 v2 v3 v4 v5 v6 v7:Value} (h:cs.length=8) (h0:cs[0]? = some v0) (h1:cs[1]? = some v1) (h2:cs[2]? = some v2) (h3:cs[3]? = some v3) (h4:cs[4]? = some v4) (h5:cs[5]? = some v5) (h6:cs[6]? = some v6) (h7:cs[7]? = some v7):cs=[v0,v1,v2,v3,v4,v5,v6,v7]:=by
 refine List.ext_getElem? fun i=>?_
 match i with
 | 0=>exact h0
 | 1=>exact h1
 | 2=>exact h2
 | 3=>exact h3
 | 4=>exact h4
 | 5=>exact h5
 | 6=>exact h6
 | 7=>exact h7
 | n+8=>rw[List.getElem?_eq_none (by omega),List.getElem?_eq_none (by simp)]
theorem pat_of:∀(fuel:Nat) (cs:List Value) (x:DataW H×List MemPlace),DataW.trod enc Tryz.prog w 0 spare held fuel 39 cs=some x->Light 39 x.1->∃ nd s,cs=paL nd s/\IsP w (fun _=>True) (paL nd s) nd/\nd.wide:=by
 intro fuel
 induction fuel using Nat.strongRecOn with
 | _ fuel ih =>
  intro cs x h hL;obtain⟨ys,n,rfl,rfl,hcl,hyl,hf⟩:=DataW.trod_struct xr h;have hsz:(fieldsOf 39).size=7:=by kernel_rfl
  have hcl:cs.length=7:=hcl.trans (by kernel_rfl);have hone:oneCellFields Tryz.prog (fieldsOf 39)=true:=by kernel_rfl
  have hcs:cs.length=(fieldsOf 39).size:=by rw[hcl,hsz]
  obtain⟨v0,y0,e0,t0,l0⟩:=ye (j:=0) (T := 3) hone xr hyl hcs hf hL (by kernel_rfl);obtain⟨v1,y1,e1,t1,l1⟩:=ye (j:=1) (T := 3) hone xr hyl hcs hf hL (by kernel_rfl);obtain⟨v2,y2,e2,t2,l2⟩:=ye (j:=2) (T := 9) hone xr hyl hcs hf hL (by kernel_rfl);obtain⟨v3,y3,e3,t3,l3⟩:=ye (j:=3) (T := 2) hone xr hyl hcs hf hL (by kernel_rfl);obtain⟨v4,y4,e4,t4,l4⟩:=ye (j:=4) (T := 9) hone xr hyl hcs hf hL (by kernel_rfl);obtain⟨v5,y5,e5,t5,l5⟩:=ye (j:=5) (T := 23) hone xr hyl hcs hf hL (by kernel_rfl);obtain⟨v6,y6,e6,t6,l6⟩:=ye (j:=6) (T := 37) hone xr hyl hcs hf hL (by kernel_rfl);obtain⟨z0,rfl,b0⟩:=vT Tryz.underlying3 t0;obtain⟨z1,rfl,b1⟩:=vT Tryz.underlying3 t1;obtain⟨s2,rfl,b2⟩:=vL t2 l2;obtain⟨z3,rfl,b3⟩:=vT Tryz.underlying2 t3;obtain⟨s4,rfl,b4⟩:=vL t4 l4;obtain⟨ls,r5,b5⟩:=zaU t5 l5;obtain⟨m,L,hLl,hLq,r6⟩:=vX (k:=7) Tryz.underlying37 (by kernel_rfl) (by decide) t6 l6 (fun cs=>∃ nd s,cs=paL nd s/\IsP w (fun _=>True) (paL nd s) nd/\nd.wide) (fun n' cs y hn ht hl _=>ih n' (by omega) cs y ht hl);obtain⟨nds,hn1,hn2⟩:=xR (n:=m) (Q:=fun i (nd:Nd)=>∃ s,L[i]? = some (paL nd s)/\IsP w (fun _=>True) (paL nd s) nd/\nd.wide) (fun i hi=>by
   have h1:L[i]? = some L[i]:=List.getElem?_eq_getElem (by omega);obtain⟨_,nd,s,h2,h3,h4⟩:=hLq i _ h1;exact⟨nd,s,by rw[h1,h2],h3,h4⟩)
  obtain⟨a5,c5,rfl⟩:=r5.form;obtain⟨a6,c6,rfl⟩:=r6.form;have h9:=list7 hcl e0 e1 e2 e3 e4 e5 e6;rw[← hn1] at r6 h9;refine⟨.mk ⟨z0,z1,s2,z3,s4,ls⟩ nds [],⟨a5,c5,a6,c6,none,0⟩,h9,⟨rfl,_,_,rfl,r5,L,r6,zeQ (by omega) fun i x hx=>?_⟩,⟨b0,b1,b2,b3,b4,b5⟩,rD fun x hx=>?_,trivial⟩
  . obtain⟨s,h1,h2,_⟩:=hn2 i x hx;exact⟨_,h1,h2⟩
  . obtain⟨i,hi⟩:=List.getElem?_of_mem hx;obtain⟨s,_,_,h3⟩:=hn2 i x hi;exact h3
theorem zbr:∀(fuel:Nat) (cs:List Value) (x:DataW H×List MemPlace),DataW.trod enc Tryz.prog w 0 spare held fuel 27 cs=some x->Light 27 x.1->∃ nd s,cs=exL nd s/\IsE w (fun _=>True) (exL nd s) nd/\nd.wide:=by
 intro fuel
 induction fuel using Nat.strongRecOn with
 | _ fuel ih =>
  intro cs x h hL;obtain⟨ys,n,rfl,rfl,hcl,hyl,hf⟩:=DataW.trod_struct yh h;have hsz:(fieldsOf 27).size=8:=by kernel_rfl
  have hcl:cs.length=8:=hcl.trans (by kernel_rfl);have hone:oneCellFields Tryz.prog (fieldsOf 27)=true:=by kernel_rfl
  have hcs:cs.length=(fieldsOf 27).size:=by rw[hcl,hsz]
  obtain⟨v0,y0,e0,t0,l0⟩:=ye (j:=0) (T := 3) hone yh hyl hcs hf hL (by kernel_rfl);obtain⟨v1,y1,e1,t1,l1⟩:=ye (j:=1) (T := 3) hone yh hyl hcs hf hL (by kernel_rfl);obtain⟨v2,y2,e2,t2,l2⟩:=ye (j:=2) (T := 9) hone yh hyl hcs hf hL (by kernel_rfl);obtain⟨v3,y3,e3,t3,l3⟩:=ye (j:=3) (T := 2) hone yh hyl hcs hf hL (by kernel_rfl);obtain⟨v4,y4,e4,t4,l4⟩:=ye (j:=4) (T := 9) hone yh hyl hcs hf hL (by kernel_rfl);obtain⟨v5,y5,e5,t5,l5⟩:=ye (j:=5) (T := 23) hone yh hyl hcs hf hL (by kernel_rfl);obtain⟨v6,y6,e6,t6,l6⟩:=ye (j:=6) (T := 24) hone yh hyl hcs hf hL (by kernel_rfl);obtain⟨v7,y7,e7,t7,l7⟩:=ye (j:=7) (T := 25) hone yh hyl hcs hf hL (by kernel_rfl);obtain⟨z0,rfl,b0⟩:=vT Tryz.underlying3 t0;obtain⟨z1,rfl,b1⟩:=vT Tryz.underlying3 t1;obtain⟨s2,rfl,b2⟩:=vL t2 l2;obtain⟨z3,rfl,b3⟩:=vT Tryz.underlying2 t3;obtain⟨s4,rfl,b4⟩:=vL t4 l4;obtain⟨ls,r5,b5⟩:=zaU t5 l5;obtain⟨m,L,hLl,hLq,r6⟩:=vX (k:=8) Tryz.underlying24 (by kernel_rfl) (by decide) t6 l6 (fun cs=>∃ nd s,cs=exL nd s/\IsE w (fun _=>True) (exL nd s) nd/\nd.wide) (fun n' cs y hn ht hl _=>ih n' (by omega) cs y ht hl);obtain⟨nds,hn1,hn2⟩:=xR (n:=m) (Q:=fun i (nd:Nd)=>∃ s,L[i]? = some (exL nd s)/\IsE w (fun _=>True) (exL nd s) nd/\nd.wide) (fun i hi=>by
   have h1:L[i]? = some L[i]:=List.getElem?_eq_getElem (by omega);obtain⟨_,nd,s,h2,h3,h4⟩:=hLq i _ h1;exact⟨nd,s,by rw[h1,h2],h3,h4⟩)
  obtain⟨m',M,hMl,hMq,r7⟩:=vX (k:=15) Tryz.underlying25 (by kernel_rfl) (by decide) t7 l7 (fun cs=>∃(p b:Nd) (c1 c2:List Value),cs=c1++c2/\IsP w (fun _=>True) c1 p/\IsE w (fun _=>True) c2 b/\p.wide/\b.wide) (fun n' cs y hn ht hl hc=>by
   obtain⟨zs,k,rfl,rfl,_,hzl,hg⟩:=DataW.trod_struct qm ht;have hf0:((fieldsOf 77)[0]?).map (fun f=>(f.type,f.offset))=some (39,0):=by kernel_rfl
   have hf1:((fieldsOf 77)[1]?).map (fun f=>(f.type,f.offset))=some (27,7):=by kernel_rfl
   have hz2:zs.length=2:=hzl.trans (by kernel_rfl);cases hq0:(fieldsOf 77)[0]? with
   | none=>rw[hq0] at hf0;cases hf0
   | some f0 =>
    cases hq1:(fieldsOf 77)[1]? with
    | none=>rw[hq1] at hf1;cases hf1
    | some f1 =>
     rw[hq0] at hf0;rw[hq1] at hf1;have hf0:=zc hf0;have hf1:=zc hf1;have ft0:f0.type = 39 := congrArg (fun x=>x.1) hf0;have fo0:f0.offset=0:=congrArg (fun x=>x.2) hf0;have ft1:f1.type = 27 := congrArg (fun x=>x.1) hf1;have fo1:f1.offset=7:=congrArg (fun x=>x.2) hf1;have g0:=hg 0 f0 hq0;have g1:=hg 1 f1 hq1;have lz0:=hl.field qm hq0 (d:=zs[0].1) (by rw[List.getElem?_map,List.getElem?_eq_getElem (by omega)];rfl);have lz1:=hl.field qm hq1 (d:=zs[1].1) (by rw[List.getElem?_map,List.getElem?_eq_getElem (by omega)];rfl);rw[ft0,fo0,List.drop_zero,List.getElem?_eq_getElem (by omega)] at g0;rw[ft1,fo1,List.getElem?_eq_getElem (by omega)] at g1;rw[ft0] at lz0;rw[ft1] at lz1;obtain⟨p,s,hp1,hp2,hp3⟩:=pat_of k _ _ g0 lz0;obtain⟨b,r,hb1,hb2,hb3⟩:=ih k (by omega) _ _ g1 lz1;have hc1 : Tryz.prog.cellsOf 39 = 7:=by kernel_rfl
     have hc2 : Tryz.prog.cellsOf 27 = 8:=by kernel_rfl
     rw[hc1] at hp1;rw[hc2] at hb1;refine⟨p,b,paL p s,exL b r,?_,hp2,hb2,hp3,hb3⟩;rw[← hp1,← hb1,List.take_of_length_le (l:=cs.drop 7) (by rw[List.length_drop];omega),List.take_append_drop])
  obtain⟨ars,ha1,ha2⟩:=xR (n:=m') (Q:=fun i (c:Nd×Nd)=>∃ c1 c2,M[i]? = some (c1++c2)/\IsP w (fun _=>True) c1 c.1/\IsE w (fun _=>True) c2 c.2/\c.1.wide/\c.2.wide) (fun i hi=>by
   have h1:M[i]? = some M[i]:=List.getElem?_eq_getElem (by omega);obtain⟨_,p,b,c1,c2,h2,h3,h4,h5,h6⟩:=hMq i _ h1;exact⟨(p,b),c1,c2,by rw[h1,h2],h3,h4,h5,h6⟩)
  obtain⟨a5,c5,rfl⟩:=r5.form;obtain⟨a6,c6,rfl⟩:=r6.form;obtain⟨a7,c7,rfl⟩:=r7.form;have h9:=list8 hcl e0 e1 e2 e3 e4 e5 e6 e7;rw[← hn1] at r6 h9;rw[← ha1] at r7 h9;refine⟨.mk ⟨z0,z1,s2,z3,s4,ls⟩ nds ars,⟨a5,c5,a6,c6,a7,c7⟩,h9,⟨_,_,_,rfl,r5,⟨L,r6,zg3 (by omega) fun i x hx=>?_⟩,M,r7,ze4 (by omega) fun i x hx=>?_⟩,⟨b0,b1,b2,b3,b4,b5⟩,rD fun x hx=>?_,zcN fun x hx=>?_⟩
  . obtain⟨s,h1,h2,_⟩:=hn2 i x hx;exact⟨_,h1,h2⟩
  . obtain⟨c1,c2,h1,h2,h3,_⟩:=ha2 i x hx;exact⟨c1,c2,h1,h2,h3⟩
  . obtain⟨i,hi⟩:=List.getElem?_of_mem hx;obtain⟨s,_,_,h3⟩:=hn2 i x hi;exact h3
  . obtain⟨i,hi⟩:=List.getElem?_of_mem hx;obtain⟨c1,c2,_,_,_,h3⟩:=ha2 i x hi;exact h3
end
theorem sJ:laidOutB Tryz.prog=true:=by kernel_rfl
theorem tw {H:Type} {ts:List TypeId} {ds:List (DataW H)} (h:(DataW.weightsEach Tryz.prog ts ds).all (·<=reachBytes)=true) {j:Nat} {t:TypeId} {d:DataW H} (ht:ts[j]? = some t) (hd:ds[j]? = some d):Light t d:=fun n hn=>by
 have:=List.all_eq_true.1 h _ (DataW.weights_mem_each ht hd n hn)
 simpa using this
section
variable {H : Type} {enc : TypeId × Value -> H} {P : Program} {w : World} {base : Nat} {spare : Nat -> Bool} {held : Bool}
end
end
section
open Go.ChangeShapes Go.WideShapes Go.ChangeAt Go.WideMaps Go.WideElems Go.RowKit
def laidW : List (String × DataW Unit) := [("math/bits.deBruijn32tab", Rows.laid_math_bits_deBruijn32tab), ("math/bits.deBruijn64tab", Rows.laid_math_bits_deBruijn64tab), ("internal/strconv.uint64pow10", Rows.laid_internal_strconv_uint64pow10), ("marquetry/lex.symbols", Rows.laid_marquetry_lex_symbols), ("marquetry/parse.levels", Rows.laid_marquetry_parse_levels), ("marquetry/parse.words", Rows.laid_marquetry_parse_words)]
theorem ub (os:Os) (args:Array Value):laidMetH Tryz.prog laidW ((World.doorLaid Tryz.prog 400 os).forCall (fun _ _=>0) ⟨#[],args,[]⟩).memory :=
 laidMetH_of_parts3 (fuel:=8) (laidMet_of_run' 8 (by kernel_rfl) (by kernel_rfl)) (by kernel_rfl) (by kernel_rfl)
theorem tabTypeW:(Tryz.prog.globals[4]?).map (·.type)=some 263 := by kernel_rfl
theorem zd0 : Tryz.prog.cellsOf 250 = 1:=by kernel_rfl
theorem cellsTabW : Tryz.prog.cellsOf 263 = 20:=by kernel_rfl
theorem ym {W:World} (h:laidMetH Tryz.prog laidW W):Ready W/\Tab W:=by
 rw[MakeChecks.laidMetH_plain _ _ _ (by kernel_rfl)] at h;have h3 : laidMet Tryz.prog (("internal/strconv.uint64pow10", Lib.tabData .u64 Lib.pow10Tab) :: laidP) W := laidMet.tail (laidMet.tail h)
 refine⟨qU ?_,Lib.tabIs_of_head zL tabTypeW Tryz.underlying263 Tryz.underlying250 zd0 cellsTabW h3⟩;rw[MakeChecks.laidMetH_plain _ _ _ (by kernel_rfl)];exact laidMet.tail h3
end
