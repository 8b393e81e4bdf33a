/-
  The builder that show writes into, beside blocks that lie above.
-/
import Derived.Test.YtblonfjlcfjodaaGreatDoorGSame
namespace Go.Proofs.YtblonfjlcfjodaaGreatDoor
set_option linter.unusedSimpArgs false
set_option linter.unusedVariables false
set_option maxRecDepth 100000
set_option maxHeartbeats 2000000
section
open Go.RowKit
def ownB (b:Nat) (w:World):Option Nat:=match w.heap[b]? with
 | some (.cells cs _ _)=>(match cs[1]? with | some v=>v.ownBlock | none=>none)
 | _=>none
def IsB (b:Nat) (w:World) (i:Nat):Prop:=i=b∨ownB b w=some i
theorem xK {b:Nat} {w:World} {p v:Value} {T:TypeId} {fr:Nat×Nat} (h:w.heap[b]? = some (.cells #[p,v] T fr)):ownB b w=v.ownBlock:=by simp [ownB,h]
structure KeptX (X:Nat->Prop) (b:Nat) (w w':World):Prop where
 os:w'.os=w.os
 tape:w'.tape=w.tape
 output:w'.output=w.output
 size:w.heap.size<=w'.heap.size
 block:∀ i,i<w.heap.size->¬X i->¬IsB b w i->w'.heap[i]? = w.heap[i]?
 own:∀ i,IsB b w' i->IsB b w i∨w.heap.size<=i
abbrev KeptB:=KeptX (fun _=>False)
theorem KeptX.refl (X:Nat->Prop) (b:Nat) (w:World):KeptX X b w w:=⟨rfl,rfl,rfl,Nat.le_refl _,fun _ _ _ _=>rfl,fun _ h=>Or.inl h⟩
theorem KeptX.wide {X Y:Nat->Prop} {b:Nat} {w v:World} (h:KeptX X b w v) (hy:∀ i,X i->Y i):KeptX Y b w v:=⟨h.os,h.tape,h.output,h.size,fun i hi hx hn=>h.block i hi (fun e=>hx (hy i e)) hn,h.own⟩
theorem KeptX.hide {X Y:Nat->Prop} {b:Nat} {w v u:World} (h:KeptX X b w v) (k:KeptX Y b v u) (hy:∀ i,Y i->X i∨w.heap.size<=i):KeptX X b w u:=by
 refine⟨k.os.trans h.os,k.tape.trans h.tape,k.output.trans h.output,Nat.le_trans h.size k.size,fun i hi hx hn=>?_,fun i hi=>?_⟩
 . rw[k.block i (zd hi h.size) (fun e=>?_) fun hb=>?_,h.block i hi hx hn]
   . rcases hy i e with h' | h'
     . exact hx h'
     . omega
   . rcases h.own i hb with h' | h'
     . exact hn h'
     . omega
 . rcases k.own i hi with h' | h'
   . exact h.own i h'
   . exact Or.inr (Nat.le_trans h.size h')
theorem KeptX.trans {X:Nat->Prop} {b:Nat} {w v u:World} (h:KeptX X b w v) (k:KeptX X b v u):KeptX X b w u:=h.hide k fun _ h=>Or.inl h
theorem KeptX.of {X:Nat->Prop} {b:Nat} {w v:World} (h:KeptB b w v):KeptX X b w v:=h.wide fun _ h=>h.elim
theorem KeptX.below {X:Nat->Prop} {b:Nat} {w w':World} (h:Below w.heap.size w w') (hb:b<w.heap.size):KeptX X b w w':=by
 have he:ownB b w'=ownB b w:=by simp only[ownB,h.block b hb]
 exact⟨h.os,h.tape,h.output,h.size,fun i hi _ _=>h.block i hi,fun i hi=>Or.inl (by unfold IsB at *;rwa [he] at hi)⟩
theorem KeptX.set {X:Nat->Prop} {b q i:Nat} {w:World} {v:Value} (hx:X q) (hq:q≠b):KeptX X b w (w.setCell ⟨q,i,none⟩ v):=by
 have h1:(w.setCell ⟨q,i,none⟩ v).heap[b]? = w.heap[b]? := Below.heap_setCell _ _ _ _ (fun e=>hq e.symm);have he:ownB b (w.setCell ⟨q,i,none⟩ v)=ownB b w:=by simp only[ownB,h1]
 exact⟨rfl,rfl,rfl,by simp [World.setCell],fun i _ hn _=>Below.heap_setCell _ _ _ _ (fun e=>hn (by rw[show i=q from e];exact hx)),fun i hi=>Or.inl (by unfold IsB at *;rwa [he] at hi)⟩
def Bd (b:Nat) (l:List UInt8) (w:World):Prop:=Lib.IsBuilder 83 5 b b (Lib.byteCells l) w/\l.length<=300000
theorem xu {b:Nat} {bs:List Value} {w:World} (h:Lib.IsBuilder 83 5 b b bs w):∃ p v,w.heap[b]? = some (.cells #[p,v] 83 (0,0))/\w.ownsRow b 5 1 v bs.length bs/\v.ownBlock≠some b:=by
 rcases h with⟨_,v,h⟩ | ⟨_,v,h⟩
 . exact⟨_,v,h⟩
 . exact⟨_,v,h⟩
theorem Bd.lt {b:Nat} {l:List UInt8} {w:World} (h:Bd b l w):b<w.heap.size:=by
 obtain⟨p,v,hb,_⟩:=xu h.1;rcases Nat.lt_or_ge b w.heap.size with h' | h'
 . exact h'
 . simp [Array.getElem?_eq_none h'] at hb
theorem Bd.base {b:Nat} {l:List UInt8} {w:World} (h:Bd b l w) {i:Nat} (hi:IsB b w i):b<=i/\i<w.heap.size:=by
 rcases hi with rfl | hi
 . exact⟨Nat.le_refl _,h.lt⟩
 . obtain⟨p,v,hb,ho,_⟩:=xu h.1;rw[xK hb] at hi;exact ho.lt i hi
theorem Bd.elder {b:Nat} {l:List UInt8} {w:World} (h:Bd b l w) {i:Nat} (hi:i<b):¬IsB b w i:=fun hb=>by have:=(h.base hb).1;omega
theorem Bd.other {b:Nat} {l:List UInt8} {w:World} (h:Bd b l w) {i:Nat} {cs:Array Value} {t:TypeId} {fr:Nat×Nat} (hi:w.heap[i]? = some (.cells cs t fr)) (h1:t≠83) (h2:t≠5):¬IsB b w i:=fun hb=>by
 obtain⟨p,v,hbk,ho,_⟩:=xu h.1;rcases hb with rfl | hb
 . rw[hbk] at hi;injection hi with hi;injection hi with _ e _;exact h1 e.symm
 . rw[xK hbk] at hb;rcases ho.2 with⟨hv,_⟩ | ⟨g,cap,cur,hv,_,hg,_⟩
   . rw[hv] at hb;cases hb
   . rw[hv] at hb;simp only[Value.ownBlock,Option.some.injEq] at hb;rw[← hb,hg] at hi;injection hi with hi;injection hi with _ e _;exact h2 e.symm
theorem Bd.new {b:Nat} {l:List UInt8} {w w':World} (h:Bd b l w) (hb:Below w.heap.size w w'):Bd b l w':=by
 obtain⟨h1,h2⟩:=h;refine⟨?_,h2⟩;have hgo:w.grownBy w' none:=⟨hb.os,hb.tape,hb.output,hb.size,fun k hk _=>hb.block k hk⟩;have hk:∀ p,Lib.BuilderAt 83 5 b b p (Lib.byteCells l) w->Lib.BuilderAt 83 5 b b p (Lib.byteCells l) w':=fun p hp=>by
  have hlt:=hp.lt;obtain⟨h3,v,h4,h5,h6⟩:=hp;refine⟨h3,v,(hb.block b hlt).trans h4,h5.kept hgo ?_,h6⟩;rcases hv:v.ownBlock with _ | k
  . exact Or.inl rfl
  . exact Or.inr (by simp)
 exact h1.imp (hk _) (hk _)
theorem Bd.set {b q i:Nat} {l:List UInt8} {w:World} {v:Value} (h:Bd b l w) (hq:¬IsB b w q):Bd b l (w.setCell ⟨q,i,none⟩ v):=by
 obtain⟨h1,h2⟩:=h;refine⟨?_,h2⟩;have hgo:w.grownBy (w.setCell ⟨q,i,none⟩ v) (some q):=⟨rfl,rfl,rfl,by simp [World.setCell],fun k _ hk=>Below.heap_setCell _ _ _ _ (fun e=>hk (by rw[show k=q from e]))⟩
 have hk:∀ p,Lib.BuilderAt 83 5 b b p (Lib.byteCells l) w->Lib.BuilderAt 83 5 b b p (Lib.byteCells l) (w.setCell ⟨q,i,none⟩ v):=fun p hp=>by
  have hlt:=hp.lt;obtain⟨h3,u,h4,h5,h6⟩:=hp;have hqb:b≠q:=fun e=>hq (Or.inl e.symm);refine⟨h3,u,(Below.heap_setCell _ _ _ _ hqb).trans h4,h5.kept hgo (Or.inr fun e=>hq (Or.inr ?_)),h6⟩;rw[xK h4,e]
 exact h1.imp (hk _) (hk _)
theorem KeptX.under {X:Nat->Prop} {b:Nat} {w w':World} {l:List UInt8} (h:KeptX X b w w') (hd:Bd b l w) (hx:∀ i,X i->b<=i):Below b w w' :=
 ⟨h.os,h.tape,h.output,h.size,fun i hi=>h.block i (Nat.lt_trans hi hd.lt) (fun e=>by have:=hx i e;omega) (hd.elder hi)⟩
theorem KeptX.at_ {X:Nat->Prop} {b:Nat} {w w':World} {l:List UInt8} (h:KeptX X b w w') (hd:Bd b l w) {i:Nat} {cs:Array Value} {t:TypeId} {fr:Nat×Nat} (hi:w.heap[i]? = some (.cells cs t fr)) (hx:¬X i) (h1:t≠83 := by decide) (h2:t≠5 := by decide):w'.heap[i]? = some (.cells cs t fr):=by
 have hl:i<w.heap.size:=by
  rcases Nat.lt_or_ge i w.heap.size with h' | h'
  . exact h'
  . simp [Array.getElem?_eq_none h'] at hi
 exact(h.block i hl hx (hd.other hi h1 h2)).trans hi
theorem zez {b:Nat} {w:World} {p v q:Value} {T:TypeId} {fr:Nat×Nat} (h:w.heap[b]? = some (.cells #[p,v] T fr)):KeptB b w (w.setCell ⟨b,0,none⟩ q):=by
 have h2:(w.setCell ⟨b,0,none⟩ q).heap[b]? = some (.cells #[q,v] T fr):=by simp [World.setCell,Array.getElem?_modify,h]
 refine⟨rfl,rfl,rfl,by simp [World.setCell],fun i _ _ hn=>Below.heap_setCell _ _ _ _ fun e=>hn (Or.inl e),fun i hi=>Or.inl ?_⟩;unfold IsB at *
 rwa [xK h2,← xK h] at hi
theorem zdX {b:Nat} {w w1:World} {p v q v0:Value} {T:TypeId} {fr fr':Nat×Nat} (h:w.heap[b]? = some (.cells #[p,v0] T fr)) (hg:w.grownBy w1 v0.ownBlock) (h1:w1.heap[b]? = some (.cells #[p,v] T fr')) (hq:∀ k,q.ownBlock=some k->v0.ownBlock=some k∨w.heap.size<=k):KeptB b w (w1.setCell ⟨b,1,none⟩ q):=by
 have h2:(w1.setCell ⟨b,1,none⟩ q).heap[b]? = some (.cells #[p,q] T fr'):=by simp [World.setCell,Array.getElem?_modify,h1]
 refine⟨hg.os,hg.tape,hg.output,by simpa [World.setCell] using hg.size,fun i hi _ hn=>?_,fun i hi=>?_⟩
 . rw[Below.heap_setCell _ _ _ _ fun e=>hn (Or.inl e)];refine hg.block i hi fun e=>hn (Or.inr ?_);rw[xK h,e]
 . rcases hi with rfl | hi
   . exact Or.inl (Or.inl rfl)
   . rw[xK h2] at hi;rcases hq i hi with h' | h'
     . exact Or.inl (Or.inr (by rw[xK h];exact h'))
     . exact Or.inr h'
theorem qY (s:List UInt8):Lib.strCells ⟨s.toArray⟩=Lib.byteCells s:=rfl
section
open Go.Lib
variable {P : Program} (w : World)
theorem td (base:Nat) (t u ty e:TypeId) (i:TypeInfo) (ht:P.underlying t=some (.slice e)) (hu:P.underlying u=some .string) (hi:P.info? e=some i) (hz:i.zero=some (.int .u8 0))
 (hsize:i.size=1) (hby:i.bytes=1) (v:Value) (n:Nat) (xs:List Value) (hown:w.ownsRow base e 1 v n xs) (s:ByteArray)
 (h63:n+s.size<=maxLen) (hbytes:n+s.size<=140737488355328) (hbase:base<=w.heap.size) :
 ∃ v' w',(Builtin.append_ #[t,u] ty #[v,.string s]).run P w=.ok v' w'/\w'.ownsRow base e 1 v' (n+s.size) (xs++Lib.strCells s)/\w.grownBy w' v.ownBlock/\∀ k,v'.ownBlock=some k->v.ownBlock=some k∨w.heap.size<=k:=by
 obtain⟨v',w',hr,h2,h3,-⟩:=run_append_own_string (P:=P) w base t u ty e i ht hu hi hz hsize hby v n xs hown s h63 hbytes hbase;refine⟨v',w',hr,h2,h3,fun k hk=>?_⟩;have hxl:xs.length=n:=by simpa using hown.1
 rcases hown.2 with⟨rfl,rfl⟩ | ⟨g,cap,cur,rfl,hbg,hg,hnc,hcm,hcs,htake⟩
 . have hx:xs=[]:=List.eq_nil_of_length_eq_zero hxl;subst hx;obtain⟨v2,w2,hr2,h4,-,-⟩:=run_append_own_string (P:=P) w w.heap.size t u ty e i ht hu hi hz hsize hby _ 0 [] (World.ownsRow_nil w w.heap.size e 1) s h63 hbytes (Nat.le_refl _);rw[hr] at hr2;injection hr2 with e1 e2;subst e1;subst e2;exact Or.inr (h4.lt k hk).1
 . by_cases hroom:n+s.size<=cap
   . rw[run_append_room_string (P:=P) w t u ty e i ht hu hi hsize g n cap cur hg s hroom (by omega)] at hr;injection hr with e1 e2;subst e1;exact Or.inl hk
   . have holds:∀ j u,xs[j]? = some u->w.cell? ((⟨g,0,none⟩:Addr).add j)=some u:=hown.cells (g:=g) rfl;rw[run_append_grow_string (P:=P) w t u ty e i (.int .u8 0) ht hu hi hz ⟨g,0,none⟩ n cap xs (by rw[hsize];simpa using hxl) holds s (by omega) (by simp only[maxLen] at h63;omega) (by rw[hby];exact growslice_fits (by omega) (by omega))] at hr;injection hr with e1 e2;subst e1;simp only[Value.ownBlock,Option.some.injEq] at hk;exact Or.inr (by omega)
theorem tY {ops:Array Oper} {rest:List Oper} {o:Oper} {a:Act} {Q:Exit->Act->World->Prop} (hgd:o.guard=none) (sl x:Operand) (t u:TypeId)
 (ho:o.op=.call { callee:=.builtin .append,args:=#[sl,x],argTypes:=#[t,u] })
 (base:Nat) (e:TypeId) (i:TypeInfo) (ht:P.underlying t=some (.slice e)) (hu:P.underlying u=some .string) (hi:P.info? e=some i) (hz:i.zero=some (.int .u8 0))
 (hsize:i.size=1) (hby:i.bytes=1)
 (v:Value) (n:Nat) (xs:List Value) (hs:a.eval sl=v) (hown:w.ownsRow base e 1 v n xs) (s:ByteArray) (hx:a.eval x=.string s)
 (h63:n+s.size<=maxLen) (hbytes:n+s.size<=140737488355328) (hbase:base<=w.heap.size)
 (h:∀ v' w',w'.ownsRow base e 1 v' (n+s.size) (xs++Lib.strCells s)->w.grownBy w' v.ownBlock->(∀ k,v'.ownBlock=some k->v.ownBlock=some k∨w.heap.size<=k)->wpList P ops Q rest (a.put o.dst v') w'):wpList P ops Q (o::rest) a w:=by
 refine wpList_plain hgd fun K hK=>?_;obtain⟨v',w',hr,h2,h3,h4⟩:=td (P:=P) w base t u o.type e i ht hu hi hz hsize hby v n xs hown s h63 hbytes hbase;unfold Oper.wp execOp;simp only[ho,resolve,invoke,builtin,Sem.run_bind,Sem.run_pure,Result.andThen_ok,List.map_toArray,List.map_cons,List.map_nil,hs,hx,hr];exact hK _ _ (h v' w' h2 h3 h4)
end
theorem rR (b:Nat) (bs:List Value) (w:World) (h:Lib.IsBuilder 83 5 b b bs w) :
 Calls Tryz.prog 219 #[.pointer (some ⟨b,0,none⟩)] w fun e w'=>e=.returned (.tuple #[])/\(Lib.BuilderAt 83 5 b b (.pointer (some ⟨b,0,none⟩)) bs w')/\KeptB b w w'/\w'.heap.size=w.heap.size:=by
 rcases h with h | h
 . refine(vv b w h.cell0 h.shape h.frozen0).mono ?_;rintro e w' ⟨rfl,rfl⟩;obtain⟨h0,v,h1,_⟩:=id h;exact⟨rfl,h.used _,zez h1,by simp [World.setCell]⟩
 . refine(vP b w h.cell0).mono ?_;rintro e w' ⟨rfl,rfl⟩;exact⟨rfl,h,KeptX.refl _ b _,rfl⟩
theorem rM (b:Nat) (l s:List UInt8) (w:World) (h:Bd b l w) (hlen:l.length+s.length<=300000) :
 Calls Tryz.prog 194 #[.pointer (some ⟨b,0,none⟩),.string ⟨s.toArray⟩] w fun e w'=>e=.returned (.tuple #[.int .i64 s.length,.nilIface])/\Bd b (l++s) w'/\KeptB b w w':=by
 have HD:=zb h;have HL:=zb hlen;have hm:=h.1;clear h hlen;obtain⟨i0,hi,hz0,hz1,hz2⟩:=info_parts rB;have hs:(⟨s.toArray⟩:ByteArray).size=s.length:=rfl
 go_enter Tryz.func194, Tryz.ntmps194
 go_wp2_with (go_at_call 219; refine(rR b _ _ hm).mono ?_)
 rintro e w1 ⟨rfl,h1,hb1,hsz⟩;obtain⟨hB,v,hbk,hown,hne⟩:=h1;have c0:w1.cell? ⟨b,0,none⟩=some (.pointer (some ⟨b,0,none⟩)):=by rw[zf hbk];rfl
 have c1:w1.cell? ⟨b,1,none⟩=some v:=by rw[zf hbk];rfl
 have hlt:b<w1.heap.size:=by
  rcases Nat.lt_or_ge b w1.heap.size with h' | h'
  . exact h'
  . simp [Array.getElem?_eq_none h'] at hbk
 go_wp2_with (at_builtin;refine tY _ rfl _ _ 81 9 rfl b 5 i0 Tryz.underlying81 Tryz.underlying9 hi hz0 hz1 hz2 _ _ _ rfl hown ⟨s.toArray⟩ rfl ?c3 ?c4 ?c5 ?_)
 case c3=>have:=HL.out;rw[hs,Lib.byteCells_length];unfold maxLen;omega
 case c4=>have:=HL.out;rw[hs,Lib.byteCells_length];omega
 case c5=>omega
 intro v' w2 hown' hgrow hfar;have hb2:w2.heap[b]? = some (.cells #[.pointer (some ⟨b,0,none⟩),v] 83 (0,0)):=by
  rw[hgrow.block b hlt (fun e=>hne e.symm)];exact hbk
 have d0:w2.cell? ⟨b,0,none⟩=some (.pointer (some ⟨b,0,none⟩)):=by rw[zf hb2];rfl
 have d1:w2.cell? ⟨b,1,none⟩=some v:=by rw[zf hb2];rfl
 have f1:w2.frozen? ⟨b,1,none⟩=false:=Lib.frozen_of_heap hb2 1;obtain⟨ao,n',cap,rfl⟩:∃ ao n' cap,v'=.slice ao n' cap:=by
  rcases hown'.2 with⟨hv,_⟩ | ⟨g,cap,cur,hv,_⟩
  . exact⟨_,_,_,hv⟩
  . exact⟨_,_,_,hv⟩
 go_wp2
 go_ret2;refine⟨rfl,⟨Or.inr ?_,by simpa using HL.out⟩,?_⟩
 . rw[Lib.byteCells_append];exact Lib.BuilderAt.put (T := 83) (e := 5) hB hb2 (bs':=Lib.byteCells l++Lib.byteCells s) (by simpa [Lib.byteCells_length,qY,hs] using hown') (by decide)
 . refine hb1.trans (zdX hbk hgrow hb2 (by rw[hsz];exact hfar))
def Adds (l t l':List UInt8):Prop:=if l.length+t.length<=4096 then l'=l++t else 4096<l'.length
theorem Adds.nil (l:List UInt8):Adds l [] l:=by
 unfold Adds
 split
 . simp
 . simp_all
theorem Adds.trans {l t m s n:List UInt8} (h:Adds l t m) (k:Adds m s n):Adds l (t++s) n:=by
 unfold Adds at *;simp only[List.length_append]
 split at h
 . subst h;simp only[List.length_append] at k
   split <;> rename_i h2
   . rw[if_pos (by omega)] at k;rw[k,List.append_assoc]
   . rwa [if_neg (by omega)] at k
 . rw[if_neg (by omega)];rw[if_neg (by omega)] at k;exact k
def Put (b:Nat) (l t:List UInt8) (w w':World):Prop:=KeptB b w w'/\∃ l',Adds l t l'/\Bd b l' w'
theorem zey (b:Nat) (l:List UInt8) (w:World) (h:Bd b l w) :
 Calls Tryz.prog 83 #[.pointer (some ⟨b,0,none⟩)] w fun e w'=>e=.returned (.int .i64 l.length)/\w'=w:=by
 obtain⟨p,v,hbk,hown,hne⟩:=xu h.1;have c1:w.cell? ⟨b,1,none⟩=some v:=by rw[zf hbk];rfl
 rw[Lib.byteCells_length] at hown;obtain⟨ao,cap,rfl⟩:∃ ao cap,v=.slice ao l.length cap:=by
  rcases hown.2 with⟨hv,h0⟩ | ⟨g,cap,cur,hv,_⟩
  . exact⟨_,_,by rw[hv,h0]⟩
  . exact⟨_,_,hv⟩
 clear hown hne h
 go_enter Tryz.func83, Tryz.ntmps83
 go_wp2
 go_ret;exact⟨rfl,rfl⟩
theorem wG (b:Nat) (l s:List UInt8) (w:World) (h:Bd b l w) (hs:s.length<=100000) :
 Calls Tryz.prog 141 #[.pointer (some ⟨b,0,none⟩),.string ⟨s.toArray⟩] w fun e w'=>e=.returned (.tuple #[])/\Put b l s w w':=by
 have HD:=zb h;have HS:=zb hs;clear h hs
 go_enter Tryz.func141, Tryz.ntmps141
 by_cases hl:l.length<=4096
 . have t1:((l.length:Int)<=4096)=True:=eq_true (by omega)
   go_wp2_with (refine(zey b l _ HD.out).mono ?_)
   rintro e w1 ⟨rfl,rfl⟩
   go_wp2_with (refine(rM b l s _ HD.out (by have:=HS.out;omega)).mono ?_)
   rintro e w1 ⟨rfl,h1,h2⟩
   go_wp2
   go_end0
   refine⟨rfl,h2,l++s,?_,h1⟩;unfold Adds
   split
   . rfl
   . simp only[List.length_append];omega
 . have t1:((l.length:Int)<=4096)=False:=eq_false (by omega)
   go_wp2_with (refine(zey b l _ HD.out).mono ?_)
   rintro e w1 ⟨rfl,rfl⟩
   go_wp2
   go_end0
   refine⟨rfl,KeptX.refl _ b _,l,?_,HD.out⟩;unfold Adds
   split
   . omega
   . omega
end
section
open Go.RowKit
structure Sn where
 name:List UInt8
 n:Int
 s:List UInt8
 labels:List (List UInt8)
 args:List (Option (List UInt8))
 arms:List (Option (List UInt8))
def isUpN (l:List UInt8):Bool:=match l with
 | []=>false
 | c::r=>decide (65<=c.toNat)&&decide (c.toNat<=90)&&isNam (95::r)
def fieldsV:Bool->List (List UInt8)->List (Option (List UInt8))->Option (List UInt8×List (Option (List UInt8)))
 | _,[],az=>some ([],az)
 | more,l::ls,some t::az=>if isNam l then(fieldsV true ls az).map fun p=>((if more then [44,32] else [])++(l++([32,61,32]++(t++p.1))),p.2) else none
 | _,_::_,_=>none
def armsV:Bool->List (Option (List UInt8))->Option (List UInt8)
 | _,[]=>some []
 | more,some t::az=>(armsV true az).map fun u=>(if more then [32,124,32] else [])++(t++u)
 | _,none::_=>none
def stepV (c:Nat) (x:Sn):Option (List UInt8×Sn) :=
 if c=120 then(if isNam x.name then some (x.name,{ x with name:=[] }) else none)
 else if c=88 then(if isUpN x.name then some (x.name,{ x with name:=[] }) else none)
 else if c=78 then(if 0<=x.n/\x.n<4611686018427387904 then some (Lib.itoa x.n,{ x with n:=0 }) else none)
 else if c=84 then(if x.n=0 then some ([102,97,108,115,101],{ x with n:=0 }) else if x.n=1 then some ([116,114,117,101],{ x with n:=0 }) else none)
 else if c=83 then some (qall (x.s.take 4096),{ x with s:=[] })
 else if c=65∨c=66∨c=67 then(match x.args with
  | some t::az=>some (t,{ x with args:=az })
  | _=>none)
 else if c=76 then(fieldsV false x.labels x.args).map fun p=>(p.1,{ x with labels:=[],args:=p.2 })
 else if c=77 then(if x.arms=[] then none else(armsV false x.arms).map fun t=>(t,{ x with arms:=[] }))
 else some ([UInt8.ofNat c],x)
def Sn.zero (x:Sn):Bool:=decide (x.name=[])&&decide (x.n=0)&&decide (x.s=[])&&x.labels.isEmpty&&x.args.isEmpty&&x.arms.isEmpty
def formV:List UInt8->Sn->Option (List UInt8)
 | [],x=>if x.zero then some [] else none
 | c::f,x=>match stepV c.toNat x with
  | none=>none
  | some (t,y)=>(formV f y).map (t++·)
def putV (f:List UInt8) (x:Sn):Option (List UInt8):=if f=[] then none else formV f x
def pickV (n:Int) (l:List (List UInt8)):List UInt8:=if n<0 then [] else(l[n.toNat]?).getD []
def exprForms:List (List UInt8):=[
 [],
 [120],
 [78],
 [83],
 [84],
 [40,41],
 [88],
 [40,102,117,110,32,120,32,45,62,32,65,41],
 [40,65,32,66,41],
 [40,108,101,116,32,120,32,61,32,65,32,105,110,32,66,41],
 [40,108,101,116,32,114,101,99,32,120,32,61,32,65,32,105,110,32,66,41],
 [40,105,102,32,65,32,116,104,101,110,32,66,32,101,108,115,101,32,67,41],
 [123,76,125],
 [123,65,32,119,105,116,104,32,120,32,61,32,66,125],
 [65,46,120],
 [40,35,88,32,65,41],
 [40,109,97,116,99,104,32,65,32,119,105,116,104,32,77,32,101,110,100,41],
 [40,116,114,121,32,65,32,119,105,116,104,32,77,32,101,110,100,41],
 [40,114,97,105,115,101,32,65,41],
 [],
 [40,65,59,32,66,41],
 [40,65,32,38,38,32,66,41],
 [40,65,32,124,124,32,66,41]]
def opForms:List (List UInt8):=[
 [],
 [40,65,32,43,32,66,41],
 [40,65,32,45,32,66,41],
 [40,65,32,42,32,66,41],
 [40,65,32,47,32,66,41],
 [40,65,32,37,32,66,41],
 [40,45,32,65,41],
 [40,65,32,61,32,66,41],
 [40,65,32,60,32,66,41],
 [40,110,111,116,32,65,41],
 [40,114,101,102,32,65,41],
 [40,33,32,65,41],
 [40,65,32,58,61,32,66,41],
 [40,97,114,114,97,121,32,65,32,66,41],
 [40,103,101,116,32,65,32,66,41],
 [40,115,101,116,32,65,32,66,32,67,41],
 [40,108,101,110,32,65,41],
 [40,115,105,122,101,32,65,41],
 [40,98,121,116,101,32,65,32,66,41],
 [40,99,97,116,32,65,32,66,41],
 [40,103,101,116,99,32,65,41],
 [40,112,117,116,99,32,65,41]]
def patForms:List (List UInt8):=[
 [],
 [95],
 [120],
 [78],
 [83],
 [84],
 [40,41],
 [88],
 [40,35,88,32,65,41],
 [123,76,125]]
def funForm:List UInt8:=[102,117,110,32,120,32,45,62,32,65]
def patV (h:Hd) (args:List (Option (List UInt8))):Option (List UInt8) :=
 if h.kind=2/\h.name=[95] then none
 else if h.kind=3/\h.n<0 then putV [45,78] ⟨h.name,if h.n=-9223372036854775808 then h.n else -h.n,h.s,h.labels,args,[]⟩
 else putV (pickV h.kind patForms) ⟨h.name,h.n,h.s,h.labels,args,[]⟩
def funV (h:Hd) (args arms:List (Option (List UInt8))):Option (List UInt8):=if h.kind=7 then putV funForm ⟨h.name,h.n,h.s,h.labels,args,arms⟩ else none
def exprV (h:Hd) (args arms:List (Option (List UInt8))) (rec_:Option (List UInt8)):Option (List UInt8) :=
 if h.kind=19 then putV (pickV h.n opForms) ⟨h.name,0,h.s,h.labels,args,arms⟩
 else putV (pickV h.kind exprForms) ⟨h.name,h.n,h.s,h.labels,if h.kind=10 then(match args with | []=>[] | _::l=>rec_::l) else args,arms⟩
def armV (p b:Option (List UInt8)):Option (List UInt8):=match p,b with
 | some s,some t=>some (s++([32,45,62,32]++t))
 | _,_=>none
mutual
def showP:Nd->Option (List UInt8)
 | .mk h args _=>patV h (showPs args)
def showPs:List Nd->List (Option (List UInt8))
 | []=>[]
 | x::l=>showP x::showPs l
end
mutual
def showE:Nd->Option (List UInt8)
 | .mk h args arms=>exprV h (showEs args) (showAs arms) (showF args)
def showEs:List Nd->List (Option (List UInt8))
 | []=>[]
 | x::l=>showE x::showEs l
def showAs:List (Nd×Nd)->List (Option (List UInt8))
 | []=>[]
 | (p,b)::l=>armV (showP p) (showE b)::showAs l
def showF:List Nd->Option (List UInt8)
 | []=>none
 | .mk h args arms::_=>funV h (showEs args) (showAs arms)
end
def errEnd (n:Int):Ending:=.panicked [{ v:=.iface 28 (.int .i64 n),recovered:=false }]
def Wrote (b:Nat) (l:List UInt8) (r:Option (List UInt8)) (w:World) (e:Ending) (w':World):Prop:=match r with
 | some t=>e=.returned (.tuple #[])/\Put b l t w w'
 | none=>e=errEnd 5/\Below b w w'
end
section
open Go.RowKit
def Gives (r:Option (List UInt8)) (w:World) (e:Ending) (w':World):Prop:=Below w.heap.size w w'/\match r with
 | some t=>e=.returned (.string ⟨t.toArray⟩)
 | none=>e=errEnd 5
def Enters (g:FuncId):Prop:=∀(args:Array Value) (w:World),(callFunc g args).run Tryz.prog w=.ok (.enter g args) w
def yesV (c:Bool) (s:List UInt8):Option (List UInt8):=if c then some s else none
theorem xq (w:World):Calls Tryz.prog 93 #[.bool true] w fun e w'=>e=.returned (.tuple #[])/\w=w':=by
 go_enter Tryz.func93, Tryz.ntmps93
 go_wp2
 go_end0
 exact⟨rfl,rfl⟩
theorem yR (w:World):Calls Tryz.prog 93 #[.bool false] w fun e w'=>e=errEnd 5/\w=w':=by
 go_enter Tryz.func93, Tryz.ntmps93
 go_wp2
 exact⟨rfl,rfl,rfl⟩
theorem zeI (g:FuncId) (s:List UInt8) (c:Bool) (w:World) (eg:Enters g) (hg:Calls Tryz.prog g #[.string ⟨s.toArray⟩] w (YesMade c w)) :
 Calls Tryz.prog 142 #[.string ⟨s.toArray⟩,.func (.func g) #[] #[]] w (Gives (yesV c s) w):=by
 have HG:=zb hg;clear hg;unfold Enters at eg
 go_enter Tryz.func142, Tryz.ntmps142
 go_wp2_with (refine HG.out.mono ?_)
 rintro e w1 ⟨rfl,hb⟩;have HB:=zb hb;clear hb;cases c with
 | true =>
  go_wp2_with (refine(xq _).mono ?_)
  rintro e w2 ⟨rfl,rfl⟩
  go_wp2
  go_ret;exact⟨HB.out,rfl⟩
 | false =>
  go_wp2_with (refine(yR _).mono ?_)
  rintro e w2 ⟨rfl,rfl⟩;unfold errEnd
  go_wp2
  exact⟨rfl,HB.out,rfl⟩
theorem zcF:Enters 144 := enters_of Tryz.func144 (by kernel_rfl) rfl
theorem zbf:Enters 145 := enters_of Tryz.func145 (by kernel_rfl) rfl
theorem s_number (n:Int) (w:World) (h0:-9223372036854775808<=n) (h1:n<=9223372036854775807) (ht:Tab w) :
 Calls Tryz.prog 146 #[.int .i64 n] w (Gives (yesV (decide (0<=n)&&decide (n<4611686018427387904)) (Lib.itoa n)) w):=by
 have HT:=zb ht;have HW:=zb (word_Wrap n);have H0:=zb h0;have H1:=zb h1;clear ht h0 h1;by_cases hn:0<=n
 . have t1:(0<=n)=True:=eq_true hn;by_cases hm:n<4611686018427387904
   . have e2:W63 n=n:=by unfold W63;omega
     have t2:(n == W63 n)=true:=by rw[e2];simp
     have hy:yesV (decide (0<=n)&&decide (n<4611686018427387904)) (Lib.itoa n)=some (Lib.itoa n):=by simp [yesV,hn,hm]
     rw[hy];clear hy e2 hm hn
     go_enter Tryz.func146, Tryz.ntmps146
     go_wp2_with first | (refine(HW.out _).mono ?_;rintro e w1 ⟨rfl,rfl⟩) | (refine(xq _).mono ?_;rintro e w1 ⟨rfl,rfl⟩) | (refine(word_Text n _ H0.out H1.out HT.out).mono ?_;rintro e w1 ⟨rfl,hb⟩)
     go_ret;exact⟨hb,rfl⟩
   . have e2:W63 n≠n:=by unfold W63;omega
     have t2:(n == W63 n)=false:=by simpa using fun e=>e2 e.symm
     have hy:yesV (decide (0<=n)&&decide (n<4611686018427387904)) (Lib.itoa n)=none:=by simp [yesV,hn,hm]
     rw[hy];clear hy e2 hm hn
     go_enter Tryz.func146, Tryz.ntmps146
     go_wp2_with first | (refine(HW.out _).mono ?_;rintro e w1 ⟨rfl,rfl⟩) | (refine(yR _).mono ?_;rintro e w1 ⟨rfl,rfl⟩;unfold errEnd)
     exact⟨rfl,Below.refl _ _,rfl⟩
 . have t1:(0<=n)=False:=eq_false hn;have hy:yesV (decide (0<=n)&&decide (n<4611686018427387904)) (Lib.itoa n)=none:=by simp [yesV,hn]
   rw[hy];clear hy hn
   go_enter Tryz.func146, Tryz.ntmps146
   go_wp2_with first | (refine(HW.out _).mono ?_;rintro e w1 ⟨rfl,rfl⟩) | (refine(yR _).mono ?_;rintro e w1 ⟨rfl,rfl⟩;unfold errEnd)
   exact⟨rfl,Below.refl _ _,rfl⟩
def truthV (n:Int):Option (List UInt8):=if n=0 then some [102,97,108,115,101] else if n=1 then some [116,114,117,101] else none
theorem s_truth (n:Int) (w:World):Calls Tryz.prog 147 #[.int .i64 n] w (Gives (truthV n) w):=by
 by_cases h0:n=0
 . subst h0;have hy:truthV 0=some [102,97,108,115,101]:=rfl;rw[hy]
   go_enter Tryz.func147, Tryz.ntmps147
   go_wp2_with (refine(xq _).mono ?_;rintro e w1 ⟨rfl,rfl⟩)
   go_ret;exact⟨Below.refl _ _,rfl⟩
 . by_cases h1:n=1
   . subst h1;have hy:truthV 1=some [116,114,117,101]:=rfl;rw[hy]
     go_enter Tryz.func147, Tryz.ntmps147
     go_wp2_with (refine(xq _).mono ?_;rintro e w1 ⟨rfl,rfl⟩)
     go_ret;exact⟨Below.refl _ _,rfl⟩
   . have hy:truthV n=none:=by simp [truthV,h0,h1]
     have t0:(n == 0)=false:=by simpa using h0
     have t1:(n == 1)=false:=by simpa using h1
     rw[hy];clear hy h0 h1
     go_enter Tryz.func147, Tryz.ntmps147
     go_wp2_with (refine(yR _).mono ?_;rintro e w1 ⟨rfl,rfl⟩;unfold errEnd)
     exact⟨rfl,Below.refl _ _,rfl⟩
theorem zbF (q:Nat) (n:Int) (w:World) (hc:w.cell? ⟨q,1,none⟩=some (.int .i64 n)) (hf:w.frozen? ⟨q,1,none⟩=false) :
 Calls Tryz.prog 79 #[.pointer (some ⟨q,1,none⟩)] w fun e w'=>e=.returned (.int .i64 n)/\w'=w.setCell ⟨q,1,none⟩ (.int .i64 0):=by
 go_enter Tryz.func79, Tryz.ntmps79
 go_wp2
 go_ret;exact⟨rfl,rfl⟩
theorem zbp (q i:Nat) (l:List UInt8) (w:World) (hc:w.cell? ⟨q,i,none⟩=some (.string ⟨l.toArray⟩)) (hf:w.frozen? ⟨q,i,none⟩=false) :
 Calls Tryz.prog 143 #[.pointer (some ⟨q,i,none⟩)] w fun e w'=>e=.returned (.string ⟨l.toArray⟩)/\w'=w.setCell ⟨q,i,none⟩ (.string ⟨#[]⟩):=by
 go_enter Tryz.func143, Tryz.ntmps143
 go_wp2
 go_ret;exact⟨rfl,rfl⟩
theorem s_takeL (q:Nat) (a:Option Addr) (n c:Nat) (w:World) (hc:w.cell? ⟨q,3,none⟩=some (.slice a n c)) (hf:w.frozen? ⟨q,3,none⟩=false) :
 Calls Tryz.prog 198 #[.pointer (some ⟨q,3,none⟩)] w fun e w'=>e=.returned (.slice a n c)/\w'=w.setCell ⟨q,3,none⟩ (.slice none 0 0):=by
 go_enter Tryz.func198, Tryz.ntmps198
 go_wp2
 go_ret;exact⟨rfl,rfl⟩
theorem s_takeW (q:Nat) (a:Option Addr) (n c:Nat) (w:World) (hc:w.cell? ⟨q,5,none⟩=some (.slice a n c)) (hf:w.frozen? ⟨q,5,none⟩=false) :
 Calls Tryz.prog 199 #[.pointer (some ⟨q,5,none⟩)] w fun e w'=>e=.returned (.slice a n c)/\w'=w.setCell ⟨q,5,none⟩ (.slice none 0 0):=by
 go_enter Tryz.func199, Tryz.ntmps199
 go_wp2
 go_ret;exact⟨rfl,rfl⟩
end
section
open Go.RowKit
theorem str_take (s:List UInt8):(⟨s.toArray⟩:ByteArray).extract 0 (min (s.length:Int) 4096).toNat=⟨(s.take 4096).toArray⟩:=by
 have e:(min (s.length:Int) 4096).toNat=min s.length 4096:=by omega
 rw[e];apply ByteArray.ext;rw[ByteArray.data_extract];apply Array.ext';simp [Nat.min_comm]
theorem str_under (s:ByteArray):(⟨#[95]⟩:ByteArray)++s.extract 1 s.size=⟨(95::s.data.toList.tail).toArray⟩:=by
 apply ByteArray.ext;rw[ByteArray.data_append,ByteArray.data_extract];apply Array.ext';obtain⟨⟨l⟩⟩:=s;cases l with
 | nil=>rfl
 | cons c r =>
  simp [ByteArray.size]
theorem s_quoted (s:List UInt8) (w:World) (hs:s.length<=1000000):Calls Tryz.prog 148 #[.string ⟨s.toArray⟩] w (Gives (some (qall (s.take 4096))) w):=by
 have HQ:Hid (∀ W,Calls Tryz.prog 197 #[.string ⟨(s.take 4096).toArray⟩] W (StrMade (qall (s.take 4096)) W)):=zb fun W=>zde ⟨(s.take 4096).toArray⟩ W (by show(s.take 4096).toArray.size<=_;simp;omega);have HS:=zb hs;clear hs
 go_enter Tryz.func148, Tryz.ntmps148
 go_wp2_with fail
 rw[str_take];refine(HQ.out _).mono ?_;rintro e w1 ⟨rfl,hb⟩;have HB:=zb hb;clear hb HQ
 go_wp2
 go_ret;exact⟨HB.out,rfl⟩
theorem s_isUpper (s:ByteArray) (w:World) (hs:s.size<=140737488355327):Calls Tryz.prog 145 #[.string s] w (YesMade (isUpN s.data.toList) w):=by
 by_cases h0:0<s.size
 . have e0:s.toList.isEmpty=false:=by
    rw[yq,List.isEmpty_eq_false_iff];intro h9;have h8:s.size=0:=congrArg List.length h9;omega
   have e1:(s.toList == [])=false:=by rw[beq_eq_false_iff_ne];intro h9;rw[h9] at e0;cases e0
   have hix:=fun W=>wC s 0 h0 0 rfl W;have HN:Hid (∀ W,Calls Tryz.prog 144 #[.string ⟨(95::s.data.toList.tail).toArray⟩] W (YesMade (isNam (95::s.data.toList.tail)) W)):=zb fun W=>rj ⟨(95::s.data.toList.tail).toArray⟩ W;have HE:Hid (isUpN s.data.toList=(decide (65<=s[0].toNat)&&decide (s[0].toNat<=90)&&isNam (95::s.data.toList.tail))):=zb (by
    obtain⟨⟨l⟩⟩:=s;cases l with
    | nil=>exact absurd h0 (by decide)
    | cons c r=>rfl)
   go_enter Tryz.func145, Tryz.ntmps145
   generalize s[0]=c at *;by_cases t1:(65:Int)<=(c.toNat:Int)
   . by_cases t2:(c.toNat:Int)<=90
     . have T1:((65:Int)<=(c.toNat:Int))=True:=eq_true t1;have T2:((c.toNat:Int)<=90)=True:=eq_true t2;have HE2:Hid (isUpN s.data.toList=isNam (95::s.data.toList.tail)):=zb (by rw[HE.out,decide_eq_true (by omega),decide_eq_true (by omega)];rfl)
       go_wp2_with fail
       rw[str_under];refine(HN.out _).mono ?_;rintro e w1 ⟨rfl,hb⟩;have HB:=zb hb;clear hb HN;generalize isNam (95::s.data.toList.tail)=bb at *
       go_wp2_with fail
       go_ret;exact⟨by rw[HE2.out];rfl,HB.out⟩
     . have T1:((65:Int)<=(c.toNat:Int))=True:=eq_true t1;have T2:((c.toNat:Int)<=90)=False:=eq_false t2;have HE2:Hid (isUpN s.data.toList=false):=zb (by rw[HE.out,decide_eq_false (p:=c.toNat<=90) (by omega)];simp)
       go_wp2_with fail
       go_ret;exact⟨by rw[HE2.out];rfl,Below.refl _ _⟩
   . have T1:((65:Int)<=(c.toNat:Int))=False:=eq_false t1;have HE2:Hid (isUpN s.data.toList=false):=zb (by rw[HE.out,decide_eq_false (p:=65<=c.toNat) (by omega)];simp)
     go_wp2_with fail
     go_ret;exact⟨by rw[HE2.out];rfl,Below.refl _ _⟩
 . have e0:s.toList.isEmpty=true:=by
    rw[yq,List.isEmpty_iff];exact List.eq_nil_of_length_eq_zero (by show s.size=0;omega)
   have e1:(s.toList == [])=true:=by rw[beq_iff_eq,← List.isEmpty_iff];exact e0
   have HE:Hid (isUpN s.data.toList=false):=zb (by rw[wf s h0];rfl)
   go_enter Tryz.func145, Tryz.ntmps145
   go_wp2_with fail
   go_ret;exact⟨by rw[HE.out];rfl,Below.refl _ _⟩
end
section
open Go.RowKit
theorem zdj (n:Int) (g:Nat) (L:List (List UInt8)) (w:World) (_h0:L.length<=100) (hr:∀ i t,L[i]? = some t->w.cell? ⟨g,i,none⟩=some (.string ⟨t.toArray⟩)) :
 Calls Tryz.prog 140 #[.int .i64 n,.slice (some ⟨g,0,none⟩) L.length L.length] w fun e w'=>e=.returned (.string ⟨(pickV n L).toArray⟩)/\w'=w:=by
 have HR:=zb hr;clear hr;by_cases h1:n<0
 . have hy:pickV n L=[]:=by simp [pickV,h1]
   rw[hy];have t1:(n<0)=True:=eq_true h1;clear hy HR
   go_enter Tryz.func140, Tryz.ntmps140
   go_wp2_with fail
   go_ret;exact⟨rfl,rfl⟩
 . have t1:(n<0)=False:=eq_false h1;have t0:(0<=n)=True:=eq_true (by omega);by_cases h2:(L.length:Int)<=n
   . have hy:pickV n L=[]:=by
      have e:L[n.toNat]? = none:=by rw[List.getElem?_eq_none];omega
      simp [pickV,h1,e]
     rw[hy];have t2:((L.length:Int)<=n)=True:=eq_true h2;clear hy HR
     go_enter Tryz.func140, Tryz.ntmps140
     go_wp2_with fail
     go_ret;exact⟨rfl,rfl⟩
   . obtain⟨t,ht⟩:∃ t,L[n.toNat]? = some t:=by
      rcases hh:L[n.toNat]? with _ | t
      . rw[List.getElem?_eq_none_iff] at hh;omega
      . exact⟨t,rfl⟩
     have hy:pickV n L=t:=by simp [pickV,h1,ht]
     rw[hy];have hc:=HR.out _ _ ht;have t2:((L.length:Int)<=n)=False:=eq_false h2;have t3:(n<(L.length:Int))=True:=eq_true (by omega);have t4:(n.toNat<L.length)=True:=eq_true (by omega);clear hy HR ht
     go_enter Tryz.func140, Tryz.ntmps140
     go_wp2_with fail
     go_ret;exact⟨rfl,rfl⟩
theorem qj (w:World) (L:List (List UInt8)) (ty:TypeId) (i:Nat) (t:List UInt8) (h:L[i]? = some t):(w.alloc (.cells (strCells L).toArray ty (0,0))).cell? ⟨w.heap.size,i,none⟩=some (.string ⟨t.toArray⟩):=by
 have e:(w.alloc (.cells (strCells L).toArray ty (0,0))).heap[w.heap.size]? = some (.cells (strCells L).toArray ty (0,0)):=heap_alloc_new w _;rw[zf e];simp [strCells,h]
theorem s_patForm (n:Int) (w:World):Calls Tryz.prog 92 #[.int .i64 n] w fun e w'=>e=.returned (.string ⟨(pickV n patForms).toArray⟩)/\Below w.heap.size w w':=by
 have HP:=zb (zdj n w.heap.size patForms (w.alloc (.cells (strCells patForms).toArray 9 (0,0))) (by decide) (qj w patForms 9));have HB:=zb (zj (w:=w) (.cells (strCells patForms).toArray 9 (0,0)))
 go_enter Tryz.func92, Tryz.ntmps92
 go_wp2_with (refine HP.out.mono ?_;rintro e w1 ⟨rfl,rfl⟩)
 go_ret;exact⟨rfl,HB.out⟩
theorem s_opForm (n:Int) (w:World):Calls Tryz.prog 78 #[.int .i64 n] w fun e w'=>e=.returned (.string ⟨(pickV n opForms).toArray⟩)/\Below w.heap.size w w':=by
 have HP:=zb (zdj n w.heap.size opForms (w.alloc (.cells (strCells opForms).toArray 9 (0,0))) (by decide) (qj w opForms 9));have HB:=zb (zj (w:=w) (.cells (strCells opForms).toArray 9 (0,0)))
 go_enter Tryz.func78, Tryz.ntmps78
 go_wp2_with (refine HP.out.mono ?_;rintro e w1 ⟨rfl,rfl⟩)
 go_ret;exact⟨rfl,HB.out⟩
theorem zem (n:Int) (w:World):Calls Tryz.prog 77 #[.int .i64 n] w fun e w'=>e=.returned (.string ⟨(pickV n exprForms).toArray⟩)/\Below w.heap.size w w':=by
 have HP:=zb (zdj n w.heap.size exprForms (w.alloc (.cells (strCells exprForms).toArray 9 (0,0))) (by decide) (qj w exprForms 9));have HB:=zb (zj (w:=w) (.cells (strCells exprForms).toArray 9 (0,0)))
 go_enter Tryz.func77, Tryz.ntmps77
 go_wp2_with (refine HP.out.mono ?_;rintro e w1 ⟨rfl,rfl⟩)
 go_ret;exact⟨rfl,HB.out⟩
end
section
open Go.RowKit
def KT (w w':World):Prop:=∀(i:Nat) (cs:Array Value) (t:TypeId) (fr:Nat×Nat),w.heap[i]? = some (.cells cs t fr)->t≠83->t≠5->t≠136->t≠138->w'.heap[i]? = some (.cells cs t fr)
theorem KT.refl (w:World):KT w w:=fun _ _ _ _ h _ _ _ _=>h
theorem KT.trans {a b c:World} (h:KT a b) (k:KT b c):KT a c:=fun i cs t fr hi h1 h2 h3 h4=>k i cs t fr (h i cs t fr hi h1 h2 h3 h4) h1 h2 h3 h4
theorem KT.below {w w':World} (h:Below w.heap.size w w'):KT w w':=fun i _ _ _ hi _ _ _ _=>(h.block i (zp hi)).trans hi
theorem KT.kept {X:Nat->Prop} {b:Nat} {w w':World} {l:List UInt8} (h:KeptX X b w w') (hd:Bd b l w) (hx:∀ i,X i->∃ cs t fr,w.heap[i]? = some (.cells cs t fr)/\(t = 136∨t = 138)):KT w w':=fun i cs t fr hi h1 h2 h3 h4=>h.at_ hd hi (fun e=>by
 obtain⟨cs',t',fr',h5,h6⟩:=hx i e;rw[hi] at h5;injection h5 with h5;injection h5 with _ e5 _;rcases h6 with h6 | h6
 . exact h3 (e5.trans h6)
 . exact h4 (e5.trans h6)) h1 h2
theorem KT.set {w:World} {q i:Nat} {v:Value} {cs:Array Value} {t:TypeId} {fr:Nat×Nat} (h:w.heap[q]? = some (.cells cs t fr)) (ht:t = 136∨t = 138):KT w (w.setCell ⟨q,i,none⟩ v):=fun j cs' t' fr' hj _ _ h3 h4=>by
 refine(Below.heap_setCell _ _ _ _ (fun e=>?_)).trans hj;have e:j=q:=e;rw[e,h] at hj;injection hj with hj;injection hj with _ e5 _;rcases ht with ht | ht
 . exact h3 (e5.symm.trans ht)
 . exact h4 (e5.symm.trans ht)
theorem KT.grown {w w':World} {v:Value} {B n:Nat} {xs:List Value} (h:w.grownBy w' v.ownBlock) (ho:w.ownsRow B 138 1 v n xs):KT w w':=fun j cs t fr hj _ _ _ h4=>by
 refine(h.block j (zp hj) fun e=>?_).trans hj;rcases ho.2 with⟨hv,_⟩ | ⟨g,cap,cur,hv,_,hg,_⟩
 . rw[hv] at e;cases e
 . rw[hv] at e;simp only[Value.ownBlock,Option.some.injEq] at e;rw[e,hg] at hj;injection hj with hj;injection hj with _ e5 _;exact h4 e5.symm
def CapAt (w:World) (p3 p7:Nat) (g:FuncId) (ty:TypeId) (cs:List Value) (ty7:TypeId):Prop:=w.heap[p3]? = some (.cells #[.func (.func g) #[] #[]] ty (0,0))/\w.heap[p7]? = some (.cells cs.toArray ty7 (0,0))
def ClosE (b:Nat) (w:World) (f:Value) (x:Nd):Prop:=∃ p3 p7 s,f=.func (.func 192) #[] #[.pointer (some ⟨p3,0,none⟩),.pointer (some ⟨p7,0,none⟩)]/\CapAt w p3 p7 42 84 (exL x s) 27/\IsE w (fun i=>i<b) (exL x s) x
def ClosP (b:Nat) (w:World) (f:Value) (x:Nd):Prop:=∃ p3 p7 s,f=.func (.func 157) #[] #[.pointer (some ⟨p3,0,none⟩),.pointer (some ⟨p7,0,none⟩)]/\CapAt w p3 p7 49 89 (paL x s) 39/\IsP w (fun i=>i<b) (paL x s) x
def ClosA (b:Nat) (w:World) (f:Value) (x:Nd×Nd):Prop:=∃ p3 p7 s t,f=.func (.func 193) #[] #[.pointer (some ⟨p3,0,none⟩),.pointer (some ⟨p7,0,none⟩)]/\CapAt w p3 p7 139 182 (paL x.1 s++exL x.2 t) 77/\IsP w (fun i=>i<b) (paL x.1 s) x.1/\IsE w (fun i=>i<b) (exL x.2 t) x.2
theorem zt {b:Nat} {w w':World} (h:Below b w w'):Move w (fun i=>i<b) w' (fun i=>i<b):=fun g hg _=>⟨hg,h.block g hg⟩
theorem ClosE.keep {b:Nat} {w w':World} {f:Value} {x:Nd} (h:ClosE b w f x) (hk:KT w w') (hb:Below b w w'):ClosE b w' f x:=by
 obtain⟨p3,p7,s,h1,h2,h3⟩:=h;exact⟨p3,p7,s,h1,⟨hk _ _ _ _ h2.1 (by decide) (by decide) (by decide) (by decide),hk _ _ _ _ h2.2 (by decide) (by decide) (by decide) (by decide)⟩,h3.move (zt hb)⟩
theorem ClosP.keep {b:Nat} {w w':World} {f:Value} {x:Nd} (h:ClosP b w f x) (hk:KT w w') (hb:Below b w w'):ClosP b w' f x:=by
 obtain⟨p3,p7,s,h1,h2,h3⟩:=h;exact⟨p3,p7,s,h1,⟨hk _ _ _ _ h2.1 (by decide) (by decide) (by decide) (by decide),hk _ _ _ _ h2.2 (by decide) (by decide) (by decide) (by decide)⟩,h3.move (zt hb)⟩
theorem ClosA.keep {b:Nat} {w w':World} {f:Value} {x:Nd×Nd} (h:ClosA b w f x) (hk:KT w w') (hb:Below b w w'):ClosA b w' f x:=by
 obtain⟨p3,p7,s,t,h1,h2,h3,h4⟩:=h;exact⟨p3,p7,s,t,h1,⟨hk _ _ _ _ h2.1 (by decide) (by decide) (by decide) (by decide),hk _ _ _ _ h2.2 (by decide) (by decide) (by decide) (by decide)⟩,h3.move (zt hb),h4.move (zt hb)⟩
structure WGrow (α:Type) (C:World->Value->α->Prop) (w0:World) (p3:Nat) (fv:Value) (ty:TypeId) (l:List α) (k:Nat) (vo:Value) (w:World):Prop where
 below:Below w0.heap.size w0 w
 fn:w.heap[p3]? = some (.cells #[fv] ty (0,0))
 row:∃ fs:List Value,w.ownsRow w0.heap.size 138 1 vo k fs/\∀(i:Nat) (f:Value) (x:α),fs[i]? = some f->l[i]? = some x->C w f x
def WRow (w:World) (v:Value) (fs:List Value):Prop:=∃ a c,v=.slice a fs.length c/\fs.length<=c/\(fs=[]∨∃ g o cur fr,a=some ⟨g,o,none⟩/\w.heap[g]? = some (.cells cur 138 fr)/\∀ i f,fs[i]? = some f->cur[o+i]? = some f)
end
