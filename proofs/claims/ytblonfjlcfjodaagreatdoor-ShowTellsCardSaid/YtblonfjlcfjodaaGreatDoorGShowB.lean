/-
  show's exprNode: an expression's node, the closures of its parts.
-/
import Derived.Test.YtblonfjlcfjodaaGreatDoorSWri
namespace Go.Proofs.YtblonfjlcfjodaaGreatDoor
set_option linter.unusedSimpArgs false
set_option linter.unusedVariables false
set_option maxRecDepth 100000
set_option maxHeartbeats 4000000
section
open Go.RowKit
theorem WRow.below {w w':World} {v:Value} {fs:List Value} (h:WRow w v fs) (hb:Below w.heap.size w w'):WRow w' v fs:=by
 obtain⟨a,c,h1,h2,h3⟩:=h;refine⟨a,c,h1,h2,h3.imp id ?_⟩;rintro⟨g,o,cur,fr,h4,h5,h6⟩;exact⟨g,o,cur,fr,h4,(hb.block g (zp h5)).trans h5,h6⟩
theorem LookE.below {b:Nat} {w w':World} {aa:Option Addr} {l:List Nd} (h:LookE b w aa l) (hb:Below w.heap.size w w') (hw:b<=w.heap.size):LookE b w' aa l:=fun i x hx=>by
 obtain⟨g,o,t,h1,h2,h3,h4⟩:=h i x hx;exact⟨g,o,t,h1,zd h2 hb.size,h3.move (zt (hb.mono hw)),fun j u hu=>(ze (hb.block g h2)).trans (h4 j u hu)⟩
theorem LookP.below {b:Nat} {w w':World} {aa:Option Addr} {l:List Nd} (h:LookP b w aa l) (hb:Below w.heap.size w w') (hw:b<=w.heap.size):LookP b w' aa l:=fun i x hx=>by
 obtain⟨g,o,t,h1,h2,h3,h4⟩:=h i x hx;exact⟨g,o,t,h1,zd h2 hb.size,h3.move (zt (hb.mono hw)),fun j u hu=>(ze (hb.block g h2)).trans (h4 j u hu)⟩
theorem LookA.below {b:Nat} {w w':World} {aa:Option Addr} {l:List (Nd×Nd)} (h:LookA b w aa l) (hb:Below w.heap.size w w') (hw:b<=w.heap.size):LookA b w' aa l:=fun i x hx=>by
 obtain⟨g,o,t,r,h1,h2,h3,h5,h4⟩:=h i x hx;exact⟨g,o,t,r,h1,zd h2 hb.size,h3.move (zt (hb.mono hw)),h5.move (zt (hb.mono hw)),fun j u hu=>(ze (hb.block g h2)).trans (h4 j u hu)⟩
def Rows {α:Type} (C:World->Value->α->Prop) (l:List α) (w:World) (v:Value):Prop:=∃ fs:List Value,WRow w v fs/\fs.length=l.length/\∀(i:Nat) (f:Value) (x:α),fs[i]? = some f->l[i]? = some x->C w f x
theorem Rows.below {α:Type} {C:World->Value->α->Prop} {l:List α} {w w':World} {v:Value} (h:Rows C l w v) (hb:Below w.heap.size w w') (hC:∀ f x,C w f x->C w' f x):Rows C l w' v:=by
 obtain⟨fs,h1,h2,h3⟩:=h;exact⟨fs,h1.below hb,h2,fun i f x hf hx=>hC _ _ (h3 i f x hf hx)⟩
def Gone (b:Nat) (w1:World) (l:List Nd) (m:List (Nd×Nd)) (oe oa:Option Value) (W:World):Prop:=Below w1.heap.size w1 W/\(∀ v,oe=some v->Rows (ClosE b) l W v)/\(∀ v,oa=some v->Rows (ClosA b) m W v)/\(∀ v,oe=some v->RowOwn w1 W v)/\(∀ v,oa=some v->RowOwn w1 W v)/\(∀ v u,oe=some v->oa=some u->∀ k,v.ownBlock=some k->u.ownBlock≠some k)
theorem gone_none (b:Nat) (w:World) (l:List Nd) (m:List (Nd×Nd)):Gone b w l m none none w.drew:=⟨(Below.refl _ _).drew,(fun _ h=>by cases h),(fun _ h=>by cases h),(fun _ h=>by cases h),(fun _ h=>by cases h),(fun _ _ h=>by cases h)⟩
theorem gone_E {b:Nat} {w1 W:World} {l:List Nd} {m:List (Nd×Nd)} {oe oa:Option Value} (h:Gone b w1 l m oe oa W) (aa:Option Addr) (c:Nat) (hL:LookE b w1 aa l) (hb:b<=w1.heap.size) (hc:l.length<=c) (hn:l.length<=100000) :
 Calls Tryz.prog 137 #[.slice aa l.length c,.func (.func 42) #[] #[]] W (fun e W'=>∃ a1 c1,e=.returned (.slice a1 l.length c1)/\Gone b w1 l m (some (.slice a1 l.length c1)) oa W'/\Below W.heap.size W W'):=by
 obtain⟨h1,h2,h3,h4,h5,h6⟩:=h;refine(zdv b aa c l W (hL.below h1 hb) (Nat.le_trans hb h1.size) hc hn).mono ?_;rintro e W' ⟨hb',v,fs,rfl,hr,hl,hC,hO⟩;obtain⟨a1,c1,rfl,hc1,hd1⟩:=hr;have hr:WRow W' (.slice a1 l.length c1) fs:=⟨a1,c1,by rw[hl],hc1,hd1⟩;refine⟨a1,c1,by rw[hl],⟨h1.trans (hb'.mono h1.size),fun u hu=>?_,fun u hu=>?_,fun u hu=>?_,fun u hu=>?_,fun u z hu hz k hk=>?_⟩,hb'⟩
 . obtain rfl:=zc hu;exact⟨fs,hr,hl,hC⟩
 . exact(h3 u hu).below hb' fun f x hf=>hf.keep (KT.below hb') (hb'.mono (Nat.le_trans hb h1.size))
 . obtain rfl:=zc hu;rw[← hl];exact fun k hk=>⟨Nat.le_trans h1.size (hO k hk).1,(hO k hk).2⟩
 . exact(h5 u hu).below hb'
 . obtain rfl:=zc hu;rw[← hl] at hk;intro hz';have h7:=(hO k hk).1;obtain⟨_,cur,h8⟩:=h5 z hz k hz';have:=zp h8;omega
theorem gone_A {b:Nat} {w1 W:World} {l:List Nd} {m:List (Nd×Nd)} {oe oa:Option Value} (h:Gone b w1 l m oe oa W) (aa:Option Addr) (c:Nat) (hL:LookA b w1 aa m) (hb:b<=w1.heap.size) (hc:m.length<=c) (hn:m.length<=100000) :
 Calls Tryz.prog 138 #[.slice aa m.length c,.func (.func 139) #[] #[]] W (fun e W'=>∃ a1 c1,e=.returned (.slice a1 m.length c1)/\Gone b w1 l m oe (some (.slice a1 m.length c1)) W'/\Below W.heap.size W W'):=by
 obtain⟨h1,h2,h3,h4,h5,h6⟩:=h;refine(zdS b aa c m W (hL.below h1 hb) (Nat.le_trans hb h1.size) hc hn).mono ?_;rintro e W' ⟨hb',v,fs,rfl,hr,hl,hC,hO⟩;obtain⟨a1,c1,rfl,hc1,hd1⟩:=hr;have hr:WRow W' (.slice a1 m.length c1) fs:=⟨a1,c1,by rw[hl],hc1,hd1⟩;refine⟨a1,c1,by rw[hl],⟨h1.trans (hb'.mono h1.size),fun u hu=>?_,fun u hu=>?_,fun u hu=>?_,fun u hu=>?_,fun u z hu hz k hk=>?_⟩,hb'⟩
 . exact(h2 u hu).below hb' fun f x hf=>hf.keep (KT.below hb') (hb'.mono (Nat.le_trans hb h1.size))
 . obtain rfl:=zc hu;exact⟨fs,hr,hl,hC⟩
 . exact(h4 u hu).below hb'
 . obtain rfl:=zc hu;rw[← hl];exact fun k hk=>⟨Nat.le_trans h1.size (hO k hk).1,(hO k hk).2⟩
 . obtain rfl:=zc hz;intro hz';rw[← hl] at hz';have h7:=(hO k hz').1;obtain⟨_,cur,h8⟩:=h4 u hu k hk;have:=zp h8;omega
structure NodeE (b:Nat) (w0 w:World) (q:Nat) (x:Nd) (s:Sl):Prop where
 ex:∃ ve va,RowOwn w0 w ve/\(∀ k,ve.ownBlock=some k->va.ownBlock≠some k)/\w.heap[q]? = some (.cells #[.string ⟨x.hd.name.toArray⟩,.int .i64 x.hd.n,.string ⟨x.hd.s.toArray⟩,.slice s.la x.hd.labels.length s.lc,ve,va] 136 (0,0))/\(∃ a c,ve=.slice a x.args.length c)/\(∃ a c,va=.slice a x.arms.length c)/\Rows (ClosE b) x.args w ve/\Rows (ClosA b) x.arms w va
theorem rx (b:Nat) (x:Nd) (s:Sl) (w:World) (hx:IsE w (fun i=>i<b) (exL x s) x) (hb:b<=w.heap.size) (hn:x.args.length<=100000) (hm:x.arms.length<=100000) (hac:x.args.length<=s.ac) (hrc:x.arms.length<=s.rc) :
 Calls Tryz.prog 76 #[exOf x s] w (fun e w'=>∃ q,e=.returned (.pointer (some ⟨q,0,none⟩))/\Below w.heap.size w w'/\w.heap.size<=q/\NodeE b w w' q x s):=by
 obtain⟨-,-,-,-,hle,hla⟩:=hx.look;have hb1:=zj (w:=w) (exObj x s);have HB1:=zb hb1;have HLE:=zb (show LookE b (w.alloc (exObj x s)) s.aa x.args from LookE.below hle hb1 hb)
 have HLA:=zb (show LookA b (w.alloc (exObj x s)) s.ra x.arms from LookA.below hla hb1 hb)
 have HBS:Hid (b<=(w.alloc (exObj x s)).heap.size):=zb (Nat.le_trans hb hb1.size);have HLT:Hid (w.heap.size<(w.alloc (exObj x s)).heap.size):=zb (by simp);have HX:Hid (ExBox (w.alloc (exObj x s)) w.heap.size x s):=zb (ExBox.new w x s);have HNM:Hid (x.args.length<=100000/\x.arms.length<=100000/\x.args.length<=s.ac/\x.arms.length<=s.rc):=zb ⟨hn,hm,hac,hrc⟩;clear hx hb hn hm hac hrc hle hla hb1;unfold exOf exV
 go_enter Tryz.func76, Tryz.ntmps76
 go_upto_region 1 with fail
 have HT:Hid (Gone b (w.alloc (exObj x s)) x.args x.arms none none (w.alloc (exObj x s)).drew):=zb (gone_none _ _ _ _);obtain⟨k0,k1,k2,k3,k4,k5,k6,k7,kf⟩:=Box8.cells HX.out;generalize w.alloc (exObj x s)=w1 at *;generalize HQ0:w.heap.size=q0 at *;have HQ:=zb HQ0;clear HQ0;clear kf
 go_region_held3 (fun W=>W.cell? ⟨q0,2,none⟩=some (.string ⟨x.hd.name.toArray⟩)/\W.cell? ⟨q0,3,none⟩=some (.int .i64 x.hd.n)/\W.cell? ⟨q0,4,none⟩=some (.string ⟨x.hd.s.toArray⟩)/\W.cell? ⟨q0,5,none⟩=some (.slice s.la x.hd.labels.length s.lc)/\W.cell? ⟨q0,6,none⟩=some (.slice s.aa x.args.length s.ac)/\W.cell? ⟨q0,7,none⟩=some (.slice s.ra x.arms.length s.rc)) (go_keep)
  (first | (go_at_call 137; refine(gone_E HT.out s.aa s.ac HLE.out HBS.out HNM.out.2.2.1 HNM.out.1).mono ?_;rintro e W1 ⟨ae,ce,rfl,hg,hb9⟩;have HT':=zb hg;clear HT hg hb9;have HT:=HT';clear HT';obtain⟨-,-,j2,j3,j4,j5,j6,j7,-⟩:=Box8.cells (Box8.below HX.out HT.out.1)) | (go_at_call 138; refine(gone_A HT.out s.ra s.rc HLA.out HBS.out HNM.out.2.2.2 HNM.out.2.1).mono ?_;rintro e W2 ⟨ar,cr,rfl,hg,hb9⟩;have HT':=zb hg;clear HT hg hb9;have HT:=HT';clear HT';obtain⟨-,-,i2,i3,i4,i5,i6,i7,-⟩:=Box8.cells (Box8.below HX.out HT.out.1)))
 clear j2 j3 j4 j5 j6 j7 i2 i3 i4 i5 i6 i7 k0 k1 k2 k3 k4 k5 k6 k7
 go_wp2_with fail
 go_ret;obtain rfl:=HQ.out;have hb9:=zj (w:=W2) (.cells #[.string ⟨x.hd.name.toArray⟩,.int .i64 x.hd.n,.string ⟨x.hd.s.toArray⟩,.slice s.la x.hd.labels.length s.lc,.slice ae x.args.length ce,.slice ar x.arms.length cr] 136 (0,0));have hbw:=Nat.le_trans HBS.out HT.out.1.size;refine⟨W2.heap.size,rfl,(HB1.out.trans (HT.out.1.mono (Nat.le_of_lt HLT.out))).trans (hb9.mono (Nat.le_trans (Nat.le_of_lt HLT.out) HT.out.1.size)),Nat.le_trans (Nat.le_of_lt HLT.out) HT.out.1.size,_,_,fun k hk=>⟨Nat.le_trans (Nat.le_of_lt HLT.out) ((HT.out.2.2.2.1 _ rfl).below hb9 k hk).1,((HT.out.2.2.2.1 _ rfl).below hb9 k hk).2⟩,HT.out.2.2.2.2.2 _ _ rfl rfl,heap_alloc_new W2 _,⟨_,_,rfl⟩,⟨_,_,rfl⟩,?_,?_⟩
 . exact(HT.out.2.1 _ rfl).below hb9 fun f y hf=>hf.keep (KT.below hb9) (hb9.mono hbw)
 . exact(HT.out.2.2.1 _ rfl).below hb9 fun f y hf=>hf.keep (KT.below hb9) (hb9.mono hbw)
end
section
open Go.RowKit
def Writer (b:Nat) (w:World) (f:Value) (r:Option (List UInt8)):Prop:=∃(g:FuncId) (lb:Array Value),f=.func (.func g) #[] lb/\Enters g/\∀(w':World) (l:List UInt8),KT w w'->Below b w w'->Bd b l w'->Calls Tryz.prog g (#[.pointer (some ⟨b,0,none⟩)]++lb) w' (Wrote b l r w')
theorem Writer.keep {b:Nat} {w v:World} {f:Value} {r:Option (List UInt8)} (h:Writer b w f r) (hk:KT w v) (hb:Below b w v):Writer b v f r:=by
 obtain⟨g,lb,h1,h2,h3⟩:=h;exact⟨g,lb,h1,h2,fun w' l k1 k2 k3=>h3 w' l (hk.trans k1) (hb.trans k2) k3⟩
def WRows (b:Nat) (w:World) (a:Option Addr) (c:Nat) (rs:List (Option (List UInt8))):Prop:=Rows (Writer b) rs w (.slice a rs.length c)
structure NodeAt (b:Nat) (w:World) (q:Nat) (x:Sn) (la:Option Addr) (lc:Nat) (aa:Option Addr) (ac:Nat) (ra:Option Addr) (rc:Nat):Prop where
 block:w.heap[q]? = some (.cells #[.string ⟨x.name.toArray⟩,.int .i64 x.n,.string ⟨x.s.toArray⟩,.slice la x.labels.length lc,.slice aa x.args.length ac,.slice ra x.arms.length rc] 136 (0,0))
 above:b<=q
 labels:RowIn w (fun i=>i<b) 9 1 (.slice la x.labels.length lc) x.labels.length (strCells x.labels)
 args:WRows b w aa ac x.args
 arms:WRows b w ra rc x.arms
def Sn.small (x:Sn):Prop:=x.name.length<=70000/\x.s.length<=70000/\x.labels.length<=70000/\(∀ t∈x.labels,t.length<=70000)/\x.args.length<=70000/\x.arms.length<=70000/\-9223372036854775808<=x.n/\x.n<=9223372036854775807
theorem WRow.kept {X:Nat->Prop} {b:Nat} {w w':World} {l:List UInt8} {v:Value} {fs:List Value} (h:WRow w v fs) (hk:KeptX X b w w') (hd:Bd b l w) (hx:∀ i,X i->∃ cs fr,w.heap[i]? = some (.cells cs 136 fr)):WRow w' v fs:=by
 obtain⟨a,c,h1,h2,h3⟩:=h;refine⟨a,c,h1,h2,h3.imp id ?_⟩;rintro⟨g,o,cur,fr,h4,h5,h6⟩;refine⟨g,o,cur,fr,h4,hk.at_ hd h5 (fun e=>?_),h6⟩;obtain⟨cs,fr',h7⟩:=hx g e;rw[h5] at h7;injection h7 with h7;injection h7 with _ e7 _;exact absurd e7 (by decide)
theorem WRows.kept {X:Nat->Prop} {b:Nat} {w w':World} {l:List UInt8} {a:Option Addr} {c:Nat} {rs:List (Option (List UInt8))} (h:WRows b w a c rs) (hk:KeptX X b w w') (hd:Bd b l w) (hx:∀ i,X i->∃ cs fr,w.heap[i]? = some (.cells cs 136 fr)) (hb:∀ i,X i->b<=i):WRows b w' a c rs:=by
 obtain⟨fs,h1,h2,h3⟩:=h;exact⟨fs,h1.kept hk hd hx,h2,fun i f x hf hx'=>(h3 i f x hf hx').keep (KT.kept hk hd fun i e=>by
  obtain⟨cs,fr,h⟩:=hx i e;exact⟨cs,_,fr,h,Or.inl rfl⟩) (hk.under hd hb)⟩
theorem NodeAt.kept {b q:Nat} {w w':World} {l:List UInt8} {x:Sn} {la aa ra:Option Addr} {lc ac rc:Nat} (h:NodeAt b w q x la lc aa ac ra rc) (hk:KeptB b w w') (hd:Bd b l w):NodeAt b w' q x la lc aa ac ra rc :=
 ⟨hk.at_ hd h.block id,h.above,h.labels.move (zt (hk.under hd fun _ h=>h.elim)),h.args.kept hk hd (fun _ h=>h.elim) (fun _ h=>h.elim),h.arms.kept hk hd (fun _ h=>h.elim) (fun _ h=>h.elim)⟩
def Stepped (b q:Nat) (l:List UInt8) (r:Option (List UInt8×Sn)) (w:World) (e:Ending) (w':World):Prop:=match r with
 | none=>e=errEnd 5/\Below b w w'
 | some (t,y)=>e=.returned (.tuple #[])/\KeptX (fun i=>i=q) b w w'/\(∃ l',Adds l t l'/\Bd b l' w')/\∃ la lc aa ac ra rc,NodeAt b w' q y la lc aa ac ra rc
def argV (x:Sn):Option (List UInt8×Sn):=match x.args with
 | some t::az=>some (t,{ x with args:=az })
 | _=>none
theorem yA {b q i:Nat} {w:World} {v:Value} {l:List UInt8} {cs:Array Value} (hq:w.heap[q]? = some (.cells cs 136 (0,0))) (hd:Bd b l w) (hb:b<=q) :
 Bd b l (w.setCell ⟨q,i,none⟩ v)/\KeptX (fun i=>i=q) b w (w.setCell ⟨q,i,none⟩ v)/\Below b w (w.setCell ⟨q,i,none⟩ v)/\KT w (w.setCell ⟨q,i,none⟩ v):=by
 have hn:¬IsB b w q:=hd.other hq (by decide) (by decide);exact⟨hd.set hn,KeptX.set rfl (fun e=>hn (Or.inl e)),(Below.refl b w).setCell (p:=⟨q,i,none⟩) hb v,KT.set hq (Or.inl rfl)⟩
theorem WRow.set {q i:Nat} {w:World} {u v:Value} {fs:List Value} {cs:Array Value} (h:WRow w v fs) (hq:w.heap[q]? = some (.cells cs 136 (0,0))):WRow (w.setCell ⟨q,i,none⟩ u) v fs:=by
 obtain⟨a,c,h1,h2,h3⟩:=h;refine⟨a,c,h1,h2,h3.imp id ?_⟩;rintro⟨g,o,cur,fr,h4,h5,h6⟩;refine⟨g,o,cur,fr,h4,(Below.heap_setCell _ _ _ _ fun e=>?_).trans h5,h6⟩;have e:g=q:=e;subst e;rw[h5] at hq;injection hq with hq;injection hq with _ e7 _;exact absurd e7 (by decide)
theorem WRows.set {b q i:Nat} {w:World} {u:Value} {l:List UInt8} {a:Option Addr} {c:Nat} {rs:List (Option (List UInt8))} {cs:Array Value} (h:WRows b w a c rs) (hq:w.heap[q]? = some (.cells cs 136 (0,0))) (hd:Bd b l w) (hb:b<=q):WRows b (w.setCell ⟨q,i,none⟩ u) a c rs:=by
 obtain⟨fs,h1,h2,h3⟩:=h;obtain⟨_,_,h4,h5⟩:=yA (i:=i) (v:=u) hq hd hb;exact⟨fs,h1.set hq,h2,fun i f x hf hx'=>(h3 i f x hf hx').keep h5 h4⟩
theorem zcE {b q:Nat} {x:Sn} {la aa ra a2:Option Addr} {lc ac rc c2:Nat} {l:List UInt8} {w:World} {rest:List (Option (List UInt8))} (h:NodeAt b w q x la lc aa ac ra rc) (hd:Bd b l w) (hr:WRows b w a2 c2 rest) :
 NodeAt b (w.setCell ⟨q,4,none⟩ (.slice a2 rest.length c2)) q { x with args:=rest } la lc a2 c2 ra rc:=by
 obtain⟨_,_,h4,_⟩:=yA (i:=4) (v:=.slice a2 rest.length c2) h.block hd h.above;refine⟨?_,h.above,h.labels.move (zt h4),hr.set h.block hd h.above,h.arms.set h.block hd h.above⟩;rw[zn h.block 4 _];rfl
theorem rows_rest {b g o ac:Nat} {w:World} {cur:Array Value} {fr:Nat×Nat} {f:Value} {fs:List Value} {r:Option (List UInt8)} {rest:List (Option (List UInt8))} (hg:w.heap[g]? = some (.cells cur 138 fr)) (hc:∀(i:Nat) (f':Value),(f::fs)[i]? = some f'->cur[o+i]? = some f') (hw:∀(i:Nat) (f':Value) (x:Option (List UInt8)),(f::fs)[i]? = some f'->(r::rest)[i]? = some x->Writer b w f' x) (hl:(f::fs).length=(r::rest).length) (hn:rest.length+1<=ac) :
 WRows b w (some ⟨g,o+1,none⟩) (ac-1) rest:=by
 have hl':fs.length=rest.length:=by simpa using hl
 refine⟨fs,⟨_,_,by rw[hl'],by omega,Or.inr ⟨g,o+1,cur,fr,rfl,hg,fun i f' hf=>?_⟩⟩,hl',fun i f' x hf hx=>hw (i+1) f' x hf hx⟩;have:=hc (i+1) f' hf
 rwa [show o+(i+1)=o+1+i by omega] at this
theorem qI (b:Nat) (w:World) (a:Option Addr) (c:Nat):WRows b w a c []:=⟨[],⟨_,_,rfl,Nat.zero_le _,Or.inl rfl⟩,rfl,fun _ _ _ h=>by simp at h⟩
theorem zcg {b q:Nat} {l:List UInt8} {r:Option (List UInt8)} {y:Sn} {la aa ra:Option Addr} {lc ac rc:Nat} {w w1 w2:World} {e:Ending} (hq:KeptX (fun i=>i=q) b w w1) (hb:Below b w w1) (hd:Bd b l w1) (hn:NodeAt b w1 q y la lc aa ac ra rc) (h:Wrote b l r w1 e w2) :
 Stepped b q l (r.map fun t=>(t,y)) w e w2:=by
 cases r with
 | none=>exact⟨h.1,hb.trans h.2⟩
 | some t =>
  obtain⟨h1,h2,l',h3,h4⟩:=h;exact⟨h1,hq.trans (KeptX.of h2),⟨l',h3,h4⟩,_,_,_,_,_,_,hn.kept h2 hd⟩
theorem vG (b q:Nat) (x:Sn) (la aa ra:Option Addr) (lc ac rc:Nat) (l:List UInt8) (w:World) (h:NodeAt b w q x la lc aa ac ra rc) (hd:Bd b l w) (hs:x.args.length<=70000) :
 Calls Tryz.prog 149 #[.pointer (some ⟨q,0,none⟩),.pointer (some ⟨b,0,none⟩)] w (Stepped b q l (argV x) w):=by
 have hk4:w.cell? ⟨q,4,none⟩=some (.slice aa x.args.length ac):=by rw[zf h.block];rfl
 have hf4:w.frozen? ⟨q,4,none⟩=false:=Lib.frozen_of_heap h.block 4;have HD:=zb hd;have HH:=zb h;clear h hd;rcases ha:x.args with _ | ⟨r,rest⟩
 . have hv:argV x=none:=by simp [argV,ha]
   rw[hv];rw[ha] at hk4 hs;clear hv ha HH
   go_enter Tryz.func149, Tryz.ntmps149
   go_wp2_with (refine(yR _).mono ?_;rintro e w1 ⟨rfl,rfl⟩;unfold errEnd)
   exact⟨rfl,rfl,Below.refl _ _⟩
 . obtain⟨fs,⟨a,c,h1,h2,h3⟩,h4,h5⟩:=HH.out.args;rw[ha] at h4 h5 hk4 hs;rcases fs with _ | ⟨f,fs'⟩
   . cases h4
   . obtain⟨g,o,cur,fr,rfl,h6,h7⟩:∃ g o cur fr,aa=some ⟨g,o,none⟩/\w.heap[g]? = some (.cells cur 138 fr)/\∀ i f',(f::fs')[i]? = some f'->cur[o+i]? = some f':=by
      rcases h3 with h3 | ⟨g,o,cur,fr,e1,e2,e3⟩
      . cases h3
      . injection h1 with e4;exact⟨g,o,cur,fr,e4.trans e1,e2,e3⟩
     have hcap:rest.length+1<=ac:=by
      injection h1 with _ _ e6;rw[List.length_cons] at h2 h4;rw[List.length_cons] at h4;omega
     obtain⟨gf,lb,rfl,eg,hcall⟩:=h5 0 f r rfl rfl;have hc0:w.cell? ⟨g,o,none⟩=some (.func (.func gf) #[] lb):=by
      rw[zf h6];exact h7 0 _ rfl
     have hv:argV x=r.map fun t=>(t,{ x with args:=rest }):=by
      unfold argV;rw[ha];cases r <;> rfl
     rw[hv];have HNB:=zb (fun (v:Value)=>yA (i:=4) (v:=v) HH.out.block HD.out HH.out.above);have HR:=zb (rows_rest h6 h7 h5 h4 hcap);have HG:=zb h6;have HF:=zb h7;have H5:=zb h5;have H4:=zb h4;have HC:=zb hcall;have HA:=zb ha;have hnr:(0:Int)<=(rest.length:Int):=by omega
     unfold Enters at eg;clear h1 h2 h3 h4 h5 h6 h7 hcall ha
     go_enter Tryz.func149, Tryz.ntmps149
     clear hv HG HF H5 H4 HA;by_cases hac:ac=1
     . obtain rfl:rest=[]:=by
        rw[← List.length_eq_zero_iff];omega
       subst hac
       go_wp2_with (go_at_call 93; refine(xq _).mono ?_;rintro e w1 ⟨rfl,rfl⟩)
       obtain⟨n1,n2,n3,n4⟩:=HNB.out (.slice (some ⟨g,o,none⟩) 0 0);refine(HC.out _ l n4 n3 n1).mono ?_;intro e w2 hw;have HW:=zb (zcg n2 n3 n1 (zcE HH.out HD.out (qI b w (some ⟨g,o,none⟩) 0)) hw);clear n1 n2 n3 n4 hw HC HNB HR HH;cases r with
       | none =>
        obtain⟨rfl,-⟩:=id HW.out;unfold errEnd
        go_wp2
        exact⟨rfl,HW.out⟩
       | some t =>
        obtain⟨rfl,-⟩:=id HW.out
        go_wp2
        go_end0
        exact HW.out
     . go_wp2_with (go_at_call 93; refine(xq _).mono ?_;rintro e w1 ⟨rfl,rfl⟩)
       obtain⟨n1,n2,n3,n4⟩:=HNB.out (.slice (some ⟨g,o+1,none⟩) rest.length (ac-1));refine(HC.out _ l n4 n3 n1).mono ?_;intro e w2 hw;have HW:=zb (zcg n2 n3 n1 (zcE HH.out HD.out HR.out) hw);clear n1 n2 n3 n4 hw HC HNB HR HH;cases r with
       | none =>
        obtain⟨rfl,-⟩:=id HW.out;unfold errEnd
        go_wp2
        exact⟨rfl,HW.out⟩
       | some t =>
        obtain⟨rfl,-⟩:=id HW.out
        go_wp2
        go_end0
        exact HW.out
end
section
open Go.RowKit
structure MidW (b q:Nat) (l:List UInt8) (y:Sn) (t:List UInt8) (w wr:World):Prop where
 kept:KeptX (fun i=>i=q) b w wr
 text:∃ m,Adds l t m/\Bd b m wr
 node:∃ la lc aa ac ra rc,NodeAt b wr q y la lc aa ac ra rc
theorem MidW.put {b q:Nat} {l m t s:List UInt8} {y:Sn} {w wr v:World} (h:MidW b q l y t w wr) (ha:Adds l t m) (hd:Bd b m wr) (hp:Put b m s wr v):MidW b q l y (t++s) w v:=by
 obtain⟨h1,n,h2,h3⟩:=hp;obtain⟨la,lc,aa,ac,ra,rc,hn⟩:=h.node;exact⟨h.kept.trans (KeptX.of h1),⟨n,ha.trans h2,h3⟩,_,_,_,_,_,_,hn.kept h1 hd⟩
theorem MidW.below {b q:Nat} {l t:List UInt8} {y:Sn} {w wr:World} (h:MidW b q l y t w wr) {l0:List UInt8} (hd:Bd b l0 w):Below b w wr:=by
 obtain⟨la,lc,aa,ac,ra,rc,hn⟩:=h.node;exact h.kept.under hd fun i e=>by rw[e];exact hn.above
theorem MidW.stepped {b q:Nat} {l t:List UInt8} {y:Sn} {w wr:World} {e:Ending} (h:MidW b q l y t w wr) (he:e=.returned (.tuple #[])):Stepped b q l (some (t,y)) w e wr:=⟨he,h.kept,h.text,h.node⟩
theorem zbC {b i:Nat} {w:World} {a:Option Addr} {c:Nat} {rs:List (Option (List UInt8))} {r:Option (List UInt8)} (h:WRows b w a c rs) (hi:rs[i]? = some r):∃ g o gf lb,a=some ⟨g,o,none⟩/\w.cell? ⟨g,o+i,none⟩=some (.func (.func gf) #[] lb)/\Enters gf/\∀(w':World) (l:List UInt8),KT w w'->Below b w w'->Bd b l w'->Calls Tryz.prog gf (#[.pointer (some ⟨b,0,none⟩)]++lb) w' (Wrote b l r w'):=by
 obtain⟨fs,⟨a',c',h1,h2,h3⟩,h4,h5⟩:=h;have hil:i<fs.length:=by rw[h4];exact(List.getElem?_eq_some_iff.1 hi).1
 rcases h3 with h3 | ⟨g,o,cur,fr,h6,h7,h8⟩
 . subst h3;simp at hil
 . obtain⟨f,hf⟩:∃ f,fs[i]? = some f:=⟨_,List.getElem?_eq_getElem hil⟩;obtain⟨gf,lb,rfl,h9,h10⟩:=h5 i f r hf hi;injection h1 with h1;exact⟨g,o,gf,lb,h1.trans h6,by rw[zf h7];exact h8 i _ hf,h9,h10⟩
theorem rows_cap {b:Nat} {w:World} {a:Option Addr} {c:Nat} {rs:List (Option (List UInt8))} (h:WRows b w a c rs):rs.length<=c:=by
 obtain⟨fs,⟨a',c',h1,h2,_⟩,h4,_⟩:=h;injection h1 with _ _ h1;omega
def armsStepV (x:Sn):Option (List UInt8×Sn):=if x.arms=[] then none else(armsV false x.arms).map fun t=>(t,{ x with arms:=[] })
theorem zcS {az:List (Option (List UInt8))} {i:Nat} {r:Option (List UInt8)} (h:az[i]? = some r):az.drop i=r::az.drop (i+1):=by
 obtain⟨hi,rfl⟩:=List.getElem?_eq_some_iff.1 h;exact List.drop_eq_getElem_cons hi
theorem qJ {az:List (Option (List UInt8))} {i:Nat} {t:List UInt8} (h:az[i]? = some none) (ht:armsV false az=(armsV (decide (0<i)) (az.drop i)).map (t++·)):armsV false az=none:=by
 rw[ht,zcS h];rfl
theorem sZ {az:List (Option (List UInt8))} {i:Nat} {s t:List UInt8} (h:az[i]? = some (some s)) (ht:armsV false az=(armsV (decide (0<i)) (az.drop i)).map (t++·)) :
 armsV false az=(armsV (decide (0<i+1)) (az.drop (i+1))).map (((t++(if 0<i then [32,124,32] else []))++s)++·):=by
 rw[ht,zcS h];show Option.map _ ((armsV true (az.drop (i+1))).map _)=_;rw[show decide (0<i+1)=true from decide_eq_true (by omega)]
 cases armsV true (az.drop (i+1)) with
 | none=>rfl
 | some u=>by_cases h0:0<i <;> simp [h0]
theorem MidW.wrote {b q:Nat} {l m t s:List UInt8} {y:Sn} {w wr v:World} {e:Ending} (h:MidW b q l y t w wr) (ha:Adds l t m) (hd:Bd b m wr) (hp:Wrote b m (some s) wr e v):MidW b q l y (t++s) w v:=h.put ha hd hp.2
theorem zas {b q:Nat} {x:Sn} {la aa ra:Option Addr} {lc ac rc:Nat} {l:List UInt8} {w:World} (h:NodeAt b w q x la lc aa ac ra rc) (hd:Bd b l w) :
 NodeAt b (w.setCell ⟨q,5,none⟩ (.slice none 0 0)) q { x with arms:=[] } la lc aa ac none 0:=by
 obtain⟨_,_,h4,_⟩:=yA (i:=5) (v:=.slice none 0 0) h.block hd h.above;refine⟨?_,h.above,h.labels.move (zt h4),h.args.set h.block hd h.above,qI _ _ _ _⟩;rw[zn h.block 5 _];rfl
theorem s_putArms (b q:Nat) (x:Sn) (la aa ra:Option Addr) (lc ac rc:Nat) (l:List UInt8) (w:World) (h:NodeAt b w q x la lc aa ac ra rc) (hd:Bd b l w) (hs:x.arms.length<=70000) :
 Calls Tryz.prog 151 #[.pointer (some ⟨q,0,none⟩),.pointer (some ⟨b,0,none⟩)] w (Stepped b q l (armsStepV x) w):=by
 have hk5:w.cell? ⟨q,5,none⟩=some (.slice ra x.arms.length rc):=by rw[zf h.block];rfl
 have hf5:w.frozen? ⟨q,5,none⟩=false:=Lib.frozen_of_heap h.block 5;have hcap:=rows_cap h.arms;have HD:=zb hd;have HH:=zb h;clear h hd;rcases ha:x.arms with _ | ⟨r,rest⟩
 . have hv:armsStepV x=none:=by simp [armsStepV,ha]
   rw[hv];rw[ha] at hk5 hs;clear hv ha HH
   go_enter Tryz.func151, Tryz.ntmps151
   go_wp2_with (refine(yR _).mono ?_;rintro e w1 ⟨rfl,rfl⟩;unfold errEnd)
   exact⟨rfl,rfl,Below.refl _ _⟩
 . obtain⟨g,o,-,-,rfl,-,-,-⟩:=zbC HH.out.arms (i:=0) (r:=r) (by rw[ha];rfl);have hv:armsStepV x=(armsV false x.arms).map fun t=>(t,{ x with arms:=[] }):=by simp [armsStepV,ha]
   rw[hv];have hp0:(0:Int)<(x.arms.length:Int):=by rw[ha];simp only[List.length_cons];omega
   have t0:decide ((0:Int)<(x.arms.length:Int))=true:=decide_eq_true hp0;have t1:decide (0<x.arms.length)=true:=decide_eq_true (by omega);obtain⟨n1,n2,n3,n4⟩:=yA (i:=5) (v:=.slice none 0 0) HH.out.block HD.out HH.out.above;have HRW:=zb (HH.out.arms.set (i:=5) (u:=.slice none 0 0) HH.out.block HD.out HH.out.above);have HM0:Hid (MidW b q l { x with arms:=[] } [] w (w.setCell ⟨q,5,none⟩ (.slice none 0 0))):=zb ⟨n2,⟨l,Adds.nil l,n1⟩,_,_,_,_,_,_,zas HH.out HD.out⟩;have HMB:=zb (show KeptX (fun i=>i=q) b (w.setCell ⟨q,5,none⟩ (.slice none 0 0)) (w.setCell ⟨q,5,none⟩ (.slice none 0 0)) from KeptX.refl _ _ _)
   have HB1:=zb n1;have HQ1:Hid (∃ cs,(w.setCell ⟨q,5,none⟩ (.slice none 0 0)).heap[q]? = some (.cells cs 136 (0,0))):=zb ⟨_,(zas HH.out HD.out).block⟩;have HV0:Hid (armsV false x.arms=(armsV (decide (0<0)) (x.arms.drop 0)).map ([]++·)):=zb (by simp);clear hv ha n1 n2 n3 n4;generalize x.arms=az at *
   go_enter Tryz.func151, Tryz.ntmps151
   go_wp2_with first | (go_at_call 93; refine(xq _).mono ?_;rintro e w1 ⟨rfl,rfl⟩) | (go_at_call 199; refine(s_takeW q _ _ _ _ hk5 hf5).mono ?_;rintro e w1 ⟨rfl,rfl⟩)
   generalize w.setCell ⟨q,5,none⟩ (.slice none 0 0)=w1 at *
   go_loopw [18] (fun vi wr=>(∃(i:Nat) (t:List UInt8),i<=az.length/\vi=.int .i64 i/\Hid (MidW b q l { x with arms:=[] } t w wr)/\Hid (KeptX (fun i=>i=q) b w1 wr)/\Hid (armsV false az=(armsV (decide (0<i)) (az.drop i)).map (t++·)))) (fun vi _=>az.length-(intOf vi).toNat)
   case atStart=>exact⟨0,[],Nat.zero_le _,by go_num,HM0,HMB,HV0⟩
   case round =>
    clear HM0 HMB HV0;obtain⟨i,t,hi',rfl,HM,HK,HV⟩:=hrel;by_cases hil:i<az.length
    . have h2:decide ((i:Int)<(az.length:Int))=true:=decide_eq_true (by omega);have h3:(i:Int)<(az.length:Int):=by omega
      have h4:(0:Int)<=(i:Int):=by omega
      have E5:IntKind.i64.wrap ((i:Int)+1)=(i:Int)+1:=zM _ (by omega) (by omega);obtain⟨r,hr⟩:∃ r,az[i]? = some r:=⟨_,List.getElem?_eq_getElem hil⟩;have hnd:∀ i,i=q->∃ cs fr,w1.heap[i]? = some (.cells cs 136 fr):=fun i e=>by
       obtain⟨cs,h⟩:=HQ1.out;exact⟨cs,_,by rw[e];exact h⟩
      obtain⟨g',o',gf,lb,e1,hcell,eg,hcall⟩:=zbC (HRW.out.kept HK.out HB1.out hnd (fun i e=>by rw[e];exact HH.out.above)) hr;injection e1 with e1;injection e1 with e1 e2;subst e1;subst e2;have HC:=zb hcall;have HR:=zb hr;obtain⟨m,ha,hd⟩:=HM.out.text;have HA:=zb ha;have HDD:=zb hd;unfold Enters at eg;clear hnd hcall hr ha hd;by_cases h0:0<i
      . have u0:decide ((0:Int)<(i:Int))=true:=decide_eq_true (by omega);have u1:(0:Int)<(i:Int):=by omega
        have u2:decide (0<i)=true:=decide_eq_true h0
        go_wp2_with (go_at_call 141; refine(wG b m [32,124,32] _ HDD.out (by decide)).mono ?_;rintro e w2 ⟨rfl,hp⟩)
        have HM2:=zb (HM.out.put HA.out HDD.out hp);have HK2:=zb (HK.out.trans (KeptX.of hp.1));obtain⟨m2,ha2,hd2⟩:=HM2.out.text;have HA2:=zb ha2;have HD2:=zb hd2;refine(HC.out _ m2 (KT.kept hp.1 HDD.out (fun _ h=>h.elim)) (hp.1.under HDD.out (fun _ h=>h.elim)) hd2).mono ?_;intro e w3 hw;have HW:=zb hw;clear hp hw ha2 hd2 HC hcell HK HM HA HDD;rcases r with _ | s
        . have HVN:=zb (qJ HR.out HV.out);obtain⟨rfl,-⟩:=id HW.out;unfold errEnd
          go_wp2
          rw[HVN.out];exact⟨rfl,rfl,(HM2.out.below HD.out).trans HW.out.2⟩
        . have HV3:=zb (sZ HR.out HV.out);rw[if_pos h0] at HV3;have HM3:=zb (HM2.out.wrote HA2.out HD2.out HW.out);have HK3:=zb (HK2.out.trans (KeptX.of HW.out.2.1));obtain⟨rfl,-⟩:=id HW.out;clear HV HW HM2 HK2 HA2 HD2
          go_wp2
          go_roundw
          case rel=>exact⟨i+1,_,by omega,by go_num,HM3,HK3,HV3⟩
          case measure=>simp [intOf];omega
      . obtain rfl:i=0:=by omega
        rw[Nat.add_zero] at hcell
        go_wp2_with fail
        refine(HC.out _ m (KT.refl _) (Below.refl _ _) HDD.out).mono ?_;intro e w3 hw;have HW:=zb hw;clear hw HC hcell;rcases r with _ | s
        . have HVN:=zb (qJ HR.out HV.out);obtain⟨rfl,-⟩:=id HW.out;unfold errEnd
          go_wp2
          rw[HVN.out];exact⟨rfl,rfl,(HM.out.below HD.out).trans HW.out.2⟩
        . have HV3:=zb (sZ HR.out HV.out);rw[if_neg h0,List.append_nil] at HV3;have HM3:=zb (HM.out.wrote HA.out HDD.out HW.out);have HK3:=zb (HK.out.trans (KeptX.of HW.out.2.1));obtain⟨rfl,-⟩:=id HW.out;clear HV HW HM HK HA HDD
          go_wp2
          go_roundw
          case rel=>exact⟨1,_,by omega,by go_num,HM3,HK3,HV3⟩
          case measure=>simp [intOf];omega
    . have h2:decide ((i:Int)<(az.length:Int))=false:=decide_eq_false (by omega);have h3:¬(i:Int)<(az.length:Int):=by omega
      obtain rfl:i=az.length:=by omega
      go_wp2_with fail
      go_end0
      have hv:armsV false az=some t:=by
       rw[HV.out,List.drop_length];simp [armsV]
      rw[hv];exact HM.out.stepped rfl
end
section
open Go.RowKit
theorem MidW.more {b q:Nat} {l t:List UInt8} {y:Sn} {w wr v:World} (h:MidW b q l y t w wr) (hb:Below wr.heap.size wr v):MidW b q l y t w v:=by
 obtain⟨m,ha,hd⟩:=h.text;obtain⟨la,lc,aa,ac,ra,rc,hn⟩:=h.node;exact⟨h.kept.trans (KeptX.below hb hd.lt),⟨m,ha,hd.new hb⟩,_,_,_,_,_,_,hn.kept (KeptX.below hb hd.lt) hd⟩
theorem MidW.arg {b q:Nat} {l m t s:List UInt8} {y z:Sn} {w wr v:World} {e:Ending} (h:MidW b q l y t w wr) (ha:Adds l t m) (hp:Stepped b q m (some (s,z)) wr e v):MidW b q l z (t++s) w v:=by
 obtain⟨-,h1,⟨n,h2,h3⟩,h4⟩:=hp;exact⟨h.kept.trans h1,⟨n,ha.trans h2,h3⟩,h4⟩
theorem zbv (L:List UInt8) (w:World):Calls Tryz.prog 142 #[.string ⟨L.toArray⟩,.func (.func 144) #[] #[]] w (Gives (yesV (isNam L) L) w):=zeI _ L _ w zcF (rj ⟨L.toArray⟩ w)
def fieldsStepV (x:Sn):Option (List UInt8×Sn):=(fieldsV false x.labels x.args).map fun p=>(p.1,{ x with labels:=[],args:=p.2 })
def FldEq (ls:List (List UInt8)) (az0:List (Option (List UInt8))) (i:Nat) (t:List UInt8) (az:List (Option (List UInt8))):Prop:=fieldsV false ls az0=(fieldsV (decide (0<i)) (ls.drop i) az).map fun p=>(t++p.1,p.2)
theorem sO {α:Type} {az:List α} {i:Nat} {r:α} (h:az[i]? = some r):az.drop i=r::az.drop (i+1):=by
 obtain⟨hi,rfl⟩:=List.getElem?_eq_some_iff.1 h;exact List.drop_eq_getElem_cons hi
theorem vd (more:Bool) (l t:List UInt8) (ls:List (List UInt8)) (az:List (Option (List UInt8))):fieldsV more (l::ls) (some t::az)=if isNam l then(fieldsV true ls az).map fun p=>((if more then [44,32] else [])++(l++([32,61,32]++(t++p.1))),p.2) else none:=rfl
theorem FldEq.bad {ls:List (List UInt8)} {az0 az:List (Option (List UInt8))} {i:Nat} {t L:List UInt8} (h:FldEq ls az0 i t az) (hL:ls[i]? = some L) (hn:isNam L=false∨argV ⟨[],0,[],[],az,[]⟩=none):fieldsV false ls az0=none:=by
 unfold FldEq at h;rw[h,sO hL];rcases az with _ | ⟨_ | s,az⟩
 . rfl
 . rfl
 . rcases hn with hn | hn
   . rw[vd,hn];rfl
   . cases hn
theorem FldEq.step {ls:List (List UInt8)} {az0 az:List (Option (List UInt8))} {i:Nat} {t L s:List UInt8} (h:FldEq ls az0 i t (some s::az)) (hL:ls[i]? = some L) (hn:isNam L=true):FldEq ls az0 (i+1) ((((t++(if 0<i then [44,32] else []))++L)++[32,61,32])++s) az:=by
 unfold FldEq at h ⊢;rw[h,sO hL,vd,if_pos hn,show decide (0<i+1)=true from decide_eq_true (by omega)]
 cases fieldsV true (ls.drop (i+1)) az with
 | none=>rfl
 | some p=>by_cases h0:0<i <;> simp [h0]
theorem zbW {b q:Nat} {x:Sn} {la aa ra:Option Addr} {lc ac rc:Nat} {l:List UInt8} {w:World} (h:NodeAt b w q x la lc aa ac ra rc) (hd:Bd b l w) :
 NodeAt b (w.setCell ⟨q,3,none⟩ (.slice none 0 0)) q { x with labels:=[] } none 0 aa ac ra rc:=by
 refine⟨?_,h.above,zx _ _ _ _,h.args.set h.block hd h.above,h.arms.set h.block hd h.above⟩;rw[zn h.block 3 _];rfl
theorem zc1 (b q:Nat) (x:Sn) (la aa ra:Option Addr) (lc ac rc:Nat) (l:List UInt8) (w:World) (h:NodeAt b w q x la lc aa ac ra rc) (hd:Bd b l w) (hs:x.small) :
 Calls Tryz.prog 150 #[.pointer (some ⟨q,0,none⟩),.pointer (some ⟨b,0,none⟩)] w (Stepped b q l (fieldsStepV x) w):=by
 have hk3:w.cell? ⟨q,3,none⟩=some (.slice la x.labels.length lc):=by rw[zf h.block];rfl
 have hf3:w.frozen? ⟨q,3,none⟩=false:=Lib.frozen_of_heap h.block 3;obtain⟨-,-,hln,hlt,han,-⟩:=hs;have HD:=zb hd;have HH:=zb h;have HRL:=zb h.labels;have HLT:=zb hlt;clear h hd hlt;obtain⟨n1,n2,n3,n4⟩:=yA (i:=3) (v:=.slice none 0 0) HH.out.block HD.out HH.out.above;have HM0:Hid (MidW b q l { x with labels:=[],args:=x.args } [] w (w.setCell ⟨q,3,none⟩ (.slice none 0 0))):=zb ⟨n2,⟨l,Adds.nil l,n1⟩,_,_,_,_,_,_,zbW HH.out HD.out⟩;have HV0:Hid (FldEq x.labels x.args 0 [] x.args):=zb (by unfold FldEq;simp);have HAN:Hid (x.args.length<=70000):=zb han;have hcap:x.labels.length<=lc:=by
  obtain⟨⟨a9,c9,h1,h2,-⟩,-⟩:=HRL.out;injection h1 with _ _ h1;omega
 have HST:Hid (fieldsStepV x=(fieldsV false x.labels x.args).map fun p=>(p.1,{ x with labels:=[],args:=p.2 })):=zb rfl;clear n1 n2 n3 n4 han;generalize fieldsStepV x=res at *;generalize x.labels=ls at *;generalize x.args=az0 at *
 go_enter Tryz.func150, Tryz.ntmps150
 go_wp2_with (go_at_call 198; refine(s_takeL q _ _ _ _ hk3 hf3).mono ?_;rintro e w1 ⟨rfl,rfl⟩)
 generalize w.setCell ⟨q,3,none⟩ (.slice none 0 0)=w1 at *
 go_loopw [11] (fun vi wr=>(∃(i:Nat) (t:List UInt8) (az:List (Option (List UInt8))),i<=ls.length/\vi=.int .i64 i/\az.length<=70000/\Hid (MidW b q l { x with labels:=[],args:=az } t w wr)/\Hid (FldEq ls az0 i t az))) (fun vi _=>ls.length-(intOf vi).toNat)
 case atStart=>exact⟨0,[],az0,Nat.zero_le _,by go_num,HAN.out,HM0,HV0⟩
 case round =>
  clear HM0 HV0 HAN;obtain⟨i,t,az,hi',rfl,han,HM,HV⟩:=hrel;by_cases hil:i<ls.length
  . have h2:decide ((i:Int)<(ls.length:Int))=true:=decide_eq_true (by omega);have h3:(i:Int)<(ls.length:Int):=by omega
    have h4:(0:Int)<=(i:Int):=by omega
    have E5:IntKind.i64.wrap ((i:Int)+1)=(i:Int)+1:=zM _ (by omega) (by omega);obtain⟨L,hL⟩:∃ L,ls[i]? = some L:=⟨_,List.getElem?_eq_getElem hil⟩;obtain⟨g,o,rfl,hcell⟩:∃ g o,la=some ⟨g,o,none⟩/\wr.cell? ⟨g,o+i,none⟩=some (.string ⟨L.toArray⟩):=by
     obtain⟨⟨a9,c9,h1,h2,h5⟩,-⟩:=HRL.out;injection h1 with h1;rcases h5 with h5 | ⟨g,o,h5,h6,h7,h8⟩
     . omega
     . exact⟨g,o,h1.trans h5,(ze (a:=⟨g,o+i,none⟩) ((HM.out.below HD.out).block g h6)).trans (h8 i _ (by simp [strCells,hL]))⟩
    have HL:=zb hL;have HLL:Hid (L.length<=100000):=zb (by have:=HLT.out L (List.mem_of_getElem? hL);omega);obtain⟨m,ha,hd⟩:=HM.out.text;have HA:=zb ha;have HDD:=zb hd;clear hL ha hd;have HREST:Hid (∀(wr:World) (m t2:List UInt8),MidW b q l { x with labels:=[],args:=az } t2 w wr->t2=t++(if 0<i then [44,32] else [])->True):=zb fun _ _ _ _ _=>trivial
    clear HREST;by_cases h0:0<i
    . have u0:decide ((0:Int)<(i:Int))=true:=decide_eq_true (by omega);have u1:(0:Int)<(i:Int):=by omega
      have u2:decide (0<i)=true:=decide_eq_true h0
      go_wp2_with (go_at_call 141; refine(wG b m [44,32] _ HDD.out (by decide)).mono ?_;rintro e w2 ⟨rfl,hp⟩;have HM2:=zb (HM.out.put HA.out HDD.out hp);clear hp HM HA HDD hcell)
      refine(zbv L _).mono ?_;rintro e w3 ⟨hb3,he⟩;have HM3:=zb (HM2.out.more hb3);clear hb3 HM2;cases hn:isNam L with
      | false =>
       rw[hn] at he;have he:e=errEnd 5:=he;subst he;have HN:=zb (HV.out.bad HL.out (Or.inl hn));unfold errEnd
       go_wp2
       rw[HST.out,HN.out];exact⟨rfl,rfl,HM3.out.below HD.out⟩
      | true =>
       rw[hn] at he;have he:e=.returned (.string ⟨L.toArray⟩):=he;subst he;have HNM:=zb hn;obtain⟨m3,ha3,hd3⟩:=HM3.out.text;have HA3:=zb ha3;have HD3:=zb hd3;clear ha3 hd3 hn
       go_wp2_with (go_at_call 141; refine(wG b m3 L _ HD3.out HLL.out).mono ?_;rintro e w4 ⟨rfl,hp⟩;have HM4:=zb (HM3.out.put HA3.out HD3.out hp);clear hp HM3 HA3 HD3;obtain⟨m4,ha4,hd4⟩:=HM4.out.text;have HA4:=zb ha4;have HD4:=zb hd4;clear ha4 hd4;go_wp2_with fail;refine(wG b m4 [32,61,32] _ HD4.out (by decide)).mono ?_;rintro e w5 ⟨rfl,hp⟩;have HM5:=zb (HM4.out.put HA4.out HD4.out hp);clear hp HM4 HA4 HD4)
       obtain⟨m5,ha5,hd5⟩:=HM5.out.text;have HA5:=zb ha5;have HD5:=zb hd5;obtain⟨la5,lc5,aa5,ac5,ra5,rc5,hn5⟩:=HM5.out.node;have HN5:=zb hn5;clear ha5 hd5 hn5;refine(vG b q _ la5 aa5 ra5 lc5 ac5 rc5 m5 _ HN5.out HD5.out han).mono ?_;intro e w6 hs6;have HS6:=zb hs6;have HB5:=zb (HM5.out.below HD.out);clear hs6 HN5;rcases az with _ | ⟨_ | s,az⟩
       . have HN:=zb (HV.out.bad HL.out (Or.inr rfl));obtain⟨rfl,-⟩:=id HS6.out;unfold errEnd
         go_wp2
         rw[HST.out,HN.out];exact⟨rfl,rfl,HB5.out.trans HS6.out.2⟩
       . have HN:=zb (HV.out.bad HL.out (Or.inr rfl));obtain⟨rfl,-⟩:=id HS6.out;unfold errEnd
         go_wp2
         rw[HST.out,HN.out];exact⟨rfl,rfl,HB5.out.trans HS6.out.2⟩
       . have HVN:=zb (HV.out.step HL.out HNM.out);rw[if_pos h0] at HVN;have HMN:=zb (HM5.out.arg HA5.out HS6.out);obtain⟨rfl,-⟩:=id HS6.out;clear HV HM5 HA5 HD5 HS6 HB5
         go_wp2
         go_roundw
         case rel=>exact⟨i+1,_,az,by omega,by go_num,by simp only[List.length_cons] at han;omega,HMN,HVN⟩
         case measure=>simp [intOf];omega
    . obtain rfl:i=0:=by omega
      rw[Nat.add_zero] at hcell
      go_wp2_with fail
      have HM2:=HM;clear HM hcell;refine(zbv L _).mono ?_;rintro e w3 ⟨hb3,he⟩;have HM3:=zb (HM2.out.more hb3);clear hb3 HM2;cases hn:isNam L with
      | false =>
       rw[hn] at he;have he:e=errEnd 5:=he;subst he;have HN:=zb (HV.out.bad HL.out (Or.inl hn));unfold errEnd
       go_wp2
       rw[HST.out,HN.out];exact⟨rfl,rfl,HM3.out.below HD.out⟩
      | true =>
       rw[hn] at he;have he:e=.returned (.string ⟨L.toArray⟩):=he;subst he;have HNM:=zb hn;obtain⟨m3,ha3,hd3⟩:=HM3.out.text;have HA3:=zb ha3;have HD3:=zb hd3;clear ha3 hd3 hn
       go_wp2_with (go_at_call 141; refine(wG b m3 L _ HD3.out HLL.out).mono ?_;rintro e w4 ⟨rfl,hp⟩;have HM4:=zb (HM3.out.put HA3.out HD3.out hp);clear hp HM3 HA3 HD3;obtain⟨m4,ha4,hd4⟩:=HM4.out.text;have HA4:=zb ha4;have HD4:=zb hd4;clear ha4 hd4;go_wp2_with fail;refine(wG b m4 [32,61,32] _ HD4.out (by decide)).mono ?_;rintro e w5 ⟨rfl,hp⟩;have HM5:=zb (HM4.out.put HA4.out HD4.out hp);clear hp HM4 HA4 HD4)
       obtain⟨m5,ha5,hd5⟩:=HM5.out.text;have HA5:=zb ha5;have HD5:=zb hd5;obtain⟨la5,lc5,aa5,ac5,ra5,rc5,hn5⟩:=HM5.out.node;have HN5:=zb hn5;clear ha5 hd5 hn5;refine(vG b q _ la5 aa5 ra5 lc5 ac5 rc5 m5 _ HN5.out HD5.out han).mono ?_;intro e w6 hs6;have HS6:=zb hs6;have HB5:=zb (HM5.out.below HD.out);clear hs6 HN5;rcases az with _ | ⟨_ | s,az⟩
       . have HN:=zb (HV.out.bad HL.out (Or.inr rfl));obtain⟨rfl,-⟩:=id HS6.out;unfold errEnd
         go_wp2
         rw[HST.out,HN.out];exact⟨rfl,rfl,HB5.out.trans HS6.out.2⟩
       . have HN:=zb (HV.out.bad HL.out (Or.inr rfl));obtain⟨rfl,-⟩:=id HS6.out;unfold errEnd
         go_wp2
         rw[HST.out,HN.out];exact⟨rfl,rfl,HB5.out.trans HS6.out.2⟩
       . have HVN:=zb (HV.out.step HL.out HNM.out);rw[if_neg h0,List.append_nil] at HVN;have HMN:=zb (HM5.out.arg HA5.out HS6.out);obtain⟨rfl,-⟩:=id HS6.out;clear HV HM5 HA5 HD5 HS6 HB5
         go_wp2
         go_roundw
         case rel=>exact⟨1,_,az,by omega,by go_num,by simp only[List.length_cons] at han;omega,HMN,HVN⟩
         case measure=>simp [intOf];omega
  . have h2:decide ((i:Int)<(ls.length:Int))=false:=decide_eq_false (by omega);have h3:¬(i:Int)<(ls.length:Int):=by omega
    obtain rfl:i=ls.length:=by omega
    go_wp2_with fail
    go_end0
    have hv:fieldsV false ls az0=some (t,az):=by
     have:=HV.out;unfold FldEq at this;rw[this,List.drop_length];simp [fieldsV]
    rw[HST.out,hv];exact HM.out.stepped rfl
end
section
open Go.RowKit
theorem Bd.iter {b:Nat} {l:List UInt8} {w:World} (h:Bd b l w) {k p:Nat} {s:ByteArray} (hk:w.heap[k]? = some (.stringIter s p)):¬IsB b w k:=fun hb=>by
 obtain⟨p',v,hbk,ho,_⟩:=xu h.1;rcases hb with rfl | hb
 . rw[hbk] at hk;cases hk
 . rw[xK hbk] at hb;rcases ho.2 with⟨hv,_⟩ | ⟨g,cap,cur,hv,_,hg,_⟩
   . rw[hv] at hb;cases hb
   . rw[hv] at hb;simp only[Value.ownBlock,Option.some.injEq] at hb;rw[← hb,hg] at hk;cases hk
theorem iter_kt {k p p':Nat} {s:ByteArray} {w:World} (hk:w.heap[k]? = some (.stringIter s p)):KT w (w.iterAt k s p'):=fun i cs t fr hi _ _ _ _=>by
 rw[Lib.iterAt_other _ _ _ _ _ fun e=>?_]
 . exact hi
 . rw[e,hk] at hi;cases hi
theorem WRow.iter {k p p':Nat} {s:ByteArray} {w:World} {v:Value} {fs:List Value} (h:WRow w v fs) (hk:w.heap[k]? = some (.stringIter s p)):WRow (w.iterAt k s p') v fs:=by
 obtain⟨a,c,h1,h2,h3⟩:=h;refine⟨a,c,h1,h2,h3.imp id ?_⟩;rintro⟨g,o,cur,fr,h4,h5,h6⟩;refine⟨g,o,cur,fr,h4,?_,h6⟩;rw[Lib.iterAt_other _ _ _ _ _ fun e=>?_]
 . exact h5
 . rw[e,hk] at h5;cases h5
theorem WRows.iter {b k p p':Nat} {s:ByteArray} {w:World} {a:Option Addr} {c:Nat} {rs:List (Option (List UInt8))} (h:WRows b w a c rs) (hk:w.heap[k]? = some (.stringIter s p)) (hb:b<=k):WRows b (w.iterAt k s p') a c rs:=by
 obtain⟨fs,h1,h2,h3⟩:=h;exact⟨fs,h1.iter hk,h2,fun i f x hf hx'=>(h3 i f x hf hx').keep (iter_kt hk) (Lib.below_iterAt (Below.refl b w) hb _ _)⟩
theorem MidW.iter {b q k p p':Nat} {s:ByteArray} {l t:List UInt8} {y:Sn} {w wr:World} (h:MidW b q l y t w wr) (hk:wr.heap[k]? = some (.stringIter s p)) (hn:w.heap.size<=k) (hb:b<=k):MidW b q l y t w (wr.iterAt k s p'):=by
 obtain⟨m,ha,hd⟩:=h.text;obtain⟨la,lc,aa,ac,ra,rc,hN⟩:=h.node;have hB:=Lib.below_iterAt (Below.refl b wr) hb s p';have hoth:∀ j,j≠k->(wr.iterAt k s p').heap[j]? = wr.heap[j]? := fun j hj=>Lib.iterAt_other _ _ _ _ _ hj;have hkb:¬IsB b wr k:=hd.iter hk;have hob:(wr.iterAt k s p').heap[b]? = wr.heap[b]? := hoth b fun e=>hkb (Or.inl e.symm);have howe:ownB b (wr.iterAt k s p')=ownB b wr:=by simp only[ownB,hob]
 have hgo:wr.grownBy (wr.iterAt k s p') (some k):=⟨hB.os,hB.tape,hB.output,hB.size,fun j _ hj=>hoth j fun e=>hj (by rw[e])⟩;have hX:KeptX (fun i=>i=k) b wr (wr.iterAt k s p'):=⟨hB.os,hB.tape,hB.output,hB.size,fun i _ hi _=>hoth i hi,fun i hi=>Or.inl (by unfold IsB at *;rwa [howe] at hi)⟩;have hd':Bd b m (wr.iterAt k s p'):=by
  obtain⟨h1,h2⟩:=hd;refine⟨?_,h2⟩;have hk':∀ pp,Lib.BuilderAt 83 5 b b pp (Lib.byteCells m) wr->Lib.BuilderAt 83 5 b b pp (Lib.byteCells m) (wr.iterAt k s p'):=fun pp hp=>by
   obtain⟨h3,u,h4,h5,h6⟩:=hp;exact⟨h3,u,hob.trans h4,h5.kept hgo (Or.inr fun e=>hkb (Or.inr (by rw[xK h4,e]))),h6⟩
  exact h1.imp (hk' _) (hk' _)
 refine⟨h.kept.hide hX fun i e=>Or.inr (by rw[e];exact hn),⟨m,ha,hd'⟩,la,lc,aa,ac,ra,rc,?_,hN.above,hN.labels.move (zt hB),hN.args.iter hk hb,hN.arms.iter hk hb⟩;rw[hoth q fun e=>?_]
 . exact hN.block
 . rw[← e,hN.block] at hk;cases hk
theorem yt {X:Nat->Prop} {b k p:Nat} {s:ByteArray} {w w':World} {l:List UInt8} (h:KeptX X b w w') (hd:Bd b l w) (hk:w.heap[k]? = some (.stringIter s p)) (hx:¬X k):w'.heap[k]? = some (.stringIter s p):=by
 have hl:k<w.heap.size:=by
  rcases Nat.lt_or_ge k w.heap.size with h' | h'
  . exact h'
  . simp [Array.getElem?_eq_none h'] at hk
 exact(h.block k hl hx (hd.iter hk)).trans hk
theorem wg {k p:Nat} {s:ByteArray} {w w':World} (h:Below w.heap.size w w') (hk:w.heap[k]? = some (.stringIter s p)):w'.heap[k]? = some (.stringIter s p):=by
 have hl:k<w.heap.size:=by
  rcases Nat.lt_or_ge k w.heap.size with h' | h'
  . exact h'
  . simp [Array.getElem?_eq_none h'] at hk
 exact(h.block k hl).trans hk
theorem vR {k p q i:Nat} {v:Value} {s:ByteArray} {w:World} {cs:Array Value} {t:TypeId} {fr:Nat×Nat} (hq:w.heap[q]? = some (.cells cs t fr)) (hk:w.heap[k]? = some (.stringIter s p)):(w.setCell ⟨q,i,none⟩ v).heap[k]? = some (.stringIter s p) :=
 (Below.heap_setCell _ _ _ _ fun e=>by rw[show k=q from e,hq] at hk;cases hk).trans hk
theorem MidW.take0 {b q:Nat} {l t:List UInt8} {y:Sn} {w wr:World} (h:MidW b q l y t w wr):MidW b q l { y with name:=[] } t w (wr.setCell ⟨q,0,none⟩ (.string ⟨#[]⟩)):=by
 obtain⟨m,ha,hd⟩:=h.text;obtain⟨la,lc,aa,ac,ra,rc,hN⟩:=h.node;obtain⟨n1,n2,n3,n4⟩:=yA (i:=0) (v:=.string ⟨#[]⟩) hN.block hd hN.above;refine⟨h.kept.trans n2,⟨m,ha,n1⟩,la,lc,aa,ac,ra,rc,?_,hN.above,hN.labels.move (zt n3),hN.args.set hN.block hd hN.above,hN.arms.set hN.block hd hN.above⟩;rw[zn hN.block 0 _];rfl
theorem MidW.take1 {b q:Nat} {l t:List UInt8} {y:Sn} {w wr:World} (h:MidW b q l y t w wr):MidW b q l { y with n:=0 } t w (wr.setCell ⟨q,1,none⟩ (.int .i64 0)):=by
 obtain⟨m,ha,hd⟩:=h.text;obtain⟨la,lc,aa,ac,ra,rc,hN⟩:=h.node;obtain⟨n1,n2,n3,n4⟩:=yA (i:=1) (v:=.int .i64 0) hN.block hd hN.above;refine⟨h.kept.trans n2,⟨m,ha,n1⟩,la,lc,aa,ac,ra,rc,?_,hN.above,hN.labels.move (zt n3),hN.args.set hN.block hd hN.above,hN.arms.set hN.block hd hN.above⟩;rw[zn hN.block 1 _];rfl
theorem MidW.take2 {b q:Nat} {l t:List UInt8} {y:Sn} {w wr:World} (h:MidW b q l y t w wr):MidW b q l { y with s:=[] } t w (wr.setCell ⟨q,2,none⟩ (.string ⟨#[]⟩)):=by
 obtain⟨m,ha,hd⟩:=h.text;obtain⟨la,lc,aa,ac,ra,rc,hN⟩:=h.node;obtain⟨n1,n2,n3,n4⟩:=yA (i:=2) (v:=.string ⟨#[]⟩) hN.block hd hN.above;refine⟨h.kept.trans n2,⟨m,ha,n1⟩,la,lc,aa,ac,ra,rc,?_,hN.above,hN.labels.move (zt n3),hN.args.set hN.block hd hN.above,hN.arms.set hN.block hd hN.above⟩;rw[zn hN.block 2 _];rfl
theorem MidW.cells {b q:Nat} {l t:List UInt8} {y:Sn} {w wr:World} (h:MidW b q l y t w wr):∃ la lc aa ac ra rc,wr.cell? ⟨q,0,none⟩=some (.string ⟨y.name.toArray⟩)/\wr.cell? ⟨q,1,none⟩=some (.int .i64 y.n)/\wr.cell? ⟨q,2,none⟩=some (.string ⟨y.s.toArray⟩)/\wr.cell? ⟨q,3,none⟩=some (.slice la y.labels.length lc)/\wr.cell? ⟨q,4,none⟩=some (.slice aa y.args.length ac)/\wr.cell? ⟨q,5,none⟩=some (.slice ra y.arms.length rc)/\∀ i,wr.frozen? ⟨q,i,none⟩=false:=by
 obtain⟨la,lc,aa,ac,ra,rc,hN⟩:=h.node;refine⟨la,lc,aa,ac,ra,rc,?_,?_,?_,?_,?_,?_,Lib.frozen_of_heap hN.block⟩ <;> (rw[zf hN.block];rfl)
theorem MidW.cellsOf {b q:Nat} {l t:List UInt8} {y:Sn} {w wr:World} (h:MidW b q l y t w wr):∃ cs,wr.heap[q]? = some (.cells cs 136 (0,0)):=by
 obtain⟨la,lc,aa,ac,ra,rc,hN⟩:=h.node;exact⟨_,hN.block⟩
def FormEq (form:List UInt8) (x:Sn) (pos:Nat) (t:List UInt8) (y:Sn):Prop:=formV form x=(formV (form.drop pos) y).map (t++·)
theorem FormEq.step {form:List UInt8} {x y z:Sn} {pos:Nat} {t s:List UInt8} {c:UInt8} (h:FormEq form x pos t y) (hc:form[pos]? = some c) (hs:stepV c.toNat y=some (s,z)):FormEq form x (pos+1) (t++s) z:=by
 unfold FormEq at h ⊢;rw[h,sO hc];show Option.map _ (match stepV c.toNat y with | none=>none | some (t,y)=>(formV (form.drop (pos+1)) y).map (t++·))=_
 rw[hs];show Option.map _ (Option.map _ _)=_;cases formV (form.drop (pos+1)) z with
 | none=>rfl
 | some u=>simp
theorem FormEq.bad {form:List UInt8} {x y:Sn} {pos:Nat} {t:List UInt8} {c:UInt8} (h:FormEq form x pos t y) (hc:form[pos]? = some c) (hs:stepV c.toNat y=none):formV form x=none:=by
 unfold FormEq at h;rw[h,sO hc];show Option.map _ (match stepV c.toNat y with | none=>none | some (t,y)=>(formV (form.drop (pos+1)) y).map (t++·))=_
 rw[hs];rfl
theorem FormEq.end_ {form:List UInt8} {x y:Sn} {t:List UInt8} (h:FormEq form x form.length t y):formV form x=if y.zero then some t else none:=by
 unfold FormEq at h;rw[h,List.drop_length];show Option.map _ (if y.zero then some [] else none)=_
 split
 . simp
 . rfl
def WroteQ (b q:Nat) (l:List UInt8) (r:Option (List UInt8)) (w:World) (e:Ending) (w':World):Prop:=match r with
 | none=>e=errEnd 5/\Below b w w'
 | some t=>e=.returned (.tuple #[])/\KeptX (fun i=>i=q) b w w'/\∃ l',Adds l t l'/\Bd b l' w'
theorem zdL (s:List UInt8):(qall (s.take 4096)).length<=100000:=by
 have h1:=tv (s.take 4096);simp only[qall,List.length_cons,List.length_append,List.length_nil];have h2:(s.take 4096).length<=4096:=by rw[List.length_take];omega
 omega
theorem stepV_x (y:Sn):stepV 120 y=(yesV (isNam y.name) y.name).map fun s=>(s,{ y with name:=[] }):=by unfold stepV yesV;cases isNam y.name <;> rfl
theorem stepV_X (y:Sn):stepV 88 y=(yesV (isUpN y.name) y.name).map fun s=>(s,{ y with name:=[] }):=by unfold stepV yesV;cases isUpN y.name <;> rfl
theorem stepV_N (y:Sn):stepV 78 y=(yesV (decide (0<=y.n)&&decide (y.n<4611686018427387904)) (Lib.itoa y.n)).map fun s=>(s,{ y with n:=0 }):=by
 by_cases h:0<=y.n <;> by_cases h2:y.n<4611686018427387904 <;> simp [stepV,yesV,h,h2]
theorem stepV_T (y:Sn):stepV 84 y=(truthV y.n).map fun s=>(s,{ y with n:=0 }):=by
 by_cases h:y.n=0
 . simp [stepV,truthV,h]
 . by_cases h2:y.n=1 <;> simp [stepV,truthV,h,h2]
theorem stepV_S (y:Sn):stepV 83 y=(some (qall (y.s.take 4096))).map fun s=>(s,{ y with s:=[] }):=rfl
theorem stepV_A65 (y:Sn):stepV 65 y=argV y:=by unfold stepV argV;rfl
theorem stepV_A66 (y:Sn):stepV 66 y=argV y:=by unfold stepV argV;rfl
theorem stepV_A67 (y:Sn):stepV 67 y=argV y:=by unfold stepV argV;rfl
theorem stepV_L76 (y:Sn):stepV 76 y=fieldsStepV y:=rfl
theorem stepV_M77 (y:Sn):stepV 77 y=armsStepV y:=rfl
theorem yP {c d:UInt8} (h:c≠d):c.toNat≠d.toNat:=fun e=>h (UInt8.toNat_inj.1 e)
theorem xJ {c d:UInt8} {k:Int} (h:¬c=d) (hk:k=(d.toNat:Int)):((c.toNat:Int) == k)=false:=by
 rw[beq_eq_false_iff_ne,hk];intro e;exact yP h (by omega)
theorem zdp (c:UInt8) (y:Sn) (h1:¬c=120) (h2:¬c=88) (h3:¬c=78) (h4:¬c=84) (h5:¬c=83) (h6:¬c=65) (h7:¬c=66) (h8:¬c=67) (h9:¬c=76) (h10:¬c=77):stepV c.toNat y=some ([c],y):=by
 have g1:¬c.toNat=120:=yP h1;have g2:¬c.toNat=88:=yP h2;have g3:¬c.toNat=78:=yP h3;have g4:¬c.toNat=84:=yP h4;have g5:¬c.toNat=83:=yP h5;have g6:¬c.toNat=65:=yP h6;have g7:¬c.toNat=66:=yP h7;have g8:¬c.toNat=67:=yP h8;have g9:¬c.toNat=76:=yP h9;have g10:¬c.toNat=77:=yP h10;unfold stepV;simp [g1,g2,g3,g4,g5,g6,g7,g8,g9,g10]
theorem Sn.small.no_x {y:Sn} (h:y.small):Sn.small { y with name:=[] }:=⟨Nat.zero_le _,h.2⟩
theorem Sn.small.no_X {y:Sn} (h:y.small):Sn.small { y with name:=[] }:=⟨Nat.zero_le _,h.2⟩
theorem Sn.small.no_N {y:Sn} (h:y.small):Sn.small { y with n:=0 }:=⟨h.1,h.2.1,h.2.2.1,h.2.2.2.1,h.2.2.2.2.1,h.2.2.2.2.2.1,(by show(-9223372036854775808:Int)<=0;decide),(by show(0:Int)<=9223372036854775807;decide)⟩
theorem Sn.small.no_T {y:Sn} (h:y.small):Sn.small { y with n:=0 }:=h.no_N
theorem Sn.small.no_S {y:Sn} (h:y.small):Sn.small { y with s:=[] }:=⟨h.1,Nat.zero_le _,h.2.2⟩
theorem zbJ {y:Sn} (h:y.small):∀ s z,argV y=some (s,z)->z.small:=fun s z hz=>by
 unfold argV at hz
 split at hz
 . rename_i t az ha;have hz:=zc hz;injection hz with _ hz;subst hz;have h5:=h.2.2.2.2.1;rw[ha] at h5;exact⟨h.1,h.2.1,h.2.2.1,h.2.2.2.1,Nat.le_of_succ_le h5,h.2.2.2.2.2⟩
 . cases hz
theorem uh:∀(ls:List (List UInt8)) (more:Bool) (az:List (Option (List UInt8))) (p:List UInt8×List (Option (List UInt8))),fieldsV more ls az=some p->p.2.length<=az.length
 | [],_,az,p,h=>by
  have h:=zc h;subst h;exact Nat.le_refl _
 | l::ls,more,[],p,h=>by cases h
 | l::ls,more,none::az,p,h=>by cases h
 | l::ls,more,some t::az,p,h=>by
  rw[vd] at h
  split at h
  . rcases hf:fieldsV true ls az with _ | p'
    . rw[hf] at h;cases h
    . rw[hf] at h;have h:=zc h;subst h;exact Nat.le_succ_of_le (uh ls true az p' hf)
  . cases h
theorem small_L {y:Sn} (h:y.small):∀ s z,fieldsStepV y=some (s,z)->z.small:=fun s z hz=>by
 unfold fieldsStepV at hz;rcases hf:fieldsV false y.labels y.args with _ | p
 . rw[hf] at hz;cases hz
 . rw[hf] at hz;have hz:=zc hz;injection hz with _ hz;subst hz;have h5:=uh _ _ _ _ hf;exact⟨h.1,h.2.1,Nat.zero_le _,(fun t ht=>by cases ht),Nat.le_trans h5 h.2.2.2.2.1,h.2.2.2.2.2⟩
theorem small_M {y:Sn} (h:y.small):∀ s z,armsStepV y=some (s,z)->z.small:=fun s z hz=>by
 unfold armsStepV at hz
 split at hz
 . cases hz
 . rcases hf:armsV false y.arms with _ | p
   . rw[hf] at hz;cases hz
   . rw[hf] at hz;have hz:=zc hz;injection hz with _ hz;subst hz;exact⟨h.1,h.2.1,h.2.2.1,h.2.2.2.1,h.2.2.2.2.1,Nat.zero_le _,h.2.2.2.2.2.2⟩
end
