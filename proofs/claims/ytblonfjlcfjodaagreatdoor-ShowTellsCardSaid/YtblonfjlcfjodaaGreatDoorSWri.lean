/-
  show's writers: a closure for each part.
-/
import Derived.Test.YtblonfjlcfjodaaGreatDoorGShowA
namespace Go.Proofs.YtblonfjlcfjodaaGreatDoor
set_option linter.unusedSimpArgs false
set_option linter.unusedVariables false
set_option maxRecDepth 100000
set_option maxHeartbeats 4000000
open Go.RowKit
theorem uF:(Tryz.prog.info? 138).map (fun i=>(i.zero,i.size,i.bytes))=some (some .nilFunc,1,8):=by kernel_rfl
def LookE (b:Nat) (w:World) (aa:Option Addr) (l:List Nd):Prop:=∀(i:Nat) (x:Nd),l[i]? = some x->∃ g o t,aa=some ⟨g,o,none⟩/\g<w.heap.size/\IsE w (fun i=>i<b) (exL x t) x/\∀(j:Nat) (u:Value),(exL x t)[j]? = some u->w.cell? ⟨g,o+i*8+j,none⟩=some u
def LookP (b:Nat) (w:World) (aa:Option Addr) (l:List Nd):Prop:=∀(i:Nat) (x:Nd),l[i]? = some x->∃ g o t,aa=some ⟨g,o,none⟩/\g<w.heap.size/\IsP w (fun i=>i<b) (paL x t) x/\∀(j:Nat) (u:Value),(paL x t)[j]? = some u->w.cell? ⟨g,o+i*7+j,none⟩=some u
def LookA (b:Nat) (w:World) (aa:Option Addr) (l:List (Nd×Nd)):Prop:=∀(i:Nat) (x:Nd×Nd),l[i]? = some x->∃ g o t r,aa=some ⟨g,o,none⟩/\g<w.heap.size/\IsP w (fun i=>i<b) (paL x.1 t) x.1/\IsE w (fun i=>i<b) (exL x.2 r) x.2/\∀(j:Nat) (u:Value),(paL x.1 t++exL x.2 r)[j]? = some u->w.cell? ⟨g,o+i*15+j,none⟩=some u
theorem row_w {w:World} {B:Nat} {v:Value} {n:Nat} {fs:List Value} (h:w.ownsRow B 138 1 v n fs):WRow w v fs:=by
 have hl:fs.length=n:=by simpa using h.1
 rcases h.2 with⟨rfl,rfl⟩ | ⟨g,cap,cur,rfl,hb,hg,hn,_,hs,ht⟩
 . exact⟨none,0,by rw[hl],by omega,Or.inl (List.length_eq_zero_iff.1 hl)⟩
 . refine⟨_,cap,by rw[hl],by omega,Or.inr ⟨g,0,cur,(0,0),rfl,hg,fun i f hi=>?_⟩⟩;rw[← ht] at hi;rw[List.getElem?_take] at hi
   split at hi
   . rw[Nat.zero_add];simpa using hi
   . cases hi
def RowOwn (w0 w:World) (v:Value):Prop:=∀ k,v.ownBlock=some k->w0.heap.size<=k/\∃ cur,w.heap[k]? = some (.cells cur 138 (0,0))
theorem RowOwn.below {w0 w w':World} {v:Value} (h:RowOwn w0 w v) (hb:Below w.heap.size w w'):RowOwn w0 w' v:=fun k hk=>by
 obtain⟨h1,cur,h2⟩:=h k hk;exact⟨h1,cur,(hb.block k (zp h2)).trans h2⟩
theorem zbl {w0 w:World} {v:Value} {n:Nat} {fs:List Value} (h:w.ownsRow w0.heap.size 138 1 v n fs):RowOwn w0 w v:=fun k hk=>by
 rcases h.2 with⟨rfl,rfl⟩ | ⟨g,cap,cur,rfl,hb,hg,_⟩
 . cases hk
 . simp only[Value.ownBlock,Option.some.injEq] at hk;subst hk;exact⟨hb,cur,hg⟩
def WrisMade {α:Type} (C:World->Value->α->Prop) (l:List α) (w:World) (e:Ending) (w':World):Prop:=Below w.heap.size w w'/\∃ v fs,e=.returned v/\WRow w' v fs/\fs.length=l.length/\(∀(i:Nat) (f:Value) (x:α),fs[i]? = some f->l[i]? = some x->C w' f x)/\RowOwn w w' v
theorem zdv (b:Nat) (aa:Option Addr) (c:Nat) (l:List Nd) (w:World) (hL:LookE b w aa l) (hb:b<=w.heap.size) (hc:l.length<=c) (hn:l.length<=100000) :
 Calls Tryz.prog 137 #[.slice aa l.length c,.func (.func 42) #[] #[]] w (WrisMade (ClosE b) l w):=by
 have HL:=zb hL;have HB0:=zb hb;have HC0:=zb hc;have HN:=zb hn;obtain⟨i0,hi,hz0,hz1,hz2⟩:=info_parts uF;clear hL hb hc
 go_enter Tryz.func137, Tryz.ntmps137
 go_wp2_with fail
 have HG0:Hid (WGrow Nd (ClosE b) w w.heap.size (.func (.func 42) #[] #[]) 84 l 0 (.slice none 0 0) (w.alloc (.cells #[.func (.func 42) #[] #[]] 84 (0,0)))):=zb ⟨zj _,heap_alloc_new w _,[],World.ownsRow_nil _ _ _ _,fun i f x h=>by simp at h⟩
 go_loopw [10,5] (fun vi vo wr=>(∃(i:Nat) (a:Option Addr) (cc:Nat),i<=l.length/\vi=.int .i64 i/\vo=.slice a i cc/\Hid (WGrow Nd (ClosE b) w w.heap.size (.func (.func 42) #[] #[]) 84 l i (.slice a i cc) wr))) (fun vi _ _=>l.length-(intOf vi).toNat)
 case atStart=>exact⟨0,none,0,Nat.zero_le _,by go_num,rfl,HG0⟩
 case round =>
  clear HG0;obtain⟨i,a0,c0,hi',rfl,rfl,HG⟩:=hrel;by_cases hil:i<l.length
  . have h2:decide ((i:Int)<(l.length:Int))=true:=decide_eq_true (by omega);have h3:(i:Int)<(l.length:Int):=by omega
    have h4:(0:Int)<=(i:Int):=by omega
    have E5:IntKind.i64.wrap ((i:Int)+1)=(i:Int)+1:=zM _ (by omega) (by omega);obtain⟨x,hx⟩:∃ x,l[i]? = some x:=⟨_,List.getElem?_eq_getElem hil⟩;have HX:=zb hx;obtain⟨g1,o1,t,rfl,hl1,hs1,hc1⟩:=HL.out i x hx;have HS:=zb hs1;have hl2:=zd hl1 HG.out.below.size;have x0:=(ze (a:=⟨g1,o1+i*8+0,none⟩) (HG.out.below.block g1 hl1)).trans (hc1 0 _ rfl);have x1:=(ze (a:=⟨g1,o1+i*8+1,none⟩) (HG.out.below.block g1 hl1)).trans (hc1 1 _ rfl);have x2:=(ze (a:=⟨g1,o1+i*8+2,none⟩) (HG.out.below.block g1 hl1)).trans (hc1 2 _ rfl);have x3:=(ze (a:=⟨g1,o1+i*8+3,none⟩) (HG.out.below.block g1 hl1)).trans (hc1 3 _ rfl);have x4:=(ze (a:=⟨g1,o1+i*8+4,none⟩) (HG.out.below.block g1 hl1)).trans (hc1 4 _ rfl);have x5:=(ze (a:=⟨g1,o1+i*8+5,none⟩) (HG.out.below.block g1 hl1)).trans (hc1 5 _ rfl);have x6:=(ze (a:=⟨g1,o1+i*8+6,none⟩) (HG.out.below.block g1 hl1)).trans (hc1 6 _ rfl);have x7:=(ze (a:=⟨g1,o1+i*8+7,none⟩) (HG.out.below.block g1 hl1)).trans (hc1 7 _ rfl);rw[Nat.add_zero] at x0;clear hs1;clear hc1 hl1 hx;have HW1:Hid (Below wr.heap.size wr ((wr.alloc (exObj x t)).alloc (.cells #[.func (.func 192) #[] #[.pointer (some ⟨w.heap.size,0,none⟩),.pointer (some ⟨wr.heap.size,0,none⟩)]] 138 (0,0)))):=zb (zB _ _);have HP7:Hid (((wr.alloc (exObj x t)).alloc (.cells #[.func (.func 192) #[] #[.pointer (some ⟨w.heap.size,0,none⟩),.pointer (some ⟨wr.heap.size,0,none⟩)]] 138 (0,0))).heap[wr.heap.size]? = some (exObj x t)):=zb (by
     rw[Lib.alloc_old _ _ _ (by simp)];exact heap_alloc_new wr _)
    have HP8:Hid (((wr.alloc (exObj x t)).alloc (.cells #[.func (.func 192) #[] #[.pointer (some ⟨w.heap.size,0,none⟩),.pointer (some ⟨wr.heap.size,0,none⟩)]] 138 (0,0))).heap[wr.heap.size+1]? = some (.cells #[.func (.func 192) #[] #[.pointer (some ⟨w.heap.size,0,none⟩),.pointer (some ⟨wr.heap.size,0,none⟩)]] 138 (0,0))):=zb (by
     have h9:=heap_alloc_new (wr.alloc (exObj x t)) (.cells #[.func (.func 192) #[] #[.pointer (some ⟨w.heap.size,0,none⟩),.pointer (some ⟨wr.heap.size,0,none⟩)]] 138 (0,0))
     simpa using h9)
    obtain⟨fs,hrow,hcl⟩:=HG.out.row;have HCL:=zb hcl;have hown:=(hrow.alloc (exObj x t)).alloc (.cells #[.func (.func 192) #[] #[.pointer (some ⟨w.heap.size,0,none⟩),.pointer (some ⟨wr.heap.size,0,none⟩)]] 138 (0,0));have HO:=zb hown;have hsz:w.heap.size<=wr.heap.size:=HG.out.below.size;clear hrow hcl
    go_wp2_with (at_builtin;refine wpList_append_own _ rfl _ _ 134 rfl w.heap.size 138 i0 .nilFunc 1 8 Tryz.underlying134 hi hz0 hz1 hz2 rfl (by decide) _ i fs rfl hown ⟨wr.heap.size+1,0,none⟩ 1 1 [.func (.func 192) #[] #[.pointer (some ⟨w.heap.size,0,none⟩),.pointer (some ⟨wr.heap.size,0,none⟩)]] rfl rfl ?c1 ?c2 ?c3 ?c4 ?c5 ?_)
    case c1 =>
     intro j u hj
     match j,hj with
     | 0,hj=>simp at hj;subst hj;rw[Addr.add_lit];exact(zf HP8.out 0).trans rfl
    case c2=>intro u hu;simp at hu;subst hu;rfl
    case c3=>unfold maxLen;omega
    case c4=>omega
    case c5=>simp;omega
    clear HP8;intro v' w2 hown' hgrow _;obtain⟨a2,c2,rfl⟩:∃ a2 c2,v'=.slice a2 (i+1) c2:=by
     rcases hown'.2 with⟨_,h0⟩ | ⟨g,cap,cur,hv,_⟩
     . omega
     . exact⟨_,_,hv⟩
    have HGN:Hid (WGrow Nd (ClosE b) w w.heap.size (.func (.func 42) #[] #[]) 84 l (i+1) (.slice a2 (i+1) c2) w2):=zb (by
     have hkt:KT wr w2:=(KT.below HW1.out).trans (KT.grown hgrow HO.out);have hbw:Below w.heap.size w w2:=(HG.out.below.trans (HW1.out.mono hsz)).grown hgrow (by have:=HW1.out.size;omega) (fun k hk=>(HO.out.lt k hk).1);refine⟨hbw,hkt _ _ _ _ HG.out.fn (by decide) (by decide) (by decide) (by decide),fs++[_],hown',?_⟩;intro j f y hf hy;have hfl:fs.length=i:=by simpa using HO.out.1
     by_cases hj:j<i
     . rw[List.getElem?_append_left (by omega)] at hf;have hbb:Below b wr w2:=((HW1.out.mono hsz).grown hgrow (by have:=HW1.out.size;omega) (fun k hk=>(HO.out.lt k hk).1)).mono HB0.out;exact(HCL.out j f y hf hy).keep hkt hbb
     . have hje:j=i:=by
        have:=(List.getElem?_eq_some_iff.1 hf).1;simp at this;omega
       subst hje;rw[List.getElem?_append_right (by omega),hfl,Nat.sub_self] at hf;simp only[List.getElem?_cons_zero,Option.some.injEq] at hf;have hxy:x=y:=zc (HX.out.symm.trans hy);subst hxy;subst hf;have hbb:Below b w w2:=hbw.mono HB0.out;exact⟨_,_,t,rfl,⟨hkt _ _ _ _ HG.out.fn (by decide) (by decide) (by decide) (by decide),KT.grown hgrow HO.out _ _ _ _ HP7.out (by decide) (by decide) (by decide) (by decide)⟩,HS.out.move (zt hbb)⟩)
    clear hown' hgrow HO HCL HW1 HP7 hown HG
    go_wp2_with fail
    go_roundw
    case rel=>exact⟨i+1,a2,c2,by omega,by go_num,rfl,HGN⟩
    case measure=>simp [intOf];omega
  . have h2:decide ((i:Int)<(l.length:Int))=false:=decide_eq_false (by omega);have h3:¬(i:Int)<(l.length:Int):=by omega
    obtain rfl:i=l.length:=by omega
    go_wp2_with fail
    go_ret;obtain⟨fs,hrow,hcl⟩:=HG.out.row;exact⟨HG.out.below,_,fs,rfl,row_w hrow,by simpa using hrow.1,hcl,zbl hrow⟩
theorem zdm (b:Nat) (aa:Option Addr) (c:Nat) (l:List Nd) (w:World) (hL:LookP b w aa l) (hb:b<=w.heap.size) (hc:l.length<=c) (hn:l.length<=100000) :
 Calls Tryz.prog 91 #[.slice aa l.length c,.func (.func 49) #[] #[]] w (WrisMade (ClosP b) l w):=by
 have HL:=zb hL;have HB0:=zb hb;have HC0:=zb hc;have HN:=zb hn;obtain⟨i0,hi,hz0,hz1,hz2⟩:=info_parts uF;clear hL hb hc
 go_enter Tryz.func91, Tryz.ntmps91
 go_wp2_with fail
 have HG0:Hid (WGrow Nd (ClosP b) w w.heap.size (.func (.func 49) #[] #[]) 89 l 0 (.slice none 0 0) (w.alloc (.cells #[.func (.func 49) #[] #[]] 89 (0,0)))):=zb ⟨zj _,heap_alloc_new w _,[],World.ownsRow_nil _ _ _ _,fun i f x h=>by simp at h⟩
 go_loopw [10,5] (fun vi vo wr=>(∃(i:Nat) (a:Option Addr) (cc:Nat),i<=l.length/\vi=.int .i64 i/\vo=.slice a i cc/\Hid (WGrow Nd (ClosP b) w w.heap.size (.func (.func 49) #[] #[]) 89 l i (.slice a i cc) wr))) (fun vi _ _=>l.length-(intOf vi).toNat)
 case atStart=>exact⟨0,none,0,Nat.zero_le _,by go_num,rfl,HG0⟩
 case round =>
  clear HG0;obtain⟨i,a0,c0,hi',rfl,rfl,HG⟩:=hrel;by_cases hil:i<l.length
  . have h2:decide ((i:Int)<(l.length:Int))=true:=decide_eq_true (by omega);have h3:(i:Int)<(l.length:Int):=by omega
    have h4:(0:Int)<=(i:Int):=by omega
    have E5:IntKind.i64.wrap ((i:Int)+1)=(i:Int)+1:=zM _ (by omega) (by omega);obtain⟨x,hx⟩:∃ x,l[i]? = some x:=⟨_,List.getElem?_eq_getElem hil⟩;have HX:=zb hx;obtain⟨g1,o1,t,rfl,hl1,hs1,hc1⟩:=HL.out i x hx;have HS:=zb hs1;have hl2:=zd hl1 HG.out.below.size;have x0:=(ze (a:=⟨g1,o1+i*7+0,none⟩) (HG.out.below.block g1 hl1)).trans (hc1 0 _ rfl);have x1:=(ze (a:=⟨g1,o1+i*7+1,none⟩) (HG.out.below.block g1 hl1)).trans (hc1 1 _ rfl);have x2:=(ze (a:=⟨g1,o1+i*7+2,none⟩) (HG.out.below.block g1 hl1)).trans (hc1 2 _ rfl);have x3:=(ze (a:=⟨g1,o1+i*7+3,none⟩) (HG.out.below.block g1 hl1)).trans (hc1 3 _ rfl);have x4:=(ze (a:=⟨g1,o1+i*7+4,none⟩) (HG.out.below.block g1 hl1)).trans (hc1 4 _ rfl);have x5:=(ze (a:=⟨g1,o1+i*7+5,none⟩) (HG.out.below.block g1 hl1)).trans (hc1 5 _ rfl);have x6:=(ze (a:=⟨g1,o1+i*7+6,none⟩) (HG.out.below.block g1 hl1)).trans (hc1 6 _ rfl);rw[Nat.add_zero] at x0;clear hs1;clear hc1 hl1 hx;have HW1:Hid (Below wr.heap.size wr ((wr.alloc (paObj x t)).alloc (.cells #[.func (.func 157) #[] #[.pointer (some ⟨w.heap.size,0,none⟩),.pointer (some ⟨wr.heap.size,0,none⟩)]] 138 (0,0)))):=zb (zB _ _);have HP7:Hid (((wr.alloc (paObj x t)).alloc (.cells #[.func (.func 157) #[] #[.pointer (some ⟨w.heap.size,0,none⟩),.pointer (some ⟨wr.heap.size,0,none⟩)]] 138 (0,0))).heap[wr.heap.size]? = some (paObj x t)):=zb (by
     rw[Lib.alloc_old _ _ _ (by simp)];exact heap_alloc_new wr _)
    have HP8:Hid (((wr.alloc (paObj x t)).alloc (.cells #[.func (.func 157) #[] #[.pointer (some ⟨w.heap.size,0,none⟩),.pointer (some ⟨wr.heap.size,0,none⟩)]] 138 (0,0))).heap[wr.heap.size+1]? = some (.cells #[.func (.func 157) #[] #[.pointer (some ⟨w.heap.size,0,none⟩),.pointer (some ⟨wr.heap.size,0,none⟩)]] 138 (0,0))):=zb (by
     have h9:=heap_alloc_new (wr.alloc (paObj x t)) (.cells #[.func (.func 157) #[] #[.pointer (some ⟨w.heap.size,0,none⟩),.pointer (some ⟨wr.heap.size,0,none⟩)]] 138 (0,0))
     simpa using h9)
    obtain⟨fs,hrow,hcl⟩:=HG.out.row;have HCL:=zb hcl;have hown:=(hrow.alloc (paObj x t)).alloc (.cells #[.func (.func 157) #[] #[.pointer (some ⟨w.heap.size,0,none⟩),.pointer (some ⟨wr.heap.size,0,none⟩)]] 138 (0,0));have HO:=zb hown;have hsz:w.heap.size<=wr.heap.size:=HG.out.below.size;clear hrow hcl
    go_wp2_with (at_builtin;refine wpList_append_own _ rfl _ _ 134 rfl w.heap.size 138 i0 .nilFunc 1 8 Tryz.underlying134 hi hz0 hz1 hz2 rfl (by decide) _ i fs rfl hown ⟨wr.heap.size+1,0,none⟩ 1 1 [.func (.func 157) #[] #[.pointer (some ⟨w.heap.size,0,none⟩),.pointer (some ⟨wr.heap.size,0,none⟩)]] rfl rfl ?c1 ?c2 ?c3 ?c4 ?c5 ?_)
    case c1 =>
     intro j u hj
     match j,hj with
     | 0,hj=>simp at hj;subst hj;rw[Addr.add_lit];exact(zf HP8.out 0).trans rfl
    case c2=>intro u hu;simp at hu;subst hu;rfl
    case c3=>unfold maxLen;omega
    case c4=>omega
    case c5=>simp;omega
    clear HP8;intro v' w2 hown' hgrow _;obtain⟨a2,c2,rfl⟩:∃ a2 c2,v'=.slice a2 (i+1) c2:=by
     rcases hown'.2 with⟨_,h0⟩ | ⟨g,cap,cur,hv,_⟩
     . omega
     . exact⟨_,_,hv⟩
    have HGN:Hid (WGrow Nd (ClosP b) w w.heap.size (.func (.func 49) #[] #[]) 89 l (i+1) (.slice a2 (i+1) c2) w2):=zb (by
     have hkt:KT wr w2:=(KT.below HW1.out).trans (KT.grown hgrow HO.out);have hbw:Below w.heap.size w w2:=(HG.out.below.trans (HW1.out.mono hsz)).grown hgrow (by have:=HW1.out.size;omega) (fun k hk=>(HO.out.lt k hk).1);refine⟨hbw,hkt _ _ _ _ HG.out.fn (by decide) (by decide) (by decide) (by decide),fs++[_],hown',?_⟩;intro j f y hf hy;have hfl:fs.length=i:=by simpa using HO.out.1
     by_cases hj:j<i
     . rw[List.getElem?_append_left (by omega)] at hf;have hbb:Below b wr w2:=((HW1.out.mono hsz).grown hgrow (by have:=HW1.out.size;omega) (fun k hk=>(HO.out.lt k hk).1)).mono HB0.out;exact(HCL.out j f y hf hy).keep hkt hbb
     . have hje:j=i:=by
        have:=(List.getElem?_eq_some_iff.1 hf).1;simp at this;omega
       subst hje;rw[List.getElem?_append_right (by omega),hfl,Nat.sub_self] at hf;simp only[List.getElem?_cons_zero,Option.some.injEq] at hf;have hxy:x=y:=zc (HX.out.symm.trans hy);subst hxy;subst hf;have hbb:Below b w w2:=hbw.mono HB0.out;exact⟨_,_,t,rfl,⟨hkt _ _ _ _ HG.out.fn (by decide) (by decide) (by decide) (by decide),KT.grown hgrow HO.out _ _ _ _ HP7.out (by decide) (by decide) (by decide) (by decide)⟩,HS.out.move (zt hbb)⟩)
    clear hown' hgrow HO HCL HW1 HP7 hown HG
    go_wp2_with fail
    go_roundw
    case rel=>exact⟨i+1,a2,c2,by omega,by go_num,rfl,HGN⟩
    case measure=>simp [intOf];omega
  . have h2:decide ((i:Int)<(l.length:Int))=false:=decide_eq_false (by omega);have h3:¬(i:Int)<(l.length:Int):=by omega
    obtain rfl:i=l.length:=by omega
    go_wp2_with fail
    go_ret;obtain⟨fs,hrow,hcl⟩:=HG.out.row;exact⟨HG.out.below,_,fs,rfl,row_w hrow,by simpa using hrow.1,hcl,zbl hrow⟩
theorem zdS (b:Nat) (aa:Option Addr) (c:Nat) (l:List (Nd×Nd)) (w:World) (hL:LookA b w aa l) (hb:b<=w.heap.size) (hc:l.length<=c) (hn:l.length<=100000) :
 Calls Tryz.prog 138 #[.slice aa l.length c,.func (.func 139) #[] #[]] w (WrisMade (ClosA b) l w):=by
 have HL:=zb hL;have HB0:=zb hb;have HC0:=zb hc;have HN:=zb hn;obtain⟨i0,hi,hz0,hz1,hz2⟩:=info_parts uF;clear hL hb hc
 go_enter Tryz.func138, Tryz.ntmps138
 go_wp2_with fail
 have HG0:Hid (WGrow (Nd×Nd) (ClosA b) w w.heap.size (.func (.func 139) #[] #[]) 182 l 0 (.slice none 0 0) (w.alloc (.cells #[.func (.func 139) #[] #[]] 182 (0,0)))):=zb ⟨zj _,heap_alloc_new w _,[],World.ownsRow_nil _ _ _ _,fun i f x h=>by simp at h⟩
 go_loopw [10,5] (fun vi vo wr=>(∃(i:Nat) (a:Option Addr) (cc:Nat),i<=l.length/\vi=.int .i64 i/\vo=.slice a i cc/\Hid (WGrow (Nd×Nd) (ClosA b) w w.heap.size (.func (.func 139) #[] #[]) 182 l i (.slice a i cc) wr))) (fun vi _ _=>l.length-(intOf vi).toNat)
 case atStart=>exact⟨0,none,0,Nat.zero_le _,by go_num,rfl,HG0⟩
 case round =>
  clear HG0;obtain⟨i,a0,c0,hi',rfl,rfl,HG⟩:=hrel;by_cases hil:i<l.length
  . have h2:decide ((i:Int)<(l.length:Int))=true:=decide_eq_true (by omega);have h3:(i:Int)<(l.length:Int):=by omega
    have h4:(0:Int)<=(i:Int):=by omega
    have E5:IntKind.i64.wrap ((i:Int)+1)=(i:Int)+1:=zM _ (by omega) (by omega);obtain⟨x,hx⟩:∃ x,l[i]? = some x:=⟨_,List.getElem?_eq_getElem hil⟩;have HX:=zb hx;obtain⟨g1,o1,t,r,rfl,hl1,hs1,hr1,hc1⟩:=HL.out i x hx;have HS:=zb hs1;have HR:=zb hr1;have hl2:=zd hl1 HG.out.below.size;have x0:=(ze (a:=⟨g1,o1+i*15+0,none⟩) (HG.out.below.block g1 hl1)).trans (hc1 0 _ rfl);have x1:=(ze (a:=⟨g1,o1+i*15+1,none⟩) (HG.out.below.block g1 hl1)).trans (hc1 1 _ rfl);have x2:=(ze (a:=⟨g1,o1+i*15+2,none⟩) (HG.out.below.block g1 hl1)).trans (hc1 2 _ rfl);have x3:=(ze (a:=⟨g1,o1+i*15+3,none⟩) (HG.out.below.block g1 hl1)).trans (hc1 3 _ rfl);have x4:=(ze (a:=⟨g1,o1+i*15+4,none⟩) (HG.out.below.block g1 hl1)).trans (hc1 4 _ rfl);have x5:=(ze (a:=⟨g1,o1+i*15+5,none⟩) (HG.out.below.block g1 hl1)).trans (hc1 5 _ rfl);have x6:=(ze (a:=⟨g1,o1+i*15+6,none⟩) (HG.out.below.block g1 hl1)).trans (hc1 6 _ rfl);have x7:=(ze (a:=⟨g1,o1+i*15+7,none⟩) (HG.out.below.block g1 hl1)).trans (hc1 7 _ rfl);have x8:=(ze (a:=⟨g1,o1+i*15+8,none⟩) (HG.out.below.block g1 hl1)).trans (hc1 8 _ rfl);have x9:=(ze (a:=⟨g1,o1+i*15+9,none⟩) (HG.out.below.block g1 hl1)).trans (hc1 9 _ rfl);have x10:=(ze (a:=⟨g1,o1+i*15+10,none⟩) (HG.out.below.block g1 hl1)).trans (hc1 10 _ rfl);have x11:=(ze (a:=⟨g1,o1+i*15+11,none⟩) (HG.out.below.block g1 hl1)).trans (hc1 11 _ rfl);have x12:=(ze (a:=⟨g1,o1+i*15+12,none⟩) (HG.out.below.block g1 hl1)).trans (hc1 12 _ rfl);have x13:=(ze (a:=⟨g1,o1+i*15+13,none⟩) (HG.out.below.block g1 hl1)).trans (hc1 13 _ rfl);have x14:=(ze (a:=⟨g1,o1+i*15+14,none⟩) (HG.out.below.block g1 hl1)).trans (hc1 14 _ rfl);rw[Nat.add_zero] at x0;clear hs1 hr1;clear hc1 hl1 hx;have HW1:Hid (Below wr.heap.size wr ((wr.alloc (.cells (paL x.1 t++exL x.2 r).toArray 77 (0,0))).alloc (.cells #[.func (.func 193) #[] #[.pointer (some ⟨w.heap.size,0,none⟩),.pointer (some ⟨wr.heap.size,0,none⟩)]] 138 (0,0)))):=zb (zB _ _);have HP7:Hid (((wr.alloc (.cells (paL x.1 t++exL x.2 r).toArray 77 (0,0))).alloc (.cells #[.func (.func 193) #[] #[.pointer (some ⟨w.heap.size,0,none⟩),.pointer (some ⟨wr.heap.size,0,none⟩)]] 138 (0,0))).heap[wr.heap.size]? = some (.cells (paL x.1 t++exL x.2 r).toArray 77 (0,0))):=zb (by
     rw[Lib.alloc_old _ _ _ (by simp)];exact heap_alloc_new wr _)
    have HP8:Hid (((wr.alloc (.cells (paL x.1 t++exL x.2 r).toArray 77 (0,0))).alloc (.cells #[.func (.func 193) #[] #[.pointer (some ⟨w.heap.size,0,none⟩),.pointer (some ⟨wr.heap.size,0,none⟩)]] 138 (0,0))).heap[wr.heap.size+1]? = some (.cells #[.func (.func 193) #[] #[.pointer (some ⟨w.heap.size,0,none⟩),.pointer (some ⟨wr.heap.size,0,none⟩)]] 138 (0,0))):=zb (by
     have h9:=heap_alloc_new (wr.alloc (.cells (paL x.1 t++exL x.2 r).toArray 77 (0,0))) (.cells #[.func (.func 193) #[] #[.pointer (some ⟨w.heap.size,0,none⟩),.pointer (some ⟨wr.heap.size,0,none⟩)]] 138 (0,0))
     simpa using h9)
    obtain⟨fs,hrow,hcl⟩:=HG.out.row;have HCL:=zb hcl;have hown:=(hrow.alloc (.cells (paL x.1 t++exL x.2 r).toArray 77 (0,0))).alloc (.cells #[.func (.func 193) #[] #[.pointer (some ⟨w.heap.size,0,none⟩),.pointer (some ⟨wr.heap.size,0,none⟩)]] 138 (0,0));have HO:=zb hown;have hsz:w.heap.size<=wr.heap.size:=HG.out.below.size;clear hrow hcl
    go_wp2_with (at_builtin;refine wpList_append_own _ rfl _ _ 134 rfl w.heap.size 138 i0 .nilFunc 1 8 Tryz.underlying134 hi hz0 hz1 hz2 rfl (by decide) _ i fs rfl hown ⟨wr.heap.size+1,0,none⟩ 1 1 [.func (.func 193) #[] #[.pointer (some ⟨w.heap.size,0,none⟩),.pointer (some ⟨wr.heap.size,0,none⟩)]] rfl rfl ?c1 ?c2 ?c3 ?c4 ?c5 ?_)
    case c1 =>
     intro j u hj
     match j,hj with
     | 0,hj=>simp at hj;subst hj;rw[Addr.add_lit];exact(zf HP8.out 0).trans rfl
    case c2=>intro u hu;simp at hu;subst hu;rfl
    case c3=>unfold maxLen;omega
    case c4=>omega
    case c5=>simp;omega
    clear HP8;intro v' w2 hown' hgrow _;obtain⟨a2,c2,rfl⟩:∃ a2 c2,v'=.slice a2 (i+1) c2:=by
     rcases hown'.2 with⟨_,h0⟩ | ⟨g,cap,cur,hv,_⟩
     . omega
     . exact⟨_,_,hv⟩
    have HGN:Hid (WGrow (Nd×Nd) (ClosA b) w w.heap.size (.func (.func 139) #[] #[]) 182 l (i+1) (.slice a2 (i+1) c2) w2):=zb (by
     have hkt:KT wr w2:=(KT.below HW1.out).trans (KT.grown hgrow HO.out);have hbw:Below w.heap.size w w2:=(HG.out.below.trans (HW1.out.mono hsz)).grown hgrow (by have:=HW1.out.size;omega) (fun k hk=>(HO.out.lt k hk).1);refine⟨hbw,hkt _ _ _ _ HG.out.fn (by decide) (by decide) (by decide) (by decide),fs++[_],hown',?_⟩;intro j f y hf hy;have hfl:fs.length=i:=by simpa using HO.out.1
     by_cases hj:j<i
     . rw[List.getElem?_append_left (by omega)] at hf;have hbb:Below b wr w2:=((HW1.out.mono hsz).grown hgrow (by have:=HW1.out.size;omega) (fun k hk=>(HO.out.lt k hk).1)).mono HB0.out;exact(HCL.out j f y hf hy).keep hkt hbb
     . have hje:j=i:=by
        have:=(List.getElem?_eq_some_iff.1 hf).1;simp at this;omega
       subst hje;rw[List.getElem?_append_right (by omega),hfl,Nat.sub_self] at hf;simp only[List.getElem?_cons_zero,Option.some.injEq] at hf;have hxy:x=y:=zc (HX.out.symm.trans hy);subst hxy;subst hf;have hbb:Below b w w2:=hbw.mono HB0.out;exact⟨_,_,t,r,rfl,⟨hkt _ _ _ _ HG.out.fn (by decide) (by decide) (by decide) (by decide),KT.grown hgrow HO.out _ _ _ _ HP7.out (by decide) (by decide) (by decide) (by decide)⟩,HS.out.move (zt hbb),HR.out.move (zt hbb)⟩)
    clear hown' hgrow HO HCL HW1 HP7 hown HG
    go_wp2_with fail
    go_roundw
    case rel=>exact⟨i+1,a2,c2,by omega,by go_num,rfl,HGN⟩
    case measure=>simp [intOf];omega
  . have h2:decide ((i:Int)<(l.length:Int))=false:=decide_eq_false (by omega);have h3:¬(i:Int)<(l.length:Int):=by omega
    obtain rfl:i=l.length:=by omega
    go_wp2_with fail
    go_ret;obtain⟨fs,hrow,hcl⟩:=HG.out.row;exact⟨HG.out.below,_,fs,rfl,row_w hrow,by simpa using hrow.1,hcl,zbl hrow⟩
