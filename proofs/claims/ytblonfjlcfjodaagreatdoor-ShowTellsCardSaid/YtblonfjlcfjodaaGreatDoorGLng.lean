/-
  The walks of how much the laws look at: longPat, long.
-/
import Derived.Test.YtblonfjlcfjodaaGreatDoorGTol
namespace Go.Proofs.YtblonfjlcfjodaaGreatDoor
set_option linter.unusedSimpArgs false
set_option linter.unusedVariables false
set_option maxRecDepth 100000
set_option maxHeartbeats 4000000
section
open Go.RowKit
def LongIs (r:Int) (w:World) (e:Ending) (w':World):Prop:=e=.returned (.int .i64 r)/\Below w.heap.size w w'
theorem rf {w:World} {N:Nat->Prop} {t:TypeId} {a:Option Addr} {c n k:Nat} {ls:List (List UInt8)} {l:List UInt8} (h:RowIn w N t 1 (.slice a n c) n (strCells ls)) (hn:n=ls.length) (hk:ls[k]? = some l):n<=c/\∃ g o,a=some ⟨g,o,none⟩/\g<w.heap.size/\w.cell? ⟨g,o+k,none⟩=some (.string ⟨l.toArray⟩):=by
 obtain⟨⟨a',c',hv,hc,hr⟩,_⟩:=h;obtain⟨rfl,_,rfl⟩:=Value.slice.inj hv;refine⟨hc,?_⟩;have hi:=(List.getElem?_eq_some_iff.1 hk).1;rcases hr with hr | ⟨g,o,h1,_,h3,h4⟩
 . omega
 . exact⟨g,o,h1,h3.lt,h4 k _ (by unfold strCells;rw[List.getElem?_map,hk];rfl)⟩
theorem qd {ls:List (List UInt8)} {k:Nat} {l:List UInt8} {v:Int} (h:ls[k]? = some l) (hv:0<v):longL (ls.drop k) v=longL (ls.drop (k+1)) (v-((l.length:Int)+1)):=by
 obtain⟨hi,rfl⟩:=List.getElem?_eq_some_iff.1 h;rw[List.drop_eq_getElem_cons hi,longL,if_pos hv]
theorem zcV {l:List Nd} {k:Nat} {x:Nd} {v:Int} (h:l[k]? = some x) (hv:0<v):longPs (l.drop k) v=longPs (l.drop (k+1)) (longP x v):=by
 obtain⟨hi,rfl⟩:=List.getElem?_eq_some_iff.1 h;rw[List.drop_eq_getElem_cons hi,longPs,if_pos hv]
theorem zcI {l:List Nd} {k:Nat} {x:Nd} {v:Int} (h:l[k]? = some x) (hv:0<v):longEs (l.drop k) v=longEs (l.drop (k+1)) (longE x v):=by
 obtain⟨hi,rfl⟩:=List.getElem?_eq_some_iff.1 h;rw[List.drop_eq_getElem_cons hi,longEs,if_pos hv]
theorem zcY {l:List (Nd×Nd)} {k:Nat} {x:Nd×Nd} {v:Int} (h:l[k]? = some x) (hv:0<v):longAs (l.drop k) v=longAs (l.drop (k+1)) (longE x.2 (longP x.1 v)):=by
 obtain⟨hi,hx⟩:=List.getElem?_eq_some_iff.1 h;obtain⟨p,b⟩:=x;rw[List.drop_eq_getElem_cons hi,hx,longAs,if_pos hv]
theorem xc (n:Int) (h:-9000000000000000<=n/\n<=9000000000000000):IntKind.i64.wrap n=n:=by rw[IntKind.wrap_i64];omega
theorem xN (l:List UInt8):(⟨l.toArray⟩:ByteArray).size=l.length:=by simp [ByteArray.size]
theorem longP_mk (x:Nd) (n:Int):longP x n=longPs x.args (longL x.hd.labels (n-(costV x.hd:Int))):=by cases x;rfl
theorem longE_mk (x:Nd) (n:Int):longE x n=longAs x.arms (longEs x.args (longL x.hd.labels (n-(costV x.hd:Int)))):=by cases x;rfl
theorem qH (x:Nd) (s:Sl) (n:Int) (w:World) (hw:x.wide) (hx:IsP w (fun _=>True) (paL x s) x) (h0:-300000000000000<=n) (h1:n<=65536)
 (hrec:∀ a∈x.args,∀(t:Sl) (n:Int) (W:World),-300000000000000<=n->n<=65536->IsP W (fun _=>True) (paL a t) a->Calls Tryz.prog 19 #[paOf a t,.int .i64 n] W (LongIs (longP a n) W))
 : Calls Tryz.prog 19 #[paOf x s,.int .i64 n] w (LongIs (longP x n) w):=by
 have HX:=zb hx;have HREC:=zb hrec;have HW:=zb hw;have HLB:=zb (fun (l:List UInt8) (h:l∈x.hd.labels)=>hw.hd.labels l h);have b1:=hw.hd.name;have b2:=hw.hd.s;have HT:Hid (longP x n=longPs x.args (longL x.hd.labels (n-(costV x.hd:Int)))):=zb (longP_mk x n);clear hx hrec hw;unfold paOf;have q1:=xN x.hd.name;have q2:=xN x.hd.s;have HC:Hid ((costV x.hd:Int)=((x.hd.name.length:Nat):Int)+((x.hd.s.length:Nat):Int)+1):=zb (by unfold costV;omega)
 go_enter Tryz.func19, Tryz.ntmps19
 go_upto_region 1 with fail
 obtain⟨W0,hW0⟩:∃ W,w.alloc (.cells #[.int .i64 x.hd.kind,.int .i64 x.hd.pos,.string ⟨x.hd.name.toArray⟩,.int .i64 x.hd.n,.string ⟨x.hd.s.toArray⟩,.slice s.la x.hd.labels.length s.lc,.slice s.aa x.args.length s.ac] 39 (0,0))=W:=⟨_,rfl⟩;have HB0:Hid (Below w.heap.size w W0):=zb (by rw[← hW0];exact zj _);have HPX:Hid (PaBox W0 w.heap.size x s):=zb (by rw[← hW0];exact zA w _ _ rfl);rw[hW0];clear hW0;replace HX:=zb (HX.out.below HB0.out);generalize hbx:w.heap.size=bx at HPX ⊢;clear hbx;obtain⟨a0,a1,a2,a3,a4,a5,a6,af⟩:=Box7.cells HPX.out;have al:=HPX.out.lt;have hbx0:=al;clear af;have e1:IntKind.i64.wrap ((x.hd.name.length:Int)+(x.hd.s.length:Int))=(x.hd.name.length:Int)+(x.hd.s.length:Int):=xc _ (by omega);have e2:IntKind.i64.wrap ((x.hd.name.length:Int)+(x.hd.s.length:Int)+1)=(x.hd.name.length:Int)+(x.hd.s.length:Int)+1:=xc _ (by omega);have e3:IntKind.i64.wrap (n-((x.hd.name.length:Int)+(x.hd.s.length:Int)+1))=n-(costV x.hd:Int):=by rw[xc _ (by omega),HC.out]
 obtain⟨c0,hc0⟩:∃ c:Int,n-(costV x.hd:Int)=c:=⟨_,rfl⟩;have hcb:-600000000000000<=c0/\c0<=65536:=by have:=HC.out;omega
 rw[hc0] at e3 HT;clear hc0 HC b1 b2
 go_upto_region 3 with fail
 clear e1 e2 e3 q1 q2;clear a0 a1 a2 a3 a4 a5 a6 al h0 h1;have HZ:=zb (Below.refl W0.heap.size W0);have HLE:Hid (x.hd.labels.length<=9223372036854775807/\x.args.length<=9223372036854775807):=zb ⟨HX.out.look.2.1.2,HX.out.look.2.2.2.1⟩;obtain⟨T1,hT1⟩:∃ c:Int,longL x.hd.labels c0=c:=⟨_,rfl⟩;have HT1:=zb hT1;rw[hT1] at HT;clear hT1
 go_loopw [1,5] (fun vl vi wr=>∃(k:Nat) (v:Int),k<=x.hd.labels.length/\vi=.int .i64 k/\vl=.int .i64 v/\-600000000000000<=v/\v<=65536/\W0=wr/\Hid (longL (x.hd.labels.drop k) v=T1)) (fun _ vi _=>x.hd.labels.length-(intOf vi).toNat)
 case atStart=>exact⟨0,c0,Nat.zero_le _,by go_num,rfl,hcb.1,hcb.2,rfl,HT1⟩
 case round =>
  clear HT1 hcb;obtain⟨k,v,hk,rfl,rfl,hv0,hv1,rfl,HV⟩:=hrel;obtain⟨a0,a1,a2,a3,a4,a5,a6,af⟩:=Box7.cells HPX.out;have al:=HPX.out.lt;clear af;by_cases hgo:k<x.hd.labels.length/\0<v
  . obtain⟨hk2,hv2⟩:=hgo;have h2:decide ((k:Int)<(x.hd.labels.length:Int))=true:=decide_eq_true (by omega);have h3:(k:Int)<(x.hd.labels.length:Int):=by omega
    have l2:decide ((0:Int)<v)=true:=decide_eq_true hv2;have h4:(0:Int)<=(k:Int):=by omega
    have E5:IntKind.i64.wrap ((k:Int)+1)=(k:Int)+1:=by rw[IntKind.wrap_i64];have:=HLE.out.1;omega
    obtain⟨lb,hlb⟩:∃ a,x.hd.labels[k]? = some a:=⟨_,List.getElem?_eq_getElem hk2⟩;have b3:=HLB.out lb (List.mem_of_getElem? hlb);obtain⟨hlc,gl,ol,hla,hgl,hcl⟩:=rf (HX.out.look.2.1) rfl hlb;rw[hla] at a5;have q3:=xN lb;have E6:IntKind.i64.wrap ((lb.length:Int)+1)=(lb.length:Int)+1:=xc _ (by omega);have HN:Hid (longL (x.hd.labels.drop (k+1)) (v-((lb.length:Int)+1))=T1):=zb (by rw[← qd hlb hv2];exact HV.out);have hn1:-600000000000000<=v-((lb.length:Int)+1)/\v-((lb.length:Int)+1)<=65536:=by omega
    clear hla hlb HV hv0 hv1;obtain⟨v2,hv2e⟩:∃ c:Int,v-((lb.length:Int)+1)=c:=⟨_,rfl⟩;have E7:IntKind.i64.wrap (v-((lb.length:Int)+1))=v2:=by rw[xc _ (by omega),hv2e]
    rw[hv2e] at HN hn1;clear hv2e b3
    go_wp2_with fail
    go_roundw
    case rel=>exact⟨k+1,v2,by omega,by go_num,rfl,hn1.1,hn1.2,by first | trivial | rfl,HN⟩
    case measure=>simp [intOf];omega
  . have HVT:Hid (v=T1):=zb (by
     have h9:=HV.out;by_cases hk2:k<x.hd.labels.length
     . rwa [vh (fun h=>hgo ⟨hk2,h⟩)] at h9
     . rwa [List.drop_of_length_le (by omega),longL] at h9)
    have hex:(decide ((k:Int)<(x.hd.labels.length:Int))=true/\(k:Int)<(x.hd.labels.length:Int)/\decide ((0:Int)<v)=false)∨(decide ((k:Int)<(x.hd.labels.length:Int))=false/\¬(k:Int)<(x.hd.labels.length:Int)):=by
     by_cases hk2:k<x.hd.labels.length
     . exact .inl ⟨decide_eq_true (by omega),by omega,decide_eq_false (fun h=>hgo ⟨hk2,h⟩)⟩
     . exact .inr ⟨decide_eq_false (by omega),by omega⟩
    clear HV hgo;rcases hex with⟨h2,h3,l2⟩ | ⟨h2,h3⟩
    all_goals
     go_upto_region 7 with fail
     clear h2 h3 a0 a1 a2 a3 a4 a5 a6 al
     try clear l2
     have hva:-600000000000000<=v/\v<=65536:=⟨hv0,hv1⟩;obtain⟨T2,hT2⟩:∃ c:Int,longPs x.args T1=c:=⟨_,rfl⟩;rw[hT2] at HT;have HT2:Hid (longPs x.args v=T2):=zb (by rw[HVT.out];exact hT2);clear hT2 HVT hv0 hv1 hk
     go_loopw [1,6] (fun vl vi wr=>∃(k:Nat) (v:Int),k<=x.args.length/\vi=.int .i64 k/\vl=.int .i64 v/\-600000000000000<=v/\v<=65536/\Hid (Below W0.heap.size W0 wr)/\Hid (longPs (x.args.drop k) v=T2)) (fun _ vi _=>x.args.length-(intOf vi).toNat)
     case atStart=>exact⟨0,v,Nat.zero_le _,by go_num,rfl,hva.1,hva.2,HZ,HT2⟩
     case round =>
      clear HT2 hva HZ;obtain⟨k,v,hk,rfl,rfl,hv0,hv1,HVW,HV⟩:=hrel;obtain⟨a0,a1,a2,a3,a4,a5,a6,af⟩:=Box7.cells (Box7.below HPX.out HVW.out);have al:=Box7.lt (Box7.below HPX.out HVW.out);clear af;by_cases hgo:k<x.args.length/\0<v
      . obtain⟨hk2,hv2⟩:=hgo;have h2:decide ((k:Int)<(x.args.length:Int))=true:=decide_eq_true (by omega);have h3:(k:Int)<(x.args.length:Int):=by omega
        have l2:decide ((0:Int)<v)=true:=decide_eq_true hv2;have h4:(0:Int)<=(k:Int):=by omega
        have E5:IntKind.i64.wrap ((k:Int)+1)=(k:Int)+1:=by rw[IntKind.wrap_i64];have:=HLE.out.2;omega
        obtain⟨ca,hca⟩:∃ a,x.args[k]? = some a:=⟨_,List.getElem?_eq_getElem hk2⟩;obtain⟨g1,o1,t1,e1,l1,i1,c1⟩:=(HX.out.below HVW.out).look.2.2.2.2 k ca hca;rw[e1] at a6;have x0:=c1 0 _ rfl;have x1:=c1 1 _ rfl;have x2:=c1 2 _ rfl;have x3:=c1 3 _ rfl;have x4:=c1 4 _ rfl;have x5:=c1 5 _ rfl;have x6:=c1 6 _ rfl;rw[Nat.add_zero] at x0;have HCALL:=zb (HREC.out ca (List.mem_of_getElem? hca) t1 v wr (by omega) hv1 i1);have hb:=vf ca ((HW.out).args ca (List.mem_of_getElem? hca)) v;have HN:Hid (longPs (x.args.drop (k+1)) (longP ca v)=T2):=zb (by rw[← zcV hca hv2];exact HV.out);have hn1:-600000000000000<=longP ca v/\longP ca v<=65536:=by omega
        clear c1 e1 i1 hca HV hb hv0 hv1;generalize longP ca v=v2 at *;unfold paOf at HCALL
        go_wp2_with fail
        refine HCALL.out.mono ?_;rintro e w6 ⟨rfl,hb6⟩;clear HCALL x0 x1 x2 x3 x4 x5 x6 l1 a0 a1 a2 a3 a4 a5 a6 al h2 h3 l2 h4;have HV6:=zb (HVW.out.trans (hb6.mono HVW.out.size));clear hb6 HVW
        go_wp2_with fail
        go_roundw
        case rel=>exact⟨k+1,v2,by omega,by go_num,rfl,hn1.1,hn1.2,HV6,HN⟩
        case measure=>simp [intOf];omega
      . have HVT:Hid (v=T2):=zb (by
         have h9:=HV.out;by_cases hk2:k<x.args.length
         . rwa [wv (fun h=>hgo ⟨hk2,h⟩)] at h9
         . rwa [List.drop_of_length_le (by omega),longPs] at h9)
        have hex:(decide ((k:Int)<(x.args.length:Int))=true/\(k:Int)<(x.args.length:Int)/\decide ((0:Int)<v)=false)∨(decide ((k:Int)<(x.args.length:Int))=false/\¬(k:Int)<(x.args.length:Int)):=by
         by_cases hk2:k<x.args.length
         . exact .inl ⟨decide_eq_true (by omega),by omega,decide_eq_false (fun h=>hgo ⟨hk2,h⟩)⟩
         . exact .inr ⟨decide_eq_false (by omega),by omega⟩
        clear HV hgo;rcases hex with⟨h2,h3,l2⟩ | ⟨h2,h3⟩
        all_goals
         go_wp2_with fail
         go_ret;exact⟨by rw[HT.out,← HVT.out];rfl,HB0.out.trans (HVW.out.mono HB0.out.size)⟩
theorem tU:∀(m:Nat) (x:Nd) (s:Sl) (n:Int) (w:World),x.size<=m->x.wide->-300000000000000<=n->n<=65536->IsP w (fun _=>True) (paL x s) x->Calls Tryz.prog 19 #[paOf x s,.int .i64 n] w (LongIs (longP x n) w)
 | 0,x,_,_,_,h,_,_,_,_=>absurd h (by cases x;show ¬(1+_+_<=0);omega)
 | m+1,x,s,n,w,h,hw,h0,h1,hx=>qH x s n w hw hx h0 h1 fun a ha t n' W h0' h1' hi=>tU m a t n' W (by have:=xO ha;omega) (hw.args a ha) h0' h1' hi
end
section
open Go.RowKit
theorem zc8 (x:Nd) (s:Sl) (n:Int) (w:World) (hw:x.wide) (hx:IsE w (fun _=>True) (exL x s) x) (h0:-300000000000000<=n) (h1:n<=65536)
 (hrec:∀ a∈x.args,∀(t:Sl) (n:Int) (W:World),-300000000000000<=n->n<=65536->IsE W (fun _=>True) (exL a t) a->Calls Tryz.prog 16 #[exOf a t,.int .i64 n] W (LongIs (longE a n) W))
 (hpat:∀ c∈x.arms,∀(t:Sl) (n:Int) (W:World),-300000000000000<=n->n<=65536->IsP W (fun _=>True) (paL c.1 t) c.1->Calls Tryz.prog 19 #[paOf c.1 t,.int .i64 n] W (LongIs (longP c.1 n) W))
 (hbod:∀ c∈x.arms,∀(t:Sl) (n:Int) (W:World),-300000000000000<=n->n<=65536->IsE W (fun _=>True) (exL c.2 t) c.2->Calls Tryz.prog 16 #[exOf c.2 t,.int .i64 n] W (LongIs (longE c.2 n) W))
 : Calls Tryz.prog 16 #[exOf x s,.int .i64 n] w (LongIs (longE x n) w):=by
 have HX:=zb hx;have HREC:=zb hrec;have HW:=zb hw;have HPAT:=zb hpat;have HBOD:=zb hbod;have HLB:=zb (fun (l:List UInt8) (h:l∈x.hd.labels)=>hw.hd.labels l h);have b1:=hw.hd.name;have b2:=hw.hd.s;have HT:Hid (longE x n=longAs x.arms (longEs x.args (longL x.hd.labels (n-(costV x.hd:Int))))):=zb (longE_mk x n);clear hx hrec hw hpat hbod;unfold exOf exV;have q1:=xN x.hd.name;have q2:=xN x.hd.s;have HC:Hid ((costV x.hd:Int)=((x.hd.name.length:Nat):Int)+((x.hd.s.length:Nat):Int)+1):=zb (by unfold costV;omega)
 go_enter Tryz.func16, Tryz.ntmps16
 go_upto_region 1 with fail
 obtain⟨W0,hW0⟩:∃ W,w.alloc (.cells #[.int .i64 x.hd.kind,.int .i64 x.hd.pos,.string ⟨x.hd.name.toArray⟩,.int .i64 x.hd.n,.string ⟨x.hd.s.toArray⟩,.slice s.la x.hd.labels.length s.lc,.slice s.aa x.args.length s.ac,.slice s.ra x.arms.length s.rc] 27 (0,0))=W:=⟨_,rfl⟩;have HB0:Hid (Below w.heap.size w W0):=zb (by rw[← hW0];exact zj _);have HPX:Hid (ExBox W0 w.heap.size x s):=zb (by rw[← hW0];exact zA w _ _ rfl);rw[hW0];clear hW0;replace HX:=zb (HX.out.below HB0.out);generalize hbx:w.heap.size=bx at HPX ⊢;clear hbx;obtain⟨a0,a1,a2,a3,a4,a5,a6,a7,af⟩:=Box8.cells HPX.out;have al:=HPX.out.lt;have hbx0:=al;clear af;have e1:IntKind.i64.wrap ((x.hd.name.length:Int)+(x.hd.s.length:Int))=(x.hd.name.length:Int)+(x.hd.s.length:Int):=xc _ (by omega);have e2:IntKind.i64.wrap ((x.hd.name.length:Int)+(x.hd.s.length:Int)+1)=(x.hd.name.length:Int)+(x.hd.s.length:Int)+1:=xc _ (by omega);have e3:IntKind.i64.wrap (n-((x.hd.name.length:Int)+(x.hd.s.length:Int)+1))=n-(costV x.hd:Int):=by rw[xc _ (by omega),HC.out]
 obtain⟨c0,hc0⟩:∃ c:Int,n-(costV x.hd:Int)=c:=⟨_,rfl⟩;have hcb:-600000000000000<=c0/\c0<=65536:=by have:=HC.out;omega
 rw[hc0] at e3 HT;clear hc0 HC b1 b2
 go_upto_region 3 with fail
 clear e1 e2 e3 q1 q2;clear a0 a1 a2 a3 a4 a5 a6 a7 al h0 h1;have HZ:=zb (Below.refl W0.heap.size W0);have HLE:Hid (x.hd.labels.length<=9223372036854775807/\x.args.length<=9223372036854775807/\x.arms.length<=9223372036854775807):=zb ⟨HX.out.look.1.2,HX.out.look.2.2.1,HX.out.look.2.2.2.1⟩;obtain⟨T1,hT1⟩:∃ c:Int,longL x.hd.labels c0=c:=⟨_,rfl⟩;have HT1:=zb hT1;rw[hT1] at HT;clear hT1
 go_loopw [1,5] (fun vl vi wr=>∃(k:Nat) (v:Int),k<=x.hd.labels.length/\vi=.int .i64 k/\vl=.int .i64 v/\-600000000000000<=v/\v<=65536/\W0=wr/\Hid (longL (x.hd.labels.drop k) v=T1)) (fun _ vi _=>x.hd.labels.length-(intOf vi).toNat)
 case atStart=>exact⟨0,c0,Nat.zero_le _,by go_num,rfl,hcb.1,hcb.2,rfl,HT1⟩
 case round =>
  clear HT1 hcb;obtain⟨k,v,hk,rfl,rfl,hv0,hv1,rfl,HV⟩:=hrel;obtain⟨a0,a1,a2,a3,a4,a5,a6,a7,af⟩:=Box8.cells HPX.out;have al:=HPX.out.lt;clear af;by_cases hgo:k<x.hd.labels.length/\0<v
  . obtain⟨hk2,hv2⟩:=hgo;have h2:decide ((k:Int)<(x.hd.labels.length:Int))=true:=decide_eq_true (by omega);have h3:(k:Int)<(x.hd.labels.length:Int):=by omega
    have l2:decide ((0:Int)<v)=true:=decide_eq_true hv2;have h4:(0:Int)<=(k:Int):=by omega
    have E5:IntKind.i64.wrap ((k:Int)+1)=(k:Int)+1:=by rw[IntKind.wrap_i64];have:=HLE.out.1;omega
    obtain⟨lb,hlb⟩:∃ a,x.hd.labels[k]? = some a:=⟨_,List.getElem?_eq_getElem hk2⟩;have b3:=HLB.out lb (List.mem_of_getElem? hlb);obtain⟨hlc,gl,ol,hla,hgl,hcl⟩:=rf (HX.out.look.1) rfl hlb;rw[hla] at a5;have q3:=xN lb;have E6:IntKind.i64.wrap ((lb.length:Int)+1)=(lb.length:Int)+1:=xc _ (by omega);have HN:Hid (longL (x.hd.labels.drop (k+1)) (v-((lb.length:Int)+1))=T1):=zb (by rw[← qd hlb hv2];exact HV.out);have hn1:-600000000000000<=v-((lb.length:Int)+1)/\v-((lb.length:Int)+1)<=65536:=by omega
    clear hla hlb HV hv0 hv1;obtain⟨v2,hv2e⟩:∃ c:Int,v-((lb.length:Int)+1)=c:=⟨_,rfl⟩;have E7:IntKind.i64.wrap (v-((lb.length:Int)+1))=v2:=by rw[xc _ (by omega),hv2e]
    rw[hv2e] at HN hn1;clear hv2e b3
    go_wp2_with fail
    go_roundw
    case rel=>exact⟨k+1,v2,by omega,by go_num,rfl,hn1.1,hn1.2,by first | trivial | rfl,HN⟩
    case measure=>simp [intOf];omega
  . have HVT:Hid (v=T1):=zb (by
     have h9:=HV.out;by_cases hk2:k<x.hd.labels.length
     . rwa [vh (fun h=>hgo ⟨hk2,h⟩)] at h9
     . rwa [List.drop_of_length_le (by omega),longL] at h9)
    have hex:(decide ((k:Int)<(x.hd.labels.length:Int))=true/\(k:Int)<(x.hd.labels.length:Int)/\decide ((0:Int)<v)=false)∨(decide ((k:Int)<(x.hd.labels.length:Int))=false/\¬(k:Int)<(x.hd.labels.length:Int)):=by
     by_cases hk2:k<x.hd.labels.length
     . exact .inl ⟨decide_eq_true (by omega),by omega,decide_eq_false (fun h=>hgo ⟨hk2,h⟩)⟩
     . exact .inr ⟨decide_eq_false (by omega),by omega⟩
    clear HV hgo;rcases hex with⟨h2,h3,l2⟩ | ⟨h2,h3⟩
    all_goals
     go_upto_region 7 with fail
     clear h2 h3 a0 a1 a2 a3 a4 a5 a6 a7 al
     try clear l2
     have hva:-600000000000000<=v/\v<=65536:=⟨hv0,hv1⟩;obtain⟨T2,hT2⟩:∃ c:Int,longEs x.args T1=c:=⟨_,rfl⟩;rw[hT2] at HT;have HT2:Hid (longEs x.args v=T2):=zb (by rw[HVT.out];exact hT2);clear hT2 HVT hv0 hv1 hk
     go_loopw [1,6] (fun vl vi wr=>∃(k:Nat) (v:Int),k<=x.args.length/\vi=.int .i64 k/\vl=.int .i64 v/\-600000000000000<=v/\v<=65536/\Hid (Below W0.heap.size W0 wr)/\Hid (longEs (x.args.drop k) v=T2)) (fun _ vi _=>x.args.length-(intOf vi).toNat)
     case atStart=>exact⟨0,v,Nat.zero_le _,by go_num,rfl,hva.1,hva.2,HZ,HT2⟩
     case round =>
      clear HT2 hva HZ;obtain⟨k,v,hk,rfl,rfl,hv0,hv1,HVW,HV⟩:=hrel;obtain⟨a0,a1,a2,a3,a4,a5,a6,a7,af⟩:=Box8.cells (Box8.below HPX.out HVW.out);have al:=Box8.lt (Box8.below HPX.out HVW.out);clear af;by_cases hgo:k<x.args.length/\0<v
      . obtain⟨hk2,hv2⟩:=hgo;have h2:decide ((k:Int)<(x.args.length:Int))=true:=decide_eq_true (by omega);have h3:(k:Int)<(x.args.length:Int):=by omega
        have l2:decide ((0:Int)<v)=true:=decide_eq_true hv2;have h4:(0:Int)<=(k:Int):=by omega
        have E5:IntKind.i64.wrap ((k:Int)+1)=(k:Int)+1:=by rw[IntKind.wrap_i64];have:=HLE.out.2.1;omega
        obtain⟨ca,hca⟩:∃ a,x.args[k]? = some a:=⟨_,List.getElem?_eq_getElem hk2⟩;obtain⟨g1,o1,t1,e1,l1,i1,c1⟩:=(HX.out.below HVW.out).look.2.2.2.2.1 k ca hca;rw[e1] at a6;have x0:=c1 0 _ rfl;have x1:=c1 1 _ rfl;have x2:=c1 2 _ rfl;have x3:=c1 3 _ rfl;have x4:=c1 4 _ rfl;have x5:=c1 5 _ rfl;have x6:=c1 6 _ rfl;have x7:=c1 7 _ rfl;rw[Nat.add_zero] at x0;have HCALL:=zb (HREC.out ca (List.mem_of_getElem? hca) t1 v wr (by omega) hv1 i1);have hb:=uT ca ((HW.out).args ca (List.mem_of_getElem? hca)) v;have HN:Hid (longEs (x.args.drop (k+1)) (longE ca v)=T2):=zb (by rw[← zcI hca hv2];exact HV.out);have hn1:-600000000000000<=longE ca v/\longE ca v<=65536:=by omega
        clear c1 e1 i1 hca HV hb hv0 hv1;generalize longE ca v=v2 at *;unfold exOf exV at HCALL
        go_wp2_with fail
        refine HCALL.out.mono ?_;rintro e w6 ⟨rfl,hb6⟩;clear HCALL x0 x1 x2 x3 x4 x5 x6 x7 l1 a0 a1 a2 a3 a4 a5 a6 a7 al h2 h3 l2 h4;have HV6:=zb (HVW.out.trans (hb6.mono HVW.out.size));clear hb6 HVW
        go_wp2_with fail
        go_roundw
        case rel=>exact⟨k+1,v2,by omega,by go_num,rfl,hn1.1,hn1.2,HV6,HN⟩
        case measure=>simp [intOf];omega
      . have HVT:Hid (v=T2):=zb (by
         have h9:=HV.out;by_cases hk2:k<x.args.length
         . rwa [wo (fun h=>hgo ⟨hk2,h⟩)] at h9
         . rwa [List.drop_of_length_le (by omega),longEs] at h9)
        have hex:(decide ((k:Int)<(x.args.length:Int))=true/\(k:Int)<(x.args.length:Int)/\decide ((0:Int)<v)=false)∨(decide ((k:Int)<(x.args.length:Int))=false/\¬(k:Int)<(x.args.length:Int)):=by
         by_cases hk2:k<x.args.length
         . exact .inl ⟨decide_eq_true (by omega),by omega,decide_eq_false (fun h=>hgo ⟨hk2,h⟩)⟩
         . exact .inr ⟨decide_eq_false (by omega),by omega⟩
        clear HV hgo;rcases hex with⟨h2,h3,l2⟩ | ⟨h2,h3⟩
        all_goals
         go_upto_region 11 with fail
         clear h2 h3 a0 a1 a2 a3 a4 a5 a6 a7 al
         try clear l2
         have hva:-600000000000000<=v/\v<=65536:=⟨hv0,hv1⟩;obtain⟨T3,hT3⟩:∃ c:Int,longAs x.arms T2=c:=⟨_,rfl⟩;rw[hT3] at HT;have HT3:Hid (longAs x.arms v=T3):=zb (by rw[HVT.out];exact hT3);clear hT3 HVT hv0 hv1 hk
         go_loopw [1,7] (fun vl vi wr=>∃(k:Nat) (v:Int),k<=x.arms.length/\vi=.int .i64 k/\vl=.int .i64 v/\-600000000000000<=v/\v<=65536/\Hid (Below W0.heap.size W0 wr)/\Hid (longAs (x.arms.drop k) v=T3)) (fun _ vi _=>x.arms.length-(intOf vi).toNat)
         case atStart=>exact⟨0,v,Nat.zero_le _,by go_num,rfl,hva.1,hva.2,HVW,HT3⟩
         case round =>
          clear HT3 hva HVW;obtain⟨k,v,hk,rfl,rfl,hv0,hv1,HVW,HV⟩:=hrel;obtain⟨a0,a1,a2,a3,a4,a5,a6,a7,af⟩:=Box8.cells (Box8.below HPX.out HVW.out);have al:=Box8.lt (Box8.below HPX.out HVW.out);clear af;by_cases hgo:k<x.arms.length/\0<v
          . obtain⟨hk2,hv2⟩:=hgo;have h2:decide ((k:Int)<(x.arms.length:Int))=true:=decide_eq_true (by omega);have h3:(k:Int)<(x.arms.length:Int):=by omega
            have l2:decide ((0:Int)<v)=true:=decide_eq_true hv2;have h4:(0:Int)<=(k:Int):=by omega
            have E5:IntKind.i64.wrap ((k:Int)+1)=(k:Int)+1:=by rw[IntKind.wrap_i64];have:=HLE.out.2.2;omega
            obtain⟨ca,hca⟩:∃ a,x.arms[k]? = some a:=⟨_,List.getElem?_eq_getElem hk2⟩;obtain⟨g1,o1,t1,r1,e1,l1,i1,j1,c1⟩:=(HX.out.below HVW.out).look.2.2.2.2.2 k ca hca;rw[e1] at a7;have y0:=c1 0 _ rfl;have y1:=c1 1 _ rfl;have y2:=c1 2 _ rfl;have y3:=c1 3 _ rfl;have y4:=c1 4 _ rfl;have y5:=c1 5 _ rfl;have y6:=c1 6 _ rfl;have y7:=c1 7 _ rfl;have y8:=c1 8 _ rfl;have y9:=c1 9 _ rfl;have y10:=c1 10 _ rfl;have y11:=c1 11 _ rfl;have y12:=c1 12 _ rfl;have y13:=c1 13 _ rfl;have y14:=c1 14 _ rfl;rw[Nat.add_zero] at y0;have hwd:=HW.out.arms ca (List.mem_of_getElem? hca);have hbp:=vf ca.1 hwd.1 v;have hbe:=uT ca.2 hwd.2 (longP ca.1 v);have HCP:=zb (fun W (h:Below wr.heap.size wr W)=>HPAT.out ca (List.mem_of_getElem? hca) t1 v W (by omega) hv1 (i1.below h));have HCB:=zb (fun W (h:Below wr.heap.size wr W)=>HBOD.out ca (List.mem_of_getElem? hca) r1 (longP ca.1 v) W (by omega) (by omega) (j1.below h));have HN:Hid (longAs (x.arms.drop (k+1)) (longE ca.2 (longP ca.1 v))=T3):=zb (by rw[← zcY hca hv2];exact HV.out);have hn1:-600000000000000<=longE ca.2 (longP ca.1 v)/\longE ca.2 (longP ca.1 v)<=65536:=by
             by_cases h0:0<longP ca.1 v
             . omega
             . have:=hbe.2.2 h0;omega
            clear c1 e1 i1 j1 hca HV hbp hbe hv0 hv1 hwd;generalize longE ca.2 (longP ca.1 v)=v3 at *;generalize longP ca.1 v=v2 at *;have HRF:=zb (Below.refl wr.heap.size wr);unfold paOf at HCP;unfold exOf exV at HCB;have HCK:Hid (∀ W,Below wr.heap.size wr W->W.cell? ⟨bx,7,none⟩=some (.slice (some ⟨g1,o1,none⟩) x.arms.length s.rc)/\W.cell? ⟨g1,o1+k*15,none⟩=some (.int .i64 ca.1.hd.kind)/\W.cell? ⟨g1,o1+k*15+1,none⟩=some (.int .i64 ca.1.hd.pos)/\W.cell? ⟨g1,o1+k*15+2,none⟩=some (.string ⟨ca.1.hd.name.toArray⟩)/\W.cell? ⟨g1,o1+k*15+3,none⟩=some (.int .i64 ca.1.hd.n)/\W.cell? ⟨g1,o1+k*15+4,none⟩=some (.string ⟨ca.1.hd.s.toArray⟩)/\W.cell? ⟨g1,o1+k*15+5,none⟩=some (.slice t1.la ca.1.hd.labels.length t1.lc)/\W.cell? ⟨g1,o1+k*15+6,none⟩=some (.slice t1.aa ca.1.args.length t1.ac)/\W.cell? ⟨g1,o1+k*15+7,none⟩=some (.int .i64 ca.2.hd.kind)/\W.cell? ⟨g1,o1+k*15+8,none⟩=some (.int .i64 ca.2.hd.pos)/\W.cell? ⟨g1,o1+k*15+9,none⟩=some (.string ⟨ca.2.hd.name.toArray⟩)/\W.cell? ⟨g1,o1+k*15+10,none⟩=some (.int .i64 ca.2.hd.n)/\W.cell? ⟨g1,o1+k*15+11,none⟩=some (.string ⟨ca.2.hd.s.toArray⟩)/\W.cell? ⟨g1,o1+k*15+12,none⟩=some (.slice r1.la ca.2.hd.labels.length r1.lc)/\W.cell? ⟨g1,o1+k*15+13,none⟩=some (.slice r1.aa ca.2.args.length r1.ac)/\W.cell? ⟨g1,o1+k*15+14,none⟩=some (.slice r1.ra ca.2.arms.length r1.rc)):=zb (fun W h=>⟨(ze (w:=wr) (a:=⟨bx,_,none⟩) (h.block bx al)).trans a7,(ze (w:=wr) (a:=⟨g1,_,none⟩) (h.block g1 l1)).trans y0,(ze (w:=wr) (a:=⟨g1,_,none⟩) (h.block g1 l1)).trans y1,(ze (w:=wr) (a:=⟨g1,_,none⟩) (h.block g1 l1)).trans y2,(ze (w:=wr) (a:=⟨g1,_,none⟩) (h.block g1 l1)).trans y3,(ze (w:=wr) (a:=⟨g1,_,none⟩) (h.block g1 l1)).trans y4,(ze (w:=wr) (a:=⟨g1,_,none⟩) (h.block g1 l1)).trans y5,(ze (w:=wr) (a:=⟨g1,_,none⟩) (h.block g1 l1)).trans y6,(ze (w:=wr) (a:=⟨g1,_,none⟩) (h.block g1 l1)).trans y7,(ze (w:=wr) (a:=⟨g1,_,none⟩) (h.block g1 l1)).trans y8,(ze (w:=wr) (a:=⟨g1,_,none⟩) (h.block g1 l1)).trans y9,(ze (w:=wr) (a:=⟨g1,_,none⟩) (h.block g1 l1)).trans y10,(ze (w:=wr) (a:=⟨g1,_,none⟩) (h.block g1 l1)).trans y11,(ze (w:=wr) (a:=⟨g1,_,none⟩) (h.block g1 l1)).trans y12,(ze (w:=wr) (a:=⟨g1,_,none⟩) (h.block g1 l1)).trans y13,(ze (w:=wr) (a:=⟨g1,_,none⟩) (h.block g1 l1)).trans y14⟩)
            go_upto_region 13 with fail
            go_region_held3 (fun W=>W.cell? ⟨bx,7,none⟩=some (.slice (some ⟨g1,o1,none⟩) x.arms.length s.rc)/\W.cell? ⟨g1,o1+k*15,none⟩=some (.int .i64 ca.1.hd.kind)/\W.cell? ⟨g1,o1+k*15+1,none⟩=some (.int .i64 ca.1.hd.pos)/\W.cell? ⟨g1,o1+k*15+2,none⟩=some (.string ⟨ca.1.hd.name.toArray⟩)/\W.cell? ⟨g1,o1+k*15+3,none⟩=some (.int .i64 ca.1.hd.n)/\W.cell? ⟨g1,o1+k*15+4,none⟩=some (.string ⟨ca.1.hd.s.toArray⟩)/\W.cell? ⟨g1,o1+k*15+5,none⟩=some (.slice t1.la ca.1.hd.labels.length t1.lc)/\W.cell? ⟨g1,o1+k*15+6,none⟩=some (.slice t1.aa ca.1.args.length t1.ac)/\W.cell? ⟨g1,o1+k*15+7,none⟩=some (.int .i64 ca.2.hd.kind)/\W.cell? ⟨g1,o1+k*15+8,none⟩=some (.int .i64 ca.2.hd.pos)/\W.cell? ⟨g1,o1+k*15+9,none⟩=some (.string ⟨ca.2.hd.name.toArray⟩)/\W.cell? ⟨g1,o1+k*15+10,none⟩=some (.int .i64 ca.2.hd.n)/\W.cell? ⟨g1,o1+k*15+11,none⟩=some (.string ⟨ca.2.hd.s.toArray⟩)/\W.cell? ⟨g1,o1+k*15+12,none⟩=some (.slice r1.la ca.2.hd.labels.length r1.lc)/\W.cell? ⟨g1,o1+k*15+13,none⟩=some (.slice r1.aa ca.2.args.length r1.ac)/\W.cell? ⟨g1,o1+k*15+14,none⟩=some (.slice r1.ra ca.2.arms.length r1.rc)) (go_keep)
             (first
              | (go_at_call 19; refine(HCP.out _ (Below.refl _ _).drew).mono ?_;rintro e w6 ⟨rfl,hb6⟩;have HB6:=zb ((Below.refl wr.heap.size wr).drew.trans hb6);clear hb6;obtain⟨za,z0,z1,z2,z3,z4,z5,z6,z7,z8,z9,z10,z11,z12,z13,z14⟩:=HCK.out _ HB6.out)
              | (go_at_call 16; refine(HCB.out _ HB6.out).mono ?_;rintro e w7 ⟨rfl,hb7⟩;have HB7:=zb (HB6.out.trans (hb7.mono HB6.out.size));clear hb7;obtain⟨xa,x0,x1,x2,x3,x4,x5,x6,x7,x8,x9,x10,x11,x12,x13,x14⟩:=HCK.out _ HB7.out))
            all_goals
             have HV7:=zb (HVW.out.trans (HB7.out.mono HVW.out.size));clear HCK HCP HCB HB6 HB7 HRF xa x0 x1 x2 x3 x4 x5 x6 x7 x8 x9 x10 x11 x12 x13 x14 za z0 z1 z2 z3 z4 z5 z6 z7 z8 z9 z10 z11 z12 z13 z14 l1 y0 y1 y2 y3 y4 y5 y6 y7 y8 y9 y10 y11 y12 y13 y14 a0 a1 a2 a3 a4 a5 a6 a7 al h2 h3 l2 h4
             go_wp2_with fail
             go_roundw
             case rel=>exact⟨k+1,v3,by omega,by go_num,rfl,hn1.1,hn1.2,HV7,HN⟩
             case measure=>simp [intOf];omega
          . have HVT:Hid (v=T3):=zb (by
             have h9:=HV.out;by_cases hk2:k<x.arms.length
             . rwa [wA (fun h=>hgo ⟨hk2,h⟩)] at h9
             . rwa [List.drop_of_length_le (by omega),longAs] at h9)
            have hex:(decide ((k:Int)<(x.arms.length:Int))=true/\(k:Int)<(x.arms.length:Int)/\decide ((0:Int)<v)=false)∨(decide ((k:Int)<(x.arms.length:Int))=false/\¬(k:Int)<(x.arms.length:Int)):=by
             by_cases hk2:k<x.arms.length
             . exact .inl ⟨decide_eq_true (by omega),by omega,decide_eq_false (fun h=>hgo ⟨hk2,h⟩)⟩
             . exact .inr ⟨decide_eq_false (by omega),by omega⟩
            clear HV hgo;rcases hex with⟨h2,h3,l2⟩ | ⟨h2,h3⟩
            all_goals
             go_wp2_with fail
             go_ret;exact⟨by rw[HT.out,← HVT.out];rfl,HB0.out.trans (HVW.out.mono HB0.out.size)⟩
theorem zen:∀(m:Nat) (x:Nd) (s:Sl) (n:Int) (w:World),x.size<=m->x.wide->-300000000000000<=n->n<=65536->IsE w (fun _=>True) (exL x s) x->Calls Tryz.prog 16 #[exOf x s,.int .i64 n] w (LongIs (longE x n) w)
 | 0,x,_,_,_,h,_,_,_,_=>absurd h (by cases x;show ¬(1+_+_<=0);omega)
 | m+1,x,s,n,w,h,hw,h0,h1,hx=>zc8 x s n w hw hx h0 h1 (fun a ha t n' W h0' h1' hi=>zen m a t n' W (by have:=xO ha;omega) (hw.args a ha) h0' h1' hi)
  (fun c hc t n' W h0' h1' hi=>tU c.1.size c.1 t n' W (Nat.le_refl _) (hw.arms c hc).1 h0' h1' hi)
  (fun c hc t n' W h0' h1' hi=>zen m c.2 t n' W (by have:=(uX hc).2;omega) (hw.arms c hc).2 h0' h1' hi)
end
section
open Go.RowKit
attribute [local go_sem] Oper.semAt_some
def txC:List UInt8:=[102,32,120,32,43,32,49]
def cwA:Nd:=match ParseV txC with | .ok x=>x | .bad _ _=>z0
theorem cw_ok:ParseV txC=.ok cwA:=by
 have h:(match ParseV txC with | .ok _=>true | .bad _ _=>false)=true:=by kernel_rfl
 unfold cwA;cases hp:ParseV txC with
 | ok x=>rfl
 | bad e q=>rw[hp] at h;cases h
def cwS:List UInt8:=[40,40,102,32,120,41,32,43,32,49,41]
theorem cw_show:ShowV cwA=(cwS,0):=by kernel_rfl
def cwL:Nd:=.mk ⟨1,0,[108,101,116],0,[],[]⟩ [] []
theorem cw_let:ShowV cwL=([],5):=by kernel_rfl
def cwP:Nd:=.mk ⟨8,0,[65],0,[],[]⟩ [.mk ⟨3,0,[],-1,[],[]⟩ [] []] []
def cwT:List UInt8:=[40,35,65,32,45,49,41]
theorem cw_pat:PatV cwP=(cwT,0):=by kernel_rfl
theorem cwL_fit:cwL.fit:=⟨⟨by decide,by decide,by decide,fun t ht=>(by cases ht),by decide,by decide⟩,by decide,by decide,trivial,trivial⟩
theorem cwP_fit:cwP.fit:=⟨⟨by decide,by decide,by decide,fun t ht=>(by cases ht),by decide,by decide⟩,by decide,by decide,⟨⟨⟨by decide,by decide,by decide,fun t ht=>(by cases ht),by decide,by decide⟩,by decide,by decide,trivial,trivial⟩,trivial⟩,trivial⟩
theorem cw_parse (w:World) (hy:Ready w):Calls Tryz.prog 12 #[.string ⟨#[102,32,120,32,43,32,49]⟩] w (Parsed (.ok cwA) w):=by
 rw[← cw_ok];exact sK ⟨#[102,32,120,32,43,32,49]⟩ w hy
theorem zet (w:World) (ht:Tab w):Calls Tryz.prog 17 #[.agg #[.int .i64 1,.int .i64 0,.string ⟨#[108,101,116]⟩,.int .i64 0,.string ⟨#[]⟩,.slice none 0 0,.slice none 0 0,.slice none 0 0]] w (Shown ([],5) w):=by
 have h:=qK cwL ⟨none,0,none,0,none,0⟩ w ⟨_,_,_,rfl,zx _ _ _ _,⟨[],zx _ _ _ _,trivial⟩,[],zx _ _ _ _,trivial⟩ cwL_fit (by decide) ht;rw[cw_let] at h;exact h
theorem zdR (w:World) (b:Nat) (ht:Tab w) (hb:w.heap[b]? = some (.cells #[.int .i64 3,.int .i64 0,.string ⟨#[]⟩,.int .i64 (-1),.string ⟨#[]⟩,.slice none 0 0,.slice none 0 0] 39 (0,0))):Calls Tryz.prog 20 #[.agg #[.int .i64 8,.int .i64 0,.string ⟨#[65]⟩,.int .i64 0,.string ⟨#[]⟩,.slice none 0 0,.slice (some ⟨b,0,none⟩) 1 1]] w (Shown (cwT,0) w):=by
 have h:=zaN cwP ⟨none,0,some ⟨b,0,none⟩,1,none,0⟩ w ⟨rfl,_,_,rfl,zx _ _ _ _,[[.int .i64 3,.int .i64 0,.string ⟨#[]⟩,.int .i64 (-1),.string ⟨#[]⟩,.slice none 0 0,.slice none 0 0]],⟨⟨_,_,rfl,Nat.le_refl _,Or.inr ⟨b,0,rfl,trivial,⟨_,_,_,hb⟩,fun i u hi=>by
  rw[zf hb]
  simpa using hi⟩⟩,(by show 1<=9223372036854775807;decide)⟩,⟨rfl,_,_,rfl,zx _ _ _ _,[],zx _ _ _ _,trivial⟩,trivial⟩ cwP_fit (by decide) ht
 rw[cw_pat] at h;exact h
theorem vc (w:World) (hy:Ready w) (ht:Tab w):Calls Tryz.prog 15 #[] w (YesMade true w):=by
 have HY:=zb hy;have HT:=zb ht;clear hy ht
 go_enter Tryz.func15, Tryz.ntmps15
 go_wp2_with fail
 refine(cw_parse _ HY.out).mono ?_;rintro e w1 ⟨hb1,s1,rfl,hi⟩;have HB1:=zb hb1;have HI:=zb (hi.wide fun _ _=>trivial);clear hb1 hi HY;unfold exOf exV
 go_wp2_with fail
 all_goals
  obtain⟨W1,hW1⟩:∃ W,w1.alloc (exObj cwA s1)=W:=⟨_,rfl⟩;have hbx:=zj (w:=w1) (exObj cwA s1);have HZ:Hid (InBox W1 w1.heap.size cwA s1):=zb (by rw[← hW1];exact InBox.new HI.out);rw[hW1] at hbx;have HB2:=zb (HB1.out.trans (hbx.mono HB1.out.size));unfold exObj at hW1
  try rw[hW1]
  clear hW1 hbx HB1 HI;generalize w1.heap.size=bx at *;have HC:=qK cwA s1 W1 HZ.out.tree (vV cw_ok).1 (vV cw_ok).2 (HT.out.below HB2.out);rw[cw_show] at HC;unfold exOf exV at HC;replace HC:=zb HC;obtain⟨f0,f1,f2,f3,f4,f5,f6,f7,_⟩:=Box8.cells HZ.out.box;have fl:=HZ.out.box.lt
  go_wp2_with fail
  refine HC.out.mono ?_;rintro e w2 ⟨hb2,rfl⟩;have HB3:=zb (HB2.out.trans (hb2.mono HB2.out.size));clear HC hb2 HB2 f0 f1 f2 f3 f4 f5 f6 f7 fl HZ
  go_wp2_with fail
  refine(zet _ (HT.out.below HB3.out)).mono ?_;rintro e w3 ⟨hb3,rfl⟩;have HB4:=zb (HB3.out.trans (hb3.mono HB3.out.size));clear hb3 HB3
  go_wp2_with fail
  all_goals
   obtain⟨W3,hW3⟩:∃ W,w3.alloc (.cells #[.int .i64 3,.int .i64 0,.string ⟨#[]⟩,.int .i64 (-1),.string ⟨#[]⟩,.slice none 0 0,.slice none 0 0] 39 (0,0))=W:=⟨_,rfl⟩;have hbx:Below w3.heap.size w3 W3:=by rw[← hW3];exact zj _
   have hbc:W3.heap[w3.heap.size]? = some (.cells #[.int .i64 3,.int .i64 0,.string ⟨#[]⟩,.int .i64 (-1),.string ⟨#[]⟩,.slice none 0 0,.slice none 0 0] 39 (0,0)):=by rw[← hW3];exact zA _ _ _ rfl
   have HB5:=zb (HB4.out.trans (hbx.mono HB4.out.size));rw[hW3];refine(zdR W3 w3.heap.size (HT.out.below HB5.out) hbc).mono ?_;rintro e w4 ⟨hb4,rfl⟩;have HB6:=zb (HB5.out.trans (hb4.mono HB5.out.size));clear hb4 HB5 hW3 hbx hbc HB4
   go_wp2_with fail
   go_ret;exact⟨rfl,HB6.out⟩
theorem rO (x:Nd) (s:Sl) (w:World) (hw:x.wide) (hx:IsE w (fun _=>True) (exL x s) x):Calls Tryz.prog 16 #[exOf x s,.int .i64 65536] w (LongIs (longE x 65536) w):=zen x.size x s 65536 w (Nat.le_refl _) hw (by decide) (by decide) hx
theorem zcZ (x:Nd) (s:Sl) (w:World) (hw:x.wide) (hx:IsP w (fun _=>True) (paL x s) x):Calls Tryz.prog 19 #[paOf x s,.int .i64 65536] w (LongIs (longP x 65536) w):=tU x.size x s 65536 w (Nat.le_refl _) hw (by decide) (by decide) hx
theorem qB (x:Nd) (s:Sl) (w:World) (hx:IsE w (fun _=>True) (exL x s) x) (hw:x.wide) (hl:0<longE x 65536) (ht:Tab w):Calls Tryz.prog 17 #[exOf x s] w (Shown (ShowV x) w):=qK x s w hx (zaP hw (xP hx) hl).1 (zaP hw (xP hx) hl).2 ht
end
