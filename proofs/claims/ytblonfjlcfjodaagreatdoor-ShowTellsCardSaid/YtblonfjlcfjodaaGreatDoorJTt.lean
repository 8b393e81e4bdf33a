/-
  The walk of the document's PatText.
-/
import Derived.Test.YtblonfjlcfjodaaGreatDoorGDos
namespace Go.Proofs.YtblonfjlcfjodaaGreatDoor
set_option linter.unusedSimpArgs false
set_option linter.unusedVariables false
set_option maxRecDepth 100000
set_option maxHeartbeats 4000000
open Go.RowKit
theorem zgy (x:Nd):patTextD x=patTextV x.hd (x.args.map patTextD):=by
 obtain⟨h,l,a⟩:=x;rw[patTextD,zfa];rfl
theorem textD_hd (x:Nd):textD x=textV x.hd (x.args.map textD) (textDa x.arms):=by
 obtain⟨h,l,a⟩:=x;rw[textD,zfi];rfl
theorem zf2 (l:List UInt8) (W:World) (h:l.length<=900000):Calls Tryz.prog 87 #[.string ⟨l.toArray⟩] W (StrMade (qall l) W):=ref_Quote ⟨l.toArray⟩ W (by rw[xN];omega)
theorem zfj:∀(ls ts:List (List UInt8)) (l t:List UInt8) (more:Bool),ls.length=ts.length->fieldsD more (ls++[l]) (ts++[t])=fieldsD more ls ts++((if more||decide (0<ls.length) then [44,32] else [])++(l++([32,61,32]++t)))
 | [],[],l,t,more,_=>by
  cases more <;> simp [fieldsD]
 | a::ls,b::ts,l,t,more,h=>by
  have ih:=zfj ls ts l t true (by simpa using h);rw[List.cons_append,List.cons_append,fieldsD,fieldsD,ih];simp [List.append_assoc]
 | [],_::_,_,_,_,h=>by simp at h
 | _::_,[],_,_,_,h=>by simp at h
theorem ze8 {α:Type} {l:List α} {k:Nat} {x:α} (h:l[k]? = some x):l.take (k+1)=l.take k++[x]:=by
 rw[List.take_add_one,h];rfl
theorem zgg {ls:List (List UInt8)} {ar:List Nd} {f:Nd->List UInt8} {k:Nat} {l:List UInt8} {a:Nd} (hl:ls[k]? = some l) (ha:ar[k]? = some a) :
 fieldsD false (ls.take (k+1)) ((ar.take (k+1)).map f)=fieldsD false (ls.take k) ((ar.take k).map f)++((if 0<k then [44,32] else [])++(l++([32,61,32]++f a))):=by
 have h1:=(List.getElem?_eq_some_iff.1 hl).1;have h2:=(List.getElem?_eq_some_iff.1 ha).1;rw[ze8 hl,ze8 ha,List.map_append,List.map_cons,List.map_nil,zfj _ _ _ _ _ (by rw[List.length_map,List.length_take,List.length_take];omega)];rw[List.length_take,show min k ls.length=k by omega];by_cases h:0<k
 . simp [h]
 . simp [h]
theorem zft (ls:List (List UInt8)) (ts:List (List UInt8)) (k:Nat) (more:Bool):(fieldsD more (ls.take k) (ts.take k)).length<=(fieldsD more ls ts).length:=by
 induction ls generalizing ts k more with
 | nil=>rw[List.take_nil];unfold fieldsD;exact Nat.zero_le _
 | cons l ls ih =>
  cases ts with
  | nil=>rw[List.take_nil];cases k <;> exact Nat.zero_le _
  | cons t ts =>
   cases k with
   | zero=>rw[List.take_zero];unfold fieldsD;exact Nat.zero_le _
   | succ k =>
    have h:=ih ts k true;rw[List.take_succ_cons,List.take_succ_cons,fieldsD,fieldsD];simp only[List.length_append];omega
theorem zfK (x:Nd) (s:Sl) (w:World) (hw:x.hd.wide) (hf:patFormD x=true) (hx:IsP w (fun _=>True) (paL x s) x) (hN:x.hd.name.length<=70000/\x.hd.s.length<=70000/\∀ l∈x.hd.labels,l.length<=70000) (hT:(patTextD x).length<=4000000)
 (hA:∀ a∈x.args,(patTextD a).length<=4000000)
 (hrec:∀ a∈x.args,∀(t:Sl) (W:World),IsP W (fun _=>True) (paL a t) a->Calls Tryz.prog 52 #[paOf a t] W (StrMade (patTextD a) W))
 : Calls Tryz.prog 52 #[paOf x s] w (StrMade (patTextD x) w):=by
 have HX:=zb hx;have HREC:=zb hrec;have HA:=zb hA;have HN:=zb hN;have HT:=zb hT;have HW:=zb hw;have HE:=zb (zgy x);have HF:=zb ((zfm x).symm.trans hf);clear hx hrec hN hT hA hw hf;unfold paOf
 go_enter Tryz.func52, Tryz.ntmps52
 go_upto_region 1 with fail
 obtain⟨W0,hW0⟩:∃ W,w.alloc (.cells #[.int .i64 x.hd.kind,.int .i64 x.hd.pos,.string ⟨x.hd.name.toArray⟩,.int .i64 x.hd.n,.string ⟨x.hd.s.toArray⟩,.slice s.la x.hd.labels.length s.lc,.slice s.aa x.args.length s.ac] 39 (0,0))=W:=⟨_,rfl⟩;have HB0:Hid (Below w.heap.size w W0):=zb (by rw[← hW0];exact zj _);have HPX:Hid (PaBox W0 w.heap.size x s):=zb (by rw[← hW0];exact zA w _ _ rfl);rw[hW0];clear hW0;generalize hbx:w.heap.size=bx at HPX ⊢;clear hbx;have HX1:=zb (HX.out.below HB0.out);clear HX;obtain⟨a0,a1,a2,a3,a4,a5,a6,af⟩:=Box7.cells HPX.out;have al:=HPX.out.lt;clear af;by_cases hk:x.hd.kind=1
 . have HR:Hid (patTextD x=[95]):=zb (by rw[HE.out];unfold patTextV;rw[hk];rfl);rw[hk] at a0;clear hk HE HF
   go_wp2_with fail
   go_ret;exact⟨by rw[HR.out];rfl,HB0.out⟩
 by_cases hk:x.hd.kind=2
 . have HR:Hid (patTextD x=x.hd.name):=zb (by rw[HE.out];unfold patTextV;rw[hk];rfl);rw[hk] at a0;clear hk HE HF
   go_wp2_with fail
   go_ret;exact⟨by rw[HR.out];rfl,HB0.out⟩
 by_cases hk:x.hd.kind=7
 . have HR:Hid (patTextD x=x.hd.name):=zb (by rw[HE.out];unfold patTextV;rw[hk];rfl);rw[hk] at a0;clear hk HE HF
   go_wp2_with fail
   go_ret;exact⟨by rw[HR.out];rfl,HB0.out⟩
 by_cases hk:x.hd.kind=6
 . have HR:Hid (patTextD x=[40,41]):=zb (by rw[HE.out];unfold patTextV;rw[hk];rfl);rw[hk] at a0;clear hk HE HF
   go_wp2_with fail
   go_ret;exact⟨by rw[HR.out];rfl,HB0.out⟩
 by_cases hk:x.hd.kind=3
 . have HR:Hid (patTextD x=Lib.itoa x.hd.n):=zb (by rw[HE.out];unfold patTextV;rw[hk];rfl);have HC:Hid (∀ W,Calls Tryz.prog 86 #[.int .i64 x.hd.n] W (StrMade (Lib.itoa x.hd.n) W)):=zb fun W=>zgo (Size x.hd.n+1) x.hd.n W (Nat.lt_succ_self _) HW.out.n.1 HW.out.n.2;rw[hk] at a0;clear hk HE HF
   go_wp2_with (go_at_call 86; refine(HC.out _).mono ?_;rintro e w3 ⟨rfl,hb3⟩;have HB3:=zb (HB0.out.trans (hb3.mono HB0.out.size));clear hb3)
   go_ret;exact⟨by rw[HR.out];rfl,HB3.out⟩
 by_cases hk:x.hd.kind=4
 . have HR:Hid (patTextD x=qall x.hd.s):=zb (by rw[HE.out];unfold patTextV;rw[hk];rfl);have HC:Hid (∀ W,Calls Tryz.prog 87 #[.string ⟨x.hd.s.toArray⟩] W (StrMade (qall x.hd.s) W)):=zb fun W=>zf2 x.hd.s W (by have:=HN.out.2.1;omega);rw[hk] at a0;clear hk HE HF
   go_wp2_with (go_at_call 87; refine(HC.out _).mono ?_;rintro e w3 ⟨rfl,hb3⟩;have HB3:=zb (HB0.out.trans (hb3.mono HB0.out.size));clear hb3)
   go_ret;exact⟨by rw[HR.out];rfl,HB3.out⟩
 by_cases hk:x.hd.kind=5
 . have HR:Hid (patTextD x=truthD x.hd.n):=zb (by rw[HE.out];unfold patTextV;rw[hk];rfl);have HC:Hid (∀ W,Calls Tryz.prog 88 #[.int .i64 x.hd.n] W (StrIs (truthD x.hd.n) W)):=zb fun W=>zg4 x.hd.n W;rw[hk] at a0;clear hk HE HF;generalize truthD x.hd.n=tx at *
   go_wp2_with (go_at_call 88; refine(HC.out _).mono ?_;rintro e w3 ⟨rfl,rfl⟩)
   go_ret;exact⟨by rw[HR.out];rfl,HB0.out⟩
 by_cases hk:x.hd.kind=8
 . have hf:=HF.out;rw[hk] at hf;have hlen:x.args.length=1:=by
    simp only[Bool.and_eq_true,decide_eq_true_eq] at hf;have:=hf.2.2.2.2.1;simp at this;omega
   clear hf HF;obtain⟨a,ha⟩:∃ a,x.args=[a]:=by
    match h:x.args with
    | []=>rw[h] at hlen;cases hlen
    | [a]=>exact⟨a,rfl⟩
    | _::_::_=>rw[h] at hlen;cases hlen
   have hi:x.args[0]? = some a:=by rw[ha];rfl
   have HR:Hid (patTextD x=[40,35]++(x.hd.name++([32]++(patTextD a++[41])))):=zb (by rw[HE.out,ha];unfold patTextV;rw[hk];rfl);obtain⟨ga,oa,ta,e1,l1,i1,c1⟩:=HX1.out.look.2.2.2.2 0 a hi;have ma:a∈x.args:=List.mem_of_getElem? hi;have HC:Hid (∀ W,Below W0.heap.size W0 W->Calls Tryz.prog 52 #[paOf a ta] W (StrMade (patTextD a) W)):=zb fun W h=>HREC.out a ma ta W (i1.below h);have q1:(patTextD a).length<=4000000:=HA.out a ma;have q2:x.hd.name.length<=70000:=HN.out.1;rw[e1,hlen] at a6;have x0:=c1 0 _ rfl;have x1:=c1 1 _ rfl;have x2:=c1 2 _ rfl;have x3:=c1 3 _ rfl;have x4:=c1 4 _ rfl;have x5:=c1 5 _ rfl;have x6:=c1 6 _ rfl;rw[Nat.zero_mul,Nat.add_zero] at x0;rw[hk] at a0;clear hk HE HREC HA HN HT HW HX1 c1 e1 i1 ma hi ha hlen HPX a1 a3 a4 a5;generalize patTextD a=tx at *;generalize patTextD x=ty at *;generalize x.hd.name=nm at *;unfold paOf at HC;have HCK:Hid (∀ W,Below W0.heap.size W0 W->W.cell? ⟨bx,2,none⟩=some (.string ⟨nm.toArray⟩)/\W.cell? ⟨bx,6,none⟩=some (.slice (some ⟨ga,oa,none⟩) 1 s.ac)/\W.cell? ⟨ga,oa,none⟩=some (.int .i64 a.hd.kind)/\W.cell? ⟨ga,oa+0*7+1,none⟩=some (.int .i64 a.hd.pos)/\W.cell? ⟨ga,oa+0*7+2,none⟩=some (.string ⟨a.hd.name.toArray⟩)/\W.cell? ⟨ga,oa+0*7+3,none⟩=some (.int .i64 a.hd.n)/\W.cell? ⟨ga,oa+0*7+4,none⟩=some (.string ⟨a.hd.s.toArray⟩)/\W.cell? ⟨ga,oa+0*7+5,none⟩=some (.slice ta.la a.hd.labels.length ta.lc)/\W.cell? ⟨ga,oa+0*7+6,none⟩=some (.slice ta.aa a.args.length ta.ac)):=zb (fun W h=>⟨(ze (w:=W0) (a:=⟨bx,_,none⟩) (h.block bx al)).trans a2,(ze (w:=W0) (a:=⟨bx,_,none⟩) (h.block bx al)).trans a6,(ze (w:=W0) (a:=⟨ga,_,none⟩) (h.block ga l1)).trans x0,(ze (w:=W0) (a:=⟨ga,_,none⟩) (h.block ga l1)).trans x1,(ze (w:=W0) (a:=⟨ga,_,none⟩) (h.block ga l1)).trans x2,(ze (w:=W0) (a:=⟨ga,_,none⟩) (h.block ga l1)).trans x3,(ze (w:=W0) (a:=⟨ga,_,none⟩) (h.block ga l1)).trans x4,(ze (w:=W0) (a:=⟨ga,_,none⟩) (h.block ga l1)).trans x5,(ze (w:=W0) (a:=⟨ga,_,none⟩) (h.block ga l1)).trans x6⟩);have p1:¬(9223372036854775807<2+nm.length):=by omega
   have p2:¬(9223372036854775807<2+nm.length+1):=by omega
   have p3:¬(9223372036854775807<2+nm.length+1+tx.length):=by omega
   have p4:¬(9223372036854775807<2+nm.length+1+tx.length+1):=by omega
   go_upto_region 16 with fail
   clear a0
   go_region_held3 (fun W=>W.cell? ⟨bx,2,none⟩=some (.string ⟨nm.toArray⟩)/\W.cell? ⟨bx,6,none⟩=some (.slice (some ⟨ga,oa,none⟩) 1 s.ac)/\W.cell? ⟨ga,oa,none⟩=some (.int .i64 a.hd.kind)/\W.cell? ⟨ga,oa+0*7+1,none⟩=some (.int .i64 a.hd.pos)/\W.cell? ⟨ga,oa+0*7+2,none⟩=some (.string ⟨a.hd.name.toArray⟩)/\W.cell? ⟨ga,oa+0*7+3,none⟩=some (.int .i64 a.hd.n)/\W.cell? ⟨ga,oa+0*7+4,none⟩=some (.string ⟨a.hd.s.toArray⟩)/\W.cell? ⟨ga,oa+0*7+5,none⟩=some (.slice ta.la a.hd.labels.length ta.lc)/\W.cell? ⟨ga,oa+0*7+6,none⟩=some (.slice ta.aa a.args.length ta.ac)) (go_keep) ((go_at_call 52; refine(HC.out _ (Below.refl _ _).drew).mono ?_;rintro e w5 ⟨rfl,hb5⟩;have HB6:=zb ((Below.refl W0.heap.size W0).drew.trans hb5);clear hb5;obtain⟨z0,z1,z2,z3,z4,z5,z6,z7,z8⟩:=HCK.out _ HB6.out))
   all_goals
    have HB7:=zb (HB0.out.trans (HB6.out.mono HB0.out.size))
    try clear z0 z1 z2 z3 z4 z5 z6 z7 z8
    go_wp2_with fail
    go_ret;refine⟨?_,HB7.out⟩;rw[HR.out];show Ending.returned (.string _)=Ending.returned (.string _)
    first
     | rfl
     | (congr 2;apply ByteArray.ext;simp)
 by_cases hk:x.hd.kind=9
 . have hf:=HF.out;rw[hk] at hf;have hlen:x.args.length=x.hd.labels.length:=by
    simp only[Bool.and_eq_true,decide_eq_true_eq] at hf;have:=hf.2.2.2.2.1;simp only[if_true] at this;omega
   clear hf HF;have HR:Hid (patTextD x=[123]++(fieldsD false x.hd.labels (x.args.map patTextD)++[125])):=zb (by rw[HE.out];unfold patTextV;rw[hk];rfl);have HFL:Hid (∀ k,(fieldsD false (x.hd.labels.take k) ((x.args.take k).map patTextD)).length<=4000000):=zb fun k=>by
    have h1:=zft x.hd.labels (x.args.map patTextD) k false;rw[← List.map_take] at h1;have h2:=HT.out;rw[HR.out] at h2;simp only[List.length_append,List.length_cons,List.length_nil] at h2;omega
   rw[hk] at a0;have HLEN:=zb hlen;clear hk HE HT HW hlen
   go_upto_region 19 with fail
   clear a0 a1 a2 a3 a4 a5 a6 al;have HZ:=zb (Below.refl W0.heap.size W0);have HLE:Hid (x.args.length<=9223372036854775807):=zb HX1.out.look.2.2.2.1
   go_loopw [3,4] (fun vo vi wr=>∃(k:Nat) (o:List UInt8),k<=x.args.length/\vo=.string ⟨o.toArray⟩/\vi=.int .i64 k/\Hid (Below W0.heap.size W0 wr)/\Hid (o=[123]++fieldsD false (x.hd.labels.take k) ((x.args.take k).map patTextD))) (fun _ vi _=>x.args.length-(intOf vi).toNat)
   case atStart=>exact⟨0,[123],Nat.zero_le _,rfl,by go_num,HZ,zb (by rw[List.take_zero,List.take_zero];rfl)⟩
   case round =>
    clear HZ;obtain⟨k,o,hk1,rfl,rfl,HV,HO⟩:=hrel;obtain⟨a0,a1,a2,a3,a4,a5,a6,af⟩:=Box7.cells (Box7.below HPX.out HV.out);have al:=Box7.lt (Box7.below HPX.out HV.out);clear af;have q0:o.length<=4000001:=by have h1:=HFL.out k;rw[HO.out];simp only[List.length_append,List.length_cons,List.length_nil];omega
    by_cases hk2:k<x.args.length
    . have h2:decide ((k:Int)<(x.args.length:Int))=true:=decide_eq_true (by omega);have h3:(k:Int)<(x.args.length:Int):=by omega
      have h4:(0:Int)<=(k:Int):=by omega
      have E5:IntKind.i64.wrap ((k:Int)+1)=(k:Int)+1:=by rw[IntKind.wrap_i64];have:=HLE.out;omega
      obtain⟨ca,hca⟩:∃ a,x.args[k]? = some a:=⟨_,List.getElem?_eq_getElem hk2⟩;obtain⟨lb,hlb⟩:∃ a,x.hd.labels[k]? = some a:=⟨_,List.getElem?_eq_getElem (by have:=HLEN.out;omega)⟩;obtain⟨g1,o1,t1,e1,l1,i1,c1⟩:=(HX1.out.below HV.out).look.2.2.2.2 k ca hca;obtain⟨hlc,gl,ol,hla,hgl,hcl⟩:=rf ((HX1.out.below HV.out).look.2.1) rfl hlb;rw[e1] at a6;rw[hla,← HLEN.out] at a5;have q3:lb.length<=70000:=HN.out.2.2 lb (List.mem_of_getElem? hlb);have q4:(patTextD ca).length<=4000000:=HA.out ca (List.mem_of_getElem? hca);have HNX:=zb (zgg (f:=patTextD) hlb hca);have HC:Hid (∀ W,Below wr.heap.size wr W->Calls Tryz.prog 52 #[paOf ca t1] W (StrMade (patTextD ca) W)):=zb fun W h=>HREC.out ca (List.mem_of_getElem? hca) t1 W (i1.below h);have x0:=c1 0 _ rfl;have x1:=c1 1 _ rfl;have x2:=c1 2 _ rfl;have x3:=c1 3 _ rfl;have x4:=c1 4 _ rfl;have x5:=c1 5 _ rfl;have x6:=c1 6 _ rfl;rw[Nat.add_zero] at x0;clear c1 e1 i1 hca hlb hla hlc;unfold paOf at HC;generalize patTextD ca=tx at *;have p1:¬(9223372036854775807<lb.length+3):=by omega
      have p2:¬(9223372036854775807<lb.length+3+tx.length):=by omega
      have HCK:Hid (∀ W,Below wr.heap.size wr W->W.cell? ⟨bx,5,none⟩=some (.slice (some ⟨gl,ol,none⟩) x.args.length s.lc)/\W.cell? ⟨bx,6,none⟩=some (.slice (some ⟨g1,o1,none⟩) x.args.length s.ac)/\W.cell? ⟨gl,ol+k,none⟩=some (.string ⟨lb.toArray⟩)/\W.cell? ⟨g1,o1+k*7,none⟩=some (.int .i64 ca.hd.kind)/\W.cell? ⟨g1,o1+k*7+1,none⟩=some (.int .i64 ca.hd.pos)/\W.cell? ⟨g1,o1+k*7+2,none⟩=some (.string ⟨ca.hd.name.toArray⟩)/\W.cell? ⟨g1,o1+k*7+3,none⟩=some (.int .i64 ca.hd.n)/\W.cell? ⟨g1,o1+k*7+4,none⟩=some (.string ⟨ca.hd.s.toArray⟩)/\W.cell? ⟨g1,o1+k*7+5,none⟩=some (.slice t1.la ca.hd.labels.length t1.lc)/\W.cell? ⟨g1,o1+k*7+6,none⟩=some (.slice t1.aa ca.args.length t1.ac)):=zb (fun W h=>⟨(ze (w:=wr) (a:=⟨bx,_,none⟩) (h.block bx al)).trans a5,(ze (w:=wr) (a:=⟨bx,_,none⟩) (h.block bx al)).trans a6,(ze (w:=wr) (a:=⟨gl,_,none⟩) (h.block gl hgl)).trans hcl,(ze (w:=wr) (a:=⟨g1,_,none⟩) (h.block g1 l1)).trans x0,(ze (w:=wr) (a:=⟨g1,_,none⟩) (h.block g1 l1)).trans x1,(ze (w:=wr) (a:=⟨g1,_,none⟩) (h.block g1 l1)).trans x2,(ze (w:=wr) (a:=⟨g1,_,none⟩) (h.block g1 l1)).trans x3,(ze (w:=wr) (a:=⟨g1,_,none⟩) (h.block g1 l1)).trans x4,(ze (w:=wr) (a:=⟨g1,_,none⟩) (h.block g1 l1)).trans x5,(ze (w:=wr) (a:=⟨g1,_,none⟩) (h.block g1 l1)).trans x6⟩);by_cases h0:0<k
      all_goals
       first
        | (have t0:decide ((0:Int)<(k:Int))=true:=decide_eq_true (by omega);have t1':(0:Int)<(k:Int):=(by omega);have p3:¬(9223372036854775807<o.length+2+(lb.length+3+tx.length)):=(by omega);rw[if_pos h0] at HNX)
        | (have t0:decide ((0:Int)<(k:Int))=false:=decide_eq_false (by omega);have t1':¬(0:Int)<(k:Int):=(by omega);have p3:¬(9223372036854775807<o.length+(lb.length+3+tx.length)):=(by omega);rw[if_neg h0] at HNX)
       clear h0
       go_upto_region 23 with fail
       go_region_held3 (fun W=>W.cell? ⟨bx,5,none⟩=some (.slice (some ⟨gl,ol,none⟩) x.args.length s.lc)/\W.cell? ⟨bx,6,none⟩=some (.slice (some ⟨g1,o1,none⟩) x.args.length s.ac)/\W.cell? ⟨gl,ol+k,none⟩=some (.string ⟨lb.toArray⟩)/\W.cell? ⟨g1,o1+k*7,none⟩=some (.int .i64 ca.hd.kind)/\W.cell? ⟨g1,o1+k*7+1,none⟩=some (.int .i64 ca.hd.pos)/\W.cell? ⟨g1,o1+k*7+2,none⟩=some (.string ⟨ca.hd.name.toArray⟩)/\W.cell? ⟨g1,o1+k*7+3,none⟩=some (.int .i64 ca.hd.n)/\W.cell? ⟨g1,o1+k*7+4,none⟩=some (.string ⟨ca.hd.s.toArray⟩)/\W.cell? ⟨g1,o1+k*7+5,none⟩=some (.slice t1.la ca.hd.labels.length t1.lc)/\W.cell? ⟨g1,o1+k*7+6,none⟩=some (.slice t1.aa ca.args.length t1.ac)) (go_keep) ((go_at_call 52; refine(HC.out _ (Below.refl _ _).drew).mono ?_;rintro e w5 ⟨rfl,hb5⟩;have HB6:=zb ((Below.refl wr.heap.size wr).drew.trans hb5);clear hb5;obtain⟨z0,z1,z2,z3,z4,z5,z6,z7,z8,z9⟩:=HCK.out _ HB6.out))
       all_goals
        have HV7:=zb (HV.out.trans (HB6.out.mono HV.out.size));clear HCK
        try clear z0 z1 z2 z3 z4 z5 z6 z7 z8 z9
        go_wp2_with fail
        go_roundw
        case rel=>exact⟨k+1,[123]++fieldsD false (x.hd.labels.take (k+1)) ((x.args.take (k+1)).map patTextD),by omega,by have hO:=HO.out;subst hO;rw[HNX.out];congr 1;apply ByteArray.ext;simp,by go_num,HV7,zb rfl⟩
        case measure=>simp [intOf];omega
    . have h2:decide ((k:Int)<(x.args.length:Int))=false:=decide_eq_false (by omega);have h3:¬(k:Int)<(x.args.length:Int):=by omega
      have HEND:Hid (patTextD x=o++[125]):=zb (by rw[HR.out,HO.out,List.take_of_length_le (by have:=HLEN.out;omega),List.take_of_length_le (by omega)];simp);clear HO HFL HR
      go_wp2_with fail
      go_ret;refine⟨?_,HB0.out.trans (HV.out.mono HB0.out.size)⟩;rw[HEND.out];show Ending.returned (.string _)=Ending.returned (.string _)
      first
       | rfl
       | (congr 2;apply ByteArray.ext;simp)
 exfalso;have hf:=HF.out;simp only[Bool.and_eq_true] at hf;have hf:=hf.2.2.2.2.2;simp_all
theorem zfw:∀(m:Nat) (x:Nd) (s:Sl) (w:World),x.size<=m->x.wide->x.wt<=65536->x.fit->patMayD x=true->IsP w (fun _=>True) (paL x s) x->Calls Tryz.prog 52 #[paOf x s] w (StrMade (patTextD x) w)
 | 0,x,_,_,h,_,_,_,_,_=>absurd h (by cases x;show ¬(1+_+_<=0);omega)
 | m+1,x,s,w,h,hw,hwt,hfit,hmay,hx=>by
  have hm:=hmay;rw[zfS,Bool.and_eq_true,List.all_eq_true] at hm;have hch:∀ a∈x.args,a.wide/\a.wt<=65536:=fun a ha=>by
   cases x with
   | mk hd l aa =>
    have h2:=zeN ha;rw[Nd.wt] at hwt;have h3:wtN (Nd.mk hd l aa).args=wtN l:=rfl;exact⟨xG hw.2.1 a ha,by omega⟩
  have hN:x.hd.name.length<=70000/\x.hd.s.length<=70000/\∀ l∈x.hd.labels,l.length<=70000:=by
   cases x;exact⟨hfit.1.1,hfit.1.2.1,hfit.1.2.2.2.1⟩
  exact zfK x s w hw.hd hm.1 hx hN (by have:=(ze9 x hw).2;omega) (fun a ha=>by have:=(ze9 a (hch a ha).1).2;have:=(hch a ha).2;omega)
   fun a ha t W hi=>zfw m a t W (by have:=xO ha;omega) (hch a ha).1 (hch a ha).2 (zeC hfit ha) (hm.2 a ha) hi
