/-
  The walk of the document's Text.
-/
import Derived.Test.YtblonfjlcfjodaaGreatDoorJTt
import Derived.Test.YtblonfjlcfjodaaGreatDoorJTf
namespace Go.Proofs.YtblonfjlcfjodaaGreatDoor
set_option linter.unusedSimpArgs false
set_option linter.unusedVariables false
set_option maxRecDepth 100000
set_option maxHeartbeats 8000000
open Go.RowKit
theorem strg_info:∃ i:TypeInfo, Tryz.prog.info? 9 = some i/\i.zero=some (.string ⟨#[]⟩)/\i.size=1/\i.bytes=16:=by
 have h:=infoStr;cases hi : Tryz.prog.info? 9 with
 | none=>rw[hi] at h;cases h
 | some i =>
  rw[hi] at h;have h:=zc h;exact⟨i,rfl,congrArg (fun x=>x.1) h,congrArg (fun x=>x.2.1) h,congrArg (fun x=>x.2.2) h⟩
def StrRow (B:Nat) (w:World) (v:Value) (L:List (List UInt8)):Prop:=w.ownsRow B 9 1 v L.length (strCells L)
theorem StrRow.below {B:Nat} {w w':World} {v:Value} {L:List (List UInt8)} (h:StrRow B w v L) (hb:Below w.heap.size w w'):StrRow B w' v L:=zfW h fun g _ hl=>hb.block g hl
theorem StrRow.form {B:Nat} {w:World} {v:Value} {L:List (List UInt8)} (h:StrRow B w v L):∃ a c,v=.slice a L.length c:=by
 rcases h.2 with⟨h1,h2⟩ | ⟨g,cap,cur,h1,_⟩
 . exact⟨none,0,by rw[h1,h2]⟩
 . exact⟨_,cap,h1⟩
theorem zgu {L:List (List UInt8)} {i:Nat} {t:List UInt8} (h:L[i]? = some t):(strCells L)[i]? = some (.string ⟨t.toArray⟩):=by
 unfold strCells;rw[List.getElem?_map,h];rfl
theorem StrRow.at_ {B:Nat} {w:World} {v:Value} {L:List (List UInt8)} (h:StrRow B w v L):∃ A c,v=.slice A L.length c/\L.length<=c/\∀(W:World) (i:Nat) (t:List UInt8),L[i]? = some t->Below w.heap.size w W->∃ g,A=some ⟨g,0,none⟩/\g<W.heap.size/\W.cell? ⟨g,i,none⟩=some (.string ⟨t.toArray⟩):=by
 have h0:=h;rcases h.2 with⟨h1,h2⟩ | ⟨g,cap,cur,rfl,hb,hg,hc,hk,_⟩
 . refine⟨none,0,by rw[h1,h2],by omega,fun W i t ht _=>?_⟩;have:=(List.getElem?_eq_some_iff.1 ht).1;omega
 . refine⟨_,cap,rfl,by omega,fun W i t ht hbw=>⟨g,rfl,zd (zp hg) hbw.size,?_⟩⟩;have hi:=(List.getElem?_eq_some_iff.1 ht).1;exact(hbw.cell (p:=⟨g,i,none⟩) (zp hg)).trans ((World.ownsRow.cellAt h0 i (by omega)).trans (zgu ht))
theorem strs_push {B g:Nat} {w:World} {ops:Array Oper} {rest:List Oper} {o:Oper} {a:Act} {Q:Exit->Act->World->Prop} (hgd:o.guard=none) (s x:Operand)
 (ho:o.op=.call { callee:=.builtin .append,args:=#[s,x],argTypes:=#[23, 23] }) (v:Value) (L:List (List UInt8)) (t:List UInt8) (hs:a.eval s=v) (hx:a.eval x=.slice (some ⟨g,0,none⟩) 1 1) (h1:StrRow B w v L) (hg:w.heap[g]? = some (oneStr t))
 (hn:L.length+1<=100000) (hB:B<=w.heap.size) (h:∀ v' w',StrRow B w' v' (L++[t])->Below B w w'->wpList Tryz.prog ops Q rest (a.put o.dst v') w'):wpList Tryz.prog ops Q (o::rest) a w:=by
 obtain⟨i0,hi0,hz0,hz1,hz2⟩:=strg_info;have hcell:∀(j:Nat) (z:Value),[Value.string ⟨t.toArray⟩][j]? = some z->w.cell? ((⟨g,0,none⟩:Addr).add j)=some z:=fun j z hz=>by
  rw[Addr.add_lit,Nat.zero_add,zf hg]
  simpa using hz
 refine wpList_append_own_at w hgd s x 23 ho B 9 i0 _ 1 16 Tryz.underlying23 hi0 hz0 hz1 hz2 rfl (by decide) v _ _ hs h1 ⟨g,0,none⟩ 1 1 [.string ⟨t.toArray⟩] hx rfl hcell (zgH t) (by unfold maxLen;omega) (by omega) hB ?_;intro v' w' h5 h6 _ _;refine h v' w' ?_ ⟨h6.os,h6.tape,h6.output,h6.size,fun i hi=>h6.block i (by omega) (fun e=>by have:=(World.ownsRow.lt h1 i e.symm).1;omega)⟩;unfold StrRow;rw[uf,List.length_append];exact h5
theorem sb {l m:List UInt8} {b:ByteArray} {w W:World} (h:l=m) (hb:Below w.heap.size w W) (e:b.data.toList=m:=by simp):StrMade l w (.returned (.string b)) W:=by
 refine⟨?_,hb⟩;rw[h,← e]
theorem zgG {n:Int} (h:0<manyD n):1<=n/\n<=21:=by
 unfold manyD at h
 repeat' split at h
 all_goals omega
theorem formD_len {x:Nd} (hf:formD x=true):(x.hd.kind=1∨x.hd.kind=2∨x.hd.kind=3∨x.hd.kind=4∨x.hd.kind=5∨x.hd.kind=6) ∨
 ((x.hd.kind=7∨x.hd.kind=14∨x.hd.kind=15∨x.hd.kind=18∨x.hd.kind=16∨x.hd.kind=17)/\x.args.length=1) ∨
 ((x.hd.kind=8∨x.hd.kind=9∨x.hd.kind=10∨x.hd.kind=13∨x.hd.kind=20∨x.hd.kind=21∨x.hd.kind=22)/\x.args.length=2) ∨
 (x.hd.kind=11/\x.args.length=3)∨(x.hd.kind=12/\x.args.length=x.hd.labels.length)∨(x.hd.kind=19/\0<manyD x.hd.n/\(x.args.length:Int)=manyD x.hd.n):=by
 rw[zfU] at hf;by_cases h0:x.hd.kind=1
 . rw[if_pos h0] at hf;simp only[un,Bool.and_eq_true,decide_eq_true_eq] at hf;omega
 rw[if_neg h0] at hf;by_cases h1:x.hd.kind=6
 . rw[if_pos h1] at hf;simp only[un,Bool.and_eq_true,decide_eq_true_eq] at hf;omega
 rw[if_neg h1] at hf;by_cases h2:x.hd.kind=2
 . rw[if_pos h2] at hf;simp only[un,Bool.and_eq_true,decide_eq_true_eq] at hf;omega
 rw[if_neg h2] at hf;by_cases h3:x.hd.kind=4
 . rw[if_pos h3] at hf;simp only[un,Bool.and_eq_true,decide_eq_true_eq] at hf;omega
 rw[if_neg h3] at hf;by_cases h4:x.hd.kind=3
 . rw[if_pos h4] at hf;simp only[un,Bool.and_eq_true,decide_eq_true_eq] at hf;omega
 rw[if_neg h4] at hf;by_cases h5:x.hd.kind=5
 . rw[if_pos h5] at hf;simp only[un,Bool.and_eq_true,decide_eq_true_eq] at hf;omega
 rw[if_neg h5] at hf;by_cases h6:x.hd.kind=7∨x.hd.kind=14
 . rw[if_pos h6] at hf;simp only[un,Bool.and_eq_true,decide_eq_true_eq] at hf;omega
 rw[if_neg h6] at hf;by_cases h7:x.hd.kind=15
 . rw[if_pos h7] at hf;simp only[un,Bool.and_eq_true,decide_eq_true_eq] at hf;omega
 rw[if_neg h7] at hf;by_cases h8:x.hd.kind=18
 . rw[if_pos h8] at hf;simp only[un,Bool.and_eq_true,decide_eq_true_eq] at hf;omega
 rw[if_neg h8] at hf;by_cases h9:x.hd.kind=8∨x.hd.kind=20∨x.hd.kind=21∨x.hd.kind=22
 . rw[if_pos h9] at hf;simp only[un,Bool.and_eq_true,decide_eq_true_eq] at hf;omega
 rw[if_neg h9] at hf;by_cases h10:x.hd.kind=9∨x.hd.kind=13
 . rw[if_pos h10] at hf;simp only[un,Bool.and_eq_true,decide_eq_true_eq] at hf;omega
 rw[if_neg h10] at hf;by_cases h11:x.hd.kind=10
 . rw[if_pos h11] at hf;simp only[un,Bool.and_eq_true,decide_eq_true_eq] at hf;omega
 rw[if_neg h11] at hf;by_cases h12:x.hd.kind=11
 . rw[if_pos h12] at hf;simp only[un,Bool.and_eq_true,decide_eq_true_eq] at hf;omega
 rw[if_neg h12] at hf;by_cases h13:x.hd.kind=12
 . rw[if_pos h13] at hf;simp only[un,Bool.and_eq_true,decide_eq_true_eq] at hf;omega
 rw[if_neg h13] at hf;by_cases h14:x.hd.kind=16∨x.hd.kind=17
 . rw[if_pos h14] at hf;simp only[un,Bool.and_eq_true,decide_eq_true_eq] at hf;omega
 rw[if_neg h14] at hf;by_cases h15:x.hd.kind=19
 . rw[if_pos h15] at hf;simp only[un,Bool.and_eq_true,decide_eq_true_eq] at hf;omega
 rw[if_neg h15] at hf;cases hf
theorem zfZ {ls ts:List (List UInt8)} {k:Nat} {l t:List UInt8} (hl:ls[k]? = some l) (ha:ts[k]? = some t) :
 fieldsD false (ls.take (k+1)) (ts.take (k+1))=fieldsD false (ls.take k) (ts.take k)++((if 0<k then [44,32] else [])++(l++([32,61,32]++t))):=by
 have h1:=(List.getElem?_eq_some_iff.1 hl).1;have h2:=(List.getElem?_eq_some_iff.1 ha).1;rw[ze8 hl,ze8 ha,zfj _ _ _ _ _ (by rw[List.length_take,List.length_take];omega)];rw[List.length_take,show min k ls.length=k by omega];by_cases h:0<k
 . simp [h]
 . simp [h]
theorem zfM:∀(ts:List (List UInt8)) (t:List UInt8) (more:Bool),armsD more (ts++[t])=armsD more ts++((if more||decide (0<ts.length) then [32,124,32] else [])++t)
 | [],t,more=>by cases more <;> simp [armsD]
 | a::ts,t,more=>by
  have ih:=zfM ts t true;rw[List.cons_append,armsD,armsD,ih];simp [List.append_assoc]
theorem zfH (l:List (Nd×Nd)) (k:Nat):textDa (l.take k)=(textDa l).take k:=by rw[ze5,ze5,List.map_take]
theorem zgS {l:List (Nd×Nd)} {k:Nat} {q:Nd×Nd} (h:l[k]? = some q) :
 armsD false (textDa (l.take (k+1)))=armsD false (textDa (l.take k))++((if 0<k then [32,124,32] else [])++(patTextD q.1++([32,45,62,32]++textD q.2))):=by
 have h1:=(List.getElem?_eq_some_iff.1 h).1;rw[ze8 h,ze5,List.map_append,← ze5,List.map_cons,List.map_nil,zfM,zfH,List.length_take,show(textDa l).length=l.length by rw[ze5,List.length_map],show min k l.length=k by omega];by_cases h0:0<k
 . simp [h0]
 . simp [h0]
theorem zgD (ts:List (List UInt8)) (k:Nat) (more:Bool):(armsD more (ts.take k)).length<=(armsD more ts).length:=by
 induction ts generalizing k more with
 | nil=>rw[List.take_nil];exact Nat.le_refl _
 | cons t ts ih =>
  cases k with
  | zero=>rw[List.take_zero];unfold armsD;exact Nat.zero_le _
  | succ k =>
   have h:=ih k true;rw[List.take_succ_cons,armsD,armsD];simp only[List.length_append];omega
theorem zgF {l:List (List UInt8)} {k:Nat} {t:List UInt8} (h:l[k]? = some t):((l.take (k+1)).flatMap fun t=>[32]++t)=((l.take k).flatMap fun t=>[32]++t)++([32]++t):=by
 rw[ze8 h,List.flatMap_append,List.flatMap_cons,List.flatMap_nil,List.append_nil]
theorem zgN (l:List (List UInt8)) (k:Nat):((l.take k).flatMap fun t=>[32]++t).length<=(l.flatMap fun t=>[32]++t).length:=by
 have h:=List.take_append_drop k l;have e:(l.flatMap fun t=>[32]++t)=((l.take k).flatMap fun t=>[32]++t)++((l.drop k).flatMap fun t=>[32]++t):=by rw[← List.flatMap_append,h]
 rw[e,List.length_append];omega
theorem zgh (x:Nd) (s:Sl) (w:World) (hw:x.hd.wide) (hf:formD x=true) (hx:IsE w (fun _=>True) (exL x s) x) (hN:x.hd.name.length<=70000/\x.hd.s.length<=70000/\x.args.length<=70000/\∀ l∈x.hd.labels,l.length<=70000) (hT:(textD x).length<=4000000)
 (hA:∀ a∈x.args,(textD a).length<=4000000) (hM:∀ q∈x.arms,(patTextD q.1).length<=4000000/\(textD q.2).length<=4000000)
 (hrec:∀ a∈x.args,∀(t:Sl) (W:World),IsE W (fun _=>True) (exL a t) a->Calls Tryz.prog 47 #[exOf a t] W (StrMade (textD a) W))
 (hpat:∀ q∈x.arms,∀(t:Sl) (W:World),IsP W (fun _=>True) (paL q.1 t) q.1->Calls Tryz.prog 52 #[paOf q.1 t] W (StrMade (patTextD q.1) W))
 (hbod:∀ q∈x.arms,∀(t:Sl) (W:World),IsE W (fun _=>True) (exL q.2 t) q.2->Calls Tryz.prog 47 #[exOf q.2 t] W (StrMade (textD q.2) W))
 : Calls Tryz.prog 47 #[exOf x s] w (StrMade (textD x) w):=by
 have HX:=zb hx;have HREC:=zb hrec;have HPAT:=zb hpat;have HBOD:=zb hbod;have HA:=zb hA;have HM:=zb hM;have HN:=zb hN;have HT:=zb hT;have HW:=zb hw;have HE:=zb (textD_hd x);have HF:=zb (formD_len hf);clear hx hrec hN hT hA hw hf hpat hbod hM;unfold exOf exV
 go_enter Tryz.func47, Tryz.ntmps47
 go_upto_region 1 with fail
 obtain⟨W0,hW0⟩:∃ W,w.alloc (.cells #[.int .i64 x.hd.kind,.int .i64 x.hd.pos,.string ⟨x.hd.name.toArray⟩,.int .i64 x.hd.n,.string ⟨x.hd.s.toArray⟩,.slice s.la x.hd.labels.length s.lc,.slice s.aa x.args.length s.ac,.slice s.ra x.arms.length s.rc] 27 (0,0))=W:=⟨_,rfl⟩;have HB0:Hid (Below w.heap.size w W0):=zb (by rw[← hW0];exact zj _);have HPX:Hid (ExBox W0 w.heap.size x s):=zb (by rw[← hW0];exact zA w _ _ rfl);rw[hW0];clear hW0;generalize hbx:w.heap.size=bx at HPX ⊢;clear hbx;have HX0:=zb (HX.out.below HB0.out);clear HX
 go_upto_region 2 with fail
 obtain⟨W1,hW1⟩:∃ W,W0.alloc (.cells #[] 9 (0,0))=W:=⟨_,rfl⟩;have hb1:Below W0.heap.size W0 W1:=by rw[← hW1];exact zj _
 have HR0:Hid (StrRow W0.heap.size W1 (.slice (some ⟨W0.heap.size,0,none⟩) 0 0) []):=zb (by rw[← hW1];exact World.ownsRow_made (base:=W0.heap.size) (e := 9) (size:=1) W0 #[] 0 (Nat.le_refl _) (Nat.zero_le _) rfl);rw[hW1];clear hW1;have HZ:=zb hb1;clear hb1;have HLE:Hid (x.args.length<=70000):=zb HN.out.2.2.1
 go_upto_region 3 with fail
 go_loopw [3,4] (fun vl vi wr=>∃ k:Nat,k<=x.args.length/\vi=.int .i64 k/\(∃ a c,vl=.slice a k c)/\Hid (Below W0.heap.size W0 wr)/\Hid (StrRow W0.heap.size wr vl ((x.args.map textD).take k))) (fun _ vi _=>x.args.length-(intOf vi).toNat)
 case atStart=>exact⟨0,Nat.zero_le _,by go_num,⟨_,_,rfl⟩,HZ,HR0⟩
 case round =>
  clear HZ HR0;obtain⟨k,hk1,rfl,⟨va,vc,rfl⟩,HV,HRW⟩:=hrel;obtain⟨a0,a1,a2,a3,a4,a5,a6,a7,af⟩:=Box8.cells (Box8.below HPX.out HV.out);have al:=Box8.lt (Box8.below HPX.out HV.out);clear af;by_cases hk2:k<x.args.length
  . have h2:decide ((k:Int)<(x.args.length:Int))=true:=decide_eq_true (by omega);have h3:(k:Int)<(x.args.length:Int):=by omega
    have h4:(0:Int)<=(k:Int):=by omega
    have E5:IntKind.i64.wrap ((k:Int)+1)=(k:Int)+1:=by rw[IntKind.wrap_i64];have:=HLE.out;omega
    obtain⟨ca,hca⟩:∃ a,x.args[k]? = some a:=⟨_,List.getElem?_eq_getElem hk2⟩;obtain⟨g1,o1,t1,e1,l1,i1,c1⟩:=(HX0.out.below HV.out).look.2.2.2.2.1 k ca hca;rw[e1] at a6;have x0:=c1 0 _ rfl;have x1:=c1 1 _ rfl;have x2:=c1 2 _ rfl;have x3:=c1 3 _ rfl;have x4:=c1 4 _ rfl;have x5:=c1 5 _ rfl;have x6:=c1 6 _ rfl;have x7:=c1 7 _ rfl;rw[Nat.add_zero] at x0;have HC:=zb (HREC.out ca (List.mem_of_getElem? hca) t1 wr i1);have HNX:Hid ((x.args.map textD).take (k+1)=(x.args.map textD).take k++[textD ca]):=zb (ze8 (by rw[List.getElem?_map,hca];rfl));have HLN:Hid (((x.args.map textD).take k).length=k):=zb (by rw[List.length_take,List.length_map];omega);clear c1 e1 i1 hca;generalize textD ca=tx at *;unfold exOf exV at HC
    go_wp2_with fail
    refine HC.out.mono ?_;rintro e w6 ⟨rfl,hb6⟩;clear HC x0 x1 x2 x3 x4 x5 x6 x7 l1 a0 a1 a2 a3 a4 a5 a6 a7 al;have HV6:=zb (HV.out.trans (hb6.mono HV.out.size));replace HRW:=zb (HRW.out.below hb6);clear hb6 HV;have hbx:=zj (w:=w6) (oneStr tx);have HV7:=zb (HV6.out.trans (hbx.mono HV6.out.size));have HRW7:=zb (HRW.out.below hbx);have HG:Hid ((w6.alloc (oneStr tx)).heap[w6.heap.size]? = some (oneStr tx)):=zb (zA w6 _ _ rfl);clear hbx
    go_wp2_with (at_builtin;refine strs_push rfl (.tmp 19) (.tmp 26) rfl _ _ tx rfl rfl HRW7.out HG.out (by rw[HLN.out];have:=HLE.out;omega) HV7.out.size ?_)
    intro v7 w7 hr7 hb7;rw[← HNX.out] at hr7;obtain⟨a8,c8,rfl⟩:=hr7.form;have HL2:Hid (((x.args.map textD).take (k+1)).length=k+1):=zb (by rw[List.length_take,List.length_map];omega);rw[HL2.out] at hr7 ⊢;have HR7:=zb hr7;have HV8:=zb (HV7.out.trans hb7);clear hr7 hb7 HRW7 HRW HG HV7 HV6
    go_wp2_with fail
    go_roundw
    case rel=>exact⟨k+1,by omega,by go_num,⟨_,_,rfl⟩,HV8,HR7⟩
    case measure=>simp [intOf];omega
  . have h2:decide ((k:Int)<(x.args.length:Int))=false:=decide_eq_false (by omega);have h3:¬(k:Int)<(x.args.length:Int):=by omega
    obtain rfl:k=x.args.length:=by omega
    rw[List.take_of_length_le (by rw[List.length_map];exact Nat.le_refl _)] at HRW
    go_upto_region 6 with fail
    clear h2 h3 hk1 hk2;have HX1:=zb (HX0.out.below HV.out);have HB1:=zb (HB0.out.trans (HV.out.mono HB0.out.size));clear HX0 HB0 HREC;generalize hT:x.args.map textD=TS at *;have HTS:Hid (∀ t∈TS,t.length<=4000000):=zb (fun t ht=>by
     rw[← hT] at ht;obtain⟨a,ha,rfl⟩:=List.mem_map.1 ht;exact HA.out a ha)
    have HLT:Hid (TS.length=x.args.length):=zb (by rw[← hT,List.length_map]);clear hT HA;obtain⟨vA,vC,hvs,hvc,hat⟩:=HRW.out.at_;rw[HLT.out] at hvs hvc;obtain⟨rfl,h9,rfl⟩:=Value.slice.inj hvs;clear h9;have HAT:=zb hat;have HVC:=zb hvc;clear hat hvs hvc HRW;by_cases hk:x.hd.kind=1
    . have HR:Hid (textD x=x.hd.name):=zb (by rw[HE.out];unfold textV;rw[hk];rfl);rw[hk] at a0;clear hk HE HF
      go_wp2_with fail
      go_ret;exact⟨by rw[HR.out];rfl,HB1.out⟩
    by_cases hk:x.hd.kind=6
    . have HR:Hid (textD x=x.hd.name):=zb (by rw[HE.out];unfold textV;rw[hk];rfl);rw[hk] at a0;clear hk HE HF
      go_wp2_with fail
      go_ret;exact⟨by rw[HR.out];rfl,HB1.out⟩
    by_cases hk:x.hd.kind=5
    . have HR:Hid (textD x=[40,41]):=zb (by rw[HE.out];unfold textV;rw[hk];rfl);rw[hk] at a0;clear hk HE HF
      go_wp2_with fail
      go_ret;exact⟨by rw[HR.out];rfl,HB1.out⟩
    by_cases hk:x.hd.kind=2
    . have HR:Hid (textD x=Lib.itoa x.hd.n):=zb (by rw[HE.out];unfold textV;rw[hk];rfl);have HC:Hid (∀ W,Calls Tryz.prog 86 #[.int .i64 x.hd.n] W (StrMade (Lib.itoa x.hd.n) W)):=zb fun W=>zgo (Size x.hd.n+1) x.hd.n W (Nat.lt_succ_self _) HW.out.n.1 HW.out.n.2;rw[hk] at a0;clear hk HE HF
      go_wp2_with (go_at_call 86; refine(HC.out _).mono ?_;rintro e w3 ⟨rfl,hb3⟩;have HB3:=zb (HB1.out.trans (hb3.mono HB1.out.size));clear hb3)
      go_ret;exact⟨by rw[HR.out];rfl,HB3.out⟩
    by_cases hk:x.hd.kind=3
    . have HR:Hid (textD x=qall x.hd.s):=zb (by rw[HE.out];unfold textV;rw[hk];rfl);have HC:Hid (∀ W,Calls Tryz.prog 87 #[.string ⟨x.hd.s.toArray⟩] W (StrMade (qall x.hd.s) W)):=zb fun W=>zf2 x.hd.s W (by have:=HN.out.2.1;omega);rw[hk] at a0;clear hk HE HF
      go_wp2_with (go_at_call 87; refine(HC.out _).mono ?_;rintro e w3 ⟨rfl,hb3⟩;have HB3:=zb (HB1.out.trans (hb3.mono HB1.out.size));clear hb3)
      go_ret;exact⟨by rw[HR.out];rfl,HB3.out⟩
    by_cases hk:x.hd.kind=4
    . have HR:Hid (textD x=truthD x.hd.n):=zb (by rw[HE.out];unfold textV;rw[hk];rfl);have HC:Hid (∀ W,Calls Tryz.prog 88 #[.int .i64 x.hd.n] W (StrIs (truthD x.hd.n) W)):=zb fun W=>zg4 x.hd.n W;rw[hk] at a0;clear hk HE HF;generalize truthD x.hd.n=tx at *
      go_wp2_with (go_at_call 88; refine(HC.out _).mono ?_;rintro e w3 ⟨rfl,rfl⟩;have HB3:=HB1)
      go_ret;exact⟨by rw[HR.out];rfl,HB3.out⟩
    by_cases hk:x.hd.kind=7
    . have hlen:x.args.length=1:=by have:=HF.out;omega
      obtain⟨t0,rfl⟩:∃ t0,TS=[t0]:=by
       match TS,HLT.out.trans hlen with
       | [t0],_=>exact⟨t0,rfl⟩
      have HR:Hid (textD x=[40,102,117,110,32]++(x.hd.name++([32,45,62,32]++(t0++([41]))))):=zb (by rw[HE.out];unfold textV;rw[hk];rfl);have q0:t0.length<=4000000:=HTS.out t0 (by simp);have qn:x.hd.name.length<=70000:=HN.out.1;obtain⟨gl,rfl,gl1,y0⟩:=HAT.out wr 0 _ rfl (Below.refl _ _);rw[hlen];rw[hk] at a0;clear hk HE HF HT HW HTS HLT HAT hlen HX1 HPAT HBOD HM HN HPX;have p2:¬(9223372036854775807<5+x.hd.name.length):=by omega
      have p3:¬(9223372036854775807<5+x.hd.name.length+4):=by omega
      have p4:¬(9223372036854775807<5+x.hd.name.length+4+t0.length):=by omega
      have p5:¬(9223372036854775807<5+x.hd.name.length+4+t0.length+1):=by omega
      go_upto_region 19 with fail
      clear a0
      go_quiet (fail)
      go_wp2_with fail
      go_ret;exact sb HR.out (by first | exact HB1.out | exact tz HB1.out _)
    by_cases hk:x.hd.kind=8
    . have hlen:x.args.length=2:=by have:=HF.out;omega
      obtain⟨t0,t1,rfl⟩:∃ t0 t1,TS=[t0,t1]:=by
       match TS,HLT.out.trans hlen with
       | [t0,t1],_=>exact⟨t0,t1,rfl⟩
      have HR:Hid (textD x=[40]++(t0++([32]++(t1++([41]))))):=zb (by rw[HE.out];unfold textV;rw[hk];rfl);have q0:t0.length<=4000000:=HTS.out t0 (by simp);have q1:t1.length<=4000000:=HTS.out t1 (by simp);have qn:x.hd.name.length<=70000:=HN.out.1;obtain⟨gl,rfl,gl1,y0⟩:=HAT.out wr 0 _ rfl (Below.refl _ _);have y1:wr.cell? ⟨gl,1,none⟩=some (.string ⟨t1.toArray⟩):=by
       obtain⟨g',hg',_,h⟩:=HAT.out wr 1 _ rfl (Below.refl _ _);obtain rfl:=congrArg Addr.block (zc hg');exact h
      rw[hlen];rw[hk] at a0;clear hk HE HF HT HW HTS HLT HAT hlen HX1 HPAT HBOD HM HN HPX;have p2:¬(9223372036854775807<1+t0.length):=by omega
      have p3:¬(9223372036854775807<1+t0.length+1):=by omega
      have p4:¬(9223372036854775807<1+t0.length+1+t1.length):=by omega
      have p5:¬(9223372036854775807<1+t0.length+1+t1.length+1):=by omega
      go_upto_region 21 with fail
      clear a0
      go_quiet (fail)
      go_wp2_with fail
      go_ret;exact sb HR.out (by first | exact HB1.out | exact tz HB1.out _)
    by_cases hk:x.hd.kind=9
    . have hlen:x.args.length=2:=by have:=HF.out;omega
      obtain⟨t0,t1,rfl⟩:∃ t0 t1,TS=[t0,t1]:=by
       match TS,HLT.out.trans hlen with
       | [t0,t1],_=>exact⟨t0,t1,rfl⟩
      have HR:Hid (textD x=[40,108,101,116,32]++(x.hd.name++([32,61,32]++(t0++([32,105,110,32]++(t1++([41]))))))):=zb (by rw[HE.out];unfold textV;rw[hk];rfl);have q0:t0.length<=4000000:=HTS.out t0 (by simp);have q1:t1.length<=4000000:=HTS.out t1 (by simp);have qn:x.hd.name.length<=70000:=HN.out.1;obtain⟨gl,rfl,gl1,y0⟩:=HAT.out wr 0 _ rfl (Below.refl _ _);have y1:wr.cell? ⟨gl,1,none⟩=some (.string ⟨t1.toArray⟩):=by
       obtain⟨g',hg',_,h⟩:=HAT.out wr 1 _ rfl (Below.refl _ _);obtain rfl:=congrArg Addr.block (zc hg');exact h
      rw[hlen];rw[hk] at a0;clear hk HE HF HT HW HTS HLT HAT hlen HX1 HPAT HBOD HM HN HPX;have p2:¬(9223372036854775807<5+x.hd.name.length):=by omega
      have p3:¬(9223372036854775807<5+x.hd.name.length+3):=by omega
      have p4:¬(9223372036854775807<5+x.hd.name.length+3+t0.length):=by omega
      have p5:¬(9223372036854775807<5+x.hd.name.length+3+t0.length+4):=by omega
      have p6:¬(9223372036854775807<5+x.hd.name.length+3+t0.length+4+t1.length):=by omega
      have p7:¬(9223372036854775807<5+x.hd.name.length+3+t0.length+4+t1.length+1):=by omega
      go_upto_region 23 with fail
      clear a0
      go_quiet (fail)
      go_wp2_with fail
      go_ret;exact sb HR.out (by first | exact HB1.out | exact tz HB1.out _)
    by_cases hk:x.hd.kind=10
    . have hlen:x.args.length=2:=by have:=HF.out;omega
      obtain⟨t0,t1,rfl⟩:∃ t0 t1,TS=[t0,t1]:=by
       match TS,HLT.out.trans hlen with
       | [t0,t1],_=>exact⟨t0,t1,rfl⟩
      have HR:Hid (textD x=[40,108,101,116,32,114,101,99,32]++(x.hd.name++([32,61,32]++(insideD t0++([32,105,110,32]++(t1++([41]))))))):=zb (by rw[HE.out];unfold textV;rw[hk];rfl);have q0:t0.length<=4000000:=HTS.out t0 (by simp);have q1:t1.length<=4000000:=HTS.out t1 (by simp);have qn:x.hd.name.length<=70000:=HN.out.1;obtain⟨gl,rfl,gl1,y0⟩:=HAT.out wr 0 _ rfl (Below.refl _ _);have y1:wr.cell? ⟨gl,1,none⟩=some (.string ⟨t1.toArray⟩):=by
       obtain⟨g',hg',_,h⟩:=HAT.out wr 1 _ rfl (Below.refl _ _);obtain rfl:=congrArg Addr.block (zc hg');exact h
      rw[hlen];rw[hk] at a0;clear hk HE HF HT HW HTS HLT HAT hlen HX1 HPAT HBOD HM HN HPX;have q9:(insideD t0).length<=4000000:=Nat.le_trans (zfD t0) q0;have HC:Hid (∀(W:World) (_:True),Calls Tryz.prog 89 #[.string ⟨t0.toArray⟩] W (StrMade (insideD t0) W)):=zb fun W _=>(t_inside t0 W (by omega)).mono fun e w' h=>⟨h.1,h.2▸Below.refl _ _⟩;generalize insideD t0=ti at *;have HCK:Hid (∀ W,Below wr.heap.size wr W->W.cell? ⟨bx,2,none⟩=some (.string ⟨x.hd.name.toArray⟩)/\W.cell? ⟨gl,0,none⟩=some (.string ⟨t0.toArray⟩)/\W.cell? ⟨gl,1,none⟩=some (.string ⟨t1.toArray⟩)):=zb (fun W h=>⟨(ze (w:=wr) (a:=⟨bx,_,none⟩) (h.block bx al)).trans a2,(ze (w:=wr) (a:=⟨gl,_,none⟩) (h.block gl gl1)).trans y0,(ze (w:=wr) (a:=⟨gl,_,none⟩) (h.block gl gl1)).trans y1⟩);have p2:¬(9223372036854775807<9+x.hd.name.length):=by omega
      have p3:¬(9223372036854775807<9+x.hd.name.length+3):=by omega
      have p4:¬(9223372036854775807<9+x.hd.name.length+3+ti.length):=by omega
      have p5:¬(9223372036854775807<9+x.hd.name.length+3+ti.length+4):=by omega
      have p6:¬(9223372036854775807<9+x.hd.name.length+3+ti.length+4+t1.length):=by omega
      have p7:¬(9223372036854775807<9+x.hd.name.length+3+ti.length+4+t1.length+1):=by omega
      go_upto_region 25 with fail
      clear a0
      go_region_held3 (fun W=>W.cell? ⟨bx,2,none⟩=some (.string ⟨x.hd.name.toArray⟩)/\W.cell? ⟨gl,0,none⟩=some (.string ⟨t0.toArray⟩)/\W.cell? ⟨gl,1,none⟩=some (.string ⟨t1.toArray⟩)) (go_keep) ((go_at_call 89; refine(HC.out _ trivial).mono ?_;rintro e w5 ⟨rfl,hb5⟩;have HB6:=zb ((Below.refl wr.heap.size wr).drew.trans hb5);clear hb5;obtain⟨z0,z1,z2⟩:=HCK.out _ HB6.out))
      all_goals try have HB1:=zb (HB1.out.trans (HB6.out.mono HB1.out.size))
      all_goals try clear z0 z1 z2
      go_wp2_with fail
      go_ret;exact sb HR.out (by first | exact HB1.out | exact tz HB1.out _)
    by_cases hk:x.hd.kind=11
    . have hlen:x.args.length=3:=by have:=HF.out;omega
      obtain⟨t0,t1,t2,rfl⟩:∃ t0 t1 t2,TS=[t0,t1,t2]:=by
       match TS,HLT.out.trans hlen with
       | [t0,t1,t2],_=>exact⟨t0,t1,t2,rfl⟩
      have HR:Hid (textD x=[40,105,102,32]++(t0++([32,116,104,101,110,32]++(t1++([32,101,108,115,101,32]++(t2++([41]))))))):=zb (by rw[HE.out];unfold textV;rw[hk];rfl);have q0:t0.length<=4000000:=HTS.out t0 (by simp);have q1:t1.length<=4000000:=HTS.out t1 (by simp);have q2:t2.length<=4000000:=HTS.out t2 (by simp);have qn:x.hd.name.length<=70000:=HN.out.1;obtain⟨gl,rfl,gl1,y0⟩:=HAT.out wr 0 _ rfl (Below.refl _ _);have y1:wr.cell? ⟨gl,1,none⟩=some (.string ⟨t1.toArray⟩):=by
       obtain⟨g',hg',_,h⟩:=HAT.out wr 1 _ rfl (Below.refl _ _);obtain rfl:=congrArg Addr.block (zc hg');exact h
      have y2:wr.cell? ⟨gl,2,none⟩=some (.string ⟨t2.toArray⟩):=by
       obtain⟨g',hg',_,h⟩:=HAT.out wr 2 _ rfl (Below.refl _ _);obtain rfl:=congrArg Addr.block (zc hg');exact h
      rw[hlen];rw[hk] at a0;clear hk HE HF HT HW HTS HLT HAT hlen HX1 HPAT HBOD HM HN HPX;have p2:¬(9223372036854775807<4+t0.length):=by omega
      have p3:¬(9223372036854775807<4+t0.length+6):=by omega
      have p4:¬(9223372036854775807<4+t0.length+6+t1.length):=by omega
      have p5:¬(9223372036854775807<4+t0.length+6+t1.length+6):=by omega
      have p6:¬(9223372036854775807<4+t0.length+6+t1.length+6+t2.length):=by omega
      have p7:¬(9223372036854775807<4+t0.length+6+t1.length+6+t2.length+1):=by omega
      go_upto_region 27 with fail
      clear a0
      go_quiet (fail)
      go_wp2_with fail
      go_ret;exact sb HR.out (by first | exact HB1.out | exact tz HB1.out _)
    by_cases hk:x.hd.kind=13
    . have hlen:x.args.length=2:=by have:=HF.out;omega
      obtain⟨t0,t1,rfl⟩:∃ t0 t1,TS=[t0,t1]:=by
       match TS,HLT.out.trans hlen with
       | [t0,t1],_=>exact⟨t0,t1,rfl⟩
      have HR:Hid (textD x=[123]++(t0++([32,119,105,116,104,32]++(x.hd.name++([32,61,32]++(t1++([125]))))))):=zb (by rw[HE.out];unfold textV;rw[hk];rfl);have q0:t0.length<=4000000:=HTS.out t0 (by simp);have q1:t1.length<=4000000:=HTS.out t1 (by simp);have qn:x.hd.name.length<=70000:=HN.out.1;obtain⟨gl,rfl,gl1,y0⟩:=HAT.out wr 0 _ rfl (Below.refl _ _);have y1:wr.cell? ⟨gl,1,none⟩=some (.string ⟨t1.toArray⟩):=by
       obtain⟨g',hg',_,h⟩:=HAT.out wr 1 _ rfl (Below.refl _ _);obtain rfl:=congrArg Addr.block (zc hg');exact h
      rw[hlen];rw[hk] at a0;clear hk HE HF HT HW HTS HLT HAT hlen HX1 HPAT HBOD HM HN HPX;have p2:¬(9223372036854775807<1+t0.length):=by omega
      have p3:¬(9223372036854775807<1+t0.length+6):=by omega
      have p4:¬(9223372036854775807<1+t0.length+6+x.hd.name.length):=by omega
      have p5:¬(9223372036854775807<1+t0.length+6+x.hd.name.length+3):=by omega
      have p6:¬(9223372036854775807<1+t0.length+6+x.hd.name.length+3+t1.length):=by omega
      have p7:¬(9223372036854775807<1+t0.length+6+x.hd.name.length+3+t1.length+1):=by omega
      go_upto_region 38 with fail
      clear a0
      go_quiet (fail)
      go_wp2_with fail
      go_ret;exact sb HR.out (by first | exact HB1.out | exact tz HB1.out _)
    by_cases hk:x.hd.kind=14
    . have hlen:x.args.length=1:=by have:=HF.out;omega
      obtain⟨t0,rfl⟩:∃ t0,TS=[t0]:=by
       match TS,HLT.out.trans hlen with
       | [t0],_=>exact⟨t0,rfl⟩
      have HR:Hid (textD x=t0++([46]++(x.hd.name))):=zb (by rw[HE.out];unfold textV;rw[hk];rfl);have q0:t0.length<=4000000:=HTS.out t0 (by simp);have qn:x.hd.name.length<=70000:=HN.out.1;obtain⟨gl,rfl,gl1,y0⟩:=HAT.out wr 0 _ rfl (Below.refl _ _);rw[hlen];rw[hk] at a0;clear hk HE HF HT HW HTS HLT HAT hlen HX1 HPAT HBOD HM HN HPX;have p2:¬(9223372036854775807<t0.length+1):=by omega
      have p3:¬(9223372036854775807<t0.length+1+x.hd.name.length):=by omega
      go_upto_region 40 with fail
      clear a0
      go_quiet (fail)
      go_wp2_with fail
      go_ret;exact sb HR.out (by first | exact HB1.out | exact tz HB1.out _)
    by_cases hk:x.hd.kind=15
    . have hlen:x.args.length=1:=by have:=HF.out;omega
      obtain⟨t0,rfl⟩:∃ t0,TS=[t0]:=by
       match TS,HLT.out.trans hlen with
       | [t0],_=>exact⟨t0,rfl⟩
      have HR:Hid (textD x=[40,35]++(x.hd.name++([32]++(t0++([41]))))):=zb (by rw[HE.out];unfold textV;rw[hk];rfl);have q0:t0.length<=4000000:=HTS.out t0 (by simp);have qn:x.hd.name.length<=70000:=HN.out.1;obtain⟨gl,rfl,gl1,y0⟩:=HAT.out wr 0 _ rfl (Below.refl _ _);rw[hlen];rw[hk] at a0;clear hk HE HF HT HW HTS HLT HAT hlen HX1 HPAT HBOD HM HN HPX;have p2:¬(9223372036854775807<2+x.hd.name.length):=by omega
      have p3:¬(9223372036854775807<2+x.hd.name.length+1):=by omega
      have p4:¬(9223372036854775807<2+x.hd.name.length+1+t0.length):=by omega
      have p5:¬(9223372036854775807<2+x.hd.name.length+1+t0.length+1):=by omega
      go_upto_region 42 with fail
      clear a0
      go_quiet (fail)
      go_wp2_with fail
      go_ret;exact sb HR.out (by first | exact HB1.out | exact tz HB1.out _)
    by_cases hk:x.hd.kind=18
    . have hlen:x.args.length=1:=by have:=HF.out;omega
      obtain⟨t0,rfl⟩:∃ t0,TS=[t0]:=by
       match TS,HLT.out.trans hlen with
       | [t0],_=>exact⟨t0,rfl⟩
      have HR:Hid (textD x=[40,114,97,105,115,101,32]++(t0++([41]))):=zb (by rw[HE.out];unfold textV;rw[hk];rfl);have q0:t0.length<=4000000:=HTS.out t0 (by simp);have qn:x.hd.name.length<=70000:=HN.out.1;obtain⟨gl,rfl,gl1,y0⟩:=HAT.out wr 0 _ rfl (Below.refl _ _);rw[hlen];rw[hk] at a0;clear hk HE HF HT HW HTS HLT HAT hlen HX1 HPAT HBOD HM HN HPX;have p2:¬(9223372036854775807<7+t0.length):=by omega
      have p3:¬(9223372036854775807<7+t0.length+1):=by omega
      go_upto_region 44 with fail
      clear a0
      go_wp2_with fail
      go_ret;exact sb HR.out (by first | exact HB1.out | exact tz HB1.out _)
    by_cases hk:x.hd.kind=20
    . have hlen:x.args.length=2:=by have:=HF.out;omega
      obtain⟨t0,t1,rfl⟩:∃ t0 t1,TS=[t0,t1]:=by
       match TS,HLT.out.trans hlen with
       | [t0,t1],_=>exact⟨t0,t1,rfl⟩
      have HR:Hid (textD x=[40]++(t0++([59,32]++(t1++([41]))))):=zb (by rw[HE.out];unfold textV;rw[hk];rfl);have q0:t0.length<=4000000:=HTS.out t0 (by simp);have q1:t1.length<=4000000:=HTS.out t1 (by simp);have qn:x.hd.name.length<=70000:=HN.out.1;obtain⟨gl,rfl,gl1,y0⟩:=HAT.out wr 0 _ rfl (Below.refl _ _);have y1:wr.cell? ⟨gl,1,none⟩=some (.string ⟨t1.toArray⟩):=by
       obtain⟨g',hg',_,h⟩:=HAT.out wr 1 _ rfl (Below.refl _ _);obtain rfl:=congrArg Addr.block (zc hg');exact h
      rw[hlen];rw[hk] at a0;clear hk HE HF HT HW HTS HLT HAT hlen HX1 HPAT HBOD HM HN HPX;have p2:¬(9223372036854775807<1+t0.length):=by omega
      have p3:¬(9223372036854775807<1+t0.length+2):=by omega
      have p4:¬(9223372036854775807<1+t0.length+2+t1.length):=by omega
      have p5:¬(9223372036854775807<1+t0.length+2+t1.length+1):=by omega
      go_upto_region 46 with fail
      clear a0
      go_quiet (fail)
      go_wp2_with fail
      go_ret;exact sb HR.out (by first | exact HB1.out | exact tz HB1.out _)
    by_cases hk:x.hd.kind=21
    . have hlen:x.args.length=2:=by have:=HF.out;omega
      obtain⟨t0,t1,rfl⟩:∃ t0 t1,TS=[t0,t1]:=by
       match TS,HLT.out.trans hlen with
       | [t0,t1],_=>exact⟨t0,t1,rfl⟩
      have HR:Hid (textD x=[40]++(t0++([32,38,38,32]++(t1++([41]))))):=zb (by rw[HE.out];unfold textV;rw[hk];rfl);have q0:t0.length<=4000000:=HTS.out t0 (by simp);have q1:t1.length<=4000000:=HTS.out t1 (by simp);have qn:x.hd.name.length<=70000:=HN.out.1;obtain⟨gl,rfl,gl1,y0⟩:=HAT.out wr 0 _ rfl (Below.refl _ _);have y1:wr.cell? ⟨gl,1,none⟩=some (.string ⟨t1.toArray⟩):=by
       obtain⟨g',hg',_,h⟩:=HAT.out wr 1 _ rfl (Below.refl _ _);obtain rfl:=congrArg Addr.block (zc hg');exact h
      rw[hlen];rw[hk] at a0;clear hk HE HF HT HW HTS HLT HAT hlen HX1 HPAT HBOD HM HN HPX;have p2:¬(9223372036854775807<1+t0.length):=by omega
      have p3:¬(9223372036854775807<1+t0.length+4):=by omega
      have p4:¬(9223372036854775807<1+t0.length+4+t1.length):=by omega
      have p5:¬(9223372036854775807<1+t0.length+4+t1.length+1):=by omega
      go_upto_region 48 with fail
      clear a0
      go_quiet (fail)
      go_wp2_with fail
      go_ret;exact sb HR.out (by first | exact HB1.out | exact tz HB1.out _)
    by_cases hk:x.hd.kind=22
    . have hlen:x.args.length=2:=by have:=HF.out;omega
      obtain⟨t0,t1,rfl⟩:∃ t0 t1,TS=[t0,t1]:=by
       match TS,HLT.out.trans hlen with
       | [t0,t1],_=>exact⟨t0,t1,rfl⟩
      have HR:Hid (textD x=[40]++(t0++([32,124,124,32]++(t1++([41]))))):=zb (by rw[HE.out];unfold textV;rw[hk];rfl);have q0:t0.length<=4000000:=HTS.out t0 (by simp);have q1:t1.length<=4000000:=HTS.out t1 (by simp);have qn:x.hd.name.length<=70000:=HN.out.1;obtain⟨gl,rfl,gl1,y0⟩:=HAT.out wr 0 _ rfl (Below.refl _ _);have y1:wr.cell? ⟨gl,1,none⟩=some (.string ⟨t1.toArray⟩):=by
       obtain⟨g',hg',_,h⟩:=HAT.out wr 1 _ rfl (Below.refl _ _);obtain rfl:=congrArg Addr.block (zc hg');exact h
      rw[hlen];rw[hk] at a0;clear hk HE HF HT HW HTS HLT HAT hlen HX1 HPAT HBOD HM HN HPX;have p2:¬(9223372036854775807<1+t0.length):=by omega
      have p3:¬(9223372036854775807<1+t0.length+4):=by omega
      have p4:¬(9223372036854775807<1+t0.length+4+t1.length):=by omega
      have p5:¬(9223372036854775807<1+t0.length+4+t1.length+1):=by omega
      go_upto_region 50 with fail
      clear a0
      go_quiet (fail)
      go_wp2_with fail
      go_ret;exact sb HR.out (by first | exact HB1.out | exact tz HB1.out _)
    by_cases hk:x.hd.kind=12
    . have hlen:x.args.length=x.hd.labels.length:=by have:=HF.out;omega
      have HR:Hid (textD x=[123]++(fieldsD false x.hd.labels TS++[125])):=zb (by rw[HE.out];unfold textV;rw[hk];rfl);have HFL:Hid (∀ k,(fieldsD false (x.hd.labels.take k) (TS.take k)).length<=4000000):=zb fun k=>by
       have h1:=zft x.hd.labels TS k false;have h2:=HT.out;rw[HR.out] at h2;simp only[List.length_append,List.length_cons,List.length_nil] at h2;omega
      rw[hk] at a0;have HLEN:=zb hlen;clear hk HE HF HT HW HPAT HBOD HM hlen
      go_upto_region 31 with fail
      clear a0 a1 a2 a3 a4 a5 a6 a7 al;have HZ:=zb (Below.refl wr.heap.size wr);have HPX1:=zb (Box8.below HPX.out HV.out);clear HPX HV
      go_loopw [5,6] (fun vo vi ws=>∃(k:Nat) (o:List UInt8),k<=x.args.length/\vo=.string ⟨o.toArray⟩/\vi=.int .i64 k/\Hid (Below wr.heap.size wr ws)/\Hid (o=[123]++fieldsD false (x.hd.labels.take k) (TS.take k))) (fun _ vi _=>x.args.length-(intOf vi).toNat)
      case atStart=>exact⟨0,[123],Nat.zero_le _,rfl,by go_num,HZ,zb (by rw[List.take_zero,List.take_zero];rfl)⟩
      case round =>
       clear HZ;obtain⟨k,o,hk1,rfl,rfl,HV,HO⟩:=hrel;obtain⟨a0,a1,a2,a3,a4,a5,a6,a7,af⟩:=Box8.cells (Box8.below HPX1.out HV.out);have al:=Box8.lt (Box8.below HPX1.out HV.out);clear af;have q0:o.length<=4000001:=by have h1:=HFL.out k;rw[HO.out];simp only[List.length_append,List.length_cons,List.length_nil];omega
       by_cases hk2:k<x.args.length
       . have h2:decide ((k:Int)<(x.args.length:Int))=true:=decide_eq_true (by omega);have h3:(k:Int)<(x.args.length:Int):=by omega
         have h4:(0:Int)<=(k:Int):=by omega
         have E5:IntKind.i64.wrap ((k:Int)+1)=(k:Int)+1:=by rw[IntKind.wrap_i64];have:=HLE.out;omega
         obtain⟨tx,htx⟩:∃ a,TS[k]? = some a:=⟨_,List.getElem?_eq_getElem (by rw[HLT.out];exact hk2)⟩;obtain⟨lb,hlb⟩:∃ a,x.hd.labels[k]? = some a:=⟨_,List.getElem?_eq_getElem (by have:=HLEN.out;omega)⟩;obtain⟨gt,rfl,hgt,y0⟩:=HAT.out _ k tx htx HV.out;obtain⟨hlc,gl,ol,hla,hgl,hcl⟩:=rf ((HX1.out.below HV.out).look.1) rfl hlb;rw[hla,← HLEN.out] at a5;have q3:lb.length<=70000:=HN.out.2.2.2 lb (List.mem_of_getElem? hlb);have q4:tx.length<=4000000:=HTS.out tx (List.mem_of_getElem? htx);have HNX:=zb (zfZ hlb htx);clear hlb hla hlc htx;have p1:¬(9223372036854775807<lb.length+3):=by omega
         have p2:¬(9223372036854775807<lb.length+3+tx.length):=by omega
         by_cases h0:0<k
         all_goals
          first
           | (have t0:decide ((0:Int)<(k:Int))=true:=decide_eq_true (by omega);have t1:(0:Int)<(k:Int):=(by omega);have p3:¬(9223372036854775807<o.length+2+(lb.length+3+tx.length)):=(by omega);rw[if_pos h0] at HNX)
           | (have t0:decide ((0:Int)<(k:Int))=false:=decide_eq_false (by omega);have t1:¬(0:Int)<(k:Int):=(by omega);have p3:¬(9223372036854775807<o.length+(lb.length+3+tx.length)):=(by omega);rw[if_neg h0] at HNX)
          clear h0
          go_upto_region 35 with fail
          go_quiet (fail)
          go_wp2_with fail
          go_roundw
          case rel=>exact⟨k+1,[123]++fieldsD false (x.hd.labels.take (k+1)) (TS.take (k+1)),by omega,by have hO:=HO.out;subst hO;rw[HNX.out];congr 1;apply ByteArray.ext;simp,by go_num,zb (by first | exact HV.out | exact HV.out.drew | exact HV.out.trans (yJ _ _ |>.mono HV.out.size)),zb rfl⟩
          case measure=>simp [intOf];omega
       . have h2:decide ((k:Int)<(x.args.length:Int))=false:=decide_eq_false (by omega);have h3:¬(k:Int)<(x.args.length:Int):=by omega
         have HEND:Hid (textD x=o++[125]):=zb (by rw[HR.out,HO.out,List.take_of_length_le (by have:=HLEN.out;omega),List.take_of_length_le (by rw[HLT.out];omega)];simp);clear HO HFL HR
         go_wp2_with fail
         go_ret;exact sb HEND.out (HB1.out.trans (HV.out.mono HB1.out.size))
    by_cases hk:x.hd.kind=16∨x.hd.kind=17
    . have hlen:x.args.length=1:=by have:=HF.out;omega
      obtain⟨t0,rfl⟩:∃ t0,TS=[t0]:=by
       match TS,HLT.out.trans hlen with
       | [t0],_=>exact⟨t0,rfl⟩
      have HR:Hid (textD x=(if x.hd.kind=17 then [40,116,114,121,32] else [40,109,97,116,99,104,32])++(t0++([32,119,105,116,104,32]++(armsD false (textDa x.arms)++[32,101,110,100,41])))):=zb (by
       rw[HE.out];unfold textV;rcases hk with hk | hk <;> rw[hk] <;> rfl)
      obtain⟨pre,HPRE⟩:∃ p:List UInt8,Hid ((if x.hd.kind=17 then [40,116,114,121,32] else [40,109,97,116,99,104,32])=p):=⟨_,zb rfl⟩
      have q5:pre.length<=7:=by rw[← HPRE.out];split <;> decide
      rw[HPRE.out] at HR;have HFL:Hid (∀ k,(armsD false (textDa (x.arms.take k))).length<=4000000):=zb fun k=>by
       have h1:=zgD (textDa x.arms) k false;rw[← zfH] at h1;have h2:=HT.out;rw[HR.out] at h2;simp only[List.length_append,List.length_cons,List.length_nil] at h2;omega
      have q1:t0.length<=4000000:=HTS.out t0 (by simp);obtain⟨gl,rfl,gl1,y0⟩:=HAT.out wr 0 _ rfl (Below.refl _ _);have HLR:Hid (x.arms.length<=9223372036854775807):=zb HX1.out.look.2.2.2.1;rw[hlen,show((1:Nat):Int)=1 from rfl]
      clear HE HF HT HW HTS HLT HAT hlen;have HPX1:=zb (Box8.below HPX.out HV.out);have HZ:=zb (Below.refl wr.heap.size wr);clear HPX HV;rcases hk with hk | hk
      all_goals
       rw[hk] at a0 HPRE;clear hk
       go_upto_region 58 with fail
       clear a0 a1 a2 a3 a4 a5 a6 a7 al y0 gl1
       go_loopw [7,8] (fun vo vi ws=>∃(k:Nat) (o:List UInt8),k<=x.arms.length/\vo=.string ⟨o.toArray⟩/\vi=.int .i64 k/\Hid (Below wr.heap.size wr ws)/\Hid (o=pre++(t0++([32,119,105,116,104,32]++armsD false (textDa (x.arms.take k)))))) (fun _ vi _=>x.arms.length-(intOf vi).toNat)
       case atStart=>exact⟨0,pre++(t0++([32,119,105,116,104,32]++[])),Nat.zero_le _,by rw[← HPRE.out];first | rfl | (congr 1;apply ByteArray.ext;simp),by go_num,HZ,zb (by rw[List.take_zero];rfl)⟩
       case round =>
        clear HZ HPRE;obtain⟨k,o,hk1,rfl,rfl,HV,HO⟩:=hrel;obtain⟨a0,a1,a2,a3,a4,a5,a6,a7,af⟩:=Box8.cells (Box8.below HPX1.out HV.out);have al:=Box8.lt (Box8.below HPX1.out HV.out);clear af a0 a1 a2 a3 a4 a5 a6;have q0:o.length<=9000000:=by have h1:=HFL.out k;rw[HO.out];simp only[List.length_append,List.length_cons,List.length_nil];omega
        by_cases hk2:k<x.arms.length
        . have h2:decide ((k:Int)<(x.arms.length:Int))=true:=decide_eq_true (by omega);have h3:(k:Int)<(x.arms.length:Int):=by omega
          have h4:(0:Int)<=(k:Int):=by omega
          have E5:IntKind.i64.wrap ((k:Int)+1)=(k:Int)+1:=by rw[IntKind.wrap_i64];have:=HLR.out;omega
          obtain⟨ca,hca⟩:∃ a,x.arms[k]? = some a:=⟨_,List.getElem?_eq_getElem hk2⟩;obtain⟨g1,o1,t1,r1,e1,l1,i1,j1,c1⟩:=(HX1.out.below HV.out).look.2.2.2.2.2 k ca hca;rw[e1] at a7;have x0:=c1 0 _ rfl;have x1:=c1 1 _ rfl;have x2:=c1 2 _ rfl;have x3:=c1 3 _ rfl;have x4:=c1 4 _ rfl;have x5:=c1 5 _ rfl;have x6:=c1 6 _ rfl;have x7:=c1 7 _ rfl;have x8:=c1 8 _ rfl;have x9:=c1 9 _ rfl;have x10:=c1 10 _ rfl;have x11:=c1 11 _ rfl;have x12:=c1 12 _ rfl;have x13:=c1 13 _ rfl;have x14:=c1 14 _ rfl;rw[Nat.add_zero] at x0;have q3:=(HM.out ca (List.mem_of_getElem? hca)).1;have q4:=(HM.out ca (List.mem_of_getElem? hca)).2;have HNX:=zb (zgS hca);have HCP:=zb (fun W (h:Below wr.heap.size wr W)=>HPAT.out ca (List.mem_of_getElem? hca) t1 W (i1.below h));have HCB:=zb (fun W (h:Below wr.heap.size wr W)=>HBOD.out ca (List.mem_of_getElem? hca) r1 W (j1.below h));clear c1 e1 i1 j1 hca;generalize patTextD ca.1=tp at *;generalize textD ca.2=tb at *;unfold paOf at HCP;unfold exOf exV at HCB;have p3:¬(9223372036854775807<tp.length+4):=by omega
          have p4:¬(9223372036854775807<tp.length+4+tb.length):=by omega
          have HCK:Hid (∀ W,Below wr.heap.size wr W->W.cell? ⟨bx,7,none⟩=some (.slice (some ⟨g1,o1,none⟩) x.arms.length s.rc)/\W.cell? ⟨g1,o1+k*15,none⟩=some (.int .i64 ca.1.hd.kind)/\W.cell? ⟨g1,o1+k*15+1,none⟩=some (.int .i64 ca.1.hd.pos)/\W.cell? ⟨g1,o1+k*15+2,none⟩=some (.string ⟨ca.1.hd.name.toArray⟩)/\W.cell? ⟨g1,o1+k*15+3,none⟩=some (.int .i64 ca.1.hd.n)/\W.cell? ⟨g1,o1+k*15+4,none⟩=some (.string ⟨ca.1.hd.s.toArray⟩)/\W.cell? ⟨g1,o1+k*15+5,none⟩=some (.slice t1.la ca.1.hd.labels.length t1.lc)/\W.cell? ⟨g1,o1+k*15+6,none⟩=some (.slice t1.aa ca.1.args.length t1.ac)/\W.cell? ⟨g1,o1+k*15+7,none⟩=some (.int .i64 ca.2.hd.kind)/\W.cell? ⟨g1,o1+k*15+8,none⟩=some (.int .i64 ca.2.hd.pos)/\W.cell? ⟨g1,o1+k*15+9,none⟩=some (.string ⟨ca.2.hd.name.toArray⟩)/\W.cell? ⟨g1,o1+k*15+10,none⟩=some (.int .i64 ca.2.hd.n)/\W.cell? ⟨g1,o1+k*15+11,none⟩=some (.string ⟨ca.2.hd.s.toArray⟩)/\W.cell? ⟨g1,o1+k*15+12,none⟩=some (.slice r1.la ca.2.hd.labels.length r1.lc)/\W.cell? ⟨g1,o1+k*15+13,none⟩=some (.slice r1.aa ca.2.args.length r1.ac)/\W.cell? ⟨g1,o1+k*15+14,none⟩=some (.slice r1.ra ca.2.arms.length r1.rc)):=zb (fun W h=>⟨(ze (w:=wr) (a:=⟨bx,_,none⟩) (h.block bx al)).trans a7,(ze (w:=wr) (a:=⟨g1,_,none⟩) (h.block g1 l1)).trans x0,(ze (w:=wr) (a:=⟨g1,_,none⟩) (h.block g1 l1)).trans x1,(ze (w:=wr) (a:=⟨g1,_,none⟩) (h.block g1 l1)).trans x2,(ze (w:=wr) (a:=⟨g1,_,none⟩) (h.block g1 l1)).trans x3,(ze (w:=wr) (a:=⟨g1,_,none⟩) (h.block g1 l1)).trans x4,(ze (w:=wr) (a:=⟨g1,_,none⟩) (h.block g1 l1)).trans x5,(ze (w:=wr) (a:=⟨g1,_,none⟩) (h.block g1 l1)).trans x6,(ze (w:=wr) (a:=⟨g1,_,none⟩) (h.block g1 l1)).trans x7,(ze (w:=wr) (a:=⟨g1,_,none⟩) (h.block g1 l1)).trans x8,(ze (w:=wr) (a:=⟨g1,_,none⟩) (h.block g1 l1)).trans x9,(ze (w:=wr) (a:=⟨g1,_,none⟩) (h.block g1 l1)).trans x10,(ze (w:=wr) (a:=⟨g1,_,none⟩) (h.block g1 l1)).trans x11,(ze (w:=wr) (a:=⟨g1,_,none⟩) (h.block g1 l1)).trans x12,(ze (w:=wr) (a:=⟨g1,_,none⟩) (h.block g1 l1)).trans x13,(ze (w:=wr) (a:=⟨g1,_,none⟩) (h.block g1 l1)).trans x14⟩);by_cases h0:0<k
          all_goals
           first
            | (have t0':decide ((0:Int)<(k:Int))=true:=decide_eq_true (by omega);have t1':(0:Int)<(k:Int):=(by omega);have p5:¬(9223372036854775807<o.length+3+(tp.length+4+tb.length)):=(by omega);rw[if_pos h0] at HNX)
            | (have t0':decide ((0:Int)<(k:Int))=false:=decide_eq_false (by omega);have t1':¬(0:Int)<(k:Int):=(by omega);have p5:¬(9223372036854775807<o.length+(tp.length+4+tb.length)):=(by omega);rw[if_neg h0] at HNX)
           clear h0
           go_upto_region 62 with fail
           go_region_held3 (fun W=>W.cell? ⟨bx,7,none⟩=some (.slice (some ⟨g1,o1,none⟩) x.arms.length s.rc)/\W.cell? ⟨g1,o1+k*15,none⟩=some (.int .i64 ca.1.hd.kind)/\W.cell? ⟨g1,o1+k*15+1,none⟩=some (.int .i64 ca.1.hd.pos)/\W.cell? ⟨g1,o1+k*15+2,none⟩=some (.string ⟨ca.1.hd.name.toArray⟩)/\W.cell? ⟨g1,o1+k*15+3,none⟩=some (.int .i64 ca.1.hd.n)/\W.cell? ⟨g1,o1+k*15+4,none⟩=some (.string ⟨ca.1.hd.s.toArray⟩)/\W.cell? ⟨g1,o1+k*15+5,none⟩=some (.slice t1.la ca.1.hd.labels.length t1.lc)/\W.cell? ⟨g1,o1+k*15+6,none⟩=some (.slice t1.aa ca.1.args.length t1.ac)/\W.cell? ⟨g1,o1+k*15+7,none⟩=some (.int .i64 ca.2.hd.kind)/\W.cell? ⟨g1,o1+k*15+8,none⟩=some (.int .i64 ca.2.hd.pos)/\W.cell? ⟨g1,o1+k*15+9,none⟩=some (.string ⟨ca.2.hd.name.toArray⟩)/\W.cell? ⟨g1,o1+k*15+10,none⟩=some (.int .i64 ca.2.hd.n)/\W.cell? ⟨g1,o1+k*15+11,none⟩=some (.string ⟨ca.2.hd.s.toArray⟩)/\W.cell? ⟨g1,o1+k*15+12,none⟩=some (.slice r1.la ca.2.hd.labels.length r1.lc)/\W.cell? ⟨g1,o1+k*15+13,none⟩=some (.slice r1.aa ca.2.args.length r1.ac)/\W.cell? ⟨g1,o1+k*15+14,none⟩=some (.slice r1.ra ca.2.arms.length r1.rc)) (go_keep) (first | (go_at_call 52; refine(HCP.out _ (Below.refl _ _).drew).mono ?_;rintro e w5 ⟨rfl,hb5⟩;have HB6:=zb ((Below.refl wr.heap.size wr).drew.trans hb5);clear hb5;obtain⟨z0,z1,z2,z3,z4,z5,z6,z7,z8,z9,z10,z11,z12,z13,z14,z15⟩:=HCK.out _ HB6.out) | (go_at_call 47; refine(HCB.out _ HB6.out).mono ?_;rintro e w6 ⟨rfl,hb6⟩;have HB7:=zb (HB6.out.trans (hb6.mono HB6.out.size));clear hb6;obtain⟨u0,u1,u2,u3,u4,u5,u6,u7,u8,u9,u10,u11,u12,u13,u14,u15⟩:=HCK.out _ HB7.out))
           all_goals
            have HV7:=zb (HV.out.trans (HB7.out.mono HV.out.size));clear HCK
            try clear z0 z1 z2 z3 z4 z5 z6 z7 z8 z9 z10 z11 z12 z13 z14 z15
            try clear u0 u1 u2 u3 u4 u5 u6 u7 u8 u9 u10 u11 u12 u13 u14 u15
            go_wp2_with fail
            go_roundw
            case rel=>exact⟨k+1,pre++(t0++([32,119,105,116,104,32]++armsD false (textDa (x.arms.take (k+1))))),by omega,by have hO:=HO.out;subst hO;rw[HNX.out];congr 1;apply ByteArray.ext;simp,by go_num,HV7,zb rfl⟩
            case measure=>simp [intOf];omega
        . have h2:decide ((k:Int)<(x.arms.length:Int))=false:=decide_eq_false (by omega);have h3:¬(k:Int)<(x.arms.length:Int):=by omega
          have HEND:Hid (textD x=o++[32,101,110,100,41]):=zb (by rw[HR.out,HO.out,List.take_of_length_le (by omega)];simp);clear HO HFL HR
          go_wp2_with fail
          go_ret;exact sb HEND.out (HB1.out.trans (HV.out.mono HB1.out.size))
    have hk:x.hd.kind=19:=by have:=HF.out;omega
    have hn:0<manyD x.hd.n/\(x.args.length:Int)=manyD x.hd.n:=by have:=HF.out;omega
    have hrg:=zgG hn.1;have HE2:Hid (textD x=if x.hd.n=6∨x.hd.n=9∨x.hd.n=11 then [40]++(signD x.hd.n++([32]++(TS.getD 0 []++[41]))) else if x.hd.n<=8∨x.hd.n=12 then [40]++(TS.getD 0 []++([32]++(signD x.hd.n++([32]++(TS.getD 1 []++[41]))))) else [40]++(signD x.hd.n++((TS.flatMap fun t=>[32]++t)++[41]))):=zb (by rw[HE.out];unfold textV;rw[hk];rfl)
    have HC:Hid (∀ W,Calls Tryz.prog 90 #[.int .i64 x.hd.n] W (StrMade (signD x.hd.n) W)):=zb fun W=>t_sign x.hd.n W hrg.1 hrg.2;have qs:=zf4 x.hd.n;have HTL:=zb HT.out;rw[hk] at a0;clear HE HF hk HX1 HM HPAT HBOD HN HW HT;generalize textD x=ty at *;generalize signD x.hd.n=sg at *;generalize x.hd.n=n at *;by_cases g1:n=6∨n=9∨n=11
    . have hlen:x.args.length=1:=by
       have h:=hn.2;unfold manyD at h;rcases g1 with rfl | rfl | rfl <;> simp at h <;> omega
      obtain⟨t0,rfl⟩:∃ t0,TS=[t0]:=by
       match TS,HLT.out.trans hlen with
       | [t0],_=>exact⟨t0,rfl⟩
      have HR:Hid (ty=[40]++(sg++([32]++(t0++[41])))):=zb (by rw[HE2.out,if_pos g1];rfl);have q1:t0.length<=4000000:=HTS.out t0 (by simp);obtain⟨gl,rfl,gl1,y0⟩:=HAT.out wr 0 _ rfl (Below.refl _ _);rw[hlen];clear HE2 hn hrg HTS HLT HAT hlen HTL;have p1:¬(9223372036854775807<1+sg.length):=by omega
      have p2:¬(9223372036854775807<1+sg.length+1):=by omega
      have p3:¬(9223372036854775807<1+sg.length+1+t0.length):=by omega
      have p4:¬(9223372036854775807<1+sg.length+1+t0.length+1):=by omega
      rcases g1 with g | g | g
      all_goals
       first | (have e6:(n == 6)=true:=beq_iff_eq.2 g) | (have e6:(n == 6)=false:=by rw[beq_eq_false_iff_ne];omega)
       first | (have e9:(n == 9)=true:=beq_iff_eq.2 g) | (have e9:(n == 9)=false:=by rw[beq_eq_false_iff_ne];omega)
       first | (have e11:(n == 11)=true:=beq_iff_eq.2 g) | (have e11:(n == 11)=false:=by rw[beq_eq_false_iff_ne];omega)
       clear g;have HCK:Hid (∀ W,Below wr.heap.size wr W->W.cell? ⟨bx,3,none⟩=some (.int .i64 n)/\W.cell? ⟨gl,0,none⟩=some (.string ⟨t0.toArray⟩)):=zb (fun W h=>⟨(ze (w:=wr) (a:=⟨bx,_,none⟩) (h.block bx al)).trans a3,(ze (w:=wr) (a:=⟨gl,_,none⟩) (h.block gl gl1)).trans y0⟩)
       go_upto_region 65 with fail
       clear e6 e9 e11
       go_region_held3 (fun W=>W.cell? ⟨bx,3,none⟩=some (.int .i64 n)/\W.cell? ⟨gl,0,none⟩=some (.string ⟨t0.toArray⟩)) (go_keep) ((go_at_call 90; refine(HC.out _).mono ?_;rintro e w5 ⟨rfl,hb5⟩;have HB6:=zb ((Below.refl wr.heap.size wr).drew.trans hb5);clear hb5;obtain⟨z0,z1⟩:=HCK.out _ HB6.out))
       all_goals
        have HB8:=zb (HB1.out.trans (HB6.out.mono HB1.out.size))
        try clear z0 z1
        try clear z2
        go_wp2_with fail
        go_ret;refine⟨?_,HB8.out⟩;rw[HR.out];show Ending.returned (.string _)=Ending.returned (.string _);congr 2;apply ByteArray.ext;simp
    have e6:(n == 6)=false:=by rw[beq_eq_false_iff_ne];omega
    have e9:(n == 9)=false:=by rw[beq_eq_false_iff_ne];omega
    have e11:(n == 11)=false:=by rw[beq_eq_false_iff_ne];omega
    by_cases g2:n<=8∨n=12
    . have hlen:x.args.length=2:=by
       have h:=hn.2;unfold manyD at h;rw[if_neg (by omega),if_neg (by omega),if_neg (by omega)] at h;omega
      obtain⟨t0,t1,rfl⟩:∃ t0 t1,TS=[t0,t1]:=by
       match TS,HLT.out.trans hlen with
       | [t0,t1],_=>exact⟨t0,t1,rfl⟩
      have HR:Hid (ty=[40]++(t0++([32]++(sg++([32]++(t1++[41])))))):=zb (by rw[HE2.out,if_neg g1,if_pos g2];rfl);have q1:t0.length<=4000000:=HTS.out t0 (by simp);have q2:t1.length<=4000000:=HTS.out t1 (by simp);obtain⟨gl,rfl,gl1,y0⟩:=HAT.out wr 0 _ rfl (Below.refl _ _);have y1:wr.cell? ⟨gl,1,none⟩=some (.string ⟨t1.toArray⟩):=by
       obtain⟨g',hg',_,h⟩:=HAT.out wr 1 _ rfl (Below.refl _ _);obtain rfl:=congrArg Addr.block (zc hg');exact h
      rw[hlen];have p1:¬(9223372036854775807<1+t0.length):=by omega
      have p2:¬(9223372036854775807<1+t0.length+1):=by omega
      have p3:¬(9223372036854775807<1+t0.length+1+sg.length):=by omega
      have p4:¬(9223372036854775807<1+t0.length+1+sg.length+1):=by omega
      have p5:¬(9223372036854775807<1+t0.length+1+sg.length+1+t1.length):=by omega
      have p6:¬(9223372036854775807<1+t0.length+1+sg.length+1+t1.length+1):=by omega
      have HCK:Hid (∀ W,Below wr.heap.size wr W->W.cell? ⟨bx,3,none⟩=some (.int .i64 n)/\W.cell? ⟨gl,0,none⟩=some (.string ⟨t0.toArray⟩)/\W.cell? ⟨gl,1,none⟩=some (.string ⟨t1.toArray⟩)):=zb (fun W h=>⟨(ze (w:=wr) (a:=⟨bx,_,none⟩) (h.block bx al)).trans a3,(ze (w:=wr) (a:=⟨gl,_,none⟩) (h.block gl gl1)).trans y0,(ze (w:=wr) (a:=⟨gl,_,none⟩) (h.block gl gl1)).trans y1⟩);clear HE2 hn hrg HTS HLT HAT hlen g1 HTL;have l8:(decide (n<=8)=true/\n<=8)∨(decide (n<=8)=false/\(n == 12)=true/\¬n<=8):=by
       by_cases h:n<=8
       . exact .inl ⟨decide_eq_true h,h⟩
       . exact .inr ⟨decide_eq_false h,beq_iff_eq.2 (by omega),h⟩
      clear g2;rcases l8 with⟨l8,g3⟩ | ⟨l8,e12',g3⟩
      all_goals
       go_upto_region 67 with fail
       clear l8 g3 e6 e9 e11
       go_region_held3 (fun W=>W.cell? ⟨bx,3,none⟩=some (.int .i64 n)/\W.cell? ⟨gl,0,none⟩=some (.string ⟨t0.toArray⟩)/\W.cell? ⟨gl,1,none⟩=some (.string ⟨t1.toArray⟩)) (go_keep) ((go_at_call 90; refine(HC.out _).mono ?_;rintro e w5 ⟨rfl,hb5⟩;have HB6:=zb ((Below.refl wr.heap.size wr).drew.trans hb5);clear hb5;obtain⟨z0,z1,z2⟩:=HCK.out _ HB6.out))
       all_goals
        have HB8:=zb (HB1.out.trans (HB6.out.mono HB1.out.size))
        try clear z0 z1
        try clear z2
        go_wp2_with fail
        go_ret;refine⟨?_,HB8.out⟩;rw[HR.out];show Ending.returned (.string _)=Ending.returned (.string _);congr 2;apply ByteArray.ext;simp
    have e12:(n == 12)=false:=by rw[beq_eq_false_iff_ne];omega
    have l8:decide (n<=8)=false:=decide_eq_false (by omega);have HR:Hid (ty=[40]++(sg++((TS.flatMap fun t=>[32]++t)++[41]))):=zb (by rw[HE2.out,if_neg g1,if_neg g2]);have HFL:Hid (∀ k,((TS.take k).flatMap fun t=>[32]++t).length<=4000000):=zb fun k=>by
     have h1:=zgN TS k;have h2:=HTL.out;rw[HR.out] at h2;simp only[List.length_append,List.length_cons,List.length_nil] at h2 h1 ⊢;omega
    clear HE2 hn hrg g1 g2 HTL
    go_wp2_with (go_at_call 90; refine(HC.out _).mono ?_;rintro e w5 ⟨rfl,hb5⟩;have HB6:=zb hb5;clear hb5)
    clear e6 e9 e11 e12 l8 a0 a1 a2 a3 a4 a5 a6 a7 al;have HZ:=zb (Below.refl w5.heap.size w5)
    go_upto_region 70 with fail
    go_loopw [9,10] (fun vo vi ws=>∃(k:Nat) (o:List UInt8),k<=x.args.length/\vo=.string ⟨o.toArray⟩/\vi=.int .i64 k/\Hid (Below w5.heap.size w5 ws)/\Hid (o=[40]++(sg++((TS.take k).flatMap fun t=>[32]++t)))) (fun _ vi _=>x.args.length-(intOf vi).toNat)
    case atStart=>exact⟨0,[40]++sg,Nat.zero_le _,by first | rfl | (congr 1;apply ByteArray.ext;simp),by go_num,HZ,zb (by rw[List.take_zero];simp)⟩
    case round =>
     clear HZ;obtain⟨k,o,hk1,rfl,rfl,HV2,HO⟩:=hrel;have q0:o.length<=4000009:=by have h1:=HFL.out k;rw[HO.out];simp only[List.length_append,List.length_cons,List.length_nil] at h1 ⊢;omega
     by_cases hk2:k<x.args.length
     . have h2:decide ((k:Int)<(x.args.length:Int))=true:=decide_eq_true (by omega);have h3:(k:Int)<(x.args.length:Int):=by omega
       have h4:(0:Int)<=(k:Int):=by omega
       have E5:IntKind.i64.wrap ((k:Int)+1)=(k:Int)+1:=by rw[IntKind.wrap_i64];have:=HLE.out;omega
       obtain⟨tx,htx⟩:∃ a,TS[k]? = some a:=⟨_,List.getElem?_eq_getElem (by rw[HLT.out];exact hk2)⟩;obtain⟨gt,rfl,hgt,y0⟩:=HAT.out _ k tx htx (HB6.out.trans (HV2.out.mono HB6.out.size));have q4:tx.length<=4000000:=HTS.out tx (List.mem_of_getElem? htx);have HNX:=zb (zgF htx);clear htx
       go_wp2_with fail
       go_roundw
       case rel=>exact⟨k+1,o++([32]++tx),by omega,by first | rfl | (congr 1;apply ByteArray.ext;simp),by go_num,zb (by first | exact HV2.out | exact HV2.out.drew),zb (by rw[HNX.out,HO.out];simp)⟩
       case measure=>simp [intOf];omega
     . have h2:decide ((k:Int)<(x.args.length:Int))=false:=decide_eq_false (by omega);have h3:¬(k:Int)<(x.args.length:Int):=by omega
       have HEND:Hid (ty=o++[41]):=zb (by rw[HR.out,HO.out,List.take_of_length_le (by rw[HLT.out];omega)];simp);clear HO HFL HR
       go_wp2_with fail
       go_ret;exact sb HEND.out (HB1.out.trans ((HB6.out.trans (HV2.out.mono HB6.out.size)).mono HB1.out.size))
theorem zgL:∀(m:Nat) (x:Nd) (s:Sl) (w:World),x.size<=m->x.wide->x.wt<=65536->x.fit->mayD x=true->IsE w (fun _=>True) (exL x s) x->Calls Tryz.prog 47 #[exOf x s] w (StrMade (textD x) w)
 | 0,x,_,_,h,_,_,_,_,_=>absurd h (by cases x;show ¬(1+_+_<=0);omega)
 | m+1,x,s,w,h,hw,hwt,hfit,hmay,hx=>by
  have hm:=hmay;rw[zg9,Bool.and_eq_true,Bool.and_eq_true,List.all_eq_true,List.all_eq_true] at hm;have hch:∀ a∈x.args,a.wide/\a.wt<=65536:=fun a ha=>by
   cases x with
   | mk hd l aa =>
    have h2:=zeN ha;rw[Nd.wt] at hwt;have h3:wtN (Nd.mk hd l aa).args=wtN l:=rfl;exact⟨xG hw.2.1 a ha,by omega⟩
  have hca:∀ q∈x.arms,(q.1.wide/\q.1.wt<=65536)/\q.2.wide/\q.2.wt<=65536:=fun q hq=>by
   cases x with
   | mk hd l a =>
    have h1:=xY hw.2.2 q hq;have h2:=zeZ hq;rw[Nd.wt] at hwt;have h3:wtA (Nd.mk hd l a).arms=wtA a:=rfl;exact⟨⟨h1.1,by omega⟩,h1.2,by omega⟩
  have hN:x.hd.name.length<=70000/\x.hd.s.length<=70000/\x.args.length<=70000/\∀ l∈x.hd.labels,l.length<=70000:=by
   cases x;exact⟨hfit.1.1,hfit.1.2.1,hfit.2.1,hfit.1.2.2.2.1⟩
  have hq:∀ q∈x.arms,patMayD q.1=true/\mayD q.2=true:=fun q hq=>by
   have:=hm.2.2 q hq
   rwa [Bool.and_eq_true] at this
  exact zgh x s w hw.hd hm.1 hx hN (by have:=(ze9 x hw).1;omega) (fun a ha=>by have:=(ze9 a (hch a ha).1).1;have:=(hch a ha).2;omega)
   (fun q hq=>by have h1:=(ze9 q.1 (hca q hq).1.1).2;have h2:=(hca q hq).1.2;have h3:=(ze9 q.2 (hca q hq).2.1).1;have h4:=(hca q hq).2.2;exact⟨by omega,by omega⟩)
   (fun a ha t W hi=>zgL m a t W (by have:=xO ha;omega) (hch a ha).1 (hch a ha).2 (zeC hfit ha) (hm.2.1 a ha) hi)
   (fun q hq' t W hi=>zfw q.1.size q.1 t W (Nat.le_refl _) (hca q hq').1.1 (hca q hq').1.2 (zfq hfit hq').1 (hq q hq').1 hi)
   (fun q hq' t W hi=>zgL m q.2 t W (by have:=(uX hq').2;omega) (hca q hq').2.1 (hca q hq').2.2 (zfq hfit hq').2 (hq q hq').2 hi)
