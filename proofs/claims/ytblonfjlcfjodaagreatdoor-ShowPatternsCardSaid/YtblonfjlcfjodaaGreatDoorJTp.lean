/-
  The walk of the document's patForm.
-/
import Derived.Test.YtblonfjlcfjodaaGreatDoorGTr
import Derived.Test.YtblonfjlcfjodaaGreatDoorGLng
namespace Go.Proofs.YtblonfjlcfjodaaGreatDoor
set_option linter.unusedSimpArgs false
set_option linter.unusedVariables false
set_option maxRecDepth 100000
set_option maxHeartbeats 4000000
open Go.RowKit
theorem zfm (x:Nd):patFormD x=((decide (x.hd.kind=2∨x.hd.kind=7∨x.hd.kind=8)||decide (x.hd.name=[]))&&((decide (x.hd.kind=3∨x.hd.kind=5)||decide (x.hd.n=0))&&((decide (x.hd.kind=4)||decide (x.hd.s=[])) &&
 (decide ((x.hd.labels.length:Int)=if x.hd.kind=9 then(x.hd.labels.length:Int) else 0)&&(decide ((x.args.length:Int)=if x.hd.kind=9 then(x.hd.labels.length:Int) else if x.hd.kind=8 then 1 else 0) &&
 (if x.hd.kind=1∨x.hd.kind=6∨x.hd.kind=4 then true
  else if x.hd.kind=2 then isNam x.hd.name&&decide (x.hd.name≠[95])
  else if x.hd.kind=7∨x.hd.kind=8 then isUpN x.hd.name
  else if x.hd.kind=3 then decide (x.hd.n<=4611686018427387903)&&decide (-4611686018427387903<=x.hd.n)
  else if x.hd.kind=5 then decide (x.hd.n=0)||decide (x.hd.n=1)
  else if x.hd.kind=9 then x.hd.labels.all isNam
  else false)))))):=by
 obtain⟨⟨_,_,_,_,_,_⟩,_,_⟩:=x;rfl
theorem zgt {x:Nd} {k:Int} {b:Bool} (hk:x.hd.kind=k) (h:((decide (k=2∨k=7∨k=8)||decide (x.hd.name=[]))&&((decide (k=3∨k=5)||decide (x.hd.n=0))&&((decide (k=4)||decide (x.hd.s=[])) &&
 (decide ((x.hd.labels.length:Int)=if k=9 then(x.hd.labels.length:Int) else 0)&&(decide ((x.args.length:Int)=if k=9 then(x.hd.labels.length:Int) else if k=8 then 1 else 0) &&
 (if k=1∨k=6∨k=4 then true
  else if k=2 then isNam x.hd.name&&decide (x.hd.name≠[95])
  else if k=7∨k=8 then isUpN x.hd.name
  else if k=3 then decide (x.hd.n<=4611686018427387903)&&decide (-4611686018427387903<=x.hd.n)
  else if k=5 then decide (x.hd.n=0)||decide (x.hd.n=1)
  else if k=9 then x.hd.labels.all isNam
  else false))))))=b):patFormD x=b:=by
 rw[zfm,hk];exact h
theorem t_patForm (x:Nd) (s:Sl) (w:World) (hn:x.hd.name.length<=900000) (hl:∀ l∈x.hd.labels,l.length<=900000) (hx:IsP w (fun _=>True) (paL x s) x):Calls Tryz.prog 94 #[paOf x s] w (YesMade (patFormD x) w):=by
 have HX:=zb hx;have HNM:Hid (∀ W,Calls Tryz.prog 152 #[.string ⟨x.hd.name.toArray⟩] W (YesMade (isNam x.hd.name) W)):=zb fun W=>zff ⟨x.hd.name.toArray⟩ W (by rw[xN];omega);have HLM:Hid (∀ l∈x.hd.labels,∀ W,Calls Tryz.prog 152 #[.string ⟨l.toArray⟩] W (YesMade (isNam l) W)):=zb fun l h W=>zff ⟨l.toArray⟩ W (by rw[xN];have:=hl l h;omega);have HUP:Hid (∀ W,Calls Tryz.prog 154 #[.string ⟨x.hd.name.toArray⟩] W (YesMade (isUpN x.hd.name) W)):=zb fun W=>t_Upper ⟨x.hd.name.toArray⟩ W (by rw[xN];exact hn);have HE:=zb (zfm x);have HAT:Hid (∀(k:Int) (b:Bool),x.hd.kind=k->((decide (k=2∨k=7∨k=8)||decide (x.hd.name=[]))&&((decide (k=3∨k=5)||decide (x.hd.n=0))&&((decide (k=4)||decide (x.hd.s=[])) &&
 (decide ((x.hd.labels.length:Int)=if k=9 then(x.hd.labels.length:Int) else 0)&&(decide ((x.args.length:Int)=if k=9 then(x.hd.labels.length:Int) else if k=8 then 1 else 0) &&
 (if k=1∨k=6∨k=4 then true
  else if k=2 then isNam x.hd.name&&decide (x.hd.name≠[95])
  else if k=7∨k=8 then isUpN x.hd.name
  else if k=3 then decide (x.hd.n<=4611686018427387903)&&decide (-4611686018427387903<=x.hd.n)
  else if k=5 then decide (x.hd.n=0)||decide (x.hd.n=1)
  else if k=9 then x.hd.labels.all isNam
  else false))))))=b->patFormD x=b):=zb fun k b h h'=>zgt h h'
 clear hx hn hl;unfold paOf
 go_enter Tryz.func94, Tryz.ntmps94
 go_upto_region 1 with fail
 obtain⟨W0,hW0⟩:∃ W,w.alloc (.cells #[.int .i64 x.hd.kind,.int .i64 x.hd.pos,.string ⟨x.hd.name.toArray⟩,.int .i64 x.hd.n,.string ⟨x.hd.s.toArray⟩,.slice s.la x.hd.labels.length s.lc,.slice s.aa x.args.length s.ac] 39 (0,0))=W:=⟨_,rfl⟩;have HB0:Hid (Below w.heap.size w W0):=zb (by rw[← hW0];exact zj _);have HPX:Hid (PaBox W0 w.heap.size x s):=zb (by rw[← hW0];exact zA w _ _ rfl);rw[hW0];clear hW0;generalize hbx:w.heap.size=bx at HPX ⊢;clear hbx;obtain⟨a0,a1,a2,a3,a4,a5,a6,af⟩:=Box7.cells HPX.out;have al:=HPX.out.lt;have HX1:=zb (HX.out.below HB0.out);clear HX af;generalize isNam x.hd.name=nb at *;generalize isUpN x.hd.name=ub at *;by_cases hg:x.hd.kind=1∨x.hd.kind=6∨x.hd.kind=4∨x.hd.kind=7∨x.hd.kind=8∨x.hd.kind=5
 . rcases hg with hk | hk | hk | hk | hk | hk
   all_goals
    have HR:=HAT.out _ _ hk rfl;simp only[reduceIte,Int.reduceEq,or_false,or_true,false_or,true_or,decide_true,decide_false,Bool.true_or,Bool.false_or,Bool.true_and] at HR;have HR:=zb HR;clear HE HAT;rw[hk] at a0
    go_wp2_with (first
     | (go_at_call 152; refine(HNM.out _).mono ?_;rintro e w3 ⟨rfl,hb3⟩;have HB3:=zb (HB0.out.trans (hb3.mono HB0.out.size));have HP3:=zb (Box7.below HPX.out hb3);clear hb3;obtain⟨z0,z1,z2,z3,z4,z5,z6,zf⟩:=Box7.cells HP3.out)
     | (go_at_call 154; refine(HUP.out _).mono ?_;rintro e w3 ⟨rfl,hb3⟩;have HB3:=zb (HB0.out.trans (hb3.mono HB0.out.size));clear hb3))
    all_goals
     go_ret;refine⟨?_,by first | exact HB3.out | exact HB0.out⟩
     rw[HR.out];show Ending.returned (.bool _)=Ending.returned (.bool _)
     first
      | rfl
      | (congr 2;rw[Bool.eq_iff_iff];simp [*];done)
      | (congr 2;rw[Bool.eq_iff_iff];simp only[bne_iff_ne,ne_eq] at *;simp_all;done)
      | (congr 2;rw[Bool.eq_iff_iff];simp_all;done)
      | (congr 2;simp_all;done)
 have e1:(x.hd.kind == 1)=false:=by rw[beq_eq_false_iff_ne];omega
 have e6:(x.hd.kind == 6)=false:=by rw[beq_eq_false_iff_ne];omega
 have e4:(x.hd.kind == 4)=false:=by rw[beq_eq_false_iff_ne];omega
 have e7:(x.hd.kind == 7)=false:=by rw[beq_eq_false_iff_ne];omega
 have e8:(x.hd.kind == 8)=false:=by rw[beq_eq_false_iff_ne];omega
 have e5:(x.hd.kind == 5)=false:=by rw[beq_eq_false_iff_ne];omega
 by_cases hk:x.hd.kind=2
 . have HR:Hid (patFormD x=(decide (x.hd.n=0)&&(decide (x.hd.s=[])&&(decide ((x.hd.labels.length:Int)=0)&&(decide ((x.args.length:Int)=0)&&(nb&&decide (x.hd.name≠[95]))))))):=zb (HAT.out 2 (decide (x.hd.n=0)&&(decide (x.hd.s=[])&&(decide ((x.hd.labels.length:Int)=0)&&(decide ((x.args.length:Int)=0)&&(nb&&decide (x.hd.name≠[95])))))) hk rfl);clear HE HAT;rw[hk] at a0;cases nb
   all_goals
    go_wp2_with (first
     | (go_at_call 152; refine(HNM.out _).mono ?_;rintro e w3 ⟨rfl,hb3⟩;have HB3:=zb (HB0.out.trans (hb3.mono HB0.out.size));have HP3:=zb (Box7.below HPX.out hb3);clear hb3;obtain⟨z0,z1,z2,z3,z4,z5,z6,zf⟩:=Box7.cells HP3.out)
     | (go_at_call 154; refine(HUP.out _).mono ?_;rintro e w3 ⟨rfl,hb3⟩;have HB3:=zb (HB0.out.trans (hb3.mono HB0.out.size));clear hb3))
    all_goals
     go_ret;refine⟨?_,by first | exact HB3.out | exact HB0.out⟩
     rw[HR.out];show Ending.returned (.bool _)=Ending.returned (.bool _)
     first
      | rfl
      | (congr 2;rw[Bool.eq_iff_iff];simp [*];done)
      | (congr 2;rw[Bool.eq_iff_iff];simp only[bne_iff_ne,ne_eq] at *;simp_all;done)
      | (congr 2;rw[Bool.eq_iff_iff];simp_all;done)
      | (congr 2;simp_all;done)
 have e2:(x.hd.kind == 2)=false:=by rw[beq_eq_false_iff_ne];exact hk
 by_cases hk:x.hd.kind=3
 . have HR:Hid (patFormD x=(decide (x.hd.name=[])&&(decide (x.hd.s=[])&&(decide ((x.hd.labels.length:Int)=0)&&(decide ((x.args.length:Int)=0)&&(decide (x.hd.n<=4611686018427387903)&&decide (-4611686018427387903<=x.hd.n))))))):=zb (HAT.out 3 (decide (x.hd.name=[])&&(decide (x.hd.s=[])&&(decide ((x.hd.labels.length:Int)=0)&&(decide ((x.args.length:Int)=0)&&(decide (x.hd.n<=4611686018427387903)&&decide (-4611686018427387903<=x.hd.n)))))) hk rfl);clear HE HAT;rw[hk] at a0;have hc:(x.hd.n<=4611686018427387903/\-4611686018427387903<=x.hd.n)∨(x.hd.n<=4611686018427387903/\¬-4611686018427387903<=x.hd.n)∨¬x.hd.n<=4611686018427387903:=by omega
   rcases hc with⟨t1,t2⟩ | ⟨t1,t2⟩ | t1
   all_goals
    first | (have d1:decide (x.hd.n<=4611686018427387903)=true:=decide_eq_true t1) | (have d1:decide (x.hd.n<=4611686018427387903)=false:=decide_eq_false t1)
    try first | (have d2:decide (-4611686018427387903<=x.hd.n)=true:=decide_eq_true t2) | (have d2:decide (-4611686018427387903<=x.hd.n)=false:=decide_eq_false t2)
    go_wp2_with (first
     | (go_at_call 152; refine(HNM.out _).mono ?_;rintro e w3 ⟨rfl,hb3⟩;have HB3:=zb (HB0.out.trans (hb3.mono HB0.out.size));have HP3:=zb (Box7.below HPX.out hb3);clear hb3;obtain⟨z0,z1,z2,z3,z4,z5,z6,zf⟩:=Box7.cells HP3.out)
     | (go_at_call 154; refine(HUP.out _).mono ?_;rintro e w3 ⟨rfl,hb3⟩;have HB3:=zb (HB0.out.trans (hb3.mono HB0.out.size));clear hb3))
    all_goals
     go_ret;refine⟨?_,by first | exact HB3.out | exact HB0.out⟩
     rw[HR.out];show Ending.returned (.bool _)=Ending.returned (.bool _)
     first
      | rfl
      | (congr 2;rw[Bool.eq_iff_iff];simp [*];done)
      | (congr 2;rw[Bool.eq_iff_iff];simp only[bne_iff_ne,ne_eq] at *;simp_all;done)
      | (congr 2;rw[Bool.eq_iff_iff];simp_all;done)
      | (congr 2;simp_all;done)
 have e3:(x.hd.kind == 3)=false:=by rw[beq_eq_false_iff_ne];exact hk
 by_cases hk:x.hd.kind=9
 . have HR:Hid (patFormD x=(decide (x.hd.name=[])&&(decide (x.hd.n=0)&&(decide (x.hd.s=[])&&(decide ((x.hd.labels.length:Int)=(x.hd.labels.length:Int))&&(decide ((x.args.length:Int)=(x.hd.labels.length:Int))&&(x.hd.labels.all isNam))))))):=zb (HAT.out 9 (decide (x.hd.name=[])&&(decide (x.hd.n=0)&&(decide (x.hd.s=[])&&(decide ((x.hd.labels.length:Int)=(x.hd.labels.length:Int))&&(decide ((x.args.length:Int)=(x.hd.labels.length:Int))&&(x.hd.labels.all isNam)))))) hk rfl);clear HE HAT;rw[hk] at a0;have HLE:=HX1.out.look.2.1;have HZ:=zb (Below.refl W0.heap.size W0);by_cases hq:x.hd.name=[]/\x.hd.n=0/\x.hd.s=[]/\(x.args.length:Int)=(x.hd.labels.length:Int)
   . obtain⟨q1,q2,q3,q4⟩:=hq;have HRA:Hid (patFormD x=x.hd.labels.all isNam):=zb (by rw[HR.out];simp [q1,q2,q3,q4]);clear HR;rw[q1] at a2;rw[q2] at a3;rw[q3] at a4;have q5:x.args.length=x.hd.labels.length:=by omega
     rw[q5] at a6;clear q1 q2 q3 q4 q5;have HK:=zb hk;clear hk
     go_upto_region 28 with fail
     clear a0 a1 a2 a3 a4 a5 a6 al
     go_loopw [7] (fun vi wr=>∃ k:Nat,k<=x.hd.labels.length/\vi=.int .i64 k/\Hid (Below W0.heap.size W0 wr)/\Hid ((x.hd.labels.take k).all isNam=true)) (fun vi _=>x.hd.labels.length-(intOf vi).toNat)
     case atStart=>exact⟨0,Nat.zero_le _,by go_num,HZ,zb rfl⟩
     case round =>
      clear HZ;obtain⟨k,hk1,rfl,HV,HAL⟩:=hrel;obtain⟨a0,a1,a2,a3,a4,a5,a6,af⟩:=Box7.cells (Box7.below HPX.out HV.out);have al:=Box7.lt (Box7.below HPX.out HV.out);clear af;rw[HK.out] at a0;by_cases hk2:k<x.hd.labels.length
      . have h2:decide ((k:Int)<(x.hd.labels.length:Int))=true:=decide_eq_true (by omega);have h3:(k:Int)<(x.hd.labels.length:Int):=by omega
        have h4:(0:Int)<=(k:Int):=by omega
        have E5:IntKind.i64.wrap ((k:Int)+1)=(k:Int)+1:=by rw[IntKind.wrap_i64];have:=HLE.2;omega
        obtain⟨lb,hlb⟩:∃ a,x.hd.labels[k]? = some a:=⟨_,List.getElem?_eq_getElem hk2⟩;obtain⟨hlc,gl,ol,hla,hgl,hcl⟩:=rf ((HX1.out.below HV.out).look.2.1) rfl hlb;rw[hla] at a5;have HC:=zb (HLM.out lb (List.mem_of_getElem? hlb));have HN:Hid (∀ b,isNam lb=b->(b=true->(x.hd.labels.take (k+1)).all isNam=true)/\(b=false->x.hd.labels.all isNam=false)):=zb (fun b hb=>⟨fun h=>by
         rw[List.take_add_one,hlb,List.all_append,HAL.out];simp [hb,h],fun h=>by
         rw[List.all_eq_false];exact⟨lb,List.mem_of_getElem? hlb,by rw[hb,h];decide⟩⟩)
        clear hla hlb HAL;obtain⟨b,hb⟩:∃ b,isNam lb=b:=⟨_,rfl⟩;have HN:=zb (HN.out b hb);rw[hb] at HC;clear hb
        go_wp2_with fail
        refine(HC.out _).mono ?_;rintro e w6 ⟨rfl,hb6⟩;have HV6:=zb (HV.out.trans (hb6.mono HV.out.size));clear hb6 HC;cases b
        . have HR:Hid (patFormD x=false):=zb (by rw[HRA.out,HN.out.2 rfl]);clear HN
          go_wp2_with fail
          go_ret;exact⟨by rw[HR.out];rfl,HB0.out.trans (HV6.out.mono HB0.out.size)⟩
        . have HN2:=zb (HN.out.1 rfl);clear HN
          go_wp2_with fail
          go_roundw
          case rel=>exact⟨k+1,by omega,by go_num,HV6,HN2⟩
          case measure=>simp [intOf];omega
      . have h2:decide ((k:Int)<(x.hd.labels.length:Int))=false:=decide_eq_false (by omega);have h3:¬(k:Int)<(x.hd.labels.length:Int):=by omega
        have HR:Hid (patFormD x=true):=zb (by
         have h9:=HAL.out;rw[List.take_of_length_le (by omega)] at h9;rw[HRA.out,h9])
        clear HAL HRA
        go_wp2_with fail
        go_ret;exact⟨by rw[HR.out];rfl,HB0.out.trans (HV.out.mono HB0.out.size)⟩
   . have HRB:Hid (patFormD x=false):=zb (by
      rw[HR.out];by_cases q1:x.hd.name=[]
      . by_cases q2:x.hd.n=0
        . by_cases q3:x.hd.s=[]
          . by_cases q4:(x.args.length:Int)=(x.hd.labels.length:Int)
            . exact absurd ⟨q1,q2,q3,q4⟩ hq
            . simp [q4]
          . simp [q3]
        . simp [q2]
      . simp [q1])
     clear HR;have HR:=HRB;clear HRB;have hq:¬x.hd.name=[]∨(x.hd.name=[]/\¬x.hd.n=0)∨(x.hd.name=[]/\x.hd.n=0/\¬x.hd.s=[])∨(x.hd.name=[]/\x.hd.n=0/\x.hd.s=[]/\¬x.args.length=x.hd.labels.length):=by
      by_cases q1:x.hd.name=[]
      . by_cases q2:x.hd.n=0
        . by_cases q3:x.hd.s=[]
          . exact .inr (.inr (.inr ⟨q1,q2,q3,fun e=>hq ⟨q1,q2,q3,by omega⟩⟩))
          . exact .inr (.inr (.inl ⟨q1,q2,q3⟩))
        . exact .inr (.inl ⟨q1,q2⟩)
      . exact .inl q1
     rcases hq with q1 | ⟨q1,q2⟩ | ⟨q1,q2,q3⟩ | ⟨q1,q2,q3,q4⟩
     . go_wp2_with fail
       all_goals
        go_ret;refine⟨?_,by first | exact HB3.out | exact HB0.out⟩
        rw[HR.out];show Ending.returned (.bool _)=Ending.returned (.bool _)
        first
         | rfl
         | (congr 2;rw[Bool.eq_iff_iff];simp [*];done)
         | (congr 2;rw[Bool.eq_iff_iff];simp only[bne_iff_ne,ne_eq] at *;simp_all;done)
         | (congr 2;rw[Bool.eq_iff_iff];simp_all;done)
         | (congr 2;simp_all;done)
     . rw[q1] at a2
       go_wp2_with fail
       all_goals
        go_ret;refine⟨?_,by first | exact HB3.out | exact HB0.out⟩
        rw[HR.out];show Ending.returned (.bool _)=Ending.returned (.bool _)
        first
         | rfl
         | (congr 2;rw[Bool.eq_iff_iff];simp [*];done)
         | (congr 2;rw[Bool.eq_iff_iff];simp only[bne_iff_ne,ne_eq] at *;simp_all;done)
         | (congr 2;rw[Bool.eq_iff_iff];simp_all;done)
         | (congr 2;simp_all;done)
     . rw[q1] at a2;rw[q2] at a3
       go_wp2_with fail
       all_goals
        go_ret;refine⟨?_,by first | exact HB3.out | exact HB0.out⟩
        rw[HR.out];show Ending.returned (.bool _)=Ending.returned (.bool _)
        first
         | rfl
         | (congr 2;rw[Bool.eq_iff_iff];simp [*];done)
         | (congr 2;rw[Bool.eq_iff_iff];simp only[bne_iff_ne,ne_eq] at *;simp_all;done)
         | (congr 2;rw[Bool.eq_iff_iff];simp_all;done)
         | (congr 2;simp_all;done)
     . rw[q1] at a2;rw[q2] at a3;rw[q3] at a4;have q5:((x.args.length:Int) == (x.hd.labels.length:Int))=false:=by rw[beq_eq_false_iff_ne];omega
       have q7:¬(x.args.length:Int)=(x.hd.labels.length:Int):=by omega
       have q6:((x.args.length:Int) != (x.hd.labels.length:Int))=true:=by rw[bne,q5];rfl
       go_wp2_with fail
       all_goals
        go_ret;refine⟨?_,by first | exact HB3.out | exact HB0.out⟩
        rw[HR.out];show Ending.returned (.bool _)=Ending.returned (.bool _)
        first
         | rfl
         | (congr 2;rw[Bool.eq_iff_iff];simp [*];done)
         | (congr 2;rw[Bool.eq_iff_iff];simp only[bne_iff_ne,ne_eq] at *;simp_all;done)
         | (congr 2;rw[Bool.eq_iff_iff];simp_all;done)
         | (congr 2;simp_all;done)
 have e9:(x.hd.kind == 9)=false:=by rw[beq_eq_false_iff_ne];exact hk
 have HR:Hid (patFormD x=false):=zb (by
  rw[HE.out];simp only[beq_eq_false_iff_ne,ne_eq] at *;simp [*])
 clear HE HAT
 go_wp2_with (first
  | (go_at_call 152; refine(HNM.out _).mono ?_;rintro e w3 ⟨rfl,hb3⟩;have HB3:=zb (HB0.out.trans (hb3.mono HB0.out.size));have HP3:=zb (Box7.below HPX.out hb3);clear hb3;obtain⟨z0,z1,z2,z3,z4,z5,z6,zf⟩:=Box7.cells HP3.out)
  | (go_at_call 154; refine(HUP.out _).mono ?_;rintro e w3 ⟨rfl,hb3⟩;have HB3:=zb (HB0.out.trans (hb3.mono HB0.out.size));clear hb3))
 all_goals
  go_ret;refine⟨?_,by first | exact HB3.out | exact HB0.out⟩
  rw[HR.out];show Ending.returned (.bool _)=Ending.returned (.bool _)
  first
   | rfl
   | (congr 2;rw[Bool.eq_iff_iff];simp [*];done)
   | (congr 2;rw[Bool.eq_iff_iff];simp only[bne_iff_ne,ne_eq] at *;simp_all;done)
   | (congr 2;rw[Bool.eq_iff_iff];simp_all;done)
   | (congr 2;simp_all;done)
