/-
  The walk of the document's form.
-/
import Derived.Test.YtblonfjlcfjodaaGreatDoorGTr
import Derived.Test.YtblonfjlcfjodaaGreatDoorGLng
namespace Go.Proofs.YtblonfjlcfjodaaGreatDoor
set_option linter.unusedSimpArgs false
set_option linter.unusedVariables false
set_option maxRecDepth 100000
set_option maxHeartbeats 4000000
open Go.RowKit
theorem tz {w wx:World} {n:Nat} (h:Below n w wx) (k:Nat):Below n w (wx.drewN k):=⟨h.os,h.tape,h.output,h.size,h.block⟩
theorem zfU (x:Nd):formD x=(if x.hd.kind=1 then plainD true false false 0 0 0 x&&isNam x.hd.name
 else if x.hd.kind=6 then plainD true false false 0 0 0 x&&isUpN x.hd.name
 else if x.hd.kind=2 then plainD false true false 0 0 0 x&&(decide (0<=x.hd.n)&&decide (x.hd.n<=4611686018427387903))
 else if x.hd.kind=4 then plainD false true false 0 0 0 x&&(decide (x.hd.n=0)||decide (x.hd.n=1))
 else if x.hd.kind=3 then plainD false false true 0 0 0 x
 else if x.hd.kind=5 then plainD false false false 0 0 0 x
 else if x.hd.kind=7∨x.hd.kind=14 then plainD true false false 0 1 0 x&&isNam x.hd.name
 else if x.hd.kind=15 then plainD true false false 0 1 0 x&&isUpN x.hd.name
 else if x.hd.kind=18 then plainD false false false 0 1 0 x
 else if x.hd.kind=8∨x.hd.kind=20∨x.hd.kind=21∨x.hd.kind=22 then plainD false false false 0 2 0 x
 else if x.hd.kind=9∨x.hd.kind=13 then plainD true false false 0 2 0 x&&isNam x.hd.name
 else if x.hd.kind=10 then plainD true false false 0 2 0 x&&(isNam x.hd.name&&(match x.args with | []=>false | a::_=>decide (a.hd.kind=7)))
 else if x.hd.kind=11 then plainD false false false 0 3 0 x
 else if x.hd.kind=12 then x.hd.labels.all isNam&&plainD false false false (x.hd.labels.length:Int) (x.hd.labels.length:Int) 0 x
 else if x.hd.kind=16∨x.hd.kind=17 then decide (0<x.arms.length)&&plainD false false false 0 1 (x.arms.length:Int) x
 else if x.hd.kind=19 then decide (0<manyD x.hd.n)&&plainD false true false 0 (manyD x.hd.n) 0 x
 else false):=by
 obtain⟨⟨_,_,_,_,_,_⟩,_,_⟩:=x;rfl
theorem formD_at {x:Nd} {k:Int} {b:Bool} (hk:x.hd.kind=k) (h:(if k=1 then plainD true false false 0 0 0 x&&isNam x.hd.name
 else if k=6 then plainD true false false 0 0 0 x&&isUpN x.hd.name
 else if k=2 then plainD false true false 0 0 0 x&&(decide (0<=x.hd.n)&&decide (x.hd.n<=4611686018427387903))
 else if k=4 then plainD false true false 0 0 0 x&&(decide (x.hd.n=0)||decide (x.hd.n=1))
 else if k=3 then plainD false false true 0 0 0 x
 else if k=5 then plainD false false false 0 0 0 x
 else if k=7∨k=14 then plainD true false false 0 1 0 x&&isNam x.hd.name
 else if k=15 then plainD true false false 0 1 0 x&&isUpN x.hd.name
 else if k=18 then plainD false false false 0 1 0 x
 else if k=8∨k=20∨k=21∨k=22 then plainD false false false 0 2 0 x
 else if k=9∨k=13 then plainD true false false 0 2 0 x&&isNam x.hd.name
 else if k=10 then plainD true false false 0 2 0 x&&(isNam x.hd.name&&(match x.args with | []=>false | a::_=>decide (a.hd.kind=7)))
 else if k=11 then plainD false false false 0 3 0 x
 else if k=12 then x.hd.labels.all isNam&&plainD false false false (x.hd.labels.length:Int) (x.hd.labels.length:Int) 0 x
 else if k=16∨k=17 then decide (0<x.arms.length)&&plainD false false false 0 1 (x.arms.length:Int) x
 else if k=19 then decide (0<manyD x.hd.n)&&plainD false true false 0 (manyD x.hd.n) 0 x
 else false)=b):formD x=b:=by
 rw[zfU,hk];exact h
theorem plain_len {b1 b2 b3:Bool} {la ag am:Int} {x:Nd} (h:plainD b1 b2 b3 la ag am x=true):(x.args.length:Int)=ag:=by
 rw[un] at h;simp only[Bool.and_eq_true,decide_eq_true_eq] at h;exact h.2.2.2.2.1
theorem t_form (x:Nd) (s:Sl) (w:World) (hn:x.hd.name.length<=900000) (hl:∀ l∈x.hd.labels,l.length<=900000) (hx:IsE w (fun _=>True) (exL x s) x):Calls Tryz.prog 85 #[exOf x s] w (YesMade (formD x) w):=by
 have HX:=zb hx;have HNM:Hid (∀ W,Calls Tryz.prog 152 #[.string ⟨x.hd.name.toArray⟩] W (YesMade (isNam x.hd.name) W)):=zb fun W=>zff ⟨x.hd.name.toArray⟩ W (by rw[xN];omega);have HLM:Hid (∀ l∈x.hd.labels,∀ W,Calls Tryz.prog 152 #[.string ⟨l.toArray⟩] W (YesMade (isNam l) W)):=zb fun l h W=>zff ⟨l.toArray⟩ W (by rw[xN];have:=hl l h;omega);have HUP:Hid (∀ W,Calls Tryz.prog 154 #[.string ⟨x.hd.name.toArray⟩] W (YesMade (isUpN x.hd.name) W)):=zb fun W=>t_Upper ⟨x.hd.name.toArray⟩ W (by rw[xN];exact hn);have HPL:Hid (∀(b1 b2 b3:Bool) (la ag am:Int) (W:World),((b1=true/\b2=false/\b3=false)∨(b1=false/\b2=true/\b3=false)∨(b1=false/\b2=false/\b3=true)∨(b1=false/\b2=false/\b3=false))->Calls Tryz.prog 153 #[.bool b1,.bool b2,.bool b3,.int .i64 la,.int .i64 ag,.int .i64 am,exOf x s] W (YesMade (plainD b1 b2 b3 la ag am x) W)):=zb fun b1 b2 b3 la ag am W hb=>t_plain b1 b2 b3 la ag am x s W hb;have HE:=zb (zfU x);have HAT:Hid (∀(k:Int) (b:Bool),x.hd.kind=k->(if k=1 then plainD true false false 0 0 0 x&&isNam x.hd.name
 else if k=6 then plainD true false false 0 0 0 x&&isUpN x.hd.name
 else if k=2 then plainD false true false 0 0 0 x&&(decide (0<=x.hd.n)&&decide (x.hd.n<=4611686018427387903))
 else if k=4 then plainD false true false 0 0 0 x&&(decide (x.hd.n=0)||decide (x.hd.n=1))
 else if k=3 then plainD false false true 0 0 0 x
 else if k=5 then plainD false false false 0 0 0 x
 else if k=7∨k=14 then plainD true false false 0 1 0 x&&isNam x.hd.name
 else if k=15 then plainD true false false 0 1 0 x&&isUpN x.hd.name
 else if k=18 then plainD false false false 0 1 0 x
 else if k=8∨k=20∨k=21∨k=22 then plainD false false false 0 2 0 x
 else if k=9∨k=13 then plainD true false false 0 2 0 x&&isNam x.hd.name
 else if k=10 then plainD true false false 0 2 0 x&&(isNam x.hd.name&&(match x.args with | []=>false | a::_=>decide (a.hd.kind=7)))
 else if k=11 then plainD false false false 0 3 0 x
 else if k=12 then x.hd.labels.all isNam&&plainD false false false (x.hd.labels.length:Int) (x.hd.labels.length:Int) 0 x
 else if k=16∨k=17 then decide (0<x.arms.length)&&plainD false false false 0 1 (x.arms.length:Int) x
 else if k=19 then decide (0<manyD x.hd.n)&&plainD false true false 0 (manyD x.hd.n) 0 x
 else false)=b->formD x=b):=zb fun k b h h'=>formD_at h h'
 have HLN:Hid (∀(b1 b2 b3:Bool) (la ag am:Int),plainD b1 b2 b3 la ag am x=true->(x.args.length:Int)=ag):=zb fun _ _ _ _ _ _ h=>plain_len h;clear hx hn hl;unfold exOf exV at HPL;unfold exOf exV
 go_enter Tryz.func85, Tryz.ntmps85
 go_upto_region 1 with fail
 obtain⟨W0,hW0⟩:∃ W,w.alloc (.cells #[.int .i64 x.hd.kind,.int .i64 x.hd.pos,.string ⟨x.hd.name.toArray⟩,.int .i64 x.hd.n,.string ⟨x.hd.s.toArray⟩,.slice s.la x.hd.labels.length s.lc,.slice s.aa x.args.length s.ac,.slice s.ra x.arms.length s.rc] 27 (0,0))=W:=⟨_,rfl⟩;have HB0:Hid (Below w.heap.size w W0):=zb (by rw[← hW0];exact zj _);have HPX:Hid (ExBox W0 w.heap.size x s):=zb (by rw[← hW0];exact zA w _ _ rfl);rw[hW0];clear hW0;generalize hbx:w.heap.size=bx at HPX ⊢;clear hbx;obtain⟨a0,a1,a2,a3,a4,a5,a6,a7,af⟩:=Box8.cells HPX.out;have al:=HPX.out.lt;clear af
 go_upto_region 1 with fail
 go_wp2_with fail
 refine(HNM.out _).mono ?_;rintro e w1 ⟨rfl,hb1⟩;have HB1:=zb (HB0.out.trans (hb1.mono HB0.out.size));have HP1:=zb (Box8.below HPX.out hb1);clear hb1 HPX a0 a1 a2 a3 a4 a5 a6 a7 al HNM;obtain⟨a0,a1,a2,a3,a4,a5,a6,a7,af⟩:=Box8.cells HP1.out;have al:=HP1.out.lt;have HX1:=zb (HX.out.below HB1.out);clear HX af HB0;generalize isNam x.hd.name=nb at *;generalize isUpN x.hd.name=ub at *;by_cases hg:x.hd.kind=1∨x.hd.kind=7∨x.hd.kind=14∨x.hd.kind=9∨x.hd.kind=13
 . rcases hg with hk | hk | hk | hk | hk
   all_goals
    have HR:=HAT.out _ _ hk rfl;simp only[reduceIte,Int.reduceEq,or_false,or_true,false_or,true_or] at HR;have HR:=zb HR;clear HE HAT;rw[hk] at a0 HPL
    go_wp2_with fail
    refine(HPL.out _ _ _ _ _ _ _ (by simp)).mono ?_;rintro e w2 ⟨rfl,hb2⟩;have HB2:=zb (HB1.out.trans (hb2.mono HB1.out.size));have HP2:=zb (Box8.below HP1.out hb2);clear hb2 HPL HP1 a0 a1 a2 a3 a4 a5 a6 a7 al;obtain⟨a0,a1,a2,a3,a4,a5,a6,a7,af⟩:=Box8.cells HP2.out;have al:=HP2.out.lt;clear af;generalize plainD _ _ _ _ _ _ x=pb at *;cases pb
    all_goals
     go_wp2_with fail
     go_ret;refine⟨?_,HB2.out⟩;rw[HR.out];show Ending.returned (.bool _)=Ending.returned (.bool _)
     first
      | rfl
      | (congr 2;rw[Bool.eq_iff_iff];simp [*])
      | (congr 2;simp [*])
 by_cases hg:x.hd.kind=6∨x.hd.kind=15
 . rcases hg with hk | hk
   all_goals
    have HR:=HAT.out _ _ hk rfl;simp only[reduceIte,Int.reduceEq,or_false,or_true,false_or,true_or] at HR;have HR:=zb HR;clear HE HAT;rw[hk] at a0 HPL
    go_wp2_with fail
    refine(HPL.out _ _ _ _ _ _ _ (by simp)).mono ?_;rintro e w2 ⟨rfl,hb2⟩;have HB2:=zb (HB1.out.trans (hb2.mono HB1.out.size));have HP2:=zb (Box8.below HP1.out hb2);clear hb2 HPL HP1 a0 a1 a2 a3 a4 a5 a6 a7 al;obtain⟨a0,a1,a2,a3,a4,a5,a6,a7,af⟩:=Box8.cells HP2.out;have al:=HP2.out.lt;clear af;generalize plainD _ _ _ _ _ _ x=pb at *;cases pb
    . go_wp2_with fail
      go_ret;refine⟨?_,HB2.out⟩;rw[HR.out];show Ending.returned (.bool _)=Ending.returned (.bool _)
      first
       | rfl
       | (congr 2;rw[Bool.eq_iff_iff];simp [*])
       | (congr 2;simp [*])
    . go_wp2_with fail
      refine(HUP.out _).mono ?_;rintro e w3 ⟨rfl,hb3⟩;have HB3:=zb (HB2.out.trans (hb3.mono HB2.out.size));clear hb3
      go_wp2_with fail
      go_ret;refine⟨?_,HB3.out⟩;rw[HR.out];show Ending.returned (.bool _)=Ending.returned (.bool _)
      first
       | rfl
       | (congr 2;rw[Bool.eq_iff_iff];simp [*])
       | (congr 2;simp [*])
 by_cases hg:x.hd.kind=3∨x.hd.kind=5∨x.hd.kind=18∨x.hd.kind=8∨x.hd.kind=20∨x.hd.kind=21∨x.hd.kind=22∨x.hd.kind=11
 . rcases hg with hk | hk | hk | hk | hk | hk | hk | hk
   all_goals
    have HR:=HAT.out _ _ hk rfl;simp only[reduceIte,Int.reduceEq,or_false,or_true,false_or,true_or] at HR;have HR:=zb HR;clear HE HAT;rw[hk] at a0 HPL
    go_wp2_with fail
    refine(HPL.out _ _ _ _ _ _ _ (by simp)).mono ?_;rintro e w2 ⟨rfl,hb2⟩;have HB2:=zb (HB1.out.trans (hb2.mono HB1.out.size));have HP2:=zb (Box8.below HP1.out hb2);clear hb2 HPL HP1 a0 a1 a2 a3 a4 a5 a6 a7 al;obtain⟨a0,a1,a2,a3,a4,a5,a6,a7,af⟩:=Box8.cells HP2.out;have al:=HP2.out.lt;clear af;generalize plainD _ _ _ _ _ _ x=pb at *
    go_wp2_with fail
    go_ret;refine⟨?_,HB2.out⟩;rw[HR.out];show Ending.returned (.bool _)=Ending.returned (.bool _)
    first
     | rfl
     | (congr 2;rw[Bool.eq_iff_iff];simp [*])
     | (congr 2;simp [*])
 by_cases hg:x.hd.kind=2
 . have hk:=hg;have HR:Hid (formD x=(plainD false true false 0 0 0 x&&(decide (0<=x.hd.n)&&decide (x.hd.n<=4611686018427387903)))):=zb (HAT.out 2 (plainD false true false 0 0 0 x&&(decide (0<=x.hd.n)&&decide (x.hd.n<=4611686018427387903))) hk rfl);clear HE HAT hg;rw[hk] at a0 HPL
   go_wp2_with fail
   refine(HPL.out _ _ _ _ _ _ _ (by simp)).mono ?_;rintro e w2 ⟨rfl,hb2⟩;have HB2:=zb (HB1.out.trans (hb2.mono HB1.out.size));have HP2:=zb (Box8.below HP1.out hb2);clear hb2 HPL HP1 a0 a1 a2 a3 a4 a5 a6 a7 al;obtain⟨a0,a1,a2,a3,a4,a5,a6,a7,af⟩:=Box8.cells HP2.out;have al:=HP2.out.lt;clear af;generalize plainD _ _ _ _ _ _ x=pb at *;cases pb
   . go_wp2_with fail
     go_ret;refine⟨?_,HB2.out⟩;rw[HR.out];show Ending.returned (.bool _)=Ending.returned (.bool _)
     first
      | rfl
      | (congr 2;rw[Bool.eq_iff_iff];simp [*])
      | (congr 2;simp [*])
   . have hc:(0<=x.hd.n/\x.hd.n<=4611686018427387903)∨(0<=x.hd.n/\¬x.hd.n<=4611686018427387903)∨¬0<=x.hd.n:=by omega
     rcases hc with⟨t1,t2⟩ | ⟨t1,t2⟩ | t1
     . have HR:Hid (formD x=true):=zb (by rw[HR.out,decide_eq_true t1,decide_eq_true t2];rfl);have d1:decide (0<=x.hd.n)=true:=decide_eq_true t1;have d2:decide (x.hd.n<=4611686018427387903)=true:=decide_eq_true t2
       go_wp2_with fail
       go_ret;refine⟨?_,HB2.out⟩;rw[HR.out];show Ending.returned (.bool _)=Ending.returned (.bool _)
       first
        | rfl
        | (congr 2;rw[Bool.eq_iff_iff];simp [*])
        | (congr 2;simp [*])
     . have HR:Hid (formD x=false):=zb (by rw[HR.out,decide_eq_true t1,decide_eq_false t2];rfl);have d1:decide (0<=x.hd.n)=true:=decide_eq_true t1;have d2:decide (x.hd.n<=4611686018427387903)=false:=decide_eq_false t2
       go_wp2_with fail
       go_ret;refine⟨?_,HB2.out⟩;rw[HR.out];show Ending.returned (.bool _)=Ending.returned (.bool _)
       first
        | rfl
        | (congr 2;rw[Bool.eq_iff_iff];simp [*])
        | (congr 2;simp [*])
     . have HR:Hid (formD x=false):=zb (by rw[HR.out,decide_eq_false t1];rfl);have d1:decide (0<=x.hd.n)=false:=decide_eq_false t1
       go_wp2_with fail
       go_ret;refine⟨?_,HB2.out⟩;rw[HR.out];show Ending.returned (.bool _)=Ending.returned (.bool _)
       first
        | rfl
        | (congr 2;rw[Bool.eq_iff_iff];simp [*])
        | (congr 2;simp [*])
 by_cases hg:x.hd.kind=4
 . have hk:=hg;have HR:Hid (formD x=(plainD false true false 0 0 0 x&&(decide (x.hd.n=0)||decide (x.hd.n=1)))):=zb (HAT.out 4 (plainD false true false 0 0 0 x&&(decide (x.hd.n=0)||decide (x.hd.n=1))) hk rfl);clear HE HAT hg;rw[hk] at a0 HPL
   go_wp2_with fail
   refine(HPL.out _ _ _ _ _ _ _ (by simp)).mono ?_;rintro e w2 ⟨rfl,hb2⟩;have HB2:=zb (HB1.out.trans (hb2.mono HB1.out.size));have HP2:=zb (Box8.below HP1.out hb2);clear hb2 HPL HP1 a0 a1 a2 a3 a4 a5 a6 a7 al;obtain⟨a0,a1,a2,a3,a4,a5,a6,a7,af⟩:=Box8.cells HP2.out;have al:=HP2.out.lt;clear af;generalize plainD _ _ _ _ _ _ x=pb at *;cases pb
   all_goals
    go_wp2_with fail
    all_goals
     go_ret;refine⟨?_,HB2.out⟩;rw[HR.out];show Ending.returned (.bool _)=Ending.returned (.bool _)
     first
      | rfl
      | (congr 2;rw[Bool.eq_iff_iff];simp [*])
      | (congr 2;simp [*])
 by_cases hg:x.hd.kind=10
 . have hk:=hg;have HR:Hid (formD x=(plainD true false false 0 2 0 x&&(nb&&(match x.args with | []=>false | a::_=>decide (a.hd.kind=7))))):=zb (HAT.out 10 (plainD true false false 0 2 0 x&&(nb&&(match x.args with | []=>false | a::_=>decide (a.hd.kind=7)))) hk rfl)
   clear HE HAT hg;rw[hk] at a0 HPL
   go_wp2_with fail
   refine(HPL.out _ _ _ _ _ _ _ (by simp)).mono ?_;rintro e w2 ⟨rfl,hb2⟩;have HB2:=zb (HB1.out.trans (hb2.mono HB1.out.size));have hbK:=zb hb2;have HP2:=zb (Box8.below HP1.out hb2);clear hb2 HPL HP1 a0 a1 a2 a3 a4 a5 a6 a7 al;obtain⟨a0,a1,a2,a3,a4,a5,a6,a7,af⟩:=Box8.cells HP2.out;have al:=HP2.out.lt;clear af;have HL2:=zb (HLN.out true false false 0 2 0);generalize plainD _ _ _ _ _ _ x=pb at *;cases pb
   . go_wp2_with fail
     go_ret;refine⟨?_,HB2.out⟩;rw[HR.out];show Ending.returned (.bool _)=Ending.returned (.bool _)
     first
      | rfl
      | (congr 2;rw[Bool.eq_iff_iff];simp [*])
      | (congr 2;simp [*])
   . cases nb
     . go_wp2_with fail
       go_ret;refine⟨?_,HB2.out⟩;rw[HR.out];show Ending.returned (.bool _)=Ending.returned (.bool _)
       first
        | rfl
        | (congr 2;rw[Bool.eq_iff_iff];simp [*])
        | (congr 2;simp [*])
     . obtain⟨a,r,hag⟩:∃ a r,x.args=a::r:=by
        have h9:=HL2.out rfl;cases hq:x.args with
        | nil=>rw[hq] at h9;cases h9
        | cons a r=>exact⟨a,r,rfl⟩
       have hln:=HL2.out rfl;obtain⟨g1,o1,t1,ea,l1,i1,c1⟩:=(HX1.out.below hbK.out).look.2.2.2.2.1 0 a (by rw[hag];rfl);have x0:=c1 0 _ rfl;simp only[Nat.zero_mul,Nat.add_zero] at x0;rw[ea] at a6;have HR:Hid (formD x=decide (a.hd.kind=7)):=zb (by rw[HR.out,hag];rfl);clear c1 i1 ea;have hpos:decide ((0:Int)<(x.args.length:Int))=true:=decide_eq_true (by omega);have hpos2:(0:Int)<(x.args.length:Int):=by omega
       go_wp2_with fail
       all_goals
        go_ret;refine⟨?_,HB2.out⟩;rw[HR.out];show Ending.returned (.bool _)=Ending.returned (.bool _)
        first
         | rfl
         | (congr 2;rw[Bool.eq_iff_iff];simp [*])
         | (congr 2;simp [*])
 by_cases hg:x.hd.kind=12
 . have hk:=hg;have HR:Hid (formD x=(x.hd.labels.all isNam&&plainD false false false x.hd.labels.length x.hd.labels.length 0 x)):=zb (HAT.out 12 (x.hd.labels.all isNam&&plainD false false false x.hd.labels.length x.hd.labels.length 0 x) hk rfl);clear HE HAT hg;rw[hk] at a0 HPL
   go_upto_region 36 with fail
   have HLE:=HX1.out.look.1;have HZ:=zb (Below.refl w1.heap.size w1);clear a0 a1 a2 a3 a4 a5 a6 a7 al;have HRA:=HR
   go_loopw [4] (fun vi wr=>∃ k:Nat,k<=x.hd.labels.length/\vi=.int .i64 k/\Hid (Below w1.heap.size w1 wr)/\Hid ((x.hd.labels.take k).all isNam=true)) (fun vi _=>x.hd.labels.length-(intOf vi).toNat)
   case atStart=>exact⟨0,Nat.zero_le _,by go_num,HZ,zb rfl⟩
   case round =>
    clear HZ;obtain⟨k,hk1,rfl,HV,HAL⟩:=hrel;obtain⟨a0,a1,a2,a3,a4,a5,a6,a7,af⟩:=Box8.cells (Box8.below HP1.out HV.out);have al:=Box8.lt (Box8.below HP1.out HV.out);clear af;rw[hk] at a0;by_cases hk2:k<x.hd.labels.length
    . have h2:decide ((k:Int)<(x.hd.labels.length:Int))=true:=decide_eq_true (by omega);have h3:(k:Int)<(x.hd.labels.length:Int):=by omega
      have h4:(0:Int)<=(k:Int):=by omega
      have E5:IntKind.i64.wrap ((k:Int)+1)=(k:Int)+1:=by rw[IntKind.wrap_i64];have:=HLE.2;omega
      obtain⟨lb,hlb⟩:∃ a,x.hd.labels[k]? = some a:=⟨_,List.getElem?_eq_getElem hk2⟩;obtain⟨hlc,gl,ol,hla,hgl,hcl⟩:=rf ((HX1.out.below HV.out).look.1) rfl hlb;rw[hla] at a5;have HC:=zb (HLM.out lb (List.mem_of_getElem? hlb));have HN:Hid (∀ b,isNam lb=b->(b=true->(x.hd.labels.take (k+1)).all isNam=true)/\(b=false->x.hd.labels.all isNam=false)):=zb (fun b hb=>⟨fun h=>by
       rw[List.take_add_one,hlb,List.all_append,HAL.out];simp [hb,h],fun h=>by
       rw[List.all_eq_false];exact⟨lb,List.mem_of_getElem? hlb,by rw[hb,h];decide⟩⟩)
      clear hla hlb HAL;obtain⟨b,hb⟩:∃ b,isNam lb=b:=⟨_,rfl⟩;have HN:=zb (HN.out b hb);rw[hb] at HC;clear hb
      go_wp2_with fail
      refine(HC.out _).mono ?_;rintro e w6 ⟨rfl,hb6⟩;have HV6:=zb (HV.out.trans (hb6.mono HV.out.size));clear hb6 HC;cases b
      . have HR:Hid (formD x=false):=zb (by rw[HRA.out,HN.out.2 rfl];rfl);clear HN
        go_wp2_with fail
        go_ret;exact⟨by rw[HR.out];rfl,HB1.out.trans (HV6.out.mono HB1.out.size)⟩
      . have HN2:=zb (HN.out.1 rfl);clear HN
        go_wp2_with fail
        go_roundw
        case rel=>exact⟨k+1,by omega,by go_num,HV6,HN2⟩
        case measure=>simp [intOf];omega
    . have h2:decide ((k:Int)<(x.hd.labels.length:Int))=false:=decide_eq_false (by omega);have h3:¬(k:Int)<(x.hd.labels.length:Int):=by omega
      have HR:Hid (formD x=plainD false false false x.hd.labels.length x.hd.labels.length 0 x):=zb (by
       have h9:=HAL.out;rw[List.take_of_length_le (by omega)] at h9;rw[HRA.out,h9];rfl)
      clear HAL HRA;have HV2:=zb (HB1.out.trans (HV.out.mono HB1.out.size))
      go_wp2_with fail
      refine(HPL.out false false false x.hd.labels.length x.hd.labels.length 0 _ (by simp)).mono ?_;rintro e w2 ⟨rfl,hb2⟩;have HB2:=zb (HV2.out.trans (hb2.mono HV2.out.size));clear hb2;generalize plainD false false false x.hd.labels.length x.hd.labels.length 0 x=pb at *
      go_wp2_with fail
      go_ret;refine⟨?_,HB2.out⟩;rw[HR.out];show Ending.returned (.bool _)=Ending.returned (.bool _)
      first
       | rfl
       | (congr 2;rw[Bool.eq_iff_iff];simp [*])
       | (congr 2;simp [*])
 by_cases hg:x.hd.kind=16∨x.hd.kind=17
 . rcases hg with hk | hk
   all_goals
    have HR:=HAT.out _ _ hk rfl;simp only[reduceIte,Int.reduceEq,or_false,or_true,false_or,true_or] at HR;have HR:=zb HR;clear HE HAT;rw[hk] at a0 HPL;by_cases hm:0<x.arms.length
    . have h2:decide ((0:Int)<(x.arms.length:Int))=true:=decide_eq_true (by omega);have h3:(0:Int)<(x.arms.length:Int):=by omega
      have h4:decide (0<x.arms.length)=true:=decide_eq_true hm;have HR:Hid (formD x=plainD false false false 0 1 x.arms.length x):=zb (by rw[HR.out,h4];rfl)
      go_wp2_with fail
      refine(HPL.out _ _ _ _ _ _ _ (by simp)).mono ?_;rintro e w2 ⟨rfl,hb2⟩;have HB2:=zb (HB1.out.trans (hb2.mono HB1.out.size));have HP2:=zb (Box8.below HP1.out hb2);clear hb2 HPL HP1 a0 a1 a2 a3 a4 a5 a6 a7 al;obtain⟨a0,a1,a2,a3,a4,a5,a6,a7,af⟩:=Box8.cells HP2.out;have al:=HP2.out.lt;clear af;generalize plainD _ _ _ _ _ _ x=pb at *
      go_wp2_with fail
      go_ret;refine⟨?_,HB2.out⟩;rw[HR.out];show Ending.returned (.bool _)=Ending.returned (.bool _)
      first
       | rfl
       | (congr 2;rw[Bool.eq_iff_iff];simp [*])
       | (congr 2;simp [*])
    . have h2:decide ((0:Int)<(x.arms.length:Int))=false:=decide_eq_false (by omega);have h3:¬(0:Int)<(x.arms.length:Int):=by omega
      have h4:decide (0<x.arms.length)=false:=decide_eq_false hm;have HR:Hid (formD x=false):=zb (by rw[HR.out,h4];rfl)
      go_wp2_with fail
      go_ret;refine⟨?_,HB1.out⟩;rw[HR.out];show Ending.returned (.bool _)=Ending.returned (.bool _)
      first
       | rfl
       | (congr 2;rw[Bool.eq_iff_iff];simp [*])
       | (congr 2;simp [*])
 by_cases hg:x.hd.kind=19
 . have hk:=hg;have HR:Hid (formD x=(decide (0<manyD x.hd.n)&&plainD false true false 0 (manyD x.hd.n) 0 x)):=zb (HAT.out 19 (decide (0<manyD x.hd.n)&&plainD false true false 0 (manyD x.hd.n) 0 x) hk rfl);clear HE HAT hg;rw[hk] at a0 HPL;have HMN:=zb (t_Many x.hd.n);generalize manyD x.hd.n=mn at *;by_cases hm:0<mn
   . have h2:decide (0<mn)=true:=decide_eq_true hm;have HR:Hid (formD x=plainD false true false 0 mn 0 x):=zb (by rw[HR.out,h2];rfl)
     go_upto_region 45 with fail
     go_region_held3 (fun W=>W.cell? ⟨bx,0,none⟩=some (.int .i64 19)/\W.cell? ⟨bx,1,none⟩=some (.int .i64 x.hd.pos)/\W.cell? ⟨bx,2,none⟩=some (.string ⟨x.hd.name.toArray⟩)/\W.cell? ⟨bx,3,none⟩=some (.int .i64 x.hd.n)/\W.cell? ⟨bx,4,none⟩=some (.string ⟨x.hd.s.toArray⟩)/\W.cell? ⟨bx,5,none⟩=some (.slice s.la x.hd.labels.length s.lc)/\W.cell? ⟨bx,6,none⟩=some (.slice s.aa x.args.length s.ac)/\W.cell? ⟨bx,7,none⟩=some (.slice s.ra x.arms.length s.rc)) (go_keep)
      (first
       | (go_at_call 155; refine(HMN.out _).mono ?_;rintro e w3 ⟨rfl,rfl⟩)
       | (go_at_call 153; refine(HPL.out false true false 0 mn 0 _ (by simp)).mono ?_;rintro e w4 ⟨rfl,hb4⟩;have HB4:=zb ((Below.refl w1.heap.size w1).drew.trans hb4);clear hb4;obtain⟨z0,z1,z2,z3,z4,z5,z6,z7,zf⟩:=Box8.cells (Box8.below HP1.out HB4.out);rw[hk] at z0))
     all_goals
      have HB5:=zb (HB1.out.trans (HB4.out.mono HB1.out.size));generalize plainD false true false 0 mn 0 x=pb at *
      go_wp2_with fail
      go_ret;refine⟨?_,HB5.out⟩;rw[HR.out];show Ending.returned (.bool _)=Ending.returned (.bool _)
      first
       | rfl
       | (congr 2;rw[Bool.eq_iff_iff];simp [*])
       | (congr 2;simp [*])
   . have h2:decide (0<mn)=false:=decide_eq_false hm;have HR:Hid (formD x=false):=zb (by rw[HR.out,h2];rfl)
     go_upto_region 45 with fail
     go_quiet ((go_at_call 155; exact Calls.quiet_of_same ((HMN.out _).mono fun e w' hh=>⟨hh.1,hh.2.symm⟩)))
     all_goals
      go_wp2_with fail
      go_ret;refine⟨?_,tz HB1.out _⟩;rw[HR.out];show Ending.returned (.bool _)=Ending.returned (.bool _)
      first
       | rfl
       | (congr 2;rw[Bool.eq_iff_iff];simp [*])
       | (congr 2;simp [*])
 have e1:(x.hd.kind == 1)=false:=by rw[beq_eq_false_iff_ne];omega
 have e7:(x.hd.kind == 7)=false:=by rw[beq_eq_false_iff_ne];omega
 have e14:(x.hd.kind == 14)=false:=by rw[beq_eq_false_iff_ne];omega
 have e9:(x.hd.kind == 9)=false:=by rw[beq_eq_false_iff_ne];omega
 have e13:(x.hd.kind == 13)=false:=by rw[beq_eq_false_iff_ne];omega
 have e6:(x.hd.kind == 6)=false:=by rw[beq_eq_false_iff_ne];omega
 have e15:(x.hd.kind == 15)=false:=by rw[beq_eq_false_iff_ne];omega
 have e3:(x.hd.kind == 3)=false:=by rw[beq_eq_false_iff_ne];omega
 have e5:(x.hd.kind == 5)=false:=by rw[beq_eq_false_iff_ne];omega
 have e18:(x.hd.kind == 18)=false:=by rw[beq_eq_false_iff_ne];omega
 have e8:(x.hd.kind == 8)=false:=by rw[beq_eq_false_iff_ne];omega
 have e20:(x.hd.kind == 20)=false:=by rw[beq_eq_false_iff_ne];omega
 have e21:(x.hd.kind == 21)=false:=by rw[beq_eq_false_iff_ne];omega
 have e22:(x.hd.kind == 22)=false:=by rw[beq_eq_false_iff_ne];omega
 have e11:(x.hd.kind == 11)=false:=by rw[beq_eq_false_iff_ne];omega
 have e2:(x.hd.kind == 2)=false:=by rw[beq_eq_false_iff_ne];omega
 have e4:(x.hd.kind == 4)=false:=by rw[beq_eq_false_iff_ne];omega
 have e10:(x.hd.kind == 10)=false:=by rw[beq_eq_false_iff_ne];omega
 have e12:(x.hd.kind == 12)=false:=by rw[beq_eq_false_iff_ne];omega
 have e16:(x.hd.kind == 16)=false:=by rw[beq_eq_false_iff_ne];omega
 have e17:(x.hd.kind == 17)=false:=by rw[beq_eq_false_iff_ne];omega
 have e19:(x.hd.kind == 19)=false:=by rw[beq_eq_false_iff_ne];omega
 have HR:Hid (formD x=false):=zb (by
  rw[HE.out];simp only[beq_eq_false_iff_ne,ne_eq] at *;simp [*])
 clear HE HAT
 go_wp2_with fail
 go_ret;refine⟨?_,HB1.out⟩;rw[HR.out];show Ending.returned (.bool _)=Ending.returned (.bool _)
 first
  | rfl
  | (congr 2;rw[Bool.eq_iff_iff];simp [*])
  | (congr 2;simp [*])
