/-
  The document's own list of a tree's parts: the walks.
-/
import Derived.Test.YtblonfjlcfjodaaGreatDoorGSame
import Derived.Laws.AppendOwnNone
namespace Go.Proofs.YtblonfjlcfjodaaGreatDoor
set_option linter.unusedSimpArgs false
set_option linter.unusedVariables false
set_option maxRecDepth 100000
set_option maxHeartbeats 4000000
open Go.RowKit
def partCells (L:List (Int×Nat)):List Value:=L.flatMap fun t=>[.int .i64 t.1,.int .i64 (t.2:Nat)]
theorem zfr (L:List (Int×Nat)):(partCells L).length=L.length*2:=by
 induction L with
 | nil=>rfl
 | cons t L ih=>show(_::_::partCells L).length=_;rw[List.length_cons,List.length_cons,ih,List.length_cons];omega
theorem zfy (L M:List (Int×Nat)):partCells (L++M)=partCells L++partCells M:=by unfold partCells;rw[List.flatMap_append]
theorem zf0 {L:List (Int×Nat)}:∀ z∈partCells L,z.oneCell'=true:=fun z hz=>by
 unfold partCells at hz;simp only[List.mem_flatMap,List.mem_cons,List.not_mem_nil,or_false] at hz;obtain⟨t,_,rfl | rfl⟩:=hz <;> rfl
def PartRow (B:Nat) (w:World) (v:Value) (L:List (Int×Nat)):Prop:=w.ownsRow B 73 2 v L.length (partCells L)
theorem zfW {w w':World} {B:Nat} {e:TypeId} {size:Nat} {v:Value} {n:Nat} {xs:List Value} (h:w.ownsRow B e size v n xs) (hk:∀ g,v.ownBlock=some g->g<w.heap.size->w'.heap[g]? = w.heap[g]?):w'.ownsRow B e size v n xs:=by
 obtain⟨h1,h2⟩:=h;rcases h2 with h2 | ⟨g,cap,cur,rfl,hb,hg,rest⟩
 . exact⟨h1,.inl h2⟩
 . exact⟨h1,.inr ⟨g,cap,cur,rfl,hb,(hk g rfl (zp hg)).trans hg,rest⟩⟩
theorem PartRow.below {B:Nat} {w w':World} {v:Value} {L:List (Int×Nat)} (h:PartRow B w v L) (hb:Below w.heap.size w w'):PartRow B w' v L:=zfW h fun g _ hl=>hb.block g hl
theorem PartRow.mono {B B':Nat} {w:World} {v:Value} {L:List (Int×Nat)} (h:PartRow B w v L) (hb:B'<=B):PartRow B' w v L:=by
 obtain⟨h1,h2⟩:=h;rcases h2 with h2 | ⟨g,cap,cur,h3,h4,rest⟩
 . exact⟨h1,.inl h2⟩
 . exact⟨h1,.inr ⟨g,cap,cur,h3,Nat.le_trans hb h4,rest⟩⟩
theorem PartRow.form {B:Nat} {w:World} {v:Value} {L:List (Int×Nat)} (h:PartRow B w v L):∃ a c,v=.slice a L.length c:=by
 rcases h.2 with⟨h1,h2⟩ | ⟨g,cap,cur,h1,_⟩
 . exact⟨none,0,by rw[h1,h2]⟩
 . exact⟨_,cap,h1⟩
theorem infoPart:(Tryz.prog.info? 73).map (fun i=>(i.zero,i.size,i.bytes))=some (some (.agg #[.int .i64 0,.int .i64 0]),2,16):=by kernel_rfl
theorem part_info:∃ i:TypeInfo, Tryz.prog.info? 73 = some i/\i.zero=some (.agg #[.int .i64 0,.int .i64 0])/\i.size=2/\i.bytes=16:=by
 have h:=infoPart;cases hi : Tryz.prog.info? 73 with
 | none=>rw[hi] at h;cases h
 | some i =>
  rw[hi] at h;have h:=zc h;exact⟨i,rfl,congrArg (fun x=>x.1) h,congrArg (fun x=>x.2.1) h,congrArg (fun x=>x.2.2) h⟩
theorem ze6 {B S:Nat} {w:World} {ops:Array Oper} {rest:List Oper} {o:Oper} {a:Act} {Q:Exit->Act->World->Prop} (hgd:o.guard=none) (s x:Operand)
 (ho:o.op=.call { callee:=.builtin .append,args:=#[s,x],argTypes:=#[70, 70] }) (v u:Value) (L1 L2:List (Int×Nat)) (hs:a.eval s=v) (hx:a.eval x=u) (h1:PartRow B w v L1) (h2:PartRow S w u L2)
 (hn:L1.length+L2.length<=100000) (hB:B<=w.heap.size) (h:∀ v' w',PartRow B w' v' (L1++L2)->Below B w w'->wpList Tryz.prog ops Q rest (a.put o.dst v') w'):wpList Tryz.prog ops Q (o::rest) a w:=by
 obtain⟨i0,hi0,hz0,hz1,hz2⟩:=part_info;have h20:=h2;rcases h2.2 with⟨h3,h4⟩ | ⟨g,k,cs,h3,_,hg,hgn,hgk,hgs,htake⟩
 . subst h3;have hl0:L2=[]:=List.length_eq_zero_iff.1 h4;subst hl0;refine wpList_append_own_none hgd s x 70 ho B 73 i0 2 Tryz.underlying70 hi0 v _ _ hs h1 hx ?_;exact h v w (by rw[List.append_nil];exact h1) ⟨rfl,rfl,rfl,Nat.le_refl _,fun _ _=>rfl⟩
 . subst h3;have hcell:∀(j:Nat) (z:Value),(partCells L2)[j]? = some z->w.cell? ((⟨g,0,none⟩:Addr).add j)=some z:=fun j z hz=>by
    have hj:=(List.getElem?_eq_some_iff.1 hz).1;rw[zfr] at hj;have h9:=World.ownsRow.cellAt h20 j hj;rw[Addr.add_lit,Nat.zero_add];exact h9.trans hz
   refine wpList_append_own_at w hgd s x 70 ho B 73 i0 _ 2 16 Tryz.underlying70 hi0 hz0 hz1 hz2 rfl (by decide) v _ _ hs h1 ⟨g,0,none⟩ L2.length k (partCells L2) hx (by rw[zfr]) hcell zf0 (by unfold maxLen;omega) (by omega) hB ?_;intro v' w' h5 h6 _ _;refine h v' w' ?_ ⟨h6.os,h6.tape,h6.output,h6.size,fun i hi=>h6.block i (by omega) (fun e=>by have:=(World.ownsRow.lt h1 i e.symm).1;omega)⟩;unfold PartRow;rw[zfy,List.length_append];exact h5
def PartsMade (L:List (Int×Nat)) (w:World) (e:Ending) (w':World):Prop:=∃ v,e=.returned v/\Below w.heap.size w w'/\PartRow w.heap.size w' v L
theorem zfd {α:Type} {F G L:List α} {M:Nat} (h:L=F.take M):L++G.take (M-L.length)=(F++G).take M:=by
 subst h;rw[List.take_append,List.length_take];by_cases hf:M<=F.length
 . rw[show M-min M F.length=0 by omega,show M-F.length=0 by omega]
 . rw[show min M F.length=F.length by omega]
theorem zfn {α:Type} {F G L:List α} {M:Nat} (h:L=F.take M) (hl:¬L.length<M):L=(F++G).take M:=by
 have h1:M<=F.length:=by
  rw[h,List.length_take] at hl;omega
 rw[h,List.take_append,show M-F.length=0 by omega,List.take_zero,List.append_nil]
theorem zfO (d:Nat) (l r:List Nd):partsN d (l++r)=partsN d l++partsN d r:=by
 induction l with
 | nil=>rfl
 | cons x l ih=>show x.parts d++partsN d (l++r)=(x.parts d++partsN d l)++partsN d r;rw[ih,List.append_assoc]
theorem zfP (d:Nat) (l r:List (Nd×Nd)):partsA d (l++r)=partsA d l++partsA d r:=by
 induction l with
 | nil=>rfl
 | cons x l ih=>show x.1.parts d++(x.2.parts d++partsA d (l++r))=(x.1.parts d++(x.2.parts d++partsA d l))++partsA d r;rw[ih];simp
theorem zfE {d:Nat} {l:List Nd} {i:Nat} {a:Nd} (h:l[i]? = some a):partsN d (l.take (i+1))=partsN d (l.take i)++a.parts d:=by
 obtain⟨hi,rfl⟩:=List.getElem?_eq_some_iff.1 h;rw[List.take_succ_eq_append_getElem hi,zfO];show partsN d (l.take i)++(l[i].parts d++[])=_;rw[List.append_nil]
theorem zfF {d:Nat} {l:List (Nd×Nd)} {i:Nat} {a:Nd×Nd} (h:l[i]? = some a):partsA d (l.take (i+1))=partsA d (l.take i)++(a.1.parts d++a.2.parts d):=by
 obtain⟨hi,rfl⟩:=List.getElem?_eq_some_iff.1 h;rw[List.take_succ_eq_append_getElem hi,zfP];show partsA d (l.take i)++(l[i].1.parts d++(l[i].2.parts d++[]))=_;rw[List.append_nil]
theorem zfC {d:Nat} {l:List Nd} (i:Nat):partsN d l=partsN d (l.take i)++partsN d (l.drop i):=by rw[← zfO,List.take_append_drop]
theorem zfG {d:Nat} {l:List (Nd×Nd)} (i:Nat):partsA d l=partsA d (l.take i)++partsA d (l.drop i):=by rw[← zfP,List.take_append_drop]
theorem zfh (d:Nat) (x:Nd):x.parts d=(x.hd.pos,d)::(partsN (d+1) x.args++partsA (d+1) x.arms):=by cases x;rfl
theorem zfI (x:Nd) (s:Sl) (w:World) (d M:Nat) (hd:d+M<=40000) (hx:IsP w (fun _=>True) (paL x s) x)
 (hrec:∀ a∈x.args,∀(t:Sl) (W:World) (d' M':Nat),d'+M'<=40000->IsP W (fun _=>True) (paL a t) a->Calls Tryz.prog 50 #[paOf a t,.int .i64 (d':Nat),.int .i64 (M':Nat)] W (PartsMade ((a.parts d').take M') W)) :
 Calls Tryz.prog 50 #[paOf x s,.int .i64 (d:Nat),.int .i64 (M:Nat)] w (PartsMade ((x.parts d).take M) w):=by
 have HX:=zb hx;have HREC:=zb hrec;clear hx hrec;unfold paOf;by_cases hM:M=0
 . subst hM;have g1:decide (((0:Nat):Int)<=0)=true:=by decide
   go_enter Tryz.func50, Tryz.ntmps50
   go_wp2_with fail
   go_ret;exact⟨_,rfl,zj _,World.ownsRow_nil _ _ _ _⟩
 have g1:decide ((M:Int)<=0)=false:=decide_eq_false (by omega);have g2:¬(M:Int)<=0:=by omega
 have E1:IntKind.i64.wrap ((d:Int)+1)=((d+1:Nat):Int):=by rw[IntKind.wrap_i64];omega
 go_enter Tryz.func50, Tryz.ntmps50
 go_upto_region 1 with fail
 obtain⟨W0,hW0⟩:∃ W,w.alloc (.cells #[.int .i64 x.hd.kind,.int .i64 x.hd.pos,.string ⟨x.hd.name.toArray⟩,.int .i64 x.hd.n,.string ⟨x.hd.s.toArray⟩,.slice s.la x.hd.labels.length s.lc,.slice s.aa x.args.length s.ac] 39 (0,0))=W:=⟨_,rfl⟩;have HB0:Hid (Below w.heap.size w W0):=zb (by rw[← hW0];exact zj _);have HPX:Hid (PaBox W0 w.heap.size x s):=zb (by rw[← hW0];exact zA w _ _ rfl);rw[hW0];clear hW0;replace HX:=zb (HX.out.below HB0.out);generalize hbx:w.heap.size=bx at HPX ⊢;clear hbx;obtain⟨a0,a1,a2,a3,a4,a5,a6,af⟩:=Box7.cells HPX.out;have al:=HPX.out.lt;have hbx0:=al;clear af
 go_upto_region 4 with fail
 clear g1 g2 a0 a1 a2 a3 a4 a5 a6 al;obtain⟨W1,hW1⟩:∃ W,W0.alloc (.cells #[.int .i64 x.hd.pos,.int .i64 (d:Nat)] 73 (0,0))=W:=⟨_,rfl⟩;have hb1:Below W0.heap.size W0 W1:=by rw[← hW1];exact zj _
 have HR0:Hid (PartRow W0.heap.size W1 (.slice (some ⟨W0.heap.size,0,none⟩) 1 1) [(x.hd.pos,d)]):=zb (by rw[← hW1];exact World.ownsRow_lit (base:=W0.heap.size) (e := 73) (size:=2) W0 #[.int .i64 x.hd.pos,.int .i64 (d:Nat)] 1 (Nat.le_refl _) (by unfold maxLen;omega) rfl);rw[hW1];clear hW1;have HZ:=zb hb1;clear hb1;have HLE:Hid (x.args.length<=9223372036854775807):=zb HX.out.look.2.2.2.1;have HM1:1<=M:=by omega
 go_wp2_with fail
 go_loopw [7,8] (fun vo vk wr=>(∃(k:Nat) (L:List (Int×Nat)),k<=x.args.length/\vk=.int .i64 k/\(∃ a c,vo=.slice a L.length c)/\1<=L.length/\L.length<=M/\Hid (Below W0.heap.size W0 wr)/\Hid (PartRow W0.heap.size wr vo L)/\Hid (L=((x.hd.pos,d)::partsN (d+1) (x.args.take k)).take M))) (fun _ vk _=>x.args.length-(intOf vk).toNat)
 case atStart=>exact⟨0,[(x.hd.pos,d)],Nat.zero_le _,by go_num,⟨_,_,rfl⟩,Nat.le_refl _,HM1,HZ,HR0,zb (by
  obtain⟨m,rfl⟩:∃ m,M=m+1:=⟨M-1,by omega⟩;simp [partsN])⟩
 case round =>
  clear HZ HR0;obtain⟨k,L,hk,rfl,⟨vA,vC,rfl⟩,hL1,hLM,HV,HR,HL⟩:=hrel;obtain⟨a0,a1,a2,a3,a4,a5,a6,af⟩:=Box7.cells (Box7.below HPX.out HV.out);have al:=Box7.lt (Box7.below HPX.out HV.out);clear af;by_cases hk2:k<x.args.length
  . have h2:decide ((k:Int)<(x.args.length:Int))=true:=decide_eq_true (by omega);have h3:(k:Int)<(x.args.length:Int):=by omega
    by_cases hl2:L.length<M
    . have l2:decide ((L.length:Int)<(M:Int))=true:=decide_eq_true (by omega);have l3:(L.length:Int)<(M:Int):=by omega
      have h4:(0:Int)<=(k:Int):=by omega
      have E5:IntKind.i64.wrap ((k:Int)+1)=(k:Int)+1:=by rw[IntKind.wrap_i64];have:=HLE.out;omega
      have E6:IntKind.i64.wrap ((M:Int)-(L.length:Int))=((M-L.length:Nat):Int):=by rw[IntKind.wrap_i64];omega
      obtain⟨ca,hca⟩:∃ a,x.args[k]? = some a:=⟨_,List.getElem?_eq_getElem hk2⟩;obtain⟨g1,o1,t1,e1,l1,i1,c1⟩:=(HX.out.below HV.out).look.2.2.2.2 k ca hca;rw[e1] at a6;have x0:=c1 0 _ rfl;have x1:=c1 1 _ rfl;have x2:=c1 2 _ rfl;have x3:=c1 3 _ rfl;have x4:=c1 4 _ rfl;have x5:=c1 5 _ rfl;have x6:=c1 6 _ rfl;rw[Nat.add_zero] at x0;have HCALL:Hid (∀ W,Below wr.heap.size wr W->Calls Tryz.prog 50 #[paOf ca t1,.int .i64 ((d+1:Nat):Int),.int .i64 ((M-L.length:Nat):Int)] W (PartsMade ((ca.parts (d+1)).take (M-L.length)) W)):=zb (fun W h=>HREC.out ca (List.mem_of_getElem? hca) t1 W (d+1) (M-L.length) (by omega) (i1.below h));have HTL:=zfd (G:=ca.parts (d+1)) HL.out;have HNL:Hid (L++(ca.parts (d+1)).take (M-L.length)=((x.hd.pos,d)::partsN (d+1) (x.args.take (k+1))).take M):=zb (by rw[HTL,zfE hca];rfl);have HNM:Hid (((ca.parts (d+1)).take (M-L.length)).length<=M-L.length):=zb (by rw[List.length_take];omega);clear c1 e1 i1 hca HL HTL hl2;generalize (ca.parts (d+1)).take (M-L.length)=NL at *;unfold paOf at HCALL
      go_wp2_with fail
      refine(HCALL.out _ (Below.refl _ _)).mono ?_;rintro e w6 ⟨vn,rfl,hb6,hr6⟩;clear HCALL x0 x1 x2 x3 x4 x5 x6 l1 a0 a1 a2 a3 a4 a5 a6 al h2 h3 l2 l3 h4;have HR6:=zb hr6;have HRO:=zb (HR.out.below hb6);have HB6:=zb (HV.out.trans (hb6.mono HV.out.size));clear hb6 hr6 HR
      go_wp2_with (at_builtin;refine ze6 rfl (.tmp 29) (.tmp 41) rfl _ _ L NL rfl rfl HRO.out HR6.out (by have:=HNM.out;omega) HB6.out.size ?_)
      intro v7 w7 hr7 hb7;obtain⟨a7,c7,rfl⟩:=hr7.form;have HR7:=zb hr7;have HV7:=zb (HB6.out.trans hb7);clear hr7 hb7 HR6 HRO HB6
      go_wp2_with fail
      go_roundw
      case rel=>exact⟨k+1,L++NL,by omega,by go_num,⟨_,_,rfl⟩,by rw[List.length_append];omega,by rw[List.length_append];have:=HNM.out;omega,HV7,HR7,HNL⟩
      case measure=>simp [intOf];omega
    . have l2:decide ((L.length:Int)<(M:Int))=false:=decide_eq_false (by omega);have l3:¬(L.length:Int)<(M:Int):=by omega
      have HN:Hid (L=((x.hd.pos,d)::partsN (d+1) x.args).take M):=zb (by rw[zfC (d:=d+1) (l:=x.args) k];exact zfn HL.out hl2);clear HL;have HNN:Hid (L=(x.parts d).take M):=zb (by rw[zfh,HX.out.look.1];show L=((x.hd.pos,d)::(partsN (d+1) x.args++[])).take M;rw[List.append_nil];exact HN.out);have HBN:=zb (HB0.out.trans (HV.out.mono HB0.out.size));have HRN:=zb (HR.out.mono HB0.out.size);clear HN
      go_wp2_with fail
      go_ret;exact⟨_,rfl,HBN.out,by rw[← HNN.out];exact HRN.out⟩
  . have h2:decide ((k:Int)<(x.args.length:Int))=false:=decide_eq_false (by omega);have h3:¬(k:Int)<(x.args.length:Int):=by omega
    have HN:Hid (L=((x.hd.pos,d)::partsN (d+1) x.args).take M):=zb (by have h9:=HL.out;rwa [List.take_of_length_le (l:=x.args) (by omega)] at h9);clear HL;have HNN:Hid (L=(x.parts d).take M):=zb (by rw[zfh,HX.out.look.1];show L=((x.hd.pos,d)::(partsN (d+1) x.args++[])).take M;rw[List.append_nil];exact HN.out);have HBN:=zb (HB0.out.trans (HV.out.mono HB0.out.size));have HRN:=zb (HR.out.mono HB0.out.size);clear HN
    go_wp2_with fail
    go_ret;exact⟨_,rfl,HBN.out,by rw[← HNN.out];exact HRN.out⟩
theorem zfs:∀(n:Nat) (x:Nd) (s:Sl) (w:World) (d M:Nat),x.size<=n->d+M<=40000->IsP w (fun _=>True) (paL x s) x->Calls Tryz.prog 50 #[paOf x s,.int .i64 (d:Nat),.int .i64 (M:Nat)] w (PartsMade ((x.parts d).take M) w)
 | 0,x,_,_,_,_,h,_,_=>absurd h (by cases x;show ¬(1+_+_<=0);omega)
 | n+1,x,s,w,d,M,h,hd,hx=>zfI x s w d M hd hx fun a ha t W d' M' hd' h1=>zfs n a t W d' M' (by have:=xO ha;omega) hd' h1
theorem zgc (x:Nd) (s:Sl) (w:World) (d M:Nat) (hd:d+M<=40000) (hx:IsE w (fun _=>True) (exL x s) x)
 (hrec:∀ a∈x.args,∀(t:Sl) (W:World) (d' M':Nat),d'+M'<=40000->IsE W (fun _=>True) (exL a t) a->Calls Tryz.prog 36 #[exOf a t,.int .i64 (d':Nat),.int .i64 (M':Nat)] W (PartsMade ((a.parts d').take M') W))
 (hpat:∀ c∈x.arms,∀(t:Sl) (W:World) (d' M':Nat),d'+M'<=40000->IsP W (fun _=>True) (paL c.1 t) c.1->Calls Tryz.prog 50 #[paOf c.1 t,.int .i64 (d':Nat),.int .i64 (M':Nat)] W (PartsMade ((c.1.parts d').take M') W))
 (hbod:∀ c∈x.arms,∀(t:Sl) (W:World) (d' M':Nat),d'+M'<=40000->IsE W (fun _=>True) (exL c.2 t) c.2->Calls Tryz.prog 36 #[exOf c.2 t,.int .i64 (d':Nat),.int .i64 (M':Nat)] W (PartsMade ((c.2.parts d').take M') W)) :
 Calls Tryz.prog 36 #[exOf x s,.int .i64 (d:Nat),.int .i64 (M:Nat)] w (PartsMade ((x.parts d).take M) w):=by
 have HX:=zb hx;have HREC:=zb hrec;have HPAT:=zb hpat;have HBOD:=zb hbod;clear hx hrec hpat hbod;unfold exOf exV;by_cases hM:M=0
 . subst hM;have g1:decide (((0:Nat):Int)<=0)=true:=by decide
   go_enter Tryz.func36, Tryz.ntmps36
   go_wp2_with fail
   go_ret;exact⟨_,rfl,zj _,World.ownsRow_nil _ _ _ _⟩
 have g1:decide ((M:Int)<=0)=false:=decide_eq_false (by omega);have g2:¬(M:Int)<=0:=by omega
 have E1:IntKind.i64.wrap ((d:Int)+1)=((d+1:Nat):Int):=by rw[IntKind.wrap_i64];omega
 go_enter Tryz.func36, Tryz.ntmps36
 go_upto_region 1 with fail
 obtain⟨W0,hW0⟩:∃ W,w.alloc (.cells #[.int .i64 x.hd.kind,.int .i64 x.hd.pos,.string ⟨x.hd.name.toArray⟩,.int .i64 x.hd.n,.string ⟨x.hd.s.toArray⟩,.slice s.la x.hd.labels.length s.lc,.slice s.aa x.args.length s.ac,.slice s.ra x.arms.length s.rc] 27 (0,0))=W:=⟨_,rfl⟩;have HB0:Hid (Below w.heap.size w W0):=zb (by rw[← hW0];exact zj _);have HPX:Hid (ExBox W0 w.heap.size x s):=zb (by rw[← hW0];exact zA w _ _ rfl);rw[hW0];clear hW0;replace HX:=zb (HX.out.below HB0.out);generalize hbx:w.heap.size=bx at HPX ⊢;clear hbx;obtain⟨a0,a1,a2,a3,a4,a5,a6,a7,af⟩:=Box8.cells HPX.out;have al:=HPX.out.lt;have hbx0:=al;clear af
 go_upto_region 4 with fail
 clear g1 g2 a0 a1 a2 a3 a4 a5 a6 a7 al;obtain⟨W1,hW1⟩:∃ W,W0.alloc (.cells #[.int .i64 x.hd.pos,.int .i64 (d:Nat)] 73 (0,0))=W:=⟨_,rfl⟩;have hb1:Below W0.heap.size W0 W1:=by rw[← hW1];exact zj _
 have HR0:Hid (PartRow W0.heap.size W1 (.slice (some ⟨W0.heap.size,0,none⟩) 1 1) [(x.hd.pos,d)]):=zb (by rw[← hW1];exact World.ownsRow_lit (base:=W0.heap.size) (e := 73) (size:=2) W0 #[.int .i64 x.hd.pos,.int .i64 (d:Nat)] 1 (Nat.le_refl _) (by unfold maxLen;omega) rfl);rw[hW1];clear hW1;have HZ:=zb hb1;clear hb1;have HLE:Hid (x.args.length<=9223372036854775807):=zb HX.out.look.2.2.1;have HM1:1<=M:=by omega
 go_wp2_with fail
 go_loopw [7,8] (fun vo vk wr=>(∃(k:Nat) (L:List (Int×Nat)),k<=x.args.length/\vk=.int .i64 k/\(∃ a c,vo=.slice a L.length c)/\1<=L.length/\L.length<=M/\Hid (Below W0.heap.size W0 wr)/\Hid (PartRow W0.heap.size wr vo L)/\Hid (L=((x.hd.pos,d)::partsN (d+1) (x.args.take k)).take M))) (fun _ vk _=>x.args.length-(intOf vk).toNat)
 case atStart=>exact⟨0,[(x.hd.pos,d)],Nat.zero_le _,by go_num,⟨_,_,rfl⟩,Nat.le_refl _,HM1,HZ,HR0,zb (by
  obtain⟨m,rfl⟩:∃ m,M=m+1:=⟨M-1,by omega⟩;simp [partsN])⟩
 case round =>
  clear HZ HR0;obtain⟨k,L,hk,rfl,⟨vA,vC,rfl⟩,hL1,hLM,HV,HR,HL⟩:=hrel;obtain⟨a0,a1,a2,a3,a4,a5,a6,a7,af⟩:=Box8.cells (Box8.below HPX.out HV.out);have al:=Box8.lt (Box8.below HPX.out HV.out);clear af;by_cases hk2:k<x.args.length
  . have h2:decide ((k:Int)<(x.args.length:Int))=true:=decide_eq_true (by omega);have h3:(k:Int)<(x.args.length:Int):=by omega
    by_cases hl2:L.length<M
    . have l2:decide ((L.length:Int)<(M:Int))=true:=decide_eq_true (by omega);have l3:(L.length:Int)<(M:Int):=by omega
      have h4:(0:Int)<=(k:Int):=by omega
      have E5:IntKind.i64.wrap ((k:Int)+1)=(k:Int)+1:=by rw[IntKind.wrap_i64];have:=HLE.out;omega
      have E6:IntKind.i64.wrap ((M:Int)-(L.length:Int))=((M-L.length:Nat):Int):=by rw[IntKind.wrap_i64];omega
      obtain⟨ca,hca⟩:∃ a,x.args[k]? = some a:=⟨_,List.getElem?_eq_getElem hk2⟩;obtain⟨g1,o1,t1,e1,l1,i1,c1⟩:=(HX.out.below HV.out).look.2.2.2.2.1 k ca hca;rw[e1] at a6;have x0:=c1 0 _ rfl;have x1:=c1 1 _ rfl;have x2:=c1 2 _ rfl;have x3:=c1 3 _ rfl;have x4:=c1 4 _ rfl;have x5:=c1 5 _ rfl;have x6:=c1 6 _ rfl;have x7:=c1 7 _ rfl;rw[Nat.add_zero] at x0;have HCALL:Hid (∀ W,Below wr.heap.size wr W->Calls Tryz.prog 36 #[exOf ca t1,.int .i64 ((d+1:Nat):Int),.int .i64 ((M-L.length:Nat):Int)] W (PartsMade ((ca.parts (d+1)).take (M-L.length)) W)):=zb (fun W h=>HREC.out ca (List.mem_of_getElem? hca) t1 W (d+1) (M-L.length) (by omega) (i1.below h));have HTL:=zfd (G:=ca.parts (d+1)) HL.out;have HNL:Hid (L++(ca.parts (d+1)).take (M-L.length)=((x.hd.pos,d)::partsN (d+1) (x.args.take (k+1))).take M):=zb (by rw[HTL,zfE hca];rfl);have HNM:Hid (((ca.parts (d+1)).take (M-L.length)).length<=M-L.length):=zb (by rw[List.length_take];omega);clear c1 e1 i1 hca HL HTL hl2;generalize (ca.parts (d+1)).take (M-L.length)=NL at *;unfold exOf exV at HCALL
      go_wp2_with fail
      refine(HCALL.out _ (Below.refl _ _)).mono ?_;rintro e w6 ⟨vn,rfl,hb6,hr6⟩;clear HCALL x0 x1 x2 x3 x4 x5 x6 x7 l1 a0 a1 a2 a3 a4 a5 a6 a7 al h2 h3 l2 l3 h4;have HR6:=zb hr6;have HRO:=zb (HR.out.below hb6);have HB6:=zb (HV.out.trans (hb6.mono HV.out.size));clear hb6 hr6 HR
      go_wp2_with (at_builtin;refine ze6 rfl (.tmp 30) (.tmp 42) rfl _ _ L NL rfl rfl HRO.out HR6.out (by have:=HNM.out;omega) HB6.out.size ?_)
      intro v7 w7 hr7 hb7;obtain⟨a7,c7,rfl⟩:=hr7.form;have HR7:=zb hr7;have HV7:=zb (HB6.out.trans hb7);clear hr7 hb7 HR6 HRO HB6
      go_wp2_with fail
      go_roundw
      case rel=>exact⟨k+1,L++NL,by omega,by go_num,⟨_,_,rfl⟩,by rw[List.length_append];omega,by rw[List.length_append];have:=HNM.out;omega,HV7,HR7,HNL⟩
      case measure=>simp [intOf];omega
    . have l2:decide ((L.length:Int)<(M:Int))=false:=decide_eq_false (by omega);have l3:¬(L.length:Int)<(M:Int):=by omega
      have HN:Hid (L=((x.hd.pos,d)::partsN (d+1) x.args).take M):=zb (by rw[zfC (d:=d+1) (l:=x.args) k];exact zfn HL.out hl2);clear HL;have HLE2:Hid (x.arms.length<=9223372036854775807):=zb HX.out.look.2.2.2.1
      go_wp2_with fail
      clear h2 h3 a0 a1 a2 a3 a4 a5 a6 a7 al l2 l3
      go_loopw [7,9] (fun vo vk wr=>(∃(k:Nat) (L:List (Int×Nat)),k<=x.arms.length/\vk=.int .i64 k/\(∃ a c,vo=.slice a L.length c)/\1<=L.length/\L.length<=M/\Hid (Below W0.heap.size W0 wr)/\Hid (PartRow W0.heap.size wr vo L)/\Hid (L=((x.hd.pos,d)::(partsN (d+1) x.args++partsA (d+1) (x.arms.take k))).take M))) (fun _ vk _=>x.arms.length-(intOf vk).toNat)
      case atStart=>exact⟨0,L,Nat.zero_le _,by go_num,⟨_,_,rfl⟩,hL1,hLM,HV,HR,zb (by show L=((x.hd.pos,d)::(partsN (d+1) x.args++partsA (d+1) [])).take M;show L=((x.hd.pos,d)::(partsN (d+1) x.args++[])).take M;rw[List.append_nil];exact HN.out)⟩
      case round =>
       clear HV HR HN hL1 hLM;obtain⟨kz,Lz,hk,rfl,⟨vA,vC,rfl⟩,hL1,hLM,HV,HR,HL⟩:=hrel;obtain⟨a0,a1,a2,a3,a4,a5,a6,a7,af⟩:=Box8.cells (Box8.below HPX.out HV.out);have al:=Box8.lt (Box8.below HPX.out HV.out);clear af;by_cases hk2:kz<x.arms.length
       . have h2:decide ((kz:Int)<(x.arms.length:Int))=true:=decide_eq_true (by omega);have h3:(kz:Int)<(x.arms.length:Int):=by omega
         by_cases hl2:Lz.length<M
         . have l2:decide ((Lz.length:Int)<(M:Int))=true:=decide_eq_true (by omega);have l3:(Lz.length:Int)<(M:Int):=by omega
           have h4:(0:Int)<=(kz:Int):=by omega
           have E5:IntKind.i64.wrap ((kz:Int)+1)=(kz:Int)+1:=by rw[IntKind.wrap_i64];have:=HLE2.out;omega
           have E6:IntKind.i64.wrap ((M:Int)-(Lz.length:Int))=((M-Lz.length:Nat):Int):=by rw[IntKind.wrap_i64];omega
           obtain⟨ca,hca⟩:∃ a,x.arms[kz]? = some a:=⟨_,List.getElem?_eq_getElem hk2⟩;have HCA:=zb hca;obtain⟨g1,o1,t1,r1,e1,l1,i1,j1,c1⟩:=(HX.out.below HV.out).look.2.2.2.2.2 kz ca hca;rw[e1] at a7;have x0:=c1 0 _ rfl;have x1:=c1 1 _ rfl;have x2:=c1 2 _ rfl;have x3:=c1 3 _ rfl;have x4:=c1 4 _ rfl;have x5:=c1 5 _ rfl;have x6:=c1 6 _ rfl;rw[Nat.add_zero] at x0;have HCALL:Hid (∀ W,Below wr.heap.size wr W->Calls Tryz.prog 50 #[paOf ca.1 t1,.int .i64 ((d+1:Nat):Int),.int .i64 ((M-Lz.length:Nat):Int)] W (PartsMade ((ca.1.parts (d+1)).take (M-Lz.length)) W)):=zb (fun W h=>HPAT.out ca (List.mem_of_getElem? hca) t1 W (d+1) (M-Lz.length) (by omega) (i1.below h));have HTL:=zfd (G:=ca.1.parts (d+1)) HL.out;have HNL:Hid (Lz++(ca.1.parts (d+1)).take (M-Lz.length)=((x.hd.pos,d)::(partsN (d+1) x.args++partsA (d+1) (x.arms.take kz))++ca.1.parts (d+1)).take M):=zb HTL;have HNM:Hid (((ca.1.parts (d+1)).take (M-Lz.length)).length<=M-Lz.length):=zb (by rw[List.length_take];omega);clear c1 e1 i1 j1 hca HL HTL hl2;generalize (ca.1.parts (d+1)).take (M-Lz.length)=NL at *;unfold paOf at HCALL
           go_wp2_with fail
           refine(HCALL.out _ (Below.refl _ _)).mono ?_;rintro e w6 ⟨vn,rfl,hb6,hr6⟩;clear HCALL x0 x1 x2 x3 x4 x5 x6 l1 a0 a1 a2 a3 a4 a5 a6 a7 al h2 l2 l3 E6;have HR6:=zb hr6;have HRO:=zb (HR.out.below hb6);have HB6:=zb (HV.out.trans (hb6.mono HV.out.size));clear hb6 hr6 HR
           go_wp2_with (at_builtin;refine ze6 rfl (.tmp 57) (.tmp 70) rfl _ _ Lz NL rfl rfl HRO.out HR6.out (by have:=HNM.out;omega) HB6.out.size ?_)
           intro v7 w7 hr7 hb7;obtain⟨a7v,c7v,rfl⟩:=hr7.form;have HR7:=zb hr7;have HV7:=zb (HB6.out.trans hb7);clear hr7 hb7 HR6 HRO HB6;have HLL:Hid (1<=(Lz++NL).length/\(Lz++NL).length<=M):=zb ⟨by rw[List.length_append];omega,by rw[List.length_append];have:=HNM.out;omega⟩;clear HNM HV;generalize Lz++NL=L7 at *;clear hL1 hLM;have hl7:=HLL.out.2;obtain⟨a0,a1,a2,a3,a4,a5,a6,a7,af⟩:=Box8.cells (Box8.below HPX.out HV7.out);have al:=Box8.lt (Box8.below HPX.out HV7.out);clear af;have E6:IntKind.i64.wrap ((M:Int)-(L7.length:Int))=((M-L7.length:Nat):Int):=by rw[IntKind.wrap_i64];omega
           obtain⟨g1,o1,t1,r1,e1,l1,i1,j1,c1⟩:=(HX.out.below HV7.out).look.2.2.2.2.2 kz ca HCA.out;rw[e1] at a7;have y0:=c1 7 _ rfl;have y1:=c1 8 _ rfl;have y2:=c1 9 _ rfl;have y3:=c1 10 _ rfl;have y4:=c1 11 _ rfl;have y5:=c1 12 _ rfl;have y6:=c1 13 _ rfl;have y7:=c1 14 _ rfl;have HCALL:Hid (∀ W,Below w7.heap.size w7 W->Calls Tryz.prog 36 #[exOf ca.2 r1,.int .i64 ((d+1:Nat):Int),.int .i64 ((M-L7.length:Nat):Int)] W (PartsMade ((ca.2.parts (d+1)).take (M-L7.length)) W)):=zb (fun W h=>HBOD.out ca (List.mem_of_getElem? HCA.out) r1 W (d+1) (M-L7.length) (by have:=HLL.out.1;omega) (j1.below h));have HNZ:Hid (L7++(ca.2.parts (d+1)).take (M-L7.length)=((x.hd.pos,d)::(partsN (d+1) x.args++partsA (d+1) (x.arms.take (kz+1)))).take M):=zb (by
            rw[zfd (G:=ca.2.parts (d+1)) HNL.out,zfF HCA.out];simp only[List.cons_append,List.append_assoc])
           have HNM:Hid (((ca.2.parts (d+1)).take (M-L7.length)).length<=M-L7.length):=zb (by rw[List.length_take];omega);clear c1 e1 i1 j1 HCA HNL hl7;generalize (ca.2.parts (d+1)).take (M-L7.length)=NZ at *;unfold exOf exV at HCALL
           go_wp2_with fail
           refine(HCALL.out _ (Below.refl _ _)).mono ?_;rintro e w8 ⟨vn,rfl,hb8,hr8⟩;clear HCALL y0 y1 y2 y3 y4 y5 y6 y7 l1 a0 a1 a2 a3 a4 a5 a6 a7 al h3 h4 E6;have HR8:=zb hr8;have HRO:=zb (HR7.out.below hb8);have HB8:=zb (HV7.out.trans (hb8.mono HV7.out.size));clear hb8 hr8 HR7
           go_wp2_with (at_builtin;refine ze6 rfl (.tmp 72) (.tmp 85) rfl _ _ L7 NZ rfl rfl HRO.out HR8.out (by have:=HNM.out;have:=HLL.out.2;omega) HB8.out.size ?_)
           intro v9 w9 hr9 hb9;obtain⟨a9v,c9v,rfl⟩:=hr9.form;have HR9:=zb hr9;have HV9:=zb (HB8.out.trans hb9);clear hr9 hb9 HR8 HRO HB8
           go_wp2_with fail
           go_roundw
           case rel=>exact⟨kz+1,L7++NZ,by omega,by go_num,⟨_,_,rfl⟩,by rw[List.length_append];have:=HLL.out.1;omega,by rw[List.length_append];have:=HNM.out;have:=HLL.out.2;omega,HV9,HR9,HNZ⟩
           case measure=>simp [intOf];omega
         . have l2:decide ((Lz.length:Int)<(M:Int))=false:=decide_eq_false (by omega);have l3:¬(Lz.length:Int)<(M:Int):=by omega
           have HNN:Hid (Lz=(x.parts d).take M):=zb (by
            rw[zfh,zfG (d:=d+1) (l:=x.arms) kz];have h9:=zfn (G:=partsA (d+1) (x.arms.drop kz)) HL.out hl2
            simpa only[List.cons_append,List.append_assoc] using h9)
           have HBN:=zb (HB0.out.trans (HV.out.mono HB0.out.size));have HRN:=zb (HR.out.mono HB0.out.size);clear HL
           go_wp2_with fail
           go_ret;exact⟨_,rfl,HBN.out,by rw[← HNN.out];exact HRN.out⟩
       . have h2:decide ((kz:Int)<(x.arms.length:Int))=false:=decide_eq_false (by omega);have h3:¬(kz:Int)<(x.arms.length:Int):=by omega
         have HNN:Hid (Lz=(x.parts d).take M):=zb (by
          rw[zfh];have h9:=HL.out
          rwa [List.take_of_length_le (l:=x.arms) (by omega)] at h9)
         have HBN:=zb (HB0.out.trans (HV.out.mono HB0.out.size));have HRN:=zb (HR.out.mono HB0.out.size);clear HL
         go_wp2_with fail
         go_ret;exact⟨_,rfl,HBN.out,by rw[← HNN.out];exact HRN.out⟩
  . have h2:decide ((k:Int)<(x.args.length:Int))=false:=decide_eq_false (by omega);have h3:¬(k:Int)<(x.args.length:Int):=by omega
    have HN:Hid (L=((x.hd.pos,d)::partsN (d+1) x.args).take M):=zb (by have h9:=HL.out;rwa [List.take_of_length_le (l:=x.args) (by omega)] at h9);clear HL;have HLE2:Hid (x.arms.length<=9223372036854775807):=zb HX.out.look.2.2.2.1
    go_wp2_with fail
    clear h2 h3 a0 a1 a2 a3 a4 a5 a6 a7 al
    go_loopw [7,9] (fun vo vk wr=>(∃(k:Nat) (L:List (Int×Nat)),k<=x.arms.length/\vk=.int .i64 k/\(∃ a c,vo=.slice a L.length c)/\1<=L.length/\L.length<=M/\Hid (Below W0.heap.size W0 wr)/\Hid (PartRow W0.heap.size wr vo L)/\Hid (L=((x.hd.pos,d)::(partsN (d+1) x.args++partsA (d+1) (x.arms.take k))).take M))) (fun _ vk _=>x.arms.length-(intOf vk).toNat)
    case atStart=>exact⟨0,L,Nat.zero_le _,by go_num,⟨_,_,rfl⟩,hL1,hLM,HV,HR,zb (by show L=((x.hd.pos,d)::(partsN (d+1) x.args++partsA (d+1) [])).take M;show L=((x.hd.pos,d)::(partsN (d+1) x.args++[])).take M;rw[List.append_nil];exact HN.out)⟩
    case round =>
     clear HV HR HN hL1 hLM;obtain⟨kz,Lz,hk,rfl,⟨vA,vC,rfl⟩,hL1,hLM,HV,HR,HL⟩:=hrel;obtain⟨a0,a1,a2,a3,a4,a5,a6,a7,af⟩:=Box8.cells (Box8.below HPX.out HV.out);have al:=Box8.lt (Box8.below HPX.out HV.out);clear af;by_cases hk2:kz<x.arms.length
     . have h2:decide ((kz:Int)<(x.arms.length:Int))=true:=decide_eq_true (by omega);have h3:(kz:Int)<(x.arms.length:Int):=by omega
       by_cases hl2:Lz.length<M
       . have l2:decide ((Lz.length:Int)<(M:Int))=true:=decide_eq_true (by omega);have l3:(Lz.length:Int)<(M:Int):=by omega
         have h4:(0:Int)<=(kz:Int):=by omega
         have E5:IntKind.i64.wrap ((kz:Int)+1)=(kz:Int)+1:=by rw[IntKind.wrap_i64];have:=HLE2.out;omega
         have E6:IntKind.i64.wrap ((M:Int)-(Lz.length:Int))=((M-Lz.length:Nat):Int):=by rw[IntKind.wrap_i64];omega
         obtain⟨ca,hca⟩:∃ a,x.arms[kz]? = some a:=⟨_,List.getElem?_eq_getElem hk2⟩;have HCA:=zb hca;obtain⟨g1,o1,t1,r1,e1,l1,i1,j1,c1⟩:=(HX.out.below HV.out).look.2.2.2.2.2 kz ca hca;rw[e1] at a7;have x0:=c1 0 _ rfl;have x1:=c1 1 _ rfl;have x2:=c1 2 _ rfl;have x3:=c1 3 _ rfl;have x4:=c1 4 _ rfl;have x5:=c1 5 _ rfl;have x6:=c1 6 _ rfl;rw[Nat.add_zero] at x0;have HCALL:Hid (∀ W,Below wr.heap.size wr W->Calls Tryz.prog 50 #[paOf ca.1 t1,.int .i64 ((d+1:Nat):Int),.int .i64 ((M-Lz.length:Nat):Int)] W (PartsMade ((ca.1.parts (d+1)).take (M-Lz.length)) W)):=zb (fun W h=>HPAT.out ca (List.mem_of_getElem? hca) t1 W (d+1) (M-Lz.length) (by omega) (i1.below h));have HTL:=zfd (G:=ca.1.parts (d+1)) HL.out;have HNL:Hid (Lz++(ca.1.parts (d+1)).take (M-Lz.length)=((x.hd.pos,d)::(partsN (d+1) x.args++partsA (d+1) (x.arms.take kz))++ca.1.parts (d+1)).take M):=zb HTL;have HNM:Hid (((ca.1.parts (d+1)).take (M-Lz.length)).length<=M-Lz.length):=zb (by rw[List.length_take];omega);clear c1 e1 i1 j1 hca HL HTL hl2;generalize (ca.1.parts (d+1)).take (M-Lz.length)=NL at *;unfold paOf at HCALL
         go_wp2_with fail
         refine(HCALL.out _ (Below.refl _ _)).mono ?_;rintro e w6 ⟨vn,rfl,hb6,hr6⟩;clear HCALL x0 x1 x2 x3 x4 x5 x6 l1 a0 a1 a2 a3 a4 a5 a6 a7 al h2 l2 l3 E6;have HR6:=zb hr6;have HRO:=zb (HR.out.below hb6);have HB6:=zb (HV.out.trans (hb6.mono HV.out.size));clear hb6 hr6 HR
         go_wp2_with (at_builtin;refine ze6 rfl (.tmp 57) (.tmp 70) rfl _ _ Lz NL rfl rfl HRO.out HR6.out (by have:=HNM.out;omega) HB6.out.size ?_)
         intro v7 w7 hr7 hb7;obtain⟨a7v,c7v,rfl⟩:=hr7.form;have HR7:=zb hr7;have HV7:=zb (HB6.out.trans hb7);clear hr7 hb7 HR6 HRO HB6;have HLL:Hid (1<=(Lz++NL).length/\(Lz++NL).length<=M):=zb ⟨by rw[List.length_append];omega,by rw[List.length_append];have:=HNM.out;omega⟩;clear HNM HV;generalize Lz++NL=L7 at *;clear hL1 hLM;have hl7:=HLL.out.2;obtain⟨a0,a1,a2,a3,a4,a5,a6,a7,af⟩:=Box8.cells (Box8.below HPX.out HV7.out);have al:=Box8.lt (Box8.below HPX.out HV7.out);clear af;have E6:IntKind.i64.wrap ((M:Int)-(L7.length:Int))=((M-L7.length:Nat):Int):=by rw[IntKind.wrap_i64];omega
         obtain⟨g1,o1,t1,r1,e1,l1,i1,j1,c1⟩:=(HX.out.below HV7.out).look.2.2.2.2.2 kz ca HCA.out;rw[e1] at a7;have y0:=c1 7 _ rfl;have y1:=c1 8 _ rfl;have y2:=c1 9 _ rfl;have y3:=c1 10 _ rfl;have y4:=c1 11 _ rfl;have y5:=c1 12 _ rfl;have y6:=c1 13 _ rfl;have y7:=c1 14 _ rfl;have HCALL:Hid (∀ W,Below w7.heap.size w7 W->Calls Tryz.prog 36 #[exOf ca.2 r1,.int .i64 ((d+1:Nat):Int),.int .i64 ((M-L7.length:Nat):Int)] W (PartsMade ((ca.2.parts (d+1)).take (M-L7.length)) W)):=zb (fun W h=>HBOD.out ca (List.mem_of_getElem? HCA.out) r1 W (d+1) (M-L7.length) (by have:=HLL.out.1;omega) (j1.below h));have HNZ:Hid (L7++(ca.2.parts (d+1)).take (M-L7.length)=((x.hd.pos,d)::(partsN (d+1) x.args++partsA (d+1) (x.arms.take (kz+1)))).take M):=zb (by
          rw[zfd (G:=ca.2.parts (d+1)) HNL.out,zfF HCA.out];simp only[List.cons_append,List.append_assoc])
         have HNM:Hid (((ca.2.parts (d+1)).take (M-L7.length)).length<=M-L7.length):=zb (by rw[List.length_take];omega);clear c1 e1 i1 j1 HCA HNL hl7;generalize (ca.2.parts (d+1)).take (M-L7.length)=NZ at *;unfold exOf exV at HCALL
         go_wp2_with fail
         refine(HCALL.out _ (Below.refl _ _)).mono ?_;rintro e w8 ⟨vn,rfl,hb8,hr8⟩;clear HCALL y0 y1 y2 y3 y4 y5 y6 y7 l1 a0 a1 a2 a3 a4 a5 a6 a7 al h3 h4 E6;have HR8:=zb hr8;have HRO:=zb (HR7.out.below hb8);have HB8:=zb (HV7.out.trans (hb8.mono HV7.out.size));clear hb8 hr8 HR7
         go_wp2_with (at_builtin;refine ze6 rfl (.tmp 72) (.tmp 85) rfl _ _ L7 NZ rfl rfl HRO.out HR8.out (by have:=HNM.out;have:=HLL.out.2;omega) HB8.out.size ?_)
         intro v9 w9 hr9 hb9;obtain⟨a9v,c9v,rfl⟩:=hr9.form;have HR9:=zb hr9;have HV9:=zb (HB8.out.trans hb9);clear hr9 hb9 HR8 HRO HB8
         go_wp2_with fail
         go_roundw
         case rel=>exact⟨kz+1,L7++NZ,by omega,by go_num,⟨_,_,rfl⟩,by rw[List.length_append];have:=HLL.out.1;omega,by rw[List.length_append];have:=HNM.out;have:=HLL.out.2;omega,HV9,HR9,HNZ⟩
         case measure=>simp [intOf];omega
       . have l2:decide ((Lz.length:Int)<(M:Int))=false:=decide_eq_false (by omega);have l3:¬(Lz.length:Int)<(M:Int):=by omega
         have HNN:Hid (Lz=(x.parts d).take M):=zb (by
          rw[zfh,zfG (d:=d+1) (l:=x.arms) kz];have h9:=zfn (G:=partsA (d+1) (x.arms.drop kz)) HL.out hl2
          simpa only[List.cons_append,List.append_assoc] using h9)
         have HBN:=zb (HB0.out.trans (HV.out.mono HB0.out.size));have HRN:=zb (HR.out.mono HB0.out.size);clear HL
         go_wp2_with fail
         go_ret;exact⟨_,rfl,HBN.out,by rw[← HNN.out];exact HRN.out⟩
     . have h2:decide ((kz:Int)<(x.arms.length:Int))=false:=decide_eq_false (by omega);have h3:¬(kz:Int)<(x.arms.length:Int):=by omega
       have HNN:Hid (Lz=(x.parts d).take M):=zb (by
        rw[zfh];have h9:=HL.out
        rwa [List.take_of_length_le (l:=x.arms) (by omega)] at h9)
       have HBN:=zb (HB0.out.trans (HV.out.mono HB0.out.size));have HRN:=zb (HR.out.mono HB0.out.size);clear HL
       go_wp2_with fail
       go_ret;exact⟨_,rfl,HBN.out,by rw[← HNN.out];exact HRN.out⟩
theorem zgj:∀(n:Nat) (x:Nd) (s:Sl) (w:World) (d M:Nat),x.size<=n->d+M<=40000->IsE w (fun _=>True) (exL x s) x->Calls Tryz.prog 36 #[exOf x s,.int .i64 (d:Nat),.int .i64 (M:Nat)] w (PartsMade ((x.parts d).take M) w)
 | 0,x,_,_,_,_,h,_,_=>absurd h (by cases x;show ¬(1+_+_<=0);omega)
 | n+1,x,s,w,d,M,h,hd,hx=>zgc x s w d M hd hx (fun a ha t W d' M' hd' h1=>zgj n a t W d' M' (by have:=xO ha;omega) hd' h1) (fun c hc t W d' M' hd' h1=>zfs _ c.1 t W d' M' (Nat.le_refl _) hd' h1) (fun c hc t W d' M' hd' h1=>zgj n c.2 t W d' M' (by have:=(uX hc).2;omega) hd' h1)
