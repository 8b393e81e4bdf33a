/-
  show's putPat: the closures' bodies, a pattern's node, the walk.
-/
import Derived.Test.YtblonfjlcfjodaaGreatDoorSPut
namespace Go.Proofs.YtblonfjlcfjodaaGreatDoor
set_option linter.unusedSimpArgs false
set_option linter.unusedVariables false
set_option maxRecDepth 100000
set_option maxHeartbeats 8000000
section
open Go.RowKit
def hdFit (h:Hd):Prop:=h.name.length<=70000/\h.s.length<=70000/\h.labels.length<=70000/\(∀ t∈h.labels,t.length<=70000)/\-9223372036854775808<=h.n/\h.n<=9223372036854775807
mutual
def Nd.fit:Nd->Prop
 | .mk h args arms=>hdFit h/\args.length<=70000/\arms.length<=70000/\fitN args/\fitA arms
def fitN:List Nd->Prop
 | []=>True
 | x::l=>x.fit/\fitN l
def fitA:List (Nd×Nd)->Prop
 | []=>True
 | (p,b)::l=>p.fit/\b.fit/\fitA l
end
theorem zeU:∀{l:List Nd} {i:Nat} {x:Nd},fitN l->l[i]? = some x->x.fit
 | _::_,0,_,h,hx=>by obtain rfl:=zc hx;exact h.1
 | _::_,i+1,_,h,hx=>zeU (i:=i) h.2 hx
theorem zeS:∀{l:List (Nd×Nd)} {i:Nat} {x:Nd×Nd},fitA l->l[i]? = some x->x.1.fit/\x.2.fit
 | (_,_)::_,0,_,h,hx=>by obtain rfl:=zc hx;exact⟨h.1,h.2.1⟩
 | (_,_)::_,i+1,_,h,hx=>zeS (i:=i) h.2.2 hx
theorem zaE:∀{l:List Nd} {i:Nat} {x:Nd},l[i]? = some x->(showPs l)[i]? = some (showP x)
 | _::_,0,_,hx=>by obtain rfl:=zc hx;rfl
 | _::l,i+1,_,hx=>zaE (l:=l) (i:=i) hx
theorem xE:∀ l:List Nd,(showPs l).length=l.length
 | []=>rfl
 | _::l=>congrArg (· + 1) (xE l)
theorem zaA:∀{l:List Nd} {i:Nat} {x:Nd},l[i]? = some x->(showEs l)[i]? = some (showE x)
 | _::_,0,_,hx=>by obtain rfl:=zc hx;rfl
 | _::l,i+1,_,hx=>zaA (l:=l) (i:=i) hx
theorem yI:∀ l:List Nd,(showEs l).length=l.length
 | []=>rfl
 | _::l=>congrArg (· + 1) (yI l)
theorem zaz:∀{l:List (Nd×Nd)} {i:Nat} {x:Nd×Nd},l[i]? = some x->(showAs l)[i]? = some (armV (showP x.1) (showE x.2))
 | (_,_)::_,0,_,hx=>by obtain rfl:=zc hx;rfl
 | (_,_)::l,i+1,_,hx=>zaz (l:=l) (i:=i) hx
theorem yL:∀ l:List (Nd×Nd),(showAs l).length=l.length
 | []=>rfl
 | (_,_)::l=>congrArg (· + 1) (yL l)
def PutsP (x:Nd):Prop:=∀(b:Nat) (s:Sl) (l:List UInt8) (w:World),IsP w (fun i=>i<b) (paL x s) x->Bd b l w->Tab w->4 < b->Calls Tryz.prog 49 #[.pointer (some ⟨b,0,none⟩),paOf x s] w (Wrote b l (showP x) w)
def PutsE (x:Nd):Prop:=∀(b:Nat) (s:Sl) (l:List UInt8) (w:World),IsE w (fun i=>i<b) (exL x s) x->Bd b l w->Tab w->4 < b->Calls Tryz.prog 42 #[.pointer (some ⟨b,0,none⟩),exOf x s] w (Wrote b l (showE x) w)
theorem clos_P (x:Nd) (h:PutsP x) (b p3 p7:Nat) (s:Sl) (l:List UInt8) (w:World) (hc:CapAt w p3 p7 49 89 (paL x s) 39) (hx:IsP w (fun i=>i<b) (paL x s) x) (hd:Bd b l w) (ht:Tab w) (hb : 4 < b) :
 Calls Tryz.prog 157 #[.pointer (some ⟨b,0,none⟩),.pointer (some ⟨p3,0,none⟩),.pointer (some ⟨p7,0,none⟩)] w (Wrote b l (showP x) w):=by
 have HC:=zb (h b s l w hx hd ht hb);obtain⟨h3,h7⟩:=hc;have c3:w.cell? ⟨p3,0,none⟩=some (.func (.func 49) #[] #[]):=by rw[zf h3];rfl
 obtain⟨k0,k1,k2,k3,k4,k5,k6,kf⟩:=Box7.cells (show Box7 w p7 39 _ _ _ _ _ _ _ from h7)
 clear h hx hd ht hb h3 h7 kf;unfold paOf at HC
 go_enter Tryz.func157, Tryz.ntmps157
 go_wp2_with fail
 refine HC.out.mono ?_;intro e w2 hw;generalize showP x=r at *;cases r with
 | none =>
  obtain⟨rfl,h2⟩:=hw;unfold errEnd
  go_wp2
  exact⟨rfl,rfl,h2⟩
 | some t =>
  obtain⟨rfl,h2⟩:=hw
  go_wp2
  go_end0
  exact⟨rfl,h2⟩
theorem writer_P (x:Nd) (h:PutsP x) (b:Nat) (w:World) (f:Value) (hc:ClosP b w f x) (ht:Tab w) (hb : 4 < b):Writer b w f (showP x):=by
 obtain⟨p3,p7,s,rfl,h2,h3⟩:=id hc;refine⟨_,_,rfl,enters_of Tryz.func157 (by kernel_rfl) rfl,fun w' l hk hbl hd=>?_⟩;exact clos_P x h b p3 p7 s l w' ⟨hk _ _ _ _ h2.1 (by decide) (by decide) (by decide) (by decide),hk _ _ _ _ h2.2 (by decide) (by decide) (by decide) (by decide)⟩ (h3.move (zt hbl)) hd (var?_below hbl zL hb ht) hb
theorem rows_P {b:Nat} {w:World} {l:List Nd} {a:Option Addr} {c:Nat} (h:Rows (ClosP b) l w (.slice a l.length c)) (hp:∀ x∈l,PutsP x) (ht:Tab w) (hb : 4 < b):WRows b w a c (showPs l):=by
 obtain⟨fs,h1,h2,h3⟩:=h;refine⟨fs,by rw[xE];exact h1,by rw[xE];exact h2,fun i f r hf hr=>?_⟩;obtain⟨x,hx⟩:∃ x,l[i]? = some x:=⟨_,List.getElem?_eq_getElem (by rw[← h2];exact(List.getElem?_eq_some_iff.1 hf).1)⟩;rw[zaE hx] at hr;obtain rfl:=zc hr;exact writer_P x (hp x (List.mem_of_getElem? hx)) b w f (h3 i f x hf hx) ht hb
end
section
open Go.RowKit
theorem yS {b q:Nat} {l:List UInt8} {r:Option (List UInt8)} {w v u:World} {e:Ending} (h:KeptB b w v) (hb:Below b w v) (hq:w.heap.size<=q) (hw:WroteQ b q l r v e u):Wrote b l r w e u:=by
 cases r with
 | none=>exact⟨hw.1,hb.trans hw.2⟩
 | some t=>exact⟨hw.1,h.hide hw.2.1 fun i e=>Or.inr (by rw[e];exact hq),hw.2.2⟩
theorem tX {L:List (List UInt8)} (h:L.all (fun f=>f.all (fun c=>decide (c.toNat<128))&&decide (f.length<=1000))=true) (n:Int):(∀ c∈pickV n L,c.toNat<128)/\(pickV n L).length<=1000:=by
 unfold pickV
 split
 . exact⟨(fun c hc=>by cases hc),(by decide)⟩
 . rcases hh:L[n.toNat]? with _ | f
   . exact⟨(fun c hc=>by cases hc),(by show 0<=1000;decide)⟩
   . have h1:=List.all_eq_true.1 h f (List.mem_of_getElem? hh);simp only[Bool.and_eq_true,decide_eq_true_eq] at h1;exact⟨fun c hc=>by simpa using List.all_eq_true.1 h1.1 c hc,h1.2⟩
theorem tL (n:Int):(∀ c∈pickV n patForms,c.toNat<128)/\(pickV n patForms).length<=1000:=tX (by kernel_rfl) n
theorem op_ascii (n:Int):(∀ c∈pickV n opForms,c.toNat<128)/\(pickV n opForms).length<=1000:=tX (by kernel_rfl) n
theorem uH (n:Int):(∀ c∈pickV n exprForms,c.toNat<128)/\(pickV n exprForms).length<=1000:=tX (by kernel_rfl) n
theorem node_n {b q:Nat} {x:Sn} {la aa ra:Option Addr} {lc ac rc:Nat} {l:List UInt8} {w:World} (h:NodeAt b w q x la lc aa ac ra rc) (hd:Bd b l w) (v:Int) :
 NodeAt b (w.setCell ⟨q,1,none⟩ (.int .i64 v)) q { x with n:=v } la lc aa ac ra rc:=by
 obtain⟨_,_,h4,_⟩:=yA (i:=1) (v:=.int .i64 v) h.block hd h.above;refine⟨?_,h.above,h.labels.move (zt h4),h.args.set h.block hd h.above,h.arms.set h.block hd h.above⟩;rw[zn h.block 1 _];rfl
theorem NodeAt.below {b q:Nat} {w w':World} {l:List UInt8} {x:Sn} {la aa ra:Option Addr} {lc ac rc:Nat} (h:NodeAt b w q x la lc aa ac ra rc) (hb:Below w.heap.size w w') (hd:Bd b l w):NodeAt b w' q x la lc aa ac ra rc:=h.kept (KeptX.below hb hd.lt) hd
theorem tS (z:Int):wrap64 z=(z+9223372036854775808) % 18446744073709551616-9223372036854775808:=by first | rfl | (unfold wrap64;omega) | (unfold wrap64;split <;> omega)
def snP (x:Nd):Sn:=⟨x.hd.name,x.hd.n,x.hd.s,x.hd.labels,showPs x.args,[]⟩
theorem showP_eq (x:Nd):showP x=patV x.hd (showPs x.args):=by cases x;rfl
theorem fit_snP {x:Nd} (h:x.fit):(snP x).small:=by
 obtain⟨hd,args,arms⟩:=x;obtain⟨⟨h1,h2,h3,h4,h5,h6⟩,h7,_⟩:=h;exact⟨h1,h2,h3,h4,by show(showPs args).length<=_;rw[xE];exact h7,Nat.zero_le _,h5,h6⟩
theorem zcR (x:Nd) (hf:x.fit) (ih:∀ a∈x.args,PutsP a):PutsP x:=by
 intro b s l w hx hd ht hb;obtain⟨-,hlab,hac,-,hle⟩:=hx.look;have hb1:=zj (w:=w) (paObj x s);have HB1:=zb hb1;have HBW:Hid (b<=w.heap.size):=zb (Nat.le_of_lt hd.lt);have HLE:=zb (show LookP b (w.alloc (paObj x s)) s.aa x.args from LookP.below hle hb1 HBW.out)
 have HLT:Hid (w.heap.size<(w.alloc (paObj x s)).heap.size):=zb (by simp);have HX:Hid (PaBox (w.alloc (paObj x s)) w.heap.size x s):=zb (PaBox.new w x s);have HAC:=zb hac;have HD:=zb hd;have HT:=zb ht;have HTB:=zb hb;have HF:=zb hf;have HIH:=zb ih;have HLB:=zb hlab;have HN0:Hid (x.args.length<=100000):=zb (by have:=(fit_snP hf).2.2.2.2.1;simp only[snP,xE] at this;omega);clear hx hd ht hb hf ih hlab hac hle hb1;unfold paOf
 go_enter Tryz.func49, Tryz.ntmps49
 go_upto_region 1 with fail
 obtain⟨k0,k1,k2,k3,k4,k5,k6,kf⟩:=Box7.cells HX.out;clear kf;have HGO:Hid (Below (w.alloc (paObj x s)).heap.size (w.alloc (paObj x s)) (w.alloc (paObj x s)).drew):=zb (Below.refl _ _).drew;generalize w.alloc (paObj x s)=w1 at *;generalize HQ0:w.heap.size=q0 at *;have HQ:=zb HQ0;clear HQ0
 go_region_held3 (fun W=>W.cell? ⟨q0,2,none⟩=some (.string ⟨x.hd.name.toArray⟩)/\W.cell? ⟨q0,3,none⟩=some (.int .i64 x.hd.n)/\W.cell? ⟨q0,4,none⟩=some (.string ⟨x.hd.s.toArray⟩)/\W.cell? ⟨q0,5,none⟩=some (.slice s.la x.hd.labels.length s.lc)/\W.cell? ⟨q0,6,none⟩=some (.slice s.aa x.args.length s.ac)) (go_keep)
  ((go_at_call 91; refine(zdm b s.aa s.ac x.args _ (HLE.out.below HGO.out (Nat.le_trans HBW.out (Nat.le_of_lt HLT.out))) (Nat.le_trans HBW.out (Nat.le_of_lt HLT.out)) HAC.out HN0.out).mono ?_;rintro e W1 ⟨hb9,v9,fs9,rfl,⟨ae,ce,rfl,hr1,hr2⟩,hl9,hC9,-⟩;rw[hl9];have HRR:Hid (Rows (ClosP b) x.args W1 (.slice ae x.args.length ce)):=zb ⟨fs9,⟨ae,ce,by rw[hl9],hr1,hr2⟩,hl9,hC9⟩;have HBW1:=zb (HGO.out.trans (hb9.mono HGO.out.size));clear hb9 hr1 hr2 hl9 hC9;obtain⟨-,-,j2,j3,j4,j5,j6,-⟩:=Box7.cells (Box7.below HX.out HBW1.out)))
 rename_i hH;clear hH j2 j3 j4 j5 j6 k0 k1 k2 k3 k4 k5 k6;have hb9:=zj (w:=W1) (.cells #[.string ⟨x.hd.name.toArray⟩,.int .i64 x.hd.n,.string ⟨x.hd.s.toArray⟩,.slice s.la x.hd.labels.length s.lc,.slice ae x.args.length ce,.slice none 0 0] 136 (0,0));have hq1:q0<=W1.heap.size:=Nat.le_trans (Nat.le_of_lt HLT.out) HBW1.out.size;have HW2:=zb ((HB1.out.trans (HBW1.out.mono (Nat.le_of_lt HLT.out))).trans (hb9.mono hq1));have HNB:=zb (heap_alloc_new W1 (.cells #[.string ⟨x.hd.name.toArray⟩,.int .i64 x.hd.n,.string ⟨x.hd.s.toArray⟩,.slice s.la x.hd.labels.length s.lc,.slice ae x.args.length ce,.slice none 0 0] 136 (0,0)));have HRR2:Hid (Rows (ClosP b) x.args (W1.alloc (.cells #[.string ⟨x.hd.name.toArray⟩,.int .i64 x.hd.n,.string ⟨x.hd.s.toArray⟩,.slice s.la x.hd.labels.length s.lc,.slice ae x.args.length ce,.slice none 0 0] 136 (0,0))) (.slice ae x.args.length ce)):=zb (HRR.out.below hb9 fun f y hf=>hf.keep (KT.below hb9) (hb9.mono (Nat.le_trans HBW.out hq1)));have HX2:=zb (PaBox.below (PaBox.below HX.out HBW1.out) hb9);have HQ1:=zb hq1;clear hb9 hq1 HRR HX HBW1 HGO HB1 HLE HLT HN0 HAC;generalize W1.alloc (.cells #[.string ⟨x.hd.name.toArray⟩,.int .i64 x.hd.n,.string ⟨x.hd.s.toArray⟩,.slice s.la x.hd.labels.length s.lc,.slice ae x.args.length ce,.slice none 0 0] 136 (0,0))=W2 at *;generalize W1.heap.size=q at *;have HBB:=zb (HW2.out.mono HBW.out);have HT2:Hid (Tab W2):=zb (var?_below HBB.out zL HTB.out HT.out);have HD2:Hid (Bd b l W2):=zb (HD.out.new (by rw[HQ.out];exact HW2.out));have HNA:Hid (NodeAt b W2 q (snP x) s.la s.lc ae ce none 0):=zb ⟨by
  have h9:=HNB.out;show W2.heap[q]? = some (.cells #[.string ⟨x.hd.name.toArray⟩,.int .i64 x.hd.n,.string ⟨x.hd.s.toArray⟩,.slice s.la x.hd.labels.length s.lc,.slice ae (showPs x.args).length ce,.slice none 0 0] 136 (0,0));rw[xE];exact h9,Nat.le_trans HBW.out HQ1.out,HLB.out.move (zt HBB.out),rows_P HRR2.out HIH.out HT2.out HTB.out,qI _ _ _ _⟩
 have HSM:=zb (fit_snP HF.out);have HEQ:=zb (showP_eq x);clear HNB HRR2 HLB HIH HF HT;obtain⟨m0,m1,m2,m3,m4,m5,m6,mf⟩:=Box7.cells HX2.out;clear mf m1 m4 m5 m6
 go_wp2_with fail
 refine(s_patForm x.hd.kind _).mono ?_;rintro e W3 ⟨rfl,hb3⟩;clear m0 m2 m3;have HW3:=zb (HW2.out.trans (hb3.mono (by rw[← HQ.out];exact HW2.out.size)));have HK3:Hid (KeptB b w W3):=zb (KeptX.below (by rw[HQ.out];exact(HW2.out.trans (hb3.mono (by rw[← HQ.out];exact HW2.out.size)))) HD.out.lt);have HT3:=zb (Tab.below HT2.out hb3);have HD3:=zb (HD2.out.new hb3);have HN3:=zb (HNA.out.below hb3 HD2.out);have HX3:Hid (PaBox W3 q0 x s):=zb (PaBox.below HX2.out hb3);obtain⟨m0,m1,m2,m3,m4,m5,m6,mf⟩:=Box7.cells HX3.out;clear mf m1 m4 m5 m6 hb3 HW2 HX2 HT2 HD2 HNA HBB;by_cases hk:x.hd.kind=3
 . have K3:(x.hd.kind == 3)=true:=by simpa using hk
   have K2:(x.hd.kind == 2)=false:=by rw[hk];rfl
   have K2n:(x.hd.kind != 2)=true:=by rw[hk];rfl
   by_cases hn:x.hd.n<0
   . have N1:(x.hd.n<0)=True:=eq_true hn;have HV:Hid (showP x=putV [45,78] { snP x with n:=wrap64 (-x.hd.n) }):=zb (by
      rw[HEQ.out];unfold patV;rw[if_neg (by rw[hk];intro h;cases h.1),if_pos ⟨hk,hn⟩];have e:wrap64 (-x.hd.n)=if x.hd.n=-9223372036854775808 then x.hd.n else -x.hd.n:=by
       have h5:=HSM.out.2.2.2.2.2.2.1;have h6:=HSM.out.2.2.2.2.2.2.2;simp only[snP] at h5 h6;rw[tS]
       split <;> omega
      rw[e];rfl)
     obtain⟨n1,n2,n3,n4⟩:=yA (i:=1) (v:=.int .i64 (wrap64 (-x.hd.n))) HN3.out.block HD3.out HN3.out.above;have HN4:=zb (node_n HN3.out HD3.out (wrap64 (-x.hd.n)));have HD4:=zb n1;have HBW3:=zb ((HW3.out.mono HBW.out).trans n3);have HK4:Hid (KeptB b w (W3.setCell ⟨q,1,none⟩ (.int .i64 (wrap64 (-x.hd.n))))):=zb (HK3.out.hide n2 fun i e=>Or.inr (by rw[e,HQ.out];exact HQ1.out));have HT4:Hid (Tab (W3.setCell ⟨q,1,none⟩ (.int .i64 (wrap64 (-x.hd.n))))):=zb (var?_below n3 zL HTB.out HT3.out);have HS4:Hid (Sn.small { snP x with n:=wrap64 (-x.hd.n) }):=zb ⟨HSM.out.1,HSM.out.2.1,HSM.out.2.2.1,HSM.out.2.2.2.1,HSM.out.2.2.2.2.1,HSM.out.2.2.2.2.2.1,by
      show -9223372036854775808<=wrap64 (-x.hd.n);rw[tS];omega,by
      show wrap64 (-x.hd.n)<=9223372036854775807;rw[tS];omega⟩
     have HM:Hid (PaBox (W3.setCell ⟨q,1,none⟩ (.int .i64 (wrap64 (-x.hd.n)))) q0 x s):=zb ((Below.heap_setCell _ _ _ _ (fun e=>by have h9:=HN3.out.block;rw[show q=q0 from e.symm] at h9;rw[HX3.out] at h9;cases h9)).trans HX3.out)
     have c1:W3.frozen? ⟨q,1,none⟩=false:=Lib.frozen_of_heap HN3.out.block 1;have c2:W3.cell? ⟨q,1,none⟩=some (.int .i64 x.hd.n):=by rw[zf HN3.out.block];rfl
     obtain⟨p0,p1,p2,p3,p4,p5,p6,pf⟩:=Box7.cells HM.out;clear n1 n2 n3 n4 pf p1 p4 p5 p6 hn hk HK3 HD3 HN3 HT3
     go_wp2_with (go_at_call 93; refine(xq _).mono ?_;rintro e w9 ⟨rfl,rfl⟩)
     clear p0 p2 p3 m0 m2 m3 c1 c2;refine(yV b q [45,78] _ s.la ae none s.lc ce 0 l _ HN4.out HD4.out HS4.out (show(∀ c∈([45,78]:List UInt8),c.toNat<128)/\([45,78]:List UInt8).length<=1000 from by decide).1 (show(∀ c∈([45,78]:List UInt8),c.toNat<128)/\([45,78]:List UInt8).length<=1000 from by decide).2 HT4.out HTB.out).mono ?_
     intro e w9 hw;have HFIN:=zb (yS HK4.out HBW3.out (by rw[HQ.out];exact HQ1.out) hw);rw[← HV.out] at HFIN;clear hw HV;generalize showP x=r at *;cases r with
     | none =>
      obtain⟨rfl,-⟩:=id HFIN.out;unfold errEnd
      go_wp2
      exact⟨rfl,HFIN.out⟩
     | some t =>
      obtain⟨rfl,-⟩:=id HFIN.out
      go_wp2
      go_end0
      exact HFIN.out
   . have N1:(x.hd.n<0)=False:=eq_false hn;have HV:Hid (showP x=putV (pickV x.hd.kind patForms) (snP x)):=zb (by
      rw[HEQ.out];unfold patV;rw[if_neg (by rw[hk];intro h;cases h.1),if_neg (fun h=>hn h.2)];rfl)
     have HA:=zb (tL x.hd.kind);clear hn hk
     go_wp2_with (go_at_call 93; refine(xq _).mono ?_;rintro e w9 ⟨rfl,rfl⟩)
     clear m0 m2 m3;refine(yV b q (pickV x.hd.kind patForms) (snP x) s.la ae none s.lc ce 0 l _ HN3.out HD3.out HSM.out HA.out.1 HA.out.2 HT3.out HTB.out).mono ?_;intro e w9 hw;have HFIN:=zb (yS HK3.out (HW3.out.mono HBW.out) (by rw[HQ.out];exact HQ1.out) hw);rw[← HV.out] at HFIN;clear hw HV;generalize showP x=r at *;cases r with
     | none =>
      obtain⟨rfl,-⟩:=id HFIN.out;unfold errEnd
      go_wp2
      exact⟨rfl,HFIN.out⟩
     | some t =>
      obtain⟨rfl,-⟩:=id HFIN.out
      go_wp2
      go_end0
      exact HFIN.out
 . have K3:(x.hd.kind == 3)=false:=by simpa using hk
   by_cases hk2:x.hd.kind=2
   . have K2:(x.hd.kind == 2)=true:=by simpa using hk2
     have K2n:(x.hd.kind != 2)=false:=by rw[hk2];rfl
     by_cases hnm:x.hd.name=[95]
     . have N1:(x.hd.name == [95])=true:=by simpa using hnm
       have HV:Hid (showP x=none):=zb (by
        rw[HEQ.out];unfold patV;rw[if_pos ⟨hk2,hnm⟩])
       have HBW3:=zb (HW3.out.mono HBW.out);clear hk hk2 hnm
       go_wp2_with (go_at_call 93; refine(yR _).mono ?_;rintro e w9 ⟨rfl,rfl⟩;unfold errEnd)
       rw[HV.out];exact⟨rfl,rfl,HBW3.out⟩
     . have N1:(x.hd.name == [95])=false:=by simpa using hnm
       have HV:Hid (showP x=putV (pickV x.hd.kind patForms) (snP x)):=zb (by
        rw[HEQ.out];unfold patV;rw[if_neg (fun h=>hnm h.2),if_neg (fun h=>hk h.1)];rfl)
       have HA:=zb (tL x.hd.kind);clear hk hk2 hnm
       go_wp2_with (go_at_call 93; refine(xq _).mono ?_;rintro e w9 ⟨rfl,rfl⟩)
       clear m0 m2 m3;refine(yV b q (pickV x.hd.kind patForms) (snP x) s.la ae none s.lc ce 0 l _ HN3.out HD3.out HSM.out HA.out.1 HA.out.2 HT3.out HTB.out).mono ?_;intro e w9 hw;have HFIN:=zb (yS HK3.out (HW3.out.mono HBW.out) (by rw[HQ.out];exact HQ1.out) hw);rw[← HV.out] at HFIN;clear hw HV;generalize showP x=r at *;cases r with
       | none =>
        obtain⟨rfl,-⟩:=id HFIN.out;unfold errEnd
        go_wp2
        exact⟨rfl,HFIN.out⟩
       | some t =>
        obtain⟨rfl,-⟩:=id HFIN.out
        go_wp2
        go_end0
        exact HFIN.out
   . have K2:(x.hd.kind == 2)=false:=by simpa using hk2
     have K2n:(x.hd.kind != 2)=true:=by simpa using hk2
     have HV:Hid (showP x=putV (pickV x.hd.kind patForms) (snP x)):=zb (by
      rw[HEQ.out];unfold patV;rw[if_neg (fun h=>hk2 h.1),if_neg (fun h=>hk h.1)];rfl)
     have HA:=zb (tL x.hd.kind);clear hk hk2
     go_wp2_with (go_at_call 93; refine(xq _).mono ?_;rintro e w9 ⟨rfl,rfl⟩)
     clear m0 m2 m3;refine(yV b q (pickV x.hd.kind patForms) (snP x) s.la ae none s.lc ce 0 l _ HN3.out HD3.out HSM.out HA.out.1 HA.out.2 HT3.out HTB.out).mono ?_;intro e w9 hw;have HFIN:=zb (yS HK3.out (HW3.out.mono HBW.out) (by rw[HQ.out];exact HQ1.out) hw);rw[← HV.out] at HFIN;clear hw HV;generalize showP x=r at *;cases r with
     | none =>
      obtain⟨rfl,-⟩:=id HFIN.out;unfold errEnd
      go_wp2
      exact⟨rfl,HFIN.out⟩
     | some t =>
      obtain⟨rfl,-⟩:=id HFIN.out
      go_wp2
      go_end0
      exact HFIN.out
end
section
open Go.RowKit
def aggA (a:Nd×Nd) (s t:Sl):Value:=.agg #[.int .i64 a.1.hd.kind,.int .i64 a.1.hd.pos,.string ⟨a.1.hd.name.toArray⟩,.int .i64 a.1.hd.n,.string ⟨a.1.hd.s.toArray⟩,.slice s.la a.1.hd.labels.length s.lc,.slice s.aa a.1.args.length s.ac,.int .i64 a.2.hd.kind,.int .i64 a.2.hd.pos,.string ⟨a.2.hd.name.toArray⟩,.int .i64 a.2.hd.n,.string ⟨a.2.hd.s.toArray⟩,.slice t.la a.2.hd.labels.length t.lc,.slice t.aa a.2.args.length t.ac,.slice t.ra a.2.arms.length t.rc]
theorem qe {w:World} {q:Nat} {z0 z1 z2 z3 z4 z5 z6 z7 z8 z9 z10 z11 z12 z13 z14:Value} {ty:TypeId} (h:w.heap[q]? = some (.cells #[z0,z1,z2,z3,z4,z5,z6,z7,z8,z9,z10,z11,z12,z13,z14] ty (0,0))) :
 w.cell? ⟨q,0,none⟩=some z0/\w.cell? ⟨q,1,none⟩=some z1/\w.cell? ⟨q,2,none⟩=some z2/\w.cell? ⟨q,3,none⟩=some z3/\w.cell? ⟨q,4,none⟩=some z4/\w.cell? ⟨q,5,none⟩=some z5/\w.cell? ⟨q,6,none⟩=some z6/\w.cell? ⟨q,7,none⟩=some z7/\w.cell? ⟨q,8,none⟩=some z8/\w.cell? ⟨q,9,none⟩=some z9/\w.cell? ⟨q,10,none⟩=some z10/\w.cell? ⟨q,11,none⟩=some z11/\w.cell? ⟨q,12,none⟩=some z12/\w.cell? ⟨q,13,none⟩=some z13/\w.cell? ⟨q,14,none⟩=some z14:=by
 refine⟨?_,?_,?_,?_,?_,?_,?_,?_,?_,?_,?_,?_,?_,?_,?_⟩ <;> (rw[zf h];rfl)
def PutsA (a:Nd×Nd):Prop:=∀(b:Nat) (s t:Sl) (l:List UInt8) (w:World),IsP w (fun i=>i<b) (paL a.1 s) a.1->IsE w (fun i=>i<b) (exL a.2 t) a.2->Bd b l w->Tab w->4 < b->Calls Tryz.prog 139 #[.pointer (some ⟨b,0,none⟩),aggA a s t] w (Wrote b l (armV (showP a.1) (showE a.2)) w)
theorem Wrote.then {b:Nat} {l m t:List UInt8} {r:Option (List UInt8)} {w v u:World} {e:Ending} (h:KeptB b w v) (ha:Adds l t m) (h0:Below b w v) (k:Wrote b m r v e u):Wrote b l (r.map (t++·)) w e u:=by
 cases r with
 | none=>exact⟨k.1,h0.trans k.2⟩
 | some x =>
  obtain⟨k1,k2,n,k3,k4⟩:=k;exact⟨k1,h.trans k2,n,ha.trans k3,k4⟩
theorem s_putArm (a:Nd×Nd) (h1:PutsP a.1) (h2:PutsE a.2):PutsA a:=by
 intro b s t l w hp he hd ht hb;have hb1:=zj (w:=w) (.cells (paL a.1 s++exL a.2 t).toArray 77 (0,0));have hbb:=hb1.mono (Nat.le_of_lt hd.lt);have HP:=zb (h1 b s l _ (hp.move (zt hbb)) (hd.new hb1) (Tab.below ht hb1) hb);have H2:=zb h2;have HE:=zb (he.move (zt hbb));have HB:=zb hbb;have HK:Hid (KeptB b w _):=zb (KeptX.below hb1 hd.lt);have HTB:=zb hb;have HT:=zb (Tab.below ht hb1);have HD:=zb (hd.new hb1);have HBX:=zb (heap_alloc_new w (.cells (paL a.1 s++exL a.2 t).toArray 77 (0,0)));clear hp he hd ht hb h1 h2 hb1 hbb;unfold aggA;unfold paOf at HP
 go_enter Tryz.func139, Tryz.ntmps139
 have hc:=qe (show(w.alloc (.cells (paL a.1 s++exL a.2 t).toArray 77 (0,0))).heap[w.heap.size]? = some (.cells #[.int .i64 a.1.hd.kind,.int .i64 a.1.hd.pos,.string ⟨a.1.hd.name.toArray⟩,.int .i64 a.1.hd.n,.string ⟨a.1.hd.s.toArray⟩,.slice s.la a.1.hd.labels.length s.lc,.slice s.aa a.1.args.length s.ac,.int .i64 a.2.hd.kind,.int .i64 a.2.hd.pos,.string ⟨a.2.hd.name.toArray⟩,.int .i64 a.2.hd.n,.string ⟨a.2.hd.s.toArray⟩,.slice t.la a.2.hd.labels.length t.lc,.slice t.aa a.2.args.length t.ac,.slice t.ra a.2.arms.length t.rc] 77 (0,0)) from HBX.out)
 obtain⟨c0,c1,c2,c3,c4,c5,c6,c7,c8,c9,c10,c11,c12,c13,c14⟩:=hc
 go_wp2_with fail
 refine HP.out.mono ?_;intro e w2 hw;have HW:=zb hw;clear hw HP c0 c1 c2 c3 c4 c5 c6 c7 c8 c9 c10 c11 c12 c13 c14;generalize w.alloc (.cells (paL a.1 s++exL a.2 t).toArray 77 (0,0))=w1 at *;generalize w.heap.size=q0 at *;rcases hr:showP a.1 with _ | sp
 . rw[hr] at HW;obtain⟨rfl,-⟩:=id HW.out;unfold errEnd
   go_wp2
   exact⟨rfl,rfl,HB.out.trans HW.out.2⟩
 . rw[hr] at HW;obtain⟨h9,hk2,m2,ha2,hd2⟩:=id HW.out;subst h9;have HA2:=zb ha2;have HD2:=zb hd2;have HKB:=zb hk2;have HRR:=zb hr;clear ha2 hd2 hk2 hr HW
   go_wp2_with fail
   refine(wG b m2 [32,45,62,32] _ HD2.out (by decide)).mono ?_;rintro e w3 ⟨rfl,hk3,m3,ha3,hd3⟩;have HK3:=zb (HKB.out.trans hk3);have HA3:=zb (HA2.out.trans ha3);have HD3:=zb hd3;have hbx:=HK3.out.at_ HD.out HBX.out id;have hc:=qe (show w3.heap[q0]? = some (.cells #[.int .i64 a.1.hd.kind,.int .i64 a.1.hd.pos,.string ⟨a.1.hd.name.toArray⟩,.int .i64 a.1.hd.n,.string ⟨a.1.hd.s.toArray⟩,.slice s.la a.1.hd.labels.length s.lc,.slice s.aa a.1.args.length s.ac,.int .i64 a.2.hd.kind,.int .i64 a.2.hd.pos,.string ⟨a.2.hd.name.toArray⟩,.int .i64 a.2.hd.n,.string ⟨a.2.hd.s.toArray⟩,.slice t.la a.2.hd.labels.length t.lc,.slice t.aa a.2.args.length t.ac,.slice t.ra a.2.arms.length t.rc] 77 (0,0)) from hbx)
   obtain⟨c0,c1,c2,c3,c4,c5,c6,c7,c8,c9,c10,c11,c12,c13,c14⟩:=hc;have HB3:=zb (HK3.out.under HD.out (fun _ h=>h.elim));have HC:=zb (H2.out b t m3 w3 (HE.out.move (zt HB3.out)) HD3.out (var?_below HB3.out zL HTB.out HT.out) HTB.out);unfold exOf exV at HC;clear hk3 ha3 hd3 hbx H2 HE HKB HA2 HD2 HBX
   go_wp2_with fail
   refine HC.out.mono ?_;intro e w4 hw;have HF:=zb (Wrote.then (HK.out.trans HK3.out) HA3.out (HB.out.trans HB3.out) hw);have HV:Hid (armV (showP a.1) (showE a.2)=(showE a.2).map ((sp++[32,45,62,32])++·)):=zb (by
    rw[HRR.out];cases showE a.2 with
    | none=>rfl
    | some u=>simp [armV])
   rw[← HV.out] at HF;clear hw HV HC c0 c1 c2 c3 c4 c5 c6 c7 c8 c9 c10 c11 c12 c13 c14;clear HRR;generalize armV (showP a.1) (showE a.2)=r at *;cases r with
   | none =>
    obtain⟨rfl,-⟩:=id HF.out;unfold errEnd
    go_wp2
    exact⟨rfl,HF.out⟩
   | some u =>
    obtain⟨rfl,-⟩:=id HF.out
    go_wp2
    go_end0
    exact HF.out
theorem clos_E (x:Nd) (h:PutsE x) (b p3 p7:Nat) (s:Sl) (l:List UInt8) (w:World) (hc:CapAt w p3 p7 42 84 (exL x s) 27) (hx:IsE w (fun i=>i<b) (exL x s) x) (hd:Bd b l w) (ht:Tab w) (hb : 4 < b) :
 Calls Tryz.prog 192 #[.pointer (some ⟨b,0,none⟩),.pointer (some ⟨p3,0,none⟩),.pointer (some ⟨p7,0,none⟩)] w (Wrote b l (showE x) w):=by
 have HC:=zb (h b s l w hx hd ht hb);obtain⟨h3,h7⟩:=hc;have c3:w.cell? ⟨p3,0,none⟩=some (.func (.func 42) #[] #[]):=by rw[zf h3];rfl
 obtain⟨k0,k1,k2,k3,k4,k5,k6,k7,kf⟩:=Box8.cells (show Box8 w p7 27 _ _ _ _ _ _ _ _ from h7)
 clear h hx hd ht hb h3 h7 kf;unfold exOf exV at HC
 go_enter Tryz.func192, Tryz.ntmps192
 go_wp2_with fail
 refine HC.out.mono ?_;intro e w2 hw;generalize showE x=r at *;cases r with
 | none =>
  obtain⟨rfl,h2⟩:=hw;unfold errEnd
  go_wp2
  exact⟨rfl,rfl,h2⟩
 | some t =>
  obtain⟨rfl,h2⟩:=hw
  go_wp2
  go_end0
  exact⟨rfl,h2⟩
theorem clos_A (x:Nd×Nd) (h:PutsA x) (b p3 p7:Nat) (s t:Sl) (l:List UInt8) (w:World) (hc:CapAt w p3 p7 139 182 (paL x.1 s++exL x.2 t) 77) (hx:IsP w (fun i=>i<b) (paL x.1 s) x.1) (hy:IsE w (fun i=>i<b) (exL x.2 t) x.2) (hd:Bd b l w) (ht:Tab w) (hb : 4 < b) :
 Calls Tryz.prog 193 #[.pointer (some ⟨b,0,none⟩),.pointer (some ⟨p3,0,none⟩),.pointer (some ⟨p7,0,none⟩)] w (Wrote b l (armV (showP x.1) (showE x.2)) w):=by
 have HC:=zb (h b s t l w hx hy hd ht hb);obtain⟨h3,h7⟩:=hc;have c3:w.cell? ⟨p3,0,none⟩=some (.func (.func 139) #[] #[]):=by rw[zf h3];rfl
 obtain⟨k0,k1,k2,k3,k4,k5,k6,k7,k8,k9,k10,k11,k12,k13,k14⟩:=qe (show w.heap[p7]? = some (.cells #[_,_,_,_,_,_,_,_,_,_,_,_,_,_,_] _ (0,0)) from h7)
 clear h hx hy hd ht hb h3 h7;unfold aggA at HC
 go_enter Tryz.func193, Tryz.ntmps193
 go_wp2_with fail
 refine HC.out.mono ?_;intro e w2 hw;generalize armV (showP x.1) (showE x.2)=r at *;cases r with
 | none =>
  obtain⟨rfl,h2⟩:=hw;unfold errEnd
  go_wp2
  exact⟨rfl,rfl,h2⟩
 | some t =>
  obtain⟨rfl,h2⟩:=hw
  go_wp2
  go_end0
  exact⟨rfl,h2⟩
theorem writer_E (x:Nd) (h:PutsE x) (b:Nat) (w:World) (f:Value) (hc:ClosE b w f x) (ht:Tab w) (hb : 4 < b):Writer b w f (showE x):=by
 obtain⟨p3,p7,s,rfl,h2,h3⟩:=id hc;refine⟨_,_,rfl,enters_of Tryz.func192 (by kernel_rfl) rfl,fun w' l hk hbl hd=>?_⟩;exact clos_E x h b p3 p7 s l w' ⟨hk _ _ _ _ h2.1 (by decide) (by decide) (by decide) (by decide),hk _ _ _ _ h2.2 (by decide) (by decide) (by decide) (by decide)⟩ (h3.move (zt hbl)) hd (var?_below hbl zL hb ht) hb
theorem writer_A (x:Nd×Nd) (h:PutsA x) (b:Nat) (w:World) (f:Value) (hc:ClosA b w f x) (ht:Tab w) (hb : 4 < b):Writer b w f (armV (showP x.1) (showE x.2)):=by
 obtain⟨p3,p7,s,t,rfl,h2,h3,h4⟩:=id hc;refine⟨_,_,rfl,enters_of Tryz.func193 (by kernel_rfl) rfl,fun w' l hk hbl hd=>?_⟩;exact clos_A x h b p3 p7 s t l w' ⟨hk _ _ _ _ h2.1 (by decide) (by decide) (by decide) (by decide),hk _ _ _ _ h2.2 (by decide) (by decide) (by decide) (by decide)⟩ (h3.move (zt hbl)) (h4.move (zt hbl)) hd (var?_below hbl zL hb ht) hb
theorem rows_E {b:Nat} {w:World} {l:List Nd} {a:Option Addr} {c:Nat} (h:Rows (ClosE b) l w (.slice a l.length c)) (hp:∀ x∈l,PutsE x) (ht:Tab w) (hb : 4 < b):WRows b w a c (showEs l):=by
 obtain⟨fs,h1,h2,h3⟩:=h;refine⟨fs,by rw[yI];exact h1,by rw[yI];exact h2,fun i f r hf hr=>?_⟩;obtain⟨x,hx⟩:∃ x,l[i]? = some x:=⟨_,List.getElem?_eq_getElem (by rw[← h2];exact(List.getElem?_eq_some_iff.1 hf).1)⟩;rw[zaA hx] at hr;obtain rfl:=zc hr;exact writer_E x (hp x (List.mem_of_getElem? hx)) b w f (h3 i f x hf hx) ht hb
theorem rows_A {b:Nat} {w:World} {l:List (Nd×Nd)} {a:Option Addr} {c:Nat} (h:Rows (ClosA b) l w (.slice a l.length c)) (hp:∀ x∈l,PutsA x) (ht:Tab w) (hb : 4 < b):WRows b w a c (showAs l):=by
 obtain⟨fs,h1,h2,h3⟩:=h;refine⟨fs,by rw[yL];exact h1,by rw[yL];exact h2,fun i f r hf hr=>?_⟩;obtain⟨x,hx⟩:∃ x,l[i]? = some x:=⟨_,List.getElem?_eq_getElem (by rw[← h2];exact(List.getElem?_eq_some_iff.1 hf).1)⟩;rw[zaz hx] at hr;obtain rfl:=zc hr;exact writer_A x (hp x (List.mem_of_getElem? hx)) b w f (h3 i f x hf hx) ht hb
end
section
open Go.RowKit
def snE (x:Nd):Sn:=⟨x.hd.name,x.hd.n,x.hd.s,x.hd.labels,showEs x.args,showAs x.arms⟩
theorem zeV {x:Nd} (h:x.fit):(snE x).small:=by
 obtain⟨hd,args,arms⟩:=x;obtain⟨⟨h1,h2,h3,h4,h5,h6⟩,h7,h8,_⟩:=h;exact⟨h1,h2,h3,h4,by show(showEs args).length<=_;rw[yI];exact h7,by show(showAs arms).length<=_;rw[yL];exact h8,h5,h6⟩
theorem showE_eq (x:Nd):showE x=exprV x.hd (showEs x.args) (showAs x.arms) (showF x.args):=by cases x;rfl
theorem node_E {b q:Nat} {w0 w:World} {x:Nd} {s:Sl} (h:NodeE b w0 w q x s) (hq:b<=q) (hl:RowIn w (fun i=>i<b) 9 1 (.slice s.la x.hd.labels.length s.lc) x.hd.labels.length (strCells x.hd.labels)) (hE:∀ a∈x.args,PutsE a) (hA:∀ a∈x.arms,PutsA a) (ht:Tab w) (hb : 4 < b) :
 ∃ ae ce ar cr,NodeAt b w q (snE x) s.la s.lc ae ce ar cr/\RowOwn w0 w (.slice ae x.args.length ce)/\∀ k,(Value.slice ae x.args.length ce).ownBlock=some k->(Value.slice ar x.arms.length cr).ownBlock≠some k:=by
 obtain⟨ve,va,h1,h2,h3,⟨ae,ce,rfl⟩,⟨ar,cr,rfl⟩,h4,h5⟩:=h.ex;refine⟨ae,ce,ar,cr,⟨?_,hq,hl,rows_E h4 hE ht hb,rows_A h5 hA ht hb⟩,h1,h2⟩;show w.heap[q]? = some (.cells #[.string ⟨x.hd.name.toArray⟩,.int .i64 x.hd.n,.string ⟨x.hd.s.toArray⟩,.slice s.la x.hd.labels.length s.lc,.slice ae (showEs x.args).length ce,.slice ar (showAs x.arms).length cr] 136 (0,0));rw[yI,yL];exact h3
theorem node_rec {b q g o:Nat} {x:Sn} {la ra:Option Addr} {lc ac rc:Nat} {l:List UInt8} {w:World} {f:Value} {r0 r1:Option (List UInt8)} {rest:List (Option (List UInt8))} {cur:Array Value} (h:NodeAt b w q x la lc (some ⟨g,o,none⟩) ac ra rc) (hd:Bd b l w) (ha:x.args=r0::rest) (hg:w.heap[g]? = some (.cells cur 138 (0,0))) (hb:b<=g) (hap:(Value.slice ra x.arms.length rc).ownBlock≠some g) (hf:Writer b w f r1) :
 NodeAt b (w.setCell ⟨g,o,none⟩ f) q { x with args:=r1::rest } la lc (some ⟨g,o,none⟩) ac ra rc/\Bd b l (w.setCell ⟨g,o,none⟩ f)/\KeptX (fun i=>i=g) b w (w.setCell ⟨g,o,none⟩ f)/\Below b w (w.setCell ⟨g,o,none⟩ f):=by
 have hn:¬IsB b w g:=hd.other hg (by decide) (by decide);have hB:Below b w (w.setCell ⟨g,o,none⟩ f):=(Below.refl b w).setCell (p:=⟨g,o,none⟩) hb f;have hK:KT w (w.setCell ⟨g,o,none⟩ f):=KT.set hg (Or.inr rfl);have hne:q≠g:=fun e=>by
  have h9:=h.block;rw[e,hg] at h9;injection h9 with h9;injection h9 with _ e9 _;exact absurd e9 (by decide)
 refine⟨⟨?_,h.above,h.labels.move (zt hB),?_,?_⟩,hd.set hn,KeptX.set rfl (fun e=>hn (Or.inl e)),hB⟩
 . rw[Below.heap_setCell _ _ _ _ hne,h.block];show some (Obj.cells #[_,_,_,_,.slice _ x.args.length _,_] _ _)=some (Obj.cells #[_,_,_,_,.slice _ (r1::rest).length _,_] _ _);rw[ha];rfl
 . obtain⟨fs,⟨a',c',h1,h2,h3⟩,h4,h5⟩:=h.args;rw[ha] at h4 h5;rcases fs with _ | ⟨f0,fs⟩
   . cases h4
   . rcases h3 with h3 | ⟨g',o',cur',fr',h6,h7,h8⟩
     . cases h3
     . injection h1 with e1 e2 e3;rw[h6] at e1;injection e1 with e1;injection e1 with e1 e4;subst e1;subst e4;rw[hg] at h7;injection h7 with h7;injection h7 with e5 _ _;subst e5;refine⟨f::fs,⟨_,_,by rw[show(f::fs).length=(r1::rest).length from h4],by rw[show(f::fs).length=(f0::fs).length from rfl,e3];exact h2,Or.inr ⟨g,o,cur.setIfInBounds o f,(0,0),rfl,zn hg o f,fun i f' hi=>?_⟩⟩,h4,fun i f' x' hi hx=>?_⟩
       . rcases i with _ | i
         . obtain rfl:=zc hi;have h10:=h8 0 f0 rfl;have h11:=(Array.getElem?_eq_some_iff.1 h10).1;simp only[Nat.add_zero] at h11 ⊢;rw[Array.getElem?_setIfInBounds_self_of_lt h11]
         . have h10:=h8 (i+1) f' hi;rw[Array.getElem?_setIfInBounds_ne (by omega)];exact h10
       . rcases i with _ | i
         . obtain rfl:=zc hi;obtain rfl:=zc hx;exact hf.keep hK hB
         . exact(h5 (i+1) f' x' hi hx).keep hK hB
 . obtain⟨fs,⟨a',c',h1,h2,h3⟩,h4,h5⟩:=h.arms;refine⟨fs,⟨a',c',h1,h2,h3.imp id ?_⟩,h4,fun i f' x' hi hx=>(h5 i f' x' hi hx).keep hK hB⟩;rintro⟨g',o',cur',fr',h6,h7,h8⟩;refine⟨g',o',cur',fr',h6,(Below.heap_setCell _ _ _ _ fun e=>hap ?_).trans h7,h8⟩;injection h1 with e1 _ _;rw[e1,h6];show some g'=some g;rw[show g'=g from e]
def PutsF (x:Nd):Prop:=∀(b:Nat) (s:Sl) (l:List UInt8) (w:World),IsE w (fun i=>i<b) (exL x s) x->Bd b l w->Tab w->4 < b->Calls Tryz.prog 81 #[.pointer (some ⟨b,0,none⟩),exOf x s] w (Wrote b l (funV x.hd (showEs x.args) (showAs x.arms)) w)
theorem zbR (x:Nd) (hf:x.fit) (hE:∀ a∈x.args,PutsE a) (hA:∀ a∈x.arms,PutsA a):PutsF x:=by
 intro b s l w hx hd ht hb;have hb1:=zj (w:=w) (exObj x s);have hbb:=hb1.mono (Nat.le_of_lt hd.lt);have HX:=zb (hx.move (zt hbb));obtain⟨hlab,hac,-,-,-,-⟩:=HX.out.look;have hrc:x.arms.length<=s.rc:=by
  have h9:=HX.out;cases x;obtain⟨vl,va,vr,h1,-,-,⟨M,⟨⟨a9,c9,h2,h3,-⟩,-⟩,-⟩⟩:=h9;simp only[exL,List.cons.injEq] at h1;obtain⟨-,-,-,-,-,-,-,h1,-⟩:=h1;rw[h2] at h1;injection h1 with _ h4 h5;show _<=s.rc;omega
 have HB1:=zb hb1;have HBW:Hid (b<=w.heap.size):=zb (Nat.le_of_lt hd.lt);have HBX:Hid (ExBox (w.alloc (exObj x s)) w.heap.size x s):=zb (ExBox.new w x s);have HD:=zb (hd.new hb1);have HD0:=zb hd;have HT:=zb (Tab.below ht hb1);have HTB:=zb hb;have HF:=zb (zeV hf);have HE:=zb hE;have HA:=zb hA;have HLB:=zb hlab;have HNN:Hid (x.args.length<=100000/\x.arms.length<=100000/\x.args.length<=s.ac/\x.arms.length<=s.rc):=zb (by
  have h5:=HF.out.2.2.2.2.1;have h6:=HF.out.2.2.2.2.2.1;simp only[snE,yI,yL] at h5 h6;exact⟨by omega,by omega,hac,hrc⟩)
 clear hx hd ht hb hf hE hA hlab hac hrc hb1 hbb;unfold exOf exV
 go_enter Tryz.func81, Tryz.ntmps81
 obtain⟨k0,k1,k2,k3,k4,k5,k6,k7,kf⟩:=Box8.cells HBX.out;clear kf;by_cases hk:x.hd.kind=7
 . have K:(x.hd.kind == 7)=true:=by simpa using hk
   have HV:Hid (funV x.hd (showEs x.args) (showAs x.arms)=putV funForm (snE x)):=zb (by unfold funV;rw[if_pos hk];rfl);clear hk
   go_wp2_with (go_at_call 93; refine(xq _).mono ?_;rintro e w9 ⟨rfl,rfl⟩)
   have hsn:=rx b x s (w.alloc (exObj x s)) HX.out (Nat.le_trans HBW.out HB1.out.size) HNN.out.1 HNN.out.2.1 HNN.out.2.2.1 HNN.out.2.2.2;unfold exOf exV at hsn;refine hsn.mono ?_;rintro e W2 ⟨q,rfl,hb2,hq,hn⟩;have HB2:=zb hb2;have HQ:Hid (w.heap.size<=q):=zb (Nat.le_trans HB1.out.size hq);have HBB:=zb (hb2.mono (Nat.le_trans HBW.out HB1.out.size));have HT2:Hid (Tab W2):=zb (Tab.below HT.out hb2);obtain⟨ae,ce,ar,cr,hna,-,-⟩:=node_E hn (Nat.le_trans HBW.out HQ.out) (HLB.out.move (zt HBB.out)) HE.out HA.out HT2.out HTB.out;have HNA:=zb hna;have HD2:=zb (HD.out.new hb2);have HK2:Hid (KeptB b w W2):=zb ((KeptX.below HB1.out HD0.out.lt).trans (KeptX.below hb2 (zd HD0.out.lt HB1.out.size)));have HBF:Hid (Below b w W2):=zb ((HB1.out.mono HBW.out).trans HBB.out);clear hsn hb2 hq hn hna k0 k1 k2 k3 k4 k5 k6 k7 HBX HX HE HA HLB
   go_wp2_with fail
   refine(yV b q funForm (snE x) s.la ae ar s.lc ce cr l _ HNA.out HD2.out HF.out (by decide) (by decide) HT2.out HTB.out).mono ?_;intro e w9 hw;have HFIN:=zb (yS HK2.out HBF.out HQ.out hw);rw[← HV.out] at HFIN;clear hw HV;generalize funV x.hd (showEs x.args) (showAs x.arms)=r at *;cases r with
   | none =>
    obtain⟨rfl,-⟩:=id HFIN.out;unfold errEnd
    go_wp2
    exact⟨rfl,HFIN.out⟩
   | some t =>
    obtain⟨rfl,-⟩:=id HFIN.out
    go_wp2
    go_end0
    exact HFIN.out
 . have K:(x.hd.kind == 7)=false:=by simpa using hk
   have HV:Hid (funV x.hd (showEs x.args) (showAs x.arms)=none):=zb (by unfold funV;rw[if_neg hk]);clear hk
   go_wp2_with (go_at_call 93; refine(yR _).mono ?_;rintro e w9 ⟨rfl,rfl⟩;unfold errEnd)
   rw[HV.out];exact⟨rfl,rfl,HB1.out.mono HBW.out⟩
end
section
open Go.RowKit
@[local go_sem] theorem store_closure (P:Program) (w:World) (a:Addr) (m:Mode) (fn:Fn) (l r:Array Value):(store a (.func fn l r) m).run P w=stored P w a (.func fn l r) m:=run_store P w a _ m rfl
theorem zeA (x:Nd) (l:List Nd):showF (x::l)=funV x.hd (showEs x.args) (showAs x.arms):=by cases x;rfl
theorem clos_F (x a:Nd) (rest:List Nd) (ha:x.args=a::rest) (h:PutsF a) (b p:Nat) (s:Sl) (l:List UInt8) (w:World) (hp:ExBox w p x s) (hx:IsE w (fun i=>i<b) (exL x s) x) (hd:Bd b l w) (ht:Tab w) (hb : 4 < b) :
 Calls Tryz.prog 80 #[.pointer (some ⟨b,0,none⟩),.pointer (some ⟨p,0,none⟩)] w (Wrote b l (showF x.args) w):=by
 obtain⟨-,-,-,-,hle,-⟩:=hx.look;obtain⟨g,o,t,hg,hgl,hi,hc⟩:=hle 0 a (by rw[ha];rfl);have HC:=zb (h b t l w hi hd ht hb);obtain⟨k0,k1,k2,k3,k4,k5,k6,k7,kf⟩:=Box8.cells hp;have hn:(0:Int)<(x.args.length:Int):=by rw[ha];simp only[List.length_cons];omega
 have hn2:0<x.args.length:=by omega
 rw[hg] at k6;have x0:=hc 0 _ rfl;have x1:=hc 1 _ rfl;have x2:=hc 2 _ rfl;have x3:=hc 3 _ rfl;have x4:=hc 4 _ rfl;have x5:=hc 5 _ rfl;have x6:=hc 6 _ rfl;have x7:=hc 7 _ rfl;rw[Nat.zero_mul,Nat.add_zero] at x0 x1 x2 x3 x4 x5 x6 x7;have HV:Hid (showF x.args=funV a.hd (showEs a.args) (showAs a.arms)):=zb (by rw[ha,zeA]);clear h hx hd ht hb hp kf hle hc hi ha;unfold exOf exV at HC
 go_enter Tryz.func80, Tryz.ntmps80
 go_wp2_with fail
 refine HC.out.mono ?_;intro e w2 hw;rw[← HV.out] at hw;clear HV HC;generalize showF x.args=r at *;cases r with
 | none =>
  obtain⟨rfl,h2⟩:=hw;unfold errEnd
  go_wp2
  exact⟨rfl,rfl,h2⟩
 | some t =>
  obtain⟨rfl,h2⟩:=hw
  go_wp2
  go_end0
  exact⟨rfl,h2⟩
theorem writer_F (x a:Nd) (rest:List Nd) (ha:x.args=a::rest) (h:PutsF a) (b p:Nat) (s:Sl) (w:World) (hp:ExBox w p x s) (hx:IsE w (fun i=>i<b) (exL x s) x) (ht:Tab w) (hb : 4 < b):Writer b w (.func (.func 80) #[] #[.pointer (some ⟨p,0,none⟩)]) (showF x.args):=by
 refine⟨_,_,rfl,enters_of Tryz.func80 (by kernel_rfl) rfl,fun w' l hk hbl hd=>?_⟩;exact clos_F x a rest ha h b p s l w' (hk _ _ _ _ hp (by decide) (by decide) (by decide) (by decide)) (hx.move (zt hbl)) hd (var?_below hbl zL hb ht) hb
theorem za4 (x:Nd) (hf:x.fit) (hE:∀ a∈x.args,PutsE a) (hA:∀ a∈x.arms,PutsA a) (hF:∀ a∈x.args,PutsF a):PutsE x:=by
 intro b s l w hx hd ht hb;have hb1:=zj (w:=w) (exObj x s);have hbb:=hb1.mono (Nat.le_of_lt hd.lt);have HX:=zb (hx.move (zt hbb));obtain⟨hlab,hac,-,-,-,-⟩:=HX.out.look;have hrc:x.arms.length<=s.rc:=by
  have h9:=HX.out;cases x;obtain⟨vl,va,vr,h1,-,-,⟨M,⟨⟨a9,c9,h2,h3,-⟩,-⟩,-⟩⟩:=h9;simp only[exL,List.cons.injEq] at h1;obtain⟨-,-,-,-,-,-,-,h1,-⟩:=h1;rw[h2] at h1;injection h1 with _ h4 h5;show _<=s.rc;omega
 have HB1:=zb hb1;have HBW:Hid (b<=w.heap.size):=zb (Nat.le_of_lt hd.lt);have HBX:Hid (ExBox (w.alloc (exObj x s)) w.heap.size x s):=zb (ExBox.new w x s);have HD:=zb (hd.new hb1);have HD0:=zb hd;have HT:=zb (Tab.below ht hb1);have HTB:=zb hb;have HF:=zb (zeV hf);have HE:=zb hE;have HA:=zb hA;have HFN:=zb hF;have HLB:=zb hlab;have HNN:Hid (x.args.length<=70000/\x.arms.length<=70000/\x.args.length<=s.ac/\x.arms.length<=s.rc):=zb (by
  have h5:=HF.out.2.2.2.2.1;have h6:=HF.out.2.2.2.2.2.1;simp only[snE,yI,yL] at h5 h6;exact⟨by omega,by omega,hac,hrc⟩)
 have HEQ:=zb (showE_eq x);have HQ0:Hid (w.heap.size<(w.alloc (exObj x s)).heap.size):=zb (by simp);have hsn:Hid (Calls Tryz.prog 76 #[exOf x s] (w.alloc (exObj x s)) (fun e w'=>∃ q,e=.returned (.pointer (some ⟨q,0,none⟩))/\Below (w.alloc (exObj x s)).heap.size (w.alloc (exObj x s)) w'/\(w.alloc (exObj x s)).heap.size<=q/\NodeE b (w.alloc (exObj x s)) w' q x s)):=zb (rx b x s (w.alloc (exObj x s)) HX.out (Nat.le_trans HBW.out HB1.out.size) (by have:=HNN.out.1;omega) (by have:=HNN.out.2.1;omega) HNN.out.2.2.1 HNN.out.2.2.2);clear hx hd ht hb hf hE hA hF hlab hac hrc hb1 hbb;unfold exOf exV at hsn;unfold exOf exV
 go_enter Tryz.func42, Tryz.ntmps42
 obtain⟨k0,k1,k2,k3,k4,k5,k6,k7,kf⟩:=Box8.cells HBX.out;clear kf
 go_wp2_with fail
 refine hsn.out.mono ?_;rintro e W2 ⟨q,rfl,hb2,hq,hn⟩;have HQ:Hid (w.heap.size<=q):=zb (Nat.le_trans HB1.out.size hq);have HBB:=zb (hb2.mono (Nat.le_trans HBW.out HB1.out.size));have HT2:Hid (Tab W2):=zb (Tab.below HT.out hb2);obtain⟨ae,ce,ar,cr,hna,hro,hap⟩:=node_E hn (Nat.le_trans HBW.out HQ.out) (HLB.out.move (zt HBB.out)) HE.out HA.out HT2.out HTB.out;have HNA:=zb hna;have HRO:=zb hro;have HAP:=zb hap;have HD2:=zb (HD.out.new hb2);have HK2:Hid (KeptB b w W2):=zb ((KeptX.below HB1.out HD0.out.lt).trans (KeptX.below hb2 (zd HD0.out.lt HB1.out.size)));have HBF:Hid (Below b w W2):=zb ((HB1.out.mono HBW.out).trans HBB.out);have HBX2:Hid (ExBox W2 w.heap.size x s):=zb (HBX.out.below hb2);have HX2:=zb (HX.out.move (zt HBB.out));have HRO2:Hid (∀ k,(Value.slice ae x.args.length ce).ownBlock=some k->w.heap.size<=k):=zb fun k hk=>Nat.le_trans HB1.out.size (hro k hk).1;clear hsn hb2 hq hn hna hro hap k0 k1 k2 k3 k4 k5 k6 k7 HBX HX HE HA HLB HBB HT HD HB1;generalize w.alloc (exObj x s)=w1 at *;obtain⟨k0,k1,k2,k3,k4,k5,k6,k7,kf⟩:=Box8.cells HBX2.out;clear kf
 go_wp2_with fail
 refine(zem x.hd.kind _).mono ?_;rintro e W3 ⟨rfl,hb3⟩;have HNA3:=zb (HNA.out.below hb3 HD2.out);have HRO3:Hid (RowOwn w1 W3 (.slice ae x.args.length ce)):=zb (HRO.out.below hb3);have HD3:=zb (HD2.out.new hb3);have HK3:Hid (KeptB b w W3):=zb (HK2.out.trans (KeptX.below hb3 HD2.out.lt));have HB3:Hid (Below b w W3):=zb (HBF.out.trans (hb3.mono (Nat.le_of_lt HD2.out.lt)));have HT3:Hid (Tab W3):=zb (Tab.below HT2.out hb3);have HBX3:Hid (ExBox W3 w.heap.size x s):=zb (HBX2.out.below hb3);have HX3:=zb (HX2.out.move (zt (hb3.mono (Nat.le_of_lt HD2.out.lt))));clear hb3 HNA HRO HD2 HK2 HBF HT2 HBX2 HX2 k0 k1 k2 k3 k4 k5 k6 k7;obtain⟨k0,k1,k2,k3,k4,k5,k6,k7,kf⟩:=Box8.cells HBX3.out;clear kf;by_cases hk:x.hd.kind=19
 . have K1:(x.hd.kind == 19)=true:=by simpa using hk
   have K2:(x.hd.kind == 10)=false:=by rw[hk];rfl
   have HV:Hid (showE x=putV (pickV x.hd.n opForms) { snE x with n:=0 }):=zb (by
    rw[HEQ.out];unfold exprV;rw[if_pos hk];rfl)
   have c1:W3.cell? ⟨q,1,none⟩=some (.int .i64 x.hd.n):=by rw[zf HNA3.out.block];rfl
   have f1:W3.frozen? ⟨q,1,none⟩=false:=Lib.frozen_of_heap HNA3.out.block 1;obtain⟨n1,n2,n3,n4⟩:=yA (i:=1) (v:=.int .i64 0) HNA3.out.block HD3.out HNA3.out.above;have HN4:=zb (node_n HNA3.out HD3.out 0);have HD4:=zb n1;have HK4:Hid (KeptB b w (W3.setCell ⟨q,1,none⟩ (.int .i64 0))):=zb (HK3.out.hide n2 fun i e=>Or.inr (by rw[e];exact HQ.out));have HB4:=zb (HB3.out.trans n3);have HT4:Hid (Tab (W3.setCell ⟨q,1,none⟩ (.int .i64 0))):=zb (var?_below n3 zL HTB.out HT3.out);have HBX4:Hid (ExBox (W3.setCell ⟨q,1,none⟩ (.int .i64 0)) w.heap.size x s):=zb ((Below.heap_setCell _ _ _ _ (fun e=>by
    have h9:=HNA3.out.block;rw[show q=w.heap.size from e.symm] at h9
    rw[show W3.heap[w.heap.size]? = _ from HBX3.out] at h9
    injection h9 with h9;injection h9 with _ e9 _;exact absurd e9 (by decide))).trans HBX3.out)
   have HS4:Hid (Sn.small { snE x with n:=0 }):=zb HF.out.no_N;have HAS:=zb (op_ascii x.hd.n);clear n1 n2 n3 n4 hk
   go_wp2_with fail
   refine(zbF q x.hd.n _ c1 f1).mono ?_;rintro e W4 ⟨rfl,rfl⟩;clear c1 f1 k0 k1 k2 k3 k4 k5 k6 k7 HNA3 HD3 HK3 HB3 HT3 HBX3 HX3 HRO3;generalize W3.setCell ⟨q,1,none⟩ (.int .i64 0)=W4 at *
   go_wp2_with fail
   refine(s_opForm x.hd.n _).mono ?_;rintro e W5 ⟨rfl,hb5⟩;have HN5:=zb (HN4.out.below hb5 HD4.out);have HD5:=zb (HD4.out.new hb5);have HK5:Hid (KeptB b w W5):=zb (HK4.out.trans (KeptX.below hb5 HD4.out.lt));have HB5:Hid (Below b w W5):=zb (HB4.out.trans (hb5.mono (Nat.le_of_lt HD4.out.lt)));have HT5:Hid (Tab W5):=zb (Tab.below HT4.out hb5);obtain⟨k0,k1,k2,k3,k4,k5,k6,k7,kf⟩:=Box8.cells (HBX4.out.below hb5);clear kf hb5 HN4 HD4 HK4 HB4 HT4 HBX4
   go_wp2_with fail
   clear k0 k1 k2 k3 k4 k5 k6 k7;refine(yV b q (pickV x.hd.n opForms) { snE x with n:=0 } s.la _ _ s.lc _ _ l _ HN5.out HD5.out HS4.out HAS.out.1 HAS.out.2 HT5.out HTB.out).mono ?_;intro e w9 hw;have HFIN:=zb (yS HK5.out HB5.out HQ.out hw);rw[← HV.out] at HFIN;clear hw HV;generalize showE x=r at *;cases r with
   | none =>
    obtain⟨rfl,-⟩:=id HFIN.out;unfold errEnd
    go_wp2
    exact⟨rfl,HFIN.out⟩
   | some t =>
    obtain⟨rfl,-⟩:=id HFIN.out
    go_wp2
    go_end0
    exact HFIN.out
 . have K1:(x.hd.kind == 19)=false:=by simpa using hk
   by_cases hk2:x.hd.kind=10
   . have K2:(x.hd.kind == 10)=true:=by simpa using hk2
     rcases ha:x.args with _ | ⟨a,rest⟩
     . have HV:Hid (showE x=putV (pickV x.hd.kind exprForms) (snE x)):=zb (by
        rw[HEQ.out];unfold exprV;rw[if_neg hk,if_pos hk2];unfold snE;rw[ha];rfl)
       have L0:((0:Int)<(x.args.length:Int))=False:=by rw[ha];simp
       have L1:(0<x.args.length)=False:=by rw[ha];simp
       clear hk hk2 ha;have HA:=zb (uH x.hd.kind)
       go_wp2_with fail
       clear k0 k1 k2 k3 k4 k5 k6 k7;refine(yV b q (pickV x.hd.kind exprForms) (snE x) s.la _ _ s.lc _ _ l _ HNA3.out HD3.out HF.out HA.out.1 HA.out.2 HT3.out HTB.out).mono ?_;intro e w9 hw;have HFIN:=zb (yS HK3.out HB3.out HQ.out hw);rw[← HV.out] at HFIN;clear hw HV;generalize showE x=r at *;cases r with
       | none =>
        obtain⟨rfl,-⟩:=id HFIN.out;unfold errEnd
        go_wp2
        exact⟨rfl,HFIN.out⟩
       | some t =>
        obtain⟨rfl,-⟩:=id HFIN.out
        go_wp2
        go_end0
        exact HFIN.out
     . obtain⟨g,o,gf,lb,rfl,hc0,-,-⟩:=zbC HNA3.out.args (i:=0) (r:=showE a) (by show(showEs x.args)[0]? = _;rw[ha];rfl);obtain⟨-,cur,hcur⟩:=HRO3.out g rfl;have hgw:w.heap.size<=g:=HRO2.out g rfl;have HWR:=zb (writer_F x a rest ha (HFN.out a (by rw[ha];exact List.mem_cons_self ..)) b w.heap.size s W3 HBX3.out HX3.out HT3.out HTB.out);have hno:=node_rec HNA3.out HD3.out (show(snE x).args=showE a::showEs rest by show showEs x.args=_;rw[ha];rfl) hcur (Nat.le_trans HBW.out hgw) (by have h9:=HAP.out g rfl;show(Value.slice ar (showAs x.arms).length cr).ownBlock≠some g;rw[yL];exact h9) HWR.out;obtain⟨n1,n2,n3,n4⟩:=hno;have HN4:=zb n1;have HD4:=zb n2;have HK4:=zb (HK3.out.hide n3 fun i e=>Or.inr (by rw[e];exact hgw));have HB4:=zb (HB3.out.trans n4);have HT4:=zb (show Tab (W3.setCell ⟨g,o,none⟩ _) from var?_below n4 zL HTB.out HT3.out)
       have HV:Hid (showE x=putV (pickV x.hd.kind exprForms) { snE x with args:=showF x.args::showEs rest }):=zb (by
        rw[HEQ.out];unfold exprV;rw[if_neg hk,if_pos hk2];unfold snE;rw[ha];rfl)
       have HS4:Hid (Sn.small { snE x with args:=showF x.args::showEs rest }):=zb (by
        have h9:=HF.out;refine⟨h9.1,h9.2.1,h9.2.2.1,h9.2.2.2.1,?_,h9.2.2.2.2.2⟩;have h10:=h9.2.2.2.2.1;simp only[snE,ha] at h10;exact h10)
       have HAS:=zb (uH x.hd.kind);have c4:W3.cell? ⟨q,4,none⟩=some (.slice (some ⟨g,o,none⟩) x.args.length ce):=by
        rw[zf HNA3.out.block];show some (Value.slice _ (showEs x.args).length ce)=_;rw[yI]
       have fg:W3.frozen? ⟨g,o,none⟩=false:=Lib.frozen_of_heap hcur o;have L0:((0:Int)<(x.args.length:Int))=True:=eq_true (by rw[ha];simp only[List.length_cons];omega);have L1:(0<x.args.length)=True:=eq_true (by rw[ha];simp);rw[Nat.add_zero] at hc0;clear hk hk2 ha n1 n2 n3 n4 hcur hgw
       go_wp2_with fail
       clear c4 fg hc0 k0 k1 k2 k3 k4 k5 k6 k7;refine(yV b q (pickV x.hd.kind exprForms) { snE x with args:=showF x.args::showEs rest } s.la _ _ s.lc _ _ l _ HN4.out HD4.out HS4.out HAS.out.1 HAS.out.2 HT4.out HTB.out).mono ?_;intro e w9 hw;have HFIN:=zb (yS HK4.out HB4.out HQ.out hw);rw[← HV.out] at HFIN;clear hw HV;generalize showE x=r at *;cases r with
       | none =>
        obtain⟨rfl,-⟩:=id HFIN.out;unfold errEnd
        go_wp2
        exact⟨rfl,HFIN.out⟩
       | some t =>
        obtain⟨rfl,-⟩:=id HFIN.out
        go_wp2
        go_end0
        exact HFIN.out
   . have K2:(x.hd.kind == 10)=false:=by simpa using hk2
     have HV:Hid (showE x=putV (pickV x.hd.kind exprForms) (snE x)):=zb (by
      rw[HEQ.out];unfold exprV;rw[if_neg hk,if_neg hk2];rfl)
     clear hk hk2;have HA:=zb (uH x.hd.kind)
     go_wp2_with fail
     clear k0 k1 k2 k3 k4 k5 k6 k7;refine(yV b q (pickV x.hd.kind exprForms) (snE x) s.la _ _ s.lc _ _ l _ HNA3.out HD3.out HF.out HA.out.1 HA.out.2 HT3.out HTB.out).mono ?_;intro e w9 hw;have HFIN:=zb (yS HK3.out HB3.out HQ.out hw);rw[← HV.out] at HFIN;clear hw HV;generalize showE x=r at *;cases r with
     | none =>
      obtain⟨rfl,-⟩:=id HFIN.out;unfold errEnd
      go_wp2
      exact⟨rfl,HFIN.out⟩
     | some t =>
      obtain⟨rfl,-⟩:=id HFIN.out
      go_wp2
      go_end0
      exact HFIN.out
end
section
open Go.RowKit
theorem zeC {x a:Nd} (h:x.fit) (ha:a∈x.args):a.fit:=by
 cases x with
 | mk hd l m =>
  obtain⟨i,hi,rfl⟩:=List.getElem_of_mem ha;exact zeU h.2.2.2.1 (List.getElem?_eq_getElem hi)
theorem zfq {x:Nd} {a:Nd×Nd} (h:x.fit) (ha:a∈x.arms):a.1.fit/\a.2.fit:=by
 cases x with
 | mk hd l m =>
  obtain⟨i,hi,rfl⟩:=List.getElem_of_mem ha;exact zeS h.2.2.2.2 (List.getElem?_eq_getElem hi)
theorem zdq:∀(n:Nat) (x:Nd),x.size<=n->x.fit->PutsP x
 | 0,x,hn,hf=>zcR x hf fun a ha=>absurd (xO ha) (by omega)
 | n+1,x,hn,hf=>zcR x hf fun a ha=>zdq n a (by have:=xO ha;omega) (zeC hf ha)
theorem zbj:∀(n:Nat) (x:Nd),x.size<=n->x.fit->PutsE x/\PutsF x
 | 0,x,hn,hf=>by
  have hA:∀ a∈x.args,PutsE a/\PutsF a:=fun a ha=>absurd (xO ha) (by omega);have hM:∀ a∈x.arms,PutsA a:=fun a ha=>absurd (uX ha).1 (by omega);exact⟨za4 x hf (fun a ha=>(hA a ha).1) hM (fun a ha=>(hA a ha).2),zbR x hf (fun a ha=>(hA a ha).1) hM⟩
 | n+1,x,hn,hf=>by
  have hA:∀ a∈x.args,PutsE a/\PutsF a:=fun a ha=>zbj n a (by have:=xO ha;omega) (zeC hf ha);have hM:∀ a∈x.arms,PutsA a:=fun a ha=>s_putArm a (zdq a.1.size a.1 (Nat.le_refl _) (zfq hf ha).1) (zbj n a.2 (by have:=(uX ha).2;omega) (zfq hf ha).2).1;exact⟨za4 x hf (fun a ha=>(hA a ha).1) hM (fun a ha=>(hA a ha).2),zbR x hf (fun a ha=>(hA a ha).1) hM⟩
theorem puts_E (x:Nd) (h:x.fit):PutsE x:=(zbj x.size x (Nat.le_refl _) h).1
theorem rL (b:Nat) (l:List UInt8) (w:World) (hd:Bd b l w):Calls Tryz.prog 43 #[.pointer (some ⟨b,0,none⟩)] w fun e w'=>Below b w w'/\e=if l.length<=4096 then .returned (.string ⟨l.toArray⟩) else errEnd 4:=by
 have HL:=zb (zey b l w hd);have HS:=zb (Tryz.Builder_String_any b b l w hd.1 (Nat.le_of_lt hd.lt));clear hd;by_cases hl:l.length<=4096
 . have t1:((4096:Int)<(l.length:Int))=False:=eq_false (by omega);have t2:(4096<l.length)=False:=eq_false (by omega);rw[if_pos hl]
   go_enter Tryz.func43, Tryz.ntmps43
   go_wp2_with first | (go_at_call 83; refine HL.out.mono ?_;rintro e w1 ⟨rfl,rfl⟩) | (go_at_call 84; refine HS.out.mono ?_;rintro e w1 ⟨rfl,hb⟩)
   go_ret;exact⟨hb,rfl⟩
 . have t1:((4096:Int)<(l.length:Int))=True:=eq_true (by omega);have t2:(4096<l.length)=True:=eq_true (by omega);rw[if_neg hl]
   go_enter Tryz.func43, Tryz.ntmps43
   go_wp2_with (go_at_call 83; refine HL.out.mono ?_;rintro e w1 ⟨rfl,rfl⟩)
   exact⟨rfl,Below.refl _ _,rfl⟩
theorem zch (w:World):Calls Tryz.prog 40 #[.nilIface] w fun e w'=>e=.returned (.int .i64 0)/\w=w':=by
 go_enter Tryz.func40, Tryz.ntmps40
 go_wp2_with fail
 go_ret;exact⟨rfl,rfl⟩
theorem zc0 (n:Int) (w:World):Calls Tryz.prog 40 #[.iface 28 (.int .i64 n)] w fun e w'=>e=.returned (.int .i64 n)/\w=w':=by
 go_enter Tryz.func40, Tryz.ntmps40
 have hta:(Instr.typeAssert (.iface 28 (.int .i64 n)) 20 28 false).run Tryz.prog w=.ok (.int .i64 n) w:=by kernel_rfl
 go_wp2_with fail
 go_ret;exact⟨rfl,rfl⟩
theorem s_idle (b:Nat) (z:Value) (w:World) (h:w.heap[b]? = some (.cells #[z] 28 (0,0))):CallsD Tryz.prog 39 #[.pointer (some ⟨b,0,none⟩)] .returning w fun e u' w'=>e=.returned (.tuple #[])/\u'=.returning/\w'=w.setCell ⟨b,0,none⟩ (.int .i64 0):=by
 have c0:w.cell? ⟨b,0,none⟩=some z:=by rw[zf h];rfl
 have f0:w.frozen? ⟨b,0,none⟩=false:=Lib.frozen_of_heap h 0;refine callsD_of_wpS Tryz.func39 rfl fun c₀ cs hu=>?_;apply wpS_region;simp [wpOpsS,go_sem,recoverD,hu, Tryz.ntmps39];refine(zch _).mono ?_;rintro e w1 ⟨rfl,rfl⟩;simp [go_sem,storeCells,c0,f0];cases c₀;simp_all [bodyPostS,results, Tryz.results39]
theorem s_catch (b:Nat) (z:Value) (n:Int) (older:List PanicEntry) (w:World) (h:w.heap[b]? = some (.cells #[z] 28 (0,0))):CallsD Tryz.prog 39 #[.pointer (some ⟨b,0,none⟩)] (.panicking ({ v:=.iface 28 (.int .i64 n),recovered:=false }::older)) w fun e u' w'=>e=.returned (.tuple #[])/\u'=.panicking ({ v:=.iface 28 (.int .i64 n),recovered:=true }::older)/\w'=w.setCell ⟨b,0,none⟩ (.int .i64 n):=by
 have c0:w.cell? ⟨b,0,none⟩=some z:=by rw[zf h];rfl
 have f0:w.frozen? ⟨b,0,none⟩=false:=Lib.frozen_of_heap h 0;refine callsD_of_wpS Tryz.func39 rfl fun c₀ cs hu=>?_;apply wpS_region;simp [wpOpsS,go_sem,recoverD,hu, Tryz.ntmps39];refine(zc0 n _).mono ?_;rintro e w1 ⟨rfl,rfl⟩;simp [go_sem,storeCells,c0,f0];cases c₀;simp_all [bodyPostS,results, Tryz.results39]
theorem s_idleP (b:Nat) (z:Value) (w:World) (h:w.heap[b]? = some (.cells #[z] 28 (0,0))):CallsD Tryz.prog 48 #[.pointer (some ⟨b,0,none⟩)] .returning w fun e u' w'=>e=.returned (.tuple #[])/\u'=.returning/\w'=w.setCell ⟨b,0,none⟩ (.int .i64 0):=by
 have c0:w.cell? ⟨b,0,none⟩=some z:=by rw[zf h];rfl
 have f0:w.frozen? ⟨b,0,none⟩=false:=Lib.frozen_of_heap h 0;refine callsD_of_wpS Tryz.func48 rfl fun c₀ cs hu=>?_;apply wpS_region;simp [wpOpsS,go_sem,recoverD,hu, Tryz.ntmps48];refine(zch _).mono ?_;rintro e w1 ⟨rfl,rfl⟩;simp [go_sem,storeCells,c0,f0];cases c₀;simp_all [bodyPostS,results, Tryz.results48]
theorem s_catchP (b:Nat) (z:Value) (n:Int) (older:List PanicEntry) (w:World) (h:w.heap[b]? = some (.cells #[z] 28 (0,0))):CallsD Tryz.prog 48 #[.pointer (some ⟨b,0,none⟩)] (.panicking ({ v:=.iface 28 (.int .i64 n),recovered:=false }::older)) w fun e u' w'=>e=.returned (.tuple #[])/\u'=.panicking ({ v:=.iface 28 (.int .i64 n),recovered:=true }::older)/\w'=w.setCell ⟨b,0,none⟩ (.int .i64 n):=by
 have c0:w.cell? ⟨b,0,none⟩=some z:=by rw[zf h];rfl
 have f0:w.frozen? ⟨b,0,none⟩=false:=Lib.frozen_of_heap h 0;refine callsD_of_wpS Tryz.func48 rfl fun c₀ cs hu=>?_;apply wpS_region;simp [wpOpsS,go_sem,recoverD,hu, Tryz.ntmps48];refine(zc0 n _).mono ?_;rintro e w1 ⟨rfl,rfl⟩;simp [go_sem,storeCells,c0,f0];cases c₀;simp_all [bodyPostS,results, Tryz.results48]
end
section
open Go.RowKit
def limV (x:Nd) (parts depth:Int):Int:=if parts<((x.parts 1).length:Int) then 3 else if (deepV depth x).isSome then 22 else 0
def Lim (n:Int) (w:World) (e:Ending) (w':World):Prop:=Below w.heap.size w w'/\e=if n=0 then .returned (.tuple #[]) else errEnd n
theorem zgX (x:Nd) (s:Sl) (parts depth:Int) (w:World) (hx:IsE w (fun _=>True) (exL x s) x) (hlen:(x.parts 1).length<=70000) (h0:0<=parts) (h1:parts<=100000) :
 Calls Tryz.prog 41 #[exOf x s,.int .i64 parts,.int .i64 depth] w (Lim (limV x parts depth) w):=by
 have hb1:=zj (w:=w) (exObj x s);have HB1:=zb hb1;have HX:=zb (hx.below hb1);have HLN:=zb hlen;have HC:=zb (zeD x s parts (w.alloc (exObj x s)) HX.out hlen (by omega) (by omega));have HD:=zb (fun (W:World) (h:Below (w.alloc (exObj x s)).heap.size (w.alloc (exObj x s)) W)=>p_deep x s depth W (HX.out.below h) hlen);have HBX:Hid (ExBox (w.alloc (exObj x s)) w.heap.size x s):=zb (ExBox.new w x s);have HQ:Hid (w.heap.size<=(w.alloc (exObj x s)).heap.size):=zb hb1.size;have hcv:countV (x.parts 1).length parts=min ((x.parts 1).length:Int) (parts+1):=by unfold countV;rw[if_neg (by omega)]
 rw[hcv] at HC;clear hx hlen hb1 hcv;unfold exOf exV at *
 go_enter Tryz.func41, Tryz.ntmps41
 obtain⟨k0,k1,k2,k3,k4,k5,k6,k7,kf⟩:=Box8.cells HBX.out;clear kf;by_cases hp:parts<((x.parts 1).length:Int)
 . have t1:(parts<min ((x.parts 1).length:Int) (parts+1))=True:=eq_true (by omega);have HV:Hid (limV x parts depth=3):=zb (by unfold limV;rw[if_pos hp]);clear hp h0 h1
   go_wp2_with (go_at_call 29; refine HC.out.mono ?_;rintro e w2 ⟨rfl,hb2⟩)
   rw[HV.out];exact⟨rfl,HB1.out.trans (hb2.mono HQ.out),rfl⟩
 . have t1:(parts<min ((x.parts 1).length:Int) (parts+1))=False:=eq_false (by omega);have HV:Hid (limV x parts depth=if (deepV depth x).isSome then 22 else 0):=zb (by unfold limV;rw[if_neg hp])
   clear hp h0 h1
   go_wp2_with (go_at_call 29; refine HC.out.mono ?_;rintro e w2 ⟨rfl,hb2⟩;have HB2:=zb hb2;obtain⟨j0,j1,j2,j3,j4,j5,j6,j7,jf⟩:=Box8.cells (HBX.out.below hb2);clear jf hb2 k0 k1 k2 k3 k4 k5 k6 k7)
   refine(HD.out _ HB2.out).mono ?_;rintro e w3 ⟨rfl,hb3⟩;have HB3:=zb ((HB1.out.trans (HB2.out.mono HQ.out)).trans (hb3.mono (Nat.le_trans HQ.out HB2.out.size)));clear hb3 HB2 HD HC;cases hdv:(deepV depth x).isSome with
   | true =>
    rw[hdv,if_pos rfl] at HV
    go_wp2_with fail
    rw[HV.out];exact⟨rfl,HB3.out,rfl⟩
   | false =>
    rw[hdv,if_neg Bool.false_ne_true] at HV
    go_wp2_with fail
    go_end0
    rw[HV.out];exact⟨HB3.out,rfl⟩
def ShowV (x:Nd):List UInt8×Int:=if limV x 4096 200≠0 then([],limV x 4096 200) else match showE x with
 | none=>([],5)
 | some t=>if t.length<=4096 then(t,0) else([],4)
def Shown (r:List UInt8×Int) (w:World) (e:Ending) (w':World):Prop:=Below w.heap.size w w'/\e=.returned (.tuple #[.string ⟨r.1.toArray⟩,.int .i64 r.2])
theorem tl {tmps:Array Value} {W:World} {b1:Nat} {er:Int} {t:ByteArray} (t0:tmps[2]?.getD undef=.string t) (t1:tmps[3]?.getD undef=ptrV b1) (h1:W.heap[b1]? = some (.cells #[.int .i64 er] 28 (0,0))) :
 (results Tryz.f17 tmps).run Tryz.prog W=.ok (.tuple #[.string t,.int .i64 er]) W:=by
 have k1:W.cell? ⟨b1,0,none⟩=some (.int .i64 er):=by rw[zf h1];rfl
 simp [results, Tryz.results17,Result.andThen,t0,t1,ptrV,asAddr,go_sem,k1]
abbrev doorS (b1:Nat):List Deferred:=[{ target:=.fn (.func 39) #[ptrV b1],args:=#[] }]
theorem rG {w W:World} {b1:Nat} {z:Value} {n:Int} (hb:Below w.heap.size w W) (hl:w.heap.size<=b1) (h:W.heap[b1]? = some (.cells #[z] 28 (0,0))) {tmps:Array Value} (t0:tmps[2]?.getD undef=.string ⟨#[]⟩) (t1:tmps[3]?.getD undef=ptrV b1) :
 bodyPostD Tryz.prog Tryz.f17 (Shown ([],n) w) (Exit.panic [{ v:=.iface 28 (.int .i64 n),recovered:=false }]) { tmps:=tmps,defers:=doorS b1 } W:=by
 refine leaves_cons (f := 39) (args:=#[ptrV b1]) (by simp) (by simp [go_sem]) ?_;refine(s_catch b1 z n [] W h).mono ?_;rintro e u' w'' ⟨rfl,rfl,rfl⟩;exact⟨_,tl t0 t1 (zn h 0 _),hb.setCell (p:=⟨b1,0,none⟩) hl _,rfl⟩
theorem show_good {w W:World} {b1:Nat} {z:Value} {t:List UInt8} (hb:Below w.heap.size w W) (hl:w.heap.size<=b1) (h:W.heap[b1]? = some (.cells #[z] 28 (0,0))) {tmps:Array Value} (t0:tmps[2]?.getD undef=.string ⟨t.toArray⟩) (t1:tmps[3]?.getD undef=ptrV b1) :
 bodyPostD Tryz.prog Tryz.f17 (Shown (t,0) w) Exit.ret { tmps:=tmps,defers:=doorS b1 } W:=by
 refine leaves_cons (f := 39) (args:=#[ptrV b1]) (by simp) (by simp [go_sem]) ?_;refine(s_idle b1 z W h).mono ?_;rintro e u' w'' ⟨rfl,rfl,rfl⟩;exact⟨_,tl t0 t1 (zn h 0 _),hb.setCell (p:=⟨b1,0,none⟩) hl _,rfl⟩
theorem qK (x:Nd) (s:Sl) (w:World) (hx:IsE w (fun _=>True) (exL x s) x) (hf:x.fit) (hlen:(x.parts 1).length<=70000) (ht:Tab w) :
 Calls Tryz.prog 17 #[exOf x s] w (Shown (ShowV x) w):=by
 have hmf:∀(fn:Fn) (first cap:Array Value) (w:World),(Instr.makeFunc fn first cap).run Tryz.prog w=.ok (.func fn first cap) w:=fun _ _ _ _=>rfl
 unfold exOf exV;have hb2:=zB (w:=w) (exObj x s) (.cells #[.int .i64 0] 28 (0,0));have HB2:=zb hb2;have HLM:=zb (zgX x s 4096 200 ((w.alloc (exObj x s)).alloc (.cells #[.int .i64 0] 28 (0,0))) (hx.below hb2) hlen (by omega) (by omega));have HER:=zb (show((w.alloc (exObj x s)).alloc (.cells #[.int .i64 0] 28 (0,0))).heap[w.heap.size+1]? = some (.cells #[.int .i64 0] 28 (0,0)) from zA _ _ _ (by rw[World.size_alloc]))
 have HBX:=zb (show ExBox ((w.alloc (exObj x s)).alloc (.cells #[.int .i64 0] 28 (0,0))) w.heap.size x s from(ExBox.new w x s).below (zj _))
 have HX:=zb (hx.below hb2);have HF:=zb hf;have HT:=zb (Tab.below ht hb2);have HTL:Hid (4 < w.heap.size):=zb ht.lt;clear hx hf hlen ht hb2;unfold exOf exV at HLM
 go_enter_defers Tryz.func17, Tryz.ntmps17
 go_wp2_with fail
 obtain⟨W0,hW0⟩:∃ W,(w.alloc (exObj x s)).alloc (.cells #[.int .i64 0] 28 (0,0))=W:=⟨_,rfl⟩;rw[hW0] at HB2 HLM HER HBX HX HT;rw[hW0];clear hW0;have HLB:Hid (w.heap.size+1<W0.heap.size):=zb (zp HER.out);refine HLM.out.mono ?_;rintro e W1 ⟨hb1,rfl⟩;have HB1:=zb (HB2.out.trans (hb1.mono HB2.out.size));have HE1:=zb ((hb1.block _ (zp HER.out)).trans HER.out);have HX1:=zb (HX.out.below hb1);have HBX1:=zb (HBX.out.below hb1);have HT1:Hid (Tab W1):=zb (Tab.below HT.out hb1);clear hb1 HLM HER HBX HX HT HB2;by_cases hlm:limV x 4096 200=0
 . rw[if_pos hlm];have HV:Hid (ShowV x=match showE x with | none=>([],5) | some t=>if t.length<=4096 then(t,0) else([],4)):=zb (by unfold ShowV;rw[if_neg (fun h=>h hlm)])
   clear hlm;have hb2:=zj (w:=W1) (.cells #[.pointer none,.slice none 0 0] 83 (0,0));obtain⟨k0,k1,k2,k3,k4,k5,k6,k7,kf⟩:=Box8.cells (HBX1.out.below hb2);have HD2:Hid (Bd W1.heap.size [] (W1.alloc (.cells #[.pointer none,.slice none 0 0] 83 (0,0)))):=zb ⟨xH W1 W1.heap.size (Nat.le_refl _),Nat.zero_le _⟩;have HB2:=zb (HB1.out.trans (hb2.mono HB1.out.size));have HE2:=zb ((hb2.block _ (zp HE1.out)).trans HE1.out);have HX2:Hid (IsE (W1.alloc (.cells #[.pointer none,.slice none 0 0] 83 (0,0))) (fun i=>i<W1.heap.size) (exL x s) x):=zb (HX1.out.move fun g _ hl=>⟨hl,hb2.block g hl⟩);have HT2:Hid (Tab (W1.alloc (.cells #[.pointer none,.slice none 0 0] 83 (0,0)))):=zb (Tab.below HT1.out hb2);have HPE:=zb (puts_E x HF.out W1.heap.size s [] _ HX2.out HD2.out HT2.out (zd HTL.out HB1.out.size));have HLW:Hid (w.heap.size+1<W1.heap.size):=zb (zp HE1.out);unfold exOf exV at HPE;clear kf hb2 HX1 HBX1 HT1 HE1 HX2 HT2
   go_wp2_with fail
   generalize W1.alloc (.cells #[.pointer none,.slice none 0 0] 83 (0,0))=W2 at *;refine HPE.out.mono ?_;intro e W3 hw;clear k0 k1 k2 k3 k4 k5 k6 k7 HPE;cases hs:showE x with
   | none =>
    rw[hs] at hw HV;obtain⟨rfl,hb3⟩:=hw;have HB3:=zb (HB2.out.trans (hb3.mono HB1.out.size));have HE3:=zb ((hb3.block _ HLW.out).trans HE2.out);unfold errEnd
    go_wp2_with fail
    rw[HV.out];exact rG HB3.out (Nat.le_succ _) HE3.out rfl rfl
   | some t =>
    rw[hs] at hw HV;obtain⟨rfl,hk3,m,ha,hd3⟩:=hw;have hb3:=hk3.under HD2.out (fun _ h=>h.elim);have HB3:=zb (HB2.out.trans (hb3.mono HB1.out.size));have HE3:=zb ((hb3.block _ HLW.out).trans HE2.out);have HCM:=zb (rL W1.heap.size m W3 hd3);have HML:Hid ((m.length<=4096->t.length<=4096/\m=t)/\(¬m.length<=4096->¬t.length<=4096)):=zb (by
     unfold Adds at ha;simp only[List.length_nil,Nat.zero_add,List.nil_append] at ha
     split at ha
     . subst ha;exact⟨fun h=>⟨h,rfl⟩,fun h=>h⟩
     . exact⟨fun h=>by omega,fun _=>by assumption⟩)
    have HV:Hid (ShowV x=if t.length<=4096 then(t,0) else([],4)):=HV
    clear hk3 ha hd3 hb3 HB2 HE2 HD2
    go_wp2_with fail
    refine HCM.out.mono ?_;rintro e W4 ⟨hb4,rfl⟩;have HB4:=zb (HB3.out.trans (hb4.mono HB1.out.size));have HE4:=zb ((hb4.block _ HLW.out).trans HE3.out);clear hb4 HCM;by_cases hm:m.length<=4096
    . obtain⟨h1,h2⟩:=HML.out.1 hm;rw[if_pos h1,← h2] at HV;rw[if_pos hm];have c0:W4.cell? ⟨w.heap.size+1,0,none⟩=some (.int .i64 0):=by rw[zf HE4.out];rfl
      have f0:W4.frozen? ⟨w.heap.size+1,0,none⟩=false:=Lib.frozen_of_heap HE4.out 0;clear h1 h2 hm HML
      go_wp2_with fail
      rw[HV.out];exact show_good (HB4.out.setCell (p:=⟨w.heap.size+1,0,none⟩) (Nat.le_succ _) _) (Nat.le_succ _) (zn HE4.out 0 _) rfl rfl
    . have h1:=HML.out.2 hm;rw[if_neg h1] at HV;rw[if_neg hm];unfold errEnd
      go_wp2_with fail
      rw[HV.out];exact rG HB4.out (Nat.le_succ _) HE4.out rfl rfl
 . rw[if_neg hlm];have HV:Hid (ShowV x=([],limV x 4096 200)):=zb (by unfold ShowV;rw[if_pos hlm]);unfold errEnd
   go_wp2_with fail
   rw[HV.out];exact rG HB1.out (Nat.le_succ _) HE1.out rfl rfl
end
section
open Go.RowKit
def wrapP (x:Nd):Nd:=.mk ⟨0,0,[],0,[],[]⟩ [] [(x,z0)]
def PatV (x:Nd):List UInt8×Int:=if limV (wrapP x) 4098 201≠0 then([],limV (wrapP x) 4098 201) else match showP x with
 | none=>([],5)
 | some t=>if t.length<=4096 then(t,0) else([],4)
theorem te {tmps:Array Value} {W:World} {b1:Nat} {er:Int} {t:ByteArray} (t0:tmps[2]?.getD undef=.string t) (t1:tmps[3]?.getD undef=ptrV b1) (h1:W.heap[b1]? = some (.cells #[.int .i64 er] 28 (0,0))) :
 (results Tryz.f20 tmps).run Tryz.prog W=.ok (.tuple #[.string t,.int .i64 er]) W:=by
 have k1:W.cell? ⟨b1,0,none⟩=some (.int .i64 er):=by rw[zf h1];rfl
 simp [results, Tryz.results20,Result.andThen,t0,t1,ptrV,asAddr,go_sem,k1]
abbrev doorP (b1:Nat):List Deferred:=[{ target:=.fn (.func 48) #[ptrV b1],args:=#[] }]
theorem qC {w W:World} {b1:Nat} {z:Value} {n:Int} (hb:Below w.heap.size w W) (hl:w.heap.size<=b1) (h:W.heap[b1]? = some (.cells #[z] 28 (0,0))) {tmps:Array Value} (t0:tmps[2]?.getD undef=.string ⟨#[]⟩) (t1:tmps[3]?.getD undef=ptrV b1) :
 bodyPostD Tryz.prog Tryz.f20 (Shown ([],n) w) (Exit.panic [{ v:=.iface 28 (.int .i64 n),recovered:=false }]) { tmps:=tmps,defers:=doorP b1 } W:=by
 refine leaves_cons (f := 48) (args:=#[ptrV b1]) (by simp) (by simp [go_sem]) ?_;refine(s_catchP b1 z n [] W h).mono ?_;rintro e u' w'' ⟨rfl,rfl,rfl⟩;exact⟨_,te t0 t1 (zn h 0 _),hb.setCell (p:=⟨b1,0,none⟩) hl _,rfl⟩
theorem patn_good {w W:World} {b1:Nat} {z:Value} {t:List UInt8} (hb:Below w.heap.size w W) (hl:w.heap.size<=b1) (h:W.heap[b1]? = some (.cells #[z] 28 (0,0))) {tmps:Array Value} (t0:tmps[2]?.getD undef=.string ⟨t.toArray⟩) (t1:tmps[3]?.getD undef=ptrV b1) :
 bodyPostD Tryz.prog Tryz.f20 (Shown (t,0) w) Exit.ret { tmps:=tmps,defers:=doorP b1 } W:=by
 refine leaves_cons (f := 48) (args:=#[ptrV b1]) (by simp) (by simp [go_sem]) ?_;refine(s_idleP b1 z W h).mono ?_;rintro e u' w'' ⟨rfl,rfl,rfl⟩;exact⟨_,te t0 t1 (zn h 0 _),hb.setCell (p:=⟨b1,0,none⟩) hl _,rfl⟩
theorem wrap_is (x:Nd) (s:Sl) (W:World) (g:Nat) (hg:W.heap[g]? = some (.cells (paL x s++exL z0 ⟨none,0,none,0,none,0⟩).toArray 77 (0,0))) (hx:IsP W (fun _=>True) (paL x s) x):IsE W (fun _=>True) (exL (wrapP x) ⟨none,0,none,0,some ⟨g,0,none⟩,1⟩) (wrapP x):=by
 refine⟨_,_,_,rfl,zx _ _ _ _,⟨[],zx _ _ _ _,trivial⟩,[paL x s++exL z0 ⟨none,0,none,0,none,0⟩],⟨⟨_,_,rfl,Nat.le_refl _,Or.inr ⟨g,0,rfl,trivial,⟨_,_,_,hg⟩,fun i u hi=>?_⟩⟩,(by show 1<=9223372036854775807;decide)⟩,⟨_,_,rfl,hx,isE_zero W⟩,trivial⟩;rw[zf hg]
 simpa using hi
theorem zaN (x:Nd) (s:Sl) (w:World) (hx:IsP w (fun _=>True) (paL x s) x) (hf:x.fit) (hlen:((wrapP x).parts 1).length<=70000) (ht:Tab w) :
 Calls Tryz.prog 20 #[paOf x s] w (Shown (PatV x) w):=by
 have hmf:∀(fn:Fn) (first cap:Array Value) (w:World),(Instr.makeFunc fn first cap).run Tryz.prog w=.ok (.func fn first cap) w:=fun _ _ _ _=>rfl
 have hb2:=vK (w:=w) (paObj x s) (.cells #[.int .i64 0] 28 (0,0)) (.cells (paL x s++exL z0 ⟨none,0,none,0,none,0⟩).toArray 77 (0,0));have HB2:=zb hb2;have har:=heap_alloc_new ((w.alloc (paObj x s)).alloc (.cells #[.int .i64 0] 28 (0,0))) (.cells (paL x s++exL z0 ⟨none,0,none,0,none,0⟩).toArray 77 (0,0));have HLM:Hid (Calls Tryz.prog 41 #[.agg #[.int .i64 0,.int .i64 0,.string ⟨#[]⟩,.int .i64 0,.string ⟨#[]⟩,.slice none 0 0,.slice none 0 0,.slice (some ⟨w.heap.size+1+1,0,none⟩) 1 1],.int .i64 4098,.int .i64 201] (((w.alloc (paObj x s)).alloc (.cells #[.int .i64 0] 28 (0,0))).alloc (.cells (paL x s++exL z0 ⟨none,0,none,0,none,0⟩).toArray 77 (0,0))) (Lim (limV (wrapP x) 4098 201) (((w.alloc (paObj x s)).alloc (.cells #[.int .i64 0] 28 (0,0))).alloc (.cells (paL x s++exL z0 ⟨none,0,none,0,none,0⟩).toArray 77 (0,0))))):=zb (by
  have h9:=zgX (wrapP x) ⟨none,0,none,0,some ⟨((w.alloc (paObj x s)).alloc (.cells #[.int .i64 0] 28 (0,0))).heap.size,0,none⟩,1⟩ 4098 201 (((w.alloc (paObj x s)).alloc (.cells #[.int .i64 0] 28 (0,0))).alloc (.cells (paL x s++exL z0 ⟨none,0,none,0,none,0⟩).toArray 77 (0,0))) (wrap_is x s _ _ har (hx.below hb2)) hlen (by omega) (by omega);rw[World.size_alloc,World.size_alloc] at h9;exact h9)
 have hbx:=zj (w:=(w.alloc (paObj x s)).alloc (.cells #[.int .i64 0] 28 (0,0))) (.cells (paL x s++exL z0 ⟨none,0,none,0,none,0⟩).toArray 77 (0,0));have her:((w.alloc (paObj x s)).alloc (.cells #[.int .i64 0] 28 (0,0))).heap[w.heap.size+1]? = some (.cells #[.int .i64 0] 28 (0,0)):=zA _ _ _ (by rw[World.size_alloc]);have HER:=zb (show(((w.alloc (paObj x s)).alloc (.cells #[.int .i64 0] 28 (0,0))).alloc (.cells (paL x s++exL z0 ⟨none,0,none,0,none,0⟩).toArray 77 (0,0))).heap[w.heap.size+1]? = some (.cells #[.int .i64 0] 28 (0,0)) from(hbx.block _ (zp her)).trans her)
 have HBX:=zb (show PaBox (((w.alloc (paObj x s)).alloc (.cells #[.int .i64 0] 28 (0,0))).alloc (.cells (paL x s++exL z0 ⟨none,0,none,0,none,0⟩).toArray 77 (0,0))) w.heap.size x s from PaBox.below (PaBox.below (PaBox.new w x s) (zj _)) hbx)
 have HX:=zb (hx.below hb2);have HF:=zb hf;have HT:=zb (Tab.below ht hb2);have HTL:Hid (4 < w.heap.size):=zb ht.lt;have k0:((w.alloc (paObj x s)).alloc (.cells #[.int .i64 0] 28 (0,0))).cell? ⟨w.heap.size,0,none⟩=some (.int .i64 x.hd.kind):=(Box7.cells (PaBox.below (PaBox.new w x s) (zj _))).1;obtain⟨-,k1,k2,k3,k4,k5,k6,-⟩:=Box7.cells (show Box7 ((w.alloc (paObj x s)).alloc (.cells #[.int .i64 0] 28 (0,0))) w.heap.size 39 _ _ _ _ _ _ _ from PaBox.below (PaBox.new w x s) (zj _))
 clear hx hf hlen ht hb2 har hbx her;unfold paOf
 go_enter_defers Tryz.func20, Tryz.ntmps20
 go_wp2_with fail
 refine HLM.out.mono ?_;clear HLM;obtain⟨W0,hW0⟩:∃ W,((w.alloc (paObj x s)).alloc (.cells #[.int .i64 0] 28 (0,0))).alloc (.cells (paL x s++exL z0 ⟨none,0,none,0,none,0⟩).toArray 77 (0,0))=W:=⟨_,rfl⟩;rw[hW0] at HB2 HER HBX HX HT;rw[hW0];have HLB:Hid (w.heap.size+1<W0.heap.size):=zb (zp HER.out);rintro e W1 ⟨hb1,rfl⟩;have HB1:=zb (HB2.out.trans (hb1.mono HB2.out.size));have HE1:=zb ((hb1.block _ (zp HER.out)).trans HER.out);have HX1:=zb (HX.out.below hb1);have HBX1:=zb (PaBox.below HBX.out hb1);have HT1:Hid (Tab W1):=zb (Tab.below HT.out hb1);clear hb1 HER HBX HX HT HB2 hW0 k0 k1 k2 k3 k4 k5 k6;by_cases hlm:limV (wrapP x) 4098 201=0
 . rw[if_pos hlm];have HV:Hid (PatV x=match showP x with | none=>([],5) | some t=>if t.length<=4096 then(t,0) else([],4)):=zb (by unfold PatV;rw[if_neg (fun h=>h hlm)])
   clear hlm;have hb2:=zj (w:=W1) (.cells #[.pointer none,.slice none 0 0] 83 (0,0));obtain⟨k0,k1,k2,k3,k4,k5,k6,kf⟩:=Box7.cells (PaBox.below HBX1.out hb2);have HD2:Hid (Bd W1.heap.size [] (W1.alloc (.cells #[.pointer none,.slice none 0 0] 83 (0,0)))):=zb ⟨xH W1 W1.heap.size (Nat.le_refl _),Nat.zero_le _⟩;have HB2:=zb (HB1.out.trans (hb2.mono HB1.out.size));have HE2:=zb ((hb2.block _ (zp HE1.out)).trans HE1.out);have HX2:Hid (IsP (W1.alloc (.cells #[.pointer none,.slice none 0 0] 83 (0,0))) (fun i=>i<W1.heap.size) (paL x s) x):=zb (HX1.out.move fun g _ hl=>⟨hl,hb2.block g hl⟩);have HT2:Hid (Tab (W1.alloc (.cells #[.pointer none,.slice none 0 0] 83 (0,0)))):=zb (Tab.below HT1.out hb2);have HPE:=zb (zdq x.size x (Nat.le_refl _) HF.out W1.heap.size s [] _ HX2.out HD2.out HT2.out (zd HTL.out HB1.out.size));have HLW:Hid (w.heap.size+1<W1.heap.size):=zb (zp HE1.out);unfold paOf at HPE;clear kf hb2 HX1 HBX1 HT1 HE1 HX2 HT2
   go_wp2_with fail
   generalize W1.alloc (.cells #[.pointer none,.slice none 0 0] 83 (0,0))=W2 at *;refine HPE.out.mono ?_;intro e W3 hw;clear k0 k1 k2 k3 k4 k5 k6 HPE;cases hs:showP x with
   | none =>
    rw[hs] at hw HV;obtain⟨rfl,hb3⟩:=hw;have HB3:=zb (HB2.out.trans (hb3.mono HB1.out.size));have HE3:=zb ((hb3.block _ HLW.out).trans HE2.out);unfold errEnd
    go_wp2_with fail
    rw[HV.out];exact qC HB3.out (Nat.le_succ _) HE3.out rfl rfl
   | some t =>
    rw[hs] at hw HV;obtain⟨rfl,hk3,m,ha,hd3⟩:=hw;have hb3:=hk3.under HD2.out (fun _ h=>h.elim);have HB3:=zb (HB2.out.trans (hb3.mono HB1.out.size));have HE3:=zb ((hb3.block _ HLW.out).trans HE2.out);have HCM:=zb (rL W1.heap.size m W3 hd3);have HML:Hid ((m.length<=4096->t.length<=4096/\m=t)/\(¬m.length<=4096->¬t.length<=4096)):=zb (by
     unfold Adds at ha;simp only[List.length_nil,Nat.zero_add,List.nil_append] at ha
     split at ha
     . subst ha;exact⟨fun h=>⟨h,rfl⟩,fun h=>h⟩
     . exact⟨fun h=>by omega,fun _=>by assumption⟩)
    have HV:Hid (PatV x=if t.length<=4096 then(t,0) else([],4)):=HV
    clear hk3 ha hd3 hb3 HB2 HE2 HD2
    go_wp2_with fail
    refine HCM.out.mono ?_;rintro e W4 ⟨hb4,rfl⟩;have HB4:=zb (HB3.out.trans (hb4.mono HB1.out.size));have HE4:=zb ((hb4.block _ HLW.out).trans HE3.out);clear hb4 HCM;by_cases hm:m.length<=4096
    . obtain⟨h1,h2⟩:=HML.out.1 hm;rw[if_pos h1,← h2] at HV;rw[if_pos hm];have c0:W4.cell? ⟨w.heap.size+1,0,none⟩=some (.int .i64 0):=by rw[zf HE4.out];rfl
      have f0:W4.frozen? ⟨w.heap.size+1,0,none⟩=false:=Lib.frozen_of_heap HE4.out 0;clear h1 h2 hm HML
      go_wp2_with fail
      rw[HV.out];exact patn_good (HB4.out.setCell (p:=⟨w.heap.size+1,0,none⟩) (Nat.le_succ _) _) (Nat.le_succ _) (zn HE4.out 0 _) rfl rfl
    . have h1:=HML.out.2 hm;rw[if_neg h1] at HV;rw[if_neg hm];unfold errEnd
      go_wp2_with fail
      rw[HV.out];exact qC HB4.out (Nat.le_succ _) HE4.out rfl rfl
 . rw[if_neg hlm];have HV:Hid (PatV x=([],limV (wrapP x) 4098 201)):=zb (by unfold PatV;rw[if_pos hlm]);unfold errEnd
   go_wp2_with fail
   rw[HV.out];exact qC HB1.out (Nat.le_succ _) HE1.out rfl rfl
end
