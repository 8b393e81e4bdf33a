/-
  show's node.put: the walk.
-/
import Derived.Test.YtblonfjlcfjodaaGreatDoorGShowB
namespace Go.Proofs.YtblonfjlcfjodaaGreatDoor
set_option linter.unusedSimpArgs false
set_option linter.unusedVariables false
set_option maxRecDepth 100000
set_option maxHeartbeats 8000000
open Go.RowKit
structure MidF (b q:Nat) (l:List UInt8) (form:List UInt8) (x:Sn) (k:Nat) (pos:Nat) (t:List UInt8) (y:Sn) (w wr:World):Prop where
 mid:MidW b q l y t w wr
 it:wr.heap[k]? = some (.stringIter ⟨form.toArray⟩ pos)
 eq:FormEq form x pos t y
 small:y.small
 tab:Tab wr
theorem yF {X:Nat->Prop} {b:Nat} {w w':World} {l:List UInt8} (h:KeptX X b w w') (hd:Bd b l w) (ht:Tab w) (hb : 4 < b) (hx:∀ i,X i->b<=i):Tab w':=var?_below (h.under hd hx) zL hb ht
theorem yV (b q:Nat) (form:List UInt8) (x:Sn) (la aa ra:Option Addr) (lc ac rc:Nat) (l:List UInt8) (w:World) (h:NodeAt b w q x la lc aa ac ra rc) (hd:Bd b l w) (hs:x.small) (hf:∀ c∈form,c.toNat<128) (hff:form.length<=1000) (ht:Tab w) (hb : 4 < b) :
 Calls Tryz.prog 82 #[.pointer (some ⟨q,0,none⟩),.pointer (some ⟨b,0,none⟩),.string ⟨form.toArray⟩] w (WroteQ b q l (putV form x) w):=by
 have HD:=zb hd;have HH:=zb h;have HS:=zb hs;have HA:=zb hf;have HT:=zb ht;have HTB:=zb hb;clear h hd hs hf ht hb;by_cases h0:form=[]
 . subst h0;have hv:putV [] x=none:=by simp [putV]
   rw[hv];clear hv
   go_enter Tryz.func82, Tryz.ntmps82
   go_wp2_with (refine(yR _).mono ?_;rintro e w1 ⟨rfl,rfl⟩;unfold errEnd)
   exact⟨rfl,rfl,Below.refl _ _⟩
 . have hv:putV form x=formV form x:=by simp [putV,h0]
   rw[hv];have e1:(form == [])=false:=by simpa using h0
   have e2:form.isEmpty=false:=by simpa using h0
   have HP0:Hid (MidF b q l form x w.heap.size 0 [] x w (w.iter ⟨form.toArray⟩ 0)):=zb (by
    have hbi:=xi w ⟨form.toArray⟩ 0;have hM:MidW b q l x [] w w:=⟨KeptX.refl _ _ _,⟨l,Adds.nil l,HD.out⟩,_,_,_,_,_,_,HH.out⟩;exact⟨hM.more hbi,World.iter_heap _ _ _,by unfold FormEq;simp,HS.out,HT.out.below hbi⟩)
   have HBW:Hid (b<w.heap.size/\b<=q):=zb ⟨HD.out.lt,HH.out.above⟩;clear hv h0
   go_enter Tryz.func82, Tryz.ntmps82
   go_wp2_with (refine(xq _).mono ?_;rintro e w1 ⟨rfl,rfl⟩)
   go_loopw [] (fun wr=>(∃(pos:Nat) (t:List UInt8) (y:Sn),pos<=form.length/\Hid (MidF b q l form x w.heap.size pos t y w wr))) (fun wr=>form.length-wr.iterPos w.heap.size)
   case atStart=>exact⟨0,[],x,Nat.zero_le _,HP0⟩
   case round =>
    clear HP0;obtain⟨pos,t,y,hpl,HM⟩:=hrel;have hit:=HM.out.it;by_cases hp:pos<form.length
    . have hps:pos<(⟨form.toArray⟩:ByteArray).size:=hp;obtain⟨c,hc⟩:∃ c,form[pos]? = some c:=⟨_,List.getElem?_eq_getElem hp⟩;have hcc:(⟨form.toArray⟩:ByteArray)[pos]'hps=c:=by
       obtain⟨h1,h2⟩:=List.getElem?_eq_some_iff.1 hc;rw[← h2];rfl
      have hasc:c.toNat<128:=HA.out c (List.mem_of_getElem? hc);have hnx:∀ ty,(Instr.next (.pointer (some ⟨w.heap.size,0,none⟩)) true ty).run Tryz.prog wr=_:=fun ty=>Lib.run_next_ascii_at wr w.heap.size ⟨form.toArray⟩ pos ty hit hps (by rw[hcc];exact hasc)
      rw[hcc] at hnx;have hpos:wr.iterPos w.heap.size=pos:=by unfold World.iterPos;rw[hit]
      have hlt:=HM.out.mid.kept.size;have HM2:=zb (HM.out.mid.iter (p':=pos+1) hit (Nat.le_refl _) (Nat.le_of_lt HBW.out.1));have HI2:=zb (Lib.iterAt_heap wr w.heap.size ⟨form.toArray⟩ pos (pos+1) hit);have HT2:=zb (var?_below (Lib.below_iterAt (Below.refl b wr) (Nat.le_of_lt HBW.out.1) ⟨form.toArray⟩ (pos+1)) zL HTB.out HM.out.tab);have HEQ:=zb HM.out.eq;have HSM:=zb HM.out.small;have HC:=zb hc;have HW1:Hid (c.toNat<128):=zb hasc;clear HM hit hc hcc hasc hps;generalize wr.iterAt w.heap.size ⟨form.toArray⟩ (pos+1)=w2 at *;by_cases c120:c=120
      . subst c120;have HSV:Hid (stepV (UInt8.toNat 120) y=(yesV (isNam y.name) y.name).map fun s=>(s,{ y with name:=[] })):=zb (stepV_x y);have HLEN:Hid (∀ s,yesV (isNam y.name) y.name=some s->s.length<=100000):=zb (fun s h=>by have:=HSM.out.1;unfold yesV at h;split at h <;> first | (cases h;omega) | cases h)
        have HSN:Hid (Sn.small { y with name:=[] }):=zb HSM.out.no_x;obtain⟨la2,lc2,aa2,ac2,ra2,rc2,k0,k1,k2,k3,k4,k5,kf⟩:=HM2.out.cells;have kz:=kf 0;clear kf
        go_wp2_with fail
        refine(zbp q 0 y.name _ k0 kz).mono ?_;rintro e w3 ⟨rfl,rfl⟩;have HM3:=zb HM2.out.take0;have HI3:Hid ((w2.setCell ⟨q,0,none⟩ (.string ⟨#[]⟩)).heap[w.heap.size]? = some (.stringIter ⟨form.toArray⟩ (pos+1))):=zb (by
         obtain⟨cs,hq⟩:=HM2.out.cellsOf;exact vR hq HI2.out)
        have HT3:Hid (Tab (w2.setCell ⟨q,0,none⟩ (.string ⟨#[]⟩))):=zb (var?_below ((Below.refl b w2).setCell (p:=⟨q,0,none⟩) HBW.out.2 _) zL HTB.out HT2.out);clear k0 k1 k2 k3 k4 k5 kz HM2 HI2 HT2;generalize w2.setCell ⟨q,0,none⟩ (.string ⟨#[]⟩)=w3 at *
        go_wp2_with fail
        refine(zbv y.name _).mono ?_;rintro e w4 ⟨hb4,he⟩;have HM4:=zb (HM3.out.more hb4);have HI4:=zb (wg hb4 HI3.out);have HT4:=zb (Tab.below HT3.out hb4);clear hb4 HM3 HI3 HT3 HSM;generalize yesV (isNam y.name) y.name=r at *;cases r with
        | none =>
         have he:e=errEnd 5:=he;subst he;have HN:=zb (HEQ.out.bad HC.out HSV.out);unfold errEnd
         go_wp2
         rw[HN.out];exact⟨rfl,rfl,HM4.out.below HD.out⟩
        | some s =>
         have he:e=.returned (.string ⟨s.toArray⟩):=he;subst he;obtain⟨m4,ha4,hd4⟩:=HM4.out.text;have HA4:=zb ha4;have HD4:=zb hd4;have HNE:=zb (HEQ.out.step HC.out HSV.out);have HLS:=zb (HLEN.out s rfl);clear ha4 hd4 HSV HLEN HEQ
         go_wp2_with (go_at_call 141; refine(wG b m4 s _ HD4.out HLS.out).mono ?_;rintro e w5 ⟨rfl,hp⟩;have HNX:Hid (MidF b q l form x w.heap.size (pos+1) (t++s) { y with name:=[] } w w5):=zb ⟨HM4.out.put HA4.out HD4.out hp,yt hp.1 HD4.out HI4.out (fun h=>h),HNE.out,HSN.out,yF hp.1 HD4.out HT4.out HTB.out (fun _ h=>h.elim)⟩;clear hp HM4 HI4 HT4 HA4 HD4 HNE HLS HSN)
         have hp2:w5.iterPos w.heap.size=pos+1:=by unfold World.iterPos;rw[HNX.out.it]
         go_roundw
         case rel=>exact⟨pos+1,_,_,by omega,HNX⟩
         case measure=>rw[hp2,hpos];omega
      by_cases c88:c=88
      . subst c88;have HSV:Hid (stepV (UInt8.toNat 88) y=(yesV (isUpN y.name) y.name).map fun s=>(s,{ y with name:=[] })):=zb (stepV_X y);have HLEN:Hid (∀ s,yesV (isUpN y.name) y.name=some s->s.length<=100000):=zb (fun s h=>by have:=HSM.out.1;unfold yesV at h;split at h <;> first | (cases h;omega) | cases h)
        have HSN:Hid (Sn.small { y with name:=[] }):=zb HSM.out.no_X;obtain⟨la2,lc2,aa2,ac2,ra2,rc2,k0,k1,k2,k3,k4,k5,kf⟩:=HM2.out.cells;have kz:=kf 0;clear kf
        go_wp2_with fail
        refine(zbp q 0 y.name _ k0 kz).mono ?_;rintro e w3 ⟨rfl,rfl⟩;have HM3:=zb HM2.out.take0;have HI3:Hid ((w2.setCell ⟨q,0,none⟩ (.string ⟨#[]⟩)).heap[w.heap.size]? = some (.stringIter ⟨form.toArray⟩ (pos+1))):=zb (by
         obtain⟨cs,hq⟩:=HM2.out.cellsOf;exact vR hq HI2.out)
        have HT3:Hid (Tab (w2.setCell ⟨q,0,none⟩ (.string ⟨#[]⟩))):=zb (var?_below ((Below.refl b w2).setCell (p:=⟨q,0,none⟩) HBW.out.2 _) zL HTB.out HT2.out);clear k0 k1 k2 k3 k4 k5 kz HM2 HI2 HT2;generalize w2.setCell ⟨q,0,none⟩ (.string ⟨#[]⟩)=w3 at *
        go_wp2_with fail
        refine(zeI 145 y.name (isUpN y.name) _ zbf (s_isUpper ⟨y.name.toArray⟩ _ (by have:=HSM.out.1;show y.name.length<=_;omega))).mono ?_;rintro e w4 ⟨hb4,he⟩;have HM4:=zb (HM3.out.more hb4);have HI4:=zb (wg hb4 HI3.out);have HT4:=zb (Tab.below HT3.out hb4);clear hb4 HM3 HI3 HT3 HSM;generalize yesV (isUpN y.name) y.name=r at *;cases r with
        | none =>
         have he:e=errEnd 5:=he;subst he;have HN:=zb (HEQ.out.bad HC.out HSV.out);unfold errEnd
         go_wp2
         rw[HN.out];exact⟨rfl,rfl,HM4.out.below HD.out⟩
        | some s =>
         have he:e=.returned (.string ⟨s.toArray⟩):=he;subst he;obtain⟨m4,ha4,hd4⟩:=HM4.out.text;have HA4:=zb ha4;have HD4:=zb hd4;have HNE:=zb (HEQ.out.step HC.out HSV.out);have HLS:=zb (HLEN.out s rfl);clear ha4 hd4 HSV HLEN HEQ
         go_wp2_with (go_at_call 141; refine(wG b m4 s _ HD4.out HLS.out).mono ?_;rintro e w5 ⟨rfl,hp⟩;have HNX:Hid (MidF b q l form x w.heap.size (pos+1) (t++s) { y with name:=[] } w w5):=zb ⟨HM4.out.put HA4.out HD4.out hp,yt hp.1 HD4.out HI4.out (fun h=>h),HNE.out,HSN.out,yF hp.1 HD4.out HT4.out HTB.out (fun _ h=>h.elim)⟩;clear hp HM4 HI4 HT4 HA4 HD4 HNE HLS HSN)
         have hp2:w5.iterPos w.heap.size=pos+1:=by unfold World.iterPos;rw[HNX.out.it]
         go_roundw
         case rel=>exact⟨pos+1,_,_,by omega,HNX⟩
         case measure=>rw[hp2,hpos];omega
      by_cases c78:c=78
      . subst c78;have HSV:Hid (stepV (UInt8.toNat 78) y=(yesV (decide (0<=y.n)&&decide (y.n<4611686018427387904)) (Lib.itoa y.n)).map fun s=>(s,{ y with n:=0 })):=zb (stepV_N y);have HLEN:Hid (∀ s,yesV (decide (0<=y.n)&&decide (y.n<4611686018427387904)) (Lib.itoa y.n)=some s->s.length<=100000):=zb (fun s h=>by have h9:=zea y.n HSM.out.2.2.2.2.2.2.1 HSM.out.2.2.2.2.2.2.2;unfold yesV at h;split at h <;> first | (cases h;omega) | cases h)
        have HSN:Hid (Sn.small { y with n:=0 }):=zb HSM.out.no_N;obtain⟨la2,lc2,aa2,ac2,ra2,rc2,k0,k1,k2,k3,k4,k5,kf⟩:=HM2.out.cells;have kz:=kf 1;clear kf
        go_wp2_with fail
        refine(zbF q y.n _ k1 kz).mono ?_;rintro e w3 ⟨rfl,rfl⟩;have HM3:=zb HM2.out.take1;have HI3:Hid ((w2.setCell ⟨q,1,none⟩ (.int .i64 0)).heap[w.heap.size]? = some (.stringIter ⟨form.toArray⟩ (pos+1))):=zb (by
         obtain⟨cs,hq⟩:=HM2.out.cellsOf;exact vR hq HI2.out)
        have HT3:Hid (Tab (w2.setCell ⟨q,1,none⟩ (.int .i64 0))):=zb (var?_below ((Below.refl b w2).setCell (p:=⟨q,1,none⟩) HBW.out.2 _) zL HTB.out HT2.out);clear k0 k1 k2 k3 k4 k5 kz HM2 HI2 HT2;generalize w2.setCell ⟨q,1,none⟩ (.int .i64 0)=w3 at *
        go_wp2_with fail
        refine(s_number y.n _ HSM.out.2.2.2.2.2.2.1 HSM.out.2.2.2.2.2.2.2 HT3.out).mono ?_;rintro e w4 ⟨hb4,he⟩;have HM4:=zb (HM3.out.more hb4);have HI4:=zb (wg hb4 HI3.out);have HT4:=zb (Tab.below HT3.out hb4);clear hb4 HM3 HI3 HT3 HSM;generalize yesV (decide (0<=y.n)&&decide (y.n<4611686018427387904)) (Lib.itoa y.n)=r at *;cases r with
        | none =>
         have he:e=errEnd 5:=he;subst he;have HN:=zb (HEQ.out.bad HC.out HSV.out);unfold errEnd
         go_wp2
         rw[HN.out];exact⟨rfl,rfl,HM4.out.below HD.out⟩
        | some s =>
         have he:e=.returned (.string ⟨s.toArray⟩):=he;subst he;obtain⟨m4,ha4,hd4⟩:=HM4.out.text;have HA4:=zb ha4;have HD4:=zb hd4;have HNE:=zb (HEQ.out.step HC.out HSV.out);have HLS:=zb (HLEN.out s rfl);clear ha4 hd4 HSV HLEN HEQ
         go_wp2_with (go_at_call 141; refine(wG b m4 s _ HD4.out HLS.out).mono ?_;rintro e w5 ⟨rfl,hp⟩;have HNX:Hid (MidF b q l form x w.heap.size (pos+1) (t++s) { y with n:=0 } w w5):=zb ⟨HM4.out.put HA4.out HD4.out hp,yt hp.1 HD4.out HI4.out (fun h=>h),HNE.out,HSN.out,yF hp.1 HD4.out HT4.out HTB.out (fun _ h=>h.elim)⟩;clear hp HM4 HI4 HT4 HA4 HD4 HNE HLS HSN)
         have hp2:w5.iterPos w.heap.size=pos+1:=by unfold World.iterPos;rw[HNX.out.it]
         go_roundw
         case rel=>exact⟨pos+1,_,_,by omega,HNX⟩
         case measure=>rw[hp2,hpos];omega
      by_cases c84:c=84
      . subst c84;have HSV:Hid (stepV (UInt8.toNat 84) y=(truthV y.n).map fun s=>(s,{ y with n:=0 })):=zb (stepV_T y);have HLEN:Hid (∀ s,truthV y.n=some s->s.length<=100000):=zb (fun s h=>by unfold truthV at h;split at h <;> (try split at h) <;> first | (cases h;decide) | cases h)
        have HSN:Hid (Sn.small { y with n:=0 }):=zb HSM.out.no_T;obtain⟨la2,lc2,aa2,ac2,ra2,rc2,k0,k1,k2,k3,k4,k5,kf⟩:=HM2.out.cells;have kz:=kf 1;clear kf
        go_wp2_with fail
        refine(zbF q y.n _ k1 kz).mono ?_;rintro e w3 ⟨rfl,rfl⟩;have HM3:=zb HM2.out.take1;have HI3:Hid ((w2.setCell ⟨q,1,none⟩ (.int .i64 0)).heap[w.heap.size]? = some (.stringIter ⟨form.toArray⟩ (pos+1))):=zb (by
         obtain⟨cs,hq⟩:=HM2.out.cellsOf;exact vR hq HI2.out)
        have HT3:Hid (Tab (w2.setCell ⟨q,1,none⟩ (.int .i64 0))):=zb (var?_below ((Below.refl b w2).setCell (p:=⟨q,1,none⟩) HBW.out.2 _) zL HTB.out HT2.out);clear k0 k1 k2 k3 k4 k5 kz HM2 HI2 HT2;generalize w2.setCell ⟨q,1,none⟩ (.int .i64 0)=w3 at *
        go_wp2_with fail
        refine(s_truth y.n _).mono ?_;rintro e w4 ⟨hb4,he⟩;have HM4:=zb (HM3.out.more hb4);have HI4:=zb (wg hb4 HI3.out);have HT4:=zb (Tab.below HT3.out hb4);clear hb4 HM3 HI3 HT3 HSM;generalize truthV y.n=r at *;cases r with
        | none =>
         have he:e=errEnd 5:=he;subst he;have HN:=zb (HEQ.out.bad HC.out HSV.out);unfold errEnd
         go_wp2
         rw[HN.out];exact⟨rfl,rfl,HM4.out.below HD.out⟩
        | some s =>
         have he:e=.returned (.string ⟨s.toArray⟩):=he;subst he;obtain⟨m4,ha4,hd4⟩:=HM4.out.text;have HA4:=zb ha4;have HD4:=zb hd4;have HNE:=zb (HEQ.out.step HC.out HSV.out);have HLS:=zb (HLEN.out s rfl);clear ha4 hd4 HSV HLEN HEQ
         go_wp2_with (go_at_call 141; refine(wG b m4 s _ HD4.out HLS.out).mono ?_;rintro e w5 ⟨rfl,hp⟩;have HNX:Hid (MidF b q l form x w.heap.size (pos+1) (t++s) { y with n:=0 } w w5):=zb ⟨HM4.out.put HA4.out HD4.out hp,yt hp.1 HD4.out HI4.out (fun h=>h),HNE.out,HSN.out,yF hp.1 HD4.out HT4.out HTB.out (fun _ h=>h.elim)⟩;clear hp HM4 HI4 HT4 HA4 HD4 HNE HLS HSN)
         have hp2:w5.iterPos w.heap.size=pos+1:=by unfold World.iterPos;rw[HNX.out.it]
         go_roundw
         case rel=>exact⟨pos+1,_,_,by omega,HNX⟩
         case measure=>rw[hp2,hpos];omega
      by_cases c83:c=83
      . subst c83;have HSV:Hid (stepV (UInt8.toNat 83) y=(some (qall (y.s.take 4096))).map fun s=>(s,{ y with s:=[] })):=zb (stepV_S y);have HLEN:Hid (∀ s,some (qall (y.s.take 4096))=some s->s.length<=100000):=zb (fun s h=>by have h9:=zdL y.s;cases h;exact h9);have HSN:Hid (Sn.small { y with s:=[] }):=zb HSM.out.no_S;obtain⟨la2,lc2,aa2,ac2,ra2,rc2,k0,k1,k2,k3,k4,k5,kf⟩:=HM2.out.cells;have kz:=kf 2;clear kf
        go_wp2_with fail
        refine(zbp q 2 y.s _ k2 kz).mono ?_;rintro e w3 ⟨rfl,rfl⟩;have HM3:=zb HM2.out.take2;have HI3:Hid ((w2.setCell ⟨q,2,none⟩ (.string ⟨#[]⟩)).heap[w.heap.size]? = some (.stringIter ⟨form.toArray⟩ (pos+1))):=zb (by
         obtain⟨cs,hq⟩:=HM2.out.cellsOf;exact vR hq HI2.out)
        have HT3:Hid (Tab (w2.setCell ⟨q,2,none⟩ (.string ⟨#[]⟩))):=zb (var?_below ((Below.refl b w2).setCell (p:=⟨q,2,none⟩) HBW.out.2 _) zL HTB.out HT2.out);clear k0 k1 k2 k3 k4 k5 kz HM2 HI2 HT2;generalize w2.setCell ⟨q,2,none⟩ (.string ⟨#[]⟩)=w3 at *
        go_wp2_with fail
        refine(s_quoted y.s _ (by have:=HSM.out.2.1;omega)).mono ?_;rintro e w4 ⟨hb4,he⟩;have HM4:=zb (HM3.out.more hb4);have HI4:=zb (wg hb4 HI3.out);have HT4:=zb (Tab.below HT3.out hb4);clear hb4 HM3 HI3 HT3 HSM;generalize some (qall (y.s.take 4096))=r at *;cases r with
        | none =>
         have he:e=errEnd 5:=he;subst he;have HN:=zb (HEQ.out.bad HC.out HSV.out);unfold errEnd
         go_wp2
         rw[HN.out];exact⟨rfl,rfl,HM4.out.below HD.out⟩
        | some s =>
         have he:e=.returned (.string ⟨s.toArray⟩):=he;subst he;obtain⟨m4,ha4,hd4⟩:=HM4.out.text;have HA4:=zb ha4;have HD4:=zb hd4;have HNE:=zb (HEQ.out.step HC.out HSV.out);have HLS:=zb (HLEN.out s rfl);clear ha4 hd4 HSV HLEN HEQ
         go_wp2_with (go_at_call 141; refine(wG b m4 s _ HD4.out HLS.out).mono ?_;rintro e w5 ⟨rfl,hp⟩;have HNX:Hid (MidF b q l form x w.heap.size (pos+1) (t++s) { y with s:=[] } w w5):=zb ⟨HM4.out.put HA4.out HD4.out hp,yt hp.1 HD4.out HI4.out (fun h=>h),HNE.out,HSN.out,yF hp.1 HD4.out HT4.out HTB.out (fun _ h=>h.elim)⟩;clear hp HM4 HI4 HT4 HA4 HD4 HNE HLS HSN)
         have hp2:w5.iterPos w.heap.size=pos+1:=by unfold World.iterPos;rw[HNX.out.it]
         go_roundw
         case rel=>exact⟨pos+1,_,_,by omega,HNX⟩
         case measure=>rw[hp2,hpos];omega
      by_cases c65:c=65
      . subst c65;have HSV:Hid (stepV (UInt8.toNat 65) y=argV y):=zb (stepV_A65 y);have HSN:Hid (∀ s z,argV y=some (s,z)->z.small):=zb (zbJ HSM.out);obtain⟨m2,ha2,hd2⟩:=HM2.out.text;have HA2:=zb ha2;have HD2:=zb hd2;obtain⟨la2,lc2,aa2,ac2,ra2,rc2,hn2⟩:=HM2.out.node;have HN2:=zb hn2;have HKQ:Hid (¬w.heap.size=q):=zb (fun e=>by
         have h9:=HI2.out;rw[e,HN2.out.block] at h9;cases h9)
        clear ha2 hd2 hn2
        go_wp2_with fail
        refine(vG b q y la2 aa2 ra2 lc2 ac2 rc2 m2 _ HN2.out HD2.out HSM.out.2.2.2.2.1).mono ?_;intro e w5 hs5;generalize argV y=r at *;cases r with
        | none =>
         have HN:=zb (HEQ.out.bad HC.out HSV.out);have HB5:=zb ((HM2.out.below HD.out).trans hs5.2);obtain⟨rfl,-⟩:=hs5;unfold errEnd
         go_wp2
         rw[HN.out];exact⟨rfl,rfl,HB5.out⟩
        | some p =>
         obtain⟨s,z⟩:=p;have HNX:Hid (MidF b q l form x w.heap.size (pos+1) (t++s) z w w5):=zb ⟨HM2.out.arg HA2.out hs5,yt hs5.2.1 HD2.out HI2.out HKQ.out,HEQ.out.step HC.out HSV.out,HSN.out s z rfl,yF hs5.2.1 HD2.out HT2.out HTB.out (fun i e=>by rw[e];exact HBW.out.2)⟩;obtain⟨rfl,-⟩:=hs5;clear HM2 HA2 HI2 HEQ HSV HSN HT2 HN2 HD2;have hp2:w5.iterPos w.heap.size=pos+1:=by unfold World.iterPos;rw[HNX.out.it]
         go_wp2
         go_roundw
         case rel=>exact⟨pos+1,_,_,by omega,HNX⟩
         case measure=>rw[hp2,hpos];omega
      by_cases c66:c=66
      . subst c66;have HSV:Hid (stepV (UInt8.toNat 66) y=argV y):=zb (stepV_A66 y);have HSN:Hid (∀ s z,argV y=some (s,z)->z.small):=zb (zbJ HSM.out);obtain⟨m2,ha2,hd2⟩:=HM2.out.text;have HA2:=zb ha2;have HD2:=zb hd2;obtain⟨la2,lc2,aa2,ac2,ra2,rc2,hn2⟩:=HM2.out.node;have HN2:=zb hn2;have HKQ:Hid (¬w.heap.size=q):=zb (fun e=>by
         have h9:=HI2.out;rw[e,HN2.out.block] at h9;cases h9)
        clear ha2 hd2 hn2
        go_wp2_with fail
        refine(vG b q y la2 aa2 ra2 lc2 ac2 rc2 m2 _ HN2.out HD2.out HSM.out.2.2.2.2.1).mono ?_;intro e w5 hs5;generalize argV y=r at *;cases r with
        | none =>
         have HN:=zb (HEQ.out.bad HC.out HSV.out);have HB5:=zb ((HM2.out.below HD.out).trans hs5.2);obtain⟨rfl,-⟩:=hs5;unfold errEnd
         go_wp2
         rw[HN.out];exact⟨rfl,rfl,HB5.out⟩
        | some p =>
         obtain⟨s,z⟩:=p;have HNX:Hid (MidF b q l form x w.heap.size (pos+1) (t++s) z w w5):=zb ⟨HM2.out.arg HA2.out hs5,yt hs5.2.1 HD2.out HI2.out HKQ.out,HEQ.out.step HC.out HSV.out,HSN.out s z rfl,yF hs5.2.1 HD2.out HT2.out HTB.out (fun i e=>by rw[e];exact HBW.out.2)⟩;obtain⟨rfl,-⟩:=hs5;clear HM2 HA2 HI2 HEQ HSV HSN HT2 HN2 HD2;have hp2:w5.iterPos w.heap.size=pos+1:=by unfold World.iterPos;rw[HNX.out.it]
         go_wp2
         go_roundw
         case rel=>exact⟨pos+1,_,_,by omega,HNX⟩
         case measure=>rw[hp2,hpos];omega
      by_cases c67:c=67
      . subst c67;have HSV:Hid (stepV (UInt8.toNat 67) y=argV y):=zb (stepV_A67 y);have HSN:Hid (∀ s z,argV y=some (s,z)->z.small):=zb (zbJ HSM.out);obtain⟨m2,ha2,hd2⟩:=HM2.out.text;have HA2:=zb ha2;have HD2:=zb hd2;obtain⟨la2,lc2,aa2,ac2,ra2,rc2,hn2⟩:=HM2.out.node;have HN2:=zb hn2;have HKQ:Hid (¬w.heap.size=q):=zb (fun e=>by
         have h9:=HI2.out;rw[e,HN2.out.block] at h9;cases h9)
        clear ha2 hd2 hn2
        go_wp2_with fail
        refine(vG b q y la2 aa2 ra2 lc2 ac2 rc2 m2 _ HN2.out HD2.out HSM.out.2.2.2.2.1).mono ?_;intro e w5 hs5;generalize argV y=r at *;cases r with
        | none =>
         have HN:=zb (HEQ.out.bad HC.out HSV.out);have HB5:=zb ((HM2.out.below HD.out).trans hs5.2);obtain⟨rfl,-⟩:=hs5;unfold errEnd
         go_wp2
         rw[HN.out];exact⟨rfl,rfl,HB5.out⟩
        | some p =>
         obtain⟨s,z⟩:=p;have HNX:Hid (MidF b q l form x w.heap.size (pos+1) (t++s) z w w5):=zb ⟨HM2.out.arg HA2.out hs5,yt hs5.2.1 HD2.out HI2.out HKQ.out,HEQ.out.step HC.out HSV.out,HSN.out s z rfl,yF hs5.2.1 HD2.out HT2.out HTB.out (fun i e=>by rw[e];exact HBW.out.2)⟩;obtain⟨rfl,-⟩:=hs5;clear HM2 HA2 HI2 HEQ HSV HSN HT2 HN2 HD2;have hp2:w5.iterPos w.heap.size=pos+1:=by unfold World.iterPos;rw[HNX.out.it]
         go_wp2
         go_roundw
         case rel=>exact⟨pos+1,_,_,by omega,HNX⟩
         case measure=>rw[hp2,hpos];omega
      by_cases c76:c=76
      . subst c76;have HSV:Hid (stepV (UInt8.toNat 76) y=fieldsStepV y):=zb (stepV_L76 y);have HSN:Hid (∀ s z,fieldsStepV y=some (s,z)->z.small):=zb (small_L HSM.out);obtain⟨m2,ha2,hd2⟩:=HM2.out.text;have HA2:=zb ha2;have HD2:=zb hd2;obtain⟨la2,lc2,aa2,ac2,ra2,rc2,hn2⟩:=HM2.out.node;have HN2:=zb hn2;have HKQ:Hid (¬w.heap.size=q):=zb (fun e=>by
         have h9:=HI2.out;rw[e,HN2.out.block] at h9;cases h9)
        clear ha2 hd2 hn2
        go_wp2_with fail
        refine(zc1 b q y la2 aa2 ra2 lc2 ac2 rc2 m2 _ HN2.out HD2.out HSM.out).mono ?_;intro e w5 hs5;generalize fieldsStepV y=r at *;cases r with
        | none =>
         have HN:=zb (HEQ.out.bad HC.out HSV.out);have HB5:=zb ((HM2.out.below HD.out).trans hs5.2);obtain⟨rfl,-⟩:=hs5;unfold errEnd
         go_wp2
         rw[HN.out];exact⟨rfl,rfl,HB5.out⟩
        | some p =>
         obtain⟨s,z⟩:=p;have HNX:Hid (MidF b q l form x w.heap.size (pos+1) (t++s) z w w5):=zb ⟨HM2.out.arg HA2.out hs5,yt hs5.2.1 HD2.out HI2.out HKQ.out,HEQ.out.step HC.out HSV.out,HSN.out s z rfl,yF hs5.2.1 HD2.out HT2.out HTB.out (fun i e=>by rw[e];exact HBW.out.2)⟩;obtain⟨rfl,-⟩:=hs5;clear HM2 HA2 HI2 HEQ HSV HSN HT2 HN2 HD2;have hp2:w5.iterPos w.heap.size=pos+1:=by unfold World.iterPos;rw[HNX.out.it]
         go_wp2
         go_roundw
         case rel=>exact⟨pos+1,_,_,by omega,HNX⟩
         case measure=>rw[hp2,hpos];omega
      by_cases c77:c=77
      . subst c77;have HSV:Hid (stepV (UInt8.toNat 77) y=armsStepV y):=zb (stepV_M77 y);have HSN:Hid (∀ s z,armsStepV y=some (s,z)->z.small):=zb (small_M HSM.out);obtain⟨m2,ha2,hd2⟩:=HM2.out.text;have HA2:=zb ha2;have HD2:=zb hd2;obtain⟨la2,lc2,aa2,ac2,ra2,rc2,hn2⟩:=HM2.out.node;have HN2:=zb hn2;have HKQ:Hid (¬w.heap.size=q):=zb (fun e=>by
         have h9:=HI2.out;rw[e,HN2.out.block] at h9;cases h9)
        clear ha2 hd2 hn2
        go_wp2_with fail
        refine(s_putArms b q y la2 aa2 ra2 lc2 ac2 rc2 m2 _ HN2.out HD2.out HSM.out.2.2.2.2.2.1).mono ?_;intro e w5 hs5;generalize armsStepV y=r at *;cases r with
        | none =>
         have HN:=zb (HEQ.out.bad HC.out HSV.out);have HB5:=zb ((HM2.out.below HD.out).trans hs5.2);obtain⟨rfl,-⟩:=hs5;unfold errEnd
         go_wp2
         rw[HN.out];exact⟨rfl,rfl,HB5.out⟩
        | some p =>
         obtain⟨s,z⟩:=p;have HNX:Hid (MidF b q l form x w.heap.size (pos+1) (t++s) z w w5):=zb ⟨HM2.out.arg HA2.out hs5,yt hs5.2.1 HD2.out HI2.out HKQ.out,HEQ.out.step HC.out HSV.out,HSN.out s z rfl,yF hs5.2.1 HD2.out HT2.out HTB.out (fun i e=>by rw[e];exact HBW.out.2)⟩;obtain⟨rfl,-⟩:=hs5;clear HM2 HA2 HI2 HEQ HSV HSN HT2 HN2 HD2;have hp2:w5.iterPos w.heap.size=pos+1:=by unfold World.iterPos;rw[HNX.out.it]
         go_wp2
         go_roundw
         case rel=>exact⟨pos+1,_,_,by omega,HNX⟩
         case measure=>rw[hp2,hpos];omega
      have HSV:Hid (stepV c.toNat y=some ([c],y)):=zb (zdp c y c120 c88 c78 c84 c83 c65 c66 c67 c76 c77);have g120:((c.toNat:Int) == 120)=false:=xJ c120 (by decide);have g88:((c.toNat:Int) == 88)=false:=xJ c88 (by decide);have g78:((c.toNat:Int) == 78)=false:=xJ c78 (by decide);have g84:((c.toNat:Int) == 84)=false:=xJ c84 (by decide);have g83:((c.toNat:Int) == 83)=false:=xJ c83 (by decide);have g65:((c.toNat:Int) == 65)=false:=xJ c65 (by decide);have g66:((c.toNat:Int) == 66)=false:=xJ c66 (by decide);have g67:((c.toNat:Int) == 67)=false:=xJ c67 (by decide);have g76:((c.toNat:Int) == 76)=false:=xJ c76 (by decide);have g77:((c.toNat:Int) == 77)=false:=xJ c77 (by decide);have CV:=fun W=>tK c.toNat HW1.out W;have eC:[UInt8.ofNat c.toNat]=[c]:=by simp
      rw[eC] at CV;clear c120 c88 c78 c84 c83 c65 c66 c67 c76 c77 eC;generalize (c.toNat:Int)=ci at *;obtain⟨m4,ha4,hd4⟩:=HM2.out.text;have HA4:=zb ha4;have HD4:=zb hd4;have HNE:=zb (HEQ.out.step HC.out HSV.out);clear ha4 hd4 HSV HEQ
      go_wp2_with (go_at_call 141; refine(wG b m4 [c] _ HD4.out (by show 1<=100000;decide)).mono ?_;rintro e w5 ⟨rfl,hp⟩;have HNX:Hid (MidF b q l form x w.heap.size (pos+1) (t++[c]) y w w5):=zb ⟨HM2.out.put HA4.out HD4.out hp,yt hp.1 HD4.out HI2.out (fun h=>h),HNE.out,HSM.out,yF hp.1 HD4.out HT2.out HTB.out (fun _ h=>h.elim)⟩;clear hp HM2 HI2 HT2 HA4 HD4 HNE)
      have hp2:w5.iterPos w.heap.size=pos+1:=by unfold World.iterPos;rw[HNX.out.it]
      go_roundw
      case rel=>exact⟨pos+1,_,_,by omega,HNX⟩
      case measure=>rw[hp2,hpos];omega
    . have hps:¬pos<(⟨form.toArray⟩:ByteArray).size:=hp;obtain rfl:pos=form.length:=by omega
      have hnx:∀ ty,(Instr.next (.pointer (some ⟨w.heap.size,0,none⟩)) true ty).run Tryz.prog wr=_:=fun ty=>Lib.run_next_end_at wr w.heap.size ⟨form.toArray⟩ form.length ty hit hps
      have HEQ:=zb HM.out.eq.end_;have HMM:=zb HM.out.mid;have HSM:=zb HM.out.small;clear HM hit hps hp
      go_upto_region 24 with fail
      obtain⟨la2,lc2,aa2,ac2,ra2,rc2,k0,k1,k2,k3,k4,k5,kf⟩:=HMM.out.cells;clear kf hnx;have hz:y.zero=(decide (y.name=[])&&decide (y.n=0)&&decide (y.s=[])&&y.labels.isEmpty&&y.args.isEmpty&&y.arms.isEmpty):=rfl;have hb3:y.labels.length<=70000/\y.args.length<=70000/\y.arms.length<=70000:=⟨HSM.out.2.2.1,HSM.out.2.2.2.2.1,HSM.out.2.2.2.2.2.1⟩;have W1:IntKind.i64.wrap ((y.labels.length:Int)+(y.args.length:Int))=(y.labels.length:Int)+(y.args.length:Int):=zM _ (by omega) (by omega);have W2:IntKind.i64.wrap ((y.labels.length:Int)+(y.args.length:Int)+(y.arms.length:Int))=(y.labels.length:Int)+(y.args.length:Int)+(y.arms.length:Int):=zM _ (by omega) (by omega);by_cases z0:y.name=[]
      . rw[z0] at k0;by_cases z1:y.n=0
        . rw[z1] at k1;by_cases z2:y.s=[]
          . rw[z2] at k2;by_cases z3:(y.labels.length:Int)+(y.args.length:Int)+(y.arms.length:Int)=0
            . have Z3:((y.labels.length:Int)+(y.args.length:Int)+(y.arms.length:Int) == 0)=true:=by simpa using z3
              have hl1:y.labels=[]:=List.length_eq_zero_iff.1 (by omega);have hl2:y.args=[]:=List.length_eq_zero_iff.1 (by omega);have hl3:y.arms=[]:=List.length_eq_zero_iff.1 (by omega);have hzz:y.zero=true:=by rw[hz,z0,z1,z2,hl1,hl2,hl3];rfl
              rw[hzz,if_pos rfl] at HEQ;rw[hl1] at k3;rw[hl2] at k4;rw[hl3] at k5;clear hz hzz z0 z1 z2 z3 Z3 W1 W2 hb3 hl1 hl2 hl3
              go_quiet ((go_at_call 93; exact Calls.quiet_of_same ((xq _).mono fun e w' hh=>⟨hh.1,hh.2.symm⟩)))
              go_wp2
              go_end0
              rw[HEQ.out];have hbd:Below wr.heap.size wr (wr.drewN nq):=⟨rfl,rfl,rfl,Nat.le_refl _,fun _ _=>rfl⟩;have HX:=HMM.out.more hbd;exact⟨rfl,HX.kept,HX.text⟩
            . have Z3:((y.labels.length:Int)+(y.args.length:Int)+(y.arms.length:Int) == 0)=false:=by simpa using z3
              have hzz:y.zero=false:=by
               rw[hz];by_cases g1:y.labels=[]
               . by_cases g2:y.args=[]
                 . have g3:¬y.arms=[]:=fun g3=>z3 (by rw[g1,g2,g3];rfl);simp [g3]
                 . simp [g2]
               . simp [g1]
              rw[hzz,if_neg Bool.false_ne_true] at HEQ;clear hz hzz z0 z1 z2 z3 hb3;refine yg 39 (fun W=>W.cell? ⟨q,0,none⟩=some (.string ⟨#[]⟩)/\W.cell? ⟨q,1,none⟩=some (.int .i64 0)/\W.cell? ⟨q,2,none⟩=some (.string ⟨#[]⟩)/\W.cell? ⟨q,3,none⟩=some (.slice la2 y.labels.length lc2)/\W.cell? ⟨q,4,none⟩=some (.slice aa2 y.args.length ac2)/\W.cell? ⟨q,5,none⟩=some (.slice ra2 y.arms.length rc2)) (by kernel_rfl) (by kernel_rfl) ⟨k0,k1,k2,k3,k4,k5⟩ (fun hL inv hS=>?_);refine zl 0 hL rfl inv (fun inv=>?_)
              (try simp only[Act.put,zg,zh,zi])
              refine zl 1 hL rfl inv (fun inv=>?_)
              (try simp only[Act.put,zg,zh,zi])
              refine zl 2 hL rfl inv (fun inv=>?_)
              (try simp only[Act.put,zg,zh,zi])
              refine zl 3 hL rfl inv (fun inv=>?_)
              (try simp only[Act.put,zg,zh,zi])
              refine zl 4 hL rfl inv (fun inv=>?_)
              (try simp only[Act.put,zg,zh,zi])
              refine zl 5 hL rfl inv (fun inv=>?_)
              (try simp only[Act.put,zg,zh,zi])
              refine zl 6 hL rfl inv (fun inv=>?_)
              (try simp only[Act.put,zg,zh,zi])
              refine zl 7 hL rfl inv (fun inv=>?_)
              (try simp only[Act.put,zg,zh,zi])
              refine zl 8 hL rfl inv (fun inv=>?_)
              (try simp only[Act.put,zg,zh,zi])
              refine zl 9 hL rfl inv (fun inv=>?_)
              (try simp only[Act.put,zg,zh,zi])
              refine zl 10 hL rfl inv (fun inv=>?_)
              (try simp only[Act.put,zg,zh,zi])
              refine zl 11 hL rfl inv (fun inv=>?_)
              (try simp only[Act.put,zg,zh,zi])
              refine zl 12 hL rfl inv (fun inv=>?_)
              (try simp only[Act.put,zg,zh,zi])
              refine zl 13 hL rfl inv (fun inv=>?_)
              (try simp only[Act.put,zg,zh,zi])
              refine zl 14 hL rfl inv (fun inv=>?_)
              (try simp only[Act.put,zg,zh,zi])
              refine zl 15 hL rfl inv (fun inv=>?_)
              (try simp only[Act.put,zg,zh,zi])
              refine zl 16 hL rfl inv (fun inv=>?_)
              (try simp only[Act.put,zg,zh,zi])
              refine zl 17 hL rfl inv (fun inv=>?_)
              (try simp only[Act.put,zg,zh,zi])
              refine zl 18 hL rfl inv (fun inv=>?_)
              (try simp only[Act.put,zg,zh,zi])
              refine zl 19 hL rfl inv (fun inv=>?_)
              (try simp only[Act.put,zg,zh,zi])
              refine zl 20 hL rfl inv (fun inv=>?_)
              (try simp only[Act.put,zg,zh,zi])
              refine zl 21 hL rfl inv (fun inv=>?_)
              (try simp only[Act.put,zg,zh,zi])
              refine zl 22 hL rfl inv (fun inv=>?_)
              (try simp only[Act.put,zg,zh,zi])
              refine zl 23 hL rfl inv (fun inv=>?_)
              (try simp only[Act.put,zg,zh,zi])
              refine zl 24 hL rfl inv (fun inv=>?_)
              (try simp only[Act.put,zg,zh,zi])
              refine zl 25 hL rfl inv (fun inv=>?_)
              (try simp only[Act.put,zg,zh,zi])
              refine zl 26 hL rfl inv (fun inv=>?_)
              (try simp only[Act.put,zg,zh,zi])
              refine zl 27 hL rfl inv (fun inv=>?_)
              (try simp only[Act.put,zg,zh,zi])
              refine zl 28 hL rfl inv (fun inv=>?_)
              (try simp only[Act.put,zg,zh,zi])
              refine zl 29 hL rfl inv (fun inv=>?_)
              (try simp only[Act.put,zg,zh,zi])
              refine zl 30 hL rfl inv (fun inv=>?_)
              (try simp only[Act.put,zg,zh,zi])
              refine zl 31 hL rfl inv (fun inv=>?_)
              (try simp only[Act.put,zg,zh,zi])
              refine zl 32 hL rfl inv (fun inv=>?_)
              (try simp only[Act.put,zg,zh,zi])
              refine zl 33 hL rfl inv (fun inv=>?_)
              (try simp only[Act.put,zg,zh,zi])
              refine zl 34 hL rfl inv (fun inv=>?_)
              (try simp only[Act.put,zg,zh,zi])
              refine zl 35 hL rfl inv (fun inv=>?_)
              (try simp only[Act.put,zg,zh,zi])
              refine zl 36 hL rfl inv (fun inv=>?_)
              (try simp only[Act.put,zg,zh,zi])
              refine zl 37 hL rfl inv (fun inv=>?_)
              (try simp only[Act.put,zg,zh,zi])
              refine zl 38 hL rfl inv (fun inv=>?_)
              (try simp only[Act.put,zg,zh,zi])
              refine yw (by kernel_rfl) rfl (by kernel_rfl) (fun K hK=>?_)
              go_simp
              refine(yR _).mono ?_;rintro e w9 ⟨rfl,rfl⟩;exact⟨rfl,by rw[HEQ.out];exact⟨rfl,(HMM.out.below HD.out).drew⟩⟩
          . have Z2:(y.s == [])=false:=by simpa using z2
            have hzz:y.zero=false:=by rw[hz];simp [z2]
            rw[hzz,if_neg Bool.false_ne_true] at HEQ;clear hz hzz z0 z1 z2 hb3;refine yg 39 (fun W=>W.cell? ⟨q,0,none⟩=some (.string ⟨#[]⟩)/\W.cell? ⟨q,1,none⟩=some (.int .i64 0)/\W.cell? ⟨q,2,none⟩=some (.string ⟨y.s.toArray⟩)/\W.cell? ⟨q,3,none⟩=some (.slice la2 y.labels.length lc2)/\W.cell? ⟨q,4,none⟩=some (.slice aa2 y.args.length ac2)/\W.cell? ⟨q,5,none⟩=some (.slice ra2 y.arms.length rc2)) (by kernel_rfl) (by kernel_rfl) ⟨k0,k1,k2,k3,k4,k5⟩ (fun hL inv hS=>?_);refine zl 0 hL rfl inv (fun inv=>?_)
            (try simp only[Act.put,zg,zh,zi])
            refine zl 1 hL rfl inv (fun inv=>?_)
            (try simp only[Act.put,zg,zh,zi])
            refine zl 2 hL rfl inv (fun inv=>?_)
            (try simp only[Act.put,zg,zh,zi])
            refine zl 3 hL rfl inv (fun inv=>?_)
            (try simp only[Act.put,zg,zh,zi])
            refine zl 4 hL rfl inv (fun inv=>?_)
            (try simp only[Act.put,zg,zh,zi])
            refine zl 5 hL rfl inv (fun inv=>?_)
            (try simp only[Act.put,zg,zh,zi])
            refine zl 6 hL rfl inv (fun inv=>?_)
            (try simp only[Act.put,zg,zh,zi])
            refine zl 7 hL rfl inv (fun inv=>?_)
            (try simp only[Act.put,zg,zh,zi])
            refine zl 8 hL rfl inv (fun inv=>?_)
            (try simp only[Act.put,zg,zh,zi])
            refine zl 9 hL rfl inv (fun inv=>?_)
            (try simp only[Act.put,zg,zh,zi])
            refine zl 10 hL rfl inv (fun inv=>?_)
            (try simp only[Act.put,zg,zh,zi])
            refine zl 11 hL rfl inv (fun inv=>?_)
            (try simp only[Act.put,zg,zh,zi])
            refine zl 12 hL rfl inv (fun inv=>?_)
            (try simp only[Act.put,zg,zh,zi])
            refine zl 13 hL rfl inv (fun inv=>?_)
            (try simp only[Act.put,zg,zh,zi])
            refine zl 14 hL rfl inv (fun inv=>?_)
            (try simp only[Act.put,zg,zh,zi])
            refine zl 15 hL rfl inv (fun inv=>?_)
            (try simp only[Act.put,zg,zh,zi])
            refine zl 16 hL rfl inv (fun inv=>?_)
            (try simp only[Act.put,zg,zh,zi])
            refine zl 17 hL rfl inv (fun inv=>?_)
            (try simp only[Act.put,zg,zh,zi])
            refine zl 18 hL rfl inv (fun inv=>?_)
            (try simp only[Act.put,zg,zh,zi])
            refine zl 19 hL rfl inv (fun inv=>?_)
            (try simp only[Act.put,zg,zh,zi])
            refine xl 20 hL rfl inv (fun inv=>?_)
            (try simp only[Act.put,zg,zh,zi])
            refine xl 21 hL rfl inv (fun inv=>?_)
            (try simp only[Act.put,zg,zh,zi])
            refine xl 22 hL rfl inv (fun inv=>?_)
            (try simp only[Act.put,zg,zh,zi])
            refine xl 23 hL rfl inv (fun inv=>?_)
            (try simp only[Act.put,zg,zh,zi])
            refine xl 24 hL rfl inv (fun inv=>?_)
            (try simp only[Act.put,zg,zh,zi])
            refine xl 25 hL rfl inv (fun inv=>?_)
            (try simp only[Act.put,zg,zh,zi])
            refine xl 26 hL rfl inv (fun inv=>?_)
            (try simp only[Act.put,zg,zh,zi])
            refine xl 27 hL rfl inv (fun inv=>?_)
            (try simp only[Act.put,zg,zh,zi])
            refine xl 28 hL rfl inv (fun inv=>?_)
            (try simp only[Act.put,zg,zh,zi])
            refine xl 29 hL rfl inv (fun inv=>?_)
            (try simp only[Act.put,zg,zh,zi])
            refine xl 30 hL rfl inv (fun inv=>?_)
            (try simp only[Act.put,zg,zh,zi])
            refine xl 31 hL rfl inv (fun inv=>?_)
            (try simp only[Act.put,zg,zh,zi])
            refine xl 32 hL rfl inv (fun inv=>?_)
            (try simp only[Act.put,zg,zh,zi])
            refine xl 33 hL rfl inv (fun inv=>?_)
            (try simp only[Act.put,zg,zh,zi])
            refine xl 34 hL rfl inv (fun inv=>?_)
            (try simp only[Act.put,zg,zh,zi])
            refine xl 35 hL rfl inv (fun inv=>?_)
            (try simp only[Act.put,zg,zh,zi])
            refine xl 36 hL rfl inv (fun inv=>?_)
            (try simp only[Act.put,zg,zh,zi])
            refine xl 37 hL rfl inv (fun inv=>?_)
            (try simp only[Act.put,zg,zh,zi])
            refine zl 38 hL rfl inv (fun inv=>?_)
            (try simp only[Act.put,zg,zh,zi])
            refine yw (by kernel_rfl) rfl (by kernel_rfl) (fun K hK=>?_)
            go_simp
            refine(yR _).mono ?_;rintro e w9 ⟨rfl,rfl⟩;exact⟨rfl,by rw[HEQ.out];exact⟨rfl,(HMM.out.below HD.out).drew⟩⟩
        . have Z1:(y.n == 0)=false:=by simpa using z1
          have hzz:y.zero=false:=by rw[hz];simp [z1]
          rw[hzz,if_neg Bool.false_ne_true] at HEQ;clear hz hzz z0 z1 hb3;refine yg 39 (fun W=>W.cell? ⟨q,0,none⟩=some (.string ⟨#[]⟩)/\W.cell? ⟨q,1,none⟩=some (.int .i64 y.n)/\W.cell? ⟨q,2,none⟩=some (.string ⟨y.s.toArray⟩)/\W.cell? ⟨q,3,none⟩=some (.slice la2 y.labels.length lc2)/\W.cell? ⟨q,4,none⟩=some (.slice aa2 y.args.length ac2)/\W.cell? ⟨q,5,none⟩=some (.slice ra2 y.arms.length rc2)) (by kernel_rfl) (by kernel_rfl) ⟨k0,k1,k2,k3,k4,k5⟩ (fun hL inv hS=>?_);refine zl 0 hL rfl inv (fun inv=>?_)
          (try simp only[Act.put,zg,zh,zi])
          refine zl 1 hL rfl inv (fun inv=>?_)
          (try simp only[Act.put,zg,zh,zi])
          refine zl 2 hL rfl inv (fun inv=>?_)
          (try simp only[Act.put,zg,zh,zi])
          refine zl 3 hL rfl inv (fun inv=>?_)
          (try simp only[Act.put,zg,zh,zi])
          refine zl 4 hL rfl inv (fun inv=>?_)
          (try simp only[Act.put,zg,zh,zi])
          refine zl 5 hL rfl inv (fun inv=>?_)
          (try simp only[Act.put,zg,zh,zi])
          refine zl 6 hL rfl inv (fun inv=>?_)
          (try simp only[Act.put,zg,zh,zi])
          refine zl 7 hL rfl inv (fun inv=>?_)
          (try simp only[Act.put,zg,zh,zi])
          refine zl 8 hL rfl inv (fun inv=>?_)
          (try simp only[Act.put,zg,zh,zi])
          refine zl 9 hL rfl inv (fun inv=>?_)
          (try simp only[Act.put,zg,zh,zi])
          refine zl 10 hL rfl inv (fun inv=>?_)
          (try simp only[Act.put,zg,zh,zi])
          refine zl 11 hL rfl inv (fun inv=>?_)
          (try simp only[Act.put,zg,zh,zi])
          refine zl 12 hL rfl inv (fun inv=>?_)
          (try simp only[Act.put,zg,zh,zi])
          refine xl 13 hL rfl inv (fun inv=>?_)
          (try simp only[Act.put,zg,zh,zi])
          refine xl 14 hL rfl inv (fun inv=>?_)
          (try simp only[Act.put,zg,zh,zi])
          refine xl 15 hL rfl inv (fun inv=>?_)
          (try simp only[Act.put,zg,zh,zi])
          refine xl 16 hL rfl inv (fun inv=>?_)
          (try simp only[Act.put,zg,zh,zi])
          refine xl 17 hL rfl inv (fun inv=>?_)
          (try simp only[Act.put,zg,zh,zi])
          refine zl 18 hL rfl inv (fun inv=>?_)
          (try simp only[Act.put,zg,zh,zi])
          refine zl 19 hL rfl inv (fun inv=>?_)
          (try simp only[Act.put,zg,zh,zi])
          refine xl 20 hL rfl inv (fun inv=>?_)
          (try simp only[Act.put,zg,zh,zi])
          refine xl 21 hL rfl inv (fun inv=>?_)
          (try simp only[Act.put,zg,zh,zi])
          refine xl 22 hL rfl inv (fun inv=>?_)
          (try simp only[Act.put,zg,zh,zi])
          refine xl 23 hL rfl inv (fun inv=>?_)
          (try simp only[Act.put,zg,zh,zi])
          refine xl 24 hL rfl inv (fun inv=>?_)
          (try simp only[Act.put,zg,zh,zi])
          refine xl 25 hL rfl inv (fun inv=>?_)
          (try simp only[Act.put,zg,zh,zi])
          refine xl 26 hL rfl inv (fun inv=>?_)
          (try simp only[Act.put,zg,zh,zi])
          refine xl 27 hL rfl inv (fun inv=>?_)
          (try simp only[Act.put,zg,zh,zi])
          refine xl 28 hL rfl inv (fun inv=>?_)
          (try simp only[Act.put,zg,zh,zi])
          refine xl 29 hL rfl inv (fun inv=>?_)
          (try simp only[Act.put,zg,zh,zi])
          refine xl 30 hL rfl inv (fun inv=>?_)
          (try simp only[Act.put,zg,zh,zi])
          refine xl 31 hL rfl inv (fun inv=>?_)
          (try simp only[Act.put,zg,zh,zi])
          refine xl 32 hL rfl inv (fun inv=>?_)
          (try simp only[Act.put,zg,zh,zi])
          refine xl 33 hL rfl inv (fun inv=>?_)
          (try simp only[Act.put,zg,zh,zi])
          refine xl 34 hL rfl inv (fun inv=>?_)
          (try simp only[Act.put,zg,zh,zi])
          refine xl 35 hL rfl inv (fun inv=>?_)
          (try simp only[Act.put,zg,zh,zi])
          refine xl 36 hL rfl inv (fun inv=>?_)
          (try simp only[Act.put,zg,zh,zi])
          refine xl 37 hL rfl inv (fun inv=>?_)
          (try simp only[Act.put,zg,zh,zi])
          refine zl 38 hL rfl inv (fun inv=>?_)
          (try simp only[Act.put,zg,zh,zi])
          refine yw (by kernel_rfl) rfl (by kernel_rfl) (fun K hK=>?_)
          go_simp
          refine(yR _).mono ?_;rintro e w9 ⟨rfl,rfl⟩;exact⟨rfl,by rw[HEQ.out];exact⟨rfl,(HMM.out.below HD.out).drew⟩⟩
      . have Z0:(y.name == [])=false:=by simpa using z0
        have hzz:y.zero=false:=by rw[hz];simp [z0]
        rw[hzz,if_neg Bool.false_ne_true] at HEQ;clear hz hzz z0 hb3;refine yg 39 (fun W=>W.cell? ⟨q,0,none⟩=some (.string ⟨y.name.toArray⟩)/\W.cell? ⟨q,1,none⟩=some (.int .i64 y.n)/\W.cell? ⟨q,2,none⟩=some (.string ⟨y.s.toArray⟩)/\W.cell? ⟨q,3,none⟩=some (.slice la2 y.labels.length lc2)/\W.cell? ⟨q,4,none⟩=some (.slice aa2 y.args.length ac2)/\W.cell? ⟨q,5,none⟩=some (.slice ra2 y.arms.length rc2)) (by kernel_rfl) (by kernel_rfl) ⟨k0,k1,k2,k3,k4,k5⟩ (fun hL inv hS=>?_);refine zl 0 hL rfl inv (fun inv=>?_)
        (try simp only[Act.put,zg,zh,zi])
        refine zl 1 hL rfl inv (fun inv=>?_)
        (try simp only[Act.put,zg,zh,zi])
        refine zl 2 hL rfl inv (fun inv=>?_)
        (try simp only[Act.put,zg,zh,zi])
        refine zl 3 hL rfl inv (fun inv=>?_)
        (try simp only[Act.put,zg,zh,zi])
        refine zl 4 hL rfl inv (fun inv=>?_)
        (try simp only[Act.put,zg,zh,zi])
        refine zl 5 hL rfl inv (fun inv=>?_)
        (try simp only[Act.put,zg,zh,zi])
        refine xl 6 hL rfl inv (fun inv=>?_)
        (try simp only[Act.put,zg,zh,zi])
        refine xl 7 hL rfl inv (fun inv=>?_)
        (try simp only[Act.put,zg,zh,zi])
        refine xl 8 hL rfl inv (fun inv=>?_)
        (try simp only[Act.put,zg,zh,zi])
        refine xl 9 hL rfl inv (fun inv=>?_)
        (try simp only[Act.put,zg,zh,zi])
        refine xl 10 hL rfl inv (fun inv=>?_)
        (try simp only[Act.put,zg,zh,zi])
        refine zl 11 hL rfl inv (fun inv=>?_)
        (try simp only[Act.put,zg,zh,zi])
        refine zl 12 hL rfl inv (fun inv=>?_)
        (try simp only[Act.put,zg,zh,zi])
        refine xl 13 hL rfl inv (fun inv=>?_)
        (try simp only[Act.put,zg,zh,zi])
        refine xl 14 hL rfl inv (fun inv=>?_)
        (try simp only[Act.put,zg,zh,zi])
        refine xl 15 hL rfl inv (fun inv=>?_)
        (try simp only[Act.put,zg,zh,zi])
        refine xl 16 hL rfl inv (fun inv=>?_)
        (try simp only[Act.put,zg,zh,zi])
        refine xl 17 hL rfl inv (fun inv=>?_)
        (try simp only[Act.put,zg,zh,zi])
        refine zl 18 hL rfl inv (fun inv=>?_)
        (try simp only[Act.put,zg,zh,zi])
        refine zl 19 hL rfl inv (fun inv=>?_)
        (try simp only[Act.put,zg,zh,zi])
        refine xl 20 hL rfl inv (fun inv=>?_)
        (try simp only[Act.put,zg,zh,zi])
        refine xl 21 hL rfl inv (fun inv=>?_)
        (try simp only[Act.put,zg,zh,zi])
        refine xl 22 hL rfl inv (fun inv=>?_)
        (try simp only[Act.put,zg,zh,zi])
        refine xl 23 hL rfl inv (fun inv=>?_)
        (try simp only[Act.put,zg,zh,zi])
        refine xl 24 hL rfl inv (fun inv=>?_)
        (try simp only[Act.put,zg,zh,zi])
        refine xl 25 hL rfl inv (fun inv=>?_)
        (try simp only[Act.put,zg,zh,zi])
        refine xl 26 hL rfl inv (fun inv=>?_)
        (try simp only[Act.put,zg,zh,zi])
        refine xl 27 hL rfl inv (fun inv=>?_)
        (try simp only[Act.put,zg,zh,zi])
        refine xl 28 hL rfl inv (fun inv=>?_)
        (try simp only[Act.put,zg,zh,zi])
        refine xl 29 hL rfl inv (fun inv=>?_)
        (try simp only[Act.put,zg,zh,zi])
        refine xl 30 hL rfl inv (fun inv=>?_)
        (try simp only[Act.put,zg,zh,zi])
        refine xl 31 hL rfl inv (fun inv=>?_)
        (try simp only[Act.put,zg,zh,zi])
        refine xl 32 hL rfl inv (fun inv=>?_)
        (try simp only[Act.put,zg,zh,zi])
        refine xl 33 hL rfl inv (fun inv=>?_)
        (try simp only[Act.put,zg,zh,zi])
        refine xl 34 hL rfl inv (fun inv=>?_)
        (try simp only[Act.put,zg,zh,zi])
        refine xl 35 hL rfl inv (fun inv=>?_)
        (try simp only[Act.put,zg,zh,zi])
        refine xl 36 hL rfl inv (fun inv=>?_)
        (try simp only[Act.put,zg,zh,zi])
        refine xl 37 hL rfl inv (fun inv=>?_)
        (try simp only[Act.put,zg,zh,zi])
        refine zl 38 hL rfl inv (fun inv=>?_)
        (try simp only[Act.put,zg,zh,zi])
        refine yw (by kernel_rfl) rfl (by kernel_rfl) (fun K hK=>?_)
        go_simp
        refine(yR _).mono ?_;rintro e w9 ⟨rfl,rfl⟩;exact⟨rfl,by rw[HEQ.out];exact⟨rfl,(HMM.out.below HD.out).drew⟩⟩
