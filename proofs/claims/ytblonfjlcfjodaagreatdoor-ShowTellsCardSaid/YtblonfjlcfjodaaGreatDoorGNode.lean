/-
  The walks of operation, node, leafOf, beginsPost.
-/
import Derived.Test.YtblonfjlcfjodaaGreatDoorGTree
import Derived.StillTail
import Derived.Deep.RegionHeld3
namespace Go.Proofs.YtblonfjlcfjodaaGreatDoor
set_option linter.unusedSimpArgs false
set_option linter.unusedVariables false
set_option maxRecDepth 100000
set_option maxHeartbeats 2000000
section
open Go.RowKit
def opOfB (x:List UInt8):Int :=
 if (x == [58,61])=true then 12 else if (x == [61])=true then 7 else if (x == [60])=true then 8 else if (x == [43])=true then 1 else if (x == [45])=true then 2 else if (x == [42])=true then 3 else if (x == [47])=true then 4 else if (x == [37])=true then 5 else if (x == [110,111,116])=true then 9 else if (x == [33])=true then 11 else if (x == [114,101,102])=true then 10 else if (x == [108,101,110])=true then 16 else if (x == [115,105,122,101])=true then 17 else if (x == [103,101,116,99])=true then 20 else if (x == [112,117,116,99])=true then 21 else if (x == [97,114,114,97,121])=true then 13 else if (x == [103,101,116])=true then 14 else if (x == [98,121,116,101])=true then 18 else if (x == [99,97,116])=true then 19 else if (x == [115,101,116])=true then 15 else 0
theorem opOf_eq (x:List UInt8):opOf x=opOfB x:=by
 unfold opOf opOfB;simp only[beq_iff_eq];rfl
theorem zc7 (x:List UInt8) (w:World):Calls Tryz.prog 184 #[.string ⟨x.toArray⟩] w (SameInt (opOf x) w):=by
 rw[opOf_eq]
 go_enter Tryz.func184, Tryz.ntmps184
 go_wp2_with fail
 all_goals
  go_ret;refine⟨zbN ?_,rfl⟩;unfold opOfB;simp only[*,if_true,if_false,Bool.false_eq_true]
  try rfl
def exV (k a:Int) (x:List UInt8) (n:Int) (s:List UInt8) (vl va vr:Value):Value:=.agg #[.int .i64 k,.int .i64 a,.string ⟨x.toArray⟩,.int .i64 n,.string ⟨s.toArray⟩,vl,va,vr]
abbrev nilS:Value:=.slice none 0 0
theorem zz (k:Int) (t:Tok) (sa:Option Addr) (sn sc:Nat) (w:World):Calls Tryz.prog 123 #[.int .i64 k,tokVal t,.slice sa sn sc] w (ValMade (exV k (t.2:Nat) [] (if k=19 then opOf t.1.text else 0) [] nilS (.slice sa sn sc) nilS) w):=by
 obtain⟨⟨tk,tx,tn⟩,ta⟩:=t;have HO:=zb (fun W=>zc7 tx W);show Calls _ _ _ _ (ValMade (exV k (ta:Nat) [] (if k=19 then opOf tx else 0) [] nilS (.slice sa sn sc) nilS) w)
 generalize opOf tx=n at *;unfold tokVal tokAgg;by_cases hk:k=19
 . subst hk;rw[if_pos rfl]
   go_enter Tryz.func123, Tryz.ntmps123
   go_wp2_with fail
   refine(HO.out _).mono ?_;rintro e w' ⟨rfl,rfl⟩
   go_wp2_with fail
   exact bodyPost_ret (v:=exV _ (ta:Nat) [] _ [] nilS (.slice sa sn sc) nilS) (by simp [results, Tryz.results123,go_sem,exV]) rfl ⟨rfl,vK _ _ _⟩
 . rw[if_neg hk];have B1:(k == 19)=false:=by rw[beq_eq_false_iff_ne];exact hk
   clear hk HO
   go_enter Tryz.func123, Tryz.ntmps123
   go_wp2_with fail
   exact bodyPost_ret (v:=exV _ (ta:Nat) [] _ [] nilS (.slice sa sn sc) nilS) (by simp [results, Tryz.results123,go_sem,exV]) rfl ⟨rfl,vK _ _ _⟩
def strObj (L:List (List UInt8)):Obj:=.cells (L.map fun l=>Value.string ⟨l.toArray⟩).toArray 9 (0,0)
theorem tp (W:World) (b:Nat) (hb:b=W.heap.size) (L:List (List UInt8)):StrAt (W.alloc (strObj L)) (.slice (some ⟨b,0,none⟩) L.length L.length) L:=by
 subst hb;exact strAt_new W L
theorem tJ (t:Tok) (L:List (List UInt8)) (o:Obj) (n:Nat) (ho:strObj L=o) (hn:L.length=n) (hl:L.length<=1000) (W:World) (b:Nat) (hb:b=W.heap.size):Calls Tryz.prog 209 #[tokVal t,.slice (some ⟨b,0,none⟩) n n] (W.alloc o) (YesMade (isOne L t) W):=by
 subst ho hn;exact(zeM t _ L _ (tp W b hb L) hl).mono fun e w' h=>⟨h.1,(zj _).trans (h.2.mono (by simp))⟩
theorem qL (p:Nat) (t:Tok) (R:List Tok) (L:List (List UInt8)) (o:Obj) (n:Nat) (ho:strObj L=o) (hn:L.length=n) (hl:L.length<=1000) (W:World) (b:Nat) (h:PAt W p (t::R)) (hb:b=W.heap.size):Calls Tryz.prog 176 #[.pointer (some ⟨p,0,none⟩),.slice (some ⟨b,0,none⟩) n n] (W.alloc o) (YesMade (isOne L t) W):=by
 subst ho hn;exact(zdk p t R _ L _ (h.below (zj _)) (tp W b hb L) hl).mono fun e w' h=>⟨h.1,(zj _).trans (h.2.mono (by simp))⟩
theorem sq {L:List (List UInt8)} {p:Nat} {t:Tok} {R:List Tok} {w w1:World} {e:Ending} {w':World} (hb:Below w.heap.size w w1) (h:Accepted L p t R w1 e w'):Accepted L p t R w e w':=by
 rcases h with⟨h1,h2,h3,h4⟩ | ⟨h1,h2,h3⟩
 . exact .inl ⟨h1,h2,h3,zo (uY hb _) h4⟩
 . exact .inr ⟨h1,h2,hb.trans (h3.mono hb.size)⟩
theorem needed_of {L:List (List UInt8)} {p:Nat} {t:Tok} {R:List Tok} {w w1:World} {e:Ending} {w':World} (hb:Below w.heap.size w w1) (h:Needed L p t R w1 e w'):Needed L p t R w e w':=by
 rcases h with⟨h1,h2,h3,h4⟩ | ⟨h1,h2,h3⟩
 . exact .inl ⟨h1,h2,h3,zo (uY hb _) h4⟩
 . exact .inr ⟨h1,h2,hb.trans (h3.mono hb.size)⟩
theorem yc (p:Nat) (t:Tok) (R:List Tok) (L:List (List UInt8)) (o:Obj) (n:Nat) (ho:strObj L=o) (hn:L.length=n) (hl:L.length<=1000) (W:World) (b:Nat) (h:PAt W p (t::R)) (hb:b=W.heap.size):Calls Tryz.prog 122 #[.pointer (some ⟨p,0,none⟩),.slice (some ⟨b,0,none⟩) n n] (W.alloc o) (Accepted L p t R W):=by
 subst ho hn;exact(qk p t R _ L _ (h.below (zj _)) (tp W b hb L) hl).mono fun e w' h=>sq (zj _) h
theorem zE (p:Nat) (t:Tok) (R:List Tok) (L:List (List UInt8)) (o:Obj) (n:Nat) (ho:strObj L=o) (hn:L.length=n) (hl:L.length<=1000) (W:World) (b:Nat) (h:PAt W p (t::R)) (hb:b=W.heap.size):Calls Tryz.prog 210 #[.pointer (some ⟨p,0,none⟩),.slice (some ⟨b,0,none⟩) n n] (W.alloc o) (Needed L p t R W):=by
 subst ho hn;exact(p_need p t R _ L _ (h.below (zj _)) (tp W b hb L) hl).mono fun e w' h=>needed_of (zj _) h
def leafV (t:Tok):Value :=
 if t.1.kind=1 then .agg #[.int .i64 1,.int .i64 2,.string ⟨t.1.text.toArray⟩,.int .i64 0,.string ⟨#[]⟩] else if t.1.kind=2 then .agg #[.int .i64 6,.int .i64 7,.string ⟨t.1.text.toArray⟩,.int .i64 0,.string ⟨#[]⟩] else if t.1.kind=4 then .agg #[.int .i64 2,.int .i64 3,.string ⟨#[]⟩,.int .i64 t.1.n,.string ⟨#[]⟩] else if t.1.kind=5 then .agg #[.int .i64 3,.int .i64 4,.string ⟨#[]⟩,.int .i64 0,.string ⟨t.1.text.toArray⟩] else .agg #[.int .i64 4,.int .i64 5,.string ⟨#[]⟩,.int .i64 (if isOne [sTrue] t=true then 1 else 0),.string ⟨#[]⟩]
def LeafIs (t:Tok) (w:World) (e:Ending) (w':World):Prop:=e=.returned (.tuple #[leafV t,.bool (isLeaf t)])/\Below w.heap.size w w'
theorem ro (t:Tok) (w:World):Calls Tryz.prog 226 #[tokVal t] w (LeafIs t w):=by
 have HT:=zb (fun W b (h:b=W.heap.size)=>tJ t [sTrue] _ _ rfl rfl (by decide) W b h);have HF:=zb (fun W b (h:b=W.heap.size)=>tJ t [sFalse] _ _ rfl rfl (by decide) W b h);have HL:Hid (isLeaf t=(isKind 1 t||isKind 2 t||isKind 4 t||isKind 5 t||(isOne [sTrue] t||isOne [sFalse] t))):=zb rfl;obtain⟨bt,hbt⟩:∃ b,isOne [sTrue] t=b:=⟨_,rfl⟩;obtain⟨bf,hbf⟩:∃ b,isOne [sFalse] t=b:=⟨_,rfl⟩;have HV:Hid (leafV t=_):=zb (by unfold leafV;rfl);rw[hbt] at HT HL HV;rw[hbf] at HF HL;unfold isKind at HL;unfold LeafIs;generalize isLeaf t=b at *;generalize leafV t=v at *;clear hbt hbf;obtain⟨⟨tk,tx,tn⟩,ta⟩:=t;unfold tokVal tokAgg at *;simp only at HL HV HT HF ⊢;by_cases h1:tk=1
 . subst h1;clear HT HF
   go_enter Tryz.func226, Tryz.ntmps226
   go_wp2_with fail
   exact bodyPost_ret (v:=.tuple #[v,.bool b]) (by rw[HV.out,HL.out];simp [results, Tryz.results226,go_sem]) rfl ⟨rfl,zB _ _⟩
 . have e1:(tk == 1)=false:=by rw[beq_eq_false_iff_ne];exact h1
   rw[if_neg h1] at HV;rw[decide_eq_false h1] at HL;clear h1;by_cases h1:tk=2
   . subst h1;clear HT HF e1
     go_enter Tryz.func226, Tryz.ntmps226
     go_wp2_with fail
     exact bodyPost_ret (v:=.tuple #[v,.bool b]) (by rw[HV.out,HL.out];simp [results, Tryz.results226,go_sem]) rfl ⟨rfl,zB _ _⟩
   . have e2:(tk == 2)=false:=by rw[beq_eq_false_iff_ne];exact h1
     rw[if_neg h1] at HV;rw[decide_eq_false h1] at HL;clear h1;by_cases h1:tk=4
     . subst h1;clear HT HF e1 e2
       go_enter Tryz.func226, Tryz.ntmps226
       go_wp2_with fail
       exact bodyPost_ret (v:=.tuple #[v,.bool b]) (by rw[HV.out,HL.out];simp [results, Tryz.results226,go_sem]) rfl ⟨rfl,zB _ _⟩
     . have e4:(tk == 4)=false:=by rw[beq_eq_false_iff_ne];exact h1
       rw[if_neg h1] at HV;rw[decide_eq_false h1] at HL;clear h1;by_cases h1:tk=5
       . subst h1;clear HT HF e1 e2 e4
         go_enter Tryz.func226, Tryz.ntmps226
         go_wp2_with fail
         exact bodyPost_ret (v:=.tuple #[v,.bool b]) (by rw[HV.out,HL.out];simp [results, Tryz.results226,go_sem]) rfl ⟨rfl,zB _ _⟩
       . have e5:(tk == 5)=false:=by rw[beq_eq_false_iff_ne];exact h1
         rw[if_neg h1] at HV;rw[decide_eq_false h1] at HL;clear h1
         go_enter Tryz.func226, Tryz.ntmps226
         go_wp2_with fail
         refine(HT.out _ _ (by simp)).mono ?_;rintro e w1 ⟨rfl,hb1⟩;have HB1:=zb ((zB (w:=w) _ _).trans (hb1.mono (by simp;omega)));have HBT:Hid (TokBox w1 w.heap.size tk (ta:Nat) ⟨tx.toArray⟩ tn):=zb (((qz w tk (ta:Nat) tn ⟨tx.toArray⟩).more (zj _)).more hb1);have HBL:Hid (Box5 w1 (w.heap.size+1) 239 (.int .i64 0) (.int .i64 0) (.string ⟨#[]⟩) (.int .i64 0) (.string ⟨#[]⟩)):=zb (Box5.below (zA _ _ _ (by simp)) hb1);clear hb1 HT;cases bt with
         | true =>
          obtain⟨c0,c1,c2,c3,c4,cf⟩:=HBL.out.cells;have f0:=cf 0;have f1:=cf 1;have f2:=cf 2;have f3:=cf 3;have f4:=cf 4;have hl:=HBL.out.lt;clear cf HF HBT
          go_wp2_with fail
          have HS:=zb (HBL.out.stored (v0:=.int .i64 4) (v1:=.int .i64 5) (v2:=.string ⟨#[]⟩) (v3:=.int .i64 1) (v4:=.string ⟨#[]⟩) HB1.out (by omega) rfl);unfold set5 at HS;generalize World.setCell _ _ _=w9 at *;obtain⟨d0,d1,d2,d3,d4,_⟩:=HS.out.1.cells;exact bodyPost_ret (v:=.tuple #[v,.bool b]) (by rw[HV.out,HL.out];simp [results, Tryz.results226,go_sem,d0,d1,d2,d3,d4]) rfl ⟨rfl,HS.out.2.1⟩
         | false =>
          obtain⟨c0,c1,c2,c3,cf⟩:=HBT.out.cells;have hl:=zp HBT.out;clear cf
          go_wp2_with fail
          refine(HF.out _ _ (by simp)).mono ?_;rintro e w2 ⟨rfl,hb2⟩;have HB2:=zb (HB1.out.trans (hb2.mono HB1.out.size));have HBM:=zb (HBL.out.below hb2);obtain⟨c0,c1,c2,c3,c4,cf⟩:=HBM.out.cells;have f0:=cf 0;have f1:=cf 1;have f2:=cf 2;have f3:=cf 3;have f4:=cf 4;have hl:=HBM.out.lt;clear cf HF HBT HBL HB1 hb2
          go_wp2_with fail
          have HS:=zb (HBM.out.stored (v0:=.int .i64 4) (v1:=.int .i64 5) (v2:=.string ⟨#[]⟩) (v3:=.int .i64 0) (v4:=.string ⟨#[]⟩) HB2.out (by omega) rfl);unfold set5 at HS;generalize World.setCell _ _ _=w9 at *;obtain⟨d0,d1,d2,d3,d4,_⟩:=HS.out.1.cells;exact bodyPost_ret (v:=.tuple #[v,.bool b]) (by rw[HV.out,HL.out];simp [results, Tryz.results226,go_sem,d0,d1,d2,d3,d4]) rfl ⟨rfl,HS.out.2.1⟩
end
section
open Go.RowKit
theorem uB (t:Tok):∃(a b:Int) (x:ByteArray) (n:Int) (s:ByteArray),leafV t=.agg #[.int .i64 a,.int .i64 b,.string x,.int .i64 n,.string s]:=by
 unfold leafV
 repeat' split
 all_goals exact⟨_,_,_,_,_,rfl⟩
theorem zbg (p:Nat) (t:Tok) (R:List Tok) (w:World) (h:PAt w p (t::R)):Calls Tryz.prog 241 #[.pointer (some ⟨p,0,none⟩)] w (YesMade (begins t) w):=by
 obtain⟨g,off,cap,c0,_,h1,h2,h3,k0,k1,k2,k3⟩:=h.view;have hp:=h.lt;have HP:=zb h;have HL:=zb (ro t w);have HB:Hid (begins t=(isLeaf t||isOne [sOpen,sCurl,sBang] t)):=zb rfl;have HS:=zb (fun W b h hb=>qL p t R [sOpen,sCurl,sBang] _ _ rfl rfl (by decide) W b h hb);obtain⟨a0,a1,a2,a3,a4,hlv⟩:=uB t;unfold LeafIs at HL;rw[hlv] at HL;unfold tokVal tokAgg at HL;have g1:(0:Int)<((R.length:Int)+1):=by omega
 clear h hlv;generalize begins t=b at *;generalize isLeaf t=bl at *;generalize isOne [sOpen,sCurl,sBang] t=bs at *;generalize R.length=n at *
 go_enter Tryz.func241, Tryz.ntmps241
 go_wp2_with fail
 refine HL.out.mono ?_;rintro e w1 ⟨rfl,hb1⟩;have HB1:=zb (hb1.trans ((zj (.cells #[.int .i64 a0,.int .i64 a1,.string a2,.int .i64 a3,.string a4] 239 (0,0))).mono hb1.size));have HP1:=zb (HP.out.below HB1.out);clear hb1 HL HP c0 k0 k1 k2 k3;cases bl with
 | true =>
  go_wp2_with fail
  go_ret;exact⟨by rw[HB.out];rfl,HB1.out⟩
 | false =>
  go_wp2_with fail
  refine(HS.out _ _ HP1.out (by simp)).mono ?_;rintro e w2 ⟨rfl,hb2⟩;have HB2:=zb (HB1.out.trans (hb2.mono HB1.out.size));clear hb2
  go_wp2_with fail
  go_ret;exact⟨by rw[HB.out];rfl,HB2.out⟩
structure Sl where
 la:Option Addr
 lc:Nat
 aa:Option Addr
 ac:Nat
 ra:Option Addr
 rc:Nat
def exOf (x:Nd) (s:Sl):Value:=exV x.hd.kind x.hd.pos x.hd.name x.hd.n x.hd.s (.slice s.la x.hd.labels.length s.lc) (.slice s.aa x.args.length s.ac) (.slice s.ra x.arms.length s.rc)
def exL (x:Nd) (s:Sl):List Value:=[.int .i64 x.hd.kind,.int .i64 x.hd.pos,.string ⟨x.hd.name.toArray⟩,.int .i64 x.hd.n,.string ⟨x.hd.s.toArray⟩,.slice s.la x.hd.labels.length s.lc,.slice s.aa x.args.length s.ac,.slice s.ra x.arms.length s.rc]
abbrev exObj (x:Nd) (s:Sl):Obj:=.cells #[.int .i64 x.hd.kind,.int .i64 x.hd.pos,.string ⟨x.hd.name.toArray⟩,.int .i64 x.hd.n,.string ⟨x.hd.s.toArray⟩,.slice s.la x.hd.labels.length s.lc,.slice s.aa x.args.length s.ac,.slice s.ra x.arms.length s.rc] 27 (0,0)
abbrev tokObj (t:Tok):Obj:=.cells #[.int .i64 t.1.kind,.int .i64 (t.2:Nat),.string ⟨t.1.text.toArray⟩,.int .i64 t.1.n] 69 (0,0)
abbrev zeroObj:Obj:=.cells #[.int .i64 0,.int .i64 0,.string ⟨#[]⟩,.int .i64 0,.string ⟨#[]⟩,.slice none 0 0,.slice none 0 0,.slice none 0 0] 27 (0,0)
def ExBox (w:World) (b:Nat) (x:Nd) (s:Sl):Prop:=Box8 w b 27 (.int .i64 x.hd.kind) (.int .i64 x.hd.pos) (.string ⟨x.hd.name.toArray⟩) (.int .i64 x.hd.n) (.string ⟨x.hd.s.toArray⟩) (.slice s.la x.hd.labels.length s.lc) (.slice s.aa x.args.length s.ac) (.slice s.ra x.arms.length s.rc)
def ZeroBox (w:World) (b:Nat):Prop:=Box8 w b 27 (.int .i64 0) (.int .i64 0) (.string ⟨#[]⟩) (.int .i64 0) (.string ⟨#[]⟩) (.slice none 0 0) (.slice none 0 0) (.slice none 0 0)
def TkBox (w:World) (b:Nat) (t:Tok):Prop:=TokBox w b t.1.kind (t.2:Nat) ⟨t.1.text.toArray⟩ t.1.n
theorem vE (w:World) (v0 v1 v2 v3 v4 v5 v6 v7:Value) (ty:TypeId):Box8 (w.alloc (.cells #[v0,v1,v2,v3,v4,v5,v6,v7] ty (0,0))) w.heap.size ty v0 v1 v2 v3 v4 v5 v6 v7:=zA w _ _ rfl
theorem ExBox.new (w:World) (x:Nd) (s:Sl):ExBox (w.alloc (exObj x s)) w.heap.size x s:=vE _ _ _ _ _ _ _ _ _ _
theorem ZeroBox.new (w:World):ZeroBox (w.alloc zeroObj) w.heap.size:=vE _ _ _ _ _ _ _ _ _ _
theorem TkBox.new (w:World) (t:Tok):TkBox (w.alloc (tokObj t)) w.heap.size t:=qz _ _ _ _ _
theorem ExBox.below {w w':World} {b:Nat} {x:Nd} {s:Sl} (h:ExBox w b x s) (hb:Below w.heap.size w w'):ExBox w' b x s:=Box8.below h hb
theorem ZeroBox.below {w w':World} {b:Nat} (h:ZeroBox w b) (hb:Below w.heap.size w w'):ZeroBox w' b:=Box8.below h hb
theorem TkBox.below {w w':World} {b:Nat} {t:Tok} (h:TkBox w b t) (hb:Below w.heap.size w w'):TkBox w' b t:=TokBox.more h hb
theorem ExBox.keep {a w:World} {b p:Nat} {x:Nd} {s:Sl} {R:List Tok} (h:ExBox a b x s) (hk:Keep a p R w) (hn:p<b):ExBox w b x s:=Box8.keep h hk hn
theorem ZeroBox.keep {a w:World} {b p:Nat} {R:List Tok} (h:ZeroBox a b) (hk:Keep a p R w) (hn:p<b):ZeroBox w b:=Box8.keep h hk hn
theorem TkBox.keep {a w:World} {b p:Nat} {t:Tok} {R:List Tok} (h:TkBox a b t) (hk:Keep a p R w) (hn:p<b):TkBox w b t:=TokBox.keep h hk hn
theorem ExBox.lt {w:World} {b:Nat} {x:Nd} {s:Sl} (h:ExBox w b x s):b<w.heap.size:=Box8.lt h
theorem ZeroBox.lt {w:World} {b:Nat} (h:ZeroBox w b):b<w.heap.size:=Box8.lt h
theorem TkBox.lt {w:World} {b:Nat} {t:Tok} (h:TkBox w b t):b<w.heap.size:=zp h
theorem RowIn.form {w:World} {N:Nat->Prop} {e:TypeId} {size:Nat} {v:Value} {n:Nat} {xs:List Value} (h:RowIn w N e size v n xs):∃ a c,v=.slice a n c:=by
 obtain⟨⟨a,c,h1,_⟩,_⟩:=h;exact⟨a,c,h1⟩
theorem IsE.form {w:World} {N:Nat->Prop} {cs:List Value} {x:Nd} (h:IsE w N cs x):∃ s,cs=exL x s:=by
 cases x;obtain⟨vl,va,vr,rfl,h1,⟨L,h2,_⟩,M,h3,_⟩:=h;obtain⟨la,lc,rfl⟩:=h1.form;obtain⟨aa,ac,rfl⟩:=h2.form;obtain⟨ra,rc,rfl⟩:=h3.form;exact⟨⟨la,lc,aa,ac,ra,rc⟩,rfl⟩
theorem IsE.keep {a w:World} {N:Nat->Prop} {cs:List Value} {x:Nd} {p:Nat} {R:List Tok} (h:IsE a N cs x) (hk:Keep a p R w) (hn:∀ g,N g->p<g):IsE w N cs x :=
 h.move fun g hg hl=>⟨hg,hk.block g hl (by have:=hn g hg;omega)⟩
theorem IsE.below {a w:World} {N:Nat->Prop} {cs:List Value} {x:Nd} (h:IsE a N cs x) (hb:Below a.heap.size a w):IsE w N cs x :=
 h.move fun g hg hl=>⟨hg,hb.block g hl⟩
theorem IsE.other {w w':World} {N N':Nat->Prop} {cs:List Value} {x:Nd} (h:IsE w N cs x) (hk:∀ g,N g->N' g/\w'.heap[g]? = w.heap[g]?):IsE w' N' cs x :=
 h.move fun g hg _=>hk g hg
theorem IsE.wide {w:World} {N N':Nat->Prop} {cs:List Value} {x:Nd} (h:IsE w N cs x) (hk:∀ g,N g->N' g):IsE w N' cs x :=
 h.move fun g hg _=>⟨hk g hg,rfl⟩
theorem Row.cons {T:List Tok} (h:Row T):∃ t S,T=t::S:=by
 obtain⟨X,e,rfl,_⟩:=h;cases X with
 | nil=>exact⟨_,_,rfl⟩
 | cons x X=>exact⟨_,_,rfl⟩
def Told (r:PR) (a:World) (p:Nat) (e:Ending) (w':World):Prop:=match r with
 | .ok x R=>∃ s,e=.returned (exOf x s)/\IsE w' (fun g=>a.heap.size<=g) (exL x s) x/\Keep a p R w'
 | .bad R=>∃ t S,R=t::S/\e=faultV t.2/\a.grownBy w' (some p)
 | .out=>False
def Says (f:Nat) (m:Md) (g:FuncId) (args:Array Value) (p:Nat):Prop:=∀(T:List Tok) (w:World),PAt w p T->run f m T≠.out->Calls Tryz.prog g args w (Told (run f m T) w p)
abbrev ptrV (p:Nat):Value:=.pointer (some ⟨p,0,none⟩)
abbrev zeroTok:Obj:=.cells #[.int .i64 0,.int .i64 0,.string ⟨#[]⟩,.int .i64 0] 69 (0,0)
theorem load_ex {w:World} {b:Nat} {x:Nd} {s:Sl} (h:ExBox w b x s):(loadVar 27 ⟨b,0,none⟩).run Tryz.prog w=.ok (exOf x s) w:=by
 obtain⟨c0,c1,c2,c3,c4,c5,c6,c7,_⟩:=Box8.cells h;simp [go_sem,c0,c1,c2,c3,c4,c5,c6,c7,exOf,exV]
theorem uR {fn:Func} {q:Tmp} {ty:TypeId} (h:fn.results=#[.cell q ty]) (tmps:Array Value) (P:Program) (w:World) :
 (results fn tmps).run P w=((asAddr (tmps.getD q undef)).run P w).andThen fun a w₁=>(loadVar ty a).run P w₁:=by
 simp only[results,h];simp [Sem.run_bind,Result.andThen]
theorem zu {fn:Func} {q:Tmp} (hr:fn.results=#[.cell q 27]) {a:Act} {b:Nat} {w:World} {x:Nd} {s:Sl} {Q:Ending->World->Prop} (ha:a.tmps.getD q undef=.pointer (some ⟨b,0,none⟩)) (hd:a.defers=[]) (h:ExBox w b x s/\Q (.returned (exOf x s)) w):bodyPost Tryz.prog fn Q .ret a w:=by
 refine bodyPost_ret (v:=exOf x s) ?_ hd h.2;rw[uR hr,ha];simp [asAddr,Result.andThen,load_ex h.1]
theorem zH {w w2 w9:World} {p b0:Nat} {R:List Tok} {x:Nd} {s:Sl} {c0 c1 c2 c3 c4 c5 c6 c7:Value} (hx:Box8 w2 b0 27 c0 c1 c2 c3 c4 c5 c6 c7) (hb0:w.heap.size<=b0) (hk:Keep w p R w2) (hp:p<w.heap.size) (hi:IsE w2 (fun g=>b0<g) (exL x s) x)
 (he:set8 w2 b0 (.int .i64 x.hd.kind) (.int .i64 x.hd.pos) (.string ⟨x.hd.name.toArray⟩) (.int .i64 x.hd.n) (.string ⟨x.hd.s.toArray⟩) (.slice s.la x.hd.labels.length s.lc) (.slice s.aa x.args.length s.ac) (.slice s.ra x.arms.length s.rc)=w9) :
 ∀ w10,Below w9.heap.size w9 w10->ExBox w10 b0 x s/\Told (.ok x R) w p (.returned (exOf x s)) w10:=by
 obtain⟨h1,h2,h3⟩:=hx.put hk hb0 (by omega) he;intro w10 hb;refine⟨h1.below hb,s,rfl,?_,h2.below hb⟩;exact(hi.other (w':=w9) (N':=fun g=>w.heap.size<=g) fun g hg=>⟨by omega,h3 g (by omega)⟩).move fun g hg hl=>⟨hg,hb.block g hl⟩
theorem sY {w:World} {N:Nat->Prop}:∀{L:List (List Value)} {r:List Nd},IsEs w N L r->L.flatten.length=r.length*8
 | [],[],_=>rfl
 | cs::L,x::r,h=>by
  rw[List.flatten_cons,List.length_append,h.1.len,sY h.2,List.length_cons];omega
 | [],_::_,h=>h.elim
 | _::_,[],h=>h.elim
theorem zx (w:World) (N:Nat->Prop) (e:TypeId) (size:Nat):RowIn w N e size (.slice none 0 0) 0 []:=⟨⟨none,0,rfl,Nat.le_refl _,.inl rfl⟩,by decide⟩
theorem tH {w w':World} {N:Nat->Prop} {e:TypeId} {size n:Nat} {l:List Value} (hn:n<=1000) (hl:l.length=n*size) (hN:N w.heap.size) (hb:Below (w.alloc (.cells l.toArray e (0,0))).heap.size (w.alloc (.cells l.toArray e (0,0))) w'):RowIn w' N e size (.slice (some ⟨w.heap.size,0,none⟩) n n) n l:=by
 have h1:RowIn (w.alloc (.cells l.toArray e (0,0))) N e size (.slice (some ⟨w.heap.size,0,none⟩) n n) n l:=by
  refine vD ?_ fun b hb=>?_
  . have:=World.ownsRow_lit (base:=0) (e:=e) (size:=size) w l.toArray n (Nat.zero_le _) (by unfold maxLen;omega) (by simpa using hl)
    simpa using this
  . obtain rfl:w.heap.size=b:=zc hb;exact hN
 exact h1.move fun g hg hl=>⟨hg,hb.block g hl⟩
theorem IsEs.moves {w w':World} {N N':Nat->Prop} {L:List (List Value)} {r:List Nd} (h:IsEs w N L r) (hm:Move w N w' N'):IsEs w' N' L r:=IsEs.move hm h
theorem zG {w W1 W2:World} {p b0:Nat} {R:List Tok} {args:List Nd} {L:List (List Value)} (hk:Keep w p R W1) (ha:IsEs W1 (fun g=>b0<g) L args) (hz:b0<W1.heap.size) (hl:args.length<=1000) (h:Hd) (hlab:h.labels=[])
 (hb:Below (W1.alloc (.cells L.flatten.toArray 27 (0,0))).heap.size (W1.alloc (.cells L.flatten.toArray 27 (0,0))) W2) :
 IsE W2 (fun g=>b0<g) (exL (.mk h args []) ⟨none,0,some ⟨W1.heap.size,0,none⟩,args.length,none,0⟩) (.mk h args [])/\Keep w p R W2/\Below W1.heap.size W1 W2:=by
 obtain⟨k,q,x,n,s,ls⟩:=h;obtain rfl:ls=[]:=hlab;have hb1:Below W1.heap.size W1 W2:=(zj _).trans (hb.mono (by simp));refine⟨⟨_,_,_,rfl,zx _ _ _ _,⟨L,tH hl (sY ha) hz hb,ha.moves fun g hg hl=>⟨hg,hb1.block g hl⟩⟩,[],zx _ _ _ _,trivial⟩,hk.below hb1,hb1⟩
def Nb (b0 be:Nat):Nat->Prop:=fun g=>b0<g/\g≠be
theorem zJ {N:Nat->Prop} {w W1 W2:World} {p:Nat} {R:List Tok} {args:List Nd} {L:List (List Value)} (hk:Keep w p R W1) (ha:IsEs W1 N L args) (hz:N W1.heap.size) (hl:args.length<=1000) (h:Hd) (hlab:h.labels=[])
 (hb:Below (W1.alloc (.cells L.flatten.toArray 27 (0,0))).heap.size (W1.alloc (.cells L.flatten.toArray 27 (0,0))) W2) :
 IsE W2 N (exL (.mk h args []) ⟨none,0,some ⟨W1.heap.size,0,none⟩,args.length,none,0⟩) (.mk h args [])/\Keep w p R W2/\Below W1.heap.size W1 W2:=by
 obtain⟨k,q,x,n,s,ls⟩:=h;obtain rfl:ls=[]:=hlab;have hb1:Below W1.heap.size W1 W2:=(zj _).trans (hb.mono (by simp));refine⟨⟨_,_,_,rfl,zx _ _ _ _,⟨L,tH hl (sY ha) hz hb,ha.moves fun g hg hl=>⟨hg,hb1.block g hl⟩⟩,[],zx _ _ _ _,trivial⟩,hk.below hb1,hb1⟩
theorem IsE.fresh {w:World} {b0:Nat} {cs:List Value} {x:Nd} (h:IsE w (fun g=>b0<g) cs x) (o:Obj):IsE (w.alloc o) (Nb b0 w.heap.size) cs x :=
 h.move fun g hg hl=>⟨⟨hg,by omega⟩,(zj o).block g hl⟩
theorem IsE.fresh_new {a w:World} {b0 be:Nat} {cs:List Value} {x:Nd} (h:IsE w (fun g=>a.heap.size<=g) cs x) (h1:b0<a.heap.size) (h2:be<a.heap.size):IsE w (Nb b0 be) cs x :=
 h.wide fun g hg=>⟨by omega,by omega⟩
structure NodeIn (w:World) (p b0 be:Nat) (R:List Tok) (h:Hd) (args:List Nd) (g:Option Addr) (c:Nat) (W:World):Prop where
 box:Box8 W be 27 (.int .i64 h.kind) (.int .i64 h.pos) (.string ⟨h.name.toArray⟩) (.int .i64 h.n) (.string ⟨h.s.toArray⟩) (.slice none 0 0) (.slice g args.length c) (.slice none 0 0)
 tree:IsE W (Nb b0 be) (exL (.mk h args []) ⟨none,0,g,c,none,0⟩) (.mk h args [])
 keep:Keep w p R W
 lt:p<be
 new:w.heap.size<=be
 ne:be≠b0
theorem yK {w W:World} {p b0:Nat} {R:List Tok} {h:Hd} {args:List Nd} {g:Option Addr} {c:Nat} (ht:IsE W (fun g=>b0<g) (exL (.mk h args []) ⟨none,0,g,c,none,0⟩) (.mk h args [])) (hk:Keep w p R W) (hp:p<w.heap.size) (hb:b0<W.heap.size) (o:Obj)
 (ho:o=.cells #[.int .i64 h.kind,.int .i64 h.pos,.string ⟨h.name.toArray⟩,.int .i64 h.n,.string ⟨h.s.toArray⟩,.slice none 0 0,.slice g args.length c,.slice none 0 0] 27 (0,0)):NodeIn w p b0 W.heap.size R h args g c (W.alloc o):=by
 subst ho;exact⟨vE _ _ _ _ _ _ _ _ _ _,ht.fresh _,hk.below (zj _),by have:=hk.size;omega,hk.size,by omega⟩
theorem ya {w W W':World} {p b0 be:Nat} {R:List Tok} {h:Hd} {args:List Nd} {g:Option Addr} {c:Nat} {c0 c1 c2 c3 c4 c5 c6 c7:Value} (hx:Box8 W be 27 c0 c1 c2 c3 c4 c5 c6 c7) (ht:IsE W (Nb b0 be) (exL (.mk h args []) ⟨none,0,g,c,none,0⟩) (.mk h args [])) (hk:Keep w p R W) (hp:p<w.heap.size) (hn:w.heap.size<=be) (hb:be≠b0)
 (he:set8 W be (.int .i64 h.kind) (.int .i64 h.pos) (.string ⟨h.name.toArray⟩) (.int .i64 h.n) (.string ⟨h.s.toArray⟩) (.slice none 0 0) (.slice g args.length c) (.slice none 0 0)=W'):NodeIn w p b0 be R h args g c W'/\∀ j,j≠be->W'.heap[j]? = W.heap[j]? := by
 obtain⟨h1,h2,h3⟩:=hx.put hk hn (by omega) he;exact⟨⟨h1,ht.other fun g hg=>⟨hg,h3 g hg.2⟩,h2,by omega,hn,hb⟩,h3⟩
theorem IsE.hd {w:World} {N:Nat->Prop} {h h':Hd} {args:List Nd} {arms:List (Nd×Nd)} {s:Sl} (hi:IsE w N (exL (.mk h args arms) s) (.mk h args arms)) (hl:h'.labels=h.labels):IsE w N (exL (.mk h' args arms) s) (.mk h' args arms):=by
 obtain⟨vl,va,vr,h1,h2,h3,h4⟩:=hi;have h1:[Value.int .i64 h.kind,.int .i64 h.pos,.string ⟨h.name.toArray⟩,.int .i64 h.n,.string ⟨h.s.toArray⟩,.slice s.la h.labels.length s.lc,.slice s.aa args.length s.ac,.slice s.ra arms.length s.rc]=_:=h1;simp only[List.cons.injEq,true_and,and_true] at h1;obtain⟨rfl,rfl,rfl⟩:=h1;obtain⟨k,q,x,n,t,ls⟩:=h';obtain rfl:ls=h.labels:=hl;exact⟨_,_,_,rfl,h2,h3,h4⟩
theorem NodeIn.name {w W:World} {p b0 be:Nat} {R:List Tok} {h:Hd} {args:List Nd} {g:Option Addr} {c:Nat} (hn:NodeIn w p b0 be R h args g c W) (x:List UInt8):NodeIn w p b0 be R ⟨h.kind,h.pos,x,h.n,h.s,h.labels⟩ args g c (W.setCell ⟨be,2,none⟩ (.string ⟨x.toArray⟩)) :=
 ⟨zn hn.box 2 _,(hn.tree.hd (h':=⟨h.kind,h.pos,x,h.n,h.s,h.labels⟩) rfl).other fun _ hg=>⟨hg,Below.heap_setCell _ _ _ _ hg.2⟩,hn.keep.set hn.new hn.lt _ _,hn.lt,hn.new,hn.ne⟩
theorem NodeIn.num {w W:World} {p b0 be:Nat} {R:List Tok} {h:Hd} {args:List Nd} {g:Option Addr} {c:Nat} (hn:NodeIn w p b0 be R h args g c W) (n:Int):NodeIn w p b0 be R ⟨h.kind,h.pos,h.name,n,h.s,h.labels⟩ args g c (W.setCell ⟨be,3,none⟩ (.int .i64 n)) :=
 ⟨zn hn.box 3 _,(hn.tree.hd (h':=⟨h.kind,h.pos,h.name,n,h.s,h.labels⟩) rfl).other fun _ hg=>⟨hg,Below.heap_setCell _ _ _ _ hg.2⟩,hn.keep.set hn.new hn.lt _ _,hn.lt,hn.new,hn.ne⟩
theorem ZeroBox.set {W:World} {b be:Nat} (h:ZeroBox W b) (hn:be≠b) (i:Nat) (v:Value):ZeroBox (W.setCell ⟨be,i,none⟩ v) b:=(Below.heap_setCell _ _ _ _ (fun e=>hn (by have e:b=be:=e;exact e.symm))).trans h
theorem NodeIn.more {w W W':World} {p b0 be:Nat} {R R':List Tok} {h:Hd} {args:List Nd} {g:Option Addr} {c:Nat} (hn:NodeIn w p b0 be R h args g c W) (hp:p<b0) (hk:Keep W p R' W'):NodeIn w p b0 be R' h args g c W' :=
 ⟨hn.box.keep hk hn.lt,hn.tree.keep hk fun _ hg=>Nat.lt_trans hp hg.1,hn.keep.trans hk,hn.lt,hn.new,hn.ne⟩
theorem NodeIn.ret {w W w9:World} {p b0 be:Nat} {R:List Tok} {h:Hd} {args:List Nd} {g:Option Addr} {c:Nat} {c0 c1 c2 c3 c4 c5 c6 c7:Value} (hn:NodeIn w p b0 be R h args g c W) (hl:h.labels=[]) (hx:Box8 W b0 27 c0 c1 c2 c3 c4 c5 c6 c7) (hb0:w.heap.size<=b0) (hp:p<w.heap.size)
 (he:set8 W b0 (.int .i64 h.kind) (.int .i64 h.pos) (.string ⟨h.name.toArray⟩) (.int .i64 h.n) (.string ⟨h.s.toArray⟩) (.slice none 0 0) (.slice g args.length c) (.slice none 0 0)=w9) :
 ∀ w10,Below w9.heap.size w9 w10->ExBox w10 b0 (.mk h args []) ⟨none,0,g,c,none,0⟩/\Told (.ok (.mk h args []) R) w p (.returned (exOf (.mk h args []) ⟨none,0,g,c,none,0⟩)) w10:=by
 obtain⟨k,q,x,n,t,ls⟩:=h;obtain rfl:ls=[]:=hl;exact zH hx hb0 hn.keep hp (hn.tree.wide fun g hg=>hg.1) he
theorem yM {w w2 w9:World} {p b0:Nat} {R:List Tok} {k n:Int} {q:Nat} {x:List UInt8} {args:List Nd} {g:Option Addr} {c:Nat} {c0 c1 c2 c3 c4 c5 c6 c7:Value} (hx:Box8 w2 b0 27 c0 c1 c2 c3 c4 c5 c6 c7) (hb0:w.heap.size<=b0) (hp:p<w.heap.size)
 (hi:IsE w2 (fun g=>b0<g) (exL (.mk ⟨k,q,x,n,[],[]⟩ args []) ⟨none,0,g,c,none,0⟩) (.mk ⟨k,q,x,n,[],[]⟩ args [])/\Keep w p R w2) (m:Nat) (hm:args.length=m) (X:ByteArray) (hX:(⟨x.toArray⟩:ByteArray)=X)
 (he:set8 w2 b0 (.int .i64 k) (.int .i64 (q:Nat)) (.string X) (.int .i64 n) (.string ⟨#[]⟩) (.slice none 0 0) (.slice g m c) (.slice none 0 0)=w9) :
 ∀ w10,Below w9.heap.size w9 w10->ExBox w10 b0 (.mk ⟨k,q,x,n,[],[]⟩ args []) ⟨none,0,g,c,none,0⟩/\Told (.ok (.mk ⟨k,q,x,n,[],[]⟩ args []) R) w p (.returned (exOf (.mk ⟨k,q,x,n,[],[]⟩ args []) ⟨none,0,g,c,none,0⟩)) w10:=by
 subst hm hX;exact zH hx hb0 hi.2 hp hi.1 he
theorem zm (w:World):Below w.heap.size w w.drew:=(Below.refl _ w).drew
end
section
open Go.RowKit
def paOf (x:Nd) (s:Sl):Value:=.agg #[.int .i64 x.hd.kind,.int .i64 x.hd.pos,.string ⟨x.hd.name.toArray⟩,.int .i64 x.hd.n,.string ⟨x.hd.s.toArray⟩,.slice s.la x.hd.labels.length s.lc,.slice s.aa x.args.length s.ac]
def paL (x:Nd) (s:Sl):List Value:=[.int .i64 x.hd.kind,.int .i64 x.hd.pos,.string ⟨x.hd.name.toArray⟩,.int .i64 x.hd.n,.string ⟨x.hd.s.toArray⟩,.slice s.la x.hd.labels.length s.lc,.slice s.aa x.args.length s.ac]
abbrev paObj (x:Nd) (s:Sl):Obj:=.cells #[.int .i64 x.hd.kind,.int .i64 x.hd.pos,.string ⟨x.hd.name.toArray⟩,.int .i64 x.hd.n,.string ⟨x.hd.s.toArray⟩,.slice s.la x.hd.labels.length s.lc,.slice s.aa x.args.length s.ac] 39 (0,0)
abbrev zeroPat:Obj:=.cells #[.int .i64 0,.int .i64 0,.string ⟨#[]⟩,.int .i64 0,.string ⟨#[]⟩,.slice none 0 0,.slice none 0 0] 39 (0,0)
def PaBox (w:World) (b:Nat) (x:Nd) (s:Sl):Prop:=Box7 w b 39 (.int .i64 x.hd.kind) (.int .i64 x.hd.pos) (.string ⟨x.hd.name.toArray⟩) (.int .i64 x.hd.n) (.string ⟨x.hd.s.toArray⟩) (.slice s.la x.hd.labels.length s.lc) (.slice s.aa x.args.length s.ac)
def ZeroPa (w:World) (b:Nat):Prop:=Box7 w b 39 (.int .i64 0) (.int .i64 0) (.string ⟨#[]⟩) (.int .i64 0) (.string ⟨#[]⟩) (.slice none 0 0) (.slice none 0 0)
theorem zb9 (w:World) (v0 v1 v2 v3 v4 v5 v6:Value) (ty:TypeId):Box7 (w.alloc (.cells #[v0,v1,v2,v3,v4,v5,v6] ty (0,0))) w.heap.size ty v0 v1 v2 v3 v4 v5 v6:=zA w _ _ rfl
theorem PaBox.new (w:World) (x:Nd) (s:Sl):PaBox (w.alloc (paObj x s)) w.heap.size x s:=zb9 _ _ _ _ _ _ _ _ _
theorem ZeroPa.new (w:World):ZeroPa (w.alloc zeroPat) w.heap.size:=zb9 _ _ _ _ _ _ _ _ _
theorem PaBox.below {w w':World} {b:Nat} {x:Nd} {s:Sl} (h:PaBox w b x s) (hb:Below w.heap.size w w'):PaBox w' b x s:=Box7.below h hb
theorem ZeroPa.below {w w':World} {b:Nat} (h:ZeroPa w b) (hb:Below w.heap.size w w'):ZeroPa w' b:=Box7.below h hb
theorem PaBox.keep {a w:World} {b p:Nat} {x:Nd} {s:Sl} {R:List Tok} (h:PaBox a b x s) (hk:Keep a p R w) (hn:p<b):PaBox w b x s:=Box7.keep h hk hn
theorem ZeroPa.keep {a w:World} {b p:Nat} {R:List Tok} (h:ZeroPa a b) (hk:Keep a p R w) (hn:p<b):ZeroPa w b:=Box7.keep h hk hn
theorem PaBox.lt {w:World} {b:Nat} {x:Nd} {s:Sl} (h:PaBox w b x s):b<w.heap.size:=Box7.lt h
theorem ZeroPa.lt {w:World} {b:Nat} (h:ZeroPa w b):b<w.heap.size:=Box7.lt h
theorem IsP.keep {a w:World} {N:Nat->Prop} {cs:List Value} {x:Nd} {p:Nat} {R:List Tok} (h:IsP a N cs x) (hk:Keep a p R w) (hn:∀ g,N g->p<g):IsP w N cs x :=
 h.move fun g hg hl=>⟨hg,hk.block g hl (by have:=hn g hg;omega)⟩
theorem IsP.below {a w:World} {N:Nat->Prop} {cs:List Value} {x:Nd} (h:IsP a N cs x) (hb:Below a.heap.size a w):IsP w N cs x :=
 h.move fun g hg hl=>⟨hg,hb.block g hl⟩
theorem IsP.other {w w':World} {N N':Nat->Prop} {cs:List Value} {x:Nd} (h:IsP w N cs x) (hk:∀ g,N g->N' g/\w'.heap[g]? = w.heap[g]?):IsP w' N' cs x :=
 h.move fun g hg _=>hk g hg
theorem IsP.wide {w:World} {N N':Nat->Prop} {cs:List Value} {x:Nd} (h:IsP w N cs x) (hk:∀ g,N g->N' g):IsP w N' cs x :=
 h.move fun g hg _=>⟨hk g hg,rfl⟩
def ToldP (r:PR) (a:World) (p:Nat) (e:Ending) (w':World):Prop:=match r with
 | .ok x R=>∃ s,e=.returned (paOf x s)/\IsP w' (fun g=>a.heap.size<=g) (paL x s) x/\Keep a p R w'
 | .bad R=>∃ t S,R=t::S/\e=faultV t.2/\a.grownBy w' (some p)
 | .out=>False
def SaysP (f:Nat) (m:Md) (g:FuncId) (args:Array Value) (p:Nat):Prop:=∀(T:List Tok) (w:World),PAt w p T->run f m T≠.out->Calls Tryz.prog g args w (ToldP (run f m T) w p)
structure ExRow (w:World) (N:Nat->Prop) (v:Value) (l:List Nd):Prop where
 ex:∃ L,RowIn w N 27 8 v l.length L.flatten/\IsEs w N L l
structure ArRow (w:World) (N:Nat->Prop) (v:Value) (l:List (Nd×Nd)):Prop where
 ex:∃ L,RowIn w N 77 15 v l.length L.flatten/\IsAs w N L l
structure PaRow (w:World) (N:Nat->Prop) (v:Value) (l:List Nd):Prop where
 ex:∃ L,RowIn w N 39 7 v l.length L.flatten/\IsPs w N L l
def ToldA (r:PR) (a:World) (p:Nat) (e:Ending) (w':World):Prop:=match r with
 | .ok x R=>∃ g c,e=.returned (.slice g x.arms.length c)/\ArRow w' (fun g=>a.heap.size<=g) (.slice g x.arms.length c) x.arms/\Keep a p R w'
 | .bad R=>∃ t S,R=t::S/\e=faultV t.2/\a.grownBy w' (some p)
 | .out=>False
def ToldR (r:PR) (a:World) (p:Nat) (e:Ending) (w':World):Prop:=match r with
 | .ok x R=>∃ g c,e=.returned (.slice g x.args.length c)/\ExRow w' (fun g=>a.heap.size<=g) (.slice g x.args.length c) x.args/\Keep a p R w'
 | .bad R=>∃ t S,R=t::S/\e=faultV t.2/\a.grownBy w' (some p)
 | .out=>False
def ToldF (b:Bool) (r:PR) (a:World) (p:Nat) (e:Ending) (w':World):Prop:=match r with
 | .ok x R=>∃ gl cl g c,e=.returned (.tuple #[.slice gl x.hd.labels.length cl,.slice g x.args.length c])/\RowIn w' (fun g=>a.heap.size<=g) 9 1 (.slice gl x.hd.labels.length cl) x.hd.labels.length (strCells x.hd.labels)/\(if b=true then ExRow w' (fun g=>a.heap.size<=g) (.slice g x.args.length c) x.args else PaRow w' (fun g=>a.heap.size<=g) (.slice g x.args.length c) x.args)/\Keep a p R w'
 | .bad R=>∃ t S,R=t::S/\e=faultV t.2/\a.grownBy w' (some p)
 | .out=>False
def SaysA (f:Nat) (m:Md) (g:FuncId) (args:Array Value) (p:Nat):Prop:=∀(T:List Tok) (w:World),PAt w p T->run f m T≠.out->Calls Tryz.prog g args w (ToldA (run f m T) w p)
def SaysR (f:Nat) (m:Md) (g:FuncId) (args:Array Value) (p:Nat):Prop:=∀(T:List Tok) (w:World),PAt w p T->run f m T≠.out->Calls Tryz.prog g args w (ToldR (run f m T) w p)
def SaysF (b:Bool) (f:Nat) (m:Md) (g:FuncId) (args:Array Value) (p:Nat):Prop:=∀(T:List Tok) (w:World),PAt w p T->run f m T≠.out->Calls Tryz.prog g args w (ToldF b (run f m T) w p)
def lenAt (w:World) (p:Nat):Nat:=match w.cell? ⟨p,0,none⟩ with
 | some (.slice _ n _)=>n
 | _=>0
theorem PAt.len {w:World} {p:Nat} {T:List Tok} (h:PAt w p T):lenAt w p=T.length:=by
 obtain⟨⟨g,off,cap,h1,_⟩,_⟩:=h;unfold lenAt;rw[zf h1];rfl
end
section
open Go.RowKit
def Moves (Is:World->(Nat->Prop)->Prop):Prop:=∀ w N w' N',Move w N w' N'->Is w N->Is w' N'
structure GRow (base:Nat) (ty:TypeId) (size:Nat) (w:World) (v:Value) (n:Nat) (xs:List Value) (Is:World->(Nat->Prop)->Prop):Prop where
 own:w.ownsRow base ty size v n xs
 is:Is w (fun g=>base<=g/\some g≠v.ownBlock)
section
variable {base : Nat} {ty : TypeId} {size : Nat} {w w' : World} {v v' : Value} {n : Nat} {xs : List Value} {Is Is' : World -> (Nat -> Prop) -> Prop}
theorem GRow.start (h:Is w (fun g=>base<=g/\some g≠(Value.slice none 0 0).ownBlock)):GRow base ty size w (.slice none 0 0) 0 [] Is:=⟨World.ownsRow_nil _ _ _ _,h⟩
theorem GRow.move (h:GRow base ty size w v n xs Is) (hm:Moves Is) (hk:∀ g,base<=g->g<w.heap.size->w'.heap[g]? = w.heap[g]?):GRow base ty size w' v n xs Is:=by
 refine⟨?_,hm _ _ _ _ (fun g hg hl=>⟨hg,hk g hg.1 hl⟩) h.is⟩;obtain⟨⟨h1,h2⟩,_⟩:=h;rcases h2 with h2 | ⟨g,cap,cur,rfl,hb,hg,rest⟩
 . exact⟨h1,.inl h2⟩
 . exact⟨h1,.inr ⟨g,cap,cur,rfl,hb,(hk g hb (zp hg)).trans hg,rest⟩⟩
theorem GRow.below (h:GRow base ty size w v n xs Is) (hm:Moves Is) (hb:Below w.heap.size w w'):GRow base ty size w' v n xs Is:=h.move hm fun g _ hl=>hb.block g hl
theorem GRow.keep {p:Nat} {R:List Tok} (h:GRow base ty size w v n xs Is) (hm:Moves Is) (hk:Keep w p R w') (hp:p<base):GRow base ty size w' v n xs Is:=h.move hm fun g hg hl=>hk.block g hl (by omega)
theorem GRow.push {m:Nat} {news:List Value} (h:GRow base ty size w v n xs Is) (hown:w'.ownsRow base ty size v' (n+m) (xs++news)) (hg:w.grownBy w' v.ownBlock) (hat:v'.ownBlock=v.ownBlock∨v'.ownBlock=some w.heap.size)
 (hnew:Is w (fun g=>base<=g/\some g≠v.ownBlock)->Is' w (fun g=>base<=g/\some g≠v.ownBlock)) (hm':Moves Is'):GRow base ty size w' v' (n+m) (xs++news) Is':=by
 refine⟨hown,hm' _ _ _ _ (fun g hb hl=>⟨⟨hb.1,?_⟩,hg.block g hl hb.2⟩) (hnew h.is)⟩;rcases hat with e | e
 . rw[e];exact hb.2
 . rw[e];intro e2;have:=zc e2;omega
theorem GRow.rowIn (h:GRow base ty size w v n xs Is):RowIn w (fun g=>base<=g) ty size v n xs:=vD (by
 obtain⟨h1,h2⟩:=h.own;rcases h2 with h2 | ⟨g,cap,cur,h3,_,rest⟩
 . exact⟨h1,.inl h2⟩
 . exact⟨h1,.inr ⟨g,cap,cur,h3,Nat.zero_le _,rest⟩⟩) fun b hb=>(World.ownsRow.lt h.own b hb).1
theorem GRow.all (h:GRow base ty size w v n xs Is) (hm:Moves Is):Is w (fun g=>base<=g):=hm _ _ _ _ (fun _ hg _=>⟨hg.1,rfl⟩) h.is
theorem GRow.form (h:GRow base ty size w v n xs Is):∃ a c,v=.slice a n c:=h.rowIn.form
theorem GRow.new (h:GRow base ty size w v n xs Is) {k:Nat} (hk:w.heap.size<=k):some k≠v.ownBlock:=fun e=>by
 have:=(World.ownsRow.lt h.own k e.symm).2;omega
theorem GRow.keeps {a:World} {p:Nat} {R:List Tok} (h:GRow base ty size w v n xs Is) (hk:Keep a p R w) (ha:a.heap.size<=base) (hp:p<base) (hg:w.grownBy w' v.ownBlock):Keep a p R w'/\∀ b,b<base->b<w.heap.size->w'.heap[b]? = w.heap[b]? := by
 have h1:∀ b,b<base->b<w.heap.size->w'.heap[b]? = w.heap[b]? := fun b hb hl=>hg.block b hl fun e=>by
  have:=(World.ownsRow.lt h.own b e.symm).1;omega
 have hpl:=hk.at_.lt;refine⟨⟨hk.at_.keep fun b hb=>h1 b (by omega) (by omega),hg.os.trans hk.grown.os,hg.tape.trans hk.grown.tape,hg.output.trans hk.grown.output,Nat.le_trans hk.grown.size hg.size,fun j hj hr=>?_⟩,h1⟩;rw[h1 j (by omega) (zd hj hk.grown.size)];exact hk.grown.block j hj hr
end
theorem zV (L:List (List Value)) (l:List Nd):Moves (fun w N=>IsEs w N L l):=fun _ _ _ _ hm h=>IsEs.move hm h
theorem yB (L:List (List Value)) (l:List Nd):Moves (fun w N=>IsPs w N L l):=fun _ _ _ _ hm h=>IsPs.move hm h
theorem xe (L:List (List Value)) (l:List (Nd×Nd)):Moves (fun w N=>IsAs w N L l):=fun _ _ _ _ hm h=>IsAs.move hm h
theorem zF:Moves (fun _ _=>True):=fun _ _ _ _ _ _=>trivial
end
section
open Go.RowKit
section
variable {P : Program} {ops : Array Oper} {Q : Exit -> Act -> World -> Prop} {md : Region.Mode} {S : World -> Prop} {n : Nat}
def anyK (P:Program) (md:Region.Mode) (ops:Array Oper) (Q:Exit->Act->World->Prop) (S:World->Prop) (n:Nat):Nat->Array Bool->Act->World->Prop
 | 0,l,a,w=>Region.ready md ops l=[]/\Q .normal a w
 | f+1,l,a,w=>(Region.ready md ops l=[]->Q .normal a w)/\∀ i∈Region.ready md ops l,wpOp P ops Q i (fun b u=>(i≠n->S u)/\anyK P md ops Q S n f (l.setIfInBounds i true) b u) a w
theorem qv:∀(f:Nat) (l:Array Bool) (a:Act) (w:World),anyK P md ops Q S n f l a w->wpAny P md ops Q f l a w
 | 0,_,_,_,h=>h
 | f+1,_,_,_,h=>⟨h.1,fun i hi=>wpOp_mono (fun b u hb=>qv f _ b u hb.2) (h.2 i hi)⟩
def lastB (md:Region.Mode) (ops:Array Oper) (n:Nat):Bool:=decide (ops.size=n+1)&&(Region.sinkB md ops n&&(Region.chainB md ops n&&Region.noSelect ops))
theorem last_spec (h:lastB md ops n=true):ops.size=n+1/\Region.sinkB md ops n=true/\Region.chainB md ops n=true/\Region.noSelect ops=true:=by
 unfold lastB at h;simp only[Bool.and_eq_true,decide_eq_true_eq] at h;exact⟨h.1,h.2.1,h.2.2.1,h.2.2.2⟩
theorem zer {i:Nat} {oi:Oper} {v:Value} (hL:lastB md ops n=true) (hi:ops[i]? = some oi) (hin:i<n) (hQ:∀ c a w,Q (.panic c) (a.put oi.dst v) w->Q (.panic c) a w) :
 ∀(f:Nat) (l:Array Bool) (a:Act) (w:World),HeadInv md ops n l->(∀ j oj,ops[j]? = some oj->j≠i->l.getD j true=false->(∀ e∈oj.after,Region.binds md e=true->e.on≠i)->oi.apart ops oj=true) ->
  i∈Region.ready md ops l->YieldsIf P ops S oi v a->S w->anyK P md ops Q S n f (l.setIfInBounds i true) (a.put oi.dst v) w->anyK P md ops Q S n (f+1) l a w:=by
 obtain⟨hn,hsk,hch,hns⟩:=last_spec hL;intro f
 induction f with
 | zero =>
  intro l a w _ _ hr hy hS H;refine⟨fun h=>(by rw[h] at hr;cases hr),fun j hj=>?_⟩;by_cases hji:j=i
  . subst hji;exact hy.wpOp hi hS ⟨fun _=>hS,H⟩
  . have h9:=ready_mono hj hji;rw[H.1] at h9;cases h9
 | succ f ih =>
  intro l a w inv hfree hr hy hS H;refine⟨fun h=>(by rw[h] at hr;cases hr),fun j hj=>?_⟩;by_cases hji:j=i
  . subst hji;exact hy.wpOp hi hS ⟨fun _=>hS,H⟩
  . have hun:=(mem_ready.1 hr).1;by_cases hjn:j=n
    . exact absurd hj (tail_waits hsk hch (by omega) inv (n-i) i rfl hin hun j (by omega))
    . obtain⟨hjun,oj,hoj,hall⟩:=mem_ready.1 hj;have hjl:j<ops.size:=(Array.getElem?_eq_some_iff.1 hoj).1;have hnot:∀ e∈oj.after,Region.binds md e=true->e.on≠i:=fun e he hb heq=>by
       have h1:=hall e he hb;rw[heq,getD_both hun] at h1;cases h1
      have h1:=H.2 j (ready_mono hj hji);have h2:=wpOp_putIf hoj (hfree j oj hoj hji hjun hnot) (fun cs b=>Region.noSelect_spec hns i oi cs b hi) (fun cs b=>Region.noSelect_spec hns j oj cs b hoj) hQ hy h1;have hfree':∀ k ok,ops[k]? = some ok->k≠i->(l.setIfInBounds j true).getD k true=false->(∀ e∈ok.after,Region.binds md e=true->e.on≠i)->oi.apart ops ok=true:=fun k ok hk hki hkun hno=>by
       refine hfree k ok hk hki ?_ hno;by_cases hjk:j=k
       . subst hjk;exact hjun
       . rwa [getD_set_ne true hjk] at hkun
      refine wpOp_mono (fun b u h3=>⟨fun _=>h3.2.1 hjn,ih (l.setIfInBounds j true) b u (inv.set hj (by omega)) hfree' (ready_mono hr (Ne.symm hji)) h3.1 (h3.2.1 hjn) ?_⟩) h2;rw[Array.setIfInBounds_comm _ _ hji];exact h3.2.2
def nthO:List Oper->Nat->Option Oper
 | [],_=>none
 | o::_,0=>some o
 | _::r,i+1=>nthO r i
theorem zeL:∀(l:List Oper) (i:Nat),nthO l i=l[i]?
 | [],_=>rfl
 | _::_,0=>rfl
 | _::r,i+1=>zeL r i
theorem uI {i:Nat} {o:Oper} (h:nthO ops.toList i=some o):ops[i]? = some o:=by
 rw[zeL] at h
 simpa using h
theorem zk {i:Nat} {oi:Oper} {v:Value} {f:Nat} {l:Array Bool} {a:Act} {w:World} (hL:lastB md ops n=true) (hi:nthO ops.toList i=some oi) (hin:decide (i<n)=true) (hf:Region.free md ops l i=true) (hr:(Region.ready md ops l).contains i=true)
 (hQ:∀ c a w,Q (.panic c) (a.put oi.dst v) w->Q (.panic c) a w) (inv:HeadInv md ops n l) (hS:S w) (hy:YieldsIf P ops S oi v a)
 (h:HeadInv md ops n (l.setIfInBounds i true)->anyK P md ops Q S n f (l.setIfInBounds i true) (a.put oi.dst v) w):anyK P md ops Q S n (f+1) l a w :=
 have hr':i∈Region.ready md ops l:=by simpa using hr
 zer hL (uI hi) (of_decide_eq_true hin) hQ f l a w inv (Region.free_spec (uI hi) hf) hr' hy hS (h (inv.set hr' (of_decide_eq_true hin)))
theorem zl {oi:Oper} {v:Value} {f:Nat} {l:Array Bool} {a:Act} {w:World} (i:Nat) (hL:lastB md ops n=true) (hi:nthO ops.toList i=some oi) (inv:HeadInv md ops n l)
 (h:HeadInv md ops n (l.setIfInBounds i true)->anyK P md ops Q S n f (l.setIfInBounds i true) (a.put oi.dst v) w) (hw:Region.wanted oi (yielded ops a.tmps)=true:=by rfl)
 (hy:∀ w,S w->(execOp a.eval oi).run P w=.ok (.value v) w:=by intro w hSw;(try dsimp only at hSw);go_simp;try with_reducible rfl) (hin:decide (i<n)=true:=by kernel_rfl) (hf:Region.free md ops l i=true:=by kernel_rfl) (hr:(Region.ready md ops l).contains i=true:=by kernel_rfl)
 (hQ:∀ c a w,Q (.panic c) (a.put oi.dst v) w->Q (.panic c) a w:=by exact fun _ _ _ h=>h) (hS:S w:=by assumption):anyK P md ops Q S n (f+1) l a w:=zk hL hi hin hf hr hQ inv hS (Or.inl ⟨hw,hy⟩) h
theorem xl {oi:Oper} {f:Nat} {l:Array Bool} {a:Act} {w:World} (i:Nat) (hL:lastB md ops n=true) (hi:nthO ops.toList i=some oi) (inv:HeadInv md ops n l)
 (h:HeadInv md ops n (l.setIfInBounds i true)->anyK P md ops Q S n f (l.setIfInBounds i true) (a.put oi.dst undef) w) (hw:Region.wanted oi (yielded ops a.tmps)=false:=by rfl)
 (hin:decide (i<n)=true:=by kernel_rfl) (hf:Region.free md ops l i=true:=by kernel_rfl) (hr:(Region.ready md ops l).contains i=true:=by kernel_rfl)
 (hQ:∀ c a w,Q (.panic c) (a.put oi.dst undef) w->Q (.panic c) a w:=by exact fun _ _ _ h=>h) (hS:S w:=by assumption):anyK P md ops Q S n (f+1) l a w:=zk hL hi hin hf hr hQ inv hS (Or.inr ⟨hw,rfl⟩) h
theorem anyK_tk {oi:Oper} {v:Value} {f:Nat} {l:Array Bool} {a:Act} {w:World} (i:Nat) (hL:lastB md ops n=true) (hi:nthO ops.toList i=some oi) (inv:HeadInv md ops n l) (hy:YieldsIf P ops S oi v a)
 (h:HeadInv md ops n (l.setIfInBounds i true)->anyK P md ops Q S n f (l.setIfInBounds i true) (a.put oi.dst v) w) (hin:decide (i<n)=true:=by kernel_rfl) (hf:Region.free md ops l i=true:=by kernel_rfl) (hr:(Region.ready md ops l).contains i=true:=by kernel_rfl)
 (hQ:∀ c a w,Q (.panic c) (a.put oi.dst v) w->Q (.panic c) a w:=by exact fun _ _ _ h=>h) (hS:S w:=by assumption):anyK P md ops Q S n (f+1) l a w:=zk hL hi hin hf hr hQ inv hS hy h
theorem yb {i:Nat} {o:Oper} {f:Nat} {l:Array Bool} {a:Act} {w:World} (hr:Region.ready md ops l=[i]) (hin:decide (i<n)=true) (ho:nthO ops.toList i=some o) (inv:HeadInv md ops n l)
 (h:∀ K':Act->World->Prop,Shut (∀ b u,S u->(S u->HeadInv md ops n (l.setIfInBounds i true)->anyK P md ops Q S n f (l.setIfInBounds i true) b u)->K' b u)->if Region.wanted o (yielded ops a.tmps)=true then Oper.wp P o a w K' Q else K' (a.put o.dst undef) w):anyK P md ops Q S n (f+1) l a w:=by
 refine⟨fun h0=>(by rw[h0] at hr;cases hr),fun j hj=>?_⟩;have hj0:=hj;rw[hr] at hj;obtain rfl:=List.mem_singleton.1 hj;refine wpOp_step (uI ho) fun K' hK=>?_;exact h K' (fun b u hS hW=>hK b u ⟨fun _=>hS,hW hS (inv.set hj0 (of_decide_eq_true hin))⟩)
theorem yw {o:Oper} {f:Nat} {l:Array Bool} {a:Act} {w:World} (hr:Region.ready md ops l=[n]) (ho:nthO ops.toList n=some o) (hd:Region.ready md ops (l.setIfInBounds n true)=[])
 (h:∀ K':Act->World->Prop,Shut (∀ b u,Q .normal b u->K' b u)->if Region.wanted o (yielded ops a.tmps)=true then Oper.wp P o a w K' Q else K' (a.put o.dst undef) w):anyK P md ops Q S n (f+1) l a w:=by
 refine⟨fun h0=>(by rw[h0] at hr;cases hr),fun j hj=>?_⟩;rw[hr] at hj;obtain rfl:=List.mem_singleton.1 hj;refine wpOp_step (uI ho) fun K' hK=>?_;refine h K' (fun b u hb=>hK b u ⟨fun h9=>absurd rfl h9,?_⟩);cases f with
 | zero=>exact⟨hd,hb⟩
 | succ f=>exact⟨fun _=>hb,by rw[hd];exact fun _ h=>by cases h⟩
theorem yg {id:Nat} {a:Act} {w:World} (n:Nat) (S:World->Prop) (hm:P.follows .mixedOrders=true) (hL:lastB .any ops n=true) (hS:S w.drew)
 (h:lastB .any ops n=true->HeadInv .any ops n (Array.replicate ops.size false)->S w.drew->anyK P .any ops Q S n ops.size (Array.replicate ops.size false) a w.drew):(Code.region id ops true).wp P Q a w :=
 wp_region_any hm (qv _ _ _ _ (h hL ⟨by simp,fun j oj _ hl=>(by rw[getD_replicate_false] at hl;cases hl),fun t _ ht=>by simp [ht]⟩ hS))
end
end
