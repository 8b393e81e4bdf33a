/-
  The laws' own first look at show.
-/
import Derived.Test.YtigbapkdpaahjaaGreatDoorGLng
namespace Go.Proofs.YtigbapkdpaahjaaGreatDoor
set_option linter.unusedSimpArgs false
set_option linter.unusedVariables false
set_option maxRecDepth 100000
set_option maxHeartbeats 4000000
open Go.RowKit
attribute [local go_sem] Oper.semAt_some
def txC:List UInt8:=[102,32,120,32,43,32,49]
def cwA:Nd:=match ParseV txC with | .ok x=>x | .bad _ _=>z0
theorem cw_ok:ParseV txC=.ok cwA:=by
 have h:(match ParseV txC with | .ok _=>true | .bad _ _=>false)=true:=by kernel_rfl
 unfold cwA
 cases hp:ParseV txC with
 | ok x=>rfl
 | bad e q=>rw[hp] at h;cases h
def cwS:List UInt8:=[40,40,102,32,120,41,32,43,32,49,41]
theorem cw_show:ShowV cwA=(cwS,0):=by kernel_rfl
def cwL:Nd:=.mk ⟨1,0,[108,101,116],0,[],[]⟩ [] []
theorem cw_let:ShowV cwL=([],5):=by kernel_rfl
def cwP:Nd:=.mk ⟨8,0,[65],0,[],[]⟩ [.mk ⟨3,0,[],-1,[],[]⟩ [] []] []
def cwT:List UInt8:=[40,35,65,32,45,49,41]
theorem cw_pat:PatV cwP=(cwT,0):=by kernel_rfl
theorem cwL_fit:cwL.fit:=⟨⟨by decide,by decide,by decide,fun t ht=>(by cases ht),by decide,by decide⟩,by decide,by decide,trivial,trivial⟩
theorem cwP_fit:cwP.fit:=⟨⟨by decide,by decide,by decide,fun t ht=>(by cases ht),by decide,by decide⟩,by decide,by decide,⟨⟨⟨by decide,by decide,by decide,fun t ht=>(by cases ht),by decide,by decide⟩,by decide,by decide,trivial,trivial⟩,trivial⟩,trivial⟩
theorem cw_parse (w:World) (hy:Ready w):Calls Tryz.prog 11 #[.string ⟨#[102,32,120,32,43,32,49]⟩] w (Parsed (.ok cwA) w):=by
 rw[← cw_ok];exact sK ⟨#[102,32,120,32,43,32,49]⟩ w hy
theorem zet (w:World) (ht:Tab w):Calls Tryz.prog 16 #[.agg #[.int .i64 1,.int .i64 0,.string ⟨#[108,101,116]⟩,.int .i64 0,.string ⟨#[]⟩,.slice none 0 0,.slice none 0 0,.slice none 0 0]] w (Shown ([],5) w):=by
 have h:=qK cwL ⟨none,0,none,0,none,0⟩ w ⟨_,_,_,rfl,zx _ _ _ _,⟨[],zx _ _ _ _,trivial⟩,[],zx _ _ _ _,trivial⟩ cwL_fit (by decide) ht
 rw[cw_let] at h
 exact h
theorem zdR (w:World) (b:Nat) (ht:Tab w) (hb:w.heap[b]? = some (.cells #[.int .i64 3,.int .i64 0,.string ⟨#[]⟩,.int .i64 (-1),.string ⟨#[]⟩,.slice none 0 0,.slice none 0 0] 39 (0,0))):Calls Tryz.prog 19 #[.agg #[.int .i64 8,.int .i64 0,.string ⟨#[65]⟩,.int .i64 0,.string ⟨#[]⟩,.slice none 0 0,.slice (some ⟨b,0,none⟩) 1 1]] w (Shown (cwT,0) w):=by
 have h:=zaN cwP ⟨none,0,some ⟨b,0,none⟩,1,none,0⟩ w ⟨rfl,_,_,rfl,zx _ _ _ _,[[.int .i64 3,.int .i64 0,.string ⟨#[]⟩,.int .i64 (-1),.string ⟨#[]⟩,.slice none 0 0,.slice none 0 0]],⟨⟨_,_,rfl,Nat.le_refl _,Or.inr ⟨b,0,rfl,trivial,⟨_,_,_,hb⟩,fun i u hi=>by
  rw[zf hb]
  simpa using hi⟩⟩,(by show 1≤9223372036854775807;decide)⟩,⟨rfl,_,_,rfl,zx _ _ _ _,[],zx _ _ _ _,trivial⟩,trivial⟩ cwP_fit (by decide) ht
 rw[cw_pat] at h
 exact h
theorem vc (w:World) (hy:Ready w) (ht:Tab w):Calls Tryz.prog 14 #[] w (YesMade true w):=by
 have HY:=zb hy
 have HT:=zb ht
 clear hy ht
 go_enter Tryz.func14, Tryz.ntmps14
 go_wp2_with fail
 refine(cw_parse _ HY.out).mono ?_
 rintro e w1 ⟨hb1,s1,rfl,hi⟩
 have HB1:=zb hb1
 have HI:=zb (hi.wide fun _ _=>trivial)
 clear hb1 hi HY
 unfold exOf exV
 go_wp2_with fail
 all_goals
  obtain⟨W1,hW1⟩:∃ W,w1.alloc (exObj cwA s1)=W:=⟨_,rfl⟩
  have hbx:=zj (w:=w1) (exObj cwA s1)
  have HZ:Hid (InBox W1 w1.heap.size cwA s1):=zb (by rw[← hW1];exact InBox.new HI.out)
  rw[hW1] at hbx
  have HB2:=zb (HB1.out.trans (hbx.mono HB1.out.size))
  unfold exObj at hW1
  try rw[hW1]
  clear hW1 hbx HB1 HI
  generalize w1.heap.size=bx at *
  have HC:=qK cwA s1 W1 HZ.out.tree (vV cw_ok).1 (vV cw_ok).2 (HT.out.below HB2.out)
  rw[cw_show] at HC
  unfold exOf exV at HC
  replace HC:=zb HC
  obtain⟨f0,f1,f2,f3,f4,f5,f6,f7,_⟩:=Box8.cells HZ.out.box
  have fl:=HZ.out.box.lt
  go_wp2_with fail
  refine HC.out.mono ?_
  rintro e w2 ⟨hb2,rfl⟩
  have HB3:=zb (HB2.out.trans (hb2.mono HB2.out.size))
  clear HC hb2 HB2 f0 f1 f2 f3 f4 f5 f6 f7 fl HZ
  go_wp2_with fail
  refine(zet _ (HT.out.below HB3.out)).mono ?_
  rintro e w3 ⟨hb3,rfl⟩
  have HB4:=zb (HB3.out.trans (hb3.mono HB3.out.size))
  clear hb3 HB3
  go_wp2_with fail
  all_goals
   obtain⟨W3,hW3⟩:∃ W,w3.alloc (.cells #[.int .i64 3,.int .i64 0,.string ⟨#[]⟩,.int .i64 (-1),.string ⟨#[]⟩,.slice none 0 0,.slice none 0 0] 39 (0,0))=W:=⟨_,rfl⟩
   have hbx:Below w3.heap.size w3 W3:=by rw[← hW3];exact zj _
   have hbc:W3.heap[w3.heap.size]? = some (.cells #[.int .i64 3,.int .i64 0,.string ⟨#[]⟩,.int .i64 (-1),.string ⟨#[]⟩,.slice none 0 0,.slice none 0 0] 39 (0,0)):=by rw[← hW3];exact zA _ _ _ rfl
   have HB5:=zb (HB4.out.trans (hbx.mono HB4.out.size))
   rw[hW3]
   refine(zdR W3 w3.heap.size (HT.out.below HB5.out) hbc).mono ?_
   rintro e w4 ⟨hb4,rfl⟩
   have HB6:=zb (HB5.out.trans (hb4.mono HB5.out.size))
   clear hb4 HB5 hW3 hbx hbc HB4
   go_wp2_with fail
   go_ret
   exact⟨rfl,HB6.out⟩
theorem rO (x:Nd) (s:Sl) (w:World) (hw:x.wide) (hx:IsE w (fun _=>True) (exL x s) x):Calls Tryz.prog 15 #[exOf x s,.int .i64 65536] w (LongIs (longE x 65536) w):=zen x.size x s 65536 w (Nat.le_refl _) hw (by decide) (by decide) hx
theorem zcZ (x:Nd) (s:Sl) (w:World) (hw:x.wide) (hx:IsP w (fun _=>True) (paL x s) x):Calls Tryz.prog 18 #[paOf x s,.int .i64 65536] w (LongIs (longP x 65536) w):=tU x.size x s 65536 w (Nat.le_refl _) hw (by decide) (by decide) hx
theorem qB (x:Nd) (s:Sl) (w:World) (hx:IsE w (fun _=>True) (exL x s) x) (hw:x.wide) (hl:0<longE x 65536) (ht:Tab w):Calls Tryz.prog 16 #[exOf x s] w (Shown (ShowV x) w):=qK x s w hx (zaP hw (xP hx) hl).1 (zaP hw (xP hx) hl).2 ht
theorem bytes_eq (l m:List UInt8):(l == m)=decide (l=m):=by
 by_cases h:l=m
 · subst h;simp
 · rw[decide_eq_false h,beq_eq_false_iff_ne];exact h
theorem zco {l:List UInt8} {y:Nd} (h:ParseV l=.ok y) (w:World) (hy:Ready w):Calls Tryz.prog 11 #[.string ⟨l.toArray⟩] w (Parsed (.ok y) w):=by
 rw[← h];exact sK ⟨l.toArray⟩ w hy
theorem zbV {l:List UInt8} {e:Int} {q:Nat} (h:ParseV l=.bad e q):e≠0:=by
 rcases wu l with⟨e',q',h1,h2⟩ | ⟨X,hX,hl,hV,⟨z,hz,h2⟩ | ⟨A,t,B,hT,hv,h2⟩⟩
 · rw[h2] at h
   obtain⟨rfl,_⟩:=PV.bad.inj h
   rcases tG l with⟨X,h3,_⟩ | ⟨h3,_⟩ | ⟨e,q,h3,_,_,h4,_⟩
   · rw[h1] at h3;cases h3
   · rw[h1] at h3
     have:=(LR.bad.inj h3).1
     omega
   · rw[h1] at h3
     have:=(LR.bad.inj h3).1
     omega
 · rw[h2] at h
   rcases wk z with h3 | h3 | ⟨_,h3⟩
   · rw[h3] at h;cases h
   · rw[h3] at h
     have:=(PV.bad.inj h).1
     omega
   · rw[h3] at h
     have:=(PV.bad.inj h).1
     omega
 · rw[h2] at h
   have:=(PV.bad.inj h).1
   omega
theorem zap {l:ByteArray} {e:Int} {q:Nat} (h:ParseV l.data.toList=.bad e q) (w:World) (hy:Ready w):Calls Tryz.prog 11 #[.string l] w (Parsed (.bad e q) w):=by
 rw[← h];exact sK l w hy
theorem zan {l:ByteArray} {y:Nd} (h:ParseV l.data.toList=.ok y) (w:World) (hy:Ready w):Calls Tryz.prog 11 #[.string l] w (Parsed (.ok y) w):=by
 rw[← h];exact sK l w hy
theorem zcU (x:Nd) (hb:x.bareE):(∃ t y,ShowV x=(t,0)∧ParseV t=.ok y∧ShowV y=(t,0)∧y.alike false x=true∧x.alike false y=true)∨∃ c,c≠0∧ShowV x=([],c):=by
 by_cases hc:(ShowV x).2=0
 · left
   have h0:ShowV x=((ShowV x).1,0):=by rw[← hc]
   obtain⟨y,h1,h2⟩:=tT hb h0
   exact⟨_,y,h0,h1,by rw[zck h2,← h0],(xQ y x).2 h2,(xQ x y).2 h2.symm⟩
 · right
   exact⟨(ShowV x).2,hc,by rw[← showV_err hc]⟩
