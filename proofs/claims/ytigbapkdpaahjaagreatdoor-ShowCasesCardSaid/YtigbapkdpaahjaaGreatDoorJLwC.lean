/-
  The law ShowCases: the walk.
-/
import Derived.Test.YtigbapkdpaahjaaGreatDoorJAwk
namespace Go.Proofs.YtigbapkdpaahjaaGreatDoor
set_option linter.unusedSimpArgs false
set_option linter.unusedVariables false
set_option maxRecDepth 100000
set_option maxHeartbeats 4000000
open Go.RowKit
attribute [local go_sem] Oper.semAt_some
def caseA:List UInt8:=[109,97,116,99,104,32,40,41,32,119,105,116,104,32]
def caseB:List UInt8:=[32,45,62,32,40,41,32,101,110,100]
theorem lx_caseA:LexA caseA [wT sMatch,openT 0,shutT 0,wT sWith]:=zv (l:=[109,97,116,99,104,32,40,41,32,119,105,116,104]) (X:=[(⟨6,sMatch,0⟩,0),(⟨7,sOpen,0⟩,6),(⟨7,sShut,0⟩,7),(⟨6,sWith,0⟩,9)]) (by kernel_rfl)
theorem lx_caseB:LexS caseB [sT sArrow,openT 0,shutT 0,wT sEnd] :=
 LexA.then (a:=[32,45,62,32,40,41,32]) (b:=[101,110,100]) (E:=[sT sArrow,openT 0,shutT 0]) (F:=[wT sEnd]) (zv (l:=[32,45,62,32,40,41]) (X:=[(⟨7,sArrow,0⟩,1),(⟨7,sOpen,0⟩,4),(⟨7,sShut,0⟩,5)]) (by kernel_rfl)) (yl (t:=⟨6,sEnd,0⟩) ⟨by kernel_rfl,101,[110,100],rfl,by decide⟩)
theorem zdE {x:Nd} {t:List UInt8} (hb:x.bareP) (h:PatV x=(t,0)):(∃ e q,ParseV (caseA++(t++caseB))=.bad e q∧(e=4∨e=3∨e=22))∨∃ y q b,ParseV (caseA++(t++caseB))=.ok y∧y.arms=[(q,b)]∧q.alike false x=true:=by
 by_cases hl:4096<(caseA++(t++caseB)).length
 · left
   exact⟨4,0,by unfold ParseV;rw[uJ hl],.inl rfl⟩
 have hs:showP x=some t∧t.length≤4096:=by
  unfold PatV at h
  split at h
  · rename_i hm
    exact absurd (congrArg Prod.snd h) hm
  · cases hs:showP x with
    | none=>rw[hs] at h;exact absurd (show(5:Int)=0 from congrArg Prod.snd h) (by decide)
    | some s =>
     rw[hs] at h
     have h:(if s.length≤4096 then(s,(0:Int)) else([],4))=(t,0):=h
     split at h
     · rename_i hn
       obtain rfl:s=t:=congrArg Prod.fst h
       exact⟨rfl,hn⟩
     · exact absurd (show(4:Int)=0 from congrArg Prod.snd h) (by decide)
 obtain⟨W,hW,hP⟩:=(zb7 x).2 ((ok_all x).2 hb t hs.1 hs.2) t hs.1
 have hlex:LexS (caseA++(t++caseB)) ([wT sMatch,openT 0,shutT 0,wT sWith]++(W++[sT sArrow,openT 0,shutT 0,wT sEnd])):=lx_caseA.then (hW.then lx_caseB (xp (by decide) _))
 obtain⟨f,hf⟩:=qx (R:=[endT 0]) 16 (wT sMatch) zbD ⟨W,x.er,[openT 0,shutT 0],node 5 (openT 0) []⟩ [] (fun q hq=>by obtain rfl:=List.mem_singleton.1 hq;exact⟨hP,zbD⟩)
 have hrd:Rd .seq (([wT sMatch,openT 0,shutT 0,wT sWith]++(W++[sT sArrow,openT 0,shutT 0,wT sEnd]))++[endT 0]) (.mk ⟨16,0,[],0,[],[]⟩ [node 5 (openT 0) []] [(x.er,node 5 (openT 0) [])]) [endT 0]:=by
  refine vF ⟨f+1,?_⟩ rfl
  have e:([wT sMatch,openT 0,shutT 0,wT sWith]++(W++[sT sArrow,openT 0,shutT 0,wT sEnd]))++[endT 0]=wT sMatch::([openT 0,shutT 0]++wT sWith::(armT false [⟨W,x.er,[openT 0,shutT 0],node 5 (openT 0) []⟩]++wT sEnd::[endT 0])):=by simp [armT]
  rw[e,zq]
  simp only[step,exec,show isOne [sFun] (wT sMatch)=false from rfl,show isOne [sLet,sMatch,sTry,sIf,sRaise] (wT sMatch)=true from rfl,if_true,Bool.false_eq_true,if_false,if_neg (show ¬(wT sMatch).1.text=sLet from show ¬sMatch=sLet by decide),show((wT sMatch).1.text=sMatch)=True from eq_true rfl,hf];rfl
 obtain⟨y,hy,hp⟩:=zb4 hlex.e (by omega) hrd
 rcases wk y with h3 | h3 | ⟨q,h3⟩
 · right
   have ha:=congrArg Nd.arms hy
   rw[Nd.er_arms,tu] at ha
   have ha:y.arms.map (fun q=>(q.1.er,q.2.er))=[(x.er,node 5 (openT 0) [])]:=ha
   cases hya:y.arms with
   | nil=>rw[hya] at ha;cases ha
   | cons c r =>
    obtain⟨q,b⟩:=c
    rw[hya,List.map_cons] at ha
    obtain⟨h4,h5⟩:=List.cons.inj ha
    obtain rfl:r=[]:=by simpa using h5
    exact⟨y,q,b,by rw[hp,h3],hya,(xQ q x).2 (congrArg Prod.fst h4)⟩
 · left;exact⟨3,0,by rw[hp,h3],.inr (.inl rfl)⟩
 · left;exact⟨22,q,by rw[hp,h3],.inr (.inr rfl)⟩
theorem patV_err {x:Nd} (h:(PatV x).2≠0):(PatV x).1=[]:=by
 unfold PatV at h ⊢
 split
 · rfl
 · rename_i hl
   rw[if_neg hl] at h
   cases hs:showP x with
   | none=>rfl
   | some s =>
    rw[hs] at h
    show(if s.length≤4096 then(s,(0:Int)) else([],4)).1=[]
    have h:(if s.length≤4096 then(s,(0:Int)) else([],4)).2≠0:=h
    split
    · rename_i hn
      rw[if_pos hn] at h
      exact absurd rfl h
    · rfl
theorem zdr (x:Nd):(PatV x).1.length≤4096:=by
 unfold PatV
 split
 · simp
 · cases hs:showP x with
   | none=>simp
   | some s =>
    show(if s.length≤4096 then(s,(0:Int)) else([],4)).1.length≤4096
    split
    · assumption
    · simp
theorem zb2 (x:Nd) (s:Sl) (w:World) (hx:IsP w (fun _=>True) (paL x s) x) (hw:x.wide) (hl:0<longP x 65536) (ht:Tab w):Calls Tryz.prog 19 #[paOf x s] w (Shown (PatV x) w) :=
 zaN x s w hx (zac hw (vO hx) hl).1 (by
  have h1:=(zac hw (vO hx) hl).2
  have h2:=vI 2 x
  show((0,1)::([]++(x.parts 2++((0,2)::[]++[])))).length≤70000
  simp only[List.length_cons,List.length_append,List.length_nil]
  omega) ht
structure PaIn (w:World) (b:Nat) (x:Nd) (s:Sl):Prop where
 box:PaBox w b x s
 tree:IsP w (fun _=>True) (paL x s) x
theorem PaIn.below {w w':World} {b:Nat} {x:Nd} {s:Sl} (h:PaIn w b x s) (hb:Below w.heap.size w w'):PaIn w' b x s:=⟨h.box.below hb,h.tree.below hb⟩
theorem PaIn.new {w:World} {x:Nd} {s:Sl} (h:IsP w (fun _=>True) (paL x s) x):PaIn (w.alloc (paObj x s)) w.heap.size x s:=⟨PaBox.new w x s,h.below (zj _)⟩
theorem zel (t:List UInt8):((⟨#[109,97,116,99,104,32,40,41,32,119,105,116,104,32]⟩:ByteArray)++(⟨t.toArray⟩:ByteArray)++(⟨#[32,45,62,32,40,41,32,101,110,100]⟩:ByteArray)).data.toList=caseA++(t++caseB):=by
 unfold caseA caseB;simp
theorem zdB (x:Nd) (sx:Sl) (w:World) (hy:Ready w) (ht:Tab w) (hx:IsP w (fun _=>True) (paL x sx) x) (wx:x.wide):Calls Tryz.prog 9 #[paOf x sx] w (YesMade true w):=by
 have HY:=zb hy
 have HT:=zb ht
 have HW:=zb wx
 have HBR:=zb (vO hx)
 have hb2:=zj (w:=w) (paObj x sx)
 have HX:Hid (PaIn (w.alloc (paObj x sx)) w.heap.size x sx):=zb (PaIn.new hx)
 have HB0:=zb hb2
 clear hy ht hx wx hb2
 unfold paOf
 go_enter Tryz.func9, Tryz.ntmps9
 go_upto_region 1 with fail
 obtain⟨W0,hW0⟩:∃ W,w.alloc (paObj x sx)=W:=⟨_,rfl⟩
 rw[hW0] at HB0 HX
 unfold paObj at hW0
 rw[hW0]
 clear hW0
 replace HY:=zb (HY.out.below HB0.out)
 replace HT:Hid (Tab W0):=zb (HT.out.below HB0.out)
 generalize hbx:w.heap.size=bx at HX ⊢
 clear hbx
 go_wp2_with fail
 refine(vc _ HY.out HT.out).mono ?_
 rintro e w1 ⟨rfl,hb1⟩
 replace HX:=zb (HX.out.below hb1)
 replace HY:=zb (HY.out.below hb1)
 replace HT:Hid (Tab w1):=zb (HT.out.below hb1)
 have HB1:=zb (HB0.out.trans (hb1.mono HB0.out.size))
 clear hb1 HB0
 have HC:=zb (zcZ x sx w1 HW.out HX.out.tree)
 unfold paOf at HC
 obtain⟨f0,f1,f2,f3,f4,f5,f6,-⟩:=Box7.cells HX.out.box
 have fl:=HX.out.box.lt
 by_cases hl1:longP x 65536≤0
 · have l1:decide (longP x 65536≤0)=true:=decide_eq_true hl1
   generalize longP x 65536=n1 at *
   go_wp2_with fail
   refine HC.out.mono ?_
   rintro e w2 ⟨rfl,hb2⟩
   have HB2:=zb (HB1.out.trans (hb2.mono HB1.out.size))
   clear hb2
   go_wp2_with fail
   go_ret
   exact⟨rfl,HB2.out⟩
 have l1:decide (longP x 65536≤0)=false:=decide_eq_false hl1
 have HP1:Hid (0<longP x 65536):=zb (by omega)
 obtain⟨n1,hn1⟩:∃ n,longP x 65536=n:=⟨_,rfl⟩
 rw[hn1] at HC l1 hl1
 clear hn1
 go_wp2_with fail
 refine HC.out.mono ?_
 rintro e w2 ⟨rfl,hb2⟩
 replace HX:=zb (HX.out.below hb2)
 replace HY:=zb (HY.out.below hb2)
 replace HT:Hid (Tab w2):=zb (HT.out.below hb2)
 have HB2:=zb (HB1.out.trans (hb2.mono HB1.out.size))
 clear hb2 HB1 HC f0 f1 f2 f3 f4 f5 f6 fl
 have HC:=zb (zb2 x sx w2 HX.out.tree HW.out HP1.out HT.out)
 unfold paOf at HC
 obtain⟨f0,f1,f2,f3,f4,f5,f6,-⟩:=Box7.cells HX.out.box
 have fl:=HX.out.box.lt
 go_wp2_with fail
 refine HC.out.mono ?_
 rintro e w3 ⟨hb3,rfl⟩
 replace HX:=zb (HX.out.below hb3)
 replace HY:=zb (HY.out.below hb3)
 have HB3:=zb (HB2.out.trans (hb3.mono HB2.out.size))
 clear hb3 HB2 HC f0 f1 f2 f3 f4 f5 f6 fl l1 hl1 HP1 HW HT
 obtain⟨⟨t,c⟩,hr⟩:∃ r,PatV x=r:=⟨_,rfl⟩
 by_cases hc:c=0
 · subst hc
   have hct:=zdE HBR.out hr
   rw[← zel] at hct
   have HTL:Hid (t.length≤4096):=zb (by have h9:=zdr x;rw[hr] at h9;exact h9)
   rw[hr]
   rcases hct with⟨er,q,hp,hcode⟩ | ⟨y,q,b,hp,hya,hqa⟩
   · have HPA:=zb (zap hp w3 HY.out)
     clear hp hr HBR HY
     have z1:(er != 0)=true:=by rw[bne_iff_ne];omega
     have HOK:Hid (er=4∨er=22∨er=3):=zb (by omega)
     clear hcode
     have q3:=xN t
     have q4:=HTL.out
     go_wp2_with fail
     refine HPA.out.mono ?_
     rintro e w4 ⟨hb4,rfl⟩
     have HB4:=zb (HB3.out.trans (hb4.mono HB3.out.size))
     clear hb4 HB3 HPA q3 q4
     unfold errV exV
     go_upto_region 9 with fail
     all_goals
      obtain⟨W4,hW4⟩:∃ W,w4.alloc zeroObj=W:=⟨_,rfl⟩
      have hbx:=zj (w:=w4) zeroObj
      rw[hW4] at hbx
      have HB5:=zb (HB4.out.trans (hbx.mono HB4.out.size))
      unfold zeroObj at hW4
      try rw[hW4]
      clear hW4 hbx HB4
      rcases HOK.out with rfl | rfl | rfl
      all_goals
       clear z1
       go_wp2_with fail
       go_ret
       exact⟨rfl,HB5.out⟩
   · have HPA:=zb (zan hp w3 HY.out)
     clear hp hr HBR HY
     have HQA:=zb hqa
     have HYA:=zb hya
     clear hqa hya
     have q3:=xN t
     have q4:=HTL.out
     go_wp2_with fail
     refine HPA.out.mono ?_
     rintro e w4 ⟨hb4,s4,rfl,hi⟩
     replace HX:=zb (HX.out.below hb4)
     have HB4:=zb (HB3.out.trans (hb4.mono HB3.out.size))
     have HI:=zb (hi.wide fun _ _=>trivial)
     clear hb4 hi HB3 HPA q3 q4
     unfold exOf exV
     go_upto_region 11 with fail
     all_goals
      obtain⟨W4,hW4⟩:∃ W,w4.alloc (exObj y s4)=W:=⟨_,rfl⟩
      have hbx:=zj (w:=w4) (exObj y s4)
      have HZ:Hid (InBox W4 w4.heap.size y s4):=zb (by rw[← hW4];exact InBox.new HI.out)
      rw[hW4] at hbx
      replace HX:=zb (HX.out.below hbx)
      have HB5:=zb (HB4.out.trans (hbx.mono HB4.out.size))
      unfold exObj at hW4
      try rw[hW4]
      clear hW4 hbx HB4 HI
      generalize w4.heap.size=bz at *
      have hlen:y.arms.length=1:=by rw[HYA.out];rfl
      obtain⟨ga,oa,t1,r1,e1,l1,i1,j1,c1⟩:=HZ.out.tree.look.2.2.2.2.2 0 (q,b) (by rw[HYA.out];rfl)
      have y0:=c1 0 _ rfl
      have y1:=c1 1 _ rfl
      have y2:=c1 2 _ rfl
      have y3:=c1 3 _ rfl
      have y4:=c1 4 _ rfl
      have y5:=c1 5 _ rfl
      have y6:=c1 6 _ rfl
      rw[Nat.zero_mul,Nat.add_zero] at y0
      have HC:=zb (fun W (h:Below W4.heap.size W4 W)=>tI false q.size q x t1 sx W (Nat.le_refl _) (i1.below h) (HX.out.below h).tree)
      rw[HQA.out] at HC
      unfold paOf at HC
      obtain⟨g0,g1,g2,g3,g4,g5,g6,g7,-⟩:=Box8.cells HZ.out.box
      rw[e1,hlen] at g7
      have gl:=HZ.out.box.lt
      obtain⟨f0,f1,f2,f3,f4,f5,f6,-⟩:=Box7.cells HX.out.box
      have fl:=HX.out.box.lt
      clear c1 e1 i1 j1 hlen HYA HZ HX HQA HTL g0 g1 g2 g3 g4 g5 g6
      dsimp only at y0 y1 y2 y3 y4 y5 y6
      have HCK:Hid (∀ W,Below W4.heap.size W4 W→W.cell? ⟨bz,7,none⟩=some (.slice (some ⟨ga,oa,none⟩) 1 s4.rc)∧W.cell? ⟨ga,oa,none⟩=some (.int .i64 q.hd.kind)∧W.cell? ⟨ga,oa+0*15+1,none⟩=some (.int .i64 q.hd.pos)∧W.cell? ⟨ga,oa+0*15+2,none⟩=some (.string ⟨q.hd.name.toArray⟩)∧W.cell? ⟨ga,oa+0*15+3,none⟩=some (.int .i64 q.hd.n)∧W.cell? ⟨ga,oa+0*15+4,none⟩=some (.string ⟨q.hd.s.toArray⟩)∧W.cell? ⟨ga,oa+0*15+5,none⟩=some (.slice t1.la q.hd.labels.length t1.lc)∧W.cell? ⟨ga,oa+0*15+6,none⟩=some (.slice t1.aa q.args.length t1.ac)∧W.cell? ⟨bx,0,none⟩=some (.int .i64 x.hd.kind)∧W.cell? ⟨bx,1,none⟩=some (.int .i64 x.hd.pos)∧W.cell? ⟨bx,2,none⟩=some (.string ⟨x.hd.name.toArray⟩)∧W.cell? ⟨bx,3,none⟩=some (.int .i64 x.hd.n)∧W.cell? ⟨bx,4,none⟩=some (.string ⟨x.hd.s.toArray⟩)∧W.cell? ⟨bx,5,none⟩=some (.slice sx.la x.hd.labels.length sx.lc)∧W.cell? ⟨bx,6,none⟩=some (.slice sx.aa x.args.length sx.ac)):=zb (fun W h=>⟨(ze (w:=W4) (a:=⟨bz,_,none⟩) (h.block bz gl)).trans g7,(ze (w:=W4) (a:=⟨ga,_,none⟩) (h.block ga l1)).trans y0,(ze (w:=W4) (a:=⟨ga,_,none⟩) (h.block ga l1)).trans y1,(ze (w:=W4) (a:=⟨ga,_,none⟩) (h.block ga l1)).trans y2,(ze (w:=W4) (a:=⟨ga,_,none⟩) (h.block ga l1)).trans y3,(ze (w:=W4) (a:=⟨ga,_,none⟩) (h.block ga l1)).trans y4,(ze (w:=W4) (a:=⟨ga,_,none⟩) (h.block ga l1)).trans y5,(ze (w:=W4) (a:=⟨ga,_,none⟩) (h.block ga l1)).trans y6,(ze (w:=W4) (a:=⟨bx,_,none⟩) (h.block bx fl)).trans f0,(ze (w:=W4) (a:=⟨bx,_,none⟩) (h.block bx fl)).trans f1,(ze (w:=W4) (a:=⟨bx,_,none⟩) (h.block bx fl)).trans f2,(ze (w:=W4) (a:=⟨bx,_,none⟩) (h.block bx fl)).trans f3,(ze (w:=W4) (a:=⟨bx,_,none⟩) (h.block bx fl)).trans f4,(ze (w:=W4) (a:=⟨bx,_,none⟩) (h.block bx fl)).trans f5,(ze (w:=W4) (a:=⟨bx,_,none⟩) (h.block bx fl)).trans f6⟩)
      go_region_held3 (fun W=>W.cell? ⟨bz,7,none⟩=some (.slice (some ⟨ga,oa,none⟩) 1 s4.rc)∧W.cell? ⟨ga,oa,none⟩=some (.int .i64 q.hd.kind)∧W.cell? ⟨ga,oa+0*15+1,none⟩=some (.int .i64 q.hd.pos)∧W.cell? ⟨ga,oa+0*15+2,none⟩=some (.string ⟨q.hd.name.toArray⟩)∧W.cell? ⟨ga,oa+0*15+3,none⟩=some (.int .i64 q.hd.n)∧W.cell? ⟨ga,oa+0*15+4,none⟩=some (.string ⟨q.hd.s.toArray⟩)∧W.cell? ⟨ga,oa+0*15+5,none⟩=some (.slice t1.la q.hd.labels.length t1.lc)∧W.cell? ⟨ga,oa+0*15+6,none⟩=some (.slice t1.aa q.args.length t1.ac)∧W.cell? ⟨bx,0,none⟩=some (.int .i64 x.hd.kind)∧W.cell? ⟨bx,1,none⟩=some (.int .i64 x.hd.pos)∧W.cell? ⟨bx,2,none⟩=some (.string ⟨x.hd.name.toArray⟩)∧W.cell? ⟨bx,3,none⟩=some (.int .i64 x.hd.n)∧W.cell? ⟨bx,4,none⟩=some (.string ⟨x.hd.s.toArray⟩)∧W.cell? ⟨bx,5,none⟩=some (.slice sx.la x.hd.labels.length sx.lc)∧W.cell? ⟨bx,6,none⟩=some (.slice sx.aa x.args.length sx.ac)) (go_keep)
       ((go_at_call 21; refine(HC.out _ (Below.refl _ _).drew).mono ?_;rintro e w5 ⟨rfl,hb5⟩;have HB6:=zb ((Below.refl W4.heap.size W4).drew.trans hb5);clear hb5;obtain⟨z0,z1,z2,z3,z4,z5,z6,z7,z8,z9,z10,z11,z12,z13,z14⟩:=HCK.out _ HB6.out))
      all_goals
       have HB7:=zb (HB5.out.trans (HB6.out.mono HB5.out.size))
       go_wp2_with fail
       go_ret
       exact⟨rfl,HB7.out⟩
 · have hz:=patV_err (x:=x) (by rw[hr];exact hc)
   rw[hr] at hz ⊢
   obtain rfl:t=[]:=hz
   have z1:(c != 0)=true:=by rw[bne_iff_ne];exact hc
   clear hr hc HBR HY
   go_wp2_with fail
   go_ret
   exact⟨rfl,HB3.out⟩
