/-
  The walks of fields.
-/
import Derived.Test.YtblonfjlcfjodaaGreatDoorGPst
namespace Go.Proofs.YtblonfjlcfjodaaGreatDoor
set_option linter.unusedSimpArgs false
set_option linter.unusedVariables false
set_option maxRecDepth 100000
set_option maxHeartbeats 4000000
open Go.RowKit
theorem infoStr:(Tryz.prog.info? 9).map (fun i=>(i.zero,i.size,i.bytes))=some (some (.string ⟨#[]⟩),1,16):=by kernel_rfl
theorem zci:∃ i:TypeInfo, Tryz.prog.info? 9 = some i/\i.zero=some (.string ⟨#[]⟩)/\i.size=1/\i.bytes=16:=by
 have h:=infoStr;cases hi : Tryz.prog.info? 9 with
 | none=>rw[hi] at h;cases h
 | some i =>
  rw[hi] at h;have h:=zc h;exact⟨i,rfl,congrArg (fun x=>x.1) h,congrArg (fun x=>x.2.1) h,congrArg (fun x=>x.2.2) h⟩
theorem infoPat:(Tryz.prog.info? 39).map (fun i=>(i.zero,i.size,i.bytes))=some (some (.agg #[.int .i64 0,.int .i64 0,.string ⟨#[]⟩,.int .i64 0,.string ⟨#[]⟩,.slice none 0 0,.slice none 0 0]),7,104):=by kernel_rfl
theorem pa_info:∃ i:TypeInfo, Tryz.prog.info? 39 = some i/\i.zero=some (.agg #[.int .i64 0,.int .i64 0,.string ⟨#[]⟩,.int .i64 0,.string ⟨#[]⟩,.slice none 0 0,.slice none 0 0])/\i.size=7/\i.bytes=104:=by
 have h:=infoPat;cases hi : Tryz.prog.info? 39 with
 | none=>rw[hi] at h;cases h
 | some i =>
  rw[hi] at h;have h:=zc h;exact⟨i,rfl,congrArg (fun x=>x.1) h,congrArg (fun x=>x.2.1) h,congrArg (fun x=>x.2.2) h⟩
theorem pa_cells (w:World) (x:Nd) (s:Sl):∀(j:Nat) (u:Value),(paL x s)[j]? = some u->(w.alloc (paObj x s)).cell? ((⟨w.heap.size,0,none⟩:Addr).add j)=some u:=by
 intro j u hj;rw[Addr.add_lit,zf (zA w _ _ rfl)]
 simpa [paL] using hj
theorem pa_one (x:Nd) (s:Sl):∀ u∈paL x s,u.oneCell'=true:=by
 intro u hu;simp only[paL,List.mem_cons,List.not_mem_nil,or_false] at hu;rcases hu with rfl | rfl | rfl | rfl | rfl | rfl | rfl <;> rfl
abbrev oneStr (x:List UInt8):Obj:=.cells #[.string ⟨x.toArray⟩] 9 (0,0)
theorem zdb (w:World) (x:List UInt8):∀(j:Nat) (u:Value),[Value.string ⟨x.toArray⟩][j]? = some u->(w.alloc (oneStr x)).cell? ((⟨w.heap.size,0,none⟩:Addr).add j)=some u:=by
 intro j u hj;rw[Addr.add_lit,zf (zA w _ _ rfl)]
 simpa using hj
theorem zgH (x:List UInt8):∀ u∈[Value.string ⟨x.toArray⟩],u.oneCell'=true:=by
 intro u hu;obtain rfl:=List.mem_singleton.1 hu;rfl
def Off (u:Value) (Is:World->(Nat->Prop)->Prop):World->(Nat->Prop)->Prop:=fun w N=>Is w (fun g=>N g/\some g≠u.ownBlock)
theorem zI (u:Value) {Is:World->(Nat->Prop)->Prop} (hm:Moves Is):Moves (Off u Is):=fun _ _ _ _ h hi=>hm _ _ _ _ (fun g hg hl=>⟨⟨(h g hg.1 hl).1,hg.2⟩,(h g hg.1 hl).2⟩) hi
theorem GRow.beside {base:Nat} {ty:TypeId} {size n:Nat} {w w':World} {v u u':Value} {xs:List Value} {Is:World->(Nat->Prop)->Prop} (h:GRow base ty size w v n xs (Off u Is)) (hm:Moves Is) (hg:w.grownBy w' u.ownBlock) (hne:∀ g,v.ownBlock=some g->u.ownBlock≠some g) (hat:u'.ownBlock=u.ownBlock∨u'.ownBlock=some w.heap.size) :
 GRow base ty size w' v n xs (Off u' Is)/\∀ g,v.ownBlock=some g->u'.ownBlock≠some g:=by
 have hlt:=World.ownsRow.lt h.own;refine⟨⟨?_,?_⟩,fun g hv e=>?_⟩
 . obtain⟨h1,h2⟩:=h.own;rcases h2 with h2 | ⟨g,cap,cur,rfl,hb,hh,rest⟩
   . exact⟨h1,.inl h2⟩
   . exact⟨h1,.inr ⟨g,cap,cur,rfl,hb,(hg.block g (zp hh) (fun e=>hne g rfl e.symm)).trans hh,rest⟩⟩
 . refine hm _ _ _ _ (fun g hk hl=>⟨⟨hk.1,?_⟩,hg.block g hl hk.2⟩) h.is;rcases hat with e | e
   . rw[e];exact hk.2
   . rw[e];intro e2;have:=zc e2;omega
 . rcases hat with h9 | h9
   . rw[h9] at e;exact hne g hv e
   . rw[h9] at e;have:=zc e;have:=(hlt g hv).2;omega
theorem GRow.aside {base:Nat} {ty:TypeId} {size n:Nat} {w w':World} {u:Value} {r:Option Nat} {xs:List Value} (h:GRow base ty size w u n xs (fun _ _=>True)) (hg:w.grownBy w' r) (hne:∀ g,u.ownBlock=some g->r≠some g):GRow base ty size w' u n xs (fun _ _=>True):=by
 refine⟨?_,trivial⟩;obtain⟨h1,h2⟩:=h.own;rcases h2 with h2 | ⟨g,cap,cur,rfl,hb,hh,rest⟩
 . exact⟨h1,.inl h2⟩
 . exact⟨h1,.inr ⟨g,cap,cur,rfl,hb,(hg.block g (zp hh) (fun e=>hne g rfl e.symm)).trans hh,rest⟩⟩
theorem zcn (rec:Md->List Tok->PR) (p:Tok->Bool) (yes:Tok->PM) (no:PM) (t:Tok) (R:List Tok):exec rec (.acc p yes no) (t::R)=if p t=true then exec rec (yes t) R else exec rec no (t::R):=by rw[exec]
theorem wQ (rec:Md->List Tok->PR) (m:Md) (T:List Tok):exec rec (.call m .ret) T=rec m T:=by
 rw[exec];cases rec m T <;> rfl
theorem uf (ls:List (List UInt8)) (x:List UInt8):strCells (ls++[x])=strCells ls++[.string ⟨x.toArray⟩]:=by unfold strCells;rw[List.map_append];rfl
theorem w_fieldsE (f p:Nat) (hv:∀ k,k<=f->Says k .seq 69 #[ptrV p] p):SaysF true (f+1) (.fields true) 234 #[ptrV p,(.func (.func 69) #[ptrV p] #[])] p:=by
 intro T w hp hne;have HLT:=zb hp.lt;have HK:=zb (Keep.start hp);have HTL:Hid (T.length<=5000):=zb (by obtain⟨g,off,cap,_,_,_,h,_⟩:=hp.ex;exact h);have HPV:=zb hv;have HN:=zb hne;have HR:Hid (run (f+1) (.fields true) T=exec (run f) (step (.fields true)) T):=zb rfl;obtain⟨t0,S0,hT0⟩:=hp.row.cons;generalize run (f+1) (.fields true) T=res at *;subst hT0;simp only[step,zcn] at HR;rw[wQ] at HR;obtain⟨i0,hi0,hz0,hz1,hz2⟩:=zci;obtain⟨i1,hj0,hj1,hj2,hj3⟩:=zeF;have HG0:Hid (GRow w.heap.size 9 1 w (.slice none 0 0) 0 [] (fun _ _=>True)):=zb (GRow.start trivial);have HV0:Hid (GRow w.heap.size 27 8 w (.slice none 0 0) 0 [] (Off (.slice none 0 0) (fun W N=>IsEs W N [] []))):=zb (GRow.start trivial);clear hp hne hv;have HAC:=zb (fun W b h hb=>yc p t0 S0 [sUncurl] _ _ rfl rfl (by decide) W b h hb)
 go_enter Tryz.func234, Tryz.ntmps234
 go_wp2_with fail
 refine(HAC.out _ _ HK.out.at_ (by simp)).mono ?_;rintro e W1 (⟨hy,rfl,hp2,hg2⟩ | ⟨hy,rfl,hb2⟩)
 . rw[hy,if_pos rfl] at HR;have hk2:=Keep.mk hp2 hg2;have HK2:=zb (HK.out.trans hk2);clear hp2 hg2 hk2 HAC hy HG0 HV0 HK;have hbx:=zj (w:=W1) (tokObj t0);replace HK2:=zb (HK2.out.below hbx);clear hbx;unfold tokVal tokAgg
   go_wp2_with fail
   refine bodyPost_ret (v:=.tuple #[.slice none 0 0,.slice none 0 0]) (by simp [results, Tryz.results234,go_sem]) rfl ?_;rw[HR.out];exact⟨none,0,none,0,rfl,zx _ _ _ _,⟨[],zx _ _ _ _,trivial⟩,HK2.out⟩
 . rw[hy,if_neg (by decide)] at HR;replace HG0:=zb (HG0.out.below zF hb2);replace HV0:=zb (HV0.out.below (zI _ (zV [] [])) hb2);replace HK:=zb (HK.out.below hb2);clear hb2 HAC hy;have hbx:=zj (w:=W1) zeroTok;replace HG0:=zb (HG0.out.below zF hbx);replace HV0:=zb (HV0.out.below (zI _ (zV [] [])) hbx);replace HK:=zb (HK.out.below hbx);clear hbx;unfold tokAgg
   go_wp2_with fail
   generalize World.alloc W1 _=w3 at *;have HRL:Hid (∃ k,k<=f/\res=run k (.field true [] []) (t0::S0)):=zb ⟨f,Nat.le_refl _,HR.out⟩;clear HR
   go_loopw [8,9] (fun ul vl wr=>∃(ls:List (List UInt8)) (l:List Nd) (L:List (List Value)) (R:List Tok) (u v:Value),u=ul/\v=vl/\Hid (ls.length=l.length/\l.length+R.length<=(t0::S0).length)/\Hid (GRow w.heap.size 9 1 wr u ls.length (strCells ls) (fun _ _=>True))/\Hid (GRow w.heap.size 27 8 wr v l.length L.flatten (Off u (fun W N=>IsEs W N L l)))/\Hid (∀ g,v.ownBlock=some g->u.ownBlock≠some g)/\Hid (Keep w p R wr)/\Hid (∃ k,k<=f/\res=run k (.field true ls l) R)) (fun _ _ wr=>lenAt wr p)
   case atStart=>exact⟨[],[],[],t0::S0,_,_,rfl,rfl,zb ⟨rfl,by simp⟩,HG0,HV0,zb (fun g h=>by cases h),HK,HRL⟩
   case round =>
    obtain⟨ls,l,L,R,u,v,rfl,rfl,HLL,HG,HV,HNE,HK,HRK⟩:=hrel;clear HG0 HV0 HRL;have HM:=zb HK.out.at_.len;obtain⟨k,hk,HRk⟩:=HRK.out;obtain⟨k,rfl⟩:∃ j,k=j+1:=by
     cases k with
     | zero=>exact absurd HRk HN.out
     | succ k=>exact⟨k,rfl⟩
    have HR:Hid (res=exec (run k) (step (.field true ls l)) R):=zb HRk;obtain⟨t,S,rfl⟩:=HK.out.at_.row.cons;simp only[step,need,name,exec,if_true] at HR;have HPk:=zb (HPV.out k (by omega));clear HRk HRK;obtain⟨a0,c0,rfl⟩:=HG.out.form;obtain⟨a1,c1,rfl⟩:=HV.out.form;have HNM:=zb (fun W h=>vQ p t S W h)
    go_wp2_with fail
    refine(HNM.out _ HK.out.at_).mono ?_;rintro e W2 (⟨hy,rfl,hp2,hg2⟩ | ⟨hy,rfl,hb2⟩)
    . rw[hy,if_pos rfl] at HR;have hk2:=Keep.mk hp2 hg2;replace HG:=zb (HG.out.keep zF hk2 HLT.out);replace HV:=zb (HV.out.keep (zI _ (zV L l)) hk2 HLT.out);replace HK:=zb (HK.out.trans hk2);clear hy hp2 hg2 hk2 HNM;have hbx:=zj (w:=W2) (oneStr t.1.text);replace HG:=zb (HG.out.below zF hbx);replace HV:=zb (HV.out.below (zI _ (zV L l)) hbx);replace HK:=zb (HK.out.below hbx);have hsrc:=zb (zdb W2 t.1.text);have hone:=zb (zgH t.1.text);have hbw:w.heap.size<=(W2.alloc (oneStr t.1.text)).heap.size:=by have:=HK.out.size;omega
      have hown:=zb HG.out.own;have hm1:ls.length+1<=maxLen:=by have:=HLL.out;have:=HTL.out;simp only[List.length_cons] at *;unfold maxLen;omega
      have hm2:(ls.length+1)*16<=140737488355328:=by have:=HLL.out;have:=HTL.out;simp only[List.length_cons] at *;omega
      clear hbx
      go_wp2_with (at_builtin;refine wpList_append_own_at _ rfl (.tmp 17) (.tmp 20) 23 rfl w.heap.size 9 i0 _ 1 16 Tryz.underlying23 hi0 hz0 hz1 hz2 rfl (by decide) _ _ _ rfl hown.out ⟨W2.heap.size,0,none⟩ 1 1 [.string ⟨t.1.text.toArray⟩] rfl rfl hsrc.out hone.out hm1 hm2 hbw ?_)
      intro v1 w4 hown1 hgr1 hnn1 hat1;have HG2:Hid (GRow w.heap.size 9 1 w4 v1 (ls++[t.1.text]).length (strCells (ls++[t.1.text])) (fun _ _=>True)):=zb (by
       rw[← World.size_alloc W2 (oneStr t.1.text)] at hat1;have h:=HG.out.push (Is':=fun _ _=>True) hown1 hgr1 hat1 (fun _=>trivial) zF
       rwa [List.length_append,uf])
      have HB2:=HV.out.beside (u':=v1) (zV L l) hgr1 HNE.out (by rw[← World.size_alloc W2 (oneStr t.1.text)] at hat1;exact hat1);have HV2:=zb HB2.1;replace HNE:=zb HB2.2;have HK2:=zb (HG.out.keeps HK.out (Nat.le_refl _) HLT.out hgr1).1;obtain⟨a2,c2,rfl⟩:=HG2.out.form;clear HB2 hown1 hgr1 hnn1 hat1 hown hsrc hone hbw HG HK HV hm1 hm2;obtain⟨t1,S1,rfl⟩:=HK2.out.at_.row.cons;simp only[exec] at HR;have HAC:=zb (fun W b h hb=>zE p t1 S1 [sEq] _ _ rfl rfl (by decide) W b h hb)
      go_wp2_with fail
      refine(HAC.out _ _ HK2.out.at_ (by simp)).mono ?_;rintro e W3 (⟨hy,rfl,hp2,hg2⟩ | ⟨hy,rfl,hb2⟩)
      . rw[hy,if_pos rfl] at HR;have hk2:=Keep.mk hp2 hg2;replace HG2:=zb (HG2.out.keep zF hk2 HLT.out);replace HV2:=zb (HV2.out.keep (zI _ (zV L l)) hk2 HLT.out);replace HK2:=zb (HK2.out.trans hk2);clear hp2 hg2 hk2 HAC hy
        go_wp2_with fail
        cases hr:run k .seq S1 with
        | out =>
         rw[hr] at HR;exact absurd HR.out HN.out
        | bad R9 =>
         rw[hr] at HR;refine(HPk.out S1 _ HK2.out.at_ (by rw[hr];exact fun h=>by cases h)).mono ?_;rw[hr];rintro e w8 ⟨t8,S8,rfl,rfl,hg⟩;have HGR:=zb (zo HK2.out.grown hg);clear hg hr;unfold faultV
         go_wp2_with fail
         exact⟨rfl,by rw[HR.out];exact⟨t8,S8,rfl,rfl,HGR.out⟩⟩
        | ok x R2 =>
         have HM2:Hid (R2.length<=S1.length):=zb (by
          have h9:=xd k .seq S1;rw[hr] at h9;obtain⟨P,h1,_,h3⟩:=h9;have h4:=congrArg List.length h1;rw[List.length_append] at h4;omega)
         rw[hr] at HR;refine(HPk.out S1 _ HK2.out.at_ (by rw[hr];exact fun h=>by cases h)).mono ?_;rw[hr];rintro e W4 ⟨s,rfl,ha,hk2⟩;have HA:Hid (IsE W4 (fun g=>(w.heap.size<=g/\some g≠(Value.slice a1 l.length c1).ownBlock)/\some g≠(Value.slice a2 (ls++[t.1.text]).length c2).ownBlock) (exL x s) x):=zb (ha.wide fun g hg=>⟨⟨Nat.le_trans HK2.out.size hg,HV2.out.new hg⟩,HG2.out.new hg⟩);replace HG2:=zb (HG2.out.keep zF hk2 HLT.out);replace HV2:=zb (HV2.out.keep (zI _ (zV L l)) hk2 HLT.out);replace HK2:=zb (HK2.out.trans hk2);have hbx:=zj (w:=W4) (exObj x s);replace HG2:=zb (HG2.out.below zF hbx);replace HV2:=zb (HV2.out.below (zI _ (zV L l)) hbx);replace HK2:=zb (HK2.out.below hbx);replace HA:=zb (HA.out.below hbx);have hsrc:=zb (zcv W4 x s);have hone:=zb (ex_one x s);have hbw:w.heap.size<=(W4.alloc (exObj x s)).heap.size:=by have:=HK2.out.size;omega
         have hown:=zb HV2.out.own;have hm1:l.length+1<=maxLen:=by have:=HLL.out;have:=HTL.out;simp only[List.length_cons] at *;unfold maxLen;omega
         have hm2:(l.length+1)*128<=140737488355328:=by have:=HLL.out;have:=HTL.out;simp only[List.length_cons] at *;omega
         clear ha hr hk2 hbx;unfold exOf exV
         go_wp2_with (at_builtin;refine wpList_append_own_at _ rfl (.tmp 25) (.tmp 28) 24 rfl w.heap.size 27 i1 _ 8 128 Tryz.underlying24 hj0 hj1 hj2 hj3 rfl (by decide) _ _ _ rfl hown.out ⟨W4.heap.size,0,none⟩ 1 1 (exL x s) rfl rfl hsrc.out hone.out hm1 hm2 hbw ?_)
         intro v2 w5 hown1 hgr1 hnn1 hat1;rw[← World.size_alloc W4 (exObj x s)] at hat1;have HV3:Hid (GRow w.heap.size 27 8 w5 v2 (l++[x]).length (L++[exL x s]).flatten (Off (.slice a2 (ls++[t.1.text]).length c2) (fun W N=>IsEs W N (L++[exL x s]) (l++[x])))):=zb (by
          have h:=HV2.out.push (Is':=Off (.slice a2 (ls++[t.1.text]).length c2) (fun W N=>IsEs W N (L++[exL x s]) (l++[x]))) hown1 hgr1 hat1 (fun h=>IsEs.append h ⟨HA.out,trivial⟩) (zI _ (zV _ _))
          rwa [List.length_append,List.flatten_append,List.flatten_singleton])
         have HG3:=zb (HG2.out.aside hgr1 (fun g hu e=>HNE.out g e hu));have HN3:Hid (∀ g,v2.ownBlock=some g->(Value.slice a2 (ls++[t.1.text]).length c2).ownBlock≠some g):=zb (fun g hv hu=>by
          rcases hat1 with h9 | h9
          . exact HNE.out g (h9.symm.trans hv) hu
          . have h10:=zc (h9.symm.trans hv);have:=(World.ownsRow.lt HG2.out.own g hu).2;omega)
         have HK3:=zb (HV2.out.keeps HK2.out (Nat.le_refl _) HLT.out hgr1).1;obtain⟨a3,c3,rfl⟩:=HV3.out.form;clear hown1 hgr1 hnn1 hat1 hown hsrc hone hbw HG2 HK2 HV2 hm1 hm2 HNE HA;obtain⟨t2,S2,rfl⟩:=HK3.out.at_.row.cons;simp only[exec] at HR;have HAC:=zb (fun W b h hb=>zE p t2 S2 [sComma,sUncurl] _ _ rfl rfl (by decide) W b h hb);have htf:=ud t2.1.kind (t2.2:Nat) t2.1.n ⟨t2.1.text.toArray⟩
         go_wp2_with fail
         refine(HAC.out _ _ HK3.out.at_ (by simp)).mono ?_;rintro e W5 (⟨hy,rfl,hp2,hg2⟩ | ⟨hy,rfl,hb2⟩)
         . rw[hy,if_pos rfl] at HR;have hk2:=Keep.mk hp2 hg2;replace HG3:=zb (HG3.out.keep zF hk2 HLT.out);replace HV3:=zb (HV3.out.keep (zI _ (zV _ _)) hk2 HLT.out);replace HK3:=zb (HK3.out.trans hk2);clear hp2 hg2 hk2 HAC hy;unfold tokVal tokAgg;by_cases hx:t2.1.text=sUncurl
           . rw[if_pos hx] at HR;have BE:(t2.1.text == [125])=true:=by rw[hx];rfl
             clear hx
             go_wp2_with fail
             refine bodyPost_ret (v:=.tuple #[.slice a2 (ls++[t.1.text]).length c2,.slice a3 (l++[x]).length c3]) (by simp [results, Tryz.results234,go_sem]) rfl ?_;rw[HR.out];exact⟨a2,c2,a3,c3,rfl,HG3.out.rowIn,⟨L++[exL x s],HV3.out.rowIn,zV _ _ _ _ _ _ (fun g hg _=>⟨hg.1,rfl⟩) (HV3.out.all (zI _ (zV _ _)))⟩,HK3.out⟩
           . rw[if_neg hx] at HR;have BE:(t2.1.text == [125])=false:=beq_eq_false_iff_ne.2 hx;clear hx;have HM3:=zb HK3.out.at_.len
             go_wp2_with fail
             simp only[List.length_append,List.length_cons,List.length_nil,Nat.zero_add] at HG3 HV3 HN3
             go_roundw
             case rel=>exact⟨ls++[t.1.text],l++[x],L++[exL x s],S2,_,_,rfl,rfl,zb (by have:=HLL.out;have:=HM2.out;simp only[List.length_append,List.length_cons,List.length_nil] at *;omega),(by simp only[List.length_append,List.length_cons,List.length_nil,Nat.zero_add];exact HG3),(by simp only[List.length_append,List.length_cons,List.length_nil,Nat.zero_add];exact HV3),HN3,HK3,zb ⟨k,by omega,by rw[HR.out];exact wQ _ _ _⟩⟩
             case measure=>rw[HM3.out,HM.out];have:=HM2.out;simp only[List.length_cons] at *;omega
         . rw[hy,if_neg (by decide)] at HR;have HGR:=zb (zr HK3.out.grown hb2);clear hb2 HAC;unfold faultV
           go_wp2_with fail
           exact⟨rfl,by rw[HR.out];exact⟨t2,S2,rfl,rfl,HGR.out⟩⟩
      . rw[hy,if_neg (by decide)] at HR;have HGR:=zb (zr HK2.out.grown hb2);clear hb2 HAC;unfold faultV
        go_wp2_with fail
        exact⟨rfl,by rw[HR.out];exact⟨t1,S1,rfl,rfl,HGR.out⟩⟩
    . rw[hy,if_neg (by decide)] at HR;have HGR:=zb (zr HK.out.grown hb2);clear hb2 HNM;unfold faultV
      go_wp2_with fail
      exact⟨rfl,by rw[HR.out];exact⟨t,S,rfl,rfl,HGR.out⟩⟩
theorem w_fieldsP (f p:Nat) (hv:∀ k,k<=f->SaysP k .pat 225 #[ptrV p] p):SaysF false (f+1) (.fields false) 244 #[ptrV p,(.func (.func 225) #[ptrV p] #[])] p:=by
 intro T w hp hne;have HLT:=zb hp.lt;have HK:=zb (Keep.start hp);have HTL:Hid (T.length<=5000):=zb (by obtain⟨g,off,cap,_,_,_,h,_⟩:=hp.ex;exact h);have HPV:=zb hv;have HN:=zb hne;have HR:Hid (run (f+1) (.fields false) T=exec (run f) (step (.fields false)) T):=zb rfl;obtain⟨t0,S0,hT0⟩:=hp.row.cons;generalize run (f+1) (.fields false) T=res at *;subst hT0;simp only[step,zcn] at HR;rw[wQ] at HR;obtain⟨i0,hi0,hz0,hz1,hz2⟩:=zci;obtain⟨i1,hj0,hj1,hj2,hj3⟩:=pa_info;have HG0:Hid (GRow w.heap.size 9 1 w (.slice none 0 0) 0 [] (fun _ _=>True)):=zb (GRow.start trivial);have HV0:Hid (GRow w.heap.size 39 7 w (.slice none 0 0) 0 [] (Off (.slice none 0 0) (fun W N=>IsPs W N [] []))):=zb (GRow.start trivial);clear hp hne hv;have HAC:=zb (fun W b h hb=>yc p t0 S0 [sUncurl] _ _ rfl rfl (by decide) W b h hb)
 go_enter Tryz.func244, Tryz.ntmps244
 go_wp2_with fail
 refine(HAC.out _ _ HK.out.at_ (by simp)).mono ?_;rintro e W1 (⟨hy,rfl,hp2,hg2⟩ | ⟨hy,rfl,hb2⟩)
 . rw[hy,if_pos rfl] at HR;have hk2:=Keep.mk hp2 hg2;have HK2:=zb (HK.out.trans hk2);clear hp2 hg2 hk2 HAC hy HG0 HV0 HK;have hbx:=zj (w:=W1) (tokObj t0);replace HK2:=zb (HK2.out.below hbx);clear hbx;unfold tokVal tokAgg
   go_wp2_with fail
   refine bodyPost_ret (v:=.tuple #[.slice none 0 0,.slice none 0 0]) (by simp [results, Tryz.results244,go_sem]) rfl ?_;rw[HR.out];exact⟨none,0,none,0,rfl,zx _ _ _ _,⟨[],zx _ _ _ _,trivial⟩,HK2.out⟩
 . rw[hy,if_neg (by decide)] at HR;replace HG0:=zb (HG0.out.below zF hb2);replace HV0:=zb (HV0.out.below (zI _ (yB [] [])) hb2);replace HK:=zb (HK.out.below hb2);clear hb2 HAC hy;have hbx:=zj (w:=W1) zeroTok;replace HG0:=zb (HG0.out.below zF hbx);replace HV0:=zb (HV0.out.below (zI _ (yB [] [])) hbx);replace HK:=zb (HK.out.below hbx);clear hbx;unfold tokAgg
   go_wp2_with fail
   generalize World.alloc W1 _=w3 at *;have HRL:Hid (∃ k,k<=f/\res=run k (.field false [] []) (t0::S0)):=zb ⟨f,Nat.le_refl _,HR.out⟩;clear HR
   go_loopw [8,9] (fun ul vl wr=>∃(ls:List (List UInt8)) (l:List Nd) (L:List (List Value)) (R:List Tok) (u v:Value),u=ul/\v=vl/\Hid (ls.length=l.length/\l.length+R.length<=(t0::S0).length)/\Hid (GRow w.heap.size 9 1 wr u ls.length (strCells ls) (fun _ _=>True))/\Hid (GRow w.heap.size 39 7 wr v l.length L.flatten (Off u (fun W N=>IsPs W N L l)))/\Hid (∀ g,v.ownBlock=some g->u.ownBlock≠some g)/\Hid (Keep w p R wr)/\Hid (∃ k,k<=f/\res=run k (.field false ls l) R)) (fun _ _ wr=>lenAt wr p)
   case atStart=>exact⟨[],[],[],t0::S0,_,_,rfl,rfl,zb ⟨rfl,by simp⟩,HG0,HV0,zb (fun g h=>by cases h),HK,HRL⟩
   case round =>
    obtain⟨ls,l,L,R,u,v,rfl,rfl,HLL,HG,HV,HNE,HK,HRK⟩:=hrel;clear HG0 HV0 HRL;have HM:=zb HK.out.at_.len;obtain⟨k,hk,HRk⟩:=HRK.out;obtain⟨k,rfl⟩:∃ j,k=j+1:=by
     cases k with
     | zero=>exact absurd HRk HN.out
     | succ k=>exact⟨k,rfl⟩
    have HR:Hid (res=exec (run k) (step (.field false ls l)) R):=zb HRk;obtain⟨t,S,rfl⟩:=HK.out.at_.row.cons;simp only[step,need,name,exec,Bool.false_eq_true,if_false] at HR;have HPk:=zb (HPV.out k (by omega));clear HRk HRK;obtain⟨a0,c0,rfl⟩:=HG.out.form;obtain⟨a1,c1,rfl⟩:=HV.out.form;have HNM:=zb (fun W h=>vQ p t S W h)
    go_wp2_with fail
    refine(HNM.out _ HK.out.at_).mono ?_;rintro e W2 (⟨hy,rfl,hp2,hg2⟩ | ⟨hy,rfl,hb2⟩)
    . rw[hy,if_pos rfl] at HR;have hk2:=Keep.mk hp2 hg2;replace HG:=zb (HG.out.keep zF hk2 HLT.out);replace HV:=zb (HV.out.keep (zI _ (yB L l)) hk2 HLT.out);replace HK:=zb (HK.out.trans hk2);clear hy hp2 hg2 hk2 HNM;have hbx:=zj (w:=W2) (oneStr t.1.text);replace HG:=zb (HG.out.below zF hbx);replace HV:=zb (HV.out.below (zI _ (yB L l)) hbx);replace HK:=zb (HK.out.below hbx);have hsrc:=zb (zdb W2 t.1.text);have hone:=zb (zgH t.1.text);have hbw:w.heap.size<=(W2.alloc (oneStr t.1.text)).heap.size:=by have:=HK.out.size;omega
      have hown:=zb HG.out.own;have hm1:ls.length+1<=maxLen:=by have:=HLL.out;have:=HTL.out;simp only[List.length_cons] at *;unfold maxLen;omega
      have hm2:(ls.length+1)*16<=140737488355328:=by have:=HLL.out;have:=HTL.out;simp only[List.length_cons] at *;omega
      clear hbx
      go_wp2_with (at_builtin;refine wpList_append_own_at _ rfl (.tmp 17) (.tmp 20) 23 rfl w.heap.size 9 i0 _ 1 16 Tryz.underlying23 hi0 hz0 hz1 hz2 rfl (by decide) _ _ _ rfl hown.out ⟨W2.heap.size,0,none⟩ 1 1 [.string ⟨t.1.text.toArray⟩] rfl rfl hsrc.out hone.out hm1 hm2 hbw ?_)
      intro v1 w4 hown1 hgr1 hnn1 hat1;have HG2:Hid (GRow w.heap.size 9 1 w4 v1 (ls++[t.1.text]).length (strCells (ls++[t.1.text])) (fun _ _=>True)):=zb (by
       rw[← World.size_alloc W2 (oneStr t.1.text)] at hat1;have h:=HG.out.push (Is':=fun _ _=>True) hown1 hgr1 hat1 (fun _=>trivial) zF
       rwa [List.length_append,uf])
      have HB2:=HV.out.beside (u':=v1) (yB L l) hgr1 HNE.out (by rw[← World.size_alloc W2 (oneStr t.1.text)] at hat1;exact hat1);have HV2:=zb HB2.1;replace HNE:=zb HB2.2;have HK2:=zb (HG.out.keeps HK.out (Nat.le_refl _) HLT.out hgr1).1;obtain⟨a2,c2,rfl⟩:=HG2.out.form;clear HB2 hown1 hgr1 hnn1 hat1 hown hsrc hone hbw HG HK HV hm1 hm2;obtain⟨t1,S1,rfl⟩:=HK2.out.at_.row.cons;simp only[exec] at HR;have HAC:=zb (fun W b h hb=>zE p t1 S1 [sEq] _ _ rfl rfl (by decide) W b h hb)
      go_wp2_with fail
      refine(HAC.out _ _ HK2.out.at_ (by simp)).mono ?_;rintro e W3 (⟨hy,rfl,hp2,hg2⟩ | ⟨hy,rfl,hb2⟩)
      . rw[hy,if_pos rfl] at HR;have hk2:=Keep.mk hp2 hg2;replace HG2:=zb (HG2.out.keep zF hk2 HLT.out);replace HV2:=zb (HV2.out.keep (zI _ (yB L l)) hk2 HLT.out);replace HK2:=zb (HK2.out.trans hk2);clear hp2 hg2 hk2 HAC hy
        go_wp2_with fail
        cases hr:run k .pat S1 with
        | out =>
         rw[hr] at HR;exact absurd HR.out HN.out
        | bad R9 =>
         rw[hr] at HR;refine(HPk.out S1 _ HK2.out.at_ (by rw[hr];exact fun h=>by cases h)).mono ?_;rw[hr];rintro e w8 ⟨t8,S8,rfl,rfl,hg⟩;have HGR:=zb (zo HK2.out.grown hg);clear hg hr;unfold faultV
         go_wp2_with fail
         exact⟨rfl,by rw[HR.out];exact⟨t8,S8,rfl,rfl,HGR.out⟩⟩
        | ok x R2 =>
         have HM2:Hid (R2.length<=S1.length):=zb (by
          have h9:=xd k .pat S1;rw[hr] at h9;obtain⟨P,h1,_,h3⟩:=h9;have h4:=congrArg List.length h1;rw[List.length_append] at h4;omega)
         rw[hr] at HR;refine(HPk.out S1 _ HK2.out.at_ (by rw[hr];exact fun h=>by cases h)).mono ?_;rw[hr];rintro e W4 ⟨s,rfl,ha,hk2⟩;have HA:Hid (IsP W4 (fun g=>(w.heap.size<=g/\some g≠(Value.slice a1 l.length c1).ownBlock)/\some g≠(Value.slice a2 (ls++[t.1.text]).length c2).ownBlock) (paL x s) x):=zb (ha.wide fun g hg=>⟨⟨Nat.le_trans HK2.out.size hg,HV2.out.new hg⟩,HG2.out.new hg⟩);replace HG2:=zb (HG2.out.keep zF hk2 HLT.out);replace HV2:=zb (HV2.out.keep (zI _ (yB L l)) hk2 HLT.out);replace HK2:=zb (HK2.out.trans hk2);have hbx:=zj (w:=W4) (paObj x s);replace HG2:=zb (HG2.out.below zF hbx);replace HV2:=zb (HV2.out.below (zI _ (yB L l)) hbx);replace HK2:=zb (HK2.out.below hbx);replace HA:=zb (HA.out.below hbx);have hsrc:=zb (pa_cells W4 x s);have hone:=zb (pa_one x s);have hbw:w.heap.size<=(W4.alloc (paObj x s)).heap.size:=by have:=HK2.out.size;omega
         have hown:=zb HV2.out.own;have hm1:l.length+1<=maxLen:=by have:=HLL.out;have:=HTL.out;simp only[List.length_cons] at *;unfold maxLen;omega
         have hm2:(l.length+1)*104<=140737488355328:=by have:=HLL.out;have:=HTL.out;simp only[List.length_cons] at *;omega
         clear ha hr hk2 hbx;unfold paOf
         go_wp2_with (at_builtin;refine wpList_append_own_at _ rfl (.tmp 25) (.tmp 28) 37 rfl w.heap.size 39 i1 _ 7 104 Tryz.underlying37 hj0 hj1 hj2 hj3 rfl (by decide) _ _ _ rfl hown.out ⟨W4.heap.size,0,none⟩ 1 1 (paL x s) rfl rfl hsrc.out hone.out hm1 hm2 hbw ?_)
         intro v2 w5 hown1 hgr1 hnn1 hat1;rw[← World.size_alloc W4 (paObj x s)] at hat1;have HV3:Hid (GRow w.heap.size 39 7 w5 v2 (l++[x]).length (L++[paL x s]).flatten (Off (.slice a2 (ls++[t.1.text]).length c2) (fun W N=>IsPs W N (L++[paL x s]) (l++[x])))):=zb (by
          have h:=HV2.out.push (Is':=Off (.slice a2 (ls++[t.1.text]).length c2) (fun W N=>IsPs W N (L++[paL x s]) (l++[x]))) hown1 hgr1 hat1 (fun h=>IsPs.append h ⟨HA.out,trivial⟩) (zI _ (yB _ _))
          rwa [List.length_append,List.flatten_append,List.flatten_singleton])
         have HG3:=zb (HG2.out.aside hgr1 (fun g hu e=>HNE.out g e hu));have HN3:Hid (∀ g,v2.ownBlock=some g->(Value.slice a2 (ls++[t.1.text]).length c2).ownBlock≠some g):=zb (fun g hv hu=>by
          rcases hat1 with h9 | h9
          . exact HNE.out g (h9.symm.trans hv) hu
          . have h10:=zc (h9.symm.trans hv);have:=(World.ownsRow.lt HG2.out.own g hu).2;omega)
         have HK3:=zb (HV2.out.keeps HK2.out (Nat.le_refl _) HLT.out hgr1).1;obtain⟨a3,c3,rfl⟩:=HV3.out.form;clear hown1 hgr1 hnn1 hat1 hown hsrc hone hbw HG2 HK2 HV2 hm1 hm2 HNE HA;obtain⟨t2,S2,rfl⟩:=HK3.out.at_.row.cons;simp only[exec] at HR;have HAC:=zb (fun W b h hb=>zE p t2 S2 [sComma,sUncurl] _ _ rfl rfl (by decide) W b h hb);have htf:=ud t2.1.kind (t2.2:Nat) t2.1.n ⟨t2.1.text.toArray⟩
         go_wp2_with fail
         refine(HAC.out _ _ HK3.out.at_ (by simp)).mono ?_;rintro e W5 (⟨hy,rfl,hp2,hg2⟩ | ⟨hy,rfl,hb2⟩)
         . rw[hy,if_pos rfl] at HR;have hk2:=Keep.mk hp2 hg2;replace HG3:=zb (HG3.out.keep zF hk2 HLT.out);replace HV3:=zb (HV3.out.keep (zI _ (yB _ _)) hk2 HLT.out);replace HK3:=zb (HK3.out.trans hk2);clear hp2 hg2 hk2 HAC hy;unfold tokVal tokAgg;by_cases hx:t2.1.text=sUncurl
           . rw[if_pos hx] at HR;have BE:(t2.1.text == [125])=true:=by rw[hx];rfl
             clear hx
             go_wp2_with fail
             refine bodyPost_ret (v:=.tuple #[.slice a2 (ls++[t.1.text]).length c2,.slice a3 (l++[x]).length c3]) (by simp [results, Tryz.results244,go_sem]) rfl ?_;rw[HR.out];exact⟨a2,c2,a3,c3,rfl,HG3.out.rowIn,⟨L++[paL x s],HV3.out.rowIn,yB _ _ _ _ _ _ (fun g hg _=>⟨hg.1,rfl⟩) (HV3.out.all (zI _ (yB _ _)))⟩,HK3.out⟩
           . rw[if_neg hx] at HR;have BE:(t2.1.text == [125])=false:=beq_eq_false_iff_ne.2 hx;clear hx;have HM3:=zb HK3.out.at_.len
             go_wp2_with fail
             simp only[List.length_append,List.length_cons,List.length_nil,Nat.zero_add] at HG3 HV3 HN3
             go_roundw
             case rel=>exact⟨ls++[t.1.text],l++[x],L++[paL x s],S2,_,_,rfl,rfl,zb (by have:=HLL.out;have:=HM2.out;simp only[List.length_append,List.length_cons,List.length_nil] at *;omega),(by simp only[List.length_append,List.length_cons,List.length_nil,Nat.zero_add];exact HG3),(by simp only[List.length_append,List.length_cons,List.length_nil,Nat.zero_add];exact HV3),HN3,HK3,zb ⟨k,by omega,by rw[HR.out];exact wQ _ _ _⟩⟩
             case measure=>rw[HM3.out,HM.out];have:=HM2.out;simp only[List.length_cons] at *;omega
         . rw[hy,if_neg (by decide)] at HR;have HGR:=zb (zr HK3.out.grown hb2);clear hb2 HAC;unfold faultV
           go_wp2_with fail
           exact⟨rfl,by rw[HR.out];exact⟨t2,S2,rfl,rfl,HGR.out⟩⟩
      . rw[hy,if_neg (by decide)] at HR;have HGR:=zb (zr HK2.out.grown hb2);clear hb2 HAC;unfold faultV
        go_wp2_with fail
        exact⟨rfl,by rw[HR.out];exact⟨t1,S1,rfl,rfl,HGR.out⟩⟩
    . rw[hy,if_neg (by decide)] at HR;have HGR:=zb (zr HK.out.grown hb2);clear hb2 HNM;unfold faultV
      go_wp2_with fail
      exact⟨rfl,by rw[HR.out];exact⟨t,S,rfl,rfl,HGR.out⟩⟩
