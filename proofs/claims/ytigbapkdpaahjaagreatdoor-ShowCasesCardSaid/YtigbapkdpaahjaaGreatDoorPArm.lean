/-
  The walk of arms.
-/
import Derived.Test.YtigbapkdpaahjaaGreatDoorGNode
import Derived.RegionDies
namespace Go.Proofs.YtigbapkdpaahjaaGreatDoor
set_option linter.unusedSimpArgs false
set_option linter.unusedVariables false
set_option maxRecDepth 100000
set_option maxHeartbeats 4000000
open Go.RowKit
theorem sD {P:Program} {ops:Array Oper} {o:Oper} {a:Act} {w:World} {K:Act→World→Prop} {Q:Exit→Act→World→Prop} {E:Prop} (hgd:o.guard=none) (s x:Operand) (t:TypeId)
 (ho:o.op=.call { callee:=.builtin .append,args:=#[s,x],argTypes:=#[t,t] })
 (base:Nat) (e:TypeId) (i:TypeInfo) (z:Value) (size bytes:Nat) (ht:P.underlying t=some (.slice e)) (hi:P.info? e=some i) (hz:i.zero=some z)
 (hsize:i.size=size) (hby:i.bytes=bytes) (hzs:z.cells.size=size) (hsz:0<size)
 (v:Value) (n:Nat) (xs:List Value) (hs:a.eval s=v) (hown:w.ownsRow base e size v n xs)
 (ao:Option Addr) (m c:Nat) (news:List Value) (hx:a.eval x=.slice ao m c) (hl:news.length=m*size) (hnews:∃ ad,ao=some ad∧∀ j u,news[j]? = some u→w.cell? (ad.add j)=some u) (h1:∀ u∈news,u.oneCell'=true)
 (h63:n+m≤maxLen) (hbytes:(n+m)*bytes≤140737488355328) (hbase:base≤w.heap.size)
 (h:∀ v' w',w'.ownsRow base e size v' (n+m) (xs++news)→w.grownBy w' v.ownBlock→(v'=.slice none 0 0↔v=.slice none 0 0∧m=0)→(v'.ownBlock=v.ownBlock∨v'.ownBlock=some w.heap.size)→K (a.put o.dst v') w') :
 if Region.wanted o (yielded ops a.tmps)=true then Oper.wp P o a w K Q else E:=by
 have hw:Region.wanted o (yielded ops a.tmps)=true:=by simp [Region.wanted,hgd]
 rw[if_pos hw]
 obtain⟨ad,rfl,hnews⟩:=hnews
 obtain⟨v',w',hr,h2,h3,h4,h5⟩:=run_append_own_at (P:=P) w base t o.type e i z size bytes ht hi hz hsize hby hzs hsz v n xs hown ad m c news hl hnews h1 h63 hbytes hbase
 unfold Oper.wp execOp
 simp only[ho,resolve,invoke,builtin,Sem.run_bind,Sem.run_pure,Result.andThen_ok,List.map_toArray,List.map_cons,List.map_nil,hs,hx,hr]
 exact h v' w' h2 h3 h4 h5
theorem infoArm:(Tryz.prog.info? 46).map (fun i=>(i.zero,i.size,i.bytes))=some (some (.agg #[.int .i64 0,.int .i64 0,.string ⟨#[]⟩,.int .i64 0,.string ⟨#[]⟩,.slice none 0 0,.slice none 0 0,.int .i64 0,.int .i64 0,.string ⟨#[]⟩,.int .i64 0,.string ⟨#[]⟩,.slice none 0 0,.slice none 0 0,.slice none 0 0]),15,232):=by kernel_rfl
theorem ar_info:∃ i:TypeInfo, Tryz.prog.info? 46 = some i∧i.zero=some (.agg #[.int .i64 0,.int .i64 0,.string ⟨#[]⟩,.int .i64 0,.string ⟨#[]⟩,.slice none 0 0,.slice none 0 0,.int .i64 0,.int .i64 0,.string ⟨#[]⟩,.int .i64 0,.string ⟨#[]⟩,.slice none 0 0,.slice none 0 0,.slice none 0 0])∧i.size=15∧i.bytes=232:=by
 have h:=infoArm
 cases hi : Tryz.prog.info? 46 with
 | none=>rw[hi] at h;cases h
 | some i =>
  rw[hi] at h
  have h:=zc h
  exact⟨i,rfl,congrArg (fun x=>x.1) h,congrArg (fun x=>x.2.1) h,congrArg (fun x=>x.2.2) h⟩
abbrev arObj (x:Nd) (s:Sl) (b:Nd) (r:Sl):Obj:=.cells #[.int .i64 x.hd.kind,.int .i64 x.hd.pos,.string ⟨x.hd.name.toArray⟩,.int .i64 x.hd.n,.string ⟨x.hd.s.toArray⟩,.slice s.la x.hd.labels.length s.lc,.slice s.aa x.args.length s.ac,.int .i64 b.hd.kind,.int .i64 b.hd.pos,.string ⟨b.hd.name.toArray⟩,.int .i64 b.hd.n,.string ⟨b.hd.s.toArray⟩,.slice r.la b.hd.labels.length r.lc,.slice r.aa b.args.length r.ac,.slice r.ra b.arms.length r.rc] 46 (0,0)
theorem ar_cells (w:World) (x:Nd) (s:Sl) (b:Nd) (r:Sl):∀(j:Nat) (u:Value),(paL x s++exL b r)[j]? = some u→(w.alloc (arObj x s b r)).cell? ((⟨w.heap.size,0,none⟩:Addr).add j)=some u:=by
 intro j u hj
 rw[Addr.add_lit,zf (zA w _ _ rfl)]
 simpa [exL,paL] using hj
theorem exec_call (rec:Md→List Tok→PR) (m:Md) (T:List Tok):exec rec (.call m .ret) T=rec m T:=by
 rw[exec]
 cases rec m T <;> rfl
theorem ar_one (x:Nd) (s:Sl) (b:Nd) (r:Sl):∀ u∈paL x s++exL b r,u.oneCell'=true:=by
 intro u hu
 simp only[exL,paL,List.cons_append,List.nil_append,List.mem_cons,List.not_mem_nil,or_false] at hu
 rcases hu with rfl | rfl | rfl | rfl | rfl | rfl | rfl | rfl | rfl | rfl | rfl | rfl | rfl | rfl | rfl <;> rfl
theorem w_arms (f p:Nat) (hpat:∀ k,k≤f→SaysP k .pat 176 #[ptrV p] p) (hs:∀ k,k≤f→Says k .seq 47 #[ptrV p] p):SaysA (f+1) (.arms []) 164 #[ptrV p] p:=by
 intro T w hp hne
 have HLT:=zb hp.lt
 have HK:=zb (Keep.start hp)
 have HTL:Hid (T.length≤5000):=zb (by obtain⟨g,off,cap,_,_,_,h,_⟩:=hp.ex;exact h)
 have HPP:=zb hpat
 have HPS:=zb hs
 have HN:=zb hne
 have HR0:Hid (∃ k,k≤f+1∧run (f+1) (.arms []) T=run k (.arms []) T):=zb ⟨f+1,Nat.le_refl _,rfl⟩
 generalize run (f+1) (.arms []) T=res at *
 obtain⟨i0,hi0,hz0,hz1,hz2⟩:=ar_info
 have HG0:Hid (GRow w.heap.size 46 15 w (.slice none 0 0) 0 [] (fun W N=>IsAs W N [] [])):=zb (GRow.start trivial)
 clear hp hne hpat hs
 go_enter Tryz.func164, Tryz.ntmps164
 go_wp2_with fail
 go_loopw [3] (fun vl wr=>∃(l:List (Nd×Nd)) (L:List (List Value)) (R:List Tok) (u:Value),u=vl∧Hid (l.length+R.length≤T.length)∧Hid (GRow w.heap.size 46 15 wr u l.length L.flatten (fun W N=>IsAs W N L l))∧Hid (Keep w p R wr)∧Hid (∃ k,k≤f+1∧res=run k (.arms l) R)) (fun _ wr=>lenAt wr p)
 case atStart=>exact⟨[],[],T,_,rfl,zb (by simp),HG0,HK,HR0⟩
 case round =>
  obtain⟨l,L,R,u,rfl,HLL,HG,HK,HRK⟩:=hrel
  clear HG0 HR0
  have HM:=zb HK.out.at_.len
  obtain⟨k,hk,HRk⟩:=HRK.out
  obtain⟨k,rfl⟩:∃ j,k=j+1:=by
   cases k with
   | zero=>exact absurd HRk HN.out
   | succ k=>exact⟨k,rfl⟩
  have HR:Hid (res=exec (run k) (step (.arms l)) R):=zb HRk
  simp only[step,need,exec] at HR
  have HPk:=zb (HPP.out k (by omega))
  have HSk:=zb (HPS.out k (by omega))
  clear HRk HRK
  obtain⟨a0,c0,rfl⟩:=HG.out.form
  go_wp2_with fail
  cases hr:run k .pat R with
  | out =>
   rw[hr] at HR
   exact absurd HR.out HN.out
  | bad R9 =>
   rw[hr] at HR
   refine(HPk.out R _ HK.out.at_ (by rw[hr];exact fun h=>by cases h)).mono ?_
   rw[hr]
   rintro e w8 ⟨t8,S8,rfl,rfl,hg⟩
   have HGR:=zb (zo HK.out.grown hg)
   clear hg hr
   unfold faultV
   go_wp2_with fail
   exact⟨rfl,by rw[HR.out];exact⟨t8,S8,rfl,rfl,HGR.out⟩⟩
  | ok x R1 =>
   have HM1:Hid (R1.length<R.length):=zb (by
    have h9:=xd k .pat R
    rw[hr] at h9
    obtain⟨P,h1,_,h3⟩:=h9
    have h4:=congrArg List.length h1
    have h5:=List.length_pos_iff.2 (h3 rfl)
    rw[List.length_append] at h4
    omega)
   rw[hr] at HR
   refine(HPk.out R _ HK.out.at_ (by rw[hr];exact fun h=>by cases h)).mono ?_
   rw[hr]
   rintro e W1 ⟨s,rfl,ha,hk2⟩
   have HA:Hid (IsP W1 (fun g=>w.heap.size≤g∧some g≠(Value.slice a0 l.length c0).ownBlock) (paL x s) x):=zb (ha.wide fun g hg=>⟨Nat.le_trans HK.out.size hg,HG.out.new hg⟩)
   replace HG:=zb (HG.out.keep (xe L l) hk2 HLT.out)
   replace HK:=zb (HK.out.trans hk2)
   have hbx:=zj (w:=W1) (paObj x s)
   have HB:=zb (PaBox.new W1 x s)
   have HBN:Hid (w.heap.size≤W1.heap.size∧p<W1.heap.size∧some W1.heap.size≠(Value.slice a0 l.length c0).ownBlock):=zb ⟨HK.out.size,by have:=HK.out.size;have:=HLT.out;omega,HG.out.new (Nat.le_refl _)⟩
   replace HG:=zb (HG.out.below (xe L l) hbx)
   replace HK:=zb (HK.out.below hbx)
   replace HA:=zb (HA.out.below hbx)
   clear ha hr hk2 hbx
   obtain⟨t1,S1,rfl⟩:=HK.out.at_.row.cons
   simp only[exec] at HR
   have HAC:=zb (fun W b h hb=>zE p t1 S1 [sArrow] _ _ rfl rfl (by decide) W b h hb)
   unfold paOf
   go_wp2_with fail
   refine(HAC.out _ _ HK.out.at_ (by simp)).mono ?_
   rintro e W2 (⟨hy,rfl,hp2,hg2⟩ | ⟨hy,rfl,hb2⟩)
   · rw[hy,if_pos rfl] at HR
     have hk2:=Keep.mk hp2 hg2
     replace HG:=zb (HG.out.keep (xe L l) hk2 HLT.out)
     replace HA:=zb (HA.out.keep hk2 (fun g hg=>by have:=HLT.out;have:=hg.1;omega))
     replace HB:=zb (HB.out.keep hk2 HBN.out.2.1)
     replace HK:=zb (HK.out.trans hk2)
     clear hp2 hg2 hk2 HAC hy
     go_upto_region 4 with fail
     generalize W1.heap.size=bp at *
     have HKd:=zb (HK.out.below (zm _))
     obtain⟨k0,k1,k2,k3,k4,k5,k6,_⟩:=Box7.cells HB.out
     have kl:=HB.out.lt
     cases hr:run k .seq S1 with
     | out =>
      rw[hr] at HR
      exact absurd HR.out HN.out
     | bad R9 =>
      rw[hr] at HR
      have HSC:Hid (∀ W,PAt W p S1→Calls Tryz.prog 47 #[ptrV p] W (Told (.bad R9) W p)):=zb (fun W h=>by
       have:=HSk.out S1 W h (by rw[hr];exact fun h=>by cases h)
       rwa [hr] at this)
      clear hr
      go_region_dies
      all_goals
       refine(HSC.out _ HKd.out.at_).mono ?_
       rintro e w8 ⟨t8,S8,rfl,rfl,hg⟩
       have HGR:=zb (zo HKd.out.grown hg)
       exact⟨rfl,by rw[HR.out];exact⟨t8,S8,rfl,rfl,HGR.out⟩⟩
     | ok b R2 =>
      have HM2:Hid (R2.length≤S1.length):=zb (by
       have h9:=xd k .seq S1
       rw[hr] at h9
       obtain⟨P,h1,_,h3⟩:=h9
       have h4:=congrArg List.length h1
       rw[List.length_append] at h4
       omega)
      rw[hr] at HR
      have HSC:Hid (∀ W,PAt W p S1→Calls Tryz.prog 47 #[ptrV p] W (Told (.ok b R2) W p)):=zb (fun W h=>by
       have:=HSk.out S1 W h (by rw[hr];exact fun h=>by cases h)
       rwa [hr] at this)
      clear hr
      refine yg 7 (fun W=>W.cell? ⟨bp,0,none⟩=some (.int .i64 x.hd.kind)∧W.cell? ⟨bp,1,none⟩=some (.int .i64 x.hd.pos)∧W.cell? ⟨bp,2,none⟩=some (.string ⟨x.hd.name.toArray⟩)∧W.cell? ⟨bp,3,none⟩=some (.int .i64 x.hd.n)∧W.cell? ⟨bp,4,none⟩=some (.string ⟨x.hd.s.toArray⟩)∧W.cell? ⟨bp,5,none⟩=some (.slice s.la x.hd.labels.length s.lc)∧W.cell? ⟨bp,6,none⟩=some (.slice s.aa x.args.length s.ac)) (by kernel_rfl) (by kernel_rfl) (by go_keep) (fun hL inv hHeld=>?_)
      refine anyK_tk (v:=?_) 0 hL rfl inv (Or.inl ⟨by rfl,?_⟩) (fun inv=>?_)
      rotate_left
      · intro w hSw;(try dsimp only at hSw);go_simp;try with_reducible rfl
      (try simp only[Act.put,zg,zh,zi])
      refine anyK_tk (v:=?_) 1 hL rfl inv (Or.inl ⟨by rfl,?_⟩) (fun inv=>?_)
      rotate_left
      · intro w hSw;(try dsimp only at hSw);go_simp;try with_reducible rfl
      (try simp only[Act.put,zg,zh,zi])
      refine anyK_tk (v:=?_) 2 hL rfl inv (Or.inl ⟨by rfl,?_⟩) (fun inv=>?_)
      rotate_left
      · intro w hSw;(try dsimp only at hSw);go_simp;try with_reducible rfl
      (try simp only[Act.put,zg,zh,zi])
      refine yb (i:=3) (by kernel_rfl) (by kernel_rfl) rfl inv (fun K hK=>?_)
      go_simp
      go_at_call 47
      refine(HSC.out _ HKd.out.at_).mono ?_
      rintro e Wy ⟨sy,rfl,ha,hk⟩
      have HAb:Hid (IsE Wy (fun g=>w.heap.size≤g∧some g≠(Value.slice a0 l.length c0).ownBlock) (exL b sy) b):=zb (ha.wide fun g hg=>⟨Nat.le_trans HKd.out.size hg,(HG.out.below (xe L l) (zm _)).new hg⟩)
      replace HA:=zb ((HA.out.below (zm _)).keep hk (fun g hg=>by have:=HLT.out;have:=hg.1;omega))
      replace HG:=zb ((HG.out.below (xe L l) (zm _)).keep (xe L l) hk HLT.out)
      replace HB:=zb ((HB.out.below (zm _)).keep hk HBN.out.2.1)
      replace HK:=zb (HKd.out.trans hk)
      clear HKd k0 k1 k2 k3 k4 k5 k6 kl ha hk
      obtain⟨k0,k1,k2,k3,k4,k5,k6,_⟩:=Box7.cells HB.out
      have kl:=HB.out.lt
      unfold exOf exV
      refine hK.out _ _ ⟨k0,k1,k2,k3,k4,k5,k6⟩ (fun hHeld inv=>?_)
      clear hK K
      (try simp only[Act.put,zg,zh,zi])
      refine anyK_tk (v:=?_) 4 hL rfl inv (Or.inl ⟨by rfl,?_⟩) (fun inv=>?_)
      rotate_left
      · intro w hSw;(try dsimp only at hSw);go_simp;try with_reducible rfl
      (try simp only[Act.put,zg,zh,zi])
      refine yb (i:=5) (by kernel_rfl) (by kernel_rfl) rfl inv (fun K hK=>?_)
      go_simp
      have hsrc:=ar_cells Wy x s b sy
      have hbw:Below Wy.heap.size Wy (Wy.alloc (arObj x s b sy)):=zj _
      unfold arObj at hsrc hbw
      generalize hw3:Wy.alloc _=w4 at *
      replace HG:=zb (HG.out.below (xe L l) hbw)
      replace HK:=zb (HK.out.below hbw)
      replace HA:=zb (HA.out.below hbw)
      replace HAb:=zb (HAb.out.below hbw)
      replace HB:=zb (HB.out.below hbw)
      have hsz:w4.heap.size=Wy.heap.size+1:=by rw[← hw3,World.size_alloc]
      clear hw3 hbw k0 k1 k2 k3 k4 k5 k6 kl hHeld
      obtain⟨k0,k1,k2,k3,k4,k5,k6,_⟩:=Box7.cells HB.out
      have kl:=HB.out.lt
      refine hK.out _ _ ⟨k0,k1,k2,k3,k4,k5,k6⟩ (fun hHeld inv=>?_)
      clear hK K
      (try simp only[Act.put,zg,zh,zi])
      refine yb (i:=6) (by kernel_rfl) (by kernel_rfl) rfl inv (fun K hK=>?_)
      refine sD rfl (.tmp 10) (.tmp 15) 25 rfl w.heap.size 46 i0 _ 15 232 Tryz.underlying25 hi0 hz0 hz1 hz2 rfl (by decide) _ _ _ rfl HG.out.own (some ⟨Wy.heap.size,0,none⟩) 1 1 (paL x s++exL b sy) rfl rfl ⟨_,rfl,hsrc⟩ (ar_one x s b sy) ?_ ?_ (by have:=HK.out.size;omega) ?_
      · have:=HLL.out;have:=HTL.out;unfold maxLen;omega
      · have:=HLL.out;have:=HTL.out;omega
      intro v1 w5 hown1 hgr1 hnn1 hat1
      have HG2:Hid (GRow w.heap.size 46 15 w5 v1 (l.length+1) (L++[paL x s++exL b sy]).flatten (fun W N=>IsAs W N (L++[paL x s++exL b sy]) (l++[(x,b)]))):=zb (by
       have h:=HG.out.push (Is':=fun W N=>IsAs W N (L++[paL x s++exL b sy]) (l++[(x,b)])) hown1 hgr1 hat1 (fun h=>IsAs.append h ⟨⟨paL x s,exL b sy,rfl,HA.out,HAb.out⟩,trivial⟩) (xe _ _)
       rwa [List.flatten_append,List.flatten_singleton])
      have HK2:=zb (HG.out.keeps HK.out (Nat.le_refl _) HLT.out hgr1).1
      have HB2:Hid (PaBox w5 bp x s):=zb ((hgr1.block bp kl HBN.out.2.2).trans HB.out)
      obtain⟨a1,c1,rfl⟩:=HG2.out.form
      clear hown1 hgr1 hnn1 hat1 hsrc HG HK HA HAb HB k0 k1 k2 k3 k4 k5 k6 kl hHeld hsz
      obtain⟨k0,k1,k2,k3,k4,k5,k6,_⟩:=Box7.cells HB2.out
      refine hK.out _ _ ⟨k0,k1,k2,k3,k4,k5,k6⟩ (fun hHeld inv=>?_)
      clear hK K
      (try simp only[Act.put,zg,zh,zi])
      refine yw (by kernel_rfl) rfl (by kernel_rfl) (fun K hK=>?_)
      go_simp
      refine hK.out _ _ ?_
      clear hK K inv hHeld hL k0 k1 k2 k3 k4 k5 k6 HB2
      obtain⟨t2,S2,rfl⟩:=HK2.out.at_.row.cons
      simp only[exec] at HR
      have HAC:=zb (fun W b h hb=>zE p t2 S2 [sBar,sEnd] _ _ rfl rfl (by decide) W b h hb)
      have htf:=ud t2.1.kind (t2.2:Nat) t2.1.n ⟨t2.1.text.toArray⟩
      go_wp2_with fail
      refine(HAC.out _ _ HK2.out.at_ (by simp)).mono ?_
      rintro e W3 (⟨hy,rfl,hp2,hg2⟩ | ⟨hy,rfl,hb2⟩)
      · rw[hy,if_pos rfl] at HR
        have hk2:=Keep.mk hp2 hg2
        replace HG2:=zb (HG2.out.keep (xe _ _) hk2 HLT.out)
        replace HK2:=zb (HK2.out.trans hk2)
        clear hp2 hg2 hk2 HAC hy
        unfold tokVal tokAgg
        by_cases hx:t2.1.text=sEnd
        · rw[if_pos hx] at HR
          have BE:(t2.1.text == [101,110,100])=true:=by rw[hx];rfl
          clear hx
          go_wp2_with fail
          go_ret
          rw[HR.out]
          refine⟨a1,c1,by rw[show(bag [] [] (l++[(x,b)])).arms=l++[(x,b)] from rfl,List.length_append];rfl,⟨L++[paL x s++exL b sy],?_,?_⟩,HK2.out⟩
          · rw[show(bag [] [] (l++[(x,b)])).arms=l++[(x,b)] from rfl,List.length_append];exact HG2.out.rowIn
          · exact HG2.out.all (xe _ _)
        · rw[if_neg hx] at HR
          have BE:(t2.1.text == [101,110,100])=false:=beq_eq_false_iff_ne.2 hx
          clear hx
          have HM3:=zb HK2.out.at_.len
          go_wp2_with fail
          go_roundw
          case rel=>exact⟨l++[(x,b)],L++[paL x s++exL b sy],S2,_,rfl,zb (by have:=HLL.out;have:=HM1.out;have:=HM2.out;simp only[List.length_append,List.length_cons,List.length_nil] at *;omega),by rw[List.length_append];exact HG2,HK2,zb ⟨k,by omega,by rw[HR.out];exact exec_call _ _ _⟩⟩
          case measure=>rw[HM3.out,HM.out];have:=HM1.out;have:=HM2.out;simp only[List.length_cons] at *;omega
      · rw[hy,if_neg (by decide)] at HR
        have HGR:=zb (zr HK2.out.grown hb2)
        clear hb2 HAC
        unfold faultV
        go_wp2_with fail
        exact⟨rfl,by rw[HR.out];exact⟨t2,S2,rfl,rfl,HGR.out⟩⟩
   · rw[hy,if_neg (by decide)] at HR
     have HGR:=zb (zr HK.out.grown hb2)
     clear hb2 HAC
     unfold faultV
     go_wp2_with fail
     exact⟨rfl,by rw[HR.out];exact⟨t1,S1,rfl,rfl,HGR.out⟩⟩
