/-
  The document's own comparison of two rows of texts: the walk.
-/
import Derived.Test.YtigbapkdpaahjaaGreatDoorGPure
import Derived.Test.YtigbapkdpaahjaaGreatDoorGNode
import Derived.StillTailTactics
namespace Go.Proofs.YtigbapkdpaahjaaGreatDoor
set_option linter.unusedSimpArgs false
set_option linter.unusedVariables false
set_option maxRecDepth 100000
set_option maxHeartbeats 4000000
section
open Go.RowKit
theorem strs_at {w:World} {N:Nat→Prop} {v:Value} {l:List (List UInt8)} (h:RowIn w N 9 1 v l.length (strCells l)):∃ A c,v=.slice A l.length c∧l.length≤c∧l.length≤9223372036854775807∧∀(i:Nat) (x:List UInt8),l[i]? = some x→∃ g o,A=some ⟨g,o,none⟩∧g<w.heap.size∧w.cell? ⟨g,o+i,none⟩=some (.string ⟨x.toArray⟩):=by
 obtain⟨⟨a,c,rfl,hc,h1⟩,h2⟩:=h
 refine⟨a,c,rfl,hc,h2,fun i x hx=>?_⟩
 rcases h1 with h1 | ⟨g,o,rfl,_,hg,hc⟩
 · have:=(List.getElem?_eq_some_iff.1 hx).1
   omega
 · refine⟨g,o,rfl,hg.lt,hc i _ ?_⟩
   unfold strCells
   rw[List.getElem?_map,hx]
   rfl
def YesDrawn (b:Bool) (w:World) (e:Ending) (w':World):Prop:=e=.returned (.bool b)∧∃ m,w'=w.drewN m
theorem yJ (w:World):∀ m,Below w.heap.size w (w.drewN m)
 | 0=>⟨rfl,rfl,rfl,Nat.le_refl _,fun _ _=>rfl⟩
 | _+1=>⟨rfl,rfl,rfl,Nat.le_refl _,fun _ _=>rfl⟩
theorem zeY (va vb:Value) (l m:List (List UInt8)) (M N:Nat→Prop) (w:World) (ha:RowIn w M 9 1 va l.length (strCells l)) (hb:RowIn w N 9 1 vb m.length (strCells m)):Calls Tryz.prog 30 #[va,vb] w (YesDrawn (decide (l=m)) w):=by
 obtain⟨Ax,cx,rfl,hcx,hlx,hvx⟩:=strs_at ha
 obtain⟨Az,cz,rfl,hcz,hlz,hvz⟩:=strs_at hb
 have HVX:=zb hvx
 have HVZ:=zb hvz
 clear hvx hvz ha hb
 by_cases hn:l.length=m.length
 · have HG:=zb (fun (i:Nat) (h:i<l.length)=>(show ∃ t u:List UInt8,l[i]? = some t∧m[i]? = some u from⟨l[i],m[i]'(by omega),List.getElem?_eq_getElem h,List.getElem?_eq_getElem _⟩))
   have HEQ:Hid ((∀(i:Nat),i<l.length→l[i]? = m[i]?)→l=m):=zb (fun h=>List.ext_getElem? fun i=>by
    by_cases hi:i<l.length
    · exact h i hi
    · rw[List.getElem?_eq_none (by omega),List.getElem?_eq_none (by omega)])
   have A1:((l.length:Int) != (l.length:Int))=false:=by simp
   have A2:(l.length != l.length)=false:=by simp
   rw[← hn] at hlz hcz ⊢
   clear hn hcx hcz hlz
   obtain⟨bb,HB⟩:∃ b,Hid (decide (l=m)=b):=⟨_,zb rfl⟩
   rw[HB.out]
   generalize l.length=nx at *
   go_enter Tryz.func30, Tryz.ntmps30
   go_upto_region 3 with fail
   clear A1 A2
   go_wp2_with fail
   go_loopw [5] (fun vk w8=>∃ k n:Nat,k≤nx∧vk=.int .i64 k∧w8=w.drewN n∧Hid (∀ i,i<k→l[i]? = m[i]?)) (fun vk _=>nx-(intOf vk).toNat)
   case atStart=>exact⟨0,0,by omega,by go_num,rfl,zb (fun i hi=>absurd hi (by omega))⟩
   case round =>
    obtain⟨k,n,hk,rfl,rfl,HV⟩:=hrel
    by_cases hk2:k<nx
    · obtain⟨tx,tz,hx1,hz1⟩:=HG.out k hk2
      have h2:decide ((k:Int)<(nx:Int))=true:=decide_eq_true (by omega)
      have h3:(k:Int)<(nx:Int):=by omega
      have h4:(0:Int)≤(k:Int):=by omega
      have E4:IntKind.i64.wrap (k:Int)=(k:Int):=by rw[IntKind.wrap_i64];omega
      have E5:IntKind.i64.wrap ((k:Int)+1)=(k:Int)+1:=by rw[IntKind.wrap_i64];omega
      obtain⟨gx,ox,rfl,xl,x0⟩:=HVX.out k _ hx1
      obtain⟨gz,oz,rfl,zl,z0⟩:=HVZ.out k _ hz1
      by_cases ht:tx=tz
      · subst ht
        have HN:Hid (∀ i,i<k+1→l[i]? = m[i]?):=zb (fun i hi=>by
         by_cases h:i<k
         · exact HV.out i h
         · obtain rfl:i=k:=by omega
           rw[hx1,hz1])
        clear hx1 hz1
        go_upto_region 6 with fail
        go_quiet (fail)
        clear x0 z0 xl zl
        go_wp2_with fail
        go_roundw
        case rel=>exact⟨k+1,_,by omega,by go_num,rfl,HN⟩
        case measure=>simp [intOf];omega
      · have HN:Hid (bb=false):=zb (by
         rw[← HB.out]
         refine decide_eq_false fun e=>ht ?_
         rw[e,hz1] at hx1
         exact(zc hx1).symm)
        have hq:(tx == tz)=false:=beq_eq_false_iff_ne.2 ht
        clear hx1 hz1 ht
        go_upto_region 6 with fail
        go_quiet (fail)
        go_wp2_with fail
        go_ret
        exact⟨by rw[HN.out];rfl,_,by first | rfl | exact World.drewN_drewN _ _ _⟩
    · have h2:decide ((k:Int)<(nx:Int))=false:=decide_eq_false (by omega)
      have HN:Hid (bb=true):=zb (by
       rw[← HB.out]
       exact decide_eq_true (HEQ.out fun i hi=>HV.out i (by omega)))
      go_wp2_with fail
      go_ret
      exact⟨by rw[HN.out];rfl,_,rfl⟩
 · have A1:((l.length:Int) != (m.length:Int))=true:=by rw[bne_iff_ne];omega
   have A2:(l.length != m.length)=true:=by rw[bne_iff_ne];exact hn
   have HB:Hid (decide (l=m)=false):=zb (decide_eq_false fun e=>hn (by rw[e]))
   rw[HB.out]
   generalize l.length=nx at *
   generalize m.length=nz at *
   go_enter Tryz.func30, Tryz.ntmps30
   go_wp2_with fail
   go_ret
   exact⟨rfl,0,rfl⟩
end
section
open Go.RowKit
theorem sM {k:Nat}:∀{L:List (List Value)} {i j:Nat} {cs:List Value} {u:Value},(∀ c∈L,c.length=k)→L[i]? = some cs→cs[j]? = some u→L.flatten[i*k+j]? = some u
 | c::L,0,j,cs,u,hL,hi,hj=>by
  obtain rfl:=zc hi
  rw[List.flatten_cons,Nat.zero_mul,Nat.zero_add,List.getElem?_append_left (List.getElem?_eq_some_iff.1 hj).1]
  exact hj
 | c::L,i+1,j,cs,u,hL,hi,hj=>by
  have hc:=hL c (by simp)
  rw[List.flatten_cons,Nat.add_mul,Nat.one_mul,List.getElem?_append_right (by omega),show i*k+k+j-c.length=i*k+j by omega]
  exact sM (fun d hd=>hL d (by simp [hd])) (by simpa using hi) hj
 | [],_,_,_,_,_,hi,_=>by simp at hi
theorem zcC {w:World} {N:Nat→Prop}:∀{L:List (List Value)} {l:List Nd} {i:Nat} {a:Nd},IsPs w N L l→l[i]? = some a→∃ cs,L[i]? = some cs∧IsP w N cs a
 | cs::L,e::l,0,a,h,hi=>by
  obtain rfl:=zc hi
  exact⟨cs,rfl,h.1⟩
 | cs::L,e::l,i+1,a,h,hi=>by
  obtain⟨c,h1,h2⟩:=zcC (L:=L) (l:=l) (i:=i) h.2 (by simpa using hi)
  exact⟨c,by simpa using h1,h2⟩
 | [],_::_,_,_,h,_=>h.elim
 | [],[],_,_,_,hi=>by simp at hi
 | _::_,[],_,_,_,hi=>by simp at hi
theorem zc2 {w:World} {N:Nat→Prop}:∀{L:List (List Value)} {l:List Nd},IsPs w N L l→∀ c∈L,c.length=7
 | cs::L,e::l,h,c,hc=>by
  rcases List.mem_cons.1 hc with rfl | hc
  · exact h.1.len
  · exact zc2 h.2 c hc
 | [],_,_,_,hc=>by cases hc
 | _::_,[],h,_,_=>h.elim
theorem IsP.look {w:World} {N:Nat→Prop} {x:Nd} {s:Sl} (h:IsP w N (paL x s) x):x.arms=[]∧RowIn w N 9 1 (.slice s.la x.hd.labels.length s.lc) x.hd.labels.length (strCells x.hd.labels)∧x.args.length≤s.ac∧x.args.length≤9223372036854775807∧∀(i:Nat) (a:Nd),x.args[i]? = some a→∃ g o t,s.aa=some ⟨g,o,none⟩∧g<w.heap.size∧IsP w N (paL a t) a∧∀(j:Nat) (u:Value),(paL a t)[j]? = some u→w.cell? ⟨g,o+i*7+j,none⟩=some u:=by
 cases x with
 | mk hd l m =>
  obtain⟨h0,vl,va,he,h1,L,⟨⟨a,c,hv,hc,h2⟩,h3⟩,h4⟩:=h
  have e1:vl=.slice s.la hd.labels.length s.lc:=(zc (congrArg (fun l:List Value=>l[5]?) he)).symm
  have e2:va=.slice s.aa l.length s.ac:=(zc (congrArg (fun l:List Value=>l[6]?) he)).symm
  subst e1
  rw[e2] at hv
  obtain⟨rfl,_,rfl⟩:=Value.slice.inj hv
  refine⟨h0,h1,hc,h3,fun i a hi=>?_⟩
  rcases h2 with h2 | ⟨g,o,he2,_,hg,hcell⟩
  · have:=(List.getElem?_eq_some_iff.1 hi).1
    have h2:l.length=0:=h2
    have h5:i<l.length:=this
    omega
  · obtain⟨cs,k1,k2⟩:=zcC h4 hi
    have k3:∃ t,cs=paL a t:=by
     cases a with
     | mk hb lb mb =>
      obtain⟨_,ul,ua,rfl,⟨⟨a1,c1,rfl,_⟩,_⟩,_,⟨⟨a2,c2,rfl,_⟩,_⟩,_⟩:=k2
      exact⟨⟨a1,c1,a2,c2,none,0⟩,rfl⟩
    obtain⟨t,rfl⟩:=k3
    exact⟨g,o,t,he2,hg.lt,k2,fun j u hu=>by rw[Nat.add_assoc];exact hcell _ _ (sM (zc2 h4) k1 hu)⟩
theorem zaB (w:World) (x:Nd) (s:Sl):PaBox (w.alloc (.cells #[.int .i64 x.hd.kind,.int .i64 x.hd.pos,.string ⟨x.hd.name.toArray⟩,.int .i64 x.hd.n,.string ⟨x.hd.s.toArray⟩,.slice s.la x.hd.labels.length s.lc,.slice s.aa x.args.length s.ac] 39 (0,0))) w.heap.size x s:=zA w _ _ rfl
theorem qi (x y:Nd) (sx sy:Sl) (w:World) (hx:IsP w (fun _=>True) (paL x sx) x) (hy:IsP w (fun _=>True) (paL y sy) y)
 (hrec:∀ a∈x.args,∀(b:Nd) (sa sb:Sl) (W:World),IsP W (fun _=>True) (paL a sa) a→IsP W (fun _=>True) (paL b sb) b→Calls Tryz.prog 21 #[paOf a sa,paOf b sb,.bool false] W (YesMade (a.alike false b) W)) :
 Calls Tryz.prog 21 #[paOf x sx,paOf y sy,.bool false] w (YesMade (x.alike false y) w):=by
 have HX:=zb hx
 have HY:=zb hy
 have HREC:=zb hrec
 clear hx hy hrec
 obtain⟨bb,HBB⟩:∃ b,Hid (x.alike false y=b):=⟨_,zb rfl⟩
 rw[HBB.out]
 unfold paOf
 go_enter Tryz.func21, Tryz.ntmps21
 go_upto_region 1 with fail
 obtain⟨W0,hW0⟩:∃ W,(w.alloc (.cells #[.int .i64 x.hd.kind,.int .i64 x.hd.pos,.string ⟨x.hd.name.toArray⟩,.int .i64 x.hd.n,.string ⟨x.hd.s.toArray⟩,.slice sx.la x.hd.labels.length sx.lc,.slice sx.aa x.args.length sx.ac] 39 (0,0))).alloc (.cells #[.int .i64 y.hd.kind,.int .i64 y.hd.pos,.string ⟨y.hd.name.toArray⟩,.int .i64 y.hd.n,.string ⟨y.hd.s.toArray⟩,.slice sy.la y.hd.labels.length sy.lc,.slice sy.aa y.args.length sy.ac] 39 (0,0))=W:=⟨_,rfl⟩
 have HB0:Hid (Below w.heap.size w W0):=zb (by rw[← hW0];exact zB _ _)
 have HPX:Hid (PaBox W0 w.heap.size x sx):=zb (by rw[← hW0];exact((zj _).block _ (zp (zaB w x sx))).trans (zaB w x sx))
 have HPY:Hid (PaBox W0 (w.heap.size+1) y sy):=zb (by rw[← hW0];exact zA _ _ _ (by rw[World.size_alloc]))
 rw[hW0]
 clear hW0
 replace HX:=zb (HX.out.below HB0.out)
 replace HY:=zb (HY.out.below HB0.out)
 generalize hbx:w.heap.size=bx at HPX HPY ⊢
 generalize hby:bx+1=by' at HPX HPY ⊢
 clear hbx hby
 obtain⟨a0,a1,a2,a3,a4,a5,a6,af⟩:=Box7.cells HPX.out
 obtain⟨b0,b1,b2,b3,b4,b5,b6,bf⟩:=Box7.cells HPY.out
 have al:=HPX.out.lt
 have bl:=HPY.out.lt
 clear af bf
 have HTX:=zb (fun W (h:Below W0.heap.size W0 W)=>zeY _ _ x.hd.labels y.hd.labels _ _ W (HX.out.below h).look.2.1 (HY.out.below h).look.2.1)
 by_cases hkind:x.hd.kind=y.hd.kind
 · skip
   have qkind:(x.hd.kind == y.hd.kind)=true:=beq_iff_eq.2 hkind
   have pkind:(x.hd.kind != y.hd.kind)=false:=by rw[bne_eq_false_iff_eq];exact hkind
   by_cases hname:x.hd.name=y.hd.name
   · skip
     have qname:(x.hd.name == y.hd.name)=true:=beq_iff_eq.2 hname
     have pname:(x.hd.name != y.hd.name)=false:=by rw[bne_eq_false_iff_eq];exact hname
     by_cases hn:x.hd.n=y.hd.n
     · skip
       have qn:(x.hd.n == y.hd.n)=true:=beq_iff_eq.2 hn
       have pn:(x.hd.n != y.hd.n)=false:=by rw[bne_eq_false_iff_eq];exact hn
       by_cases hs:x.hd.s=y.hd.s
       · skip
         have qs:(x.hd.s == y.hd.s)=true:=beq_iff_eq.2 hs
         have ps:(x.hd.s != y.hd.s)=false:=by rw[bne_eq_false_iff_eq];exact hs
         by_cases hlab:x.hd.labels=y.hd.labels
         · skip
           replace HTX:Hid (∀ W,Below W0.heap.size W0 W→Calls Tryz.prog 30 #[.slice sx.la x.hd.labels.length sx.lc,.slice sy.la y.hd.labels.length sy.lc] W (YesDrawn true W)):=zb (fun W h=>by have h9:=HTX.out W h;rwa [decide_eq_true hlab] at h9)
           by_cases hargs:x.args.length=y.args.length
           · skip
             have qargs:((x.args.length:Int) != (y.args.length:Int))=false:=by rw[bne_eq_false_iff_eq];omega
             have rargs:(x.args.length != y.args.length)=false:=by rw[bne_eq_false_iff_eq];omega
             have HHD:Hid (x.hd.alike false y.hd=true):=zb (by simp [Hd.alike,hkind,hname,hn,hs,hlab])
             have HLA:Hid (x.args.length=y.args.length):=zb hargs
             clear hkind hname hn hs hlab hargs
             go_wp2_with fail
             refine(HTX.out _ (Below.refl _ _)).mono ?_
             rintro e w' ⟨rfl,nq,rfl⟩
             go_upto_region 3 with fail
             clear HTX qkind qname qn qs qargs pkind pname pn ps rargs
             obtain⟨W1,hW1⟩:∃ W,W0.drewN nq=W:=⟨_,rfl⟩
             have hb1:Below W0.heap.size W0 W1:=by rw[← hW1];exact yJ _ _
             rw[hW1]
             clear hW1
             replace HX:=zb (HX.out.below hb1)
             replace HY:=zb (HY.out.below hb1)
             replace HPX:=zb (Box7.below HPX.out hb1)
             replace HPY:=zb (Box7.below HPY.out hb1)
             replace HB0:=zb (HB0.out.trans (hb1.mono HB0.out.size))
             clear hb1 a0 b0 a1 b1 a2 b2 a3 b3 a4 b4 a5 b5 a6 b6 al bl
             have HZ:=zb (Below.refl W1.heap.size W1)
             have HG:Hid (∀ i,i<x.args.length→∃ a b,x.args[i]? = some a∧y.args[i]? = some b):=zb (fun i h=>⟨x.args[i],y.args[i]'(by have:=HLA.out;omega),List.getElem?_eq_getElem h,List.getElem?_eq_getElem _⟩)
             have HLE:Hid (x.args.length≤9223372036854775807):=zb HX.out.look.2.2.2.1
             go_wp2_with fail
             go_loopw [7] (fun vk wr=>∃ k:Nat,k≤x.args.length∧vk=.int .i64 k∧Hid (Below W1.heap.size W1 wr)∧Hid (∀(i:Nat) (a b:Nd),i<k→x.args[i]? = some a→y.args[i]? = some b→a.alike false b=true)) (fun vk _=>x.args.length-(intOf vk).toNat)
             case atStart=>exact⟨0,Nat.zero_le _,by go_num,HZ,zb (fun i a b h=>absurd h (by omega))⟩
             case round =>
              obtain⟨k,hk,rfl,HV,HL⟩:=hrel
              clear HZ
              obtain⟨a0,a1,a2,a3,a4,a5,a6,af⟩:=Box7.cells (Box7.below HPX.out HV.out)
              clear af
              obtain⟨b0,b1,b2,b3,b4,b5,b6,bf⟩:=Box7.cells (Box7.below HPY.out HV.out)
              clear bf
              have al:=Box7.lt (Box7.below HPX.out HV.out)
              have bl:=Box7.lt (Box7.below HPY.out HV.out)
              by_cases hk2:k<x.args.length
              · obtain⟨ca,cb,hca,hcb⟩:=HG.out k hk2
                have h2:decide ((k:Int)<(x.args.length:Int))=true:=decide_eq_true (by omega)
                have h3:(k:Int)<(x.args.length:Int):=by omega
                have h4:(0:Int)≤(k:Int):=by omega
                have E5:IntKind.i64.wrap ((k:Int)+1)=(k:Int)+1:=by rw[IntKind.wrap_i64];have:=HLE.out;omega
                have h6:(k:Int)<(y.args.length:Int):=by have:=HLA.out;omega
                obtain⟨g1,o1,t1,e1,l1,i1,c1⟩:=(HX.out.below HV.out).look.2.2.2.2 k ca hca
                obtain⟨g2,o2,t2,e2,l2,i2,c2⟩:=(HY.out.below HV.out).look.2.2.2.2 k cb hcb
                rw[e1] at a6
                rw[e2] at b6
                have x0:=c1 0 _ rfl
                have y0:=c2 0 _ rfl
                have x1:=c1 1 _ rfl
                have y1:=c2 1 _ rfl
                have x2:=c1 2 _ rfl
                have y2:=c2 2 _ rfl
                have x3:=c1 3 _ rfl
                have y3:=c2 3 _ rfl
                have x4:=c1 4 _ rfl
                have y4:=c2 4 _ rfl
                have x5:=c1 5 _ rfl
                have y5:=c2 5 _ rfl
                have x6:=c1 6 _ rfl
                have y6:=c2 6 _ rfl
                rw[Nat.add_zero] at x0 y0
                have HCALL:Hid (∀ W,Below wr.heap.size wr W→Calls Tryz.prog 21 #[paOf ca t1,paOf cb t2,.bool false] W (YesMade (ca.alike false cb) W)):=zb (fun W h=>HREC.out ca (List.mem_of_getElem? hca) cb t1 t2 W (i1.below h) (i2.below h))
                have HLN:Hid (ca.alike false cb=true→∀(i:Nat) (a b:Nd),i<k+1→x.args[i]? = some a→y.args[i]? = some b→a.alike false b=true):=zb (fun hc i a b hi ha hb=>by
                 by_cases h:i<k
                 · exact HL.out i a b h ha hb
                 · obtain rfl:i=k:=by omega
                   rw[hca] at ha
                   rw[hcb] at hb
                   obtain rfl:=zc ha
                   obtain rfl:=zc hb
                   exact hc)
                have HNO:Hid (ca.alike false cb=false→bb=false):=zb (fun hc=>by rw[← HBB.out,zS,uz hca hcb hc];simp)
                clear c1 c2 e1 e2 i1 i2 hca hcb HL
                obtain⟨rb,hrb⟩:∃ rb,ca.alike false cb=rb:=⟨_,rfl⟩
                rw[hrb] at HCALL HLN HNO
                clear hrb
                unfold paOf at HCALL
                go_upto_region 6 with fail
                clear h2
                go_still_tail 11,(by kernel_rfl)
                change wpList _ _ _ _ _ wr.drew
                have hdr:=zm wr
                have HDR:=zb hdr
                clear hdr x0 y0 x1 y1 x2 y2 x3 y3 x4 y4 x5 y5 x6 y6 l1 l2 a0 b0 a1 b1 a2 b2 a3 b3 a4 b4 a5 b5 a6 b6 al bl h3 h4 h6
                generalize wr.drew=w5 at *
                go_wp2_with fail
                refine(HCALL.out _ HDR.out).mono ?_
                rintro e w6 ⟨rfl,hb6⟩
                have HVN:=zb (HV.out.trans ((HDR.out.trans (hb6.mono HDR.out.size)).mono HV.out.size))
                clear hb6 HCALL HDR
                cases rb with
                | true =>
                 go_wp2_with fail
                 go_roundw
                 case rel=>exact⟨k+1,by omega,by go_num,HVN,zb (HLN.out (by simp))⟩
                 case measure=>simp [intOf];omega
                | false =>
                 go_wp2_with fail
                 go_ret
                 exact⟨by rw[HNO.out (by simp)];rfl,HB0.out.trans (HVN.out.mono HB0.out.size)⟩
              · have h2:decide ((k:Int)<(x.args.length:Int))=false:=decide_eq_false (by omega)
                have HN:Hid (bb=true):=zb (by
                 rw[← HBB.out,zS,HHD.out,uG HLA.out (fun i a b ha hb=>HL.out i a b (by have:=(List.getElem?_eq_some_iff.1 ha).1;omega) ha hb),HX.out.look.1,HY.out.look.1]
                 rfl)
                have HBN:=zb (HB0.out.trans (HV.out.mono HB0.out.size))
                clear HL HG
                go_wp2_with fail
                go_ret
                exact⟨by rw[HN.out];rfl,HBN.out⟩
           · skip
             have HN:Hid (bb=false):=zb (by rw[← HBB.out,zS];rw[ux hargs];simp)
             have qargs:((x.args.length:Int) != (y.args.length:Int))=true:=by rw[bne_iff_ne];omega
             have rargs:(x.args.length != y.args.length)=true:=by rw[bne_iff_ne];omega
             clear hkind hname hn hs hlab hargs
             go_wp2_with fail
             refine(HTX.out _ (Below.refl _ _)).mono ?_
             rintro e w' ⟨rfl,nq,rfl⟩
             go_wp2_with fail
             go_ret
             exact⟨by rw[HN.out];rfl,HB0.out.trans ((yJ _ _).mono HB0.out.size)⟩
         · skip
           have HN:Hid (bb=false):=zb (by rw[← HBB.out,zS];simp [Hd.alike,hlab])
           replace HTX:Hid (∀ W,Below W0.heap.size W0 W→Calls Tryz.prog 30 #[.slice sx.la x.hd.labels.length sx.lc,.slice sy.la y.hd.labels.length sy.lc] W (YesDrawn false W)):=zb (fun W h=>by have h9:=HTX.out W h;rwa [decide_eq_false hlab] at h9)
           clear hkind hname hn hs hlab
           go_wp2_with fail
           refine(HTX.out _ (Below.refl _ _)).mono ?_
           rintro e w' ⟨rfl,nq,rfl⟩
           go_wp2_with fail
           go_ret
           exact⟨by rw[HN.out];rfl,HB0.out.trans ((yJ _ _).mono HB0.out.size)⟩
       · skip
         have HN:Hid (bb=false):=zb (by rw[← HBB.out,zS];simp [Hd.alike,hs])
         have qs:(x.hd.s == y.hd.s)=false:=beq_eq_false_iff_ne.2 hs
         have ps:(x.hd.s != y.hd.s)=true:=bne_iff_ne.2 hs
         clear hkind hname hn hs
         go_wp2_with fail
         go_ret
         exact⟨by rw[HN.out];rfl,HB0.out⟩
     · skip
       have HN:Hid (bb=false):=zb (by rw[← HBB.out,zS];simp [Hd.alike,hn])
       have qn:(x.hd.n == y.hd.n)=false:=beq_eq_false_iff_ne.2 hn
       have pn:(x.hd.n != y.hd.n)=true:=bne_iff_ne.2 hn
       clear hkind hname hn
       go_wp2_with fail
       go_ret
       exact⟨by rw[HN.out];rfl,HB0.out⟩
   · skip
     have HN:Hid (bb=false):=zb (by rw[← HBB.out,zS];simp [Hd.alike,hname])
     have qname:(x.hd.name == y.hd.name)=false:=beq_eq_false_iff_ne.2 hname
     have pname:(x.hd.name != y.hd.name)=true:=bne_iff_ne.2 hname
     clear hkind hname
     go_wp2_with fail
     go_ret
     exact⟨by rw[HN.out];rfl,HB0.out⟩
 · skip
   have HN:Hid (bb=false):=zb (by rw[← HBB.out,zS];simp [Hd.alike,hkind])
   have qkind:(x.hd.kind == y.hd.kind)=false:=beq_eq_false_iff_ne.2 hkind
   have pkind:(x.hd.kind != y.hd.kind)=true:=bne_iff_ne.2 hkind
   clear hkind
   go_wp2_with fail
   go_ret
   exact⟨by rw[HN.out];rfl,HB0.out⟩
theorem tI (_:Bool):∀(n:Nat) (x y:Nd) (sx sy:Sl) (w:World),x.size≤n→IsP w (fun _=>True) (paL x sx) x→IsP w (fun _=>True) (paL y sy) y→Calls Tryz.prog 21 #[paOf x sx,paOf y sy,.bool false] w (YesMade (x.alike false y) w)
 | 0,x,_,_,_,_,h,_,_=>absurd h (by cases x;show ¬(1+_+_≤0);omega)
 | n+1,x,y,sx,sy,w,h,hx,hy=>qi x y sx sy w hx hy fun a ha b sa sb W h1 h2=>tI false n a b sa sb W (by have:=xO ha;omega) h1 h2
end
section
open Go.RowKit
theorem zcW {w:World} {N:Nat→Prop}:∀{L:List (List Value)} {l:List Nd} {i:Nat} {a:Nd},IsEs w N L l→l[i]? = some a→∃ cs,L[i]? = some cs∧IsE w N cs a
 | cs::L,e::l,0,a,h,hi=>by
  obtain rfl:=zc hi
  exact⟨cs,rfl,h.1⟩
 | cs::L,e::l,i+1,a,h,hi=>by
  obtain⟨c,h1,h2⟩:=zcW (L:=L) (l:=l) (i:=i) h.2 (by simpa using hi)
  exact⟨c,by simpa using h1,h2⟩
 | [],_::_,_,_,h,_=>h.elim
 | [],[],_,_,_,hi=>by simp at hi
 | _::_,[],_,_,_,hi=>by simp at hi
theorem zcs {w:World} {N:Nat→Prop}:∀{L:List (List Value)} {l:List Nd},IsEs w N L l→∀ c∈L,c.length=8
 | cs::L,e::l,h,c,hc=>by
  rcases List.mem_cons.1 hc with rfl | hc
  · exact h.1.len
  · exact zcs h.2 c hc
 | [],_,_,_,hc=>by cases hc
 | _::_,[],h,_,_=>h.elim
theorem zc3 {w:World} {N:Nat→Prop}:∀{L:List (List Value)} {l:List (Nd×Nd)} {i:Nat} {a:Nd×Nd},IsAs w N L l→l[i]? = some a→∃ c1 c2,L[i]? = some (c1++c2)∧IsP w N c1 a.1∧IsE w N c2 a.2
 | cs::L,(p,b)::l,0,a,h,hi=>by
  obtain rfl:=zc hi
  obtain⟨⟨c1,c2,rfl,h1,h2⟩,_⟩:=h
  exact⟨c1,c2,rfl,h1,h2⟩
 | cs::L,(p,b)::l,i+1,a,h,hi=>by
  obtain⟨c1,c2,h1,h2⟩:=zc3 (L:=L) (l:=l) (i:=i) h.2 (by simpa using hi)
  exact⟨c1,c2,by simpa using h1,h2⟩
 | [],(_,_)::_,_,_,h,_=>h.elim
 | [],[],_,_,_,hi=>by simp at hi
 | _::_,[],_,_,_,hi=>by simp at hi
theorem zcK {w:World} {N:Nat→Prop}:∀{L:List (List Value)} {l:List (Nd×Nd)},IsAs w N L l→∀ c∈L,c.length=15
 | cs::L,(p,b)::l,h,c,hc=>by
  obtain⟨⟨c1,c2,rfl,h1,h2⟩,h3⟩:=h
  rcases List.mem_cons.1 hc with rfl | hc
  · rw[List.length_append,h1.len,h2.len]
  · exact zcK h3 c hc
 | [],_,_,_,hc=>by cases hc
 | _::_,[],h,_,_=>h.elim
theorem isP_form {w:World} {N:Nat→Prop} {cs:List Value} {a:Nd} (h:IsP w N cs a):∃ t,cs=paL a t:=by
 cases a with
 | mk hb lb mb =>
  obtain⟨_,ul,ua,rfl,⟨⟨a1,c1,rfl,_⟩,_⟩,_,⟨⟨a2,c2,rfl,_⟩,_⟩,_⟩:=h
  exact⟨⟨a1,c1,a2,c2,none,0⟩,rfl⟩
theorem IsE.look {w:World} {N:Nat→Prop} {x:Nd} {s:Sl} (h:IsE w N (exL x s) x):RowIn w N 9 1 (.slice s.la x.hd.labels.length s.lc) x.hd.labels.length (strCells x.hd.labels)∧x.args.length≤s.ac∧x.args.length≤9223372036854775807∧x.arms.length≤9223372036854775807 ∧
 (∀(i:Nat) (a:Nd),x.args[i]? = some a→∃ g o t,s.aa=some ⟨g,o,none⟩∧g<w.heap.size∧IsE w N (exL a t) a∧∀(j:Nat) (u:Value),(exL a t)[j]? = some u→w.cell? ⟨g,o+i*8+j,none⟩=some u) ∧
 (∀(i:Nat) (a:Nd×Nd),x.arms[i]? = some a→∃ g o t r,s.ra=some ⟨g,o,none⟩∧g<w.heap.size∧IsP w N (paL a.1 t) a.1∧IsE w N (exL a.2 r) a.2∧∀(j:Nat) (u:Value),(paL a.1 t++exL a.2 r)[j]? = some u→w.cell? ⟨g,o+i*15+j,none⟩=some u):=by
 cases x with
 | mk hd l m =>
  obtain⟨vl,va,vr,he,h1,⟨L,⟨⟨a,c,hv,hc,h2⟩,h3⟩,h4⟩,M,⟨⟨a',c',hv',hc',h2'⟩,h3'⟩,h4'⟩:=h
  have e1:vl=.slice s.la hd.labels.length s.lc:=(zc (congrArg (fun l:List Value=>l[5]?) he)).symm
  have e2:va=.slice s.aa l.length s.ac:=(zc (congrArg (fun l:List Value=>l[6]?) he)).symm
  have e3:vr=.slice s.ra m.length s.rc:=(zc (congrArg (fun l:List Value=>l[7]?) he)).symm
  subst e1
  rw[e2] at hv
  rw[e3] at hv'
  obtain⟨rfl,_,rfl⟩:=Value.slice.inj hv
  obtain⟨rfl,_,rfl⟩:=Value.slice.inj hv'
  refine⟨h1,hc,h3,h3',fun i a hi=>?_,fun i a hi=>?_⟩
  · rcases h2 with h2 | ⟨g,o,he2,_,hg,hcell⟩
    · have:=(List.getElem?_eq_some_iff.1 hi).1
      have h2:l.length=0:=h2
      have h5:i<l.length:=this
      omega
    · obtain⟨cs,k1,k2⟩:=zcW h4 hi
      obtain⟨t,rfl⟩:=k2.form
      exact⟨g,o,t,he2,hg.lt,k2,fun j u hu=>by rw[Nat.add_assoc];exact hcell _ _ (sM (zcs h4) k1 hu)⟩
  · rcases h2' with h2 | ⟨g,o,he2,_,hg,hcell⟩
    · have:=(List.getElem?_eq_some_iff.1 hi).1
      have h2:m.length=0:=h2
      have h5:i<m.length:=this
      omega
    · obtain⟨c1,c2,k1,k2,k3⟩:=zc3 h4' hi
      obtain⟨t,rfl⟩:=isP_form k2
      obtain⟨r,rfl⟩:=k3.form
      exact⟨g,o,t,r,he2,hg.lt,k2,k3,fun j u hu=>by rw[Nat.add_assoc];exact hcell _ _ (sM (zcK h4') k1 hu)⟩
end
