/-
  The walks of a group's calls: whether a child is left.
-/
import Derived.Test.YtblonfjlcfjodaaGreatDoorGNode
import Derived.IntWalk
import Derived.RangeFuncNested
import Derived.RangeFuncBound
import Derived.RangeFuncCalls
import Derived.RangeFuncLeaves
import Derived.RangeFuncFrom
import Derived.Shelf.Abstract
import Derived.Shelf.RegionOpen
import Derived.OwnWalkIn
import Derived.TacticsInMore
import Derived.LoopNIn
import Derived.LoopIn
import Derived.Maps.OwnIn
namespace Go.Proofs.YtblonfjlcfjodaaGreatDoor
set_option linter.unusedSimpArgs false
set_option linter.unusedVariables false
set_option maxRecDepth 100000
set_option maxHeartbeats 4000000
section
open Go.RowKit
theorem zM (k:Int) (h0:0<=k) (h1:k<=1000000):IntKind.i64.wrap k=k:=IntWalk.i64_in _ (by omega)
theorem zdO (b off:Nat) (a1 a2 a3:Option Addr) (n1 n2 n3 c1 c2 c3:Nat) (h1:n1<=100000) (h2:n2<=100000) (h3:n3<=100000) (w:World) (k1:w.cell? ⟨b,off,none⟩=some (.slice a1 n1 c1)) (k2:w.cell? ⟨b,off+1,none⟩=some (.slice a2 n2 c2)) (k3:w.cell? ⟨b,off+2,none⟩=some (.slice a3 n3 c3)) :
 Calls Tryz.prog 111 #[.pointer (some ⟨b,off,none⟩)] w (YesMade (decide (0<n1+n2+n3)) w):=by
 have e1:IntKind.i64.wrap ((n1:Int)+n2)=n1+n2:=zM _ (by omega) (by omega);have e2:IntKind.i64.wrap ((n1:Int)+n2+n3)=n1+n2+n3:=zM _ (by omega) (by omega);have HD:Hid (decide (0<n1+n2+n3)=decide ((0:Int)<(n1:Int)+n2+n3)):=zb (by
  rw[decide_eq_decide];omega)
 clear h1 h2 h3
 go_enter Tryz.func111, Tryz.ntmps111
 go_upto_region 1 with fail
 go_quiet (fail)
 go_wp2_with fail
 go_ret;exact⟨by rw[HD.out];rfl,⟨rfl,rfl,rfl,Nat.le_refl _,fun _ _=>rfl⟩⟩
def tailV (g o n c k:Nat):Value:=.slice (if c=1 then some ⟨g,o,none⟩ else some ⟨g,o+k,none⟩) n (c-1)
def NextP (w:World) (b off:Nat) (x:Nd) (s:Sl) (v:Value) (d:Nat) (e:Ending) (w':World):Prop :=
 e=.returned (.tuple #[.int .i64 x.hd.pos,.agg #[.slice s.aa x.args.length s.ac,.slice none 0 0,.slice none 0 0,.int .i64 ((d:Int)+1)]])/\Below w.heap.size (w.setCell ⟨b,off,none⟩ v) w'
theorem set_same {w w':World} {b off:Nat} {cs:Array Value} {ty:TypeId} {h:Nat×Nat} (h1:w.heap[b]? = some (.cells cs ty h)) (h2:w'.heap[b]? = w.heap[b]?) (v:Value):(w'.setCell ⟨b,off,none⟩ v).heap[b]? = (w.setCell ⟨b,off,none⟩ v).heap[b]? := by
 rw[zn h1,zn (h2.trans h1)]
theorem wL {w w':World} {b off:Nat} {cs:Array Value} {ty:TypeId} {h:Nat×Nat} (h1:w.heap[b]? = some (.cells cs ty h)) (hb:Below w.heap.size w w') (v:Value):Below w.heap.size (w.setCell ⟨b,off,none⟩ v) (w'.setCell ⟨b,off,none⟩ v):=by
 refine⟨hb.os,hb.tape,hb.output,by simpa using hb.size,fun i hi=>?_⟩;by_cases e:i=b
 . subst e;exact set_same h1 (hb.block _ hi) v
 . rw[Below.heap_setCell _ _ _ _ e,Below.heap_setCell _ _ _ _ e];exact hb.block i hi
abbrev zeroGrp:Obj:=.cells #[.slice none 0 0,.slice none 0 0,.slice none 0 0,.int .i64 0] 162 (0,0)
theorem zcT {w:World} {q:Nat} {u0 u1 u2 u3 v0 v1 v2 v3:Value} {ty:TypeId} (h:w.heap[q]? = some (.cells #[u0,u1,u2,u3] ty (0,0))):((((w.setCell ⟨q,0,none⟩ v0).setCell ⟨q,1,none⟩ v1).setCell ⟨q,2,none⟩ v2).setCell ⟨q,3,none⟩ v3).heap[q]? = some (.cells #[v0,v1,v2,v3] ty (0,0)):=by
 have h0:(w.setCell ⟨q,0,none⟩ v0).heap[q]? = some (.cells #[v0,u1,u2,u3] ty (0,0)):=zn h 0 v0;have h1:((w.setCell ⟨q,0,none⟩ v0).setCell ⟨q,1,none⟩ v1).heap[q]? = some (.cells #[v0,v1,u2,u3] ty (0,0)):=zn h0 1 v1;have h2:(((w.setCell ⟨q,0,none⟩ v0).setCell ⟨q,1,none⟩ v1).setCell ⟨q,2,none⟩ v2).heap[q]? = some (.cells #[v0,v1,v2,u3] ty (0,0)):=zn h1 2 v2;exact zn h2 3 v3
theorem qA {w w':World} {q n:Nat} {v0 v1 v2 v3:Value} (hb:Below n w w') (hn:n<=q):Below n w ((((w'.setCell ⟨q,0,none⟩ v0).setCell ⟨q,1,none⟩ v1).setCell ⟨q,2,none⟩ v2).setCell ⟨q,3,none⟩ v3):=(((hb.setCell (p:=⟨q,0,none⟩) hn _).setCell (p:=⟨q,1,none⟩) hn _).setCell (p:=⟨q,2,none⟩) hn _).setCell (p:=⟨q,3,none⟩) hn _
theorem zaV {w:World} {b off:Nat} {cs:Array Value} {ty:TypeId} (h1:w.heap[b]? = some (.cells cs ty (0,0))) (nq:Nat) (V u0 u1 u2 u3:Value) (o:Obj) :
 Below w.heap.size (w.setCell ⟨b,off,none⟩ V) ((((((((w.alloc zeroGrp).drewN nq).setCell ⟨b,off,none⟩ V).setCell ⟨w.heap.size,0,none⟩ u0).setCell ⟨w.heap.size,1,none⟩ u1).setCell ⟨w.heap.size,2,none⟩ u2).setCell ⟨w.heap.size,3,none⟩ u3).alloc o).drew /\
 ((((((((w.alloc zeroGrp).drewN nq).setCell ⟨b,off,none⟩ V).setCell ⟨w.heap.size,0,none⟩ u0).setCell ⟨w.heap.size,1,none⟩ u1).setCell ⟨w.heap.size,2,none⟩ u2).setCell ⟨w.heap.size,3,none⟩ u3).alloc o).drew.heap[w.heap.size]? = some (.cells #[u0,u1,u2,u3] 162 (0,0)):=by
 have hlt:b<w.heap.size:=zp h1;have hb:Below w.heap.size w ((w.alloc zeroGrp).drewN nq):=by
  have:=zj (w:=w) zeroGrp;exact⟨this.os,this.tape,this.output,this.size,this.block⟩
 have h2:=wL (off:=off) h1 hb V;have h3:(((w.alloc zeroGrp).drewN nq).setCell ⟨b,off,none⟩ V).heap[w.heap.size]? = some zeroGrp:=by
  rw[Below.heap_setCell _ _ _ _ (by show w.heap.size≠b;omega)];exact zA w _ _ rfl
 have h4:=zcT (v0:=u0) (v1:=u1) (v2:=u2) (v3:=u3) h3;refine⟨(qA h2 (Nat.le_refl _)).trans (((zj o).mono (by simp)).drew),?_⟩;exact((zj o).block _ (zp h4)).trans h4
theorem wY {fn:Func} {p q:Tmp} {ty:TypeId} (h:fn.results=#[.tmp p,.cell q ty]) (tmps:Array Value) (P:Program) (w:World) (a:Addr) (v:Value) (ha:tmps.getD q undef=.pointer (some a)) (hl:(loadVar ty a).run P w=.ok v w) :
 (results fn tmps).run P w=.ok (.tuple #[tmps.getD p undef,v]) w:=by
 have ha':tmps[q]?.getD undef=.pointer (some a):=by simpa using ha
 simp [results,h,Result.andThen,ha',asAddr,hl]
theorem tC {w:World} {q:Nat} {u0 u1 u2 u3:Value} (h:w.heap[q]? = some (.cells #[u0,u1,u2,u3] 162 (0,0))):(loadVar 162 ⟨q,0,none⟩).run Tryz.prog w=.ok (.agg #[u0,u1,u2,u3]) w:=by
 have c0:w.cell? ⟨q,0,none⟩=some u0:=by rw[zf h];rfl
 have c1:w.cell? ⟨q,1,none⟩=some u1:=by rw[zf h];rfl
 have c2:w.cell? ⟨q,2,none⟩=some u2:=by rw[zf h];rfl
 have c3:w.cell? ⟨q,3,none⟩=some u3:=by rw[zf h];rfl
 simp [go_sem,c0,c1,c2,c3]
theorem g_nextP (b off g o n c:Nat) (a2:Option Addr) (n2 c2 d:Nat) (x:Nd) (s:Sl) (h1:n+1<=100000) (hc:n+1<=c) (h2:n2<=100000) (hd:d<=100000) (w:World) (cs:Array Value) (ty:TypeId) (hB:w.heap[b]? = some (.cells cs ty (0,0))) (hg:g<w.heap.size) (k1:w.cell? ⟨b,off,none⟩=some (.slice (some ⟨g,o,none⟩) (n+1) c)) (k2:w.cell? ⟨b,off+1,none⟩=some (.slice a2 n2 c2)) (k4:w.cell? ⟨b,off+3,none⟩=some (.int .i64 (d:Nat)))
 (hx:∀ i u,(paL x s)[i]? = some u->w.cell? ⟨g,o+i,none⟩=some u) :
 Calls Tryz.prog 110 #[.pointer (some ⟨b,off,none⟩)] w (NextP w b off x s (tailV g o n c 7) d):=by
 have hb:b<w.heap.size:=zp hB;have hf:w.frozen? ⟨b,off,none⟩=false:=Lib.frozen_of_heap hB off;have HB:=zb hB;have x0:=hx 0 _ rfl;have x1:=hx 1 _ rfl;have x2:=hx 2 _ rfl;have x3:=hx 3 _ rfl;have x4:=hx 4 _ rfl;have x5:=hx 5 _ rfl;have x6:=hx 6 _ rfl;rw[Nat.add_zero] at x0;have e1:IntKind.i64.wrap ((n:Int)+1+n2)=n+1+n2:=zM _ (by omega) (by omega);have e2:IntKind.i64.wrap ((d:Int)+1)=d+1:=zM _ (by omega) (by omega);have e3:((n:Int)+1+n2 == 0)=false:=beq_eq_false_iff_ne.2 (by omega);have e4:(0:Int)<(n:Int)+1:=by omega
 obtain⟨aT,hT⟩:∃ aT,(if c=1 then some (⟨g,o,none⟩:Addr) else some ⟨g,o+7,none⟩)=some aT:=by split <;> exact⟨_,rfl⟩
 have HV:Hid (tailV g o n c 7=.slice (some aT) n (c-1)):=zb (by unfold tailV;rw[hT]);rw[HV.out];clear h1 h2 hd hx hB HV
 go_enter Tryz.func110, Tryz.ntmps110
 go_upto_region 1 with fail
 go_quiet (fail)
 go_upto_region 7 with fail
 go_region
 go_wp2_with fail
 have HD:=zaV (off:=off) HB.out nq (.slice (some aT) n (c-1)) (.slice s.aa x.args.length s.ac) (.slice none 0 0) (.slice none 0 0) (.int .i64 ((d:Int)+1)) (.cells #[.int .i64 x.hd.kind,.int .i64 x.hd.pos,.string ⟨x.hd.name.toArray⟩,.int .i64 x.hd.n,.string ⟨x.hd.s.toArray⟩,.slice s.la x.hd.labels.length s.lc,.slice s.aa x.args.length s.ac] 39 (0,0));generalize World.drew _=w9 at *;exact bodyPost_ret (wY rfl _ _ _ _ _ rfl (tC HD.2)) rfl ⟨rfl,HD.1⟩
def NextE (w:World) (b off:Nat) (x:Nd) (s:Sl) (v:Value) (d:Nat) (e:Ending) (w':World):Prop :=
 e=.returned (.tuple #[.int .i64 x.hd.pos,.agg #[.slice none 0 0,.slice s.aa x.args.length s.ac,.slice s.ra x.arms.length s.rc,.int .i64 ((d:Int)+1)]])/\Below w.heap.size (w.setCell ⟨b,off+1,none⟩ v) w'
theorem g_nextE (b off g o n c:Nat) (a1:Option Addr) (c1 d:Nat) (x:Nd) (s:Sl) (h1:n+1<=100000) (hc:n+1<=c) (hd:d<=100000) (w:World) (cs:Array Value) (ty:TypeId) (hB:w.heap[b]? = some (.cells cs ty (0,0))) (hg:g<w.heap.size) (k1:w.cell? ⟨b,off,none⟩=some (.slice a1 0 c1)) (k2:w.cell? ⟨b,off+1,none⟩=some (.slice (some ⟨g,o,none⟩) (n+1) c)) (k4:w.cell? ⟨b,off+3,none⟩=some (.int .i64 (d:Nat)))
 (hx:∀ i u,(exL x s)[i]? = some u->w.cell? ⟨g,o+i,none⟩=some u) :
 Calls Tryz.prog 110 #[.pointer (some ⟨b,off,none⟩)] w (NextE w b off x s (tailV g o n c 8) d):=by
 have hb:b<w.heap.size:=zp hB;have hf:w.frozen? ⟨b,off+1,none⟩=false:=Lib.frozen_of_heap hB (off+1);have HB:=zb hB;have x0:=hx 0 _ rfl;have x1:=hx 1 _ rfl;have x2:=hx 2 _ rfl;have x3:=hx 3 _ rfl;have x4:=hx 4 _ rfl;have x5:=hx 5 _ rfl;have x6:=hx 6 _ rfl;have x7:=hx 7 _ rfl;rw[Nat.add_zero] at x0;have e1:IntKind.i64.wrap ((0:Int)+((n:Int)+1))=n+1:=(zM _ (by omega) (by omega)).trans (by omega);have e2:IntKind.i64.wrap ((d:Int)+1)=d+1:=zM _ (by omega) (by omega);have e3:((n:Int)+1 == 0)=false:=beq_eq_false_iff_ne.2 (by omega);have e4:(0:Int)<(n:Int)+1:=by omega
 have e5:IntKind.i64.wrap ((n:Int)+1)=n+1:=zM _ (by omega) (by omega);obtain⟨aT,hT⟩:∃ aT,(if c=1 then some (⟨g,o,none⟩:Addr) else some ⟨g,o+8,none⟩)=some aT:=by split <;> exact⟨_,rfl⟩
 have HV:Hid (tailV g o n c 8=.slice (some aT) n (c-1)):=zb (by unfold tailV;rw[hT]);rw[HV.out];clear h1 hd hx hB HV
 go_enter Tryz.func110, Tryz.ntmps110
 go_upto_region 1 with fail
 go_quiet (fail)
 go_upto_region 10 with fail
 go_region
 go_wp2_with fail
 have HD:=zaV (off:=off+1) HB.out nq (.slice (some aT) n (c-1)) (.slice none 0 0) (.slice s.aa x.args.length s.ac) (.slice s.ra x.arms.length s.rc) (.int .i64 ((d:Int)+1)) (.cells #[.int .i64 x.hd.kind,.int .i64 x.hd.pos,.string ⟨x.hd.name.toArray⟩,.int .i64 x.hd.n,.string ⟨x.hd.s.toArray⟩,.slice s.la x.hd.labels.length s.lc,.slice s.aa x.args.length s.ac,.slice s.ra x.arms.length s.rc] 27 (0,0));generalize World.drew _=w9 at *;exact bodyPost_ret (wY rfl _ _ _ _ _ rfl (tC HD.2)) rfl ⟨rfl,HD.1⟩
def NextA (w:World) (b off:Nat) (x:Nd) (s:Sl) (y:Nd) (r:Sl) (v:Value) (d:Nat) (e:Ending) (w':World):Prop :=
 e=.returned (.tuple #[.int .i64 x.hd.pos,.agg #[.slice s.aa x.args.length s.ac,.slice none 0 0,.slice none 0 0,.int .i64 ((d:Int)+1)]])/\∃ gp ge,w.heap.size<=gp/\w.heap.size<=ge/\w'.heap[ge]? = some (.cells (exL y r).toArray 27 (0,0))/\gp<w'.heap.size /\
  Below w.heap.size ((((w.setCell ⟨b,off,none⟩ (.slice (some ⟨gp,0,none⟩) 1 1)).setCell ⟨b,off+1,none⟩ (.slice (some ⟨ge,0,none⟩) 1 1)).setCell ⟨b,off+2,none⟩ v).setCell ⟨b,off,none⟩ (.slice (some ⟨gp,0,none⟩) 0 0)) w'
theorem cells7 {w:World} {q:Nat} {z0 z1 z2 z3 z4 z5 z6:Value} {ty:TypeId} (h:w.heap[q]? = some (.cells #[z0,z1,z2,z3,z4,z5,z6] ty (0,0))):w.cell? ⟨q,0,none⟩=some z0/\w.cell? ⟨q,1,none⟩=some z1/\w.cell? ⟨q,2,none⟩=some z2/\w.cell? ⟨q,3,none⟩=some z3/\w.cell? ⟨q,4,none⟩=some z4/\w.cell? ⟨q,5,none⟩=some z5/\w.cell? ⟨q,6,none⟩=some z6/\∀ i,w.frozen? ⟨q,i,none⟩=false:=by
 refine⟨?_,?_,?_,?_,?_,?_,?_,Lib.frozen_of_heap h⟩ <;> (rw[zf h];rfl)
theorem tP {w:World} {q:Nat} {z0 z1 z2 z3:Value} {ty:TypeId} (h:w.heap[q]? = some (.cells #[z0,z1,z2,z3] ty (0,0))):w.cell? ⟨q,0,none⟩=some z0/\w.cell? ⟨q,1,none⟩=some z1/\w.cell? ⟨q,2,none⟩=some z2/\w.cell? ⟨q,3,none⟩=some z3/\∀ i,w.frozen? ⟨q,i,none⟩=false:=by
 refine⟨?_,?_,?_,?_,Lib.frozen_of_heap h⟩ <;> (rw[zf h];rfl)
theorem zcB {A w5:World} {n b off:Nat} {cs:Array Value} {ty:TypeId} (hA:A.heap[b]? = some (.cells cs ty (0,0))) (hn:A.heap.size=n) (hb:Below n A w5) (hz:w5.heap[n]? = some zeroGrp) (hbn:b<n) (V u0 u1 u2 u3:Value) (o:Obj) :
 Below n (A.setCell ⟨b,off,none⟩ V) ((((((w5.setCell ⟨b,off,none⟩ V).setCell ⟨n,0,none⟩ u0).setCell ⟨n,1,none⟩ u1).setCell ⟨n,2,none⟩ u2).setCell ⟨n,3,none⟩ u3).alloc o).drew /\
 ((((((w5.setCell ⟨b,off,none⟩ V).setCell ⟨n,0,none⟩ u0).setCell ⟨n,1,none⟩ u1).setCell ⟨n,2,none⟩ u2).setCell ⟨n,3,none⟩ u3).alloc o).drew.heap[n]? = some (.cells #[u0,u1,u2,u3] 162 (0,0)) /\
 (∀ j u,j≠b->j≠n->w5.heap[j]? = some u->((((((w5.setCell ⟨b,off,none⟩ V).setCell ⟨n,0,none⟩ u0).setCell ⟨n,1,none⟩ u1).setCell ⟨n,2,none⟩ u2).setCell ⟨n,3,none⟩ u3).alloc o).drew.heap[j]? = some u):=by
 subst hn;have h2:=wL (off:=off) hA hb V;have h3:(w5.setCell ⟨b,off,none⟩ V).heap[A.heap.size]? = some zeroGrp:=by
  rw[Below.heap_setCell _ _ _ _ (by show A.heap.size≠b;omega)];exact hz
 have h4:=zcT (v0:=u0) (v1:=u1) (v2:=u2) (v3:=u3) h3;refine⟨(qA h2 (Nat.le_refl _)).trans (((zj o).mono (by simpa using hb.size)).drew),?_,fun j u hj hq hu=>?_⟩
 . exact((zj o).block _ (zp h4)).trans h4
 . have h5:((((((w5.setCell ⟨b,off,none⟩ V).setCell ⟨A.heap.size,0,none⟩ u0).setCell ⟨A.heap.size,1,none⟩ u1).setCell ⟨A.heap.size,2,none⟩ u2).setCell ⟨A.heap.size,3,none⟩ u3)).heap[j]? = some u:=by
    rw[Below.heap_setCell _ _ _ _ hq,Below.heap_setCell _ _ _ _ hq,Below.heap_setCell _ _ _ _ hq,Below.heap_setCell _ _ _ _ hq,Below.heap_setCell _ _ _ _ hj];exact hu
   exact((zj o).block _ (Array.getElem?_eq_some_iff.1 h5).1).trans h5
theorem zcb {w w3:World} {b off d:Nat} {cs:Array Value} {ty:TypeId} (h1:w.heap[b]? = some (.cells cs ty (0,0))) (hk4:w.cell? ⟨b,off+3,none⟩=some (.int .i64 (d:Nat))) (hw:Below w.heap.size w w3) (hq:w3.heap[w.heap.size]? = some zeroGrp) (V0 V1 V2:Value) (o1 o2:Obj) :
 (((((w3.setCell ⟨b,off,none⟩ V0).setCell ⟨b,off+1,none⟩ V1).setCell ⟨b,off+2,none⟩ V2).alloc o1).alloc o2).drew.heap[b]? = some (.cells (((cs.setIfInBounds off V0).setIfInBounds (off+1) V1).setIfInBounds (off+2) V2) ty (0,0)) /\
 (((((w3.setCell ⟨b,off,none⟩ V0).setCell ⟨b,off+1,none⟩ V1).setCell ⟨b,off+2,none⟩ V2).alloc o1).alloc o2).drew.heap[w.heap.size]? = some zeroGrp /\
 (((((w3.setCell ⟨b,off,none⟩ V0).setCell ⟨b,off+1,none⟩ V1).setCell ⟨b,off+2,none⟩ V2).alloc o1).alloc o2).drew.heap[w3.heap.size]? = some o1 /\
 (((((w3.setCell ⟨b,off,none⟩ V0).setCell ⟨b,off+1,none⟩ V1).setCell ⟨b,off+2,none⟩ V2).alloc o1).alloc o2).drew.heap[w3.heap.size+1]? = some o2 /\
 Below w.heap.size (((w.setCell ⟨b,off,none⟩ V0).setCell ⟨b,off+1,none⟩ V1).setCell ⟨b,off+2,none⟩ V2) (((((w3.setCell ⟨b,off,none⟩ V0).setCell ⟨b,off+1,none⟩ V1).setCell ⟨b,off+2,none⟩ V2).alloc o1).alloc o2).drew /\
 (((((w3.setCell ⟨b,off,none⟩ V0).setCell ⟨b,off+1,none⟩ V1).setCell ⟨b,off+2,none⟩ V2).alloc o1).alloc o2).drew.cell? ⟨b,off,none⟩=some V0 /\
 (((((w3.setCell ⟨b,off,none⟩ V0).setCell ⟨b,off+1,none⟩ V1).setCell ⟨b,off+2,none⟩ V2).alloc o1).alloc o2).drew.cell? ⟨b,off+3,none⟩=some (.int .i64 (d:Nat)):=by
 have hlt:b<w.heap.size:=zp h1;have hqlt:w.heap.size<w3.heap.size:=zp hq;have h3:w3.heap[b]? = some (.cells cs ty (0,0)):=(hw.block b hlt).trans h1;have s1:=zn h3 off V0;have s2:=zn s1 (off+1) V1;have s3:=zn s2 (off+2) V2;obtain⟨W,hW⟩:∃ W,((w3.setCell ⟨b,off,none⟩ V0).setCell ⟨b,off+1,none⟩ V1).setCell ⟨b,off+2,none⟩ V2=W:=⟨_,rfl⟩;have hsz:W.heap.size=w3.heap.size:=by rw[← hW];simp
 have hq3:W.heap[w.heap.size]? = some zeroGrp:=by
  rw[← hW,Below.heap_setCell _ _ _ _ (by show w.heap.size≠b;omega),Below.heap_setCell _ _ _ _ (by show w.heap.size≠b;omega),Below.heap_setCell _ _ _ _ (by show w.heap.size≠b;omega)];exact hq
 have hbel:Below w.heap.size (((w.setCell ⟨b,off,none⟩ V0).setCell ⟨b,off+1,none⟩ V1).setCell ⟨b,off+2,none⟩ V2) W:=by
  rw[← hW];have b1:=wL (off:=off) h1 hw V0;have b2:=wL (off:=off+1) (zn h1 off V0) (by simpa using b1) V1;have b3:=wL (off:=off+2) (zn (zn h1 off V0) (off+1) V1) (by simpa using b2) V2
  simpa using b3
 rw[hW] at s3 ⊢;have hb2:=zB (w:=W) o1 o2;have r1:((W.alloc o1).alloc o2).drew.heap[b]? = _:=(hb2.block b (zp s3)).trans s3;have hcs:cs[off+3]? = some (.int .i64 (d:Nat)):=by rw[zf h1] at hk4;exact hk4
 have hcl:off+3<cs.size:=(Array.getElem?_eq_some_iff.1 hcs).1;refine⟨r1,(hb2.block _ (zp hq3)).trans hq3,?_,?_,?_,?_,?_⟩
 . rw[← hsz];have h9:(W.alloc o1).heap[W.heap.size]? = some o1:=zA W _ _ rfl;exact((zj o2).block _ (Array.getElem?_eq_some_iff.1 h9).1).trans h9
 . rw[← hsz];exact zA (W.alloc o1) o2 _ (by rw[World.size_alloc])
 . exact hbel.trans ((hb2.mono (by rw[hsz];omega)).drew)
 . rw[zf r1];rw[Array.getElem?_setIfInBounds_ne (by omega),Array.getElem?_setIfInBounds_ne (by omega),Array.getElem?_setIfInBounds_self,if_pos (by omega)]
 . rw[zf r1];rw[Array.getElem?_setIfInBounds_ne (by omega),Array.getElem?_setIfInBounds_ne (by omega),Array.getElem?_setIfInBounds_ne (by omega)];exact hcs
theorem cells15 {w:World} {q:Nat} {z0 z1 z2 z3 z4 z5 z6 z7 z8 z9 z10 z11 z12 z13 z14:Value} {ty:TypeId} (h:w.heap[q]? = some (.cells #[z0,z1,z2,z3,z4,z5,z6,z7,z8,z9,z10,z11,z12,z13,z14] ty (0,0))):w.cell? ⟨q,0,none⟩=some z0/\w.cell? ⟨q,1,none⟩=some z1/\w.cell? ⟨q,2,none⟩=some z2/\w.cell? ⟨q,3,none⟩=some z3/\w.cell? ⟨q,4,none⟩=some z4/\w.cell? ⟨q,5,none⟩=some z5/\w.cell? ⟨q,6,none⟩=some z6/\w.cell? ⟨q,7,none⟩=some z7/\w.cell? ⟨q,8,none⟩=some z8/\w.cell? ⟨q,9,none⟩=some z9/\w.cell? ⟨q,10,none⟩=some z10/\w.cell? ⟨q,11,none⟩=some z11/\w.cell? ⟨q,12,none⟩=some z12/\w.cell? ⟨q,13,none⟩=some z13/\w.cell? ⟨q,14,none⟩=some z14/\∀ i,w.frozen? ⟨q,i,none⟩=false:=by
 refine⟨?_,?_,?_,?_,?_,?_,?_,?_,?_,?_,?_,?_,?_,?_,?_,Lib.frozen_of_heap h⟩ <;> (rw[zf h];rfl)
theorem g_nextA (b off g o n c:Nat) (a1 a2:Option Addr) (c1 c2 d:Nat) (x:Nd) (s:Sl) (y:Nd) (r:Sl) (h1:n+1<=100000) (hc:n+1<=c) (hd:d<=100000) (w:World) (cs:Array Value) (ty:TypeId) (hB:w.heap[b]? = some (.cells cs ty (0,0))) (hg:g<w.heap.size) (k1:w.cell? ⟨b,off,none⟩=some (.slice a1 0 c1)) (k2:w.cell? ⟨b,off+1,none⟩=some (.slice a2 0 c2)) (k3:w.cell? ⟨b,off+2,none⟩=some (.slice (some ⟨g,o,none⟩) (n+1) c)) (k4:w.cell? ⟨b,off+3,none⟩=some (.int .i64 (d:Nat)))
 (hx:∀ i u,(paL x s++exL y r)[i]? = some u->w.cell? ⟨g,o+i,none⟩=some u) :
 Calls Tryz.prog 110 #[.pointer (some ⟨b,off,none⟩)] w (NextA w b off x s y r (tailV g o n c 15) d):=by
 have hb:b<w.heap.size:=zp hB;have hf0:w.frozen? ⟨b,off,none⟩=false:=Lib.frozen_of_heap hB off;have hf1:w.frozen? ⟨b,off+1,none⟩=false:=Lib.frozen_of_heap hB (off+1);have hf2:w.frozen? ⟨b,off+2,none⟩=false:=Lib.frozen_of_heap hB (off+2);have HB:=zb hB;have x0:=hx 0 _ rfl;have x1:=hx 1 _ rfl;have x2:=hx 2 _ rfl;have x3:=hx 3 _ rfl;have x4:=hx 4 _ rfl;have x5:=hx 5 _ rfl;have x6:=hx 6 _ rfl;have y0:=hx 7 _ rfl;have y1:=hx 8 _ rfl;have y2:=hx 9 _ rfl;have y3:=hx 10 _ rfl;have y4:=hx 11 _ rfl;have y5:=hx 12 _ rfl;have y6:=hx 13 _ rfl;have y7:=hx 14 _ rfl;rw[Nat.add_zero] at x0;have e2:IntKind.i64.wrap ((d:Int)+1)=d+1:=zM _ (by omega) (by omega);have e4:(0:Int)<(n:Int)+1:=by omega
 have e6:(1:Int)<=(n:Int)+1:=by omega
 obtain⟨aT,hT⟩:∃ aT,(if c=1 then some (⟨g,o,none⟩:Addr) else some ⟨g,o+15,none⟩)=some aT:=by split <;> exact⟨_,rfl⟩
 have HV:Hid (tailV g o n c 15=.slice (some aT) n (c-1)):=zb (by unfold tailV;rw[hT]);rw[HV.out];clear h1 hd hx hB HV
 go_enter Tryz.func110, Tryz.ntmps110
 go_upto_region 1 with fail
 go_quiet (fail)
 go_upto_region 3 with fail
 have HW3:Hid (Below w.heap.size w (((w.alloc zeroGrp).drewN nq).alloc (.cells #[.int .i64 x.hd.kind,.int .i64 x.hd.pos,.string ⟨x.hd.name.toArray⟩,.int .i64 x.hd.n,.string ⟨x.hd.s.toArray⟩,.slice s.la x.hd.labels.length s.lc,.slice s.aa x.args.length s.ac,.int .i64 y.hd.kind,.int .i64 y.hd.pos,.string ⟨y.hd.name.toArray⟩,.int .i64 y.hd.n,.string ⟨y.hd.s.toArray⟩,.slice r.la y.hd.labels.length r.lc,.slice r.aa y.args.length r.ac,.slice r.ra y.arms.length r.rc] 77 (0,0)))):=zb (by
  have h1:Below w.heap.size w ((w.alloc zeroGrp).drewN nq):=by
   have:=zj (w:=w) zeroGrp;exact⟨this.os,this.tape,this.output,this.size,this.block⟩
  exact h1.trans ((zj _).mono h1.size))
 have HZ:Hid ((((w.alloc zeroGrp).drewN nq).alloc (.cells #[.int .i64 x.hd.kind,.int .i64 x.hd.pos,.string ⟨x.hd.name.toArray⟩,.int .i64 x.hd.n,.string ⟨x.hd.s.toArray⟩,.slice s.la x.hd.labels.length s.lc,.slice s.aa x.args.length s.ac,.int .i64 y.hd.kind,.int .i64 y.hd.pos,.string ⟨y.hd.name.toArray⟩,.int .i64 y.hd.n,.string ⟨y.hd.s.toArray⟩,.slice r.la y.hd.labels.length r.lc,.slice r.aa y.args.length r.ac,.slice r.ra y.arms.length r.rc] 77 (0,0))).heap[w.heap.size]? = some zeroGrp):=zb (by
  have h1:((w.alloc zeroGrp).drewN nq).heap[w.heap.size]? = some zeroGrp:=zA w _ _ rfl;exact((zj (w:=(w.alloc zeroGrp).drewN nq) _).block _ (zp h1)).trans h1)
 have HA:Hid ((((w.alloc zeroGrp).drewN nq).alloc (.cells #[.int .i64 x.hd.kind,.int .i64 x.hd.pos,.string ⟨x.hd.name.toArray⟩,.int .i64 x.hd.n,.string ⟨x.hd.s.toArray⟩,.slice s.la x.hd.labels.length s.lc,.slice s.aa x.args.length s.ac,.int .i64 y.hd.kind,.int .i64 y.hd.pos,.string ⟨y.hd.name.toArray⟩,.int .i64 y.hd.n,.string ⟨y.hd.s.toArray⟩,.slice r.la y.hd.labels.length r.lc,.slice r.aa y.args.length r.ac,.slice r.ra y.arms.length r.rc] 77 (0,0))).heap[w.heap.size+1]? = some (.cells #[.int .i64 x.hd.kind,.int .i64 x.hd.pos,.string ⟨x.hd.name.toArray⟩,.int .i64 x.hd.n,.string ⟨x.hd.s.toArray⟩,.slice s.la x.hd.labels.length s.lc,.slice s.aa x.args.length s.ac,.int .i64 y.hd.kind,.int .i64 y.hd.pos,.string ⟨y.hd.name.toArray⟩,.int .i64 y.hd.n,.string ⟨y.hd.s.toArray⟩,.slice r.la y.hd.labels.length r.lc,.slice r.aa y.args.length r.ac,.slice r.ra y.arms.length r.rc] 77 (0,0))):=zb (zA ((w.alloc zeroGrp).drewN nq) _ _ (by simp [World.drewN]));have HB3:=zb ((HW3.out.block b hb).trans HB.out);replace k1:=(HW3.out.cell (p:=⟨b,off,none⟩) hb).trans k1;replace k2:=(HW3.out.cell (p:=⟨b,off+1,none⟩) hb).trans k2;replace k3:=(HW3.out.cell (p:=⟨b,off+2,none⟩) hb).trans k3;replace k4:=(HW3.out.cell (p:=⟨b,off+3,none⟩) hb).trans k4;have HBW:=HW3;have hk4:w.cell? ⟨b,off+3,none⟩=some (.int .i64 (d:Nat)):=(HW3.out.cell (p:=⟨b,off+3,none⟩) hb).symm.trans k4;clear HW3 x0 x1 x2 x3 x4 x5 x6 y0 y1 y2 y3 y4 y5 y6 y7 hf0 hf1 hf2;generalize World.alloc _ _=w3 at *;have hb3:b<w3.heap.size:=zp HB3.out;have hf0:w3.frozen? ⟨b,off,none⟩=false:=Lib.frozen_of_heap HB3.out off;have hf1:w3.frozen? ⟨b,off+1,none⟩=false:=Lib.frozen_of_heap HB3.out (off+1);have hf2:w3.frozen? ⟨b,off+2,none⟩=false:=Lib.frozen_of_heap HB3.out (off+2);have hzz:w.heap.size<w3.heap.size:=zp HZ.out;have hba:¬b=w.heap.size+1:=by omega
 generalize w.heap.size+1=ba at *;obtain⟨z0,z1,z2,z3,z4,z5,z6,z7,z8,z9,z10,z11,z12,z13,z14,hzf⟩:=cells15 HA.out;have hzl:=zp HA.out;clear hzf
 go_region
 . have HR5:=zb (zcb (off:=off) HB.out hk4 HBW.out HZ.out (.slice (some ⟨w3.heap.size,0,none⟩) 1 1) (.slice (some ⟨(w3.heap.size+1),0,none⟩) 1 1) (.slice (some aT) n (c-1)) (.cells #[.int .i64 x.hd.kind,.int .i64 x.hd.pos,.string ⟨x.hd.name.toArray⟩,.int .i64 x.hd.n,.string ⟨x.hd.s.toArray⟩,.slice s.la x.hd.labels.length s.lc,.slice s.aa x.args.length s.ac] 39 (0,0)) (.cells #[.int .i64 y.hd.kind,.int .i64 y.hd.pos,.string ⟨y.hd.name.toArray⟩,.int .i64 y.hd.n,.string ⟨y.hd.s.toArray⟩,.slice r.la y.hd.labels.length r.lc,.slice r.aa y.args.length r.ac,.slice r.ra y.arms.length r.rc] 27 (0,0)));have HGG:Hid (w.heap.size<w3.heap.size/\w.heap.size<(w3.heap.size+1)/\b<w.heap.size):=zb (by omega);clear k1 k2 k3 k4 hf0 hf1 hf2 z0 z1 z2 z3 z4 z5 z6 z7 z8 z9 z10 z11 z12 z13 z14 hzl HA HB3 HBW HZ hb3 hzz hba;generalize World.drew _=w5 at *;have HPR:Hid (w5.heap[w3.heap.size]? = some (.cells #[.int .i64 x.hd.kind,.int .i64 x.hd.pos,.string ⟨x.hd.name.toArray⟩,.int .i64 x.hd.n,.string ⟨x.hd.s.toArray⟩,.slice s.la x.hd.labels.length s.lc,.slice s.aa x.args.length s.ac] 39 (0,0))):=zb HR5.out.2.2.1;have HER:Hid (w5.heap[(w3.heap.size+1)]? = some (.cells #[.int .i64 y.hd.kind,.int .i64 y.hd.pos,.string ⟨y.hd.name.toArray⟩,.int .i64 y.hd.n,.string ⟨y.hd.s.toArray⟩,.slice r.la y.hd.labels.length r.lc,.slice r.aa y.args.length r.ac,.slice r.ra y.arms.length r.rc] 27 (0,0))):=zb HR5.out.2.2.2.1;obtain⟨g1,hg1⟩:∃ q,q=w3.heap.size+1:=⟨_,rfl⟩;obtain⟨g0,hg0⟩:∃ q,q=w3.heap.size:=⟨_,rfl⟩;simp only[← hg1] at HR5 HPR HER HGG ⊢;simp only[← hg0] at HR5 HPR HER HGG ⊢;clear hg0 hg1;have k1:=HR5.out.2.2.2.2.2.1;have k4:=HR5.out.2.2.2.2.2.2;have hf0:w5.frozen? ⟨b,off,none⟩=false:=Lib.frozen_of_heap HR5.out.1 off;obtain⟨x0,x1,x2,x3,x4,x5,x6,_⟩:=cells7 HPR.out;have hgl:g0<w5.heap.size:=zp HPR.out;have hb5:b<w5.heap.size:=zp HR5.out.1;have hq5:w.heap.size<w5.heap.size:=zp HR5.out.2.1;have hbq:¬b=w.heap.size:=by omega
   have hqb:¬w.heap.size=b:=by omega
   obtain⟨q0,q1,q2,q3,_⟩:=tP HR5.out.2.1;have qf0:w5.frozen? ⟨w.heap.size,0,none⟩=false:=Lib.frozen_of_heap HR5.out.2.1 0;have qf1:w5.frozen? ⟨w.heap.size,1,none⟩=false:=Lib.frozen_of_heap HR5.out.2.1 1;have qf2:w5.frozen? ⟨w.heap.size,2,none⟩=false:=Lib.frozen_of_heap HR5.out.2.1 2;have qf3:w5.frozen? ⟨w.heap.size,3,none⟩=false:=Lib.frozen_of_heap HR5.out.2.1 3
   go_upto_region 7 with fail
   go_region
   go_wp2_with fail
   have HD:=zcB (off:=off) (zn (zn (zn HB.out off (.slice (some ⟨g0,0,none⟩) 1 1)) (off+1) (.slice (some ⟨g1,0,none⟩) 1 1)) (off+2) (.slice (some aT) n (c-1))) (by simp) HR5.out.2.2.2.2.1 HR5.out.2.1 hb (.slice (some ⟨g0,0,none⟩) 0 0) (.slice s.aa x.args.length s.ac) (.slice none 0 0) (.slice none 0 0) (.int .i64 ((d:Int)+1)) (.cells #[.int .i64 x.hd.kind,.int .i64 x.hd.pos,.string ⟨x.hd.name.toArray⟩,.int .i64 x.hd.n,.string ⟨x.hd.s.toArray⟩,.slice s.la x.hd.labels.length s.lc,.slice s.aa x.args.length s.ac] 39 (0,0));generalize World.drew _=w9 at *;have hER:=HD.2.2 g1 _ (by have:=HGG.out;omega) (by have:=HGG.out;omega) HER.out;have hPR:=HD.2.2 g0 _ (by have:=HGG.out;omega) (by have:=HGG.out;omega) HPR.out;exact bodyPost_ret (wY rfl _ _ _ _ _ rfl (tC HD.2.1)) rfl ⟨rfl,g0,g1,Nat.le_of_lt HGG.out.1,Nat.le_of_lt HGG.out.2.1,hER,zp hPR,HD.1⟩
 . have HR5:=zb (zcb (off:=off) HB.out hk4 HBW.out HZ.out (.slice (some ⟨(w3.heap.size+1),0,none⟩) 1 1) (.slice (some ⟨w3.heap.size,0,none⟩) 1 1) (.slice (some aT) n (c-1)) (.cells #[.int .i64 y.hd.kind,.int .i64 y.hd.pos,.string ⟨y.hd.name.toArray⟩,.int .i64 y.hd.n,.string ⟨y.hd.s.toArray⟩,.slice r.la y.hd.labels.length r.lc,.slice r.aa y.args.length r.ac,.slice r.ra y.arms.length r.rc] 27 (0,0)) (.cells #[.int .i64 x.hd.kind,.int .i64 x.hd.pos,.string ⟨x.hd.name.toArray⟩,.int .i64 x.hd.n,.string ⟨x.hd.s.toArray⟩,.slice s.la x.hd.labels.length s.lc,.slice s.aa x.args.length s.ac] 39 (0,0)));have HGG:Hid (w.heap.size<(w3.heap.size+1)/\w.heap.size<w3.heap.size/\b<w.heap.size):=zb (by omega);clear k1 k2 k3 k4 hf0 hf1 hf2 z0 z1 z2 z3 z4 z5 z6 z7 z8 z9 z10 z11 z12 z13 z14 hzl HA HB3 HBW HZ hb3 hzz hba;generalize World.drew _=w5 at *;have HPR:Hid (w5.heap[(w3.heap.size+1)]? = some (.cells #[.int .i64 x.hd.kind,.int .i64 x.hd.pos,.string ⟨x.hd.name.toArray⟩,.int .i64 x.hd.n,.string ⟨x.hd.s.toArray⟩,.slice s.la x.hd.labels.length s.lc,.slice s.aa x.args.length s.ac] 39 (0,0))):=zb HR5.out.2.2.2.1;have HER:Hid (w5.heap[w3.heap.size]? = some (.cells #[.int .i64 y.hd.kind,.int .i64 y.hd.pos,.string ⟨y.hd.name.toArray⟩,.int .i64 y.hd.n,.string ⟨y.hd.s.toArray⟩,.slice r.la y.hd.labels.length r.lc,.slice r.aa y.args.length r.ac,.slice r.ra y.arms.length r.rc] 27 (0,0))):=zb HR5.out.2.2.1;obtain⟨g1,hg1⟩:∃ q,q=w3.heap.size+1:=⟨_,rfl⟩;obtain⟨g0,hg0⟩:∃ q,q=w3.heap.size:=⟨_,rfl⟩;simp only[← hg1] at HR5 HPR HER HGG ⊢;simp only[← hg0] at HR5 HPR HER HGG ⊢;clear hg0 hg1;have k1:=HR5.out.2.2.2.2.2.1;have k4:=HR5.out.2.2.2.2.2.2;have hf0:w5.frozen? ⟨b,off,none⟩=false:=Lib.frozen_of_heap HR5.out.1 off;obtain⟨x0,x1,x2,x3,x4,x5,x6,_⟩:=cells7 HPR.out;have hgl:g1<w5.heap.size:=zp HPR.out;have hb5:b<w5.heap.size:=zp HR5.out.1;have hq5:w.heap.size<w5.heap.size:=zp HR5.out.2.1;have hbq:¬b=w.heap.size:=by omega
   have hqb:¬w.heap.size=b:=by omega
   obtain⟨q0,q1,q2,q3,_⟩:=tP HR5.out.2.1;have qf0:w5.frozen? ⟨w.heap.size,0,none⟩=false:=Lib.frozen_of_heap HR5.out.2.1 0;have qf1:w5.frozen? ⟨w.heap.size,1,none⟩=false:=Lib.frozen_of_heap HR5.out.2.1 1;have qf2:w5.frozen? ⟨w.heap.size,2,none⟩=false:=Lib.frozen_of_heap HR5.out.2.1 2;have qf3:w5.frozen? ⟨w.heap.size,3,none⟩=false:=Lib.frozen_of_heap HR5.out.2.1 3
   go_upto_region 7 with fail
   go_region
   go_wp2_with fail
   have HD:=zcB (off:=off) (zn (zn (zn HB.out off (.slice (some ⟨g1,0,none⟩) 1 1)) (off+1) (.slice (some ⟨g0,0,none⟩) 1 1)) (off+2) (.slice (some aT) n (c-1))) (by simp) HR5.out.2.2.2.2.1 HR5.out.2.1 hb (.slice (some ⟨g1,0,none⟩) 0 0) (.slice s.aa x.args.length s.ac) (.slice none 0 0) (.slice none 0 0) (.int .i64 ((d:Int)+1)) (.cells #[.int .i64 x.hd.kind,.int .i64 x.hd.pos,.string ⟨x.hd.name.toArray⟩,.int .i64 x.hd.n,.string ⟨x.hd.s.toArray⟩,.slice s.la x.hd.labels.length s.lc,.slice s.aa x.args.length s.ac] 39 (0,0));generalize World.drew _=w9 at *;have hER:=HD.2.2 g0 _ (by have:=HGG.out;omega) (by have:=HGG.out;omega) HER.out;have hPR:=HD.2.2 g1 _ (by have:=HGG.out;omega) (by have:=HGG.out;omega) HPR.out;exact bodyPost_ret (wY rfl _ _ _ _ _ rfl (tC HD.2.1)) rfl ⟨rfl,g1,g0,Nat.le_of_lt HGG.out.1,Nat.le_of_lt HGG.out.2.1,hER,zp hPR,HD.1⟩
end
section
open Go.RowKit
structure Grp where
 ps:List Nd
 es:List Nd
 ar:List (Nd×Nd)
 d:Nat
def Grp.rest (g:Grp):List (Int×Nat):=partsN g.d g.ps++(partsN g.d g.es++partsA g.d g.ar)
def restS:List Grp->List (Int×Nat)
 | []=>[]
 | g::r=>restS r++g.rest
theorem zT (Q:List Grp) (g:Grp):restS (Q++[g])=g.rest++restS Q:=by
 induction Q with
 | nil=>show []++g.rest=g.rest++[];simp
 | cons a Q ih=>show restS (Q++[g])++a.rest=g.rest++(restS Q++a.rest);rw[ih,List.append_assoc]
def Grp.left (g:Grp):Prop:=0<g.ps.length+g.es.length+g.ar.length
instance (g:Grp):Decidable g.left:=inferInstanceAs (Decidable (0<_))
theorem yj {g:Grp} (h:¬g.left):g.rest=[]:=by
 unfold Grp.left at h;have h1:g.ps=[]:=List.eq_nil_of_length_eq_zero (by omega);have h2:g.es=[]:=List.eq_nil_of_length_eq_zero (by omega);have h3:g.ar=[]:=List.eq_nil_of_length_eq_zero (by omega);unfold Grp.rest;rw[h1,h2,h3];rfl
theorem sX (d:Nat) (x:Nd):x.parts d=(x.hd.pos,d)::(partsN (d+1) x.args++partsA (d+1) x.arms):=by cases x;rfl
theorem rest_pat {x:Nd} {ps es:List Nd} {ar:List (Nd×Nd)} {d:Nat} (hx:x.arms=[]):(Grp.mk (x::ps) es ar d).rest=(x.hd.pos,d)::((Grp.mk x.args [] [] (d+1)).rest++(Grp.mk ps es ar d).rest):=by
 unfold Grp.rest;show(x.parts d++partsN d ps)++_=_;rw[sX,hx];show((x.hd.pos,d)::(partsN (d+1) x.args++[])++partsN d ps)++_=(x.hd.pos,d)::((partsN (d+1) x.args++([]++[]))++_);simp
theorem rest_exp {x:Nd} {es:List Nd} {ar:List (Nd×Nd)} {d:Nat}:(Grp.mk [] (x::es) ar d).rest=(x.hd.pos,d)::((Grp.mk [] x.args x.arms (d+1)).rest++(Grp.mk [] es ar d).rest):=by
 unfold Grp.rest;show []++((x.parts d++partsN d es)++_)=_;rw[sX];show []++(((x.hd.pos,d)::(partsN (d+1) x.args++partsA (d+1) x.arms)++partsN d es)++_)=(x.hd.pos,d)::(([]++(partsN (d+1) x.args++partsA (d+1) x.arms))++([]++(partsN d es++_)));simp
theorem rest_arm {x y:Nd} {ar:List (Nd×Nd)} {d:Nat} (hx:x.arms=[]):(Grp.mk [] [] ((x,y)::ar) d).rest=(x.hd.pos,d)::((Grp.mk x.args [] [] (d+1)).rest++(Grp.mk [] [y] ar d).rest):=by
 unfold Grp.rest;show []++([]++(x.parts d++(y.parts d++partsA d ar)))=_;rw[sX d x,hx];show []++([]++((x.hd.pos,d)::(partsN (d+1) x.args++[])++(y.parts d++partsA d ar)))=(x.hd.pos,d)::((partsN (d+1) x.args++([]++[]))++([]++((y.parts d++[])++partsA d ar)));simp
theorem rN {w:World} {N:Nat->Prop} {e:TypeId} {size:Nat} {v:Value} {n:Nat} {xs:List Value} (h:RowIn w N e size v n xs):RowAt w N v n xs:=h.1
theorem RowAt.cl {w:World} {N:Nat->Prop} {v:Value} {n:Nat} {xs:List Value} (h:RowAt w N v n xs):RowAt w (fun g=>N g/\CellsIn w g) v n xs:=by
 obtain⟨a,c,h1,h2,h3⟩:=h;exact⟨a,c,h1,h2,h3.imp id fun⟨g,o,h4,h5,h6,h7⟩=>⟨g,o,h4,⟨h5,h6⟩,h6,h7⟩⟩
theorem RowAt.tail {w:World} {N:Nat->Prop} {g o n c k:Nat} {x rest:List Value} (hk:x.length=k) (hc:n+1<=c) (hN:N g) (hl:CellsIn w g) (h:∀ i u,(x++rest)[i]? = some u->w.cell? ⟨g,o+i,none⟩=some u):RowAt w N (tailV g o n c k) n rest:=by
 refine⟨_,_,rfl,by omega,?_⟩;by_cases hn:n=0
 . exact .inl hn
 . refine .inr ⟨g,o+k,by rw[if_neg (by omega)],hN,hl,fun i u hu=>?_⟩;rw[Nat.add_assoc];refine h (k+i) u ?_;rw[← hk,List.getElem?_append_right (by omega)]
   simpa using hu
def PsAt (w:World) (N:Nat->Prop) (v:Value) (l:List Nd):Prop:=∃ L,RowAt w N v l.length L.flatten/\IsPs w N L l
def EsAt (w:World) (N:Nat->Prop) (v:Value) (l:List Nd):Prop:=∃ L,RowAt w N v l.length L.flatten/\IsEs w N L l
def AsAt (w:World) (N:Nat->Prop) (v:Value) (l:List (Nd×Nd)):Prop:=∃ L,RowAt w N v l.length L.flatten/\IsAs w N L l
def GIs (w:World) (N:Nat->Prop) (cs:List Value) (g:Grp):Prop:=∃ v1 v2 v3,cs=[v1,v2,v3,.int .i64 (g.d:Nat)]/\PsAt w N v1 g.ps/\EsAt w N v2 g.es/\AsAt w N v3 g.ar
def GsAre (w:World) (N:Nat->Prop):List (List Value)->List Grp->Prop
 | [],[]=>True
 | cs::L,g::r=>GIs w N cs g/\GsAre w N L r
 | _,_=>False
theorem GIs.move {w w':World} {N N':Nat->Prop} {cs:List Value} {g:Grp} (h:GIs w N cs g) (hm:Move w N w' N'):GIs w' N' cs g:=by
 obtain⟨v1,v2,v3,rfl,⟨L1,a1,b1⟩,⟨L2,a2,b2⟩,L3,a3,b3⟩:=h;exact⟨v1,v2,v3,rfl,⟨L1,a1.move hm,IsPs.move hm b1⟩,⟨L2,a2.move hm,IsEs.move hm b2⟩,L3,a3.move hm,IsAs.move hm b3⟩
theorem GsAre.move {w w':World} {N N':Nat->Prop} (hm:Move w N w' N'):∀{L:List (List Value)} {r:List Grp},GsAre w N L r->GsAre w' N' L r
 | [],[],_=>trivial
 | _::_,_::_,h=>⟨h.1.move hm,GsAre.move hm h.2⟩
 | [],_::_,h=>h.elim
 | _::_,[],h=>h.elim
theorem GsAre.snoc {w:World} {N:Nat->Prop} {cs:List Value} {g:Grp}:∀{L:List (List Value)} {r:List Grp},GsAre w N L r->GIs w N cs g->GsAre w N (L++[cs]) (r++[g])
 | [],[],_,h=>⟨h,trivial⟩
 | _::_,_::_,h,h'=>⟨h.1,GsAre.snoc h.2 h'⟩
 | [],_::_,h,_=>h.elim
 | _::_,[],h,_=>h.elim
theorem GsAre.last {w:World} {N:Nat->Prop} {g:Grp}:∀{L:List (List Value)} {r:List Grp},GsAre w N L (r++[g])->∃ L0 cs,L=L0++[cs]/\GsAre w N L0 r/\GIs w N cs g
 | [cs],[],h=>⟨[],cs,rfl,trivial,h.1⟩
 | _::_::_,[],h=>h.2.elim
 | [],[],h=>h.elim
 | [],_::_,h=>h.elim
 | cs::L,a::r,h=>by
  obtain⟨L0,c1,rfl,h1,h2⟩:=GsAre.last (L:=L) (r:=r) h.2;exact⟨cs::L0,c1,rfl,⟨h.1,h1⟩,h2⟩
theorem GIs.len {w:World} {N:Nat->Prop} {cs:List Value} {g:Grp} (h:GIs w N cs g):cs.length=4:=by
 obtain⟨_,_,_,rfl,_⟩:=h;rfl
theorem vY {w:World} {N:Nat->Prop}:∀{L:List (List Value)} {r:List Grp},GsAre w N L r->L.flatten.length=r.length*4
 | [],[],_=>rfl
 | cs::L,g::r,h=>by rw[List.flatten_cons,List.length_append,h.1.len,vY h.2,List.length_cons];omega
 | [],_::_,h=>h.elim
 | _::_,[],h=>h.elim
def SRow (B:Nat) (X:Nat->Prop) (w:World) (v:Value) (St:List Grp):Prop:=∃ L,w.ownsRow B 162 4 v St.length L.flatten/\GsAre w (fun g=>¬X g/\some g≠v.ownBlock) L St
theorem tR {w w':World} {B:Nat} {e:TypeId} {size:Nat} {v:Value} {n:Nat} {xs:List Value} (h:w.ownsRow B e size v n xs) (hk:∀ g,v.ownBlock=some g->g<w.heap.size->w'.heap[g]? = w.heap[g]?):w'.ownsRow B e size v n xs:=by
 obtain⟨h1,h2⟩:=h;rcases h2 with h2 | ⟨g,cap,cur,rfl,hb,hg,rest⟩
 . exact⟨h1,.inl h2⟩
 . exact⟨h1,.inr ⟨g,cap,cur,rfl,hb,(hk g rfl (zp hg)).trans hg,rest⟩⟩
theorem SRow.move {B:Nat} {X:Nat->Prop} {w w':World} {v:Value} {St:List Grp} (h:SRow B X w v St) (hX:∀ g,X g->g<B) (hk:∀ g,¬X g->g<w.heap.size->w'.heap[g]? = w.heap[g]?):SRow B X w' v St:=by
 obtain⟨L,h1,h2⟩:=h;refine⟨L,tR h1 fun g hg hl=>hk g (fun hx=>?_) hl,h2.move fun g hg hl=>⟨hg,hk g hg.1 hl⟩⟩;have:=hX g hx;have:=(World.ownsRow.lt h1 g hg).1;omega
theorem xU (L:List (List Value)) (cs:List Value):(L++[cs]).flatten=L.flatten++cs:=by rw[List.flatten_append,List.flatten_singleton]
theorem SRow.last {B:Nat} {X:Nat->Prop} {w:World} {v:Value} {Q:List Grp} {t:Grp} (h:SRow B X w v (Q++[t])):∃ b cap cur v1 v2 v3 L0,w.ownsRow B 162 4 (.slice (some ⟨b,0,none⟩) (Q.length+1) cap) (Q.length+1) (L0.flatten++[v1,v2,v3,.int .i64 (t.d:Nat)])/\GsAre w (fun g=>¬X g/\g≠b) L0 Q/\v=.slice (some ⟨b,0,none⟩) (Q.length+1) cap/\Q.length+1<=cap/\B<=b/\w.heap[b]? = some (.cells cur 162 (0,0)) /\
 w.cell? ⟨b,Q.length*4,none⟩=some v1/\w.cell? ⟨b,Q.length*4+1,none⟩=some v2/\w.cell? ⟨b,Q.length*4+2,none⟩=some v3/\w.cell? ⟨b,Q.length*4+3,none⟩=some (.int .i64 (t.d:Nat)) /\
 PsAt w (fun g=>¬X g/\g≠b) v1 t.ps/\EsAt w (fun g=>¬X g/\g≠b) v2 t.es/\AsAt w (fun g=>¬X g/\g≠b) v3 t.ar:=by
 obtain⟨L,h0,h3⟩:=h;have hown:=h0;obtain⟨h1,h2⟩:=h0;rcases h2 with h2 | ⟨b,cap,cur,rfl,hb,hg,hn,hcap,hsz,htake⟩
 . exfalso;have:(Q++[t]).length=0:=by first | exact h2.2 | exact h2.2.1
   simp at this
 obtain⟨L0,cs,rfl,h4,v1,v2,v3,rfl,h5,h6,h7⟩:=h3.last;have hlen:=vY h4;rw[xU] at htake h1 hown;rw[List.length_append] at hown;rw[List.length_append] at hn;have hc:∀ i u,([v1,v2,v3,Value.int .i64 (t.d:Nat)]:List Value)[i]? = some u->w.cell? ⟨b,Q.length*4+i,none⟩=some u:=fun i u hu=>by
  rw[zf hg];have h8:(L0.flatten++[v1,v2,v3,Value.int .i64 (t.d:Nat)])[Q.length*4+i]? = some u:=by
   rw[← hlen,List.getElem?_append_right (by omega)]
   simpa using hu
  rw[← htake] at h8;have h9:=(List.getElem?_eq_some_iff.1 h8).1;rw[List.length_take] at h9;rw[List.getElem?_take_of_lt (by omega)] at h8
  simpa using h8
 have hm:Move w (fun g=>¬X g/\some g≠(Value.slice (some ⟨b,0,none⟩) (Q++[t]).length cap).ownBlock) w (fun g=>¬X g/\g≠b):=fun g hg _=>⟨⟨hg.1,fun e=>hg.2 (by rw[e];rfl)⟩,rfl⟩;obtain⟨L1,a1,b1⟩:=h5;obtain⟨L2,a2,b2⟩:=h6;obtain⟨L3,a3,b3⟩:=h7;exact⟨b,cap,cur,v1,v2,v3,L0,hown,h4.move hm,by rw[List.length_append];rfl,by simpa using hn,hb,hg,hc 0 _ rfl,hc 1 _ rfl,hc 2 _ rfl,hc 3 _ rfl,⟨L1,a1.move hm,IsPs.move hm b1⟩,⟨L2,a2.move hm,IsEs.move hm b2⟩,L3,a3.move hm,IsAs.move hm b3⟩
theorem xX {w:World} {B:Nat} {e:TypeId} {size b n cap:Nat} {xs:List Value} (h:w.ownsRow B e size (.slice (some ⟨b,0,none⟩) n cap) n xs) (i:Nat) (u:Value):(w.setCell ⟨b,i,none⟩ u).ownsRow B e size (.slice (some ⟨b,0,none⟩) n cap) n (xs.set i u):=by
 obtain⟨h1,h2⟩:=h;rcases h2 with⟨h0,_⟩ | ⟨g,cap',cur,hv,hb,hg,hn,hcap,hsz,htake⟩
 . cases h0
 . cases hv;refine⟨by rw[List.length_set];exact h1,.inr ⟨b,cap,_,rfl,hb,zn hg i u,hn,hcap,by rw[Array.size_setIfInBounds];exact hsz,?_⟩⟩;rw[Array.toList_setIfInBounds,List.take_set,htake]
theorem SRow.poke {B:Nat} {X:Nat->Prop} {w w':World} {Q:List Grp} {t t':Grp} {b cap:Nat} {L:List (List Value)} (hg:GsAre w (fun g=>¬X g/\g≠b) L Q) {w1:World} {u1 u2 u3:Value}
 (ho:w1.ownsRow B 162 4 (.slice (some ⟨b,0,none⟩) (Q.length+1) cap) (Q.length+1) (L.flatten++[u1,u2,u3,.int .i64 (t.d:Nat)])) (hd:t'.d=t.d) (hw:∀ g,g≠b->g<w.heap.size->w'.heap[g]? = w.heap[g]?) (hw1:w'.heap[b]? = w1.heap[b]?)
 (hp:PsAt w' (fun g=>¬X g/\g≠b) u1 t'.ps) (he:EsAt w' (fun g=>¬X g/\g≠b) u2 t'.es) (ha:AsAt w' (fun g=>¬X g/\g≠b) u3 t'.ar):SRow B X w' (.slice (some ⟨b,0,none⟩) (Q.length+1) cap) (Q++[t']):=by
 have hm:Move w (fun g=>¬X g/\g≠b) w' (fun g=>¬X g/\some g≠(Value.slice (some ⟨b,0,none⟩) (Q.length+1) cap).ownBlock):=fun g hg hl=>⟨⟨hg.1,fun e=>hg.2 (zc e)⟩,hw g hg.2 hl⟩;have hm':Move w' (fun g=>¬X g/\g≠b) w' (fun g=>¬X g/\some g≠(Value.slice (some ⟨b,0,none⟩) (Q.length+1) cap).ownBlock):=fun g hg hl=>⟨⟨hg.1,fun e=>hg.2 (zc e)⟩,rfl⟩;obtain⟨L1,a1,b1⟩:=hp;obtain⟨L2,a2,b2⟩:=he;obtain⟨L3,a3,b3⟩:=ha;refine⟨L++[[u1,u2,u3,.int .i64 (t'.d:Nat)]],?_,(hg.move hm).snoc ⟨u1,u2,u3,rfl,⟨L1,a1.move hm',IsPs.move hm' b1⟩,⟨L2,a2.move hm',IsEs.move hm' b2⟩,L3,a3.move hm',IsAs.move hm' b3⟩⟩;rw[xU,List.length_append,hd];refine tR ho fun g hg hl=>?_;obtain rfl:b=g:=zc hg;exact hw1
theorem IsP.form {w:World} {N:Nat->Prop} {cs:List Value} {x:Nd} (h:IsP w N cs x):x.arms=[]/\∃ s,cs=paL x s/\PsAt w N (.slice s.aa x.args.length s.ac) x.args:=by
 obtain⟨hd,args,arms⟩:=x;obtain⟨rfl,vl,va,rfl,h1,L,h2,h3⟩:=h;obtain⟨a1,c1,rfl⟩:=h1.form;obtain⟨a2,c2,rfl⟩:=h2.form;exact⟨rfl,⟨a1,c1,a2,c2,none,0⟩,rfl,L,rN h2,h3⟩
theorem IsE.form2 {w:World} {N:Nat->Prop} {cs:List Value} {x:Nd} (h:IsE w N cs x):∃ s,cs=exL x s/\EsAt w N (.slice s.aa x.args.length s.ac) x.args/\AsAt w N (.slice s.ra x.arms.length s.rc) x.arms:=by
 obtain⟨hd,args,arms⟩:=x;obtain⟨vl,va,vr,rfl,h1,⟨L,h2,h3⟩,M,h4,h5⟩:=h;obtain⟨a1,c1,rfl⟩:=h1.form;obtain⟨a2,c2,rfl⟩:=h2.form;obtain⟨a3,c3,rfl⟩:=h4.form;exact⟨⟨a1,c1,a2,c2,a3,c3⟩,rfl,⟨L,rN h2,h3⟩,M,rN h4,h5⟩
theorem uZ (w:World) (N:Nat->Prop) (a:Option Addr) (c:Nat):PsAt w N (.slice a 0 c) []:=⟨[],⟨a,c,rfl,Nat.zero_le _,.inl rfl⟩,trivial⟩
theorem zcy (w:World) (N:Nat->Prop) (a:Option Addr) (c:Nat):EsAt w N (.slice a 0 c) []:=⟨[],⟨a,c,rfl,Nat.zero_le _,.inl rfl⟩,trivial⟩
theorem qG (w:World) (N:Nat->Prop) (a:Option Addr) (c:Nat):AsAt w N (.slice a 0 c) []:=⟨[],⟨a,c,rfl,Nat.zero_le _,.inl rfl⟩,trivial⟩
theorem PsAt.move {w w':World} {N N':Nat->Prop} {v:Value} {l:List Nd} (h:PsAt w N v l) (hm:Move w N w' N'):PsAt w' N' v l:=by
 obtain⟨L,a,b⟩:=h;exact⟨L,a.move hm,IsPs.move hm b⟩
theorem EsAt.move {w w':World} {N N':Nat->Prop} {v:Value} {l:List Nd} (h:EsAt w N v l) (hm:Move w N w' N'):EsAt w' N' v l:=by
 obtain⟨L,a,b⟩:=h;exact⟨L,a.move hm,IsEs.move hm b⟩
theorem AsAt.move {w w':World} {N N':Nat->Prop} {v:Value} {l:List (Nd×Nd)} (h:AsAt w N v l) (hm:Move w N w' N'):AsAt w' N' v l:=by
 obtain⟨L,a,b⟩:=h;exact⟨L,a.move hm,IsAs.move hm b⟩
def Nexts (B:Nat) (X:Nat->Prop) (w:World) (v:Value) (b:Nat) (Q:List Grp) (t:Grp) (e:Ending) (w':World):Prop :=
 ∃(q:Int) (u1 u2 u3:Value) (t' ch:Grp),e=.returned (.tuple #[.int .i64 q,.agg #[u1,u2,u3,.int .i64 ((t.d:Int)+1)]])/\t.rest=(q,t.d)::(ch.rest++t'.rest)/\ch.d=t.d+1/\t'.d=t.d /\
  GIs w' (fun g=>¬X g/\g≠b) [u1,u2,u3,.int .i64 (ch.d:Nat)] ch/\SRow B X w' v (Q++[t'])/\w.grownBy w' (some b)
theorem wH {L:List Value} {n:Nat} (hL:L.length=n*4) (v1 v2 v3 v4:Value) (u:Value):(L++[v1,v2,v3,v4]).set (n*4) u=L++[u,v2,v3,v4]/\(L++[v1,v2,v3,v4]).set (n*4+1) u=L++[v1,u,v3,v4]/\(L++[v1,v2,v3,v4]).set (n*4+2) u=L++[v1,v2,u,v4]:=by
 refine⟨?_,?_,?_⟩
 . rw[List.set_append_right _ _ (by omega),hL,Nat.sub_self];rfl
 . rw[List.set_append_right _ _ (by omega),hL,show n*4+1-n*4=1 by omega];rfl
 . rw[List.set_append_right _ _ (by omega),hL,show n*4+2-n*4=2 by omega];rfl
theorem rV {w w':World} {b i:Nat} {u:Value} (h:Below w.heap.size (w.setCell ⟨b,i,none⟩ u) w'):w.grownBy w' (some b):=⟨h.os,h.tape,h.output,by simpa using h.size,fun j hj hr=>by
 rw[h.block j hj];exact Below.heap_setCell _ _ _ _ (fun e=>hr (by have e:j=b:=e;rw[e]))⟩
theorem p_next {B:Nat} {X:Nat->Prop} {w:World} {v:Value} {Q:List Grp} {t:Grp} (h:SRow B X w v (Q++[t])) (hX:∀ g,X g->g<B) (_:B<=w.heap.size) (hl:t.left) (hs:t.ps.length<=100000/\t.es.length<=100000/\t.ar.length<=100000) (hd:t.d<=100000) :
 ∃ b cap,v=.slice (some ⟨b,0,none⟩) (Q.length+1) cap/\Calls Tryz.prog 110 #[.pointer (some ⟨b,Q.length*4,none⟩)] w (Nexts B X w v b Q t):=by
 obtain⟨b,cap,cur,v1,v2,v3,L0,hown,hQ,rfl,hcap,hb,hB,k1,k2,k3,k4,hp,he,ha⟩:=h.last;have hlen:=vY hQ;have hbl:b<w.heap.size:=zp hB;refine⟨b,cap,rfl,?_⟩;obtain⟨ps,es,ar,d⟩:=t;cases ps with
 | cons x ps =>
  obtain⟨L,⟨a,c,rfl,hc,hrow⟩,hPs⟩:=hp;cases L with
  | nil=>exact hPs.elim
  | cons cs L =>
   obtain⟨hxa,s,rfl,hargs⟩:=hPs.1.form;rcases hrow with hrow | ⟨g,o,rfl,hN,hgl,hcell⟩
   . simp at hrow
   obtain⟨L2,⟨a2,c2,rfl,hc2,hrow2⟩,hEs⟩:=he;rw[List.flatten_cons] at hcell;refine(g_nextP b (Q.length*4) g o ps.length c a2 es.length c2 d x s hs.1 hc hs.2.1 hd w cur _ hB hgl.lt k1 k2 k4 (fun i u hu=>hcell i u (by rw[List.getElem?_append_left (List.getElem?_eq_some_iff.1 hu).1];exact hu))).mono ?_;rintro e w' ⟨rfl,hbw⟩;have hgr:=rV hbw;have hm:Move w (fun g=>¬X g/\g≠b) w' (fun g=>¬X g/\g≠b):=fun j hj hjl=>⟨hj,hgr.block j hjl (fun e=>hj.2 (zc e))⟩;have ho:=xX hown (Q.length*4) (tailV g o ps.length c 7);rw[(wH hlen _ _ _ _ _).1] at ho;refine⟨x.hd.pos,_,_,_,⟨ps,es,ar,d⟩,⟨x.args,[],[],d+1⟩,rfl,rest_pat hxa,rfl,rfl,⟨_,_,_,rfl,hargs.move hm,zcy _ _ _ _,qG _ _ _ _⟩,?_,hgr⟩;exact SRow.poke (t:=⟨x::ps,es,ar,d⟩) hQ ho rfl (fun j hj hjl=>hgr.block j hjl (fun e=>hj (zc e))) (hbw.block b hbl)
    (PsAt.move ⟨L,RowAt.tail (x:=paL x s) rfl hc hN hgl hcell,hPs.2⟩ hm) (EsAt.move ⟨L2,⟨a2,c2,rfl,hc2,hrow2⟩,hEs⟩ hm) (ha.move hm)
 | nil =>
  obtain⟨L1,⟨a1,c1,rfl,hc1,_⟩,_⟩:=hp;cases es with
  | cons x es =>
   obtain⟨L,⟨a,c,rfl,hc,hrow⟩,hEs⟩:=he;cases L with
   | nil=>exact hEs.elim
   | cons cs L =>
    obtain⟨s,rfl,hargs,harms⟩:=hEs.1.form2;rcases hrow with hrow | ⟨g,o,rfl,hN,hgl,hcell⟩
    . simp at hrow
    rw[List.flatten_cons] at hcell;refine(g_nextE b (Q.length*4) g o es.length c a1 c1 d x s hs.2.1 hc hd w cur _ hB hgl.lt k1 k2 k4 (fun i u hu=>hcell i u (by rw[List.getElem?_append_left (List.getElem?_eq_some_iff.1 hu).1];exact hu))).mono ?_;rintro e w' ⟨rfl,hbw⟩;have hgr:=rV hbw;have hm:Move w (fun g=>¬X g/\g≠b) w' (fun g=>¬X g/\g≠b):=fun j hj hjl=>⟨hj,hgr.block j hjl (fun e=>hj.2 (zc e))⟩;have ho:=xX hown (Q.length*4+1) (tailV g o es.length c 8);rw[(wH hlen _ _ _ _ _).2.1] at ho;refine⟨x.hd.pos,_,_,_,⟨[],es,ar,d⟩,⟨[],x.args,x.arms,d+1⟩,rfl,rest_exp,rfl,rfl,⟨_,_,_,rfl,uZ _ _ _ _,hargs.move hm,harms.move hm⟩,?_,hgr⟩;exact SRow.poke (t:=⟨[],x::es,ar,d⟩) hQ ho rfl (fun j hj hjl=>hgr.block j hjl (fun e=>hj (zc e))) (hbw.block b hbl)
     (uZ _ _ _ _) (EsAt.move ⟨L,RowAt.tail (x:=exL x s) rfl hc hN hgl hcell,hEs.2⟩ hm) (ha.move hm)
  | nil =>
   obtain⟨L2,⟨a2,c2,rfl,hc2,_⟩,_⟩:=he;cases ar with
   | nil=>exact absurd hl (by unfold Grp.left;simp)
   | cons xy ar =>
    obtain⟨x,y⟩:=xy;obtain⟨L,⟨a,c,rfl,hc,hrow⟩,hAs⟩:=ha;cases L with
    | nil=>exact hAs.elim
    | cons cs L =>
     obtain⟨⟨cs1,cs2,rfl,hxP,hyE⟩,hAs2⟩:=hAs;obtain⟨hxa,s,rfl,hargs⟩:=hxP.form;obtain⟨r,rfl,_,_⟩:=hyE.form2;rcases hrow with hrow | ⟨g,o,rfl,hN,hgl,hcell⟩
     . simp at hrow
     rw[List.flatten_cons] at hcell;refine(g_nextA b (Q.length*4) g o ar.length c a1 a2 c1 c2 d x s y r hs.2.2 hc hd w cur _ hB hgl.lt k1 k2 k3 k4 (fun i u hu=>hcell i u (by rw[List.getElem?_append_left (List.getElem?_eq_some_iff.1 hu).1];exact hu))).mono ?_;rintro e w' ⟨rfl,gp,ge,hgp,hge,hER,hgpl,hbw⟩;have hgr:w.grownBy w' (some b):=⟨hbw.os,hbw.tape,hbw.output,by simpa using hbw.size,fun j hj hr=>by
      have hjb:j≠b:=fun e=>hr (by rw[e]);rw[hbw.block j hj,Below.heap_setCell _ _ _ _ hjb,Below.heap_setCell _ _ _ _ hjb,Below.heap_setCell _ _ _ _ hjb,Below.heap_setCell _ _ _ _ hjb]⟩
     have hm:Move w (fun g=>¬X g/\g≠b) w' (fun g=>¬X g/\g≠b):=fun j hj hjl=>⟨hj,hgr.block j hjl (fun e=>hj.2 (zc e))⟩;have ho1:=xX hown (Q.length*4) (.slice (some ⟨gp,0,none⟩) 1 1);rw[(wH hlen _ _ _ _ _).1] at ho1;have ho2:=xX ho1 (Q.length*4+1) (.slice (some ⟨ge,0,none⟩) 1 1);rw[(wH hlen _ _ _ _ _).2.1] at ho2;have ho3:=xX ho2 (Q.length*4+2) (tailV g o ar.length c 15);rw[(wH hlen _ _ _ _ _).2.2] at ho3;have ho4:=xX ho3 (Q.length*4) (.slice (some ⟨gp,0,none⟩) 0 0);rw[(wH hlen _ _ _ _ _).1] at ho4;have hN2:¬X ge/\ge≠b:=⟨fun hx=>by have:=hX ge hx;omega,by omega⟩;refine⟨x.hd.pos,_,_,_,⟨[],[y],ar,d⟩,⟨x.args,[],[],d+1⟩,rfl,rest_arm hxa,rfl,rfl,⟨_,_,_,rfl,hargs.move hm,zcy _ _ _ _,qG _ _ _ _⟩,?_,hgr⟩;refine SRow.poke (t:=⟨[],[],(x,y)::ar,d⟩) hQ ho4 rfl (fun j hj hjl=>hgr.block j hjl (fun e=>hj (zc e))) (hbw.block b hbl) (uZ _ _ _ _) ?_ (AsAt.move ⟨L,RowAt.tail (x:=paL x s++exL y r) rfl hc hN hgl hcell,hAs2⟩ hm);refine⟨[exL y r],⟨_,_,rfl,Nat.le_refl _,.inr ⟨ge,0,rfl,hN2,⟨_,_,_,hER⟩,fun i u hu=>?_⟩⟩,IsE.move hm hyE,trivial⟩;rw[zf hER,Nat.zero_add,List.getElem?_toArray]
     rwa [List.flatten_singleton] at hu
theorem RowIn.cl {w:World} {N:Nat->Prop} {e:TypeId} {size:Nat} {v:Value} {n:Nat} {xs:List Value} (h:RowIn w N e size v n xs):RowIn w (fun g=>N g/\CellsIn w g) e size v n xs:=⟨RowAt.cl h.1,h.2⟩
mutual
theorem IsP.cl {w:World} {N:Nat->Prop}:∀{cs:List Value} {e:Nd},IsP w N cs e->IsP w (fun g=>N g/\CellsIn w g) cs e
 | cs,.mk h args arms,h0=>by
  obtain⟨h1,vl,va,rfl,h3,L,h4,h5⟩:=h0;exact⟨h1,vl,va,rfl,h3.cl,L,h4.cl,IsPs.cl h5⟩
theorem IsPs.cl {w:World} {N:Nat->Prop}:∀{L:List (List Value)} {r:List Nd},IsPs w N L r->IsPs w (fun g=>N g/\CellsIn w g) L r
 | [],[],_=>trivial
 | _::_,_::_,h=>⟨IsP.cl h.1,IsPs.cl h.2⟩
 | [],_::_,h=>h.elim
 | _::_,[],h=>h.elim
end
mutual
theorem IsE.cl {w:World} {N:Nat->Prop}:∀{cs:List Value} {e:Nd},IsE w N cs e->IsE w (fun g=>N g/\CellsIn w g) cs e
 | cs,.mk h args arms,h0=>by
  obtain⟨vl,va,vr,rfl,h3,⟨L,h4,h5⟩,M,h6,h7⟩:=h0;exact⟨vl,va,vr,rfl,h3.cl,⟨L,h4.cl,IsEs.cl h5⟩,M,h6.cl,IsAs.cl h7⟩
theorem IsEs.cl {w:World} {N:Nat->Prop}:∀{L:List (List Value)} {r:List Nd},IsEs w N L r->IsEs w (fun g=>N g/\CellsIn w g) L r
 | [],[],_=>trivial
 | _::_,_::_,h=>⟨IsE.cl h.1,IsEs.cl h.2⟩
 | [],_::_,h=>h.elim
 | _::_,[],h=>h.elim
theorem IsAs.cl {w:World} {N:Nat->Prop}:∀{L:List (List Value)} {r:List (Nd×Nd)},IsAs w N L r->IsAs w (fun g=>N g/\CellsIn w g) L r
 | [],[],_=>trivial
 | _::_,(_,_)::_,⟨⟨c1,c2,h1,h2,h3⟩,h4⟩=>⟨⟨c1,c2,h1,IsP.cl h2,IsE.cl h3⟩,IsAs.cl h4⟩
 | [],_::_,h=>h.elim
 | _::_,[],h=>h.elim
end
theorem GIs.cl {w:World} {N:Nat->Prop} {cs:List Value} {g:Grp} (h:GIs w N cs g):GIs w (fun g=>N g/\CellsIn w g) cs g:=by
 obtain⟨v1,v2,v3,rfl,⟨L1,a1,b1⟩,⟨L2,a2,b2⟩,L3,a3,b3⟩:=h;exact⟨v1,v2,v3,rfl,⟨L1,a1.cl,b1.cl⟩,⟨L2,a2.cl,b2.cl⟩,L3,a3.cl,b3.cl⟩
theorem GsAre.cl {w:World} {N:Nat->Prop}:∀{L:List (List Value)} {r:List Grp},GsAre w N L r->GsAre w (fun g=>N g/\CellsIn w g) L r
 | [],[],_=>trivial
 | _::_,_::_,h=>⟨h.1.cl,GsAre.cl h.2⟩
 | [],_::_,h=>h.elim
 | _::_,[],h=>h.elim
def KeepsX (X:Nat->Prop) (W W':World):Prop:=W.heap.size<=W'.heap.size/\∀ j,¬X j->CellsIn W j->W'.heap[j]? = W.heap[j]?
theorem KeepsX.trans {X:Nat->Prop} {A B C:World} (h:KeepsX X A B) (k:KeepsX X B C):KeepsX X A C:=⟨Nat.le_trans h.1 k.1,fun j hj hc=>by
 have h1:=h.2 j hj hc;obtain⟨c,t,fz,h2⟩:=hc;exact(k.2 j hj ⟨c,t,fz,h1.trans h2⟩).trans h1⟩
theorem SRow.kept {B:Nat} {X:Nat->Prop} {w w':World} {v:Value} {St:List Grp} (h:SRow B X w v St) (hX:∀ g,X g->g<B) (hk:KeepsX X w w'):SRow B X w' v St:=by
 obtain⟨L,h1,h2⟩:=h;refine⟨L,tR h1 fun g hg hl=>hk.2 g (fun hx=>?_) ?_,h2.cl.move fun g hg hl=>⟨hg.1,hk.2 g hg.1.1 hg.2⟩⟩
 . have:=hX g hx;have:=(World.ownsRow.lt h1 g hg).1;omega
 . obtain⟨_,h3⟩:=h1;rcases h3 with h3 | ⟨g',cap,cur,rfl,_,h4,_⟩
   . rw[h3.1] at hg;cases hg
   . obtain rfl:g'=g:=zc hg;exact⟨_,_,_,h4⟩
theorem GIs.kept {X:Nat->Prop} {w w':World} {cs:List Value} {g:Grp} {b:Nat} (h:GIs w (fun g=>¬X g/\g≠b) cs g) (hk:KeepsX X w w'):GIs w' (fun g=>¬X g/\g≠b) cs g:=h.cl.move fun g hg _=>⟨hg.1,hk.2 g hg.1.1 hg.2⟩
theorem SRow.pop {B:Nat} {X:Nat->Prop} {w:World} {b cap:Nat} {Q:List Grp} {t:Grp} (h:SRow B X w (.slice (some ⟨b,0,none⟩) (Q.length+1) cap) (Q++[t])):SRow B X w (.slice (some ⟨b,0,none⟩) Q.length cap) Q:=by
 obtain⟨L,h1,h2⟩:=h;obtain⟨L0,cs,rfl,h3,h4⟩:=h2.last;rw[xU,List.length_append] at h1;exact⟨L0,ownsRow_pop (vY h3) h1,h3⟩
theorem SRow.push {B:Nat} {X:Nat->Prop} {w w':World} {v v':Value} {Q:List Grp} {ch:Grp} {cs:List Value} {b:Nat} (hb:v.ownBlock=some b∨v.ownBlock=none) (hc:GIs w (fun g=>¬X g/\g≠b) cs ch) (L:List (List Value)) (hL:w.ownsRow B 162 4 v Q.length L.flatten/\GsAre w (fun g=>¬X g/\some g≠v.ownBlock) L Q)
 (hown:w'.ownsRow B 162 4 v' (Q.length+1) (L.flatten++cs)) (hg:w.grownBy w' v.ownBlock) (hat:v'.ownBlock=v.ownBlock∨v'.ownBlock=some w.heap.size):SRow B X w' v' (Q++[ch]):=by
 refine⟨L++[cs],by rw[xU,List.length_append];exact hown,?_⟩;have hm:Move w (fun g=>¬X g/\some g≠v.ownBlock) w' (fun g=>¬X g/\some g≠v'.ownBlock):=fun g hk hl=>⟨⟨hk.1,by
  rcases hat with e | e
  . rw[e];exact hk.2
  . rw[e];intro e2;have:=zc e2;omega⟩,hg.block g hl hk.2⟩
 refine(hL.2.move hm).snoc (hc.move fun g hk hl=>hm g ⟨hk.1,?_⟩ hl);rcases hb with e | e
 . rw[e];exact fun e2=>hk.2 (zc e2)
 . rw[e];exact fun e2=>by cases e2
theorem vm {p:Nat->Prop} (h:∃ m,p m):∃ m,p m/\∀ k,p k->m<=k:=by
 obtain⟨m,hm⟩:=h
 induction m using Nat.strongRecOn with
 | _ m ih =>
  by_cases hx:∃ k,k<m/\p k
  . obtain⟨k,hk,hp⟩:=hx;exact ih k hk hp
  . exact⟨m,hm,fun k hp=>Nat.le_of_not_lt fun hl=>hx ⟨k,hl,hp⟩⟩
open Classical in
noncomputable def least (p:Nat->Prop):Nat:=if h:∃ m,p m then(vm h).choose else 0
theorem zdx {p:Nat->Prop} (h:∃ m,p m):p (least p):=by
 unfold least;rw[dif_pos h];exact(vm h).choose_spec.1
theorem uP {p:Nat->Prop} {k:Nat} (h:p k):least p<=k:=by
 unfold least;rw[dif_pos ⟨k,h⟩];exact(vm ⟨k,h⟩).choose_spec.2 k h
end
section
open Go.RowKit
def Stable {β:Type} (B:Nat) (J:β->World->Prop):Prop:=∀ s W W',J s W->Below B W W'->J s W'
def Iterates {α:Type} (F:Fence) (n:Nat) (P:Program) (g:Nat) (lb:Array Value) (encs:α->Array Value) (Kp:World->World->Prop) (S Sp:List α->Prop) (N:Nat) (w:World):Prop :=
 ∀(l:Nat) (J Jx:List α->World->Prop) (W:World),Below w.heap.size w W->Stable W.heap.size J->Stable W.heap.size Jx ->
  (∀ pre x W1,J pre W1->pre.length<N->YieldAt F (n-1) P l (encs x) W1 fun e W'=>(e=.returned (.bool true)/\J (pre++[x]) W'/\Kp W1 W')∨(e=.returned (.bool false)/\Jx (pre++[x]) W')) ->
  J [] W->CallsIn F n P g (#[.func (.yield l) #[] #[]]++lb) W fun e W'=>(∃ v,e=.returned v)/\((∃ xs,S xs/\J xs W')∨(∃ pre,Sp pre/\Jx pre W'))
theorem xv {B:Nat} (W:World) (l:Nat) (o:Obj) (h:B<=l):Below B W (W.putObj l o):=⟨rfl,rfl,rfl,by simp,fun i hi=>World.putObj_heap_other (by omega)⟩
section
variable {F : Fence} {n : Nat} {P : Program}
structure Book (b:Nat) (r:Loop) (W:World):Prop where
 loop:W.heap[b+1]? = some (.loop r)
 defer_:W.heap[b]? = some (.deferred (some []))
theorem Book.below {b:Nat} {r:Loop} {W W':World} (h:Book b r W) (hb:Below (b+2) W W'):Book b r W':=⟨(hb.block _ (by omega)).trans h.loop,(hb.block _ (by omega)).trans h.defer_⟩
theorem Book.kept {b:Nat} {r:Loop} {W W':World} (h:Book b r W) (hk:KeepsOthers W W'):Book b r W':=⟨hk.same _ _ h.loop rfl,hk.same _ _ h.defer_ rfl⟩
theorem Book.put {b:Nat} {r r':Loop} {W:World} (h:Book b r W):Book b r' (W.putObj (b+1) (.loop r')):=⟨World.putObj_heap_same (Array.getElem?_eq_some_iff.1 h.loop).1,(World.putObj_heap_other (by omega)).trans h.defer_⟩
theorem xT {α:Type} {g:Operand} {ps:Array Tmp} {assign body:Code} {Q:Exit->Act->World->Prop} {a:Act} {w:World}
 (hro:F.round=none) (h1:1<=n) {gf:Nat} {lb:Array Value} (hg:a.eval g=.func (.func gf) #[] lb) (hFg:F.fn gf) (eg:∀ args w,(callFunc gf args).run P w=.ok (.enter gf args) w)
 {encs:α->Array Value} {Kp:World->World->Prop} {S Sp:List α->Prop} {N:Nat} {w0:World} (hseq:Iterates F (n-1) P gf lb encs Kp S Sp N w0)
 (hKt:∀{A B C:World},Kp A B->Kp B C->Kp A C) (hKb:∀(W:World) (l:Nat) (o o':Obj),w.heap.size<=l->W.heap[l]? = some o->o.isCells=false->o.isWalk=false->Kp W (W.putObj l o')) (hb0:Below w0.heap.size w0 w) (hps:∀ x,(encs x).size=ps.size)
 (I:List α->World->Prop) (Ix:Code->List α->World->Prop) (hI:Stable w.heap.size I) (hIx:∀ c,Stable w.heap.size (Ix c)) (h0:I [] w) (a₁:α->Act)
 (hassign:∀(l:Nat) (x:α) (W:World) (K:Act->World->Prop),K (a₁ x) W->assign.wpIn (F.inRound l) (n-1-1) P (Exit.then K (fun _ _ _=>False)) { tmps:=(ps.zip (encs x)).foldl (fun t (p,v)=>t.setIfInBounds p v) a.tmps,defers:=[] } W)
 (hbody:∀(l:Nat) (pre:List α) (x:α) (W:World),I pre W->pre.length<N->body.wpIn (F.inRound l) (n-1-1) P (ownPostK Kp I Ix (pre++[x]) W) (a₁ x) W)
 (hdone:∀(D:Nat) (xs:List α) (W:World),w.heap.size<=D->S xs->I xs W->W.heap[D]? = some (.deferred (some []))->Q .normal { a with defers:={ target:=.collected D,args:=#[] }::a.defers } W)
 (hstop:∀(D:Nat) (c:Code) (pre:List α) (W:World),w.heap.size<=D->Sp pre->Ix c pre W->W.heap[D]? = some (.deferred (some []))->c.wpIn F n P Q { a with defers:={ target:=.collected D,args:=#[] }::a.defers } W) :
 (Code.rangeFunc g ps assign body).wpIn F n P Q a w:=by
 refine wpIn_rangeFunc ?_;intro fn hfn;rw[hro];obtain⟨R,hR⟩:∃ R:LoopState->Option Code->Loop,R=fun st pe=>{ state:=st,pending:=pe,fn,tmps:=a.tmps,params:=ps,assign,body,defers:=w.heap.size }:=⟨_,rfl⟩;obtain⟨V,hV⟩:∃ V,(w.alloc (.deferred (some []))).alloc (.loop (R .ready none))=V:=⟨_,rfl⟩;have hsz:V.heap.size=w.heap.size+2:=by rw[← hV,World.size_alloc,World.size_alloc]
 have hbV:Below w.heap.size w V:=by rw[← hV];exact zB _ _
 have hB0:Book w.heap.size (R .ready none) V:=by
  have e1:(w.alloc (.deferred (some []))).heap[w.heap.size]? = some (.deferred (some [])):=World.alloc_heap_new w _;rw[← hV];exact⟨by have:=World.alloc_heap_new (w.alloc (.deferred (some []))) (.loop (R .ready none));rwa [World.size_alloc] at this,(Below.heap_alloc _ _ _ (Array.getElem?_eq_some_iff.1 e1).1).trans e1⟩
 have down:∀{A B:World},Below V.heap.size A B->Below w.heap.size A B:=fun h=>h.mono (by omega);have put:∀(W:World) (r:Loop),Below w.heap.size W (W.putObj (w.heap.size+1) (.loop r)):=fun W r=>xv W _ _ (by omega);refine⟨w.heap.size+1,[{ target:=.collected w.heap.size,args:=#[] }],V,{ target:=.fn (.func gf) lb,args:=#[.func (.yield (w.heap.size+1)) #[] #[]] },V,gf,#[.func (.yield (w.heap.size+1)) #[] #[]]++lb,V,?_,?_,?_,?_,fun _=>h1,?_⟩
 . rw[← hV,hR];exact run_enterLoop_outer _ _ _ _ _
 . simp only[resolve,hg];simp [go_sem]
 . intro f' hf';simp [Target.leads] at hf';subst hf';exact hFg
 . simp [invoke,go_sem,eg]
 . refine(hseq (w.heap.size+1) (fun pre W=>I pre W/\Book w.heap.size (R .ready none) W) (fun pre W=>∃ c,Ix c pre W/\Book w.heap.size (R .done (some c)) W) V (hb0.trans (hbV.mono hb0.size))
    (fun s A B h hb=>⟨hI s A B h.1 (down hb),h.2.below (by rwa [hsz] at hb)⟩)
    (fun s A B h hb=>by
     obtain⟨c,hc,hk⟩:=h;exact⟨c,hIx c s A B hc (down hb),hk.below (by rwa [hsz] at hb)⟩)
    ?_ ⟨hI [] w V h0 hbV,hB0⟩).mono ?_
   . rintro pre x W ⟨hi,hk⟩ hlen;have hy:=run_yield (P:=P) (args:=encs x) hk.loop (by rw[hR];exact hps x);rw[hR] at hy;refine⟨fn,_,assign,body,hy,roundIn_of_wpIn hfn (hassign _ x W _ ⟨_,run_beginRound hk.loop (by rw[hR]),?_⟩)⟩;have hk2:Book w.heap.size { R .ready none with state:=.busy } (W.putObj (w.heap.size+1) (.loop { R .ready none with state:=.busy })):=hk.put;have hw2:Kp W (W.putObj (w.heap.size+1) (.loop { R .ready none with state:=.busy })):=hKb _ _ _ _ (by omega) hk.loop rfl rfl;refine wpIn_mono (hbody _ pre x _ (hI _ _ _ hi (put _ _)) hlen) ?_;have fin:∀(jump:Option Code) (W3:World),KeepsOthers (W.putObj (w.heap.size+1) (.loop { R .ready none with state:=.busy })) W3 ->
      Book w.heap.size { R .ready none with state:=.busy } W3/\(Instr.endRound (w.heap.size+1) jump).run P W3=.ok (.bool jump.isNone) (W3.putObj (w.heap.size+1) (.loop (R (if jump.isNone then .ready else .done) jump))):=fun jump W3 h3=>by
      have h4:=hk2.kept h3;have h5:=run_endRound (P:=P) jump h4.loop;rw[hR] at h5 h4 ⊢;exact⟨h4,h5⟩
     rintro e a3 W3 hp;cases e with
     | normal =>
      obtain⟨h3,hkp3,hi3⟩:=hp;obtain⟨h4,hr⟩:=fin none W3 h3;exact⟨_,_,hr,.inl ⟨rfl,⟨hI _ _ _ hi3 (put _ _),h4.put⟩,hKt (hKt hw2 hkp3) (hKb _ _ _ _ (by omega) h4.loop rfl rfl)⟩⟩
     | ret =>
      obtain⟨h3,hi3⟩:=hp;obtain⟨h4,hr⟩:=fin (some .ret) W3 h3;exact⟨_,_,hr,.inr ⟨rfl,.ret,hIx _ _ _ _ hi3 (put _ _),h4.put⟩⟩
     | exit id =>
      obtain⟨h3,hi3⟩:=hp;obtain⟨h4,hr⟩:=fin (some (.exit id)) W3 h3;exact⟨_,_,hr,.inr ⟨rfl,.exit id,hIx _ _ _ _ hi3 (put _ _),h4.put⟩⟩
     | goto t =>
      obtain⟨h3,hi3⟩:=hp;obtain⟨h4,hr⟩:=fin (some (.goto t)) W3 h3;exact⟨_,_,hr,.inr ⟨rfl,.goto t,hIx _ _ _ _ hi3 (put _ _),h4.put⟩⟩
     | panic ch=>exact hp.elim
     | outgrown=>exact hp.elim
   . rintro e W2 ⟨⟨v,rfl⟩,(⟨xs,hS,hi,hk⟩ | ⟨pre,hSp,c,hi,hk⟩)⟩
     . have h5:=run_endLoop (P:=P) hk.loop (by rw[hR];simp);rw[hR] at h5;exact⟨none,_,h5,hdone _ xs _ (Nat.le_refl _) hS (hI _ _ _ hi (put _ _)) hk.put.defer_⟩
     . have h5:=run_endLoop (P:=P) hk.loop (by rw[hR];simp);rw[hR] at h5;exact⟨some c,_,h5,hstop _ c pre _ (Nat.le_refl _) hSp (hIx c _ _ _ hi (put _ _)) hk.put.defer_⟩
end
end
section
open Go.RowKit Go.Shelf
attribute [local go_sem] Oper.semAt_some
def encP (x:Int×Nat):Array Value:=#[.int .i64 (x.2:Nat),.int .i64 x.1]
mutual
theorem tQ (d:Nat):∀ x:Nd,1<=(x.parts d).length
 | .mk h l a=>by show 1<=((h.pos,d)::_).length;simp
end
theorem uA (d:Nat):∀ l:List Nd,l.length<=(partsN d l).length
 | []=>Nat.zero_le _
 | x::r=>by
  show r.length+1<=(x.parts d++partsN d r).length;rw[List.length_append];have:=tQ d x;have:=uA d r;omega
theorem rz (d:Nat):∀ l:List (Nd×Nd),l.length<=(partsA d l).length
 | []=>Nat.zero_le _
 | (x,y)::r=>by
  show r.length+1<=(x.parts d++(y.parts d++partsA d r)).length;rw[List.length_append,List.length_append];have:=tQ d x;have:=rz d r;omega
theorem sP (g:Grp):g.ps.length+g.es.length+g.ar.length<=g.rest.length:=by
 unfold Grp.rest;rw[List.length_append,List.length_append];have:=uA g.d g.ps;have:=uA g.d g.es;have:=rz g.d g.ar;omega
theorem zbS (St:List Grp) (h:∀ g∈St,g.left):St.length<=(restS St).length:=by
 induction St with
 | nil=>exact Nat.zero_le _
 | cons a St ih =>
  show St.length+1<=(restS St++a.rest).length;rw[List.length_append];have h1:=ih fun g hg=>h g (by simp [hg]);have h2:=sP a;have h3:=h a (by simp);unfold Grp.left at h3;omega
def OpenAt (B:Nat) (X:Nat->Prop) (P:List (Int×Nat)) (J:List (Int×Nat)->World->Prop) (m:Nat) (v:Value) (w:World):Prop :=
 ∃ pre St,m=(restS St).length/\P=pre++restS St/\SRow B X w v St/\(∀ g∈St,g.left/\g.d<=pre.length+1)/\J pre w/\B<=w.heap.size
theorem infoGrp:(Tryz.prog.info? 162).map (fun i=>(i.zero,i.size,i.bytes))=some (some (.agg #[.slice none 0 0,.slice none 0 0,.slice none 0 0,.int .i64 0]),4,80):=by kernel_rfl
theorem ze3:∃ i:TypeInfo, Tryz.prog.info? 162 = some i/\i.zero=some (.agg #[.slice none 0 0,.slice none 0 0,.slice none 0 0,.int .i64 0])/\i.size=4/\i.bytes=80:=by
 have h:=infoGrp;cases hi : Tryz.prog.info? 162 with
 | none=>rw[hi] at h;cases h
 | some i =>
  rw[hi] at h;have h:=zc h;exact⟨i,rfl,congrArg (fun x=>x.1) h,congrArg (fun x=>x.2.1) h,congrArg (fun x=>x.2.2) h⟩
theorem GIs.slices {w:World} {N:Nat->Prop} {u1 u2 u3 u4:Value} {g:Grp} (h:GIs w N [u1,u2,u3,u4] g):∃ a1 c1 a2 c2 a3 c3,u1=.slice a1 g.ps.length c1/\u2=.slice a2 g.es.length c2/\u3=.slice a3 g.ar.length c3/\u4=.int .i64 (g.d:Nat):=by
 obtain⟨v1,v2,v3,h0,⟨L1,⟨a1,c1,rfl,_⟩,_⟩,⟨L2,⟨a2,c2,rfl,_⟩,_⟩,L3,⟨a3,c3,rfl,_⟩,_⟩:=h;simp only[List.cons.injEq,and_true] at h0;obtain⟨rfl,rfl,rfl,rfl⟩:=h0;exact⟨a1,c1,a2,c2,a3,c3,rfl,rfl,rfl,rfl⟩
theorem last_left {B:Nat} {X:Nat->Prop} {w:World} {b cap:Nat} {Q:List Grp} {t:Grp} (h:SRow B X w (.slice (some ⟨b,0,none⟩) (Q.length+1) cap) (Q++[t])) (h1:t.ps.length<=100000/\t.es.length<=100000/\t.ar.length<=100000) :
 Calls Tryz.prog 111 #[.pointer (some ⟨b,Q.length*4,none⟩)] w (YesMade (decide t.left) w):=by
 obtain⟨b',cap',cur,v1,v2,v3,L0,_,_,hv,_,_,_,k1,k2,k3,_,⟨L1,⟨a1,c1,rfl,_⟩,_⟩,⟨L2,⟨a2,c2,rfl,_⟩,_⟩,L3,⟨a3,c3,rfl,_⟩,_⟩:=h.last;have hv2:b=b':=by injection hv with h1;injection h1 with h1;injection h1
 subst hv2;exact zdO b (Q.length*4) a1 a2 a3 _ _ _ c1 c2 c3 h1.1 h1.2.1 h1.2.2 w k1 k2 k3
theorem start_row {W:World} {X:Nat->Prop} {x:Nd} {s:Sl} {EX GR:Obj} (hEX:EX=.cells (exL x s).toArray 27 (0,0)) (hGR:GR=.cells ([.slice none 0 0,.slice (some ⟨W.heap.size,0,none⟩) 1 1,.slice none 0 0,.int .i64 ((1:Nat):Int)]:List Value).toArray 162 (0,0)) (hx:IsE W (fun g=>¬X g) (exL x s) x) (hX:∀ g,X g->g<W.heap.size) :
 SRow W.heap.size X ((W.alloc EX).alloc GR) (.slice (some ⟨W.heap.size+1,0,none⟩) 1 1) [⟨[],[x],[],1⟩]:=by
 subst hEX hGR;have h1:((W.alloc (.cells (exL x s).toArray 27 (0,0))).alloc (.cells ([.slice none 0 0,.slice (some ⟨W.heap.size,0,none⟩) 1 1,.slice none 0 0,.int .i64 ((1:Nat):Int)]:List Value).toArray 162 (0,0))).heap[W.heap.size]? = some (.cells (exL x s).toArray 27 (0,0)):=((zj _).block _ (by rw[World.size_alloc];omega)).trans (zA W _ _ rfl);have h2:=World.ownsRow_lit (base:=W.heap.size) (e := 162) (size:=4) (W.alloc (.cells (exL x s).toArray 27 (0,0))) ([.slice none 0 0,.slice (some ⟨W.heap.size,0,none⟩) 1 1,.slice none 0 0,.int .i64 ((1:Nat):Int)]:List Value).toArray 1 (by rw[World.size_alloc];omega) (by unfold maxLen;omega) rfl;rw[World.size_alloc] at h2;refine⟨[[.slice none 0 0,.slice (some ⟨W.heap.size,0,none⟩) 1 1,.slice none 0 0,.int .i64 ((1:Nat):Int)]],h2,⟨_,_,_,rfl,uZ _ _ _ _,⟨[exL x s],⟨_,_,rfl,Nat.le_refl _,.inr ⟨W.heap.size,0,rfl,⟨fun h=>?_,fun e=>?_⟩,⟨_,_,_,h1⟩,fun i u hu=>?_⟩⟩,hx.move (fun g hg hl=>⟨⟨hg,fun e=>?_⟩,(zB _ _).block g hl⟩),trivial⟩,qG _ _ _ _⟩,trivial⟩
 . exact absurd (hX _ h) (Nat.lt_irrefl _)
 . have h9:W.heap.size=W.heap.size+1:=zc e;omega
 . rw[zf h1,Nat.zero_add,List.getElem?_toArray]
   rwa [List.flatten_singleton] at hu
 . have h9:g=W.heap.size+1:=zc e;omega
theorem World.ownsRow.mono0 {w:World} {B:Nat} {e:TypeId} {size:Nat} {v:Value} {n:Nat} {xs:List Value} (h:w.ownsRow B e size v n xs):w.ownsRow 0 e size v n xs:=⟨h.1,h.2.imp id fun⟨g,cap,cur,h1,_,h3⟩=>⟨g,cap,cur,h1,Nat.zero_le _,h3⟩⟩
theorem list_snoc {α:Type} (l:List α):l=[]∨∃ m x,l=m++[x]:=list_end l
theorem zc5 (n:Nat) (hn:1<=n) (be:Nat) (x:Nd) (s:Sl) (X:Nat->Prop) (w:World) (hb:ExBox w be x s) (hX:∀ g,X g->g<w.heap.size) (hx:IsE w (fun g=>¬X g) (exL x s) x) (hbx:¬X be) (hlen:(x.parts 1).length<=70000) :
 Iterates Fence.wide n Tryz.prog 109 #[.pointer (some ⟨be,0,none⟩)] encP (KeepsX X) (fun xs=>xs=x.parts 1) (fun pre=>pre <+: x.parts 1) (x.parts 1).length w:=by
 intro l J Jx W hW hJ hJx hY h0;have HB:=zb (hb.below hW);have HI:=zb (hx.below hW);have HX:Hid (∀ g,X g->g<W.heap.size):=zb (fun g hg=>zd (hX g hg) hW.size);have HLEN:=zb hlen;have HJ:=zb (And.intro hJ hJx);have HY:=zb hY;have HJ0:=zb h0;have HN:=zb hn;clear hb hX hx hlen hJ hJx hY h0 hW hn;refine callsIn_of_wp Tryz.func109 rfl trivial ?_ rfl;simp only[Tryz.ntmps109,List.size_toArray,List.length_cons,List.length_nil,Nat.reduceAdd,Nat.reduceSub,Array.replicate_succ,Array.replicate_zero,List.push_toArray,List.append_toArray,List.nil_append,List.cons_append];obtain⟨e0,e1,e2,e3,e4,e5,e6,e7,_⟩:=Box8.cells HB.out
 gi_wp2
 have HS0:=zb (start_row (s:=s) rfl rfl HI.out HX.out);have HW0:=zb (zB (w:=W) (.cells (exL x s).toArray 27 (0,0)) (.cells ([.slice none 0 0,.slice (some ⟨W.heap.size,0,none⟩) 1 1,.slice none 0 0,.int .i64 ((1:Nat):Int)]:List Value).toArray 162 (0,0)))
 gi_loopw [3] (fun v wr=>∃ m,OpenAt W.heap.size X (x.parts 1) J m v wr) (fun v wr=>least (fun m=>OpenAt W.heap.size X (x.parts 1) J m v wr))
 case atStart =>
  refine⟨_,[],[⟨[],[x],[],1⟩],rfl,?_,HS0.out,?_,HJ.out.1 _ _ _ HJ0.out HW0.out,?_⟩
  . show x.parts 1=[]++([]++([]++((x.parts 1++[])++[])));simp
  . intro g hg;obtain rfl:=List.mem_singleton.1 hg;exact⟨by show 0<0+1+0;omega,Nat.le_refl _⟩
  . have:=HW0.out.size;exact this
 case round =>
  clear HS0 HW0 HJ0 e0 e1 e2 e3 e4 e5 e6 e7;have hls:=zdx hrel;obtain⟨m0,hm0⟩:∃ m,m=least (fun m=>OpenAt W.heap.size X (x.parts 1) J m u3 wr):=⟨_,rfl⟩;rw[← hm0] at hls;clear hrel;obtain⟨pre,St,hm,hP,hS,hA,hJp,hBw⟩:=hls;rcases list_snoc St with rfl | ⟨Q,t,rfl⟩
  . obtain⟨a0,c0,rfl⟩:∃ a c,u3=.slice a 0 c:=by
     obtain⟨L,h1,_⟩:=hS;exact(RowIn.form (vD (N:=fun _=>True) (Go.Proofs.YtblonfjlcfjodaaGreatDoor.World.ownsRow.mono0 h1) fun _ _=>trivial))
    have hPP:x.parts 1=pre:=by rw[hP];show pre++[]=pre;simp
    clear hm hS hA hP
    gi_wp2
    go_end0
    exact⟨⟨_,rfl⟩,.inl ⟨pre,hPP.symm,hJp⟩⟩
  . have hrs:=zT Q t;have hmt:=hA t (by simp);have hgl:=sP t;have hP2:=congrArg List.length hP;rw[List.length_append,hrs,List.length_append] at hP2;have hNL:=HLEN.out;have hQc:=zbS Q (fun g hg=>(hA g (by simp [hg])).1);obtain⟨b,cap,rfl,HC⟩:=p_next hS HX.out hBw hmt.1 ⟨by omega,by omega,by omega⟩ (by omega);obtain⟨b',cap',cur,v1,v2,v3,L0,_,_,hv,hcap,hbB,hblk,k1,k2,k3,k4,_⟩:=hS.last;have hv2:b=b':=by injection hv with h1;injection h1 with h1;injection h1
    have hv3:cap=cap':=by injection hv
    subst hv2 hv3;have w1:IntKind.i64.wrap ((Q.length:Int)+1-1)=Q.length:=(IntWalk.i64_in _ (by omega)).trans (by omega);have w2:(0:Int)<(Q.length:Int)+1:=by omega
    have w3:(Q.length:Int)<(Q.length:Int)+1:=by omega
    have hQl:Q.length<=90000:=by omega
    have HBB:=zb hbB;have HCAP:=zb hcap;have HFIX:=zb (And.intro hrs (And.intro hmt (And.intro hgl hP2)));have HH:=zb (And.intro hm (And.intro hP (And.intro hA (And.intro hJp hBw))));have HSS:=zb hS;have HCC:=zb HC;clear hQc hrs hmt hgl hP2 hNL hm hP hS hA hJp hBw HC hv k1 k2 k3 hcap hbB
    gi_wp2
    refine⟨trivial,fun h=>(by cases h),(callsIn_wide.2 HCC.out).mono ?_⟩;rintro e w2 ⟨q,u1,u2,u3',t',ch,rfl,hrest,hcd,htd,hch,hS2,hgr⟩;obtain⟨a1,c1,a2,c2,a3,c3,rfl,rfl,rfl,_⟩:=hch.slices;have hbw2:Below W.heap.size wr w2:=⟨hgr.os,hgr.tape,hgr.output,hgr.size,fun i hi=>hgr.block i (by have:=HH.out.2.2.2.2;omega) (fun e=>by have h9:i=b:=zc e;have:=HBB.out;omega)⟩;have hbx:=zj (w:=w2) (.cells #[.slice a1 ch.ps.length c1,.slice a2 ch.es.length c2,.slice a3 ch.ar.length c3,.int .i64 ((t.d:Int)+1)] 162 (0,0));have hW2:W.heap.size<=w2.heap.size:=Nat.le_trans HH.out.2.2.2.2 hgr.size;have hJ3:=HJ.out.1 _ _ _ HH.out.2.2.2.1 (hbw2.trans (hbx.mono hW2));have hPl:pre.length<(x.parts 1).length:=by
     have h1:=HFIX.out.2.2.2;have h2:=HFIX.out.1;rw[hrest] at h1;simp only[List.length_cons] at h1;omega
    obtain⟨fn,tmps,assign,body,hy,hR⟩:=HY.out pre (q,t.d) _ hJ3 hPl;dsimp only[encP] at hy;have HT:=zb (And.intro hrest (And.intro hcd htd));have HCH:=zb hch;have HS2:=zb hS2;have HBX:=zb hbx;have HW2:=zb hW2;clear hrest hcd htd hch hS2 hgr hbw2 hbx hW2 hJ3 hPl HSS
    gi_wp2
    refine⟨fun _=>HN.out,hR.mono ?_⟩;rintro e W3 (⟨rfl,hJ3,hk3⟩ | ⟨rfl,hJx3⟩)
    . have hbc:CellsIn (w2.alloc (.cells #[.slice a1 ch.ps.length c1,.slice a2 ch.es.length c2,.slice a3 ch.ar.length c3,.int .i64 ((t.d:Int)+1)] 162 (0,0))) w2.heap.size:=⟨_,_,_,zA w2 _ _ rfl⟩;have HB3:Hid (W3.heap[w2.heap.size]? = some (.cells #[.slice a1 ch.ps.length c1,.slice a2 ch.es.length c2,.slice a3 ch.ar.length c3,.int .i64 ((t.d:Int)+1)] 162 (0,0))):=zb ((hk3.2 _ (fun h=>by have:=HX.out _ h;have:=HW2.out;omega) hbc).trans (zA w2 _ _ rfl));have HS3:=zb ((HS2.out.move (w':=w2.alloc (.cells #[.slice a1 ch.ps.length c1,.slice a2 ch.es.length c2,.slice a3 ch.ar.length c3,.int .i64 ((t.d:Int)+1)] 162 (0,0))) HX.out (fun g _ hl=>HBX.out.block g hl)).kept HX.out hk3);have HCH3:=zb ((HCH.out.move (w':=w2.alloc (.cells #[.slice a1 ch.ps.length c1,.slice a2 ch.es.length c2,.slice a3 ch.ar.length c3,.int .i64 ((t.d:Int)+1)] 162 (0,0))) (fun g hg hl=>⟨hg,HBX.out.block g hl⟩)).kept hk3);have HJ3:=zb hJ3;have HW3:Hid (W.heap.size<=W3.heap.size/\w2.heap.size<W3.heap.size):=zb ⟨by have h1:=hk3.1;rw[World.size_alloc] at h1;have h2:=HW2.out;omega,zp HB3.out⟩;have HLE:Hid ((t'.ps.length<=100000/\t'.es.length<=100000/\t'.ar.length<=100000)/\(ch.ps.length<=100000/\ch.es.length<=100000/\ch.ar.length<=100000)/\Q.length<=90000):=zb (by
       have h1:=congrArg List.length HT.out.1;simp only[List.length_cons,List.length_append] at h1;have h2:=sP t';have h3:=sP ch;have h4:=HFIX.out.2.2.2;have h5:=HLEN.out;omega)
      clear hbc hk3 hJ3 hy hR HBX HS2 HCH HCC;have HLL:=zb (last_left HS3.out HLE.out.1)
      gi_wp2
      refine⟨trivial,fun h=>(by cases h),(callsIn_wide.2 HLL.out).mono ?_⟩;rintro e w5 ⟨rfl,hb5⟩;have HS4:=zb (HS3.out.move HX.out (fun g _ hl=>hb5.block g hl));have HCH5:=zb (HCH3.out.move (w':=w5) (fun g hg hl=>⟨hg,hb5.block g hl⟩));have HB5:=zb ((hb5.block _ HW3.out.2).trans HB3.out);have HJ5:=zb (HJ.out.1 _ _ _ HJ3.out (hb5.mono HW3.out.1));have HW5:Hid (W.heap.size<=w5.heap.size/\True):=zb ⟨Nat.le_trans HW3.out.1 hb5.size,trivial⟩;clear hb5 HLL HS3 HCH3 HB3 HJ3;by_cases htl:t'.left
      . rw[decide_eq_true htl];have HALL2:Hid (∀ g∈Q++[t'],g.left):=zb (fun g hg=>by
         rcases List.mem_append.1 hg with hg | hg
         . exact(HH.out.2.2.1 g (by simp [hg])).1
         . obtain rfl:=List.mem_singleton.1 hg;exact htl)
        have HS5:=HS4;clear HS4;have HALL:Hid (∀ g,(g∈(Q++[t'])∨g=ch)->(g=ch->ch.left)->g.left/\g.d<=(pre++[(q,t.d)]).length+1):=zb (fun g hg hc=>by
         have hA9:=HH.out.2.2.1;have hd9:=(HFIX.out.2.1).2;simp only[List.length_append,List.length_cons,List.length_nil];by_cases hgc:g=ch
         . rw[hgc];exact⟨hc hgc,by have:=HT.out.2.1;omega⟩
         . rcases hg with hg | hg
           . rcases List.mem_append.1 hg with hg | hg
             . exact⟨(hA9 g (by simp [hg])).1,by have:=(hA9 g (by simp [hg])).2;omega⟩
             . obtain rfl:=List.mem_singleton.1 hg;exact⟨htl,by have:=HT.out.2.2;omega⟩
           . exact absurd hg hgc)
        obtain⟨c0,c1',c2',c3',_⟩:=tP HB5.out;have hbl:=zp HB5.out;have HL2:=zb (zdO w2.heap.size 0 a1 a2 a3 _ _ _ c1 c2 c3 HLE.out.2.1.1 HLE.out.2.1.2.1 HLE.out.2.1.2.2 w5 c0 (by simpa using c1') (by simpa using c2'))
        gi_wp2
        refine⟨trivial,fun h=>(by cases h),(callsIn_wide.2 HL2.out).mono ?_⟩;rintro e w6 ⟨rfl,hb6⟩;have HS6:=zb (HS5.out.move HX.out (fun g _ hl=>hb6.block g hl));have HCH6:=zb (HCH5.out.move (w':=w6) (fun g hg hl=>⟨hg,hb6.block g hl⟩));have HB6:=zb ((hb6.block _ hbl).trans HB5.out);have HJ6:=zb (HJ.out.1 _ _ _ HJ5.out (hb6.mono HW5.out.1));have HW6:Hid (W.heap.size<=w6.heap.size):=zb (Nat.le_trans HW5.out.1 hb6.size);clear c0 c1' c2' c3' hbl hb6 HL2 HS5 HCH5 HB5 HJ5;by_cases hcl:ch.left
        . rw[show decide (0<ch.ps.length+ch.es.length+ch.ar.length)=true from decide_eq_true hcl]
          obtain⟨c0,c1',c2',c3',_⟩:=tP HB6.out;have hbl:=zp HB6.out;have hbx:=zj (w:=w6) (.cells #[.slice a1 ch.ps.length c1,.slice a2 ch.es.length c2,.slice a3 ch.ar.length c3,.int .i64 ((t.d:Int)+1)] 162 (0,0));have HS7:=zb (HS6.out.move HX.out (fun g _ hl=>hbx.block g hl));have HCH7:=zb (HCH6.out.move (w':=w6.alloc (.cells #[.slice a1 ch.ps.length c1,.slice a2 ch.es.length c2,.slice a3 ch.ar.length c3,.int .i64 ((t.d:Int)+1)] 162 (0,0))) (fun g hg hl=>⟨hg,hbx.block g hl⟩));obtain⟨L,hL⟩:=HS7.out;have hsrc:∀(j:Nat) (u:Value),([.slice a1 ch.ps.length c1,.slice a2 ch.es.length c2,.slice a3 ch.ar.length c3,.int .i64 ((t.d:Int)+1)]:List Value)[j]? = some u->(w6.alloc (.cells #[.slice a1 ch.ps.length c1,.slice a2 ch.es.length c2,.slice a3 ch.ar.length c3,.int .i64 ((t.d:Int)+1)] 162 (0,0))).cell? ((⟨w6.heap.size,0,none⟩:Addr).add j)=some u:=by
           intro j u hj;rw[Addr.add_lit,zf (zA w6 _ _ rfl)]
           simpa using hj
          have hone:∀ u∈([.slice a1 ch.ps.length c1,.slice a2 ch.es.length c2,.slice a3 ch.ar.length c3,.int .i64 ((t.d:Int)+1)]:List Value),u.oneCell'=true:=by
           intro u hu;simp only[List.mem_cons,List.not_mem_nil,or_false] at hu;rcases hu with rfl | rfl | rfl | rfl <;> rfl
          have hown:=hL.1;rw[List.length_append] at hown;have hm1:(Q.length+1)+1<=maxLen:=by have:=HLE.out.2.2;unfold maxLen;omega
          have hm2:((Q.length+1)+1)*80<=140737488355328:=by have:=HLE.out.2.2;omega
          have hbase:W.heap.size<=(w6.alloc (.cells #[.slice a1 ch.ps.length c1,.slice a2 ch.es.length c2,.slice a3 ch.ar.length c3,.int .i64 ((t.d:Int)+1)] 162 (0,0))).heap.size:=by rw[World.size_alloc];have:=HW6.out;omega
          obtain⟨i1,hi1,hi2,hi3,hi4⟩:=ze3
          gi_wp2_with (gi_at_builtin;refine wpListIn_append_own_at _ rfl (.tmp 43) (.tmp 45) 163 rfl W.heap.size 162 i1 _ 4 80 Tryz.underlying163 hi1 hi2 hi3 hi4 rfl (by decide) _ _ _ rfl hown ⟨w6.heap.size,0,none⟩ 1 1 [.slice a1 ch.ps.length c1,.slice a2 ch.es.length c2,.slice a3 ch.ar.length c3,.int .i64 ((t.d:Int)+1)] rfl rfl hsrc hone hm1 hm2 hbase ?_)
          intro v7 w7 hown7 hgr7 hnn7 hat7;have HS8:Hid (SRow W.heap.size X w7 v7 ((Q++[t'])++[ch])):=zb (by
           rw[← World.size_alloc w6 (.cells #[.slice a1 ch.ps.length c1,.slice a2 ch.es.length c2,.slice a3 ch.ar.length c3,.int .i64 ((t.d:Int)+1)] 162 (0,0))] at hat7;refine SRow.push (b:=b) (.inl rfl) (HCH7.out) L hL ?_ hgr7 hat7;rw[List.length_append];rw[HT.out.2.1];exact hown7)
          have hbw7:Below W.heap.size w6 w7:=(hbx.mono HW6.out).trans ⟨hgr7.os,hgr7.tape,hgr7.output,hgr7.size,fun i hi=>hgr7.block i (by rw[World.size_alloc];have:=HW6.out;omega) (fun e=>by have h9:i=b:=zc e;have:=HBB.out;omega)⟩;have HJ8:=zb (HJ.out.1 _ _ _ HJ6.out hbw7);obtain⟨a7,n7,c7,rfl⟩:∃ a n c,v7=.slice a n c:=by
           obtain⟨L8,h8,_⟩:=HS8.out;obtain⟨a,c,h9⟩:=RowIn.form (vD (N:=fun _=>True) (Go.Proofs.YtblonfjlcfjodaaGreatDoor.World.ownsRow.mono0 h8) fun _ _=>trivial);exact⟨a,_,c,h9⟩
          have hsz7:=hbw7.size;clear hown7 hgr7 hnn7 hat7 hsrc hone hown hm1 hm2 hL c0 c1' c2' c3' hbl hbx HS7 HCH7 hbw7
          gi_wp2
          go_roundw
          case rel=>exact⟨_,pre++[(q,t.d)],(Q++[t'])++[ch],rfl,by rw[HH.out.2.1,HFIX.out.1,HT.out.1,zT (Q++[t']) ch,zT Q t'];simp,HS8.out,fun g hg=>HALL.out g (by rcases List.mem_append.1 hg with h | h;exact .inl h;exact .inr (List.mem_singleton.1 h)) (fun _=>hcl),HJ8.out,by have:=HW6.out;omega⟩
          case measure =>
           refine Nat.lt_of_le_of_lt (uP (k:=(restS ((Q++[t'])++[ch])).length) ⟨pre++[(q,t.d)],(Q++[t'])++[ch],rfl,by rw[HH.out.2.1,HFIX.out.1,HT.out.1,zT (Q++[t']) ch,zT Q t'];simp,HS8.out,fun g hg=>HALL.out g (by rcases List.mem_append.1 hg with h | h;exact .inl h;exact .inr (List.mem_singleton.1 h)) (fun _=>hcl),HJ8.out,by have:=HW6.out;omega⟩) ?_;rw[← hm0,HH.out.1,HFIX.out.1,HT.out.1,zT (Q++[t']) ch,zT Q t'];simp
        . rw[show decide (0<ch.ps.length+ch.es.length+ch.ar.length)=false from decide_eq_false hcl]
          gi_wp2
          go_roundw
          case rel=>exact⟨_,pre++[(q,t.d)],(Q++[t']),rfl,by rw[HH.out.2.1,HFIX.out.1,HT.out.1,zT Q t',yj hcl];simp,HS6.out,fun g hg=>HALL.out g (.inl hg) (fun e=>by rw[← e];exact(HALL2.out g hg)),HJ6.out,HW6.out⟩
          case measure =>
           refine Nat.lt_of_le_of_lt (uP (k:=(restS (Q++[t'])).length) ⟨pre++[(q,t.d)],(Q++[t']),rfl,by rw[HH.out.2.1,HFIX.out.1,HT.out.1,zT Q t',yj hcl];simp,HS6.out,fun g hg=>HALL.out g (.inl hg) (fun e=>by rw[← e];exact(HALL2.out g hg)),HJ6.out,HW6.out⟩) ?_;rw[← hm0,HH.out.1,HFIX.out.1,HT.out.1,zT Q t',yj hcl];simp
      . rw[decide_eq_false htl];have hca:(Q.length:Int)<=(cap:Int):=by have:=HCAP.out;omega
        have hcb:(0:Int)<=(Q.length:Int):=by omega
        have HALL2:Hid (∀ g∈Q,g.left):=zb (fun g hg=>(HH.out.2.2.1 g (by simp [hg])).1);have HS5:=zb HS4.out.pop;clear HS4;have HALL:Hid (∀ g,(g∈Q∨g=ch)->(g=ch->ch.left)->g.left/\g.d<=(pre++[(q,t.d)]).length+1):=zb (fun g hg hc=>by
         have hA9:=HH.out.2.2.1;have hd9:=(HFIX.out.2.1).2;simp only[List.length_append,List.length_cons,List.length_nil];by_cases hgc:g=ch
         . rw[hgc];exact⟨hc hgc,by have:=HT.out.2.1;omega⟩
         . rcases hg with hg | hg
           . exact⟨(hA9 g (by simp [hg])).1,by have:=(hA9 g (by simp [hg])).2;omega⟩
           . exact absurd hg hgc)
        obtain⟨c0,c1',c2',c3',_⟩:=tP HB5.out;have hbl:=zp HB5.out;have HL2:=zb (zdO w2.heap.size 0 a1 a2 a3 _ _ _ c1 c2 c3 HLE.out.2.1.1 HLE.out.2.1.2.1 HLE.out.2.1.2.2 w5 c0 (by simpa using c1') (by simpa using c2'))
        gi_wp2
        refine⟨trivial,fun h=>(by cases h),(callsIn_wide.2 HL2.out).mono ?_⟩;rintro e w6 ⟨rfl,hb6⟩;have HS6:=zb (HS5.out.move HX.out (fun g _ hl=>hb6.block g hl));have HCH6:=zb (HCH5.out.move (w':=w6) (fun g hg hl=>⟨hg,hb6.block g hl⟩));have HB6:=zb ((hb6.block _ hbl).trans HB5.out);have HJ6:=zb (HJ.out.1 _ _ _ HJ5.out (hb6.mono HW5.out.1));have HW6:Hid (W.heap.size<=w6.heap.size):=zb (Nat.le_trans HW5.out.1 hb6.size);clear c0 c1' c2' c3' hbl hb6 HL2 HS5 HCH5 HB5 HJ5;by_cases hcl:ch.left
        . rw[show decide (0<ch.ps.length+ch.es.length+ch.ar.length)=true from decide_eq_true hcl]
          obtain⟨c0,c1',c2',c3',_⟩:=tP HB6.out;have hbl:=zp HB6.out;have hbx:=zj (w:=w6) (.cells #[.slice a1 ch.ps.length c1,.slice a2 ch.es.length c2,.slice a3 ch.ar.length c3,.int .i64 ((t.d:Int)+1)] 162 (0,0));have HS7:=zb (HS6.out.move HX.out (fun g _ hl=>hbx.block g hl));have HCH7:=zb (HCH6.out.move (w':=w6.alloc (.cells #[.slice a1 ch.ps.length c1,.slice a2 ch.es.length c2,.slice a3 ch.ar.length c3,.int .i64 ((t.d:Int)+1)] 162 (0,0))) (fun g hg hl=>⟨hg,hbx.block g hl⟩));obtain⟨L,hL⟩:=HS7.out;have hsrc:∀(j:Nat) (u:Value),([.slice a1 ch.ps.length c1,.slice a2 ch.es.length c2,.slice a3 ch.ar.length c3,.int .i64 ((t.d:Int)+1)]:List Value)[j]? = some u->(w6.alloc (.cells #[.slice a1 ch.ps.length c1,.slice a2 ch.es.length c2,.slice a3 ch.ar.length c3,.int .i64 ((t.d:Int)+1)] 162 (0,0))).cell? ((⟨w6.heap.size,0,none⟩:Addr).add j)=some u:=by
           intro j u hj;rw[Addr.add_lit,zf (zA w6 _ _ rfl)]
           simpa using hj
          have hone:∀ u∈([.slice a1 ch.ps.length c1,.slice a2 ch.es.length c2,.slice a3 ch.ar.length c3,.int .i64 ((t.d:Int)+1)]:List Value),u.oneCell'=true:=by
           intro u hu;simp only[List.mem_cons,List.not_mem_nil,or_false] at hu;rcases hu with rfl | rfl | rfl | rfl <;> rfl
          have hown:=hL.1;have hm1:Q.length+1<=maxLen:=by have:=HLE.out.2.2;unfold maxLen;omega
          have hm2:(Q.length+1)*80<=140737488355328:=by have:=HLE.out.2.2;omega
          have hbase:W.heap.size<=(w6.alloc (.cells #[.slice a1 ch.ps.length c1,.slice a2 ch.es.length c2,.slice a3 ch.ar.length c3,.int .i64 ((t.d:Int)+1)] 162 (0,0))).heap.size:=by rw[World.size_alloc];have:=HW6.out;omega
          obtain⟨i1,hi1,hi2,hi3,hi4⟩:=ze3
          gi_wp2_with (gi_at_builtin;refine wpListIn_append_own_at _ rfl (.tmp 43) (.tmp 45) 163 rfl W.heap.size 162 i1 _ 4 80 Tryz.underlying163 hi1 hi2 hi3 hi4 rfl (by decide) _ _ _ rfl hown ⟨w6.heap.size,0,none⟩ 1 1 [.slice a1 ch.ps.length c1,.slice a2 ch.es.length c2,.slice a3 ch.ar.length c3,.int .i64 ((t.d:Int)+1)] rfl rfl hsrc hone hm1 hm2 hbase ?_)
          intro v7 w7 hown7 hgr7 hnn7 hat7;have HS8:Hid (SRow W.heap.size X w7 v7 (Q++[ch])):=zb (by
           rw[← World.size_alloc w6 (.cells #[.slice a1 ch.ps.length c1,.slice a2 ch.es.length c2,.slice a3 ch.ar.length c3,.int .i64 ((t.d:Int)+1)] 162 (0,0))] at hat7;refine SRow.push (b:=b) (.inl rfl) (HCH7.out) L hL ?_ hgr7 hat7;rw[HT.out.2.1];exact hown7)
          have hbw7:Below W.heap.size w6 w7:=(hbx.mono HW6.out).trans ⟨hgr7.os,hgr7.tape,hgr7.output,hgr7.size,fun i hi=>hgr7.block i (by rw[World.size_alloc];have:=HW6.out;omega) (fun e=>by have h9:i=b:=zc e;have:=HBB.out;omega)⟩;have HJ8:=zb (HJ.out.1 _ _ _ HJ6.out hbw7);obtain⟨a7,n7,c7,rfl⟩:∃ a n c,v7=.slice a n c:=by
           obtain⟨L8,h8,_⟩:=HS8.out;obtain⟨a,c,h9⟩:=RowIn.form (vD (N:=fun _=>True) (Go.Proofs.YtblonfjlcfjodaaGreatDoor.World.ownsRow.mono0 h8) fun _ _=>trivial);exact⟨a,_,c,h9⟩
          have hsz7:=hbw7.size;clear hown7 hgr7 hnn7 hat7 hsrc hone hown hm1 hm2 hL c0 c1' c2' c3' hbl hbx HS7 HCH7 hbw7
          gi_wp2
          go_roundw
          case rel=>exact⟨_,pre++[(q,t.d)],Q++[ch],rfl,by rw[HH.out.2.1,HFIX.out.1,HT.out.1,zT Q ch,yj htl];simp,HS8.out,fun g hg=>HALL.out g (by rcases List.mem_append.1 hg with h | h;exact .inl h;exact .inr (List.mem_singleton.1 h)) (fun _=>hcl),HJ8.out,by have:=HW6.out;omega⟩
          case measure =>
           refine Nat.lt_of_le_of_lt (uP (k:=(restS (Q++[ch])).length) ⟨pre++[(q,t.d)],Q++[ch],rfl,by rw[HH.out.2.1,HFIX.out.1,HT.out.1,zT Q ch,yj htl];simp,HS8.out,fun g hg=>HALL.out g (by rcases List.mem_append.1 hg with h | h;exact .inl h;exact .inr (List.mem_singleton.1 h)) (fun _=>hcl),HJ8.out,by have:=HW6.out;omega⟩) ?_;rw[← hm0,HH.out.1,HFIX.out.1,HT.out.1,zT Q ch,yj htl];simp
        . rw[show decide (0<ch.ps.length+ch.es.length+ch.ar.length)=false from decide_eq_false hcl]
          gi_wp2
          go_roundw
          case rel=>exact⟨_,pre++[(q,t.d)],Q,rfl,by rw[HH.out.2.1,HFIX.out.1,HT.out.1,yj htl,yj hcl];simp,HS6.out,fun g hg=>HALL.out g (.inl hg) (fun e=>by rw[← e];exact(HALL2.out g hg)),HJ6.out,HW6.out⟩
          case measure =>
           refine Nat.lt_of_le_of_lt (uP (k:=(restS Q).length) ⟨pre++[(q,t.d)],Q,rfl,by rw[HH.out.2.1,HFIX.out.1,HT.out.1,yj htl,yj hcl];simp,HS6.out,fun g hg=>HALL.out g (.inl hg) (fun e=>by rw[← e];exact(HALL2.out g hg)),HJ6.out,HW6.out⟩) ?_;rw[← hm0,HH.out.1,HFIX.out.1,HT.out.1,yj htl,yj hcl];simp
    . gi_wp2
      refine bodyPost_ret (results_none rfl _ _ _) rfl ?_;refine⟨⟨_,rfl⟩,.inr ⟨pre++[(q,t.d)],?_,hJx3⟩⟩;rw[HH.out.2.1,HFIX.out.1,HT.out.1];exact⟨ch.rest++t'.rest++restS Q,by simp⟩
end
section
open Go.RowKit Go.Shelf
attribute [local go_sem] Oper.semAt_some
theorem zg5 (x:Nd) (s:Sl) (w:World):Calls Tryz.prog 67 #[exOf x s] w (fun e w'=>e=.returned (.func (.func 109) #[] #[.pointer (some ⟨w.heap.size,0,none⟩)])/\w'=w.alloc (exObj x s)):=by
 unfold exOf exV
 go_enter Tryz.func67, Tryz.ntmps67
 go_wp2_with fail
 go_ret;exact⟨rfl,rfl⟩
theorem rY {X:Nat->Prop} {W:World} {l:Nat} {o o':Obj} (h:W.heap[l]? = some o) (hc:o.isCells=false):KeepsX X W (W.putObj l o'):=⟨by simp,fun j _ hj=>World.putObj_heap_other (fun e=>by
 obtain⟨c,t,fz,h2⟩:=hj;rw[e,h] at h2;obtain rfl:=zc h2;cases hc)⟩
theorem zdn {X:Nat->Prop} {W:World} {b i:Nat} {v:Value} (h:X b):KeepsX X W (W.setCell ⟨b,i,none⟩ v):=⟨by simp,fun j hj _=>Below.heap_setCell _ _ _ _ (fun e=>hj (by have e:j=b:=e;rw[e];exact h))⟩
theorem KeepsX.refl (X:Nat->Prop) (W:World):KeepsX X W W:=⟨Nat.le_refl _,fun _ _ _=>rfl⟩
theorem zgY (a b:Nat) (y:Int×Nat):(#[a,b]:Array Tmp).zip (encP y)=#[(a,.int .i64 (y.2:Nat)),(b,.int .i64 y.1)]:=by
 unfold encP;rw[List.zip_toArray];rfl
def countV (N:Nat) (most:Int):Int:=if most<0 then 0 else min (N:Int) (most+1)
theorem zeD (x:Nd) (s:Sl) (most:Int) (w:World) (hx:IsE w (fun _=>True) (exL x s) x) (hlen:(x.parts 1).length<=70000) (h0:-9223372036854775808<=most) (h1:most<=9223372036854775807) :
 Calls Tryz.prog 29 #[exOf x s,.int .i64 most] w (fun e w'=>e=.returned (.int .i64 (countV (x.parts 1).length most))/\Below w.heap.size w w'):=by
 have HPA:=zb (fun W=>zg5 x s W);have HI:=zb hx;have HL:=zb hlen;have HM:=zb (And.intro h0 h1);clear hx hlen h0 h1;unfold exOf exV at *;refine(callsIn_wide (n:=5)).1 ?_;refine callsIn_of_wp_marks Tryz.func29 rfl trivial ?_ rfl;simp only[Tryz.ntmps29,List.size_toArray,List.length_cons,List.length_nil,Nat.reduceAdd,Nat.reduceSub,Array.replicate_succ,Array.replicate_zero,List.push_toArray,List.append_toArray,List.nil_append,List.cons_append]
 gi_wp2
 refine⟨trivial,(callsIn_wide.2 (HPA.out _)).mono ?_⟩;rintro e w' ⟨rfl,rfl⟩
 gi_wp2
 obtain⟨W0,hW0⟩:∃ W,((((w.alloc (.cells #[.int .i64 x.hd.kind,.int .i64 x.hd.pos,.string ⟨x.hd.name.toArray⟩,.int .i64 x.hd.n,.string ⟨x.hd.s.toArray⟩,.slice s.la x.hd.labels.length s.lc,.slice s.aa x.args.length s.ac,.slice s.ra x.arms.length s.rc] 27 (0,0))).alloc (.cells #[.int .i64 most] 3 (0,0))).alloc (.cells #[.int .i64 0] 3 (0,0))).alloc (exObj x s))=W:=⟨_,rfl⟩;have hb1:=zB (w:=w) (.cells #[.int .i64 x.hd.kind,.int .i64 x.hd.pos,.string ⟨x.hd.name.toArray⟩,.int .i64 x.hd.n,.string ⟨x.hd.s.toArray⟩,.slice s.la x.hd.labels.length s.lc,.slice s.aa x.args.length s.ac,.slice s.ra x.arms.length s.rc] 27 (0,0)) (.cells #[.int .i64 most] 3 (0,0));have hb2:=zB (w:=(w.alloc (.cells #[.int .i64 x.hd.kind,.int .i64 x.hd.pos,.string ⟨x.hd.name.toArray⟩,.int .i64 x.hd.n,.string ⟨x.hd.s.toArray⟩,.slice s.la x.hd.labels.length s.lc,.slice s.aa x.args.length s.ac,.slice s.ra x.arms.length s.rc] 27 (0,0))).alloc (.cells #[.int .i64 most] 3 (0,0))) (.cells #[.int .i64 0] 3 (0,0)) (exObj x s);have m1:((w.alloc (.cells #[.int .i64 x.hd.kind,.int .i64 x.hd.pos,.string ⟨x.hd.name.toArray⟩,.int .i64 x.hd.n,.string ⟨x.hd.s.toArray⟩,.slice s.la x.hd.labels.length s.lc,.slice s.aa x.args.length s.ac,.slice s.ra x.arms.length s.rc] 27 (0,0))).alloc (.cells #[.int .i64 most] 3 (0,0))).heap[w.heap.size+1]? = some (.cells #[.int .i64 most] 3 (0,0)):=zA _ _ _ (by rw[World.size_alloc]);have m2:(((w.alloc (.cells #[.int .i64 x.hd.kind,.int .i64 x.hd.pos,.string ⟨x.hd.name.toArray⟩,.int .i64 x.hd.n,.string ⟨x.hd.s.toArray⟩,.slice s.la x.hd.labels.length s.lc,.slice s.aa x.args.length s.ac,.slice s.ra x.arms.length s.rc] 27 (0,0))).alloc (.cells #[.int .i64 most] 3 (0,0))).alloc (.cells #[.int .i64 0] 3 (0,0))).heap[w.heap.size+1+1]? = some (.cells #[.int .i64 0] 3 (0,0)):=zA _ _ _ (by rw[World.size_alloc,World.size_alloc]);have HMB:Hid (W0.heap[w.heap.size+1]? = some (.cells #[.int .i64 most] 3 (0,0))):=zb (by rw[← hW0];exact(hb2.block _ (zp m1)).trans m1);have HNB:Hid (W0.heap[w.heap.size+1+1]? = some (.cells #[.int .i64 0] 3 (0,0))):=zb (by rw[← hW0];exact((zj _).block _ (zp m2)).trans m2);have HEB:Hid (ExBox W0 (w.heap.size+1+1+1) x s):=zb (by rw[← hW0];exact zA _ _ _ (by rw[World.size_alloc,World.size_alloc,World.size_alloc]));have HBW:Hid (Below w.heap.size w W0):=zb (by rw[← hW0];exact hb1.trans (hb2.mono hb1.size));have HIS:Hid (IsE W0 (fun g=>¬g=w.heap.size+1+1) (exL x s) x):=zb (IsE.move (fun g hg hl=>⟨by omega,HBW.out.block g hl⟩) HI.out);have HSZ:Hid (W0.heap.size=w.heap.size+4):=zb (by rw[← hW0];simp);rw[hW0];clear hW0 hb1 hb2 m1 m2 HPA HI;generalize hbn:w.heap.size+1+1=bn at *;generalize hbe:bn+1=be at *;generalize hbm:w.heap.size+1=bm at *;have HNS:Hid (bn<W0.heap.size/\be<W0.heap.size/\bm<W0.heap.size/\w.heap.size<=bn/\¬bm=bn/\¬be=bn):=zb (by have:=HSZ.out;omega);clear hbn hbe hbm HSZ;refine xT rfl (by omega) (gf := 109) (lb:=#[.pointer (some ⟨be,0,none⟩)]) rfl trivial (enters_of Tryz.func109 (by kernel_rfl) rfl)
  (zc5 4 (by omega) be x s (fun g=>g=bn) W0 HEB.out (fun g hg=>by rw[hg];exact HNS.out.1) HIS.out HNS.out.2.2.2.2.2 HL.out)
  (fun h k=>h.trans k) (fun W l o o' _ h hc _=>rY h hc) (Below.refl _ _) (fun _=>rfl)
  (fun pre W=>W.heap[bn]? = some (.cells #[.int .i64 (pre.length:Nat)] 3 (0,0))/\W.heap[bm]? = some (.cells #[.int .i64 most] 3 (0,0))/\((pre.length:Int)<=most+1∨pre=[])/\Below w.heap.size w W)
  (fun c pre W=>c=.exit 0/\∃ k:Nat,pre.length=k+1/\W.heap[bn]? = some (.cells #[.int .i64 (k:Nat)] 3 (0,0))/\((k:Int)<=most+1∨k=0)/\most<(k:Int)/\Below w.heap.size w W)
  (fun s A B h hb=>⟨(hb.block _ HNS.out.1).trans h.1,(hb.block _ HNS.out.2.2.1).trans h.2.1,h.2.2.1,h.2.2.2.trans (hb.mono (by have:=HNS.out;omega))⟩)
  (fun c s A B h hb=>by
   obtain⟨h1,k,h2,h3,h4,h5,h6⟩:=h;exact⟨h1,k,h2,(hb.block _ HNS.out.1).trans h3,h4,h5,h6.trans (hb.mono (by have:=HNS.out;omega))⟩)
  ⟨HNB.out,HMB.out,.inr rfl,HBW.out⟩
  (fun y=>{ tmps:=#[.agg #[.int .i64 x.hd.kind,.int .i64 x.hd.pos,.string ⟨x.hd.name.toArray⟩,.int .i64 x.hd.n,.string ⟨x.hd.s.toArray⟩,.slice s.la x.hd.labels.length s.lc,.slice s.aa x.args.length s.ac,.slice s.ra x.arms.length s.rc],.int .i64 most,.pointer (some ⟨w.heap.size,0,none⟩),.pointer (some ⟨bm,0,none⟩),.int .i64 0,.pointer (some ⟨bn,0,none⟩),.agg #[.int .i64 x.hd.kind,.int .i64 x.hd.pos,.string ⟨x.hd.name.toArray⟩,.int .i64 x.hd.n,.string ⟨x.hd.s.toArray⟩,.slice s.la x.hd.labels.length s.lc,.slice s.aa x.args.length s.ac,.slice s.ra x.arms.length s.rc],.func (.func 109) #[] #[.pointer (some ⟨be,0,none⟩)],.int .i64 (y.2:Nat),.int .i64 y.1,undef,undef,undef,undef,undef,undef],defers:=[] }) ?assign ?body ?done ?stop
 case assign =>
  intro l y W K hK;rw[zgY]
  gi_wp2
  exact hK
 case body =>
  rintro l pre y W ⟨hn,hm,hle,hB⟩ hlen;have hnc:W.cell? ⟨bn,0,none⟩=some (.int .i64 (pre.length:Nat)):=by rw[zf hn];rfl
  have hnf:W.frozen? ⟨bn,0,none⟩=false:=Lib.frozen_of_heap hn 0;have hmc:W.cell? ⟨bm,0,none⟩=some (.int .i64 most):=by rw[zf hm];rfl
  have HP:=zb (And.intro hn (And.intro hm (And.intro hle (And.intro hB hlen))));clear hn hm hle hB hlen;by_cases hlt:most<(pre.length:Int)
  . have g1:decide (most<(pre.length:Int))=true:=decide_eq_true hlt
    gi_wp2
    refine⟨KeepsOthers.refl _,rfl,pre.length,by simp,HP.out.1,?_,hlt,HP.out.2.2.2.1⟩;rcases HP.out.2.2.1 with h | h
    . exact .inl h
    . exact .inr (by rw[h];rfl)
  . have g1:decide (most<(pre.length:Int))=false:=decide_eq_false hlt;have g2:IntKind.i64.wrap ((pre.length:Int)+1)=(pre.length:Int)+1:=zM _ (by omega) (by have:=HP.out.2.2.2.2;have:=HL.out;omega);have hlen2:(pre++[y]).length=pre.length+1:=by simp
    gi_wp2
    refine⟨KeepsOthers.setCell _ _ _,zdn rfl,?_,?_,.inl (by rw[hlen2];push_cast;omega),HP.out.2.2.2.1.setCell (p:=⟨bn,0,none⟩) HNS.out.2.2.2.1 _⟩
    . rw[hlen2,zn HP.out.1 0];rfl
    . rw[Below.heap_setCell _ _ _ _ HNS.out.2.2.2.2.1];exact HP.out.2.1
 case done =>
  rintro D ys W hD rfl ⟨hn,hm,hle,hB⟩ hK;have hnc:W.cell? ⟨bn,0,none⟩=some (.int .i64 ((x.parts 1).length:Nat)):=by rw[zf hn];rfl
  have HP:=zb (And.intro hle hB);have HDD:=zb (And.intro hD hK);clear hn hm hle hB hD hK
  gi_wp2
  refine⟨by simp,.inl ⟨_,_,rfl,run_takeDeferred HDD.out.2,?_⟩⟩;refine⟨_,results_tmp rfl _ _ _,?_,HP.out.2.trans (xv _ _ _ (by have:=HDD.out.1;have:=HNS.out;omega))⟩;have hv:countV (x.parts 1).length most=((x.parts 1).length:Int):=by
   have:=tQ 1 x;unfold countV;rcases HP.out.1 with h | h
   . rw[if_neg (by omega)];omega
   . rw[h] at this;simp at this
  rw[hv];rfl
 case stop =>
  rintro D c pre W hD hpre ⟨rfl,k,hk,hn,hle,hlt,hB⟩ hK;have hnc:W.cell? ⟨bn,0,none⟩=some (.int .i64 (k:Nat)):=by rw[zf hn];rfl
  have HP:=zb (And.intro hk (And.intro hle (And.intro hlt (And.intro hB hpre))));have HDD:=zb (And.intro hD hK);clear hk hn hle hB hD hK hlt hpre
  gi_wp2
  refine⟨by simp,.inl ⟨_,_,rfl,run_takeDeferred HDD.out.2,?_⟩⟩;refine⟨_,results_tmp rfl _ _ _,?_,HP.out.2.2.2.1.trans (xv _ _ _ (by have:=HDD.out.1;have:=HNS.out;omega))⟩;have hv:countV (x.parts 1).length most=(k:Int):=by
   obtain⟨h1,h2,h3,_,q,h5⟩:=HP.out;have h6:=congrArg List.length h5;rw[List.length_append,h1] at h6;unfold countV;by_cases h9:most<0
   . rw[if_pos h9];omega
   . rw[if_neg h9];omega
  rw[hv];rfl
end
section
open Go.RowKit Go.Shelf
attribute [local go_sem] Oper.semAt_some
theorem rF {fn:Func} {p q:Tmp} (h:fn.results=#[.cell p 3,.cell q 4]) (tmps:Array Value) (w:World) (b c:Nat) (u:Int) (v:Bool) (hb:tmps[p]?.getD undef=.pointer (some ⟨b,0,none⟩)) (hc:tmps[q]?.getD undef=.pointer (some ⟨c,0,none⟩)) (h1:w.heap[b]? = some (.cells #[.int .i64 u] 3 (0,0))) (h2:w.heap[c]? = some (.cells #[.bool v] 4 (0,0))) :
 (results fn tmps).run Tryz.prog w=.ok (.tuple #[.int .i64 u,.bool v]) w:=by
 have k1:w.cell? ⟨b,0,none⟩=some (.int .i64 u):=by rw[zf h1];rfl
 have k2:w.cell? ⟨c,0,none⟩=some (.bool v):=by rw[zf h2];rfl
 simp [results,h,Result.andThen,hb,hc,asAddr,go_sem,k1,k2]
theorem find_part {P pre r:List (Int×Nat)} {t:Int×Nat} {most:Int} (hP:P=pre++t::r) (h1:∀ u∈pre,¬most<(u.2:Int)) (h2:most<(t.2:Int)):(P.find? fun t=>decide (most<(t.2:Int)))=some t:=by
 rw[hP,List.find?_append,List.find?_eq_none.2 (fun u hu=>by simpa using h1 u hu)];rw[List.find?_cons,decide_eq_true h2];rfl
def NoneDeep (most:Int) (pre:List (Int×Nat)):Prop:=∀ u∈pre,¬most<(u.2:Int)
def DeepAt (most:Int) (bn bo n:Nat) (w:World) (pre:List (Int×Nat)) (W:World):Prop:=∃ pre0 t,pre=pre0++[t]/\W.heap[bn]? = some (.cells #[.int .i64 t.1] 3 (0,0))/\W.heap[bo]? = some (.cells #[.bool true] 4 (0,0))/\NoneDeep most pre0/\most<(t.2:Int)/\Below n w W
theorem p_deep (x:Nd) (s:Sl) (most:Int) (w:World) (hx:IsE w (fun _=>True) (exL x s) x) (hlen:(x.parts 1).length<=70000) :
 Calls Tryz.prog 30 #[exOf x s,.int .i64 most] w (fun e w'=>e=.returned (.tuple #[.int .i64 ((deepV most x).getD 0),.bool (deepV most x).isSome])/\Below w.heap.size w w'):=by
 have HPA:=zb (fun W=>zg5 x s W);have HI:=zb hx;have HL:=zb hlen;clear hx hlen;unfold exOf exV at *;refine(callsIn_wide (n:=5)).1 ?_;refine callsIn_of_wp_marks Tryz.func30 rfl trivial ?_ rfl;simp only[Tryz.ntmps30,List.size_toArray,List.length_cons,List.length_nil,Nat.reduceAdd,Nat.reduceSub,Array.replicate_succ,Array.replicate_zero,List.push_toArray,List.append_toArray,List.nil_append,List.cons_append]
 gi_wp2
 refine⟨trivial,(callsIn_wide.2 (HPA.out _)).mono ?_⟩;rintro e w' ⟨rfl,rfl⟩
 gi_wp2
 obtain⟨W0,hW0⟩:∃ W,(((((w.alloc (.cells #[.int .i64 x.hd.kind,.int .i64 x.hd.pos,.string ⟨x.hd.name.toArray⟩,.int .i64 x.hd.n,.string ⟨x.hd.s.toArray⟩,.slice s.la x.hd.labels.length s.lc,.slice s.aa x.args.length s.ac,.slice s.ra x.arms.length s.rc] 27 (0,0))).alloc (.cells #[.int .i64 most] 3 (0,0))).alloc (.cells #[.int .i64 0] 3 (0,0))).alloc (.cells #[.bool false] 4 (0,0))).alloc (exObj x s))=W:=⟨_,rfl⟩;have hb1:=zB (w:=w) (.cells #[.int .i64 x.hd.kind,.int .i64 x.hd.pos,.string ⟨x.hd.name.toArray⟩,.int .i64 x.hd.n,.string ⟨x.hd.s.toArray⟩,.slice s.la x.hd.labels.length s.lc,.slice s.aa x.args.length s.ac,.slice s.ra x.arms.length s.rc] 27 (0,0)) (.cells #[.int .i64 most] 3 (0,0));have hb2:=zB (w:=(w.alloc (.cells #[.int .i64 x.hd.kind,.int .i64 x.hd.pos,.string ⟨x.hd.name.toArray⟩,.int .i64 x.hd.n,.string ⟨x.hd.s.toArray⟩,.slice s.la x.hd.labels.length s.lc,.slice s.aa x.args.length s.ac,.slice s.ra x.arms.length s.rc] 27 (0,0))).alloc (.cells #[.int .i64 most] 3 (0,0))) (.cells #[.int .i64 0] 3 (0,0)) (.cells #[.bool false] 4 (0,0));have hb3:=zj (w:=(((w.alloc (.cells #[.int .i64 x.hd.kind,.int .i64 x.hd.pos,.string ⟨x.hd.name.toArray⟩,.int .i64 x.hd.n,.string ⟨x.hd.s.toArray⟩,.slice s.la x.hd.labels.length s.lc,.slice s.aa x.args.length s.ac,.slice s.ra x.arms.length s.rc] 27 (0,0))).alloc (.cells #[.int .i64 most] 3 (0,0))).alloc (.cells #[.int .i64 0] 3 (0,0))).alloc (.cells #[.bool false] 4 (0,0))) (exObj x s);have m1:((w.alloc (.cells #[.int .i64 x.hd.kind,.int .i64 x.hd.pos,.string ⟨x.hd.name.toArray⟩,.int .i64 x.hd.n,.string ⟨x.hd.s.toArray⟩,.slice s.la x.hd.labels.length s.lc,.slice s.aa x.args.length s.ac,.slice s.ra x.arms.length s.rc] 27 (0,0))).alloc (.cells #[.int .i64 most] 3 (0,0))).heap[w.heap.size+1]? = some (.cells #[.int .i64 most] 3 (0,0)):=zA _ _ _ (by rw[World.size_alloc]);have m1':=(hb2.block _ (zp m1)).trans m1;have m2:(((w.alloc (.cells #[.int .i64 x.hd.kind,.int .i64 x.hd.pos,.string ⟨x.hd.name.toArray⟩,.int .i64 x.hd.n,.string ⟨x.hd.s.toArray⟩,.slice s.la x.hd.labels.length s.lc,.slice s.aa x.args.length s.ac,.slice s.ra x.arms.length s.rc] 27 (0,0))).alloc (.cells #[.int .i64 most] 3 (0,0))).alloc (.cells #[.int .i64 0] 3 (0,0))).heap[w.heap.size+1+1]? = some (.cells #[.int .i64 0] 3 (0,0)):=zA _ _ _ (by rw[World.size_alloc,World.size_alloc]);have m2':=((zj (.cells #[.bool false] 4 (0,0))).block _ (zp m2)).trans m2;have m3:((((w.alloc (.cells #[.int .i64 x.hd.kind,.int .i64 x.hd.pos,.string ⟨x.hd.name.toArray⟩,.int .i64 x.hd.n,.string ⟨x.hd.s.toArray⟩,.slice s.la x.hd.labels.length s.lc,.slice s.aa x.args.length s.ac,.slice s.ra x.arms.length s.rc] 27 (0,0))).alloc (.cells #[.int .i64 most] 3 (0,0))).alloc (.cells #[.int .i64 0] 3 (0,0))).alloc (.cells #[.bool false] 4 (0,0))).heap[w.heap.size+1+1+1]? = some (.cells #[.bool false] 4 (0,0)):=zA _ _ _ (by rw[World.size_alloc,World.size_alloc,World.size_alloc]);have HMB:Hid (W0.heap[w.heap.size+1]? = some (.cells #[.int .i64 most] 3 (0,0))):=zb (by rw[← hW0];exact(hb3.block _ (zp m1')).trans m1');have HNB:Hid (W0.heap[w.heap.size+1+1]? = some (.cells #[.int .i64 0] 3 (0,0))):=zb (by rw[← hW0];exact(hb3.block _ (zp m2')).trans m2');have HOB:Hid (W0.heap[w.heap.size+1+1+1]? = some (.cells #[.bool false] 4 (0,0))):=zb (by rw[← hW0];exact(hb3.block _ (zp m3)).trans m3);have HEB:Hid (ExBox W0 (w.heap.size+1+1+1+1) x s):=zb (by rw[← hW0];exact zA _ _ _ (by rw[World.size_alloc,World.size_alloc,World.size_alloc,World.size_alloc]));have HBW:Hid (Below w.heap.size w W0):=zb (by rw[← hW0];exact(hb1.trans (hb2.mono hb1.size)).trans (hb3.mono (by simp;omega)));have HIS:Hid (IsE W0 (fun g=>¬(g=w.heap.size+1+1∨g=w.heap.size+1+1+1)) (exL x s) x):=zb (IsE.move (fun g hg hl=>⟨by omega,HBW.out.block g hl⟩) HI.out);have HSZ:Hid (W0.heap.size=w.heap.size+5):=zb (by rw[← hW0];simp);rw[hW0];clear hW0 hb1 hb2 hb3 m1 m1' m2 m2' m3 HPA HI;generalize hbn:w.heap.size+1+1=bn at *;generalize hbo:bn+1=bo at *;generalize hbe:bo+1=be at *;generalize hbm:w.heap.size+1=bm at *;have HNS:Hid (bn<W0.heap.size/\be<W0.heap.size/\bm<W0.heap.size/\w.heap.size<=bn/\¬bm=bn/\¬(be=bn∨be=bo)/\bo<W0.heap.size/\¬bn=bo/\¬bm=bo/\w.heap.size<=bo):=zb (by have:=HSZ.out;omega);clear hbn hbe hbm hbo HSZ;have hnn:¬bo=bn:=fun e=>HNS.out.2.2.2.2.2.2.2.1 e.symm;have hno:¬bn=bo:=HNS.out.2.2.2.2.2.2.2.1;refine xT rfl (by omega) (gf := 109) (lb:=#[.pointer (some ⟨be,0,none⟩)]) rfl trivial (enters_of Tryz.func109 (by kernel_rfl) rfl)
  (zc5 4 (by omega) be x s (fun g=>g=bn∨g=bo) W0 HEB.out (fun g hg=>by rcases hg with hg | hg <;> rw[hg];exact HNS.out.1;exact HNS.out.2.2.2.2.2.2.1) HIS.out HNS.out.2.2.2.2.2.1 HL.out)
  (fun h k=>h.trans k) (fun W l o o' _ h hc _=>rY h hc) (Below.refl _ _) (fun _=>rfl)
  (fun pre W=>W.heap[bn]? = some (.cells #[.int .i64 0] 3 (0,0))/\W.heap[bo]? = some (.cells #[.bool false] 4 (0,0))/\W.heap[bm]? = some (.cells #[.int .i64 most] 3 (0,0))/\NoneDeep most pre/\Below w.heap.size w W)
  (fun c pre W=>c=.ret/\DeepAt most bn bo w.heap.size w pre W)
  (fun s A B h hb=>⟨(hb.block _ HNS.out.1).trans h.1,(hb.block _ HNS.out.2.2.2.2.2.2.1).trans h.2.1,(hb.block _ HNS.out.2.2.1).trans h.2.2.1,h.2.2.2.1,h.2.2.2.2.trans (hb.mono (by have:=HNS.out;omega))⟩)
  (fun c s A B h hb=>by
   obtain⟨h1,p0,t,h2,h3,h4,h5,h6,h7⟩:=h;exact⟨h1,p0,t,h2,(hb.block _ HNS.out.1).trans h3,(hb.block _ HNS.out.2.2.2.2.2.2.1).trans h4,h5,h6,h7.trans (hb.mono (by have:=HNS.out;omega))⟩)
  ⟨HNB.out,HOB.out,HMB.out,(fun _ h=>by cases h),HBW.out⟩
  (fun y=>{ tmps:=#[.agg #[.int .i64 x.hd.kind,.int .i64 x.hd.pos,.string ⟨x.hd.name.toArray⟩,.int .i64 x.hd.n,.string ⟨x.hd.s.toArray⟩,.slice s.la x.hd.labels.length s.lc,.slice s.aa x.args.length s.ac,.slice s.ra x.arms.length s.rc],.int .i64 most,.pointer (some ⟨w.heap.size,0,none⟩),.pointer (some ⟨bm,0,none⟩),.pointer (some ⟨bn,0,none⟩),.pointer (some ⟨bo,0,none⟩),.int .i64 (y.2:Nat),.int .i64 y.1,.agg #[.int .i64 x.hd.kind,.int .i64 x.hd.pos,.string ⟨x.hd.name.toArray⟩,.int .i64 x.hd.n,.string ⟨x.hd.s.toArray⟩,.slice s.la x.hd.labels.length s.lc,.slice s.aa x.args.length s.ac,.slice s.ra x.arms.length s.rc],.func (.func 109) #[] #[.pointer (some ⟨be,0,none⟩)],.int .i64 (y.2:Nat),.int .i64 y.1,undef,undef,undef,undef],defers:=[] }) ?assign ?body ?done ?stop
 case assign =>
  intro l y W K hK;rw[zgY]
  gi_wp2
  exact hK
 case body =>
  rintro l pre y W ⟨hn,ho,hm,hle,hB⟩ hlen;have hnc:W.cell? ⟨bn,0,none⟩=some (.int .i64 0):=by rw[zf hn];rfl
  have hnf:W.frozen? ⟨bn,0,none⟩=false:=Lib.frozen_of_heap hn 0;have hoc:W.cell? ⟨bo,0,none⟩=some (.bool false):=by rw[zf ho];rfl
  have hof:W.frozen? ⟨bo,0,none⟩=false:=Lib.frozen_of_heap ho 0;have hmc:W.cell? ⟨bm,0,none⟩=some (.int .i64 most):=by rw[zf hm];rfl
  have HP:=zb (And.intro hn (And.intro ho (And.intro hm (And.intro hle hB))));clear hn hm ho hle hB hlen;by_cases hlt:most<(y.2:Int)
  . have g1:decide (most<(y.2:Int))=true:=decide_eq_true hlt
    gi_wp2
    refine⟨(KeepsOthers.setCell _ _ _).trans (KeepsOthers.setCell _ _ _),rfl,pre,y,rfl,?_,?_,HP.out.2.2.2.1,hlt,(HP.out.2.2.2.2.setCell (p:=⟨bn,0,none⟩) HNS.out.2.2.2.1 _).setCell (p:=⟨bo,0,none⟩) HNS.out.2.2.2.2.2.2.2.2.2 _⟩
    . rw[Below.heap_setCell _ _ _ _ hno,zn HP.out.1 0];rfl
    . exact zn ((Below.heap_setCell W ⟨bn,0,none⟩ _ bo hnn).trans HP.out.2.1) 0 _
  . have g1:decide (most<(y.2:Int))=false:=decide_eq_false hlt
    gi_wp2
    refine⟨KeepsOthers.refl _,KeepsX.refl _ _,HP.out.1,HP.out.2.1,HP.out.2.2.1,fun u hu=>?_,HP.out.2.2.2.2⟩;rcases List.mem_append.1 hu with hu | hu
    . exact HP.out.2.2.2.1 u hu
    . obtain rfl:=List.mem_singleton.1 hu;omega
 case done =>
  rintro D ys W hD rfl ⟨hn,ho,hm,hle,hB⟩ hK;have hnc:W.cell? ⟨bn,0,none⟩=some (.int .i64 0):=by rw[zf hn];rfl
  have hnf:W.frozen? ⟨bn,0,none⟩=false:=Lib.frozen_of_heap hn 0;have hoc:W.cell? ⟨bo,0,none⟩=some (.bool false):=by rw[zf ho];rfl
  have hof:W.frozen? ⟨bo,0,none⟩=false:=Lib.frozen_of_heap ho 0;have HP:=zb (And.intro hn (And.intro ho (And.intro hle hB)));have HDD:=zb (And.intro hD hK);clear hn ho hm hle hB hD hK
  gi_wp2
  refine⟨by simp,.inl ⟨_,_,rfl,run_takeDeferred ?_,?_⟩⟩
  . rw[Below.heap_setCell _ _ _ _ (by show D≠bo;have:=HDD.out.1;have:=HNS.out;omega),Below.heap_setCell _ _ _ _ (by show D≠bn;have:=HDD.out.1;have:=HNS.out;omega)];exact HDD.out.2
  . have hd1:bn≠D:=by have:=HDD.out.1;have:=HNS.out;omega
    have hd2:bo≠D:=by have:=HDD.out.1;have:=HNS.out;omega
    have f1:(((W.setCell ⟨bn,0,none⟩ (.int .i64 0)).setCell ⟨bo,0,none⟩ (.bool false)).putObj D (.deferred none)).heap[bn]? = some (.cells #[.int .i64 0] 3 (0,0)):=by
     rw[World.putObj_heap_other hd1,Below.heap_setCell _ _ _ _ (show bn≠bo from hno),zn HP.out.1 0];rfl
    have f2:(((W.setCell ⟨bn,0,none⟩ (.int .i64 0)).setCell ⟨bo,0,none⟩ (.bool false)).putObj D (.deferred none)).heap[bo]? = some (.cells #[.bool false] 4 (0,0)):=by
     rw[World.putObj_heap_other hd2];exact zn ((Below.heap_setCell W ⟨bn,0,none⟩ _ bo hnn).trans HP.out.2.1) 0 _
    have hv:deepV most x=none:=by
     unfold deepV;rw[List.find?_eq_none.2 (fun u hu=>by simpa using HP.out.2.2.1 u hu)];rfl
    rw[hv];exact⟨_,rF rfl _ _ bn bo 0 false rfl rfl f1 f2,rfl,((HP.out.2.2.2.setCell (p:=⟨bn,0,none⟩) HNS.out.2.2.2.1 _).setCell (p:=⟨bo,0,none⟩) HNS.out.2.2.2.2.2.2.2.2.2 _).trans (xv _ _ _ (by have:=HDD.out.1;have:=HNS.out;omega))⟩
 case stop =>
  rintro D c pre W hD hpre ⟨rfl,p0,t,hk,hn,ho,hle,hlt,hB⟩ hK;have HP:=zb (And.intro hk (And.intro hn (And.intro ho (And.intro hle (And.intro hlt (And.intro hB hpre))))));have HDD:=zb (And.intro hD hK);clear hk hn ho hle hB hD hK hlt hpre
  gi_wp2
  refine⟨by simp,.inl ⟨_,_,rfl,run_takeDeferred HDD.out.2,?_⟩⟩;have hd1:bn≠D:=by have:=HDD.out.1;have:=HNS.out;omega
  have hd2:bo≠D:=by have:=HDD.out.1;have:=HNS.out;omega
  have f1:(W.putObj D (.deferred none)).heap[bn]? = some (.cells #[.int .i64 t.1] 3 (0,0)):=(World.putObj_heap_other hd1).trans HP.out.2.1;have f2:(W.putObj D (.deferred none)).heap[bo]? = some (.cells #[.bool true] 4 (0,0)):=(World.putObj_heap_other hd2).trans HP.out.2.2.1;have hv:deepV most x=some t.1:=by
   obtain⟨h1,_,_,h4,h5,_,r,h6⟩:=HP.out;unfold deepV;rw[find_part (pre:=p0) (r:=r) (t:=t) (by rw[← h6,h1];simp) h4 h5];rfl
  rw[hv];exact⟨_,rF rfl _ _ bn bo _ true rfl rfl f1 f2,rfl,HP.out.2.2.2.2.2.1.trans (xv _ _ _ (by have:=HDD.out.1;have:=HNS.out;omega))⟩
end
