/-
  Plain facts on integers: bringing a number into 63 bits, a numbe.
-/
import Derived.WalkKit
import Derived.WalkSmall
import Derived.Test.YtblonfjlcfjodaaGreatDoorRows
import Derived.Lib.Hide
import Derived.MapKept
import Derived.Laws.BytesArg
import Derived.Lib.Builder
import Derived.WalkSpells
import Derived.WalkLawsBesides
import Derived.Test.YtblonfjlcfjodaaGreatDoorShelf
import Derived.Lib.Strings
import Derived.Lib.Walk
import Derived.Lib.AppendStr
import Derived.Laws.Externs
import Derived.Deep.QuietTactic
import Derived.BigQuiet
import Derived.RegionTactic
import Derived.ChangeAlike
import Derived.Deep.LoopGhost
import Derived.Lib.Bytealg
import Derived.Lib.IndexBytes
import Derived.Lib.ItoaMem
import Derived.Laws.Concat
import Derived.Lib.AppendIntMem
import Derived.Lib.ItoaLen
import Derived.Laws.BitsLemmas
namespace Go.Proofs.YtblonfjlcfjodaaGreatDoor
set_option linter.unusedSimpArgs false
set_option linter.unusedVariables false
set_option maxRecDepth 100000
set_option maxHeartbeats 2000000
section
open Go.RowKit
theorem zb {p : Prop} (h : p) : Hid p := Lib.hid h
theorem zg {α : Type} (l : List α) (i : Nat) (a : α) : l.toArray.setIfInBounds i a = (l.set i a).toArray := List.setIfInBounds_toArray ..
theorem zh {α : Type} (x : α) (l : List α) (a : α) : (x :: l).set 0 a = a :: l := List.set_cons_zero ..
theorem zi {α : Type} (x : α) (l : List α) (n : Nat) (a : α) : (x :: l).set (n + 1) a = x :: l.set n a := List.set_cons_succ ..
theorem zc {α : Type} {a b : α} (h : some a = some b) : a = b := Option.some.inj h
theorem zd {n m k : Nat} (h : n < m) (h' : m <= k) : n < k := Nat.lt_of_lt_of_le h h'
abbrev ze := @World.cell?_of_block
abbrev zf := @Lib.cell_of_heap
end
section
open Go.RowKit
def W63 (n:Int):Int:=(n+4611686018427387904) % 9223372036854775808-4611686018427387904
def WRef (a:Int):Int:=if a<0∨2147483647<a then 0 else 2*a
def WIs (w:Int):Bool:=decide (w % 2=1)
theorem w63_shl (n:Int):wrap64 (n*2) / 2=W63 n:=by unfold W63 wrap64;omega
theorem wis_ref (a:Int):WIs (WRef a)=false:=by
 unfold WIs WRef;simp only[decide_eq_false_iff_not]
 split <;> omega
end
section
open Go.RowKit
theorem zA (W:World) (o:Obj) (n:Nat) (hn:n=W.heap.size):(W.alloc o).heap[n]? = some o:=by
 subst hn;exact(MapKept.heap_alloc W o).1
def Two (x y:Int) (w:World) (e:Ending) (w':World):Prop:=e=.returned (.tuple #[.int .i64 x,.int .i64 y])/\w=w'
def StrMade (l:List UInt8) (w:World) (e:Ending) (w':World):Prop:=e=.returned (.string ⟨l.toArray⟩)/\Below w.heap.size w w'
theorem oneByte (w:World) (c:Int) (b:Nat) (hb:b=w.heap.size):(convert 81 9 (.slice (some ⟨b,0,none⟩) 1 1)).run Tryz.prog (w.alloc (.cells #[.int .u8 c] 5 (0,0)))=.ok (.string ⟨[UInt8.ofNat c.toNat].toArray⟩) (w.alloc (.cells #[.int .u8 c] 5 (0,0))):=by
 refine(run_convert_bytes_arg _ 81 5 Tryz.underlying81 Tryz.underlying5 b 0 1 1 [c] rfl ?_ 9 Tryz.underlying9);intro i hi;obtain rfl:i=0:=by omega
 exact zf (zA w _ b hb) 0
theorem twoBytes (w:World) (c d:Int):(convert 81 9 (.slice (some ⟨w.heap.size,0,none⟩) 2 2)).run Tryz.prog (w.alloc (.cells #[.int .u8 c,.int .u8 d] 5 (0,0))).drew=.ok (.string ⟨[UInt8.ofNat c.toNat,UInt8.ofNat d.toNat].toArray⟩) (w.alloc (.cells #[.int .u8 c,.int .u8 d] 5 (0,0))).drew:=by
 refine(run_convert_bytes_arg _ 81 5 Tryz.underlying81 Tryz.underlying5 w.heap.size 0 2 2 [c,d] rfl ?_ 9 Tryz.underlying9);intro i hi;rcases (by omega:i=0∨i=1) with rfl | rfl
 . exact zf (w:=w.alloc (.cells #[.int .u8 c,.int .u8 d] 5 (0,0))) (zA w _ w.heap.size rfl) 0
 . exact zf (w:=w.alloc (.cells #[.int .u8 c,.int .u8 d] 5 (0,0))) (zA w _ w.heap.size rfl) 1
theorem zbN {k:IntKind} {a b:Int} (h:a=b):Ending.returned (.int k a)=.returned (.int k b):=by rw[h]
theorem wI {a b:Bool} (h:a=b):Ending.returned (.bool a)=.returned (.bool b):=by rw[h]
theorem word_Wrap (n:Int) (w:World):Calls Tryz.prog 195 #[.int .i64 n] w fun e w'=>e=.returned (.int .i64 (W63 n))/\w=w':=by
 go_enter Tryz.func195, Tryz.ntmps195
 go_wp2
 go_ret;exact⟨zbN (w63_shl n),rfl⟩
end
section
open Go.RowKit
def isDig (c:UInt8):Bool:=decide (48<=c.toNat)&&decide (c.toNat<=57)
def isNum (l:List UInt8):Bool:=l.all isDig&&(decide (l=[48])||(decide (l≠[])&&decide (l.head?≠some 48)))
def readGo (n:Int):List UInt8->Option Int
 | []=>some n
 | c::r=>if (4611686018427387903-((c.toNat:Int)-48)) / 10<n then none else readGo (10*n+((c.toNat:Int)-48)) r
def ReadV (l:List UInt8):Int×Int :=
 if isNum l=true then(match readGo 0 l with | some n=>(n,0) | none=>(0,2)) else(0,5)
theorem tW (s:ByteArray) (k:Nat) (h:k<s.size):s.data.toList.take (k+1)=s.data.toList.take k++[s[k]]:=by
 rw[List.take_succ_eq_append_getElem (by simpa using h)];rfl
theorem yk (s:ByteArray) (k:Nat) (h:k<s.size):s.data.toList.drop k=s[k]::s.data.toList.drop (k+1):=by
 rw[List.drop_eq_getElem_cons (by simpa using h)];rfl
theorem rW (s:ByteArray):s.data.toList.drop s.size=[]:=by
 rw[List.drop_eq_nil_iff];exact Nat.le_refl _
theorem tB (s:ByteArray):s.data.toList.take s.size=s.data.toList:=List.take_of_length_le (Nat.le_refl _)
theorem dig_yes {c:UInt8} (h0:¬(c.toNat:Int)<48) (h1:¬57<(c.toNat:Int)):isDig c=true:=by
 unfold isDig;simp;omega
theorem dig_lo {c:UInt8} (h0:(c.toNat:Int)<48):isDig c=false:=by
 unfold isDig;simp;omega
theorem dig_hi {c:UInt8} (h0:57<(c.toNat:Int)):isDig c=false:=by
 unfold isDig;simp;omega
theorem all_not (s:ByteArray) (k:Nat) (h:k<s.size) (hc:isDig s[k]=false):s.data.toList.all isDig=false:=by
 rw[← List.take_append_drop k s.data.toList,List.all_append,yk s k h];simp [hc]
theorem all_step (s:ByteArray) (k:Nat) (h:k<s.size) (ha:(s.data.toList.take k).all isDig=true) (hc:isDig s[k]=true):(s.data.toList.take (k+1)).all isDig=true:=by
 rw[tW s k h,List.all_append,ha];simp [hc]
theorem yq (s:ByteArray):s.toList=s.data.toList:=ByteArray.toList_eq s
theorem uV (s:ByteArray) (h:0<s.size):s.data.toList.head? = some s[0]:=by
 have:=yk s 0 h;rw[List.drop_zero] at this;rw[this];rfl
theorem wf (s:ByteArray) (h:¬0<s.size):s.data.toList=[]:=by
 rw[← List.length_eq_zero_iff];have:s.data.toList.length=s.size:=rfl;omega
theorem isNum_one (s:ByteArray) (h:s.toList=[48]):isNum s.data.toList=true:=by
 rw[yq] at h;rw[h];decide
theorem zdV (s:ByteArray) (h:¬0<s.size):isNum s.data.toList=false:=by
 rw[wf s h];decide
theorem zdd (s:ByteArray) (h1:¬s.toList=[48]) (h:0<s.size) (ha:s.data.toList.all isDig=true):isNum s.data.toList=((s[0].toNat:Int) != 48):=by
 rw[yq] at h1;unfold isNum;rw[ha,uV s h];have h2:s.data.toList≠[]:=by
  intro e;have:s.data.toList.length=s.size:=rfl;rw[e] at this;simp at this;omega
 have h3:(s[0]=48)↔((s[0].toNat:Int)=48):=by
  rw[← UInt8.toNat_inj];have:(48:UInt8).toNat=48:=rfl;rw[this];omega
 rw[Bool.eq_iff_iff];simp [h1,h2,h3]
theorem vC (s:ByteArray) (w:World) (hs:s.size<=maxLen):Calls Tryz.prog 204 #[.string s] w fun e w'=>e=.returned (.bool (isNum s.data.toList))/\w=w':=by
 unfold maxLen at hs
 go_enter Tryz.func204, Tryz.ntmps204
 go_wp2
 go_loop [6] (fun i=>∃ k:Nat,k<=s.size/\i=.int .i64 k/\(s.data.toList.take k).all isDig=true) (fun i=>s.size-(intOf i).toNat)
 case atStart=>exact⟨0,Nat.zero_le _,rfl,rfl⟩
 case round =>
  obtain⟨k,hk,rfl,hall⟩:=hrel;have HA:=zb hall;clear hall;by_cases hlt:k<s.size
  . by_cases h0:(s[k].toNat:Int)<48
    . have HF:=zb (all_not s k hlt (dig_lo h0))
      go_wp2
      go_ret;exact⟨wI (by unfold isNum;rw[HF.out];rfl),rfl⟩
    . by_cases h1:57<(s[k].toNat:Int)
      . have HF:=zb (all_not s k hlt (dig_hi h1))
        go_wp2
        go_ret;exact⟨wI (by unfold isNum;rw[HF.out];rfl),rfl⟩
      . have HN:=zb (all_step s k hlt HA.out (dig_yes h0 h1))
        go_wp2
        go_round
        case rel=>exact⟨k+1,by omega,by go_num,HN.out⟩
        case measure=>simp [intOf];omega
  . obtain rfl:k=s.size:=by omega
    rw[tB] at HA;by_cases e1:s.toList=[48]
    . have HF:=zb (isNum_one s e1);have e2:(s.toList == [48])=true:=by rw[e1];rfl
      clear e1
      go_wp2
      go_ret;exact⟨wI HF.out.symm,rfl⟩
    . have e2:(s.toList == [48])=false:=by simpa using e1
      by_cases e3:0<s.size
      . have HF:=zb (zdd s e1 e3 HA.out);have e4:s.toList.isEmpty=false:=by
         rw[yq,List.isEmpty_eq_false_iff];intro e;have:s.data.toList.length=s.size:=rfl;rw[e] at this;simp at this;omega
        clear e1
        go_wp2
        go_ret;exact⟨wI HF.out.symm,rfl⟩
      . have HF:=zb (zdV s e3);have e4:s.toList.isEmpty=true:=by rw[yq,wf s e3];rfl
        clear e1
        go_wp2
        go_ret;exact⟨wI HF.out.symm,rfl⟩
theorem zdy (n:Int) (s:ByteArray) (k:Nat) (h:k<s.size) (hc:¬(4611686018427387903-((s[k].toNat:Int)-48)) / 10<n):readGo n (s.data.toList.drop k)=readGo (10*n+((s[k].toNat:Int)-48)) (s.data.toList.drop (k+1)):=by
 rw[yk s k h,readGo,if_neg hc]
theorem readGo_no (n:Int) (s:ByteArray) (k:Nat) (h:k<s.size) (hc:(4611686018427387903-((s[k].toNat:Int)-48)) / 10<n):readGo n (s.data.toList.drop k)=none:=by
 rw[yk s k h,readGo,if_pos hc]
theorem dig_at (s:ByteArray) (k:Nat) (h:k<s.size) (ha:s.data.toList.all isDig=true):48<=(s[k].toNat:Int)/\(s[k].toNat:Int)<=57:=by
 have h1:isDig s[k]=true:=by
  rw[List.all_eq_true] at ha;exact ha _ (Array.getElem_mem_toList (xs:=s.data) (by exact h))
 unfold isDig at h1;simp at h1;omega
theorem zaG {l:List UInt8} {n:Int} (h:isNum l=true) (h2:readGo 0 l=some n):ReadV l=(n,0):=by
 unfold ReadV;rw[if_pos h,h2]
theorem readV_big {l:List UInt8} (h:isNum l=true) (h2:readGo 0 l=none):ReadV l=(0,2):=by
 unfold ReadV;rw[if_pos h,h2]
theorem zef {l:List UInt8} (h:isNum l=false):ReadV l=(0,5):=by
 unfold ReadV;rw[h];rfl
theorem rJ {l:List UInt8} {x y:Int} (w:World) (h:ReadV l=(x,y)):Two (ReadV l).1 (ReadV l).2 w (.returned (.tuple #[.int .i64 x,.int .i64 y])) w:=by
 rw[h];exact⟨rfl,rfl⟩
theorem word_Read (s:ByteArray) (w:World) (hs:s.size<=maxLen):Calls Tryz.prog 172 #[.string s] w (Two (ReadV s.data.toList).1 (ReadV s.data.toList).2 w):=by
 by_cases hn:isNum s.data.toList=true
 . have HN:=zb hn;have hi:=(vC s w hs);rw[hn] at hi;have HI:=zb hi;have hd:=fun k (h:k<s.size)=>dig_at s k h (by unfold isNum at hn;simp only[Bool.and_eq_true] at hn;exact hn.1);have HD:=zb hd;unfold maxLen at hs;clear hn hi hd
   go_enter Tryz.func172, Tryz.ntmps172
   go_wp2_with fail
   refine HI.out.mono ?_;rintro e w' ⟨rfl,rfl⟩
   go_wp2_with fail
   go_loop [4,12] (fun m i=>∃(k:Nat) (n:Int),k<=s.size/\i=.int .i64 k/\m=.int .i64 n/\0<=n/\n<=4611686018427387903/\readGo 0 s.data.toList=readGo n (s.data.toList.drop k)) (fun _ i=>s.size-(intOf i).toNat)
   case atStart=>exact⟨0,0,Nat.zero_le _,rfl,rfl,Int.le_refl _,by omega,rfl⟩
   case round =>
    obtain⟨k,n,hk,rfl,rfl,hn0,hn1,hrel⟩:=hrel;have HR:=zb hrel;clear hrel;by_cases hlt:k<s.size
    . obtain⟨hc0,hc1⟩:=HD.out k hlt;by_cases hbig:(4611686018427387903-((s[k].toNat:Int)-48)) / 10<n
      . have HF:=zb (readV_big HN.out (HR.out.trans (readGo_no n s k hlt hbig)))
        go_wp2
        go_ret2;exact rJ _ HF.out
      . have HF:=zb (HR.out.trans (zdy n s k hlt hbig))
        go_wp2
        go_round
        case rel=>exact⟨k+1,10*n+((s[k].toNat:Int)-48),by omega,by go_num,rfl,by omega,by omega,HF.out⟩
        case measure=>simp [intOf];omega
    . obtain rfl:k=s.size:=by omega
      have HF:=zb (zaG HN.out (HR.out.trans (by rw[rW];rfl)))
      go_wp2
      go_ret2;exact rJ _ HF.out
 . have hn':isNum s.data.toList=false:=by simpa using hn
   have HN:=zb (zef hn');have hi:=(vC s w hs);rw[hn'] at hi;have HI:=zb hi;clear hn hn' hi
   go_enter Tryz.func172, Tryz.ntmps172
   go_wp2_with fail
   refine HI.out.mono ?_;rintro e w' ⟨rfl,rfl⟩
   go_wp2_with fail
   go_ret2;exact rJ _ HN.out
end
section
open Go.RowKit
theorem sf:(Tryz.prog.info? 83).map (·.size)=some 2:=by kernel_rfl
theorem zbP:liesAt Tryz.prog Tryz.prog.depth 83 (2 / Tryz.prog.cellsOf 83) 0 83 1=true:=by kernel_rfl
theorem rB:(Tryz.prog.info? 5).map (fun i=>(i.zero,i.size,i.bytes))=some (some (.int .u8 0),1,1):=by kernel_rfl
theorem vP (b:Nat) (w:World) (h0:w.cell? ⟨b,0,none⟩=some (.pointer (some ⟨b,0,none⟩))) :
 Calls Tryz.prog 219 #[.pointer (some ⟨b,0,none⟩)] w fun e w'=>e=.returned (.tuple #[])/\w'=w:=by
 obtain⟨j,hj,_⟩:=Option.map_eq_some_iff.1 sf
 go_enter Tryz.func219, Tryz.ntmps219
 go_wp2
 rw[Lib.run_neq_ptr_same w _ Tryz.underlying80 hj]
 go_wp2
 go_end0
 exact⟨rfl,rfl⟩
theorem vv (b:Nat) (w:World) (h0:w.cell? ⟨b,0,none⟩=some (.pointer none)) (hsh:w.shape? b=some (83,2)) (hfz:w.frozen? ⟨b,0,none⟩=false) :
 Calls Tryz.prog 219 #[.pointer (some ⟨b,0,none⟩)] w fun e w'=>e=.returned (.tuple #[])/\w'=w.setCell ⟨b,0,none⟩ (.pointer (some ⟨b,0,none⟩)):=by
 obtain⟨j,hj,hjs⟩:=Option.map_eq_some_iff.1 sf
 go_enter Tryz.func219, Tryz.ntmps219
 go_wp2
 rw[Lib.run_to_unsafe w ⟨b,0,none⟩ Tryz.underlying80 Tryz.underlying244 hj (by rw[hjs];decide) hsh (Nat.zero_lt_succ 1)];simp only[Result.andThen];rw[Oper.upon_value]
 go_wp2
 rw[run_callFunc_extern Tryz.func229 (by kernel_rfl) (by kernel_rfl) (by kernel_rfl) (e:=Extern.AbiNoEscape.same) (by kernel_rfl)];rw[Lib.run_noEscape];simp only[Result.andThen];rw[Oper.upon_value]
 go_wp2
 rw[Lib.run_from_unsafe w ⟨b,0,none⟩ Tryz.underlying244 Tryz.underlying80 hj hsh zbP];simp only[Result.andThen];rw[Oper.upon_value]
 go_wp2
 go_end0
 exact⟨rfl,rfl⟩
theorem ue (B b:Nat) (bs:List Value) (w:World) (h:Lib.IsBuilder 83 5 B b bs w) :
 Calls Tryz.prog 219 #[.pointer (some ⟨b,0,none⟩)] w fun e w'=>e=.returned (.tuple #[])/\(Lib.BuilderAt 83 5 B b (.pointer (some ⟨b,0,none⟩)) bs w'/\Below B w w'):=by
 rcases h with h | h
 . refine(vv b w h.cell0 h.shape h.frozen0).mono ?_;rintro e w' ⟨rfl,rfl⟩;exact⟨rfl,h.used _,(Below.refl B w).setCell (p:=⟨b,0,none⟩) h.1 _⟩
 . refine(vP b w h.cell0).mono ?_;rintro e w' ⟨rfl,rfl⟩;exact⟨rfl,h,Below.refl B _⟩
theorem xS (B b:Nat) (bs:List Value) (c:Int) (w:World) (h:Lib.IsBuilder 83 5 B b bs w) (hlen:bs.length+1<=140737488355328) (hBw:B<=w.heap.size) :
 Calls Tryz.prog 207 #[.pointer (some ⟨b,0,none⟩),.int .u8 c] w fun e w'=>e=.returned .nilIface/\Lib.IsBuilder 83 5 B b (bs++[.int .u8 c]) w'/\Below B w w':=by
 obtain⟨i0,hi,hz0,hz1,hz2⟩:=info_parts rB
 go_enter Tryz.func207, Tryz.ntmps207
 go_wp2_with (go_at_call 219; refine(ue B b bs _ h).mono ?_)
 rintro e w1 ⟨rfl,h1,hb1⟩;obtain⟨hB,v,hbk,hown,hne⟩:=h1;have c0:w1.cell? ⟨b,0,none⟩=some (.pointer (some ⟨b,0,none⟩)):=by rw[zf hbk];rfl
 have c1:w1.cell? ⟨b,1,none⟩=some v:=by rw[zf hbk];rfl
 go_wp2_with (at_builtin;refine wpList_append_own _ rfl _ _ 81 rfl B 5 i0 (.int .u8 0) 1 1 Tryz.underlying81 hi hz0 hz1 hz2 rfl (by decide) _ _ _ rfl (hown.alloc _) ⟨w1.heap.size,0,none⟩ 1 1 [.int .u8 c] rfl rfl ?c1 ?c2 ?c3 ?c4 ?c5 ?_)
 case c1 =>
  intro j u hj
  match j,hj with
  | 0,hj=>simp at hj;subst hj;simp [Addr.add]
 case c2=>intro u hu;simp at hu;subst hu;rfl
 case c3=>unfold maxLen;omega
 case c4=>omega
 case c5=>have:=hb1.size;simp;omega
 intro v' w2 hown' hgrow _;have hlt:b<w1.heap.size:=by
  rcases Nat.lt_or_ge b w1.heap.size with h' | h'
  . exact h'
  . simp [Array.getElem?_eq_none h'] at hbk
 have hb2:w2.heap[b]? = some (.cells #[.pointer (some ⟨b,0,none⟩),v] 83 (0,0)):=by
  rw[hgrow.block b (by simp;omega) (fun e=>hne e.symm),Lib.alloc_old w1 _ b hlt];exact hbk
 have d0:w2.cell? ⟨b,0,none⟩=some (.pointer (some ⟨b,0,none⟩)):=by rw[zf hb2];rfl
 have d1:w2.cell? ⟨b,1,none⟩=some v:=by rw[zf hb2];rfl
 have f1:w2.frozen? ⟨b,1,none⟩=false:=Lib.frozen_of_heap hb2 1;obtain⟨g,cap,rfl⟩:∃ g cap,v'=.slice (some ⟨g,0,none⟩) (bs.length+1) cap:=by
  rcases hown'.2 with⟨_,h0⟩ | ⟨g,cap,cur,hv,_⟩
  . omega
  . exact⟨g,cap,hv⟩
 go_wp2
 go_ret;refine⟨rfl,Or.inr ?_,?_⟩
 . exact Lib.BuilderAt.put (T := 83) (e := 5) hB hb2 (bs':=bs++[.int .u8 c]) (by simpa using hown') (by decide)
 . exact((hb1.alloc (by have:=hb1.size;omega) _).grown hgrow (by have:=hb1.size;simp;omega) (fun k hk=>(hown.lt k hk).1)).setCell (p:=⟨b,1,none⟩) hB _
theorem uQ (B b:Nat) (bs:List Value) (s:ByteArray) (w:World) (h:Lib.IsBuilder 83 5 B b bs w) (hlen:bs.length+s.size<=140737488355328) (hBw:B<=w.heap.size) :
 Calls Tryz.prog 194 #[.pointer (some ⟨b,0,none⟩),.string s] w fun e w'=>e=.returned (.tuple #[.int .i64 s.size,.nilIface])/\Lib.IsBuilder 83 5 B b (bs++Lib.strCells s) w'/\Below B w w':=by
 obtain⟨i0,hi,hz0,hz1,hz2⟩:=info_parts rB
 go_enter Tryz.func194, Tryz.ntmps194
 go_wp2_with (go_at_call 219; refine(ue B b bs _ h).mono ?_)
 rintro e w1 ⟨rfl,h1,hb1⟩;obtain⟨hB,v,hbk,hown,hne⟩:=h1;have c0:w1.cell? ⟨b,0,none⟩=some (.pointer (some ⟨b,0,none⟩)):=by rw[zf hbk];rfl
 have c1:w1.cell? ⟨b,1,none⟩=some v:=by rw[zf hbk];rfl
 go_wp2_with (at_builtin;refine Lib.wpList_append_own_string _ rfl _ _ 81 9 rfl B 5 i0 Tryz.underlying81 Tryz.underlying9 hi hz0 hz1 hz2 _ _ _ rfl hown s rfl ?c3 ?c4 ?c5 ?_)
 case c3=>unfold maxLen;omega
 case c4=>omega
 case c5=>have:=hb1.size;omega
 intro v' w2 hown' hgrow _;have hlt:b<w1.heap.size:=by
  rcases Nat.lt_or_ge b w1.heap.size with h' | h'
  . exact h'
  . simp [Array.getElem?_eq_none h'] at hbk
 have hb2:w2.heap[b]? = some (.cells #[.pointer (some ⟨b,0,none⟩),v] 83 (0,0)):=by
  rw[hgrow.block b hlt (fun e=>hne e.symm)];exact hbk
 have d0:w2.cell? ⟨b,0,none⟩=some (.pointer (some ⟨b,0,none⟩)):=by rw[zf hb2];rfl
 have d1:w2.cell? ⟨b,1,none⟩=some v:=by rw[zf hb2];rfl
 have f1:w2.frozen? ⟨b,1,none⟩=false:=Lib.frozen_of_heap hb2 1;obtain⟨ao,n',cap,rfl⟩:∃ ao n' cap,v'=.slice ao n' cap:=by
  rcases hown'.2 with⟨hv,_⟩ | ⟨g,cap,cur,hv,_⟩
  . exact⟨_,_,_,hv⟩
  . exact⟨_,_,_,hv⟩
 go_wp2
 go_ret2;refine⟨rfl,Or.inr ?_,?_⟩
 . exact Lib.BuilderAt.put (T := 83) (e := 5) hB hb2 (bs':=bs++Lib.strCells s) (by simpa [Lib.strCells_length] using hown') (by decide)
 . exact(hb1.grown hgrow (by have:=hb1.size;omega) (fun k hk=>(hown.lt k hk).1)).setCell (p:=⟨b,1,none⟩) hB _
end
section
open Go.RowKit
def hexd (k:Nat):UInt8:=if k<10 then UInt8.ofNat (48+k) else UInt8.ofNat (87+k)
def qf (n:Nat):List UInt8 :=
 if n=34 then [92,34] else if n=92 then [92,92] else if n=10 then [92,110] else if 32<=n/\n<=126 then [UInt8.ofNat n] else [92,120,hexd (n / 16),hexd (n % 16)]
theorem sN {l m:List UInt8} {w w':World} (h:l=m) (hb:Below w.heap.size w w'):StrMade l w (.returned (.string ⟨m.toArray⟩)) w':=by
 subst h;exact⟨rfl,hb⟩
theorem zga {l a b:List UInt8} {w w':World} (h:l=a++b) (hb:Below w.heap.size w w'):StrMade l w (.returned (.string (⟨a.toArray⟩++⟨b.toArray⟩))) w' :=
 ⟨by rw[ByteArray.mk_append_mk,h],hb⟩
theorem qR {l a b c:List UInt8} {w w':World} (h:l=a++b++c) (hb:Below w.heap.size w w'):StrMade l w (.returned (.string (⟨a.toArray⟩++⟨b.toArray⟩++⟨c.toArray⟩))) w' :=
 ⟨by rw[ByteArray.mk_append_mk,ByteArray.mk_append_mk,h],hb⟩
theorem qO (w:World):Calls Tryz.prog 206 #[.int .u8 34] w (StrMade (qf 34) w):=by
 go_enter Tryz.func206, Tryz.ntmps206
 go_wp2
 go_ret;exact sN rfl (Below.refl _ _)
theorem qW (w:World):Calls Tryz.prog 206 #[.int .u8 92] w (StrMade (qf 92) w):=by
 go_enter Tryz.func206, Tryz.ntmps206
 go_wp2
 go_ret;exact sN rfl (Below.refl _ _)
theorem q5 (w:World):Calls Tryz.prog 206 #[.int .u8 10] w (StrMade (qf 10) w):=by
 go_enter Tryz.func206, Tryz.ntmps206
 go_wp2
 go_ret;exact sN rfl (Below.refl _ _)
theorem zbK (n:Nat) (h:n<128):Utf8.encode (n:Int)=⟨[UInt8.ofNat n].toArray⟩:=by
 unfold Utf8.encode;have hv:Utf8.valid (n:Int)=true:=by
  unfold Utf8.valid;simp;omega
 simp [hv,h]
theorem rq (k:Nat) (h:k<16):(hexd k).toNat<128:=by
 have:=(by decide:∀ k:Fin 16,(hexd k.val).toNat<128) ⟨k,h⟩;exact this
theorem tK (n:Nat) (h:n<128) (w:World):(convert 21 9 (.int .i32 (n:Int))).run Tryz.prog w=.ok (.string ⟨[UInt8.ofNat n].toArray⟩) w:=by
 rw[run_convert_int_string w 21 9 .i32 n (by rw[Tryz.underlying21];rfl) Tryz.underlying9,zbK n h]
theorem zad (k:Nat) (h:k<16) (w:World):(convert 21 9 (.int .i32 ((hexd k).toNat:Int))).run Tryz.prog w=.ok (.string ⟨[hexd k].toArray⟩) w:=by
 rw[tK _ (rq k h)];simp
theorem zaY (k:Nat) (h:k<16):IntKind.i32.wrap ((hexd k).toNat:Int)=((hexd k).toNat:Int):=by
 have:=rq k h;rw[IntKind.wrap_i32];omega
theorem zgi (k:Nat) (h:k<16) (x:Int) (hx:x=k) (w:World):(Instr.index 9 (.string { data:=#[48,49,50,51,52,53,54,55,56,57,97,98,99,100,101,102] }) (.int .u8 x)).run Tryz.prog w=.ok (.int .u8 (hexd k).toNat) w:=by
 subst hx;rw[run_index_string _ _ _ _ _ Tryz.underlying9];have hs:({ data:=#[48,49,50,51,52,53,54,55,56,57,97,98,99,100,101,102] }:ByteArray).size=16:=rfl;rw[dif_pos ⟨by omega,by rw[hs];omega⟩];have key:=(by decide:∀ k:Fin 16,(({ data:=#[48,49,50,51,52,53,54,55,56,57,97,98,99,100,101,102] }:ByteArray)[k.val]'(by have:=k.isLt;rw[show({ data:=#[48,49,50,51,52,53,54,55,56,57,97,98,99,100,101,102] }:ByteArray).size=16 from rfl];exact this)).toNat=(hexd k.val).toNat) ⟨k,h⟩
 have k2:=congrArg (fun (x:Nat)=>(x:Int)) key
 simpa using k2
theorem q6 (n:Nat) (w:World) (h0:32<=n) (h1:n<=126) (e1:((n:Int) == 34)=false) (e2:((n:Int) == 92)=false) (e3:((n:Int) == 10)=false):Calls Tryz.prog 206 #[.int .u8 n] w (StrMade (qf n) w):=by
 have cv:=tK n (by omega);have hq:=zb (show qf n=[UInt8.ofNat n] by
  simp at e1 e2 e3;unfold qf;rw[if_neg (by omega),if_neg (by omega),if_neg (by omega),if_pos ⟨h0,h1⟩])
 go_enter Tryz.func206, Tryz.ntmps206
 go_wp2
 go_ret;exact sN hq.out (Below.refl _ _)
theorem qM (n:Nat) (w:World) (h0:n<=255) (h:n<32∨126<n) (e1:((n:Int) == 34)=false) (e2:((n:Int) == 92)=false) (e3:((n:Int) == 10)=false):Calls Tryz.prog 206 #[.int .u8 n] w (StrMade (qf n) w):=by
 have hq:=zb (show qf n=[92,120,hexd (n / 16),hexd (n % 16)] by
  simp at e1 e2 e3;unfold qf;rw[if_neg (by omega),if_neg (by omega),if_neg (by omega),if_neg (by omega)])
 have i1:=zgi (n / 16) (by omega) ((n:Int) / 16) (by omega);have i2:=zgi (n % 16) (by omega) ((n:Int) % 16) (by omega);have c1:=zad (n / 16) (by omega);have c2:=zad (n % 16) (by omega);have w1:=zaY (n / 16) (by omega);have w2:=zaY (n % 16) (by omega);have a1:=u8_and15 (x:=(n:Int)) (by omega) (by omega);rcases h with h | h
 all_goals
  go_enter Tryz.func206, Tryz.ntmps206
  go_wp2
  go_quiet (fail)
  go_wp2
  go_ret;exact qR (a:=[92,120]) (b:=[hexd (n / 16)]) (c:=[hexd (n % 16)]) hq.out (below_drewN (Below.refl _ _) _)
theorem sA (x:Int) (w:World) (h0:0<=x) (h1:x<=255):Calls Tryz.prog 206 #[.int .u8 x] w (StrMade (qf x.toNat) w):=by
 obtain⟨n,rfl⟩:=Int.eq_ofNat_of_zero_le h0;rw[Int.toNat_natCast];by_cases e1:n=34
 . subst e1;exact qO w
 . by_cases e2:n=92
   . subst e2;exact qW w
   . by_cases e3:n=10
     . subst e3;exact q5 w
     . have f1:((n:Int) == 34)=false:=by rw[beq_eq_false_iff_ne];omega
       have f2:((n:Int) == 92)=false:=by rw[beq_eq_false_iff_ne];omega
       have f3:((n:Int) == 10)=false:=by rw[beq_eq_false_iff_ne];omega
       by_cases h4:32<=n/\n<=126
       . exact q6 n w h4.1 h4.2 f1 f2 f3
       . exact qM n w (by omega) (by omega) f1 f2 f3
theorem ref_one_1 (w:World):Calls Tryz.prog 156 #[.int .u8 34] w (StrMade (qf 34) w):=by
 go_enter Tryz.func156, Tryz.ntmps156
 go_wp2
 go_ret;exact sN rfl (Below.refl _ _)
theorem ref_one_2 (w:World):Calls Tryz.prog 156 #[.int .u8 92] w (StrMade (qf 92) w):=by
 go_enter Tryz.func156, Tryz.ntmps156
 go_wp2
 go_ret;exact sN rfl (Below.refl _ _)
theorem ref_one_3 (w:World):Calls Tryz.prog 156 #[.int .u8 10] w (StrMade (qf 10) w):=by
 go_enter Tryz.func156, Tryz.ntmps156
 go_wp2
 go_ret;exact sN rfl (Below.refl _ _)
theorem ref_one_4 (n:Nat) (w:World) (h0:32<=n) (h1:n<=126) (e1:((n:Int) == 34)=false) (e2:((n:Int) == 92)=false) (e3:((n:Int) == 10)=false):Calls Tryz.prog 156 #[.int .u8 n] w (StrMade (qf n) w):=by
 have hq:=zb (show qf n=[UInt8.ofNat n] by
  simp at e1 e2 e3;unfold qf;rw[if_neg (by omega),if_neg (by omega),if_neg (by omega),if_pos ⟨h0,h1⟩])
 go_enter Tryz.func156, Tryz.ntmps156
 go_wp2
 rw[oneByte _ _ _ rfl];simp only[Result.andThen];rw[Oper.upon_value]
 go_wp2
 refine bodyPost_ret (v:=.string ⟨[UInt8.ofNat (n:Int).toNat].toArray⟩) (by simp [results, Tryz.results156,go_sem]) rfl (sN (by rw[hq.out,Int.toNat_natCast]) ((Below.refl _ _).alloc (Nat.le_refl _) _))
theorem ref_one_5 (n:Nat) (w:World) (h0:n<=255) (h:n<32∨126<n) (e1:((n:Int) == 34)=false) (e2:((n:Int) == 92)=false) (e3:((n:Int) == 10)=false):Calls Tryz.prog 156 #[.int .u8 n] w (StrMade (qf n) w):=by
 have hq:=zb (show qf n=[92,120,hexd (n / 16),hexd (n % 16)] by
  simp at e1 e2 e3;unfold qf;rw[if_neg (by omega),if_neg (by omega),if_neg (by omega),if_neg (by omega)])
 have i1:=zgi (n / 16) (by omega) ((n:Int) / 16) (by omega);have i2:=zgi (n % 16) (by omega) ((n:Int) % 16) (by omega);have c1:=twoBytes w ((hexd (n / 16)).toNat) ((hexd (n % 16)).toNat);rcases h with h | h
 all_goals
  go_enter Tryz.func156, Tryz.ntmps156
  go_wp2
  go_region
  all_goals
   go_wp2
   go_ret;exact zga (a:=[92,120]) (b:=[hexd (n / 16),hexd (n % 16)]) hq.out ((Below.refl _ _).alloc (Nat.le_refl _) _).drew
theorem ref_one (x:Int) (w:World) (h0:0<=x) (h1:x<=255):Calls Tryz.prog 156 #[.int .u8 x] w (StrMade (qf x.toNat) w):=by
 obtain⟨n,rfl⟩:=Int.eq_ofNat_of_zero_le h0;rw[Int.toNat_natCast];by_cases e1:n=34
 . subst e1;exact ref_one_1 w
 . by_cases e2:n=92
   . subst e2;exact ref_one_2 w
   . by_cases e3:n=10
     . subst e3;exact ref_one_3 w
     . have f1:((n:Int) == 34)=false:=by rw[beq_eq_false_iff_ne];omega
       have f2:((n:Int) == 92)=false:=by rw[beq_eq_false_iff_ne];omega
       have f3:((n:Int) == 10)=false:=by rw[beq_eq_false_iff_ne];omega
       by_cases h4:32<=n/\n<=126
       . exact ref_one_4 n w h4.1 h4.2 f1 f2 f3
       . exact ref_one_5 n w (by omega) (by omega) f1 f2 f3
end
section
open Go.RowKit
def qbody (l:List UInt8):List UInt8:=l.flatMap fun c=>qf c.toNat
def qall (l:List UInt8):List UInt8:=34::(qbody l++[34])
theorem zaR (n:Nat):(qf n).length<=4:=by
 unfold qf
 repeat' split
 all_goals simp
theorem zbc (n:Nat):1<=(qf n).length:=by
 unfold qf
 repeat' split
 all_goals simp
theorem tv (l:List UInt8):(qbody l).length<=4*l.length:=by
 induction l with
 | nil=>simp [qbody]
 | cons c r ih =>
  have:=zaR c.toNat;unfold qbody at ih ⊢;simp only[List.flatMap_cons,List.length_append,List.length_cons];omega
theorem zes (s:ByteArray) (k:Nat) (h:k<s.size):qbody (s.data.toList.take (k+1))=qbody (s.data.toList.take k)++qf s[k].toNat:=by
 rw[tW s k h];unfold qbody;rw[List.flatMap_append];simp
theorem vu {B b:Nat} {bs:List Value} {w w':World} (h:Lib.IsBuilder 83 5 B b bs w) (hb:Below w.heap.size w w'):Lib.IsBuilder 83 5 B b bs w':=by
 have hg:w.grownBy w' none:=⟨hb.os,hb.tape,hb.output,hb.size,fun k hk _=>hb.block k hk⟩;have core:∀ p,Lib.BuilderAt 83 5 B b p bs w->Lib.BuilderAt 83 5 B b p bs w':=by
  intro p h;have hl:=h.lt;obtain⟨h0,v,hv,hown,hne⟩:=h;exact⟨h0,v,(hb.block b hl).trans hv,hown.kept hg (by cases v.ownBlock <;> simp),hne⟩
 rcases h with h | h
 . exact Or.inl (core _ h)
 . exact Or.inr (core _ h)
theorem xH (w:World) (B:Nat) (hB:B<=w.heap.size):Lib.IsBuilder 83 5 B w.heap.size [] (w.alloc (.cells #[.pointer none,.slice none 0 0] 83 (0,0))):=by
 refine Or.inl ⟨hB,.slice none 0 0,zA w _ _ rfl,⟨rfl,Or.inl ⟨rfl,rfl⟩⟩,by simp [Value.ownBlock]⟩
theorem byteCells_append (a b:List UInt8):Lib.byteCells (a++b)=Lib.byteCells a++Lib.byteCells b:=by simp [Lib.byteCells]
theorem zcx (l:List UInt8):Lib.strCells ⟨l.toArray⟩=Lib.byteCells l:=by simp [Lib.strCells,Lib.byteCells]
def QRel (s:ByteArray) (w:World) (k:Nat) (wr:World):Prop:=Lib.IsBuilder 83 5 w.heap.size w.heap.size (Lib.byteCells (34::qbody (s.data.toList.take k))) wr/\Below w.heap.size w wr
theorem qlen (s:ByteArray) (k:Nat) (hs:s.size<=1099511627776) (hk:k<=s.size):(Lib.byteCells (34::qbody (s.data.toList.take k))).length<=4398046511105:=by
 have h1:=tv (s.data.toList.take k);have h2:(s.data.toList.take k).length<=k:=List.length_take_le _ _;rw[Lib.byteCells_length];simp only[List.length_cons];omega
theorem qstep {s:ByteArray} {w:World} {k:Nat} (h:k<s.size) {wr:World} (h1:Lib.IsBuilder 83 5 w.heap.size w.heap.size (Lib.byteCells (34::qbody (s.data.toList.take k))++Lib.strCells ⟨(qf s[k].toNat).toArray⟩) wr) (hb:Below w.heap.size w wr):QRel s w (k+1) wr:=by
 refine⟨?_,hb⟩;rw[zes s k h,← List.cons_append,byteCells_append,← zcx (qf s[k].toNat)];exact h1
theorem zde (s:ByteArray) (w:World) (hs:s.size<=1099511627776):Calls Tryz.prog 197 #[.string s] w (StrMade (qall s.data.toList) w):=by
 have h0:=zb (xH w w.heap.size (Nat.le_refl _));have hB0:=zb ((Below.refl w.heap.size w).alloc (Nat.le_refl _) (.cells #[.pointer none,.slice none 0 0] 83 (0,0)))
 go_enter Tryz.func197, Tryz.ntmps197
 go_wp2_with fail
 refine(xS w.heap.size w.heap.size [] 34 _ h0.out (by simp) (by simp)).mono ?_;rintro e w1 ⟨rfl,h1,hb1⟩;have H1:Hid (QRel s w 0 w1):=zb ⟨h1,hB0.out.trans hb1⟩;clear h0 hB0 h1 hb1
 go_wp2_with fail
 go_loopw [8] (fun i wr=>∃ k:Nat,k<=s.size/\i=.int .i64 k/\QRel s w k wr) (fun i _=>s.size-(intOf i).toNat)
 case atStart=>exact⟨0,Nat.zero_le _,rfl,H1.out⟩
 case round =>
  obtain⟨k,hk,rfl,hrel⟩:=hrel;have HR:=zb hrel;clear hrel H1;by_cases hlt:k<s.size
  . have hc:=s[k].toNat_lt
    go_wp2_with fail
    refine(sA _ _ (by omega) (by omega)).mono ?_;rintro e w2 ⟨rfl,hb2⟩;rw[Int.toNat_natCast];have HB2:=zb hb2;clear hb2
    go_wp2_with fail
    refine(uQ w.heap.size w.heap.size _ _ _ (vu HR.out.1 HB2.out) ?_ (Nat.le_trans HR.out.2.size HB2.out.size)).mono ?_
    . have h1:=qlen s k hs (by omega);have h2:=zaR s[k].toNat;have h3:(⟨(qf s[k].toNat).toArray⟩:ByteArray).size=(qf s[k].toNat).length:=rfl;omega
    . rintro e w3 ⟨rfl,h3,hb3⟩;have HN:=zb (qstep hlt h3 ((HR.out.2.trans (HB2.out.mono HR.out.2.size)).trans hb3));clear h3 hb3
      go_wp2_with fail
      go_roundw
      case rel=>exact⟨k+1,by omega,by go_num,HN.out⟩
      case measure=>simp [intOf];omega
  . obtain rfl:k=s.size:=by omega
    have HL:=zb (qlen s s.size hs (Nat.le_refl _));rw[tB] at HL;unfold QRel at HR;rw[tB] at HR
    go_wp2_with fail
    refine(xS w.heap.size w.heap.size _ 34 _ HR.out.1 (by have:=HL.out;omega) HR.out.2.size).mono ?_;rintro e w2 ⟨rfl,h2,hb2⟩;have hcells:Lib.byteCells (34::qbody s.data.toList)++[Value.int .u8 34]=Lib.byteCells (qall s.data.toList):=by
     unfold qall;rw[← List.cons_append,byteCells_append];rfl
    rw[hcells] at h2;have H2:=zb h2;have HB2:=zb (HR.out.2.trans hb2);clear h2 hb2 hcells
    go_wp2_with fail
    refine(Tryz.Builder_String_any w.heap.size w.heap.size _ _ H2.out HB2.out.size).mono ?_;rintro e w3 ⟨rfl,hb3⟩;have HB3:=zb (HB2.out.trans hb3)
    go_wp2_with fail
    go_ret;exact⟨rfl,HB3.out⟩
end
section
open Go.RowKit
def hexLit:List UInt8:=[48,49,50,51,52,53,54,55,56,57,97,98,99,100,101,102]
def DG (c:UInt8):Nat:=(max 0 (Lib.indexByte hexLit c)).toNat
theorem zbe:∀ k:Fin 256,DG (UInt8.ofNat k.val)<=15:=by decide +kernel
theorem tf (c:UInt8):DG c<=15:=by
 have:=zbe ⟨c.toNat,c.toNat_lt⟩
 simpa using this
def Mn (l:List UInt8):Nat :=
 if l.getD 0 0≠92∨l.length=1 then(l.getD 0 0).toNat
 else if l.getD 1 0=110 then 10
 else if l.getD 1 0=120/\4<=l.length then DG (l.getD 2 0)*16+DG (l.getD 3 0)
 else(l.getD 1 0).toNat
theorem Mn_lt (l:List UInt8):Mn l<256:=by
 unfold Mn;have h0:=(l.getD 0 0).toNat_lt;have h1:=(l.getD 1 0).toNat_lt;have h2:=tf (l.getD 2 0);have h3:=tf (l.getD 3 0)
 split
 . omega
 . split
   . omega
   . split <;> omega
theorem zg6 (n:Nat):1<=(qf n).length:=by
 unfold qf
 repeat' split
 all_goals simp
def pre (n:Nat) (l:List UInt8):Bool:=Lib.hasPrefix l (qf n)
theorem zbH {n:Nat} {l:List UInt8} (h:pre n l=true):∃ t,l=qf n++t:=by
 unfold pre Lib.hasPrefix at h;rw[List.isPrefixOf_iff_prefix] at h;obtain⟨t,ht⟩:=h;exact⟨t,ht.symm⟩
def unq:Nat->List UInt8->Option (List UInt8)
 | 0,_=>some []
 | f+1,l=>if l=[] then some [] else if pre (Mn l) l=true then(unq f (l.drop (qf (Mn l)).length)).map (UInt8.ofNat (Mn l)::·) else none
def UnqV (l:List UInt8):List UInt8×Int :=
 if l.length<2∨l.getD 0 0≠34∨l.getD (l.length-1) 0≠34 then([],5)
 else match unq l.length ((l.drop 1).take (l.length-2)) with
  | some r=>(r,0)
  | none=>([],5)
theorem zbz (f:Nat):unq f []=some []:=by
 cases f <;> simp [unq]
theorem zeR (f:Nat) (l:List UInt8) (h:l≠[]) (hp:pre (Mn l) l=true):unq (f+1) l=(unq f (l.drop (qf (Mn l)).length)).map (UInt8.ofNat (Mn l)::·):=by
 rw[unq,if_neg h,if_pos hp]
theorem unq_no (f:Nat) (l:List UInt8) (h:l≠[]) (hp:pre (Mn l) l=false):unq (f+1) l=none:=by
 rw[unq,if_neg h,if_neg (by simp [hp])]
def UKeep (F:Nat) (I:List UInt8) (done l:List UInt8):Prop:=∃ f,l.length<=f/\unq F I=(unq f l).map (done++·)
theorem UKeep.start (F:Nat) (I:List UInt8) (h:I.length<=F):UKeep F I [] I:=⟨F,h,by simp⟩
theorem UKeep.stop {F:Nat} {I done:List UInt8} (h:UKeep F I done []):unq F I=some done:=by
 obtain⟨f,_,h⟩:=h;rw[h,zbz];simp
theorem UKeep.none {F:Nat} {I done l:List UInt8} (h:UKeep F I done l) (hl:l≠[]) (hp:pre (Mn l) l=false):unq F I=none:=by
 obtain⟨f,hf,h⟩:=h
 match f,hf,h with
 | 0,hf,_=>exact absurd (List.length_eq_zero_iff.1 (by omega)) hl
 | f+1,_,h=>rw[h,unq_no f l hl hp];rfl
theorem UKeep.step {F:Nat} {I done l:List UInt8} (h:UKeep F I done l) (hl:l≠[]) (hp:pre (Mn l) l=true):UKeep F I (done++[UInt8.ofNat (Mn l)]) (l.drop (qf (Mn l)).length):=by
 obtain⟨f,hf,h⟩:=h
 match f,hf,h with
 | 0,hf,_=>exact absurd (List.length_eq_zero_iff.1 (by omega)) hl
 | f+1,hf,h =>
  refine⟨f,?_,?_⟩
  . have:=zg6 (Mn l);rw[List.length_drop];omega
  . rw[h,zeR f l hl hp,Option.map_map];congr 1;funext x;simp
theorem rm {n:Nat} {l:List UInt8} (h:pre n l=true):(qf n).length<=l.length:=by
 obtain⟨t,rfl⟩:=zbH h;simp
theorem tN {l:List UInt8} (h:l.length<2∨l.getD 0 0≠34∨l.getD (l.length-1) 0≠34):UnqV l=([],5):=by
 unfold UnqV;rw[if_pos h]
theorem zaL {l r:List UInt8} (h:¬(l.length<2∨l.getD 0 0≠34∨l.getD (l.length-1) 0≠34)) (h2:unq l.length ((l.drop 1).take (l.length-2))=some r):UnqV l=(r,0):=by
 unfold UnqV;rw[if_neg h,h2]
theorem unqV_none {l:List UInt8} (h:¬(l.length<2∨l.getD 0 0≠34∨l.getD (l.length-1) 0≠34)) (h2:unq l.length ((l.drop 1).take (l.length-2))=none):UnqV l=([],5):=by
 unfold UnqV;rw[if_neg h,h2]
end
section
open Go.RowKit
theorem sF (l:List UInt8) (c:UInt8):-1<=Lib.indexByte l c/\Lib.indexByte l c<l.length:=by
 induction l with
 | nil=>simp [Lib.indexByte]
 | cons b r ih =>
  unfold Lib.indexByte;simp only[List.length_cons]
  split
  . omega
  . split <;> omega
theorem zbn (c:UInt8):((c.toNat:Int).toNat).toUInt8=c:=by
 rw[Int.toNat_natCast];simp
theorem zd8 (c:UInt8) (w:World):Calls Tryz.prog 223 #[.int .u8 c.toNat] w fun e w'=>e=.returned (.int .u8 (DG c))/\w'=w:=by
 have hb:=sF hexLit c;have hl:hexLit.length=16:=rfl;rw[hl] at hb;obtain⟨hb0,hb1⟩:=hb;have hd:((DG c:Nat):Int)=max 0 (Lib.indexByte hexLit c):=by
  unfold DG;omega
 have HD:=zb hd;have hc:=(Tryz.strings_IndexByte ⟨#[48,49,50,51,52,53,54,55,56,57,97,98,99,100,101,102]⟩ c.toNat w);rw[zbn] at hc;have HC:=zb (show Calls Tryz.prog 231 #[.string ⟨#[48,49,50,51,52,53,54,55,56,57,97,98,99,100,101,102]⟩,.int .u8 c.toNat] w fun e w'=>e=.returned (.int .i64 (Lib.indexByte hexLit c))/\w'=w from hc)
 clear hd hc hl;generalize Lib.indexByte hexLit c=x at *
 go_enter Tryz.func223, Tryz.ntmps223
 go_wp2_with fail
 refine HC.out.mono ?_;rintro e w' ⟨rfl,rfl⟩
 go_wp2_with fail
 go_ret;exact⟨zbN HD.out.symm,rfl⟩
theorem yT (s:ByteArray) (k:Nat) (h:k<s.size):s.data.toList.getD k 0=s[k]:=by
 have:=yk s k h;rw[List.getD_eq_getElem?_getD,← List.head?_drop,this];rfl
theorem wR {c:UInt8} {n:Nat} (hn:n<256):((c.toNat:Int) == (n:Int))=true↔c=UInt8.ofNat n:=by
 rw[beq_iff_eq,← UInt8.toNat_inj];simp only[UInt8.toNat_ofNat'];omega
theorem ws {c:UInt8} {n:Nat} (hn:n<256):((c.toNat:Int) == (n:Int))=false↔¬c=UInt8.ofNat n:=by
 rw[← wR hn];simp
def IntMade (k:IntKind) (n:Int) (w:World) (e:Ending) (w':World):Prop:=e=.returned (.int k n)/\Below w.heap.size w w'
theorem vU {k:IntKind} {m n:Int} {w w':World} (h:n=m) (hb:Below w.heap.size w w'):IntMade k n w (.returned (.int k m)) w':=by
 subst h;exact⟨rfl,hb⟩
theorem yH (s:ByteArray):s.data.toList.length=s.size:=rfl
theorem zcp (s:ByteArray) (h:0<s.size) (hc:¬s[0]=92∨s.size=1):Mn s.data.toList=s[0].toNat:=by
 unfold Mn;rw[yT s 0 h,yH,if_pos hc]
theorem mn_n (s:ByteArray) (h:1<s.size) (hc:s[0]=92) (h1:s[1]=110):Mn s.data.toList=10:=by
 unfold Mn;rw[yT s 0 (by omega),yT s 1 h,yH,if_neg (by simp [hc];omega),if_pos h1]
theorem mn_x (s:ByteArray) (h:4<=s.size) (hc:s[0]=92) (h1:s[1]=120):Mn s.data.toList=DG s[2]*16+DG s[3]:=by
 unfold Mn;rw[yT s 0 (by omega),yT s 1 (by omega),yT s 2 (by omega),yT s 3 (by omega),yH,if_neg (by simp [hc];omega),if_neg (by rw[h1];decide),if_pos ⟨h1,h⟩]
theorem zeK (s:ByteArray) (h:1<s.size) (hc:s[0]=92) (h1:¬s[1]=110) (h2:¬(s[1]=120/\4<=s.size)):Mn s.data.toList=s[1].toNat:=by
 unfold Mn;rw[yT s 0 (by omega),yT s 1 h,yH,if_neg (by simp [hc];omega),if_neg h1,if_neg h2]
theorem or_u8 (a b:Nat) (ha:a<=15) (hb:b<=15):bits BinOp.or IntKind.u8 ((a:Int)*16) (b:Int)=((a*16+b:Nat):Int):=by
 have:=bits_join .u8 8 (by decide) wraps_u8 4 ((a:Int)*16) b (by omega) (by omega) (by omega) (by omega) (by omega) (by omega);rw[this];omega
theorem wC (s:ByteArray) (k:Nat) (h:k<s.size) (x:Int) (hx:x=k) (w:World):(Instr.index 9 (.string s) (.int .i64 x)).run Tryz.prog w=.ok (.int .u8 s[k].toNat) w:=by
 subst hx;rw[run_index_string _ _ _ _ _ Tryz.underlying9,dif_pos ⟨by omega,by omega⟩];simp
theorem zdC (s:ByteArray) (w:World) (h:0<s.size) (hs:s.size<=maxLen):Calls Tryz.prog 205 #[.string s] w (IntMade .u8 (Mn s.data.toList) w):=by
 unfold maxLen at hs;by_cases hc:s[0]=92
 . have e0:((s[0].toNat:Int) == 92)=true:=(wR (n:=92) (by decide)).2 hc;have e0':((s[0].toNat:Int) != 92)=false:=by rw[bne,e0];rfl
   by_cases h1:s.size=1
   . have HM:=zb (zcp s h (Or.inr h1));have f1:((s.size:Int) == 1)=true:=by rw[beq_iff_eq];omega
     clear hc h1
     go_enter Tryz.func205, Tryz.ntmps205
     go_wp2
     go_ret;exact vU (congrArg Int.ofNat HM.out) (Below.refl _ _)
   . have f1:((s.size:Int) == 1)=false:=by rw[beq_eq_false_iff_ne];omega
     have h2:1<s.size:=by omega
     by_cases hn:s[1]=110
     . have HM:=zb (mn_n s h2 hc hn);have e1:((s[1].toNat:Int) == 110)=true:=(wR (n:=110) (by decide)).2 hn;clear hc hn
       go_enter Tryz.func205, Tryz.ntmps205
       go_wp2
       go_ret;exact vU (congrArg Int.ofNat HM.out) (Below.refl _ _)
     . have e1:((s[1].toNat:Int) == 110)=false:=(ws (n:=110) (by decide)).2 hn;by_cases hx:s[1]=120
       . have e2:((s[1].toNat:Int) == 120)=true:=(wR (n:=120) (by decide)).2 hx;by_cases h4:4<=s.size
         . have HM:=zb (mn_x s h4 hc hx);have d2:=tf s[2];have d3:=tf s[3];have ho:=or_u8 (DG s[2]) (DG s[3]) d2 d3;have hw:IntKind.u8.wrap ((DG s[2]:Int)*16)=(DG s[2]:Int)*16:=by rw[IntKind.wrap_u8];omega
           have i2:=wC s 2 (by omega) 2 rfl;have i3:=wC s 3 (by omega) 3 rfl;clear hc hn hx
           go_enter Tryz.func205, Tryz.ntmps205
           go_wp2_with fail
           go_quiet ((go_at_call 223; exact Calls.quiet_of_same (zd8 _ _)))
           go_wp2_with fail
           go_ret;exact vU (congrArg Int.ofNat HM.out) (below_drewN (Below.refl _ _) _)
         . have HM:=zb (zeK s h2 hc hn (fun hh=>h4 hh.2));clear hc hn hx
           go_enter Tryz.func205, Tryz.ntmps205
           go_wp2
           go_ret;exact vU (congrArg Int.ofNat HM.out) (Below.refl _ _)
       . have HM:=zb (zeK s h2 hc hn (fun hh=>hx hh.1));have e2:((s[1].toNat:Int) == 120)=false:=(ws (n:=120) (by decide)).2 hx;clear hc hn hx
         go_enter Tryz.func205, Tryz.ntmps205
         go_wp2
         go_ret;exact vU (congrArg Int.ofNat HM.out) (Below.refl _ _)
 . have HM:=zb (zcp s h (Or.inl hc));have e0:((s[0].toNat:Int) == 92)=false:=(ws (n:=92) (by decide)).2 hc;have e0':((s[0].toNat:Int) != 92)=true:=by rw[bne,e0];rfl
   clear hc
   go_enter Tryz.func205, Tryz.ntmps205
   go_wp2
   go_ret;exact vU (congrArg Int.ofNat HM.out) (Below.refl _ _)
end
section
open Go.RowKit
def StrErr (l:List UInt8) (x:Int) (w:World) (e:Ending) (w':World):Prop:=e=.returned (.tuple #[.string ⟨l.toArray⟩,.int .i64 x])/\Below w.heap.size w w'
theorem qu {v:List UInt8×Int} {l:List UInt8} {x:Int} {w w':World} (h:v=(l,x)) (hb:Below w.heap.size w w'):StrErr v.1 v.2 w (.returned (.tuple #[.string ⟨l.toArray⟩,.int .i64 x])) w':=by
 subst h;exact⟨rfl,hb⟩
theorem uj (t:ByteArray) (n:Nat) (b:Bool) (h:pre n t.data.toList=b) (w:World):Calls Tryz.prog 175 #[.string t,.string ⟨(qf n).toArray⟩] w fun e w'=>e=.returned (.bool b)/\w=w':=by
 refine(Tryz.strings_HasPrefix t ⟨(qf n).toArray⟩ w).mono ?_;rintro e w' ⟨rfl,rfl⟩;exact⟨wI h,rfl⟩
def strLen:Value->Nat
 | .string s=>s.size
 | _=>0
def URel (s:ByteArray) (w:World) (t:ByteArray) (done:List UInt8) (wr:World):Prop :=
 t.size+done.length<=s.size/\UKeep s.data.toList.length ((s.data.toList.drop 1).take (s.data.toList.length-2)) done t.data.toList/\Lib.IsBuilder 83 5 w.heap.size w.heap.size (Lib.byteCells done) wr/\Below w.heap.size w wr
theorem URel.start (s:ByteArray) (w:World) (h2:¬s.size<2):URel s w (s.extract 1 (s.size-1)) [] (w.alloc (.cells #[.pointer none,.slice none 0 0] 83 (0,0))):=by
 have hd:(s.extract 1 (s.size-1)).data.toList=(s.data.toList.drop 1).take (s.data.toList.length-2):=by
  rw[Lib.extract_data,yH];congr 1
 have hl:(s.extract 1 (s.size-1)).size=s.size-2:=by
  rw[ByteArray.size_extract];omega
 refine⟨by rw[hl];simp,?_,xH w _ (Nat.le_refl _),(Below.refl _ _).alloc (Nat.le_refl _) _⟩;rw[hd];refine UKeep.start _ _ ?_;rw[← hd,yH,yH,hl];omega
theorem za6 (t:ByteArray) (h:0<t.size):t.data.toList≠[]:=by
 intro e;have:t.data.toList.length=t.size:=rfl;rw[e] at this;simp at this;omega
theorem qX (n:Nat) (h:n<256):[Value.int .u8 (n:Int)]=Lib.byteCells [UInt8.ofNat n]:=by
 simp [Lib.byteCells];omega
theorem URel.next {s:ByteArray} {w:World} {t:ByteArray} {done:List UInt8} {wr w':World} (h:URel s w t done wr) (ht:0<t.size) (hp:pre (Mn t.data.toList) t.data.toList=true)
 (hb:Lib.IsBuilder 83 5 w.heap.size w.heap.size (Lib.byteCells done++[Value.int .u8 (Mn t.data.toList:Int)]) w') (hw:Below w.heap.size w w'):URel s w (t.extract (qf (Mn t.data.toList)).length t.size) (done++[UInt8.ofNat (Mn t.data.toList)]) w':=by
 have hl:=rm hp;have h1:=zbc (Mn t.data.toList);rw[yH] at hl;refine⟨?_,?_,?_,hw⟩
 . have:=h.1;rw[ByteArray.size_extract,List.length_append];simp only[List.length_singleton];omega
 . rw[Lib.extract_to_end];exact h.2.1.step (za6 t ht) hp
 . rw[byteCells_append,← qX _ (Mn_lt _)];exact hb
theorem zba (s:ByteArray) (w:World) (hs:s.size<=1099511627776):Calls Tryz.prog 174 #[.string s] w (StrErr (UnqV s.data.toList).1 (UnqV s.data.toList).2 w):=by
 by_cases h2:s.size<2
 . have HV:=zb (tN (l:=s.data.toList) (Or.inl h2))
   go_enter Tryz.func174, Tryz.ntmps174
   go_wp2
   go_ret2;exact qu HV.out (Below.refl _ _)
 . have h0:0<s.size:=by omega
   have hz:s.size-1<s.size:=by omega
   have il:=wC s (s.size-1) hz ((s.size:Int)-1) (by omega);by_cases hc:s[0]=34
   . have e0:((s[0].toNat:Int) == 34)=true:=(wR (n:=34) (by decide)).2 hc;have e0':((s[0].toNat:Int) != 34)=false:=by rw[bne,e0];rfl
     by_cases hd:s[s.size-1]=34
     . have e1:((s[s.size-1].toNat:Int) == 34)=true:=(wR (n:=34) (by decide)).2 hd;have e1':((s[s.size-1].toNat:Int) != 34)=false:=by rw[bne,e1];rfl
       have hok:¬(s.data.toList.length<2∨s.data.toList.getD 0 0≠34∨s.data.toList.getD (s.data.toList.length-1) 0≠34):=by
        rw[yH,yT s 0 h0,yT s (s.size-1) hz,hc,hd];simp;omega
       have HOK:=zb hok;clear hok hc hd
       go_enter Tryz.func174, Tryz.ntmps174
       go_wp2_with fail
       go_loopw [5] (fun r wr=>∃(t:ByteArray) (done:List UInt8),r=.string t/\URel s w t done wr) (fun r _=>strLen r)
       case atStart=>exact⟨_,[],rfl,URel.start s w h2⟩
       case round =>
        obtain⟨t,done,rfl,hrel⟩:=hrel;have HR:=zb hrel;have hsz:=hrel.1;clear hrel;by_cases ht:0<t.size
        . have e2:t.toList.isEmpty=false:=by rw[yq,List.isEmpty_eq_false_iff];exact za6 t ht
          have hn:=Mn_lt t.data.toList
          go_wp2_with fail
          refine(zdC t _ ht (by unfold maxLen;omega)).mono ?_;rintro e w1 ⟨rfl,hb1⟩;have HB1:=zb hb1;clear hb1
          go_wp2_with fail
          refine(sA _ _ (by omega) (by omega)).mono ?_;rintro e w2 ⟨rfl,hb2⟩;rw[Int.toNat_natCast];have HB2:=zb (HB1.out.trans (hb2.mono HB1.out.size));clear hb2 HB1;by_cases hp:pre (Mn t.data.toList) t.data.toList=true
          . have HP:=zb hp;clear hp
            go_wp2_with fail
            refine(uj t _ true HP.out _).mono ?_;rintro e w' ⟨rfl,rfl⟩
            go_wp2_with fail
            refine(xS w.heap.size w.heap.size _ _ _ (vu HR.out.2.2.1 HB2.out) (by rw[Lib.byteCells_length];omega) (Nat.le_trans HR.out.2.2.2.size HB2.out.size)).mono ?_;rintro e w3 ⟨rfl,h3,hb3⟩;have HN:=zb (HR.out.next ht HP.out h3 ((HR.out.2.2.2.trans (HB2.out.mono HR.out.2.2.2.size)).trans hb3))
            have hl:=rm HP.out;have hq:=zbc (Mn t.data.toList);rw[yH] at hl;clear h3 hb3
            go_wp2_with fail
            go_roundw
            case rel=>exact⟨_,_,rfl,HN.out⟩
            case measure =>
             simp only[strLen];rw[ByteArray.size_extract];omega
          . have hp':pre (Mn t.data.toList) t.data.toList=false:=by simpa using hp
            have HV:=zb (unqV_none HOK.out (HR.out.2.1.none (za6 t ht) hp'));have HP:=zb hp';clear hp hp'
            go_wp2_with fail
            refine(uj t _ false HP.out _).mono ?_;rintro e w' ⟨rfl,rfl⟩
            go_wp2_with fail
            go_ret2;exact qu HV.out (HR.out.2.2.2.trans (HB2.out.mono HR.out.2.2.2.size))
        . have e2:t.toList.isEmpty=true:=by rw[yq,wf t ht];rfl
          have hk:=HR.out.2.1;rw[wf t ht] at hk;have HV:=zb (zaL HOK.out hk.stop);clear hk
          go_wp2_with fail
          refine(Tryz.Builder_String_any w.heap.size w.heap.size _ _ HR.out.2.2.1 HR.out.2.2.2.size).mono ?_;rintro e w3 ⟨rfl,hb3⟩;have HB3:=zb (HR.out.2.2.2.trans hb3);clear hb3
          go_wp2_with fail
          go_ret2;exact qu HV.out HB3.out
     . have HV:=zb (tN (l:=s.data.toList) (Or.inr (Or.inr (by rw[yH,yT s (s.size-1) hz];exact hd))));have e1:((s[s.size-1].toNat:Int) == 34)=false:=(ws (n:=34) (by decide)).2 hd;have e1':((s[s.size-1].toNat:Int) != 34)=true:=by rw[bne,e1];rfl
       clear hc hd
       go_enter Tryz.func174, Tryz.ntmps174
       go_wp2
       go_ret2;exact qu HV.out (Below.refl _ _)
   . have HV:=zb (tN (l:=s.data.toList) (Or.inr (Or.inl (by rw[yT s 0 h0];exact hc))));have e0:((s[0].toNat:Int) == 34)=false:=(ws (n:=34) (by decide)).2 hc;have e0':((s[0].toNat:Int) != 34)=true:=by rw[bne,e0];rfl
     clear hc
     go_enter Tryz.func174, Tryz.ntmps174
     go_wp2
     go_ret2;exact qu HV.out (Below.refl _ _)
end
section
open Go.RowKit
theorem zfJ (l:List UInt8):strOfNums (l.map fun c=>(c.toNat:Int))=⟨l.toArray⟩:=by
 apply ByteArray.ext;apply Array.toList_inj.1;rw[strOfNums_data,List.map_map];have:((fun n:Int=>UInt8.ofNat n.toNat)∘fun c:UInt8=>(c.toNat:Int))=id:=by
  funext c;simp
 rw[this,List.map_id]
theorem zgJ {B:Nat} {v:Value} {l:List UInt8} {w:World} (h:w.ownsRow B 5 1 v l.length (Lib.byteCells l)):(convert 81 9 v).run Tryz.prog w=.ok (.string ⟨l.toArray⟩) w:=by
 rcases h.2 with⟨rfl,h0⟩ | ⟨g,cap,cur,rfl,_⟩
 . have:l=[]:=List.length_eq_zero_iff.1 h0;subst this;exact run_convert_bytes_nil w 81 5 Tryz.underlying81 Tryz.underlying5 0 0 9 Tryz.underlying9
 . rw[← zfJ];refine run_convert_bytes_arg w 81 5 Tryz.underlying81 Tryz.underlying5 g 0 l.length cap (l.map fun c=>(c.toNat:Int)) (by simp) ?_ 9 Tryz.underlying9;intro i hi;have:=h.cells (g:=g) rfl i (.int .u8 (l[i].toNat)) (by simp [Lib.byteCells,hi]);rw[Lib.add_plain,Nat.zero_add] at this;rw[Nat.zero_add,this];simp [List.getD,hi]
theorem own_built (w:World) (B:Nat) (c:UInt8) (hB:B<=w.heap.size):(w.alloc (.cells #[.int .u8 c.toNat] 5 (0,0))).ownsRow B 5 1 (.slice (some ⟨w.heap.size,0,none⟩) 1 1) [c].length (Lib.byteCells [c]) :=
 ⟨rfl,Or.inr ⟨w.heap.size,1,_,rfl,hB,zA w _ _ rfl,Nat.le_refl _,by decide,rfl,rfl⟩⟩
def ORel (l:List UInt8) (w:World) (v:Value) (wr:World):Prop:=wr.ownsRow w.heap.size 5 1 v l.length (Lib.byteCells l)/\Below w.heap.size w wr
theorem ORel.below {l:List UInt8} {w:World} {v:Value} {wr w':World} (h:ORel l w v wr) (hb:Below wr.heap.size wr w'):ORel l w v w' :=
 ⟨h.1.kept (row:=none) ⟨hb.os,hb.tape,hb.output,hb.size,fun k hk _=>hb.block k hk⟩ (by cases v.ownBlock <;> simp),h.2.trans (hb.mono h.2.size)⟩
theorem ORel.grow {l m:List UInt8} {w:World} {v v':Value} {wr w':World} (h:ORel l w v wr) (hown:w'.ownsRow w.heap.size 5 1 v' (l.length+m.length) (Lib.byteCells l++Lib.byteCells m)) (hg:wr.grownBy w' v.ownBlock):ORel (l++m) w v' w':=by
 refine⟨?_,h.2.grown hg h.2.size (fun k hk=>(h.1.lt k hk).1)⟩;rw[List.length_append,byteCells_append];exact hown
theorem olen (s:ByteArray) (k:Nat) (hs:s.size<=1099511627776) (hk:k<=s.size):(34::qbody (s.data.toList.take k)).length<=4398046511105:=by
 have h1:=tv (s.data.toList.take k);have h2:(s.data.toList.take k).length<=k:=List.length_take_le _ _;simp only[List.length_cons];omega
theorem ostep {s:ByteArray} {k:Nat} (h:k<s.size):34::qbody (s.data.toList.take (k+1))=(34::qbody (s.data.toList.take k))++qf s[k].toNat:=by
 rw[zes s k h,List.cons_append]
theorem ref_Quote (s:ByteArray) (w:World) (hs:s.size<=1099511627776):Calls Tryz.prog 87 #[.string s] w (StrMade (qall s.data.toList) w):=by
 obtain⟨i0,hi,hz0,hz1,hz2⟩:=info_parts rB;have hs2:=hs;have h0:Hid (ORel (34::qbody (s.data.toList.take 0)) w (.slice (some ⟨w.heap.size,0,none⟩) 1 1) (w.alloc (.cells #[.int .u8 34] 5 (0,0)))):=zb ⟨own_built w w.heap.size 34 (Nat.le_refl _),(Below.refl w.heap.size w).alloc (Nat.le_refl _) _⟩
 go_enter Tryz.func87, Tryz.ntmps87
 go_wp2_with fail
 go_loopw [3,4] (fun o i wr=>∃ k:Nat,k<=s.size/\i=.int .i64 k/\ORel (34::qbody (s.data.toList.take k)) w o wr) (fun _ i _=>s.size-(intOf i).toNat)
 case atStart=>exact⟨0,Nat.zero_le _,rfl,h0.out⟩
 case round =>
  rename_i o _;obtain⟨k,hk,rfl,hrel⟩:=hrel;have HR:=zb hrel;clear hrel h0;by_cases hlt:k<s.size
  . have hc:=s[k].toNat_lt
    go_wp2_with fail
    refine(ref_one _ _ (by omega) (by omega)).mono ?_;rintro e w2 ⟨rfl,hb2⟩;rw[Int.toNat_natCast];have H2:=zb (HR.out.below hb2);clear hb2;have h1:=olen s k hs (by omega);have h2:=zaR s[k].toNat;have h3:(⟨(qf s[k].toNat).toArray⟩:ByteArray).size=(qf s[k].toNat).length:=rfl;have h4:(⟨(qf s[k].toNat).toArray⟩:ByteArray).size+(34::qbody (s.data.toList.take k)).length<=140737488355328:=by omega
    have H4:=zb h4;clear h1 h2 h3 h4
    go_wp2_with (at_builtin;refine Lib.wpList_append_own_string _ rfl _ _ 81 9 rfl w.heap.size 5 i0 Tryz.underlying81 Tryz.underlying9 hi hz0 hz1 hz2 _ _ _ rfl H2.out.1 _ rfl ?c3 ?c4 ?c5 ?_)
    case c3=>have:=H4.out;unfold maxLen;omega
    case c4=>have:=H4.out;omega
    case c5=>exact H2.out.2.size
    intro v' w3 hown' hgrow _;rw[zcx] at hown';have HN:=zb (H2.out.grow hown' hgrow);rw[← ostep hlt] at HN;clear hown' hgrow
    go_wp2_with fail
    go_roundw
    case rel=>exact⟨k+1,by omega,by go_num,HN.out⟩
    case measure=>simp [intOf];omega
  . obtain rfl:k=s.size:=by omega
    have HL:=zb (olen s s.size hs (Nat.le_refl _));rw[tB] at HL HR
    go_wp2_with (at_builtin;refine wpList_append_own _ rfl _ _ 81 rfl w.heap.size 5 i0 (.int .u8 0) 1 1 Tryz.underlying81 hi hz0 hz1 hz2 rfl (by decide) _ _ _ rfl (HR.out.1.alloc _) ⟨wr.heap.size,0,none⟩ 1 1 [.int .u8 34] rfl rfl ?c1 ?c2 ?c3 ?c4 ?c5 ?_)
    case c1 =>
     intro j u hj
     match j,hj with
     | 0,hj=>simp at hj;subst hj;simp [Addr.add]
    case c2=>intro u hu;simp at hu;subst hu;rfl
    case c3=>have:=HL.out;unfold maxLen;omega
    case c4=>have:=HL.out;omega
    case c5=>have:=HR.out.2.size;simp;omega
    intro v' w3 hown' hgrow _;have HN:Hid (ORel (qall s.data.toList) w v' w3):=zb ((HR.out.below ((Below.refl _ _).alloc (Nat.le_refl _) _)).grow (m:=[34]) hown' hgrow);have hcv:=zgJ HN.out.1;clear hown' hgrow
    go_wp2_with fail
    go_ret;exact⟨rfl,HN.out.2⟩
end
section
open Go.RowKit
end
section
open Go.RowKit
def Tab (w : World) : Prop := Lib.TabIs Tryz.prog w "internal/strconv.uint64pow10" .u64 Lib.pow10Tab
theorem zL : Tryz.prog.globalNamed "internal/strconv.uint64pow10" = some 4 := by kernel_rfl
theorem Tab.lt {w:World} (h:Tab w) : 4 < w.heap.size :=
 World.block_lt_of_cell? w (a:=⟨4,0,none⟩) (Lib.TabIs.cell h zL 0 (by rw[Lib.pow10Tab_length];decide))
theorem Tab.below {w w':World} (h:Tab w) (hb:Below w.heap.size w w'):Tab w':=var?_below hb zL h.lt h
theorem word_Text (n:Int) (w:World) (h0:-9223372036854775808<=n) (h1:n<=9223372036854775807) (ht:Tab w):Calls Tryz.prog 196 #[.int .i64 n] w (StrMade (Lib.itoa n) w):=by
 have HT:=zb ht;clear ht
 go_enter Tryz.func196, Tryz.ntmps196
 go_wp2_with fail
 refine(Tryz.strconv_FormatInt_10 n h0 h1 _ HT.out).mono ?_;rintro e w' ⟨rfl,k,os,rfl⟩;have HB:=zb (Lib.below_grow w.heap.size w (Nat.le_refl _) k os)
 go_wp2
 go_ret;exact⟨rfl,HB.out⟩
theorem zgO (n:Int) (h0:0<=n) (h1:n<10):Lib.itoa n=[UInt8.ofNat (48+n).toNat]:=by
 unfold Lib.itoa;rw[if_neg (by omega),Lib.decDigits,dif_pos (by omega)];congr 2;omega
theorem zfx (n:Int) (h0:n<0) (h1:-10<n):Lib.itoa n=45::Lib.itoa (- n):=by
 unfold Lib.itoa;rw[if_pos h0,if_neg (by omega)];congr 2;omega
theorem itoa_pos (n:Int) (h0:10<=n):Lib.itoa n=Lib.itoa (n / 10)++Lib.itoa (n % 10):=by
 unfold Lib.itoa;rw[if_neg (by omega),if_neg (by omega),if_neg (by omega),Lib.decDigits,dif_neg (by omega)];have e1:n.toNat / 10=(n / 10).toNat:=by omega
 rw[e1];congr 1;rw[Lib.decDigits,dif_pos (by omega)];congr 2;omega
theorem zfT (n:Int) (h:n<0):n.tdiv 10=- ((-n) / 10):=by
 have h2:=Int.neg_tdiv (-n) 10;rw[Int.neg_neg] at h2;rw[h2,Int.tdiv_eq_ediv_of_nonneg (by omega)]
theorem zgI (n:Int) (h:n<0):n.tmod 10=- ((-n) % 10):=by
 rw[Int.tmod_def,zfT n h];omega
theorem itoa_neg (n:Int) (h0:n<=-10):Lib.itoa n=Lib.itoa (n.tdiv 10)++Lib.itoa (- n.tmod 10):=by
 rw[zfT n (by omega),zgI n (by omega)];unfold Lib.itoa;rw[if_pos (by omega),if_pos (by omega),if_neg (by omega),Lib.decDigits,dif_neg (by omega)];have e1:n.natAbs / 10=(-(-n / 10)).natAbs:=by omega
 rw[e1,List.cons_append];congr 2;rw[Lib.decDigits,dif_pos (by omega)];congr 2;omega
theorem zea (n:Int) (h0:-9223372036854775808<=n) (h1:n<=9223372036854775807):(Lib.itoa n).length<=21:=Lib.itoa_length_le n h0 h1
theorem zfk {l a b:List UInt8} {w w':World} (h:l=a++b) (hb:Below w.heap.size w w'):StrMade l w (.returned (.string (⟨a.toArray⟩++⟨b.toArray⟩))) w' :=
 ⟨by rw[ByteArray.mk_append_mk,h],hb⟩
def Size (n:Int):Nat:=if n<0 then 2*n.natAbs+1 else 2*n.natAbs
theorem size_neg {n:Int} {k:Nat} (hs:n<0) (h:Size n<k+1):Size (-n)<k:=by
 unfold Size at h ⊢;rw[if_pos hs] at h;rw[if_neg (by omega)];omega
theorem zfp {n m:Int} {k:Nat} (h:Size n<k+1) (hm:m.natAbs<n.natAbs):Size m<k:=by
 unfold Size at h ⊢
 split <;> split at h <;> omega
theorem zgo (k:Nat):∀(n:Int) (w:World),Size n<k->-9223372036854775808<=n->n<=9223372036854775807->Calls Tryz.prog 86 #[.int .i64 n] w (StrMade (Lib.itoa n) w):=by
 induction k with
 | zero=>intro n w hk;omega
 | succ k ih =>
  intro n w hk h0 h1;have IH:=zb ih;clear ih;by_cases hd:0<=n/\n<10
  . obtain⟨hd0,hd1⟩:=hd;have HD:=zb (zgO n hd0 hd1)
    go_enter Tryz.func86, Tryz.ntmps86
    go_wp2_with fail
    rw[oneByte _ _ _ rfl];simp only[Result.andThen];rw[Oper.upon_value]
    go_wp2_with fail
    refine bodyPost_ret (v:=.string ⟨[UInt8.ofNat (48+n).toNat].toArray⟩) (by simp [results, Tryz.results86,go_sem]) rfl ⟨by rw[HD.out],(Below.refl _ _).alloc (Nat.le_refl _) _⟩
  . by_cases hs:n<0/\-10<n
    . obtain⟨hs0,hs1⟩:=hs;have HD:=zb (zfx n hs0 hs1);have HL:=zb (zea (-n) (by omega) (by omega))
      go_enter Tryz.func86, Tryz.ntmps86
      go_wp2_with fail
      refine(IH.out (-n) _ (size_neg hs0 hk) (by omega) (by omega)).mono ?_;rintro e w1 ⟨rfl,hb1⟩;have HB1:=zb hb1;clear hb1;have hsum:¬(9223372036854775807<1+(Lib.itoa (-n)).length):=by
       have:=HL.out;omega
      go_wp2_with fail
      go_ret;exact zfk (a:=[45]) HD.out HB1.out
    . by_cases hn:n<0
      . have h10:n<=-10:=by omega
        have HD:=zb (itoa_neg n h10);have q1:Size (n.tdiv 10)<k:=zfp hk (by rw[zfT n (by omega)];omega);have q2:-9223372036854775808<=n.tdiv 10:=by rw[zfT n (by omega)];omega
        have q3:n.tdiv 10<=9223372036854775807:=by rw[zfT n (by omega)];omega
        have r1:-9<=n.tmod 10:=by rw[zgI n (by omega)];omega
        have r2:n.tmod 10<=0:=by rw[zgI n (by omega)];omega
        have HL:=zb (zea _ q2 q3);have HM:=zb (zea (- n.tmod 10) (by omega) (by omega));clear hd hs
        go_enter Tryz.func86, Tryz.ntmps86
        go_wp2_with fail
        refine(IH.out (n.tdiv 10) _ q1 q2 q3).mono ?_;rintro e w1 ⟨rfl,hb1⟩;have HB1:=zb hb1;clear hb1
        go_wp2_with fail
        refine(IH.out (- n.tmod 10) _ (zfp hk (by omega)) (by omega) (by omega)).mono ?_;rintro e w2 ⟨rfl,hb2⟩;have HB2:=zb (HB1.out.trans (hb2.mono HB1.out.size));clear hb2;have hsum:¬(9223372036854775807<(Lib.itoa (n.tdiv 10)).length+(Lib.itoa (-n.tmod 10)).length):=by
         have:=HL.out;have:=HM.out;omega
        go_wp2_with fail
        go_ret;exact zfk HD.out HB2.out
      . have h10:10<=n:=by omega
        have HD:=zb (itoa_pos n h10);have HL:=zb (zea (n / 10) (by omega) (by omega));have HM:=zb (zea (n % 10) (by omega) (by omega));clear hd hs
        go_enter Tryz.func86, Tryz.ntmps86
        go_wp2_with fail
        refine(IH.out (n / 10) _ (zfp hk (by omega)) (by omega) (by omega)).mono ?_;rintro e w1 ⟨rfl,hb1⟩;have HB1:=zb hb1;clear hb1
        go_wp2_with fail
        refine(IH.out (n % 10) _ (zfp hk (by omega)) (by omega) (by omega)).mono ?_;rintro e w2 ⟨rfl,hb2⟩;have HB2:=zb (HB1.out.trans (hb2.mono HB1.out.size));clear hb2;have hsum:¬(9223372036854775807<(Lib.itoa (n / 10)).length+(Lib.itoa (n % 10)).length):=by
         have:=HL.out;have:=HM.out;omega
        go_wp2_with fail
        go_ret;exact zfk HD.out HB2.out
end
section
open Go.RowKit
theorem wS (c:UInt8) (r:List UInt8):qbody (c::r)=qf c.toNat++qbody r:=by
 unfold qbody;rw[List.flatMap_cons]
theorem uq (l:List UInt8):l.length<=(qbody l).length:=by
 induction l with
 | nil=>simp
 | cons c r ih =>
  have:=zbc c.toNat;rw[wS];simp;omega
theorem uk (a b:List UInt8):∀ m:Int,readGo m (a++b)=(readGo m a).bind fun k=>readGo k b:=by
 induction a with
 | nil=>intro m;rfl
 | cons c r ih =>
  intro m;rw[List.cons_append,readGo,readGo]
  split
  . rfl
  . exact ih _
theorem zd7 (s:ByteArray):(⟨s.data.toList.toArray⟩:ByteArray)=s:=by simp
end
