/-
  Plain facts on integers: bringing a number into 63 bits, a number's word, and back. Imports nothing of the pro.
-/
import Derived.WalkKit
import Derived.WalkSmall
import Derived.Test.YtigbapkdpaahjaaGreatDoorRows
import Derived.Lib.Hide
import Derived.MapKept
import Derived.Laws.BytesArg
import Derived.Lib.Builder
import Derived.WalkSpells
import Derived.WalkLawsBesides
import Derived.Test.YtigbapkdpaahjaaGreatDoorShelf
import Derived.Lib.Strings
import Derived.Lib.Walk
import Derived.Lib.AppendStr
import Derived.Laws.Externs
import Derived.Deep.QuietTactic
import Derived.BigQuiet
import Derived.RegionTactic
import Derived.ChangeAlike
import Derived.Deep.LoopGhost
import Derived.Lib.Bytealg
import Derived.Lib.IndexBytes
import Derived.Lib.ItoaMem
import Derived.Laws.Concat
import Derived.Lib.AppendIntMem
import Derived.Lib.ItoaLen
import Derived.Laws.BitsLemmas
namespace Go.Proofs.YtigbapkdpaahjaaGreatDoor
set_option linter.unusedSimpArgs false
set_option linter.unusedVariables false
set_option maxRecDepth 100000
set_option maxHeartbeats 2000000
section
open Go.RowKit
theorem zb {p : Prop} (h : p) : Hid p := Lib.hid h
theorem zg {α : Type} (l : List α) (i : Nat) (a : α) : l.toArray.setIfInBounds i a = (l.set i a).toArray := List.setIfInBounds_toArray ..
theorem zh {α : Type} (x : α) (l : List α) (a : α) : (x :: l).set 0 a = a :: l := List.set_cons_zero ..
theorem zi {α : Type} (x : α) (l : List α) (n : Nat) (a : α) : (x :: l).set (n + 1) a = x :: l.set n a := List.set_cons_succ ..
theorem zc {α : Type} {a b : α} (h : some a = some b) : a = b := Option.some.inj h
theorem zd {n m k : Nat} (h : n < m) (h' : m ≤ k) : n < k := Nat.lt_of_lt_of_le h h'
abbrev ze := @World.cell?_of_block
abbrev zf := @Lib.cell_of_heap
end
section
open Go.RowKit
def W63 (n:Int):Int:=(n+4611686018427387904) % 9223372036854775808-4611686018427387904
def WRef (a:Int):Int:=if a<0∨2147483647<a then 0 else 2*a
def WIs (w:Int):Bool:=decide (w % 2=1)
theorem w63_shl (n:Int):wrap64 (n*2) / 2=W63 n:=by unfold W63 wrap64;omega
theorem wis_ref (a:Int):WIs (WRef a)=false:=by
 unfold WIs WRef
 simp only[decide_eq_false_iff_not]
 split <;> omega
end
section
open Go.RowKit
theorem zA (W:World) (o:Obj) (n:Nat) (hn:n=W.heap.size):(W.alloc o).heap[n]? = some o:=by
 subst hn
 exact(MapKept.heap_alloc W o).1
def Two (x y:Int) (w:World) (e:Ending) (w':World):Prop:=e=.returned (.tuple #[.int .i64 x,.int .i64 y])∧w=w'
def StrMade (l:List UInt8) (w:World) (e:Ending) (w':World):Prop:=e=.returned (.string ⟨l.toArray⟩)∧Below w.heap.size w w'
theorem zbN {k:IntKind} {a b:Int} (h:a=b):Ending.returned (.int k a)=.returned (.int k b):=by rw[h]
theorem wI {a b:Bool} (h:a=b):Ending.returned (.bool a)=.returned (.bool b):=by rw[h]
theorem word_Wrap (n:Int) (w:World):Calls Tryz.prog 148 #[.int .i64 n] w fun e w'=>e=.returned (.int .i64 (W63 n))∧w=w':=by
 go_enter Tryz.func148, Tryz.ntmps148
 go_wp2
 go_ret
 exact⟨zbN (w63_shl n),rfl⟩
end
section
open Go.RowKit
def isDig (c:UInt8):Bool:=decide (48≤c.toNat)&&decide (c.toNat≤57)
def isNum (l:List UInt8):Bool:=l.all isDig&&(decide (l=[48])||(decide (l≠[])&&decide (l.head?≠some 48)))
def readGo (n:Int):List UInt8→Option Int
 | []=>some n
 | c::r=>if (4611686018427387903-((c.toNat:Int)-48)) / 10<n then none else readGo (10*n+((c.toNat:Int)-48)) r
def ReadV (l:List UInt8):Int×Int :=
 if isNum l=true then(match readGo 0 l with | some n=>(n,0) | none=>(0,2)) else(0,5)
theorem tW (s:ByteArray) (k:Nat) (h:k<s.size):s.data.toList.take (k+1)=s.data.toList.take k++[s[k]]:=by
 rw[List.take_succ_eq_append_getElem (by simpa using h)];rfl
theorem yk (s:ByteArray) (k:Nat) (h:k<s.size):s.data.toList.drop k=s[k]::s.data.toList.drop (k+1):=by
 rw[List.drop_eq_getElem_cons (by simpa using h)];rfl
theorem rW (s:ByteArray):s.data.toList.drop s.size=[]:=by
 rw[List.drop_eq_nil_iff]
 exact Nat.le_refl _
theorem tB (s:ByteArray):s.data.toList.take s.size=s.data.toList:=List.take_of_length_le (Nat.le_refl _)
theorem dig_yes {c:UInt8} (h0:¬(c.toNat:Int)<48) (h1:¬57<(c.toNat:Int)):isDig c=true:=by
 unfold isDig
 simp
 omega
theorem dig_lo {c:UInt8} (h0:(c.toNat:Int)<48):isDig c=false:=by
 unfold isDig
 simp
 omega
theorem dig_hi {c:UInt8} (h0:57<(c.toNat:Int)):isDig c=false:=by
 unfold isDig
 simp
 omega
theorem all_not (s:ByteArray) (k:Nat) (h:k<s.size) (hc:isDig s[k]=false):s.data.toList.all isDig=false:=by
 rw[← List.take_append_drop k s.data.toList,List.all_append,yk s k h]
 simp [hc]
theorem all_step (s:ByteArray) (k:Nat) (h:k<s.size) (ha:(s.data.toList.take k).all isDig=true) (hc:isDig s[k]=true):(s.data.toList.take (k+1)).all isDig=true:=by
 rw[tW s k h,List.all_append,ha]
 simp [hc]
theorem yq (s:ByteArray):s.toList=s.data.toList:=ByteArray.toList_eq s
theorem uV (s:ByteArray) (h:0<s.size):s.data.toList.head? = some s[0]:=by
 have:=yk s 0 h
 rw[List.drop_zero] at this
 rw[this]
 rfl
theorem wf (s:ByteArray) (h:¬0<s.size):s.data.toList=[]:=by
 rw[← List.length_eq_zero_iff]
 have:s.data.toList.length=s.size:=rfl
 omega
theorem isNum_one (s:ByteArray) (h:s.toList=[48]):isNum s.data.toList=true:=by
 rw[yq] at h
 rw[h]
 decide
theorem zdV (s:ByteArray) (h:¬0<s.size):isNum s.data.toList=false:=by
 rw[wf s h]
 decide
theorem zdd (s:ByteArray) (h1:¬s.toList=[48]) (h:0<s.size) (ha:s.data.toList.all isDig=true):isNum s.data.toList=((s[0].toNat:Int) != 48):=by
 rw[yq] at h1
 unfold isNum
 rw[ha,uV s h]
 have h2:s.data.toList≠[]:=by
  intro e
  have:s.data.toList.length=s.size:=rfl
  rw[e] at this
  simp at this
  omega
 have h3:(s[0]=48)↔((s[0].toNat:Int)=48):=by
  rw[← UInt8.toNat_inj]
  have:(48:UInt8).toNat=48:=rfl
  rw[this]
  omega
 rw[Bool.eq_iff_iff]
 simp [h1,h2,h3]
theorem vC (s:ByteArray) (w:World) (hs:s.size≤maxLen):Calls Tryz.prog 155 #[.string s] w fun e w'=>e=.returned (.bool (isNum s.data.toList))∧w=w':=by
 unfold maxLen at hs
 go_enter Tryz.func155, Tryz.ntmps155
 go_wp2
 go_loop [6] (fun i=>∃ k:Nat,k≤s.size∧i=.int .i64 k∧(s.data.toList.take k).all isDig=true) (fun i=>s.size-(intOf i).toNat)
 case atStart=>exact⟨0,Nat.zero_le _,rfl,rfl⟩
 case round =>
  obtain⟨k,hk,rfl,hall⟩:=hrel
  have HA:=zb hall
  clear hall
  by_cases hlt:k<s.size
  · by_cases h0:(s[k].toNat:Int)<48
    · have HF:=zb (all_not s k hlt (dig_lo h0))
      go_wp2
      go_ret
      exact⟨wI (by unfold isNum;rw[HF.out];rfl),rfl⟩
    · by_cases h1:57<(s[k].toNat:Int)
      · have HF:=zb (all_not s k hlt (dig_hi h1))
        go_wp2
        go_ret
        exact⟨wI (by unfold isNum;rw[HF.out];rfl),rfl⟩
      · have HN:=zb (all_step s k hlt HA.out (dig_yes h0 h1))
        go_wp2
        go_round
        case rel=>exact⟨k+1,by omega,by go_num,HN.out⟩
        case measure=>simp [intOf];omega
  · obtain rfl:k=s.size:=by omega
    rw[tB] at HA
    by_cases e1:s.toList=[48]
    · have HF:=zb (isNum_one s e1)
      have e2:(s.toList == [48])=true:=by rw[e1];rfl
      clear e1
      go_wp2
      go_ret
      exact⟨wI HF.out.symm,rfl⟩
    · have e2:(s.toList == [48])=false:=by simpa using e1
      by_cases e3:0<s.size
      · have HF:=zb (zdd s e1 e3 HA.out)
        have e4:s.toList.isEmpty=false:=by
         rw[yq,List.isEmpty_eq_false_iff]
         intro e
         have:s.data.toList.length=s.size:=rfl
         rw[e] at this
         simp at this
         omega
        clear e1
        go_wp2
        go_ret
        exact⟨wI HF.out.symm,rfl⟩
      · have HF:=zb (zdV s e3)
        have e4:s.toList.isEmpty=true:=by rw[yq,wf s e3];rfl
        clear e1
        go_wp2
        go_ret
        exact⟨wI HF.out.symm,rfl⟩
theorem zdy (n:Int) (s:ByteArray) (k:Nat) (h:k<s.size) (hc:¬(4611686018427387903-((s[k].toNat:Int)-48)) / 10<n):readGo n (s.data.toList.drop k)=readGo (10*n+((s[k].toNat:Int)-48)) (s.data.toList.drop (k+1)):=by
 rw[yk s k h,readGo,if_neg hc]
theorem readGo_no (n:Int) (s:ByteArray) (k:Nat) (h:k<s.size) (hc:(4611686018427387903-((s[k].toNat:Int)-48)) / 10<n):readGo n (s.data.toList.drop k)=none:=by
 rw[yk s k h,readGo,if_pos hc]
theorem dig_at (s:ByteArray) (k:Nat) (h:k<s.size) (ha:s.data.toList.all isDig=true):48≤(s[k].toNat:Int)∧(s[k].toNat:Int)≤57:=by
 have h1:isDig s[k]=true:=by
  rw[List.all_eq_true] at ha
  exact ha _ (Array.getElem_mem_toList (xs:=s.data) (by exact h))
 unfold isDig at h1
 simp at h1
 omega
theorem zaG {l:List UInt8} {n:Int} (h:isNum l=true) (h2:readGo 0 l=some n):ReadV l=(n,0):=by
 unfold ReadV
 rw[if_pos h,h2]
theorem readV_big {l:List UInt8} (h:isNum l=true) (h2:readGo 0 l=none):ReadV l=(0,2):=by
 unfold ReadV
 rw[if_pos h,h2]
theorem zef {l:List UInt8} (h:isNum l=false):ReadV l=(0,5):=by
 unfold ReadV
 rw[h]
 rfl
theorem rJ {l:List UInt8} {x y:Int} (w:World) (h:ReadV l=(x,y)):Two (ReadV l).1 (ReadV l).2 w (.returned (.tuple #[.int .i64 x,.int .i64 y])) w:=by
 rw[h]
 exact⟨rfl,rfl⟩
theorem word_Read (s:ByteArray) (w:World) (hs:s.size≤maxLen):Calls Tryz.prog 125 #[.string s] w (Two (ReadV s.data.toList).1 (ReadV s.data.toList).2 w):=by
 by_cases hn:isNum s.data.toList=true
 · have HN:=zb hn
   have hi:=(vC s w hs)
   rw[hn] at hi
   have HI:=zb hi
   have hd:=fun k (h:k<s.size)=>dig_at s k h (by unfold isNum at hn;simp only[Bool.and_eq_true] at hn;exact hn.1)
   have HD:=zb hd
   unfold maxLen at hs
   clear hn hi hd
   go_enter Tryz.func125, Tryz.ntmps125
   go_wp2_with fail
   refine HI.out.mono ?_
   rintro e w' ⟨rfl,rfl⟩
   go_wp2_with fail
   go_loop [4,12] (fun m i=>∃(k:Nat) (n:Int),k≤s.size∧i=.int .i64 k∧m=.int .i64 n∧0≤n∧n≤4611686018427387903∧readGo 0 s.data.toList=readGo n (s.data.toList.drop k)) (fun _ i=>s.size-(intOf i).toNat)
   case atStart=>exact⟨0,0,Nat.zero_le _,rfl,rfl,Int.le_refl _,by omega,rfl⟩
   case round =>
    obtain⟨k,n,hk,rfl,rfl,hn0,hn1,hrel⟩:=hrel
    have HR:=zb hrel
    clear hrel
    by_cases hlt:k<s.size
    · obtain⟨hc0,hc1⟩:=HD.out k hlt
      by_cases hbig:(4611686018427387903-((s[k].toNat:Int)-48)) / 10<n
      · have HF:=zb (readV_big HN.out (HR.out.trans (readGo_no n s k hlt hbig)))
        go_wp2
        go_ret2
        exact rJ _ HF.out
      · have HF:=zb (HR.out.trans (zdy n s k hlt hbig))
        go_wp2
        go_round
        case rel=>exact⟨k+1,10*n+((s[k].toNat:Int)-48),by omega,by go_num,rfl,by omega,by omega,HF.out⟩
        case measure=>simp [intOf];omega
    · obtain rfl:k=s.size:=by omega
      have HF:=zb (zaG HN.out (HR.out.trans (by rw[rW];rfl)))
      go_wp2
      go_ret2
      exact rJ _ HF.out
 · have hn':isNum s.data.toList=false:=by simpa using hn
   have HN:=zb (zef hn')
   have hi:=(vC s w hs)
   rw[hn'] at hi
   have HI:=zb hi
   clear hn hn' hi
   go_enter Tryz.func125, Tryz.ntmps125
   go_wp2_with fail
   refine HI.out.mono ?_
   rintro e w' ⟨rfl,rfl⟩
   go_wp2_with fail
   go_ret2
   exact rJ _ HN.out
end
section
open Go.RowKit
theorem sf:(Tryz.prog.info? 71).map (·.size)=some 2:=by kernel_rfl
theorem zbP:liesAt Tryz.prog Tryz.prog.depth 71 (2 / Tryz.prog.cellsOf 71) 0 71 1=true:=by kernel_rfl
theorem rB:(Tryz.prog.info? 5).map (fun i=>(i.zero,i.size,i.bytes))=some (some (.int .u8 0),1,1):=by kernel_rfl
theorem vP (b:Nat) (w:World) (h0:w.cell? ⟨b,0,none⟩=some (.pointer (some ⟨b,0,none⟩))) :
 Calls Tryz.prog 170 #[.pointer (some ⟨b,0,none⟩)] w fun e w'=>e=.returned (.tuple #[])∧w'=w:=by
 obtain⟨j,hj,_⟩:=Option.map_eq_some_iff.1 sf
 go_enter Tryz.func170, Tryz.ntmps170
 go_wp2
 rw[Lib.run_neq_ptr_same w _ Tryz.underlying68 hj]
 go_wp2
 go_end0
 exact⟨rfl,rfl⟩
theorem vv (b:Nat) (w:World) (h0:w.cell? ⟨b,0,none⟩=some (.pointer none)) (hsh:w.shape? b=some (71,2)) (hfz:w.frozen? ⟨b,0,none⟩=false) :
 Calls Tryz.prog 170 #[.pointer (some ⟨b,0,none⟩)] w fun e w'=>e=.returned (.tuple #[])∧w'=w.setCell ⟨b,0,none⟩ (.pointer (some ⟨b,0,none⟩)):=by
 obtain⟨j,hj,hjs⟩:=Option.map_eq_some_iff.1 sf
 go_enter Tryz.func170, Tryz.ntmps170
 go_wp2
 rw[Lib.run_to_unsafe w ⟨b,0,none⟩ Tryz.underlying68 Tryz.underlying180 hj (by rw[hjs];decide) hsh (Nat.zero_lt_succ 1)]
 simp only[Result.andThen]
 rw[Oper.upon_value]
 go_wp2
 rw[run_callFunc_extern Tryz.func180 (by kernel_rfl) (by kernel_rfl) (by kernel_rfl) (e:=Extern.AbiNoEscape.same) (by kernel_rfl)]
 rw[Lib.run_noEscape]
 simp only[Result.andThen]
 rw[Oper.upon_value]
 go_wp2
 rw[Lib.run_from_unsafe w ⟨b,0,none⟩ Tryz.underlying180 Tryz.underlying68 hj hsh zbP]
 simp only[Result.andThen]
 rw[Oper.upon_value]
 go_wp2
 go_end0
 exact⟨rfl,rfl⟩
theorem ue (B b:Nat) (bs:List Value) (w:World) (h:Lib.IsBuilder 71 5 B b bs w) :
 Calls Tryz.prog 170 #[.pointer (some ⟨b,0,none⟩)] w fun e w'=>e=.returned (.tuple #[])∧(Lib.BuilderAt 71 5 B b (.pointer (some ⟨b,0,none⟩)) bs w'∧Below B w w'):=by
 rcases h with h | h
 · refine(vv b w h.cell0 h.shape h.frozen0).mono ?_
   rintro e w' ⟨rfl,rfl⟩
   exact⟨rfl,h.used _,(Below.refl B w).setCell (p:=⟨b,0,none⟩) h.1 _⟩
 · refine(vP b w h.cell0).mono ?_
   rintro e w' ⟨rfl,rfl⟩
   exact⟨rfl,h,Below.refl B _⟩
theorem xS (B b:Nat) (bs:List Value) (c:Int) (w:World) (h:Lib.IsBuilder 71 5 B b bs w) (hlen:bs.length+1≤140737488355328) (hBw:B≤w.heap.size) :
 Calls Tryz.prog 158 #[.pointer (some ⟨b,0,none⟩),.int .u8 c] w fun e w'=>e=.returned .nilIface∧Lib.IsBuilder 71 5 B b (bs++[.int .u8 c]) w'∧Below B w w':=by
 obtain⟨i0,hi,hz0,hz1,hz2⟩:=info_parts rB
 go_enter Tryz.func158, Tryz.ntmps158
 go_wp2_with (go_at_call 170; refine(ue B b bs _ h).mono ?_)
 rintro e w1 ⟨rfl,h1,hb1⟩
 obtain⟨hB,v,hbk,hown,hne⟩:=h1
 have c0:w1.cell? ⟨b,0,none⟩=some (.pointer (some ⟨b,0,none⟩)):=by rw[zf hbk];rfl
 have c1:w1.cell? ⟨b,1,none⟩=some v:=by rw[zf hbk];rfl
 go_wp2_with (at_builtin;refine wpList_append_own _ rfl _ _ 69 rfl B 5 i0 (.int .u8 0) 1 1 Tryz.underlying69 hi hz0 hz1 hz2 rfl (by decide) _ _ _ rfl (hown.alloc _) ⟨w1.heap.size,0,none⟩ 1 1 [.int .u8 c] rfl rfl ?c1 ?c2 ?c3 ?c4 ?c5 ?_)
 case c1 =>
  intro j u hj
  match j,hj with
  | 0,hj=>simp at hj;subst hj;simp [Addr.add]
 case c2=>intro u hu;simp at hu;subst hu;rfl
 case c3=>unfold maxLen;omega
 case c4=>omega
 case c5=>have:=hb1.size;simp;omega
 intro v' w2 hown' hgrow _
 have hlt:b<w1.heap.size:=by
  rcases Nat.lt_or_ge b w1.heap.size with h' | h'
  · exact h'
  · simp [Array.getElem?_eq_none h'] at hbk
 have hb2:w2.heap[b]? = some (.cells #[.pointer (some ⟨b,0,none⟩),v] 71 (0,0)):=by
  rw[hgrow.block b (by simp;omega) (fun e=>hne e.symm),Lib.alloc_old w1 _ b hlt]
  exact hbk
 have d0:w2.cell? ⟨b,0,none⟩=some (.pointer (some ⟨b,0,none⟩)):=by rw[zf hb2];rfl
 have d1:w2.cell? ⟨b,1,none⟩=some v:=by rw[zf hb2];rfl
 have f1:w2.frozen? ⟨b,1,none⟩=false:=Lib.frozen_of_heap hb2 1
 obtain⟨g,cap,rfl⟩:∃ g cap,v'=.slice (some ⟨g,0,none⟩) (bs.length+1) cap:=by
  rcases hown'.2 with⟨_,h0⟩ | ⟨g,cap,cur,hv,_⟩
  · omega
  · exact⟨g,cap,hv⟩
 go_wp2
 go_ret
 refine⟨rfl,Or.inr ?_,?_⟩
 · exact Lib.BuilderAt.put (T := 71) (e := 5) hB hb2 (bs':=bs++[.int .u8 c]) (by simpa using hown') (by decide)
 · exact((hb1.alloc (by have:=hb1.size;omega) _).grown hgrow (by have:=hb1.size;simp;omega) (fun k hk=>(hown.lt k hk).1)).setCell (p:=⟨b,1,none⟩) hB _
theorem uQ (B b:Nat) (bs:List Value) (s:ByteArray) (w:World) (h:Lib.IsBuilder 71 5 B b bs w) (hlen:bs.length+s.size≤140737488355328) (hBw:B≤w.heap.size) :
 Calls Tryz.prog 147 #[.pointer (some ⟨b,0,none⟩),.string s] w fun e w'=>e=.returned (.tuple #[.int .i64 s.size,.nilIface])∧Lib.IsBuilder 71 5 B b (bs++Lib.strCells s) w'∧Below B w w':=by
 obtain⟨i0,hi,hz0,hz1,hz2⟩:=info_parts rB
 go_enter Tryz.func147, Tryz.ntmps147
 go_wp2_with (go_at_call 170; refine(ue B b bs _ h).mono ?_)
 rintro e w1 ⟨rfl,h1,hb1⟩
 obtain⟨hB,v,hbk,hown,hne⟩:=h1
 have c0:w1.cell? ⟨b,0,none⟩=some (.pointer (some ⟨b,0,none⟩)):=by rw[zf hbk];rfl
 have c1:w1.cell? ⟨b,1,none⟩=some v:=by rw[zf hbk];rfl
 go_wp2_with (at_builtin;refine Lib.wpList_append_own_string _ rfl _ _ 69 9 rfl B 5 i0 Tryz.underlying69 Tryz.underlying9 hi hz0 hz1 hz2 _ _ _ rfl hown s rfl ?c3 ?c4 ?c5 ?_)
 case c3=>unfold maxLen;omega
 case c4=>omega
 case c5=>have:=hb1.size;omega
 intro v' w2 hown' hgrow _
 have hlt:b<w1.heap.size:=by
  rcases Nat.lt_or_ge b w1.heap.size with h' | h'
  · exact h'
  · simp [Array.getElem?_eq_none h'] at hbk
 have hb2:w2.heap[b]? = some (.cells #[.pointer (some ⟨b,0,none⟩),v] 71 (0,0)):=by
  rw[hgrow.block b hlt (fun e=>hne e.symm)]
  exact hbk
 have d0:w2.cell? ⟨b,0,none⟩=some (.pointer (some ⟨b,0,none⟩)):=by rw[zf hb2];rfl
 have d1:w2.cell? ⟨b,1,none⟩=some v:=by rw[zf hb2];rfl
 have f1:w2.frozen? ⟨b,1,none⟩=false:=Lib.frozen_of_heap hb2 1
 obtain⟨ao,n',cap,rfl⟩:∃ ao n' cap,v'=.slice ao n' cap:=by
  rcases hown'.2 with⟨hv,_⟩ | ⟨g,cap,cur,hv,_⟩
  · exact⟨_,_,_,hv⟩
  · exact⟨_,_,_,hv⟩
 go_wp2
 go_ret2
 refine⟨rfl,Or.inr ?_,?_⟩
 · exact Lib.BuilderAt.put (T := 71) (e := 5) hB hb2 (bs':=bs++Lib.strCells s) (by simpa [Lib.strCells_length] using hown') (by decide)
 · exact(hb1.grown hgrow (by have:=hb1.size;omega) (fun k hk=>(hown.lt k hk).1)).setCell (p:=⟨b,1,none⟩) hB _
end
section
open Go.RowKit
def hexd (k:Nat):UInt8:=if k<10 then UInt8.ofNat (48+k) else UInt8.ofNat (87+k)
def qf (n:Nat):List UInt8 :=
 if n=34 then [92,34] else if n=92 then [92,92] else if n=10 then [92,110] else if 32≤n∧n≤126 then [UInt8.ofNat n] else [92,120,hexd (n / 16),hexd (n % 16)]
theorem sN {l m:List UInt8} {w w':World} (h:l=m) (hb:Below w.heap.size w w'):StrMade l w (.returned (.string ⟨m.toArray⟩)) w':=by
 subst h
 exact⟨rfl,hb⟩
theorem qR {l a b c:List UInt8} {w w':World} (h:l=a++b++c) (hb:Below w.heap.size w w'):StrMade l w (.returned (.string (⟨a.toArray⟩++⟨b.toArray⟩++⟨c.toArray⟩))) w' :=
 ⟨by rw[ByteArray.mk_append_mk,ByteArray.mk_append_mk,h],hb⟩
theorem qO (w:World):Calls Tryz.prog 157 #[.int .u8 34] w (StrMade (qf 34) w):=by
 go_enter Tryz.func157, Tryz.ntmps157
 go_wp2
 go_ret
 exact sN rfl (Below.refl _ _)
theorem qW (w:World):Calls Tryz.prog 157 #[.int .u8 92] w (StrMade (qf 92) w):=by
 go_enter Tryz.func157, Tryz.ntmps157
 go_wp2
 go_ret
 exact sN rfl (Below.refl _ _)
theorem q5 (w:World):Calls Tryz.prog 157 #[.int .u8 10] w (StrMade (qf 10) w):=by
 go_enter Tryz.func157, Tryz.ntmps157
 go_wp2
 go_ret
 exact sN rfl (Below.refl _ _)
theorem zbK (n:Nat) (h:n<128):Utf8.encode (n:Int)=⟨[UInt8.ofNat n].toArray⟩:=by
 unfold Utf8.encode
 have hv:Utf8.valid (n:Int)=true:=by
  unfold Utf8.valid
  simp
  omega
 simp [hv,h]
theorem rq (k:Nat) (h:k<16):(hexd k).toNat<128:=by
 have:=(by decide:∀ k:Fin 16,(hexd k.val).toNat<128) ⟨k,h⟩
 exact this
theorem tK (n:Nat) (h:n<128) (w:World):(convert 21 9 (.int .i32 (n:Int))).run Tryz.prog w=.ok (.string ⟨[UInt8.ofNat n].toArray⟩) w:=by
 rw[run_convert_int_string w 21 9 .i32 n (by rw[Tryz.underlying21];rfl) Tryz.underlying9,zbK n h]
theorem zad (k:Nat) (h:k<16) (w:World):(convert 21 9 (.int .i32 ((hexd k).toNat:Int))).run Tryz.prog w=.ok (.string ⟨[hexd k].toArray⟩) w:=by
 rw[tK _ (rq k h)]
 simp
theorem zaY (k:Nat) (h:k<16):IntKind.i32.wrap ((hexd k).toNat:Int)=((hexd k).toNat:Int):=by
 have:=rq k h
 rw[IntKind.wrap_i32]
 omega
theorem hex_at (k:Nat) (h:k<16) (x:Int) (hx:x=k) (w:World):(Instr.index 9 (.string { data:=#[48,49,50,51,52,53,54,55,56,57,97,98,99,100,101,102] }) (.int .u8 x)).run Tryz.prog w=.ok (.int .u8 (hexd k).toNat) w:=by
 subst hx
 rw[run_index_string _ _ _ _ _ Tryz.underlying9]
 have hs:({ data:=#[48,49,50,51,52,53,54,55,56,57,97,98,99,100,101,102] }:ByteArray).size=16:=rfl
 rw[dif_pos ⟨by omega,by rw[hs];omega⟩]
 have key:=(by decide:∀ k:Fin 16,(({ data:=#[48,49,50,51,52,53,54,55,56,57,97,98,99,100,101,102] }:ByteArray)[k.val]'(by have:=k.isLt;rw[show({ data:=#[48,49,50,51,52,53,54,55,56,57,97,98,99,100,101,102] }:ByteArray).size=16 from rfl];exact this)).toNat=(hexd k.val).toNat) ⟨k,h⟩
 have k2:=congrArg (fun (x:Nat)=>(x:Int)) key
 simpa using k2
theorem q6 (n:Nat) (w:World) (h0:32≤n) (h1:n≤126) (e1:((n:Int) == 34)=false) (e2:((n:Int) == 92)=false) (e3:((n:Int) == 10)=false):Calls Tryz.prog 157 #[.int .u8 n] w (StrMade (qf n) w):=by
 have cv:=tK n (by omega)
 have hq:=zb (show qf n=[UInt8.ofNat n] by
  simp at e1 e2 e3
  unfold qf
  rw[if_neg (by omega),if_neg (by omega),if_neg (by omega),if_pos ⟨h0,h1⟩])
 go_enter Tryz.func157, Tryz.ntmps157
 go_wp2
 go_ret
 exact sN hq.out (Below.refl _ _)
theorem qM (n:Nat) (w:World) (h0:n≤255) (h:n<32∨126<n) (e1:((n:Int) == 34)=false) (e2:((n:Int) == 92)=false) (e3:((n:Int) == 10)=false):Calls Tryz.prog 157 #[.int .u8 n] w (StrMade (qf n) w):=by
 have hq:=zb (show qf n=[92,120,hexd (n / 16),hexd (n % 16)] by
  simp at e1 e2 e3
  unfold qf
  rw[if_neg (by omega),if_neg (by omega),if_neg (by omega),if_neg (by omega)])
 have i1:=hex_at (n / 16) (by omega) ((n:Int) / 16) (by omega)
 have i2:=hex_at (n % 16) (by omega) ((n:Int) % 16) (by omega)
 have c1:=zad (n / 16) (by omega)
 have c2:=zad (n % 16) (by omega)
 have w1:=zaY (n / 16) (by omega)
 have w2:=zaY (n % 16) (by omega)
 have a1:=u8_and15 (x:=(n:Int)) (by omega) (by omega)
 rcases h with h | h
 all_goals
  go_enter Tryz.func157, Tryz.ntmps157
  go_wp2
  go_quiet (fail)
  go_wp2
  go_ret
  exact qR (a:=[92,120]) (b:=[hexd (n / 16)]) (c:=[hexd (n % 16)]) hq.out (below_drewN (Below.refl _ _) _)
theorem sA (x:Int) (w:World) (h0:0≤x) (h1:x≤255):Calls Tryz.prog 157 #[.int .u8 x] w (StrMade (qf x.toNat) w):=by
 obtain⟨n,rfl⟩:=Int.eq_ofNat_of_zero_le h0
 rw[Int.toNat_natCast]
 by_cases e1:n=34
 · subst e1
   exact qO w
 · by_cases e2:n=92
   · subst e2
     exact qW w
   · by_cases e3:n=10
     · subst e3
       exact q5 w
     · have f1:((n:Int) == 34)=false:=by rw[beq_eq_false_iff_ne];omega
       have f2:((n:Int) == 92)=false:=by rw[beq_eq_false_iff_ne];omega
       have f3:((n:Int) == 10)=false:=by rw[beq_eq_false_iff_ne];omega
       by_cases h4:32≤n∧n≤126
       · exact q6 n w h4.1 h4.2 f1 f2 f3
       · exact qM n w (by omega) (by omega) f1 f2 f3
end
section
open Go.RowKit
def qbody (l:List UInt8):List UInt8:=l.flatMap fun c=>qf c.toNat
def qall (l:List UInt8):List UInt8:=34::(qbody l++[34])
theorem zaR (n:Nat):(qf n).length≤4:=by
 unfold qf
 repeat' split
 all_goals simp
theorem zbc (n:Nat):1≤(qf n).length:=by
 unfold qf
 repeat' split
 all_goals simp
theorem tv (l:List UInt8):(qbody l).length≤4*l.length:=by
 induction l with
 | nil=>simp [qbody]
 | cons c r ih =>
  have:=zaR c.toNat
  unfold qbody at ih ⊢
  simp only[List.flatMap_cons,List.length_append,List.length_cons]
  omega
theorem zes (s:ByteArray) (k:Nat) (h:k<s.size):qbody (s.data.toList.take (k+1))=qbody (s.data.toList.take k)++qf s[k].toNat:=by
 rw[tW s k h]
 unfold qbody
 rw[List.flatMap_append]
 simp
theorem vu {B b:Nat} {bs:List Value} {w w':World} (h:Lib.IsBuilder 71 5 B b bs w) (hb:Below w.heap.size w w'):Lib.IsBuilder 71 5 B b bs w':=by
 have hg:w.grownBy w' none:=⟨hb.os,hb.tape,hb.output,hb.size,fun k hk _=>hb.block k hk⟩
 have core:∀ p,Lib.BuilderAt 71 5 B b p bs w→Lib.BuilderAt 71 5 B b p bs w':=by
  intro p h
  have hl:=h.lt
  obtain⟨h0,v,hv,hown,hne⟩:=h
  exact⟨h0,v,(hb.block b hl).trans hv,hown.kept hg (by cases v.ownBlock <;> simp),hne⟩
 rcases h with h | h
 · exact Or.inl (core _ h)
 · exact Or.inr (core _ h)
theorem xH (w:World) (B:Nat) (hB:B≤w.heap.size):Lib.IsBuilder 71 5 B w.heap.size [] (w.alloc (.cells #[.pointer none,.slice none 0 0] 71 (0,0))):=by
 refine Or.inl ⟨hB,.slice none 0 0,zA w _ _ rfl,⟨rfl,Or.inl ⟨rfl,rfl⟩⟩,by simp [Value.ownBlock]⟩
theorem byteCells_append (a b:List UInt8):Lib.byteCells (a++b)=Lib.byteCells a++Lib.byteCells b:=by simp [Lib.byteCells]
theorem zcx (l:List UInt8):Lib.strCells ⟨l.toArray⟩=Lib.byteCells l:=by simp [Lib.strCells,Lib.byteCells]
def QRel (s:ByteArray) (w:World) (k:Nat) (wr:World):Prop:=Lib.IsBuilder 71 5 w.heap.size w.heap.size (Lib.byteCells (34::qbody (s.data.toList.take k))) wr∧Below w.heap.size w wr
theorem qlen (s:ByteArray) (k:Nat) (hs:s.size≤1099511627776) (hk:k≤s.size):(Lib.byteCells (34::qbody (s.data.toList.take k))).length≤4398046511105:=by
 have h1:=tv (s.data.toList.take k)
 have h2:(s.data.toList.take k).length≤k:=List.length_take_le _ _
 rw[Lib.byteCells_length]
 simp only[List.length_cons]
 omega
theorem qstep {s:ByteArray} {w:World} {k:Nat} (h:k<s.size) {wr:World} (h1:Lib.IsBuilder 71 5 w.heap.size w.heap.size (Lib.byteCells (34::qbody (s.data.toList.take k))++Lib.strCells ⟨(qf s[k].toNat).toArray⟩) wr) (hb:Below w.heap.size w wr):QRel s w (k+1) wr:=by
 refine⟨?_,hb⟩
 rw[zes s k h,← List.cons_append,byteCells_append,← zcx (qf s[k].toNat)]
 exact h1
theorem zde (s:ByteArray) (w:World) (hs:s.size≤1099511627776):Calls Tryz.prog 150 #[.string s] w (StrMade (qall s.data.toList) w):=by
 have h0:=zb (xH w w.heap.size (Nat.le_refl _))
 have hB0:=zb ((Below.refl w.heap.size w).alloc (Nat.le_refl _) (.cells #[.pointer none,.slice none 0 0] 71 (0,0)))
 go_enter Tryz.func150, Tryz.ntmps150
 go_wp2_with fail
 refine(xS w.heap.size w.heap.size [] 34 _ h0.out (by simp) (by simp)).mono ?_
 rintro e w1 ⟨rfl,h1,hb1⟩
 have H1:Hid (QRel s w 0 w1):=zb ⟨h1,hB0.out.trans hb1⟩
 clear h0 hB0 h1 hb1
 go_wp2_with fail
 go_loopw [8] (fun i wr=>∃ k:Nat,k≤s.size∧i=.int .i64 k∧QRel s w k wr) (fun i _=>s.size-(intOf i).toNat)
 case atStart=>exact⟨0,Nat.zero_le _,rfl,H1.out⟩
 case round =>
  obtain⟨k,hk,rfl,hrel⟩:=hrel
  have HR:=zb hrel
  clear hrel H1
  by_cases hlt:k<s.size
  · have hc:=s[k].toNat_lt
    go_wp2_with fail
    refine(sA _ _ (by omega) (by omega)).mono ?_
    rintro e w2 ⟨rfl,hb2⟩
    rw[Int.toNat_natCast]
    have HB2:=zb hb2
    clear hb2
    go_wp2_with fail
    refine(uQ w.heap.size w.heap.size _ _ _ (vu HR.out.1 HB2.out) ?_ (Nat.le_trans HR.out.2.size HB2.out.size)).mono ?_
    · have h1:=qlen s k hs (by omega)
      have h2:=zaR s[k].toNat
      have h3:(⟨(qf s[k].toNat).toArray⟩:ByteArray).size=(qf s[k].toNat).length:=rfl
      omega
    · rintro e w3 ⟨rfl,h3,hb3⟩
      have HN:=zb (qstep hlt h3 ((HR.out.2.trans (HB2.out.mono HR.out.2.size)).trans hb3))
      clear h3 hb3
      go_wp2_with fail
      go_roundw
      case rel=>exact⟨k+1,by omega,by go_num,HN.out⟩
      case measure=>simp [intOf];omega
  · obtain rfl:k=s.size:=by omega
    have HL:=zb (qlen s s.size hs (Nat.le_refl _))
    rw[tB] at HL
    unfold QRel at HR
    rw[tB] at HR
    go_wp2_with fail
    refine(xS w.heap.size w.heap.size _ 34 _ HR.out.1 (by have:=HL.out;omega) HR.out.2.size).mono ?_
    rintro e w2 ⟨rfl,h2,hb2⟩
    have hcells:Lib.byteCells (34::qbody s.data.toList)++[Value.int .u8 34]=Lib.byteCells (qall s.data.toList):=by
     unfold qall
     rw[← List.cons_append,byteCells_append]
     rfl
    rw[hcells] at h2
    have H2:=zb h2
    have HB2:=zb (HR.out.2.trans hb2)
    clear h2 hb2 hcells
    go_wp2_with fail
    refine(Tryz.Builder_String_any w.heap.size w.heap.size _ _ H2.out HB2.out.size).mono ?_
    rintro e w3 ⟨rfl,hb3⟩
    have HB3:=zb (HB2.out.trans hb3)
    go_wp2_with fail
    go_ret
    exact⟨rfl,HB3.out⟩
end
section
open Go.RowKit
def hexLit:List UInt8:=[48,49,50,51,52,53,54,55,56,57,97,98,99,100,101,102]
def DG (c:UInt8):Nat:=(max 0 (Lib.indexByte hexLit c)).toNat
theorem DG_of_fin:∀ k:Fin 16,DG (hexd k.val)=k.val:=by decide
theorem DG_of (k:Nat) (h:k<16):DG (hexd k)=k:=DG_of_fin ⟨k,h⟩
theorem zbe:∀ k:Fin 256,DG (UInt8.ofNat k.val)≤15:=by decide +kernel
theorem tf (c:UInt8):DG c≤15:=by
 have:=zbe ⟨c.toNat,c.toNat_lt⟩
 simpa using this
def Mn (l:List UInt8):Nat :=
 if l.getD 0 0≠92∨l.length=1 then(l.getD 0 0).toNat
 else if l.getD 1 0=110 then 10
 else if l.getD 1 0=120∧4≤l.length then DG (l.getD 2 0)*16+DG (l.getD 3 0)
 else(l.getD 1 0).toNat
theorem Mn_lt (l:List UInt8):Mn l<256:=by
 unfold Mn
 have h0:=(l.getD 0 0).toNat_lt
 have h1:=(l.getD 1 0).toNat_lt
 have h2:=tf (l.getD 2 0)
 have h3:=tf (l.getD 3 0)
 split
 · omega
 · split
   · omega
   · split <;> omega
theorem qf_pos' (n:Nat):1≤(qf n).length:=by
 unfold qf
 repeat' split
 all_goals simp
def pre (n:Nat) (l:List UInt8):Bool:=Lib.hasPrefix l (qf n)
theorem zbH {n:Nat} {l:List UInt8} (h:pre n l=true):∃ t,l=qf n++t:=by
 unfold pre Lib.hasPrefix at h
 rw[List.isPrefixOf_iff_prefix] at h
 obtain⟨t,ht⟩:=h
 exact⟨t,ht.symm⟩
theorem rE (n:Nat) (h:n<256) (c:Nat) (hc:c<256) (hne:n≠c):UInt8.ofNat n≠UInt8.ofNat c:=by
 intro e
 have:=congrArg UInt8.toNat e
 simp only[UInt8.toNat_ofNat'] at this
 omega
theorem zdW {n:Nat} {l:List UInt8} (hn:n<256) (h:pre n l=true):n=Mn l:=by
 obtain⟨t,rfl⟩:=zbH h
 unfold qf
 by_cases e1:n=34
 · subst e1;rfl
 · by_cases e2:n=92
   · subst e2;rfl
   · by_cases e3:n=10
     · subst e3;rfl
     · rw[if_neg e1,if_neg e2,if_neg e3]
       by_cases h4:32≤n∧n≤126
       · rw[if_pos h4]
         unfold Mn
         rw[if_pos (Or.inl (by simpa using rE n hn 92 (by decide) e2))]
         simp
         omega
       · rw[if_neg h4]
         unfold Mn
         have k1:=DG_of (n / 16) (by omega)
         have k2:=DG_of (n % 16) (by omega)
         rw[if_neg (by simp),if_neg (by simp),if_pos (by simp)]
         simp [k1,k2]
         omega
def unq:Nat→List UInt8→Option (List UInt8)
 | 0,_=>some []
 | f+1,l=>if l=[] then some [] else if pre (Mn l) l=true then(unq f (l.drop (qf (Mn l)).length)).map (UInt8.ofNat (Mn l)::·) else none
def UnqV (l:List UInt8):List UInt8×Int :=
 if l.length<2∨l.getD 0 0≠34∨l.getD (l.length-1) 0≠34 then([],5)
 else match unq l.length ((l.drop 1).take (l.length-2)) with
  | some r=>(r,0)
  | none=>([],5)
theorem zbz (f:Nat):unq f []=some []:=by
 cases f <;> simp [unq]
theorem zeR (f:Nat) (l:List UInt8) (h:l≠[]) (hp:pre (Mn l) l=true):unq (f+1) l=(unq f (l.drop (qf (Mn l)).length)).map (UInt8.ofNat (Mn l)::·):=by
 rw[unq,if_neg h,if_pos hp]
theorem unq_no (f:Nat) (l:List UInt8) (h:l≠[]) (hp:pre (Mn l) l=false):unq (f+1) l=none:=by
 rw[unq,if_neg h,if_neg (by simp [hp])]
def UKeep (F:Nat) (I:List UInt8) (done l:List UInt8):Prop:=∃ f,l.length≤f∧unq F I=(unq f l).map (done++·)
theorem UKeep.start (F:Nat) (I:List UInt8) (h:I.length≤F):UKeep F I [] I:=⟨F,h,by simp⟩
theorem UKeep.stop {F:Nat} {I done:List UInt8} (h:UKeep F I done []):unq F I=some done:=by
 obtain⟨f,_,h⟩:=h
 rw[h,zbz]
 simp
theorem UKeep.none {F:Nat} {I done l:List UInt8} (h:UKeep F I done l) (hl:l≠[]) (hp:pre (Mn l) l=false):unq F I=none:=by
 obtain⟨f,hf,h⟩:=h
 match f,hf,h with
 | 0,hf,_=>exact absurd (List.length_eq_zero_iff.1 (by omega)) hl
 | f+1,_,h=>rw[h,unq_no f l hl hp];rfl
theorem UKeep.step {F:Nat} {I done l:List UInt8} (h:UKeep F I done l) (hl:l≠[]) (hp:pre (Mn l) l=true):UKeep F I (done++[UInt8.ofNat (Mn l)]) (l.drop (qf (Mn l)).length):=by
 obtain⟨f,hf,h⟩:=h
 match f,hf,h with
 | 0,hf,_=>exact absurd (List.length_eq_zero_iff.1 (by omega)) hl
 | f+1,hf,h =>
  refine⟨f,?_,?_⟩
  · have:=qf_pos' (Mn l)
    rw[List.length_drop]
    omega
  · rw[h,zeR f l hl hp,Option.map_map]
    congr 1
    funext x
    simp
theorem rm {n:Nat} {l:List UInt8} (h:pre n l=true):(qf n).length≤l.length:=by
 obtain⟨t,rfl⟩:=zbH h
 simp
theorem tN {l:List UInt8} (h:l.length<2∨l.getD 0 0≠34∨l.getD (l.length-1) 0≠34):UnqV l=([],5):=by
 unfold UnqV
 rw[if_pos h]
theorem zaL {l r:List UInt8} (h:¬(l.length<2∨l.getD 0 0≠34∨l.getD (l.length-1) 0≠34)) (h2:unq l.length ((l.drop 1).take (l.length-2))=some r):UnqV l=(r,0):=by
 unfold UnqV
 rw[if_neg h,h2]
theorem unqV_none {l:List UInt8} (h:¬(l.length<2∨l.getD 0 0≠34∨l.getD (l.length-1) 0≠34)) (h2:unq l.length ((l.drop 1).take (l.length-2))=none):UnqV l=([],5):=by
 unfold UnqV
 rw[if_neg h,h2]
end
section
open Go.RowKit
theorem sF (l:List UInt8) (c:UInt8):-1≤Lib.indexByte l c∧Lib.indexByte l c<l.length:=by
 induction l with
 | nil=>simp [Lib.indexByte]
 | cons b r ih =>
  unfold Lib.indexByte
  simp only[List.length_cons]
  split
  · omega
  · split <;> omega
theorem zbn (c:UInt8):((c.toNat:Int).toNat).toUInt8=c:=by
 rw[Int.toNat_natCast]
 simp
theorem zd8 (c:UInt8) (w:World):Calls Tryz.prog 173 #[.int .u8 c.toNat] w fun e w'=>e=.returned (.int .u8 (DG c))∧w'=w:=by
 have hb:=sF hexLit c
 have hl:hexLit.length=16:=rfl
 rw[hl] at hb
 obtain⟨hb0,hb1⟩:=hb
 have hd:((DG c:Nat):Int)=max 0 (Lib.indexByte hexLit c):=by
  unfold DG
  omega
 have HD:=zb hd
 have hc:=(Tryz.strings_IndexByte ⟨#[48,49,50,51,52,53,54,55,56,57,97,98,99,100,101,102]⟩ c.toNat w)
 rw[zbn] at hc
 have HC:=zb (show Calls Tryz.prog 182 #[.string ⟨#[48,49,50,51,52,53,54,55,56,57,97,98,99,100,101,102]⟩,.int .u8 c.toNat] w fun e w'=>e=.returned (.int .i64 (Lib.indexByte hexLit c))∧w'=w from hc)
 clear hd hc hl
 generalize Lib.indexByte hexLit c=x at *
 go_enter Tryz.func173, Tryz.ntmps173
 go_wp2_with fail
 refine HC.out.mono ?_
 rintro e w' ⟨rfl,rfl⟩
 go_wp2_with fail
 go_ret
 exact⟨zbN HD.out.symm,rfl⟩
theorem yT (s:ByteArray) (k:Nat) (h:k<s.size):s.data.toList.getD k 0=s[k]:=by
 have:=yk s k h
 rw[List.getD_eq_getElem?_getD,← List.head?_drop,this]
 rfl
theorem wR {c:UInt8} {n:Nat} (hn:n<256):((c.toNat:Int) == (n:Int))=true↔c=UInt8.ofNat n:=by
 rw[beq_iff_eq,← UInt8.toNat_inj]
 simp only[UInt8.toNat_ofNat']
 omega
theorem ws {c:UInt8} {n:Nat} (hn:n<256):((c.toNat:Int) == (n:Int))=false↔¬c=UInt8.ofNat n:=by
 rw[← wR hn]
 simp
def IntMade (k:IntKind) (n:Int) (w:World) (e:Ending) (w':World):Prop:=e=.returned (.int k n)∧Below w.heap.size w w'
theorem vU {k:IntKind} {m n:Int} {w w':World} (h:n=m) (hb:Below w.heap.size w w'):IntMade k n w (.returned (.int k m)) w':=by
 subst h
 exact⟨rfl,hb⟩
theorem yH (s:ByteArray):s.data.toList.length=s.size:=rfl
theorem zcp (s:ByteArray) (h:0<s.size) (hc:¬s[0]=92∨s.size=1):Mn s.data.toList=s[0].toNat:=by
 unfold Mn
 rw[yT s 0 h,yH,if_pos hc]
theorem mn_n (s:ByteArray) (h:1<s.size) (hc:s[0]=92) (h1:s[1]=110):Mn s.data.toList=10:=by
 unfold Mn
 rw[yT s 0 (by omega),yT s 1 h,yH,if_neg (by simp [hc];omega),if_pos h1]
theorem mn_x (s:ByteArray) (h:4≤s.size) (hc:s[0]=92) (h1:s[1]=120):Mn s.data.toList=DG s[2]*16+DG s[3]:=by
 unfold Mn
 rw[yT s 0 (by omega),yT s 1 (by omega),yT s 2 (by omega),yT s 3 (by omega),yH,if_neg (by simp [hc];omega),if_neg (by rw[h1];decide),if_pos ⟨h1,h⟩]
theorem zeK (s:ByteArray) (h:1<s.size) (hc:s[0]=92) (h1:¬s[1]=110) (h2:¬(s[1]=120∧4≤s.size)):Mn s.data.toList=s[1].toNat:=by
 unfold Mn
 rw[yT s 0 (by omega),yT s 1 h,yH,if_neg (by simp [hc];omega),if_neg h1,if_neg h2]
theorem or_u8 (a b:Nat) (ha:a≤15) (hb:b≤15):bits BinOp.or IntKind.u8 ((a:Int)*16) (b:Int)=((a*16+b:Nat):Int):=by
 have:=bits_join .u8 8 (by decide) wraps_u8 4 ((a:Int)*16) b (by omega) (by omega) (by omega) (by omega) (by omega) (by omega)
 rw[this]
 omega
theorem wC (s:ByteArray) (k:Nat) (h:k<s.size) (x:Int) (hx:x=k) (w:World):(Instr.index 9 (.string s) (.int .i64 x)).run Tryz.prog w=.ok (.int .u8 s[k].toNat) w:=by
 subst hx
 rw[run_index_string _ _ _ _ _ Tryz.underlying9,dif_pos ⟨by omega,by omega⟩]
 simp
theorem zdC (s:ByteArray) (w:World) (h:0<s.size) (hs:s.size≤maxLen):Calls Tryz.prog 156 #[.string s] w (IntMade .u8 (Mn s.data.toList) w):=by
 unfold maxLen at hs
 by_cases hc:s[0]=92
 · have e0:((s[0].toNat:Int) == 92)=true:=(wR (n:=92) (by decide)).2 hc
   have e0':((s[0].toNat:Int) != 92)=false:=by rw[bne,e0];rfl
   by_cases h1:s.size=1
   · have HM:=zb (zcp s h (Or.inr h1))
     have f1:((s.size:Int) == 1)=true:=by rw[beq_iff_eq];omega
     clear hc h1
     go_enter Tryz.func156, Tryz.ntmps156
     go_wp2
     go_ret
     exact vU (congrArg Int.ofNat HM.out) (Below.refl _ _)
   · have f1:((s.size:Int) == 1)=false:=by rw[beq_eq_false_iff_ne];omega
     have h2:1<s.size:=by omega
     by_cases hn:s[1]=110
     · have HM:=zb (mn_n s h2 hc hn)
       have e1:((s[1].toNat:Int) == 110)=true:=(wR (n:=110) (by decide)).2 hn
       clear hc hn
       go_enter Tryz.func156, Tryz.ntmps156
       go_wp2
       go_ret
       exact vU (congrArg Int.ofNat HM.out) (Below.refl _ _)
     · have e1:((s[1].toNat:Int) == 110)=false:=(ws (n:=110) (by decide)).2 hn
       by_cases hx:s[1]=120
       · have e2:((s[1].toNat:Int) == 120)=true:=(wR (n:=120) (by decide)).2 hx
         by_cases h4:4≤s.size
         · have HM:=zb (mn_x s h4 hc hx)
           have d2:=tf s[2]
           have d3:=tf s[3]
           have ho:=or_u8 (DG s[2]) (DG s[3]) d2 d3
           have hw:IntKind.u8.wrap ((DG s[2]:Int)*16)=(DG s[2]:Int)*16:=by rw[IntKind.wrap_u8];omega
           have i2:=wC s 2 (by omega) 2 rfl
           have i3:=wC s 3 (by omega) 3 rfl
           clear hc hn hx
           go_enter Tryz.func156, Tryz.ntmps156
           go_wp2_with fail
           go_quiet ((go_at_call 173; exact Calls.quiet_of_same (zd8 _ _)))
           go_wp2_with fail
           go_ret
           exact vU (congrArg Int.ofNat HM.out) (below_drewN (Below.refl _ _) _)
         · have HM:=zb (zeK s h2 hc hn (fun hh=>h4 hh.2))
           clear hc hn hx
           go_enter Tryz.func156, Tryz.ntmps156
           go_wp2
           go_ret
           exact vU (congrArg Int.ofNat HM.out) (Below.refl _ _)
       · have HM:=zb (zeK s h2 hc hn (fun hh=>hx hh.1))
         have e2:((s[1].toNat:Int) == 120)=false:=(ws (n:=120) (by decide)).2 hx
         clear hc hn hx
         go_enter Tryz.func156, Tryz.ntmps156
         go_wp2
         go_ret
         exact vU (congrArg Int.ofNat HM.out) (Below.refl _ _)
 · have HM:=zb (zcp s h (Or.inl hc))
   have e0:((s[0].toNat:Int) == 92)=false:=(ws (n:=92) (by decide)).2 hc
   have e0':((s[0].toNat:Int) != 92)=true:=by rw[bne,e0];rfl
   clear hc
   go_enter Tryz.func156, Tryz.ntmps156
   go_wp2
   go_ret
   exact vU (congrArg Int.ofNat HM.out) (Below.refl _ _)
end
section
open Go.RowKit
def StrErr (l:List UInt8) (x:Int) (w:World) (e:Ending) (w':World):Prop:=e=.returned (.tuple #[.string ⟨l.toArray⟩,.int .i64 x])∧Below w.heap.size w w'
theorem qu {v:List UInt8×Int} {l:List UInt8} {x:Int} {w w':World} (h:v=(l,x)) (hb:Below w.heap.size w w'):StrErr v.1 v.2 w (.returned (.tuple #[.string ⟨l.toArray⟩,.int .i64 x])) w':=by
 subst h
 exact⟨rfl,hb⟩
theorem uj (t:ByteArray) (n:Nat) (b:Bool) (h:pre n t.data.toList=b) (w:World):Calls Tryz.prog 128 #[.string t,.string ⟨(qf n).toArray⟩] w fun e w'=>e=.returned (.bool b)∧w=w':=by
 refine(Tryz.strings_HasPrefix t ⟨(qf n).toArray⟩ w).mono ?_
 rintro e w' ⟨rfl,rfl⟩
 exact⟨wI h,rfl⟩
def strLen:Value→Nat
 | .string s=>s.size
 | _=>0
def URel (s:ByteArray) (w:World) (t:ByteArray) (done:List UInt8) (wr:World):Prop :=
 t.size+done.length≤s.size∧UKeep s.data.toList.length ((s.data.toList.drop 1).take (s.data.toList.length-2)) done t.data.toList∧Lib.IsBuilder 71 5 w.heap.size w.heap.size (Lib.byteCells done) wr∧Below w.heap.size w wr
theorem URel.start (s:ByteArray) (w:World) (h2:¬s.size<2):URel s w (s.extract 1 (s.size-1)) [] (w.alloc (.cells #[.pointer none,.slice none 0 0] 71 (0,0))):=by
 have hd:(s.extract 1 (s.size-1)).data.toList=(s.data.toList.drop 1).take (s.data.toList.length-2):=by
  rw[Lib.extract_data,yH]
  congr 1
 have hl:(s.extract 1 (s.size-1)).size=s.size-2:=by
  rw[ByteArray.size_extract]
  omega
 refine⟨by rw[hl];simp,?_,xH w _ (Nat.le_refl _),(Below.refl _ _).alloc (Nat.le_refl _) _⟩
 rw[hd]
 refine UKeep.start _ _ ?_
 rw[← hd,yH,yH,hl]
 omega
theorem za6 (t:ByteArray) (h:0<t.size):t.data.toList≠[]:=by
 intro e
 have:t.data.toList.length=t.size:=rfl
 rw[e] at this
 simp at this
 omega
theorem qX (n:Nat) (h:n<256):[Value.int .u8 (n:Int)]=Lib.byteCells [UInt8.ofNat n]:=by
 simp [Lib.byteCells]
 omega
theorem URel.next {s:ByteArray} {w:World} {t:ByteArray} {done:List UInt8} {wr w':World} (h:URel s w t done wr) (ht:0<t.size) (hp:pre (Mn t.data.toList) t.data.toList=true)
 (hb:Lib.IsBuilder 71 5 w.heap.size w.heap.size (Lib.byteCells done++[Value.int .u8 (Mn t.data.toList:Int)]) w') (hw:Below w.heap.size w w'):URel s w (t.extract (qf (Mn t.data.toList)).length t.size) (done++[UInt8.ofNat (Mn t.data.toList)]) w':=by
 have hl:=rm hp
 have h1:=zbc (Mn t.data.toList)
 rw[yH] at hl
 refine⟨?_,?_,?_,hw⟩
 · have:=h.1
   rw[ByteArray.size_extract,List.length_append]
   simp only[List.length_singleton]
   omega
 · rw[Lib.extract_to_end]
   exact h.2.1.step (za6 t ht) hp
 · rw[byteCells_append,← qX _ (Mn_lt _)]
   exact hb
theorem zba (s:ByteArray) (w:World) (hs:s.size≤1099511627776):Calls Tryz.prog 127 #[.string s] w (StrErr (UnqV s.data.toList).1 (UnqV s.data.toList).2 w):=by
 by_cases h2:s.size<2
 · have HV:=zb (tN (l:=s.data.toList) (Or.inl h2))
   go_enter Tryz.func127, Tryz.ntmps127
   go_wp2
   go_ret2
   exact qu HV.out (Below.refl _ _)
 · have h0:0<s.size:=by omega
   have hz:s.size-1<s.size:=by omega
   have il:=wC s (s.size-1) hz ((s.size:Int)-1) (by omega)
   by_cases hc:s[0]=34
   · have e0:((s[0].toNat:Int) == 34)=true:=(wR (n:=34) (by decide)).2 hc
     have e0':((s[0].toNat:Int) != 34)=false:=by rw[bne,e0];rfl
     by_cases hd:s[s.size-1]=34
     · have e1:((s[s.size-1].toNat:Int) == 34)=true:=(wR (n:=34) (by decide)).2 hd
       have e1':((s[s.size-1].toNat:Int) != 34)=false:=by rw[bne,e1];rfl
       have hok:¬(s.data.toList.length<2∨s.data.toList.getD 0 0≠34∨s.data.toList.getD (s.data.toList.length-1) 0≠34):=by
        rw[yH,yT s 0 h0,yT s (s.size-1) hz,hc,hd]
        simp
        omega
       have HOK:=zb hok
       clear hok hc hd
       go_enter Tryz.func127, Tryz.ntmps127
       go_wp2_with fail
       go_loopw [5] (fun r wr=>∃(t:ByteArray) (done:List UInt8),r=.string t∧URel s w t done wr) (fun r _=>strLen r)
       case atStart=>exact⟨_,[],rfl,URel.start s w h2⟩
       case round =>
        obtain⟨t,done,rfl,hrel⟩:=hrel
        have HR:=zb hrel
        have hsz:=hrel.1
        clear hrel
        by_cases ht:0<t.size
        · have e2:t.toList.isEmpty=false:=by rw[yq,List.isEmpty_eq_false_iff];exact za6 t ht
          have hn:=Mn_lt t.data.toList
          go_wp2_with fail
          refine(zdC t _ ht (by unfold maxLen;omega)).mono ?_
          rintro e w1 ⟨rfl,hb1⟩
          have HB1:=zb hb1
          clear hb1
          go_wp2_with fail
          refine(sA _ _ (by omega) (by omega)).mono ?_
          rintro e w2 ⟨rfl,hb2⟩
          rw[Int.toNat_natCast]
          have HB2:=zb (HB1.out.trans (hb2.mono HB1.out.size))
          clear hb2 HB1
          by_cases hp:pre (Mn t.data.toList) t.data.toList=true
          · have HP:=zb hp
            clear hp
            go_wp2_with fail
            refine(uj t _ true HP.out _).mono ?_
            rintro e w' ⟨rfl,rfl⟩
            go_wp2_with fail
            refine(xS w.heap.size w.heap.size _ _ _ (vu HR.out.2.2.1 HB2.out) (by rw[Lib.byteCells_length];omega) (Nat.le_trans HR.out.2.2.2.size HB2.out.size)).mono ?_
            rintro e w3 ⟨rfl,h3,hb3⟩
            have HN:=zb (HR.out.next ht HP.out h3 ((HR.out.2.2.2.trans (HB2.out.mono HR.out.2.2.2.size)).trans hb3))
            have hl:=rm HP.out
            have hq:=zbc (Mn t.data.toList)
            rw[yH] at hl
            clear h3 hb3
            go_wp2_with fail
            go_roundw
            case rel=>exact⟨_,_,rfl,HN.out⟩
            case measure =>
             simp only[strLen]
             rw[ByteArray.size_extract]
             omega
          · have hp':pre (Mn t.data.toList) t.data.toList=false:=by simpa using hp
            have HV:=zb (unqV_none HOK.out (HR.out.2.1.none (za6 t ht) hp'))
            have HP:=zb hp'
            clear hp hp'
            go_wp2_with fail
            refine(uj t _ false HP.out _).mono ?_
            rintro e w' ⟨rfl,rfl⟩
            go_wp2_with fail
            go_ret2
            exact qu HV.out (HR.out.2.2.2.trans (HB2.out.mono HR.out.2.2.2.size))
        · have e2:t.toList.isEmpty=true:=by rw[yq,wf t ht];rfl
          have hk:=HR.out.2.1
          rw[wf t ht] at hk
          have HV:=zb (zaL HOK.out hk.stop)
          clear hk
          go_wp2_with fail
          refine(Tryz.Builder_String_any w.heap.size w.heap.size _ _ HR.out.2.2.1 HR.out.2.2.2.size).mono ?_
          rintro e w3 ⟨rfl,hb3⟩
          have HB3:=zb (HR.out.2.2.2.trans hb3)
          clear hb3
          go_wp2_with fail
          go_ret2
          exact qu HV.out HB3.out
     · have HV:=zb (tN (l:=s.data.toList) (Or.inr (Or.inr (by rw[yH,yT s (s.size-1) hz];exact hd))))
       have e1:((s[s.size-1].toNat:Int) == 34)=false:=(ws (n:=34) (by decide)).2 hd
       have e1':((s[s.size-1].toNat:Int) != 34)=true:=by rw[bne,e1];rfl
       clear hc hd
       go_enter Tryz.func127, Tryz.ntmps127
       go_wp2
       go_ret2
       exact qu HV.out (Below.refl _ _)
   · have HV:=zb (tN (l:=s.data.toList) (Or.inr (Or.inl (by rw[yT s 0 h0];exact hc))))
     have e0:((s[0].toNat:Int) == 34)=false:=(ws (n:=34) (by decide)).2 hc
     have e0':((s[0].toNat:Int) != 34)=true:=by rw[bne,e0];rfl
     clear hc
     go_enter Tryz.func127, Tryz.ntmps127
     go_wp2
     go_ret2
     exact qu HV.out (Below.refl _ _)
end
section
open Go.RowKit
end
section
open Go.RowKit
end
section
open Go.RowKit
def Tab (w : World) : Prop := Lib.TabIs Tryz.prog w "internal/strconv.uint64pow10" .u64 Lib.pow10Tab
theorem zL : Tryz.prog.globalNamed "internal/strconv.uint64pow10" = some 3 := by kernel_rfl
theorem Tab.lt {w:World} (h:Tab w) : 3 < w.heap.size :=
 World.block_lt_of_cell? w (a:=⟨3,0,none⟩) (Lib.TabIs.cell h zL 0 (by rw[Lib.pow10Tab_length];decide))
theorem Tab.below {w w':World} (h:Tab w) (hb:Below w.heap.size w w'):Tab w':=var?_below hb zL h.lt h
theorem word_Text (n:Int) (w:World) (h0:-9223372036854775808≤n) (h1:n≤9223372036854775807) (ht:Tab w):Calls Tryz.prog 149 #[.int .i64 n] w (StrMade (Lib.itoa n) w):=by
 have HT:=zb ht
 clear ht
 go_enter Tryz.func149, Tryz.ntmps149
 go_wp2_with fail
 refine(Tryz.strconv_FormatInt_10 n h0 h1 _ HT.out).mono ?_
 rintro e w' ⟨rfl,k,os,rfl⟩
 have HB:=zb (Lib.below_grow w.heap.size w (Nat.le_refl _) k os)
 go_wp2
 go_ret
 exact⟨rfl,HB.out⟩
theorem zea (n:Int) (h0:-9223372036854775808≤n) (h1:n≤9223372036854775807):(Lib.itoa n).length≤21:=Lib.itoa_length_le n h0 h1
end
section
open Go.RowKit
theorem zcM (n:Nat) (t:List UInt8):pre n (qf n++t)=true:=by
 unfold pre Lib.hasPrefix
 rw[List.isPrefixOf_iff_prefix]
 exact⟨t,rfl⟩
theorem wS (c:UInt8) (r:List UInt8):qbody (c::r)=qf c.toNat++qbody r:=by
 unfold qbody
 rw[List.flatMap_cons]
theorem zcj:∀(l:List UInt8) (f:Nat),l.length≤f→unq f (qbody l)=some l
 | [],f,_=>zbz f
 | c::r,0,h=>by simp at h
 | c::r,f+1,h=>by
  have hM:=zdW c.toNat_lt (zcM c.toNat (qbody r))
  rw[wS]
  have hne:qf c.toNat++qbody r≠[]:=by
   intro e
   have h1:=zbc c.toNat
   rw[(List.append_eq_nil_iff.1 e).1] at h1
   simp at h1
  rw[zeR f _ hne (by rw[← hM];exact zcM _ _),← hM,List.drop_left,zcj r f (by simpa using h)]
  simp
theorem uq (l:List UInt8):l.length≤(qbody l).length:=by
 induction l with
 | nil=>simp
 | cons c r ih =>
  have:=zbc c.toNat
  rw[wS]
  simp
  omega
theorem unqV_back (l:List UInt8):UnqV (qall l)=(l,0):=by
 have hlen:(qall l).length=(qbody l).length+2:=by simp [qall]
 refine zaL ?_ ?_
 · rw[hlen]
   have e1:(qall l).getD 0 0=34:=rfl
   have e2:(qall l).getD ((qbody l).length+2-1) 0=34:=by
    unfold qall
    simp
   rw[e1,e2]
   simp
 · have e:((qall l).drop 1).take ((qall l).length-2)=qbody l:=by
    rw[hlen]
    unfold qall
    simp
   rw[e]
   exact zcj l _ (by have:=uq l;omega)
theorem uk (a b:List UInt8):∀ m:Int,readGo m (a++b)=(readGo m a).bind fun k=>readGo k b:=by
 induction a with
 | nil=>intro m;rfl
 | cons c r ih =>
  intro m
  rw[List.cons_append,readGo,readGo]
  split
  · rfl
  · exact ih _
theorem dig_val (k:Nat) (h:k<10):((UInt8.ofNat (48+k)).toNat:Int)-48=k:=by
 simp only[UInt8.toNat_ofNat']
 omega
theorem zdH (k:Nat):∀ u:Nat,u<k→u≤4611686018427387903→readGo 0 (Lib.decDigits u)=some (u:Int):=by
 induction k with
 | zero=>intro u h;omega
 | succ k ih =>
  intro u hk hu
  by_cases h:u<10
  · rw[Lib.decDigits,dif_pos h,readGo,dig_val u h,if_neg (by omega)]
    simp [readGo]
  · rw[Lib.decDigits,dif_neg h,uk,ih (u / 10) (by omega) (by omega)]
    show readGo ((u / 10:Nat):Int) [UInt8.ofNat (48+u % 10)]=_
    rw[readGo,dig_val (u % 10) (by omega),if_neg (by omega),readGo]
    congr 1
    omega
theorem zax (k:Nat) (h:k<10):isDig (UInt8.ofNat (48+k))=true:=by
 have:=(by decide:∀ k:Fin 10,isDig (UInt8.ofNat (48+k.val))=true) ⟨k,h⟩
 exact this
theorem zbA (k:Nat):∀ u:Nat,u<k→(Lib.decDigits u).all isDig=true:=by
 induction k with
 | zero=>intro u h;omega
 | succ k ih =>
  intro u hk
  by_cases h:u<10
  · rw[Lib.decDigits,dif_pos h]
    rw[List.all_cons,zax u h]
    rfl
  · rw[Lib.decDigits,dif_neg h,List.all_append,ih (u / 10) (by omega)]
    rw[List.all_cons,zax (u % 10) (by omega)]
    rfl
theorem dec_head (k:Nat):∀ u:Nat,u<k→1≤u→∃ c r,Lib.decDigits u=c::r∧c≠48:=by
 induction k with
 | zero=>intro u h;omega
 | succ k ih =>
  intro u hk hu
  by_cases h:u<10
  · rw[Lib.decDigits,dif_pos h]
    have:=(by decide:∀ k:Fin 10,1≤k.val→UInt8.ofNat (48+k.val)≠48) ⟨u,h⟩ hu
    exact⟨_,[],rfl,this⟩
  · obtain⟨c,r,e,hc⟩:=ih (u / 10) (by omega) (by omega)
    rw[Lib.decDigits,dif_neg h,e]
    exact⟨c,_,rfl,hc⟩
theorem isNum_dec (u:Nat):isNum (Lib.decDigits u)=true:=by
 unfold isNum
 rw[zbA (u+1) u (by omega)]
 by_cases h:u=0
 · subst h
   rw[Lib.decDigits,dif_pos (by decide)]
   decide
 · obtain⟨c,r,e,hc⟩:=dec_head (u+1) u (by omega) (by omega)
   rw[e]
   simp [hc]
theorem zdo (n:Int) (h0:0≤n) (h1:n≤4611686018427387903):ReadV (Lib.itoa n)=(n,0):=by
 unfold Lib.itoa
 rw[if_neg (by omega)]
 have:=zaG (isNum_dec n.toNat) (zdH (n.toNat+1) n.toNat (by omega) (by omega))
 rw[this]
 congr 1
 omega
theorem zd7 (s:ByteArray):(⟨s.data.toList.toArray⟩:ByteArray)=s:=by simp
end
