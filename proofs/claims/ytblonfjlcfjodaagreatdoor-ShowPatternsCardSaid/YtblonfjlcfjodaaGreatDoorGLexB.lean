/-
  Lex: tokens in a row: how they lie in memory; a token's bytes ar.
-/
import Derived.Test.YtblonfjlcfjodaaGreatDoorGLexR
import Derived.Lib.OthersKept
import Derived.Maps.AppendAt
namespace Go.Proofs.YtblonfjlcfjodaaGreatDoor
set_option linter.unusedSimpArgs false
set_option linter.unusedVariables false
set_option maxRecDepth 100000
set_option maxHeartbeats 4000000
section
open Go.RowKit
theorem za8:∀ k:Fin 256,(qf k.val).all (fun c=>decide (c.toNat<128))=true:=by decide +kernel
theorem zd9 (l:List UInt8):∀ c∈qall l,c.toNat<128:=by
 intro c hc;unfold qall qbody at hc;rcases List.mem_cons.1 hc with rfl | hc
 . decide
 . rcases List.mem_append.1 hc with hc | hc
   . obtain⟨d,_,hd⟩:=List.mem_flatMap.1 hc;have:=List.all_eq_true.1 (za8 ⟨d.toNat,d.toNat_lt⟩) c hd;exact of_decide_eq_true this
   . obtain rfl:=List.mem_singleton.1 hc;decide
theorem zdY {c:UInt8} (h:isBody c=true):c.toNat<128:=by
 by_cases hx:c.toNat<128
 . exact hx
 . have:=(wJ c.toNat (by omega)).2.2.2;rw[zbB,h] at this;cases this
theorem zeb:∀ s∈signL,∀ c∈s,c.toNat<128:=by decide
theorem wX (l:List UInt8):∀ c∈nameOf l,c.toNat<128:=fun c hc=>zdY (List.all_eq_true.1 (zdg l) c hc)
theorem tok_ascii {l:List UInt8} {t:TK} {n:Nat} (h:oneV l=.tok t n):∀ c∈l.take n,c.toNat<128:=by
 have ht:=yG h;cases l with
 | nil=>cases h
 | cons c r =>
  intro d hd;rw[zC] at h
  split at h
  . obtain⟨_,rfl⟩:=OneR.tok.inj h;rw[zW] at hd;exact wX _ d hd
  . split at h
    . obtain⟨_,rfl⟩:=OneR.tok.inj h;rw[zW] at hd;exact wX _ d hd
    . split at h
      . rename_i hc;unfold tagTok at h
        split at h
        . obtain⟨_,rfl⟩:=OneR.tok.inj h;rw[Nat.add_comm,List.take_succ_cons,zW] at hd;rcases List.mem_cons.1 hd with rfl | hd
          . rw[hc];decide
          . exact wX _ d hd
        . cases h
      . split at h
        . unfold intTok at h
          split at h
          . obtain⟨_,rfl⟩:=OneR.tok.inj h;rw[zW] at hd;exact wX _ d hd
          . cases h
        . split at h
          . unfold strTok at h
            split at h
            . obtain⟨rfl,rfl⟩:=OneR.tok.inj h;rw[ht.1] at hd;exact zd9 _ d hd
            . cases h
          . unfold signTok at h
            split at h
            . rename_i s hs;obtain⟨rfl,rfl⟩:=OneR.tok.inj h;rw[ht.1] at hd;exact zeb s (List.mem_of_find?_eq_some hs) d hd
            . cases h
def tokCells (T:List (TK×Nat)):List Value:=T.flatMap fun t=>[.int .i64 t.1.kind,.int .i64 (t.2:Nat),.string ⟨t.1.text.toArray⟩,.int .i64 t.1.n]
theorem sG (T U:List (TK×Nat)):tokCells (T++U)=tokCells T++tokCells U:=by unfold tokCells;rw[List.flatMap_append]
theorem sj:∀{T:List (TK×Nat)} {i:Nat} {t:TK×Nat},T[i]? = some t->(tokCells T)[i*4]? = some (.int .i64 t.1.kind)/\(tokCells T)[i*4+1]? = some (.int .i64 (t.2:Nat))/\(tokCells T)[i*4+2]? = some (.string ⟨t.1.text.toArray⟩)/\(tokCells T)[i*4+3]? = some (.int .i64 t.1.n)
 | [],_,_,h=>by cases h
 | u::T,0,t,h=>by
  obtain rfl:u=t:=by simpa using h
  exact⟨rfl,rfl,rfl,rfl⟩
 | u::T,i+1,t,h=>by
  obtain⟨h1,h2,h3,h4⟩:=sj (T:=T) (i:=i) (t:=t) (by simpa using h);have hc:tokCells (u::T)=[.int .i64 u.1.kind,.int .i64 (u.2:Nat),.string ⟨u.1.text.toArray⟩,.int .i64 u.1.n]++tokCells T:=rfl;rw[hc];have e:∀ k,([.int .i64 u.1.kind,.int .i64 (u.2:Nat),.string ⟨u.1.text.toArray⟩,.int .i64 u.1.n]++tokCells T:List Value)[(i+1)*4+k]? = (tokCells T)[i*4+k]? := fun k=>by
   rw[List.getElem?_append_right (by simp;omega)];congr 1;simp;omega
  exact⟨(e 0).trans h1,(e 1).trans h2,(e 2).trans h3,(e 3).trans h4⟩
def TokRow (B:Nat) (w:World) (v:Value) (T:List (TK×Nat)):Prop:=w.ownsRow B 69 4 v T.length (tokCells T)
theorem TokRow.keep {B:Nat} {w w':World} {v:Value} {T:List (TK×Nat)} (h:TokRow B w v T) (hk:∀ b,v.ownBlock=some b->w'.heap[b]? = w.heap[b]?):TokRow B w' v T:=by
 refine⟨h.1,?_⟩;rcases h.2 with hn | ⟨g,cap,cur,hv,hb,hg,rest⟩
 . exact .inl hn
 . exact .inr ⟨g,cap,cur,hv,hb,(hk g (by rw[hv];rfl)).trans hg,rest⟩
theorem TokRow.below {B:Nat} {w w':World} {v:Value} {T:List (TK×Nat)} (h:TokRow B w v T) (hb:Below w.heap.size w w'):TokRow B w' v T :=
 h.keep fun b hx=>hb.block b (World.ownsRow.lt h b hx).2
theorem TokRow.type {B:Nat} {w:World} {v:Value} {T:List (TK×Nat)} (h:TokRow B w v T) (b:Nat) (hx:v.ownBlock=some b):∃ cur,w.heap[b]? = some (.cells cur 69 (0,0)):=by
 rcases h.2 with⟨rfl,_⟩ | ⟨g,cap,cur,rfl,_,hg,_⟩
 . cases hx
 . obtain rfl:g=b:=zc hx;exact⟨cur,hg⟩
theorem infoToken:(Tryz.prog.info? 69).map (fun i=>(i.zero,i.size,i.bytes))=some (some (.agg #[.int .i64 0,.int .i64 0,.string ⟨#[]⟩,.int .i64 0]),4,40):=by kernel_rfl
theorem tok_info:∃ i:TypeInfo, Tryz.prog.info? 69 = some i/\i.zero=some (.agg #[.int .i64 0,.int .i64 0,.string ⟨#[]⟩,.int .i64 0])/\i.size=4/\i.bytes=40:=by
 have h:=infoToken;cases hi : Tryz.prog.info? 69 with
 | none=>rw[hi] at h;cases h
 | some i =>
  rw[hi] at h;have h:=zc h;exact⟨i,rfl,congrArg (fun x=>x.1) h,congrArg (fun x=>x.2.1) h,congrArg (fun x=>x.2.2) h⟩
def LS (s:ByteArray) (w:World) (T:List (TK×Nat)) (v:Value) (pos:Nat) (wr:World):Prop:=wr.heap[w.heap.size]? = some (.stringIter s pos)/\TokRow w.heap.size wr v T/\Below w.heap.size w wr
theorem LS.lt {s:ByteArray} {w wr:World} {T:List (TK×Nat)} {v:Value} {pos:Nat} (h:LS s w T v pos wr):w.heap.size<wr.heap.size:=(Array.getElem?_eq_some_iff.1 h.1).1
theorem LS.apart {s:ByteArray} {w wr:World} {T:List (TK×Nat)} {v:Value} {pos:Nat} (h:LS s w T v pos wr):v.ownBlock≠some w.heap.size:=fun hx=>by
 obtain⟨cur,hc⟩:=h.2.1.type _ hx;rw[h.1] at hc;cases hc
theorem LS.start (s:ByteArray) (w:World):LS s w [] (.slice none 0 0) 0 (w.iter s 0):=⟨World.iter_heap w s 0,World.ownsRow_nil _ _ _ _,xi w s 0⟩
theorem LS.next {s:ByteArray} {w wr:World} {T:List (TK×Nat)} {v:Value} {pos:Nat} (h:LS s w T v pos wr) (pos':Nat):LS s w T v pos' (wr.iterAt w.heap.size s pos') :=
 ⟨Lib.iterAt_heap _ _ _ _ _ h.1,h.2.1.keep fun _ hx=>Lib.iterAt_other _ _ _ _ _ fun e=>h.apart (e▸hx),Lib.below_iterAt h.2.2 (Nat.le_refl _) _ _⟩
theorem LS.below {s:ByteArray} {w wr w':World} {T:List (TK×Nat)} {v:Value} {pos:Nat} (h:LS s w T v pos wr) (hb:Below wr.heap.size wr w'):LS s w T v pos w' :=
 ⟨(hb.block _ h.lt).trans h.1,h.2.1.below hb,h.2.2.trans (hb.mono h.2.2.size)⟩
theorem tok_push {w wr w':World} {T:List (TK×Nat)} {v v':Value} {k n:Int} {x:List UInt8} {q:Nat} (hb:Below w.heap.size w wr) (hg:wr.grownBy w' v.ownBlock) (hv:∀ b,v.ownBlock=some b->w.heap.size<=b)
 (ho:w'.ownsRow w.heap.size 69 4 v' (T.length+1) (tokCells T++[.int .i64 k,.int .i64 (q:Nat),.string ⟨x.toArray⟩,.int .i64 n])):TokRow w.heap.size w' v' (T++[(⟨k,x,n⟩,q)])/\Below w.heap.size w w':=by
 refine⟨?_,hb.trans ⟨hg.os,hg.tape,hg.output,hg.size,fun b hl=>?_⟩⟩
 . show w'.ownsRow _ _ _ _ (T++[_]).length (tokCells (T++[_]));rw[sG,List.length_append];exact ho
 . refine hg.block b (zd hl hb.size) fun e=>?_;have:=hv b e.symm;omega
theorem sW (w:World) (k a n:Int) (s:ByteArray):∀(j:Nat) (u:Value),[Value.int .i64 k,.int .i64 a,.string s,.int .i64 n][j]? = some u->(w.alloc (.cells #[.int .i64 k,.int .i64 a,.string s,.int .i64 n] 69 (0,0))).cell? ((⟨w.heap.size,0,none⟩:Addr).add j)=some u:=by
 intro j u hj;rw[Addr.add_lit,zf (zA w _ _ rfl)]
 simpa using hj
theorem zgZ (k a n:Int) (s:ByteArray):∀ u∈[Value.int .i64 k,.int .i64 a,.string s,.int .i64 n],u.oneCell'=true:=by
 intro u hu;simp only[List.mem_cons,List.not_mem_nil,or_false] at hu;rcases hu with rfl | rfl | rfl | rfl <;> rfl
theorem LS.push {s:ByteArray} {w wr w':World} {T:List (TK×Nat)} {v v':Value} {pos:Nat} {k n:Int} {x:List UInt8} {q:Nat} (h:LS s w T v pos wr) (hg:wr.grownBy w' v.ownBlock)
 (ho:w'.ownsRow w.heap.size 69 4 v' (T.length+1) (tokCells T++[.int .i64 k,.int .i64 (q:Nat),.string ⟨x.toArray⟩,.int .i64 n])):LS s w (T++[(⟨k,x,n⟩,q)]) v' pos w':=by
 obtain⟨h1,h2⟩:=tok_push h.2.2 hg (fun b hx=>(World.ownsRow.lt h.2.1 b hx).1) ho;exact⟨(hg.block _ h.lt fun e=>h.apart e.symm).trans h.1,h1,h2⟩
end
section
open Go.RowKit
def LexV (l:List UInt8):LR:=if 4096<l.length then .bad 4 0 else(match lexGo 0 0 l with
 | .ok T=>.ok (T++[(⟨0,[],0⟩,l.length)])
 | .bad e q=>.bad e q)
def LexMade (r:LR) (w:World) (x:Ending) (w':World):Prop:=match r with
 | .ok T=>∃ v,x=.returned (.tuple #[v,.int .i64 0,.int .i64 0])/\TokRow w.heap.size w' v T/\Below w.heap.size w w'
 | .bad e q=>x=.returned (.tuple #[.slice none 0 0,.int .i64 e,.int .i64 (q:Nat)])/\Below w.heap.size w w'
def LexKeep (s:ByteArray) (T:List (TK×Nat)) (pos en:Nat):Prop:=lexGo 0 0 s.data.toList=(lexGo pos (en-pos) (s.data.toList.drop pos)).add T/\en<=s.size/\T.length<=pos/\∀ j (hj:j<s.size),pos<=j->j<en->(s[j]'hj).toNat<128
theorem LexKeep.start (s:ByteArray):LexKeep s [] 0 0:=⟨by
 rw[List.drop_zero];show lexGo 0 0 s.data.toList=_;cases lexGo 0 0 s.data.toList <;> rfl,by omega,by simp,fun j hj h1 h2=>by omega⟩
theorem LexKeep.skip {s:ByteArray} {T:List (TK×Nat)} {pos en:Nat} (h:LexKeep s T pos en) (hp:pos<s.size) (he:pos<en):LexKeep s T (pos+1) en/\(s[pos]'hp).toNat<128:=by
 obtain⟨h1,h2,h3,h4⟩:=h;refine⟨⟨?_,h2,by omega,fun j hj h5 h6=>h4 j hj (by omega) h6⟩,h4 pos hp (Nat.le_refl _) he⟩;rw[h1,yk s pos hp,show en-pos=(en-(pos+1))+1 by omega];rfl
theorem LexKeep.blank {s:ByteArray} {T:List (TK×Nat)} {pos en:Nat} (h:LexKeep s T pos en) (hp:pos<s.size) (he:¬pos<en) (hb:isBlank (s[pos]'hp)=true):LexKeep s T (pos+1) en:=by
 obtain⟨h1,h2,h3,h4⟩:=h;refine⟨?_,h2,by omega,fun j hj h5 h6=>h4 j hj (by omega) h6⟩;rw[h1,yk s pos hp,show en-pos=0 by omega,zN hb,show en-(pos+1)=0 by omega]
theorem LexKeep.tok {s:ByteArray} {T:List (TK×Nat)} {pos en:Nat} {t:TK} {n:Nat} (h:LexKeep s T pos en) (hp:pos<s.size) (he:¬pos<en) (hb:isBlank (s[pos]'hp)=false) (ht:oneV (s.data.toList.drop pos)=.tok t n):LexKeep s (T++[(t,pos)]) (pos+1) (pos+n)/\(s[pos]'hp).toNat<128/\pos+n<=s.size/\1<=n:=by
 obtain⟨h1,h2,h3,h4⟩:=h;have ha:=tok_ascii ht;obtain⟨h5,h6,h7,_,_⟩:=yG ht;rw[List.length_drop] at h6;have hl:s.data.toList.length=s.size:=rfl;have hat:∀ j (hj:j<s.size),pos<=j->j<pos+n->(s[j]'hj).toNat<128:=fun j hj h8 h9=>by
  refine ha (s[j]'hj) ?_;rw[List.mem_iff_getElem];refine⟨j-pos,by rw[List.length_take,List.length_drop];omega,?_⟩;rw[List.getElem_take,List.getElem_drop];have:pos+(j-pos)=j:=by omega
  simp only[this];rfl
 refine⟨⟨?_,by omega,by rw[List.length_append];simp;omega,fun j hj h8 h9=>hat j hj (by omega) h9⟩,hat pos hp (Nat.le_refl _) (by omega),by omega,h7⟩;rw[h1,show en-pos=0 by omega];rw[yk s pos hp] at ht ⊢;rw[lexGo,if_neg (by rw[hb];decide),ht];show((lexGo (pos+1) (n-1) (s.data.toList.drop (pos+1))).add [(t,pos)]).add T=_;rw[LR.add_add,show pos+n-(pos+1)=n-1 by omega]
theorem LexKeep.err {s:ByteArray} {T:List (TK×Nat)} {pos en:Nat} {e:Int} (h:LexKeep s T pos en) (hs:s.size<=4096) (hp:pos<s.size) (he:¬pos<en) (hb:isBlank (s[pos]'hp)=false) (ht:oneV (s.data.toList.drop pos)=.err e):LexV s.data.toList=.bad e pos:=by
 obtain⟨h1,h2,h3,h4⟩:=h;have hl:s.data.toList.length=s.size:=rfl;unfold LexV;rw[if_neg (by omega),h1,show en-pos=0 by omega];rw[yk s pos hp] at ht ⊢;rw[yi hb _ ht];rfl
theorem LexKeep.stop {s:ByteArray} {T:List (TK×Nat)} {en:Nat} (h:LexKeep s T s.size en) (hs:s.size<=4096):LexV s.data.toList=.ok (T++[(⟨0,[],0⟩,s.size)]):=by
 obtain⟨h1,h2,h3,h4⟩:=h;have hl:s.data.toList.length=s.size:=rfl;unfold LexV;rw[if_neg (by omega),h1,rW,zaD];show LR.ok (T++[]++_)=_;rw[List.append_nil,hl]
theorem zj {w:World} (o:Obj):Below w.heap.size w (w.alloc o):=(Below.refl _ w).alloc (Nat.le_refl _) o
theorem uN (s:ByteArray) (k:Nat):(s.extract k s.size).data.toList=s.data.toList.drop k:=by
 rw[Lib.extract_data];exact List.take_of_length_le (by rw[List.length_drop];exact Nat.le_refl _)
theorem oneV_bad {c:UInt8} {r:List UInt8} {e:Int} (hb:isBlank c=false) (h:oneV (c::r)=.err e):e=2∨e=20:=(zaj 0 (c::r) e 0 (yi hb 0 h)).2.2
theorem rune_of (s:ByteArray) (pos:Nat) (hp:pos<s.size):RuneOf (Utf8.decode s pos).1 (s[pos]'hp):=by
 by_cases ha:(s[pos]'hp).toNat<128
 . rw[decode_ascii s pos hp ha];exact .inl ⟨rfl,ha⟩
 . exact .inr ⟨(decode_high s pos hp (by omega)).1,by omega⟩
theorem uJ {l:List UInt8} (h:4096<l.length):LexV l=.bad 4 0:=by unfold LexV;rw[if_pos h]
theorem sk {r:LR} {e:Int} {q:Nat} (h:r=.bad e q) {w w':World} (hb:Below w.heap.size w w'):LexMade r w (.returned (.tuple #[.slice none 0 0,.int .i64 e,.int .i64 (q:Nat)])) w':=by
 subst h;exact⟨rfl,hb⟩
theorem zd2 {r:LR} {T:List (TK×Nat)} (h:r=.ok T) {w w':World} {v:Value} (hr:TokRow w.heap.size w' v T) (hb:Below w.heap.size w w'):LexMade r w (.returned (.tuple #[v,.int .i64 0,.int .i64 0])) w':=by
 subst h;exact⟨v,rfl,hr,hb⟩
theorem lex_Lex (s:ByteArray) (w:World) (hy:Syms w):Calls Tryz.prog 32 #[.string s] w (LexMade (LexV s.data.toList) w):=by
 by_cases hbig:4096<s.size
 . have g1:decide (4096<(s.size:Int))=true:=decide_eq_true (by omega);have g2:decide (4096<s.size)=true:=decide_eq_true hbig;have HE:=zb (uJ (l:=s.data.toList) hbig);clear hbig hy
   go_enter Tryz.func32, Tryz.ntmps32
   go_wp2_with fail
   exact bodyPost_ret (v:=.tuple #[.slice none 0 0,.int .i64 4,.int .i64 0]) (by simp [results, Tryz.results32,go_sem]) rfl (sk HE.out (Below.refl _ _))
 . have g1:decide (4096<(s.size:Int))=false:=decide_eq_false (by omega);have g2:decide (4096<s.size)=false:=decide_eq_false hbig;have hs:s.size<=4096:=by omega
   have HY:=zb hy;have HK0:=zb (LexKeep.start s);have HS0:=zb (LS.start s w);obtain⟨i0,hi0,hz0,hz1,hz2⟩:=tok_info;clear hbig hy
   go_enter Tryz.func32, Tryz.ntmps32
   go_wp2_with fail
   go_loopw [5,6] (fun ut ve wr=>∃(T:List (TK×Nat)) (pos en:Nat) (vt:Value),vt=ut/\pos<=s.size/\ve=.int .i64 en/\en<=s.size/\T.length<=pos/\Hid (LS s w T vt pos wr)/\Hid (LexKeep s T pos en)) (fun _ _ wr=>s.size-wr.iterPos w.heap.size)
   case atStart=>exact⟨[],0,0,_,rfl,by omega,by go_num,by omega,by simp,HS0,HK0⟩
   case round =>
    obtain⟨T,pos,en,vt,rfl,hpl,rfl,hen,hT,HS,HK⟩:=hrel;clear HK0 HS0;have hit:=HS.out.1;by_cases hp:pos<s.size
    . have hnx:∀ ty,(Instr.next (.pointer (some ⟨w.heap.size,0,none⟩)) true ty).run Tryz.prog wr=_:=fun ty=>Lib.run_next_any_at wr w.heap.size s pos ty hit hp
      have hpos:wr.iterPos w.heap.size=pos:=by unfold World.iterPos;rw[hit]
      have HN:=zb (HS.out.next (pos+(Utf8.decode s pos).2))
      have hwd:1<=(Utf8.decode s pos).2/\pos+(Utf8.decode s pos).2<=s.size:=by
       by_cases ha:(s[pos]'hp).toNat<128
       . rw[decode_ascii s pos hp ha];exact⟨Nat.le_refl _,hp⟩
       . have:=wU s pos hp (by omega);exact⟨this.2.1,this.1⟩
      by_cases he:pos<en
      . have g3:decide ((pos:Int)<(en:Int))=true:=decide_eq_true (by omega);have g4:decide (pos<en)=true:=decide_eq_true he;obtain⟨h1,h2⟩:=HK.out.skip hp he;have HK2:=zb h1;have hw1:(Utf8.decode s pos).2=1:=by rw[decode_ascii s pos hp h2]
        rw[hw1] at hnx HN hwd;clear hw1 h1 h2 HK he;generalize (Utf8.decode s pos).1=x at *;generalize wr.iterAt w.heap.size s (pos+1)=w2 at *;have hp2:w2.iterPos w.heap.size=pos+1:=by unfold World.iterPos;rw[HN.out.1]
        go_wp2_with fail
        go_roundw
        case rel=>exact⟨T,pos+1,en,vt,rfl,by omega,by go_num,hen,by omega,HN,HK2⟩
        case measure=>rw[hp2,hpos];omega
      . have g3:decide ((pos:Int)<(en:Int))=false:=decide_eq_false (by omega);have g4:decide (pos<en)=false:=decide_eq_false he;have hx:=rune_of s pos hp;obtain⟨_,_,_,_,_,h32,h10⟩:=hx.same;cases hbl:isBlank (s[pos]'hp) with
        | true =>
         have HK2:=zb (HK.out.blank hp he hbl);have hlt:(s[pos]'hp).toNat<128:=by
          unfold isBlank at hbl;simp only[Bool.or_eq_true,decide_eq_true_eq] at hbl;rcases hbl with h | h <;> (rw[h];decide)
         have hor:decide ((s[pos]'hp)=32)=true∨(decide ((s[pos]'hp)=32)=false/\decide ((s[pos]'hp)=10)=true):=by
          unfold isBlank at hbl;cases hd:decide ((s[pos]'hp)=32) with
          | true=>exact .inl rfl
          | false=>rw[hd,Bool.false_or] at hbl;exact .inr ⟨rfl,hbl⟩
         have hw1:(Utf8.decode s pos).2=1:=by rw[decode_ascii s pos hp hlt]
         rw[hw1] at hnx HN hwd;clear hw1 hx HK hlt he hbl;generalize (Utf8.decode s pos).1=x at *;generalize wr.iterAt w.heap.size s (pos+1)=w2 at *;have hp2:w2.iterPos w.heap.size=pos+1:=by unfold World.iterPos;rw[HN.out.1]
         rcases hor with h1 | ⟨h1,h2⟩
         . rw[h1] at h32;clear h1 h10
           go_wp2_with fail
           go_roundw
           case rel=>exact⟨T,pos+1,en,vt,rfl,by omega,by go_num,hen,by omega,HN,HK2⟩
           case measure=>rw[hp2,hpos];omega
         . rw[h1] at h32;rw[h2] at h10;clear h1 h2
           go_wp2_with fail
           go_roundw
           case rel=>exact⟨T,pos+1,en,vt,rfl,by omega,by go_num,hen,by omega,HN,HK2⟩
           case measure=>rw[hp2,hpos];omega
        | false =>
         have hor:decide ((s[pos]'hp)=32)=false/\decide ((s[pos]'hp)=10)=false:=by
          unfold isBlank at hbl;exact⟨(Bool.or_eq_false_iff.1 hbl).1,(Bool.or_eq_false_iff.1 hbl).2⟩
         rw[hor.1] at h32;rw[hor.2] at h10;have HRD:Hid (∀ W,Syms W->Calls Tryz.prog 68 #[.string (s.extract pos s.size),.int .i32 (Utf8.decode s pos).1] W (OneIs (oneV (s.data.toList.drop pos)) W)):=zb (fun W hW=>by
          have h9:=lex_read (s.extract pos s.size) (Utf8.decode s pos).1 W (by rw[ByteArray.size_extract];omega) hW (s[pos]'hp) (s.data.toList.drop (pos+1)) (by rw[uN];exact yk s pos hp) hx;rw[uN] at h9;exact h9)
         have HTK:=zb (fun (t:TK) (n:Nat) (ht:oneV (s.data.toList.drop pos)=.tok t n)=>HK.out.tok hp he hbl ht);have HER:=zb (fun (e:Int) (ht:oneV (s.data.toList.drop pos)=.err e)=>(show LexV s.data.toList=.bad e pos/\(e=2∨e=20) from⟨HK.out.err hs hp he hbl ht,by rw[yk s pos hp] at ht;exact oneV_bad hbl ht⟩))
         have HW1:=zb (fun (ha:(s[pos]'hp).toNat<128)=>(show(Utf8.decode s pos).2=1 by rw[decode_ascii s pos hp ha]));have HSY:=zb (HY.out.below HN.out.2.2);generalize oneV (s.data.toList.drop pos)=rr at *;have g5:(pos:Int)<=(s.size:Int):=by omega
         clear hor hx HK hbl he;generalize (Utf8.decode s pos).1=x at *;generalize (Utf8.decode s pos).2=k at *;generalize wr.iterAt w.heap.size s (pos+k)=w2 at *
         go_wp2_with fail
         refine(HRD.out _ HSY.out).mono ?_;rintro e W1 ho;obtain⟨t,n,er,rfl,hb1,hor⟩:=qg ho;obtain⟨tk,tt,tn⟩:=t;have HN1:=zb (HN.out.below hb1);clear ho hb1 HRD HSY HN;unfold tokAgg;rcases hor with⟨rfl,hrr⟩ | ⟨hrr,_,_⟩
         . obtain⟨h1,h2,h3,h4⟩:=HTK.out _ _ hrr;have hk1:=HW1.out h2;have HK2:=zb h1;subst hk1;clear hrr h1 h2 HTK HER HW1;have E1:wrap64 ((pos:Int)+(n:Int))=((pos+n:Nat):Int):=by unfold wrap64;omega
           have HBX:Hid (TokBox (W1.alloc (.cells #[.int .i64 tk,.int .i64 (pos:Int),.string ⟨tt.toArray⟩,.int .i64 tn] 69 (0,0))) W1.heap.size tk pos ⟨tt.toArray⟩ tn):=zb (zA W1 _ _ rfl);have HN1a:=zb (HN1.out.below (zj (w:=W1) (.cells #[.int .i64 tk,.int .i64 (pos:Int),.string ⟨tt.toArray⟩,.int .i64 tn] 69 (0,0))))
           go_upto_region 13 with fail
           generalize W1.alloc (.cells #[.int .i64 tk,.int .i64 (pos:Int),.string ⟨tt.toArray⟩,.int .i64 tn] 69 (0,0))=w5 at *;generalize W1.heap.size=bx at *;obtain⟨c0,c1,c2,c3,_⟩:=HBX.out.cells;have hbl:=zp HBX.out;have hown:Hid ((w5.alloc (.cells #[.int .i64 tk,.int .i64 (pos:Int),.string ⟨tt.toArray⟩,.int .i64 tn] 69 (0,0))).ownsRow w.heap.size 69 4 vt T.length (tokCells T)):=zb (World.ownsRow.alloc HN1a.out.2.1 _);have hsrc:=zb (sW w5 tk (pos:Int) tn ⟨tt.toArray⟩);have hone:=zb (zgZ tk (pos:Int) tn ⟨tt.toArray⟩);have hbw:w.heap.size<=(w5.alloc (.cells #[.int .i64 tk,.int .i64 (pos:Int),.string ⟨tt.toArray⟩,.int .i64 tn] 69 (0,0))).heap.size:=by have:=HN1a.out.lt;simp;omega
           have HN2:=zb (HN1a.out.below (zj (.cells #[.int .i64 tk,.int .i64 (pos:Int),.string ⟨tt.toArray⟩,.int .i64 tn] 69 (0,0))))
           go_wp2_with (at_builtin;refine wpList_append_own_at _ rfl (.tmp 47) (.tmp 49) 60 rfl w.heap.size 69 i0 _ 4 40 Tryz.underlying60 hi0 hz0 hz1 hz2 rfl (by decide) _ _ _ rfl hown.out ⟨w5.heap.size,0,none⟩ 1 1 [.int .i64 tk,.int .i64 (pos:Int),.string ⟨tt.toArray⟩,.int .i64 tn] rfl rfl hsrc.out hone.out (by unfold maxLen;omega) (by omega) hbw ?_)
           intro v1 w4 hown1 hgr1 hnn1 hat1;have HN3:=zb (HN2.out.push hgr1 hown1);clear hown1 hgr1 hnn1 hat1 hown hsrc hone hbw HN2 HN1 HN1a c0 c1 c2 c3 hbl HBX;have hp2:w4.iterPos w.heap.size=pos+1:=by unfold World.iterPos;rw[HN3.out.1]
           go_wp2_with fail
           go_roundw
           case rel=>exact⟨T++[(⟨tk,tt,tn⟩,pos)],pos+1,pos+n,v1,rfl,by omega,by first | rfl | (rw[E1]),by omega,by rw[List.length_append];simp;omega,HN3,HK2⟩
           case measure=>rw[hp2,hpos];omega
         . obtain⟨h1,h2⟩:=HER.out _ hrr;have HE:=zb h1;have B1:(er != 0)=true:=by rw[bne_iff_ne];omega
           clear hrr h1 HTK HER HW1
           go_wp2_with fail
           exact bodyPost_ret (v:=.tuple #[.slice none 0 0,.int .i64 er,.int .i64 (pos:Int)]) (by simp [results, Tryz.results32,go_sem]) rfl (sk HE.out (HN1.out.2.2.alloc HN1.out.2.2.size _))
    . have hnx:∀ ty,(Instr.next (.pointer (some ⟨w.heap.size,0,none⟩)) true ty).run Tryz.prog wr=_:=fun ty=>Lib.run_next_end_at wr w.heap.size s pos ty hit hp
      obtain rfl:pos=s.size:=by omega
      have HE:=zb (HK.out.stop hs);have hown:Hid ((wr.alloc (.cells #[.int .i64 0,.int .i64 (s.size:Int),.string ⟨#[]⟩,.int .i64 0] 69 (0,0))).ownsRow w.heap.size 69 4 vt T.length (tokCells T)):=zb (World.ownsRow.alloc HS.out.2.1 _);have hsrc:=zb (sW wr 0 (s.size:Int) 0 ⟨#[]⟩);have hone:=zb (zgZ 0 (s.size:Int) 0 ⟨#[]⟩);have hbw:w.heap.size<=(wr.alloc (.cells #[.int .i64 0,.int .i64 (s.size:Int),.string ⟨#[]⟩,.int .i64 0] 69 (0,0))).heap.size:=by have:=HS.out.lt;simp;omega
      have HN2:=zb (HS.out.below (zj (.cells #[.int .i64 0,.int .i64 (s.size:Int),.string ⟨#[]⟩,.int .i64 0] 69 (0,0))));clear hit HK HS
      go_wp2_with (at_builtin;refine wpList_append_own_at _ rfl (.tmp 54) (.tmp 58) 60 rfl w.heap.size 69 i0 _ 4 40 Tryz.underlying60 hi0 hz0 hz1 hz2 rfl (by decide) _ _ _ rfl hown.out ⟨wr.heap.size,0,none⟩ 1 1 [.int .i64 0,.int .i64 (s.size:Int),.string ⟨#[]⟩,.int .i64 0] (by first | rfl | simp) rfl hsrc.out hone.out (by unfold maxLen;omega) (by omega) hbw ?_)
      intro v1 w4 hown1 hgr1 hnn1 hat1;have HN3:=zb (HN2.out.push (x:=[]) hgr1 hown1);clear hown1 hgr1 hnn1 hat1 hown hsrc hone hbw HN2
      go_wp2_with fail
      exact bodyPost_ret (v:=.tuple #[v1,.int .i64 0,.int .i64 0]) (by simp [results, Tryz.results32,go_sem]) rfl (zd2 HE.out HN3.out.2.1 HN3.out.2.2)
end
section
open Go.RowKit
def YesMade (b:Bool) (w:World) (e:Ending) (w':World):Prop:=e=.returned (.bool b)/\Below w.heap.size w w'
def isNam (l:List UInt8):Bool:=l.head?.any isLow&&decide ((nameOf l).length=l.length)&&!isKey l
theorem rj (s:ByteArray) (w:World):Calls Tryz.prog 144 #[.string s] w (YesMade (isNam s.data.toList) w):=by
 by_cases h0:0<s.size
 . have e0:s.toList.isEmpty=false:=by
    rw[yq,List.isEmpty_eq_false_iff];intro h9;have h8:s.size=0:=congrArg List.length h9;omega
   have e1:(s.toList == [])=false:=by rw[beq_eq_false_iff_ne];intro h9;rw[h9] at e0;cases e0
   have hl:s.data.toList.length=s.size:=rfl;have hix:=fun W=>wC s 0 h0 0 rfl W;have HE:Hid (isNam s.data.toList=(isLow s[0]&&decide ((nameOf s.data.toList).length=s.size)&&!isKey s.data.toList)):=zb (by
    unfold isNam;rw[uV s h0];rfl)
   have HN:=zb (fun W=>yQ s W);have HK:=zb (fun W=>ur s W);generalize isNam s.data.toList=b at *;generalize isKey s.data.toList=kb at *;generalize (nameOf s.data.toList).length=n at *;generalize s[0]=c at *;have HL:=zb (fun W=>zbt c.toNat W);rw[low_at] at HL;generalize isLow c=lb at *;have E1:IntKind.i32.wrap (c.toNat:Int)=(c.toNat:Int):=by rw[IntKind.wrap_i32];have:=c.toNat_lt;omega
   clear hl
   go_enter Tryz.func144, Tryz.ntmps144
   go_wp2_with fail
   refine(HL.out _).mono ?_;rintro e w' ⟨rfl,rfl⟩;cases lb with
   | false =>
    go_wp2_with fail
    go_ret;exact⟨by rw[HE.out];rfl,Below.refl _ _⟩
   | true =>
    clear HL hix
    go_wp2_with fail
    refine(HN.out _).mono ?_;rintro e w1 ⟨rfl,hb1⟩;have HB:=zb hb1;clear hb1 HN;by_cases hn:n=s.size
    . have B1:((n:Int) == (s.size:Int))=true:=by rw[beq_iff_eq];omega
      have B2:(n == s.size)=true:=by rw[beq_iff_eq];exact hn
      have HE2:Hid (b = !kb):=zb (by rw[HE.out,decide_eq_true hn];rfl);clear hn
      go_wp2_with fail
      refine(HK.out _).mono ?_;rintro e w' ⟨rfl,rfl⟩
      go_wp2_with fail
      go_ret;exact⟨by rw[HE2.out];rfl,HB.out⟩
    . have B1:((n:Int) == (s.size:Int))=false:=by rw[beq_eq_false_iff_ne];omega
      have B2:(n == s.size)=false:=by rw[beq_eq_false_iff_ne];exact hn
      have HE2:Hid (b=false):=zb (by rw[HE.out,decide_eq_false hn];rfl);clear hn
      go_wp2_with fail
      go_ret;exact⟨by rw[HE2.out];rfl,HB.out⟩
 . have e0:s.toList.isEmpty=true:=by
    rw[yq,List.isEmpty_iff];exact List.eq_nil_of_length_eq_zero (by show s.size=0;omega)
   have e1:(s.toList == [])=true:=by rw[beq_iff_eq,← List.isEmpty_iff];exact e0
   have HE:Hid (isNam s.data.toList=false):=zb (by rw[wf s h0];rfl)
   go_enter Tryz.func144, Tryz.ntmps144
   go_wp2_with fail
   go_ret;exact⟨by rw[HE.out];rfl,Below.refl _ _⟩
end
section
open Go.RowKit
theorem za7 {l:List UInt8} {X:List (TK×Nat)} (h:lexGo 0 0 l=.ok X) (hl:l.length<=4096):LexV l=.ok (X++[(⟨0,[],0⟩,l.length)]):=by
 unfold LexV;rw[if_neg (by omega),h]
theorem tG (l:List UInt8):(∃ X,LexV l=.ok (X++[(⟨0,[],0⟩,l.length)])/\lexGo 0 0 l=.ok X/\l.length<=4096)∨(LexV l=.bad 4 0/\4096<l.length)∨∃ e q,LexV l=.bad e q/\lexGo 0 0 l=.bad e q/\l.length<=4096/\(e=2∨e=20)/\q<l.length:=by
 by_cases hb:4096<l.length
 . exact .inr (.inl ⟨uJ hb,hb⟩)
 . cases hg:lexGo 0 0 l with
   | ok X=>exact .inl ⟨X,za7 hg (by omega),rfl,by omega⟩
   | bad e q =>
    obtain⟨_,h2,h3⟩:=zaj 0 l e q hg;refine .inr (.inr ⟨e,q,?_,rfl,by omega,h3,by omega⟩);unfold LexV;rw[if_neg hb,hg]
def LexOut (l:List UInt8) (B:Nat) (v:Value) (er:Int) (q:Nat) (w':World):Prop :=
 (er=0/\q=0/\l.length<=4096/\∃ X,lexGo 0 0 l=.ok X/\TokRow B w' v (X++[(⟨0,[],0⟩,l.length)])) ∨
 (v=.slice none 0 0/\((er=4/\q=0/\4096<l.length)∨(l.length<=4096/\(er=2∨er=20)/\q<l.length/\lexGo 0 0 l=.bad er q)))
theorem lex_out (s:ByteArray) (w:World) (hy:Syms w):Calls Tryz.prog 32 #[.string s] w (fun e w'=>∃ v er q,e=.returned (.tuple #[v,.int .i64 er,.int .i64 (q:Nat)])/\Below w.heap.size w w'/\LexOut s.data.toList w.heap.size v er q w'):=by
 refine(lex_Lex s w hy).mono ?_;intro e w' h;rcases tG s.data.toList with⟨X,h1,h2,h3⟩ | ⟨h1,h2⟩ | ⟨er,q,h1,h2,h3,h4,h5⟩
 . rw[h1] at h;obtain⟨v,rfl,hr,hb⟩:=h;exact⟨v,0,0,rfl,hb,.inl ⟨rfl,rfl,h3,X,h2,hr⟩⟩
 . rw[h1] at h;obtain⟨rfl,hb⟩:=h;exact⟨_,4,0,rfl,hb,.inr ⟨rfl,.inl ⟨rfl,rfl,h2⟩⟩⟩
 . rw[h1] at h;obtain⟨rfl,hb⟩:=h;exact⟨_,er,q,rfl,hb,.inr ⟨rfl,.inr ⟨h3,h4,h5,h2⟩⟩⟩
theorem lexGo_len (p:Nat) (l:List UInt8):∀ T,lexGo p 0 l=.ok T->T.length<=l.length:=by
 refine yu (fun p l=>∀ T,lexGo p 0 l=.ok T->T.length<=l.length) ?_ ?_ ?_ ?_ l.length p l (Nat.le_refl _)
 . intro p T h;obtain rfl:[]=T:=LR.ok.inj h;simp
 . intro p c r hc ih T h;rw[zN hc] at h;have:=ih T h;rw[List.length_cons];omega
 . intro p c r e hc h T hT;rw[yi hc _ h] at hT;cases hT
 . intro p c r t n hc h ih T hT;rw[zY hc _ h] at hT;obtain⟨U,hU,rfl⟩:=LR.add_ok hT;obtain⟨_,h2,h3,_⟩:=yG h;have:=ih U hU;rw[List.length_drop] at this;rw[List.length_append,List.length_singleton];omega
theorem lexGo_pos (p:Nat) (l:List UInt8):∀ T,lexGo p 0 l=.ok T->∀ x∈T,p<=x.2/\x.2<p+l.length:=by
 refine yu (fun p l=>∀ T,lexGo p 0 l=.ok T->∀ x∈T,p<=x.2/\x.2<p+l.length) ?_ ?_ ?_ ?_ l.length p l (Nat.le_refl _)
 . intro p T h x hx;obtain rfl:[]=T:=LR.ok.inj h;cases hx
 . intro p c r hc ih T h x hx;rw[zN hc] at h;have:=ih T h x hx;rw[List.length_cons];omega
 . intro p c r e hc h T hT;rw[yi hc _ h] at hT;cases hT
 . intro p c r t n hc h ih T hT x hx;rw[zY hc _ h] at hT;obtain⟨U,hU,rfl⟩:=LR.add_ok hT;obtain⟨_,h2,h3,_⟩:=yG h;rcases List.mem_append.1 hx with hx | hx
   . obtain rfl:=List.mem_singleton.1 hx;exact⟨Nat.le_refl _,by rw[List.length_cons];show p<_;omega⟩
   . have:=ih U hU x hx;rw[List.length_drop] at this;omega
end
section
open Go.RowKit
theorem zbM {l:List UInt8}:∀{m n:Int},0<=m->m<=4611686018427387903->l.all isDig=true->readGo m l=some n->0<=n/\n<=4611686018427387903:=by
 induction l with
 | nil=>intro m n hm h0 _ h;rw[readGo] at h;cases h;exact⟨hm,h0⟩
 | cons c r ih =>
  intro m n hm h0 ha h;rw[List.all_cons,Bool.and_eq_true] at ha;obtain⟨_,h1,h2⟩:=zcP c ha.1;rw[readGo] at h
  split at h
  . cases h
  . exact ih (by omega) (by omega) ha.2 h
theorem vH (l:List UInt8):0<=(ReadV l).1/\(ReadV l).1<=4611686018427387903:=by
 unfold ReadV
 split
 . rename_i hn
   split
   . rename_i m hm;unfold isNum at hn;rw[Bool.and_eq_true] at hn;exact zbM (by omega) (by omega) hn.1 hm
   . exact⟨by decide,by decide⟩
 . exact⟨by decide,by decide⟩
structure Small (b:Nat) (t:TK):Prop where
 len:t.text.length<=b
 lo:0<=t.n
 hi:t.n<=4611686018427387903
theorem Small.mono {b c:Nat} {t:TK} (h:Small b t) (hb:b<=c):Small c t:=⟨Nat.le_trans h.len hb,h.lo,h.hi⟩
theorem zdP {l:List UInt8} {t:TK} {n:Nat} (h:oneV l=.tok t n):Small l.length t:=by
 have ht:=yG h;cases l with
 | nil=>cases h
 | cons c r =>
  have hnl:=yz (c::r);rw[zC] at h
  split at h
  . obtain⟨rfl,_⟩:=OneR.tok.inj h;exact⟨hnl,by show(0:Int)<=0;decide,by show(0:Int)<=_;decide⟩
  . split at h
    . obtain⟨rfl,_⟩:=OneR.tok.inj h;exact⟨hnl,by show(0:Int)<=0;decide,by show(0:Int)<=_;decide⟩
    . split at h
      . unfold tagTok at h
        split at h
        . obtain⟨rfl,_⟩:=OneR.tok.inj h;have:=yz r;exact⟨by show(nameOf r).length<=_;rw[List.length_cons];omega,by show(0:Int)<=0;decide,by show(0:Int)<=_;decide⟩
        . cases h
      . split at h
        . unfold intTok at h
          split at h
          . obtain⟨rfl,_⟩:=OneR.tok.inj h;have:=vH (nameOf (c::r));exact⟨Nat.zero_le _,this.1,this.2⟩
          . cases h
        . split at h
          . unfold strTok at h
            split at h
            . obtain⟨rfl,rfl⟩:=OneR.tok.inj h;obtain⟨h1,h2,_⟩:=ht;have h3:=congrArg List.length h1;rw[List.length_take] at h3;have h4:tokText ⟨5,(UnqV ((c::r).take (qsize (c::r)))).1,0⟩=qall (UnqV ((c::r).take (qsize (c::r)))).1:=rfl;rw[h4] at h3;have h5:=uq (UnqV ((c::r).take (qsize (c::r)))).1;have h6:∀ z:List UInt8,(qall z).length=(qbody z).length+2:=fun z=>by simp [qall]
              rw[h6] at h3;exact⟨by show(UnqV ((c::r).take (qsize (c::r)))).1.length<=_;omega,by show(0:Int)<=0;decide,by show(0:Int)<=_;decide⟩
            . cases h
          . unfold signTok at h
            split at h
            . rename_i s hs;obtain⟨rfl,rfl⟩:=OneR.tok.inj h;have h2:=ht.2.1;exact⟨h2,by show(0:Int)<=0;decide,by show(0:Int)<=_;decide⟩
            . cases h
theorem zbQ (b p:Nat) (l:List UInt8):∀ T,l.length<=b->lexGo p 0 l=.ok T->∀ x∈T,Small b x.1:=by
 refine yu (fun p l=>∀ T,l.length<=b->lexGo p 0 l=.ok T->∀ x∈T,Small b x.1) ?_ ?_ ?_ ?_ l.length p l (Nat.le_refl _)
 . intro p T _ h x hx;obtain rfl:[]=T:=LR.ok.inj h;cases hx
 . intro p c r hc ih T hl h x hx;rw[zN hc] at h;rw[List.length_cons] at hl;exact ih T (by omega) h x hx
 . intro p c r e hc h T _ hT;rw[yi hc _ h] at hT;cases hT
 . intro p c r t n hc h ih T hl hT x hx;rw[zY hc _ h] at hT;obtain⟨U,hU,rfl⟩:=LR.add_ok hT;rcases List.mem_append.1 hx with hx | hx
   . obtain rfl:=List.mem_singleton.1 hx;exact(zdP h).mono hl
   . exact ih U (by rw[List.length_drop];omega) hU x hx
end
