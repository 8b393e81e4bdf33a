/-
  Plain facts: what binds more is read first; sums and products from the left, the others from the right.
-/
import Derived.Test.YtigbapkdpaahjaaGreatDoorGPure
namespace Go.Proofs.YtigbapkdpaahjaaGreatDoor
set_option linter.unusedSimpArgs false
set_option linter.unusedVariables false
section
open Go.RowKit
def LM:Nat→Md
 | 0=>.seq
 | 1=>.asg
 | n+2=>.level n
def sg:Nat→List (List UInt8)
 | 0=>[sSemi]
 | 1=>[sAssign]
 | n+2=>signsOf n
def nk (n:Nat):Int:=if n=0 then 20 else if n=2 then 22 else if n=3 then 21 else 19
def nd (n:Nat) (t:Tok) (x y:Nd):Nd:=node (nk n) t [x,y]
def Rd (m:Md) (T:List Tok) (x:Nd) (R:List Tok):Prop:=∃ f,run f m T=.ok x R
theorem Rd.up {m:Md} {T R:List Tok} {x:Nd} (h:Rd m T x R):∃ f,∀ g,f≤g→run g m T=.ok x R:=by
 obtain⟨f,h⟩:=h
 exact⟨f,fun g hg=>by rw[sV hg m T (by rw[h];exact fun e=>by cases e),h]⟩
def St (T:List Tok):Prop:=∃ t T',T=t::T'∧isOne [sFun] t=false∧isOne [sLet,sMatch,sTry,sIf,sRaise] t=false
theorem sI {T R:List Tok} {x:Nd} (hs:St T) (h:Rd .asg T x R):Rd .item T x R:=by
 obtain⟨t,T',rfl,h1,h2⟩:=hs
 obtain⟨f,hf⟩:=h
 exact⟨f+1,by rw[zq];simp only[step,exec,h1,h2,Bool.false_eq_true,if_false,hf]⟩
theorem vy {n:Nat} (hn:n<5) {T U R:List Tok} {x y:Nd} (h:Rd (.level (n+1)) T x U) (h':Rd (.lvl n x) U y R):Rd (.level n) T y R:=by
 obtain⟨f,hf⟩:=h.up
 obtain⟨g,hg⟩:=h'.up
 exact⟨max f g+1,by rw[zq];simp only[step,if_neg (show ¬5≤n by omega),exec,hf _ (Nat.le_max_left _ _),hg _ (Nat.le_max_right _ _)]⟩
theorem zeT {n:Nat} {u:Tok} {Z:List Tok} {x:Nd} (hu:isOne (signsOf n) u=false):Rd (.lvl n x) (u::Z) x (u::Z) :=
 ⟨1,by rw[zq];simp only[step,exec,hu,Bool.false_eq_true,if_false]⟩
theorem rd_left {n:Nat} (hn:3≤n) {t:Tok} {Z U R:List Tok} {x y z:Nd} (ht:isOne (signsOf n) t=true) (h:Rd (.level (n+1)) Z y U) (h':Rd (.lvl n (node 19 t [x,y])) U z R):Rd (.lvl n x) (t::Z) z R:=by
 obtain⟨f,hf⟩:=h.up
 obtain⟨g,hg⟩:=h'.up
 exact⟨max f g+1,by rw[zq];simp only[step,exec,ht,if_true,if_neg (show ¬n=2 by omega),if_neg (show ¬n<2 by omega),hf _ (Nat.le_max_left _ _),hg _ (Nat.le_max_right _ _)]⟩
theorem zeX {n:Nat} (hn:n≤6) {T Z:List Tok} {u:Tok} {x:Nd} (hs:St T) (h:Rd (LM (n+1)) T x (u::Z)) (hu:isOne (sg n) u=false):Rd (LM n) T x (u::Z):=by
 match n,hn,h,hu with
 | 0,_,h,hu =>
  obtain⟨f,hf⟩:=sI hs h
  exact⟨f+1,by show run (f+1) .seq T=_;rw[zq];simp only[step,exec,hf,show isOne [sSemi] u=false from hu,Bool.false_eq_true,if_false]⟩
 | 1,_,h,hu =>
  obtain⟨f,hf⟩:=h
  have hf:run f (.level 0) T=.ok x (u::Z):=hf
  exact⟨f+1,by show run (f+1) .asg T=_;rw[zq];simp only[step,exec,hf,show isOne [sAssign] u=false from hu,Bool.false_eq_true,if_false]⟩
 | n+2,hn,h,hu=>exact vy (by omega) h (zeT hu)
theorem zcL {T Z:List Tok} {u:Tok} {x:Nd} (hs:St T) {n:Nat}:∀(k:Nat),n+k≤7→Rd (LM (n+k)) T x (u::Z)→(∀ j,n≤j→j<n+k→isOne (sg j) u=false)→Rd (LM n) T x (u::Z)
 | 0,_,h,_=>h
 | k+1,hk,h,hu=>zcL hs k (by omega) (zeX (n:=n+k) (by omega) hs h (hu _ (by omega) (by omega))) (fun j h1 h2=>hu j h1 (by omega))
theorem rd_to {T Z:List Tok} {u:Tok} {x:Nd} (hs:St T) {n m:Nat} (hnm:n≤m) (hm:m≤7) (h:Rd (LM m) T x (u::Z)) (hu:∀ j,n≤j→j<m→isOne (sg j) u=false):Rd (LM n) T x (u::Z):=by
 obtain⟨k,rfl⟩:=Nat.le.dest hnm
 exact zcL hs k hm h hu
theorem rd_right {n:Nat} (hn:n≤3) {T Z R:List Tok} {t:Tok} {x y:Nd} (hs:St T) (hz:St Z) (h:Rd (LM (n+1)) T x (t::Z)) (ht:isOne (sg n) t=true) (h':Rd (LM n) Z y R):Rd (LM n) T (nd n t x y) R:=by
 match n,hn,h,ht,h' with
 | 0,_,h,ht,h' =>
  obtain⟨f,hf⟩:=(sI hs h).up
  obtain⟨g,hg⟩:=h'.up
  have hg:∀ k,g≤k→run k .seq Z=.ok y R:=hg
  exact⟨max f g+1,by show run (max f g+1) .seq T=_;rw[zq];simp only[step,exec,hf _ (Nat.le_max_left _ _),show isOne [sSemi] t=true from ht,if_true,hg _ (Nat.le_max_right _ _)];rfl⟩
 | 1,_,h,ht,h' =>
  obtain⟨f,hf⟩:=h.up
  have hf:∀ k,f≤k→run k (.level 0) T=.ok x (t::Z):=hf
  obtain⟨g,hg⟩:=(sI hz h').up
  exact⟨max f g+1,by show run (max f g+1) .asg T=_;rw[zq];simp only[step,exec,hf _ (Nat.le_max_left _ _),show isOne [sAssign] t=true from ht,if_true,hg _ (Nat.le_max_right _ _)];rfl⟩
 | 2,_,h,ht,h' =>
  obtain⟨g,hg⟩:=h'
  have hg:run g (.level 0) Z=.ok y R:=hg
  exact vy (n:=0) (by omega) h ⟨g+1,by rw[zq];simp only[step,exec,show isOne (signsOf 0) t=true from ht,if_true,if_neg (show ¬(0:Nat)=2 by omega),if_pos (show(0:Nat)<2 by omega),hg];rfl⟩
 | 3,_,h,ht,h' =>
  obtain⟨g,hg⟩:=h'
  have hg:run g (.level 1) Z=.ok y R:=hg
  exact vy (n:=1) (by omega) h ⟨g+1,by rw[zq];simp only[step,exec,show isOne (signsOf 1) t=true from ht,if_true,if_neg (show ¬(1:Nat)=2 by omega),if_pos (show(1:Nat)<2 by omega),hg];rfl⟩
theorem rd_cmp {T Z R:List Tok} {t:Tok} {x y:Nd} (h:Rd (LM 5) T x (t::Z)) (ht:isOne (sg 4) t=true) (h':Rd (LM 5) Z y R):Rd (LM 4) T (nd 4 t x y) R:=by
 obtain⟨g,hg⟩:=h'
 have hg:run g (.level 3) Z=.ok y R:=hg
 exact vy (n:=2) (by omega) h ⟨g+1,by rw[zq];simp only[step,exec,show isOne (signsOf 2) t=true from ht,if_true,hg];rfl⟩
theorem rd_bin {n:Nat} (hn:n≤6) {T Z R:List Tok} {t u:Tok} {x y:Nd} (hs:St T) (hz:St Z) (h:Rd (LM (n+1)) T x (t::Z)) (ht:isOne (sg n) t=true) (h':Rd (LM (n+1)) Z y (u::R)) (hu:isOne (sg n) u=false):Rd (LM n) T (nd n t x y) (u::R):=by
 by_cases h3:n≤3
 · exact rd_right h3 hs hz h ht (zeX hn hz h' hu)
 by_cases h4:n=4
 · subst h4
   exact rd_cmp h ht h'
 · obtain⟨m,rfl⟩:∃ m,n=m+2:=⟨n-2,by omega⟩
   have e:nd (m+2) t x y=node 19 t [x,y]:=by
    unfold nd nk
    rw[if_neg (by omega),if_neg (by omega),if_neg (by omega)]
   rw[e]
   exact vy (by omega) h (rd_left (by omega) ht h' (zeT hu))
structure SgAt (i:Nat) (t:Tok):Prop where
 le:i≤6
 one:isOne (sg i) t=true
 other:∀ j,j≤6→j≠i→isOne (sg j) t=false
 stops:Stops t
def NoSg (u:Tok):Prop:=∀ j,j≤6→isOne (sg j) u=false
structure Opd (W:List Tok) (x:Nd):Prop where
 st:∀ Z,St (W++Z)
 reads:∀ u Z,Stops u→Rd .unary (W++u::Z) x (u::Z)
theorem Opd.top {W Z:List Tok} {x:Nd} {u:Tok} (h:Opd W x) (hu:Stops u):Rd (LM 7) (W++u::Z) x (u::Z):=by
 obtain⟨f,hf⟩:=h.reads u Z hu
 exact⟨f+1,by show run (f+1) (.level 5) _=_;rw[zq];simp only[step,if_pos (Nat.le_refl 5),exec,hf]⟩
theorem Opd.at_ {W Z:List Tok} {x:Nd} {u:Tok} (h:Opd W x) (hu:Stops u) {n:Nat} (hn:n≤7) (hs:∀ j,n≤j→j<7→isOne (sg j) u=false):Rd (LM n) (W++u::Z) x (u::Z):=rd_to (h.st _) hn (Nat.le_refl _) (h.top hu) hs
section
variable {A B C R : List Tok} {a b c : Nd} {i k : Nat} {s t u : Tok}
theorem two_at (hA:Opd A a) (hB:Opd B b) (hs:SgAt i s) (hu:Stops u) (hn:∀ j,i≤j→j≤6→isOne (sg j) u=false):Rd (LM i) (A++s::(B++u::R)) (nd i s a b) (u::R) :=
 rd_bin hs.le (hA.st _) (hB.st _) (hA.at_ hs.stops (by have:=hs.le;omega) fun j h1 h2=>hs.other j (by omega) (by omega)) hs.one (hB.at_ hu (by have:=hs.le;omega) fun j h1 h2=>hn j (by omega) (by omega)) (hn i (Nat.le_refl _) hs.le)
theorem two_from (hA:Opd A a) (hB:Opd B b) (hs:SgAt i s) (hu:Stops u) {n:Nat} (hni:n≤i) (hn:∀ j,n≤j→j≤6→isOne (sg j) u=false):Rd (LM n) (A++s::(B++u::R)) (nd i s a b) (u::R) :=
 rd_to (hA.st _) hni (by have:=hs.le;omega) (two_at hA hB hs hu fun j h1 h2=>hn j (by omega) h2) fun j h1 h2=>hn j h1 (by have:=hs.le;omega)
end
end
section
open Go.RowKit
def LexE (l:List UInt8) (E:List Tok):Prop:=∀ p,∃ U,lexGo p 0 l=.ok U∧U.map er=E
theorem lexE_of {l:List UInt8} {X:List Tok} (h:lexGo 0 0 l=.ok X):LexE l (X.map er):=fun p=>by
 have h1:=zcm p 0 l
 rw[h,Nat.zero_add] at h1
 exact⟨_,h1,zc6 p X⟩
theorem lexE_nil:LexE [] []:=fun p=>⟨[],zaD _ _,rfl⟩
def bsigns:List (List UInt8):=[sSemi,sAssign,sOr,sAnd,sEq,sLess,sPlus,sMinus,sTimes,sOver,sRem]
def blevs:List Nat:=[0,1,2,3,4,4,5,5,6,6,6]
def bsign (i:Nat):List UInt8:=bsigns[i]?.getD []
def blev (i:Nat):Nat:=blevs[i]?.getD 0
abbrev bT (i:Nat):Tok:=(⟨7,bsign i,0⟩,0)
theorem bsign_one {i:Nat} (h:i<11):oneV (bsign i)=.tok ⟨7,bsign i,0⟩ (bsign i).length∧∃ c r,bsign i=c::r∧isBlank c=false:=by
 have:i=0∨i=1∨i=2∨i=3∨i=4∨i=5∨i=6∨i=7∨i=8∨i=9∨i=10:=by omega
 rcases this with rfl | rfl | rfl | rfl | rfl | rfl | rfl | rfl | rfl | rfl | rfl
 all_goals exact⟨by kernel_rfl,_,_,rfl,by decide⟩
theorem sgAt {i:Nat} (h:i<11):SgAt (blev i) (bT i):=by
 have:i=0∨i=1∨i=2∨i=3∨i=4∨i=5∨i=6∨i=7∨i=8∨i=9∨i=10:=by omega
 rcases this with rfl | rfl | rfl | rfl | rfl | rfl | rfl | rfl | rfl | rfl | rfl
 all_goals
  refine⟨by decide,by decide,fun j hj hn=>?_,⟨by decide,by decide⟩⟩
  have:j=0∨j=1∨j=2∨j=3∨j=4∨j=5∨j=6:=by omega
  rcases this with rfl | rfl | rfl | rfl | rfl | rfl | rfl
  all_goals first | decide | exact absurd rfl hn
theorem zb4 {l:List UInt8} {E:List Tok} {y:Nd} (hE:LexE l E) (hl:l.length≤4096) (h:Rd .seq (E++[endT 0]) y [endT 0]):∃ x,x.er=y∧ParseV l=treeV x:=by
 obtain⟨X,hX,e⟩:=hE 0
 obtain⟨f,hf⟩:=h
 have h1:run (f+1) .text (E++[endT 0])=.ok y [endT 0]:=by
  rw[zq]
  simp only[step,exec,hf,show isKind 0 (endT 0)=true from rfl,if_true]
 have h2:=zaF (f+1) .text (X++[endT l.length])
 have hm:(X++[endT l.length]).map er=E++[endT 0]:=by rw[List.map_append,e];rfl
 rw[hm] at h2
 have h2:run (f+1) .text (E++[endT 0])=(run (f+1) .text (X++[endT l.length])).er:=h2
 rw[h1] at h2
 cases hx:run (f+1) .text (X++[endT l.length]) with
 | ok x R =>
  rw[hx] at h2
  have h3:=(PR.ok.inj h2).1
  have h4:=tokV_of (zdT (qh hX) l.length) hx (fun h=>by cases h)
  refine⟨x,h3.symm,?_⟩
  unfold ParseV
  rw[za7 hX hl]
  show(match tokV (X++[endT l.length]) with | .ok x _=>treeV x | .bad R=>PV.bad 21 ((R.head?.map (·.2)).getD 0) | .out=>.bad 0 0)=treeV x
  rw[h4]
 | bad R=>rw[hx] at h2;cases h2
 | out=>rw[hx] at h2;cases h2
section
variable {a b c : List UInt8} {x y z : Nd} {i k : Nat} (ha : ParseV a = .ok x) (hb : ParseV b = .ok y) (hc : ParseV c = .ok z) (hi : i < 11) (hk : k < 11)
include ha hb hc hi hk
end
end
