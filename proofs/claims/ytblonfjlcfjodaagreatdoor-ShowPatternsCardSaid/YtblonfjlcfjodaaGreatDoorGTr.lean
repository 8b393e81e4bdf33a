/-
  Lex: the walks of the document's own letter, body, run, Words, I.
-/
import Derived.Test.YtblonfjlcfjodaaGreatDoorGDoc
namespace Go.Proofs.YtblonfjlcfjodaaGreatDoor
set_option linter.unusedSimpArgs false
set_option linter.unusedVariables false
set_option maxRecDepth 100000
set_option maxHeartbeats 2000000
section
open Go.RowKit
theorem zgK (c a b:Nat) (w:World):Calls Tryz.prog 124 #[.int .u8 c,.int .u8 a,.int .u8 b] w fun e w'=>e=.returned (.bool (decide (a<=c)&&decide (c<=b)))/\w=w':=by
 by_cases h1:a<=c
 . have g1:decide ((a:Int)<=(c:Int))=true:=decide_eq_true (by omega);have g2:decide ((c:Int)<=(b:Int))=decide (c<=b):=by rw[decide_eq_decide];omega
   have HE:=zb (show(decide (a<=c)&&decide (c<=b))=decide (c<=b) by simp [h1])
   go_enter Tryz.func124, Tryz.ntmps124
   go_wp2_with fail
   go_ret;exact⟨by rw[HE.out];rfl,rfl⟩
 . have g1:decide ((a:Int)<=(c:Int))=false:=decide_eq_false (by omega);have HE:=zb (show(decide (a<=c)&&decide (c<=b))=false by simp [h1])
   go_enter Tryz.func124, Tryz.ntmps124
   go_wp2_with fail
   go_ret;exact⟨by rw[HE.out];rfl,rfl⟩
theorem zfc (c:UInt8) (a b:Int) (a' b':Nat) (ha:a=a') (hb:b=b') (w:World):Calls Tryz.prog 124 #[.int .u8 c.toNat,.int .u8 a,.int .u8 b] w fun e w'=>e=.returned (.bool (decide (a'<=c.toNat)&&decide (c.toNat<=b')))/\w=w':=by
 subst ha hb;exact zgK c.toNat a' b' w
theorem zgR (c:UInt8):isBody c=((decide (97<=c.toNat)&&decide (c.toNat<=122))||(decide (65<=c.toNat)&&decide (c.toNat<=90))||(decide (48<=c.toNat)&&decide (c.toNat<=57))||decide (c.toNat=95)):=by
 unfold isBody isLow isUp isDig;cases (decide (97<=c.toNat)&&decide (c.toNat<=122)) <;> cases (decide (65<=c.toNat)&&decide (c.toNat<=90)) <;> cases (decide (48<=c.toNat)&&decide (c.toNat<=57)) <;> cases decide (c.toNat=95) <;> rfl
theorem zgr (c:UInt8):((c.toNat:Int) == 95)=decide (c.toNat=95):=by
 by_cases h:c.toNat=95
 . rw[decide_eq_true h,beq_iff_eq];omega
 . rw[decide_eq_false h,beq_eq_false_iff_ne];omega
theorem ref_body (c:UInt8) (w:World):Calls Tryz.prog 185 #[.int .u8 c.toNat] w fun e w'=>e=.returned (.bool (isBody c))/\w=w':=by
 have H1:=zb (fun W=>zfc c 97 122 97 122 rfl rfl W);have H2:=zb (fun W=>zfc c 65 90 65 90 rfl rfl W);have H3:=zb (fun W=>zfc c 48 57 48 57 rfl rfl W);have HE:=zb (zgR c);have hu:=zgr c;generalize isBody c=r at *;generalize (decide (97<=c.toNat)&&decide (c.toNat<=122))=b1 at *;generalize (decide (65<=c.toNat)&&decide (c.toNat<=90))=b2 at *;generalize (decide (48<=c.toNat)&&decide (c.toNat<=57))=b3 at *;generalize decide (c.toNat=95)=b4 at *
 go_enter Tryz.func185, Tryz.ntmps185
 go_wp2_with fail
 refine(H1.out _).mono ?_;rintro e w' ⟨rfl,rfl⟩;cases b1 with
 | true =>
  go_wp2_with fail
  go_ret;exact⟨by rw[HE.out];rfl,rfl⟩
 | false =>
  go_wp2_with fail
  refine(H2.out _).mono ?_;rintro e w' ⟨rfl,rfl⟩;cases b2 with
  | true =>
   go_wp2_with fail
   go_ret;exact⟨by rw[HE.out];rfl,rfl⟩
  | false =>
   go_wp2_with fail
   refine(H3.out _).mono ?_;rintro e w' ⟨rfl,rfl⟩;cases b3 with
   | true =>
    go_wp2_with fail
    go_ret;exact⟨by rw[HE.out];rfl,rfl⟩
   | false =>
    cases b4 with
    | true =>
     go_wp2_with fail
     go_ret;exact⟨by rw[HE.out];rfl,rfl⟩
    | false =>
     go_wp2_with fail
     go_ret;exact⟨by rw[HE.out];rfl,rfl⟩
theorem ref_run (s:ByteArray) (a:Nat) (w:World) (hs:s.size<=1000000) (ha:a<=s.size):Calls Tryz.prog 125 #[.string s,.int .i64 (a:Int)] w fun e w'=>e=.returned (.int .i64 ((a+(nameOf (s.data.toList.drop a)).length:Nat):Int))/\w=w':=by
 have HB:=zb (fun c W=>ref_body c W);have hl:s.data.toList.length=s.size:=rfl
 go_enter Tryz.func125, Tryz.ntmps125
 go_wp2_with fail
 go_loopw [1] (fun vi wr=>∃ p:Nat,a<=p/\p<=s.size/\vi=.int .i64 p/\wr=w/\Hid (((s.data.toList.drop a).take (p-a)).all isBody=true)) (fun vi _=>s.size-(intOf vi).toNat)
 case atStart=>exact⟨a,Nat.le_refl _,ha,rfl,rfl,zb (by rw[Nat.sub_self];rfl)⟩
 case round =>
  obtain⟨p,hap,hpl,rfl,rfl,HA⟩:=hrel;by_cases hp:p<s.size
  . have g1:decide ((p:Int)<(s.size:Int))=true:=decide_eq_true (by omega);have g2:(p:Int)<(s.size:Int):=by omega
    have g3:(0:Int)<=(p:Int):=by omega
    have hix:=fun W=>wC s p hp p rfl W;have hel:(s.data.toList.drop a)[p-a]'(by rw[List.length_drop];omega)=s[p]'hp:=by
     rw[List.getElem_drop];have:a+(p-a)=p:=by omega
     simp only[this];rfl
    have HNX:Hid (isBody (s[p]'hp)=true->((s.data.toList.drop a).take (p+1-a)).all isBody=true):=zb (fun h=>by
     rw[show p+1-a=(p-a)+1 by omega,List.take_succ_eq_append_getElem (by rw[List.length_drop];omega),List.all_append,HA.out,hel];simp [h])
    have HAT:Hid (isBody (s[p]'hp)=false->a+(nameOf (s.data.toList.drop a)).length=p):=zb (fun h=>by
     rw[zae (p:=p-a) HA.out (by rw[List.length_drop];omega) (by rw[hel];exact h)];omega)
    clear hel;generalize s[p]=c at *;clear hl
    go_wp2_with fail
    refine(HB.out c _).mono ?_;rintro e w' ⟨rfl,rfl⟩;cases hb:isBody c with
    | true =>
     have HN:=zb (HNX.out hb);clear hb
     go_wp2_with fail
     go_roundw
     case rel=>exact⟨p+1,by omega,by omega,by go_num,by trivial,HN⟩
     case measure=>simp [intOf];omega
    | false =>
     have HE:=zb (HAT.out hb);clear hb
     go_wp2_with fail
     go_ret;exact⟨by rw[HE.out];rfl,by trivial⟩
  . have g1:decide ((p:Int)<(s.size:Int))=false:=decide_eq_false (by omega);obtain rfl:p=s.size:=by omega
    have HE:Hid (a+(nameOf (s.data.toList.drop a)).length=s.size):=zb (by
     have:=HA.out;rw[List.take_of_length_le (by rw[List.length_drop];omega)] at this;rw[zbE this,List.length_drop];omega)
    clear hl
    go_wp2_with fail
    go_ret;exact⟨by rw[HE.out];rfl,by trivial⟩
def keyCells:Array Value:=(keyL.map fun l=>Value.string ⟨l.toArray⟩).toArray
theorem key_cell (i:Nat) (h:i<25):keyCells[i]? = some (.string ⟨(keyL.getD i []).toArray⟩):=by
 unfold keyCells;rw[List.getElem?_toArray,List.getElem?_map,List.getD_eq_getElem?_getD,List.getElem?_eq_getElem (show i<keyL.length from h)]
 rfl
def WordsIs (w:World) (e:Ending) (w':World):Prop:=∃ b,e=.returned (.slice (some ⟨b,0,none⟩) 25 25)/\Below w.heap.size w w'/\b<w'.heap.size/\w.heap.size<=b/\∀ i,i<25->w'.cell? ⟨b,i,none⟩=some (.string ⟨(keyL.getD i []).toArray⟩)
theorem ref_Words (w:World):Calls Tryz.prog 186 #[] w (WordsIs w):=by
 have HW:Hid (WordsIs w (.returned (.slice (some ⟨w.heap.size,0,none⟩) 25 25)) (w.alloc (.cells keyCells 9 (0,0)))):=zb ⟨w.heap.size,rfl,(Below.refl _ w).alloc (Nat.le_refl _) _,by simp,Nat.le_refl _,fun i hi=>by
  rw[zf (zA w _ _ rfl)];exact key_cell i hi⟩
 go_enter Tryz.func186, Tryz.ntmps186
 go_wp2_with fail
 go_ret;exact HW.out
theorem key_found (l:List UInt8) (i:Nat) (h:i<25) (he:keyL.getD i []=l):isKey l=true:=by
 unfold isKey;rw[List.contains_iff_mem,← he,List.getD_eq_getElem?_getD,List.getElem?_eq_getElem (show i<keyL.length from h)]
 exact List.getElem_mem _
theorem key_none (l:List UInt8) (h:∀ i,i<25->keyL.getD i []≠l):isKey l=false:=by
 cases hk:isKey l with
 | false=>rfl
 | true =>
  unfold isKey at hk;rw[List.contains_iff_mem] at hk;obtain⟨i,hi,he⟩:=List.getElem_of_mem hk;have hi:i<25:=hi;refine absurd ?_ (h i hi);rw[List.getD_eq_getElem?_getD,List.getElem?_eq_getElem (show i<keyL.length from hi)]
  exact he
theorem zgQ (s:ByteArray) (w:World):Calls Tryz.prog 126 #[.string s] w (YesMade (isKey s.data.toList) w):=by
 have HKF:=zb (fun (i:Nat) (h:i<25)=>key_found s.data.toList i h);have HKN:=zb (key_none s.data.toList);generalize isKey s.data.toList=kb at *
 go_enter Tryz.func126, Tryz.ntmps126
 go_wp2_with fail
 refine(ref_Words _).mono ?_;rintro e w1 ⟨b,rfl,hb1,hbl,_,hk⟩;have HB:=zb hb1;have HK:=zb hk;clear hb1 hk
 go_wp2_with fail
 go_loopw [4] (fun vi wr=>∃ i:Nat,i<=25/\vi=.int .i64 i/\wr=w1/\Hid (∀ j,j<i->keyL.getD j []≠s.data.toList)) (fun vi _=>25-(intOf vi).toNat)
 case atStart=>exact⟨0,by omega,by go_num,rfl,zb (fun j hj=>absurd hj (by omega))⟩
 case round =>
  obtain⟨i,hi,rfl,rfl,HN⟩:=hrel;by_cases hi2:i<25
  . have g1:decide ((i:Int)<25)=true:=decide_eq_true (by omega);have g2:(i:Int)<25:=by omega
    have g3:(0:Int)<=(i:Int):=by omega
    have k1:=HK.out i hi2;have HF:=zb (fun h=>HKF.out i hi2 h);have HN2:Hid (keyL.getD i []≠s.data.toList->∀ j,j<i+1->keyL.getD j []≠s.data.toList):=zb (fun hf j hj=>by
     rcases Nat.lt_or_eq_of_le (Nat.le_of_lt_succ hj) with h1 | rfl
     . exact HN.out j h1
     . exact hf)
    generalize keyL.getD i []=l at *;by_cases hl:l=s.data.toList
    . have HE:=zb (HF.out hl);have hs:s=⟨l.toArray⟩:=by rw[hl]
      subst hs;clear hl HF HN2
      go_wp2_with fail
      go_ret;exact⟨by rw[HE.out];rfl,HB.out⟩
    . have HX:=zb (HN2.out hl);have e1:(l == s.toList)=false:=by rw[beq_eq_false_iff_ne,yq];exact hl
      have e2:((⟨l.toArray⟩:ByteArray).toList == s.toList)=false:=by rw[beq_eq_false_iff_ne,yq,yq];exact hl
      clear hl HF HN2
      go_wp2_with fail
      go_roundw
      case rel=>exact⟨i+1,by omega,by go_num,by trivial,HX⟩
      case measure=>simp [intOf];omega
  . have g1:decide ((i:Int)<25)=false:=decide_eq_false (by omega);obtain rfl:i=25:=by omega
    have HE:=zb (HKN.out HN.out)
    go_wp2_with fail
    go_ret;exact⟨by rw[HE.out];rfl,HB.out⟩
def isNamR (l:List UInt8):Bool:=l.head?.any isLow&&decide ((nameOf l).length=l.length)&&!isKey l
theorem low_order (c:UInt8):isLow c=((decide (97<=c.toNat)&&decide (c.toNat<=122))||decide (c.toNat=95)):=rfl
theorem zff (s:ByteArray) (w:World) (hs:s.size<=1000000):Calls Tryz.prog 152 #[.string s] w (YesMade (isNamR s.data.toList) w):=by
 by_cases h0:0<s.size
 . have g0:decide ((0:Int)<(s.size:Int))=true:=decide_eq_true (by omega);have g0':decide (0<s.size)=true:=decide_eq_true h0;have hl:s.data.toList.length=s.size:=rfl;have hix:=fun W=>wC s 0 h0 0 rfl W;have HE:Hid (isNamR s.data.toList=(isLow s[0]&&decide ((nameOf s.data.toList).length=s.size)&&!isKey s.data.toList)):=zb (by
    unfold isNamR;rw[uV s h0];rfl)
   have HR:=zb (fun W=>ref_run s 0 W hs (Nat.zero_le _));rw[List.drop_zero,Nat.zero_add] at HR;have HK:=zb (fun W=>zgQ s W);generalize isNamR s.data.toList=b at *;generalize isKey s.data.toList=kb at *;generalize (nameOf s.data.toList).length=n at *;generalize s[0]=c at *;have HL:=zb (fun W=>zfc c 97 122 97 122 rfl rfl W);rw[low_order] at HE;have hu:=zgr c;generalize (decide (97<=c.toNat)&&decide (c.toNat<=122))=b1 at *;generalize decide (c.toNat=95)=b4 at *;clear hl;have HTL:Hid (∀ W:World,Below w.heap.size w W->(b1||b4)=true->True):=zb (fun _ _ _=>trivial)
   go_enter Tryz.func152, Tryz.ntmps152
   go_wp2_with fail
   refine(HL.out _).mono ?_;rintro e w' ⟨rfl,rfl⟩;clear HTL;have hb:(b1=true)∨(b1=false/\b4=true)∨(b1=false/\b4=false):=by cases b1 <;> cases b4 <;> simp
   rcases hb with rfl | ⟨rfl,rfl⟩ | ⟨rfl,rfl⟩
   . have HE2:Hid (b=(decide (n=s.size)&&!kb)):=zb (by rw[HE.out];rfl);clear HL HE hix hu
     go_wp2_with fail
     refine(HR.out _).mono ?_;rintro e w' ⟨rfl,rfl⟩;by_cases hn:n=s.size
     . have B1:((n:Int) == (s.size:Int))=true:=by rw[beq_iff_eq];omega
       have B2:(n == s.size)=true:=by rw[beq_iff_eq];exact hn
       have HE3:Hid (b = !kb):=zb (by rw[HE2.out,decide_eq_true hn];rfl);clear hn
       go_wp2_with fail
       refine(HK.out _).mono ?_;rintro e w2 ⟨rfl,hb2⟩;have HB2:=zb hb2;clear hb2
       go_wp2_with fail
       go_ret;exact⟨by rw[HE3.out];rfl,HB2.out⟩
     . have B1:((n:Int) == (s.size:Int))=false:=by rw[beq_eq_false_iff_ne];omega
       have B2:(n == s.size)=false:=by rw[beq_eq_false_iff_ne];exact hn
       have HE3:Hid (b=false):=zb (by rw[HE2.out,decide_eq_false hn];rfl);clear hn
       go_wp2_with fail
       go_ret;exact⟨by rw[HE3.out];rfl,Below.refl _ _⟩
   . have HE2:Hid (b=(decide (n=s.size)&&!kb)):=zb (by rw[HE.out];rfl);clear HL HE
     go_wp2_with fail
     refine(HR.out _).mono ?_;rintro e w' ⟨rfl,rfl⟩;clear hix hu;by_cases hn:n=s.size
     . have B1:((n:Int) == (s.size:Int))=true:=by rw[beq_iff_eq];omega
       have B2:(n == s.size)=true:=by rw[beq_iff_eq];exact hn
       have HE3:Hid (b = !kb):=zb (by rw[HE2.out,decide_eq_true hn];rfl);clear hn
       go_wp2_with fail
       refine(HK.out _).mono ?_;rintro e w2 ⟨rfl,hb2⟩;have HB2:=zb hb2;clear hb2
       go_wp2_with fail
       go_ret;exact⟨by rw[HE3.out];rfl,HB2.out⟩
     . have B1:((n:Int) == (s.size:Int))=false:=by rw[beq_eq_false_iff_ne];omega
       have B2:(n == s.size)=false:=by rw[beq_eq_false_iff_ne];exact hn
       have HE3:Hid (b=false):=zb (by rw[HE2.out,decide_eq_false hn];rfl);clear hn
       go_wp2_with fail
       go_ret;exact⟨by rw[HE3.out];rfl,Below.refl _ _⟩
   . have HE2:Hid (b=false):=zb (by rw[HE.out];rfl);clear HL HE
     go_wp2_with fail
     go_ret;exact⟨by rw[HE2.out];rfl,Below.refl _ _⟩
 . have g0:decide ((0:Int)<(s.size:Int))=false:=decide_eq_false (by omega);have g0':decide (0<s.size)=false:=decide_eq_false h0;have HE:Hid (isNamR s.data.toList=false):=zb (by rw[wf s h0];rfl)
   go_enter Tryz.func152, Tryz.ntmps152
   go_wp2_with fail
   go_ret;exact⟨by rw[HE.out];rfl,Below.refl _ _⟩
end
section
open Go.RowKit
theorem zgC (s:ByteArray):(⟨#[95]⟩:ByteArray)++s=⟨(95::s.data.toList).toArray⟩:=by
 apply ByteArray.ext;rw[ByteArray.data_append];apply Array.ext';simp
theorem nam_under (c:UInt8) (r:List UInt8) (h:isUp c=true):isNamR (95::c::r)=isNam (95::r):=by
 have k:∀ l:List UInt8,isKey (95::l)=false:=fun l=>by
  unfold isKey keyL;simp
 have b:∀ l:List UInt8,nameOf (95::l)=95::nameOf l:=zw (by decide);have u:nameOf (c::r)=c::nameOf r:=zw (by unfold isBody;rw[h];simp) r;show(_&&decide ((nameOf (95::c::r)).length=_)&&!isKey (95::c::r))=(_&&decide ((nameOf (95::r)).length=_)&&!isKey (95::r));rw[k,k,b,b,u];simp
theorem upR (s:ByteArray) (h0:0<s.size):isUpN s.data.toList=(decide (65<=s[0].toNat)&&decide (s[0].toNat<=90)&&isNamR (95::s.data.toList)):=by
 obtain⟨⟨l⟩⟩:=s;cases l with
 | nil=>exact absurd h0 (by decide)
 | cons c r =>
  show(decide (65<=c.toNat)&&decide (c.toNat<=90)&&isNam (95::r))=(decide (65<=c.toNat)&&decide (c.toNat<=90)&&isNamR (95::c::r));cases h:isUp c with
  | false =>
   have h:(decide (65<=c.toNat)&&decide (c.toNat<=90))=false:=h;rw[h];rfl
  | true=>rw[nam_under c r h]
theorem t_Upper (s:ByteArray) (w:World) (hs:s.size<=900000):Calls Tryz.prog 154 #[.string s] w (YesMade (isUpN s.data.toList) w):=by
 by_cases h0:0<s.size
 . have hix:=fun W=>wC s 0 h0 0 rfl W;have HN:Hid (∀ W,Calls Tryz.prog 152 #[.string ⟨(95::s.data.toList).toArray⟩] W (YesMade (isNamR (95::s.data.toList)) W)):=zb fun W=>zff ⟨(95::s.data.toList).toArray⟩ W (by
    show(95::s.data.toList).toArray.size<=_;have:s.data.toList.length=s.size:=rfl;simp;omega)
   have HE:=zb (upR s h0);have g0:decide ((0:Int)<(s.size:Int))=true:=decide_eq_true (by omega);have g1:decide (0<s.size)=true:=decide_eq_true h0
   go_enter Tryz.func154, Tryz.ntmps154
   generalize s[0]=c at *;by_cases t1:(65:Int)<=(c.toNat:Int)
   . by_cases t2:(c.toNat:Int)<=90
     . have T1:((65:Int)<=(c.toNat:Int))=True:=eq_true t1;have T2:((c.toNat:Int)<=90)=True:=eq_true t2;have HE2:Hid (isUpN s.data.toList=isNamR (95::s.data.toList)):=zb (by rw[HE.out,decide_eq_true (by omega),decide_eq_true (by omega)];rfl)
       go_wp2_with fail
       rw[zgC];refine(HN.out _).mono ?_;rintro e w1 ⟨rfl,hb⟩;have HB:=zb hb;clear hb HN;generalize isNamR (95::s.data.toList)=bb at *
       go_wp2_with fail
       go_ret;exact⟨by rw[HE2.out];rfl,HB.out⟩
     . have T1:((65:Int)<=(c.toNat:Int))=True:=eq_true t1;have T2:((c.toNat:Int)<=90)=False:=eq_false t2;have HE2:Hid (isUpN s.data.toList=false):=zb (by rw[HE.out,decide_eq_false (p:=c.toNat<=90) (by omega)];simp)
       go_wp2_with fail
       go_ret;exact⟨by rw[HE2.out];rfl,Below.refl _ _⟩
   . have T1:((65:Int)<=(c.toNat:Int))=False:=eq_false t1;have HE2:Hid (isUpN s.data.toList=false):=zb (by rw[HE.out,decide_eq_false (p:=65<=c.toNat) (by omega)];rfl)
     go_wp2_with fail
     go_ret;exact⟨by rw[HE2.out];rfl,Below.refl _ _⟩
 . have hz:s.size=0:=by omega
   have HE2:Hid (isUpN s.data.toList=false):=zb (by
    obtain⟨⟨l⟩⟩:=s;cases l with
    | nil=>rfl
    | cons c r=>exact absurd hz (by simp [ByteArray.size]))
   have g0:decide ((0:Int)<(s.size:Int))=false:=decide_eq_false (by omega);have g1:decide (0<s.size)=false:=decide_eq_false h0
   go_enter Tryz.func154, Tryz.ntmps154
   go_wp2_with fail
   go_ret;exact⟨by rw[HE2.out];rfl,Below.refl _ _⟩
def NumIs (r:Int) (w:World) (e:Ending) (w':World):Prop:=e=.returned (.int .i64 r)/\w=w'
theorem t_Many (n:Int) (w:World):Calls Tryz.prog 155 #[.int .i64 n] w (NumIs (manyD n) w):=by
 have HM:Hid (manyD n=if n=6∨n=9∨n=10∨n=11∨n=16∨n=17∨n=20∨n=21 then 1 else if n=15 then 3 else if n<1∨21<n then 0 else 2):=zb rfl
 go_enter Tryz.func155, Tryz.ntmps155
 by_cases h1:n=6∨n=9∨n=10∨n=11∨n=16∨n=17∨n=20∨n=21
 . have HR:Hid (manyD n=1):=zb (by rw[HM.out,if_pos h1]);clear HM;rcases h1 with rfl | rfl | rfl | rfl | rfl | rfl | rfl | rfl
   all_goals
    go_wp2_with fail
    go_ret;exact⟨by rw[HR.out];rfl,rfl⟩
 by_cases h2:n=15
 . subst h2;have HR:Hid (manyD 15=3):=zb rfl;clear HM
   go_wp2_with fail
   go_ret;exact⟨by rw[HR.out];rfl,rfl⟩
 have e6:(n == 6)=false:=by rw[beq_eq_false_iff_ne];omega
 have e9:(n == 9)=false:=by rw[beq_eq_false_iff_ne];omega
 have e10:(n == 10)=false:=by rw[beq_eq_false_iff_ne];omega
 have e11:(n == 11)=false:=by rw[beq_eq_false_iff_ne];omega
 have e15:(n == 15)=false:=by rw[beq_eq_false_iff_ne];omega
 have e16:(n == 16)=false:=by rw[beq_eq_false_iff_ne];omega
 have e17:(n == 17)=false:=by rw[beq_eq_false_iff_ne];omega
 have e20:(n == 20)=false:=by rw[beq_eq_false_iff_ne];omega
 have e21:(n == 21)=false:=by rw[beq_eq_false_iff_ne];omega
 have HR:Hid (manyD n=if n<1∨21<n then 0 else 2):=zb (by rw[HM.out,if_neg h1,if_neg h2])
 clear HM h1 h2;by_cases h3:n<1
 . have t3:decide (n<1)=true:=decide_eq_true h3;have HR2:Hid (manyD n=0):=zb (by rw[HR.out,if_pos (.inl h3)]);clear HR
   go_wp2_with fail
   go_ret;exact⟨by rw[HR2.out];rfl,rfl⟩
 have t3:decide (n<1)=false:=decide_eq_false h3;by_cases h4:21<n
 . have t4:decide (21<n)=true:=decide_eq_true h4;have HR2:Hid (manyD n=0):=zb (by rw[HR.out,if_pos (.inr h4)]);clear HR
   go_wp2_with fail
   go_ret;exact⟨by rw[HR2.out];rfl,rfl⟩
 . have t4:decide (21<n)=false:=decide_eq_false h4;have HR2:Hid (manyD n=2):=zb (by rw[HR.out,if_neg (by omega)]);clear HR
   go_wp2_with fail
   go_ret;exact⟨by rw[HR2.out];rfl,rfl⟩
def StrIs (l:List UInt8) (w:World) (e:Ending) (w':World):Prop:=e=.returned (.string ⟨l.toArray⟩)/\w=w'
theorem zg4 (n:Int) (w:World):Calls Tryz.prog 88 #[.int .i64 n] w (StrIs (truthD n) w):=by
 go_enter Tryz.func88, Tryz.ntmps88
 by_cases h:n=1
 . subst h
   go_wp2_with fail
   go_ret;exact⟨rfl,rfl⟩
 . have e:(n == 1)=false:=by rw[beq_eq_false_iff_ne];exact h
   have HT:Hid (truthD n=sFalse):=zb (if_neg h);clear h
   go_wp2_with fail
   go_ret;exact⟨by rw[HT.out];rfl,rfl⟩
theorem str_inner (l:List UInt8) (h:2<=l.length):(⟨l.toArray⟩:ByteArray).extract 1 (l.length-1)=⟨(insideD l).toArray⟩:=by
 apply ByteArray.ext;rw[ByteArray.data_extract];apply Array.ext';unfold insideD;rw[if_neg (by omega)];simp [List.extract_eq_take_drop];omega
theorem t_inside (l:List UInt8) (w:World) (hl:l.length<=1000000000):Calls Tryz.prog 89 #[.string ⟨l.toArray⟩] w (StrIs (insideD l) w):=by
 have q1:(⟨l.toArray⟩:ByteArray).size=l.length:=by simp [ByteArray.size]
 go_enter Tryz.func89, Tryz.ntmps89
 by_cases h:l.length<2
 . have e:decide ((l.length:Int)<2)=true:=decide_eq_true (by omega);have HT:Hid (insideD l=l):=zb (if_pos h)
   go_wp2_with fail
   go_ret;exact⟨by rw[HT.out];rfl,rfl⟩
 . have e:decide ((l.length:Int)<2)=false:=decide_eq_false (by omega);have HT:=zb (str_inner l (by omega));have E1:IntKind.i64.wrap ((l.length:Int)-1)=(l.length:Int)-1:=by rw[IntKind.wrap_i64];omega
   go_wp2_with fail
   go_ret;refine⟨?_,rfl⟩;rw[← HT.out];congr 2
theorem un (b1 b2 b3:Bool) (la ag am:Int) (x:Nd):plainD b1 b2 b3 la ag am x=((b1||decide (x.hd.name=[]))&&((b2||decide (x.hd.n=0))&&((b3||decide (x.hd.s=[]))&&(decide ((x.hd.labels.length:Int)=la)&&(decide ((x.args.length:Int)=ag)&&decide ((x.arms.length:Int)=am)))))):=by
 obtain⟨⟨_,_,_,_,_,_⟩,_,_⟩:=x;rfl
theorem t_plain (b1 b2 b3:Bool) (la ag am:Int) (x:Nd) (s:Sl) (w:World) (hb:(b1=true/\b2=false/\b3=false)∨(b1=false/\b2=true/\b3=false)∨(b1=false/\b2=false/\b3=true)∨(b1=false/\b2=false/\b3=false)) :
 Calls Tryz.prog 153 #[.bool b1,.bool b2,.bool b3,.int .i64 la,.int .i64 ag,.int .i64 am,exOf x s] w (YesMade (plainD b1 b2 b3 la ag am x) w):=by
 unfold exOf exV;have q1:(⟨x.hd.name.toArray⟩:ByteArray).size=x.hd.name.length:=by simp [ByteArray.size]
 rcases hb with⟨rfl,rfl,rfl⟩ | ⟨rfl,rfl,rfl⟩ | ⟨rfl,rfl,rfl⟩ | ⟨rfl,rfl,rfl⟩
 all_goals
  go_enter Tryz.func153, Tryz.ntmps153
  go_wp2_with fail
  all_goals
   go_ret;refine⟨?_,zj _⟩;show Ending.returned (.bool _)=Ending.returned (.bool _);congr 2;rw[un];rw[Bool.eq_iff_iff];simp [*]
end
