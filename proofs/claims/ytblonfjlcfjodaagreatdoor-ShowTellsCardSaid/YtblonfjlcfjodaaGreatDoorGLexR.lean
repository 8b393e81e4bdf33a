/-
  Lex: the walks of IsWord and of the readers: one for each kind o.
-/
import Derived.Test.YtblonfjlcfjodaaGreatDoorGLexA
import Derived.Deep.CutBlock
namespace Go.Proofs.YtblonfjlcfjodaaGreatDoor
set_option linter.unusedSimpArgs false
set_option linter.unusedVariables false
set_option maxRecDepth 100000
set_option maxHeartbeats 4000000
section
open Go.RowKit
theorem zP {s:ByteArray} {l:List UInt8} (h:(s.toList == l)=true) (hl:isKey l=true):isKey s.data.toList=true:=by
 rw[beq_iff_eq,yq] at h;rw[h];exact hl
theorem ur (s:ByteArray) (w:World):Calls Tryz.prog 170 #[.string s] w fun e w'=>e=.returned (.bool (isKey s.data.toList))/\w=w':=by
 cases h0:(s.toList == [108,101,116]) with
 | true =>
  have HK:=zb (zP h0 (by decide))
  go_enter Tryz.func170, Tryz.ntmps170
  go_wp2_with fail
  go_ret;exact⟨by rw[HK.out];rfl,rfl⟩
 | false =>
  cases h1:(s.toList == [114,101,99]) with
  | true =>
   have HK:=zb (zP h1 (by decide))
   go_enter Tryz.func170, Tryz.ntmps170
   go_wp2_with fail
   go_ret;exact⟨by rw[HK.out];rfl,rfl⟩
  | false =>
   cases h2:(s.toList == [105,110]) with
   | true =>
    have HK:=zb (zP h2 (by decide))
    go_enter Tryz.func170, Tryz.ntmps170
    go_wp2_with fail
    go_ret;exact⟨by rw[HK.out];rfl,rfl⟩
   | false =>
    cases h3:(s.toList == [102,117,110]) with
    | true =>
     have HK:=zb (zP h3 (by decide))
     go_enter Tryz.func170, Tryz.ntmps170
     go_wp2_with fail
     go_ret;exact⟨by rw[HK.out];rfl,rfl⟩
    | false =>
     cases h4:(s.toList == [109,97,116,99,104]) with
     | true =>
      have HK:=zb (zP h4 (by decide))
      go_enter Tryz.func170, Tryz.ntmps170
      go_wp2_with fail
      go_ret;exact⟨by rw[HK.out];rfl,rfl⟩
     | false =>
      cases h5:(s.toList == [119,105,116,104]) with
      | true =>
       have HK:=zb (zP h5 (by decide))
       go_enter Tryz.func170, Tryz.ntmps170
       go_wp2_with fail
       go_ret;exact⟨by rw[HK.out];rfl,rfl⟩
      | false =>
       cases h6:(s.toList == [101,110,100]) with
       | true =>
        have HK:=zb (zP h6 (by decide))
        go_enter Tryz.func170, Tryz.ntmps170
        go_wp2_with fail
        go_ret;exact⟨by rw[HK.out];rfl,rfl⟩
       | false =>
        cases h7:(s.toList == [105,102]) with
        | true =>
         have HK:=zb (zP h7 (by decide))
         go_enter Tryz.func170, Tryz.ntmps170
         go_wp2_with fail
         go_ret;exact⟨by rw[HK.out];rfl,rfl⟩
        | false =>
         cases h8:(s.toList == [116,104,101,110]) with
         | true =>
          have HK:=zb (zP h8 (by decide))
          go_enter Tryz.func170, Tryz.ntmps170
          go_wp2_with fail
          go_ret;exact⟨by rw[HK.out];rfl,rfl⟩
         | false =>
          cases h9:(s.toList == [101,108,115,101]) with
          | true =>
           have HK:=zb (zP h9 (by decide))
           go_enter Tryz.func170, Tryz.ntmps170
           go_wp2_with fail
           go_ret;exact⟨by rw[HK.out];rfl,rfl⟩
          | false =>
           cases h10:(s.toList == [116,114,117,101]) with
           | true =>
            have HK:=zb (zP h10 (by decide))
            go_enter Tryz.func170, Tryz.ntmps170
            go_wp2_with fail
            go_ret;exact⟨by rw[HK.out];rfl,rfl⟩
           | false =>
            cases h11:(s.toList == [102,97,108,115,101]) with
            | true =>
             have HK:=zb (zP h11 (by decide))
             go_enter Tryz.func170, Tryz.ntmps170
             go_wp2_with fail
             go_ret;exact⟨by rw[HK.out];rfl,rfl⟩
            | false =>
             cases h12:(s.toList == [114,97,105,115,101]) with
             | true =>
              have HK:=zb (zP h12 (by decide))
              go_enter Tryz.func170, Tryz.ntmps170
              go_wp2_with fail
              go_ret;exact⟨by rw[HK.out];rfl,rfl⟩
             | false =>
              cases h13:(s.toList == [116,114,121]) with
              | true =>
               have HK:=zb (zP h13 (by decide))
               go_enter Tryz.func170, Tryz.ntmps170
               go_wp2_with fail
               go_ret;exact⟨by rw[HK.out];rfl,rfl⟩
              | false =>
               cases h14:(s.toList == [110,111,116]) with
               | true =>
                have HK:=zb (zP h14 (by decide))
                go_enter Tryz.func170, Tryz.ntmps170
                go_wp2_with fail
                go_ret;exact⟨by rw[HK.out];rfl,rfl⟩
               | false =>
                cases h15:(s.toList == [114,101,102]) with
                | true =>
                 have HK:=zb (zP h15 (by decide))
                 go_enter Tryz.func170, Tryz.ntmps170
                 go_wp2_with fail
                 go_ret;exact⟨by rw[HK.out];rfl,rfl⟩
                | false =>
                 cases h16:(s.toList == [97,114,114,97,121]) with
                 | true =>
                  have HK:=zb (zP h16 (by decide))
                  go_enter Tryz.func170, Tryz.ntmps170
                  go_wp2_with fail
                  go_ret;exact⟨by rw[HK.out];rfl,rfl⟩
                 | false =>
                  cases h17:(s.toList == [103,101,116]) with
                  | true =>
                   have HK:=zb (zP h17 (by decide))
                   go_enter Tryz.func170, Tryz.ntmps170
                   go_wp2_with fail
                   go_ret;exact⟨by rw[HK.out];rfl,rfl⟩
                  | false =>
                   cases h18:(s.toList == [115,101,116]) with
                   | true =>
                    have HK:=zb (zP h18 (by decide))
                    go_enter Tryz.func170, Tryz.ntmps170
                    go_wp2_with fail
                    go_ret;exact⟨by rw[HK.out];rfl,rfl⟩
                   | false =>
                    cases h19:(s.toList == [108,101,110]) with
                    | true =>
                     have HK:=zb (zP h19 (by decide))
                     go_enter Tryz.func170, Tryz.ntmps170
                     go_wp2_with fail
                     go_ret;exact⟨by rw[HK.out];rfl,rfl⟩
                    | false =>
                     cases h20:(s.toList == [115,105,122,101]) with
                     | true =>
                      have HK:=zb (zP h20 (by decide))
                      go_enter Tryz.func170, Tryz.ntmps170
                      go_wp2_with fail
                      go_ret;exact⟨by rw[HK.out];rfl,rfl⟩
                     | false =>
                      cases h21:(s.toList == [98,121,116,101]) with
                      | true =>
                       have HK:=zb (zP h21 (by decide))
                       go_enter Tryz.func170, Tryz.ntmps170
                       go_wp2_with fail
                       go_ret;exact⟨by rw[HK.out];rfl,rfl⟩
                      | false =>
                       cases h22:(s.toList == [99,97,116]) with
                       | true =>
                        have HK:=zb (zP h22 (by decide))
                        go_enter Tryz.func170, Tryz.ntmps170
                        go_wp2_with fail
                        go_ret;exact⟨by rw[HK.out];rfl,rfl⟩
                       | false =>
                        cases h23:(s.toList == [103,101,116,99]) with
                        | true =>
                         have HK:=zb (zP h23 (by decide))
                         go_enter Tryz.func170, Tryz.ntmps170
                         go_wp2_with fail
                         go_ret;exact⟨by rw[HK.out];rfl,rfl⟩
                        | false =>
                         cases h24:(s.toList == [112,117,116,99]) with
                         | true =>
                          have HK:=zb (zP h24 (by decide))
                          go_enter Tryz.func170, Tryz.ntmps170
                          go_wp2_with fail
                          go_ret;exact⟨by rw[HK.out];rfl,rfl⟩
                         | false =>
                          have HK:Hid (isKey s.data.toList=false):=zb (by
                           rw[yq] at h0 h1 h2 h3 h4 h5 h6 h7 h8 h9 h10 h11 h12 h13 h14 h15 h16 h17 h18 h19 h20 h21 h22 h23 h24;unfold isKey keyL;simp only[List.contains_cons,List.contains_nil,Bool.or_false,Bool.or_eq_false_iff];exact⟨h0,h1,h2,h3,h4,h5,h6,h7,h8,h9,h10,h11,h12,h13,h14,h15,h16,h17,h18,h19,h20,h21,h22,h23,h24⟩)
                          go_enter Tryz.func170, Tryz.ntmps170
                          go_wp2_with fail
                          go_ret;exact⟨by rw[HK.out];rfl,rfl⟩
def Three (v:Value) (n e:Int) (w:World) (x:Ending) (w':World):Prop:=x=.returned (.tuple #[v,.int .i64 n,.int .i64 e])/\Below w.heap.size w w'
def OneIs (r:OneR) (w:World) (x:Ending) (w':World):Prop:=match r with
 | .tok t n=>Three (tokAgg t.kind 0 t.text t.n) n 0 w x w'
 | .err e=>Three (tokAgg 0 0 [] 0) 0 e w x w'
theorem vZ {r:OneR} {t:TK} {n:Nat} (h:r=.tok t n) {v:Value} {w w':World} {x:Ending} (hx:Three v n 0 w x w') (hv:v=tokAgg t.kind 0 t.text t.n):OneIs r w x w':=by
 subst h;subst hv;exact hx
theorem wa {r:OneR} {e:Int} (h:r=.err e) {v:Value} {w w':World} {x:Ending} (hx:Three v 0 e w x w') (hv:v=tokAgg 0 0 [] 0):OneIs r w x w':=by
 subst h;subst hv;exact hx
theorem uS (s:ByteArray) (k:Nat):(s.extract 0 k).data.toList=s.data.toList.take k:=by rw[Lib.extract_data];simp
theorem xt (s:ByteArray):(s.extract 0 (nameOf s.data.toList).length).data.toList=nameOf s.data.toList:=by rw[uS,zW]
theorem uU (s:ByteArray):(nameOf s.data.toList).length<=s.size:=yz s.data.toList
theorem unqV_err (l:List UInt8):(UnqV l).2=0∨(UnqV l).2=5:=by
 unfold UnqV
 split
 . exact .inr rfl
 . split
   . exact .inl rfl
   . exact .inr rfl
theorem uL (s:ByteArray) (w:World) (hs:s.size<=65536) (hk:isKey (nameOf s.data.toList)=true):Calls Tryz.prog 113 #[.string s] w (Three (tokAgg 6 0 (nameOf s.data.toList) 0) (nameOf s.data.toList).length 0 w):=by
 have HN:=zb (fun W=>yQ s W);have hle:=uU s;have HX:=zb (xt s);generalize nameOf s.data.toList=l at *;generalize l.length=n at *;have HK:=zb (fun W=>ur (s.extract 0 n) W);have HT:=zb (fun (k:Int) W=>vM k (s.extract 0 n) W (by rw[ByteArray.size_extract];omega));rw[HX.out] at HK HT;rw[hk] at HK;have HD:=zb (TokBox.new w);clear hk
 go_enter Tryz.func113, Tryz.ntmps113
 go_wp2_with fail
 refine(HN.out _).mono ?_;rintro e w1 ⟨rfl,hb1⟩;have HB1:=zb ((zR w).trans (hb1.mono (by simp)));have HD1:=zb (HD.out.below hb1 (by simp));clear hb1;clear HN
 go_wp2_with fail
 refine(HK.out _).mono ?_;rintro e w' ⟨rfl,rfl⟩
 go_wp2_with fail
 refine(HT.out 6 _).mono ?_;rintro e w3 ⟨rfl,hb2⟩;have HB2:=zb (HB1.out.trans (hb2.mono HB1.out.size));have HD2:=zb (HD1.out.below hb2 (zp HD1.out));clear hb2;have HB3:=HB2;have hn:=HD2.out;obtain⟨c0,c1,c2,c3,cf⟩:=hn.cells;have f0:=cf 0;have f1:=cf 1;have f2:=cf 2;have f3:=cf 3;have hl:=zp hn;have HNN:=zb hn;clear hn cf;unfold tokAgg
 go_wp2_with fail
 have HS:=zb (zD HNN.out HB3.out (Nat.le_refl _) 6 0 ⟨l.toArray⟩ 0 rfl);unfold tokSet at HS;generalize World.setCell _ _ _=w9 at *;obtain⟨d0,d1,d2,d3,_⟩:=HS.out.1.cells;exact bodyPost_ret (v:=.tuple #[tokAgg 6 0 l 0,.int .i64 n,.int .i64 0]) (by simp [results, Tryz.results113,go_sem,d0,d1,d2,d3,tokAgg]) rfl ⟨rfl,HS.out.2⟩
theorem uo (s:ByteArray) (w:World) (hs:s.size<=65536) (hk:isKey (nameOf s.data.toList)=false):Calls Tryz.prog 113 #[.string s] w (Three (tokAgg 1 0 (nameOf s.data.toList) 0) (nameOf s.data.toList).length 0 w):=by
 have HN:=zb (fun W=>yQ s W);have hle:=uU s;have HX:=zb (xt s);generalize nameOf s.data.toList=l at *;generalize l.length=n at *;have HK:=zb (fun W=>ur (s.extract 0 n) W);have HT:=zb (fun (k:Int) W=>vM k (s.extract 0 n) W (by rw[ByteArray.size_extract];omega));rw[HX.out] at HK HT;rw[hk] at HK;have HD:=zb (TokBox.new w);clear hk
 go_enter Tryz.func113, Tryz.ntmps113
 go_wp2_with fail
 refine(HN.out _).mono ?_;rintro e w1 ⟨rfl,hb1⟩;have HB1:=zb ((zR w).trans (hb1.mono (by simp)));have HD1:=zb (HD.out.below hb1 (by simp));clear hb1;clear HN
 go_wp2_with fail
 refine(HK.out _).mono ?_;rintro e w' ⟨rfl,rfl⟩
 go_wp2_with fail
 refine(HT.out 1 _).mono ?_;rintro e w3 ⟨rfl,hb2⟩;have HB2:=zb (HB1.out.trans (hb2.mono HB1.out.size));have HD2:=zb (HD1.out.below hb2 (zp HD1.out));clear hb2;have HB3:=HB2;have hn:=HD2.out;obtain⟨c0,c1,c2,c3,cf⟩:=hn.cells;have f0:=cf 0;have f1:=cf 1;have f2:=cf 2;have f3:=cf 3;have hl:=zp hn;have HNN:=zb hn;clear hn cf;unfold tokAgg
 go_wp2_with fail
 have HS:=zb (zD HNN.out HB3.out (Nat.le_refl _) 1 0 ⟨l.toArray⟩ 0 rfl);unfold tokSet at HS;generalize World.setCell _ _ _=w9 at *;obtain⟨d0,d1,d2,d3,_⟩:=HS.out.1.cells;exact bodyPost_ret (v:=.tuple #[tokAgg 1 0 l 0,.int .i64 n,.int .i64 0]) (by simp [results, Tryz.results113,go_sem,d0,d1,d2,d3,tokAgg]) rfl ⟨rfl,HS.out.2⟩
theorem zbs (s:ByteArray) (w:World) (hs:s.size<=65536):Calls Tryz.prog 113 #[.string s] w (Three (tokAgg (if isKey (nameOf s.data.toList)=true then 6 else 1) 0 (nameOf s.data.toList) 0) (nameOf s.data.toList).length 0 w):=by
 split
 . rename_i h;exact uL s w hs h
 . rename_i h;exact uo s w hs (by simpa using h)
theorem qP (s:ByteArray) (w:World) (hs:s.size<=65536):Calls Tryz.prog 115 #[.string s] w (Three (tokAgg 2 0 (nameOf s.data.toList) 0) (nameOf s.data.toList).length 0 w):=by
 have HN:=zb (fun W=>yQ s W);have hle:=uU s;have HX:=zb (xt s);generalize nameOf s.data.toList=l at *;generalize l.length=n at *;have HT:=zb (fun (k:Int) W=>vM k (s.extract 0 n) W (by rw[ByteArray.size_extract];omega));rw[HX.out] at HT;have HD:=zb (TokBox.new w)
 go_enter Tryz.func115, Tryz.ntmps115
 go_wp2_with fail
 refine(HN.out _).mono ?_;rintro e w1 ⟨rfl,hb1⟩;have HB1:=zb ((zR w).trans (hb1.mono (by simp)));have HD1:=zb (HD.out.below hb1 (by simp));clear hb1;clear HN
 go_wp2_with fail
 refine(HT.out 2 _).mono ?_;rintro e w3 ⟨rfl,hb2⟩;have HB2:=zb (HB1.out.trans (hb2.mono HB1.out.size));have HD2:=zb (HD1.out.below hb2 (zp HD1.out));clear hb2;have HB3:=HB2;have hn:=HD2.out;obtain⟨c0,c1,c2,c3,cf⟩:=hn.cells;have f0:=cf 0;have f1:=cf 1;have f2:=cf 2;have f3:=cf 3;have hl:=zp hn;have HNN:=zb hn;clear hn cf;unfold tokAgg
 go_wp2_with fail
 have HS:=zb (zD HNN.out HB3.out (Nat.le_refl _) 2 0 ⟨l.toArray⟩ 0 rfl);unfold tokSet at HS;generalize World.setCell _ _ _=w9 at *;obtain⟨d0,d1,d2,d3,_⟩:=HS.out.1.cells;exact bodyPost_ret (v:=.tuple #[tokAgg 2 0 l 0,.int .i64 n,.int .i64 0]) (by simp [results, Tryz.results115,go_sem,d0,d1,d2,d3,tokAgg]) rfl ⟨rfl,HS.out.2⟩
theorem zb1 (s:ByteArray) (w:World) (hs:s.size<=65536) (h1:1<=s.size):Calls Tryz.prog 116 #[.string s] w (OneIs (tagTok (s.data.toList.drop 1)) w):=by
 have HN:=zb (fun W=>yQ (s.extract 1 s.size) W);have HXT:Hid ((s.extract 1 s.size).data.toList=s.data.toList.drop 1):=zb (by rw[Lib.extract_data];exact List.take_of_length_le (by rw[List.length_drop];exact Nat.le_refl _));have hts:(s.extract 1 s.size).size=s.size-1:=by rw[ByteArray.size_extract];omega
 rw[← HXT.out];have hle:=uU (s.extract 1 s.size);have HX:=zb (xt (s.extract 1 s.size));have HD:=zb (TokBox.new w);have g1:(1:Int)<=(s.size:Int):=by omega
 by_cases ht:0<(s.extract 1 s.size).size
 . have e0:(s.extract 1 s.size).toList.isEmpty=false:=by
    rw[yq,List.isEmpty_eq_false_iff];intro h9;have h8:(s.extract 1 s.size).size=0:=congrArg List.length h9;omega
   have e1:((s.extract 1 s.size).toList == [])=false:=by rw[beq_eq_false_iff_ne];intro h9;rw[h9] at e0;cases e0
   have hix:=fun W=>wC (s.extract 1 s.size) 0 ht 0 rfl W;have HH:=zb (uV (s.extract 1 s.size) ht);generalize (s.extract 1 s.size)[0]=c at *;have HU:=zb (fun W=>zdG c.toNat W);have E1:IntKind.i32.wrap (c.toNat:Int)=(c.toNat:Int):=by rw[IntKind.wrap_i32];have:=c.toNat_lt;omega
   cases hu:isUp c with
   | true =>
    have HR:Hid (tagTok (s.extract 1 s.size).data.toList=.tok ⟨3,nameOf (s.extract 1 s.size).data.toList,0⟩ (1+(nameOf (s.extract 1 s.size).data.toList).length)):=zb (by unfold tagTok;rw[HH.out];exact if_pos hu);generalize tagTok (s.extract 1 s.size).data.toList=rr at *;generalize nameOf (s.extract 1 s.size).data.toList=l at *;generalize hn:l.length=n at *;have HT:=zb (fun (k:Int) W=>vM k ((s.extract 1 s.size).extract 0 n) W (by rw[ByteArray.size_extract];omega));rw[HX.out] at HT;rw[up_at,hu] at HU;clear hu hn HH HXT
    go_enter Tryz.func116, Tryz.ntmps116
    go_wp2_with fail
    refine(HU.out _).mono ?_;rintro e w' ⟨rfl,rfl⟩
    go_wp2_with fail
    refine(HN.out _).mono ?_;rintro e w1 ⟨rfl,hb1⟩;have HB1:=zb ((zR w).trans (hb1.mono (by simp)));have HD1:=zb (HD.out.below hb1 (by simp));clear hb1;clear HN hix
    go_wp2_with fail
    refine(HT.out 3 _).mono ?_;rintro e w3 ⟨rfl,hb2⟩;have HB2:=zb (HB1.out.trans (hb2.mono HB1.out.size));have HD2:=zb (HD1.out.below hb2 (zp HD1.out));clear hb2;have HB3:=HB2;have hn:=HD2.out;obtain⟨c0,c1,c2,c3,cf⟩:=hn.cells;have f0:=cf 0;have f1:=cf 1;have f2:=cf 2;have f3:=cf 3;have hl:=zp hn;have HNN:=zb hn;clear hn cf;unfold tokAgg;have E2:wrap64 (1+(n:Int))=((1+n:Nat):Int):=by unfold wrap64;omega
    go_wp2_with fail
    try rw[E2]
    have HS:=zb (zD HNN.out HB3.out (Nat.le_refl _) 3 0 ⟨l.toArray⟩ 0 rfl);unfold tokSet at HS;generalize World.setCell _ _ _=w9 at *;obtain⟨d0,d1,d2,d3,_⟩:=HS.out.1.cells;exact bodyPost_ret (v:=.tuple #[tokAgg 3 0 l 0,.int .i64 ((1+n:Nat):Int),.int .i64 0]) (by simp [results, Tryz.results116,go_sem,d0,d1,d2,d3,tokAgg]) rfl (vZ HR.out ⟨rfl,HS.out.2⟩ rfl)
   | false =>
    have HR:Hid (tagTok (s.extract 1 s.size).data.toList=.err 20):=zb (by unfold tagTok;rw[HH.out];exact if_neg (by rw[show Option.any isUp (some c)=isUp c from rfl,hu];decide))
    generalize tagTok (s.extract 1 s.size).data.toList=rr at *;rw[up_at,hu] at HU;clear hu HH HXT HX hle HN
    go_enter Tryz.func116, Tryz.ntmps116
    go_wp2_with fail
    refine(HU.out _).mono ?_;rintro e w' ⟨rfl,rfl⟩
    go_wp2_with fail
    have HS:Hid (TokBox _ _ _ _ _ _/\_):=zb ⟨HD.out,zR w⟩;generalize w.alloc _=w9 at *;obtain⟨d0,d1,d2,d3,_⟩:=HS.out.1.cells;exact bodyPost_ret (v:=.tuple #[tokAgg 0 0 [] 0,.int .i64 0,.int .i64 20]) (by simp [results, Tryz.results116,go_sem,d0,d1,d2,d3,tokAgg]) rfl (wa HR.out ⟨rfl,HS.out.2⟩ rfl)
 . have e0:(s.extract 1 s.size).toList.isEmpty=true:=by
    rw[yq,List.isEmpty_iff];exact List.eq_nil_of_length_eq_zero (by show(s.extract 1 s.size).size=0;omega)
   have e1:((s.extract 1 s.size).toList == [])=true:=by rw[beq_iff_eq,← List.isEmpty_iff];exact e0
   have HR:Hid (tagTok (s.extract 1 s.size).data.toList=.err 20):=zb (by rw[wf _ ht];rfl);generalize tagTok (s.extract 1 s.size).data.toList=rr at *;clear HXT HX hle HN
   go_enter Tryz.func116, Tryz.ntmps116
   go_wp2_with fail
   have HS:Hid (TokBox _ _ _ _ _ _/\_):=zb ⟨HD.out,zR w⟩;generalize w.alloc _=w9 at *;obtain⟨d0,d1,d2,d3,_⟩:=HS.out.1.cells;exact bodyPost_ret (v:=.tuple #[tokAgg 0 0 [] 0,.int .i64 0,.int .i64 20]) (by simp [results, Tryz.results116,go_sem,d0,d1,d2,d3,tokAgg]) rfl (wa HR.out ⟨rfl,HS.out.2⟩ rfl)
theorem zcz (s:ByteArray) (w:World) (hs:s.size<=65536):Calls Tryz.prog 118 #[.string s] w (OneIs (intTok s.data.toList) w):=by
 have HN:=zb (fun W=>yQ s W);have hle:=uU s;have HX:=zb (xt s);have HR0:Hid (intTok s.data.toList=if (ReadV (nameOf s.data.toList)).2=0 then .tok ⟨4,[],(ReadV (nameOf s.data.toList)).1⟩ (nameOf s.data.toList).length else .err (if (ReadV (nameOf s.data.toList)).2=5 then 20 else(ReadV (nameOf s.data.toList)).2)):=zb rfl
 generalize intTok s.data.toList=rr at *;generalize nameOf s.data.toList=l at *;generalize hn:l.length=n at *;have HV:=zb (fun W=>word_Read (s.extract 0 n) W (by rw[ByteArray.size_extract];unfold maxLen;omega));rw[HX.out] at HV;have hv:=zay (l:=l);generalize ReadV l=v at *;obtain⟨v1,v2⟩:=v;simp only at HV hv HR0;have HD:=zb (TokBox.new w);clear hn;rcases hv with rfl | rfl | rfl
 . have HR:Hid (rr=.tok ⟨4,[],v1⟩ n):=zb (by rw[HR0.out];exact if_pos rfl);clear HR0
   go_enter Tryz.func118, Tryz.ntmps118
   go_wp2_with fail
   refine(HN.out _).mono ?_;rintro e w1 ⟨rfl,hb1⟩;have HB1:=zb ((zR w).trans (hb1.mono (by simp)));have HD1:=zb (HD.out.below hb1 (by simp));clear hb1;clear HN
   go_wp2_with fail
   refine(HV.out _).mono ?_;rintro e w' ⟨rfl,rfl⟩;have HB3:=HB1;have hn:=HD1.out;obtain⟨c0,c1,c2,c3,cf⟩:=hn.cells;have f0:=cf 0;have f1:=cf 1;have f2:=cf 2;have f3:=cf 3;have hl:=zp hn;have HNN:=zb hn;clear hn cf
   go_wp2_with fail
   have HS:=zb (zD HNN.out HB3.out (Nat.le_refl _) 4 0 ⟨#[]⟩ v1 rfl);unfold tokSet at HS;generalize World.setCell _ _ _=w9 at *;obtain⟨d0,d1,d2,d3,_⟩:=HS.out.1.cells;exact bodyPost_ret (v:=.tuple #[tokAgg 4 0 [] v1,.int .i64 n,.int .i64 0]) (by simp [results, Tryz.results118,go_sem,d0,d1,d2,d3,tokAgg]) rfl (vZ HR.out ⟨rfl,HS.out.2⟩ rfl)
 . have HR:Hid (rr=.err 2):=zb (by rw[HR0.out,if_neg (by decide)];rfl);clear HR0
   go_enter Tryz.func118, Tryz.ntmps118
   go_wp2_with fail
   refine(HN.out _).mono ?_;rintro e w1 ⟨rfl,hb1⟩;have HB1:=zb ((zR w).trans (hb1.mono (by simp)));have HD1:=zb (HD.out.below hb1 (by simp));clear hb1;clear HN
   go_wp2_with fail
   refine(HV.out _).mono ?_;rintro e w' ⟨rfl,rfl⟩;have HB3:=HB1;have hn:=HD1.out;obtain⟨c0,c1,c2,c3,cf⟩:=hn.cells;have f0:=cf 0;have f1:=cf 1;have f2:=cf 2;have f3:=cf 3;have hl:=zp hn;have HNN:=zb hn;clear hn cf
   go_wp2_with fail
   have HS:=zb (zD HNN.out HB3.out (Nat.le_refl _) 0 0 ⟨#[]⟩ 0 rfl);unfold tokSet at HS;generalize World.setCell _ _ _=w9 at *;obtain⟨d0,d1,d2,d3,_⟩:=HS.out.1.cells;exact bodyPost_ret (v:=.tuple #[tokAgg 0 0 [] 0,.int .i64 0,.int .i64 2]) (by simp [results, Tryz.results118,go_sem,d0,d1,d2,d3,tokAgg]) rfl (wa HR.out ⟨rfl,HS.out.2⟩ rfl)
 . have HR:Hid (rr=.err 20):=zb (by rw[HR0.out,if_neg (by decide)];rfl);clear HR0
   go_enter Tryz.func118, Tryz.ntmps118
   go_wp2_with fail
   refine(HN.out _).mono ?_;rintro e w1 ⟨rfl,hb1⟩;have HB1:=zb ((zR w).trans (hb1.mono (by simp)));have HD1:=zb (HD.out.below hb1 (by simp));clear hb1;clear HN
   go_wp2_with fail
   refine(HV.out _).mono ?_;rintro e w' ⟨rfl,rfl⟩;have HB3:=HB1;have hn:=HD1.out;obtain⟨c0,c1,c2,c3,cf⟩:=hn.cells;have f0:=cf 0;have f1:=cf 1;have f2:=cf 2;have f3:=cf 3;have hl:=zp hn;have HNN:=zb hn;clear hn cf
   go_wp2_with fail
   have HS:=zb (zD HNN.out HB3.out (Nat.le_refl _) 0 0 ⟨#[]⟩ 0 rfl);unfold tokSet at HS;generalize World.setCell _ _ _=w9 at *;obtain⟨d0,d1,d2,d3,_⟩:=HS.out.1.cells;exact bodyPost_ret (v:=.tuple #[tokAgg 0 0 [] 0,.int .i64 0,.int .i64 20]) (by simp [results, Tryz.results118,go_sem,d0,d1,d2,d3,tokAgg]) rfl (wa HR.out ⟨rfl,HS.out.2⟩ rfl)
theorem ry (s:ByteArray) (w:World) (hs:s.size<=65536) (h34:s.data.toList.head? = some 34):Calls Tryz.prog 119 #[.string s] w (OneIs (strTok s.data.toList) w):=by
 have HN:=zb (fun W=>qt s W (by unfold maxLen;omega) h34);have hle:qsize s.data.toList<=s.size:=s8 s.data.toList;have HR0:Hid (strTok s.data.toList=if (UnqV (s.data.toList.take (qsize s.data.toList))).2=0 then .tok ⟨5,(UnqV (s.data.toList.take (qsize s.data.toList))).1,0⟩ (qsize s.data.toList) else .err 20):=zb rfl
 generalize strTok s.data.toList=rr at *;generalize qsize s.data.toList=n at *;have HV:=zb (fun W=>zba (s.extract 0 n) W (by rw[ByteArray.size_extract];omega));rw[uS] at HV;have hv:=unqV_err (s.data.toList.take n);generalize UnqV (s.data.toList.take n)=v at *;obtain⟨v1,v2⟩:=v;simp only at HV hv HR0;have HD:=zb (TokBox.new w);clear h34;rcases hv with rfl | rfl
 . have HR:Hid (rr=.tok ⟨5,v1,0⟩ n):=zb (by rw[HR0.out];exact if_pos rfl);clear HR0
   go_enter Tryz.func119, Tryz.ntmps119
   go_wp2_with fail
   refine(HN.out _).mono ?_;rintro e w1 ⟨rfl,hb1⟩;have HB1:=zb ((zR w).trans (hb1.mono (by simp)));have HD1:=zb (HD.out.below hb1 (by simp));clear hb1;clear HN
   go_wp2_with fail
   refine(HV.out _).mono ?_;rintro e w2 ⟨rfl,hb2⟩;have HB2:=zb (HB1.out.trans (hb2.mono HB1.out.size));have HD2:=zb (HD1.out.below hb2 (zp HD1.out));clear hb2;have HB3:=HB2;have hn:=HD2.out;obtain⟨c0,c1,c2,c3,cf⟩:=hn.cells;have f0:=cf 0;have f1:=cf 1;have f2:=cf 2;have f3:=cf 3;have hl:=zp hn;have HNN:=zb hn;clear hn cf
   go_wp2_with fail
   have HS:=zb (zD HNN.out HB3.out (Nat.le_refl _) 5 0 ⟨v1.toArray⟩ 0 rfl);unfold tokSet at HS;generalize World.setCell _ _ _=w9 at *;obtain⟨d0,d1,d2,d3,_⟩:=HS.out.1.cells;exact bodyPost_ret (v:=.tuple #[tokAgg 5 0 v1 0,.int .i64 n,.int .i64 0]) (by simp [results, Tryz.results119,go_sem,d0,d1,d2,d3,tokAgg]) rfl (vZ HR.out ⟨rfl,HS.out.2⟩ rfl)
 . have HR:Hid (rr=.err 20):=zb (by rw[HR0.out,if_neg (by decide)]);clear HR0
   go_enter Tryz.func119, Tryz.ntmps119
   go_wp2_with fail
   refine(HN.out _).mono ?_;rintro e w1 ⟨rfl,hb1⟩;have HB1:=zb ((zR w).trans (hb1.mono (by simp)));have HD1:=zb (HD.out.below hb1 (by simp));clear hb1;clear HN
   go_wp2_with fail
   refine(HV.out _).mono ?_;rintro e w2 ⟨rfl,hb2⟩;have HB2:=zb (HB1.out.trans (hb2.mono HB1.out.size));have HD2:=zb (HD1.out.below hb2 (zp HD1.out));clear hb2;have HB3:=HB2;have hn:=HD2.out;obtain⟨c0,c1,c2,c3,cf⟩:=hn.cells;have f0:=cf 0;have f1:=cf 1;have f2:=cf 2;have f3:=cf 3;have hl:=zp hn;have HNN:=zb hn;clear hn cf
   go_wp2_with fail
   have HS:=zb (zD HNN.out HB3.out (Nat.le_refl _) 0 0 ⟨#[]⟩ 0 rfl);unfold tokSet at HS;generalize World.setCell _ _ _=w9 at *;obtain⟨d0,d1,d2,d3,_⟩:=HS.out.1.cells;exact bodyPost_ret (v:=.tuple #[tokAgg 0 0 [] 0,.int .i64 0,.int .i64 20]) (by simp [results, Tryz.results119,go_sem,d0,d1,d2,d3,tokAgg]) rfl (wa HR.out ⟨rfl,HS.out.2⟩ rfl)
end
section
open Go.RowKit
def Syms (w:World):Prop := 1 < w.heap.size/\∃ b off c,w.cell? ⟨1,0,none⟩=some (.slice (some ⟨b,off,none⟩) 20 c)/\b<w.heap.size/\∀ i,i<20->w.cell? ⟨b,off+i,none⟩=some (.string ⟨(signL.getD i []).toArray⟩)
theorem Syms.below {w w':World} (h:Syms w) (hb:Below w.heap.size w w'):Syms w':=by
 obtain⟨h1,b,off,c,h2,h3,h4⟩:=h;exact⟨zd h1 hb.size,b,off,c,(hb.cell (p:=⟨1,0,none⟩) h1).trans h2,zd h3 hb.size,fun i hi=>(hb.cell (p:=⟨b,off+i,none⟩) h3).trans (h4 i hi)⟩
theorem zeB {α:Type} (p:α->Bool) (d:α):∀(l:List α) (i:Nat),(∀ j,j<i->p (l.getD j d)=false)->i<l.length->p (l.getD i d)=true->l.find? p=some (l.getD i d)
 | [],i,_,h,_=>by simp at h
 | x::l,0,_,_,h=>by rw[List.find?_cons,show p x=true from h];rfl
 | x::l,i+1,h0,h1,h2=>by
  rw[List.find?_cons,show p x=false from h0 0 (by omega)]
  exact zeB p d l i (fun j hj=>h0 (j+1) (by omega)) (by simpa using h1) h2
theorem find_no {α:Type} (p:α->Bool) (d:α) (l:List α) (h:∀ j,j<l.length->p (l.getD j d)=false):l.find? p=none:=by
 rw[List.find?_eq_none];intro x hx;obtain⟨j,hj,rfl⟩:=List.getElem_of_mem hx;have:=h j hj;rw[List.getD_eq_getElem?_getD,List.getElem?_eq_getElem hj] at this
 simpa using this
theorem sign_size:∀ i,i<20->(signL.getD i []).length<=2:=by decide
def NoSign (l:List UInt8) (i:Nat):Prop:=∀ j,j<i->(signL.getD j []).isPrefixOf l=false
theorem zby (s:ByteArray) (w:World) (hy:Syms w):Calls Tryz.prog 120 #[.string s] w (OneIs (signTok s.data.toList) w):=by
 have HD:=zb (TokBox.new w);have HW:=zb (zR w);obtain⟨hg,b,off,c,k0,hbl,hk⟩:=hy.below HW.out;have HK:=zb hk;have hwl:w.heap.size<(w.alloc (.cells #[.int .i64 0,.int .i64 0,.string ⟨#[]⟩,.int .i64 0] 69 (0,0))).heap.size:=by simp
 have HSY:Hid (∀ i,i<20->NoSign s.data.toList i->(signL.getD i []).isPrefixOf s.data.toList=true->signTok s.data.toList=.tok ⟨7,signL.getD i [],0⟩ (signL.getD i []).length):=zb (fun i hi hn hp=>by
  unfold signTok;rw[show signL.find? (·.isPrefixOf s.data.toList)=some (signL.getD i []) from zeB _ [] signL i (fun j hj=>hn j hj) hi hp])
 have HSN:Hid (NoSign s.data.toList 20->signTok s.data.toList=.err 20):=zb (fun hn=>by
  unfold signTok;rw[show signL.find? (·.isPrefixOf s.data.toList)=none from find_no _ [] signL (fun j hj=>hn j hj)])
 generalize signTok s.data.toList=rr at *;clear hk hy
 go_enter Tryz.func120, Tryz.ntmps120
 go_upto_region 1 with fail
 generalize w.alloc (.cells #[.int .i64 0,.int .i64 0,.string ⟨#[]⟩,.int .i64 0] 69)=w0 at *
 go_wp2_with fail
 go_loopw [9] (fun vi wr=>∃ i:Nat,i<=20/\vi=.int .i64 i/\wr=w0/\Hid (NoSign s.data.toList i)) (fun vi _=>20-(intOf vi).toNat)
 case atStart=>exact⟨0,by omega,by go_num,rfl,zb (fun j hj=>absurd hj (by omega))⟩
 case round =>
  obtain⟨i,hi,rfl,rfl,HN⟩:=hrel;by_cases hi2:i<20
  . have g1:decide ((i:Int)<20)=true:=decide_eq_true (by omega);have g2:(i:Int)<20:=by omega
    have g3:(0:Int)<=(i:Int):=by omega
    have k1:=HK.out i hi2;have HP:=zb (fun W => Tryz.strings_HasPrefix s ⟨(signL.getD i []).toArray⟩ W);have HS1:=zb (HSY.out i hi2 HN.out);have HN2:Hid ((signL.getD i []).isPrefixOf s.data.toList=false->NoSign s.data.toList (i+1)):=zb (fun hf j hj=>by
     rcases Nat.lt_or_eq_of_le (Nat.le_of_lt_succ hj) with h1 | rfl
     . exact HN.out j h1
     . exact hf)
    have hz:=sign_size i hi2;have HT:=zb (fun W=>vM 7 ⟨(signL.getD i []).toArray⟩ W (by show(signL.getD i []).toArray.size<=_;rw[List.size_toArray];omega));have hsz:(⟨(signL.getD i []).toArray⟩:ByteArray).size=(signL.getD i []).length:=by show(signL.getD i []).toArray.size=_;rw[List.size_toArray]
    generalize signL.getD i []=l at *;cases hp:l.isPrefixOf s.data.toList with
    | true =>
     have HR:=zb (HS1.out hp);clear HS1 HN2
     go_wp2_with fail
     refine(HP.out _).mono ?_;rintro e w' ⟨rfl,rfl⟩;have hpp:Lib.hasPrefix s.data.toList (⟨l.toArray⟩:ByteArray).data.toList=true:=hp;rw[hpp];clear hpp hp
     go_wp2_with fail
     refine(HT.out _).mono ?_;rintro e w1 ⟨rfl,hb1⟩;have HB3:=zb (HW.out.trans (hb1.mono HW.out.size));have hn:=HD.out.below hb1 hwl;obtain⟨c0,c1,c2,c3,cf⟩:=hn.cells;have f0:=cf 0;have f1:=cf 1;have f2:=cf 2;have f3:=cf 3;have hl:=zp hn;have HNN:=zb hn;clear hn cf hb1;unfold tokAgg
     go_wp2_with fail
     have HS:=zb (zD HNN.out HB3.out (Nat.le_refl _) 7 0 ⟨l.toArray⟩ 0 rfl);unfold tokSet at HS;generalize World.setCell _ _ _=w9 at *;obtain⟨d0,d1,d2,d3,_⟩:=HS.out.1.cells;exact bodyPost_ret (v:=.tuple #[tokAgg 7 0 l 0,.int .i64 l.length,.int .i64 0]) (by simp [results, Tryz.results120,go_sem,d0,d1,d2,d3,tokAgg]) rfl (vZ HR.out ⟨rfl,HS.out.2⟩ rfl)
    | false =>
     have HNX:=zb (HN2.out hp);clear HS1 HN2
     go_wp2_with fail
     refine(HP.out _).mono ?_;rintro e w' ⟨rfl,rfl⟩;have hpp:Lib.hasPrefix s.data.toList (⟨l.toArray⟩:ByteArray).data.toList=false:=hp;rw[hpp];clear hpp hp
     go_wp2_with fail
     go_roundw
     case rel=>exact⟨i+1,by omega,by go_num,by trivial,HNX⟩
     case measure=>simp [intOf];omega
  . have g1:decide ((i:Int)<20)=false:=decide_eq_false (by omega);obtain rfl:i=20:=by omega
    have HR:=zb (HSN.out HN.out);obtain⟨c0,c1,c2,c3,cf⟩:=HD.out.cells;have f0:=cf 0;have f1:=cf 1;have f2:=cf 2;have f3:=cf 3;clear cf
    go_wp2_with fail
    have HS:=zb (zD HD.out HW.out (Nat.le_refl _) 0 0 ⟨#[]⟩ 0 rfl);unfold tokSet at HS;generalize World.setCell _ _ _=w9 at *;obtain⟨d0,d1,d2,d3,_⟩:=HS.out.1.cells;exact bodyPost_ret (v:=.tuple #[tokAgg 0 0 [] 0,.int .i64 0,.int .i64 20]) (by simp [results, Tryz.results120,go_sem,d0,d1,d2,d3,tokAgg]) rfl (wa HR.out ⟨rfl,HS.out.2⟩ rfl)
def RuneOf (x:Nat) (c:UInt8):Prop:=(x=c.toNat/\c.toNat<128)∨(128<=x/\128<=c.toNat)
theorem RuneOf.same {x:Nat} {c:UInt8} (h:RuneOf x c):lowN x=isLow c/\upN x=isUp c/\digN x=isDig c/\((x:Int) == 35)=decide (c=35)/\((x:Int) == 34)=decide (c=34)/\((x:Int) == 32)=decide (c=32)/\((x:Int) == 10)=decide (c=10):=by
 rcases h with⟨rfl,h⟩ | ⟨h1,h2⟩
 . have hb:∀ n:Nat,n<256->((c.toNat:Int) == (n:Int))=decide (c=UInt8.ofNat n):=fun n hn=>by
    by_cases hc:c=UInt8.ofNat n
    . rw[decide_eq_true hc];exact(wR hn).2 hc
    . rw[decide_eq_false hc];exact(ws hn).2 hc
   exact⟨rfl,rfl,rfl,hb 35 (by decide),hb 34 (by decide),hb 32 (by decide),hb 10 (by decide)⟩
 . obtain⟨a1,a2,a3,_⟩:=wJ x h1;obtain⟨b1,b2,b3,_⟩:=wJ c.toNat h2;have hn:∀ n:Nat,n<128->((x:Int) == (n:Int))=decide (c=UInt8.ofNat n):=fun n hn=>by
    rw[beq_eq_false_iff_ne.2 (by omega),decide_eq_false];rintro rfl;simp only[UInt8.toNat_ofNat'] at h2;omega
   exact⟨a1.trans b1.symm,a2.trans b2.symm,a3.trans b3.symm,hn 35 (by decide),hn 34 (by decide),hn 32 (by decide),hn 10 (by decide)⟩
theorem qg {r:OneR} {w:World} {e:Ending} {w':World} (h:OneIs r w e w'):∃(t:TK) (n:Nat) (er:Int),e=.returned (.tuple #[tokAgg t.kind 0 t.text t.n,.int .i64 n,.int .i64 er])/\Below w.heap.size w w'/\((er=0/\r=.tok t n)∨(r=.err er/\t=⟨0,[],0⟩/\n=0)):=by
 cases r with
 | tok t n=>exact⟨t,n,0,h.1,h.2,.inl ⟨rfl,rfl⟩⟩
 | err e=>exact⟨⟨0,[],0⟩,0,e,h.1,h.2,.inr ⟨rfl,rfl,rfl⟩⟩
theorem head_cons {s:ByteArray} {c:UInt8} {r:List UInt8} (h:s.data.toList=c::r):1<=s.size:=by
 have:s.data.toList.length=s.size:=rfl;rw[h] at this;simp at this;omega
theorem lex_read (s:ByteArray) (x:Nat) (w:World) (hs:s.size<=65536) (hy:Syms w) (c:UInt8) (r:List UInt8) (hc:s.data.toList=c::r) (hx:RuneOf x c):Calls Tryz.prog 68 #[.string s,.int .i32 x] w (OneIs (oneV s.data.toList) w):=by
 have HD:=zb (TokBox.new w);have HW:=zb (zR w);have HSY:=zb (hy.below HW.out);obtain⟨h1,h2,h3,h4,h5,_⟩:=hx.same;have HL:=zb (fun W=>zbt x W);have HU:=zb (fun W=>zdG x W);have HG:=zb (fun W=>zgV x W);rw[h1] at HL;rw[h2] at HU;rw[h3] at HG;have HWL:Hid (w.heap.size<(w.alloc (.cells #[.int .i64 0,.int .i64 0,.string ⟨#[]⟩,.int .i64 0] 69 (0,0))).heap.size):=zb (by simp);have HO:=zb (show oneV s.data.toList=_ by rw[hc,zC,← hc]);have HH:=zb (show s.data.toList.head? = some c by rw[hc];rfl);have HT:=zb (show s.data.toList.drop 1=r by rw[hc];rfl);have hs1:=head_cons hc;clear hc hy hx h1 h2 h3;generalize hrr:oneV s.data.toList=rr at *;clear hrr
 go_enter Tryz.func68, Tryz.ntmps68
 go_upto_region 1 with fail
 generalize w.alloc (.cells #[.int .i64 0,.int .i64 0,.string ⟨#[]⟩,.int .i64 0] 69 (0,0))=w0 at *;have HFIN:Hid (∀(W1:World) (e:Ending),OneIs rr w0 e W1->∃(t:TK) (n:Nat) (er:Int),e=.returned (.tuple #[tokAgg t.kind 0 t.text t.n,.int .i64 n,.int .i64 er])/\TokBox W1 w.heap.size 0 0 ⟨#[]⟩ 0/\Below w.heap.size w W1/\∀ W2,Below w.heap.size w W2->OneIs rr w (.returned (.tuple #[tokAgg t.kind 0 t.text t.n,.int .i64 n,.int .i64 er])) W2):=zb (fun W1 e ho=>by
  obtain⟨t,n,er,rfl,hb,hor⟩:=qg ho;refine⟨t,n,er,rfl,HD.out.below hb HWL.out,HW.out.trans (hb.mono HW.out.size),fun W2 hb2=>?_⟩;rcases hor with⟨rfl,rfl⟩ | ⟨rfl,rfl,rfl⟩
  . exact⟨rfl,hb2⟩
  . exact⟨rfl,hb2⟩)
 go_wp2_with fail
 refine(HL.out _).mono ?_;rintro e w' ⟨rfl,rfl⟩;cases hlow:isLow c with
 | true =>
  have HB:Hid (Calls Tryz.prog 113 #[.string s] w0 (OneIs rr w0)):=zb (by
   have h:=zbs s w0 hs;have ho:=HO.out;rw[if_pos hlow] at ho;rw[ho];exact h)
  clear hlow;clear HL HU HG HO HH HT HSY HD HW HWL
  go_wp2_with fail
  refine HB.out.mono ?_;rintro e W1 ho;obtain⟨t,n,er,rfl,hbox,hbw,hfin⟩:=HFIN.out W1 e ho;obtain⟨tk,tt,tn⟩:=t;have HF:=zb hfin;have HN:=zb hbox;have HW1:=zb hbw;obtain⟨c0,c1,c2,c3,cf⟩:=hbox.cells;have f0:=cf 0;have f1:=cf 1;have f2:=cf 2;have f3:=cf 3;have hl:=zp hbox;clear ho hfin hbox hbw cf HFIN HB;unfold tokAgg
  go_wp2_with fail
  have HS:=zb (zD HN.out HW1.out (Nat.le_refl _) tk 0 ⟨tt.toArray⟩ tn rfl);unfold tokSet at HS;generalize World.setCell _ _ _=w9 at *;obtain⟨d0,d1,d2,d3,_⟩:=HS.out.1.cells;exact bodyPost_ret (v:=.tuple #[tokAgg tk 0 tt tn,.int .i64 n,.int .i64 er]) (by simp [results, Tryz.results68,go_sem,d0,d1,d2,d3,tokAgg]) rfl (HF.out _ HS.out.2)
 | false =>
  go_wp2_with fail
  refine(HU.out _).mono ?_;rintro e w' ⟨rfl,rfl⟩;cases hup:isUp c with
  | true =>
   have HB:Hid (Calls Tryz.prog 115 #[.string s] w0 (OneIs rr w0)):=zb (by
    have h:=qP s w0 hs;have ho:=HO.out;rw[if_neg (by rw[hlow];decide),if_pos hup] at ho;rw[ho];exact h)
   clear hlow hup;clear HL HU HG HO HH HT HSY HD HW HWL
   go_wp2_with fail
   refine HB.out.mono ?_;rintro e W1 ho;obtain⟨t,n,er,rfl,hbox,hbw,hfin⟩:=HFIN.out W1 e ho;obtain⟨tk,tt,tn⟩:=t;have HF:=zb hfin;have HN:=zb hbox;have HW1:=zb hbw;obtain⟨c0,c1,c2,c3,cf⟩:=hbox.cells;have f0:=cf 0;have f1:=cf 1;have f2:=cf 2;have f3:=cf 3;have hl:=zp hbox;clear ho hfin hbox hbw cf HFIN HB;unfold tokAgg
   go_wp2_with fail
   have HS:=zb (zD HN.out HW1.out (Nat.le_refl _) tk 0 ⟨tt.toArray⟩ tn rfl);unfold tokSet at HS;generalize World.setCell _ _ _=w9 at *;obtain⟨d0,d1,d2,d3,_⟩:=HS.out.1.cells;exact bodyPost_ret (v:=.tuple #[tokAgg tk 0 tt tn,.int .i64 n,.int .i64 er]) (by simp [results, Tryz.results68,go_sem,d0,d1,d2,d3,tokAgg]) rfl (HF.out _ HS.out.2)
  | false =>
   cases h35:decide (c=35) with
   | true =>
    have HB:Hid (Calls Tryz.prog 116 #[.string s] w0 (OneIs rr w0)):=zb (by
     have h:=zb1 s w0 hs hs1;have ho:=HO.out;rw[if_neg (by rw[hlow];decide),if_neg (by rw[hup];decide),if_pos (of_decide_eq_true h35),← HT.out] at ho;rw[ho];exact h)
    rw[h35] at h4;clear hlow hup h35;clear HL HU HG HO HH HT HSY HD HW HWL
    go_wp2_with fail
    refine HB.out.mono ?_;rintro e W1 ho;obtain⟨t,n,er,rfl,hbox,hbw,hfin⟩:=HFIN.out W1 e ho;obtain⟨tk,tt,tn⟩:=t;have HF:=zb hfin;have HN:=zb hbox;have HW1:=zb hbw;obtain⟨c0,c1,c2,c3,cf⟩:=hbox.cells;have f0:=cf 0;have f1:=cf 1;have f2:=cf 2;have f3:=cf 3;have hl:=zp hbox;clear ho hfin hbox hbw cf HFIN HB;unfold tokAgg
    go_wp2_with fail
    have HS:=zb (zD HN.out HW1.out (Nat.le_refl _) tk 0 ⟨tt.toArray⟩ tn rfl);unfold tokSet at HS;generalize World.setCell _ _ _=w9 at *;obtain⟨d0,d1,d2,d3,_⟩:=HS.out.1.cells;exact bodyPost_ret (v:=.tuple #[tokAgg tk 0 tt tn,.int .i64 n,.int .i64 er]) (by simp [results, Tryz.results68,go_sem,d0,d1,d2,d3,tokAgg]) rfl (HF.out _ HS.out.2)
   | false =>
    rw[h35] at h4
    go_wp2_with fail
    refine(HG.out _).mono ?_;rintro e w' ⟨rfl,rfl⟩;cases hdg:isDig c with
    | true =>
     have HB:Hid (Calls Tryz.prog 118 #[.string s] w0 (OneIs rr w0)):=zb (by
      have h:=zcz s w0 hs;have ho:=HO.out;rw[if_neg (by rw[hlow];decide),if_neg (by rw[hup];decide),if_neg (of_decide_eq_false h35),if_pos hdg] at ho;rw[ho];exact h)
     clear hlow hup h35 hdg;clear HL HU HG HO HH HT HSY HD HW HWL
     go_wp2_with fail
     refine HB.out.mono ?_;rintro e W1 ho;obtain⟨t,n,er,rfl,hbox,hbw,hfin⟩:=HFIN.out W1 e ho;obtain⟨tk,tt,tn⟩:=t;have HF:=zb hfin;have HN:=zb hbox;have HW1:=zb hbw;obtain⟨c0,c1,c2,c3,cf⟩:=hbox.cells;have f0:=cf 0;have f1:=cf 1;have f2:=cf 2;have f3:=cf 3;have hl:=zp hbox;clear ho hfin hbox hbw cf HFIN HB;unfold tokAgg
     go_wp2_with fail
     have HS:=zb (zD HN.out HW1.out (Nat.le_refl _) tk 0 ⟨tt.toArray⟩ tn rfl);unfold tokSet at HS;generalize World.setCell _ _ _=w9 at *;obtain⟨d0,d1,d2,d3,_⟩:=HS.out.1.cells;exact bodyPost_ret (v:=.tuple #[tokAgg tk 0 tt tn,.int .i64 n,.int .i64 er]) (by simp [results, Tryz.results68,go_sem,d0,d1,d2,d3,tokAgg]) rfl (HF.out _ HS.out.2)
    | false =>
     cases h34:decide (c=34) with
     | true =>
      have HB:Hid (Calls Tryz.prog 119 #[.string s] w0 (OneIs rr w0)):=zb (by
       have h:=ry s w0 hs (by rw[HH.out,of_decide_eq_true h34]);have ho:=HO.out;rw[if_neg (by rw[hlow];decide),if_neg (by rw[hup];decide),if_neg (of_decide_eq_false h35),if_neg (by rw[hdg];decide),if_pos (of_decide_eq_true h34)] at ho;rw[ho];exact h)
      rw[h34] at h5;clear hlow hup h35 hdg h34;clear HL HU HG HO HH HT HSY HD HW HWL
      go_wp2_with fail
      refine HB.out.mono ?_;rintro e W1 ho;obtain⟨t,n,er,rfl,hbox,hbw,hfin⟩:=HFIN.out W1 e ho;obtain⟨tk,tt,tn⟩:=t;have HF:=zb hfin;have HN:=zb hbox;have HW1:=zb hbw;obtain⟨c0,c1,c2,c3,cf⟩:=hbox.cells;have f0:=cf 0;have f1:=cf 1;have f2:=cf 2;have f3:=cf 3;have hl:=zp hbox;clear ho hfin hbox hbw cf HFIN HB;unfold tokAgg
      go_wp2_with fail
      have HS:=zb (zD HN.out HW1.out (Nat.le_refl _) tk 0 ⟨tt.toArray⟩ tn rfl);unfold tokSet at HS;generalize World.setCell _ _ _=w9 at *;obtain⟨d0,d1,d2,d3,_⟩:=HS.out.1.cells;exact bodyPost_ret (v:=.tuple #[tokAgg tk 0 tt tn,.int .i64 n,.int .i64 er]) (by simp [results, Tryz.results68,go_sem,d0,d1,d2,d3,tokAgg]) rfl (HF.out _ HS.out.2)
     | false =>
      have HB:Hid (Calls Tryz.prog 120 #[.string s] w0 (OneIs rr w0)):=zb (by
       have h:=zby s w0 HSY.out;have ho:=HO.out;rw[if_neg (by rw[hlow];decide),if_neg (by rw[hup];decide),if_neg (of_decide_eq_false h35),if_neg (by rw[hdg];decide),if_neg (of_decide_eq_false h34)] at ho;rw[ho];exact h)
      rw[h34] at h5;clear hlow hup h35 hdg h34;clear HL HU HG HO HH HT HSY HD HW HWL
      go_wp2_with fail
      refine HB.out.mono ?_;rintro e W1 ho;obtain⟨t,n,er,rfl,hbox,hbw,hfin⟩:=HFIN.out W1 e ho;obtain⟨tk,tt,tn⟩:=t;have HF:=zb hfin;have HN:=zb hbox;have HW1:=zb hbw;obtain⟨c0,c1,c2,c3,cf⟩:=hbox.cells;have f0:=cf 0;have f1:=cf 1;have f2:=cf 2;have f3:=cf 3;have hl:=zp hbox;clear ho hfin hbox hbw cf HFIN HB;unfold tokAgg
      go_wp2_with fail
      have HS:=zb (zD HN.out HW1.out (Nat.le_refl _) tk 0 ⟨tt.toArray⟩ tn rfl);unfold tokSet at HS;generalize World.setCell _ _ _=w9 at *;obtain⟨d0,d1,d2,d3,_⟩:=HS.out.1.cells;exact bodyPost_ret (v:=.tuple #[tokAgg tk 0 tt tn,.int .i64 n,.int .i64 er]) (by simp [results, Tryz.results68,go_sem,d0,d1,d2,d3,tokAgg]) rfl (HF.out _ HS.out.2)
end
