/-
  Lex: the walks of IsWord and of the readers: one for each kind of token.
-/
import Derived.Test.YtigbapkdpaahjaaDoorLText
namespace Go.Proofs.YtigbapkdpaahjaaDoor
open Go.RowKit
theorem key_yes {s : ByteArray} {l : List UInt8} (h : (s.toList == l) = true) (hl : isKey l = true) : isKey s.data.toList = true := by
  rw [beq_iff_eq, list_of] at h
  rw [h]; exact hl
set_option maxRecDepth 100000 in
set_option maxHeartbeats 4000000 in
theorem lex_IsWord (s : ByteArray) (w : World) : Calls Tryd.prog 13 #[.string s] w fun e w' => e = .returned (.bool (isKey s.data.toList)) ∧ w = w' := by
  cases h0 : (s.toList == [108, 101, 116]) with
  | true =>
    have HK := Lib.hid (key_yes h0 (by decide))
    go_enter Tryd.func13, Tryd.ntmps13
    go_wp2_with fail
    go_ret
    exact ⟨by rw [HK.out]; rfl, rfl⟩
  | false =>
   cases h1 : (s.toList == [114, 101, 99]) with
   | true =>
     have HK := Lib.hid (key_yes h1 (by decide))
     go_enter Tryd.func13, Tryd.ntmps13
     go_wp2_with fail
     go_ret
     exact ⟨by rw [HK.out]; rfl, rfl⟩
   | false =>
    cases h2 : (s.toList == [105, 110]) with
    | true =>
      have HK := Lib.hid (key_yes h2 (by decide))
      go_enter Tryd.func13, Tryd.ntmps13
      go_wp2_with fail
      go_ret
      exact ⟨by rw [HK.out]; rfl, rfl⟩
    | false =>
     cases h3 : (s.toList == [102, 117, 110]) with
     | true =>
       have HK := Lib.hid (key_yes h3 (by decide))
       go_enter Tryd.func13, Tryd.ntmps13
       go_wp2_with fail
       go_ret
       exact ⟨by rw [HK.out]; rfl, rfl⟩
     | false =>
      cases h4 : (s.toList == [109, 97, 116, 99, 104]) with
      | true =>
        have HK := Lib.hid (key_yes h4 (by decide))
        go_enter Tryd.func13, Tryd.ntmps13
        go_wp2_with fail
        go_ret
        exact ⟨by rw [HK.out]; rfl, rfl⟩
      | false =>
       cases h5 : (s.toList == [119, 105, 116, 104]) with
       | true =>
         have HK := Lib.hid (key_yes h5 (by decide))
         go_enter Tryd.func13, Tryd.ntmps13
         go_wp2_with fail
         go_ret
         exact ⟨by rw [HK.out]; rfl, rfl⟩
       | false =>
        cases h6 : (s.toList == [101, 110, 100]) with
        | true =>
          have HK := Lib.hid (key_yes h6 (by decide))
          go_enter Tryd.func13, Tryd.ntmps13
          go_wp2_with fail
          go_ret
          exact ⟨by rw [HK.out]; rfl, rfl⟩
        | false =>
         cases h7 : (s.toList == [105, 102]) with
         | true =>
           have HK := Lib.hid (key_yes h7 (by decide))
           go_enter Tryd.func13, Tryd.ntmps13
           go_wp2_with fail
           go_ret
           exact ⟨by rw [HK.out]; rfl, rfl⟩
         | false =>
          cases h8 : (s.toList == [116, 104, 101, 110]) with
          | true =>
            have HK := Lib.hid (key_yes h8 (by decide))
            go_enter Tryd.func13, Tryd.ntmps13
            go_wp2_with fail
            go_ret
            exact ⟨by rw [HK.out]; rfl, rfl⟩
          | false =>
           cases h9 : (s.toList == [101, 108, 115, 101]) with
           | true =>
             have HK := Lib.hid (key_yes h9 (by decide))
             go_enter Tryd.func13, Tryd.ntmps13
             go_wp2_with fail
             go_ret
             exact ⟨by rw [HK.out]; rfl, rfl⟩
           | false =>
            cases h10 : (s.toList == [116, 114, 117, 101]) with
            | true =>
              have HK := Lib.hid (key_yes h10 (by decide))
              go_enter Tryd.func13, Tryd.ntmps13
              go_wp2_with fail
              go_ret
              exact ⟨by rw [HK.out]; rfl, rfl⟩
            | false =>
             cases h11 : (s.toList == [102, 97, 108, 115, 101]) with
             | true =>
               have HK := Lib.hid (key_yes h11 (by decide))
               go_enter Tryd.func13, Tryd.ntmps13
               go_wp2_with fail
               go_ret
               exact ⟨by rw [HK.out]; rfl, rfl⟩
             | false =>
              cases h12 : (s.toList == [114, 97, 105, 115, 101]) with
              | true =>
                have HK := Lib.hid (key_yes h12 (by decide))
                go_enter Tryd.func13, Tryd.ntmps13
                go_wp2_with fail
                go_ret
                exact ⟨by rw [HK.out]; rfl, rfl⟩
              | false =>
               cases h13 : (s.toList == [116, 114, 121]) with
               | true =>
                 have HK := Lib.hid (key_yes h13 (by decide))
                 go_enter Tryd.func13, Tryd.ntmps13
                 go_wp2_with fail
                 go_ret
                 exact ⟨by rw [HK.out]; rfl, rfl⟩
               | false =>
                cases h14 : (s.toList == [110, 111, 116]) with
                | true =>
                  have HK := Lib.hid (key_yes h14 (by decide))
                  go_enter Tryd.func13, Tryd.ntmps13
                  go_wp2_with fail
                  go_ret
                  exact ⟨by rw [HK.out]; rfl, rfl⟩
                | false =>
                 cases h15 : (s.toList == [114, 101, 102]) with
                 | true =>
                   have HK := Lib.hid (key_yes h15 (by decide))
                   go_enter Tryd.func13, Tryd.ntmps13
                   go_wp2_with fail
                   go_ret
                   exact ⟨by rw [HK.out]; rfl, rfl⟩
                 | false =>
                  cases h16 : (s.toList == [97, 114, 114, 97, 121]) with
                  | true =>
                    have HK := Lib.hid (key_yes h16 (by decide))
                    go_enter Tryd.func13, Tryd.ntmps13
                    go_wp2_with fail
                    go_ret
                    exact ⟨by rw [HK.out]; rfl, rfl⟩
                  | false =>
                   cases h17 : (s.toList == [103, 101, 116]) with
                   | true =>
                     have HK := Lib.hid (key_yes h17 (by decide))
                     go_enter Tryd.func13, Tryd.ntmps13
                     go_wp2_with fail
                     go_ret
                     exact ⟨by rw [HK.out]; rfl, rfl⟩
                   | false =>
                    cases h18 : (s.toList == [115, 101, 116]) with
                    | true =>
                      have HK := Lib.hid (key_yes h18 (by decide))
                      go_enter Tryd.func13, Tryd.ntmps13
                      go_wp2_with fail
                      go_ret
                      exact ⟨by rw [HK.out]; rfl, rfl⟩
                    | false =>
                     cases h19 : (s.toList == [108, 101, 110]) with
                     | true =>
                       have HK := Lib.hid (key_yes h19 (by decide))
                       go_enter Tryd.func13, Tryd.ntmps13
                       go_wp2_with fail
                       go_ret
                       exact ⟨by rw [HK.out]; rfl, rfl⟩
                     | false =>
                      cases h20 : (s.toList == [115, 105, 122, 101]) with
                      | true =>
                        have HK := Lib.hid (key_yes h20 (by decide))
                        go_enter Tryd.func13, Tryd.ntmps13
                        go_wp2_with fail
                        go_ret
                        exact ⟨by rw [HK.out]; rfl, rfl⟩
                      | false =>
                       cases h21 : (s.toList == [98, 121, 116, 101]) with
                       | true =>
                         have HK := Lib.hid (key_yes h21 (by decide))
                         go_enter Tryd.func13, Tryd.ntmps13
                         go_wp2_with fail
                         go_ret
                         exact ⟨by rw [HK.out]; rfl, rfl⟩
                       | false =>
                        cases h22 : (s.toList == [99, 97, 116]) with
                        | true =>
                          have HK := Lib.hid (key_yes h22 (by decide))
                          go_enter Tryd.func13, Tryd.ntmps13
                          go_wp2_with fail
                          go_ret
                          exact ⟨by rw [HK.out]; rfl, rfl⟩
                        | false =>
                         cases h23 : (s.toList == [103, 101, 116, 99]) with
                         | true =>
                           have HK := Lib.hid (key_yes h23 (by decide))
                           go_enter Tryd.func13, Tryd.ntmps13
                           go_wp2_with fail
                           go_ret
                           exact ⟨by rw [HK.out]; rfl, rfl⟩
                         | false =>
                          cases h24 : (s.toList == [112, 117, 116, 99]) with
                          | true =>
                            have HK := Lib.hid (key_yes h24 (by decide))
                            go_enter Tryd.func13, Tryd.ntmps13
                            go_wp2_with fail
                            go_ret
                            exact ⟨by rw [HK.out]; rfl, rfl⟩
                          | false =>
                           have HK : Hid (isKey s.data.toList = false) := Lib.hid (by
                             rw [list_of] at h0 h1 h2 h3 h4 h5 h6 h7 h8 h9 h10 h11 h12 h13 h14 h15 h16 h17 h18 h19 h20 h21 h22 h23 h24
                             unfold isKey keyL
                             simp only [List.contains_cons, List.contains_nil, Bool.or_false, Bool.or_eq_false_iff]
                             exact ⟨h0, h1, h2, h3, h4, h5, h6, h7, h8, h9, h10, h11, h12, h13, h14, h15, h16, h17, h18, h19, h20, h21, h22, h23, h24⟩)
                           go_enter Tryd.func13, Tryd.ntmps13
                           go_wp2_with fail
                           go_ret
                           exact ⟨by rw [HK.out]; rfl, rfl⟩
/-- A token, how many bytes it has, and no error; or an error. -/
def Three (v : Value) (n e : Int) (w : World) (x : Ending) (w' : World) : Prop := x = .returned (.tuple #[v, .int .i64 n, .int .i64 e]) ∧ Below w.heap.size w w'
/-- What stands first, or what is wrong. -/
def OneIs (r : OneR) (w : World) (x : Ending) (w' : World) : Prop := match r with
  | .tok t n => Three (tokAgg t.kind 0 t.text t.n) n 0 w x w'
  | .err e => Three (tokAgg 0 0 [] 0) 0 e w x w'
theorem oneIs_tok {r : OneR} {t : TK} {n : Nat} (h : r = .tok t n) {v : Value} {w w' : World} {x : Ending} (hx : Three v n 0 w x w') (hv : v = tokAgg t.kind 0 t.text t.n) : OneIs r w x w' := by
  subst h; subst hv; exact hx
theorem oneIs_err {r : OneR} {e : Int} (h : r = .err e) {v : Value} {w w' : World} {x : Ending} (hx : Three v 0 e w x w') (hv : v = tokAgg 0 0 [] 0) : OneIs r w x w' := by
  subst h; subst hv; exact hx
theorem extract_take (s : ByteArray) (k : Nat) : (s.extract 0 k).data.toList = s.data.toList.take k := by rw [Lib.extract_data]; simp
theorem extract_name (s : ByteArray) : (s.extract 0 (nameOf s.data.toList).length).data.toList = nameOf s.data.toList := by rw [extract_take, nameOf_take]
theorem name_le (s : ByteArray) : (nameOf s.data.toList).length ≤ s.size := nameOf_len s.data.toList
theorem unqV_err (l : List UInt8) : (UnqV l).2 = 0 ∨ (UnqV l).2 = 5 := by
  unfold UnqV
  split
  · exact .inr rfl
  · split
    · exact .inl rfl
    · exact .inr rfl
set_option maxRecDepth 100000 in
set_option maxHeartbeats 2000000 in
theorem lex_readName_true (s : ByteArray) (w : World) (hs : s.size ≤ 65536) (hk : isKey (nameOf s.data.toList) = true) : Calls Tryd.prog 21 #[.string s] w (Three (tokAgg 6 0 (nameOf s.data.toList) 0) (nameOf s.data.toList).length 0 w) := by
  have HN := Lib.hid (fun W => lex_nameSize s W)
  have hle := name_le s
  have HX := Lib.hid (extract_name s)
  generalize nameOf s.data.toList = l at *
  generalize l.length = n at *
  have HK := Lib.hid (fun W => lex_IsWord (s.extract 0 n) W)
  have HT := Lib.hid (fun (k : Int) W => lex_text k (s.extract 0 n) W (by rw [ByteArray.size_extract]; omega))
  rw [HX.out] at HK HT
  rw [hk] at HK
  have HD := Lib.hid (TokBox.new w)
  clear hk
  go_enter Tryd.func21, Tryd.ntmps21
  go_wp2_with fail
  refine (HN.out _).mono ?_
  rintro e w1 ⟨rfl, hb1⟩
  have HB1 := Lib.hid ((below_tok w).trans (hb1.mono (by simp)))
  have HD1 := Lib.hid (HD.out.below hb1 (by simp))
  clear hb1
  clear HN
  go_wp2_with fail
  refine (HK.out _).mono ?_
  rintro e w' ⟨rfl, rfl⟩
  go_wp2_with fail
  refine (HT.out 6 _).mono ?_
  rintro e w3 ⟨rfl, hb2⟩
  have HB2 := Lib.hid (HB1.out.trans (hb2.mono HB1.out.size))
  have HD2 := Lib.hid (HD1.out.below hb2 (box_lt HD1.out))
  clear hb2
  have HB3 := HB2
  have hn := HD2.out
  obtain ⟨c0, c1, c2, c3, cf⟩ := hn.cells
  have f0 := cf 0
  have f1 := cf 1
  have f2 := cf 2
  have f3 := cf 3
  have hl := box_lt hn
  have HNN := Lib.hid hn
  clear hn cf
  unfold tokAgg
  go_wp2_with fail
  have HS := Lib.hid (tok_stored HNN.out HB3.out (Nat.le_refl _) 6 0 ⟨l.toArray⟩ 0 rfl)
  unfold tokSet at HS
  generalize World.setCell _ _ _ = w9 at *
  obtain ⟨d0, d1, d2, d3, _⟩ := HS.out.1.cells
  exact bodyPost_ret (v := .tuple #[tokAgg 6 0 l 0, .int .i64 n, .int .i64 0]) (by simp [results, Tryd.results21, go_sem, d0, d1, d2, d3, tokAgg]) rfl ⟨rfl, HS.out.2⟩
set_option maxRecDepth 100000 in
set_option maxHeartbeats 2000000 in
theorem lex_readName_false (s : ByteArray) (w : World) (hs : s.size ≤ 65536) (hk : isKey (nameOf s.data.toList) = false) : Calls Tryd.prog 21 #[.string s] w (Three (tokAgg 1 0 (nameOf s.data.toList) 0) (nameOf s.data.toList).length 0 w) := by
  have HN := Lib.hid (fun W => lex_nameSize s W)
  have hle := name_le s
  have HX := Lib.hid (extract_name s)
  generalize nameOf s.data.toList = l at *
  generalize l.length = n at *
  have HK := Lib.hid (fun W => lex_IsWord (s.extract 0 n) W)
  have HT := Lib.hid (fun (k : Int) W => lex_text k (s.extract 0 n) W (by rw [ByteArray.size_extract]; omega))
  rw [HX.out] at HK HT
  rw [hk] at HK
  have HD := Lib.hid (TokBox.new w)
  clear hk
  go_enter Tryd.func21, Tryd.ntmps21
  go_wp2_with fail
  refine (HN.out _).mono ?_
  rintro e w1 ⟨rfl, hb1⟩
  have HB1 := Lib.hid ((below_tok w).trans (hb1.mono (by simp)))
  have HD1 := Lib.hid (HD.out.below hb1 (by simp))
  clear hb1
  clear HN
  go_wp2_with fail
  refine (HK.out _).mono ?_
  rintro e w' ⟨rfl, rfl⟩
  go_wp2_with fail
  refine (HT.out 1 _).mono ?_
  rintro e w3 ⟨rfl, hb2⟩
  have HB2 := Lib.hid (HB1.out.trans (hb2.mono HB1.out.size))
  have HD2 := Lib.hid (HD1.out.below hb2 (box_lt HD1.out))
  clear hb2
  have HB3 := HB2
  have hn := HD2.out
  obtain ⟨c0, c1, c2, c3, cf⟩ := hn.cells
  have f0 := cf 0
  have f1 := cf 1
  have f2 := cf 2
  have f3 := cf 3
  have hl := box_lt hn
  have HNN := Lib.hid hn
  clear hn cf
  unfold tokAgg
  go_wp2_with fail
  have HS := Lib.hid (tok_stored HNN.out HB3.out (Nat.le_refl _) 1 0 ⟨l.toArray⟩ 0 rfl)
  unfold tokSet at HS
  generalize World.setCell _ _ _ = w9 at *
  obtain ⟨d0, d1, d2, d3, _⟩ := HS.out.1.cells
  exact bodyPost_ret (v := .tuple #[tokAgg 1 0 l 0, .int .i64 n, .int .i64 0]) (by simp [results, Tryd.results21, go_sem, d0, d1, d2, d3, tokAgg]) rfl ⟨rfl, HS.out.2⟩
theorem lex_readName (s : ByteArray) (w : World) (hs : s.size ≤ 65536) : Calls Tryd.prog 21 #[.string s] w (Three (tokAgg (if isKey (nameOf s.data.toList) = true then 6 else 1) 0 (nameOf s.data.toList) 0) (nameOf s.data.toList).length 0 w) := by
  split
  · rename_i h; exact lex_readName_true s w hs h
  · rename_i h; exact lex_readName_false s w hs (by simpa using h)
set_option maxRecDepth 100000 in
set_option maxHeartbeats 2000000 in
theorem lex_readUpper (s : ByteArray) (w : World) (hs : s.size ≤ 65536) : Calls Tryd.prog 23 #[.string s] w (Three (tokAgg 2 0 (nameOf s.data.toList) 0) (nameOf s.data.toList).length 0 w) := by
  have HN := Lib.hid (fun W => lex_nameSize s W)
  have hle := name_le s
  have HX := Lib.hid (extract_name s)
  generalize nameOf s.data.toList = l at *
  generalize l.length = n at *
  have HT := Lib.hid (fun (k : Int) W => lex_text k (s.extract 0 n) W (by rw [ByteArray.size_extract]; omega))
  rw [HX.out] at HT
  have HD := Lib.hid (TokBox.new w)
  go_enter Tryd.func23, Tryd.ntmps23
  go_wp2_with fail
  refine (HN.out _).mono ?_
  rintro e w1 ⟨rfl, hb1⟩
  have HB1 := Lib.hid ((below_tok w).trans (hb1.mono (by simp)))
  have HD1 := Lib.hid (HD.out.below hb1 (by simp))
  clear hb1
  clear HN
  go_wp2_with fail
  refine (HT.out 2 _).mono ?_
  rintro e w3 ⟨rfl, hb2⟩
  have HB2 := Lib.hid (HB1.out.trans (hb2.mono HB1.out.size))
  have HD2 := Lib.hid (HD1.out.below hb2 (box_lt HD1.out))
  clear hb2
  have HB3 := HB2
  have hn := HD2.out
  obtain ⟨c0, c1, c2, c3, cf⟩ := hn.cells
  have f0 := cf 0
  have f1 := cf 1
  have f2 := cf 2
  have f3 := cf 3
  have hl := box_lt hn
  have HNN := Lib.hid hn
  clear hn cf
  unfold tokAgg
  go_wp2_with fail
  have HS := Lib.hid (tok_stored HNN.out HB3.out (Nat.le_refl _) 2 0 ⟨l.toArray⟩ 0 rfl)
  unfold tokSet at HS
  generalize World.setCell _ _ _ = w9 at *
  obtain ⟨d0, d1, d2, d3, _⟩ := HS.out.1.cells
  exact bodyPost_ret (v := .tuple #[tokAgg 2 0 l 0, .int .i64 n, .int .i64 0]) (by simp [results, Tryd.results23, go_sem, d0, d1, d2, d3, tokAgg]) rfl ⟨rfl, HS.out.2⟩
set_option maxRecDepth 100000 in
set_option maxHeartbeats 2000000 in
theorem lex_readTag (s : ByteArray) (w : World) (hs : s.size ≤ 65536) (h1 : 1 ≤ s.size) : Calls Tryd.prog 24 #[.string s] w (OneIs (tagTok (s.data.toList.drop 1)) w) := by
  have HN := Lib.hid (fun W => lex_nameSize (s.extract 1 s.size) W)
  have HXT : Hid ((s.extract 1 s.size).data.toList = s.data.toList.drop 1) := Lib.hid (by rw [Lib.extract_data]; exact List.take_of_length_le (by rw [List.length_drop]; exact Nat.le_refl _))
  have hts : (s.extract 1 s.size).size = s.size - 1 := by rw [ByteArray.size_extract]; omega
  rw [← HXT.out]
  have hle := name_le (s.extract 1 s.size)
  have HX := Lib.hid (extract_name (s.extract 1 s.size))
  have HD := Lib.hid (TokBox.new w)
  have g1 : (1 : Int) ≤ (s.size : Int) := by omega
  by_cases ht : 0 < (s.extract 1 s.size).size
  · have e0 : (s.extract 1 s.size).toList.isEmpty = false := by
      rw [list_of, List.isEmpty_eq_false_iff]
      intro h9
      have h8 : (s.extract 1 s.size).size = 0 := congrArg List.length h9
      omega
    have e1 : ((s.extract 1 s.size).toList == []) = false := by rw [beq_eq_false_iff_ne]; intro h9; rw [h9] at e0; cases e0
    have hix := fun W => index_at (s.extract 1 s.size) 0 ht 0 rfl W
    have HH := Lib.hid (head_of (s.extract 1 s.size) ht)
    generalize (s.extract 1 s.size)[0] = c at *
    have HU := Lib.hid (fun W => lex_up c.toNat W)
    have E1 : IntKind.i32.wrap (c.toNat : Int) = (c.toNat : Int) := by rw [IntKind.wrap_i32]; have := c.toNat_lt; omega
    cases hu : isUp c with
    | true =>
      have HR : Hid (tagTok (s.extract 1 s.size).data.toList = .tok ⟨3, nameOf (s.extract 1 s.size).data.toList, 0⟩ (1 + (nameOf (s.extract 1 s.size).data.toList).length)) := Lib.hid (by unfold tagTok; rw [HH.out]; exact if_pos hu)
      generalize tagTok (s.extract 1 s.size).data.toList = rr at *
      generalize nameOf (s.extract 1 s.size).data.toList = l at *
      generalize hn : l.length = n at *
      have HT := Lib.hid (fun (k : Int) W => lex_text k ((s.extract 1 s.size).extract 0 n) W (by rw [ByteArray.size_extract]; omega))
      rw [HX.out] at HT
      rw [up_at, hu] at HU
      clear hu hn HH HXT
      go_enter Tryd.func24, Tryd.ntmps24
      go_wp2_with fail
      refine (HU.out _).mono ?_
      rintro e w' ⟨rfl, rfl⟩
      go_wp2_with fail
      refine (HN.out _).mono ?_
      rintro e w1 ⟨rfl, hb1⟩
      have HB1 := Lib.hid ((below_tok w).trans (hb1.mono (by simp)))
      have HD1 := Lib.hid (HD.out.below hb1 (by simp))
      clear hb1
      clear HN hix
      go_wp2_with fail
      refine (HT.out 3 _).mono ?_
      rintro e w3 ⟨rfl, hb2⟩
      have HB2 := Lib.hid (HB1.out.trans (hb2.mono HB1.out.size))
      have HD2 := Lib.hid (HD1.out.below hb2 (box_lt HD1.out))
      clear hb2
      have HB3 := HB2
      have hn := HD2.out
      obtain ⟨c0, c1, c2, c3, cf⟩ := hn.cells
      have f0 := cf 0
      have f1 := cf 1
      have f2 := cf 2
      have f3 := cf 3
      have hl := box_lt hn
      have HNN := Lib.hid hn
      clear hn cf
      unfold tokAgg
      have E2 : wrap64 (1 + (n : Int)) = ((1 + n : Nat) : Int) := by unfold wrap64; omega
      go_wp2_with fail
      try rw [E2]
      have HS := Lib.hid (tok_stored HNN.out HB3.out (Nat.le_refl _) 3 0 ⟨l.toArray⟩ 0 rfl)
      unfold tokSet at HS
      generalize World.setCell _ _ _ = w9 at *
      obtain ⟨d0, d1, d2, d3, _⟩ := HS.out.1.cells
      exact bodyPost_ret (v := .tuple #[tokAgg 3 0 l 0, .int .i64 ((1 + n : Nat) : Int), .int .i64 0]) (by simp [results, Tryd.results24, go_sem, d0, d1, d2, d3, tokAgg]) rfl (oneIs_tok HR.out ⟨rfl, HS.out.2⟩ rfl)
    | false =>
      have HR : Hid (tagTok (s.extract 1 s.size).data.toList = .err 20) := Lib.hid (by unfold tagTok; rw [HH.out]; exact if_neg (by rw [show Option.any isUp (some c) = isUp c from rfl, hu]; decide))
      generalize tagTok (s.extract 1 s.size).data.toList = rr at *
      rw [up_at, hu] at HU
      clear hu HH HXT HX hle HN
      go_enter Tryd.func24, Tryd.ntmps24
      go_wp2_with fail
      refine (HU.out _).mono ?_
      rintro e w' ⟨rfl, rfl⟩
      go_wp2_with fail
      have HS : Hid (TokBox _ _ _ _ _ _ ∧ _) := Lib.hid ⟨HD.out, below_tok w⟩
      generalize w.alloc _ = w9 at *
      obtain ⟨d0, d1, d2, d3, _⟩ := HS.out.1.cells
      exact bodyPost_ret (v := .tuple #[tokAgg 0 0 [] 0, .int .i64 0, .int .i64 20]) (by simp [results, Tryd.results24, go_sem, d0, d1, d2, d3, tokAgg]) rfl (oneIs_err HR.out ⟨rfl, HS.out.2⟩ rfl)
  · have e0 : (s.extract 1 s.size).toList.isEmpty = true := by
      rw [list_of, List.isEmpty_iff]
      exact List.eq_nil_of_length_eq_zero (by show (s.extract 1 s.size).size = 0; omega)
    have e1 : ((s.extract 1 s.size).toList == []) = true := by rw [beq_iff_eq, ← List.isEmpty_iff]; exact e0
    have HR : Hid (tagTok (s.extract 1 s.size).data.toList = .err 20) := Lib.hid (by rw [empty_of _ ht]; rfl)
    generalize tagTok (s.extract 1 s.size).data.toList = rr at *
    clear HXT HX hle HN
    go_enter Tryd.func24, Tryd.ntmps24
    go_wp2_with fail
    have HS : Hid (TokBox _ _ _ _ _ _ ∧ _) := Lib.hid ⟨HD.out, below_tok w⟩
    generalize w.alloc _ = w9 at *
    obtain ⟨d0, d1, d2, d3, _⟩ := HS.out.1.cells
    exact bodyPost_ret (v := .tuple #[tokAgg 0 0 [] 0, .int .i64 0, .int .i64 20]) (by simp [results, Tryd.results24, go_sem, d0, d1, d2, d3, tokAgg]) rfl (oneIs_err HR.out ⟨rfl, HS.out.2⟩ rfl)
set_option maxRecDepth 100000 in
set_option maxHeartbeats 2000000 in
theorem lex_readInt (s : ByteArray) (w : World) (hs : s.size ≤ 65536) : Calls Tryd.prog 26 #[.string s] w (OneIs (intTok s.data.toList) w) := by
  have HN := Lib.hid (fun W => lex_nameSize s W)
  have hle := name_le s
  have HX := Lib.hid (extract_name s)
  have HR0 : Hid (intTok s.data.toList = if (ReadV (nameOf s.data.toList)).2 = 0 then .tok ⟨4, [], (ReadV (nameOf s.data.toList)).1⟩ (nameOf s.data.toList).length else .err (if (ReadV (nameOf s.data.toList)).2 = 5 then 20 else (ReadV (nameOf s.data.toList)).2)) := Lib.hid rfl
  generalize intTok s.data.toList = rr at *
  generalize nameOf s.data.toList = l at *
  generalize hn : l.length = n at *
  have HV := Lib.hid (fun W => word_Read (s.extract 0 n) W (by rw [ByteArray.size_extract]; unfold maxLen; omega))
  rw [HX.out] at HV
  have hv := readV_err (l := l)
  generalize ReadV l = v at *
  obtain ⟨v1, v2⟩ := v
  simp only at HV hv HR0
  have HD := Lib.hid (TokBox.new w)
  clear hn
  rcases hv with rfl | rfl | rfl
  · have HR : Hid (rr = .tok ⟨4, [], v1⟩ n) := Lib.hid (by rw [HR0.out]; exact if_pos rfl)
    clear HR0
    go_enter Tryd.func26, Tryd.ntmps26
    go_wp2_with fail
    refine (HN.out _).mono ?_
    rintro e w1 ⟨rfl, hb1⟩
    have HB1 := Lib.hid ((below_tok w).trans (hb1.mono (by simp)))
    have HD1 := Lib.hid (HD.out.below hb1 (by simp))
    clear hb1
    clear HN
    go_wp2_with fail
    refine (HV.out _).mono ?_
    rintro e w' ⟨rfl, rfl⟩
    have HB3 := HB1
    have hn := HD1.out
    obtain ⟨c0, c1, c2, c3, cf⟩ := hn.cells
    have f0 := cf 0
    have f1 := cf 1
    have f2 := cf 2
    have f3 := cf 3
    have hl := box_lt hn
    have HNN := Lib.hid hn
    clear hn cf
    go_wp2_with fail
    have HS := Lib.hid (tok_stored HNN.out HB3.out (Nat.le_refl _) 4 0 ⟨#[]⟩ v1 rfl)
    unfold tokSet at HS
    generalize World.setCell _ _ _ = w9 at *
    obtain ⟨d0, d1, d2, d3, _⟩ := HS.out.1.cells
    exact bodyPost_ret (v := .tuple #[tokAgg 4 0 [] v1, .int .i64 n, .int .i64 0]) (by simp [results, Tryd.results26, go_sem, d0, d1, d2, d3, tokAgg]) rfl (oneIs_tok HR.out ⟨rfl, HS.out.2⟩ rfl)
  · have HR : Hid (rr = .err 2) := Lib.hid (by rw [HR0.out, if_neg (by decide)]; rfl)
    clear HR0
    go_enter Tryd.func26, Tryd.ntmps26
    go_wp2_with fail
    refine (HN.out _).mono ?_
    rintro e w1 ⟨rfl, hb1⟩
    have HB1 := Lib.hid ((below_tok w).trans (hb1.mono (by simp)))
    have HD1 := Lib.hid (HD.out.below hb1 (by simp))
    clear hb1
    clear HN
    go_wp2_with fail
    refine (HV.out _).mono ?_
    rintro e w' ⟨rfl, rfl⟩
    have HB3 := HB1
    have hn := HD1.out
    obtain ⟨c0, c1, c2, c3, cf⟩ := hn.cells
    have f0 := cf 0
    have f1 := cf 1
    have f2 := cf 2
    have f3 := cf 3
    have hl := box_lt hn
    have HNN := Lib.hid hn
    clear hn cf
    go_wp2_with fail
    have HS := Lib.hid (tok_stored HNN.out HB3.out (Nat.le_refl _) 0 0 ⟨#[]⟩ 0 rfl)
    unfold tokSet at HS
    generalize World.setCell _ _ _ = w9 at *
    obtain ⟨d0, d1, d2, d3, _⟩ := HS.out.1.cells
    exact bodyPost_ret (v := .tuple #[tokAgg 0 0 [] 0, .int .i64 0, .int .i64 2]) (by simp [results, Tryd.results26, go_sem, d0, d1, d2, d3, tokAgg]) rfl (oneIs_err HR.out ⟨rfl, HS.out.2⟩ rfl)
  · have HR : Hid (rr = .err 20) := Lib.hid (by rw [HR0.out, if_neg (by decide)]; rfl)
    clear HR0
    go_enter Tryd.func26, Tryd.ntmps26
    go_wp2_with fail
    refine (HN.out _).mono ?_
    rintro e w1 ⟨rfl, hb1⟩
    have HB1 := Lib.hid ((below_tok w).trans (hb1.mono (by simp)))
    have HD1 := Lib.hid (HD.out.below hb1 (by simp))
    clear hb1
    clear HN
    go_wp2_with fail
    refine (HV.out _).mono ?_
    rintro e w' ⟨rfl, rfl⟩
    have HB3 := HB1
    have hn := HD1.out
    obtain ⟨c0, c1, c2, c3, cf⟩ := hn.cells
    have f0 := cf 0
    have f1 := cf 1
    have f2 := cf 2
    have f3 := cf 3
    have hl := box_lt hn
    have HNN := Lib.hid hn
    clear hn cf
    go_wp2_with fail
    have HS := Lib.hid (tok_stored HNN.out HB3.out (Nat.le_refl _) 0 0 ⟨#[]⟩ 0 rfl)
    unfold tokSet at HS
    generalize World.setCell _ _ _ = w9 at *
    obtain ⟨d0, d1, d2, d3, _⟩ := HS.out.1.cells
    exact bodyPost_ret (v := .tuple #[tokAgg 0 0 [] 0, .int .i64 0, .int .i64 20]) (by simp [results, Tryd.results26, go_sem, d0, d1, d2, d3, tokAgg]) rfl (oneIs_err HR.out ⟨rfl, HS.out.2⟩ rfl)
set_option maxRecDepth 100000 in
set_option maxHeartbeats 2000000 in
theorem lex_readString (s : ByteArray) (w : World) (hs : s.size ≤ 65536) (h34 : s.data.toList.head? = some 34) : Calls Tryd.prog 27 #[.string s] w (OneIs (strTok s.data.toList) w) := by
  have HN := Lib.hid (fun W => lex_quotedSize s W (by unfold maxLen; omega) h34)
  have hle : qsize s.data.toList ≤ s.size := qsize_le s.data.toList
  have HR0 : Hid (strTok s.data.toList = if (UnqV (s.data.toList.take (qsize s.data.toList))).2 = 0 then .tok ⟨5, (UnqV (s.data.toList.take (qsize s.data.toList))).1, 0⟩ (qsize s.data.toList) else .err 20) := Lib.hid rfl
  generalize strTok s.data.toList = rr at *
  generalize qsize s.data.toList = n at *
  have HV := Lib.hid (fun W => word_Unquote (s.extract 0 n) W (by rw [ByteArray.size_extract]; omega))
  rw [extract_take] at HV
  have hv := unqV_err (s.data.toList.take n)
  generalize UnqV (s.data.toList.take n) = v at *
  obtain ⟨v1, v2⟩ := v
  simp only at HV hv HR0
  have HD := Lib.hid (TokBox.new w)
  clear h34
  rcases hv with rfl | rfl
  · have HR : Hid (rr = .tok ⟨5, v1, 0⟩ n) := Lib.hid (by rw [HR0.out]; exact if_pos rfl)
    clear HR0
    go_enter Tryd.func27, Tryd.ntmps27
    go_wp2_with fail
    refine (HN.out _).mono ?_
    rintro e w1 ⟨rfl, hb1⟩
    have HB1 := Lib.hid ((below_tok w).trans (hb1.mono (by simp)))
    have HD1 := Lib.hid (HD.out.below hb1 (by simp))
    clear hb1
    clear HN
    go_wp2_with fail
    refine (HV.out _).mono ?_
    rintro e w2 ⟨rfl, hb2⟩
    have HB2 := Lib.hid (HB1.out.trans (hb2.mono HB1.out.size))
    have HD2 := Lib.hid (HD1.out.below hb2 (box_lt HD1.out))
    clear hb2
    have HB3 := HB2
    have hn := HD2.out
    obtain ⟨c0, c1, c2, c3, cf⟩ := hn.cells
    have f0 := cf 0
    have f1 := cf 1
    have f2 := cf 2
    have f3 := cf 3
    have hl := box_lt hn
    have HNN := Lib.hid hn
    clear hn cf
    go_wp2_with fail
    have HS := Lib.hid (tok_stored HNN.out HB3.out (Nat.le_refl _) 5 0 ⟨v1.toArray⟩ 0 rfl)
    unfold tokSet at HS
    generalize World.setCell _ _ _ = w9 at *
    obtain ⟨d0, d1, d2, d3, _⟩ := HS.out.1.cells
    exact bodyPost_ret (v := .tuple #[tokAgg 5 0 v1 0, .int .i64 n, .int .i64 0]) (by simp [results, Tryd.results27, go_sem, d0, d1, d2, d3, tokAgg]) rfl (oneIs_tok HR.out ⟨rfl, HS.out.2⟩ rfl)
  · have HR : Hid (rr = .err 20) := Lib.hid (by rw [HR0.out, if_neg (by decide)])
    clear HR0
    go_enter Tryd.func27, Tryd.ntmps27
    go_wp2_with fail
    refine (HN.out _).mono ?_
    rintro e w1 ⟨rfl, hb1⟩
    have HB1 := Lib.hid ((below_tok w).trans (hb1.mono (by simp)))
    have HD1 := Lib.hid (HD.out.below hb1 (by simp))
    clear hb1
    clear HN
    go_wp2_with fail
    refine (HV.out _).mono ?_
    rintro e w2 ⟨rfl, hb2⟩
    have HB2 := Lib.hid (HB1.out.trans (hb2.mono HB1.out.size))
    have HD2 := Lib.hid (HD1.out.below hb2 (box_lt HD1.out))
    clear hb2
    have HB3 := HB2
    have hn := HD2.out
    obtain ⟨c0, c1, c2, c3, cf⟩ := hn.cells
    have f0 := cf 0
    have f1 := cf 1
    have f2 := cf 2
    have f3 := cf 3
    have hl := box_lt hn
    have HNN := Lib.hid hn
    clear hn cf
    go_wp2_with fail
    have HS := Lib.hid (tok_stored HNN.out HB3.out (Nat.le_refl _) 0 0 ⟨#[]⟩ 0 rfl)
    unfold tokSet at HS
    generalize World.setCell _ _ _ = w9 at *
    obtain ⟨d0, d1, d2, d3, _⟩ := HS.out.1.cells
    exact bodyPost_ret (v := .tuple #[tokAgg 0 0 [] 0, .int .i64 0, .int .i64 20]) (by simp [results, Tryd.results27, go_sem, d0, d1, d2, d3, tokAgg]) rfl (oneIs_err HR.out ⟨rfl, HS.out.2⟩ rfl)
end Go.Proofs.YtigbapkdpaahjaaDoor
