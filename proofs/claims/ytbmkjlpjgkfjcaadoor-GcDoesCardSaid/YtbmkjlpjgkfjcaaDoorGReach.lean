/-
  The walks of what the document's own answer says of reaching: which word reaches what, which addresses words reach.
-/
import Derived.Test.YtbmkjlpjgkfjcaaDoorGBoth
import Derived.Test.YtbmkjlpjgkfjcaaDoorGSatb
namespace Go.Proofs.YtbmkjlpjgkfjcaaDoor
open Go.RowKit
theorem rnum_any (x : Nat) (hx : x < 18446744073709551616) (w : World) : Calls Tryd.prog 123 #[.int .u64 (x : Int)] w (BoolSame (decide (x % 2 = 1)) w) := by
  have g0 : (0 : Int) ≤ (x : Int) := by omega
  by_cases h : x % 2 = 1
  · have B1 : ((x : Int) % 2 == 1) = true := by rw [beq_iff_eq]; omega
    have HV : Hid (decide (x % 2 = 1) = true) := Lib.hid (decide_eq_true h)
    clear h
    go_enter Tryd.func123, Tryd.ntmps123
    go_wp2_with fail
    go_ret
    exact ⟨ret_bool (by rw [HV.out]), rfl⟩
  · have B1 : ((x : Int) % 2 == 1) = false := by rw [beq_eq_false_iff_ne]; omega
    have HV : Hid (decide (x % 2 = 1) = false) := Lib.hid (decide_eq_false h)
    clear h
    go_enter Tryd.func123, Tryd.ntmps123
    go_wp2_with fail
    go_ret
    exact ⟨ret_bool (by rw [HV.out]), rfl⟩
theorem raddr_any (x : Nat) (hx : x < 18446744073709551616) (w : World) : Calls Tryd.prog 124 #[.int .u64 (x : Int)] w (OneSame (addrW x : Nat) w) := by
  have g0 : (0 : Int) ≤ (x : Int) := by omega
  by_cases h : x % 2 = 1
  · have B1 : ((x : Int) % 2 == 1) = true := by rw [beq_iff_eq]; omega
    have HV : Hid (addrW x = 0) := Lib.hid (by unfold addrW; rw [if_pos (.inl h)])
    clear h
    go_enter Tryd.func124, Tryd.ntmps124
    go_wp2_with fail
    go_ret
    exact ⟨ret_int (by rw [HV.out]; rfl), rfl⟩
  · have B1 : ((x : Int) % 2 == 1) = false := by rw [beq_eq_false_iff_ne]; omega
    by_cases h2 : 2147483647 < x / 2
    · have B2 : decide (2147483647 < (x : Int) / 2) = true := decide_eq_true (by omega)
      have HV : Hid (addrW x = 0) := Lib.hid (by unfold addrW; rw [if_pos (.inr h2)])
      clear h h2
      go_enter Tryd.func124, Tryd.ntmps124
      go_wp2_with fail
      go_ret
      exact ⟨ret_int (by rw [HV.out]; rfl), rfl⟩
    · have B2 : decide (2147483647 < (x : Int) / 2) = false := decide_eq_false (by omega)
      have HV : Hid (((addrW x : Nat) : Int) = (x : Int) / 2) := Lib.hid (by unfold addrW; rw [if_neg (by omega)]; omega)
      have E1 : IntKind.i64.wrap ((x : Int) / 2) = (x : Int) / 2 := by rw [IntKind.wrap_i64]; omega
      clear h h2
      go_enter Tryd.func124, Tryd.ntmps124
      go_wp2_with fail
      go_ret
      exact ⟨ret_int (by rw [HV.out]), rfl⟩
/-- A row of numbers of the call's own. -/
def IntRow (w : World) (S : Nat → Prop) (v : Value) (l : List Nat) : Prop := RowIn w S 3 1 v l.length (nums .i64 l)
def SeenInts (w : World) (A : Option Addr) (l : List Nat) : Prop := ∀ i, i < l.length → ∃ b, A = some ⟨b, 0, none⟩ ∧ b < w.heap.size ∧ w.cell? ⟨b, i, none⟩ = some (.int .i64 (l.getD i 0 : Nat))
theorem IntRow.seen {w : World} {S : Nat → Prop} {v : Value} {l : List Nat} (h : IntRow w S v l) : ∃ A c, v = .slice A l.length c ∧ SeenInts w A l := by
  obtain ⟨A, c, hv, hc⟩ := RowIn.view h
  refine ⟨A, c, hv, fun i hi => ?_⟩
  obtain ⟨g, h1, h2, _, h3⟩ := hc i _ (nums_at .i64 l i hi)
  exact ⟨g, h1, h2, h3⟩
def inB (l : List Nat) (a : Int) : Bool := decide (∃ b ∈ l, (b : Int) = a)
theorem in_any (A : Option Addr) (l : List Nat) (c : Nat) (a : Int) (w : World) (h : SeenInts w A l) (hn : l.length ≤ 9223372036854775807) :
    Calls Tryd.prog 97 #[.slice A l.length c, .int .i64 a] w (BoolSame (inB l a) w) := by
  have HS := Lib.hid h
  clear h
  go_enter Tryd.func97, Tryd.ntmps97
  go_wp2_with fail
  go_loop [5] (fun vi => ∃ i : Nat, i ≤ l.length ∧ vi = .int .i64 i ∧ Hid (∀ j, j < i → ((l.getD j 0 : Nat) : Int) ≠ a)) (fun vi => l.length - (intOf vi).toNat)
  case atStart => exact ⟨0, by omega, by go_num, Lib.hid (fun j hj => by omega)⟩
  case round =>
    obtain ⟨i, hi, rfl, HN⟩ := hrel
    by_cases hil : i < l.length
    · have g2 : decide ((i : Int) < (l.length : Int)) = true := decide_eq_true (by omega)
      obtain ⟨b, rfl, hbl, kb⟩ := HS.out i hil
      by_cases he : ((l.getD i 0 : Nat) : Int) = a
      · have B1 : (((l.getD i 0 : Nat) : Int) == a) = true := by rw [beq_iff_eq]; exact he
        have HV : Hid (inB l a = true) := Lib.hid (decide_eq_true ⟨_, getD_mem hil, he⟩)
        clear he
        generalize l.getD i 0 = x at *
        go_wp2_with fail
        go_ret
        exact ⟨ret_bool (by rw [HV.out]), rfl⟩
      · have B1 : (((l.getD i 0 : Nat) : Int) == a) = false := by rw [beq_eq_false_iff_ne]; exact he
        have HN1 : Hid (∀ j, j < i + 1 → ((l.getD j 0 : Nat) : Int) ≠ a) := Lib.hid (fun j hj => by
          by_cases hji : j = i
          · subst hji; exact he
          · exact HN.out j (by omega))
        clear he
        generalize l.getD i 0 = x at *
        go_wp2_with fail
        go_round
        case rel => exact ⟨i + 1, by omega, by go_num, HN1⟩
        case measure => simp [intOf]; omega
    · have g2 : decide ((i : Int) < (l.length : Int)) = false := decide_eq_false (by omega)
      have HV : Hid (inB l a = false) := Lib.hid (decide_eq_false (by
        rintro ⟨b, hb, he⟩
        obtain ⟨j, hj, hx⟩ := mem_getD hb
        exact HN.out j (by omega) (by rw [hx]; exact he)))
      go_wp2_with fail
      go_ret
      exact ⟨ret_bool (by rw [HV.out]), rfl⟩
def reachW (L : List Ob) (x : Nat) : Nat := if IsIn L (addrW x) then addrW x else 0
theorem find_isIn {words k : Nat} {L : List Ob} {o : Ob} (hl : Lies words 1 L) (h : L[k]? = some o) : IsIn L o.at_ := isIn_of (find_at hl h).1
theorem reaches_any (r : Nat) (S : Nat → Prop) (m : Nat) (L : List Ob) (x : Nat) (w : World) (h : RefAt w r S m L) (hl : Lies m 1 L) (hn : L.length ≤ 65536) (hx : x < 18446744073709551616) :
    Calls Tryd.prog 98 #[.pointer (some ⟨r, 0, none⟩), .int .u64 (x : Int)] w (OneSame (reachW L x : Nat) w) := by
  have HN := Lib.hid (rnum_any x hx w)
  have HA := Lib.hid (raddr_any x hx w)
  have HF := Lib.hid (ref_Find r S m L (addrW x : Nat) w h hn)
  have HL := Lib.hid hl
  clear h hl
  by_cases ho : x % 2 = 1
  · rw [decide_eq_true ho] at HN
    have HV : Hid (reachW L x = 0) := Lib.hid (by
      have h0 : addrW x = 0 := by unfold addrW; rw [if_pos (.inl ho)]
      unfold reachW
      rw [h0]; simp)
    clear ho
    go_enter Tryd.func98, Tryd.ntmps98
    go_wp2_with fail
    refine HN.out.mono ?_
    rintro e w' ⟨rfl, rfl⟩
    go_wp2_with fail
    go_ret
    exact ⟨ret_int (by rw [HV.out]; rfl), rfl⟩
  · rw [decide_eq_false ho] at HN
    have HV : Hid ((∀ (j : Nat) (o : Ob), L[j]? = some o → (o.at_ : Int) ≠ (addrW x : Nat)) → reachW L x = 0) := Lib.hid (fun hno => by
      unfold reachW
      rw [if_neg]
      intro hin
      obtain ⟨o, hob⟩ := isIn_some hin
      obtain ⟨hm, ha⟩ := find_mem hob
      obtain ⟨j, hj, rfl⟩ := List.getElem_of_mem hm
      exact hno j _ (List.getElem?_eq_getElem hj) (by rw [ha]))
    have HV2 : Hid (∀ (k : Nat) (o : Ob), L[k]? = some o → (o.at_ : Int) = (addrW x : Nat) → reachW L x = addrW x) := Lib.hid (fun k o hk ha => by
      unfold reachW
      rw [if_pos]
      have := find_isIn HL.out hk
      rw [show o.at_ = addrW x by omega] at this
      exact this)
    clear ho
    generalize addrW x = ad at *
    go_enter Tryd.func98, Tryd.ntmps98
    go_wp2_with fail
    refine HN.out.mono ?_
    rintro e w' ⟨rfl, rfl⟩
    go_wp2_with fail
    refine HA.out.mono ?_
    rintro e w' ⟨rfl, rfl⟩
    go_wp2_with fail
    refine HF.out.mono ?_
    rintro e w' ⟨rfl, hfi⟩
    rcases hfi with ⟨rfl, hno⟩ | ⟨k, o, rfl, hk, ha⟩
    · have HZ := Lib.hid (HV.out hno)
      clear hno
      go_wp2_with fail
      go_ret
      exact ⟨ret_int (by rw [HZ.out]; rfl), rfl⟩
    · have HZ := Lib.hid (HV2.out k o hk ha)
      have g0 : decide ((k : Int) < 0) = false := decide_eq_false (by omega)
      clear hk ha
      go_wp2_with fail
      refine HA.out.mono ?_
      rintro e w' ⟨rfl, rfl⟩
      go_wp2_with fail
      go_ret
      exact ⟨ret_int (by rw [HZ.out]), rfl⟩
end Go.Proofs.YtbmkjlpjgkfjcaaDoor
