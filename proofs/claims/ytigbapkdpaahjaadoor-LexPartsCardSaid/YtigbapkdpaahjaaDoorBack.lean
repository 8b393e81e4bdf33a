/-
  Plain facts: what is quoted is read as it was; a printed number that is not negative is read as it was; what a mask of 31 bits leaves.
-/
import Derived.Test.YtigbapkdpaahjaaDoorRefUnq
import Derived.Test.YtigbapkdpaahjaaDoorText
import Derived.Laws.BitsLemmas
namespace Go.Proofs.YtigbapkdpaahjaaDoor
open Go.RowKit
theorem pre_self (n : Nat) (t : List UInt8) : pre n (qf n ++ t) = true := by
  unfold pre Lib.hasPrefix
  rw [List.isPrefixOf_iff_prefix]
  exact ⟨t, rfl⟩
theorem qbody_cons (c : UInt8) (r : List UInt8) : qbody (c :: r) = qf c.toNat ++ qbody r := by
  unfold qbody
  rw [List.flatMap_cons]
theorem unq_back : ∀ (l : List UInt8) (f : Nat), l.length ≤ f → unq f (qbody l) = some l
  | [], f, _ => unq_nil f
  | c :: r, 0, h => by simp at h
  | c :: r, f + 1, h => by
    have hM := pre_unique c.toNat_lt (pre_self c.toNat (qbody r))
    rw [qbody_cons]
    have hne : qf c.toNat ++ qbody r ≠ [] := by
      intro e
      have h1 := qf_pos c.toNat
      rw [(List.append_eq_nil_iff.1 e).1] at h1
      simp at h1
    rw [unq_yes f _ hne (by rw [← hM]; exact pre_self _ _), ← hM, List.drop_left, unq_back r f (by simpa using h)]
    simp
theorem qbody_long (l : List UInt8) : l.length ≤ (qbody l).length := by
  induction l with
  | nil => simp
  | cons c r ih =>
    have := qf_pos c.toNat
    rw [qbody_cons]
    simp
    omega
theorem unqV_back (l : List UInt8) : UnqV (qall l) = (l, 0) := by
  have hlen : (qall l).length = (qbody l).length + 2 := by simp [qall]
  refine unqV_some ?_ ?_
  · rw [hlen]
    have e1 : (qall l).getD 0 0 = 34 := rfl
    have e2 : (qall l).getD ((qbody l).length + 2 - 1) 0 = 34 := by
      unfold qall
      simp
    rw [e1, e2]
    simp
  · have e : ((qall l).drop 1).take ((qall l).length - 2) = qbody l := by
      rw [hlen]
      unfold qall
      simp
    rw [e]
    exact unq_back l _ (by have := qbody_long l; omega)
theorem readGo_append (a b : List UInt8) : ∀ m : Int, readGo m (a ++ b) = (readGo m a).bind fun k => readGo k b := by
  induction a with
  | nil => intro m; rfl
  | cons c r ih =>
    intro m
    rw [List.cons_append, readGo, readGo]
    split
    · rfl
    · exact ih _
theorem dig_val (k : Nat) (h : k < 10) : ((UInt8.ofNat (48 + k)).toNat : Int) - 48 = k := by
  simp only [UInt8.toNat_ofNat']
  omega
theorem readGo_dec (k : Nat) : ∀ u : Nat, u < k → u ≤ 4611686018427387903 → readGo 0 (Lib.decDigits u) = some (u : Int) := by
  induction k with
  | zero => intro u h; omega
  | succ k ih =>
    intro u hk hu
    by_cases h : u < 10
    · rw [Lib.decDigits, dif_pos h, readGo, dig_val u h, if_neg (by omega)]
      simp [readGo]
    · rw [Lib.decDigits, dif_neg h, readGo_append, ih (u / 10) (by omega) (by omega)]
      show readGo ((u / 10 : Nat) : Int) [UInt8.ofNat (48 + u % 10)] = _
      rw [readGo, dig_val (u % 10) (by omega), if_neg (by omega), readGo]
      congr 1
      omega
theorem isDig_dec (k : Nat) (h : k < 10) : isDig (UInt8.ofNat (48 + k)) = true := by
  have := (by decide : ∀ k : Fin 10, isDig (UInt8.ofNat (48 + k.val)) = true) ⟨k, h⟩
  exact this
theorem dec_all (k : Nat) : ∀ u : Nat, u < k → (Lib.decDigits u).all isDig = true := by
  induction k with
  | zero => intro u h; omega
  | succ k ih =>
    intro u hk
    by_cases h : u < 10
    · rw [Lib.decDigits, dif_pos h]
      rw [List.all_cons, isDig_dec u h]
      rfl
    · rw [Lib.decDigits, dif_neg h, List.all_append, ih (u / 10) (by omega)]
      rw [List.all_cons, isDig_dec (u % 10) (by omega)]
      rfl
theorem dec_head (k : Nat) : ∀ u : Nat, u < k → 1 ≤ u → ∃ c r, Lib.decDigits u = c :: r ∧ c ≠ 48 := by
  induction k with
  | zero => intro u h; omega
  | succ k ih =>
    intro u hk hu
    by_cases h : u < 10
    · rw [Lib.decDigits, dif_pos h]
      have := (by decide : ∀ k : Fin 10, 1 ≤ k.val → UInt8.ofNat (48 + k.val) ≠ 48) ⟨u, h⟩ hu
      exact ⟨_, [], rfl, this⟩
    · obtain ⟨c, r, e, hc⟩ := ih (u / 10) (by omega) (by omega)
      rw [Lib.decDigits, dif_neg h, e]
      exact ⟨c, _, rfl, hc⟩
theorem isNum_dec (u : Nat) : isNum (Lib.decDigits u) = true := by
  unfold isNum
  rw [dec_all (u + 1) u (by omega)]
  by_cases h : u = 0
  · subst h
    rw [Lib.decDigits, dif_pos (by decide)]
    decide
  · obtain ⟨c, r, e, hc⟩ := dec_head (u + 1) u (by omega) (by omega)
    rw [e]
    simp [hc]
theorem readV_itoa (n : Int) (h0 : 0 ≤ n) (h1 : n ≤ 4611686018427387903) : ReadV (Lib.itoa n) = (n, 0) := by
  unfold Lib.itoa
  rw [if_neg (by omega)]
  have := readV_num (isNum_dec n.toNat) (readGo_dec (n.toNat + 1) n.toNat (by omega) (by omega))
  rw [this]
  congr 1
  omega
theorem itoa_sign (n : Int) (h : n < 0) : ∃ r, Lib.itoa n = 45 :: r := by
  unfold Lib.itoa
  rw [if_pos h]
  exact ⟨_, rfl⟩
theorem mask31 (a : Int) : bits BinOp.and IntKind.i64 a 2147483647 = a % 2147483648 := by
  unfold bits
  simp only [BitVec.toNat_and]
  have h1 : (BitVec.ofInt IntKind.i64.bits 2147483647).toNat = 2 ^ 31 - 1 := by decide
  have h2 : ((BitVec.ofInt IntKind.i64.bits a).toNat : Int) = a % 18446744073709551616 := by
    rw [BitVec.toNat_ofInt]
    have : ((2 ^ IntKind.i64.bits : Nat) : Int) = 18446744073709551616 := by decide
    rw [this]
    omega
  rw [h1, Nat.and_two_pow_sub_one_eq_mod, IntKind.wrap_i64]
  have h3 : (((BitVec.ofInt IntKind.i64.bits a).toNat % 2 ^ 31 : Nat) : Int) = a % 2147483648 := by
    rw [Int.natCast_emod, h2]
    simp
  rw [h3]
  omega
theorem bytes_back (s : ByteArray) : (⟨s.data.toList.toArray⟩ : ByteArray) = s := by simp
end Go.Proofs.YtigbapkdpaahjaaDoor
