import PyProof.Rows.All
import Wide.All
import OpenK.AllK
import Wide.FinOn
import KE.KMathGC
import HandS.List
import HandS.ForMost
import HandS.Style
import HandS.Gcd
import HandS.Wide
import HandS.Evl
import HandS.IsInst
import HandS.RaiseMore
import HandS.Walk
import KE.GoesMore
import KE.GoesEnum
import PyProof.ReprBulk
import HandS.Zip
import HandS.RevRange
import HandS.Sort
import HandS.Conv
import KE.DataMinMax
import HandS.Lambda
import HandS.Words
import HandS.EndTab
import PyProof.Rows.SeqMore
import KE.GoesZip
import KE.KNest
import PySem.Challenge.RW_holerows_k34_least_rests_and_most_holes
set_option Elab.async false
set_option linter.all false
set_option maxRecDepth 100000
set_option maxHeartbeats 8000000
/-! The mathematics of cascades, in plain Lean. -/
namespace HrM
open PySem

/-- how many sets of k of n things -/
def ch : Nat → Nat → Nat
  | _, 0 => 1
  | 0, _ + 1 => 0
  | n + 1, k + 1 => ch n k + ch n (k + 1)
theorem ch_zero (n : Nat) : ch n 0 = 1 := by cases n <;> rfl
theorem ch_succ (n k : Nat) : ch (n + 1) (k + 1) = ch n k + ch n (k + 1) := rfl
theorem ch_none (k : Nat) : ch 0 (k + 1) = 0 := rfl
theorem ch_lt : ∀ {n k : Nat}, n < k → ch n k = 0
  | _, 0, h => absurd h (Nat.not_lt_zero _)
  | 0, _ + 1, _ => rfl
  | n + 1, k + 1, h => by rw [ch_succ, ch_lt (by omega : n < k), ch_lt (by omega : n < k + 1)]
theorem ch_self : ∀ n : Nat, ch n n = 1
  | 0 => rfl
  | n + 1 => by rw [ch_succ, ch_self n, ch_lt (Nat.lt_succ_self n)]
theorem ch_pos : ∀ {n k : Nat}, k ≤ n → 1 ≤ ch n k
  | n, 0, _ => by rw [ch_zero]; exact Nat.le_refl 1
  | 0, _ + 1, h => absurd h (by omega)
  | n + 1, k + 1, h => by
    have := ch_pos (n := n) (k := k) (by omega)
    rw [ch_succ]
    omega
theorem ch_step (n : Nat) : ∀ k : Nat, ch n k ≤ ch (n + 1) k
  | 0 => by rw [ch_zero, ch_zero]; exact Nat.le_refl 1
  | k + 1 => by rw [ch_succ]; omega
theorem ch_mono {a b : Nat} (k : Nat) (h : a ≤ b) : ch a k ≤ ch b k := by
  induction h with
  | refl => exact Nat.le_refl _
  | step _ ih => exact Nat.le_trans ih (ch_step _ k)
theorem ch_one (n : Nat) : ch n 1 = n := by
  induction n with
  | zero => rfl
  | succ n ih =>
    have e := ch_succ n 0
    rw [ch_zero] at e
    rw [e, ih]
    omega
theorem ch_mul : ∀ n k : Nat, ch n (k + 1) * (k + 1) = ch n k * (n - k)
  | 0, 0 => rfl
  | 0, k + 1 => by rw [ch_none, ch_none, Nat.zero_mul, Nat.zero_mul]
  | n + 1, 0 => by
    rw [ch_zero]
    have := ch_one (n + 1)
    rw [show (0 + 1 : Nat) = 1 from rfl, this]
    omega
  | n + 1, k + 1 => by
    have h1 := ch_mul n (k + 1)
    have h2 := ch_mul n k
    rw [ch_succ n (k + 1), ch_succ n k, Nat.add_mul, Nat.add_mul, h1]
    have e0 : n + 1 - (k + 1) = n - k := by omega
    rw [e0, ← h2]
    by_cases h : k + 1 ≤ n
    · have e1 : ch n (k + 1) * (k + 1 + 1) + ch n (k + 1) * (n - (k + 1)) = ch n (k + 1) * (k + 1) + ch n (k + 1) * (n - k) := by
        rw [← Nat.mul_add, ← Nat.mul_add]
        congr 1
        omega
      exact e1
    · rw [ch_lt (by omega : n < k + 1)]
      omega
theorem ch_le_pow (a : Nat) : ∀ b : Nat, ch a b ≤ a ^ b
  | 0 => by rw [ch_zero, Nat.pow_zero]; exact Nat.le_refl 1
  | b + 1 => by
    have h := ch_mul a b
    have h2 : ch a (b + 1) ≤ ch a (b + 1) * (b + 1) := Nat.le_mul_of_pos_right _ (by omega)
    have h3 : ch a b * (a - b) ≤ a ^ b * a := Nat.mul_le_mul (ch_le_pow a b) (Nat.sub_le _ _)
    rw [Nat.pow_succ]
    omega
theorem log_lt {n m : Nat} (h : n < 2 ^ m) (hm : 0 < m) : n.log2 < m := by
  by_cases h0 : n = 0
  · subst h0
    exact hm
  · exact (Nat.log2_lt h0).mpr h
theorem ch_bits {a b m : Nat} (h : a < 2 ^ m) (hb : b ≤ 20) (hm : 0 < m) (hm2 : m ≤ 5000) : (ch a b).log2 < bitsLine := by
  have h1 : ch a b ≤ (2 ^ m) ^ b := Nat.le_trans (ch_le_pow a b) (Nat.pow_le_pow_left (Nat.le_of_lt h) b)
  rw [← Nat.pow_mul] at h1
  have h2 : ch a b < 2 ^ (m * b + 1) := Nat.lt_of_le_of_lt h1 (Nat.pow_lt_pow_right (by decide) (Nat.lt_succ_self _))
  have h3 := log_lt h2 (by omega)
  have h4 : m * b ≤ 5000 * 20 := Nat.mul_le_mul hm2 hb
  have h5 : bitsLine = 134217728 := by decide
  omega
def fac : Nat → Nat
  | 0 => 1
  | n + 1 => (n + 1) * fac n
theorem fac_pos : ∀ n : Nat, 1 ≤ fac n
  | 0 => Nat.le_refl 1
  | n + 1 => Nat.mul_le_mul (by omega : 1 ≤ n + 1) (fac_pos n)
theorem ch_fac (n : Nat) : ∀ k : Nat, k ≤ n → ch n k * (fac k * fac (n - k)) = fac n
  | 0, _ => by rw [ch_zero, Nat.sub_zero]; show 1 * (1 * fac n) = fac n; omega
  | k + 1, h => by
    have ih := ch_fac n k (by omega)
    have e : n - k = (n - (k + 1)) + 1 := by omega
    have h1 := ch_mul n k
    have h2 : fac (n - k) = (n - k) * fac (n - (k + 1)) := by
      rw [e]
      rfl
    rw [h2] at ih
    show ch n (k + 1) * ((k + 1) * fac k * fac (n - (k + 1))) = fac n
    have e1 : ch n (k + 1) * ((k + 1) * fac k * fac (n - (k + 1))) = (ch n (k + 1) * (k + 1)) * (fac k * fac (n - (k + 1))) := by
      rw [Nat.mul_assoc (k + 1), ← Nat.mul_assoc]
    rw [e1, h1, ← ih]
    rw [Nat.mul_assoc, ← Nat.mul_assoc (n - k), Nat.mul_comm (n - k) (fac k), Nat.mul_assoc (fac k)]
theorem ch_symm {n k : Nat} (h : k ≤ n) : ch n k = ch n (n - k) := by
  have h1 := ch_fac n k h
  have h2 := ch_fac n (n - k) (Nat.sub_le _ _)
  have e : n - (n - k) = k := by omega
  rw [e, Nat.mul_comm (fac (n - k))] at h2
  exact Nat.eq_of_mul_eq_mul_right (Nat.mul_pos (fac_pos k) (fac_pos (n - k))) (h1.trans h2.symm)
theorem falling (a : Nat) : ∀ k : Nat, k ≤ a → Builtin.Math.fallingProduct (a : Int) k = ((ch a k * fac k : Nat) : Int)
  | 0, _ => by rw [ch_zero]; rfl
  | k + 1, h => by
    rw [PySem.W.mc_fp_succ, falling a k (by omega)]
    have e : ((a : Int) - (k : Int)) = ((a - k : Nat) : Int) := by omega
    rw [e, ← Int.natCast_mul]
    congr 1
    show ch a k * fac k * (a - k) = ch a (k + 1) * ((k + 1) * fac k)
    rw [← Nat.mul_assoc, ch_mul, Nat.mul_assoc, Nat.mul_comm (fac k), Nat.mul_assoc]
theorem comb_nat (a b : Nat) : PySem.W.mcComb (a : Int) (b : Int) = ((ch a b : Nat) : Int) := by
  by_cases h : b ≤ a
  · have hm : ∃ m : Nat, min (b : Int) ((a : Int) - (b : Int)) = (m : Int) ∧ m ≤ a ∧ ch a b = ch a m := by
      by_cases hb : b ≤ a - b
      · exact ⟨b, by omega, h, rfl⟩
      · exact ⟨a - b, by omega, by omega, ch_symm h⟩
    obtain ⟨m, e, hma, e2⟩ := hm
    rw [PySem.W.mcComb_at (by omega) (by omega) e, e2]
    rw [Int.toNat_natCast, falling a m hma, falling m m (Nat.le_refl m), ch_self, Nat.one_mul, ← Int.natCast_ediv]
    congr 1
    exact Nat.mul_div_cancel _ (fac_pos m)
  · rw [PySem.W.mcComb_above (by omega), ch_lt (by omega)]
    rfl

/-! ### cascades -/
def val : Nat → List Nat → Nat
  | _, [] => 0
  | s, a :: r => ch a s + val (s - 1) r
structure Cas (s : Nat) (xs : List Nat) : Prop where
  len : xs.length ≤ s
  low : ∀ i a, xs[i]? = some a → s - i ≤ a
  fall : ∀ i a b, xs[i]? = some a → xs[i + 1]? = some b → b < a
theorem Cas.nil (s : Nat) : Cas s [] := ⟨Nat.zero_le _, fun i a h => by simp at h, fun i a b h => by simp at h⟩
theorem Cas.tail {s a : Nat} {r : List Nat} (c : Cas (s + 1) (a :: r)) : Cas s r :=
  ⟨Nat.le_of_succ_le_succ c.len, fun i x h => by have := c.low (i + 1) x (by simpa using h); omega, fun i x y h h' => c.fall (i + 1) x y (by simpa using h) (by simpa using h')⟩
theorem Cas.pos {s a : Nat} {r : List Nat} (c : Cas s (a :: r)) : 1 ≤ s := by
  have := c.len
  rw [List.length_cons] at this
  omega
theorem Cas.head {s a : Nat} {r : List Nat} (c : Cas s (a :: r)) : s ≤ a := c.low 0 a rfl
theorem val_lt : ∀ {xs : List Nat} {s u : Nat}, Cas s xs → (∀ a, xs[0]? = some a → a < u) → s ≤ u → val s xs < ch u s
  | [], s, u, _, _, h => ch_pos h
  | a :: r, s, u, c, hu, h => by
    obtain ⟨t, rfl⟩ : ∃ t, s = t + 1 := ⟨s - 1, by have := c.pos; omega⟩
    have hd := c.head
    have ih := val_lt (u := a) c.tail (fun b hb => c.fall 0 a b rfl (by simpa using hb)) (by omega)
    have ha := hu a rfl
    have hm := ch_mono (t + 1) (show a + 1 ≤ u from ha)
    show ch a (t + 1) + val (t + 1 - 1) r < ch u (t + 1)
    rw [Nat.add_sub_cancel]
    rw [ch_succ] at hm
    omega
def iz (xs : List Nat) : List Int := List.map (fun (n : Nat) => (n : Int)) xs
theorem iz_len (xs : List Nat) : (iz xs).length = xs.length := List.length_map _
theorem iz_append (xs ys : List Nat) : iz (xs ++ ys) = iz xs ++ iz ys := List.map_append
theorem iz_get (xs : List Nat) (i : Nat) : (iz xs)[i]? = Option.map (fun (n : Nat) => (n : Int)) xs[i]? := List.getElem?_map
theorem cas_lt : ∀ {xs ys : List Nat} {s : Nat}, Cas s xs → Cas s ys → HT.lexLt (iz xs) (iz ys) = true → val s xs < val s ys
  | [], [], _, _, _, h => by cases h
  | [], y :: ys, s, _, c, _ => by
    have := ch_pos c.head
    show 0 < ch y s + val (s - 1) ys
    omega
  | x :: xs, [], _, _, _, h => by cases h
  | x :: xs, y :: ys, s, c, d, h => by
    obtain ⟨t, rfl⟩ : ∃ t, s = t + 1 := ⟨s - 1, by have := c.pos; omega⟩
    have h' : (if (x : Int) = (y : Int) then HT.lexLt (iz xs) (iz ys) else decide ((x : Int) < (y : Int))) = true := h
    by_cases e : x = y
    · subst e
      rw [if_pos rfl] at h'
      have := cas_lt c.tail d.tail h'
      show ch x (t + 1) + val t xs < ch x (t + 1) + val t ys
      omega
    · rw [if_neg (by omega)] at h'
      have hlt : x < y := by
        have := of_decide_eq_true h'
        omega
      have h1 := val_lt (u := x + 1) c (fun a ha => by cases ha; omega) (by have := c.head; omega)
      have h2 := ch_mono (t + 1) (show x + 1 ≤ y from hlt)
      show val (t + 1) (x :: xs) < ch y (t + 1) + val t ys
      omega
theorem lex_eq : ∀ {xs ys : List Nat}, HT.lexLt (iz xs) (iz ys) = false → HT.lexLt (iz ys) (iz xs) = false → xs = ys
  | [], [], _, _ => rfl
  | [], _ :: _, h, _ => by cases h
  | _ :: _, [], _, h => by cases h
  | x :: xs, y :: ys, h, h' => by
    have g : (if (x : Int) = (y : Int) then HT.lexLt (iz xs) (iz ys) else decide ((x : Int) < (y : Int))) = false := h
    have g' : (if (y : Int) = (x : Int) then HT.lexLt (iz ys) (iz xs) else decide ((y : Int) < (x : Int))) = false := h'
    by_cases e : x = y
    · subst e
      rw [if_pos rfl] at g g'
      rw [lex_eq g g']
    · rw [if_neg (by omega)] at g g'
      have := of_decide_eq_false g
      have := of_decide_eq_false g'
      omega
theorem cas_uniq {xs ys : List Nat} {s : Nat} (c : Cas s xs) (d : Cas s ys) (h : val s xs = val s ys) : xs = ys := by
  refine lex_eq ?_ ?_
  · cases e : HT.lexLt (iz xs) (iz ys) with
    | false => rfl
    | true => have := cas_lt c d e; omega
  · cases e : HT.lexLt (iz ys) (iz xs) with
    | false => rfl
    | true => have := cas_lt d c e; omega
theorem cas_dec {xs ys : List Nat} {s : Nat} (c : Cas s xs) (d : Cas s ys) : HT.lexLt (iz xs) (iz ys) = decide (val s xs < val s ys) := by
  cases e : HT.lexLt (iz xs) (iz ys) with
  | true => exact (decide_eq_true (cas_lt c d e)).symm
  | false =>
    cases e' : HT.lexLt (iz ys) (iz xs) with
    | true => exact (decide_eq_false (by have := cas_lt d c e'; omega)).symm
    | false =>
      have := lex_eq e e'
      subst this
      exact (decide_eq_false (by omega)).symm
/-! ### one more item -/
theorem val_snoc : ∀ (xs : List Nat) (s a : Nat), val s (xs ++ [a]) = val s xs + ch a (s - xs.length)
  | [], s, a => by show ch a s + val (s - 1) [] = 0 + ch a (s - 0); rw [Nat.sub_zero]; show ch a s + 0 = _; omega
  | x :: xs, s, a => by
    show ch x s + val (s - 1) (xs ++ [a]) = ch x s + val (s - 1) xs + ch a (s - (xs.length + 1))
    rw [val_snoc xs (s - 1) a, show s - 1 - xs.length = s - (xs.length + 1) by omega]
    omega
theorem Cas.snoc {s : Nat} {xs : List Nat} {b : Nat} (c : Cas s xs) (hl : xs.length + 1 ≤ s) (hb : s - xs.length ≤ b) (hf : ∀ a, xs.getLast? = some a → b < a) : Cas s (xs ++ [b]) where
  len := by rw [List.length_append, List.length_singleton]; exact hl
  low := fun i a h => by
    by_cases hi : i < xs.length
    · rw [List.getElem?_append_left hi] at h
      exact c.low i a h
    · rw [List.getElem?_append_right (by omega)] at h
      by_cases e : i = xs.length
      · subst e
        rw [Nat.sub_self] at h
        cases h
        exact hb
      · rw [List.getElem?_eq_none (by rw [List.length_singleton]; omega)] at h
        cases h
  fall := fun i x y h h' => by
    by_cases hi : i + 1 < xs.length
    · rw [List.getElem?_append_left hi] at h'
      rw [List.getElem?_append_left (by omega)] at h
      exact c.fall i x y h h'
    · by_cases e : i + 1 = xs.length
      · rw [List.getElem?_append_right (by omega), e, Nat.sub_self] at h'
        cases h'
        rw [List.getElem?_append_left (by omega)] at h
        refine hf x ?_
        rw [List.getLast?_eq_getElem?, ← e, Nat.add_sub_cancel]
        exact h
      · rw [List.getElem?_append_right (by omega), List.getElem?_eq_none (by rw [List.length_singleton]; omega)] at h'
        cases h'
theorem Cas.init {s : Nat} {xs : List Nat} {b : Nat} (c : Cas s (xs ++ [b])) : Cas s xs ∧ xs.length + 1 ≤ s ∧ s - xs.length ≤ b ∧ ∀ a, xs.getLast? = some a → b < a := by
  have hl := c.len
  rw [List.length_append, List.length_singleton] at hl
  have hb : (xs ++ [b])[xs.length]? = some b := by rw [List.getElem?_append_right (Nat.le_refl _), Nat.sub_self]; rfl
  refine ⟨⟨by omega, fun i a h => ?_, fun i x y h h' => ?_⟩, hl, c.low _ _ hb, fun a h => ?_⟩
  · exact c.low i a (by rw [List.getElem?_append_left (List.getElem?_eq_some_iff.mp h).1]; exact h)
  · exact c.fall i x y (by rw [List.getElem?_append_left (List.getElem?_eq_some_iff.mp h).1]; exact h) (by rw [List.getElem?_append_left (List.getElem?_eq_some_iff.mp h').1]; exact h')
  · rw [List.getLast?_eq_getElem?] at h
    have h0 := (List.getElem?_eq_some_iff.mp h).1
    refine c.fall (xs.length - 1) a b (by rw [List.getElem?_append_left h0]; exact h) ?_
    rw [show xs.length - 1 + 1 = xs.length by omega]
    exact hb
/-- what the greatest item for the rest makes of the rest -/
theorem cas_add {s p rest a : Nat} {xs : List Nat} (c : Cas s xs) (hl : xs.length + p = s) (hp : 1 ≤ p) (hr : 1 ≤ rest) (hx : ∀ b, xs.getLast? = some b → rest < ch b p) (h1 : ch a p ≤ rest) (h2 : rest < ch (a + 1) p) :
    Cas s (xs ++ [a]) ∧ rest - ch a p < ch a (p - 1) := by
  have hap : p ≤ a := by
    by_cases h : p ≤ a
    · exact h
    · have h3 := ch_mono p (show a + 1 ≤ p by omega)
      rw [ch_self] at h3
      omega
  refine ⟨c.snoc (by omega) (by omega) fun b hb => ?_, ?_⟩
  · have h3 := hx b hb
    by_cases h : a < b
    · exact h
    · have := ch_mono p (show b ≤ a by omega)
      omega
  · obtain ⟨q, rfl⟩ : ∃ q, p = q + 1 := ⟨p - 1, by omega⟩
    rw [ch_succ] at h2
    rw [Nat.add_sub_cancel]
    omega
/-! ### the next number's cascade -/
structure Nxt (s n : Nat) (xs : List Nat) (b : Nat) : Prop where
  cas : Cas s xs
  len : xs.length + 1 ≤ s
  low : s - xs.length ≤ b
  last : ∀ a, xs.getLast? = some a → b ≤ a
  val : HrM.val s xs + ch b (s - xs.length) = n
theorem Nxt.done {s n : Nat} {xs : List Nat} {b : Nat} (h : Nxt s n xs b) (hb : ∀ a, xs.getLast? = some a → a ≠ b) : Cas s (xs ++ [b]) ∧ HrM.val s (xs ++ [b]) = n :=
  ⟨h.cas.snoc h.len h.low fun a ha => by have := h.last a ha; have := hb a ha; omega, by rw [val_snoc]; exact h.val⟩
theorem Nxt.step {s n : Nat} {xs : List Nat} {b : Nat} (h : Nxt s n (xs ++ [b]) b) : Nxt s n xs (b + 1) := by
  obtain ⟨c, h1, h2, h3⟩ := h.cas.init
  have hl := h.len
  rw [List.length_append, List.length_singleton] at hl
  refine ⟨c, h1, by omega, fun a ha => h3 a ha, ?_⟩
  have e := h.val
  rw [val_snoc, List.length_append, List.length_singleton] at e
  obtain ⟨q, hq⟩ : ∃ q, s - xs.length = q + 1 := ⟨s - xs.length - 1, by omega⟩
  rw [show s - (xs.length + 1) = q by omega, hq] at e
  rw [hq, ch_succ]
  omega
theorem Nxt.start {s : Nat} {xs : List Nat} {b : Nat} (c : Cas s (xs ++ [b])) (h : xs.length + 1 = s) : Nxt s (HrM.val s (xs ++ [b]) + 1) xs (b + 1) := by
  obtain ⟨c1, h1, h2, h3⟩ := c.init
  refine ⟨c1, h1, by omega, h3, ?_⟩
  rw [val_snoc, show s - xs.length = 1 by omega, ch_one, ch_one]
  omega
theorem cas_more {s : Nat} {xs : List Nat} (c : Cas s xs) (h : xs.length < s) : Cas s (xs ++ [s - xs.length]) ∧ val s (xs ++ [s - xs.length]) = val s xs + 1 := by
  refine ⟨c.snoc h (Nat.le_refl _) fun a ha => ?_, by rw [val_snoc, ch_self]⟩
  rw [List.getLast?_eq_getElem?] at ha
  have := c.low _ _ ha
  have := (List.getElem?_eq_some_iff.mp ha).1
  omega
/-! ### sums over a cascade -/
/-- the terms g a i, i the size left -/
def terms (g : Nat → Nat → Nat) : Nat → List Nat → List Nat
  | _, [] => []
  | s, a :: r => g a s :: terms g (s - 1) r
theorem terms_len (g : Nat → Nat → Nat) : ∀ (s : Nat) (xs : List Nat), (terms g s xs).length = xs.length
  | _, [] => rfl
  | s, _ :: r => congrArg (· + 1) (terms_len g (s - 1) r)
theorem terms_get (g : Nat → Nat → Nat) : ∀ (s : Nat) (xs : List Nat) (i : Nat), (terms g s xs)[i]? = (xs[i]?).map fun a => g a (s - i)
  | _, [], i => by simp [terms]
  | s, a :: r, 0 => rfl
  | s, a :: r, i + 1 => by
    show (terms g (s - 1) r)[i]? = (r[i]?).map _
    rw [terms_get g (s - 1) r i, show s - 1 - i = s - (i + 1) by omega]
theorem terms_sum : ∀ (s : Nat) (xs : List Nat), (terms ch s xs).sum = val s xs
  | _, [] => rfl
  | s, a :: r => by
    show (ch a s :: terms ch (s - 1) r).sum = _
    rw [List.sum_cons, terms_sum (s - 1) r]
    rfl
theorem iz_sum (xs : List Nat) : (iz xs).sum = ((xs.sum : Nat) : Int) := by
  induction xs with
  | nil => rfl
  | cons x xs ih =>
    show ((x : Int) :: iz xs).sum = _
    rw [List.sum_cons, ih, List.sum_cons]
    omega
/-- a cascade's number is small if its items are -/
theorem val_bits {s B : Nat} {xs : List Nat} (c : Cas s xs) (hs : s ≤ 17) (h : ∀ a ∈ xs, a < 2 ^ B) (hB : 5 ≤ B) : val s xs < 2 ^ (B * s + s) := by
  have hu : s ≤ 2 ^ B := Nat.le_trans hs (Nat.le_trans (by decide : 17 ≤ 2 ^ 5) (Nat.pow_le_pow_right (by decide) hB))
  have h1 := val_lt (u := 2 ^ B) c (fun a ha => h a (List.mem_of_getElem? ha)) hu
  have h2 := ch_le_pow (2 ^ B) s
  rw [← Nat.pow_mul] at h2
  exact Nat.lt_of_lt_of_le h1 (Nat.le_trans h2 (Nat.pow_le_pow_right (by decide) (Nat.le_add_right _ _)))
end HrM

/-! Calls of defs where nothing is being shown (no repr under way). -/
namespace Hr
open PySem PySem.Spec PyProof.Rows L2

/-- a promise that is kept wherever no repr is under way -/
structure FnG (P : Program) (w : World) (K : PySem.W.Frag) (mg : Str → Option Value) (base : Heap) (CX : CXT) (k : Nat) (f : Addr) (fd : FuncData) (ps : List Str) (sp : Sp) : Prop where
  len : ∀ vs H Q E, sp vs H Q E → vs.length = ps.length
  go : ∀ (A : Around) (around : List Env) (s : Shared) (H : Hp) (as : Args) (us : List Value) (vs : List V) (Q : VK) (E : XK),
    Room k A → A.guards = some [] → Env0 P w K mg base A around s H → BindsTo s fd as (ps.zip us) → Vals vs us → sp vs H Q E →
    codeAny (model P w) A (.call (.ref f) as) (CR CX around P w H s Q E) s

section
variable {P : Program} {w : World} {K : PySem.W.Frag} {mg : Str → Option Value} {base : Heap} {CX : CXT} {k j : Nat} {f : Addr} {fd : FuncData} {ps : List Str} {sp sp' : Sp}
theorem FnG.of (F : FnOk P w K mg base CX k f fd ps sp) : FnG P w K mg base CX k f fd ps sp :=
  ⟨F.len, fun A around s H as us vs Q E r _ e b v h => F.run A around s H as us vs Q E r e b v h⟩
theorem FnG.mono (F : FnG P w K mg base CX j f fd ps sp) (h : j ≤ k) : FnG P w K mg base CX k f fd ps sp :=
  ⟨F.len, fun A around s H as us vs Q E r => F.go A around s H as us vs Q E (r.mono h)⟩
theorem FnG.imp (F : FnG P w K mg base CX k f fd ps sp) (h : ∀ vs H Q E, sp' vs H Q E → sp vs H Q E) : FnG P w K mg base CX k f fd ps sp' :=
  ⟨fun vs H Q E q => F.len vs H Q E (h _ _ _ _ q), fun A around s H as us vs Q E r g e b v q => F.go A around s H as us vs Q E r g e b v (h _ _ _ _ q)⟩

/-- a def of the text by its body, where no repr is under way -/
theorem bodyG {x qual : Str} {st : Stmt} {N : List Str} (F : Fun K x qual st f fd) (S : FnScope N ps (defScope st)) (len : ∀ vs H Q E, sp vs H Q E → vs.length = ps.length)
    (hb : ∀ (cdv : Value) (A : Around) (around : List Env) (s : Shared) (H : Hp) (vs : List V) (Q : VK) (E : XK), Room k (A.deeper (envOfC qual (defScope st) s.heap.objs.size f cdv)) → A.guards = some [] → sp vs H Q E →
      ∃ t, PSs (cxOf CX P w K mg base N qual (defScope st) f cdv A around s H E) (defBody st) t ∧ t { nx := fun _ H' => Q .non H', rt := Q } (start N vs) H) :
    FnG P w K mg base CX (k + 1) f fd ps sp := by
  obtain ⟨oc, od, kV, doc, pm, an, cdv, ct, osl, rfl, lk, hcd⟩ := F.ex
  refine ⟨len, ?_⟩
  intro A around s H as us vs Q E r g e0 bind rv hq
  have KX : K.In s.heap := e0.mod.kin.keeps fun b o e => (e0.bs b o e).1
  have kinds : ∀ y ∈ ps.zip us, (defScope st).names.lookup y.1 = some .local ∨ ((defScope st).names.lookup y.1 = some .cell ∧ ((cellsFrom (s.heap.objs.size + 1) (defScope st).names []).lookup y.1).isSome = true) := by
    rintro ⟨n, v⟩ hy
    rcases S.par n (List.of_mem_zip hy).1 with q | q
    · exact .inl q
    · exact .inr ⟨q, PySem.W.cellsFrom_some _ _ _ (.inl q)⟩
  refine codeAny_call_function r.depth (KX _ _ lk) rfl S.co S.gen rfl (PySem.W.codeRec_of KX hcd) (bind _ _ _ _ ?_)
  refine wpAny_newFunctionEnv_cells S.kind kinds ?_
  intro env he s1 x
  subst he
  refine ⟨Heap.NoLimit.keeps (e0.mod.nolimit.keeps fun b o e => (e0.bs b o e).1) x.toInCall.keep, codeAny_func ?_⟩
  obtain ⟨t, ht, hrun⟩ := hb cdv A around s H vs Q E (r.deeper _) g hq
  have I := inv_start (CX := CX) (E := E) S r.hd e0 (len _ _ _ _ hq) rv x
  refine wpAny_mono (ht.run [] s1 (start N vs) H _ I hrun) ?_ (fun e s' hs => hs)
  intro fl s' hs
  cases fl with
  | ret u =>
    obtain ⟨v, σ', H', J, rv', q⟩ := hs
    exact ⟨v, H', J.os, J.bare, J.base, J.hok, rv', q⟩
  | next =>
    obtain ⟨σ', H', J, q⟩ := hs
    exact ⟨V.non, H', J.os, J.bare, J.base, J.hok, rfl, q⟩
  | brk => exact hs.elim fun _ ⟨_, _, q⟩ => q.elim
  | cont => exact hs.elim fun _ ⟨_, _, q⟩ => q.elim
/-- .. that lets no exception out -/
theorem okG {x qual : Str} {st : Stmt} {N : List Str} (F : Fun K x qual st f fd) (S : FnScope N ps (defScope st)) (len : ∀ vs H Q E, sp vs H Q E → vs.length = ps.length)
    (hb : ∀ (cdv : Value) (A : Around) (around : List Env) (s : Shared) (H : Hp) (vs : List V) (Q : VK) (E : XK), Room k (A.deeper (envOfC qual (defScope st) s.heap.objs.size f cdv)) → A.guards = some [] → sp vs H Q E →
      ∃ t, PSs (cxOf CX0 P w K mg base N qual (defScope st) f cdv A around s H E).nox (defBody st) t ∧ t { nx := fun _ H' => Q .non H', rt := Q } (start N vs) H) :
    FnG P w K mg base CX0 (k + 1) f fd ps sp :=
  bodyG F S len fun cdv A around s H vs Q E r g h => by
    obtain ⟨t, ht, q⟩ := hb cdv A around s H vs Q E r g h
    exact ⟨t, ht.nox, q⟩
end

section
variable {X : Cx} {CX : CXT} {k : Nat} {f : Addr} {fd : FuncData} {ps ks : List Str} {sp : Sp} {dvs : List V} {ds : List Value} {E : XK} {x : Str} {p pos : Pos} {e : Expr} {es : List Expr} {kws : List Keyword} {t tk : TA}
theorem endG {pins : List (Addr × Obj)} {σ : L2.St} {H : Hp} {s : Shared} {Q : VK} (hx : Passes CX X E) (I : Inv X pins σ H s) {r : Result} {s' : Shared} (h : CR CX X.stack X.prog X.w H s Q E r s') :
    (match r with
      | .ok (.ret u) => EP X pins σ Q u s'
      | .ok _ => False
      | .error z => X.xe z s') := by
  cases r with
  | error z => exact hx pins σ H s z s' I h
  | ok fl => cases fl with
    | ret u => exact I.after h
    | next => exact False.elim h
    | brk => exact False.elim h
    | cont => exact False.elim h
theorem pe_callG (F : FnG X.prog X.w X.K X.mg X.base CX k f fd ps sp) (hr : Room k X.A) (gg : X.A.guards = some []) (hg : Gl X x) (hm : X.mg x = some (.ref f)) (hk : PySem.W.keepIn X.K (.ref f) = true) (hb : Binds X.K fd ps ds) (hd : Vals dvs ds) (hx : Passes CX X E)
    (ha : PA X (e :: es) t) (hdb : (x == ("__debug__" : Str)) = false := by decide) (he : starEach (e :: es) X.env = (false, eval e X.env) :: starEach es X.env := by rfl) (hpl : (backTo pos (starEach es X.env)).any (·.1) = false := by rfl) :
    PE X (.Call (.Name x p) (e :: es) [] pos) (tCall sp dvs E t) := by
  constructor
  intro pins s σ H Q I h
  refine wpAny_Call_Name_kw (ld_glob I hg hm ?_ hdb)
  refine PySem.W.callWith_K (h₀ := X.base) I.ok.mod.kin hk (thn (ha.run pos pins s σ H _ I h) ?_) he hpl
  rintro us s1 ⟨vs, H1, I1, r, q⟩
  refine ⟨I1.kIn, ?_⟩
  have r2 := r.append hd
  have hl : (us ++ ds).length = ps.length := r2.length.symm.trans (F.len _ _ _ _ q)
  refine wpAny_call (codeAny_mono (F.go X.A X.stack s1 H1 ⟨us, []⟩ _ _ Q E hr gg I1.env0 (hb s1 us I1.kIn hl) r2 q) ?_)
  intro r s' hq
  have z := endG hx I1 hq
  cases r with
  | error _ => exact z
  | ok fl => cases fl <;> exact z
variable {g : List Value → List Value → List Value} {gV : List V → List V → List V}
theorem pe_callKG (F : FnG X.prog X.w X.K X.mg X.base CX k f fd ps sp) (hr : Room k X.A) (gg : X.A.guards = some []) (hg : Gl X x) (hm : X.mg x = some (.ref f)) (hk : PySem.W.keepIn X.K (.ref f) = true) (hb : KBinds X.K fd ps ks g gV) (hx : Passes CX X E)
    (ha : PA X (e :: es) t) (hkw : PK X kws tk) (hall : (backToKw pos (keywordEach kws X.env)).all (·.1.isSome) = true := by rfl) (hks : (backToKw pos (keywordEach kws X.env)).filterMap (·.1) = ks := by rfl)
    (hdb : (x == ("__debug__" : Str)) = false := by decide) (he : starEach (e :: es) X.env = (false, eval e X.env) :: starEach es X.env := by rfl)
    (hpl : ((backTo pos (starEach (e :: es) X.env)).any (·.1) || (backToKw pos (keywordEach kws X.env)).any (·.1.isNone)) = false := by rfl) :
    PE X (.Call (.Name x p) (e :: es) kws pos) (tCallK sp gV E t tk) := by
  constructor
  intro pins s σ H Q I h
  refine wpAny_Call_Name_kw (ld_glob I hg hm ?_ hdb)
  refine PySem.W.callWith_KW (h₀ := X.base) I.ok.mod.kin hk hall (thn (ha.run pos pins s σ H _ I h) ?_) hpl he
  rintro us s1 ⟨vs, H1, I1, r, q⟩
  refine thn (hkw.run pos pins s1 σ H1 _ I1 q) ?_
  rintro ws s2 ⟨zs, H2, I2, rz, q2⟩
  refine ⟨I2.kIn, ?_⟩
  rw [hks]
  have r2 := hb.rel r rz
  have hl : (g us ws).length = ps.length := r2.length.symm.trans (F.len _ _ _ _ q2)
  refine wpAny_call (codeAny_mono (F.go X.A X.stack s2 H2 ⟨us, ks.zip ws⟩ _ _ Q E hr gg I2.env0 (hb.to s2 us ws I2.kIn hl) r2 q2) ?_)
  intro r s' hq
  have z := endG hx I2 hq
  cases r with
  | error _ => exact z
  | ok fl => cases fl <;> exact z
end

section
variable {P : Program} {w : World} {K : PySem.W.Frag} {mg mb : Str → Option Value} {CX : CXT} {k : Nat} {fa a : Addr} {fd : FuncData} {x : Str} {sp : Sp} {s₁ : Shared} {vs : List Value} {ns : List Int}
/-- the call of the law from outside, from a heap in which at most the script is told -/
theorem lawG0 {H : Hp} (KX : K.In s₁.heap) (hns : s₁.heap.Ns mainGlobals mg) (hb : s₁.heap.Ns builtinsNs mb) (hbb : ∀ x : Str, x ≠ "__name__" → mb x = bootBuiltins x) (hlim : s₁.heap.NoLimit) (hg : s₁.gens = #[])
    (ha : s₁.heap.get? a = some { cls := .type "list", data := .seq vs.toArray }) (hr : Room k callerA)
    (F : ∀ base : Heap, K.In base → base.Ns mainGlobals mg → FnG P w K mg base CX k fa fd [x] sp) (hbind : ∀ (s : Shared) (u : Value), BindsTo s fd ⟨[u], []⟩ [(x, u)])
    (hO : Only H) (hok : HOk P w H s₁.heap) (hA : ∀ b, H b ≠ none → b = a) (hK : H a ≠ none → K.lookup a = none)
    (hsp : sp [.ref a] H (fun v _ => v = .bl true) fun _ _ _ => False) (hCX : ∀ e s', CX [] H s₁ (fun _ _ _ => False) e s' → False) :
    codeAny (model P w) callerA (.call (.ref fa) ⟨[.ref a], []⟩) (fun r s' => r = .ok (.ret (.bool true)) ∧ OldK s₁.heap s'.heap ∧ s'.os = s₁.os ∧ AllBare s'.gens) s₁ := by
  have untold : ∀ {b : Addr} {o : Obj}, s₁.heap.get? b = some o → (∀ xs n, o.data ≠ .seq xs n) ∨ K.lookup b ≠ none → H b = none := by
    intro b o e z
    cases q : H b with
    | none => rfl
    | some u =>
      have e' : b = a := hA b (by rw [q]; exact Option.some_ne_none u)
      subst e'
      rcases z with z | z
      · rw [ha] at e
        cases e
        exact absurd rfl (z _ _)
      · exact absurd (hK (by rw [q]; exact Option.some_ne_none u)) z
  have nsB : ∀ {b : Addr} {m : Str → Option Value}, s₁.heap.Ns b m → (hidT s₁.heap H).Ns b m := by
    rintro b m ⟨o, es, ep, e, d, r⟩
    exact ⟨o, es, ep, hidT_get e (untold e (.inl fun xs n z => by rw [d] at z; cases z)), d, r⟩
  have hKb : K.In (hidT s₁.heap H) := fun b o e => hidT_get (KX b o e) (untold (KX b o e) (.inr (by rw [e]; exact Option.some_ne_none o)))
  have hM : Mod K mg (hidT s₁.heap H) := ⟨hKb, nsB hns, ⟨mb, nsB hb, hbb⟩, hlim.elim fun mc z => ⟨mc, nsB z.1, z.2⟩⟩
  have e0 : Env0 P w K mg (hidT s₁.heap H) callerA [] s₁ H :=
    ⟨rfl, hM, fun b o e => of_hidT e, Nat.le_of_eq (hidT_size _ _), trivial, fun b hb => absurd hb List.not_mem_nil, hok, .of_eq hg⟩
  refine codeAny_mono ((F _ hKb (nsB hns)).go callerA [] s₁ H ⟨[.ref a], []⟩ [.ref a] [.ref a] _ _ hr rfl e0 (hbind s₁ (.ref a)) (.cons rfl .nil) hsp) ?_
  intro r s' h
  cases r with
  | error e => exact (hCX e s' h).elim
  | ok fl => cases fl with
    | next => exact False.elim h
    | brk => exact False.elim h
    | cont => exact False.elim h
    | ret u =>
      obtain ⟨v, H', os, bare, un, hok', r', q⟩ := h
      have q' : v = .bl true := q
      subst q'
      have r2 : u = Value.bool true := r'
      subst r2
      refine ⟨rfl, OldK.of_keep ?_, os, bare⟩
      intro b o e
      rcases hO b with z | ⟨ob, xs, z⟩
      · exact un.keep b o e z List.not_mem_nil List.not_mem_nil
      · obtain ⟨e1, _⟩ := hok b _ z
        obtain ⟨e2, _⟩ := hok' b _ (un.frzs b ob _ z)
        rw [e] at e1
        cases e1
        exact e2
theorem lawG (KX : K.In s₁.heap) (hns : s₁.heap.Ns mainGlobals mg) (hb : s₁.heap.Ns builtinsNs mb) (hbb : ∀ x : Str, x ≠ "__name__" → mb x = bootBuiltins x) (hlim : s₁.heap.NoLimit) (hg : s₁.gens = #[])
    (ha : s₁.heap.get? a = some { cls := .type "list", data := .seq vs.toArray }) (hi : IntsAre vs ns) (hl : ns.length ≤ sizeLine) (hr : Room k callerA)
    (F : ∀ base : Heap, K.In base → base.Ns mainGlobals mg → FnG P w K mg base CX k fa fd [x] sp) (hbind : ∀ (s : Shared) (u : Value), BindsTo s fd ⟨[u], []⟩ [(x, u)])
    (hsp : ∀ H : Hp, Only H → SqL K H a (ns.map V.int) → sp [.ref a] H (fun v _ => v = .bl true) fun _ _ _ => False) (hCX : ∀ H e s', CX [] H s₁ (fun _ _ _ => False) e s' → False) :
    codeAny (model P w) callerA (.call (.ref fa) ⟨[.ref a], []⟩) (fun r s' => r = .ok (.ret (.bool true)) ∧ OldK s₁.heap s'.heap ∧ s'.os = s₁.os ∧ AllBare s'.gens) s₁ := by
  have rv := vals_ints hi
  cases hk : K.lookup a with
  | some o =>
    have e := KX a o hk
    rw [ha] at e
    cases e
    have O : Only (fun _ => none) := fun _ => .inl rfl
    refine lawG0 (H := fun _ => none) KX hns hb hbb hlim hg ha hr F hbind O (fun b u z => nomatch z) (fun b z => absurd rfl z) (fun z => absurd rfl z) (hsp _ O (.inr ⟨_, vs.toArray, _, hk, rfl, rfl, rfl, ?_, ?_⟩)) (hCX _)
    · rw [List.size_toArray, hi.length]
      exact hl
    · rw [List.toList_toArray]
      exact rv
  | none =>
    have O : Only (upd (fun _ => none) a (.frz { cls := .type "list", data := .seq vs.toArray } (.lst (ns.map V.int)))) := fun b => by
      by_cases h : b = a
      · subst h
        exact .inr ⟨_, _, upd_same⟩
      · exact .inl (upd_ne h)
    refine lawG0 KX hns hb hbb hlim hg ha hr F hbind O (fun b u z => ?_) (fun b z => ?_) (fun _ => hk) (hsp _ O (.inl (.inr ⟨_, upd_same⟩))) (hCX _)
    · by_cases h : b = a
      · subst h
        rw [upd_same] at z
        cases z
        exact ⟨ha, by rw [List.length_map]; exact hl, vs, _, rv, ha⟩
      · rw [upd_ne h] at z
        cases z
    · by_cases h : b = a
      · exact h
      · exact absurd (upd_ne h) z
end

/-- what k_head leaves of a law, from the law's promise -/
theorem walkG {l : PySem.W.OpenLaw} {n k : Nat} {q : Program} {loose : List Str} {XP : (Str → Option Value) → Heap → Prop} {YP : World → Heap → Prop} {d : DefRec} {K : Params → PySem.W.Frag} {sp : PySem.W.Frag → Sp} {x : Str}
    (hn : l.most = some n) (hn2 : n ≤ sizeLine) (hdf : d.params.defaults = []) (hr : Room k callerA) (hY : ∀ (w : World) (h : Heap), YP w h → (K w.params).In h)
    (F : ∀ (w : World) (mg : Str → Option Value) (fa : Addr) (h : Heap), (K w.params).In h → h.Ns mainGlobals mg → mg d.name = some (.ref fa) →
      ∃ fd : FuncData, (∀ (s : Shared) (u : Value), BindsTo s fd ⟨[u], []⟩ [(x, u)]) ∧
        ∀ base : Heap, (K w.params).In base → base.Ns mainGlobals mg → FnG l.prog w (K w.params) mg base CX0 k fa fd [x] (sp (K w.params)))
    (hsp : ∀ (K : PySem.W.Frag) (H : Hp) (a : Addr) (ns : List Int), ns.length ≤ n → Only H → SqL K H a (ns.map V.int) → sp K [.ref a] H (fun v _ => v = .bl true) fun _ _ _ => False) :
    PySem.W.WalkO q loose XP YP l.row.toRowW d [] (fun f vs => PySem.call f vs) := by
  refine Att.attach_call hn hdf ?_
  intro w s₀ s₁ mg mb fa o pm cd doc a vs ns G Y ho hd hcd hmg hobj hints hlen hg
  have KX := hY w _ Y
  obtain ⟨fd, hb, hF⟩ := F w mg fa _ KX G.T.g hmg
  exact lawG KX G.T.g G.T.b G.T.builtins G.T.nolimit hg hobj hints (Nat.le_trans hlen hn2) hr hF hb (fun H hO hS => hsp _ H a ns hlen hO hS) fun H e s' z => z
end Hr

/-! Rules of my own: math.comb, repr of data, t[::-1] of a tuple, enumerate(tuple). -/
namespace Hr
open PySem PySem.Spec PyProof.Rows L2

section
variable {X : Cx}
/-! ### comb -/
def CComb (a b : Int) : Prop := 0 ≤ a ∧ 0 ≤ b ∧ b ≤ 9000 ∧ (PySem.W.mcComb a b).natAbs.log2 < bitsLine
def rComb : List V → Hp → VK → Prop := fun vs H Q => ∃ a b : Int, vs = [.int a, .int b] ∧ CComb a b ∧ Q (.int (PySem.W.mcComb a b)) H
theorem comb_gives {a b : Int} (t u : Tok) (h : CComb a b) : Gives (Builtin.«math.comb» ⟨[.int a t, .int b u], []⟩) (.int (PySem.W.mcComb a b)) := by
  obtain ⟨h0, h1, h2, hz⟩ := h
  have e1 : (9000 : Int) < Builtin.Math.maxSsize := by decide
  have e2 : (9000 : Int) < Builtin.Math.manyFactors := by decide
  by_cases c : b > a
  · rw [PySem.W.mcComb_above c]
    exact PySem.W.mc_run_comb0 a t b u (by omega) (by omega) c
  · have e : PySem.W.mcComb a b = Builtin.Math.fallingProduct a (min b (a - b)).toNat / Builtin.Math.fallingProduct (min b (a - b)) (min b (a - b)).toNat := if_neg c
    rw [e] at hz ⊢
    exact PySem.W.mc_run_comb a t b u (by omega) (by omega) c (by omega) (by omega) (by omega) hz
theorem cr_comb : CallR X (.builtin "math.comb") rComb := by
  intro pins s σ H vs us Q I r h
  obtain ⟨a, b, rfl, c, q⟩ := h
  obtain ⟨t, u, rfl⟩ := Vals.int2 r
  exact call_function_meets PySem.W.MGF.kind_comb PySem.W.MGF.plain_comb PySem.W.MGF.entry_comb (PySem.W.MGF.args_comb _ _) (comb_gives t u c).meets ⟨.int _, H, I.tok _, ⟨_, rfl⟩, q⟩

/-! ### repr of data -/
def rRepr (K : PySem.W.Frag) : List V → Hp → VK → Prop := fun vs H Q => ∃ (a : Addr) (d : PyData), vs = [.ref a] ∧ Dp K H (.ref a) d ∧ d.showable = true ∧ d.hasDict = false ∧ d.depth ≤ 40 ∧ d.shown.length ≤ sizeLine ∧ Q (.str d.shown) H
theorem cr_repr (gg : X.A.guards = some []) (hu : X.A.units + 64 < cLine) : CallR X (.builtin "repr") (rRepr X.K) := by
  intro pins s σ H vs us Q I r h
  obtain ⟨a, d, rfl, hd, hs, hn, hdep, hz, q⟩ := h
  obtain ⟨u, rfl, r1⟩ := vals1 r
  obtain ⟨as, rd⟩ := Dp.reads I d _ _ hd r1
  have e : u = .ref a := r1
  subst e
  exact repr_of_reads' rd hs (fun z => by rw [hn] at z; cases z) gg (by omega) (fun _ _ z => z) (fun h' t tk hk => ⟨.str _, H, I.kept (t' := tk) hk, ⟨t, rfl⟩, q⟩) hz
end

/-! ### t[::-1] -/
section
variable {prog : Program} {w : World} {A : Around} {E : Value → Shared → Prop} {s : Shared}
theorem places_back (n : Nat) : Builtin.Slice.slicePlaces ((n : Int) - 1) (-1) (-1) = n := by
  unfold Builtin.Slice.slicePlaces
  rw [if_neg (by decide)]
  by_cases h : (n : Int) - 1 > -1
  · rw [if_pos h]
    have e : ((n : Int) - 1 - -1 - 1) / (- -1) = (n : Int) - 1 := by
      have e0 : (- -1 : Int) = 1 := by decide
      rw [e0, Int.ediv_one]
      omega
    rw [e]
    omega
  · rw [if_neg h]
    omega
theorem applied_back {sl : Addr} {vs : Value} {n : Nat} {Q : Int × Int × Nat → Shared → Prop} (hs : s.heap.IsSliceOf sl .none .none vs) (ps : IsPart vs (some (-1)))
    (h : Q ((n : Int) - 1, -1, n) s) : wpAny (model prog w) A (Builtin.Slice.sliceApplied (.ref sl) (pure (n : Int))) Q E s := by
  obtain ⟨o, ho, hc, hd⟩ := id hs
  unfold Builtin.Slice.sliceApplied Builtin.Slice.sliceFields
  refine wpAny_bind (wpAny_bind (wpAny_field ho hd (x := .none) rfl (wpAny_bind (wpAny_field ho hd (x := .none) rfl (wpAny_bind (wpAny_field ho hd (x := vs) rfl (wpAny_pure ?_)))))))
  refine wpAny_bind (HT.slicePart_ ps ?_)
  show wpAny _ _ (if ((-1 : Int) == 0) = true then _ else _) _ _ s
  rw [if_neg (by decide)]
  refine wpAny_bind (HT.slicePart_ IsPart.none (wpAny_bind (HT.slicePart_ IsPart.none (wpAny_bind (wpAny_pure ?_)))))
  show wpAny _ _ (pure ((n : Int) - 1, (-1 : Int), Builtin.Slice.slicePlaces ((n : Int) - 1) (-1) (-1))) _ _ s
  rw [places_back]
  exact wpAny_pure h
theorem pick_back (xs : Array Value) : ((List.range xs.size).filterMap fun (k : Nat) => xs[((xs.size : Int) - 1 + (k : Int) * -1).toNat]?).toArray = xs.toList.reverse.toArray := by
  congr 1
  apply List.ext_getElem?
  intro i
  have e : (List.range xs.size).filterMap (fun (k : Nat) => xs[((xs.size : Int) - 1 + (k : Int) * -1).toNat]?) = (List.range xs.size).map (fun k => xs.getD (xs.size - 1 - k) .none) := by
    have gen : ∀ l : List Nat, (∀ k ∈ l, k < xs.size) → l.filterMap (fun (k : Nat) => xs[((xs.size : Int) - 1 + (k : Int) * -1).toNat]?) = l.map (fun k => xs.getD (xs.size - 1 - k) .none) := by
      intro l
      induction l with
      | nil => intro _; rfl
      | cons k l ih =>
        intro hl
        have hk' : k < xs.size := hl k List.mem_cons_self
        have e1 : ((xs.size : Int) - 1 + (k : Int) * -1).toNat = xs.size - 1 - k := by omega
        have h2 : xs.size - 1 - k < xs.size := by omega
        have e2 : xs[((xs.size : Int) - 1 + (k : Int) * -1).toNat]? = some (xs.getD (xs.size - 1 - k) .none) := by
          rw [e1]
          simp [Array.getD, h2]
        rw [List.filterMap_cons_some (f := fun (k : Nat) => xs[((xs.size : Int) - 1 + (k : Int) * -1).toNat]?) e2, ih fun j hj => hl j (List.mem_cons_of_mem _ hj)]
        rfl
    exact gen _ fun k hk => List.mem_range.mp hk
  rw [e, List.getElem?_map]
  by_cases h : i < xs.size
  · have h2 : xs.size - 1 - i < xs.size := by omega
    rw [List.getElem?_range h, List.getElem?_reverse (by simpa using h)]
    simp [Array.getD, h2]
  · rw [List.getElem?_eq_none (by simpa using h), List.getElem?_eq_none (by simpa using h)]
    rfl
theorem getItem_back {t sl : Addr} {items : Array Value} {vs : Value} {Q : Value → Shared → Prop} (ht : IsTup s.heap t items) (hs : s.heap.IsSliceOf sl .none .none vs) (ps : IsPart vs (some (-1)))
    (h : Q (.ref s.heap.objs.size) { s with heap := s.heap.push { cls := .type "tuple", data := .seq items.toList.reverse.toArray } })
    (hsz : items.size ≤ sizeLine) : wpAny (model prog w) A (getItem (.ref t) (.ref sl)) Q E s := by
  have fits : sizeOk (.seq items.toList.reverse.toArray) := by
    show items.toList.reverse.toArray.size ≤ sizeLine
    rw [List.size_toArray, List.length_reverse, Array.length_toList]
    exact hsz
  obtain ⟨o, ho, hc, hd⟩ := id hs
  have hT : s.TypeIs (.ref sl) "slice" := ⟨o, ho, hc⟩
  unfold getItem
  try with_reducible refine wpAny_holding ?_
  first | refine wpAny_bind (wpAny_pure ?_) | skip
  refine wpAny_bind (wpAny_sequenceKey ht.typeIs (by decide) ?_)
  refine wpAny_bind (wpAny_callSpecial?_slot (name := Str.ofString "__getitem__") ht.typeIs PyProof.Rows.slot_tuple_getitem
    (wpAny_call_entry PyProof.Rows.slot_tuple_getitem ht.typeIs PyProof.Rows.entry_tuple_getitem ?_ (PyProof.Rows.args_tuple_getitem _ _)))
  show wpAny _ _ (Builtin.Tuple.tupleItemsOf (.ref t) >>= _) _ _ s
  refine wpAny_bind (PyProof.Rows.tupleItemsOf_ ht (wpAny_bind (wpAny_typeOf hT ?_)))
  rw [if_pos (by decide)]
  refine wpAny_bind (applied_back hs ps ?_)
  have no : ¬ (((items.size : Int) - 1 == 0 && (-1 : Int) == 1 && items.size == items.size) = true) := by
    rw [show ((-1 : Int) == 1) = false from rfl, Bool.and_false, Bool.false_and]
    exact Bool.false_ne_true
  show wpAny _ _ (if ((items.size : Int) - 1 == 0 && (-1 : Int) == 1 && items.size == items.size) = true then _ else _) _ _ s
  rw [if_neg no, pick_back]
  first
    | exact wpAny_bind (m := Builtin.Tuple.tupleExact _) (wpAny_newObj_type (wpAny_pure ⟨_, rfl, wpAny_pure h⟩) fits)
    | exact wpAny_bind (m := Builtin.Tuple.tupleExact _) (wpAny_newObj_type (wpAny_bind (wpAny_pure (wpAny_pure ⟨_, rfl, wpAny_pure h⟩))) fits)
    | exact wpAny_bind (wpAny_bind (m := Builtin.Tuple.tupleExact _) (wpAny_newObj_type (wpAny_pure (wpAny_pure ⟨_, rfl, wpAny_pure h⟩)) fits))
    | exact wpAny_bind (wpAny_bind (m := Builtin.Tuple.tupleExact _) (wpAny_newObj_type (wpAny_pure ⟨_, rfl, wpAny_pure h⟩) fits))
end
def tRevT (K : PySem.W.Frag) (te : TE) : TE := fun σ H Q => te σ H fun x H1 => ∃ a xs, x = .ref a ∧ SqT K H1 a xs ∧ ∀ p, H1 p = none → Q (.ref p) (upd H1 p (.tup xs.reverse))
theorem pe_revT {X : Cx} {e : Expr} {te : TE} {k : Nat} {p1 p2 p3 pos : Pos} (he : PE X e te) : PE X (.Subscript e (.Slice none none (some (.UnaryOp .USub (.Constant (.int 1) k p1) p2)) p3) pos) (tRevT X.K te) := by
  constructor
  intro pins s σ H Q I h
  refine Subscript_ (thn (he.run pins s σ H _ I h) ?_)
  rintro v s1 ⟨x, H1, I1, r1, a, xs, rfl, hx, q⟩
  cases r1
  have hst : PO X (some (.UnaryOp .USub (.Constant (.int 1) k p1) p2)) (tPart (tUn (rU fun i => .int (-i)) (tC (.int 1)))) := po_some (pe_un un_neg pe_int)
  refine wpAny_Slice (thn (po_none.run pins s1 σ H1 (fun o H2 => o = none ∧ H2 = H1) I1 ⟨rfl, rfl⟩) ?_)
  rintro vl s2 ⟨l, H2, I2, pl, rfl, rfl⟩
  cases pl
  refine thn (po_none.run pins s2 σ H2 (fun o H3 => o = none ∧ H3 = H2) I2 ⟨rfl, rfl⟩) ?_
  rintro vu s3 ⟨u, H3, I3, pu, rfl, rfl⟩
  cases pu
  refine thn (hst.run pins s3 σ H3 (fun o H4 => o = some (-1) ∧ H4 = H3) I3 ⟨1, rfl, -1, rfl, rfl, rfl⟩) ?_
  rintro vs s4 ⟨o, H4, I4, ps, rfl, rfl⟩
  have I5 : Inv X pins σ H4 { s4 with heap := s4.heap.push { cls := .type "slice", data := .fields #[.none, .none, vs] } } := I4.kept (t' := s4.toks) fun b ob q => Heap.get?_push_of_some _ q
  obtain ⟨its, r, ht, hz⟩ := I5.tuple hx
  have hlen := r.length
  show wpAny (model X.prog X.w) X.A (subscriptTail e (.Slice none none (some (.UnaryOp .USub (.Constant (.int 1) k p1) p2)) p3) (.ref a) (.ref s4.heap.objs.size)) (EP X pins σ Q) X.xe _
  refine tail_any (ops := [.ref a, .ref s4.heap.objs.size]) ht.typeIs (PyProof.Rows.slot_tuple_getitem.lookup) ?_ (by with_unfolding_all rfl)
  refine getItem_back ht (Heap.IsSliceOf.new _ .none .none vs) ps ?_ (by rw [List.size_toArray]; omega)
  refine ⟨.ref _, _, I5.laid (t' := s4.toks) (o := .tup xs.reverse) (fun b ob q => Heap.get?_push_of_some _ q) (Nat.le_refl _) ?_, rfl, q _ (I5.hok.fresh (Nat.le_refl _))⟩
  exact ⟨by rw [List.length_reverse]; exact hz, _, r.reverse, IsTup.new _ _⟩

/-! ### enumerate(tuple) -/
theorem enum_new1 {v : Value} {o : Obj} {H : Heap → Prop} (B : Begins v o H) :
    Meets (Builtin.«enumerate.__new__» ⟨[.type "enumerate", v], []⟩) (fun _ R s => H s.heap ∧
      R (.ok (.ret (.ref (s.heap.push o).objs.size))) { s with heap := (s.heap.push o).push { cls := .type "enumerate", data := .fields #[.none, .bool false, .ref s.heap.objs.size, rawInt 0, .none, .none] } }) :=
  .of_wp fun prog w A R s h => by
    obtain ⟨hp, g, d, tk, os⟩ := s
    obtain ⟨h1, h⟩ := h
    have sub := sub_enumerate
    have go : ∀ {A' : Around} {E : Value → Shared → Prop} {Q : Value → Shared → Prop}, Q (.ref hp.objs.size) ⟨hp.push o, g, d, tk, os⟩ → wpAny (model prog w) A' (pyIter v) Q E ⟨hp, g, d, tk, os⟩ :=
      fun q => B.iter prog w _ _ ⟨hp, g, d, tk, os⟩ _ h1 q
    wp_walk using go
    refine wpAny_stack_any fun st => wpAny_pure ?_
    split
    · rename_i c _ _ _ _ _
      cases (c == Value.type "enumerate") <;> (wp_walk using go; exact ⟨_, rfl, h⟩)
    · wp_walk using go
      exact ⟨_, rfl, h⟩
theorem enum_begins1 {prog : Program} {w : World} {A : Around} {E : Value → Shared → Prop} {s : Shared} {v : Value} {o : Obj} {H : Heap → Prop} {Q : Value → Shared → Prop} (B : Begins v o H) (h1 : H s.heap)
    (h : ∀ h', IsEnum h' (s.heap.objs.size + 1) s.heap.objs.size 0 .none → h'.get? s.heap.objs.size = some o → (∀ b o, s.heap.get? b = some o → h'.get? b = some o) → Q (.ref (s.heap.objs.size + 1)) { s with heap := h' }) :
    wpAny (model prog w) A (call (.type "enumerate") [v]) Q E s := by
  have hz : (s.heap.push o).objs.size = s.heap.objs.size + 1 := Heap.size_push ..
  refine callType_new F.called_enumerate (by decide) (F.typeCall_enumerate_1 _) (F.newCall_enumerate_1 _) (fun obj => F.args_object_init_2 obj _) F.entry_enumerate_new (enum_new1 B) ⟨h1, ?_⟩
  show _ ∧ _
  rw [hz]
  have he : IsEnum ((s.heap.push o).push { cls := .type "enumerate", data := .fields #[.none, .bool false, .ref s.heap.objs.size, rawInt 0, .none, .none] }) (s.heap.objs.size + 1) s.heap.objs.size 0 .none := by
    have z := Heap.get?_push_size (s.heap.push o) (o := { cls := .type "enumerate", data := .fields #[.none, .bool false, .ref s.heap.objs.size, rawInt 0, .none, .none] }) rfl
    rw [hz] at z
    exact z
  exact ⟨⟨_, he, rfl⟩, h _ he (Heap.get?_push_of_some _ (Heap.get?_push_size _ B.free)) fun b ob x => Heap.get?_push_of_some _ (Heap.get?_push_of_some _ x)⟩

/-- the tuple at a: each item in a new pair -/
def Itn (K : PySem.W.Frag) (a : Addr) : It where
  go i H := ∃ (xs : List V) (x : V), SqT K H a xs ∧ xs[i]? = some x
  yld i H v H' := ∃ T x, v = .ref T ∧ H T = none ∧ H' = upd H T (.tup [.int (i : Nat), x]) ∧ ∀ xs, SqT K H a xs → xs[i]? = some x
  stop i H := ∃ xs : List V, SqT K H a xs ∧ xs.length = i
theorem turn_enumT {P : Program} {w : World} {K : PySem.W.Frag} {elts : List Expr} {kk : Nat} {tpos : Pos} (a e it : Addr) :
    Turn P w K (.Tuple elts kk tpos) (Itn K a) [e, it] e (fun i h => (∃ old, IsEnum h e it ((i : Nat) : Int) old) ∧ h.IsTupleIter it a i ∧ e ≠ it ∧ a ≠ it ∧ e ≠ a) where
  mem := List.mem_cons_self
  obj := by
    rintro i h ⟨⟨old, he⟩, ⟨o, ho, hc, hd⟩, _⟩ b hb
    rcases List.mem_cons.mp hb with rfl | hb
    · exact ⟨_, he, fun v q => nomatch q⟩
    · cases List.mem_singleton.mp hb
      exact ⟨o, ho, fun v q => by rw [hd] at q; cases q⟩
  keep := by
    rintro i h h' ⟨⟨old, he⟩, hi, hr⟩ k
    exact ⟨⟨old, k e List.mem_cons_self _ he⟩, hi.at fun o q => k it (List.mem_cons_of_mem _ List.mem_cons_self) o q, hr⟩
  item := by
    intro X hP hw hK hc i pins s σ H E I hf st hg
    subst hP hw hK
    obtain ⟨⟨old, he⟩, hit, hne, hai, hea⟩ := st
    obtain ⟨xs, x, hq, hx⟩ := hg
    obtain ⟨its, rv, p, hz⟩ := I.tuple hq
    obtain ⟨u, hu, ru⟩ := rv.get hx
    have hlt : i < its.toArray.size := by
      rw [List.size_toArray]
      exact (List.getElem?_eq_some_iff.mp hu).1
    have hel : e < s.heap.objs.size := Heap.lt_size he
    have hil : it < s.heap.objs.size := hit.elim fun _ z => Heap.lt_size z.1
    have D := Draws.tuple (prog := X.prog) (w := X.w) (A := X.A.in1) (I.ok.hd hc) it a hai its.toArray
    refine wpAny_pyNext_enum_itemD D he ⟨hit, p⟩ hlt hne (fun z => ?_) fun y h' tk hy ho hst hT hsz hk => ?_
    · rcases List.mem_cons.mp z with z | z
      · exact hne z
      · exact hea (List.mem_singleton.mp z)
    have ey : y = u := by
      have e1 : its.toArray[i]? = some u := by simpa using hu
      exact Option.some.inj (hy.symm.trans e1)
    subst ey
    refine ⟨_, rfl, wpAny_letOwnedTupleGo_enum (s := { s with heap := h', toks := tk + 1 }) ho fun h'' he' sb => ?_⟩
    have hT2 : h''.get? s.heap.objs.size = some { cls := .type "tuple", data := .seq #[.int i tk, y] } := (sb.2 _ (Nat.ne_of_gt hel)).trans hT
    have new : ObjOk X.prog X.w (upd H s.heap.objs.size (.tup [.int (i : Nat), x])) h'' s.heap.objs.size (.tup [.int (i : Nat), x]) :=
      ⟨by show 2 ≤ sizeLine; decide, [.int i tk, y], .cons ⟨_, rfl⟩ (.cons ru .nil), ⟨_, hT2, rfl, _, rfl⟩⟩
    have I1 : Inv X pins σ (upd H s.heap.objs.size (.tup [.int (i : Nat), x])) { s with heap := h'', toks := tk + 1 } :=
      I.turnedNew (ch := [e, it]) (fun b ob hb q => (sb.2 b (fun z => hb (z ▸ List.mem_cons_self))).trans
        (hk b ob (fun z => hb (z ▸ List.mem_cons_self)) (fun z => hb (z ▸ List.mem_cons_of_mem _ List.mem_cons_self)) q)) hf (Nat.le_refl _) new
    refine ⟨.ref s.heap.objs.size, _, I1, rfl, ⟨_, x, rfl, I.hok.fresh (Nat.le_refl _), rfl, fun ys hy => ?_⟩, ⟨⟨y, ?_⟩, hst.1.at fun o q => (sb.2 it (Ne.symm hne)).trans q, hne, hai, hea⟩, fun b hb => ?_⟩
    · rw [I.tuple_inj hy hq]
      exact hx
    · have e1 : ((i + 1 : Nat) : Int) = (i : Int) + 1 := by omega
      rw [e1]
      exact he'
    · have hb' : b < s.heap.objs.size := by
        rcases List.mem_cons.mp hb with rfl | hb
        · exact hel
        · cases List.mem_singleton.mp hb
          exact hil
      rw [upd_ne (Nat.ne_of_lt hb')]
      exact (hf b hb).1
  done := by
    intro X hP hw hK hc i pins s σ H E I hf st hg
    subst hP hw hK
    obtain ⟨⟨old, he⟩, hit, hne, hai, hea⟩ := st
    obtain ⟨xs, hq, hx⟩ := hg
    obtain ⟨its, rv, p, hz⟩ := I.tuple hq
    obtain ⟨f0, f1, f2, f3, f4, f5⟩ := hf it (List.mem_cons_of_mem _ List.mem_cons_self)
    have hl : i = its.toArray.size := by
      rw [List.size_toArray, ← rv.length]
      exact hx.symm
    subst hl
    have D := Draws.tuple (prog := X.prog) (w := X.w) (A := X.A.in1) (I.ok.hd hc) it a hai its.toArray
    exact wpAny_pyNext_enum_endD D he ⟨hit, p⟩ fun h' eb => ⟨rfl, I.turned (t' := s.toks) (fun b o hb q => eb b o hb q) f0 f1 f3 f4 f5⟩
  self := by
    rintro A i s Q E ⟨⟨_, he⟩, _⟩ h
    exact wpAny_pyIter_enum he h
def iEnumT (K : PySem.W.Frag) (ta : TA) : TI := fun σ H R => ta σ H fun vs H1 => ∃ a xs, vs = [.ref a] ∧ SqT K H1 a xs ∧ R (Itn K a) H1
theorem pi_enumT {X : Cx} {e : Expr} {ta : TA} {p pos tpos : Pos} {elts : List Expr} {kk : Nat} (hg : Gl X "enumerate") (hm : X.mg "enumerate" = none) (ha : PA X [e] ta) (hs : starEach [e] X.env = [(false, eval e X.env)] := by rfl) :
    PI X (.Tuple elts kk tpos) (.Call (.Name "enumerate" p) [e] [] pos) (iEnumT X.K ta) := by
  constructor
  intro pins s σ H R I h
  refine Call_ (ld_blt I hg hm boot_enumerate (PyProof.Rows.callWith_type1 (thn (ha.run pos pins s σ H _ I h) ?_) hs rfl))
  rintro us s1 ⟨vs, H1, I1, r1, a, xs, rfl, hq, q⟩
  obtain ⟨u, rfl, r⟩ := vals1 r1
  have eu : u = .ref a := r
  subst eu
  obtain ⟨its, rv, p', hz⟩ := I1.tuple hq
  have hal : a < s1.heap.objs.size := p'.lt
  refine enum_begins1 (begins_tuple a its.toArray) p' fun h' he hit hk => wpAny_pyIter_enum he ?_
  have I2 : Inv X pins σ H1 { s1 with heap := h' } := I1.kept (t' := s1.toks) hk
  refine ⟨s1.heap.objs.size + 1, [s1.heap.objs.size + 1, s1.heap.objs.size], _, _, H1, rfl, I2, turn_enumT a (s1.heap.objs.size + 1) s1.heap.objs.size,
    ⟨⟨.none, he⟩, ⟨_, hit, rfl, rfl⟩, Nat.succ_ne_self _, Nat.ne_of_lt hal, Nat.ne_of_gt (Nat.lt_succ_of_lt hal)⟩, fun b hb => ?_, q⟩
  have hle : s1.heap.objs.size ≤ b := by
    rcases List.mem_cons.mp hb with rfl | hb
    · exact Nat.le_add_right _ _
    · cases List.mem_singleton.mp hb
      exact Nat.le_refl _
  exact I1.fpOk hle (I1.hok.fresh hle)
theorem walk_enumT {K : PySem.W.Frag} {a : Addr} {xs : List V} : Walk (Itn K a) xs.length (fun H => SqT K H a xs) (YPair (fun i => some (.int (i : Nat))) (fun i => xs[i]?)) where
  goes := fun i H hi h => ⟨xs, xs[i], h, List.getElem?_eq_getElem hi⟩
  stops := fun H h => ⟨xs, h, rfl⟩
  yields := by
    rintro i H v H' hi h ⟨T, x, rfl, nT, rfl, f⟩
    exact ⟨T, _, x, rfl, nT, rfl, rfl, f xs h⟩
end Hr

namespace Hr
open PySem PySem.Spec PyProof.Rows L2
section
variable {X : Cx} {CX : CXT} {k : Nat} {f : Addr} {fd : FuncData} {ps ks : List Str} {sp : Sp} {E : XK} {x : Str} {p pos : Pos} {kws : List Keyword} {tk : TA} {g : List Value → List Value → List Value} {gV : List V → List V → List V}
/-- a call whose arguments are all passed by name -/
def tCallN (sp : Sp) (gV : List V → List V → List V) (E : XK) (tk : TA) : TE := fun σ H Q => tk σ H fun zs H2 => sp (gV [] zs) H2 Q E
theorem pe_callK0G (F : FnG X.prog X.w X.K X.mg X.base CX k f fd ps sp) (hr : Room k X.A) (gg : X.A.guards = some []) (hg : Gl X x) (hm : X.mg x = some (.ref f)) (hk : PySem.W.keepIn X.K (.ref f) = true) (hb : KBinds X.K fd ps ks g gV) (hx : Passes CX X E)
    (hkw : PK X kws tk) (hall : (backToKw pos (keywordEach kws X.env)).all (·.1.isSome) = true := by rfl) (hks : (backToKw pos (keywordEach kws X.env)).filterMap (·.1) = ks := by rfl)
    (hdb : (x == ("__debug__" : Str)) = false := by decide)
    (hpl : ((backTo pos (starEach [] X.env)).any (·.1) || (backToKw pos (keywordEach kws X.env)).any (·.1.isNone)) = false := by rfl) :
    PE X (.Call (.Name x p) [] kws pos) (tCallN sp gV E tk) := by
  constructor
  intro pins s σ H Q I h
  refine wpAny_Call_Name_kw (ld_glob I hg hm ?_ hdb)
  refine PySem.W.callWith_KW0 (h₀ := X.base) I.ok.mod.kin hk hall (thn (hkw.run pos pins s σ H _ I h) ?_) hpl
  rintro ws s2 ⟨zs, H2, I2, rz, q2⟩
  refine ⟨I2.kIn, ?_⟩
  rw [hks]
  have r2 := hb.rel (vs := []) (us := []) .nil rz
  have hl : (g [] ws).length = ps.length := r2.length.symm.trans (F.len _ _ _ _ q2)
  refine wpAny_call (codeAny_mono (F.go X.A X.stack s2 H2 ⟨[], ks.zip ws⟩ _ _ Q E hr gg I2.env0 (hb.to s2 [] ws I2.kIn hl) r2 q2) ?_)
  intro r s' hq
  have z := endG hx I2 hq
  cases r with
  | error _ => exact z
  | ok fl => cases fl <;> exact z
theorem pe_callK0 (F : FnOk X.prog X.w X.K X.mg X.base CX k f fd ps sp) (hr : Room k X.A) (hg : Gl X x) (hm : X.mg x = some (.ref f)) (hk : PySem.W.keepIn X.K (.ref f) = true) (hb : KBinds X.K fd ps ks g gV) (hx : Passes CX X E)
    (hkw : PK X kws tk) (hall : (backToKw pos (keywordEach kws X.env)).all (·.1.isSome) = true := by rfl) (hks : (backToKw pos (keywordEach kws X.env)).filterMap (·.1) = ks := by rfl)
    (hdb : (x == ("__debug__" : Str)) = false := by decide)
    (hpl : ((backTo pos (starEach [] X.env)).any (·.1) || (backToKw pos (keywordEach kws X.env)).any (·.1.isNone)) = false := by rfl) :
    PE X (.Call (.Name x p) [] kws pos) (tCallN sp gV E tk) := by
  constructor
  intro pins s σ H Q I h
  refine wpAny_Call_Name_kw (ld_glob I hg hm ?_ hdb)
  refine PySem.W.callWith_KW0 (h₀ := X.base) I.ok.mod.kin hk hall (thn (hkw.run pos pins s σ H _ I h) ?_) hpl
  rintro ws s2 ⟨zs, H2, I2, rz, q2⟩
  refine ⟨I2.kIn, ?_⟩
  rw [hks]
  exact run_fnk F hr hb hx I2 (vs := []) (us := []) .nil rz q2
end
/-- two arguments by name, the second one first -/
def sw2 {α : Type} (us ws : List α) : List α := match us, ws with
  | [], [a, b] => [b, a]
  | _, _ => []
theorem sw2_rel {vs : List V} {us : List Value} {zs : List V} {ws : List Value} (r : Vals vs us) (q : Vals zs ws) : Vals (sw2 vs zs) (sw2 us ws) := by
  cases r with
  | cons _ _ => exact .nil
  | nil =>
    cases q with
    | nil => exact .nil
    | cons q1 q =>
      cases q with
      | nil => exact .nil
      | cons q2 q =>
        cases q with
        | nil => exact .cons q2 (.cons q1 .nil)
        | cons _ _ => exact .nil
theorem sw2_binds {K : PySem.W.Frag} {x qual : Str} {st : Stmt} {f : Addr} {fd : FuncData} {p1 p2 : Str} (F : Fun K x qual st f fd)
    (h : ∀ (kV doc pm : Value) (an : Option Addr) (cdv ct a b : Value), bindArgs (PySem.W.fnOf x qual (defArgs st) (defBody st) (defScope st) .none kV doc pm an cdv ct) ⟨[], [(p2, a), (p1, b)]⟩ = pure [(p1, b), (p2, a)]) :
    KBinds K fd [p1, p2] [p2, p1] sw2 sw2 := by
  obtain ⟨oc, od, kV, doc, pm, an, cdv, ct, osl, rfl, lk, hcd⟩ := F.ex
  refine ⟨fun s us ws _ hl => ?_, sw2_rel⟩
  match us, ws, hl with
  | [], [a, b], _ => exact .of_eq (h kV doc pm an cdv ct a b)
  | _ :: _, _, hl => exact absurd hl (by intro z; cases z)
  | [], [], hl => exact absurd hl (by intro z; cases z)
  | [], [_], hl => exact absurd hl (by intro z; cases z)
  | [], _ :: _ :: _ :: _, hl => exact absurd hl (by intro z; cases z)
end Hr
namespace Hr
open PySem PySem.Spec PyProof.Rows L2 Evl
section
variable {K : PySem.W.Frag} {σ : L2.St} {H : Hp}
theorem Cw.more {H H1 H2 : Hp} {f : Nat → Bool} {v : Nat → V} {D : Addr} {i : Nat} (p : Cw H f v D i H1) (e : Ex H1 H2) : Cw H f v D i H2 := ⟨p.1, p.2.1.trans e, e D _ p.2.2⟩
/-- a comprehension over anything that is walked -/
theorem el_lcW {J : It} {n : Nat} {G : Hp → Prop} {Y : Nat → Hp → V → Hp → Prop} {wi : TI} {g : TG} {tt : TT} {te : TE} {vs : List Nat} (wk : Walk J n G Y) (f : Nat → Bool) (v : Nat → V) (hz : n ≤ 40000)
    (hi : ∀ H1, Ex H H1 → ∀ R : It → Hp → Prop, (∀ H2, Ex H1 H2 → R J H2) → wi σ H1 R) (hG : ∀ H1, Ex H H1 → G H1) (hY : ∀ i H1 x H2, Y i H1 x H2 → Ex H1 H2)
    (hs : ∀ i x H1 H2, i < n → Ex H H1 → Y i H1 x H2 → ∃ σ2, (∀ k : L2.St → Hp → Prop, k σ2 H2 → g x (wipe σ vs) H2 k) ∧ wipe σ2 vs = wipe σ vs ∧ EvT tt σ2 H2 (f i) ∧ (f i = true → Ev te σ2 H2 (v i))) :
    EvL (tLc wi g tt te vs) σ H (given n f v) := fun H0 e Q q => hi H0 e _ fun H1 e1 D hD => by
  refine lc_it wk (fun i H2 => Cw H1 f v D i H2) ⟨hD, Ex.new hD, upd_same⟩ (fun i H2 _ p => hG H2 ((e.trans e1).trans p.2.1)) (fun i x H2 H3 hi p y => ?_) (fun H2 p => q D H2 (fresh_back e1 p.1) (e1.trans p.2.1) p.2.2)
  have e3 := hY i H2 x H3 y
  obtain ⟨σ2, hk, hw, ht, he⟩ := hs i x H2 H3 hi ((e.trans e1).trans p.2.1) y
  refine hk _ ⟨hw, ?_⟩
  obtain ⟨p1, p2, p3⟩ := Hr.Cw.more p e3
  refine ht H3 (Ex.refl H3) _ fun H4 e4 => ?_
  cases hf : f i with
  | true =>
    show te σ2 H4 _
    refine he hf H4 e4 _ fun H5 e5 => ⟨given i f v, e5 D _ (e4 D _ p3), sz_lt (by have := given_len i f v; omega), p1, Ex.mut ((p2.trans e4).trans e5) p1, ?_⟩
    rw [given_yes hf]
    exact upd_same
  | false =>
    refine ⟨p1, p2.trans e4, ?_⟩
    rw [given_no hf]
    exact e4 D _ p3
theorem given_all (n : Nat) (v : Nat → V) : given n (fun _ => true) v = (List.range n).map v := by
  unfold given
  rw [List.filter_eq_self.mpr fun _ _ => rfl]
theorem given_none {n : Nat} {f : Nat → Bool} (v : Nat → V) (h : ∀ i, i < n → f i = false) : given n f v = [] := by
  unfold given
  rw [List.filter_eq_nil_iff.mpr fun i hi => by rw [h i (List.mem_range.mp hi)]; exact Bool.false_ne_true]
  rfl
theorem et_yes : EvT tYes σ H true := fun H1 _ _ q => q H1 (Ex.refl H1)
end
end Hr
namespace Hr
open PySem PySem.Spec PyProof.Rows L2 Evl
section
variable {σ : L2.St} {H : Hp} {Q : VK} {te ta tb : TE} {tr : TA} {D : Ends} {r : List V → Hp → VK → Prop} {q : R2} {tu tw : TS} {t : TT} {i : Nat}
theorem r_ret (h : te σ H D.rt) : tRet te D σ H := h
theorem r_cb (h : tr σ H fun vs H1 => r vs H1 Q) : tCB r tr σ H Q := h
theorem r_arg {Q : List V → Hp → Prop} (h : te σ H fun x H1 => tr σ H1 fun xs H2 => Q (x :: xs) H2) : tCons te tr σ H Q := h
theorem r_seq (h : tu { D with nx := tw D } σ H) : tSeq tu tw D σ H := h
theorem r_set (h : te σ H fun x H1 => D.nx (σ.set i (some x)) H1) : tAsg te (gName i) D σ H := h
theorem r_if (h : t σ H fun b H1 => if b = true then tu D σ H1 else tw D σ H1) : tIfS t tu tw D σ H := h
theorem r_op (h : ta σ H fun x H1 => tb σ H1 fun y H2 => q x y H2 Q) : tOp q ta tb σ H Q := h
theorem r_test {Q : Bool → Hp → Prop} (h : te σ H fun x H' => ∃ k, x = .bl k ∧ Q k H') : tTest te σ H Q := h
theorem r_B {Q : Bool → Hp → Prop} (h : te σ H fun x H' => ∃ k, x = .bl k ∧ Q k H') : tB te σ H Q := h
end
end Hr
namespace Hr
open PySem L2
theorem r_yes {σ : L2.St} {H : Hp} {Q : Bool → Hp → Prop} (h : Q true H) : tYes σ H Q := h
end Hr

/-! The deck of drawn numbers: a dict with a list, and what else is known of the heap. -/
namespace Hr
open PySem PySem.Spec PyProof.Rows L2 Evl
def kC : Key := .inr "cells"
def kM : Key := .inr "mixed"
def kD : Key := .inr "turn"
def deckD (c : Addr) (m n : Int) : List (Key × V) := [(kC, .ref c), (kM, .int m), (kD, .int n)]
theorem kCM : ¬ kC = kM := by decide +kernel
theorem kCD : ¬ kC = kD := by decide +kernel
theorem kMD : ¬ kM = kD := by decide +kernel
section
variable {c : Addr} {m n n' : Int}
theorem deck_cells : valV (deckD c m n) kC = some (.ref c) := valV_pos rfl
theorem deck_mixed : valV (deckD c m n) kM = some (.int m) := (valV_neg kCM).trans (valV_pos rfl)
theorem deck_draws : valV (deckD c m n) kD = some (.int n) := (valV_neg kCD).trans ((valV_neg kMD).trans (valV_pos rfl))
theorem deck_put : putK (deckD c m n) kD (.int n') = deckD c m n' := by
  unfold putK deckD
  rw [if_pos (by simp)]
  simp [kCD, kMD]
theorem deck_made : mergeK [] [(kC, .ref c), (kM, .int m), (kD, .int n)] = deckD c m n := by
  have h1 : ¬ kM = kC := fun e => kCM e.symm
  have h2 : ¬ kD = kC := fun e => kCD e.symm
  have h3 : ¬ kD = kM := fun e => kMD e.symm
  unfold mergeK
  simp [putK, deckD, kCM, kCD, kMD, h1, h2, h3]
end
structure DkC (G : Hp) (d c : Addr) (cells : List Int) (m n : Int) (H : Hp) : Prop where
  ex : Ex G H
  gd : G d = none
  gc : G c = none
  hd : H d = some (.dK (deckD c m n))
  hc : H c = some (.lst (cells.map V.int))
  len : cells.length ≤ 63
  m0 : 0 ≤ m
  m1 : m < 2147483648
/-- a deck at d; beside it all of G stands -/
def Dk (G : Hp) (d : Addr) (H : Hp) : Prop := ∃ c cells m n, DkC G d c cells m n H
section
variable {G G' H H' : Hp} {d c p : Addr} {cells : List Int} {m n n' : Int} {o : HO}
theorem DkC.ne (k : DkC G d c cells m n H) : d ≠ c := ne_of k.hd k.hc (by intro z; cases z)
theorem DkC.more (k : DkC G d c cells m n H) (e : Ex H H') : DkC G d c cells m n H' := ⟨k.ex.trans e, k.gd, k.gc, e _ _ k.hd, e _ _ k.hc, k.len, k.m0, k.m1⟩
theorem DkC.new (k : DkC G d c cells m n H) (h : H p = none) : DkC G d c cells m n (upd H p o) := k.more (Ex.new h)
theorem DkC.draw (k : DkC G d c cells m n H) : DkC G d c cells m n' (upd H d (.dK (deckD c m n'))) :=
  ⟨Ex.mut k.ex k.gd, k.gd, k.gc, upd_same, by rw [upd_ne k.ne.symm]; exact k.hc, k.len, k.m0, k.m1⟩
theorem DkC.cell {xs : List Int} (k : DkC G d c cells m n H) (h : xs.length ≤ 63) : DkC G d c xs m n (upd H c (.lst (xs.map V.int))) :=
  ⟨Ex.mut k.ex k.gc, k.gd, k.gc, by rw [upd_ne k.ne]; exact k.hd, upd_same, h, k.m0, k.m1⟩
theorem DkC.grow (k : DkC G d c cells m n H) (h : H p = none) (e : Ex H H') (hp : H' p = some o) : DkC (upd G p o) d c cells m n H' := by
  have hd : d ≠ p := ne_of_none k.hd h
  have hc : c ≠ p := ne_of_none k.hc h
  refine ⟨fun b u z => ?_, by rw [upd_ne hd]; exact k.gd, by rw [upd_ne hc]; exact k.gc, e _ _ k.hd, e _ _ k.hc, k.len, k.m0, k.m1⟩
  by_cases hb : b = p
  · subst hb
    rw [upd_same] at z
    cases z
    exact hp
  · rw [upd_ne hb] at z
    exact e _ _ (k.ex _ _ z)
theorem Dk.ex (k : Dk G d H) : Ex G H := k.elim fun _ ⟨_, _, _, z⟩ => z.ex
theorem Dk.more (k : Dk G d H) (e : Ex H H') : Dk G d H' := let ⟨c, x, m, n, z⟩ := k; ⟨c, x, m, n, z.more e⟩
theorem Dk.new (k : Dk G d H) (h : H p = none) : Dk G d (upd H p o) := k.more (Ex.new h)
theorem Dk.grow (k : Dk G d H) (h : H p = none) (e : Ex H H') (hp : H' p = some o) : Dk (upd G p o) d H' := let ⟨c, x, m, n, z⟩ := k; ⟨c, x, m, n, z.grow h e hp⟩
theorem Dk.free (k : Dk G d H) (h : H p = none) : G p = none := fresh_back k.ex h
theorem Dk.gex (k : Dk G d H) (h : H p = none) : Ex G (upd G p o) := Ex.new (k.free h)
theorem Dk.get (k : Dk G d H) {b : Addr} {u : HO} (h : G b = some u) : H b = some u := k.ex _ _ h
theorem DkC.gcells (k : DkC G d c cells m n H) : DGet H d (.str "cells") (some (.ref c)) := by
  have z := DGet.k (k := kC) k.hd
  rw [deck_cells] at z
  exact z
theorem DkC.gmixed (k : DkC G d c cells m n H) : DGet H d (.str "mixed") (some (.int m)) := by
  have z := DGet.k (k := kM) k.hd
  rw [deck_mixed] at z
  exact z
theorem DkC.gdraws (k : DkC G d c cells m n H) : DGet H d (.str "turn") (some (.int n)) := by
  have z := DGet.k (k := kD) k.hd
  rw [deck_draws] at z
  exact z
theorem DkC.pdraws (k : DkC G d c cells m n H) : DPut H d (.str "turn") (.int n') (upd H d (.dK (deckD c m n'))) := by
  have z := DPut.k (k := kD) (v := .int n') k.hd (by show 3 < sizeLine; decide)
  rw [deck_put] at z
  exact z
end
/-! a list of ints as data -/
def izD (xs : List Int) : PyData := .list (xs.map PyData.int)
section
variable {K : PySem.W.Frag} {H : Hp} {a : Addr}
theorem ints_dp : ∀ xs : List Int, DpAll K H (xs.map V.int) (xs.map PyData.int)
  | [] => .nil
  | x :: xs => .cons (.int x) (ints_dp xs)
theorem izD_dp {xs : List Int} (h : SqL K H a (xs.map V.int)) : Dp K H (.ref a) (izD xs) := .lst h (ints_dp xs)
theorem ints_lay : ∀ xs : List Int, PyData.canLayAll0 (xs.map PyData.int) = true
  | [] => by simp [PyData.canLayAll0]
  | x :: xs => by
    have ih := ints_lay xs
    simp only [List.map_cons, PyData.canLayAll0, PyData.canLay0, Bool.true_and]
    exact ih
theorem ints_depth : ∀ xs : List Int, PyData.depthAll (xs.map PyData.int) ≤ 1
  | [] => by simp [PyData.depthAll]
  | x :: xs => by
    have ih := ints_depth xs
    simp only [List.map_cons, PyData.depthAll, PyData.depth]
    exact Nat.max_le.mpr ⟨by decide, ih⟩
theorem izD_shaped (xs : List Int) : SeqAt.shaped (izD xs) = true := by
  unfold SeqAt.shaped izD
  have h1 := ints_lay xs
  have h2 := ints_depth xs
  simp only [PyData.canLay0, PyData.depth, Bool.and_eq_true, decide_eq_true_eq]
  exact ⟨h1, decide_eq_true (by omega)⟩
theorem izD_eqv_nil (xs : List Int) : PyData.eqv (izD xs) (izD []) = xs.isEmpty := by
  cases xs with
  | nil => simp [izD, PyData.eqv, PyData.eqvAll]
  | cons x xs => simp [izD, PyData.eqv, PyData.eqvAll]
end
end Hr
namespace Hr
open PySem PySem.Spec PyProof.Rows L2 Evl
section
variable {G G' H H' : Hp} {d c f : Addr} {cells : List Int} {m n : Int} {o o' : HO}
/-- a known object of one's own is changed -/
theorem Dk.set (k : Dk G d H) (h : G f = some o) : Dk (upd G f o') d (upd H f o') := by
  obtain ⟨c, x, m, n, z⟩ := k
  have fd : d ≠ f := fun e => by subst e; rw [z.gd] at h; cases h
  have fc : c ≠ f := fun e => by subst e; rw [z.gc] at h; cases h
  refine ⟨c, x, m, n, ?_, by rw [upd_ne fd]; exact z.gd, by rw [upd_ne fc]; exact z.gc, by rw [upd_ne fd]; exact z.hd, by rw [upd_ne fc]; exact z.hc, z.len, z.m0, z.m1⟩
  intro b u e
  by_cases hb : b = f
  · subst hb
    rw [upd_same] at e ⊢
    exact e
  · rw [upd_ne hb] at e ⊢
    exact z.ex _ _ e
theorem Dk.made (k : Dk G d H) (h : H f = none) : Dk (upd G f o) d (upd H f o) := k.grow h (Ex.new h) upd_same
end
end Hr

/-! Data whose repr is short enough to be told. -/
namespace Hr
open PySem PySem.Spec PyProof.Rows L2 Evl
structure Fine (d : PyData) (n : Nat) : Prop where
  show1 : d.showable = true
  nod : d.hasDict = false
  leaf : d.leavesShort 1921 = true
  dep : d.depth ≤ 30
  bulk : d.bulk ≤ n
structure FineL (ds : List PyData) (n : Nat) : Prop where
  show1 : PyData.showableAll ds = true
  nod : PyData.hasDictAll ds = false
  leaf : PyData.leavesShortAll 1921 ds = true
  dep : PyData.depthAll ds ≤ 20
  bulk : PyData.bulkAll ds ≤ n
section
variable {d : PyData} {ds es : List PyData} {n m : Nat}
theorem FineL.nil : FineL [] 0 := ⟨rfl, rfl, rfl, Nat.zero_le _, Nat.le_refl 0⟩
theorem FineL.cons (h : Fine d n) (hd : d.depth ≤ 20) (t : FineL ds m) : FineL (d :: ds) (n + 1 + m) := by
  refine ⟨?_, ?_, ?_, ?_, ?_⟩
  · simp only [PyData.showableAll, h.show1, t.show1, Bool.and_self]
  · simp only [PyData.hasDictAll, h.nod, t.nod, Bool.or_self]
  · simp only [PyData.leavesShortAll, h.leaf, t.leaf, Bool.and_self]
  · simp only [PyData.depthAll]
    exact Nat.max_le.mpr ⟨hd, t.dep⟩
  · simp only [PyData.bulkAll]
    have := h.bulk
    have := t.bulk
    omega
theorem FineL.up (h : FineL ds n) (e : n ≤ m) : FineL ds m := ⟨h.show1, h.nod, h.leaf, h.dep, Nat.le_trans h.bulk e⟩
theorem Fine.up (h : Fine d n) (e : n ≤ m) : Fine d m := ⟨h.show1, h.nod, h.leaf, h.dep, Nat.le_trans h.bulk e⟩
theorem FineL.tup (h : FineL ds n) : Fine (.tuple ds) n := by
  refine ⟨?_, ?_, ?_, ?_, ?_⟩
  · simpa only [PyData.showable] using h.show1
  · simpa only [PyData.hasDict] using h.nod
  · simpa only [PyData.leavesShort] using h.leaf
  · have := h.dep
    simp only [PyData.depth]
    omega
  · simpa only [PyData.bulk] using h.bulk
theorem FineL.lst (h : FineL ds n) : Fine (.list ds) n := by
  refine ⟨?_, ?_, ?_, ?_, ?_⟩
  · simpa only [PyData.showable] using h.show1
  · simpa only [PyData.hasDict] using h.nod
  · simpa only [PyData.leavesShort] using h.leaf
  · have := h.dep
    simp only [PyData.depth]
    omega
  · simpa only [PyData.bulk] using h.bulk
theorem Fine.int {i : Int} (h : i.natAbs.log2 < 1920) : Fine (.int i) 0 := by
  refine ⟨decide_eq_true h, rfl, ?_, Nat.zero_le _, Nat.le_refl 0⟩
  simp only [PyData.leavesShort, decide_eq_true_eq]
  exact int_text_len_1921 h
theorem Fine.bool (b : Bool) : Fine (.bool b) 0 := ⟨rfl, rfl, rfl, Nat.zero_le _, Nat.le_refl 0⟩
theorem Fine.none : Fine .none 0 := ⟨rfl, rfl, rfl, Nat.zero_le _, Nat.le_refl 0⟩
theorem FineL.ints : ∀ xs : List Int, (∀ x ∈ xs, x.natAbs.log2 < 1920) → FineL (xs.map PyData.int) xs.length
  | [], _ => FineL.nil
  | x :: xs, h => by
    have ih := FineL.ints xs fun y hy => h y (List.mem_cons_of_mem _ hy)
    have z := FineL.cons (Fine.int (h x List.mem_cons_self)) (Nat.zero_le _) ih
    exact z.up (by rw [List.length_cons]; omega)
theorem Fine.len (h : Fine d n) (e : n ≤ 8000) : d.shown.length ≤ sizeLine := by
  have h1 := PyData.shown_le_bulk 1921 (by decide) d h.leaf
  have h2 := h.bulk
  have h3 : sizeLine = 16777216 := by decide
  have h4 : (1921 + 2) * d.bulk ≤ 1923 * 8000 := Nat.mul_le_mul (Nat.le_refl _) (by omega)
  omega
variable {K : PySem.W.Frag} {H : Hp} {a : Addr} {Q : VK}
/-- repr of such data -/
theorem r_repr (h : Dp K H (.ref a) d) (f : Fine d 8000) (q : Q (.str d.shown) H) : rRepr K [.ref a] H Q :=
  ⟨a, d, rfl, h, f.show1, f.nod, Nat.le_trans f.dep (by decide), f.len (Nat.le_refl _), q⟩
theorem ints_all : ∀ xs : List Int, DpAll K H (xs.map V.int) (xs.map PyData.int)
  | [] => .nil
  | x :: xs => .cons (.int x) (ints_all xs)
theorem tup_dp {xs : List Int} (h : SqT K H a (xs.map V.int)) : Dp K H (.ref a) (.tuple (xs.map PyData.int)) := .tup h (ints_all xs)
end
end Hr
namespace Hr
open PySem
theorem Fine.d40 {d : PyData} {n : Nat} (f : Fine d n) : d.depth ≤ 40 := Nat.le_trans f.dep (by decide)
end Hr

/-! Lower and upper numbers go together; upper numbers of sums. -/
namespace HrM
def gL (δ a i : Nat) : Nat := ch (a - δ) (i - 1)
def gU (δ a i : Nat) : Nat := ch (a + δ) (i + 1)
def sL (δ s : Nat) (xs : List Nat) : Nat := (terms (gL δ) s xs).sum
def sU (δ s : Nat) (xs : List Nat) : Nat := (terms (gU δ) s xs).sum
theorem sL_cons (δ s a : Nat) (r : List Nat) : sL δ (s + 1) (a :: r) = ch (a - δ) s + sL δ s r := by
  show (gL δ a (s + 1) :: terms (gL δ) s r).sum = _
  rw [List.sum_cons]
  rfl
theorem sU_cons (δ s a : Nat) (r : List Nat) : sU δ (s + 1) (a :: r) = ch (a + δ) (s + 2) + sU δ s r := by
  show (gU δ a (s + 1) :: terms (gU δ) s r).sum = _
  rw [List.sum_cons]
  rfl
theorem val_cons (s a : Nat) (r : List Nat) : val (s + 1) (a :: r) = ch a (s + 1) + val s r := rfl
theorem sL_le {δ : Nat} (hδ : δ ≤ 1) : ∀ {xs : List Nat} {s u : Nat}, Cas s xs → (∀ a, xs[0]? = some a → a < u) → sL δ s xs ≤ ch (u - δ) (s - 1)
  | [], _, _, _, _ => Nat.zero_le _
  | a :: r, s, u, c, hu => by
    obtain ⟨t, rfl⟩ : ∃ t, s = t + 1 := ⟨s - 1, by have := c.pos; omega⟩
    have hd := c.head
    have ha := hu a rfl
    rw [sL_cons, Nat.add_sub_cancel]
    cases t with
    | zero =>
      have hr : r = [] := List.eq_nil_of_length_eq_zero (Nat.le_zero.mp c.tail.len)
      subst hr
      rw [ch_zero, ch_zero]
      exact Nat.le_refl 1
    | succ t =>
      have ih := sL_le hδ (u := a) c.tail fun b hb => c.fall 0 a b rfl (by simpa using hb)
      rw [Nat.add_sub_cancel] at ih
      have e := ch_succ (a - δ) t
      have m := ch_mono (t + 1) (show a - δ + 1 ≤ u - δ by omega)
      omega
theorem sU_lt {δ : Nat} : ∀ {ys : List Nat} {s u : Nat}, Cas s ys → (∀ a, ys[0]? = some a → a < u) → s + 1 ≤ u + δ → sU δ s ys < ch (u + δ) (s + 1)
  | [], s, u, _, _, h => ch_pos h
  | b :: r, s, u, c, hu, h => by
    obtain ⟨t, rfl⟩ : ∃ t, s = t + 1 := ⟨s - 1, by have := c.pos; omega⟩
    have hd := c.head
    have hb := hu b rfl
    have ih := sU_lt (δ := δ) (u := b) c.tail (fun x hx => c.fall 0 b x rfl (by simpa using hx)) (by omega)
    rw [sU_cons]
    have e := ch_succ (b + δ) (t + 1)
    have m := ch_mono (t + 1 + 1) (show b + δ + 1 ≤ u + δ by omega)
    have e2 : t + 1 + 1 = t + 2 := rfl
    rw [e2] at *
    omega
/-- the two numbers go together -/
theorem gal {δ : Nat} (hδ : δ ≤ 1) : ∀ {xs ys : List Nat} {s : Nat}, Cas (s + 1) xs → Cas s ys → (sL δ (s + 1) xs ≤ val s ys ↔ val (s + 1) xs ≤ sU δ s ys)
  | [], _, _, _, _ => ⟨fun _ => Nat.zero_le _, fun _ => Nat.zero_le _⟩
  | a :: r, [], s, c, _ => by
    have hd := c.head
    have h1 := ch_pos (n := a - δ) (k := s) (by omega)
    have h2 := ch_pos (n := a) (k := s + 1) hd
    rw [sL_cons, val_cons]
    show ch (a - δ) s + sL δ s r ≤ 0 ↔ ch a (s + 1) + val s r ≤ 0
    omega
  | a :: r, b :: q, s, c, d => by
    obtain ⟨t, rfl⟩ : ∃ t, s = t + 1 := ⟨s - 1, by have := d.pos; omega⟩
    have ha := c.head
    have hb := d.head
    rw [sL_cons, val_cons, val_cons, sU_cons]
    rcases Nat.lt_trichotomy (a - δ) b with h | h | h
    · have h1 := sL_le hδ (u := a) c.tail fun x hx => c.fall 0 a x rfl (by simpa using hx)
      rw [Nat.add_sub_cancel] at h1
      have e := ch_succ (a - δ) t
      have m := ch_mono (t + 1) (show a - δ + 1 ≤ b by omega)
      have h2 := val_lt (u := a + 1) c (fun x hx => by cases hx; omega) (by omega)
      rw [val_cons] at h2
      have m2 := ch_mono (t + 2) (show a + 1 ≤ b + δ by omega)
      constructor
      · intro _
        have e2 : t + 1 + 1 = t + 2 := rfl
        rw [e2] at *
        omega
      · intro _
        omega
    · have ih := gal hδ c.tail d.tail
      have e : a = b + δ := by omega
      rw [h]
      subst e
      constructor
      · intro z
        have := ih.mp (by omega)
        have e2 : t + 1 + 1 = t + 2 := rfl
        rw [e2]
        omega
      · intro z
        have e2 : t + 1 + 1 = t + 2 := rfl
        rw [e2] at z
        have := ih.mpr (by omega)
        omega
    · have h1 := val_lt (u := b + 1) d (fun x hx => by cases hx; omega) (by omega)
      rw [val_cons] at h1
      have m := ch_mono (t + 1) (show b + 1 ≤ a - δ by omega)
      have h2 := sU_lt (δ := δ) (u := b + 1) d (fun x hx => by cases hx; omega) (by omega)
      rw [sU_cons] at h2
      have m2 := ch_mono (t + 2) (show b + 1 + δ ≤ a by omega)
      have e2 : t + 1 + 1 = t + 2 := rfl
      rw [e2] at *
      constructor <;> intro z <;> omega

/-! ### there is a cascade -/
theorem step_at (p : Nat → Prop) (lo : Nat) (h0 : p lo) : ∀ k : Nat, ¬ p (lo + k) → ∃ a, p a ∧ ¬ p (a + 1)
  | 0, h => absurd h0 h
  | k + 1, h => by
    by_cases q : p (lo + k)
    · exact ⟨lo + k, q, h⟩
    · exact step_at p lo h0 k q
theorem ch_more {s : Nat} (hs : 1 ≤ s) : ∀ l : Nat, l + 1 ≤ ch (s + l) s
  | 0 => by
    show 1 ≤ ch s s
    rw [ch_self]
    exact Nat.le_refl 1
  | l + 1 => by
    have ih := ch_more hs l
    obtain ⟨t, rfl⟩ : ∃ t, s = t + 1 := ⟨s - 1, by omega⟩
    have h1 := ch_pos (n := t + 1 + l) (k := t) (by omega)
    have e := ch_succ (t + 1 + l) t
    have e2 : t + 1 + (l + 1) = t + 1 + l + 1 := by omega
    rw [e2, e]
    omega
theorem top_ex {s n : Nat} (hs : 1 ≤ s) (hn : 1 ≤ n) : ∃ a, ch a s ≤ n ∧ n < ch (a + 1) s := by
  obtain ⟨a, h1, h2⟩ := step_at (fun a => ch a s ≤ n) s (by rw [ch_self]; exact hn) n (by have := ch_more hs n; omega)
  exact ⟨a, h1, Nat.lt_of_not_le h2⟩
theorem ex_cas : ∀ (s n : Nat), 1 ≤ s ∨ n = 0 → ∃ xs, Cas s xs ∧ val s xs = n
  | 0, n, h => by
    have : n = 0 := by omega
    subst this
    exact ⟨[], Cas.nil 0, rfl⟩
  | s + 1, n, _ => by
    by_cases hn : n = 0
    · subst hn
      exact ⟨[], Cas.nil _, rfl⟩
    obtain ⟨a, h1, h2⟩ := top_ex (s := s + 1) (n := n) (by omega) (by omega)
    have h3 : n - ch a (s + 1) < ch a s := by rw [ch_succ] at h2; omega
    have hsa : s + 1 ≤ a := by
      by_cases z : s + 1 ≤ a
      · exact z
      · have := ch_mono (s + 1) (show a + 1 ≤ s + 1 by omega)
        rw [ch_self] at this
        omega
    obtain ⟨xs, c, v⟩ := ex_cas s (n - ch a (s + 1)) (by
      by_cases z : s = 0
      · subst z
        rw [ch_zero] at h3
        omega
      · omega)
    refine ⟨a :: xs, ⟨by have := c.len; simpa using this, fun i x h => ?_, fun i x y h h' => ?_⟩, by rw [val_cons, v]; omega⟩
    · cases i with
      | zero => cases h; omega
      | succ i => have := c.low i x (by simpa using h); omega
    · cases i with
      | zero =>
        cases h
        have hy : xs[0]? = some y := by simpa using h'
        by_cases z : y < a
        · exact z
        · have g1 : ch y s ≤ val s xs := by
            cases xs with
            | nil => simp at hy
            | cons w ws =>
              cases hy
              show ch y s ≤ ch y s + val (s - 1) ws
              omega
          have g2 := ch_mono s (show a ≤ y by omega)
          omega
      | succ i => exact c.fall i x y (by simpa using h) (by simpa using h')
noncomputable def cc (s n : Nat) : List Nat := if h : 1 ≤ s ∨ n = 0 then (ex_cas s n h).choose else []
theorem cc_cas {s n : Nat} (h : 1 ≤ s) : Cas s (cc s n) ∧ val s (cc s n) = n := by
  unfold cc
  rw [dif_pos (Or.inl h)]
  exact (ex_cas s n (Or.inl h)).choose_spec
theorem cc_eq {s n : Nat} {xs : List Nat} (h : 1 ≤ s) (c : Cas s xs) (v : val s xs = n) : xs = cc s n := cas_uniq c (cc_cas h).1 (v.trans (cc_cas h).2.symm)
noncomputable def Lf (δ s n : Nat) : Nat := sL δ s (cc s n)
noncomputable def Uf (δ s n : Nat) : Nat := sU δ s (cc s n)
theorem Gal {δ s m n : Nat} (hδ : δ ≤ 1) (hs : 1 ≤ s) : Lf δ (s + 1) m ≤ n ↔ m ≤ Uf δ s n := by
  have h1 := cc_cas (s := s + 1) (n := m) (by omega)
  have h2 := cc_cas (s := s) (n := n) hs
  have g := gal hδ h1.1 h2.1
  rw [h1.2, h2.2] at g
  exact g
theorem Uf_mono {δ s a b : Nat} (hδ : δ ≤ 1) (hs : 1 ≤ s) (h : a ≤ b) : Uf δ s a ≤ Uf δ s b :=
  (Gal hδ hs).mp (Nat.le_trans ((Gal hδ hs).mpr (Nat.le_refl _)) h)
theorem Lf_one (δ n : Nat) : Lf δ 1 n = if n = 0 then 0 else 1 := by
  by_cases h : n = 0
  · subst h
    have e := cc_eq (s := 1) (n := 0) (xs := []) (by decide) (Cas.nil 1) rfl
    unfold Lf
    rw [← e]
    rfl
  · have c : Cas 1 [n] := (Cas.nil 1).snoc (by simp) (by simp; omega) fun a h => nomatch h
    have v : val 1 [n] = n := by
      show ch n 1 + 0 = n
      rw [ch_one]
      omega
    have e := cc_eq (s := 1) (n := n) (by decide) c v
    unfold Lf
    rw [← e, if_neg h, sL_cons, ch_zero]
    rfl
theorem Lf_mono {δ s a b : Nat} (hδ : δ ≤ 1) (hs : 1 ≤ s) (h : a ≤ b) : Lf δ s a ≤ Lf δ s b := by
  by_cases h1 : s = 1
  · subst h1
    rw [Lf_one, Lf_one]
    split <;> split <;> omega
  · obtain ⟨t, rfl⟩ : ∃ t, s = t + 1 := ⟨s - 1, by omega⟩
    exact (Gal hδ (by omega)).mpr (Nat.le_trans h ((Gal hδ (by omega)).mp (Nat.le_refl _)))
end HrM

/-! Least rests. -/
namespace HrM
/-- the sets without the least point among the first ones -/
def sD (s : Nat) (xs : List Nat) : Nat := (terms (fun a i => ch (a - 1) i) s xs).sum
def sW (s : Nat) (xs : List Nat) : Nat := (terms (fun a i => ch (a - 1) (i + 1)) s xs).sum
theorem sD_cons (s a : Nat) (r : List Nat) : sD (s + 1) (a :: r) = ch (a - 1) (s + 1) + sD s r := by
  show (ch (a - 1) (s + 1) :: terms (fun a i => ch (a - 1) i) s r).sum = _
  rw [List.sum_cons]
  rfl
theorem sW_cons (s a : Nat) (r : List Nat) : sW (s + 1) (a :: r) = ch (a - 1) (s + 2) + sW s r := by
  show (ch (a - 1) (s + 1 + 1) :: terms (fun a i => ch (a - 1) (i + 1)) s r).sum = _
  rw [List.sum_cons]
  rfl
theorem ch_dec {a k : Nat} (h : 1 ≤ a) : ch a (k + 1) = ch (a - 1) k + ch (a - 1) (k + 1) := by
  obtain ⟨b, rfl⟩ : ∃ b, a = b + 1 := ⟨a - 1, by omega⟩
  rw [Nat.add_sub_cancel, ch_succ]
theorem sD_sL : ∀ {xs : List Nat} {s : Nat}, Cas s xs → sD s xs + sL 1 s xs = val s xs
  | [], _, _ => rfl
  | a :: r, s, c => by
    obtain ⟨t, rfl⟩ : ∃ t, s = t + 1 := ⟨s - 1, by have := c.pos; omega⟩
    have ih := sD_sL c.tail
    rw [sD_cons, sL_cons, val_cons]
    have := ch_dec (a := a) (k := t) (by have := c.head; omega)
    omega
theorem sU_sD : ∀ {xs : List Nat} {s : Nat}, Cas s xs → sU 0 s xs = sD s xs + sW s xs
  | [], _, _ => rfl
  | a :: r, s, c => by
    obtain ⟨t, rfl⟩ : ∃ t, s = t + 1 := ⟨s - 1, by have := c.pos; omega⟩
    have ih := sU_sD c.tail
    rw [sD_cons, sU_cons, sW_cons]
    have := ch_dec (a := a) (k := t + 1) (by have := c.head; omega)
    have e : t + 1 + 1 = t + 2 := rfl
    rw [e] at this
    show ch a (t + 2) + _ = _
    omega
/-- the cascade of the number of these -/
def dec : Nat → List Nat → List Nat
  | _, [] => []
  | s, a :: r => if s < a then (a - 1) :: dec (s - 1) r else []
theorem flat : ∀ {xs : List Nat} {s : Nat}, Cas s xs → (∀ a, xs[0]? = some a → a = s) → sD s xs = 0 ∧ sW s xs = 0
  | [], _, _, _ => ⟨rfl, rfl⟩
  | a :: r, s, c, h => by
    obtain ⟨t, rfl⟩ : ∃ t, s = t + 1 := ⟨s - 1, by have := c.pos; omega⟩
    have ha := h a rfl
    subst ha
    have ih := flat c.tail fun b hb => by
      have h1 := c.fall 0 (t + 1) b rfl (by simpa using hb)
      have h2 := c.low 1 b (by simpa using hb)
      omega
    rw [sD_cons, sW_cons, ch_lt (by omega), ch_lt (by omega)]
    omega
theorem dec_head : ∀ {s : Nat} {xs : List Nat} {b : Nat}, (dec s xs)[0]? = some b → ∃ a, xs[0]? = some a ∧ b = a - 1 ∧ s < a
  | _, [], _, h => by simp [dec] at h
  | s, a :: r, b, h => by
    unfold dec at h
    by_cases z : s < a
    · rw [if_pos z] at h
      cases h
      exact ⟨a, rfl, rfl, z⟩
    · rw [if_neg z] at h
      simp at h
theorem Cas.cons {s a : Nat} {r : List Nat} (c : Cas s r) (ha : s + 1 ≤ a) (h : ∀ b, r[0]? = some b → b < a) : Cas (s + 1) (a :: r) := by
  refine ⟨by have := c.len; simpa using this, fun i x hx => ?_, fun i x y hx hy => ?_⟩
  · cases i with
    | zero => cases hx; omega
    | succ i => have := c.low i x (by simpa using hx); omega
  · cases i with
    | zero => cases hx; exact h y (by simpa using hy)
    | succ i => exact c.fall i x y (by simpa using hx) (by simpa using hy)
theorem dec_all : ∀ {xs : List Nat} {s : Nat}, Cas s xs → Cas s (dec s xs) ∧ val s (dec s xs) = sD s xs ∧ sL 0 s (dec s xs) ≤ sL 1 s xs ∧ sU 0 s (dec s xs) = sW s xs
  | [], s, _ => ⟨Cas.nil s, rfl, Nat.le_refl _, rfl⟩
  | a :: r, s, c => by
    obtain ⟨t, rfl⟩ : ∃ t, s = t + 1 := ⟨s - 1, by have := c.pos; omega⟩
    obtain ⟨i1, i2, i3, i4⟩ := dec_all c.tail
    unfold dec
    by_cases z : t + 1 < a
    · rw [if_pos z, Nat.add_sub_cancel]
      refine ⟨i1.cons (by omega) fun b hb => ?_, ?_, ?_, ?_⟩
      · obtain ⟨x, hx, rfl, hlt⟩ := dec_head hb
        have := c.fall 0 a x rfl (by simpa using hx)
        omega
      · rw [val_cons, sD_cons, i2]
      · rw [sL_cons, sL_cons]
        show ch (a - 1) t + _ ≤ _
        omega
      · rw [sU_cons, sW_cons, i4]
        rfl
    · rw [if_neg z]
      have ha : a = t + 1 := by have := c.head; omega
      have f := flat c fun b hb => by cases hb; exact ha
      exact ⟨Cas.nil _, f.1.symm, Nat.zero_le _, f.2.symm⟩
noncomputable def Df (s n : Nat) : Nat := sD s (cc s n)
theorem Df_le {s n : Nat} (hs : 1 ≤ s) : Df s n ≤ n := by
  have c := cc_cas (s := s) (n := n) hs
  have := sD_sL c.1
  rw [c.2] at this
  unfold Df
  omega
theorem Lf_of {δ s n : Nat} {xs : List Nat} (hs : 1 ≤ s) (c : Cas s xs) (v : val s xs = n) : Lf δ s n = sL δ s xs := by
  unfold Lf
  rw [← cc_eq hs c v]
theorem Uf_of {δ s n : Nat} {xs : List Nat} (hs : 1 ≤ s) (c : Cas s xs) (v : val s xs = n) : Uf δ s n = sU δ s xs := by
  unfold Uf
  rw [← cc_eq hs c v]
theorem Lf_Df {s n : Nat} (hs : 1 ≤ s) : Lf 0 s (Df s n) ≤ n - Df s n := by
  have c := cc_cas (s := s) (n := n) hs
  obtain ⟨h1, h2, h3, h4⟩ := dec_all c.1
  have e := Lf_of (δ := 0) (n := Df s n) hs h1 h2
  have := sD_sL c.1
  rw [c.2] at this
  rw [e]
  unfold Df at *
  omega
theorem Uf_Df {s n : Nat} (hs : 1 ≤ s) : Uf 0 s n = Df s n + Uf 0 s (Df s n) := by
  have c := cc_cas (s := s) (n := n) hs
  obtain ⟨h1, h2, h3, h4⟩ := dec_all c.1
  have e := Uf_of (δ := 0) (n := Df s n) hs h1 h2
  rw [e, h4]
  exact sU_sD c.1
theorem least_ex (p : Nat → Prop) : ∀ n : Nat, p n → ∃ m, p m ∧ ∀ k, k < m → ¬ p k := by
  intro n
  induction n using Nat.strongRecOn with
  | ind n ih =>
    intro h
    by_cases z : ∃ k, k < n ∧ p k
    · obtain ⟨k, hk, hp⟩ := z
      exact ih k hk hp
    · exact ⟨n, h, fun k hk hp => z ⟨k, hk, hp⟩⟩
/-- c is the least rest of n sets -/
def IsLeast (s n c : Nat) : Prop := Lf 0 s (n - c) ≤ c ∧ ∀ k, k < c → ¬ Lf 0 s (n - k) ≤ k
theorem Lf_zero (δ s : Nat) : Lf δ s 0 = 0 := by
  by_cases hs : 1 ≤ s
  · exact Lf_of hs (Cas.nil s) rfl
  · have : s = 0 := by omega
    subst this
    unfold Lf
    have h : cc 0 0 = [] := by
      have e : Cas 0 (cc 0 0) := by
        unfold cc
        rw [dif_pos (Or.inr rfl)]
        exact (ex_cas 0 0 (Or.inr rfl)).choose_spec.1
      exact List.eq_nil_of_length_eq_zero (Nat.le_zero.mp e.len)
    rw [h]
    rfl
theorem nl_ex (s n : Nat) : ∃ c, IsLeast s n c :=
  least_ex (fun c => Lf 0 s (n - c) ≤ c) n (by rw [Nat.sub_self, Lf_zero]; exact Nat.zero_le _)
noncomputable def nl (s n : Nat) : Nat := (nl_ex s n).choose
theorem nl_is (s n : Nat) : IsLeast s n (nl s n) := (nl_ex s n).choose_spec
theorem nl_le {s n c : Nat} (h : Lf 0 s (n - c) ≤ c) : nl s n ≤ c := by
  by_cases z : nl s n ≤ c
  · exact z
  · exact absurd h ((nl_is s n).2 c (by omega))
theorem nl_eq {s n c : Nat} (h : IsLeast s n c) : c = nl s n := by
  have h1 := nl_le h.1
  by_cases z : c ≤ nl s n
  · omega
  · exact absurd (nl_is s n).1 (h.2 _ (by omega))
theorem nl_self (s n : Nat) : nl s n ≤ n := nl_le (by rw [Nat.sub_self, Lf_zero]; exact Nat.zero_le _)
/-- from the least rest on -/
theorem nl_on {s n c : Nat} (hs : 1 ≤ s) : Lf 0 s (n - c) ≤ c ↔ nl s n ≤ c := by
  refine ⟨nl_le, fun h => ?_⟩
  have h1 := (nl_is s n).1
  have h2 := Lf_mono (δ := 0) (s := s) (by decide) hs (show n - c ≤ n - nl s n by omega)
  omega
theorem nl_Df {s n : Nat} (hs : 1 ≤ s) : nl s n ≤ n - Df s n := by
  refine nl_le ?_
  have h := Df_le (s := s) (n := n) hs
  rw [show n - (n - Df s n) = Df s n by omega]
  exact Lf_Df hs
/-- the least rests of two sizes go together -/
theorem nl_two {s f g : Nat} (hs : 1 ≤ s) (h : Lf 0 (s + 1) g ≤ f) : nl s f + nl (s + 1) g ≤ f := by
  have h0 := nl_self s f
  have h1 := nl_Df (s := s) (n := f) hs
  have hD := Df_le (s := s) (n := f) hs
  have h2 := (Gal (δ := 0) (by decide) hs).mp h
  have h3 := Uf_Df (s := s) (n := f) hs
  have h4 := Uf_mono (δ := 0) (s := s) (by decide) hs (show Df s f ≤ f - nl s f by omega)
  have h5 : nl (s + 1) g ≤ f - nl s f := nl_le ((Gal (δ := 0) (by decide) hs).mpr (by omega))
  omega
theorem nl_one {n : Nat} (h : 1 ≤ n) : nl 1 n = 1 := by
  refine (nl_eq ⟨?_, fun k hk => ?_⟩).symm
  · rw [Lf_one]
    split <;> omega
  · have : k = 0 := by omega
    subst this
    rw [Lf_one, if_neg (by omega)]
    omega
end HrM

/-! Counts, their least rests and their rows of holes. -/
namespace HrM
/-- counts of some family -/
structure Fit (xs : List Nat) : Prop where
  ne : 1 ≤ xs.length
  len : xs.length ≤ 4
  pos : ∀ k, k < xs.length → 1 ≤ xs.getD k 0
  fit : ∀ k, 1 ≤ k → k < xs.length → Lf 0 (k + 1) (xs.getD k 0) ≤ xs.getD (k - 1) 0
noncomputable def mm (xs : List Nat) (k : Nat) : Nat := if k < xs.length then nl (k + 1) (xs.getD k 0) else 0
theorem mm_at {xs : List Nat} {k : Nat} (h : k < xs.length) : mm xs k = nl (k + 1) (xs.getD k 0) := if_pos h
theorem mm_end {xs : List Nat} {k : Nat} (h : xs.length ≤ k) : mm xs k = 0 := if_neg (by omega)
theorem Fit.mm0 {xs : List Nat} (F : Fit xs) : mm xs 0 = 1 := by
  rw [mm_at F.ne]
  exact nl_one (F.pos 0 F.ne)
theorem Fit.mm2 {xs : List Nat} (F : Fit xs) {k : Nat} (h : k < xs.length) : mm xs k + mm xs (k + 1) ≤ xs.getD k 0 := by
  by_cases z : k + 1 < xs.length
  · rw [mm_at h, mm_at z]
    exact nl_two (by omega) (F.fit (k + 1) (by omega) z)
  · rw [mm_at h, mm_end (by omega)]
    exact nl_self _ _
/-- the rests of two rows -/
def rI : List Int → List Int → List Int
  | c :: cs, h :: hs => (c - h - (rI cs hs).headD 0) :: rI cs hs
  | _, _ => [0]
theorem rI_len : ∀ {cs hs : List Int}, cs.length = hs.length → (rI cs hs).length = cs.length + 1
  | [], [], _ => rfl
  | [], _ :: _, h => by cases h
  | _ :: _, [], h => by cases h
  | c :: cs, x :: hs, h => by
    show (rI cs hs).length + 1 = cs.length + 1 + 1
    rw [rI_len (by simpa using h)]
theorem rI_end : ∀ {cs hs : List Int}, cs.length = hs.length → (rI cs hs).getD cs.length 0 = 0
  | [], [], _ => rfl
  | [], _ :: _, h => by cases h
  | _ :: _, [], h => by cases h
  | c :: cs, x :: hs, h => by
    show ((c - x - (rI cs hs).headD 0) :: rI cs hs).getD (cs.length + 1) 0 = 0
    rw [List.getD_cons_succ]
    exact rI_end (by simpa using h)
theorem headD_getD (l : List Int) : l.headD 0 = l.getD 0 0 := by cases l <;> rfl
theorem rI_at : ∀ {cs hs : List Int} (k : Nat), cs.length = hs.length → k < cs.length → (rI cs hs).getD k 0 = cs.getD k 0 - hs.getD k 0 - (rI cs hs).getD (k + 1) 0
  | [], _, _, _, h => absurd h (Nat.not_lt_zero _)
  | _ :: _, [], _, h, _ => by cases h
  | c :: cs, x :: hs, 0, h, _ => by
    show c - x - (rI cs hs).headD 0 = c - x - (rI cs hs).getD 0 0
    rw [headD_getD]
  | c :: cs, x :: hs, k + 1, h, hk => rI_at (cs := cs) (hs := hs) k (by simpa using h) (by simpa using hk)
/-- there are no others -/
theorem rI_uniq {cs hs r : List Int} (h : cs.length = hs.length) (hl : r.length = cs.length + 1) (he : r.getD cs.length 0 = 0) (ha : ∀ k, k < cs.length → r.getD k 0 = cs.getD k 0 - hs.getD k 0 - r.getD (k + 1) 0) : rI cs hs = r := by
  have key : ∀ j k, j + k = cs.length → (rI cs hs).getD k 0 = r.getD k 0 := by
    intro j
    induction j with
    | zero =>
      intro k hk
      have e : k = cs.length := by omega
      subst e
      rw [he, rI_end h]
    | succ j ih =>
      intro k hk
      rw [rI_at k h (by omega), ha k (by omega), ih (k + 1) (by omega)]
  apply List.ext_getElem?
  intro i
  by_cases hi : i < cs.length + 1
  · have h1 : i < (rI cs hs).length := by rw [rI_len h]; exact hi
    have h2 : i < r.length := by omega
    have := key (cs.length - i) i (by omega)
    rw [List.getD_eq_getElem?_getD, List.getD_eq_getElem?_getD, List.getElem?_eq_getElem h1, List.getElem?_eq_getElem h2] at this
    rw [List.getElem?_eq_getElem h1, List.getElem?_eq_getElem h2]
    exact congrArg some this
  · rw [List.getElem?_eq_none (by rw [rI_len h]; omega), List.getElem?_eq_none (by omega)]
/-- a row by its items -/
def row (n : Nat) (f : Nat → Int) : List Int := (List.range n).map f
theorem row_len (n : Nat) (f : Nat → Int) : (row n f).length = n := by unfold row; rw [List.length_map, List.length_range]
theorem row_get {n : Nat} {f : Nat → Int} {k : Nat} (h : k < n) : (row n f)[k]? = some (f k) := by
  unfold row
  rw [List.getElem?_map, List.getElem?_range h]
  rfl
theorem row_at {n : Nat} {f : Nat → Int} {k : Nat} (h : k < n) : (row n f).getD k 0 = f k := by
  rw [List.getD_eq_getElem?_getD, row_get h]
  rfl
theorem iz_at (xs : List Nat) (k : Nat) : (iz xs).getD k 0 = ((xs.getD k 0 : Nat) : Int) := by
  rw [List.getD_eq_getElem?_getD, List.getD_eq_getElem?_getD, iz_get]
  cases xs[k]? <;> rfl
noncomputable def mL (xs : List Nat) : List Int := row (xs.length + 1) fun k => (mm xs k : Int)
/-- the holes that counts leave with rests -/
def hW (cs rs : List Int) : List Int := row cs.length fun k => cs.getD k 0 - rs.getD k 0 - rs.getD (k + 1) 0
theorem mL_at {xs : List Nat} {k : Nat} (h : k ≤ xs.length) : (mL xs).getD k 0 = (mm xs k : Int) := row_at (by omega)
theorem hW_at {xs : List Nat} {k : Nat} (h : k < xs.length) : (hW (iz xs) (mL xs)).getD k 0 = (xs.getD k 0 : Int) - mm xs k - mm xs (k + 1) := by
  unfold hW
  rw [row_at (by rw [iz_len]; exact h), iz_at, mL_at (by omega), mL_at (by omega)]
theorem hW_len (cs rs : List Int) : (hW cs rs).length = cs.length := row_len _ _
theorem Fit.hW0 {xs : List Nat} (F : Fit xs) {k : Nat} (h : k < xs.length) : 0 ≤ (hW (iz xs) (mL xs)).getD k 0 ∧ (hW (iz xs) (mL xs)).getD k 0 ≤ xs.getD k 0 := by
  have := F.mm2 h
  rw [hW_at h]
  omega
/-- two rows fit: rests from 0 on that begin with 1, and nowhere too many sets -/
def GoodR (cs hs : List Int) : Prop := (∀ k, k ≤ cs.length → 0 ≤ (rI cs hs).getD k 0) ∧ (rI cs hs).getD 0 0 = 1 ∧
  ∀ k, 1 ≤ k → k < cs.length → ((Lf 0 (k + 1) ((rI cs hs).getD (k + 1) 0 + hs.getD k 0).toNat : Nat) : Int) ≤ (rI cs hs).getD k 0
theorem rI_most {xs : List Nat} : rI (iz xs) (hW (iz xs) (mL xs)) = mL xs := by
  refine rI_uniq (hW_len _ _).symm ?_ ?_ fun k hk => ?_
  · rw [iz_len]
    exact row_len _ _
  · rw [iz_len, mL_at (Nat.le_refl _), mm_end (Nat.le_refl _)]
    rfl
  · rw [iz_len] at hk
    rw [hW_at hk, iz_at, mL_at (by omega), mL_at (by omega)]
    omega
theorem Fit.most {xs : List Nat} (F : Fit xs) : GoodR (iz xs) (hW (iz xs) (mL xs)) := by
  unfold GoodR
  rw [rI_most, iz_len]
  refine ⟨fun k hk => ?_, ?_, fun k h1 hk => ?_⟩
  · rw [mL_at hk]
    omega
  · rw [mL_at (Nat.zero_le _), F.mm0]
    rfl
  · have h2 := F.mm2 hk
    rw [mL_at (by omega), mL_at (by omega), hW_at hk]
    have e : ((mm xs (k + 1) : Int) + ((xs.getD k 0 : Int) - mm xs k - mm xs (k + 1))).toNat = xs.getD k 0 - mm xs k := by omega
    rw [e]
    have h3 := (nl_is (k + 1) (xs.getD k 0)).1
    rw [← mm_at hk] at h3
    omega
/-- one number of holes more or fewer moves the first rest -/
theorem rI_shift {cs hs hs' : List Int} {at_ : Nat} {more : Int} (h : cs.length = hs.length) (h' : cs.length = hs'.length) (ha : at_ < cs.length) (hm : more = 1 ∨ more = -1)
    (e1 : hs'.getD at_ 0 = hs.getD at_ 0 + more) (e2 : ∀ k, k ≠ at_ → hs'.getD k 0 = hs.getD k 0) : (rI cs hs').getD 0 0 ≠ (rI cs hs).getD 0 0 := by
  have up : ∀ j k, j + k = cs.length → at_ < k → (rI cs hs').getD k 0 = (rI cs hs).getD k 0 := by
    intro j
    induction j with
    | zero =>
      intro k hk _
      have e : k = cs.length := by omega
      subst e
      rw [rI_end h, rI_end h']
    | succ j ih =>
      intro k hk hlt
      rw [rI_at k h (by omega), rI_at k h' (by omega), ih (k + 1) (by omega) (by omega), e2 k (by omega)]
  have down : ∀ j, j ≤ at_ → (rI cs hs').getD (at_ - j) 0 = (rI cs hs).getD (at_ - j) 0 + 1 ∨ (rI cs hs').getD (at_ - j) 0 = (rI cs hs).getD (at_ - j) 0 - 1 := by
    intro j
    induction j with
    | zero =>
      intro _
      rw [Nat.sub_zero, rI_at at_ h ha, rI_at at_ h' ha, e1, up (cs.length - (at_ + 1)) (at_ + 1) (by omega) (by omega)]
      omega
    | succ j ih =>
      intro hj
      have := ih (by omega)
      have e : at_ - j = at_ - (j + 1) + 1 := by omega
      rw [rI_at (at_ - (j + 1)) h (by omega), rI_at (at_ - (j + 1)) h' (by omega), e2 _ (by omega), ← e]
      omega
  have := down at_ (Nat.le_refl _)
  rw [Nat.sub_self] at this
  omega
/-- how great rests may be -/
theorem rI_small {cs hs : List Int} {B : Int} (h : cs.length = hs.length) (hc : ∀ k, k < cs.length → -B ≤ cs.getD k 0 - hs.getD k 0 ∧ cs.getD k 0 - hs.getD k 0 ≤ B) (hB : 0 ≤ B) :
    ∀ j k, j + k = cs.length → -(j * B) ≤ (rI cs hs).getD k 0 ∧ (rI cs hs).getD k 0 ≤ j * B := by
  intro j
  induction j with
  | zero =>
    intro k hk
    have e : k = cs.length := by omega
    subst e
    rw [rI_end h]
    simp
  | succ j ih =>
    intro k hk
    have h1 := ih (k + 1) (by omega)
    have h2 := hc k (by omega)
    rw [rI_at k h (by omega)]
    have e : ((j + 1 : Nat) : Int) * B = (j : Int) * B + B := by
      rw [Int.natCast_add, Int.add_mul]
      simp
    rw [e]
    omega
end HrM

/-! More rules: min of a tuple, repr of a bool, a range walked again, zip of tuples. -/
namespace Hr
open PySem PySem.Spec PyProof.Rows L2 Evl RZ
section
variable {X : Cx}
/-! ### min of a tuple of ints -/
def rMinT (K : PySem.W.Frag) : List V → Hp → VK → Prop := fun vs H Q => ∃ (a : Addr) (ns : List Int), vs = [.ref a] ∧ SqT K H a (ns.map V.int) ∧ 0 < ns.length ∧ ∀ m, m ∈ ns → (∀ y, y ∈ ns → m ≤ y) → Q (.int m) H
theorem foldl_min (n : Int) : ∀ ns : List Int, (ns.foldl min n ∈ n :: ns) ∧ (∀ y ∈ n :: ns, ns.foldl min n ≤ y) := by
  intro ns
  induction ns generalizing n with
  | nil => exact ⟨List.mem_singleton.mpr rfl, fun y hy => by cases List.mem_singleton.mp hy; exact Int.le_refl _⟩
  | cons k r ih =>
    obtain ⟨h1, h2⟩ := ih (min n k)
    rw [List.foldl_cons]
    refine ⟨?_, fun y hy => ?_⟩
    · rcases List.mem_cons.mp h1 with e | h
      · rw [e]
        by_cases z : n ≤ k
        · rw [Int.min_eq_left z]; exact List.mem_cons_self
        · rw [Int.min_eq_right (by omega)]; exact List.mem_cons_of_mem _ List.mem_cons_self
      · exact List.mem_cons_of_mem _ (List.mem_cons_of_mem _ h)
    · have h3 := h2 (min n k) List.mem_cons_self
      rcases List.mem_cons.mp hy with rfl | hy
      · omega
      · rcases List.mem_cons.mp hy with rfl | hy
        · omega
        · exact h2 y (List.mem_cons_of_mem _ hy)
theorem alike_all_ints (ns : List Int) : PySem.W.AlikeAll (ns.map PyData.int) := by
  refine ⟨fun x hx y hy => ?_, fun x hx => ?_⟩
  · obtain ⟨i, _, rfl⟩ := List.mem_map.mp hx
    obtain ⟨j, _, rfl⟩ := List.mem_map.mp hy
    simp only [PySem.W.alike]
  · obtain ⟨i, _, rfl⟩ := List.mem_map.mp hx
    intro h
    cases h
theorem depth_ints : ∀ ns : List Int, PyData.depthAll (ns.map PyData.int) ≤ 1
  | [] => by simp [PyData.depthAll]
  | x :: xs => by
    have ih := depth_ints xs
    simp only [List.map_cons, PyData.depthAll, PyData.depth]
    exact Nat.max_le.mpr ⟨by decide, ih⟩
theorem dp_ints {K : PySem.W.Frag} {H : Hp} : ∀ xs : List Int, DpAll K H (xs.map V.int) (xs.map PyData.int)
  | [] => .nil
  | x :: xs => .cons (.int x) (dp_ints xs)
theorem cr_minT (hc : X.calm = true) (hu : X.A.units + 64 < cLine) : CallR X (.builtin "min") (rMinT X.K) := by
  intro pins s σ H vs us Q I r h
  obtain ⟨a, ns, rfl, hs, hne, q⟩ := h
  obtain ⟨its, rv, hl, hz⟩ := I.tuple hs
  rw [Vals.ref1 r]
  obtain ⟨as, rd⟩ := Dp.readsAll I _ _ _ (dp_ints (K := X.K) (H := H) ns) rv
  cases ns with
  | nil => exact absurd hne (by decide)
  | cons n ns =>
    have rd' : ReadsAll s.heap its.toArray.toList (PyData.int n :: ns.map PyData.int) as := by
      rw [List.toList_toArray]
      exact rd
    have hd := depth_ints (n :: ns)
    refine PySem.W.min_tuple_data (I.ok.hd hc) (show s.heap.IsTuple a its.toArray from hl) rd' (alike_all_ints (n :: ns)) ?_ fun i v h' tk bs hv hr hk => ?_
    · have hd' : PyData.depthAll (PyData.int n :: ns.map PyData.int) ≤ 1 := hd
      omega
    · rw [PySem.W.minD_ints] at hr
      obtain ⟨m1, m2⟩ := foldl_min n ns
      generalize ns.foldl min n = m at hr m1 m2
      cases hr with
      | int _ t => exact ⟨.int m, H, I.kept hk, ⟨_, rfl⟩, q m m1 m2⟩

/-! ### repr of a bool -/
def tOf (b : Bool) : Str := if b then "True" else "False"
theorem cr_reprB : CallR X (.builtin "repr") (fun xs H Q => ∃ b, xs = [.bl b] ∧ Q (.str (tOf b)) H) := by
  intro pins s σ H xs us Q I r h
  obtain ⟨b, rfl, q⟩ := h
  obtain ⟨u, rfl, r1⟩ := vals1 r
  cases r1
  exact PySem.P.repr_of_bool ⟨.str _, H, I.tok _, ⟨_, rfl⟩, q⟩

/-! ### a range that stands, walked -/
def iRngV (te : TE) : TI := fun σ H R => te σ H fun x H1 => ∃ (a : Addr) (lo hi : Int), x = .ref a ∧ H1 a = some (.rng lo hi) ∧ (-(2 ^ 62) ≤ lo ∧ lo < 2 ^ 62 ∧ -(2 ^ 62) ≤ hi ∧ hi < 2 ^ 62) ∧ R (Itr lo (hi - lo).toNat) H1
theorem pi_rngV {tg e : Expr} {te : TE} (he : PE X e te) : PI X tg e (iRngV te) := by
  refine ⟨fun pins s σ H R I h => ?_⟩
  refine thn (he.run pins s σ H _ I h) fun v s1 ⟨x, H1, I1, r1, q1⟩ => ?_
  obtain ⟨a, lo, hi, e, ha, ⟨h1, h2, h3, h4⟩, q⟩ := q1
  subst e
  cases r1
  obtain ⟨t, u, v, ho⟩ := I1.hok _ _ ha
  refine wpAny_pyIter_range (show IsRange s1.heap a lo hi 1 t u v from ho) (small_one h1 h2 h3 h4) ?_
  refine ⟨s1.heap.objs.size, [s1.heap.objs.size], _, _, H1, rfl, I1.kept (t' := s1.toks) fun b o e => Heap.get?_push_of_some _ e, turn_range _ lo (hi - lo).toNat, ?_, fun b hb => ?_, q⟩
  · have e1 : lo + ((0 : Nat) : Int) * 1 = lo := by simp
    have e2 : (((hi - lo).toNat : Nat) : Int) - ((0 : Nat) : Int) = Builtin.Range.rangeSize lo hi 1 := by rw [rangeSize_one]; split <;> omega
    show IsRangeIter _ _ (lo + ((0 : Nat) : Int) * 1) ((((hi - lo).toNat : Nat) : Int) - ((0 : Nat) : Int)) 1
    rw [e1, e2]
    exact Heap.get?_push_size _ rfl
  · have e : b = s1.heap.objs.size := by simpa using hb
    subst e
    exact I1.fpOk (Nat.le_refl _) (I1.hok.fresh (Nat.le_refl _))
end
theorem walk_zipT {K : PySem.W.Frag} {a b : Addr} {xs ys : List V} {n : Nat} (hn : n = min xs.length ys.length) : Walk (ItzT K a b) n (fun H => SqT K H a xs ∧ SqT K H b ys) (YPair (fun i => xs[i]?) (fun i => ys[i]?)) := by
  subst hn
  refine ⟨fun i _ hi q => ?_, fun _ q => ⟨xs, ys, q.1, q.2, by omega⟩, fun i H v H' _ q y => ?_⟩
  · have h1 : i < xs.length := by omega
    have h2 : i < ys.length := by omega
    exact ⟨xs, ys, xs[i], ys[i], q.1, q.2, by simp [h1], by simp [h2]⟩
  · obtain ⟨T, x, z, h1, h2, h3, h4, h5⟩ := y
    exact ⟨T, x, z, h1, h2, h3, h4 xs q.1, h5 ys q.2⟩
/-- one argument, by name -/
def sw1 {α : Type} (us ws : List α) : List α := match us, ws with
  | [], [a] => [a]
  | _, _ => []
theorem sw1_rel {vs : List V} {us : List Value} {zs : List V} {ws : List Value} (r : Vals vs us) (q : Vals zs ws) : Vals (sw1 vs zs) (sw1 us ws) := by
  cases r with
  | cons _ _ => exact .nil
  | nil =>
    cases q with
    | nil => exact .nil
    | cons q1 q =>
      cases q with
      | nil => exact .cons q1 .nil
      | cons _ _ => exact .nil
theorem sw1_binds {K : PySem.W.Frag} {x qual : Str} {st : Stmt} {f : Addr} {fd : FuncData} {p1 : Str} (F : Fun K x qual st f fd)
    (h : ∀ (kV doc pm : Value) (an : Option Addr) (cdv ct a : Value), bindArgs (PySem.W.fnOf x qual (defArgs st) (defBody st) (defScope st) .none kV doc pm an cdv ct) ⟨[], [(p1, a)]⟩ = pure [(p1, a)]) :
    KBinds K fd [p1] [p1] sw1 sw1 := by
  obtain ⟨oc, od, kV, doc, pm, an, cdv, ct, osl, rfl, lk, hcd⟩ := F.ex
  refine ⟨fun s us ws _ hl => ?_, sw1_rel⟩
  match us, ws, hl with
  | [], [a], _ => exact .of_eq (h kV doc pm an cdv ct a)
  | _ :: _, _, hl => exact absurd hl (by intro z; cases z)
  | [], [], hl => exact absurd hl (by intro z; cases z)
  | [], _ :: _ :: _, hl => exact absurd hl (by intro z; cases z)

/-! ### comprehensions over what is made on the way -/
section
variable {K : PySem.W.Frag} {σ : L2.St} {H : Hp} {te tl : TE} {g : TG} {tt : TT} {vs : List Nat} {f : Nat → Bool} {v : Nat → V} {xs ys : List V}
theorem lcW {J : It} {n : Nat} {G : Hp → Prop} {Y : Nat → Hp → V → Hp → Prop} {Q : VK} (wk : Walk J n G Y) (f : Nat → Bool) (v : Nat → V) (hz : n ≤ 40000)
    (hG : ∀ H1, Ex H H1 → G H1) (hY : ∀ i H1 x H2, Y i H1 x H2 → Ex H1 H2)
    (hs : ∀ i x H1 H2, i < n → Ex H H1 → Y i H1 x H2 → ∃ σ2, (∀ k : L2.St → Hp → Prop, k σ2 H2 → g x (wipe σ vs) H2 k) ∧ wipe σ2 vs = wipe σ vs ∧ EvT tt σ2 H2 (f i) ∧ (f i = true → Ev te σ2 H2 (v i)))
    (q : ∀ p H2, H p = none → Ex H H2 → H2 p = some (.lst (given n f v)) → Q (.ref p) H2) : tLc (fun _ H' R => R J H') g tt te vs σ H Q :=
  el_lcW (wi := fun _ H' R => R J H') wk f v hz (fun H1 _ R k => k H1 (Ex.refl H1)) hG hY hs H (Ex.refl H) Q q
theorem el_lcN (hl : EvL tl σ H ys) (f : Nat → Bool) (v : Nat → V) (hz : ys.length ≤ 40000)
    (hs : ∀ i x H2, Ex H H2 → ys[i]? = some x → ∃ σ2, (∀ k : L2.St → Hp → Prop, k σ2 H2 → g x (wipe σ vs) H2 k) ∧ wipe σ2 vs = wipe σ vs ∧ EvT tt σ2 H2 (f i) ∧ (f i = true → Ev te σ2 H2 (v i))) :
    EvL (tLc (iList K tl) g tt te vs) σ H (given ys.length f v) := fun H0 e Q q =>
  hl H0 e _ fun a H1 _ e1 h1 => ⟨a, rfl, ⟨_, SqL.of h1⟩, lcW (walk_list (K := K) (a := a) (xs := ys)) f v hz (fun H2 e2 => SqL.of (e2 _ _ h1)) (fun i H1 x H2 y => by rw [y.1]; exact Ex.refl _)
    (fun i x H2 H3 hi e2 y => by
      obtain ⟨rfl, y2⟩ := y
      exact hs i x H3 ((e.trans e1).trans e2) y2) fun p H2 np e2 hp => q p H2 (fresh_back e1 np) (e1.trans e2) hp⟩
theorem el_lcT {a : Addr} (ha : H a = some (.tup xs)) (hl : Ev tl σ H (.ref a)) (f : Nat → Bool) (v : Nat → V) (hz : xs.length ≤ 40000)
    (hs : ∀ i x H2, Ex H H2 → xs[i]? = some x → ∃ σ2, (∀ k : L2.St → Hp → Prop, k σ2 H2 → g x (wipe σ vs) H2 k) ∧ wipe σ2 vs = wipe σ vs ∧ EvT tt σ2 H2 (f i) ∧ (f i = true → Ev te σ2 H2 (v i))) :
    EvL (tLc (iTup K tl) g tt te vs) σ H (given xs.length f v) :=
  el_lcW (walk_tup (K := K) (a := a) (xs := xs)) f v hz (fun H1 e R k => hl H1 e _ fun H2 e2 => ⟨a, rfl, ⟨_, SqT.of (e2 _ _ (e _ _ ha))⟩, k H2 e2⟩) (fun H1 e => SqT.of (e _ _ ha)) (fun i H1 x H2 y => by rw [y.1]; exact Ex.refl _)
    fun i x H1 H2 hi e y => by
      obtain ⟨rfl, y2⟩ := y
      exact hs i x H2 e y2
theorem el_lcR {ta : TA} {lo hi : Int} (ha : EvA ta σ H [.int lo, .int hi]) (hb : -(2 ^ 62) ≤ lo ∧ lo < 2 ^ 62 ∧ -(2 ^ 62) ≤ hi ∧ hi < 2 ^ 62) (f : Nat → Bool) (v : Nat → V) (hz : (hi - lo).toNat ≤ 40000)
    (hs : ∀ (i : Nat) H2, Ex H H2 → i < (hi - lo).toNat → ∃ σ2, (∀ k : L2.St → Hp → Prop, k σ2 H2 → g (.int (lo + i)) (wipe σ vs) H2 k) ∧ wipe σ2 vs = wipe σ vs ∧ EvT tt σ2 H2 (f i) ∧ (f i = true → Ev te σ2 H2 (v i))) :
    EvL (tLc (iRng2 ta) g tt te vs) σ H (given (hi - lo).toNat f v) :=
  el_lcW (walk_range (lo := lo) (n := (hi - lo).toNat)) f v hz (fun H1 e R k => ha H1 e _ fun H2 e2 => ⟨lo, hi, rfl, hb, k H2 e2⟩) (fun _ _ => trivial) (fun i H1 x H2 y => by rw [y.1]; exact Ex.refl _)
    fun i x H1 H2 hi e y => by
      obtain ⟨rfl, rfl⟩ := y
      exact hs i H2 e hi
theorem el_lcR1 {ta : TA} {n : Int} (ha : EvA ta σ H [.int n]) (hb : -(2 ^ 62) ≤ n ∧ n < 2 ^ 62) (f : Nat → Bool) (v : Nat → V) (hz : n.toNat ≤ 40000)
    (hs : ∀ (i : Nat) H2, Ex H H2 → i < n.toNat → ∃ σ2, (∀ k : L2.St → Hp → Prop, k σ2 H2 → g (.int (0 + i)) (wipe σ vs) H2 k) ∧ wipe σ2 vs = wipe σ vs ∧ EvT tt σ2 H2 (f i) ∧ (f i = true → Ev te σ2 H2 (v i))) :
    EvL (tLc (iRng1 ta) g tt te vs) σ H (given n.toNat f v) :=
  el_lcW (walk_range (lo := 0) (n := n.toNat)) f v hz (fun H1 e R k => ha H1 e _ fun H2 e2 => ⟨n, rfl, hb.1, hb.2, k H2 e2⟩) (fun _ _ => trivial) (fun i H1 x H2 y => by rw [y.1]; exact Ex.refl _)
    fun i x H1 H2 hi e y => by
      obtain ⟨rfl, rfl⟩ := y
      exact hs i H2 e hi
theorem el_lcRV {r : Addr} {lo hi : Int} (ha : H r = some (.rng lo hi)) (hl : Ev tl σ H (.ref r)) (hb : -(2 ^ 62) ≤ lo ∧ lo < 2 ^ 62 ∧ -(2 ^ 62) ≤ hi ∧ hi < 2 ^ 62) (f : Nat → Bool) (v : Nat → V) (hz : (hi - lo).toNat ≤ 40000)
    (hs : ∀ (i : Nat) H2, Ex H H2 → i < (hi - lo).toNat → ∃ σ2, (∀ k : L2.St → Hp → Prop, k σ2 H2 → g (.int (lo + i)) (wipe σ vs) H2 k) ∧ wipe σ2 vs = wipe σ vs ∧ EvT tt σ2 H2 (f i) ∧ (f i = true → Ev te σ2 H2 (v i))) :
    EvL (tLc (iRngV tl) g tt te vs) σ H (given (hi - lo).toNat f v) :=
  el_lcW (walk_range (lo := lo) (n := (hi - lo).toNat)) f v hz (fun H1 e R k => hl H1 e _ fun H2 e2 => ⟨r, lo, hi, rfl, e2 _ _ (e _ _ ha), hb, k H2 e2⟩) (fun _ _ => trivial) (fun i H1 x H2 y => by rw [y.1]; exact Ex.refl _)
    fun i x H1 H2 hi e y => by
      obtain ⟨rfl, rfl⟩ := y
      exact hs i H2 e hi
/-- over enumerate of a tuple: at the turn a new pair -/
theorem el_lcE {a : Addr} {ta : TA} (ha : H a = some (.tup xs)) (hl : EvA ta σ H [.ref a]) (f : Nat → Bool) (v : Nat → V) (hz : xs.length ≤ 40000)
    (hs : ∀ (i : Nat) x T H2, Ex H H2 → xs[i]? = some x → H2 T = some (.tup [.int (i : Nat), x]) → ∃ σ2, (∀ k : L2.St → Hp → Prop, k σ2 H2 → g (.ref T) (wipe σ vs) H2 k) ∧ wipe σ2 vs = wipe σ vs ∧ EvT tt σ2 H2 (f i) ∧ (f i = true → Ev te σ2 H2 (v i))) :
    EvL (tLc (iEnumT K ta) g tt te vs) σ H (given xs.length f v) :=
  el_lcW (walk_enumT (K := K) (a := a) (xs := xs)) f v hz (fun H1 e R k => hl H1 e _ fun H2 e2 => ⟨a, xs, rfl, SqT.of (e2 _ _ (e _ _ ha)), k H2 e2⟩) (fun H1 e => SqT.of (e _ _ ha))
    (fun i H1 x H2 y => by
      obtain ⟨T, _, _, rfl, nT, rfl, _, _⟩ := y
      exact Ex.new nT)
    fun i x H1 H2 hi e y => by
      obtain ⟨T, _, x2, rfl, nT, rfl, e1, e2⟩ := y
      cases e1
      exact hs i x2 T _ (e.trans (Ex.new nT)) e2 upd_same
/-- over zip of two tuples, made on the way or not -/
theorem el_lcZ {ta : TA} (hl : ∀ H1, Ex H H1 → ∀ Q : List V → Hp → Prop, (∀ a b H2, Ex H1 H2 → H2 a = some (.tup xs) → H2 b = some (.tup ys) → Q [.ref a, .ref b] H2) → ta σ H1 Q) (f : Nat → Bool) (v : Nat → V) (hz : min xs.length ys.length ≤ 40000)
    (hs : ∀ (i : Nat) x y T H2, Ex H H2 → xs[i]? = some x → ys[i]? = some y → H2 T = some (.tup [x, y]) → ∃ σ2, (∀ k : L2.St → Hp → Prop, k σ2 H2 → g (.ref T) (wipe σ vs) H2 k) ∧ wipe σ2 vs = wipe σ vs ∧ EvT tt σ2 H2 (f i) ∧ (f i = true → Ev te σ2 H2 (v i))) :
    EvL (tLc (iZipA K ta) g tt te vs) σ H (given (min xs.length ys.length) f v) := fun H0 e Q q =>
  hl H0 e _ fun a b H1 e1 ha hb => ⟨a, b, xs, ys, rfl, .inr ⟨SqT.of ha, SqT.of hb, lcW (walk_zipT (K := K) rfl) f v hz (fun H2 e2 => ⟨SqT.of (e2 _ _ ha), SqT.of (e2 _ _ hb)⟩)
    (fun i H1 x H2 y => by
      obtain ⟨T, _, _, rfl, nT, rfl, _, _⟩ := y
      exact Ex.new nT)
    (fun i x H2 H3 hi e2 y => by
      obtain ⟨T, x1, x2, rfl, nT, rfl, h1, h2⟩ := y
      exact hs i x1 x2 T _ (((e.trans e1).trans e2).trans (Ex.new nT)) h1 h2 upd_same)
    fun p H2 np e2 hp => q p H2 (fresh_back e1 np) (e1.trans e2) hp⟩⟩
/-- over zip of two lists -/
theorem el_lcZL {ta : TA} (hl : ∀ H1, Ex H H1 → ∀ Q : List V → Hp → Prop, (∀ a b H2, Ex H1 H2 → H2 a = some (.lst xs) → H2 b = some (.lst ys) → Q [.ref a, .ref b] H2) → ta σ H1 Q) (f : Nat → Bool) (v : Nat → V) (hz : min xs.length ys.length ≤ 40000)
    (hs : ∀ (i : Nat) x y T H2, Ex H H2 → xs[i]? = some x → ys[i]? = some y → H2 T = some (.tup [x, y]) → ∃ σ2, (∀ k : L2.St → Hp → Prop, k σ2 H2 → g (.ref T) (wipe σ vs) H2 k) ∧ wipe σ2 vs = wipe σ vs ∧ EvT tt σ2 H2 (f i) ∧ (f i = true → Ev te σ2 H2 (v i))) :
    EvL (tLc (iZipA K ta) g tt te vs) σ H (given (min xs.length ys.length) f v) := fun H0 e Q q =>
  hl H0 e _ fun a b H1 e1 ha hb => ⟨a, b, xs, ys, rfl, .inl ⟨SqL.of ha, SqL.of hb, lcW (walk_zip (K := K) rfl) f v hz (fun H2 e2 => ⟨SqL.of (e2 _ _ ha), SqL.of (e2 _ _ hb)⟩)
    (fun i H1 x H2 y => by
      obtain ⟨T, _, _, rfl, nT, rfl, _, _⟩ := y
      exact Ex.new nT)
    (fun i x H2 H3 hi e2 y => by
      obtain ⟨T, x1, x2, rfl, nT, rfl, h1, h2⟩ := y
      exact hs i x1 x2 T _ (((e.trans e1).trans e2).trans (Ex.new nT)) h1 h2 upd_same)
    fun p H2 np e2 hp => q p H2 (fresh_back e1 np) (e1.trans e2) hp⟩⟩
/-- tuple(list made on the way) -/
theorem r_tupL {r : Prop} {xs : List V} {H : Hp} {Q : VK} {p : Addr} (hp : H p = some (.lst xs)) (q : ∀ l H2, H l = none → Ex H H2 → H2 l = some (.tup xs) → Q (.ref l) H2) :
    ∃ a ys, [V.ref p] = [V.ref a] ∧ ((SqL K H a ys ∧ ∀ l, H l = none → Q (.ref l) (upd H l (.tup ys))) ∨ (SqT K H a ys ∧ Q (.ref a) H)) :=
  ⟨p, xs, rfl, .inl ⟨SqL.of hp, fun l hl => q l _ hl (Ex.new hl) upd_same⟩⟩
theorem two_get {H : Hp} {T : Addr} {x y : V} {i j : Nat} {σ : L2.St} {k : L2.St → Hp → Prop} (h : H T = some (.tup [x, y])) (q : k ((σ.set i (some x)).set j (some y)) H) : gTup K 2 (gCons (gName i) (gCons (gName j) gNil)) (.ref T) σ H k :=
  ⟨T, [x, y], rfl, .inl (.inl h), rfl, _, _, rfl, _, _, rfl, rfl, q⟩
end
section
variable {K : PySem.W.Frag} {σ : L2.St} {H : Hp} {Q : VK} {te : TE} {tr : TA} {D : Ends} {trs : List (TE × TE)} {i j : Nat}
theorem r_disp (h : ∀ p, H p = none → tPairs trs σ (upd H p (.dK [])) fun ps H2 => H2 p = some (.dK []) ∧ ∃ kvs : List (Key × V), ps = kvs.map (fun kv => (kV kv.1, kv.2)) ∧ kvs.length ≤ 15 ∧ Q (.ref p) (upd H2 p (.dK (mergeK [] kvs)))) : tDisp trs σ H Q := h
theorem r_pairC {v : V} {Q : List (V × V) → Hp → Prop} (h : te σ H fun y H2 => tPairs trs σ H2 fun ps H3 => Q ((v, y) :: ps) H3) : tPairs ((tC v, te) :: trs) σ H Q := h
theorem r_revL (h : te σ H fun x H1 => ∃ a xs, x = .ref a ∧ SqL K H1 a xs ∧ ∀ p, H1 p = none → Q (.ref p) (upd H1 p (.lst xs.reverse))) : tRevL K te σ H Q := h
theorem r_tup (h : tr σ H fun xs H1 => xs.length ≤ sizeLine ∧ ∀ p, H1 p = none → Q (.ref p) (upd H1 p (.tup xs))) : tTup tr σ H Q := h
theorem r_lst (h : tr σ H fun xs H1 => xs.length ≤ sizeLine ∧ ∀ p, H1 p = none → Q (.ref p) (upd H1 p (.lst xs))) : tLst tr σ H Q := h
theorem r_nil {Q : List V → Hp → Prop} (h : Q [] H) : tNil σ H Q := h
theorem r_call {sp : Sp} {dvs : List V} {E : XK} (h : tr σ H fun vs H1 => sp (vs ++ dvs) H1 Q E) : tCall sp dvs E tr σ H Q := h
theorem r_callN {sp : Sp} {g : List V → List V → List V} {E : XK} (h : tr σ H fun zs H2 => sp (g [] zs) H2 Q E) : tCallN sp g E tr σ H Q := h
theorem r_var {v : V} (e : σ[i]? = some (some v)) (h : Q v H) : tVar i σ H Q := ⟨v, e, h⟩
theorem r_c {v : V} (h : Q v H) : tC v σ H Q := h
theorem r_drop (h : te σ H fun _ H1 => D.nx σ H1) : tDrop te D σ H := h
theorem r_slice {r : V → Option Int → Option Int → Hp → VK → Prop} {tl th : TO} (h : te σ H fun x H1 => tl σ H1 fun l H2 => th σ H2 fun u H3 => r x l u H3 Q) : tSl r te tl th σ H Q := h
/-- a list of tuples of a kind, made on the way -/
def TupR (R : List V → Prop) (H : Hp) (y : V) : Prop := ∃ c us, y = .ref c ∧ H c = some (.tup us) ∧ R us
theorem TupR.up {R : List V → Prop} {H H' : Hp} {y : V} (e : Ex H H') (h : TupR R H y) : TupR R H' y := by
  obtain ⟨c, us, rfl, hc, r⟩ := h
  exact ⟨c, us, rfl, e _ _ hc, r⟩
theorem TupR.upd {R : List V → Prop} {H : Hp} {y : V} {D : Addr} {xs ys : List V} (hD : H D = some (.lst xs)) (h : TupR R H y) : TupR R (upd H D (.lst ys)) y := by
  obtain ⟨c, us, rfl, hc, r⟩ := h
  exact ⟨c, us, rfl, by rw [upd_ne (ne_of hc hD (by intro z; cases z))]; exact hc, r⟩
theorem lcU {J : It} {n : Nat} {G : Hp → Prop} {Y : Nat → Hp → V → Hp → Prop} {g : TG} {tt : TT} {te : TE} {vs : List Nat} {R : List V → Prop} (wk : Walk J n G Y) (f : Nat → Bool) (hz : n ≤ 40000)
    (hG : ∀ H1, Ex H H1 → G H1) (hY : ∀ i H1 x H2, Y i H1 x H2 → Ex H1 H2)
    (hs : ∀ i x H1 H2, i < n → Ex H H1 → Y i H1 x H2 → ∃ σ2, (∀ k : L2.St → Hp → Prop, k σ2 H2 → g x (wipe σ vs) H2 k) ∧ wipe σ2 vs = wipe σ vs ∧ EvT tt σ2 H2 (f i) ∧
      (f i = true → ∀ H3, Ex H2 H3 → ∀ Q3 : VK, (∀ c us H4, Ex H3 H4 → H4 c = some (.tup us) → R us → Q3 (.ref c) H4) → te σ2 H3 Q3))
    (q : ∀ p H2 ys, H p = none → Ex H H2 → H2 p = some (.lst ys) → ys.length = ((List.range n).filter f).length → (∀ y ∈ ys, TupR R H2 y) → Q (.ref p) H2) : tLc (fun _ H' R => R J H') g tt te vs σ H Q := by
  intro D hD
  refine lc_it wk (fun i H2 => Ex H H2 ∧ ∃ ys, H2 D = some (.lst ys) ∧ ys.length = ((List.range i).filter f).length ∧ ys.length ≤ i ∧ ∀ y ∈ ys, TupR R H2 y)
    ⟨Ex.new hD, [], upd_same, rfl, Nat.le_refl _, fun y hy => absurd hy (by simp)⟩ (fun i H2 _ p => hG H2 p.1) (fun i x H2 H3 hi p y => ?_) (fun H2 p => ?_)
  · have e3 := hY i H2 x H3 y
    obtain ⟨σ2, hk, hw, ht, he⟩ := hs i x H2 H3 hi p.1 y
    obtain ⟨p1, ys, hy, hl, hl2, hr⟩ := p
    refine hk _ ⟨hw, ht H3 (Ex.refl H3) _ fun H4 e4 => ?_⟩
    rw [List.range_succ, List.filter_append, List.length_append]
    cases hf : f i with
    | true =>
      show te σ2 H4 _
      refine he hf H4 e4 _ fun c us H5 e5 hc hR => ⟨ys, e5 _ _ (e4 _ _ (e3 _ _ hy)), sz_lt (by omega), Ex.mut (((p1.trans e3).trans e4).trans e5) hD, ys ++ [.ref c], upd_same, ?_, ?_, ?_⟩
      · rw [List.length_append, List.filter_cons, if_pos hf, hl]
        rfl
      · rw [List.length_append]
        show ys.length + 1 ≤ i + 1
        omega
      · intro y hy2
        have hD5 := e5 _ _ (e4 _ _ (e3 _ _ hy))
        refine TupR.upd hD5 ?_
        rcases List.mem_append.mp hy2 with h | h
        · exact TupR.up ((e3.trans e4).trans e5) (hr y h)
        · cases List.mem_singleton.mp h
          exact ⟨c, us, rfl, hc, hR⟩
    | false =>
      refine ⟨(p1.trans e3).trans e4, ys, e4 _ _ (e3 _ _ hy), ?_, by omega, fun y h => TupR.up (e3.trans e4) (hr y h)⟩
      rw [List.filter_cons, if_neg (by rw [hf]; exact Bool.false_ne_true), hl]
      rfl
  · obtain ⟨p1, ys, hy, hl, _, hr⟩ := p
    exact q D H2 ys hD p1 hy hl hr
end
section
variable {K : PySem.W.Frag} {σ : L2.St} {H : Hp} {Q : VK} {te : TE} {g : TG} {tt : TT} {vs : List Nat} {xs : List V} {ta : TA} {R : List V → Prop}
theorem u_lcE {a : Addr} (ha : H a = some (.tup xs)) (hl : EvA ta σ H [.ref a]) (f : Nat → Bool) (hz : xs.length ≤ 40000)
    (hs : ∀ (i : Nat) x T H2, Ex H H2 → xs[i]? = some x → H2 T = some (.tup [.int (i : Nat), x]) → ∃ σ2, (∀ k : L2.St → Hp → Prop, k σ2 H2 → g (.ref T) (wipe σ vs) H2 k) ∧ wipe σ2 vs = wipe σ vs ∧ EvT tt σ2 H2 (f i) ∧
      (f i = true → ∀ H3, Ex H2 H3 → ∀ Q3 : VK, (∀ c us H4, Ex H3 H4 → H4 c = some (.tup us) → R us → Q3 (.ref c) H4) → te σ2 H3 Q3))
    (q : ∀ p H2 ys, H p = none → Ex H H2 → H2 p = some (.lst ys) → ys.length = ((List.range xs.length).filter f).length → (∀ y ∈ ys, TupR R H2 y) → Q (.ref p) H2) : tLc (iEnumT K ta) g tt te vs σ H Q :=
  hl H (Ex.refl H) _ fun H1 e1 => ⟨a, xs, rfl, SqT.of (e1 _ _ ha), lcU (walk_enumT (K := K) (a := a) (xs := xs)) f hz (fun H2 e2 => SqT.of (e2 _ _ (e1 _ _ ha)))
    (fun i H1 x H2 y => by
      obtain ⟨T, _, _, rfl, nT, rfl, _, _⟩ := y
      exact Ex.new nT)
    (fun i x H2 H3 hi e2 y => by
      obtain ⟨T, _, x2, rfl, nT, rfl, h1, h2⟩ := y
      cases h1
      exact hs i x2 T _ ((e1.trans e2).trans (Ex.new nT)) h2 upd_same)
    fun p H2 ys np e2 hp => q p H2 ys (fresh_back e1 np) (e1.trans e2) hp⟩
theorem u_lcR {lo hi : Int} (ha : EvA ta σ H [.int lo, .int hi]) (hb : -(2 ^ 62) ≤ lo ∧ lo < 2 ^ 62 ∧ -(2 ^ 62) ≤ hi ∧ hi < 2 ^ 62) (f : Nat → Bool) (hz : (hi - lo).toNat ≤ 40000)
    (hs : ∀ (i : Nat) H2, Ex H H2 → i < (hi - lo).toNat → ∃ σ2, (∀ k : L2.St → Hp → Prop, k σ2 H2 → g (.int (lo + i)) (wipe σ vs) H2 k) ∧ wipe σ2 vs = wipe σ vs ∧ EvT tt σ2 H2 (f i) ∧
      (f i = true → ∀ H3, Ex H2 H3 → ∀ Q3 : VK, (∀ c us H4, Ex H3 H4 → H4 c = some (.tup us) → R us → Q3 (.ref c) H4) → te σ2 H3 Q3))
    (q : ∀ p H2 ys, H p = none → Ex H H2 → H2 p = some (.lst ys) → ys.length = ((List.range (hi - lo).toNat).filter f).length → (∀ y ∈ ys, TupR R H2 y) → Q (.ref p) H2) : tLc (iRng2 ta) g tt te vs σ H Q :=
  ha H (Ex.refl H) _ fun H1 e1 => ⟨lo, hi, rfl, hb, lcU (walk_range (lo := lo) (n := (hi - lo).toNat)) f hz (fun _ _ => trivial) (fun i H1 x H2 y => by rw [y.1]; exact Ex.refl _)
    (fun i x H2 H3 hi e2 y => by
      obtain ⟨rfl, rfl⟩ := y
      exact hs i _ (e1.trans e2) hi)
    fun p H2 ys np e2 hp => q p H2 ys (fresh_back e1 np) (e1.trans e2) hp⟩
end
/-- over enumerate of a tuple made on the way -/
theorem el_lcEN {K : PySem.W.Frag} {σ : L2.St} {H : Hp} {te : TE} {g : TG} {tt : TT} {vs : List Nat} {xs : List V} {ta : TA} (hl : ∀ H1, Ex H H1 → ∀ Q : List V → Hp → Prop, (∀ a H2, Ex H1 H2 → H2 a = some (.tup xs) → Q [.ref a] H2) → ta σ H1 Q) (f : Nat → Bool) (v : Nat → V) (hz : xs.length ≤ 40000)
    (hs : ∀ (i : Nat) x T H2, Ex H H2 → xs[i]? = some x → H2 T = some (.tup [.int (i : Nat), x]) → ∃ σ2, (∀ k : L2.St → Hp → Prop, k σ2 H2 → g (.ref T) (wipe σ vs) H2 k) ∧ wipe σ2 vs = wipe σ vs ∧ EvT tt σ2 H2 (f i) ∧ (f i = true → Ev te σ2 H2 (v i))) :
    EvL (tLc (iEnumT K ta) g tt te vs) σ H (given xs.length f v) := fun H0 e Q q =>
  hl H0 e _ fun a H1 e1 ha => ⟨a, xs, rfl, SqT.of ha, lcW (walk_enumT (K := K) (a := a) (xs := xs)) f v hz (fun H2 e2 => SqT.of (e2 _ _ ha))
    (fun i H1 x H2 y => by
      obtain ⟨T, _, _, rfl, nT, rfl, _, _⟩ := y
      exact Ex.new nT)
    (fun i x H2 H3 hi e2 y => by
      obtain ⟨T, _, x2, rfl, nT, rfl, h1, h2⟩ := y
      cases h1
      exact hs i x2 T _ (((e.trans e1).trans e2).trans (Ex.new nT)) h2 upd_same)
    fun p H2 np e2 hp => q p H2 (fresh_back e1 np) (e1.trans e2) hp⟩
theorem q_bl {Q : VK} {H : Hp} {b c : Bool} (e : b = c) (h : Q (.bl c) H) : Q (.bl b) H := by
  rw [e]
  exact h
theorem q_int {Q : VK} {H : Hp} {b c : Int} (e : b = c) (h : Q (.int c) H) : Q (.int b) H := by
  rw [e]
  exact h
end Hr

/-! Tables of code objects beside a deck. -/
namespace Hr
open PySem PySem.Spec PyProof.Rows L2 Evl LamX
/-! ### a deck beside tables -/
/-- no table is told -/
def NT (G : Hp) : Prop := ∀ b o, G b = some o → ∀ ps, o ≠ .tbl ps
def nt (G : Hp) : Hp := fun b => match G b with
  | some (.tbl _) => none
  | o => o
theorem nt_NT (G : Hp) : NT (nt G) := fun b o h ps z => by
  subst z
  unfold nt at h
  split at h
  · cases h
  · rename_i k
    exact k ps h
theorem nt_ex (G : Hp) : Ex (nt G) G := fun b o h => by
  unfold nt at h
  split at h
  · cases h
  · exact h
theorem nt_at {G : Hp} {b : Addr} {o : HO} (h : G b = some o) (n : ∀ ps, o ≠ .tbl ps) : nt G b = some o := by
  unfold nt
  rw [h]
  cases o with
  | tbl ps => exact absurd rfl (n ps)
  | _ => rfl
theorem nt_none {G : Hp} {b : Addr} (h : G b = none) : nt G b = none := by
  unfold nt
  rw [h]
section
variable {G Gj H H' : Hp} {d : Addr} {T : List (Addr × Str)}
theorem Dk.moreN (k : Dk G d H) (n : NT G) (e : ExtN H H') : Dk G d H' := by
  obtain ⟨c, x, m, i, z⟩ := k
  exact ⟨c, x, m, i, fun b o h => e _ _ (z.ex _ _ h) (n b o h), z.gd, z.gc, e _ _ z.hd (fun _ y => by cases y), e _ _ z.hc (fun _ y => by cases y), z.len, z.m0, z.m1⟩
theorem Dk.nt (k : Dk G d H) : Dk (nt G) d H := by
  obtain ⟨c, x, m, i, z⟩ := k
  exact ⟨c, x, m, i, (nt_ex G).trans z.ex, nt_none z.gd, nt_none z.gc, z.hd, z.hc, z.len, z.m0, z.m1⟩
theorem Dk.full (k : Dk G d H) (hT : Tabs T H) : ∃ Gf, Ex G Gf ∧ Dk Gf d H ∧ Tabs T Gf := by
  obtain ⟨c, x, m, i, z⟩ := k
  have other : ∀ b o, H b = some o → o ≠ .dK (deckD c m i) → o ≠ .lst (x.map V.int) → (fun b => if b = d ∨ b = c then none else H b : Hp) b = some o := fun b o h n1 n2 => by
    refine (if_neg ?_).trans h
    rintro (rfl | rfl)
    · rw [z.hd] at h
      exact n1 (Option.some.inj h).symm
    · rw [z.hc] at h
      exact n2 (Option.some.inj h).symm
  refine ⟨fun b => if b = d ∨ b = c then none else H b, fun b o h => ?_, ⟨c, x, m, i, fun b o h => ?_, if_pos (.inl rfl), if_pos (.inr rfl), z.hd, z.hc, z.len, z.m0, z.m1⟩, fun p hp => ?_⟩
  · refine (if_neg ?_).trans (z.ex _ _ h)
    rintro (rfl | rfl)
    · rw [z.gd] at h
      cases h
    · rw [z.gc] at h
      cases h
  · by_cases hb : b = d ∨ b = c
    · exact absurd ((if_pos hb).symm.trans h) (by simp)
    · exact (if_neg hb).symm.trans h
  · obtain ⟨ps, h1, h2, h3⟩ := hT p hp
    refine ⟨ps, other _ _ h1 (fun y => by cases y) (fun y => by cases y), h2, fun pos cv hc => ?_⟩
    obtain ⟨c', e1, e2⟩ := h3 pos cv hc
    exact ⟨c', e1, other _ _ e2 (fun y => by unfold CodeO at y; cases y) (fun y => by unfold CodeO at y; cases y)⟩
theorem Tabs.nil (h : ∀ p ∈ T, H p.1 = some (.tbl #[])) : Tabs T H := fun p hp => TabS.nil (h p hp)
end
end Hr

/-! A lambda of one parameter, handed to a def as its third argument and called there by that name. -/
namespace Hr
open PySem PySem.Spec PyProof.Rows L2 LamX
section
variable {P : Program} {w : World} {K : PySem.W.Frag} {mg : Str → Option Value} {base : Heap} {k : Nat} {f : Addr} {fd : FuncData} {ps : List Str} {sp : Sp}
/-- a def by its body, its code object told -/
theorem okC {x qual : Str} {st : Stmt} {N : List Str} (F : Fun K x qual st f fd) (S : FnScope N ps (defScope st)) (len : ∀ vs H Q E, sp vs H Q E → vs.length = ps.length)
    (hb : ∀ (cdv : Value) (A : Around) (outer : List Env) (s : Shared) (H : Hp) (vs : List V) (Q : VK) (E : XK), fd.code = cdv → Room k (A.deeper (envOfC qual (defScope st) s.heap.objs.size f cdv)) → sp vs H Q E →
      ∃ t, PSs (cxOf CX0 P w K mg base N qual (defScope st) f cdv A outer s H E).nox (defBody st) t ∧ t { nx := fun _ H' => Q .non H', rt := Q } (start N vs) H) :
    FnOk P w K mg base CX0 (k + 1) f fd ps sp := by
  obtain ⟨oc, od, kV, doc, pm, an, cdv, ct, osl, rfl, lk, hcd⟩ := F.ex
  refine fn_of lk hcd S len fun A outer s H vs Q E hr hsp => ?_
  obtain ⟨t, h, q⟩ := hb cdv A outer s H vs Q E rfl hr hsp
  exact ⟨t, h.nox, q⟩
end
/-- the names of a lambda with the parameter b -/
structure LamS1 (sc scope : Scope) (b : Str) : Prop where
  kind : scope.kind = .function
  co : scope.isCoroutine = false
  gen : scope.isGenerator = false
  nocell : ∀ y ∈ scope.names, y.2 ≠ .cell
  own : ∀ y ∈ scope.names, y.2 = .local → y.1 = b
  par : scope.names.lookup b = some .local
  free : ∀ y ∈ scope.names, y.2 = .free → sc.names.lookup y.1 = some .cell ∨ sc.names.lookup y.1 = some .free
def lam1B (sc scope : Scope) (b : Str) : Bool :=
  decide (scope.kind = .function) && (!scope.isCoroutine && (!scope.isGenerator && (decide (scope.names.lookup b = some .local) &&
    scope.names.all fun y => !decide (y.2 = .cell) && ((!decide (y.2 = .local) || decide (y.1 = b)) && (!decide (y.2 = .free) || (decide (sc.names.lookup y.1 = some .cell) || decide (sc.names.lookup y.1 = some .free)))))))
theorem lam1_by {sc scope : Scope} {b : Str} (h : lam1B sc scope b = true) : LamS1 sc scope b := by
  unfold lam1B at h
  simp only [Bool.and_eq_true, Bool.or_eq_true, Bool.not_eq_true', decide_eq_true_eq, decide_eq_false_iff_not, List.all_eq_true] at h
  obtain ⟨h1, h2, h3, h4, h5⟩ := h
  refine ⟨h1, h2, h3, fun y hy => (h5 y hy).1, fun y hy e => ?_, h4, fun y hy e => ?_⟩
  · rcases (h5 y hy).2.1 with z | z
    · exact absurd e z
    · exact z
  · rcases (h5 y hy).2.2 with z | z | z
    · exact absurd e z
    · exact .inl z
    · exact .inr z
theorem LamS1.has {X : Cx} {scope : Scope} {b : Str} (L : LamS1 X.env.scope scope b) (ok : X.Ok) : ∀ y ∈ scope.names, y.2 = .free → ∃ c, X.env.cells.lookup y.1 = some c :=
  fun y hy e => (L.free y hy e).elim (fun k => ok.has _ (.inl k)) fun k => ok.has _ (.inr k)
/-- where its body runs: the parameter ahead of the maker's names -/
def lamCx1 (X : Cx) (A : Around) (outer : List Env) (s : Shared) (H : Hp) (E : XK) (scope : Scope) (f c' : Addr) (b : Str) : Cx := { lamCx X A outer s H E scope f c' with N := b :: X.N }
section
variable {X : Cx} {pins : List (Addr × Obj)} {σ : L2.St} {H HZ : Hp} {s s1 : Shared}
theorem lam1_start {A : Around} {outer : List Env} {E : XK} {scope : Scope} {f c' : Addr} {h₁ : Heap} {tk : Nat} {b : Str} {v : V} {u : Value} (I : Inv X pins σ H s) (L : LamS1 X.env.scope scope b) (hb : b ∉ X.N) (e0 : Env0 X.prog X.w X.K X.mg X.base A outer s1 HZ) (hd : A.handled = none)
    (un : Un (frs X.stack) [] H HZ s.heap s1.heap) (rv : L2.RelV v u) (hns : h₁.Ns s1.heap.objs.size fun y => ([(b, u)] : List (Str × Value)).reverse.lookup y) (kp : ∀ b o, s1.heap.get? b = some o → h₁.get? b = some o) :
    Inv (lamCx1 X A outer s1 HZ E scope f c' b) [] (some v :: σ) HZ { s1 with heap := h₁, toks := tk } := by
  have hfree := L.has I.ok
  have hcl : ∀ {y c}, (cloFrom X.env.cells scope.names []).lookup y = some c → X.env.cells.lookup y = some c := fun {y c} e => by
    rcases cloFrom_mem (PySem.mem_of_lookup e) with z | ⟨z1, z2⟩
    · cases z
    · obtain ⟨c1, hc1⟩ := hfree _ z1 rfl
      have hc2 : X.env.cells.lookup y = some c1 := hc1
      have hc3 : c = c1 := by
        rw [z2, hc2] <;> rfl
      rw [hc3]
      exact hc2
  have hlk : ∀ {y}, scope.names.lookup y = some .free → ∃ c, (cloFrom X.env.cells scope.names []).lookup y = some c := fun {y} hl =>
    mem_lookup (cloFrom_has (cells := X.env.cells) (acc := []) (PySem.mem_of_lookup hl))
  have hcell : ∀ {c : Addr} {z : Option Value}, H c = none → s.heap.IsCell c z → h₁.IsCell c z := fun {c z} n ⟨o, ho, hz⟩ => by
    obtain ⟨sl, q⟩ := un.any ho n (by simp)
    exact ⟨_, kp _ _ q, hz⟩
  have hno : ∀ d : Addr, d ∉ (lamCx1 X A outer s1 HZ E scope f c' b).ex := fun d z => absurd (show d ∈ ([] : List Addr) from z) (by simp)
  refine ⟨⟨e0.mod, L.kind, rfl, rfl, Nat.le_refl _, fun y z c e1 e2 => I.ok.inj y z c (hcl e1) (hcl e2), fun y hy => ?_, fun y c z _ => ?_, fun _ => hd, Around.frames_deeper e0.frames, .inr ⟨rfl, rfl⟩, fun d z => absurd z (hno d), e0.bs, e0.bsz, fun d _ _ => hno d,
      fun d z => absurd z (hno d), e0.funs, e0.frf⟩,
    rfl, e0.bare, Un.kept kp, ⟨_, hns, fun i y z e1 e2 e3 => ?_⟩, fun y c e => ?_, e0.hok.fresh (Nat.le_refl _), fun y c e => ?_, fun q hq => absurd (show q ∈ ([] : List (Addr × Obj)) ++ [] from hq) (by simp), e0.hok.kept kp, congrArg (· + 1) I.len⟩
  · have hy : scope.names.lookup y = some .cell ∨ scope.names.lookup y = some .free := hy
    rcases hy with hy | hy
    · exact absurd rfl (L.nocell _ (PySem.mem_of_lookup hy))
    · exact hlk hy
  · have z : false = true := z
    cases z
  · have e1 : (b :: X.N)[i]? = some y := e1
    have e2 : (some v :: σ)[i]? = some (some z) := e2
    have e3 : Vis scope y := e3
    cases i with
    | zero =>
      have hy : b = y := Option.some.inj e1
      have hz : v = z := Option.some.inj (Option.some.inj e2)
      subst hy
      subst hz
      refine ⟨u, rv, .inl ⟨L.par, ?_⟩⟩
      show (List.lookup b [(b, u)]) = some u
      simp [List.lookup]
    | succ i =>
      have e1 : X.N[i]? = some y := by simpa using e1
      have e2 : σ[i]? = some (some z) := by simpa using e2
      have hne : y ≠ b := fun q => hb (by rw [← q]; exact List.mem_of_getElem? e1)
      rcases e3 with k | k | k
      · exact absurd (L.own _ (PySem.mem_of_lookup k) rfl) hne
      · exact absurd rfl (L.nocell _ (PySem.mem_of_lookup k))
      · obtain ⟨m, hn, hl⟩ := I.loc
        obtain ⟨w', r, q⟩ := hl i y z e1 e2 ((L.free _ (PySem.mem_of_lookup k) rfl).elim (fun k => .inr (.inl k)) fun k => .inr (.inr k))
        obtain ⟨c2, h2⟩ := hlk k
        refine ⟨w', r, .inr ⟨.inr k, c2, h2, ?_⟩⟩
        have c1 := hcl h2
        rcases q with ⟨k', _⟩ | ⟨_, c3, e', hz⟩
        · have k' : X.env.scope.names.lookup y = some .local := k'
          rcases L.free _ (PySem.mem_of_lookup k) rfl with k2 | k2 <;> rw [show X.env.scope.names.lookup y = _ from k2] at k' <;> cases k'
        · rw [c1] at e'
          cases e'
          exact hcell (I.freeC y _ c1) hz
  · obtain ⟨w', z⟩ := I.cell y c (hcl e)
    exact ⟨w', hcell (I.freeC y c (hcl e)) z⟩
  · obtain ⟨z, o, ho, _⟩ := I.cell y c (hcl e)
    exact un.free c o ho (I.freeC y c (hcl e)) (by simp)
/-- count(e), in the def that got the lambda -/
theorem pe_act1 {CXg : CXT} {Eg : XK} {Ng : List Str} {qg : Str} {sg : Scope} {g f c' : Addr} {cdg pm ctv : Value} {params : Arguments} {body : Expr} {scope : Scope} {k i : Nat} {a b : Str} {ta : TA} {tb : TE} {p1 p2 : Pos} {e : Expr}
    (I : Inv X pins σ H s) (L : LamS1 X.env.scope scope b) (hb : b ∉ X.N) (hf : s.heap.get? f = some (PySem.W.kla_obj "<lambda>" (X.env.qual ++ "<lambda>") params body scope (cloFrom X.env.cells scope.names []) pm c' ctv)) (hfn : H f = none) (hfr : f ∉ frs X.stack)
    (hbind : ∀ u : Value, bindArgs (PySem.W.kla_fn "<lambda>" (X.env.qual ++ "<lambda>") params body scope (cloFrom X.env.cells scope.names []) pm (.ref c') ctv) ⟨[u], []⟩ = pure [(b, u)])
    (hr : Room (k + 1) (X.A.deeper (envOfC qg sg s.heap.objs.size g cdg)))
    (hbody : ∀ (A : Around) (outer : List Env) (s : Shared) (H : Hp) (E : XK), Room k (A.deeper (lamEnv X scope s.heap.objs.size f c')) → PE (lamCx1 X A outer s H E scope f c' b) body tb)
    (hN : Ng[i]? = some a) (hv : Vis sg a) (ha : PA (cxOf CXg X.prog X.w X.K X.mg X.base Ng qg sg g cdg X.A X.stack s H Eg).nox [e] ta) (hd : (a == ("__debug__" : Str)) = false := by decide) (hcd : (a == ("__classdict__" : Str)) = false := by decide)
    (he : ∀ env, starEach [e] env = (false, eval e env) :: starEach [] env := by intro _; rfl) :
    PE (cxOf CXg X.prog X.w X.K X.mg X.base Ng qg sg g cdg X.A X.stack s H Eg).nox (.Call (.Name a p1) [e] [] p2)
      (fun σZ HZ Q => σZ[i]? = some (some (.ref f)) ∧ ta σZ HZ fun vs H1 => ∃ v, vs = [v] ∧ H1 c' = some (CodeO c' (X.env.qual ++ "<lambda>")) ∧ tb (some v :: σ) H1 Q) := by
  refine ⟨fun pinsZ sZ σZ HZ Q IZ h => ?_⟩
  obtain ⟨hs, ht⟩ := h
  refine wpAny_Call_Name_kw (thn ((pe_var (pos := p1) (i := i) hN hv hd hcd).run pinsZ sZ σZ HZ (fun v H1 => v = .ref f ∧ H1 = HZ) IZ ⟨.ref f, hs, rfl, rfl⟩) fun u s1 ⟨v, H1, I1, r1, q1⟩ => ?_)
  obtain ⟨ev, eH⟩ := q1
  subst ev
  rw [eH] at I1
  obtain rfl : u = Value.ref f := r1
  have at_ : ∀ {sY : Shared} {σY : L2.St} {HY : Hp}, Inv (cxOf CXg X.prog X.w X.K X.mg X.base Ng qg sg g cdg X.A X.stack s H Eg).nox pinsZ σY HY sY → sY.heap.get? f = some (PySem.W.kla_obj "<lambda>" (X.env.qual ++ "<lambda>") params body scope (cloFrom X.env.cells scope.names []) pm c' ctv) :=
    fun J => J.base.keep f _ hf hfn hfr (fun z => nomatch (show f ∈ ([] : List Addr) from z))
  refine PySem.W.callWith_F (first := []) ⟨_, _, _, _, at_ I1⟩ (thn (ha.run p2 pinsZ s1 σZ HZ _ I1 ht) fun us s2 ⟨vs, H2, I2, r, v, hvs, hc, q⟩ => ⟨⟨_, _, _, _, at_ I2⟩, ?_⟩) (he _) rfl
  subst hvs
  obtain ⟨u, rfl, rv⟩ := vals1 r
  have un : Un (frs X.stack) [] H H2 s.heap s2.heap := I2.base
  obtain ⟨⟨oc, ws, t, hoc, hdc, hvc⟩, _, _⟩ := I2.hok c' _ hc
  have rc : codeAny (model X.prog X.w) (X.A.deeper (envOfC qg sg s.heap.objs.size g cdg)) (.call (.ref f) ⟨[u], []⟩) (CR (L2.CX X.prog X.w) (envOfC qg sg s.heap.objs.size g cdg :: X.stack) X.prog X.w H2 s2 Q (fun _ _ _ => False)) s2 := by
    refine PySem.W.kla_callFunE hr.depth (at_ I2) rfl L.co L.gen rfl ⟨c', oc, ws, t, rfl, hoc, hdc, hvc⟩ ?_
    rw [hbind u]
    refine wpAny_pure (wpAny_newFunctionEnv L.nocell (fun y hy => ?_) (fun h₁ hns hsb => ⟨I2.nolimit.fresh _ hsb, ?_⟩) L.kind)
    · rw [List.mem_singleton.mp hy]
      exact L.par
    show codeAny _ _ (.expr body (lamEnv X scope s2.heap.objs.size f c')) _ _
    have kp : ∀ b o, s2.heap.get? b = some o → h₁.get? b = some o := fun b o e => hsb.extBut b o (Nat.ne_of_lt (Heap.lt_size e)) (Heap.get?_push_of_some _ e)
    have J : Inv (lamCx1 X (X.A.deeper (envOfC qg sg s.heap.objs.size g cdg)) (envOfC qg sg s.heap.objs.size g cdg :: X.stack) s2 H2 (fun _ _ _ => False) scope f c' b) [] (some v :: σ) H2 { s2 with heap := h₁, toks := s2.toks + ([(b, u)] : List (Str × Value)).length } :=
      lam1_start I L hb I2.env0 hr.hd un rv hns kp
    refine PySem.W.kla_codeExpr (wpAny_mono ((hbody _ _ s2 H2 _ (hr.deeper _)).run [] _ _ H2 Q J q) (fun v s' hq => ?_) fun e s' hq => hq)
    obtain ⟨w', H', J', rv, q⟩ := hq
    exact ⟨w', H', J'.os, J'.bare, J'.base, J'.hok, rv, q⟩
  have hx : Passes (L2.CX X.prog X.w) (cxOf CXg X.prog X.w X.K X.mg X.base Ng qg sg g cdg X.A X.stack s H Eg).nox (fun _ _ _ => False) := passes_call takes0 (fun _ _ _ _ z => z)
  show wpAny _ _ (call (.ref f) [u]) _ _ _
  refine wpAny_call (codeAny_mono rc fun r s' hq => ?_)
  cases r with
  | error e => exact hx pinsZ σZ H2 s2 e s' I2 hq
  | ok fl =>
    cases fl with
    | ret u => exact I2.after hq
    | next => exact False.elim hq
    | brk => exact False.elim hq
    | cont => exact False.elim hq
end
/-- the def that calls what it got third: a calls it; TT: what it makes of the lambda's reading -/
def Gives1 (X : Cx) (Ng : List Str) (x : Str) (sg : Scope) (g : Addr) (cdg : Value) (bg : List Stmt) (a : Str) (q : Str) (TT : V → V → (V → Hp → VK → Prop) → Hp → VK → Prop) : Prop :=
  ∀ (f c' : Addr) (s : Shared) (H : Hp) (Q : VK) (v1 v2 : V) (tl : V → Hp → VK → Prop),
    (∀ (e : Expr) (ta : TA) (p1 p2 : Pos), PA (cxOf C8.CX0 X.prog X.w X.K X.mg X.base Ng x sg g cdg X.A X.stack s H C8.E0).nox [e] ta → (∀ env, starEach [e] env = (false, eval e env) :: starEach [] env) →
      PE (cxOf C8.CX0 X.prog X.w X.K X.mg X.base Ng x sg g cdg X.A X.stack s H C8.E0).nox (.Call (.Name a p1) [e] [] p2) (fun σZ HZ Q => σZ[2]? = some (some (.ref f)) ∧ ta σZ HZ fun vs H1 => ∃ v, vs = [v] ∧ H1 c' = some (CodeO c' q) ∧ tl v H1 Q)) →
    Room 1 (X.A.deeper (envOfC x sg s.heap.objs.size g cdg)) → H c' = some (CodeO c' q) → TT v1 v2 tl H Q →
    ∃ t, PSs (cxOf C8.CX0 X.prog X.w X.K X.mg X.base Ng x sg g cdg X.A X.stack s H C8.E0).nox bg t ∧ t { nx := fun _ H' => Q .non H', rt := Q } (L2.start Ng [v1, v2, .ref f]) H
def tLam1 (T : List (Addr × Str)) (TT : V → V → (V → Hp → VK → Prop) → Hp → VK → Prop) (t1 t2 tb : TE) : TE := fun σ H Q => t1 σ H fun v1 H1 => t2 σ H1 fun v2 H2 => Tabs T H2 ∧ ∀ H3, ExtN H2 H3 → Tabs T H3 → TT v1 v2 (fun v H' Q' => tb (some v :: σ) H' Q') H3 Q
section
variable {X : Cx}
/-- x(e1, e2, lambda b: body) -/
theorem pe_lamcall1 {T : List (Addr × Str)} {TT : V → V → (V → Hp → VK → Prop) → Hp → VK → Prop} {x a b n1 n2 : Str} {g c P : Addr} {k : Nat} {pg : Arguments} {bg : List Stmt} {sg : Scope} {dV kV doc pm cdv ct oc : Value} {an od : Option Addr} {osl : Array (Option Value)} {Ng : List Str}
    {params : Arguments} {body e1 e2 : Expr} {scope : Scope} {t1 t2 tb : TE} {p lpos pos : Pos} (hg : Gl X x) (hm : X.mg x = some (.ref g)) (hk : PySem.W.keepIn X.K (.ref g) = true)
    (lk : X.K.lookup g = some ⟨oc, od, .func (PySem.W.fnOf x x pg bg sg dV kV doc pm an cdv ct), osl⟩) (hcg : PySem.W.codeIn X.K cdv x = true) (hbg : L2.Binds X.K (PySem.W.fnOf x x pg bg sg dV kV doc pm an cdv ct) [n1, n2, a] []) (Sg : FnScope Ng [n1, n2, a] sg) (hNg : Ng[2]? = some a) (hva : Vis sg a)
    (hG : Gives1 X Ng x sg g cdv bg a (X.env.qual ++ "<lambda>") TT) (h1 : PE X e1 t1) (h2 : PE X e2 t2) (TB : TabB X.base X.mg c P) (hcode : X.env.code = .ref c) (hmT : (P, X.env.qual ++ "<lambda>") ∈ T) (hu : ∀ p ∈ T, p.1 = P → p.2 = X.env.qual ++ "<lambda>") (hr : Room (k + 2) X.A)
    (L : LamS1 X.env.scope scope b) (hb : b ∉ X.N) (hdef : defaultsOf params X.env = ([], []))
    (hbind : ∀ (q : Str) (cl : List (Str × Addr)) (pm cv ctv u : Value), bindArgs (PySem.W.kla_fn "<lambda>" q params body scope cl pm cv ctv) ⟨[u], []⟩ = pure [(b, u)])
    (hbody : ∀ (A : Around) (outer : List Env) (s : Shared) (H : Hp) (E : XK) (f c' : Addr), Room k (A.deeper (lamEnv X scope s.heap.objs.size f c')) → PE (lamCx1 X A outer s H E scope f c' b) body tb)
    (he : starEach [e1, e2, .Lambda params body scope lpos] X.env = (false, eval e1 X.env) :: starEach [e2, .Lambda params body scope lpos] X.env := by rfl)
    (he2 : starEach [e2, .Lambda params body scope lpos] X.env = (false, eval e2 X.env) :: starEach [.Lambda params body scope lpos] X.env := by rfl)
    (hpl : (backTo pos (starEach [e2, .Lambda params body scope lpos] X.env)).any (·.1) = false := by rfl)
    (hdb : (x == ("__debug__" : Str)) = false := by decide) (hd : (a == ("__debug__" : Str)) = false := by decide) (hcd : (a == ("__classdict__" : Str)) = false := by decide) :
    PE X (.Call (.Name x p) [e1, e2, .Lambda params body scope lpos] [] pos) (tLam1 T TT t1 t2 tb) := by
  refine ⟨fun pins s σ H Q I h => ?_⟩
  refine wpAny_Call_Name_kw (ld_glob I hg hm ?_ hdb)
  refine PySem.W.callWith_K (h₀ := X.base) I.ok.mod.kin hk ?_ he hpl
  rw [he]
  show wpAny _ _ (spliced ((false, eval e1 X.env) :: backTo pos (starEach [e2, .Lambda params body scope lpos] X.env))) _ _ s
  refine Calls.spliced_cons (thn (h1.run pins s σ H _ I h) fun u1 s1 ⟨v1, H1, I1, r1, q1⟩ => ?_)
  rw [he2]
  show wpAny _ _ (spliced ((false, eval e2 X.env) :: backTo pos (starEach [.Lambda params body scope lpos] X.env))) _ _ s1
  refine Calls.spliced_cons (thn (h2.run pins s1 σ H1 _ I1 q1) fun u2 s2 ⟨v2, H2, I2, r2, q2⟩ => ?_)
  obtain ⟨hT, q2⟩ := q2
  show wpAny _ _ (spliced ((false, eval (.Lambda params body scope lpos) X.env) :: backTo pos (starEach [] X.env))) _ _ s2
  refine Calls.spliced_cons (lam_make2 I2 TB hcode hmT hu hT hdef (L.has I2.ok) fun f c' pm' ctv H3 s' I3 eN T3 hf hfn hfr hco => ?_)
  refine Calls.spliced_nil ⟨I3.kIn, ?_⟩
  have rc : codeAny (model X.prog X.w) X.A (.call (.ref g) ⟨[u1, u2, .ref f], []⟩) (CR C8.CX0 X.stack X.prog X.w H3 s' Q C8.E0) s' := by
    refine run_ofS (N := Ng) (ps := [n1, n2, a]) (us := [u1, u2, .ref f]) (vs := [v1, v2, .ref f]) lk hcg Sg hr I3.env0 (hbg s' [u1, u2, .ref f] I3.kIn rfl) (.cons r1 (.cons r2 (.cons rfl .nil))) rfl fun hr' => ?_
    obtain ⟨t', ht', hq'⟩ := hG f c' s' H3 Q v1 v2 (fun v H' Q' => tb (some v :: σ) H' Q') (fun e ta p1 p2 ha hes => pe_act1 (i := 2) I3 L hb hf hfn hfr (hbind _ _ _ _ _) hr' (fun A outer s H E hr2 => hbody A outer s H E f c' hr2) hNg hva ha hd hcd hes) (hr'.mono (by omega)) hco (q2 H3 eN T3)
    exact ⟨t', ht'.nox, hq'⟩
  refine wpAny_call (codeAny_mono rc fun r s2 hq => ?_)
  cases r with
  | error e => exact (show False from hq).elim
  | ok fl =>
    cases fl with
    | ret u => exact I3.after hq
    | next => exact False.elim hq
    | brk => exact False.elim hq
    | cont => exact False.elim hq
end
end Hr

/-! What calls keep that may add to tables of code objects; decks beside such tables. -/
namespace Hr
open PySem PySem.Spec PyProof.Rows L2 Evl LamX
/-- all but the tables stays, and what is told of the tables T -/
structure Ek (T : List (Addr × Str)) (H H' : Hp) : Prop where
  x : ExtN H H'
  t : Tabs T H → Tabs T H'
section
variable {T : List (Addr × Str)} {G G' H H' H1 H2 : Hp} {d p o : Addr} {u : HO}
theorem Ek.get (e : Ek T H H') {b : Addr} {o : HO} (h : H b = some o) (n : ∀ ps, o ≠ .tbl ps := by intro _ z; cases z) : H' b = some o := e.x b o h n
theorem Ek.of (e : Ex H H') : Ek T H H' := ⟨ExtN.of e, fun t => t.ext e⟩
instance : Coe (Ex H H') (Ek T H H') := ⟨Ek.of⟩
theorem Ek.refl (H : Hp) : Ek T H H := .of (Ex.refl H)
theorem Ek.trans (a : Ek T H H1) (b : Ek T H1 H2) : Ek T H H2 := ⟨a.x.trans b.x, fun t => b.t (a.t t)⟩
theorem Ek.ex (a : Ek T H H1) (b : Ex H1 H2) : Ek T H H2 := a.trans (.of b)
theorem Ek.new {o : HO} (h : H p = none) : Ek T H (upd H p o) := .of (Ex.new h)
/-- a thing of ours is written -/
theorem Ek.mut (e : Ek T H H') (no : H o = none) (ho : H' o = some v) (nt : ∀ ps, v ≠ .tbl ps) (nc : ∀ q, v ≠ CodeO o q) : Ek T H (upd H' o u) := by
  refine ⟨fun b w h n => ?_, fun t => ?_⟩
  · rw [upd_ne (ne_of_none h no)]
    exact e.x b w h n
  · intro q hq
    obtain ⟨ps, h1, h2, h3⟩ := e.t t q hq
    refine ⟨ps, ?_, h2, fun pos cv hc => ?_⟩
    · rw [upd_ne (fun z => nt ps (Option.some.inj (ho.symm.trans (by rw [← z]; exact h1))))]
      exact h1
    · obtain ⟨c, e1, e2⟩ := h3 pos cv hc
      refine ⟨c, e1, ?_⟩
      by_cases z : c = o
      · rw [z] at e2
        exact absurd (Option.some.inj (ho.symm.trans e2)) (nc _)
      · rw [upd_ne z]
        exact e2
theorem Ek.mutL {xs : List V} (e : Ek T H H') (no : H o = none) (ho : H' o = some (.lst xs)) : Ek T H (upd H' o u) := e.mut no ho (fun _ z => by cases z) (fun _ z => by unfold CodeO at z; cases z)
/-- a def that hands back v -/
def RetVk (T : List (Addr × Str)) (v : V) (H : Hp) (Q : VK) : Prop := ∀ H2, Ek T H H2 → Q v H2
/-- .. a tuple -/
def RetTk (T : List (Addr × Str)) (xs : List V) (H : Hp) (Q : VK) : Prop := ∀ p H2, Ek T H H2 → H2 p = some (.tup xs) → Q (.ref p) H2
/-- a deck, what is known beside it, the tables -/
structure DkT (T : List (Addr × Str)) (G : Hp) (d : Addr) (H : Hp) : Prop where
  k : Dk G d H
  n : NT G
  t : Tabs T H
theorem DkT.moreK (k : DkT T G d H) (e : Ek T H H') : DkT T G d H' := ⟨k.k.moreN k.n e.x, k.n, e.t k.t⟩
theorem DkT.more (k : DkT T G d H) (e : Ex H H') : DkT T G d H' := k.moreK (.of e)
theorem DkT.new {o : HO} (k : DkT T G d H) (h : H p = none) : DkT T G d (upd H p o) := k.moreK (.new h)
theorem DkT.get (k : DkT T G d H) {b : Addr} {u : HO} (h : G b = some u) : H b = some u := k.k.get h
theorem DkT.free (k : DkT T G d H) (h : H p = none) : G p = none := k.k.free h
theorem DkT.gex {o : HO} (k : DkT T G d H) (h : H p = none) : Ex G (upd G p o) := k.k.gex h
theorem NT.upd (n : NT G) (nt : ∀ ps, u ≠ .tbl ps) : NT (upd G p u) := fun b o h => by
  by_cases z : b = p
  · rw [z, upd_same] at h
    cases h
    exact nt
  · rw [upd_ne z] at h
    exact n b o h
theorem DkT.made {o : HO} (k : DkT T G d H) (h : H p = none) (nt : ∀ ps, o ≠ .tbl ps := by intro _ z; cases z) : DkT T (upd G p o) d (upd H p o) := ⟨k.k.made h, k.n.upd nt, k.t.ext (Ex.new h)⟩
theorem DkT.growK (k : DkT T G d H) (h : H p = none) (e : Ek T H H') (hp : H' p = some u) (nt : ∀ ps, u ≠ .tbl ps := by intro _ z; cases z) : DkT T (upd G p u) d H' := by
  obtain ⟨c, x, m, i, z⟩ := (k.k.moreN k.n e.x)
  obtain ⟨c0, x0, m0, i0, z0⟩ := k.k
  have hd0 : H d ≠ none := fun y => by rw [z0.hd] at y; cases y
  have hpd : p ≠ d := fun y => hd0 (by rw [← y]; exact h)
  refine ⟨⟨c0, x0, m0, i0, fun b o hb => ?_, ?_, ?_, e.x _ _ z0.hd (fun _ y => by cases y), e.x _ _ z0.hc (fun _ y => by cases y), z0.len, z0.m0, z0.m1⟩, k.n.upd nt, e.t k.t⟩
  · by_cases y : b = p
    · rw [y, upd_same] at hb
      cases hb
      rw [y]
      exact hp
    · rw [upd_ne y] at hb
      exact e.x _ _ (z0.ex _ _ hb) (k.n b o hb)
  · rw [upd_ne (Ne.symm hpd)]
    exact z0.gd
  · have hpc : p ≠ c0 := fun y => by
      have := z0.hc
      rw [← y, h] at this
      cases this
    rw [upd_ne (Ne.symm hpc)]
    exact z0.gc
theorem DkT.grow (k : DkT T G d H) (h : H p = none) (e : Ex H H') (hp : H' p = some u) (nt : ∀ ps, u ≠ .tbl ps := by intro _ z; cases z) : DkT T (upd G p u) d H' := k.growK h (.of e) hp nt
/-- what a promise about decks needs, and what it gives back -/
theorem DkT.full (k : DkT T G d H) : ∃ Gf, Dk Gf d H ∧ (∀ {G' H'}, Ex Gf G' → Dk G' d H' → DkT T (nt G') d H' ∧ Ex G (nt G')) ∧ (∀ {H'}, Dk Gf d H' → DkT T G d H') ∧ ∀ b o, G b = some o → Gf b = some o := by
  obtain ⟨Gf, e, kf, tf⟩ := k.k.full k.t
  have tabs : ∀ {G' H'}, Ex Gf G' → Dk G' d H' → Tabs T H' := fun a b => (tf.ext a).ext b.ex
  refine ⟨Gf, kf, fun a b => ⟨⟨b.nt, nt_NT _, tabs a b⟩, fun x o h => nt_at (a _ _ (e _ _ h)) (k.n x o h)⟩, fun b => ⟨?_, k.n, tabs (Ex.refl _) b⟩, e⟩
  obtain ⟨c, x, m, i, z⟩ := b
  obtain ⟨c0, x0, m0, i0, z0⟩ := k.k
  refine ⟨c, x, m, i, e.trans z.ex, z0.gd, ?_, z.hd, z.hc, z.len, z.m0, z.m1⟩
  cases h : G c with
  | none => rfl
  | some o =>
    have := z.gc
    rw [e _ _ h] at this
    cases this
theorem DkT.start (k : Dk H d H1) (t : Tabs T H) : DkT T (nt H) d H1 := ⟨k.nt, nt_NT H, t.ext k.ex⟩
end
end Hr

/-! Comprehensions whose parts may add to tables of code objects. -/
namespace Hr
open PySem PySem.Spec PyProof.Rows L2 Evl LamX
section
variable {T : List (Addr × Str)} {σ : L2.St} {H : Hp} {g : TG} {tt : TT} {te : TE} {vs : List Nat}
theorem TupR.upK {R : List V → Prop} {H H' : Hp} {y : V} (e : Ek T H H') (h : TupR R H y) : TupR R H' y := by
  obtain ⟨c, us, rfl, hc, r⟩ := h
  exact ⟨c, us, rfl, e.get hc, r⟩
/-- what a condition, an item tells where tables may grow -/
def TtK (T : List (Addr × Str)) (tt : TT) (σ : L2.St) (H : Hp) (b : Bool) : Prop := ∀ Q : Bool → Hp → Prop, (∀ H2, Ek T H H2 → Tabs T H2 → Q b H2) → tt σ H Q
def TeK (T : List (Addr × Str)) (te : TE) (σ : L2.St) (H : Hp) (v : V) : Prop := ∀ H1, Ek T H H1 → Tabs T H1 → ∀ Q : VK, (∀ H2, Ek T H1 H2 → Tabs T H2 → Q v H2) → te σ H1 Q
theorem TtK.yes (t : Tabs T H) : TtK T tYes σ H true := fun Q q => r_yes (q H (Ek.refl H) t)
theorem TtK.of {b : Bool} (t : Tabs T H) (h : EvT tt σ H b) : TtK T tt σ H b := fun Q q => h H (Ex.refl H) Q fun H2 e => q H2 (.of e) (t.ext e)
theorem lcK {J : It} {n : Nat} {G : Hp → Prop} {Y : Nat → Hp → V → Hp → Prop} {Q : VK} (wk : Walk J n G Y) (f : Nat → Bool) (v : Nat → V) (hz : n ≤ 40000) (hT : Tabs T H)
    (hG : ∀ H1, Ek T H H1 → G H1) (hY : ∀ i H1 x H2, Y i H1 x H2 → Ex H1 H2)
    (hs : ∀ i x H1 H2, i < n → Ek T H H1 → Tabs T H2 → Y i H1 x H2 → ∃ σ2, (∀ k : L2.St → Hp → Prop, k σ2 H2 → g x (wipe σ vs) H2 k) ∧ wipe σ2 vs = wipe σ vs ∧ TtK T tt σ2 H2 (f i) ∧ (f i = true → TeK T te σ2 H2 (v i)))
    (q : ∀ p H2, H p = none → Ek T H H2 → Tabs T H2 → H2 p = some (.lst (given n f v)) → Q (.ref p) H2) : tLc (fun _ H' R => R J H') g tt te vs σ H Q := by
  intro D hD
  refine lc_it wk (fun i H2 => Ek T H H2 ∧ H2 D = some (.lst (given i f v))) ⟨.new hD, upd_same⟩ (fun i H2 _ p => hG H2 p.1) (fun i x H2 H3 hi p y => ?_) (fun H2 p => q D H2 hD p.1 (p.1.t hT) p.2)
  obtain ⟨p1, p2⟩ := p
  have e3 := hY i H2 x H3 y
  obtain ⟨σ2, hk, hw, ht, he⟩ := hs i x H2 H3 hi p1 ((p1.t hT).ext e3) y
  refine hk _ ⟨hw, ht _ fun H4 e4 t4 => ?_⟩
  cases hf : f i with
  | true =>
    show te σ2 H4 _
    refine he hf H4 e4 t4 _ fun H5 e5 t5 => ?_
    have h5 := e5.get (e4.get (e3 _ _ p2))
    refine ⟨given i f v, h5, sz_lt (by have := given_len i f v; omega), Ek.mutL (((p1.ex e3).trans e4).trans e5) hD h5, ?_⟩
    rw [given_yes hf]
    exact upd_same
  | false =>
    refine ⟨(p1.ex e3).trans e4, ?_⟩
    rw [given_no hf]
    exact e4.get (e3 _ _ p2)
theorem lcKU {J : It} {n : Nat} {G : Hp → Prop} {Y : Nat → Hp → V → Hp → Prop} {Q : VK} {R : List V → Prop} (wk : Walk J n G Y) (f : Nat → Bool) (hz : n ≤ 40000) (hT : Tabs T H)
    (hG : ∀ H1, Ek T H H1 → G H1) (hY : ∀ i H1 x H2, Y i H1 x H2 → Ex H1 H2)
    (hs : ∀ i x H1 H2, i < n → Ek T H H1 → Tabs T H2 → Y i H1 x H2 → ∃ σ2, (∀ k : L2.St → Hp → Prop, k σ2 H2 → g x (wipe σ vs) H2 k) ∧ wipe σ2 vs = wipe σ vs ∧ TtK T tt σ2 H2 (f i) ∧
      (f i = true → ∀ H3, Ek T H2 H3 → Tabs T H3 → ∀ Q3 : VK, (∀ c us H4, Ek T H3 H4 → Tabs T H4 → H4 c = some (.tup us) → R us → Q3 (.ref c) H4) → te σ2 H3 Q3))
    (q : ∀ p H2 ys, H p = none → Ek T H H2 → Tabs T H2 → H2 p = some (.lst ys) → ys.length = ((List.range n).filter f).length → (∀ y ∈ ys, TupR R H2 y) → Q (.ref p) H2) : tLc (fun _ H' R => R J H') g tt te vs σ H Q := by
  intro D hD
  refine lc_it wk (fun i H2 => Ek T H H2 ∧ ∃ ys, H2 D = some (.lst ys) ∧ ys.length = ((List.range i).filter f).length ∧ ys.length ≤ i ∧ ∀ y ∈ ys, TupR R H2 y)
    ⟨.new hD, [], upd_same, rfl, Nat.le_refl _, fun y hy => absurd hy (by simp)⟩ (fun i H2 _ p => hG H2 p.1) (fun i x H2 H3 hi p y => ?_) (fun H2 p => ?_)
  · have e3 := hY i H2 x H3 y
    obtain ⟨p1, ys, hy, hl, hl2, hr⟩ := p
    obtain ⟨σ2, hk, hw, ht, he⟩ := hs i x H2 H3 hi p1 ((p1.t hT).ext e3) y
    refine hk _ ⟨hw, ht _ fun H4 e4 t4 => ?_⟩
    rw [List.range_succ, List.filter_append, List.length_append]
    cases hf : f i with
    | true =>
      show te σ2 H4 _
      refine he hf H4 e4 t4 _ fun c us H5 e5 t5 hc hR => ?_
      have h5 := e5.get (e4.get (e3 _ _ hy))
      refine ⟨ys, h5, sz_lt (by omega), Ek.mutL (((p1.ex e3).trans e4).trans e5) hD h5, ys ++ [.ref c], upd_same, ?_, ?_, ?_⟩
      · rw [List.length_append, List.filter_cons, if_pos hf, hl]
        rfl
      · rw [List.length_append]
        show ys.length + 1 ≤ i + 1
        omega
      · intro y hy2
        refine TupR.upd h5 ?_
        rcases List.mem_append.mp hy2 with h | h
        · exact TupR.upK (((Ek.of e3).trans e4).trans e5) (hr y h)
        · cases List.mem_singleton.mp h
          exact ⟨c, us, rfl, hc, hR⟩
    | false =>
      refine ⟨(p1.ex e3).trans e4, ys, e4.get (e3 _ _ hy), ?_, by omega, fun y h => TupR.upK ((Ek.of e3).trans e4) (hr y h)⟩
      rw [List.filter_cons, if_neg (by rw [hf]; exact Bool.false_ne_true), hl]
      rfl
  · obtain ⟨p1, ys, hy, hl, _, hr⟩ := p
    exact q D H2 ys hD p1 (p1.t hT) hy hl hr
end
section
variable {T : List (Addr × Str)} {σ : L2.St} {H : Hp} {g : TG} {tt : TT} {te tl : TE} {vs : List Nat} {ta : TA} {Q : VK} {R : List V → Prop} {lo hi : Int}
theorem lcKR (ha : EvA ta σ H [.int lo, .int hi]) (hb : -(2 ^ 62) ≤ lo ∧ lo < 2 ^ 62 ∧ -(2 ^ 62) ≤ hi ∧ hi < 2 ^ 62) (f : Nat → Bool) (v : Nat → V) (hz : (hi - lo).toNat ≤ 40000) (hT : Tabs T H)
    (hs : ∀ (i : Nat) H2, Ek T H H2 → Tabs T H2 → i < (hi - lo).toNat → ∃ σ2, (∀ k : L2.St → Hp → Prop, k σ2 H2 → g (.int (lo + i)) (wipe σ vs) H2 k) ∧ wipe σ2 vs = wipe σ vs ∧ TtK T tt σ2 H2 (f i) ∧ (f i = true → TeK T te σ2 H2 (v i)))
    (q : ∀ p H2, Ek T H H2 → Tabs T H2 → H2 p = some (.lst (given (hi - lo).toNat f v)) → Q (.ref p) H2) : tLc (iRng2 ta) g tt te vs σ H Q :=
  ha H (Ex.refl H) _ fun H1 e1 => ⟨lo, hi, rfl, hb, lcK (walk_range (lo := lo) (n := (hi - lo).toNat)) f v hz (hT.ext e1) (fun _ _ => trivial) (fun i H1 x H2 y => by rw [y.1]; exact Ex.refl _)
    (fun i x H2 H3 hi e2 t3 y => by
      obtain ⟨rfl, rfl⟩ := y
      exact hs i _ ((Ek.of e1).trans e2) t3 hi)
    fun p H2 _ e2 t2 hp => q p H2 ((Ek.of e1).trans e2) t2 hp⟩
theorem lcKRU (ha : EvA ta σ H [.int lo, .int hi]) (hb : -(2 ^ 62) ≤ lo ∧ lo < 2 ^ 62 ∧ -(2 ^ 62) ≤ hi ∧ hi < 2 ^ 62) (f : Nat → Bool) (hz : (hi - lo).toNat ≤ 40000) (hT : Tabs T H)
    (hs : ∀ (i : Nat) H2, Ek T H H2 → Tabs T H2 → i < (hi - lo).toNat → ∃ σ2, (∀ k : L2.St → Hp → Prop, k σ2 H2 → g (.int (lo + i)) (wipe σ vs) H2 k) ∧ wipe σ2 vs = wipe σ vs ∧ TtK T tt σ2 H2 (f i) ∧
      (f i = true → ∀ H3, Ek T H2 H3 → Tabs T H3 → ∀ Q3 : VK, (∀ c us H4, Ek T H3 H4 → Tabs T H4 → H4 c = some (.tup us) → R us → Q3 (.ref c) H4) → te σ2 H3 Q3))
    (q : ∀ p H2 ys, Ek T H H2 → Tabs T H2 → H2 p = some (.lst ys) → ys.length = ((List.range (hi - lo).toNat).filter f).length → (∀ y ∈ ys, TupR R H2 y) → Q (.ref p) H2) : tLc (iRng2 ta) g tt te vs σ H Q :=
  ha H (Ex.refl H) _ fun H1 e1 => ⟨lo, hi, rfl, hb, lcKU (walk_range (lo := lo) (n := (hi - lo).toNat)) f hz (hT.ext e1) (fun _ _ => trivial) (fun i H1 x H2 y => by rw [y.1]; exact Ex.refl _)
    (fun i x H2 H3 hi e2 t3 y => by
      obtain ⟨rfl, rfl⟩ := y
      exact hs i _ ((Ek.of e1).trans e2) t3 hi)
    fun p H2 ys _ e2 t2 hp hl hr => q p H2 ys ((Ek.of e1).trans e2) t2 hp hl hr⟩
theorem lcKRV {r : Addr} (hr : H r = some (.rng lo hi)) (hl : Ev tl σ H (.ref r)) (hb : -(2 ^ 62) ≤ lo ∧ lo < 2 ^ 62 ∧ -(2 ^ 62) ≤ hi ∧ hi < 2 ^ 62) (f : Nat → Bool) (v : Nat → V) (hz : (hi - lo).toNat ≤ 40000) (hT : Tabs T H)
    (hs : ∀ (i : Nat) H2, Ek T H H2 → Tabs T H2 → i < (hi - lo).toNat → ∃ σ2, (∀ k : L2.St → Hp → Prop, k σ2 H2 → g (.int (lo + i)) (wipe σ vs) H2 k) ∧ wipe σ2 vs = wipe σ vs ∧ TtK T tt σ2 H2 (f i) ∧ (f i = true → TeK T te σ2 H2 (v i)))
    (q : ∀ p H2, Ek T H H2 → Tabs T H2 → H2 p = some (.lst (given (hi - lo).toNat f v)) → Q (.ref p) H2) : tLc (iRngV tl) g tt te vs σ H Q :=
  hl H (Ex.refl H) _ fun H1 e1 => ⟨r, lo, hi, rfl, e1 _ _ hr, hb, lcK (walk_range (lo := lo) (n := (hi - lo).toNat)) f v hz (hT.ext e1) (fun _ _ => trivial) (fun i H1 x H2 y => by rw [y.1]; exact Ex.refl _)
    (fun i x H2 H3 hi e2 t3 y => by
      obtain ⟨rfl, rfl⟩ := y
      exact hs i _ ((Ek.of e1).trans e2) t3 hi)
    fun p H2 _ e2 t2 hp => q p H2 ((Ek.of e1).trans e2) t2 hp⟩
end
end Hr

/-! Defs that make lambdas, where no repr is under way: their code object is told; the law's end with tables of code objects. -/
namespace Hr
open PySem PySem.Spec PyProof.Rows L2 LamX
section
variable {P : Program} {w : World} {K : PySem.W.Frag} {mg : Str → Option Value} {base : Heap} {CX : CXT} {k : Nat} {f : Addr} {fd : FuncData} {ps : List Str} {sp : Sp}
theorem bodyGc {x qual : Str} {st : Stmt} {N : List Str} (F : Fun K x qual st f fd) (S : FnScope N ps (defScope st)) (len : ∀ vs H Q E, sp vs H Q E → vs.length = ps.length)
    (hb : ∀ (cdv : Value) (A : Around) (around : List Env) (s : Shared) (H : Hp) (vs : List V) (Q : VK) (E : XK), fd.code = cdv → Room k (A.deeper (envOfC qual (defScope st) s.heap.objs.size f cdv)) → A.guards = some [] → sp vs H Q E →
      ∃ t, PSs (cxOf CX P w K mg base N qual (defScope st) f cdv A around s H E) (defBody st) t ∧ t { nx := fun _ H' => Q .non H', rt := Q } (start N vs) H) :
    FnG P w K mg base CX (k + 1) f fd ps sp := by
  obtain ⟨oc, od, kV, doc, pm, an, cdv, ct, osl, rfl, lk, hcd⟩ := F.ex
  refine ⟨len, ?_⟩
  intro A around s H as us vs Q E r g e0 bind rv hq
  have KX : K.In s.heap := e0.mod.kin.keeps fun b o e => (e0.bs b o e).1
  have kinds : ∀ y ∈ ps.zip us, (defScope st).names.lookup y.1 = some .local ∨ ((defScope st).names.lookup y.1 = some .cell ∧ ((cellsFrom (s.heap.objs.size + 1) (defScope st).names []).lookup y.1).isSome = true) := by
    rintro ⟨n, v⟩ hy
    rcases S.par n (List.of_mem_zip hy).1 with q | q
    · exact .inl q
    · exact .inr ⟨q, PySem.W.cellsFrom_some _ _ _ (.inl q)⟩
  refine codeAny_call_function r.depth (KX _ _ lk) rfl S.co S.gen rfl (PySem.W.codeRec_of KX hcd) (bind _ _ _ _ ?_)
  refine wpAny_newFunctionEnv_cells S.kind kinds ?_
  intro env he s1 x
  subst he
  refine ⟨Heap.NoLimit.keeps (e0.mod.nolimit.keeps fun b o e => (e0.bs b o e).1) x.toInCall.keep, codeAny_func ?_⟩
  obtain ⟨t, ht, hrun⟩ := hb cdv A around s H vs Q E rfl (r.deeper _) g hq
  have I := inv_start (CX := CX) (E := E) S r.hd e0 (len _ _ _ _ hq) rv x
  refine wpAny_mono (ht.run [] s1 (start N vs) H _ I hrun) ?_ (fun e s' hs => hs)
  intro fl s' hs
  cases fl with
  | ret u =>
    obtain ⟨v, σ', H', J, rv', q⟩ := hs
    exact ⟨v, H', J.os, J.bare, J.base, J.hok, rv', q⟩
  | next =>
    obtain ⟨σ', H', J, q⟩ := hs
    exact ⟨V.non, H', J.os, J.bare, J.base, J.hok, rfl, q⟩
  | brk => exact hs.elim fun _ ⟨_, _, q⟩ => q.elim
  | cont => exact hs.elim fun _ ⟨_, _, q⟩ => q.elim
theorem okGc {x qual : Str} {st : Stmt} {N : List Str} (F : Fun K x qual st f fd) (S : FnScope N ps (defScope st)) (len : ∀ vs H Q E, sp vs H Q E → vs.length = ps.length)
    (hb : ∀ (cdv : Value) (A : Around) (around : List Env) (s : Shared) (H : Hp) (vs : List V) (Q : VK) (E : XK), fd.code = cdv → Room k (A.deeper (envOfC qual (defScope st) s.heap.objs.size f cdv)) → A.guards = some [] → sp vs H Q E →
      ∃ t, PSs (cxOf CX0 P w K mg base N qual (defScope st) f cdv A around s H E).nox (defBody st) t ∧ t { nx := fun _ H' => Q .non H', rt := Q } (start N vs) H) :
    FnG P w K mg base CX0 (k + 1) f fd ps sp :=
  bodyGc F S len fun cdv A around s H vs Q E c r g h => by
    obtain ⟨t, ht, q⟩ := hb cdv A around s H vs Q E c r g h
    exact ⟨t, ht.nox, q⟩
end
/-- the heap at the start: the script, if it is no part of the text, and the empty tables -/
def OnlyT (cs : List (Addr × Addr)) (a : Addr) (K : PySem.W.Frag) (H : Hp) : Prop :=
  ∀ b, H b = none ∨ (b ∈ cs.map (·.2) ∧ H b = some (.tbl #[])) ∨ (b = a ∧ K.lookup a = none ∧ ∃ o xs, H b = some (.frz o (.lst xs)))
section
variable {P : Program} {w : World} {K : PySem.W.Frag} {mg mb : Str → Option Value} {k : Nat} {fa a : Addr} {fd : FuncData} {x : Str} {sp : Sp} {s₁ : Shared} {vs : List Value} {ns : List Int} {cs : List (Addr × Addr)}
theorem lawT0 {H : Hp} (KX : K.In s₁.heap) (hns : s₁.heap.Ns mainGlobals mg) (hb : s₁.heap.Ns builtinsNs mb) (hbb : ∀ x : Str, x ≠ "__name__" → mb x = bootBuiltins x) (hlim : s₁.heap.NoLimit) (hg : s₁.gens = #[])
    (hT : ∀ p ∈ cs, s₁.heap.get? p.2 = some { cls := .none, data := .fields #[] }) (nT : ∀ p ∈ cs, K.lookup p.2 = none) (C : ∀ p ∈ cs, PySem.W.CodeHd s₁.heap p.1 p.2)
    (hbm : ∃ (bm : Addr) (ob : Obj), mg "__builtins__" = some (.ref bm) ∧ bm ≠ builtinsNs ∧ s₁.heap.get? bm = some ob ∧ ob.cls = .type "module" ∧ ob.dict = some builtinsNs ∧ ob.data = .plain)
    (ha : s₁.heap.get? a = some { cls := .type "list", data := .seq vs.toArray }) (hr : Room k callerA)
    (F : ∀ base : Heap, K.In base → base.Ns mainGlobals mg → (∀ p ∈ cs, TabB base mg p.1 p.2) → FnG P w K mg base CX0 k fa fd [x] sp) (hbind : ∀ (s : Shared) (u : Value), BindsTo s fd ⟨[u], []⟩ [(x, u)])
    (hO : OnlyT cs a K H) (hP : ∀ p ∈ cs, H p.2 = some (.tbl #[])) (hok : HOk P w H s₁.heap) (hsp : sp [.ref a] H (fun v _ => v = .bl true) fun _ _ _ => False) :
    codeAny (model P w) callerA (.call (.ref fa) ⟨[.ref a], []⟩) (fun r s' => r = .ok (.ret (.bool true)) ∧ OldK s₁.heap s'.heap ∧ s'.os = s₁.os ∧ AllBare s'.gens) s₁ := by
  have tabAt : ∀ b ∈ cs.map (·.2), s₁.heap.get? b = some { cls := .none, data := .fields #[] } := by
    intro b hb
    obtain ⟨p, hp, rfl⟩ := List.mem_map.mp hb
    exact hT p hp
  have untold : ∀ {b : Addr} {o : Obj}, s₁.heap.get? b = some o → ((∀ xs n, o.data ≠ .seq xs n) ∧ o.data ≠ .fields #[]) ∨ K.lookup b ≠ none → H b = none := by
    intro b o e z
    rcases hO b with q | ⟨q, _⟩ | ⟨rfl, q, _⟩
    · exact q
    · rcases z with z | z
      · have t := tabAt b q
        rw [e] at t
        cases t
        exact absurd rfl z.2
      · obtain ⟨p, hp, rfl⟩ := List.mem_map.mp q
        exact absurd (nT p hp) z
    · rcases z with z | z
      · rw [ha] at e
        cases e
        exact absurd rfl (z.1 _ _)
      · exact absurd q z
  have dictU : ∀ {b : Addr} {o : Obj} {es : Array DictEntry} {ep : Nat}, s₁.heap.get? b = some o → o.data = .dict es ep → H b = none := fun e d => untold e (.inl ⟨(fun xs n z => by rw [d] at z; cases z), (fun z => by rw [d] at z; cases z)⟩)
  have nsB : ∀ {b : Addr} {m : Str → Option Value}, s₁.heap.Ns b m → (hidT s₁.heap H).Ns b m := by
    rintro b m ⟨o, es, ep, e, d, r⟩
    exact ⟨o, es, ep, hidT_get e (dictU e d), d, r⟩
  have hKb : K.In (hidT s₁.heap H) := fun b o e => hidT_get (KX b o e) (untold (KX b o e) (.inr (by rw [e]; exact Option.some_ne_none o)))
  have hM : Mod K mg (hidT s₁.heap H) := ⟨hKb, nsB hns, ⟨mb, nsB hb, hbb⟩, hlim.elim fun mc z => ⟨mc, nsB z.1, z.2⟩⟩
  have TB : ∀ p ∈ cs, TabB (hidT s₁.heap H) mg p.1 p.2 := by
    intro p hp
    have tp := hT p hp
    refine ⟨?_, ?_, fun z => ?_⟩
    · obtain ⟨o, us, file, tf, flags, tg, inF, text, tt, g1, g0, g2, g3, rest⟩ := C p hp
      refine ⟨o, us, file, tf, flags, tg, inF, text, tt, hidT_get g1 (untold g1 (.inl ⟨fun xs n z => ?_, fun z => ?_⟩)), g0, g2, g3, rest⟩
      · rw [g2] at z
        cases z
      · rw [g2] at z
        cases z
        simp at g3
    · obtain ⟨bm, ob, b1, b2, b3, b4, b5, b6⟩ := hbm
      refine ⟨bm, ob, b1, b2, fun q => ?_, fun q => ?_, hidT_get b3 (untold b3 (.inl ⟨fun xs n z => ?_, fun z => ?_⟩)), b4, b5, b6⟩
      · obtain ⟨o, es, ep, e, hd, _⟩ := hns
        rw [q, e] at b3
        cases b3
        rw [hd] at b6
        cases b6
      · rw [q, tp] at b3
        cases b3
        cases b6
      · rw [b6] at z
        cases z
      · rw [b6] at z
        cases z
    · obtain ⟨o, es, ep, e, hd, _⟩ := hns
      rw [z, tp] at e
      cases e
      cases hd
  have e0 : Env0 P w K mg (hidT s₁.heap H) callerA [] s₁ H :=
    ⟨rfl, hM, fun b o e => of_hidT e, Nat.le_of_eq (hidT_size _ _), trivial, fun b hb => absurd hb List.not_mem_nil, hok, .of_eq hg⟩
  refine codeAny_mono ((F _ hKb (nsB hns) TB).go callerA [] s₁ H ⟨[.ref a], []⟩ [.ref a] [.ref a] _ _ hr rfl e0 (hbind s₁ (.ref a)) (.cons rfl .nil) hsp) ?_
  intro r s' h
  cases r with
  | error e => exact False.elim h
  | ok fl => cases fl with
    | next => exact False.elim h
    | brk => exact False.elim h
    | cont => exact False.elim h
    | ret u =>
      obtain ⟨v, H', os, bare, un, hok', r', q⟩ := h
      have q' : v = .bl true := q
      subst q'
      have r2 : u = Value.bool true := r'
      subst r2
      have same : ∀ b o, b ∉ cs.map (·.2) → s₁.heap.get? b = some o → s'.heap.get? b = some o := by
        intro b o nb e
        rcases hO b with z | ⟨z, _⟩ | ⟨rfl, _, ob, xs, z⟩
        · exact un.keep b o e z List.not_mem_nil List.not_mem_nil
        · exact absurd z nb
        · obtain ⟨e1, _⟩ := hok _ _ z
          obtain ⟨e2, _⟩ := hok' _ _ (un.frzs _ ob _ z)
          rw [e] at e1
          cases e1
          exact e2
      have grown : ∀ b ∈ cs.map (·.2), ∃ more : Array Value, s'.heap.get? b = some { cls := .none, data := .fields more } := by
        intro b hb
        obtain ⟨p, hp, rfl⟩ := List.mem_map.mp hb
        obtain ⟨more, z⟩ := un.tbls p.2 #[] (hP p hp)
        exact ⟨_, hok' p.2 _ z⟩
      refine ⟨rfl, ⟨fun b o e => ?_, fun b o e => ?_⟩, os, bare⟩
      · by_cases hb : b ∈ cs.map (·.2)
        · obtain ⟨more, hm⟩ := grown b hb
          obtain ⟨p, hp, rfl⟩ := List.mem_map.mp hb
          rw [hT p hp] at e
          cases e
          exact .inr (.inl ⟨((C p hp).tab (hT p hp)).isCodeTable, rfl, #[], more, rfl, by rw [Array.empty_append]; exact hm⟩)
        · exact .inl (same b o hb e)
      · by_cases hb : b ∈ cs.map (·.2)
        · obtain ⟨more, hm⟩ := grown b hb
          exact ⟨_, hm⟩
        · exact ⟨o, same b o hb e⟩
theorem lawT (KX : K.In s₁.heap) (hns : s₁.heap.Ns mainGlobals mg) (hb : s₁.heap.Ns builtinsNs mb) (hbb : ∀ x : Str, x ≠ "__name__" → mb x = bootBuiltins x) (hlim : s₁.heap.NoLimit) (hg : s₁.gens = #[])
    (hT : ∀ p ∈ cs, s₁.heap.get? p.2 = some { cls := .none, data := .fields #[] }) (nT : ∀ p ∈ cs, K.lookup p.2 = none) (C : ∀ p ∈ cs, PySem.W.CodeHd s₁.heap p.1 p.2)
    (hbm : ∃ (bm : Addr) (ob : Obj), mg "__builtins__" = some (.ref bm) ∧ bm ≠ builtinsNs ∧ s₁.heap.get? bm = some ob ∧ ob.cls = .type "module" ∧ ob.dict = some builtinsNs ∧ ob.data = .plain)
    (ha : s₁.heap.get? a = some { cls := .type "list", data := .seq vs.toArray }) (hi : IntsAre vs ns) (hl : ns.length ≤ sizeLine) (hr : Room k callerA)
    (F : ∀ base : Heap, K.In base → base.Ns mainGlobals mg → (∀ p ∈ cs, TabB base mg p.1 p.2) → FnG P w K mg base CX0 k fa fd [x] sp) (hbind : ∀ (s : Shared) (u : Value), BindsTo s fd ⟨[u], []⟩ [(x, u)])
    (hsp : ∀ H : Hp, (∀ p ∈ cs, H p.2 = some (.tbl #[])) → SqL K H a (ns.map V.int) → sp [.ref a] H (fun v _ => v = .bl true) fun _ _ _ => False) :
    codeAny (model P w) callerA (.call (.ref fa) ⟨[.ref a], []⟩) (fun r s' => r = .ok (.ret (.bool true)) ∧ OldK s₁.heap s'.heap ∧ s'.os = s₁.os ∧ AllBare s'.gens) s₁ := by
  have rv := vals_ints hi
  have tabAt : ∀ b ∈ cs.map (·.2), s₁.heap.get? b = some { cls := .none, data := .fields #[] } := by
    intro b hb
    obtain ⟨p, hp, rfl⟩ := List.mem_map.mp hb
    exact hT p hp
  have na : a ∉ cs.map (·.2) := fun z => by
    have q := tabAt a z
    rw [ha] at q
    have q' : Data.seq vs.toArray _ = Data.fields #[] := congrArg Obj.data (Option.some.inj q)
    cases q'
  cases hk : K.lookup a with
  | some o =>
    have e := KX a o hk
    rw [ha] at e
    cases e
    have hP : ∀ p ∈ cs, (fun b => if b ∈ cs.map (·.2) then some (HO.tbl #[]) else none : Hp) p.2 = some (.tbl #[]) := fun p hp => if_pos (List.mem_map.mpr ⟨p, hp, rfl⟩)
    refine lawT0 (H := fun b => if b ∈ cs.map (·.2) then some (.tbl #[]) else none) KX hns hb hbb hlim hg hT nT C hbm ha hr F hbind (fun b => ?_) hP (fun b u z => ?_) (hsp _ hP (.inr ⟨_, vs.toArray, _, hk, rfl, rfl, rfl, ?_, ?_⟩))
    · by_cases h : b ∈ cs.map (·.2)
      · exact .inr (.inl ⟨h, if_pos h⟩)
      · exact .inl (if_neg h)
    · by_cases h : b ∈ cs.map (·.2)
      · cases (if_pos h).symm.trans z
        exact tabAt b h
      · cases (if_neg h).symm.trans z
    · rw [List.size_toArray, hi.length]
      exact hl
    · rw [List.toList_toArray]
      exact rv
  | none =>
    have hP : ∀ p ∈ cs, (upd (fun b => if b ∈ cs.map (·.2) then some (HO.tbl #[]) else none) a (.frz { cls := .type "list", data := .seq vs.toArray } (.lst (ns.map V.int))) : Hp) p.2 = some (.tbl #[]) := fun p hp => by
      have m : p.2 ∈ cs.map (·.2) := List.mem_map.mpr ⟨p, hp, rfl⟩
      rw [upd_ne (show p.2 ≠ a from fun z => na (by rw [← z]; exact m))]
      exact if_pos m
    refine lawT0 (H := upd (fun b => if b ∈ cs.map (·.2) then some (.tbl #[]) else none) a (.frz { cls := .type "list", data := .seq vs.toArray } (.lst (ns.map V.int)))) KX hns hb hbb hlim hg hT nT C hbm ha hr F hbind (fun b => ?_) hP (fun b u z => ?_) (hsp _ hP (.inl (.inr ⟨_, upd_same⟩)))
    · by_cases h : b = a
      · subst h
        exact .inr (.inr ⟨rfl, hk, _, _, upd_same⟩)
      · rw [upd_ne h]
        by_cases h2 : b ∈ cs.map (·.2)
        · exact .inr (.inl ⟨h2, if_pos h2⟩)
        · exact .inl (if_neg h2)
    · by_cases h : b = a
      · subst h
        rw [upd_same] at z
        cases z
        exact ⟨ha, by rw [List.length_map]; exact hl, vs, _, rv, ha⟩
      · rw [upd_ne h] at z
        by_cases h2 : b ∈ cs.map (·.2)
        · cases (if_pos h2).symm.trans z
          exact tabAt b h2
        · cases (if_neg h2).symm.trans z
end
/-- what is to be shown of a law whose defs make lambdas -/
def LawT (l : PySem.W.OpenLaw) (w : World) (K : PySem.W.Frag) (k n : Nat) (x : Str) (mg : Str → Option Value) (fa : Addr) (h : Heap) : Prop :=
  ∃ (fd : FuncData) (cs : List (Addr × Addr)) (sp : Sp), (∀ p ∈ cs, h.get? p.2 = some { cls := .none, data := .fields #[] }) ∧ (∀ p ∈ cs, K.lookup p.2 = none) ∧ (∀ p ∈ cs, PySem.W.CodeHd h p.1 p.2) ∧ (∀ (s : Shared) (u : Value), BindsTo s fd ⟨[u], []⟩ [(x, u)]) ∧
    (∀ (H : Hp) (a : Addr) (ns : List Int), ns.length ≤ n → (∀ p ∈ cs, H p.2 = some (.tbl #[])) → SqL K H a (ns.map V.int) → sp [.ref a] H (fun v _ => v = .bl true) fun _ _ _ => False) ∧
    ∀ base : Heap, K.In base → base.Ns mainGlobals mg → (∀ p ∈ cs, TabB base mg p.1 p.2) → FnG l.prog w K mg base CX0 k fa fd [x] sp
theorem walkT {l : PySem.W.OpenLaw} {n k : Nat} {q : Program} {loose : List Str} {XP : (Str → Option Value) → Heap → Prop} {YP : World → Heap → Prop} {d : DefRec} {K : Params → PySem.W.Frag} {x : Str}
    (hn : l.most = some n) (hn2 : n ≤ sizeLine) (hdf : d.params.defaults = []) (hr : Room k callerA) (hY : ∀ (w : World) (h : Heap), YP w h → (K w.params).In h)
    (F : ∀ (w : World) (mg mb : Str → Option Value) (fa : Addr) (h : Heap) (lo : List Str) (me : ExcName → Option Value), YP w h → (K w.params).In h → Top q lo me mg mb h → mg d.name = some (.ref fa) → LawT l w (K w.params) k n x mg fa h) :
    PySem.W.WalkO q loose XP YP l.row.toRowW d [] (fun f vs => PySem.call f vs) := by
  refine Att.attach_callB hn hdf fun w s₀ s₁ mg mb fa o pm cd doc a vs ns G Y ho hd hcd hmg hobj hints hlen hbits hg => ?_
  have KX := hY w _ Y
  obtain ⟨fd, cs, sp, hT, nT, C, hb, hsp, hF⟩ := F w mg mb fa _ _ _ Y KX G.T hmg
  exact lawT KX G.T.g G.T.b G.T.builtins G.T.nolimit hg hT nT C G.T.bmain hobj hints (Nat.le_trans hlen hn2) hr hF hb fun H hH hS => hsp H a ns hlen hH hS
theorem tabIn_of {K : PySem.W.Frag} {x : Str} {f c P : Addr} {oc : Value} {od : Option Addr} {fd : FuncData} {sl : Array (Option Value)} {ob : Value} {oe : Option Addr} {vs : Array Value} {of : Array (Option Value)} (a : PySem.W.nsIn K mainGlobals x = some (some (.ref f))) (l : K.lookup f = some ⟨oc, od, .func fd, sl⟩) (hc : fd.code = .ref c)
    (lc : K.lookup c = some ⟨ob, oe, .fields vs, of⟩) (hv : vs[11]? = some (.ref P)) : PySem.W.tabIn K x = some (c, P) := by
  unfold PySem.W.tabIn
  rw [a]
  simp only [l, hc, lc, hv]
end Hr

/-! t + u of tuples, either of them may be empty. -/
namespace Hr
open PySem PySem.Spec PyProof.Rows L2 Evl PySem.SeqAt PySem.MeetsSeq PySem.MeetsSeq2 PySem.MeetsSeq3
def rCatA (K : PySem.W.Frag) : R2 := fun x y H Q => ∃ a b xs ys, x = .ref a ∧ y = .ref b ∧ SqT K H a xs ∧ SqT K H b ys ∧ xs.length + ys.length ≤ sizeLine ∧
  (xs = [] → Q (.ref b) H) ∧ (xs ≠ [] → ys = [] → Q (.ref a) H) ∧ (xs ≠ [] → ys ≠ [] → ∀ p, H p = none → Q (.ref p) (upd H p (.tup (xs ++ ys))))
theorem op_catA {X : Cx} {K : PySem.W.Frag} (hK : X.K = K := by rfl) : OpR X (binaryOp .Add) (rCatA K) := by
  subst hK
  intro pins s σ H x y v u Q I rx ry h
  obtain ⟨a, b, xs, ys, rfl, rfl, ha, hb, hz, q0, q1, q2⟩ := h
  by_cases hx : xs = []
  · cases rx
    cases ry
    obtain ⟨its, r1, p1, _⟩ := I.tuple ha
    obtain ⟨its2, r2, p2, _⟩ := I.tuple hb
    obtain ⟨⟨cls, dd, data, sl⟩, ho, hc, n, hd⟩ := id p1
    obtain ⟨⟨cls2, dd2, data2, sl2⟩, ho2, hc2, n2, hd2⟩ := id p2
    simp only at hc hd hc2 hd2
    subst hc hd hc2 hd2
    have he : its = [] := r1.nil_iff.mpr hx
    exact concat_meets ⟨_, ho, rfl⟩ ⟨_, ho2, rfl⟩ noFill_tuple_add seq_tuple_add PySem.F.slot_tuple_add PySem.F.entry_tuple_add (PySem.F.args_tuple_add_2 _ _)
      (tuple_addW0 a b its.toArray its2.toArray n n2 dd dd2 sl sl2 (by simp [he])) ⟨ho, ho2, ⟨.ref b, H, I, rfl, q0 hx⟩⟩
  · exact op_catT pins s σ H _ _ v u Q I rx ry ⟨a, b, xs, ys, rfl, rfl, ha, hb, hx, hz, q1 hx, q2 hx⟩
/-- what comes of it, by a tuple at p -/
theorem catA_tup {K : PySem.W.Frag} {H : Hp} {a b : Addr} {xs ys : List V} {Q : VK} (ha : H a = some (.tup xs)) (hb : H b = some (.tup ys)) (hz : xs.length + ys.length ≤ sizeLine)
    (q : ∀ p H2, Ex H H2 → H2 p = some (.tup (xs ++ ys)) → Q (.ref p) H2) : rCatA K (.ref a) (.ref b) H Q := by
  refine ⟨a, b, xs, ys, rfl, rfl, SqT.of ha, SqT.of hb, hz, fun h => q b H (Ex.refl H) (by rw [h]; exact hb), fun _ h => q a H (Ex.refl H) (by rw [h, List.append_nil]; exact ha), fun _ _ p np => q p _ (Ex.new np) upd_same⟩
end Hr

/-! zip of a tuple and a list. -/
namespace Hr
open PySem PySem.Spec PyProof.Rows L2 Evl
def ItzM (K : PySem.W.Frag) (a b : Addr) : It where
  go i H := ∃ (xs ys : List V) (x y : V), SqT K H a xs ∧ SqL K H b ys ∧ xs[i]? = some x ∧ ys[i]? = some y
  yld i H v H' := ∃ T x y, v = .ref T ∧ H T = none ∧ H' = upd H T (.tup [x, y]) ∧ (∀ xs, SqT K H a xs → xs[i]? = some x) ∧ ∀ ys, SqL K H b ys → ys[i]? = some y
  stop i H := ∃ xs ys : List V, SqT K H a xs ∧ SqL K H b ys ∧ i ≤ xs.length ∧ i ≤ ys.length ∧ (xs.length = i ∨ ys.length = i)
theorem turn_zipM {P : Program} {w : World} {K : PySem.W.Frag} {elts : List Expr} {kk : Nat} {tpos : Pos} {a b z TI TO i1 i2 : Addr} (S : ZipSep2 z TI TO i1 i2 [i1, a] [i2, b]) (n1 : a ≠ i1) (n2 : b ≠ i2) :
    Turn P w K (.Tuple elts kk tpos) (ItzM K a b) [z, TI, TO, i1, i2] z (fun i h => IsZip h z TI TO .none ∧ IsTupOf2 h TI (.ref i1) (.ref i2) ∧ (∃ p q, IsTupOf2 h TO p q) ∧ h.IsTupleIter i1 a i ∧ h.IsListIter i2 b i) where
  mem := List.mem_cons_self
  obj := by
    rintro i h ⟨t1, t2, ⟨p, q, t3⟩, ⟨ob1, s1, _, d1⟩, ⟨ob2, s2, _, d2⟩⟩ c hc
    simp only [List.mem_cons, List.not_mem_nil, or_false] at hc
    rcases hc with rfl | rfl | rfl | rfl | rfl
    · exact ⟨_, t1, fun v e => nomatch e⟩
    · exact ⟨_, t2, fun v e => nomatch e⟩
    · exact ⟨_, t3, fun v e => nomatch e⟩
    · exact ⟨ob1, s1, fun v e => by rw [d1] at e; cases e⟩
    · exact ⟨ob2, s2, fun v e => by rw [d2] at e; cases e⟩
  keep := by
    rintro i h h' ⟨t1, t2, ⟨p, q, t3⟩, s1, s2⟩ k
    refine ⟨k _ (by simp) _ t1, k _ (by simp) _ t2, ⟨p, q, k _ (by simp) _ t3⟩, s1.at fun ob e => k _ (by simp) ob e, s2.at fun ob e => k _ (by simp) ob e⟩
  item := by
    intro X hP hw hK hc i pins s σ H E I hf st hg
    subst hP hw hK
    obtain ⟨t1, t2, ⟨p, q, t3⟩, s1, s2⟩ := st
    obtain ⟨xs, ys, x, y, fx, fy, gx, gy⟩ := hg
    obtain ⟨ux, rx, px, _⟩ := I.tuple fx
    obtain ⟨uy, ry, py, _⟩ := I.list fy
    have lx := (List.getElem?_eq_some_iff.mp gx).1
    have ly := (List.getElem?_eq_some_iff.mp gy).1
    have D1 := Draws.tuple (prog := X.prog) (w := X.w) (A := X.A.in1) (I.ok.hd hc) i1 a n1 ux.toArray
    have D2 := Draws.list (prog := X.prog) (w := X.w) (A := X.A.in1) (I.ok.hd hc) i2 b n2 uy.toArray
    have zl : z < s.heap.objs.size := Heap.lt_size t1
    refine wpAny_pyNext_zipD2_item S D1 D2 t1 t2 t3 ⟨s1, px⟩ ⟨s2, py.isList⟩ (by rw [List.size_toArray, ← rx.length]; exact lx) (by rw [List.size_toArray, ← ry.length]; exact ly) fun vx vy h' tk e1 e2 b1 b2 b3 b4 b5 b6 b7 => ?_
    obtain ⟨wx, e3, kx⟩ := rx.get gx
    obtain ⟨wy, e4, ky⟩ := ry.get gy
    have ex : vx = wx := by
      have e5 : ux.toArray[i]? = some wx := by simpa using e3
      exact Option.some.inj (e1.symm.trans e5)
    have ey : vy = wy := by
      have e5 : uy.toArray[i]? = some wy := by simpa using e4
      exact Option.some.inj (e2.symm.trans e5)
    subst ex ey
    refine ⟨_, rfl, wpAny_letOwnedTupleGo_zip (s := { s with heap := h', toks := tk }) b1 fun h2 b8 sb => ?_⟩
    have T2 : h2.get? s.heap.objs.size = some { cls := .type "tuple", data := .seq #[vx, vy] } := (sb.2 _ (Nat.ne_of_gt zl)).trans b5
    have up : ∀ c ob, c ∉ [z, TI, TO, i1, i2] → s.heap.get? c = some ob → h2.get? c = some ob := fun c ob hb e => by
      simp only [List.mem_cons, List.not_mem_nil, or_false, not_or] at hb
      exact (sb.2 c hb.1).trans (b7 c ob hb.1 hb.2.2.1 hb.2.2.2.1 hb.2.2.2.2 e)
    have new : ObjOk X.prog X.w (upd H s.heap.objs.size (.tup [x, y])) h2 s.heap.objs.size (.tup [x, y]) :=
      ⟨by show 2 ≤ sizeLine; decide, [vx, vy], .cons kx (.cons ky .nil), ⟨_, T2, rfl, _, rfl⟩⟩
    have J := I.turnedNew (t' := tk) (ch := [z, TI, TO, i1, i2]) (fun c ob hb e => up c ob hb e) hf (Nat.le_refl _) new
    refine ⟨.ref s.heap.objs.size, _, J, rfl, ⟨_, x, y, rfl, I.hok.fresh (Nat.le_refl _), rfl, fun l hl => ?_, fun l hl => ?_⟩, ⟨b8, ?_, ⟨vx, vy, ?_⟩, ?_, ?_⟩, fun c hcm => ?_⟩
    · rw [I.tuple_inj hl fx]; exact gx
    · rw [I.list_inj hl fy]; exact gy
    · exact (sb.2 _ S.TIz).trans (b7 _ _ S.TIz S.TITO S.TIi1 S.TIi2 t2)
    · exact (sb.2 _ S.TOz).trans b2
    · exact b3.1.at fun ob e => (sb.2 _ S.zi1.symm).trans e
    · exact b4.1.at fun ob e => (sb.2 _ S.zi2.symm).trans e
    · have hlt : c < s.heap.objs.size := by
        have h5 := hcm
        simp only [List.mem_cons, List.not_mem_nil, or_false] at h5
        rcases h5 with rfl | rfl | rfl | rfl | rfl
        · exact zl
        · exact Heap.lt_size t2
        · exact Heap.lt_size t3
        · obtain ⟨ob, e, _⟩ := s1
          exact Heap.lt_size e
        · obtain ⟨ob, e, _⟩ := s2
          exact Heap.lt_size e
      rw [upd_ne (Nat.ne_of_lt hlt)]
      exact (hf c hcm).1
  done := by
    intro X hP hw hK hc i pins s σ H E I hf st hg
    subst hP hw hK
    obtain ⟨t1, t2, ⟨p, q, t3⟩, s1, s2⟩ := st
    obtain ⟨xs, ys, fx, fy, l1, l2, l3⟩ := hg
    obtain ⟨ux, rx, px, _⟩ := I.tuple fx
    obtain ⟨uy, ry, py, _⟩ := I.list fy
    have lx := rx.length
    have ly := ry.length
    have D1 := Draws.tuple (prog := X.prog) (w := X.w) (A := X.A.in1) (I.ok.hd hc) i1 a n1 ux.toArray
    have D2 := Draws.list (prog := X.prog) (w := X.w) (A := X.A.in1) (I.ok.hd hc) i2 b n2 uy.toArray
    refine wpAny_pyNext_zipD2_end S D1 D2 t1 t2 t3 ⟨s1, px⟩ ⟨s2, py.isList⟩ (by rw [List.size_toArray]; omega) (by rw [List.size_toArray]; omega) (by rw [List.size_toArray, List.size_toArray]; omega) fun h' tk hk => ?_
    refine ⟨rfl, I.turnedL (t' := tk) (ch := [z, TI, TO, i1, i2]) (fun c ob hb e => ?_) hf⟩
    simp only [List.mem_cons, List.not_mem_nil, or_false, not_or] at hb
    exact hk c ob hb.1 hb.2.2.1 hb.2.2.2.1 hb.2.2.2.2 e
  self := fun A i s Q E st h => wpAny_pyIter_zip st.1 h
def iZipM (K : PySem.W.Frag) (ta : TA) : TI := fun σ H R => ta σ H fun vs H1 => ∃ a b xs ys, vs = [.ref a, .ref b] ∧ SqT K H1 a xs ∧ SqL K H1 b ys ∧ R (ItzM K a b) H1
theorem pi_zipM {X : Cx} {e e2 : Expr} {ta : TA} {p pos tpos : Pos} {elts : List Expr} {kk : Nat} (hg : Gl X "zip") (hm : X.mg "zip" = none) (ha : PA X [e, e2] ta)
    (h1 : starEach [e, e2] X.env = (false, eval e X.env) :: starEach [e2] X.env := by rfl) (h2 : (backTo pos (starEach [e2] X.env)).any (·.1) = false := by rfl) :
    PI X (.Tuple elts kk tpos) (.Call (.Name "zip" p) [e, e2] [] pos) (iZipM X.K ta) := by
  constructor
  intro pins s σ H R I h
  refine Call_ (ld_blt I hg hm PyProof.Rows.boot_zip (PyProof.Rows.callWith_type1 (thn (ha.run pos pins s σ H _ I h) ?_) h1 h2))
  rintro us t ⟨vs, H1, J, r, a, b, xs, ys, rfl, fx, fy, q⟩
  obtain ⟨u1, u2, rfl, k1, k2⟩ := vals2 r
  have g1 : u1 = .ref a := k1
  have g2 : u2 = .ref b := k2
  subst g1 g2
  obtain ⟨ux, rx, px, _⟩ := J.tuple fx
  obtain ⟨uy, ry, py, _⟩ := J.list fy
  have la : a < t.heap.objs.size := px.lt
  have lb : b < t.heap.objs.size := py.lt
  refine zip_begins2 (begins_tuple a ux.toArray) (begins_list b uy.toArray) px py.isList fun h' c1 c2 c3 c4 c5 c6 c7 => wpAny_pyIter_zip c1 ?_
  have J2 : Inv X pins σ H1 { t with heap := h' } := J.kept (t' := t.toks) c7
  have S := zip_sep2 (N := t.heap.objs.size) (fp1 := [a]) (fp2 := [b]) (fun c hc => by rw [List.mem_singleton.mp hc]; exact la) (fun c hc => by rw [List.mem_singleton.mp hc]; exact lb)
  refine ⟨t.heap.objs.size + 4, [t.heap.objs.size + 4, t.heap.objs.size + 2, t.heap.objs.size + 3, t.heap.objs.size, t.heap.objs.size + 1], _, _, H1, rfl, J2, turn_zipM S (Nat.ne_of_lt la) (Nat.ne_of_lt (Nat.lt_succ_of_lt lb)), ⟨c1, c2, ⟨_, _, c3⟩, ⟨_, c4, rfl, rfl⟩, ⟨_, c5, rfl, rfl⟩⟩, fun c hcm => ?_, q⟩
  have hle : t.heap.objs.size ≤ c := by
    simp only [List.mem_cons, List.not_mem_nil, or_false] at hcm
    rcases hcm with rfl | rfl | rfl | rfl | rfl
    · exact Nat.le_add_right _ _
    · exact Nat.le_add_right _ _
    · exact Nat.le_add_right _ _
    · exact Nat.le_refl _
    · exact Nat.le_add_right _ _
  exact J.fpOk hle (J.hok.fresh hle)
theorem walk_zipM {K : PySem.W.Frag} {a b : Addr} {xs ys : List V} {n : Nat} (hn : n = min xs.length ys.length) : Walk (ItzM K a b) n (fun H => SqT K H a xs ∧ SqL K H b ys) (YPair (fun i => xs[i]?) (fun i => ys[i]?)) := by
  subst hn
  refine ⟨fun i H hi g => ⟨xs, ys, xs[i], ys[i], g.1, g.2, List.getElem?_eq_getElem (by omega), List.getElem?_eq_getElem (by omega)⟩, fun H g => ⟨xs, ys, g.1, g.2, by omega, by omega, by omega⟩, ?_⟩
  rintro i H v H' hi g ⟨T, x, y, rfl, nT, rfl, f1, f2⟩
  exact ⟨T, x, y, rfl, nT, rfl, f1 xs g.1, f2 ys g.2⟩
/-- a comprehension over it -/
theorem el_lcZM {K : PySem.W.Frag} {σ : L2.St} {H : Hp} {te : TE} {g : TG} {tt : TT} {vs : List Nat} {xs ys : List V} {a b : Addr} {ta : TA} (ha : H a = some (.tup xs)) (hb : H b = some (.lst ys)) (hl : EvA ta σ H [.ref a, .ref b]) (f : Nat → Bool) (v : Nat → V) (hz : min xs.length ys.length ≤ 40000)
    (hs : ∀ (i : Nat) x y T H2, Ex H H2 → xs[i]? = some x → ys[i]? = some y → H2 T = some (.tup [x, y]) → ∃ σ2, (∀ k : L2.St → Hp → Prop, k σ2 H2 → g (.ref T) (wipe σ vs) H2 k) ∧ wipe σ2 vs = wipe σ vs ∧ EvT tt σ2 H2 (f i) ∧ (f i = true → Ev te σ2 H2 (v i))) :
    EvL (tLc (iZipM K ta) g tt te vs) σ H (given (min xs.length ys.length) f v) :=
  el_lcW (walk_zipM (K := K) rfl) f v hz (fun H1 e R k => hl H1 e _ fun H2 e2 => ⟨a, b, xs, ys, rfl, SqT.of (e2 _ _ (e _ _ ha)), SqL.of (e2 _ _ (e _ _ hb)), k H2 e2⟩) (fun H1 e => ⟨SqT.of (e _ _ ha), SqL.of (e _ _ hb)⟩)
    (fun i H1 x H2 y => by
      obtain ⟨T, _, _, rfl, nT, rfl, _, _⟩ := y
      exact Ex.new nT)
    fun i x H1 H2 hi e y => by
      obtain ⟨T, x1, x2, rfl, nT, rfl, h1, h2⟩ := y
      exact hs i x1 x2 T _ (e.trans (Ex.new nT)) h1 h2 upd_same
end Hr

namespace K34
open PySem PySem.Spec PyProof.Rows L2 Hr HrM Evl LamX
def topS (i : Nat) : Stmt := PySem.Challenge.pw_holerows_k34_least_rests_and_most_holes.main.body.getD i (.Pass ⟨0, 0, 0, 0⟩)
abbrev s_is_integer : Stmt := topS 9
theorem sc_is_integer : FnScope ["thing"] ["thing"] (defScope s_is_integer) := ⟨rfl, rfl, rfl, by decide +kernel, rfl, by decide +kernel, by decide +kernel⟩
abbrev s_is_integer_from : Stmt := topS 10
theorem sc_is_integer_from : FnScope ["thing", "least"] ["thing", "least"] (defScope s_is_integer_from) := ⟨rfl, rfl, rfl, by decide +kernel, rfl, by decide +kernel, by decide +kernel⟩
abbrev s_are_integers_from : Stmt := topS 11
theorem sc_are_integers_from : FnScope ["thing", "least", "part"] ["thing", "least"] (defScope s_are_integers_from) := ⟨rfl, rfl, rfl, by decide +kernel, rfl, by decide +kernel, by decide +kernel⟩
abbrev s_cascade_of : Stmt := topS 13
theorem sc_cascade_of : FnScope ["number", "size", "tops", "rest", "place", "top"] ["number", "size"] (defScope s_cascade_of) := ⟨rfl, rfl, rfl, by decide +kernel, rfl, by decide +kernel, by decide +kernel⟩
abbrev s_lower_sets : Stmt := topS 14
theorem sc_lower_sets : FnScope ["number", "size"] ["number", "size"] (defScope s_lower_sets) := ⟨rfl, rfl, rfl, by decide +kernel, rfl, by decide +kernel, by decide +kernel⟩
abbrev s_check_number : Stmt := topS 15
theorem sc_check_number : FnScope ["number"] ["number"] (defScope s_check_number) := ⟨rfl, rfl, rfl, by decide +kernel, rfl, by decide +kernel, by decide +kernel⟩
abbrev s_check_size : Stmt := topS 16
theorem sc_check_size : FnScope ["size"] ["size"] (defScope s_check_size) := ⟨rfl, rfl, rfl, by decide +kernel, rfl, by decide +kernel, by decide +kernel⟩
abbrev s_greatest_top : Stmt := topS 17
theorem sc_greatest_top : FnScope ["number", "size"] ["number", "size"] (defScope s_greatest_top) := ⟨rfl, rfl, rfl, by decide +kernel, rfl, by decide +kernel, by decide +kernel⟩
abbrev s_greatest_within : Stmt := topS 18
theorem sc_greatest_within : FnScope ["number", "least", "count_at", "low", "high", "middle"] ["number", "least", "count_at"] (defScope s_greatest_within) := ⟨rfl, rfl, rfl, by decide +kernel, rfl, by decide +kernel, by decide +kernel⟩
abbrev s_moved_sum : Stmt := topS 19
theorem sc_moved_sum : FnScope ["size", "cascade", "more_things", "more_size", "k", "top"] ["size", "cascade", "more_things", "more_size"] (defScope s_moved_sum) := ⟨rfl, rfl, rfl, by decide +kernel, rfl, by decide +kernel, by decide +kernel⟩
abbrev s_is_counts : Stmt := topS 22
theorem sc_is_counts : FnScope ["thing"] ["thing"] (defScope s_is_counts) := ⟨rfl, rfl, rfl, by decide +kernel, rfl, by decide +kernel, by decide +kernel⟩
abbrev s_judge_counts : Stmt := topS 23
theorem sc_judge_counts : FnScope ["counts"] ["counts"] (defScope s_judge_counts) := ⟨rfl, rfl, rfl, by decide +kernel, rfl, by decide +kernel, by decide +kernel⟩
abbrev s_check_counts : Stmt := topS 24
theorem sc_check_counts : FnScope ["counts"] ["counts"] (defScope s_check_counts) := ⟨rfl, rfl, rfl, by decide +kernel, rfl, by decide +kernel, by decide +kernel⟩
abbrev s_check_some_counts : Stmt := topS 25
theorem sc_check_some_counts : FnScope ["counts"] ["counts"] (defScope s_check_some_counts) := ⟨rfl, rfl, rfl, by decide +kernel, rfl, by decide +kernel, by decide +kernel⟩
abbrev s_check_fit : Stmt := topS 26
theorem sc_check_fit : FnScope ["counts", "certificate"] ["counts"] (defScope s_check_fit) := ⟨rfl, rfl, rfl, by decide +kernel, rfl, by decide +kernel, by decide +kernel⟩
abbrev s_counts_certificates : Stmt := topS 27
theorem sc_counts_certificates : FnScope ["counts", "places", "lowers", "faults", "k"] ["counts"] (defScope s_counts_certificates) := ⟨rfl, rfl, rfl, by decide +kernel, rfl, by decide +kernel, by decide +kernel⟩
abbrev s_rests_of : Stmt := topS 29
theorem sc_rests_of : FnScope ["counts", "holes", "rests", "k"] ["counts", "holes"] (defScope s_rests_of) := ⟨rfl, rfl, rfl, by decide +kernel, rfl, by decide +kernel, by decide +kernel⟩
abbrev s_judge_rows : Stmt := topS 30
theorem sc_judge_rows : FnScope ["counts", "holes"] ["counts", "holes"] (defScope s_judge_rows) := ⟨rfl, rfl, rfl, by decide +kernel, rfl, by decide +kernel, by decide +kernel⟩
abbrev s_is_holes_for : Stmt := topS 31
theorem sc_is_holes_for : FnScope ["counts", "thing"] ["counts", "thing"] (defScope s_is_holes_for) := ⟨rfl, rfl, rfl, by decide +kernel, rfl, by decide +kernel, by decide +kernel⟩
abbrev s_rows_certificates : Stmt := topS 32
theorem sc_rows_certificates : FnScope ["counts", "holes", "rests", "faults", "k", "rest"] ["counts", "holes"] (defScope s_rows_certificates) := ⟨rfl, rfl, rfl, by decide +kernel, rfl, by decide +kernel, by decide +kernel⟩
abbrev s_is_overfull : Stmt := topS 33
theorem sc_is_overfull : FnScope ["rests", "holes", "k"] ["rests", "holes", "k"] (defScope s_is_overfull) := ⟨rfl, rfl, rfl, by decide +kernel, rfl, by decide +kernel, by decide +kernel⟩
abbrev s_least_rests : Stmt := topS 35
theorem sc_least_rests : FnScope ["counts", "k"] ["counts"] (defScope s_least_rests) := ⟨rfl, rfl, rfl, by decide +kernel, rfl, by decide +kernel, by decide +kernel⟩
abbrev s_most_holes : Stmt := topS 36
theorem sc_most_holes : FnScope ["counts"] ["counts"] (defScope s_most_holes) := ⟨rfl, rfl, rfl, by decide +kernel, rfl, by decide +kernel, by decide +kernel⟩
abbrev s_least_holes : Stmt := topS 37
theorem sc_least_holes : FnScope ["counts", "least", "lefts", "rights", "many", "rest", "k"] ["counts"] (defScope s_least_holes) := ⟨rfl, rfl, rfl, by decide +kernel, rfl, by decide +kernel, by decide +kernel⟩
abbrev s_has_hole_row : Stmt := topS 38
theorem sc_has_hole_row : FnScope ["counts", "thing"] ["counts", "thing"] (defScope s_has_hole_row) := ⟨rfl, rfl, rfl, by decide +kernel, rfl, by decide +kernel, by decide +kernel⟩
abbrev s_holes_with : Stmt := topS 39
theorem sc_holes_with : FnScope ["counts", "rests", "k", "many"] ["counts", "rests"] (defScope s_holes_with) := ⟨rfl, rfl, rfl, by decide +kernel, rfl, by decide +kernel, by decide +kernel⟩
abbrev s_greatest_rests : Stmt := topS 40
theorem sc_greatest_rests : FnScope ["counts", "least", "many", "rest"] ["counts", "least"] (defScope s_greatest_rests) := ⟨rfl, rfl, rfl, by decide +kernel, rfl, by decide +kernel, by decide +kernel⟩
abbrev s_least_rest : Stmt := topS 41
theorem sc_least_rest : FnScope ["many", "size", "low", "high", "middle"] ["many", "size"] (defScope s_least_rest) := ⟨rfl, rfl, rfl, by decide +kernel, rfl, by decide +kernel, by decide +kernel⟩
abbrev s_l_deck : Stmt := topS 43
theorem sc_l_deck : FnScope ["script", "mixed", "cell"] ["script"] (defScope s_l_deck) := ⟨rfl, rfl, rfl, by decide +kernel, rfl, by decide +kernel, by decide +kernel⟩
abbrev s_l_draw : Stmt := topS 44
theorem sc_l_draw : FnScope ["deck", "below", "figure", "cell"] ["deck", "below"] (defScope s_l_draw) := ⟨rfl, rfl, rfl, by decide +kernel, rfl, by decide +kernel, by decide +kernel⟩
abbrev s_l_pick : Stmt := topS 45
theorem sc_l_pick : FnScope ["deck", "some"] ["deck", "some"] (defScope s_l_pick) := ⟨rfl, rfl, rfl, by decide +kernel, rfl, by decide +kernel, by decide +kernel⟩
abbrev s_l_is_integer : Stmt := topS 46
theorem sc_l_is_integer : FnScope ["thing"] ["thing"] (defScope s_l_is_integer) := ⟨rfl, rfl, rfl, by decide +kernel, rfl, by decide +kernel, by decide +kernel⟩
abbrev s_l_are_integers : Stmt := topS 47
theorem sc_l_are_integers : FnScope ["thing", "many", "x"] ["thing", "many"] (defScope s_l_are_integers) := ⟨rfl, rfl, rfl, by decide +kernel, rfl, by decide +kernel, by decide +kernel⟩
abbrev s_l_choose : Stmt := topS 48
theorem sc_l_choose : FnScope ["a", "b", "found", "i"] ["a", "b"] (defScope s_l_choose) := ⟨rfl, rfl, rfl, by decide +kernel, rfl, by decide +kernel, by decide +kernel⟩
abbrev s_l_top : Stmt := topS 49
theorem sc_l_top : FnScope ["number", "size", "low", "high", "middle"] ["number", "size"] (defScope s_l_top) := ⟨rfl, rfl, rfl, by decide +kernel, rfl, by decide +kernel, by decide +kernel⟩
abbrev s_l_cascade : Stmt := topS 50
theorem sc_l_cascade : FnScope ["number", "size", "found", "left", "s", "a"] ["number", "size"] (defScope s_l_cascade) := ⟨rfl, rfl, rfl, by decide +kernel, rfl, by decide +kernel, by decide +kernel⟩
abbrev s_l_lower_sets : Stmt := topS 51
theorem sc_l_lower_sets : FnScope ["number", "size", "at", "a"] ["number", "size"] (defScope s_l_lower_sets) := ⟨rfl, rfl, rfl, by decide +kernel, rfl, by decide +kernel, by decide +kernel⟩
abbrev s_l_rests : Stmt := topS 52
theorem sc_l_rests : FnScope ["counts", "holes", "found", "count", "hole"] ["counts", "holes"] (defScope s_l_rests) := ⟨rfl, rfl, rfl, by decide +kernel, rfl, by decide +kernel, by decide +kernel⟩
abbrev s_l_does_fit : Stmt := topS 53
theorem sc_l_does_fit : FnScope ["counts", "holes", "rests", "k"] ["counts", "holes"] (defScope s_l_does_fit) := ⟨rfl, rfl, rfl, by decide +kernel, rfl, by decide +kernel, by decide +kernel⟩
abbrev s_l_below : Stmt := topS 54
theorem sc_l_below : FnScope ["deck", "greatest", "found", "room"] ["deck", "greatest"] (defScope s_l_below) := ⟨rfl, rfl, rfl, by decide +kernel, rfl, by decide +kernel, by decide +kernel⟩
abbrev s_l_some_counts : Stmt := topS 55
theorem sc_l_some_counts : FnScope ["deck", "d", "greatest", "found", "k", "least"] ["deck", "d", "greatest"] (defScope s_l_some_counts) := ⟨rfl, rfl, rfl, by decide +kernel, rfl, by decide +kernel, by decide +kernel⟩
abbrev s_l_least_holes : Stmt := topS 56
theorem sc_l_least_holes : FnScope ["counts", "least", "found", "d", "k", "before", "behind"] ["counts", "least"] (defScope s_l_least_holes) := ⟨rfl, rfl, rfl, by decide +kernel, rfl, by decide +kernel, by decide +kernel⟩
abbrev s_l_is_least : Stmt := topS 57
theorem sc_l_is_least : FnScope ["counts", "k", "c"] ["counts", "k", "c"] (defScope s_l_is_least) := ⟨rfl, rfl, rfl, by decide +kernel, rfl, by decide +kernel, by decide +kernel⟩
abbrev s_law : Stmt := topS 58
theorem sc_law : FnScope ["script", "deck", "greatest", "counts", "least", "d", "most", "few", "at", "more", "other", "row", "due", "k", "x", "y"] ["script"] (defScope s_law) := ⟨rfl, rfl, rfl, by decide +kernel, rfl, by decide +kernel, by decide +kernel⟩
structure Txt (K : PySem.W.Frag) (mg : Str → Option Value) where
  f_is_integer : Addr
  d_is_integer : FuncData
  U_is_integer : Fun K "is_integer" "is_integer" s_is_integer f_is_integer d_is_integer
  g_is_integer : mg "is_integer" = some (.ref f_is_integer)
  b_is_integer : Binds K d_is_integer ["thing"] []
  f_is_integer_from : Addr
  d_is_integer_from : FuncData
  U_is_integer_from : Fun K "is_integer_from" "is_integer_from" s_is_integer_from f_is_integer_from d_is_integer_from
  g_is_integer_from : mg "is_integer_from" = some (.ref f_is_integer_from)
  b_is_integer_from : Binds K d_is_integer_from ["thing", "least"] []
  f_are_integers_from : Addr
  d_are_integers_from : FuncData
  U_are_integers_from : Fun K "are_integers_from" "are_integers_from" s_are_integers_from f_are_integers_from d_are_integers_from
  g_are_integers_from : mg "are_integers_from" = some (.ref f_are_integers_from)
  b_are_integers_from : Binds K d_are_integers_from ["thing", "least"] []
  f_cascade_of : Addr
  d_cascade_of : FuncData
  U_cascade_of : Fun K "cascade_of" "cascade_of" s_cascade_of f_cascade_of d_cascade_of
  g_cascade_of : mg "cascade_of" = some (.ref f_cascade_of)
  b_cascade_of : Binds K d_cascade_of ["number", "size"] []
  f_lower_sets : Addr
  d_lower_sets : FuncData
  U_lower_sets : Fun K "lower_sets" "lower_sets" s_lower_sets f_lower_sets d_lower_sets
  g_lower_sets : mg "lower_sets" = some (.ref f_lower_sets)
  b_lower_sets : Binds K d_lower_sets ["number", "size"] []
  f_check_number : Addr
  d_check_number : FuncData
  U_check_number : Fun K "check_number" "check_number" s_check_number f_check_number d_check_number
  g_check_number : mg "check_number" = some (.ref f_check_number)
  b_check_number : Binds K d_check_number ["number"] []
  f_check_size : Addr
  d_check_size : FuncData
  U_check_size : Fun K "check_size" "check_size" s_check_size f_check_size d_check_size
  g_check_size : mg "check_size" = some (.ref f_check_size)
  b_check_size : Binds K d_check_size ["size"] []
  f_greatest_top : Addr
  d_greatest_top : FuncData
  U_greatest_top : Fun K "greatest_top" "greatest_top" s_greatest_top f_greatest_top d_greatest_top
  g_greatest_top : mg "greatest_top" = some (.ref f_greatest_top)
  b_greatest_top : Binds K d_greatest_top ["number", "size"] []
  f_greatest_within : Addr
  d_greatest_within : FuncData
  U_greatest_within : Fun K "greatest_within" "greatest_within" s_greatest_within f_greatest_within d_greatest_within
  g_greatest_within : mg "greatest_within" = some (.ref f_greatest_within)
  b_greatest_within : Binds K d_greatest_within ["number", "least", "count_at"] []
  f_moved_sum : Addr
  d_moved_sum : FuncData
  U_moved_sum : Fun K "moved_sum" "moved_sum" s_moved_sum f_moved_sum d_moved_sum
  g_moved_sum : mg "moved_sum" = some (.ref f_moved_sum)
  b_moved_sum : Binds K d_moved_sum ["size", "cascade", "more_things", "more_size"] []
  f_is_counts : Addr
  d_is_counts : FuncData
  U_is_counts : Fun K "is_counts" "is_counts" s_is_counts f_is_counts d_is_counts
  g_is_counts : mg "is_counts" = some (.ref f_is_counts)
  b_is_counts : Binds K d_is_counts ["thing"] []
  f_judge_counts : Addr
  d_judge_counts : FuncData
  U_judge_counts : Fun K "judge_counts" "judge_counts" s_judge_counts f_judge_counts d_judge_counts
  g_judge_counts : mg "judge_counts" = some (.ref f_judge_counts)
  b_judge_counts : Binds K d_judge_counts ["counts"] []
  f_check_counts : Addr
  d_check_counts : FuncData
  U_check_counts : Fun K "check_counts" "check_counts" s_check_counts f_check_counts d_check_counts
  g_check_counts : mg "check_counts" = some (.ref f_check_counts)
  b_check_counts : Binds K d_check_counts ["counts"] []
  f_check_some_counts : Addr
  d_check_some_counts : FuncData
  U_check_some_counts : Fun K "check_some_counts" "check_some_counts" s_check_some_counts f_check_some_counts d_check_some_counts
  g_check_some_counts : mg "check_some_counts" = some (.ref f_check_some_counts)
  b_check_some_counts : Binds K d_check_some_counts ["counts"] []
  f_check_fit : Addr
  d_check_fit : FuncData
  U_check_fit : Fun K "check_fit" "check_fit" s_check_fit f_check_fit d_check_fit
  g_check_fit : mg "check_fit" = some (.ref f_check_fit)
  b_check_fit : Binds K d_check_fit ["counts"] []
  f_counts_certificates : Addr
  d_counts_certificates : FuncData
  U_counts_certificates : Fun K "counts_certificates" "counts_certificates" s_counts_certificates f_counts_certificates d_counts_certificates
  g_counts_certificates : mg "counts_certificates" = some (.ref f_counts_certificates)
  b_counts_certificates : Binds K d_counts_certificates ["counts"] []
  f_rests_of : Addr
  d_rests_of : FuncData
  U_rests_of : Fun K "rests_of" "rests_of" s_rests_of f_rests_of d_rests_of
  g_rests_of : mg "rests_of" = some (.ref f_rests_of)
  b_rests_of : Binds K d_rests_of ["counts", "holes"] []
  f_judge_rows : Addr
  d_judge_rows : FuncData
  U_judge_rows : Fun K "judge_rows" "judge_rows" s_judge_rows f_judge_rows d_judge_rows
  g_judge_rows : mg "judge_rows" = some (.ref f_judge_rows)
  b_judge_rows : Binds K d_judge_rows ["counts", "holes"] []
  f_is_holes_for : Addr
  d_is_holes_for : FuncData
  U_is_holes_for : Fun K "is_holes_for" "is_holes_for" s_is_holes_for f_is_holes_for d_is_holes_for
  g_is_holes_for : mg "is_holes_for" = some (.ref f_is_holes_for)
  b_is_holes_for : Binds K d_is_holes_for ["counts", "thing"] []
  f_rows_certificates : Addr
  d_rows_certificates : FuncData
  U_rows_certificates : Fun K "rows_certificates" "rows_certificates" s_rows_certificates f_rows_certificates d_rows_certificates
  g_rows_certificates : mg "rows_certificates" = some (.ref f_rows_certificates)
  b_rows_certificates : Binds K d_rows_certificates ["counts", "holes"] []
  f_is_overfull : Addr
  d_is_overfull : FuncData
  U_is_overfull : Fun K "is_overfull" "is_overfull" s_is_overfull f_is_overfull d_is_overfull
  g_is_overfull : mg "is_overfull" = some (.ref f_is_overfull)
  b_is_overfull : Binds K d_is_overfull ["rests", "holes", "k"] []
  f_least_rests : Addr
  d_least_rests : FuncData
  U_least_rests : Fun K "least_rests" "least_rests" s_least_rests f_least_rests d_least_rests
  g_least_rests : mg "least_rests" = some (.ref f_least_rests)
  b_least_rests : Binds K d_least_rests ["counts"] []
  f_most_holes : Addr
  d_most_holes : FuncData
  U_most_holes : Fun K "most_holes" "most_holes" s_most_holes f_most_holes d_most_holes
  g_most_holes : mg "most_holes" = some (.ref f_most_holes)
  b_most_holes : Binds K d_most_holes ["counts"] []
  f_least_holes : Addr
  d_least_holes : FuncData
  U_least_holes : Fun K "least_holes" "least_holes" s_least_holes f_least_holes d_least_holes
  g_least_holes : mg "least_holes" = some (.ref f_least_holes)
  b_least_holes : Binds K d_least_holes ["counts"] []
  f_has_hole_row : Addr
  d_has_hole_row : FuncData
  U_has_hole_row : Fun K "has_hole_row" "has_hole_row" s_has_hole_row f_has_hole_row d_has_hole_row
  g_has_hole_row : mg "has_hole_row" = some (.ref f_has_hole_row)
  b_has_hole_row : Binds K d_has_hole_row ["counts", "thing"] []
  f_holes_with : Addr
  d_holes_with : FuncData
  U_holes_with : Fun K "holes_with" "holes_with" s_holes_with f_holes_with d_holes_with
  g_holes_with : mg "holes_with" = some (.ref f_holes_with)
  b_holes_with : Binds K d_holes_with ["counts", "rests"] []
  f_greatest_rests : Addr
  d_greatest_rests : FuncData
  U_greatest_rests : Fun K "greatest_rests" "greatest_rests" s_greatest_rests f_greatest_rests d_greatest_rests
  g_greatest_rests : mg "greatest_rests" = some (.ref f_greatest_rests)
  b_greatest_rests : Binds K d_greatest_rests ["counts", "least"] []
  f_least_rest : Addr
  d_least_rest : FuncData
  U_least_rest : Fun K "least_rest" "least_rest" s_least_rest f_least_rest d_least_rest
  g_least_rest : mg "least_rest" = some (.ref f_least_rest)
  b_least_rest : Binds K d_least_rest ["many", "size"] []
  f_l_deck : Addr
  d_l_deck : FuncData
  U_l_deck : Fun K "_law_deck" "_law_deck" s_l_deck f_l_deck d_l_deck
  g_l_deck : mg "_law_deck" = some (.ref f_l_deck)
  b_l_deck : Binds K d_l_deck ["script"] []
  f_l_draw : Addr
  d_l_draw : FuncData
  U_l_draw : Fun K "_law_draw" "_law_draw" s_l_draw f_l_draw d_l_draw
  g_l_draw : mg "_law_draw" = some (.ref f_l_draw)
  b_l_draw : Binds K d_l_draw ["deck", "below"] []
  f_l_pick : Addr
  d_l_pick : FuncData
  U_l_pick : Fun K "_law_pick" "_law_pick" s_l_pick f_l_pick d_l_pick
  g_l_pick : mg "_law_pick" = some (.ref f_l_pick)
  b_l_pick : Binds K d_l_pick ["deck", "some"] []
  f_l_is_integer : Addr
  d_l_is_integer : FuncData
  U_l_is_integer : Fun K "_law_is_integer" "_law_is_integer" s_l_is_integer f_l_is_integer d_l_is_integer
  g_l_is_integer : mg "_law_is_integer" = some (.ref f_l_is_integer)
  b_l_is_integer : Binds K d_l_is_integer ["thing"] []
  f_l_are_integers : Addr
  d_l_are_integers : FuncData
  U_l_are_integers : Fun K "_law_are_integers" "_law_are_integers" s_l_are_integers f_l_are_integers d_l_are_integers
  g_l_are_integers : mg "_law_are_integers" = some (.ref f_l_are_integers)
  b_l_are_integers : Binds K d_l_are_integers ["thing", "many"] []
  f_l_choose : Addr
  d_l_choose : FuncData
  U_l_choose : Fun K "_law_choose" "_law_choose" s_l_choose f_l_choose d_l_choose
  g_l_choose : mg "_law_choose" = some (.ref f_l_choose)
  b_l_choose : Binds K d_l_choose ["a", "b"] []
  f_l_top : Addr
  d_l_top : FuncData
  U_l_top : Fun K "_law_top" "_law_top" s_l_top f_l_top d_l_top
  g_l_top : mg "_law_top" = some (.ref f_l_top)
  b_l_top : Binds K d_l_top ["number", "size"] []
  f_l_cascade : Addr
  d_l_cascade : FuncData
  U_l_cascade : Fun K "_law_cascade" "_law_cascade" s_l_cascade f_l_cascade d_l_cascade
  g_l_cascade : mg "_law_cascade" = some (.ref f_l_cascade)
  b_l_cascade : Binds K d_l_cascade ["number", "size"] []
  f_l_lower_sets : Addr
  d_l_lower_sets : FuncData
  U_l_lower_sets : Fun K "_law_lower_sets" "_law_lower_sets" s_l_lower_sets f_l_lower_sets d_l_lower_sets
  g_l_lower_sets : mg "_law_lower_sets" = some (.ref f_l_lower_sets)
  b_l_lower_sets : Binds K d_l_lower_sets ["number", "size"] []
  f_l_rests : Addr
  d_l_rests : FuncData
  U_l_rests : Fun K "_law_rests" "_law_rests" s_l_rests f_l_rests d_l_rests
  g_l_rests : mg "_law_rests" = some (.ref f_l_rests)
  b_l_rests : Binds K d_l_rests ["counts", "holes"] []
  f_l_does_fit : Addr
  d_l_does_fit : FuncData
  U_l_does_fit : Fun K "_law_does_fit" "_law_does_fit" s_l_does_fit f_l_does_fit d_l_does_fit
  g_l_does_fit : mg "_law_does_fit" = some (.ref f_l_does_fit)
  b_l_does_fit : Binds K d_l_does_fit ["counts", "holes"] []
  f_l_below : Addr
  d_l_below : FuncData
  U_l_below : Fun K "_law_below" "_law_below" s_l_below f_l_below d_l_below
  g_l_below : mg "_law_below" = some (.ref f_l_below)
  b_l_below : Binds K d_l_below ["deck", "greatest"] []
  f_l_some_counts : Addr
  d_l_some_counts : FuncData
  U_l_some_counts : Fun K "_law_some_counts" "_law_some_counts" s_l_some_counts f_l_some_counts d_l_some_counts
  g_l_some_counts : mg "_law_some_counts" = some (.ref f_l_some_counts)
  b_l_some_counts : Binds K d_l_some_counts ["deck", "d", "greatest"] []
  f_l_least_holes : Addr
  d_l_least_holes : FuncData
  U_l_least_holes : Fun K "_law_least_holes" "_law_least_holes" s_l_least_holes f_l_least_holes d_l_least_holes
  g_l_least_holes : mg "_law_least_holes" = some (.ref f_l_least_holes)
  b_l_least_holes : Binds K d_l_least_holes ["counts", "least"] []
  f_l_is_least : Addr
  d_l_is_least : FuncData
  U_l_is_least : Fun K "_law_is_least" "_law_is_least" s_l_is_least f_l_is_least d_l_is_least
  g_l_is_least : mg "_law_is_least" = some (.ref f_l_is_least)
  b_l_is_least : Binds K d_l_is_least ["counts", "k", "c"] []
  f_law : Addr
  d_law : FuncData
  U_law : Fun K "law" "law" s_law f_law d_law
  g_law : mg "law" = some (.ref f_law)
  b_law : Binds K d_law ["script"] []
  t_MOST_COUNTS : Tok
  c_MOST_COUNTS : mg "MOST_COUNTS" = some (.int 16 t_MOST_COUNTS)
  n_all : mg "all" = none
  n_bool : mg "bool" = none
  n_enumerate : mg "enumerate" = none
  n_int : mg "int" = none
  n_isinstance : mg "isinstance" = none
  n_len : mg "len" = none
  n_max : mg "max" = none
  n_min : mg "min" = none
  n_range : mg "range" = none
  n_repr : mg "repr" = none
  n_reversed : mg "reversed" = none
  n_sum : mg "sum" = none
  n_tuple : mg "tuple" = none
  n_zip : mg "zip" = none
  comb : mg "comb" = some (.builtin "math.comb")
  c_greatest_top : Addr
  P_greatest_top : Addr
  cd_greatest_top : d_greatest_top.code = .ref c_greatest_top
theorem Txt.k_is_integer {K : PySem.W.Frag} {mg : Str → Option Value} (T : Txt K mg) : PySem.W.keepIn K (.ref T.f_is_integer) = true := T.U_is_integer.kp
theorem Txt.k_is_integer_from {K : PySem.W.Frag} {mg : Str → Option Value} (T : Txt K mg) : PySem.W.keepIn K (.ref T.f_is_integer_from) = true := T.U_is_integer_from.kp
theorem Txt.k_are_integers_from {K : PySem.W.Frag} {mg : Str → Option Value} (T : Txt K mg) : PySem.W.keepIn K (.ref T.f_are_integers_from) = true := T.U_are_integers_from.kp
theorem Txt.k_cascade_of {K : PySem.W.Frag} {mg : Str → Option Value} (T : Txt K mg) : PySem.W.keepIn K (.ref T.f_cascade_of) = true := T.U_cascade_of.kp
theorem Txt.k_lower_sets {K : PySem.W.Frag} {mg : Str → Option Value} (T : Txt K mg) : PySem.W.keepIn K (.ref T.f_lower_sets) = true := T.U_lower_sets.kp
theorem Txt.k_check_number {K : PySem.W.Frag} {mg : Str → Option Value} (T : Txt K mg) : PySem.W.keepIn K (.ref T.f_check_number) = true := T.U_check_number.kp
theorem Txt.k_check_size {K : PySem.W.Frag} {mg : Str → Option Value} (T : Txt K mg) : PySem.W.keepIn K (.ref T.f_check_size) = true := T.U_check_size.kp
theorem Txt.k_greatest_top {K : PySem.W.Frag} {mg : Str → Option Value} (T : Txt K mg) : PySem.W.keepIn K (.ref T.f_greatest_top) = true := T.U_greatest_top.kp
theorem Txt.k_greatest_within {K : PySem.W.Frag} {mg : Str → Option Value} (T : Txt K mg) : PySem.W.keepIn K (.ref T.f_greatest_within) = true := T.U_greatest_within.kp
theorem Txt.k_moved_sum {K : PySem.W.Frag} {mg : Str → Option Value} (T : Txt K mg) : PySem.W.keepIn K (.ref T.f_moved_sum) = true := T.U_moved_sum.kp
theorem Txt.k_is_counts {K : PySem.W.Frag} {mg : Str → Option Value} (T : Txt K mg) : PySem.W.keepIn K (.ref T.f_is_counts) = true := T.U_is_counts.kp
theorem Txt.k_judge_counts {K : PySem.W.Frag} {mg : Str → Option Value} (T : Txt K mg) : PySem.W.keepIn K (.ref T.f_judge_counts) = true := T.U_judge_counts.kp
theorem Txt.k_check_counts {K : PySem.W.Frag} {mg : Str → Option Value} (T : Txt K mg) : PySem.W.keepIn K (.ref T.f_check_counts) = true := T.U_check_counts.kp
theorem Txt.k_check_some_counts {K : PySem.W.Frag} {mg : Str → Option Value} (T : Txt K mg) : PySem.W.keepIn K (.ref T.f_check_some_counts) = true := T.U_check_some_counts.kp
theorem Txt.k_check_fit {K : PySem.W.Frag} {mg : Str → Option Value} (T : Txt K mg) : PySem.W.keepIn K (.ref T.f_check_fit) = true := T.U_check_fit.kp
theorem Txt.k_counts_certificates {K : PySem.W.Frag} {mg : Str → Option Value} (T : Txt K mg) : PySem.W.keepIn K (.ref T.f_counts_certificates) = true := T.U_counts_certificates.kp
theorem Txt.k_rests_of {K : PySem.W.Frag} {mg : Str → Option Value} (T : Txt K mg) : PySem.W.keepIn K (.ref T.f_rests_of) = true := T.U_rests_of.kp
theorem Txt.k_judge_rows {K : PySem.W.Frag} {mg : Str → Option Value} (T : Txt K mg) : PySem.W.keepIn K (.ref T.f_judge_rows) = true := T.U_judge_rows.kp
theorem Txt.k_is_holes_for {K : PySem.W.Frag} {mg : Str → Option Value} (T : Txt K mg) : PySem.W.keepIn K (.ref T.f_is_holes_for) = true := T.U_is_holes_for.kp
theorem Txt.k_rows_certificates {K : PySem.W.Frag} {mg : Str → Option Value} (T : Txt K mg) : PySem.W.keepIn K (.ref T.f_rows_certificates) = true := T.U_rows_certificates.kp
theorem Txt.k_is_overfull {K : PySem.W.Frag} {mg : Str → Option Value} (T : Txt K mg) : PySem.W.keepIn K (.ref T.f_is_overfull) = true := T.U_is_overfull.kp
theorem Txt.k_least_rests {K : PySem.W.Frag} {mg : Str → Option Value} (T : Txt K mg) : PySem.W.keepIn K (.ref T.f_least_rests) = true := T.U_least_rests.kp
theorem Txt.k_most_holes {K : PySem.W.Frag} {mg : Str → Option Value} (T : Txt K mg) : PySem.W.keepIn K (.ref T.f_most_holes) = true := T.U_most_holes.kp
theorem Txt.k_least_holes {K : PySem.W.Frag} {mg : Str → Option Value} (T : Txt K mg) : PySem.W.keepIn K (.ref T.f_least_holes) = true := T.U_least_holes.kp
theorem Txt.k_has_hole_row {K : PySem.W.Frag} {mg : Str → Option Value} (T : Txt K mg) : PySem.W.keepIn K (.ref T.f_has_hole_row) = true := T.U_has_hole_row.kp
theorem Txt.k_holes_with {K : PySem.W.Frag} {mg : Str → Option Value} (T : Txt K mg) : PySem.W.keepIn K (.ref T.f_holes_with) = true := T.U_holes_with.kp
theorem Txt.k_greatest_rests {K : PySem.W.Frag} {mg : Str → Option Value} (T : Txt K mg) : PySem.W.keepIn K (.ref T.f_greatest_rests) = true := T.U_greatest_rests.kp
theorem Txt.k_least_rest {K : PySem.W.Frag} {mg : Str → Option Value} (T : Txt K mg) : PySem.W.keepIn K (.ref T.f_least_rest) = true := T.U_least_rest.kp
theorem Txt.k_l_deck {K : PySem.W.Frag} {mg : Str → Option Value} (T : Txt K mg) : PySem.W.keepIn K (.ref T.f_l_deck) = true := T.U_l_deck.kp
theorem Txt.k_l_draw {K : PySem.W.Frag} {mg : Str → Option Value} (T : Txt K mg) : PySem.W.keepIn K (.ref T.f_l_draw) = true := T.U_l_draw.kp
theorem Txt.k_l_pick {K : PySem.W.Frag} {mg : Str → Option Value} (T : Txt K mg) : PySem.W.keepIn K (.ref T.f_l_pick) = true := T.U_l_pick.kp
theorem Txt.k_l_is_integer {K : PySem.W.Frag} {mg : Str → Option Value} (T : Txt K mg) : PySem.W.keepIn K (.ref T.f_l_is_integer) = true := T.U_l_is_integer.kp
theorem Txt.k_l_are_integers {K : PySem.W.Frag} {mg : Str → Option Value} (T : Txt K mg) : PySem.W.keepIn K (.ref T.f_l_are_integers) = true := T.U_l_are_integers.kp
theorem Txt.k_l_choose {K : PySem.W.Frag} {mg : Str → Option Value} (T : Txt K mg) : PySem.W.keepIn K (.ref T.f_l_choose) = true := T.U_l_choose.kp
theorem Txt.k_l_top {K : PySem.W.Frag} {mg : Str → Option Value} (T : Txt K mg) : PySem.W.keepIn K (.ref T.f_l_top) = true := T.U_l_top.kp
theorem Txt.k_l_cascade {K : PySem.W.Frag} {mg : Str → Option Value} (T : Txt K mg) : PySem.W.keepIn K (.ref T.f_l_cascade) = true := T.U_l_cascade.kp
theorem Txt.k_l_lower_sets {K : PySem.W.Frag} {mg : Str → Option Value} (T : Txt K mg) : PySem.W.keepIn K (.ref T.f_l_lower_sets) = true := T.U_l_lower_sets.kp
theorem Txt.k_l_rests {K : PySem.W.Frag} {mg : Str → Option Value} (T : Txt K mg) : PySem.W.keepIn K (.ref T.f_l_rests) = true := T.U_l_rests.kp
theorem Txt.k_l_does_fit {K : PySem.W.Frag} {mg : Str → Option Value} (T : Txt K mg) : PySem.W.keepIn K (.ref T.f_l_does_fit) = true := T.U_l_does_fit.kp
theorem Txt.k_l_below {K : PySem.W.Frag} {mg : Str → Option Value} (T : Txt K mg) : PySem.W.keepIn K (.ref T.f_l_below) = true := T.U_l_below.kp
theorem Txt.k_l_some_counts {K : PySem.W.Frag} {mg : Str → Option Value} (T : Txt K mg) : PySem.W.keepIn K (.ref T.f_l_some_counts) = true := T.U_l_some_counts.kp
theorem Txt.k_l_least_holes {K : PySem.W.Frag} {mg : Str → Option Value} (T : Txt K mg) : PySem.W.keepIn K (.ref T.f_l_least_holes) = true := T.U_l_least_holes.kp
theorem Txt.k_l_is_least {K : PySem.W.Frag} {mg : Str → Option Value} (T : Txt K mg) : PySem.W.keepIn K (.ref T.f_l_is_least) = true := T.U_l_is_least.kp
theorem Txt.k_law {K : PySem.W.Frag} {mg : Str → Option Value} (T : Txt K mg) : PySem.W.keepIn K (.ref T.f_law) = true := T.U_law.kp
section
variable {P : Program} {w : World} {K : PySem.W.Frag} {mg : Str → Option Value} {base : Heap}

def sp_isint : Sp := fun vs H Q _ => ∃ n : Int, vs = [.int n] ∧ Q (.bl true) H
theorem ok_is_integer (T : Txt K mg) : FnOk P w K mg base CX0 1 T.f_is_integer T.d_is_integer ["thing"] sp_isint := by
  refine T.U_is_integer.ok sc_is_integer (fun vs H Q E h => ?_) (fun cdv A outer s H vs Q E hr h => ?_)
  · obtain ⟨n, rfl, _⟩ := h
    rfl
  · obtain ⟨n, rfl, q⟩ := h
    refine ⟨_, (pss_one (ps_ret (pe_and (pe_callB call_isi (by rfl) T.n_isinstance (by decide +kernel) (pa_cons (pv 0) (pa_cons (pe_bltn (v := .ty "int") (u := .type "int") (by rfl) T.n_int (by decide +kernel) rfl) pa_nil))) (pe_one (pe_not (pe_callB call_isi (by rfl) T.n_isinstance (by decide +kernel) (pa_cons (pv 0) (pa_cons (pe_bltn (v := .ty "bool") (u := .type "bool") (by rfl) T.n_bool (by decide +kernel) rfl) pa_nil)))))))), ?_⟩
    refine ⟨_, rfl, _, _, _, _, true, rfl, .ty "int", .base (.int n), kit_ty (by decide +kernel), true, rfl, iteT ?_⟩
    exact ⟨_, rfl, _, _, _, _, false, rfl, .ty "bool", .base (.int n), kit_ty (by decide +kernel), false, rfl, q⟩
def sp_is_integer_from : Sp := fun vs H Q _ => ∃ n l : Int, vs = [.int n, .int l] ∧ Q (.bl (decide (l ≤ n))) H
theorem ok_is_integer_from (T : Txt K mg) : FnOk P w K mg base CX0 2 T.f_is_integer_from T.d_is_integer_from ["thing", "least"] sp_is_integer_from := by
  have F_is_integer := ok_is_integer (P := P) (w := w) (base := base) T
  refine T.U_is_integer_from.ok sc_is_integer_from (fun vs H Q E h => ?_) (fun cdv A outer s H vs Q E hr h => ?_)
  · obtain ⟨n, l, rfl, _⟩ := h
    rfl
  · obtain ⟨n, l, rfl, q⟩ := h
    refine ⟨_, (pss_one (ps_ret (pe_and (pe_call F_is_integer (hr.mono (by decide)) (by rfl) T.g_is_integer T.k_is_integer T.b_is_integer .nil pass0 (pa_cons (pv 0) pa_nil)) (pe_one (pe_cmpR op_ge (pv 0) (pv 1) (nomark _)))))), ?_⟩
    exact ⟨_, rfl, n, rfl, true, rfl, iteT ⟨_, rfl, _, rfl, _, _, rfl, rfl, q⟩⟩

def sp_check (least : Int) : Sp := fun vs H Q _ => ∃ n : Int, vs = [.int n] ∧ least ≤ n ∧ Q .non H
theorem ok_check_number (T : Txt K mg) : FnOk P w K mg base CX0 3 T.f_check_number T.d_check_number ["number"] (sp_check 0) := by
  have F_is_integer_from := ok_is_integer_from (P := P) (w := w) (base := base) T
  refine T.U_check_number.ok sc_check_number (fun vs H Q E h => ?_) (fun cdv A outer s H vs Q E hr h => ?_)
  · obtain ⟨n, rfl, _⟩ := h
    rfl
  · obtain ⟨n, rfl, hn, q⟩ := h
    refine ⟨_, (pss_one (ps_if (pt_not (pt_val (pe_call F_is_integer_from (hr.mono (by decide)) (by rfl) T.g_is_integer_from T.k_is_integer_from T.b_is_integer_from .nil pass0 (pa_cons (pv 0) (pa_cons pe_int pa_nil))))) (pss_one ps_never) pss_nil)), ?_⟩
    refine ⟨_, rfl, n, 0, rfl, _, rfl, ?_⟩
    rw [decide_eq_true hn]
    exact iteF q
theorem ok_check_size (T : Txt K mg) : FnOk P w K mg base CX0 3 T.f_check_size T.d_check_size ["size"] (sp_check 1) := by
  have F_is_integer_from := ok_is_integer_from (P := P) (w := w) (base := base) T
  refine T.U_check_size.ok sc_check_size (fun vs H Q E h => ?_) (fun cdv A outer s H vs Q E hr h => ?_)
  · obtain ⟨n, rfl, _⟩ := h
    rfl
  · obtain ⟨n, rfl, hn, q⟩ := h
    refine ⟨_, (pss_one (ps_if (pt_not (pt_val (pe_call F_is_integer_from (hr.mono (by decide)) (by rfl) T.g_is_integer_from T.k_is_integer_from T.b_is_integer_from .nil pass0 (pa_cons (pv 0) (pa_cons pe_int pa_nil))))) (pss_one ps_never) pss_nil)), ?_⟩
    refine ⟨_, rfl, n, 1, rfl, _, rfl, ?_⟩
    rw [decide_eq_true hn]
    exact iteF q

/-! the greatest top -/
theorem ch_more {s : Nat} (hs : 1 ≤ s) : ∀ l : Nat, l + 1 ≤ ch (s + l) s
  | 0 => by
    show 1 ≤ ch s s
    rw [ch_self]
    exact Nat.le_refl 1
  | l + 1 => by
    have ih := ch_more hs l
    obtain ⟨t, rfl⟩ : ∃ t, s = t + 1 := ⟨s - 1, by omega⟩
    have h1 := ch_pos (n := t + 1 + l) (k := t) (by omega)
    have e := ch_succ (t + 1 + l) t
    have e2 : t + 1 + (l + 1) = t + 1 + l + 1 := by omega
    rw [e2, e]
    omega
theorem ccomb {a b m : Nat} (h : a < 2 ^ m) (hb : b ≤ 20) (hm : 0 < m) (hm2 : m ≤ 5000) : CComb (a : Int) (b : Int) :=
  ⟨by omega, by omega, by omega, by rw [comb_nat]; exact ch_bits h hb hm hm2⟩
theorem comb_add (s h : Nat) : PySem.W.mcComb ((s : Int) + (h : Int)) (s : Int) = ((ch (s + h) s : Nat) : Int) := by
  rw [← Int.natCast_add]
  exact comb_nat _ _
theorem ccomb_add {s h N : Nat} (hs : s ≤ 17) (hN : N < 2 ^ 1900) (hh : h ≤ 2 * N + 2) : CComb ((s : Int) + (h : Int)) (s : Int) := by
  rw [← Int.natCast_add]
  refine ccomb (m := 1903) ?_ (by omega) (by decide) (by decide)
  have e : 2 ^ 1903 = 8 * 2 ^ 1900 := by exact Nat.pow_add 2 3 1900
  have h2 : 2 ^ 10 ≤ 2 ^ 1900 := Nat.pow_le_pow_right (by decide) (by decide)
  rw [e]
  generalize 2 ^ 1900 = z at *
  omega
/-- the greatest place by a growing count G from s on, the count told by tl -/
def TTw : V → V → (V → Hp → VK → Prop) → Hp → VK → Prop := fun v1 v2 tl H Q => ∃ (N s : Nat) (G : Nat → Nat), v1 = .int N ∧ v2 = .int s ∧ 1 ≤ N ∧ G 0 ≤ N ∧ (∀ x, x + 1 ≤ G x) ∧
  (∀ x, x ≤ 2 * N + 2 → ∀ Q' : VK, Q' (.int ((G x : Nat) : Int)) H → tl (.int ((s : Int) + (x : Int))) H Q') ∧ ∀ l : Nat, G l ≤ N → N < G (l + 1) → Q (.int ((s : Int) + (l : Int))) H
theorem within_to {X : Cx} (T : Txt X.K X.mg) (g : Addr) (cdg : Value) (q : Str) : Gives1 X ["number", "least", "count_at", "low", "high", "middle"] "greatest_within" (defScope s_greatest_within) g cdg (defBody s_greatest_within) "count_at" q TTw := by
  intro f c' s0 H Q v1 v2 tl act hr hc h
  obtain ⟨N, s, G, rfl, rfl, hN1, hG0, hG, htl, q⟩ := h
  refine ⟨_, (pss_cons (ps_set (i := 3) sc_greatest_within.nd rfl (.inl rfl) pe_int)
  (pss_cons (ps_set (i := 4) sc_greatest_within.nd rfl (.inl rfl) pe_int)
  (pss_cons (ps_while PassesOwn.never (pt_cmpR op_le (act _ _ _ _ (pa_cons (pe_op op_add (pv 1) (pv 4)) pa_nil) (fun _ => rfl)) (pv 0) (nomark _)) (pss_cons (ps_set (i := 3) sc_greatest_within.nd rfl (.inl rfl) (pv 4))
  (pss_one (ps_set (i := 4) sc_greatest_within.nd rfl (.inl rfl) (pe_op op_mul pe_int (pv 4))))))
  (pss_cons (ps_while PassesOwn.never (pt_cmpR op_gt (pe_op op_sub (pv 4) (pv 3)) pe_int (nomark _)) (pss_cons (ps_set (i := 5) sc_greatest_within.nd rfl (.inl rfl) (pe_op op_fdivN (pe_op op_add (pv 3) (pv 4)) pe_int))
  (pss_one (ps_if (pt_cmpR op_le (act _ _ _ _ (pa_cons (pe_op op_add (pv 1) (pv 5)) pa_nil) (fun _ => rfl)) (pv 0) (nomark _)) (pss_one (ps_set (i := 3) sc_greatest_within.nd rfl (.inl rfl) (pv 5))) (pss_one (ps_set (i := 4) sc_greatest_within.nd rfl (.inl rfl) (pv 5)))))))
  (pss_one (ps_ret (pe_op op_add (pv 1) (pv 3)))))))), ?_⟩
  refine ⟨fun m σ H' => ∃ l h : Nat, σ = [some (.int N), some (.int s), some (.ref f), some (.int l), some (.int h), none] ∧ H' = H ∧ m = 2 * N + 1 - h ∧ 1 ≤ h ∧ h ≤ 2 * N ∧ l < h ∧ G l ≤ N,
    ⟨_, 0, 1, rfl, rfl, rfl, by omega, by omega, by omega, hG0⟩, ?_⟩
  rintro m σ H' ⟨l, h, rfl, rfl, rfl, h1, h2, h3, h4⟩
  refine ⟨rfl, _, rfl, _, rfl, _, _, rfl, rfl, _, rfl, hc, htl h (by omega) _ ?_⟩
  refine ⟨_, rfl, _, _, rfl, rfl, _, rfl, ite2 (fun e => ?_) (fun e => ?_)⟩
  · have e' : G h ≤ N := by have := of_decide_eq_true e; omega
    have hm := hG h
    refine ⟨fun σ' H'' => ∃ l' h' : Nat, σ' = [some (.int N), some (.int s), some (.ref f), some (.int l'), some (.int h'), none] ∧ H'' = H' ∧ 1 ≤ h' ∧ h' ≤ 2 * N ∧ l' < h' ∧ G l' ≤ N ∧ h < h', ?_, ?_⟩
    · rintro σ' H'' ⟨l', h', rfl, rfl, g1, g2, g3, g4, g5⟩
      exact ⟨2 * N + 1 - h', by omega, l', h', rfl, rfl, rfl, g1, g2, g3, g4⟩
    · refine ⟨_, rfl, _, rfl, _, _, rfl, rfl, .inl ⟨by decide, by decide⟩, ?_⟩
      exact ⟨h, 2 * h, rfl, rfl, by omega, by omega, by omega, e', by omega⟩
  · have e' : N < G h := by
      by_cases z : G h ≤ N
      · exact absurd (decide_eq_true (by omega)) e
      · omega
    refine ⟨fun m σ H'' => ∃ (l' h' : Nat) (y : Option V), σ = [some (.int N), some (.int s), some (.ref f), some (.int l'), some (.int h'), y] ∧ H'' = H' ∧ m = h' - l' ∧ l' < h' ∧ h' ≤ 2 * N ∧ G l' ≤ N ∧ N < G h',
      ⟨_, l, h, none, rfl, rfl, rfl, h3, h2, h4, e'⟩, ?_⟩
    rintro m σ H'' ⟨l, h, y, rfl, rfl, rfl, g1, g2, g3, g4⟩
    refine ⟨_, rfl, _, rfl, _, _, rfl, rfl, _, _, rfl, rfl, _, rfl, ite2 (fun e => ?_) (fun e => ?_)⟩
    · have e2 : 1 < h - l := by have := of_decide_eq_true e; omega
      refine ⟨fun σ' H2 => ∃ (l' h' : Nat) (y : Option V), σ' = [some (.int N), some (.int s), some (.ref f), some (.int l'), some (.int h'), y] ∧ H2 = H'' ∧ l' < h' ∧ h' ≤ 2 * N ∧ G l' ≤ N ∧ N < G h' ∧ h' - l' < h - l, ?_, ?_⟩
      · rintro σ' H2 ⟨l', h', y', rfl, rfl, k1, k2, k3, k4, k5⟩
        exact ⟨h' - l', k5, l', h', y', rfl, rfl, rfl, k1, k2, k3, k4⟩
      · obtain ⟨c, hcc, hc1, hc2⟩ : ∃ c : Nat, ((l : Int) + (h : Int)).fdiv 2 = (c : Int) ∧ l < c ∧ c < h := by
          rw [Int.fdiv_eq_ediv_of_nonneg _ (by decide)]
          exact ⟨(l + h) / 2, by omega, by omega, by omega⟩
        refine ⟨_, rfl, _, rfl, _, _, rfl, rfl, _, _, rfl, rfl, ⟨by decide, by decide⟩, ?_⟩
        simp only [hcc]
        refine ⟨rfl, _, rfl, _, rfl, _, _, rfl, rfl, _, rfl, hc, htl c (by omega) _ ?_⟩
        refine ⟨_, rfl, _, _, rfl, rfl, _, rfl, ite2 (fun e3 => ?_) (fun e3 => ?_)⟩
        · have e4 : G c ≤ N := by have := of_decide_eq_true e3; omega
          exact ⟨_, rfl, c, h, _, rfl, rfl, hc2, g2, e4, g4, by omega⟩
        · have e4 : N < G c := by
            by_cases z : G c ≤ N
            · exact absurd (decide_eq_true (by omega)) e3
            · omega
          exact ⟨_, rfl, l, c, _, rfl, rfl, hc1, by omega, g3, e4, by omega⟩
    · have e2 : h = l + 1 := by
        by_cases z : 1 < h - l
        · exact absurd (decide_eq_true (by omega)) e
        · omega
      subst e2
      exact ⟨_, rfl, _, rfl, _, _, rfl, rfl, q l g3 g4⟩
theorem pe_within {X : Cx} (T : Txt X.K X.mg) {c P : Addr} {b : Str} {params : Arguments} {body e1 e2 : Expr} {scope : Scope} {t1 t2 tb : TE} {p lpos pos : Pos} (TB : TabB X.base X.mg c P) (hcode : X.env.code = .ref c) (hr : Room 2 X.A) (hg : Gl X "greatest_within") (L : LamS1 X.env.scope scope b) (hb : b ∉ X.N) (hdef : defaultsOf params X.env = ([], []))
    (h1 : PE X e1 t1) (h2 : PE X e2 t2) (hbind : ∀ (q : Str) (cl : List (Str × Addr)) (pm cv ctv u : Value), bindArgs (PySem.W.kla_fn "<lambda>" q params body scope cl pm cv ctv) ⟨[u], []⟩ = pure [(b, u)])
    (hbody : ∀ (A : Around) (outer : List Env) (s : Shared) (H : Hp) (E : XK) (f c' : Addr), Room 0 (A.deeper (lamEnv X scope s.heap.objs.size f c')) → PE (lamCx1 X A outer s H E scope f c' b) body tb)
    (he : starEach [e1, e2, .Lambda params body scope lpos] X.env = (false, eval e1 X.env) :: starEach [e2, .Lambda params body scope lpos] X.env := by rfl)
    (he2 : starEach [e2, .Lambda params body scope lpos] X.env = (false, eval e2 X.env) :: starEach [.Lambda params body scope lpos] X.env := by rfl)
    (hpl : (backTo pos (starEach [e2, .Lambda params body scope lpos] X.env)).any (·.1) = false := by rfl) :
    PE X (.Call (.Name "greatest_within" p) [e1, e2, .Lambda params body scope lpos] [] pos) (tLam1 [(P, X.env.qual ++ "<lambda>")] TTw t1 t2 tb) := by
  obtain ⟨oc, od, kV, doc, pm, an, cdv, ct, osl, efd, lk, hcd⟩ := T.U_greatest_within.ex
  have hbg := T.b_greatest_within
  rw [efd] at hbg lk
  exact pe_lamcall1 (k := 0) hg T.g_greatest_within T.k_greatest_within lk hcd hbg sc_greatest_within rfl (.inl rfl) (within_to T _ _ _) h1 h2 TB hcode (List.mem_singleton.mpr rfl) (fun p hp _ => by rw [List.mem_singleton.mp hp]) hr L hb hdef hbind hbody he he2 hpl
/-- the table of greatest_top's code objects -/
def topT (P0 : Addr) : List (Addr × Str) := [(P0, (("greatest_top" : Str) ++ ".<locals>.") ++ "<lambda>")]
def sp_greatest_top (P0 : Addr) : Sp := fun vs H Q _ => ∃ N s : Nat, vs = [.int N, .int s] ∧ 1 ≤ N ∧ N < 2 ^ 1900 ∧ 1 ≤ s ∧ s ≤ 17 ∧ Tabs (topT P0) H ∧ ∀ a : Nat, ch a s ≤ N → N < ch (a + 1) s → RetVk (topT P0) (.int a) H Q
theorem ok_greatest_top (T : Txt K mg) (TB : TabB base mg T.c_greatest_top T.P_greatest_top) : FnOk P w K mg base CX0 3 T.f_greatest_top T.d_greatest_top ["number", "size"] (sp_greatest_top T.P_greatest_top) := by
  refine okC T.U_greatest_top sc_greatest_top (fun vs H Q E h => ?_) (fun cdv A outer s H vs Q E hcd hr h => ?_)
  · obtain ⟨n, l, rfl, _⟩ := h
    rfl
  · obtain ⟨N, s, rfl, hN1, hN, hs1, hs, hT, q⟩ := h
    have hcode : cdv = .ref T.c_greatest_top := hcd.symm.trans T.cd_greatest_top
    have hr' := hr
    refine ⟨_, (pss_one (ps_ret (pe_within T TB hcode hr' (by rfl) (lam1_by (sc := defScope s_greatest_top) (by decide +kernel)) (show ("top" : Str) ∉ (["number", "size"] : List Str) by decide) rfl (pv 0) (pv 1) (fun _ _ _ _ _ _ => rfl) (fun A outer s H E f c' hr2 => pe_callBfun cr_comb (by rfl) T.comb (pa_cons (pe_var (i := 0) rfl (.inl rfl) (by decide) (by decide)) (pa_cons (pe_var (i := 2) rfl (.inr (.inr rfl)) (by decide) (by decide)) pa_nil)))))), ?_⟩
    refine ⟨_, rfl, _, rfl, hT, fun H3 e3 T3 => ?_⟩
    have ek : Ek (topT T.P_greatest_top) H H3 := ⟨e3, fun _ => T3⟩
    refine ⟨N, s, fun x => ch (s + x) s, rfl, rfl, hN1, ?_, ch_more hs1, fun x hx Q' q' => ?_, fun l h1 h2 => ?_⟩
    · show ch (s + 0) s ≤ N
      rw [Nat.add_zero, ch_self]
      exact hN1
    · refine ⟨_, rfl, _, rfl, _, _, rfl, ccomb_add hs hN hx, ?_⟩
      rw [comb_add]
      exact q'
    · have := q (s + l) h1 h2 H3 ek
      rw [Int.natCast_add] at this
      exact this
end
end K34

namespace K34
open PySem PySem.Spec PyProof.Rows L2 Hr HrM Evl LamX
section
variable {P : Program} {w : World} {K : PySem.W.Frag} {mg : Str → Option Value} {base : Heap}
theorem top_lt {a p r : Nat} (hp : 1 ≤ p) (h : ch a p ≤ r) (hr : 1 ≤ r) : a < p + r := by
  by_cases z : p ≤ a
  · have := ch_more hp (a - p)
    rw [show p + (a - p) = a by omega] at this
    omega
  · omega
theorem big_pow {r : Nat} (h : r < 2 ^ 1900) (k : Nat) (hk : k ≤ 1000) : r + k < 2 ^ 1910 := by
  have e : 2 ^ 1910 = 1024 * 2 ^ 1900 := Nat.pow_add 2 10 1900
  have h2 : 2 ^ 10 ≤ 2 ^ 1900 := Nat.pow_le_pow_right (by decide) (by decide)
  rw [e]
  generalize 2 ^ 1900 = z at *
  omega
def tz (xs : List Nat) : List V := (iz xs).map V.int
theorem tz_len (xs : List Nat) : (tz xs).length = xs.length := by unfold tz; rw [List.length_map, iz_len]
theorem tz_get (xs : List Nat) (i : Nat) : (tz xs)[i]? = Option.map (fun (n : Nat) => V.int (n : Int)) xs[i]? := by
  unfold tz
  rw [List.getElem?_map, iz_get, Option.map_map]
  rfl
theorem tz_snoc (xs : List Nat) (a : Nat) : tz (xs ++ [a]) = tz xs ++ [.int a] := by
  unfold tz
  rw [iz_append, List.map_append]
  rfl
theorem tz_at {xs : List Nat} {i : Nat} {x : V} (h : (tz xs)[i]? = some x) : ∃ a : Nat, xs[i]? = some a ∧ x = .int (a : Int) := by
  rw [tz_get] at h
  cases e : xs[i]? with
  | none => rw [e] at h; cases h
  | some a => rw [e] at h; cases h; exact ⟨a, rfl, rfl⟩
theorem tz_range (ts : List Nat) {n : Nat} (hn : n = ts.length) : (List.range n).map (fun i => V.int ((ts.getD i 0 : Nat) : Int)) = tz ts := by
  subst hn
  apply List.ext_getElem?
  intro i
  rw [List.getElem?_map, tz_get]
  by_cases hi : i < ts.length
  · rw [List.getElem?_range hi, List.getElem?_eq_getElem hi]
    have : ts.getD i 0 = ts[i] := by rw [List.getD_eq_getElem?_getD, List.getElem?_eq_getElem hi]; rfl
    show some (V.int ((ts.getD i 0 : Nat) : Int)) = some (V.int ((ts[i] : Nat) : Int))
    rw [this]
  · rw [List.getElem?_eq_none (by rw [List.length_range]; omega), List.getElem?_eq_none (by omega)]
    rfl
/-- a def that hands back a new tuple: what its caller wants -/
def RetT (xs : List V) (H : Hp) (Q : VK) : Prop := ∀ p H2, H p = none → Ex H H2 → H2 p = some (.tup xs) → Q (.ref p) H2
def sp_cascade_of (P0 : Addr) : Sp := fun vs H Q _ => ∃ N s : Nat, vs = [.int N, .int s] ∧ N < 2 ^ 1900 ∧ 1 ≤ s ∧ s ≤ 17 ∧ Tabs (topT P0) H ∧ ∀ xs, Cas s xs → val s xs = N → RetTk (topT P0) (tz xs) H Q
theorem ok_cascade_of (T : Txt K mg) (TB : TabB base mg T.c_greatest_top T.P_greatest_top) : FnOk P w K mg base CX0 4 T.f_cascade_of T.d_cascade_of ["number", "size"] (sp_cascade_of T.P_greatest_top) := by
  have F_check_number := ok_check_number (P := P) (w := w) (base := base) T
  have F_check_size := ok_check_size (P := P) (w := w) (base := base) T
  have F_greatest_top := ok_greatest_top (P := P) (w := w) (base := base) T TB
  refine T.U_cascade_of.ok sc_cascade_of (fun vs H Q E h => ?_) (fun cdv A outer s H vs Q E hr h => ?_)
  · obtain ⟨n, l, rfl, _⟩ := h
    rfl
  · obtain ⟨N, s, rfl, hN, hs1, hs, hT, q⟩ := h
    refine ⟨_, (pss_cons (ps_expr (pe_call F_check_number (hr.mono (by decide)) (by rfl) T.g_check_number T.k_check_number T.b_check_number .nil pass0 (pa_cons (pv 0) pa_nil)))
  (pss_cons (ps_expr (pe_call F_check_size (hr.mono (by decide)) (by rfl) T.g_check_size T.k_check_size T.b_check_size .nil pass0 (pa_cons (pv 1) pa_nil)))
  (pss_cons (ps_set (i := 2) sc_cascade_of.nd rfl (.inl rfl) (pe_lst pa_nil))
  (pss_cons (ps_set (i := 3) sc_cascade_of.nd rfl (.inl rfl) (pv 0))
  (pss_cons (ps_set (i := 4) sc_cascade_of.nd rfl (.inl rfl) (pv 1))
  (pss_cons (ps_while PassesOwn.never (pt_cmpR op_gt (pv 3) pe_int (nomark _)) (pss_cons (ps_set (i := 5) sc_cascade_of.nd rfl (.inl rfl) (pe_call F_greatest_top (hr.mono (by decide)) (by rfl) T.g_greatest_top T.k_greatest_top T.b_greatest_top .nil pass0 (pa_cons (pv 3) (pa_cons (pv 4) pa_nil))))
  (pss_cons (ps_expr (pe_bm PySem.F.plainAttrs_list PySem.F.slot_list_append PySem.F.type_list_append mt_append (pv 2) (pa_cons (pv 5) pa_nil)))
  (pss_cons (ps_set (i := 3) sc_cascade_of.nd rfl (.inl rfl) (pe_op op_sub (pv 3) (pe_callBfun cr_comb (by rfl) T.comb (pa_cons (pv 5) (pa_cons (pv 4) pa_nil)))))
  (pss_one (ps_set (i := 4) sc_cascade_of.nd rfl (.inl rfl) (pe_op op_sub (pv 4) pe_int)))))))
  (pss_one (ps_ret (pe_callTy call_tuple_of (by rfl) T.n_tuple (by decide +kernel) (pa_cons (pv 2) pa_nil)))))))))), ?_⟩
    refine ⟨_, rfl, _, rfl, by omega, _, rfl, _, rfl, by omega, ?_⟩
    refine ⟨Nat.zero_le _, fun o no => ⟨_, rfl, _, rfl, ?_⟩⟩
    refine ⟨fun m σ H' => ∃ (xs : List Nat) (r p : Nat) (y : Option V), σ = [some (.int N), some (.int s), some (.ref o), some (.int r), some (.int p), y] ∧ Cas s xs ∧ xs.length + p = s ∧ val s xs + r = N ∧ (∀ b, xs.getLast? = some b → r < ch b p) ∧ Ek (topT T.P_greatest_top) H H' ∧ H' o = some (.lst (tz xs)) ∧ m = p,
      ⟨_, [], N, s, none, rfl, Cas.nil s, Nat.zero_add s, Nat.zero_add N, fun b h => (nomatch h), Ek.new no, upd_same, rfl⟩, ?_⟩
    rintro m σ H' ⟨xs, r, p, y, rfl, c, h1, h2, h3, ex, ho, rfl⟩
    refine ⟨_, rfl, _, _, rfl, rfl, _, rfl, ite2 (fun e => ?_) (fun e => ?_)⟩
    · have hr0 : 1 ≤ r := by have := of_decide_eq_true e; omega
      have hp : 1 ≤ m := by
        by_cases z : m = 0
        · subst z
          cases hx : xs.getLast? with
          | none =>
            rw [List.getLast?_eq_none_iff] at hx
            subst hx
            simp at h1
            omega
          | some b =>
            have := h3 b hx
            rw [ch_zero] at this
            omega
        · omega
      refine ⟨fun σ' H2 => ∃ (xs : List Nat) (r p : Nat) (y : Option V), σ' = [some (.int N), some (.int s), some (.ref o), some (.int r), some (.int p), y] ∧ Cas s xs ∧ xs.length + p = s ∧ val s xs + r = N ∧ (∀ b, xs.getLast? = some b → r < ch b p) ∧ Ek (topT T.P_greatest_top) H H2 ∧ H2 o = some (.lst (tz xs)) ∧ p < m, ?_, ?_⟩
      · rintro σ' H2 ⟨xs', r', p', y', rfl, c', k1, k2, k3, k4, k5, k6⟩
        exact ⟨p', k6, xs', r', p', y', rfl, c', k1, k2, k3, k4, k5, rfl⟩
      · refine ⟨_, rfl, _, rfl, r, m, rfl, hr0, by omega, hp, by omega, ex.t hT, fun a ha1 ha2 H4 e4 => ?_⟩
        replace ho := e4.get ho
        replace ex := ex.trans e4
        obtain ⟨c2, hlt⟩ := cas_add c h1 hp hr0 h3 ha1 ha2
        refine ⟨_, rfl, .inl ⟨rfl, _, SqL.of ho⟩, _, rfl, o, _, _, rfl, rfl, ho, ?_, ?_⟩
        · rw [tz_len]
          exact small1000 (by omega)
        · have hal := top_lt hp ha1 hr0
          have hbig := big_pow (show r < 2 ^ 1900 by omega) m (by omega)
          refine ⟨_, rfl, _, rfl, _, rfl, (a : Int), (m : Int), rfl, ccomb (m := 1910) (by omega) (by omega) (by decide) (by decide), _, _, rfl, rfl, ?_⟩
          refine ⟨_, rfl, _, _, rfl, rfl, xs ++ [a], r - ch a m, m - 1, some (.int a), ?_, c2, ?_, ?_, ?_, Ek.mutL ex no ho, ?_, by omega⟩
          · rw [comb_nat]
            have e1 : ((r : Int) - ((ch a m : Nat) : Int)) = ((r - ch a m : Nat) : Int) := by omega
            have e2 : ((m : Int) - 1) = ((m - 1 : Nat) : Int) := by omega
            rw [← e1, ← e2]
            rfl
          · rw [List.length_append, List.length_singleton]
            omega
          · rw [val_snoc, show s - xs.length = m by omega]
            omega
          · intro b hb
            rw [List.getLast?_append] at hb
            have : a = b := by simpa using hb
            subst this
            exact hlt
          · rw [tz_snoc]
            exact upd_same
    · have hr0 : r = 0 := by
        by_cases z : 0 < r
        · exact absurd (decide_eq_true (by omega)) e
        · omega
      subst hr0
      refine ⟨_, rfl, o, _, rfl, .inl ⟨SqL.of ho, fun l hl => ?_⟩⟩
      exact q xs c (by omega) l _ (ex.trans (Ek.new hl)) upd_same

def sp_moved_sum : Sp := fun vs H Q _ => ∃ (s : Nat) (c : Addr) (xs : List Nat) (mt ms : Int) (A I : Nat → Nat), vs = [.int s, .ref c, .int mt, .int ms] ∧ H c = some (.tup (tz xs)) ∧ xs.length ≤ s ∧ s ≤ 17 ∧
  (∀ (i a : Nat), xs[i]? = some a → (a : Int) + mt = ((A a : Nat) : Int) ∧ ((s : Int) - (i : Int)) + ms = ((I (s - i) : Nat) : Int) ∧ A a < 2 ^ 2000 ∧ I (s - i) ≤ 20) ∧ RetV (.int (((terms (fun a i => ch (A a) (I i)) s xs).sum : Nat) : Int)) H Q
theorem ok_moved_sum (T : Txt K mg) : FnOk P w K mg base CX0 2 T.f_moved_sum T.d_moved_sum ["size", "cascade", "more_things", "more_size"] sp_moved_sum := by
  refine T.U_moved_sum.ok sc_moved_sum (fun vs H Q E h => ?_) (fun cdv A outer s H vs Q E hr h => ?_)
  · obtain ⟨_, _, _, _, _, _, _, rfl, _⟩ := h
    rfl
  · obtain ⟨s, c, xs, mt, ms, A, I, rfl, hc, hl, hs, hx, q⟩ := h
    refine ⟨_, (pss_one (ps_ret (pe_callB (cr_sum rfl) (by rfl) T.n_sum (by decide +kernel) (pa_cons (pe_lc (own := [("k", 4), ("top", 5)]) (g := gTup K 2 (gCons (gName 4) (gCons (gName 5) (gNil)))) (tt := tYes) rfl sc_moved_sum.nd (pi_enumT (by rfl) T.n_enumerate (pa_cons (pv 1) pa_nil)) (blkOk_by (own := [("k", 4), ("top", 5)]) (N := ["size", "cascade", "more_things", "more_size", "k", "top"]) (sc := defScope s_moved_sum) (by decide +kernel)) (fun _ _ _ _ _ => pg_tup rfl (pgs_cons (pg_name (i := 4) sc_moved_sum.nd rfl (Or.inl rfl)) (pgs_cons (pg_name (i := 5) sc_moved_sum.nd rfl (Or.inl rfl)) pgs_nil))) (fun _ _ _ _ _ => pts_nil) (fun _ _ _ _ _ => (pe_callBfun cr_comb (by rfl) T.comb (pa_cons (pe_op op_add (pv 5) (pv 2)) (pa_cons (pe_op op_add (pe_op op_sub (pv 0) (pv 4)) (pv 3)) pa_nil))))) pa_nil)))), ?_⟩
    refine r_ret (r_cb (r_arg ?_))
    refine el_lcW (H := H) (walk_enumT (a := c) (xs := tz xs)) (fun _ => true) (fun i => .int (((terms (fun a i => ch (A a) (I i)) s xs).getD i 0 : Nat) : Int)) (by rw [tz_len]; omega)
      (fun H1 e R k => ⟨_, rfl, c, tz xs, rfl, SqT.of (e _ _ hc), k H1 (Ex.refl H1)⟩) (fun H1 e => SqT.of (e _ _ hc)) ?_ ?_ H (Ex.refl H) _ ?_
    · rintro i H1 x H2 ⟨T, _, _, rfl, nT, rfl, _, _⟩
      exact Ex.new nT
    · rintro i x H1 H2 hi e ⟨T, x1, x2, rfl, nT, rfl, e1, e2⟩
      cases e1
      obtain ⟨a, ha, rfl⟩ := tz_at e2
      obtain ⟨g1, g2, g3, g4⟩ := hx i a ha
      refine ⟨[some (.int s), some (.ref c), some (.int mt), some (.int ms), some (.int i), some (.int a)], fun k hk => ?_, rfl, et_yes, fun _ => ?_⟩
      · exact ⟨T, [.int i, .int a], rfl, .inl (.inl upd_same), rfl, _, _, rfl, _, _, rfl, rfl, hk⟩
      · intro H3 e3 Q3 q3
        refine ⟨_, rfl, _, rfl, _, _, rfl, rfl, _, rfl, _, rfl, _, _, rfl, rfl, _, rfl, _, _, rfl, rfl, _, _, rfl, ?_, ?_⟩
        · rw [g1, g2]
          exact ccomb (m := 2000) g3 g4 (by decide) (by decide)
        · rw [g1, g2, comb_nat]
          have e5 : (terms (fun a i => ch (A a) (I i)) s xs).getD i 0 = ch (A a) (I (s - i)) := by
            rw [List.getD_eq_getElem?_getD, terms_get, ha]
            rfl
          rw [e5] at q3
          exact q3 H3 (Ex.refl H3)
    · intro p H2 np e hp
      rw [given_all] at hp
      rw [tz_range _ (by rw [terms_len, tz_len])] at hp
      refine ⟨p, iz (terms (fun a i => ch (A a) (I i)) s xs), rfl, SqL.of hp, ?_⟩
      rw [iz_sum]
      exact q H2 e
end
end K34

namespace K34
open PySem PySem.Spec PyProof.Rows L2 Hr HrM Evl
section
variable {P : Program} {w : World} {K : PySem.W.Frag} {mg : Str → Option Value} {base : Heap}
def sp_draw : Sp := fun vs H Q _ => ∃ (G : Hp) (d : Addr) (m : Int), vs = [.ref d, .int m] ∧ 1 ≤ m ∧ m ≤ 1000000 ∧ Dk G d H ∧ ∀ (r : Int) (H' : Hp), 0 ≤ r → r < m → Dk G d H' → Q (.int r) H'
theorem ok_draw (T : Txt K mg) : FnOk P w K mg base CX0 2 T.f_l_draw T.d_l_draw ["deck", "below"] sp_draw := by
  refine T.U_l_draw.ok sc_l_draw (fun vs H Q E h => ?_) (fun cdv A outer s H vs Q E hr h => ?_)
  · obtain ⟨_, _, _, rfl, _⟩ := h
    rfl
  · obtain ⟨G, d, m, rfl, hm1, hm2, ⟨c, cells, mx, n, k⟩, q⟩ := h
    refine ⟨_, (pss_cons (ps_dput (hu_of hr) (pv 0) pe_str (pe_op op_add (pe_dget (hu_of hr) (pv 0) pe_str (fun _ _ => rfl)) pe_int) rfl)
  (pss_cons (ps_set (i := 2) sc_l_draw.nd rfl (.inl rfl) (pe_op op_add (pe_dget (hu_of hr) (pv 0) pe_str (fun _ _ => rfl)) (pe_op op_mul pe_int (pe_dget (hu_of hr) (pv 0) pe_str (fun _ _ => rfl)))))
  (pss_cut (ps_if (pt_cmpR (op_neD hr.units) (pe_dget (hu_of hr) (pv 0) pe_str (fun _ _ => rfl)) (pe_lst pa_nil) (nomark _)) (pss_cons (ps_set (i := 3) sc_l_draw.nd rfl (.inl rfl) (pe_bm0 PySem.F.plainAttrs_list PySem.F.slot_list_pop PySem.F.type_list_pop mt_pop (pe_dget (hu_of hr) (pv 0) pe_str (fun _ _ => rfl))))
  (pss_cons (ps_if (pt_cmpR op_ge (pv 3) (pe_op op_pow pe_int pe_int) (nomark _)) (pss_cons (ps_expr (pe_bm PySem.F.plainAttrs_list PySem.F.slot_list_append PySem.F.type_list_append mt_append (pe_dget (hu_of hr) (pv 0) pe_str (fun _ _ => rfl)) (pa_cons (pe_op op_fdivN (pv 3) (pe_callB (call_max2 rfl) (by rfl) T.n_max (by decide +kernel) (pa_cons pe_int (pa_cons (pv 1) pa_nil)))) pa_nil)))
  (pss_one (ps_ret (pe_op op_modN (pe_callTy call_int1 (by rfl) T.n_int (by decide +kernel) (pa_cons (pv 3) pa_nil)) (pv 1))))) pss_nil)
  (pss_one (ps_set (i := 2) sc_l_draw.nd rfl (.inl rfl) (pe_op op_add (pv 2) (pe_op op_modN (pe_callTy call_int1 (by rfl) T.n_int (by decide +kernel) (pa_cons (pv 3) pa_nil)) pe_int)))))) pss_nil)
  (pss_cut (ps_set (i := 2) sc_l_draw.nd rfl (.inl rfl) (pe_op op_modN (pe_callTy call_int1 (by rfl) T.n_int (by decide +kernel) (pa_cons (pe_op op_add (pe_op op_mul (pv 2) pe_int) pe_int) pa_nil)) pe_int))
  (pss_cons (ps_set (i := 2) sc_l_draw.nd rfl (.inl rfl) (pe_op op_modN (pe_callTy call_int1 (by rfl) T.n_int (by decide +kernel) (pa_cons (pe_op op_add (pe_op op_add (pe_op op_mul (pv 2) (pv 2)) (pe_op op_mul pe_int (pe_dget (hu_of hr) (pv 0) pe_str (fun _ _ => rfl)))) pe_int) pa_nil)) pe_int))
  (pss_cons (ps_set (i := 2) sc_l_draw.nd rfl (.inl rfl) (pe_op op_modN (pe_callTy call_int1 (by rfl) T.n_int (by decide +kernel) (pa_cons (pe_op op_mul (pv 2) pe_int) pa_nil)) pe_int))
  (pss_one (ps_ret (pe_op op_modN (pe_callTy call_int1 (by rfl) T.n_int (by decide +kernel) (pa_cons (pe_op op_fdivN (pv 2) pe_int) pa_nil)) (pv 1)))))))))), ?_⟩
    -- deck['draws'] = deck['draws'] + 1
    refine ⟨_, rfl, d, _, rfl, k.gdraws, _, _, rfl, rfl, _, rfl, d, _, rfl, k.pdraws, ?_⟩
    have k1 := k.draw (n' := n + 1)
    -- number = ..
    refine ⟨_, rfl, d, _, rfl, k1.gmixed, _, rfl, d, _, rfl, k1.gdraws, _, _, rfl, rfl, .inl ⟨by decide, by decide⟩, _, _, rfl, rfl, ?_⟩
    refine ⟨fun σ' H' => ∃ (z : Int) (y : Option V), σ' = [some (.ref d), some (.int m), some (.int z), y] ∧ Dk G d H', ?_, ?_⟩
    · -- if deck['cells'] != []
      refine ⟨_, rfl, d, _, rfl, k1.gcells, Nat.zero_le _, fun e ne => ?_⟩
      have k2 := k1.new (o := .lst []) ne
      refine ⟨izD cells, izD [], izD_dp (SqL.of k2.hc), izD_dp (xs := []) (SqL.of upd_same), izD_shaped _, izD_shaped _, _, rfl, ?_⟩
      rw [izD_eqv_nil]
      cases hx : cells with
      | nil =>
        refine iteF ⟨_, none, rfl, c, cells, mx, n + 1, k2⟩
      | cons x0 xs0 =>
        rw [← hx]
        have he : (!cells.isEmpty) = true := by rw [hx]; rfl
        rw [he]
        have hpos : cells.length ≠ 0 := by rw [hx]; exact Nat.succ_ne_zero _
        refine iteT ?_
        obtain ⟨x, hlast⟩ : ∃ x, cells[cells.length - 1]? = some x := ⟨_, List.getElem?_eq_getElem (by omega)⟩
        have k3 := k2.cell (xs := cells.dropLast) (by rw [List.length_dropLast]; have := k2.len; omega)
        refine ⟨_, rfl, d, _, rfl, k2.gcells, .inl ⟨rfl, _, SqL.of k2.hc⟩, c, _, .int x, rfl, rfl, k2.hc, ?_, ?_⟩
        · rw [List.length_map, List.getElem?_map, hlast]
          rfl
        rw [← List.map_dropLast]
        -- if cell >= 10 ** 18
        refine ⟨_, rfl, _, _, rfl, rfl, ⟨by decide, by decide, by decide⟩, _, _, rfl, rfl, _, rfl, ite2 (fun _ => ?_) (fun _ => ?_)⟩
        · refine ⟨_, rfl, d, _, rfl, k3.gcells, .inl ⟨rfl, _, SqL.of k3.hc⟩, _, rfl, _, rfl, _, _, rfl, _, _, rfl, rfl, ?_, c, _, _, rfl, rfl, k3.hc, ?_, ?_⟩
          · constructor
            · split <;> omega
            · split <;> omega
          · rw [List.length_map, List.length_dropLast]
            exact small1000 (by have := k2.len; omega)
          · have k4 : DkC G d c (cells.dropLast ++ [x.fdiv (if m > 2 then m else 2)]) mx (n + 1) _ := k3.cell (by rw [List.length_append, List.length_singleton, List.length_dropLast]; have := k2.len; omega)
            rw [List.map_append] at k4
            refine ⟨_, rfl, .inl ⟨_, rfl, _, rfl, _, _, rfl, rfl, by show m ≠ 0; omega, ?_⟩⟩
            exact q _ _ (Int.fmod_nonneg_of_pos _ (by omega)) (Int.fmod_lt_of_pos _ (by omega)) ⟨c, _, mx, n + 1, k4⟩
        · refine ⟨_, rfl, _, rfl, .inl ⟨_, rfl, _, _, rfl, rfl, by simp, _, _, rfl, rfl, _, _, rfl, ?_⟩⟩
          exact ⟨c, _, mx, n + 1, k3⟩
    · rintro σ' H' ⟨z, y, rfl, c, cells, mx, n, k⟩
      refine ⟨fun σ' H' => ∃ v : Int, 0 ≤ v ∧ v < 2147483543 ∧ σ' = [some (.ref d), some (.int m), some (.int v), y] ∧ Dk G d H', ?_, ?_⟩
      · refine ⟨_, rfl, _, _, rfl, rfl, .inr ⟨by decide, by decide⟩, _, _, rfl, rfl, .inl ⟨_, rfl, _, _, rfl, rfl, by simp, ?_⟩⟩
        exact ⟨_, Int.fmod_nonneg_of_pos _ (by decide), Int.fmod_lt_of_pos _ (by decide), rfl, c, cells, mx, n, k⟩
      rintro σ' H' ⟨v, hv0, hv1, rfl, c, cells, mx, n, k⟩
      refine ⟨_, rfl, _, rfl, _, _, rfl, rfl, .inl ⟨by omega, by omega⟩, _, rfl, d, _, rfl, k.gdraws, _, _, rfl, rfl, .inl ⟨by decide, by decide⟩, _, _, rfl, rfl, _, _, rfl, rfl, .inl ⟨_, rfl, _, _, rfl, rfl, by simp, ?_⟩⟩
      refine ⟨_, rfl, _, _, rfl, rfl, .inr ⟨by decide, by decide⟩, .inl ⟨_, rfl, _, _, rfl, rfl, by simp, ?_⟩⟩
      refine ⟨_, rfl, _, _, rfl, rfl, ⟨by decide, by decide⟩, .inl ⟨_, rfl, _, rfl, _, _, rfl, rfl, by show m ≠ 0; omega, ?_⟩⟩
      exact q _ _ (Int.fmod_nonneg_of_pos _ (by omega)) (Int.fmod_lt_of_pos _ (by omega)) ⟨c, cells, mx, n, k⟩

theorem range_getD (zs : List Int) : (List.range (zs.map V.int).length).map (fun i => V.int (zs.getD i 0)) = zs.map V.int := by
  apply List.ext_getElem?
  intro i
  rw [List.getElem?_map, List.getElem?_map, List.length_map]
  by_cases h : i < zs.length
  · rw [List.getElem?_range h, List.getElem?_eq_getElem h]
    have : zs.getD i 0 = zs[i] := by rw [List.getD_eq_getElem?_getD, List.getElem?_eq_getElem h]; rfl
    show some (V.int (zs.getD i 0)) = some (V.int zs[i])
    rw [this]
  · rw [List.getElem?_eq_none (by rw [List.length_range]; omega), List.getElem?_eq_none (by omega)]
    rfl
theorem cut_ints (ns : List Int) (lo hi : Option Int) : ∃ zs : List Int, cutV (ns.map V.int) lo hi = zs.map V.int ∧ zs.length ≤ ns.length := by
  refine ⟨(ns.drop (HT.sIx (ns.map V.int).length 0 lo)).take (HT.sIx (ns.map V.int).length (ns.map V.int).length hi - HT.sIx (ns.map V.int).length 0 lo), ?_, ?_⟩
  · unfold cutV
    rw [List.map_take, List.map_drop]
  · rw [List.length_take, List.length_drop]
    omega
def sp_deck : Sp := fun vs H Q _ => ∃ (K : PySem.W.Frag) (a : Addr) (ns : List Int), vs = [.ref a] ∧ SqL K H a (ns.map V.int) ∧ ns.length ≤ 63 ∧ ∀ d H', Dk H d H' → Q (.ref d) H'
def sp_deckK (K : PySem.W.Frag) : Sp := fun vs H Q _ => ∃ (a : Addr) (ns : List Int), vs = [.ref a] ∧ SqL K H a (ns.map V.int) ∧ ns.length ≤ 63 ∧ ∀ d H', Dk H d H' → Q (.ref d) H'
theorem ok_deck (T : Txt K mg) : FnOk P w K mg base CX0 2 T.f_l_deck T.d_l_deck ["script"] (sp_deckK K) := by
  refine T.U_l_deck.ok sc_l_deck (fun vs H Q E h => ?_) (fun cdv A outer s H vs Q E hr h => ?_)
  · obtain ⟨_, _, rfl, _⟩ := h
    rfl
  · obtain ⟨a, ns, rfl, hS, hl, q⟩ := h
    refine ⟨_, (pss_cons (ps_set (i := 1) sc_l_deck.nd rfl (.inl rfl) pe_int)
  (pss_cons (ps_for PassesOwn.never rfl (pi_list (pe_slice sl_list (pv 0) po_none (po_some pe_int))) (pg_name (i := 2) sc_l_deck.nd rfl (.inl rfl)) (pss_one (ps_set (i := 1) sc_l_deck.nd rfl (.inl rfl) (pe_op op_modN (pe_callTy call_int1 (by rfl) T.n_int (by decide +kernel) (pa_cons (pe_op op_add (pe_op op_add (pe_op op_mul (pv 1) pe_int) (pe_op op_modN (pe_callTy call_int1 (by rfl) T.n_int (by decide +kernel) (pa_cons (pv 2) pa_nil)) pe_int)) pe_int) pa_nil)) pe_int))))
  (pss_one (ps_ret (pe_disp (pps_cons pe_str (pe_revL (pe_lc (own := [("cell", 2)]) (g := gName 2) (tt := tYes) rfl sc_l_deck.nd (pi_list (pe_slice sl_list (pv 0) po_none (po_some pe_int))) (blkOk_by (own := [("cell", 2)]) (N := ["script", "mixed", "cell"]) (sc := defScope s_l_deck) (by decide +kernel)) (fun _ _ _ _ _ => pg_name (i := 2) sc_l_deck.nd rfl (Or.inl rfl)) (fun _ _ _ _ _ => pts_nil) (fun _ _ _ _ _ => (pe_callTy call_int1 (by rfl) T.n_int (by decide +kernel) (pa_cons (pv 2) pa_nil))))) (pps_cons pe_str (pv 1) (pps_cons pe_str pe_int pps_nil))) (by rfl) (by rfl) (fun z => by cases z) (by decide)))))), ?_⟩
    refine ⟨_, rfl, 63, rfl, a, _, rfl, hS, fun p np => ?_⟩
    obtain ⟨zs, ez, hz⟩ := cut_ints ns none (some 63)
    rw [ez]
    have e1 : Ex H (upd H p (.lst (zs.map V.int))) := Ex.new np
    have hp : SqL K (upd H p (.lst (zs.map V.int))) p (zs.map V.int) := SqL.of upd_same
    refine ⟨p, rfl, ⟨_, hp⟩, ?_⟩
    refine for_list (xs := zs.map V.int) (fun i σ' H' => ∃ (m : Int) (y : Option V), 0 ≤ m ∧ m < 2147483647 ∧ σ' = [some (.ref a), some (.int m), y] ∧ H' = upd H p (.lst (zs.map V.int))) ⟨_, none, by decide, by decide, rfl, rfl⟩ ?_ ?_ ?_
    · rintro i σ' H' _ ⟨_, _, _, _, _, rfl⟩
      exact hp
    · rintro i x σ' H' hx ⟨m, y, hm0, hm1, rfl, rfl⟩
      obtain ⟨z, rfl⟩ : ∃ z : Int, x = .int z := by
        rw [List.getElem?_map] at hx
        cases h : zs[i]? with
        | none => rw [h] at hx; cases hx
        | some z => rw [h] at hx; cases hx; exact ⟨z, rfl⟩
      refine ⟨_, rfl, _, _, rfl, rfl, .inr ⟨by decide, by decide⟩, _, rfl, .inl ⟨_, rfl, _, _, rfl, rfl, by simp, _, _, rfl, rfl, _, _, rfl, rfl, .inl ⟨_, rfl, _, _, rfl, rfl, by simp, ?_⟩⟩⟩
      exact ⟨_, _, Int.fmod_nonneg_of_pos _ (by decide), Int.fmod_lt_of_pos _ (by decide), rfl, rfl⟩
    · rintro σ' H' ⟨m, y, hm0, hm1, rfl, rfl⟩
      refine r_ret (r_disp fun d nd => r_pairC (r_revL ?_))
      have e2 := e1.trans (Ex.new (o := .dK []) nd)
      have hd2 : (upd (upd H p (.lst (zs.map V.int))) d (.dK [])) d = some (.dK []) := upd_same
      generalize upd (upd H p (.lst (zs.map V.int))) d (.dK []) = H2 at e2 hd2 ⊢
      refine el_lcN (K := K) (H := H2) (ys := zs.map V.int) ?_ (fun _ => true) (fun i => .int (zs.getD i 0)) (by rw [List.length_map]; omega) ?_ H2 (Ex.refl _) _ ?_
      · intro H5 e5 Q5 q5
        refine ⟨_, rfl, 63, rfl, a, _, rfl, ex_l (e2.trans e5) hS, fun l1 n1 => ?_⟩
        rw [ez]
        exact q5 l1 _ n1 (Ex.new n1) upd_same
      · intro i x H5 e5 hx
        refine ⟨[some (.ref a), some (.int m), some x], fun k hk => hk, rfl, et_yes, fun _ => ?_⟩
        intro H6 e6 Q6 q6
        have ex : x = .int (zs.getD i 0) := by
          rw [List.getElem?_map] at hx
          cases h : zs[i]? with
          | none => rw [h] at hx; cases hx
          | some z => rw [h] at hx; cases hx; rw [List.getD_eq_getElem?_getD, h]; rfl
        rw [ex]
        exact ⟨_, rfl, .inl ⟨_, rfl, q6 H6 (Ex.refl H6)⟩⟩
      · intro l2 H4 n2 e4 h2
        rw [given_all, range_getD] at h2
        refine ⟨l2, _, rfl, SqL.of h2, fun c nc => ⟨_, rfl, ?_⟩⟩
        have hd4 := e4 _ _ hd2
        have dc : d ≠ c := ne_of_none hd4 nc
        refine ⟨by rw [upd_ne dc]; exact hd4, [(kC, .ref c), (kM, .int m), (kD, .int 0)], rfl, by show 3 ≤ 15; decide, ?_⟩
        rw [deck_made]
        have ex : Ex H (upd H4 c (.lst (zs.map V.int).reverse)) := (e2.trans e4).trans (Ex.new nc)
        refine q d _ ⟨c, zs.reverse, m, 0, Ex.mut ex (fresh_back e1 nd), fresh_back e1 nd, fresh_back (e2.trans e4) nc, upd_same, ?_, by rw [List.length_reverse]; omega, hm0, by omega⟩
        rw [upd_ne dc.symm, upd_same, List.map_reverse]

def sp_pick : Sp := fun vs H Q _ => ∃ (G : Hp) (d s : Addr) (xs : List V), vs = [.ref d, .ref s] ∧ Dk G d H ∧ G s = some (.lst xs) ∧ 1 ≤ xs.length ∧ xs.length ≤ 1000 ∧ ∀ (i : Nat) (v : V) (H' : Hp), xs[i]? = some v → Dk G d H' → Q v H'
theorem ok_pick (T : Txt K mg) : FnOk P w K mg base CX0 3 T.f_l_pick T.d_l_pick ["deck", "some"] sp_pick := by
  have F_l_draw := ok_draw (P := P) (w := w) (base := base) T
  refine T.U_l_pick.ok sc_l_pick (fun vs H Q E h => ?_) (fun cdv A outer s H vs Q E hr h => ?_)
  · obtain ⟨_, _, _, _, rfl, _⟩ := h
    rfl
  · obtain ⟨G, d, s, xs, rfl, k, hs, h1, h2, q⟩ := h
    refine ⟨_, (pss_one (ps_ret (pe_ix ix_list (pv 1) (pe_call F_l_draw (hr.mono (by decide)) (by rfl) T.g_l_draw T.k_l_draw T.b_l_draw .nil pass0 (pa_cons (pv 0) (pa_cons (pe_callB call_len_seq (by rfl) T.n_len PySem.boot_len (pa_cons (pv 1) pa_nil)) pa_nil))) (fun _ _ => rfl)))), ?_⟩
    refine ⟨_, rfl, _, rfl, _, rfl, s, xs, rfl, .inl (SqL.of (k.get hs)), G, d, _, rfl, by omega, by omega, k, fun r H' r0 r1 k' => ?_⟩
    obtain ⟨i, rfl⟩ : ∃ i : Nat, r = (i : Int) := ⟨r.toNat, by omega⟩
    have hi : i < xs.length := by omega
    refine ⟨s, xs, _, _, rfl, rfl, SqL.of (k'.get hs), atI_nat (List.getElem?_eq_getElem hi), ?_⟩
    exact q i _ H' (List.getElem?_eq_getElem hi) k'


theorem choose_step (a k : Nat) (h : k < a) : (((ch a k : Nat) : Int) * ((a : Int) - (k : Int))).fdiv ((k : Int) + 1) = ((ch a (k + 1) : Nat) : Int) := by
  have e1 : ((a : Int) - (k : Int)) = ((a - k : Nat) : Int) := by omega
  have e2 : ((k : Int) + 1) = ((k + 1 : Nat) : Int) := by omega
  rw [e1, e2, ← Int.natCast_mul, Int.fdiv_eq_ediv_of_nonneg _ (by omega), ← Int.natCast_ediv, ← ch_mul, Nat.mul_div_cancel _ (by omega)]
def sp_choose : Sp := fun vs H Q _ => ∃ (a b : Nat), vs = [.int a, .int b] ∧ a < 2 ^ 2000 ∧ b ≤ 20 ∧ Q (.int ((ch a b : Nat) : Int)) H
theorem ok_choose (T : Txt K mg) : FnOk P w K mg base CX0 2 T.f_l_choose T.d_l_choose ["a", "b"] sp_choose := by
  refine T.U_l_choose.ok sc_l_choose (fun vs H Q E h => ?_) (fun cdv A outer s H vs Q E hr h => ?_)
  · obtain ⟨_, _, rfl, _⟩ := h
    rfl
  · obtain ⟨a, b, rfl, ha, hb, q⟩ := h
    refine ⟨_, (pss_cons (ps_if (pt_cmpR op_gt (pv 1) (pv 0) (nomark _)) (pss_one (ps_ret pe_int)) pss_nil)
  (pss_cons (ps_set (i := 2) sc_l_choose.nd rfl (.inl rfl) pe_int)
  (pss_cons (ps_for PassesOwn.never rfl (pi_range1 rfl T.n_range (pa_cons (pv 1) pa_nil)) (pg_name (i := 3) sc_l_choose.nd rfl (.inl rfl)) (pss_one (ps_set (i := 2) sc_l_choose.nd rfl (.inl rfl) (pe_op op_fdivN (pe_op op_mulW (pv 2) (pe_op op_sub (pv 0) (pv 3))) (pe_op op_add (pv 3) pe_int)))))
  (pss_one (ps_ret (pv 2)))))), ?_⟩
    refine ⟨_, rfl, _, rfl, _, _, rfl, rfl, _, rfl, ite2 (fun e => ?_) (fun e => ?_)⟩
    · have e' : a < b := by have := of_decide_eq_true e; omega
      rw [ch_lt e'] at q
      exact q
    · have e' : b ≤ a := by
        by_cases z : b ≤ a
        · exact z
        · exact absurd (decide_eq_true (by omega)) e
      refine ⟨_, rfl, _, rfl, by omega, by omega, ?_⟩
      rw [show ((b : Int)).toNat = b from rfl]
      refine for_range (lo := 0) (n := b) (fun i σ' H' => ∃ (y : Option V), i ≤ b ∧ σ' = [some (.int a), some (.int b), some (.int ((ch a i : Nat) : Int)), y] ∧ H' = H) ⟨none, Nat.zero_le _, by rw [ch_zero]; rfl, rfl⟩ ?_ ?_
      · rintro i σ' H' hi ⟨y, _, rfl, rfl⟩
        have e0 : (0 : Int) + (i : Int) = (i : Int) := Int.zero_add _
        rw [e0]
        have b1 : ch a i < 2 ^ 40001 := by
          have h1 := ch_le_pow a i
          have h2 : a ^ i ≤ (2 ^ 2000) ^ i := Nat.pow_le_pow_left (Nat.le_of_lt ha) i
          rw [← Nat.pow_mul] at h2
          have h3 : (2 : Nat) ^ (2000 * i) < 2 ^ 40001 := Nat.pow_lt_pow_right (by decide) (by omega)
          omega
        refine ⟨_, rfl, _, rfl, _, rfl, _, _, rfl, rfl, _, _, rfl, rfl, wide_mul (a := 40001) (b := 2000) ?_ ?_ (by decide) (by decide) (by decide), _, rfl, _, _, rfl, rfl, _, _, rfl, rfl, ⟨by omega, by omega⟩, ?_⟩
        · rw [Int.natAbs_natCast]
          exact b1
        · have : ((a : Int) - (i : Int)).natAbs ≤ a := by omega
          omega
        · exact ⟨some (.int (i : Int)), by omega, by rw [← choose_step a i (by omega)]; rfl, rfl⟩
      · rintro σ' H' ⟨y, _, rfl, rfl⟩
        exact ⟨_, rfl, q⟩
end
end K34

namespace K34
open PySem PySem.Spec PyProof.Rows L2 Hr HrM Evl LamX
section
variable {P : Program} {w : World} {K : PySem.W.Frag} {mg : Str → Option Value} {base : Heap}
theorem ite_no {b : Bool} {A B : Prop} (h : b = false) (k : B) : (if b = true then A else B) := by
  rw [h]
  exact iteF k
theorem ite_yes {b : Bool} {A B : Prop} (h : b = true) (k : A) : (if b = true then A else B) := by
  rw [h]
  exact iteT k
def gLS (a i : Nat) : Nat := ch a (i - 1)
def four (g : Nat → Nat → Nat) (s : Nat) (xs : List Nat) : Nat := (terms g s xs).sum
theorem lt_2000 {a : Nat} (h : a < 2 ^ 1910) : a + 1 < 2 ^ 2000 := by
  have e : 2 ^ 1911 ≤ 2 ^ 2000 := Nat.pow_le_pow_right (by decide) (by decide)
  have e2 : 2 ^ 1911 = 2 * 2 ^ 1910 := Nat.pow_add 2 1 1910
  rw [e2] at e
  generalize 2 ^ 1910 = z at *
  omega
theorem val_ge : ∀ (s : Nat) (xs : List Nat) (i a : Nat), xs[i]? = some a → ch a (s - i) ≤ val s xs
  | _, [], _, _, h => by simp at h
  | s, x :: xs, 0, a, h => by
    cases h
    show ch x s ≤ ch x s + val (s - 1) xs
    omega
  | s, x :: xs, i + 1, a, h => by
    have ih := val_ge (s - 1) xs i a (by simpa using h)
    rw [show s - (i + 1) = s - 1 - i by omega]
    show ch a (s - 1 - i) ≤ ch x s + val (s - 1) xs
    omega
theorem cas_items {s : Nat} {xs : List Nat} (c : Cas s xs) (hs : s ≤ 17) (hv : val s xs < 2 ^ 1900) : ∀ a ∈ xs, a < 2 ^ 1910 := by
  intro a ha
  obtain ⟨i, h⟩ := List.getElem?_of_mem ha
  have h1 := val_ge s xs i a h
  have hi := (List.getElem?_eq_some_iff.mp h).1
  have hl := c.len
  have hlow := c.low i a h
  have h0 := ch_pos hlow
  have h2 := top_lt (a := a) (p := s - i) (by omega) h1 (by omega)
  have h3 := big_pow hv (s - i) (by omega)
  omega
/-- the lower number of sets -/
def sp_low : Sp := fun vs H Q _ => ∃ (n S : Int) (N s : Nat), vs = [.int n, .int S] ∧ n = N ∧ S = s ∧ N < 2 ^ 1900 ∧ 1 ≤ s ∧ s ≤ 17 ∧ RetV (.int ((Lf 0 s N : Nat) : Int)) H Q
def sp_lowK (P0 : Addr) : Sp := fun vs H Q _ => ∃ (n S : Int) (N s : Nat), vs = [.int n, .int S] ∧ n = N ∧ S = s ∧ N < 2 ^ 1900 ∧ 1 ≤ s ∧ s ≤ 17 ∧ Tabs (topT P0) H ∧ RetVk (topT P0) (.int ((Lf 0 s N : Nat) : Int)) H Q
theorem ok_lower_sets (T : Txt K mg) (TB : TabB base mg T.c_greatest_top T.P_greatest_top) : FnOk P w K mg base CX0 5 T.f_lower_sets T.d_lower_sets ["number", "size"] (sp_lowK T.P_greatest_top) := by
  have F_cascade_of := ok_cascade_of (P := P) (w := w) (base := base) T TB
  have F_moved_sum := ok_moved_sum (P := P) (w := w) (base := base) T
  refine T.U_lower_sets.ok sc_lower_sets (fun vs H Q E h => ?_) (fun cdv A outer s H vs Q E hr h => ?_)
  · obtain ⟨_, _, _, _, rfl, _⟩ := h
    rfl
  · obtain ⟨_, _, N, s, rfl, rfl, rfl, hN, hs1, hs, hT, q⟩ := h
    refine ⟨_, (pss_one (ps_ret (pe_call F_moved_sum (hr.mono (by decide)) (by rfl) T.g_moved_sum T.k_moved_sum T.b_moved_sum .nil pass0 (pa_cons (pv 1) (pa_cons (pe_call F_cascade_of (hr.mono (by decide)) (by rfl) T.g_cascade_of T.k_cascade_of T.b_cascade_of .nil pass0 (pa_cons (pv 0) (pa_cons (pv 1) pa_nil))) (pa_cons pe_int (pa_cons (pe_un un_neg pe_int) pa_nil))))))), ?_⟩
    refine ⟨_, rfl, _, rfl, _, rfl, N, s, rfl, hN, hs1, hs, hT, fun xs c v p H2 e hp => ⟨_, rfl, s, p, xs, 0, -1, id, (· - 1), rfl, hp, c.len, hs, fun i a h => ?_, fun H3 e3 => ?_⟩⟩
    · have hi := (List.getElem?_eq_some_iff.mp h).1
      have hl := c.len
      have ha := cas_items c hs (by omega) a (List.mem_of_getElem? h)
      exact ⟨by rw [Int.add_zero]; rfl, by show (s : Int) - (i : Int) + -1 = ((s - i - 1 : Nat) : Int); omega, by have := lt_2000 ha; show a < _; omega, by show s - i - 1 ≤ 20; omega⟩
    · have e' := cc_eq hs1 c v
      subst e'
      exact q H3 (e.ex e3)
theorem sm900 {n : Nat} (h : n < 2 ^ 900) : n < 2 ^ 1900 := Nat.lt_trans h (Nat.pow_lt_pow_right (by decide) (by decide))
/-! integers -/
def iV (is : List Int) : List V := is.map V.int
theorem iV_len (is : List Int) : (iV is).length = is.length := List.length_map _
theorem iV_get (is : List Int) (i : Nat) : (iV is)[i]? = (is[i]?).map V.int := List.getElem?_map
theorem iV_at {is : List Int} {i : Nat} {x : V} (h : (iV is)[i]? = some x) : x = .int (is.getD i 0) ∧ i < is.length := by
  rw [iV_get] at h
  cases e : is[i]? with
  | none => rw [e] at h; cases h
  | some a =>
    rw [e] at h
    cases h
    rw [List.getD_eq_getElem?_getD, e]
    exact ⟨rfl, (List.getElem?_eq_some_iff.mp e).1⟩
theorem iV_ix {is : List Int} {i : Nat} (h : i < is.length) : (iV is)[i]? = some (.int (is.getD i 0)) := by
  rw [iV_get, List.getElem?_eq_getElem h, List.getD_eq_getElem?_getD, List.getElem?_eq_getElem h]
  rfl
theorem tz_iV (xs : List Nat) : tz xs = iV (iz xs) := rfl
theorem tz_ix {xs : List Nat} {i : Nat} (h : i < xs.length) : (tz xs)[i]? = some (.int ((xs.getD i 0 : Nat) : Int)) := by
  rw [tz_iV, iV_ix (by rw [iz_len]; exact h), iz_at]
theorem given_row (n : Nat) (f : Nat → Int) : given n (fun _ => true) (fun i => .int (f i)) = iV (row n f) := by
  rw [given_all]
  unfold iV row
  rw [List.map_map]
  rfl
theorem given_bl (n : Nat) (f : Nat → Bool) : given n (fun _ => true) (fun i => .bl (f i)) = ((List.range n).map f).map V.bl := by
  rw [given_all, List.map_map]
  rfl
theorem row_of (is : List Int) : row is.length (fun i => is.getD i 0) = is := by
  apply List.ext_getElem?
  intro i
  by_cases h : i < is.length
  · rw [row_get h, List.getD_eq_getElem?_getD, List.getElem?_eq_getElem h]
    rfl
  · rw [List.getElem?_eq_none (by rw [row_len]; omega), List.getElem?_eq_none (by omega)]
theorem all_range (is : List Int) (l : Int) : ((List.range is.length).map fun i => decide (l ≤ is.getD i 0)).all id = is.all fun x => decide (l ≤ x) := by
  have e : ((List.range is.length).map fun i => decide (l ≤ is.getD i 0)) = (row is.length fun i => is.getD i 0).map fun x => decide (l ≤ x) := by
    unfold row
    rw [List.map_map]
    rfl
  rw [e, row_of, List.all_map]
  rfl
def sp_are_integers_from : Sp := fun vs H Q _ => ∃ (c : Addr) (l : Int) (is : List Int), vs = [.ref c, .int l] ∧ H c = some (.tup (iV is)) ∧ is.length ≤ 1000 ∧ RetV (.bl (is.all fun x => decide (l ≤ x))) H Q
theorem ok_are_integers_from (T : Txt K mg) : FnOk P w K mg base CX0 3 T.f_are_integers_from T.d_are_integers_from ["thing", "least"] sp_are_integers_from := by
  have F_is_integer_from := ok_is_integer_from (P := P) (w := w) (base := base) T
  refine T.U_are_integers_from.ok sc_are_integers_from (fun vs H Q E h => ?_) (fun cdv A outer s H vs Q E hr h => ?_)
  · obtain ⟨_, _, _, rfl, _⟩ := h
    rfl
  · obtain ⟨c, l, is, rfl, hc, hl, q⟩ := h
    refine ⟨_, (pss_one (ps_ret (pe_and (pe_callB call_isi (by rfl) T.n_isinstance (by decide +kernel) (pa_cons (pv 0) (pa_cons (pe_bltn (v := .ty "tuple") (u := .type "tuple") (by rfl) T.n_tuple (by decide +kernel) rfl) pa_nil))) (pe_one (pe_callB (cr_all rfl) (by rfl) T.n_all (by decide +kernel) (pa_cons (pe_lc (own := [("part", 2)]) (g := gName 2) (tt := tYes) rfl sc_are_integers_from.nd (pi_tup (pv 0)) (blkOk_by (own := [("part", 2)]) (N := ["thing", "least", "part"]) (sc := defScope s_are_integers_from) (by decide +kernel)) (fun _ _ _ _ _ => pg_name (i := 2) sc_are_integers_from.nd rfl (Or.inl rfl)) (fun _ _ _ _ _ => pts_nil) (fun _ _ _ _ _ => (pe_call F_is_integer_from (hr.mono (by decide)) (by rfl) T.g_is_integer_from T.k_is_integer_from T.b_is_integer_from .nil pass0 (pa_cons (pv 2) (pa_cons (pv 1) pa_nil))))) pa_nil)))))), ?_⟩
    refine ⟨_, rfl, _, _, _, _, true, rfl, .ty "tuple", .base (.tup hc), kit_ty (by decide +kernel), true, rfl, iteT ?_⟩
    refine r_cb (r_arg ?_)
    refine el_lcT (K := K) hc (ev_var rfl) (fun _ => true) (fun i => .bl (decide (l ≤ is.getD i 0))) (by rw [iV_len]; omega) ?_ H (Ex.refl H) _ ?_
    · intro i x H2 e hx
      obtain ⟨rfl, hi⟩ := iV_at hx
      refine ⟨[some (.ref c), some (.int l), some (.int (is.getD i 0))], fun k hk => hk, rfl, et_yes, fun _ => ?_⟩
      intro H3 e3 Q3 q3
      exact ⟨_, rfl, _, rfl, _, _, rfl, q3 H3 (Ex.refl H3)⟩
    · intro p H2 np e hp
      rw [given_bl, iV_len] at hp
      refine ⟨p, _, rfl, SqL.of hp, ?_⟩
      rw [all_range]
      exact q H2 e
theorem all_from {xs : List Nat} {l : Nat} (h : ∀ k, k < xs.length → l ≤ xs.getD k 0) : ((iz xs).all fun x => decide ((l : Int) ≤ x)) = true := by
  rw [List.all_eq_true]
  intro x hx
  obtain ⟨i, hi, rfl⟩ := List.mem_iff_getElem.mp hx
  rw [iz_len] at hi
  have e : (iz xs)[i]'(by rw [iz_len]; exact hi) = (iz xs).getD i 0 := by rw [List.getD_eq_getElem?_getD, List.getElem?_eq_getElem (by rw [iz_len]; exact hi)]; rfl
  rw [e, iz_at]
  have := h i hi
  exact decide_eq_true (by omega)
/-- counts in a tuple -/
structure Cnt (xs : List Nat) : Prop where
  fit : Fit xs
  small : ∀ k, k < xs.length → xs.getD k 0 < 2 ^ 800
def sp_is_counts : Sp := fun vs H Q _ => ∃ (c : Addr) (xs : List Nat), vs = [.ref c] ∧ Cnt xs ∧ H c = some (.tup (tz xs)) ∧ RetV (.bl true) H Q
theorem ok_is_counts (T : Txt K mg) : FnOk P w K mg base CX0 4 T.f_is_counts T.d_is_counts ["thing"] sp_is_counts := by
  have F_are_integers_from := ok_are_integers_from (P := P) (w := w) (base := base) T
  refine T.U_is_counts.ok sc_is_counts (fun vs H Q E h => ?_) (fun cdv A outer s H vs Q E hr h => ?_)
  · obtain ⟨_, _, rfl, _⟩ := h
    rfl
  · obtain ⟨c, xs, rfl, C, hc, q⟩ := h
    refine ⟨_, (pss_one (ps_ret (pe_and (pe_call F_are_integers_from (hr.mono (by decide)) (by rfl) T.g_are_integers_from T.k_are_integers_from T.b_are_integers_from .nil pass0 (pa_cons (pv 0) (pa_cons pe_int pa_nil))) (pe_one (pe_cmpR op_le (pe_callB call_len_seq (by rfl) T.n_len PySem.boot_len (pa_cons (pv 0) pa_nil)) (pe_glob (v := .int 16) rfl T.c_MOST_COUNTS ⟨_, rfl⟩) (nomark _)))))), ?_⟩
    have hl := C.fit.len
    refine ⟨_, rfl, c, 1, iz xs, rfl, hc, by rw [iz_len]; omega, fun H2 e2 => ?_⟩
    have ha : ((iz xs).all fun x => decide ((1 : Int) ≤ x)) = true := all_from (l := 1) C.fit.pos
    rw [ha]
    refine ⟨true, rfl, iteT ?_⟩
    refine ⟨_, rfl, c, _, rfl, .inr (SqT.of (e2 _ _ hc)), _, _, rfl, rfl, ?_⟩
    exact q_bl (Q := Q) (decide_eq_true (by rw [tz_len]; omega)) (q H2 e2)
def sp_chk : Sp := fun vs H Q _ => ∃ (c : Addr) (xs : List Nat), vs = [.ref c] ∧ Cnt xs ∧ H c = some (.tup (tz xs)) ∧ RetV .non H Q
theorem ok_check_counts (T : Txt K mg) : FnOk P w K mg base CX0 5 T.f_check_counts T.d_check_counts ["counts"] sp_chk := by
  have F_is_counts := ok_is_counts (P := P) (w := w) (base := base) T
  refine T.U_check_counts.ok sc_check_counts (fun vs H Q E h => ?_) (fun cdv A outer s H vs Q E hr h => ?_)
  · obtain ⟨_, _, rfl, _⟩ := h
    rfl
  · obtain ⟨c, xs, rfl, C, hc, q⟩ := h
    refine ⟨_, (pss_one (ps_if (pt_not (pt_val (pe_call F_is_counts (hr.mono (by decide)) (by rfl) T.g_is_counts T.k_is_counts T.b_is_counts .nil pass0 (pa_cons (pv 0) pa_nil)))) (pss_one ps_never) pss_nil)), ?_⟩
    exact ⟨_, rfl, c, xs, rfl, C, hc, fun H2 e2 => ⟨_, rfl, iteF (q H2 e2)⟩⟩
theorem ok_check_some_counts (T : Txt K mg) : FnOk P w K mg base CX0 5 T.f_check_some_counts T.d_check_some_counts ["counts"] sp_chk := by
  have F_is_counts := ok_is_counts (P := P) (w := w) (base := base) T
  refine T.U_check_some_counts.ok sc_check_some_counts (fun vs H Q E h => ?_) (fun cdv A outer s H vs Q E hr h => ?_)
  · obtain ⟨_, _, rfl, _⟩ := h
    rfl
  · obtain ⟨c, xs, rfl, C, hc, q⟩ := h
    refine ⟨_, (pss_one (ps_if (PW.pt (pw_or (pt_not (pt_val (pe_call F_is_counts (hr.mono (by decide)) (by rfl) T.g_is_counts T.k_is_counts T.b_is_counts .nil pass0 (pa_cons (pv 0) pa_nil)))) (pw_or1 (pt_cmpR op_eq (pe_callB call_len_seq (by rfl) T.n_len PySem.boot_len (pa_cons (pv 0) pa_nil)) pe_int (nomark _))))) (pss_one ps_never) pss_nil)), ?_⟩
    refine ⟨_, rfl, c, xs, rfl, C, hc, fun H2 e2 => ⟨_, rfl, iteF ?_⟩⟩
    refine ⟨_, rfl, c, _, rfl, .inr (SqT.of (e2 _ _ hc)), rfl, _, rfl, ite_no ?_ (q H2 e2)⟩
    have := C.fit.ne
    rw [tz_len]
    refine decide_eq_false fun z => ?_
    injection z with z
    omega
end
end K34

namespace K34
open PySem PySem.Spec PyProof.Rows L2 Hr HrM Evl LamX
section
variable {P : Program} {w : World} {K : PySem.W.Frag} {mg : Str → Option Value} {base : Heap}
theorem atI_is {α : Type} {xs : List α} {j : Int} {n : Nat} {v : α} (e : j = (n : Int)) (h : xs[n]? = some v) : atI xs j = some v := by
  subst e
  exact atI_nat h
theorem given_none' {n : Nat} {f : Nat → Bool} (v : Nat → V) (h : ∀ i, i < n → f i = false) : given n f v = [] := by
  unfold given
  rw [List.filter_eq_nil_iff.mpr]
  · rfl
  · intro i hi
    rw [h i (List.mem_range.mp hi)]
    exact Bool.false_ne_true
/-- the only certificate of counts of some family -/
def sp_cert (P0 : Addr) : Sp := fun vs H Q _ => ∃ (c : Addr) (xs : List Nat), vs = [.ref c] ∧ Cnt xs ∧ H c = some (.tup (tz xs)) ∧ Tabs (topT P0) H ∧ ∀ p t z H2, Ek (topT P0) H H2 → H2 p = some (.lst [.ref t]) → H2 t = some (.tup [.str "fits", z]) → Q (.ref p) H2
theorem ok_counts_certificates (T : Txt K mg) (TB : TabB base mg T.c_greatest_top T.P_greatest_top) : FnOk P w K mg base CX0 6 T.f_counts_certificates T.d_counts_certificates ["counts"] (sp_cert T.P_greatest_top) := by
  have F_check_counts := ok_check_counts (P := P) (w := w) (base := base) T
  have F_lower_sets := ok_lower_sets (P := P) (w := w) (base := base) T TB
  refine T.U_counts_certificates.ok sc_counts_certificates (fun vs H Q E h => ?_) (fun cdv A outer s H vs Q E hr h => ?_)
  · obtain ⟨_, _, rfl, _⟩ := h
    rfl
  · obtain ⟨c, xs, rfl, C, hc, hT, q⟩ := h
    refine ⟨_, (pss_cons (ps_expr (pe_call F_check_counts (hr.mono (by decide)) (by rfl) T.g_check_counts T.k_check_counts T.b_check_counts .nil pass0 (pa_cons (pv 0) pa_nil)))
  (pss_cons (ps_set (i := 1) sc_counts_certificates.nd rfl (.inl rfl) (pe_callTy cr_range2 (by rfl) T.n_range (by decide +kernel) (pa_cons pe_int (pa_cons (pe_callB call_len_seq (by rfl) T.n_len PySem.boot_len (pa_cons (pv 0) pa_nil)) pa_nil))))
  (pss_cons (ps_set (i := 2) sc_counts_certificates.nd rfl (.inr rfl) (pe_callTy call_tuple_of (by rfl) T.n_tuple (by decide +kernel) (pa_cons (pe_lc (own := [("k", 4)]) (g := gName 4) (tt := tYes) rfl sc_counts_certificates.nd (pi_rngV (pv 1)) (blkOk_by (own := [("k", 4)]) (N := ["counts", "places", "lowers", "faults", "k"]) (sc := defScope s_counts_certificates) (by decide +kernel)) (fun _ _ _ _ _ => pg_name (i := 4) sc_counts_certificates.nd rfl (Or.inl rfl)) (fun _ _ _ _ _ => pts_nil) (fun _ _ _ _ _ => (pe_call F_lower_sets (hr.mono (by decide)) (by rfl) T.g_lower_sets T.k_lower_sets T.b_lower_sets .nil pass0 (pa_cons (pe_ix (r := rIxT K) ix_tup (pv 0) (pv 4) (fun _ _ => rfl)) (pa_cons (pe_op op_add (pv 4) pe_int) pa_nil))))) pa_nil)))
  (pss_cons (ps_setLc (i := 3) (own := [("k", 4)]) (g := gName 4) (tt := _) (by rfl) sc_counts_certificates.nd rfl rfl (sw_true rfl rfl rfl (by decide +kernel)) (pi_rngV (pv 1)) (blkOk_by (own := [("k", 4)]) (N := ["counts", "places", "lowers", "faults", "k"]) (sc := defScope s_counts_certificates) (by decide +kernel)) (fun _ _ _ _ _ => pg_name (i := 4) sc_counts_certificates.nd rfl (Or.inl rfl)) (fun _ _ _ _ _ => pts_one (pt_cmpR op_gt (pe_ix (r := rIxT K) ix_tup (pv 2) (pe_op op_sub (pv 4) pe_int) (fun _ _ => rfl)) (pe_ix (r := rIxT K) ix_tup (pv 0) (pe_op op_sub (pv 4) pe_int) (fun _ _ => rfl)) (nomark _))) (fun _ _ _ _ _ => (pe_tup (pa_cons pe_str (pa_cons (pv 4) pa_nil)))))
  (pss_cons (ps_if (pt_cmpR op_gt (pe_callB call_len_seq (by rfl) T.n_len PySem.boot_len (pa_cons (pv 3) pa_nil)) pe_int (nomark _)) (pss_one (ps_ret (pv 3))) pss_nil)
  (pss_one (ps_ret (pe_lst (pa_cons (pe_tup (pa_cons pe_str (pa_cons (pv 2) pa_nil))) pa_nil))))))))), ?_⟩
    have hn := C.fit.ne
    have hl := C.fit.len
    refine ⟨_, rfl, c, xs, rfl, C, hc, fun H2 e2 => ?_⟩
    refine ⟨_, rfl, c, _, rfl, .inr (SqT.of (e2 _ _ hc)), _, _, rfl, fun r nr => ?_⟩
    rw [tz_len]
    have e3 := e2.trans (Ex.new (o := .rng 1 (xs.length : Int)) nr)
    have hr3 : (upd H2 r (.rng 1 (xs.length : Int))) r = some (.rng 1 (xs.length : Int)) := upd_same
    generalize upd H2 r (.rng 1 (xs.length : Int)) = H3 at e3 hr3 ⊢
    have hc3 := e3 _ _ hc
    have hN : ((xs.length : Int) - 1).toNat = xs.length - 1 := by omega
    -- lowers
    dsimp only
    refine r_seq (r_set (r_cb (r_arg ?_)))
    refine lcKRV (T := (topT T.P_greatest_top)) (H := H3) hr3 (ev_var rfl) (by omega) (fun _ => true) (fun i => .int (((Lf 0 (i + 2) (xs.getD (i + 1) 0) : Nat) : Int))) (by omega) (hT.ext e3) ?_ ?_
    · intro i H4 e4 t4 hi
      have ek : (1 : Int) + (i : Int) = ((i + 1 : Nat) : Int) := by omega
      rw [ek]
      refine ⟨[some (.ref c), some (.ref r), none, none, some (.int ((i + 1 : Nat) : Int))], fun k hk => hk, rfl, .yes t4, fun _ => ?_⟩
      intro H5 e5 t5 Q5 q5
      refine ⟨_, rfl, _, rfl, c, tz xs, _, _, rfl, rfl, SqT.of (e5.get (e4.get hc3)), atI_nat (tz_ix (by omega)), _, rfl, _, _, rfl, rfl, _, _, xs.getD (i + 1) 0, i + 2, rfl, rfl, by omega, ?_, by omega, by omega, t5, fun H6 e6 => q5 H6 e6 (e6.t t5)⟩
      exact sm900 (Nat.lt_trans (C.small _ (by omega)) (Nat.pow_lt_pow_right (by decide) (by decide)))
    · intro p H4 e4 t4 hp
      rw [given_row, hN] at hp
      refine ⟨p, _, rfl, .inl ⟨SqL.of hp, fun l nl' => ?_⟩⟩
      have e5 := ((Ek.of e3).trans e4).ex (Ex.new (o := .tup (iV (row (xs.length - 1) fun i => ((Lf 0 (i + 2) (xs.getD (i + 1) 0) : Nat) : Int)))) nl')
      have hl5 : (upd H4 l (.tup (iV (row (xs.length - 1) fun i => ((Lf 0 (i + 2) (xs.getD (i + 1) 0) : Nat) : Int))))) l = _ := upd_same
      have hr5 := (Ex.new (o := .tup (iV (row (xs.length - 1) fun i => ((Lf 0 (i + 2) (xs.getD (i + 1) 0) : Nat) : Int)))) nl') _ _ (e4.get hr3)
      generalize upd H4 l (.tup (iV (row (xs.length - 1) fun i => ((Lf 0 (i + 2) (xs.getD (i + 1) 0) : Nat) : Int)))) = H5 at e5 hl5 hr5 ⊢
      have hc5 := e5.get hc
      -- faults
      dsimp only
      refine r_seq (el_lcRV (H := H5) hr5 (ev_var rfl) (by omega) (fun _ => false) (fun i => .non) (by omega) ?_ H5 (Ex.refl _) _ ?_)
      · intro i H6 e6 hi
        have ek : (1 : Int) + (i : Int) = ((i + 1 : Nat) : Int) := by omega
        rw [ek]
        refine ⟨[some (.ref c), some (.ref r), some (.ref l), none, some (.int ((i + 1 : Nat) : Int))], fun k hk => hk, rfl, ?_, fun h => nomatch h⟩
        intro H7 e7 Q7 q7
        have hf := C.fit.fit (i + 1) (by omega) (by omega)
        refine ⟨_, rfl, _, rfl, _, _, rfl, rfl, l, _, _, _, rfl, rfl, SqT.of (e7 _ _ (e6 _ _ hl5)), atI_is (n := i) (by omega) (iV_ix (by rw [row_len]; omega)), _, rfl, _, rfl, _, _, rfl, rfl, c, _, _, _, rfl, rfl, SqT.of (e7 _ _ (e6 _ _ hc5)), atI_is (n := i) (by omega) (tz_ix (by omega)), _, _, rfl, rfl, _, rfl, ?_⟩
        rw [row_at (by omega)]
        have : decide (((xs.getD i 0 : Nat) : Int) < ((Lf 0 (i + 2) (xs.getD (i + 1) 0) : Nat) : Int)) = false := decide_eq_false (by
          have z : i + 1 - 1 = i := by omega
          rw [z] at hf
          have z2 : i + 1 + 1 = i + 2 := rfl
          rw [z2] at hf
          omega)
        rw [this]
        exact q7 H7 (Ex.refl _)
      · intro o H6 no e6 ho
        rw [given_none' _ fun _ _ => rfl] at ho
        have hl6 := e6 _ _ hl5
        refine ⟨_, rfl, o, _, rfl, .inl (SqL.of ho), _, _, rfl, rfl, _, rfl, ite_no rfl ?_⟩
        refine ⟨_, rfl, by show 2 ≤ sizeLine; decide, fun t nt => ⟨by show 1 ≤ sizeLine; decide, fun p2 np2 => ?_⟩⟩
        exact q p2 t (.ref l) _ ((e5.ex e6).ex ((Ex.new nt).trans (Ex.new np2))) upd_same ((Ex.new np2) _ _ upd_same)
def sp_judge (P0 : Addr) : Sp := fun vs H Q _ => ∃ (c : Addr) (xs : List Nat), vs = [.ref c] ∧ Cnt xs ∧ H c = some (.tup (tz xs)) ∧ Tabs (topT P0) H ∧ ∀ t z H2, Ek (topT P0) H H2 → H2 t = some (.tup [.str "fits", z]) → Q (.ref t) H2
theorem ok_judge_counts (T : Txt K mg) (TB : TabB base mg T.c_greatest_top T.P_greatest_top) : FnOk P w K mg base CX0 7 T.f_judge_counts T.d_judge_counts ["counts"] (sp_judge T.P_greatest_top) := by
  have F_counts_certificates := ok_counts_certificates (P := P) (w := w) (base := base) T TB
  refine T.U_judge_counts.ok sc_judge_counts (fun vs H Q E h => ?_) (fun cdv A outer s H vs Q E hr h => ?_)
  · obtain ⟨_, _, rfl, _⟩ := h
    rfl
  · obtain ⟨c, xs, rfl, C, hc, hT, q⟩ := h
    refine ⟨_, (pss_one (ps_ret (pe_ix ix_list (pe_call F_counts_certificates (hr.mono (by decide)) (by rfl) T.g_counts_certificates T.k_counts_certificates T.b_counts_certificates .nil pass0 (pa_cons (pv 0) pa_nil)) pe_int (fun _ _ => rfl)))), ?_⟩
    exact ⟨_, rfl, c, xs, rfl, C, hc, hT, fun p t z H2 e2 hp ht => ⟨p, _, 0, .ref t, rfl, rfl, SqL.of hp, atI_is (n := 0) rfl rfl, q t z H2 e2 ht⟩⟩
def sp_chkK (P0 : Addr) : Sp := fun vs H Q _ => ∃ (c : Addr) (xs : List Nat), vs = [.ref c] ∧ Cnt xs ∧ H c = some (.tup (tz xs)) ∧ Tabs (topT P0) H ∧ RetVk (topT P0) .non H Q
theorem ok_check_fit (T : Txt K mg) (TB : TabB base mg T.c_greatest_top T.P_greatest_top) : FnOk P w K mg base CX0 8 T.f_check_fit T.d_check_fit ["counts"] (sp_chkK T.P_greatest_top) := by
  have F_judge_counts := ok_judge_counts (P := P) (w := w) (base := base) T TB
  refine T.U_check_fit.ok sc_check_fit (fun vs H Q E h => ?_) (fun cdv A outer s H vs Q E hr h => ?_)
  · obtain ⟨_, _, rfl, _⟩ := h
    rfl
  · obtain ⟨c, xs, rfl, C, hc, hT, q⟩ := h
    refine ⟨_, (pss_cons (ps_set (i := 1) sc_check_fit.nd rfl (.inl rfl) (pe_call F_judge_counts (hr.mono (by decide)) (by rfl) T.g_judge_counts T.k_judge_counts T.b_judge_counts .nil pass0 (pa_cons (pv 0) pa_nil)))
  (pss_one (ps_if (pt_cmpR op_ne (pe_ix ix_tup (pv 1) pe_int (fun _ _ => rfl)) pe_str (nomark _)) (pss_one ps_never) pss_nil))), ?_⟩
    refine ⟨_, rfl, c, xs, rfl, C, hc, hT, fun t z H2 e2 ht => ?_⟩
    refine ⟨_, rfl, t, _, 0, _, rfl, rfl, SqT.of ht, atI_is (n := 0) rfl rfl, rfl, _, rfl, ite_no ?_ (q H2 e2)⟩
    decide +kernel
end
end K34

namespace K34
open PySem PySem.Spec PyProof.Rows L2 Hr HrM Evl LamX
section
variable {P : Program} {w : World} {K : PySem.W.Frag} {mg : Str → Option Value} {base : Heap}
theorem lt2000 {a s N : Nat} (h : a ≤ 2 * (s + N) + 2) (hs : s ≤ 17) (hN : N < 2 ^ 1900) : a < 2 ^ 2000 := by
  have e : 2 ^ 2000 = 2 ^ 100 * 2 ^ 1900 := by rw [← Nat.pow_add]
  have h16 : (1024 : Nat) ≤ 2 ^ 100 := Nat.le_trans (by decide : 1024 ≤ 2 ^ 10) (Nat.pow_le_pow_right (by decide) (by decide))
  have h2 : 1024 * 2 ^ 1900 ≤ 2 ^ 100 * 2 ^ 1900 := Nat.mul_le_mul_right _ h16
  have h3 : (1024 : Nat) ≤ 2 ^ 1900 := Nat.le_trans (by decide : 1024 ≤ 2 ^ 10) (Nat.pow_le_pow_right (by decide) (by decide))
  rw [e]
  generalize 2 ^ 100 * 2 ^ 1900 = z at *
  generalize 2 ^ 1900 = y at *
  omega
def sp_l_top : Sp := fun vs H Q _ => ∃ N s : Nat, vs = [.int N, .int s] ∧ 1 ≤ N ∧ N < 2 ^ 1900 ∧ 1 ≤ s ∧ s ≤ 17 ∧ ∀ a : Nat, ch a s ≤ N → N < ch (a + 1) s → Q (.int a) H
theorem ok_l_top (T : Txt K mg) : FnOk P w K mg base CX0 3 T.f_l_top T.d_l_top ["number", "size"] sp_l_top := by
  have F_l_choose := ok_choose (P := P) (w := w) (base := base) T
  refine T.U_l_top.ok sc_l_top (fun vs H Q E h => ?_) (fun cdv A outer s H vs Q E hr h => ?_)
  · obtain ⟨n, l, rfl, _⟩ := h
    rfl
  · obtain ⟨N, s, rfl, hN1, hN, hs1, hs, q⟩ := h
    refine ⟨_, (pss_cons (ps_par rfl sc_l_top.nd (i := 2) (j := 3) rfl rfl (by decide) rfl rfl (pa_cons (pv 1) (pa_cons (pe_op op_add (pv 1) pe_int) pa_nil)) (by rfl))
  (pss_cons (ps_while PassesOwn.never (pt_cmpR op_le (pe_call F_l_choose (hr.mono (by decide)) (by rfl) T.g_l_choose T.k_l_choose T.b_l_choose .nil pass0 (pa_cons (pv 3) (pa_cons (pv 1) pa_nil))) (pv 0) (nomark _)) (pss_one (ps_par rfl sc_l_top.nd (i := 2) (j := 3) rfl rfl (by decide) rfl rfl (pa_cons (pv 3) (pa_cons (pe_op op_add (pe_op op_mul pe_int (pv 3)) pe_int) pa_nil)) (by rfl))))
  (pss_cons (ps_while PassesOwn.never (pt_cmpR op_gt (pe_op op_sub (pv 3) (pv 2)) pe_int (nomark _)) (pss_cons (ps_set (i := 4) sc_l_top.nd rfl (.inl rfl) (pe_op op_fdivN (pe_op op_add (pv 2) (pv 3)) pe_int))
  (pss_one (ps_if (pt_cmpR op_le (pe_call F_l_choose (hr.mono (by decide)) (by rfl) T.g_l_choose T.k_l_choose T.b_l_choose .nil pass0 (pa_cons (pv 4) (pa_cons (pv 1) pa_nil))) (pv 0) (nomark _)) (pss_one (ps_set (i := 2) sc_l_top.nd rfl (.inl rfl) (pv 4))) (pss_one (ps_set (i := 3) sc_l_top.nd rfl (.inl rfl) (pv 4)))))))
  (pss_one (ps_ret (pv 2)))))), ?_⟩
    have lim : ∀ a, ch a s ≤ N → a ≤ s + N := fun a h => by
      have := top_lt hs1 h hN1
      omega
    refine ⟨_, rfl, _, rfl, _, _, rfl, rfl, _, _, rfl, ?_⟩
    refine ⟨fun m σ H' => ∃ l h : Nat, σ = [some (.int N), some (.int s), some (.int l), some (.int h), none] ∧ H' = H ∧ m = 2 * (s + N) + 3 - h ∧ s ≤ l ∧ l < h ∧ ch l s ≤ N ∧ h ≤ 2 * (s + N) + 2,
      ⟨_, s, s + 1, rfl, rfl, rfl, Nat.le_refl _, by omega, by rw [ch_self]; exact hN1, by omega⟩, ?_⟩
    rintro m σ H' ⟨l, h, rfl, rfl, rfl, h0, h1, h2, h3⟩
    refine ⟨_, rfl, _, rfl, h, s, rfl, lt2000 h3 hs hN, by omega, _, rfl, _, _, rfl, rfl, _, rfl, ite2 (fun e => ?_) (fun e => ?_)⟩
    · have e' : ch h s ≤ N := by have := of_decide_eq_true e; omega
      have l2 := lim h e'
      refine ⟨fun σ' H'' => ∃ l' h' : Nat, σ' = [some (.int N), some (.int s), some (.int l'), some (.int h'), none] ∧ H'' = H' ∧ s ≤ l' ∧ l' < h' ∧ ch l' s ≤ N ∧ h' ≤ 2 * (s + N) + 2 ∧ h < h', ?_, ?_⟩
      · rintro σ' H'' ⟨l', h', rfl, rfl, g1, g2, g3, g4, g5⟩
        exact ⟨2 * (s + N) + 3 - h', by omega, l', h', rfl, rfl, rfl, g1, g2, g3, g4⟩
      · refine ⟨_, rfl, _, rfl, _, _, rfl, rfl, .inl ⟨by decide, by decide⟩, _, _, rfl, rfl, _, _, rfl, ?_⟩
        exact ⟨h, 2 * h + 2, rfl, rfl, by omega, by omega, e', by omega, by omega⟩
    · have e' : N < ch h s := by
        by_cases z : ch h s ≤ N
        · exact absurd (decide_eq_true (by omega)) e
        · omega
      refine ⟨fun m σ H'' => ∃ (l' h' : Nat) (y : Option V), σ = [some (.int N), some (.int s), some (.int l'), some (.int h'), y] ∧ H'' = H' ∧ m = h' - l' ∧ l' < h' ∧ h' ≤ 2 * (s + N) + 2 ∧ ch l' s ≤ N ∧ N < ch h' s,
        ⟨_, l, h, none, rfl, rfl, rfl, h1, h3, h2, e'⟩, ?_⟩
      rintro m σ H'' ⟨l, h, y, rfl, rfl, rfl, g1, g2, g3, g4⟩
      refine ⟨_, rfl, _, rfl, _, _, rfl, rfl, _, _, rfl, rfl, _, rfl, ite2 (fun e => ?_) (fun e => ?_)⟩
      · have e2 : 1 < h - l := by have := of_decide_eq_true e; omega
        refine ⟨fun σ' H2 => ∃ (l' h' : Nat) (y : Option V), σ' = [some (.int N), some (.int s), some (.int l'), some (.int h'), y] ∧ H2 = H'' ∧ l' < h' ∧ h' ≤ 2 * (s + N) + 2 ∧ ch l' s ≤ N ∧ N < ch h' s ∧ h' - l' < h - l, ?_, ?_⟩
        · rintro σ' H2 ⟨l', h', y', rfl, rfl, k1, k2, k3, k4, k5⟩
          exact ⟨h' - l', k5, l', h', y', rfl, rfl, rfl, k1, k2, k3, k4⟩
        · obtain ⟨c, hc, hc1, hc2⟩ : ∃ c : Nat, ((l : Int) + (h : Int)).fdiv 2 = (c : Int) ∧ l < c ∧ c < h := by
            rw [Int.fdiv_eq_ediv_of_nonneg _ (by decide)]
            exact ⟨(l + h) / 2, by omega, by omega, by omega⟩
          refine ⟨_, rfl, _, rfl, _, _, rfl, rfl, _, _, rfl, rfl, ⟨by decide, by decide⟩, ?_⟩
          simp only [hc]
          refine ⟨_, rfl, _, rfl, c, s, rfl, lt2000 (by omega) hs hN, by omega, _, rfl, _, _, rfl, rfl, _, rfl, ite2 (fun e3 => ?_) (fun e3 => ?_)⟩
          · have e4 : ch c s ≤ N := by have := of_decide_eq_true e3; omega
            exact ⟨_, rfl, c, h, _, rfl, rfl, hc2, g2, e4, g4, by omega⟩
          · have e4 : N < ch c s := by
              by_cases z : ch c s ≤ N
              · exact absurd (decide_eq_true (by omega)) e3
              · omega
            exact ⟨_, rfl, l, c, _, rfl, rfl, hc1, by omega, g3, e4, by omega⟩
      · have e2 : h = l + 1 := by
          by_cases z : 1 < h - l
          · exact absurd (decide_eq_true (by omega)) e
          · omega
        subst e2
        exact ⟨_, rfl, q l g3 g4⟩
def sp_l_cascade : Sp := fun vs H Q _ => ∃ N s : Nat, vs = [.int N, .int s] ∧ N < 2 ^ 1900 ∧ 1 ≤ s ∧ s ≤ 17 ∧ RetT (tz (cc s N)) H Q
theorem ok_l_cascade (T : Txt K mg) : FnOk P w K mg base CX0 4 T.f_l_cascade T.d_l_cascade ["number", "size"] sp_l_cascade := by
  have F_l_choose := ok_choose (P := P) (w := w) (base := base) T
  have F_l_top := ok_l_top (P := P) (w := w) (base := base) T
  refine T.U_l_cascade.ok sc_l_cascade (fun vs H Q E h => ?_) (fun cdv A outer s H vs Q E hr h => ?_)
  · obtain ⟨n, l, rfl, _⟩ := h
    rfl
  · obtain ⟨N, s, rfl, hN, hs1, hs, q⟩ := h
    refine ⟨_, (pss_cons (ps_par rfl sc_l_cascade.nd (i := 2) (j := 3) rfl rfl (by decide) rfl rfl (pa_cons (pe_lst pa_nil) (pa_cons (pv 0) pa_nil)) (by rfl))
  (pss_cons (ps_for PassesOwn.never rfl (pi_range3 rfl T.n_range (pa_cons (pv 1) (pa_cons pe_int (pa_cons (pe_un un_neg pe_int) pa_nil)))) (pg_name (i := 4) sc_l_cascade.nd rfl (.inl rfl)) (pss_one (ps_if (pt_cmpR op_gt (pv 3) pe_int (nomark _)) (pss_cons (ps_set (i := 5) sc_l_cascade.nd rfl (.inl rfl) (pe_call F_l_top (hr.mono (by decide)) (by rfl) T.g_l_top T.k_l_top T.b_l_top .nil pass0 (pa_cons (pv 3) (pa_cons (pv 4) pa_nil))))
  (pss_cons (ps_expr (pe_bm PySem.F.plainAttrs_list PySem.F.slot_list_append PySem.F.type_list_append mt_append (pv 2) (pa_cons (pv 5) pa_nil)))
  (pss_one (ps_set (i := 3) sc_l_cascade.nd rfl (.inl rfl) (pe_op op_sub (pv 3) (pe_call F_l_choose (hr.mono (by decide)) (by rfl) T.g_l_choose T.k_l_choose T.b_l_choose .nil pass0 (pa_cons (pv 5) (pa_cons (pv 4) pa_nil)))))))) pss_nil)))
  (pss_one (ps_ret (pe_callTy call_tuple_of (by rfl) T.n_tuple (by decide +kernel) (pa_cons (pv 2) pa_nil)))))), ?_⟩
    refine ⟨Nat.zero_le _, fun o no => ⟨_, rfl, _, _, rfl, ?_⟩⟩
    refine ⟨_, rfl, _, rfl, _, _, _, s, rfl, RgC.neg (by omega) (by omega) (by omega) (by omega), ?_⟩
    refine for_rangeC (fun i σ' H' => ∃ (xs : List Nat) (r : Nat) (y z : Option V), σ' = [some (.int N), some (.int s), some (.ref o), some (.int r), y, z] ∧ Cas s xs ∧ (1 ≤ r → xs.length = i) ∧ val s xs + r = N ∧ (∀ b, xs.getLast? = some b → r < ch b (s - i)) ∧ Ex H H' ∧ H' o = some (.lst (tz xs)))
      ⟨[], N, none, none, rfl, Cas.nil s, fun _ => rfl, Nat.zero_add N, fun b h => (nomatch h), Ex.new no, upd_same⟩ ?_ ?_
    · rintro i σ' H' hi ⟨xs, r, y, z, rfl, c, h1, h2, h3, ex, ho⟩
      obtain ⟨m, hm, hm2⟩ : ∃ m : Nat, ((s : Int) + (i : Nat) * (-1)) = (m : Int) ∧ m = s - i := ⟨s - i, by omega, rfl⟩
      rw [hm]
      rw [← hm2] at h3
      refine ⟨_, rfl, _, _, rfl, rfl, _, rfl, ite2 (fun e => ?_) (fun e => ?_)⟩
      · have hr0 : 1 ≤ r := by have := of_decide_eq_true e; omega
        have hx := h1 hr0
        have hp : 1 ≤ m := by omega
        refine ⟨_, rfl, _, rfl, r, m, rfl, hr0, by omega, hp, by omega, fun a ha1 ha2 => ?_⟩
        obtain ⟨c2, hlt⟩ := cas_add c (by omega) hp hr0 h3 ha1 ha2
        refine ⟨_, rfl, .inl ⟨rfl, _, SqL.of ho⟩, _, rfl, o, _, _, rfl, rfl, ho, ?_, ?_⟩
        · rw [tz_len]
          exact small1000 (by omega)
        · have hal := top_lt hp ha1 hr0
          have hbig := big_pow (show r < 2 ^ 1900 by omega) m (by omega)
          refine ⟨_, rfl, _, rfl, _, rfl, a, m, rfl, ?_, by omega, _, _, rfl, rfl, ?_⟩
          · have := Nat.pow_lt_pow_right (a := 2) (m := 1910) (n := 2000) (by decide) (by decide)
            omega
          refine ⟨xs ++ [a], r - ch a m, some (.int m), some (.int a), ?_, c2, ?_, ?_, ?_, Ex.mut ex no, ?_⟩
          · have e1 : ((r : Int) - ((ch a m : Nat) : Int)) = ((r - ch a m : Nat) : Int) := by omega
            rw [← e1]
            rfl
          · intro _
            rw [List.length_append, List.length_singleton]
            omega
          · rw [val_snoc, show s - xs.length = m by omega]
            omega
          · intro b hb
            rw [List.getLast?_append] at hb
            have : a = b := by simpa using hb
            subst this
            rw [show s - (i + 1) = m - 1 by omega]
            exact hlt
          · rw [tz_snoc]
            exact upd_same
      · have hr0 : r = 0 := by
          by_cases z : 0 < r
          · exact absurd (decide_eq_true (by omega)) e
          · omega
        subst hr0
        refine ⟨xs, 0, some (.int m), z, rfl, c, fun h => absurd h (by decide), h2, fun b hb => ?_, ex, ho⟩
        have hb2 : b ∈ xs := List.mem_of_getLast? hb
        obtain ⟨j, hj⟩ := List.getElem?_of_mem hb2
        have hlow := c.low j b hj
        have hjl := (List.getElem?_eq_some_iff.mp hj).1
        have h4 := h3 b hb
        have h5 : m ≤ b := by
          by_cases z : m ≤ b
          · exact z
          · rw [ch_lt (by omega)] at h4
            omega
        exact ch_pos (by omega)
    · rintro σ' H' ⟨xs, r, y, z, rfl, c, h1, h2, h3, ex, ho⟩
      have hr0 : r = 0 := by
        by_cases z : r = 0
        · exact z
        · have hx := h1 (by omega)
          cases hl : xs.getLast? with
          | none =>
            rw [List.getLast?_eq_none_iff] at hl
            subst hl
            simp at hx
            omega
          | some b =>
            have := h3 b hl
            rw [Nat.sub_self, ch_zero] at this
            omega
      subst hr0
      have e := cc_eq hs1 c (show val s xs = N by omega)
      subst e
      refine ⟨_, rfl, o, _, rfl, .inl ⟨SqL.of ho, fun l hl => ?_⟩⟩
      exact q l _ (fresh_back ex hl) (ex.trans (Ex.new hl)) upd_same
theorem ok_l_lower_sets (T : Txt K mg) : FnOk P w K mg base CX0 5 T.f_l_lower_sets T.d_l_lower_sets ["number", "size"] sp_low := by
  have F_l_choose := ok_choose (P := P) (w := w) (base := base) T
  have F_l_cascade := ok_l_cascade (P := P) (w := w) (base := base) T
  refine T.U_l_lower_sets.ok sc_l_lower_sets (fun vs H Q E h => ?_) (fun cdv A outer s H vs Q E hr h => ?_)
  · obtain ⟨_, _, _, _, rfl, _⟩ := h
    rfl
  · obtain ⟨_, _, N, s, rfl, rfl, rfl, hN, hs1, hs, q⟩ := h
    refine ⟨_, (pss_one (ps_ret (pe_callB (cr_sum rfl) (by rfl) T.n_sum (by decide +kernel) (pa_cons (pe_lc (own := [("at", 2), ("a", 3)]) (g := gTup K 2 (gCons (gName 2) (gCons (gName 3) (gNil)))) (tt := tYes) rfl sc_l_lower_sets.nd (pi_enumT (by rfl) T.n_enumerate (pa_cons (pe_call F_l_cascade (hr.mono (by decide)) (by rfl) T.g_l_cascade T.k_l_cascade T.b_l_cascade .nil pass0 (pa_cons (pv 0) (pa_cons (pv 1) pa_nil))) pa_nil)) (blkOk_by (own := [("at", 2), ("a", 3)]) (N := ["number", "size", "at", "a"]) (sc := defScope s_l_lower_sets) (by decide +kernel)) (fun _ _ _ _ _ => pg_tup rfl (pgs_cons (pg_name (i := 2) sc_l_lower_sets.nd rfl (Or.inl rfl)) (pgs_cons (pg_name (i := 3) sc_l_lower_sets.nd rfl (Or.inl rfl)) pgs_nil))) (fun _ _ _ _ _ => pts_nil) (fun _ _ _ _ _ => (pe_call F_l_choose (hr.mono (by decide)) (by rfl) T.g_l_choose T.k_l_choose T.b_l_choose .nil pass0 (pa_cons (pv 3) (pa_cons (pe_op op_sub (pe_op op_sub (pv 1) (pv 2)) pe_int) pa_nil))))) pa_nil)))), ?_⟩
    have C := cc_cas (s := s) (n := N) hs1
    have hl := C.1.len
    refine r_ret (r_cb (r_arg ?_))
    refine el_lcEN (H := H) (xs := tz (cc s N)) (fun H1 e1 Q1 q1 => ⟨_, rfl, _, rfl, N, s, rfl, hN, hs1, hs, fun p H2 np e2 hp => q1 p H2 e2 hp⟩) (fun _ => true)
      (fun i => .int (((terms (gL 0) s (cc s N)).getD i 0 : Nat) : Int)) (by rw [tz_len]; omega) ?_ H (Ex.refl H) _ ?_
    · intro i x T2 H2 e hx hT
      obtain ⟨a, ha, rfl⟩ := tz_at hx
      have hi := (List.getElem?_eq_some_iff.mp ha).1
      have hitem := cas_items C.1 hs (by rw [C.2]; exact hN) a (List.mem_of_getElem? ha)
      refine ⟨[some (.int N), some (.int s), some (.int i), some (.int a)], fun k hk => two_get hT hk, rfl, et_yes, fun _ => ?_⟩
      intro H3 e3 Q3 q3
      refine ⟨_, rfl, _, rfl, _, rfl, _, _, rfl, rfl, _, _, rfl, rfl, a, s - i - 1, ?_, ?_, by omega, ?_⟩
      · show [V.int a, V.int ((s : Int) - (i : Int) - 1)] = _
        rw [show (s : Int) - (i : Int) - 1 = ((s - i - 1 : Nat) : Int) by omega]
      · have := lt_2000 hitem
        omega
      · have e5 : (terms (gL 0) s (cc s N)).getD i 0 = ch a (s - i - 1) := by
          rw [List.getD_eq_getElem?_getD, terms_get, ha]
          rfl
        rw [e5] at q3
        exact q3 H3 (Ex.refl H3)
    · intro p H2 np e hp
      rw [given_all] at hp
      rw [tz_range _ (by rw [terms_len, tz_len])] at hp
      refine ⟨p, iz (terms (gL 0) s (cc s N)), rfl, SqL.of hp, ?_⟩
      rw [iz_sum]
      exact q H2 e
end
end K34

namespace K34
open PySem PySem.Spec PyProof.Rows L2 Hr HrM Evl LamX
section
variable {P : Program} {w : World} {K : PySem.W.Frag} {mg : Str → Option Value} {base : Heap}
theorem all0 {hs : List Int} : (hs.all fun x => decide (0 ≤ x)) = true ↔ ∀ k, k < hs.length → 0 ≤ hs.getD k 0 := by
  rw [List.all_eq_true]
  constructor
  · intro h k hk
    have := h (hs.getD k 0) (by rw [List.getD_eq_getElem?_getD, List.getElem?_eq_getElem hk]; exact List.getElem_mem hk)
    exact of_decide_eq_true this
  · intro h x hx
    obtain ⟨i, hi, rfl⟩ := List.mem_iff_getElem.mp hx
    have := h i hi
    rw [List.getD_eq_getElem?_getD, List.getElem?_eq_getElem hi] at this
    exact decide_eq_true this
def sp_is_holes_for : Sp := fun vs H Q _ => ∃ (c t : Addr) (xs : List Nat) (hs : List Int), vs = [.ref c, .ref t] ∧ H c = some (.tup (tz xs)) ∧ H t = some (.tup (iV hs)) ∧ hs.length = xs.length ∧ xs.length ≤ 4 ∧ RetV (.bl (hs.all fun x => decide (0 ≤ x))) H Q
theorem ok_is_holes_for (T : Txt K mg) : FnOk P w K mg base CX0 4 T.f_is_holes_for T.d_is_holes_for ["counts", "thing"] sp_is_holes_for := by
  have F_are_integers_from := ok_are_integers_from (P := P) (w := w) (base := base) T
  refine T.U_is_holes_for.ok sc_is_holes_for (fun vs H Q E h => ?_) (fun cdv A outer s H vs Q E hr h => ?_)
  · obtain ⟨_, _, _, _, rfl, _⟩ := h
    rfl
  · obtain ⟨c, t, xs, hs, rfl, hc, ht, hl, h4, q⟩ := h
    refine ⟨_, (pss_one (ps_ret (pe_and (pe_call F_are_integers_from (hr.mono (by decide)) (by rfl) T.g_are_integers_from T.k_are_integers_from T.b_are_integers_from .nil pass0 (pa_cons (pv 1) (pa_cons pe_int pa_nil))) (pe_one (pe_cmpR op_eq (pe_callB call_len_seq (by rfl) T.n_len PySem.boot_len (pa_cons (pv 1) pa_nil)) (pe_callB call_len_seq (by rfl) T.n_len PySem.boot_len (pa_cons (pv 0) pa_nil)) (nomark _)))))), ?_⟩
    refine ⟨_, rfl, t, 0, hs, rfl, ht, by omega, fun H2 e2 => ?_⟩
    refine ⟨_, rfl, ?_⟩
    cases ha : hs.all fun x => decide (0 ≤ x) with
    | false =>
      rw [ha] at q
      exact iteF (q H2 e2)
    | true =>
      rw [ha] at q
      refine iteT ⟨_, rfl, t, _, rfl, .inr (SqT.of (e2 _ _ ht)), _, rfl, c, _, rfl, .inr (SqT.of (e2 _ _ hc)), rfl, ?_⟩
      exact q_bl (Q := Q) (decide_eq_true (by rw [tz_len, iV_len, hl])) (q H2 e2)
/-- the rests, from the last one on -/
theorem back_step {rs : List Int} {n : Nat} (h : n < rs.length) : (iV (rs.drop n).reverse) = iV (rs.drop (n + 1)).reverse ++ [.int (rs.getD n 0)] := by
  have e : rs.drop n = rs.getD n 0 :: rs.drop (n + 1) := by
    rw [List.drop_eq_getElem_cons h, List.getD_eq_getElem?_getD, List.getElem?_eq_getElem h]
    rfl
  rw [e, List.reverse_cons]
  unfold iV
  rw [List.map_append]
  rfl
theorem back_first {cs hs : List Int} (h : cs.length = hs.length) : iV ((rI cs hs).drop cs.length).reverse = [.int 0] := by
  rw [back_step (by rw [rI_len h]; omega), rI_end h, List.drop_eq_nil_of_le (by rw [rI_len h]; omega)]
  rfl
def sp_rests_of : Sp := fun vs H Q _ => ∃ (c t : Addr) (xs : List Nat) (hs : List Int), vs = [.ref c, .ref t] ∧ Cnt xs ∧ H c = some (.tup (tz xs)) ∧ H t = some (.tup (iV hs)) ∧ hs.length = xs.length ∧ (hs.all fun x => decide (0 ≤ x)) = true ∧ RetT (iV (rI (iz xs) hs)) H Q
theorem ok_rests_of (T : Txt K mg) : FnOk P w K mg base CX0 6 T.f_rests_of T.d_rests_of ["counts", "holes"] sp_rests_of := by
  have F_check_some_counts := ok_check_some_counts (P := P) (w := w) (base := base) T
  have F_is_holes_for := ok_is_holes_for (P := P) (w := w) (base := base) T
  refine T.U_rests_of.ok sc_rests_of (fun vs H Q E h => ?_) (fun cdv A outer s H vs Q E hr h => ?_)
  · obtain ⟨_, _, _, _, rfl, _⟩ := h
    rfl
  · obtain ⟨c, t, xs, hs, rfl, C, hc, ht, hl, ha, q⟩ := h
    refine ⟨_, (pss_cons (ps_expr (pe_call F_check_some_counts (hr.mono (by decide)) (by rfl) T.g_check_some_counts T.k_check_some_counts T.b_check_some_counts .nil pass0 (pa_cons (pv 0) pa_nil)))
  (pss_cons (ps_if (pt_not (pt_val (pe_call F_is_holes_for (hr.mono (by decide)) (by rfl) T.g_is_holes_for T.k_is_holes_for T.b_is_holes_for .nil pass0 (pa_cons (pv 0) (pa_cons (pv 1) pa_nil))))) (pss_one ps_never) pss_nil)
  (pss_cons (ps_set (i := 2) sc_rests_of.nd rfl (.inl rfl) (pe_lst (pa_cons pe_int pa_nil)))
  (pss_cons (ps_for PassesOwn.never rfl (pi_revR (by rfl) T.n_reversed (prg_1 (by rfl) T.n_range (pe_callB call_len_seq (by rfl) T.n_len PySem.boot_len (pa_cons (pv 0) pa_nil)))) (pg_name (i := 3) sc_rests_of.nd rfl (.inl rfl)) (pss_one (ps_expr (pe_bm PySem.F.plainAttrs_list PySem.F.slot_list_append PySem.F.type_list_append mt_append (pv 2) (pa_cons (pe_op op_sub (pe_op op_sub (pe_ix ix_tup (pv 0) (pv 3) (fun _ _ => rfl)) (pe_ix ix_tup (pv 1) (pv 3) (fun _ _ => rfl))) (pe_ix ix_list (pv 2) (pe_un un_neg pe_int) (fun _ _ => rfl))) pa_nil)))))
  (pss_one (ps_ret (pe_callTy call_tuple_of (by rfl) T.n_tuple (by decide +kernel) (pa_cons (pe_revL (pv 2)) pa_nil)))))))), ?_⟩
    have hn := C.fit.ne
    have h4 := C.fit.len
    have hlz : (iz xs).length = hs.length := by rw [iz_len, hl]
    have hrl := rI_len hlz
    rw [iz_len] at hrl
    refine ⟨_, rfl, c, xs, rfl, C, hc, fun H2 e2 => ?_⟩
    refine ⟨_, rfl, _, rfl, c, t, xs, hs, rfl, e2 _ _ hc, e2 _ _ ht, hl, h4, fun H3 e3 => ⟨_, rfl, ?_⟩⟩
    rw [ha]
    refine iteF ?_
    refine ⟨by show 1 ≤ sizeLine; decide, fun o no => ?_⟩
    have e23 := e2.trans e3
    have e4 := e23.trans (Ex.new (o := .lst [.int 0]) no)
    refine ⟨_, rfl, c, _, rfl, .inr (SqT.of (e4 _ _ hc)), _, rfl, by omega, by omega, ?_⟩
    rw [tz_len]
    refine ⟨by omega, by omega, ?_⟩
    refine for_rangeC (n := ((xs.length : Int) - 0).toNat) (fun i σ' H' => ∃ y : Option V, σ' = [some (.ref c), some (.ref t), some (.ref o), y] ∧ Ex H H' ∧ H' o = some (.lst (iV ((rI (iz xs) hs).drop (xs.length - i)).reverse)) ∧ H o = none) ⟨none, rfl, e4, ?_, fresh_back e23 no⟩ ?_ ?_
    · rw [Nat.sub_zero]
      have := back_first hlz
      rw [iz_len] at this
      rw [this]
      exact upd_same
    · rintro i σ' H' hi ⟨y, rfl, ex, ho, hno⟩
      have hid : i < xs.length := by omega
      obtain ⟨k, hk, hk2⟩ : ∃ k : Nat, (0 + ((((xs.length : Int) - 0).toNat : Nat) : Int) - 1 + (i : Nat) * (-1)) = (k : Int) ∧ k + 1 + i = xs.length := ⟨xs.length - 1 - i, by omega, by omega⟩
      rw [hk]
      have ek : xs.length - i = k + 1 := by omega
      rw [ek, back_step (by omega)] at ho
      refine ⟨_, rfl, .inl ⟨rfl, _, SqL.of ho⟩, _, rfl, _, rfl, c, _, _, _, rfl, rfl, SqT.of (ex _ _ hc), atI_nat (tz_ix (by omega)), _, rfl, _, rfl, t, _, _, _, rfl, rfl, SqT.of (ex _ _ ht), atI_nat (iV_ix (by omega)), _, _, rfl, rfl, _, rfl, _, rfl, o, _, _, _, rfl, rfl, SqL.of ho, atI_last _ _, _, _, rfl, rfl, o, _, _, rfl, rfl, ho, ?_, ?_⟩
      · rw [List.length_append, iV_len, List.length_reverse, List.length_drop]
        refine small1000 ?_
        simp only [List.length_singleton]
        omega
      · refine ⟨some (.int (k : Int)), rfl, Ex.mut ex hno, ?_, hno⟩
        rw [upd_same, show xs.length - (i + 1) = k by omega, back_step (n := k) (by omega), back_step (n := k + 1) (by omega)]
        rw [rI_at k hlz (by rw [iz_len]; omega), iz_at]
    · rintro σ' H' ⟨y, rfl, ex, ho, hno⟩
      rw [show xs.length - ((xs.length : Int) - 0).toNat = 0 by omega, List.drop_zero] at ho
      refine ⟨_, rfl, o, _, rfl, SqL.of ho, fun p np => ⟨p, _, rfl, .inl ⟨SqL.of upd_same, fun l nl' => ?_⟩⟩⟩
      have er : ∀ rs : List Int, (iV rs.reverse).reverse = iV rs := fun rs => by
        unfold iV
        rw [List.map_reverse, List.reverse_reverse]
      rw [er] at nl' ⊢
      exact q l _ (fresh_back (ex.trans (Ex.new np)) nl') ((ex.trans (Ex.new np)).trans (Ex.new nl')) upd_same
/-- more sets than the rest lets -/
noncomputable def ov (rs hs : List Int) (k : Nat) : Bool := if rs.getD k 0 < 0 ∨ rs.getD (k + 1) 0 < 0 then false else decide (rs.getD k 0 < ((Lf 0 (k + 1) (rs.getD (k + 1) 0 + hs.getD k 0).toNat : Nat) : Int))
def sp_is_overfull (P0 : Addr) : Sp := fun vs H Q _ => ∃ (r t : Addr) (rs hs : List Int) (k : Nat), vs = [.ref r, .ref t, .int k] ∧ H r = some (.tup (iV rs)) ∧ H t = some (.tup (iV hs)) ∧ k + 1 < rs.length ∧ k < hs.length ∧ k + 1 ≤ 17 ∧ 0 ≤ hs.getD k 0 ∧ (rs.getD (k + 1) 0 + hs.getD k 0).toNat < 2 ^ 1900 ∧ Tabs (topT P0) H ∧ RetVk (topT P0) (.bl (ov rs hs k)) H Q
theorem ok_is_overfull (T : Txt K mg) (TB : TabB base mg T.c_greatest_top T.P_greatest_top) : FnOk P w K mg base CX0 6 T.f_is_overfull T.d_is_overfull ["rests", "holes", "k"] (sp_is_overfull T.P_greatest_top) := by
  have F_lower_sets := ok_lower_sets (P := P) (w := w) (base := base) T TB
  refine T.U_is_overfull.ok sc_is_overfull (fun vs H Q E h => ?_) (fun cdv A outer s H vs Q E hr h => ?_)
  · obtain ⟨_, _, _, _, _, rfl, _⟩ := h
    rfl
  · obtain ⟨r, t, rs, hs, k, rfl, hr', ht, h1, h2, h3, h0, hb, hT, q⟩ := h
    refine ⟨_, (pss_cons (ps_if (PW.pt (pw_or (pt_cmpR op_lt (pe_ix ix_tup (pv 0) (pv 2) (fun _ _ => rfl)) pe_int (nomark _)) (pw_or1 (pt_cmpR op_lt (pe_ix ix_tup (pv 0) (pe_op op_add (pv 2) pe_int) (fun _ _ => rfl)) pe_int (nomark _))))) (pss_one (ps_ret pe_bl)) pss_nil)
  (pss_one (ps_ret (pe_cmpR op_gt (pe_call F_lower_sets (hr.mono (by decide)) (by rfl) T.g_lower_sets T.k_lower_sets T.b_lower_sets .nil pass0 (pa_cons (pe_op op_add (pe_ix ix_tup (pv 0) (pe_op op_add (pv 2) pe_int) (fun _ _ => rfl)) (pe_ix ix_tup (pv 1) (pv 2) (fun _ _ => rfl))) (pa_cons (pe_op op_add (pv 2) pe_int) pa_nil))) (pe_ix ix_tup (pv 0) (pv 2) (fun _ _ => rfl)) (nomark _))))), ?_⟩
    have ek : (k : Int) + 1 = ((k + 1 : Nat) : Int) := by omega
    have fin : ∀ H2, Ek (topT T.P_greatest_top) H H2 → ov rs hs k = false → Q (.bl false) H2 := fun H2 e2 e => by
      have := q H2 e2
      rw [e] at this
      exact this
    refine ⟨_, rfl, _, rfl, r, _, _, _, rfl, rfl, SqT.of hr', atI_nat (iV_ix (by omega)), _, _, rfl, rfl, _, rfl, ite2 (fun e => ?_) (fun e => ?_)⟩
    · refine iteT (fin H (Ek.refl H) ?_)
      exact if_pos (.inl (of_decide_eq_true e))
    have e1 : 0 ≤ rs.getD k 0 := by
      by_cases z : rs.getD k 0 < 0
      · exact absurd (decide_eq_true z) e
      · omega
    refine ⟨_, rfl, _, rfl, _, _, rfl, rfl, r, _, _, _, rfl, rfl, SqT.of hr', atI_is ek (iV_ix h1), _, _, rfl, rfl, _, rfl, ite2 (fun e => ?_) (fun e => ?_)⟩
    · refine fin H (Ek.refl H) ?_
      exact if_pos (.inr (of_decide_eq_true e))
    have e2 : 0 ≤ rs.getD (k + 1) 0 := by
      by_cases z : rs.getD (k + 1) 0 < 0
      · exact absurd (decide_eq_true z) e
      · omega
    refine ⟨_, rfl, _, rfl, _, _, rfl, rfl, r, _, _, _, rfl, rfl, SqT.of hr', atI_is ek (iV_ix h1), _, rfl, _, rfl, t, _, _, _, rfl, rfl, SqT.of ht, atI_nat (iV_ix h2), _, _, rfl, rfl, _, rfl, _, _, rfl, rfl, _, _, (rs.getD (k + 1) 0 + hs.getD k 0).toNat, k + 1, rfl, by omega, ek, hb, by omega, h3, hT, fun H2 e2' => ?_⟩
    refine ⟨_, rfl, _, rfl, r, _, _, _, rfl, rfl, SqT.of (e2'.get hr'), atI_nat (iV_ix (by omega)), _, _, rfl, rfl, ?_⟩
    have eo : ov rs hs k = decide (rs.getD k 0 < ((Lf 0 (k + 1) (rs.getD (k + 1) 0 + hs.getD k 0).toNat : Nat) : Int)) := if_neg (by omega)
    have := q H2 e2'
    rw [eo] at this
    exact this
end
end K34

namespace K34
open PySem PySem.Spec PyProof.Rows L2 Hr HrM Evl RZ LamX
section
variable {P : Program} {w : World} {K : PySem.W.Frag} {mg : Str → Option Value} {base : Heap}
/-- a row of holes of bounded numbers -/
structure Hol (xs : List Nat) (hs : List Int) : Prop where
  len : hs.length = xs.length
  low : ∀ k, k < xs.length → 0 ≤ hs.getD k 0
  high : ∀ k, k < xs.length → hs.getD k 0 ≤ 2 ^ 801
theorem Hol.all {xs : List Nat} {hs : List Int} (h : Hol xs hs) : (hs.all fun x => decide (0 ≤ x)) = true := all0.mpr fun k hk => h.low k (by rw [← h.len]; exact hk)
theorem rests_small {xs : List Nat} {hs : List Int} (C : Cnt xs) (h : Hol xs hs) {k : Nat} (hk : k < xs.length) : ((rI (iz xs) hs).getD (k + 1) 0 + hs.getD k 0).toNat < 2 ^ 1900 := by
  have h4 := C.fit.len
  have hB : (0 : Int) ≤ 2 ^ 801 := Int.le_of_lt (Int.pow_pos (by decide))
  have hp : ((2 ^ 800 : Nat) : Int) ≤ 2 ^ 801 := by
    have : (2 : Int) ^ 801 = ((2 ^ 801 : Nat) : Int) := by norm_cast
    rw [this]
    exact Int.ofNat_le.mpr (Nat.pow_le_pow_right (by decide) (by decide))
  have z := rI_small (cs := iz xs) (hs := hs) (B := 2 ^ 801) (by rw [iz_len, h.len]) (fun j hj => by
    rw [iz_len] at hj
    have h1 := h.low j hj
    have h2 := h.high j hj
    have h3 := C.small j hj
    rw [iz_at]
    generalize (2 : Int) ^ 801 = B at *
    generalize (2 : Nat) ^ 800 = A at *
    omega) hB (xs.length - (k + 1)) (k + 1) (by rw [iz_len]; omega)
  have h2 := h.high k hk
  have e : ((2 : Int) ^ 801) = (((2 ^ 801 : Nat)) : Int) := by norm_cast
  have big : 8 * 2 ^ 801 ≤ 2 ^ 1900 := by
    have : 8 * 2 ^ 801 = 2 ^ 804 := by rw [show (8 : Nat) = 2 ^ 3 from rfl, ← Nat.pow_add]
    rw [this]
    exact Nat.pow_le_pow_right (by decide) (by decide)
  have h1 : 1 ≤ 2 ^ 801 := Nat.one_le_two_pow
  rw [e] at z h2
  have z2 := z.2
  have cs : ((xs.length - (k + 1) : Nat) : Int) * ((2 ^ 801 : Nat) : Int) ≤ 4 * ((2 ^ 801 : Nat) : Int) := Int.mul_le_mul_of_nonneg_right (by omega) (by omega)
  generalize ((xs.length - (k + 1) : Nat) : Int) * ((2 ^ 801 : Nat) : Int) = M at *
  generalize (2 : Nat) ^ 801 = B at *
  generalize (2 : Nat) ^ 1900 = D at *
  omega
theorem filt0 {n : Nat} {f : Nat → Bool} : ((List.range n).filter f).length = 0 ↔ ∀ i, i < n → f i = false := by
  rw [List.length_eq_zero_iff, List.filter_eq_nil_iff]
  constructor
  · intro h i hi
    have := h i (List.mem_range.mpr hi)
    cases e : f i with
    | false => rfl
    | true => exact absurd e this
  · intro h i hi e
    rw [h i (List.mem_range.mp hi)] at e
    cases e
theorem good_iff {xs : List Nat} {hs : List Int} : GoodR (iz xs) hs ↔ (∀ i, i < xs.length + 1 → decide ((rI (iz xs) hs).getD i 0 < 0) = false) ∧ (rI (iz xs) hs).getD 0 0 = 1 ∧ ∀ i, i < xs.length - 1 → ov (rI (iz xs) hs) hs (i + 1) = false := by
  unfold GoodR
  rw [iz_len]
  constructor
  · rintro ⟨h1, h2, h3⟩
    refine ⟨fun i hi => decide_eq_false (by have := h1 i (by omega); omega), h2, fun i hi => ?_⟩
    unfold ov
    have a := h1 (i + 1) (by omega)
    have b := h1 (i + 1 + 1) (by omega)
    rw [if_neg (by omega)]
    have := h3 (i + 1) (by omega) (by omega)
    exact decide_eq_false (by omega)
  · rintro ⟨h1, h2, h3⟩
    have h1' : ∀ k, k ≤ xs.length → 0 ≤ (rI (iz xs) hs).getD k 0 := fun k hk => by
      have := of_decide_eq_false (h1 k (by omega))
      omega
    refine ⟨h1', h2, fun k hk1 hk2 => ?_⟩
    have := h3 (k - 1) (by omega)
    rw [show k - 1 + 1 = k by omega] at this
    unfold ov at this
    have a := h1' k (by omega)
    have b := h1' (k + 1) (by omega)
    rw [if_neg (by omega)] at this
    have := of_decide_eq_false this
    omega
/-- the certificates' first word -/
def NotFits (us : List V) : Prop := ∃ (x : Str) (z : V), us = [.str x, z] ∧ x ≠ "fits"
def sp_rows_certificates (P0 : Addr) : Sp := fun vs H Q _ => ∃ (c t : Addr) (xs : List Nat) (hs : List Int), vs = [.ref c, .ref t] ∧ Cnt xs ∧ Hol xs hs ∧ H c = some (.tup (tz xs)) ∧ H t = some (.tup (iV hs)) ∧
  Tabs (topT P0) H ∧ ∀ p a ts (x : Str) z H2, Ek (topT P0) H H2 → H2 p = some (.lst (.ref a :: ts)) → H2 a = some (.tup [.str x, z]) → (x = "fits" ↔ GoodR (iz xs) hs) → Q (.ref p) H2
theorem ok_rows_certificates (T : Txt K mg) (TB : TabB base mg T.c_greatest_top T.P_greatest_top) : FnOk P w K mg base CX0 7 T.f_rows_certificates T.d_rows_certificates ["counts", "holes"] (sp_rows_certificates T.P_greatest_top) := by
  have F_rests_of := ok_rests_of (P := P) (w := w) (base := base) T
  have F_is_overfull := ok_is_overfull (P := P) (w := w) (base := base) T TB
  refine T.U_rows_certificates.ok sc_rows_certificates (fun vs H Q E h => ?_) (fun cdv A outer s H vs Q E hr h => ?_)
  · obtain ⟨_, _, _, _, rfl, _⟩ := h
    rfl
  · obtain ⟨c, t, xs, hs, rfl, C, L, hc, ht, hT, q⟩ := h
    refine ⟨_, (pss_cons (ps_set (i := 2) sc_rows_certificates.nd rfl (.inr rfl) (pe_call F_rests_of (hr.mono (by decide)) (by rfl) T.g_rests_of T.k_rests_of T.b_rests_of .nil pass0 (pa_cons (pv 0) (pa_cons (pv 1) pa_nil))))
  (pss_cons (ps_setLc (i := 3) (own := [("k", 4), ("rest", 5)]) (g := gTup K 2 (gCons (gName 4) (gCons (gName 5) (gNil)))) (tt := _) (by rfl) sc_rows_certificates.nd rfl rfl (sw_true rfl rfl rfl (by decide +kernel)) (pi_enumT (by rfl) T.n_enumerate (pa_cons (pv 2) pa_nil)) (blkOk_by (own := [("k", 4), ("rest", 5)]) (N := ["counts", "holes", "rests", "faults", "k", "rest"]) (sc := defScope s_rows_certificates) (by decide +kernel)) (fun _ _ _ _ _ => pg_tup rfl (pgs_cons (pg_name (i := 4) sc_rows_certificates.nd rfl (Or.inl rfl)) (pgs_cons (pg_name (i := 5) sc_rows_certificates.nd rfl (Or.inl rfl)) pgs_nil))) (fun _ _ _ _ _ => pts_one (pt_cmpR op_lt (pv 5) pe_int (nomark _))) (fun _ _ _ _ _ => (pe_tup (pa_cons pe_str (pa_cons (pv 4) pa_nil)))))
  (pss_cut (ps_if (pt_cmpR op_ne (pe_ix ix_tup (pv 2) pe_int (fun _ _ => rfl)) pe_int (nomark _)) (pss_one (ps_expr (pe_bm PySem.F.plainAttrs_list PySem.F.slot_list_append PySem.F.type_list_append mt_append (pv 3) (pa_cons (pe_tup (pa_cons pe_str (pa_cons (pe_ix ix_tup (pv 2) pe_int (fun _ _ => rfl)) pa_nil))) pa_nil)))) pss_nil)
  (pss_cons (ps_expr (pe_bm PySem.F.plainAttrs_list PySem.F.slot_list_extend PySem.F.type_list_extend mt_extend (pv 3) (pa_cons (pe_lc (own := [("k", 4)]) (g := gName 4) (tt := _) rfl sc_rows_certificates.nd (pi_range2 rfl T.n_range (pa_cons pe_int (pa_cons (pe_callB call_len_seq (by rfl) T.n_len PySem.boot_len (pa_cons (pv 0) pa_nil)) pa_nil))) (blkOk_by (own := [("k", 4)]) (N := ["counts", "holes", "rests", "faults", "k", "rest"]) (sc := defScope s_rows_certificates) (by decide +kernel)) (fun _ _ _ _ _ => pg_name (i := 4) sc_rows_certificates.nd rfl (Or.inl rfl)) (fun _ _ _ _ _ => pts_one (pt_val (pe_call F_is_overfull (hr.mono (by decide)) (by rfl) T.g_is_overfull T.k_is_overfull T.b_is_overfull .nil pass0 (pa_cons (pv 2) (pa_cons (pv 1) (pa_cons (pv 4) pa_nil)))))) (fun _ _ _ _ _ => (pe_tup (pa_cons pe_str (pa_cons (pv 4) pa_nil))))) pa_nil)))
  (pss_cons (ps_if (pt_cmpR op_gt (pe_callB call_len_seq (by rfl) T.n_len PySem.boot_len (pa_cons (pv 3) pa_nil)) pe_int (nomark _)) (pss_one (ps_ret (pv 3))) pss_nil)
  (pss_one (ps_ret (pe_lst (pa_cons (pe_tup (pa_cons pe_str (pa_cons (pv 2) pa_nil))) pa_nil))))))))), ?_⟩
    have hn := C.fit.ne
    have h4 := C.fit.len
    have hrl : (rI (iz xs) hs).length = xs.length + 1 := by rw [rI_len (by rw [iz_len, L.len]), iz_len]
    refine ⟨_, rfl, _, rfl, c, t, xs, hs, rfl, C, hc, ht, L.len, L.all, fun r H2 nr e2 hr2 => ?_⟩
    have gi := good_iff (xs := xs) (hs := hs)
    have ovb : ∀ k, k < xs.length → ((rI (iz xs) hs).getD (k + 1) 0 + hs.getD k 0).toNat < 2 ^ 1900 := fun k hk => rests_small C L hk
    generalize rI (iz xs) hs = rs at hrl hr2 gi ovb
    have hc2 := e2 _ _ hc
    have ht2 := e2 _ _ ht
    dsimp only
    refine r_seq (u_lcE (H := H2) (R := NotFits) hr2 (ea_cons (ev_var rfl) ea_nil) (fun i => decide (rs.getD i 0 < 0)) (by rw [iV_len]; omega) ?_ ?_)
    · intro i x T2 H3 e3 hx hT
      obtain ⟨rfl, hi⟩ := iV_at hx
      refine ⟨[some (.ref c), some (.ref t), some (.ref r), none, some (.int i), some (.int (rs.getD i 0))], fun k hk => two_get hT hk, rfl, ?_, fun _ => ?_⟩
      · intro H4 e4 Q4 q4
        exact ⟨_, rfl, _, _, rfl, rfl, _, rfl, q4 H4 (Ex.refl _)⟩
      · intro H4 e4 Q4 q4
        exact ⟨_, rfl, by show 2 ≤ sizeLine; decide, fun p np => q4 p _ _ (Ex.new np) upd_same ⟨"below", _, rfl, by decide⟩⟩
    intro o H3 ys no e3 ho hyl hyt
    rw [iV_len, hrl] at hyl
    have hr3 := e3 _ _ hr2
    have hno : H o = none := fresh_back e2 no
    have e03 := e2.trans e3
    -- if rests[0] != 1
    refine ⟨fun σ' H' => ∃ zs, σ' = [some (.ref c), some (.ref t), some (.ref r), some (.ref o), none, none] ∧ Ex H H' ∧ H' r = some (.tup (iV rs)) ∧ H' o = some (.lst zs) ∧ zs.length ≤ xs.length + 2 ∧ (∀ y ∈ zs, TupR NotFits H' y) ∧
      (zs.length = 0 ↔ (∀ i, i < xs.length + 1 → decide (rs.getD i 0 < 0) = false) ∧ rs.getD 0 0 = 1), ?_, ?_⟩
    · have hyl2 : ys.length ≤ xs.length + 1 := by
        rw [hyl]
        exact Nat.le_trans (List.length_filter_le _ _) (by rw [List.length_range]; exact Nat.le_refl _)
      refine ⟨_, rfl, r, _, 0, _, rfl, rfl, SqT.of hr3, atI_is (n := 0) rfl (iV_ix (by omega)), rfl, _, rfl, ite2 (fun e => ?_) (fun e => ?_)⟩
      · refine ⟨_, rfl, .inl ⟨rfl, _, SqL.of ho⟩, ?_⟩
        refine ⟨_, rfl, r, _, 0, _, rfl, rfl, SqT.of hr3, atI_is (n := 0) rfl (iV_ix (by omega)), by show 2 ≤ sizeLine; decide, fun p np => ?_⟩
        have ho4 := (Ex.new (o := .tup [.str "sum", .int (rs.getD 0 0)]) np) _ _ ho
        refine ⟨o, _, _, rfl, rfl, ho4, small1000 (by omega), ys ++ [.ref p], rfl, Ex.mut (e03.trans (Ex.new np)) hno, ?_, upd_same, ?_, ?_, ?_⟩
        · have hro : r ≠ o := ne_of hr3 ho (by intro z; cases z)
          rw [upd_ne hro]
          exact (Ex.new np) _ _ hr3
        · rw [List.length_append]
          simp only [List.length_singleton]
          omega
        · intro y hy
          refine TupR.upd ho4 ?_
          rcases List.mem_append.mp hy with h | h
          · exact TupR.up (Ex.new np) (hyt y h)
          · cases List.mem_singleton.mp h
            exact ⟨p, _, rfl, upd_same, "sum", _, rfl, by decide⟩
        · have e1 : rs.getD 0 0 ≠ 1 := by
            intro z
            rw [z] at e
            exact absurd e (by decide)
          rw [List.length_append]
          constructor
          · intro h
            simp only [List.length_singleton] at h
            omega
          · intro h
            exact absurd h.2 e1
      · have e1 : rs.getD 0 0 = 1 := by
          by_cases z : rs.getD 0 0 = 1
          · exact z
          · refine absurd ?_ e
            have : decide (V.int (rs.getD 0 0) = V.int 1) = false := decide_eq_false fun h => z (by injection h)
            rw [this]
            rfl
        refine ⟨ys, rfl, e03, hr3, ho, by omega, hyt, ?_⟩
        rw [hyl, filt0]
        exact ⟨fun h => ⟨h, e1⟩, fun h => h.1⟩
    · rintro σ' H' ⟨zs, rfl, eH, hr4, ho4, hzl, hzt, hzi⟩
      have hc4 := eH _ _ hc
      have ht4 := eH _ _ ht
      refine ⟨_, rfl, .inl ⟨rfl, _, SqL.of ho4⟩, ?_⟩
      have hN : ((xs.length : Int) - 1).toNat = xs.length - 1 := by omega
      refine r_arg (lcKRU (T := (topT T.P_greatest_top)) (H := H') (R := NotFits) (lo := 1) (hi := (xs.length : Int)) (fun H5 e5 Q5 q5 => ?_) (by omega) (fun i => ov rs hs (i + 1)) (by omega) (hT.ext eH) ?_ ?_)
      · refine ⟨_, rfl, c, _, rfl, .inr (SqT.of (e5 _ _ hc4)), ?_⟩
        rw [tz_len]
        exact q5 H5 (Ex.refl _)
      · intro i H5 e5 t5 hi
        have ek : (1 : Int) + (i : Int) = ((i + 1 : Nat) : Int) := by omega
        rw [ek]
        refine ⟨[some (.ref c), some (.ref t), some (.ref r), some (.ref o), some (.int ((i + 1 : Nat) : Int)), none], fun k hk => hk, rfl, ?_, fun _ => ?_⟩
        · intro Q6 q6
          refine ⟨_, rfl, _, rfl, _, rfl, r, t, rs, hs, i + 1, rfl, e5.get hr4, e5.get ht4, by omega, by rw [L.len]; omega, by omega, L.low _ (by omega), ovb _ (by omega), t5, fun H7 e7 => ⟨_, rfl, q6 H7 e7 (e7.t t5)⟩⟩
        · intro H6 e6 t6 Q6 q6
          exact ⟨_, rfl, by show 2 ≤ sizeLine; decide, fun p np => q6 p _ _ (.new np) (t6.ext (Ex.new np)) upd_same ⟨"size", _, rfl, by decide⟩⟩
      intro b H5 us e5 t5 hb hul hut
      rw [hN] at hul
      have ho5 := e5.get ho4
      have hul2 : us.length ≤ 4 := by
        rw [hul]
        exact Nat.le_trans (List.length_filter_le _ _) (by rw [List.length_range]; omega)
      refine ⟨o, b, zs, us, rfl, rfl, ho5, hb, sz_of (by omega), ?_⟩
      have e6 : Ek (topT T.P_greatest_top) H (upd H5 o (.lst (zs ++ us))) := Ek.mutL ((Ek.of eH).trans e5) hno ho5
      have ho6 : (upd H5 o (.lst (zs ++ us))) o = some (.lst (zs ++ us)) := upd_same
      have hr6 : (upd H5 o (.lst (zs ++ us))) r = some (.tup (iV rs)) := by
        rw [upd_ne (ne_of hr4 ho4 (by intro z; cases z))]
        exact e5.get hr4
      have hall : ∀ y ∈ zs ++ us, TupR NotFits (upd H5 o (.lst (zs ++ us))) y := fun y hy => by
        refine TupR.upd ho5 ?_
        rcases List.mem_append.mp hy with h | h
        · exact TupR.upK e5 (hzt y h)
        · exact hut y h
      have hgood : (zs ++ us).length = 0 ↔ GoodR (iz xs) hs := by
        rw [gi, List.length_append, ← filt0 (n := xs.length - 1), ← hul]
        constructor
        · intro h
          have := hzi.mp (by omega)
          exact ⟨this.1, this.2, by omega⟩
        · rintro ⟨h1, h2, h3⟩
          have := hzi.mpr ⟨h1, h2⟩
          omega
      generalize upd H5 o (.lst (zs ++ us)) = H6 at e6 ho6 hr6 hall
      generalize zs ++ us = ws at ho6 hall hgood
      refine ⟨_, rfl, o, _, rfl, .inl (SqL.of ho6), _, _, rfl, rfl, _, rfl, ite2 (fun e => ?_) (fun e => ?_)⟩
      · have hw : 0 < ws.length := by have := of_decide_eq_true e; omega
        cases ws with
        | nil => exact absurd hw (by decide)
        | cons y ts =>
          obtain ⟨a, vs, rfl, ha, x, z, rfl, hx⟩ := hall y List.mem_cons_self
          exact ⟨_, rfl, q o a ts x z H6 e6 ho6 ha ⟨fun h => absurd h hx, fun h => by have := hgood.mpr h; rw [List.length_cons] at this; omega⟩⟩
      · have hw : ws.length = 0 := by
          by_cases z : 0 < ws.length
          · exact absurd (decide_eq_true (by omega)) e
          · omega
        refine ⟨_, rfl, by show 2 ≤ sizeLine; decide, fun a na => ⟨by show 1 ≤ sizeLine; decide, fun p np => ?_⟩⟩
        exact q p a [] "fits" (.ref r) _ (e6.ex ((Ex.new na).trans (Ex.new np))) upd_same ((Ex.new np) _ _ upd_same) ⟨fun _ => hgood.mp hw, fun _ => rfl⟩
def sp_judge_rows (P0 : Addr) : Sp := fun vs H Q _ => ∃ (c t : Addr) (xs : List Nat) (hs : List Int), vs = [.ref c, .ref t] ∧ Cnt xs ∧ Hol xs hs ∧ H c = some (.tup (tz xs)) ∧ H t = some (.tup (iV hs)) ∧
  Tabs (topT P0) H ∧ ∀ a (x : Str) z H2, Ek (topT P0) H H2 → H2 a = some (.tup [.str x, z]) → (x = "fits" ↔ GoodR (iz xs) hs) → Q (.ref a) H2
theorem ok_judge_rows (T : Txt K mg) (TB : TabB base mg T.c_greatest_top T.P_greatest_top) : FnOk P w K mg base CX0 8 T.f_judge_rows T.d_judge_rows ["counts", "holes"] (sp_judge_rows T.P_greatest_top) := by
  have F_rows_certificates := ok_rows_certificates (P := P) (w := w) (base := base) T TB
  refine T.U_judge_rows.ok sc_judge_rows (fun vs H Q E h => ?_) (fun cdv A outer s H vs Q E hr h => ?_)
  · obtain ⟨_, _, _, _, rfl, _⟩ := h
    rfl
  · obtain ⟨c, t, xs, hs, rfl, C, L, hc, ht, hT, q⟩ := h
    refine ⟨_, (pss_one (ps_ret (pe_ix ix_list (pe_call F_rows_certificates (hr.mono (by decide)) (by rfl) T.g_rows_certificates T.k_rows_certificates T.b_rows_certificates .nil pass0 (pa_cons (pv 0) (pa_cons (pv 1) pa_nil))) pe_int (fun _ _ => rfl)))), ?_⟩
    exact ⟨_, rfl, _, rfl, c, t, xs, hs, rfl, C, L, hc, ht, hT, fun p a ts x z H2 e2 hp ha hx => ⟨p, _, 0, .ref a, rfl, rfl, SqL.of hp, atI_is (n := 0) rfl rfl, q a x z H2 e2 ha hx⟩⟩
/-- holes that some family has -/
def sp_has_hole_row (P0 : Addr) : Sp := fun vs H Q _ => ∃ (c t : Addr) (xs : List Nat) (hs : List Int) (b : Bool), vs = [.ref c, .ref t] ∧ Cnt xs ∧ hs.length = xs.length ∧ (∀ k, k < xs.length → hs.getD k 0 ≤ 2 ^ 801) ∧ H c = some (.tup (tz xs)) ∧ H t = some (.tup (iV hs)) ∧
  (b = true ↔ (∀ k, k < xs.length → 0 ≤ hs.getD k 0) ∧ GoodR (iz xs) hs) ∧ Tabs (topT P0) H ∧ RetVk (topT P0) (.bl b) H Q
theorem ok_has_hole_row (T : Txt K mg) (TB : TabB base mg T.c_greatest_top T.P_greatest_top) : FnOk P w K mg base CX0 9 T.f_has_hole_row T.d_has_hole_row ["counts", "thing"] (sp_has_hole_row T.P_greatest_top) := by
  have F_check_some_counts := ok_check_some_counts (P := P) (w := w) (base := base) T
  have F_check_fit := ok_check_fit (P := P) (w := w) (base := base) T TB
  have F_is_holes_for := ok_is_holes_for (P := P) (w := w) (base := base) T
  have F_judge_rows := ok_judge_rows (P := P) (w := w) (base := base) T TB
  refine T.U_has_hole_row.ok sc_has_hole_row (fun vs H Q E h => ?_) (fun cdv A outer s H vs Q E hr h => ?_)
  · obtain ⟨_, _, _, _, _, rfl, _⟩ := h
    rfl
  · obtain ⟨c, t, xs, hs, b, rfl, C, hl, hb, hc, ht, hbi, hT, q⟩ := h
    refine ⟨_, (pss_cons (ps_expr (pe_call F_check_some_counts (hr.mono (by decide)) (by rfl) T.g_check_some_counts T.k_check_some_counts T.b_check_some_counts .nil pass0 (pa_cons (pv 0) pa_nil)))
  (pss_cons (ps_expr (pe_call F_check_fit (hr.mono (by decide)) (by rfl) T.g_check_fit T.k_check_fit T.b_check_fit .nil pass0 (pa_cons (pv 0) pa_nil)))
  (pss_one (ps_ret (pe_and (pe_call F_is_holes_for (hr.mono (by decide)) (by rfl) T.g_is_holes_for T.k_is_holes_for T.b_is_holes_for .nil pass0 (pa_cons (pv 0) (pa_cons (pv 1) pa_nil))) (pe_one (pe_cmpR op_eq (pe_ix ix_tup (pe_call F_judge_rows (hr.mono (by decide)) (by rfl) T.g_judge_rows T.k_judge_rows T.b_judge_rows .nil pass0 (pa_cons (pv 0) (pa_cons (pv 1) pa_nil))) pe_int (fun _ _ => rfl)) pe_str (nomark _)))))))), ?_⟩
    refine ⟨_, rfl, c, xs, rfl, C, hc, fun H2 e2 => ?_⟩
    refine ⟨_, rfl, c, xs, rfl, C, e2 _ _ hc, hT.ext e2, fun H3 e3 => ?_⟩
    have e23 := (Ek.of (T := (topT T.P_greatest_top)) e2).trans e3
    refine ⟨_, rfl, _, rfl, c, t, xs, hs, rfl, e23.get hc, e23.get ht, hl, C.fit.len, fun H4 e4 => ⟨_, rfl, ?_⟩⟩
    have e34 := e23.ex e4
    cases ha : hs.all fun x => decide (0 ≤ x) with
    | false =>
      refine iteF ?_
      have eb : b = false := by
        cases hb2 : b with
        | false => rfl
        | true =>
          have := all0.mpr fun k hk => (hbi.mp hb2).1 k (by rw [← hl]; exact hk)
          rw [ha] at this
          cases this
      have := q H4 e34
      rw [eb] at this
      exact this
    | true =>
      have hlow : ∀ k, k < xs.length → 0 ≤ hs.getD k 0 := fun k hk => all0.mp ha k (by rw [hl]; exact hk)
      refine iteT ⟨_, rfl, _, rfl, c, t, xs, hs, rfl, C, ⟨hl, hlow, hb⟩, e34.get hc, e34.get ht, e34.t hT, fun a x z H5 e5 ha5 hx => ?_⟩
      refine ⟨a, _, 0, _, rfl, rfl, SqT.of ha5, atI_is (n := 0) rfl rfl, rfl, ?_⟩
      refine q_bl (Q := Q) ?_ (q H5 (e34.trans e5))
      cases hb2 : b with
      | true =>
        have := hx.mpr (hbi.mp hb2).2
        subst this
        exact decide_eq_true rfl
      | false =>
        refine decide_eq_false fun h => ?_
        injection h with h
        have := hbi.mpr ⟨hlow, hx.mp h⟩
        rw [hb2] at this
        cases this
end
end K34

namespace K34
open PySem PySem.Spec PyProof.Rows L2 Hr HrM Evl RZ LamX
section
variable {P : Program} {w : World} {K : PySem.W.Frag} {mg : Str → Option Value} {base : Heap}
def sp_least_rest (P0 : Addr) : Sp := fun vs H Q _ => ∃ (n S : Int) (N s : Nat), vs = [.int n, .int S] ∧ n = N ∧ S = s ∧ N < 2 ^ 1900 ∧ 1 ≤ s ∧ s ≤ 17 ∧ Tabs (topT P0) H ∧ RetVk (topT P0) (.int ((nl s N : Nat) : Int)) H Q
theorem ok_least_rest (T : Txt K mg) (TB : TabB base mg T.c_greatest_top T.P_greatest_top) : FnOk P w K mg base CX0 6 T.f_least_rest T.d_least_rest ["many", "size"] (sp_least_rest T.P_greatest_top) := by
  have F_lower_sets := ok_lower_sets (P := P) (w := w) (base := base) T TB
  refine T.U_least_rest.ok sc_least_rest (fun vs H Q E h => ?_) (fun cdv A outer s H vs Q E hr h => ?_)
  · obtain ⟨_, _, _, _, rfl, _⟩ := h
    rfl
  · obtain ⟨_, _, N, s, rfl, rfl, rfl, hN, hs1, hs, hT, q⟩ := h
    refine ⟨_, (pss_cons (ps_set (i := 2) sc_least_rest.nd rfl (.inl rfl) pe_int)
  (pss_cons (ps_set (i := 3) sc_least_rest.nd rfl (.inl rfl) (pv 0))
  (pss_cons (ps_while PassesOwn.never (pt_cmpR op_lt (pv 2) (pv 3) (nomark _)) (pss_cons (ps_set (i := 4) sc_least_rest.nd rfl (.inl rfl) (pe_op op_fdivN (pe_op op_add (pv 2) (pv 3)) pe_int))
  (pss_one (ps_if (pt_cmpR op_le (pe_call F_lower_sets (hr.mono (by decide)) (by rfl) T.g_lower_sets T.k_lower_sets T.b_lower_sets .nil pass0 (pa_cons (pe_op op_sub (pv 0) (pv 4)) (pa_cons (pv 1) pa_nil))) (pv 4) (nomark _)) (pss_one (ps_set (i := 3) sc_least_rest.nd rfl (.inl rfl) (pv 4))) (pss_one (ps_set (i := 2) sc_least_rest.nd rfl (.inl rfl) (pe_op op_add (pv 4) pe_int)))))))
  (pss_one (ps_ret (pv 2)))))), ?_⟩
    have hself := nl_self s N
    refine ⟨_, rfl, ?_⟩
    refine ⟨fun m σ H' => ∃ (l h : Nat) (y : Option V), σ = [some (.int N), some (.int s), some (.int l), some (.int h), y] ∧ Ek (topT T.P_greatest_top) H H' ∧ m = h - l ∧ l ≤ nl s N ∧ nl s N ≤ h ∧ h ≤ N,
      ⟨_, 0, N, none, rfl, Ek.refl H, rfl, Nat.zero_le _, hself, Nat.le_refl _⟩, ?_⟩
    rintro m σ H' ⟨l, h, y, rfl, e0, rfl, g1, g2, g3⟩
    refine ⟨_, rfl, _, rfl, _, _, rfl, rfl, _, rfl, ite2 (fun e => ?_) (fun e => ?_)⟩
    · have hlh : l < h := by have := of_decide_eq_true e; omega
      refine ⟨fun σ' H2 => ∃ (l' h' : Nat) (y : Option V), σ' = [some (.int N), some (.int s), some (.int l'), some (.int h'), y] ∧ Ek (topT T.P_greatest_top) H H2 ∧ l' ≤ nl s N ∧ nl s N ≤ h' ∧ h' ≤ N ∧ h' - l' < h - l, ?_, ?_⟩
      · rintro σ' H2 ⟨l', h', y', rfl, k0, k1, k2, k3, k4⟩
        exact ⟨h' - l', k4, l', h', y', rfl, k0, rfl, k1, k2, k3⟩
      · obtain ⟨c, hc, hc1, hc2⟩ : ∃ c : Nat, ((l : Int) + (h : Int)).fdiv 2 = (c : Int) ∧ l ≤ c ∧ c < h := by
          rw [Int.fdiv_eq_ediv_of_nonneg _ (by decide)]
          exact ⟨(l + h) / 2, by omega, by omega, by omega⟩
        refine ⟨_, rfl, _, rfl, _, _, rfl, rfl, _, _, rfl, rfl, ⟨by decide, by decide⟩, ?_⟩
        simp only [hc]
        have on := nl_on (s := s) (n := N) (c := c) hs1
        refine ⟨_, rfl, _, rfl, _, _, rfl, rfl, _, rfl, _, _, N - c, s, rfl, by omega, rfl, by omega, hs1, hs, e0.t hT, fun H2 e2 => ?_⟩
        refine ⟨_, rfl, _, _, rfl, rfl, _, rfl, ite2 (fun e3 => ?_) (fun e3 => ?_)⟩
        · have e4 : Lf 0 s (N - c) ≤ c := by have := of_decide_eq_true e3; omega
          exact ⟨_, rfl, l, c, _, rfl, e0.trans e2, g1, on.mp e4, by omega, by omega⟩
        · have e4 : ¬ Lf 0 s (N - c) ≤ c := fun z => absurd (decide_eq_true (by omega)) e3
          have e5 : c < nl s N := by
            by_cases z : c < nl s N
            · exact z
            · exact absurd (on.mpr (by omega)) e4
          exact ⟨_, rfl, _, _, rfl, rfl, c + 1, h, _, rfl, e0.trans e2, by omega, g2, g3, by omega⟩
    · have hlh : l = nl s N := by
        by_cases z : l < h
        · exact absurd (decide_eq_true (by omega)) e
        · omega
      subst hlh
      exact ⟨_, rfl, q H' e0⟩
theorem row_cat3 {xs : List Nat} (F : Fit xs) : [V.int 1] ++ iV (row (xs.length - 1) fun i => ((nl (i + 2) (xs.getD (i + 1) 0) : Nat) : Int)) ++ [.int 0] = iV (mL xs) := by
  have hn := F.ne
  apply List.ext_getElem?
  intro i
  rw [iV_get]
  unfold mL
  by_cases h0 : i = 0
  · subst h0
    rw [row_get (by omega), F.mm0]
    rfl
  obtain ⟨j, rfl⟩ : ∃ j, i = j + 1 := ⟨i - 1, by omega⟩
  show ((iV (row (xs.length - 1) fun i => ((nl (i + 2) (xs.getD (i + 1) 0) : Nat) : Int))) ++ [V.int 0])[j]? = _
  by_cases h1 : j + 1 < xs.length
  · rw [List.getElem?_append_left (by rw [iV_len, row_len]; omega), iV_get, row_get (by omega), row_get (by omega), mm_at h1]
  · rw [List.getElem?_append_right (by rw [iV_len, row_len]; omega), iV_len, row_len]
    by_cases h2 : j + 1 = xs.length
    · rw [row_get (by omega), mm_end (by omega), show j - (xs.length - 1) = 0 by omega]
      rfl
    · rw [List.getElem?_eq_none (by simp; omega), List.getElem?_eq_none (by rw [row_len]; omega)]
      rfl
def sp_rest_row (P0 : Addr) : Sp := fun vs H Q _ => ∃ (c : Addr) (xs : List Nat), vs = [.ref c] ∧ Cnt xs ∧ H c = some (.tup (tz xs)) ∧ Tabs (topT P0) H ∧ ∀ p H2, Ek (topT P0) H H2 → H2 p = some (.tup (iV (mL xs))) → Q (.ref p) H2
theorem ok_least_rests (T : Txt K mg) (TB : TabB base mg T.c_greatest_top T.P_greatest_top) : FnOk P w K mg base CX0 9 T.f_least_rests T.d_least_rests ["counts"] (sp_rest_row T.P_greatest_top) := by
  have F_check_some_counts := ok_check_some_counts (P := P) (w := w) (base := base) T
  have F_check_fit := ok_check_fit (P := P) (w := w) (base := base) T TB
  have F_least_rest := ok_least_rest (P := P) (w := w) (base := base) T TB
  refine T.U_least_rests.ok sc_least_rests (fun vs H Q E h => ?_) (fun cdv A outer s H vs Q E hr h => ?_)
  · obtain ⟨_, _, rfl, _⟩ := h
    rfl
  · obtain ⟨c, xs, rfl, C, hc, hT, q⟩ := h
    refine ⟨_, (pss_cons (ps_expr (pe_call F_check_some_counts (hr.mono (by decide)) (by rfl) T.g_check_some_counts T.k_check_some_counts T.b_check_some_counts .nil pass0 (pa_cons (pv 0) pa_nil)))
  (pss_cons (ps_expr (pe_call F_check_fit (hr.mono (by decide)) (by rfl) T.g_check_fit T.k_check_fit T.b_check_fit .nil pass0 (pa_cons (pv 0) pa_nil)))
  (pss_one (ps_ret (pe_op op_catA (pe_op op_catA (pe_tup (pa_cons pe_int pa_nil)) (pe_callTy call_tuple_of (by rfl) T.n_tuple (by decide +kernel) (pa_cons (pe_lc (own := [("k", 1)]) (g := gName 1) (tt := tYes) rfl sc_least_rests.nd (pi_range2 rfl T.n_range (pa_cons pe_int (pa_cons (pe_callB call_len_seq (by rfl) T.n_len PySem.boot_len (pa_cons (pv 0) pa_nil)) pa_nil))) (blkOk_by (own := [("k", 1)]) (N := ["counts", "k"]) (sc := defScope s_least_rests) (by decide +kernel)) (fun _ _ _ _ _ => pg_name (i := 1) sc_least_rests.nd rfl (Or.inl rfl)) (fun _ _ _ _ _ => pts_nil) (fun _ _ _ _ _ => (pe_call F_least_rest (hr.mono (by decide)) (by rfl) T.g_least_rest T.k_least_rest T.b_least_rest .nil pass0 (pa_cons (pe_ix (r := rIxT K) ix_tup (pv 0) (pv 1) (fun _ _ => rfl)) (pa_cons (pe_op op_add (pv 1) pe_int) pa_nil))))) pa_nil))) (pe_tup (pa_cons pe_int pa_nil))))))), ?_⟩
    have hn := C.fit.ne
    have h4 := C.fit.len
    have hN : ((xs.length : Int) - 1).toNat = xs.length - 1 := by omega
    refine ⟨_, rfl, c, xs, rfl, C, hc, fun H2 e2 => ?_⟩
    refine ⟨_, rfl, c, xs, rfl, C, e2 _ _ hc, hT.ext e2, fun H3 e3 => ?_⟩
    refine ⟨by show 1 ≤ sizeLine; decide, fun t nt => ?_⟩
    have e4 := ((Ek.of (T := (topT T.P_greatest_top)) e2).trans e3).ex (Ex.new (o := .tup [.int 1]) nt)
    have ht : (upd H3 t (.tup [.int 1])) t = some (.tup [.int 1]) := upd_same
    generalize upd H3 t (.tup [.int 1]) = H4 at e4 ht ⊢
    have hc4 := e4.get hc
    refine r_cb (r_arg ?_)
    refine lcKR (T := (topT T.P_greatest_top)) (H := H4) (lo := 1) (hi := (xs.length : Int)) (fun H5 e5 Q5 q5 => ?_) (by omega) (fun _ => true) (fun i => .int (((nl (i + 2) (xs.getD (i + 1) 0) : Nat) : Int))) (by omega) (e4.t hT) ?_ ?_
    · refine ⟨_, rfl, c, _, rfl, .inr (SqT.of (e5 _ _ hc4)), ?_⟩
      rw [tz_len]
      exact q5 H5 (Ex.refl _)
    · intro i H5 e5 t5 hi
      have ek : (1 : Int) + (i : Int) = ((i + 1 : Nat) : Int) := by omega
      rw [ek]
      refine ⟨[some (.ref c), some (.int ((i + 1 : Nat) : Int))], fun k hk => hk, rfl, .yes t5, fun _ => ?_⟩
      intro H6 e6 t6 Q6 q6
      refine ⟨_, rfl, _, rfl, c, _, _, _, rfl, rfl, SqT.of (e6.get (e5.get hc4)), atI_nat (tz_ix (by omega)), _, rfl, _, _, rfl, rfl, _, _, xs.getD (i + 1) 0, i + 2, rfl, rfl, by omega, ?_, by omega, by omega, t6, fun H7 e7 => q6 H7 e7 (e7.t t6)⟩
      exact sm900 (Nat.lt_trans (C.small _ (by omega)) (Nat.pow_lt_pow_right (by decide) (by decide)))
    · intro p H5 e5 t5 hp
      rw [given_row, hN] at hp
      refine ⟨p, _, rfl, .inl ⟨SqL.of hp, fun l nl' => ?_⟩⟩
      have e6 := e5.ex (Ex.new (o := .tup (iV (row (xs.length - 1) fun i => ((nl (i + 2) (xs.getD (i + 1) 0) : Nat) : Int)))) nl')
      refine catA_tup (e6.get ht) upd_same (by rw [iV_len, row_len]; exact sz_of (by simp only [List.length_singleton]; omega)) fun a H7 e7 ha => ?_
      refine ⟨by show 1 ≤ sizeLine; decide, fun z nz => ?_⟩
      refine catA_tup ((Ex.new nz) _ _ ha) upd_same (by rw [List.length_append, iV_len, row_len]; exact sz_of (by simp only [List.length_singleton]; omega)) fun b H8 e8 hb => ?_
      refine q b H8 ((e4.trans e6).ex (e7.trans ((Ex.new nz).trans e8))) ?_
      rw [hb, row_cat3 C.fit]
def sp_holes_with : Sp := fun vs H Q _ => ∃ (c r : Addr) (xs : List Nat) (rs : List Int), vs = [.ref c, .ref r] ∧ H c = some (.tup (tz xs)) ∧ H r = some (.tup (iV rs)) ∧ rs.length = xs.length + 1 ∧ xs.length ≤ 4 ∧ RetT (iV (hW (iz xs) rs)) H Q
theorem ok_holes_with (T : Txt K mg) : FnOk P w K mg base CX0 2 T.f_holes_with T.d_holes_with ["counts", "rests"] sp_holes_with := by
  refine T.U_holes_with.ok sc_holes_with (fun vs H Q E h => ?_) (fun cdv A outer s H vs Q E hr h => ?_)
  · obtain ⟨_, _, _, _, rfl, _⟩ := h
    rfl
  · obtain ⟨c, r, xs, rs, rfl, hc, hr', hl, h4, q⟩ := h
    refine ⟨_, (pss_one (ps_ret (pe_callTy call_tuple_of (by rfl) T.n_tuple (by decide +kernel) (pa_cons (pe_lc (own := [("k", 2), ("many", 3)]) (g := gTup K 2 (gCons (gName 2) (gCons (gName 3) (gNil)))) (tt := tYes) rfl sc_holes_with.nd (pi_enumT (by rfl) T.n_enumerate (pa_cons (pv 0) pa_nil)) (blkOk_by (own := [("k", 2), ("many", 3)]) (N := ["counts", "rests", "k", "many"]) (sc := defScope s_holes_with) (by decide +kernel)) (fun _ _ _ _ _ => pg_tup rfl (pgs_cons (pg_name (i := 2) sc_holes_with.nd rfl (Or.inl rfl)) (pgs_cons (pg_name (i := 3) sc_holes_with.nd rfl (Or.inl rfl)) pgs_nil))) (fun _ _ _ _ _ => pts_nil) (fun _ _ _ _ _ => (pe_op op_sub (pe_op op_sub (pv 3) (pe_ix (r := rIxT K) ix_tup (pv 1) (pv 2) (fun _ _ => rfl))) (pe_ix (r := rIxT K) ix_tup (pv 1) (pe_op op_add (pv 2) pe_int) (fun _ _ => rfl))))) pa_nil)))), ?_⟩
    refine r_ret (r_cb (r_arg ?_))
    refine el_lcE (H := H) hc (ea_cons (ev_var rfl) ea_nil) (fun _ => true) (fun i => .int ((iz xs).getD i 0 - rs.getD i 0 - rs.getD (i + 1) 0)) (by rw [tz_len]; omega) ?_ H (Ex.refl _) _ ?_
    · intro i x T2 H2 e2 hx hT
      obtain ⟨rfl, hi⟩ := iV_at (is := iz xs) hx
      rw [iz_len] at hi
      refine ⟨[some (.ref c), some (.ref r), some (.int i), some (.int ((iz xs).getD i 0))], fun k hk => two_get hT hk, rfl, et_yes, fun _ => ?_⟩
      intro H3 e3 Q3 q3
      have hr3 := e3 _ _ (e2 _ _ hr')
      exact ⟨_, rfl, _, rfl, _, rfl, r, _, _, _, rfl, rfl, SqT.of hr3, atI_nat (iV_ix (by omega)), _, _, rfl, rfl, _, rfl, _, rfl, _, _, rfl, rfl, r, _, _, _, rfl, rfl, SqT.of hr3, atI_is (n := i + 1) (by omega) (iV_ix (by omega)), _, _, rfl, rfl, q3 H3 (Ex.refl _)⟩
    · intro p H2 np e2 hp
      rw [given_row, tz_len] at hp
      refine ⟨p, _, rfl, .inl ⟨SqL.of hp, fun l nl' => ?_⟩⟩
      refine q l _ (fresh_back e2 nl') (e2.trans (Ex.new nl')) ?_
      rw [upd_same]
      unfold hW
      rw [iz_len]
def sp_most (P0 : Addr) : Sp := fun vs H Q _ => ∃ (c : Addr) (xs : List Nat), vs = [.ref c] ∧ Cnt xs ∧ H c = some (.tup (tz xs)) ∧ Tabs (topT P0) H ∧ ∀ p H2, Ek (topT P0) H H2 → H2 p = some (.tup (iV (hW (iz xs) (mL xs)))) → Q (.ref p) H2
theorem ok_most_holes (T : Txt K mg) (TB : TabB base mg T.c_greatest_top T.P_greatest_top) : FnOk P w K mg base CX0 10 T.f_most_holes T.d_most_holes ["counts"] (sp_most T.P_greatest_top) := by
  have F_least_rests := ok_least_rests (P := P) (w := w) (base := base) T TB
  have F_holes_with := ok_holes_with (P := P) (w := w) (base := base) T
  refine T.U_most_holes.ok sc_most_holes (fun vs H Q E h => ?_) (fun cdv A outer s H vs Q E hr h => ?_)
  · obtain ⟨_, _, rfl, _⟩ := h
    rfl
  · obtain ⟨c, xs, rfl, C, hc, hT, q⟩ := h
    refine ⟨_, (pss_one (ps_ret (pe_call F_holes_with (hr.mono (by decide)) (by rfl) T.g_holes_with T.k_holes_with T.b_holes_with .nil pass0 (pa_cons (pv 0) (pa_cons (pe_call F_least_rests (hr.mono (by decide)) (by rfl) T.g_least_rests T.k_least_rests T.b_least_rests .nil pass0 (pa_cons (pv 0) pa_nil)) pa_nil))))), ?_⟩
    refine ⟨_, rfl, _, rfl, c, xs, rfl, C, hc, hT, fun p H2 e2 hp => ?_⟩
    exact ⟨c, p, xs, mL xs, rfl, e2.get hc, hp, row_len _ _, C.fit.len, fun l H3 _ e3 hl => q l H3 (e2.ex e3) hl⟩
/-- the greatest rests -/
def gR (xs : List Nat) (rs : List Int) : List Int := row xs.length fun k => if k = 0 then 1 else ((xs.getD (k - 1) 0 : Nat) : Int) - rs.getD (k - 1) 0
theorem sIx_m1 (n d : Nat) : HT.sIx n d (some (-1)) = n - 1 := by
  unfold HT.sIx
  dsimp only
  rw [if_pos (by decide)]
  omega
theorem cut_init (xs : List Nat) (h : 1 ≤ xs.length) : cutV (tz xs) none (some (-1)) = tz (xs.take (xs.length - 1)) := by
  unfold cutV
  have e1 : HT.sIx (tz xs).length 0 none = 0 := rfl
  have e2 : HT.sIx (tz xs).length (tz xs).length (some (-1)) = xs.length - 1 := by
    rw [sIx_m1, tz_len]
  rw [e1, e2, List.drop_zero, Nat.sub_zero]
  unfold tz iz
  rw [List.map_take, List.map_take]
theorem cut_from (is : List Int) (n : Nat) : cutV (iV is) (some (n : Int)) none = iV (is.drop n) := by
  unfold cutV
  rw [HT.sIx_nat, HT.sIx_none, iV_len]
  unfold iV
  rw [← List.map_drop, ← List.map_take]
  congr 1
  rw [List.take_of_length_le (by rw [List.length_drop]; omega)]
  by_cases h : n ≤ is.length
  · rw [Nat.min_eq_left h]
  · rw [Nat.min_eq_right (by omega), List.drop_eq_nil_of_le (Nat.le_refl _), List.drop_eq_nil_of_le (by omega)]
theorem take_at (xs : List Nat) (n k : Nat) (h : k < n) : (xs.take n).getD k 0 = xs.getD k 0 := by
  rw [List.getD_eq_getElem?_getD, List.getD_eq_getElem?_getD, List.getElem?_take, if_pos h]
theorem drop_at (is : List Int) (n k : Nat) : (is.drop n).getD k 0 = is.getD (n + k) 0 := by
  rw [List.getD_eq_getElem?_getD, List.getD_eq_getElem?_getD, List.getElem?_drop]
def sp_greatest_rests : Sp := fun vs H Q _ => ∃ (c r : Addr) (xs : List Nat) (rs : List Int), vs = [.ref c, .ref r] ∧ H c = some (.tup (tz xs)) ∧ H r = some (.tup (iV rs)) ∧ rs.length = xs.length + 1 ∧ 1 ≤ xs.length ∧ xs.length ≤ 4 ∧ ∀ p H2, Ex H H2 → H2 p = some (.tup (iV (gR xs rs))) → Q (.ref p) H2
theorem ok_greatest_rests (T : Txt K mg) : FnOk P w K mg base CX0 2 T.f_greatest_rests T.d_greatest_rests ["counts", "least"] sp_greatest_rests := by
  refine T.U_greatest_rests.ok sc_greatest_rests (fun vs H Q E h => ?_) (fun cdv A outer s H vs Q E hr h => ?_)
  · obtain ⟨_, _, _, _, rfl, _⟩ := h
    rfl
  · obtain ⟨c, r, xs, rs, rfl, hc, hr', hl, hn, h4, q⟩ := h
    refine ⟨_, (pss_one (ps_ret (pe_op op_catA (pe_tup (pa_cons pe_int pa_nil)) (pe_callTy call_tuple_of (by rfl) T.n_tuple (by decide +kernel) (pa_cons (pe_lc (own := [("many", 2), ("rest", 3)]) (g := gTup K 2 (gCons (gName 2) (gCons (gName 3) (gNil)))) (tt := tYes) rfl sc_greatest_rests.nd (pi_zipA (by rfl) T.n_zip (pa_cons (pe_slice sl_tup (pv 0) po_none (po_some (pe_un un_neg pe_int))) (pa_cons (pv 1) pa_nil))) (blkOk_by (own := [("many", 2), ("rest", 3)]) (N := ["counts", "least", "many", "rest"]) (sc := defScope s_greatest_rests) (by decide +kernel)) (fun _ _ _ _ _ => pg_tup rfl (pgs_cons (pg_name (i := 2) sc_greatest_rests.nd rfl (Or.inl rfl)) (pgs_cons (pg_name (i := 3) sc_greatest_rests.nd rfl (Or.inl rfl)) pgs_nil))) (fun _ _ _ _ _ => pts_nil) (fun _ _ _ _ _ => (pe_op op_sub (pv 2) (pv 3)))) pa_nil))))), ?_⟩
    refine ⟨by show 1 ≤ sizeLine; decide, fun t nt => ?_⟩
    have e4 := Ex.new (o := .tup [.int 1]) nt
    have ht : (upd H t (.tup [.int 1])) t = some (.tup [.int 1]) := upd_same
    generalize upd H t (.tup [.int 1]) = H4 at e4 ht ⊢
    have hc4 := e4 _ _ hc
    have hr4 := e4 _ _ hr'
    refine r_cb (r_arg ?_)
    refine el_lcZ (H := H4) (xs := tz (xs.take (xs.length - 1))) (ys := iV rs) (fun H5 e5 Q5 q5 => ?_) (fun _ => true) (fun i => .int (((xs.getD i 0 : Nat) : Int) - rs.getD i 0)) (by rw [tz_len, List.length_take]; omega) ?_ H4 (Ex.refl _) _ ?_
    · refine ⟨_, rfl, _, rfl, _, rfl, c, _, rfl, SqT.of (e5 _ _ hc4), ?_, fun p np => ?_⟩
      · rintro ⟨_, z⟩
        have e2 : HT.sIx (tz xs).length (tz xs).length (some (-1)) = xs.length - 1 := by
          rw [sIx_m1, tz_len]
        have z2 : HT.sIx (tz xs).length (tz xs).length (some (-1)) = (tz xs).length := z
        rw [e2, tz_len] at z2
        omega
      · have ec : cutV (tz xs) none (some (-1)) = tz (xs.take (xs.length - 1)) := cut_init xs hn
        refine ⟨_, rfl, q5 p r _ (Ex.new np) ?_ ((Ex.new np) _ _ (e5 _ _ hr4))⟩
        rw [← ec]
        exact upd_same
    · intro i x y T2 H5 e5 hx hy hT
      obtain ⟨rfl, hi⟩ := iV_at (is := iz (xs.take (xs.length - 1))) hx
      obtain ⟨rfl, hi2⟩ := iV_at hy
      rw [iz_len, List.length_take] at hi
      refine ⟨[some (.ref c), some (.ref r), some (.int ((xs.getD i 0 : Nat) : Int)), some (.int (rs.getD i 0))], fun k hk => two_get hT ?_, rfl, et_yes, fun _ => ?_⟩
      · rw [iz_at, take_at _ _ _ (by omega)]
        exact hk
      · intro H6 e6 Q6 q6
        exact ⟨_, rfl, _, rfl, _, _, rfl, rfl, q6 H6 (Ex.refl _)⟩
    · intro p H5 np e5 hp
      have hm : min (tz (xs.take (xs.length - 1))).length (iV rs).length = xs.length - 1 := by rw [tz_len, iV_len, List.length_take]; omega
      rw [hm, given_row] at hp
      refine ⟨p, _, rfl, .inl ⟨SqL.of hp, fun l nl' => ?_⟩⟩
      have e6 := e5.trans (Ex.new (o := .tup (iV (row (xs.length - 1) fun i => ((xs.getD i 0 : Nat) : Int) - rs.getD i 0))) nl')
      refine catA_tup (e6 _ _ ht) upd_same (by rw [iV_len, row_len]; exact sz_of (by simp only [List.length_singleton]; omega)) fun a H7 e7 ha => ?_
      refine q a H7 ((e4.trans e6).trans e7) ?_
      rw [ha]
      congr 2
      apply List.ext_getElem?
      intro i
      rw [iV_get]
      unfold gR
      by_cases h0 : i = 0
      · subst h0
        rw [row_get (by omega)]
        rfl
      obtain ⟨j, rfl⟩ : ∃ j, i = j + 1 := ⟨i - 1, by omega⟩
      show (iV (row (xs.length - 1) fun i => ((xs.getD i 0 : Nat) : Int) - rs.getD i 0))[j]? = _
      rw [iV_get]
      by_cases h1 : j + 1 < xs.length
      · rw [row_get (by omega), row_get h1, if_neg (by omega), Nat.add_sub_cancel]
      · rw [List.getElem?_eq_none (by rw [row_len]; omega), List.getElem?_eq_none (by rw [row_len]; omega)]
end
end K34

namespace K34
open PySem PySem.Spec PyProof.Rows L2 Hr HrM Evl RZ LamX
section
variable {P : Program} {w : World} {K : PySem.W.Frag} {mg : Str → Option Value} {base : Heap}
/-- what is left of holes, from the rests -/
def lhv (xs : List Nat) (rs : List Int) (k : Nat) : Int :=
  ((xs.getD k 0 : Nat) : Int) - (if k = 0 then 1 else ((xs.getD (k - 1) 0 : Nat) : Int) - rs.getD (k - 1) 0) - (if k + 1 < xs.length then ((xs.getD (k + 1) 0 : Nat) : Int) - rs.getD (k + 2) 0 else 0)
def pos0 (v : Int) : Int := if v > 0 then v else 0
def lh (xs : List Nat) (rs : List Int) : List Int := row xs.length fun k => pos0 (lhv xs rs k)
def rR (xs : List Nat) (rs : List Int) : List Int := row xs.length fun k => if k + 1 < xs.length then ((xs.getD (k + 1) 0 : Nat) : Int) - rs.getD (k + 2) 0 else 0
theorem iz_drop (xs : List Nat) (n : Nat) : (iz xs).drop n = iz (xs.drop n) := by
  unfold iz
  rw [List.map_drop]
theorem dropN_at (xs : List Nat) (n k : Nat) : (xs.drop n).getD k 0 = xs.getD (n + k) 0 := by
  rw [List.getD_eq_getElem?_getD, List.getD_eq_getElem?_getD, List.getElem?_drop]
theorem rR_eq {xs : List Nat} {rs : List Int} (hn : 1 ≤ xs.length) : iV (row (xs.length - 1) fun i => ((xs.getD (1 + i) 0 : Nat) : Int) - rs.getD (2 + i) 0) ++ [.int 0] = iV (rR xs rs) := by
  apply List.ext_getElem?
  intro i
  rw [iV_get]
  unfold rR
  by_cases h1 : i + 1 < xs.length
  · rw [List.getElem?_append_left (by rw [iV_len, row_len]; omega), iV_get, row_get (by omega), row_get (by omega), if_pos h1, Nat.add_comm 1 i, Nat.add_comm 2 i]
  · rw [List.getElem?_append_right (by rw [iV_len, row_len]; omega), iV_len, row_len]
    by_cases h2 : i + 1 = xs.length
    · rw [row_get (by omega), if_neg h1, show i - (xs.length - 1) = 0 by omega]
      rfl
    · rw [List.getElem?_eq_none (by simp; omega), List.getElem?_eq_none (by rw [row_len]; omega)]
      rfl
def sp_least_holes (P0 : Addr) : Sp := fun vs H Q _ => ∃ (c : Addr) (xs : List Nat), vs = [.ref c] ∧ Cnt xs ∧ H c = some (.tup (tz xs)) ∧ Tabs (topT P0) H ∧ ∀ p H2, Ek (topT P0) H H2 → H2 p = some (.tup (iV (lh xs (mL xs)))) → Q (.ref p) H2
theorem ok_least_holes (T : Txt K mg) (TB : TabB base mg T.c_greatest_top T.P_greatest_top) : FnOk P w K mg base CX0 10 T.f_least_holes T.d_least_holes ["counts"] (sp_least_holes T.P_greatest_top) := by
  have F_least_rests := ok_least_rests (P := P) (w := w) (base := base) T TB
  have F_greatest_rests := ok_greatest_rests (P := P) (w := w) (base := base) T
  refine T.U_least_holes.ok sc_least_holes (fun vs H Q E h => ?_) (fun cdv A outer s H vs Q E hr h => ?_)
  · obtain ⟨_, _, rfl, _⟩ := h
    rfl
  · obtain ⟨c, xs, rfl, C, hc, hT, q⟩ := h
    refine ⟨_, (pss_cons (ps_set (i := 1) sc_least_holes.nd rfl (.inl rfl) (pe_call F_least_rests (hr.mono (by decide)) (by rfl) T.g_least_rests T.k_least_rests T.b_least_rests .nil pass0 (pa_cons (pv 0) pa_nil)))
  (pss_cons (ps_set (i := 2) sc_least_holes.nd rfl (.inr rfl) (pe_call F_greatest_rests (hr.mono (by decide)) (by rfl) T.g_greatest_rests T.k_greatest_rests T.b_greatest_rests .nil pass0 (pa_cons (pv 0) (pa_cons (pv 1) pa_nil))))
  (pss_cons (ps_set (i := 3) sc_least_holes.nd rfl (.inr rfl) (pe_op op_cat (pe_lc (own := [("many", 4), ("rest", 5)]) (g := gTup K 2 (gCons (gName 4) (gCons (gName 5) (gNil)))) (tt := tYes) rfl sc_least_holes.nd (pi_zipA (by rfl) T.n_zip (pa_cons (pe_slice sl_tup (pv 0) (po_some pe_int) po_none) (pa_cons (pe_slice sl_tup (pv 1) (po_some pe_int) po_none) pa_nil))) (blkOk_by (own := [("many", 4), ("rest", 5)]) (N := ["counts", "least", "lefts", "rights", "many", "rest", "k"]) (sc := defScope s_least_holes) (by decide +kernel)) (fun _ _ _ _ _ => pg_tup rfl (pgs_cons (pg_name (i := 4) sc_least_holes.nd rfl (Or.inl rfl)) (pgs_cons (pg_name (i := 5) sc_least_holes.nd rfl (Or.inl rfl)) pgs_nil))) (fun _ _ _ _ _ => pts_nil) (fun _ _ _ _ _ => (pe_op op_sub (pv 4) (pv 5)))) (pe_lst (pa_cons pe_int pa_nil))))
  (pss_one (ps_ret (pe_callTy call_tuple_of (by rfl) T.n_tuple (by decide +kernel) (pa_cons (pe_lc (own := [("k", 6), ("many", 4)]) (g := gTup K 2 (gCons (gName 6) (gCons (gName 4) (gNil)))) (tt := tYes) rfl sc_least_holes.nd (pi_enumT (by rfl) T.n_enumerate (pa_cons (pv 0) pa_nil)) (blkOk_by (own := [("k", 6), ("many", 4)]) (N := ["counts", "least", "lefts", "rights", "many", "rest", "k"]) (sc := defScope s_least_holes) (by decide +kernel)) (fun _ _ _ _ _ => pg_tup rfl (pgs_cons (pg_name (i := 6) sc_least_holes.nd rfl (Or.inl rfl)) (pgs_cons (pg_name (i := 4) sc_least_holes.nd rfl (Or.inl rfl)) pgs_nil))) (fun _ _ _ _ _ => pts_nil) (fun _ _ _ _ _ => (pe_callB (call_max2 rfl) (by rfl) T.n_max (by decide +kernel) (pa_cons pe_int (pa_cons (pe_op op_sub (pe_op op_sub (pv 4) (pe_ix (r := rIxT K) ix_tup (pv 2) (pv 6) (fun _ _ => rfl))) (pe_ix (r := rIxL K) ix_list (pv 3) (pv 6) (fun _ _ => rfl))) pa_nil))))) pa_nil))))))), ?_⟩
    have hn := C.fit.ne
    have h4 := C.fit.len
    refine ⟨_, rfl, c, xs, rfl, C, hc, hT, fun l H2 e2 hl => ?_⟩
    have hml : (mL xs).length = xs.length + 1 := row_len _ _
    refine ⟨_, rfl, _, rfl, c, l, xs, mL xs, rfl, e2.get hc, hl, hml, hn, h4, fun g H3 e3 hg => ?_⟩
    have hl3 := e3 _ _ hl
    have hc3 := (e2.ex e3).get hc
    unfold lh at q
    unfold lhv at q
    generalize mL xs = rs at hml hg hl3 q
    dsimp only
    refine r_seq (r_set (r_op ?_))
    refine el_lcZ (H := H3) (xs := iV (iz (xs.drop 1))) (ys := iV (rs.drop 2)) (fun H5 e5 Q5 q5 => ?_) (fun _ => true) (fun i => .int (((xs.getD (1 + i) 0 : Nat) : Int) - rs.getD (2 + i) 0)) (by rw [iV_len, iz_len, List.length_drop]; omega) ?_ H3 (Ex.refl _) _ ?_
    · refine ⟨_, rfl, 1, rfl, c, _, rfl, SqT.of (e5 _ _ hc3), ?_, fun p np => ?_⟩
      · rintro ⟨z, _⟩
        have z2 : HT.sIx (tz xs).length 0 (some ((1 : Nat) : Int)) = 0 := z
        rw [HT.sIx_nat, tz_len] at z2
        omega
      have ec : cutV (tz xs) (some ((1 : Nat) : Int)) none = iV (iz (xs.drop 1)) := by rw [tz_iV, cut_from, iz_drop]
      have hp : (upd H5 p (.tup (cutV (tz xs) (some ((1 : Nat) : Int)) none))) p = some (.tup (iV (iz (xs.drop 1)))) := by rw [upd_same, ec]
      have e6 : Ex H5 (upd H5 p (.tup (cutV (tz xs) (some ((1 : Nat) : Int)) none))) := Ex.new np
      refine ⟨_, rfl, 2, rfl, l, _, rfl, SqT.of (e6 _ _ (e5 _ _ hl3)), ?_, fun p2 np2 => ?_⟩
      · rintro ⟨z, _⟩
        have z2 : HT.sIx (iV rs).length 0 (some ((2 : Nat) : Int)) = 0 := z
        rw [HT.sIx_nat, iV_len] at z2
        omega
      have hp2 : ∀ Hx : Hp, (upd Hx p2 (.tup (cutV (iV rs) (some ((2 : Nat) : Int)) none))) p2 = some (.tup (iV (rs.drop 2))) := fun Hx => by rw [upd_same, cut_from]
      exact q5 p p2 _ (e6.trans (Ex.new np2)) ((Ex.new np2) _ _ hp) (hp2 _)
    · intro i x y T2 H5 e5 hx hy hT
      obtain ⟨rfl, hi⟩ := iV_at hx
      obtain ⟨rfl, hi2⟩ := iV_at hy
      refine ⟨[some (.ref c), some (.ref l), some (.ref g), none, some (.int ((iz (xs.drop 1)).getD i 0)), some (.int ((rs.drop 2).getD i 0)), none], fun k hk => two_get hT hk, rfl, et_yes, fun _ => ?_⟩
      intro H6 e6 Q6 q6
      refine ⟨_, rfl, _, rfl, _, _, rfl, rfl, ?_⟩
      refine q_int (Q := Q6) ?_ (q6 H6 (Ex.refl _))
      rw [iz_at, dropN_at, drop_at]
    · intro p H5 np e5 hp
      have hm : min (iV (iz (xs.drop 1))).length (iV (rs.drop 2)).length = xs.length - 1 := by rw [iV_len, iV_len, iz_len, List.length_drop, List.length_drop]; omega
      rw [hm, given_row] at hp
      refine ⟨by show 1 ≤ sizeLine; decide, fun z nz => ?_⟩
      have hp6 := (Ex.new (o := .lst [.int 0]) nz) _ _ hp
      refine ⟨p, z, _, _, rfl, rfl, hp6, upd_same, by rw [iV_len, row_len]; exact sz_of (by show _ + 1 ≤ 100000; omega), fun rr nrr => ?_⟩
      rw [rR_eq hn]
      have e7 := (e5.trans (Ex.new nz)).trans (Ex.new (o := .lst (iV (rR xs rs))) nrr)
      have hrr : (upd (upd H5 z (.lst [.int 0])) rr (.lst (iV (rR xs rs)))) rr = some (.lst (iV (rR xs rs))) := upd_same
      generalize upd (upd H5 z (.lst [.int 0])) rr (.lst (iV (rR xs rs))) = H7 at e7 hrr ⊢
      have hc7 := e7 _ _ hc3
      have hg7 := e7 _ _ hg
      dsimp only
      refine r_ret (r_cb (r_arg ?_))
      refine el_lcE (H := H7) hc7 (ea_cons (ev_var rfl) ea_nil) (fun _ => true) (fun i => .int (pos0 (((xs.getD i 0 : Nat) : Int) - (gR xs rs).getD i 0 - (rR xs rs).getD i 0))) (by rw [tz_len]; omega) ?_ H7 (Ex.refl _) _ ?_
      · intro i x T2 H8 e8 hx hT
        obtain ⟨rfl, hi⟩ := iV_at (is := iz xs) hx
        rw [iz_len] at hi
        refine ⟨[some (.ref c), some (.ref l), some (.ref g), some (.ref rr), some (.int ((iz xs).getD i 0)), none, some (.int i)], fun k hk => two_get hT hk, rfl, et_yes, fun _ => ?_⟩
        intro H9 e9 Q9 q9
        refine ⟨_, rfl, _, rfl, _, rfl, g, _, _, _, rfl, rfl, SqT.of (e9 _ _ (e8 _ _ hg7)), atI_nat (iV_ix (by unfold gR; rw [row_len]; omega)), _, _, rfl, rfl, _, rfl, _, rfl, rr, _, _, _, rfl, rfl, SqL.of (e9 _ _ (e8 _ _ hrr)), atI_nat (iV_ix (by unfold rR; rw [row_len]; omega)), _, _, rfl, rfl, _, _, rfl, ?_⟩
        have := q9 H9 (Ex.refl _)
        unfold pos0 at this
        rw [iz_at]
        exact this
      · intro p2 H8 np2 e8 hp2
        rw [given_row, tz_len] at hp2
        refine ⟨p2, _, rfl, .inl ⟨SqL.of hp2, fun t nt => ?_⟩⟩
        refine q t _ (((e2.ex e3).ex e7).ex (e8.trans (Ex.new nt))) ?_
        rw [upd_same]
        congr 2
        congr 1
        unfold row
        refine List.map_congr_left fun k hk => ?_
        have hk := List.mem_range.mp hk
        unfold gR rR
        rw [row_at hk, row_at hk]

/-! ### the law's own defs -/
theorem ok_l_is_integer (T : Txt K mg) : FnOk P w K mg base CX0 1 T.f_l_is_integer T.d_l_is_integer ["thing"] sp_isint := by
  refine T.U_l_is_integer.ok sc_l_is_integer (fun vs H Q E h => ?_) (fun cdv A outer s H vs Q E hr h => ?_)
  · obtain ⟨n, rfl, _⟩ := h
    rfl
  · obtain ⟨n, rfl, q⟩ := h
    refine ⟨_, (pss_one (ps_ret (pe_and (pe_callB call_isi (by rfl) T.n_isinstance (by decide +kernel) (pa_cons (pv 0) (pa_cons (pe_bltn (v := .ty "int") (u := .type "int") (by rfl) T.n_int (by decide +kernel) rfl) pa_nil))) (pe_one (pe_not (pe_callB call_isi (by rfl) T.n_isinstance (by decide +kernel) (pa_cons (pv 0) (pa_cons (pe_bltn (v := .ty "bool") (u := .type "bool") (by rfl) T.n_bool (by decide +kernel) rfl) pa_nil)))))))), ?_⟩
    refine ⟨_, rfl, _, _, _, _, true, rfl, .ty "int", .base (.int n), kit_ty (by decide +kernel), true, rfl, iteT ?_⟩
    exact ⟨_, rfl, _, _, _, _, false, rfl, .ty "bool", .base (.int n), kit_ty (by decide +kernel), false, rfl, q⟩
def sp_l_are_integers : Sp := fun vs H Q _ => ∃ (c : Addr) (m : Int) (is : List Int), vs = [.ref c, .int m] ∧ m = is.length ∧ H c = some (.tup (iV is)) ∧ is.length ≤ 1000 ∧ RetV (.bl true) H Q
theorem ok_l_are_integers (T : Txt K mg) : FnOk P w K mg base CX0 2 T.f_l_are_integers T.d_l_are_integers ["thing", "many"] sp_l_are_integers := by
  have F_l_is_integer := ok_l_is_integer (P := P) (w := w) (base := base) T
  refine T.U_l_are_integers.ok sc_l_are_integers (fun vs H Q E h => ?_) (fun cdv A outer s H vs Q E hr h => ?_)
  · obtain ⟨_, _, _, rfl, _⟩ := h
    rfl
  · obtain ⟨c, m, is, rfl, rfl, hc, hl, q⟩ := h
    refine ⟨_, (pss_one (ps_ret (pe_and (pe_callB call_isi (by rfl) T.n_isinstance (by decide +kernel) (pa_cons (pv 0) (pa_cons (pe_bltn (v := .ty "tuple") (u := .type "tuple") (by rfl) T.n_tuple (by decide +kernel) rfl) pa_nil))) (pe_and (pe_cmpR op_eq (pe_callB call_len_seq (by rfl) T.n_len PySem.boot_len (pa_cons (pv 0) pa_nil)) (pv 1) (nomark _)) (pe_one (pe_cmpR (op_eqD hr.units) (pe_lc (own := [("x", 2)]) (g := gName 2) (tt := _) rfl sc_l_are_integers.nd (pi_tup (pv 0)) (blkOk_by (own := [("x", 2)]) (N := ["thing", "many", "x"]) (sc := defScope s_l_are_integers) (by decide +kernel)) (fun _ _ _ _ _ => pg_name (i := 2) sc_l_are_integers.nd rfl (Or.inl rfl)) (fun _ _ _ _ _ => pts_one (pt_not (pt_val (pe_call F_l_is_integer (hr.mono (by decide)) (by rfl) T.g_l_is_integer T.k_l_is_integer T.b_l_is_integer .nil pass0 (pa_cons (pv 2) pa_nil))))) (fun _ _ _ _ _ => pe_int)) (pe_lst pa_nil) (nomark _))))))), ?_⟩
    refine ⟨_, rfl, _, _, _, _, true, rfl, .ty "tuple", .base (.tup hc), kit_ty (by decide +kernel), true, rfl, iteT ?_⟩
    refine ⟨_, rfl, c, _, rfl, .inr (SqT.of hc), _, rfl, rfl, _, rfl, ite_yes (decide_eq_true (by rw [iV_len])) ?_⟩
    refine r_op ?_
    refine el_lcT (K := K) (H := H) hc (ev_var rfl) (fun _ => false) (fun _ => .non) (by rw [iV_len]; omega) ?_ H (Ex.refl H) _ ?_
    · intro i x H2 e hx
      obtain ⟨rfl, hi⟩ := iV_at hx
      refine ⟨[some (.ref c), some (.int (is.length : Int)), some (.int (is.getD i 0))], fun k hk => hk, rfl, ?_, fun h => nomatch h⟩
      intro H3 e3 Q3 q3
      exact ⟨_, rfl, _, rfl, true, rfl, q3 H3 (Ex.refl _)⟩
    · intro p H2 np e hp
      rw [given_none' _ fun _ _ => rfl] at hp
      refine ⟨Nat.zero_le _, fun l nl' => ?_⟩
      refine ⟨izD [], izD [], izD_dp (xs := []) (SqL.of ((Ex.new nl') _ _ hp)), izD_dp (xs := []) (SqL.of upd_same), izD_shaped _, izD_shaped _, ?_⟩
      rw [izD_eqv_nil]
      exact q _ (e.trans (Ex.new nl'))
theorem rev_at {is : List Int} {i : Nat} {x : V} (h : (iV is).reverse[i]? = some x) : i < is.length ∧ x = .int (is.getD (is.length - 1 - i) 0) := by
  have hi := (List.getElem?_eq_some_iff.mp h).1
  rw [List.length_reverse, iV_len] at hi
  rw [List.getElem?_reverse (by rw [iV_len]; exact hi), iV_len, iV_ix (by omega)] at h
  cases h
  exact ⟨hi, rfl⟩
def sp_l_rests : Sp := fun vs H Q _ => ∃ (c t : Addr) (cs hs : List Int), vs = [.ref c, .ref t] ∧ H c = some (.tup (iV cs)) ∧ H t = some (.tup (iV hs)) ∧ cs.length = hs.length ∧ cs.length ≤ 4 ∧ RetT (iV (rI cs hs)) H Q
theorem ok_l_rests (T : Txt K mg) : FnOk P w K mg base CX0 2 T.f_l_rests T.d_l_rests ["counts", "holes"] sp_l_rests := by
  refine T.U_l_rests.ok sc_l_rests (fun vs H Q E h => ?_) (fun cdv A outer s H vs Q E hr h => ?_)
  · obtain ⟨_, _, _, _, rfl, _⟩ := h
    rfl
  · obtain ⟨c, t, cs, hs, rfl, hc, ht, hl, h4, q⟩ := h
    refine ⟨_, (pss_cons (ps_set (i := 2) sc_l_rests.nd rfl (.inl rfl) (pe_lst (pa_cons pe_int pa_nil)))
  (pss_cons (ps_for PassesOwn.never rfl (pi_zipA (by rfl) T.n_zip (pa_cons (pe_revT (pv 0)) (pa_cons (pe_revT (pv 1)) pa_nil))) (pg_tup (by rfl) (pgs_cons (pg_name (i := 3) sc_l_rests.nd rfl (.inl rfl)) (pgs_cons (pg_name (i := 4) sc_l_rests.nd rfl (.inl rfl)) pgs_nil))) (pss_one (ps_expr (pe_bm PySem.F.plainAttrs_list PySem.F.slot_list_append PySem.F.type_list_append mt_append (pv 2) (pa_cons (pe_op op_sub (pe_op op_sub (pv 3) (pv 4)) (pe_ix ix_list (pv 2) (pe_un un_neg pe_int) (fun _ _ => rfl))) pa_nil)))))
  (pss_one (ps_ret (pe_callTy call_tuple_of (by rfl) T.n_tuple (by decide +kernel) (pa_cons (pe_revL (pv 2)) pa_nil)))))), ?_⟩
    have hrl := rI_len hl
    refine ⟨by show 1 ≤ sizeLine; decide, fun o no => ?_⟩
    have e1 := Ex.new (o := .lst [.int 0]) no
    refine ⟨_, rfl, c, _, rfl, SqT.of (e1 _ _ hc), fun a na => ?_⟩
    have e2 := e1.trans (Ex.new (o := .tup (iV cs).reverse) na)
    refine ⟨_, rfl, t, _, rfl, SqT.of (e2 _ _ ht), fun b nb => ?_⟩
    have e3 := e2.trans (Ex.new (o := .tup (iV hs).reverse) nb)
    have ha3 := (Ex.new (o := .tup (iV hs).reverse) nb) _ _ (upd_same (H := upd H o (.lst [.int 0])) (a := a) (o := .tup (iV cs).reverse))
    have ho3 : (upd (upd (upd H o (.lst [.int 0])) a (.tup (iV cs).reverse)) b (.tup (iV hs).reverse)) o = some (.lst [.int 0]) :=
      (Ex.new nb) _ _ ((Ex.new na) _ _ upd_same)
    have hb3 : (upd (upd (upd H o (.lst [.int 0])) a (.tup (iV cs).reverse)) b (.tup (iV hs).reverse)) b = some (.tup (iV hs).reverse) := upd_same
    generalize upd (upd (upd H o (.lst [.int 0])) a (.tup (iV cs).reverse)) b (.tup (iV hs).reverse) = H3 at e3 ha3 hb3 ho3 ⊢
    refine ⟨a, b, _, _, rfl, .inr ⟨SqT.of ha3, SqT.of hb3, ?_⟩⟩
    refine for_it (walk_zipT (K := K) (a := a) (b := b) (xs := (iV cs).reverse) (ys := (iV hs).reverse) (n := cs.length) (by rw [List.length_reverse, List.length_reverse, iV_len, iV_len, ← hl, Nat.min_self]))
      (fun i σ' H' => ∃ y z : Option V, σ' = [some (.ref c), some (.ref t), some (.ref o), y, z] ∧ Ex H H' ∧ H' a = some (.tup (iV cs).reverse) ∧ H' b = some (.tup (iV hs).reverse) ∧ H' o = some (.lst (iV ((rI cs hs).drop (cs.length - i)).reverse))) ⟨none, none, rfl, e3, ha3, hb3, ?_⟩ ?_ ?_ ?_
    · rw [Nat.sub_zero, back_first hl]
      exact ho3
    · rintro i σ' H' _ ⟨y, z, rfl, _, ha, hb, _⟩
      exact ⟨SqT.of ha, SqT.of hb⟩
    · rintro i v σ' H' H2 hi ⟨y, z, rfl, ex, ha, hb, ho⟩ ⟨T2, x1, x2, rfl, nT, rfl, g1, g2⟩
      obtain ⟨hi1, rfl⟩ := rev_at g1
      obtain ⟨hi2, rfl⟩ := rev_at g2
      obtain ⟨k, hk⟩ : ∃ k, k + 1 + i = cs.length := ⟨cs.length - 1 - i, by omega⟩
      have ek : cs.length - i = k + 1 := by omega
      have eT : Ex H' (upd H' T2 (.tup [.int (cs.getD (cs.length - 1 - i) 0), .int (hs.getD (hs.length - 1 - i) 0)])) := Ex.new nT
      rw [ek, back_step (by omega)] at ho
      have ho2 := eT _ _ ho
      have ha2 := eT _ _ ha
      have hb2 := eT _ _ hb
      refine ⟨T2, _, rfl, .inl (.inl upd_same), rfl, _, _, rfl, _, _, rfl, rfl, ?_⟩
      generalize upd H' T2 (.tup [.int (cs.getD (cs.length - 1 - i) 0), .int (hs.getD (hs.length - 1 - i) 0)]) = H2 at eT ho2 ha2 hb2 ⊢
      refine ⟨_, rfl, .inl ⟨rfl, _, SqL.of ho2⟩, _, rfl, _, rfl, _, _, rfl, rfl, _, rfl, _, rfl, o, _, _, _, rfl, rfl, SqL.of ho2, atI_last _ _, _, _, rfl, rfl, o, _, _, rfl, rfl, ho2, ?_, ?_⟩
      · rw [List.length_append, iV_len, List.length_reverse, List.length_drop]
        refine small1000 ?_
        simp only [List.length_singleton]
        omega
      · have hno : H o = none := no
        refine ⟨_, _, rfl, Ex.mut (ex.trans eT) hno, ?_, ?_, ?_⟩
        · rw [upd_ne (ne_of ha2 ho2 (by intro z; cases z))]
          exact ha2
        · rw [upd_ne (ne_of hb2 ho2 (by intro z; cases z))]
          exact hb2
        · rw [upd_same, show cs.length - (i + 1) = k by omega, back_step (n := k) (by omega), back_step (n := k + 1) (by omega)]
          rw [rI_at k hl (by omega), show cs.length - 1 - i = k by omega, show hs.length - 1 - i = k by omega]
    · rintro σ' H' ⟨y, z, rfl, ex, _, _, ho⟩
      rw [Nat.sub_self, List.drop_zero] at ho
      refine ⟨_, rfl, o, _, rfl, SqL.of ho, fun p np => ⟨p, _, rfl, .inl ⟨SqL.of upd_same, fun l nl' => ?_⟩⟩⟩
      have er : ∀ rs : List Int, (iV rs.reverse).reverse = iV rs := fun rs => by
        unfold iV
        rw [List.map_reverse, List.reverse_reverse]
      rw [er] at nl' ⊢
      exact q l _ (fresh_back (ex.trans (Ex.new np)) nl') ((ex.trans (Ex.new np)).trans (Ex.new nl')) upd_same
end
end K34

namespace K34
open PySem PySem.Spec PyProof.Rows L2 Hr HrM Evl RZ
section
variable {P : Program} {w : World} {K : PySem.W.Frag} {mg : Str → Option Value} {base : Heap}
def sp_l_does_fit : Sp := fun vs H Q _ => ∃ (c t : Addr) (xs : List Nat) (hs : List Int) (b : Bool), vs = [.ref c, .ref t] ∧ Cnt xs ∧ Hol xs hs ∧ H c = some (.tup (tz xs)) ∧ H t = some (.tup (iV hs)) ∧ (b = true ↔ GoodR (iz xs) hs) ∧ RetV (.bl b) H Q
theorem ok_l_does_fit (T : Txt K mg) : FnOk P w K mg base CX0 6 T.f_l_does_fit T.d_l_does_fit ["counts", "holes"] sp_l_does_fit := by
  have F_l_rests := ok_l_rests (P := P) (w := w) (base := base) T
  have F_l_lower_sets := ok_l_lower_sets (P := P) (w := w) (base := base) T
  refine T.U_l_does_fit.ok sc_l_does_fit (fun vs H Q E h => ?_) (fun cdv A outer s H vs Q E hr h => ?_)
  · obtain ⟨_, _, _, _, _, rfl, _⟩ := h
    rfl
  · obtain ⟨c, t, xs, hs, b, rfl, C, L, hc, ht, hb, q⟩ := h
    refine ⟨_, (pss_cons (ps_set (i := 2) sc_l_does_fit.nd rfl (.inl rfl) (pe_call F_l_rests (hr.mono (by decide)) (by rfl) T.g_l_rests T.k_l_rests T.b_l_rests .nil pass0 (pa_cons (pv 0) (pa_cons (pv 1) pa_nil))))
  (pss_cons (ps_if (PW.pt (pw_or (pt_cmpR op_ne (pe_ix ix_tup (pv 2) pe_int (fun _ _ => rfl)) pe_int (nomark _)) (pw_or1 (pt_cmpR op_lt (pe_callB (cr_minT rfl hr.units) (by rfl) T.n_min (by decide +kernel) (pa_cons (pv 2) pa_nil)) pe_int (nomark _))))) (pss_one (ps_ret pe_bl)) pss_nil)
  (pss_cons (ps_for PassesOwn.never rfl (pi_range2 rfl T.n_range (pa_cons pe_int (pa_cons (pe_callB call_len_seq (by rfl) T.n_len PySem.boot_len (pa_cons (pv 0) pa_nil)) pa_nil))) (pg_name (i := 3) sc_l_does_fit.nd rfl (.inl rfl)) (pss_one (ps_if (pt_cmpR op_gt (pe_call F_l_lower_sets (hr.mono (by decide)) (by rfl) T.g_l_lower_sets T.k_l_lower_sets T.b_l_lower_sets .nil pass0 (pa_cons (pe_op op_add (pe_ix ix_tup (pv 2) (pe_op op_add (pv 3) pe_int) (fun _ _ => rfl)) (pe_ix ix_tup (pv 1) (pv 3) (fun _ _ => rfl))) (pa_cons (pe_op op_add (pv 3) pe_int) pa_nil))) (pe_ix ix_tup (pv 2) (pv 3) (fun _ _ => rfl)) (nomark _)) (pss_one (ps_ret pe_bl)) pss_nil)))
  (pss_one (ps_ret pe_bl))))), ?_⟩
    have hn := C.fit.ne
    have h4 := C.fit.len
    have hlz : (iz xs).length = hs.length := by rw [iz_len, L.len]
    have hrl : (rI (iz xs) hs).length = xs.length + 1 := by rw [rI_len hlz, iz_len]
    refine ⟨_, rfl, _, rfl, c, t, iz xs, hs, rfl, hc, ht, hlz, by rw [iz_len]; exact h4, fun r H2 nr e2 hr2 => ?_⟩
    have gi := good_iff (xs := xs) (hs := hs)
    have ovb : ∀ k, k < xs.length → ((rI (iz xs) hs).getD (k + 1) 0 + hs.getD k 0).toNat < 2 ^ 1900 := fun k hk => rests_small C L hk
    rw [gi] at hb
    generalize rI (iz xs) hs = rs at hrl hr2 gi ovb hb
    have no : ∀ H3, Ex H H3 → ¬ ((∀ i, i < xs.length + 1 → decide (rs.getD i 0 < 0) = false) ∧ rs.getD 0 0 = 1 ∧ ∀ i, i < xs.length - 1 → ov rs hs (i + 1) = false) → Q (.bl false) H3 := fun H3 e3 h => by
      have := q H3 e3
      cases hb2 : b with
      | true => exact absurd (hb.mp hb2) h
      | false => rw [hb2] at this; exact this
    have go : ∀ H3, Ex H2 H3 → rs.getD 0 0 = 1 → (∀ i, i < xs.length + 1 → decide (rs.getD i 0 < 0) = false) →
      tFor (iRng2 (tCons (tC (.int 1)) (tCons (tCB (rLenS K) (tCons (tVar 0) tNil)) tNil))) (gName 3)
        (tIfS (tTest (tOp (rI0 fun i j => .bl (decide (j < i))) (tCall sp_low [] E0 (tCons (tOp (rI0 fun i j => .int (i + j)) (tOp (rIxT K) (tVar 2) (tOp (rI0 fun i j => .int (i + j)) (tVar 3) (tC (.int 1)))) (tOp (rIxT K) (tVar 1) (tVar 3))) (tCons (tOp (rI0 fun i j => .int (i + j)) (tVar 3) (tC (.int 1))) tNil))) (tOp (rIxT K) (tVar 2) (tVar 3)))) (tRet (tC (.bl false))) tNext)
        { nx := fun σ' H' => Q (.bl true) H', rt := Q, ct := { nx := fun x H' => Q V.non H', rt := Q : Ends }.ct, bk := { nx := fun x H' => Q V.non H', rt := Q : Ends }.bk } [some (.ref c), some (.ref t), some (.ref r), none] H3 := fun H3 e3 h1 h0 => by
      have e23 := e2.trans e3
      refine ⟨_, rfl, c, _, rfl, .inr (SqT.of (e23 _ _ hc)), _, _, rfl, by rw [tz_len]; omega, ?_⟩
      rw [tz_len]
      refine for_range (lo := 1) (n := ((xs.length : Int) - 1).toNat) (fun i σ' H' => ∃ y : Option V, σ' = [some (.ref c), some (.ref t), some (.ref r), y] ∧ Ex H2 H' ∧ ∀ j, j < i → ov rs hs (j + 1) = false) ⟨none, rfl, e3, fun j hj => absurd hj (Nat.not_lt_zero _)⟩ ?_ ?_
      · rintro i σ' H' hi ⟨y, rfl, eH, hov⟩
        have ek : (1 : Int) + (i : Int) = ((i + 1 : Nat) : Int) := by omega
        rw [ek]
        have hr' := eH _ _ hr2
        have ht' := (e2.trans eH) _ _ ht
        have p1 : 0 ≤ rs.getD (i + 1) 0 := by have := of_decide_eq_false (h0 (i + 1) (by omega)); omega
        have p2 : 0 ≤ rs.getD (i + 1 + 1) 0 := by have := of_decide_eq_false (h0 (i + 1 + 1) (by omega)); omega
        have p3 := L.low (i + 1) (by omega)
        have eo : ov rs hs (i + 1) = decide (rs.getD (i + 1) 0 < ((Lf 0 (i + 1 + 1) (rs.getD (i + 1 + 1) 0 + hs.getD (i + 1) 0).toNat : Nat) : Int)) := if_neg (by omega)
        refine ⟨_, rfl, _, rfl, _, _, rfl, rfl, r, _, _, _, rfl, rfl, SqT.of hr', atI_is (n := i + 1 + 1) (by omega) (iV_ix (by omega)), _, rfl, _, rfl, t, _, _, _, rfl, rfl, SqT.of ht', atI_nat (iV_ix (by rw [L.len]; omega)), _, _, rfl, rfl, _, rfl, _, _, rfl, rfl, _, _, (rs.getD (i + 1 + 1) 0 + hs.getD (i + 1) 0).toNat, i + 1 + 1, rfl, by omega, by omega, ovb (i + 1) (by omega), by omega, by omega, fun H4 e4 => ?_⟩
        refine ⟨_, rfl, _, rfl, r, _, _, _, rfl, rfl, SqT.of (e4 _ _ hr'), atI_nat (iV_ix (by omega)), _, _, rfl, rfl, _, rfl, ite2 (fun e => ?_) (fun e => ?_)⟩
        · refine no H4 ((e2.trans eH).trans e4) fun h => ?_
          have := h.2.2 i (by omega)
          rw [eo] at this
          have z := of_decide_eq_true e
          have z2 := of_decide_eq_false this
          exact z2 z
        · refine ⟨_, rfl, eH.trans e4, fun j hj => ?_⟩
          by_cases z : j = i
          · subst z
            rw [eo]
            exact decide_eq_false fun z => e (decide_eq_true z)
          · exact hov j (by omega)
      · rintro σ' H' ⟨y, rfl, eH, hov⟩
        have hb2 : b = true := hb.mpr ⟨h0, h1, fun i hi => hov i (by omega)⟩
        have := q H' (e2.trans eH)
        rw [hb2] at this
        exact this
    refine ⟨_, rfl, r, _, 0, _, rfl, rfl, SqT.of hr2, atI_is (n := 0) rfl (iV_ix (by omega)), rfl, _, rfl, ite2 (fun e => ?_) (fun e => ?_)⟩
    · refine iteT ?_
      refine no H2 e2 fun h => ?_
      rw [h.2.1] at e
      exact absurd e (by decide)
    · have h1 : rs.getD 0 0 = 1 := by
        by_cases z : rs.getD 0 0 = 1
        · exact z
        · refine absurd ?_ e
          have : decide (V.int (rs.getD 0 0) = V.int 1) = false := decide_eq_false fun h => z (by injection h)
          rw [this]
          rfl
      refine ⟨_, rfl, r, rs, rfl, SqT.of hr2, by omega, fun m hm1 hm2 => ?_⟩
      refine ⟨_, _, rfl, rfl, _, rfl, ite2 (fun e2' => ?_) (fun e2' => ?_)⟩
      · refine no H2 e2 fun h => ?_
        obtain ⟨i, hi, he⟩ := List.mem_iff_getElem.mp hm1
        have := of_decide_eq_false (h.1 i (by omega))
        rw [List.getD_eq_getElem?_getD, List.getElem?_eq_getElem hi] at this
        have z : m < 0 := of_decide_eq_true e2'
        rw [← he] at z
        exact this z
      · have hm0 : 0 ≤ m := by
          by_cases z : m < 0
          · exact absurd (decide_eq_true z) e2'
          · omega
        refine go H2 (Ex.refl _) h1 fun i hi => decide_eq_false fun z => ?_
        have := hm2 (rs.getD i 0) (by rw [List.getD_eq_getElem?_getD, List.getElem?_eq_getElem (by omega : i < rs.length)]; exact List.getElem_mem _)
        omega
def sp_l_below : Sp := fun vs H Q _ => ∃ (G : Hp) (d : Addr) (m : Int), vs = [.ref d, .int m] ∧ 1 ≤ m ∧ Dk G d H ∧ ∀ (r : Int) (H' : Hp), 0 ≤ r → r < m → Dk G d H' → Q (.int r) H'
theorem ok_l_below (T : Txt K mg) : FnOk P w K mg base CX0 3 T.f_l_below T.d_l_below ["deck", "greatest"] sp_l_below := by
  have F_l_draw := ok_draw (P := P) (w := w) (base := base) T
  refine T.U_l_below.ok sc_l_below (fun vs H Q E h => ?_) (fun cdv A outer s H vs Q E hr h => ?_)
  · obtain ⟨_, _, _, rfl, _⟩ := h
    rfl
  · obtain ⟨G, d, m, rfl, h1, k, q⟩ := h
    refine ⟨_, (pss_cons (ps_asg (pe_tup (pa_cons pe_int (pa_cons pe_int pa_nil))) (pg_tup (by rfl) (pgs_cons (pg_name (i := 2) sc_l_below.nd rfl (.inl rfl)) (pgs_cons (pg_name (i := 3) sc_l_below.nd rfl (.inl rfl)) pgs_nil))))
  (pss_cons (ps_while PassesOwn.never (pt_cmpR op_lt (pv 3) (pv 1) (nomark _)) (pss_one (ps_par rfl sc_l_below.nd (i := 2) (j := 3) rfl rfl (by decide) rfl rfl (pa_cons (pe_op op_add (pe_op op_mul (pv 2) (pe_op op_pow pe_int pe_int)) (pe_call F_l_draw (hr.mono (by decide)) (by rfl) T.g_l_draw T.k_l_draw T.b_l_draw .nil pass0 (pa_cons (pv 0) (pa_cons (pe_op op_pow pe_int pe_int) pa_nil)))) (pa_cons (pe_op op_mul (pv 3) (pe_op op_pow pe_int pe_int)) pa_nil)) (by rfl))))
  (pss_one (ps_ret (pe_op op_modN (pe_callTy call_int1 (by rfl) T.n_int (by decide +kernel) (pa_cons (pv 2) pa_nil)) (pv 1)))))), ?_⟩
    have cp6 : CPow 10 6 := ⟨by decide, by decide, by decide⟩
    refine ⟨by show 2 ≤ sizeLine; decide, fun t nt => ⟨t, _, rfl, .inl (.inl upd_same), rfl, _, _, rfl, _, _, rfl, rfl, ?_⟩⟩
    refine ⟨fun n σ H' => ∃ f r : Int, σ = [some (.ref d), some (.int m), some (.int f), some (.int r)] ∧ Dk G d H' ∧ 1 ≤ r ∧ n = (m - r).toNat, ⟨_, 0, 1, rfl, k.new nt, by decide, rfl⟩, ?_⟩
    rintro n σ H' ⟨f, r, rfl, k1, hr1, rfl⟩
    refine ⟨_, rfl, _, rfl, _, _, rfl, rfl, _, rfl, ite2 (fun e => ?_) (fun e => ?_)⟩
    · have hlt : r < m := of_decide_eq_true e
      refine ⟨fun σ' H2 => ∃ f' r' : Int, σ' = [some (.ref d), some (.int m), some (.int f'), some (.int r')] ∧ Dk G d H2 ∧ r < r' ∧ 1 ≤ r', ?_, ?_⟩
      · rintro σ' H2 ⟨f', r', rfl, k2, z1, z2⟩
        exact ⟨_, by omega, f', r', rfl, k2, z2, rfl⟩
      · refine ⟨_, rfl, _, _, rfl, rfl, cp6, _, _, rfl, rfl, .inr ⟨by decide, by decide⟩, _, rfl, _, _, rfl, rfl, cp6, G, d, _, rfl, by decide, by decide, k1, fun z H3 z0 z1 k3 => ?_⟩
        refine ⟨_, _, rfl, rfl, _, rfl, _, _, rfl, rfl, cp6, _, _, rfl, rfl, .inr ⟨by decide, by decide⟩, _, _, rfl, ?_⟩
        refine ⟨_, _, rfl, k3, ?_, ?_⟩
        · show r < r * (10 : Int) ^ (6 : Int).toNat
          have e6 : (10 : Int) ^ (6 : Int).toNat = 1000000 := by decide
          rw [e6]
          omega
        · show 1 ≤ r * (10 : Int) ^ (6 : Int).toNat
          have e6 : (10 : Int) ^ (6 : Int).toNat = 1000000 := by decide
          rw [e6]
          omega
    · refine ⟨_, rfl, .inl ⟨_, rfl, _, rfl, _, _, rfl, rfl, by show m ≠ 0; omega, ?_⟩⟩
      exact q _ _ (Int.fmod_nonneg_of_pos _ (by omega)) (Int.fmod_lt_of_pos _ (by omega)) k1
theorem Lf_pos {s n : Nat} (hs : 1 ≤ s) (hn : 1 ≤ n) : 1 ≤ Lf 0 (s + 1) n := by
  by_cases z : 1 ≤ Lf 0 (s + 1) n
  · exact z
  · have h := (Gal (δ := 0) (s := s) (m := n) (n := 0) (by decide) hs).mp (by omega)
    have e : Uf 0 s 0 = 0 := Uf_of hs (Cas.nil s) rfl
    omega
theorem sL_mul {δ : Nat} : ∀ {xs : List Nat} {s : Nat}, Cas s xs → sL δ s xs ≤ s * val s xs
  | [], _, _ => Nat.zero_le _
  | a :: r, s, c => by
    obtain ⟨t, rfl⟩ : ∃ t, s = t + 1 := ⟨s - 1, by have := c.pos; omega⟩
    have ih := sL_mul (δ := δ) c.tail
    have h1 : ch a t ≤ ch a (t + 1) * (t + 1) := by
      rw [ch_mul]
      exact Nat.le_mul_of_pos_right _ (by have := c.head; omega)
    have h2 := ch_mono t (show a - δ ≤ a by omega)
    rw [sL_cons, val_cons, Nat.mul_add]
    have h3 : t * val t r ≤ (t + 1) * val t r := Nat.mul_le_mul_right _ (by omega)
    rw [Nat.mul_comm (ch a (t + 1))] at h1
    omega
theorem Lf_mul {δ s n : Nat} (hs : 1 ≤ s) : Lf δ s n ≤ s * n := by
  have c := cc_cas (s := s) (n := n) hs
  have := sL_mul (δ := δ) c.1
  rw [c.2] at this
  exact this
/-- the last counts of some family, from the size k on -/
structure Tail (k : Nat) (ys : List Nat) : Prop where
  pos : ∀ j, j < ys.length → 1 ≤ ys.getD j 0
  fit : ∀ j, 1 ≤ j → j < ys.length → Lf 0 (k + j) (ys.getD j 0) ≤ ys.getD (j - 1) 0
  small : ∀ j, j < ys.length → ys.getD j 0 < 2 ^ (100 + 4 * ys.length)
theorem Tail.cons {k : Nat} {ys : List Nat} (t : Tail (k + 1) ys) (hk : 1 ≤ k) (hk4 : k ≤ 4) (hy : 1 ≤ ys.length) {more : Nat} (hm : more ≤ 3) : Tail k ((Lf 0 (k + 1) (ys.getD 0 0) + more) :: ys) := by
  have h0 := t.pos 0 hy
  have hp := Lf_pos (s := k) hk h0
  refine ⟨fun j hj => ?_, fun j h1 hj => ?_, fun j hj => ?_⟩
  · cases j with
    | zero => rw [List.getD_cons_zero]; omega
    | succ j => rw [List.getD_cons_succ]; exact t.pos j (by simpa using hj)
  · cases j with
    | zero => omega
    | succ j =>
      rw [List.getD_cons_succ]
      cases j with
      | zero =>
        show Lf 0 (k + 1) (ys.getD 0 0) ≤ ((Lf 0 (k + 1) (ys.getD 0 0) + more) :: ys).getD 0 0
        rw [List.getD_cons_zero]
        omega
      | succ j =>
        have := t.fit (j + 1) (by omega) (by simpa using hj)
        show _ ≤ ((Lf 0 (k + 1) (ys.getD 0 0) + more) :: ys).getD (j + 1) 0
        rw [List.getD_cons_succ]
        rw [show k + (j + 1 + 1) = k + 1 + (j + 1) by omega]
        exact this
  · have e : 2 ^ (100 + 4 * (ys.length + 1)) = 16 * 2 ^ (100 + 4 * ys.length) := by
      rw [show 100 + 4 * (ys.length + 1) = 4 + (100 + 4 * ys.length) by omega, Nat.pow_add]
    rw [List.length_cons, e]
    cases j with
    | zero =>
      rw [List.getD_cons_zero]
      have hs := t.small 0 hy
      have hmul := Lf_mul (δ := 0) (s := k + 1) (n := ys.getD 0 0) (by omega)
      have h5 : (k + 1) * ys.getD 0 0 ≤ 5 * ys.getD 0 0 := Nat.mul_le_mul_right _ (by omega)
      omega
    | succ j =>
      rw [List.getD_cons_succ]
      have := t.small j (by simpa using hj)
      omega
theorem Tail.cnt {ys : List Nat} (t : Tail 1 ys) (h1 : 1 ≤ ys.length) (h4 : ys.length ≤ 4) : Cnt ys := by
  refine ⟨⟨h1, h4, t.pos, fun k hk hl => ?_⟩, fun k hk => ?_⟩
  · have := t.fit k hk hl
    rw [Nat.add_comm] at this
    exact this
  · exact Nat.lt_of_lt_of_le (t.small k hk) (Nat.pow_le_pow_right (by decide) (by omega))
def sp_l_some_counts : Sp := fun vs H Q _ => ∃ (G : Hp) (dk : Addr) (D g : Int) (d : Nat), vs = [.ref dk, .int D, .int g] ∧ D = d ∧ 1 ≤ d ∧ d ≤ 4 ∧ 1 ≤ g ∧ g < 2 ^ 94 ∧ Dk G dk H ∧
  ∀ (c : Addr) (xs : List Nat) (G' H' : Hp), Ex G G' → G' c = some (.tup (tz xs)) → Cnt xs → xs.length = d → Dk G' dk H' → Q (.ref c) H'
theorem ok_l_some_counts (T : Txt K mg) : FnOk P w K mg base CX0 6 T.f_l_some_counts T.d_l_some_counts ["deck", "d", "greatest"] sp_l_some_counts := by
  have F_l_draw := ok_draw (P := P) (w := w) (base := base) T
  have F_l_below := ok_l_below (P := P) (w := w) (base := base) T
  have F_l_lower_sets := ok_l_lower_sets (P := P) (w := w) (base := base) T
  refine T.U_l_some_counts.ok sc_l_some_counts (fun vs H Q E h => ?_) (fun cdv A outer s H vs Q E hr h => ?_)
  · obtain ⟨_, _, _, _, _, rfl, _⟩ := h
    rfl
  · obtain ⟨G, dk, D, g, d, rfl, rfl, hd1, hd4, hg1, hg2, k, q⟩ := h
    refine ⟨_, (pss_cons (ps_set (i := 3) sc_l_some_counts.nd rfl (.inl rfl) (pe_lst (pa_cons (pe_op op_add pe_int (pe_call F_l_below (hr.mono (by decide)) (by rfl) T.g_l_below T.k_l_below T.b_l_below .nil pass0 (pa_cons (pv 0) (pa_cons (pv 2) pa_nil)))) pa_nil)))
  (pss_cons (ps_for PassesOwn.never rfl (pi_range3 rfl T.n_range (pa_cons (pe_op op_sub (pv 1) pe_int) (pa_cons pe_int (pa_cons (pe_un un_neg pe_int) pa_nil)))) (pg_name (i := 4) sc_l_some_counts.nd rfl (.inl rfl)) (pss_cons (ps_set (i := 5) sc_l_some_counts.nd rfl (.inl rfl) (pe_call F_l_lower_sets (hr.mono (by decide)) (by rfl) T.g_l_lower_sets T.k_l_lower_sets T.b_l_lower_sets .nil pass0 (pa_cons (pe_ix ix_list (pv 3) pe_int (fun _ _ => rfl)) (pa_cons (pe_op op_add (pv 4) pe_int) pa_nil))))
  (pss_one (ps_set (i := 3) sc_l_some_counts.nd rfl (.inl rfl) (pe_op op_cat (pe_lst (pa_cons (pe_op op_add (pv 5) (pe_ifExp (pt_cmpR op_eq (pe_call F_l_draw (hr.mono (by decide)) (by rfl) T.g_l_draw T.k_l_draw T.b_l_draw .nil pass0 (pa_cons (pv 0) (pa_cons pe_int pa_nil))) pe_int (nomark _)) (pe_call F_l_draw (hr.mono (by decide)) (by rfl) T.g_l_draw T.k_l_draw T.b_l_draw .nil pass0 (pa_cons (pv 0) (pa_cons pe_int pa_nil))) pe_int)) pa_nil)) (pv 3))))))
  (pss_one (ps_ret (pe_callTy call_tuple_of (by rfl) T.n_tuple (by decide +kernel) (pa_cons (pv 3) pa_nil)))))), ?_⟩
    refine ⟨_, rfl, _, rfl, G, dk, g, rfl, hg1, k, fun r H2 r0 r1 k2 => ⟨_, _, rfl, rfl, by show 1 ≤ sizeLine; decide, fun l nl' => ?_⟩⟩
    obtain ⟨n, rfl⟩ : ∃ n : Nat, r = (n : Int) := ⟨r.toNat, by omega⟩
    have e1 : (1 : Int) + (n : Int) = ((n + 1 : Nat) : Int) := by omega
    have k3 : Dk (upd G l (.lst (tz [n + 1]))) dk (upd H2 l (.lst [.int (1 + (n : Int))])) := by
      rw [e1]
      exact k2.made nl'
    have ex3 : Ex G (upd G l (.lst (tz [n + 1]))) := k2.gex nl'
    refine ⟨_, rfl, _, _, rfl, rfl, _, rfl, (d : Int) - 1, 0, -1, _, rfl, RgC.neg (by omega) (by omega) (by omega) (by omega), ?_⟩
    refine for_rangeC (fun i σ' H' => ∃ (l : Addr) (ys : List Nat) (G' : Hp) (y z : Option V), σ' = [some (.ref dk), some (.int (d : Int)), some (.int g), some (.ref l), y, z] ∧ Ex G G' ∧ G' l = some (.lst (tz ys)) ∧ ys.length = i + 1 ∧ Tail (d - i) ys ∧ Dk G' dk H')
      ⟨l, [n + 1], _, none, none, rfl, ex3, upd_same, rfl, ⟨fun j hj => ?_, fun j h1 hj => ?_, fun j hj => ?_⟩, k3⟩ ?_ ?_
    · have : j = 0 := by simpa using hj
      subst this
      rw [List.getD_cons_zero]
      omega
    · have : j < 1 := hj
      omega
    · have : j = 0 := by simpa using hj
      subst this
      rw [List.getD_cons_zero]
      show n + 1 < 2 ^ 104
      have e2 : (2 : Int) ^ 94 = ((2 ^ 94 : Nat) : Int) := by norm_cast
      rw [e2] at hg2
      have : (2 : Nat) ^ 94 ≤ 2 ^ 104 := Nat.pow_le_pow_right (by decide) (by decide)
      omega
    · rintro i σ' H' hi ⟨l, ys, G', y, z, rfl, ex, hl, hly, tl, k4⟩
      obtain ⟨m, hm, hm2⟩ : ∃ m : Nat, (((d : Int) - 1) + (i : Nat) * (-1)) = (m : Int) ∧ m + 1 + i = d := ⟨d - 1 - i, by omega, by omega⟩
      rw [hm]
      have edi : d - i = m + 1 := by omega
      rw [edi] at tl
      have hs0 := tl.small 0 (by omega)
      have hsb : ys.getD 0 0 < 2 ^ 1900 := Nat.lt_of_lt_of_le hs0 (Nat.pow_le_pow_right (by decide) (by omega))
      refine ⟨_, rfl, l, _, 0, _, rfl, rfl, SqL.of (k4.get hl), atI_is (n := 0) rfl (tz_ix (by omega)), _, rfl, _, _, rfl, rfl, _, _, ys.getD 0 0, m + 1, rfl, rfl, by omega, hsb, by omega, by omega, fun H5 e5 => ?_⟩
      have k5 := k4.more e5
      -- found = [least + ..] + found
      have fin : ∀ (r : Int) (H6 : Hp), 0 ≤ r → r < 4 → Dk G' dk H6 → ∀ l2, H6 l2 = none → ∀ l3, (upd H6 l2 (.lst [.int (((Lf 0 (m + 1) (ys.getD 0 0) : Nat) : Int) + r)])) l3 = none →
          ∃ (l : Addr) (ys' : List Nat) (G2 : Hp) (y z : Option V), [some (V.ref dk), some (V.int (d : Int)), some (V.int g), some (V.ref l3), some (V.int (m : Int)), some (V.int ((Lf 0 (m + 1) (ys.getD 0 0) : Nat) : Int))] = [some (.ref dk), some (.int (d : Int)), some (.int g), some (.ref l), y, z] ∧ Ex G G2 ∧ G2 l = some (.lst (tz ys')) ∧ ys'.length = i + 1 + 1 ∧ Tail (d - (i + 1)) ys' ∧ Dk G2 dk (upd (upd H6 l2 (.lst [.int (((Lf 0 (m + 1) (ys.getD 0 0) : Nat) : Int) + r)])) l3 (.lst ([.int (((Lf 0 (m + 1) (ys.getD 0 0) : Nat) : Int) + r)] ++ tz ys))) := by
        intro r H6 r0 r1 k6 l2 n2 l3 n3
        obtain ⟨o, rfl⟩ : ∃ o : Nat, r = (o : Int) := ⟨r.toNat, by omega⟩
        have k7 := k6.new (o := .lst [.int (((Lf 0 (m + 1) (ys.getD 0 0) : Nat) : Int) + (o : Int))]) n2
        have k8 : Dk (upd G' l3 (.lst ([.int (((Lf 0 (m + 1) (ys.getD 0 0) : Nat) : Int) + (o : Int))] ++ tz ys))) dk _ := k7.made n3
        refine ⟨l3, (Lf 0 (m + 1) (ys.getD 0 0) + o) :: ys, _, _, _, rfl, ex.trans (k7.gex n3), ?_, by rw [List.length_cons, hly], ?_, k8⟩
        · rw [upd_same]
          show some (HO.lst (V.int _ :: tz ys)) = some (HO.lst (V.int (((Lf 0 (m + 1) (ys.getD 0 0) + o : Nat)) : Int) :: tz ys))
          rw [Int.natCast_add]
        · rw [show d - (i + 1) = m by omega]
          exact tl.cons (by omega) (by omega) (by omega) (by omega)
      have hzs : ∀ v : Int, ([V.int v] : List V).length + (tz ys).length ≤ sizeLine := fun v => by
        rw [tz_len]
        exact sz_of (by show 1 + _ ≤ 100000; omega)
      refine ⟨_, rfl, _, rfl, G', dk, _, rfl, by decide, by decide, k5, fun r H6 r0 r1 k6 => ⟨rfl, _, rfl, ite2 (fun _ => ?_) (fun _ => ?_)⟩⟩
      · refine ⟨_, rfl, G', dk, _, rfl, by decide, by decide, k6, fun r H7 r0 r1 k7 => ⟨_, _, rfl, rfl, by show 1 ≤ sizeLine; decide, fun l2 n2 => ?_⟩⟩
        refine ⟨_, rfl, l2, l, _, _, rfl, rfl, upd_same, (Ex.new n2) _ _ (k7.get hl), hzs _, fun l3 n3 => ?_⟩
        exact fin r H7 r0 (by omega) k7 l2 n2 l3 n3
      · refine ⟨_, _, rfl, rfl, by show 1 ≤ sizeLine; decide, fun l2 n2 => ?_⟩
        refine ⟨_, rfl, l2, l, _, _, rfl, rfl, upd_same, (Ex.new n2) _ _ (k6.get hl), hzs _, fun l3 n3 => ?_⟩
        exact fin 0 H6 (by decide) (by decide) k6 l2 n2 l3 n3
    · rintro σ' H' ⟨l, ys, G', y, z, rfl, ex, hl, hly, tl, k4⟩
      rw [show d - ((d : Int) - 1 - 0).toNat = 1 by omega] at tl
      refine ⟨_, rfl, l, _, rfl, .inl ⟨SqL.of (k4.get hl), fun t nt => ?_⟩⟩
      exact q t ys _ _ (ex.trans (k4.gex nt)) upd_same (tl.cnt (by omega) (by omega)) (by omega) (k4.made nt)
end
end K34

namespace K34
open PySem PySem.Spec PyProof.Rows L2 Hr HrM Evl RZ
section
variable {P : Program} {w : World} {K : PySem.W.Frag} {mg : Str → Option Value} {base : Heap}
def sp_l_least_holes : Sp := fun vs H Q _ => ∃ (c r : Addr) (xs : List Nat) (rs : List Int), vs = [.ref c, .ref r] ∧ H c = some (.tup (tz xs)) ∧ H r = some (.tup (iV rs)) ∧ rs.length = xs.length + 1 ∧ 1 ≤ xs.length ∧ xs.length ≤ 4 ∧ RetT (iV (lh xs rs)) H Q
theorem ok_l_least_holes (T : Txt K mg) : FnOk P w K mg base CX0 2 T.f_l_least_holes T.d_l_least_holes ["counts", "least"] sp_l_least_holes := by
  refine T.U_l_least_holes.ok sc_l_least_holes (fun vs H Q E h => ?_) (fun cdv A outer s H vs Q E hr h => ?_)
  · obtain ⟨_, _, _, _, rfl, _⟩ := h
    rfl
  · obtain ⟨c, r, xs, rs, rfl, hc, hr', hl, hn, h4, q⟩ := h
    refine ⟨_, (pss_cons (ps_par rfl sc_l_least_holes.nd (i := 2) (j := 3) rfl rfl (by decide) rfl rfl (pa_cons (pe_lst pa_nil) (pa_cons (pe_callB call_len_seq (by rfl) T.n_len PySem.boot_len (pa_cons (pv 0) pa_nil)) pa_nil)) (by rfl))
  (pss_cons (ps_for PassesOwn.never rfl (pi_range1 rfl T.n_range (pa_cons (pv 3) pa_nil)) (pg_name (i := 4) sc_l_least_holes.nd rfl (.inl rfl)) (pss_cons (ps_set (i := 5) sc_l_least_holes.nd rfl (.inl rfl) (pe_ifExp (pt_cmpR op_eq (pv 4) pe_int (nomark _)) pe_int (pe_op op_sub (pe_ix ix_tup (pv 0) (pe_op op_sub (pv 4) pe_int) (fun _ _ => rfl)) (pe_ix ix_tup (pv 1) (pe_op op_sub (pv 4) pe_int) (fun _ _ => rfl)))))
  (pss_cons (ps_set (i := 6) sc_l_least_holes.nd rfl (.inl rfl) (pe_ifExp (pt_cmpR op_eq (pv 4) (pe_op op_sub (pv 3) pe_int) (nomark _)) pe_int (pe_op op_sub (pe_ix ix_tup (pv 0) (pe_op op_add (pv 4) pe_int) (fun _ _ => rfl)) (pe_ix ix_tup (pv 1) (pe_op op_add (pv 4) pe_int) (fun _ _ => rfl)))))
  (pss_one (ps_expr (pe_bm PySem.F.plainAttrs_list PySem.F.slot_list_append PySem.F.type_list_append mt_append (pv 2) (pa_cons (pe_callB (call_max2 rfl) (by rfl) T.n_max (by decide +kernel) (pa_cons pe_int (pa_cons (pe_op op_sub (pe_op op_sub (pe_ix ix_tup (pv 0) (pv 4) (fun _ _ => rfl)) (pv 5)) (pv 6)) pa_nil))) pa_nil)))))))
  (pss_one (ps_ret (pe_callTy call_tuple_of (by rfl) T.n_tuple (by decide +kernel) (pa_cons (pv 2) pa_nil)))))), ?_⟩
    refine ⟨Nat.zero_le _, fun o no => ?_⟩
    have e1 := Ex.new (o := .lst []) no
    refine ⟨_, rfl, c, _, rfl, .inr (SqT.of (e1 _ _ hc)), _, _, rfl, ?_⟩
    rw [tz_len]
    refine ⟨_, rfl, _, rfl, by omega, by omega, ?_⟩
    rw [show ((xs.length : Nat) : Int).toNat = xs.length from rfl]
    refine for_range (lo := 0) (n := xs.length) (fun i σ' H' => ∃ y z u : Option V, σ' = [some (.ref c), some (.ref r), some (.ref o), some (.int (xs.length : Int)), y, z, u] ∧ Ex H H' ∧ H' o = some (.lst (iV (row i fun k => pos0 (lhv xs rs k))))) ⟨none, none, none, rfl, e1, upd_same⟩ ?_ ?_
    · rintro i σ' H' hi ⟨y, z, u, rfl, ex, ho⟩
      have e0 : (0 : Int) + (i : Int) = (i : Int) := Int.zero_add _
      rw [e0]
      have hc' := ex _ _ hc
      have hr2 := ex _ _ hr'
      show tSeq _ _ _ _ _
      refine r_seq (s_asg (v := .int (if i = 0 then 1 else ((xs.getD (i - 1) 0 : Nat) : Int) - rs.getD (i - 1) 0)) (fun H1 f1 Q1 q1 => ?_) fun H2 f2 => ?_)
      · refine ⟨_, rfl, rfl, _, rfl, ite2 (fun e => ?_) (fun e => ?_)⟩
        · have hi0 : i = 0 := by
            have := of_decide_eq_true e
            injection this with this
            omega
          refine q_int (Q := Q1) ?_ (q1 H1 (Ex.refl _))
          rw [if_pos hi0]
        · have hi0 : i ≠ 0 := fun z => absurd (decide_eq_true (by rw [z]; rfl)) e
          refine ⟨_, rfl, _, rfl, _, _, rfl, rfl, c, _, _, _, rfl, rfl, SqT.of (f1 _ _ hc'), atI_is (n := i - 1) (by omega) (tz_ix (by omega)), _, rfl, _, rfl, _, _, rfl, rfl, r, _, _, _, rfl, rfl, SqT.of (f1 _ _ hr2), atI_is (n := i - 1) (by omega) (iV_ix (by omega)), _, _, rfl, rfl, ?_⟩
          refine q_int (Q := Q1) ?_ (q1 H1 (Ex.refl _))
          rw [if_neg hi0]
      dsimp only
      refine r_seq (s_asg (v := .int (if i + 1 < xs.length then ((xs.getD (i + 1) 0 : Nat) : Int) - rs.getD (i + 2) 0 else 0)) (fun H3 f3 Q3 q3 => ?_) fun H4 f4 => ?_)
      · refine ⟨_, rfl, _, rfl, _, _, rfl, rfl, rfl, _, rfl, ite2 (fun e => ?_) (fun e => ?_)⟩
        · have hi0 : ¬ i + 1 < xs.length := by
            have := of_decide_eq_true e
            injection this with this
            omega
          refine q_int (Q := Q3) ?_ (q3 H3 (Ex.refl _))
          rw [if_neg hi0]
        · have hi0 : i + 1 < xs.length := by
            by_cases z : i + 1 < xs.length
            · exact z
            · refine absurd (decide_eq_true ?_) e
              congr 1
              omega
          refine ⟨_, rfl, _, rfl, _, _, rfl, rfl, c, _, _, _, rfl, rfl, SqT.of (f3 _ _ (f2 _ _ hc')), atI_is (n := i + 1) (by omega) (tz_ix (by omega)), _, rfl, _, rfl, _, _, rfl, rfl, r, _, _, _, rfl, rfl, SqT.of (f3 _ _ (f2 _ _ hr2)), atI_is (n := i + 2) (by omega) (iV_ix (by omega)), _, _, rfl, rfl, ?_⟩
          refine q_int (Q := Q3) ?_ (q3 H3 (Ex.refl _))
          rw [if_pos hi0]
      have ho4 := f4 _ _ (f2 _ _ ho)
      refine ⟨_, rfl, .inl ⟨rfl, _, SqL.of ho4⟩, _, rfl, _, rfl, c, _, _, _, rfl, rfl, SqT.of (f4 _ _ (f2 _ _ hc')), atI_nat (tz_ix (by omega)), _, rfl, _, _, rfl, rfl, _, rfl, _, _, rfl, rfl, _, _, rfl, o, _, _, rfl, rfl, ho4, small1000 (by rw [iV_len, row_len]; omega), ?_⟩
      refine ⟨_, _, _, rfl, Ex.mut ((ex.trans f2).trans f4) no, ?_⟩
      rw [upd_same]
      unfold row iV
      rw [List.range_succ, List.map_append, List.map_append]
      rfl
    · rintro σ' H' ⟨y, z, u, rfl, ex, ho⟩
      refine ⟨_, rfl, o, _, rfl, .inl ⟨SqL.of ho, fun l nl' => ?_⟩⟩
      exact q l _ (fresh_back ex nl') (ex.trans (Ex.new nl')) upd_same
def sp_l_is_least : Sp := fun vs H Q _ => ∃ (c : Addr) (xs : List Nat) (m : Int) (k : Nat), vs = [.ref c, .int k, .int m] ∧ Cnt xs ∧ H c = some (.tup (tz xs)) ∧ k < xs.length ∧ m = (mm xs k : Int) ∧ RetV (.bl true) H Q
theorem ok_l_is_least (T : Txt K mg) : FnOk P w K mg base CX0 6 T.f_l_is_least T.d_l_is_least ["counts", "k", "c"] sp_l_is_least := by
  have F_l_lower_sets := ok_l_lower_sets (P := P) (w := w) (base := base) T
  refine T.U_l_is_least.ok sc_l_is_least (fun vs H Q E h => ?_) (fun cdv A outer s H vs Q E hr h => ?_)
  · obtain ⟨_, _, _, _, rfl, _⟩ := h
    rfl
  · obtain ⟨c, xs, m, k, rfl, C, hc, hk, rfl, q⟩ := h
    refine ⟨_, (pss_cons (ps_if (PW.pt (pw_or (pt_cmpR op_lt (pv 2) pe_int (nomark _)) (pw_or1 (pt_cmpR op_gt (pe_call F_l_lower_sets (hr.mono (by decide)) (by rfl) T.g_l_lower_sets T.k_l_lower_sets T.b_l_lower_sets .nil pass0 (pa_cons (pe_op op_sub (pe_ix ix_tup (pv 0) (pv 1) (fun _ _ => rfl)) (pv 2)) (pa_cons (pe_op op_add (pv 1) pe_int) pa_nil))) (pv 2) (nomark _))))) (pss_one (ps_ret pe_bl)) pss_nil)
  (pss_one (ps_ret (pe_or (pe_cmpR op_eq (pv 2) pe_int (nomark _)) (pe_one (pe_cmpR op_gt (pe_call F_l_lower_sets (hr.mono (by decide)) (by rfl) T.g_l_lower_sets T.k_l_lower_sets T.b_l_lower_sets .nil pass0 (pa_cons (pe_op op_add (pe_op op_sub (pe_ix ix_tup (pv 0) (pv 1) (fun _ _ => rfl)) (pv 2)) pe_int) (pa_cons (pe_op op_add (pv 1) pe_int) pa_nil))) (pe_op op_sub (pv 2) pe_int) (nomark _))))))), ?_⟩
    have h4 := C.fit.len
    have il := nl_is (k + 1) (xs.getD k 0)
    have il2 := nl_self (k + 1) (xs.getD k 0)
    rw [← mm_at hk] at il il2
    have hsb : xs.getD k 0 + 1 < 2 ^ 1900 := by
      have h1 := C.small k hk
      have h2 : 2 * 2 ^ 800 ≤ 2 ^ 1900 := by
        rw [show 2 * 2 ^ 800 = 2 ^ 801 by rw [show (2 : Nat) ^ 801 = 2 ^ 1 * 2 ^ 800 by rw [← Nat.pow_add]]]
        exact Nat.pow_le_pow_right (by decide) (by decide)
      have h3 : 1 ≤ 2 ^ 800 := Nat.one_le_two_pow
      generalize 2 ^ 800 = A at *
      generalize 2 ^ 1900 = B at *
      omega
    have ek : (k : Int) + 1 = ((k + 1 : Nat) : Int) := by omega
    refine ⟨_, rfl, _, _, rfl, rfl, _, rfl, ite_no (decide_eq_false (by omega)) ?_⟩
    refine ⟨_, rfl, _, rfl, c, _, _, _, rfl, rfl, SqT.of hc, atI_nat (tz_ix hk), _, rfl, _, _, rfl, rfl, _, rfl, _, _, rfl, rfl, _, _, xs.getD k 0 - mm xs k, k + 1, rfl, by omega, ek, by omega, by omega, by omega, fun H2 e2 => ?_⟩
    refine ⟨_, rfl, _, _, rfl, rfl, _, rfl, ite_no (decide_eq_false ?_) ?_⟩
    · have := il.1
      omega
    refine ⟨_, rfl, rfl, _, rfl, ?_⟩
    by_cases hm : mm xs k = 0
    · refine ite_yes (decide_eq_true (by rw [hm]; rfl)) ?_
      exact q H2 e2
    · refine ite_no (decide_eq_false fun z => ?_) ?_
      · injection z with z
        omega
      refine ⟨_, rfl, _, rfl, c, _, _, _, rfl, rfl, SqT.of (e2 _ _ hc), atI_nat (tz_ix hk), _, rfl, _, _, rfl, rfl, _, _, rfl, rfl, _, rfl, _, _, rfl, rfl, _, _, xs.getD k 0 - (mm xs k - 1), k + 1, rfl, by omega, ek, by omega, by omega, by omega, fun H3 e3 => ?_⟩
      refine ⟨_, rfl, _, _, rfl, rfl, _, _, rfl, rfl, ?_⟩
      refine q_bl (Q := Q) (decide_eq_true ?_) (q H3 (e2.trans e3))
      have := il.2 (mm xs k - 1) (by omega)
      omega
/-! ### facts for the law -/
theorem dk_keep {G H : Hp} {d l : Addr} {us : List V} (k : Dk G d H) (h : H l = some (.tup us)) : ∃ G', Ex G G' ∧ G' l = some (.tup us) ∧ Dk G' d H := by
  obtain ⟨c, cells, m, n, z⟩ := k
  have hd : d ≠ l := (ne_of h z.hd (by intro e; cases e)).symm
  have hc : c ≠ l := (ne_of h z.hc (by intro e; cases e)).symm
  refine ⟨upd G l (.tup us), fun b u e => ?_, upd_same, c, cells, m, n, fun b u e => ?_, ?_, ?_, z.hd, z.hc, z.len, z.m0, z.m1⟩
  · by_cases hb : b = l
    · subst hb
      have := z.ex _ _ e
      rw [h] at this
      cases this
      exact upd_same
    · rw [upd_ne hb]
      exact e
  · by_cases hb : b = l
    · subst hb
      rw [upd_same] at e
      cases e
      exact h
    · rw [upd_ne hb] at e
      exact z.ex _ _ e
  · rw [upd_ne hd]
    exact z.gd
  · rw [upd_ne hc]
    exact z.gc
theorem log_small {v : Int} (h0 : 0 ≤ v) {n : Nat} (h1 : v ≤ n) (hn : n < 2 ^ 800) : v.natAbs.log2 < 1920 := by
  refine log_lt ?_ (by decide)
  have h2 : (2 : Nat) ^ 800 ≤ 2 ^ 1920 := Nat.pow_le_pow_right (by decide) (by decide)
  generalize 2 ^ 800 = A at *
  generalize 2 ^ 1920 = B at *
  omega
theorem fine_row {n : Nat} {f : Nat → Int} {xs : List Nat} (C : Cnt xs) (hn : n = xs.length) (h : ∀ k, k < n → 0 ≤ f k ∧ f k ≤ xs.getD k 0) : Fine (.tuple ((row n f).map PyData.int)) 8000 := by
  refine ((FineL.ints (row n f) fun x hx => ?_).tup).up (by rw [row_len]; have := C.fit.len; omega)
  obtain ⟨k, hk, rfl⟩ := List.mem_map.mp hx
  have hk := List.mem_range.mp hk
  have := h k hk
  exact log_small this.1 this.2 (C.small k (by omega))
theorem most_b {xs : List Nat} (C : Cnt xs) {k : Nat} (hk : k < xs.length) : 0 ≤ (iz xs).getD k 0 - (mL xs).getD k 0 - (mL xs).getD (k + 1) 0 ∧ (iz xs).getD k 0 - (mL xs).getD k 0 - (mL xs).getD (k + 1) 0 ≤ xs.getD k 0 := by
  have h := C.fit.mm2 hk
  rw [iz_at, mL_at (by omega), mL_at (by omega)]
  omega
theorem few_le {xs : List Nat} (C : Cnt xs) {k : Nat} (hk : k < xs.length) : 0 ≤ pos0 (lhv xs (mL xs) k) ∧ pos0 (lhv xs (mL xs) k) ≤ (iz xs).getD k 0 - (mL xs).getD k 0 - (mL xs).getD (k + 1) 0 := by
  have h0 := most_b C hk
  rw [iz_at, mL_at (by omega), mL_at (by omega)] at h0 ⊢
  have hb : (mm xs k : Int) ≤ (if k = 0 then 1 else ((xs.getD (k - 1) 0 : Nat) : Int) - (mL xs).getD (k - 1) 0) := by
    by_cases z : k = 0
    · subst z
      rw [if_pos rfl, C.fit.mm0]
      exact Int.le_refl _
    · rw [if_neg z, mL_at (by omega)]
      have := C.fit.mm2 (show k - 1 < xs.length by omega)
      rw [show k - 1 + 1 = k by omega] at this
      omega
  have ha : (mm xs (k + 1) : Int) ≤ (if k + 1 < xs.length then ((xs.getD (k + 1) 0 : Nat) : Int) - (mL xs).getD (k + 2) 0 else 0) := by
    by_cases z : k + 1 < xs.length
    · rw [if_pos z, mL_at (by omega)]
      have := C.fit.mm2 z
      rw [show k + 1 + 1 = k + 2 from rfl] at this
      omega
    · rw [if_neg z, mm_end (by omega)]
      exact Int.le_refl _
  unfold pos0
  have e : lhv xs (mL xs) k = ((xs.getD k 0 : Nat) : Int) - (if k = 0 then 1 else ((xs.getD (k - 1) 0 : Nat) : Int) - (mL xs).getD (k - 1) 0) - (if k + 1 < xs.length then ((xs.getD (k + 1) 0 : Nat) : Int) - (mL xs).getD (k + 2) 0 else 0) := rfl
  generalize lhv xs (mL xs) k = v at *
  split <;> omega
/-- one number otherwise -/
def oth (is : List Int) (a : Nat) (m : Int) : List Int := is.take a ++ [is.getD a 0 + m] ++ is.drop (a + 1)
theorem oth_len {is : List Int} {a : Nat} {m : Int} (h : a < is.length) : (oth is a m).length = is.length := by
  unfold oth
  rw [List.length_append, List.length_append, List.length_take, List.length_drop, List.length_singleton]
  omega
theorem oth_at {is : List Int} {a : Nat} {m : Int} (h : a < is.length) : (oth is a m).getD a 0 = is.getD a 0 + m := by
  unfold oth
  rw [List.getD_eq_getElem?_getD, List.getElem?_append_left (by rw [List.length_append, List.length_take, List.length_singleton]; omega), List.getElem?_append_right (by rw [List.length_take]; omega), List.length_take, Nat.min_eq_left (by omega), Nat.sub_self]
  rfl
theorem oth_ne {is : List Int} {a k : Nat} {m : Int} (h : a < is.length) (hk : k ≠ a) : (oth is a m).getD k 0 = is.getD k 0 := by
  unfold oth
  rw [List.getD_eq_getElem?_getD, List.getD_eq_getElem?_getD]
  by_cases z : k < a
  · rw [List.getElem?_append_left (by rw [List.length_append, List.length_take, List.length_singleton]; omega), List.getElem?_append_left (by rw [List.length_take]; omega), List.getElem?_take, if_pos z, List.getD_eq_getElem?_getD]
  · rw [List.getElem?_append_right (by rw [List.length_append, List.length_take, List.length_singleton]; omega), List.getElem?_drop, List.length_append, List.length_take, List.length_singleton]
    congr 2
    omega
theorem cut_to (is : List Int) (n : Nat) (h : n ≤ is.length) : cutV (iV is) none (some (n : Int)) = iV (is.take n) := by
  unfold cutV
  rw [HT.sIx_nat, HT.sIx_none, iV_len, List.drop_zero, Nat.sub_zero, Nat.min_eq_left h]
  unfold iV
  rw [← List.map_take]
theorem iV_app (a b : List Int) : iV a ++ iV b = iV (a ++ b) := by
  unfold iV
  rw [List.map_append]
theorem bool_of (p : Prop) : ∃ b : Bool, (b = true ↔ p) := by
  by_cases h : p
  · exact ⟨true, fun _ => h, fun _ => rfl⟩
  · exact ⟨false, fun z => (nomatch z), fun z => absurd z h⟩
theorem row_hW (xs : List Nat) (rs : List Int) : row xs.length (fun k => (iz xs).getD k 0 - rs.getD k 0 - rs.getD (k + 1) 0) = hW (iz xs) rs := by
  unfold hW
  rw [iz_len]
theorem p800 : ((2 ^ 800 : Nat) : Int) + 1 ≤ 2 ^ 801 := by
  have e : (2 : Int) ^ 801 = ((2 ^ 801 : Nat) : Int) := by norm_cast
  have h : (2 : Nat) ^ 801 = 2 * 2 ^ 800 := by rw [show (2 : Nat) ^ 801 = 2 ^ 1 * 2 ^ 800 by rw [← Nat.pow_add]]
  have h3 : 1 ≤ 2 ^ 800 := Nat.one_le_two_pow
  rw [e, h]
  generalize 2 ^ 800 = A at *
  omega
end
end K34

namespace K34
open PySem PySem.Spec PyProof.Rows L2 Hr HrM Evl RZ LamX
section
variable {P : Program} {w : World} {K : PySem.W.Frag} {mg : Str → Option Value} {base : Heap}
def sp_law (K : PySem.W.Frag) (P0 : Addr) : Sp := fun vs H Q _ => ∃ (a : Addr) (ns : List Int), vs = [.ref a] ∧ SqL K H a (ns.map V.int) ∧ ns.length ≤ 63 ∧ H P0 = some (.tbl #[]) ∧ ∀ H', Q (.bl true) H'
def sp_drawT (T : List (Addr × Str)) : Sp := fun vs H Q _ => ∃ (G : Hp) (d : Addr) (m : Int), vs = [.ref d, .int m] ∧ 1 ≤ m ∧ m ≤ 1000000 ∧ DkT T G d H ∧ ∀ (r : Int) (H' : Hp), 0 ≤ r → r < m → DkT T G d H' → Q (.int r) H'
theorem drawT {T : List (Addr × Str)} : ∀ vs H Q E, sp_drawT T vs H Q E → sp_draw vs H Q E := fun _ _ _ _ ⟨G, d, m, e, h1, h2, k, q⟩ => by
  obtain ⟨Gf, kf, _, back, _⟩ := k.full
  exact ⟨Gf, d, m, e, h1, h2, kf, fun r H' r0 r1 k' => q r H' r0 r1 (back k')⟩
def sp_pickT (T : List (Addr × Str)) : Sp := fun vs H Q _ => ∃ (G : Hp) (d t : Addr) (xs : List V), vs = [.ref d, .ref t] ∧ DkT T G d H ∧ G t = some (.lst xs) ∧ 1 ≤ xs.length ∧ xs.length ≤ 1000 ∧ ∀ (i : Nat) (v : V) (H' : Hp), xs[i]? = some v → DkT T G d H' → Q v H'
theorem pickT {T : List (Addr × Str)} : ∀ vs H Q E, sp_pickT T vs H Q E → sp_pick vs H Q E := fun _ _ _ _ ⟨G, d, t, xs, e, k, ht, h1, h2, q⟩ => by
  obtain ⟨Gf, kf, _, back, old⟩ := k.full
  exact ⟨Gf, d, t, xs, e, kf, old _ _ ht, h1, h2, fun i v H' hv k' => q i v H' hv (back k')⟩
def sp_l_some_countsT (T : List (Addr × Str)) : Sp := fun vs H Q _ => ∃ (G : Hp) (dk : Addr) (D g : Int) (d : Nat), vs = [.ref dk, .int D, .int g] ∧ D = d ∧ 1 ≤ d ∧ d ≤ 4 ∧ 1 ≤ g ∧ g < 2 ^ 94 ∧ DkT T G dk H ∧
  ∀ (c : Addr) (xs : List Nat) (G' H' : Hp), Ex G G' → G' c = some (.tup (tz xs)) → Cnt xs → xs.length = d → DkT T G' dk H' → Q (.ref c) H'
theorem some_countsT {T : List (Addr × Str)} : ∀ vs H Q E, sp_l_some_countsT T vs H Q E → sp_l_some_counts vs H Q E := fun _ _ _ _ ⟨G, dk, D, g, d, e, h1, h2, h3, h4, h5, k, q⟩ => by
  obtain ⟨Gf, kf, fwd, _, _⟩ := k.full
  exact ⟨Gf, dk, D, g, d, e, h1, h2, h3, h4, h5, kf, fun c xs G' H' x hc C hl k' => q c xs (nt G') H' (fwd x k').2 (nt_at hc fun _ z => by cases z) C hl (fwd x k').1⟩
theorem dk_keepT {T : List (Addr × Str)} {G H : Hp} {d l : Addr} {us : List V} (k : DkT T G d H) (h : H l = some (.tup us)) : ∃ G', Ex G G' ∧ G' l = some (.tup us) ∧ DkT T G' d H := by
  obtain ⟨G', x, hl, k'⟩ := dk_keep k.k h
  exact ⟨nt G', fun b o hb => nt_at (x _ _ hb) (k.n b o hb), nt_at hl (fun _ z => by cases z), ⟨k'.nt, nt_NT _, k.t⟩⟩
theorem setT {T : List (Addr × Str)} {G H : Hp} {d f : Addr} {xs ys : List V} (k : DkT T G d H) (h : G f = some (.lst xs)) : DkT T (upd G f (.lst ys)) d (upd H f (.lst ys)) := by
  refine ⟨k.k.set (f := f) (o' := .lst ys) h, k.n.upd (fun _ z => by cases z), fun p hp => ?_⟩
  have hf := k.get h
  obtain ⟨ps, h1, h2, h3⟩ := k.t p hp
  refine ⟨ps, by rw [upd_ne (ne_of h1 hf fun z => by cases z)]; exact h1, h2, fun pos cv hc => ?_⟩
  obtain ⟨c, e1, e2⟩ := h3 pos cv hc
  exact ⟨c, e1, by rw [upd_ne (ne_of e2 hf fun z => by unfold CodeO at z; cases z)]; exact e2⟩
theorem ok_law (T : Txt K mg) (TB : TabB base mg T.c_greatest_top T.P_greatest_top) : FnG P w K mg base CX0 11 T.f_law T.d_law ["script"] (sp_law K T.P_greatest_top) := by
  have F_l_deck := ok_deck (P := P) (w := w) (base := base) T
  have F_l_draw := (ok_draw (P := P) (w := w) (base := base) T).imp (drawT (T := topT T.P_greatest_top))
  have F_l_pick := (ok_pick (P := P) (w := w) (base := base) T).imp (pickT (T := topT T.P_greatest_top))
  have F_l_some_counts := (ok_l_some_counts (P := P) (w := w) (base := base) T).imp (some_countsT (T := topT T.P_greatest_top))
  have F_least_rests := ok_least_rests (P := P) (w := w) (base := base) T TB
  have F_l_are_integers := ok_l_are_integers (P := P) (w := w) (base := base) T
  have F_l_is_least := ok_l_is_least (P := P) (w := w) (base := base) T
  have F_l_least_holes := ok_l_least_holes (P := P) (w := w) (base := base) T
  have F_most_holes := ok_most_holes (P := P) (w := w) (base := base) T TB
  have F_least_holes := ok_least_holes (P := P) (w := w) (base := base) T TB
  have F_has_hole_row := ok_has_hole_row (P := P) (w := w) (base := base) T TB
  have F_l_does_fit := ok_l_does_fit (P := P) (w := w) (base := base) T
  have kb_least_rests_counts := sw1_binds (p1 := "counts") T.U_least_rests fun _ _ _ _ _ _ _ => rfl
  have kb_least_holes_counts := sw1_binds (p1 := "counts") T.U_least_holes fun _ _ _ _ _ _ _ => rfl
  have kb_has_hole_row_thing_counts := sw2_binds (p1 := "counts") (p2 := "thing") T.U_has_hole_row fun _ _ _ _ _ _ _ _ => rfl
  refine okG T.U_law sc_law (fun vs H Q E h => ?_) (fun cdv A outer s H vs Q E hr gg h => ?_)
  · obtain ⟨_, _, rfl, _⟩ := h
    rfl
  · obtain ⟨a, ns, rfl, hS, hl, hP, q⟩ := h
    refine ⟨_, (pss_cons (ps_set (i := 1) sc_law.nd rfl (.inr rfl) (pe_call F_l_deck (hr.mono (by decide)) (by rfl) T.g_l_deck T.k_l_deck T.b_l_deck .nil pass0 (pa_cons (pv 0) pa_nil)))
  (pss_cut (ps_set (i := 2) sc_law.nd rfl (.inl rfl) (pe_ifExp (pt_cmpR op_eq (pe_call F_l_draw (hr.mono (by decide)) (by rfl) T.g_l_draw T.k_l_draw T.b_l_draw .nil pass0 (pa_cons (pv 1) (pa_cons pe_int pa_nil))) pe_int (nomark _)) (pe_call F_l_pick (hr.mono (by decide)) (by rfl) T.g_l_pick T.k_l_pick T.b_l_pick .nil pass0 (pa_cons (pv 1) (pa_cons (pe_lst (pa_cons (pe_op op_pow pe_int pe_int) (pa_cons (pe_op op_pow pe_int pe_int) (pa_cons (pe_op op_pow pe_int pe_int) pa_nil)))) pa_nil))) pe_int))
  (pss_cons (ps_set (i := 3) sc_law.nd rfl (.inr rfl) (pe_call F_l_some_counts (hr.mono (by decide)) (by rfl) T.g_l_some_counts T.k_l_some_counts T.b_l_some_counts .nil pass0 (pa_cons (pv 1) (pa_cons (pe_op op_add pe_int (pe_call F_l_draw (hr.mono (by decide)) (by rfl) T.g_l_draw T.k_l_draw T.b_l_draw .nil pass0 (pa_cons (pv 1) (pa_cons pe_int pa_nil)))) (pa_cons (pv 2) pa_nil)))))
  (pss_cut (ps_set (i := 4) sc_law.nd rfl (.inr rfl) (pe_ifExp (pt_cmpR op_eq (pe_call F_l_draw (hr.mono (by decide)) (by rfl) T.g_l_draw T.k_l_draw T.b_l_draw .nil pass0 (pa_cons (pv 1) (pa_cons pe_int pa_nil))) pe_int (nomark _)) (pe_call F_least_rests (hr.mono (by decide)) (by rfl) T.g_least_rests T.k_least_rests T.b_least_rests .nil pass0 (pa_cons (pv 3) pa_nil)) (pe_callK0 F_least_rests (hr.mono (by decide)) (by rfl) T.g_least_rests T.k_least_rests kb_least_rests_counts pass0 (pk_cons (pv 3) pk_nil))))
  (pss_cons (ps_set (i := 5) sc_law.nd rfl (.inl rfl) (pe_callB call_len_seq (by rfl) T.n_len PySem.boot_len (pa_cons (pv 3) pa_nil)))
  (pss_cons (ps_if (PW.pt (pw_or (pt_not (pt_val (pe_call F_l_are_integers (hr.mono (by decide)) (by rfl) T.g_l_are_integers T.k_l_are_integers T.b_l_are_integers .nil pass0 (pa_cons (pv 4) (pa_cons (pe_op op_add (pv 5) pe_int) pa_nil))))) (pw_or (pt_cmpR op_ne (pe_ix ix_tup (pv 4) pe_int (fun _ _ => rfl)) pe_int (nomark _)) (pw_or1 (pt_cmpR op_ne (pe_ix ix_tup (pv 4) (pv 5) (fun _ _ => rfl)) pe_int (nomark _)))))) (pss_one (ps_ret pe_bl)) pss_nil)
  (pss_cons (ps_if (pt_cmpR (op_neD hr.units) (pe_lc (own := [("k", 13)]) (g := gName 13) (tt := _) rfl sc_law.nd (pi_range2 rfl T.n_range (pa_cons pe_int (pa_cons (pv 5) pa_nil))) (blkOk_by (own := [("k", 13)]) (N := ["script", "deck", "greatest", "counts", "least", "d", "most", "few", "at", "more", "other", "row", "due", "k", "x", "y"]) (sc := defScope s_law) (by decide +kernel)) (fun _ _ _ _ _ => pg_name (i := 13) sc_law.nd rfl (Or.inl rfl)) (fun _ _ _ _ _ => pts_one (pt_not (pt_val (pe_call F_l_is_least (hr.mono (by decide)) (by rfl) T.g_l_is_least T.k_l_is_least T.b_l_is_least .nil pass0 (pa_cons (pv 3) (pa_cons (pv 13) (pa_cons (pe_ix (r := rIxT K) ix_tup (pv 4) (pv 13) (fun _ _ => rfl)) pa_nil))))))) (fun _ _ _ _ _ => pe_int)) (pe_lst pa_nil) (nomark _)) (pss_one (ps_ret pe_bl)) pss_nil)
  (pss_cons (ps_set (i := 6) sc_law.nd rfl (.inl rfl) (pe_callTy call_tuple_of (by rfl) T.n_tuple (by decide +kernel) (pa_cons (pe_lc (own := [("k", 13)]) (g := gName 13) (tt := tYes) rfl sc_law.nd (pi_range1 rfl T.n_range (pa_cons (pv 5) pa_nil)) (blkOk_by (own := [("k", 13)]) (N := ["script", "deck", "greatest", "counts", "least", "d", "most", "few", "at", "more", "other", "row", "due", "k", "x", "y"]) (sc := defScope s_law) (by decide +kernel)) (fun _ _ _ _ _ => pg_name (i := 13) sc_law.nd rfl (Or.inl rfl)) (fun _ _ _ _ _ => pts_nil) (fun _ _ _ _ _ => (pe_op op_sub (pe_op op_sub (pe_ix (r := rIxT K) ix_tup (pv 3) (pv 13) (fun _ _ => rfl)) (pe_ix (r := rIxT K) ix_tup (pv 4) (pv 13) (fun _ _ => rfl))) (pe_ix (r := rIxT K) ix_tup (pv 4) (pe_op op_add (pv 13) pe_int) (fun _ _ => rfl))))) pa_nil)))
  (pss_cons (ps_set (i := 7) sc_law.nd rfl (.inl rfl) (pe_call F_l_least_holes (hr.mono (by decide)) (by rfl) T.g_l_least_holes T.k_l_least_holes T.b_l_least_holes .nil pass0 (pa_cons (pv 3) (pa_cons (pv 4) pa_nil))))
  (pss_cons (ps_if (PW.pt (pw_or (pt_cmpR op_ne (pe_callB (cr_repr gg (hr.units)) (by rfl) T.n_repr (by decide +kernel) (pa_cons (pe_call F_most_holes (hr.mono (by decide)) (by rfl) T.g_most_holes T.k_most_holes T.b_most_holes .nil pass0 (pa_cons (pv 3) pa_nil)) pa_nil)) (pe_callB (cr_repr gg (hr.units)) (by rfl) T.n_repr (by decide +kernel) (pa_cons (pv 6) pa_nil)) (nomark _)) (pw_or1 (pt_cmpR op_ne (pe_callB (cr_repr gg (hr.units)) (by rfl) T.n_repr (by decide +kernel) (pa_cons (pe_callK0 F_least_holes (hr.mono (by decide)) (by rfl) T.g_least_holes T.k_least_holes kb_least_holes_counts pass0 (pk_cons (pv 3) pk_nil)) pa_nil)) (pe_callB (cr_repr gg (hr.units)) (by rfl) T.n_repr (by decide +kernel) (pa_cons (pv 7) pa_nil)) (nomark _))))) (pss_one (ps_ret pe_bl)) pss_nil)
  (pss_cons (ps_if (PW.pt (pw_or (pt_cmpR (op_neD hr.units) (pe_lc (own := [("x", 14), ("y", 15)]) (g := gTup K 2 (gCons (gName 14) (gCons (gName 15) (gNil)))) (tt := _) rfl sc_law.nd (pi_zipA (by rfl) T.n_zip (pa_cons (pv 7) (pa_cons (pv 6) pa_nil))) (blkOk_by (own := [("x", 14), ("y", 15)]) (N := ["script", "deck", "greatest", "counts", "least", "d", "most", "few", "at", "more", "other", "row", "due", "k", "x", "y"]) (sc := defScope s_law) (by decide +kernel)) (fun _ _ _ _ _ => pg_tup rfl (pgs_cons (pg_name (i := 14) sc_law.nd rfl (Or.inl rfl)) (pgs_cons (pg_name (i := 15) sc_law.nd rfl (Or.inl rfl)) pgs_nil))) (fun _ _ _ _ _ => pts_one (pt_cmpR op_gt (pv 14) (pv 15) (nomark _))) (fun _ _ _ _ _ => pe_int)) (pe_lst pa_nil) (nomark _)) (pw_or1 (pt_cmpR op_notBl (pe_call F_has_hole_row (hr.mono (by decide)) (by rfl) T.g_has_hole_row T.k_has_hole_row T.b_has_hole_row .nil pass0 (pa_cons (pv 3) (pa_cons (pv 6) pa_nil))) pe_bl (nomark _))))) (pss_one (ps_ret pe_bl)) pss_nil)
  (pss_cons (ps_par rfl sc_law.nd (i := 8) (j := 9) rfl rfl (by decide) rfl rfl (pa_cons (pe_call F_l_draw (hr.mono (by decide)) (by rfl) T.g_l_draw T.k_l_draw T.b_l_draw .nil pass0 (pa_cons (pv 1) (pa_cons (pv 5) pa_nil))) (pa_cons (pe_op op_sub pe_int (pe_op op_mul pe_int (pe_call F_l_draw (hr.mono (by decide)) (by rfl) T.g_l_draw T.k_l_draw T.b_l_draw .nil pass0 (pa_cons (pv 1) (pa_cons pe_int pa_nil))))) pa_nil)) (by rfl))
  (pss_cons (ps_set (i := 10) sc_law.nd rfl (.inl rfl) (pe_op op_catA (pe_op op_catA (pe_slice sl_tup (pv 6) po_none (po_some (pv 8))) (pe_tup (pa_cons (pe_op op_add (pe_ix ix_tup (pv 6) (pv 8) (fun _ _ => rfl)) (pv 9)) pa_nil))) (pe_slice sl_tup (pv 6) (po_some (pe_op op_add (pv 8) pe_int)) po_none)))
  (pss_cons (ps_if (pt_cmpR op_notBl (pe_call F_has_hole_row (hr.mono (by decide)) (by rfl) T.g_has_hole_row T.k_has_hole_row T.b_has_hole_row .nil pass0 (pa_cons (pv 3) (pa_cons (pv 10) pa_nil))) pe_bl (nomark _)) (pss_one (ps_ret pe_bl)) pss_nil)
  (pss_cons (ps_setLc (i := 11) (own := [("k", 13)]) (g := gName 13) (tt := tYes) (by rfl) sc_law.nd rfl rfl (sw_true rfl rfl rfl (by decide +kernel)) (pi_range1 rfl T.n_range (pa_cons (pv 5) pa_nil)) (blkOk_by (own := [("k", 13)]) (N := ["script", "deck", "greatest", "counts", "least", "d", "most", "few", "at", "more", "other", "row", "due", "k", "x", "y"]) (sc := defScope s_law) (by decide +kernel)) (fun _ _ _ _ _ => pg_name (i := 13) sc_law.nd rfl (Or.inl rfl)) (fun _ _ _ _ _ => pts_nil) (fun _ _ _ _ _ => (pe_call F_l_draw (hr.mono (by decide)) (by rfl) T.g_l_draw T.k_l_draw T.b_l_draw .nil pass0 (pa_cons (pv 1) (pa_cons pe_int pa_nil)))))
  (pss_cons (ps_set (i := 10) sc_law.nd rfl (.inl rfl) (pe_callTy call_tuple_of (by rfl) T.n_tuple (by decide +kernel) (pa_cons (pe_lc (own := [("x", 14), ("y", 15)]) (g := gTup K 2 (gCons (gName 14) (gCons (gName 15) (gNil)))) (tt := tYes) rfl sc_law.nd (pi_zipM (by rfl) T.n_zip (pa_cons (pv 6) (pa_cons (pv 11) pa_nil))) (blkOk_by (own := [("x", 14), ("y", 15)]) (N := ["script", "deck", "greatest", "counts", "least", "d", "most", "few", "at", "more", "other", "row", "due", "k", "x", "y"]) (sc := defScope s_law) (by decide +kernel)) (fun _ _ _ _ _ => pg_tup rfl (pgs_cons (pg_name (i := 14) sc_law.nd rfl (Or.inl rfl)) (pgs_cons (pg_name (i := 15) sc_law.nd rfl (Or.inl rfl)) pgs_nil))) (fun _ _ _ _ _ => pts_nil) (fun _ _ _ _ _ => (pe_callB (call_max2 rfl) (by rfl) T.n_max (by decide +kernel) (pa_cons pe_int (pa_cons (pe_op op_sub (pv 14) (pv 15)) pa_nil))))) pa_nil)))
  (pss_cons (ps_set (i := 12) sc_law.nd rfl (.inl rfl) (pe_call F_l_does_fit (hr.mono (by decide)) (by rfl) T.g_l_does_fit T.k_l_does_fit T.b_l_does_fit .nil pass0 (pa_cons (pv 3) (pa_cons (pv 10) pa_nil))))
  (pss_one (ps_ret (pe_cmpR op_eq (pe_callB cr_reprB (by rfl) T.n_repr (by decide +kernel) (pa_cons (pe_callK0 F_has_hole_row (hr.mono (by decide)) (by rfl) T.g_has_hole_row T.k_has_hole_row kb_has_hole_row_thing_counts pass0 (pk_cons (pv 10) (pk_cons (pv 3) pk_nil))) pa_nil)) (pe_callB cr_reprB (by rfl) T.n_repr (by decide +kernel) (pa_cons (pv 12) pa_nil)) (nomark _))))))))))))))))))))), ?_⟩
    have hT0 : Tabs (topT T.P_greatest_top) H := Tabs.nil fun p hp => by rw [List.mem_singleton.mp hp]; exact hP
    refine ⟨_, rfl, a, ns, rfl, hS, hl, fun d H1 k1 => ?_⟩
    replace k1 := DkT.start k1 hT0
    -- greatest
    refine ⟨fun σ' H2 => ∃ (g : Int) (G : Hp), 1 ≤ g ∧ g < 2 ^ 94 ∧ σ' = [some (.ref a), some (.ref d), some (.int g), none, none, none, none, none, none, none, none, none, none, none, none, none] ∧ DkT (topT T.P_greatest_top) G d H2, ?_, ?_⟩
    · refine ⟨_, rfl, nt H, d, _, rfl, by decide, by decide, k1, fun r H2 r0 r1 k2 => ⟨rfl, _, rfl, ite2 (fun _ => ?_) (fun _ => ?_)⟩⟩
      · have cp : ∀ n : Int, 0 ≤ n → n ≤ 1000 → CPow 10 n := fun n h1 h2 => ⟨h1, by omega, by decide⟩
        refine ⟨_, rfl, _, _, rfl, rfl, cp 3 (by decide) (by decide), _, _, rfl, rfl, cp 9 (by decide) (by decide), _, _, rfl, rfl, cp 28 (by decide) (by decide), by show 3 ≤ sizeLine; decide, fun t nt => ?_⟩
        generalize hL : [V.int ((10 : Int) ^ (3 : Int).toNat), V.int ((10 : Int) ^ (9 : Int).toNat), V.int ((10 : Int) ^ (28 : Int).toNat)] = L
        have k3 : DkT (topT T.P_greatest_top) (upd (Hr.nt H) t (.lst L)) d _ := k2.made nt
        refine ⟨_, d, t, _, rfl, k3, upd_same, by rw [← hL]; show 1 ≤ 3; decide, by rw [← hL]; show 3 ≤ 1000; decide, fun i v H3 hv k4 => ?_⟩
        subst hL
        obtain ⟨g, rfl, h1, h2⟩ : ∃ g : Int, v = .int g ∧ 1 ≤ g ∧ g < 2 ^ 94 := by
          rcases i with _ | _ | _ | i
          · cases hv; exact ⟨_, rfl, by decide, by decide⟩
          · cases hv; exact ⟨_, rfl, by decide, by decide⟩
          · cases hv; exact ⟨_, rfl, by decide, by decide⟩
          · cases hv
        exact ⟨g, _, h1, h2, rfl, k4⟩
      · exact ⟨6, _, by decide, by decide, rfl, k2⟩
    rintro σ' H2 ⟨g, G, hg1, hg2, rfl, k2⟩
    -- counts
    refine ⟨_, rfl, _, rfl, G, d, _, rfl, by decide, by decide, k2, fun r H3 r0 r1 k3 => ⟨_, _, rfl, rfl, _, rfl, G, d, _, g, (1 + r).toNat, rfl, by omega, by omega, by omega, hg1, hg2, k3, fun c xs G1 H4 ex1 hc1 C hxl k4 => ?_⟩⟩
    have hn := C.fit.ne
    have h4 := C.fit.len
    -- least
    refine ⟨fun σ' H2 => ∃ (l : Addr) (G : Hp), G c = some (.tup (tz xs)) ∧ G l = some (.tup (iV (mL xs))) ∧ σ' = [some (.ref a), some (.ref d), some (.int g), some (.ref c), some (.ref l), none, none, none, none, none, none, none, none, none, none, none] ∧ DkT (topT T.P_greatest_top) G d H2, ?_, ?_⟩
    · refine ⟨_, rfl, G1, d, _, rfl, by decide, by decide, k4, fun r H5 r0 r1 k5 => ⟨rfl, _, rfl, ite2 (fun _ => ?_) (fun _ => ?_)⟩⟩
      · refine ⟨_, rfl, c, xs, rfl, C, k5.get hc1, k5.t, fun p H6 e6 hp => ?_⟩
        obtain ⟨G2, x1, x2, x3⟩ := dk_keepT (k5.moreK e6) hp
        exact ⟨p, G2, x1 _ _ hc1, x2, rfl, x3⟩
      · refine ⟨_, rfl, c, xs, rfl, C, k5.get hc1, k5.t, fun p H6 e6 hp => ?_⟩
        obtain ⟨G2, x1, x2, x3⟩ := dk_keepT (k5.moreK e6) hp
        exact ⟨p, G2, x1 _ _ hc1, x2, rfl, x3⟩
    rintro σ' H5 ⟨l, G2, hc2, hl2, rfl, k5⟩
    have hml : (mL xs).length = xs.length + 1 := row_len _ _
    have hm0 : (mL xs).getD 0 0 = 1 := by rw [mL_at (Nat.zero_le _), C.fit.mm0]; rfl
    have hmd : (mL xs).getD xs.length 0 = 0 := by rw [mL_at (Nat.le_refl _), mm_end (Nat.le_refl _)]; rfl
    -- d, are_integers
    refine ⟨_, rfl, c, _, rfl, .inr (SqT.of (k5.get hc2)), ?_⟩
    rw [tz_len]
    refine ⟨_, rfl, _, rfl, _, _, rfl, rfl, l, _, mL xs, rfl, by rw [hml]; rfl, k5.get hl2, by omega, fun H6 e6 => ⟨_, rfl, ite_no rfl ?_⟩⟩
    have k6 := k5.more e6
    refine ⟨_, rfl, l, _, 0, _, rfl, rfl, SqT.of (k6.get hl2), atI_is (n := 0) rfl (iV_ix (by omega)), rfl, _, rfl, ite_no ?_ ?_⟩
    · rw [hm0]
      rfl
    refine ⟨_, rfl, _, rfl, l, _, _, _, rfl, rfl, SqT.of (k6.get hl2), atI_nat (iV_ix (by omega)), rfl, _, rfl, ite_no ?_ ?_⟩
    · rw [hmd]
      rfl
    -- is_least
    dsimp only [tNext]
    refine r_seq (r_if (r_test (r_op ?_)))
    refine el_lcR (H := H6) (lo := 1) (hi := (xs.length : Int)) (ea_cons ev_c (ea_cons (ev_var rfl) ea_nil)) (by omega) (fun _ => false) (fun _ => .non) (by omega) ?_ H6 (Ex.refl _) _ ?_
    · intro i H7 e7 hi
      have ek : (1 : Int) + (i : Int) = ((i + 1 : Nat) : Int) := by omega
      rw [ek]
      refine ⟨[some (.ref a), some (.ref d), some (.int g), some (.ref c), some (.ref l), some (.int (xs.length : Int)), none, none, none, none, none, none, none, some (.int ((i + 1 : Nat) : Int)), none, none], fun k hk => hk, rfl, ?_, fun h => nomatch h⟩
      intro H8 e8 Q8 q8
      have k8 := (k6.more e7).more e8
      exact ⟨_, rfl, _, rfl, _, rfl, _, rfl, l, _, _, _, rfl, rfl, SqT.of (k8.get hl2), atI_nat (iV_ix (by omega)), c, xs, _, i + 1, rfl, C, k8.get hc2, by omega, mL_at (by omega), fun H9 e9 => ⟨_, rfl, q8 H9 e9⟩⟩
    intro p7 H7 np7 e7 hp7
    rw [given_none' _ fun _ _ => rfl] at hp7
    have k7 := k6.more e7
    refine ⟨Nat.zero_le _, fun l2 n2 => ⟨izD [], izD [], izD_dp (xs := []) (SqL.of ((Ex.new n2) _ _ hp7)), izD_dp (xs := []) (SqL.of upd_same), izD_shaped _, izD_shaped _, _, rfl, ?_⟩⟩
    rw [izD_eqv_nil]
    refine ite_no rfl ?_
    have k8 := k7.new (o := .lst []) n2
    generalize upd H7 l2 (.lst []) = H8 at k8 ⊢
    -- most
    dsimp only [tNext]
    refine r_seq (r_set (r_cb (r_arg ?_)))
    refine el_lcR1 (H := H8) (n := (xs.length : Int)) (ea_cons (ev_var rfl) ea_nil) (by omega) (fun _ => true) (fun k => .int ((iz xs).getD k 0 - (mL xs).getD k 0 - (mL xs).getD (k + 1) 0)) (by omega) ?_ H8 (Ex.refl _) _ ?_
    · intro i H9 e9 hi
      rw [Int.zero_add]
      refine ⟨[some (.ref a), some (.ref d), some (.int g), some (.ref c), some (.ref l), some (.int (xs.length : Int)), none, none, none, none, none, none, none, some (.int (i : Int)), none, none], fun k hk => hk, rfl, et_yes, fun _ => ?_⟩
      intro H10 e10 Q10 q10
      have k10 := (k8.more e9).more e10
      refine ⟨_, rfl, _, rfl, c, _, _, _, rfl, rfl, SqT.of (k10.get hc2), atI_nat (tz_ix (by omega)), _, rfl, _, rfl, l, _, _, _, rfl, rfl, SqT.of (k10.get hl2), atI_nat (iV_ix (by omega)), _, _, rfl, rfl, _, rfl, _, rfl, _, _, rfl, rfl, l, _, _, _, rfl, rfl, SqT.of (k10.get hl2), atI_is (n := i + 1) (by omega) (iV_ix (by omega)), _, _, rfl, rfl, ?_⟩
      rw [iz_at] at q10
      exact q10 H10 (Ex.refl _)
    intro p9 H9 np9 e9 hp9
    rw [given_row, show ((xs.length : Int)).toNat = xs.length from rfl, row_hW] at hp9
    refine ⟨p9, _, rfl, .inl ⟨SqL.of hp9, fun mo nmo => ?_⟩⟩
    have k9 := (k8.more e9).new (o := .tup (iV (hW (iz xs) (mL xs)))) nmo
    obtain ⟨G3, x1, hmo3, k10⟩ := dk_keepT (l := mo) k9 upd_same
    have hc3 := x1 _ _ hc2
    have hl3 := x1 _ _ hl2
    generalize upd H9 mo (.tup (iV (hW (iz xs) (mL xs)))) = H10 at k10
    -- few
    refine ⟨_, rfl, _, rfl, c, l, xs, mL xs, rfl, k10.get hc3, k10.get hl3, hml, hn, h4, fun fe H11 nfe e11 hfe => ?_⟩
    obtain ⟨G4, x2, hfe4, k11⟩ := dk_keepT (k10.more e11) hfe
    have hc4 := x2 _ _ hc3
    have hmo4 := x2 _ _ hmo3
    -- repr
    have fm : Fine (.tuple ((hW (iz xs) (mL xs)).map PyData.int)) 8000 := fine_row C (iz_len xs) fun k hk => most_b C (by rw [iz_len] at hk; exact hk)
    have ff : Fine (.tuple ((lh xs (mL xs)).map PyData.int)) 8000 := fine_row C rfl fun k hk => ⟨(few_le C hk).1, Int.le_trans (few_le C hk).2 (most_b C hk).2⟩
    have eqs : ∀ z : Str, (!decide (V.str z = V.str z)) = false := fun z => by rw [decide_eq_true rfl]; rfl
    refine ⟨_, rfl, c, xs, rfl, C, k11.get hc4, k11.t, fun pm H12 e12 hpm => ?_⟩
    have k12 := k11.moreK e12
    dsimp only [tNil]
    show Hr.rRepr K [V.ref pm] H12 _
    refine r_repr (tup_dp (SqT.of hpm)) fm ?_
    refine ⟨_, rfl, ?_⟩
    dsimp only [tNil]
    show Hr.rRepr K [V.ref mo] H12 _
    refine r_repr (tup_dp (SqT.of (k12.get hmo4))) fm ?_
    refine ⟨rfl, _, rfl, ite_no (eqs _) ?_⟩
    refine ⟨_, rfl, c, xs, rfl, C, k12.get hc4, k12.t, fun pf H13 e13 hpf => ?_⟩
    have k13 := k12.moreK e13
    dsimp only [tNil]
    show Hr.rRepr K [V.ref pf] H13 _
    refine r_repr (tup_dp (SqT.of hpf)) ff ?_
    refine ⟨_, rfl, ?_⟩
    dsimp only [tNil]
    show Hr.rRepr K [V.ref fe] H13 _
    refine r_repr (tup_dp (SqT.of (k13.get hfe4))) ff ?_
    refine ⟨rfl, _, rfl, ite_no (eqs _) ?_⟩
    -- none of the most is below the least
    dsimp only [tNext]
    refine r_seq (r_if ?_)
    have hw_len : (hW (iz xs) (mL xs)).length = xs.length := by rw [hW_len, iz_len]
    have lh_len : (lh xs (mL xs)).length = xs.length := row_len _ _
    have hwv : ∀ k, k < xs.length → (hW (iz xs) (mL xs)).getD k 0 = (iz xs).getD k 0 - (mL xs).getD k 0 - (mL xs).getD (k + 1) 0 := fun k hk => by
      unfold hW
      rw [row_at (by rw [iz_len]; exact hk)]
    have pA : ∀ {ts tt : TT} {σ : L2.St} {H : Hp} {Q : Bool → Hp → Prop}, (ts σ H fun b H1 => if b = true then Q true H1 else tt σ H1 Q) → tOr ts tt σ H Q := fun h => h
    refine pA (r_test (r_op ?_))
    refine el_lcZ (H := H13) (xs := iV (lh xs (mL xs))) (ys := iV (hW (iz xs) (mL xs))) (fun H14 e14 Q14 q14 => ⟨_, rfl, _, rfl, q14 fe mo H14 (Ex.refl _) (e14 _ _ (k13.get hfe4)) (e14 _ _ (k13.get hmo4))⟩) (fun _ => false) (fun _ => .non) (by rw [iV_len, lh_len]; omega) ?_ H13 (Ex.refl _) _ ?_
    · intro i x y T2 H14 e14 hx hy hT
      obtain ⟨rfl, hi⟩ := iV_at hx
      obtain ⟨rfl, hi2⟩ := iV_at hy
      rw [lh_len] at hi
      refine ⟨[some (.ref a), some (.ref d), some (.int g), some (.ref c), some (.ref l), some (.int (xs.length : Int)), some (.ref mo), some (.ref fe), none, none, none, none, none, none, some (.int ((lh xs (mL xs)).getD i 0)), some (.int ((hW (iz xs) (mL xs)).getD i 0))], fun k hk => two_get hT hk, rfl, ?_, fun h => nomatch h⟩
      intro H15 e15 Q15 q15
      refine ⟨_, rfl, _, rfl, _, _, rfl, rfl, _, rfl, ?_⟩
      have f1 := (few_le C hi).2
      have f2 : (lh xs (mL xs)).getD i 0 = pos0 (lhv xs (mL xs) i) := row_at hi
      have e := decide_eq_false (p := (hW (iz xs) (mL xs)).getD i 0 < (lh xs (mL xs)).getD i 0) (by rw [hwv i hi, f2]; omega)
      rw [e]
      exact q15 H15 (Ex.refl _)
    intro p14 H14 np14 e14 hp14
    rw [given_none' _ fun _ _ => rfl] at hp14
    have k14 := k13.more e14
    refine ⟨Nat.zero_le _, fun l3 n3 => ⟨izD [], izD [], izD_dp (xs := []) (SqL.of ((Ex.new n3) _ _ hp14)), izD_dp (xs := []) (SqL.of upd_same), izD_shaped _, izD_shaped _, _, rfl, ?_⟩⟩
    rw [izD_eqv_nil]
    refine ite_no rfl ?_
    have k15 := k14.new (o := .lst []) n3
    generalize upd H14 l3 (.lst []) = H15 at k15 ⊢
    have bm : ∀ k, k < xs.length → (hW (iz xs) (mL xs)).getD k 0 + 1 ≤ 2 ^ 801 := fun k hk => by
      have h1 := (most_b C hk).2
      have h2 := C.small k hk
      have h3 := p800
      rw [hwv k hk]
      generalize (2 : Int) ^ 801 = A at *
      generalize (2 : Nat) ^ 800 = B at *
      omega
    refine ⟨_, rfl, _, rfl, c, mo, xs, _, true, rfl, C, hw_len, fun k hk => by have := bm k hk; omega, k15.get hc4, k15.get hmo4, ⟨fun _ => ⟨fun k hk => (C.fit.hW0 hk).1, C.fit.most⟩, fun _ => rfl⟩, k15.t, fun H16 e16 => ⟨true, true, rfl, rfl, _, rfl, ite_no rfl ?_⟩⟩
    have k16 := k15.moreK e16
    -- at, more
    dsimp only [tNext]
    refine ⟨_, rfl, _, rfl, G4, d, _, rfl, by omega, by omega, k16, fun r H17 r0 r1 k17 => ?_⟩
    obtain ⟨at_, rfl⟩ : ∃ at_ : Nat, r = (at_ : Int) := ⟨r.toNat, by omega⟩
    have hat : at_ < xs.length := by omega
    refine ⟨_, rfl, G4, d, _, rfl, by decide, by decide, k17, fun r2 H18 s0 s1 k18 => ⟨_, _, rfl, rfl, .inl ⟨by decide, by decide⟩, _, _, rfl, rfl, _, _, rfl, ?_⟩⟩
    obtain ⟨m, hm, hm1⟩ : ∃ m : Int, 1 - 2 * r2 = m ∧ (m = 1 ∨ m = -1) := ⟨_, rfl, by omega⟩
    show tSeq _ _ _ [some (V.ref a), some (V.ref d), some (V.int g), some (V.ref c), some (V.ref l), some (V.int (xs.length : Int)), some (V.ref mo), some (V.ref fe), some (V.int at_), some (V.int (1 - 2 * r2)), none, none, none, none, none, none] H18
    rw [hm]
    -- other
    have fin : ∀ (o : Addr) (H : Hp), DkT (topT T.P_greatest_top) G4 d H → H o = some (.tup (iV (oth (hW (iz xs) (mL xs)) at_ m))) → True := fun _ _ _ _ => trivial
    refine ⟨_, rfl, _, rfl, _, rfl, mo, _, rfl, SqT.of (k18.get hmo4), ?_, fun p1 n1 => ?_⟩
    · rintro ⟨_, z⟩
      have z2 : HT.sIx (iV (hW (iz xs) (mL xs))).length (iV (hW (iz xs) (mL xs))).length (some (at_ : Int)) = (iV (hW (iz xs) (mL xs))).length := z
      rw [HT.sIx_nat, iV_len, hw_len] at z2
      omega
    have k19 := k18.new (o := .tup (cutV (iV (hW (iz xs) (mL xs))) none (some (at_ : Int)))) n1
    have hp1 : (upd H18 p1 (.tup (cutV (iV (hW (iz xs) (mL xs))) none (some (at_ : Int))))) p1 = some (.tup (iV ((hW (iz xs) (mL xs)).take at_))) := by rw [upd_same, cut_to _ _ (by omega)]
    generalize upd H18 p1 (.tup (cutV (iV (hW (iz xs) (mL xs))) none (some (at_ : Int)))) = H19 at k19 hp1 ⊢
    refine ⟨_, rfl, _, rfl, mo, _, _, _, rfl, rfl, SqT.of (k19.get hmo4), atI_nat (iV_ix (by omega)), _, rfl, _, _, rfl, rfl, by show 1 ≤ sizeLine; decide, fun p2 n2 => ?_⟩
    have hp12 := (Ex.new (o := .tup [.int ((hW (iz xs) (mL xs)).getD at_ 0 + m)]) n2) _ _ hp1
    have k20 := k19.new (o := .tup [.int ((hW (iz xs) (mL xs)).getD at_ 0 + m)]) n2
    refine catA_tup hp12 upd_same (by rw [iV_len, List.length_take]; exact sz_of (by show _ + 1 ≤ 100000; omega)) fun p3 H21 e21 hp3 => ?_
    have k21 := k20.more e21
    refine ⟨_, rfl, _, rfl, _, _, rfl, rfl, _, rfl, mo, _, rfl, SqT.of (k21.get hmo4), ?_, fun p4 n4 => ?_⟩
    · rintro ⟨z, _⟩
      have z2 : HT.sIx (iV (hW (iz xs) (mL xs))).length 0 (some ((at_ : Int) + 1)) = 0 := z
      rw [show (at_ : Int) + 1 = ((at_ + 1 : Nat) : Int) by omega, HT.sIx_nat, iV_len, hw_len] at z2
      omega
    have k22 := k21.new (o := .tup (cutV (iV (hW (iz xs) (mL xs))) (some ((at_ : Int) + 1)) none)) n4
    have hp4 : (upd H21 p4 (.tup (cutV (iV (hW (iz xs) (mL xs))) (some ((at_ : Int) + 1)) none))) p4 = some (.tup (iV ((hW (iz xs) (mL xs)).drop (at_ + 1)))) := by
      rw [upd_same, show (at_ : Int) + 1 = ((at_ + 1 : Nat) : Int) by omega, cut_from]
    have hp34 := (Ex.new (o := .tup (cutV (iV (hW (iz xs) (mL xs))) (some ((at_ : Int) + 1)) none)) n4) _ _ hp3
    refine catA_tup hp34 hp4 (by rw [List.length_append, iV_len, iV_len, List.length_take, List.length_drop]; exact sz_of (by show _ + 1 + _ ≤ 100000; omega)) fun ot H23 e23 hot => ?_
    have k23 := k22.more e23
    have eo : iV ((hW (iz xs) (mL xs)).take at_) ++ [V.int ((hW (iz xs) (mL xs)).getD at_ 0 + m)] ++ iV ((hW (iz xs) (mL xs)).drop (at_ + 1)) = iV (oth (hW (iz xs) (mL xs)) at_ m) := by
      unfold oth
      rw [← iV_app, ← iV_app]
      rfl
    rw [eo] at hot
    have ol := oth_len (is := hW (iz xs) (mL xs)) (a := at_) (m := m) (by omega)
    refine ⟨_, rfl, _, rfl, c, ot, xs, _, false, rfl, C, by rw [ol, hw_len], fun k hk => ?_, k23.get hc4, hot, ⟨fun h => (nomatch h), fun h => ?_⟩, k23.t, fun H24 e24 => ⟨false, false, rfl, rfl, _, rfl, ite_no rfl ?_⟩⟩
    · have := bm k hk
      by_cases z : k = at_
      · subst z
        rw [oth_at (by omega)]
        omega
      · rw [oth_ne (by omega) z]
        omega
    · exfalso
      have g1 := h.2.2.1
      have g2 : (rI (iz xs) (hW (iz xs) (mL xs))).getD 0 0 = 1 := by rw [rI_most]; exact hm0
      have g3 := rI_shift (cs := iz xs) (hs := hW (iz xs) (mL xs)) (hs' := oth (hW (iz xs) (mL xs)) at_ m) (at_ := at_) (more := m) (by rw [iz_len, hw_len]) (by rw [ol, iz_len, hw_len]) (by rw [iz_len]; exact hat) hm1 (oth_at (by omega)) fun k hk => oth_ne (by omega) hk
      rw [g1, g2] at g3
      exact g3 rfl
    have k24 := k23.moreK e24
    -- row
    dsimp only [tNext]
    refine ⟨_, rfl, _, rfl, by omega, by omega, fun D nD => ?_⟩
    refine lc_range (lo := 0) (n := ((xs.length : Int)).toNat) (fun i H' => ∃ acc : List Int, acc.length = i ∧ (∀ j, j < i → 0 ≤ acc.getD j 0) ∧ DkT (topT T.P_greatest_top) (upd G4 D (.lst (iV acc))) d H') ⟨[], rfl, fun j hj => absurd hj (Nat.not_lt_zero _), k24.made nD⟩ ?_ ?_
    · rintro i H' hi ⟨acc, ha, hb, kk⟩
      refine ⟨rfl, ?_⟩
      show tYes _ _ _
      refine r_yes ?_
      rw [if_pos rfl]
      refine ⟨_, rfl, _, d, _, rfl, by decide, by decide, kk, fun v H2 v0 v1 k2 => ⟨_, k2.get upd_same, by rw [iV_len]; exact sz_lt (by omega), acc ++ [v], by rw [List.length_append, ha]; rfl, fun j hj => ?_, ?_⟩⟩
      · by_cases z : j < i
        · rw [List.getD_eq_getElem?_getD, List.getElem?_append_left (by omega), ← List.getD_eq_getElem?_getD]
          exact hb j z
        · have : j = acc.length := by omega
          subst this
          rw [List.getD_eq_getElem?_getD, List.getElem?_append_right (Nat.le_refl _), Nat.sub_self]
          exact v0
      · have := setT (f := D) (ys := iV (acc ++ [v])) k2 upd_same
        rw [upd_upd] at this
        have e : iV acc ++ [V.int v] = iV (acc ++ [v]) := by unfold iV; rw [List.map_append]; rfl
        rw [e]
        exact this
    rintro H25 ⟨rw_, hrl, hr0, k25⟩
    have hrl' : rw_.length = xs.length := hrl
    have hDc : D ≠ c := by
      intro z
      subst z
      rw [k24.get hc4] at nD
      cases nD
    have hDmo : D ≠ mo := by
      intro z
      subst z
      rw [k24.get hmo4] at nD
      cases nD
    have hc5 : (upd G4 D (.lst (iV rw_))) c = some (.tup (tz xs)) := by rw [upd_ne hDc.symm]; exact hc4
    have hmo5 : (upd G4 D (.lst (iV rw_))) mo = some (.tup (iV (hW (iz xs) (mL xs)))) := by rw [upd_ne hDmo.symm]; exact hmo4
    have hD5 : (upd G4 D (.lst (iV rw_))) D = some (.lst (iV rw_)) := upd_same
    generalize upd G4 D (.lst (iV rw_)) = G5 at k25 hc5 hmo5 hD5
    -- other
    dsimp only
    refine r_seq (r_set (r_cb (r_arg ?_)))
    have hmin : min (iV (hW (iz xs) (mL xs))).length (iV rw_).length = xs.length := by rw [iV_len, iV_len, hw_len, hrl', Nat.min_self]
    refine el_lcZM (H := H25) (k25.get hmo5) (k25.get hD5) (ea_cons (ev_var rfl) (ea_cons (ev_var rfl) ea_nil)) (fun _ => true) (fun k => .int (pos0 ((hW (iz xs) (mL xs)).getD k 0 - rw_.getD k 0))) (by omega) ?_ H25 (Ex.refl _) _ ?_
    · intro i x y T2 H26 e26 hx hy hT
      obtain ⟨rfl, hi⟩ := iV_at hx
      obtain ⟨rfl, hi2⟩ := iV_at hy
      refine ⟨[some (.ref a), some (.ref d), some (.int g), some (.ref c), some (.ref l), some (.int (xs.length : Int)), some (.ref mo), some (.ref fe), some (.int at_), some (.int m), some (.ref ot), some (.ref D), none, none, some (.int ((hW (iz xs) (mL xs)).getD i 0)), some (.int (rw_.getD i 0))], fun k hk => two_get hT hk, rfl, et_yes, fun _ => ?_⟩
      intro H27 e27 Q27 q27
      exact ⟨_, rfl, _, rfl, _, _, rfl, rfl, _, _, rfl, q27 H27 (Ex.refl _)⟩
    intro p26 H26 np26 e26 hp26
    rw [hmin, given_row] at hp26
    refine ⟨p26, _, rfl, .inl ⟨SqL.of hp26, fun o2 no2 => ?_⟩⟩
    have k26 := k25.more e26
    have k27 := k26.new (o := .tup (iV (row xs.length fun k => pos0 ((hW (iz xs) (mL xs)).getD k 0 - rw_.getD k 0)))) no2
    have ho2 : (upd H26 o2 (.tup (iV (row xs.length fun k => pos0 ((hW (iz xs) (mL xs)).getD k 0 - rw_.getD k 0))))) o2 = _ := upd_same
    have L : Hol xs (row xs.length fun k => pos0 ((hW (iz xs) (mL xs)).getD k 0 - rw_.getD k 0)) := by
      refine ⟨row_len _ _, fun k hk => ?_, fun k hk => ?_⟩
      · rw [row_at hk]
        unfold pos0
        split <;> omega
      · rw [row_at hk]
        have b1 := bm k hk
        have b2 := hr0 k (by show k < ((xs.length : Int)).toNat; omega)
        have b3 : (0 : Int) ≤ 2 ^ 801 := Int.le_of_lt (Int.pow_pos (by decide))
        unfold pos0
        split <;> omega
    generalize (row xs.length fun k => pos0 ((hW (iz xs) (mL xs)).getD k 0 - rw_.getD k 0)) = hs at k27 ho2 L ⊢
    generalize upd H26 o2 (.tup (iV hs)) = H27 at k27 ho2 ⊢
    obtain ⟨b, hb⟩ := bool_of (GoodR (iz xs) hs)
    refine ⟨_, rfl, _, rfl, c, o2, xs, hs, b, rfl, C, L, k27.get hc5, ho2, hb, fun H28 e28 => ?_⟩
    refine ⟨_, rfl, _, rfl, c, o2, xs, hs, b, rfl, C, L.len, L.high, e28 _ _ (k27.get hc5), e28 _ _ ho2, ?_, (k27.more e28).t, fun H29 e29 => ?_⟩
    · rw [hb]
      exact ⟨fun h => ⟨L.low, h⟩, fun h => h.2⟩
    refine ⟨b, rfl, _, rfl, b, rfl, rfl, ?_⟩
    exact q_bl (Q := Q) (decide_eq_true rfl) (q H29)
end
end K34

namespace K34
open PySem PySem.Spec PyProof.Rows L2 Hr HrM Evl RZ LamX PySem.W
theorem all_mk {l : PySem.W.OpenLaw} {pq : Program} {lo : List Str} {me : ExcName → Option Value} {w : World} {K : PySem.W.Frag} {h : Heap} {mg mb : Str → Option Value} {fa : Addr} (X : K.In h) (Tp : Top pq lo me mg mb h) (hfa : mg "law" = some (.ref fa))
    {f0 : Addr} {od0 an0 : Option Addr} {sl0 : Array (Option Value)} {oc0 kV0 dc0 pm0 cd0 ct0 : Value}
    {f1 : Addr} {od1 an1 : Option Addr} {sl1 : Array (Option Value)} {oc1 kV1 dc1 pm1 cd1 ct1 : Value}
    {f2 : Addr} {od2 an2 : Option Addr} {sl2 : Array (Option Value)} {oc2 kV2 dc2 pm2 cd2 ct2 : Value}
    {f3 : Addr} {od3 an3 : Option Addr} {sl3 : Array (Option Value)} {oc3 kV3 dc3 pm3 cd3 ct3 : Value}
    {f4 : Addr} {od4 an4 : Option Addr} {sl4 : Array (Option Value)} {oc4 kV4 dc4 pm4 cd4 ct4 : Value}
    {f5 : Addr} {od5 an5 : Option Addr} {sl5 : Array (Option Value)} {oc5 kV5 dc5 pm5 cd5 ct5 : Value}
    {f6 : Addr} {od6 an6 : Option Addr} {sl6 : Array (Option Value)} {oc6 kV6 dc6 pm6 cd6 ct6 : Value}
    {f7 : Addr} {od7 an7 : Option Addr} {sl7 : Array (Option Value)} {oc7 kV7 dc7 pm7 ct7 : Value}
    {lc0 P0 : Addr} {ob0 : Value} {oe0 : Option Addr} {vs0 : Array Value} {of0 : Array (Option Value)}
    {f8 : Addr} {od8 an8 : Option Addr} {sl8 : Array (Option Value)} {oc8 kV8 dc8 pm8 cd8 ct8 : Value}
    {f9 : Addr} {od9 an9 : Option Addr} {sl9 : Array (Option Value)} {oc9 kV9 dc9 pm9 cd9 ct9 : Value}
    {f10 : Addr} {od10 an10 : Option Addr} {sl10 : Array (Option Value)} {oc10 kV10 dc10 pm10 cd10 ct10 : Value}
    {f11 : Addr} {od11 an11 : Option Addr} {sl11 : Array (Option Value)} {oc11 kV11 dc11 pm11 cd11 ct11 : Value}
    {f12 : Addr} {od12 an12 : Option Addr} {sl12 : Array (Option Value)} {oc12 kV12 dc12 pm12 cd12 ct12 : Value}
    {f13 : Addr} {od13 an13 : Option Addr} {sl13 : Array (Option Value)} {oc13 kV13 dc13 pm13 cd13 ct13 : Value}
    {f14 : Addr} {od14 an14 : Option Addr} {sl14 : Array (Option Value)} {oc14 kV14 dc14 pm14 cd14 ct14 : Value}
    {f15 : Addr} {od15 an15 : Option Addr} {sl15 : Array (Option Value)} {oc15 kV15 dc15 pm15 cd15 ct15 : Value}
    {f16 : Addr} {od16 an16 : Option Addr} {sl16 : Array (Option Value)} {oc16 kV16 dc16 pm16 cd16 ct16 : Value}
    {f17 : Addr} {od17 an17 : Option Addr} {sl17 : Array (Option Value)} {oc17 kV17 dc17 pm17 cd17 ct17 : Value}
    {f18 : Addr} {od18 an18 : Option Addr} {sl18 : Array (Option Value)} {oc18 kV18 dc18 pm18 cd18 ct18 : Value}
    {f19 : Addr} {od19 an19 : Option Addr} {sl19 : Array (Option Value)} {oc19 kV19 dc19 pm19 cd19 ct19 : Value}
    {f20 : Addr} {od20 an20 : Option Addr} {sl20 : Array (Option Value)} {oc20 kV20 dc20 pm20 cd20 ct20 : Value}
    {f21 : Addr} {od21 an21 : Option Addr} {sl21 : Array (Option Value)} {oc21 kV21 dc21 pm21 cd21 ct21 : Value}
    {f22 : Addr} {od22 an22 : Option Addr} {sl22 : Array (Option Value)} {oc22 kV22 dc22 pm22 cd22 ct22 : Value}
    {f23 : Addr} {od23 an23 : Option Addr} {sl23 : Array (Option Value)} {oc23 kV23 dc23 pm23 cd23 ct23 : Value}
    {f24 : Addr} {od24 an24 : Option Addr} {sl24 : Array (Option Value)} {oc24 kV24 dc24 pm24 cd24 ct24 : Value}
    {f25 : Addr} {od25 an25 : Option Addr} {sl25 : Array (Option Value)} {oc25 kV25 dc25 pm25 cd25 ct25 : Value}
    {f26 : Addr} {od26 an26 : Option Addr} {sl26 : Array (Option Value)} {oc26 kV26 dc26 pm26 cd26 ct26 : Value}
    {f27 : Addr} {od27 an27 : Option Addr} {sl27 : Array (Option Value)} {oc27 kV27 dc27 pm27 cd27 ct27 : Value}
    {f28 : Addr} {od28 an28 : Option Addr} {sl28 : Array (Option Value)} {oc28 kV28 dc28 pm28 cd28 ct28 : Value}
    {f29 : Addr} {od29 an29 : Option Addr} {sl29 : Array (Option Value)} {oc29 kV29 dc29 pm29 cd29 ct29 : Value}
    {f30 : Addr} {od30 an30 : Option Addr} {sl30 : Array (Option Value)} {oc30 kV30 dc30 pm30 cd30 ct30 : Value}
    {f31 : Addr} {od31 an31 : Option Addr} {sl31 : Array (Option Value)} {oc31 kV31 dc31 pm31 cd31 ct31 : Value}
    {f32 : Addr} {od32 an32 : Option Addr} {sl32 : Array (Option Value)} {oc32 kV32 dc32 pm32 cd32 ct32 : Value}
    {f33 : Addr} {od33 an33 : Option Addr} {sl33 : Array (Option Value)} {oc33 kV33 dc33 pm33 cd33 ct33 : Value}
    {f34 : Addr} {od34 an34 : Option Addr} {sl34 : Array (Option Value)} {oc34 kV34 dc34 pm34 cd34 ct34 : Value}
    {f35 : Addr} {od35 an35 : Option Addr} {sl35 : Array (Option Value)} {oc35 kV35 dc35 pm35 cd35 ct35 : Value}
    {f36 : Addr} {od36 an36 : Option Addr} {sl36 : Array (Option Value)} {oc36 kV36 dc36 pm36 cd36 ct36 : Value}
    {f37 : Addr} {od37 an37 : Option Addr} {sl37 : Array (Option Value)} {oc37 kV37 dc37 pm37 cd37 ct37 : Value}
    {f38 : Addr} {od38 an38 : Option Addr} {sl38 : Array (Option Value)} {oc38 kV38 dc38 pm38 cd38 ct38 : Value}
    {f39 : Addr} {od39 an39 : Option Addr} {sl39 : Array (Option Value)} {oc39 kV39 dc39 pm39 cd39 ct39 : Value}
    {f40 : Addr} {od40 an40 : Option Addr} {sl40 : Array (Option Value)} {oc40 kV40 dc40 pm40 cd40 ct40 : Value}
    {f41 : Addr} {od41 an41 : Option Addr} {sl41 : Array (Option Value)} {oc41 kV41 dc41 pm41 cd41 ct41 : Value}
    {f42 : Addr} {od42 an42 : Option Addr} {sl42 : Array (Option Value)} {oc42 kV42 dc42 pm42 cd42 ct42 : Value}
    {f43 : Addr} {od43 an43 : Option Addr} {sl43 : Array (Option Value)} {oc43 kV43 dc43 pm43 cd43 ct43 : Value}
    {tk0 : Tok}
    (a0 : PySem.W.nsIn K mainGlobals "is_integer" = some (some (.ref f0)))
    (l0 : K.lookup f0 = some ⟨oc0, od0, .func (PySem.W.fnOf "is_integer" "is_integer" (defArgs s_is_integer) (defBody s_is_integer) (defScope s_is_integer) .none kV0 dc0 pm0 an0 (cd0) ct0), sl0⟩)
    (c0 : PySem.W.codeIn K (cd0) "is_integer" = true)
    (k0 : PySem.W.keepIn K (.ref f0) = true)
    (a1 : PySem.W.nsIn K mainGlobals "is_integer_from" = some (some (.ref f1)))
    (l1 : K.lookup f1 = some ⟨oc1, od1, .func (PySem.W.fnOf "is_integer_from" "is_integer_from" (defArgs s_is_integer_from) (defBody s_is_integer_from) (defScope s_is_integer_from) .none kV1 dc1 pm1 an1 (cd1) ct1), sl1⟩)
    (c1 : PySem.W.codeIn K (cd1) "is_integer_from" = true)
    (k1 : PySem.W.keepIn K (.ref f1) = true)
    (a2 : PySem.W.nsIn K mainGlobals "are_integers_from" = some (some (.ref f2)))
    (l2 : K.lookup f2 = some ⟨oc2, od2, .func (PySem.W.fnOf "are_integers_from" "are_integers_from" (defArgs s_are_integers_from) (defBody s_are_integers_from) (defScope s_are_integers_from) .none kV2 dc2 pm2 an2 (cd2) ct2), sl2⟩)
    (c2 : PySem.W.codeIn K (cd2) "are_integers_from" = true)
    (k2 : PySem.W.keepIn K (.ref f2) = true)
    (a3 : PySem.W.nsIn K mainGlobals "cascade_of" = some (some (.ref f3)))
    (l3 : K.lookup f3 = some ⟨oc3, od3, .func (PySem.W.fnOf "cascade_of" "cascade_of" (defArgs s_cascade_of) (defBody s_cascade_of) (defScope s_cascade_of) .none kV3 dc3 pm3 an3 (cd3) ct3), sl3⟩)
    (c3 : PySem.W.codeIn K (cd3) "cascade_of" = true)
    (k3 : PySem.W.keepIn K (.ref f3) = true)
    (a4 : PySem.W.nsIn K mainGlobals "lower_sets" = some (some (.ref f4)))
    (l4 : K.lookup f4 = some ⟨oc4, od4, .func (PySem.W.fnOf "lower_sets" "lower_sets" (defArgs s_lower_sets) (defBody s_lower_sets) (defScope s_lower_sets) .none kV4 dc4 pm4 an4 (cd4) ct4), sl4⟩)
    (c4 : PySem.W.codeIn K (cd4) "lower_sets" = true)
    (k4 : PySem.W.keepIn K (.ref f4) = true)
    (a5 : PySem.W.nsIn K mainGlobals "check_number" = some (some (.ref f5)))
    (l5 : K.lookup f5 = some ⟨oc5, od5, .func (PySem.W.fnOf "check_number" "check_number" (defArgs s_check_number) (defBody s_check_number) (defScope s_check_number) .none kV5 dc5 pm5 an5 (cd5) ct5), sl5⟩)
    (c5 : PySem.W.codeIn K (cd5) "check_number" = true)
    (k5 : PySem.W.keepIn K (.ref f5) = true)
    (a6 : PySem.W.nsIn K mainGlobals "check_size" = some (some (.ref f6)))
    (l6 : K.lookup f6 = some ⟨oc6, od6, .func (PySem.W.fnOf "check_size" "check_size" (defArgs s_check_size) (defBody s_check_size) (defScope s_check_size) .none kV6 dc6 pm6 an6 (cd6) ct6), sl6⟩)
    (c6 : PySem.W.codeIn K (cd6) "check_size" = true)
    (k6 : PySem.W.keepIn K (.ref f6) = true)
    (a7 : PySem.W.nsIn K mainGlobals "greatest_top" = some (some (.ref f7)))
    (l7 : K.lookup f7 = some ⟨oc7, od7, .func (PySem.W.fnOf "greatest_top" "greatest_top" (defArgs s_greatest_top) (defBody s_greatest_top) (defScope s_greatest_top) .none kV7 dc7 pm7 an7 (.ref lc0) ct7), sl7⟩)
    (c7 : PySem.W.codeIn K (.ref lc0) "greatest_top" = true)
    (k7 : PySem.W.keepIn K (.ref f7) = true)
    (lk0 : K.lookup lc0 = some ⟨ob0, oe0, .fields vs0, of0⟩)
    (hv0 : vs0[11]? = some (.ref P0))
    (np0 : K.lookup P0 = none)
    (ch0 : PySem.W.codeHdIn K lc0 P0 = true)
    (ht0 : h.get? P0 = some (PySem.W.tabObj #[]))
    (a8 : PySem.W.nsIn K mainGlobals "greatest_within" = some (some (.ref f8)))
    (l8 : K.lookup f8 = some ⟨oc8, od8, .func (PySem.W.fnOf "greatest_within" "greatest_within" (defArgs s_greatest_within) (defBody s_greatest_within) (defScope s_greatest_within) .none kV8 dc8 pm8 an8 (cd8) ct8), sl8⟩)
    (c8 : PySem.W.codeIn K (cd8) "greatest_within" = true)
    (k8 : PySem.W.keepIn K (.ref f8) = true)
    (a9 : PySem.W.nsIn K mainGlobals "moved_sum" = some (some (.ref f9)))
    (l9 : K.lookup f9 = some ⟨oc9, od9, .func (PySem.W.fnOf "moved_sum" "moved_sum" (defArgs s_moved_sum) (defBody s_moved_sum) (defScope s_moved_sum) .none kV9 dc9 pm9 an9 (cd9) ct9), sl9⟩)
    (c9 : PySem.W.codeIn K (cd9) "moved_sum" = true)
    (k9 : PySem.W.keepIn K (.ref f9) = true)
    (a10 : PySem.W.nsIn K mainGlobals "is_counts" = some (some (.ref f10)))
    (l10 : K.lookup f10 = some ⟨oc10, od10, .func (PySem.W.fnOf "is_counts" "is_counts" (defArgs s_is_counts) (defBody s_is_counts) (defScope s_is_counts) .none kV10 dc10 pm10 an10 (cd10) ct10), sl10⟩)
    (c10 : PySem.W.codeIn K (cd10) "is_counts" = true)
    (k10 : PySem.W.keepIn K (.ref f10) = true)
    (a11 : PySem.W.nsIn K mainGlobals "judge_counts" = some (some (.ref f11)))
    (l11 : K.lookup f11 = some ⟨oc11, od11, .func (PySem.W.fnOf "judge_counts" "judge_counts" (defArgs s_judge_counts) (defBody s_judge_counts) (defScope s_judge_counts) .none kV11 dc11 pm11 an11 (cd11) ct11), sl11⟩)
    (c11 : PySem.W.codeIn K (cd11) "judge_counts" = true)
    (k11 : PySem.W.keepIn K (.ref f11) = true)
    (a12 : PySem.W.nsIn K mainGlobals "check_counts" = some (some (.ref f12)))
    (l12 : K.lookup f12 = some ⟨oc12, od12, .func (PySem.W.fnOf "check_counts" "check_counts" (defArgs s_check_counts) (defBody s_check_counts) (defScope s_check_counts) .none kV12 dc12 pm12 an12 (cd12) ct12), sl12⟩)
    (c12 : PySem.W.codeIn K (cd12) "check_counts" = true)
    (k12 : PySem.W.keepIn K (.ref f12) = true)
    (a13 : PySem.W.nsIn K mainGlobals "check_some_counts" = some (some (.ref f13)))
    (l13 : K.lookup f13 = some ⟨oc13, od13, .func (PySem.W.fnOf "check_some_counts" "check_some_counts" (defArgs s_check_some_counts) (defBody s_check_some_counts) (defScope s_check_some_counts) .none kV13 dc13 pm13 an13 (cd13) ct13), sl13⟩)
    (c13 : PySem.W.codeIn K (cd13) "check_some_counts" = true)
    (k13 : PySem.W.keepIn K (.ref f13) = true)
    (a14 : PySem.W.nsIn K mainGlobals "check_fit" = some (some (.ref f14)))
    (l14 : K.lookup f14 = some ⟨oc14, od14, .func (PySem.W.fnOf "check_fit" "check_fit" (defArgs s_check_fit) (defBody s_check_fit) (defScope s_check_fit) .none kV14 dc14 pm14 an14 (cd14) ct14), sl14⟩)
    (c14 : PySem.W.codeIn K (cd14) "check_fit" = true)
    (k14 : PySem.W.keepIn K (.ref f14) = true)
    (a15 : PySem.W.nsIn K mainGlobals "counts_certificates" = some (some (.ref f15)))
    (l15 : K.lookup f15 = some ⟨oc15, od15, .func (PySem.W.fnOf "counts_certificates" "counts_certificates" (defArgs s_counts_certificates) (defBody s_counts_certificates) (defScope s_counts_certificates) .none kV15 dc15 pm15 an15 (cd15) ct15), sl15⟩)
    (c15 : PySem.W.codeIn K (cd15) "counts_certificates" = true)
    (k15 : PySem.W.keepIn K (.ref f15) = true)
    (a16 : PySem.W.nsIn K mainGlobals "rests_of" = some (some (.ref f16)))
    (l16 : K.lookup f16 = some ⟨oc16, od16, .func (PySem.W.fnOf "rests_of" "rests_of" (defArgs s_rests_of) (defBody s_rests_of) (defScope s_rests_of) .none kV16 dc16 pm16 an16 (cd16) ct16), sl16⟩)
    (c16 : PySem.W.codeIn K (cd16) "rests_of" = true)
    (k16 : PySem.W.keepIn K (.ref f16) = true)
    (a17 : PySem.W.nsIn K mainGlobals "judge_rows" = some (some (.ref f17)))
    (l17 : K.lookup f17 = some ⟨oc17, od17, .func (PySem.W.fnOf "judge_rows" "judge_rows" (defArgs s_judge_rows) (defBody s_judge_rows) (defScope s_judge_rows) .none kV17 dc17 pm17 an17 (cd17) ct17), sl17⟩)
    (c17 : PySem.W.codeIn K (cd17) "judge_rows" = true)
    (k17 : PySem.W.keepIn K (.ref f17) = true)
    (a18 : PySem.W.nsIn K mainGlobals "is_holes_for" = some (some (.ref f18)))
    (l18 : K.lookup f18 = some ⟨oc18, od18, .func (PySem.W.fnOf "is_holes_for" "is_holes_for" (defArgs s_is_holes_for) (defBody s_is_holes_for) (defScope s_is_holes_for) .none kV18 dc18 pm18 an18 (cd18) ct18), sl18⟩)
    (c18 : PySem.W.codeIn K (cd18) "is_holes_for" = true)
    (k18 : PySem.W.keepIn K (.ref f18) = true)
    (a19 : PySem.W.nsIn K mainGlobals "rows_certificates" = some (some (.ref f19)))
    (l19 : K.lookup f19 = some ⟨oc19, od19, .func (PySem.W.fnOf "rows_certificates" "rows_certificates" (defArgs s_rows_certificates) (defBody s_rows_certificates) (defScope s_rows_certificates) .none kV19 dc19 pm19 an19 (cd19) ct19), sl19⟩)
    (c19 : PySem.W.codeIn K (cd19) "rows_certificates" = true)
    (k19 : PySem.W.keepIn K (.ref f19) = true)
    (a20 : PySem.W.nsIn K mainGlobals "is_overfull" = some (some (.ref f20)))
    (l20 : K.lookup f20 = some ⟨oc20, od20, .func (PySem.W.fnOf "is_overfull" "is_overfull" (defArgs s_is_overfull) (defBody s_is_overfull) (defScope s_is_overfull) .none kV20 dc20 pm20 an20 (cd20) ct20), sl20⟩)
    (c20 : PySem.W.codeIn K (cd20) "is_overfull" = true)
    (k20 : PySem.W.keepIn K (.ref f20) = true)
    (a21 : PySem.W.nsIn K mainGlobals "least_rests" = some (some (.ref f21)))
    (l21 : K.lookup f21 = some ⟨oc21, od21, .func (PySem.W.fnOf "least_rests" "least_rests" (defArgs s_least_rests) (defBody s_least_rests) (defScope s_least_rests) .none kV21 dc21 pm21 an21 (cd21) ct21), sl21⟩)
    (c21 : PySem.W.codeIn K (cd21) "least_rests" = true)
    (k21 : PySem.W.keepIn K (.ref f21) = true)
    (a22 : PySem.W.nsIn K mainGlobals "most_holes" = some (some (.ref f22)))
    (l22 : K.lookup f22 = some ⟨oc22, od22, .func (PySem.W.fnOf "most_holes" "most_holes" (defArgs s_most_holes) (defBody s_most_holes) (defScope s_most_holes) .none kV22 dc22 pm22 an22 (cd22) ct22), sl22⟩)
    (c22 : PySem.W.codeIn K (cd22) "most_holes" = true)
    (k22 : PySem.W.keepIn K (.ref f22) = true)
    (a23 : PySem.W.nsIn K mainGlobals "least_holes" = some (some (.ref f23)))
    (l23 : K.lookup f23 = some ⟨oc23, od23, .func (PySem.W.fnOf "least_holes" "least_holes" (defArgs s_least_holes) (defBody s_least_holes) (defScope s_least_holes) .none kV23 dc23 pm23 an23 (cd23) ct23), sl23⟩)
    (c23 : PySem.W.codeIn K (cd23) "least_holes" = true)
    (k23 : PySem.W.keepIn K (.ref f23) = true)
    (a24 : PySem.W.nsIn K mainGlobals "has_hole_row" = some (some (.ref f24)))
    (l24 : K.lookup f24 = some ⟨oc24, od24, .func (PySem.W.fnOf "has_hole_row" "has_hole_row" (defArgs s_has_hole_row) (defBody s_has_hole_row) (defScope s_has_hole_row) .none kV24 dc24 pm24 an24 (cd24) ct24), sl24⟩)
    (c24 : PySem.W.codeIn K (cd24) "has_hole_row" = true)
    (k24 : PySem.W.keepIn K (.ref f24) = true)
    (a25 : PySem.W.nsIn K mainGlobals "holes_with" = some (some (.ref f25)))
    (l25 : K.lookup f25 = some ⟨oc25, od25, .func (PySem.W.fnOf "holes_with" "holes_with" (defArgs s_holes_with) (defBody s_holes_with) (defScope s_holes_with) .none kV25 dc25 pm25 an25 (cd25) ct25), sl25⟩)
    (c25 : PySem.W.codeIn K (cd25) "holes_with" = true)
    (k25 : PySem.W.keepIn K (.ref f25) = true)
    (a26 : PySem.W.nsIn K mainGlobals "greatest_rests" = some (some (.ref f26)))
    (l26 : K.lookup f26 = some ⟨oc26, od26, .func (PySem.W.fnOf "greatest_rests" "greatest_rests" (defArgs s_greatest_rests) (defBody s_greatest_rests) (defScope s_greatest_rests) .none kV26 dc26 pm26 an26 (cd26) ct26), sl26⟩)
    (c26 : PySem.W.codeIn K (cd26) "greatest_rests" = true)
    (k26 : PySem.W.keepIn K (.ref f26) = true)
    (a27 : PySem.W.nsIn K mainGlobals "least_rest" = some (some (.ref f27)))
    (l27 : K.lookup f27 = some ⟨oc27, od27, .func (PySem.W.fnOf "least_rest" "least_rest" (defArgs s_least_rest) (defBody s_least_rest) (defScope s_least_rest) .none kV27 dc27 pm27 an27 (cd27) ct27), sl27⟩)
    (c27 : PySem.W.codeIn K (cd27) "least_rest" = true)
    (k27 : PySem.W.keepIn K (.ref f27) = true)
    (a28 : PySem.W.nsIn K mainGlobals "_law_deck" = some (some (.ref f28)))
    (l28 : K.lookup f28 = some ⟨oc28, od28, .func (PySem.W.fnOf "_law_deck" "_law_deck" (defArgs s_l_deck) (defBody s_l_deck) (defScope s_l_deck) .none kV28 dc28 pm28 an28 (cd28) ct28), sl28⟩)
    (c28 : PySem.W.codeIn K (cd28) "_law_deck" = true)
    (k28 : PySem.W.keepIn K (.ref f28) = true)
    (a29 : PySem.W.nsIn K mainGlobals "_law_draw" = some (some (.ref f29)))
    (l29 : K.lookup f29 = some ⟨oc29, od29, .func (PySem.W.fnOf "_law_draw" "_law_draw" (defArgs s_l_draw) (defBody s_l_draw) (defScope s_l_draw) .none kV29 dc29 pm29 an29 (cd29) ct29), sl29⟩)
    (c29 : PySem.W.codeIn K (cd29) "_law_draw" = true)
    (k29 : PySem.W.keepIn K (.ref f29) = true)
    (a30 : PySem.W.nsIn K mainGlobals "_law_pick" = some (some (.ref f30)))
    (l30 : K.lookup f30 = some ⟨oc30, od30, .func (PySem.W.fnOf "_law_pick" "_law_pick" (defArgs s_l_pick) (defBody s_l_pick) (defScope s_l_pick) .none kV30 dc30 pm30 an30 (cd30) ct30), sl30⟩)
    (c30 : PySem.W.codeIn K (cd30) "_law_pick" = true)
    (k30 : PySem.W.keepIn K (.ref f30) = true)
    (a31 : PySem.W.nsIn K mainGlobals "_law_is_integer" = some (some (.ref f31)))
    (l31 : K.lookup f31 = some ⟨oc31, od31, .func (PySem.W.fnOf "_law_is_integer" "_law_is_integer" (defArgs s_l_is_integer) (defBody s_l_is_integer) (defScope s_l_is_integer) .none kV31 dc31 pm31 an31 (cd31) ct31), sl31⟩)
    (c31 : PySem.W.codeIn K (cd31) "_law_is_integer" = true)
    (k31 : PySem.W.keepIn K (.ref f31) = true)
    (a32 : PySem.W.nsIn K mainGlobals "_law_are_integers" = some (some (.ref f32)))
    (l32 : K.lookup f32 = some ⟨oc32, od32, .func (PySem.W.fnOf "_law_are_integers" "_law_are_integers" (defArgs s_l_are_integers) (defBody s_l_are_integers) (defScope s_l_are_integers) .none kV32 dc32 pm32 an32 (cd32) ct32), sl32⟩)
    (c32 : PySem.W.codeIn K (cd32) "_law_are_integers" = true)
    (k32 : PySem.W.keepIn K (.ref f32) = true)
    (a33 : PySem.W.nsIn K mainGlobals "_law_choose" = some (some (.ref f33)))
    (l33 : K.lookup f33 = some ⟨oc33, od33, .func (PySem.W.fnOf "_law_choose" "_law_choose" (defArgs s_l_choose) (defBody s_l_choose) (defScope s_l_choose) .none kV33 dc33 pm33 an33 (cd33) ct33), sl33⟩)
    (c33 : PySem.W.codeIn K (cd33) "_law_choose" = true)
    (k33 : PySem.W.keepIn K (.ref f33) = true)
    (a34 : PySem.W.nsIn K mainGlobals "_law_top" = some (some (.ref f34)))
    (l34 : K.lookup f34 = some ⟨oc34, od34, .func (PySem.W.fnOf "_law_top" "_law_top" (defArgs s_l_top) (defBody s_l_top) (defScope s_l_top) .none kV34 dc34 pm34 an34 (cd34) ct34), sl34⟩)
    (c34 : PySem.W.codeIn K (cd34) "_law_top" = true)
    (k34 : PySem.W.keepIn K (.ref f34) = true)
    (a35 : PySem.W.nsIn K mainGlobals "_law_cascade" = some (some (.ref f35)))
    (l35 : K.lookup f35 = some ⟨oc35, od35, .func (PySem.W.fnOf "_law_cascade" "_law_cascade" (defArgs s_l_cascade) (defBody s_l_cascade) (defScope s_l_cascade) .none kV35 dc35 pm35 an35 (cd35) ct35), sl35⟩)
    (c35 : PySem.W.codeIn K (cd35) "_law_cascade" = true)
    (k35 : PySem.W.keepIn K (.ref f35) = true)
    (a36 : PySem.W.nsIn K mainGlobals "_law_lower_sets" = some (some (.ref f36)))
    (l36 : K.lookup f36 = some ⟨oc36, od36, .func (PySem.W.fnOf "_law_lower_sets" "_law_lower_sets" (defArgs s_l_lower_sets) (defBody s_l_lower_sets) (defScope s_l_lower_sets) .none kV36 dc36 pm36 an36 (cd36) ct36), sl36⟩)
    (c36 : PySem.W.codeIn K (cd36) "_law_lower_sets" = true)
    (k36 : PySem.W.keepIn K (.ref f36) = true)
    (a37 : PySem.W.nsIn K mainGlobals "_law_rests" = some (some (.ref f37)))
    (l37 : K.lookup f37 = some ⟨oc37, od37, .func (PySem.W.fnOf "_law_rests" "_law_rests" (defArgs s_l_rests) (defBody s_l_rests) (defScope s_l_rests) .none kV37 dc37 pm37 an37 (cd37) ct37), sl37⟩)
    (c37 : PySem.W.codeIn K (cd37) "_law_rests" = true)
    (k37 : PySem.W.keepIn K (.ref f37) = true)
    (a38 : PySem.W.nsIn K mainGlobals "_law_does_fit" = some (some (.ref f38)))
    (l38 : K.lookup f38 = some ⟨oc38, od38, .func (PySem.W.fnOf "_law_does_fit" "_law_does_fit" (defArgs s_l_does_fit) (defBody s_l_does_fit) (defScope s_l_does_fit) .none kV38 dc38 pm38 an38 (cd38) ct38), sl38⟩)
    (c38 : PySem.W.codeIn K (cd38) "_law_does_fit" = true)
    (k38 : PySem.W.keepIn K (.ref f38) = true)
    (a39 : PySem.W.nsIn K mainGlobals "_law_below" = some (some (.ref f39)))
    (l39 : K.lookup f39 = some ⟨oc39, od39, .func (PySem.W.fnOf "_law_below" "_law_below" (defArgs s_l_below) (defBody s_l_below) (defScope s_l_below) .none kV39 dc39 pm39 an39 (cd39) ct39), sl39⟩)
    (c39 : PySem.W.codeIn K (cd39) "_law_below" = true)
    (k39 : PySem.W.keepIn K (.ref f39) = true)
    (a40 : PySem.W.nsIn K mainGlobals "_law_some_counts" = some (some (.ref f40)))
    (l40 : K.lookup f40 = some ⟨oc40, od40, .func (PySem.W.fnOf "_law_some_counts" "_law_some_counts" (defArgs s_l_some_counts) (defBody s_l_some_counts) (defScope s_l_some_counts) .none kV40 dc40 pm40 an40 (cd40) ct40), sl40⟩)
    (c40 : PySem.W.codeIn K (cd40) "_law_some_counts" = true)
    (k40 : PySem.W.keepIn K (.ref f40) = true)
    (a41 : PySem.W.nsIn K mainGlobals "_law_least_holes" = some (some (.ref f41)))
    (l41 : K.lookup f41 = some ⟨oc41, od41, .func (PySem.W.fnOf "_law_least_holes" "_law_least_holes" (defArgs s_l_least_holes) (defBody s_l_least_holes) (defScope s_l_least_holes) .none kV41 dc41 pm41 an41 (cd41) ct41), sl41⟩)
    (c41 : PySem.W.codeIn K (cd41) "_law_least_holes" = true)
    (k41 : PySem.W.keepIn K (.ref f41) = true)
    (a42 : PySem.W.nsIn K mainGlobals "_law_is_least" = some (some (.ref f42)))
    (l42 : K.lookup f42 = some ⟨oc42, od42, .func (PySem.W.fnOf "_law_is_least" "_law_is_least" (defArgs s_l_is_least) (defBody s_l_is_least) (defScope s_l_is_least) .none kV42 dc42 pm42 an42 (cd42) ct42), sl42⟩)
    (c42 : PySem.W.codeIn K (cd42) "_law_is_least" = true)
    (k42 : PySem.W.keepIn K (.ref f42) = true)
    (a43 : PySem.W.nsIn K mainGlobals "law" = some (some (.ref f43)))
    (l43 : K.lookup f43 = some ⟨oc43, od43, .func (PySem.W.fnOf "law" "law" (defArgs s_law) (defBody s_law) (defScope s_law) .none kV43 dc43 pm43 an43 (cd43) ct43), sl43⟩)
    (c43 : PySem.W.codeIn K (cd43) "law" = true)
    (k43 : PySem.W.keepIn K (.ref f43) = true)
    (y0 : PySem.W.nsIn K mainGlobals "MOST_COUNTS" = some (some (.int 16 tk0)))
    (z0 : PySem.W.nsIn K mainGlobals "all" = some none)
    (z1 : PySem.W.nsIn K mainGlobals "bool" = some none)
    (z2 : PySem.W.nsIn K mainGlobals "enumerate" = some none)
    (z3 : PySem.W.nsIn K mainGlobals "int" = some none)
    (z4 : PySem.W.nsIn K mainGlobals "isinstance" = some none)
    (z5 : PySem.W.nsIn K mainGlobals "len" = some none)
    (z6 : PySem.W.nsIn K mainGlobals "max" = some none)
    (z7 : PySem.W.nsIn K mainGlobals "min" = some none)
    (z8 : PySem.W.nsIn K mainGlobals "range" = some none)
    (z9 : PySem.W.nsIn K mainGlobals "repr" = some none)
    (z10 : PySem.W.nsIn K mainGlobals "reversed" = some none)
    (z11 : PySem.W.nsIn K mainGlobals "sum" = some none)
    (z12 : PySem.W.nsIn K mainGlobals "tuple" = some none)
    (z13 : PySem.W.nsIn K mainGlobals "zip" = some none)
    (zc : PySem.W.nsIn K mainGlobals "comb" = some (some (.builtin "math.comb"))) :
    Hr.LawT l w K 11 63 "script" mg fa h := by
  have G := Tp.g
  have e := hfa.symm.trans (PySem.W.mg_of X G a43)
  cases e
  have F0 := fun_mk (st := s_is_integer) l0 c0 k0
  have b0 := F0.binds (ps := ["thing"]) fun _ _ _ _ _ _ us hl => match us, hl with | [_], _ => rfl
  have F1 := fun_mk (st := s_is_integer_from) l1 c1 k1
  have b1 := F1.binds (ps := ["thing", "least"]) fun _ _ _ _ _ _ us hl => match us, hl with | [_, _], _ => rfl
  have F2 := fun_mk (st := s_are_integers_from) l2 c2 k2
  have b2 := F2.binds (ps := ["thing", "least"]) fun _ _ _ _ _ _ us hl => match us, hl with | [_, _], _ => rfl
  have F3 := fun_mk (st := s_cascade_of) l3 c3 k3
  have b3 := F3.binds (ps := ["number", "size"]) fun _ _ _ _ _ _ us hl => match us, hl with | [_, _], _ => rfl
  have F4 := fun_mk (st := s_lower_sets) l4 c4 k4
  have b4 := F4.binds (ps := ["number", "size"]) fun _ _ _ _ _ _ us hl => match us, hl with | [_, _], _ => rfl
  have F5 := fun_mk (st := s_check_number) l5 c5 k5
  have b5 := F5.binds (ps := ["number"]) fun _ _ _ _ _ _ us hl => match us, hl with | [_], _ => rfl
  have F6 := fun_mk (st := s_check_size) l6 c6 k6
  have b6 := F6.binds (ps := ["size"]) fun _ _ _ _ _ _ us hl => match us, hl with | [_], _ => rfl
  have F7 := fun_mk (st := s_greatest_top) l7 c7 k7
  have b7 := F7.binds (ps := ["number", "size"]) fun _ _ _ _ _ _ us hl => match us, hl with | [_, _], _ => rfl
  have F8 := fun_mk (st := s_greatest_within) l8 c8 k8
  have b8 := F8.binds (ps := ["number", "least", "count_at"]) fun _ _ _ _ _ _ us hl => match us, hl with | [_, _, _], _ => rfl
  have F9 := fun_mk (st := s_moved_sum) l9 c9 k9
  have b9 := F9.binds (ps := ["size", "cascade", "more_things", "more_size"]) fun _ _ _ _ _ _ us hl => match us, hl with | [_, _, _, _], _ => rfl
  have F10 := fun_mk (st := s_is_counts) l10 c10 k10
  have b10 := F10.binds (ps := ["thing"]) fun _ _ _ _ _ _ us hl => match us, hl with | [_], _ => rfl
  have F11 := fun_mk (st := s_judge_counts) l11 c11 k11
  have b11 := F11.binds (ps := ["counts"]) fun _ _ _ _ _ _ us hl => match us, hl with | [_], _ => rfl
  have F12 := fun_mk (st := s_check_counts) l12 c12 k12
  have b12 := F12.binds (ps := ["counts"]) fun _ _ _ _ _ _ us hl => match us, hl with | [_], _ => rfl
  have F13 := fun_mk (st := s_check_some_counts) l13 c13 k13
  have b13 := F13.binds (ps := ["counts"]) fun _ _ _ _ _ _ us hl => match us, hl with | [_], _ => rfl
  have F14 := fun_mk (st := s_check_fit) l14 c14 k14
  have b14 := F14.binds (ps := ["counts"]) fun _ _ _ _ _ _ us hl => match us, hl with | [_], _ => rfl
  have F15 := fun_mk (st := s_counts_certificates) l15 c15 k15
  have b15 := F15.binds (ps := ["counts"]) fun _ _ _ _ _ _ us hl => match us, hl with | [_], _ => rfl
  have F16 := fun_mk (st := s_rests_of) l16 c16 k16
  have b16 := F16.binds (ps := ["counts", "holes"]) fun _ _ _ _ _ _ us hl => match us, hl with | [_, _], _ => rfl
  have F17 := fun_mk (st := s_judge_rows) l17 c17 k17
  have b17 := F17.binds (ps := ["counts", "holes"]) fun _ _ _ _ _ _ us hl => match us, hl with | [_, _], _ => rfl
  have F18 := fun_mk (st := s_is_holes_for) l18 c18 k18
  have b18 := F18.binds (ps := ["counts", "thing"]) fun _ _ _ _ _ _ us hl => match us, hl with | [_, _], _ => rfl
  have F19 := fun_mk (st := s_rows_certificates) l19 c19 k19
  have b19 := F19.binds (ps := ["counts", "holes"]) fun _ _ _ _ _ _ us hl => match us, hl with | [_, _], _ => rfl
  have F20 := fun_mk (st := s_is_overfull) l20 c20 k20
  have b20 := F20.binds (ps := ["rests", "holes", "k"]) fun _ _ _ _ _ _ us hl => match us, hl with | [_, _, _], _ => rfl
  have F21 := fun_mk (st := s_least_rests) l21 c21 k21
  have b21 := F21.binds (ps := ["counts"]) fun _ _ _ _ _ _ us hl => match us, hl with | [_], _ => rfl
  have F22 := fun_mk (st := s_most_holes) l22 c22 k22
  have b22 := F22.binds (ps := ["counts"]) fun _ _ _ _ _ _ us hl => match us, hl with | [_], _ => rfl
  have F23 := fun_mk (st := s_least_holes) l23 c23 k23
  have b23 := F23.binds (ps := ["counts"]) fun _ _ _ _ _ _ us hl => match us, hl with | [_], _ => rfl
  have F24 := fun_mk (st := s_has_hole_row) l24 c24 k24
  have b24 := F24.binds (ps := ["counts", "thing"]) fun _ _ _ _ _ _ us hl => match us, hl with | [_, _], _ => rfl
  have F25 := fun_mk (st := s_holes_with) l25 c25 k25
  have b25 := F25.binds (ps := ["counts", "rests"]) fun _ _ _ _ _ _ us hl => match us, hl with | [_, _], _ => rfl
  have F26 := fun_mk (st := s_greatest_rests) l26 c26 k26
  have b26 := F26.binds (ps := ["counts", "least"]) fun _ _ _ _ _ _ us hl => match us, hl with | [_, _], _ => rfl
  have F27 := fun_mk (st := s_least_rest) l27 c27 k27
  have b27 := F27.binds (ps := ["many", "size"]) fun _ _ _ _ _ _ us hl => match us, hl with | [_, _], _ => rfl
  have F28 := fun_mk (st := s_l_deck) l28 c28 k28
  have b28 := F28.binds (ps := ["script"]) fun _ _ _ _ _ _ us hl => match us, hl with | [_], _ => rfl
  have F29 := fun_mk (st := s_l_draw) l29 c29 k29
  have b29 := F29.binds (ps := ["deck", "below"]) fun _ _ _ _ _ _ us hl => match us, hl with | [_, _], _ => rfl
  have F30 := fun_mk (st := s_l_pick) l30 c30 k30
  have b30 := F30.binds (ps := ["deck", "some"]) fun _ _ _ _ _ _ us hl => match us, hl with | [_, _], _ => rfl
  have F31 := fun_mk (st := s_l_is_integer) l31 c31 k31
  have b31 := F31.binds (ps := ["thing"]) fun _ _ _ _ _ _ us hl => match us, hl with | [_], _ => rfl
  have F32 := fun_mk (st := s_l_are_integers) l32 c32 k32
  have b32 := F32.binds (ps := ["thing", "many"]) fun _ _ _ _ _ _ us hl => match us, hl with | [_, _], _ => rfl
  have F33 := fun_mk (st := s_l_choose) l33 c33 k33
  have b33 := F33.binds (ps := ["a", "b"]) fun _ _ _ _ _ _ us hl => match us, hl with | [_, _], _ => rfl
  have F34 := fun_mk (st := s_l_top) l34 c34 k34
  have b34 := F34.binds (ps := ["number", "size"]) fun _ _ _ _ _ _ us hl => match us, hl with | [_, _], _ => rfl
  have F35 := fun_mk (st := s_l_cascade) l35 c35 k35
  have b35 := F35.binds (ps := ["number", "size"]) fun _ _ _ _ _ _ us hl => match us, hl with | [_, _], _ => rfl
  have F36 := fun_mk (st := s_l_lower_sets) l36 c36 k36
  have b36 := F36.binds (ps := ["number", "size"]) fun _ _ _ _ _ _ us hl => match us, hl with | [_, _], _ => rfl
  have F37 := fun_mk (st := s_l_rests) l37 c37 k37
  have b37 := F37.binds (ps := ["counts", "holes"]) fun _ _ _ _ _ _ us hl => match us, hl with | [_, _], _ => rfl
  have F38 := fun_mk (st := s_l_does_fit) l38 c38 k38
  have b38 := F38.binds (ps := ["counts", "holes"]) fun _ _ _ _ _ _ us hl => match us, hl with | [_, _], _ => rfl
  have F39 := fun_mk (st := s_l_below) l39 c39 k39
  have b39 := F39.binds (ps := ["deck", "greatest"]) fun _ _ _ _ _ _ us hl => match us, hl with | [_, _], _ => rfl
  have F40 := fun_mk (st := s_l_some_counts) l40 c40 k40
  have b40 := F40.binds (ps := ["deck", "d", "greatest"]) fun _ _ _ _ _ _ us hl => match us, hl with | [_, _, _], _ => rfl
  have F41 := fun_mk (st := s_l_least_holes) l41 c41 k41
  have b41 := F41.binds (ps := ["counts", "least"]) fun _ _ _ _ _ _ us hl => match us, hl with | [_, _], _ => rfl
  have F42 := fun_mk (st := s_l_is_least) l42 c42 k42
  have b42 := F42.binds (ps := ["counts", "k", "c"]) fun _ _ _ _ _ _ us hl => match us, hl with | [_, _, _], _ => rfl
  have F43 := fun_mk (st := s_law) l43 c43 k43
  have b43 := F43.binds (ps := ["script"]) fun _ _ _ _ _ _ us hl => match us, hl with | [_], _ => rfl
  let T : Txt K mg := ⟨f0, _, F0, PySem.W.mg_of X G a0, b0, f1, _, F1, PySem.W.mg_of X G a1, b1, f2, _, F2, PySem.W.mg_of X G a2, b2, f3, _, F3, PySem.W.mg_of X G a3, b3, f4, _, F4, PySem.W.mg_of X G a4, b4, f5, _, F5, PySem.W.mg_of X G a5, b5, f6, _, F6, PySem.W.mg_of X G a6, b6, f7, _, F7, PySem.W.mg_of X G a7, b7, f8, _, F8, PySem.W.mg_of X G a8, b8, f9, _, F9, PySem.W.mg_of X G a9, b9, f10, _, F10, PySem.W.mg_of X G a10, b10, f11, _, F11, PySem.W.mg_of X G a11, b11, f12, _, F12, PySem.W.mg_of X G a12, b12, f13, _, F13, PySem.W.mg_of X G a13, b13, f14, _, F14, PySem.W.mg_of X G a14, b14, f15, _, F15, PySem.W.mg_of X G a15, b15, f16, _, F16, PySem.W.mg_of X G a16, b16, f17, _, F17, PySem.W.mg_of X G a17, b17, f18, _, F18, PySem.W.mg_of X G a18, b18, f19, _, F19, PySem.W.mg_of X G a19, b19, f20, _, F20, PySem.W.mg_of X G a20, b20, f21, _, F21, PySem.W.mg_of X G a21, b21, f22, _, F22, PySem.W.mg_of X G a22, b22, f23, _, F23, PySem.W.mg_of X G a23, b23, f24, _, F24, PySem.W.mg_of X G a24, b24, f25, _, F25, PySem.W.mg_of X G a25, b25, f26, _, F26, PySem.W.mg_of X G a26, b26, f27, _, F27, PySem.W.mg_of X G a27, b27, f28, _, F28, PySem.W.mg_of X G a28, b28, f29, _, F29, PySem.W.mg_of X G a29, b29, f30, _, F30, PySem.W.mg_of X G a30, b30, f31, _, F31, PySem.W.mg_of X G a31, b31, f32, _, F32, PySem.W.mg_of X G a32, b32, f33, _, F33, PySem.W.mg_of X G a33, b33, f34, _, F34, PySem.W.mg_of X G a34, b34, f35, _, F35, PySem.W.mg_of X G a35, b35, f36, _, F36, PySem.W.mg_of X G a36, b36, f37, _, F37, PySem.W.mg_of X G a37, b37, f38, _, F38, PySem.W.mg_of X G a38, b38, f39, _, F39, PySem.W.mg_of X G a39, b39, f40, _, F40, PySem.W.mg_of X G a40, b40, f41, _, F41, PySem.W.mg_of X G a41, b41, f42, _, F42, PySem.W.mg_of X G a42, b42, fa, _, F43, PySem.W.mg_of X G a43, b43, tk0, PySem.W.mg_of X G y0, PySem.W.mg_none_of X G z0, PySem.W.mg_none_of X G z1, PySem.W.mg_none_of X G z2, PySem.W.mg_none_of X G z3, PySem.W.mg_none_of X G z4, PySem.W.mg_none_of X G z5, PySem.W.mg_none_of X G z6, PySem.W.mg_none_of X G z7, PySem.W.mg_none_of X G z8, PySem.W.mg_none_of X G z9, PySem.W.mg_none_of X G z10, PySem.W.mg_none_of X G z11, PySem.W.mg_none_of X G z12, PySem.W.mg_none_of X G z13, PySem.W.mg_of X G zc, lc0, P0, rfl⟩
  have CH := PySem.W.codeHd_of_K X ch0
  have hT := ht0
  exact ⟨T.d_law, [(lc0, P0)], sp_law K P0, (fun p hp => by rw [List.mem_singleton.mp hp]; exact hT), (fun p hp => by rw [List.mem_singleton.mp hp]; exact np0), (fun p hp => by rw [List.mem_singleton.mp hp]; exact CH), (fun s v => .of_eq rfl), (fun H a ns hl hP hS => ⟨a, ns, rfl, hS, hl, hP _ (List.mem_singleton.mpr rfl), fun _ => rfl⟩), fun base _ _ TB => ok_law T (TB _ (List.mem_singleton.mpr rfl))⟩
end K34
open PySem PySem.W PyProof.Rows in
set_option maxRecDepth 100000 in
set_option maxHeartbeats 0 in
theorem PySem.Challenge.cw_holerows_k34_least_rests_and_most_holes_holds : PySem.Challenge.rw_holerows_k34_least_rests_and_most_holes.Holds := by
  w_on; o_law; k_head; (case hw => w_witness2)
  k_fill
  refine Hr.walkT (l := PySem.Challenge.rw_holerows_k34_least_rests_and_most_holes) (n := 63) (k := 11) (x := "script") rfl (by decide) rfl ⟨rfl, by decide, by decide⟩ (fun w h Y => PySem.W.km_in_of Y) ?F
  case F =>
    intro w mg mb fa h lo me Y KX Tp hmg
    refine' K34.all_mk KX Tp hmg ?a0 ?l0 ?c0 ?k0 ?a1 ?l1 ?c1 ?k1 ?a2 ?l2 ?c2 ?k2 ?a3 ?l3 ?c3 ?k3 ?a4 ?l4 ?c4 ?k4 ?a5 ?l5 ?c5 ?k5 ?a6 ?l6 ?c6 ?k6 ?a7 ?l7 ?c7 ?k7 ?lk0 ?hv0 ?np0 ?ch0 ?ht0 ?a8 ?l8 ?c8 ?k8 ?a9 ?l9 ?c9 ?k9 ?a10 ?l10 ?c10 ?k10 ?a11 ?l11 ?c11 ?k11 ?a12 ?l12 ?c12 ?k12 ?a13 ?l13 ?c13 ?k13 ?a14 ?l14 ?c14 ?k14 ?a15 ?l15 ?c15 ?k15 ?a16 ?l16 ?c16 ?k16 ?a17 ?l17 ?c17 ?k17 ?a18 ?l18 ?c18 ?k18 ?a19 ?l19 ?c19 ?k19 ?a20 ?l20 ?c20 ?k20 ?a21 ?l21 ?c21 ?k21 ?a22 ?l22 ?c22 ?k22 ?a23 ?l23 ?c23 ?k23 ?a24 ?l24 ?c24 ?k24 ?a25 ?l25 ?c25 ?k25 ?a26 ?l26 ?c26 ?k26 ?a27 ?l27 ?c27 ?k27 ?a28 ?l28 ?c28 ?k28 ?a29 ?l29 ?c29 ?k29 ?a30 ?l30 ?c30 ?k30 ?a31 ?l31 ?c31 ?k31 ?a32 ?l32 ?c32 ?k32 ?a33 ?l33 ?c33 ?k33 ?a34 ?l34 ?c34 ?k34 ?a35 ?l35 ?c35 ?k35 ?a36 ?l36 ?c36 ?k36 ?a37 ?l37 ?c37 ?k37 ?a38 ?l38 ?c38 ?k38 ?a39 ?l39 ?c39 ?k39 ?a40 ?l40 ?c40 ?k40 ?a41 ?l41 ?c41 ?k41 ?a42 ?l42 ?c42 ?k42 ?a43 ?l43 ?c43 ?k43 ?y0 ?z0 ?z1 ?z2 ?z3 ?z4 ?z5 ?z6 ?z7 ?z8 ?z9 ?z10 ?z11 ?z12 ?z13 ?zc
    (case a0 => first | k_is | rfl)
    (case l0 => first | k_is | rfl)
    (case c0 => first | k_is | rfl)
    (case k0 => first | k_is | rfl)
    (case a1 => first | k_is | rfl)
    (case l1 => first | k_is | rfl)
    (case c1 => first | k_is | rfl)
    (case k1 => first | k_is | rfl)
    (case a2 => first | k_is | rfl)
    (case l2 => first | k_is | rfl)
    (case c2 => first | k_is | rfl)
    (case k2 => first | k_is | rfl)
    (case a3 => first | k_is | rfl)
    (case l3 => first | k_is | rfl)
    (case c3 => first | k_is | rfl)
    (case k3 => first | k_is | rfl)
    (case a4 => first | k_is | rfl)
    (case l4 => first | k_is | rfl)
    (case c4 => first | k_is | rfl)
    (case k4 => first | k_is | rfl)
    (case a5 => first | k_is | rfl)
    (case l5 => first | k_is | rfl)
    (case c5 => first | k_is | rfl)
    (case k5 => first | k_is | rfl)
    (case a6 => first | k_is | rfl)
    (case l6 => first | k_is | rfl)
    (case c6 => first | k_is | rfl)
    (case k6 => first | k_is | rfl)
    (case a7 => first | k_is | rfl)
    (case l7 => first | k_is | rfl)
    (case c7 => first | k_is | rfl)
    (case k7 => first | k_is | rfl)
    (case lk0 => first | k_is | rfl)
    (case hv0 => first | kernel_rfl | rfl | decide +kernel)
    (case np0 => first | kernel_rfl | rfl | decide +kernel)
    (case ch0 => first | kernel_rfl | rfl | decide +kernel)
    (case ht0 => exact PySem.W.km_tabs_of Y _ (List.mem_singleton.mpr rfl))
    (case a8 => first | k_is | rfl)
    (case l8 => first | k_is | rfl)
    (case c8 => first | k_is | rfl)
    (case k8 => first | k_is | rfl)
    (case a9 => first | k_is | rfl)
    (case l9 => first | k_is | rfl)
    (case c9 => first | k_is | rfl)
    (case k9 => first | k_is | rfl)
    (case a10 => first | k_is | rfl)
    (case l10 => first | k_is | rfl)
    (case c10 => first | k_is | rfl)
    (case k10 => first | k_is | rfl)
    (case a11 => first | k_is | rfl)
    (case l11 => first | k_is | rfl)
    (case c11 => first | k_is | rfl)
    (case k11 => first | k_is | rfl)
    (case a12 => first | k_is | rfl)
    (case l12 => first | k_is | rfl)
    (case c12 => first | k_is | rfl)
    (case k12 => first | k_is | rfl)
    (case a13 => first | k_is | rfl)
    (case l13 => first | k_is | rfl)
    (case c13 => first | k_is | rfl)
    (case k13 => first | k_is | rfl)
    (case a14 => first | k_is | rfl)
    (case l14 => first | k_is | rfl)
    (case c14 => first | k_is | rfl)
    (case k14 => first | k_is | rfl)
    (case a15 => first | k_is | rfl)
    (case l15 => first | k_is | rfl)
    (case c15 => first | k_is | rfl)
    (case k15 => first | k_is | rfl)
    (case a16 => first | k_is | rfl)
    (case l16 => first | k_is | rfl)
    (case c16 => first | k_is | rfl)
    (case k16 => first | k_is | rfl)
    (case a17 => first | k_is | rfl)
    (case l17 => first | k_is | rfl)
    (case c17 => first | k_is | rfl)
    (case k17 => first | k_is | rfl)
    (case a18 => first | k_is | rfl)
    (case l18 => first | k_is | rfl)
    (case c18 => first | k_is | rfl)
    (case k18 => first | k_is | rfl)
    (case a19 => first | k_is | rfl)
    (case l19 => first | k_is | rfl)
    (case c19 => first | k_is | rfl)
    (case k19 => first | k_is | rfl)
    (case a20 => first | k_is | rfl)
    (case l20 => first | k_is | rfl)
    (case c20 => first | k_is | rfl)
    (case k20 => first | k_is | rfl)
    (case a21 => first | k_is | rfl)
    (case l21 => first | k_is | rfl)
    (case c21 => first | k_is | rfl)
    (case k21 => first | k_is | rfl)
    (case a22 => first | k_is | rfl)
    (case l22 => first | k_is | rfl)
    (case c22 => first | k_is | rfl)
    (case k22 => first | k_is | rfl)
    (case a23 => first | k_is | rfl)
    (case l23 => first | k_is | rfl)
    (case c23 => first | k_is | rfl)
    (case k23 => first | k_is | rfl)
    (case a24 => first | k_is | rfl)
    (case l24 => first | k_is | rfl)
    (case c24 => first | k_is | rfl)
    (case k24 => first | k_is | rfl)
    (case a25 => first | k_is | rfl)
    (case l25 => first | k_is | rfl)
    (case c25 => first | k_is | rfl)
    (case k25 => first | k_is | rfl)
    (case a26 => first | k_is | rfl)
    (case l26 => first | k_is | rfl)
    (case c26 => first | k_is | rfl)
    (case k26 => first | k_is | rfl)
    (case a27 => first | k_is | rfl)
    (case l27 => first | k_is | rfl)
    (case c27 => first | k_is | rfl)
    (case k27 => first | k_is | rfl)
    (case a28 => first | k_is | rfl)
    (case l28 => first | k_is | rfl)
    (case c28 => first | k_is | rfl)
    (case k28 => first | k_is | rfl)
    (case a29 => first | k_is | rfl)
    (case l29 => first | k_is | rfl)
    (case c29 => first | k_is | rfl)
    (case k29 => first | k_is | rfl)
    (case a30 => first | k_is | rfl)
    (case l30 => first | k_is | rfl)
    (case c30 => first | k_is | rfl)
    (case k30 => first | k_is | rfl)
    (case a31 => first | k_is | rfl)
    (case l31 => first | k_is | rfl)
    (case c31 => first | k_is | rfl)
    (case k31 => first | k_is | rfl)
    (case a32 => first | k_is | rfl)
    (case l32 => first | k_is | rfl)
    (case c32 => first | k_is | rfl)
    (case k32 => first | k_is | rfl)
    (case a33 => first | k_is | rfl)
    (case l33 => first | k_is | rfl)
    (case c33 => first | k_is | rfl)
    (case k33 => first | k_is | rfl)
    (case a34 => first | k_is | rfl)
    (case l34 => first | k_is | rfl)
    (case c34 => first | k_is | rfl)
    (case k34 => first | k_is | rfl)
    (case a35 => first | k_is | rfl)
    (case l35 => first | k_is | rfl)
    (case c35 => first | k_is | rfl)
    (case k35 => first | k_is | rfl)
    (case a36 => first | k_is | rfl)
    (case l36 => first | k_is | rfl)
    (case c36 => first | k_is | rfl)
    (case k36 => first | k_is | rfl)
    (case a37 => first | k_is | rfl)
    (case l37 => first | k_is | rfl)
    (case c37 => first | k_is | rfl)
    (case k37 => first | k_is | rfl)
    (case a38 => first | k_is | rfl)
    (case l38 => first | k_is | rfl)
    (case c38 => first | k_is | rfl)
    (case k38 => first | k_is | rfl)
    (case a39 => first | k_is | rfl)
    (case l39 => first | k_is | rfl)
    (case c39 => first | k_is | rfl)
    (case k39 => first | k_is | rfl)
    (case a40 => first | k_is | rfl)
    (case l40 => first | k_is | rfl)
    (case c40 => first | k_is | rfl)
    (case k40 => first | k_is | rfl)
    (case a41 => first | k_is | rfl)
    (case l41 => first | k_is | rfl)
    (case c41 => first | k_is | rfl)
    (case k41 => first | k_is | rfl)
    (case a42 => first | k_is | rfl)
    (case l42 => first | k_is | rfl)
    (case c42 => first | k_is | rfl)
    (case k42 => first | k_is | rfl)
    (case a43 => first | k_is | rfl)
    (case l43 => first | k_is | rfl)
    (case c43 => first | k_is | rfl)
    (case k43 => first | k_is | rfl)
    (case y0 => first | k_is | rfl)
    (case z0 => first | k_is | rfl)
    (case z1 => first | k_is | rfl)
    (case z2 => first | k_is | rfl)
    (case z3 => first | k_is | rfl)
    (case z4 => first | k_is | rfl)
    (case z5 => first | k_is | rfl)
    (case z6 => first | k_is | rfl)
    (case z7 => first | k_is | rfl)
    (case z8 => first | k_is | rfl)
    (case z9 => first | k_is | rfl)
    (case z10 => first | k_is | rfl)
    (case z11 => first | k_is | rfl)
    (case z12 => first | k_is | rfl)
    (case z13 => first | k_is | rfl)
    (case zc => first | k_is | rfl)
