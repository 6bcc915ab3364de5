import PyProof.Rows.All
import Wide.All
import OpenK.AllK
import Wide.FinOn
import KE.KMathGC
import HandS.List
import HandS.ForMost
import HandS.Style
import HandS.Gcd
import HandS.Wide
import HandS.Evl
import HandS.IsInst
import HandS.RaiseMore
import HandS.Walk
import KE.GoesMore
import KE.GoesEnum
import HandS.Lambda
import HandS.Words
import HandS.EndTab
import KE.KNest
import PySem.Challenge.RW_holerows_k06_whole_lower_and_upper_numbe
set_option Elab.async false
set_option linter.all false
set_option maxRecDepth 100000
set_option maxHeartbeats 8000000
/-! The mathematics of cascades, in plain Lean. -/
namespace HrM
open PySem

/-- how many sets of k of n things -/
def ch : Nat → Nat → Nat
  | _, 0 => 1
  | 0, _ + 1 => 0
  | n + 1, k + 1 => ch n k + ch n (k + 1)
theorem ch_zero (n : Nat) : ch n 0 = 1 := by cases n <;> rfl
theorem ch_succ (n k : Nat) : ch (n + 1) (k + 1) = ch n k + ch n (k + 1) := rfl
theorem ch_none (k : Nat) : ch 0 (k + 1) = 0 := rfl
theorem ch_lt : ∀ {n k : Nat}, n < k → ch n k = 0
  | _, 0, h => absurd h (Nat.not_lt_zero _)
  | 0, _ + 1, _ => rfl
  | n + 1, k + 1, h => by rw [ch_succ, ch_lt (by omega : n < k), ch_lt (by omega : n < k + 1)]
theorem ch_self : ∀ n : Nat, ch n n = 1
  | 0 => rfl
  | n + 1 => by rw [ch_succ, ch_self n, ch_lt (Nat.lt_succ_self n)]
theorem ch_pos : ∀ {n k : Nat}, k ≤ n → 1 ≤ ch n k
  | n, 0, _ => by rw [ch_zero]; exact Nat.le_refl 1
  | 0, _ + 1, h => absurd h (by omega)
  | n + 1, k + 1, h => by
    have := ch_pos (n := n) (k := k) (by omega)
    rw [ch_succ]
    omega
theorem ch_step (n : Nat) : ∀ k : Nat, ch n k ≤ ch (n + 1) k
  | 0 => by rw [ch_zero, ch_zero]; exact Nat.le_refl 1
  | k + 1 => by rw [ch_succ]; omega
theorem ch_mono {a b : Nat} (k : Nat) (h : a ≤ b) : ch a k ≤ ch b k := by
  induction h with
  | refl => exact Nat.le_refl _
  | step _ ih => exact Nat.le_trans ih (ch_step _ k)
theorem ch_one (n : Nat) : ch n 1 = n := by
  induction n with
  | zero => rfl
  | succ n ih =>
    have e := ch_succ n 0
    rw [ch_zero] at e
    rw [e, ih]
    omega
theorem ch_mul : ∀ n k : Nat, ch n (k + 1) * (k + 1) = ch n k * (n - k)
  | 0, 0 => rfl
  | 0, k + 1 => by rw [ch_none, ch_none, Nat.zero_mul, Nat.zero_mul]
  | n + 1, 0 => by
    rw [ch_zero]
    have := ch_one (n + 1)
    rw [show (0 + 1 : Nat) = 1 from rfl, this]
    omega
  | n + 1, k + 1 => by
    have h1 := ch_mul n (k + 1)
    have h2 := ch_mul n k
    rw [ch_succ n (k + 1), ch_succ n k, Nat.add_mul, Nat.add_mul, h1]
    have e0 : n + 1 - (k + 1) = n - k := by omega
    rw [e0, ← h2]
    by_cases h : k + 1 ≤ n
    · have e1 : ch n (k + 1) * (k + 1 + 1) + ch n (k + 1) * (n - (k + 1)) = ch n (k + 1) * (k + 1) + ch n (k + 1) * (n - k) := by
        rw [← Nat.mul_add, ← Nat.mul_add]
        congr 1
        omega
      exact e1
    · rw [ch_lt (by omega : n < k + 1)]
      omega
theorem ch_le_pow (a : Nat) : ∀ b : Nat, ch a b ≤ a ^ b
  | 0 => by rw [ch_zero, Nat.pow_zero]; exact Nat.le_refl 1
  | b + 1 => by
    have h := ch_mul a b
    have h2 : ch a (b + 1) ≤ ch a (b + 1) * (b + 1) := Nat.le_mul_of_pos_right _ (by omega)
    have h3 : ch a b * (a - b) ≤ a ^ b * a := Nat.mul_le_mul (ch_le_pow a b) (Nat.sub_le _ _)
    rw [Nat.pow_succ]
    omega
theorem log_lt {n m : Nat} (h : n < 2 ^ m) (hm : 0 < m) : n.log2 < m := by
  by_cases h0 : n = 0
  · subst h0
    exact hm
  · exact (Nat.log2_lt h0).mpr h
theorem ch_bits {a b m : Nat} (h : a < 2 ^ m) (hb : b ≤ 20) (hm : 0 < m) (hm2 : m ≤ 5000) : (ch a b).log2 < bitsLine := by
  have h1 : ch a b ≤ (2 ^ m) ^ b := Nat.le_trans (ch_le_pow a b) (Nat.pow_le_pow_left (Nat.le_of_lt h) b)
  rw [← Nat.pow_mul] at h1
  have h2 : ch a b < 2 ^ (m * b + 1) := Nat.lt_of_le_of_lt h1 (Nat.pow_lt_pow_right (by decide) (Nat.lt_succ_self _))
  have h3 := log_lt h2 (by omega)
  have h4 : m * b ≤ 5000 * 20 := Nat.mul_le_mul hm2 hb
  have h5 : bitsLine = 134217728 := by decide
  omega
def fac : Nat → Nat
  | 0 => 1
  | n + 1 => (n + 1) * fac n
theorem fac_pos : ∀ n : Nat, 1 ≤ fac n
  | 0 => Nat.le_refl 1
  | n + 1 => Nat.mul_le_mul (by omega : 1 ≤ n + 1) (fac_pos n)
theorem ch_fac (n : Nat) : ∀ k : Nat, k ≤ n → ch n k * (fac k * fac (n - k)) = fac n
  | 0, _ => by rw [ch_zero, Nat.sub_zero]; show 1 * (1 * fac n) = fac n; omega
  | k + 1, h => by
    have ih := ch_fac n k (by omega)
    have e : n - k = (n - (k + 1)) + 1 := by omega
    have h1 := ch_mul n k
    have h2 : fac (n - k) = (n - k) * fac (n - (k + 1)) := by
      rw [e]
      rfl
    rw [h2] at ih
    show ch n (k + 1) * ((k + 1) * fac k * fac (n - (k + 1))) = fac n
    have e1 : ch n (k + 1) * ((k + 1) * fac k * fac (n - (k + 1))) = (ch n (k + 1) * (k + 1)) * (fac k * fac (n - (k + 1))) := by
      rw [Nat.mul_assoc (k + 1), ← Nat.mul_assoc]
    rw [e1, h1, ← ih]
    rw [Nat.mul_assoc, ← Nat.mul_assoc (n - k), Nat.mul_comm (n - k) (fac k), Nat.mul_assoc (fac k)]
theorem ch_symm {n k : Nat} (h : k ≤ n) : ch n k = ch n (n - k) := by
  have h1 := ch_fac n k h
  have h2 := ch_fac n (n - k) (Nat.sub_le _ _)
  have e : n - (n - k) = k := by omega
  rw [e, Nat.mul_comm (fac (n - k))] at h2
  exact Nat.eq_of_mul_eq_mul_right (Nat.mul_pos (fac_pos k) (fac_pos (n - k))) (h1.trans h2.symm)
theorem falling (a : Nat) : ∀ k : Nat, k ≤ a → Builtin.Math.fallingProduct (a : Int) k = ((ch a k * fac k : Nat) : Int)
  | 0, _ => by rw [ch_zero]; rfl
  | k + 1, h => by
    rw [PySem.W.mc_fp_succ, falling a k (by omega)]
    have e : ((a : Int) - (k : Int)) = ((a - k : Nat) : Int) := by omega
    rw [e, ← Int.natCast_mul]
    congr 1
    show ch a k * fac k * (a - k) = ch a (k + 1) * ((k + 1) * fac k)
    rw [← Nat.mul_assoc, ch_mul, Nat.mul_assoc, Nat.mul_comm (fac k), Nat.mul_assoc]
theorem comb_nat (a b : Nat) : PySem.W.mcComb (a : Int) (b : Int) = ((ch a b : Nat) : Int) := by
  by_cases h : b ≤ a
  · have hm : ∃ m : Nat, min (b : Int) ((a : Int) - (b : Int)) = (m : Int) ∧ m ≤ a ∧ ch a b = ch a m := by
      by_cases hb : b ≤ a - b
      · exact ⟨b, by omega, h, rfl⟩
      · exact ⟨a - b, by omega, by omega, ch_symm h⟩
    obtain ⟨m, e, hma, e2⟩ := hm
    rw [PySem.W.mcComb_at (by omega) (by omega) e, e2]
    rw [Int.toNat_natCast, falling a m hma, falling m m (Nat.le_refl m), ch_self, Nat.one_mul, ← Int.natCast_ediv]
    congr 1
    exact Nat.mul_div_cancel _ (fac_pos m)
  · rw [PySem.W.mcComb_above (by omega), ch_lt (by omega)]
    rfl

/-! ### cascades -/
def val : Nat → List Nat → Nat
  | _, [] => 0
  | s, a :: r => ch a s + val (s - 1) r
structure Cas (s : Nat) (xs : List Nat) : Prop where
  len : xs.length ≤ s
  low : ∀ i a, xs[i]? = some a → s - i ≤ a
  fall : ∀ i a b, xs[i]? = some a → xs[i + 1]? = some b → b < a
theorem Cas.nil (s : Nat) : Cas s [] := ⟨Nat.zero_le _, fun i a h => by simp at h, fun i a b h => by simp at h⟩
theorem Cas.tail {s a : Nat} {r : List Nat} (c : Cas (s + 1) (a :: r)) : Cas s r :=
  ⟨Nat.le_of_succ_le_succ c.len, fun i x h => by have := c.low (i + 1) x (by simpa using h); omega, fun i x y h h' => c.fall (i + 1) x y (by simpa using h) (by simpa using h')⟩
theorem Cas.pos {s a : Nat} {r : List Nat} (c : Cas s (a :: r)) : 1 ≤ s := by
  have := c.len
  rw [List.length_cons] at this
  omega
theorem Cas.head {s a : Nat} {r : List Nat} (c : Cas s (a :: r)) : s ≤ a := c.low 0 a rfl
theorem val_lt : ∀ {xs : List Nat} {s u : Nat}, Cas s xs → (∀ a, xs[0]? = some a → a < u) → s ≤ u → val s xs < ch u s
  | [], s, u, _, _, h => ch_pos h
  | a :: r, s, u, c, hu, h => by
    obtain ⟨t, rfl⟩ : ∃ t, s = t + 1 := ⟨s - 1, by have := c.pos; omega⟩
    have hd := c.head
    have ih := val_lt (u := a) c.tail (fun b hb => c.fall 0 a b rfl (by simpa using hb)) (by omega)
    have ha := hu a rfl
    have hm := ch_mono (t + 1) (show a + 1 ≤ u from ha)
    show ch a (t + 1) + val (t + 1 - 1) r < ch u (t + 1)
    rw [Nat.add_sub_cancel]
    rw [ch_succ] at hm
    omega
def iz (xs : List Nat) : List Int := List.map (fun (n : Nat) => (n : Int)) xs
theorem iz_len (xs : List Nat) : (iz xs).length = xs.length := List.length_map _
theorem iz_append (xs ys : List Nat) : iz (xs ++ ys) = iz xs ++ iz ys := List.map_append
theorem iz_get (xs : List Nat) (i : Nat) : (iz xs)[i]? = Option.map (fun (n : Nat) => (n : Int)) xs[i]? := List.getElem?_map
theorem cas_lt : ∀ {xs ys : List Nat} {s : Nat}, Cas s xs → Cas s ys → HT.lexLt (iz xs) (iz ys) = true → val s xs < val s ys
  | [], [], _, _, _, h => by cases h
  | [], y :: ys, s, _, c, _ => by
    have := ch_pos c.head
    show 0 < ch y s + val (s - 1) ys
    omega
  | x :: xs, [], _, _, _, h => by cases h
  | x :: xs, y :: ys, s, c, d, h => by
    obtain ⟨t, rfl⟩ : ∃ t, s = t + 1 := ⟨s - 1, by have := c.pos; omega⟩
    have h' : (if (x : Int) = (y : Int) then HT.lexLt (iz xs) (iz ys) else decide ((x : Int) < (y : Int))) = true := h
    by_cases e : x = y
    · subst e
      rw [if_pos rfl] at h'
      have := cas_lt c.tail d.tail h'
      show ch x (t + 1) + val t xs < ch x (t + 1) + val t ys
      omega
    · rw [if_neg (by omega)] at h'
      have hlt : x < y := by
        have := of_decide_eq_true h'
        omega
      have h1 := val_lt (u := x + 1) c (fun a ha => by cases ha; omega) (by have := c.head; omega)
      have h2 := ch_mono (t + 1) (show x + 1 ≤ y from hlt)
      show val (t + 1) (x :: xs) < ch y (t + 1) + val t ys
      omega
theorem lex_eq : ∀ {xs ys : List Nat}, HT.lexLt (iz xs) (iz ys) = false → HT.lexLt (iz ys) (iz xs) = false → xs = ys
  | [], [], _, _ => rfl
  | [], _ :: _, h, _ => by cases h
  | _ :: _, [], _, h => by cases h
  | x :: xs, y :: ys, h, h' => by
    have g : (if (x : Int) = (y : Int) then HT.lexLt (iz xs) (iz ys) else decide ((x : Int) < (y : Int))) = false := h
    have g' : (if (y : Int) = (x : Int) then HT.lexLt (iz ys) (iz xs) else decide ((y : Int) < (x : Int))) = false := h'
    by_cases e : x = y
    · subst e
      rw [if_pos rfl] at g g'
      rw [lex_eq g g']
    · rw [if_neg (by omega)] at g g'
      have := of_decide_eq_false g
      have := of_decide_eq_false g'
      omega
theorem cas_uniq {xs ys : List Nat} {s : Nat} (c : Cas s xs) (d : Cas s ys) (h : val s xs = val s ys) : xs = ys := by
  refine lex_eq ?_ ?_
  · cases e : HT.lexLt (iz xs) (iz ys) with
    | false => rfl
    | true => have := cas_lt c d e; omega
  · cases e : HT.lexLt (iz ys) (iz xs) with
    | false => rfl
    | true => have := cas_lt d c e; omega
theorem cas_dec {xs ys : List Nat} {s : Nat} (c : Cas s xs) (d : Cas s ys) : HT.lexLt (iz xs) (iz ys) = decide (val s xs < val s ys) := by
  cases e : HT.lexLt (iz xs) (iz ys) with
  | true => exact (decide_eq_true (cas_lt c d e)).symm
  | false =>
    cases e' : HT.lexLt (iz ys) (iz xs) with
    | true => exact (decide_eq_false (by have := cas_lt d c e'; omega)).symm
    | false =>
      have := lex_eq e e'
      subst this
      exact (decide_eq_false (by omega)).symm
/-! ### one more item -/
theorem val_snoc : ∀ (xs : List Nat) (s a : Nat), val s (xs ++ [a]) = val s xs + ch a (s - xs.length)
  | [], s, a => by show ch a s + val (s - 1) [] = 0 + ch a (s - 0); rw [Nat.sub_zero]; show ch a s + 0 = _; omega
  | x :: xs, s, a => by
    show ch x s + val (s - 1) (xs ++ [a]) = ch x s + val (s - 1) xs + ch a (s - (xs.length + 1))
    rw [val_snoc xs (s - 1) a, show s - 1 - xs.length = s - (xs.length + 1) by omega]
    omega
theorem Cas.snoc {s : Nat} {xs : List Nat} {b : Nat} (c : Cas s xs) (hl : xs.length + 1 ≤ s) (hb : s - xs.length ≤ b) (hf : ∀ a, xs.getLast? = some a → b < a) : Cas s (xs ++ [b]) where
  len := by rw [List.length_append, List.length_singleton]; exact hl
  low := fun i a h => by
    by_cases hi : i < xs.length
    · rw [List.getElem?_append_left hi] at h
      exact c.low i a h
    · rw [List.getElem?_append_right (by omega)] at h
      by_cases e : i = xs.length
      · subst e
        rw [Nat.sub_self] at h
        cases h
        exact hb
      · rw [List.getElem?_eq_none (by rw [List.length_singleton]; omega)] at h
        cases h
  fall := fun i x y h h' => by
    by_cases hi : i + 1 < xs.length
    · rw [List.getElem?_append_left hi] at h'
      rw [List.getElem?_append_left (by omega)] at h
      exact c.fall i x y h h'
    · by_cases e : i + 1 = xs.length
      · rw [List.getElem?_append_right (by omega), e, Nat.sub_self] at h'
        cases h'
        rw [List.getElem?_append_left (by omega)] at h
        refine hf x ?_
        rw [List.getLast?_eq_getElem?, ← e, Nat.add_sub_cancel]
        exact h
      · rw [List.getElem?_append_right (by omega), List.getElem?_eq_none (by rw [List.length_singleton]; omega)] at h'
        cases h'
theorem Cas.init {s : Nat} {xs : List Nat} {b : Nat} (c : Cas s (xs ++ [b])) : Cas s xs ∧ xs.length + 1 ≤ s ∧ s - xs.length ≤ b ∧ ∀ a, xs.getLast? = some a → b < a := by
  have hl := c.len
  rw [List.length_append, List.length_singleton] at hl
  have hb : (xs ++ [b])[xs.length]? = some b := by rw [List.getElem?_append_right (Nat.le_refl _), Nat.sub_self]; rfl
  refine ⟨⟨by omega, fun i a h => ?_, fun i x y h h' => ?_⟩, hl, c.low _ _ hb, fun a h => ?_⟩
  · exact c.low i a (by rw [List.getElem?_append_left (List.getElem?_eq_some_iff.mp h).1]; exact h)
  · exact c.fall i x y (by rw [List.getElem?_append_left (List.getElem?_eq_some_iff.mp h).1]; exact h) (by rw [List.getElem?_append_left (List.getElem?_eq_some_iff.mp h').1]; exact h')
  · rw [List.getLast?_eq_getElem?] at h
    have h0 := (List.getElem?_eq_some_iff.mp h).1
    refine c.fall (xs.length - 1) a b (by rw [List.getElem?_append_left h0]; exact h) ?_
    rw [show xs.length - 1 + 1 = xs.length by omega]
    exact hb
/-- what the greatest item for the rest makes of the rest -/
theorem cas_add {s p rest a : Nat} {xs : List Nat} (c : Cas s xs) (hl : xs.length + p = s) (hp : 1 ≤ p) (hr : 1 ≤ rest) (hx : ∀ b, xs.getLast? = some b → rest < ch b p) (h1 : ch a p ≤ rest) (h2 : rest < ch (a + 1) p) :
    Cas s (xs ++ [a]) ∧ rest - ch a p < ch a (p - 1) := by
  have hap : p ≤ a := by
    by_cases h : p ≤ a
    · exact h
    · have h3 := ch_mono p (show a + 1 ≤ p by omega)
      rw [ch_self] at h3
      omega
  refine ⟨c.snoc (by omega) (by omega) fun b hb => ?_, ?_⟩
  · have h3 := hx b hb
    by_cases h : a < b
    · exact h
    · have := ch_mono p (show b ≤ a by omega)
      omega
  · obtain ⟨q, rfl⟩ : ∃ q, p = q + 1 := ⟨p - 1, by omega⟩
    rw [ch_succ] at h2
    rw [Nat.add_sub_cancel]
    omega
/-! ### the next number's cascade -/
structure Nxt (s n : Nat) (xs : List Nat) (b : Nat) : Prop where
  cas : Cas s xs
  len : xs.length + 1 ≤ s
  low : s - xs.length ≤ b
  last : ∀ a, xs.getLast? = some a → b ≤ a
  val : HrM.val s xs + ch b (s - xs.length) = n
theorem Nxt.done {s n : Nat} {xs : List Nat} {b : Nat} (h : Nxt s n xs b) (hb : ∀ a, xs.getLast? = some a → a ≠ b) : Cas s (xs ++ [b]) ∧ HrM.val s (xs ++ [b]) = n :=
  ⟨h.cas.snoc h.len h.low fun a ha => by have := h.last a ha; have := hb a ha; omega, by rw [val_snoc]; exact h.val⟩
theorem Nxt.step {s n : Nat} {xs : List Nat} {b : Nat} (h : Nxt s n (xs ++ [b]) b) : Nxt s n xs (b + 1) := by
  obtain ⟨c, h1, h2, h3⟩ := h.cas.init
  have hl := h.len
  rw [List.length_append, List.length_singleton] at hl
  refine ⟨c, h1, by omega, fun a ha => h3 a ha, ?_⟩
  have e := h.val
  rw [val_snoc, List.length_append, List.length_singleton] at e
  obtain ⟨q, hq⟩ : ∃ q, s - xs.length = q + 1 := ⟨s - xs.length - 1, by omega⟩
  rw [show s - (xs.length + 1) = q by omega, hq] at e
  rw [hq, ch_succ]
  omega
theorem Nxt.start {s : Nat} {xs : List Nat} {b : Nat} (c : Cas s (xs ++ [b])) (h : xs.length + 1 = s) : Nxt s (HrM.val s (xs ++ [b]) + 1) xs (b + 1) := by
  obtain ⟨c1, h1, h2, h3⟩ := c.init
  refine ⟨c1, h1, by omega, h3, ?_⟩
  rw [val_snoc, show s - xs.length = 1 by omega, ch_one, ch_one]
  omega
theorem cas_more {s : Nat} {xs : List Nat} (c : Cas s xs) (h : xs.length < s) : Cas s (xs ++ [s - xs.length]) ∧ val s (xs ++ [s - xs.length]) = val s xs + 1 := by
  refine ⟨c.snoc h (Nat.le_refl _) fun a ha => ?_, by rw [val_snoc, ch_self]⟩
  rw [List.getLast?_eq_getElem?] at ha
  have := c.low _ _ ha
  have := (List.getElem?_eq_some_iff.mp ha).1
  omega
/-! ### sums over a cascade -/
/-- the terms g a i, i the size left -/
def terms (g : Nat → Nat → Nat) : Nat → List Nat → List Nat
  | _, [] => []
  | s, a :: r => g a s :: terms g (s - 1) r
theorem terms_len (g : Nat → Nat → Nat) : ∀ (s : Nat) (xs : List Nat), (terms g s xs).length = xs.length
  | _, [] => rfl
  | s, _ :: r => congrArg (· + 1) (terms_len g (s - 1) r)
theorem terms_get (g : Nat → Nat → Nat) : ∀ (s : Nat) (xs : List Nat) (i : Nat), (terms g s xs)[i]? = (xs[i]?).map fun a => g a (s - i)
  | _, [], i => by simp [terms]
  | s, a :: r, 0 => rfl
  | s, a :: r, i + 1 => by
    show (terms g (s - 1) r)[i]? = (r[i]?).map _
    rw [terms_get g (s - 1) r i, show s - 1 - i = s - (i + 1) by omega]
theorem terms_sum : ∀ (s : Nat) (xs : List Nat), (terms ch s xs).sum = val s xs
  | _, [] => rfl
  | s, a :: r => by
    show (ch a s :: terms ch (s - 1) r).sum = _
    rw [List.sum_cons, terms_sum (s - 1) r]
    rfl
theorem iz_sum (xs : List Nat) : (iz xs).sum = ((xs.sum : Nat) : Int) := by
  induction xs with
  | nil => rfl
  | cons x xs ih =>
    show ((x : Int) :: iz xs).sum = _
    rw [List.sum_cons, ih, List.sum_cons]
    omega
/-- a cascade's number is small if its items are -/
theorem val_bits {s B : Nat} {xs : List Nat} (c : Cas s xs) (hs : s ≤ 17) (h : ∀ a ∈ xs, a < 2 ^ B) (hB : 5 ≤ B) : val s xs < 2 ^ (B * s + s) := by
  have hu : s ≤ 2 ^ B := Nat.le_trans hs (Nat.le_trans (by decide : 17 ≤ 2 ^ 5) (Nat.pow_le_pow_right (by decide) hB))
  have h1 := val_lt (u := 2 ^ B) c (fun a ha => h a (List.mem_of_getElem? ha)) hu
  have h2 := ch_le_pow (2 ^ B) s
  rw [← Nat.pow_mul] at h2
  exact Nat.lt_of_lt_of_le h1 (Nat.le_trans h2 (Nat.pow_le_pow_right (by decide) (Nat.le_add_right _ _)))
end HrM

/-! Calls of defs where nothing is being shown (no repr under way). -/
namespace Hr
open PySem PySem.Spec PyProof.Rows L2

/-- a promise that is kept wherever no repr is under way -/
structure FnG (P : Program) (w : World) (K : PySem.W.Frag) (mg : Str → Option Value) (base : Heap) (CX : CXT) (k : Nat) (f : Addr) (fd : FuncData) (ps : List Str) (sp : Sp) : Prop where
  len : ∀ vs H Q E, sp vs H Q E → vs.length = ps.length
  go : ∀ (A : Around) (around : List Env) (s : Shared) (H : Hp) (as : Args) (us : List Value) (vs : List V) (Q : VK) (E : XK),
    Room k A → A.guards = some [] → Env0 P w K mg base A around s H → BindsTo s fd as (ps.zip us) → Vals vs us → sp vs H Q E →
    codeAny (model P w) A (.call (.ref f) as) (CR CX around P w H s Q E) s

section
variable {P : Program} {w : World} {K : PySem.W.Frag} {mg : Str → Option Value} {base : Heap} {CX : CXT} {k j : Nat} {f : Addr} {fd : FuncData} {ps : List Str} {sp sp' : Sp}
theorem FnG.of (F : FnOk P w K mg base CX k f fd ps sp) : FnG P w K mg base CX k f fd ps sp :=
  ⟨F.len, fun A around s H as us vs Q E r _ e b v h => F.run A around s H as us vs Q E r e b v h⟩
theorem FnG.mono (F : FnG P w K mg base CX j f fd ps sp) (h : j ≤ k) : FnG P w K mg base CX k f fd ps sp :=
  ⟨F.len, fun A around s H as us vs Q E r => F.go A around s H as us vs Q E (r.mono h)⟩
theorem FnG.imp (F : FnG P w K mg base CX k f fd ps sp) (h : ∀ vs H Q E, sp' vs H Q E → sp vs H Q E) : FnG P w K mg base CX k f fd ps sp' :=
  ⟨fun vs H Q E q => F.len vs H Q E (h _ _ _ _ q), fun A around s H as us vs Q E r g e b v q => F.go A around s H as us vs Q E r g e b v (h _ _ _ _ q)⟩

/-- a def of the text by its body, where no repr is under way -/
theorem bodyG {x qual : Str} {st : Stmt} {N : List Str} (F : Fun K x qual st f fd) (S : FnScope N ps (defScope st)) (len : ∀ vs H Q E, sp vs H Q E → vs.length = ps.length)
    (hb : ∀ (cdv : Value) (A : Around) (around : List Env) (s : Shared) (H : Hp) (vs : List V) (Q : VK) (E : XK), Room k (A.deeper (envOfC qual (defScope st) s.heap.objs.size f cdv)) → A.guards = some [] → sp vs H Q E →
      ∃ t, PSs (cxOf CX P w K mg base N qual (defScope st) f cdv A around s H E) (defBody st) t ∧ t { nx := fun _ H' => Q .non H', rt := Q } (start N vs) H) :
    FnG P w K mg base CX (k + 1) f fd ps sp := by
  obtain ⟨oc, od, kV, doc, pm, an, cdv, ct, osl, rfl, lk, hcd⟩ := F.ex
  refine ⟨len, ?_⟩
  intro A around s H as us vs Q E r g e0 bind rv hq
  have KX : K.In s.heap := e0.mod.kin.keeps fun b o e => (e0.bs b o e).1
  have kinds : ∀ y ∈ ps.zip us, (defScope st).names.lookup y.1 = some .local ∨ ((defScope st).names.lookup y.1 = some .cell ∧ ((cellsFrom (s.heap.objs.size + 1) (defScope st).names []).lookup y.1).isSome = true) := by
    rintro ⟨n, v⟩ hy
    rcases S.par n (List.of_mem_zip hy).1 with q | q
    · exact .inl q
    · exact .inr ⟨q, PySem.W.cellsFrom_some _ _ _ (.inl q)⟩
  refine codeAny_call_function r.depth (KX _ _ lk) rfl S.co S.gen rfl (PySem.W.codeRec_of KX hcd) (bind _ _ _ _ ?_)
  refine wpAny_newFunctionEnv_cells S.kind kinds ?_
  intro env he s1 x
  subst he
  refine ⟨Heap.NoLimit.keeps (e0.mod.nolimit.keeps fun b o e => (e0.bs b o e).1) x.toInCall.keep, codeAny_func ?_⟩
  obtain ⟨t, ht, hrun⟩ := hb cdv A around s H vs Q E (r.deeper _) g hq
  have I := inv_start (CX := CX) (E := E) S r.hd e0 (len _ _ _ _ hq) rv x
  refine wpAny_mono (ht.run [] s1 (start N vs) H _ I hrun) ?_ (fun e s' hs => hs)
  intro fl s' hs
  cases fl with
  | ret u =>
    obtain ⟨v, σ', H', J, rv', q⟩ := hs
    exact ⟨v, H', J.os, J.bare, J.base, J.hok, rv', q⟩
  | next =>
    obtain ⟨σ', H', J, q⟩ := hs
    exact ⟨V.non, H', J.os, J.bare, J.base, J.hok, rfl, q⟩
  | brk => exact hs.elim fun _ ⟨_, _, q⟩ => q.elim
  | cont => exact hs.elim fun _ ⟨_, _, q⟩ => q.elim
/-- .. that lets no exception out -/
theorem okG {x qual : Str} {st : Stmt} {N : List Str} (F : Fun K x qual st f fd) (S : FnScope N ps (defScope st)) (len : ∀ vs H Q E, sp vs H Q E → vs.length = ps.length)
    (hb : ∀ (cdv : Value) (A : Around) (around : List Env) (s : Shared) (H : Hp) (vs : List V) (Q : VK) (E : XK), Room k (A.deeper (envOfC qual (defScope st) s.heap.objs.size f cdv)) → A.guards = some [] → sp vs H Q E →
      ∃ t, PSs (cxOf CX0 P w K mg base N qual (defScope st) f cdv A around s H E).nox (defBody st) t ∧ t { nx := fun _ H' => Q .non H', rt := Q } (start N vs) H) :
    FnG P w K mg base CX0 (k + 1) f fd ps sp :=
  bodyG F S len fun cdv A around s H vs Q E r g h => by
    obtain ⟨t, ht, q⟩ := hb cdv A around s H vs Q E r g h
    exact ⟨t, ht.nox, q⟩
end

section
variable {X : Cx} {CX : CXT} {k : Nat} {f : Addr} {fd : FuncData} {ps ks : List Str} {sp : Sp} {dvs : List V} {ds : List Value} {E : XK} {x : Str} {p pos : Pos} {e : Expr} {es : List Expr} {kws : List Keyword} {t tk : TA}
theorem endG {pins : List (Addr × Obj)} {σ : L2.St} {H : Hp} {s : Shared} {Q : VK} (hx : Passes CX X E) (I : Inv X pins σ H s) {r : Result} {s' : Shared} (h : CR CX X.stack X.prog X.w H s Q E r s') :
    (match r with
      | .ok (.ret u) => EP X pins σ Q u s'
      | .ok _ => False
      | .error z => X.xe z s') := by
  cases r with
  | error z => exact hx pins σ H s z s' I h
  | ok fl => cases fl with
    | ret u => exact I.after h
    | next => exact False.elim h
    | brk => exact False.elim h
    | cont => exact False.elim h
theorem pe_callG (F : FnG X.prog X.w X.K X.mg X.base CX k f fd ps sp) (hr : Room k X.A) (gg : X.A.guards = some []) (hg : Gl X x) (hm : X.mg x = some (.ref f)) (hk : PySem.W.keepIn X.K (.ref f) = true) (hb : Binds X.K fd ps ds) (hd : Vals dvs ds) (hx : Passes CX X E)
    (ha : PA X (e :: es) t) (hdb : (x == ("__debug__" : Str)) = false := by decide) (he : starEach (e :: es) X.env = (false, eval e X.env) :: starEach es X.env := by rfl) (hpl : (backTo pos (starEach es X.env)).any (·.1) = false := by rfl) :
    PE X (.Call (.Name x p) (e :: es) [] pos) (tCall sp dvs E t) := by
  constructor
  intro pins s σ H Q I h
  refine wpAny_Call_Name_kw (ld_glob I hg hm ?_ hdb)
  refine PySem.W.callWith_K (h₀ := X.base) I.ok.mod.kin hk (thn (ha.run pos pins s σ H _ I h) ?_) he hpl
  rintro us s1 ⟨vs, H1, I1, r, q⟩
  refine ⟨I1.kIn, ?_⟩
  have r2 := r.append hd
  have hl : (us ++ ds).length = ps.length := r2.length.symm.trans (F.len _ _ _ _ q)
  refine wpAny_call (codeAny_mono (F.go X.A X.stack s1 H1 ⟨us, []⟩ _ _ Q E hr gg I1.env0 (hb s1 us I1.kIn hl) r2 q) ?_)
  intro r s' hq
  have z := endG hx I1 hq
  cases r with
  | error _ => exact z
  | ok fl => cases fl <;> exact z
variable {g : List Value → List Value → List Value} {gV : List V → List V → List V}
theorem pe_callKG (F : FnG X.prog X.w X.K X.mg X.base CX k f fd ps sp) (hr : Room k X.A) (gg : X.A.guards = some []) (hg : Gl X x) (hm : X.mg x = some (.ref f)) (hk : PySem.W.keepIn X.K (.ref f) = true) (hb : KBinds X.K fd ps ks g gV) (hx : Passes CX X E)
    (ha : PA X (e :: es) t) (hkw : PK X kws tk) (hall : (backToKw pos (keywordEach kws X.env)).all (·.1.isSome) = true := by rfl) (hks : (backToKw pos (keywordEach kws X.env)).filterMap (·.1) = ks := by rfl)
    (hdb : (x == ("__debug__" : Str)) = false := by decide) (he : starEach (e :: es) X.env = (false, eval e X.env) :: starEach es X.env := by rfl)
    (hpl : ((backTo pos (starEach (e :: es) X.env)).any (·.1) || (backToKw pos (keywordEach kws X.env)).any (·.1.isNone)) = false := by rfl) :
    PE X (.Call (.Name x p) (e :: es) kws pos) (tCallK sp gV E t tk) := by
  constructor
  intro pins s σ H Q I h
  refine wpAny_Call_Name_kw (ld_glob I hg hm ?_ hdb)
  refine PySem.W.callWith_KW (h₀ := X.base) I.ok.mod.kin hk hall (thn (ha.run pos pins s σ H _ I h) ?_) hpl he
  rintro us s1 ⟨vs, H1, I1, r, q⟩
  refine thn (hkw.run pos pins s1 σ H1 _ I1 q) ?_
  rintro ws s2 ⟨zs, H2, I2, rz, q2⟩
  refine ⟨I2.kIn, ?_⟩
  rw [hks]
  have r2 := hb.rel r rz
  have hl : (g us ws).length = ps.length := r2.length.symm.trans (F.len _ _ _ _ q2)
  refine wpAny_call (codeAny_mono (F.go X.A X.stack s2 H2 ⟨us, ks.zip ws⟩ _ _ Q E hr gg I2.env0 (hb.to s2 us ws I2.kIn hl) r2 q2) ?_)
  intro r s' hq
  have z := endG hx I2 hq
  cases r with
  | error _ => exact z
  | ok fl => cases fl <;> exact z
end

section
variable {P : Program} {w : World} {K : PySem.W.Frag} {mg mb : Str → Option Value} {CX : CXT} {k : Nat} {fa a : Addr} {fd : FuncData} {x : Str} {sp : Sp} {s₁ : Shared} {vs : List Value} {ns : List Int}
/-- the call of the law from outside, from a heap in which at most the script is told -/
theorem lawG0 {H : Hp} (KX : K.In s₁.heap) (hns : s₁.heap.Ns mainGlobals mg) (hb : s₁.heap.Ns builtinsNs mb) (hbb : ∀ x : Str, x ≠ "__name__" → mb x = bootBuiltins x) (hlim : s₁.heap.NoLimit) (hg : s₁.gens = #[])
    (ha : s₁.heap.get? a = some { cls := .type "list", data := .seq vs.toArray }) (hr : Room k callerA)
    (F : ∀ base : Heap, K.In base → base.Ns mainGlobals mg → FnG P w K mg base CX k fa fd [x] sp) (hbind : ∀ (s : Shared) (u : Value), BindsTo s fd ⟨[u], []⟩ [(x, u)])
    (hO : Only H) (hok : HOk P w H s₁.heap) (hA : ∀ b, H b ≠ none → b = a) (hK : H a ≠ none → K.lookup a = none)
    (hsp : sp [.ref a] H (fun v _ => v = .bl true) fun _ _ _ => False) (hCX : ∀ e s', CX [] H s₁ (fun _ _ _ => False) e s' → False) :
    codeAny (model P w) callerA (.call (.ref fa) ⟨[.ref a], []⟩) (fun r s' => r = .ok (.ret (.bool true)) ∧ OldK s₁.heap s'.heap ∧ s'.os = s₁.os ∧ AllBare s'.gens) s₁ := by
  have untold : ∀ {b : Addr} {o : Obj}, s₁.heap.get? b = some o → (∀ xs n, o.data ≠ .seq xs n) ∨ K.lookup b ≠ none → H b = none := by
    intro b o e z
    cases q : H b with
    | none => rfl
    | some u =>
      have e' : b = a := hA b (by rw [q]; exact Option.some_ne_none u)
      subst e'
      rcases z with z | z
      · rw [ha] at e
        cases e
        exact absurd rfl (z _ _)
      · exact absurd (hK (by rw [q]; exact Option.some_ne_none u)) z
  have nsB : ∀ {b : Addr} {m : Str → Option Value}, s₁.heap.Ns b m → (hidT s₁.heap H).Ns b m := by
    rintro b m ⟨o, es, ep, e, d, r⟩
    exact ⟨o, es, ep, hidT_get e (untold e (.inl fun xs n z => by rw [d] at z; cases z)), d, r⟩
  have hKb : K.In (hidT s₁.heap H) := fun b o e => hidT_get (KX b o e) (untold (KX b o e) (.inr (by rw [e]; exact Option.some_ne_none o)))
  have hM : Mod K mg (hidT s₁.heap H) := ⟨hKb, nsB hns, ⟨mb, nsB hb, hbb⟩, hlim.elim fun mc z => ⟨mc, nsB z.1, z.2⟩⟩
  have e0 : Env0 P w K mg (hidT s₁.heap H) callerA [] s₁ H :=
    ⟨rfl, hM, fun b o e => of_hidT e, Nat.le_of_eq (hidT_size _ _), trivial, fun b hb => absurd hb List.not_mem_nil, hok, .of_eq hg⟩
  refine codeAny_mono ((F _ hKb (nsB hns)).go callerA [] s₁ H ⟨[.ref a], []⟩ [.ref a] [.ref a] _ _ hr rfl e0 (hbind s₁ (.ref a)) (.cons rfl .nil) hsp) ?_
  intro r s' h
  cases r with
  | error e => exact (hCX e s' h).elim
  | ok fl => cases fl with
    | next => exact False.elim h
    | brk => exact False.elim h
    | cont => exact False.elim h
    | ret u =>
      obtain ⟨v, H', os, bare, un, hok', r', q⟩ := h
      have q' : v = .bl true := q
      subst q'
      have r2 : u = Value.bool true := r'
      subst r2
      refine ⟨rfl, OldK.of_keep ?_, os, bare⟩
      intro b o e
      rcases hO b with z | ⟨ob, xs, z⟩
      · exact un.keep b o e z List.not_mem_nil List.not_mem_nil
      · obtain ⟨e1, _⟩ := hok b _ z
        obtain ⟨e2, _⟩ := hok' b _ (un.frzs b ob _ z)
        rw [e] at e1
        cases e1
        exact e2
theorem lawG (KX : K.In s₁.heap) (hns : s₁.heap.Ns mainGlobals mg) (hb : s₁.heap.Ns builtinsNs mb) (hbb : ∀ x : Str, x ≠ "__name__" → mb x = bootBuiltins x) (hlim : s₁.heap.NoLimit) (hg : s₁.gens = #[])
    (ha : s₁.heap.get? a = some { cls := .type "list", data := .seq vs.toArray }) (hi : IntsAre vs ns) (hl : ns.length ≤ sizeLine) (hr : Room k callerA)
    (F : ∀ base : Heap, K.In base → base.Ns mainGlobals mg → FnG P w K mg base CX k fa fd [x] sp) (hbind : ∀ (s : Shared) (u : Value), BindsTo s fd ⟨[u], []⟩ [(x, u)])
    (hsp : ∀ H : Hp, Only H → SqL K H a (ns.map V.int) → sp [.ref a] H (fun v _ => v = .bl true) fun _ _ _ => False) (hCX : ∀ H e s', CX [] H s₁ (fun _ _ _ => False) e s' → False) :
    codeAny (model P w) callerA (.call (.ref fa) ⟨[.ref a], []⟩) (fun r s' => r = .ok (.ret (.bool true)) ∧ OldK s₁.heap s'.heap ∧ s'.os = s₁.os ∧ AllBare s'.gens) s₁ := by
  have rv := vals_ints hi
  cases hk : K.lookup a with
  | some o =>
    have e := KX a o hk
    rw [ha] at e
    cases e
    have O : Only (fun _ => none) := fun _ => .inl rfl
    refine lawG0 (H := fun _ => none) KX hns hb hbb hlim hg ha hr F hbind O (fun b u z => nomatch z) (fun b z => absurd rfl z) (fun z => absurd rfl z) (hsp _ O (.inr ⟨_, vs.toArray, _, hk, rfl, rfl, rfl, ?_, ?_⟩)) (hCX _)
    · rw [List.size_toArray, hi.length]
      exact hl
    · rw [List.toList_toArray]
      exact rv
  | none =>
    have O : Only (upd (fun _ => none) a (.frz { cls := .type "list", data := .seq vs.toArray } (.lst (ns.map V.int)))) := fun b => by
      by_cases h : b = a
      · subst h
        exact .inr ⟨_, _, upd_same⟩
      · exact .inl (upd_ne h)
    refine lawG0 KX hns hb hbb hlim hg ha hr F hbind O (fun b u z => ?_) (fun b z => ?_) (fun _ => hk) (hsp _ O (.inl (.inr ⟨_, upd_same⟩))) (hCX _)
    · by_cases h : b = a
      · subst h
        rw [upd_same] at z
        cases z
        exact ⟨ha, by rw [List.length_map]; exact hl, vs, _, rv, ha⟩
      · rw [upd_ne h] at z
        cases z
    · by_cases h : b = a
      · exact h
      · exact absurd (upd_ne h) z
end

/-- what k_head leaves of a law, from the law's promise -/
theorem walkG {l : PySem.W.OpenLaw} {n k : Nat} {q : Program} {loose : List Str} {XP : (Str → Option Value) → Heap → Prop} {YP : World → Heap → Prop} {d : DefRec} {K : Params → PySem.W.Frag} {sp : PySem.W.Frag → Sp} {x : Str}
    (hn : l.most = some n) (hn2 : n ≤ sizeLine) (hdf : d.params.defaults = []) (hr : Room k callerA) (hY : ∀ (w : World) (h : Heap), YP w h → (K w.params).In h)
    (F : ∀ (w : World) (mg : Str → Option Value) (fa : Addr) (h : Heap), (K w.params).In h → h.Ns mainGlobals mg → mg d.name = some (.ref fa) →
      ∃ fd : FuncData, (∀ (s : Shared) (u : Value), BindsTo s fd ⟨[u], []⟩ [(x, u)]) ∧
        ∀ base : Heap, (K w.params).In base → base.Ns mainGlobals mg → FnG l.prog w (K w.params) mg base CX0 k fa fd [x] (sp (K w.params)))
    (hsp : ∀ (K : PySem.W.Frag) (H : Hp) (a : Addr) (ns : List Int), ns.length ≤ n → Only H → SqL K H a (ns.map V.int) → sp K [.ref a] H (fun v _ => v = .bl true) fun _ _ _ => False) :
    PySem.W.WalkO q loose XP YP l.row.toRowW d [] (fun f vs => PySem.call f vs) := by
  refine Att.attach_call hn hdf ?_
  intro w s₀ s₁ mg mb fa o pm cd doc a vs ns G Y ho hd hcd hmg hobj hints hlen hg
  have KX := hY w _ Y
  obtain ⟨fd, hb, hF⟩ := F w mg fa _ KX G.T.g hmg
  exact lawG KX G.T.g G.T.b G.T.builtins G.T.nolimit hg hobj hints (Nat.le_trans hlen hn2) hr hF hb (fun H hO hS => hsp _ H a ns hlen hO hS) fun H e s' z => z
end Hr

/-! Rules of my own: math.comb, repr of data, t[::-1] of a tuple, enumerate(tuple). -/
namespace Hr
open PySem PySem.Spec PyProof.Rows L2

section
variable {X : Cx}
/-! ### comb -/
def CComb (a b : Int) : Prop := 0 ≤ a ∧ 0 ≤ b ∧ b ≤ 9000 ∧ (PySem.W.mcComb a b).natAbs.log2 < bitsLine
def rComb : List V → Hp → VK → Prop := fun vs H Q => ∃ a b : Int, vs = [.int a, .int b] ∧ CComb a b ∧ Q (.int (PySem.W.mcComb a b)) H
theorem comb_gives {a b : Int} (t u : Tok) (h : CComb a b) : Gives (Builtin.«math.comb» ⟨[.int a t, .int b u], []⟩) (.int (PySem.W.mcComb a b)) := by
  obtain ⟨h0, h1, h2, hz⟩ := h
  have e1 : (9000 : Int) < Builtin.Math.maxSsize := by decide
  have e2 : (9000 : Int) < Builtin.Math.manyFactors := by decide
  by_cases c : b > a
  · rw [PySem.W.mcComb_above c]
    exact PySem.W.mc_run_comb0 a t b u (by omega) (by omega) c
  · have e : PySem.W.mcComb a b = Builtin.Math.fallingProduct a (min b (a - b)).toNat / Builtin.Math.fallingProduct (min b (a - b)) (min b (a - b)).toNat := if_neg c
    rw [e] at hz ⊢
    exact PySem.W.mc_run_comb a t b u (by omega) (by omega) c (by omega) (by omega) (by omega) hz
theorem cr_comb : CallR X (.builtin "math.comb") rComb := by
  intro pins s σ H vs us Q I r h
  obtain ⟨a, b, rfl, c, q⟩ := h
  obtain ⟨t, u, rfl⟩ := Vals.int2 r
  exact call_function_meets PySem.W.MGF.kind_comb PySem.W.MGF.plain_comb PySem.W.MGF.entry_comb (PySem.W.MGF.args_comb _ _) (comb_gives t u c).meets ⟨.int _, H, I.tok _, ⟨_, rfl⟩, q⟩

/-! ### repr of data -/
def rRepr (K : PySem.W.Frag) : List V → Hp → VK → Prop := fun vs H Q => ∃ (a : Addr) (d : PyData), vs = [.ref a] ∧ Dp K H (.ref a) d ∧ d.showable = true ∧ d.hasDict = false ∧ d.depth ≤ 40 ∧ d.shown.length ≤ sizeLine ∧ Q (.str d.shown) H
theorem cr_repr (gg : X.A.guards = some []) (hu : X.A.units + 64 < cLine) : CallR X (.builtin "repr") (rRepr X.K) := by
  intro pins s σ H vs us Q I r h
  obtain ⟨a, d, rfl, hd, hs, hn, hdep, hz, q⟩ := h
  obtain ⟨u, rfl, r1⟩ := vals1 r
  obtain ⟨as, rd⟩ := Dp.reads I d _ _ hd r1
  have e : u = .ref a := r1
  subst e
  exact repr_of_reads' rd hs (fun z => by rw [hn] at z; cases z) gg (by omega) (fun _ _ z => z) (fun h' t tk hk => ⟨.str _, H, I.kept (t' := tk) hk, ⟨t, rfl⟩, q⟩) hz
end

/-! ### t[::-1] -/
section
variable {prog : Program} {w : World} {A : Around} {E : Value → Shared → Prop} {s : Shared}
theorem places_back (n : Nat) : Builtin.Slice.slicePlaces ((n : Int) - 1) (-1) (-1) = n := by
  unfold Builtin.Slice.slicePlaces
  rw [if_neg (by decide)]
  by_cases h : (n : Int) - 1 > -1
  · rw [if_pos h]
    have e : ((n : Int) - 1 - -1 - 1) / (- -1) = (n : Int) - 1 := by
      have e0 : (- -1 : Int) = 1 := by decide
      rw [e0, Int.ediv_one]
      omega
    rw [e]
    omega
  · rw [if_neg h]
    omega
theorem applied_back {sl : Addr} {vs : Value} {n : Nat} {Q : Int × Int × Nat → Shared → Prop} (hs : s.heap.IsSliceOf sl .none .none vs) (ps : IsPart vs (some (-1)))
    (h : Q ((n : Int) - 1, -1, n) s) : wpAny (model prog w) A (Builtin.Slice.sliceApplied (.ref sl) (pure (n : Int))) Q E s := by
  obtain ⟨o, ho, hc, hd⟩ := id hs
  unfold Builtin.Slice.sliceApplied Builtin.Slice.sliceFields
  refine wpAny_bind (wpAny_bind (wpAny_field ho hd (x := .none) rfl (wpAny_bind (wpAny_field ho hd (x := .none) rfl (wpAny_bind (wpAny_field ho hd (x := vs) rfl (wpAny_pure ?_)))))))
  refine wpAny_bind (HT.slicePart_ ps ?_)
  show wpAny _ _ (if ((-1 : Int) == 0) = true then _ else _) _ _ s
  rw [if_neg (by decide)]
  refine wpAny_bind (HT.slicePart_ IsPart.none (wpAny_bind (HT.slicePart_ IsPart.none (wpAny_bind (wpAny_pure ?_)))))
  show wpAny _ _ (pure ((n : Int) - 1, (-1 : Int), Builtin.Slice.slicePlaces ((n : Int) - 1) (-1) (-1))) _ _ s
  rw [places_back]
  exact wpAny_pure h
theorem pick_back (xs : Array Value) : ((List.range xs.size).filterMap fun (k : Nat) => xs[((xs.size : Int) - 1 + (k : Int) * -1).toNat]?).toArray = xs.toList.reverse.toArray := by
  congr 1
  apply List.ext_getElem?
  intro i
  have e : (List.range xs.size).filterMap (fun (k : Nat) => xs[((xs.size : Int) - 1 + (k : Int) * -1).toNat]?) = (List.range xs.size).map (fun k => xs.getD (xs.size - 1 - k) .none) := by
    have gen : ∀ l : List Nat, (∀ k ∈ l, k < xs.size) → l.filterMap (fun (k : Nat) => xs[((xs.size : Int) - 1 + (k : Int) * -1).toNat]?) = l.map (fun k => xs.getD (xs.size - 1 - k) .none) := by
      intro l
      induction l with
      | nil => intro _; rfl
      | cons k l ih =>
        intro hl
        have hk' : k < xs.size := hl k List.mem_cons_self
        have e1 : ((xs.size : Int) - 1 + (k : Int) * -1).toNat = xs.size - 1 - k := by omega
        have h2 : xs.size - 1 - k < xs.size := by omega
        have e2 : xs[((xs.size : Int) - 1 + (k : Int) * -1).toNat]? = some (xs.getD (xs.size - 1 - k) .none) := by
          rw [e1]
          simp [Array.getD, h2]
        rw [List.filterMap_cons_some (f := fun (k : Nat) => xs[((xs.size : Int) - 1 + (k : Int) * -1).toNat]?) e2, ih fun j hj => hl j (List.mem_cons_of_mem _ hj)]
        rfl
    exact gen _ fun k hk => List.mem_range.mp hk
  rw [e, List.getElem?_map]
  by_cases h : i < xs.size
  · have h2 : xs.size - 1 - i < xs.size := by omega
    rw [List.getElem?_range h, List.getElem?_reverse (by simpa using h)]
    simp [Array.getD, h2]
  · rw [List.getElem?_eq_none (by simpa using h), List.getElem?_eq_none (by simpa using h)]
    rfl
theorem getItem_back {t sl : Addr} {items : Array Value} {vs : Value} {Q : Value → Shared → Prop} (ht : IsTup s.heap t items) (hs : s.heap.IsSliceOf sl .none .none vs) (ps : IsPart vs (some (-1)))
    (h : Q (.ref s.heap.objs.size) { s with heap := s.heap.push { cls := .type "tuple", data := .seq items.toList.reverse.toArray } })
    (hsz : items.size ≤ sizeLine) : wpAny (model prog w) A (getItem (.ref t) (.ref sl)) Q E s := by
  have fits : sizeOk (.seq items.toList.reverse.toArray) := by
    show items.toList.reverse.toArray.size ≤ sizeLine
    rw [List.size_toArray, List.length_reverse, Array.length_toList]
    exact hsz
  obtain ⟨o, ho, hc, hd⟩ := id hs
  have hT : s.TypeIs (.ref sl) "slice" := ⟨o, ho, hc⟩
  unfold getItem
  try with_reducible refine wpAny_holding ?_
  first | refine wpAny_bind (wpAny_pure ?_) | skip
  refine wpAny_bind (wpAny_sequenceKey ht.typeIs (by decide) ?_)
  refine wpAny_bind (wpAny_callSpecial?_slot (name := Str.ofString "__getitem__") ht.typeIs PyProof.Rows.slot_tuple_getitem
    (wpAny_call_entry PyProof.Rows.slot_tuple_getitem ht.typeIs PyProof.Rows.entry_tuple_getitem ?_ (PyProof.Rows.args_tuple_getitem _ _)))
  show wpAny _ _ (Builtin.Tuple.tupleItemsOf (.ref t) >>= _) _ _ s
  refine wpAny_bind (PyProof.Rows.tupleItemsOf_ ht (wpAny_bind (wpAny_typeOf hT ?_)))
  rw [if_pos (by decide)]
  refine wpAny_bind (applied_back hs ps ?_)
  have no : ¬ (((items.size : Int) - 1 == 0 && (-1 : Int) == 1 && items.size == items.size) = true) := by
    rw [show ((-1 : Int) == 1) = false from rfl, Bool.and_false, Bool.false_and]
    exact Bool.false_ne_true
  show wpAny _ _ (if ((items.size : Int) - 1 == 0 && (-1 : Int) == 1 && items.size == items.size) = true then _ else _) _ _ s
  rw [if_neg no, pick_back]
  first
    | exact wpAny_bind (m := Builtin.Tuple.tupleExact _) (wpAny_newObj_type (wpAny_pure ⟨_, rfl, wpAny_pure h⟩) fits)
    | exact wpAny_bind (m := Builtin.Tuple.tupleExact _) (wpAny_newObj_type (wpAny_bind (wpAny_pure (wpAny_pure ⟨_, rfl, wpAny_pure h⟩))) fits)
    | exact wpAny_bind (wpAny_bind (m := Builtin.Tuple.tupleExact _) (wpAny_newObj_type (wpAny_pure (wpAny_pure ⟨_, rfl, wpAny_pure h⟩)) fits))
    | exact wpAny_bind (wpAny_bind (m := Builtin.Tuple.tupleExact _) (wpAny_newObj_type (wpAny_pure ⟨_, rfl, wpAny_pure h⟩) fits))
end
def tRevT (K : PySem.W.Frag) (te : TE) : TE := fun σ H Q => te σ H fun x H1 => ∃ a xs, x = .ref a ∧ SqT K H1 a xs ∧ ∀ p, H1 p = none → Q (.ref p) (upd H1 p (.tup xs.reverse))
theorem pe_revT {X : Cx} {e : Expr} {te : TE} {k : Nat} {p1 p2 p3 pos : Pos} (he : PE X e te) : PE X (.Subscript e (.Slice none none (some (.UnaryOp .USub (.Constant (.int 1) k p1) p2)) p3) pos) (tRevT X.K te) := by
  constructor
  intro pins s σ H Q I h
  refine Subscript_ (thn (he.run pins s σ H _ I h) ?_)
  rintro v s1 ⟨x, H1, I1, r1, a, xs, rfl, hx, q⟩
  cases r1
  have hst : PO X (some (.UnaryOp .USub (.Constant (.int 1) k p1) p2)) (tPart (tUn (rU fun i => .int (-i)) (tC (.int 1)))) := po_some (pe_un un_neg pe_int)
  refine wpAny_Slice (thn (po_none.run pins s1 σ H1 (fun o H2 => o = none ∧ H2 = H1) I1 ⟨rfl, rfl⟩) ?_)
  rintro vl s2 ⟨l, H2, I2, pl, rfl, rfl⟩
  cases pl
  refine thn (po_none.run pins s2 σ H2 (fun o H3 => o = none ∧ H3 = H2) I2 ⟨rfl, rfl⟩) ?_
  rintro vu s3 ⟨u, H3, I3, pu, rfl, rfl⟩
  cases pu
  refine thn (hst.run pins s3 σ H3 (fun o H4 => o = some (-1) ∧ H4 = H3) I3 ⟨1, rfl, -1, rfl, rfl, rfl⟩) ?_
  rintro vs s4 ⟨o, H4, I4, ps, rfl, rfl⟩
  have I5 : Inv X pins σ H4 { s4 with heap := s4.heap.push { cls := .type "slice", data := .fields #[.none, .none, vs] } } := I4.kept (t' := s4.toks) fun b ob q => Heap.get?_push_of_some _ q
  obtain ⟨its, r, ht, hz⟩ := I5.tuple hx
  have hlen := r.length
  show wpAny (model X.prog X.w) X.A (subscriptTail e (.Slice none none (some (.UnaryOp .USub (.Constant (.int 1) k p1) p2)) p3) (.ref a) (.ref s4.heap.objs.size)) (EP X pins σ Q) X.xe _
  refine tail_any (ops := [.ref a, .ref s4.heap.objs.size]) ht.typeIs (PyProof.Rows.slot_tuple_getitem.lookup) ?_ (by with_unfolding_all rfl)
  refine getItem_back ht (Heap.IsSliceOf.new _ .none .none vs) ps ?_ (by rw [List.size_toArray]; omega)
  refine ⟨.ref _, _, I5.laid (t' := s4.toks) (o := .tup xs.reverse) (fun b ob q => Heap.get?_push_of_some _ q) (Nat.le_refl _) ?_, rfl, q _ (I5.hok.fresh (Nat.le_refl _))⟩
  exact ⟨by rw [List.length_reverse]; exact hz, _, r.reverse, IsTup.new _ _⟩

/-! ### enumerate(tuple) -/
theorem enum_new1 {v : Value} {o : Obj} {H : Heap → Prop} (B : Begins v o H) :
    Meets (Builtin.«enumerate.__new__» ⟨[.type "enumerate", v], []⟩) (fun _ R s => H s.heap ∧
      R (.ok (.ret (.ref (s.heap.push o).objs.size))) { s with heap := (s.heap.push o).push { cls := .type "enumerate", data := .fields #[.none, .bool false, .ref s.heap.objs.size, rawInt 0, .none, .none] } }) :=
  .of_wp fun prog w A R s h => by
    obtain ⟨hp, g, d, tk, os⟩ := s
    obtain ⟨h1, h⟩ := h
    have sub := sub_enumerate
    have go : ∀ {A' : Around} {E : Value → Shared → Prop} {Q : Value → Shared → Prop}, Q (.ref hp.objs.size) ⟨hp.push o, g, d, tk, os⟩ → wpAny (model prog w) A' (pyIter v) Q E ⟨hp, g, d, tk, os⟩ :=
      fun q => B.iter prog w _ _ ⟨hp, g, d, tk, os⟩ _ h1 q
    wp_walk using go
    refine wpAny_stack_any fun st => wpAny_pure ?_
    split
    · rename_i c _ _ _ _ _
      cases (c == Value.type "enumerate") <;> (wp_walk using go; exact ⟨_, rfl, h⟩)
    · wp_walk using go
      exact ⟨_, rfl, h⟩
theorem enum_begins1 {prog : Program} {w : World} {A : Around} {E : Value → Shared → Prop} {s : Shared} {v : Value} {o : Obj} {H : Heap → Prop} {Q : Value → Shared → Prop} (B : Begins v o H) (h1 : H s.heap)
    (h : ∀ h', IsEnum h' (s.heap.objs.size + 1) s.heap.objs.size 0 .none → h'.get? s.heap.objs.size = some o → (∀ b o, s.heap.get? b = some o → h'.get? b = some o) → Q (.ref (s.heap.objs.size + 1)) { s with heap := h' }) :
    wpAny (model prog w) A (call (.type "enumerate") [v]) Q E s := by
  have hz : (s.heap.push o).objs.size = s.heap.objs.size + 1 := Heap.size_push ..
  refine callType_new F.called_enumerate (by decide) (F.typeCall_enumerate_1 _) (F.newCall_enumerate_1 _) (fun obj => F.args_object_init_2 obj _) F.entry_enumerate_new (enum_new1 B) ⟨h1, ?_⟩
  show _ ∧ _
  rw [hz]
  have he : IsEnum ((s.heap.push o).push { cls := .type "enumerate", data := .fields #[.none, .bool false, .ref s.heap.objs.size, rawInt 0, .none, .none] }) (s.heap.objs.size + 1) s.heap.objs.size 0 .none := by
    have z := Heap.get?_push_size (s.heap.push o) (o := { cls := .type "enumerate", data := .fields #[.none, .bool false, .ref s.heap.objs.size, rawInt 0, .none, .none] }) rfl
    rw [hz] at z
    exact z
  exact ⟨⟨_, he, rfl⟩, h _ he (Heap.get?_push_of_some _ (Heap.get?_push_size _ B.free)) fun b ob x => Heap.get?_push_of_some _ (Heap.get?_push_of_some _ x)⟩

/-- the tuple at a: each item in a new pair -/
def Itn (K : PySem.W.Frag) (a : Addr) : It where
  go i H := ∃ (xs : List V) (x : V), SqT K H a xs ∧ xs[i]? = some x
  yld i H v H' := ∃ T x, v = .ref T ∧ H T = none ∧ H' = upd H T (.tup [.int (i : Nat), x]) ∧ ∀ xs, SqT K H a xs → xs[i]? = some x
  stop i H := ∃ xs : List V, SqT K H a xs ∧ xs.length = i
theorem turn_enumT {P : Program} {w : World} {K : PySem.W.Frag} {elts : List Expr} {kk : Nat} {tpos : Pos} (a e it : Addr) :
    Turn P w K (.Tuple elts kk tpos) (Itn K a) [e, it] e (fun i h => (∃ old, IsEnum h e it ((i : Nat) : Int) old) ∧ h.IsTupleIter it a i ∧ e ≠ it ∧ a ≠ it ∧ e ≠ a) where
  mem := List.mem_cons_self
  obj := by
    rintro i h ⟨⟨old, he⟩, ⟨o, ho, hc, hd⟩, _⟩ b hb
    rcases List.mem_cons.mp hb with rfl | hb
    · exact ⟨_, he, fun v q => nomatch q⟩
    · cases List.mem_singleton.mp hb
      exact ⟨o, ho, fun v q => by rw [hd] at q; cases q⟩
  keep := by
    rintro i h h' ⟨⟨old, he⟩, hi, hr⟩ k
    exact ⟨⟨old, k e List.mem_cons_self _ he⟩, hi.at fun o q => k it (List.mem_cons_of_mem _ List.mem_cons_self) o q, hr⟩
  item := by
    intro X hP hw hK hc i pins s σ H E I hf st hg
    subst hP hw hK
    obtain ⟨⟨old, he⟩, hit, hne, hai, hea⟩ := st
    obtain ⟨xs, x, hq, hx⟩ := hg
    obtain ⟨its, rv, p, hz⟩ := I.tuple hq
    obtain ⟨u, hu, ru⟩ := rv.get hx
    have hlt : i < its.toArray.size := by
      rw [List.size_toArray]
      exact (List.getElem?_eq_some_iff.mp hu).1
    have hel : e < s.heap.objs.size := Heap.lt_size he
    have hil : it < s.heap.objs.size := hit.elim fun _ z => Heap.lt_size z.1
    have D := Draws.tuple (prog := X.prog) (w := X.w) (A := X.A.in1) (I.ok.hd hc) it a hai its.toArray
    refine wpAny_pyNext_enum_itemD D he ⟨hit, p⟩ hlt hne (fun z => ?_) fun y h' tk hy ho hst hT hsz hk => ?_
    · rcases List.mem_cons.mp z with z | z
      · exact hne z
      · exact hea (List.mem_singleton.mp z)
    have ey : y = u := by
      have e1 : its.toArray[i]? = some u := by simpa using hu
      exact Option.some.inj (hy.symm.trans e1)
    subst ey
    refine ⟨_, rfl, wpAny_letOwnedTupleGo_enum (s := { s with heap := h', toks := tk + 1 }) ho fun h'' he' sb => ?_⟩
    have hT2 : h''.get? s.heap.objs.size = some { cls := .type "tuple", data := .seq #[.int i tk, y] } := (sb.2 _ (Nat.ne_of_gt hel)).trans hT
    have new : ObjOk X.prog X.w (upd H s.heap.objs.size (.tup [.int (i : Nat), x])) h'' s.heap.objs.size (.tup [.int (i : Nat), x]) :=
      ⟨by show 2 ≤ sizeLine; decide, [.int i tk, y], .cons ⟨_, rfl⟩ (.cons ru .nil), ⟨_, hT2, rfl, _, rfl⟩⟩
    have I1 : Inv X pins σ (upd H s.heap.objs.size (.tup [.int (i : Nat), x])) { s with heap := h'', toks := tk + 1 } :=
      I.turnedNew (ch := [e, it]) (fun b ob hb q => (sb.2 b (fun z => hb (z ▸ List.mem_cons_self))).trans
        (hk b ob (fun z => hb (z ▸ List.mem_cons_self)) (fun z => hb (z ▸ List.mem_cons_of_mem _ List.mem_cons_self)) q)) hf (Nat.le_refl _) new
    refine ⟨.ref s.heap.objs.size, _, I1, rfl, ⟨_, x, rfl, I.hok.fresh (Nat.le_refl _), rfl, fun ys hy => ?_⟩, ⟨⟨y, ?_⟩, hst.1.at fun o q => (sb.2 it (Ne.symm hne)).trans q, hne, hai, hea⟩, fun b hb => ?_⟩
    · rw [I.tuple_inj hy hq]
      exact hx
    · have e1 : ((i + 1 : Nat) : Int) = (i : Int) + 1 := by omega
      rw [e1]
      exact he'
    · have hb' : b < s.heap.objs.size := by
        rcases List.mem_cons.mp hb with rfl | hb
        · exact hel
        · cases List.mem_singleton.mp hb
          exact hil
      rw [upd_ne (Nat.ne_of_lt hb')]
      exact (hf b hb).1
  done := by
    intro X hP hw hK hc i pins s σ H E I hf st hg
    subst hP hw hK
    obtain ⟨⟨old, he⟩, hit, hne, hai, hea⟩ := st
    obtain ⟨xs, hq, hx⟩ := hg
    obtain ⟨its, rv, p, hz⟩ := I.tuple hq
    obtain ⟨f0, f1, f2, f3, f4, f5⟩ := hf it (List.mem_cons_of_mem _ List.mem_cons_self)
    have hl : i = its.toArray.size := by
      rw [List.size_toArray, ← rv.length]
      exact hx.symm
    subst hl
    have D := Draws.tuple (prog := X.prog) (w := X.w) (A := X.A.in1) (I.ok.hd hc) it a hai its.toArray
    exact wpAny_pyNext_enum_endD D he ⟨hit, p⟩ fun h' eb => ⟨rfl, I.turned (t' := s.toks) (fun b o hb q => eb b o hb q) f0 f1 f3 f4 f5⟩
  self := by
    rintro A i s Q E ⟨⟨_, he⟩, _⟩ h
    exact wpAny_pyIter_enum he h
def iEnumT (K : PySem.W.Frag) (ta : TA) : TI := fun σ H R => ta σ H fun vs H1 => ∃ a xs, vs = [.ref a] ∧ SqT K H1 a xs ∧ R (Itn K a) H1
theorem pi_enumT {X : Cx} {e : Expr} {ta : TA} {p pos tpos : Pos} {elts : List Expr} {kk : Nat} (hg : Gl X "enumerate") (hm : X.mg "enumerate" = none) (ha : PA X [e] ta) (hs : starEach [e] X.env = [(false, eval e X.env)] := by rfl) :
    PI X (.Tuple elts kk tpos) (.Call (.Name "enumerate" p) [e] [] pos) (iEnumT X.K ta) := by
  constructor
  intro pins s σ H R I h
  refine Call_ (ld_blt I hg hm boot_enumerate (PyProof.Rows.callWith_type1 (thn (ha.run pos pins s σ H _ I h) ?_) hs rfl))
  rintro us s1 ⟨vs, H1, I1, r1, a, xs, rfl, hq, q⟩
  obtain ⟨u, rfl, r⟩ := vals1 r1
  have eu : u = .ref a := r
  subst eu
  obtain ⟨its, rv, p', hz⟩ := I1.tuple hq
  have hal : a < s1.heap.objs.size := p'.lt
  refine enum_begins1 (begins_tuple a its.toArray) p' fun h' he hit hk => wpAny_pyIter_enum he ?_
  have I2 : Inv X pins σ H1 { s1 with heap := h' } := I1.kept (t' := s1.toks) hk
  refine ⟨s1.heap.objs.size + 1, [s1.heap.objs.size + 1, s1.heap.objs.size], _, _, H1, rfl, I2, turn_enumT a (s1.heap.objs.size + 1) s1.heap.objs.size,
    ⟨⟨.none, he⟩, ⟨_, hit, rfl, rfl⟩, Nat.succ_ne_self _, Nat.ne_of_lt hal, Nat.ne_of_gt (Nat.lt_succ_of_lt hal)⟩, fun b hb => ?_, q⟩
  have hle : s1.heap.objs.size ≤ b := by
    rcases List.mem_cons.mp hb with rfl | hb
    · exact Nat.le_add_right _ _
    · cases List.mem_singleton.mp hb
      exact Nat.le_refl _
  exact I1.fpOk hle (I1.hok.fresh hle)
theorem walk_enumT {K : PySem.W.Frag} {a : Addr} {xs : List V} : Walk (Itn K a) xs.length (fun H => SqT K H a xs) (YPair (fun i => some (.int (i : Nat))) (fun i => xs[i]?)) where
  goes := fun i H hi h => ⟨xs, xs[i], h, List.getElem?_eq_getElem hi⟩
  stops := fun H h => ⟨xs, h, rfl⟩
  yields := by
    rintro i H v H' hi h ⟨T, x, rfl, nT, rfl, f⟩
    exact ⟨T, _, x, rfl, nT, rfl, rfl, f xs h⟩
end Hr

namespace Hr
open PySem PySem.Spec PyProof.Rows L2
section
variable {X : Cx} {CX : CXT} {k : Nat} {f : Addr} {fd : FuncData} {ps ks : List Str} {sp : Sp} {E : XK} {x : Str} {p pos : Pos} {kws : List Keyword} {tk : TA} {g : List Value → List Value → List Value} {gV : List V → List V → List V}
/-- a call whose arguments are all passed by name -/
def tCallN (sp : Sp) (gV : List V → List V → List V) (E : XK) (tk : TA) : TE := fun σ H Q => tk σ H fun zs H2 => sp (gV [] zs) H2 Q E
theorem pe_callK0G (F : FnG X.prog X.w X.K X.mg X.base CX k f fd ps sp) (hr : Room k X.A) (gg : X.A.guards = some []) (hg : Gl X x) (hm : X.mg x = some (.ref f)) (hk : PySem.W.keepIn X.K (.ref f) = true) (hb : KBinds X.K fd ps ks g gV) (hx : Passes CX X E)
    (hkw : PK X kws tk) (hall : (backToKw pos (keywordEach kws X.env)).all (·.1.isSome) = true := by rfl) (hks : (backToKw pos (keywordEach kws X.env)).filterMap (·.1) = ks := by rfl)
    (hdb : (x == ("__debug__" : Str)) = false := by decide)
    (hpl : ((backTo pos (starEach [] X.env)).any (·.1) || (backToKw pos (keywordEach kws X.env)).any (·.1.isNone)) = false := by rfl) :
    PE X (.Call (.Name x p) [] kws pos) (tCallN sp gV E tk) := by
  constructor
  intro pins s σ H Q I h
  refine wpAny_Call_Name_kw (ld_glob I hg hm ?_ hdb)
  refine PySem.W.callWith_KW0 (h₀ := X.base) I.ok.mod.kin hk hall (thn (hkw.run pos pins s σ H _ I h) ?_) hpl
  rintro ws s2 ⟨zs, H2, I2, rz, q2⟩
  refine ⟨I2.kIn, ?_⟩
  rw [hks]
  have r2 := hb.rel (vs := []) (us := []) .nil rz
  have hl : (g [] ws).length = ps.length := r2.length.symm.trans (F.len _ _ _ _ q2)
  refine wpAny_call (codeAny_mono (F.go X.A X.stack s2 H2 ⟨[], ks.zip ws⟩ _ _ Q E hr gg I2.env0 (hb.to s2 [] ws I2.kIn hl) r2 q2) ?_)
  intro r s' hq
  have z := endG hx I2 hq
  cases r with
  | error _ => exact z
  | ok fl => cases fl <;> exact z
theorem pe_callK0 (F : FnOk X.prog X.w X.K X.mg X.base CX k f fd ps sp) (hr : Room k X.A) (hg : Gl X x) (hm : X.mg x = some (.ref f)) (hk : PySem.W.keepIn X.K (.ref f) = true) (hb : KBinds X.K fd ps ks g gV) (hx : Passes CX X E)
    (hkw : PK X kws tk) (hall : (backToKw pos (keywordEach kws X.env)).all (·.1.isSome) = true := by rfl) (hks : (backToKw pos (keywordEach kws X.env)).filterMap (·.1) = ks := by rfl)
    (hdb : (x == ("__debug__" : Str)) = false := by decide)
    (hpl : ((backTo pos (starEach [] X.env)).any (·.1) || (backToKw pos (keywordEach kws X.env)).any (·.1.isNone)) = false := by rfl) :
    PE X (.Call (.Name x p) [] kws pos) (tCallN sp gV E tk) := by
  constructor
  intro pins s σ H Q I h
  refine wpAny_Call_Name_kw (ld_glob I hg hm ?_ hdb)
  refine PySem.W.callWith_KW0 (h₀ := X.base) I.ok.mod.kin hk hall (thn (hkw.run pos pins s σ H _ I h) ?_) hpl
  rintro ws s2 ⟨zs, H2, I2, rz, q2⟩
  refine ⟨I2.kIn, ?_⟩
  rw [hks]
  exact run_fnk F hr hb hx I2 (vs := []) (us := []) .nil rz q2
end
/-- two arguments by name, the second one first -/
def sw2 {α : Type} (us ws : List α) : List α := match us, ws with
  | [], [a, b] => [b, a]
  | _, _ => []
theorem sw2_rel {vs : List V} {us : List Value} {zs : List V} {ws : List Value} (r : Vals vs us) (q : Vals zs ws) : Vals (sw2 vs zs) (sw2 us ws) := by
  cases r with
  | cons _ _ => exact .nil
  | nil =>
    cases q with
    | nil => exact .nil
    | cons q1 q =>
      cases q with
      | nil => exact .nil
      | cons q2 q =>
        cases q with
        | nil => exact .cons q2 (.cons q1 .nil)
        | cons _ _ => exact .nil
theorem sw2_binds {K : PySem.W.Frag} {x qual : Str} {st : Stmt} {f : Addr} {fd : FuncData} {p1 p2 : Str} (F : Fun K x qual st f fd)
    (h : ∀ (kV doc pm : Value) (an : Option Addr) (cdv ct a b : Value), bindArgs (PySem.W.fnOf x qual (defArgs st) (defBody st) (defScope st) .none kV doc pm an cdv ct) ⟨[], [(p2, a), (p1, b)]⟩ = pure [(p1, b), (p2, a)]) :
    KBinds K fd [p1, p2] [p2, p1] sw2 sw2 := by
  obtain ⟨oc, od, kV, doc, pm, an, cdv, ct, osl, rfl, lk, hcd⟩ := F.ex
  refine ⟨fun s us ws _ hl => ?_, sw2_rel⟩
  match us, ws, hl with
  | [], [a, b], _ => exact .of_eq (h kV doc pm an cdv ct a b)
  | _ :: _, _, hl => exact absurd hl (by intro z; cases z)
  | [], [], hl => exact absurd hl (by intro z; cases z)
  | [], [_], hl => exact absurd hl (by intro z; cases z)
  | [], _ :: _ :: _ :: _, hl => exact absurd hl (by intro z; cases z)
end Hr
namespace Hr
open PySem PySem.Spec PyProof.Rows L2 Evl
section
variable {K : PySem.W.Frag} {σ : L2.St} {H : Hp}
theorem Cw.more {H H1 H2 : Hp} {f : Nat → Bool} {v : Nat → V} {D : Addr} {i : Nat} (p : Cw H f v D i H1) (e : Ex H1 H2) : Cw H f v D i H2 := ⟨p.1, p.2.1.trans e, e D _ p.2.2⟩
/-- a comprehension over anything that is walked -/
theorem el_lcW {J : It} {n : Nat} {G : Hp → Prop} {Y : Nat → Hp → V → Hp → Prop} {wi : TI} {g : TG} {tt : TT} {te : TE} {vs : List Nat} (wk : Walk J n G Y) (f : Nat → Bool) (v : Nat → V) (hz : n ≤ 40000)
    (hi : ∀ H1, Ex H H1 → ∀ R : It → Hp → Prop, (∀ H2, Ex H1 H2 → R J H2) → wi σ H1 R) (hG : ∀ H1, Ex H H1 → G H1) (hY : ∀ i H1 x H2, Y i H1 x H2 → Ex H1 H2)
    (hs : ∀ i x H1 H2, i < n → Ex H H1 → Y i H1 x H2 → ∃ σ2, (∀ k : L2.St → Hp → Prop, k σ2 H2 → g x (wipe σ vs) H2 k) ∧ wipe σ2 vs = wipe σ vs ∧ EvT tt σ2 H2 (f i) ∧ (f i = true → Ev te σ2 H2 (v i))) :
    EvL (tLc wi g tt te vs) σ H (given n f v) := fun H0 e Q q => hi H0 e _ fun H1 e1 D hD => by
  refine lc_it wk (fun i H2 => Cw H1 f v D i H2) ⟨hD, Ex.new hD, upd_same⟩ (fun i H2 _ p => hG H2 ((e.trans e1).trans p.2.1)) (fun i x H2 H3 hi p y => ?_) (fun H2 p => q D H2 (fresh_back e1 p.1) (e1.trans p.2.1) p.2.2)
  have e3 := hY i H2 x H3 y
  obtain ⟨σ2, hk, hw, ht, he⟩ := hs i x H2 H3 hi ((e.trans e1).trans p.2.1) y
  refine hk _ ⟨hw, ?_⟩
  obtain ⟨p1, p2, p3⟩ := Hr.Cw.more p e3
  refine ht H3 (Ex.refl H3) _ fun H4 e4 => ?_
  cases hf : f i with
  | true =>
    show te σ2 H4 _
    refine he hf H4 e4 _ fun H5 e5 => ⟨given i f v, e5 D _ (e4 D _ p3), sz_lt (by have := given_len i f v; omega), p1, Ex.mut ((p2.trans e4).trans e5) p1, ?_⟩
    rw [given_yes hf]
    exact upd_same
  | false =>
    refine ⟨p1, p2.trans e4, ?_⟩
    rw [given_no hf]
    exact e4 D _ p3
theorem given_all (n : Nat) (v : Nat → V) : given n (fun _ => true) v = (List.range n).map v := by
  unfold given
  rw [List.filter_eq_self.mpr fun _ _ => rfl]
theorem given_none {n : Nat} {f : Nat → Bool} (v : Nat → V) (h : ∀ i, i < n → f i = false) : given n f v = [] := by
  unfold given
  rw [List.filter_eq_nil_iff.mpr fun i hi => by rw [h i (List.mem_range.mp hi)]; exact Bool.false_ne_true]
  rfl
theorem et_yes : EvT tYes σ H true := fun H1 _ _ q => q H1 (Ex.refl H1)
end
end Hr
namespace Hr
open PySem PySem.Spec PyProof.Rows L2 Evl
section
variable {σ : L2.St} {H : Hp} {Q : VK} {te ta tb : TE} {tr : TA} {D : Ends} {r : List V → Hp → VK → Prop} {q : R2} {tu tw : TS} {t : TT} {i : Nat}
theorem r_ret (h : te σ H D.rt) : tRet te D σ H := h
theorem r_cb (h : tr σ H fun vs H1 => r vs H1 Q) : tCB r tr σ H Q := h
theorem r_arg {Q : List V → Hp → Prop} (h : te σ H fun x H1 => tr σ H1 fun xs H2 => Q (x :: xs) H2) : tCons te tr σ H Q := h
theorem r_seq (h : tu { D with nx := tw D } σ H) : tSeq tu tw D σ H := h
theorem r_set (h : te σ H fun x H1 => D.nx (σ.set i (some x)) H1) : tAsg te (gName i) D σ H := h
theorem r_if (h : t σ H fun b H1 => if b = true then tu D σ H1 else tw D σ H1) : tIfS t tu tw D σ H := h
theorem r_op (h : ta σ H fun x H1 => tb σ H1 fun y H2 => q x y H2 Q) : tOp q ta tb σ H Q := h
theorem r_test {Q : Bool → Hp → Prop} (h : te σ H fun x H' => ∃ k, x = .bl k ∧ Q k H') : tTest te σ H Q := h
theorem r_B {Q : Bool → Hp → Prop} (h : te σ H fun x H' => ∃ k, x = .bl k ∧ Q k H') : tB te σ H Q := h
end
end Hr
namespace Hr
open PySem L2
theorem r_yes {σ : L2.St} {H : Hp} {Q : Bool → Hp → Prop} (h : Q true H) : tYes σ H Q := h
end Hr

/-! The deck of drawn numbers: a dict with a list, and what else is known of the heap. -/
namespace Hr
open PySem PySem.Spec PyProof.Rows L2 Evl
def kC : Key := .inr "cells"
def kM : Key := .inr "mixed"
def kD : Key := .inr "draws"
def deckD (c : Addr) (m n : Int) : List (Key × V) := [(kC, .ref c), (kM, .int m), (kD, .int n)]
theorem kCM : ¬ kC = kM := by decide +kernel
theorem kCD : ¬ kC = kD := by decide +kernel
theorem kMD : ¬ kM = kD := by decide +kernel
section
variable {c : Addr} {m n n' : Int}
theorem deck_cells : valV (deckD c m n) kC = some (.ref c) := valV_pos rfl
theorem deck_mixed : valV (deckD c m n) kM = some (.int m) := (valV_neg kCM).trans (valV_pos rfl)
theorem deck_draws : valV (deckD c m n) kD = some (.int n) := (valV_neg kCD).trans ((valV_neg kMD).trans (valV_pos rfl))
theorem deck_put : putK (deckD c m n) kD (.int n') = deckD c m n' := by
  unfold putK deckD
  rw [if_pos (by simp)]
  simp [kCD, kMD]
theorem deck_made : mergeK [] [(kC, .ref c), (kM, .int m), (kD, .int n)] = deckD c m n := by
  have h1 : ¬ kM = kC := fun e => kCM e.symm
  have h2 : ¬ kD = kC := fun e => kCD e.symm
  have h3 : ¬ kD = kM := fun e => kMD e.symm
  unfold mergeK
  simp [putK, deckD, kCM, kCD, kMD, h1, h2, h3]
end
structure DkC (G : Hp) (d c : Addr) (cells : List Int) (m n : Int) (H : Hp) : Prop where
  ex : Ex G H
  gd : G d = none
  gc : G c = none
  hd : H d = some (.dK (deckD c m n))
  hc : H c = some (.lst (cells.map V.int))
  len : cells.length ≤ 63
  m0 : 0 ≤ m
  m1 : m < 2147483648
/-- a deck at d; beside it all of G stands -/
def Dk (G : Hp) (d : Addr) (H : Hp) : Prop := ∃ c cells m n, DkC G d c cells m n H
section
variable {G G' H H' : Hp} {d c p : Addr} {cells : List Int} {m n n' : Int} {o : HO}
theorem DkC.ne (k : DkC G d c cells m n H) : d ≠ c := ne_of k.hd k.hc (by intro z; cases z)
theorem DkC.more (k : DkC G d c cells m n H) (e : Ex H H') : DkC G d c cells m n H' := ⟨k.ex.trans e, k.gd, k.gc, e _ _ k.hd, e _ _ k.hc, k.len, k.m0, k.m1⟩
theorem DkC.new (k : DkC G d c cells m n H) (h : H p = none) : DkC G d c cells m n (upd H p o) := k.more (Ex.new h)
theorem DkC.draw (k : DkC G d c cells m n H) : DkC G d c cells m n' (upd H d (.dK (deckD c m n'))) :=
  ⟨Ex.mut k.ex k.gd, k.gd, k.gc, upd_same, by rw [upd_ne k.ne.symm]; exact k.hc, k.len, k.m0, k.m1⟩
theorem DkC.cell {xs : List Int} (k : DkC G d c cells m n H) (h : xs.length ≤ 63) : DkC G d c xs m n (upd H c (.lst (xs.map V.int))) :=
  ⟨Ex.mut k.ex k.gc, k.gd, k.gc, by rw [upd_ne k.ne]; exact k.hd, upd_same, h, k.m0, k.m1⟩
theorem DkC.grow (k : DkC G d c cells m n H) (h : H p = none) (e : Ex H H') (hp : H' p = some o) : DkC (upd G p o) d c cells m n H' := by
  have hd : d ≠ p := ne_of_none k.hd h
  have hc : c ≠ p := ne_of_none k.hc h
  refine ⟨fun b u z => ?_, by rw [upd_ne hd]; exact k.gd, by rw [upd_ne hc]; exact k.gc, e _ _ k.hd, e _ _ k.hc, k.len, k.m0, k.m1⟩
  by_cases hb : b = p
  · subst hb
    rw [upd_same] at z
    cases z
    exact hp
  · rw [upd_ne hb] at z
    exact e _ _ (k.ex _ _ z)
theorem Dk.ex (k : Dk G d H) : Ex G H := k.elim fun _ ⟨_, _, _, z⟩ => z.ex
theorem Dk.more (k : Dk G d H) (e : Ex H H') : Dk G d H' := let ⟨c, x, m, n, z⟩ := k; ⟨c, x, m, n, z.more e⟩
theorem Dk.new (k : Dk G d H) (h : H p = none) : Dk G d (upd H p o) := k.more (Ex.new h)
theorem Dk.grow (k : Dk G d H) (h : H p = none) (e : Ex H H') (hp : H' p = some o) : Dk (upd G p o) d H' := let ⟨c, x, m, n, z⟩ := k; ⟨c, x, m, n, z.grow h e hp⟩
theorem Dk.free (k : Dk G d H) (h : H p = none) : G p = none := fresh_back k.ex h
theorem Dk.gex (k : Dk G d H) (h : H p = none) : Ex G (upd G p o) := Ex.new (k.free h)
theorem Dk.get (k : Dk G d H) {b : Addr} {u : HO} (h : G b = some u) : H b = some u := k.ex _ _ h
theorem DkC.gcells (k : DkC G d c cells m n H) : DGet H d (.str "cells") (some (.ref c)) := by
  have z := DGet.k (k := kC) k.hd
  rw [deck_cells] at z
  exact z
theorem DkC.gmixed (k : DkC G d c cells m n H) : DGet H d (.str "mixed") (some (.int m)) := by
  have z := DGet.k (k := kM) k.hd
  rw [deck_mixed] at z
  exact z
theorem DkC.gdraws (k : DkC G d c cells m n H) : DGet H d (.str "draws") (some (.int n)) := by
  have z := DGet.k (k := kD) k.hd
  rw [deck_draws] at z
  exact z
theorem DkC.pdraws (k : DkC G d c cells m n H) : DPut H d (.str "draws") (.int n') (upd H d (.dK (deckD c m n'))) := by
  have z := DPut.k (k := kD) (v := .int n') k.hd (by show 3 < sizeLine; decide)
  rw [deck_put] at z
  exact z
end
/-! a list of ints as data -/
def izD (xs : List Int) : PyData := .list (xs.map PyData.int)
section
variable {K : PySem.W.Frag} {H : Hp} {a : Addr}
theorem ints_dp : ∀ xs : List Int, DpAll K H (xs.map V.int) (xs.map PyData.int)
  | [] => .nil
  | x :: xs => .cons (.int x) (ints_dp xs)
theorem izD_dp {xs : List Int} (h : SqL K H a (xs.map V.int)) : Dp K H (.ref a) (izD xs) := .lst h (ints_dp xs)
theorem ints_lay : ∀ xs : List Int, PyData.canLayAll0 (xs.map PyData.int) = true
  | [] => by simp [PyData.canLayAll0]
  | x :: xs => by
    have ih := ints_lay xs
    simp only [List.map_cons, PyData.canLayAll0, PyData.canLay0, Bool.true_and]
    exact ih
theorem ints_depth : ∀ xs : List Int, PyData.depthAll (xs.map PyData.int) ≤ 1
  | [] => by simp [PyData.depthAll]
  | x :: xs => by
    have ih := ints_depth xs
    simp only [List.map_cons, PyData.depthAll, PyData.depth]
    exact Nat.max_le.mpr ⟨by decide, ih⟩
theorem izD_shaped (xs : List Int) : SeqAt.shaped (izD xs) = true := by
  unfold SeqAt.shaped izD
  have h1 := ints_lay xs
  have h2 := ints_depth xs
  simp only [PyData.canLay0, PyData.depth, Bool.and_eq_true, decide_eq_true_eq]
  exact ⟨h1, decide_eq_true (by omega)⟩
theorem izD_eqv_nil (xs : List Int) : PyData.eqv (izD xs) (izD []) = xs.isEmpty := by
  cases xs with
  | nil => simp [izD, PyData.eqv, PyData.eqvAll]
  | cons x xs => simp [izD, PyData.eqv, PyData.eqvAll]
end
end Hr
namespace Hr
open PySem PySem.Spec PyProof.Rows L2 Evl
section
variable {G G' H H' : Hp} {d c f : Addr} {cells : List Int} {m n : Int} {o o' : HO}
/-- a known object of one's own is changed -/
theorem Dk.set (k : Dk G d H) (h : G f = some o) : Dk (upd G f o') d (upd H f o') := by
  obtain ⟨c, x, m, n, z⟩ := k
  have fd : d ≠ f := fun e => by subst e; rw [z.gd] at h; cases h
  have fc : c ≠ f := fun e => by subst e; rw [z.gc] at h; cases h
  refine ⟨c, x, m, n, ?_, by rw [upd_ne fd]; exact z.gd, by rw [upd_ne fc]; exact z.gc, by rw [upd_ne fd]; exact z.hd, by rw [upd_ne fc]; exact z.hc, z.len, z.m0, z.m1⟩
  intro b u e
  by_cases hb : b = f
  · subst hb
    rw [upd_same] at e ⊢
    exact e
  · rw [upd_ne hb] at e ⊢
    exact z.ex _ _ e
theorem Dk.made (k : Dk G d H) (h : H f = none) : Dk (upd G f o) d (upd H f o) := k.grow h (Ex.new h) upd_same
end
end Hr

/-! Lower and upper numbers go together; upper numbers of sums. -/
namespace HrM
def gL (δ a i : Nat) : Nat := ch (a - δ) (i - 1)
def gU (δ a i : Nat) : Nat := ch (a + δ) (i + 1)
def sL (δ s : Nat) (xs : List Nat) : Nat := (terms (gL δ) s xs).sum
def sU (δ s : Nat) (xs : List Nat) : Nat := (terms (gU δ) s xs).sum
theorem sL_cons (δ s a : Nat) (r : List Nat) : sL δ (s + 1) (a :: r) = ch (a - δ) s + sL δ s r := by
  show (gL δ a (s + 1) :: terms (gL δ) s r).sum = _
  rw [List.sum_cons]
  rfl
theorem sU_cons (δ s a : Nat) (r : List Nat) : sU δ (s + 1) (a :: r) = ch (a + δ) (s + 2) + sU δ s r := by
  show (gU δ a (s + 1) :: terms (gU δ) s r).sum = _
  rw [List.sum_cons]
  rfl
theorem val_cons (s a : Nat) (r : List Nat) : val (s + 1) (a :: r) = ch a (s + 1) + val s r := rfl
theorem sL_le {δ : Nat} (hδ : δ ≤ 1) : ∀ {xs : List Nat} {s u : Nat}, Cas s xs → (∀ a, xs[0]? = some a → a < u) → sL δ s xs ≤ ch (u - δ) (s - 1)
  | [], _, _, _, _ => Nat.zero_le _
  | a :: r, s, u, c, hu => by
    obtain ⟨t, rfl⟩ : ∃ t, s = t + 1 := ⟨s - 1, by have := c.pos; omega⟩
    have hd := c.head
    have ha := hu a rfl
    rw [sL_cons, Nat.add_sub_cancel]
    cases t with
    | zero =>
      have hr : r = [] := List.eq_nil_of_length_eq_zero (Nat.le_zero.mp c.tail.len)
      subst hr
      rw [ch_zero, ch_zero]
      exact Nat.le_refl 1
    | succ t =>
      have ih := sL_le hδ (u := a) c.tail fun b hb => c.fall 0 a b rfl (by simpa using hb)
      rw [Nat.add_sub_cancel] at ih
      have e := ch_succ (a - δ) t
      have m := ch_mono (t + 1) (show a - δ + 1 ≤ u - δ by omega)
      omega
theorem sU_lt {δ : Nat} : ∀ {ys : List Nat} {s u : Nat}, Cas s ys → (∀ a, ys[0]? = some a → a < u) → s + 1 ≤ u + δ → sU δ s ys < ch (u + δ) (s + 1)
  | [], s, u, _, _, h => ch_pos h
  | b :: r, s, u, c, hu, h => by
    obtain ⟨t, rfl⟩ : ∃ t, s = t + 1 := ⟨s - 1, by have := c.pos; omega⟩
    have hd := c.head
    have hb := hu b rfl
    have ih := sU_lt (δ := δ) (u := b) c.tail (fun x hx => c.fall 0 b x rfl (by simpa using hx)) (by omega)
    rw [sU_cons]
    have e := ch_succ (b + δ) (t + 1)
    have m := ch_mono (t + 1 + 1) (show b + δ + 1 ≤ u + δ by omega)
    have e2 : t + 1 + 1 = t + 2 := rfl
    rw [e2] at *
    omega
/-- the two numbers go together -/
theorem gal {δ : Nat} (hδ : δ ≤ 1) : ∀ {xs ys : List Nat} {s : Nat}, Cas (s + 1) xs → Cas s ys → (sL δ (s + 1) xs ≤ val s ys ↔ val (s + 1) xs ≤ sU δ s ys)
  | [], _, _, _, _ => ⟨fun _ => Nat.zero_le _, fun _ => Nat.zero_le _⟩
  | a :: r, [], s, c, _ => by
    have hd := c.head
    have h1 := ch_pos (n := a - δ) (k := s) (by omega)
    have h2 := ch_pos (n := a) (k := s + 1) hd
    rw [sL_cons, val_cons]
    show ch (a - δ) s + sL δ s r ≤ 0 ↔ ch a (s + 1) + val s r ≤ 0
    omega
  | a :: r, b :: q, s, c, d => by
    obtain ⟨t, rfl⟩ : ∃ t, s = t + 1 := ⟨s - 1, by have := d.pos; omega⟩
    have ha := c.head
    have hb := d.head
    rw [sL_cons, val_cons, val_cons, sU_cons]
    rcases Nat.lt_trichotomy (a - δ) b with h | h | h
    · have h1 := sL_le hδ (u := a) c.tail fun x hx => c.fall 0 a x rfl (by simpa using hx)
      rw [Nat.add_sub_cancel] at h1
      have e := ch_succ (a - δ) t
      have m := ch_mono (t + 1) (show a - δ + 1 ≤ b by omega)
      have h2 := val_lt (u := a + 1) c (fun x hx => by cases hx; omega) (by omega)
      rw [val_cons] at h2
      have m2 := ch_mono (t + 2) (show a + 1 ≤ b + δ by omega)
      constructor
      · intro _
        have e2 : t + 1 + 1 = t + 2 := rfl
        rw [e2] at *
        omega
      · intro _
        omega
    · have ih := gal hδ c.tail d.tail
      have e : a = b + δ := by omega
      rw [h]
      subst e
      constructor
      · intro z
        have := ih.mp (by omega)
        have e2 : t + 1 + 1 = t + 2 := rfl
        rw [e2]
        omega
      · intro z
        have e2 : t + 1 + 1 = t + 2 := rfl
        rw [e2] at z
        have := ih.mpr (by omega)
        omega
    · have h1 := val_lt (u := b + 1) d (fun x hx => by cases hx; omega) (by omega)
      rw [val_cons] at h1
      have m := ch_mono (t + 1) (show b + 1 ≤ a - δ by omega)
      have h2 := sU_lt (δ := δ) (u := b + 1) d (fun x hx => by cases hx; omega) (by omega)
      rw [sU_cons] at h2
      have m2 := ch_mono (t + 2) (show b + 1 + δ ≤ a by omega)
      have e2 : t + 1 + 1 = t + 2 := rfl
      rw [e2] at *
      constructor <;> intro z <;> omega

/-! ### there is a cascade -/
theorem step_at (p : Nat → Prop) (lo : Nat) (h0 : p lo) : ∀ k : Nat, ¬ p (lo + k) → ∃ a, p a ∧ ¬ p (a + 1)
  | 0, h => absurd h0 h
  | k + 1, h => by
    by_cases q : p (lo + k)
    · exact ⟨lo + k, q, h⟩
    · exact step_at p lo h0 k q
theorem ch_more {s : Nat} (hs : 1 ≤ s) : ∀ l : Nat, l + 1 ≤ ch (s + l) s
  | 0 => by
    show 1 ≤ ch s s
    rw [ch_self]
    exact Nat.le_refl 1
  | l + 1 => by
    have ih := ch_more hs l
    obtain ⟨t, rfl⟩ : ∃ t, s = t + 1 := ⟨s - 1, by omega⟩
    have h1 := ch_pos (n := t + 1 + l) (k := t) (by omega)
    have e := ch_succ (t + 1 + l) t
    have e2 : t + 1 + (l + 1) = t + 1 + l + 1 := by omega
    rw [e2, e]
    omega
theorem top_ex {s n : Nat} (hs : 1 ≤ s) (hn : 1 ≤ n) : ∃ a, ch a s ≤ n ∧ n < ch (a + 1) s := by
  obtain ⟨a, h1, h2⟩ := step_at (fun a => ch a s ≤ n) s (by rw [ch_self]; exact hn) n (by have := ch_more hs n; omega)
  exact ⟨a, h1, Nat.lt_of_not_le h2⟩
theorem ex_cas : ∀ (s n : Nat), 1 ≤ s ∨ n = 0 → ∃ xs, Cas s xs ∧ val s xs = n
  | 0, n, h => by
    have : n = 0 := by omega
    subst this
    exact ⟨[], Cas.nil 0, rfl⟩
  | s + 1, n, _ => by
    by_cases hn : n = 0
    · subst hn
      exact ⟨[], Cas.nil _, rfl⟩
    obtain ⟨a, h1, h2⟩ := top_ex (s := s + 1) (n := n) (by omega) (by omega)
    have h3 : n - ch a (s + 1) < ch a s := by rw [ch_succ] at h2; omega
    have hsa : s + 1 ≤ a := by
      by_cases z : s + 1 ≤ a
      · exact z
      · have := ch_mono (s + 1) (show a + 1 ≤ s + 1 by omega)
        rw [ch_self] at this
        omega
    obtain ⟨xs, c, v⟩ := ex_cas s (n - ch a (s + 1)) (by
      by_cases z : s = 0
      · subst z
        rw [ch_zero] at h3
        omega
      · omega)
    refine ⟨a :: xs, ⟨by have := c.len; simpa using this, fun i x h => ?_, fun i x y h h' => ?_⟩, by rw [val_cons, v]; omega⟩
    · cases i with
      | zero => cases h; omega
      | succ i => have := c.low i x (by simpa using h); omega
    · cases i with
      | zero =>
        cases h
        have hy : xs[0]? = some y := by simpa using h'
        by_cases z : y < a
        · exact z
        · have g1 : ch y s ≤ val s xs := by
            cases xs with
            | nil => simp at hy
            | cons w ws =>
              cases hy
              show ch y s ≤ ch y s + val (s - 1) ws
              omega
          have g2 := ch_mono s (show a ≤ y by omega)
          omega
      | succ i => exact c.fall i x y (by simpa using h) (by simpa using h')
noncomputable def cc (s n : Nat) : List Nat := if h : 1 ≤ s ∨ n = 0 then (ex_cas s n h).choose else []
theorem cc_cas {s n : Nat} (h : 1 ≤ s) : Cas s (cc s n) ∧ val s (cc s n) = n := by
  unfold cc
  rw [dif_pos (Or.inl h)]
  exact (ex_cas s n (Or.inl h)).choose_spec
theorem cc_eq {s n : Nat} {xs : List Nat} (h : 1 ≤ s) (c : Cas s xs) (v : val s xs = n) : xs = cc s n := cas_uniq c (cc_cas h).1 (v.trans (cc_cas h).2.symm)
noncomputable def Lf (δ s n : Nat) : Nat := sL δ s (cc s n)
noncomputable def Uf (δ s n : Nat) : Nat := sU δ s (cc s n)
theorem Gal {δ s m n : Nat} (hδ : δ ≤ 1) (hs : 1 ≤ s) : Lf δ (s + 1) m ≤ n ↔ m ≤ Uf δ s n := by
  have h1 := cc_cas (s := s + 1) (n := m) (by omega)
  have h2 := cc_cas (s := s) (n := n) hs
  have g := gal hδ h1.1 h2.1
  rw [h1.2, h2.2] at g
  exact g
theorem Uf_mono {δ s a b : Nat} (hδ : δ ≤ 1) (hs : 1 ≤ s) (h : a ≤ b) : Uf δ s a ≤ Uf δ s b :=
  (Gal hδ hs).mp (Nat.le_trans ((Gal hδ hs).mpr (Nat.le_refl _)) h)
theorem Lf_one (δ n : Nat) : Lf δ 1 n = if n = 0 then 0 else 1 := by
  by_cases h : n = 0
  · subst h
    have e := cc_eq (s := 1) (n := 0) (xs := []) (by decide) (Cas.nil 1) rfl
    unfold Lf
    rw [← e]
    rfl
  · have c : Cas 1 [n] := (Cas.nil 1).snoc (by simp) (by simp; omega) fun a h => nomatch h
    have v : val 1 [n] = n := by
      show ch n 1 + 0 = n
      rw [ch_one]
      omega
    have e := cc_eq (s := 1) (n := n) (by decide) c v
    unfold Lf
    rw [← e, if_neg h, sL_cons, ch_zero]
    rfl
theorem Lf_mono {δ s a b : Nat} (hδ : δ ≤ 1) (hs : 1 ≤ s) (h : a ≤ b) : Lf δ s a ≤ Lf δ s b := by
  by_cases h1 : s = 1
  · subst h1
    rw [Lf_one, Lf_one]
    split <;> split <;> omega
  · obtain ⟨t, rfl⟩ : ∃ t, s = t + 1 := ⟨s - 1, by omega⟩
    exact (Gal hδ (by omega)).mpr (Nat.le_trans h ((Gal hδ (by omega)).mp (Nat.le_refl _)))
end HrM

/-! Lower numbers of sets of a sum are at most the sum of the lower numbers. -/
namespace HrM
/-! rows of steps, by their first sums; `f l` is the sum of all l -/
def MinR (f : Nat → Nat) (l : Nat) : Prop := ∀ x y, x + y ≤ l → f x + f y ≤ f (x + y)
def MaxR (f : Nat → Nat) (l : Nat) : Prop := ∀ x y, x + y ≤ l → f (x + y) + f (l - y) ≤ f l + f x
def EndR (f : Nat → Nat) (l : Nat) (g : Nat → Nat) (m : Nat) : Prop := ∀ u, u ≤ l → u ≤ m → f l + g (m - u) ≤ g m + f (l - u)
def HeadR (f : Nat → Nat) (l : Nat) (g : Nat → Nat) (m : Nat) : Prop := ∀ y, y ≤ l → y ≤ m → f y ≤ g y
def cat (f : Nat → Nat) (l : Nat) (g : Nat → Nat) (n : Nat) : Nat := if n ≤ l then f n else f l + g (n - l)
theorem cat_lo {f g : Nat → Nat} {l n : Nat} (h : n ≤ l) : cat f l g n = f n := if_pos h
theorem cat_hi {f g : Nat → Nat} {l n : Nat} (g0 : g 0 = 0) (h : l ≤ n) : cat f l g n = f l + g (n - l) := by
  unfold cat
  split
  · have : n = l := by omega
    subst this
    rw [Nat.sub_self, g0]
    rfl
  · rfl
theorem cat_min {f g : Nat → Nat} {α β : Nat} (f0 : f 0 = 0) (g0 : g 0 = 0) (mA : MinR f α) (xA : MaxR f α) (mB : MinR g β) (d : HeadR f α g β) : MinR (cat f α g) (α + β) := by
  have gt : ∀ x y, x + y ≤ α + β → α < x → cat f α g x + cat f α g y ≤ cat f α g (x + y) := by
    intro x y h hx
    rw [cat_hi g0 (Nat.le_of_lt hx), cat_hi g0 (show α ≤ x + y by omega)]
    by_cases hy : y ≤ α
    · rw [cat_lo hy]
      have h1 := d y hy (by omega)
      have h2 := mB (x - α) y (by omega)
      rw [show x - α + y = x + y - α by omega] at h2
      omega
    · rw [cat_hi g0 (show α ≤ y by omega)]
      have h1 := d α (Nat.le_refl _) (by omega)
      have h2 := mB α (y - α) (by omega)
      have h3 := mB (x - α) y (by omega)
      rw [show α + (y - α) = y by omega] at h2
      rw [show x - α + y = x + y - α by omega] at h3
      omega
  intro x y h
  by_cases hx : α < x
  · exact gt x y h hx
  by_cases hy : α < y
  · have := gt y x (by omega) hy
    rw [Nat.add_comm y x] at this
    omega
  rw [cat_lo (show x ≤ α by omega), cat_lo (show y ≤ α by omega)]
  by_cases hxy : x + y ≤ α
  · rw [cat_lo hxy]
    exact mA x y hxy
  · rw [cat_hi g0 (show α ≤ x + y by omega)]
    have h1 := xA (x + y - α) (α - y) (by omega)
    have h2 := d (x + y - α) (by omega) (by omega)
    rw [show x + y - α + (α - y) = x by omega, show α - (α - y) = y by omega] at h1
    omega
theorem cat_max {f g : Nat → Nat} {α β : Nat} (f0 : f 0 = 0) (g0 : g 0 = 0) (xA : MaxR f α) (mB : MinR g β) (xB : MaxR g β) (c : EndR f α g β) : MaxR (cat f α g) (α + β) := by
  intro x y h
  rw [cat_hi g0 (show α ≤ α + β by omega), Nat.add_sub_cancel_left]
  by_cases hx : α < x
  · rw [cat_hi g0 (show α ≤ x by omega), cat_hi g0 (show α ≤ x + y by omega), cat_hi g0 (show α ≤ α + β - y by omega)]
    have h1 := xB (x - α) y (by omega)
    rw [show x - α + y = x + y - α by omega] at h1
    rw [show α + β - y - α = β - y by omega]
    omega
  rw [cat_lo (show x ≤ α by omega)]
  by_cases hxy : x + y ≤ α
  · rw [cat_lo hxy]
    by_cases hy : y ≤ β
    · rw [cat_hi g0 (show α ≤ α + β - y by omega), show α + β - y - α = β - y by omega]
      have h1 := xA x y hxy
      have h2 := c y (by omega) hy
      omega
    · rw [cat_lo (show α + β - y ≤ α by omega)]
      have h1 := xA (x + β) (y - β) (by omega)
      have h2 := xA x β (by omega)
      have h3 := c β (by omega) (Nat.le_refl _)
      rw [Nat.sub_self, g0] at h3
      rw [show x + β + (y - β) = x + y by omega, show α - (y - β) = α + β - y by omega] at h1
      omega
  · rw [cat_hi g0 (show α ≤ x + y by omega)]
    by_cases hy : y ≤ β
    · rw [cat_hi g0 (show α ≤ α + β - y by omega), show α + β - y - α = β - y by omega]
      have h1 := c (α - x) (by omega) (by omega)
      have h2 := mB (x + y - α) (β - y) (by omega)
      rw [show x + y - α + (β - y) = β - (α - x) by omega] at h2
      rw [show α - (α - x) = x by omega] at h1
      omega
    · rw [cat_lo (show α + β - y ≤ α by omega)]
      have h1 := xA x (α + β - y - x) (by omega)
      have h2 := c (α + β - y - x) (by omega) (by omega)
      rw [show x + (α + β - y - x) = α + β - y by omega] at h1
      rw [show β - (α + β - y - x) = x + y - α by omega] at h2
      omega
theorem cat_end {f' f g : Nat → Nat} {α' α β : Nat} (f0 : f 0 = 0) (g0 : g 0 = 0) (hu : ∀ w, w ≤ β → w ≤ α' → w ≤ α) (xA : MaxR f α) (mB : MinR g β) (c : EndR f α g β) (c' : EndR f' α' f α) (d : HeadR f α g β) : EndR (cat f' α' f) (α' + α) (cat f α g) (α + β) := by
  intro u h1 h2
  rw [cat_hi f0 (show α' ≤ α' + α by omega), cat_hi g0 (show α ≤ α + β by omega), Nat.add_sub_cancel_left, Nat.add_sub_cancel_left]
  by_cases ha : u ≤ α
  · rw [cat_hi f0 (show α' ≤ α' + α - u by omega), show α' + α - u - α' = α - u by omega]
    by_cases hb : u ≤ β
    · rw [cat_hi g0 (show α ≤ α + β - u by omega), show α + β - u - α = β - u by omega]
      have := c u ha hb
      omega
    · rw [cat_lo (show α + β - u ≤ α by omega)]
      have k1 := xA (α - u) β (by omega)
      have k2 := c β (by omega) (Nat.le_refl _)
      rw [Nat.sub_self, g0] at k2
      rw [show α - u + β = α + β - u by omega] at k1
      omega
  · rw [cat_lo (show α' + α - u ≤ α' by omega)]
    have hw := hu (u - α) (by omega) (by omega)
    have k1 := c' (u - α) (by omega) hw
    have k2 := c (u - α) hw (by omega)
    rw [show α' - (u - α) = α' + α - u by omega] at k1
    by_cases hb : u ≤ β
    · rw [cat_hi g0 (show α ≤ α + β - u by omega), show α + β - u - α = β - u by omega]
      have k3 := mB (β - u) α (by omega)
      have k4 := d α (Nat.le_refl _) (by omega)
      rw [show β - u + α = β - (u - α) by omega] at k3
      omega
    · rw [cat_lo (show α + β - u ≤ α by omega)]
      have k3 := d (α + β - u) (by omega) (by omega)
      rw [show β - (u - α) = α + β - u by omega] at k2
      omega
theorem cat_head {f' f g : Nat → Nat} {α' α β : Nat} (f0 : f 0 = 0) (g0 : g 0 = 0) (hu : ∀ w, w ≤ β → w ≤ α' → w ≤ α) (mA : MinR f α) (xA' : MaxR f' α') (c' : EndR f' α' f α) (d : HeadR f α g β) (d' : HeadR f' α' f α) : HeadR (cat f' α' f) (α' + α) (cat f α g) (α + β) := by
  intro y h1 h2
  by_cases ha : y ≤ α
  · rw [cat_lo ha]
    by_cases hb : y ≤ α'
    · rw [cat_lo hb]
      exact d' y hb ha
    · rw [cat_hi f0 (show α' ≤ y by omega)]
      have k1 := d' α' (Nat.le_refl _) (by omega)
      have k2 := mA α' (y - α') (by omega)
      rw [show α' + (y - α') = y by omega] at k2
      omega
  · rw [cat_hi g0 (show α ≤ y by omega)]
    have hw := hu (y - α) (by omega) (by omega)
    have k1 := d' (y - α) (by omega) hw
    have k2 := d (y - α) hw (by omega)
    by_cases hb : y ≤ α'
    · rw [cat_lo hb]
      have k3 := xA' (y - α) α (by omega)
      have k4 := c' α (by omega) (Nat.le_refl _)
      rw [Nat.sub_self, f0] at k4
      rw [show y - α + α = y by omega] at k3
      omega
    · rw [cat_hi f0 (show α' ≤ y by omega)]
      have k3 := c' (α' + α - y) (by omega) (by omega)
      rw [show α - (α' + α - y) = y - α' by omega, show α' - (α' + α - y) = y - α by omega] at k3
      omega
def pS : Nat → Nat → Nat → Nat
  | a, 0, n => if n = 0 then 0 else a
  | 0, _ + 1, _ => 0
  | a + 1, j + 1, n => cat (pS a (j + 1)) (ch a (j + 1)) (pS a j) n
theorem pS_one (a n : Nat) : pS a 0 n = if n = 0 then 0 else a := by cases a <;> rfl
theorem pS_none : ∀ j n : Nat, pS 0 j n = 0
  | 0, n => by rw [pS_one]; split <;> rfl
  | _ + 1, _ => rfl
theorem pS_cat (a j : Nat) : pS (a + 1) (j + 1) = cat (pS a (j + 1)) (ch a (j + 1)) (pS a j) := rfl
theorem pS_zero : ∀ a j : Nat, pS a j 0 = 0
  | a, 0 => by rw [pS_one]; rfl
  | 0, _ + 1 => rfl
  | a + 1, j + 1 => by rw [pS_cat, cat_lo (Nat.zero_le _)]; exact pS_zero a (j + 1)
theorem pS_all : ∀ a j : Nat, pS a j (ch a j) = ch a (j + 1)
  | a, 0 => by rw [pS_one, ch_zero, ch_one]; rfl
  | 0, _ + 1 => rfl
  | a + 1, j + 1 => by
    rw [pS_cat, ch_succ, cat_hi (pS_zero a j) (by omega), pS_all a (j + 1), show ch a j + ch a (j + 1) - ch a (j + 1) = ch a j by omega, pS_all a j, ch_succ a (j + 1)]
    omega
theorem ch_mid (a j w : Nat) (h1 : w ≤ ch a j) (h2 : w ≤ ch a (j + 2)) : w ≤ ch a (j + 1) := by
  have e1 := ch_mul a j
  have e2 := ch_mul a (j + 1)
  by_cases h : j + 1 ≤ a - j
  · have : ch a j * (j + 1) ≤ ch a (j + 1) * (j + 1) := by
      rw [e1]
      exact Nat.mul_le_mul_left _ h
    have := Nat.le_of_mul_le_mul_right this (by omega)
    omega
  · have : ch a (j + 2) * (j + 2) ≤ ch a (j + 1) * (j + 2) := by
      have e3 : j + 1 + 1 = j + 2 := rfl
      rw [e3] at e2
      rw [e2]
      exact Nat.mul_le_mul_left _ (by omega)
    have := Nat.le_of_mul_le_mul_right this (by omega)
    omega
theorem pS_rows : ∀ a : Nat, (∀ j, MinR (pS a j) (ch a j)) ∧ (∀ j, MaxR (pS a j) (ch a j)) ∧ (∀ j, EndR (pS a (j + 1)) (ch a (j + 1)) (pS a j) (ch a j)) ∧ (∀ j, HeadR (pS a (j + 1)) (ch a (j + 1)) (pS a j) (ch a j))
  | 0 => by
    refine ⟨fun j x y _ => ?_, fun j x y _ => ?_, fun j u _ _ => ?_, fun j y _ _ => ?_⟩ <;> simp only [pS_none] <;> omega
  | a + 1 => by
    obtain ⟨m, x, c, d⟩ := pS_rows a
    have z := pS_zero a
    refine ⟨fun j => ?_, fun j => ?_, fun j => ?_, fun j => ?_⟩
    · cases j with
      | zero =>
        intro x y h
        rw [ch_zero] at h
        rw [pS_one, pS_one, pS_one]
        split <;> split <;> split <;> omega
      | succ j =>
        rw [pS_cat, ch_succ, Nat.add_comm (ch a j)]
        exact cat_min (z _) (z _) (m _) (x _) (m _) (d _)
    · cases j with
      | zero =>
        intro x y h
        rw [ch_zero] at h ⊢
        rw [pS_one, pS_one, pS_one, pS_one]
        split <;> split <;> split <;> split <;> omega
      | succ j =>
        rw [pS_cat, ch_succ, Nat.add_comm (ch a j)]
        exact cat_max (z _) (z _) (x _) (m _) (x _) (c _)
    · cases j with
      | zero =>
        intro u h1 h2
        have e := pS_all (a + 1) 1
        rw [ch_zero] at h2 ⊢
        rw [pS_one, pS_one, e, ch_succ a 1, ch_one]
        rw [ch_one] at h1 e ⊢
        by_cases hu : u = 0
        · subst hu
          rw [Nat.sub_zero, Nat.sub_zero, e, ch_succ a 1, ch_one]
          simp only [Nat.one_ne_zero, if_false]
          omega
        · have : u = 1 := by omega
          subst this
          have e2 := pS_all a 1
          rw [ch_one] at e2
          rw [Nat.add_sub_cancel, show pS (a + 1) 1 a = pS a 1 a from cat_lo (by rw [ch_one]; exact Nat.le_refl _), e2]
          simp only [Nat.sub_self, Nat.one_ne_zero, if_true, if_false]
          omega
      | succ j =>
        rw [pS_cat, pS_cat, ch_succ, ch_succ, Nat.add_comm (ch a (j + 1)), Nat.add_comm (ch a j)]
        exact cat_end (z _) (z _) (fun w h1 h2 => ch_mid a j w h1 h2) (x _) (m _) (c _) (c _) (d _)
    · cases j with
      | zero =>
        intro y h1 h2
        rw [ch_zero] at h2
        by_cases hy : y = 0
        · subst hy
          rw [pS_zero, pS_zero]
          exact Nat.le_refl 0
        · have : y = 1 := by omega
          subst this
          rw [pS_one (a + 1)]
          simp only [Nat.one_ne_zero, if_false]
          by_cases ha : 1 ≤ ch a 1
          · have k := d 0 1 ha (by rw [ch_zero]; exact Nat.le_refl 1)
            rw [pS_one] at k
            simp only [Nat.one_ne_zero, if_false] at k
            rw [show pS (a + 1) 1 1 = pS a 1 1 from cat_lo ha]
            have k' : pS a 1 1 ≤ a := k
            omega
          · rw [show pS (a + 1) 1 1 = pS a 1 (ch a 1) + pS a 0 (1 - ch a 1) from cat_hi (z 0) (show ch a 1 ≤ 1 by omega), pS_all, pS_one]
            rw [ch_one] at ha
            have : a = 0 := by omega
            subst this
            decide
      | succ j =>
        rw [pS_cat, pS_cat, ch_succ, ch_succ, Nat.add_comm (ch a (j + 1)), Nat.add_comm (ch a j)]
        exact cat_head (z _) (z _) (fun w h1 h2 => ch_mid a j w h1 h2) (m _) (x _) (c _) (d _) (d _)
theorem val_zero {s : Nat} {xs : List Nat} (c : Cas s xs) (h : val s xs = 0) : xs = [] := by
  cases xs with
  | nil => rfl
  | cons x r =>
    obtain ⟨t, rfl⟩ : ∃ t, s = t + 1 := ⟨s - 1, by have := c.pos; omega⟩
    have := ch_pos c.head
    rw [val_cons] at h
    omega
/-- the first sums are the upper numbers -/
theorem pS_up : ∀ (a s : Nat) (xs : List Nat), 1 ≤ s → Cas s xs → val s xs ≤ ch a s → pS a s (val s xs) = sU 0 s xs
  | a, s, [], _, _, _ => pS_zero a s
  | 0, s, x :: r, hs, c, h => by
    obtain ⟨t, rfl⟩ : ∃ t, s = t + 1 := ⟨s - 1, by omega⟩
    have := ch_pos c.head
    rw [val_cons, ch_none] at h
    omega
  | a + 1, s, x :: r, hs, c, h => by
    obtain ⟨t, rfl⟩ : ∃ t, s = t + 1 := ⟨s - 1, by omega⟩
    by_cases hv : val (t + 1) (x :: r) ≤ ch a (t + 1)
    · rw [pS_cat, cat_lo hv]
      exact pS_up a (t + 1) (x :: r) hs c hv
    have hx : a ≤ x := by
      by_cases z : a ≤ x
      · exact z
      · have := val_lt (u := a) c (fun y hy => by cases hy; omega) (by have := c.head; omega)
        omega
    rw [pS_cat, cat_hi (pS_zero a t) (by omega), pS_all, sU_cons]
    rw [val_cons] at h hv ⊢
    by_cases e : x = a
    · subst e
      rw [Nat.add_sub_cancel_left]
      have ht : 1 ≤ t := by
        cases t with
        | zero =>
          have hr : r = [] := List.eq_nil_of_length_eq_zero (Nat.le_zero.mp c.tail.len)
          subst hr
          exact absurd (Nat.le_refl _) hv
        | succ t => omega
      rw [ch_succ] at h
      rw [pS_up x t r ht c.tail (by omega)]
      rfl
    · have h3 := ch_mono (t + 1) (show a + 1 ≤ x by omega)
      have h4 : val t r = 0 := by omega
      have hr := val_zero c.tail h4
      subst hr
      have h5 : ch x (t + 1) = ch (a + 1) (t + 1) := by rw [h4] at h; omega
      have h6 : x = a + 1 := by
        by_cases z : a + 2 ≤ x
        · exfalso
          have g1 := ch_mono (t + 1) z
          have g2 := ch_succ (a + 1) t
          have g3 := ch_pos (n := a + 1) (k := t) (by
            by_cases y : t ≤ a + 1
            · exact y
            · have q := ch_lt (n := a + 1) (k := t + 1) (by omega)
              have := ch_pos c.head
              omega)
          have e2 : a + 1 + 1 = a + 2 := rfl
          rw [e2] at *
          omega
        · omega
      subst h6
      rw [h4, show ch (a + 1) (t + 1) + 0 - ch a (t + 1) = ch a t by rw [ch_succ]; omega, pS_all]
      show _ = ch (a + 1) (t + 1 + 1) + 0
      rw [ch_succ]
      omega
theorem Uf_pS {a s n : Nat} (hs : 1 ≤ s) (h : n ≤ ch a s) : pS a s n = Uf 0 s n := by
  have c := cc_cas (s := s) (n := n) hs
  have := pS_up a s (cc s n) hs c.1 (by rw [c.2]; exact h)
  rw [c.2] at this
  exact this
theorem Uf_add {s x y : Nat} (hs : 1 ≤ s) : Uf 0 s x + Uf 0 s y ≤ Uf 0 s (x + y) := by
  have hb := ch_more hs (x + y)
  have k := (pS_rows (s + (x + y))).1 s x y (by omega)
  rw [Uf_pS hs (by omega), Uf_pS hs (by omega), Uf_pS hs (by omega)] at k
  exact k
theorem Lf_add {s x y : Nat} (hs : 1 ≤ s) : Lf 0 s (x + y) ≤ Lf 0 s x + Lf 0 s y := by
  obtain ⟨t, rfl⟩ : ∃ t, s = t + 1 := ⟨s - 1, by omega⟩
  by_cases ht : t = 0
  · subst ht
    rw [Lf_one, Lf_one, Lf_one]
    split <;> split <;> split <;> omega
  · have ht : 1 ≤ t := by omega
    rw [Gal (by decide) ht]
    have h1 := (Gal (δ := 0) (m := x) (by decide) ht).mp (Nat.le_refl _)
    have h2 := (Gal (δ := 0) (m := y) (by decide) ht).mp (Nat.le_refl _)
    exact Nat.le_trans (Nat.add_le_add h1 h2) (Uf_add ht)
end HrM

/-! Tables of code objects beside a deck. -/
namespace Hr
open PySem PySem.Spec PyProof.Rows L2 Evl LamX
/-! ### a deck beside tables -/
/-- no table is told -/
def NT (G : Hp) : Prop := ∀ b o, G b = some o → ∀ ps, o ≠ .tbl ps
def nt (G : Hp) : Hp := fun b => match G b with
  | some (.tbl _) => none
  | o => o
theorem nt_NT (G : Hp) : NT (nt G) := fun b o h ps z => by
  subst z
  unfold nt at h
  split at h
  · cases h
  · rename_i k
    exact k ps h
theorem nt_ex (G : Hp) : Ex (nt G) G := fun b o h => by
  unfold nt at h
  split at h
  · cases h
  · exact h
theorem nt_at {G : Hp} {b : Addr} {o : HO} (h : G b = some o) (n : ∀ ps, o ≠ .tbl ps) : nt G b = some o := by
  unfold nt
  rw [h]
  cases o with
  | tbl ps => exact absurd rfl (n ps)
  | _ => rfl
theorem nt_none {G : Hp} {b : Addr} (h : G b = none) : nt G b = none := by
  unfold nt
  rw [h]
section
variable {G Gj H H' : Hp} {d : Addr} {T : List (Addr × Str)}
theorem Dk.moreN (k : Dk G d H) (n : NT G) (e : ExtN H H') : Dk G d H' := by
  obtain ⟨c, x, m, i, z⟩ := k
  exact ⟨c, x, m, i, fun b o h => e _ _ (z.ex _ _ h) (n b o h), z.gd, z.gc, e _ _ z.hd (fun _ y => by cases y), e _ _ z.hc (fun _ y => by cases y), z.len, z.m0, z.m1⟩
theorem Dk.nt (k : Dk G d H) : Dk (nt G) d H := by
  obtain ⟨c, x, m, i, z⟩ := k
  exact ⟨c, x, m, i, (nt_ex G).trans z.ex, nt_none z.gd, nt_none z.gc, z.hd, z.hc, z.len, z.m0, z.m1⟩
theorem Dk.full (k : Dk G d H) (hT : Tabs T H) : ∃ Gf, Ex G Gf ∧ Dk Gf d H ∧ Tabs T Gf := by
  obtain ⟨c, x, m, i, z⟩ := k
  have other : ∀ b o, H b = some o → o ≠ .dK (deckD c m i) → o ≠ .lst (x.map V.int) → (fun b => if b = d ∨ b = c then none else H b : Hp) b = some o := fun b o h n1 n2 => by
    refine (if_neg ?_).trans h
    rintro (rfl | rfl)
    · rw [z.hd] at h
      exact n1 (Option.some.inj h).symm
    · rw [z.hc] at h
      exact n2 (Option.some.inj h).symm
  refine ⟨fun b => if b = d ∨ b = c then none else H b, fun b o h => ?_, ⟨c, x, m, i, fun b o h => ?_, if_pos (.inl rfl), if_pos (.inr rfl), z.hd, z.hc, z.len, z.m0, z.m1⟩, fun p hp => ?_⟩
  · refine (if_neg ?_).trans (z.ex _ _ h)
    rintro (rfl | rfl)
    · rw [z.gd] at h
      cases h
    · rw [z.gc] at h
      cases h
  · by_cases hb : b = d ∨ b = c
    · exact absurd ((if_pos hb).symm.trans h) (by simp)
    · exact (if_neg hb).symm.trans h
  · obtain ⟨ps, h1, h2, h3⟩ := hT p hp
    refine ⟨ps, other _ _ h1 (fun y => by cases y) (fun y => by cases y), h2, fun pos cv hc => ?_⟩
    obtain ⟨c', e1, e2⟩ := h3 pos cv hc
    exact ⟨c', e1, other _ _ e2 (fun y => by unfold CodeO at y; cases y) (fun y => by unfold CodeO at y; cases y)⟩
theorem Tabs.nil (h : ∀ p ∈ T, H p.1 = some (.tbl #[])) : Tabs T H := fun p hp => TabS.nil (h p hp)
end
end Hr

/-! A lambda of one parameter, handed to a def as its third argument and called there by that name. -/
namespace Hr
open PySem PySem.Spec PyProof.Rows L2 LamX
section
variable {P : Program} {w : World} {K : PySem.W.Frag} {mg : Str → Option Value} {base : Heap} {k : Nat} {f : Addr} {fd : FuncData} {ps : List Str} {sp : Sp}
/-- a def by its body, its code object told -/
theorem okC {x qual : Str} {st : Stmt} {N : List Str} (F : Fun K x qual st f fd) (S : FnScope N ps (defScope st)) (len : ∀ vs H Q E, sp vs H Q E → vs.length = ps.length)
    (hb : ∀ (cdv : Value) (A : Around) (outer : List Env) (s : Shared) (H : Hp) (vs : List V) (Q : VK) (E : XK), fd.code = cdv → Room k (A.deeper (envOfC qual (defScope st) s.heap.objs.size f cdv)) → sp vs H Q E →
      ∃ t, PSs (cxOf CX0 P w K mg base N qual (defScope st) f cdv A outer s H E).nox (defBody st) t ∧ t { nx := fun _ H' => Q .non H', rt := Q } (start N vs) H) :
    FnOk P w K mg base CX0 (k + 1) f fd ps sp := by
  obtain ⟨oc, od, kV, doc, pm, an, cdv, ct, osl, rfl, lk, hcd⟩ := F.ex
  refine fn_of lk hcd S len fun A outer s H vs Q E hr hsp => ?_
  obtain ⟨t, h, q⟩ := hb cdv A outer s H vs Q E rfl hr hsp
  exact ⟨t, h.nox, q⟩
end
/-- the names of a lambda with the parameter b -/
structure LamS1 (sc scope : Scope) (b : Str) : Prop where
  kind : scope.kind = .function
  co : scope.isCoroutine = false
  gen : scope.isGenerator = false
  nocell : ∀ y ∈ scope.names, y.2 ≠ .cell
  own : ∀ y ∈ scope.names, y.2 = .local → y.1 = b
  par : scope.names.lookup b = some .local
  free : ∀ y ∈ scope.names, y.2 = .free → sc.names.lookup y.1 = some .cell ∨ sc.names.lookup y.1 = some .free
def lam1B (sc scope : Scope) (b : Str) : Bool :=
  decide (scope.kind = .function) && (!scope.isCoroutine && (!scope.isGenerator && (decide (scope.names.lookup b = some .local) &&
    scope.names.all fun y => !decide (y.2 = .cell) && ((!decide (y.2 = .local) || decide (y.1 = b)) && (!decide (y.2 = .free) || (decide (sc.names.lookup y.1 = some .cell) || decide (sc.names.lookup y.1 = some .free)))))))
theorem lam1_by {sc scope : Scope} {b : Str} (h : lam1B sc scope b = true) : LamS1 sc scope b := by
  unfold lam1B at h
  simp only [Bool.and_eq_true, Bool.or_eq_true, Bool.not_eq_true', decide_eq_true_eq, decide_eq_false_iff_not, List.all_eq_true] at h
  obtain ⟨h1, h2, h3, h4, h5⟩ := h
  refine ⟨h1, h2, h3, fun y hy => (h5 y hy).1, fun y hy e => ?_, h4, fun y hy e => ?_⟩
  · rcases (h5 y hy).2.1 with z | z
    · exact absurd e z
    · exact z
  · rcases (h5 y hy).2.2 with z | z | z
    · exact absurd e z
    · exact .inl z
    · exact .inr z
theorem LamS1.has {X : Cx} {scope : Scope} {b : Str} (L : LamS1 X.env.scope scope b) (ok : X.Ok) : ∀ y ∈ scope.names, y.2 = .free → ∃ c, X.env.cells.lookup y.1 = some c :=
  fun y hy e => (L.free y hy e).elim (fun k => ok.has _ (.inl k)) fun k => ok.has _ (.inr k)
/-- where its body runs: the parameter ahead of the maker's names -/
def lamCx1 (X : Cx) (A : Around) (outer : List Env) (s : Shared) (H : Hp) (E : XK) (scope : Scope) (f c' : Addr) (b : Str) : Cx := { lamCx X A outer s H E scope f c' with N := b :: X.N }
section
variable {X : Cx} {pins : List (Addr × Obj)} {σ : L2.St} {H HZ : Hp} {s s1 : Shared}
theorem lam1_start {A : Around} {outer : List Env} {E : XK} {scope : Scope} {f c' : Addr} {h₁ : Heap} {tk : Nat} {b : Str} {v : V} {u : Value} (I : Inv X pins σ H s) (L : LamS1 X.env.scope scope b) (hb : b ∉ X.N) (e0 : Env0 X.prog X.w X.K X.mg X.base A outer s1 HZ) (hd : A.handled = none)
    (un : Un (frs X.stack) [] H HZ s.heap s1.heap) (rv : L2.RelV v u) (hns : h₁.Ns s1.heap.objs.size fun y => ([(b, u)] : List (Str × Value)).reverse.lookup y) (kp : ∀ b o, s1.heap.get? b = some o → h₁.get? b = some o) :
    Inv (lamCx1 X A outer s1 HZ E scope f c' b) [] (some v :: σ) HZ { s1 with heap := h₁, toks := tk } := by
  have hfree := L.has I.ok
  have hcl : ∀ {y c}, (cloFrom X.env.cells scope.names []).lookup y = some c → X.env.cells.lookup y = some c := fun {y c} e => by
    rcases cloFrom_mem (PySem.mem_of_lookup e) with z | ⟨z1, z2⟩
    · cases z
    · obtain ⟨c1, hc1⟩ := hfree _ z1 rfl
      have hc2 : X.env.cells.lookup y = some c1 := hc1
      have hc3 : c = c1 := by
        rw [z2, hc2] <;> rfl
      rw [hc3]
      exact hc2
  have hlk : ∀ {y}, scope.names.lookup y = some .free → ∃ c, (cloFrom X.env.cells scope.names []).lookup y = some c := fun {y} hl =>
    mem_lookup (cloFrom_has (cells := X.env.cells) (acc := []) (PySem.mem_of_lookup hl))
  have hcell : ∀ {c : Addr} {z : Option Value}, H c = none → s.heap.IsCell c z → h₁.IsCell c z := fun {c z} n ⟨o, ho, hz⟩ => by
    obtain ⟨sl, q⟩ := un.any ho n (by simp)
    exact ⟨_, kp _ _ q, hz⟩
  have hno : ∀ d : Addr, d ∉ (lamCx1 X A outer s1 HZ E scope f c' b).ex := fun d z => absurd (show d ∈ ([] : List Addr) from z) (by simp)
  refine ⟨⟨e0.mod, L.kind, rfl, rfl, Nat.le_refl _, fun y z c e1 e2 => I.ok.inj y z c (hcl e1) (hcl e2), fun y hy => ?_, fun y c z _ => ?_, fun _ => hd, Around.frames_deeper e0.frames, .inr ⟨rfl, rfl⟩, fun d z => absurd z (hno d), e0.bs, e0.bsz, fun d _ _ => hno d,
      fun d z => absurd z (hno d), e0.funs, e0.frf⟩,
    rfl, e0.bare, Un.kept kp, ⟨_, hns, fun i y z e1 e2 e3 => ?_⟩, fun y c e => ?_, e0.hok.fresh (Nat.le_refl _), fun y c e => ?_, fun q hq => absurd (show q ∈ ([] : List (Addr × Obj)) ++ [] from hq) (by simp), e0.hok.kept kp, congrArg (· + 1) I.len⟩
  · have hy : scope.names.lookup y = some .cell ∨ scope.names.lookup y = some .free := hy
    rcases hy with hy | hy
    · exact absurd rfl (L.nocell _ (PySem.mem_of_lookup hy))
    · exact hlk hy
  · have z : false = true := z
    cases z
  · have e1 : (b :: X.N)[i]? = some y := e1
    have e2 : (some v :: σ)[i]? = some (some z) := e2
    have e3 : Vis scope y := e3
    cases i with
    | zero =>
      have hy : b = y := Option.some.inj e1
      have hz : v = z := Option.some.inj (Option.some.inj e2)
      subst hy
      subst hz
      refine ⟨u, rv, .inl ⟨L.par, ?_⟩⟩
      show (List.lookup b [(b, u)]) = some u
      simp [List.lookup]
    | succ i =>
      have e1 : X.N[i]? = some y := by simpa using e1
      have e2 : σ[i]? = some (some z) := by simpa using e2
      have hne : y ≠ b := fun q => hb (by rw [← q]; exact List.mem_of_getElem? e1)
      rcases e3 with k | k | k
      · exact absurd (L.own _ (PySem.mem_of_lookup k) rfl) hne
      · exact absurd rfl (L.nocell _ (PySem.mem_of_lookup k))
      · obtain ⟨m, hn, hl⟩ := I.loc
        obtain ⟨w', r, q⟩ := hl i y z e1 e2 ((L.free _ (PySem.mem_of_lookup k) rfl).elim (fun k => .inr (.inl k)) fun k => .inr (.inr k))
        obtain ⟨c2, h2⟩ := hlk k
        refine ⟨w', r, .inr ⟨.inr k, c2, h2, ?_⟩⟩
        have c1 := hcl h2
        rcases q with ⟨k', _⟩ | ⟨_, c3, e', hz⟩
        · have k' : X.env.scope.names.lookup y = some .local := k'
          rcases L.free _ (PySem.mem_of_lookup k) rfl with k2 | k2 <;> rw [show X.env.scope.names.lookup y = _ from k2] at k' <;> cases k'
        · rw [c1] at e'
          cases e'
          exact hcell (I.freeC y _ c1) hz
  · obtain ⟨w', z⟩ := I.cell y c (hcl e)
    exact ⟨w', hcell (I.freeC y c (hcl e)) z⟩
  · obtain ⟨z, o, ho, _⟩ := I.cell y c (hcl e)
    exact un.free c o ho (I.freeC y c (hcl e)) (by simp)
/-- count(e), in the def that got the lambda -/
theorem pe_act1 {CXg : CXT} {Eg : XK} {Ng : List Str} {qg : Str} {sg : Scope} {g f c' : Addr} {cdg pm ctv : Value} {params : Arguments} {body : Expr} {scope : Scope} {k i : Nat} {a b : Str} {ta : TA} {tb : TE} {p1 p2 : Pos} {e : Expr}
    (I : Inv X pins σ H s) (L : LamS1 X.env.scope scope b) (hb : b ∉ X.N) (hf : s.heap.get? f = some (PySem.W.kla_obj "<lambda>" (X.env.qual ++ "<lambda>") params body scope (cloFrom X.env.cells scope.names []) pm c' ctv)) (hfn : H f = none) (hfr : f ∉ frs X.stack)
    (hbind : ∀ u : Value, bindArgs (PySem.W.kla_fn "<lambda>" (X.env.qual ++ "<lambda>") params body scope (cloFrom X.env.cells scope.names []) pm (.ref c') ctv) ⟨[u], []⟩ = pure [(b, u)])
    (hr : Room (k + 1) (X.A.deeper (envOfC qg sg s.heap.objs.size g cdg)))
    (hbody : ∀ (A : Around) (outer : List Env) (s : Shared) (H : Hp) (E : XK), Room k (A.deeper (lamEnv X scope s.heap.objs.size f c')) → PE (lamCx1 X A outer s H E scope f c' b) body tb)
    (hN : Ng[i]? = some a) (hv : Vis sg a) (ha : PA (cxOf CXg X.prog X.w X.K X.mg X.base Ng qg sg g cdg X.A X.stack s H Eg).nox [e] ta) (hd : (a == ("__debug__" : Str)) = false := by decide) (hcd : (a == ("__classdict__" : Str)) = false := by decide)
    (he : ∀ env, starEach [e] env = (false, eval e env) :: starEach [] env := by intro _; rfl) :
    PE (cxOf CXg X.prog X.w X.K X.mg X.base Ng qg sg g cdg X.A X.stack s H Eg).nox (.Call (.Name a p1) [e] [] p2)
      (fun σZ HZ Q => σZ[i]? = some (some (.ref f)) ∧ ta σZ HZ fun vs H1 => ∃ v, vs = [v] ∧ H1 c' = some (CodeO c' (X.env.qual ++ "<lambda>")) ∧ tb (some v :: σ) H1 Q) := by
  refine ⟨fun pinsZ sZ σZ HZ Q IZ h => ?_⟩
  obtain ⟨hs, ht⟩ := h
  refine wpAny_Call_Name_kw (thn ((pe_var (pos := p1) (i := i) hN hv hd hcd).run pinsZ sZ σZ HZ (fun v H1 => v = .ref f ∧ H1 = HZ) IZ ⟨.ref f, hs, rfl, rfl⟩) fun u s1 ⟨v, H1, I1, r1, q1⟩ => ?_)
  obtain ⟨ev, eH⟩ := q1
  subst ev
  rw [eH] at I1
  obtain rfl : u = Value.ref f := r1
  have at_ : ∀ {sY : Shared} {σY : L2.St} {HY : Hp}, Inv (cxOf CXg X.prog X.w X.K X.mg X.base Ng qg sg g cdg X.A X.stack s H Eg).nox pinsZ σY HY sY → sY.heap.get? f = some (PySem.W.kla_obj "<lambda>" (X.env.qual ++ "<lambda>") params body scope (cloFrom X.env.cells scope.names []) pm c' ctv) :=
    fun J => J.base.keep f _ hf hfn hfr (fun z => nomatch (show f ∈ ([] : List Addr) from z))
  refine PySem.W.callWith_F (first := []) ⟨_, _, _, _, at_ I1⟩ (thn (ha.run p2 pinsZ s1 σZ HZ _ I1 ht) fun us s2 ⟨vs, H2, I2, r, v, hvs, hc, q⟩ => ⟨⟨_, _, _, _, at_ I2⟩, ?_⟩) (he _) rfl
  subst hvs
  obtain ⟨u, rfl, rv⟩ := vals1 r
  have un : Un (frs X.stack) [] H H2 s.heap s2.heap := I2.base
  obtain ⟨⟨oc, ws, t, hoc, hdc, hvc⟩, _, _⟩ := I2.hok c' _ hc
  have rc : codeAny (model X.prog X.w) (X.A.deeper (envOfC qg sg s.heap.objs.size g cdg)) (.call (.ref f) ⟨[u], []⟩) (CR (L2.CX X.prog X.w) (envOfC qg sg s.heap.objs.size g cdg :: X.stack) X.prog X.w H2 s2 Q (fun _ _ _ => False)) s2 := by
    refine PySem.W.kla_callFunE hr.depth (at_ I2) rfl L.co L.gen rfl ⟨c', oc, ws, t, rfl, hoc, hdc, hvc⟩ ?_
    rw [hbind u]
    refine wpAny_pure (wpAny_newFunctionEnv L.nocell (fun y hy => ?_) (fun h₁ hns hsb => ⟨I2.nolimit.fresh _ hsb, ?_⟩) L.kind)
    · rw [List.mem_singleton.mp hy]
      exact L.par
    show codeAny _ _ (.expr body (lamEnv X scope s2.heap.objs.size f c')) _ _
    have kp : ∀ b o, s2.heap.get? b = some o → h₁.get? b = some o := fun b o e => hsb.extBut b o (Nat.ne_of_lt (Heap.lt_size e)) (Heap.get?_push_of_some _ e)
    have J : Inv (lamCx1 X (X.A.deeper (envOfC qg sg s.heap.objs.size g cdg)) (envOfC qg sg s.heap.objs.size g cdg :: X.stack) s2 H2 (fun _ _ _ => False) scope f c' b) [] (some v :: σ) H2 { s2 with heap := h₁, toks := s2.toks + ([(b, u)] : List (Str × Value)).length } :=
      lam1_start I L hb I2.env0 hr.hd un rv hns kp
    refine PySem.W.kla_codeExpr (wpAny_mono ((hbody _ _ s2 H2 _ (hr.deeper _)).run [] _ _ H2 Q J q) (fun v s' hq => ?_) fun e s' hq => hq)
    obtain ⟨w', H', J', rv, q⟩ := hq
    exact ⟨w', H', J'.os, J'.bare, J'.base, J'.hok, rv, q⟩
  have hx : Passes (L2.CX X.prog X.w) (cxOf CXg X.prog X.w X.K X.mg X.base Ng qg sg g cdg X.A X.stack s H Eg).nox (fun _ _ _ => False) := passes_call takes0 (fun _ _ _ _ z => z)
  show wpAny _ _ (call (.ref f) [u]) _ _ _
  refine wpAny_call (codeAny_mono rc fun r s' hq => ?_)
  cases r with
  | error e => exact hx pinsZ σZ H2 s2 e s' I2 hq
  | ok fl =>
    cases fl with
    | ret u => exact I2.after hq
    | next => exact False.elim hq
    | brk => exact False.elim hq
    | cont => exact False.elim hq
end
/-- the def that calls what it got third: a calls it; TT: what it makes of the lambda's reading -/
def Gives1 (X : Cx) (Ng : List Str) (x : Str) (sg : Scope) (g : Addr) (cdg : Value) (bg : List Stmt) (a : Str) (q : Str) (TT : V → V → (V → Hp → VK → Prop) → Hp → VK → Prop) : Prop :=
  ∀ (f c' : Addr) (s : Shared) (H : Hp) (Q : VK) (v1 v2 : V) (tl : V → Hp → VK → Prop),
    (∀ (e : Expr) (ta : TA) (p1 p2 : Pos), PA (cxOf C8.CX0 X.prog X.w X.K X.mg X.base Ng x sg g cdg X.A X.stack s H C8.E0).nox [e] ta → (∀ env, starEach [e] env = (false, eval e env) :: starEach [] env) →
      PE (cxOf C8.CX0 X.prog X.w X.K X.mg X.base Ng x sg g cdg X.A X.stack s H C8.E0).nox (.Call (.Name a p1) [e] [] p2) (fun σZ HZ Q => σZ[2]? = some (some (.ref f)) ∧ ta σZ HZ fun vs H1 => ∃ v, vs = [v] ∧ H1 c' = some (CodeO c' q) ∧ tl v H1 Q)) →
    Room 1 (X.A.deeper (envOfC x sg s.heap.objs.size g cdg)) → H c' = some (CodeO c' q) → TT v1 v2 tl H Q →
    ∃ t, PSs (cxOf C8.CX0 X.prog X.w X.K X.mg X.base Ng x sg g cdg X.A X.stack s H C8.E0).nox bg t ∧ t { nx := fun _ H' => Q .non H', rt := Q } (L2.start Ng [v1, v2, .ref f]) H
def tLam1 (T : List (Addr × Str)) (TT : V → V → (V → Hp → VK → Prop) → Hp → VK → Prop) (t1 t2 tb : TE) : TE := fun σ H Q => t1 σ H fun v1 H1 => t2 σ H1 fun v2 H2 => Tabs T H2 ∧ ∀ H3, ExtN H2 H3 → Tabs T H3 → TT v1 v2 (fun v H' Q' => tb (some v :: σ) H' Q') H3 Q
section
variable {X : Cx}
/-- x(e1, e2, lambda b: body) -/
theorem pe_lamcall1 {T : List (Addr × Str)} {TT : V → V → (V → Hp → VK → Prop) → Hp → VK → Prop} {x a b n1 n2 : Str} {g c P : Addr} {k : Nat} {pg : Arguments} {bg : List Stmt} {sg : Scope} {dV kV doc pm cdv ct oc : Value} {an od : Option Addr} {osl : Array (Option Value)} {Ng : List Str}
    {params : Arguments} {body e1 e2 : Expr} {scope : Scope} {t1 t2 tb : TE} {p lpos pos : Pos} (hg : Gl X x) (hm : X.mg x = some (.ref g)) (hk : PySem.W.keepIn X.K (.ref g) = true)
    (lk : X.K.lookup g = some ⟨oc, od, .func (PySem.W.fnOf x x pg bg sg dV kV doc pm an cdv ct), osl⟩) (hcg : PySem.W.codeIn X.K cdv x = true) (hbg : L2.Binds X.K (PySem.W.fnOf x x pg bg sg dV kV doc pm an cdv ct) [n1, n2, a] []) (Sg : FnScope Ng [n1, n2, a] sg) (hNg : Ng[2]? = some a) (hva : Vis sg a)
    (hG : Gives1 X Ng x sg g cdv bg a (X.env.qual ++ "<lambda>") TT) (h1 : PE X e1 t1) (h2 : PE X e2 t2) (TB : TabB X.base X.mg c P) (hcode : X.env.code = .ref c) (hmT : (P, X.env.qual ++ "<lambda>") ∈ T) (hu : ∀ p ∈ T, p.1 = P → p.2 = X.env.qual ++ "<lambda>") (hr : Room (k + 2) X.A)
    (L : LamS1 X.env.scope scope b) (hb : b ∉ X.N) (hdef : defaultsOf params X.env = ([], []))
    (hbind : ∀ (q : Str) (cl : List (Str × Addr)) (pm cv ctv u : Value), bindArgs (PySem.W.kla_fn "<lambda>" q params body scope cl pm cv ctv) ⟨[u], []⟩ = pure [(b, u)])
    (hbody : ∀ (A : Around) (outer : List Env) (s : Shared) (H : Hp) (E : XK) (f c' : Addr), Room k (A.deeper (lamEnv X scope s.heap.objs.size f c')) → PE (lamCx1 X A outer s H E scope f c' b) body tb)
    (he : starEach [e1, e2, .Lambda params body scope lpos] X.env = (false, eval e1 X.env) :: starEach [e2, .Lambda params body scope lpos] X.env := by rfl)
    (he2 : starEach [e2, .Lambda params body scope lpos] X.env = (false, eval e2 X.env) :: starEach [.Lambda params body scope lpos] X.env := by rfl)
    (hpl : (backTo pos (starEach [e2, .Lambda params body scope lpos] X.env)).any (·.1) = false := by rfl)
    (hdb : (x == ("__debug__" : Str)) = false := by decide) (hd : (a == ("__debug__" : Str)) = false := by decide) (hcd : (a == ("__classdict__" : Str)) = false := by decide) :
    PE X (.Call (.Name x p) [e1, e2, .Lambda params body scope lpos] [] pos) (tLam1 T TT t1 t2 tb) := by
  refine ⟨fun pins s σ H Q I h => ?_⟩
  refine wpAny_Call_Name_kw (ld_glob I hg hm ?_ hdb)
  refine PySem.W.callWith_K (h₀ := X.base) I.ok.mod.kin hk ?_ he hpl
  rw [he]
  show wpAny _ _ (spliced ((false, eval e1 X.env) :: backTo pos (starEach [e2, .Lambda params body scope lpos] X.env))) _ _ s
  refine Calls.spliced_cons (thn (h1.run pins s σ H _ I h) fun u1 s1 ⟨v1, H1, I1, r1, q1⟩ => ?_)
  rw [he2]
  show wpAny _ _ (spliced ((false, eval e2 X.env) :: backTo pos (starEach [.Lambda params body scope lpos] X.env))) _ _ s1
  refine Calls.spliced_cons (thn (h2.run pins s1 σ H1 _ I1 q1) fun u2 s2 ⟨v2, H2, I2, r2, q2⟩ => ?_)
  obtain ⟨hT, q2⟩ := q2
  show wpAny _ _ (spliced ((false, eval (.Lambda params body scope lpos) X.env) :: backTo pos (starEach [] X.env))) _ _ s2
  refine Calls.spliced_cons (lam_make2 I2 TB hcode hmT hu hT hdef (L.has I2.ok) fun f c' pm' ctv H3 s' I3 eN T3 hf hfn hfr hco => ?_)
  refine Calls.spliced_nil ⟨I3.kIn, ?_⟩
  have rc : codeAny (model X.prog X.w) X.A (.call (.ref g) ⟨[u1, u2, .ref f], []⟩) (CR C8.CX0 X.stack X.prog X.w H3 s' Q C8.E0) s' := by
    refine run_ofS (N := Ng) (ps := [n1, n2, a]) (us := [u1, u2, .ref f]) (vs := [v1, v2, .ref f]) lk hcg Sg hr I3.env0 (hbg s' [u1, u2, .ref f] I3.kIn rfl) (.cons r1 (.cons r2 (.cons rfl .nil))) rfl fun hr' => ?_
    obtain ⟨t', ht', hq'⟩ := hG f c' s' H3 Q v1 v2 (fun v H' Q' => tb (some v :: σ) H' Q') (fun e ta p1 p2 ha hes => pe_act1 (i := 2) I3 L hb hf hfn hfr (hbind _ _ _ _ _) hr' (fun A outer s H E hr2 => hbody A outer s H E f c' hr2) hNg hva ha hd hcd hes) (hr'.mono (by omega)) hco (q2 H3 eN T3)
    exact ⟨t', ht'.nox, hq'⟩
  refine wpAny_call (codeAny_mono rc fun r s2 hq => ?_)
  cases r with
  | error e => exact (show False from hq).elim
  | ok fl =>
    cases fl with
    | ret u => exact I3.after hq
    | next => exact False.elim hq
    | brk => exact False.elim hq
    | cont => exact False.elim hq
end
end Hr

/-! What calls keep that may add to tables of code objects; decks beside such tables. -/
namespace Hr
open PySem PySem.Spec PyProof.Rows L2 Evl LamX
/-- all but the tables stays, and what is told of the tables T -/
structure Ek (T : List (Addr × Str)) (H H' : Hp) : Prop where
  x : ExtN H H'
  t : Tabs T H → Tabs T H'
section
variable {T : List (Addr × Str)} {G G' H H' H1 H2 : Hp} {d p o : Addr} {u : HO}
theorem Ek.get (e : Ek T H H') {b : Addr} {o : HO} (h : H b = some o) (n : ∀ ps, o ≠ .tbl ps := by intro _ z; cases z) : H' b = some o := e.x b o h n
theorem Ek.of (e : Ex H H') : Ek T H H' := ⟨ExtN.of e, fun t => t.ext e⟩
instance : Coe (Ex H H') (Ek T H H') := ⟨Ek.of⟩
theorem Ek.refl (H : Hp) : Ek T H H := .of (Ex.refl H)
theorem Ek.trans (a : Ek T H H1) (b : Ek T H1 H2) : Ek T H H2 := ⟨a.x.trans b.x, fun t => b.t (a.t t)⟩
theorem Ek.ex (a : Ek T H H1) (b : Ex H1 H2) : Ek T H H2 := a.trans (.of b)
theorem Ek.new {o : HO} (h : H p = none) : Ek T H (upd H p o) := .of (Ex.new h)
/-- a thing of ours is written -/
theorem Ek.mut (e : Ek T H H') (no : H o = none) (ho : H' o = some v) (nt : ∀ ps, v ≠ .tbl ps) (nc : ∀ q, v ≠ CodeO o q) : Ek T H (upd H' o u) := by
  refine ⟨fun b w h n => ?_, fun t => ?_⟩
  · rw [upd_ne (ne_of_none h no)]
    exact e.x b w h n
  · intro q hq
    obtain ⟨ps, h1, h2, h3⟩ := e.t t q hq
    refine ⟨ps, ?_, h2, fun pos cv hc => ?_⟩
    · rw [upd_ne (fun z => nt ps (Option.some.inj (ho.symm.trans (by rw [← z]; exact h1))))]
      exact h1
    · obtain ⟨c, e1, e2⟩ := h3 pos cv hc
      refine ⟨c, e1, ?_⟩
      by_cases z : c = o
      · rw [z] at e2
        exact absurd (Option.some.inj (ho.symm.trans e2)) (nc _)
      · rw [upd_ne z]
        exact e2
theorem Ek.mutL {xs : List V} (e : Ek T H H') (no : H o = none) (ho : H' o = some (.lst xs)) : Ek T H (upd H' o u) := e.mut no ho (fun _ z => by cases z) (fun _ z => by unfold CodeO at z; cases z)
/-- a def that hands back v -/
def RetVk (T : List (Addr × Str)) (v : V) (H : Hp) (Q : VK) : Prop := ∀ H2, Ek T H H2 → Q v H2
/-- .. a tuple -/
def RetTk (T : List (Addr × Str)) (xs : List V) (H : Hp) (Q : VK) : Prop := ∀ p H2, Ek T H H2 → H2 p = some (.tup xs) → Q (.ref p) H2
/-- a deck, what is known beside it, the tables -/
structure DkT (T : List (Addr × Str)) (G : Hp) (d : Addr) (H : Hp) : Prop where
  k : Dk G d H
  n : NT G
  t : Tabs T H
theorem DkT.moreK (k : DkT T G d H) (e : Ek T H H') : DkT T G d H' := ⟨k.k.moreN k.n e.x, k.n, e.t k.t⟩
theorem DkT.more (k : DkT T G d H) (e : Ex H H') : DkT T G d H' := k.moreK (.of e)
theorem DkT.new {o : HO} (k : DkT T G d H) (h : H p = none) : DkT T G d (upd H p o) := k.moreK (.new h)
theorem DkT.get (k : DkT T G d H) {b : Addr} {u : HO} (h : G b = some u) : H b = some u := k.k.get h
theorem DkT.free (k : DkT T G d H) (h : H p = none) : G p = none := k.k.free h
theorem DkT.gex {o : HO} (k : DkT T G d H) (h : H p = none) : Ex G (upd G p o) := k.k.gex h
theorem NT.upd (n : NT G) (nt : ∀ ps, u ≠ .tbl ps) : NT (upd G p u) := fun b o h => by
  by_cases z : b = p
  · rw [z, upd_same] at h
    cases h
    exact nt
  · rw [upd_ne z] at h
    exact n b o h
theorem DkT.made {o : HO} (k : DkT T G d H) (h : H p = none) (nt : ∀ ps, o ≠ .tbl ps := by intro _ z; cases z) : DkT T (upd G p o) d (upd H p o) := ⟨k.k.made h, k.n.upd nt, k.t.ext (Ex.new h)⟩
theorem DkT.growK (k : DkT T G d H) (h : H p = none) (e : Ek T H H') (hp : H' p = some u) (nt : ∀ ps, u ≠ .tbl ps := by intro _ z; cases z) : DkT T (upd G p u) d H' := by
  obtain ⟨c, x, m, i, z⟩ := (k.k.moreN k.n e.x)
  obtain ⟨c0, x0, m0, i0, z0⟩ := k.k
  have hd0 : H d ≠ none := fun y => by rw [z0.hd] at y; cases y
  have hpd : p ≠ d := fun y => hd0 (by rw [← y]; exact h)
  refine ⟨⟨c0, x0, m0, i0, fun b o hb => ?_, ?_, ?_, e.x _ _ z0.hd (fun _ y => by cases y), e.x _ _ z0.hc (fun _ y => by cases y), z0.len, z0.m0, z0.m1⟩, k.n.upd nt, e.t k.t⟩
  · by_cases y : b = p
    · rw [y, upd_same] at hb
      cases hb
      rw [y]
      exact hp
    · rw [upd_ne y] at hb
      exact e.x _ _ (z0.ex _ _ hb) (k.n b o hb)
  · rw [upd_ne (Ne.symm hpd)]
    exact z0.gd
  · have hpc : p ≠ c0 := fun y => by
      have := z0.hc
      rw [← y, h] at this
      cases this
    rw [upd_ne (Ne.symm hpc)]
    exact z0.gc
theorem DkT.grow (k : DkT T G d H) (h : H p = none) (e : Ex H H') (hp : H' p = some u) (nt : ∀ ps, u ≠ .tbl ps := by intro _ z; cases z) : DkT T (upd G p u) d H' := k.growK h (.of e) hp nt
/-- what a promise about decks needs, and what it gives back -/
theorem DkT.full (k : DkT T G d H) : ∃ Gf, Dk Gf d H ∧ (∀ {G' H'}, Ex Gf G' → Dk G' d H' → DkT T (nt G') d H' ∧ Ex G (nt G')) ∧ (∀ {H'}, Dk Gf d H' → DkT T G d H') ∧ ∀ b o, G b = some o → Gf b = some o := by
  obtain ⟨Gf, e, kf, tf⟩ := k.k.full k.t
  have tabs : ∀ {G' H'}, Ex Gf G' → Dk G' d H' → Tabs T H' := fun a b => (tf.ext a).ext b.ex
  refine ⟨Gf, kf, fun a b => ⟨⟨b.nt, nt_NT _, tabs a b⟩, fun x o h => nt_at (a _ _ (e _ _ h)) (k.n x o h)⟩, fun b => ⟨?_, k.n, tabs (Ex.refl _) b⟩, e⟩
  obtain ⟨c, x, m, i, z⟩ := b
  obtain ⟨c0, x0, m0, i0, z0⟩ := k.k
  refine ⟨c, x, m, i, e.trans z.ex, z0.gd, ?_, z.hd, z.hc, z.len, z.m0, z.m1⟩
  cases h : G c with
  | none => rfl
  | some o =>
    have := z.gc
    rw [e _ _ h] at this
    cases this
theorem DkT.start (k : Dk H d H1) (t : Tabs T H) : DkT T (nt H) d H1 := ⟨k.nt, nt_NT H, t.ext k.ex⟩
end
end Hr

/-! Defs that make lambdas, where no repr is under way: their code object is told; the law's end with tables of code objects. -/
namespace Hr
open PySem PySem.Spec PyProof.Rows L2 LamX
section
variable {P : Program} {w : World} {K : PySem.W.Frag} {mg : Str → Option Value} {base : Heap} {CX : CXT} {k : Nat} {f : Addr} {fd : FuncData} {ps : List Str} {sp : Sp}
theorem bodyGc {x qual : Str} {st : Stmt} {N : List Str} (F : Fun K x qual st f fd) (S : FnScope N ps (defScope st)) (len : ∀ vs H Q E, sp vs H Q E → vs.length = ps.length)
    (hb : ∀ (cdv : Value) (A : Around) (around : List Env) (s : Shared) (H : Hp) (vs : List V) (Q : VK) (E : XK), fd.code = cdv → Room k (A.deeper (envOfC qual (defScope st) s.heap.objs.size f cdv)) → A.guards = some [] → sp vs H Q E →
      ∃ t, PSs (cxOf CX P w K mg base N qual (defScope st) f cdv A around s H E) (defBody st) t ∧ t { nx := fun _ H' => Q .non H', rt := Q } (start N vs) H) :
    FnG P w K mg base CX (k + 1) f fd ps sp := by
  obtain ⟨oc, od, kV, doc, pm, an, cdv, ct, osl, rfl, lk, hcd⟩ := F.ex
  refine ⟨len, ?_⟩
  intro A around s H as us vs Q E r g e0 bind rv hq
  have KX : K.In s.heap := e0.mod.kin.keeps fun b o e => (e0.bs b o e).1
  have kinds : ∀ y ∈ ps.zip us, (defScope st).names.lookup y.1 = some .local ∨ ((defScope st).names.lookup y.1 = some .cell ∧ ((cellsFrom (s.heap.objs.size + 1) (defScope st).names []).lookup y.1).isSome = true) := by
    rintro ⟨n, v⟩ hy
    rcases S.par n (List.of_mem_zip hy).1 with q | q
    · exact .inl q
    · exact .inr ⟨q, PySem.W.cellsFrom_some _ _ _ (.inl q)⟩
  refine codeAny_call_function r.depth (KX _ _ lk) rfl S.co S.gen rfl (PySem.W.codeRec_of KX hcd) (bind _ _ _ _ ?_)
  refine wpAny_newFunctionEnv_cells S.kind kinds ?_
  intro env he s1 x
  subst he
  refine ⟨Heap.NoLimit.keeps (e0.mod.nolimit.keeps fun b o e => (e0.bs b o e).1) x.toInCall.keep, codeAny_func ?_⟩
  obtain ⟨t, ht, hrun⟩ := hb cdv A around s H vs Q E rfl (r.deeper _) g hq
  have I := inv_start (CX := CX) (E := E) S r.hd e0 (len _ _ _ _ hq) rv x
  refine wpAny_mono (ht.run [] s1 (start N vs) H _ I hrun) ?_ (fun e s' hs => hs)
  intro fl s' hs
  cases fl with
  | ret u =>
    obtain ⟨v, σ', H', J, rv', q⟩ := hs
    exact ⟨v, H', J.os, J.bare, J.base, J.hok, rv', q⟩
  | next =>
    obtain ⟨σ', H', J, q⟩ := hs
    exact ⟨V.non, H', J.os, J.bare, J.base, J.hok, rfl, q⟩
  | brk => exact hs.elim fun _ ⟨_, _, q⟩ => q.elim
  | cont => exact hs.elim fun _ ⟨_, _, q⟩ => q.elim
theorem okGc {x qual : Str} {st : Stmt} {N : List Str} (F : Fun K x qual st f fd) (S : FnScope N ps (defScope st)) (len : ∀ vs H Q E, sp vs H Q E → vs.length = ps.length)
    (hb : ∀ (cdv : Value) (A : Around) (around : List Env) (s : Shared) (H : Hp) (vs : List V) (Q : VK) (E : XK), fd.code = cdv → Room k (A.deeper (envOfC qual (defScope st) s.heap.objs.size f cdv)) → A.guards = some [] → sp vs H Q E →
      ∃ t, PSs (cxOf CX0 P w K mg base N qual (defScope st) f cdv A around s H E).nox (defBody st) t ∧ t { nx := fun _ H' => Q .non H', rt := Q } (start N vs) H) :
    FnG P w K mg base CX0 (k + 1) f fd ps sp :=
  bodyGc F S len fun cdv A around s H vs Q E c r g h => by
    obtain ⟨t, ht, q⟩ := hb cdv A around s H vs Q E c r g h
    exact ⟨t, ht.nox, q⟩
end
/-- the heap at the start: the script, if it is no part of the text, and the empty tables -/
def OnlyT (cs : List (Addr × Addr)) (a : Addr) (K : PySem.W.Frag) (H : Hp) : Prop :=
  ∀ b, H b = none ∨ (b ∈ cs.map (·.2) ∧ H b = some (.tbl #[])) ∨ (b = a ∧ K.lookup a = none ∧ ∃ o xs, H b = some (.frz o (.lst xs)))
section
variable {P : Program} {w : World} {K : PySem.W.Frag} {mg mb : Str → Option Value} {k : Nat} {fa a : Addr} {fd : FuncData} {x : Str} {sp : Sp} {s₁ : Shared} {vs : List Value} {ns : List Int} {cs : List (Addr × Addr)}
theorem lawT0 {H : Hp} (KX : K.In s₁.heap) (hns : s₁.heap.Ns mainGlobals mg) (hb : s₁.heap.Ns builtinsNs mb) (hbb : ∀ x : Str, x ≠ "__name__" → mb x = bootBuiltins x) (hlim : s₁.heap.NoLimit) (hg : s₁.gens = #[])
    (hT : ∀ p ∈ cs, s₁.heap.get? p.2 = some { cls := .none, data := .fields #[] }) (nT : ∀ p ∈ cs, K.lookup p.2 = none) (C : ∀ p ∈ cs, PySem.W.CodeHd s₁.heap p.1 p.2)
    (hbm : ∃ (bm : Addr) (ob : Obj), mg "__builtins__" = some (.ref bm) ∧ bm ≠ builtinsNs ∧ s₁.heap.get? bm = some ob ∧ ob.cls = .type "module" ∧ ob.dict = some builtinsNs ∧ ob.data = .plain)
    (ha : s₁.heap.get? a = some { cls := .type "list", data := .seq vs.toArray }) (hr : Room k callerA)
    (F : ∀ base : Heap, K.In base → base.Ns mainGlobals mg → (∀ p ∈ cs, TabB base mg p.1 p.2) → FnG P w K mg base CX0 k fa fd [x] sp) (hbind : ∀ (s : Shared) (u : Value), BindsTo s fd ⟨[u], []⟩ [(x, u)])
    (hO : OnlyT cs a K H) (hP : ∀ p ∈ cs, H p.2 = some (.tbl #[])) (hok : HOk P w H s₁.heap) (hsp : sp [.ref a] H (fun v _ => v = .bl true) fun _ _ _ => False) :
    codeAny (model P w) callerA (.call (.ref fa) ⟨[.ref a], []⟩) (fun r s' => r = .ok (.ret (.bool true)) ∧ OldK s₁.heap s'.heap ∧ s'.os = s₁.os ∧ AllBare s'.gens) s₁ := by
  have tabAt : ∀ b ∈ cs.map (·.2), s₁.heap.get? b = some { cls := .none, data := .fields #[] } := by
    intro b hb
    obtain ⟨p, hp, rfl⟩ := List.mem_map.mp hb
    exact hT p hp
  have untold : ∀ {b : Addr} {o : Obj}, s₁.heap.get? b = some o → ((∀ xs n, o.data ≠ .seq xs n) ∧ o.data ≠ .fields #[]) ∨ K.lookup b ≠ none → H b = none := by
    intro b o e z
    rcases hO b with q | ⟨q, _⟩ | ⟨rfl, q, _⟩
    · exact q
    · rcases z with z | z
      · have t := tabAt b q
        rw [e] at t
        cases t
        exact absurd rfl z.2
      · obtain ⟨p, hp, rfl⟩ := List.mem_map.mp q
        exact absurd (nT p hp) z
    · rcases z with z | z
      · rw [ha] at e
        cases e
        exact absurd rfl (z.1 _ _)
      · exact absurd q z
  have dictU : ∀ {b : Addr} {o : Obj} {es : Array DictEntry} {ep : Nat}, s₁.heap.get? b = some o → o.data = .dict es ep → H b = none := fun e d => untold e (.inl ⟨(fun xs n z => by rw [d] at z; cases z), (fun z => by rw [d] at z; cases z)⟩)
  have nsB : ∀ {b : Addr} {m : Str → Option Value}, s₁.heap.Ns b m → (hidT s₁.heap H).Ns b m := by
    rintro b m ⟨o, es, ep, e, d, r⟩
    exact ⟨o, es, ep, hidT_get e (dictU e d), d, r⟩
  have hKb : K.In (hidT s₁.heap H) := fun b o e => hidT_get (KX b o e) (untold (KX b o e) (.inr (by rw [e]; exact Option.some_ne_none o)))
  have hM : Mod K mg (hidT s₁.heap H) := ⟨hKb, nsB hns, ⟨mb, nsB hb, hbb⟩, hlim.elim fun mc z => ⟨mc, nsB z.1, z.2⟩⟩
  have TB : ∀ p ∈ cs, TabB (hidT s₁.heap H) mg p.1 p.2 := by
    intro p hp
    have tp := hT p hp
    refine ⟨?_, ?_, fun z => ?_⟩
    · obtain ⟨o, us, file, tf, flags, tg, inF, text, tt, g1, g0, g2, g3, rest⟩ := C p hp
      refine ⟨o, us, file, tf, flags, tg, inF, text, tt, hidT_get g1 (untold g1 (.inl ⟨fun xs n z => ?_, fun z => ?_⟩)), g0, g2, g3, rest⟩
      · rw [g2] at z
        cases z
      · rw [g2] at z
        cases z
        simp at g3
    · obtain ⟨bm, ob, b1, b2, b3, b4, b5, b6⟩ := hbm
      refine ⟨bm, ob, b1, b2, fun q => ?_, fun q => ?_, hidT_get b3 (untold b3 (.inl ⟨fun xs n z => ?_, fun z => ?_⟩)), b4, b5, b6⟩
      · obtain ⟨o, es, ep, e, hd, _⟩ := hns
        rw [q, e] at b3
        cases b3
        rw [hd] at b6
        cases b6
      · rw [q, tp] at b3
        cases b3
        cases b6
      · rw [b6] at z
        cases z
      · rw [b6] at z
        cases z
    · obtain ⟨o, es, ep, e, hd, _⟩ := hns
      rw [z, tp] at e
      cases e
      cases hd
  have e0 : Env0 P w K mg (hidT s₁.heap H) callerA [] s₁ H :=
    ⟨rfl, hM, fun b o e => of_hidT e, Nat.le_of_eq (hidT_size _ _), trivial, fun b hb => absurd hb List.not_mem_nil, hok, .of_eq hg⟩
  refine codeAny_mono ((F _ hKb (nsB hns) TB).go callerA [] s₁ H ⟨[.ref a], []⟩ [.ref a] [.ref a] _ _ hr rfl e0 (hbind s₁ (.ref a)) (.cons rfl .nil) hsp) ?_
  intro r s' h
  cases r with
  | error e => exact False.elim h
  | ok fl => cases fl with
    | next => exact False.elim h
    | brk => exact False.elim h
    | cont => exact False.elim h
    | ret u =>
      obtain ⟨v, H', os, bare, un, hok', r', q⟩ := h
      have q' : v = .bl true := q
      subst q'
      have r2 : u = Value.bool true := r'
      subst r2
      have same : ∀ b o, b ∉ cs.map (·.2) → s₁.heap.get? b = some o → s'.heap.get? b = some o := by
        intro b o nb e
        rcases hO b with z | ⟨z, _⟩ | ⟨rfl, _, ob, xs, z⟩
        · exact un.keep b o e z List.not_mem_nil List.not_mem_nil
        · exact absurd z nb
        · obtain ⟨e1, _⟩ := hok _ _ z
          obtain ⟨e2, _⟩ := hok' _ _ (un.frzs _ ob _ z)
          rw [e] at e1
          cases e1
          exact e2
      have grown : ∀ b ∈ cs.map (·.2), ∃ more : Array Value, s'.heap.get? b = some { cls := .none, data := .fields more } := by
        intro b hb
        obtain ⟨p, hp, rfl⟩ := List.mem_map.mp hb
        obtain ⟨more, z⟩ := un.tbls p.2 #[] (hP p hp)
        exact ⟨_, hok' p.2 _ z⟩
      refine ⟨rfl, ⟨fun b o e => ?_, fun b o e => ?_⟩, os, bare⟩
      · by_cases hb : b ∈ cs.map (·.2)
        · obtain ⟨more, hm⟩ := grown b hb
          obtain ⟨p, hp, rfl⟩ := List.mem_map.mp hb
          rw [hT p hp] at e
          cases e
          exact .inr (.inl ⟨((C p hp).tab (hT p hp)).isCodeTable, rfl, #[], more, rfl, by rw [Array.empty_append]; exact hm⟩)
        · exact .inl (same b o hb e)
      · by_cases hb : b ∈ cs.map (·.2)
        · obtain ⟨more, hm⟩ := grown b hb
          exact ⟨_, hm⟩
        · exact ⟨o, same b o hb e⟩
theorem lawT (KX : K.In s₁.heap) (hns : s₁.heap.Ns mainGlobals mg) (hb : s₁.heap.Ns builtinsNs mb) (hbb : ∀ x : Str, x ≠ "__name__" → mb x = bootBuiltins x) (hlim : s₁.heap.NoLimit) (hg : s₁.gens = #[])
    (hT : ∀ p ∈ cs, s₁.heap.get? p.2 = some { cls := .none, data := .fields #[] }) (nT : ∀ p ∈ cs, K.lookup p.2 = none) (C : ∀ p ∈ cs, PySem.W.CodeHd s₁.heap p.1 p.2)
    (hbm : ∃ (bm : Addr) (ob : Obj), mg "__builtins__" = some (.ref bm) ∧ bm ≠ builtinsNs ∧ s₁.heap.get? bm = some ob ∧ ob.cls = .type "module" ∧ ob.dict = some builtinsNs ∧ ob.data = .plain)
    (ha : s₁.heap.get? a = some { cls := .type "list", data := .seq vs.toArray }) (hi : IntsAre vs ns) (hl : ns.length ≤ sizeLine) (hr : Room k callerA)
    (F : ∀ base : Heap, K.In base → base.Ns mainGlobals mg → (∀ p ∈ cs, TabB base mg p.1 p.2) → FnG P w K mg base CX0 k fa fd [x] sp) (hbind : ∀ (s : Shared) (u : Value), BindsTo s fd ⟨[u], []⟩ [(x, u)])
    (hsp : ∀ H : Hp, (∀ p ∈ cs, H p.2 = some (.tbl #[])) → SqL K H a (ns.map V.int) → sp [.ref a] H (fun v _ => v = .bl true) fun _ _ _ => False) :
    codeAny (model P w) callerA (.call (.ref fa) ⟨[.ref a], []⟩) (fun r s' => r = .ok (.ret (.bool true)) ∧ OldK s₁.heap s'.heap ∧ s'.os = s₁.os ∧ AllBare s'.gens) s₁ := by
  have rv := vals_ints hi
  have tabAt : ∀ b ∈ cs.map (·.2), s₁.heap.get? b = some { cls := .none, data := .fields #[] } := by
    intro b hb
    obtain ⟨p, hp, rfl⟩ := List.mem_map.mp hb
    exact hT p hp
  have na : a ∉ cs.map (·.2) := fun z => by
    have q := tabAt a z
    rw [ha] at q
    have q' : Data.seq vs.toArray _ = Data.fields #[] := congrArg Obj.data (Option.some.inj q)
    cases q'
  cases hk : K.lookup a with
  | some o =>
    have e := KX a o hk
    rw [ha] at e
    cases e
    have hP : ∀ p ∈ cs, (fun b => if b ∈ cs.map (·.2) then some (HO.tbl #[]) else none : Hp) p.2 = some (.tbl #[]) := fun p hp => if_pos (List.mem_map.mpr ⟨p, hp, rfl⟩)
    refine lawT0 (H := fun b => if b ∈ cs.map (·.2) then some (.tbl #[]) else none) KX hns hb hbb hlim hg hT nT C hbm ha hr F hbind (fun b => ?_) hP (fun b u z => ?_) (hsp _ hP (.inr ⟨_, vs.toArray, _, hk, rfl, rfl, rfl, ?_, ?_⟩))
    · by_cases h : b ∈ cs.map (·.2)
      · exact .inr (.inl ⟨h, if_pos h⟩)
      · exact .inl (if_neg h)
    · by_cases h : b ∈ cs.map (·.2)
      · cases (if_pos h).symm.trans z
        exact tabAt b h
      · cases (if_neg h).symm.trans z
    · rw [List.size_toArray, hi.length]
      exact hl
    · rw [List.toList_toArray]
      exact rv
  | none =>
    have hP : ∀ p ∈ cs, (upd (fun b => if b ∈ cs.map (·.2) then some (HO.tbl #[]) else none) a (.frz { cls := .type "list", data := .seq vs.toArray } (.lst (ns.map V.int))) : Hp) p.2 = some (.tbl #[]) := fun p hp => by
      have m : p.2 ∈ cs.map (·.2) := List.mem_map.mpr ⟨p, hp, rfl⟩
      rw [upd_ne (show p.2 ≠ a from fun z => na (by rw [← z]; exact m))]
      exact if_pos m
    refine lawT0 (H := upd (fun b => if b ∈ cs.map (·.2) then some (.tbl #[]) else none) a (.frz { cls := .type "list", data := .seq vs.toArray } (.lst (ns.map V.int)))) KX hns hb hbb hlim hg hT nT C hbm ha hr F hbind (fun b => ?_) hP (fun b u z => ?_) (hsp _ hP (.inl (.inr ⟨_, upd_same⟩)))
    · by_cases h : b = a
      · subst h
        exact .inr (.inr ⟨rfl, hk, _, _, upd_same⟩)
      · rw [upd_ne h]
        by_cases h2 : b ∈ cs.map (·.2)
        · exact .inr (.inl ⟨h2, if_pos h2⟩)
        · exact .inl (if_neg h2)
    · by_cases h : b = a
      · subst h
        rw [upd_same] at z
        cases z
        exact ⟨ha, by rw [List.length_map]; exact hl, vs, _, rv, ha⟩
      · rw [upd_ne h] at z
        by_cases h2 : b ∈ cs.map (·.2)
        · cases (if_pos h2).symm.trans z
          exact tabAt b h2
        · cases (if_neg h2).symm.trans z
end
/-- what is to be shown of a law whose defs make lambdas -/
def LawT (l : PySem.W.OpenLaw) (w : World) (K : PySem.W.Frag) (k n : Nat) (x : Str) (mg : Str → Option Value) (fa : Addr) (h : Heap) : Prop :=
  ∃ (fd : FuncData) (cs : List (Addr × Addr)) (sp : Sp), (∀ p ∈ cs, h.get? p.2 = some { cls := .none, data := .fields #[] }) ∧ (∀ p ∈ cs, K.lookup p.2 = none) ∧ (∀ p ∈ cs, PySem.W.CodeHd h p.1 p.2) ∧ (∀ (s : Shared) (u : Value), BindsTo s fd ⟨[u], []⟩ [(x, u)]) ∧
    (∀ (H : Hp) (a : Addr) (ns : List Int), ns.length ≤ n → (∀ p ∈ cs, H p.2 = some (.tbl #[])) → SqL K H a (ns.map V.int) → sp [.ref a] H (fun v _ => v = .bl true) fun _ _ _ => False) ∧
    ∀ base : Heap, K.In base → base.Ns mainGlobals mg → (∀ p ∈ cs, TabB base mg p.1 p.2) → FnG l.prog w K mg base CX0 k fa fd [x] sp
theorem walkT {l : PySem.W.OpenLaw} {n k : Nat} {q : Program} {loose : List Str} {XP : (Str → Option Value) → Heap → Prop} {YP : World → Heap → Prop} {d : DefRec} {K : Params → PySem.W.Frag} {x : Str}
    (hn : l.most = some n) (hn2 : n ≤ sizeLine) (hdf : d.params.defaults = []) (hr : Room k callerA) (hY : ∀ (w : World) (h : Heap), YP w h → (K w.params).In h)
    (F : ∀ (w : World) (mg mb : Str → Option Value) (fa : Addr) (h : Heap) (lo : List Str) (me : ExcName → Option Value), YP w h → (K w.params).In h → Top q lo me mg mb h → mg d.name = some (.ref fa) → LawT l w (K w.params) k n x mg fa h) :
    PySem.W.WalkO q loose XP YP l.row.toRowW d [] (fun f vs => PySem.call f vs) := by
  refine Att.attach_callB hn hdf fun w s₀ s₁ mg mb fa o pm cd doc a vs ns G Y ho hd hcd hmg hobj hints hlen hbits hg => ?_
  have KX := hY w _ Y
  obtain ⟨fd, cs, sp, hT, nT, C, hb, hsp, hF⟩ := F w mg mb fa _ _ _ Y KX G.T hmg
  exact lawT KX G.T.g G.T.b G.T.builtins G.T.nolimit hg hT nT C G.T.bmain hobj hints (Nat.le_trans hlen hn2) hr hF hb fun H hH hS => hsp H a ns hlen hH hS
theorem tabIn_of {K : PySem.W.Frag} {x : Str} {f c P : Addr} {oc : Value} {od : Option Addr} {fd : FuncData} {sl : Array (Option Value)} {ob : Value} {oe : Option Addr} {vs : Array Value} {of : Array (Option Value)} (a : PySem.W.nsIn K mainGlobals x = some (some (.ref f))) (l : K.lookup f = some ⟨oc, od, .func fd, sl⟩) (hc : fd.code = .ref c)
    (lc : K.lookup c = some ⟨ob, oe, .fields vs, of⟩) (hv : vs[11]? = some (.ref P)) : PySem.W.tabIn K x = some (c, P) := by
  unfold PySem.W.tabIn
  rw [a]
  simp only [l, hc, lc, hv]
end Hr

namespace K06
open PySem PySem.Spec PyProof.Rows L2 Hr HrM Evl LamX
def topS (i : Nat) : Stmt := PySem.Challenge.pw_holerows_k06_whole_lower_and_upper_numbe.main.body.getD i (.Pass ⟨0, 0, 0, 0⟩)
abbrev s_is_integer : Stmt := topS 6
theorem sc_is_integer : FnScope ["thing"] ["thing"] (defScope s_is_integer) := ⟨rfl, rfl, rfl, by decide +kernel, rfl, by decide +kernel, by decide +kernel⟩
abbrev s_is_integer_from : Stmt := topS 7
theorem sc_is_integer_from : FnScope ["thing", "least"] ["thing", "least"] (defScope s_is_integer_from) := ⟨rfl, rfl, rfl, by decide +kernel, rfl, by decide +kernel, by decide +kernel⟩
abbrev s_cascade_of : Stmt := topS 9
theorem sc_cascade_of : FnScope ["number", "size", "tops", "rest", "place", "top"] ["number", "size"] (defScope s_cascade_of) := ⟨rfl, rfl, rfl, by decide +kernel, rfl, by decide +kernel, by decide +kernel⟩
abbrev s_lower_sets : Stmt := topS 10
theorem sc_lower_sets : FnScope ["number", "size"] ["number", "size"] (defScope s_lower_sets) := ⟨rfl, rfl, rfl, by decide +kernel, rfl, by decide +kernel, by decide +kernel⟩
abbrev s_upper_sets : Stmt := topS 11
theorem sc_upper_sets : FnScope ["number", "size"] ["number", "size"] (defScope s_upper_sets) := ⟨rfl, rfl, rfl, by decide +kernel, rfl, by decide +kernel, by decide +kernel⟩
abbrev s_lower_products : Stmt := topS 12
theorem sc_lower_products : FnScope ["number", "size"] ["number", "size"] (defScope s_lower_products) := ⟨rfl, rfl, rfl, by decide +kernel, rfl, by decide +kernel, by decide +kernel⟩
abbrev s_upper_products : Stmt := topS 13
theorem sc_upper_products : FnScope ["number", "size"] ["number", "size"] (defScope s_upper_products) := ⟨rfl, rfl, rfl, by decide +kernel, rfl, by decide +kernel, by decide +kernel⟩
abbrev s_check_number : Stmt := topS 14
theorem sc_check_number : FnScope ["number"] ["number"] (defScope s_check_number) := ⟨rfl, rfl, rfl, by decide +kernel, rfl, by decide +kernel, by decide +kernel⟩
abbrev s_check_size : Stmt := topS 15
theorem sc_check_size : FnScope ["size"] ["size"] (defScope s_check_size) := ⟨rfl, rfl, rfl, by decide +kernel, rfl, by decide +kernel, by decide +kernel⟩
abbrev s_greatest_top : Stmt := topS 16
theorem sc_greatest_top : FnScope ["number", "size"] ["number", "size"] (defScope s_greatest_top) := ⟨rfl, rfl, rfl, by decide +kernel, rfl, by decide +kernel, by decide +kernel⟩
abbrev s_greatest_within : Stmt := topS 17
theorem sc_greatest_within : FnScope ["number", "least", "count_at", "low", "high", "middle"] ["number", "least", "count_at"] (defScope s_greatest_within) := ⟨rfl, rfl, rfl, by decide +kernel, rfl, by decide +kernel, by decide +kernel⟩
abbrev s_moved_sum : Stmt := topS 18
theorem sc_moved_sum : FnScope ["size", "cascade", "more_things", "more_size", "k", "top"] ["size", "cascade", "more_things", "more_size"] (defScope s_moved_sum) := ⟨rfl, rfl, rfl, by decide +kernel, rfl, by decide +kernel, by decide +kernel⟩
abbrev s_l_deck : Stmt := topS 20
theorem sc_l_deck : FnScope ["script", "mixed", "cell"] ["script"] (defScope s_l_deck) := ⟨rfl, rfl, rfl, by decide +kernel, rfl, by decide +kernel, by decide +kernel⟩
abbrev s_l_draw : Stmt := topS 21
theorem sc_l_draw : FnScope ["deck", "many", "number", "cell"] ["deck", "many"] (defScope s_l_draw) := ⟨rfl, rfl, rfl, by decide +kernel, rfl, by decide +kernel, by decide +kernel⟩
abbrev s_l_pick : Stmt := topS 22
theorem sc_l_pick : FnScope ["deck", "some"] ["deck", "some"] (defScope s_l_pick) := ⟨rfl, rfl, rfl, by decide +kernel, rfl, by decide +kernel, by decide +kernel⟩
abbrev s_l_below : Stmt := topS 23
theorem sc_l_below : FnScope ["deck", "many", "great", "turn"] ["deck", "many"] (defScope s_l_below) := ⟨rfl, rfl, rfl, by decide +kernel, rfl, by decide +kernel, by decide +kernel⟩
abbrev s_l_choose : Stmt := topS 24
theorem sc_l_choose : FnScope ["a", "b", "found", "k"] ["a", "b"] (defScope s_l_choose) := ⟨rfl, rfl, rfl, by decide +kernel, rfl, by decide +kernel, by decide +kernel⟩
abbrev s_l_number : Stmt := topS 25
theorem sc_l_number : FnScope ["deck", "size", "tops", "way", "ahead", "great", "total", "left"] ["deck", "size"] (defScope s_l_number) := ⟨rfl, rfl, rfl, by decide +kernel, rfl, by decide +kernel, by decide +kernel⟩
abbrev s_l_lower : Stmt := topS 26
theorem sc_l_lower : FnScope ["way", "number", "size"] ["way", "number", "size"] (defScope s_l_lower) := ⟨rfl, rfl, rfl, by decide +kernel, rfl, by decide +kernel, by decide +kernel⟩
abbrev s_l_upper : Stmt := topS 27
theorem sc_l_upper : FnScope ["way", "number", "size"] ["way", "number", "size"] (defScope s_l_upper) := ⟨rfl, rfl, rfl, by decide +kernel, rfl, by decide +kernel, by decide +kernel⟩
abbrev s_l_is_integer : Stmt := topS 28
theorem sc_l_is_integer : FnScope ["thing"] ["thing"] (defScope s_l_is_integer) := ⟨rfl, rfl, rfl, by decide +kernel, rfl, by decide +kernel, by decide +kernel⟩
abbrev s_l_is_held : Stmt := topS 29
theorem sc_l_is_held : FnScope ["deck", "way", "n", "size", "most", "near", "far", "m"] ["deck", "way", "n", "size"] (defScope s_l_is_held) := ⟨rfl, rfl, rfl, by decide +kernel, rfl, by decide +kernel, by decide +kernel⟩
abbrev s_l_is_led : Stmt := topS 30
theorem sc_l_is_led : FnScope ["way", "m", "size", "least"] ["way", "m", "size"] (defScope s_l_is_led) := ⟨rfl, rfl, rfl, by decide +kernel, rfl, by decide +kernel, by decide +kernel⟩
abbrev s_l_do_rise : Stmt := topS 31
theorem sc_l_do_rise : FnScope ["deck", "number", "size", "greater", "way", "other"] ["deck", "number", "size"] (defScope s_l_do_rise) := ⟨rfl, rfl, rfl, by decide +kernel, rfl, by decide +kernel, by decide +kernel⟩
abbrev s_law : Stmt := topS 32
theorem sc_law : FnScope ["script", "deck", "size", "number", "way", "small"] ["script"] (defScope s_law) := ⟨rfl, rfl, rfl, by decide +kernel, rfl, by decide +kernel, by decide +kernel⟩
structure Txt (K : PySem.W.Frag) (mg : Str → Option Value) where
  f_is_integer : Addr
  d_is_integer : FuncData
  U_is_integer : Fun K "is_integer" "is_integer" s_is_integer f_is_integer d_is_integer
  g_is_integer : mg "is_integer" = some (.ref f_is_integer)
  b_is_integer : Binds K d_is_integer ["thing"] []
  f_is_integer_from : Addr
  d_is_integer_from : FuncData
  U_is_integer_from : Fun K "is_integer_from" "is_integer_from" s_is_integer_from f_is_integer_from d_is_integer_from
  g_is_integer_from : mg "is_integer_from" = some (.ref f_is_integer_from)
  b_is_integer_from : Binds K d_is_integer_from ["thing", "least"] []
  f_cascade_of : Addr
  d_cascade_of : FuncData
  U_cascade_of : Fun K "cascade_of" "cascade_of" s_cascade_of f_cascade_of d_cascade_of
  g_cascade_of : mg "cascade_of" = some (.ref f_cascade_of)
  b_cascade_of : Binds K d_cascade_of ["number", "size"] []
  f_lower_sets : Addr
  d_lower_sets : FuncData
  U_lower_sets : Fun K "lower_sets" "lower_sets" s_lower_sets f_lower_sets d_lower_sets
  g_lower_sets : mg "lower_sets" = some (.ref f_lower_sets)
  b_lower_sets : Binds K d_lower_sets ["number", "size"] []
  f_upper_sets : Addr
  d_upper_sets : FuncData
  U_upper_sets : Fun K "upper_sets" "upper_sets" s_upper_sets f_upper_sets d_upper_sets
  g_upper_sets : mg "upper_sets" = some (.ref f_upper_sets)
  b_upper_sets : Binds K d_upper_sets ["number", "size"] []
  f_lower_products : Addr
  d_lower_products : FuncData
  U_lower_products : Fun K "lower_products" "lower_products" s_lower_products f_lower_products d_lower_products
  g_lower_products : mg "lower_products" = some (.ref f_lower_products)
  b_lower_products : Binds K d_lower_products ["number", "size"] []
  f_upper_products : Addr
  d_upper_products : FuncData
  U_upper_products : Fun K "upper_products" "upper_products" s_upper_products f_upper_products d_upper_products
  g_upper_products : mg "upper_products" = some (.ref f_upper_products)
  b_upper_products : Binds K d_upper_products ["number", "size"] []
  f_check_number : Addr
  d_check_number : FuncData
  U_check_number : Fun K "check_number" "check_number" s_check_number f_check_number d_check_number
  g_check_number : mg "check_number" = some (.ref f_check_number)
  b_check_number : Binds K d_check_number ["number"] []
  f_check_size : Addr
  d_check_size : FuncData
  U_check_size : Fun K "check_size" "check_size" s_check_size f_check_size d_check_size
  g_check_size : mg "check_size" = some (.ref f_check_size)
  b_check_size : Binds K d_check_size ["size"] []
  f_greatest_top : Addr
  d_greatest_top : FuncData
  U_greatest_top : Fun K "greatest_top" "greatest_top" s_greatest_top f_greatest_top d_greatest_top
  g_greatest_top : mg "greatest_top" = some (.ref f_greatest_top)
  b_greatest_top : Binds K d_greatest_top ["number", "size"] []
  f_greatest_within : Addr
  d_greatest_within : FuncData
  U_greatest_within : Fun K "greatest_within" "greatest_within" s_greatest_within f_greatest_within d_greatest_within
  g_greatest_within : mg "greatest_within" = some (.ref f_greatest_within)
  b_greatest_within : Binds K d_greatest_within ["number", "least", "count_at"] []
  f_moved_sum : Addr
  d_moved_sum : FuncData
  U_moved_sum : Fun K "moved_sum" "moved_sum" s_moved_sum f_moved_sum d_moved_sum
  g_moved_sum : mg "moved_sum" = some (.ref f_moved_sum)
  b_moved_sum : Binds K d_moved_sum ["size", "cascade", "more_things", "more_size"] []
  f_l_deck : Addr
  d_l_deck : FuncData
  U_l_deck : Fun K "_law_deck" "_law_deck" s_l_deck f_l_deck d_l_deck
  g_l_deck : mg "_law_deck" = some (.ref f_l_deck)
  b_l_deck : Binds K d_l_deck ["script"] []
  f_l_draw : Addr
  d_l_draw : FuncData
  U_l_draw : Fun K "_law_draw" "_law_draw" s_l_draw f_l_draw d_l_draw
  g_l_draw : mg "_law_draw" = some (.ref f_l_draw)
  b_l_draw : Binds K d_l_draw ["deck", "many"] []
  f_l_pick : Addr
  d_l_pick : FuncData
  U_l_pick : Fun K "_law_pick" "_law_pick" s_l_pick f_l_pick d_l_pick
  g_l_pick : mg "_law_pick" = some (.ref f_l_pick)
  b_l_pick : Binds K d_l_pick ["deck", "some"] []
  f_l_below : Addr
  d_l_below : FuncData
  U_l_below : Fun K "_law_below" "_law_below" s_l_below f_l_below d_l_below
  g_l_below : mg "_law_below" = some (.ref f_l_below)
  b_l_below : Binds K d_l_below ["deck", "many"] []
  f_l_choose : Addr
  d_l_choose : FuncData
  U_l_choose : Fun K "_law_choose" "_law_choose" s_l_choose f_l_choose d_l_choose
  g_l_choose : mg "_law_choose" = some (.ref f_l_choose)
  b_l_choose : Binds K d_l_choose ["a", "b"] []
  f_l_number : Addr
  d_l_number : FuncData
  U_l_number : Fun K "_law_number" "_law_number" s_l_number f_l_number d_l_number
  g_l_number : mg "_law_number" = some (.ref f_l_number)
  b_l_number : Binds K d_l_number ["deck", "size"] []
  f_l_lower : Addr
  d_l_lower : FuncData
  U_l_lower : Fun K "_law_lower" "_law_lower" s_l_lower f_l_lower d_l_lower
  g_l_lower : mg "_law_lower" = some (.ref f_l_lower)
  b_l_lower : Binds K d_l_lower ["way", "number", "size"] []
  f_l_upper : Addr
  d_l_upper : FuncData
  U_l_upper : Fun K "_law_upper" "_law_upper" s_l_upper f_l_upper d_l_upper
  g_l_upper : mg "_law_upper" = some (.ref f_l_upper)
  b_l_upper : Binds K d_l_upper ["way", "number", "size"] []
  f_l_is_integer : Addr
  d_l_is_integer : FuncData
  U_l_is_integer : Fun K "_law_is_integer" "_law_is_integer" s_l_is_integer f_l_is_integer d_l_is_integer
  g_l_is_integer : mg "_law_is_integer" = some (.ref f_l_is_integer)
  b_l_is_integer : Binds K d_l_is_integer ["thing"] []
  f_l_is_held : Addr
  d_l_is_held : FuncData
  U_l_is_held : Fun K "_law_is_held" "_law_is_held" s_l_is_held f_l_is_held d_l_is_held
  g_l_is_held : mg "_law_is_held" = some (.ref f_l_is_held)
  b_l_is_held : Binds K d_l_is_held ["deck", "way", "n", "size"] []
  f_l_is_led : Addr
  d_l_is_led : FuncData
  U_l_is_led : Fun K "_law_is_led" "_law_is_led" s_l_is_led f_l_is_led d_l_is_led
  g_l_is_led : mg "_law_is_led" = some (.ref f_l_is_led)
  b_l_is_led : Binds K d_l_is_led ["way", "m", "size"] []
  f_l_do_rise : Addr
  d_l_do_rise : FuncData
  U_l_do_rise : Fun K "_law_do_rise" "_law_do_rise" s_l_do_rise f_l_do_rise d_l_do_rise
  g_l_do_rise : mg "_law_do_rise" = some (.ref f_l_do_rise)
  b_l_do_rise : Binds K d_l_do_rise ["deck", "number", "size"] []
  f_law : Addr
  d_law : FuncData
  U_law : Fun K "law" "law" s_law f_law d_law
  g_law : mg "law" = some (.ref f_law)
  b_law : Binds K d_law ["script"] []
  n_bool : mg "bool" = none
  n_enumerate : mg "enumerate" = none
  n_int : mg "int" = none
  n_isinstance : mg "isinstance" = none
  n_len : mg "len" = none
  n_list : mg "list" = none
  n_max : mg "max" = none
  n_min : mg "min" = none
  n_range : mg "range" = none
  n_sum : mg "sum" = none
  n_tuple : mg "tuple" = none
  comb : mg "comb" = some (.builtin "math.comb")
  c_greatest_top : Addr
  P_greatest_top : Addr
  cd_greatest_top : d_greatest_top.code = .ref c_greatest_top
theorem Txt.k_is_integer {K : PySem.W.Frag} {mg : Str → Option Value} (T : Txt K mg) : PySem.W.keepIn K (.ref T.f_is_integer) = true := T.U_is_integer.kp
theorem Txt.k_is_integer_from {K : PySem.W.Frag} {mg : Str → Option Value} (T : Txt K mg) : PySem.W.keepIn K (.ref T.f_is_integer_from) = true := T.U_is_integer_from.kp
theorem Txt.k_cascade_of {K : PySem.W.Frag} {mg : Str → Option Value} (T : Txt K mg) : PySem.W.keepIn K (.ref T.f_cascade_of) = true := T.U_cascade_of.kp
theorem Txt.k_lower_sets {K : PySem.W.Frag} {mg : Str → Option Value} (T : Txt K mg) : PySem.W.keepIn K (.ref T.f_lower_sets) = true := T.U_lower_sets.kp
theorem Txt.k_upper_sets {K : PySem.W.Frag} {mg : Str → Option Value} (T : Txt K mg) : PySem.W.keepIn K (.ref T.f_upper_sets) = true := T.U_upper_sets.kp
theorem Txt.k_lower_products {K : PySem.W.Frag} {mg : Str → Option Value} (T : Txt K mg) : PySem.W.keepIn K (.ref T.f_lower_products) = true := T.U_lower_products.kp
theorem Txt.k_upper_products {K : PySem.W.Frag} {mg : Str → Option Value} (T : Txt K mg) : PySem.W.keepIn K (.ref T.f_upper_products) = true := T.U_upper_products.kp
theorem Txt.k_check_number {K : PySem.W.Frag} {mg : Str → Option Value} (T : Txt K mg) : PySem.W.keepIn K (.ref T.f_check_number) = true := T.U_check_number.kp
theorem Txt.k_check_size {K : PySem.W.Frag} {mg : Str → Option Value} (T : Txt K mg) : PySem.W.keepIn K (.ref T.f_check_size) = true := T.U_check_size.kp
theorem Txt.k_greatest_top {K : PySem.W.Frag} {mg : Str → Option Value} (T : Txt K mg) : PySem.W.keepIn K (.ref T.f_greatest_top) = true := T.U_greatest_top.kp
theorem Txt.k_greatest_within {K : PySem.W.Frag} {mg : Str → Option Value} (T : Txt K mg) : PySem.W.keepIn K (.ref T.f_greatest_within) = true := T.U_greatest_within.kp
theorem Txt.k_moved_sum {K : PySem.W.Frag} {mg : Str → Option Value} (T : Txt K mg) : PySem.W.keepIn K (.ref T.f_moved_sum) = true := T.U_moved_sum.kp
theorem Txt.k_l_deck {K : PySem.W.Frag} {mg : Str → Option Value} (T : Txt K mg) : PySem.W.keepIn K (.ref T.f_l_deck) = true := T.U_l_deck.kp
theorem Txt.k_l_draw {K : PySem.W.Frag} {mg : Str → Option Value} (T : Txt K mg) : PySem.W.keepIn K (.ref T.f_l_draw) = true := T.U_l_draw.kp
theorem Txt.k_l_pick {K : PySem.W.Frag} {mg : Str → Option Value} (T : Txt K mg) : PySem.W.keepIn K (.ref T.f_l_pick) = true := T.U_l_pick.kp
theorem Txt.k_l_below {K : PySem.W.Frag} {mg : Str → Option Value} (T : Txt K mg) : PySem.W.keepIn K (.ref T.f_l_below) = true := T.U_l_below.kp
theorem Txt.k_l_choose {K : PySem.W.Frag} {mg : Str → Option Value} (T : Txt K mg) : PySem.W.keepIn K (.ref T.f_l_choose) = true := T.U_l_choose.kp
theorem Txt.k_l_number {K : PySem.W.Frag} {mg : Str → Option Value} (T : Txt K mg) : PySem.W.keepIn K (.ref T.f_l_number) = true := T.U_l_number.kp
theorem Txt.k_l_lower {K : PySem.W.Frag} {mg : Str → Option Value} (T : Txt K mg) : PySem.W.keepIn K (.ref T.f_l_lower) = true := T.U_l_lower.kp
theorem Txt.k_l_upper {K : PySem.W.Frag} {mg : Str → Option Value} (T : Txt K mg) : PySem.W.keepIn K (.ref T.f_l_upper) = true := T.U_l_upper.kp
theorem Txt.k_l_is_integer {K : PySem.W.Frag} {mg : Str → Option Value} (T : Txt K mg) : PySem.W.keepIn K (.ref T.f_l_is_integer) = true := T.U_l_is_integer.kp
theorem Txt.k_l_is_held {K : PySem.W.Frag} {mg : Str → Option Value} (T : Txt K mg) : PySem.W.keepIn K (.ref T.f_l_is_held) = true := T.U_l_is_held.kp
theorem Txt.k_l_is_led {K : PySem.W.Frag} {mg : Str → Option Value} (T : Txt K mg) : PySem.W.keepIn K (.ref T.f_l_is_led) = true := T.U_l_is_led.kp
theorem Txt.k_l_do_rise {K : PySem.W.Frag} {mg : Str → Option Value} (T : Txt K mg) : PySem.W.keepIn K (.ref T.f_l_do_rise) = true := T.U_l_do_rise.kp
theorem Txt.k_law {K : PySem.W.Frag} {mg : Str → Option Value} (T : Txt K mg) : PySem.W.keepIn K (.ref T.f_law) = true := T.U_law.kp
section
variable {P : Program} {w : World} {K : PySem.W.Frag} {mg : Str → Option Value} {base : Heap}

def sp_isint : Sp := fun vs H Q _ => ∃ n : Int, vs = [.int n] ∧ Q (.bl true) H
theorem ok_is_integer (T : Txt K mg) : FnOk P w K mg base CX0 1 T.f_is_integer T.d_is_integer ["thing"] sp_isint := by
  refine T.U_is_integer.ok sc_is_integer (fun vs H Q E h => ?_) (fun cdv A outer s H vs Q E hr h => ?_)
  · obtain ⟨n, rfl, _⟩ := h
    rfl
  · obtain ⟨n, rfl, q⟩ := h
    refine ⟨_, (pss_one (ps_ret (pe_and (pe_callB call_isi (by rfl) T.n_isinstance (by decide +kernel) (pa_cons (pv 0) (pa_cons (pe_bltn (v := .ty "int") (u := .type "int") (by rfl) T.n_int (by decide +kernel) rfl) pa_nil))) (pe_one (pe_not (pe_callB call_isi (by rfl) T.n_isinstance (by decide +kernel) (pa_cons (pv 0) (pa_cons (pe_bltn (v := .ty "bool") (u := .type "bool") (by rfl) T.n_bool (by decide +kernel) rfl) pa_nil)))))))), ?_⟩
    refine ⟨_, rfl, _, _, _, _, true, rfl, .ty "int", .base (.int n), kit_ty (by decide +kernel), true, rfl, iteT ?_⟩
    exact ⟨_, rfl, _, _, _, _, false, rfl, .ty "bool", .base (.int n), kit_ty (by decide +kernel), false, rfl, q⟩
def sp_is_integer_from : Sp := fun vs H Q _ => ∃ n l : Int, vs = [.int n, .int l] ∧ Q (.bl (decide (l ≤ n))) H
theorem ok_is_integer_from (T : Txt K mg) : FnOk P w K mg base CX0 2 T.f_is_integer_from T.d_is_integer_from ["thing", "least"] sp_is_integer_from := by
  have F_is_integer := ok_is_integer (P := P) (w := w) (base := base) T
  refine T.U_is_integer_from.ok sc_is_integer_from (fun vs H Q E h => ?_) (fun cdv A outer s H vs Q E hr h => ?_)
  · obtain ⟨n, l, rfl, _⟩ := h
    rfl
  · obtain ⟨n, l, rfl, q⟩ := h
    refine ⟨_, (pss_one (ps_ret (pe_and (pe_call F_is_integer (hr.mono (by decide)) (by rfl) T.g_is_integer T.k_is_integer T.b_is_integer .nil pass0 (pa_cons (pv 0) pa_nil)) (pe_one (pe_cmpR op_ge (pv 0) (pv 1) (nomark _)))))), ?_⟩
    exact ⟨_, rfl, n, rfl, true, rfl, iteT ⟨_, rfl, _, rfl, _, _, rfl, rfl, q⟩⟩

def sp_check (least : Int) : Sp := fun vs H Q _ => ∃ n : Int, vs = [.int n] ∧ least ≤ n ∧ Q .non H
theorem ok_check_number (T : Txt K mg) : FnOk P w K mg base CX0 3 T.f_check_number T.d_check_number ["number"] (sp_check 0) := by
  have F_is_integer_from := ok_is_integer_from (P := P) (w := w) (base := base) T
  refine T.U_check_number.ok sc_check_number (fun vs H Q E h => ?_) (fun cdv A outer s H vs Q E hr h => ?_)
  · obtain ⟨n, rfl, _⟩ := h
    rfl
  · obtain ⟨n, rfl, hn, q⟩ := h
    refine ⟨_, (pss_one (ps_if (pt_not (pt_val (pe_call F_is_integer_from (hr.mono (by decide)) (by rfl) T.g_is_integer_from T.k_is_integer_from T.b_is_integer_from .nil pass0 (pa_cons (pv 0) (pa_cons pe_int pa_nil))))) (pss_one ps_never) pss_nil)), ?_⟩
    refine ⟨_, rfl, n, 0, rfl, _, rfl, ?_⟩
    rw [decide_eq_true hn]
    exact iteF q
theorem ok_check_size (T : Txt K mg) : FnOk P w K mg base CX0 3 T.f_check_size T.d_check_size ["size"] (sp_check 1) := by
  have F_is_integer_from := ok_is_integer_from (P := P) (w := w) (base := base) T
  refine T.U_check_size.ok sc_check_size (fun vs H Q E h => ?_) (fun cdv A outer s H vs Q E hr h => ?_)
  · obtain ⟨n, rfl, _⟩ := h
    rfl
  · obtain ⟨n, rfl, hn, q⟩ := h
    refine ⟨_, (pss_one (ps_if (pt_not (pt_val (pe_call F_is_integer_from (hr.mono (by decide)) (by rfl) T.g_is_integer_from T.k_is_integer_from T.b_is_integer_from .nil pass0 (pa_cons (pv 0) (pa_cons pe_int pa_nil))))) (pss_one ps_never) pss_nil)), ?_⟩
    refine ⟨_, rfl, n, 1, rfl, _, rfl, ?_⟩
    rw [decide_eq_true hn]
    exact iteF q

/-! the greatest top -/
theorem ch_more {s : Nat} (hs : 1 ≤ s) : ∀ l : Nat, l + 1 ≤ ch (s + l) s
  | 0 => by
    show 1 ≤ ch s s
    rw [ch_self]
    exact Nat.le_refl 1
  | l + 1 => by
    have ih := ch_more hs l
    obtain ⟨t, rfl⟩ : ∃ t, s = t + 1 := ⟨s - 1, by omega⟩
    have h1 := ch_pos (n := t + 1 + l) (k := t) (by omega)
    have e := ch_succ (t + 1 + l) t
    have e2 : t + 1 + (l + 1) = t + 1 + l + 1 := by omega
    rw [e2, e]
    omega
theorem ccomb {a b m : Nat} (h : a < 2 ^ m) (hb : b ≤ 20) (hm : 0 < m) (hm2 : m ≤ 5000) : CComb (a : Int) (b : Int) :=
  ⟨by omega, by omega, by omega, by rw [comb_nat]; exact ch_bits h hb hm hm2⟩
theorem comb_add (s h : Nat) : PySem.W.mcComb ((s : Int) + (h : Int)) (s : Int) = ((ch (s + h) s : Nat) : Int) := by
  rw [← Int.natCast_add]
  exact comb_nat _ _
theorem ccomb_add {s h N : Nat} (hs : s ≤ 17) (hN : N < 2 ^ 1900) (hh : h ≤ 2 * N + 2) : CComb ((s : Int) + (h : Int)) (s : Int) := by
  rw [← Int.natCast_add]
  refine ccomb (m := 1903) ?_ (by omega) (by decide) (by decide)
  have e : 2 ^ 1903 = 8 * 2 ^ 1900 := by exact Nat.pow_add 2 3 1900
  have h2 : 2 ^ 10 ≤ 2 ^ 1900 := Nat.pow_le_pow_right (by decide) (by decide)
  rw [e]
  generalize 2 ^ 1900 = z at *
  omega
/-- the greatest place by a growing count G from s on, the count told by tl -/
def TTw : V → V → (V → Hp → VK → Prop) → Hp → VK → Prop := fun v1 v2 tl H Q => ∃ (N s : Nat) (G : Nat → Nat), v1 = .int N ∧ v2 = .int s ∧ 1 ≤ N ∧ G 0 ≤ N ∧ (∀ x, x + 1 ≤ G x) ∧
  (∀ x, x ≤ 2 * N + 2 → ∀ Q' : VK, Q' (.int ((G x : Nat) : Int)) H → tl (.int ((s : Int) + (x : Int))) H Q') ∧ ∀ l : Nat, G l ≤ N → N < G (l + 1) → Q (.int ((s : Int) + (l : Int))) H
theorem within_to {X : Cx} (T : Txt X.K X.mg) (g : Addr) (cdg : Value) (q : Str) : Gives1 X ["number", "least", "count_at", "low", "high", "middle"] "greatest_within" (defScope s_greatest_within) g cdg (defBody s_greatest_within) "count_at" q TTw := by
  intro f c' s0 H Q v1 v2 tl act hr hc h
  obtain ⟨N, s, G, rfl, rfl, hN1, hG0, hG, htl, q⟩ := h
  refine ⟨_, (pss_cons (ps_set (i := 3) sc_greatest_within.nd rfl (.inl rfl) pe_int)
  (pss_cons (ps_set (i := 4) sc_greatest_within.nd rfl (.inl rfl) pe_int)
  (pss_cons (ps_while PassesOwn.never (pt_cmpR op_le (act _ _ _ _ (pa_cons (pe_op op_add (pv 1) (pv 4)) pa_nil) (fun _ => rfl)) (pv 0) (nomark _)) (pss_cons (ps_set (i := 3) sc_greatest_within.nd rfl (.inl rfl) (pv 4))
  (pss_one (ps_set (i := 4) sc_greatest_within.nd rfl (.inl rfl) (pe_op op_mul pe_int (pv 4))))))
  (pss_cons (ps_while PassesOwn.never (pt_cmpR op_gt (pe_op op_sub (pv 4) (pv 3)) pe_int (nomark _)) (pss_cons (ps_set (i := 5) sc_greatest_within.nd rfl (.inl rfl) (pe_op op_fdivN (pe_op op_add (pv 3) (pv 4)) pe_int))
  (pss_one (ps_if (pt_cmpR op_le (act _ _ _ _ (pa_cons (pe_op op_add (pv 1) (pv 5)) pa_nil) (fun _ => rfl)) (pv 0) (nomark _)) (pss_one (ps_set (i := 3) sc_greatest_within.nd rfl (.inl rfl) (pv 5))) (pss_one (ps_set (i := 4) sc_greatest_within.nd rfl (.inl rfl) (pv 5)))))))
  (pss_one (ps_ret (pe_op op_add (pv 1) (pv 3)))))))), ?_⟩
  refine ⟨fun m σ H' => ∃ l h : Nat, σ = [some (.int N), some (.int s), some (.ref f), some (.int l), some (.int h), none] ∧ H' = H ∧ m = 2 * N + 1 - h ∧ 1 ≤ h ∧ h ≤ 2 * N ∧ l < h ∧ G l ≤ N,
    ⟨_, 0, 1, rfl, rfl, rfl, by omega, by omega, by omega, hG0⟩, ?_⟩
  rintro m σ H' ⟨l, h, rfl, rfl, rfl, h1, h2, h3, h4⟩
  refine ⟨rfl, _, rfl, _, rfl, _, _, rfl, rfl, _, rfl, hc, htl h (by omega) _ ?_⟩
  refine ⟨_, rfl, _, _, rfl, rfl, _, rfl, ite2 (fun e => ?_) (fun e => ?_)⟩
  · have e' : G h ≤ N := by have := of_decide_eq_true e; omega
    have hm := hG h
    refine ⟨fun σ' H'' => ∃ l' h' : Nat, σ' = [some (.int N), some (.int s), some (.ref f), some (.int l'), some (.int h'), none] ∧ H'' = H' ∧ 1 ≤ h' ∧ h' ≤ 2 * N ∧ l' < h' ∧ G l' ≤ N ∧ h < h', ?_, ?_⟩
    · rintro σ' H'' ⟨l', h', rfl, rfl, g1, g2, g3, g4, g5⟩
      exact ⟨2 * N + 1 - h', by omega, l', h', rfl, rfl, rfl, g1, g2, g3, g4⟩
    · refine ⟨_, rfl, _, rfl, _, _, rfl, rfl, .inl ⟨by decide, by decide⟩, ?_⟩
      exact ⟨h, 2 * h, rfl, rfl, by omega, by omega, by omega, e', by omega⟩
  · have e' : N < G h := by
      by_cases z : G h ≤ N
      · exact absurd (decide_eq_true (by omega)) e
      · omega
    refine ⟨fun m σ H'' => ∃ (l' h' : Nat) (y : Option V), σ = [some (.int N), some (.int s), some (.ref f), some (.int l'), some (.int h'), y] ∧ H'' = H' ∧ m = h' - l' ∧ l' < h' ∧ h' ≤ 2 * N ∧ G l' ≤ N ∧ N < G h',
      ⟨_, l, h, none, rfl, rfl, rfl, h3, h2, h4, e'⟩, ?_⟩
    rintro m σ H'' ⟨l, h, y, rfl, rfl, rfl, g1, g2, g3, g4⟩
    refine ⟨_, rfl, _, rfl, _, _, rfl, rfl, _, _, rfl, rfl, _, rfl, ite2 (fun e => ?_) (fun e => ?_)⟩
    · have e2 : 1 < h - l := by have := of_decide_eq_true e; omega
      refine ⟨fun σ' H2 => ∃ (l' h' : Nat) (y : Option V), σ' = [some (.int N), some (.int s), some (.ref f), some (.int l'), some (.int h'), y] ∧ H2 = H'' ∧ l' < h' ∧ h' ≤ 2 * N ∧ G l' ≤ N ∧ N < G h' ∧ h' - l' < h - l, ?_, ?_⟩
      · rintro σ' H2 ⟨l', h', y', rfl, rfl, k1, k2, k3, k4, k5⟩
        exact ⟨h' - l', k5, l', h', y', rfl, rfl, rfl, k1, k2, k3, k4⟩
      · obtain ⟨c, hcc, hc1, hc2⟩ : ∃ c : Nat, ((l : Int) + (h : Int)).fdiv 2 = (c : Int) ∧ l < c ∧ c < h := by
          rw [Int.fdiv_eq_ediv_of_nonneg _ (by decide)]
          exact ⟨(l + h) / 2, by omega, by omega, by omega⟩
        refine ⟨_, rfl, _, rfl, _, _, rfl, rfl, _, _, rfl, rfl, ⟨by decide, by decide⟩, ?_⟩
        simp only [hcc]
        refine ⟨rfl, _, rfl, _, rfl, _, _, rfl, rfl, _, rfl, hc, htl c (by omega) _ ?_⟩
        refine ⟨_, rfl, _, _, rfl, rfl, _, rfl, ite2 (fun e3 => ?_) (fun e3 => ?_)⟩
        · have e4 : G c ≤ N := by have := of_decide_eq_true e3; omega
          exact ⟨_, rfl, c, h, _, rfl, rfl, hc2, g2, e4, g4, by omega⟩
        · have e4 : N < G c := by
            by_cases z : G c ≤ N
            · exact absurd (decide_eq_true (by omega)) e3
            · omega
          exact ⟨_, rfl, l, c, _, rfl, rfl, hc1, by omega, g3, e4, by omega⟩
    · have e2 : h = l + 1 := by
        by_cases z : 1 < h - l
        · exact absurd (decide_eq_true (by omega)) e
        · omega
      subst e2
      exact ⟨_, rfl, _, rfl, _, _, rfl, rfl, q l g3 g4⟩
theorem pe_within {X : Cx} (T : Txt X.K X.mg) {c P : Addr} {b : Str} {params : Arguments} {body e1 e2 : Expr} {scope : Scope} {t1 t2 tb : TE} {p lpos pos : Pos} (TB : TabB X.base X.mg c P) (hcode : X.env.code = .ref c) (hr : Room 2 X.A) (hg : Gl X "greatest_within") (L : LamS1 X.env.scope scope b) (hb : b ∉ X.N) (hdef : defaultsOf params X.env = ([], []))
    (h1 : PE X e1 t1) (h2 : PE X e2 t2) (hbind : ∀ (q : Str) (cl : List (Str × Addr)) (pm cv ctv u : Value), bindArgs (PySem.W.kla_fn "<lambda>" q params body scope cl pm cv ctv) ⟨[u], []⟩ = pure [(b, u)])
    (hbody : ∀ (A : Around) (outer : List Env) (s : Shared) (H : Hp) (E : XK) (f c' : Addr), Room 0 (A.deeper (lamEnv X scope s.heap.objs.size f c')) → PE (lamCx1 X A outer s H E scope f c' b) body tb)
    (he : starEach [e1, e2, .Lambda params body scope lpos] X.env = (false, eval e1 X.env) :: starEach [e2, .Lambda params body scope lpos] X.env := by rfl)
    (he2 : starEach [e2, .Lambda params body scope lpos] X.env = (false, eval e2 X.env) :: starEach [.Lambda params body scope lpos] X.env := by rfl)
    (hpl : (backTo pos (starEach [e2, .Lambda params body scope lpos] X.env)).any (·.1) = false := by rfl) :
    PE X (.Call (.Name "greatest_within" p) [e1, e2, .Lambda params body scope lpos] [] pos) (tLam1 [(P, X.env.qual ++ "<lambda>")] TTw t1 t2 tb) := by
  obtain ⟨oc, od, kV, doc, pm, an, cdv, ct, osl, efd, lk, hcd⟩ := T.U_greatest_within.ex
  have hbg := T.b_greatest_within
  rw [efd] at hbg lk
  exact pe_lamcall1 (k := 0) hg T.g_greatest_within T.k_greatest_within lk hcd hbg sc_greatest_within rfl (.inl rfl) (within_to T _ _ _) h1 h2 TB hcode (List.mem_singleton.mpr rfl) (fun p hp _ => by rw [List.mem_singleton.mp hp]) hr L hb hdef hbind hbody he he2 hpl
/-- the table of greatest_top's code objects -/
def topT (P0 : Addr) : List (Addr × Str) := [(P0, (("greatest_top" : Str) ++ ".<locals>.") ++ "<lambda>")]
def sp_greatest_top (P0 : Addr) : Sp := fun vs H Q _ => ∃ N s : Nat, vs = [.int N, .int s] ∧ 1 ≤ N ∧ N < 2 ^ 1900 ∧ 1 ≤ s ∧ s ≤ 17 ∧ Tabs (topT P0) H ∧ ∀ a : Nat, ch a s ≤ N → N < ch (a + 1) s → RetVk (topT P0) (.int a) H Q
theorem ok_greatest_top (T : Txt K mg) (TB : TabB base mg T.c_greatest_top T.P_greatest_top) : FnOk P w K mg base CX0 3 T.f_greatest_top T.d_greatest_top ["number", "size"] (sp_greatest_top T.P_greatest_top) := by
  refine okC T.U_greatest_top sc_greatest_top (fun vs H Q E h => ?_) (fun cdv A outer s H vs Q E hcd hr h => ?_)
  · obtain ⟨n, l, rfl, _⟩ := h
    rfl
  · obtain ⟨N, s, rfl, hN1, hN, hs1, hs, hT, q⟩ := h
    have hcode : cdv = .ref T.c_greatest_top := hcd.symm.trans T.cd_greatest_top
    have hr' := hr
    refine ⟨_, (pss_one (ps_ret (pe_within T TB hcode hr' (by rfl) (lam1_by (sc := defScope s_greatest_top) (by decide +kernel)) (show ("top" : Str) ∉ (["number", "size"] : List Str) by decide) rfl (pv 0) (pv 1) (fun _ _ _ _ _ _ => rfl) (fun A outer s H E f c' hr2 => pe_callBfun cr_comb (by rfl) T.comb (pa_cons (pe_var (i := 0) rfl (.inl rfl) (by decide) (by decide)) (pa_cons (pe_var (i := 2) rfl (.inr (.inr rfl)) (by decide) (by decide)) pa_nil)))))), ?_⟩
    refine ⟨_, rfl, _, rfl, hT, fun H3 e3 T3 => ?_⟩
    have ek : Ek (topT T.P_greatest_top) H H3 := ⟨e3, fun _ => T3⟩
    refine ⟨N, s, fun x => ch (s + x) s, rfl, rfl, hN1, ?_, ch_more hs1, fun x hx Q' q' => ?_, fun l h1 h2 => ?_⟩
    · show ch (s + 0) s ≤ N
      rw [Nat.add_zero, ch_self]
      exact hN1
    · refine ⟨_, rfl, _, rfl, _, _, rfl, ccomb_add hs hN hx, ?_⟩
      rw [comb_add]
      exact q'
    · have := q (s + l) h1 h2 H3 ek
      rw [Int.natCast_add] at this
      exact this
end
end K06

namespace K06
open PySem PySem.Spec PyProof.Rows L2 Hr HrM Evl LamX
section
variable {P : Program} {w : World} {K : PySem.W.Frag} {mg : Str → Option Value} {base : Heap}
theorem top_lt {a p r : Nat} (hp : 1 ≤ p) (h : ch a p ≤ r) (hr : 1 ≤ r) : a < p + r := by
  by_cases z : p ≤ a
  · have := ch_more hp (a - p)
    rw [show p + (a - p) = a by omega] at this
    omega
  · omega
theorem big_pow {r : Nat} (h : r < 2 ^ 1900) (k : Nat) (hk : k ≤ 1000) : r + k < 2 ^ 1910 := by
  have e : 2 ^ 1910 = 1024 * 2 ^ 1900 := Nat.pow_add 2 10 1900
  have h2 : 2 ^ 10 ≤ 2 ^ 1900 := Nat.pow_le_pow_right (by decide) (by decide)
  rw [e]
  generalize 2 ^ 1900 = z at *
  omega
def tz (xs : List Nat) : List V := (iz xs).map V.int
theorem tz_len (xs : List Nat) : (tz xs).length = xs.length := by unfold tz; rw [List.length_map, iz_len]
theorem tz_get (xs : List Nat) (i : Nat) : (tz xs)[i]? = Option.map (fun (n : Nat) => V.int (n : Int)) xs[i]? := by
  unfold tz
  rw [List.getElem?_map, iz_get, Option.map_map]
  rfl
theorem tz_snoc (xs : List Nat) (a : Nat) : tz (xs ++ [a]) = tz xs ++ [.int a] := by
  unfold tz
  rw [iz_append, List.map_append]
  rfl
theorem tz_at {xs : List Nat} {i : Nat} {x : V} (h : (tz xs)[i]? = some x) : ∃ a : Nat, xs[i]? = some a ∧ x = .int (a : Int) := by
  rw [tz_get] at h
  cases e : xs[i]? with
  | none => rw [e] at h; cases h
  | some a => rw [e] at h; cases h; exact ⟨a, rfl, rfl⟩
theorem tz_range (ts : List Nat) {n : Nat} (hn : n = ts.length) : (List.range n).map (fun i => V.int ((ts.getD i 0 : Nat) : Int)) = tz ts := by
  subst hn
  apply List.ext_getElem?
  intro i
  rw [List.getElem?_map, tz_get]
  by_cases hi : i < ts.length
  · rw [List.getElem?_range hi, List.getElem?_eq_getElem hi]
    have : ts.getD i 0 = ts[i] := by rw [List.getD_eq_getElem?_getD, List.getElem?_eq_getElem hi]; rfl
    show some (V.int ((ts.getD i 0 : Nat) : Int)) = some (V.int ((ts[i] : Nat) : Int))
    rw [this]
  · rw [List.getElem?_eq_none (by rw [List.length_range]; omega), List.getElem?_eq_none (by omega)]
    rfl
/-- a def that hands back a new tuple: what its caller wants -/
def RetT (xs : List V) (H : Hp) (Q : VK) : Prop := ∀ p H2, H p = none → Ex H H2 → H2 p = some (.tup xs) → Q (.ref p) H2
def sp_cascade_of (P0 : Addr) : Sp := fun vs H Q _ => ∃ N s : Nat, vs = [.int N, .int s] ∧ N < 2 ^ 1900 ∧ 1 ≤ s ∧ s ≤ 17 ∧ Tabs (topT P0) H ∧ ∀ xs, Cas s xs → val s xs = N → RetTk (topT P0) (tz xs) H Q
theorem ok_cascade_of (T : Txt K mg) (TB : TabB base mg T.c_greatest_top T.P_greatest_top) : FnOk P w K mg base CX0 4 T.f_cascade_of T.d_cascade_of ["number", "size"] (sp_cascade_of T.P_greatest_top) := by
  have F_check_number := ok_check_number (P := P) (w := w) (base := base) T
  have F_check_size := ok_check_size (P := P) (w := w) (base := base) T
  have F_greatest_top := ok_greatest_top (P := P) (w := w) (base := base) T TB
  refine T.U_cascade_of.ok sc_cascade_of (fun vs H Q E h => ?_) (fun cdv A outer s H vs Q E hr h => ?_)
  · obtain ⟨n, l, rfl, _⟩ := h
    rfl
  · obtain ⟨N, s, rfl, hN, hs1, hs, hT, q⟩ := h
    refine ⟨_, (pss_cons (ps_expr (pe_call F_check_number (hr.mono (by decide)) (by rfl) T.g_check_number T.k_check_number T.b_check_number .nil pass0 (pa_cons (pv 0) pa_nil)))
  (pss_cons (ps_expr (pe_call F_check_size (hr.mono (by decide)) (by rfl) T.g_check_size T.k_check_size T.b_check_size .nil pass0 (pa_cons (pv 1) pa_nil)))
  (pss_cons (ps_set (i := 2) sc_cascade_of.nd rfl (.inl rfl) (pe_lst pa_nil))
  (pss_cons (ps_set (i := 3) sc_cascade_of.nd rfl (.inl rfl) (pv 0))
  (pss_cons (ps_set (i := 4) sc_cascade_of.nd rfl (.inl rfl) (pv 1))
  (pss_cons (ps_while PassesOwn.never (pt_cmpR op_gt (pv 3) pe_int (nomark _)) (pss_cons (ps_set (i := 5) sc_cascade_of.nd rfl (.inl rfl) (pe_call F_greatest_top (hr.mono (by decide)) (by rfl) T.g_greatest_top T.k_greatest_top T.b_greatest_top .nil pass0 (pa_cons (pv 3) (pa_cons (pv 4) pa_nil))))
  (pss_cons (ps_expr (pe_bm PySem.F.plainAttrs_list PySem.F.slot_list_append PySem.F.type_list_append mt_append (pv 2) (pa_cons (pv 5) pa_nil)))
  (pss_cons (ps_set (i := 3) sc_cascade_of.nd rfl (.inl rfl) (pe_op op_sub (pv 3) (pe_callBfun cr_comb (by rfl) T.comb (pa_cons (pv 5) (pa_cons (pv 4) pa_nil)))))
  (pss_one (ps_set (i := 4) sc_cascade_of.nd rfl (.inl rfl) (pe_op op_sub (pv 4) pe_int)))))))
  (pss_one (ps_ret (pe_callTy call_tuple_of (by rfl) T.n_tuple (by decide +kernel) (pa_cons (pv 2) pa_nil)))))))))), ?_⟩
    refine ⟨_, rfl, _, rfl, by omega, _, rfl, _, rfl, by omega, ?_⟩
    refine ⟨Nat.zero_le _, fun o no => ⟨_, rfl, _, rfl, ?_⟩⟩
    refine ⟨fun m σ H' => ∃ (xs : List Nat) (r p : Nat) (y : Option V), σ = [some (.int N), some (.int s), some (.ref o), some (.int r), some (.int p), y] ∧ Cas s xs ∧ xs.length + p = s ∧ val s xs + r = N ∧ (∀ b, xs.getLast? = some b → r < ch b p) ∧ Ek (topT T.P_greatest_top) H H' ∧ H' o = some (.lst (tz xs)) ∧ m = p,
      ⟨_, [], N, s, none, rfl, Cas.nil s, Nat.zero_add s, Nat.zero_add N, fun b h => (nomatch h), Ek.new no, upd_same, rfl⟩, ?_⟩
    rintro m σ H' ⟨xs, r, p, y, rfl, c, h1, h2, h3, ex, ho, rfl⟩
    refine ⟨_, rfl, _, _, rfl, rfl, _, rfl, ite2 (fun e => ?_) (fun e => ?_)⟩
    · have hr0 : 1 ≤ r := by have := of_decide_eq_true e; omega
      have hp : 1 ≤ m := by
        by_cases z : m = 0
        · subst z
          cases hx : xs.getLast? with
          | none =>
            rw [List.getLast?_eq_none_iff] at hx
            subst hx
            simp at h1
            omega
          | some b =>
            have := h3 b hx
            rw [ch_zero] at this
            omega
        · omega
      refine ⟨fun σ' H2 => ∃ (xs : List Nat) (r p : Nat) (y : Option V), σ' = [some (.int N), some (.int s), some (.ref o), some (.int r), some (.int p), y] ∧ Cas s xs ∧ xs.length + p = s ∧ val s xs + r = N ∧ (∀ b, xs.getLast? = some b → r < ch b p) ∧ Ek (topT T.P_greatest_top) H H2 ∧ H2 o = some (.lst (tz xs)) ∧ p < m, ?_, ?_⟩
      · rintro σ' H2 ⟨xs', r', p', y', rfl, c', k1, k2, k3, k4, k5, k6⟩
        exact ⟨p', k6, xs', r', p', y', rfl, c', k1, k2, k3, k4, k5, rfl⟩
      · refine ⟨_, rfl, _, rfl, r, m, rfl, hr0, by omega, hp, by omega, ex.t hT, fun a ha1 ha2 H4 e4 => ?_⟩
        replace ho := e4.get ho
        replace ex := ex.trans e4
        obtain ⟨c2, hlt⟩ := cas_add c h1 hp hr0 h3 ha1 ha2
        refine ⟨_, rfl, .inl ⟨rfl, _, SqL.of ho⟩, _, rfl, o, _, _, rfl, rfl, ho, ?_, ?_⟩
        · rw [tz_len]
          exact small1000 (by omega)
        · have hal := top_lt hp ha1 hr0
          have hbig := big_pow (show r < 2 ^ 1900 by omega) m (by omega)
          refine ⟨_, rfl, _, rfl, _, rfl, (a : Int), (m : Int), rfl, ccomb (m := 1910) (by omega) (by omega) (by decide) (by decide), _, _, rfl, rfl, ?_⟩
          refine ⟨_, rfl, _, _, rfl, rfl, xs ++ [a], r - ch a m, m - 1, some (.int a), ?_, c2, ?_, ?_, ?_, Ek.mutL ex no ho, ?_, by omega⟩
          · rw [comb_nat]
            have e1 : ((r : Int) - ((ch a m : Nat) : Int)) = ((r - ch a m : Nat) : Int) := by omega
            have e2 : ((m : Int) - 1) = ((m - 1 : Nat) : Int) := by omega
            rw [← e1, ← e2]
            rfl
          · rw [List.length_append, List.length_singleton]
            omega
          · rw [val_snoc, show s - xs.length = m by omega]
            omega
          · intro b hb
            rw [List.getLast?_append] at hb
            have : a = b := by simpa using hb
            subst this
            exact hlt
          · rw [tz_snoc]
            exact upd_same
    · have hr0 : r = 0 := by
        by_cases z : 0 < r
        · exact absurd (decide_eq_true (by omega)) e
        · omega
      subst hr0
      refine ⟨_, rfl, o, _, rfl, .inl ⟨SqL.of ho, fun l hl => ?_⟩⟩
      exact q xs c (by omega) l _ (ex.trans (Ek.new hl)) upd_same

def sp_moved_sum : Sp := fun vs H Q _ => ∃ (s : Nat) (c : Addr) (xs : List Nat) (mt ms : Int) (A I : Nat → Nat), vs = [.int s, .ref c, .int mt, .int ms] ∧ H c = some (.tup (tz xs)) ∧ xs.length ≤ s ∧ s ≤ 17 ∧
  (∀ (i a : Nat), xs[i]? = some a → (a : Int) + mt = ((A a : Nat) : Int) ∧ ((s : Int) - (i : Int)) + ms = ((I (s - i) : Nat) : Int) ∧ A a < 2 ^ 2000 ∧ I (s - i) ≤ 20) ∧ RetV (.int (((terms (fun a i => ch (A a) (I i)) s xs).sum : Nat) : Int)) H Q
theorem ok_moved_sum (T : Txt K mg) : FnOk P w K mg base CX0 2 T.f_moved_sum T.d_moved_sum ["size", "cascade", "more_things", "more_size"] sp_moved_sum := by
  refine T.U_moved_sum.ok sc_moved_sum (fun vs H Q E h => ?_) (fun cdv A outer s H vs Q E hr h => ?_)
  · obtain ⟨_, _, _, _, _, _, _, rfl, _⟩ := h
    rfl
  · obtain ⟨s, c, xs, mt, ms, A, I, rfl, hc, hl, hs, hx, q⟩ := h
    refine ⟨_, (pss_one (ps_ret (pe_callB (cr_sum rfl) (by rfl) T.n_sum (by decide +kernel) (pa_cons (pe_lc (own := [("k", 4), ("top", 5)]) (g := gTup K 2 (gCons (gName 4) (gCons (gName 5) (gNil)))) (tt := tYes) rfl sc_moved_sum.nd (pi_enumT (by rfl) T.n_enumerate (pa_cons (pv 1) pa_nil)) (blkOk_by (own := [("k", 4), ("top", 5)]) (N := ["size", "cascade", "more_things", "more_size", "k", "top"]) (sc := defScope s_moved_sum) (by decide +kernel)) (fun _ _ _ _ _ => pg_tup rfl (pgs_cons (pg_name (i := 4) sc_moved_sum.nd rfl (Or.inl rfl)) (pgs_cons (pg_name (i := 5) sc_moved_sum.nd rfl (Or.inl rfl)) pgs_nil))) (fun _ _ _ _ _ => pts_nil) (fun _ _ _ _ _ => (pe_callBfun cr_comb (by rfl) T.comb (pa_cons (pe_op op_add (pv 5) (pv 2)) (pa_cons (pe_op op_add (pe_op op_sub (pv 0) (pv 4)) (pv 3)) pa_nil))))) pa_nil)))), ?_⟩
    refine r_ret (r_cb (r_arg ?_))
    refine el_lcW (H := H) (walk_enumT (a := c) (xs := tz xs)) (fun _ => true) (fun i => .int (((terms (fun a i => ch (A a) (I i)) s xs).getD i 0 : Nat) : Int)) (by rw [tz_len]; omega)
      (fun H1 e R k => ⟨_, rfl, c, tz xs, rfl, SqT.of (e _ _ hc), k H1 (Ex.refl H1)⟩) (fun H1 e => SqT.of (e _ _ hc)) ?_ ?_ H (Ex.refl H) _ ?_
    · rintro i H1 x H2 ⟨T, _, _, rfl, nT, rfl, _, _⟩
      exact Ex.new nT
    · rintro i x H1 H2 hi e ⟨T, x1, x2, rfl, nT, rfl, e1, e2⟩
      cases e1
      obtain ⟨a, ha, rfl⟩ := tz_at e2
      obtain ⟨g1, g2, g3, g4⟩ := hx i a ha
      refine ⟨[some (.int s), some (.ref c), some (.int mt), some (.int ms), some (.int i), some (.int a)], fun k hk => ?_, rfl, et_yes, fun _ => ?_⟩
      · exact ⟨T, [.int i, .int a], rfl, .inl (.inl upd_same), rfl, _, _, rfl, _, _, rfl, rfl, hk⟩
      · intro H3 e3 Q3 q3
        refine ⟨_, rfl, _, rfl, _, _, rfl, rfl, _, rfl, _, rfl, _, _, rfl, rfl, _, rfl, _, _, rfl, rfl, _, _, rfl, ?_, ?_⟩
        · rw [g1, g2]
          exact ccomb (m := 2000) g3 g4 (by decide) (by decide)
        · rw [g1, g2, comb_nat]
          have e5 : (terms (fun a i => ch (A a) (I i)) s xs).getD i 0 = ch (A a) (I (s - i)) := by
            rw [List.getD_eq_getElem?_getD, terms_get, ha]
            rfl
          rw [e5] at q3
          exact q3 H3 (Ex.refl H3)
    · intro p H2 np e hp
      rw [given_all] at hp
      rw [tz_range _ (by rw [terms_len, tz_len])] at hp
      refine ⟨p, iz (terms (fun a i => ch (A a) (I i)) s xs), rfl, SqL.of hp, ?_⟩
      rw [iz_sum]
      exact q H2 e
end
end K06

namespace K06
open PySem PySem.Spec PyProof.Rows L2 Hr HrM Evl
section
variable {P : Program} {w : World} {K : PySem.W.Frag} {mg : Str → Option Value} {base : Heap}
def sp_draw : Sp := fun vs H Q _ => ∃ (G : Hp) (d : Addr) (m : Int), vs = [.ref d, .int m] ∧ 1 ≤ m ∧ m ≤ 1000000 ∧ Dk G d H ∧ ∀ (r : Int) (H' : Hp), 0 ≤ r → r < m → Dk G d H' → Q (.int r) H'
theorem ok_draw (T : Txt K mg) : FnOk P w K mg base CX0 2 T.f_l_draw T.d_l_draw ["deck", "many"] sp_draw := by
  refine T.U_l_draw.ok sc_l_draw (fun vs H Q E h => ?_) (fun cdv A outer s H vs Q E hr h => ?_)
  · obtain ⟨_, _, _, rfl, _⟩ := h
    rfl
  · obtain ⟨G, d, m, rfl, hm1, hm2, ⟨c, cells, mx, n, k⟩, q⟩ := h
    refine ⟨_, (pss_cons (ps_dput (hu_of hr) (pv 0) pe_str (pe_op op_add (pe_dget (hu_of hr) (pv 0) pe_str (fun _ _ => rfl)) pe_int) rfl)
  (pss_cons (ps_set (i := 2) sc_l_draw.nd rfl (.inl rfl) (pe_op op_add (pe_dget (hu_of hr) (pv 0) pe_str (fun _ _ => rfl)) (pe_op op_mul pe_int (pe_dget (hu_of hr) (pv 0) pe_str (fun _ _ => rfl)))))
  (pss_cut (ps_if (pt_cmpR (op_neD hr.units) (pe_dget (hu_of hr) (pv 0) pe_str (fun _ _ => rfl)) (pe_lst pa_nil) (nomark _)) (pss_cons (ps_set (i := 3) sc_l_draw.nd rfl (.inl rfl) (pe_bm0 PySem.F.plainAttrs_list PySem.F.slot_list_pop PySem.F.type_list_pop mt_pop (pe_dget (hu_of hr) (pv 0) pe_str (fun _ _ => rfl))))
  (pss_cons (ps_if (pt_cmpR op_ge (pv 3) (pe_op op_pow pe_int pe_int) (nomark _)) (pss_cons (ps_expr (pe_bm PySem.F.plainAttrs_list PySem.F.slot_list_append PySem.F.type_list_append mt_append (pe_dget (hu_of hr) (pv 0) pe_str (fun _ _ => rfl)) (pa_cons (pe_op op_fdivN (pv 3) (pe_callB (call_max2 rfl) (by rfl) T.n_max (by decide +kernel) (pa_cons pe_int (pa_cons (pv 1) pa_nil)))) pa_nil)))
  (pss_one (ps_ret (pe_op op_modN (pe_callTy call_int1 (by rfl) T.n_int (by decide +kernel) (pa_cons (pv 3) pa_nil)) (pv 1))))) pss_nil)
  (pss_one (ps_set (i := 2) sc_l_draw.nd rfl (.inl rfl) (pe_op op_add (pv 2) (pe_op op_modN (pe_callTy call_int1 (by rfl) T.n_int (by decide +kernel) (pa_cons (pv 3) pa_nil)) pe_int)))))) pss_nil)
  (pss_cut (ps_set (i := 2) sc_l_draw.nd rfl (.inl rfl) (pe_op op_modN (pe_callTy call_int1 (by rfl) T.n_int (by decide +kernel) (pa_cons (pe_op op_add (pe_op op_mul (pv 2) pe_int) pe_int) pa_nil)) pe_int))
  (pss_cons (ps_set (i := 2) sc_l_draw.nd rfl (.inl rfl) (pe_op op_modN (pe_callTy call_int1 (by rfl) T.n_int (by decide +kernel) (pa_cons (pe_op op_add (pe_op op_add (pe_op op_mul (pv 2) (pv 2)) (pe_op op_mul pe_int (pe_dget (hu_of hr) (pv 0) pe_str (fun _ _ => rfl)))) pe_int) pa_nil)) pe_int))
  (pss_cons (ps_set (i := 2) sc_l_draw.nd rfl (.inl rfl) (pe_op op_modN (pe_callTy call_int1 (by rfl) T.n_int (by decide +kernel) (pa_cons (pe_op op_mul (pv 2) pe_int) pa_nil)) pe_int))
  (pss_one (ps_ret (pe_op op_modN (pe_callTy call_int1 (by rfl) T.n_int (by decide +kernel) (pa_cons (pe_op op_fdivN (pv 2) pe_int) pa_nil)) (pv 1)))))))))), ?_⟩
    -- deck['draws'] = deck['draws'] + 1
    refine ⟨_, rfl, d, _, rfl, k.gdraws, _, _, rfl, rfl, _, rfl, d, _, rfl, k.pdraws, ?_⟩
    have k1 := k.draw (n' := n + 1)
    -- number = ..
    refine ⟨_, rfl, d, _, rfl, k1.gmixed, _, rfl, d, _, rfl, k1.gdraws, _, _, rfl, rfl, .inl ⟨by decide, by decide⟩, _, _, rfl, rfl, ?_⟩
    refine ⟨fun σ' H' => ∃ (z : Int) (y : Option V), σ' = [some (.ref d), some (.int m), some (.int z), y] ∧ Dk G d H', ?_, ?_⟩
    · -- if deck['cells'] != []
      refine ⟨_, rfl, d, _, rfl, k1.gcells, Nat.zero_le _, fun e ne => ?_⟩
      have k2 := k1.new (o := .lst []) ne
      refine ⟨izD cells, izD [], izD_dp (SqL.of k2.hc), izD_dp (xs := []) (SqL.of upd_same), izD_shaped _, izD_shaped _, _, rfl, ?_⟩
      rw [izD_eqv_nil]
      cases hx : cells with
      | nil =>
        refine iteF ⟨_, none, rfl, c, cells, mx, n + 1, k2⟩
      | cons x0 xs0 =>
        rw [← hx]
        have he : (!cells.isEmpty) = true := by rw [hx]; rfl
        rw [he]
        have hpos : cells.length ≠ 0 := by rw [hx]; exact Nat.succ_ne_zero _
        refine iteT ?_
        obtain ⟨x, hlast⟩ : ∃ x, cells[cells.length - 1]? = some x := ⟨_, List.getElem?_eq_getElem (by omega)⟩
        have k3 := k2.cell (xs := cells.dropLast) (by rw [List.length_dropLast]; have := k2.len; omega)
        refine ⟨_, rfl, d, _, rfl, k2.gcells, .inl ⟨rfl, _, SqL.of k2.hc⟩, c, _, .int x, rfl, rfl, k2.hc, ?_, ?_⟩
        · rw [List.length_map, List.getElem?_map, hlast]
          rfl
        rw [← List.map_dropLast]
        -- if cell >= 10 ** 18
        refine ⟨_, rfl, _, _, rfl, rfl, ⟨by decide, by decide, by decide⟩, _, _, rfl, rfl, _, rfl, ite2 (fun _ => ?_) (fun _ => ?_)⟩
        · refine ⟨_, rfl, d, _, rfl, k3.gcells, .inl ⟨rfl, _, SqL.of k3.hc⟩, _, rfl, _, rfl, _, _, rfl, _, _, rfl, rfl, ?_, c, _, _, rfl, rfl, k3.hc, ?_, ?_⟩
          · constructor
            · split <;> omega
            · split <;> omega
          · rw [List.length_map, List.length_dropLast]
            exact small1000 (by have := k2.len; omega)
          · have k4 : DkC G d c (cells.dropLast ++ [x.fdiv (if m > 2 then m else 2)]) mx (n + 1) _ := k3.cell (by rw [List.length_append, List.length_singleton, List.length_dropLast]; have := k2.len; omega)
            rw [List.map_append] at k4
            refine ⟨_, rfl, .inl ⟨_, rfl, _, rfl, _, _, rfl, rfl, by show m ≠ 0; omega, ?_⟩⟩
            exact q _ _ (Int.fmod_nonneg_of_pos _ (by omega)) (Int.fmod_lt_of_pos _ (by omega)) ⟨c, _, mx, n + 1, k4⟩
        · refine ⟨_, rfl, _, rfl, .inl ⟨_, rfl, _, _, rfl, rfl, by simp, _, _, rfl, rfl, _, _, rfl, ?_⟩⟩
          exact ⟨c, _, mx, n + 1, k3⟩
    · rintro σ' H' ⟨z, y, rfl, c, cells, mx, n, k⟩
      refine ⟨fun σ' H' => ∃ v : Int, 0 ≤ v ∧ v < 2147483647 ∧ σ' = [some (.ref d), some (.int m), some (.int v), y] ∧ Dk G d H', ?_, ?_⟩
      · refine ⟨_, rfl, _, _, rfl, rfl, .inr ⟨by decide, by decide⟩, _, _, rfl, rfl, .inl ⟨_, rfl, _, _, rfl, rfl, by simp, ?_⟩⟩
        exact ⟨_, Int.fmod_nonneg_of_pos _ (by decide), Int.fmod_lt_of_pos _ (by decide), rfl, c, cells, mx, n, k⟩
      rintro σ' H' ⟨v, hv0, hv1, rfl, c, cells, mx, n, k⟩
      refine ⟨_, rfl, _, rfl, _, _, rfl, rfl, .inl ⟨by omega, by omega⟩, _, rfl, d, _, rfl, k.gdraws, _, _, rfl, rfl, .inl ⟨by decide, by decide⟩, _, _, rfl, rfl, _, _, rfl, rfl, .inl ⟨_, rfl, _, _, rfl, rfl, by simp, ?_⟩⟩
      refine ⟨_, rfl, _, _, rfl, rfl, .inr ⟨by decide, by decide⟩, .inl ⟨_, rfl, _, _, rfl, rfl, by simp, ?_⟩⟩
      refine ⟨_, rfl, _, _, rfl, rfl, ⟨by decide, by decide⟩, .inl ⟨_, rfl, _, rfl, _, _, rfl, rfl, by show m ≠ 0; omega, ?_⟩⟩
      exact q _ _ (Int.fmod_nonneg_of_pos _ (by omega)) (Int.fmod_lt_of_pos _ (by omega)) ⟨c, cells, mx, n, k⟩

theorem cut_ints (ns : List Int) (lo hi : Option Int) : ∃ zs : List Int, cutV (ns.map V.int) lo hi = zs.map V.int ∧ zs.length ≤ ns.length := by
  refine ⟨(ns.drop (HT.sIx (ns.map V.int).length 0 lo)).take (HT.sIx (ns.map V.int).length (ns.map V.int).length hi - HT.sIx (ns.map V.int).length 0 lo), ?_, ?_⟩
  · unfold cutV
    rw [List.map_take, List.map_drop]
  · rw [List.length_take, List.length_drop]
    omega
def sp_deck : Sp := fun vs H Q _ => ∃ (K : PySem.W.Frag) (a : Addr) (ns : List Int), vs = [.ref a] ∧ SqL K H a (ns.map V.int) ∧ ns.length ≤ 63 ∧ ∀ d H', Dk H d H' → Q (.ref d) H'
def sp_deckK (K : PySem.W.Frag) : Sp := fun vs H Q _ => ∃ (a : Addr) (ns : List Int), vs = [.ref a] ∧ SqL K H a (ns.map V.int) ∧ ns.length ≤ 63 ∧ ∀ d H', Dk H d H' → Q (.ref d) H'
theorem ok_deck (T : Txt K mg) : FnOk P w K mg base CX0 2 T.f_l_deck T.d_l_deck ["script"] (sp_deckK K) := by
  refine T.U_l_deck.ok sc_l_deck (fun vs H Q E h => ?_) (fun cdv A outer s H vs Q E hr h => ?_)
  · obtain ⟨_, _, rfl, _⟩ := h
    rfl
  · obtain ⟨a, ns, rfl, hS, hl, q⟩ := h
    refine ⟨_, (pss_cons (ps_set (i := 1) sc_l_deck.nd rfl (.inl rfl) pe_int)
  (pss_cons (ps_for PassesOwn.never rfl (pi_list (pe_slice sl_list (pv 0) po_none (po_some pe_int))) (pg_name (i := 2) sc_l_deck.nd rfl (.inl rfl)) (pss_one (ps_set (i := 1) sc_l_deck.nd rfl (.inl rfl) (pe_op op_modN (pe_callTy call_int1 (by rfl) T.n_int (by decide +kernel) (pa_cons (pe_op op_add (pe_op op_add (pe_op op_mul (pv 1) pe_int) (pe_op op_modN (pe_callTy call_int1 (by rfl) T.n_int (by decide +kernel) (pa_cons (pv 2) pa_nil)) pe_int)) pe_int) pa_nil)) pe_int))))
  (pss_one (ps_ret (pe_disp (pps_cons pe_str (pe_revL (pe_callTy call_list_of (by rfl) T.n_list (by decide +kernel) (pa_cons (pe_slice sl_list (pv 0) po_none (po_some pe_int)) pa_nil))) (pps_cons pe_str (pv 1) (pps_cons pe_str pe_int pps_nil))) (by rfl) (by rfl) (fun z => by cases z) (by decide)))))), ?_⟩
    refine ⟨_, rfl, 63, rfl, a, _, rfl, hS, fun p np => ?_⟩
    obtain ⟨zs, ez, hz⟩ := cut_ints ns none (some 63)
    rw [ez]
    have e1 : Ex H (upd H p (.lst (zs.map V.int))) := Ex.new np
    have hp : SqL K (upd H p (.lst (zs.map V.int))) p (zs.map V.int) := SqL.of upd_same
    refine ⟨p, rfl, ⟨_, hp⟩, ?_⟩
    refine for_list (xs := zs.map V.int) (fun i σ' H' => ∃ (m : Int) (y : Option V), 0 ≤ m ∧ m < 2147483587 ∧ σ' = [some (.ref a), some (.int m), y] ∧ H' = upd H p (.lst (zs.map V.int))) ⟨_, none, by decide, by decide, rfl, rfl⟩ ?_ ?_ ?_
    · rintro i σ' H' _ ⟨_, _, _, _, _, rfl⟩
      exact hp
    · rintro i x σ' H' hx ⟨m, y, hm0, hm1, rfl, rfl⟩
      obtain ⟨z, rfl⟩ : ∃ z : Int, x = .int z := by
        rw [List.getElem?_map] at hx
        cases h : zs[i]? with
        | none => rw [h] at hx; cases hx
        | some z => rw [h] at hx; cases hx; exact ⟨z, rfl⟩
      refine ⟨_, rfl, _, _, rfl, rfl, .inr ⟨by decide, by decide⟩, _, rfl, .inl ⟨_, rfl, _, _, rfl, rfl, by simp, _, _, rfl, rfl, _, _, rfl, rfl, .inl ⟨_, rfl, _, _, rfl, rfl, by simp, ?_⟩⟩⟩
      exact ⟨_, _, Int.fmod_nonneg_of_pos _ (by decide), Int.fmod_lt_of_pos _ (by decide), rfl, rfl⟩
    · rintro σ' H' ⟨m, y, hm0, hm1, rfl, rfl⟩
      refine fun d nd => ?_
      have e2 := e1.trans (Ex.new (o := .dK []) nd)
      refine ⟨_, rfl, 63, rfl, a, _, rfl, ex_l e2 hS, fun l1 n1 => ?_⟩
      rw [ez]
      refine ⟨l1, _, rfl, .inl (SqL.of upd_same), fun l2 n2 => ⟨l2, _, rfl, SqL.of upd_same, fun c nc => ⟨_, rfl, ?_⟩⟩⟩
      have dc : d ≠ c := ne_of_none ((Ex.new n2) _ _ ((Ex.new n1) _ _ upd_same)) nc
      have hd : (upd (upd (upd (upd (upd H p (.lst (zs.map V.int))) d (.dK [])) l1 (.lst (zs.map V.int))) l2 (.lst (zs.map V.int))) c (.lst (zs.map V.int).reverse)) d = some (.dK []) :=
        (Ex.new nc) _ _ ((Ex.new n2) _ _ ((Ex.new n1) _ _ upd_same))
      refine ⟨hd, [(kC, .ref c), (kM, .int m), (kD, .int 0)], rfl, by show 3 ≤ 15; decide, ?_⟩
      rw [deck_made]
      have ex : Ex H (upd (upd (upd (upd (upd H p (.lst (zs.map V.int))) d (.dK [])) l1 (.lst (zs.map V.int))) l2 (.lst (zs.map V.int))) c (.lst (zs.map V.int).reverse)) :=
        e2.trans ((Ex.new n1).trans ((Ex.new n2).trans (Ex.new nc)))
      refine q d _ ⟨c, zs.reverse, m, 0, Ex.mut ex (fresh_back e1 nd), fresh_back e1 nd, fresh_back (e2.trans ((Ex.new n1).trans (Ex.new n2))) nc, upd_same, ?_, by rw [List.length_reverse]; omega, hm0, by omega⟩
      rw [upd_ne dc.symm, upd_same, List.map_reverse]

def sp_pick : Sp := fun vs H Q _ => ∃ (G : Hp) (d s : Addr) (xs : List V), vs = [.ref d, .ref s] ∧ Dk G d H ∧ G s = some (.lst xs) ∧ 1 ≤ xs.length ∧ xs.length ≤ 1000 ∧ ∀ (i : Nat) (v : V) (H' : Hp), xs[i]? = some v → Dk G d H' → Q v H'
theorem ok_pick (T : Txt K mg) : FnOk P w K mg base CX0 3 T.f_l_pick T.d_l_pick ["deck", "some"] sp_pick := by
  have F_l_draw := ok_draw (P := P) (w := w) (base := base) T
  refine T.U_l_pick.ok sc_l_pick (fun vs H Q E h => ?_) (fun cdv A outer s H vs Q E hr h => ?_)
  · obtain ⟨_, _, _, _, rfl, _⟩ := h
    rfl
  · obtain ⟨G, d, s, xs, rfl, k, hs, h1, h2, q⟩ := h
    refine ⟨_, (pss_one (ps_ret (pe_ix ix_list (pv 1) (pe_call F_l_draw (hr.mono (by decide)) (by rfl) T.g_l_draw T.k_l_draw T.b_l_draw .nil pass0 (pa_cons (pv 0) (pa_cons (pe_callB call_len_seq (by rfl) T.n_len PySem.boot_len (pa_cons (pv 1) pa_nil)) pa_nil))) (fun _ _ => rfl)))), ?_⟩
    refine ⟨_, rfl, _, rfl, _, rfl, s, xs, rfl, .inl (SqL.of (k.get hs)), G, d, _, rfl, by omega, by omega, k, fun r H' r0 r1 k' => ?_⟩
    obtain ⟨i, rfl⟩ : ∃ i : Nat, r = (i : Int) := ⟨r.toNat, by omega⟩
    have hi : i < xs.length := by omega
    refine ⟨s, xs, _, _, rfl, rfl, SqL.of (k'.get hs), atI_nat (List.getElem?_eq_getElem hi), ?_⟩
    exact q i _ H' (List.getElem?_eq_getElem hi) k'

def sp_below : Sp := fun vs H Q _ => ∃ (G : Hp) (d : Addr) (m : Int), vs = [.ref d, .int m] ∧ 1 ≤ m ∧ Dk G d H ∧ ∀ (r : Int) (H' : Hp), 0 ≤ r → r < m → Dk G d H' → Q (.int r) H'
theorem ok_below (T : Txt K mg) : FnOk P w K mg base CX0 3 T.f_l_below T.d_l_below ["deck", "many"] sp_below := by
  have F_l_draw := ok_draw (P := P) (w := w) (base := base) T
  refine T.U_l_below.ok sc_l_below (fun vs H Q E h => ?_) (fun cdv A outer s H vs Q E hr h => ?_)
  · obtain ⟨_, _, _, rfl, _⟩ := h
    rfl
  · obtain ⟨G, d, m, rfl, h1, k, q⟩ := h
    refine ⟨_, (pss_cons (ps_set (i := 2) sc_l_below.nd rfl (.inl rfl) pe_int)
  (pss_cons (ps_for PassesOwn.never rfl (pi_range1 rfl T.n_range (pa_cons pe_int pa_nil)) (pg_name (i := 3) sc_l_below.nd rfl (.inl rfl)) (pss_one (ps_set (i := 2) sc_l_below.nd rfl (.inl rfl) (pe_op op_add (pe_op op_mul (pv 2) pe_int) (pe_call F_l_draw (hr.mono (by decide)) (by rfl) T.g_l_draw T.k_l_draw T.b_l_draw .nil pass0 (pa_cons (pv 0) (pa_cons pe_int pa_nil)))))))
  (pss_one (ps_ret (pe_op op_modN (pe_callTy call_int1 (by rfl) T.n_int (by decide +kernel) (pa_cons (pv 2) pa_nil)) (pv 1)))))), ?_⟩
    refine ⟨5, rfl, by decide, by decide, for_range (n := 5) (fun i σ' H' => ∃ (z : Int) (y : Option V), σ' = [some (.ref d), some (.int m), some (.int z), y] ∧ Dk G d H') ⟨0, none, rfl, k⟩ ?_ ?_⟩
    · rintro i σ' H' _ ⟨z, y, rfl, k'⟩
      refine ⟨_, rfl, _, _, rfl, rfl, .inr ⟨by decide, by decide⟩, _, rfl, G, d, _, rfl, by decide, by decide, k', fun r H2 r0 r1 k2 => ?_⟩
      exact ⟨_, _, rfl, rfl, _, _, rfl, k2⟩
    · rintro σ' H' ⟨z, y, rfl, k'⟩
      refine ⟨_, rfl, .inl ⟨_, rfl, _, rfl, _, _, rfl, rfl, by show m ≠ 0; omega, ?_⟩⟩
      exact q _ _ (Int.fmod_nonneg_of_pos _ (by omega)) (Int.fmod_lt_of_pos _ (by omega)) k'

theorem choose_step (a k : Nat) (h : k < a) : (((ch a k : Nat) : Int) * ((a : Int) - (k : Int))).fdiv ((k : Int) + 1) = ((ch a (k + 1) : Nat) : Int) := by
  have e1 : ((a : Int) - (k : Int)) = ((a - k : Nat) : Int) := by omega
  have e2 : ((k : Int) + 1) = ((k + 1 : Nat) : Int) := by omega
  rw [e1, e2, ← Int.natCast_mul, Int.fdiv_eq_ediv_of_nonneg _ (by omega), ← Int.natCast_ediv, ← ch_mul, Nat.mul_div_cancel _ (by omega)]
def sp_choose : Sp := fun vs H Q _ => ∃ (a b : Nat), vs = [.int a, .int b] ∧ a < 2 ^ 2000 ∧ b ≤ 20 ∧ Q (.int ((ch a b : Nat) : Int)) H
theorem ok_choose (T : Txt K mg) : FnOk P w K mg base CX0 2 T.f_l_choose T.d_l_choose ["a", "b"] sp_choose := by
  refine T.U_l_choose.ok sc_l_choose (fun vs H Q E h => ?_) (fun cdv A outer s H vs Q E hr h => ?_)
  · obtain ⟨_, _, rfl, _⟩ := h
    rfl
  · obtain ⟨a, b, rfl, ha, hb, q⟩ := h
    refine ⟨_, (pss_cons (ps_set (i := 2) sc_l_choose.nd rfl (.inl rfl) pe_int)
  (pss_cons (ps_for PassesOwn.never rfl (pi_range1 rfl T.n_range (pa_cons (pe_callB (call_min2 rfl) (by rfl) T.n_min (by decide +kernel) (pa_cons (pv 0) (pa_cons (pv 1) pa_nil))) pa_nil)) (pg_name (i := 3) sc_l_choose.nd rfl (.inl rfl)) (pss_one (ps_set (i := 2) sc_l_choose.nd rfl (.inl rfl) (pe_op op_fdivN (pe_op op_mulW (pv 2) (pe_op op_sub (pv 0) (pv 3))) (pe_op op_add (pv 3) pe_int)))))
  (pss_one (ps_ret (pe_ifExp (pt_cmpR op_ge (pv 0) (pv 1) (nomark _)) (pv 2) pe_int))))), ?_⟩
    have hm : (if (b : Int) < (a : Int) then (b : Int) else (a : Int)) = ((min a b : Nat) : Int) := by split <;> omega
    refine ⟨_, rfl, _, rfl, _, _, rfl, _, rfl, by rw [hm]; omega, by rw [hm]; omega, ?_⟩
    have hmt : (if (b : Int) < (a : Int) then (b : Int) else (a : Int)).toNat = min a b := by rw [hm]; rfl
    rw [hmt]
    refine for_range (lo := 0) (n := min a b) (fun i σ' H' => ∃ (y : Option V), i ≤ min a b ∧ σ' = [some (.int a), some (.int b), some (.int ((ch a i : Nat) : Int)), y] ∧ H' = H) ⟨none, Nat.zero_le _, by rw [ch_zero]; rfl, rfl⟩ ?_ ?_
    · rintro i σ' H' hi ⟨y, _, rfl, rfl⟩
      have e0 : (0 : Int) + (i : Int) = (i : Int) := Int.zero_add _
      rw [e0]
      have b1 : ch a i < 2 ^ 40001 := by
        have h1 := ch_le_pow a i
        have h2 : a ^ i ≤ (2 ^ 2000) ^ i := Nat.pow_le_pow_left (Nat.le_of_lt ha) i
        rw [← Nat.pow_mul] at h2
        have h3 : (2 : Nat) ^ (2000 * i) < 2 ^ 40001 := Nat.pow_lt_pow_right (by decide) (by omega)
        omega
      refine ⟨_, rfl, _, rfl, _, rfl, _, _, rfl, rfl, _, _, rfl, rfl, wide_mul (a := 40001) (b := 2000) ?_ ?_ (by decide) (by decide) (by decide), _, rfl, _, _, rfl, rfl, _, _, rfl, rfl, ⟨by omega, by omega⟩, ?_⟩
      · rw [Int.natAbs_natCast]
        exact b1
      · have : ((a : Int) - (i : Int)).natAbs ≤ a := by omega
        omega
      · exact ⟨some (.int (i : Int)), by omega, by rw [← choose_step a i (by omega)]; rfl, rfl⟩
    · rintro σ' H' ⟨y, _, rfl, rfl⟩
      refine ⟨_, rfl, _, rfl, _, _, rfl, rfl, _, rfl, ite2 (fun e => ?_) (fun e => ?_)⟩
      · have e' : b ≤ a := by have := of_decide_eq_true e; omega
        refine ⟨_, rfl, ?_⟩
        rw [show min a b = b by omega]
        exact q
      · have e' : a < b := by
          by_cases z : b ≤ a
          · exact absurd (decide_eq_true (by omega)) e
          · omega
        rw [ch_lt e'] at q
        exact q

end
end K06

namespace K06
open PySem PySem.Spec PyProof.Rows L2 Hr HrM Evl LamX
section
variable {P : Program} {w : World} {K : PySem.W.Frag} {mg : Str → Option Value} {base : Heap}
def gLS (a i : Nat) : Nat := ch a (i - 1)
def gUS (a i : Nat) : Nat := ch a (i + 1)
def gLP (a i : Nat) : Nat := ch (a - 1) (i - 1)
def gUP (a i : Nat) : Nat := ch (a + 1) (i + 1)
def four (g : Nat → Nat → Nat) (s : Nat) (xs : List Nat) : Nat := (terms g s xs).sum
theorem lt_2000 {a : Nat} (h : a < 2 ^ 1910) : a + 1 < 2 ^ 2000 := by
  have e : 2 ^ 1911 ≤ 2 ^ 2000 := Nat.pow_le_pow_right (by decide) (by decide)
  have e2 : 2 ^ 1911 = 2 * 2 ^ 1910 := Nat.pow_add 2 1 1910
  rw [e2] at e
  generalize 2 ^ 1910 = z at *
  omega
theorem val_ge : ∀ (s : Nat) (xs : List Nat) (i a : Nat), xs[i]? = some a → ch a (s - i) ≤ val s xs
  | _, [], _, _, h => by simp at h
  | s, x :: xs, 0, a, h => by
    cases h
    show ch x s ≤ ch x s + val (s - 1) xs
    omega
  | s, x :: xs, i + 1, a, h => by
    have ih := val_ge (s - 1) xs i a (by simpa using h)
    rw [show s - (i + 1) = s - 1 - i by omega]
    show ch a (s - 1 - i) ≤ ch x s + val (s - 1) xs
    omega
theorem cas_items {s : Nat} {xs : List Nat} (c : Cas s xs) (hs : s ≤ 17) (hv : val s xs < 2 ^ 1900) : ∀ a ∈ xs, a < 2 ^ 1910 := by
  intro a ha
  obtain ⟨i, h⟩ := List.getElem?_of_mem ha
  have h1 := val_ge s xs i a h
  have hi := (List.getElem?_eq_some_iff.mp h).1
  have hl := c.len
  have hlow := c.low i a h
  have h0 := ch_pos hlow
  have h2 := top_lt (a := a) (p := s - i) (by omega) h1 (by omega)
  have h3 := big_pow hv (s - i) (by omega)
  omega
/-- what one of the four functions tells -/
def sp_fn (P0 : Addr) (g : Nat → Nat → Nat) : Sp := fun vs H Q _ => ∃ N s : Nat, vs = [.int N, .int s] ∧ N < 2 ^ 1900 ∧ 1 ≤ s ∧ s ≤ 17 ∧ Tabs (topT P0) H ∧ ∀ xs, Cas s xs → val s xs = N → RetVk (topT P0) (.int ((four g s xs : Nat) : Int)) H Q
theorem ok_lower_sets (T : Txt K mg) (TB : TabB base mg T.c_greatest_top T.P_greatest_top) : FnOk P w K mg base CX0 5 T.f_lower_sets T.d_lower_sets ["number", "size"] (sp_fn T.P_greatest_top gLS) := by
  have F_cascade_of := ok_cascade_of (P := P) (w := w) (base := base) T TB
  have F_moved_sum := ok_moved_sum (P := P) (w := w) (base := base) T
  refine T.U_lower_sets.ok sc_lower_sets (fun vs H Q E h => ?_) (fun cdv A outer s H vs Q E hr h => ?_)
  · obtain ⟨_, _, rfl, _⟩ := h
    rfl
  · obtain ⟨N, s, rfl, hN, hs1, hs, hT, q⟩ := h
    refine ⟨_, (pss_one (ps_ret (pe_call F_moved_sum (hr.mono (by decide)) (by rfl) T.g_moved_sum T.k_moved_sum T.b_moved_sum .nil pass0 (pa_cons (pv 1) (pa_cons (pe_call F_cascade_of (hr.mono (by decide)) (by rfl) T.g_cascade_of T.k_cascade_of T.b_cascade_of .nil pass0 (pa_cons (pv 0) (pa_cons (pv 1) pa_nil))) (pa_cons pe_int (pa_cons (pe_un un_neg pe_int) pa_nil))))))), ?_⟩
    refine ⟨_, rfl, _, rfl, _, rfl, N, s, rfl, hN, hs1, hs, hT, fun xs c v p H2 e hp => ⟨_, rfl, s, p, xs, 0, -1, id, (· - 1), rfl, hp, c.len, hs, fun i a h => ?_, fun H3 e3 => q xs c v H3 (e.ex e3)⟩⟩
    have hi := (List.getElem?_eq_some_iff.mp h).1
    have hl := c.len
    have ha := cas_items c hs (by omega) a (List.mem_of_getElem? h)
    exact ⟨by rw [Int.add_zero]; rfl, by show (s : Int) - (i : Int) + -1 = ((s - i - 1 : Nat) : Int); omega, by have := lt_2000 ha; show a < _; omega, by show s - i - 1 ≤ 20; omega⟩
theorem ok_upper_sets (T : Txt K mg) (TB : TabB base mg T.c_greatest_top T.P_greatest_top) : FnOk P w K mg base CX0 5 T.f_upper_sets T.d_upper_sets ["number", "size"] (sp_fn T.P_greatest_top gUS) := by
  have F_cascade_of := ok_cascade_of (P := P) (w := w) (base := base) T TB
  have F_moved_sum := ok_moved_sum (P := P) (w := w) (base := base) T
  refine T.U_upper_sets.ok sc_upper_sets (fun vs H Q E h => ?_) (fun cdv A outer s H vs Q E hr h => ?_)
  · obtain ⟨_, _, rfl, _⟩ := h
    rfl
  · obtain ⟨N, s, rfl, hN, hs1, hs, hT, q⟩ := h
    refine ⟨_, (pss_one (ps_ret (pe_call F_moved_sum (hr.mono (by decide)) (by rfl) T.g_moved_sum T.k_moved_sum T.b_moved_sum .nil pass0 (pa_cons (pv 1) (pa_cons (pe_call F_cascade_of (hr.mono (by decide)) (by rfl) T.g_cascade_of T.k_cascade_of T.b_cascade_of .nil pass0 (pa_cons (pv 0) (pa_cons (pv 1) pa_nil))) (pa_cons pe_int (pa_cons pe_int pa_nil))))))), ?_⟩
    refine ⟨_, rfl, _, rfl, _, rfl, N, s, rfl, hN, hs1, hs, hT, fun xs c v p H2 e hp => ⟨s, p, xs, 0, 1, id, (· + 1), rfl, hp, c.len, hs, fun i a h => ?_, fun H3 e3 => q xs c v H3 (e.ex e3)⟩⟩
    have hi := (List.getElem?_eq_some_iff.mp h).1
    have hl := c.len
    have ha := cas_items c hs (by omega) a (List.mem_of_getElem? h)
    exact ⟨by rw [Int.add_zero]; rfl, by show (s : Int) - (i : Int) + 1 = ((s - i + 1 : Nat) : Int); omega, by have := lt_2000 ha; show a < _; omega, by show s - i + 1 ≤ 20; omega⟩
theorem ok_lower_products (T : Txt K mg) (TB : TabB base mg T.c_greatest_top T.P_greatest_top) : FnOk P w K mg base CX0 5 T.f_lower_products T.d_lower_products ["number", "size"] (sp_fn T.P_greatest_top gLP) := by
  have F_cascade_of := ok_cascade_of (P := P) (w := w) (base := base) T TB
  have F_moved_sum := ok_moved_sum (P := P) (w := w) (base := base) T
  refine T.U_lower_products.ok sc_lower_products (fun vs H Q E h => ?_) (fun cdv A outer s H vs Q E hr h => ?_)
  · obtain ⟨_, _, rfl, _⟩ := h
    rfl
  · obtain ⟨N, s, rfl, hN, hs1, hs, hT, q⟩ := h
    refine ⟨_, (pss_one (ps_ret (pe_call F_moved_sum (hr.mono (by decide)) (by rfl) T.g_moved_sum T.k_moved_sum T.b_moved_sum .nil pass0 (pa_cons (pv 1) (pa_cons (pe_call F_cascade_of (hr.mono (by decide)) (by rfl) T.g_cascade_of T.k_cascade_of T.b_cascade_of .nil pass0 (pa_cons (pv 0) (pa_cons (pv 1) pa_nil))) (pa_cons (pe_un un_neg pe_int) (pa_cons (pe_un un_neg pe_int) pa_nil))))))), ?_⟩
    refine ⟨_, rfl, _, rfl, _, rfl, N, s, rfl, hN, hs1, hs, hT, fun xs c v p H2 e hp => ⟨_, rfl, _, rfl, s, p, xs, -1, -1, (· - 1), (· - 1), rfl, hp, c.len, hs, fun i a h => ?_, fun H3 e3 => q xs c v H3 (e.ex e3)⟩⟩
    have hi := (List.getElem?_eq_some_iff.mp h).1
    have hl := c.len
    have hlow := c.low i a h
    have ha := cas_items c hs (by omega) a (List.mem_of_getElem? h)
    exact ⟨by show (a : Int) + -1 = ((a - 1 : Nat) : Int); omega, by show (s : Int) - (i : Int) + -1 = ((s - i - 1 : Nat) : Int); omega, by have := lt_2000 ha; show a - 1 < _; omega, by show s - i - 1 ≤ 20; omega⟩
theorem ok_upper_products (T : Txt K mg) (TB : TabB base mg T.c_greatest_top T.P_greatest_top) : FnOk P w K mg base CX0 5 T.f_upper_products T.d_upper_products ["number", "size"] (sp_fn T.P_greatest_top gUP) := by
  have F_cascade_of := ok_cascade_of (P := P) (w := w) (base := base) T TB
  have F_moved_sum := ok_moved_sum (P := P) (w := w) (base := base) T
  refine T.U_upper_products.ok sc_upper_products (fun vs H Q E h => ?_) (fun cdv A outer s H vs Q E hr h => ?_)
  · obtain ⟨_, _, rfl, _⟩ := h
    rfl
  · obtain ⟨N, s, rfl, hN, hs1, hs, hT, q⟩ := h
    refine ⟨_, (pss_one (ps_ret (pe_call F_moved_sum (hr.mono (by decide)) (by rfl) T.g_moved_sum T.k_moved_sum T.b_moved_sum .nil pass0 (pa_cons (pv 1) (pa_cons (pe_call F_cascade_of (hr.mono (by decide)) (by rfl) T.g_cascade_of T.k_cascade_of T.b_cascade_of .nil pass0 (pa_cons (pv 0) (pa_cons (pv 1) pa_nil))) (pa_cons pe_int (pa_cons pe_int pa_nil))))))), ?_⟩
    refine ⟨_, rfl, _, rfl, _, rfl, N, s, rfl, hN, hs1, hs, hT, fun xs c v p H2 e hp => ⟨s, p, xs, 1, 1, (· + 1), (· + 1), rfl, hp, c.len, hs, fun i a h => ?_, fun H3 e3 => q xs c v H3 (e.ex e3)⟩⟩
    have hi := (List.getElem?_eq_some_iff.mp h).1
    have hl := c.len
    have ha := cas_items c hs (by omega) a (List.mem_of_getElem? h)
    exact ⟨rfl, by show (s : Int) - (i : Int) + 1 = ((s - i + 1 : Nat) : Int); omega, by have := lt_2000 ha; show a + 1 < _; omega, by show s - i + 1 ≤ 20; omega⟩

end
end K06

namespace K06
open PySem PySem.Spec PyProof.Rows L2 Hr HrM Evl LamX
section
variable {P : Program} {w : World} {K : PySem.W.Frag} {mg : Str → Option Value} {base : Heap}
def cb (n : Nat) : Nat → Nat
  | 0 => 1
  | k + 1 => cb n k * (n - k) / (k + 1)
theorem ch_cb (n : Nat) : ∀ k : Nat, ch n k = cb n k
  | 0 => ch_zero n
  | k + 1 => by
    show _ = cb n k * (n - k) / (k + 1)
    rw [← ch_cb n k, ← ch_mul, Nat.mul_div_cancel _ (by omega)]
def ten (n : Int) : Int := (10 : Int) ^ n.toNat
def topsL : List V := [.int 0, .int (ten 15 - 9), .int (ten 10), .int (3 * ten 7), .int (ten 6), .int (ten 5), .int (2 * ten 4), .int 6000, .int 2500, .int 1200, .int 700, .int 450, .int 300, .int 220, .int 170, .int 130]
def tenS : Nat := 10 ^ 30
/-- numbers so small that the upper ones keep the bound -/
structure Sized (s t : Nat) : Prop where
  le : s ≤ t
  up : ch (t + 2) (s + 1) + 1 < tenS
  low : 16 * ch (t + 1) s < tenS
  some : 200 ≤ ch (t + 1) s
def sizedB (s t : Nat) : Bool := decide (s ≤ t) && decide (cb (t + 2) (s + 1) + 1 < 10 ^ 30) && decide (16 * cb (t + 1) s < 10 ^ 30) && decide (200 ≤ cb (t + 1) s)
theorem sized {s t : Nat} (h : sizedB s t = true) : Sized s t := by
  unfold sizedB at h
  simp only [Bool.and_eq_true, decide_eq_true_eq] at h
  exact ⟨h.1.1.1, by rw [ch_cb]; exact h.1.1.2, by rw [ch_cb]; exact h.1.2, by rw [ch_cb]; exact h.2⟩
theorem tops_at : ∀ s : Nat, 1 ≤ s → s ≤ 15 → ∃ t : Nat, topsL[s]? = some (.int (t : Int)) ∧ Sized s t
  | 0, h, _ => absurd h (by decide)
  | 1, _, _ => ⟨999999999999991, rfl, sized (by decide +kernel)⟩
  | 2, _, _ => ⟨10000000000, rfl, sized (by decide +kernel)⟩
  | 3, _, _ => ⟨30000000, rfl, sized (by decide +kernel)⟩
  | 4, _, _ => ⟨1000000, rfl, sized (by decide +kernel)⟩
  | 5, _, _ => ⟨100000, rfl, sized (by decide +kernel)⟩
  | 6, _, _ => ⟨20000, rfl, sized (by decide +kernel)⟩
  | 7, _, _ => ⟨6000, rfl, sized (by decide +kernel)⟩
  | 8, _, _ => ⟨2500, rfl, sized (by decide +kernel)⟩
  | 9, _, _ => ⟨1200, rfl, sized (by decide +kernel)⟩
  | 10, _, _ => ⟨700, rfl, sized (by decide +kernel)⟩
  | 11, _, _ => ⟨450, rfl, sized (by decide +kernel)⟩
  | 12, _, _ => ⟨300, rfl, sized (by decide +kernel)⟩
  | 13, _, _ => ⟨220, rfl, sized (by decide +kernel)⟩
  | 14, _, _ => ⟨170, rfl, sized (by decide +kernel)⟩
  | 15, _, _ => ⟨130, rfl, sized (by decide +kernel)⟩
  | s + 16, _, h => absurd h (by omega)
theorem tenS_lt : tenS < 2 ^ 110 := by decide +kernel
theorem small_1900 {n : Nat} (h : n < tenS) : n < 2 ^ 1900 := Nat.lt_trans h (Nat.lt_of_lt_of_le tenS_lt (Nat.pow_le_pow_right (by decide) (by decide)))
theorem top_2000 {a s : Nat} (hs : 1 ≤ s) (h : ch a s < tenS) (hs2 : s ≤ 20) : a < 2 ^ 2000 := by
  have h1 : 1 ≤ ch a s ∨ ch a s = 0 := by omega
  rcases h1 with h1 | h1
  · have := top_lt hs (Nat.le_refl _) h1
    have := small_1900 h
    have := Nat.lt_trans (big_pow this 20 (by decide)) (Nat.pow_lt_pow_right (a := 2) (m := 1910) (n := 2000) (by decide) (by decide))
    omega
  · have : a < s := by
      by_cases z : a < s
      · exact z
      · have := ch_pos (n := a) (k := s) (by omega)
        omega
    have z : (20 : Nat) < 2 ^ 2000 := Nat.lt_of_lt_of_le (by decide : 20 < 2 ^ 5) (Nat.pow_le_pow_right (by decide) (by decide))
    omega
/-- drawn numbers: below the bound -/
def sp_number : Sp := fun vs H Q _ => ∃ (G : Hp) (d : Addr) (s : Nat), vs = [.ref d, .int s] ∧ 1 ≤ s ∧ s ≤ 15 ∧ Dk G d H ∧ ∀ (N t : Nat) (G' H' : Hp), Sized s t → N < ch (t + 1) s → Ex G G' → Dk G' d H' → Q (.int N) H'
theorem ok_number (T : Txt K mg) : FnOk P w K mg base CX0 4 T.f_l_number T.d_l_number ["deck", "size"] sp_number := by
  have F_l_draw := ok_draw (P := P) (w := w) (base := base) T
  have F_l_pick := ok_pick (P := P) (w := w) (base := base) T
  have F_l_below := ok_below (P := P) (w := w) (base := base) T
  have F_l_choose := ok_choose (P := P) (w := w) (base := base) T
  refine T.U_l_number.ok sc_l_number (fun vs H Q E h => ?_) (fun cdv A outer s H vs Q E hr h => ?_)
  · obtain ⟨_, _, _, rfl, _⟩ := h
    rfl
  · obtain ⟨G, d, s, rfl, hs1, hs2, k, q⟩ := h
    refine ⟨_, (pss_cons (ps_set (i := 2) sc_l_number.nd rfl (.inl rfl) (pe_lst (pa_cons pe_int (pa_cons (pe_op op_sub (pe_op op_pow pe_int pe_int) pe_int) (pa_cons (pe_op op_pow pe_int pe_int) (pa_cons (pe_op op_mul pe_int (pe_op op_pow pe_int pe_int)) (pa_cons (pe_op op_pow pe_int pe_int) (pa_cons (pe_op op_pow pe_int pe_int) (pa_cons (pe_op op_mul pe_int (pe_op op_pow pe_int pe_int)) (pa_cons pe_int (pa_cons pe_int (pa_cons pe_int (pa_cons pe_int (pa_cons pe_int (pa_cons pe_int (pa_cons pe_int (pa_cons pe_int (pa_cons pe_int pa_nil))))))))))))))))))
  (pss_cons (ps_par rfl sc_l_number.nd (i := 3) (j := 4) rfl rfl (by decide) rfl rfl (pa_cons (pe_call F_l_draw (hr.mono (by decide)) (by rfl) T.g_l_draw T.k_l_draw T.b_l_draw .nil pass0 (pa_cons (pv 0) (pa_cons pe_int pa_nil))) (pa_cons (pv 1) pa_nil)) (by rfl))
  (pss_cons (ps_if (pt_cmpR op_eq (pv 3) pe_int (nomark _)) (pss_one (ps_ret (pe_call F_l_draw (hr.mono (by decide)) (by rfl) T.g_l_draw T.k_l_draw T.b_l_draw .nil pass0 (pa_cons (pv 0) (pa_cons pe_int pa_nil))))) pss_nil)
  (pss_cons (ps_set (i := 5) sc_l_number.nd rfl (.inl rfl) (pe_callB (call_min2 rfl) (by rfl) T.n_min (by decide +kernel) (pa_cons (pe_ix ix_list (pv 2) (pv 1) (fun _ _ => rfl)) (pa_cons (pe_call F_l_pick (hr.mono (by decide)) (by rfl) T.g_l_pick T.k_l_pick T.b_l_pick .nil pass0 (pa_cons (pv 0) (pa_cons (pe_lst (pa_cons (pe_ix ix_list (pv 2) (pv 1) (fun _ _ => rfl)) (pa_cons (pe_op op_add (pv 1) pe_int) (pa_cons (pe_op op_add (pv 1) pe_int) (pa_cons (pv 1) pa_nil))))) pa_nil))) pa_nil))))
  (pss_cons (ps_set (i := 4) sc_l_number.nd rfl (.inl rfl) (pe_op op_add (pv 1) (pe_call F_l_below (hr.mono (by decide)) (by rfl) T.g_l_below T.k_l_below T.b_l_below .nil pass0 (pa_cons (pv 0) (pa_cons (pe_op op_add (pe_op op_sub (pv 5) (pv 1)) pe_int) pa_nil)))))
  (pss_cons (ps_set (i := 6) sc_l_number.nd rfl (.inl rfl) (pe_call F_l_choose (hr.mono (by decide)) (by rfl) T.g_l_choose T.k_l_choose T.b_l_choose .nil pass0 (pa_cons (pv 4) (pa_cons (pv 1) pa_nil))))
  (pss_cons (ps_for PassesOwn.never rfl (pi_range3 rfl T.n_range (pa_cons (pe_op op_sub (pv 1) pe_int) (pa_cons (pe_call F_l_draw (hr.mono (by decide)) (by rfl) T.g_l_draw T.k_l_draw T.b_l_draw .nil pass0 (pa_cons (pv 0) (pa_cons (pv 1) pa_nil))) (pa_cons (pe_un un_neg pe_int) pa_nil)))) (pg_name (i := 7) sc_l_number.nd rfl (.inl rfl)) (pss_cons (ps_set (i := 4) sc_l_number.nd rfl (.inl rfl) (pe_call F_l_pick (hr.mono (by decide)) (by rfl) T.g_l_pick T.k_l_pick T.b_l_pick .nil pass0 (pa_cons (pv 0) (pa_cons (pe_lst (pa_cons (pe_op op_sub (pv 4) pe_int) (pa_cons (pv 7) (pa_cons (pe_op op_add (pv 7) (pe_call F_l_below (hr.mono (by decide)) (by rfl) T.g_l_below T.k_l_below T.b_l_below .nil pass0 (pa_cons (pv 0) (pa_cons (pe_op op_sub (pv 4) (pv 7)) pa_nil)))) pa_nil)))) pa_nil))))
  (pss_one (ps_set (i := 6) sc_l_number.nd rfl (.inl rfl) (pe_op op_add (pv 6) (pe_call F_l_choose (hr.mono (by decide)) (by rfl) T.g_l_choose T.k_l_choose T.b_l_choose .nil pass0 (pa_cons (pv 4) (pa_cons (pv 7) pa_nil))))))))
  (pss_one (ps_ret (pv 6)))))))))), ?_⟩
    obtain ⟨z, hz, sz⟩ := tops_at s hs1 hs2
    have hsz := sz.le
    have cp : ∀ n : Int, 0 ≤ n → n ≤ 1000 → CPow 10 n := fun n h1 h2 => ⟨h1, by omega, by decide⟩
    refine ⟨_, _, rfl, rfl, cp 15 (by decide) (by decide), _, _, rfl, rfl, _, _, rfl, rfl, cp 10 (by decide) (by decide), _, _, rfl, rfl, cp 7 (by decide) (by decide), _, _, rfl, rfl, .inl ⟨by decide, by decide⟩,
      _, _, rfl, rfl, cp 6 (by decide) (by decide), _, _, rfl, rfl, cp 5 (by decide) (by decide), _, _, rfl, rfl, cp 4 (by decide) (by decide), _, _, rfl, rfl, .inl ⟨by decide, by decide⟩, by show 16 ≤ sizeLine; decide, fun t nt => ?_⟩
    change tSeq _ _ _ _ (upd H t (.lst topsL))
    have k1 : Dk (upd G t (.lst topsL)) d (upd H t (.lst topsL)) := k.made nt
    generalize upd H t (.lst topsL) = H1 at k1 ⊢
    have ht1 : (upd G t (.lst topsL)) t = some (.lst topsL) := upd_same
    have x1 : Ex G (upd G t (.lst topsL)) := k.gex nt
    generalize upd G t (.lst topsL) = G1 at k1 ht1 x1 ⊢
    -- way, ahead = draw(deck, 4), size
    refine ⟨_, rfl, G1, d, _, rfl, by decide, by decide, k1, fun w1 H2 w0 w2 k2 => ⟨_, rfl, _, _, rfl, ?_⟩⟩
    refine ⟨_, rfl, rfl, _, rfl, ite2 (fun _ => ?_) (fun _ => ?_)⟩
    · -- return draw(deck, 60)
      refine ⟨_, rfl, G1, d, _, rfl, by decide, by decide, k2, fun r H3 r0 r1 k3 => ?_⟩
      have := q r.toNat z G1 H3 sz (by have := sz.some; omega) x1 k3
      rw [show ((r.toNat : Nat) : Int) = r by omega] at this
      exact this
    -- great
    refine ⟨_, rfl, _, rfl, t, topsL, _, _, rfl, rfl, SqL.of (k2.get ht1), atI_nat hz, _, rfl, _, rfl, _, rfl, t, topsL, _, _, rfl, rfl, SqL.of (k2.get ht1), atI_nat hz, _, rfl, _, _, rfl, rfl, _, rfl, _, _, rfl, rfl, _, rfl, by show 4 ≤ sizeLine; decide, fun u nu => ?_⟩
    have k3 : Dk (upd G1 u (.lst [.int z, .int ((s : Int) + 3), .int ((s : Int) + 40), .int s])) d _ := k2.made nu
    refine ⟨_, d, u, _, rfl, k3, upd_same, by show 1 ≤ 4; decide, by show 4 ≤ 1000; decide, fun i v H3 hv k4 => ?_⟩
    have x2 : Ex G (upd G1 u (.lst [.int z, .int ((s : Int) + 3), .int ((s : Int) + 40), .int s])) := x1.trans (k2.gex nu)
    generalize upd G1 u (.lst [.int z, .int ((s : Int) + 3), .int ((s : Int) + 40), .int s]) = G2 at k4 x2
    obtain ⟨g0, rfl, hg0⟩ : ∃ g : Int, v = .int g ∧ (s : Int) ≤ g := by
      rcases i with _ | _ | _ | _ | i
      · cases hv; exact ⟨_, rfl, by omega⟩
      · cases hv; exact ⟨_, rfl, by omega⟩
      · cases hv; exact ⟨_, rfl, by omega⟩
      · cases hv; exact ⟨_, rfl, by omega⟩
      · cases hv
    obtain ⟨g, hgg, hg1, hg2⟩ : ∃ g : Int, g = (if g0 < z then g0 else z) ∧ (s : Int) ≤ g ∧ g ≤ z := ⟨_, rfl, by split <;> omega, by split <;> omega⟩
    refine ⟨z, g0, rfl, ?_⟩
    rw [← hgg]
    -- ahead = size + below(deck, great - size + 1)
    refine ⟨_, rfl, _, rfl, _, rfl, _, rfl, _, _, rfl, rfl, _, _, rfl, rfl, G2, d, _, rfl, by omega, k4, fun r H4 r0 r1 k5 => ⟨_, _, rfl, rfl, ?_⟩⟩
    obtain ⟨a0, ha0⟩ : ∃ a0 : Nat, (s : Int) + r = (a0 : Int) := ⟨((s : Int) + r).toNat, by omega⟩
    show gName 4 (.int ((s : Int) + r)) _ _ _
    rw [ha0]
    have low := sz.low
    have B : ∀ a i : Nat, a ≤ z → i ≤ 20 → a < 2 ^ 2000 := fun a i h _ => by
      have := top_2000 (a := z + 1) (s := s) hs1 (by omega) (by omega)
      omega
    -- total = choose(ahead, size)
    refine ⟨_, rfl, _, rfl, a0, s, rfl, B a0 s (by omega) (by omega), by omega, ?_⟩
    have st0 : ch a0 s + ch a0 (s - 1) ≤ ch (z + 1) s := by
      have e := ch_succ a0 (s - 1)
      rw [show s - 1 + 1 = s by omega] at e
      have m := ch_mono s (show a0 + 1 ≤ z + 1 by omega)
      omega
    -- the loop
    refine ⟨_, rfl, _, _, rfl, rfl, _, rfl, _, rfl, _, d, _, rfl, by omega, by omega, k5, fun r H5 q0 q1 k6 => ?_⟩
    refine ⟨_, rfl, _, _, _, _, rfl, RgC.neg (by omega) (by omega) (by omega) (by omega), ?_⟩
    refine for_rangeC (fun i σ' H' => ∃ (a N : Nat) (G' : Hp) (y : Option V), σ' = [some (.ref d), some (.int s), some (.ref t), some (.int w1), some (.int a), some (.int g), some (.int N), y] ∧ a ≤ z ∧ (if i = 0 then s ≤ a else s - i ≤ a) ∧ N + ch a (s - 1 - i) ≤ ch (z + 1) s ∧ Ex G G' ∧ Dk G' d H')
      ⟨a0, ch a0 s, _, none, rfl, by omega, by show s ≤ a0; omega, st0, x2, k6⟩ ?_ ?_
    · rintro i σ' H' hi ⟨a, N, G', y, rfl, haz, hal, hN, xG, k7⟩
      obtain ⟨left, hleft⟩ : ∃ left : Nat, ((s : Int) - 1 + (i : Nat) * (-1)) = (left : Int) := ⟨s - 1 - i, by omega⟩
      rw [hleft]
      have hle : s - 1 - i = left ∧ 1 ≤ left := by omega
      rw [hle.1] at hN
      have haN : left + 1 ≤ a := by
        split at hal <;> omega
      refine ⟨_, rfl, _, rfl, _, _, rfl, rfl, _, rfl, _, rfl, _, rfl, _, rfl, _, rfl, _, _, rfl, rfl, G', d, _, rfl, by omega, k7, fun r' H6 r0 r1 k8 => ⟨_, _, rfl, rfl, by show 3 ≤ sizeLine; decide, fun v nv => ?_⟩⟩
      have k9 : Dk (upd G' v (.lst [.int ((a : Int) - 1), .int left, .int ((left : Int) + r')])) d _ := k8.made nv
      refine ⟨_, d, v, _, rfl, k9, upd_same, by show 1 ≤ 3; decide, by show 3 ≤ 1000; decide, fun j y H7 hy k10 => ?_⟩
      have x3 : Ex G (upd G' v (.lst [.int ((a : Int) - 1), .int left, .int ((left : Int) + r')])) := xG.trans (k8.gex nv)
      generalize upd G' v (.lst [.int ((a : Int) - 1), .int left, .int ((left : Int) + r')]) = G3 at k10 x3
      obtain ⟨b, rfl, hb1, hb2⟩ : ∃ b : Nat, y = .int b ∧ left ≤ b ∧ b + 1 ≤ a := by
        rcases j with _ | _ | _ | j
        · cases hy; exact ⟨a - 1, by rw [show (((a - 1 : Nat)) : Int) = (a : Int) - 1 by omega], by omega, by omega⟩
        · cases hy; exact ⟨left, rfl, by omega, by omega⟩
        · cases hy; exact ⟨((left : Int) + r').toNat, by rw [show ((((left : Int) + r').toNat : Nat) : Int) = (left : Int) + r' by omega], by omega, by omega⟩
        · cases hy
      refine ⟨_, rfl, _, rfl, _, rfl, b, left, rfl, B b left (by omega) (by omega), by omega, _, _, rfl, rfl, ?_⟩
      refine ⟨b, N + ch b left, G3, some (.int left), ?_, by omega, by rw [if_neg (Nat.succ_ne_zero i)]; omega, ?_, x3, k10⟩
      · rw [Int.natCast_add]
        rfl
      · have e := ch_succ b (left - 1)
        rw [show left - 1 + 1 = left by omega] at e
        have m := ch_mono left hb2
        rw [show s - 1 - (i + 1) = left - 1 by omega]
        omega
    · rintro σ' H' ⟨a, N, G', y, rfl, haz, hal, hN, xG, k7⟩
      generalize ((s : Int) - 1 - r).toNat = n at hal hN
      have hp := ch_pos (n := a) (k := s - 1 - n) (by split at hal <;> omega)
      exact ⟨_, rfl, q N z G' H' sz (by omega) xG k7⟩
end
end K06

namespace K06
open PySem PySem.Spec PyProof.Rows L2 Hr HrM Evl LamX
section
variable {P : Program} {w : World} {K : PySem.W.Frag} {mg : Str → Option Value} {base : Heap}
/-! how great the four numbers may be -/
theorem sum_lt : ∀ (l : List Nat) (B : Nat), (∀ x ∈ l, x ≤ B) → l.sum ≤ l.length * B
  | [], B, _ => by simp
  | x :: l, B, h => by
    have ih := sum_lt l B fun y hy => h y (List.mem_cons_of_mem _ hy)
    have hx := h x List.mem_cons_self
    rw [List.sum_cons, List.length_cons, Nat.add_mul]
    omega
theorem four_le {g : Nat → Nat → Nat} {s B : Nat} {xs : List Nat} (h : ∀ (i a : Nat), xs[i]? = some a → g a (s - i) ≤ B) : four g s xs ≤ xs.length * B := by
  have z := sum_lt (terms g s xs) B fun x hx => by
    obtain ⟨i, hi⟩ := List.getElem?_of_mem hx
    rw [terms_get] at hi
    cases e : xs[i]? with
    | none => rw [e] at hi; cases hi
    | some a => rw [e] at hi; cases hi; exact h i a e
  rw [terms_len] at z
  exact z
theorem ch_up (a i : Nat) : ch a (i + 1) ≤ ch a i * a := by
  have h := ch_mul a i
  have h2 : ch a (i + 1) ≤ ch a (i + 1) * (i + 1) := Nat.le_mul_of_pos_right _ (by omega)
  have h3 : ch a i * (a - i) ≤ ch a i * a := Nat.mul_le_mul_left _ (Nat.sub_le _ _)
  omega
theorem ch_down {a i : Nat} (h : i + 1 ≤ a) : ch a i ≤ ch a (i + 1) * (i + 1) := by
  rw [ch_mul]
  exact Nat.le_mul_of_pos_right _ (by omega)
theorem ch_both {a i : Nat} (ha : 1 ≤ a) : ch (a - 1) i ≤ ch a (i + 1) := by
  obtain ⟨b, rfl⟩ : ∃ b, a = b + 1 := ⟨a - 1, by omega⟩
  rw [Nat.add_sub_cancel, ch_succ]
  omega
theorem four_small {s : Nat} {xs : List Nat} (c : Cas s xs) (hs : s ≤ 16) (hv : val s xs < 2 ^ 900) :
    four gLS s xs < 2 ^ 1900 ∧ four gUS s xs < 2 ^ 1900 ∧ four gLP s xs < 2 ^ 1900 ∧ four gUP s xs < 2 ^ 1900 := by
  have hl := c.len
  have e1 : 2 ^ 1900 = 2 ^ 100 * (2 ^ 900 * 2 ^ 900) := by rw [← Nat.pow_add, ← Nat.pow_add]
  have h16 : (1024 : Nat) ≤ 2 ^ 100 := Nat.le_trans (by decide : 1024 ≤ 2 ^ 10) (Nat.pow_le_pow_right (by decide) (by decide))
  have hb : (1024 : Nat) ≤ 2 ^ 900 := Nat.le_trans (by decide : 1024 ≤ 2 ^ 10) (Nat.pow_le_pow_right (by decide) (by decide))
  rw [e1]
  generalize 2 ^ 900 = M at *
  generalize 2 ^ 100 = T at *
  have one : ∀ (i a : Nat), xs[i]? = some a → ∃ j, s - i = j + 1 ∧ j ≤ 15 ∧ j + 1 ≤ a ∧ ch a (j + 1) ≤ M ∧ a ≤ 2 * M := fun i a h => by
    have h1 := c.low i a h
    have h2 := (List.getElem?_eq_some_iff.mp h).1
    have h3 := val_ge s xs i a h
    have h4 := ch_pos h1
    have h5 := top_lt (a := a) (p := s - i) (by omega) h3 (by omega)
    exact ⟨s - i - 1, by omega, by omega, by omega, by rw [show s - i - 1 + 1 = s - i by omega]; omega, by omega⟩
  have MM : 1024 * M ≤ M * M := Nat.mul_le_mul_right M hb
  have fin : ∀ g : Nat → Nat → Nat, (∀ (i a : Nat), xs[i]? = some a → g a (s - i) ≤ 4 * (M * M)) → four g s xs < T * (M * M) := fun g h => by
    have z := four_le h
    have z2 : xs.length * (4 * (M * M)) ≤ 16 * (4 * (M * M)) := Nat.mul_le_mul_right _ (by omega)
    have z3 : 1024 * (M * M) ≤ T * (M * M) := Nat.mul_le_mul_right _ h16
    omega
  refine ⟨fin _ fun i a h => ?_, fin _ fun i a h => ?_, fin _ fun i a h => ?_, fin _ fun i a h => ?_⟩
  · obtain ⟨j, e, h1, h2, h3, h4⟩ := one i a h
    rw [e]
    show ch a (j + 1 - 1) ≤ _
    rw [Nat.add_sub_cancel]
    have z := ch_down (a := a) (i := j) h2
    have z2 : ch a (j + 1) * (j + 1) ≤ M * 16 := Nat.mul_le_mul h3 (by omega)
    omega
  · obtain ⟨j, e, h1, h2, h3, h4⟩ := one i a h
    rw [e]
    show ch a (j + 1 + 1) ≤ _
    have z := ch_up a (j + 1)
    have z2 : ch a (j + 1) * a ≤ M * (2 * M) := Nat.mul_le_mul h3 h4
    have z3 : M * (2 * M) = 2 * (M * M) := by rw [Nat.mul_left_comm]
    omega
  · obtain ⟨j, e, h1, h2, h3, h4⟩ := one i a h
    rw [e]
    show ch (a - 1) (j + 1 - 1) ≤ _
    rw [Nat.add_sub_cancel]
    have z := ch_both (a := a) (i := j) (by omega)
    omega
  · obtain ⟨j, e, h1, h2, h3, h4⟩ := one i a h
    rw [e]
    show ch (a + 1) (j + 1 + 1) ≤ _
    rw [ch_succ]
    have z := ch_up a (j + 1)
    have z2 : ch a (j + 1) * a ≤ M * (2 * M) := Nat.mul_le_mul h3 h4
    have z3 : M * (2 * M) = 2 * (M * M) := by rw [Nat.mul_left_comm]
    omega

theorem Uf_small {δ s n : Nat} (hδ : δ ≤ 1) (hs : 1 ≤ s) (hs2 : s ≤ 16) (hn : n < 2 ^ 900) : Uf δ s n < 2 ^ 1900 := by
  have c := cc_cas (s := s) (n := n) hs
  have z := four_small c.1 hs2 (by rw [c.2]; exact hn)
  have : δ = 0 ∨ δ = 1 := by omega
  rcases this with rfl | rfl
  · exact z.2.1
  · exact z.2.2.2
theorem small_900 {n : Nat} (h : n < tenS) : n < 2 ^ 900 := Nat.lt_trans h (Nat.lt_of_lt_of_le tenS_lt (Nat.pow_le_pow_right (by decide) (by decide)))
theorem ch_less {a i : Nat} (h : i + 1 ≤ a) : ch a i ≤ ch a (i + 1) * (i + 1) := by
  rw [ch_mul]
  exact Nat.le_mul_of_pos_right _ (by omega)
theorem sL_mul {δ : Nat} : ∀ {xs : List Nat} {s : Nat}, Cas s xs → sL δ s xs ≤ s * val s xs
  | [], _, _ => Nat.zero_le _
  | a :: r, s, c => by
    obtain ⟨t, rfl⟩ : ∃ t, s = t + 1 := ⟨s - 1, by have := c.pos; omega⟩
    have ih := sL_mul (δ := δ) c.tail
    have h1 := ch_less c.head
    have h2 := ch_mono t (show a - δ ≤ a by omega)
    rw [sL_cons, val_cons, Nat.mul_add]
    have h3 : t * val t r ≤ (t + 1) * val t r := Nat.mul_le_mul_right _ (by omega)
    rw [Nat.mul_comm (ch a (t + 1))] at h1
    omega
theorem Lf_mul {δ s n : Nat} (hs : 1 ≤ s) : Lf δ s n ≤ s * n := by
  have c := cc_cas (s := s) (n := n) hs
  have := sL_mul (δ := δ) c.1
  rw [c.2] at this
  exact this
theorem Lf_ten {δ s t n : Nat} (hs : 1 ≤ s) (hs2 : s ≤ 15) (z : Sized s t) (h : n ≤ ch (t + 1) s) : Lf δ (s + 1) n < tenS := by
  have h1 := Lf_mul (δ := δ) (s := s + 1) (n := n) (by omega)
  have h2 : (s + 1) * n ≤ 16 * ch (t + 1) s := Nat.mul_le_mul (by omega) h
  have := z.low
  omega
theorem Uf_ten {δ s t n : Nat} (hδ : δ ≤ 1) (hs : 1 ≤ s) (z : Sized s t) (h : n < ch (t + 1) s) : Uf δ s n + 1 < tenS := by
  have c := cc_cas (s := s) (n := n) hs
  have h1 := sU_lt (δ := δ) (u := t + 1) c.1 (fun a ha => by
    by_cases q : a < t + 1
    · exact q
    · have g1 := val_ge s _ 0 a ha
      have g2 := ch_mono s (show t + 1 ≤ a by omega)
      rw [Nat.sub_zero, c.2] at g1
      omega) (by have := z.le; omega)
  have h2 := ch_mono (s + 1) (show t + 1 + δ ≤ t + 2 by omega)
  have h3 := z.up
  show sU δ s (cc s n) + 1 < _
  omega
theorem ite_no {b : Bool} {A B : Prop} (h : b = false) (k : B) : (if b = true then A else B) := by
  rw [h]
  exact iteF k
theorem ite_yes {b : Bool} {A B : Prop} (h : b = true) (k : A) : (if b = true then A else B) := by
  rw [h]
  exact iteT k
/-- one of the two lower, or upper, numbers, by the way -/
def sp_way (P0 : Addr) (F : Nat → Nat → Nat → Nat) : Sp := fun vs H Q _ => ∃ (W n S : Int) (δ N s : Nat), vs = [.int W, .int n, .int S] ∧ W = δ ∧ n = N ∧ S = s ∧ δ ≤ 1 ∧ N < 2 ^ 1900 ∧ 1 ≤ s ∧ s ≤ 17 ∧ Tabs (topT P0) H ∧ RetVk (topT P0) (.int ((F δ s N : Nat) : Int)) H Q
theorem ok_l_lower (T : Txt K mg) (TB : TabB base mg T.c_greatest_top T.P_greatest_top) : FnOk P w K mg base CX0 6 T.f_l_lower T.d_l_lower ["way", "number", "size"] (sp_way T.P_greatest_top Lf) := by
  have F_lower_sets := ok_lower_sets (P := P) (w := w) (base := base) T TB
  have F_lower_products := ok_lower_products (P := P) (w := w) (base := base) T TB
  have kb_lower_products_size_number := sw2_binds (p1 := "number") (p2 := "size") T.U_lower_products fun _ _ _ _ _ _ _ _ => rfl
  refine T.U_l_lower.ok sc_l_lower (fun vs H Q E h => ?_) (fun cdv A outer s H vs Q E hr h => ?_)
  · obtain ⟨_, _, _, _, _, _, rfl, _⟩ := h
    rfl
  · obtain ⟨W, n, S, δ, N, s, rfl, rfl, rfl, rfl, hδ, hN, hs1, hs2, hT, q⟩ := h
    refine ⟨_, (pss_cons (ps_if (pt_cmpR op_eq (pv 0) pe_int (nomark _)) (pss_one (ps_ret (pe_call F_lower_sets (hr.mono (by decide)) (by rfl) T.g_lower_sets T.k_lower_sets T.b_lower_sets .nil pass0 (pa_cons (pv 1) (pa_cons (pv 2) pa_nil))))) pss_nil)
  (pss_one (ps_ret (pe_callK0 F_lower_products (hr.mono (by decide)) (by rfl) T.g_lower_products T.k_lower_products kb_lower_products_size_number pass0 (pk_cons (pv 2) (pk_cons (pv 1) pk_nil)))))), ?_⟩
    have : δ = 0 ∨ δ = 1 := by omega
    rcases this with rfl | rfl
    · refine ⟨_, rfl, rfl, _, rfl, ite_yes (decide_eq_true rfl) ?_⟩
      refine ⟨_, rfl, _, rfl, N, s, rfl, hN, hs1, hs2, hT, fun xs c v H2 e2 => ?_⟩
      have e := cc_eq hs1 c v
      subst e
      exact q H2 e2
    · refine ⟨_, rfl, rfl, _, rfl, ite_no (decide_eq_false fun h => nomatch h) ?_⟩
      refine ⟨_, rfl, _, rfl, N, s, rfl, hN, hs1, hs2, hT, fun xs c v H2 e2 => ?_⟩
      have e := cc_eq hs1 c v
      subst e
      exact q H2 e2
theorem ok_l_upper (T : Txt K mg) (TB : TabB base mg T.c_greatest_top T.P_greatest_top) : FnOk P w K mg base CX0 6 T.f_l_upper T.d_l_upper ["way", "number", "size"] (sp_way T.P_greatest_top Uf) := by
  have F_upper_sets := ok_upper_sets (P := P) (w := w) (base := base) T TB
  have F_upper_products := ok_upper_products (P := P) (w := w) (base := base) T TB
  have kb_upper_sets_size_number := sw2_binds (p1 := "number") (p2 := "size") T.U_upper_sets fun _ _ _ _ _ _ _ _ => rfl
  refine T.U_l_upper.ok sc_l_upper (fun vs H Q E h => ?_) (fun cdv A outer s H vs Q E hr h => ?_)
  · obtain ⟨_, _, _, _, _, _, rfl, _⟩ := h
    rfl
  · obtain ⟨W, n, S, δ, N, s, rfl, rfl, rfl, rfl, hδ, hN, hs1, hs2, hT, q⟩ := h
    refine ⟨_, (pss_cons (ps_if (pt_cmpR op_eq (pv 0) pe_int (nomark _)) (pss_one (ps_ret (pe_callK0 F_upper_sets (hr.mono (by decide)) (by rfl) T.g_upper_sets T.k_upper_sets kb_upper_sets_size_number pass0 (pk_cons (pv 2) (pk_cons (pv 1) pk_nil))))) pss_nil)
  (pss_one (ps_ret (pe_call F_upper_products (hr.mono (by decide)) (by rfl) T.g_upper_products T.k_upper_products T.b_upper_products .nil pass0 (pa_cons (pv 1) (pa_cons (pv 2) pa_nil)))))), ?_⟩
    have : δ = 0 ∨ δ = 1 := by omega
    rcases this with rfl | rfl
    · refine ⟨_, rfl, rfl, _, rfl, ite_yes (decide_eq_true rfl) ?_⟩
      refine ⟨_, rfl, _, rfl, N, s, rfl, hN, hs1, hs2, hT, fun xs c v H2 e2 => ?_⟩
      have e := cc_eq hs1 c v
      subst e
      exact q H2 e2
    · refine ⟨_, rfl, rfl, _, rfl, ite_no (decide_eq_false fun h => nomatch h) ?_⟩
      refine ⟨_, rfl, _, rfl, N, s, rfl, hN, hs1, hs2, hT, fun xs c v H2 e2 => ?_⟩
      have e := cc_eq hs1 c v
      subst e
      exact q H2 e2
def sp_is_integer : Sp := fun vs H Q _ => ∃ n : Nat, vs = [.int n] ∧ Q (.bl true) H
theorem ok_l_is_integer (T : Txt K mg) : FnOk P w K mg base CX0 2 T.f_l_is_integer T.d_l_is_integer ["thing"] sp_is_integer := by
  refine T.U_l_is_integer.ok sc_l_is_integer (fun vs H Q E h => ?_) (fun cdv A outer s H vs Q E hr h => ?_)
  · obtain ⟨n, rfl, _⟩ := h
    rfl
  · obtain ⟨n, rfl, q⟩ := h
    refine ⟨_, (pss_one (ps_ret (pe_and (pe_callB call_isi (by rfl) T.n_isinstance (by decide +kernel) (pa_cons (pv 0) (pa_cons (pe_bltn (v := .ty "int") (u := .type "int") (by rfl) T.n_int (by decide +kernel) rfl) pa_nil))) (pe_and (pe_not (pe_callB call_isi (by rfl) T.n_isinstance (by decide +kernel) (pa_cons (pv 0) (pa_cons (pe_bltn (v := .ty "bool") (u := .type "bool") (by rfl) T.n_bool (by decide +kernel) rfl) pa_nil)))) (pe_one (pe_cmpR op_ge (pv 0) pe_int (nomark _))))))), ?_⟩
    refine ⟨_, rfl, _, _, _, _, true, rfl, .ty "int", .base (.int n), kit_ty (by decide +kernel), true, rfl, iteT ?_⟩
    refine ⟨_, rfl, _, _, _, _, false, rfl, .ty "bool", .base (.int n), kit_ty (by decide +kernel), false, rfl, true, rfl, iteT ?_⟩
    refine ⟨_, rfl, _, _, rfl, rfl, ?_⟩
    have e : decide ((0 : Int) ≤ (n : Int)) = true := decide_eq_true (by omega)
    show Q (.bl (decide ((0 : Int) ≤ (n : Int)))) H
    rw [e]
    exact q
end
end K06

namespace K06
open PySem PySem.Spec PyProof.Rows L2 Hr HrM Evl LamX
section
variable {P : Program} {w : World} {K : PySem.W.Frag} {mg : Str → Option Value} {base : Heap}
theorem cp30 : CPow 10 30 := ⟨by decide, by decide, by decide⟩
theorem ten30 : (10 : Int) ^ (30 : Int).toNat = ((tenS : Nat) : Int) := by decide +kernel
/-! drawn beside tables -/
def sp_drawT (T : List (Addr × Str)) : Sp := fun vs H Q _ => ∃ (G : Hp) (d : Addr) (m : Int), vs = [.ref d, .int m] ∧ 1 ≤ m ∧ m ≤ 1000000 ∧ DkT T G d H ∧ ∀ (r : Int) (H' : Hp), 0 ≤ r → r < m → DkT T G d H' → Q (.int r) H'
theorem drawT {T : List (Addr × Str)} : ∀ vs H Q E, sp_drawT T vs H Q E → sp_draw vs H Q E := fun _ _ _ _ ⟨G, d, m, e, h1, h2, k, q⟩ => by
  obtain ⟨Gf, kf, _, back, _⟩ := k.full
  exact ⟨Gf, d, m, e, h1, h2, kf, fun r H' r0 r1 k' => q r H' r0 r1 (back k')⟩
def sp_pickT (T : List (Addr × Str)) : Sp := fun vs H Q _ => ∃ (G : Hp) (d t : Addr) (xs : List V), vs = [.ref d, .ref t] ∧ DkT T G d H ∧ G t = some (.lst xs) ∧ 1 ≤ xs.length ∧ xs.length ≤ 1000 ∧ ∀ (i : Nat) (v : V) (H' : Hp), xs[i]? = some v → DkT T G d H' → Q v H'
theorem pickT {T : List (Addr × Str)} : ∀ vs H Q E, sp_pickT T vs H Q E → sp_pick vs H Q E := fun _ _ _ _ ⟨G, d, t, xs, e, k, ht, h1, h2, q⟩ => by
  obtain ⟨Gf, kf, _, back, old⟩ := k.full
  exact ⟨Gf, d, t, xs, e, kf, old _ _ ht, h1, h2, fun i v H' hv k' => q i v H' hv (back k')⟩
def sp_belowT (T : List (Addr × Str)) : Sp := fun vs H Q _ => ∃ (G : Hp) (d : Addr) (m : Int), vs = [.ref d, .int m] ∧ 1 ≤ m ∧ DkT T G d H ∧ ∀ (r : Int) (H' : Hp), 0 ≤ r → r < m → DkT T G d H' → Q (.int r) H'
theorem belowT {T : List (Addr × Str)} : ∀ vs H Q E, sp_belowT T vs H Q E → sp_below vs H Q E := fun _ _ _ _ ⟨G, d, m, e, h1, k, q⟩ => by
  obtain ⟨Gf, kf, _, back, _⟩ := k.full
  exact ⟨Gf, d, m, e, h1, kf, fun r H' r0 r1 k' => q r H' r0 r1 (back k')⟩

def sp_is_held (P0 : Addr) : Sp := fun vs H Q _ => ∃ (G : Hp) (d : Addr) (W : Int) (δ n s t : Nat), vs = [.ref d, .int W, .int n, .int s] ∧ W = δ ∧ δ ≤ 1 ∧ 1 ≤ s ∧ s ≤ 15 ∧ Sized s t ∧ n < ch (t + 1) s ∧ DkT (topT P0) G d H ∧ ∀ H', DkT (topT P0) G d H' → Q (.bl true) H'
theorem ok_l_is_held (T : Txt K mg) (TB : TabB base mg T.c_greatest_top T.P_greatest_top) : FnOk P w K mg base CX0 7 T.f_l_is_held T.d_l_is_held ["deck", "way", "n", "size"] (sp_is_held T.P_greatest_top) := by
  have F_l_below := (ok_below (P := P) (w := w) (base := base) T).imp (belowT (T := topT T.P_greatest_top))
  have F_l_lower := ok_l_lower (P := P) (w := w) (base := base) T TB
  have F_l_upper := ok_l_upper (P := P) (w := w) (base := base) T TB
  have F_l_is_integer := ok_l_is_integer (P := P) (w := w) (base := base) T
  refine T.U_l_is_held.ok sc_l_is_held (fun vs H Q E h => ?_) (fun cdv A outer s H vs Q E hr h => ?_)
  · obtain ⟨_, _, _, _, _, _, _, rfl, _⟩ := h
    rfl
  · obtain ⟨G, d, W, δ, n, s, t, rfl, hW, hδ, hs1, hs2, sz, hn, k, q⟩ := h
    refine ⟨_, (pss_cons (ps_set (i := 4) sc_l_is_held.nd rfl (.inl rfl) (pe_call F_l_upper (hr.mono (by decide)) (by rfl) T.g_l_upper T.k_l_upper T.b_l_upper .nil pass0 (pa_cons (pv 1) (pa_cons (pv 2) (pa_cons (pv 3) pa_nil)))))
  (pss_cons (ps_if (PW.pt (pw_or (pt_not (pt_val (pe_call F_l_is_integer (hr.mono (by decide)) (by rfl) T.g_l_is_integer T.k_l_is_integer T.b_l_is_integer .nil pass0 (pa_cons (pv 4) pa_nil)))) (pw_or1 (pt_cmpR op_ge (pv 4) (pe_op op_sub (pe_op op_pow pe_int pe_int) pe_int) (nomark _))))) (pss_one (ps_ret pe_bl)) pss_nil)
  (pss_cons (ps_par rfl sc_l_is_held.nd (i := 5) (j := 6) rfl rfl (by decide) rfl rfl (pa_cons (pe_call F_l_lower (hr.mono (by decide)) (by rfl) T.g_l_lower T.k_l_lower T.b_l_lower .nil pass0 (pa_cons (pv 1) (pa_cons (pv 4) (pa_cons (pe_op op_add (pv 3) pe_int) pa_nil)))) (pa_cons (pe_call F_l_lower (hr.mono (by decide)) (by rfl) T.g_l_lower T.k_l_lower T.b_l_lower .nil pass0 (pa_cons (pv 1) (pa_cons (pe_op op_add (pv 4) pe_int) (pa_cons (pe_op op_add (pv 3) pe_int) pa_nil)))) pa_nil)) (by rfl))
  (pss_cons (ps_if (PW.pt (pw_or (pt_not (pt_val (pe_call F_l_is_integer (hr.mono (by decide)) (by rfl) T.g_l_is_integer T.k_l_is_integer T.b_l_is_integer .nil pass0 (pa_cons (pv 5) pa_nil)))) (pw_or (pt_not (pt_val (pe_call F_l_is_integer (hr.mono (by decide)) (by rfl) T.g_l_is_integer T.k_l_is_integer T.b_l_is_integer .nil pass0 (pa_cons (pv 6) pa_nil)))) (pw_or (pt_cmpR op_gt (pv 5) (pv 2) (nomark _)) (pw_or1 (pt_cmpR op_le (pv 6) (pv 2) (nomark _))))))) (pss_one (ps_ret pe_bl)) pss_nil)
  (pss_cons (ps_set (i := 7) sc_l_is_held.nd rfl (.inl rfl) (pe_call F_l_below (hr.mono (by decide)) (by rfl) T.g_l_below T.k_l_below T.b_l_below .nil pass0 (pa_cons (pv 0) (pa_cons (pe_op op_add (pv 4) pe_int) pa_nil))))
  (pss_cons (ps_if (pt_cmpR op_ne (pe_cmpR op_le (pe_call F_l_lower (hr.mono (by decide)) (by rfl) T.g_l_lower T.k_l_lower T.b_l_lower .nil pass0 (pa_cons (pv 1) (pa_cons (pv 7) (pa_cons (pe_op op_add (pv 3) pe_int) pa_nil)))) (pv 2) (nomark _)) (pe_cmpR op_le (pv 7) (pv 4) (nomark _)) (nomark _)) (pss_one (ps_ret pe_bl)) pss_nil)
  (pss_one (ps_ret (pe_cmpR op_eq (pe_call F_l_upper (hr.mono (by decide)) (by rfl) T.g_l_upper T.k_l_upper T.b_l_upper .nil pass0 (pa_cons (pv 1) (pa_cons (pv 5) (pa_cons (pv 3) pa_nil)))) (pv 4) (nomark _)))))))))), ?_⟩
    have hn2 : n < tenS := by have := sz.low; omega
    have hU := Uf_ten hδ hs1 sz hn
    -- most
    refine ⟨_, rfl, _, rfl, _, rfl, W, n, s, δ, n, s, rfl, hW, rfl, rfl, hδ, small_1900 hn2, hs1, by omega, k.t, fun H2 e2 => ?_⟩
    obtain ⟨U, hUe⟩ : ∃ U, U = Uf δ s n := ⟨_, rfl⟩
    rw [← hUe] at hU ⊢
    have k2 := k.moreK e2
    refine ⟨_, rfl, U, rfl, _, rfl, ite_no rfl ?_⟩
    refine ⟨_, rfl, _, _, rfl, rfl, cp30, _, _, rfl, rfl, _, _, rfl, rfl, _, rfl, ite_no (decide_eq_false fun z => ?_) ?_⟩
    · have z2 : (10 : Int) ^ (30 : Int).toNat - 1 ≤ (U : Int) := z
      rw [ten30] at z2
      omega
    have U19 : U < 2 ^ 1900 := small_1900 (by omega)
    have U19' : U + 1 < 2 ^ 1900 := small_1900 hU
    have n1 : Lf δ (s + 1) U ≤ n := (Gal hδ hs1).mpr (by omega)
    have n2 : n < Lf δ (s + 1) (U + 1) := by
      by_cases z : Lf δ (s + 1) (U + 1) ≤ n
      · have := (Gal hδ hs1).mp z
        omega
      · omega
    have n3 : Uf δ s (Lf δ (s + 1) U) = U := by
      have g1 := Uf_mono (δ := δ) hδ hs1 n1
      have g2 := (Gal (δ := δ) (m := U) hδ hs1).mp (Nat.le_refl _)
      omega
    -- near, far
    refine ⟨_, rfl, _, rfl, _, rfl, _, _, rfl, rfl, W, U, (s : Int) + 1, δ, U, s + 1, rfl, hW, rfl, rfl, hδ, U19, by omega, by omega, k2.t, fun H3 e3 => ?_⟩
    refine ⟨_, rfl, _, rfl, _, _, rfl, rfl, _, rfl, _, _, rfl, rfl, W, (U : Int) + 1, (s : Int) + 1, δ, U + 1, s + 1, rfl, hW, rfl, rfl, hδ, U19', by omega, by omega, (k2.moreK e3).t, fun H4 e4 => ?_⟩
    refine ⟨_, _, rfl, ?_⟩
    have k4 := (k2.moreK e3).moreK e4
    generalize Lf δ (s + 1) U = N1 at n1 n3 ⊢
    generalize Lf δ (s + 1) (U + 1) = N2 at n2 ⊢
    refine ⟨_, rfl, N1, rfl, _, rfl, ite_no rfl ?_⟩
    refine ⟨_, rfl, N2, rfl, _, rfl, ite_no rfl ?_⟩
    refine ⟨_, rfl, _, rfl, _, _, rfl, rfl, _, rfl, ite_no (decide_eq_false fun z => ?_) ?_⟩
    · have z2 : (n : Int) < (N1 : Int) := z
      omega
    refine ⟨_, rfl, _, rfl, _, _, rfl, rfl, _, rfl, ite_no (decide_eq_false fun z => ?_) ?_⟩
    · have z2 : (N2 : Int) ≤ (n : Int) := z
      omega
    -- m
    refine ⟨_, rfl, _, rfl, _, _, rfl, rfl, G, d, _, rfl, by omega, k4, fun r H5 r0 r1 k5 => ?_⟩
    obtain ⟨m, rfl⟩ : ∃ m : Nat, r = (m : Int) := ⟨r.toNat, by omega⟩
    have m19 : m < 2 ^ 1900 := small_1900 (by omega)
    refine ⟨_, rfl, _, rfl, _, rfl, _, _, rfl, rfl, W, m, (s : Int) + 1, δ, m, s + 1, rfl, hW, rfl, rfl, hδ, m19, by omega, by omega, k5.t, fun H6 e6 => ?_⟩
    have n4 : decide (((Lf δ (s + 1) m : Nat) : Int) ≤ (n : Int)) = decide ((m : Int) ≤ (U : Int)) := by
      have := Gal (m := m) (n := n) hδ hs1
      rw [← hUe] at this
      exact decide_eq_decide.mpr (by omega)
    refine ⟨_, rfl, _, _, rfl, rfl, ?_⟩
    refine ⟨_, rfl, _, rfl, _, _, rfl, rfl, ?_⟩
    refine ⟨rfl, _, rfl, ite_no (b := !decide (V.bl (decide (((Lf δ (s + 1) m : Nat) : Int) ≤ (n : Int))) = V.bl (decide ((m : Int) ≤ (U : Int))))) (by rw [n4, decide_eq_true rfl]; rfl) ?_⟩
    refine ⟨_, rfl, _, rfl, _, rfl, W, N1, s, δ, N1, s, rfl, hW, rfl, rfl, hδ, small_1900 (by omega), hs1, by omega, (k5.moreK e6).t, fun H7 e7 => ?_⟩
    rw [n3]
    refine ⟨_, rfl, rfl, ?_⟩
    have k7 := (k5.moreK e6).moreK e7
    have := q H7 k7
    show Q (.bl (decide (V.int (U : Int) = V.int (U : Int)))) H7
    rw [decide_eq_true rfl]
    exact this
def sp_is_led (P0 : Addr) : Sp := fun vs H Q _ => ∃ (W : Int) (δ m s t : Nat), vs = [.int W, .int m, .int s] ∧ W = δ ∧ δ ≤ 1 ∧ 1 ≤ s ∧ s ≤ 15 ∧ Sized s t ∧ m ≤ ch (t + 1) s ∧ Tabs (topT P0) H ∧ RetVk (topT P0) (.bl true) H Q
theorem ok_l_is_led (T : Txt K mg) (TB : TabB base mg T.c_greatest_top T.P_greatest_top) : FnOk P w K mg base CX0 7 T.f_l_is_led T.d_l_is_led ["way", "m", "size"] (sp_is_led T.P_greatest_top) := by
  have F_l_lower := ok_l_lower (P := P) (w := w) (base := base) T TB
  have F_l_upper := ok_l_upper (P := P) (w := w) (base := base) T TB
  have F_l_is_integer := ok_l_is_integer (P := P) (w := w) (base := base) T
  refine T.U_l_is_led.ok sc_l_is_led (fun vs H Q E h => ?_) (fun cdv A outer s H vs Q E hr h => ?_)
  · obtain ⟨_, _, _, _, _, rfl, _⟩ := h
    rfl
  · obtain ⟨W, δ, m, s, t, rfl, hW, hδ, hs1, hs2, sz, hm, hT, q⟩ := h
    refine ⟨_, (pss_cons (ps_set (i := 3) sc_l_is_led.nd rfl (.inl rfl) (pe_call F_l_lower (hr.mono (by decide)) (by rfl) T.g_l_lower T.k_l_lower T.b_l_lower .nil pass0 (pa_cons (pv 0) (pa_cons (pv 1) (pa_cons (pe_op op_add (pv 2) pe_int) pa_nil)))))
  (pss_cons (ps_if (PW.pt (pw_or (pt_not (pt_val (pe_call F_l_is_integer (hr.mono (by decide)) (by rfl) T.g_l_is_integer T.k_l_is_integer T.b_l_is_integer .nil pass0 (pa_cons (pv 3) pa_nil)))) (pw_or (pt_cmpR op_ge (pv 3) (pe_op op_pow pe_int pe_int) (nomark _)) (pw_or1 (pt_cmpR op_lt (pe_call F_l_upper (hr.mono (by decide)) (by rfl) T.g_l_upper T.k_l_upper T.b_l_upper .nil pass0 (pa_cons (pv 0) (pa_cons (pv 3) (pa_cons (pv 2) pa_nil)))) (pv 1) (nomark _)))))) (pss_one (ps_ret pe_bl)) pss_nil)
  (pss_cons (ps_if (PW.pt (pw_and (pt_cmpR op_gt (pv 3) pe_int (nomark _)) (pw_and1 (pt_cmpR op_ge (pe_call F_l_upper (hr.mono (by decide)) (by rfl) T.g_l_upper T.k_l_upper T.b_l_upper .nil pass0 (pa_cons (pv 0) (pa_cons (pe_op op_sub (pv 3) pe_int) (pa_cons (pv 2) pa_nil)))) (pv 1) (nomark _))))) (pss_one (ps_ret pe_bl)) pss_nil)
  (pss_one (ps_ret (pe_cmpR op_eq (pe_call F_l_lower (hr.mono (by decide)) (by rfl) T.g_l_lower T.k_l_lower T.b_l_lower .nil pass0 (pa_cons (pv 0) (pa_cons (pe_call F_l_upper (hr.mono (by decide)) (by rfl) T.g_l_upper T.k_l_upper T.b_l_upper .nil pass0 (pa_cons (pv 0) (pa_cons (pv 3) (pa_cons (pv 2) pa_nil)))) (pa_cons (pe_op op_add (pv 2) pe_int) pa_nil)))) (pv 3) (nomark _))))))), ?_⟩
    have hm2 : m < tenS := by have := sz.low; omega
    have hL := Lf_ten (δ := δ) hs1 hs2 sz hm
    -- least
    refine ⟨_, rfl, _, rfl, _, rfl, _, _, rfl, rfl, W, m, (s : Int) + 1, δ, m, s + 1, rfl, hW, rfl, rfl, hδ, small_1900 hm2, by omega, by omega, hT, fun H1 e1 => ?_⟩
    have g1 := (Gal (δ := δ) (m := m) hδ hs1).mp (Nat.le_refl _)
    have g2 : ∀ n : Nat, n < Lf δ (s + 1) m → Uf δ s n < m := fun n h => by
      by_cases z : m ≤ Uf δ s n
      · have := (Gal (δ := δ) hδ hs1).mpr z
        omega
      · omega
    have g3 : Lf δ (s + 1) (Uf δ s (Lf δ (s + 1) m)) = Lf δ (s + 1) m := by
      have z1 := (Gal (δ := δ) (m := Uf δ s (Lf δ (s + 1) m)) (n := Lf δ (s + 1) m) hδ hs1).mpr (Nat.le_refl _)
      have z2 := (Gal (δ := δ) (m := m) (n := Lf δ (s + 1) (Uf δ s (Lf δ (s + 1) m))) hδ hs1).mpr (Nat.le_trans g1 ((Gal hδ hs1).mp (Nat.le_refl _)))
      omega
    generalize Lf δ (s + 1) m = L at *
    have U19 := Uf_small (n := L) hδ hs1 (by omega) (small_900 hL)
    have L19 : L < 2 ^ 1900 := small_1900 hL
    refine ⟨_, rfl, L, rfl, _, rfl, ite_no rfl ?_⟩
    refine ⟨_, rfl, _, _, rfl, rfl, cp30, _, _, rfl, rfl, _, rfl, ite_no (decide_eq_false fun z => ?_) ?_⟩
    · have z2 : (10 : Int) ^ (30 : Int).toNat ≤ (L : Int) := z
      rw [ten30] at z2
      omega
    refine ⟨_, rfl, _, rfl, _, rfl, W, L, s, δ, L, s, rfl, hW, rfl, rfl, hδ, L19, hs1, by omega, (e1.t hT), fun H2 e2 => ?_⟩
    refine ⟨_, rfl, _, _, rfl, rfl, _, rfl, ite_no (decide_eq_false fun z => ?_) ?_⟩
    · have z2 : ((Uf δ s L : Nat) : Int) < (m : Int) := z
      omega
    -- return lower(way, upper(way, least, size), size + 1) == least
    have fin : ∀ H3 : Hp, Ek (topT T.P_greatest_top) H H3 → tRet (tOp rEq (tCall (sp_way T.P_greatest_top Lf) [] E0 (tCons (tVar 0) (tCons (tCall (sp_way T.P_greatest_top Uf) [] E0 (tCons (tVar 0) (tCons (tVar 3) (tCons (tVar 2) tNil)))) (tCons (tOp (rI0 fun i j => V.int (i + j)) (tVar 2) (tC (.int 1))) tNil)))) (tVar 3)) { nx := fun x H' => Q V.non H', rt := Q } [some (.int W), some (.int m), some (.int s), some (.int L)] H3 := fun H3 e3 => by
      refine ⟨_, rfl, _, rfl, _, rfl, _, rfl, W, L, s, δ, L, s, rfl, hW, rfl, rfl, hδ, L19, hs1, by omega, (e3.t hT), fun H4 e4 => ?_⟩
      refine ⟨_, rfl, _, _, rfl, rfl, W, ((Uf δ s L : Nat) : Int), (s : Int) + 1, δ, Uf δ s L, s + 1, rfl, hW, rfl, rfl, hδ, U19, by omega, by omega, ((e3.trans e4).t hT), fun H5 e5 => ?_⟩
      rw [g3]
      refine ⟨_, rfl, rfl, ?_⟩
      show Q (.bl (decide (V.int (L : Int) = V.int (L : Int)))) H5
      rw [decide_eq_true rfl]
      exact q H5 ((e3.trans e4).trans e5)
    -- if least > 0 and upper(way, least - 1, size) >= m
    refine ⟨_, rfl, _, _, rfl, rfl, _, rfl, ite2 (fun h0 => ?_) (fun _ => ?_)⟩
    · have h0' : (0 : Int) < (L : Int) := of_decide_eq_true h0
      have g4 := g2 (L - 1) (by omega)
      refine ⟨_, rfl, _, rfl, _, _, rfl, rfl, _, rfl, W, (L : Int) - 1, s, δ, L - 1, s, rfl, hW, by omega, rfl, hδ, by omega, hs1, by omega, ((e1.trans e2).t hT), fun H3 e3 => ?_⟩
      refine ⟨_, rfl, _, _, rfl, rfl, _, rfl, ite_no (decide_eq_false fun z => ?_) ?_⟩
      · have z2 : (m : Int) ≤ ((Uf δ s (L - 1) : Nat) : Int) := z
        omega
      exact fin H3 ((e1.trans e2).trans e3)
    · exact fin H2 (e1.trans e2)
end
end K06

namespace K06
open PySem PySem.Spec PyProof.Rows L2 Hr HrM Evl LamX
section
variable {P : Program} {w : World} {K : PySem.W.Frag} {mg : Str → Option Value} {base : Heap}
theorem Lf_mono {δ s a b : Nat} (hδ : δ ≤ 1) (hs : 1 ≤ s) (h : a ≤ b) : Lf δ s a ≤ Lf δ s b := by
  obtain ⟨t, rfl⟩ : ∃ t, s = t + 1 := ⟨s - 1, by omega⟩
  by_cases ht : t = 0
  · subst ht
    rw [Lf_one, Lf_one]
    split <;> split <;> omega
  · have ht : 1 ≤ t := by omega
    exact (Gal hδ ht).mpr (Nat.le_trans h ((Gal hδ ht).mp (Nat.le_refl _)))
def sp_do_rise (P0 : Addr) : Sp := fun vs H Q _ => ∃ (G : Hp) (d : Addr) (n s : Nat), vs = [.ref d, .int n, .int s] ∧ n < tenS ∧ 1 ≤ s ∧ s ≤ 15 ∧ DkT (topT P0) G d H ∧ ∀ H', Q (.bl true) H'
theorem ok_l_do_rise (T : Txt K mg) (TB : TabB base mg T.c_greatest_top T.P_greatest_top) : FnOk P w K mg base CX0 7 T.f_l_do_rise T.d_l_do_rise ["deck", "number", "size"] (sp_do_rise T.P_greatest_top) := by
  have F_l_draw := (ok_draw (P := P) (w := w) (base := base) T).imp (drawT (T := topT T.P_greatest_top))
  have F_l_pick := (ok_pick (P := P) (w := w) (base := base) T).imp (pickT (T := topT T.P_greatest_top))
  have F_l_below := (ok_below (P := P) (w := w) (base := base) T).imp (belowT (T := topT T.P_greatest_top))
  have F_l_lower := ok_l_lower (P := P) (w := w) (base := base) T TB
  have F_l_upper := ok_l_upper (P := P) (w := w) (base := base) T TB
  have F_lower_sets := ok_lower_sets (P := P) (w := w) (base := base) T TB
  refine T.U_l_do_rise.ok sc_l_do_rise (fun vs H Q E h => ?_) (fun cdv A outer s H vs Q E hr h => ?_)
  · obtain ⟨_, _, _, _, rfl, _⟩ := h
    rfl
  · obtain ⟨G, d, n, s, rfl, hn, hs1, hs2, k, q⟩ := h
    refine ⟨_, (pss_cons (ps_set (i := 3) sc_l_do_rise.nd rfl (.inl rfl) (pe_op op_add (pe_op op_add (pv 1) pe_int) (pe_call F_l_draw (hr.mono (by decide)) (by rfl) T.g_l_draw T.k_l_draw T.b_l_draw .nil pass0 (pa_cons (pv 0) (pa_cons (pe_call F_l_pick (hr.mono (by decide)) (by rfl) T.g_l_pick T.k_l_pick T.b_l_pick .nil pass0 (pa_cons (pv 0) (pa_cons (pe_lst (pa_cons pe_int (pa_cons pe_int (pa_cons pe_int pa_nil)))) pa_nil))) pa_nil)))))
  (pss_cons (ps_for PassesOwn.never rfl (pi_tup (pe_tup (pa_cons pe_int (pa_cons pe_int pa_nil)))) (pg_name (i := 4) sc_l_do_rise.nd rfl (.inl rfl)) (pss_cons (ps_if (pt_cmpR op_gt (pe_call F_l_lower (hr.mono (by decide)) (by rfl) T.g_l_lower T.k_l_lower T.b_l_lower .nil pass0 (pa_cons (pv 4) (pa_cons (pv 1) (pa_cons (pv 2) pa_nil)))) (pe_call F_l_lower (hr.mono (by decide)) (by rfl) T.g_l_lower T.k_l_lower T.b_l_lower .nil pass0 (pa_cons (pv 4) (pa_cons (pv 3) (pa_cons (pv 2) pa_nil)))) (nomark _)) (pss_one (ps_ret pe_bl)) pss_nil)
  (pss_one (ps_if (pt_cmpR op_gt (pe_call F_l_upper (hr.mono (by decide)) (by rfl) T.g_l_upper T.k_l_upper T.b_l_upper .nil pass0 (pa_cons (pv 4) (pa_cons (pv 1) (pa_cons (pv 2) pa_nil)))) (pe_call F_l_upper (hr.mono (by decide)) (by rfl) T.g_l_upper T.k_l_upper T.b_l_upper .nil pass0 (pa_cons (pv 4) (pa_cons (pv 3) (pa_cons (pv 2) pa_nil)))) (nomark _)) (pss_one (ps_ret pe_bl)) pss_nil))))
  (pss_cons (ps_set (i := 5) sc_l_do_rise.nd rfl (.inl rfl) (pe_call F_l_below (hr.mono (by decide)) (by rfl) T.g_l_below T.k_l_below T.b_l_below .nil pass0 (pa_cons (pv 0) (pa_cons (pe_call F_l_pick (hr.mono (by decide)) (by rfl) T.g_l_pick T.k_l_pick T.b_l_pick .nil pass0 (pa_cons (pv 0) (pa_cons (pe_lst (pa_cons (pe_op op_add (pv 1) pe_int) (pa_cons pe_int pa_nil))) pa_nil))) pa_nil))))
  (pss_one (ps_ret (pe_cmpR op_le (pe_call F_lower_sets (hr.mono (by decide)) (by rfl) T.g_lower_sets T.k_lower_sets T.b_lower_sets .nil pass0 (pa_cons (pe_op op_add (pv 1) (pv 5)) (pa_cons (pv 2) pa_nil))) (pe_op op_add (pe_call F_lower_sets (hr.mono (by decide)) (by rfl) T.g_lower_sets T.k_lower_sets T.b_lower_sets .nil pass0 (pa_cons (pv 1) (pa_cons (pv 2) pa_nil))) (pe_call F_lower_sets (hr.mono (by decide)) (by rfl) T.g_lower_sets T.k_lower_sets T.b_lower_sets .nil pass0 (pa_cons (pv 5) (pa_cons (pv 2) pa_nil)))) (nomark _))))))), ?_⟩
    refine ⟨_, rfl, _, _, rfl, rfl, _, rfl, _, rfl, by show 3 ≤ sizeLine; decide, fun v nv => ?_⟩
    have k1 : DkT (topT T.P_greatest_top) (upd G v (.lst [.int 1, .int 20, .int 1000])) d _ := k.made nv
    refine ⟨_, d, v, _, rfl, k1, upd_same, by show 1 ≤ 3; decide, by show 3 ≤ 1000; decide, fun j y H2 hy k2 => ?_⟩
    generalize upd G v (.lst [.int 1, .int 20, .int 1000]) = G1 at k2
    obtain ⟨pI, rfl, hp1, hp2⟩ : ∃ pI : Int, y = .int pI ∧ 1 ≤ pI ∧ pI ≤ 1000 := by
      rcases j with _ | _ | _ | j
      · cases hy; exact ⟨_, rfl, by decide, by decide⟩
      · cases hy; exact ⟨_, rfl, by decide, by decide⟩
      · cases hy; exact ⟨_, rfl, by decide, by decide⟩
      · cases hy
    refine ⟨G1, d, _, rfl, hp1, by omega, k2, fun r H3 r0 r1 k3 => ⟨_, _, rfl, rfl, ?_⟩⟩
    obtain ⟨g, hg, hg1⟩ : ∃ g : Nat, (n : Int) + 1 + r = (g : Int) ∧ n ≤ g := ⟨((n : Int) + 1 + r).toNat, by omega, by omega⟩
    show gName 3 (.int ((n : Int) + 1 + r)) _ _ _
    rw [hg]
    have n19 := small_1900 hn
    have n91 := small_900 hn
    have g19 : g < 2 ^ 1900 := by
      have : n + 1000 < 2 ^ 1000 := by
        have e : 2 ^ 1000 = 2 ^ 100 * 2 ^ 900 := by rw [← Nat.pow_add]
        have h16 : (1024 : Nat) ≤ 2 ^ 100 := Nat.le_trans (by decide : 1024 ≤ 2 ^ 10) (Nat.pow_le_pow_right (by decide) (by decide))
        have h2 : 1024 * 2 ^ 900 ≤ 2 ^ 100 * 2 ^ 900 := Nat.mul_le_mul_right _ h16
        rw [e]
        generalize 2 ^ 100 * 2 ^ 900 = z at *
        generalize 2 ^ 900 = y at *
        omega
      have := Nat.lt_trans this (Nat.pow_lt_pow_right (a := 2) (m := 1000) (n := 1900) (by decide) (by decide))
      omega
    -- for way in (0, 1)
    refine ⟨by show 2 ≤ sizeLine; decide, fun t nt => ⟨t, rfl, ⟨_, SqT.of upd_same⟩, for_tup (xs := [.int 0, .int 1]) (fun i σ' H' => ∃ y : Option V, σ' = [some (.ref d), some (.int n), some (.int s), some (.int g), y, none] ∧ H' t = some (.tup [.int 0, .int 1]) ∧ DkT (topT T.P_greatest_top) G1 d H') ⟨none, rfl, upd_same, k3.new nt⟩ ?_ ?_ ?_⟩⟩
    · rintro i σ' H' _ ⟨y, rfl, ht, _⟩
      exact SqT.of ht
    · rintro i x σ' H' hx ⟨y, rfl, ht, k4⟩
      obtain ⟨δ, rfl, hδ⟩ : ∃ δ : Nat, x = .int δ ∧ δ ≤ 1 := by
        rcases i with _ | _ | i
        · cases hx; exact ⟨0, rfl, by decide⟩
        · cases hx; exact ⟨1, rfl, by decide⟩
        · cases hx
      have m1 := Lf_mono (δ := δ) hδ hs1 hg1
      have m2 := Uf_mono (δ := δ) hδ hs1 hg1
      refine ⟨_, rfl, _, rfl, _, rfl, δ, n, s, δ, n, s, rfl, rfl, rfl, rfl, hδ, n19, hs1, by omega, k4.t, fun H5 e5 => ?_⟩
      refine ⟨_, rfl, _, rfl, _, rfl, δ, g, s, δ, g, s, rfl, rfl, rfl, rfl, hδ, g19, hs1, by omega, (k4.moreK e5).t, fun H6 e6 => ?_⟩
      refine ⟨_, _, rfl, rfl, _, rfl, ite_no (decide_eq_false fun z => ?_) ?_⟩
      · have z2 : ((Lf δ s g : Nat) : Int) < ((Lf δ s n : Nat) : Int) := z
        omega
      refine ⟨_, rfl, _, rfl, _, rfl, δ, n, s, δ, n, s, rfl, rfl, rfl, rfl, hδ, n19, hs1, by omega, ((k4.moreK e5).moreK e6).t, fun H7 e7 => ?_⟩
      refine ⟨_, rfl, _, rfl, _, rfl, δ, g, s, δ, g, s, rfl, rfl, rfl, rfl, hδ, g19, hs1, by omega, (((k4.moreK e5).moreK e6).moreK e7).t, fun H8 e8 => ?_⟩
      refine ⟨_, _, rfl, rfl, _, rfl, ite_no (decide_eq_false fun z => ?_) ?_⟩
      · have z2 : ((Uf δ s g : Nat) : Int) < ((Uf δ s n : Nat) : Int) := z
        omega
      have e := ((e5.trans e6).trans e7).trans e8
      exact ⟨_, rfl, e.get ht, k4.moreK e⟩
    · rintro σ' H' ⟨y, rfl, ht, k4⟩
      refine ⟨_, rfl, _, rfl, _, rfl, _, _, rfl, rfl, by show 2 ≤ sizeLine; decide, fun v nv => ?_⟩
      have k5 : DkT (topT T.P_greatest_top) (upd G1 v (.lst [.int ((n : Int) + 1), .int 50])) d _ := k4.made nv
      refine ⟨_, d, v, _, rfl, k5, upd_same, by show 1 ≤ 2; decide, by show 2 ≤ 1000; decide, fun j y H5 hy k6 => ?_⟩
      generalize upd G1 v (.lst [.int ((n : Int) + 1), .int 50]) = G2 at k6
      obtain ⟨pI, rfl, hp1, hp2⟩ : ∃ pI : Int, y = .int pI ∧ 1 ≤ pI ∧ pI ≤ (n : Int) + 50 := by
        rcases j with _ | _ | j
        · cases hy; exact ⟨_, rfl, by omega, by omega⟩
        · cases hy; exact ⟨_, rfl, by decide, by omega⟩
        · cases hy
      refine ⟨G2, d, _, rfl, hp1, k6, fun r2 H6 r20 r21 k7 => ?_⟩
      obtain ⟨o, rfl⟩ : ∃ o : Nat, r2 = (o : Int) := ⟨r2.toNat, by omega⟩
      have no19 : n + o < 2 ^ 1900 ∧ o < 2 ^ 1900 := by
        have : n + n + 50 < 2 ^ 1000 := by
          have e : 2 ^ 1000 = 2 ^ 100 * 2 ^ 900 := by rw [← Nat.pow_add]
          have h16 : (1024 : Nat) ≤ 2 ^ 100 := Nat.le_trans (by decide : 1024 ≤ 2 ^ 10) (Nat.pow_le_pow_right (by decide) (by decide))
          have h2 : 1024 * 2 ^ 900 ≤ 2 ^ 100 * 2 ^ 900 := Nat.mul_le_mul_right _ h16
          rw [e]
          generalize 2 ^ 100 * 2 ^ 900 = z at *
          generalize 2 ^ 900 = y at *
          omega
        have := Nat.lt_trans this (Nat.pow_lt_pow_right (a := 2) (m := 1000) (n := 1900) (by decide) (by decide))
        omega
      refine ⟨_, rfl, _, rfl, _, _, rfl, rfl, _, rfl, n + o, s, rfl, no19.1, hs1, by omega, k7.t, fun xs c e H7 e7 => ?_⟩
      refine ⟨_, rfl, _, rfl, n, s, rfl, n19, hs1, by omega, (e7.t k7.t), fun ys c2 e2 H8 e8 => ?_⟩
      refine ⟨_, rfl, _, rfl, o, s, rfl, no19.2, hs1, by omega, (e8.t (e7.t k7.t)), fun zs c3 e3 H9 e9 => ?_⟩
      refine ⟨_, _, rfl, rfl, _, _, rfl, rfl, ?_⟩
      have E1 := cc_eq hs1 c e
      have E2 := cc_eq hs1 c2 e2
      have E3 := cc_eq hs1 c3 e3
      subst E1 E2 E3
      have m := Lf_add (s := s) (x := n) (y := o) hs1
      have m' : four gLS s (cc s (n + o)) ≤ four gLS s (cc s n) + four gLS s (cc s o) := m
      have z := q H9
      show Q (.bl (decide (((four gLS s (cc s (n + o)) : Nat) : Int) ≤ ((four gLS s (cc s n) : Nat) : Int) + ((four gLS s (cc s o) : Nat) : Int)))) H9
      rw [decide_eq_true (by omega)]
      exact z
def sp_numberT (T : List (Addr × Str)) : Sp := fun vs H Q _ => ∃ (G : Hp) (d : Addr) (s : Nat), vs = [.ref d, .int s] ∧ 1 ≤ s ∧ s ≤ 15 ∧ DkT T G d H ∧ ∀ (N t : Nat) (G' H' : Hp), Sized s t → N < ch (t + 1) s → DkT T G' d H' → Q (.int N) H'
theorem numberT {T : List (Addr × Str)} : ∀ vs H Q E, sp_numberT T vs H Q E → sp_number vs H Q E := fun _ _ _ _ ⟨G, d, s, e, h1, h2, k, q⟩ => by
  obtain ⟨Gf, kf, fwd, _, _⟩ := k.full
  exact ⟨Gf, d, s, e, h1, h2, kf, fun N t G' H' sz hN x k' => q N t (nt G') H' sz hN (fwd x k').1⟩
def sp_law (K : PySem.W.Frag) (P0 : Addr) : Sp := fun vs H Q _ => ∃ (a : Addr) (ns : List Int), vs = [.ref a] ∧ SqL K H a (ns.map V.int) ∧ ns.length ≤ 63 ∧ H P0 = some (.tbl #[]) ∧ ∀ H', Q (.bl true) H'
theorem ok_law (T : Txt K mg) (TB : TabB base mg T.c_greatest_top T.P_greatest_top) : FnG P w K mg base CX0 8 T.f_law T.d_law ["script"] (sp_law K T.P_greatest_top) := by
  have F_l_deck := ok_deck (P := P) (w := w) (base := base) T
  have F_l_draw := (ok_draw (P := P) (w := w) (base := base) T).imp (drawT (T := topT T.P_greatest_top))
  have F_l_number := (ok_number (P := P) (w := w) (base := base) T).imp (numberT (T := topT T.P_greatest_top))
  have F_l_is_held := ok_l_is_held (P := P) (w := w) (base := base) T TB
  have F_l_is_led := ok_l_is_led (P := P) (w := w) (base := base) T TB
  have F_l_do_rise := ok_l_do_rise (P := P) (w := w) (base := base) T TB
  refine FnG.of (T.U_law.ok sc_law (fun vs H Q E h => ?_) (fun cdv A outer s H vs Q E hr h => ?_))
  · obtain ⟨_, _, rfl, _⟩ := h
    rfl
  · obtain ⟨a, ns, rfl, hS, hl, hP, q⟩ := h
    refine ⟨_, (pss_cons (ps_set (i := 1) sc_law.nd rfl (.inl rfl) (pe_call F_l_deck (hr.mono (by decide)) (by rfl) T.g_l_deck T.k_l_deck T.b_l_deck .nil pass0 (pa_cons (pv 0) pa_nil)))
  (pss_cut (ps_set (i := 2) sc_law.nd rfl (.inl rfl) (pe_op op_add pe_int (pe_call F_l_draw (hr.mono (by decide)) (by rfl) T.g_l_draw T.k_l_draw T.b_l_draw .nil pass0 (pa_cons (pv 1) (pa_cons (pe_ifExp (pt_cmpR op_eq (pe_call F_l_draw (hr.mono (by decide)) (by rfl) T.g_l_draw T.k_l_draw T.b_l_draw .nil pass0 (pa_cons (pv 1) (pa_cons pe_int pa_nil))) pe_int (nomark _)) pe_int pe_int) pa_nil)))))
  (pss_cons (ps_par rfl sc_law.nd (i := 3) (j := 4) rfl rfl (by decide) rfl rfl (pa_cons (pe_call F_l_number (hr.mono (by decide)) (by rfl) T.g_l_number T.k_l_number T.b_l_number .nil pass0 (pa_cons (pv 1) (pa_cons (pv 2) pa_nil))) (pa_cons (pe_call F_l_draw (hr.mono (by decide)) (by rfl) T.g_l_draw T.k_l_draw T.b_l_draw .nil pass0 (pa_cons (pv 1) (pa_cons pe_int pa_nil))) pa_nil)) (by rfl))
  (pss_cons (ps_if (pt_not (pt_val (pe_call F_l_is_held (hr.mono (by decide)) (by rfl) T.g_l_is_held T.k_l_is_held T.b_l_is_held .nil pass0 (pa_cons (pv 1) (pa_cons (pv 4) (pa_cons (pv 3) (pa_cons (pv 2) pa_nil))))))) (pss_one (ps_ret pe_bl)) pss_nil)
  (pss_cons (ps_set (i := 5) sc_law.nd rfl (.inl rfl) (pe_call F_l_draw (hr.mono (by decide)) (by rfl) T.g_l_draw T.k_l_draw T.b_l_draw .nil pass0 (pa_cons (pv 1) (pa_cons pe_int pa_nil))))
  (pss_cons (ps_if (PW.pt (pw_or (pt_not (pt_val (pe_call F_l_is_held (hr.mono (by decide)) (by rfl) T.g_l_is_held T.k_l_is_held T.b_l_is_held .nil pass0 (pa_cons (pv 1) (pa_cons (pe_op op_sub pe_int (pv 4)) (pa_cons (pv 5) (pa_cons (pv 2) pa_nil))))))) (pw_or1 (pt_not (pt_val (pe_call F_l_is_led (hr.mono (by decide)) (by rfl) T.g_l_is_led T.k_l_is_led T.b_l_is_led .nil pass0 (pa_cons (pe_op op_sub pe_int (pv 4)) (pa_cons (pe_call F_l_draw (hr.mono (by decide)) (by rfl) T.g_l_draw T.k_l_draw T.b_l_draw .nil pass0 (pa_cons (pv 1) (pa_cons pe_int pa_nil))) (pa_cons (pv 2) pa_nil))))))))) (pss_one (ps_ret pe_bl)) pss_nil)
  (pss_one (ps_ret (pe_and (pe_call F_l_is_led (hr.mono (by decide)) (by rfl) T.g_l_is_led T.k_l_is_led T.b_l_is_led .nil pass0 (pa_cons (pv 4) (pa_cons (pv 3) (pa_cons (pv 2) pa_nil)))) (pe_one (pe_call F_l_do_rise (hr.mono (by decide)) (by rfl) T.g_l_do_rise T.k_l_do_rise T.b_l_do_rise .nil pass0 (pa_cons (pv 1) (pa_cons (pe_ifExp (pt_cmpR op_lt (pv 2) pe_int (nomark _)) (pv 3) (pv 5)) (pa_cons (pv 2) pa_nil)))))))))))))), ?_⟩
    have hT0 : Tabs (topT T.P_greatest_top) H := Tabs.nil fun p hp => by rw [List.mem_singleton.mp hp]; exact hP
    refine ⟨_, rfl, a, ns, rfl, hS, hl, fun d H1 k1 => ?_⟩
    replace k1 := DkT.start k1 hT0
    refine ⟨fun σ' H2 => ∃ s : Nat, 1 ≤ s ∧ s ≤ 15 ∧ σ' = [some (.ref a), some (.ref d), some (.int s), none, none, none] ∧ DkT (topT T.P_greatest_top) (nt H) d H2, ?_, ?_⟩
    · have fin : ∀ (r : Int) (H2 : Hp), 0 ≤ r → r < 15 → DkT (topT T.P_greatest_top) (nt H) d H2 → ∃ s : Nat, 1 ≤ s ∧ s ≤ 15 ∧ [some (V.ref a), some (.ref d), some (.int (1 + r)), none, none, none] = [some (.ref a), some (.ref d), some (.int s), none, none, none] ∧ DkT (topT T.P_greatest_top) (nt H) d H2 := by
        intro r H2 r0 r1 kk
        refine ⟨(1 + r).toNat, by omega, by omega, ?_, kk⟩
        rw [show (((1 + r).toNat : Nat) : Int) = 1 + r by omega]
      refine ⟨_, rfl, _, rfl, nt H, d, _, rfl, by decide, by decide, k1, fun r H2 r0 r1 k2 => ⟨rfl, _, rfl, ite2 (fun _ => ?_) (fun _ => ?_)⟩⟩
      · refine ⟨nt H, d, _, rfl, by decide, by decide, k2, fun r H3 r0 r1 k3 => ⟨_, _, rfl, rfl, fin r _ r0 (by omega) k3⟩⟩
      · refine ⟨nt H, d, _, rfl, by decide, by decide, k2, fun r H3 r0 r1 k3 => ⟨_, _, rfl, rfl, fin r _ r0 (by omega) k3⟩⟩
    rintro σ' H2 ⟨s, hs1, hs2, rfl, k2⟩
    -- number, way
    refine ⟨_, rfl, _, rfl, nt H, d, s, rfl, hs1, hs2, k2, fun N t G H3 sz hN k3 => ?_⟩
    refine ⟨_, rfl, G, d, _, rfl, by decide, by decide, k3, fun r H4 r0 r1 k4 => ?_⟩
    obtain ⟨δ, rfl, hδ⟩ : ∃ δ : Nat, r = (δ : Int) ∧ δ ≤ 1 := ⟨r.toNat, by omega, by omega⟩
    refine ⟨_, _, rfl, ?_⟩
    have some200 := sz.some
    have hd : 1 - δ ≤ 1 := by omega
    have hw : (1 : Int) - (δ : Int) = ((1 - δ : Nat) : Int) := by omega
    refine ⟨_, rfl, _, rfl, _, rfl, _, rfl, G, d, δ, δ, N, s, t, rfl, rfl, hδ, hs1, hs2, sz, hN, k4, fun H5 k5 => ⟨_, rfl, ite_no rfl ?_⟩⟩
    -- small
    refine ⟨_, rfl, G, d, _, rfl, by decide, by decide, k5, fun r H6 r0 r1 k6 => ?_⟩
    obtain ⟨m, rfl⟩ : ∃ m : Nat, r = (m : Int) := ⟨r.toNat, by omega⟩
    refine ⟨_, rfl, _, rfl, _, _, rfl, rfl, _, rfl, _, rfl, G, d, (1 : Int) - (δ : Int), 1 - δ, m, s, t, rfl, hw, hd, hs1, hs2, sz, by omega, k6, fun H7 k7 => ⟨_, rfl, ite_no rfl ?_⟩⟩
    refine ⟨_, rfl, _, _, rfl, rfl, _, rfl, G, d, _, rfl, by decide, by decide, k7, fun r H8 r0 r1 k8 => ?_⟩
    obtain ⟨m2, rfl⟩ : ∃ m2 : Nat, r = (m2 : Int) := ⟨r.toNat, by omega⟩
    refine ⟨_, rfl, (1 : Int) - (δ : Int), 1 - δ, m2, s, t, rfl, hw, hd, hs1, hs2, sz, by omega, k8.t, fun H9 e9 => ⟨_, rfl, ite_no rfl ?_⟩⟩
    have k9 := k8.moreK e9
    -- return is_led(..) and do_rise(..)
    refine ⟨_, rfl, _, rfl, _, rfl, δ, δ, N, s, t, rfl, rfl, hδ, hs1, hs2, sz, by omega, k9.t, fun H10 e10 => ?_⟩
    have k10 := k9.moreK e10
    have hN2 : N < tenS := by have := sz.low; omega
    have hm2 : m < tenS := by have := sz.low; omega
    refine ⟨_, rfl, ite_yes rfl ?_⟩
    refine ⟨_, rfl, _, rfl, _, _, rfl, rfl, _, rfl, ite2 (fun _ => ?_) (fun _ => ?_)⟩
    · exact ⟨_, rfl, _, rfl, G, d, N, s, rfl, hN2, hs1, hs2, k10, q⟩
    · exact ⟨_, rfl, _, rfl, G, d, m, s, rfl, hm2, hs1, hs2, k10, q⟩
end
end K06

namespace K06
open PySem PySem.Spec PyProof.Rows L2 Hr HrM Evl LamX PySem.W
theorem all_mk {l : PySem.W.OpenLaw} {pq : Program} {lo : List Str} {me : ExcName → Option Value} {w : World} {K : PySem.W.Frag} {h : Heap} {mg mb : Str → Option Value} {fa : Addr} (X : K.In h) (Tp : Top pq lo me mg mb h) (hfa : mg "law" = some (.ref fa))
    {f0 : Addr} {od0 an0 : Option Addr} {sl0 : Array (Option Value)} {oc0 kV0 dc0 pm0 cd0 ct0 : Value}
    {f1 : Addr} {od1 an1 : Option Addr} {sl1 : Array (Option Value)} {oc1 kV1 dc1 pm1 cd1 ct1 : Value}
    {f2 : Addr} {od2 an2 : Option Addr} {sl2 : Array (Option Value)} {oc2 kV2 dc2 pm2 cd2 ct2 : Value}
    {f3 : Addr} {od3 an3 : Option Addr} {sl3 : Array (Option Value)} {oc3 kV3 dc3 pm3 cd3 ct3 : Value}
    {f4 : Addr} {od4 an4 : Option Addr} {sl4 : Array (Option Value)} {oc4 kV4 dc4 pm4 cd4 ct4 : Value}
    {f5 : Addr} {od5 an5 : Option Addr} {sl5 : Array (Option Value)} {oc5 kV5 dc5 pm5 cd5 ct5 : Value}
    {f6 : Addr} {od6 an6 : Option Addr} {sl6 : Array (Option Value)} {oc6 kV6 dc6 pm6 cd6 ct6 : Value}
    {f7 : Addr} {od7 an7 : Option Addr} {sl7 : Array (Option Value)} {oc7 kV7 dc7 pm7 cd7 ct7 : Value}
    {f8 : Addr} {od8 an8 : Option Addr} {sl8 : Array (Option Value)} {oc8 kV8 dc8 pm8 cd8 ct8 : Value}
    {f9 : Addr} {od9 an9 : Option Addr} {sl9 : Array (Option Value)} {oc9 kV9 dc9 pm9 ct9 : Value}
    {lc0 P0 : Addr} {ob0 : Value} {oe0 : Option Addr} {vs0 : Array Value} {of0 : Array (Option Value)}
    {f10 : Addr} {od10 an10 : Option Addr} {sl10 : Array (Option Value)} {oc10 kV10 dc10 pm10 cd10 ct10 : Value}
    {f11 : Addr} {od11 an11 : Option Addr} {sl11 : Array (Option Value)} {oc11 kV11 dc11 pm11 cd11 ct11 : Value}
    {f12 : Addr} {od12 an12 : Option Addr} {sl12 : Array (Option Value)} {oc12 kV12 dc12 pm12 cd12 ct12 : Value}
    {f13 : Addr} {od13 an13 : Option Addr} {sl13 : Array (Option Value)} {oc13 kV13 dc13 pm13 cd13 ct13 : Value}
    {f14 : Addr} {od14 an14 : Option Addr} {sl14 : Array (Option Value)} {oc14 kV14 dc14 pm14 cd14 ct14 : Value}
    {f15 : Addr} {od15 an15 : Option Addr} {sl15 : Array (Option Value)} {oc15 kV15 dc15 pm15 cd15 ct15 : Value}
    {f16 : Addr} {od16 an16 : Option Addr} {sl16 : Array (Option Value)} {oc16 kV16 dc16 pm16 cd16 ct16 : Value}
    {f17 : Addr} {od17 an17 : Option Addr} {sl17 : Array (Option Value)} {oc17 kV17 dc17 pm17 cd17 ct17 : Value}
    {f18 : Addr} {od18 an18 : Option Addr} {sl18 : Array (Option Value)} {oc18 kV18 dc18 pm18 cd18 ct18 : Value}
    {f19 : Addr} {od19 an19 : Option Addr} {sl19 : Array (Option Value)} {oc19 kV19 dc19 pm19 cd19 ct19 : Value}
    {f20 : Addr} {od20 an20 : Option Addr} {sl20 : Array (Option Value)} {oc20 kV20 dc20 pm20 cd20 ct20 : Value}
    {f21 : Addr} {od21 an21 : Option Addr} {sl21 : Array (Option Value)} {oc21 kV21 dc21 pm21 cd21 ct21 : Value}
    {f22 : Addr} {od22 an22 : Option Addr} {sl22 : Array (Option Value)} {oc22 kV22 dc22 pm22 cd22 ct22 : Value}
    {f23 : Addr} {od23 an23 : Option Addr} {sl23 : Array (Option Value)} {oc23 kV23 dc23 pm23 cd23 ct23 : Value}
    {f24 : Addr} {od24 an24 : Option Addr} {sl24 : Array (Option Value)} {oc24 kV24 dc24 pm24 cd24 ct24 : Value}
    (a0 : PySem.W.nsIn K mainGlobals "is_integer" = some (some (.ref f0)))
    (l0 : K.lookup f0 = some ⟨oc0, od0, .func (PySem.W.fnOf "is_integer" "is_integer" (defArgs s_is_integer) (defBody s_is_integer) (defScope s_is_integer) .none kV0 dc0 pm0 an0 (cd0) ct0), sl0⟩)
    (c0 : PySem.W.codeIn K (cd0) "is_integer" = true)
    (k0 : PySem.W.keepIn K (.ref f0) = true)
    (a1 : PySem.W.nsIn K mainGlobals "is_integer_from" = some (some (.ref f1)))
    (l1 : K.lookup f1 = some ⟨oc1, od1, .func (PySem.W.fnOf "is_integer_from" "is_integer_from" (defArgs s_is_integer_from) (defBody s_is_integer_from) (defScope s_is_integer_from) .none kV1 dc1 pm1 an1 (cd1) ct1), sl1⟩)
    (c1 : PySem.W.codeIn K (cd1) "is_integer_from" = true)
    (k1 : PySem.W.keepIn K (.ref f1) = true)
    (a2 : PySem.W.nsIn K mainGlobals "cascade_of" = some (some (.ref f2)))
    (l2 : K.lookup f2 = some ⟨oc2, od2, .func (PySem.W.fnOf "cascade_of" "cascade_of" (defArgs s_cascade_of) (defBody s_cascade_of) (defScope s_cascade_of) .none kV2 dc2 pm2 an2 (cd2) ct2), sl2⟩)
    (c2 : PySem.W.codeIn K (cd2) "cascade_of" = true)
    (k2 : PySem.W.keepIn K (.ref f2) = true)
    (a3 : PySem.W.nsIn K mainGlobals "lower_sets" = some (some (.ref f3)))
    (l3 : K.lookup f3 = some ⟨oc3, od3, .func (PySem.W.fnOf "lower_sets" "lower_sets" (defArgs s_lower_sets) (defBody s_lower_sets) (defScope s_lower_sets) .none kV3 dc3 pm3 an3 (cd3) ct3), sl3⟩)
    (c3 : PySem.W.codeIn K (cd3) "lower_sets" = true)
    (k3 : PySem.W.keepIn K (.ref f3) = true)
    (a4 : PySem.W.nsIn K mainGlobals "upper_sets" = some (some (.ref f4)))
    (l4 : K.lookup f4 = some ⟨oc4, od4, .func (PySem.W.fnOf "upper_sets" "upper_sets" (defArgs s_upper_sets) (defBody s_upper_sets) (defScope s_upper_sets) .none kV4 dc4 pm4 an4 (cd4) ct4), sl4⟩)
    (c4 : PySem.W.codeIn K (cd4) "upper_sets" = true)
    (k4 : PySem.W.keepIn K (.ref f4) = true)
    (a5 : PySem.W.nsIn K mainGlobals "lower_products" = some (some (.ref f5)))
    (l5 : K.lookup f5 = some ⟨oc5, od5, .func (PySem.W.fnOf "lower_products" "lower_products" (defArgs s_lower_products) (defBody s_lower_products) (defScope s_lower_products) .none kV5 dc5 pm5 an5 (cd5) ct5), sl5⟩)
    (c5 : PySem.W.codeIn K (cd5) "lower_products" = true)
    (k5 : PySem.W.keepIn K (.ref f5) = true)
    (a6 : PySem.W.nsIn K mainGlobals "upper_products" = some (some (.ref f6)))
    (l6 : K.lookup f6 = some ⟨oc6, od6, .func (PySem.W.fnOf "upper_products" "upper_products" (defArgs s_upper_products) (defBody s_upper_products) (defScope s_upper_products) .none kV6 dc6 pm6 an6 (cd6) ct6), sl6⟩)
    (c6 : PySem.W.codeIn K (cd6) "upper_products" = true)
    (k6 : PySem.W.keepIn K (.ref f6) = true)
    (a7 : PySem.W.nsIn K mainGlobals "check_number" = some (some (.ref f7)))
    (l7 : K.lookup f7 = some ⟨oc7, od7, .func (PySem.W.fnOf "check_number" "check_number" (defArgs s_check_number) (defBody s_check_number) (defScope s_check_number) .none kV7 dc7 pm7 an7 (cd7) ct7), sl7⟩)
    (c7 : PySem.W.codeIn K (cd7) "check_number" = true)
    (k7 : PySem.W.keepIn K (.ref f7) = true)
    (a8 : PySem.W.nsIn K mainGlobals "check_size" = some (some (.ref f8)))
    (l8 : K.lookup f8 = some ⟨oc8, od8, .func (PySem.W.fnOf "check_size" "check_size" (defArgs s_check_size) (defBody s_check_size) (defScope s_check_size) .none kV8 dc8 pm8 an8 (cd8) ct8), sl8⟩)
    (c8 : PySem.W.codeIn K (cd8) "check_size" = true)
    (k8 : PySem.W.keepIn K (.ref f8) = true)
    (a9 : PySem.W.nsIn K mainGlobals "greatest_top" = some (some (.ref f9)))
    (l9 : K.lookup f9 = some ⟨oc9, od9, .func (PySem.W.fnOf "greatest_top" "greatest_top" (defArgs s_greatest_top) (defBody s_greatest_top) (defScope s_greatest_top) .none kV9 dc9 pm9 an9 (.ref lc0) ct9), sl9⟩)
    (c9 : PySem.W.codeIn K (.ref lc0) "greatest_top" = true)
    (k9 : PySem.W.keepIn K (.ref f9) = true)
    (lk0 : K.lookup lc0 = some ⟨ob0, oe0, .fields vs0, of0⟩)
    (hv0 : vs0[11]? = some (.ref P0))
    (np0 : K.lookup P0 = none)
    (ch0 : PySem.W.codeHdIn K lc0 P0 = true)
    (ht0 : h.get? P0 = some (PySem.W.tabObj #[]))
    (a10 : PySem.W.nsIn K mainGlobals "greatest_within" = some (some (.ref f10)))
    (l10 : K.lookup f10 = some ⟨oc10, od10, .func (PySem.W.fnOf "greatest_within" "greatest_within" (defArgs s_greatest_within) (defBody s_greatest_within) (defScope s_greatest_within) .none kV10 dc10 pm10 an10 (cd10) ct10), sl10⟩)
    (c10 : PySem.W.codeIn K (cd10) "greatest_within" = true)
    (k10 : PySem.W.keepIn K (.ref f10) = true)
    (a11 : PySem.W.nsIn K mainGlobals "moved_sum" = some (some (.ref f11)))
    (l11 : K.lookup f11 = some ⟨oc11, od11, .func (PySem.W.fnOf "moved_sum" "moved_sum" (defArgs s_moved_sum) (defBody s_moved_sum) (defScope s_moved_sum) .none kV11 dc11 pm11 an11 (cd11) ct11), sl11⟩)
    (c11 : PySem.W.codeIn K (cd11) "moved_sum" = true)
    (k11 : PySem.W.keepIn K (.ref f11) = true)
    (a12 : PySem.W.nsIn K mainGlobals "_law_deck" = some (some (.ref f12)))
    (l12 : K.lookup f12 = some ⟨oc12, od12, .func (PySem.W.fnOf "_law_deck" "_law_deck" (defArgs s_l_deck) (defBody s_l_deck) (defScope s_l_deck) .none kV12 dc12 pm12 an12 (cd12) ct12), sl12⟩)
    (c12 : PySem.W.codeIn K (cd12) "_law_deck" = true)
    (k12 : PySem.W.keepIn K (.ref f12) = true)
    (a13 : PySem.W.nsIn K mainGlobals "_law_draw" = some (some (.ref f13)))
    (l13 : K.lookup f13 = some ⟨oc13, od13, .func (PySem.W.fnOf "_law_draw" "_law_draw" (defArgs s_l_draw) (defBody s_l_draw) (defScope s_l_draw) .none kV13 dc13 pm13 an13 (cd13) ct13), sl13⟩)
    (c13 : PySem.W.codeIn K (cd13) "_law_draw" = true)
    (k13 : PySem.W.keepIn K (.ref f13) = true)
    (a14 : PySem.W.nsIn K mainGlobals "_law_pick" = some (some (.ref f14)))
    (l14 : K.lookup f14 = some ⟨oc14, od14, .func (PySem.W.fnOf "_law_pick" "_law_pick" (defArgs s_l_pick) (defBody s_l_pick) (defScope s_l_pick) .none kV14 dc14 pm14 an14 (cd14) ct14), sl14⟩)
    (c14 : PySem.W.codeIn K (cd14) "_law_pick" = true)
    (k14 : PySem.W.keepIn K (.ref f14) = true)
    (a15 : PySem.W.nsIn K mainGlobals "_law_below" = some (some (.ref f15)))
    (l15 : K.lookup f15 = some ⟨oc15, od15, .func (PySem.W.fnOf "_law_below" "_law_below" (defArgs s_l_below) (defBody s_l_below) (defScope s_l_below) .none kV15 dc15 pm15 an15 (cd15) ct15), sl15⟩)
    (c15 : PySem.W.codeIn K (cd15) "_law_below" = true)
    (k15 : PySem.W.keepIn K (.ref f15) = true)
    (a16 : PySem.W.nsIn K mainGlobals "_law_choose" = some (some (.ref f16)))
    (l16 : K.lookup f16 = some ⟨oc16, od16, .func (PySem.W.fnOf "_law_choose" "_law_choose" (defArgs s_l_choose) (defBody s_l_choose) (defScope s_l_choose) .none kV16 dc16 pm16 an16 (cd16) ct16), sl16⟩)
    (c16 : PySem.W.codeIn K (cd16) "_law_choose" = true)
    (k16 : PySem.W.keepIn K (.ref f16) = true)
    (a17 : PySem.W.nsIn K mainGlobals "_law_number" = some (some (.ref f17)))
    (l17 : K.lookup f17 = some ⟨oc17, od17, .func (PySem.W.fnOf "_law_number" "_law_number" (defArgs s_l_number) (defBody s_l_number) (defScope s_l_number) .none kV17 dc17 pm17 an17 (cd17) ct17), sl17⟩)
    (c17 : PySem.W.codeIn K (cd17) "_law_number" = true)
    (k17 : PySem.W.keepIn K (.ref f17) = true)
    (a18 : PySem.W.nsIn K mainGlobals "_law_lower" = some (some (.ref f18)))
    (l18 : K.lookup f18 = some ⟨oc18, od18, .func (PySem.W.fnOf "_law_lower" "_law_lower" (defArgs s_l_lower) (defBody s_l_lower) (defScope s_l_lower) .none kV18 dc18 pm18 an18 (cd18) ct18), sl18⟩)
    (c18 : PySem.W.codeIn K (cd18) "_law_lower" = true)
    (k18 : PySem.W.keepIn K (.ref f18) = true)
    (a19 : PySem.W.nsIn K mainGlobals "_law_upper" = some (some (.ref f19)))
    (l19 : K.lookup f19 = some ⟨oc19, od19, .func (PySem.W.fnOf "_law_upper" "_law_upper" (defArgs s_l_upper) (defBody s_l_upper) (defScope s_l_upper) .none kV19 dc19 pm19 an19 (cd19) ct19), sl19⟩)
    (c19 : PySem.W.codeIn K (cd19) "_law_upper" = true)
    (k19 : PySem.W.keepIn K (.ref f19) = true)
    (a20 : PySem.W.nsIn K mainGlobals "_law_is_integer" = some (some (.ref f20)))
    (l20 : K.lookup f20 = some ⟨oc20, od20, .func (PySem.W.fnOf "_law_is_integer" "_law_is_integer" (defArgs s_l_is_integer) (defBody s_l_is_integer) (defScope s_l_is_integer) .none kV20 dc20 pm20 an20 (cd20) ct20), sl20⟩)
    (c20 : PySem.W.codeIn K (cd20) "_law_is_integer" = true)
    (k20 : PySem.W.keepIn K (.ref f20) = true)
    (a21 : PySem.W.nsIn K mainGlobals "_law_is_held" = some (some (.ref f21)))
    (l21 : K.lookup f21 = some ⟨oc21, od21, .func (PySem.W.fnOf "_law_is_held" "_law_is_held" (defArgs s_l_is_held) (defBody s_l_is_held) (defScope s_l_is_held) .none kV21 dc21 pm21 an21 (cd21) ct21), sl21⟩)
    (c21 : PySem.W.codeIn K (cd21) "_law_is_held" = true)
    (k21 : PySem.W.keepIn K (.ref f21) = true)
    (a22 : PySem.W.nsIn K mainGlobals "_law_is_led" = some (some (.ref f22)))
    (l22 : K.lookup f22 = some ⟨oc22, od22, .func (PySem.W.fnOf "_law_is_led" "_law_is_led" (defArgs s_l_is_led) (defBody s_l_is_led) (defScope s_l_is_led) .none kV22 dc22 pm22 an22 (cd22) ct22), sl22⟩)
    (c22 : PySem.W.codeIn K (cd22) "_law_is_led" = true)
    (k22 : PySem.W.keepIn K (.ref f22) = true)
    (a23 : PySem.W.nsIn K mainGlobals "_law_do_rise" = some (some (.ref f23)))
    (l23 : K.lookup f23 = some ⟨oc23, od23, .func (PySem.W.fnOf "_law_do_rise" "_law_do_rise" (defArgs s_l_do_rise) (defBody s_l_do_rise) (defScope s_l_do_rise) .none kV23 dc23 pm23 an23 (cd23) ct23), sl23⟩)
    (c23 : PySem.W.codeIn K (cd23) "_law_do_rise" = true)
    (k23 : PySem.W.keepIn K (.ref f23) = true)
    (a24 : PySem.W.nsIn K mainGlobals "law" = some (some (.ref f24)))
    (l24 : K.lookup f24 = some ⟨oc24, od24, .func (PySem.W.fnOf "law" "law" (defArgs s_law) (defBody s_law) (defScope s_law) .none kV24 dc24 pm24 an24 (cd24) ct24), sl24⟩)
    (c24 : PySem.W.codeIn K (cd24) "law" = true)
    (k24 : PySem.W.keepIn K (.ref f24) = true)
    (z0 : PySem.W.nsIn K mainGlobals "bool" = some none)
    (z1 : PySem.W.nsIn K mainGlobals "enumerate" = some none)
    (z2 : PySem.W.nsIn K mainGlobals "int" = some none)
    (z3 : PySem.W.nsIn K mainGlobals "isinstance" = some none)
    (z4 : PySem.W.nsIn K mainGlobals "len" = some none)
    (z5 : PySem.W.nsIn K mainGlobals "list" = some none)
    (z6 : PySem.W.nsIn K mainGlobals "max" = some none)
    (z7 : PySem.W.nsIn K mainGlobals "min" = some none)
    (z8 : PySem.W.nsIn K mainGlobals "range" = some none)
    (z9 : PySem.W.nsIn K mainGlobals "sum" = some none)
    (z10 : PySem.W.nsIn K mainGlobals "tuple" = some none)
    (zc : PySem.W.nsIn K mainGlobals "comb" = some (some (.builtin "math.comb"))) :
    Hr.LawT l w K 8 63 "script" mg fa h := by
  have G := Tp.g
  have e := hfa.symm.trans (PySem.W.mg_of X G a24)
  cases e
  have F0 := fun_mk (st := s_is_integer) l0 c0 k0
  have b0 := F0.binds (ps := ["thing"]) fun _ _ _ _ _ _ us hl => match us, hl with | [_], _ => rfl
  have F1 := fun_mk (st := s_is_integer_from) l1 c1 k1
  have b1 := F1.binds (ps := ["thing", "least"]) fun _ _ _ _ _ _ us hl => match us, hl with | [_, _], _ => rfl
  have F2 := fun_mk (st := s_cascade_of) l2 c2 k2
  have b2 := F2.binds (ps := ["number", "size"]) fun _ _ _ _ _ _ us hl => match us, hl with | [_, _], _ => rfl
  have F3 := fun_mk (st := s_lower_sets) l3 c3 k3
  have b3 := F3.binds (ps := ["number", "size"]) fun _ _ _ _ _ _ us hl => match us, hl with | [_, _], _ => rfl
  have F4 := fun_mk (st := s_upper_sets) l4 c4 k4
  have b4 := F4.binds (ps := ["number", "size"]) fun _ _ _ _ _ _ us hl => match us, hl with | [_, _], _ => rfl
  have F5 := fun_mk (st := s_lower_products) l5 c5 k5
  have b5 := F5.binds (ps := ["number", "size"]) fun _ _ _ _ _ _ us hl => match us, hl with | [_, _], _ => rfl
  have F6 := fun_mk (st := s_upper_products) l6 c6 k6
  have b6 := F6.binds (ps := ["number", "size"]) fun _ _ _ _ _ _ us hl => match us, hl with | [_, _], _ => rfl
  have F7 := fun_mk (st := s_check_number) l7 c7 k7
  have b7 := F7.binds (ps := ["number"]) fun _ _ _ _ _ _ us hl => match us, hl with | [_], _ => rfl
  have F8 := fun_mk (st := s_check_size) l8 c8 k8
  have b8 := F8.binds (ps := ["size"]) fun _ _ _ _ _ _ us hl => match us, hl with | [_], _ => rfl
  have F9 := fun_mk (st := s_greatest_top) l9 c9 k9
  have b9 := F9.binds (ps := ["number", "size"]) fun _ _ _ _ _ _ us hl => match us, hl with | [_, _], _ => rfl
  have F10 := fun_mk (st := s_greatest_within) l10 c10 k10
  have b10 := F10.binds (ps := ["number", "least", "count_at"]) fun _ _ _ _ _ _ us hl => match us, hl with | [_, _, _], _ => rfl
  have F11 := fun_mk (st := s_moved_sum) l11 c11 k11
  have b11 := F11.binds (ps := ["size", "cascade", "more_things", "more_size"]) fun _ _ _ _ _ _ us hl => match us, hl with | [_, _, _, _], _ => rfl
  have F12 := fun_mk (st := s_l_deck) l12 c12 k12
  have b12 := F12.binds (ps := ["script"]) fun _ _ _ _ _ _ us hl => match us, hl with | [_], _ => rfl
  have F13 := fun_mk (st := s_l_draw) l13 c13 k13
  have b13 := F13.binds (ps := ["deck", "many"]) fun _ _ _ _ _ _ us hl => match us, hl with | [_, _], _ => rfl
  have F14 := fun_mk (st := s_l_pick) l14 c14 k14
  have b14 := F14.binds (ps := ["deck", "some"]) fun _ _ _ _ _ _ us hl => match us, hl with | [_, _], _ => rfl
  have F15 := fun_mk (st := s_l_below) l15 c15 k15
  have b15 := F15.binds (ps := ["deck", "many"]) fun _ _ _ _ _ _ us hl => match us, hl with | [_, _], _ => rfl
  have F16 := fun_mk (st := s_l_choose) l16 c16 k16
  have b16 := F16.binds (ps := ["a", "b"]) fun _ _ _ _ _ _ us hl => match us, hl with | [_, _], _ => rfl
  have F17 := fun_mk (st := s_l_number) l17 c17 k17
  have b17 := F17.binds (ps := ["deck", "size"]) fun _ _ _ _ _ _ us hl => match us, hl with | [_, _], _ => rfl
  have F18 := fun_mk (st := s_l_lower) l18 c18 k18
  have b18 := F18.binds (ps := ["way", "number", "size"]) fun _ _ _ _ _ _ us hl => match us, hl with | [_, _, _], _ => rfl
  have F19 := fun_mk (st := s_l_upper) l19 c19 k19
  have b19 := F19.binds (ps := ["way", "number", "size"]) fun _ _ _ _ _ _ us hl => match us, hl with | [_, _, _], _ => rfl
  have F20 := fun_mk (st := s_l_is_integer) l20 c20 k20
  have b20 := F20.binds (ps := ["thing"]) fun _ _ _ _ _ _ us hl => match us, hl with | [_], _ => rfl
  have F21 := fun_mk (st := s_l_is_held) l21 c21 k21
  have b21 := F21.binds (ps := ["deck", "way", "n", "size"]) fun _ _ _ _ _ _ us hl => match us, hl with | [_, _, _, _], _ => rfl
  have F22 := fun_mk (st := s_l_is_led) l22 c22 k22
  have b22 := F22.binds (ps := ["way", "m", "size"]) fun _ _ _ _ _ _ us hl => match us, hl with | [_, _, _], _ => rfl
  have F23 := fun_mk (st := s_l_do_rise) l23 c23 k23
  have b23 := F23.binds (ps := ["deck", "number", "size"]) fun _ _ _ _ _ _ us hl => match us, hl with | [_, _, _], _ => rfl
  have F24 := fun_mk (st := s_law) l24 c24 k24
  have b24 := F24.binds (ps := ["script"]) fun _ _ _ _ _ _ us hl => match us, hl with | [_], _ => rfl
  let T : Txt K mg := ⟨f0, _, F0, PySem.W.mg_of X G a0, b0, f1, _, F1, PySem.W.mg_of X G a1, b1, f2, _, F2, PySem.W.mg_of X G a2, b2, f3, _, F3, PySem.W.mg_of X G a3, b3, f4, _, F4, PySem.W.mg_of X G a4, b4, f5, _, F5, PySem.W.mg_of X G a5, b5, f6, _, F6, PySem.W.mg_of X G a6, b6, f7, _, F7, PySem.W.mg_of X G a7, b7, f8, _, F8, PySem.W.mg_of X G a8, b8, f9, _, F9, PySem.W.mg_of X G a9, b9, f10, _, F10, PySem.W.mg_of X G a10, b10, f11, _, F11, PySem.W.mg_of X G a11, b11, f12, _, F12, PySem.W.mg_of X G a12, b12, f13, _, F13, PySem.W.mg_of X G a13, b13, f14, _, F14, PySem.W.mg_of X G a14, b14, f15, _, F15, PySem.W.mg_of X G a15, b15, f16, _, F16, PySem.W.mg_of X G a16, b16, f17, _, F17, PySem.W.mg_of X G a17, b17, f18, _, F18, PySem.W.mg_of X G a18, b18, f19, _, F19, PySem.W.mg_of X G a19, b19, f20, _, F20, PySem.W.mg_of X G a20, b20, f21, _, F21, PySem.W.mg_of X G a21, b21, f22, _, F22, PySem.W.mg_of X G a22, b22, f23, _, F23, PySem.W.mg_of X G a23, b23, fa, _, F24, PySem.W.mg_of X G a24, b24, PySem.W.mg_none_of X G z0, PySem.W.mg_none_of X G z1, PySem.W.mg_none_of X G z2, PySem.W.mg_none_of X G z3, PySem.W.mg_none_of X G z4, PySem.W.mg_none_of X G z5, PySem.W.mg_none_of X G z6, PySem.W.mg_none_of X G z7, PySem.W.mg_none_of X G z8, PySem.W.mg_none_of X G z9, PySem.W.mg_none_of X G z10, PySem.W.mg_of X G zc, lc0, P0, rfl⟩
  have CH := PySem.W.codeHd_of_K X ch0
  have hT := ht0
  exact ⟨T.d_law, [(lc0, P0)], sp_law K P0, (fun p hp => by rw [List.mem_singleton.mp hp]; exact hT), (fun p hp => by rw [List.mem_singleton.mp hp]; exact np0), (fun p hp => by rw [List.mem_singleton.mp hp]; exact CH), (fun s v => .of_eq rfl), (fun H a ns hl hP hS => ⟨a, ns, rfl, hS, hl, hP _ (List.mem_singleton.mpr rfl), fun _ => rfl⟩), fun base _ _ TB => ok_law T (TB _ (List.mem_singleton.mpr rfl))⟩
end K06
open PySem PySem.W PyProof.Rows in
set_option maxRecDepth 100000 in
set_option maxHeartbeats 0 in
theorem PySem.Challenge.cw_holerows_k06_whole_lower_and_upper_numbe_holds : PySem.Challenge.rw_holerows_k06_whole_lower_and_upper_numbe.Holds := by
  w_on; o_law; k_head; (case hw => w_witness2)
  k_fill
  refine Hr.walkT (l := PySem.Challenge.rw_holerows_k06_whole_lower_and_upper_numbe) (n := 63) (k := 8) (x := "script") rfl (by decide) rfl ⟨rfl, by decide, by decide⟩ (fun w h Y => PySem.W.km_in_of Y) ?F
  case F =>
    intro w mg mb fa h lo me Y KX Tp hmg
    refine' K06.all_mk KX Tp hmg ?a0 ?l0 ?c0 ?k0 ?a1 ?l1 ?c1 ?k1 ?a2 ?l2 ?c2 ?k2 ?a3 ?l3 ?c3 ?k3 ?a4 ?l4 ?c4 ?k4 ?a5 ?l5 ?c5 ?k5 ?a6 ?l6 ?c6 ?k6 ?a7 ?l7 ?c7 ?k7 ?a8 ?l8 ?c8 ?k8 ?a9 ?l9 ?c9 ?k9 ?lk0 ?hv0 ?np0 ?ch0 ?ht0 ?a10 ?l10 ?c10 ?k10 ?a11 ?l11 ?c11 ?k11 ?a12 ?l12 ?c12 ?k12 ?a13 ?l13 ?c13 ?k13 ?a14 ?l14 ?c14 ?k14 ?a15 ?l15 ?c15 ?k15 ?a16 ?l16 ?c16 ?k16 ?a17 ?l17 ?c17 ?k17 ?a18 ?l18 ?c18 ?k18 ?a19 ?l19 ?c19 ?k19 ?a20 ?l20 ?c20 ?k20 ?a21 ?l21 ?c21 ?k21 ?a22 ?l22 ?c22 ?k22 ?a23 ?l23 ?c23 ?k23 ?a24 ?l24 ?c24 ?k24 ?z0 ?z1 ?z2 ?z3 ?z4 ?z5 ?z6 ?z7 ?z8 ?z9 ?z10 ?zc
    (case a0 => first | k_is | rfl)
    (case l0 => first | k_is | rfl)
    (case c0 => first | k_is | rfl)
    (case k0 => first | k_is | rfl)
    (case a1 => first | k_is | rfl)
    (case l1 => first | k_is | rfl)
    (case c1 => first | k_is | rfl)
    (case k1 => first | k_is | rfl)
    (case a2 => first | k_is | rfl)
    (case l2 => first | k_is | rfl)
    (case c2 => first | k_is | rfl)
    (case k2 => first | k_is | rfl)
    (case a3 => first | k_is | rfl)
    (case l3 => first | k_is | rfl)
    (case c3 => first | k_is | rfl)
    (case k3 => first | k_is | rfl)
    (case a4 => first | k_is | rfl)
    (case l4 => first | k_is | rfl)
    (case c4 => first | k_is | rfl)
    (case k4 => first | k_is | rfl)
    (case a5 => first | k_is | rfl)
    (case l5 => first | k_is | rfl)
    (case c5 => first | k_is | rfl)
    (case k5 => first | k_is | rfl)
    (case a6 => first | k_is | rfl)
    (case l6 => first | k_is | rfl)
    (case c6 => first | k_is | rfl)
    (case k6 => first | k_is | rfl)
    (case a7 => first | k_is | rfl)
    (case l7 => first | k_is | rfl)
    (case c7 => first | k_is | rfl)
    (case k7 => first | k_is | rfl)
    (case a8 => first | k_is | rfl)
    (case l8 => first | k_is | rfl)
    (case c8 => first | k_is | rfl)
    (case k8 => first | k_is | rfl)
    (case a9 => first | k_is | rfl)
    (case l9 => first | k_is | rfl)
    (case c9 => first | k_is | rfl)
    (case k9 => first | k_is | rfl)
    (case lk0 => first | k_is | rfl)
    (case hv0 => first | kernel_rfl | rfl | decide +kernel)
    (case np0 => first | kernel_rfl | rfl | decide +kernel)
    (case ch0 => first | kernel_rfl | rfl | decide +kernel)
    (case ht0 => exact PySem.W.km_tabs_of Y _ (List.mem_singleton.mpr rfl))
    (case a10 => first | k_is | rfl)
    (case l10 => first | k_is | rfl)
    (case c10 => first | k_is | rfl)
    (case k10 => first | k_is | rfl)
    (case a11 => first | k_is | rfl)
    (case l11 => first | k_is | rfl)
    (case c11 => first | k_is | rfl)
    (case k11 => first | k_is | rfl)
    (case a12 => first | k_is | rfl)
    (case l12 => first | k_is | rfl)
    (case c12 => first | k_is | rfl)
    (case k12 => first | k_is | rfl)
    (case a13 => first | k_is | rfl)
    (case l13 => first | k_is | rfl)
    (case c13 => first | k_is | rfl)
    (case k13 => first | k_is | rfl)
    (case a14 => first | k_is | rfl)
    (case l14 => first | k_is | rfl)
    (case c14 => first | k_is | rfl)
    (case k14 => first | k_is | rfl)
    (case a15 => first | k_is | rfl)
    (case l15 => first | k_is | rfl)
    (case c15 => first | k_is | rfl)
    (case k15 => first | k_is | rfl)
    (case a16 => first | k_is | rfl)
    (case l16 => first | k_is | rfl)
    (case c16 => first | k_is | rfl)
    (case k16 => first | k_is | rfl)
    (case a17 => first | k_is | rfl)
    (case l17 => first | k_is | rfl)
    (case c17 => first | k_is | rfl)
    (case k17 => first | k_is | rfl)
    (case a18 => first | k_is | rfl)
    (case l18 => first | k_is | rfl)
    (case c18 => first | k_is | rfl)
    (case k18 => first | k_is | rfl)
    (case a19 => first | k_is | rfl)
    (case l19 => first | k_is | rfl)
    (case c19 => first | k_is | rfl)
    (case k19 => first | k_is | rfl)
    (case a20 => first | k_is | rfl)
    (case l20 => first | k_is | rfl)
    (case c20 => first | k_is | rfl)
    (case k20 => first | k_is | rfl)
    (case a21 => first | k_is | rfl)
    (case l21 => first | k_is | rfl)
    (case c21 => first | k_is | rfl)
    (case k21 => first | k_is | rfl)
    (case a22 => first | k_is | rfl)
    (case l22 => first | k_is | rfl)
    (case c22 => first | k_is | rfl)
    (case k22 => first | k_is | rfl)
    (case a23 => first | k_is | rfl)
    (case l23 => first | k_is | rfl)
    (case c23 => first | k_is | rfl)
    (case k23 => first | k_is | rfl)
    (case a24 => first | k_is | rfl)
    (case l24 => first | k_is | rfl)
    (case c24 => first | k_is | rfl)
    (case k24 => first | k_is | rfl)
    (case z0 => first | k_is | rfl)
    (case z1 => first | k_is | rfl)
    (case z2 => first | k_is | rfl)
    (case z3 => first | k_is | rfl)
    (case z4 => first | k_is | rfl)
    (case z5 => first | k_is | rfl)
    (case z6 => first | k_is | rfl)
    (case z7 => first | k_is | rfl)
    (case z8 => first | k_is | rfl)
    (case z9 => first | k_is | rfl)
    (case z10 => first | k_is | rfl)
    (case zc => first | k_is | rfl)
