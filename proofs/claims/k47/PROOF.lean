import PyProof.Rows.All
import Wide.All
import OpenK.AllK
import Wide.FinOn
import KE.KMathGC
import HandS.List
import HandS.ForMost
import HandS.Style
import HandS.Gcd
import HandS.Wide
import HandS.Evl
import HandS.IsInst
import HandS.RaiseMore
import HandS.Walk
import KE.GoesMore
import KE.GoesEnum
import PyProof.ReprBulk
import HandS.Zip
import HandS.RevRange
import HandS.Sort
import HandS.Conv
import KE.DataMinMax
import HandS.SetBool
import HandS.Strs
import HandS.TupSets
import KE.KSortTupG
import HandS.SortKw
import HandS.WideBits
import HandS.ForSpec
import HandS.Lambda
import HandS.TryMany
import HandS.ExcIs
import HandS.ExcField
import KE.KExcIs
import HandS.EndTab
import HandS.TupAny
import HandS.TupMul
import KE.KNest
import PySem.Challenge.RW_holerows_k47_h_rows_there_and_back
set_option Elab.async false
set_option linter.all false
set_option maxRecDepth 100000
set_option maxHeartbeats 8000000
/-! The mathematics of cascades, in plain Lean. -/
namespace HrM
open PySem

/-- how many sets of k of n things -/
def ch : Nat → Nat → Nat
  | _, 0 => 1
  | 0, _ + 1 => 0
  | n + 1, k + 1 => ch n k + ch n (k + 1)
theorem ch_zero (n : Nat) : ch n 0 = 1 := by cases n <;> rfl
theorem ch_succ (n k : Nat) : ch (n + 1) (k + 1) = ch n k + ch n (k + 1) := rfl
theorem ch_none (k : Nat) : ch 0 (k + 1) = 0 := rfl
theorem ch_lt : ∀ {n k : Nat}, n < k → ch n k = 0
  | _, 0, h => absurd h (Nat.not_lt_zero _)
  | 0, _ + 1, _ => rfl
  | n + 1, k + 1, h => by rw [ch_succ, ch_lt (by omega : n < k), ch_lt (by omega : n < k + 1)]
theorem ch_self : ∀ n : Nat, ch n n = 1
  | 0 => rfl
  | n + 1 => by rw [ch_succ, ch_self n, ch_lt (Nat.lt_succ_self n)]
theorem ch_pos : ∀ {n k : Nat}, k ≤ n → 1 ≤ ch n k
  | n, 0, _ => by rw [ch_zero]; exact Nat.le_refl 1
  | 0, _ + 1, h => absurd h (by omega)
  | n + 1, k + 1, h => by
    have := ch_pos (n := n) (k := k) (by omega)
    rw [ch_succ]
    omega
theorem ch_step (n : Nat) : ∀ k : Nat, ch n k ≤ ch (n + 1) k
  | 0 => by rw [ch_zero, ch_zero]; exact Nat.le_refl 1
  | k + 1 => by rw [ch_succ]; omega
theorem ch_mono {a b : Nat} (k : Nat) (h : a ≤ b) : ch a k ≤ ch b k := by
  induction h with
  | refl => exact Nat.le_refl _
  | step _ ih => exact Nat.le_trans ih (ch_step _ k)
theorem ch_one (n : Nat) : ch n 1 = n := by
  induction n with
  | zero => rfl
  | succ n ih =>
    have e := ch_succ n 0
    rw [ch_zero] at e
    rw [e, ih]
    omega
theorem ch_mul : ∀ n k : Nat, ch n (k + 1) * (k + 1) = ch n k * (n - k)
  | 0, 0 => rfl
  | 0, k + 1 => by rw [ch_none, ch_none, Nat.zero_mul, Nat.zero_mul]
  | n + 1, 0 => by
    rw [ch_zero]
    have := ch_one (n + 1)
    rw [show (0 + 1 : Nat) = 1 from rfl, this]
    omega
  | n + 1, k + 1 => by
    have h1 := ch_mul n (k + 1)
    have h2 := ch_mul n k
    rw [ch_succ n (k + 1), ch_succ n k, Nat.add_mul, Nat.add_mul, h1]
    have e0 : n + 1 - (k + 1) = n - k := by omega
    rw [e0, ← h2]
    by_cases h : k + 1 ≤ n
    · have e1 : ch n (k + 1) * (k + 1 + 1) + ch n (k + 1) * (n - (k + 1)) = ch n (k + 1) * (k + 1) + ch n (k + 1) * (n - k) := by
        rw [← Nat.mul_add, ← Nat.mul_add]
        congr 1
        omega
      exact e1
    · rw [ch_lt (by omega : n < k + 1)]
      omega
theorem ch_le_pow (a : Nat) : ∀ b : Nat, ch a b ≤ a ^ b
  | 0 => by rw [ch_zero, Nat.pow_zero]; exact Nat.le_refl 1
  | b + 1 => by
    have h := ch_mul a b
    have h2 : ch a (b + 1) ≤ ch a (b + 1) * (b + 1) := Nat.le_mul_of_pos_right _ (by omega)
    have h3 : ch a b * (a - b) ≤ a ^ b * a := Nat.mul_le_mul (ch_le_pow a b) (Nat.sub_le _ _)
    rw [Nat.pow_succ]
    omega
theorem log_lt {n m : Nat} (h : n < 2 ^ m) (hm : 0 < m) : n.log2 < m := by
  by_cases h0 : n = 0
  · subst h0
    exact hm
  · exact (Nat.log2_lt h0).mpr h
theorem ch_bits {a b m : Nat} (h : a < 2 ^ m) (hb : b ≤ 20) (hm : 0 < m) (hm2 : m ≤ 5000) : (ch a b).log2 < bitsLine := by
  have h1 : ch a b ≤ (2 ^ m) ^ b := Nat.le_trans (ch_le_pow a b) (Nat.pow_le_pow_left (Nat.le_of_lt h) b)
  rw [← Nat.pow_mul] at h1
  have h2 : ch a b < 2 ^ (m * b + 1) := Nat.lt_of_le_of_lt h1 (Nat.pow_lt_pow_right (by decide) (Nat.lt_succ_self _))
  have h3 := log_lt h2 (by omega)
  have h4 : m * b ≤ 5000 * 20 := Nat.mul_le_mul hm2 hb
  have h5 : bitsLine = 134217728 := by decide
  omega
def fac : Nat → Nat
  | 0 => 1
  | n + 1 => (n + 1) * fac n
theorem fac_pos : ∀ n : Nat, 1 ≤ fac n
  | 0 => Nat.le_refl 1
  | n + 1 => Nat.mul_le_mul (by omega : 1 ≤ n + 1) (fac_pos n)
theorem ch_fac (n : Nat) : ∀ k : Nat, k ≤ n → ch n k * (fac k * fac (n - k)) = fac n
  | 0, _ => by rw [ch_zero, Nat.sub_zero]; show 1 * (1 * fac n) = fac n; omega
  | k + 1, h => by
    have ih := ch_fac n k (by omega)
    have e : n - k = (n - (k + 1)) + 1 := by omega
    have h1 := ch_mul n k
    have h2 : fac (n - k) = (n - k) * fac (n - (k + 1)) := by
      rw [e]
      rfl
    rw [h2] at ih
    show ch n (k + 1) * ((k + 1) * fac k * fac (n - (k + 1))) = fac n
    have e1 : ch n (k + 1) * ((k + 1) * fac k * fac (n - (k + 1))) = (ch n (k + 1) * (k + 1)) * (fac k * fac (n - (k + 1))) := by
      rw [Nat.mul_assoc (k + 1), ← Nat.mul_assoc]
    rw [e1, h1, ← ih]
    rw [Nat.mul_assoc, ← Nat.mul_assoc (n - k), Nat.mul_comm (n - k) (fac k), Nat.mul_assoc (fac k)]
theorem ch_symm {n k : Nat} (h : k ≤ n) : ch n k = ch n (n - k) := by
  have h1 := ch_fac n k h
  have h2 := ch_fac n (n - k) (Nat.sub_le _ _)
  have e : n - (n - k) = k := by omega
  rw [e, Nat.mul_comm (fac (n - k))] at h2
  exact Nat.eq_of_mul_eq_mul_right (Nat.mul_pos (fac_pos k) (fac_pos (n - k))) (h1.trans h2.symm)
theorem falling (a : Nat) : ∀ k : Nat, k ≤ a → Builtin.Math.fallingProduct (a : Int) k = ((ch a k * fac k : Nat) : Int)
  | 0, _ => by rw [ch_zero]; rfl
  | k + 1, h => by
    rw [PySem.W.mc_fp_succ, falling a k (by omega)]
    have e : ((a : Int) - (k : Int)) = ((a - k : Nat) : Int) := by omega
    rw [e, ← Int.natCast_mul]
    congr 1
    show ch a k * fac k * (a - k) = ch a (k + 1) * ((k + 1) * fac k)
    rw [← Nat.mul_assoc, ch_mul, Nat.mul_assoc, Nat.mul_comm (fac k), Nat.mul_assoc]
theorem comb_nat (a b : Nat) : PySem.W.mcComb (a : Int) (b : Int) = ((ch a b : Nat) : Int) := by
  by_cases h : b ≤ a
  · have hm : ∃ m : Nat, min (b : Int) ((a : Int) - (b : Int)) = (m : Int) ∧ m ≤ a ∧ ch a b = ch a m := by
      by_cases hb : b ≤ a - b
      · exact ⟨b, by omega, h, rfl⟩
      · exact ⟨a - b, by omega, by omega, ch_symm h⟩
    obtain ⟨m, e, hma, e2⟩ := hm
    rw [PySem.W.mcComb_at (by omega) (by omega) e, e2]
    rw [Int.toNat_natCast, falling a m hma, falling m m (Nat.le_refl m), ch_self, Nat.one_mul, ← Int.natCast_ediv]
    congr 1
    exact Nat.mul_div_cancel _ (fac_pos m)
  · rw [PySem.W.mcComb_above (by omega), ch_lt (by omega)]
    rfl

/-! ### cascades -/
def val : Nat → List Nat → Nat
  | _, [] => 0
  | s, a :: r => ch a s + val (s - 1) r
structure Cas (s : Nat) (xs : List Nat) : Prop where
  len : xs.length ≤ s
  low : ∀ i a, xs[i]? = some a → s - i ≤ a
  fall : ∀ i a b, xs[i]? = some a → xs[i + 1]? = some b → b < a
theorem Cas.nil (s : Nat) : Cas s [] := ⟨Nat.zero_le _, fun i a h => by simp at h, fun i a b h => by simp at h⟩
theorem Cas.tail {s a : Nat} {r : List Nat} (c : Cas (s + 1) (a :: r)) : Cas s r :=
  ⟨Nat.le_of_succ_le_succ c.len, fun i x h => by have := c.low (i + 1) x (by simpa using h); omega, fun i x y h h' => c.fall (i + 1) x y (by simpa using h) (by simpa using h')⟩
theorem Cas.pos {s a : Nat} {r : List Nat} (c : Cas s (a :: r)) : 1 ≤ s := by
  have := c.len
  rw [List.length_cons] at this
  omega
theorem Cas.head {s a : Nat} {r : List Nat} (c : Cas s (a :: r)) : s ≤ a := c.low 0 a rfl
theorem val_lt : ∀ {xs : List Nat} {s u : Nat}, Cas s xs → (∀ a, xs[0]? = some a → a < u) → s ≤ u → val s xs < ch u s
  | [], s, u, _, _, h => ch_pos h
  | a :: r, s, u, c, hu, h => by
    obtain ⟨t, rfl⟩ : ∃ t, s = t + 1 := ⟨s - 1, by have := c.pos; omega⟩
    have hd := c.head
    have ih := val_lt (u := a) c.tail (fun b hb => c.fall 0 a b rfl (by simpa using hb)) (by omega)
    have ha := hu a rfl
    have hm := ch_mono (t + 1) (show a + 1 ≤ u from ha)
    show ch a (t + 1) + val (t + 1 - 1) r < ch u (t + 1)
    rw [Nat.add_sub_cancel]
    rw [ch_succ] at hm
    omega
def iz (xs : List Nat) : List Int := List.map (fun (n : Nat) => (n : Int)) xs
theorem iz_len (xs : List Nat) : (iz xs).length = xs.length := List.length_map _
theorem iz_append (xs ys : List Nat) : iz (xs ++ ys) = iz xs ++ iz ys := List.map_append
theorem iz_get (xs : List Nat) (i : Nat) : (iz xs)[i]? = Option.map (fun (n : Nat) => (n : Int)) xs[i]? := List.getElem?_map
theorem cas_lt : ∀ {xs ys : List Nat} {s : Nat}, Cas s xs → Cas s ys → HT.lexLt (iz xs) (iz ys) = true → val s xs < val s ys
  | [], [], _, _, _, h => by cases h
  | [], y :: ys, s, _, c, _ => by
    have := ch_pos c.head
    show 0 < ch y s + val (s - 1) ys
    omega
  | x :: xs, [], _, _, _, h => by cases h
  | x :: xs, y :: ys, s, c, d, h => by
    obtain ⟨t, rfl⟩ : ∃ t, s = t + 1 := ⟨s - 1, by have := c.pos; omega⟩
    have h' : (if (x : Int) = (y : Int) then HT.lexLt (iz xs) (iz ys) else decide ((x : Int) < (y : Int))) = true := h
    by_cases e : x = y
    · subst e
      rw [if_pos rfl] at h'
      have := cas_lt c.tail d.tail h'
      show ch x (t + 1) + val t xs < ch x (t + 1) + val t ys
      omega
    · rw [if_neg (by omega)] at h'
      have hlt : x < y := by
        have := of_decide_eq_true h'
        omega
      have h1 := val_lt (u := x + 1) c (fun a ha => by cases ha; omega) (by have := c.head; omega)
      have h2 := ch_mono (t + 1) (show x + 1 ≤ y from hlt)
      show val (t + 1) (x :: xs) < ch y (t + 1) + val t ys
      omega
theorem lex_eq : ∀ {xs ys : List Nat}, HT.lexLt (iz xs) (iz ys) = false → HT.lexLt (iz ys) (iz xs) = false → xs = ys
  | [], [], _, _ => rfl
  | [], _ :: _, h, _ => by cases h
  | _ :: _, [], _, h => by cases h
  | x :: xs, y :: ys, h, h' => by
    have g : (if (x : Int) = (y : Int) then HT.lexLt (iz xs) (iz ys) else decide ((x : Int) < (y : Int))) = false := h
    have g' : (if (y : Int) = (x : Int) then HT.lexLt (iz ys) (iz xs) else decide ((y : Int) < (x : Int))) = false := h'
    by_cases e : x = y
    · subst e
      rw [if_pos rfl] at g g'
      rw [lex_eq g g']
    · rw [if_neg (by omega)] at g g'
      have := of_decide_eq_false g
      have := of_decide_eq_false g'
      omega
theorem cas_uniq {xs ys : List Nat} {s : Nat} (c : Cas s xs) (d : Cas s ys) (h : val s xs = val s ys) : xs = ys := by
  refine lex_eq ?_ ?_
  · cases e : HT.lexLt (iz xs) (iz ys) with
    | false => rfl
    | true => have := cas_lt c d e; omega
  · cases e : HT.lexLt (iz ys) (iz xs) with
    | false => rfl
    | true => have := cas_lt d c e; omega
theorem cas_dec {xs ys : List Nat} {s : Nat} (c : Cas s xs) (d : Cas s ys) : HT.lexLt (iz xs) (iz ys) = decide (val s xs < val s ys) := by
  cases e : HT.lexLt (iz xs) (iz ys) with
  | true => exact (decide_eq_true (cas_lt c d e)).symm
  | false =>
    cases e' : HT.lexLt (iz ys) (iz xs) with
    | true => exact (decide_eq_false (by have := cas_lt d c e'; omega)).symm
    | false =>
      have := lex_eq e e'
      subst this
      exact (decide_eq_false (by omega)).symm
/-! ### one more item -/
theorem val_snoc : ∀ (xs : List Nat) (s a : Nat), val s (xs ++ [a]) = val s xs + ch a (s - xs.length)
  | [], s, a => by show ch a s + val (s - 1) [] = 0 + ch a (s - 0); rw [Nat.sub_zero]; show ch a s + 0 = _; omega
  | x :: xs, s, a => by
    show ch x s + val (s - 1) (xs ++ [a]) = ch x s + val (s - 1) xs + ch a (s - (xs.length + 1))
    rw [val_snoc xs (s - 1) a, show s - 1 - xs.length = s - (xs.length + 1) by omega]
    omega
theorem Cas.snoc {s : Nat} {xs : List Nat} {b : Nat} (c : Cas s xs) (hl : xs.length + 1 ≤ s) (hb : s - xs.length ≤ b) (hf : ∀ a, xs.getLast? = some a → b < a) : Cas s (xs ++ [b]) where
  len := by rw [List.length_append, List.length_singleton]; exact hl
  low := fun i a h => by
    by_cases hi : i < xs.length
    · rw [List.getElem?_append_left hi] at h
      exact c.low i a h
    · rw [List.getElem?_append_right (by omega)] at h
      by_cases e : i = xs.length
      · subst e
        rw [Nat.sub_self] at h
        cases h
        exact hb
      · rw [List.getElem?_eq_none (by rw [List.length_singleton]; omega)] at h
        cases h
  fall := fun i x y h h' => by
    by_cases hi : i + 1 < xs.length
    · rw [List.getElem?_append_left hi] at h'
      rw [List.getElem?_append_left (by omega)] at h
      exact c.fall i x y h h'
    · by_cases e : i + 1 = xs.length
      · rw [List.getElem?_append_right (by omega), e, Nat.sub_self] at h'
        cases h'
        rw [List.getElem?_append_left (by omega)] at h
        refine hf x ?_
        rw [List.getLast?_eq_getElem?, ← e, Nat.add_sub_cancel]
        exact h
      · rw [List.getElem?_append_right (by omega), List.getElem?_eq_none (by rw [List.length_singleton]; omega)] at h'
        cases h'
theorem Cas.init {s : Nat} {xs : List Nat} {b : Nat} (c : Cas s (xs ++ [b])) : Cas s xs ∧ xs.length + 1 ≤ s ∧ s - xs.length ≤ b ∧ ∀ a, xs.getLast? = some a → b < a := by
  have hl := c.len
  rw [List.length_append, List.length_singleton] at hl
  have hb : (xs ++ [b])[xs.length]? = some b := by rw [List.getElem?_append_right (Nat.le_refl _), Nat.sub_self]; rfl
  refine ⟨⟨by omega, fun i a h => ?_, fun i x y h h' => ?_⟩, hl, c.low _ _ hb, fun a h => ?_⟩
  · exact c.low i a (by rw [List.getElem?_append_left (List.getElem?_eq_some_iff.mp h).1]; exact h)
  · exact c.fall i x y (by rw [List.getElem?_append_left (List.getElem?_eq_some_iff.mp h).1]; exact h) (by rw [List.getElem?_append_left (List.getElem?_eq_some_iff.mp h').1]; exact h')
  · rw [List.getLast?_eq_getElem?] at h
    have h0 := (List.getElem?_eq_some_iff.mp h).1
    refine c.fall (xs.length - 1) a b (by rw [List.getElem?_append_left h0]; exact h) ?_
    rw [show xs.length - 1 + 1 = xs.length by omega]
    exact hb
/-- what the greatest item for the rest makes of the rest -/
theorem cas_add {s p rest a : Nat} {xs : List Nat} (c : Cas s xs) (hl : xs.length + p = s) (hp : 1 ≤ p) (hr : 1 ≤ rest) (hx : ∀ b, xs.getLast? = some b → rest < ch b p) (h1 : ch a p ≤ rest) (h2 : rest < ch (a + 1) p) :
    Cas s (xs ++ [a]) ∧ rest - ch a p < ch a (p - 1) := by
  have hap : p ≤ a := by
    by_cases h : p ≤ a
    · exact h
    · have h3 := ch_mono p (show a + 1 ≤ p by omega)
      rw [ch_self] at h3
      omega
  refine ⟨c.snoc (by omega) (by omega) fun b hb => ?_, ?_⟩
  · have h3 := hx b hb
    by_cases h : a < b
    · exact h
    · have := ch_mono p (show b ≤ a by omega)
      omega
  · obtain ⟨q, rfl⟩ : ∃ q, p = q + 1 := ⟨p - 1, by omega⟩
    rw [ch_succ] at h2
    rw [Nat.add_sub_cancel]
    omega
/-! ### the next number's cascade -/
structure Nxt (s n : Nat) (xs : List Nat) (b : Nat) : Prop where
  cas : Cas s xs
  len : xs.length + 1 ≤ s
  low : s - xs.length ≤ b
  last : ∀ a, xs.getLast? = some a → b ≤ a
  val : HrM.val s xs + ch b (s - xs.length) = n
theorem Nxt.done {s n : Nat} {xs : List Nat} {b : Nat} (h : Nxt s n xs b) (hb : ∀ a, xs.getLast? = some a → a ≠ b) : Cas s (xs ++ [b]) ∧ HrM.val s (xs ++ [b]) = n :=
  ⟨h.cas.snoc h.len h.low fun a ha => by have := h.last a ha; have := hb a ha; omega, by rw [val_snoc]; exact h.val⟩
theorem Nxt.step {s n : Nat} {xs : List Nat} {b : Nat} (h : Nxt s n (xs ++ [b]) b) : Nxt s n xs (b + 1) := by
  obtain ⟨c, h1, h2, h3⟩ := h.cas.init
  have hl := h.len
  rw [List.length_append, List.length_singleton] at hl
  refine ⟨c, h1, by omega, fun a ha => h3 a ha, ?_⟩
  have e := h.val
  rw [val_snoc, List.length_append, List.length_singleton] at e
  obtain ⟨q, hq⟩ : ∃ q, s - xs.length = q + 1 := ⟨s - xs.length - 1, by omega⟩
  rw [show s - (xs.length + 1) = q by omega, hq] at e
  rw [hq, ch_succ]
  omega
theorem Nxt.start {s : Nat} {xs : List Nat} {b : Nat} (c : Cas s (xs ++ [b])) (h : xs.length + 1 = s) : Nxt s (HrM.val s (xs ++ [b]) + 1) xs (b + 1) := by
  obtain ⟨c1, h1, h2, h3⟩ := c.init
  refine ⟨c1, h1, by omega, h3, ?_⟩
  rw [val_snoc, show s - xs.length = 1 by omega, ch_one, ch_one]
  omega
theorem cas_more {s : Nat} {xs : List Nat} (c : Cas s xs) (h : xs.length < s) : Cas s (xs ++ [s - xs.length]) ∧ val s (xs ++ [s - xs.length]) = val s xs + 1 := by
  refine ⟨c.snoc h (Nat.le_refl _) fun a ha => ?_, by rw [val_snoc, ch_self]⟩
  rw [List.getLast?_eq_getElem?] at ha
  have := c.low _ _ ha
  have := (List.getElem?_eq_some_iff.mp ha).1
  omega
/-! ### sums over a cascade -/
/-- the terms g a i, i the size left -/
def terms (g : Nat → Nat → Nat) : Nat → List Nat → List Nat
  | _, [] => []
  | s, a :: r => g a s :: terms g (s - 1) r
theorem terms_len (g : Nat → Nat → Nat) : ∀ (s : Nat) (xs : List Nat), (terms g s xs).length = xs.length
  | _, [] => rfl
  | s, _ :: r => congrArg (· + 1) (terms_len g (s - 1) r)
theorem terms_get (g : Nat → Nat → Nat) : ∀ (s : Nat) (xs : List Nat) (i : Nat), (terms g s xs)[i]? = (xs[i]?).map fun a => g a (s - i)
  | _, [], i => by simp [terms]
  | s, a :: r, 0 => rfl
  | s, a :: r, i + 1 => by
    show (terms g (s - 1) r)[i]? = (r[i]?).map _
    rw [terms_get g (s - 1) r i, show s - 1 - i = s - (i + 1) by omega]
theorem terms_sum : ∀ (s : Nat) (xs : List Nat), (terms ch s xs).sum = val s xs
  | _, [] => rfl
  | s, a :: r => by
    show (ch a s :: terms ch (s - 1) r).sum = _
    rw [List.sum_cons, terms_sum (s - 1) r]
    rfl
theorem iz_sum (xs : List Nat) : (iz xs).sum = ((xs.sum : Nat) : Int) := by
  induction xs with
  | nil => rfl
  | cons x xs ih =>
    show ((x : Int) :: iz xs).sum = _
    rw [List.sum_cons, ih, List.sum_cons]
    omega
/-- a cascade's number is small if its items are -/
theorem val_bits {s B : Nat} {xs : List Nat} (c : Cas s xs) (hs : s ≤ 17) (h : ∀ a ∈ xs, a < 2 ^ B) (hB : 5 ≤ B) : val s xs < 2 ^ (B * s + s) := by
  have hu : s ≤ 2 ^ B := Nat.le_trans hs (Nat.le_trans (by decide : 17 ≤ 2 ^ 5) (Nat.pow_le_pow_right (by decide) hB))
  have h1 := val_lt (u := 2 ^ B) c (fun a ha => h a (List.mem_of_getElem? ha)) hu
  have h2 := ch_le_pow (2 ^ B) s
  rw [← Nat.pow_mul] at h2
  exact Nat.lt_of_lt_of_le h1 (Nat.le_trans h2 (Nat.pow_le_pow_right (by decide) (Nat.le_add_right _ _)))
end HrM

/-! Calls of defs where nothing is being shown (no repr under way). -/
namespace Hr
open PySem PySem.Spec PyProof.Rows L2

/-- a promise that is kept wherever no repr is under way -/
structure FnG (P : Program) (w : World) (K : PySem.W.Frag) (mg : Str → Option Value) (base : Heap) (CX : CXT) (k : Nat) (f : Addr) (fd : FuncData) (ps : List Str) (sp : Sp) : Prop where
  len : ∀ vs H Q E, sp vs H Q E → vs.length = ps.length
  go : ∀ (A : Around) (around : List Env) (s : Shared) (H : Hp) (as : Args) (us : List Value) (vs : List V) (Q : VK) (E : XK),
    Room k A → A.guards = some [] → Env0 P w K mg base A around s H → BindsTo s fd as (ps.zip us) → Vals vs us → sp vs H Q E →
    codeAny (model P w) A (.call (.ref f) as) (CR CX around P w H s Q E) s

section
variable {P : Program} {w : World} {K : PySem.W.Frag} {mg : Str → Option Value} {base : Heap} {CX : CXT} {k j : Nat} {f : Addr} {fd : FuncData} {ps : List Str} {sp sp' : Sp}
theorem FnG.of (F : FnOk P w K mg base CX k f fd ps sp) : FnG P w K mg base CX k f fd ps sp :=
  ⟨F.len, fun A around s H as us vs Q E r _ e b v h => F.run A around s H as us vs Q E r e b v h⟩
theorem FnG.mono (F : FnG P w K mg base CX j f fd ps sp) (h : j ≤ k) : FnG P w K mg base CX k f fd ps sp :=
  ⟨F.len, fun A around s H as us vs Q E r => F.go A around s H as us vs Q E (r.mono h)⟩
theorem FnG.imp (F : FnG P w K mg base CX k f fd ps sp) (h : ∀ vs H Q E, sp' vs H Q E → sp vs H Q E) : FnG P w K mg base CX k f fd ps sp' :=
  ⟨fun vs H Q E q => F.len vs H Q E (h _ _ _ _ q), fun A around s H as us vs Q E r g e b v q => F.go A around s H as us vs Q E r g e b v (h _ _ _ _ q)⟩

/-- a def of the text by its body, where no repr is under way -/
theorem bodyG {x qual : Str} {st : Stmt} {N : List Str} (F : Fun K x qual st f fd) (S : FnScope N ps (defScope st)) (len : ∀ vs H Q E, sp vs H Q E → vs.length = ps.length)
    (hb : ∀ (cdv : Value) (A : Around) (around : List Env) (s : Shared) (H : Hp) (vs : List V) (Q : VK) (E : XK), Room k (A.deeper (envOfC qual (defScope st) s.heap.objs.size f cdv)) → A.guards = some [] → sp vs H Q E →
      ∃ t, PSs (cxOf CX P w K mg base N qual (defScope st) f cdv A around s H E) (defBody st) t ∧ t { nx := fun _ H' => Q .non H', rt := Q } (start N vs) H) :
    FnG P w K mg base CX (k + 1) f fd ps sp := by
  obtain ⟨oc, od, kV, doc, pm, an, cdv, ct, osl, rfl, lk, hcd⟩ := F.ex
  refine ⟨len, ?_⟩
  intro A around s H as us vs Q E r g e0 bind rv hq
  have KX : K.In s.heap := e0.mod.kin.keeps fun b o e => (e0.bs b o e).1
  have kinds : ∀ y ∈ ps.zip us, (defScope st).names.lookup y.1 = some .local ∨ ((defScope st).names.lookup y.1 = some .cell ∧ ((cellsFrom (s.heap.objs.size + 1) (defScope st).names []).lookup y.1).isSome = true) := by
    rintro ⟨n, v⟩ hy
    rcases S.par n (List.of_mem_zip hy).1 with q | q
    · exact .inl q
    · exact .inr ⟨q, PySem.W.cellsFrom_some _ _ _ (.inl q)⟩
  refine codeAny_call_function r.depth (KX _ _ lk) rfl S.co S.gen rfl (PySem.W.codeRec_of KX hcd) (bind _ _ _ _ ?_)
  refine wpAny_newFunctionEnv_cells S.kind kinds ?_
  intro env he s1 x
  subst he
  refine ⟨Heap.NoLimit.keeps (e0.mod.nolimit.keeps fun b o e => (e0.bs b o e).1) x.toInCall.keep, codeAny_func ?_⟩
  obtain ⟨t, ht, hrun⟩ := hb cdv A around s H vs Q E (r.deeper _) g hq
  have I := inv_start (CX := CX) (E := E) S r.hd e0 (len _ _ _ _ hq) rv x
  refine wpAny_mono (ht.run [] s1 (start N vs) H _ I hrun) ?_ (fun e s' hs => hs)
  intro fl s' hs
  cases fl with
  | ret u =>
    obtain ⟨v, σ', H', J, rv', q⟩ := hs
    exact ⟨v, H', J.os, J.bare, J.base, J.hok, rv', q⟩
  | next =>
    obtain ⟨σ', H', J, q⟩ := hs
    exact ⟨V.non, H', J.os, J.bare, J.base, J.hok, rfl, q⟩
  | brk => exact hs.elim fun _ ⟨_, _, q⟩ => q.elim
  | cont => exact hs.elim fun _ ⟨_, _, q⟩ => q.elim
/-- .. that lets no exception out -/
theorem okG {x qual : Str} {st : Stmt} {N : List Str} (F : Fun K x qual st f fd) (S : FnScope N ps (defScope st)) (len : ∀ vs H Q E, sp vs H Q E → vs.length = ps.length)
    (hb : ∀ (cdv : Value) (A : Around) (around : List Env) (s : Shared) (H : Hp) (vs : List V) (Q : VK) (E : XK), Room k (A.deeper (envOfC qual (defScope st) s.heap.objs.size f cdv)) → A.guards = some [] → sp vs H Q E →
      ∃ t, PSs (cxOf CX0 P w K mg base N qual (defScope st) f cdv A around s H E).nox (defBody st) t ∧ t { nx := fun _ H' => Q .non H', rt := Q } (start N vs) H) :
    FnG P w K mg base CX0 (k + 1) f fd ps sp :=
  bodyG F S len fun cdv A around s H vs Q E r g h => by
    obtain ⟨t, ht, q⟩ := hb cdv A around s H vs Q E r g h
    exact ⟨t, ht.nox, q⟩
end

section
variable {X : Cx} {CX : CXT} {k : Nat} {f : Addr} {fd : FuncData} {ps ks : List Str} {sp : Sp} {dvs : List V} {ds : List Value} {E : XK} {x : Str} {p pos : Pos} {e : Expr} {es : List Expr} {kws : List Keyword} {t tk : TA}
theorem endG {pins : List (Addr × Obj)} {σ : L2.St} {H : Hp} {s : Shared} {Q : VK} (hx : Passes CX X E) (I : Inv X pins σ H s) {r : Result} {s' : Shared} (h : CR CX X.stack X.prog X.w H s Q E r s') :
    (match r with
      | .ok (.ret u) => EP X pins σ Q u s'
      | .ok _ => False
      | .error z => X.xe z s') := by
  cases r with
  | error z => exact hx pins σ H s z s' I h
  | ok fl => cases fl with
    | ret u => exact I.after h
    | next => exact False.elim h
    | brk => exact False.elim h
    | cont => exact False.elim h
theorem pe_callG (F : FnG X.prog X.w X.K X.mg X.base CX k f fd ps sp) (hr : Room k X.A) (gg : X.A.guards = some []) (hg : Gl X x) (hm : X.mg x = some (.ref f)) (hk : PySem.W.keepIn X.K (.ref f) = true) (hb : Binds X.K fd ps ds) (hd : Vals dvs ds) (hx : Passes CX X E)
    (ha : PA X (e :: es) t) (hdb : (x == ("__debug__" : Str)) = false := by decide) (he : starEach (e :: es) X.env = (false, eval e X.env) :: starEach es X.env := by rfl) (hpl : (backTo pos (starEach es X.env)).any (·.1) = false := by rfl) :
    PE X (.Call (.Name x p) (e :: es) [] pos) (tCall sp dvs E t) := by
  constructor
  intro pins s σ H Q I h
  refine wpAny_Call_Name_kw (ld_glob I hg hm ?_ hdb)
  refine PySem.W.callWith_K (h₀ := X.base) I.ok.mod.kin hk (thn (ha.run pos pins s σ H _ I h) ?_) he hpl
  rintro us s1 ⟨vs, H1, I1, r, q⟩
  refine ⟨I1.kIn, ?_⟩
  have r2 := r.append hd
  have hl : (us ++ ds).length = ps.length := r2.length.symm.trans (F.len _ _ _ _ q)
  refine wpAny_call (codeAny_mono (F.go X.A X.stack s1 H1 ⟨us, []⟩ _ _ Q E hr gg I1.env0 (hb s1 us I1.kIn hl) r2 q) ?_)
  intro r s' hq
  have z := endG hx I1 hq
  cases r with
  | error _ => exact z
  | ok fl => cases fl <;> exact z
variable {g : List Value → List Value → List Value} {gV : List V → List V → List V}
theorem pe_callKG (F : FnG X.prog X.w X.K X.mg X.base CX k f fd ps sp) (hr : Room k X.A) (gg : X.A.guards = some []) (hg : Gl X x) (hm : X.mg x = some (.ref f)) (hk : PySem.W.keepIn X.K (.ref f) = true) (hb : KBinds X.K fd ps ks g gV) (hx : Passes CX X E)
    (ha : PA X (e :: es) t) (hkw : PK X kws tk) (hall : (backToKw pos (keywordEach kws X.env)).all (·.1.isSome) = true := by rfl) (hks : (backToKw pos (keywordEach kws X.env)).filterMap (·.1) = ks := by rfl)
    (hdb : (x == ("__debug__" : Str)) = false := by decide) (he : starEach (e :: es) X.env = (false, eval e X.env) :: starEach es X.env := by rfl)
    (hpl : ((backTo pos (starEach (e :: es) X.env)).any (·.1) || (backToKw pos (keywordEach kws X.env)).any (·.1.isNone)) = false := by rfl) :
    PE X (.Call (.Name x p) (e :: es) kws pos) (tCallK sp gV E t tk) := by
  constructor
  intro pins s σ H Q I h
  refine wpAny_Call_Name_kw (ld_glob I hg hm ?_ hdb)
  refine PySem.W.callWith_KW (h₀ := X.base) I.ok.mod.kin hk hall (thn (ha.run pos pins s σ H _ I h) ?_) hpl he
  rintro us s1 ⟨vs, H1, I1, r, q⟩
  refine thn (hkw.run pos pins s1 σ H1 _ I1 q) ?_
  rintro ws s2 ⟨zs, H2, I2, rz, q2⟩
  refine ⟨I2.kIn, ?_⟩
  rw [hks]
  have r2 := hb.rel r rz
  have hl : (g us ws).length = ps.length := r2.length.symm.trans (F.len _ _ _ _ q2)
  refine wpAny_call (codeAny_mono (F.go X.A X.stack s2 H2 ⟨us, ks.zip ws⟩ _ _ Q E hr gg I2.env0 (hb.to s2 us ws I2.kIn hl) r2 q2) ?_)
  intro r s' hq
  have z := endG hx I2 hq
  cases r with
  | error _ => exact z
  | ok fl => cases fl <;> exact z
end

section
variable {P : Program} {w : World} {K : PySem.W.Frag} {mg mb : Str → Option Value} {CX : CXT} {k : Nat} {fa a : Addr} {fd : FuncData} {x : Str} {sp : Sp} {s₁ : Shared} {vs : List Value} {ns : List Int}
/-- the call of the law from outside, from a heap in which at most the script is told -/
theorem lawG0 {H : Hp} (KX : K.In s₁.heap) (hns : s₁.heap.Ns mainGlobals mg) (hb : s₁.heap.Ns builtinsNs mb) (hbb : ∀ x : Str, x ≠ "__name__" → mb x = bootBuiltins x) (hlim : s₁.heap.NoLimit) (hg : s₁.gens = #[])
    (ha : s₁.heap.get? a = some { cls := .type "list", data := .seq vs.toArray }) (hr : Room k callerA)
    (F : ∀ base : Heap, K.In base → base.Ns mainGlobals mg → FnG P w K mg base CX k fa fd [x] sp) (hbind : ∀ (s : Shared) (u : Value), BindsTo s fd ⟨[u], []⟩ [(x, u)])
    (hO : Only H) (hok : HOk P w H s₁.heap) (hA : ∀ b, H b ≠ none → b = a) (hK : H a ≠ none → K.lookup a = none)
    (hsp : sp [.ref a] H (fun v _ => v = .bl true) fun _ _ _ => False) (hCX : ∀ e s', CX [] H s₁ (fun _ _ _ => False) e s' → False) :
    codeAny (model P w) callerA (.call (.ref fa) ⟨[.ref a], []⟩) (fun r s' => r = .ok (.ret (.bool true)) ∧ OldK s₁.heap s'.heap ∧ s'.os = s₁.os ∧ AllBare s'.gens) s₁ := by
  have untold : ∀ {b : Addr} {o : Obj}, s₁.heap.get? b = some o → (∀ xs n, o.data ≠ .seq xs n) ∨ K.lookup b ≠ none → H b = none := by
    intro b o e z
    cases q : H b with
    | none => rfl
    | some u =>
      have e' : b = a := hA b (by rw [q]; exact Option.some_ne_none u)
      subst e'
      rcases z with z | z
      · rw [ha] at e
        cases e
        exact absurd rfl (z _ _)
      · exact absurd (hK (by rw [q]; exact Option.some_ne_none u)) z
  have nsB : ∀ {b : Addr} {m : Str → Option Value}, s₁.heap.Ns b m → (hidT s₁.heap H).Ns b m := by
    rintro b m ⟨o, es, ep, e, d, r⟩
    exact ⟨o, es, ep, hidT_get e (untold e (.inl fun xs n z => by rw [d] at z; cases z)), d, r⟩
  have hKb : K.In (hidT s₁.heap H) := fun b o e => hidT_get (KX b o e) (untold (KX b o e) (.inr (by rw [e]; exact Option.some_ne_none o)))
  have hM : Mod K mg (hidT s₁.heap H) := ⟨hKb, nsB hns, ⟨mb, nsB hb, hbb⟩, hlim.elim fun mc z => ⟨mc, nsB z.1, z.2⟩⟩
  have e0 : Env0 P w K mg (hidT s₁.heap H) callerA [] s₁ H :=
    ⟨rfl, hM, fun b o e => of_hidT e, Nat.le_of_eq (hidT_size _ _), trivial, fun b hb => absurd hb List.not_mem_nil, hok, .of_eq hg⟩
  refine codeAny_mono ((F _ hKb (nsB hns)).go callerA [] s₁ H ⟨[.ref a], []⟩ [.ref a] [.ref a] _ _ hr rfl e0 (hbind s₁ (.ref a)) (.cons rfl .nil) hsp) ?_
  intro r s' h
  cases r with
  | error e => exact (hCX e s' h).elim
  | ok fl => cases fl with
    | next => exact False.elim h
    | brk => exact False.elim h
    | cont => exact False.elim h
    | ret u =>
      obtain ⟨v, H', os, bare, un, hok', r', q⟩ := h
      have q' : v = .bl true := q
      subst q'
      have r2 : u = Value.bool true := r'
      subst r2
      refine ⟨rfl, OldK.of_keep ?_, os, bare⟩
      intro b o e
      rcases hO b with z | ⟨ob, xs, z⟩
      · exact un.keep b o e z List.not_mem_nil List.not_mem_nil
      · obtain ⟨e1, _⟩ := hok b _ z
        obtain ⟨e2, _⟩ := hok' b _ (un.frzs b ob _ z)
        rw [e] at e1
        cases e1
        exact e2
theorem lawG (KX : K.In s₁.heap) (hns : s₁.heap.Ns mainGlobals mg) (hb : s₁.heap.Ns builtinsNs mb) (hbb : ∀ x : Str, x ≠ "__name__" → mb x = bootBuiltins x) (hlim : s₁.heap.NoLimit) (hg : s₁.gens = #[])
    (ha : s₁.heap.get? a = some { cls := .type "list", data := .seq vs.toArray }) (hi : IntsAre vs ns) (hl : ns.length ≤ sizeLine) (hr : Room k callerA)
    (F : ∀ base : Heap, K.In base → base.Ns mainGlobals mg → FnG P w K mg base CX k fa fd [x] sp) (hbind : ∀ (s : Shared) (u : Value), BindsTo s fd ⟨[u], []⟩ [(x, u)])
    (hsp : ∀ H : Hp, Only H → SqL K H a (ns.map V.int) → sp [.ref a] H (fun v _ => v = .bl true) fun _ _ _ => False) (hCX : ∀ H e s', CX [] H s₁ (fun _ _ _ => False) e s' → False) :
    codeAny (model P w) callerA (.call (.ref fa) ⟨[.ref a], []⟩) (fun r s' => r = .ok (.ret (.bool true)) ∧ OldK s₁.heap s'.heap ∧ s'.os = s₁.os ∧ AllBare s'.gens) s₁ := by
  have rv := vals_ints hi
  cases hk : K.lookup a with
  | some o =>
    have e := KX a o hk
    rw [ha] at e
    cases e
    have O : Only (fun _ => none) := fun _ => .inl rfl
    refine lawG0 (H := fun _ => none) KX hns hb hbb hlim hg ha hr F hbind O (fun b u z => nomatch z) (fun b z => absurd rfl z) (fun z => absurd rfl z) (hsp _ O (.inr ⟨_, vs.toArray, _, hk, rfl, rfl, rfl, ?_, ?_⟩)) (hCX _)
    · rw [List.size_toArray, hi.length]
      exact hl
    · rw [List.toList_toArray]
      exact rv
  | none =>
    have O : Only (upd (fun _ => none) a (.frz { cls := .type "list", data := .seq vs.toArray } (.lst (ns.map V.int)))) := fun b => by
      by_cases h : b = a
      · subst h
        exact .inr ⟨_, _, upd_same⟩
      · exact .inl (upd_ne h)
    refine lawG0 KX hns hb hbb hlim hg ha hr F hbind O (fun b u z => ?_) (fun b z => ?_) (fun _ => hk) (hsp _ O (.inl (.inr ⟨_, upd_same⟩))) (hCX _)
    · by_cases h : b = a
      · subst h
        rw [upd_same] at z
        cases z
        exact ⟨ha, by rw [List.length_map]; exact hl, vs, _, rv, ha⟩
      · rw [upd_ne h] at z
        cases z
    · by_cases h : b = a
      · exact h
      · exact absurd (upd_ne h) z
end

/-- what k_head leaves of a law, from the law's promise -/
theorem walkG {l : PySem.W.OpenLaw} {n k : Nat} {q : Program} {loose : List Str} {XP : (Str → Option Value) → Heap → Prop} {YP : World → Heap → Prop} {d : DefRec} {K : Params → PySem.W.Frag} {sp : PySem.W.Frag → Sp} {x : Str}
    (hn : l.most = some n) (hn2 : n ≤ sizeLine) (hdf : d.params.defaults = []) (hr : Room k callerA) (hY : ∀ (w : World) (h : Heap), YP w h → (K w.params).In h)
    (F : ∀ (w : World) (mg : Str → Option Value) (fa : Addr) (h : Heap), (K w.params).In h → h.Ns mainGlobals mg → mg d.name = some (.ref fa) →
      ∃ fd : FuncData, (∀ (s : Shared) (u : Value), BindsTo s fd ⟨[u], []⟩ [(x, u)]) ∧
        ∀ base : Heap, (K w.params).In base → base.Ns mainGlobals mg → FnG l.prog w (K w.params) mg base CX0 k fa fd [x] (sp (K w.params)))
    (hsp : ∀ (K : PySem.W.Frag) (H : Hp) (a : Addr) (ns : List Int), ns.length ≤ n → Only H → SqL K H a (ns.map V.int) → sp K [.ref a] H (fun v _ => v = .bl true) fun _ _ _ => False) :
    PySem.W.WalkO q loose XP YP l.row.toRowW d [] (fun f vs => PySem.call f vs) := by
  refine Att.attach_call hn hdf ?_
  intro w s₀ s₁ mg mb fa o pm cd doc a vs ns G Y ho hd hcd hmg hobj hints hlen hg
  have KX := hY w _ Y
  obtain ⟨fd, hb, hF⟩ := F w mg fa _ KX G.T.g hmg
  exact lawG KX G.T.g G.T.b G.T.builtins G.T.nolimit hg hobj hints (Nat.le_trans hlen hn2) hr hF hb (fun H hO hS => hsp _ H a ns hlen hO hS) fun H e s' z => z
end Hr

/-! Rules of my own: math.comb, repr of data, t[::-1] of a tuple, enumerate(tuple). -/
namespace Hr
open PySem PySem.Spec PyProof.Rows L2

section
variable {X : Cx}
/-! ### comb -/
def CComb (a b : Int) : Prop := 0 ≤ a ∧ 0 ≤ b ∧ b ≤ 9000 ∧ (PySem.W.mcComb a b).natAbs.log2 < bitsLine
def rComb : List V → Hp → VK → Prop := fun vs H Q => ∃ a b : Int, vs = [.int a, .int b] ∧ CComb a b ∧ Q (.int (PySem.W.mcComb a b)) H
theorem comb_gives {a b : Int} (t u : Tok) (h : CComb a b) : Gives (Builtin.«math.comb» ⟨[.int a t, .int b u], []⟩) (.int (PySem.W.mcComb a b)) := by
  obtain ⟨h0, h1, h2, hz⟩ := h
  have e1 : (9000 : Int) < Builtin.Math.maxSsize := by decide
  have e2 : (9000 : Int) < Builtin.Math.manyFactors := by decide
  by_cases c : b > a
  · rw [PySem.W.mcComb_above c]
    exact PySem.W.mc_run_comb0 a t b u (by omega) (by omega) c
  · have e : PySem.W.mcComb a b = Builtin.Math.fallingProduct a (min b (a - b)).toNat / Builtin.Math.fallingProduct (min b (a - b)) (min b (a - b)).toNat := if_neg c
    rw [e] at hz ⊢
    exact PySem.W.mc_run_comb a t b u (by omega) (by omega) c (by omega) (by omega) (by omega) hz
theorem cr_comb : CallR X (.builtin "math.comb") rComb := by
  intro pins s σ H vs us Q I r h
  obtain ⟨a, b, rfl, c, q⟩ := h
  obtain ⟨t, u, rfl⟩ := Vals.int2 r
  exact call_function_meets PySem.W.MGF.kind_comb PySem.W.MGF.plain_comb PySem.W.MGF.entry_comb (PySem.W.MGF.args_comb _ _) (comb_gives t u c).meets ⟨.int _, H, I.tok _, ⟨_, rfl⟩, q⟩

/-! ### repr of data -/
def rRepr (K : PySem.W.Frag) : List V → Hp → VK → Prop := fun vs H Q => ∃ (a : Addr) (d : PyData), vs = [.ref a] ∧ Dp K H (.ref a) d ∧ d.showable = true ∧ d.hasDict = false ∧ d.depth ≤ 40 ∧ d.shown.length ≤ sizeLine ∧ Q (.str d.shown) H
theorem cr_repr (gg : X.A.guards = some []) (hu : X.A.units + 64 < cLine) : CallR X (.builtin "repr") (rRepr X.K) := by
  intro pins s σ H vs us Q I r h
  obtain ⟨a, d, rfl, hd, hs, hn, hdep, hz, q⟩ := h
  obtain ⟨u, rfl, r1⟩ := vals1 r
  obtain ⟨as, rd⟩ := Dp.reads I d _ _ hd r1
  have e : u = .ref a := r1
  subst e
  exact repr_of_reads' rd hs (fun z => by rw [hn] at z; cases z) gg (by omega) (fun _ _ z => z) (fun h' t tk hk => ⟨.str _, H, I.kept (t' := tk) hk, ⟨t, rfl⟩, q⟩) hz
end

/-! ### t[::-1] -/
section
variable {prog : Program} {w : World} {A : Around} {E : Value → Shared → Prop} {s : Shared}
theorem places_back (n : Nat) : Builtin.Slice.slicePlaces ((n : Int) - 1) (-1) (-1) = n := by
  unfold Builtin.Slice.slicePlaces
  rw [if_neg (by decide)]
  by_cases h : (n : Int) - 1 > -1
  · rw [if_pos h]
    have e : ((n : Int) - 1 - -1 - 1) / (- -1) = (n : Int) - 1 := by
      have e0 : (- -1 : Int) = 1 := by decide
      rw [e0, Int.ediv_one]
      omega
    rw [e]
    omega
  · rw [if_neg h]
    omega
theorem applied_back {sl : Addr} {vs : Value} {n : Nat} {Q : Int × Int × Nat → Shared → Prop} (hs : s.heap.IsSliceOf sl .none .none vs) (ps : IsPart vs (some (-1)))
    (h : Q ((n : Int) - 1, -1, n) s) : wpAny (model prog w) A (Builtin.Slice.sliceApplied (.ref sl) (pure (n : Int))) Q E s := by
  obtain ⟨o, ho, hc, hd⟩ := id hs
  unfold Builtin.Slice.sliceApplied Builtin.Slice.sliceFields
  refine wpAny_bind (wpAny_bind (wpAny_field ho hd (x := .none) rfl (wpAny_bind (wpAny_field ho hd (x := .none) rfl (wpAny_bind (wpAny_field ho hd (x := vs) rfl (wpAny_pure ?_)))))))
  refine wpAny_bind (HT.slicePart_ ps ?_)
  show wpAny _ _ (if ((-1 : Int) == 0) = true then _ else _) _ _ s
  rw [if_neg (by decide)]
  refine wpAny_bind (HT.slicePart_ IsPart.none (wpAny_bind (HT.slicePart_ IsPart.none (wpAny_bind (wpAny_pure ?_)))))
  show wpAny _ _ (pure ((n : Int) - 1, (-1 : Int), Builtin.Slice.slicePlaces ((n : Int) - 1) (-1) (-1))) _ _ s
  rw [places_back]
  exact wpAny_pure h
theorem pick_back (xs : Array Value) : ((List.range xs.size).filterMap fun (k : Nat) => xs[((xs.size : Int) - 1 + (k : Int) * -1).toNat]?).toArray = xs.toList.reverse.toArray := by
  congr 1
  apply List.ext_getElem?
  intro i
  have e : (List.range xs.size).filterMap (fun (k : Nat) => xs[((xs.size : Int) - 1 + (k : Int) * -1).toNat]?) = (List.range xs.size).map (fun k => xs.getD (xs.size - 1 - k) .none) := by
    have gen : ∀ l : List Nat, (∀ k ∈ l, k < xs.size) → l.filterMap (fun (k : Nat) => xs[((xs.size : Int) - 1 + (k : Int) * -1).toNat]?) = l.map (fun k => xs.getD (xs.size - 1 - k) .none) := by
      intro l
      induction l with
      | nil => intro _; rfl
      | cons k l ih =>
        intro hl
        have hk' : k < xs.size := hl k List.mem_cons_self
        have e1 : ((xs.size : Int) - 1 + (k : Int) * -1).toNat = xs.size - 1 - k := by omega
        have h2 : xs.size - 1 - k < xs.size := by omega
        have e2 : xs[((xs.size : Int) - 1 + (k : Int) * -1).toNat]? = some (xs.getD (xs.size - 1 - k) .none) := by
          rw [e1]
          simp [Array.getD, h2]
        rw [List.filterMap_cons_some (f := fun (k : Nat) => xs[((xs.size : Int) - 1 + (k : Int) * -1).toNat]?) e2, ih fun j hj => hl j (List.mem_cons_of_mem _ hj)]
        rfl
    exact gen _ fun k hk => List.mem_range.mp hk
  rw [e, List.getElem?_map]
  by_cases h : i < xs.size
  · have h2 : xs.size - 1 - i < xs.size := by omega
    rw [List.getElem?_range h, List.getElem?_reverse (by simpa using h)]
    simp [Array.getD, h2]
  · rw [List.getElem?_eq_none (by simpa using h), List.getElem?_eq_none (by simpa using h)]
    rfl
theorem getItem_back {t sl : Addr} {items : Array Value} {vs : Value} {Q : Value → Shared → Prop} (ht : IsTup s.heap t items) (hs : s.heap.IsSliceOf sl .none .none vs) (ps : IsPart vs (some (-1)))
    (h : Q (.ref s.heap.objs.size) { s with heap := s.heap.push { cls := .type "tuple", data := .seq items.toList.reverse.toArray } })
    (hsz : items.size ≤ sizeLine) : wpAny (model prog w) A (getItem (.ref t) (.ref sl)) Q E s := by
  have fits : sizeOk (.seq items.toList.reverse.toArray) := by
    show items.toList.reverse.toArray.size ≤ sizeLine
    rw [List.size_toArray, List.length_reverse, Array.length_toList]
    exact hsz
  obtain ⟨o, ho, hc, hd⟩ := id hs
  have hT : s.TypeIs (.ref sl) "slice" := ⟨o, ho, hc⟩
  unfold getItem
  try with_reducible refine wpAny_holding ?_
  first | refine wpAny_bind (wpAny_pure ?_) | skip
  refine wpAny_bind (wpAny_sequenceKey ht.typeIs (by decide) ?_)
  refine wpAny_bind (wpAny_callSpecial?_slot (name := Str.ofString "__getitem__") ht.typeIs PyProof.Rows.slot_tuple_getitem
    (wpAny_call_entry PyProof.Rows.slot_tuple_getitem ht.typeIs PyProof.Rows.entry_tuple_getitem ?_ (PyProof.Rows.args_tuple_getitem _ _)))
  show wpAny _ _ (Builtin.Tuple.tupleItemsOf (.ref t) >>= _) _ _ s
  refine wpAny_bind (PyProof.Rows.tupleItemsOf_ ht (wpAny_bind (wpAny_typeOf hT ?_)))
  rw [if_pos (by decide)]
  refine wpAny_bind (applied_back hs ps ?_)
  have no : ¬ (((items.size : Int) - 1 == 0 && (-1 : Int) == 1 && items.size == items.size) = true) := by
    rw [show ((-1 : Int) == 1) = false from rfl, Bool.and_false, Bool.false_and]
    exact Bool.false_ne_true
  show wpAny _ _ (if ((items.size : Int) - 1 == 0 && (-1 : Int) == 1 && items.size == items.size) = true then _ else _) _ _ s
  rw [if_neg no, pick_back]
  first
    | exact wpAny_bind (m := Builtin.Tuple.tupleExact _) (wpAny_newObj_type (wpAny_pure ⟨_, rfl, wpAny_pure h⟩) fits)
    | exact wpAny_bind (m := Builtin.Tuple.tupleExact _) (wpAny_newObj_type (wpAny_bind (wpAny_pure (wpAny_pure ⟨_, rfl, wpAny_pure h⟩))) fits)
    | exact wpAny_bind (wpAny_bind (m := Builtin.Tuple.tupleExact _) (wpAny_newObj_type (wpAny_pure (wpAny_pure ⟨_, rfl, wpAny_pure h⟩)) fits))
    | exact wpAny_bind (wpAny_bind (m := Builtin.Tuple.tupleExact _) (wpAny_newObj_type (wpAny_pure ⟨_, rfl, wpAny_pure h⟩) fits))
end
def tRevT (K : PySem.W.Frag) (te : TE) : TE := fun σ H Q => te σ H fun x H1 => ∃ a xs, x = .ref a ∧ SqT K H1 a xs ∧ ∀ p, H1 p = none → Q (.ref p) (upd H1 p (.tup xs.reverse))
theorem pe_revT {X : Cx} {e : Expr} {te : TE} {k : Nat} {p1 p2 p3 pos : Pos} (he : PE X e te) : PE X (.Subscript e (.Slice none none (some (.UnaryOp .USub (.Constant (.int 1) k p1) p2)) p3) pos) (tRevT X.K te) := by
  constructor
  intro pins s σ H Q I h
  refine Subscript_ (thn (he.run pins s σ H _ I h) ?_)
  rintro v s1 ⟨x, H1, I1, r1, a, xs, rfl, hx, q⟩
  cases r1
  have hst : PO X (some (.UnaryOp .USub (.Constant (.int 1) k p1) p2)) (tPart (tUn (rU fun i => .int (-i)) (tC (.int 1)))) := po_some (pe_un un_neg pe_int)
  refine wpAny_Slice (thn (po_none.run pins s1 σ H1 (fun o H2 => o = none ∧ H2 = H1) I1 ⟨rfl, rfl⟩) ?_)
  rintro vl s2 ⟨l, H2, I2, pl, rfl, rfl⟩
  cases pl
  refine thn (po_none.run pins s2 σ H2 (fun o H3 => o = none ∧ H3 = H2) I2 ⟨rfl, rfl⟩) ?_
  rintro vu s3 ⟨u, H3, I3, pu, rfl, rfl⟩
  cases pu
  refine thn (hst.run pins s3 σ H3 (fun o H4 => o = some (-1) ∧ H4 = H3) I3 ⟨1, rfl, -1, rfl, rfl, rfl⟩) ?_
  rintro vs s4 ⟨o, H4, I4, ps, rfl, rfl⟩
  have I5 : Inv X pins σ H4 { s4 with heap := s4.heap.push { cls := .type "slice", data := .fields #[.none, .none, vs] } } := I4.kept (t' := s4.toks) fun b ob q => Heap.get?_push_of_some _ q
  obtain ⟨its, r, ht, hz⟩ := I5.tuple hx
  have hlen := r.length
  show wpAny (model X.prog X.w) X.A (subscriptTail e (.Slice none none (some (.UnaryOp .USub (.Constant (.int 1) k p1) p2)) p3) (.ref a) (.ref s4.heap.objs.size)) (EP X pins σ Q) X.xe _
  refine tail_any (ops := [.ref a, .ref s4.heap.objs.size]) ht.typeIs (PyProof.Rows.slot_tuple_getitem.lookup) ?_ (by with_unfolding_all rfl)
  refine getItem_back ht (Heap.IsSliceOf.new _ .none .none vs) ps ?_ (by rw [List.size_toArray]; omega)
  refine ⟨.ref _, _, I5.laid (t' := s4.toks) (o := .tup xs.reverse) (fun b ob q => Heap.get?_push_of_some _ q) (Nat.le_refl _) ?_, rfl, q _ (I5.hok.fresh (Nat.le_refl _))⟩
  exact ⟨by rw [List.length_reverse]; exact hz, _, r.reverse, IsTup.new _ _⟩

/-! ### enumerate(tuple) -/
theorem enum_new1 {v : Value} {o : Obj} {H : Heap → Prop} (B : Begins v o H) :
    Meets (Builtin.«enumerate.__new__» ⟨[.type "enumerate", v], []⟩) (fun _ R s => H s.heap ∧
      R (.ok (.ret (.ref (s.heap.push o).objs.size))) { s with heap := (s.heap.push o).push { cls := .type "enumerate", data := .fields #[.none, .bool false, .ref s.heap.objs.size, rawInt 0, .none, .none] } }) :=
  .of_wp fun prog w A R s h => by
    obtain ⟨hp, g, d, tk, os⟩ := s
    obtain ⟨h1, h⟩ := h
    have sub := sub_enumerate
    have go : ∀ {A' : Around} {E : Value → Shared → Prop} {Q : Value → Shared → Prop}, Q (.ref hp.objs.size) ⟨hp.push o, g, d, tk, os⟩ → wpAny (model prog w) A' (pyIter v) Q E ⟨hp, g, d, tk, os⟩ :=
      fun q => B.iter prog w _ _ ⟨hp, g, d, tk, os⟩ _ h1 q
    wp_walk using go
    refine wpAny_stack_any fun st => wpAny_pure ?_
    split
    · rename_i c _ _ _ _ _
      cases (c == Value.type "enumerate") <;> (wp_walk using go; exact ⟨_, rfl, h⟩)
    · wp_walk using go
      exact ⟨_, rfl, h⟩
theorem enum_begins1 {prog : Program} {w : World} {A : Around} {E : Value → Shared → Prop} {s : Shared} {v : Value} {o : Obj} {H : Heap → Prop} {Q : Value → Shared → Prop} (B : Begins v o H) (h1 : H s.heap)
    (h : ∀ h', IsEnum h' (s.heap.objs.size + 1) s.heap.objs.size 0 .none → h'.get? s.heap.objs.size = some o → (∀ b o, s.heap.get? b = some o → h'.get? b = some o) → Q (.ref (s.heap.objs.size + 1)) { s with heap := h' }) :
    wpAny (model prog w) A (call (.type "enumerate") [v]) Q E s := by
  have hz : (s.heap.push o).objs.size = s.heap.objs.size + 1 := Heap.size_push ..
  refine callType_new F.called_enumerate (by decide) (F.typeCall_enumerate_1 _) (F.newCall_enumerate_1 _) (fun obj => F.args_object_init_2 obj _) F.entry_enumerate_new (enum_new1 B) ⟨h1, ?_⟩
  show _ ∧ _
  rw [hz]
  have he : IsEnum ((s.heap.push o).push { cls := .type "enumerate", data := .fields #[.none, .bool false, .ref s.heap.objs.size, rawInt 0, .none, .none] }) (s.heap.objs.size + 1) s.heap.objs.size 0 .none := by
    have z := Heap.get?_push_size (s.heap.push o) (o := { cls := .type "enumerate", data := .fields #[.none, .bool false, .ref s.heap.objs.size, rawInt 0, .none, .none] }) rfl
    rw [hz] at z
    exact z
  exact ⟨⟨_, he, rfl⟩, h _ he (Heap.get?_push_of_some _ (Heap.get?_push_size _ B.free)) fun b ob x => Heap.get?_push_of_some _ (Heap.get?_push_of_some _ x)⟩

/-- the tuple at a: each item in a new pair -/
def Itn (K : PySem.W.Frag) (a : Addr) : It where
  go i H := ∃ (xs : List V) (x : V), SqT K H a xs ∧ xs[i]? = some x
  yld i H v H' := ∃ T x, v = .ref T ∧ H T = none ∧ H' = upd H T (.tup [.int (i : Nat), x]) ∧ ∀ xs, SqT K H a xs → xs[i]? = some x
  stop i H := ∃ xs : List V, SqT K H a xs ∧ xs.length = i
theorem turn_enumT {P : Program} {w : World} {K : PySem.W.Frag} {elts : List Expr} {kk : Nat} {tpos : Pos} (a e it : Addr) :
    Turn P w K (.Tuple elts kk tpos) (Itn K a) [e, it] e (fun i h => (∃ old, IsEnum h e it ((i : Nat) : Int) old) ∧ h.IsTupleIter it a i ∧ e ≠ it ∧ a ≠ it ∧ e ≠ a) where
  mem := List.mem_cons_self
  obj := by
    rintro i h ⟨⟨old, he⟩, ⟨o, ho, hc, hd⟩, _⟩ b hb
    rcases List.mem_cons.mp hb with rfl | hb
    · exact ⟨_, he, fun v q => nomatch q⟩
    · cases List.mem_singleton.mp hb
      exact ⟨o, ho, fun v q => by rw [hd] at q; cases q⟩
  keep := by
    rintro i h h' ⟨⟨old, he⟩, hi, hr⟩ k
    exact ⟨⟨old, k e List.mem_cons_self _ he⟩, hi.at fun o q => k it (List.mem_cons_of_mem _ List.mem_cons_self) o q, hr⟩
  item := by
    intro X hP hw hK hc i pins s σ H E I hf st hg
    subst hP hw hK
    obtain ⟨⟨old, he⟩, hit, hne, hai, hea⟩ := st
    obtain ⟨xs, x, hq, hx⟩ := hg
    obtain ⟨its, rv, p, hz⟩ := I.tuple hq
    obtain ⟨u, hu, ru⟩ := rv.get hx
    have hlt : i < its.toArray.size := by
      rw [List.size_toArray]
      exact (List.getElem?_eq_some_iff.mp hu).1
    have hel : e < s.heap.objs.size := Heap.lt_size he
    have hil : it < s.heap.objs.size := hit.elim fun _ z => Heap.lt_size z.1
    have D := Draws.tuple (prog := X.prog) (w := X.w) (A := X.A.in1) (I.ok.hd hc) it a hai its.toArray
    refine wpAny_pyNext_enum_itemD D he ⟨hit, p⟩ hlt hne (fun z => ?_) fun y h' tk hy ho hst hT hsz hk => ?_
    · rcases List.mem_cons.mp z with z | z
      · exact hne z
      · exact hea (List.mem_singleton.mp z)
    have ey : y = u := by
      have e1 : its.toArray[i]? = some u := by simpa using hu
      exact Option.some.inj (hy.symm.trans e1)
    subst ey
    refine ⟨_, rfl, wpAny_letOwnedTupleGo_enum (s := { s with heap := h', toks := tk + 1 }) ho fun h'' he' sb => ?_⟩
    have hT2 : h''.get? s.heap.objs.size = some { cls := .type "tuple", data := .seq #[.int i tk, y] } := (sb.2 _ (Nat.ne_of_gt hel)).trans hT
    have new : ObjOk X.prog X.w (upd H s.heap.objs.size (.tup [.int (i : Nat), x])) h'' s.heap.objs.size (.tup [.int (i : Nat), x]) :=
      ⟨by show 2 ≤ sizeLine; decide, [.int i tk, y], .cons ⟨_, rfl⟩ (.cons ru .nil), ⟨_, hT2, rfl, _, rfl⟩⟩
    have I1 : Inv X pins σ (upd H s.heap.objs.size (.tup [.int (i : Nat), x])) { s with heap := h'', toks := tk + 1 } :=
      I.turnedNew (ch := [e, it]) (fun b ob hb q => (sb.2 b (fun z => hb (z ▸ List.mem_cons_self))).trans
        (hk b ob (fun z => hb (z ▸ List.mem_cons_self)) (fun z => hb (z ▸ List.mem_cons_of_mem _ List.mem_cons_self)) q)) hf (Nat.le_refl _) new
    refine ⟨.ref s.heap.objs.size, _, I1, rfl, ⟨_, x, rfl, I.hok.fresh (Nat.le_refl _), rfl, fun ys hy => ?_⟩, ⟨⟨y, ?_⟩, hst.1.at fun o q => (sb.2 it (Ne.symm hne)).trans q, hne, hai, hea⟩, fun b hb => ?_⟩
    · rw [I.tuple_inj hy hq]
      exact hx
    · have e1 : ((i + 1 : Nat) : Int) = (i : Int) + 1 := by omega
      rw [e1]
      exact he'
    · have hb' : b < s.heap.objs.size := by
        rcases List.mem_cons.mp hb with rfl | hb
        · exact hel
        · cases List.mem_singleton.mp hb
          exact hil
      rw [upd_ne (Nat.ne_of_lt hb')]
      exact (hf b hb).1
  done := by
    intro X hP hw hK hc i pins s σ H E I hf st hg
    subst hP hw hK
    obtain ⟨⟨old, he⟩, hit, hne, hai, hea⟩ := st
    obtain ⟨xs, hq, hx⟩ := hg
    obtain ⟨its, rv, p, hz⟩ := I.tuple hq
    obtain ⟨f0, f1, f2, f3, f4, f5⟩ := hf it (List.mem_cons_of_mem _ List.mem_cons_self)
    have hl : i = its.toArray.size := by
      rw [List.size_toArray, ← rv.length]
      exact hx.symm
    subst hl
    have D := Draws.tuple (prog := X.prog) (w := X.w) (A := X.A.in1) (I.ok.hd hc) it a hai its.toArray
    exact wpAny_pyNext_enum_endD D he ⟨hit, p⟩ fun h' eb => ⟨rfl, I.turned (t' := s.toks) (fun b o hb q => eb b o hb q) f0 f1 f3 f4 f5⟩
  self := by
    rintro A i s Q E ⟨⟨_, he⟩, _⟩ h
    exact wpAny_pyIter_enum he h
def iEnumT (K : PySem.W.Frag) (ta : TA) : TI := fun σ H R => ta σ H fun vs H1 => ∃ a xs, vs = [.ref a] ∧ SqT K H1 a xs ∧ R (Itn K a) H1
theorem pi_enumT {X : Cx} {e : Expr} {ta : TA} {p pos tpos : Pos} {elts : List Expr} {kk : Nat} (hg : Gl X "enumerate") (hm : X.mg "enumerate" = none) (ha : PA X [e] ta) (hs : starEach [e] X.env = [(false, eval e X.env)] := by rfl) :
    PI X (.Tuple elts kk tpos) (.Call (.Name "enumerate" p) [e] [] pos) (iEnumT X.K ta) := by
  constructor
  intro pins s σ H R I h
  refine Call_ (ld_blt I hg hm boot_enumerate (PyProof.Rows.callWith_type1 (thn (ha.run pos pins s σ H _ I h) ?_) hs rfl))
  rintro us s1 ⟨vs, H1, I1, r1, a, xs, rfl, hq, q⟩
  obtain ⟨u, rfl, r⟩ := vals1 r1
  have eu : u = .ref a := r
  subst eu
  obtain ⟨its, rv, p', hz⟩ := I1.tuple hq
  have hal : a < s1.heap.objs.size := p'.lt
  refine enum_begins1 (begins_tuple a its.toArray) p' fun h' he hit hk => wpAny_pyIter_enum he ?_
  have I2 : Inv X pins σ H1 { s1 with heap := h' } := I1.kept (t' := s1.toks) hk
  refine ⟨s1.heap.objs.size + 1, [s1.heap.objs.size + 1, s1.heap.objs.size], _, _, H1, rfl, I2, turn_enumT a (s1.heap.objs.size + 1) s1.heap.objs.size,
    ⟨⟨.none, he⟩, ⟨_, hit, rfl, rfl⟩, Nat.succ_ne_self _, Nat.ne_of_lt hal, Nat.ne_of_gt (Nat.lt_succ_of_lt hal)⟩, fun b hb => ?_, q⟩
  have hle : s1.heap.objs.size ≤ b := by
    rcases List.mem_cons.mp hb with rfl | hb
    · exact Nat.le_add_right _ _
    · cases List.mem_singleton.mp hb
      exact Nat.le_refl _
  exact I1.fpOk hle (I1.hok.fresh hle)
theorem walk_enumT {K : PySem.W.Frag} {a : Addr} {xs : List V} : Walk (Itn K a) xs.length (fun H => SqT K H a xs) (YPair (fun i => some (.int (i : Nat))) (fun i => xs[i]?)) where
  goes := fun i H hi h => ⟨xs, xs[i], h, List.getElem?_eq_getElem hi⟩
  stops := fun H h => ⟨xs, h, rfl⟩
  yields := by
    rintro i H v H' hi h ⟨T, x, rfl, nT, rfl, f⟩
    exact ⟨T, _, x, rfl, nT, rfl, rfl, f xs h⟩
end Hr

namespace Hr
open PySem PySem.Spec PyProof.Rows L2
section
variable {X : Cx} {CX : CXT} {k : Nat} {f : Addr} {fd : FuncData} {ps ks : List Str} {sp : Sp} {E : XK} {x : Str} {p pos : Pos} {kws : List Keyword} {tk : TA} {g : List Value → List Value → List Value} {gV : List V → List V → List V}
/-- a call whose arguments are all passed by name -/
def tCallN (sp : Sp) (gV : List V → List V → List V) (E : XK) (tk : TA) : TE := fun σ H Q => tk σ H fun zs H2 => sp (gV [] zs) H2 Q E
theorem pe_callK0G (F : FnG X.prog X.w X.K X.mg X.base CX k f fd ps sp) (hr : Room k X.A) (gg : X.A.guards = some []) (hg : Gl X x) (hm : X.mg x = some (.ref f)) (hk : PySem.W.keepIn X.K (.ref f) = true) (hb : KBinds X.K fd ps ks g gV) (hx : Passes CX X E)
    (hkw : PK X kws tk) (hall : (backToKw pos (keywordEach kws X.env)).all (·.1.isSome) = true := by rfl) (hks : (backToKw pos (keywordEach kws X.env)).filterMap (·.1) = ks := by rfl)
    (hdb : (x == ("__debug__" : Str)) = false := by decide)
    (hpl : ((backTo pos (starEach [] X.env)).any (·.1) || (backToKw pos (keywordEach kws X.env)).any (·.1.isNone)) = false := by rfl) :
    PE X (.Call (.Name x p) [] kws pos) (tCallN sp gV E tk) := by
  constructor
  intro pins s σ H Q I h
  refine wpAny_Call_Name_kw (ld_glob I hg hm ?_ hdb)
  refine PySem.W.callWith_KW0 (h₀ := X.base) I.ok.mod.kin hk hall (thn (hkw.run pos pins s σ H _ I h) ?_) hpl
  rintro ws s2 ⟨zs, H2, I2, rz, q2⟩
  refine ⟨I2.kIn, ?_⟩
  rw [hks]
  have r2 := hb.rel (vs := []) (us := []) .nil rz
  have hl : (g [] ws).length = ps.length := r2.length.symm.trans (F.len _ _ _ _ q2)
  refine wpAny_call (codeAny_mono (F.go X.A X.stack s2 H2 ⟨[], ks.zip ws⟩ _ _ Q E hr gg I2.env0 (hb.to s2 [] ws I2.kIn hl) r2 q2) ?_)
  intro r s' hq
  have z := endG hx I2 hq
  cases r with
  | error _ => exact z
  | ok fl => cases fl <;> exact z
theorem pe_callK0 (F : FnOk X.prog X.w X.K X.mg X.base CX k f fd ps sp) (hr : Room k X.A) (hg : Gl X x) (hm : X.mg x = some (.ref f)) (hk : PySem.W.keepIn X.K (.ref f) = true) (hb : KBinds X.K fd ps ks g gV) (hx : Passes CX X E)
    (hkw : PK X kws tk) (hall : (backToKw pos (keywordEach kws X.env)).all (·.1.isSome) = true := by rfl) (hks : (backToKw pos (keywordEach kws X.env)).filterMap (·.1) = ks := by rfl)
    (hdb : (x == ("__debug__" : Str)) = false := by decide)
    (hpl : ((backTo pos (starEach [] X.env)).any (·.1) || (backToKw pos (keywordEach kws X.env)).any (·.1.isNone)) = false := by rfl) :
    PE X (.Call (.Name x p) [] kws pos) (tCallN sp gV E tk) := by
  constructor
  intro pins s σ H Q I h
  refine wpAny_Call_Name_kw (ld_glob I hg hm ?_ hdb)
  refine PySem.W.callWith_KW0 (h₀ := X.base) I.ok.mod.kin hk hall (thn (hkw.run pos pins s σ H _ I h) ?_) hpl
  rintro ws s2 ⟨zs, H2, I2, rz, q2⟩
  refine ⟨I2.kIn, ?_⟩
  rw [hks]
  exact run_fnk F hr hb hx I2 (vs := []) (us := []) .nil rz q2
end
/-- two arguments by name, the second one first -/
def sw2 {α : Type} (us ws : List α) : List α := match us, ws with
  | [], [a, b] => [b, a]
  | _, _ => []
theorem sw2_rel {vs : List V} {us : List Value} {zs : List V} {ws : List Value} (r : Vals vs us) (q : Vals zs ws) : Vals (sw2 vs zs) (sw2 us ws) := by
  cases r with
  | cons _ _ => exact .nil
  | nil =>
    cases q with
    | nil => exact .nil
    | cons q1 q =>
      cases q with
      | nil => exact .nil
      | cons q2 q =>
        cases q with
        | nil => exact .cons q2 (.cons q1 .nil)
        | cons _ _ => exact .nil
theorem sw2_binds {K : PySem.W.Frag} {x qual : Str} {st : Stmt} {f : Addr} {fd : FuncData} {p1 p2 : Str} (F : Fun K x qual st f fd)
    (h : ∀ (kV doc pm : Value) (an : Option Addr) (cdv ct a b : Value), bindArgs (PySem.W.fnOf x qual (defArgs st) (defBody st) (defScope st) .none kV doc pm an cdv ct) ⟨[], [(p2, a), (p1, b)]⟩ = pure [(p1, b), (p2, a)]) :
    KBinds K fd [p1, p2] [p2, p1] sw2 sw2 := by
  obtain ⟨oc, od, kV, doc, pm, an, cdv, ct, osl, rfl, lk, hcd⟩ := F.ex
  refine ⟨fun s us ws _ hl => ?_, sw2_rel⟩
  match us, ws, hl with
  | [], [a, b], _ => exact .of_eq (h kV doc pm an cdv ct a b)
  | _ :: _, _, hl => exact absurd hl (by intro z; cases z)
  | [], [], hl => exact absurd hl (by intro z; cases z)
  | [], [_], hl => exact absurd hl (by intro z; cases z)
  | [], _ :: _ :: _ :: _, hl => exact absurd hl (by intro z; cases z)
end Hr
namespace Hr
open PySem PySem.Spec PyProof.Rows L2 Evl
section
variable {K : PySem.W.Frag} {σ : L2.St} {H : Hp}
theorem Cw.more {H H1 H2 : Hp} {f : Nat → Bool} {v : Nat → V} {D : Addr} {i : Nat} (p : Cw H f v D i H1) (e : Ex H1 H2) : Cw H f v D i H2 := ⟨p.1, p.2.1.trans e, e D _ p.2.2⟩
/-- a comprehension over anything that is walked -/
theorem el_lcW {J : It} {n : Nat} {G : Hp → Prop} {Y : Nat → Hp → V → Hp → Prop} {wi : TI} {g : TG} {tt : TT} {te : TE} {vs : List Nat} (wk : Walk J n G Y) (f : Nat → Bool) (v : Nat → V) (hz : n ≤ 40000)
    (hi : ∀ H1, Ex H H1 → ∀ R : It → Hp → Prop, (∀ H2, Ex H1 H2 → R J H2) → wi σ H1 R) (hG : ∀ H1, Ex H H1 → G H1) (hY : ∀ i H1 x H2, Y i H1 x H2 → Ex H1 H2)
    (hs : ∀ i x H1 H2, i < n → Ex H H1 → Y i H1 x H2 → ∃ σ2, (∀ k : L2.St → Hp → Prop, k σ2 H2 → g x (wipe σ vs) H2 k) ∧ wipe σ2 vs = wipe σ vs ∧ EvT tt σ2 H2 (f i) ∧ (f i = true → Ev te σ2 H2 (v i))) :
    EvL (tLc wi g tt te vs) σ H (given n f v) := fun H0 e Q q => hi H0 e _ fun H1 e1 D hD => by
  refine lc_it wk (fun i H2 => Cw H1 f v D i H2) ⟨hD, Ex.new hD, upd_same⟩ (fun i H2 _ p => hG H2 ((e.trans e1).trans p.2.1)) (fun i x H2 H3 hi p y => ?_) (fun H2 p => q D H2 (fresh_back e1 p.1) (e1.trans p.2.1) p.2.2)
  have e3 := hY i H2 x H3 y
  obtain ⟨σ2, hk, hw, ht, he⟩ := hs i x H2 H3 hi ((e.trans e1).trans p.2.1) y
  refine hk _ ⟨hw, ?_⟩
  obtain ⟨p1, p2, p3⟩ := Hr.Cw.more p e3
  refine ht H3 (Ex.refl H3) _ fun H4 e4 => ?_
  cases hf : f i with
  | true =>
    show te σ2 H4 _
    refine he hf H4 e4 _ fun H5 e5 => ⟨given i f v, e5 D _ (e4 D _ p3), sz_lt (by have := given_len i f v; omega), p1, Ex.mut ((p2.trans e4).trans e5) p1, ?_⟩
    rw [given_yes hf]
    exact upd_same
  | false =>
    refine ⟨p1, p2.trans e4, ?_⟩
    rw [given_no hf]
    exact e4 D _ p3
theorem given_all (n : Nat) (v : Nat → V) : given n (fun _ => true) v = (List.range n).map v := by
  unfold given
  rw [List.filter_eq_self.mpr fun _ _ => rfl]
theorem given_none {n : Nat} {f : Nat → Bool} (v : Nat → V) (h : ∀ i, i < n → f i = false) : given n f v = [] := by
  unfold given
  rw [List.filter_eq_nil_iff.mpr fun i hi => by rw [h i (List.mem_range.mp hi)]; exact Bool.false_ne_true]
  rfl
theorem et_yes : EvT tYes σ H true := fun H1 _ _ q => q H1 (Ex.refl H1)
end
end Hr
namespace Hr
open PySem PySem.Spec PyProof.Rows L2 Evl
section
variable {σ : L2.St} {H : Hp} {Q : VK} {te ta tb : TE} {tr : TA} {D : Ends} {r : List V → Hp → VK → Prop} {q : R2} {tu tw : TS} {t : TT} {i : Nat}
theorem r_ret (h : te σ H D.rt) : tRet te D σ H := h
theorem r_cb (h : tr σ H fun vs H1 => r vs H1 Q) : tCB r tr σ H Q := h
theorem r_arg {Q : List V → Hp → Prop} (h : te σ H fun x H1 => tr σ H1 fun xs H2 => Q (x :: xs) H2) : tCons te tr σ H Q := h
theorem r_seq (h : tu { D with nx := tw D } σ H) : tSeq tu tw D σ H := h
theorem r_set (h : te σ H fun x H1 => D.nx (σ.set i (some x)) H1) : tAsg te (gName i) D σ H := h
theorem r_if (h : t σ H fun b H1 => if b = true then tu D σ H1 else tw D σ H1) : tIfS t tu tw D σ H := h
theorem r_op (h : ta σ H fun x H1 => tb σ H1 fun y H2 => q x y H2 Q) : tOp q ta tb σ H Q := h
theorem r_test {Q : Bool → Hp → Prop} (h : te σ H fun x H' => ∃ k, x = .bl k ∧ Q k H') : tTest te σ H Q := h
theorem r_B {Q : Bool → Hp → Prop} (h : te σ H fun x H' => ∃ k, x = .bl k ∧ Q k H') : tB te σ H Q := h
end
end Hr
namespace Hr
open PySem L2
theorem r_yes {σ : L2.St} {H : Hp} {Q : Bool → Hp → Prop} (h : Q true H) : tYes σ H Q := h
end Hr

/-! The deck of drawn numbers: a dict with a list, and what else is known of the heap. -/
namespace Hr
open PySem PySem.Spec PyProof.Rows L2 Evl
def kC : Key := .inr "cells"
def kM : Key := .inr "mixed"
def kD : Key := .inr "draws"
def deckD (c : Addr) (m n : Int) : List (Key × V) := [(kC, .ref c), (kM, .int m), (kD, .int n)]
theorem kCM : ¬ kC = kM := by decide +kernel
theorem kCD : ¬ kC = kD := by decide +kernel
theorem kMD : ¬ kM = kD := by decide +kernel
section
variable {c : Addr} {m n n' : Int}
theorem deck_cells : valV (deckD c m n) kC = some (.ref c) := valV_pos rfl
theorem deck_mixed : valV (deckD c m n) kM = some (.int m) := (valV_neg kCM).trans (valV_pos rfl)
theorem deck_draws : valV (deckD c m n) kD = some (.int n) := (valV_neg kCD).trans ((valV_neg kMD).trans (valV_pos rfl))
theorem deck_put : putK (deckD c m n) kD (.int n') = deckD c m n' := by
  unfold putK deckD
  rw [if_pos (by simp)]
  simp [kCD, kMD]
theorem deck_made : mergeK [] [(kC, .ref c), (kM, .int m), (kD, .int n)] = deckD c m n := by
  have h1 : ¬ kM = kC := fun e => kCM e.symm
  have h2 : ¬ kD = kC := fun e => kCD e.symm
  have h3 : ¬ kD = kM := fun e => kMD e.symm
  unfold mergeK
  simp [putK, deckD, kCM, kCD, kMD, h1, h2, h3]
end
structure DkC (G : Hp) (d c : Addr) (cells : List Int) (m n : Int) (H : Hp) : Prop where
  ex : Ex G H
  gd : G d = none
  gc : G c = none
  hd : H d = some (.dK (deckD c m n))
  hc : H c = some (.lst (cells.map V.int))
  len : cells.length ≤ 63
  m0 : 0 ≤ m
  m1 : m < 2147483648
/-- a deck at d; beside it all of G stands -/
def Dk (G : Hp) (d : Addr) (H : Hp) : Prop := ∃ c cells m n, DkC G d c cells m n H
section
variable {G G' H H' : Hp} {d c p : Addr} {cells : List Int} {m n n' : Int} {o : HO}
theorem DkC.ne (k : DkC G d c cells m n H) : d ≠ c := ne_of k.hd k.hc (by intro z; cases z)
theorem DkC.more (k : DkC G d c cells m n H) (e : Ex H H') : DkC G d c cells m n H' := ⟨k.ex.trans e, k.gd, k.gc, e _ _ k.hd, e _ _ k.hc, k.len, k.m0, k.m1⟩
theorem DkC.new (k : DkC G d c cells m n H) (h : H p = none) : DkC G d c cells m n (upd H p o) := k.more (Ex.new h)
theorem DkC.draw (k : DkC G d c cells m n H) : DkC G d c cells m n' (upd H d (.dK (deckD c m n'))) :=
  ⟨Ex.mut k.ex k.gd, k.gd, k.gc, upd_same, by rw [upd_ne k.ne.symm]; exact k.hc, k.len, k.m0, k.m1⟩
theorem DkC.cell {xs : List Int} (k : DkC G d c cells m n H) (h : xs.length ≤ 63) : DkC G d c xs m n (upd H c (.lst (xs.map V.int))) :=
  ⟨Ex.mut k.ex k.gc, k.gd, k.gc, by rw [upd_ne k.ne]; exact k.hd, upd_same, h, k.m0, k.m1⟩
theorem DkC.grow (k : DkC G d c cells m n H) (h : H p = none) (e : Ex H H') (hp : H' p = some o) : DkC (upd G p o) d c cells m n H' := by
  have hd : d ≠ p := ne_of_none k.hd h
  have hc : c ≠ p := ne_of_none k.hc h
  refine ⟨fun b u z => ?_, by rw [upd_ne hd]; exact k.gd, by rw [upd_ne hc]; exact k.gc, e _ _ k.hd, e _ _ k.hc, k.len, k.m0, k.m1⟩
  by_cases hb : b = p
  · subst hb
    rw [upd_same] at z
    cases z
    exact hp
  · rw [upd_ne hb] at z
    exact e _ _ (k.ex _ _ z)
theorem Dk.ex (k : Dk G d H) : Ex G H := k.elim fun _ ⟨_, _, _, z⟩ => z.ex
theorem Dk.more (k : Dk G d H) (e : Ex H H') : Dk G d H' := let ⟨c, x, m, n, z⟩ := k; ⟨c, x, m, n, z.more e⟩
theorem Dk.new (k : Dk G d H) (h : H p = none) : Dk G d (upd H p o) := k.more (Ex.new h)
theorem Dk.grow (k : Dk G d H) (h : H p = none) (e : Ex H H') (hp : H' p = some o) : Dk (upd G p o) d H' := let ⟨c, x, m, n, z⟩ := k; ⟨c, x, m, n, z.grow h e hp⟩
theorem Dk.free (k : Dk G d H) (h : H p = none) : G p = none := fresh_back k.ex h
theorem Dk.gex (k : Dk G d H) (h : H p = none) : Ex G (upd G p o) := Ex.new (k.free h)
theorem Dk.get (k : Dk G d H) {b : Addr} {u : HO} (h : G b = some u) : H b = some u := k.ex _ _ h
theorem DkC.gcells (k : DkC G d c cells m n H) : DGet H d (.str "cells") (some (.ref c)) := by
  have z := DGet.k (k := kC) k.hd
  rw [deck_cells] at z
  exact z
theorem DkC.gmixed (k : DkC G d c cells m n H) : DGet H d (.str "mixed") (some (.int m)) := by
  have z := DGet.k (k := kM) k.hd
  rw [deck_mixed] at z
  exact z
theorem DkC.gdraws (k : DkC G d c cells m n H) : DGet H d (.str "draws") (some (.int n)) := by
  have z := DGet.k (k := kD) k.hd
  rw [deck_draws] at z
  exact z
theorem DkC.pdraws (k : DkC G d c cells m n H) : DPut H d (.str "draws") (.int n') (upd H d (.dK (deckD c m n'))) := by
  have z := DPut.k (k := kD) (v := .int n') k.hd (by show 3 < sizeLine; decide)
  rw [deck_put] at z
  exact z
end
/-! a list of ints as data -/
def izD (xs : List Int) : PyData := .list (xs.map PyData.int)
section
variable {K : PySem.W.Frag} {H : Hp} {a : Addr}
theorem ints_dp : ∀ xs : List Int, DpAll K H (xs.map V.int) (xs.map PyData.int)
  | [] => .nil
  | x :: xs => .cons (.int x) (ints_dp xs)
theorem izD_dp {xs : List Int} (h : SqL K H a (xs.map V.int)) : Dp K H (.ref a) (izD xs) := .lst h (ints_dp xs)
theorem ints_lay : ∀ xs : List Int, PyData.canLayAll0 (xs.map PyData.int) = true
  | [] => by simp [PyData.canLayAll0]
  | x :: xs => by
    have ih := ints_lay xs
    simp only [List.map_cons, PyData.canLayAll0, PyData.canLay0, Bool.true_and]
    exact ih
theorem ints_depth : ∀ xs : List Int, PyData.depthAll (xs.map PyData.int) ≤ 1
  | [] => by simp [PyData.depthAll]
  | x :: xs => by
    have ih := ints_depth xs
    simp only [List.map_cons, PyData.depthAll, PyData.depth]
    exact Nat.max_le.mpr ⟨by decide, ih⟩
theorem izD_shaped (xs : List Int) : SeqAt.shaped (izD xs) = true := by
  unfold SeqAt.shaped izD
  have h1 := ints_lay xs
  have h2 := ints_depth xs
  simp only [PyData.canLay0, PyData.depth, Bool.and_eq_true, decide_eq_true_eq]
  exact ⟨h1, decide_eq_true (by omega)⟩
theorem izD_eqv_nil (xs : List Int) : PyData.eqv (izD xs) (izD []) = xs.isEmpty := by
  cases xs with
  | nil => simp [izD, PyData.eqv, PyData.eqvAll]
  | cons x xs => simp [izD, PyData.eqv, PyData.eqvAll]
end
end Hr
namespace Hr
open PySem PySem.Spec PyProof.Rows L2 Evl
section
variable {G G' H H' : Hp} {d c f : Addr} {cells : List Int} {m n : Int} {o o' : HO}
/-- a known object of one's own is changed -/
theorem Dk.set (k : Dk G d H) (h : G f = some o) : Dk (upd G f o') d (upd H f o') := by
  obtain ⟨c, x, m, n, z⟩ := k
  have fd : d ≠ f := fun e => by subst e; rw [z.gd] at h; cases h
  have fc : c ≠ f := fun e => by subst e; rw [z.gc] at h; cases h
  refine ⟨c, x, m, n, ?_, by rw [upd_ne fd]; exact z.gd, by rw [upd_ne fc]; exact z.gc, by rw [upd_ne fd]; exact z.hd, by rw [upd_ne fc]; exact z.hc, z.len, z.m0, z.m1⟩
  intro b u e
  by_cases hb : b = f
  · subst hb
    rw [upd_same] at e ⊢
    exact e
  · rw [upd_ne hb] at e ⊢
    exact z.ex _ _ e
theorem Dk.made (k : Dk G d H) (h : H f = none) : Dk (upd G f o) d (upd H f o) := k.grow h (Ex.new h) upd_same
end
end Hr

/-! Data whose repr is short enough to be told. -/
namespace Hr
open PySem PySem.Spec PyProof.Rows L2 Evl
structure Fine (d : PyData) (n : Nat) : Prop where
  show1 : d.showable = true
  nod : d.hasDict = false
  leaf : d.leavesShort 1921 = true
  dep : d.depth ≤ 30
  bulk : d.bulk ≤ n
structure FineL (ds : List PyData) (n : Nat) : Prop where
  show1 : PyData.showableAll ds = true
  nod : PyData.hasDictAll ds = false
  leaf : PyData.leavesShortAll 1921 ds = true
  dep : PyData.depthAll ds ≤ 20
  bulk : PyData.bulkAll ds ≤ n
section
variable {d : PyData} {ds es : List PyData} {n m : Nat}
theorem FineL.nil : FineL [] 0 := ⟨rfl, rfl, rfl, Nat.zero_le _, Nat.le_refl 0⟩
theorem FineL.cons (h : Fine d n) (hd : d.depth ≤ 20) (t : FineL ds m) : FineL (d :: ds) (n + 1 + m) := by
  refine ⟨?_, ?_, ?_, ?_, ?_⟩
  · simp only [PyData.showableAll, h.show1, t.show1, Bool.and_self]
  · simp only [PyData.hasDictAll, h.nod, t.nod, Bool.or_self]
  · simp only [PyData.leavesShortAll, h.leaf, t.leaf, Bool.and_self]
  · simp only [PyData.depthAll]
    exact Nat.max_le.mpr ⟨hd, t.dep⟩
  · simp only [PyData.bulkAll]
    have := h.bulk
    have := t.bulk
    omega
theorem FineL.up (h : FineL ds n) (e : n ≤ m) : FineL ds m := ⟨h.show1, h.nod, h.leaf, h.dep, Nat.le_trans h.bulk e⟩
theorem Fine.up (h : Fine d n) (e : n ≤ m) : Fine d m := ⟨h.show1, h.nod, h.leaf, h.dep, Nat.le_trans h.bulk e⟩
theorem FineL.tup (h : FineL ds n) : Fine (.tuple ds) n := by
  refine ⟨?_, ?_, ?_, ?_, ?_⟩
  · simpa only [PyData.showable] using h.show1
  · simpa only [PyData.hasDict] using h.nod
  · simpa only [PyData.leavesShort] using h.leaf
  · have := h.dep
    simp only [PyData.depth]
    omega
  · simpa only [PyData.bulk] using h.bulk
theorem FineL.lst (h : FineL ds n) : Fine (.list ds) n := by
  refine ⟨?_, ?_, ?_, ?_, ?_⟩
  · simpa only [PyData.showable] using h.show1
  · simpa only [PyData.hasDict] using h.nod
  · simpa only [PyData.leavesShort] using h.leaf
  · have := h.dep
    simp only [PyData.depth]
    omega
  · simpa only [PyData.bulk] using h.bulk
theorem Fine.int {i : Int} (h : i.natAbs.log2 < 1920) : Fine (.int i) 0 := by
  refine ⟨decide_eq_true h, rfl, ?_, Nat.zero_le _, Nat.le_refl 0⟩
  simp only [PyData.leavesShort, decide_eq_true_eq]
  exact int_text_len_1921 h
theorem Fine.bool (b : Bool) : Fine (.bool b) 0 := ⟨rfl, rfl, rfl, Nat.zero_le _, Nat.le_refl 0⟩
theorem Fine.none : Fine .none 0 := ⟨rfl, rfl, rfl, Nat.zero_le _, Nat.le_refl 0⟩
theorem FineL.ints : ∀ xs : List Int, (∀ x ∈ xs, x.natAbs.log2 < 1920) → FineL (xs.map PyData.int) xs.length
  | [], _ => FineL.nil
  | x :: xs, h => by
    have ih := FineL.ints xs fun y hy => h y (List.mem_cons_of_mem _ hy)
    have z := FineL.cons (Fine.int (h x List.mem_cons_self)) (Nat.zero_le _) ih
    exact z.up (by rw [List.length_cons]; omega)
theorem Fine.len (h : Fine d n) (e : n ≤ 8000) : d.shown.length ≤ sizeLine := by
  have h1 := PyData.shown_le_bulk 1921 (by decide) d h.leaf
  have h2 := h.bulk
  have h3 : sizeLine = 16777216 := by decide
  have h4 : (1921 + 2) * d.bulk ≤ 1923 * 8000 := Nat.mul_le_mul (Nat.le_refl _) (by omega)
  omega
variable {K : PySem.W.Frag} {H : Hp} {a : Addr} {Q : VK}
/-- repr of such data -/
theorem r_repr (h : Dp K H (.ref a) d) (f : Fine d 8000) (q : Q (.str d.shown) H) : rRepr K [.ref a] H Q :=
  ⟨a, d, rfl, h, f.show1, f.nod, Nat.le_trans f.dep (by decide), f.len (Nat.le_refl _), q⟩
theorem ints_all : ∀ xs : List Int, DpAll K H (xs.map V.int) (xs.map PyData.int)
  | [] => .nil
  | x :: xs => .cons (.int x) (ints_all xs)
theorem tup_dp {xs : List Int} (h : SqT K H a (xs.map V.int)) : Dp K H (.ref a) (.tuple (xs.map PyData.int)) := .tup h (ints_all xs)
end
end Hr
namespace Hr
open PySem
theorem Fine.d40 {d : PyData} {n : Nat} (f : Fine d n) : d.depth ≤ 40 := Nat.le_trans f.dep (by decide)
end Hr

/-! More rules: min of a tuple, repr of a bool, a range walked again, zip of tuples. -/
namespace Hr
open PySem PySem.Spec PyProof.Rows L2 Evl RZ
section
variable {X : Cx}
/-! ### min of a tuple of ints -/
def rMinT (K : PySem.W.Frag) : List V → Hp → VK → Prop := fun vs H Q => ∃ (a : Addr) (ns : List Int), vs = [.ref a] ∧ SqT K H a (ns.map V.int) ∧ 0 < ns.length ∧ ∀ m, m ∈ ns → (∀ y, y ∈ ns → m ≤ y) → Q (.int m) H
theorem foldl_min (n : Int) : ∀ ns : List Int, (ns.foldl min n ∈ n :: ns) ∧ (∀ y ∈ n :: ns, ns.foldl min n ≤ y) := by
  intro ns
  induction ns generalizing n with
  | nil => exact ⟨List.mem_singleton.mpr rfl, fun y hy => by cases List.mem_singleton.mp hy; exact Int.le_refl _⟩
  | cons k r ih =>
    obtain ⟨h1, h2⟩ := ih (min n k)
    rw [List.foldl_cons]
    refine ⟨?_, fun y hy => ?_⟩
    · rcases List.mem_cons.mp h1 with e | h
      · rw [e]
        by_cases z : n ≤ k
        · rw [Int.min_eq_left z]; exact List.mem_cons_self
        · rw [Int.min_eq_right (by omega)]; exact List.mem_cons_of_mem _ List.mem_cons_self
      · exact List.mem_cons_of_mem _ (List.mem_cons_of_mem _ h)
    · have h3 := h2 (min n k) List.mem_cons_self
      rcases List.mem_cons.mp hy with rfl | hy
      · omega
      · rcases List.mem_cons.mp hy with rfl | hy
        · omega
        · exact h2 y (List.mem_cons_of_mem _ hy)
theorem alike_all_ints (ns : List Int) : PySem.W.AlikeAll (ns.map PyData.int) := by
  refine ⟨fun x hx y hy => ?_, fun x hx => ?_⟩
  · obtain ⟨i, _, rfl⟩ := List.mem_map.mp hx
    obtain ⟨j, _, rfl⟩ := List.mem_map.mp hy
    simp only [PySem.W.alike]
  · obtain ⟨i, _, rfl⟩ := List.mem_map.mp hx
    intro h
    cases h
theorem depth_ints : ∀ ns : List Int, PyData.depthAll (ns.map PyData.int) ≤ 1
  | [] => by simp [PyData.depthAll]
  | x :: xs => by
    have ih := depth_ints xs
    simp only [List.map_cons, PyData.depthAll, PyData.depth]
    exact Nat.max_le.mpr ⟨by decide, ih⟩
theorem dp_ints {K : PySem.W.Frag} {H : Hp} : ∀ xs : List Int, DpAll K H (xs.map V.int) (xs.map PyData.int)
  | [] => .nil
  | x :: xs => .cons (.int x) (dp_ints xs)
theorem cr_minT (hc : X.calm = true) (hu : X.A.units + 64 < cLine) : CallR X (.builtin "min") (rMinT X.K) := by
  intro pins s σ H vs us Q I r h
  obtain ⟨a, ns, rfl, hs, hne, q⟩ := h
  obtain ⟨its, rv, hl, hz⟩ := I.tuple hs
  rw [Vals.ref1 r]
  obtain ⟨as, rd⟩ := Dp.readsAll I _ _ _ (dp_ints (K := X.K) (H := H) ns) rv
  cases ns with
  | nil => exact absurd hne (by decide)
  | cons n ns =>
    have rd' : ReadsAll s.heap its.toArray.toList (PyData.int n :: ns.map PyData.int) as := by
      rw [List.toList_toArray]
      exact rd
    have hd := depth_ints (n :: ns)
    refine PySem.W.min_tuple_data (I.ok.hd hc) (show s.heap.IsTuple a its.toArray from hl) rd' (alike_all_ints (n :: ns)) ?_ fun i v h' tk bs hv hr hk => ?_
    · have hd' : PyData.depthAll (PyData.int n :: ns.map PyData.int) ≤ 1 := hd
      omega
    · rw [PySem.W.minD_ints] at hr
      obtain ⟨m1, m2⟩ := foldl_min n ns
      generalize ns.foldl min n = m at hr m1 m2
      cases hr with
      | int _ t => exact ⟨.int m, H, I.kept hk, ⟨_, rfl⟩, q m m1 m2⟩

/-! ### repr of a bool -/
def tOf (b : Bool) : Str := if b then "True" else "False"
theorem cr_reprB : CallR X (.builtin "repr") (fun xs H Q => ∃ b, xs = [.bl b] ∧ Q (.str (tOf b)) H) := by
  intro pins s σ H xs us Q I r h
  obtain ⟨b, rfl, q⟩ := h
  obtain ⟨u, rfl, r1⟩ := vals1 r
  cases r1
  exact PySem.P.repr_of_bool ⟨.str _, H, I.tok _, ⟨_, rfl⟩, q⟩

/-! ### a range that stands, walked -/
def iRngV (te : TE) : TI := fun σ H R => te σ H fun x H1 => ∃ (a : Addr) (lo hi : Int), x = .ref a ∧ H1 a = some (.rng lo hi) ∧ (-(2 ^ 62) ≤ lo ∧ lo < 2 ^ 62 ∧ -(2 ^ 62) ≤ hi ∧ hi < 2 ^ 62) ∧ R (Itr lo (hi - lo).toNat) H1
theorem pi_rngV {tg e : Expr} {te : TE} (he : PE X e te) : PI X tg e (iRngV te) := by
  refine ⟨fun pins s σ H R I h => ?_⟩
  refine thn (he.run pins s σ H _ I h) fun v s1 ⟨x, H1, I1, r1, q1⟩ => ?_
  obtain ⟨a, lo, hi, e, ha, ⟨h1, h2, h3, h4⟩, q⟩ := q1
  subst e
  cases r1
  obtain ⟨t, u, v, ho⟩ := I1.hok _ _ ha
  refine wpAny_pyIter_range (show IsRange s1.heap a lo hi 1 t u v from ho) (small_one h1 h2 h3 h4) ?_
  refine ⟨s1.heap.objs.size, [s1.heap.objs.size], _, _, H1, rfl, I1.kept (t' := s1.toks) fun b o e => Heap.get?_push_of_some _ e, turn_range _ lo (hi - lo).toNat, ?_, fun b hb => ?_, q⟩
  · have e1 : lo + ((0 : Nat) : Int) * 1 = lo := by simp
    have e2 : (((hi - lo).toNat : Nat) : Int) - ((0 : Nat) : Int) = Builtin.Range.rangeSize lo hi 1 := by rw [rangeSize_one]; split <;> omega
    show IsRangeIter _ _ (lo + ((0 : Nat) : Int) * 1) ((((hi - lo).toNat : Nat) : Int) - ((0 : Nat) : Int)) 1
    rw [e1, e2]
    exact Heap.get?_push_size _ rfl
  · have e : b = s1.heap.objs.size := by simpa using hb
    subst e
    exact I1.fpOk (Nat.le_refl _) (I1.hok.fresh (Nat.le_refl _))
end
theorem walk_zipT {K : PySem.W.Frag} {a b : Addr} {xs ys : List V} {n : Nat} (hn : n = min xs.length ys.length) : Walk (ItzT K a b) n (fun H => SqT K H a xs ∧ SqT K H b ys) (YPair (fun i => xs[i]?) (fun i => ys[i]?)) := by
  subst hn
  refine ⟨fun i _ hi q => ?_, fun _ q => ⟨xs, ys, q.1, q.2, by omega⟩, fun i H v H' _ q y => ?_⟩
  · have h1 : i < xs.length := by omega
    have h2 : i < ys.length := by omega
    exact ⟨xs, ys, xs[i], ys[i], q.1, q.2, by simp [h1], by simp [h2]⟩
  · obtain ⟨T, x, z, h1, h2, h3, h4, h5⟩ := y
    exact ⟨T, x, z, h1, h2, h3, h4 xs q.1, h5 ys q.2⟩
/-- one argument, by name -/
def sw1 {α : Type} (us ws : List α) : List α := match us, ws with
  | [], [a] => [a]
  | _, _ => []
theorem sw1_rel {vs : List V} {us : List Value} {zs : List V} {ws : List Value} (r : Vals vs us) (q : Vals zs ws) : Vals (sw1 vs zs) (sw1 us ws) := by
  cases r with
  | cons _ _ => exact .nil
  | nil =>
    cases q with
    | nil => exact .nil
    | cons q1 q =>
      cases q with
      | nil => exact .cons q1 .nil
      | cons _ _ => exact .nil
theorem sw1_binds {K : PySem.W.Frag} {x qual : Str} {st : Stmt} {f : Addr} {fd : FuncData} {p1 : Str} (F : Fun K x qual st f fd)
    (h : ∀ (kV doc pm : Value) (an : Option Addr) (cdv ct a : Value), bindArgs (PySem.W.fnOf x qual (defArgs st) (defBody st) (defScope st) .none kV doc pm an cdv ct) ⟨[], [(p1, a)]⟩ = pure [(p1, a)]) :
    KBinds K fd [p1] [p1] sw1 sw1 := by
  obtain ⟨oc, od, kV, doc, pm, an, cdv, ct, osl, rfl, lk, hcd⟩ := F.ex
  refine ⟨fun s us ws _ hl => ?_, sw1_rel⟩
  match us, ws, hl with
  | [], [a], _ => exact .of_eq (h kV doc pm an cdv ct a)
  | _ :: _, _, hl => exact absurd hl (by intro z; cases z)
  | [], [], hl => exact absurd hl (by intro z; cases z)
  | [], _ :: _ :: _, hl => exact absurd hl (by intro z; cases z)

/-! ### comprehensions over what is made on the way -/
section
variable {K : PySem.W.Frag} {σ : L2.St} {H : Hp} {te tl : TE} {g : TG} {tt : TT} {vs : List Nat} {f : Nat → Bool} {v : Nat → V} {xs ys : List V}
theorem lcW {J : It} {n : Nat} {G : Hp → Prop} {Y : Nat → Hp → V → Hp → Prop} {Q : VK} (wk : Walk J n G Y) (f : Nat → Bool) (v : Nat → V) (hz : n ≤ 40000)
    (hG : ∀ H1, Ex H H1 → G H1) (hY : ∀ i H1 x H2, Y i H1 x H2 → Ex H1 H2)
    (hs : ∀ i x H1 H2, i < n → Ex H H1 → Y i H1 x H2 → ∃ σ2, (∀ k : L2.St → Hp → Prop, k σ2 H2 → g x (wipe σ vs) H2 k) ∧ wipe σ2 vs = wipe σ vs ∧ EvT tt σ2 H2 (f i) ∧ (f i = true → Ev te σ2 H2 (v i)))
    (q : ∀ p H2, H p = none → Ex H H2 → H2 p = some (.lst (given n f v)) → Q (.ref p) H2) : tLc (fun _ H' R => R J H') g tt te vs σ H Q :=
  el_lcW (wi := fun _ H' R => R J H') wk f v hz (fun H1 _ R k => k H1 (Ex.refl H1)) hG hY hs H (Ex.refl H) Q q
theorem el_lcN (hl : EvL tl σ H ys) (f : Nat → Bool) (v : Nat → V) (hz : ys.length ≤ 40000)
    (hs : ∀ i x H2, Ex H H2 → ys[i]? = some x → ∃ σ2, (∀ k : L2.St → Hp → Prop, k σ2 H2 → g x (wipe σ vs) H2 k) ∧ wipe σ2 vs = wipe σ vs ∧ EvT tt σ2 H2 (f i) ∧ (f i = true → Ev te σ2 H2 (v i))) :
    EvL (tLc (iList K tl) g tt te vs) σ H (given ys.length f v) := fun H0 e Q q =>
  hl H0 e _ fun a H1 _ e1 h1 => ⟨a, rfl, ⟨_, SqL.of h1⟩, lcW (walk_list (K := K) (a := a) (xs := ys)) f v hz (fun H2 e2 => SqL.of (e2 _ _ h1)) (fun i H1 x H2 y => by rw [y.1]; exact Ex.refl _)
    (fun i x H2 H3 hi e2 y => by
      obtain ⟨rfl, y2⟩ := y
      exact hs i x H3 ((e.trans e1).trans e2) y2) fun p H2 np e2 hp => q p H2 (fresh_back e1 np) (e1.trans e2) hp⟩
theorem el_lcT {a : Addr} (ha : H a = some (.tup xs)) (hl : Ev tl σ H (.ref a)) (f : Nat → Bool) (v : Nat → V) (hz : xs.length ≤ 40000)
    (hs : ∀ i x H2, Ex H H2 → xs[i]? = some x → ∃ σ2, (∀ k : L2.St → Hp → Prop, k σ2 H2 → g x (wipe σ vs) H2 k) ∧ wipe σ2 vs = wipe σ vs ∧ EvT tt σ2 H2 (f i) ∧ (f i = true → Ev te σ2 H2 (v i))) :
    EvL (tLc (iTup K tl) g tt te vs) σ H (given xs.length f v) :=
  el_lcW (walk_tup (K := K) (a := a) (xs := xs)) f v hz (fun H1 e R k => hl H1 e _ fun H2 e2 => ⟨a, rfl, ⟨_, SqT.of (e2 _ _ (e _ _ ha))⟩, k H2 e2⟩) (fun H1 e => SqT.of (e _ _ ha)) (fun i H1 x H2 y => by rw [y.1]; exact Ex.refl _)
    fun i x H1 H2 hi e y => by
      obtain ⟨rfl, y2⟩ := y
      exact hs i x H2 e y2
theorem el_lcR {ta : TA} {lo hi : Int} (ha : EvA ta σ H [.int lo, .int hi]) (hb : -(2 ^ 62) ≤ lo ∧ lo < 2 ^ 62 ∧ -(2 ^ 62) ≤ hi ∧ hi < 2 ^ 62) (f : Nat → Bool) (v : Nat → V) (hz : (hi - lo).toNat ≤ 40000)
    (hs : ∀ (i : Nat) H2, Ex H H2 → i < (hi - lo).toNat → ∃ σ2, (∀ k : L2.St → Hp → Prop, k σ2 H2 → g (.int (lo + i)) (wipe σ vs) H2 k) ∧ wipe σ2 vs = wipe σ vs ∧ EvT tt σ2 H2 (f i) ∧ (f i = true → Ev te σ2 H2 (v i))) :
    EvL (tLc (iRng2 ta) g tt te vs) σ H (given (hi - lo).toNat f v) :=
  el_lcW (walk_range (lo := lo) (n := (hi - lo).toNat)) f v hz (fun H1 e R k => ha H1 e _ fun H2 e2 => ⟨lo, hi, rfl, hb, k H2 e2⟩) (fun _ _ => trivial) (fun i H1 x H2 y => by rw [y.1]; exact Ex.refl _)
    fun i x H1 H2 hi e y => by
      obtain ⟨rfl, rfl⟩ := y
      exact hs i H2 e hi
theorem el_lcR1 {ta : TA} {n : Int} (ha : EvA ta σ H [.int n]) (hb : -(2 ^ 62) ≤ n ∧ n < 2 ^ 62) (f : Nat → Bool) (v : Nat → V) (hz : n.toNat ≤ 40000)
    (hs : ∀ (i : Nat) H2, Ex H H2 → i < n.toNat → ∃ σ2, (∀ k : L2.St → Hp → Prop, k σ2 H2 → g (.int (0 + i)) (wipe σ vs) H2 k) ∧ wipe σ2 vs = wipe σ vs ∧ EvT tt σ2 H2 (f i) ∧ (f i = true → Ev te σ2 H2 (v i))) :
    EvL (tLc (iRng1 ta) g tt te vs) σ H (given n.toNat f v) :=
  el_lcW (walk_range (lo := 0) (n := n.toNat)) f v hz (fun H1 e R k => ha H1 e _ fun H2 e2 => ⟨n, rfl, hb.1, hb.2, k H2 e2⟩) (fun _ _ => trivial) (fun i H1 x H2 y => by rw [y.1]; exact Ex.refl _)
    fun i x H1 H2 hi e y => by
      obtain ⟨rfl, rfl⟩ := y
      exact hs i H2 e hi
theorem el_lcRV {r : Addr} {lo hi : Int} (ha : H r = some (.rng lo hi)) (hl : Ev tl σ H (.ref r)) (hb : -(2 ^ 62) ≤ lo ∧ lo < 2 ^ 62 ∧ -(2 ^ 62) ≤ hi ∧ hi < 2 ^ 62) (f : Nat → Bool) (v : Nat → V) (hz : (hi - lo).toNat ≤ 40000)
    (hs : ∀ (i : Nat) H2, Ex H H2 → i < (hi - lo).toNat → ∃ σ2, (∀ k : L2.St → Hp → Prop, k σ2 H2 → g (.int (lo + i)) (wipe σ vs) H2 k) ∧ wipe σ2 vs = wipe σ vs ∧ EvT tt σ2 H2 (f i) ∧ (f i = true → Ev te σ2 H2 (v i))) :
    EvL (tLc (iRngV tl) g tt te vs) σ H (given (hi - lo).toNat f v) :=
  el_lcW (walk_range (lo := lo) (n := (hi - lo).toNat)) f v hz (fun H1 e R k => hl H1 e _ fun H2 e2 => ⟨r, lo, hi, rfl, e2 _ _ (e _ _ ha), hb, k H2 e2⟩) (fun _ _ => trivial) (fun i H1 x H2 y => by rw [y.1]; exact Ex.refl _)
    fun i x H1 H2 hi e y => by
      obtain ⟨rfl, rfl⟩ := y
      exact hs i H2 e hi
/-- over enumerate of a tuple: at the turn a new pair -/
theorem el_lcE {a : Addr} {ta : TA} (ha : H a = some (.tup xs)) (hl : EvA ta σ H [.ref a]) (f : Nat → Bool) (v : Nat → V) (hz : xs.length ≤ 40000)
    (hs : ∀ (i : Nat) x T H2, Ex H H2 → xs[i]? = some x → H2 T = some (.tup [.int (i : Nat), x]) → ∃ σ2, (∀ k : L2.St → Hp → Prop, k σ2 H2 → g (.ref T) (wipe σ vs) H2 k) ∧ wipe σ2 vs = wipe σ vs ∧ EvT tt σ2 H2 (f i) ∧ (f i = true → Ev te σ2 H2 (v i))) :
    EvL (tLc (iEnumT K ta) g tt te vs) σ H (given xs.length f v) :=
  el_lcW (walk_enumT (K := K) (a := a) (xs := xs)) f v hz (fun H1 e R k => hl H1 e _ fun H2 e2 => ⟨a, xs, rfl, SqT.of (e2 _ _ (e _ _ ha)), k H2 e2⟩) (fun H1 e => SqT.of (e _ _ ha))
    (fun i H1 x H2 y => by
      obtain ⟨T, _, _, rfl, nT, rfl, _, _⟩ := y
      exact Ex.new nT)
    fun i x H1 H2 hi e y => by
      obtain ⟨T, _, x2, rfl, nT, rfl, e1, e2⟩ := y
      cases e1
      exact hs i x2 T _ (e.trans (Ex.new nT)) e2 upd_same
/-- over zip of two tuples, made on the way or not -/
theorem el_lcZ {ta : TA} (hl : ∀ H1, Ex H H1 → ∀ Q : List V → Hp → Prop, (∀ a b H2, Ex H1 H2 → H2 a = some (.tup xs) → H2 b = some (.tup ys) → Q [.ref a, .ref b] H2) → ta σ H1 Q) (f : Nat → Bool) (v : Nat → V) (hz : min xs.length ys.length ≤ 40000)
    (hs : ∀ (i : Nat) x y T H2, Ex H H2 → xs[i]? = some x → ys[i]? = some y → H2 T = some (.tup [x, y]) → ∃ σ2, (∀ k : L2.St → Hp → Prop, k σ2 H2 → g (.ref T) (wipe σ vs) H2 k) ∧ wipe σ2 vs = wipe σ vs ∧ EvT tt σ2 H2 (f i) ∧ (f i = true → Ev te σ2 H2 (v i))) :
    EvL (tLc (iZipA K ta) g tt te vs) σ H (given (min xs.length ys.length) f v) := fun H0 e Q q =>
  hl H0 e _ fun a b H1 e1 ha hb => ⟨a, b, xs, ys, rfl, .inr ⟨SqT.of ha, SqT.of hb, lcW (walk_zipT (K := K) rfl) f v hz (fun H2 e2 => ⟨SqT.of (e2 _ _ ha), SqT.of (e2 _ _ hb)⟩)
    (fun i H1 x H2 y => by
      obtain ⟨T, _, _, rfl, nT, rfl, _, _⟩ := y
      exact Ex.new nT)
    (fun i x H2 H3 hi e2 y => by
      obtain ⟨T, x1, x2, rfl, nT, rfl, h1, h2⟩ := y
      exact hs i x1 x2 T _ (((e.trans e1).trans e2).trans (Ex.new nT)) h1 h2 upd_same)
    fun p H2 np e2 hp => q p H2 (fresh_back e1 np) (e1.trans e2) hp⟩⟩
/-- over zip of two lists -/
theorem el_lcZL {ta : TA} (hl : ∀ H1, Ex H H1 → ∀ Q : List V → Hp → Prop, (∀ a b H2, Ex H1 H2 → H2 a = some (.lst xs) → H2 b = some (.lst ys) → Q [.ref a, .ref b] H2) → ta σ H1 Q) (f : Nat → Bool) (v : Nat → V) (hz : min xs.length ys.length ≤ 40000)
    (hs : ∀ (i : Nat) x y T H2, Ex H H2 → xs[i]? = some x → ys[i]? = some y → H2 T = some (.tup [x, y]) → ∃ σ2, (∀ k : L2.St → Hp → Prop, k σ2 H2 → g (.ref T) (wipe σ vs) H2 k) ∧ wipe σ2 vs = wipe σ vs ∧ EvT tt σ2 H2 (f i) ∧ (f i = true → Ev te σ2 H2 (v i))) :
    EvL (tLc (iZipA K ta) g tt te vs) σ H (given (min xs.length ys.length) f v) := fun H0 e Q q =>
  hl H0 e _ fun a b H1 e1 ha hb => ⟨a, b, xs, ys, rfl, .inl ⟨SqL.of ha, SqL.of hb, lcW (walk_zip (K := K) rfl) f v hz (fun H2 e2 => ⟨SqL.of (e2 _ _ ha), SqL.of (e2 _ _ hb)⟩)
    (fun i H1 x H2 y => by
      obtain ⟨T, _, _, rfl, nT, rfl, _, _⟩ := y
      exact Ex.new nT)
    (fun i x H2 H3 hi e2 y => by
      obtain ⟨T, x1, x2, rfl, nT, rfl, h1, h2⟩ := y
      exact hs i x1 x2 T _ (((e.trans e1).trans e2).trans (Ex.new nT)) h1 h2 upd_same)
    fun p H2 np e2 hp => q p H2 (fresh_back e1 np) (e1.trans e2) hp⟩⟩
/-- tuple(list made on the way) -/
theorem r_tupL {r : Prop} {xs : List V} {H : Hp} {Q : VK} {p : Addr} (hp : H p = some (.lst xs)) (q : ∀ l H2, H l = none → Ex H H2 → H2 l = some (.tup xs) → Q (.ref l) H2) :
    ∃ a ys, [V.ref p] = [V.ref a] ∧ ((SqL K H a ys ∧ ∀ l, H l = none → Q (.ref l) (upd H l (.tup ys))) ∨ (SqT K H a ys ∧ Q (.ref a) H)) :=
  ⟨p, xs, rfl, .inl ⟨SqL.of hp, fun l hl => q l _ hl (Ex.new hl) upd_same⟩⟩
theorem two_get {H : Hp} {T : Addr} {x y : V} {i j : Nat} {σ : L2.St} {k : L2.St → Hp → Prop} (h : H T = some (.tup [x, y])) (q : k ((σ.set i (some x)).set j (some y)) H) : gTup K 2 (gCons (gName i) (gCons (gName j) gNil)) (.ref T) σ H k :=
  ⟨T, [x, y], rfl, .inl (.inl h), rfl, _, _, rfl, _, _, rfl, rfl, q⟩
end
section
variable {K : PySem.W.Frag} {σ : L2.St} {H : Hp} {Q : VK} {te : TE} {tr : TA} {D : Ends} {trs : List (TE × TE)} {i j : Nat}
theorem r_disp (h : ∀ p, H p = none → tPairs trs σ (upd H p (.dK [])) fun ps H2 => H2 p = some (.dK []) ∧ ∃ kvs : List (Key × V), ps = kvs.map (fun kv => (kV kv.1, kv.2)) ∧ kvs.length ≤ 15 ∧ Q (.ref p) (upd H2 p (.dK (mergeK [] kvs)))) : tDisp trs σ H Q := h
theorem r_pairC {v : V} {Q : List (V × V) → Hp → Prop} (h : te σ H fun y H2 => tPairs trs σ H2 fun ps H3 => Q ((v, y) :: ps) H3) : tPairs ((tC v, te) :: trs) σ H Q := h
theorem r_revL (h : te σ H fun x H1 => ∃ a xs, x = .ref a ∧ SqL K H1 a xs ∧ ∀ p, H1 p = none → Q (.ref p) (upd H1 p (.lst xs.reverse))) : tRevL K te σ H Q := h
theorem r_tup (h : tr σ H fun xs H1 => xs.length ≤ sizeLine ∧ ∀ p, H1 p = none → Q (.ref p) (upd H1 p (.tup xs))) : tTup tr σ H Q := h
theorem r_lst (h : tr σ H fun xs H1 => xs.length ≤ sizeLine ∧ ∀ p, H1 p = none → Q (.ref p) (upd H1 p (.lst xs))) : tLst tr σ H Q := h
theorem r_nil {Q : List V → Hp → Prop} (h : Q [] H) : tNil σ H Q := h
theorem r_call {sp : Sp} {dvs : List V} {E : XK} (h : tr σ H fun vs H1 => sp (vs ++ dvs) H1 Q E) : tCall sp dvs E tr σ H Q := h
theorem r_callN {sp : Sp} {g : List V → List V → List V} {E : XK} (h : tr σ H fun zs H2 => sp (g [] zs) H2 Q E) : tCallN sp g E tr σ H Q := h
theorem r_var {v : V} (e : σ[i]? = some (some v)) (h : Q v H) : tVar i σ H Q := ⟨v, e, h⟩
theorem r_c {v : V} (h : Q v H) : tC v σ H Q := h
theorem r_drop (h : te σ H fun _ H1 => D.nx σ H1) : tDrop te D σ H := h
theorem r_slice {r : V → Option Int → Option Int → Hp → VK → Prop} {tl th : TO} (h : te σ H fun x H1 => tl σ H1 fun l H2 => th σ H2 fun u H3 => r x l u H3 Q) : tSl r te tl th σ H Q := h
/-- a list of tuples of a kind, made on the way -/
def TupR (R : List V → Prop) (H : Hp) (y : V) : Prop := ∃ c us, y = .ref c ∧ H c = some (.tup us) ∧ R us
theorem TupR.up {R : List V → Prop} {H H' : Hp} {y : V} (e : Ex H H') (h : TupR R H y) : TupR R H' y := by
  obtain ⟨c, us, rfl, hc, r⟩ := h
  exact ⟨c, us, rfl, e _ _ hc, r⟩
theorem TupR.upd {R : List V → Prop} {H : Hp} {y : V} {D : Addr} {xs ys : List V} (hD : H D = some (.lst xs)) (h : TupR R H y) : TupR R (upd H D (.lst ys)) y := by
  obtain ⟨c, us, rfl, hc, r⟩ := h
  exact ⟨c, us, rfl, by rw [upd_ne (ne_of hc hD (by intro z; cases z))]; exact hc, r⟩
theorem lcU {J : It} {n : Nat} {G : Hp → Prop} {Y : Nat → Hp → V → Hp → Prop} {g : TG} {tt : TT} {te : TE} {vs : List Nat} {R : List V → Prop} (wk : Walk J n G Y) (f : Nat → Bool) (hz : n ≤ 40000)
    (hG : ∀ H1, Ex H H1 → G H1) (hY : ∀ i H1 x H2, Y i H1 x H2 → Ex H1 H2)
    (hs : ∀ i x H1 H2, i < n → Ex H H1 → Y i H1 x H2 → ∃ σ2, (∀ k : L2.St → Hp → Prop, k σ2 H2 → g x (wipe σ vs) H2 k) ∧ wipe σ2 vs = wipe σ vs ∧ EvT tt σ2 H2 (f i) ∧
      (f i = true → ∀ H3, Ex H2 H3 → ∀ Q3 : VK, (∀ c us H4, Ex H3 H4 → H4 c = some (.tup us) → R us → Q3 (.ref c) H4) → te σ2 H3 Q3))
    (q : ∀ p H2 ys, H p = none → Ex H H2 → H2 p = some (.lst ys) → ys.length = ((List.range n).filter f).length → (∀ y ∈ ys, TupR R H2 y) → Q (.ref p) H2) : tLc (fun _ H' R => R J H') g tt te vs σ H Q := by
  intro D hD
  refine lc_it wk (fun i H2 => Ex H H2 ∧ ∃ ys, H2 D = some (.lst ys) ∧ ys.length = ((List.range i).filter f).length ∧ ys.length ≤ i ∧ ∀ y ∈ ys, TupR R H2 y)
    ⟨Ex.new hD, [], upd_same, rfl, Nat.le_refl _, fun y hy => absurd hy (by simp)⟩ (fun i H2 _ p => hG H2 p.1) (fun i x H2 H3 hi p y => ?_) (fun H2 p => ?_)
  · have e3 := hY i H2 x H3 y
    obtain ⟨σ2, hk, hw, ht, he⟩ := hs i x H2 H3 hi p.1 y
    obtain ⟨p1, ys, hy, hl, hl2, hr⟩ := p
    refine hk _ ⟨hw, ht H3 (Ex.refl H3) _ fun H4 e4 => ?_⟩
    rw [List.range_succ, List.filter_append, List.length_append]
    cases hf : f i with
    | true =>
      show te σ2 H4 _
      refine he hf H4 e4 _ fun c us H5 e5 hc hR => ⟨ys, e5 _ _ (e4 _ _ (e3 _ _ hy)), sz_lt (by omega), Ex.mut (((p1.trans e3).trans e4).trans e5) hD, ys ++ [.ref c], upd_same, ?_, ?_, ?_⟩
      · rw [List.length_append, List.filter_cons, if_pos hf, hl]
        rfl
      · rw [List.length_append]
        show ys.length + 1 ≤ i + 1
        omega
      · intro y hy2
        have hD5 := e5 _ _ (e4 _ _ (e3 _ _ hy))
        refine TupR.upd hD5 ?_
        rcases List.mem_append.mp hy2 with h | h
        · exact TupR.up ((e3.trans e4).trans e5) (hr y h)
        · cases List.mem_singleton.mp h
          exact ⟨c, us, rfl, hc, hR⟩
    | false =>
      refine ⟨(p1.trans e3).trans e4, ys, e4 _ _ (e3 _ _ hy), ?_, by omega, fun y h => TupR.up (e3.trans e4) (hr y h)⟩
      rw [List.filter_cons, if_neg (by rw [hf]; exact Bool.false_ne_true), hl]
      rfl
  · obtain ⟨p1, ys, hy, hl, _, hr⟩ := p
    exact q D H2 ys hD p1 hy hl hr
end
section
variable {K : PySem.W.Frag} {σ : L2.St} {H : Hp} {Q : VK} {te : TE} {g : TG} {tt : TT} {vs : List Nat} {xs : List V} {ta : TA} {R : List V → Prop}
theorem u_lcE {a : Addr} (ha : H a = some (.tup xs)) (hl : EvA ta σ H [.ref a]) (f : Nat → Bool) (hz : xs.length ≤ 40000)
    (hs : ∀ (i : Nat) x T H2, Ex H H2 → xs[i]? = some x → H2 T = some (.tup [.int (i : Nat), x]) → ∃ σ2, (∀ k : L2.St → Hp → Prop, k σ2 H2 → g (.ref T) (wipe σ vs) H2 k) ∧ wipe σ2 vs = wipe σ vs ∧ EvT tt σ2 H2 (f i) ∧
      (f i = true → ∀ H3, Ex H2 H3 → ∀ Q3 : VK, (∀ c us H4, Ex H3 H4 → H4 c = some (.tup us) → R us → Q3 (.ref c) H4) → te σ2 H3 Q3))
    (q : ∀ p H2 ys, H p = none → Ex H H2 → H2 p = some (.lst ys) → ys.length = ((List.range xs.length).filter f).length → (∀ y ∈ ys, TupR R H2 y) → Q (.ref p) H2) : tLc (iEnumT K ta) g tt te vs σ H Q :=
  hl H (Ex.refl H) _ fun H1 e1 => ⟨a, xs, rfl, SqT.of (e1 _ _ ha), lcU (walk_enumT (K := K) (a := a) (xs := xs)) f hz (fun H2 e2 => SqT.of (e2 _ _ (e1 _ _ ha)))
    (fun i H1 x H2 y => by
      obtain ⟨T, _, _, rfl, nT, rfl, _, _⟩ := y
      exact Ex.new nT)
    (fun i x H2 H3 hi e2 y => by
      obtain ⟨T, _, x2, rfl, nT, rfl, h1, h2⟩ := y
      cases h1
      exact hs i x2 T _ ((e1.trans e2).trans (Ex.new nT)) h2 upd_same)
    fun p H2 ys np e2 hp => q p H2 ys (fresh_back e1 np) (e1.trans e2) hp⟩
theorem u_lcR {lo hi : Int} (ha : EvA ta σ H [.int lo, .int hi]) (hb : -(2 ^ 62) ≤ lo ∧ lo < 2 ^ 62 ∧ -(2 ^ 62) ≤ hi ∧ hi < 2 ^ 62) (f : Nat → Bool) (hz : (hi - lo).toNat ≤ 40000)
    (hs : ∀ (i : Nat) H2, Ex H H2 → i < (hi - lo).toNat → ∃ σ2, (∀ k : L2.St → Hp → Prop, k σ2 H2 → g (.int (lo + i)) (wipe σ vs) H2 k) ∧ wipe σ2 vs = wipe σ vs ∧ EvT tt σ2 H2 (f i) ∧
      (f i = true → ∀ H3, Ex H2 H3 → ∀ Q3 : VK, (∀ c us H4, Ex H3 H4 → H4 c = some (.tup us) → R us → Q3 (.ref c) H4) → te σ2 H3 Q3))
    (q : ∀ p H2 ys, H p = none → Ex H H2 → H2 p = some (.lst ys) → ys.length = ((List.range (hi - lo).toNat).filter f).length → (∀ y ∈ ys, TupR R H2 y) → Q (.ref p) H2) : tLc (iRng2 ta) g tt te vs σ H Q :=
  ha H (Ex.refl H) _ fun H1 e1 => ⟨lo, hi, rfl, hb, lcU (walk_range (lo := lo) (n := (hi - lo).toNat)) f hz (fun _ _ => trivial) (fun i H1 x H2 y => by rw [y.1]; exact Ex.refl _)
    (fun i x H2 H3 hi e2 y => by
      obtain ⟨rfl, rfl⟩ := y
      exact hs i _ (e1.trans e2) hi)
    fun p H2 ys np e2 hp => q p H2 ys (fresh_back e1 np) (e1.trans e2) hp⟩
end
/-- over enumerate of a tuple made on the way -/
theorem el_lcEN {K : PySem.W.Frag} {σ : L2.St} {H : Hp} {te : TE} {g : TG} {tt : TT} {vs : List Nat} {xs : List V} {ta : TA} (hl : ∀ H1, Ex H H1 → ∀ Q : List V → Hp → Prop, (∀ a H2, Ex H1 H2 → H2 a = some (.tup xs) → Q [.ref a] H2) → ta σ H1 Q) (f : Nat → Bool) (v : Nat → V) (hz : xs.length ≤ 40000)
    (hs : ∀ (i : Nat) x T H2, Ex H H2 → xs[i]? = some x → H2 T = some (.tup [.int (i : Nat), x]) → ∃ σ2, (∀ k : L2.St → Hp → Prop, k σ2 H2 → g (.ref T) (wipe σ vs) H2 k) ∧ wipe σ2 vs = wipe σ vs ∧ EvT tt σ2 H2 (f i) ∧ (f i = true → Ev te σ2 H2 (v i))) :
    EvL (tLc (iEnumT K ta) g tt te vs) σ H (given xs.length f v) := fun H0 e Q q =>
  hl H0 e _ fun a H1 e1 ha => ⟨a, xs, rfl, SqT.of ha, lcW (walk_enumT (K := K) (a := a) (xs := xs)) f v hz (fun H2 e2 => SqT.of (e2 _ _ ha))
    (fun i H1 x H2 y => by
      obtain ⟨T, _, _, rfl, nT, rfl, _, _⟩ := y
      exact Ex.new nT)
    (fun i x H2 H3 hi e2 y => by
      obtain ⟨T, _, x2, rfl, nT, rfl, h1, h2⟩ := y
      cases h1
      exact hs i x2 T _ (((e.trans e1).trans e2).trans (Ex.new nT)) h2 upd_same)
    fun p H2 np e2 hp => q p H2 (fresh_back e1 np) (e1.trans e2) hp⟩
theorem q_bl {Q : VK} {H : Hp} {b c : Bool} (e : b = c) (h : Q (.bl c) H) : Q (.bl b) H := by
  rw [e]
  exact h
theorem q_int {Q : VK} {H : Hp} {b c : Int} (e : b = c) (h : Q (.int c) H) : Q (.int b) H := by
  rw [e]
  exact h
end Hr

/-! Set comprehensions with two clauses: {elt for .. in .. for .. in ..}, by the rule of the set's add. -/
namespace Hr
open PySem PySem.Spec PyProof.Rows L2 PpSet
/-- {elt for t0 in i0 if .. for t1 in i1 if ..} -/
abbrev sc2 (elt t0 i0 t1 i1 : Expr) (ifs0 ifs1 : List Expr) (scope : Scope) (pos : Pos) : Expr := .SetComp elt [⟨t0, i0, ifs0, 0⟩, ⟨t1, i1, ifs1, 0⟩] scope pos
section
variable {prog : Program} {w : World} {A : Around} {R : Result → Shared → Prop} {s : Shared} {elt t0 i0 t1 i1 : Expr} {ifs0 ifs1 : List Expr} {scope : Scope} {pos : Pos} {it acc : Value} {env : Env}
theorem sturn_out : compTurn (sc2 elt t0 i0 t1 i1 ifs0 ifs1 scope pos) 0 it acc env = (do
      standAt i0.pos
      match ← pyNext it with
      | none => pure (.done .next)
      | some v =>
        letOwnedTupleGo t0 it v
        assign t0 env v
        let mut ok := true
        for c in ifs0 do
          if ok then ok ← isTrue c env (eval c env)
        if ok then
          let x ← eval i1 env
          standAt i1.pos
          let x ← foldedSetIterable i1 env x
          let _ ← runOwn (.compStart (sc2 elt t0 i0 t1 i1 ifs0 ifs1 scope pos) 1 (← holding [x] (pyIter x)) acc env) env
        again (.compLoop (sc2 elt t0 i0 t1 i1 ifs0 ifs1 scope pos) 0 it acc env)) := by rfl
theorem sturn_in : compTurn (sc2 elt t0 i0 t1 i1 ifs0 ifs1 scope pos) 1 it acc env = (do
      standAt i1.pos
      match ← pyNext it with
      | none => pure (.done .next)
      | some v =>
        letOwnedTupleGo t1 it v
        assign t1 env v
        let mut ok := true
        for c in ifs1 do
          if ok then ok ← isTrue c env (eval c env)
        if ok then
          (do let v ← eval elt env; standAt elt.pos; let _ ← call (.builtin "set.add") [acc, v])
        again (.compLoop (sc2 elt t0 i0 t1 i1 ifs0 ifs1 scope pos) 1 it acc env)) := by rfl
/-- tests of a clause -/
def tests (ifs : List Expr) (env : Env) : Sem Bool := forIn ifs true fun c r => if r = true then do let ok ← isTrue c env (eval c env); pure (ForInStep.yield ok) else pure (ForInStep.yield r)
theorem sloop_out (hs : ∀ x, foldedSetIterable i1 env x = pure x) (I : Nat → Shared → Prop)
    (turn : ∀ n s, I n s → wpAny (model prog w) A (pyNext it) (fun r s₁ => match r with
      | none => R (.ok .next) s₁
      | some v => wpAny (model prog w) A (letOwnedTupleGo t0 it v) (fun _ s₁' => wpAny (model prog w) A (assign t0 env v) (fun _ s₂ =>
          wpAny (model prog w) A (tests ifs0 env) (fun ok s₃ =>
            if ok = true then wpAny (model prog w) A (eval i1 env) (fun x s₄ => wpAny (model prog w) A (pyIter x) (fun it1 s₅ =>
              codeAny (model prog w) A (.compStart (sc2 elt t0 i0 t1 i1 ifs0 ifs1 scope pos) 1 it1 acc env) (fun r s' => match r with
                | .ok _ => ∃ m, m < n ∧ I m s'
                | .error _ => False) s₅) (notedBy (model prog w) A env fun e s' => R (.error e) s') s₄) (notedBy (model prog w) A env fun e s' => R (.error e) s') s₃
            else ∃ m, m < n ∧ I m s₃) (notedBy (model prog w) A env fun e s' => R (.error e) s') s₂) (notedBy (model prog w) A env fun e s' => R (.error e) s') s₁') (notedBy (model prog w) A env fun e s' => R (.error e) s') s₁) (notedBy (model prog w) A env fun e s' => R (.error e) s') s)
    (n : Nat) (h : I n s) : codeAny (model prog w) A (.compLoop (sc2 elt t0 i0 t1 i1 ifs0 ifs1 scope pos) 0 it acc env) R s := by
  refine codeAny_loop rfl I (fun n s hI => ?_) n h
  show wpAny _ A ((compTurn (sc2 elt t0 i0 t1 i1 ifs0 ifs1 scope pos) 0 it acc env).onRaise (fun x => do noteFrame x env; theTreesLotGoes x)) _ _ s
  refine wpAny_noted ?_
  rw [sturn_out]
  refine wpAny_bind (wpAny_standAt (wpAny_bind (wpAny_mono (turn n s hI) (fun r s₁ h₁ => ?_) fun _ _ h' => h')))
  cases r with
  | none => exact wpAny_pure h₁
  | some v =>
    refine wpAny_bind (wpAny_mono h₁ (fun _ s₁' h₁' => ?_) fun _ _ h' => h')
    refine wpAny_bind (wpAny_mono h₁' (fun _ s₂ h₂ => wpAny_bind (wpAny_mono h₂ (fun ok s₃ h₃ => ?_) fun _ _ h' => h')) fun _ _ h' => h')
    cases ok with
    | false => exact wpAny_pure ⟨rfl, h₃⟩
    | true =>
      refine wpAny_bind (wpAny_mono h₃ (fun x s₄ h₄ => ?_) fun _ _ h' => h')
      refine wpAny_bind (wpAny_standAt (wpAny_bind (wpAny_of_eq (hs x) (wpAny_bind (wpAny_holding (wpAny_mono h₄ (fun it1 s₅ h₅ => ?_) fun _ _ h' => h'))))))
      refine wpAny_bind (wpAny_runOwn ?_)
      rw [Around.mark_none]
      refine codeAny_mono h₅ fun r s' hr => ?_
      cases r with
      | ok f => first
          | exact wpAny_pure ⟨rfl, hr⟩
          | exact wpAny_bind (wpAny_pure (wpAny_pure ⟨rfl, hr⟩))
      | error e => exact hr.elim
theorem sloop_in (I : Nat → Shared → Prop)
    (turn : ∀ n s, I n s → wpAny (model prog w) A (pyNext it) (fun r s₁ => match r with
      | none => R (.ok .next) s₁
      | some v => wpAny (model prog w) A (letOwnedTupleGo t1 it v) (fun _ s₁' => wpAny (model prog w) A (assign t1 env v) (fun _ s₂ =>
          wpAny (model prog w) A (tests ifs1 env) (fun ok s₃ =>
            if ok = true then wpAny (model prog w) A (eval elt env) (fun x s₄ =>
              wpAny (model prog w) A (call (.builtin "set.add") [acc, x]) (fun _ s₅ => ∃ m, m < n ∧ I m s₅) (notedBy (model prog w) A env fun e s' => R (.error e) s') s₄) (notedBy (model prog w) A env fun e s' => R (.error e) s') s₃
            else ∃ m, m < n ∧ I m s₃) (notedBy (model prog w) A env fun e s' => R (.error e) s') s₂) (notedBy (model prog w) A env fun e s' => R (.error e) s') s₁') (notedBy (model prog w) A env fun e s' => R (.error e) s') s₁) (notedBy (model prog w) A env fun e s' => R (.error e) s') s)
    (n : Nat) (h : I n s) : codeAny (model prog w) A (.compLoop (sc2 elt t0 i0 t1 i1 ifs0 ifs1 scope pos) 1 it acc env) R s := by
  refine codeAny_loop rfl I (fun n s hI => ?_) n h
  show wpAny _ A ((compTurn (sc2 elt t0 i0 t1 i1 ifs0 ifs1 scope pos) 1 it acc env).onRaise (fun x => do noteFrame x env; theTreesLotGoes x)) _ _ s
  refine wpAny_noted ?_
  rw [sturn_in]
  refine wpAny_bind (wpAny_standAt (wpAny_bind (wpAny_mono (turn n s hI) (fun r s₁ h₁ => ?_) fun _ _ h' => h')))
  cases r with
  | none => exact wpAny_pure h₁
  | some v =>
    refine wpAny_bind (wpAny_mono h₁ (fun _ s₁' h₁' => ?_) fun _ _ h' => h')
    refine wpAny_bind (wpAny_mono h₁' (fun _ s₂ h₂ => wpAny_bind (wpAny_mono h₂ (fun ok s₃ h₃ => ?_) fun _ _ h' => h')) fun _ _ h' => h')
    cases ok with
    | false => exact wpAny_pure ⟨rfl, h₃⟩
    | true => exact wpAny_bind (wpAny_bind (wpAny_mono h₃ (fun x s₄ h₄ => wpAny_bind (wpAny_standAt (wpAny_bind (wpAny_mono h₄ (fun _ s₅ h₅ => wpAny_pure (wpAny_pure ⟨rfl, h₅⟩)) fun _ _ h' => h')))) fun _ _ h' => h'))
theorem sstart_in (h0 : codeAny (model prog w) A (.compLoop (sc2 elt t0 i0 t1 i1 ifs0 ifs1 scope pos) 1 it acc env) R s)
    (h : wpAny (model prog w) A (pyIter it) (fun it' s' => codeAny (model prog w) A (.compLoop (sc2 elt t0 i0 t1 i1 ifs0 ifs1 scope pos) 1 it' acc env) R s') (notedBy (model prog w) A env fun x s' => R (.error x) s') s) :
    codeAny (model prog w) A (.compStart (sc2 elt t0 i0 t1 i1 ifs0 ifs1 scope pos) 1 it acc env) R s := by
  refine codeAny_of_tree ?_
  show wpAny _ _ ((compStart (sc2 elt t0 i0 t1 i1 ifs0 ifs1 scope pos) 1 it acc env).onRaise (fun x => do noteFrame x env; standAt theWindowsPlace)) _ _ s
  refine wpAny_notedAt ?_
  unfold compStart
  show wpAny _ _ (ask >>= _) _ _ s
  refine wpAny_bind (wpAny_askSetting (wpAny_ite ?_))
  split
  · first
      | exact wpAny_bind (wpAny_pure (wpAny_pure (And.intro rfl h0)))
      | exact wpAny_pure (And.intro rfl h0)
  · first
      | exact wpAny_bind (wpAny_rule (wpAny_bind (wpAny_standAt (wpAny_bind (wpAny_mono h (fun it' s' h' => wpAny_pure (And.intro rfl h')) fun _ _ x => x)))))
      | (refine wpAny_bind (wpAny_rule ?_); show wpAny _ _ (standAt i1.pos >>= _) _ _ s; exact wpAny_bind (wpAny_standAt (wpAny_bind (wpAny_mono h (fun it' s' h' => wpAny_pure (And.intro rfl h')) fun _ _ x => x))))
end

section
variable {X : Cx}
/-- a set comprehension with two clauses: behind the first clause's store and tests the second source's own loop, from which Nx is reached; add: what adding a value asks and leaves -/
def tSc2 (new : Addr → HO) (add : Addr → V → Hp → (Hp → Prop) → Prop) (wi : TI) (g : TG) (tt : TT) (wi1 : TI) (g1 : TG) (tt1 : TT) (te : TE) (vs vs1 : List Nat) : TE := fun σ H Q => wi σ H fun J H1 => ∀ D, H1 D = none →
  ∃ W : Nat → Nat → Hp → Prop, (∃ m, W 0 m (upd H1 D (new D))) ∧ ∀ i m H, W i m H →
    (J.stop i H ∧ Q (.ref D) H) ∨ (J.go i H ∧ ∃ Nx : Hp → Prop, (∀ H', Nx H' → ∃ m', m' < m ∧ W (i + 1) m' H') ∧ ∀ x H', J.yld i H x H' → g x (wipe σ vs) H' fun σ2 H2 => wipe σ2 vs = wipe σ vs ∧ tt σ2 H2 fun b H3 =>
      if b = true then wi1 σ2 H3 fun J1 H4 => ∃ W1 : Nat → Nat → Hp → Prop, (∃ m, W1 0 m H4) ∧ ∀ j k H, W1 j k H →
        (J1.stop j H ∧ Nx H) ∨ (J1.go j H ∧ ∃ Nx1 : Hp → Prop, (∀ H', Nx1 H' → ∃ k', k' < k ∧ W1 (j + 1) k' H') ∧ ∀ x H', J1.yld j H x H' → g1 x (wipe σ2 vs1) H' fun σ3 H5 => wipe σ3 vs1 = wipe σ2 vs1 ∧ tt1 σ3 H5 fun b H6 =>
          if b = true then te σ3 H6 fun y H7 => add D y H7 Nx1 else Nx1 H6)
      else Nx H3)
theorem sc2_core {new : Addr → HO} {add : Addr → V → Hp → (Hp → Prop) → Prop} {pins : List (Addr × Obj)} {s : Shared} {σ : L2.St} {H : Hp} {Q : VK} {elt tg iter tg1 iter1 : Expr} {ifs ifs1 : List Expr} {scope : Scope} {own : List (PySem.Str × Nat)} {vs1 : List Nat} {pos pos' : Pos}
    {wi wi1 : TI} {g g1 : TG} {tt tt1 : TT} {te : TE} {use : Option (Value → Sem Unit)} {Qf : Value → Shared → Prop}
    (hnew : ∀ (H : Hp) (h : Heap), ObjOk X.prog X.w H (h.push { cls := .type "set", dict := none, data := .set #[] 0 (.fresh 0 0 (!X.w.params.followText "set-order")) }) h.objs.size (new h.objs.size))
    (hadd : ∀ (s : Shared) (H : Hp) (C : Addr) (cl : List (PySem.Str × Addr)) (fp : List Addr) (pins : List (Addr × Obj)) (σ : L2.St) (H' : Hp) (s' : Shared) (D : Addr) (y : V) (v : Value) (Nx : Hp → Prop) (Q E : Value → Shared → Prop),
      Inv (X.blk s H scope (compEnvC scope cl C X.env) fp) pins σ H' s' → RelV y v → add D y H' Nx → (∀ s2 H2, Inv (X.blk s H scope (compEnvC scope cl C X.env) fp) pins σ H2 s2 → Nx H2 → Q .none s2) → wpAny (model X.prog X.w) X.A (call (.builtin "set.add") [.ref D, v]) Q E s')
    (hc : X.calm = true) (hN : X.N.Nodup) (I : Inv X pins σ H s) (hi : PI X tg iter wi) (ok : BlkOk X.N X.env.scope scope own) (hv : ∀ i ∈ vs1, i ∈ own.map (·.2))
    (hg : ∀ (s : Shared) (H : Hp) (C : Addr) (cl : List (PySem.Str × Addr)) (fp : List Addr), PG (X.blk s H scope (compEnvC scope cl C X.env) fp) tg g)
    (ht : ∀ (s : Shared) (H : Hp) (C : Addr) (cl : List (PySem.Str × Addr)) (fp : List Addr), PTs (X.blk s H scope (compEnvC scope cl C X.env) fp) ifs tt)
    (he : ∀ (s : Shared) (H : Hp) (C : Addr) (cl : List (PySem.Str × Addr)) (fp : List Addr), PE (X.blk s H scope (compEnvC scope cl C X.env) fp) elt te)
    (hs : ∀ x, foldedSetIterable iter X.env x = pure x)
    (hi1 : ∀ (s : Shared) (H : Hp) (C : Addr) (cl : List (PySem.Str × Addr)) (fp : List Addr), PI (X.blk s H scope (compEnvC scope cl C X.env) fp) tg1 iter1 wi1)
    (hg1 : ∀ (s : Shared) (H : Hp) (C : Addr) (cl : List (PySem.Str × Addr)) (fp : List Addr), PG (X.blk s H scope (compEnvC scope cl C X.env) fp) tg1 g1)
    (ht1 : ∀ (s : Shared) (H : Hp) (C : Addr) (cl : List (PySem.Str × Addr)) (fp : List Addr), PTs (X.blk s H scope (compEnvC scope cl C X.env) fp) ifs1 tt1)
    (hs1 : ∀ env x, foldedSetIterable iter1 env x = pure x)
    (h : tSc2 new add wi g tt wi1 g1 tt1 te (own.map (·.2)) vs1 σ H Q)
    (hRR : ∀ D C s' m H', Inv X pins σ H' s' → Q (.ref D) H' → s'.heap.Ns C m → FpOk X pins H' C → compPost (model X.prog X.w) X.A X.xe use Qf (.ref D) C (.ok .next) s') :
    wpAny (model X.prog X.w) X.A (comprehension (sc2 elt tg iter tg1 iter1 ifs ifs1 scope pos) scope X.env pos' (newSet (.type "set")) false (eval iter X.env) use) Qf X.xe s := by
  have hfree : ∀ y ∈ scope.names, y.2 = .free → ∃ c, X.env.cells.lookup y.1 = some c := fun y hy e => by
    rcases ok.free y hy e with k | k
    · exact I.ok.has _ (.inl k)
    · exact I.ok.has _ (.inr k)
  refine wpAny_comprehension_free (use := use) rfl hs (closure_ok hfree) ok.kind (fun y hy e => by rw [ok.uniq y hy, e])
    (thn (hi.run pins s σ H _ I h) fun xv s1 hx => thn hx fun itv s2 h2 => ?_)
  obtain ⟨it, fp, tn, J, H2, e, I2, T, st2, f2, q⟩ := h2
  subst e
  refine newSet_ok (newEnv_comp ?_)
  have new2 := hnew (upd H2 s2.heap.objs.size (new s2.heap.objs.size)) s2.heap
  generalize hD : s2.heap.objs.size = D at new2
  have hDn : H2 D = none := I2.hok.fresh (Nat.le_of_eq hD)
  obtain ⟨W, ⟨m0, w0⟩, turn⟩ := q D hDn
  -- the new set
  generalize hs3 : ({ s2 with heap := s2.heap.push { cls := .type "set", dict := none, data := .set #[] 0 (.fresh 0 0 (!X.w.params.followText "set-order")) } } : Shared) = s3
  have I3 : Inv X pins σ (upd H2 D (new D)) s3 := by
    rw [← hs3]
    exact I2.laid (t' := s2.toks) (fun b o e => Heap.get?_push_of_some _ e) (Nat.le_of_eq hD) new2
  have h3 : s3.heap = s2.heap.push { cls := .type "set", dict := none, data := .set #[] 0 (.fresh 0 0 (!X.w.params.followText "set-order")) } := by rw [← hs3]
  have sz : ∀ b ∈ fp, b < s2.heap.objs.size := fun b hb => let ⟨_, e, _⟩ := T.obj _ _ st2 b hb; Heap.lt_size e
  have f3 : ∀ b ∈ fp, FpOk X pins (upd H2 D (new D)) b ∧ b < s3.heap.objs.size := fun b hb => by
    have hlt := sz b hb
    refine ⟨⟨?_, (f2 b hb).2⟩, by rw [h3, Heap.size_push]; exact Nat.lt_succ_of_lt hlt⟩
    rw [upd_ne (by rw [← hD]; exact Nat.ne_of_lt hlt)]
    exact (f2 b hb).1
  have st3 : tn 0 s3.heap := T.keep _ _ _ st2 fun b _ o e => by rw [h3]; exact Heap.get?_push_of_some _ e
  have I4 := block_start I3 ok hN f3
  generalize hcl : cellsFrom (s3.heap.objs.size + 1) scope.names (cloFrom X.env.cells scope.names []) = cl at I4
  have pg := hg s3 (upd H2 D (new D)) s3.heap.objs.size cl fp
  have pt := ht s3 (upd H2 D (new D)) s3.heap.objs.size cl fp
  have pe := he s3 (upd H2 D (new D)) s3.heap.objs.size cl fp
  have pi1 := hi1 s3 (upd H2 D (new D)) s3.heap.objs.size cl fp
  have pg1 := hg1 s3 (upd H2 D (new D)) s3.heap.objs.size cl fp
  have pt1 := ht1 s3 (upd H2 D (new D)) s3.heap.objs.size cl fp
  have pa := hadd s3 (upd H2 D (new D)) s3.heap.objs.size cl fp
  show codeAny _ _ (.compStart (sc2 elt tg iter tg1 iter1 ifs ifs1 scope pos) 0 (.ref it) (.ref D) (compEnvC scope cl s3.heap.objs.size X.env)) (compPost (model X.prog X.w) X.A X.xe use Qf (.ref D) s3.heap.objs.size) { s3 with heap := pushCells (s3.heap.push { cls := .type "dict", data := .dict #[] }) scope.names }
  have nfp : ∀ b ∈ fp, (upd H2 D (new D)) b = none := fun b hb => (f3 b hb).1.1
  generalize hce : compEnvC scope cl s3.heap.objs.size X.env = ce at I4 pg pt pe pi1 pg1 pt1 pa ⊢
  have cL : ce.locals = s3.heap.objs.size := by subst hce; rfl
  generalize hH3 : upd H2 D (new D) = H3 at I3 I4 pg pt pe pi1 pg1 pt1 pa w0 nfp f3
  generalize hs4 : ({ s3 with heap := pushCells (s3.heap.push { cls := .type "dict", data := .dict #[] }) scope.names } : Shared) = s4 at I4 ⊢
  have st4 : tn 0 s4.heap := T.keep _ _ _ st3 fun b _ o e => by rw [← hs4]; exact pushCells_keeps _ _ _ _ (Heap.get?_push_of_some _ e)
  have stat : ∀ {σ' : L2.St} {H' : Hp} {s' : Shared}, Inv (X.blk s3 H3 scope ce fp) [] σ' H' s' → (∀ b ∈ fp, H' b = none) → ∀ b ∈ fp, FpOk (X.blk s3 H3 scope ce fp) [] H' b := fun {σ' H' s'} I' hn b hb =>
    ⟨hn b hb, (I'.ok.exf b hb).1, I'.ok.exfs b hb, .inl hb, fun x c e => (I'.ok.exf b hb).2 x c e, fun p hp => absurd (show p ∈ ([] : List (Addr × Obj)) ++ [] from hp) (by simp)⟩
  have loop : codeAny (model X.prog X.w) X.A (.compLoop (sc2 elt tg iter tg1 iter1 ifs ifs1 scope pos) 0 (.ref it) (.ref D) ce) (compPost (model X.prog X.w) X.A X.xe use Qf (.ref D) s3.heap.objs.size) s4 := by
    refine sloop_out (hs1 ce) (fun n s' => ∃ i H', Inv (X.blk s3 H3 scope ce fp) [] (wipe σ (own.map (·.2))) H' s' ∧ tn i s'.heap ∧ (∀ b ∈ fp, H' b = none) ∧ W i n H') ?_ m0 ⟨0, H3, I4, st4, nfp, w0⟩
    rintro n s5 ⟨i, H5, I5, st5, n5, w5⟩
    rcases turn i n H5 w5 with ⟨stop, qq⟩ | ⟨go, Nx, hNx, step⟩
    · refine thnF (T.done (X.blk s3 H3 scope ce fp) rfl rfl rfl hc i [] s5 _ H5 (fun _ _ => False) I5 (stat I5 n5) st5 stop) fun r s6 ⟨hr, I6⟩ => ?_
      subst hr
      have I7 : Inv X pins σ H5 s6 := I3.call' (ch := fp) I6.os I6.base I6.hok I6.bare fun b hb => ⟨(f3 b hb).1.2.2.2.1, (f3 b hb).1.2.1, (f3 b hb).1.2.2.2.2.1, (f3 b hb).1.2.2.2.2.2⟩
      have nC : H5 s3.heap.objs.size = none := by
        have z : H5 ce.locals = none := I6.free
        rw [cL] at z
        exact z
      obtain ⟨m, hn, _⟩ := I6.loc
      have hn : s6.heap.Ns ce.locals m := hn
      rw [cL] at hn
      exact hRR D s3.heap.objs.size s6 m H5 I7 qq hn (I3.fpOk (Nat.le_refl _) nC)
    · refine thnF (T.item (X.blk s3 H3 scope ce fp) rfl rfl rfl hc i [] s5 _ H5 (fun _ _ => False) I5 (stat I5 n5) st5 go) fun r s6 ⟨u, hr, h6⟩ => ?_
      subst hr
      refine thnF h6 fun _ s7 ⟨x, H7, I7, r7, y7, st7, n7⟩ => ?_
      have I7' := I7.pinned (stat I7 n7) (T.obj _ _ st7)
      refine thnF (pg.run _ s7 _ H7 x u _ I7' r7 (step x H7 y7)) fun _ s8 ⟨σ8, H8, I8, hw8, q8⟩ => ?_
      refine thnF (pt.run _ s8 σ8 H8 _ I8 q8) fun b s9 ⟨H9, I9, q9⟩ => ?_
      -- the turn's end
      have fin : ∀ {σ9 : L2.St} {s' : Shared} {H' : Hp}, Inv (X.blk s3 H3 scope ce fp) ([] ++ pinsAt fp s7.heap) σ9 H' s' → (wipe σ (own.map (·.2))).length = σ9.length → (∀ (j : Nat) v, (wipe σ (own.map (·.2)))[j]? = some (some v) → σ9[j]? = some (some v)) → Nx H' →
          ∃ m, m < n ∧ ∃ i H', Inv (X.blk s3 H3 scope ce fp) [] (wipe σ (own.map (·.2))) H' s' ∧ tn i s'.heap ∧ (∀ b ∈ fp, H' b = none) ∧ W i m H' := fun {σ9 s' H'} I' hl hk nx => by
        obtain ⟨m', hm, w'⟩ := hNx H' nx
        have pin' : ∀ b ∈ fp, ∀ o, s7.heap.get? b = some o → s'.heap.get? b = some o ∧ H' b = none := fun b hb o e =>
          let z := I'.pin (b, o) (List.mem_append_right _ (List.mem_append_right _ (mem_pinsAt hb e)))
          ⟨z.1, z.2.1⟩
        refine ⟨m', hm, i + 1, H', (I'.unpinned (pins := [])).weak hl hk, T.keep _ _ _ st7 fun b hb o e => (pin' b hb o e).1, fun b hb => ?_, w'⟩
        obtain ⟨o, e, _⟩ := T.obj _ _ st7 b hb
        exact (pin' b hb o e).2
      have hl8 : (wipe σ (own.map (·.2))).length = σ8.length := by rw [← hw8, wipe_length]
      have hk8 : ∀ (j : Nat) v, (wipe σ (own.map (·.2)))[j]? = some (some v) → σ8[j]? = some (some v) := fun j v e => by
        rw [← hw8] at e
        exact (wipe_some e).1
      have hk9 : ∀ (j : Nat) v, (wipe σ (own.map (·.2)))[j]? = some (some v) → (wipe σ8 vs1)[j]? = some (some v) := fun j v e => by
        rw [← hw8] at e
        obtain ⟨e1, e2⟩ := wipe_some e
        rw [wipe_out fun z => e2 (hv j z)]
        exact e1
      cases b with
      | false =>
        simp only [Bool.false_eq_true, if_false] at q9 ⊢
        exact fin I9 hl8 hk8 q9
      | true =>
        simp only [if_true] at q9 ⊢
        refine thnF (pi1.run _ s9 σ8 H9 _ I9 q9) fun xv s10 hx => thnF hx fun itv s11 h11 => ?_
        obtain ⟨it1, fp1, tn1, J1, H11, e1, I11, T1, st11, f11, W1, ⟨m1, w1⟩, turn1⟩ := h11
        subst e1
        have stat1 : ∀ {H' : Hp}, (∀ b ∈ fp1, H' b = none) → ∀ b ∈ fp1, FpOk (X.blk s3 H3 scope ce fp) ([] ++ pinsAt fp s7.heap) H' b := fun hn b hb => ⟨hn b hb, (f11 b hb).2⟩
        have loop1 : codeAny (model X.prog X.w) X.A (.compLoop (sc2 elt tg iter tg1 iter1 ifs ifs1 scope pos) 1 (.ref it1) (.ref D) ce)
            (fun r s' => match r with
              | .ok _ => ∃ m, m < n ∧ ∃ i H', Inv (X.blk s3 H3 scope ce fp) [] (wipe σ (own.map (·.2))) H' s' ∧ tn i s'.heap ∧ (∀ b ∈ fp, H' b = none) ∧ W i m H'
              | .error _ => False) s11 := by
          refine sloop_in (fun k s' => ∃ j H', Inv (X.blk s3 H3 scope ce fp) ([] ++ pinsAt fp s7.heap) (wipe σ8 vs1) H' s' ∧ tn1 j s'.heap ∧ (∀ b ∈ fp1, H' b = none) ∧ W1 j k H') ?_ m1 ⟨0, H11, I11.weak (wipe_length _ _) (fun j v e => (wipe_some e).1), st11, fun b hb => (f11 b hb).1, w1⟩
          rintro k s12 ⟨j, H12, I12, st12, n12, w12⟩
          rcases turn1 j k H12 w12 with ⟨stop1, nx1⟩ | ⟨go1, Nx1, hNx1, step1⟩
          · refine thnF (T1.done (X.blk s3 H3 scope ce fp) rfl rfl rfl hc j _ s12 (wipe σ8 vs1) H12 (fun _ _ => False) I12 (stat1 n12) st12 stop1) fun r s13 ⟨hr, I13⟩ => ?_
            subst hr
            exact fin I13 (hl8.trans (wipe_length σ8 vs1).symm) hk9 nx1
          · refine thnF (T1.item (X.blk s3 H3 scope ce fp) rfl rfl rfl hc j _ s12 (wipe σ8 vs1) H12 (fun _ _ => False) I12 (stat1 n12) st12 go1) fun r s13 ⟨u1, hr, h13⟩ => ?_
            subst hr
            refine thnF h13 fun _ s14 ⟨x1, H14, I14, r14, y14, st14, n14⟩ => ?_
            have I14' := I14.pinned (stat1 n14) (T1.obj _ _ st14)
            refine thnF (pg1.run _ s14 (wipe σ8 vs1) H14 x1 u1 _ I14' r14 (step1 x1 H14 y14)) fun _ s15 ⟨σ15, H15, I15, hw15, q15⟩ => ?_
            refine thnF (pt1.run _ s15 σ15 H15 _ I15 q15) fun b1 s16 ⟨H16, I16, q16⟩ => ?_
            have fin1 : ∀ {s' : Shared} {H' : Hp}, Inv (X.blk s3 H3 scope ce fp) (([] ++ pinsAt fp s7.heap) ++ pinsAt fp1 s14.heap) σ15 H' s' → Nx1 H' → ∃ m, m < k ∧ ∃ j H', Inv (X.blk s3 H3 scope ce fp) ([] ++ pinsAt fp s7.heap) (wipe σ8 vs1) H' s' ∧ tn1 j s'.heap ∧ (∀ b ∈ fp1, H' b = none) ∧ W1 j m H' := fun {s' H'} I' nx => by
              obtain ⟨m', hm, w'⟩ := hNx1 H' nx
              have pin' : ∀ b ∈ fp1, ∀ o, s14.heap.get? b = some o → s'.heap.get? b = some o ∧ H' b = none := fun b hb o e =>
                let z := I'.pin (b, o) (List.mem_append_right _ (List.mem_append_right _ (mem_pinsAt hb e)))
                ⟨z.1, z.2.1⟩
              refine ⟨m', hm, j + 1, H', I'.unpinned.weak (by rw [← hw15, wipe_length]) (fun j v e => by rw [← hw15] at e; exact (wipe_some e).1), T1.keep _ _ _ st14 fun b hb o e => (pin' b hb o e).1, fun b hb => ?_, w'⟩
              obtain ⟨o, e, _⟩ := T1.obj _ _ st14 b hb
              exact (pin' b hb o e).2
            cases b1 with
            | false =>
              simp only [Bool.false_eq_true, if_false] at q16 ⊢
              exact fin1 I16 q16
            | true =>
              simp only [if_true] at q16 ⊢
              refine thnF (pe.run _ s16 σ15 H16 _ I16 q16) fun z s17 ⟨yv, H17, I17, r17, ad⟩ => ?_
              exact pa _ _ H17 s17 D yv z Nx1 _ _ I17 r17 ad fun s18 H18 I18 nx => fin1 I18 nx
        exact sstart_in loop1 (T1.self X.A 0 _ _ _ st11 loop1)
  exact codeAny_compStart_set loop (T.self X.A 0 _ _ _ st4 loop)
end
end Hr
namespace Hr
open PySem PySem.Spec PyProof.Rows L2 PpSet
section
variable {X : Cx}
/-- adding an int -/
def addI (w : World) (D : Addr) (y : V) (H : Hp) (Nx : Hp → Prop) : Prop := ∃ (k : Int) (S : Int → Bool) (n : Nat), y = .int k ∧ H D = some (SetO w D S n) ∧ n + 1 < scanBound ∧ Nx (upd H D (SetO w D (fun j => S j || decide (j = k)) (if S k = true then n else n + 1)))
theorem pe_sc2I {elt tg iter tg1 iter1 : Expr} {ifs ifs1 : List Expr} {scope : Scope} {own : List (PySem.Str × Nat)} {vs1 : List Nat} {pos : Pos} {wi wi1 : TI} {g g1 : TG} {tt tt1 : TT} {te : TE}
    (hc : X.calm = true) (hN : X.N.Nodup) (hi : PI X tg iter wi) (ok : BlkOk X.N X.env.scope scope own) (hv : ∀ i ∈ vs1, i ∈ own.map (·.2))
    (hg : ∀ (s : Shared) (H : Hp) (C : Addr) (cl : List (PySem.Str × Addr)) (fp : List Addr), PG (X.blk s H scope (compEnvC scope cl C X.env) fp) tg g)
    (ht : ∀ (s : Shared) (H : Hp) (C : Addr) (cl : List (PySem.Str × Addr)) (fp : List Addr), PTs (X.blk s H scope (compEnvC scope cl C X.env) fp) ifs tt)
    (hi1 : ∀ (s : Shared) (H : Hp) (C : Addr) (cl : List (PySem.Str × Addr)) (fp : List Addr), PI (X.blk s H scope (compEnvC scope cl C X.env) fp) tg1 iter1 wi1)
    (hg1 : ∀ (s : Shared) (H : Hp) (C : Addr) (cl : List (PySem.Str × Addr)) (fp : List Addr), PG (X.blk s H scope (compEnvC scope cl C X.env) fp) tg1 g1)
    (ht1 : ∀ (s : Shared) (H : Hp) (C : Addr) (cl : List (PySem.Str × Addr)) (fp : List Addr), PTs (X.blk s H scope (compEnvC scope cl C X.env) fp) ifs1 tt1)
    (he : ∀ (s : Shared) (H : Hp) (C : Addr) (cl : List (PySem.Str × Addr)) (fp : List Addr), PE (X.blk s H scope (compEnvC scope cl C X.env) fp) elt te)
    (hs : ∀ x, foldedSetIterable iter X.env x = pure x := by intro _; rfl) (hs1 : ∀ env x, foldedSetIterable iter1 env x = pure x := by intro _ _; rfl) :
    PE X (.SetComp elt [⟨tg, iter, ifs, 0⟩, ⟨tg1, iter1, ifs1, 0⟩] scope pos) (tSc2 (fun D => SetO X.w D (fun _ => false) 0) (addI X.w) wi g tt wi1 g1 tt1 te (own.map (·.2)) vs1) := by
  refine ⟨fun pins s σ H Q I h => ?_⟩
  rw [eval_SetComp]
  refine sc2_core (fun H h => setO_new (setR_fresh X.w)) (fun s1 H1 C cl fp pins1 σ1 H' s' D y v Nx Q1 E1 I1 r1 ad hq => ?_) hc hN I hi ok hv hg ht he hs hi1 hg1 ht1 hs1 h fun D C s' m H' I' q hn f => ⟨m, hn, fun h'' sb => ?_⟩
  · obtain ⟨k, S, n, rfl, ha, room, nx⟩ := ad
    obtain ⟨tk, rfl⟩ := r1
    have R := setO_get I1 ha
    refine setR_add R room fun h' sb new => ?_
    have he : ∃ u, h'.get? D = some u := by
      have ⟨o, _, _, _, ho, _⟩ := new
      exact ⟨o, ho⟩
    exact hq _ _ (I1.write (e := D) (t' := s'.toks + 1) (by rw [ha]; trivial) (.inl rfl) (fun b u hb hu => (sb.2 b hb).trans hu) he (setO_new new)) nx
  · obtain ⟨f0, f1, f2, f3, f4, f5⟩ := f
    exact ⟨.ref D, H', I'.turned (t' := s'.toks) (fun b o hb e => (sb.2 b hb).trans e) f0 f1 f3 f4 f5, rfl, q⟩
end
end Hr

/-! sorted of lists of tuples of ints, of any lengths but 0, any number of them. -/
namespace Hr
open PySem PySem.Spec PyProof.Rows L2
def sh0 : Nat → Bool := fun _ => false
def inls (ns : List Int) : List (Int ⊕ List Nat) := ns.map Sum.inl
theorem lex_inls : ∀ as bs : List Int, PyProof.Rows.lexLt itemOrd (inls as) (inls bs) = HT.lexLt as bs
  | [], [] => rfl
  | [], _ :: _ => rfl
  | _ :: _, [] => rfl
  | x :: xs, y :: ys => by
    have ih := lex_inls xs ys
    show PyProof.Rows.lexLt itemOrd (Sum.inl x :: inls xs) (Sum.inl y :: inls ys) = _
    rw [lex_cons, ih, HT.lexLt_cons]
    show (decide (x < y) || (!decide (y < x) && HT.lexLt xs ys)) = _
    by_cases e : x = y
    · rw [if_pos e, e, decide_eq_false (Int.lt_irrefl y)]
      rfl
    · rw [if_neg e]
      by_cases h : x < y
      · rw [decide_eq_true h]
        rfl
      · rw [decide_eq_false h, decide_eq_true (show y < x by omega)]
        rfl
theorem items_ints : ∀ (i : Nat) {us : List Value} {ns : List Int}, IntsAre us ns → tupItems sh0 i us = some (inls ns)
  | _, _, _, .nil => rfl
  | i, _, _, .cons n t r => by
    show (if sh0 i = true then none else (tupItems sh0 (i + 1) _).map (Sum.inl n :: ·)) = _
    rw [items_ints (i + 1) r]
    rfl
section
variable {h : Heap} {v : Value} {ns : List Int}
theorem key_of (x : TS.TupInts h v ns) : PyProof.Rows.G.tupKeyC h sh0 v = some (inls ns) := by
  obtain ⟨a, xs, rfl, ⟨o, ho, hc, n, hd⟩, i⟩ := x
  unfold PyProof.Rows.G.tupKeyC
  rw [if_pos (by simp only [PyProof.Rows.G.isTupObj, ho, hc]; decide)]
  simp only [tupKey, ho, hd]
  exact items_ints 0 i
theorem tup_of (x : TS.TupInts h v ns) (hn : ns ≠ []) : ∃ f, TupOf h sh0 v f := by
  obtain ⟨a, xs, rfl, ⟨o, ho, hc, n, hd⟩, i⟩ := x
  obtain ⟨l⟩ := xs
  cases i with
  | nil => exact absurd rfl hn
  | cons k t r => exact ⟨_, a, o, _, n, rfl, ho, hc, hd, rfl, fun _ => ⟨k, t, rfl⟩, fun z => nomatch z⟩
theorem tups_of : ∀ {vs : List Value}, (∀ v ∈ vs, ∃ ns, TS.TupInts h v ns ∧ ns ≠ []) → ∃ fs, TupsOf h sh0 vs fs
  | [], _ => ⟨[], .nil⟩
  | v :: vs, hx => by
    obtain ⟨ns, x, hn⟩ := hx v List.mem_cons_self
    obtain ⟨f, t⟩ := tup_of x hn
    obtain ⟨fs, r⟩ := tups_of fun u hu => hx u (List.mem_cons_of_mem _ hu)
    exact ⟨f :: fs, .cons t r⟩
end
section
variable {X : Cx} {pins : List (Addr × Obj)} {σ : L2.St} {H : Hp} {s : Shared}
/-- sorted(xs), xs a list of tuples of ints, none of them empty: a new list of the same, ascending -/
def rSortV (K : PySem.W.Frag) : List V → Hp → VK → Prop := fun vs H Q => ∃ (a : Addr) (xs : List V), vs = [V.ref a] ∧ SqL K H a xs ∧ (∀ x ∈ xs, ∃ ns, TupI K H x ns ∧ ns ≠ []) ∧
  ∀ (ys : List V) (p : Addr), ys.Perm xs → ys.Pairwise (fun x y => ∀ n m, TupI K H x n → TupI K H y m → HT.lexLt m n = false) → H p = none → Q (.ref p) (upd H p (.lst ys))
theorem cr_sortV : CallR X (.builtin "sorted") (rSortV X.K) := by
  intro pins s σ H vs us Q I r h
  obtain ⟨a, xs, rfl, hs, hx, q⟩ := h
  obtain ⟨its, rv, hl, hz⟩ := I.list hs
  rw [Vals.ref1 r]
  obtain ⟨e1, e2⟩ := bkV_refs rv fun x m => by
    obtain ⟨ns, ⟨t, e, _⟩, _⟩ := hx x m
    exact ⟨t, e⟩
  have hv : ∀ v ∈ its, ∃ ns, TS.TupInts s.heap v ns ∧ ns ≠ [] := fun v hv => by
    obtain ⟨t, rfl⟩ := e2 v hv
    have hm : V.ref t ∈ xs := by
      rw [e1]
      exact List.mem_map.mpr ⟨_, hv, rfl⟩
    obtain ⟨ns, ⟨t', e, ht⟩, hn⟩ := hx _ hm
    cases e
    exact ⟨ns, tupI_raw I ht, hn⟩
  obtain ⟨fs, tf⟩ := tups_of hv
  refine PyProof.Rows.G.sorted_tups (shape := sh0) hl.isList tf (fun v m => let ⟨ns, x, _⟩ := hv v m; ⟨_, key_of x⟩) (by rw [← rv.length]; exact hz) fun st' hp hsort hst => ?_
  have hpl := hp.toList
  rw [pairsOf_toList] at hpl
  have same : ∀ p ∈ (arrOf st').toList, p.1 = p.2 := fun p m => (mem_zip_self (hpl.mem_iff.mp m)).1
  have hperm : ((arrOf st').map (·.2)).toList.Perm its := by
    rw [Array.toList_map]
    have z := hpl.map Prod.snd
    rw [List.map_snd_zip (Nat.le_refl _)] at z
    exact z
  obtain ⟨ep, he'⟩ := PyProof.Rows.sortedAll_at s.heap its ((arrOf st').map (·.2))
  have h3 : ∀ u ∈ ((arrOf st').map (·.2)).toList, ∃ a, u = Value.ref a := fun u hu => e2 u (hperm.mem_iff.mp hu)
  have hpv : (((arrOf st').map (·.2)).toList.map bkV).Perm xs := by
    rw [e1]
    exact hperm.map bkV
  have hlen : (((arrOf st').map (·.2)).toList.map bkV).length ≤ sizeLine := by
    rw [hpv.length_eq]
    exact hz
  refine ⟨.ref _, upd H (s.heap.objs.size + 1) (.lst (((arrOf st').map (·.2)).toList.map bkV)), I.laid (t' := s.toks) (fun _ _ => PyProof.Rows.sortedAll_old) (Nat.le_succ _) ⟨hlen, _, ep, bkV_vals h3, he'⟩, rfl, q _ _ hpv ?_ (I.hok.fresh (Nat.le_succ _))⟩
  rw [Array.toList_map, List.map_map, List.pairwise_map, List.pairwise_iff_getElem]
  intro i j hi hj hij n m hn hm
  have key : ∀ (i : Nat) (hi : i < (arrOf st').toList.length) (n : List Int), TupI X.K H ((bkV ∘ fun x => x.2) (arrOf st').toList[i]) n → KK (PyProof.Rows.G.tupKindC s.heap sh0) (arrOf st') i = inls n := fun i hi n hn => by
    obtain ⟨t, et, ht⟩ := hn
    have eu : (arrOf st').toList[i].2 = .ref t := bkV_ref et
    have em := same _ (List.getElem_mem hi)
    have ea : (arrOf st')[i]? = some (arrOf st').toList[i] := by
      rw [← Array.getElem?_toList]
      exact List.getElem?_eq_getElem hi
    unfold KK
    rw [ea]
    show (PyProof.Rows.G.tupKeyC s.heap sh0 (arrOf st').toList[i].1).getD _ = _
    rw [em, eu, key_of (tupI_raw I ht)]
    rfl
  have hs2 := hsort i j (Nat.le_of_lt hij) (by rw [← hp.size_eq, ← Array.length_toList]; exact hj)
  rw [key i hi n hn, key j hj m hm] at hs2
  rw [← lex_inls]
  exact hs2
end
end Hr

/-! Any value, as far as a test of sets and families looks at it. -/
namespace Hr
open PySem PySem.Spec PyProof.Rows L2 Evl
inductive TD where
  | int (n : Int)
  | bl (b : Bool)
  | tup (ds : List TD)
  | oth
def TD.isInt : TD → Bool | .int _ => true | .bl _ => true | _ => false
def TD.isBl : TD → Bool | .bl _ => true | _ => false
def TD.isTup : TD → Bool | .tup _ => true | _ => false
mutual
inductive Th (H : Hp) : V → TD → Prop
  | non : Th H .non .oth
  | bl (b : Bool) : Th H (.bl b) (.bl b)
  | int (i : Int) : Th H (.int i) (.int i)
  | str (x : Str) : Th H (.str x) .oth
  | lst {a : Addr} {xs : List V} : H a = some (.lst xs) → Th H (.ref a) .oth
  | dK {a : Addr} {kvs : List (Key × V)} : H a = some (.dK kvs) → Th H (.ref a) .oth
  | tup {a : Addr} {xs : List V} {ds : List TD} : H a = some (.tup xs) → ThAll H xs ds → Th H (.ref a) (.tup ds)
inductive ThAll (H : Hp) : List V → List TD → Prop
  | nil : ThAll H [] []
  | cons {v : V} {vs : List V} {d : TD} {ds : List TD} : Th H v d → ThAll H vs ds → ThAll H (v :: vs) (d :: ds)
end
section
variable {H H' : Hp}
mutual
theorem Th.more (e : Ex H H') : ∀ {v : V} {d : TD}, Th H v d → Th H' v d
  | _, _, .non => .non
  | _, _, .bl b => .bl b
  | _, _, .int i => .int i
  | _, _, .str x => .str x
  | _, _, .lst h => .lst (e _ _ h)
  | _, _, .dK h => .dK (e _ _ h)
  | _, _, .tup h t => .tup (e _ _ h) (ThAll.more e t)
theorem ThAll.more (e : Ex H H') : ∀ {vs : List V} {ds : List TD}, ThAll H vs ds → ThAll H' vs ds
  | _, _, .nil => .nil
  | _, _, .cons h t => .cons (Th.more e h) (ThAll.more e t)
end
theorem ThAll.len : ∀ {vs : List V} {ds : List TD}, ThAll H vs ds → vs.length = ds.length
  | _, _, .nil => rfl
  | _, _, .cons _ t => by rw [List.length_cons, List.length_cons, t.len]
theorem ThAll.at : ∀ {vs : List V} {ds : List TD}, ThAll H vs ds → ∀ {i : Nat} {v : V}, vs[i]? = some v → ∃ d, ds[i]? = some d ∧ Th H v d
  | _, _, .nil, i, v, h => by simp at h
  | _, _, .cons (d := d) hd t, 0, v, h => by
    cases h
    exact ⟨d, rfl, hd⟩
  | _, _, .cons hd t, i + 1, v, h => ThAll.at t (by simpa using h)
theorem ThAll.ints : ∀ ns : List Int, ThAll H (ns.map V.int) (ns.map TD.int)
  | [] => .nil
  | n :: ns => .cons (.int n) (ThAll.ints ns)
theorem Th.kit {K : PySem.W.Frag} {v : V} {d : TD} (h : Th H v d) : ∃ nm : String, TyX K H v (.type nm) ∧ kitB nm "int" = some d.isInt ∧ kitB nm "bool" = some d.isBl ∧ kitB nm "tuple" = some d.isTup := by
  cases h with
  | non => exact ⟨"NoneType", .base .non, by decide +kernel, by decide +kernel, by decide +kernel⟩
  | bl b => exact ⟨"bool", .base (.bl b), by show kitB _ _ = some true; decide +kernel, by show kitB _ _ = some true; decide +kernel, by show kitB _ _ = some false; decide +kernel⟩
  | int i => exact ⟨"int", .base (.int i), by show kitB _ _ = some true; decide +kernel, by show kitB _ _ = some false; decide +kernel, by show kitB _ _ = some false; decide +kernel⟩
  | str x => exact ⟨"str", .base (.str x), by decide +kernel, by decide +kernel, by decide +kernel⟩
  | lst h => exact ⟨"list", .base (.lst h), by decide +kernel, by decide +kernel, by decide +kernel⟩
  | dK h => exact ⟨"dict", .base (.dK h), by decide +kernel, by decide +kernel, by decide +kernel⟩
  | tup h t => exact ⟨"tuple", .base (.tup h), by show kitB _ _ = some false; decide +kernel, by show kitB _ _ = some false; decide +kernel, by show kitB _ _ = some true; decide +kernel⟩
end
/-- for x in xs, xs a tuple or a list -/
def iAny (K : PySem.W.Frag) (tl : TE) : TI := fun σ H R => iTup K tl σ H R ∨ iList K tl σ H R
theorem pi_any {X : Cx} {tg l : Expr} {tl : TE} (h : PE X l tl) : PI X tg l (iAny X.K tl) :=
  ⟨fun pins s σ H R I q => q.elim (fun q => (pi_tup (tg := tg) h).run pins s σ H R I q) (fun q => (pi_list (tg := tg) h).run pins s σ H R I q)⟩
/-- the truth of a value -/
def tTru (K : PySem.W.Frag) (te : TE) : TT := fun σ H Q => te σ H fun x H' => ∃ k, TruV K x H' k ∧ Q k H'
theorem pt_tru {X : Cx} {K : PySem.W.Frag} {a : Expr} {ta : TE} (h : PE X a ta) (hw : ∀ whole : Sem Value, isTrue a X.env whole = (do let v ← whole; standAt a.pos; holding [v] (truthy v)) := by intro _; rfl) (hK : X.K = K := by rfl) : PT X a (tTru K ta) := by
  subst hK
  exact pt_truth h hw
/-! ### what the tests answer -/
def intB (l : Int) : TD → Bool
  | .int n => decide (l ≤ n)
  | _ => false
def intsB (l : Int) : TD → Bool
  | .tup ds => ds.all (intB l)
  | _ => false
def TD.val : TD → Int
  | .int n => n
  | _ => 0
def TD.items : TD → List TD
  | .tup ds => ds
  | _ => []
def TD.vals (d : TD) : List Int := d.items.map TD.val
def risB (ns : List Int) : Bool := (List.range (ns.length - 1)).all fun k => decide (ns.getD k 0 < ns.getD (k + 1) 0)
def setB (d : TD) : Bool := intsB 0 d && risB d.vals
theorem ints_vals {l : Int} {d : TD} (h : intsB l d = true) : d = .tup (d.vals.map .int) ∧ ∀ n ∈ d.vals, l ≤ n := by
  cases d with
  | tup ds =>
    have key : ∀ ds : List TD, ds.all (intB l) = true → ds = (ds.map TD.val).map .int ∧ ∀ n ∈ ds.map TD.val, l ≤ n := by
      intro ds
      induction ds with
      | nil => exact fun _ => ⟨rfl, fun n hn => by simp at hn⟩
      | cons d ds ih =>
        intro h
        rw [List.all_cons, Bool.and_eq_true] at h
        obtain ⟨h1, h2⟩ := ih h.2
        cases d with
        | int n =>
          refine ⟨?_, fun m hm => ?_⟩
          · rw [List.map_cons, List.map_cons, ← h1]
            rfl
          · rw [List.map_cons] at hm
            rcases List.mem_cons.mp hm with rfl | hm
            · exact of_decide_eq_true h.1
            · exact h2 m hm
        | _ => exact absurd h.1 Bool.false_ne_true
    obtain ⟨h1, h2⟩ := key ds h
    exact ⟨congrArg TD.tup h1, h2⟩
  | _ => exact absurd h Bool.false_ne_true
theorem bools (n : Nat) (f : Nat → Bool) : (List.range n).map (fun i => V.bl (f i)) = ((List.range n).map f).map V.bl := by rw [List.map_map]; rfl
theorem all_get {α : Type} (f : α → Bool) : ∀ (xs : List α) (g : Nat → Bool), (∀ i x, xs[i]? = some x → g i = f x) → ((List.range xs.length).map g).all id = xs.all f
  | [], _, _ => rfl
  | x :: xs, g, h => by
    rw [List.length_cons, List.range_succ_eq_map, List.map_cons, List.map_map, List.all_cons, List.all_cons, all_get f xs (g ∘ Nat.succ) fun i y hy => h (i + 1) y (by simpa using hy)]
    rw [show id (g 0) = f x from h 0 x rfl]
end Hr

/-! Own classes below Exception, at any depth: a field is stored in a fresh one. -/
namespace Hr
open PySem PySem.W PySem.Calls PyProof.Rows PySem.HandSPX
abbrev exT : List Value := [.type "Exception", .type "BaseException", .type "object"]
/-- own classes, then Exception's order -/
def refsEx : List Value → Bool
  | .ref _ :: r => refsEx r
  | l => l == exT
theorem refsEx_split : ∀ l : List Value, refsEx l = true → ∃ cs : List Addr, l = cs.map Value.ref ++ exT
  | [], h => absurd h (by decide)
  | .ref c :: r, h => by
    obtain ⟨cs, e⟩ := refsEx_split r h
    exact ⟨c :: cs, by rw [e]; rfl⟩
  | .none :: r, h => ⟨[], beq_iff_eq.mp h⟩
  | .ellipsis :: r, h => ⟨[], beq_iff_eq.mp h⟩
  | .notImplemented :: r, h => ⟨[], beq_iff_eq.mp h⟩
  | .bool _ :: r, h => ⟨[], beq_iff_eq.mp h⟩
  | .int _ _ :: r, h => ⟨[], beq_iff_eq.mp h⟩
  | .float _ _ :: r, h => ⟨[], beq_iff_eq.mp h⟩
  | .str _ _ :: r, h => ⟨[], beq_iff_eq.mp h⟩
  | .bytes _ _ :: r, h => ⟨[], beq_iff_eq.mp h⟩
  | .type _ :: r, h => ⟨[], beq_iff_eq.mp h⟩
  | .builtin _ :: r, h => ⟨[], beq_iff_eq.mp h⟩
theorem refsEx_pass (self : Value) (l : List Value) (h : refsEx l = true) : refuseLoop self "__setattr__" l = pure () := by
  obtain ⟨cs, rfl⟩ := refsEx_split l h
  clear h
  induction cs with
  | nil => exact F.store_Exception.passes self
  | cons c cs ih =>
    show refuseLoop self "__setattr__" (Value.ref c :: (cs.map Value.ref ++ exT)) = pure ()
    rw [refuseLoop_ref]
    exact ih
theorem refsEx_has (X : String) (l : List Value) (h : refsEx l = true) : l.contains (.type X) = exT.contains (.type X) := by
  obtain ⟨cs, rfl⟩ := refsEx_split l h
  clear h
  induction cs with
  | nil => rfl
  | cons c cs ih =>
    show (Value.ref c :: (cs.map Value.ref ++ exT)).contains (.type X) = _
    rw [List.contains_cons, ih]
    rfl
theorem refsEx_ne {l : List Value} (h : refsEx l = true) : l.isEmpty = false := by
  cases l with
  | nil => exact absurd h (by decide)
  | cons _ _ => rfl
end Hr
namespace Hr
open PySem PySem.Spec PyProof.Rows L2
/-- a comprehension within a comprehension: its block, by the names of the outer one -/
theorem blkOk_nest {N : List Str} {sc scope : Scope} {own : List (Str × Nat)} (h : blkC N sc scope own = true) : BlkOk N sc scope own := blkOk_by h
theorem passOn {X : Cx} {E : XK} (tk : Takes X fun cls d _ H => E cls d H) : Passes (L2.CX X.prog X.w) X E := passes_call tk fun _ _ _ _ h => h
/-- tuple(xs), by its own K -/
def rTupO (K : PySem.W.Frag) : List V → Hp → VK → Prop := fun xs H Q => ∃ p ys, xs = [V.ref p] ∧ ((SqL K H p ys ∧ ∀ l, H l = none → Q (.ref l) (upd H l (.tup ys))) ∨ SqT K H p ys ∧ Q (.ref p) H)
theorem call_tupO {X : Cx} {K : PySem.W.Frag} (hK : X.K = K := by rfl) : CallR X (.type "tuple") (rTupO K) := by
  subst hK
  exact call_tuple_of
end Hr

namespace HrE_thing
open PySem PySem.W PySem.Calls PyProof.Rows PySem.HandSPX Hr
section
variable {prog : Program} {w : World} {A : Around} {R : Result → Shared → Prop} {hp : Heap} {g : Array GenState} {d : Drawn} {t : Nat} {os : OsState}
open Builtin Builtin.ObjectAttr
theorem ex_osa {K : W.Frag} {name : Str} {tk : Tok} {v : Value} {x C : Addr} {fv : Array Value} {cd : ClassData}
    (X : K.In hp) (hx : hp.get? x = some { cls := .ref C, data := .fields fv }) (hcd : W.clsIn K C = some cd) (hm : refsEx cd.mro = true) (hh : cd.hasDict = true) (ha : W.findIn K (.ref C) name = some none)
    (hq : ∀ h' tk' dx, (∀ b o, b ≠ x → hp.get? b = some o → h'.get? b = some o) → hp.objs.size ≤ dx → dx ≠ x → h'.get? x = some { cls := .ref C, dict := some dx, data := .fields fv } →
      h'.Ns1 dx (fun y => if y = name then some v else none) → R (.ok (.ret .none)) ⟨h', g, d, tk', os⟩) :
    codeAny (model prog w) A (.call (.builtin "object.__setattr__") ⟨[.ref x, .str name tk, v], []⟩) R ⟨hp, g, d, t, os⟩ := by
  have I : W.InstAt hp x { cls := .ref C, data := .fields fv } C none := ⟨hx, rfl, rfl, trivial⟩
  have SF := F.store_object
  have ne := refsEx_ne hm
  have hob : cd.mro.contains (.type "object") = true := (refsEx_has "object" _ hm).trans (by decide +kernel)
  have hxs : x ≠ hp.objs.size := Nat.ne_of_lt (Heap.lt_size hx)
  have sub : W.Looks (model prog w) hp (isInstance (.ref x) (.type "object")) true := I.type.andThen (W.looks_mroIn X (by unfold W.mroIn; rw [hcd, Option.bind_some, if_neg (by rw [ne]; decide), hob]))
  refine codeAny_call_builtin SF.slot.plain SF.entry (@W.check_slot (model prog w) _ _ ⟨hp, g, d, t, os⟩ "object.__setattr__" "object" "__setattr__" (.ref x) [.str name tk, v] [] _ SF.kind SF.split sub (SF.args (.ref x) (.str name tk) v) ?_)
  have hmr : W.Looks (model prog w) hp (mroOf (.ref C)) cd.mro := (W.looks_clsIn X hcd).andThen .now
  have L3 : W.Looks (model prog w) hp (storeTaker? none) none := .now
  have hcls : W.Looks (model prog w) hp (classData C) cd := W.looks_clsIn X hcd
  rw [W.osa_eq, refuse_eq]
  refine wpAny_bind (wpAny_bind (I.type.at (wpAny_bind (hmr.at ?_))))
  rw [refsEx_pass _ _ hm]
  refine wpAny_pure (wpAny_bind (I.type.at (wpAny_bind ((W.looks_findIn X ha).at (wpAny_bind (L3.at ?_))))))
  show wpAny _ _ (storeInOwnDict (.ref x) (.ref C) (.str name tk) name v false) _ _ _
  obtain ⟨nm, bs, mro, ns, qn, hd, sn, sb, ab, col, del⟩ := cd
  dsimp only at hh
  subst hh
  unfold storeInOwnDict ownDictForStores
  repeat (first | with_reducible refine store_in_new ?_ ?_ | with_reducible refine wpAny_loadPart_at hx ?_ | with_reducible refine hcls.at ?_ | wp_step)
  · exact ⟨_, #[], _, (Heap.get?_update_ne _ _ _ _ hxs.symm).trans (Heap.get?_push_at rfl rfl), rfl, fun e he => absurd he (by simp), fun _ => rfl⟩
  · intro h' tk' hn' hs
    have hx₁ : (hp.push { cls := .type "dict", data := .dict #[] }).get? x = some { cls := .ref C, data := .fields fv } := Heap.get?_push_of_some _ hx
    refine hq h' tk' hp.objs.size (fun b o hb ho => ?_) (Nat.le_refl _) hxs.symm ?_ hn'
    · exact (hs.2 b (Nat.ne_of_lt (Heap.lt_size ho))).trans ((Heap.get?_update_ne _ _ _ _ hb).trans (Heap.get?_push_of_some _ ho))
    · exact (hs.2 x hxs).trans (Heap.get?_update_self _ hx₁ rfl)
end
/-! ### the text of __init__ -/
def iA (p1 p2 : Pos) : Arguments := { posonlyargs := [], args := [{ arg := "self", annotation := none, pos := p1 }, { arg := "thing", annotation := none, pos := p2 }], vararg := none, kwonlyargs := [], kw_defaults := [], kwarg := none, defaults := [] }
def iB (q1 q2 q3 q4 : Pos) : List Stmt := [.Assign [.Attribute (.Name "self" q1) "thing" q2] (.Name "thing" q3) q4]
def iS : Scope := { kind := .function, names := [(PySem.Str.ofString "self", .local), (PySem.Str.ofString "thing", .local)], isGenerator := false, isCoroutine := false, more := [] }
/-- what the written part says of Low, at C, and of its __init__, at fI -/
structure ExTxt (K : Frag) (mg : Str → Option Value) (cn : Str) (C fI : Addr) : Prop where
  gC : mg cn = some (.ref C)
  cls : ∃ nm q N bs bm sn sub ab col dd k0 k1 k2 k3 k5, K.lookup C = some (excClassObj nm q C N bs bm true sn sub ab col dd k0 k1 k2 k3 k5 "Exception.__new__") ∧ refsEx bm = true
  sa : findIn K (.ref C) "__setattr__" = some (some (.builtin "object.__setattr__"))
  ga : findIn K (.ref C) "__getattribute__" = some (some (.builtin "BaseException.__getattribute__"))
  gg : findIn K (.ref C) "__getattr__" = some none
  noN : findIn K (.ref C) "thing" = some none
  iC : findIn K (.ref C) "__init__" = some (some (.ref fI))
  tC : typeIn K (.ref fI) = some (.type "function")
  kC : keepIn K (.ref C) = true
  exC : subIn K (.ref C) (.type "BaseException") = some true
  tyC : typeIn K (.ref C) = some (.type "type")
  hdC : hasDictIn K C = true
  te : exmOne K (.ref C) (.ref C) = some true
  fn : ∃ (oc : Value) (od : Option Addr) (doc pm : Value) (an : Option Addr) (cdv ct : Value) (osl : Array (Option Value)) (p1 p2 q1 q2 q3 q4 : Pos) (qn : Str),
    K.lookup fI = some ⟨oc, od, .func (fnOf "__init__" qn (iA p1 p2) (iB q1 q2 q3 q4) iS .none .none doc pm an cdv ct), osl⟩ ∧ codeIn K cdv qn = true
theorem one_size (v : Value) : [v].length ≤ sizeLine := by
  rw [sizeLine_eq]
  exact (by decide : 1 ≤ 16777216)
theorem kept_but {K : Frag} {h h' : Heap} {x : Addr} (X : K.In h) (hx : K.lookup x = none) (k : ∀ b o, b ≠ x → h.get? b = some o → h'.get? b = some o) : K.In h' := fun a o e =>
  k a o (fun z => by rw [z, hx] at e; cases e) (X a o e)
theorem ldC {M : Model} {s : Shared} {name : Str} {scope : Scope} {L a : Addr} {cd : Value} {m : Str → Option Value} {x : Str} {pos : Pos} {v : Value} {Q : Value → Shared → Prop} {A : Around} {E : Value → Shared → Prop} (hn : s.heap.Ns L m) (hv : m x = some v) (h : Q v s)
    (hk : scope.kind = .function := by rfl) (hl : (envOfC name scope L a cd).kindOf x = some .local := by rfl) (hd : (x == ("__debug__" : Str)) = false := by decide) :
    wpAny M A (eval (.Name x pos) (envOfC name scope L a cd)) Q E s := wpAny_Name (wpAny_loadName_local hk hl hn hv h) hd
/-- what __init__ leaves of a fresh exception at x -/
structure InitEnd (h h' : Heap) (x C dx t1 : Addr) (v : Value) : Prop where
  keep : ∀ b o, b ≠ x → h.get? b = some o → h'.get? b = some o
  obj : h'.get? x = some { cls := .ref C, dict := some dx, data := .fields #[.ref t1, .none, .none, .none, .bool false, .none] }
  dbig : h.objs.size ≤ dx
  dne : dx ≠ x
  ns : h'.Ns1 dx (fun y => if y = "thing" then some v else none)
/-- a made Low -/
structure OwnMade (h h' : Heap) (e C d : Addr) (v : Value) : Prop where
  keep : ∀ b o, h.get? b = some o → h'.get? b = some o
  new : h.objs.size ≤ e
  obj : ∃ oe vs, h'.get? e = some oe ∧ oe.cls = .ref C ∧ oe.dict = some d ∧ oe.data = .fields vs ∧ vs[1]? = some .none
  dbig : h.objs.size ≤ d
  dne : d ≠ e
  ns : h'.Ns1 d (fun y => if y = "thing" then some v else none)
section
variable {prog : Program} {w : World} {A : Around} {E : Value → Shared → Prop} {R : Result → Shared → Prop} {s : Shared} {K : Frag} {mg : Str → Option Value} {cn : Str} {C fI : Addr}
theorem ex_init (T : ExTxt K mg cn C fI) {x t0 : Addr} {v : Value} (X : K.In s.heap) (hlim : s.heap.NoLimit) (hx : s.heap.get? x = some (excO C t0)) (hnx : K.lookup x = none) (hroom : A.depth < recursionLimit)
    (hq : ∀ h' tk dx, InitEnd s.heap h' x C dx t0 v → R (.ok (.ret .none)) { s with heap := h', toks := tk }) :
    codeAny (model prog w) A (.call (.ref fI) ⟨[.ref x, v], []⟩) R s := by
  obtain ⟨oc, od, doc, pm, an, cdv, ct, osl, p1, p2, q1, q2, q3, q4, qn, ho, hcd⟩ := T.fn
  obtain ⟨nm, q, N, bs, bm, sn, sub, ab, col, dd, k0, k1, k2, k3, k5, hC, hbm⟩ := T.cls
  have hcl : clsIn K C = some { name := nm, bases := bs, mro := .ref C :: bm, ns := N, qualname := q, hasDict := true, slotNames := sn, subclasses := sub, abstract := ab, collection := col, hasDel := false } := by unfold clsIn; rw [hC] <;> rfl
  refine Att.call_fn (binds := [("self", .ref x), ("thing", v)]) X hlim ho hcd hroom (BindsTo.of_eq (by first | rfl | with_unfolding_all rfl)) (by first | rfl | decide | with_unfolding_all rfl) (fun s₁ IC => ?_) rfl rfl rfl
  obtain ⟨h₁, tk₁, rfl⟩ := IC.toInCall.same
  have k : ∀ b o, s.heap.get? b = some o → h₁.get? b = some o := IC.toInCall.keep
  have hn := IC.toInCall.ns
  have hxL : s.heap.objs.size ≠ x := Nat.ne_of_gt (Heap.lt_size hx)
  have X₁ : K.In h₁ := X.keeps k
  have hx₁ := k _ _ hx
  -- self.by = by
  show wpAny _ _ (execs _ _) _ _ _
  refine wpAny_execs_cons (plainObj_wpAny_Assign_Attribute ?_)
  refine ldC (v := v) hn (by first | rfl | with_unfolding_all rfl | kernel_rfl) (ldC (v := .ref x) hn (by first | rfl | with_unfolding_all rfl | kernel_rfl) ?_)
  refine set_plain X₁ (ox := excO C t0) (od := none) ⟨hx₁, rfl, rfl, trivial⟩ T.sa ?_
  refine ex_osa X₁ hx₁ hcl (show refsEx (.ref C :: bm) = true from hbm) rfl T.noN (fun h₃ tk₃ dx k₃ dn dne hx₃ hn₃ => ?_)
  show wpAny _ _ (execs _ _) _ _ _
  have z : s.heap.objs.size < h₁.objs.size := hn.lt
  exact wpAny_execs_nil (hq h₃ tk₃ dx ⟨fun b o hb e => k₃ b o hb (k b o e), hx₃, Nat.le_of_lt (Nat.lt_of_lt_of_le z dn), dne, hn₃⟩)
theorem ex_made (T : ExTxt K mg cn C fI) {v : Value} (X : K.In s.heap) (hlim : s.heap.NoLimit) (hroom : A.depth + 1 < recursionLimit)
    (hq : ∀ h' tk e d, OwnMade s.heap h' e C d v → R (.ok (.ret (.ref e))) { s with heap := h', toks := tk }) :
    codeAny (model prog w) A (.call (.ref C) ⟨[v], []⟩) R s := by
  obtain ⟨nm, q, N, bs, bm, sn, sub, ab, col, dd, k0, k1, k2, k3, k5, hC, hbm⟩ := T.cls
  obtain ⟨hp, g, dr, tk, os⟩ := s
  have k : ∀ b o, hp.get? b = some o → ((hp.push (kdv_tup [v])).push (excO C hp.objs.size)).get? b = some o := fun b o e => Heap.get?_push_of_some _ (Heap.get?_push_of_some _ e)
  have hget : ((hp.push (kdv_tup [v])).push (excO C hp.objs.size)).get? (hp.objs.size + 1) = some (excO C hp.objs.size) := by heap_get
  have hnx : K.lookup (hp.objs.size + 1) = none := by
    cases e : K.lookup (hp.objs.size + 1) with
    | none => rfl
    | some o =>
      have z : hp.get? (hp.objs.size + 1) = some o := X _ _ e
      exact absurd (Nat.lt_of_succ_lt (Heap.lt_size z)) (Nat.lt_irrefl _)
  refine call_own F.excBase_Exception (fun X => refsEx_has X bm hbm) (X _ _ hC) (looks_findIn X T.iC) (fun self => bind_fn X self T.tC) (one_size v) ?_
  refine ex_init (s := ⟨(hp.push (kdv_tup [v])).push (excO C hp.objs.size), g, dr, tk, os⟩) T (X.keeps k) (hlim.keeps k) hget hnx ?_ fun h' tk' dx ⟨k', hx, dn, dne, hns⟩ => ?_
  · show A.depth + 1 < recursionLimit
    exact hroom
  · have old : ∀ b o, hp.get? b = some o → h'.get? b = some o := fun b o e => k' b o (Nat.ne_of_lt (Nat.lt_succ_of_lt (Heap.lt_size e))) (k b o e)
    have z : hp.objs.size + 1 + 1 ≤ dx := by
      first
        | (simpa only [Heap.size_push] using dn)
        | exact dn
        | (have q := dn; rw [Heap.size_push, Heap.size_push] at q; exact q)
    exact ⟨rfl, hq h' tk' (hp.objs.size + 1) dx ⟨old, Nat.le_succ _, ⟨_, _, hx, rfl, rfl, rfl, rfl⟩, Nat.le_trans (Nat.le_trans (Nat.le_succ _) (Nat.le_succ _)) z, dne, hns⟩⟩
end
end HrE_thing
namespace HrE_thing
open PySem PySem.Spec PyProof.Rows L2 Hr
theorem relO_ex {v : V} {v' : Value} (r : RelV v v') (f : Str) : RelO (List.lookup f [(("thing" : Str), v)]) (if f = "thing" then some v' else none) := by
  by_cases hw : f = "thing"
  · subst hw
    rw [if_pos rfl]
    have q : List.lookup ("thing" : Str) [(("thing" : Str), v)] = some v := by simp [List.lookup]
    rw [q]
    exact r
  · rw [if_neg hw]
    have qw : (f == ("thing" : Str)) = false := by simpa using hw
    have q2 : List.lookup f [(("thing" : Str), v)] = none := by simp [List.lookup, qw]
    rw [q2]
    trivial
section
variable {X : Cx} {cn : Str} {C fI : Addr}
/-- Low(e) -/
def tMkEx (C : Addr) (ta : TA) : L2.St → Hp → XK → Prop := fun σ H Q => ta σ H fun vs H1 => ∃ v, vs = [v] ∧ ∀ d, H1 d = none → Q (.ref C) (some d) (upd H1 d (.xd [(("thing" : Str), v)]))
theorem pmk_ex {a : Expr} {ta : TA} {p pos : Pos} {k : Nat} (T : ExTxt X.K X.mg cn C fI) (hr : Room k X.A) (ha : PA X [a] ta) (hg : Gl X cn := by rfl) (hdb : (cn == ("__debug__" : Str)) = false := by decide)
    (he : starEach (a :: []) X.env = (false, eval a X.env) :: starEach [] X.env := by rfl) (hpl : (backTo pos (starEach [] X.env)).any (·.1) = false := by rfl) :
    PMk X (.Call (.Name cn p) [a] [] pos) (tMkEx C ta) := by
  intro pins s σ H Q I h
  refine wpAny_Call_Name_kw (ld_glob I hg T.gC ?_ (hd := hdb))
  refine PySem.W.callWith_K (h₀ := X.base) I.ok.mod.kin T.kC (thn (ha.run pos pins s σ H _ I h) fun us s1 hh => ?_) he hpl
  obtain ⟨vs, H1, I1, r1, v, ev, q1⟩ := hh
  subst ev
  refine ⟨I1.kIn, ?_⟩
  cases r1 with
  | cons rv rn =>
    rename_i v' us'
    cases rn
    show wpAny _ _ (call (.ref C) [v']) _ _ _
    have hlim := I1.nolimit
    obtain ⟨hp, g, dr, tk, os⟩ := s1
    refine wpAny_call (ex_made T I1.kIn hlim (by have := hr.dp; omega) fun h' tk' e d M => ?_)
    show MkP X pins σ Q (.ref e) ⟨h', g, dr, tk', os⟩
    obtain ⟨oe, fv, hoe, hc, hd, hdat, h1⟩ := M.obj
    have hns := M.ns
    obtain ⟨G', g1, g2⟩ := restrict h' fun b => decide (b ≠ e)
    have gk : ∀ b, b ≠ e → G'.get? b = h'.get? b := fun b hb => g1 b (decide_eq_true hb)
    have ge : G'.get? e = none := g2 e (by simp)
    have old : ∀ b o, hp.get? b = some o → G'.get? b = some o := fun b o q => (gk b (Nat.ne_of_lt (Nat.lt_of_lt_of_le (Heap.lt_size q) M.new))).trans (M.keep b o q)
    have ob : ObjOk X.prog X.w (upd H1 d (.xd [(("thing" : Str), v)])) G' d (.xd [(("thing" : Str), v)]) :=
      ⟨_, hns.at (fun o q => (gk d M.dne).trans q), fun f => relO_ex rv f⟩
    have J : Inv X pins σ (upd H1 d (.xd [(("thing" : Str), v)])) ⟨G', g, dr, tk', os⟩ := I1.laid (t' := tk') old M.dbig ob
    refine ⟨e, oe, fv, ⟨G', g, dr, tk', os⟩, _, .ref C, some d, rfl, J, fun b o q => ?_, ge, hoe, ⟨hc, hd⟩, hdat, h1, ?_, rfl, I1.bare, raises_own T.exC T.tyC, q1 d (I1.hok.fresh M.dbig)⟩
    · by_cases hb : b = e
      · have q' : G'.get? b = some o := q
        rw [hb, ge] at q'; cases q'
      · exact (gk b hb).symm.trans q
    · rw [upd_ne (Ne.symm M.dne)]
      exact I1.hok.fresh M.new
/-- raise Low(e) -/
def tRaiseEx (C : Addr) (W : WX) (ta : TA) : TS := fun _ σ H => tMkEx C ta σ H fun cls d H' => W cls d σ H'
theorem ps_raiseEx {a : Expr} {ta : TA} {W : WX} {p pos pos2 : Pos} {k : Nat} (hc : X.calm = true) (T : ExTxt X.K X.mg cn C fI) (hr : Room k X.A) (tk : Takes X W) (ha : PA X [a] ta) (hg : Gl X cn := by rfl) (hdb : (cn == ("__debug__" : Str)) = false := by decide)
    (he : starEach (a :: []) X.env = (false, eval a X.env) :: starEach [] X.env := by rfl) (hpl : (backTo pos (starEach [] X.env)).any (·.1) = false := by rfl) :
    PS X (.Raise (some (.Call (.Name cn p) [a] [] pos)) none pos2) (tRaiseEx C W ta) := ps_raise hc tk (pmk_ex T hr ha hg hdb he hpl)
/-- e.thing, low the exception that the suite holds (at a; its class cls, its dict d) -/
def tGetEx (C : Addr) (a : Addr) (cls : Value) (d : Option Addr) (te : TE) : TE := fun σ H Q => te σ H fun x H1 => x = .ref a ∧ cls = .ref C ∧ ∃ (dd : Addr) (v : V), d = some dd ∧ H1 dd = some (.xd [(("thing" : Str), v)]) ∧ Q v H1
theorem pe_getEx {a : Addr} {oe : Obj} {cls : Value} {d : Option Addr} {pn : List (Addr × Obj)} {e : Expr} {te : TE} {pos : Pos} (T : ExTxt X.K X.mg cn C fI) (hz : Zc cls d oe) (hf : ∃ vs, oe.data = .fields vs) (he : PE (X.suite a ((a, oe) :: pn)) e te)
    (hb : attributeBase e "thing" X.env (eval e X.env) = eval e X.env := by rfl) :
    PE (X.suite a ((a, oe) :: pn)) (.Attribute e "thing" pos) (tGetEx C a cls d te) := by
  refine ⟨fun pins s σ H Q I h => ?_⟩
  refine attr_of hb (thn (he.run pins s σ H _ I h) fun u s1 hh => ?_)
  obtain ⟨x, H1, I1, rx, ex, ec, dd, v, ed, ea, q⟩ := hh
  subst ex
  obtain rfl : u = Value.ref a := rx
  subst ec
  subst ed
  obtain ⟨ha, _⟩ := I1.pin (a, oe) (List.mem_append_left _ List.mem_cons_self)
  obtain ⟨vs, hd⟩ := hf
  have hx : ObjOk X.prog X.w H1 s1.heap dd (.xd [(("thing" : Str), v)]) := I1.hok dd _ ea
  obtain ⟨mA, hns, hr⟩ := hx
  obtain ⟨od, ho, hl⟩ := lookIn_ns hns
  have l : List.lookup ("thing" : Str) [(("thing" : Str), v)] = some v := by simp [List.lookup]
  obtain ⟨u, hu, ru⟩ := RelO.some_of (v := v) (o := mA "thing") (by rw [← l]; exact hr "thing")
  have J : PySem.W.InstAt s1.heap a oe C (some od) := ⟨ha, hz.1, by unfold PySem.W.notCls; rw [hd] <;> rfl, by rw [hz.2]; exact ho⟩
  exact HandSPX.exc_get I1.kIn J T.ga T.gg T.exC (PySem.W.findObj_own T.hdC T.noN rfl (by rw [hl, hu])) (handed_of ru) ⟨v, H1, I1.tok _, ru, q⟩
end

end HrE_thing

/-! Any value, dicts too, as data: what repr tells of it, and what it is equal to. -/
namespace Hr
open PySem PySem.Spec PyProof.Rows L2 Evl LamX
def kyD : Key → PyData
  | .inl i => .int i
  | .inr x => .str x
mutual
inductive Dx (H : Hp) : V → PyData → Prop
  | non : Dx H .non .none
  | bl (b : Bool) : Dx H (.bl b) (.bool b)
  | int (i : Int) : Dx H (.int i) (.int i)
  | str (x : Str) : Dx H (.str x) (.str x)
  | lst {a : Addr} {xs : List V} {ds : List PyData} : H a = some (.lst xs) → DxA H xs ds → Dx H (.ref a) (.list ds)
  | tup {a : Addr} {xs : List V} {ds : List PyData} : H a = some (.tup xs) → DxA H xs ds → Dx H (.ref a) (.tuple ds)
  | dct {a : Addr} {kvs : List (Key × V)} {es : List (PyData × PyData)} : H a = some (.dK kvs) → DxK H kvs es → Dx H (.ref a) (.dict es)
inductive DxA (H : Hp) : List V → List PyData → Prop
  | nil : DxA H [] []
  | cons {v : V} {vs : List V} {d : PyData} {ds : List PyData} : Dx H v d → DxA H vs ds → DxA H (v :: vs) (d :: ds)
inductive DxK (H : Hp) : List (Key × V) → List (PyData × PyData) → Prop
  | nil : DxK H [] []
  | cons {k : Key} {v : V} {kvs : List (Key × V)} {d : PyData} {es : List (PyData × PyData)} : Dx H v d → DxK H kvs es → DxK H ((k, v) :: kvs) ((kyD k, d) :: es)
end
section
variable {H H' : Hp}
mutual
theorem Dx.moreN (e : ExtN H H') : ∀ {v : V} {d : PyData}, Dx H v d → Dx H' v d
  | _, _, .non => .non
  | _, _, .bl b => .bl b
  | _, _, .int i => .int i
  | _, _, .str x => .str x
  | _, _, .lst h t => .lst (e _ _ h (fun _ z => by cases z)) (DxA.moreN e t)
  | _, _, .tup h t => .tup (e _ _ h (fun _ z => by cases z)) (DxA.moreN e t)
  | _, _, .dct h t => .dct (e _ _ h (fun _ z => by cases z)) (DxK.moreN e t)
theorem DxA.moreN (e : ExtN H H') : ∀ {v : List V} {d : List PyData}, DxA H v d → DxA H' v d
  | _, _, .nil => .nil
  | _, _, .cons h t => .cons (Dx.moreN e h) (DxA.moreN e t)
theorem DxK.moreN (e : ExtN H H') : ∀ {v : List (Key × V)} {d : List (PyData × PyData)}, DxK H v d → DxK H' v d
  | _, _, .nil => .nil
  | _, _, .cons h t => .cons (Dx.moreN e h) (DxK.moreN e t)
end
theorem Dx.more (e : Ex H H') {v : V} {d : PyData} (h : Dx H v d) : Dx H' v d := h.moreN (.of e)
theorem DxA.more (e : Ex H H') {v : List V} {d : List PyData} (h : DxA H v d) : DxA H' v d := h.moreN (.of e)
theorem DxA.ints : ∀ ns : List Int, DxA H (ns.map V.int) (ns.map PyData.int)
  | [] => .nil
  | n :: ns => .cons (.int n) (DxA.ints ns)
theorem DxA.len : ∀ {vs : List V} {ds : List PyData}, DxA H vs ds → vs.length = ds.length
  | _, _, .nil => rfl
  | _, _, .cons _ t => by rw [List.length_cons, List.length_cons, t.len]
theorem DxA.app : ∀ {vs ws : List V} {ds es : List PyData}, DxA H vs ds → DxA H ws es → DxA H (vs ++ ws) (ds ++ es)
  | _, _, _, _, .nil, g => g
  | _, _, _, _, .cons h t, g => .cons h (t.app g)
theorem DxA.take : ∀ {vs : List V} {ds : List PyData} (n : Nat), DxA H vs ds → DxA H (vs.take n) (ds.take n)
  | _, _, 0, _ => .nil
  | _, _, _ + 1, .nil => .nil
  | _, _, n + 1, .cons h t => .cons h (DxA.take n t)
theorem DxA.drop : ∀ {vs : List V} {ds : List PyData} (n : Nat), DxA H vs ds → DxA H (vs.drop n) (ds.drop n)
  | _, _, 0, h => h
  | _, _, _ + 1, .nil => .nil
  | _, _, n + 1, .cons _ t => DxA.drop n t
theorem DxA.at : ∀ {vs : List V} {ds : List PyData}, DxA H vs ds → ∀ {i : Nat} {v : V}, vs[i]? = some v → ∃ d, ds[i]? = some d ∧ Dx H v d
  | _, _, .nil, i, v, h => by simp at h
  | _, _, .cons (d := d) hd t, 0, v, h => by
    cases h
    exact ⟨d, rfl, hd⟩
  | _, _, .cons hd t, i + 1, v, h => DxA.at t (by simpa using h)
end
section
variable {X : Cx} {pins : List (Addr × Obj)} {σ : L2.St} {H : Hp} {s : Shared}
/-- a value at s: it is read so, and its text is told so -/
def Told (P : Program) (w : World) (h : Heap) (u : Value) (d : PyData) : Prop := ∃ as bs, Reads h u d as ∧ ReadAtMost h d.depth bs ∧ ReprK P w bs h d.depth u d.shown
def ToldA (P : Program) (w : World) (h : Heap) (us : List Value) (ds : List PyData) : Prop :=
  ∃ as bs, ReadsAll h us ds as ∧ ReadAtMost h (PyData.depthAll ds) bs ∧ ReprAllK P w bs h (PyData.depthAll ds) us (PyData.shownAll ds)
theorem told_flat {P : Program} {w : World} {h : Heap} {u : Value} {d : PyData} {as : List Addr} (r : Reads h u d as) (hs : d.showable = true) (hn : d.hasDict = false) (hz : d.shown.length ≤ sizeLine) : Told P w h u d := by
  obtain ⟨bs, h1, h2⟩ := ReprK.of_reads (prog := P) (w := w) r hs (fun z => by rw [hn] at z; cases z) hz
  exact ⟨_, bs, r, h1, h2⟩
theorem told_nil {P : Program} {w : World} {h : Heap} : ToldA P w h [] [] := ⟨[], [], .nil, (fun _ z => nomatch z), by simp only [PyData.shownAll]; exact .nil⟩
theorem told_cons {P : Program} {w : World} {h : Heap} {u : Value} {us : List Value} {d : PyData} {ds : List PyData} (a : Told P w h u d) (b : ToldA P w h us ds) : ToldA P w h (u :: us) (d :: ds) := by
  obtain ⟨as1, b1, r1, m1, k1⟩ := a
  obtain ⟨as2, b2, r2, m2, k2⟩ := b
  have e1 : d.depth ≤ PyData.depthAll (d :: ds) := by simp only [PyData.depthAll]; exact Nat.le_max_left _ _
  have e2 : PyData.depthAll ds ≤ PyData.depthAll (d :: ds) := by simp only [PyData.depthAll]; exact Nat.le_max_right _ _
  refine ⟨as1 ++ as2, b1 ++ b2, .cons r1 r2, fun b hm => ?_, ?_⟩
  · rcases List.mem_append.mp hm with z | z
    · obtain ⟨x, y, q, l⟩ := m1 b z
      exact ⟨x, y, q, Nat.le_trans l e1⟩
    · obtain ⟨x, y, q, l⟩ := m2 b z
      exact ⟨x, y, q, Nat.le_trans l e2⟩
  · have q1 : ReprK P w (b1 ++ b2) h (PyData.depthAll (d :: ds)) u d.shown := (k1.more fun b z => List.mem_append_left _ z).level_le e1
    have q2 : ReprAllK P w (b1 ++ b2) h (PyData.depthAll (d :: ds)) us (PyData.shownAll ds) := k2.more_le (fun b z => List.mem_append_right _ z) e2
    have q : PyData.shownAll (d :: ds) = d.shown :: PyData.shownAll ds := by simp only [PyData.shownAll]
    rw [q]
    exact .cons q1 q2
/-- the keys of a dict are read -/
theorem keys_read {P : Program} {w : World} {h : Heap} : ∀ {kvs : List (Key × V)} {vs : List (Key × Value)} {ents : List DictEntry} {es : List (PyData × PyData)}, DxK H kvs es → KV kvs vs → PySem.Pairs (mixKind P w) ents vs →
    ∃ as, ReadsAll h (ents.map (·.key)) (es.map (·.1)) as ∧ PyData.hasDictAll (es.map (·.1)) = false ∧ Vals (kvs.map (·.2)) (ents.map (·.val))
  | _, _, _, _, .nil, .nil, .nil => ⟨[], .nil, by simp [PyData.hasDictAll], .nil⟩
  | _, _, _, _, .cons (k := k) hd t, .cons r rs, .cons (e := ent) h1 h2 ps => by
    obtain ⟨as, q1, q2, q3⟩ := keys_read (h := h) t rs ps
    obtain ⟨e1, e2⟩ := r
    have h1' : keyIs k ent.key = true := by
      rw [show k = _ from e1]
      exact h1
    have rk : ∃ as1, Reads h ent.key (kyD k) as1 ∧ (kyD k).hasDict = false := by
      rcases keyIs_shape h1' with ⟨i, tk, e3, e4⟩ | ⟨x, tk, e3, e4⟩
      · rw [e3, e4]
        exact ⟨_, .int i tk, by simp [kyD, PyData.hasDict]⟩
      · rw [e3, e4]
        exact ⟨_, .str x tk, by simp [kyD, PyData.hasDict]⟩
    obtain ⟨as1, k1, k2⟩ := rk
    refine ⟨as1 ++ as, .cons k1 q1, ?_, .cons ?_ q3⟩
    · simp only [List.map_cons, PyData.hasDictAll, k2, q2, Bool.or_self]
    · show L2.RelV _ ent.val
      rw [h2]
      exact e2
mutual
theorem Dx.told (I : Inv X pins σ H s) : ∀ {v : V} {d : PyData} {u : Value}, Dx H v d → RelV v u → d.showable = true → d.shown.length ≤ sizeLine → Told X.prog X.w s.heap u d
  | _, _, _, .non, r, hs, hz => by
    cases r
    exact told_flat .none hs rfl hz
  | _, _, _, .bl b, r, hs, hz => by
    cases r
    exact told_flat (.bool b) hs rfl hz
  | _, _, _, .int i, r, hs, hz => by
    obtain ⟨t, rfl⟩ := r
    exact told_flat (.int i t) hs rfl hz
  | _, _, _, .str x, r, hs, hz => by
    obtain ⟨t, rfl⟩ := r
    exact told_flat (.str x t) hs rfl hz
  | _, _, _, .lst (ds := ds) h t, r, hs, hz => by
    cases r
    obtain ⟨its, rv, ⟨o, n, ho, hc, hx, hd⟩, _⟩ := I.list (SqL.of h)
    have hz' : (listText (PyData.shownAll ds)).length ≤ sizeLine := by simpa only [PyData.shown] using hz
    obtain ⟨as, bs, q1, q2, q3⟩ := DxA.told I t rv (by simpa [PyData.showable] using hs) fun x hx => Nat.le_trans (listText_mem_le hx) hz'
    have rd := Reads.list ho hc hd (by simpa using q1)
    have na := not_mem_of_deeper rd (show PyData.depthAll ds < (PyData.list ds).depth by simp only [PyData.depth]; omega) q2
    refine ⟨_, _ :: bs, rd, ReadAtMost.cons rd (Nat.le_refl _) (fun b hb => let ⟨x, y, z, l⟩ := q2 b hb; ⟨x, y, z, by simp only [PyData.depth]; omega⟩), ?_⟩
    simp only [PyData.shown]
    cases its with
    | nil =>
      have e' : ds = [] := by
        have e0 := q3.length_eq
        cases ds with
        | nil => rfl
        | cons d ds => simp [PyData.shownAll] at e0
      subst e'
      simp only [PyData.shownAll, listText_nil, PyData.depth]
      exact ReprK.listEmpty ho hc hd
    | cons x l =>
      simp only [PyData.depth]
      exact ReprK.list ho hc hd na (by simpa using q3.length_eq) fun i y e => q3.item i y (by simpa using e)
  | _, _, _, .tup (ds := ds) h t, r, hs, hz => by
    cases r
    obtain ⟨its, rv, ⟨o, ho, hc, n, hd⟩, _⟩ := I.tuple (SqT.of h)
    have hz' : (tupleText (PyData.shownAll ds)).length ≤ sizeLine := by simpa only [PyData.shown] using hz
    obtain ⟨as, bs, q1, q2, q3⟩ := DxA.told I t rv (by simpa [PyData.showable] using hs) fun x hx => Nat.le_trans (tupleText_mem_le hx) hz'
    have rd := Reads.tuple ho hc hd (by simpa using q1)
    have na := not_mem_of_deeper rd (show PyData.depthAll ds < (PyData.tuple ds).depth by simp only [PyData.depth]; omega) q2
    refine ⟨_, _ :: bs, rd, ReadAtMost.cons rd (Nat.le_refl _) (fun b hb => let ⟨x, y, z, l⟩ := q2 b hb; ⟨x, y, z, by simp only [PyData.depth]; omega⟩), ?_⟩
    simp only [PyData.shown, PyData.depth]
    exact ReprK.tuple ho hc hd na (by simpa using q3)
  | _, _, _, .dct (es := kds) h t, r, hs, hz => by
    cases r
    obtain ⟨_, sm, vs, kv, o, es, ep, ho, hx, hd, _, ps, _⟩ := dk_of I.hok h
    have hz' : (dictText (PyData.shownKv kds)).length ≤ sizeLine := by simpa only [PyData.shown] using hz
    obtain ⟨s1, s2⟩ := PyData.showableKv_split kds (by simpa [PyData.showable] using hs)
    obtain ⟨a1, k1, k2, k3⟩ := keys_read (h := s.heap) t kv ps
    obtain ⟨b1, m1, r1⟩ := ReprAllK.of_readsAll (prog := X.prog) (w := X.w) k1 s1 (fun z => by rw [k2] at z; cases z) fun x hx => by
      obtain ⟨p, hp, hl⟩ := PyData.shownKv_key_le kds x hx
      exact Nat.le_trans hl (Nat.le_trans (dictText_mem_le hp) hz')
    obtain ⟨a2, b2, q1, m2, r2⟩ := DxK.told I t k3 s2 fun x hx => by
      obtain ⟨p, hp, hl⟩ := PyData.shownKv_val_le kds x hx
      exact Nat.le_trans hl (Nat.le_trans (dictText_mem_le hp) hz')
    have rd := Reads.dict ho hx.1 hd k1 q1
    have mm : ReadAtMost s.heap (PyData.depthKv kds) (b1 ++ b2) := (m1.mono (PyData.depthAll_keys_le kds)).append (m2.mono (PyData.depthAll_vals_le kds))
    have na := not_mem_of_deeper rd (show PyData.depthKv kds < (PyData.dict kds).depth by simp only [PyData.depth]; omega) mm
    refine ⟨_, _ :: (b1 ++ b2), rd, ReadAtMost.cons rd (Nat.le_refl _) (fun b hb => let ⟨x, y, z, l⟩ := mm b hb; ⟨x, y, z, by simp only [PyData.depth]; omega⟩), ?_⟩
    simp only [PyData.shown, PyData.depth, PyData.shownKv_eq]
    refine ReprK.dict ho hx.1 hd sm na (ReprEntriesK.of_two es.toList _ _ (r1.more_le (fun b z => List.mem_append_left _ z) ?_) (r2.more_le (fun b z => List.mem_append_right _ z) ?_))
    · exact PyData.depthAll_keys_le kds
    · exact PyData.depthAll_vals_le kds
theorem DxA.told (I : Inv X pins σ H s) : ∀ {vs : List V} {ds : List PyData} {us : List Value}, DxA H vs ds → Vals vs us → PyData.showableAll ds = true → (∀ t ∈ PyData.shownAll ds, t.length ≤ sizeLine) → ToldA X.prog X.w s.heap us ds
  | _, _, _, .nil, r, _, _ => by
    cases r
    exact told_nil
  | _, _, _, .cons h t, r, hs, hz => by
    cases r with
    | cons r rs =>
      simp only [PyData.showableAll, Bool.and_eq_true] at hs
      simp only [PyData.shownAll] at hz
      exact told_cons (Dx.told I h r hs.1 (hz _ List.mem_cons_self)) (DxA.told I t rs hs.2 fun x hx => hz x (List.mem_cons_of_mem _ hx))
theorem DxK.told (I : Inv X pins σ H s) : ∀ {kvs : List (Key × V)} {es : List (PyData × PyData)} {us : List Value}, DxK H kvs es → Vals (kvs.map (·.2)) us → PyData.showableAll (es.map (·.2)) = true → (∀ t ∈ PyData.shownAll (es.map (·.2)), t.length ≤ sizeLine) →
    ToldA X.prog X.w s.heap us (es.map (·.2))
  | _, _, _, .nil, r, _, _ => by
    cases r
    exact told_nil
  | _, _, _, .cons h t, r, hs, hz => by
    cases r with
    | cons r rs =>
      simp only [List.map_cons, PyData.showableAll, Bool.and_eq_true] at hs
      simp only [List.map_cons, PyData.shownAll] at hz
      exact told_cons (Dx.told I h r hs.1 (hz _ List.mem_cons_self)) (DxK.told I t rs hs.2 fun x hx => hz x (List.mem_cons_of_mem _ hx))
end
/-- repr of a tuple of any values -/
def rReprX : List V → Hp → VK → Prop := fun vs H Q => ∃ (a : Addr) (xs : List V) (ds : List PyData), vs = [.ref a] ∧ H a = some (.tup xs) ∧ DxA H xs ds ∧ PyData.showableAll ds = true ∧ (PyData.tuple ds).depth ≤ 40 ∧ (PyData.tuple ds).shown.length ≤ sizeLine ∧ Q (.str (PyData.tuple ds).shown) H
theorem cr_reprX (gg : X.A.guards = some []) (hu : X.A.units + 64 < cLine) : CallR X (.builtin "repr") rReprX := by
  intro pins s σ H vs us Q I r h
  obtain ⟨a, xs, ds, rfl, ha, hd, hs, hdep, hz, q⟩ := h
  obtain ⟨u, rfl, r1⟩ := vals1 r
  cases r1
  obtain ⟨its, rv, ⟨o, ho, hc, n, hdt⟩, _⟩ := I.tuple (SqT.of ha)
  have hz' : (tupleText (PyData.shownAll ds)).length ≤ sizeLine := by simpa only [PyData.shown] using hz
  obtain ⟨as, bs, q1, q2, q3⟩ := DxA.told I hd rv hs fun x hx => Nat.le_trans (tupleText_mem_le hx) hz'
  have rd := Reads.tuple ho hc hdt (by simpa using q1)
  have na := not_mem_of_deeper rd (show PyData.depthAll ds < (PyData.tuple ds).depth by simp only [PyData.depth]; omega) q2
  have hdep' : PyData.depthAll ds + 1 ≤ 40 := by simpa only [PyData.depth] using hdep
  have e : (PyData.tuple ds).shown = tupleText (PyData.shownAll ds) := by simp only [PyData.shown]
  rw [e] at q
  refine call_repr_slot (T := "tuple") (by omega) ⟨o, ho, hc⟩ F.slot_tuple_repr ?_
  exact call_tuple_reprK (h₀ := s.heap) ho hc hdt na (by simpa using q3) (A := X.A.in1) gg (fun b _ => Clear.nil b) (by show X.A.units + 1 + (PyData.depthAll ds + 1) < cLine; omega) (fun _ _ z => z)
    (fun h' t tk hk => ⟨_, _, rfl, .str _, H, I.kept (t' := tk) hk, ⟨t, rfl⟩, q⟩) hz'
theorem listOf {h : Heap} {a : Addr} {its : Array Value} (p : PlainL h a its) : h.IsList a its := let ⟨o, n, h1, h2, _, h3⟩ := p; ⟨o, h1, h2, n, h3⟩
/-- a list is empty: xs == [] -/
def rEqE : R2 := fun x y H Q => ∃ (a b : Addr) (xs : List V), x = .ref a ∧ y = .ref b ∧ H a = some (.lst xs) ∧ H b = some (.lst []) ∧ Q (.bl xs.isEmpty) H
theorem op_eqE (hu : X.A.units + 64 < cLine) : OpR X (compareOp .Eq) rEqE := by
  intro pins s σ H x y v u Q I rx ry h
  obtain ⟨a, b, xs, rfl, rfl, ha, hb, q⟩ := h
  cases xs with
  | nil => exact op_eqD hu pins s σ H _ _ v u Q I rx ry ⟨.list [], .list [], .lst (SqL.of ha) .nil, .lst (SqL.of hb) .nil, by decide +kernel, by decide +kernel, by simpa [PyData.eqv, PyData.eqvAll] using q⟩
  | cons x xs =>
    cases rx
    cases ry
    obtain ⟨its, rv, hl, _⟩ := I.list (SqL.of ha)
    obtain ⟨its2, rv2, hl2, _⟩ := I.list (SqL.of hb)
    cases rv2
    have e := rv.length
    refine SeqAt.RcAt.lists_lengths (listOf hl) (listOf hl2) ?_ (by omega) _ _ _ _ ⟨.bl false, H, I, rfl, q⟩
    cases its with
    | nil => simp at e
    | cons i is => simp
theorem dct_declines (l : Addr) (es : Array DictEntry) (ep : Nat) (dd : Option Addr) (sl : Array (Option Value)) (b : Int) (u : Tok) :
    Meets (Builtin.«dict.__eq__» ⟨[.ref l, .int b u], []⟩) (fun _ R s => s.heap.get? l = some { cls := .type "dict", dict := dd, data := .dict es ep, slots := sl } ∧ R (.ok (.ret .notImplemented)) s) :=
  .of_wp fun prog w A R s h => by
    obtain ⟨hp, g, d, tk, os⟩ := s
    obtain ⟨hl, h⟩ := h
    have f1 := F.sub_int_dict
    wp_walk using wpAny_loadPart' hl
    exact ⟨_, rfl, h⟩
theorem int_declines (b : Int) (u : Tok) (l : Addr) (c : Value) (es : Array DictEntry) (ep : Nat) (dd : Option Addr) (sl : Array (Option Value)) :
    Meets (Builtin.«int.__eq__» ⟨[.int b u, .ref l], []⟩) (fun _ R s => s.heap.get? l = some { cls := c, dict := dd, data := .dict es ep, slots := sl } ∧ R (.ok (.ret .notImplemented)) s) :=
  .of_wp fun prog w A R s h => by
    obtain ⟨hp, g, d, tk, os⟩ := s
    obtain ⟨hl, h⟩ := h
    wp_walk using wpAny_loadPart' hl, wpAny_load hl
    exact ⟨_, rfl, h⟩
theorem dct_int {A : Around} {l : Addr} {o : Obj} {es : Array DictEntry} {ep : Nat} (b : Int) (u : Tok) (ho : s.heap.get? l = some o) (hc : o.cls = .type "dict") (hd : o.data = .dict es ep) (hu : A.units < cLine) : SeqAt.RcAt A s (.ref l) (.int b u) false := fun prog w E Q h => by
  obtain ⟨cls, dd, data, sl⟩ := o
  simp only at hc hd
  subst hc hd
  exact SeqAt.rc_eq_decline_or (k := false) ⟨_, ho, rfl⟩ (typeIs_int s b u) (by decide) F.sub_int_dict F.slot_dict_eq F.slot_int_eq_refl
    (fun _ hq => call_meets F.slot_dict_eq ⟨_, ho, rfl⟩ F.entry_dict_eq (F.args_dict_eq_2 _ _) (dct_declines l es ep dd sl b u) ⟨ho, hq⟩)
    (fun _ hq => call_meets F.slot_int_eq_refl (typeIs_int s b u) F.entry_int_eq (F.args_int_eq_2 _ _) (int_declines b u l (.type "dict") es ep dd sl) ⟨ho, hq⟩)
    (fun _ hq => wpAny_of_eq (rfl : isSame (.ref l) (.int b u) = pure false) hq) (.inr hu) h
/-- a value is a told int -/
def isI (i : Int) : PyData → Bool
  | .int j => j == i
  | _ => false
def nob : PyData → Bool
  | .bool _ => false
  | _ => true
def rEqI : R2 := fun x y H Q => ∃ d i, Dx H x d ∧ y = .int i ∧ nob d = true ∧ Q (.bl (isI i d)) H
theorem op_eqI (hu : X.A.units + 64 < cLine) : OpR X (compareOp .Eq) rEqI := by
  intro pins s σ H x y v u Q I rx ry h
  obtain ⟨d, i, hd, rfl, nb, q⟩ := h
  cases hd with
  | non => exact op_eq pins s σ H _ _ v u Q I rx ry ⟨rfl, q⟩
  | bl b => cases nb
  | int j =>
    refine op_eq pins s σ H _ _ v u Q I rx ry ⟨rfl, ?_⟩
    rw [dec_int]
    exact q
  | str x => exact op_eq pins s σ H _ _ v u Q I rx ry ⟨rfl, q⟩
  | lst ha t =>
    cases rx
    obtain ⟨tk, rfl⟩ := ry
    obtain ⟨its, rv, hl, _⟩ := I.list (SqL.of ha)
    exact SeqAt.RcAt.list_int i tk (listOf hl) (by omega) _ _ _ _ ⟨.bl false, H, I, rfl, q⟩
  | tup ha t =>
    cases rx
    obtain ⟨tk, rfl⟩ := ry
    obtain ⟨its, rv, hl, _⟩ := I.tuple (SqT.of ha)
    exact SeqAt.RcAt.tuple_int i tk hl (by omega) _ _ _ _ ⟨.bl false, H, I, rfl, q⟩
  | dct ha t =>
    cases rx
    obtain ⟨tk, rfl⟩ := ry
    obtain ⟨_, sm, vs, kv, o, es, ep, ho, hx, hd, _, ps, _⟩ := dk_of I.hok ha
    exact dct_int i tk ho hx.1 hd (by omega) _ _ _ _ ⟨.bl false, H, I, rfl, q⟩
end
end Hr
namespace Hr
open PySem PySem.Spec PyProof.Rows L2 Evl LamX
def intD : PyData → Bool
  | .int _ => true
  | _ => false
def blD : PyData → Bool
  | .bool _ => true
  | _ => false
def tupD : PyData → Bool
  | .tuple _ => true
  | _ => false
def fromD (l : Int) : PyData → Bool
  | .int n => decide (l ≤ n)
  | _ => false
def itemsD : PyData → List PyData
  | .tuple ds => ds
  | _ => []
def fromsD (l : Int) : PyData → Bool
  | .tuple ds => ds.all (fromD l)
  | _ => false
def intsD : PyData → Bool
  | .tuple ds => ds.all intD
  | _ => false
def valD : PyData → Int
  | .int n => n
  | _ => 0
def valsD (d : PyData) : List Int := (itemsD d).map valD
theorem Dx.kit {K : PySem.W.Frag} {H : Hp} {v : V} {d : PyData} (h : Dx H v d) : ∃ nm : String, TyX K H v (.type nm) ∧ kitB nm "int" = some (intD d || blD d) ∧ kitB nm "bool" = some (blD d) ∧ kitB nm "tuple" = some (tupD d) := by
  cases h with
  | non => exact ⟨"NoneType", .base .non, by decide +kernel, by decide +kernel, by decide +kernel⟩
  | bl b => exact ⟨"bool", .base (.bl b), by show kitB _ _ = some true; decide +kernel, by show kitB _ _ = some true; decide +kernel, by show kitB _ _ = some false; decide +kernel⟩
  | int i => exact ⟨"int", .base (.int i), by show kitB _ _ = some true; decide +kernel, by show kitB _ _ = some false; decide +kernel, by show kitB _ _ = some false; decide +kernel⟩
  | str x => exact ⟨"str", .base (.str x), by show kitB _ _ = some false; decide +kernel, by show kitB _ _ = some false; decide +kernel, by show kitB _ _ = some false; decide +kernel⟩
  | lst h t => exact ⟨"list", .base (.lst h), by show kitB _ _ = some false; decide +kernel, by show kitB _ _ = some false; decide +kernel, by show kitB _ _ = some false; decide +kernel⟩
  | tup h t => exact ⟨"tuple", .base (.tup h), by show kitB _ _ = some false; decide +kernel, by show kitB _ _ = some false; decide +kernel, by show kitB _ _ = some true; decide +kernel⟩
  | dct h t => exact ⟨"dict", .base (.dK h), by show kitB _ _ = some false; decide +kernel, by show kitB _ _ = some false; decide +kernel, by show kitB _ _ = some false; decide +kernel⟩
theorem intsD_vals {d : PyData} (h : intsD d = true) : d = .tuple ((valsD d).map .int) := by
  cases d with
  | tuple ds =>
    have key : ∀ ds : List PyData, ds.all intD = true → ds = (ds.map valD).map .int := by
      intro ds
      induction ds with
      | nil => exact fun _ => rfl
      | cons d ds ih =>
        intro h
        rw [List.all_cons, Bool.and_eq_true] at h
        cases d with
        | int n => exact congrArg (PyData.int n :: ·) (ih h.2)
        | _ => exact absurd h.1 Bool.false_ne_true
    exact congrArg PyData.tuple (key ds h)
  | _ => exact absurd h Bool.false_ne_true
theorem froms_ints {l : Int} {d : PyData} (h : fromsD l d = true) : intsD d = true := by
  cases d with
  | tuple ds =>
    refine List.all_eq_true.mpr fun x hx => ?_
    have := List.all_eq_true.mp h x hx
    cases x with
    | int n => rfl
    | _ => exact absurd this Bool.false_ne_true
  | _ => exact absurd h Bool.false_ne_true
theorem DxA.ofInts {H : Hp} : ∀ {ns : List Int} {xs : List V}, DxA H xs (ns.map PyData.int) → xs = ns.map V.int
  | [], _, .nil => rfl
  | n :: ns, _, .cons h t => by
    cases h
    rw [DxA.ofInts t]
    rfl
theorem given_empty (n : Nat) (f : Nat → Bool) (v : Nat → V) : (given n f v).isEmpty = (List.range n).all fun i => !f i := by
  rw [Bool.eq_iff_iff, List.isEmpty_iff, List.all_eq_true]
  unfold given
  constructor
  · intro h i hi
    cases hf : f i with
    | false => rfl
    | true =>
      have : v i ∈ ((List.range n).filter f).map v := List.mem_map.mpr ⟨i, List.mem_filter.mpr ⟨hi, hf⟩, rfl⟩
      rw [h] at this
      simp at this
  · intro h
    have : (List.range n).filter f = [] := List.filter_eq_nil_iff.mpr fun i hi => by simpa using h i hi
    rw [this]
    rfl
end Hr

/-! try with several clauses `except X as n`, all of one name. -/
namespace Hr
open PySem PySem.Spec PyProof.Rows L2
abbrev Clause := Value × (Addr → Value → Option Addr → TS)
/-- the ends of a suite behind which the slot i is empty again -/
def offE (i : Nat) (D : Ends) : Ends where
  nx := fun τ G => D.nx (τ.set i none) G
  rt := D.rt
  bk := fun τ G => D.bk (τ.set i none) G
  ct := fun τ G => D.ct (τ.set i none) G
/-- what the clauses ask of an exception of the body, the first that takes it; slot i is the name's -/
def wNamed (K : PySem.W.Frag) (i : Nat) (W0 : WX) (D : Ends) : List Clause → WX
  | [] => W0
  | p :: ps => fun cls d τ G => ∃ b, PySem.W.exmOne K cls p.1 = some b ∧ (b = true → ∀ a, G a = none → p.2 a cls d (offE i D) (τ.set i (some (.ref a))) G) ∧ (b = false → wNamed K i W0 D ps cls d τ G)
inductive Named (X : Cx) (n : Str) : List ExceptHandler → List Clause → Prop
  | nil : Named X n [] []
  | cons {y : Str} {c : Value} {t : Addr → Value → Option Addr → TS} {st : Stmt} {sts : List Stmt} {q1 q2 : Pos} {hs : List ExceptHandler} {ps : List Clause} (nm : Names X y c)
      (go : ∀ (a : Addr) (ob : Obj) (cls : Value) (d : Option Addr) (pn : List (Addr × Obj)), Zc cls d ob → (∃ fv, ob.data = .fields fv) → PSs (X.suite a ((a, ob) :: pn)) (st :: sts) (t a cls d)) (r : Named X n hs ps) :
      Named X n (.ExceptHandler (some (.Name y q1)) (some n) (st :: sts) q2 :: hs) ((c, t) :: ps)
section
variable {X : Cx} {n : Str} {i : Nat} {sts : List Stmt} {h1 : ExceptHandler} {hs : List ExceptHandler} {ps : List Clause} {pos : Pos} {tb : WX → TS} {W0 : WX}
theorem ps_try_named (e1 : X.stack = X.env :: X.outer) (e2 : X.env.frame = some X.env.locals) (nd : X.N.Nodup) (hi : X.N[i]? = some n) (kn : X.env.kindOf n = some .local) (tk : Takes X W0)
    (hb : ∀ (W : WX) (pn : List (Addr × Obj)) (xe : Value → Shared → Prop), Takes (X.tr pn xe) W → PassesOwn (model X.prog X.w) X.A X.env xe → PSs (X.tr pn xe) sts (tb W))
    (hh : Named X n (h1 :: hs) ps) : PS X (.Try sts (h1 :: hs) [] [] pos) (fun D τ G => tb (wNamed X.K i W0 D ps) D τ G) := by
  constructor
  intro pins s τ G D I q0
  have frm : X.A.frames = some (X.env :: X.outer) := I.ok.frames.trans (congrArg some e1)
  have kl : Loc X.env.scope n := .inl kn
  refine wpAny_Try_except (wpAny_mono ((hb (wNamed X.K i W0 D ps) (X.pn ++ pins) (fun e u1 => wpAny (model X.prog X.w) X.A (noteFrame e X.env) (fun _ u2 =>
    wpAny (model X.prog X.w) X.A (setFlight e none) (fun _ u3 => wpAny (model X.prog X.w) X.A (handleBy e X.env (h1 :: hs)) (SP X pins D) X.xe u3) X.xe u2) X.xe u1) (fun u z xx => ?_) PassesOwn.looking).run [] s τ G D (I.toTry _) q0) (fun f z sp => ?_) fun _ _ z => z)
  · obtain ⟨a, B, s0, pins', τ', G', cls, d, rfl, J0, nb, up, sky, na, os, ag, w⟩ := xx
    have J : Inv X pins τ' G' s0 := J0.ofTry I.ok
    rw [e1] at sky
    show wpAny (model X.prog X.w) X.A (noteFrame (.ref a) X.env) _ _ _
    refine Sky.land Zc.steady frm e2 sky fun g3 fl up3 => ?_
    have upB := up.trans up3
    have J3 : Inv X pins τ' G' { z with heap := g3 } := J.landed nb fl.1 upB os ag
    obtain ⟨ob, fv, hob, hzc, hfv⟩ := fl.there
    have off : a ∉ frs (X.env :: X.outer) := fun hm => by
      obtain ⟨_, o', e', hn⟩ := fl.2.2.1.mem hm
      rw [hob] at e'
      cases e'
      exact hn _ hfv
    have aL : a ≠ X.env.locals := fun e => off (List.mem_filterMap.mpr ⟨X.env, List.mem_cons_self, by rw [e2, e]⟩)
    have aF : a ∉ X.fs := fun hm => by
      obtain ⟨ev, hev, hq⟩ := List.mem_filterMap.mp hm
      exact off (List.mem_filterMap.mpr ⟨ev, List.mem_cons_of_mem _ hev, hq⟩)
    have T3 := J3.suite hob hfv na aL aF
    suffices all : ∀ {ks : List ExceptHandler} {qs : List Clause}, Named X n ks qs → wNamed X.K i W0 D qs cls d τ' G' →
        wpAny (model X.prog X.w) X.A (handleBy (.ref a) X.env ks) (SP X pins D) X.xe { z with heap := g3 } from all hh w
    intro ks qs nk
    induction nk with
    | nil =>
      intro w
      refine wpAny_handleBy_nil ?_
      obtain ⟨_, _, _, _, _, t1, _, _, r1, _, r3, r4, _⟩ := id fl
      unfold PySem.passOn
      refine wpAny_bind (wpAny_field r1 r3 r4 ?_)
      rw [if_neg (show ¬ ((Value.ref t1 == Value.none) = true) by simp)]
      have last : wpAny (model X.prog X.w) X.A (setFlight (.ref a) X.env.frame) (fun _ z4 => wpAny (model X.prog X.w) X.A (throw (.ref a) : Sem Flow) (SP X pins D) X.xe z4) X.xe { z with heap := g3 } := by
        rw [e2]
        refine HandSPX.setFlight_upZ fl fun g4 f4 up4 => wpAny_throw (tk _ _ ?_)
        exact ⟨a, B, s0, pins, τ', G', cls, d, rfl, J, nb, upB.trans up4, .inr (.inr (e1 ▸ f4)), na, os, ag, w⟩
      first
        | exact wpAny_bind last
        | exact wpAny_bind (wpAny_pure (wpAny_bind last))
    | @cons y c t st sts' q1 q2 ks' qs' nm go rest ih =>
      intro w
      obtain ⟨b, hb1, yes, no⟩ := w
      have look : PySem.W.Looks (model X.prog X.w) g3 (typeOf (.ref a)) cls := fun A' Q' E' s' k q => wpAny_typeOf_ref (k _ _ hob) (hzc.1.symm ▸ q)
      have mt := PySem.W.exm_one (M := model X.prog X.w) J3.kIn look hb1
      refine wpAny_handleBy_cons (codeAny_handlers_test ?_) nofun
      have name : ∀ {Q' E' : Value → Shared → Prop}, Q' c { z with heap := g3 } → wpAny (model X.prog X.w) (X.A.mark (some (.ref a))) (eval (.Name y q1) X.env) Q' E' { z with heap := g3 } := fun {Q' E'} q => by
        obtain ⟨g, nd, k | ⟨k1, k2, k3⟩⟩ := nm
        · exact ld_glob (X := X.suite a ((a, ob) :: (X.pn ++ pins))) T3 g k q nd
        · exact ld_blt (X := X.suite a ((a, ob) :: (X.pn ++ pins))) T3 g k1 k2 q k3 nd
      refine name (mt.here ?_)
      cases b with
      | false => exact ih (no rfl)
      | true =>
        refine codeAny_handlers_suite_as (HandSPX.lands_againZ fl fun g4 f4 up4 => ?_)
        have J4 : Inv X pins τ' G' { z with heap := g4 } := J.landed nb f4.1 (upB.trans up4) os ag
        obtain ⟨ob4, fv4, hob4, hz4, hf4⟩ := f4.there
        refine store_ok (X := X.suite a ((a, ob4) :: (X.pn ++ pins))) (v := .ref a) (J4.suite hob4 hf4 na aL aF) nd hi kl rfl (fun s5 T5 => ?_) (.inr kn)
        refine wpAny_mono ((go a ob4 cls d (X.pn ++ pins) hz4 ⟨_, hf4⟩).run [] s5 _ G' _ T5 (yes rfl a na)) (fun f s6 sp => ?_) fun _ _ x => False.elim x
        have fin : ∀ {τ6 : L2.St} {G6 : Hp} {Q' : Shared → Prop}, Inv (X.suite a ((a, ob4) :: (X.pn ++ pins))) [] τ6 G6 s6 → (∀ s7, Inv X pins (τ6.set i none) G6 s7 → Q' s7) →
            wpAny (model X.prog X.w) X.A (do bindName X.env n .none; unbindBehindTheSuite X.env n q2) (fun _ s7 => Q' s7) X.xe s6 := fun T6 q => gone_ok (T6.unsuite I.ok) nd hi kn q
        cases f with
        | ret u =>
          obtain ⟨v, τ6, G6, T6, r6, q6⟩ := sp
          exact fin T6 fun s7 J7 => ⟨_, _, _, J7, r6, q6⟩
        | next =>
          obtain ⟨τ6, G6, T6, q6⟩ := sp
          exact fin T6 fun s7 J7 => ⟨_, _, J7, q6⟩
        | brk =>
          obtain ⟨τ6, G6, T6, q6⟩ := sp
          exact fin T6 fun s7 J7 => ⟨_, _, J7, q6⟩
        | cont =>
          obtain ⟨τ6, G6, T6, q6⟩ := sp
          exact fin T6 fun s7 J7 => ⟨_, _, J7, q6⟩
  · cases f with
    | ret u =>
      obtain ⟨v, τ', G', J', r, q⟩ := sp
      exact ⟨v, τ', G', J'.ofTry I.ok, r, q⟩
    | next =>
      obtain ⟨τ', G', J', q⟩ := sp
      exact wpAny_execs_nil ⟨τ', G', J'.ofTry I.ok, q⟩
    | brk =>
      obtain ⟨τ', G', J', q⟩ := sp
      exact ⟨τ', G', J'.ofTry I.ok, q⟩
    | cont =>
      obtain ⟨τ', G', J', q⟩ := sp
      exact ⟨τ', G', J'.ofTry I.ok, q⟩
end
end Hr

/-! told: what a call without arguments hands out, or the caught error, its thing and what it is. -/
namespace Hr
open PySem PySem.Spec PyProof.Rows L2 LamX HrE_thing
/-- what is known of an own class that clauses and isinstance name -/
structure OwnC (K : PySem.W.Frag) (C : Addr) : Prop where
  cls : PySem.W.isClsIn K C = true
  ty : PySem.W.typeIn K (.ref C) = some (.type "type")
  ex : PySem.W.subIn K (.ref C) (.type "BaseException") = some true
  hd : PySem.W.hasDictIn K C = true
  me : PySem.W.subIn K (.ref C) (.ref C) = some true
/-- .. and of one whose instances are asked -/
structure OwnX (K : PySem.W.Frag) (C : Addr) : Prop extends OwnC K C where
  ga : PySem.W.findIn K (.ref C) "__getattribute__" = some (some (.builtin "BaseException.__getattribute__"))
  gg : PySem.W.findIn K (.ref C) "__getattr__" = some none
  kc : PySem.W.findIn K (.ref C) "__class__" = some (some (.builtin "object.__class__"))
  mo : PySem.W.mroIn K C (.type "object") = some true
  sg : PySem.W.specialIn K (.builtin "object.__class__") "__get__" = some (some (.builtin "getset_descriptor.__get__"))
  tk : PySem.W.takesIn K (.builtin "object.__class__") = some true
section
variable {K : PySem.W.Frag} {C D : Addr} {b : Bool}
theorem OwnC.kit (o : OwnC K C) (e : PySem.W.subIn K (.ref D) (.ref C) = some b) : PySem.W.kitOne K (.ref D) (.ref C) = some b := by
  unfold PySem.W.kitOne
  by_cases z : D = C
  · subst z
    rw [o.me] at e
    cases e
    rw [if_pos (by simp)]
  · rw [if_neg (by simpa using z)]
    have c1 : (PySem.W.clsIn K C).isSome = true := o.cls
    unfold PySem.W.kitCls
    dsimp only
    rw [c1, o.ty, if_pos (by rfl), e]
theorem OwnC.exm (o : OwnC K C) (e : PySem.W.subIn K (.ref D) (.ref C) = some b) : PySem.W.exmOne K (.ref D) (.ref C) = some b := PySem.W.exm_ref o.ex o.hd o.ty e
end
/-- an exception that a body hands out finds as many slots as the def has names -/
theorem takes_len {X : Cx} {W : WX} (tk : Takes X W) : Takes X fun cls d σ H => σ.length = X.N.length → W cls d σ H := fun u s ⟨a, B, s0, pins, σ, H, cls, d, e, J, nb, up, sky, na, os, ag, w⟩ =>
  tk u s ⟨a, B, s0, pins, σ, H, cls, d, e, J, nb, up, sky, na, os, ag, w J.len⟩
/-- isinstance(e, c), e the caught error at a, its fields told -/
def rIsX (K : PySem.W.Frag) (D a : Addr) (cls : Value) (d : Option Addr) : List V → Hp → VK → Prop := fun xs H Q =>
  ∃ (c : V) (cv : Value) (b : Bool) (dd : Addr) (fs : List (Str × V)), cls = .ref D ∧ xs = [.ref a, c] ∧ (∀ u, RelV c u → u = cv) ∧ PySem.W.kitOne K (.ref D) cv = some b ∧ d = some dd ∧ H dd = some (.xd fs) ∧ Q (.bl b) H
theorem call_isX {X : Cx} {a D : Addr} {ob : Obj} {cls : Value} {d : Option Addr} {pn : List (Addr × Obj)} (o : OwnX X.K D) (hz : Zc cls d ob) (hf : ∃ fv, ob.data = .fields fv) : CallR (X.suite a ((a, ob) :: pn)) (.builtin "isinstance") (rIsX X.K D a cls d) := by
  intro pins s σ H xs us Q I r h
  obtain ⟨c, cv, b, dd, fs, rfl, rfl, hcv, e, rfl, hx, q⟩ := h
  cases r with
  | cons rx rr =>
    cases rr with
    | cons rt rr =>
      cases rr
      cases rx
      have ec := hcv _ rt
      subst ec
      obtain ⟨at_, _⟩ := I.pin (a, ob) (List.mem_append.mpr (.inl List.mem_cons_self))
      obtain ⟨fv, hv⟩ := hf
      obtain ⟨mA, hns, _⟩ := (show ObjOk X.prog X.w H s.heap dd (.xd fs) from I.hok dd _ hx)
      obtain ⟨od, ho, _⟩ := lookIn_ns hns
      have J : PySem.W.InstAt s.heap a ob D (some od) := ⟨at_, hz.1, by unfold PySem.W.notCls; rw [hv] <;> rfl, by rw [hz.2]; exact ho⟩
      exact PySem.W.kia_one (PySem.W.kitx_exc o.cls o.ga o.gg o.ex o.kc o.sg o.tk o.mo) I.kIn J e nofun fun tk => ⟨.bl b, H, I.kept (t' := tk) fun _ _ z => z, rfl, q⟩
end Hr

/-! Defs that make lambdas, where no repr is under way: their code object is told; the law's end with tables of code objects. -/
namespace Hr
open PySem PySem.Spec PyProof.Rows L2 LamX
section
variable {P : Program} {w : World} {K : PySem.W.Frag} {mg : Str → Option Value} {base : Heap} {CX : CXT} {k : Nat} {f : Addr} {fd : FuncData} {ps : List Str} {sp : Sp}
theorem bodyGc {x qual : Str} {st : Stmt} {N : List Str} (F : Fun K x qual st f fd) (S : FnScope N ps (defScope st)) (len : ∀ vs H Q E, sp vs H Q E → vs.length = ps.length)
    (hb : ∀ (cdv : Value) (A : Around) (around : List Env) (s : Shared) (H : Hp) (vs : List V) (Q : VK) (E : XK), fd.code = cdv → Room k (A.deeper (envOfC qual (defScope st) s.heap.objs.size f cdv)) → A.guards = some [] → sp vs H Q E →
      ∃ t, PSs (cxOf CX P w K mg base N qual (defScope st) f cdv A around s H E) (defBody st) t ∧ t { nx := fun _ H' => Q .non H', rt := Q } (start N vs) H) :
    FnG P w K mg base CX (k + 1) f fd ps sp := by
  obtain ⟨oc, od, kV, doc, pm, an, cdv, ct, osl, rfl, lk, hcd⟩ := F.ex
  refine ⟨len, ?_⟩
  intro A around s H as us vs Q E r g e0 bind rv hq
  have KX : K.In s.heap := e0.mod.kin.keeps fun b o e => (e0.bs b o e).1
  have kinds : ∀ y ∈ ps.zip us, (defScope st).names.lookup y.1 = some .local ∨ ((defScope st).names.lookup y.1 = some .cell ∧ ((cellsFrom (s.heap.objs.size + 1) (defScope st).names []).lookup y.1).isSome = true) := by
    rintro ⟨n, v⟩ hy
    rcases S.par n (List.of_mem_zip hy).1 with q | q
    · exact .inl q
    · exact .inr ⟨q, PySem.W.cellsFrom_some _ _ _ (.inl q)⟩
  refine codeAny_call_function r.depth (KX _ _ lk) rfl S.co S.gen rfl (PySem.W.codeRec_of KX hcd) (bind _ _ _ _ ?_)
  refine wpAny_newFunctionEnv_cells S.kind kinds ?_
  intro env he s1 x
  subst he
  refine ⟨Heap.NoLimit.keeps (e0.mod.nolimit.keeps fun b o e => (e0.bs b o e).1) x.toInCall.keep, codeAny_func ?_⟩
  obtain ⟨t, ht, hrun⟩ := hb cdv A around s H vs Q E rfl (r.deeper _) g hq
  have I := inv_start (CX := CX) (E := E) S r.hd e0 (len _ _ _ _ hq) rv x
  refine wpAny_mono (ht.run [] s1 (start N vs) H _ I hrun) ?_ (fun e s' hs => hs)
  intro fl s' hs
  cases fl with
  | ret u =>
    obtain ⟨v, σ', H', J, rv', q⟩ := hs
    exact ⟨v, H', J.os, J.bare, J.base, J.hok, rv', q⟩
  | next =>
    obtain ⟨σ', H', J, q⟩ := hs
    exact ⟨V.non, H', J.os, J.bare, J.base, J.hok, rfl, q⟩
  | brk => exact hs.elim fun _ ⟨_, _, q⟩ => q.elim
  | cont => exact hs.elim fun _ ⟨_, _, q⟩ => q.elim
theorem okGc {x qual : Str} {st : Stmt} {N : List Str} (F : Fun K x qual st f fd) (S : FnScope N ps (defScope st)) (len : ∀ vs H Q E, sp vs H Q E → vs.length = ps.length)
    (hb : ∀ (cdv : Value) (A : Around) (around : List Env) (s : Shared) (H : Hp) (vs : List V) (Q : VK) (E : XK), fd.code = cdv → Room k (A.deeper (envOfC qual (defScope st) s.heap.objs.size f cdv)) → A.guards = some [] → sp vs H Q E →
      ∃ t, PSs (cxOf CX0 P w K mg base N qual (defScope st) f cdv A around s H E).nox (defBody st) t ∧ t { nx := fun _ H' => Q .non H', rt := Q } (start N vs) H) :
    FnG P w K mg base CX0 (k + 1) f fd ps sp :=
  bodyGc F S len fun cdv A around s H vs Q E c r g h => by
    obtain ⟨t, ht, q⟩ := hb cdv A around s H vs Q E c r g h
    exact ⟨t, ht.nox, q⟩
end
/-- the heap at the start: the script, if it is no part of the text, and the empty tables -/
def OnlyT (cs : List (Addr × Addr)) (a : Addr) (K : PySem.W.Frag) (H : Hp) : Prop :=
  ∀ b, H b = none ∨ (b ∈ cs.map (·.2) ∧ H b = some (.tbl #[])) ∨ (b = a ∧ K.lookup a = none ∧ ∃ o xs, H b = some (.frz o (.lst xs)))
section
variable {P : Program} {w : World} {K : PySem.W.Frag} {mg mb : Str → Option Value} {k : Nat} {fa a : Addr} {fd : FuncData} {x : Str} {sp : Sp} {s₁ : Shared} {vs : List Value} {ns : List Int} {cs : List (Addr × Addr)}
theorem lawT0 {H : Hp} (KX : K.In s₁.heap) (hns : s₁.heap.Ns mainGlobals mg) (hb : s₁.heap.Ns builtinsNs mb) (hbb : ∀ x : Str, x ≠ "__name__" → mb x = bootBuiltins x) (hlim : s₁.heap.NoLimit) (hg : s₁.gens = #[])
    (hT : ∀ p ∈ cs, s₁.heap.get? p.2 = some { cls := .none, data := .fields #[] }) (nT : ∀ p ∈ cs, K.lookup p.2 = none) (C : ∀ p ∈ cs, PySem.W.CodeHd s₁.heap p.1 p.2)
    (hbm : ∃ (bm : Addr) (ob : Obj), mg "__builtins__" = some (.ref bm) ∧ bm ≠ builtinsNs ∧ s₁.heap.get? bm = some ob ∧ ob.cls = .type "module" ∧ ob.dict = some builtinsNs ∧ ob.data = .plain)
    (ha : s₁.heap.get? a = some { cls := .type "list", data := .seq vs.toArray }) (hr : Room k callerA)
    (F : ∀ base : Heap, K.In base → base.Ns mainGlobals mg → (∀ p ∈ cs, TabB base mg p.1 p.2) → FnG P w K mg base CX0 k fa fd [x] sp) (hbind : ∀ (s : Shared) (u : Value), BindsTo s fd ⟨[u], []⟩ [(x, u)])
    (hO : OnlyT cs a K H) (hP : ∀ p ∈ cs, H p.2 = some (.tbl #[])) (hok : HOk P w H s₁.heap) (hsp : sp [.ref a] H (fun v _ => v = .bl true) fun _ _ _ => False) :
    codeAny (model P w) callerA (.call (.ref fa) ⟨[.ref a], []⟩) (fun r s' => r = .ok (.ret (.bool true)) ∧ OldK s₁.heap s'.heap ∧ s'.os = s₁.os ∧ AllBare s'.gens) s₁ := by
  have tabAt : ∀ b ∈ cs.map (·.2), s₁.heap.get? b = some { cls := .none, data := .fields #[] } := by
    intro b hb
    obtain ⟨p, hp, rfl⟩ := List.mem_map.mp hb
    exact hT p hp
  have untold : ∀ {b : Addr} {o : Obj}, s₁.heap.get? b = some o → ((∀ xs n, o.data ≠ .seq xs n) ∧ o.data ≠ .fields #[]) ∨ K.lookup b ≠ none → H b = none := by
    intro b o e z
    rcases hO b with q | ⟨q, _⟩ | ⟨rfl, q, _⟩
    · exact q
    · rcases z with z | z
      · have t := tabAt b q
        rw [e] at t
        cases t
        exact absurd rfl z.2
      · obtain ⟨p, hp, rfl⟩ := List.mem_map.mp q
        exact absurd (nT p hp) z
    · rcases z with z | z
      · rw [ha] at e
        cases e
        exact absurd rfl (z.1 _ _)
      · exact absurd q z
  have dictU : ∀ {b : Addr} {o : Obj} {es : Array DictEntry} {ep : Nat}, s₁.heap.get? b = some o → o.data = .dict es ep → H b = none := fun e d => untold e (.inl ⟨(fun xs n z => by rw [d] at z; cases z), (fun z => by rw [d] at z; cases z)⟩)
  have nsB : ∀ {b : Addr} {m : Str → Option Value}, s₁.heap.Ns b m → (hidT s₁.heap H).Ns b m := by
    rintro b m ⟨o, es, ep, e, d, r⟩
    exact ⟨o, es, ep, hidT_get e (dictU e d), d, r⟩
  have hKb : K.In (hidT s₁.heap H) := fun b o e => hidT_get (KX b o e) (untold (KX b o e) (.inr (by rw [e]; exact Option.some_ne_none o)))
  have hM : Mod K mg (hidT s₁.heap H) := ⟨hKb, nsB hns, ⟨mb, nsB hb, hbb⟩, hlim.elim fun mc z => ⟨mc, nsB z.1, z.2⟩⟩
  have TB : ∀ p ∈ cs, TabB (hidT s₁.heap H) mg p.1 p.2 := by
    intro p hp
    have tp := hT p hp
    refine ⟨?_, ?_, fun z => ?_⟩
    · obtain ⟨o, us, file, tf, flags, tg, inF, text, tt, g1, g0, g2, g3, rest⟩ := C p hp
      refine ⟨o, us, file, tf, flags, tg, inF, text, tt, hidT_get g1 (untold g1 (.inl ⟨fun xs n z => ?_, fun z => ?_⟩)), g0, g2, g3, rest⟩
      · rw [g2] at z
        cases z
      · rw [g2] at z
        cases z
        simp at g3
    · obtain ⟨bm, ob, b1, b2, b3, b4, b5, b6⟩ := hbm
      refine ⟨bm, ob, b1, b2, fun q => ?_, fun q => ?_, hidT_get b3 (untold b3 (.inl ⟨fun xs n z => ?_, fun z => ?_⟩)), b4, b5, b6⟩
      · obtain ⟨o, es, ep, e, hd, _⟩ := hns
        rw [q, e] at b3
        cases b3
        rw [hd] at b6
        cases b6
      · rw [q, tp] at b3
        cases b3
        cases b6
      · rw [b6] at z
        cases z
      · rw [b6] at z
        cases z
    · obtain ⟨o, es, ep, e, hd, _⟩ := hns
      rw [z, tp] at e
      cases e
      cases hd
  have e0 : Env0 P w K mg (hidT s₁.heap H) callerA [] s₁ H :=
    ⟨rfl, hM, fun b o e => of_hidT e, Nat.le_of_eq (hidT_size _ _), trivial, fun b hb => absurd hb List.not_mem_nil, hok, .of_eq hg⟩
  refine codeAny_mono ((F _ hKb (nsB hns) TB).go callerA [] s₁ H ⟨[.ref a], []⟩ [.ref a] [.ref a] _ _ hr rfl e0 (hbind s₁ (.ref a)) (.cons rfl .nil) hsp) ?_
  intro r s' h
  cases r with
  | error e => exact False.elim h
  | ok fl => cases fl with
    | next => exact False.elim h
    | brk => exact False.elim h
    | cont => exact False.elim h
    | ret u =>
      obtain ⟨v, H', os, bare, un, hok', r', q⟩ := h
      have q' : v = .bl true := q
      subst q'
      have r2 : u = Value.bool true := r'
      subst r2
      have same : ∀ b o, b ∉ cs.map (·.2) → s₁.heap.get? b = some o → s'.heap.get? b = some o := by
        intro b o nb e
        rcases hO b with z | ⟨z, _⟩ | ⟨rfl, _, ob, xs, z⟩
        · exact un.keep b o e z List.not_mem_nil List.not_mem_nil
        · exact absurd z nb
        · obtain ⟨e1, _⟩ := hok _ _ z
          obtain ⟨e2, _⟩ := hok' _ _ (un.frzs _ ob _ z)
          rw [e] at e1
          cases e1
          exact e2
      have grown : ∀ b ∈ cs.map (·.2), ∃ more : Array Value, s'.heap.get? b = some { cls := .none, data := .fields more } := by
        intro b hb
        obtain ⟨p, hp, rfl⟩ := List.mem_map.mp hb
        obtain ⟨more, z⟩ := un.tbls p.2 #[] (hP p hp)
        exact ⟨_, hok' p.2 _ z⟩
      refine ⟨rfl, ⟨fun b o e => ?_, fun b o e => ?_⟩, os, bare⟩
      · by_cases hb : b ∈ cs.map (·.2)
        · obtain ⟨more, hm⟩ := grown b hb
          obtain ⟨p, hp, rfl⟩ := List.mem_map.mp hb
          rw [hT p hp] at e
          cases e
          exact .inr (.inl ⟨((C p hp).tab (hT p hp)).isCodeTable, rfl, #[], more, rfl, by rw [Array.empty_append]; exact hm⟩)
        · exact .inl (same b o hb e)
      · by_cases hb : b ∈ cs.map (·.2)
        · obtain ⟨more, hm⟩ := grown b hb
          exact ⟨_, hm⟩
        · exact ⟨o, same b o hb e⟩
theorem lawT (KX : K.In s₁.heap) (hns : s₁.heap.Ns mainGlobals mg) (hb : s₁.heap.Ns builtinsNs mb) (hbb : ∀ x : Str, x ≠ "__name__" → mb x = bootBuiltins x) (hlim : s₁.heap.NoLimit) (hg : s₁.gens = #[])
    (hT : ∀ p ∈ cs, s₁.heap.get? p.2 = some { cls := .none, data := .fields #[] }) (nT : ∀ p ∈ cs, K.lookup p.2 = none) (C : ∀ p ∈ cs, PySem.W.CodeHd s₁.heap p.1 p.2)
    (hbm : ∃ (bm : Addr) (ob : Obj), mg "__builtins__" = some (.ref bm) ∧ bm ≠ builtinsNs ∧ s₁.heap.get? bm = some ob ∧ ob.cls = .type "module" ∧ ob.dict = some builtinsNs ∧ ob.data = .plain)
    (ha : s₁.heap.get? a = some { cls := .type "list", data := .seq vs.toArray }) (hi : IntsAre vs ns) (hl : ns.length ≤ sizeLine) (hr : Room k callerA)
    (F : ∀ base : Heap, K.In base → base.Ns mainGlobals mg → (∀ p ∈ cs, TabB base mg p.1 p.2) → FnG P w K mg base CX0 k fa fd [x] sp) (hbind : ∀ (s : Shared) (u : Value), BindsTo s fd ⟨[u], []⟩ [(x, u)])
    (hsp : ∀ H : Hp, (∀ p ∈ cs, H p.2 = some (.tbl #[])) → SqL K H a (ns.map V.int) → sp [.ref a] H (fun v _ => v = .bl true) fun _ _ _ => False) :
    codeAny (model P w) callerA (.call (.ref fa) ⟨[.ref a], []⟩) (fun r s' => r = .ok (.ret (.bool true)) ∧ OldK s₁.heap s'.heap ∧ s'.os = s₁.os ∧ AllBare s'.gens) s₁ := by
  have rv := vals_ints hi
  have tabAt : ∀ b ∈ cs.map (·.2), s₁.heap.get? b = some { cls := .none, data := .fields #[] } := by
    intro b hb
    obtain ⟨p, hp, rfl⟩ := List.mem_map.mp hb
    exact hT p hp
  have na : a ∉ cs.map (·.2) := fun z => by
    have q := tabAt a z
    rw [ha] at q
    have q' : Data.seq vs.toArray _ = Data.fields #[] := congrArg Obj.data (Option.some.inj q)
    cases q'
  cases hk : K.lookup a with
  | some o =>
    have e := KX a o hk
    rw [ha] at e
    cases e
    have hP : ∀ p ∈ cs, (fun b => if b ∈ cs.map (·.2) then some (HO.tbl #[]) else none : Hp) p.2 = some (.tbl #[]) := fun p hp => if_pos (List.mem_map.mpr ⟨p, hp, rfl⟩)
    refine lawT0 (H := fun b => if b ∈ cs.map (·.2) then some (.tbl #[]) else none) KX hns hb hbb hlim hg hT nT C hbm ha hr F hbind (fun b => ?_) hP (fun b u z => ?_) (hsp _ hP (.inr ⟨_, vs.toArray, _, hk, rfl, rfl, rfl, ?_, ?_⟩))
    · by_cases h : b ∈ cs.map (·.2)
      · exact .inr (.inl ⟨h, if_pos h⟩)
      · exact .inl (if_neg h)
    · by_cases h : b ∈ cs.map (·.2)
      · cases (if_pos h).symm.trans z
        exact tabAt b h
      · cases (if_neg h).symm.trans z
    · rw [List.size_toArray, hi.length]
      exact hl
    · rw [List.toList_toArray]
      exact rv
  | none =>
    have hP : ∀ p ∈ cs, (upd (fun b => if b ∈ cs.map (·.2) then some (HO.tbl #[]) else none) a (.frz { cls := .type "list", data := .seq vs.toArray } (.lst (ns.map V.int))) : Hp) p.2 = some (.tbl #[]) := fun p hp => by
      have m : p.2 ∈ cs.map (·.2) := List.mem_map.mpr ⟨p, hp, rfl⟩
      rw [upd_ne (show p.2 ≠ a from fun z => na (by rw [← z]; exact m))]
      exact if_pos m
    refine lawT0 (H := upd (fun b => if b ∈ cs.map (·.2) then some (.tbl #[]) else none) a (.frz { cls := .type "list", data := .seq vs.toArray } (.lst (ns.map V.int)))) KX hns hb hbb hlim hg hT nT C hbm ha hr F hbind (fun b => ?_) hP (fun b u z => ?_) (hsp _ hP (.inl (.inr ⟨_, upd_same⟩)))
    · by_cases h : b = a
      · subst h
        exact .inr (.inr ⟨rfl, hk, _, _, upd_same⟩)
      · rw [upd_ne h]
        by_cases h2 : b ∈ cs.map (·.2)
        · exact .inr (.inl ⟨h2, if_pos h2⟩)
        · exact .inl (if_neg h2)
    · by_cases h : b = a
      · subst h
        rw [upd_same] at z
        cases z
        exact ⟨ha, by rw [List.length_map]; exact hl, vs, _, rv, ha⟩
      · rw [upd_ne h] at z
        by_cases h2 : b ∈ cs.map (·.2)
        · cases (if_pos h2).symm.trans z
          exact tabAt b h2
        · cases (if_neg h2).symm.trans z
end
/-- what is to be shown of a law whose defs make lambdas -/
def LawT (l : PySem.W.OpenLaw) (w : World) (K : PySem.W.Frag) (k n : Nat) (x : Str) (mg : Str → Option Value) (fa : Addr) (h : Heap) : Prop :=
  ∃ (fd : FuncData) (cs : List (Addr × Addr)) (sp : Sp), (∀ p ∈ cs, h.get? p.2 = some { cls := .none, data := .fields #[] }) ∧ (∀ p ∈ cs, K.lookup p.2 = none) ∧ (∀ p ∈ cs, PySem.W.CodeHd h p.1 p.2) ∧ (∀ (s : Shared) (u : Value), BindsTo s fd ⟨[u], []⟩ [(x, u)]) ∧
    (∀ (H : Hp) (a : Addr) (ns : List Int), ns.length ≤ n → (∀ p ∈ cs, H p.2 = some (.tbl #[])) → SqL K H a (ns.map V.int) → sp [.ref a] H (fun v _ => v = .bl true) fun _ _ _ => False) ∧
    ∀ base : Heap, K.In base → base.Ns mainGlobals mg → (∀ p ∈ cs, TabB base mg p.1 p.2) → FnG l.prog w K mg base CX0 k fa fd [x] sp
theorem walkT {l : PySem.W.OpenLaw} {n k : Nat} {q : Program} {loose : List Str} {XP : (Str → Option Value) → Heap → Prop} {YP : World → Heap → Prop} {d : DefRec} {K : Params → PySem.W.Frag} {x : Str}
    (hn : l.most = some n) (hn2 : n ≤ sizeLine) (hdf : d.params.defaults = []) (hr : Room k callerA) (hY : ∀ (w : World) (h : Heap), YP w h → (K w.params).In h)
    (F : ∀ (w : World) (mg mb : Str → Option Value) (fa : Addr) (h : Heap) (lo : List Str) (me : ExcName → Option Value), YP w h → (K w.params).In h → Top q lo me mg mb h → mg d.name = some (.ref fa) → LawT l w (K w.params) k n x mg fa h) :
    PySem.W.WalkO q loose XP YP l.row.toRowW d [] (fun f vs => PySem.call f vs) := by
  refine Att.attach_callB hn hdf fun w s₀ s₁ mg mb fa o pm cd doc a vs ns G Y ho hd hcd hmg hobj hints hlen hbits hg => ?_
  have KX := hY w _ Y
  obtain ⟨fd, cs, sp, hT, nT, C, hb, hsp, hF⟩ := F w mg mb fa _ _ _ Y KX G.T hmg
  exact lawT KX G.T.g G.T.b G.T.builtins G.T.nolimit hg hT nT C G.T.bmain hobj hints (Nat.le_trans hlen hn2) hr hF hb fun H hH hS => hsp H a ns hlen hH hS
theorem tabIn_of {K : PySem.W.Frag} {x : Str} {f c P : Addr} {oc : Value} {od : Option Addr} {fd : FuncData} {sl : Array (Option Value)} {ob : Value} {oe : Option Addr} {vs : Array Value} {of : Array (Option Value)} (a : PySem.W.nsIn K mainGlobals x = some (some (.ref f))) (l : K.lookup f = some ⟨oc, od, .func fd, sl⟩) (hc : fd.code = .ref c)
    (lc : K.lookup c = some ⟨ob, oe, .fields vs, of⟩) (hv : vs[11]? = some (.ref P)) : PySem.W.tabIn K x = some (c, P) := by
  unfold PySem.W.tabIn
  rw [a]
  simp only [l, hc, lc, hv]
end Hr

/-! Rows that are moved by a step: the coefficients of p(t + s), s = 1 or -1. -/
namespace HrM
def sumN : Nat → (Nat → Int) → Int
  | 0, _ => 0
  | n + 1, f => sumN n f + f n
theorem sumN_range (n : Nat) (f : Nat → Int) : ((List.range n).map f).sum = sumN n f := by
  induction n with
  | zero => rfl
  | succ n ih =>
    rw [List.range_succ, List.map_append, List.sum_append, ih]
    show sumN n f + (f n + 0) = _
    rw [Int.add_zero]
    rfl
theorem sumN_congr {n : Nat} {f g : Nat → Int} (h : ∀ i, i < n → f i = g i) : sumN n f = sumN n g := by
  induction n with
  | zero => rfl
  | succ n ih =>
    show sumN n f + f n = sumN n g + g n
    rw [ih fun i hi => h i (by omega), h n (by omega)]
theorem sumN_add (n : Nat) (f g : Nat → Int) : sumN n (fun i => f i + g i) = sumN n f + sumN n g := by
  induction n with
  | zero => rfl
  | succ n ih =>
    show sumN n _ + (f n + g n) = (sumN n f + f n) + (sumN n g + g n)
    rw [ih]
    omega
theorem sumN_mul (n : Nat) (c : Int) (f : Nat → Int) : sumN n (fun i => c * f i) = c * sumN n f := by
  induction n with
  | zero => exact (Int.mul_zero c).symm
  | succ n ih =>
    show sumN n _ + _ = c * (sumN n f + f n)
    rw [ih, Int.mul_add]
theorem sumN_abs {n B : Nat} {f : Nat → Int} (h : ∀ i, i < n → (f i).natAbs ≤ B) : (sumN n f).natAbs ≤ n * B := by
  induction n with
  | zero => simp [sumN]
  | succ n ih =>
    have h1 := ih fun i hi => h i (by omega)
    have h2 := h n (by omega)
    have h3 : (sumN (n + 1) f).natAbs ≤ (sumN n f).natAbs + (f n).natAbs := Int.natAbs_add_le _ _
    rw [Nat.succ_mul]
    omega
def sg (s : Int) (n : Nat) : Int := if n % 2 = 0 then 1 else s
theorem sg_succ {s : Int} (h : s * s = 1) (n : Nat) : sg s (n + 1) = s * sg s n := by
  unfold sg
  by_cases e : n % 2 = 0
  · rw [if_pos e, if_neg (by omega), Int.mul_one]
  · rw [if_neg e, if_pos (by omega), h]
def tmv (s : Int) (d : Nat) (x : Nat → Int) (j i : Nat) : Int := sg s (j - i) * ((ch (d - i) (j - i) : Nat) : Int) * x i
def mvA (s : Int) (d : Nat) (x : Nat → Int) (j : Nat) : Int := sumN (j + 1) (tmv s d x j)
section
variable {s t : Int} {d : Nat} {x y z : Nat → Int}
theorem tmv_self (j : Nat) : tmv s d x j j = x j := by
  unfold tmv
  rw [Nat.sub_self, ch_zero]
  show 1 * 1 * x j = x j
  rw [Int.one_mul, Int.one_mul]
theorem mvA_zero : mvA s d x 0 = x 0 := by
  show 0 + tmv s d x 0 0 = x 0
  rw [tmv_self, Int.zero_add]
theorem mvA_step (h : s * s = 1) {j : Nat} (hj : j ≤ d) : mvA s (d + 1) x (j + 1) = mvA s d x (j + 1) + s * mvA s d x j := by
  show sumN (j + 1) (tmv s (d + 1) x (j + 1)) + tmv s (d + 1) x (j + 1) (j + 1) = sumN (j + 1) (tmv s d x (j + 1)) + tmv s d x (j + 1) (j + 1) + s * sumN (j + 1) (tmv s d x j)
  have e : sumN (j + 1) (tmv s (d + 1) x (j + 1)) = sumN (j + 1) (tmv s d x (j + 1)) + s * sumN (j + 1) (tmv s d x j) := by
    rw [← sumN_mul, ← sumN_add]
    apply sumN_congr
    intro i hi
    unfold tmv
    rw [show d + 1 - i = (d - i) + 1 by omega, show j + 1 - i = (j - i) + 1 by omega, ch_succ, sg_succ h, Int.natCast_add]
    generalize ((ch (d - i) (j - i) : Nat) : Int) = a
    generalize ((ch (d - i) (j - i + 1) : Nat) : Int) = b
    rw [Int.mul_add, Int.add_mul, Int.mul_assoc s (sg s (j - i)) a, Int.mul_assoc s, Int.add_comm]
  rw [e, tmv_self, tmv_self]
  omega
theorem mvA_top : mvA s d x (d + 1) = x (d + 1) := by
  show sumN (d + 1) (tmv s d x (d + 1)) + tmv s d x (d + 1) (d + 1) = _
  have e : sumN (d + 1) (tmv s d x (d + 1)) = sumN (d + 1) fun _ => 0 := by
    apply sumN_congr
    intro i hi
    unfold tmv
    rw [ch_lt (by omega)]
    show sg s _ * 0 * x i = 0
    rw [Int.mul_zero, Int.zero_mul]
  have e2 : ∀ n : Nat, sumN n (fun _ => 0) = 0 := by
    intro n
    induction n with
    | zero => rfl
    | succ n ih =>
      show sumN n _ + 0 = 0
      rw [ih]
      rfl
  rw [e, e2, tmv_self, Int.zero_add]
/-- the value at t, the first coefficient the highest -/
def ev : Nat → (Nat → Int) → Int → Int
  | 0, y, _ => y 0
  | n + 1, y, t => t * ev n y t + y (n + 1)
theorem ev_step (h : s * s = 1) : ∀ m : Nat, m ≤ d → ev (m + 1) (mvA s (d + 1) x) t = ev (m + 1) (mvA s d x) t + s * ev m (mvA s d x) t
  | 0, hm => by
    show t * mvA s (d + 1) x 0 + mvA s (d + 1) x 1 = t * mvA s d x 0 + mvA s d x 1 + s * mvA s d x 0
    rw [show mvA s (d + 1) x 1 = mvA s d x 1 + s * mvA s d x 0 from mvA_step h hm, mvA_zero, mvA_zero]
    omega
  | m + 1, hm => by
    show t * ev (m + 1) (mvA s (d + 1) x) t + mvA s (d + 1) x (m + 1 + 1) = t * ev (m + 1) (mvA s d x) t + mvA s d x (m + 1 + 1) + s * (t * ev m (mvA s d x) t + mvA s d x (m + 1))
    rw [ev_step h m (by omega), mvA_step h hm, Int.mul_add t, Int.mul_add s, ← Int.mul_assoc t s, ← Int.mul_assoc s t, Int.mul_comm t s]
    omega
theorem ev_mv (h : s * s = 1) : ∀ d : Nat, ev d (mvA s d x) t = ev d x (t + s)
  | 0 => mvA_zero
  | d + 1 => by
    rw [ev_step h d (Nat.le_refl d)]
    show t * ev d (mvA s d x) t + mvA s d x (d + 1) + s * ev d (mvA s d x) t = (t + s) * ev d x (t + s) + x (d + 1)
    rw [mvA_top, ev_mv h d, Int.add_mul]
    omega
theorem ev_sub : ∀ d : Nat, ev d (fun i => y i - z i) t = ev d y t - ev d z t
  | 0 => rfl
  | d + 1 => by
    show t * ev d _ t + (y (d + 1) - z (d + 1)) = t * ev d y t + y (d + 1) - (t * ev d z t + z (d + 1))
    rw [ev_sub d, Int.mul_sub]
    omega
theorem ev_none : ∀ (d : Nat) (y : Nat → Int), (∀ t : Int, t ≠ 0 → ev d y t = 0) → ∀ j, j ≤ d → y j = 0
  | 0, y, h, j, hj => by
    rw [show j = 0 by omega]
    exact h 1 (by decide)
  | d + 1, y, h, j, hj => by
    have e : y (d + 1) = 0 := by
      have h1 := h ((y (d + 1)).natAbs + 1) (by omega)
      have h2 : ((y (d + 1)).natAbs + 1 : Int) * ev d y ((y (d + 1)).natAbs + 1) + y (d + 1) = 0 := h1
      generalize ev d y ((y (d + 1)).natAbs + 1) = E at h2
      generalize y (d + 1) = v at h2 ⊢
      by_cases hE : E = 0
      · rw [hE, Int.mul_zero, Int.zero_add] at h2
        exact h2
      · have h3 : (((v.natAbs + 1 : Nat) : Int) * E).natAbs = (v.natAbs + 1) * E.natAbs := by rw [Int.natAbs_mul, Int.natAbs_natCast]
        have h4 : (v.natAbs + 1) * 1 ≤ (v.natAbs + 1) * E.natAbs := Nat.mul_le_mul_left _ (by omega)
        have h5 : ((v.natAbs + 1 : Nat) : Int) * E = -v := by
          have : (v.natAbs + 1 : Int) = ((v.natAbs + 1 : Nat) : Int) := by omega
          rw [← this]
          omega
        rw [h5, Int.natAbs_neg] at h3
        omega
    by_cases hj2 : j = d + 1
    · rw [hj2]
      exact e
    · refine ev_none d y (fun t ht => ?_) j (by omega)
      have h1 : t * ev d y t + y (d + 1) = 0 := h t ht
      rw [e, Int.add_zero] at h1
      rcases Int.mul_eq_zero.mp h1 with z | z
      · exact absurd z ht
      · exact z
theorem ev_only (h : ∀ t, ev d y t = ev d z t) {j : Nat} (hj : j ≤ d) : y j = z j := by
  have := ev_none d (fun i => y i - z i) (fun t _ => by rw [ev_sub, h]; omega) j hj
  have e : y j - z j = 0 := this
  omega
/-- there and back -/
theorem mvA_back (h : s * s = 1) {s' : Int} (hs : s' = -s) {j : Nat} (hj : j ≤ d) : mvA s' d (mvA s d x) j = x j := by
  subst hs
  refine ev_only (fun t => ?_) hj
  rw [ev_mv (by rw [Int.neg_mul_neg, h]), ev_mv h]
  congr 1
  omega
theorem mvA_congr {j : Nat} (h : ∀ i, i ≤ j → x i = y i) : mvA s d x j = mvA s d y j := by
  apply sumN_congr
  intro i hi
  unfold tmv
  rw [h i (by omega)]
theorem ev_one : ∀ d : Nat, ev d y 1 = sumN (d + 1) y
  | 0 => (Int.zero_add _).symm
  | d + 1 => by
    show 1 * ev d y 1 + y (d + 1) = sumN (d + 1) y + y (d + 1)
    rw [Int.one_mul, ev_one d]
theorem ev_nul : ∀ d : Nat, ev d y 0 = y d
  | 0 => rfl
  | d + 1 => by
    show 0 * ev d y 0 + y (d + 1) = _
    rw [Int.zero_mul, Int.zero_add]
/-- the sum of the moved row is the last of the row -/
theorem mv_sum : sumN (d + 1) (mvA (-1) d x) = x d := by
  rw [← ev_one, ev_mv (by decide)]
  exact ev_nul d
def sgn (n : Nat) (v : Int) : Int := if n % 2 = 0 then v else -v
theorem ev_alt : ∀ d : Nat, (if d % 2 = 1 then ev d y (-1) else -ev d y (-1)) = sumN d (fun i => sgn i (y (i + 1))) - y 0
  | 0 => by
    show -y 0 = 0 - y 0
    omega
  | d + 1 => by
    have ih := ev_alt d
    show (if (d + 1) % 2 = 1 then (-1) * ev d y (-1) + y (d + 1) else -((-1) * ev d y (-1) + y (d + 1))) = sumN d (fun i => sgn i (y (i + 1))) + sgn d (y (d + 1)) - y 0
    unfold sgn at ih ⊢
    by_cases e : d % 2 = 1
    · rw [if_pos e] at ih
      rw [if_neg (by omega), if_neg (by omega)]
      omega
    · rw [if_neg e] at ih
      rw [if_pos (by omega), if_pos (by omega)]
      omega
theorem mv_last : (if d % 2 = 1 then mvA (-1) d x d else -mvA (-1) d x d) = sumN d (fun i => sgn i (x (i + 1))) - x 0 := by
  have e : mvA (-1) d x d = ev d x (-1) := by
    rw [← ev_nul (y := mvA (-1) d x) d, ev_mv (by decide)]
    rfl
  rw [e]
  exact ev_alt d
theorem ch_two (n : Nat) : ∀ k : Nat, ch n k ≤ 2 ^ n := by
  induction n with
  | zero =>
    intro k
    cases k with
    | zero => exact Nat.le_refl 1
    | succ k => exact Nat.zero_le _
  | succ n ih =>
    intro k
    cases k with
    | zero => rw [ch_zero]; exact Nat.one_le_two_pow
    | succ k =>
      have h1 := ih k
      have h2 := ih (k + 1)
      rw [ch_succ, Nat.pow_succ]
      omega
theorem sg_abs (hs : s = 1 ∨ s = -1) (n : Nat) : (sg s n).natAbs = 1 := by
  unfold sg
  split
  · rfl
  · rcases hs with rfl | rfl <;> rfl
theorem tmv_abs (hs : s = 1 ∨ s = -1) {b j i : Nat} (hd : d ≤ 16) (hx : (x i).natAbs < 2 ^ b) : (tmv s d x j i).natAbs ≤ 2 ^ (16 + b) := by
  unfold tmv
  rw [Int.natAbs_mul, Int.natAbs_mul, sg_abs hs, Int.natAbs_natCast, Nat.one_mul, Nat.pow_add]
  refine Nat.mul_le_mul ?_ (Nat.le_of_lt hx)
  exact Nat.le_trans (ch_two _ _) (Nat.pow_le_pow_right (by decide) (by omega))
theorem mvA_abs (hs : s = 1 ∨ s = -1) {b j : Nat} (hd : d ≤ 16) (hj : j ≤ 16) (hx : ∀ i, i ≤ j → (x i).natAbs < 2 ^ b) : (mvA s d x j).natAbs < 2 ^ (22 + b) := by
  have h1 := sumN_abs (n := j + 1) (B := 2 ^ (16 + b)) (f := tmv s d x j) fun i hi => tmv_abs hs hd (hx i (by omega))
  have h2 : (j + 1) * 2 ^ (16 + b) ≤ 17 * 2 ^ (16 + b) := Nat.mul_le_mul_right _ (by omega)
  have h3 : 2 ^ (22 + b) = 64 * 2 ^ (16 + b) := by rw [show 22 + b = 6 + (16 + b) by omega, Nat.pow_add]
  have h4 : 0 < 2 ^ (16 + b) := Nat.two_pow_pos _
  have h5 : (mvA s d x j).natAbs ≤ (j + 1) * 2 ^ (16 + b) := h1
  omega
end
end HrM

/-! t + u and t[lo:hi] of tuples, whole or not: what comes is new, or one of them. -/
namespace Hr
open PySem PySem.Spec PyProof.Rows L2 Evl
/-- p holds the tuple zs at H', that is H, or H with p new -/
def Came (H : Hp) (p : Addr) (zs : List V) (H' : Hp) (old : List Addr) : Prop := (H' = H ∧ p ∈ old ∧ H p = some (.tup zs)) ∨ (H p = none ∧ H' = upd H p (.tup zs))
theorem Came.ex {H H' : Hp} {p : Addr} {zs : List V} {old : List Addr} (c : Came H p zs H' old) : Ex H H' := by
  rcases c with ⟨rfl, _, _⟩ | ⟨h, rfl⟩
  · exact Ex.refl _
  · exact Ex.new h
theorem Came.at {H H' : Hp} {p : Addr} {zs : List V} {old : List Addr} (c : Came H p zs H' old) : H' p = some (.tup zs) := by
  rcases c with ⟨rfl, _, h⟩ | ⟨h, rfl⟩
  · exact h
  · exact upd_same
def rCatN : R2 := fun x y H Q => ∃ a b xs ys, x = .ref a ∧ y = .ref b ∧ H a = some (.tup xs) ∧ H b = some (.tup ys) ∧ xs.length + ys.length ≤ sizeLine ∧ ∀ p H', Came H p (xs ++ ys) H' [a, b] → Q (.ref p) H'
theorem op_catN {X : Cx} : OpR X (binaryOp .Add) rCatN := by
  intro pins s σ H x y v u Q I rx ry h
  obtain ⟨a, b, xs, ys, ex, ey, ha, hb, hz, q⟩ := h
  refine op_catA pins s σ H x y v u Q I rx ry ⟨a, b, xs, ys, ex, ey, SqT.of ha, SqT.of hb, hz, fun e => ?_, fun _ e => ?_, fun _ _ p np => ?_⟩
  · refine q b H (.inl ⟨rfl, by simp, ?_⟩)
    rw [e]
    exact hb
  · refine q a H (.inl ⟨rfl, by simp, ?_⟩)
    rw [e, List.append_nil]
    exact ha
  · exact q p _ (.inr ⟨np, rfl⟩)
def rSlN : V → Option Int → Option Int → Hp → VK → Prop := fun x lo hi H Q => ∃ a xs, x = .ref a ∧ H a = some (.tup xs) ∧ ∀ p H', Came H p (cutV xs lo hi) H' [a] → Q (.ref p) H'
theorem sl_tupN {X : Cx} : SlR X rSlN := by
  intro pins s σ H x v vl vu lo hi sl Q I rx hs pl pu h
  obtain ⟨a, xs, ex, ha, q⟩ := h
  refine sl_tupA pins s σ H x v vl vu lo hi sl Q I rx hs pl pu ⟨a, xs, ex, SqT.of ha, fun w => ?_, fun _ p np => q p _ (.inr ⟨np, rfl⟩)⟩
  refine q a H (.inl ⟨rfl, by simp, ?_⟩)
  have e : cutV xs lo hi = xs := by
    unfold cutV
    rw [w.1, w.2, List.drop_zero, Nat.sub_zero, List.take_length]
  rw [e]
  exact ha
/-- beside a deck -/
theorem Dk.came {G H H' : Hp} {d p : Addr} {zs : List V} {old : List Addr} (k : Dk G d H) (c : Came H p zs H' old) (ho : ∀ a ∈ old, G a ≠ none) : ∃ G', Ex G G' ∧ G' p = some (.tup zs) ∧ Dk G' d H' := by
  rcases c with ⟨rfl, m, h⟩ | ⟨h, rfl⟩
  · refine ⟨G, Ex.refl G, ?_, k⟩
    cases e : G p with
    | none => exact absurd e (ho p m)
    | some o =>
      have := k.get e
      rw [h] at this
      exact this.symm
  · exact ⟨_, k.gex h, upd_same, k.made h⟩
section
variable {K : PySem.W.Frag} {σ : L2.St} {H : Hp} {te tl : TE} {g : TG} {tt : TT} {vs : List Nat} {ys : List V}
/-- over a tuple made on the way -/
theorem el_lcTN (hl : EvU tl σ H ys) (f : Nat → Bool) (v : Nat → V) (hz : ys.length ≤ 40000)
    (hs : ∀ i x H2, Ex H H2 → ys[i]? = some x → ∃ σ2, (∀ k : L2.St → Hp → Prop, k σ2 H2 → g x (wipe σ vs) H2 k) ∧ wipe σ2 vs = wipe σ vs ∧ EvT tt σ2 H2 (f i) ∧ (f i = true → Ev te σ2 H2 (v i))) :
    EvL (tLc (iTup K tl) g tt te vs) σ H (given ys.length f v) := fun H0 e Q q =>
  hl H0 e _ fun a H1 _ e1 h1 => ⟨a, rfl, ⟨_, SqT.of h1⟩, lcW (walk_tup (K := K) (a := a) (xs := ys)) f v hz (fun H2 e2 => SqT.of (e2 _ _ h1)) (fun i H1 x H2 y => by rw [y.1]; exact Ex.refl _)
    (fun i x H2 H3 hi e2 y => by
      obtain ⟨rfl, y2⟩ := y
      exact hs i x H3 ((e.trans e1).trans e2) y2) fun p H2 np e2 hp => q p H2 (fresh_back e1 np) (e1.trans e2) hp⟩
end
end Hr

set_option exponentiation.threshold 3000
/-! Values of any kind whose repr can be told. -/
namespace Hr
open PySem PySem.Spec PyProof.Rows L2 Evl
structure Val (d : PyData) (p n : Nat) : Prop where
  sh : d.showable = true
  leaf : d.leavesShort 1921 = true
  dep : d.depth ≤ p
  bulk : d.bulk ≤ n
  own : (valD d).natAbs < 2 ^ 300
  itm : ∀ x ∈ itemsD d, (valD x).natAbs < 2 ^ 300
structure ValL (ds : List PyData) (p n : Nat) : Prop where
  sh : PyData.showableAll ds = true
  leaf : PyData.leavesShortAll 1921 ds = true
  dep : PyData.depthAll ds ≤ p
  bulk : PyData.bulkAll ds ≤ n
  own : ∀ x ∈ ds, (valD x).natAbs < 2 ^ 300
section
variable {d e : PyData} {ds es : List PyData} {p q n m : Nat}
theorem Val.up (h : Val d p n) (hp : p ≤ q) (hn : n ≤ m) : Val d q m := ⟨h.sh, h.leaf, Nat.le_trans h.dep hp, Nat.le_trans h.bulk hn, h.own, h.itm⟩
theorem ValL.up (h : ValL ds p n) (hp : p ≤ q) (hn : n ≤ m) : ValL ds q m := ⟨h.sh, h.leaf, Nat.le_trans h.dep hp, Nat.le_trans h.bulk hn, h.own⟩
theorem ValL.nil : ValL [] 0 0 := ⟨rfl, rfl, Nat.le_refl 0, Nat.le_refl 0, fun x hx => by simp at hx⟩
theorem ValL.cons (h : Val d p n) (t : ValL ds p m) : ValL (d :: ds) p (n + 1 + m) := by
  refine ⟨?_, ?_, ?_, ?_, ?_⟩
  · simp only [PyData.showableAll, h.sh, t.sh, Bool.and_self]
  · simp only [PyData.leavesShortAll, h.leaf, t.leaf, Bool.and_self]
  · simp only [PyData.depthAll]
    exact Nat.max_le.mpr ⟨h.dep, t.dep⟩
  · simp only [PyData.bulkAll]
    have := h.bulk
    have := t.bulk
    omega
  · intro x hx
    rcases List.mem_cons.mp hx with rfl | hx
    · exact h.own
    · exact t.own x hx
theorem ValL.tup (h : ValL ds p n) : Val (.tuple ds) (p + 1) n := by
  refine ⟨?_, ?_, ?_, ?_, by show (0 : Int).natAbs < _; decide, h.own⟩
  · simpa only [PyData.showable] using h.sh
  · simpa only [PyData.leavesShort] using h.leaf
  · have := h.dep
    simp only [PyData.depth]
    omega
  · simpa only [PyData.bulk] using h.bulk
theorem ValL.lst (h : ValL ds p n) : Val (.list ds) (p + 1) n := by
  refine ⟨?_, ?_, ?_, ?_, by show (0 : Int).natAbs < _; decide, fun x hx => by cases hx⟩
  · simpa only [PyData.showable] using h.sh
  · simpa only [PyData.leavesShort] using h.leaf
  · have := h.dep
    simp only [PyData.depth]
    omega
  · simpa only [PyData.bulk] using h.bulk
theorem Val.int {i : Int} (h : i.natAbs < 2 ^ 300) : Val (.int i) 0 0 := by
  have hl : i.natAbs.log2 < 1920 := by
    have := PySem.Flt.log2_lt_of (by decide) h
    omega
  refine ⟨decide_eq_true hl, ?_, Nat.le_refl 0, Nat.le_refl 0, h, fun x hx => by cases hx⟩
  simp only [PyData.leavesShort, decide_eq_true_eq]
  exact int_text_len_1921 hl
theorem Val.bool (b : Bool) : Val (.bool b) 0 0 := ⟨rfl, rfl, Nat.le_refl 0, Nat.le_refl 0, by show (0 : Int).natAbs < _; decide, fun x hx => by cases hx⟩
theorem Val.none : Val .none 0 0 := ⟨rfl, rfl, Nat.le_refl 0, Nat.le_refl 0, by decide, fun x hx => by cases hx⟩
theorem Val.str {x : Str} (h : (x.cps.toList.all fun c => decide (c < 16 ^ 8)) = true) (hn : x.cps.size ≤ n) : Val (.str x) 0 n := ⟨rfl, by simpa only [PyData.leavesShort] using h, Nat.le_refl 0, by simpa only [PyData.bulk] using hn, by show (0 : Int).natAbs < _; decide, fun x hx => by cases hx⟩
theorem Val.dict1 {i : Int} (hi : i.natAbs < 2 ^ 300) (h : Val d p n) : Val (.dict [(.int i, d)]) (p + 1) (n + 2) := by
  have k := Val.int hi
  refine ⟨?_, ?_, ?_, ?_, by show (0 : Int).natAbs < _; decide, fun x hx => by cases hx⟩
  · have z : PyData.showable (.dict [(.int i, d)]) = (PyData.showable (.int i) && PyData.showable d && true) := by rfl
    rw [z, k.sh, h.sh]
    rfl
  · have z : PyData.leavesShort 1921 (.dict [(.int i, d)]) = (PyData.leavesShort 1921 (.int i) && PyData.leavesShort 1921 d && true) := by rfl
    rw [z, k.leaf, h.leaf]
    rfl
  · have := h.dep
    simp only [PyData.depth, PyData.depthKv]
    omega
  · have := h.bulk
    simp only [PyData.bulk, PyData.bulkKv]
    omega
theorem Val.dict2 {x : Str} {i : Int} (hx : Val (.str x) 0 m) (hi : i.natAbs < 2 ^ 300) (h : Val d p n) (he : Val e p 0) : Val (.dict [(.str x, d), (.int i, e)]) (p + 1) (m + n + 4) := by
  have k := Val.int hi
  refine ⟨?_, ?_, ?_, ?_, by show (0 : Int).natAbs < _; decide, fun x hx => by cases hx⟩
  · have z : PyData.showable (.dict [(.str x, d), (.int i, e)]) = (PyData.showable (.str x) && PyData.showable d && (PyData.showable (.int i) && PyData.showable e && true)) := by rfl
    rw [z, hx.sh, k.sh, h.sh, he.sh]
    rfl
  · have z := hx.leaf
    have z2 := k.leaf
    have z3 : PyData.leavesShort 1921 (.dict [(.str x, d), (.int i, e)]) = (PyData.leavesShort 1921 (.str x) && PyData.leavesShort 1921 d && (PyData.leavesShort 1921 (.int i) && PyData.leavesShort 1921 e && true)) := by rfl
    rw [z3, z, z2, h.leaf, he.leaf]
    rfl
  · have := h.dep
    have := he.dep
    simp only [PyData.depth, PyData.depthKv]
    omega
  · have h1 := hx.bulk
    have h2 := h.bulk
    have h3 := he.bulk
    simp only [PyData.bulk, PyData.bulkKv] at h1 ⊢
    omega
theorem ValL.ints : ∀ ns : List Int, (∀ x ∈ ns, x.natAbs < 2 ^ 300) → ValL (ns.map PyData.int) 0 ns.length
  | [], _ => ValL.nil
  | n :: ns, h => (ValL.cons (Val.int (h n List.mem_cons_self)) (ValL.ints ns fun x hx => h x (List.mem_cons_of_mem _ hx))).up (Nat.le_refl 0) (by rw [List.length_cons]; omega)
theorem ValL.app : ∀ {ds es : List PyData} {n m : Nat}, ValL ds p n → ValL es p m → ValL (ds ++ es) p (n + m)
  | [], es, n, m, _, h => h.up (Nat.le_refl p) (by omega)
  | d :: ds, es, n, m, a, b => by
    have sh := a.sh
    have lf := a.leaf
    have dp := a.dep
    have bk := a.bulk
    simp only [PyData.showableAll, Bool.and_eq_true] at sh
    simp only [PyData.leavesShortAll, Bool.and_eq_true] at lf
    simp only [PyData.depthAll, Nat.max_le] at dp
    simp only [PyData.bulkAll] at bk
    have t : ValL (ds ++ es) p (PyData.bulkAll ds + m) := ValL.app ⟨sh.2, lf.2, dp.2, Nat.le_refl _, fun x hx => a.own x (List.mem_cons_of_mem _ hx)⟩ b
    refine ⟨?_, ?_, ?_, ?_, ?_⟩
    · show PyData.showableAll (d :: (ds ++ es)) = true
      simp only [PyData.showableAll, sh.1, t.sh, Bool.and_self]
    · show PyData.leavesShortAll 1921 (d :: (ds ++ es)) = true
      simp only [PyData.leavesShortAll, lf.1, t.leaf, Bool.and_self]
    · show PyData.depthAll (d :: (ds ++ es)) ≤ p
      simp only [PyData.depthAll]
      exact Nat.max_le.mpr ⟨dp.1, t.dep⟩
    · show PyData.bulkAll (d :: (ds ++ es)) ≤ n + m
      have := t.bulk
      simp only [PyData.bulkAll]
      omega
    · intro x hx
      rcases List.mem_append.mp hx with h | h
      · exact a.own x h
      · exact b.own x h
theorem Val.len (h : Val d p n) (hn : n ≤ 8000) : d.shown.length ≤ sizeLine := by
  have h1 := PyData.shown_le_bulk 1921 (by decide) d h.leaf
  have h2 := h.bulk
  have h3 : sizeLine = 16777216 := by decide
  have h4 : (1921 + 2) * d.bulk ≤ 1923 * 8000 := Nat.mul_le_mul (Nat.le_refl _) (by omega)
  omega
variable {H : Hp} {a : Addr} {xs : List V} {Q : VK}
/-- repr of such a tuple -/
theorem r_reprX (ha : H a = some (.tup xs)) (hd : DxA H xs ds) (h : ValL ds p n) (hp : p ≤ 30) (hn : n ≤ 8000) (q : Q (.str (PyData.tuple ds).shown) H) : rReprX [.ref a] H Q :=
  ⟨a, xs, ds, rfl, ha, hd, h.sh, by have := h.tup.dep; omega, h.tup.len hn, q⟩
end
end Hr
namespace Hr
open PySem PySem.Spec PyProof.Rows L2 Evl LamX
/-- what G' has beyond G -/
def nw (G G' : Hp) : Hp := fun b => if (G b).isSome = true then none else G' b
section
variable {G G' G2 H : Hp} {d D : Addr} {o : HO}
theorem nw_in : Ex (nw G G') G' := fun b o h => by
  unfold nw at h
  split at h
  · cases h
  · exact h
theorem nw_at {b : Addr} (h : G b = none) (e : G' b = some o) : nw G G' b = some o := by
  unfold nw
  rw [h]
  exact e
theorem nw_up (e : Ex G' G2) : Ex (nw G G') (nw G G2) := fun b o h => by
  unfold nw at h ⊢
  split at h
  · cases h
  · rename_i z
    rw [if_neg z]
    exact e _ _ h
theorem nw_sub (e : ∀ b, (G b).isSome = true → (G' b).isSome = true) : Ex (nw G' G2) (nw G G2) := fun b o h => by
  unfold nw at h ⊢
  split at h
  · cases h
  · rename_i z
    rw [if_neg fun y => z (e b y)]
    exact h
theorem nw_ex (e : Ex G G') : Ex (nw G' G2) (nw G G2) := nw_sub fun b h => by
  obtain ⟨u, hu⟩ := Option.isSome_iff_exists.mp h
  rw [e b u hu]
  rfl
theorem nw_mut (h : (G D).isSome = true) : Ex (nw G G') (nw G (upd G' D o)) := fun b u e => by
  unfold nw at e ⊢
  split at e
  · cases e
  · rename_i z
    rw [if_neg z]
    have : b ≠ D := fun y => z (y ▸ h)
    rw [upd_ne this]
    exact e
theorem small_100 {n : Nat} (h : n ≤ 100) : n < sizeLine := Nat.lt_of_le_of_lt h (by decide)
/-- a list of drawn values -/
theorem lc_vals {n : Nat} {σ : L2.St} {te : TE} {g : TG} {vs : List Nat} {Q : VK} {p B : Nat} {R : PyData → Prop} (k : Dk G d H) (hn : n ≤ 100)
    (hs : ∀ (i : Nat) (H2 Gi : Hp), i < n → Dk Gi d H2 → Ex G Gi → ∃ σ2, (∀ k : L2.St → Hp → Prop, k σ2 H2 → g (.int (0 + (i : Int))) (wipe σ vs) H2 k) ∧ wipe σ2 vs = wipe σ vs ∧
      ∀ Q3 : VK, (∀ v pd Gj H', Ex Gi Gj → Dk Gj d H' → Dx (nw Gi Gj) v pd → Val pd p B → R pd → Q3 v H') → te σ2 H2 Q3)
    (q : ∀ D ys ds Gj H', Ex G Gj → Dk Gj d H' → G D = none → Gj D = some (.lst ys) → DxA (nw G Gj) ys ds → ValL ds p (n * (B + 1)) → ys.length = n → (∀ x ∈ ds, R x) → Q (.ref D) H') :
    tLc (fun _ H' R => R (Itr 0 n) H') g tYes te vs σ H Q := by
  intro D hD
  have hG : G D = none := k.free hD
  have sD : ((upd G D (.lst [])) D).isSome = true := by rw [upd_same]; rfl
  refine lc_it (walk_range (lo := 0) (n := n)) (fun i H2 => ∃ Gi ys ds, Gi D = some (.lst ys) ∧ Dk Gi d H2 ∧ Ex G Gi ∧ (∀ b, ((upd G D (.lst [])) b).isSome = true → (Gi b).isSome = true) ∧ DxA (nw (upd G D (.lst [])) Gi) ys ds ∧ ValL ds p (i * (B + 1)) ∧ ys.length = i ∧ ∀ x ∈ ds, R x)
    ⟨_, [], [], upd_same, k.made hD, Ex.new hG, fun b h => h, .nil, ValL.nil.up (Nat.zero_le _) (Nat.zero_le _), rfl, fun x hx => by simp at hx⟩ (fun _ _ _ _ => trivial) (fun i x H2 H3 hi inv y => ?_) (fun H2 inv => ?_)
  · obtain ⟨Gi, ys, ds, hd, kk, eG, sup, dA, vL, len, hR⟩ := inv
    obtain ⟨rfl, rfl⟩ := y
    obtain ⟨σ2, hk, hw, he⟩ := hs i _ Gi hi kk eG
    refine hk _ ⟨hw, ?_⟩
    show te σ2 _ _
    refine he _ fun v pd Gj H' e' k' dx vl vR => ⟨ys, k'.get (e' _ _ hd), small_100 (by omega), upd Gj D (.lst (ys ++ [v])), ys ++ [v], ds ++ [pd], upd_same, k'.set (e' _ _ hd), Ex.mut (eG.trans e') hG, fun b h => ?_, ?_, ?_, ?_, ?_⟩
    · by_cases hb : b = D
      · rw [hb, upd_same]
        rfl
      · rw [upd_ne hb]
        obtain ⟨u, hu⟩ := Option.isSome_iff_exists.mp (sup b h)
        rw [e' b u hu]
        rfl
    · exact ((dA.more (nw_up e')).app (.cons (dx.more (nw_sub sup)) .nil)).more (nw_mut sD)
    · have z := vL.app (ValL.cons vl (ValL.nil.up (Nat.zero_le p) (Nat.le_refl 0)))
      exact z.up (Nat.le_refl p) (by rw [Nat.succ_mul]; omega)
    · rw [List.length_append, len]
      rfl
    · intro x hx
      rcases List.mem_append.mp hx with h | h
      · exact hR x h
      · rw [List.mem_singleton.mp h]
        exact vR
  · obtain ⟨Gi, ys, ds, hd, kk, eG, sup, dA, vL, len, hR⟩ := inv
    exact q D ys ds Gi H2 eG kk hG hd (dA.more (nw_ex (Ex.new hG))) vL len hR
end
end Hr
namespace Hr
open PySem PySem.Spec PyProof.Rows L2 Evl LamX
/-- data that repr can tell, whatever its ints are -/
structure ShL (ds : List PyData) (p n : Nat) : Prop where
  sh : PyData.showableAll ds = true
  leaf : PyData.leavesShortAll 1921 ds = true
  dep : PyData.depthAll ds ≤ p
  bulk : PyData.bulkAll ds ≤ n
section
variable {d : PyData} {ds : List PyData} {p q n m : Nat}
theorem ShL.nil : ShL [] p 0 := ⟨rfl, rfl, Nat.zero_le _, Nat.le_refl 0⟩
theorem ShL.cons (h1 : d.showable = true) (h2 : d.leavesShort 1921 = true) (h3 : d.depth ≤ p) (h4 : d.bulk ≤ n) (t : ShL ds p m) : ShL (d :: ds) p (n + 1 + m) := by
  refine ⟨?_, ?_, ?_, ?_⟩
  · simp only [PyData.showableAll, h1, t.sh, Bool.and_self]
  · simp only [PyData.leavesShortAll, h2, t.leaf, Bool.and_self]
  · simp only [PyData.depthAll]
    exact Nat.max_le.mpr ⟨h3, t.dep⟩
  · simp only [PyData.bulkAll]
    have := t.bulk
    omega
theorem ShL.val (h : Val d p n) (t : ShL ds p m) : ShL (d :: ds) p (n + 1 + m) := ShL.cons h.sh h.leaf h.dep h.bulk t
theorem ShL.ints : ∀ ns : List Int, (∀ x ∈ ns, x.natAbs < 2 ^ 400) → ShL (ns.map PyData.int) 0 ns.length
  | [], _ => ShL.nil
  | n :: ns, h => by
    have hl : n.natAbs.log2 < 1920 := by
      have := PySem.Flt.log2_lt_of (by decide) (h n List.mem_cons_self)
      omega
    have ih := ShL.ints ns fun x hx => h x (List.mem_cons_of_mem _ hx)
    have z := ShL.cons (d := .int n) (p := 0) (n := 0) (decide_eq_true hl) (by simp only [PyData.leavesShort, decide_eq_true_eq]; exact int_text_len_1921 hl) (Nat.le_refl 0) (Nat.le_refl 0) ih
    exact ⟨z.sh, z.leaf, z.dep, by have := z.bulk; rw [List.length_cons]; simp only [List.map_cons] at this ⊢; omega⟩
theorem ShL.tup {es : List PyData} (h : ShL ds p n) (t : ShL es (p + 1) m) : ShL (.tuple ds :: es) (p + 1) (n + 1 + m) := by
  refine ShL.cons ?_ ?_ ?_ ?_ t
  · simpa only [PyData.showable] using h.sh
  · simpa only [PyData.leavesShort] using h.leaf
  · have := h.dep
    simp only [PyData.depth]
    omega
  · simpa only [PyData.bulk] using h.bulk
variable {H : Hp} {a : Addr} {xs : List V} {Q : VK}
theorem r_reprS (ha : H a = some (.tup xs)) (hd : DxA H xs ds) (h : ShL ds p n) (hp : p ≤ 30) (hn : n ≤ 8000) (q : Q (.str (PyData.tuple ds).shown) H) : rReprX [.ref a] H Q := by
  refine ⟨a, xs, ds, rfl, ha, hd, h.sh, ?_, ?_, q⟩
  · have := h.dep
    simp only [PyData.depth]
    omega
  · have h0 : (PyData.tuple ds).leavesShort 1921 = true := by simpa only [PyData.leavesShort] using h.leaf
    have h1 := PyData.shown_le_bulk 1921 (by decide) _ h0
    have h2 : (PyData.tuple ds).bulk ≤ n := by simpa only [PyData.bulk] using h.bulk
    have h3 : sizeLine = 16777216 := by decide
    have h4 : (1921 + 2) * (PyData.tuple ds).bulk ≤ 1923 * 8000 := Nat.mul_le_mul (Nat.le_refl _) (by omega)
    omega
end
end Hr

/-! Tables of code objects beside a deck. -/
namespace Hr
open PySem PySem.Spec PyProof.Rows L2 Evl LamX
/-! ### a deck beside tables -/
/-- no table is told -/
def NT (G : Hp) : Prop := ∀ b o, G b = some o → ∀ ps, o ≠ .tbl ps
def nt (G : Hp) : Hp := fun b => match G b with
  | some (.tbl _) => none
  | o => o
theorem nt_NT (G : Hp) : NT (nt G) := fun b o h ps z => by
  subst z
  unfold nt at h
  split at h
  · cases h
  · rename_i k
    exact k ps h
theorem nt_ex (G : Hp) : Ex (nt G) G := fun b o h => by
  unfold nt at h
  split at h
  · cases h
  · exact h
theorem nt_at {G : Hp} {b : Addr} {o : HO} (h : G b = some o) (n : ∀ ps, o ≠ .tbl ps) : nt G b = some o := by
  unfold nt
  rw [h]
  cases o with
  | tbl ps => exact absurd rfl (n ps)
  | _ => rfl
theorem nt_none {G : Hp} {b : Addr} (h : G b = none) : nt G b = none := by
  unfold nt
  rw [h]
section
variable {G Gj H H' : Hp} {d : Addr} {T : List (Addr × Str)}
theorem Dk.moreN (k : Dk G d H) (n : NT G) (e : ExtN H H') : Dk G d H' := by
  obtain ⟨c, x, m, i, z⟩ := k
  exact ⟨c, x, m, i, fun b o h => e _ _ (z.ex _ _ h) (n b o h), z.gd, z.gc, e _ _ z.hd (fun _ y => by cases y), e _ _ z.hc (fun _ y => by cases y), z.len, z.m0, z.m1⟩
theorem Dk.nt (k : Dk G d H) : Dk (nt G) d H := by
  obtain ⟨c, x, m, i, z⟩ := k
  exact ⟨c, x, m, i, (nt_ex G).trans z.ex, nt_none z.gd, nt_none z.gc, z.hd, z.hc, z.len, z.m0, z.m1⟩
theorem Dk.full (k : Dk G d H) (hT : Tabs T H) : ∃ Gf, Ex G Gf ∧ Dk Gf d H ∧ Tabs T Gf := by
  obtain ⟨c, x, m, i, z⟩ := k
  have other : ∀ b o, H b = some o → o ≠ .dK (deckD c m i) → o ≠ .lst (x.map V.int) → (fun b => if b = d ∨ b = c then none else H b : Hp) b = some o := fun b o h n1 n2 => by
    refine (if_neg ?_).trans h
    rintro (rfl | rfl)
    · rw [z.hd] at h
      exact n1 (Option.some.inj h).symm
    · rw [z.hc] at h
      exact n2 (Option.some.inj h).symm
  refine ⟨fun b => if b = d ∨ b = c then none else H b, fun b o h => ?_, ⟨c, x, m, i, fun b o h => ?_, if_pos (.inl rfl), if_pos (.inr rfl), z.hd, z.hc, z.len, z.m0, z.m1⟩, fun p hp => ?_⟩
  · refine (if_neg ?_).trans (z.ex _ _ h)
    rintro (rfl | rfl)
    · rw [z.gd] at h
      cases h
    · rw [z.gc] at h
      cases h
  · by_cases hb : b = d ∨ b = c
    · exact absurd ((if_pos hb).symm.trans h) (by simp)
    · exact (if_neg hb).symm.trans h
  · obtain ⟨ps, h1, h2, h3⟩ := hT p hp
    refine ⟨ps, other _ _ h1 (fun y => by cases y) (fun y => by cases y), h2, fun pos cv hc => ?_⟩
    obtain ⟨c', e1, e2⟩ := h3 pos cv hc
    exact ⟨c', e1, other _ _ e2 (fun y => by unfold CodeO at y; cases y) (fun y => by unfold CodeO at y; cases y)⟩
theorem Tabs.nil (h : ∀ p ∈ T, H p.1 = some (.tbl #[])) : Tabs T H := fun p hp => TabS.nil (h p hp)
end
end Hr

/-! sum of a tuple of ints; a deck beside tables of code objects. -/
namespace Hr
open PySem PySem.Spec PyProof.Rows L2 Evl LamX
section
variable {prog : Program} {w : World} {A : Around} {E : Value → Shared → Prop} {s : Shared}
theorem sum_tupRaw {a : Addr} {xs : Array (Int × Tok)} {Q : Value → Shared → Prop} (hh : A.handled = none) (hl : s.heap.IsTuple a (intItems xs))
    (h : ∀ h' tk t', (∀ b o, s.heap.get? b = some o → h'.get? b = some o) → Q (.int (preSum (numAt xs) xs.size) t') { s with heap := h', toks := tk }) :
    wpAny (model prog w) A (call (.builtin "sum") [.ref a]) Q E s := by
  have hlt : a < s.heap.objs.size := by
    obtain ⟨_, e, _⟩ := hl
    exact Heap.lt_size e
  refine call_sum_walkG (wpAny_pyIter_tuple hl ?_)
  refine ⟨_, [s.heap.objs.size, a], [s.heap.objs.size], _, _, _, numAt xs, rfl, Walks.tuple (A := A.in1) hh _ a (Nat.ne_of_lt hlt) (intItems xs), ⟨⟨_, Heap.get?_push_size _ rfl, rfl, rfl⟩, hl.push _⟩, fun c hc => ?_, (fun _ _ => intItems_at), fun h' tk t' hk => ?_⟩
  · show c < (s.heap.push _).objs.size
    rw [Heap.size_push]
    rcases List.mem_cons.mp hc with rfl | hc
    · exact Nat.lt_succ_self _
    · rw [List.mem_singleton.mp hc]
      exact Nat.lt_succ_of_lt hlt
  · have z := h h' tk t' fun b o e => hk b o (fun m => by
      have e1 := Heap.lt_size e
      rw [List.mem_singleton.mp m] at e1
      exact Nat.lt_irrefl _ e1) (Heap.get?_push_of_some _ e)
    simpa [intItems] using z
end
def rSumT : List V → Hp → VK → Prop := fun vs H Q => ∃ (a : Addr) (ns : List Int), vs = [V.ref a] ∧ H a = some (.tup (ns.map V.int)) ∧ Q (.int ns.sum) H
theorem cr_sumT {X : Cx} (hc : X.calm = true) : CallR X (.builtin "sum") rSumT := by
  intro pins s σ H vs us Q I r h
  obtain ⟨a, ns, rfl, ha, q⟩ := h
  obtain ⟨its, rv, hl, _⟩ := I.tuple (SqT.of ha)
  obtain ⟨u, rfl, r1⟩ := vals1 r
  cases r1
  have hi := rv.ints
  obtain ⟨xs, e⟩ := hi.allInts.items
  have hn : numsOf (intItems xs).toList = ns := by
    rw [← e]
    exact hi.numsOf
  rw [nums_intItems] at hn
  rw [e] at hl
  refine sum_tupRaw (I.ok.hd hc) hl fun h' tk t' hk => ?_
  refine ⟨.int ns.sum, H, I.kept hk, ⟨t', ?_⟩, q⟩
  rw [preSum_eq, List.take_of_length_le (by simp), hn]
end Hr

namespace K47
open PySem PySem.Spec PyProof.Rows L2 Hr HrM Evl HrE_thing LamX
def topS (i : Nat) : Stmt := PySem.Challenge.pw_holerows_k47_h_rows_there_and_back.main.body.getD i (.Pass ⟨0, 0, 0, 0⟩)
abbrev s_is_integer : Stmt := topS 6
theorem sc_is_integer : FnScope ["thing"] ["thing"] (defScope s_is_integer) := ⟨rfl, rfl, rfl, by decide +kernel, rfl, by decide +kernel, by decide +kernel⟩
abbrev s_is_integer_from : Stmt := topS 7
theorem sc_is_integer_from : FnScope ["thing", "least"] ["thing", "least"] (defScope s_is_integer_from) := ⟨rfl, rfl, rfl, by decide +kernel, rfl, by decide +kernel, by decide +kernel⟩
abbrev s_are_integers_from : Stmt := topS 8
theorem sc_are_integers_from : FnScope ["thing", "least", "part"] ["thing", "least"] (defScope s_are_integers_from) := ⟨rfl, rfl, rfl, by decide +kernel, rfl, by decide +kernel, by decide +kernel⟩
abbrev s_is_just : Stmt := topS 9
theorem sc_is_just : FnScope ["thing", "right", "part", "other"] ["thing", "right"] (defScope s_is_just) := ⟨rfl, rfl, rfl, by decide +kernel, rfl, by decide +kernel, by decide +kernel⟩
abbrev s_is_counts : Stmt := topS 12
theorem sc_is_counts : FnScope ["thing"] ["thing"] (defScope s_is_counts) := ⟨rfl, rfl, rfl, by decide +kernel, rfl, by decide +kernel, by decide +kernel⟩
abbrev s_check_counts : Stmt := topS 13
theorem sc_check_counts : FnScope ["counts"] ["counts"] (defScope s_check_counts) := ⟨rfl, rfl, rfl, by decide +kernel, rfl, by decide +kernel, by decide +kernel⟩
abbrev s_h_row : Stmt := topS 15
theorem sc_h_row : FnScope ["counts"] ["counts"] (defScope s_h_row) := ⟨rfl, rfl, rfl, by decide +kernel, rfl, by decide +kernel, by decide +kernel⟩
abbrev s_counts_of_h : Stmt := topS 16
theorem sc_counts_of_h : FnScope ["numbers", "counts", "number"] ["numbers"] (defScope s_counts_of_h) := ⟨rfl, rfl, rfl, by decide +kernel, rfl, by decide +kernel, by decide +kernel⟩
abbrev s_begins_with_1 : Stmt := topS 17
theorem sc_begins_with_1 : FnScope ["thing"] ["thing"] (defScope s_begins_with_1) := ⟨rfl, rfl, rfl, by decide +kernel, rfl, by decide +kernel, by decide +kernel⟩
abbrev s_moved_row : Stmt := topS 18
theorem sc_moved_row : FnScope ["row", "sign", "last", "signs", "j", "i"] ["row", "sign"] (defScope s_moved_row) := ⟨rfl, rfl, rfl, by decide +kernel, rfl, by decide +kernel, by decide +kernel⟩
abbrev s_l_deck : Stmt := topS 20
theorem sc_l_deck : FnScope ["script", "mixed", "cell"] ["script"] (defScope s_l_deck) := ⟨rfl, rfl, rfl, by decide +kernel, rfl, by decide +kernel, by decide +kernel⟩
abbrev s_l_draw : Stmt := topS 21
theorem sc_l_draw : FnScope ["deck", "many", "number", "cell"] ["deck", "many"] (defScope s_l_draw) := ⟨rfl, rfl, rfl, by decide +kernel, rfl, by decide +kernel, by decide +kernel⟩
abbrev s_l_pick : Stmt := topS 22
theorem sc_l_pick : FnScope ["deck", "some"] ["deck", "some"] (defScope s_l_pick) := ⟨rfl, rfl, rfl, by decide +kernel, rfl, by decide +kernel, by decide +kernel⟩
abbrev s_l_any : Stmt := topS 23
theorem sc_l_any : FnScope ["deck", "deep", "way", "some", "turn"] ["deck", "deep"] (defScope s_l_any) := ⟨rfl, rfl, rfl, by decide +kernel, rfl, by decide +kernel, by decide +kernel⟩
abbrev s_l_ways : Stmt := topS 24
theorem sc_l_ways : FnScope ["a", "b", "found", "i"] ["a", "b"] (defScope s_l_ways) := ⟨rfl, rfl, rfl, by decide +kernel, rfl, by decide +kernel, by decide +kernel⟩
abbrev s_l_h : Stmt := topS 25
theorem sc_l_h : FnScope ["counts", "d", "f", "found", "j", "i"] ["counts"] (defScope s_l_h) := ⟨rfl, rfl, rfl, by decide +kernel, rfl, by decide +kernel, by decide +kernel⟩
abbrev s_l_counts_of : Stmt := topS 26
theorem sc_l_counts_of : FnScope ["h", "d", "j", "i"] ["h"] (defScope s_l_counts_of) := ⟨rfl, rfl, rfl, by decide +kernel, rfl, by decide +kernel, by decide +kernel⟩
abbrev s_l_are_ints : Stmt := topS 27
theorem sc_l_are_ints : FnScope ["thing", "x"] ["thing"] (defScope s_l_are_ints) := ⟨rfl, rfl, rfl, by decide +kernel, rfl, by decide +kernel, by decide +kernel⟩
abbrev s_l_is_counts : Stmt := topS 28
theorem sc_l_is_counts : FnScope ["thing", "x"] ["thing"] (defScope s_l_is_counts) := ⟨rfl, rfl, rfl, by decide +kernel, rfl, by decide +kernel, by decide +kernel⟩
abbrev s_l_is_h : Stmt := topS 29
theorem sc_l_is_h : FnScope ["thing", "x"] ["thing"] (defScope s_l_is_h) := ⟨rfl, rfl, rfl, by decide +kernel, rfl, by decide +kernel, by decide +kernel⟩
abbrev s_l_below : Stmt := topS 30
theorem sc_l_below : FnScope ["deck", "most", "found", "turn"] ["deck", "most"] (defScope s_l_below) := ⟨rfl, rfl, rfl, by decide +kernel, rfl, by decide +kernel, by decide +kernel⟩
abbrev s_l_drawn_counts : Stmt := topS 31
theorem sc_l_drawn_counts : FnScope ["deck", "d", "most", "at"] ["deck"] (defScope s_l_drawn_counts) := ⟨rfl, rfl, rfl, by decide +kernel, rfl, by decide +kernel, by decide +kernel⟩
abbrev s_l_drawn_row : Stmt := topS 32
theorem sc_l_drawn_row : FnScope ["deck", "row", "at", "more", "turn"] ["deck", "row"] (defScope s_l_drawn_row) := ⟨rfl, rfl, rfl, by decide +kernel, rfl, by decide +kernel, by decide +kernel⟩
abbrev s_l_strange : Stmt := topS 33
theorem sc_l_strange : FnScope ["deck", "thing", "at", "odd", "some"] ["deck", "thing"] (defScope s_l_strange) := ⟨rfl, rfl, rfl, by decide +kernel, rfl, by decide +kernel, by decide +kernel⟩
abbrev s_l_told : Stmt := topS 34
theorem sc_l_told : FnScope ["deed", "e"] ["deed"] (defScope s_l_told) := ⟨rfl, rfl, rfl, by decide +kernel, rfl, by decide +kernel, by decide +kernel⟩
abbrev s_l_is_right : Stmt := topS 35
theorem sc_l_is_right : FnScope ["thing", "due"] ["thing"] (defScope s_l_is_right) := ⟨rfl, rfl, rfl, by decide +kernel, rfl, by decide +kernel, by decide +kernel⟩
abbrev s_law : Stmt := topS 36
theorem sc_law : FnScope ["script", "deck", "turn", "counts", "told", "euler", "row", "thing", "at", "x"] ["script"] (defScope s_law) := ⟨rfl, rfl, rfl, by decide +kernel, rfl, by decide +kernel, by decide +kernel⟩
structure Txt (K : PySem.W.Frag) (mg : Str → Option Value) where
  f_is_integer : Addr
  d_is_integer : FuncData
  U_is_integer : Fun K "is_integer" "is_integer" s_is_integer f_is_integer d_is_integer
  g_is_integer : mg "is_integer" = some (.ref f_is_integer)
  b_is_integer : Binds K d_is_integer ["thing"] []
  f_is_integer_from : Addr
  d_is_integer_from : FuncData
  U_is_integer_from : Fun K "is_integer_from" "is_integer_from" s_is_integer_from f_is_integer_from d_is_integer_from
  g_is_integer_from : mg "is_integer_from" = some (.ref f_is_integer_from)
  b_is_integer_from : Binds K d_is_integer_from ["thing", "least"] []
  f_are_integers_from : Addr
  d_are_integers_from : FuncData
  U_are_integers_from : Fun K "are_integers_from" "are_integers_from" s_are_integers_from f_are_integers_from d_are_integers_from
  g_are_integers_from : mg "are_integers_from" = some (.ref f_are_integers_from)
  b_are_integers_from : Binds K d_are_integers_from ["thing", "least"] []
  f_is_just : Addr
  d_is_just : FuncData
  U_is_just : Fun K "is_just" "is_just" s_is_just f_is_just d_is_just
  g_is_just : mg "is_just" = some (.ref f_is_just)
  b_is_just : Binds K d_is_just ["thing", "right"] []
  f_is_counts : Addr
  d_is_counts : FuncData
  U_is_counts : Fun K "is_counts" "is_counts" s_is_counts f_is_counts d_is_counts
  g_is_counts : mg "is_counts" = some (.ref f_is_counts)
  b_is_counts : Binds K d_is_counts ["thing"] []
  f_check_counts : Addr
  d_check_counts : FuncData
  U_check_counts : Fun K "check_counts" "check_counts" s_check_counts f_check_counts d_check_counts
  g_check_counts : mg "check_counts" = some (.ref f_check_counts)
  b_check_counts : Binds K d_check_counts ["counts"] []
  f_h_row : Addr
  d_h_row : FuncData
  U_h_row : Fun K "h_row" "h_row" s_h_row f_h_row d_h_row
  g_h_row : mg "h_row" = some (.ref f_h_row)
  b_h_row : Binds K d_h_row ["counts"] []
  f_counts_of_h : Addr
  d_counts_of_h : FuncData
  U_counts_of_h : Fun K "counts_of_h" "counts_of_h" s_counts_of_h f_counts_of_h d_counts_of_h
  g_counts_of_h : mg "counts_of_h" = some (.ref f_counts_of_h)
  b_counts_of_h : Binds K d_counts_of_h ["numbers"] []
  f_begins_with_1 : Addr
  d_begins_with_1 : FuncData
  U_begins_with_1 : Fun K "begins_with_1" "begins_with_1" s_begins_with_1 f_begins_with_1 d_begins_with_1
  g_begins_with_1 : mg "begins_with_1" = some (.ref f_begins_with_1)
  b_begins_with_1 : Binds K d_begins_with_1 ["thing"] []
  f_moved_row : Addr
  d_moved_row : FuncData
  U_moved_row : Fun K "moved_row" "moved_row" s_moved_row f_moved_row d_moved_row
  g_moved_row : mg "moved_row" = some (.ref f_moved_row)
  b_moved_row : Binds K d_moved_row ["row", "sign"] []
  f_l_deck : Addr
  d_l_deck : FuncData
  U_l_deck : Fun K "_law_deck" "_law_deck" s_l_deck f_l_deck d_l_deck
  g_l_deck : mg "_law_deck" = some (.ref f_l_deck)
  b_l_deck : Binds K d_l_deck ["script"] []
  f_l_draw : Addr
  d_l_draw : FuncData
  U_l_draw : Fun K "_law_draw" "_law_draw" s_l_draw f_l_draw d_l_draw
  g_l_draw : mg "_law_draw" = some (.ref f_l_draw)
  b_l_draw : Binds K d_l_draw ["deck", "many"] []
  f_l_pick : Addr
  d_l_pick : FuncData
  U_l_pick : Fun K "_law_pick" "_law_pick" s_l_pick f_l_pick d_l_pick
  g_l_pick : mg "_law_pick" = some (.ref f_l_pick)
  b_l_pick : Binds K d_l_pick ["deck", "some"] []
  f_l_any : Addr
  d_l_any : FuncData
  U_l_any : Fun K "_law_any" "_law_any" s_l_any f_l_any d_l_any
  g_l_any : mg "_law_any" = some (.ref f_l_any)
  b_l_any : Binds K d_l_any ["deck", "deep"] []
  f_l_ways : Addr
  d_l_ways : FuncData
  U_l_ways : Fun K "_law_ways" "_law_ways" s_l_ways f_l_ways d_l_ways
  g_l_ways : mg "_law_ways" = some (.ref f_l_ways)
  b_l_ways : Binds K d_l_ways ["a", "b"] []
  f_l_h : Addr
  d_l_h : FuncData
  U_l_h : Fun K "_law_h" "_law_h" s_l_h f_l_h d_l_h
  g_l_h : mg "_law_h" = some (.ref f_l_h)
  b_l_h : Binds K d_l_h ["counts"] []
  f_l_counts_of : Addr
  d_l_counts_of : FuncData
  U_l_counts_of : Fun K "_law_counts_of" "_law_counts_of" s_l_counts_of f_l_counts_of d_l_counts_of
  g_l_counts_of : mg "_law_counts_of" = some (.ref f_l_counts_of)
  b_l_counts_of : Binds K d_l_counts_of ["h"] []
  f_l_are_ints : Addr
  d_l_are_ints : FuncData
  U_l_are_ints : Fun K "_law_are_ints" "_law_are_ints" s_l_are_ints f_l_are_ints d_l_are_ints
  g_l_are_ints : mg "_law_are_ints" = some (.ref f_l_are_ints)
  b_l_are_ints : Binds K d_l_are_ints ["thing"] []
  f_l_is_counts : Addr
  d_l_is_counts : FuncData
  U_l_is_counts : Fun K "_law_is_counts" "_law_is_counts" s_l_is_counts f_l_is_counts d_l_is_counts
  g_l_is_counts : mg "_law_is_counts" = some (.ref f_l_is_counts)
  b_l_is_counts : Binds K d_l_is_counts ["thing"] []
  f_l_is_h : Addr
  d_l_is_h : FuncData
  U_l_is_h : Fun K "_law_is_h" "_law_is_h" s_l_is_h f_l_is_h d_l_is_h
  g_l_is_h : mg "_law_is_h" = some (.ref f_l_is_h)
  b_l_is_h : Binds K d_l_is_h ["thing"] []
  f_l_below : Addr
  d_l_below : FuncData
  U_l_below : Fun K "_law_below" "_law_below" s_l_below f_l_below d_l_below
  g_l_below : mg "_law_below" = some (.ref f_l_below)
  b_l_below : Binds K d_l_below ["deck", "most"] []
  f_l_drawn_counts : Addr
  d_l_drawn_counts : FuncData
  U_l_drawn_counts : Fun K "_law_drawn_counts" "_law_drawn_counts" s_l_drawn_counts f_l_drawn_counts d_l_drawn_counts
  g_l_drawn_counts : mg "_law_drawn_counts" = some (.ref f_l_drawn_counts)
  b_l_drawn_counts : Binds K d_l_drawn_counts ["deck"] []
  f_l_drawn_row : Addr
  d_l_drawn_row : FuncData
  U_l_drawn_row : Fun K "_law_drawn_row" "_law_drawn_row" s_l_drawn_row f_l_drawn_row d_l_drawn_row
  g_l_drawn_row : mg "_law_drawn_row" = some (.ref f_l_drawn_row)
  b_l_drawn_row : Binds K d_l_drawn_row ["deck", "row"] []
  f_l_strange : Addr
  d_l_strange : FuncData
  U_l_strange : Fun K "_law_strange" "_law_strange" s_l_strange f_l_strange d_l_strange
  g_l_strange : mg "_law_strange" = some (.ref f_l_strange)
  b_l_strange : Binds K d_l_strange ["deck", "thing"] []
  f_l_told : Addr
  d_l_told : FuncData
  U_l_told : Fun K "_law_told" "_law_told" s_l_told f_l_told d_l_told
  g_l_told : mg "_law_told" = some (.ref f_l_told)
  b_l_told : Binds K d_l_told ["deed"] []
  f_l_is_right : Addr
  d_l_is_right : FuncData
  U_l_is_right : Fun K "_law_is_right" "_law_is_right" s_l_is_right f_l_is_right d_l_is_right
  g_l_is_right : mg "_law_is_right" = some (.ref f_l_is_right)
  b_l_is_right : Binds K d_l_is_right ["thing"] []
  f_law : Addr
  d_law : FuncData
  U_law : Fun K "law" "law" s_law f_law d_law
  g_law : mg "law" = some (.ref f_law)
  b_law : Binds K d_law ["script"] []
  t_MOST_COUNTS : Tok
  c_MOST_COUNTS : mg "MOST_COUNTS" = some (.int 16 t_MOST_COUNTS)
  n_all : mg "all" = none
  n_bool : mg "bool" = none
  n_enumerate : mg "enumerate" = none
  n_int : mg "int" = none
  n_isinstance : mg "isinstance" = none
  n_len : mg "len" = none
  n_list : mg "list" = none
  n_max : mg "max" = none
  n_range : mg "range" = none
  n_repr : mg "repr" = none
  n_str : mg "str" = none
  n_sum : mg "sum" = none
  n_tuple : mg "tuple" = none
  n_zip : mg "zip" = none
  comb : mg "comb" = some (.builtin "math.comb")
  C_BadCounts : Addr
  I_BadCounts : Addr
  x_BadCounts : ExTxt K mg "BadCounts" C_BadCounts I_BadCounts
  o_BadCounts : OwnX K C_BadCounts
  C_BadRow : Addr
  I_BadRow : Addr
  x_BadRow : ExTxt K mg "BadRow" C_BadRow I_BadRow
  o_BadRow : OwnX K C_BadRow
  C_CountError : Addr
  g_CountError : mg "CountError" = some (.ref C_CountError)
  o_CountError : OwnC K C_CountError
  u_BadCounts_CountError : PySem.W.subIn K (.ref C_BadCounts) (.ref C_CountError) = some true
  u_BadCounts_BadRow : PySem.W.subIn K (.ref C_BadCounts) (.ref C_BadRow) = some false
  u_BadRow_CountError : PySem.W.subIn K (.ref C_BadRow) (.ref C_CountError) = some true
  u_BadRow_BadCounts : PySem.W.subIn K (.ref C_BadRow) (.ref C_BadCounts) = some false
  c_l_is_right : Addr
  P_l_is_right : Addr
  cd_l_is_right : d_l_is_right.code = .ref c_l_is_right
theorem Txt.k_is_integer {K : PySem.W.Frag} {mg : Str → Option Value} (T : Txt K mg) : PySem.W.keepIn K (.ref T.f_is_integer) = true := T.U_is_integer.kp
theorem Txt.k_is_integer_from {K : PySem.W.Frag} {mg : Str → Option Value} (T : Txt K mg) : PySem.W.keepIn K (.ref T.f_is_integer_from) = true := T.U_is_integer_from.kp
theorem Txt.k_are_integers_from {K : PySem.W.Frag} {mg : Str → Option Value} (T : Txt K mg) : PySem.W.keepIn K (.ref T.f_are_integers_from) = true := T.U_are_integers_from.kp
theorem Txt.k_is_just {K : PySem.W.Frag} {mg : Str → Option Value} (T : Txt K mg) : PySem.W.keepIn K (.ref T.f_is_just) = true := T.U_is_just.kp
theorem Txt.k_is_counts {K : PySem.W.Frag} {mg : Str → Option Value} (T : Txt K mg) : PySem.W.keepIn K (.ref T.f_is_counts) = true := T.U_is_counts.kp
theorem Txt.k_check_counts {K : PySem.W.Frag} {mg : Str → Option Value} (T : Txt K mg) : PySem.W.keepIn K (.ref T.f_check_counts) = true := T.U_check_counts.kp
theorem Txt.k_h_row {K : PySem.W.Frag} {mg : Str → Option Value} (T : Txt K mg) : PySem.W.keepIn K (.ref T.f_h_row) = true := T.U_h_row.kp
theorem Txt.k_counts_of_h {K : PySem.W.Frag} {mg : Str → Option Value} (T : Txt K mg) : PySem.W.keepIn K (.ref T.f_counts_of_h) = true := T.U_counts_of_h.kp
theorem Txt.k_begins_with_1 {K : PySem.W.Frag} {mg : Str → Option Value} (T : Txt K mg) : PySem.W.keepIn K (.ref T.f_begins_with_1) = true := T.U_begins_with_1.kp
theorem Txt.k_moved_row {K : PySem.W.Frag} {mg : Str → Option Value} (T : Txt K mg) : PySem.W.keepIn K (.ref T.f_moved_row) = true := T.U_moved_row.kp
theorem Txt.k_l_deck {K : PySem.W.Frag} {mg : Str → Option Value} (T : Txt K mg) : PySem.W.keepIn K (.ref T.f_l_deck) = true := T.U_l_deck.kp
theorem Txt.k_l_draw {K : PySem.W.Frag} {mg : Str → Option Value} (T : Txt K mg) : PySem.W.keepIn K (.ref T.f_l_draw) = true := T.U_l_draw.kp
theorem Txt.k_l_pick {K : PySem.W.Frag} {mg : Str → Option Value} (T : Txt K mg) : PySem.W.keepIn K (.ref T.f_l_pick) = true := T.U_l_pick.kp
theorem Txt.k_l_any {K : PySem.W.Frag} {mg : Str → Option Value} (T : Txt K mg) : PySem.W.keepIn K (.ref T.f_l_any) = true := T.U_l_any.kp
theorem Txt.k_l_ways {K : PySem.W.Frag} {mg : Str → Option Value} (T : Txt K mg) : PySem.W.keepIn K (.ref T.f_l_ways) = true := T.U_l_ways.kp
theorem Txt.k_l_h {K : PySem.W.Frag} {mg : Str → Option Value} (T : Txt K mg) : PySem.W.keepIn K (.ref T.f_l_h) = true := T.U_l_h.kp
theorem Txt.k_l_counts_of {K : PySem.W.Frag} {mg : Str → Option Value} (T : Txt K mg) : PySem.W.keepIn K (.ref T.f_l_counts_of) = true := T.U_l_counts_of.kp
theorem Txt.k_l_are_ints {K : PySem.W.Frag} {mg : Str → Option Value} (T : Txt K mg) : PySem.W.keepIn K (.ref T.f_l_are_ints) = true := T.U_l_are_ints.kp
theorem Txt.k_l_is_counts {K : PySem.W.Frag} {mg : Str → Option Value} (T : Txt K mg) : PySem.W.keepIn K (.ref T.f_l_is_counts) = true := T.U_l_is_counts.kp
theorem Txt.k_l_is_h {K : PySem.W.Frag} {mg : Str → Option Value} (T : Txt K mg) : PySem.W.keepIn K (.ref T.f_l_is_h) = true := T.U_l_is_h.kp
theorem Txt.k_l_below {K : PySem.W.Frag} {mg : Str → Option Value} (T : Txt K mg) : PySem.W.keepIn K (.ref T.f_l_below) = true := T.U_l_below.kp
theorem Txt.k_l_drawn_counts {K : PySem.W.Frag} {mg : Str → Option Value} (T : Txt K mg) : PySem.W.keepIn K (.ref T.f_l_drawn_counts) = true := T.U_l_drawn_counts.kp
theorem Txt.k_l_drawn_row {K : PySem.W.Frag} {mg : Str → Option Value} (T : Txt K mg) : PySem.W.keepIn K (.ref T.f_l_drawn_row) = true := T.U_l_drawn_row.kp
theorem Txt.k_l_strange {K : PySem.W.Frag} {mg : Str → Option Value} (T : Txt K mg) : PySem.W.keepIn K (.ref T.f_l_strange) = true := T.U_l_strange.kp
theorem Txt.k_l_told {K : PySem.W.Frag} {mg : Str → Option Value} (T : Txt K mg) : PySem.W.keepIn K (.ref T.f_l_told) = true := T.U_l_told.kp
theorem Txt.k_l_is_right {K : PySem.W.Frag} {mg : Str → Option Value} (T : Txt K mg) : PySem.W.keepIn K (.ref T.f_l_is_right) = true := T.U_l_is_right.kp
theorem Txt.k_law {K : PySem.W.Frag} {mg : Str → Option Value} (T : Txt K mg) : PySem.W.keepIn K (.ref T.f_law) = true := T.U_law.kp
end K47

namespace K47
open PySem PySem.Spec PyProof.Rows L2 Hr HrM Evl HrE_thing LamX
theorem small4 {a b c d : V} : ([a, b, c, d] : List V).length ≤ sizeLine := by show 4 ≤ sizeLine; decide
/-- what told makes of a call without arguments -/
def TTold2 (CA CB : Addr) (w1 w2 : Str) : (XK → Hp → VK → Prop) → Hp → VK → Prop := fun tl H Q =>
  tl (fun cls d H' => ∃ (dd : Addr) (v : V), d = some dd ∧ H' dd = some (.xd [("thing", v)]) ∧
      ((cls = .ref CA ∧ ∀ l, H' l = none → Q (.ref l) (upd H' l (.tup [.str w1, v, .bl true, .bl false]))) ∨ (cls = .ref CB ∧ ∀ l, H' l = none → Q (.ref l) (upd H' l (.tup [.str w2, v, .bl true, .bl false])))))
    H (fun v H' => ([V.str "told", v] : List V).length ≤ sizeLine ∧ ∀ l, H' l = none → Q (.ref l) (upd H' l (.tup [.str "told", v])))
theorem told_to {X : Cx} (T : Txt X.K X.mg) (g : Addr) (cdg : Value) (q : Str) : GivesTo X ["deed", "e"] "_law_told" (defScope s_l_told) g cdg (defBody s_l_told) "deed" q (TTold2 T.C_BadCounts T.C_BadRow "counts" "row") := by
  intro f c' s H Q tl act hc h
  refine ⟨_, pss_one (ps_try_named (i := 1) (n := "e") (W0 := fun _ _ _ _ => False)
      (tb := fun W D σ H => ∃ Ech : XK, (∀ cls d σ' H', Ech cls d H' → σ'.length = 2 → W cls d σ' H') ∧ σ[0]? = some (some (.ref f)) ∧ H c' = some (CodeO c' q) ∧ tl Ech H fun v H1 => ([V.str "told", v] : List V).length ≤ sizeLine ∧ ∀ l, H1 l = none → D.rt (.ref l) (upd H1 l (.tup [.str "told", v])))
      rfl rfl sc_l_told.nd rfl rfl LamX.takes0 (fun W pn xe tk _ => ?_)
      (.cons ⟨rfl, by decide, .inl T.x_BadCounts.gC⟩ (fun a ob cls d pn hz hf => pss_one (ps_ret (pe_tup (pa_cons pe_str (pa_cons (pe_getEx T.x_BadCounts hz hf (pv 1)) (pa_cons (pe_callB (call_isX T.o_BadCounts hz hf) (by rfl) T.n_isinstance (by decide +kernel) (pa_cons (pv 1) (pa_cons (pe_glob (v := .ref T.C_CountError) (by rfl) T.g_CountError rfl) pa_nil)))
      (pa_cons (pe_callB (call_isX T.o_BadCounts hz hf) (by rfl) T.n_isinstance (by decide +kernel) (pa_cons (pv 1) (pa_cons (pe_glob (v := .ref T.C_BadRow) (by rfl) T.x_BadRow.gC rfl) pa_nil))) pa_nil))))))) (.cons ⟨rfl, by decide, .inl T.x_BadRow.gC⟩ (fun a ob cls d pn hz hf => pss_one (ps_ret (pe_tup (pa_cons pe_str (pa_cons (pe_getEx T.x_BadRow hz hf (pv 1)) (pa_cons (pe_callB (call_isX T.o_BadRow hz hf) (by rfl) T.n_isinstance (by decide +kernel) (pa_cons (pv 1) (pa_cons (pe_glob (v := .ref T.C_CountError) (by rfl) T.g_CountError rfl) pa_nil)))
      (pa_cons (pe_callB (call_isX T.o_BadRow hz hf) (by rfl) T.n_isinstance (by decide +kernel) (pa_cons (pv 1) (pa_cons (pe_glob (v := .ref T.C_BadCounts) (by rfl) T.x_BadCounts.gC rfl) pa_nil))) pa_nil))))))) .nil))), ?_⟩
  · refine ⟨fun pins s' σ H' D I h' => ?_⟩
    obtain ⟨Ech, hW, h1, h2, h3⟩ := h'
    exact PSs.run (pss_one (ps_ret (pe_tup (pa_cons pe_str (pa_cons (act (fun cls d σ' H' => σ'.length = 2 → W cls d σ' H') pn xe Ech _ _ (takes_len tk) hW) pa_nil))))) pins s' σ H' D I ⟨h1, h2, h3⟩
  · refine ⟨_, ?_, rfl, hc, h⟩
    rintro cls d σ' H' ⟨dd, v, rfl, hx, ⟨rfl, z⟩ | ⟨rfl, z⟩⟩ h2
    · refine ⟨true, T.o_BadCounts.toOwnC.exm T.o_BadCounts.me, fun _ a na => ?_, fun e => (nomatch e)⟩
      have e1 : (σ'.set 1 (some (V.ref a)))[1]? = some (some (V.ref a)) := List.getElem?_set_self (by omega)
      refine ⟨_, e1, rfl, rfl, dd, v, rfl, hx, _, e1, T.C_CountError |> V.ref, .ref T.C_CountError, true, dd, _, rfl, rfl, fun u r => r, T.o_CountError.kit T.u_BadCounts_CountError, rfl, hx, _, e1, _, .ref T.C_BadRow, false, dd, _, rfl, rfl, fun u r => r, T.o_BadRow.toOwnC.kit T.u_BadCounts_BadRow, rfl, hx, small4, z⟩
    · refine ⟨false, T.o_BadCounts.toOwnC.exm T.u_BadRow_BadCounts, fun e => (nomatch e), fun _ => ⟨true, T.o_BadRow.toOwnC.exm T.o_BadRow.me, fun _ a na => ?_, fun e => (nomatch e)⟩⟩
      have e1 : (σ'.set 1 (some (V.ref a)))[1]? = some (some (V.ref a)) := List.getElem?_set_self (by omega)
      refine ⟨_, e1, rfl, rfl, dd, v, rfl, hx, _, e1, T.C_CountError |> V.ref, .ref T.C_CountError, true, dd, _, rfl, rfl, fun u r => r, T.o_CountError.kit T.u_BadRow_CountError, rfl, hx, _, e1, _, .ref T.C_BadCounts, false, dd, _, rfl, rfl, fun u r => r, T.o_BadCounts.toOwnC.kit T.u_BadRow_BadCounts, rfl, hx, small4, z⟩
end K47

namespace K47
open PySem PySem.Spec PyProof.Rows L2 Hr HrM Evl HrE_thing LamX
section
variable {P : Program} {w : World} {K : PySem.W.Frag} {mg : Str → Option Value} {base : Heap}
theorem FnOk.never {CX : CXT} {k : Nat} {f : Addr} {fd : FuncData} {ps : List Str} : FnOk P w K mg base CX k f fd ps fun _ _ _ _ => False :=
  ⟨fun _ _ _ _ h => h.elim, fun _ _ _ _ _ _ _ _ _ _ _ _ _ h => h.elim⟩
def sp_isint : Sp := fun vs H Q _ => ∃ (v : V) (d : PyData), vs = [v] ∧ Dx H v d ∧ Q (.bl (intD d)) H
theorem ok_is_integer (T : Txt K mg) : FnOk P w K mg base CX0 1 T.f_is_integer T.d_is_integer ["thing"] sp_isint := by
  refine T.U_is_integer.ok sc_is_integer (fun vs H Q E h => ?_) (fun cdv A outer s H vs Q E hr h => ?_)
  · obtain ⟨_, _, rfl, _⟩ := h
    rfl
  · obtain ⟨v, d, rfl, hd, q⟩ := h
    refine ⟨_, (pss_one (ps_ret (pe_and (pe_callB call_isi (by rfl) T.n_isinstance (by decide +kernel) (pa_cons (pv 0) (pa_cons (pe_bltn (v := .ty "int") (u := .type "int") (by rfl) T.n_int (by decide +kernel) rfl) pa_nil))) (pe_one (pe_not (pe_callB call_isi (by rfl) T.n_isinstance (by decide +kernel) (pa_cons (pv 0) (pa_cons (pe_bltn (v := .ty "bool") (u := .type "bool") (by rfl) T.n_bool (by decide +kernel) rfl) pa_nil)))))))), ?_⟩
    obtain ⟨nm, ty, k1, k2, k3⟩ := hd.kit (K := K)
    refine ⟨_, rfl, _, _, _, _, intD d || blD d, rfl, .ty "int", ty, kit_ty k1, _, rfl, ?_⟩
    cases d with
    | int n => exact iteT ⟨_, rfl, _, _, _, _, false, rfl, .ty "bool", ty, kit_ty k2, _, rfl, q⟩
    | bool b => exact iteT ⟨_, rfl, _, _, _, _, true, rfl, .ty "bool", ty, kit_ty k2, _, rfl, q⟩
    | none => exact iteF q
    | str x => exact iteF q
    | list ds => exact iteF q
    | tuple ds => exact iteF q
    | dict es => exact iteF q
def sp_is_integer_from : Sp := fun vs H Q _ => ∃ (v : V) (d : PyData) (l : Int), vs = [v, .int l] ∧ Dx H v d ∧ Q (.bl (fromD l d)) H
theorem ok_is_integer_from (T : Txt K mg) : FnOk P w K mg base CX0 2 T.f_is_integer_from T.d_is_integer_from ["thing", "least"] sp_is_integer_from := by
  have F_is_integer := ok_is_integer (P := P) (w := w) (base := base) T
  refine T.U_is_integer_from.ok sc_is_integer_from (fun vs H Q E h => ?_) (fun cdv A outer s H vs Q E hr h => ?_)
  · obtain ⟨_, _, _, rfl, _⟩ := h
    rfl
  · obtain ⟨v, d, l, rfl, hd, q⟩ := h
    refine ⟨_, (pss_one (ps_ret (pe_and (pe_call F_is_integer (hr.mono (by decide)) (by rfl) T.g_is_integer T.k_is_integer T.b_is_integer .nil pass0 (pa_cons (pv 0) pa_nil)) (pe_one (pe_cmpR op_ge (pv 0) (pv 1) (nomark _)))))), ?_⟩
    refine ⟨_, rfl, v, d, rfl, hd, intD d, rfl, ?_⟩
    cases hd with
    | int n => exact iteT ⟨_, rfl, _, rfl, _, _, rfl, rfl, q⟩
    | bl b => exact iteF q
    | non => exact iteF q
    | str x => exact iteF q
    | lst _ _ => exact iteF q
    | tup _ _ => exact iteF q
    | dct _ _ => exact iteF q
def sp_are_integers_from : Sp := fun vs H Q _ => ∃ (v : V) (d : PyData) (l : Int), vs = [v, .int l] ∧ Dx H v d ∧ (itemsD d).length ≤ 1000 ∧ RetV (.bl (fromsD l d)) H Q
theorem ok_are_integers_from (T : Txt K mg) : FnOk P w K mg base CX0 3 T.f_are_integers_from T.d_are_integers_from ["thing", "least"] sp_are_integers_from := by
  have F_is_integer_from := ok_is_integer_from (P := P) (w := w) (base := base) T
  refine T.U_are_integers_from.ok sc_are_integers_from (fun vs H Q E h => ?_) (fun cdv A outer s H vs Q E hr h => ?_)
  · obtain ⟨_, _, _, rfl, _⟩ := h
    rfl
  · obtain ⟨v, d, l, rfl, hd, hl, q⟩ := h
    refine ⟨_, (pss_one (ps_ret (pe_and (pe_callB call_isi (by rfl) T.n_isinstance (by decide +kernel) (pa_cons (pv 0) (pa_cons (pe_bltn (v := .ty "tuple") (u := .type "tuple") (by rfl) T.n_tuple (by decide +kernel) rfl) pa_nil))) (pe_one (pe_callB (cr_all rfl) (by rfl) T.n_all (by decide +kernel) (pa_cons (pe_lc (own := [("part", 2)]) (g := gName 2) (tt := tYes) rfl sc_are_integers_from.nd (pi_tup (pv 0)) (blkOk_by (own := [("part", 2)]) (N := ["thing", "least", "part"]) (sc := defScope s_are_integers_from) (by decide +kernel)) (fun _ _ _ _ _ => pg_name (i := 2) sc_are_integers_from.nd rfl (Or.inl rfl)) (fun _ _ _ _ _ => pts_nil) (fun _ _ _ _ _ => (pe_call F_is_integer_from (hr.mono (by decide)) (by rfl) T.g_is_integer_from T.k_is_integer_from T.b_is_integer_from .nil pass0 (pa_cons (pv 2) (pa_cons (pv 1) pa_nil))))) pa_nil)))))), ?_⟩
    obtain ⟨nm, ty, k1, k2, k3⟩ := hd.kit (K := K)
    refine ⟨_, rfl, _, _, _, _, tupD d, rfl, .ty "tuple", ty, kit_ty k3, _, rfl, ?_⟩
    cases hd with
    | int n => exact iteF (q H (Ex.refl H))
    | bl b => exact iteF (q H (Ex.refl H))
    | non => exact iteF (q H (Ex.refl H))
    | str x => exact iteF (q H (Ex.refl H))
    | lst _ _ => exact iteF (q H (Ex.refl H))
    | dct _ _ => exact iteF (q H (Ex.refl H))
    | @tup a xs ds ha hA =>
      have hl' : ds.length ≤ 1000 := hl
      refine iteT (r_cb (r_arg ?_))
      have hlen := hA.len
      refine el_lcT (K := K) ha (ev_var rfl) (fun _ => true) (fun i => .bl (fromD l (ds.getD i .none))) (by omega) ?_ H (Ex.refl H) _ ?_
      · intro i x H2 e hx
        obtain ⟨d, hd, td⟩ := hA.at hx
        refine ⟨[some (.ref a), some (.int l), some x], fun k hk => hk, rfl, et_yes, fun _ => ?_⟩
        intro H3 e3 Q3 q3
        have e5 : ds.getD i .none = d := by rw [List.getD_eq_getElem?_getD, hd]; rfl
        rw [e5] at q3
        exact ⟨_, rfl, _, rfl, x, d, l, rfl, td.more (e.trans e3), q3 H3 (Ex.refl H3)⟩
      · intro p H2 np e hp
        rw [given_all, bools] at hp
        refine ⟨p, _, rfl, SqL.of hp, ?_⟩
        rw [hlen, all_get (fromD l) ds _ fun i x hx => by rw [List.getD_eq_getElem?_getD, hx]; rfl]
        exact q H2 e
/-- such values: counts -/
def countsB (d : PyData) : Bool := fromsD 1 d && decide ((itemsD d).length ≤ 16)
def sp_is_counts : Sp := fun vs H Q _ => ∃ (v : V) (d : PyData), vs = [v] ∧ Dx H v d ∧ (itemsD d).length ≤ 1000 ∧ RetV (.bl (countsB d)) H Q
theorem ok_is_counts (T : Txt K mg) : FnOk P w K mg base CX0 4 T.f_is_counts T.d_is_counts ["thing"] sp_is_counts := by
  have F_are_integers_from := ok_are_integers_from (P := P) (w := w) (base := base) T
  refine T.U_is_counts.ok sc_is_counts (fun vs H Q E h => ?_) (fun cdv A outer s H vs Q E hr h => ?_)
  · obtain ⟨_, _, rfl, _⟩ := h
    rfl
  · obtain ⟨v, d, rfl, hd, hl, q⟩ := h
    refine ⟨_, (pss_one (ps_ret (pe_and (pe_call F_are_integers_from (hr.mono (by decide)) (by rfl) T.g_are_integers_from T.k_are_integers_from T.b_are_integers_from .nil pass0 (pa_cons (pv 0) (pa_cons pe_int pa_nil))) (pe_one (pe_cmpR op_le (pe_callB call_len_seq (by rfl) T.n_len PySem.boot_len (pa_cons (pv 0) pa_nil)) (pe_glob (v := .int 16) rfl T.c_MOST_COUNTS ⟨_, rfl⟩) (nomark _)))))), ?_⟩
    refine ⟨_, rfl, v, d, 1, rfl, hd, hl, fun H2 e2 => ⟨fromsD 1 d, rfl, ?_⟩⟩
    cases hf : fromsD 1 d with
    | false =>
      refine iteF ?_
      have : countsB d = false := by unfold countsB; rw [hf]; rfl
      rw [this] at q
      exact q H2 e2
    | true =>
      obtain e := intsD_vals (froms_ints hf)
      cases hd with
      | @tup a xs ds ha hA =>
        refine iteT ⟨_, rfl, a, _, rfl, .inr (SqT.of (e2 _ _ ha)), _, _, rfl, rfl, ?_⟩
        refine q_bl (Q := Q) ?_ (q H2 e2)
        unfold countsB
        rw [hf, hA.len]
        show decide ((ds.length : Int) ≤ 16) = (true && decide (ds.length ≤ 16))
        rw [Bool.true_and]
        exact decide_eq_decide.mpr (by omega)
      | int n => cases e
      | bl b => cases e
      | non => cases e
      | str x => cases e
      | lst _ _ => cases e
      | dct _ _ => cases e
/-- what is no counts is handed out -/
def sp_check_counts (C : Addr) : Sp := fun vs H Q E => ∃ (v : V) (d : PyData), vs = [v] ∧ Dx H v d ∧ (itemsD d).length ≤ 1000 ∧ (countsB d = true → RetV .non H Q) ∧
  (countsB d = false → ∀ dd H2, H dd = none → Ex H H2 → H2 dd = some (.xd [("thing", v)]) → E (.ref C) (some dd) H2)
theorem ok_check_counts (T : Txt K mg) : FnOk P w K mg base (L2.CX P w) 5 T.f_check_counts T.d_check_counts ["counts"] (sp_check_counts T.C_BadCounts) := by
  have F_is_counts := ok_is_counts (P := P) (w := w) (base := base) T
  have x_BadCounts := T.x_BadCounts
  refine T.U_check_counts.okX sc_check_counts (fun vs H Q E h => ?_) (fun cdv A outer s H vs Q E hr h => ?_)
  · obtain ⟨_, _, rfl, _⟩ := h
    rfl
  · obtain ⟨v, d, rfl, hd, hl, q1, q2⟩ := h
    refine ⟨_, (pss_one (ps_if (pt_not (pt_val (pe_call F_is_counts (hr.mono (by decide)) (by rfl) T.g_is_counts T.k_is_counts T.b_is_counts .nil pass0 (pa_cons (pv 0) pa_nil)))) (pss_one (ps_raiseEx rfl x_BadCounts hr (takes_of rfl rfl rfl rfl) (pa_cons (pv 0) pa_nil))) pss_nil)), ?_⟩
    refine ⟨_, rfl, v, d, rfl, hd, hl, fun H1 e1 => ⟨countsB d, rfl, ?_⟩⟩
    cases hc : countsB d with
    | true => exact iteF (q1 hc H1 e1)
    | false =>
      refine iteT ⟨_, rfl, v, rfl, fun dd nd => ?_⟩
      exact q2 hc dd _ (fresh_back e1 nd) (Ex.mut e1 (fresh_back e1 nd)) upd_same
end
end K47

namespace K47
open PySem PySem.Spec PyProof.Rows L2 Hr HrM Evl HrE_thing LamX
theorem ite_no {b : Bool} {A B : Prop} (h : b = false) (k : B) : (if b = true then A else B) := by
  rw [h]
  exact iteF k
theorem ite_yes {b : Bool} {A B : Prop} (h : b = true) (k : A) : (if b = true then A else B) := by
  rw [h]
  exact iteT k
def iV (is : List Int) : List V := is.map V.int
theorem iV_len (is : List Int) : (iV is).length = is.length := List.length_map _
theorem iV_get (is : List Int) (i : Nat) : (iV is)[i]? = (is[i]?).map V.int := List.getElem?_map
theorem iV_at {is : List Int} {i : Nat} {x : V} (h : (iV is)[i]? = some x) : x = .int (is.getD i 0) ∧ i < is.length := by
  rw [iV_get] at h
  cases e : is[i]? with
  | none => rw [e] at h; cases h
  | some a =>
    rw [e] at h
    cases h
    rw [List.getD_eq_getElem?_getD, e]
    exact ⟨rfl, (List.getElem?_eq_some_iff.mp e).1⟩
theorem iV_ix {is : List Int} {i : Nat} (h : i < is.length) : (iV is)[i]? = some (.int (is.getD i 0)) := by
  rw [iV_get, List.getElem?_eq_getElem h, List.getD_eq_getElem?_getD, List.getElem?_eq_getElem h]
  rfl
def rw' (n : Nat) (f : Nat → Int) : List Int := (List.range n).map f
theorem rw_len (n : Nat) (f : Nat → Int) : (rw' n f).length = n := by unfold rw'; rw [List.length_map, List.length_range]
theorem rw_get {n : Nat} {f : Nat → Int} {k : Nat} (h : k < n) : (rw' n f)[k]? = some (f k) := by
  unfold rw'
  rw [List.getElem?_map, List.getElem?_range h]
  rfl
theorem rw_at {n : Nat} {f : Nat → Int} {k : Nat} (h : k < n) : (rw' n f).getD k 0 = f k := by
  rw [List.getD_eq_getElem?_getD, rw_get h]
  rfl
theorem given_rw (n : Nat) (f : Nat → Int) : given n (fun _ => true) (fun i => .int (f i)) = iV (rw' n f) := by
  rw [given_all]
  unfold iV rw'
  rw [List.map_map]
  rfl
theorem rw_sum (n : Nat) (f : Nat → Int) : (rw' n f).sum = sumN n f := sumN_range n f
theorem ccomb' {a b : Nat} (ha : a ≤ 16) (hb : b ≤ 16) : CComb (a : Int) (b : Int) :=
  ⟨by omega, by omega, by omega, by
    rw [comb_nat]
    exact ch_bits (m := 10) (by omega) (by omega) (by decide) (by decide)⟩
/-- the moved row -/
def mvL (s : Int) (xs : List Int) : List Int := rw' xs.length (mvA s (xs.length - 1) fun i => xs.getD i 0)
theorem sg_ix {s : Int} (n : Nat) : atI [V.int 1, V.int s] ((n : Int) % 2 ^ 1) = some (.int (sg s n)) := by
  have e : ((n : Int) % 2 ^ 1) = ((n % 2 : Nat) : Int) := by
    show (n : Int) % 2 = _
    omega
  rw [e]
  unfold sg
  by_cases h : n % 2 = 0
  · rw [if_pos h, h]
    exact atI_nat rfl
  · rw [if_neg h, show n % 2 = 1 by omega]
    exact atI_nat rfl
section
variable {P : Program} {w : World} {K : PySem.W.Frag} {mg : Str → Option Value} {base : Heap}
theorem pow_lt {a b n : Nat} (h : n < 2 ^ a) (hab : a ≤ b) : n < 2 ^ b := Nat.lt_of_lt_of_le h (Nat.pow_le_pow_right (by decide) hab)
def sp_moved : Sp := fun vs H Q _ => ∃ (a : Addr) (xs : List Int) (s : Int), vs = [.ref a, .int s] ∧ H a = some (.tup (iV xs)) ∧ 1 ≤ xs.length ∧ xs.length ≤ 17 ∧ (s = 1 ∨ s = -1) ∧ (∀ i, (xs.getD i 0).natAbs < 2 ^ 400) ∧
  ∀ l H', H l = none → Ex H H' → H' l = some (.tup (iV (mvL s xs))) → Q (.ref l) H'
theorem ok_moved_row (T : Txt K mg) : FnOk P w K mg base CX0 2 T.f_moved_row T.d_moved_row ["row", "sign"] sp_moved := by
  refine T.U_moved_row.ok sc_moved_row (fun vs H Q E h => ?_) (fun cdv A outer s H vs Q E hr h => ?_)
  · obtain ⟨_, _, _, rfl, _⟩ := h
    rfl
  · obtain ⟨a, xs, s, rfl, ha, h1, h17, hs, hx, q⟩ := h
    refine ⟨_, (pss_cons (ps_set (i := 2) sc_moved_row.nd rfl (.inr rfl) (pe_op op_sub (pe_callB call_len_seq (by rfl) T.n_len PySem.boot_len (pa_cons (pv 0) pa_nil)) pe_int))
  (pss_cons (ps_set (i := 3) sc_moved_row.nd rfl (.inr rfl) (pe_tup (pa_cons pe_int (pa_cons (pv 1) pa_nil))))
  (pss_one (ps_ret (pe_callTy call_tuple_of (by rfl) T.n_tuple (by decide +kernel) (pa_cons (pe_lc (own := [("j", 4)]) (g := gName 4) (tt := tYes) rfl sc_moved_row.nd (pi_range1 rfl T.n_range (pa_cons (pe_callB call_len_seq (by rfl) T.n_len PySem.boot_len (pa_cons (pv 0) pa_nil)) pa_nil)) (blkOk_by (own := [("j", 4)]) (N := ["row", "sign", "last", "signs", "j", "i"]) (sc := defScope s_moved_row) (by decide +kernel)) (fun _ _ _ _ _ => pg_name (i := 4) sc_moved_row.nd rfl (Or.inr rfl)) (fun _ _ _ _ _ => pts_nil) (fun _ _ _ _ _ => (pe_callB (r := rSum K) (cr_sum rfl) (by rfl) T.n_sum (by decide +kernel) (pa_cons (pe_lc (own := [("i", 5)]) (g := gName 5) (tt := tYes) rfl sc_moved_row.nd (pi_range1 rfl T.n_range (pa_cons (pe_op op_add (pv 4) pe_int) pa_nil)) (blkOk_nest (own := [("i", 5)]) (by kernel_rfl)) (fun _ _ _ _ _ => pg_name (i := 5) sc_moved_row.nd rfl (Or.inl rfl)) (fun _ _ _ _ _ => pts_nil) (fun _ _ _ _ _ => (pe_op op_mulW (pe_op op_mulW (pe_ix (r := rIxT K) ix_tup (pv 3) (pe_op op_andM (pe_op op_sub (pv 4) (pv 5)) pe_int) (fun _ _ => rfl)) (pe_callBfun cr_comb (by rfl) T.comb (pa_cons (pe_op op_sub (pv 2) (pv 5)) (pa_cons (pe_op op_sub (pv 4) (pv 5)) pa_nil)))) (pe_ix (r := rIxT K) ix_tup (pv 0) (pv 5) (fun _ _ => rfl))))) pa_nil)))) pa_nil)))))), ?_⟩
    have elast : (((iV xs).length : Nat) : Int) - 1 = ((xs.length - 1 : Nat) : Int) := by rw [iV_len]; omega
    refine ⟨_, rfl, a, _, rfl, .inr (SqT.of ha), _, _, rfl, rfl, ?_⟩
    dsimp only
    rw [elast]
    generalize hd : xs.length - 1 = d
    refine ⟨_, rfl, by show 2 ≤ sizeLine; decide, fun g ng => ?_⟩
    have e1 : Ex H (upd H g (.tup [.int 1, .int s])) := Ex.new ng
    dsimp only [gName]
    refine r_ret (r_cb (r_arg ?_))
    refine el_lcR1 (n := (xs.length : Int)) (σ := [some (.ref a), some (.int s), some (.int (d : Nat)), some (.ref g), none, none]) ?_ (by omega) (fun _ => true) (fun j => .int (mvA s d (fun i => xs.getD i 0) j)) (by omega) ?_ _ (Ex.refl _) _ ?_
    · intro H1 e Q1 q1
      refine ⟨_, rfl, a, _, rfl, .inr (SqT.of (e _ _ (e1 _ _ ha))), ?_⟩
      have z := q1 H1 (Ex.refl H1)
      rw [iV_len]
      exact z
    · intro j H2 e hj
      have hj' : j < xs.length := by omega
      refine ⟨[some (.ref a), some (.int s), some (.int (d : Nat)), some (.ref g), some (.int (0 + (j : Int))), none], fun k hk => hk, rfl, et_yes, fun _ => ?_⟩
      have e0 : (0 : Int) + (j : Int) = (j : Int) := Int.zero_add _
      rw [e0]
      intro H3 e3 Q3 q3
      refine r_cb (r_arg ?_)
      refine el_lcR1 (n := ((j + 1 : Nat) : Int)) (σ := [some (.ref a), some (.int s), some (.int (d : Nat)), some (.ref g), some (.int (j : Int)), none]) ?_ (by omega) (fun _ => true) (fun i => .int (tmv s d (fun i => xs.getD i 0) j i)) (by omega) ?_ _ (Ex.refl _) _ ?_
      · intro H4 e4 Q4 q4
        exact ⟨_, rfl, _, _, rfl, rfl, q4 H4 (Ex.refl H4)⟩
      · intro i H4 e4 hi
        have hi' : i ≤ j := by omega
        refine ⟨[some (.ref a), some (.int s), some (.int (d : Nat)), some (.ref g), some (.int (j : Int)), some (.int (0 + (i : Int)))], fun k hk => hk, rfl, et_yes, fun _ => ?_⟩
        have e0 : (0 : Int) + (i : Int) = (i : Int) := Int.zero_add _
        rw [e0]
        intro H5 e5 Q5 q5
        have E5 := e.trans (e3.trans (e4.trans e5))
        have h1' : (j : Int) - (i : Int) = ((j - i : Nat) : Int) := by omega
        have h2' : (d : Int) - (i : Int) = ((d - i : Nat) : Int) := by omega
        refine ⟨_, rfl, _, rfl, _, rfl, _, _, rfl, rfl, _, 1, rfl, rfl, g, _, _, .int (sg s (j - i)), rfl, rfl, SqT.of (E5 _ _ upd_same), ?_, _, rfl, _, rfl, _, _, rfl, rfl, _, rfl, _, rfl, _, _, rfl, rfl, _, _, rfl, ?_, ?_⟩
        · rw [h1']
          exact sg_ix (j - i)
        · rw [h1', h2']
          exact ccomb' (by omega) (by omega)
        · rw [h1', h2', comb_nat]
          have b1 : (sg s (j - i)).natAbs < 2 ^ 1 := by rw [sg_abs hs]; decide
          have b2 : (((ch (d - i) (j - i) : Nat) : Int)).natAbs < 2 ^ 17 := by
            rw [Int.natAbs_natCast]
            exact Nat.lt_of_le_of_lt (ch_two _ _) (Nat.pow_lt_pow_right (by decide) (by omega))
          refine ⟨_, _, rfl, rfl, wide_mul b1 b2 (by decide) (by decide) (by decide), _, rfl, _, rfl, a, _, _, _, rfl, rfl, SqT.of (E5 _ _ (e1 _ _ ha)), atI_nat (iV_ix (by omega)), _, _, rfl, rfl, wide_mul (a := 18) (b := 400) ?_ (hx i) (by decide) (by decide) (by decide), ?_⟩
          · rw [Int.natAbs_mul, sg_abs hs, Nat.one_mul]
            exact pow_lt b2 (by decide)
          · exact q5 H5 (Ex.refl H5)
      · intro p H4 np e4 hp
        rw [given_rw] at hp
        refine ⟨p, _, rfl, SqL.of hp, ?_⟩
        rw [rw_sum]
        exact q3 H4 e4
    · intro p H2 np e hp
      rw [given_rw] at hp
      refine ⟨p, _, rfl, .inl ⟨SqL.of hp, fun l hl => ?_⟩⟩
      have e2 := e1.trans e
      refine q l _ (fresh_back e2 hl) (e2.trans (Ex.new hl)) ?_
      rw [upd_same]
      unfold mvL
      rw [hd]
      rfl
end
end K47

set_option exponentiation.threshold 3000
namespace K47
open PySem PySem.Spec PyProof.Rows L2 Hr HrM Evl HrE_thing LamX RZ
/-- what is asked of a value's size -/
structure Okd (d : PyData) : Prop where
  len : (itemsD d).length ≤ 40
  val : ∀ i, ((valsD d).getD i 0).natAbs < 2 ^ 300
theorem _root_.Hr.Dx.ints {H : Hp} {v : V} {d : PyData} (h : Dx H v d) (hi : intsD d = true) : ∃ a, v = .ref a ∧ H a = some (.tup (iV (valsD d))) := by
  have e := intsD_vals hi
  generalize valsD d = ns at e
  subst e
  cases h with
  | @tup a xs ds ha hA =>
    rw [DxA.ofInts hA] at ha
    exact ⟨a, rfl, ha⟩
theorem vals_len {d : PyData} : (valsD d).length = (itemsD d).length := by
  unfold valsD
  rw [List.length_map]
def begB : PyData → Bool
  | .tuple ds => decide (1 ≤ ds.length) && (decide (ds.length ≤ 17) && isI 1 (ds.getD 0 .none))
  | _ => false
def rowB (d : PyData) : Bool := begB d && (intsD d && ((mvL 1 (valsD d)).drop 1).all fun x => decide (1 ≤ x))
theorem beg_len {d : PyData} (h : begB d = true) : 1 ≤ (itemsD d).length ∧ (itemsD d).length ≤ 17 ∧ isI 1 ((itemsD d).getD 0 .none) = true := by
  cases d with
  | tuple ds =>
    have h' : (decide (1 ≤ ds.length) && (decide (ds.length ≤ 17) && isI 1 (ds.getD 0 .none))) = true := h
    rw [Bool.and_eq_true, Bool.and_eq_true] at h'
    exact ⟨of_decide_eq_true h'.1, of_decide_eq_true h'.2.1, h'.2.2⟩
  | _ => exact absurd h Bool.false_ne_true
theorem counts_of {d : PyData} (h : countsB d = true) : intsD d = true ∧ (valsD d).length ≤ 16 ∧ fromsD 1 d = true := by
  unfold countsB at h
  rw [Bool.and_eq_true] at h
  exact ⟨froms_ints h.1, by rw [vals_len]; exact of_decide_eq_true h.2, h.1⟩
section
variable {P : Program} {w : World} {K : PySem.W.Frag} {mg : Str → Option Value} {base : Heap}
/-- a new tuple of ints, or an error with the thing -/
def sp_h_row (C : Addr) : Sp := fun vs H Q E => ∃ (v : V) (d : PyData), vs = [v] ∧ Dx H v d ∧ Okd d ∧
  (countsB d = true → ∀ l H', H l = none → Ex H H' → H' l = some (.tup (iV (mvL (-1) (1 :: valsD d)))) → Q (.ref l) H') ∧
  (countsB d = false → ∀ dd H2, H dd = none → Ex H H2 → H2 dd = some (.xd [("thing", v)]) → E (.ref C) (some dd) H2)
theorem cons_at (n : Int) (ns : List Int) (h : ∀ i, (ns.getD i 0).natAbs < 2 ^ 300) (hn : n.natAbs < 2 ^ 300) (i : Nat) : ((n :: ns).getD i 0).natAbs < 2 ^ 400 := by
  cases i with
  | zero => exact pow_lt hn (by decide)
  | succ i => exact pow_lt (h i) (by decide)
theorem ok_h_row (T : Txt K mg) : FnOk P w K mg base (L2.CX P w) 6 T.f_h_row T.d_h_row ["counts"] (sp_h_row T.C_BadCounts) := by
  have F_check_counts := ok_check_counts (P := P) (w := w) (base := base) T
  have F_moved_row := ok_moved_row (P := P) (w := w) (base := base) T
  refine T.U_h_row.okX sc_h_row (fun vs H Q E h => ?_) (fun cdv A outer s H vs Q E hr h => ?_)
  · obtain ⟨_, _, rfl, _⟩ := h
    rfl
  · obtain ⟨v, d, rfl, hd, ok, q1, q2⟩ := h
    refine ⟨_, (pss_cons (ps_expr (pe_call F_check_counts (hr.mono (by decide)) (by rfl) T.g_check_counts T.k_check_counts T.b_check_counts .nil (passOn (takes_of rfl rfl rfl rfl)) (pa_cons (pv 0) pa_nil)))
  (pss_one (ps_ret (pe_call F_moved_row (hr.mono (by decide)) (by rfl) T.g_moved_row T.k_moved_row T.b_moved_row .nil pass0 (pa_cons (pe_op op_catA (pe_tup (pa_cons pe_int pa_nil)) (pv 0)) (pa_cons (pe_un un_neg pe_int) pa_nil)))))), ?_⟩
    refine ⟨_, rfl, v, d, rfl, hd, by have := ok.len; omega, fun hc H1 e1 => ?_, q2⟩
    obtain ⟨hi, hl, _⟩ := counts_of hc
    obtain ⟨a, rfl, ha⟩ := hd.ints hi
    have done : ∀ c H2, Ex H1 H2 → H2 c = some (.tup (iV (1 :: valsD d))) → sp_moved [.ref c, .int (-1)] H2 Q (fun _ _ _ => True) := by
      intro c H2 e2 hc2
      refine ⟨c, 1 :: valsD d, -1, rfl, hc2, by rw [List.length_cons]; omega, by rw [List.length_cons]; omega, .inr rfl, cons_at 1 _ ok.val (by decide), fun l H3 nl e3 hl3 => ?_⟩
      exact q1 hc l H3 (fresh_back (e1.trans e2) nl) ((e1.trans e2).trans e3) hl3
    refine ⟨by show 1 ≤ sizeLine; decide, fun c nc => ?_⟩
    have e2 : Ex H1 (upd H1 c (.tup [.int 1])) := Ex.new nc
    refine ⟨_, rfl, c, a, _, _, rfl, rfl, SqT.of upd_same, SqT.of (e2 _ _ (e1 _ _ ha)), ?_, (fun z => nomatch z), (fun _ hz => ?_), (fun _ _ p np => ?_)⟩
    · rw [iV_len]
      exact Nat.le_trans (show 1 + (valsD d).length ≤ 17 by omega) (by decide)
    · have hv : valsD d = [] := by
        have := congrArg List.length hz
        rw [iV_len] at this
        exact List.length_eq_zero_iff.mp this
      have hcc : (upd H1 c (.tup [.int 1])) c = some (.tup (iV (1 :: valsD d))) := by rw [upd_same, hv]; rfl
      exact ⟨1, rfl, done c _ e2 hcc⟩
    · exact ⟨1, rfl, done p _ (e2.trans (Ex.new np)) upd_same⟩
/-- one integer: the same, no bool -/
def sp_just : Sp := fun vs H Q _ => ∃ (v : V) (d : PyData) (i : Int), vs = [v, .int i] ∧ Dx H v d ∧ Q (.bl (isI i d)) H
theorem ok_is_just (T : Txt K mg) : FnOk P w K mg base CX0 2 T.f_is_just T.d_is_just ["thing", "right"] sp_just := by
  have F_is_just : FnOk P w K mg base CX0 1 T.f_is_just T.d_is_just ["thing", "right"] _ := FnOk.never
  refine T.U_is_just.ok sc_is_just (fun vs H Q E h => ?_) (fun cdv A outer s H vs Q E hr h => ?_)
  · obtain ⟨_, _, _, rfl, _⟩ := h
    rfl
  · obtain ⟨v, d, i, rfl, hd, q⟩ := h
    refine ⟨_, (pss_cons (ps_if (pt_val (pe_callB call_isi (by rfl) T.n_isinstance (by decide +kernel) (pa_cons (pv 1) (pa_cons (pe_bltn (v := .ty "tuple") (u := .type "tuple") (by rfl) T.n_tuple (by decide +kernel) rfl) pa_nil)))) (pss_cons (ps_if (PW.pt (pw_or (pt_not (pt_val (pe_callB call_isi (by rfl) T.n_isinstance (by decide +kernel) (pa_cons (pv 0) (pa_cons (pe_bltn (v := .ty "tuple") (u := .type "tuple") (by rfl) T.n_tuple (by decide +kernel) rfl) pa_nil))))) (pw_or1 (pt_cmpR op_ne (pe_callB call_len_seq (by rfl) T.n_len PySem.boot_len (pa_cons (pv 0) pa_nil)) (pe_callB call_len_seq (by rfl) T.n_len PySem.boot_len (pa_cons (pv 1) pa_nil)) (nomark _))))) (pss_one (ps_ret pe_bl)) pss_nil)
  (pss_one (ps_ret (pe_callB (cr_all rfl) (by rfl) T.n_all (by decide +kernel) (pa_cons (pe_lc (own := [("part", 2), ("other", 3)]) (g := gTup K 2 (gCons (gName 2) (gCons (gName 3) (gNil)))) (tt := tYes) rfl sc_is_just.nd (pi_zipA (by rfl) T.n_zip (pa_cons (pv 0) (pa_cons (pv 1) pa_nil))) (blkOk_by (own := [("part", 2), ("other", 3)]) (N := ["thing", "right", "part", "other"]) (sc := defScope s_is_just) (by decide +kernel)) (fun _ _ _ _ _ => pg_tup rfl (pgs_cons (pg_name (i := 2) sc_is_just.nd rfl (Or.inl rfl)) (pgs_cons (pg_name (i := 3) sc_is_just.nd rfl (Or.inl rfl)) pgs_nil))) (fun _ _ _ _ _ => pts_nil) (fun _ _ _ _ _ => (pe_call F_is_just (hr.mono (by decide)) (by rfl) T.g_is_just T.k_is_just T.b_is_just .nil pass0 (pa_cons (pv 2) (pa_cons (pv 3) pa_nil))))) pa_nil))))) pss_nil)
  (pss_one (ps_ret (pe_and (pe_not (pe_callB call_isi (by rfl) T.n_isinstance (by decide +kernel) (pa_cons (pv 0) (pa_cons (pe_bltn (v := .ty "bool") (u := .type "bool") (by rfl) T.n_bool (by decide +kernel) rfl) pa_nil)))) (pe_one (pe_cmpR (op_eqI hr.units) (pv 0) (pv 1) (nomark _))))))), ?_⟩
    refine ⟨_, rfl, _, _, _, _, false, rfl, .ty "tuple", .base (.int i), kit_ty (by decide +kernel), false, rfl, iteF ?_⟩
    obtain ⟨nm, ty, k1, k2, k3⟩ := hd.kit (K := K)
    refine ⟨_, rfl, _, _, _, _, blD d, rfl, .ty "bool", ty, kit_ty k2, _, rfl, ?_⟩
    cases d with
    | bool b => exact ⟨false, rfl, iteF q⟩
    | int n => exact ⟨true, rfl, iteT ⟨_, rfl, _, rfl, .int n, i, hd, rfl, rfl, q⟩⟩
    | none => exact ⟨true, rfl, iteT ⟨_, rfl, _, rfl, .none, i, hd, rfl, rfl, q⟩⟩
    | str x => exact ⟨true, rfl, iteT ⟨_, rfl, _, rfl, .str x, i, hd, rfl, rfl, q⟩⟩
    | list ds => exact ⟨true, rfl, iteT ⟨_, rfl, _, rfl, .list ds, i, hd, rfl, rfl, q⟩⟩
    | tuple ds => exact ⟨true, rfl, iteT ⟨_, rfl, _, rfl, .tuple ds, i, hd, rfl, rfl, q⟩⟩
    | dict es => exact ⟨true, rfl, iteT ⟨_, rfl, _, rfl, .dict es, i, hd, rfl, rfl, q⟩⟩
def sp_beg : Sp := fun vs H Q _ => ∃ (v : V) (d : PyData), vs = [v] ∧ Dx H v d ∧ (itemsD d).length ≤ 1000 ∧ Q (.bl (begB d)) H
theorem ok_begins_with_1 (T : Txt K mg) : FnOk P w K mg base CX0 3 T.f_begins_with_1 T.d_begins_with_1 ["thing"] sp_beg := by
  have F_is_just := ok_is_just (P := P) (w := w) (base := base) T
  refine T.U_begins_with_1.ok sc_begins_with_1 (fun vs H Q E h => ?_) (fun cdv A outer s H vs Q E hr h => ?_)
  · obtain ⟨_, _, rfl, _⟩ := h
    rfl
  · obtain ⟨v, d, rfl, hd, hl, q⟩ := h
    refine ⟨_, (pss_cons (ps_if (PW.pt (pw_or (pt_not (pt_val (pe_callB call_isi (by rfl) T.n_isinstance (by decide +kernel) (pa_cons (pv 0) (pa_cons (pe_bltn (v := .ty "tuple") (u := .type "tuple") (by rfl) T.n_tuple (by decide +kernel) rfl) pa_nil))))) (pw_or (pt_cmpR op_eq (pe_callB call_len_seq (by rfl) T.n_len PySem.boot_len (pa_cons (pv 0) pa_nil)) pe_int (nomark _)) (pw_or1 (pt_cmpR op_gt (pe_callB call_len_seq (by rfl) T.n_len PySem.boot_len (pa_cons (pv 0) pa_nil)) (pe_op op_add (pe_glob (v := .int 16) rfl T.c_MOST_COUNTS ⟨_, rfl⟩) pe_int) (nomark _)))))) (pss_one (ps_ret pe_bl)) pss_nil)
  (pss_one (ps_ret (pe_call F_is_just (hr.mono (by decide)) (by rfl) T.g_is_just T.k_is_just T.b_is_just .nil pass0 (pa_cons (pe_ix ix_tup (pv 0) pe_int (fun _ _ => rfl)) (pa_cons pe_int pa_nil)))))), ?_⟩
    obtain ⟨nm, ty, k1, k2, k3⟩ := hd.kit (K := K)
    refine ⟨_, rfl, _, _, _, _, tupD d, rfl, .ty "tuple", ty, kit_ty k3, _, rfl, ?_⟩
    cases hd with
    | int n => exact iteT (iteT q)
    | bl b => exact iteT (iteT q)
    | non => exact iteT (iteT q)
    | str x => exact iteT (iteT q)
    | lst _ _ => exact iteT (iteT q)
    | dct _ _ => exact iteT (iteT q)
    | @tup a xs ds ha hA =>
      have hlen := hA.len
      have hl' : ds.length ≤ 1000 := hl
      refine iteF ⟨_, rfl, a, _, rfl, .inr (SqT.of ha), rfl, ?_⟩
      rw [dec_int, hlen]
      by_cases h0 : ds.length = 0
      · refine ⟨_, rfl, ite_yes ?_ (iteT (q_bl (Q := Q) ?_ q))⟩
        · rw [h0]
          rfl
        · show false = (decide (1 ≤ ds.length) && _)
          rw [h0]
          rfl
      · refine ⟨_, rfl, ite_no ?_ ⟨_, rfl, a, _, rfl, .inr (SqT.of ha), _, _, rfl, rfl, _, _, rfl, rfl, ?_⟩⟩
        · rw [beq_eq_false_iff_ne]
          show ((ds.length : Nat) : Int) ≠ 0
          omega
        · rw [hlen]
          by_cases h17 : ds.length ≤ 17
          · refine ⟨_, rfl, ite_no ?_ ?_⟩
            · exact decide_eq_false (by omega)
            · dsimp only [tNext]
              have hx : 0 < xs.length := by omega
              obtain ⟨d0, hd0, td⟩ := hA.at (List.getElem?_eq_getElem hx)
              refine ⟨_, rfl, a, _, ((0 : Nat) : Int), _, rfl, rfl, SqT.of ha, atI_nat (List.getElem?_eq_getElem hx), xs[0], d0, 1, rfl, td, q_bl (Q := Q) ?_ q⟩
              show isI 1 d0 = (decide (1 ≤ ds.length) && (decide (ds.length ≤ 17) && isI 1 (ds.getD 0 .none)))
              rw [decide_eq_true (show 1 ≤ ds.length by omega), decide_eq_true h17, Bool.true_and, Bool.true_and, List.getD_eq_getElem?_getD, hd0]
              rfl
          · refine ⟨_, rfl, ite_yes ?_ ?_⟩
            · exact decide_eq_true (by omega)
            · refine q_bl (Q := Q) ?_ q
              show false = (decide (1 ≤ ds.length) && (decide (ds.length ≤ 17) && isI 1 (ds.getD 0 .none)))
              rw [decide_eq_false h17, Bool.false_and, Bool.and_false]
/-- counts of a row, or an error with the thing -/
def sp_counts_of_h (C : Addr) : Sp := fun vs H Q E => ∃ (v : V) (d : PyData), vs = [v] ∧ Dx H v d ∧ Okd d ∧
  (rowB d = true → ∀ l H', H l = none → Ex H H' → H' l = some (.tup (iV ((mvL 1 (valsD d)).drop 1))) → Q (.ref l) H') ∧
  (rowB d = false → ∀ dd H2, H dd = none → Ex H H2 → H2 dd = some (.xd [("thing", v)]) → E (.ref C) (some dd) H2)
theorem cut_from (is : List Int) (n : Nat) : cutV (iV is) (some (n : Int)) none = iV (is.drop n) := by
  unfold cutV
  rw [HT.sIx_nat, HT.sIx_none, iV_len]
  unfold iV
  rw [← List.map_drop, ← List.map_take]
  congr 1
  rw [List.take_of_length_le (by rw [List.length_drop]; omega)]
  by_cases h : n ≤ is.length
  · rw [Nat.min_eq_left h]
  · rw [Nat.min_eq_right (by omega), List.drop_eq_nil_of_le (Nat.le_refl _), List.drop_eq_nil_of_le (by omega)]
theorem mvL_len (s : Int) (xs : List Int) : (mvL s xs).length = xs.length := rw_len _ _
theorem froms_iv (l : Int) (ns : List Int) : fromsD l (.tuple (ns.map .int)) = ns.all fun x => decide (l ≤ x) := by
  show (ns.map PyData.int).all (fromD l) = _
  rw [List.all_map]
  rfl
theorem ok_counts_of_h (T : Txt K mg) : FnOk P w K mg base (L2.CX P w) 6 T.f_counts_of_h T.d_counts_of_h ["numbers"] (sp_counts_of_h T.C_BadRow) := by
  have F_begins_with_1 := ok_begins_with_1 (P := P) (w := w) (base := base) T
  have F_is_integer := ok_is_integer (P := P) (w := w) (base := base) T
  have F_moved_row := ok_moved_row (P := P) (w := w) (base := base) T
  have F_are_integers_from := ok_are_integers_from (P := P) (w := w) (base := base) T
  have x_BadRow := T.x_BadRow
  refine T.U_counts_of_h.okX sc_counts_of_h (fun vs H Q E h => ?_) (fun cdv A outer s H vs Q E hr h => ?_)
  · obtain ⟨_, _, rfl, _⟩ := h
    rfl
  · obtain ⟨v, d, rfl, hd, ok, q1, q2⟩ := h
    refine ⟨_, (pss_cons (ps_if (PW.pt (pw_or (pt_not (pt_val (pe_call F_begins_with_1 (hr.mono (by decide)) (by rfl) T.g_begins_with_1 T.k_begins_with_1 T.b_begins_with_1 .nil pass0 (pa_cons (pv 0) pa_nil)))) (pw_or1 (pt_not (pt_val (pe_callB (cr_all rfl) (by rfl) T.n_all (by decide +kernel) (pa_cons (pe_lc (own := [("number", 2)]) (g := gName 2) (tt := tYes) rfl sc_counts_of_h.nd (pi_tup (pv 0)) (blkOk_by (own := [("number", 2)]) (N := ["numbers", "counts", "number"]) (sc := defScope s_counts_of_h) (by decide +kernel)) (fun _ _ _ _ _ => pg_name (i := 2) sc_counts_of_h.nd rfl (Or.inl rfl)) (fun _ _ _ _ _ => pts_nil) (fun _ _ _ _ _ => (pe_call F_is_integer (hr.mono (by decide)) (by rfl) T.g_is_integer T.k_is_integer T.b_is_integer .nil pass0 (pa_cons (pv 2) pa_nil)))) pa_nil))))))) (pss_one (ps_raiseEx rfl x_BadRow hr (takes_of rfl rfl rfl rfl) (pa_cons (pv 0) pa_nil))) pss_nil)
  (pss_cons (ps_set (i := 1) sc_counts_of_h.nd rfl (.inl rfl) (pe_slice sl_tup (pe_call F_moved_row (hr.mono (by decide)) (by rfl) T.g_moved_row T.k_moved_row T.b_moved_row .nil pass0 (pa_cons (pv 0) (pa_cons pe_int pa_nil))) (po_some pe_int) po_none))
  (pss_cons (ps_if (pt_not (pt_val (pe_call F_are_integers_from (hr.mono (by decide)) (by rfl) T.g_are_integers_from T.k_are_integers_from T.b_are_integers_from .nil pass0 (pa_cons (pv 1) (pa_cons pe_int pa_nil))))) (pss_one (ps_raiseEx rfl x_BadRow hr (takes_of rfl rfl rfl rfl) (pa_cons (pv 0) pa_nil))) pss_nil)
  (pss_one (ps_ret (pv 1)))))), ?_⟩
    have hl := ok.len
    have bad : rowB d = false → ∀ {H1 : Hp} (y : Option V), Ex H H1 → (∀ dd, H1 dd = none → E (.ref T.C_BadRow) (some dd) (upd H1 dd (.xd [("thing", v)]))) := fun hb H1 y e1 dd nd =>
      q2 hb dd _ (fresh_back e1 nd) (Ex.mut e1 (fresh_back e1 nd)) upd_same
    refine ⟨_, rfl, v, d, rfl, hd, by omega, _, rfl, ?_⟩
    cases hb : begB d with
    | false =>
      refine iteT (iteT ⟨_, rfl, v, rfl, bad ?_ none (Ex.refl H)⟩)
      unfold rowB
      rw [hb]
      rfl
    | true =>
      obtain ⟨l1, l17, l0⟩ := beg_len hb
      have hrow : rowB d = (intsD d && ((mvL 1 (valsD d)).drop 1).all fun x => decide (1 ≤ x)) := by
        unfold rowB
        rw [hb, Bool.true_and]
      refine iteF ?_
      cases hd with
      | int n => cases hb
      | bl b => cases hb
      | non => cases hb
      | str x => cases hb
      | lst _ _ => cases hb
      | dct _ _ => cases hb
      | @tup a xs ds ha hA =>
        have hlen := hA.len
        have hl' : ds.length ≤ 40 := hl
        refine r_cb (r_arg ?_)
        refine el_lcT (K := K) ha (ev_var rfl) (fun _ => true) (fun i => .bl (intD (ds.getD i .none))) (by omega) ?_ H (Ex.refl H) _ ?_
        · intro i x H2 e hx
          obtain ⟨d0, hd0, td⟩ := hA.at hx
          refine ⟨[some (.ref a), none, some x], fun k hk => hk, rfl, et_yes, fun _ => ?_⟩
          intro H3 e3 Q3 q3
          have e5 : ds.getD i .none = d0 := by rw [List.getD_eq_getElem?_getD, hd0]; rfl
          rw [e5] at q3
          exact ⟨_, rfl, x, d0, rfl, td.more (e.trans e3), q3 H3 (Ex.refl H3)⟩
        · intro p H2 np e hp
          rw [given_all, bools] at hp
          refine ⟨p, _, rfl, SqL.of hp, ?_⟩
          rw [hlen, all_get intD ds _ fun i x hx => by rw [List.getD_eq_getElem?_getD, hx]; rfl]
          refine ⟨_, rfl, ?_⟩
          cases hi : ds.all intD with
          | false =>
            refine iteT ⟨_, rfl, _, rfl, bad ?_ none e⟩
            rw [hrow, show intsD (.tuple ds) = false from hi]
            rfl
          | true =>
            dsimp only [tNext]
            refine iteF ?_
            have hi' : intsD (.tuple ds) = true := hi
            have hval := ok.val
            have l1' : 1 ≤ ds.length := l1
            have l2' : ds.length ≤ 17 := l17
            rw [hi', Bool.true_and] at hrow
            have hv := intsD_vals hi'
            have hvl : (valsD (.tuple ds)).length = ds.length := vals_len
            generalize valsD (.tuple ds) = ns at *
            have hxs : xs = iV ns := by
              have hv' : ds = ns.map .int := by cases hv; rfl
              subst hv'
              exact DxA.ofInts hA
            rw [hxs] at ha
            refine ⟨_, rfl, a, ns, 1, rfl, e _ _ ha, by omega, by omega, .inl rfl, fun i => pow_lt (hval i) (by decide), fun l H3 nl e3 hl3 => ?_⟩
            have hm : (iV (mvL 1 ns)).length = ns.length := by rw [iV_len, mvL_len]
            refine ⟨1, rfl, l, _, rfl, SqT.of hl3, ?_, fun p np => ?_⟩
            · rintro ⟨z, _⟩
              have z' : HT.sIx (iV (mvL 1 ns)).length 0 (some ((1 : Nat) : Int)) = 0 := z
              rw [HT.sIx_nat, hm] at z'
              omega
            have ec : cutV (iV (mvL 1 ns)) (some ((1 : Nat) : Int)) none = iV ((mvL 1 ns).drop 1) := cut_from _ 1
            have e4 : Ex H3 (upd H3 p (.tup (cutV (iV (mvL 1 ns)) (some ((1 : Nat) : Int)) none))) := Ex.new np
            have hp4 : (upd H3 p (.tup (cutV (iV (mvL 1 ns)) (some ((1 : Nat) : Int)) none))) p = some (.tup (iV ((mvL 1 ns).drop 1))) := by rw [upd_same, ec]
            have E4 := e.trans (e3.trans e4)
            refine ⟨_, rfl, .ref p, .tuple (((mvL 1 ns).drop 1).map .int), 1, rfl, .tup hp4 (DxA.ints _), ?_, fun H5 e5 => ⟨_, rfl, ?_⟩⟩
            · show (((mvL 1 ns).drop 1).map PyData.int).length ≤ 1000
              rw [List.length_map, List.length_drop, mvL_len]
              omega
            rw [froms_iv]
            cases hf : ((mvL 1 ns).drop 1).all fun x => decide (1 ≤ x) with
            | false =>
              refine iteT ⟨_, rfl, _, rfl, bad (by rw [hrow, hf]) none (E4.trans e5)⟩
            | true =>
              dsimp only [tNext]
              refine iteF ⟨_, rfl, ?_⟩
              exact q1 (by rw [hrow, hf]) p H5 (fresh_back (e.trans e3) np) (E4.trans e5) (e5 _ _ hp4)
end
end K47

set_option exponentiation.threshold 3000
namespace K47
open PySem PySem.Spec PyProof.Rows L2 Hr HrM Evl HrE_thing LamX RZ
section
variable {P : Program} {w : World} {K : PySem.W.Frag} {mg : Str → Option Value} {base : Heap}
def sp_draw : Sp := fun vs H Q _ => ∃ (G : Hp) (d : Addr) (m : Int), vs = [.ref d, .int m] ∧ 1 ≤ m ∧ m ≤ 1000000 ∧ Dk G d H ∧ ∀ (r : Int) (H' : Hp), 0 ≤ r → r < m → Dk G d H' → Q (.int r) H'
theorem ok_draw (T : Txt K mg) : FnOk P w K mg base CX0 2 T.f_l_draw T.d_l_draw ["deck", "many"] sp_draw := by
  refine T.U_l_draw.ok sc_l_draw (fun vs H Q E h => ?_) (fun cdv A outer s H vs Q E hr h => ?_)
  · obtain ⟨_, _, _, rfl, _⟩ := h
    rfl
  · obtain ⟨G, d, m, rfl, hm1, hm2, ⟨c, cells, mx, n, k⟩, q⟩ := h
    refine ⟨_, (pss_cons (ps_dput (hu_of hr) (pv 0) pe_str (pe_op op_add (pe_dget (hu_of hr) (pv 0) pe_str (fun _ _ => rfl)) pe_int) rfl)
  (pss_cons (ps_set (i := 2) sc_l_draw.nd rfl (.inl rfl) (pe_op op_add (pe_dget (hu_of hr) (pv 0) pe_str (fun _ _ => rfl)) (pe_op op_mul pe_int (pe_dget (hu_of hr) (pv 0) pe_str (fun _ _ => rfl)))))
  (pss_cut (ps_if (pt_cmpR (op_neD hr.units) (pe_dget (hu_of hr) (pv 0) pe_str (fun _ _ => rfl)) (pe_lst pa_nil) (nomark _)) (pss_cons (ps_set (i := 3) sc_l_draw.nd rfl (.inl rfl) (pe_bm0 PySem.F.plainAttrs_list PySem.F.slot_list_pop PySem.F.type_list_pop mt_pop (pe_dget (hu_of hr) (pv 0) pe_str (fun _ _ => rfl))))
  (pss_cons (ps_if (pt_cmpR op_ge (pv 3) (pe_op op_pow pe_int pe_int) (nomark _)) (pss_cons (ps_expr (pe_bm PySem.F.plainAttrs_list PySem.F.slot_list_append PySem.F.type_list_append mt_append (pe_dget (hu_of hr) (pv 0) pe_str (fun _ _ => rfl)) (pa_cons (pe_op op_fdivN (pv 3) (pe_callB (call_max2 rfl) (by rfl) T.n_max (by decide +kernel) (pa_cons pe_int (pa_cons (pv 1) pa_nil)))) pa_nil)))
  (pss_one (ps_ret (pe_op op_modN (pe_callTy call_int1 (by rfl) T.n_int (by decide +kernel) (pa_cons (pv 3) pa_nil)) (pv 1))))) pss_nil)
  (pss_one (ps_set (i := 2) sc_l_draw.nd rfl (.inl rfl) (pe_op op_add (pv 2) (pe_op op_modN (pe_callTy call_int1 (by rfl) T.n_int (by decide +kernel) (pa_cons (pv 3) pa_nil)) pe_int)))))) pss_nil)
  (pss_cut (ps_set (i := 2) sc_l_draw.nd rfl (.inl rfl) (pe_op op_modN (pe_callTy call_int1 (by rfl) T.n_int (by decide +kernel) (pa_cons (pe_op op_add (pe_op op_mul (pv 2) pe_int) pe_int) pa_nil)) pe_int))
  (pss_cons (ps_set (i := 2) sc_l_draw.nd rfl (.inl rfl) (pe_op op_modN (pe_callTy call_int1 (by rfl) T.n_int (by decide +kernel) (pa_cons (pe_op op_add (pe_op op_add (pe_op op_mul (pv 2) (pv 2)) (pe_op op_mul pe_int (pe_dget (hu_of hr) (pv 0) pe_str (fun _ _ => rfl)))) pe_int) pa_nil)) pe_int))
  (pss_cons (ps_set (i := 2) sc_l_draw.nd rfl (.inl rfl) (pe_op op_modN (pe_callTy call_int1 (by rfl) T.n_int (by decide +kernel) (pa_cons (pe_op op_mul (pv 2) pe_int) pa_nil)) pe_int))
  (pss_one (ps_ret (pe_op op_modN (pe_callTy call_int1 (by rfl) T.n_int (by decide +kernel) (pa_cons (pe_op op_fdivN (pv 2) pe_int) pa_nil)) (pv 1)))))))))), ?_⟩
    -- deck['draws'] = deck['draws'] + 1
    refine ⟨_, rfl, d, _, rfl, k.gdraws, _, _, rfl, rfl, _, rfl, d, _, rfl, k.pdraws, ?_⟩
    have k1 := k.draw (n' := n + 1)
    -- number = ..
    refine ⟨_, rfl, d, _, rfl, k1.gmixed, _, rfl, d, _, rfl, k1.gdraws, _, _, rfl, rfl, .inl ⟨by decide, by decide⟩, _, _, rfl, rfl, ?_⟩
    refine ⟨fun σ' H' => ∃ (z : Int) (y : Option V), σ' = [some (.ref d), some (.int m), some (.int z), y] ∧ Dk G d H', ?_, ?_⟩
    · -- if deck['cells'] != []
      refine ⟨_, rfl, d, _, rfl, k1.gcells, Nat.zero_le _, fun e ne => ?_⟩
      have k2 := k1.new (o := .lst []) ne
      refine ⟨izD cells, izD [], izD_dp (SqL.of k2.hc), izD_dp (xs := []) (SqL.of upd_same), izD_shaped _, izD_shaped _, _, rfl, ?_⟩
      rw [izD_eqv_nil]
      cases hx : cells with
      | nil =>
        refine iteF ⟨_, none, rfl, c, cells, mx, n + 1, k2⟩
      | cons x0 xs0 =>
        rw [← hx]
        have he : (!cells.isEmpty) = true := by rw [hx]; rfl
        rw [he]
        have hpos : cells.length ≠ 0 := by rw [hx]; exact Nat.succ_ne_zero _
        refine iteT ?_
        obtain ⟨x, hlast⟩ : ∃ x, cells[cells.length - 1]? = some x := ⟨_, List.getElem?_eq_getElem (by omega)⟩
        have k3 := k2.cell (xs := cells.dropLast) (by rw [List.length_dropLast]; have := k2.len; omega)
        refine ⟨_, rfl, d, _, rfl, k2.gcells, .inl ⟨rfl, _, SqL.of k2.hc⟩, c, _, .int x, rfl, rfl, k2.hc, ?_, ?_⟩
        · rw [List.length_map, List.getElem?_map, hlast]
          rfl
        rw [← List.map_dropLast]
        -- if cell >= 10 ** 18
        refine ⟨_, rfl, _, _, rfl, rfl, ⟨by decide, by decide, by decide⟩, _, _, rfl, rfl, _, rfl, ite2 (fun _ => ?_) (fun _ => ?_)⟩
        · refine ⟨_, rfl, d, _, rfl, k3.gcells, .inl ⟨rfl, _, SqL.of k3.hc⟩, _, rfl, _, rfl, _, _, rfl, _, _, rfl, rfl, ?_, c, _, _, rfl, rfl, k3.hc, ?_, ?_⟩
          · constructor
            · split <;> omega
            · split <;> omega
          · rw [List.length_map, List.length_dropLast]
            exact small1000 (by have := k2.len; omega)
          · have k4 : DkC G d c (cells.dropLast ++ [x.fdiv (if m > 2 then m else 2)]) mx (n + 1) _ := k3.cell (by rw [List.length_append, List.length_singleton, List.length_dropLast]; have := k2.len; omega)
            rw [List.map_append] at k4
            refine ⟨_, rfl, .inl ⟨_, rfl, _, rfl, _, _, rfl, rfl, by show m ≠ 0; omega, ?_⟩⟩
            exact q _ _ (Int.fmod_nonneg_of_pos _ (by omega)) (Int.fmod_lt_of_pos _ (by omega)) ⟨c, _, mx, n + 1, k4⟩
        · refine ⟨_, rfl, _, rfl, .inl ⟨_, rfl, _, _, rfl, rfl, by simp, _, _, rfl, rfl, _, _, rfl, ?_⟩⟩
          exact ⟨c, _, mx, n + 1, k3⟩
    · rintro σ' H' ⟨z, y, rfl, c, cells, mx, n, k⟩
      refine ⟨fun σ' H' => ∃ v : Int, 0 ≤ v ∧ v < 2147483629 ∧ σ' = [some (.ref d), some (.int m), some (.int v), y] ∧ Dk G d H', ?_, ?_⟩
      · refine ⟨_, rfl, _, _, rfl, rfl, .inr ⟨by decide, by decide⟩, _, _, rfl, rfl, .inl ⟨_, rfl, _, _, rfl, rfl, by simp, ?_⟩⟩
        exact ⟨_, Int.fmod_nonneg_of_pos _ (by decide), Int.fmod_lt_of_pos _ (by decide), rfl, c, cells, mx, n, k⟩
      rintro σ' H' ⟨v, hv0, hv1, rfl, c, cells, mx, n, k⟩
      refine ⟨_, rfl, _, rfl, _, _, rfl, rfl, .inl ⟨by omega, by omega⟩, _, rfl, d, _, rfl, k.gdraws, _, _, rfl, rfl, .inl ⟨by decide, by decide⟩, _, _, rfl, rfl, _, _, rfl, rfl, .inl ⟨_, rfl, _, _, rfl, rfl, by simp, ?_⟩⟩
      refine ⟨_, rfl, _, _, rfl, rfl, .inr ⟨by decide, by decide⟩, .inl ⟨_, rfl, _, _, rfl, rfl, by simp, ?_⟩⟩
      refine ⟨_, rfl, _, _, rfl, rfl, ⟨by decide, by decide⟩, .inl ⟨_, rfl, _, rfl, _, _, rfl, rfl, by show m ≠ 0; omega, ?_⟩⟩
      exact q _ _ (Int.fmod_nonneg_of_pos _ (by omega)) (Int.fmod_lt_of_pos _ (by omega)) ⟨c, cells, mx, n, k⟩

theorem cut_ints (ns : List Int) (lo hi : Option Int) : ∃ zs : List Int, cutV (ns.map V.int) lo hi = zs.map V.int ∧ zs.length ≤ ns.length := by
  refine ⟨(ns.drop (HT.sIx (ns.map V.int).length 0 lo)).take (HT.sIx (ns.map V.int).length (ns.map V.int).length hi - HT.sIx (ns.map V.int).length 0 lo), ?_, ?_⟩
  · unfold cutV
    rw [List.map_take, List.map_drop]
  · rw [List.length_take, List.length_drop]
    omega
def sp_deck : Sp := fun vs H Q _ => ∃ (K : PySem.W.Frag) (a : Addr) (ns : List Int), vs = [.ref a] ∧ SqL K H a (ns.map V.int) ∧ ns.length ≤ 63 ∧ ∀ d H', Dk H d H' → Q (.ref d) H'
def sp_deckK (K : PySem.W.Frag) : Sp := fun vs H Q _ => ∃ (a : Addr) (ns : List Int), vs = [.ref a] ∧ SqL K H a (ns.map V.int) ∧ ns.length ≤ 63 ∧ ∀ d H', Dk H d H' → Q (.ref d) H'
theorem ok_deck (T : Txt K mg) : FnOk P w K mg base CX0 2 T.f_l_deck T.d_l_deck ["script"] (sp_deckK K) := by
  refine T.U_l_deck.ok sc_l_deck (fun vs H Q E h => ?_) (fun cdv A outer s H vs Q E hr h => ?_)
  · obtain ⟨_, _, rfl, _⟩ := h
    rfl
  · obtain ⟨a, ns, rfl, hS, hl, q⟩ := h
    refine ⟨_, (pss_cons (ps_set (i := 1) sc_l_deck.nd rfl (.inl rfl) pe_int)
  (pss_cons (ps_for PassesOwn.never rfl (pi_list (pe_slice sl_list (pv 0) po_none (po_some pe_int))) (pg_name (i := 2) sc_l_deck.nd rfl (.inl rfl)) (pss_one (ps_set (i := 1) sc_l_deck.nd rfl (.inl rfl) (pe_op op_modN (pe_callTy call_int1 (by rfl) T.n_int (by decide +kernel) (pa_cons (pe_op op_add (pe_op op_add (pe_op op_mul (pv 1) pe_int) (pe_op op_modN (pe_callTy call_int1 (by rfl) T.n_int (by decide +kernel) (pa_cons (pv 2) pa_nil)) pe_int)) pe_int) pa_nil)) pe_int))))
  (pss_one (ps_ret (pe_disp (pps_cons pe_str (pe_revL (pe_callTy call_list_of (by rfl) T.n_list (by decide +kernel) (pa_cons (pe_slice sl_list (pv 0) po_none (po_some pe_int)) pa_nil))) (pps_cons pe_str (pv 1) (pps_cons pe_str pe_int pps_nil))) (by rfl) (by rfl) (fun z => by cases z) (by decide)))))), ?_⟩
    refine ⟨_, rfl, 63, rfl, a, _, rfl, hS, fun p np => ?_⟩
    obtain ⟨zs, ez, hz⟩ := cut_ints ns none (some 63)
    rw [ez]
    have e1 : Ex H (upd H p (.lst (zs.map V.int))) := Ex.new np
    have hp : SqL K (upd H p (.lst (zs.map V.int))) p (zs.map V.int) := SqL.of upd_same
    refine ⟨p, rfl, ⟨_, hp⟩, ?_⟩
    refine for_list (xs := zs.map V.int) (fun i σ' H' => ∃ (m : Int) (y : Option V), 0 ≤ m ∧ m < 2147483563 ∧ σ' = [some (.ref a), some (.int m), y] ∧ H' = upd H p (.lst (zs.map V.int))) ⟨_, none, by decide, by decide, rfl, rfl⟩ ?_ ?_ ?_
    · rintro i σ' H' _ ⟨_, _, _, _, _, rfl⟩
      exact hp
    · rintro i x σ' H' hx ⟨m, y, hm0, hm1, rfl, rfl⟩
      obtain ⟨z, rfl⟩ : ∃ z : Int, x = .int z := by
        rw [List.getElem?_map] at hx
        cases h : zs[i]? with
        | none => rw [h] at hx; cases hx
        | some z => rw [h] at hx; cases hx; exact ⟨z, rfl⟩
      refine ⟨_, rfl, _, _, rfl, rfl, .inr ⟨by decide, by decide⟩, _, rfl, .inl ⟨_, rfl, _, _, rfl, rfl, by simp, _, _, rfl, rfl, _, _, rfl, rfl, .inl ⟨_, rfl, _, _, rfl, rfl, by simp, ?_⟩⟩⟩
      exact ⟨_, _, Int.fmod_nonneg_of_pos _ (by decide), Int.fmod_lt_of_pos _ (by decide), rfl, rfl⟩
    · rintro σ' H' ⟨m, y, hm0, hm1, rfl, rfl⟩
      refine fun d nd => ?_
      have e2 := e1.trans (Ex.new (o := .dK []) nd)
      refine ⟨_, rfl, 63, rfl, a, _, rfl, ex_l e2 hS, fun l1 n1 => ?_⟩
      rw [ez]
      refine ⟨l1, _, rfl, .inl (SqL.of upd_same), fun l2 n2 => ⟨l2, _, rfl, SqL.of upd_same, fun c nc => ⟨_, rfl, ?_⟩⟩⟩
      have dc : d ≠ c := ne_of_none ((Ex.new n2) _ _ ((Ex.new n1) _ _ upd_same)) nc
      have hd : (upd (upd (upd (upd (upd H p (.lst (zs.map V.int))) d (.dK [])) l1 (.lst (zs.map V.int))) l2 (.lst (zs.map V.int))) c (.lst (zs.map V.int).reverse)) d = some (.dK []) :=
        (Ex.new nc) _ _ ((Ex.new n2) _ _ ((Ex.new n1) _ _ upd_same))
      refine ⟨hd, [(kC, .ref c), (kM, .int m), (kD, .int 0)], rfl, by show 3 ≤ 15; decide, ?_⟩
      rw [deck_made]
      have ex : Ex H (upd (upd (upd (upd (upd H p (.lst (zs.map V.int))) d (.dK [])) l1 (.lst (zs.map V.int))) l2 (.lst (zs.map V.int))) c (.lst (zs.map V.int).reverse)) :=
        e2.trans ((Ex.new n1).trans ((Ex.new n2).trans (Ex.new nc)))
      refine q d _ ⟨c, zs.reverse, m, 0, Ex.mut ex (fresh_back e1 nd), fresh_back e1 nd, fresh_back (e2.trans ((Ex.new n1).trans (Ex.new n2))) nc, upd_same, ?_, by rw [List.length_reverse]; omega, hm0, by omega⟩
      rw [upd_ne dc.symm, upd_same, List.map_reverse]

def sp_pick : Sp := fun vs H Q _ => ∃ (G : Hp) (d s : Addr) (xs : List V), vs = [.ref d, .ref s] ∧ Dk G d H ∧ G s = some (.lst xs) ∧ 1 ≤ xs.length ∧ xs.length ≤ 1000 ∧ ∀ (i : Nat) (v : V) (H' : Hp), xs[i]? = some v → Dk G d H' → Q v H'
theorem ok_pick (T : Txt K mg) : FnOk P w K mg base CX0 3 T.f_l_pick T.d_l_pick ["deck", "some"] sp_pick := by
  have F_l_draw := ok_draw (P := P) (w := w) (base := base) T
  refine T.U_l_pick.ok sc_l_pick (fun vs H Q E h => ?_) (fun cdv A outer s H vs Q E hr h => ?_)
  · obtain ⟨_, _, _, _, rfl, _⟩ := h
    rfl
  · obtain ⟨G, d, s, xs, rfl, k, hs, h1, h2, q⟩ := h
    refine ⟨_, (pss_one (ps_ret (pe_ix ix_list (pv 1) (pe_call F_l_draw (hr.mono (by decide)) (by rfl) T.g_l_draw T.k_l_draw T.b_l_draw .nil pass0 (pa_cons (pv 0) (pa_cons (pe_callB call_len_seq (by rfl) T.n_len PySem.boot_len (pa_cons (pv 1) pa_nil)) pa_nil))) (fun _ _ => rfl)))), ?_⟩
    refine ⟨_, rfl, _, rfl, _, rfl, s, xs, rfl, .inl (SqL.of (k.get hs)), G, d, _, rfl, by omega, by omega, k, fun r H' r0 r1 k' => ?_⟩
    obtain ⟨i, rfl⟩ : ∃ i : Nat, r = (i : Int) := ⟨r.toNat, by omega⟩
    have hi : i < xs.length := by omega
    refine ⟨s, xs, _, _, rfl, rfl, SqL.of (k'.get hs), atI_nat (List.getElem?_eq_getElem hi), ?_⟩
    exact q i _ H' (List.getElem?_eq_getElem hi) k'

def sp_below : Sp := fun vs H Q _ => ∃ (G : Hp) (d : Addr) (m : Int), vs = [.ref d, .int m] ∧ 1 ≤ m ∧ Dk G d H ∧ ∀ (r : Int) (H' : Hp), 0 ≤ r → r < m → Dk G d H' → Q (.int r) H'
theorem ok_below (T : Txt K mg) : FnOk P w K mg base CX0 3 T.f_l_below T.d_l_below ["deck", "most"] sp_below := by
  have F_l_draw := ok_draw (P := P) (w := w) (base := base) T
  refine T.U_l_below.ok sc_l_below (fun vs H Q E h => ?_) (fun cdv A outer s H vs Q E hr h => ?_)
  · obtain ⟨_, _, _, rfl, _⟩ := h
    rfl
  · obtain ⟨G, d, m, rfl, h1, k, q⟩ := h
    refine ⟨_, (pss_cons (ps_set (i := 2) sc_l_below.nd rfl (.inl rfl) pe_int)
  (pss_cons (ps_for PassesOwn.never rfl (pi_range1 rfl T.n_range (pa_cons pe_int pa_nil)) (pg_name (i := 3) sc_l_below.nd rfl (.inl rfl)) (pss_one (ps_set (i := 2) sc_l_below.nd rfl (.inl rfl) (pe_op op_add (pe_op op_mul (pv 2) (pe_op op_pow pe_int pe_int)) (pe_call F_l_draw (hr.mono (by decide)) (by rfl) T.g_l_draw T.k_l_draw T.b_l_draw .nil pass0 (pa_cons (pv 0) (pa_cons (pe_op op_pow pe_int pe_int) pa_nil)))))))
  (pss_one (ps_ret (pe_op op_modN (pe_callTy call_int1 (by rfl) T.n_int (by decide +kernel) (pa_cons (pv 2) pa_nil)) (pv 1)))))), ?_⟩
    refine ⟨4, rfl, by decide, by decide, for_range (n := 4) (fun i σ' H' => ∃ (z : Int) (y : Option V), σ' = [some (.ref d), some (.int m), some (.int z), y] ∧ Dk G d H') ⟨0, none, rfl, k⟩ ?_ ?_⟩
    · rintro i σ' H' _ ⟨z, y, rfl, k'⟩
      refine ⟨_, rfl, _, _, rfl, rfl, ⟨by decide, by decide, by decide⟩, _, _, rfl, rfl, .inr ⟨by decide, by decide⟩, _, rfl, _, _, rfl, rfl, ⟨by decide, by decide, by decide⟩, G, d, _, rfl, by decide, by decide, k', fun r H2 r0 r1 k2 => ?_⟩
      exact ⟨_, _, rfl, rfl, _, _, rfl, k2⟩
    · rintro σ' H' ⟨z, y, rfl, k'⟩
      refine ⟨_, rfl, .inl ⟨_, rfl, _, rfl, _, _, rfl, rfl, by show m ≠ 0; omega, ?_⟩⟩
      exact q _ _ (Int.fmod_nonneg_of_pos _ (by omega)) (Int.fmod_lt_of_pos _ (by omega)) k'


theorem choose_step (a k : Nat) (h : k < a) : (((ch a k : Nat) : Int) * ((a : Int) - (k : Int))).fdiv ((k : Int) + 1) = ((ch a (k + 1) : Nat) : Int) := by
  have e1 : ((a : Int) - (k : Int)) = ((a - k : Nat) : Int) := by omega
  have e2 : ((k : Int) + 1) = ((k + 1 : Nat) : Int) := by omega
  rw [e1, e2, ← Int.natCast_mul, Int.fdiv_eq_ediv_of_nonneg _ (by omega), ← Int.natCast_ediv, ← ch_mul, Nat.mul_div_cancel _ (by omega)]
def sp_ways : Sp := fun vs H Q _ => ∃ (a b : Nat), vs = [.int a, .int b] ∧ a ≤ 16 ∧ b ≤ 16 ∧ Q (.int ((ch a b : Nat) : Int)) H
theorem ok_ways (T : Txt K mg) : FnOk P w K mg base CX0 2 T.f_l_ways T.d_l_ways ["a", "b"] sp_ways := by
  refine T.U_l_ways.ok sc_l_ways (fun vs H Q E h => ?_) (fun cdv A outer s H vs Q E hr h => ?_)
  · obtain ⟨_, _, rfl, _⟩ := h
    rfl
  · obtain ⟨a, b, rfl, ha, hb, q⟩ := h
    refine ⟨_, (pss_cons (ps_if (PW.pt (pw_or (pt_cmpR op_lt (pv 1) pe_int (nomark _)) (pw_or1 (pt_cmpR op_gt (pv 1) (pv 0) (nomark _))))) (pss_one (ps_ret pe_int)) pss_nil)
  (pss_cons (ps_set (i := 2) sc_l_ways.nd rfl (.inl rfl) pe_int)
  (pss_cons (ps_for PassesOwn.never rfl (pi_range1 rfl T.n_range (pa_cons (pv 1) pa_nil)) (pg_name (i := 3) sc_l_ways.nd rfl (.inl rfl)) (pss_one (ps_set (i := 2) sc_l_ways.nd rfl (.inl rfl) (pe_op op_fdivN (pe_op op_mulW (pv 2) (pe_op op_sub (pv 0) (pv 3))) (pe_op op_add (pv 3) pe_int)))))
  (pss_one (ps_ret (pv 2)))))), ?_⟩
    refine ⟨_, rfl, _, _, rfl, rfl, _, rfl, ite_no ?_ ?_⟩
    · exact decide_eq_false (by omega)
    refine ⟨_, rfl, _, rfl, _, _, rfl, rfl, _, rfl, ite2 (fun e => ?_) (fun e => ?_)⟩
    · have e' : a < b := by have := of_decide_eq_true e; omega
      rw [ch_lt e'] at q
      exact q
    · have e' : b ≤ a := by
        by_cases z : b ≤ a
        · exact z
        · exact absurd (decide_eq_true (by omega)) e
      dsimp only [tNext]
      refine ⟨_, rfl, _, rfl, by omega, by omega, ?_⟩
      rw [show ((b : Int)).toNat = b from rfl]
      refine for_range (lo := 0) (n := b) (fun i σ' H' => ∃ (y : Option V), i ≤ b ∧ σ' = [some (.int a), some (.int b), some (.int ((ch a i : Nat) : Int)), y] ∧ H' = H) ⟨none, Nat.zero_le _, by rw [ch_zero]; rfl, rfl⟩ ?_ ?_
      · rintro i σ' H' hi ⟨y, _, rfl, rfl⟩
        have e0 : (0 : Int) + (i : Int) = (i : Int) := Int.zero_add _
        rw [e0]
        have b1 : ch a i < 2 ^ 17 := Nat.lt_of_le_of_lt (ch_two a i) (Nat.pow_lt_pow_right (by decide) (by omega))
        refine ⟨_, rfl, _, rfl, _, rfl, _, _, rfl, rfl, _, _, rfl, rfl, wide_mul (a := 17) (b := 5) ?_ ?_ (by decide) (by decide) (by decide), _, rfl, _, _, rfl, rfl, _, _, rfl, rfl, ⟨by omega, by omega⟩, ?_⟩
        · rw [Int.natAbs_natCast]
          exact b1
        · have : ((a : Int) - (i : Int)).natAbs ≤ a := by omega
          omega
        · exact ⟨some (.int (i : Int)), by omega, by rw [← choose_step a i (by omega)]; rfl, rfl⟩
      · rintro σ' H' ⟨y, _, rfl, rfl⟩
        exact ⟨_, rfl, q⟩
end
end K47

set_option exponentiation.threshold 3000
namespace K47
open PySem PySem.Spec PyProof.Rows L2 Hr HrM Evl HrE_thing LamX RZ
section
variable {P : Program} {w : World} {K : PySem.W.Frag} {mg : Str → Option Value} {base : Heap}
def sp_lh : Sp := fun vs H Q _ => ∃ (a : Addr) (ns : List Int), vs = [.ref a] ∧ H a = some (.tup (iV ns)) ∧ ns.length ≤ 16 ∧ (∀ i, (ns.getD i 0).natAbs < 2 ^ 300) ∧
  ∀ l H', H l = none → Ex H H' → H' l = some (.tup (iV (mvL (-1) (1 :: ns)))) → Q (.ref l) H'
theorem ok_lh (T : Txt K mg) : FnOk P w K mg base CX0 3 T.f_l_h T.d_l_h ["counts"] sp_lh := by
  have F_l_ways := ok_ways (P := P) (w := w) (base := base) T
  refine T.U_l_h.ok sc_l_h (fun vs H Q E h => ?_) (fun cdv A outer s H vs Q E hr h => ?_)
  · obtain ⟨_, _, rfl, _⟩ := h
    rfl
  · obtain ⟨a, ns, rfl, ha, hl, hx, q⟩ := h
    refine ⟨_, (pss_cons (ps_asg (pe_tup (pa_cons (pe_callB call_len_seq (by rfl) T.n_len PySem.boot_len (pa_cons (pv 0) pa_nil)) (pa_cons (pe_op op_catN (pe_tup (pa_cons pe_int pa_nil)) (pe_callTy call_tuple_of (by rfl) T.n_tuple (by decide +kernel) (pa_cons (pv 0) pa_nil))) pa_nil))) (pg_tup (by rfl) (pgs_cons (pg_name (i := 1) sc_l_h.nd rfl (.inr rfl)) (pgs_cons (pg_name (i := 2) sc_l_h.nd rfl (.inr rfl)) pgs_nil))))
  (pss_cons (ps_set (i := 3) sc_l_h.nd rfl (.inl rfl) (pe_lst pa_nil))
  (pss_cons (ps_for PassesOwn.never rfl (pi_range1 rfl T.n_range (pa_cons (pe_op op_add (pv 1) pe_int) pa_nil)) (pg_name (i := 4) sc_l_h.nd rfl (.inr rfl)) (pss_one (ps_expr (pe_bm PySem.F.plainAttrs_list PySem.F.slot_list_append PySem.F.type_list_append mt_append (pv 3) (pa_cons (pe_callB (cr_sum rfl) (by rfl) T.n_sum (by decide +kernel) (pa_cons (pe_lc (own := [("i", 5)]) (g := gName 5) (tt := tYes) rfl sc_l_h.nd (pi_range1 rfl T.n_range (pa_cons (pe_op op_add (pv 4) pe_int) pa_nil)) (blkOk_by (own := [("i", 5)]) (N := ["counts", "d", "f", "found", "j", "i"]) (sc := defScope s_l_h) (by decide +kernel)) (fun _ _ _ _ _ => pg_name (i := 5) sc_l_h.nd rfl (Or.inl rfl)) (fun _ _ _ _ _ => pts_nil) (fun _ _ _ _ _ => (pe_op op_mulW (pe_op op_mulW (pe_ifExp (pt_cmpR op_eq (pe_op op_modN (pe_callTy call_int1 (by rfl) T.n_int (by decide +kernel) (pa_cons (pe_op op_sub (pv 4) (pv 5)) pa_nil)) pe_int) pe_int (nomark _)) pe_int (pe_un un_neg pe_int)) (pe_call F_l_ways (hr.mono (by decide)) (by rfl) T.g_l_ways T.k_l_ways T.b_l_ways .nil pass0 (pa_cons (pe_op op_sub (pv 1) (pv 5)) (pa_cons (pe_op op_sub (pv 4) (pv 5)) pa_nil)))) (pe_ix (r := rIxT K) ix_tup (pv 2) (pv 5) (fun _ _ => rfl))))) pa_nil)) pa_nil)))))
  (pss_one (ps_ret (pe_callTy call_tuple_of (by rfl) T.n_tuple (by decide +kernel) (pa_cons (pv 3) pa_nil))))))), ?_⟩
    have hlen : (iV ns).length = ns.length := iV_len ns
    refine ⟨_, rfl, a, _, rfl, .inr (SqT.of ha), by show 1 ≤ sizeLine; decide, fun c nc => ?_⟩
    have e1 : Ex H (upd H c (.tup [.int 1])) := Ex.new nc
    refine ⟨_, rfl, a, _, rfl, .inr ⟨SqT.of (e1 _ _ ha), ?_⟩⟩
    refine ⟨c, a, _, _, rfl, rfl, upd_same, e1 _ _ ha, ?_, fun F H2 cm => ?_⟩
    · rw [hlen]
      exact Nat.le_trans (show 1 + ns.length ≤ 17 by omega) (by decide)
    have hF : H2 F = some (.tup (iV (1 :: ns))) := cm.at
    have e2 := e1.trans cm.ex
    refine ⟨by show 2 ≤ sizeLine; decide, fun t nt => ?_⟩
    have e3 := e2.trans (Ex.new (o := .tup [.int ((iV ns).length : Int), .ref F]) nt)
    refine two_get (K := K) (i := 1) (j := 2) upd_same ?_
    rw [hlen] at e3 ⊢
    generalize hHs : upd H2 t (.tup [.int (ns.length : Int), .ref F]) = Hs at e3 ⊢
    have hFs : Hs F = some (.tup (iV (1 :: ns))) := by
      rw [← hHs]
      exact (Ex.new nt) _ _ hF
    refine ⟨Nat.zero_le _, fun L nL => ?_⟩
    have nLH : H L = none := fresh_back e3 nL
    refine ⟨_, rfl, _, _, rfl, rfl, _, rfl, by omega, by omega, ?_⟩
    have en : (((ns.length : Int) + 1).toNat) = ns.length + 1 := by omega
    refine for_range (lo := 0) (n := ((ns.length : Int) + 1).toNat) (fun j σ' H' => ∃ (y : Option V), Ex Hs H' ∧ H' L = some (.lst (iV (rw' j (mvA (-1) ns.length fun i => (1 :: ns).getD i 0)))) ∧ σ' = [some (.ref a), some (.int (ns.length : Int)), some (.ref F), some (.ref L), y, none]) ⟨none, Ex.new nL, upd_same, rfl⟩ ?_ ?_
    · rintro j σ' H' hj ⟨y, e5, hL, rfl⟩
      have e0 : (0 : Int) + (j : Int) = (j : Int) := Int.zero_add _
      rw [e0]
      refine ⟨_, rfl, .inl ⟨rfl, _, SqL.of hL⟩, ?_⟩
      refine r_arg (r_cb (r_arg ?_))
      refine el_lcR1 (n := ((j + 1 : Nat) : Int)) (σ := [some (.ref a), some (.int (ns.length : Int)), some (.ref F), some (.ref L), some (.int (j : Int)), none]) ?_ (by omega) (fun _ => true) (fun i => .int (tmv (-1) ns.length (fun i => (1 :: ns).getD i 0) j i)) (by omega) ?_ _ (Ex.refl _) _ ?_
      · intro H4 e4 Q4 q4
        exact ⟨_, rfl, _, _, rfl, rfl, q4 H4 (Ex.refl H4)⟩
      · intro i H4 e4 hi
        have hi' : i ≤ j := by omega
        refine ⟨[some (.ref a), some (.int (ns.length : Int)), some (.ref F), some (.ref L), some (.int (j : Int)), some (.int (0 + (i : Int)))], fun k hk => hk, rfl, et_yes, fun _ => ?_⟩
        have e0 : (0 : Int) + (i : Int) = (i : Int) := Int.zero_add _
        rw [e0]
        intro H5 e6 Q5 q5
        have E5 := e5.trans (e4.trans e6)
        have h1' : (j : Int) - (i : Int) = ((j - i : Nat) : Int) := by omega
        have h2' : (ns.length : Int) - (i : Int) = ((ns.length - i : Nat) : Int) := by omega
        have rest : ∀ z : Int, z = sg (-1) (j - i) → tOp (rI CMulW fun i j => V.int (i * j)) (tOp (rI CMulW fun i j => V.int (i * j)) (tC (.int z)) (tCall sp_ways [] E0 (tCons (tOp (rI0 fun i j => V.int (i - j)) (tVar 1) (tVar 5)) (tCons (tOp (rI0 fun i j => V.int (i - j)) (tVar 4) (tVar 5)) tNil)))) (tOp (rIxT K) (tVar 2) (tVar 5))
            [some (.ref a), some (.int (ns.length : Int)), some (.ref F), some (.ref L), some (.int (j : Int)), some (.int (i : Int))] H5 Q5 := by
          rintro z rfl
          refine ⟨_, rfl, _, rfl, _, _, rfl, rfl, _, rfl, _, rfl, _, _, rfl, rfl, ns.length - i, j - i, by show ([V.int ((ns.length : Int) - (i : Int)), V.int ((j : Int) - (i : Int))] : List V) = _; rw [h2', h1'], by omega, by omega, ?_⟩
          have b1 : (sg (-1) (j - i)).natAbs < 2 ^ 1 := by rw [sg_abs (.inr rfl)]; decide
          have b2 : (((ch (ns.length - i) (j - i) : Nat) : Int)).natAbs < 2 ^ 17 := by
            rw [Int.natAbs_natCast]
            exact Nat.lt_of_le_of_lt (ch_two _ _) (Nat.pow_lt_pow_right (by decide) (by omega))
          refine ⟨_, _, rfl, rfl, wide_mul b1 b2 (by decide) (by decide) (by decide), _, rfl, _, rfl, F, _, _, _, rfl, rfl, SqT.of (E5 _ _ hFs), atI_nat (iV_ix (by rw [List.length_cons]; omega)), _, _, rfl, rfl, wide_mul (a := 18) (b := 400) ?_ (cons_at 1 _ hx (by decide) i) (by decide) (by decide) (by decide), ?_⟩
          · rw [Int.natAbs_mul, sg_abs (.inr rfl), Nat.one_mul]
            exact pow_lt b2 (by decide)
          · exact q5 H5 (Ex.refl H5)
        refine ⟨_, rfl, _, rfl, _, _, rfl, rfl, .inl ⟨_, rfl, _, _, rfl, rfl, by simp, rfl, _, rfl, ?_⟩⟩
        have ef : ((j : Int) - (i : Int)).fmod 2 = (((j - i) % 2 : Nat) : Int) := by
          rw [h1', Int.fmod_eq_emod_of_nonneg _ (by decide)]
          omega
        by_cases ep : (j - i) % 2 = 0
        · refine ite_yes ?_ (rest 1 (by unfold sg; rw [if_pos ep]))
          exact decide_eq_true (show V.int (((j : Int) - (i : Int)).fmod 2) = V.int 0 by rw [ef, ep]; rfl)
        · refine ite_no ?_ ?_
          · refine decide_eq_false fun z => ?_
            have z' : V.int (((j : Int) - (i : Int)).fmod 2) = V.int 0 := z
            rw [ef, show (j - i) % 2 = 1 by omega] at z'
            cases z'
          · exact ⟨1, rfl, rest (-1) (by unfold sg; rw [if_neg ep])⟩
      · intro p H4 np e4 hp
        rw [given_rw] at hp
        refine ⟨p, _, rfl, SqL.of hp, ?_⟩
        rw [rw_sum]
        refine ⟨L, _, _, rfl, rfl, e4 _ _ hL, ?_, ?_⟩
        · rw [iV_len, rw_len]
          exact Nat.lt_of_le_of_lt (show j ≤ 17 by omega) (by decide)
        · refine ⟨some (.int (j : Int)), Ex.mut (e5.trans e4) nL, ?_, rfl⟩
          rw [upd_same]
          unfold rw'
          rw [List.range_succ, List.map_append]
          unfold iV
          rw [List.map_append]
          rfl
    · rintro σ' H' ⟨y, e5, hL, rfl⟩
      rw [en] at hL
      refine ⟨_, rfl, L, _, rfl, .inl ⟨SqL.of hL, fun l nl => ?_⟩⟩
      refine q l _ (fresh_back (e3.trans e5) nl) ((e3.trans e5).trans (Ex.new nl)) ?_
      rw [upd_same]
      rfl
def sp_lc : Sp := fun vs H Q _ => ∃ (a : Addr) (ns : List Int), vs = [.ref a] ∧ H a = some (.tup (iV ns)) ∧ 1 ≤ ns.length ∧ ns.length ≤ 17 ∧ (∀ i, (ns.getD i 0).natAbs < 2 ^ 300) ∧
  ∀ l H', H l = none → Ex H H' → H' l = some (.tup (iV ((mvL 1 ns).drop 1))) → Q (.ref l) H'
theorem drop_row (n : Nat) (f : Nat → Int) : (rw' (n + 1) f).drop 1 = rw' n fun i => f (i + 1) := by
  unfold rw'
  rw [List.range_succ_eq_map, List.map_cons, List.map_map]
  rfl
theorem ok_lc (T : Txt K mg) : FnOk P w K mg base CX0 3 T.f_l_counts_of T.d_l_counts_of ["h"] sp_lc := by
  have F_l_ways := ok_ways (P := P) (w := w) (base := base) T
  refine T.U_l_counts_of.ok sc_l_counts_of (fun vs H Q E h => ?_) (fun cdv A outer s H vs Q E hr h => ?_)
  · obtain ⟨_, _, rfl, _⟩ := h
    rfl
  · obtain ⟨a, ns, rfl, ha, h1, hl, hx, q⟩ := h
    refine ⟨_, (pss_cons (ps_set (i := 1) sc_l_counts_of.nd rfl (.inr rfl) (pe_op op_sub (pe_callB call_len_seq (by rfl) T.n_len PySem.boot_len (pa_cons (pv 0) pa_nil)) pe_int))
  (pss_one (ps_ret (pe_callTy call_tuple_of (by rfl) T.n_tuple (by decide +kernel) (pa_cons (pe_lc (own := [("j", 2)]) (g := gName 2) (tt := tYes) rfl sc_l_counts_of.nd (pi_range2 rfl T.n_range (pa_cons pe_int (pa_cons (pe_op op_add (pv 1) pe_int) pa_nil))) (blkOk_by (own := [("j", 2)]) (N := ["h", "d", "j", "i"]) (sc := defScope s_l_counts_of) (by decide +kernel)) (fun _ _ _ _ _ => pg_name (i := 2) sc_l_counts_of.nd rfl (Or.inr rfl)) (fun _ _ _ _ _ => pts_nil) (fun _ _ _ _ _ => (pe_callB (r := rSum K) (cr_sum rfl) (by rfl) T.n_sum (by decide +kernel) (pa_cons (pe_lc (own := [("i", 3)]) (g := gName 3) (tt := tYes) rfl sc_l_counts_of.nd (pi_range1 rfl T.n_range (pa_cons (pe_op op_add (pv 2) pe_int) pa_nil)) (blkOk_nest (own := [("i", 3)]) (by kernel_rfl)) (fun _ _ _ _ _ => pg_name (i := 3) sc_l_counts_of.nd rfl (Or.inl rfl)) (fun _ _ _ _ _ => pts_nil) (fun _ _ _ _ _ => (pe_op op_mulW (pe_call F_l_ways (hr.mono (by decide)) (by rfl) T.g_l_ways T.k_l_ways T.b_l_ways .nil pass0 (pa_cons (pe_op op_sub (pv 1) (pv 3)) (pa_cons (pe_op op_sub (pv 2) (pv 3)) pa_nil))) (pe_ix (r := rIxT K) ix_tup (pv 0) (pv 3) (fun _ _ => rfl))))) pa_nil)))) pa_nil))))), ?_⟩
    refine ⟨_, rfl, a, _, rfl, .inr (SqT.of ha), _, _, rfl, rfl, ?_⟩
    dsimp only
    have elast : (((iV ns).length : Nat) : Int) - 1 = ((ns.length - 1 : Nat) : Int) := by rw [iV_len]; omega
    rw [elast]
    generalize hd : ns.length - 1 = d
    dsimp only [gName]
    refine r_ret (r_cb (r_arg ?_))
    refine el_lcR (lo := 1) (hi := (d : Int) + 1) (σ := [some (.ref a), some (.int (d : Nat)), none, none]) ?_ (by omega) (fun _ => true) (fun j => .int (mvA 1 d (fun i => ns.getD i 0) (j + 1))) (by omega) ?_ _ (Ex.refl _) _ ?_
    · intro H1 e Q1 q1
      exact ⟨_, rfl, _, _, rfl, rfl, q1 H1 (Ex.refl H1)⟩
    · intro j H2 e hj
      have hj' : j < d := by omega
      refine ⟨[some (.ref a), some (.int (d : Nat)), some (.int (1 + (j : Int))), none], fun k hk => hk, rfl, et_yes, fun _ => ?_⟩
      have e0 : (1 : Int) + (j : Int) = ((j + 1 : Nat) : Int) := by omega
      rw [e0]
      intro H3 e3 Q3 q3
      refine r_cb (r_arg ?_)
      refine el_lcR1 (n := ((j + 1 + 1 : Nat) : Int)) (σ := [some (.ref a), some (.int (d : Nat)), some (.int ((j + 1 : Nat) : Int)), none]) ?_ (by omega) (fun _ => true) (fun i => .int (tmv 1 d (fun i => ns.getD i 0) (j + 1) i)) (by omega) ?_ _ (Ex.refl _) _ ?_
      · intro H4 e4 Q4 q4
        exact ⟨_, rfl, _, _, rfl, rfl, q4 H4 (Ex.refl H4)⟩
      · intro i H4 e4 hi
        have hi' : i ≤ j + 1 := by omega
        refine ⟨[some (.ref a), some (.int (d : Nat)), some (.int ((j + 1 : Nat) : Int)), some (.int (0 + (i : Int)))], fun k hk => hk, rfl, et_yes, fun _ => ?_⟩
        have e0 : (0 : Int) + (i : Int) = (i : Int) := Int.zero_add _
        rw [e0]
        intro H5 e5 Q5 q5
        have E5 := e.trans (e3.trans (e4.trans e5))
        have h1' : ((j + 1 : Nat) : Int) - (i : Int) = ((j + 1 - i : Nat) : Int) := by omega
        have h2' : (d : Int) - (i : Int) = ((d - i : Nat) : Int) := by omega
        have b2 : (((ch (d - i) (j + 1 - i) : Nat) : Int)).natAbs < 2 ^ 17 := by
          rw [Int.natAbs_natCast]
          exact Nat.lt_of_le_of_lt (ch_two _ _) (Nat.pow_lt_pow_right (by decide) (by omega))
        refine ⟨_, rfl, _, rfl, _, _, rfl, rfl, _, rfl, _, rfl, _, _, rfl, rfl, d - i, j + 1 - i, by show ([V.int ((d : Int) - (i : Int)), V.int (((j + 1 : Nat) : Int) - (i : Int))] : List V) = _; rw [h2', h1'], by omega, by omega, _, rfl, _, rfl, a, _, _, _, rfl, rfl, SqT.of (E5 _ _ ha), atI_nat (iV_ix (by omega)), _, _, rfl, rfl, wide_mul (a := 17) (b := 400) b2 (pow_lt (hx i) (by decide)) (by decide) (by decide) (by decide), ?_⟩
        have et : ((ch (d - i) (j + 1 - i) : Nat) : Int) * ns.getD i 0 = tmv 1 d (fun i => ns.getD i 0) (j + 1) i := by
          unfold tmv sg
          split <;> rw [Int.one_mul]
        exact q_int (Q := Q5) et (q5 H5 (Ex.refl H5))
      · intro p H4 np e4 hp
        rw [given_rw] at hp
        refine ⟨p, _, rfl, SqL.of hp, ?_⟩
        rw [rw_sum]
        exact q3 H4 e4
    · intro p H2 np e hp
      rw [given_rw, show ((d : Int) + 1 - 1).toNat = d by omega] at hp
      refine ⟨p, _, rfl, .inl ⟨SqL.of hp, fun l hl => ?_⟩⟩
      refine q l _ (fresh_back e hl) (e.trans (Ex.new hl)) ?_
      rw [upd_same]
      unfold mvL
      rw [hd, show ns.length = d + 1 by omega, drop_row]
end
end K47

set_option exponentiation.threshold 3000
namespace K47
open PySem PySem.Spec PyProof.Rows L2 Hr HrM Evl HrE_thing LamX RZ
theorem all_nots {α : Type} (g : α → Bool) (ds : List α) (z : α) : ((List.range ds.length).all fun i => !(!g (ds.getD i z))) = ds.all g := by
  induction ds with
  | nil => rfl
  | cons d ds ih =>
    rw [List.length_cons, List.range_succ_eq_map, List.all_cons, List.all_map, List.all_cons, ← ih]
    show (!!g d && _) = _
    rw [Bool.not_not]
    rfl
theorem lt_not (x : Int) : decide (x < 1) = !decide (1 ≤ x) := by
  by_cases h : (1 : Int) ≤ x
  · rw [decide_eq_true h, decide_eq_false (by omega)]
    rfl
  · rw [decide_eq_false h, decide_eq_true (by omega)]
    rfl
section
variable {P : Program} {w : World} {K : PySem.W.Frag} {mg : Str → Option Value} {base : Heap}
def sp_lints : Sp := fun vs H Q _ => ∃ (v : V) (d : PyData), vs = [v] ∧ Dx H v d ∧ (itemsD d).length ≤ 1000 ∧ RetV (.bl (intsD d)) H Q
theorem ok_lints (T : Txt K mg) : FnOk P w K mg base CX0 1 T.f_l_are_ints T.d_l_are_ints ["thing"] sp_lints := by
  refine T.U_l_are_ints.ok sc_l_are_ints (fun vs H Q E h => ?_) (fun cdv A outer s H vs Q E hr h => ?_)
  · obtain ⟨_, _, rfl, _⟩ := h
    rfl
  · obtain ⟨v, d, rfl, hd, hl, q⟩ := h
    refine ⟨_, (pss_one (ps_ret (pe_and (pe_callB call_isi (by rfl) T.n_isinstance (by decide +kernel) (pa_cons (pv 0) (pa_cons (pe_bltn (v := .ty "tuple") (u := .type "tuple") (by rfl) T.n_tuple (by decide +kernel) rfl) pa_nil))) (pe_one (pe_cmpR (op_eqE hr.units) (pe_lc (own := [("x", 1)]) (g := gName 1) (tt := _) rfl sc_l_are_ints.nd (pi_tup (pv 0)) (blkOk_by (own := [("x", 1)]) (N := ["thing", "x"]) (sc := defScope s_l_are_ints) (by decide +kernel)) (fun _ _ _ _ _ => pg_name (i := 1) sc_l_are_ints.nd rfl (Or.inl rfl)) (fun _ _ _ _ _ => pts_one (PW.pt (pw_or (pt_not (pt_val (pe_callB (r := rIsi K) call_isi (by rfl) T.n_isinstance (by decide +kernel) (pa_cons (pv 1) (pa_cons (pe_bltn (v := .ty "int") (u := .type "int") (by rfl) T.n_int (by decide +kernel) rfl) pa_nil))))) (pw_or1 (pt_val (pe_callB (r := rIsi K) call_isi (by rfl) T.n_isinstance (by decide +kernel) (pa_cons (pv 1) (pa_cons (pe_bltn (v := .ty "bool") (u := .type "bool") (by rfl) T.n_bool (by decide +kernel) rfl) pa_nil)))))))) (fun _ _ _ _ _ => (pv 1))) (pe_lst pa_nil) (nomark _)))))), ?_⟩
    obtain ⟨nm, ty, k1, k2, k3⟩ := hd.kit (K := K)
    refine ⟨_, rfl, _, _, _, _, tupD d, rfl, .ty "tuple", ty, kit_ty k3, _, rfl, ?_⟩
    cases hd with
    | int n => exact iteF (q H (Ex.refl H))
    | bl b => exact iteF (q H (Ex.refl H))
    | non => exact iteF (q H (Ex.refl H))
    | str x => exact iteF (q H (Ex.refl H))
    | lst _ _ => exact iteF (q H (Ex.refl H))
    | dct _ _ => exact iteF (q H (Ex.refl H))
    | @tup a xs ds ha hA =>
      have hl' : ds.length ≤ 1000 := hl
      have hlen := hA.len
      refine iteT ?_
      refine el_lcT (K := K) (σ := [some (.ref a), none]) ha (ev_var rfl) (fun i => !intD (ds.getD i .none)) (fun i => xs.getD i .non) (by omega) ?_ H (Ex.refl H) _ ?_
      · intro i x H2 e hx
        obtain ⟨d0, hd0, td⟩ := hA.at hx
        have e5 : ds.getD i .none = d0 := by rw [List.getD_eq_getElem?_getD, hd0]; rfl
        have e6 : xs.getD i .non = x := by rw [List.getD_eq_getElem?_getD, hx]; rfl
        refine ⟨[some (.ref a), some x], fun k hk => hk, rfl, fun H3 e3 Q3 q3 => ?_, fun _ => by rw [e6]; exact ev_var rfl⟩
        rw [e5] at q3
        have td3 := td.more (e.trans e3)
        obtain ⟨nm, ty, k1, k2, k3⟩ := td3.kit (K := K)
        refine ⟨_, rfl, _, _, _, _, intD d0 || blD d0, rfl, .ty "int", ty, kit_ty k1, _, rfl, ?_⟩
        cases d0 with
        | int n => exact iteF ⟨_, rfl, _, _, _, _, false, rfl, .ty "bool", ty, kit_ty k2, _, rfl, q3 H3 (Ex.refl H3)⟩
        | bool b => exact iteF ⟨_, rfl, _, _, _, _, true, rfl, .ty "bool", ty, kit_ty k2, _, rfl, q3 H3 (Ex.refl H3)⟩
        | none => exact iteT (q3 H3 (Ex.refl H3))
        | str y => exact iteT (q3 H3 (Ex.refl H3))
        | list _ => exact iteT (q3 H3 (Ex.refl H3))
        | tuple _ => exact iteT (q3 H3 (Ex.refl H3))
        | dict _ => exact iteT (q3 H3 (Ex.refl H3))
      · intro p H2 np e hp
        refine ⟨Nat.zero_le _, fun b nb => ?_⟩
        have e2 : Ex H2 (upd H2 b (.lst [])) := Ex.new nb
        refine ⟨p, b, _, rfl, rfl, e2 _ _ hp, upd_same, ?_⟩
        rw [given_empty, hlen, all_nots]
        exact q _ (e.trans e2)
theorem froms_eq (l : Int) {d : PyData} (h : intsD d = true) : fromsD l d = (valsD d).all fun x => decide (l ≤ x) := by
  have e := intsD_vals h
  generalize valsD d = ns at e
  subst e
  exact froms_iv l ns
def sp_lisc : Sp := fun vs H Q _ => ∃ (v : V) (d : PyData), vs = [v] ∧ Dx H v d ∧ (itemsD d).length ≤ 1000 ∧ RetV (.bl (countsB d)) H Q
theorem ok_lisc (T : Txt K mg) : FnOk P w K mg base CX0 2 T.f_l_is_counts T.d_l_is_counts ["thing"] sp_lisc := by
  have F_l_are_ints := ok_lints (P := P) (w := w) (base := base) T
  refine T.U_l_is_counts.ok sc_l_is_counts (fun vs H Q E h => ?_) (fun cdv A outer s H vs Q E hr h => ?_)
  · obtain ⟨_, _, rfl, _⟩ := h
    rfl
  · obtain ⟨v, d, rfl, hd, hl, q⟩ := h
    refine ⟨_, (pss_one (ps_ret (pe_and (pe_call F_l_are_ints (hr.mono (by decide)) (by rfl) T.g_l_are_ints T.k_l_are_ints T.b_l_are_ints .nil pass0 (pa_cons (pv 0) pa_nil)) (pe_and (pe_cmpR op_le (pe_callB call_len_seq (by rfl) T.n_len PySem.boot_len (pa_cons (pv 0) pa_nil)) pe_int (nomark _)) (pe_one (pe_cmpR (op_eqE hr.units) (pe_lc (own := [("x", 1)]) (g := gName 1) (tt := _) rfl sc_l_is_counts.nd (pi_tup (pv 0)) (blkOk_by (own := [("x", 1)]) (N := ["thing", "x"]) (sc := defScope s_l_is_counts) (by decide +kernel)) (fun _ _ _ _ _ => pg_name (i := 1) sc_l_is_counts.nd rfl (Or.inl rfl)) (fun _ _ _ _ _ => pts_one (pt_cmpR op_lt (pv 1) pe_int (nomark _))) (fun _ _ _ _ _ => (pv 1))) (pe_lst pa_nil) (nomark _))))))), ?_⟩
    refine ⟨_, rfl, v, d, rfl, hd, hl, fun H1 e1 => ⟨_, rfl, ?_⟩⟩
    cases hi : intsD d with
    | false =>
      refine iteF ?_
      have : countsB d = false := by
        cases h : countsB d with
        | false => rfl
        | true => rw [(counts_of h).1] at hi; cases hi
      rw [this] at q
      exact q H1 e1
    | true =>
      refine iteT ?_
      obtain ⟨a, rfl, ha⟩ := hd.ints hi
      have hvl : (valsD d).length = (itemsD d).length := vals_len
      have hcb : countsB d = (((valsD d).all fun x => decide (1 ≤ x)) && decide ((valsD d).length ≤ 16)) := by
        unfold countsB
        rw [froms_eq 1 hi, hvl]
      generalize valsD d = ns at ha hvl hcb
      refine ⟨_, rfl, a, _, rfl, .inr (SqT.of (e1 _ _ ha)), _, _, rfl, rfl, _, rfl, ite2 (fun e => ?_) (fun e => ?_)⟩
      · have e' : ns.length ≤ 16 := by
          have := of_decide_eq_true e
          rw [iV_len] at this
          omega
        refine el_lcT (K := K) (σ := [some (.ref a), none]) (e1 _ _ ha) (ev_var rfl) (fun i => !decide (1 ≤ ns.getD i 0)) (fun i => .int (ns.getD i 0)) (by rw [iV_len]; omega) ?_ H1 (Ex.refl H1) _ ?_
        · intro i x H2 e hx
          obtain ⟨rfl, hi⟩ := iV_at hx
          refine ⟨[some (.ref a), some (.int (ns.getD i 0))], fun k hk => hk, rfl, fun H3 e3 Q3 q3 => ?_, fun _ => ev_var rfl⟩
          refine ⟨_, rfl, _, _, rfl, rfl, _, rfl, ?_⟩
          rw [lt_not]
          exact q3 H3 (Ex.refl H3)
        · intro p H2 np e hp
          refine ⟨Nat.zero_le _, fun b nb => ?_⟩
          have e2 : Ex H2 (upd H2 b (.lst [])) := Ex.new nb
          refine ⟨p, b, _, rfl, rfl, e2 _ _ hp, upd_same, ?_⟩
          rw [given_empty, iV_len, all_nots (fun x => decide (1 ≤ x)) ns 0]
          rw [hcb, decide_eq_true e', Bool.and_true] at q
          exact q _ (e1.trans (e.trans e2))
      · have e' : ¬ ns.length ≤ 16 := fun z => e (decide_eq_true (by rw [iV_len]; omega))
        rw [hcb, decide_eq_false e', Bool.and_false] at q
        exact q H1 e1
def sp_lish : Sp := fun vs H Q _ => ∃ (v : V) (d : PyData), vs = [v] ∧ Dx H v d ∧ Okd d ∧ RetV (.bl (rowB d)) H Q
theorem ok_lish (T : Txt K mg) : FnOk P w K mg base CX0 4 T.f_l_is_h T.d_l_is_h ["thing"] sp_lish := by
  have F_l_are_ints := ok_lints (P := P) (w := w) (base := base) T
  have F_l_counts_of := ok_lc (P := P) (w := w) (base := base) T
  refine T.U_l_is_h.ok sc_l_is_h (fun vs H Q E h => ?_) (fun cdv A outer s H vs Q E hr h => ?_)
  · obtain ⟨_, _, rfl, _⟩ := h
    rfl
  · obtain ⟨v, d, rfl, hd, ok, q⟩ := h
    refine ⟨_, (pss_cons (ps_if (PW.pt (pw_or (pt_not (pt_val (pe_call F_l_are_ints (hr.mono (by decide)) (by rfl) T.g_l_are_ints T.k_l_are_ints T.b_l_are_ints .nil pass0 (pa_cons (pv 0) pa_nil)))) (pw_or (pt_not (pt_chain op_le op_le pe_int (pe_callB call_len_seq (by rfl) T.n_len PySem.boot_len (pa_cons (pv 0) pa_nil)) pe_int)) (pw_or1 (pt_cmpR op_ne (pe_ix ix_tup (pv 0) pe_int (fun _ _ => rfl)) pe_int (nomark _)))))) (pss_one (ps_ret pe_bl)) pss_nil)
  (pss_one (ps_ret (pe_cmpR (op_eqE hr.units) (pe_lc (own := [("x", 1)]) (g := gName 1) (tt := _) rfl sc_l_is_h.nd (pi_tup (pe_call F_l_counts_of (hr.mono (by decide)) (by rfl) T.g_l_counts_of T.k_l_counts_of T.b_l_counts_of .nil pass0 (pa_cons (pv 0) pa_nil))) (blkOk_by (own := [("x", 1)]) (N := ["thing", "x"]) (sc := defScope s_l_is_h) (by decide +kernel)) (fun _ _ _ _ _ => pg_name (i := 1) sc_l_is_h.nd rfl (Or.inl rfl)) (fun _ _ _ _ _ => pts_one (pt_cmpR op_lt (pv 1) pe_int (nomark _))) (fun _ _ _ _ _ => (pv 1))) (pe_lst pa_nil) (nomark _))))), ?_⟩
    have hl := ok.len
    refine ⟨_, rfl, v, d, rfl, hd, by omega, fun H1 e1 => ⟨_, rfl, ?_⟩⟩
    cases hi : intsD d with
    | false =>
      refine iteT (iteT ?_)
      have : rowB d = false := by
        unfold rowB
        rw [hi, Bool.false_and, Bool.and_false]
      rw [this] at q
      exact q H1 e1
    | true =>
      refine iteF ?_
      obtain ⟨a, rfl, ha⟩ := hd.ints hi
      have hval := ok.val
      have hrow : rowB d = ((decide (1 ≤ (valsD d).length) && (decide ((valsD d).length ≤ 17) && ((valsD d).getD 0 0 == 1))) && ((mvL 1 (valsD d)).drop 1).all fun x => decide (1 ≤ x)) := by
        have e := intsD_vals hi
        generalize valsD d = ns at e
        subst e
        unfold rowB
        rw [hi, Bool.true_and]
        have eb : begB (.tuple (ns.map .int)) = (decide (1 ≤ ns.length) && (decide (ns.length ≤ 17) && (ns.getD 0 0 == 1))) := by
          show (decide (1 ≤ (ns.map PyData.int).length) && (decide ((ns.map PyData.int).length ≤ 17) && isI 1 ((ns.map PyData.int).getD 0 .none))) = _
          rw [List.length_map]
          cases ns with
          | nil => rfl
          | cons n ns => rfl
        have ev : valsD (.tuple (ns.map .int)) = ns := by
          unfold valsD
          show (ns.map PyData.int).map valD = ns
          rw [List.map_map]
          exact List.map_id' ns
        rw [eb, ev]
      generalize valsD d = ns at ha hval hrow
      have ha1 := e1 _ _ ha
      have no : ((decide (1 ≤ ns.length) && (decide (ns.length ≤ 17) && (ns.getD 0 0 == 1))) = false) → Q (.bl false) H1 := fun z => by
        rw [hrow, z, Bool.false_and] at q
        exact q H1 e1
      have hln := iV_len ns
      refine ⟨_, rfl, a, _, rfl, .inr (SqT.of ha1), _, _, rfl, rfl, _, rfl, ite2 (fun e => ?_) (fun e => ?_)⟩
      · have l1 : 1 ≤ ns.length := by have := of_decide_eq_true e; omega
        refine ⟨_, _, rfl, rfl, _, rfl, ?_⟩
        by_cases l2 : ns.length ≤ 17
        · have hd : decide (((iV ns).length : Int) ≤ 17) = true := decide_eq_true (by omega)
          dsimp only
          rw [hd]
          refine iteF ?_
          refine ⟨_, rfl, a, _, ((0 : Nat) : Int), _, rfl, rfl, SqT.of ha1, atI_nat (iV_ix (by omega)), rfl, _, rfl, ?_⟩
          rw [dec_int]
          by_cases h1 : ns.getD 0 0 = 1
          · refine ite_no ?_ ?_
            · rw [h1]
              rfl
            dsimp only [tNext]
            refine r_ret (r_op ?_)
            refine el_lcTN (K := K) (ys := iV ((mvL 1 ns).drop 1)) ?_ (fun i => !decide (1 ≤ ((mvL 1 ns).drop 1).getD i 0)) (fun i => .int (((mvL 1 ns).drop 1).getD i 0)) (by rw [iV_len, List.length_drop, mvL_len]; omega) ?_ H1 (Ex.refl H1) _ ?_
            · intro H2 e2 Q2 q2
              exact ⟨_, rfl, a, ns, rfl, e2 _ _ ha1, l1, l2, hval, fun l H3 nl e3 hl3 => q2 l H3 nl e3 hl3⟩
            · intro i x H2 e hx
              obtain ⟨rfl, hi⟩ := iV_at hx
              refine ⟨[some (.ref a), some (.int (((mvL 1 ns).drop 1).getD i 0))], fun k hk => hk, rfl, fun H3 e3 Q3 q3 => ?_, fun _ => ev_var rfl⟩
              refine ⟨_, rfl, _, _, rfl, rfl, _, rfl, ?_⟩
              rw [lt_not]
              exact q3 H3 (Ex.refl H3)
            · intro p H2 np e hp
              refine ⟨Nat.zero_le _, fun b nb => ?_⟩
              have e2 : Ex H2 (upd H2 b (.lst [])) := Ex.new nb
              refine ⟨p, b, _, rfl, rfl, e2 _ _ hp, upd_same, ?_⟩
              rw [given_empty, iV_len, all_nots (fun x => decide (1 ≤ x)) _ 0]
              rw [hrow, decide_eq_true l1, decide_eq_true l2, h1, Bool.true_and, Bool.true_and] at q
              exact q _ (e1.trans (e.trans e2))
          · refine ite_yes ?_ ?_
            · simpa using h1
            · show Q (.bl false) H1
              refine no ?_
              rw [show (ns.getD 0 0 == 1) = false by simpa using h1, Bool.and_false, Bool.and_false]
        · have hd : decide (((iV ns).length : Int) ≤ 17) = false := decide_eq_false (by omega)
          dsimp only
          rw [hd]
          refine iteT (iteT (no ?_))
          rw [decide_eq_false l2, Bool.false_and, Bool.and_false]
      · have l1 : ¬ 1 ≤ ns.length := fun z => e (decide_eq_true (by omega))
        refine ⟨_, rfl, iteT (iteT (no ?_))⟩
        rw [decide_eq_false l1, Bool.false_and]
end
end K47

set_option exponentiation.threshold 3000
namespace K47
open PySem PySem.Spec PyProof.Rows L2 Hr HrM Evl HrE_thing LamX RZ
theorem pick_int {zs : List Int} {i : Nat} {v : V} (hz : (zs.all fun z => decide (z.natAbs < 2 ^ 300)) = true) (h : (zs.map V.int)[i]? = some v) : ∃ z, v = .int z ∧ z.natAbs < 2 ^ 300 := by
  obtain ⟨z, hm, rfl⟩ := List.mem_map.mp (List.mem_of_getElem? h)
  exact ⟨z, rfl, of_decide_eq_true (List.all_eq_true.mp hz z hm)⟩
theorem pick_str {zs : List Str} {i n : Nat} {v : V} (hz : (zs.all fun x => (x.cps.toList.all fun c => decide (c < 16 ^ 8)) && decide (x.cps.size ≤ n)) = true) (h : (zs.map V.str)[i]? = some v) : ∃ x, v = .str x ∧ Val (.str x) 0 n := by
  obtain ⟨z, hm, rfl⟩ := List.mem_map.mp (List.mem_of_getElem? h)
  have := List.all_eq_true.mp hz z hm
  rw [Bool.and_eq_true] at this
  exact ⟨z, rfl, Val.str this.1 (of_decide_eq_true this.2)⟩
def anyInts : List Int := [0, 1, -1, 2, 3, 5, 10 ^ 29, -(10 ^ 20)]
def anyStrs : List Str := ["", "sound", "face", "fits", "01 2", "-", "~"]
theorem anyInts_ok : (anyInts.all fun z => decide (z.natAbs < 2 ^ 300)) = true := by decide +kernel
theorem anyStrs_ok : (anyStrs.all fun x => (x.cps.toList.all fun c => decide (c < 16 ^ 8)) && decide (x.cps.size ≤ 5)) = true := by decide +kernel
def kF : Key := .inr "face"
def kI : Key := .inl 1
theorem face_made {a : V} {b : V} : mergeK [] [(kF, a), (kI, b)] = [(kF, a), (kI, b)] := by
  have h : ¬ kI = kF := by decide +kernel
  have h2 : ¬ kF = kI := by decide +kernel
  unfold mergeK
  simp [putK, h, h2]
theorem face_ok : Val (.str "face") 0 4 := Val.str (by decide +kernel) (by decide +kernel)
def BB : Nat → Nat
  | 0 => 10
  | n + 1 => 3 * (BB n + 1) + 10
def sp_any (n : Nat) : Sp := fun vs H Q _ => ∃ (G : Hp) (d : Addr), vs = [.ref d, .int (n : Int)] ∧ Dk G d H ∧ ∀ v pd Gj H', Ex G Gj → Dk Gj d H' → Dx (nw G Gj) v pd → Val pd (2 * n + 2) (BB n) → (itemsD pd).length ≤ 3 → Q v H'
theorem r_rng {σ : L2.St} {H : Hp} {ta : TA} {g : TG} {tt : TT} {te : TE} {vs : List Nat} {Q : VK} (h : ta σ H fun zs H1 => ∃ n : Int, zs = [.int n] ∧ -(2 ^ 62) ≤ n ∧ n < 2 ^ 62 ∧ tLc (fun _ H' R => R (Itr 0 n.toNat) H') g tt te vs σ H1 Q) : tLc (iRng1 ta) g tt te vs σ H Q := h
section
variable {P : Program} {w : World} {K : PySem.W.Frag} {mg : Str → Option Value} {base : Heap}
theorem ok_any0 (T : Txt K mg) : FnOk P w K mg base CX0 4 T.f_l_any T.d_l_any ["deck", "deep"] (sp_any 0) := by
  have F_l_draw := ok_draw (P := P) (w := w) (base := base) T
  have F_l_pick := ok_pick (P := P) (w := w) (base := base) T
  have F_l_any : FnOk P w K mg base CX0 3 T.f_l_any T.d_l_any ["deck", "deep"] _ := FnOk.never
  refine T.U_l_any.ok sc_l_any (fun vs H Q E h => ?_) (fun cdv A outer s H vs Q E hr h => ?_)
  · obtain ⟨_, _, rfl, _⟩ := h
    rfl
  · obtain ⟨G, d, rfl, k, q⟩ := h
    refine ⟨_, (pss_cons (ps_set (i := 2) sc_l_any.nd rfl (.inl rfl) (pe_call F_l_draw (hr.mono (by decide)) (by rfl) T.g_l_draw T.k_l_draw T.b_l_draw .nil pass0 (pa_cons (pv 0) (pa_cons pe_int pa_nil))))
  (pss_cons (ps_if (pt_cmpR op_lt (pv 2) pe_int (nomark _)) (pss_one (ps_ret (pe_call F_l_pick (hr.mono (by decide)) (by rfl) T.g_l_pick T.k_l_pick T.b_l_pick .nil pass0 (pa_cons (pv 0) (pa_cons (pe_lst (pa_cons pe_int (pa_cons pe_int (pa_cons (pe_un un_neg pe_int) (pa_cons pe_int (pa_cons pe_int (pa_cons pe_int (pa_cons (pe_op op_pow pe_int pe_int) (pa_cons (pe_un un_neg (pe_op op_pow pe_int pe_int)) pa_nil))))))))) pa_nil))))) pss_nil)
  (pss_cons (ps_if (pt_cmpR op_eq (pv 2) pe_int (nomark _)) (pss_one (ps_ret (pe_call F_l_pick (hr.mono (by decide)) (by rfl) T.g_l_pick T.k_l_pick T.b_l_pick .nil pass0 (pa_cons (pv 0) (pa_cons (pe_lst (pa_cons pe_str (pa_cons pe_str (pa_cons pe_str (pa_cons pe_str (pa_cons pe_str (pa_cons pe_str (pa_cons pe_str pa_nil)))))))) pa_nil))))) pss_nil)
  (pss_cons (ps_if (pt_cmpR op_eq (pv 2) pe_int (nomark _)) (pss_one (ps_ret (pe_call F_l_pick (hr.mono (by decide)) (by rfl) T.g_l_pick T.k_l_pick T.b_l_pick .nil pass0 (pa_cons (pv 0) (pa_cons (pe_lst (pa_cons pe_bl (pa_cons pe_bl (pa_cons pe_non pa_nil)))) pa_nil))))) pss_nil)
  (pss_cons (ps_set (i := 3) sc_l_any.nd rfl (.inl rfl) (pe_ifExp (pt_cmpR op_gt (pv 1) pe_int (nomark _)) (pe_lc (own := [("turn", 4)]) (g := gName 4) (tt := tYes) rfl sc_l_any.nd (pi_range1 rfl T.n_range (pa_cons (pe_call F_l_draw (hr.mono (by decide)) (by rfl) T.g_l_draw T.k_l_draw T.b_l_draw .nil pass0 (pa_cons (pv 0) (pa_cons pe_int pa_nil))) pa_nil)) (blkOk_by (own := [("turn", 4)]) (N := ["deck", "deep", "way", "some", "turn"]) (sc := defScope s_l_any) (by decide +kernel)) (fun _ _ _ _ _ => pg_name (i := 4) sc_l_any.nd rfl (Or.inl rfl)) (fun _ _ _ _ _ => pts_nil) (fun _ _ _ _ _ => (pe_call F_l_any (hr.mono (by decide)) (by rfl) T.g_l_any T.k_l_any T.b_l_any .nil pass0 (pa_cons (pv 0) (pa_cons (pe_op op_sub (pv 1) pe_int) pa_nil))))) (pe_lst pa_nil)))
  (pss_cons (ps_if (pt_cmpR op_eq (pv 2) pe_int (nomark _)) (pss_one (ps_ret (pv 3))) pss_nil)
  (pss_one (ps_ret (pe_ifExp (pt_cmpR op_eq (pv 2) pe_int (nomark _)) (pe_disp (pps_cons pe_str (pv 3) (pps_cons pe_int (pe_callB call_len_seq (by rfl) T.n_len PySem.boot_len (pa_cons (pv 3) pa_nil)) pps_nil)) (by rfl) (by rfl) (fun z => by cases z) (by decide)) (pe_callTy call_tuple_of (by rfl) T.n_tuple (by decide +kernel) (pa_cons (pv 3) pa_nil))))))))))), ?_⟩
    refine ⟨_, rfl, G, d, 8, rfl, by decide, by decide, k, fun way H1 w0 w8 k1 => ?_⟩
    refine ⟨_, rfl, _, _, rfl, rfl, _, rfl, ite2 (fun e => ?_) (fun _ => ?_)⟩
    · refine ⟨_, rfl, 1, rfl, _, _, rfl, rfl, ⟨by decide, by decide, by decide⟩, _, _, rfl, rfl, ⟨by decide, by decide, by decide⟩, _, rfl, by show 8 ≤ sizeLine; decide, fun l nl => ?_⟩
      refine ⟨upd G l (.lst (anyInts.map V.int)), d, l, anyInts.map V.int, rfl, k1.made nl, upd_same, by decide, by decide, fun i v H' hi k2 => ?_⟩
      obtain ⟨z, rfl, hz⟩ := pick_int anyInts_ok hi
      exact q _ (.int z) _ _ (k1.gex nl) k2 (.int z) ((Val.int hz).up (Nat.zero_le _) (Nat.zero_le _)) (Nat.zero_le _)
    refine ⟨_, rfl, rfl, _, rfl, ite2 (fun e => ?_) (fun _ => ?_)⟩
    · refine ⟨_, rfl, by show 7 ≤ sizeLine; decide, fun l nl => ?_⟩
      refine ⟨upd G l (.lst (anyStrs.map V.str)), d, l, anyStrs.map V.str, rfl, k1.made nl, upd_same, by decide, by decide, fun i v H' hi k2 => ?_⟩
      obtain ⟨x, rfl, hx⟩ := pick_str anyStrs_ok hi
      exact q _ (.str x) _ _ (k1.gex nl) k2 (.str x) (hx.up (Nat.zero_le _) (by show 5 ≤ BB 0; decide)) (Nat.zero_le _)
    refine ⟨_, rfl, rfl, _, rfl, ite2 (fun e => ?_) (fun _ => ?_)⟩
    · refine ⟨_, rfl, by show 3 ≤ sizeLine; decide, fun l nl => ?_⟩
      refine ⟨upd G l (.lst [.bl true, .bl false, .non]), d, l, [.bl true, .bl false, .non], rfl, k1.made nl, upd_same, by decide, by decide, fun i v H' hi k2 => ?_⟩
      have hm := List.mem_of_getElem? hi
      rcases List.mem_cons.mp hm with rfl | hm
      · exact q _ (.bool true) _ _ (k1.gex nl) k2 (.bl true) ((Val.bool true).up (Nat.zero_le _) (Nat.zero_le _)) (Nat.zero_le _)
      rcases List.mem_cons.mp hm with rfl | hm
      · exact q _ (.bool false) _ _ (k1.gex nl) k2 (.bl false) ((Val.bool false).up (Nat.zero_le _) (Nat.zero_le _)) (Nat.zero_le _)
      cases List.mem_singleton.mp hm
      exact q _ .none _ _ (k1.gex nl) k2 .non (Val.none.up (Nat.zero_le _) (Nat.zero_le _)) (Nat.zero_le _)
    refine ⟨_, rfl, _, _, rfl, rfl, _, rfl, ?_⟩
    refine iteF ?_
    refine ⟨by show 0 ≤ sizeLine; decide, fun D nD => ?_⟩
    obtain ⟨Gj, hGj⟩ : ∃ Gj, Gj = upd G D (.lst []) := ⟨_, rfl⟩
    have hD : G D = none := k1.free nD
    have eG : Ex G Gj := by rw [hGj]; exact Ex.new hD
    have kk : Dk Gj d (upd H1 D (.lst [])) := by rw [hGj]; exact k1.made nD
    have hd : Gj D = some (.lst []) := by rw [hGj]; exact upd_same
    generalize hH2 : upd H1 D (.lst []) = H2 at kk ⊢
    obtain ⟨ys, hys⟩ : ∃ ys : List V, ys = [] := ⟨_, rfl⟩
    obtain ⟨ds, hds⟩ : ∃ ds : List PyData, ds = [] := ⟨_, rfl⟩
    rw [← hys] at hd
    have dA : DxA (nw G Gj) ys ds := by rw [hys, hds]; exact .nil
    have vL : ValL ds 0 0 := by rw [hds]; exact ValL.nil
    have hl3 : ys.length ≤ 3 := by rw [hys]; decide
    have hgD : nw G Gj D = some (.lst ys) := nw_at hD hd
    have hlen := dA.len
    refine ⟨_, rfl, rfl, _, rfl, ite2 (fun e => ?_) (fun _ => ?_)⟩
    · exact ⟨_, rfl, q (.ref D) (.list ds) Gj H2 eG kk (.lst hgD dA) (vL.lst.up (by decide) (by decide)) (Nat.zero_le _)⟩
    refine ⟨_, rfl, rfl, _, rfl, ite2 (fun e => ?_) (fun _ => ?_)⟩
    · refine fun p np => ?_
      have gp : Gj p = none := kk.free np
      have k3 := kk.made (o := .dK []) np
      have gp0 : G p = none := fresh_back eG gp
      refine ⟨_, rfl, _, rfl, D, ys, rfl, .inl (SqL.of (k3.get ((Ex.new gp) _ _ hd))), upd_same, [(kF, .ref D), (kI, .int (ys.length : Int))], rfl, by show 2 ≤ 15; decide, ?_⟩
      rw [face_made]
      have eJ : Ex Gj (upd (upd Gj p (.dK [])) p (.dK [(kF, .ref D), (kI, .int (ys.length : Int))])) := Ex.mut (Ex.new gp) gp
      refine q (.ref p) (.dict [(.str "face", .list ds), (.int 1, .int (ys.length : Int))]) _ _ (eG.trans eJ) (k3.set upd_same) ?_ ?_ (Nat.zero_le _)
      · exact .dct (nw_at gp0 upd_same) (.cons (Dx.more (nw_up eJ) (.lst hgD dA)) (.cons (.int _) .nil))
      · exact (Val.dict2 face_ok (by decide) vL.lst ((Val.int (i := (ys.length : Int)) (by rw [Int.natAbs_natCast]; exact Nat.lt_of_le_of_lt hl3 (by decide))).up (Nat.zero_le _) (Nat.le_refl 0))).up (by decide) (by decide)
    · refine ⟨_, rfl, D, ys, rfl, .inl ⟨SqL.of (kk.get hd), fun l nl => ?_⟩⟩
      have gl : Gj l = none := kk.free nl
      refine q (.ref l) (.tuple ds) _ _ (eG.trans (Ex.new gl)) (kk.made nl) (.tup (nw_at (fresh_back eG gl) upd_same) (dA.more (nw_up (Ex.new gl)))) (vL.tup.up (by decide) (by decide)) ?_
      show ds.length ≤ 3
      omega
theorem ok_any1 (T : Txt K mg) : FnOk P w K mg base CX0 5 T.f_l_any T.d_l_any ["deck", "deep"] (sp_any 1) := by
  have F_l_draw := ok_draw (P := P) (w := w) (base := base) T
  have F_l_pick := ok_pick (P := P) (w := w) (base := base) T
  have F_l_any := ok_any0 (P := P) (w := w) (base := base) T
  refine T.U_l_any.ok sc_l_any (fun vs H Q E h => ?_) (fun cdv A outer s H vs Q E hr h => ?_)
  · obtain ⟨_, _, rfl, _⟩ := h
    rfl
  · obtain ⟨G, d, rfl, k, q⟩ := h
    refine ⟨_, (pss_cons (ps_set (i := 2) sc_l_any.nd rfl (.inl rfl) (pe_call F_l_draw (hr.mono (by decide)) (by rfl) T.g_l_draw T.k_l_draw T.b_l_draw .nil pass0 (pa_cons (pv 0) (pa_cons pe_int pa_nil))))
  (pss_cons (ps_if (pt_cmpR op_lt (pv 2) pe_int (nomark _)) (pss_one (ps_ret (pe_call F_l_pick (hr.mono (by decide)) (by rfl) T.g_l_pick T.k_l_pick T.b_l_pick .nil pass0 (pa_cons (pv 0) (pa_cons (pe_lst (pa_cons pe_int (pa_cons pe_int (pa_cons (pe_un un_neg pe_int) (pa_cons pe_int (pa_cons pe_int (pa_cons pe_int (pa_cons (pe_op op_pow pe_int pe_int) (pa_cons (pe_un un_neg (pe_op op_pow pe_int pe_int)) pa_nil))))))))) pa_nil))))) pss_nil)
  (pss_cons (ps_if (pt_cmpR op_eq (pv 2) pe_int (nomark _)) (pss_one (ps_ret (pe_call F_l_pick (hr.mono (by decide)) (by rfl) T.g_l_pick T.k_l_pick T.b_l_pick .nil pass0 (pa_cons (pv 0) (pa_cons (pe_lst (pa_cons pe_str (pa_cons pe_str (pa_cons pe_str (pa_cons pe_str (pa_cons pe_str (pa_cons pe_str (pa_cons pe_str pa_nil)))))))) pa_nil))))) pss_nil)
  (pss_cons (ps_if (pt_cmpR op_eq (pv 2) pe_int (nomark _)) (pss_one (ps_ret (pe_call F_l_pick (hr.mono (by decide)) (by rfl) T.g_l_pick T.k_l_pick T.b_l_pick .nil pass0 (pa_cons (pv 0) (pa_cons (pe_lst (pa_cons pe_bl (pa_cons pe_bl (pa_cons pe_non pa_nil)))) pa_nil))))) pss_nil)
  (pss_cons (ps_set (i := 3) sc_l_any.nd rfl (.inl rfl) (pe_ifExp (pt_cmpR op_gt (pv 1) pe_int (nomark _)) (pe_lc (own := [("turn", 4)]) (g := gName 4) (tt := tYes) rfl sc_l_any.nd (pi_range1 rfl T.n_range (pa_cons (pe_call F_l_draw (hr.mono (by decide)) (by rfl) T.g_l_draw T.k_l_draw T.b_l_draw .nil pass0 (pa_cons (pv 0) (pa_cons pe_int pa_nil))) pa_nil)) (blkOk_by (own := [("turn", 4)]) (N := ["deck", "deep", "way", "some", "turn"]) (sc := defScope s_l_any) (by decide +kernel)) (fun _ _ _ _ _ => pg_name (i := 4) sc_l_any.nd rfl (Or.inl rfl)) (fun _ _ _ _ _ => pts_nil) (fun _ _ _ _ _ => (pe_call F_l_any (hr.mono (by decide)) (by rfl) T.g_l_any T.k_l_any T.b_l_any .nil pass0 (pa_cons (pv 0) (pa_cons (pe_op op_sub (pv 1) pe_int) pa_nil))))) (pe_lst pa_nil)))
  (pss_cons (ps_if (pt_cmpR op_eq (pv 2) pe_int (nomark _)) (pss_one (ps_ret (pv 3))) pss_nil)
  (pss_one (ps_ret (pe_ifExp (pt_cmpR op_eq (pv 2) pe_int (nomark _)) (pe_disp (pps_cons pe_str (pv 3) (pps_cons pe_int (pe_callB call_len_seq (by rfl) T.n_len PySem.boot_len (pa_cons (pv 3) pa_nil)) pps_nil)) (by rfl) (by rfl) (fun z => by cases z) (by decide)) (pe_callTy call_tuple_of (by rfl) T.n_tuple (by decide +kernel) (pa_cons (pv 3) pa_nil))))))))))), ?_⟩
    refine ⟨_, rfl, G, d, 8, rfl, by decide, by decide, k, fun way H1 w0 w8 k1 => ?_⟩
    refine ⟨_, rfl, _, _, rfl, rfl, _, rfl, ite2 (fun e => ?_) (fun _ => ?_)⟩
    · refine ⟨_, rfl, 1, rfl, _, _, rfl, rfl, ⟨by decide, by decide, by decide⟩, _, _, rfl, rfl, ⟨by decide, by decide, by decide⟩, _, rfl, by show 8 ≤ sizeLine; decide, fun l nl => ?_⟩
      refine ⟨upd G l (.lst (anyInts.map V.int)), d, l, anyInts.map V.int, rfl, k1.made nl, upd_same, by decide, by decide, fun i v H' hi k2 => ?_⟩
      obtain ⟨z, rfl, hz⟩ := pick_int anyInts_ok hi
      exact q _ (.int z) _ _ (k1.gex nl) k2 (.int z) ((Val.int hz).up (Nat.zero_le _) (Nat.zero_le _)) (Nat.zero_le _)
    refine ⟨_, rfl, rfl, _, rfl, ite2 (fun e => ?_) (fun _ => ?_)⟩
    · refine ⟨_, rfl, by show 7 ≤ sizeLine; decide, fun l nl => ?_⟩
      refine ⟨upd G l (.lst (anyStrs.map V.str)), d, l, anyStrs.map V.str, rfl, k1.made nl, upd_same, by decide, by decide, fun i v H' hi k2 => ?_⟩
      obtain ⟨x, rfl, hx⟩ := pick_str anyStrs_ok hi
      exact q _ (.str x) _ _ (k1.gex nl) k2 (.str x) (hx.up (Nat.zero_le _) (by show 5 ≤ BB 1; decide)) (Nat.zero_le _)
    refine ⟨_, rfl, rfl, _, rfl, ite2 (fun e => ?_) (fun _ => ?_)⟩
    · refine ⟨_, rfl, by show 3 ≤ sizeLine; decide, fun l nl => ?_⟩
      refine ⟨upd G l (.lst [.bl true, .bl false, .non]), d, l, [.bl true, .bl false, .non], rfl, k1.made nl, upd_same, by decide, by decide, fun i v H' hi k2 => ?_⟩
      have hm := List.mem_of_getElem? hi
      rcases List.mem_cons.mp hm with rfl | hm
      · exact q _ (.bool true) _ _ (k1.gex nl) k2 (.bl true) ((Val.bool true).up (Nat.zero_le _) (Nat.zero_le _)) (Nat.zero_le _)
      rcases List.mem_cons.mp hm with rfl | hm
      · exact q _ (.bool false) _ _ (k1.gex nl) k2 (.bl false) ((Val.bool false).up (Nat.zero_le _) (Nat.zero_le _)) (Nat.zero_le _)
      cases List.mem_singleton.mp hm
      exact q _ .none _ _ (k1.gex nl) k2 .non (Val.none.up (Nat.zero_le _) (Nat.zero_le _)) (Nat.zero_le _)
    refine ⟨_, rfl, _, _, rfl, rfl, _, rfl, ?_⟩
    refine iteT (r_rng ?_)
    refine ⟨_, rfl, G, d, 4, rfl, by decide, by decide, k1, fun r H3 r0 r4 k3 => ?_⟩
    obtain ⟨m, rfl⟩ : ∃ m : Nat, r = (m : Int) := ⟨r.toNat, by omega⟩
    refine ⟨_, rfl, by omega, by omega, ?_⟩
    refine lc_vals (n := ((m : Nat) : Int).toNat) (p := 2 * 0 + 2) (B := BB 0) (R := fun _ => True) (σ := [some (.ref d), some (.int (1 : Nat)), some (.int way), none, none]) k3 (by omega) ?_ ?_
    · intro i H2 Gi hi kk eGi
      refine ⟨[some (.ref d), some (.int (1 : Nat)), some (.int way), none, some (.int (0 + (i : Int)))], fun k hk => hk, rfl, fun Q3 q3 => ?_⟩
      exact ⟨_, rfl, _, rfl, _, _, rfl, rfl, Gi, d, rfl, kk, fun v pd Gj H' e' k' dx vl _ => q3 v pd Gj H' e' k' dx vl trivial⟩
    intro D ys ds Gj H2 eG kk hD hd dA vL hl _
    have hl3 : ys.length ≤ 3 := by omega
    replace vL : ValL ds (2 * 0 + 2) (3 * (BB 0 + 1)) := vL.up (Nat.le_refl _) (Nat.mul_le_mul_right _ (by omega))
    have hgD : nw G Gj D = some (.lst ys) := nw_at hD hd
    have hlen := dA.len
    refine ⟨_, rfl, rfl, _, rfl, ite2 (fun e => ?_) (fun _ => ?_)⟩
    · exact ⟨_, rfl, q (.ref D) (.list ds) Gj H2 eG kk (.lst hgD dA) (vL.lst.up (by decide) (by decide)) (Nat.zero_le _)⟩
    refine ⟨_, rfl, rfl, _, rfl, ite2 (fun e => ?_) (fun _ => ?_)⟩
    · refine fun p np => ?_
      have gp : Gj p = none := kk.free np
      have k3 := kk.made (o := .dK []) np
      have gp0 : G p = none := fresh_back eG gp
      refine ⟨_, rfl, _, rfl, D, ys, rfl, .inl (SqL.of (k3.get ((Ex.new gp) _ _ hd))), upd_same, [(kF, .ref D), (kI, .int (ys.length : Int))], rfl, by show 2 ≤ 15; decide, ?_⟩
      rw [face_made]
      have eJ : Ex Gj (upd (upd Gj p (.dK [])) p (.dK [(kF, .ref D), (kI, .int (ys.length : Int))])) := Ex.mut (Ex.new gp) gp
      refine q (.ref p) (.dict [(.str "face", .list ds), (.int 1, .int (ys.length : Int))]) _ _ (eG.trans eJ) (k3.set upd_same) ?_ ?_ (Nat.zero_le _)
      · exact .dct (nw_at gp0 upd_same) (.cons (Dx.more (nw_up eJ) (.lst hgD dA)) (.cons (.int _) .nil))
      · exact (Val.dict2 face_ok (by decide) vL.lst ((Val.int (i := (ys.length : Int)) (by rw [Int.natAbs_natCast]; exact Nat.lt_of_le_of_lt hl3 (by decide))).up (Nat.zero_le _) (Nat.le_refl 0))).up (by decide) (by decide)
    · refine ⟨_, rfl, D, ys, rfl, .inl ⟨SqL.of (kk.get hd), fun l nl => ?_⟩⟩
      have gl : Gj l = none := kk.free nl
      refine q (.ref l) (.tuple ds) _ _ (eG.trans (Ex.new gl)) (kk.made nl) (.tup (nw_at (fresh_back eG gl) upd_same) (dA.more (nw_up (Ex.new gl)))) (vL.tup.up (by decide) (by decide)) ?_
      show ds.length ≤ 3
      omega
theorem ok_any2 (T : Txt K mg) : FnOk P w K mg base CX0 6 T.f_l_any T.d_l_any ["deck", "deep"] (sp_any 2) := by
  have F_l_draw := ok_draw (P := P) (w := w) (base := base) T
  have F_l_pick := ok_pick (P := P) (w := w) (base := base) T
  have F_l_any := ok_any1 (P := P) (w := w) (base := base) T
  refine T.U_l_any.ok sc_l_any (fun vs H Q E h => ?_) (fun cdv A outer s H vs Q E hr h => ?_)
  · obtain ⟨_, _, rfl, _⟩ := h
    rfl
  · obtain ⟨G, d, rfl, k, q⟩ := h
    refine ⟨_, (pss_cons (ps_set (i := 2) sc_l_any.nd rfl (.inl rfl) (pe_call F_l_draw (hr.mono (by decide)) (by rfl) T.g_l_draw T.k_l_draw T.b_l_draw .nil pass0 (pa_cons (pv 0) (pa_cons pe_int pa_nil))))
  (pss_cons (ps_if (pt_cmpR op_lt (pv 2) pe_int (nomark _)) (pss_one (ps_ret (pe_call F_l_pick (hr.mono (by decide)) (by rfl) T.g_l_pick T.k_l_pick T.b_l_pick .nil pass0 (pa_cons (pv 0) (pa_cons (pe_lst (pa_cons pe_int (pa_cons pe_int (pa_cons (pe_un un_neg pe_int) (pa_cons pe_int (pa_cons pe_int (pa_cons pe_int (pa_cons (pe_op op_pow pe_int pe_int) (pa_cons (pe_un un_neg (pe_op op_pow pe_int pe_int)) pa_nil))))))))) pa_nil))))) pss_nil)
  (pss_cons (ps_if (pt_cmpR op_eq (pv 2) pe_int (nomark _)) (pss_one (ps_ret (pe_call F_l_pick (hr.mono (by decide)) (by rfl) T.g_l_pick T.k_l_pick T.b_l_pick .nil pass0 (pa_cons (pv 0) (pa_cons (pe_lst (pa_cons pe_str (pa_cons pe_str (pa_cons pe_str (pa_cons pe_str (pa_cons pe_str (pa_cons pe_str (pa_cons pe_str pa_nil)))))))) pa_nil))))) pss_nil)
  (pss_cons (ps_if (pt_cmpR op_eq (pv 2) pe_int (nomark _)) (pss_one (ps_ret (pe_call F_l_pick (hr.mono (by decide)) (by rfl) T.g_l_pick T.k_l_pick T.b_l_pick .nil pass0 (pa_cons (pv 0) (pa_cons (pe_lst (pa_cons pe_bl (pa_cons pe_bl (pa_cons pe_non pa_nil)))) pa_nil))))) pss_nil)
  (pss_cons (ps_set (i := 3) sc_l_any.nd rfl (.inl rfl) (pe_ifExp (pt_cmpR op_gt (pv 1) pe_int (nomark _)) (pe_lc (own := [("turn", 4)]) (g := gName 4) (tt := tYes) rfl sc_l_any.nd (pi_range1 rfl T.n_range (pa_cons (pe_call F_l_draw (hr.mono (by decide)) (by rfl) T.g_l_draw T.k_l_draw T.b_l_draw .nil pass0 (pa_cons (pv 0) (pa_cons pe_int pa_nil))) pa_nil)) (blkOk_by (own := [("turn", 4)]) (N := ["deck", "deep", "way", "some", "turn"]) (sc := defScope s_l_any) (by decide +kernel)) (fun _ _ _ _ _ => pg_name (i := 4) sc_l_any.nd rfl (Or.inl rfl)) (fun _ _ _ _ _ => pts_nil) (fun _ _ _ _ _ => (pe_call F_l_any (hr.mono (by decide)) (by rfl) T.g_l_any T.k_l_any T.b_l_any .nil pass0 (pa_cons (pv 0) (pa_cons (pe_op op_sub (pv 1) pe_int) pa_nil))))) (pe_lst pa_nil)))
  (pss_cons (ps_if (pt_cmpR op_eq (pv 2) pe_int (nomark _)) (pss_one (ps_ret (pv 3))) pss_nil)
  (pss_one (ps_ret (pe_ifExp (pt_cmpR op_eq (pv 2) pe_int (nomark _)) (pe_disp (pps_cons pe_str (pv 3) (pps_cons pe_int (pe_callB call_len_seq (by rfl) T.n_len PySem.boot_len (pa_cons (pv 3) pa_nil)) pps_nil)) (by rfl) (by rfl) (fun z => by cases z) (by decide)) (pe_callTy call_tuple_of (by rfl) T.n_tuple (by decide +kernel) (pa_cons (pv 3) pa_nil))))))))))), ?_⟩
    refine ⟨_, rfl, G, d, 8, rfl, by decide, by decide, k, fun way H1 w0 w8 k1 => ?_⟩
    refine ⟨_, rfl, _, _, rfl, rfl, _, rfl, ite2 (fun e => ?_) (fun _ => ?_)⟩
    · refine ⟨_, rfl, 1, rfl, _, _, rfl, rfl, ⟨by decide, by decide, by decide⟩, _, _, rfl, rfl, ⟨by decide, by decide, by decide⟩, _, rfl, by show 8 ≤ sizeLine; decide, fun l nl => ?_⟩
      refine ⟨upd G l (.lst (anyInts.map V.int)), d, l, anyInts.map V.int, rfl, k1.made nl, upd_same, by decide, by decide, fun i v H' hi k2 => ?_⟩
      obtain ⟨z, rfl, hz⟩ := pick_int anyInts_ok hi
      exact q _ (.int z) _ _ (k1.gex nl) k2 (.int z) ((Val.int hz).up (Nat.zero_le _) (Nat.zero_le _)) (Nat.zero_le _)
    refine ⟨_, rfl, rfl, _, rfl, ite2 (fun e => ?_) (fun _ => ?_)⟩
    · refine ⟨_, rfl, by show 7 ≤ sizeLine; decide, fun l nl => ?_⟩
      refine ⟨upd G l (.lst (anyStrs.map V.str)), d, l, anyStrs.map V.str, rfl, k1.made nl, upd_same, by decide, by decide, fun i v H' hi k2 => ?_⟩
      obtain ⟨x, rfl, hx⟩ := pick_str anyStrs_ok hi
      exact q _ (.str x) _ _ (k1.gex nl) k2 (.str x) (hx.up (Nat.zero_le _) (by show 5 ≤ BB 2; decide)) (Nat.zero_le _)
    refine ⟨_, rfl, rfl, _, rfl, ite2 (fun e => ?_) (fun _ => ?_)⟩
    · refine ⟨_, rfl, by show 3 ≤ sizeLine; decide, fun l nl => ?_⟩
      refine ⟨upd G l (.lst [.bl true, .bl false, .non]), d, l, [.bl true, .bl false, .non], rfl, k1.made nl, upd_same, by decide, by decide, fun i v H' hi k2 => ?_⟩
      have hm := List.mem_of_getElem? hi
      rcases List.mem_cons.mp hm with rfl | hm
      · exact q _ (.bool true) _ _ (k1.gex nl) k2 (.bl true) ((Val.bool true).up (Nat.zero_le _) (Nat.zero_le _)) (Nat.zero_le _)
      rcases List.mem_cons.mp hm with rfl | hm
      · exact q _ (.bool false) _ _ (k1.gex nl) k2 (.bl false) ((Val.bool false).up (Nat.zero_le _) (Nat.zero_le _)) (Nat.zero_le _)
      cases List.mem_singleton.mp hm
      exact q _ .none _ _ (k1.gex nl) k2 .non (Val.none.up (Nat.zero_le _) (Nat.zero_le _)) (Nat.zero_le _)
    refine ⟨_, rfl, _, _, rfl, rfl, _, rfl, ?_⟩
    refine iteT (r_rng ?_)
    refine ⟨_, rfl, G, d, 4, rfl, by decide, by decide, k1, fun r H3 r0 r4 k3 => ?_⟩
    obtain ⟨m, rfl⟩ : ∃ m : Nat, r = (m : Int) := ⟨r.toNat, by omega⟩
    refine ⟨_, rfl, by omega, by omega, ?_⟩
    refine lc_vals (n := ((m : Nat) : Int).toNat) (p := 2 * 1 + 2) (B := BB 1) (R := fun _ => True) (σ := [some (.ref d), some (.int (2 : Nat)), some (.int way), none, none]) k3 (by omega) ?_ ?_
    · intro i H2 Gi hi kk eGi
      refine ⟨[some (.ref d), some (.int (2 : Nat)), some (.int way), none, some (.int (0 + (i : Int)))], fun k hk => hk, rfl, fun Q3 q3 => ?_⟩
      exact ⟨_, rfl, _, rfl, _, _, rfl, rfl, Gi, d, rfl, kk, fun v pd Gj H' e' k' dx vl _ => q3 v pd Gj H' e' k' dx vl trivial⟩
    intro D ys ds Gj H2 eG kk hD hd dA vL hl _
    have hl3 : ys.length ≤ 3 := by omega
    replace vL : ValL ds (2 * 1 + 2) (3 * (BB 1 + 1)) := vL.up (Nat.le_refl _) (Nat.mul_le_mul_right _ (by omega))
    have hgD : nw G Gj D = some (.lst ys) := nw_at hD hd
    have hlen := dA.len
    refine ⟨_, rfl, rfl, _, rfl, ite2 (fun e => ?_) (fun _ => ?_)⟩
    · exact ⟨_, rfl, q (.ref D) (.list ds) Gj H2 eG kk (.lst hgD dA) (vL.lst.up (by decide) (by decide)) (Nat.zero_le _)⟩
    refine ⟨_, rfl, rfl, _, rfl, ite2 (fun e => ?_) (fun _ => ?_)⟩
    · refine fun p np => ?_
      have gp : Gj p = none := kk.free np
      have k3 := kk.made (o := .dK []) np
      have gp0 : G p = none := fresh_back eG gp
      refine ⟨_, rfl, _, rfl, D, ys, rfl, .inl (SqL.of (k3.get ((Ex.new gp) _ _ hd))), upd_same, [(kF, .ref D), (kI, .int (ys.length : Int))], rfl, by show 2 ≤ 15; decide, ?_⟩
      rw [face_made]
      have eJ : Ex Gj (upd (upd Gj p (.dK [])) p (.dK [(kF, .ref D), (kI, .int (ys.length : Int))])) := Ex.mut (Ex.new gp) gp
      refine q (.ref p) (.dict [(.str "face", .list ds), (.int 1, .int (ys.length : Int))]) _ _ (eG.trans eJ) (k3.set upd_same) ?_ ?_ (Nat.zero_le _)
      · exact .dct (nw_at gp0 upd_same) (.cons (Dx.more (nw_up eJ) (.lst hgD dA)) (.cons (.int _) .nil))
      · exact (Val.dict2 face_ok (by decide) vL.lst ((Val.int (i := (ys.length : Int)) (by rw [Int.natAbs_natCast]; exact Nat.lt_of_le_of_lt hl3 (by decide))).up (Nat.zero_le _) (Nat.le_refl 0))).up (by decide) (by decide)
    · refine ⟨_, rfl, D, ys, rfl, .inl ⟨SqL.of (kk.get hd), fun l nl => ?_⟩⟩
      have gl : Gj l = none := kk.free nl
      refine q (.ref l) (.tuple ds) _ _ (eG.trans (Ex.new gl)) (kk.made nl) (.tup (nw_at (fresh_back eG gl) upd_same) (dA.more (nw_up (Ex.new gl)))) (vL.tup.up (by decide) (by decide)) ?_
      show ds.length ≤ 3
      omega
end
end K47

set_option exponentiation.threshold 3000
namespace K47
open PySem PySem.Spec PyProof.Rows L2 Hr HrM Evl HrE_thing LamX RZ
theorem pick_of {zs : List Int} {i : Nat} {v : V} (p : Int → Bool) (hz : zs.all p = true) (h : (zs.map V.int)[i]? = some v) : ∃ z, v = .int z ∧ p z = true := by
  obtain ⟨z, hm, rfl⟩ := List.mem_map.mp (List.mem_of_getElem? h)
  exact ⟨z, rfl, List.all_eq_true.mp hz z hm⟩
def dsL : List Int := [3, 4, 2, 5, 1, 3, 6, 8, 0, 4, 16, 3]
def msL : List Int := [6, 20, 10 ^ 6, 10 ^ 24]
theorem dsL_ok : (dsL.all fun z => decide (0 ≤ z ∧ z ≤ 16)) = true := by decide +kernel
theorem msL_ok : (msL.all fun z => decide (1 ≤ z ∧ z ≤ 10 ^ 24 ∧ (z ≤ 20 → z ≤ 1000000))) = true := by decide +kernel
/-- the ints of such a list -/
theorem ints_of {G : Hp} {ys : List V} {ds : List PyData} {p : Int → Prop} (h : DxA G ys ds) (hr : ∀ x ∈ ds, ∃ z, x = .int z ∧ p z) : ∃ ns : List Int, ys = iV ns ∧ ds = ns.map .int ∧ ∀ z ∈ ns, p z := by
  have key : ∀ ds : List PyData, (∀ x ∈ ds, ∃ z, x = .int z ∧ p z) → ∃ ns : List Int, ds = ns.map .int ∧ ∀ z ∈ ns, p z := by
    intro ds
    induction ds with
    | nil => exact fun _ => ⟨[], rfl, fun z hz => by simp at hz⟩
    | cons d ds ih =>
      intro h
      obtain ⟨z, rfl, hz⟩ := h d List.mem_cons_self
      obtain ⟨ns, rfl, hn⟩ := ih fun x hx => h x (List.mem_cons_of_mem _ hx)
      refine ⟨z :: ns, rfl, fun y hy => ?_⟩
      rcases List.mem_cons.mp hy with rfl | hy
      · exact hz
      · exact hn y hy
  obtain ⟨ns, rfl, hn⟩ := key ds hr
  exact ⟨ns, DxA.ofInts h, rfl, hn⟩
section
variable {P : Program} {w : World} {K : PySem.W.Frag} {mg : Str → Option Value} {base : Heap}
def sp_dcounts : Sp := fun vs H Q _ => ∃ (G : Hp) (d : Addr), vs = [.ref d] ∧ Dk G d H ∧ ∀ l ns Gj H', Ex G Gj → Dk Gj d H' → Gj l = some (.tup (iV ns)) → ns.length ≤ 16 → (∀ z ∈ ns, 1 ≤ z ∧ z ≤ 10 ^ 24) → Q (.ref l) H'
theorem ok_dcounts (T : Txt K mg) : FnOk P w K mg base CX0 4 T.f_l_drawn_counts T.d_l_drawn_counts ["deck"] sp_dcounts := by
  have F_l_draw := ok_draw (P := P) (w := w) (base := base) T
  have F_l_pick := ok_pick (P := P) (w := w) (base := base) T
  have F_l_below := ok_below (P := P) (w := w) (base := base) T
  refine T.U_l_drawn_counts.ok sc_l_drawn_counts (fun vs H Q E h => ?_) (fun cdv A outer s H vs Q E hr h => ?_)
  · obtain ⟨_, _, rfl, _⟩ := h
    rfl
  · obtain ⟨G, d, rfl, k, q⟩ := h
    refine ⟨_, (pss_cons (ps_asg (pe_tup (pa_cons (pe_call F_l_pick (hr.mono (by decide)) (by rfl) T.g_l_pick T.k_l_pick T.b_l_pick .nil pass0 (pa_cons (pv 0) (pa_cons (pe_lst (pa_cons pe_int (pa_cons pe_int (pa_cons pe_int (pa_cons pe_int (pa_cons pe_int (pa_cons pe_int (pa_cons pe_int (pa_cons pe_int (pa_cons pe_int (pa_cons pe_int (pa_cons pe_int (pa_cons pe_int pa_nil))))))))))))) pa_nil))) (pa_cons (pe_call F_l_pick (hr.mono (by decide)) (by rfl) T.g_l_pick T.k_l_pick T.b_l_pick .nil pass0 (pa_cons (pv 0) (pa_cons (pe_lst (pa_cons pe_int (pa_cons pe_int (pa_cons (pe_op op_pow pe_int pe_int) (pa_cons (pe_op op_pow pe_int pe_int) pa_nil))))) pa_nil))) pa_nil))) (pg_tup (by rfl) (pgs_cons (pg_name (i := 1) sc_l_drawn_counts.nd rfl (.inl rfl)) (pgs_cons (pg_name (i := 2) sc_l_drawn_counts.nd rfl (.inr rfl)) pgs_nil))))
  (pss_one (ps_ret (pe_callTy call_tuple_of (by rfl) T.n_tuple (by decide +kernel) (pa_cons (pe_lc (own := [("at", 3)]) (g := gName 3) (tt := tYes) rfl sc_l_drawn_counts.nd (pi_range1 rfl T.n_range (pa_cons (pv 1) pa_nil)) (blkOk_by (own := [("at", 3)]) (N := ["deck", "d", "most", "at"]) (sc := defScope s_l_drawn_counts) (by decide +kernel)) (fun _ _ _ _ _ => pg_name (i := 3) sc_l_drawn_counts.nd rfl (Or.inl rfl)) (fun _ _ _ _ _ => pts_nil) (fun _ _ _ _ _ => (pe_ifExp (pt_cmpR op_gt (pv 2) pe_int (nomark _)) (pe_callB (call_max2 rfl) (by rfl) T.n_max (by decide +kernel) (pa_cons pe_int (pa_cons (pe_call F_l_below (hr.mono (by decide)) (by rfl) T.g_l_below T.k_l_below T.b_l_below .nil pass0 (pa_cons (pv 0) (pa_cons (pv 2) pa_nil))) pa_nil))) (pe_op op_add pe_int (pe_call F_l_draw (hr.mono (by decide)) (by rfl) T.g_l_draw T.k_l_draw T.b_l_draw .nil pass0 (pa_cons (pv 0) (pa_cons (pv 2) pa_nil))))))) pa_nil))))), ?_⟩
    refine ⟨_, rfl, by show 12 ≤ sizeLine; decide, fun l nl => ?_⟩
    refine ⟨upd G l (.lst (dsL.map V.int)), d, l, dsL.map V.int, rfl, k.made nl, upd_same, by decide, by decide, fun i v H1 hi k1 => ?_⟩
    obtain ⟨m, rfl, hm⟩ := pick_of _ dsL_ok hi
    have hm' := of_decide_eq_true hm
    refine ⟨_, rfl, _, _, rfl, rfl, ⟨by decide, by decide, by decide⟩, _, _, rfl, rfl, ⟨by decide, by decide, by decide⟩, by show 4 ≤ sizeLine; decide, fun l2 nl2 => ?_⟩
    refine ⟨upd (upd G l (.lst (dsL.map V.int))) l2 (.lst (msL.map V.int)), d, l2, msL.map V.int, rfl, k1.made nl2, upd_same, by decide, by decide, fun i2 v2 H2 hi2 k2 => ?_⟩
    obtain ⟨mo, rfl, ho⟩ := pick_of _ msL_ok hi2
    obtain ⟨o1, o2, o3⟩ := of_decide_eq_true ho
    have e2 : Ex G (upd (upd G l (.lst (dsL.map V.int))) l2 (.lst (msL.map V.int))) := (k.gex nl).trans (k1.gex nl2)
    generalize upd (upd G l (.lst (dsL.map V.int))) l2 (.lst (msL.map V.int)) = G2 at k2 e2
    refine ⟨by show 2 ≤ sizeLine; decide, fun t nt => ?_⟩
    have k3 := k2.new (o := .tup [.int m, .int mo]) nt
    refine two_get (K := K) (i := 1) (j := 2) upd_same ?_
    obtain ⟨mn, rfl⟩ : ∃ mn : Nat, m = (mn : Int) := ⟨m.toNat, by omega⟩
    dsimp only
    refine r_ret (r_cb (r_arg (r_rng ?_)))
    refine ⟨_, rfl, _, rfl, by omega, by omega, ?_⟩
    refine lc_vals (n := ((mn : Nat) : Int).toNat) (p := 0) (B := 0) (R := fun x => ∃ z, x = .int z ∧ 1 ≤ z ∧ z ≤ 10 ^ 24) (σ := [some (.ref d), some (.int (mn : Int)), some (.int mo), none]) k3 (by omega) ?_ ?_
    · intro i H3 Gi hi kk eGi
      refine ⟨[some (.ref d), some (.int (mn : Int)), some (.int mo), some (.int (0 + (i : Int)))], fun k hk => hk, rfl, fun Q3 q3 => ?_⟩
      refine ⟨_, rfl, _, _, rfl, rfl, _, rfl, ite2 (fun e => ?_) (fun e => ?_)⟩
      · refine ⟨_, rfl, _, rfl, Gi, d, mo, rfl, o1, kk, fun r H4 r0 r1 k4 => ⟨_, _, rfl, ?_⟩⟩
        have hz : (1 : Int) ≤ (if r > 1 then r else 1) ∧ (if r > 1 then r else 1) ≤ 10 ^ 24 := by
          split <;> omega
        refine q3 _ (.int (if r > 1 then r else 1)) _ _ (Ex.refl _) k4 (.int _) (Val.int ?_) ⟨_, rfl, hz⟩
        have : (if r > 1 then r else 1).natAbs ≤ 10 ^ 24 := by omega
        exact Nat.lt_of_le_of_lt this (by decide)
      · have h20 : mo ≤ 20 := by
          by_cases z : mo ≤ 20
          · exact z
          · exact absurd (decide_eq_true (by omega)) e
        refine ⟨_, rfl, _, rfl, Gi, d, mo, rfl, o1, o3 h20, kk, fun r H4 r0 r1 k4 => ⟨_, _, rfl, rfl, ?_⟩⟩
        refine q3 _ (.int (1 + r)) _ _ (Ex.refl _) k4 (.int _) (Val.int ?_) ⟨_, rfl, by omega, by omega⟩
        have : (1 + r).natAbs ≤ 10 ^ 24 := by omega
        exact Nat.lt_of_le_of_lt this (by decide)
    · intro D ys ds Gj H3 eG kk hD hd dA vL hl hR
      obtain ⟨ns, rfl, rfl, hn⟩ := ints_of dA hR
      refine ⟨D, _, rfl, .inl ⟨SqL.of (kk.get hd), fun p np => ?_⟩⟩
      refine q p ns _ _ ((e2.trans eG).trans (kk.gex np)) (kk.made np) upd_same ?_ hn
      rw [iV_len] at hl
      omega
theorem cut_to (is : List Int) (n : Nat) (h : n ≤ is.length) : cutV (iV is) none (some (n : Int)) = iV (is.take n) := by
  unfold cutV
  rw [HT.sIx_nat, HT.sIx_none, iV_len, List.drop_zero, Nat.sub_zero, Nat.min_eq_left h]
  unfold iV
  rw [← List.map_take]
theorem iV_app (a b : List Int) : iV a ++ iV b = iV (a ++ b) := by
  unfold iV
  rw [List.map_append]
theorem two_of {G : Hp} {a b : Addr} {o u : HO} (ha : G a = some o) (hb : G b = some u) : ∀ x ∈ [a, b], G x ≠ none := by
  intro x hx
  rcases List.mem_cons.mp hx with rfl | hx
  · rw [ha]
    exact Option.some_ne_none _
  · rw [List.mem_singleton.mp hx, hb]
    exact Option.some_ne_none _
theorem one_of {G : Hp} {a : Addr} {o : HO} (ha : G a = some o) : ∀ x ∈ [a], G x ≠ none := by
  intro x hx
  rw [List.mem_singleton.mp hx, ha]
  exact Option.some_ne_none _
def sp_drow : Sp := fun vs H Q _ => ∃ (G : Hp) (d a : Addr) (ns : List Int), vs = [.ref d, .ref a] ∧ Dk G d H ∧ G a = some (.tup (iV ns)) ∧ 1 ≤ ns.length ∧ ns.length ≤ 17 ∧ (∀ z ∈ ns, z.natAbs < 2 ^ 200) ∧
  ∀ l ms Gj H', Ex G Gj → Dk Gj d H' → Gj l = some (.tup (iV ms)) → 1 ≤ ms.length → ms.length ≤ 17 → (∀ z ∈ ms, z.natAbs < 2 ^ 250) → Q (.ref l) H'
theorem ok_drow (T : Txt K mg) : FnOk P w K mg base CX0 4 T.f_l_drawn_row T.d_l_drawn_row ["deck", "row"] sp_drow := by
  have F_l_draw := ok_draw (P := P) (w := w) (base := base) T
  have F_l_pick := ok_pick (P := P) (w := w) (base := base) T
  refine T.U_l_drawn_row.ok sc_l_drawn_row (fun vs H Q E h => ?_) (fun cdv A outer s H vs Q E hr h => ?_)
  · obtain ⟨_, _, _, _, rfl, _⟩ := h
    rfl
  · obtain ⟨G, d, a, ns, rfl, k, ha, h1, h17, hz, q⟩ := h
    refine ⟨_, (pss_cons (ps_set (i := 2) sc_l_drawn_row.nd rfl (.inl rfl) (pe_call F_l_draw (hr.mono (by decide)) (by rfl) T.g_l_draw T.k_l_draw T.b_l_draw .nil pass0 (pa_cons (pv 0) (pa_cons (pe_callB call_len_seq (by rfl) T.n_len PySem.boot_len (pa_cons (pv 1) pa_nil)) pa_nil))))
  (pss_cons (ps_if (pt_cmpR op_eq (pe_call F_l_draw (hr.mono (by decide)) (by rfl) T.g_l_draw T.k_l_draw T.b_l_draw .nil pass0 (pa_cons (pv 0) (pa_cons pe_int pa_nil))) pe_int (nomark _)) (pss_one (ps_ret (pe_op op_catN (pe_tup (pa_cons pe_int pa_nil)) (pe_callTy call_tuple_of (by rfl) T.n_tuple (by decide +kernel) (pa_cons (pe_lc (own := [("turn", 4)]) (g := gName 4) (tt := tYes) rfl sc_l_drawn_row.nd (pi_range1 rfl T.n_range (pa_cons (pe_call F_l_draw (hr.mono (by decide)) (by rfl) T.g_l_draw T.k_l_draw T.b_l_draw .nil pass0 (pa_cons (pv 0) (pa_cons pe_int pa_nil))) pa_nil)) (blkOk_by (own := [("turn", 4)]) (N := ["deck", "row", "at", "more", "turn"]) (sc := defScope s_l_drawn_row) (by decide +kernel)) (fun _ _ _ _ _ => pg_name (i := 4) sc_l_drawn_row.nd rfl (Or.inl rfl)) (fun _ _ _ _ _ => pts_nil) (fun _ _ _ _ _ => (pe_op op_sub (pe_call F_l_draw (hr.mono (by decide)) (by rfl) T.g_l_draw T.k_l_draw T.b_l_draw .nil pass0 (pa_cons (pv 0) (pa_cons pe_int pa_nil))) pe_int))) pa_nil))))) pss_nil)
  (pss_cons (ps_set (i := 3) sc_l_drawn_row.nd rfl (.inl rfl) (pe_call F_l_pick (hr.mono (by decide)) (by rfl) T.g_l_pick T.k_l_pick T.b_l_pick .nil pass0 (pa_cons (pv 0) (pa_cons (pe_lst (pa_cons pe_int (pa_cons (pe_un un_neg pe_int) (pa_cons pe_int (pa_cons (pe_un un_neg (pe_ix ix_tup (pv 1) (pv 2) (fun _ _ => rfl))) (pa_cons (pe_un un_neg pe_int) (pa_cons (pe_op op_pow pe_int pe_int) pa_nil))))))) pa_nil))))
  (pss_one (ps_ret (pe_op op_catN (pe_op op_catN (pe_slice sl_tupN (pv 1) po_none (po_some (pv 2))) (pe_tup (pa_cons (pe_op op_add (pe_ix ix_tup (pv 1) (pv 2) (fun _ _ => rfl)) (pv 3)) pa_nil))) (pe_slice sl_tupN (pv 1) (po_some (pe_op op_add (pv 2) pe_int)) po_none))))))), ?_⟩
    have hlen := iV_len ns
    refine ⟨_, rfl, _, rfl, a, _, rfl, .inr (SqT.of (k.get ha)), G, d, _, rfl, by omega, by omega, k, fun r H1 r0 r1 k1 => ?_⟩
    obtain ⟨m, rfl⟩ : ∃ m : Nat, r = (m : Int) := ⟨r.toNat, by omega⟩
    have hm : m < ns.length := by omega
    have small : ∀ z : Int, z.natAbs ≤ 100 → z.natAbs < 2 ^ 250 := fun z h => Nat.lt_of_le_of_lt h (by decide)
    refine ⟨_, rfl, G, d, 3, rfl, by decide, by decide, k1, fun r2 H2 _ _ k2 => ⟨rfl, _, rfl, ite2 (fun e => ?_) (fun e => ?_)⟩⟩
    · refine ⟨by show 1 ≤ sizeLine; decide, fun c nc => ?_⟩
      have k3 := k2.made (o := .tup [.int 1]) nc
      have e3 := k2.gex (o := .tup [.int 1]) nc
      have gc : upd G c (.tup [.int 1]) c = some (.tup (iV [1])) := upd_same
      generalize upd G c (.tup [.int 1]) = G3 at k3 e3 gc
      dsimp only
      refine r_cb (r_arg (r_rng ?_))
      refine ⟨_, rfl, G3, d, 7, rfl, by decide, by decide, k3, fun mm H3 m0 m7 k4 => ?_⟩
      refine ⟨_, rfl, by omega, by omega, ?_⟩
      refine lc_vals (n := mm.toNat) (p := 0) (B := 0) (R := fun x => ∃ z, x = .int z ∧ z.natAbs < 2 ^ 250) (σ := [some (.ref d), some (.ref a), some (.int (m : Int)), none, none]) k4 (by omega) ?_ ?_
      · intro i H4 Gi hi kk eGi
        refine ⟨[some (.ref d), some (.ref a), some (.int (m : Int)), none, some (.int (0 + (i : Int)))], fun k hk => hk, rfl, fun Q3 q3 => ?_⟩
        refine ⟨_, rfl, Gi, d, 12, rfl, by decide, by decide, kk, fun r H5 r0 r1 k5 => ⟨_, _, rfl, rfl, ?_⟩⟩
        have hs : (r - 3).natAbs ≤ 100 := by omega
        exact q3 _ (.int (r - 3)) _ _ (Ex.refl _) k5 (.int _) (Val.int (Nat.lt_of_le_of_lt hs (by decide))) ⟨_, rfl, small _ hs⟩
      · intro D ys ds Gj H4 eG kk hD hd dA vL hl hR
        obtain ⟨ms, rfl, rfl, hn⟩ := ints_of dA hR
        refine ⟨D, _, rfl, .inl ⟨SqL.of (kk.get hd), fun p np => ?_⟩⟩
        have k5 := kk.made (o := .tup (iV ms)) np
        have e5 := kk.gex (o := .tup (iV ms)) np
        have gp : upd Gj p (.tup (iV ms)) p = some (.tup (iV ms)) := upd_same
        have gc5 := e5 _ _ (eG _ _ gc)
        generalize upd Gj p (.tup (iV ms)) = G5 at k5 e5 gp gc5
        rw [iV_len] at hl
        refine ⟨c, p, _, _, rfl, rfl, k5.get gc5, k5.get gp, ?_, fun l H6 cm => ?_⟩
        · rw [iV_len, iV_len]
          exact Nat.le_trans (show [1].length + ms.length ≤ 10 by show 1 + ms.length ≤ 10; omega) (by decide)
        · obtain ⟨G6, e6, g6, k6⟩ := k5.came cm (two_of gc5 gp)
          rw [iV_app] at g6
          refine q l ([1] ++ ms) G6 H6 (e3.trans (eG.trans (e5.trans e6))) k6 g6 (by rw [List.length_append, List.length_singleton]; omega) (by rw [List.length_append, List.length_singleton]; omega) fun z hz => ?_
          rcases List.mem_cons.mp hz with rfl | hz
          · decide
          · exact hn z hz
    · have ha2 := k2.get ha
      have hx : atI (iV ns) (m : Int) = some (.int (ns.getD m 0)) := atI_nat (iV_ix hm)
      have hmem : ns.getD m 0 ∈ ns := by
        rw [List.getD_eq_getElem?_getD, List.getElem?_eq_getElem hm]
        exact List.getElem_mem hm
      have hb := hz _ hmem
      generalize hy : ns.getD m 0 = y at hx hb
      refine ⟨_, rfl, 1, rfl, _, rfl, _, rfl, a, _, _, _, rfl, rfl, SqT.of ha2, hx, y, rfl, 7, rfl, _, _, rfl, rfl, ⟨by decide, by decide, by decide⟩, by show 6 ≤ sizeLine; decide, fun l nl => ?_⟩
      have ok : (([1, -1, 2, -y, -7, 10 ^ 20] : List Int).all fun z => decide (z.natAbs < 2 ^ 200)) = true := by
        simp only [List.all_cons, List.all_nil, Bool.and_true, Bool.and_eq_true, decide_eq_true_eq]
        exact ⟨by decide, by decide, by decide, by rw [Int.natAbs_neg]; exact hb, by decide, by decide⟩
      refine ⟨upd G l (.lst (([1, -1, 2, -y, -7, 10 ^ 20] : List Int).map V.int)), d, l, ([1, -1, 2, -y, -7, 10 ^ 20] : List Int).map V.int, rfl, k2.made nl, upd_same, by show 1 ≤ 6; decide, by show 6 ≤ 1000; decide, fun i v H3 hi k3 => ?_⟩
      obtain ⟨mo, rfl, hmo⟩ := pick_of _ ok hi
      have hmo' := of_decide_eq_true hmo
      have e3 := k2.gex (o := .lst (([1, -1, 2, -y, -7, 10 ^ 20] : List Int).map V.int)) nl
      generalize upd G l (.lst (([1, -1, 2, -y, -7, 10 ^ 20] : List Int).map V.int)) = G3 at k3 e3
      have ha3 := e3 _ _ ha
      refine ⟨_, rfl, _, rfl, _, rfl, a, _, rfl, k3.get ha3, fun p H4 cm => ?_⟩
      obtain ⟨G4, e4, gp, k4⟩ := k3.came cm (one_of ha3)
      rw [cut_to ns m (by omega)] at gp
      have ha4 := e4 _ _ ha3
      refine ⟨_, rfl, _, rfl, a, _, _, _, rfl, rfl, SqT.of (k4.get ha4), hx, _, rfl, _, _, rfl, rfl, by show 1 ≤ sizeLine; decide, fun c nc => ?_⟩
      have k5 := k4.made (o := .tup [.int (y + mo)]) nc
      have e5 := k4.gex (o := .tup [.int (y + mo)]) nc
      have gc : upd G4 c (.tup [.int (y + mo)]) c = some (.tup (iV [y + mo])) := upd_same
      generalize upd G4 c (.tup [.int (y + mo)]) = G5 at k5 e5 gc
      have gp5 := e5 _ _ gp
      refine ⟨p, c, _, _, rfl, rfl, k5.get gp5, k5.get gc, ?_, fun l2 H6 cm6 => ?_⟩
      · rw [iV_len, iV_len, List.length_take]
        exact Nat.le_trans (show min m ns.length + [y + mo].length ≤ 18 by show min m ns.length + 1 ≤ 18; omega) (by decide)
      obtain ⟨G6, e6, g6, k6⟩ := k5.came cm6 (two_of gp5 gc)
      rw [iV_app] at g6
      have ha6 := e6 _ _ (e5 _ _ ha4)
      have h1c : (m : Int) + 1 = ((m + 1 : Nat) : Int) := by omega
      refine ⟨_, rfl, _, rfl, _, _, rfl, rfl, _, rfl, a, _, rfl, k6.get ha6, fun p2 H7 cm7 => ?_⟩
      obtain ⟨G7, e7, g7, k7⟩ := k6.came cm7 (one_of ha6)
      rw [h1c, cut_from] at g7
      have g67 := e7 _ _ g6
      refine ⟨l2, p2, _, _, rfl, rfl, k7.get g67, k7.get g7, ?_, fun l3 H8 cm8 => ?_⟩
      · rw [iV_len, iV_len, List.length_append, List.length_take, List.length_drop]
        exact Nat.le_trans (show min m ns.length + [y + mo].length + (ns.length - (m + 1)) ≤ 18 by show min m ns.length + 1 + (ns.length - (m + 1)) ≤ 18; omega) (by decide)
      obtain ⟨G8, e8, g8, k8⟩ := k7.came cm8 (two_of g67 g7)
      rw [iV_app] at g8
      have hl8 : ((ns.take m ++ [y + mo]) ++ ns.drop (m + 1)).length = ns.length := by
        rw [List.length_append, List.length_append, List.length_take, List.length_drop, List.length_singleton]
        omega
      refine q l3 _ G8 H8 (e3.trans (e4.trans (e5.trans (e6.trans (e7.trans e8))))) k8 g8 (by omega) (by omega) fun z hz' => ?_
      have big : ∀ z : Int, z.natAbs < 2 ^ 200 → z.natAbs < 2 ^ 250 := fun z h => pow_lt h (by decide)
      rcases List.mem_append.mp hz' with h | h
      · rcases List.mem_append.mp h with h | h
        · exact big z (hz z (List.mem_of_mem_take h))
        · rw [List.mem_singleton.mp h]
          have h3 : (y + mo).natAbs ≤ y.natAbs + mo.natAbs := Int.natAbs_add_le _ _
          have h4 : 2 ^ 200 + 2 ^ 200 ≤ 2 ^ 250 := by decide
          omega
      · exact big z (hz z (List.mem_of_mem_drop h))
end
end K47

set_option exponentiation.threshold 3000
namespace K47
open PySem PySem.Spec PyProof.Rows L2 Hr HrM Evl HrE_thing LamX RZ
def OKV (G : Hp) (v : V) (p n : Nat) : Prop := ∃ pd, Dx G v pd ∧ Val pd p n ∧ (itemsD pd).length ≤ 40
section
variable {G G' : Hp} {v : V} {p q n m : Nat}
theorem OKV.more (e : Ex G G') (h : OKV G v p n) : OKV G' v p n := let ⟨pd, a, b, c⟩ := h; ⟨pd, a.more e, b, c⟩
theorem OKV.up (h : OKV G v p n) (hp : p ≤ q) (hn : n ≤ m) : OKV G v q m := let ⟨pd, a, b, c⟩ := h; ⟨pd, a, b.up hp hn, c⟩
theorem OKV.int {i : Int} (h : i.natAbs < 2 ^ 300) : OKV G (.int i) p n := ⟨.int i, .int i, (Val.int h).up (Nat.zero_le _) (Nat.zero_le _), Nat.zero_le _⟩
theorem OKV.bl (b : Bool) : OKV G (.bl b) p n := ⟨.bool b, .bl b, (Val.bool b).up (Nat.zero_le _) (Nat.zero_le _), Nat.zero_le _⟩
theorem OKV.non : OKV G .non p n := ⟨.none, .non, Val.none.up (Nat.zero_le _) (Nat.zero_le _), Nat.zero_le _⟩
theorem OKV.str {x : Str} (h : (x.cps.toList.all fun c => decide (c < 16 ^ 8)) = true) (hn : x.cps.size ≤ n) : OKV G (.str x) p n := ⟨.str x, .str x, (Val.str h hn).up (Nat.zero_le _) (Nat.le_refl _), Nat.zero_le _⟩
theorem OKV.tup {l : Addr} {xs : List V} {ds : List PyData} (h : G l = some (.tup xs)) (hd : DxA G xs ds) (hv : ValL ds p n) (hl : ds.length ≤ 40) : OKV G (.ref l) (p + 1) n := ⟨.tuple ds, .tup h hd, hv.tup, hl⟩
theorem OKV.lst {l : Addr} {xs : List V} {ds : List PyData} (h : G l = some (.lst xs)) (hd : DxA G xs ds) (hv : ValL ds p n) : OKV G (.ref l) (p + 1) n := ⟨.list ds, .lst h hd, hv.lst, Nat.zero_le _⟩
theorem OKV.dct {l : Addr} {i : Int} (h : G l = some (.dK [(.inl i, v)])) (hi : i.natAbs < 2 ^ 300) (hv : OKV G v p n) : OKV G (.ref l) (p + 1) (n + 2) := by
  obtain ⟨pd, a, b, _⟩ := hv
  exact ⟨.dict [(.int i, pd)], .dct h (.cons a .nil), Val.dict1 hi b, Nat.zero_le _⟩
theorem valInts {ns : List Int} (h : ∀ z ∈ ns, z.natAbs < 2 ^ 250) : ValL (ns.map PyData.int) 0 ns.length := ValL.ints ns fun z hz => pow_lt (h z hz) (by decide)
end
theorem strs18 : ((List.range 18).all fun n => ((toString (n : Int) : Str).cps.toList.all fun c => decide (c < 16 ^ 8)) && decide ((toString (n : Int) : Str).cps.size ≤ 300)) = true := by decide +kernel
theorem okStr {G : Hp} {n p : Nat} (h : n ≤ 17) : OKV G (.str (toString (n : Int))) p 300 := by
  have := List.all_eq_true.mp strs18 n (List.mem_range.mpr (by omega))
  rw [Bool.and_eq_true] at this
  exact OKV.str this.1 (of_decide_eq_true this.2)
section
variable {P : Program} {w : World} {K : PySem.W.Frag} {mg : Str → Option Value} {base : Heap}
theorem one_made {a : V} : mergeK [] [(kI, a)] = [(kI, a)] := by
  unfold mergeK
  simp [putK]
theorem ones17 : (List.replicate 17 [V.int 1]).flatten = iV (List.replicate 17 1) := by decide +kernel
def sp_any12 : Sp := fun vs H Q E => sp_any 1 vs H Q E ∨ sp_any 2 vs H Q E
theorem ok_any12 (T : Txt K mg) : FnOk P w K mg base CX0 6 T.f_l_any T.d_l_any ["deck", "deep"] sp_any12 := by
  have F1 := (ok_any1 (P := P) (w := w) (base := base) T).mono (k := 6) (by decide)
  have F2 := ok_any2 (P := P) (w := w) (base := base) T
  exact ⟨fun vs H Q E h => h.elim (F1.len vs H Q E) (F2.len vs H Q E), fun A around s H as us vs Q E r e b v h => h.elim (F1.run A around s H as us vs Q E r e b v) (F2.run A around s H as us vs Q E r e b v)⟩
def sp_strange : Sp := fun vs H Q _ => ∃ (G : Hp) (d a : Addr) (ns : List Int), vs = [.ref d, .ref a] ∧ Dk G d H ∧ G a = some (.tup (iV ns)) ∧ ns.length ≤ 17 ∧ (∀ z ∈ ns, z.natAbs < 2 ^ 250) ∧
  ∀ v Gj H', Ex G Gj → Dk Gj d H' → OKV Gj v 10 300 → Q v H'
theorem ok_strange (T : Txt K mg) : FnOk P w K mg base CX0 7 T.f_l_strange T.d_l_strange ["deck", "thing"] sp_strange := by
  have F_l_draw := ok_draw (P := P) (w := w) (base := base) T
  have F_l_pick := ok_pick (P := P) (w := w) (base := base) T
  have F_l_any := ok_any12 (P := P) (w := w) (base := base) T
  refine T.U_l_strange.ok sc_l_strange (fun vs H Q E h => ?_) (fun cdv A outer s H vs Q E hr h => ?_)
  · obtain ⟨_, _, _, _, rfl, _⟩ := h
    rfl
  · obtain ⟨G, d, a, ns, rfl, k, ha, h17, hz, q⟩ := h
    refine ⟨_, (pss_cons (ps_set (i := 2) sc_l_strange.nd rfl (.inl rfl) (pe_call F_l_draw (hr.mono (by decide)) (by rfl) T.g_l_draw T.k_l_draw T.b_l_draw .nil pass0 (pa_cons (pv 0) (pa_cons (pe_op op_add (pe_callB call_len_seq (by rfl) T.n_len PySem.boot_len (pa_cons (pv 1) pa_nil)) pe_int) pa_nil))))
  (pss_cons (ps_set (i := 3) sc_l_strange.nd rfl (.inl rfl) (pe_call F_l_pick (hr.mono (by decide)) (by rfl) T.g_l_pick T.k_l_pick T.b_l_pick .nil pass0 (pa_cons (pv 0) (pa_cons (pe_lst (pa_cons pe_bl (pa_cons pe_bl (pa_cons pe_non (pa_cons pe_str (pa_cons (pe_tup (pa_cons pe_int pa_nil)) (pa_cons (pe_lst (pa_cons pe_int pa_nil)) (pa_cons pe_int (pa_cons (pe_un un_neg pe_int) (pa_cons (pe_call F_l_any (hr.mono (by decide)) (by rfl) T.g_l_any T.k_l_any T.b_l_any .nil pass0 (pa_cons (pv 0) (pa_cons pe_int pa_nil))) pa_nil)))))))))) pa_nil))))
  (pss_cons (ps_set (i := 4) sc_l_strange.nd rfl (.inl rfl) (pe_lst (pa_cons (pe_callTy call_list_of (by rfl) T.n_list (by decide +kernel) (pa_cons (pv 1) pa_nil)) (pa_cons (pe_op op_catN (pe_op op_catN (pe_slice sl_tupN (pv 1) po_none (po_some (pv 2))) (pe_tup (pa_cons (pv 3) pa_nil))) (pe_slice sl_tupN (pv 1) (po_some (pe_op op_add (pv 2) pe_int)) po_none)) (pa_cons (pe_op op_catN (pv 1) (pe_tup (pa_cons (pv 3) pa_nil))) (pa_cons (pe_tup (pa_cons (pv 1) pa_nil)) (pa_cons (pe_op op_catN (pv 1) (pe_op op_repT (pe_tup (pa_cons pe_int pa_nil)) pe_int)) (pa_cons (pe_disp (pps_cons pe_int (pv 1) pps_nil) (by rfl) (by rfl) (fun z => by cases z) (by decide)) (pa_cons pe_non (pa_cons (pv 3) pa_nil))))))))))
  (pss_one (ps_ret (pe_call F_l_pick (hr.mono (by decide)) (by rfl) T.g_l_pick T.k_l_pick T.b_l_pick .nil pass0 (pa_cons (pv 0) (pa_cons (pe_op op_cat (pv 4) (pe_lst (pa_cons (pe_callTy call_str_int (by rfl) T.n_str (by decide +kernel) (pa_cons (pe_callB call_len_seq (by rfl) T.n_len PySem.boot_len (pa_cons (pv 1) pa_nil)) pa_nil)) (pa_cons (pe_call F_l_any (hr.mono (by decide)) (by rfl) T.g_l_any T.k_l_any T.b_l_any .nil pass0 (pa_cons (pv 0) (pa_cons pe_int pa_nil))) (pa_cons (pe_op op_catN (pe_tup (pa_cons pe_bl pa_nil)) (pe_slice sl_tupN (pv 1) (po_some pe_int) po_none)) pa_nil))))) pa_nil)))))))), ?_⟩
    have hlen := iV_len ns
    refine ⟨_, rfl, _, rfl, a, _, rfl, .inr (SqT.of (k.get ha)), _, _, rfl, rfl, G, d, _, rfl, by omega, by omega, k, fun r H1 r0 r1 k1 => ?_⟩
    obtain ⟨m, rfl⟩ : ∃ m : Nat, r = (m : Int) := ⟨r.toNat, by omega⟩
    have hm : m ≤ ns.length := by omega
    -- odd
    refine ⟨_, rfl, by show 1 ≤ sizeLine; decide, fun c nc => ?_⟩
    have k2 := k1.made (o := .tup [.int 1]) nc
    have e2 := k1.gex (o := .tup [.int 1]) nc
    have gc : upd G c (.tup [.int 1]) c = some (.tup (iV [1])) := upd_same
    generalize upd G c (.tup [.int 1]) = G2 at k2 e2 gc
    refine ⟨by show 1 ≤ sizeLine; decide, fun b nb => ?_⟩
    have k3 := k2.made (o := .lst [.int 1]) nb
    have e3 := k2.gex (o := .lst [.int 1]) nb
    have gb : upd G2 b (.lst [.int 1]) b = some (.lst (iV [1])) := upd_same
    have gc3 := e3 _ _ gc
    generalize upd G2 b (.lst [.int 1]) = G3 at k3 e3 gb gc3
    refine ⟨1, rfl, _, rfl, .inl ⟨G3, d, rfl, k3, fun v0 pd0 G4 H4 e4 k4 dx0 vl0 il0 => ?_⟩⟩
    have o0 : OKV G4 v0 4 50 := ⟨pd0, dx0.more nw_in, vl0.up (by decide) (by decide), by omega⟩
    have oc : OKV G4 (.ref c) 4 50 := (OKV.tup (e4 _ _ gc3) (DxA.ints [1]) (valInts (ns := [1]) (by decide)) (by decide)).up (by decide) (by decide)
    have ob : OKV G4 (.ref b) 4 50 := (OKV.lst (e4 _ _ gb) (DxA.ints [1]) (valInts (ns := [1]) (by decide))).up (by decide) (by decide)
    refine ⟨by show 9 ≤ sizeLine; decide, fun l nl => ?_⟩
    have all : ∀ v ∈ [V.bl true, .bl false, .non, .str "1", .ref c, .ref b, .int 0, .int (-1), v0], OKV G4 v 4 50 := by
      intro v hv
      simp only [List.mem_cons, List.not_mem_nil, or_false] at hv
      rcases hv with rfl | rfl | rfl | rfl | rfl | rfl | rfl | rfl | rfl
      · exact OKV.bl _
      · exact OKV.bl _
      · exact OKV.non
      · exact OKV.str (by decide +kernel) (by decide +kernel)
      · exact oc
      · exact ob
      · exact OKV.int (by decide)
      · exact OKV.int (by decide)
      · exact o0
    have k5 := k4.made (o := .lst [V.bl true, .bl false, .non, .str "1", .ref c, .ref b, .int 0, .int (-1), v0]) nl
    have e5 := k4.gex (o := .lst [V.bl true, .bl false, .non, .str "1", .ref c, .ref b, .int 0, .int (-1), v0]) nl
    refine ⟨_, d, l, _, rfl, k5, upd_same, by show 1 ≤ 9; decide, by show 9 ≤ 1000; decide, fun i odd H5 hi k5' => ?_⟩
    have hodd := (all odd (List.mem_of_getElem? hi)).more e5
    have ha5 := e5 _ _ (e4 _ _ (e3 _ _ (e2 _ _ ha)))
    have E5 := e2.trans (e3.trans (e4.trans e5))
    clear k5
    generalize upd G4 l (.lst [V.bl true, .bl false, .non, .str "1", .ref c, .ref b, .int 0, .int (-1), v0]) = G5 at k5' hodd ha5 E5
    obtain ⟨po, dxo, vlo, ilo⟩ := id hodd
    have vOdd : ValL [po] 4 51 := (ValL.cons vlo (ValL.nil.up (Nat.zero_le 4) (Nat.le_refl 0))).up (Nat.le_refl 4) (by decide)
    have vNs := valInts hz
    have vNs4 : ValL (ns.map PyData.int) 4 17 := vNs.up (Nat.zero_le 4) h17
    -- list(thing)
    refine ⟨_, rfl, a, _, rfl, .inr (SqT.of (k5'.get ha5)), fun p1 n1 => ?_⟩
    have k6 := k5'.made (o := .lst (iV ns)) n1
    have e6 := k5'.gex (o := .lst (iV ns)) n1
    have o1 : OKV (upd G5 p1 (.lst (iV ns))) (.ref p1) 10 300 := (OKV.lst upd_same (DxA.ints ns) vNs).up (by decide) (by omega)
    generalize upd G5 p1 (.lst (iV ns)) = G6 at k6 e6 o1
    have ha6 := e6 _ _ ha5
    have dx6 := dxo.more e6
    -- thing[:at] + (odd,) + thing[at + 1:]
    refine ⟨_, rfl, _, rfl, _, rfl, a, _, rfl, k6.get ha6, fun p H7 cm7 => ?_⟩
    obtain ⟨G7, e7, g7, k7⟩ := k6.came cm7 (one_of ha6)
    rw [cut_to ns m hm] at g7
    have ha7 := e7 _ _ ha6
    refine ⟨_, rfl, by show 1 ≤ sizeLine; decide, fun c2 n2 => ?_⟩
    have k8 := k7.made (o := .tup [odd]) n2
    have e8 := k7.gex (o := .tup [odd]) n2
    have g8 : upd G7 c2 (.tup [odd]) c2 = some (.tup [odd]) := upd_same
    generalize upd G7 c2 (.tup [odd]) = G8 at k8 e8 g8
    have g78 := e8 _ _ g7
    refine ⟨p, c2, _, _, rfl, rfl, k8.get g78, k8.get g8, ?_, fun l2 H9 cm9 => ?_⟩
    · rw [iV_len, List.length_take]
      exact Nat.le_trans (show min m ns.length + [odd].length ≤ 18 by show min m ns.length + 1 ≤ 18; omega) (by decide)
    obtain ⟨G9, e9, g9, k9⟩ := k8.came cm9 (two_of g78 g8)
    have ha9 := e9 _ _ (e8 _ _ ha7)
    have h1c : (m : Int) + 1 = ((m + 1 : Nat) : Int) := by omega
    refine ⟨_, rfl, _, rfl, _, _, rfl, rfl, _, rfl, a, _, rfl, k9.get ha9, fun p2 H10 cm10 => ?_⟩
    obtain ⟨G10, e10, g10, k10⟩ := k9.came cm10 (one_of ha9)
    rw [h1c, cut_from] at g10
    have g910 := e10 _ _ g9
    refine ⟨l2, p2, _, _, rfl, rfl, k10.get g910, k10.get g10, ?_, fun l3 H11 cm11 => ?_⟩
    · rw [List.length_append, iV_len, iV_len, List.length_take, List.length_drop]
      exact Nat.le_trans (show min m ns.length + [odd].length + (ns.length - (m + 1)) ≤ 40 by show min m ns.length + 1 + (ns.length - (m + 1)) ≤ 40; omega) (by decide)
    obtain ⟨G11, e11, g11, k11⟩ := k10.came cm11 (two_of g910 g10)
    have e611 := e7.trans (e8.trans (e9.trans (e10.trans e11)))
    have dx11 := dx6.more e611
    have ha11 := e611 _ _ ha6
    have o2 : OKV G11 (.ref l3) 10 300 := by
      have vt : ValL ((ns.take m).map PyData.int) 4 17 := (valInts fun z h => hz z (List.mem_of_mem_take h)).up (Nat.zero_le 4) (by rw [List.length_take]; omega)
      have vd : ValL ((ns.drop (m + 1)).map PyData.int) 4 17 := (valInts fun z h => hz z (List.mem_of_mem_drop h)).up (Nat.zero_le 4) (by rw [List.length_drop]; omega)
      refine (OKV.tup g11 (((DxA.ints _).app (.cons dx11 .nil)).app (DxA.ints _)) ((vt.app vOdd).app vd) ?_).up (by decide) (by decide)
      rw [List.length_append, List.length_append, List.length_map, List.length_map, List.length_take, List.length_drop]
      show min m ns.length + 1 + (ns.length - (m + 1)) ≤ 40
      omega
    have o1' := o1.more e611
    have o8' : OKV G11 odd 10 300 := (hodd.more (e6.trans e611)).up (by decide) (by decide)
    have E11 := E5.trans (e6.trans e611)
    -- thing + (odd,)
    refine ⟨_, rfl, _, rfl, by show 1 ≤ sizeLine; decide, fun c3 n3 => ?_⟩
    have k12 := k11.made (o := .tup [odd]) n3
    have e12 := k11.gex (o := .tup [odd]) n3
    have g12 : upd G11 c3 (.tup [odd]) c3 = some (.tup [odd]) := upd_same
    generalize upd G11 c3 (.tup [odd]) = G12 at k12 e12 g12
    have ha12 := e12 _ _ ha11
    refine ⟨a, c3, _, _, rfl, rfl, k12.get ha12, k12.get g12, ?_, fun l4 H13 cm13 => ?_⟩
    · rw [iV_len]
      exact Nat.le_trans (show ns.length + [odd].length ≤ 18 by show ns.length + 1 ≤ 18; omega) (by decide)
    obtain ⟨G13, e13, g13, k13⟩ := k12.came cm13 (two_of ha12 g12)
    have e1113 := e12.trans e13
    have o3 : OKV G13 (.ref l4) 10 300 := by
      refine (OKV.tup g13 ((DxA.ints _).app (.cons (dx11.more e1113) .nil)) (vNs4.app vOdd) ?_).up (by decide) (by decide)
      rw [List.length_append, List.length_map]
      show ns.length + 1 ≤ 40
      omega
    have ha13 := e1113 _ _ ha11
    -- (thing,)
    refine ⟨_, rfl, by show 1 ≤ sizeLine; decide, fun p4 n4 => ?_⟩
    have k14 := k13.made (o := .tup [.ref a]) n4
    have e14 := k13.gex (o := .tup [.ref a]) n4
    have g14 : upd G13 p4 (.tup [.ref a]) p4 = some (.tup [.ref a]) := upd_same
    generalize upd G13 p4 (.tup [.ref a]) = G14 at k14 e14 g14
    have ha14 := e14 _ _ ha13
    have o4 : OKV G14 (.ref p4) 10 300 := (OKV.tup g14 (.cons (.tup ha14 (DxA.ints ns)) .nil) (ValL.cons vNs.tup (ValL.nil.up (Nat.zero_le _) (Nat.le_refl 0))) (by show 1 ≤ 40; decide)).up (by decide) (by omega)
    -- thing + (1,) * 17
    refine ⟨_, rfl, by show 1 ≤ sizeLine; decide, fun c5 n5 => ?_⟩
    have k15 := k14.made (o := .tup [.int 1]) n5
    have e15 := k14.gex (o := .tup [.int 1]) n5
    have g15 : upd G14 c5 (.tup [.int 1]) c5 = some (.tup [.int 1]) := upd_same
    generalize upd G14 c5 (.tup [.int 1]) = G15 at k15 e15 g15
    refine ⟨c5, 17, _, rfl, rfl, SqT.of (k15.get g15), by simp, by decide, by decide, by show 1 ≤ 1000; decide, fun p5 n5' => ?_⟩
    have k16 := k15.made (o := .tup (List.replicate (17 : Int).toNat [V.int 1]).flatten) n5'
    have e16 := k15.gex (o := .tup (List.replicate (17 : Int).toNat [V.int 1]).flatten) n5'
    have g16 : upd G15 p5 (.tup (List.replicate (17 : Int).toNat [V.int 1]).flatten) p5 = some (.tup (iV (List.replicate 17 1))) := by rw [upd_same, ← ones17]; rfl
    generalize upd G15 p5 (.tup (List.replicate (17 : Int).toNat [V.int 1]).flatten) = G16 at k16 e16 g16
    have ha16 := e16 _ _ (e15 _ _ ha14)
    refine ⟨a, p5, _, _, rfl, rfl, k16.get ha16, k16.get g16, ?_, fun l5 H17 cm17 => ?_⟩
    · rw [iV_len, iV_len]
      exact Nat.le_trans (show ns.length + (List.replicate 17 1).length ≤ 40 by rw [List.length_replicate]; omega) (by decide)
    obtain ⟨G17, e17, g17, k17⟩ := k16.came cm17 (two_of ha16 g16)
    have e1417 := e15.trans (e16.trans e17)
    have o5 : OKV G17 (.ref l5) 10 300 := by
      refine (OKV.tup g17 ((DxA.ints _).app (DxA.ints _)) (vNs.app (valInts (ns := List.replicate 17 1) (by decide))) ?_).up (by decide) ?_
      · rw [List.length_append, List.length_map, List.length_map, List.length_replicate]
        omega
      · rw [List.length_replicate]
        omega
    have ha17 := e1417 _ _ ha14
    -- {1: thing}
    refine fun p6 n6 => ?_
    have k18 := k17.made (o := .dK []) n6
    have gp6 : G17 p6 = none := k17.free n6
    refine ⟨_, rfl, upd_same, [(kI, .ref a)], rfl, by show 1 ≤ 15; decide, ?_⟩
    rw [one_made]
    have k19 := k18.set (o' := .dK [(kI, .ref a)]) upd_same
    have e19 : Ex G17 (upd (upd G17 p6 (.dK [])) p6 (.dK [(kI, .ref a)])) := Ex.mut (Ex.new gp6) gp6
    have g19 : (upd (upd G17 p6 (.dK [])) p6 (.dK [(kI, .ref a)])) p6 = some (.dK [(kI, .ref a)]) := upd_same
    generalize upd (upd G17 p6 (.dK [])) p6 (.dK [(kI, .ref a)]) = G19 at k19 e19 g19
    have ha19 := e19 _ _ ha17
    have o6 : OKV G19 (.ref p6) 10 300 := (OKV.dct g19 (by decide) (OKV.tup (p := 0) ha19 (DxA.ints ns) vNs (by rw [List.length_map]; omega))).up (by decide) (by omega)
    -- None, odd
    refine ⟨_, rfl, by show 8 ≤ sizeLine; decide, fun L nL => ?_⟩
    have E19 := E11.trans (e1113.trans (e14.trans (e1417.trans e19)))
    have some8 : ∀ v ∈ [V.ref p1, .ref l3, .ref l4, .ref p4, .ref l5, .ref p6, .non, odd], OKV G19 v 10 300 := by
      intro v hv
      simp only [List.mem_cons, List.not_mem_nil, or_false] at hv
      have w13 := e14.trans (e1417.trans e19)
      rcases hv with rfl | rfl | rfl | rfl | rfl | rfl | rfl | rfl
      · exact o1'.more (e1113.trans w13)
      · exact o2.more (e1113.trans w13)
      · exact o3.more w13
      · exact o4.more (e1417.trans e19)
      · exact o5.more e19
      · exact o6
      · exact OKV.non
      · exact o8'.more (e1113.trans w13)
    have k20 := k19.made (o := .lst [V.ref p1, .ref l3, .ref l4, .ref p4, .ref l5, .ref p6, .non, odd]) nL
    have e20 := k19.gex (o := .lst [V.ref p1, .ref l3, .ref l4, .ref p4, .ref l5, .ref p6, .non, odd]) nL
    have g20 : upd G19 L (.lst [V.ref p1, .ref l3, .ref l4, .ref p4, .ref l5, .ref p6, .non, odd]) L = some (.lst [V.ref p1, .ref l3, .ref l4, .ref p4, .ref l5, .ref p6, .non, odd]) := upd_same
    generalize hL8 : [V.ref p1, V.ref l3, V.ref l4, V.ref p4, V.ref l5, V.ref p6, V.non, odd] = L8 at some8 k20 e20 g20 ⊢
    have hL8l : L8.length = 8 := by rw [← hL8]; rfl
    generalize upd G19 L (.lst L8) = G20 at k20 e20 g20
    have ha20 := e20 _ _ ha19
    have hlog : (((iV ns).length : Int)).natAbs.log2 < 1920 := by
      have : (((iV ns).length : Int)).natAbs < 2 ^ 10 := by rw [Int.natAbs_natCast, hlen]; omega
      have := PySem.Flt.log2_lt_of (by decide) this
      omega
    refine ⟨_, rfl, _, rfl, _, rfl, a, _, rfl, .inr (SqT.of (k20.get ha20)), _, rfl, hlog, _, rfl, .inr ⟨G20, d, rfl, k20, fun v1 pd1 G21 H21 e21 k21 dx1 vl1 il1 => ?_⟩⟩
    have ov : OKV G21 v1 10 300 := ⟨pd1, dx1.more nw_in, vl1.up (by decide) (by decide), by omega⟩
    have ha21 := e21 _ _ ha20
    refine ⟨by show 1 ≤ sizeLine; decide, fun c7 n7 => ?_⟩
    have k22 := k21.made (o := .tup [.bl true]) n7
    have e22 := k21.gex (o := .tup [.bl true]) n7
    have g22 : upd G21 c7 (.tup [.bl true]) c7 = some (.tup [.bl true]) := upd_same
    generalize upd G21 c7 (.tup [.bl true]) = G22 at k22 e22 g22
    have ha22 := e22 _ _ ha21
    refine ⟨_, rfl, 1, rfl, a, _, rfl, k22.get ha22, fun p7 H23 cm23 => ?_⟩
    obtain ⟨G23, e23, g23, k23⟩ := k22.came cm23 (one_of ha22)
    have ec : cutV (iV ns) (some 1) none = iV (ns.drop 1) := cut_from ns 1
    rw [ec] at g23
    have g223 := e23 _ _ g22
    refine ⟨c7, p7, _, iV (ns.drop 1), rfl, rfl, k23.get g223, k23.get g23, ?_, fun l7 H24 cm24 => ?_⟩
    · rw [iV_len, List.length_drop]
      exact Nat.le_trans (show [V.bl true].length + (ns.length - 1) ≤ 40 by show 1 + (ns.length - 1) ≤ 40; omega) (by decide)
    obtain ⟨G24, e24, g24, k24⟩ := k23.came cm24 (two_of g223 g23)
    have o11 : OKV G24 (.ref l7) 10 300 := by
      have vd := valInts (ns := ns.drop 1) fun z h => hz z (List.mem_of_mem_drop h)
      refine (OKV.tup g24 ((DxA.app (.cons (.bl true) .nil) (DxA.ints _))) ((ValL.cons (Val.bool true) ValL.nil).app vd) ?_).up (by decide) ?_
      · rw [List.length_append, List.length_map, List.length_drop]
        show 1 + (ns.length - 1) ≤ 40
        omega
      · rw [List.length_drop]
        omega
    refine ⟨by show 3 ≤ sizeLine; decide, fun L2 nL2 => ?_⟩
    have w24 := e22.trans (e23.trans e24)
    have more3 : ∀ v ∈ [V.str (toString ((iV ns).length : Int)), v1, .ref l7], OKV G24 v 10 300 := by
      intro v hv
      simp only [List.mem_cons, List.not_mem_nil, or_false] at hv
      rcases hv with rfl | rfl | rfl
      · exact okStr (by rw [hlen]; exact h17)
      · exact ov.more w24
      · exact o11
    generalize hL3 : [V.str (toString ((iV ns).length : Int)), v1, V.ref l7] = L3 at more3 ⊢
    have hL3l : L3.length = 3 := by rw [← hL3]; rfl
    have k25 := k24.made (o := .lst L3) nL2
    have e25 := k24.gex (o := .lst L3) nL2
    have g25 : upd G24 L2 (.lst L3) L2 = some (.lst L3) := upd_same
    generalize upd G24 L2 (.lst L3) = G25 at k25 e25 g25
    have e2025 := e21.trans (w24.trans e25)
    have gL25 := e2025 _ _ g20
    refine ⟨L, L2, L8, L3, rfl, rfl, k25.get gL25, k25.get g25, ?_, fun L4 nL4 => ?_⟩
    · rw [hL8l, hL3l]
      decide
    have k26 := k25.made (o := .lst (L8 ++ L3)) nL4
    have e26 := k25.gex (o := .lst (L8 ++ L3)) nL4
    refine ⟨_, d, L4, L8 ++ L3, rfl, k26, upd_same, by rw [List.length_append, hL8l]; omega, by rw [List.length_append, hL8l, hL3l]; decide, fun i v H26 hi k27 => ?_⟩
    refine q v _ H26 (E19.trans (e20.trans (e2025.trans e26))) k27 ?_
    rcases List.mem_append.mp (List.mem_of_getElem? hi) with h | h
    · exact (some8 v h).more (e20.trans (e2025.trans e26))
    · exact (more3 v h).more (e25.trans e26)
end
end K47

set_option exponentiation.threshold 3000
namespace K47
open PySem PySem.Spec PyProof.Rows L2 Hr HrM Evl HrE_thing LamX RZ
theorem pe_told {X : Cx} (T : Txt X.K X.mg) {c P : Addr} {params : Arguments} {body : Expr} {scope : Scope} {t : XK → TE} {p lpos pos : Pos} (TB : TabB X.base X.mg c P) (hcode : X.env.code = .ref c) (hr : Room 8 X.A) (hg : Gl X "_law_told") (L : LamS X.env.scope scope) (hdef : defaultsOf params X.env = ([], []))
    (hbind : ∀ (q : Str) (cl : List (Str × Addr)) (pm cv ctv : Value), bindArgs (PySem.W.kla_fn "<lambda>" q params body scope cl pm cv ctv) ⟨[], []⟩ = pure [])
    (hbody : ∀ (A : Around) (outer : List Env) (s : Shared) (H : Hp) (E : XK) (f c' : Addr), Room 6 (A.deeper (lamEnv X scope s.heap.objs.size f c')) → PE (lamCx X A outer s H E scope f c') body (t E)) :
    PE X (.Call (.Name "_law_told" p) [.Lambda params body scope lpos] [] pos) (tLam [(P, X.env.qual ++ "<lambda>")] (TTold2 T.C_BadCounts T.C_BadRow "counts" "row") t) := by
  obtain ⟨oc, od, kV, doc, pm, an, cdv, ct, osl, efd, lk, hcd⟩ := T.U_l_told.ex
  have hb := T.b_l_told
  rw [efd] at hb lk
  exact pe_lamcall (k := 6) hg T.g_l_told T.k_l_told lk hcd hb sc_l_told rfl (.inl rfl) (told_to T _ _ _) TB hcode (List.mem_singleton.mpr rfl) (fun p hp _ => by rw [List.mem_singleton.mp hp]) hr L hdef hbind hbody
section
variable {P : Program} {w : World} {K : PySem.W.Frag} {mg : Str → Option Value} {base : Heap}
def dsH (d : PyData) : List PyData := if countsB d = true then [.str "told", .tuple ((mvL (-1) (1 :: valsD d)).map .int)] else [.str "counts", d, .bool true, .bool false]
def dsC (d : PyData) : List PyData := if rowB d = true then [.str "told", .tuple (((mvL 1 (valsD d)).drop 1).map .int)] else [.str "row", d, .bool true, .bool false]
theorem okd_of {d : PyData} {p n : Nat} (h : Val d p n) (hl : (itemsD d).length ≤ 40) : Okd d := by
  refine ⟨hl, fun i => ?_⟩
  rw [List.getD_eq_getElem?_getD]
  unfold valsD
  rw [List.getElem?_map]
  cases e : (itemsD d)[i]? with
  | none => show (0 : Int).natAbs < _; decide
  | some x => exact h.itm x (List.mem_of_getElem? e)
theorem mvL_abs {s : Int} {xs : List Int} (hs : s = 1 ∨ s = -1) (hl : xs.length ≤ 17) (hx : ∀ i, (xs.getD i 0).natAbs < 2 ^ 300) : ∀ z ∈ mvL s xs, z.natAbs < 2 ^ 400 := by
  intro z hz
  obtain ⟨j, hj, rfl⟩ := List.mem_map.mp hz
  have hj' := List.mem_range.mp hj
  exact pow_lt (mvA_abs hs (b := 300) (by omega) (by omega) fun i _ => hx i) (by decide)
theorem cons_300 {ns : List Int} (h : ∀ i, (ns.getD i 0).natAbs < 2 ^ 300) : ∀ i, (((1 : Int) :: ns).getD i 0).natAbs < 2 ^ 300 := by
  intro i
  cases i with
  | zero => show (1 : Int).natAbs < _; decide
  | succ i => exact h i
theorem sh_bad {d : PyData} {x : Str} (h : Val d 10 300) (hx : Val (.str x) 0 10) : ShL [.str x, d, .bool true, .bool false] 10 400 := by
  have z := ShL.val (hx.up (q := 10) (Nat.zero_le _) (Nat.le_refl _)) (ShL.val h (ShL.val ((Val.bool true).up (q := 10) (Nat.zero_le _) (Nat.le_refl _)) (ShL.val ((Val.bool false).up (q := 10) (Nat.zero_le _) (Nat.le_refl _)) ShL.nil)))
  exact ⟨z.sh, z.leaf, z.dep, Nat.le_trans z.bulk (by decide)⟩
theorem sh_good {zs : List Int} {x : Str} (h : ∀ z ∈ zs, z.natAbs < 2 ^ 400) (hl : zs.length ≤ 17) (hx : Val (.str x) 0 10) : ShL [.str x, .tuple (zs.map .int)] 10 400 := by
  have z := ShL.val (hx.up (q := 1) (Nat.zero_le _) (Nat.le_refl _)) (ShL.tup (ShL.ints zs h) ShL.nil)
  exact ⟨z.sh, z.leaf, Nat.le_trans z.dep (by decide), Nat.le_trans z.bulk (by omega)⟩
theorem w_told : Val (.str "told") 0 10 := Val.str (by decide +kernel) (by decide +kernel)
theorem w_counts : Val (.str "counts") 0 10 := Val.str (by decide +kernel) (by decide +kernel)
theorem w_row : Val (.str "row") 0 10 := Val.str (by decide +kernel) (by decide +kernel)
theorem shH {d : PyData} (h : Val d 10 300) (ok : Okd d) : ShL (dsH d) 10 400 := by
  unfold dsH
  by_cases hc : countsB d = true
  · rw [if_pos hc]
    obtain ⟨_, hl, _⟩ := counts_of hc
    exact sh_good (mvL_abs (.inr rfl) (by rw [List.length_cons]; omega) (cons_300 ok.val)) (by rw [mvL_len, List.length_cons]; omega) w_told
  · rw [if_neg hc]
    exact sh_bad h w_counts
theorem row_len {d : PyData} (hc : rowB d = true) : intsD d = true ∧ 1 ≤ (valsD d).length ∧ (valsD d).length ≤ 17 := by
  unfold rowB at hc
  rw [Bool.and_eq_true, Bool.and_eq_true] at hc
  obtain ⟨l1, l2, _⟩ := beg_len hc.1
  rw [vals_len]
  exact ⟨hc.2.1, l1, l2⟩
theorem shC {d : PyData} (h : Val d 10 300) (ok : Okd d) : ShL (dsC d) 10 400 := by
  unfold dsC
  by_cases hc : rowB d = true
  · rw [if_pos hc]
    obtain ⟨_, _, hl⟩ := row_len hc
    exact sh_good (fun z hz => mvL_abs (.inl rfl) hl ok.val z (List.mem_of_mem_drop hz)) (by rw [List.length_drop, mvL_len]; omega) w_told
  · rw [if_neg hc]
    exact sh_bad h w_row
theorem told_h {tl : XK → Hp → VK → Prop} {TL : List (Addr × Str)} {CA CB : Addr} {H H1 : Hp} {Q : VK} {v : V} {d : PyData} (dx : Dx H v d) (ok : Okd d) (htl : ∀ E H2 Q2, sp_h_row CA [v] H2 Q2 E → tl E H2 Q2) (e : ExtN H H1) (hT : Tabs TL H1)
    (q : ∀ l ys H', ExtN H H' → Tabs TL H' → H' l = some (.tup ys) → DxA H' ys (dsH d) → Q (.ref l) H') : TTold2 CA CB "counts" "row" tl H1 Q := by
  unfold TTold2
  refine htl _ H1 _ ⟨v, d, rfl, dx.moreN e, ok, fun hc l H' nl e' hl => ?_, fun hc dd H2 nd e' hdd => ?_⟩
  · refine ⟨by show 2 ≤ sizeLine; decide, fun l2 nl2 => ?_⟩
    have e2 := e'.trans (Ex.new (o := .tup [.str "told", .ref l]) nl2)
    refine q l2 _ _ (e.trans (.of e2)) (hT.ext e2) upd_same ?_
    unfold dsH
    rw [if_pos hc]
    exact .cons (.str _) (.cons (.tup ((Ex.new nl2) _ _ hl) (DxA.ints _)) .nil)
  · refine ⟨dd, v, rfl, hdd, .inl ⟨rfl, fun l nl => ?_⟩⟩
    have e2 := e'.trans (Ex.new (o := .tup [.str "counts", v, .bl true, .bl false]) nl)
    refine q l _ _ (e.trans (.of e2)) (hT.ext e2) upd_same ?_
    unfold dsH
    rw [if_neg (by rw [hc]; exact Bool.false_ne_true)]
    exact .cons (.str _) (.cons ((dx.moreN e).more e2) (.cons (.bl _) (.cons (.bl _) .nil)))
theorem told_c {tl : XK → Hp → VK → Prop} {TL : List (Addr × Str)} {CA CB : Addr} {H H1 : Hp} {Q : VK} {v : V} {d : PyData} (dx : Dx H v d) (ok : Okd d) (htl : ∀ E H2 Q2, sp_counts_of_h CB [v] H2 Q2 E → tl E H2 Q2) (e : ExtN H H1) (hT : Tabs TL H1)
    (q : ∀ l ys H', ExtN H H' → Tabs TL H' → H' l = some (.tup ys) → DxA H' ys (dsC d) → Q (.ref l) H') : TTold2 CA CB "counts" "row" tl H1 Q := by
  unfold TTold2
  refine htl _ H1 _ ⟨v, d, rfl, dx.moreN e, ok, fun hc l H' nl e' hl => ?_, fun hc dd H2 nd e' hdd => ?_⟩
  · refine ⟨by show 2 ≤ sizeLine; decide, fun l2 nl2 => ?_⟩
    have e2 := e'.trans (Ex.new (o := .tup [.str "told", .ref l]) nl2)
    refine q l2 _ _ (e.trans (.of e2)) (hT.ext e2) upd_same ?_
    unfold dsC
    rw [if_pos hc]
    exact .cons (.str _) (.cons (.tup ((Ex.new nl2) _ _ hl) (DxA.ints _)) .nil)
  · refine ⟨dd, v, rfl, hdd, .inr ⟨rfl, fun l nl => ?_⟩⟩
    have e2 := e'.trans (Ex.new (o := .tup [.str "row", v, .bl true, .bl false]) nl)
    refine q l _ _ (e.trans (.of e2)) (hT.ext e2) upd_same ?_
    unfold dsC
    rw [if_neg (by rw [hc]; exact Bool.false_ne_true)]
    exact .cons (.str _) (.cons ((dx.moreN e).more e2) (.cons (.bl _) (.cons (.bl _) .nil)))
theorem tupN {H H' : Hp} (e : ExtN H H') {a : Addr} {xs : List V} (h : H a = some (.tup xs)) : H' a = some (.tup xs) := e _ _ h fun _ z => by cases z
def rightT (P0 : Addr) : List (Addr × Str) := [(P0, (("_law_is_right" : Str) ++ ".<locals>.") ++ "<lambda>")]
def sp_right (P0 : Addr) : Sp := fun vs H Q _ => ∃ v, vs = [v] ∧ Tabs (rightT P0) H ∧ OKV H v 10 300 ∧ ∀ H', ExtN H H' → Tabs (rightT P0) H' → Q (.bl true) H'
theorem ok_is_right (T : Txt K mg) (TB : TabB base mg T.c_l_is_right T.P_l_is_right) : FnG P w K mg base CX0 9 T.f_l_is_right T.d_l_is_right ["thing"] (sp_right T.P_l_is_right) := by
  have F_l_is_counts := ok_lisc (P := P) (w := w) (base := base) T
  have F_l_is_h := ok_lish (P := P) (w := w) (base := base) T
  have F_l_h := ok_lh (P := P) (w := w) (base := base) T
  have F_l_counts_of := ok_lc (P := P) (w := w) (base := base) T
  have F_h_row := ok_h_row (P := P) (w := w) (base := base) T
  have F_counts_of_h := ok_counts_of_h (P := P) (w := w) (base := base) T
  have kb_h_row_counts := sw1_binds (p1 := "counts") T.U_h_row fun _ _ _ _ _ _ _ => rfl
  have kb_counts_of_h_numbers := sw1_binds (p1 := "numbers") T.U_counts_of_h fun _ _ _ _ _ _ _ => rfl
  refine okGc T.U_l_is_right sc_l_is_right (fun vs H Q E h => ?_) (fun cdv A outer s H vs Q E hcd hr gg h => ?_)
  · obtain ⟨_, rfl, _⟩ := h
    rfl
  · obtain ⟨v, rfl, hT, hv, q⟩ := h
    have hr' := hr
    have hcode : cdv = .ref T.c_l_is_right := hcd.symm.trans T.cd_l_is_right
    refine ⟨_, (pss_cut (ps_set (i := 1) sc_l_is_right.nd rfl (.inl rfl) (pe_ifExp (pt_val (pe_call F_l_is_counts (hr.mono (by decide)) (by rfl) T.g_l_is_counts T.k_l_is_counts T.b_l_is_counts .nil pass0 (pa_cons (pv 0) pa_nil))) (pe_tup (pa_cons pe_str (pa_cons (pe_call F_l_h (hr.mono (by decide)) (by rfl) T.g_l_h T.k_l_h T.b_l_h .nil pass0 (pa_cons (pv 0) pa_nil)) pa_nil))) (pe_tup (pa_cons pe_str (pa_cons (pv 0) (pa_cons pe_bl (pa_cons pe_bl pa_nil)))))))
  (pss_cons (ps_if (pt_cmpR op_ne (pe_callB (cr_reprX gg hr.units) (by rfl) T.n_repr (by decide +kernel) (pa_cons (pe_told T TB hcode hr' (by rfl) (lamS_by (sc := defScope s_l_is_right) (by decide +kernel)) rfl (fun _ _ _ _ _ => rfl) (fun A outer s H E f c' hr2 => pe_call F_h_row (hr2.mono (by decide)) (by rfl) T.g_h_row T.k_h_row T.b_h_row .nil (passOn (takes_of rfl rfl rfl rfl)) (pa_cons (pe_var (i := 0) rfl (.inr (.inr rfl)) (by decide) (by decide)) pa_nil))) pa_nil)) (pe_callB (cr_reprX gg hr.units) (by rfl) T.n_repr (by decide +kernel) (pa_cons (pv 1) pa_nil)) (nomark _)) (pss_one (ps_ret pe_bl)) pss_nil)
  (pss_cons (ps_if (pt_cmpR op_ne (pe_callB (cr_reprX gg hr.units) (by rfl) T.n_repr (by decide +kernel) (pa_cons (pe_told T TB hcode hr' (by rfl) (lamS_by (sc := defScope s_l_is_right) (by decide +kernel)) rfl (fun _ _ _ _ _ => rfl) (fun A outer s H E f c' hr2 => pe_callK0 F_h_row (hr2.mono (by decide)) (by rfl) T.g_h_row T.k_h_row kb_h_row_counts (passOn (takes_of rfl rfl rfl rfl)) (pk_cons (pe_var (i := 0) rfl (.inr (.inr rfl)) (by decide) (by decide)) pk_nil))) pa_nil)) (pe_callB (cr_reprX gg hr.units) (by rfl) T.n_repr (by decide +kernel) (pa_cons (pv 1) pa_nil)) (nomark _)) (pss_one (ps_ret pe_bl)) pss_nil)
  (pss_cut (ps_set (i := 1) sc_l_is_right.nd rfl (.inl rfl) (pe_ifExp (pt_val (pe_call F_l_is_h (hr.mono (by decide)) (by rfl) T.g_l_is_h T.k_l_is_h T.b_l_is_h .nil pass0 (pa_cons (pv 0) pa_nil))) (pe_tup (pa_cons pe_str (pa_cons (pe_call F_l_counts_of (hr.mono (by decide)) (by rfl) T.g_l_counts_of T.k_l_counts_of T.b_l_counts_of .nil pass0 (pa_cons (pv 0) pa_nil)) pa_nil))) (pe_tup (pa_cons pe_str (pa_cons (pv 0) (pa_cons pe_bl (pa_cons pe_bl pa_nil)))))))
  (pss_cons (ps_if (pt_cmpR op_ne (pe_callB (cr_reprX gg hr.units) (by rfl) T.n_repr (by decide +kernel) (pa_cons (pe_told T TB hcode hr' (by rfl) (lamS_by (sc := defScope s_l_is_right) (by decide +kernel)) rfl (fun _ _ _ _ _ => rfl) (fun A outer s H E f c' hr2 => pe_call F_counts_of_h (hr2.mono (by decide)) (by rfl) T.g_counts_of_h T.k_counts_of_h T.b_counts_of_h .nil (passOn (takes_of rfl rfl rfl rfl)) (pa_cons (pe_var (i := 0) rfl (.inr (.inr rfl)) (by decide) (by decide)) pa_nil))) pa_nil)) (pe_callB (cr_reprX gg hr.units) (by rfl) T.n_repr (by decide +kernel) (pa_cons (pv 1) pa_nil)) (nomark _)) (pss_one (ps_ret pe_bl)) pss_nil)
  (pss_one (ps_ret (pe_cmpR op_eq (pe_callB (cr_reprX gg hr.units) (by rfl) T.n_repr (by decide +kernel) (pa_cons (pe_told T TB hcode hr' (by rfl) (lamS_by (sc := defScope s_l_is_right) (by decide +kernel)) rfl (fun _ _ _ _ _ => rfl) (fun A outer s H E f c' hr2 => pe_callK0 F_counts_of_h (hr2.mono (by decide)) (by rfl) T.g_counts_of_h T.k_counts_of_h kb_counts_of_h_numbers (passOn (takes_of rfl rfl rfl rfl)) (pk_cons (pe_var (i := 0) rfl (.inr (.inr rfl)) (by decide) (by decide)) pk_nil))) pa_nil)) (pe_callB (cr_reprX gg hr.units) (by rfl) T.n_repr (by decide +kernel) (pa_cons (pv 1) pa_nil)) (nomark _))))))))), ?_⟩
    obtain ⟨d, dx, vl, il⟩ := hv
    have ok := okd_of vl il
    refine ⟨fun σ' H' => ∃ D ys, σ' = [some v, some (.ref D)] ∧ ExtN H H' ∧ Tabs (rightT T.P_l_is_right) H' ∧ H' D = some (.tup ys) ∧ DxA H' ys (dsH d), ?_, ?_⟩
    · refine ⟨_, rfl, v, d, rfl, dx, by omega, fun H1 e1 => ⟨_, rfl, ?_⟩⟩
      cases hc : countsB d with
      | true =>
        refine iteT ?_
        obtain ⟨hi, hl, _⟩ := counts_of hc
        obtain ⟨a, rfl, ha⟩ := dx.ints hi
        refine ⟨_, rfl, a, valsD d, rfl, e1 _ _ ha, hl, ok.val, fun l H2 nl e2 hl2 => ⟨by show 2 ≤ sizeLine; decide, fun D nD => ?_⟩⟩
        have e3 := e1.trans (e2.trans (Ex.new (o := .tup [.str "told", .ref l]) nD))
        refine ⟨D, _, rfl, .of e3, hT.ext e3, upd_same, ?_⟩
        unfold dsH
        rw [if_pos hc]
        exact .cons (.str _) (.cons (.tup ((Ex.new nD) _ _ hl2) (DxA.ints _)) .nil)
      | false =>
        refine iteF ⟨_, rfl, by show 4 ≤ sizeLine; decide, fun D nD => ?_⟩
        have e3 := e1.trans (Ex.new (o := .tup [.str "counts", v, .bl true, .bl false]) nD)
        refine ⟨D, _, rfl, .of e3, hT.ext e3, upd_same, ?_⟩
        unfold dsH
        rw [if_neg (by rw [hc]; exact Bool.false_ne_true)]
        exact .cons (.str _) (.cons (dx.more e3) (.cons (.bl _) (.cons (.bl _) .nil)))
    rintro σ' H1 ⟨D, ys, rfl, e1, hT1, hD, dA⟩
    have sH := shH vl ok
    refine ⟨hT1, fun H2 e2 hT2 => told_h (dx.moreN e1) ok (fun E H3 Q3 h => ⟨_, rfl, h⟩) e2 hT2 fun l ls H3 e3 hT3 hl dL => ?_⟩
    refine r_nil ?_
    dsimp only
    refine r_reprS hl dL sH (by decide) (by decide) ?_
    refine ⟨_, rfl, ?_⟩
    refine r_nil ?_
    dsimp only
    refine r_reprS (tupN e3 hD) (dA.moreN e3) sH (by decide) (by decide) ?_
    refine ⟨rfl, _, rfl, ite_no (by rw [decide_eq_true rfl]; rfl) ?_⟩
    dsimp only [tNext]
    -- by name
    refine ⟨hT3, fun H4 e4 hT4 => told_h (dx.moreN (e1.trans e3)) ok (fun E H5 Q5 h => ⟨_, rfl, h⟩) e4 hT4 fun l4 ls4 H5 e5 hT5 hl4 dL4 => ?_⟩
    have e35 := e3.trans e5
    refine r_nil ?_
    dsimp only
    refine r_reprS hl4 dL4 sH (by decide) (by decide) ?_
    refine ⟨_, rfl, ?_⟩
    refine r_nil ?_
    dsimp only
    refine r_reprS (tupN e35 hD) (dA.moreN e35) sH (by decide) (by decide) ?_
    refine ⟨rfl, _, rfl, ite_no (by rw [decide_eq_true rfl]; rfl) ?_⟩
    dsimp only [tNext]
    -- the other way
    have dx5 := dx.moreN (e1.trans e35)
    have E15 := e1.trans e35
    refine ⟨fun σ' H' => ∃ D ys, σ' = [some v, some (.ref D)] ∧ ExtN H H' ∧ Tabs (rightT T.P_l_is_right) H' ∧ H' D = some (.tup ys) ∧ DxA H' ys (dsC d), ?_, ?_⟩
    · refine ⟨_, rfl, v, d, rfl, dx5, ok, fun H6 e6 => ⟨_, rfl, ?_⟩⟩
      cases hc : rowB d with
      | true =>
        refine iteT ?_
        obtain ⟨hi, l1, l17⟩ := row_len hc
        obtain ⟨a, rfl, ha⟩ := dx5.ints hi
        refine ⟨_, rfl, a, valsD d, rfl, e6 _ _ ha, l1, l17, ok.val, fun l H7 nl e7 hl2 => ⟨by show 2 ≤ sizeLine; decide, fun D nD => ?_⟩⟩
        have e8 := e6.trans (e7.trans (Ex.new (o := .tup [.str "told", .ref l]) nD))
        refine ⟨D, _, rfl, E15.trans (.of e8), hT5.ext e8, upd_same, ?_⟩
        unfold dsC
        rw [if_pos hc]
        exact .cons (.str _) (.cons (.tup ((Ex.new nD) _ _ hl2) (DxA.ints _)) .nil)
      | false =>
        refine iteF ⟨_, rfl, by show 4 ≤ sizeLine; decide, fun D nD => ?_⟩
        have e8 := e6.trans (Ex.new (o := .tup [.str "row", v, .bl true, .bl false]) nD)
        refine ⟨D, _, rfl, E15.trans (.of e8), hT5.ext e8, upd_same, ?_⟩
        unfold dsC
        rw [if_neg (by rw [hc]; exact Bool.false_ne_true)]
        exact .cons (.str _) (.cons (dx5.more e8) (.cons (.bl _) (.cons (.bl _) .nil)))
    clear hD dA hT1 e1 sH
    rintro σ' H1 ⟨D, ys, rfl, e1, hT1, hD, dA⟩
    have sC := shC vl ok
    refine ⟨hT1, fun H2 e2 hT2 => told_c (dx.moreN e1) ok (fun E H3 Q3 h => ⟨_, rfl, h⟩) e2 hT2 fun l ls H3 e3 hT3 hl dL => ?_⟩
    refine r_nil ?_
    dsimp only
    refine r_reprS hl dL sC (by decide) (by decide) ?_
    refine ⟨_, rfl, ?_⟩
    refine r_nil ?_
    dsimp only
    refine r_reprS (tupN e3 hD) (dA.moreN e3) sC (by decide) (by decide) ?_
    refine ⟨rfl, _, rfl, ite_no (by rw [decide_eq_true rfl]; rfl) ?_⟩
    dsimp only [tNext]
    refine ⟨hT3, fun H4 e4 hT4 => told_c (dx.moreN (e1.trans e3)) ok (fun E H5 Q5 h => ⟨_, rfl, h⟩) e4 hT4 fun l4 ls4 H5 e5 hT5 hl4 dL4 => ?_⟩
    have e35 := e3.trans e5
    refine r_nil ?_
    dsimp only
    refine r_reprS hl4 dL4 sC (by decide) (by decide) ?_
    refine ⟨_, rfl, ?_⟩
    refine r_nil ?_
    dsimp only
    refine r_reprS (tupN e35 hD) (dA.moreN e35) sC (by decide) (by decide) ?_
    refine ⟨rfl, ?_⟩
    exact q_bl (Q := Q) (decide_eq_true rfl) (q H5 (e1.trans e35) hT5)
end
end K47

set_option exponentiation.threshold 3000
namespace K47
open PySem PySem.Spec PyProof.Rows L2 Hr HrM Evl HrE_thing LamX RZ
theorem mvL_at {s : Int} {xs : List Int} {i : Nat} (h : i < xs.length) : (mvL s xs).getD i 0 = mvA s (xs.length - 1) (fun i => xs.getD i 0) i := rw_at h
theorem mvL_back {s s' : Int} (hs : s * s = 1) (e : s' = -s) (xs : List Int) : mvL s' (mvL s xs) = xs := by
  apply List.ext_getElem?
  intro j
  by_cases hj : j < xs.length
  · have e1 : (mvL s' (mvL s xs))[j]? = some (mvA s' ((mvL s xs).length - 1) (fun i => (mvL s xs).getD i 0) j) := rw_get (by rw [mvL_len]; exact hj)
    rw [e1, mvL_len]
    have e2 : mvA s' (xs.length - 1) (fun i => (mvL s xs).getD i 0) j = mvA s' (xs.length - 1) (mvA s (xs.length - 1) fun i => xs.getD i 0) j := mvA_congr fun i hi => mvL_at (by omega)
    rw [e2, mvA_back hs e (by omega), List.getElem?_eq_getElem hj, List.getD_eq_getElem?_getD, List.getElem?_eq_getElem hj]
    rfl
  · rw [List.getElem?_eq_none (by rw [mvL_len, mvL_len]; omega), List.getElem?_eq_none (by omega)]
theorem mvL_head (s x : Int) (xs : List Int) : mvL s (x :: xs) = x :: (mvL s (x :: xs)).drop 1 := by
  have e : mvL s (x :: xs) = rw' (xs.length + 1) (mvA s xs.length fun i => (x :: xs).getD i 0) := rfl
  rw [e, drop_row]
  unfold rw'
  rw [List.range_succ_eq_map, List.map_cons, List.map_map, mvA_zero]
  rfl
theorem vals_ints (ns : List Int) : valsD (.tuple (ns.map .int)) = ns := by
  unfold valsD
  show (ns.map PyData.int).map valD = ns
  rw [List.map_map]
  exact List.map_id' ns
theorem okd_ints {ns : List Int} (hl : ns.length ≤ 40) (h : ∀ z ∈ ns, z.natAbs < 2 ^ 300) : Okd (.tuple (ns.map .int)) := by
  refine ⟨by show (ns.map PyData.int).length ≤ 40; rw [List.length_map]; exact hl, fun i => ?_⟩
  rw [vals_ints, List.getD_eq_getElem?_getD]
  cases e : ns[i]? with
  | none => show (0 : Int).natAbs < _; decide
  | some x => exact h x (List.mem_of_getElem? e)
theorem ints_yes (ns : List Int) : intsD (.tuple (ns.map .int)) = true := by
  show (ns.map PyData.int).all intD = true
  rw [List.all_map]
  exact List.all_eq_true.mpr fun _ _ => rfl
theorem counts_yes {ns : List Int} (hl : ns.length ≤ 16) (h : ∀ z ∈ ns, 1 ≤ z) : countsB (.tuple (ns.map .int)) = true := by
  unfold countsB
  rw [froms_iv, Bool.and_eq_true]
  refine ⟨List.all_eq_true.mpr fun z hz => decide_eq_true (h z hz), decide_eq_true ?_⟩
  show (ns.map PyData.int).length ≤ 16
  rw [List.length_map]
  exact hl
theorem row_yes {ns : List Int} : rowB (.tuple (ns.map .int)) = ((decide (1 ≤ ns.length) && (decide (ns.length ≤ 17) && (ns.getD 0 0 == 1))) && ((mvL 1 ns).drop 1).all fun x => decide (1 ≤ x)) := by
  unfold rowB
  rw [ints_yes, vals_ints, Bool.true_and]
  have eb : begB (.tuple (ns.map .int)) = (decide (1 ≤ ns.length) && (decide (ns.length ≤ 17) && (ns.getD 0 0 == 1))) := by
    show (decide (1 ≤ (ns.map PyData.int).length) && (decide ((ns.map PyData.int).length ≤ 17) && isI 1 ((ns.map PyData.int).getD 0 .none))) = _
    rw [List.length_map]
    cases ns with
    | nil => rfl
    | cons n ns => rfl
  rw [eb]
theorem atI_end {xs : List V} {n : Nat} {v : V} (hl : xs.length = n + 1) (h : xs[n]? = some v) : atI xs (-1) = some v := by
  have e : ixN xs.length (-1) = some n := by
    unfold ixN
    rw [if_neg (by decide), if_pos (by omega), hl]
    congr 1
    omega
  unfold atI
  rw [e]
  exact h
/-- what is known of drawn counts cs and their row hs -/
structure Row (cs hs : List Int) : Prop where
  eq : hs = mvL (-1) (1 :: cs)
  len : cs.length ≤ 16
  pos : ∀ z ∈ cs, 1 ≤ z
  top : ∀ z ∈ cs, z ≤ 10 ^ 24
section
variable {cs hs : List Int}
theorem Row.hlen (r : Row cs hs) : hs.length = cs.length + 1 := by
  rw [r.eq, mvL_len, List.length_cons]
theorem Row.back (r : Row cs hs) : mvL 1 hs = 1 :: cs := by
  rw [r.eq]
  exact mvL_back (by decide) (by decide) _
theorem Row.first (r : Row cs hs) : hs.getD 0 0 = 1 := by
  rw [r.eq, mvL_head]
  rfl
theorem Row.small (r : Row cs hs) : ∀ z ∈ cs, z.natAbs < 2 ^ 90 := by
  intro z hz
  have h1 := r.pos z hz
  have h2 := r.top z hz
  have h3 : z.natAbs ≤ 10 ^ 24 := by omega
  exact Nat.lt_of_le_of_lt h3 (by decide)
theorem get_small {ns : List Int} {b : Nat} (hb : 1 ≤ b) (h : ∀ z ∈ ns, z.natAbs < 2 ^ b) (i : Nat) : (((1 : Int) :: ns).getD i 0).natAbs < 2 ^ b := by
  have h1 : 2 ^ 1 ≤ 2 ^ b := Nat.pow_le_pow_right (by decide) hb
  cases i with
  | zero => show (1 : Int).natAbs < _; omega
  | succ i =>
    show (ns.getD i 0).natAbs < _
    rw [List.getD_eq_getElem?_getD]
    cases e : ns[i]? with
    | none => show (0 : Int).natAbs < _; omega
    | some x => exact h x (List.mem_of_getElem? e)
theorem Row.hsmall (r : Row cs hs) : ∀ z ∈ hs, z.natAbs < 2 ^ 200 := by
  rw [r.eq]
  intro z hz
  have hl := r.len
  obtain ⟨j, hj, rfl⟩ := List.mem_map.mp hz
  have hj' := List.mem_range.mp hj
  rw [List.length_cons] at hj' ⊢
  exact pow_lt (mvA_abs (.inr rfl) (b := 90) (by omega) (by omega) fun i _ => get_small (by decide) r.small i) (by decide)
theorem Row.sum (r : Row cs hs) : hs.sum = (1 :: cs).getD cs.length 0 := by
  rw [r.eq]
  exact (rw_sum _ _).trans (mv_sum (d := cs.length) (x := fun i => (1 :: cs).getD i 0))
theorem Row.last (r : Row cs hs) : (if cs.length % 2 = 1 then hs.getD cs.length 0 else -hs.getD cs.length 0) = sumN cs.length (fun i => sgn i (cs.getD i 0)) - 1 := by
  have e : hs.getD cs.length 0 = mvA (-1) cs.length (fun i => (1 :: cs).getD i 0) cs.length := by
    rw [r.eq, mvL_at (by rw [List.length_cons]; omega)]
    rfl
  rw [e]
  exact mv_last
theorem Row.isRow (r : Row cs hs) : rowB (.tuple (hs.map .int)) = true := by
  have h1 := r.hlen
  have h2 := r.len
  rw [row_yes, r.back, r.first, decide_eq_true (show 1 ≤ hs.length by omega), decide_eq_true (show hs.length ≤ 17 by omega)]
  show (true && (cs.all fun x => decide (1 ≤ x))) = true
  rw [Bool.true_and]
  exact List.all_eq_true.mpr fun z hz => decide_eq_true (r.pos z hz)
end
theorem ev_tif {t : TT} {ta tb : TE} {σ : L2.St} {H : Hp} {v : V} {b : Bool} (h : EvT t σ H b) (h1 : b = true → Ev ta σ H v) (h2 : b = false → Ev tb σ H v) : Ev (tIf t ta tb) σ H v := fun H1 e Q q => h H1 e _ fun H2 e2 => by
  cases b with
  | true => exact iteT (h1 rfl H2 (e.trans e2) Q fun H3 e3 => q H3 (e2.trans e3))
  | false => exact iteF (h2 rfl H2 (e.trans e2) Q fun H3 e3 => q H3 (e2.trans e3))
theorem OKV.moreN {G G' : Hp} {v : V} {p n : Nat} (e : ExtN G G') (h : OKV G v p n) : OKV G' v p n := let ⟨pd, a, b, c⟩ := h; ⟨pd, a.moreN e, b, c⟩
/-- a row that is one comes back from its counts -/
theorem row_back {ms : List Int} (h : rowB (.tuple (ms.map .int)) = true) : mvL (-1) (1 :: (mvL 1 ms).drop 1) = ms ∧ (∀ z ∈ (mvL 1 ms).drop 1, 1 ≤ z) ∧ ((mvL 1 ms).drop 1).length ≤ 16 := by
  rw [row_yes, Bool.and_eq_true, Bool.and_eq_true, Bool.and_eq_true] at h
  obtain ⟨⟨h1, h2, h3⟩, h4⟩ := h
  have l1 := of_decide_eq_true h1
  have l2 := of_decide_eq_true h2
  cases ms with
  | nil => exact absurd l1 (by decide)
  | cons m ms =>
    have hm : m = 1 := by simpa using h3
    subst hm
    refine ⟨?_, fun z hz => of_decide_eq_true (List.all_eq_true.mp h4 z hz), ?_⟩
    · rw [← mvL_head]
      exact mvL_back (by decide) (by decide) _
    · rw [List.length_drop, mvL_len]
      omega
end K47

set_option exponentiation.threshold 3000
namespace K47
open PySem PySem.Spec PyProof.Rows L2 Hr HrM Evl HrE_thing LamX RZ
section
variable {P : Program} {w : World} {K : PySem.W.Frag} {mg : Str → Option Value} {base : Heap}
def sp_law (K : PySem.W.Frag) (P0 : Addr) : Sp := fun vs H Q _ => ∃ (a : Addr) (ns : List Int), vs = [.ref a] ∧ SqL K H a (ns.map V.int) ∧ ns.length ≤ 63 ∧ H P0 = some (.tbl #[]) ∧ ∀ H', Q (.bl true) H'
theorem ok_law (T : Txt K mg) (TB : TabB base mg T.c_l_is_right T.P_l_is_right) : FnG P w K mg base CX0 11 T.f_law T.d_law ["script"] (sp_law K T.P_l_is_right) := by
  have F_l_deck := ok_deck (P := P) (w := w) (base := base) T
  have F_l_drawn_counts := ok_dcounts (P := P) (w := w) (base := base) T
  have F_l_drawn_row := ok_drow (P := P) (w := w) (base := base) T
  have F_l_strange := ok_strange (P := P) (w := w) (base := base) T
  have F_l_h := ok_lh (P := P) (w := w) (base := base) T
  have F_l_is_h := ok_lish (P := P) (w := w) (base := base) T
  have F_h_row := ok_h_row (P := P) (w := w) (base := base) T
  have F_counts_of_h := ok_counts_of_h (P := P) (w := w) (base := base) T
  have F_l_is_right := ok_is_right (P := P) (w := w) (base := base) T TB
  refine okG T.U_law sc_law (fun vs H Q E h => ?_) (fun cdv A outer s H vs Q E hr gg h => ?_)
  · obtain ⟨_, _, rfl, _⟩ := h
    rfl
  · obtain ⟨a, sc, rfl, hS, hl, hP, q⟩ := h
    refine ⟨_, (pss_cons (ps_set (i := 1) sc_law.nd rfl (.inl rfl) (pe_call F_l_deck (hr.mono (by decide)) (by rfl) T.g_l_deck T.k_l_deck T.b_l_deck .nil pass0 (pa_cons (pv 0) pa_nil)))
  (pss_cons (ps_for PassesOwn.never rfl (pi_range1 rfl T.n_range (pa_cons pe_int pa_nil)) (pg_name (i := 2) sc_law.nd rfl (.inl rfl)) (pss_cons (ps_set (i := 3) sc_law.nd rfl (.inl rfl) (pe_call F_l_drawn_counts (hr.mono (by decide)) (by rfl) T.g_l_drawn_counts T.k_l_drawn_counts T.b_l_drawn_counts .nil pass0 (pa_cons (pv 1) pa_nil)))
  (pss_cons (ps_set (i := 4) sc_law.nd rfl (.inl rfl) (pe_call F_h_row (hr.mono (by decide)) (by rfl) T.g_h_row T.k_h_row T.b_h_row .nil (passOn (E := fun _ _ _ => False) LamX.takes0) (pa_cons (pv 3) pa_nil)))
  (pss_cons (ps_if (PW.pt (pw_or (pt_cmpR op_ne (pe_callB (cr_reprX gg hr.units) (by rfl) T.n_repr (by decide +kernel) (pa_cons (pv 4) pa_nil)) (pe_callB (cr_reprX gg hr.units) (by rfl) T.n_repr (by decide +kernel) (pa_cons (pe_call F_l_h (hr.mono (by decide)) (by rfl) T.g_l_h T.k_l_h T.b_l_h .nil pass0 (pa_cons (pv 3) pa_nil)) pa_nil)) (nomark _)) (pw_or (pt_cmpR op_ne (pe_ix ix_tup (pv 4) pe_int (fun _ _ => rfl)) pe_int (nomark _)) (pw_or1 (pt_cmpR op_ne (pe_callB (cr_sumT rfl) (by rfl) T.n_sum (by decide +kernel) (pa_cons (pv 4) pa_nil)) (pe_ix ix_tup (pe_op op_catN (pe_tup (pa_cons pe_int pa_nil)) (pv 3)) (pe_un un_neg pe_int) (fun _ _ => rfl)) (nomark _)))))) (pss_one (ps_ret pe_bl)) pss_nil)
  (pss_cons (ps_set (i := 5) sc_law.nd rfl (.inl rfl) (pe_op op_sub (pe_callB (cr_sum rfl) (by rfl) T.n_sum (by decide +kernel) (pa_cons (pe_lc (own := [("at", 8), ("x", 9)]) (g := gTup K 2 (gCons (gName 8) (gCons (gName 9) (gNil)))) (tt := tYes) rfl sc_law.nd (pi_enumT (by rfl) T.n_enumerate (pa_cons (pv 3) pa_nil)) (blkOk_by (own := [("at", 8), ("x", 9)]) (N := ["script", "deck", "turn", "counts", "told", "euler", "row", "thing", "at", "x"]) (sc := defScope s_law) (by decide +kernel)) (fun _ _ _ _ _ => pg_tup rfl (pgs_cons (pg_name (i := 8) sc_law.nd rfl (Or.inl rfl)) (pgs_cons (pg_name (i := 9) sc_law.nd rfl (Or.inl rfl)) pgs_nil))) (fun _ _ _ _ _ => pts_nil) (fun _ _ _ _ _ => (pe_ifExp (pt_cmpR op_eq (pe_op op_modN (pe_callTy call_int1 (by rfl) T.n_int (by decide +kernel) (pa_cons (pv 8) pa_nil)) pe_int) pe_int (nomark _)) (pv 9) (pe_un un_neg (pv 9))))) pa_nil)) pe_int))
  (pss_cons (ps_if (PW.pt (pw_or (pt_cmpR op_ne (pe_ifExp (pt_cmpR op_eq (pe_op op_modN (pe_callTy call_int1 (by rfl) T.n_int (by decide +kernel) (pa_cons (pe_callB call_len_seq (by rfl) T.n_len PySem.boot_len (pa_cons (pv 3) pa_nil)) pa_nil)) pe_int) pe_int (nomark _)) (pe_ix ix_tup (pv 4) (pe_un un_neg pe_int) (fun _ _ => rfl)) (pe_un un_neg (pe_ix ix_tup (pv 4) (pe_un un_neg pe_int) (fun _ _ => rfl)))) (pv 5) (nomark _)) (pw_or1 (pt_cmpR op_ne (pe_callB (cr_reprX gg hr.units) (by rfl) T.n_repr (by decide +kernel) (pa_cons (pe_call F_counts_of_h (hr.mono (by decide)) (by rfl) T.g_counts_of_h T.k_counts_of_h T.b_counts_of_h .nil (passOn (E := fun _ _ _ => False) LamX.takes0) (pa_cons (pv 4) pa_nil)) pa_nil)) (pe_callB (cr_reprX gg hr.units) (by rfl) T.n_repr (by decide +kernel) (pa_cons (pv 3) pa_nil)) (nomark _))))) (pss_one (ps_ret pe_bl)) pss_nil)
  (pss_cons (ps_set (i := 6) sc_law.nd rfl (.inl rfl) (pe_call F_l_drawn_row (hr.mono (by decide)) (by rfl) T.g_l_drawn_row T.k_l_drawn_row T.b_l_drawn_row .nil pass0 (pa_cons (pv 1) (pa_cons (pv 4) pa_nil))))
  (pss_cons (ps_for PassesOwn.never rfl (pi_tup (pe_tup (pa_cons (pv 3) (pa_cons (pv 4) (pa_cons (pv 6) (pa_cons (pe_call F_l_strange (hr.mono (by decide)) (by rfl) T.g_l_strange T.k_l_strange T.b_l_strange .nil pass0 (pa_cons (pv 1) (pa_cons (pv 3) pa_nil))) (pa_cons (pe_call F_l_strange (hr.mono (by decide)) (by rfl) T.g_l_strange T.k_l_strange T.b_l_strange .nil pass0 (pa_cons (pv 1) (pa_cons (pv 4) pa_nil))) pa_nil))))))) (pg_name (i := 7) sc_law.nd rfl (.inl rfl)) (pss_one (ps_if (pt_not (pt_val (pe_callG F_l_is_right (hr.mono (by decide)) gg (by rfl) T.g_l_is_right T.k_l_is_right T.b_l_is_right .nil pass0 (pa_cons (pv 7) pa_nil)))) (pss_one (ps_ret pe_bl)) pss_nil)))
  (pss_one (ps_if (PW.pt (pw_and (pt_val (pe_call F_l_is_h (hr.mono (by decide)) (by rfl) T.g_l_is_h T.k_l_is_h T.b_l_is_h .nil pass0 (pa_cons (pv 6) pa_nil))) (pw_and1 (pt_cmpR op_ne (pe_callB (cr_reprX gg hr.units) (by rfl) T.n_repr (by decide +kernel) (pa_cons (pe_call F_h_row (hr.mono (by decide)) (by rfl) T.g_h_row T.k_h_row T.b_h_row .nil (passOn (E := fun _ _ _ => False) LamX.takes0) (pa_cons (pe_call F_counts_of_h (hr.mono (by decide)) (by rfl) T.g_counts_of_h T.k_counts_of_h T.b_counts_of_h .nil (passOn (E := fun _ _ _ => False) LamX.takes0) (pa_cons (pv 6) pa_nil)) pa_nil)) pa_nil)) (pe_callB (cr_reprX gg hr.units) (by rfl) T.n_repr (by decide +kernel) (pa_cons (pv 6) pa_nil)) (nomark _))))) (pss_one (ps_ret pe_bl)) pss_nil))))))))))
  (pss_one (ps_ret pe_bl)))), ?_⟩
    have hT0 : Tabs (rightT T.P_l_is_right) H := Tabs.nil fun p hp => by rw [List.mem_singleton.mp hp]; exact hP
    refine ⟨_, rfl, a, sc, rfl, hS, hl, fun d H1 k1 => ?_⟩
    refine ⟨3, rfl, by decide, by decide, ?_⟩
    refine for_range (lo := 0) (n := 3) (fun i σ' H' => ∃ (y2 y3 y4 y5 y6 y7 : Option V) (G : Hp), σ' = [some (.ref a), some (.ref d), y2, y3, y4, y5, y6, y7, none, none] ∧ NT G ∧ Dk G d H' ∧ Tabs (rightT T.P_l_is_right) H') ⟨none, none, none, none, none, none, nt H, rfl, nt_NT H, k1.nt, hT0.ext k1.ex⟩ ?_ ?_
    · rintro i σ' H2 hi ⟨y2, y3, y4, y5, y6, y7, G, rfl, nG, k, hT⟩
      obtain ⟨Gf, eF, kF, TF⟩ := k.full hT
      refine ⟨_, rfl, Gf, d, rfl, kF, fun ac cs Gj H3 e3 k3 hac hcl hcv => ?_⟩
      have T3 := (TF.ext e3).ext k3.ex
      have k3' := k3.nt
      have hac' : nt Gj ac = some (.tup (iV cs)) := nt_at hac fun _ z => by cases z
      have n3 := nt_NT Gj
      generalize nt Gj = G3 at k3' hac' n3
      clear k3 hac e3 TF kF eF
      obtain ⟨hs, hhs⟩ : ∃ hs, hs = mvL (-1) (1 :: cs) := ⟨_, rfl⟩
      have R : Row cs hs := ⟨hhs, hcl, fun z hz => (hcv z hz).1, fun z hz => (hcv z hz).2⟩
      have cy := counts_yes hcl R.pos
      have hac3 := k3'.get hac'
      have okc : Okd (.tuple (cs.map .int)) := okd_ints (by omega) fun z hz => pow_lt (R.small z hz) (by decide)
      refine ⟨_, rfl, .ref ac, .tuple (cs.map .int), rfl, .tup hac3 (DxA.ints cs), okc, fun _ ah H4 nh e4 hah => ?_, fun hb => by rw [cy] at hb; cases hb⟩
      rw [vals_ints, ← hhs] at hah
      have k4 := k3'.grow nh e4 hah
      have e34 : Ex G3 (upd G3 ah (.tup (iV hs))) := k3'.gex nh
      have gh : upd G3 ah (.tup (iV hs)) ah = some (.tup (iV hs)) := upd_same
      have n4 : NT (upd G3 ah (.tup (iV hs))) := fun b o h ps z => by
        subst z
        by_cases hb : b = ah
        · subst hb
          rw [upd_same] at h
          cases h
        · rw [upd_ne hb] at h
          exact n3 b _ h ps rfl
      have gc := e34 _ _ hac'
      generalize upd G3 ah (.tup (iV hs)) = G4 at k4 gh n4 gc
      have T4 := T3.ext e4
      have hhl := R.hlen
      have shs : ShL (hs.map PyData.int) 0 18 := by
        have z := ShL.ints hs fun z hz => pow_lt (R.hsmall z hz) (by decide)
        exact ⟨z.sh, z.leaf, z.dep, Nat.le_trans z.bulk (by omega)⟩
      have scs : ShL (cs.map PyData.int) 0 18 := by
        have z := ShL.ints cs fun z hz => pow_lt (R.small z hz) (by decide)
        exact ⟨z.sh, z.leaf, z.dep, Nat.le_trans z.bulk (by omega)⟩
      -- repr(told) != repr(_law_h(counts)) or ..
      refine ⟨_, rfl, ?_⟩
      refine r_nil ?_
      dsimp only
      refine r_reprS (k4.get gh) (DxA.ints hs) shs (by decide) (by decide) ?_
      refine ⟨_, rfl, ac, cs, rfl, k4.get gc, hcl, fun i => get_small (b := 300) (by decide) (fun z hz => pow_lt (R.small z hz) (by decide)) (i + 1), fun l5 H5 nl5 e5 hl5 => ?_⟩
      rw [← hhs] at hl5
      refine r_nil ?_
      dsimp only
      refine r_reprS hl5 (DxA.ints hs) shs (by decide) (by decide) ?_
      refine ⟨rfl, _, rfl, ite_no (by rw [decide_eq_true rfl]; rfl) ?_⟩
      have gh5 := e5 _ _ (k4.get gh)
      have gc5 := e5 _ _ (k4.get gc)
      have h0 : (iV hs)[0]? = some (.int 1) := by rw [iV_ix (by omega), R.first]
      refine ⟨_, rfl, ah, _, ((0 : Nat) : Int), _, rfl, rfl, SqT.of gh5, atI_nat h0, rfl, _, rfl, ite_no (by rw [decide_eq_true rfl]; rfl) ?_⟩
      refine ⟨_, rfl, ah, hs, rfl, gh5, by show 1 ≤ sizeLine; decide, fun c nc => ?_⟩
      have e6 : Ex H5 (upd H5 c (.tup [.int 1])) := Ex.new nc
      refine ⟨_, rfl, c, ac, _, _, rfl, rfl, upd_same, e6 _ _ gc5, ?_, fun p H7 cm => ?_⟩
      · rw [iV_len]
        exact Nat.le_trans (show [V.int 1].length + cs.length ≤ 18 by show 1 + cs.length ≤ 18; omega) (by decide)
      have hp7 : H7 p = some (.tup (iV (1 :: cs))) := cm.at
      have hlast : (iV (1 :: cs))[cs.length]? = some (.int hs.sum) := by rw [iV_ix (by rw [List.length_cons]; omega), R.sum]
      refine ⟨1, rfl, p, _, _, .int hs.sum, rfl, rfl, SqT.of hp7, atI_end (n := cs.length) (by rw [iV_len, List.length_cons]) hlast, rfl, _, rfl, ?_⟩
      rw [decide_eq_true rfl]
      refine iteF ?_
      dsimp only [tNext]
      have e7 := e5.trans (e6.trans cm.ex)
      have k7 := k4.more e7
      have T7 := T4.ext e7
      clear hp7 cm e6 nc nl5 hl5 gh5 gc5 e7 e5
      -- euler
      refine r_seq (r_set (r_op (r_cb (r_arg ?_))))
      refine el_lcE (K := K) (k7.get gc) (fun H8 e8 Q8 q8 => ⟨_, rfl, q8 H8 (Ex.refl H8)⟩) (fun _ => true) (fun j => .int (sgn j (cs.getD j 0))) (by rw [iV_len]; omega) ?_ H7 (Ex.refl H7) _ ?_
      · intro j x TT H8 e8 hx hTT
        obtain ⟨rfl, hj⟩ := iV_at hx
        refine ⟨[some (.ref a), some (.ref d), some (.int (0 + (i : Int))), some (.ref ac), some (.ref ah), y5, y6, y7, some (.int (j : Int)), some (.int (cs.getD j 0))], fun k hk => two_get (K := K) (i := 8) (j := 9) hTT hk, rfl, et_yes, fun _ => ?_⟩
        intro H9 e9 Q9 q9
        refine ⟨_, rfl, .inl ⟨_, rfl, _, _, rfl, rfl, by simp, rfl, _, rfl, ?_⟩⟩
        have ef : ((j : Int)).fmod 2 = ((j % 2 : Nat) : Int) := by
          rw [Int.fmod_eq_emod_of_nonneg _ (by decide)]
          omega
        by_cases ep : j % 2 = 0
        · refine ite_yes (decide_eq_true (show V.int (((j : Int)).fmod 2) = V.int 0 by rw [ef, ep]; rfl)) ⟨_, rfl, ?_⟩
          have e : sgn j (cs.getD j 0) = cs.getD j 0 := if_pos ep
          rw [e] at q9
          exact q9 H9 (Ex.refl H9)
        · refine ite_no (decide_eq_false fun z => ?_) ⟨_, rfl, _, rfl, ?_⟩
          · have z' : V.int (((j : Int)).fmod 2) = V.int 0 := z
            rw [ef, show j % 2 = 1 by omega] at z'
            cases z'
          · have e : sgn j (cs.getD j 0) = -cs.getD j 0 := if_neg ep
            rw [e] at q9
            exact q9 H9 (Ex.refl H9)
      intro p8 H8 np8 e8 hp8
      rw [given_rw, iV_len] at hp8
      refine ⟨p8, _, rfl, SqL.of hp8, _, _, rfl, rfl, ?_⟩
      rw [rw_sum]
      have k8 := k7.more e8
      have T8 := T7.ext e8
      clear hp8 np8
      have gc8 := k8.get gc
      have gh8 := k8.get gh
      have hl8 : (iV hs)[cs.length]? = some (.int (hs.getD cs.length 0)) := iV_ix (by omega)
      have hlen8 : (iV hs).length = cs.length + 1 := by rw [iV_len]; exact hhl
      generalize heu : sumN cs.length (fun j => sgn j (cs.getD j 0)) - 1 = eu
      have hlast := R.last
      rw [heu] at hlast
      dsimp only
      refine r_seq (r_if ?_)
      refine ev_tif (v := .int eu) (b := decide (cs.length % 2 = 1)) ?_ ?_ ?_ H8 (Ex.refl H8) _ ?_
      · intro H9 e9 Q9 q9
        refine ⟨_, rfl, ac, _, rfl, .inr (SqT.of (e9 _ _ gc8)), .inl ⟨_, rfl, _, _, rfl, rfl, by simp, rfl, _, rfl, ?_⟩⟩
        have ef : (((iV cs).length : Int)).fmod 2 = ((cs.length % 2 : Nat) : Int) := by
          rw [iV_len, Int.fmod_eq_emod_of_nonneg _ (by decide)]
          omega
        have e : decide (V.int ((((iV cs).length : Nat) : Int).fmod 2) = V.int 1) = decide (cs.length % 2 = 1) := by
          refine decide_eq_decide.mpr ⟨fun z => ?_, fun z => ?_⟩
          · rw [ef] at z
            have z' := V.int.inj z
            omega
          · rw [ef, z]
            rfl
        have q10 := q9 H9 (Ex.refl H9)
        rw [← e] at q10
        exact q10
      · intro hb H9 e9 Q9 q9
        rw [if_pos (of_decide_eq_true hb)] at hlast
        refine ⟨_, rfl, 1, rfl, ah, _, _, _, rfl, rfl, SqT.of (e9 _ _ gh8), atI_end hlen8 hl8, ?_⟩
        rw [hlast]
        exact q9 H9 (Ex.refl H9)
      · intro hb H9 e9 Q9 q9
        rw [if_neg (of_decide_eq_false hb)] at hlast
        refine ⟨_, rfl, 1, rfl, ah, _, _, _, rfl, rfl, SqT.of (e9 _ _ gh8), atI_end hlen8 hl8, _, rfl, ?_⟩
        exact q_int (Q := Q9) hlast (q9 H9 (Ex.refl H9))
      intro H9 e9
      refine ⟨_, rfl, rfl, _, rfl, ite_no (by rw [heu, decide_eq_true rfl]; rfl) ?_⟩
      have gh9 := e9 _ _ gh8
      have gc9 := e9 _ _ gc8
      have okh : Okd (.tuple (hs.map .int)) := okd_ints (by omega) fun z hz => pow_lt (R.hsmall z hz) (by decide)
      refine ⟨_, rfl, .ref ah, .tuple (hs.map .int), rfl, .tup gh9 (DxA.ints hs), okh, fun _ l10 H10 nl10 e10 hl10 => ?_, fun hb => by rw [R.isRow] at hb; cases hb⟩
      rw [vals_ints, R.back] at hl10
      refine r_nil ?_
      dsimp only
      refine r_reprS (ds := cs.map .int) hl10 (DxA.ints cs) scs (by decide) (by decide) ?_
      refine ⟨_, rfl, ?_⟩
      refine r_nil ?_
      dsimp only
      refine r_reprS (e10 _ _ gc9) (DxA.ints cs) scs (by decide) (by decide) ?_
      refine ⟨rfl, _, rfl, ?_⟩
      rw [decide_eq_true rfl]
      refine iteF ?_
      dsimp only [tNext]
      have k10 := k8.more (e9.trans e10)
      have T10 := T8.ext (e9.trans e10)
      clear hl10 nl10 gh9 gc9 gh8 gc8
      -- row
      obtain ⟨Gf, eF, kF, TF⟩ := k10.full T10
      refine ⟨_, rfl, _, rfl, Gf, d, ah, hs, rfl, kF, eF _ _ gh, by omega, by omega, R.hsmall, fun ar ms Gj H11 e11 k11 har hm1 hm17 hmz => ?_⟩
      have T11 := (TF.ext e11).ext k11.ex
      have toN : ∀ b o, G4 b = some o → (∀ ps, o ≠ .tbl ps) → nt Gj b = some o := fun b o h n => nt_at (e11 _ _ (eF _ _ h)) n
      have gc11 := toN _ _ gc (fun _ z => by cases z)
      have gh11 := toN _ _ gh (fun _ z => by cases z)
      have gr11 : nt Gj ar = some (.tup (iV ms)) := nt_at har fun _ z => by cases z
      have k11' := k11.nt
      have n11 := nt_NT Gj
      generalize nt Gj = G11 at k11' gc11 gh11 gr11 n11
      clear toN TF kF eF k11 e11 har k10 T10 k8 T8 k7 T7 k4 T4 k3' n4 n3 gc gh hac' hac3
      -- for thing in ..
      have hz250 : ∀ z ∈ cs, z.natAbs < 2 ^ 250 := fun z hz => pow_lt (R.small z hz) (by decide)
      have hz250' : ∀ z ∈ hs, z.natAbs < 2 ^ 250 := fun z hz => pow_lt (R.hsmall z hz) (by decide)
      obtain ⟨Gf, eF, kF, TF⟩ := k11'.full T11
      refine ⟨_, rfl, _, rfl, _, rfl, _, rfl, _, rfl, Gf, d, ac, cs, rfl, kF, eF _ _ gc11, by omega, hz250, fun v1 Gj1 H12 e12 k12 o12 => ?_⟩
      have T12 := (TF.ext e12).ext k12.ex
      have w12 : ExtN Gj1 (nt Gj1) := fun b o h n => nt_at h n
      have u12 : ExtN G11 (nt Gj1) := fun b o h n => nt_at (e12 _ _ (eF _ _ h)) n
      have o1 : OKV (nt Gj1) v1 10 300 := o12.moreN w12
      have gc12 := tupN u12 gc11
      have gh12 := tupN u12 gh11
      have gr12 := tupN u12 gr11
      have k12' := k12.nt
      generalize nt Gj1 = G12 at k12' gc12 gh12 gr12 o1
      clear k12 o12 e12 TF kF eF w12 u12 Gf
      obtain ⟨Gf, eF, kF, TF⟩ := k12'.full T12
      refine ⟨_, rfl, _, rfl, Gf, d, ah, hs, rfl, kF, eF _ _ gh12, by omega, hz250', fun v2 Gj2 H13 e13 k13 o13 => ?_⟩
      have T13 := (TF.ext e13).ext k13.ex
      have w13 : ExtN Gj2 (nt Gj2) := fun b o h n => nt_at h n
      have u13 : ExtN G12 (nt Gj2) := fun b o h n => nt_at (e13 _ _ (eF _ _ h)) n
      have o2 : OKV (nt Gj2) v2 10 300 := o13.moreN w13
      have o1' : OKV (nt Gj2) v1 10 300 := o1.moreN u13
      have gc13 := tupN u13 gc12
      have gh13 := tupN u13 gh12
      have gr13 := tupN u13 gr12
      have k13' := k13.nt
      have n13 := nt_NT Gj2
      generalize nt Gj2 = G13 at k13' gc13 gh13 gr13 o1' o2 n13
      clear k13 o13 e13 TF kF eF w13 u13 Gf k12' T12 T11 k11'
      have vi : ∀ {ns : List Int} {b : Addr}, G13 b = some (.tup (iV ns)) → ns.length ≤ 17 → (∀ z ∈ ns, z.natAbs < 2 ^ 250) → OKV G13 (.ref b) 10 300 := fun {ns b} h hl hz => (OKV.tup (p := 0) h (DxA.ints ns) (valInts hz) (by rw [List.length_map]; omega)).up (by decide) (by omega)
      have all5 : ∀ x ∈ [V.ref ac, .ref ah, .ref ar, v1, v2], OKV G13 x 10 300 := by
        intro x hx
        simp only [List.mem_cons, List.not_mem_nil, or_false] at hx
        rcases hx with rfl | rfl | rfl | rfl | rfl
        · exact vi gc13 (by omega) hz250
        · exact vi gh13 (by omega) hz250'
        · exact vi gr13 hm17 hmz
        · exact o1'
        · exact o2
      refine ⟨by show 5 ≤ sizeLine; decide, fun t ht => ?_⟩
      have k14 := k13'.made (o := .tup [V.ref ac, .ref ah, .ref ar, v1, v2]) ht
      have e14 := k13'.gex (o := .tup [V.ref ac, .ref ah, .ref ar, v1, v2]) ht
      have g14 : upd G13 t (.tup [V.ref ac, .ref ah, .ref ar, v1, v2]) t = some (.tup [V.ref ac, .ref ah, .ref ar, v1, v2]) := upd_same
      have n14 : NT (upd G13 t (.tup [V.ref ac, .ref ah, .ref ar, v1, v2])) := fun b o h ps z => by
        subst z
        by_cases hb : b = t
        · subst hb
          rw [upd_same] at h
          cases h
        · rw [upd_ne hb] at h
          exact n13 b _ h ps rfl
      have T14 := T13.ext (Ex.new (o := .tup [V.ref ac, .ref ah, .ref ar, v1, v2]) ht)
      refine ⟨t, rfl, ⟨_, SqT.of upd_same⟩, ?_⟩
      generalize upd G13 t (.tup [V.ref ac, .ref ah, .ref ar, v1, v2]) = G14 at k14 e14 g14 n14
      refine for_tup (a := t) (xs := [V.ref ac, .ref ah, .ref ar, v1, v2]) (fun j σ' H' => ∃ y7, σ' = [some (.ref a), some (.ref d), some (.int (0 + (i : Int))), some (.ref ac), some (.ref ah), some (.int (sumN cs.length (fun j => sgn j (cs.getD j 0)) - 1)), some (.ref ar), y7, none, none] ∧ Dk G14 d H' ∧ Tabs (rightT T.P_l_is_right) H') ⟨_, rfl, k14, T14⟩ ?_ ?_ ?_
      · rintro j σ' H' _ ⟨y7, rfl, kk, TT⟩
        exact SqT.of (kk.get g14)
      · rintro j x σ' H' hx ⟨y7, rfl, kk, TT⟩
        have ox := (all5 x (List.mem_of_getElem? hx)).more (e14.trans kk.ex)
        refine ⟨_, rfl, x, rfl, TT, ox, fun H'' eN TT' => ⟨_, rfl, ?_⟩⟩
        refine iteF ?_
        dsimp only [tNext]
        exact ⟨some x, rfl, kk.moreN n14 eN, TT'⟩
      · rintro σ' H15 ⟨y7', rfl, k15, T15⟩
        have gr14 := e14 _ _ gr13
        have gr15 := k15.get gr14
        have okm : Okd (.tuple (ms.map .int)) := okd_ints (by omega) fun z hz => pow_lt (hmz z hz) (by decide)
        refine ⟨_, rfl, .ref ar, .tuple (ms.map .int), rfl, .tup gr15 (DxA.ints ms), okm, fun H16 e16 => ⟨_, rfl, ?_⟩⟩
        have k16 := k15.more e16
        have T16 := T15.ext e16
        cases hb : rowB (.tuple (ms.map .int)) with
        | false =>
          refine iteF ?_
          dsimp only [tNext]
          exact ⟨_, _, _, _, _, _, G14, rfl, n14, k16, T16⟩
        | true =>
          refine iteT ?_
          obtain ⟨b1, b2, b3⟩ := row_back hb
          have bz : ∀ z ∈ (mvL 1 ms).drop 1, z.natAbs < 2 ^ 300 := by
            intro z hz
            obtain ⟨j, hj, rfl⟩ := List.mem_map.mp (List.mem_of_mem_drop hz)
            have hj' := List.mem_range.mp hj
            refine pow_lt (mvA_abs (.inl rfl) (b := 250) (by omega) (by omega) fun i _ => ?_) (by decide)
            show (ms.getD i 0).natAbs < _
            rw [List.getD_eq_getElem?_getD]
            cases e : ms[i]? with
            | none => show (0 : Int).natAbs < _; decide
            | some x => exact hmz x (List.mem_of_getElem? e)
          refine ⟨_, rfl, .ref ar, .tuple (ms.map .int), rfl, .tup (e16 _ _ gr15) (DxA.ints ms), okm, fun _ l17 H17 nl17 e17 hl17 => ?_, fun hb' => by rw [hb] at hb'; cases hb'⟩
          rw [vals_ints] at hl17
          refine ⟨.ref l17, .tuple (((mvL 1 ms).drop 1).map .int), rfl, .tup hl17 (DxA.ints _), okd_ints (by omega) bz, fun _ l18 H18 nl18 e18 hl18 => ?_, fun hb' => by rw [counts_yes b3 b2] at hb'; cases hb'⟩
          rw [vals_ints, b1] at hl18
          have sms : ShL (ms.map PyData.int) 0 18 := by
            have z := ShL.ints ms fun z hz => pow_lt (hmz z hz) (by decide)
            exact ⟨z.sh, z.leaf, z.dep, Nat.le_trans z.bulk (by omega)⟩
          refine r_nil ?_
          dsimp only
          refine r_reprS hl18 (DxA.ints ms) sms (by decide) (by decide) ?_
          refine ⟨_, rfl, ?_⟩
          refine r_nil ?_
          dsimp only
          refine r_reprS (e18 _ _ (e17 _ _ (e16 _ _ gr15))) (DxA.ints ms) sms (by decide) (by decide) ?_
          refine ⟨rfl, _, rfl, ?_⟩
          rw [decide_eq_true rfl]
          refine iteF ?_
          dsimp only [tNext]
          exact ⟨_, _, _, _, _, _, G14, rfl, n14, k16.more (e17.trans e18), T16.ext (e17.trans e18)⟩
    · rintro σ' H2 ⟨y2, y3, y4, y5, y6, y7, G, rfl, nG, k, hT⟩
      exact q H2
end
end K47

namespace K47
open PySem PySem.Spec PyProof.Rows L2 Hr HrM Evl HrE_thing LamX RZ PySem.W
theorem all_mk {l : PySem.W.OpenLaw} {pq : Program} {lo : List Str} {me : ExcName → Option Value} {w : World} {K : PySem.W.Frag} {h : Heap} {mg mb : Str → Option Value} {fa : Addr} (X : K.In h) (Tp : Top pq lo me mg mb h) (hfa : mg "law" = some (.ref fa))
    {f0 : Addr} {od0 an0 : Option Addr} {sl0 : Array (Option Value)} {oc0 kV0 dc0 pm0 cd0 ct0 : Value}
    {f1 : Addr} {od1 an1 : Option Addr} {sl1 : Array (Option Value)} {oc1 kV1 dc1 pm1 cd1 ct1 : Value}
    {f2 : Addr} {od2 an2 : Option Addr} {sl2 : Array (Option Value)} {oc2 kV2 dc2 pm2 cd2 ct2 : Value}
    {f3 : Addr} {od3 an3 : Option Addr} {sl3 : Array (Option Value)} {oc3 kV3 dc3 pm3 cd3 ct3 : Value}
    {f4 : Addr} {od4 an4 : Option Addr} {sl4 : Array (Option Value)} {oc4 kV4 dc4 pm4 cd4 ct4 : Value}
    {f5 : Addr} {od5 an5 : Option Addr} {sl5 : Array (Option Value)} {oc5 kV5 dc5 pm5 cd5 ct5 : Value}
    {f6 : Addr} {od6 an6 : Option Addr} {sl6 : Array (Option Value)} {oc6 kV6 dc6 pm6 cd6 ct6 : Value}
    {f7 : Addr} {od7 an7 : Option Addr} {sl7 : Array (Option Value)} {oc7 kV7 dc7 pm7 cd7 ct7 : Value}
    {f8 : Addr} {od8 an8 : Option Addr} {sl8 : Array (Option Value)} {oc8 kV8 dc8 pm8 cd8 ct8 : Value}
    {f9 : Addr} {od9 an9 : Option Addr} {sl9 : Array (Option Value)} {oc9 kV9 dc9 pm9 cd9 ct9 : Value}
    {f10 : Addr} {od10 an10 : Option Addr} {sl10 : Array (Option Value)} {oc10 kV10 dc10 pm10 cd10 ct10 : Value}
    {f11 : Addr} {od11 an11 : Option Addr} {sl11 : Array (Option Value)} {oc11 kV11 dc11 pm11 cd11 ct11 : Value}
    {f12 : Addr} {od12 an12 : Option Addr} {sl12 : Array (Option Value)} {oc12 kV12 dc12 pm12 cd12 ct12 : Value}
    {f13 : Addr} {od13 an13 : Option Addr} {sl13 : Array (Option Value)} {oc13 kV13 dc13 pm13 cd13 ct13 : Value}
    {f14 : Addr} {od14 an14 : Option Addr} {sl14 : Array (Option Value)} {oc14 kV14 dc14 pm14 cd14 ct14 : Value}
    {f15 : Addr} {od15 an15 : Option Addr} {sl15 : Array (Option Value)} {oc15 kV15 dc15 pm15 cd15 ct15 : Value}
    {f16 : Addr} {od16 an16 : Option Addr} {sl16 : Array (Option Value)} {oc16 kV16 dc16 pm16 cd16 ct16 : Value}
    {f17 : Addr} {od17 an17 : Option Addr} {sl17 : Array (Option Value)} {oc17 kV17 dc17 pm17 cd17 ct17 : Value}
    {f18 : Addr} {od18 an18 : Option Addr} {sl18 : Array (Option Value)} {oc18 kV18 dc18 pm18 cd18 ct18 : Value}
    {f19 : Addr} {od19 an19 : Option Addr} {sl19 : Array (Option Value)} {oc19 kV19 dc19 pm19 cd19 ct19 : Value}
    {f20 : Addr} {od20 an20 : Option Addr} {sl20 : Array (Option Value)} {oc20 kV20 dc20 pm20 cd20 ct20 : Value}
    {f21 : Addr} {od21 an21 : Option Addr} {sl21 : Array (Option Value)} {oc21 kV21 dc21 pm21 cd21 ct21 : Value}
    {f22 : Addr} {od22 an22 : Option Addr} {sl22 : Array (Option Value)} {oc22 kV22 dc22 pm22 cd22 ct22 : Value}
    {f23 : Addr} {od23 an23 : Option Addr} {sl23 : Array (Option Value)} {oc23 kV23 dc23 pm23 cd23 ct23 : Value}
    {f24 : Addr} {od24 an24 : Option Addr} {sl24 : Array (Option Value)} {oc24 kV24 dc24 pm24 cd24 ct24 : Value}
    {f25 : Addr} {od25 an25 : Option Addr} {sl25 : Array (Option Value)} {oc25 kV25 dc25 pm25 ct25 : Value}
    {lc0 P0 : Addr} {ob0 : Value} {oe0 : Option Addr} {vs0 : Array Value} {of0 : Array (Option Value)}
    {f26 : Addr} {od26 an26 : Option Addr} {sl26 : Array (Option Value)} {oc26 kV26 dc26 pm26 cd26 ct26 : Value}
    {tk0 : Tok}
    {CT : Addr}
    {X0 J0 : Addr} {xn0 xq0 : Str} {xN0 : Addr} {xb0 : List Value} {xs0 : List Str} {xu0 : List Value} {xa0 : Bool} {xc0 : Option Bool} {xd0 : Option Addr} {w0a w0b w0c w0d w0e : Option Value}
    {ro0 rd0 rp0 rc0 rt0 : Value} {re0 ra0 : Option Addr} {rs0 : Array (Option Value)} {g0a g0b g0c g0d g0e g0f : Pos}
    {X1 J1 : Addr} {xn1 xq1 : Str} {xN1 : Addr} {xb1 : List Value} {xs1 : List Str} {xu1 : List Value} {xa1 : Bool} {xc1 : Option Bool} {xd1 : Option Addr} {w1a w1b w1c w1d w1e : Option Value}
    {ro1 rd1 rp1 rc1 rt1 : Value} {re1 ra1 : Option Addr} {rs1 : Array (Option Value)} {g1a g1b g1c g1d g1e g1f : Pos}
    (a0 : PySem.W.nsIn K mainGlobals "is_integer" = some (some (.ref f0)))
    (l0 : K.lookup f0 = some ⟨oc0, od0, .func (PySem.W.fnOf "is_integer" "is_integer" (defArgs s_is_integer) (defBody s_is_integer) (defScope s_is_integer) .none kV0 dc0 pm0 an0 (cd0) ct0), sl0⟩)
    (c0 : PySem.W.codeIn K (cd0) "is_integer" = true)
    (k0 : PySem.W.keepIn K (.ref f0) = true)
    (a1 : PySem.W.nsIn K mainGlobals "is_integer_from" = some (some (.ref f1)))
    (l1 : K.lookup f1 = some ⟨oc1, od1, .func (PySem.W.fnOf "is_integer_from" "is_integer_from" (defArgs s_is_integer_from) (defBody s_is_integer_from) (defScope s_is_integer_from) .none kV1 dc1 pm1 an1 (cd1) ct1), sl1⟩)
    (c1 : PySem.W.codeIn K (cd1) "is_integer_from" = true)
    (k1 : PySem.W.keepIn K (.ref f1) = true)
    (a2 : PySem.W.nsIn K mainGlobals "are_integers_from" = some (some (.ref f2)))
    (l2 : K.lookup f2 = some ⟨oc2, od2, .func (PySem.W.fnOf "are_integers_from" "are_integers_from" (defArgs s_are_integers_from) (defBody s_are_integers_from) (defScope s_are_integers_from) .none kV2 dc2 pm2 an2 (cd2) ct2), sl2⟩)
    (c2 : PySem.W.codeIn K (cd2) "are_integers_from" = true)
    (k2 : PySem.W.keepIn K (.ref f2) = true)
    (a3 : PySem.W.nsIn K mainGlobals "is_just" = some (some (.ref f3)))
    (l3 : K.lookup f3 = some ⟨oc3, od3, .func (PySem.W.fnOf "is_just" "is_just" (defArgs s_is_just) (defBody s_is_just) (defScope s_is_just) .none kV3 dc3 pm3 an3 (cd3) ct3), sl3⟩)
    (c3 : PySem.W.codeIn K (cd3) "is_just" = true)
    (k3 : PySem.W.keepIn K (.ref f3) = true)
    (a4 : PySem.W.nsIn K mainGlobals "is_counts" = some (some (.ref f4)))
    (l4 : K.lookup f4 = some ⟨oc4, od4, .func (PySem.W.fnOf "is_counts" "is_counts" (defArgs s_is_counts) (defBody s_is_counts) (defScope s_is_counts) .none kV4 dc4 pm4 an4 (cd4) ct4), sl4⟩)
    (c4 : PySem.W.codeIn K (cd4) "is_counts" = true)
    (k4 : PySem.W.keepIn K (.ref f4) = true)
    (a5 : PySem.W.nsIn K mainGlobals "check_counts" = some (some (.ref f5)))
    (l5 : K.lookup f5 = some ⟨oc5, od5, .func (PySem.W.fnOf "check_counts" "check_counts" (defArgs s_check_counts) (defBody s_check_counts) (defScope s_check_counts) .none kV5 dc5 pm5 an5 (cd5) ct5), sl5⟩)
    (c5 : PySem.W.codeIn K (cd5) "check_counts" = true)
    (k5 : PySem.W.keepIn K (.ref f5) = true)
    (a6 : PySem.W.nsIn K mainGlobals "h_row" = some (some (.ref f6)))
    (l6 : K.lookup f6 = some ⟨oc6, od6, .func (PySem.W.fnOf "h_row" "h_row" (defArgs s_h_row) (defBody s_h_row) (defScope s_h_row) .none kV6 dc6 pm6 an6 (cd6) ct6), sl6⟩)
    (c6 : PySem.W.codeIn K (cd6) "h_row" = true)
    (k6 : PySem.W.keepIn K (.ref f6) = true)
    (a7 : PySem.W.nsIn K mainGlobals "counts_of_h" = some (some (.ref f7)))
    (l7 : K.lookup f7 = some ⟨oc7, od7, .func (PySem.W.fnOf "counts_of_h" "counts_of_h" (defArgs s_counts_of_h) (defBody s_counts_of_h) (defScope s_counts_of_h) .none kV7 dc7 pm7 an7 (cd7) ct7), sl7⟩)
    (c7 : PySem.W.codeIn K (cd7) "counts_of_h" = true)
    (k7 : PySem.W.keepIn K (.ref f7) = true)
    (a8 : PySem.W.nsIn K mainGlobals "begins_with_1" = some (some (.ref f8)))
    (l8 : K.lookup f8 = some ⟨oc8, od8, .func (PySem.W.fnOf "begins_with_1" "begins_with_1" (defArgs s_begins_with_1) (defBody s_begins_with_1) (defScope s_begins_with_1) .none kV8 dc8 pm8 an8 (cd8) ct8), sl8⟩)
    (c8 : PySem.W.codeIn K (cd8) "begins_with_1" = true)
    (k8 : PySem.W.keepIn K (.ref f8) = true)
    (a9 : PySem.W.nsIn K mainGlobals "moved_row" = some (some (.ref f9)))
    (l9 : K.lookup f9 = some ⟨oc9, od9, .func (PySem.W.fnOf "moved_row" "moved_row" (defArgs s_moved_row) (defBody s_moved_row) (defScope s_moved_row) .none kV9 dc9 pm9 an9 (cd9) ct9), sl9⟩)
    (c9 : PySem.W.codeIn K (cd9) "moved_row" = true)
    (k9 : PySem.W.keepIn K (.ref f9) = true)
    (a10 : PySem.W.nsIn K mainGlobals "_law_deck" = some (some (.ref f10)))
    (l10 : K.lookup f10 = some ⟨oc10, od10, .func (PySem.W.fnOf "_law_deck" "_law_deck" (defArgs s_l_deck) (defBody s_l_deck) (defScope s_l_deck) .none kV10 dc10 pm10 an10 (cd10) ct10), sl10⟩)
    (c10 : PySem.W.codeIn K (cd10) "_law_deck" = true)
    (k10 : PySem.W.keepIn K (.ref f10) = true)
    (a11 : PySem.W.nsIn K mainGlobals "_law_draw" = some (some (.ref f11)))
    (l11 : K.lookup f11 = some ⟨oc11, od11, .func (PySem.W.fnOf "_law_draw" "_law_draw" (defArgs s_l_draw) (defBody s_l_draw) (defScope s_l_draw) .none kV11 dc11 pm11 an11 (cd11) ct11), sl11⟩)
    (c11 : PySem.W.codeIn K (cd11) "_law_draw" = true)
    (k11 : PySem.W.keepIn K (.ref f11) = true)
    (a12 : PySem.W.nsIn K mainGlobals "_law_pick" = some (some (.ref f12)))
    (l12 : K.lookup f12 = some ⟨oc12, od12, .func (PySem.W.fnOf "_law_pick" "_law_pick" (defArgs s_l_pick) (defBody s_l_pick) (defScope s_l_pick) .none kV12 dc12 pm12 an12 (cd12) ct12), sl12⟩)
    (c12 : PySem.W.codeIn K (cd12) "_law_pick" = true)
    (k12 : PySem.W.keepIn K (.ref f12) = true)
    (a13 : PySem.W.nsIn K mainGlobals "_law_any" = some (some (.ref f13)))
    (l13 : K.lookup f13 = some ⟨oc13, od13, .func (PySem.W.fnOf "_law_any" "_law_any" (defArgs s_l_any) (defBody s_l_any) (defScope s_l_any) .none kV13 dc13 pm13 an13 (cd13) ct13), sl13⟩)
    (c13 : PySem.W.codeIn K (cd13) "_law_any" = true)
    (k13 : PySem.W.keepIn K (.ref f13) = true)
    (a14 : PySem.W.nsIn K mainGlobals "_law_ways" = some (some (.ref f14)))
    (l14 : K.lookup f14 = some ⟨oc14, od14, .func (PySem.W.fnOf "_law_ways" "_law_ways" (defArgs s_l_ways) (defBody s_l_ways) (defScope s_l_ways) .none kV14 dc14 pm14 an14 (cd14) ct14), sl14⟩)
    (c14 : PySem.W.codeIn K (cd14) "_law_ways" = true)
    (k14 : PySem.W.keepIn K (.ref f14) = true)
    (a15 : PySem.W.nsIn K mainGlobals "_law_h" = some (some (.ref f15)))
    (l15 : K.lookup f15 = some ⟨oc15, od15, .func (PySem.W.fnOf "_law_h" "_law_h" (defArgs s_l_h) (defBody s_l_h) (defScope s_l_h) .none kV15 dc15 pm15 an15 (cd15) ct15), sl15⟩)
    (c15 : PySem.W.codeIn K (cd15) "_law_h" = true)
    (k15 : PySem.W.keepIn K (.ref f15) = true)
    (a16 : PySem.W.nsIn K mainGlobals "_law_counts_of" = some (some (.ref f16)))
    (l16 : K.lookup f16 = some ⟨oc16, od16, .func (PySem.W.fnOf "_law_counts_of" "_law_counts_of" (defArgs s_l_counts_of) (defBody s_l_counts_of) (defScope s_l_counts_of) .none kV16 dc16 pm16 an16 (cd16) ct16), sl16⟩)
    (c16 : PySem.W.codeIn K (cd16) "_law_counts_of" = true)
    (k16 : PySem.W.keepIn K (.ref f16) = true)
    (a17 : PySem.W.nsIn K mainGlobals "_law_are_ints" = some (some (.ref f17)))
    (l17 : K.lookup f17 = some ⟨oc17, od17, .func (PySem.W.fnOf "_law_are_ints" "_law_are_ints" (defArgs s_l_are_ints) (defBody s_l_are_ints) (defScope s_l_are_ints) .none kV17 dc17 pm17 an17 (cd17) ct17), sl17⟩)
    (c17 : PySem.W.codeIn K (cd17) "_law_are_ints" = true)
    (k17 : PySem.W.keepIn K (.ref f17) = true)
    (a18 : PySem.W.nsIn K mainGlobals "_law_is_counts" = some (some (.ref f18)))
    (l18 : K.lookup f18 = some ⟨oc18, od18, .func (PySem.W.fnOf "_law_is_counts" "_law_is_counts" (defArgs s_l_is_counts) (defBody s_l_is_counts) (defScope s_l_is_counts) .none kV18 dc18 pm18 an18 (cd18) ct18), sl18⟩)
    (c18 : PySem.W.codeIn K (cd18) "_law_is_counts" = true)
    (k18 : PySem.W.keepIn K (.ref f18) = true)
    (a19 : PySem.W.nsIn K mainGlobals "_law_is_h" = some (some (.ref f19)))
    (l19 : K.lookup f19 = some ⟨oc19, od19, .func (PySem.W.fnOf "_law_is_h" "_law_is_h" (defArgs s_l_is_h) (defBody s_l_is_h) (defScope s_l_is_h) .none kV19 dc19 pm19 an19 (cd19) ct19), sl19⟩)
    (c19 : PySem.W.codeIn K (cd19) "_law_is_h" = true)
    (k19 : PySem.W.keepIn K (.ref f19) = true)
    (a20 : PySem.W.nsIn K mainGlobals "_law_below" = some (some (.ref f20)))
    (l20 : K.lookup f20 = some ⟨oc20, od20, .func (PySem.W.fnOf "_law_below" "_law_below" (defArgs s_l_below) (defBody s_l_below) (defScope s_l_below) .none kV20 dc20 pm20 an20 (cd20) ct20), sl20⟩)
    (c20 : PySem.W.codeIn K (cd20) "_law_below" = true)
    (k20 : PySem.W.keepIn K (.ref f20) = true)
    (a21 : PySem.W.nsIn K mainGlobals "_law_drawn_counts" = some (some (.ref f21)))
    (l21 : K.lookup f21 = some ⟨oc21, od21, .func (PySem.W.fnOf "_law_drawn_counts" "_law_drawn_counts" (defArgs s_l_drawn_counts) (defBody s_l_drawn_counts) (defScope s_l_drawn_counts) .none kV21 dc21 pm21 an21 (cd21) ct21), sl21⟩)
    (c21 : PySem.W.codeIn K (cd21) "_law_drawn_counts" = true)
    (k21 : PySem.W.keepIn K (.ref f21) = true)
    (a22 : PySem.W.nsIn K mainGlobals "_law_drawn_row" = some (some (.ref f22)))
    (l22 : K.lookup f22 = some ⟨oc22, od22, .func (PySem.W.fnOf "_law_drawn_row" "_law_drawn_row" (defArgs s_l_drawn_row) (defBody s_l_drawn_row) (defScope s_l_drawn_row) .none kV22 dc22 pm22 an22 (cd22) ct22), sl22⟩)
    (c22 : PySem.W.codeIn K (cd22) "_law_drawn_row" = true)
    (k22 : PySem.W.keepIn K (.ref f22) = true)
    (a23 : PySem.W.nsIn K mainGlobals "_law_strange" = some (some (.ref f23)))
    (l23 : K.lookup f23 = some ⟨oc23, od23, .func (PySem.W.fnOf "_law_strange" "_law_strange" (defArgs s_l_strange) (defBody s_l_strange) (defScope s_l_strange) .none kV23 dc23 pm23 an23 (cd23) ct23), sl23⟩)
    (c23 : PySem.W.codeIn K (cd23) "_law_strange" = true)
    (k23 : PySem.W.keepIn K (.ref f23) = true)
    (a24 : PySem.W.nsIn K mainGlobals "_law_told" = some (some (.ref f24)))
    (l24 : K.lookup f24 = some ⟨oc24, od24, .func (PySem.W.fnOf "_law_told" "_law_told" (defArgs s_l_told) (defBody s_l_told) (defScope s_l_told) .none kV24 dc24 pm24 an24 (cd24) ct24), sl24⟩)
    (c24 : PySem.W.codeIn K (cd24) "_law_told" = true)
    (k24 : PySem.W.keepIn K (.ref f24) = true)
    (a25 : PySem.W.nsIn K mainGlobals "_law_is_right" = some (some (.ref f25)))
    (l25 : K.lookup f25 = some ⟨oc25, od25, .func (PySem.W.fnOf "_law_is_right" "_law_is_right" (defArgs s_l_is_right) (defBody s_l_is_right) (defScope s_l_is_right) .none kV25 dc25 pm25 an25 (.ref lc0) ct25), sl25⟩)
    (c25 : PySem.W.codeIn K (.ref lc0) "_law_is_right" = true)
    (k25 : PySem.W.keepIn K (.ref f25) = true)
    (lk0 : K.lookup lc0 = some ⟨ob0, oe0, .fields vs0, of0⟩)
    (hv0 : vs0[11]? = some (.ref P0))
    (np0 : K.lookup P0 = none)
    (ch0 : PySem.W.codeHdIn K lc0 P0 = true)
    (ht0 : h.get? P0 = some (PySem.W.tabObj #[]))
    (a26 : PySem.W.nsIn K mainGlobals "law" = some (some (.ref f26)))
    (l26 : K.lookup f26 = some ⟨oc26, od26, .func (PySem.W.fnOf "law" "law" (defArgs s_law) (defBody s_law) (defScope s_law) .none kV26 dc26 pm26 an26 (cd26) ct26), sl26⟩)
    (c26 : PySem.W.codeIn K (cd26) "law" = true)
    (k26 : PySem.W.keepIn K (.ref f26) = true)
    (y0 : PySem.W.nsIn K mainGlobals "MOST_COUNTS" = some (some (.int 16 tk0)))
    (z0 : PySem.W.nsIn K mainGlobals "all" = some none)
    (z1 : PySem.W.nsIn K mainGlobals "bool" = some none)
    (z2 : PySem.W.nsIn K mainGlobals "enumerate" = some none)
    (z3 : PySem.W.nsIn K mainGlobals "int" = some none)
    (z4 : PySem.W.nsIn K mainGlobals "isinstance" = some none)
    (z5 : PySem.W.nsIn K mainGlobals "len" = some none)
    (z6 : PySem.W.nsIn K mainGlobals "list" = some none)
    (z7 : PySem.W.nsIn K mainGlobals "max" = some none)
    (z8 : PySem.W.nsIn K mainGlobals "range" = some none)
    (z9 : PySem.W.nsIn K mainGlobals "repr" = some none)
    (z10 : PySem.W.nsIn K mainGlobals "str" = some none)
    (z11 : PySem.W.nsIn K mainGlobals "sum" = some none)
    (z12 : PySem.W.nsIn K mainGlobals "tuple" = some none)
    (z13 : PySem.W.nsIn K mainGlobals "zip" = some none)
    (zc : PySem.W.nsIn K mainGlobals "comb" = some (some (.builtin "math.comb")))
    (aT : PySem.W.nsIn K mainGlobals "CountError" = some (some (.ref CT)))
    (iT : PySem.W.isClsIn K CT = true)
    (tT : PySem.W.typeIn K (.ref CT) = some (.type "type"))
    (eT : PySem.W.subIn K (.ref CT) (.type "BaseException") = some true)
    (hT : PySem.W.hasDictIn K CT = true)
    (sT : PySem.W.subIn K (.ref CT) (.ref CT) = some true)
    (sg : PySem.W.specialIn K (.builtin "object.__class__") "__get__" = some (some (.builtin "getset_descriptor.__get__")))
    (tkk : PySem.W.takesIn K (.builtin "object.__class__") = some true)
    (xA0 : PySem.W.nsIn K mainGlobals "BadCounts" = some (some (.ref X0)))
    (xL0 : K.lookup X0 = some (excClassObj xn0 xq0 X0 xN0 xb0 [.ref CT, .type "Exception", .type "BaseException", .type "object"] true xs0 xu0 xa0 xc0 xd0 w0a w0b w0c w0d w0e "Exception.__new__"))
    (xsa0 : PySem.W.findIn K (.ref X0) "__setattr__" = some (some (.builtin "object.__setattr__")))
    (xga0 : PySem.W.findIn K (.ref X0) "__getattribute__" = some (some (.builtin "BaseException.__getattribute__")))
    (xgg0 : PySem.W.findIn K (.ref X0) "__getattr__" = some none)
    (xnb0 : PySem.W.findIn K (.ref X0) "thing" = some none)
    (xi0 : PySem.W.findIn K (.ref X0) "__init__" = some (some (.ref J0)))
    (xt0 : PySem.W.typeIn K (.ref J0) = some (.type "function"))
    (xl0 : K.lookup J0 = some ⟨ro0, re0, .func (PySem.W.fnOf "__init__" "BadCounts.__init__" (iA g0a g0b) (iB g0c g0d g0e g0f) iS .none .none rd0 rp0 ra0 rc0 rt0), rs0⟩)
    (xcd0 : PySem.W.codeIn K rc0 "BadCounts.__init__" = true)
    (xk0 : PySem.W.keepIn K (.ref X0) = true)
    (iX0 : PySem.W.isClsIn K X0 = true)
    (tX0 : PySem.W.typeIn K (.ref X0) = some (.type "type"))
    (eX0 : PySem.W.subIn K (.ref X0) (.type "BaseException") = some true)
    (hX0 : PySem.W.hasDictIn K X0 = true)
    (sX0 : PySem.W.subIn K (.ref X0) (.ref X0) = some true)
    (xkc0 : PySem.W.findIn K (.ref X0) "__class__" = some (some (.builtin "object.__class__")))
    (xmo0 : PySem.W.mroIn K X0 (.type "object") = some true)
    (xu0T : PySem.W.subIn K (.ref X0) (.ref CT) = some true)
    (xA1 : PySem.W.nsIn K mainGlobals "BadRow" = some (some (.ref X1)))
    (xL1 : K.lookup X1 = some (excClassObj xn1 xq1 X1 xN1 xb1 [.ref CT, .type "Exception", .type "BaseException", .type "object"] true xs1 xu1 xa1 xc1 xd1 w1a w1b w1c w1d w1e "Exception.__new__"))
    (xsa1 : PySem.W.findIn K (.ref X1) "__setattr__" = some (some (.builtin "object.__setattr__")))
    (xga1 : PySem.W.findIn K (.ref X1) "__getattribute__" = some (some (.builtin "BaseException.__getattribute__")))
    (xgg1 : PySem.W.findIn K (.ref X1) "__getattr__" = some none)
    (xnb1 : PySem.W.findIn K (.ref X1) "thing" = some none)
    (xi1 : PySem.W.findIn K (.ref X1) "__init__" = some (some (.ref J1)))
    (xt1 : PySem.W.typeIn K (.ref J1) = some (.type "function"))
    (xl1 : K.lookup J1 = some ⟨ro1, re1, .func (PySem.W.fnOf "__init__" "BadRow.__init__" (iA g1a g1b) (iB g1c g1d g1e g1f) iS .none .none rd1 rp1 ra1 rc1 rt1), rs1⟩)
    (xcd1 : PySem.W.codeIn K rc1 "BadRow.__init__" = true)
    (xk1 : PySem.W.keepIn K (.ref X1) = true)
    (iX1 : PySem.W.isClsIn K X1 = true)
    (tX1 : PySem.W.typeIn K (.ref X1) = some (.type "type"))
    (eX1 : PySem.W.subIn K (.ref X1) (.type "BaseException") = some true)
    (hX1 : PySem.W.hasDictIn K X1 = true)
    (sX1 : PySem.W.subIn K (.ref X1) (.ref X1) = some true)
    (xkc1 : PySem.W.findIn K (.ref X1) "__class__" = some (some (.builtin "object.__class__")))
    (xmo1 : PySem.W.mroIn K X1 (.type "object") = some true)
    (xu1T : PySem.W.subIn K (.ref X1) (.ref CT) = some true)
    (v0_1 : PySem.W.subIn K (.ref X0) (.ref X1) = some false)
    (v1_0 : PySem.W.subIn K (.ref X1) (.ref X0) = some false) :
    Hr.LawT l w K 11 63 "script" mg fa h := by
  have G := Tp.g
  have e := hfa.symm.trans (PySem.W.mg_of X G a26)
  cases e
  have F0 := fun_mk (st := s_is_integer) l0 c0 k0
  have b0 := F0.binds (ps := ["thing"]) fun _ _ _ _ _ _ us hl => match us, hl with | [_], _ => rfl
  have F1 := fun_mk (st := s_is_integer_from) l1 c1 k1
  have b1 := F1.binds (ps := ["thing", "least"]) fun _ _ _ _ _ _ us hl => match us, hl with | [_, _], _ => rfl
  have F2 := fun_mk (st := s_are_integers_from) l2 c2 k2
  have b2 := F2.binds (ps := ["thing", "least"]) fun _ _ _ _ _ _ us hl => match us, hl with | [_, _], _ => rfl
  have F3 := fun_mk (st := s_is_just) l3 c3 k3
  have b3 := F3.binds (ps := ["thing", "right"]) fun _ _ _ _ _ _ us hl => match us, hl with | [_, _], _ => rfl
  have F4 := fun_mk (st := s_is_counts) l4 c4 k4
  have b4 := F4.binds (ps := ["thing"]) fun _ _ _ _ _ _ us hl => match us, hl with | [_], _ => rfl
  have F5 := fun_mk (st := s_check_counts) l5 c5 k5
  have b5 := F5.binds (ps := ["counts"]) fun _ _ _ _ _ _ us hl => match us, hl with | [_], _ => rfl
  have F6 := fun_mk (st := s_h_row) l6 c6 k6
  have b6 := F6.binds (ps := ["counts"]) fun _ _ _ _ _ _ us hl => match us, hl with | [_], _ => rfl
  have F7 := fun_mk (st := s_counts_of_h) l7 c7 k7
  have b7 := F7.binds (ps := ["numbers"]) fun _ _ _ _ _ _ us hl => match us, hl with | [_], _ => rfl
  have F8 := fun_mk (st := s_begins_with_1) l8 c8 k8
  have b8 := F8.binds (ps := ["thing"]) fun _ _ _ _ _ _ us hl => match us, hl with | [_], _ => rfl
  have F9 := fun_mk (st := s_moved_row) l9 c9 k9
  have b9 := F9.binds (ps := ["row", "sign"]) fun _ _ _ _ _ _ us hl => match us, hl with | [_, _], _ => rfl
  have F10 := fun_mk (st := s_l_deck) l10 c10 k10
  have b10 := F10.binds (ps := ["script"]) fun _ _ _ _ _ _ us hl => match us, hl with | [_], _ => rfl
  have F11 := fun_mk (st := s_l_draw) l11 c11 k11
  have b11 := F11.binds (ps := ["deck", "many"]) fun _ _ _ _ _ _ us hl => match us, hl with | [_, _], _ => rfl
  have F12 := fun_mk (st := s_l_pick) l12 c12 k12
  have b12 := F12.binds (ps := ["deck", "some"]) fun _ _ _ _ _ _ us hl => match us, hl with | [_, _], _ => rfl
  have F13 := fun_mk (st := s_l_any) l13 c13 k13
  have b13 := F13.binds (ps := ["deck", "deep"]) fun _ _ _ _ _ _ us hl => match us, hl with | [_, _], _ => rfl
  have F14 := fun_mk (st := s_l_ways) l14 c14 k14
  have b14 := F14.binds (ps := ["a", "b"]) fun _ _ _ _ _ _ us hl => match us, hl with | [_, _], _ => rfl
  have F15 := fun_mk (st := s_l_h) l15 c15 k15
  have b15 := F15.binds (ps := ["counts"]) fun _ _ _ _ _ _ us hl => match us, hl with | [_], _ => rfl
  have F16 := fun_mk (st := s_l_counts_of) l16 c16 k16
  have b16 := F16.binds (ps := ["h"]) fun _ _ _ _ _ _ us hl => match us, hl with | [_], _ => rfl
  have F17 := fun_mk (st := s_l_are_ints) l17 c17 k17
  have b17 := F17.binds (ps := ["thing"]) fun _ _ _ _ _ _ us hl => match us, hl with | [_], _ => rfl
  have F18 := fun_mk (st := s_l_is_counts) l18 c18 k18
  have b18 := F18.binds (ps := ["thing"]) fun _ _ _ _ _ _ us hl => match us, hl with | [_], _ => rfl
  have F19 := fun_mk (st := s_l_is_h) l19 c19 k19
  have b19 := F19.binds (ps := ["thing"]) fun _ _ _ _ _ _ us hl => match us, hl with | [_], _ => rfl
  have F20 := fun_mk (st := s_l_below) l20 c20 k20
  have b20 := F20.binds (ps := ["deck", "most"]) fun _ _ _ _ _ _ us hl => match us, hl with | [_, _], _ => rfl
  have F21 := fun_mk (st := s_l_drawn_counts) l21 c21 k21
  have b21 := F21.binds (ps := ["deck"]) fun _ _ _ _ _ _ us hl => match us, hl with | [_], _ => rfl
  have F22 := fun_mk (st := s_l_drawn_row) l22 c22 k22
  have b22 := F22.binds (ps := ["deck", "row"]) fun _ _ _ _ _ _ us hl => match us, hl with | [_, _], _ => rfl
  have F23 := fun_mk (st := s_l_strange) l23 c23 k23
  have b23 := F23.binds (ps := ["deck", "thing"]) fun _ _ _ _ _ _ us hl => match us, hl with | [_, _], _ => rfl
  have F24 := fun_mk (st := s_l_told) l24 c24 k24
  have b24 := F24.binds (ps := ["deed"]) fun _ _ _ _ _ _ us hl => match us, hl with | [_], _ => rfl
  have F25 := fun_mk (st := s_l_is_right) l25 c25 k25
  have b25 := F25.binds (ps := ["thing"]) fun _ _ _ _ _ _ us hl => match us, hl with | [_], _ => rfl
  have F26 := fun_mk (st := s_law) l26 c26 k26
  have b26 := F26.binds (ps := ["script"]) fun _ _ _ _ _ _ us hl => match us, hl with | [_], _ => rfl
  have O0 : OwnC K X0 := ⟨iX0, tX0, eX0, hX0, sX0⟩
  have E0 : ExTxt K mg "BadCounts" X0 J0 := { gC := PySem.W.mg_of X G xA0, cls := ⟨_, _, _, _, _, _, _, _, _, _, _, _, _, _, _, xL0, by rfl⟩, sa := xsa0, ga := xga0, gg := xgg0, noN := xnb0, iC := xi0, tC := xt0, kC := xk0, exC := eX0, tyC := tX0, hdC := hX0, te := O0.exm sX0, fn := ⟨_, _, _, _, _, _, _, _, _, _, _, _, _, _, _, xl0, xcd0⟩ }
  have O1 : OwnC K X1 := ⟨iX1, tX1, eX1, hX1, sX1⟩
  have E1 : ExTxt K mg "BadRow" X1 J1 := { gC := PySem.W.mg_of X G xA1, cls := ⟨_, _, _, _, _, _, _, _, _, _, _, _, _, _, _, xL1, by rfl⟩, sa := xsa1, ga := xga1, gg := xgg1, noN := xnb1, iC := xi1, tC := xt1, kC := xk1, exC := eX1, tyC := tX1, hdC := hX1, te := O1.exm sX1, fn := ⟨_, _, _, _, _, _, _, _, _, _, _, _, _, _, _, xl1, xcd1⟩ }
  let T : Txt K mg := ⟨f0, _, F0, PySem.W.mg_of X G a0, b0, f1, _, F1, PySem.W.mg_of X G a1, b1, f2, _, F2, PySem.W.mg_of X G a2, b2, f3, _, F3, PySem.W.mg_of X G a3, b3, f4, _, F4, PySem.W.mg_of X G a4, b4, f5, _, F5, PySem.W.mg_of X G a5, b5, f6, _, F6, PySem.W.mg_of X G a6, b6, f7, _, F7, PySem.W.mg_of X G a7, b7, f8, _, F8, PySem.W.mg_of X G a8, b8, f9, _, F9, PySem.W.mg_of X G a9, b9, f10, _, F10, PySem.W.mg_of X G a10, b10, f11, _, F11, PySem.W.mg_of X G a11, b11, f12, _, F12, PySem.W.mg_of X G a12, b12, f13, _, F13, PySem.W.mg_of X G a13, b13, f14, _, F14, PySem.W.mg_of X G a14, b14, f15, _, F15, PySem.W.mg_of X G a15, b15, f16, _, F16, PySem.W.mg_of X G a16, b16, f17, _, F17, PySem.W.mg_of X G a17, b17, f18, _, F18, PySem.W.mg_of X G a18, b18, f19, _, F19, PySem.W.mg_of X G a19, b19, f20, _, F20, PySem.W.mg_of X G a20, b20, f21, _, F21, PySem.W.mg_of X G a21, b21, f22, _, F22, PySem.W.mg_of X G a22, b22, f23, _, F23, PySem.W.mg_of X G a23, b23, f24, _, F24, PySem.W.mg_of X G a24, b24, f25, _, F25, PySem.W.mg_of X G a25, b25, fa, _, F26, PySem.W.mg_of X G a26, b26, tk0, PySem.W.mg_of X G y0, PySem.W.mg_none_of X G z0, PySem.W.mg_none_of X G z1, PySem.W.mg_none_of X G z2, PySem.W.mg_none_of X G z3, PySem.W.mg_none_of X G z4, PySem.W.mg_none_of X G z5, PySem.W.mg_none_of X G z6, PySem.W.mg_none_of X G z7, PySem.W.mg_none_of X G z8, PySem.W.mg_none_of X G z9, PySem.W.mg_none_of X G z10, PySem.W.mg_none_of X G z11, PySem.W.mg_none_of X G z12, PySem.W.mg_none_of X G z13, PySem.W.mg_of X G zc, X0, J0, E0, ⟨O0, xga0, xgg0, xkc0, xmo0, sg, tkk⟩, X1, J1, E1, ⟨O1, xga1, xgg1, xkc1, xmo1, sg, tkk⟩, CT, PySem.W.mg_of X G aT, ⟨iT, tT, eT, hT, sT⟩, xu0T, v0_1, xu1T, v1_0, lc0, P0, rfl⟩
  have CH := PySem.W.codeHd_of_K X ch0
  have hT := ht0
  exact ⟨T.d_law, [(lc0, P0)], sp_law K P0, (fun p hp => by rw [List.mem_singleton.mp hp]; exact hT), (fun p hp => by rw [List.mem_singleton.mp hp]; exact np0), (fun p hp => by rw [List.mem_singleton.mp hp]; exact CH), (fun s v => .of_eq rfl), (fun H a ns hl hP hS => ⟨a, ns, rfl, hS, hl, hP _ (List.mem_singleton.mpr rfl), fun _ => rfl⟩), fun base _ _ TB => ok_law T (TB _ (List.mem_singleton.mpr rfl))⟩
end K47
open PySem PySem.W PyProof.Rows in
set_option maxRecDepth 100000 in
set_option maxHeartbeats 0 in
theorem PySem.Challenge.cw_holerows_k47_h_rows_there_and_back_holds : PySem.Challenge.rw_holerows_k47_h_rows_there_and_back.Holds := by
  w_on; o_law; k_head; (case hw => w_witness2)
  k_fill
  refine Hr.walkT (l := PySem.Challenge.rw_holerows_k47_h_rows_there_and_back) (n := 63) (k := 11) (x := "script") rfl (by decide) rfl ⟨rfl, by decide, by decide⟩ (fun w h Y => PySem.W.km_in_of Y) ?F
  case F =>
    intro w mg mb fa h lo me Y KX Tp hmg
    refine' K47.all_mk KX Tp hmg ?a0 ?l0 ?c0 ?k0 ?a1 ?l1 ?c1 ?k1 ?a2 ?l2 ?c2 ?k2 ?a3 ?l3 ?c3 ?k3 ?a4 ?l4 ?c4 ?k4 ?a5 ?l5 ?c5 ?k5 ?a6 ?l6 ?c6 ?k6 ?a7 ?l7 ?c7 ?k7 ?a8 ?l8 ?c8 ?k8 ?a9 ?l9 ?c9 ?k9 ?a10 ?l10 ?c10 ?k10 ?a11 ?l11 ?c11 ?k11 ?a12 ?l12 ?c12 ?k12 ?a13 ?l13 ?c13 ?k13 ?a14 ?l14 ?c14 ?k14 ?a15 ?l15 ?c15 ?k15 ?a16 ?l16 ?c16 ?k16 ?a17 ?l17 ?c17 ?k17 ?a18 ?l18 ?c18 ?k18 ?a19 ?l19 ?c19 ?k19 ?a20 ?l20 ?c20 ?k20 ?a21 ?l21 ?c21 ?k21 ?a22 ?l22 ?c22 ?k22 ?a23 ?l23 ?c23 ?k23 ?a24 ?l24 ?c24 ?k24 ?a25 ?l25 ?c25 ?k25 ?lk0 ?hv0 ?np0 ?ch0 ?ht0 ?a26 ?l26 ?c26 ?k26 ?y0 ?z0 ?z1 ?z2 ?z3 ?z4 ?z5 ?z6 ?z7 ?z8 ?z9 ?z10 ?z11 ?z12 ?z13 ?zc ?aT ?iT ?tT ?eT ?hT ?sT ?sg ?tkk ?xA0 ?xL0 ?xsa0 ?xga0 ?xgg0 ?xnb0 ?xi0 ?xt0 ?xl0 ?xcd0 ?xk0 ?iX0 ?tX0 ?eX0 ?hX0 ?sX0 ?xkc0 ?xmo0 ?xu0T ?xA1 ?xL1 ?xsa1 ?xga1 ?xgg1 ?xnb1 ?xi1 ?xt1 ?xl1 ?xcd1 ?xk1 ?iX1 ?tX1 ?eX1 ?hX1 ?sX1 ?xkc1 ?xmo1 ?xu1T ?v0_1 ?v1_0
    (case a0 => first | k_is | rfl)
    (case l0 => first | k_is | rfl)
    (case c0 => first | k_is | rfl)
    (case k0 => first | k_is | rfl)
    (case a1 => first | k_is | rfl)
    (case l1 => first | k_is | rfl)
    (case c1 => first | k_is | rfl)
    (case k1 => first | k_is | rfl)
    (case a2 => first | k_is | rfl)
    (case l2 => first | k_is | rfl)
    (case c2 => first | k_is | rfl)
    (case k2 => first | k_is | rfl)
    (case a3 => first | k_is | rfl)
    (case l3 => first | k_is | rfl)
    (case c3 => first | k_is | rfl)
    (case k3 => first | k_is | rfl)
    (case a4 => first | k_is | rfl)
    (case l4 => first | k_is | rfl)
    (case c4 => first | k_is | rfl)
    (case k4 => first | k_is | rfl)
    (case a5 => first | k_is | rfl)
    (case l5 => first | k_is | rfl)
    (case c5 => first | k_is | rfl)
    (case k5 => first | k_is | rfl)
    (case a6 => first | k_is | rfl)
    (case l6 => first | k_is | rfl)
    (case c6 => first | k_is | rfl)
    (case k6 => first | k_is | rfl)
    (case a7 => first | k_is | rfl)
    (case l7 => first | k_is | rfl)
    (case c7 => first | k_is | rfl)
    (case k7 => first | k_is | rfl)
    (case a8 => first | k_is | rfl)
    (case l8 => first | k_is | rfl)
    (case c8 => first | k_is | rfl)
    (case k8 => first | k_is | rfl)
    (case a9 => first | k_is | rfl)
    (case l9 => first | k_is | rfl)
    (case c9 => first | k_is | rfl)
    (case k9 => first | k_is | rfl)
    (case a10 => first | k_is | rfl)
    (case l10 => first | k_is | rfl)
    (case c10 => first | k_is | rfl)
    (case k10 => first | k_is | rfl)
    (case a11 => first | k_is | rfl)
    (case l11 => first | k_is | rfl)
    (case c11 => first | k_is | rfl)
    (case k11 => first | k_is | rfl)
    (case a12 => first | k_is | rfl)
    (case l12 => first | k_is | rfl)
    (case c12 => first | k_is | rfl)
    (case k12 => first | k_is | rfl)
    (case a13 => first | k_is | rfl)
    (case l13 => first | k_is | rfl)
    (case c13 => first | k_is | rfl)
    (case k13 => first | k_is | rfl)
    (case a14 => first | k_is | rfl)
    (case l14 => first | k_is | rfl)
    (case c14 => first | k_is | rfl)
    (case k14 => first | k_is | rfl)
    (case a15 => first | k_is | rfl)
    (case l15 => first | k_is | rfl)
    (case c15 => first | k_is | rfl)
    (case k15 => first | k_is | rfl)
    (case a16 => first | k_is | rfl)
    (case l16 => first | k_is | rfl)
    (case c16 => first | k_is | rfl)
    (case k16 => first | k_is | rfl)
    (case a17 => first | k_is | rfl)
    (case l17 => first | k_is | rfl)
    (case c17 => first | k_is | rfl)
    (case k17 => first | k_is | rfl)
    (case a18 => first | k_is | rfl)
    (case l18 => first | k_is | rfl)
    (case c18 => first | k_is | rfl)
    (case k18 => first | k_is | rfl)
    (case a19 => first | k_is | rfl)
    (case l19 => first | k_is | rfl)
    (case c19 => first | k_is | rfl)
    (case k19 => first | k_is | rfl)
    (case a20 => first | k_is | rfl)
    (case l20 => first | k_is | rfl)
    (case c20 => first | k_is | rfl)
    (case k20 => first | k_is | rfl)
    (case a21 => first | k_is | rfl)
    (case l21 => first | k_is | rfl)
    (case c21 => first | k_is | rfl)
    (case k21 => first | k_is | rfl)
    (case a22 => first | k_is | rfl)
    (case l22 => first | k_is | rfl)
    (case c22 => first | k_is | rfl)
    (case k22 => first | k_is | rfl)
    (case a23 => first | k_is | rfl)
    (case l23 => first | k_is | rfl)
    (case c23 => first | k_is | rfl)
    (case k23 => first | k_is | rfl)
    (case a24 => first | k_is | rfl)
    (case l24 => first | k_is | rfl)
    (case c24 => first | k_is | rfl)
    (case k24 => first | k_is | rfl)
    (case a25 => first | k_is | rfl)
    (case l25 => first | k_is | rfl)
    (case c25 => first | k_is | rfl)
    (case k25 => first | k_is | rfl)
    (case lk0 => first | k_is | rfl)
    (case hv0 => first | kernel_rfl | rfl | decide +kernel)
    (case np0 => first | kernel_rfl | rfl | decide +kernel)
    (case ch0 => first | kernel_rfl | rfl | decide +kernel)
    (case ht0 => exact PySem.W.km_tabs_of Y _ (List.mem_singleton.mpr rfl))
    (case a26 => first | k_is | rfl)
    (case l26 => first | k_is | rfl)
    (case c26 => first | k_is | rfl)
    (case k26 => first | k_is | rfl)
    (case y0 => first | k_is | rfl)
    (case z0 => first | k_is | rfl)
    (case z1 => first | k_is | rfl)
    (case z2 => first | k_is | rfl)
    (case z3 => first | k_is | rfl)
    (case z4 => first | k_is | rfl)
    (case z5 => first | k_is | rfl)
    (case z6 => first | k_is | rfl)
    (case z7 => first | k_is | rfl)
    (case z8 => first | k_is | rfl)
    (case z9 => first | k_is | rfl)
    (case z10 => first | k_is | rfl)
    (case z11 => first | k_is | rfl)
    (case z12 => first | k_is | rfl)
    (case z13 => first | k_is | rfl)
    (case zc => first | k_is | rfl)
    (case aT => first | k_is | rfl)
    (case iT => first | k_is | rfl)
    (case tT => first | k_is | rfl)
    (case eT => first | k_is | rfl)
    (case hT => first | k_is | rfl)
    (case sT => first | k_is | rfl)
    (case sg => first | k_is | rfl)
    (case tkk => first | k_is | rfl)
    (case xA0 => first | k_is | rfl)
    (case xL0 => first | k_is | rfl)
    (case xsa0 => first | k_is | rfl)
    (case xga0 => first | k_is | rfl)
    (case xgg0 => first | k_is | rfl)
    (case xnb0 => first | k_is | rfl)
    (case xi0 => first | k_is | rfl)
    (case xt0 => first | k_is | rfl)
    (case xl0 => first | k_is | rfl)
    (case xcd0 => first | k_is | rfl)
    (case xk0 => first | k_is | rfl)
    (case iX0 => first | k_is | rfl)
    (case tX0 => first | k_is | rfl)
    (case eX0 => first | k_is | rfl)
    (case hX0 => first | k_is | rfl)
    (case sX0 => first | k_is | rfl)
    (case xkc0 => first | k_is | rfl)
    (case xmo0 => first | k_is | rfl)
    (case xu0T => first | k_is | rfl)
    (case xA1 => first | k_is | rfl)
    (case xL1 => first | k_is | rfl)
    (case xsa1 => first | k_is | rfl)
    (case xga1 => first | k_is | rfl)
    (case xgg1 => first | k_is | rfl)
    (case xnb1 => first | k_is | rfl)
    (case xi1 => first | k_is | rfl)
    (case xt1 => first | k_is | rfl)
    (case xl1 => first | k_is | rfl)
    (case xcd1 => first | k_is | rfl)
    (case xk1 => first | k_is | rfl)
    (case iX1 => first | k_is | rfl)
    (case tX1 => first | k_is | rfl)
    (case eX1 => first | k_is | rfl)
    (case hX1 => first | k_is | rfl)
    (case sX1 => first | k_is | rfl)
    (case xkc1 => first | k_is | rfl)
    (case xmo1 => first | k_is | rfl)
    (case xu1T => first | k_is | rfl)
    (case v0_1 => first | k_is | rfl)
    (case v1_0 => first | k_is | rfl)
