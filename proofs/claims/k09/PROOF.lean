import PyProof.Rows.All
import Wide.All
import OpenK.AllK
import Wide.FinOn
import HandS.ForMost
import HandS.Wide
import HandS.Gcd
import HandS.IsInst
import HandS.Zip
import KE.GoesMore
import PySem.Challenge.RW_compasswork_k09_common_divisors
set_option Elab.async false
set_option linter.all false
set_option maxRecDepth 100000
namespace KP
/-! polynomials as lists of ints, the constant first -/
def ev (p : List Int) (x : Int) : Int := p.foldr (fun c a => c + x * a) 0
def co (p : List Int) (i : Nat) : Int := p.getD i 0
def Lt (p : List Int) (n : Nat) : Prop := ∀ i, n ≤ i → co p i = 0
def add : List Int → List Int → List Int
  | [], q => q
  | p, [] => p
  | a :: p, b :: q => (a + b) :: add p q
def smul (c : Int) (p : List Int) : List Int := p.map (c * ·)
def mul : List Int → List Int → List Int
  | [], _ => []
  | c :: p, q => add (smul c q) (0 :: mul p q)

theorem ev_nil (x : Int) : ev [] x = 0 := rfl
theorem ev_cons (c : Int) (p : List Int) (x : Int) : ev (c :: p) x = c + x * ev p x := rfl
theorem ev_add : ∀ (p q : List Int) (x : Int), ev (add p q) x = ev p x + ev q x
  | [], q, x => by simp [add, ev_nil]
  | a :: p, [], x => by simp [add, ev_nil]
  | a :: p, b :: q, x => by
    rw [add, ev_cons, ev_cons, ev_cons, ev_add p q x]; grind
theorem ev_smul (c : Int) : ∀ (p : List Int) (x : Int), ev (smul c p) x = c * ev p x
  | [], x => by simp [smul, ev_nil]
  | a :: p, x => by
    have ih := ev_smul c p x
    show c * a + x * ev (smul c p) x = c * (a + x * ev p x)
    rw [ih]; grind
theorem ev_mul : ∀ (p q : List Int) (x : Int), ev (mul p q) x = ev p x * ev q x
  | [], q, x => by simp [mul, ev_nil]
  | c :: p, q, x => by
    rw [mul, ev_add, ev_smul, ev_cons, ev_cons, ev_mul p q x]; grind
theorem ev_append : ∀ (p q : List Int) (x : Int), ev (p ++ q) x = ev p x + x ^ p.length * ev q x
  | [], q, x => by simp [ev_nil]
  | a :: p, q, x => by
    rw [List.cons_append, ev_cons, ev_append p q x, ev_cons, List.length_cons, Int.pow_succ]; grind
theorem ev_zeros : ∀ (n : Nat) (x : Int), ev (List.replicate n 0) x = 0
  | 0, _ => rfl
  | n + 1, x => by rw [List.replicate_succ, ev_cons, ev_zeros n x]; simp

theorem co_nil (i : Nat) : co [] i = 0 := by simp [co]
theorem co_zero (c : Int) (p : List Int) : co (c :: p) 0 = c := by simp [co]
theorem co_succ (c : Int) (p : List Int) (i : Nat) : co (c :: p) (i + 1) = co p i := by simp [co]
theorem co_add : ∀ (p q : List Int) (i : Nat), co (add p q) i = co p i + co q i
  | [], q, i => by simp [add, co_nil]
  | a :: p, [], i => by simp [add, co_nil]
  | a :: p, b :: q, 0 => by simp [add, co_zero]
  | a :: p, b :: q, i + 1 => by rw [add, co_succ, co_succ, co_succ, co_add p q i]
theorem co_smul (c : Int) : ∀ (p : List Int) (i : Nat), co (smul c p) i = c * co p i
  | [], i => by simp [smul, co_nil]
  | a :: p, 0 => by simp [smul, co_zero]
  | a :: p, i + 1 => by
    have ih := co_smul c p i
    show co (c * a :: smul c p) (i + 1) = _
    rw [co_succ, co_succ, ih]
theorem co_ge {p : List Int} {i : Nat} (h : p.length ≤ i) : co p i = 0 := by
  simp [co, List.getD_eq_getElem?_getD, List.getElem?_eq_none h]
theorem lt_len (p : List Int) : Lt p p.length := fun _ h => co_ge h
theorem Lt.mono {p : List Int} {m n : Nat} (h : Lt p m) (k : m ≤ n) : Lt p n := fun i hi => h i (by omega)
/-- a polynomial that is 0 nearly everywhere has no coefficients -/
theorem co_of_ev0 : ∀ (p : List Int), (∀ x, x ≠ 0 → ev p x = 0) → ∀ i, co p i = 0
  | [], _, i => co_nil i
  | c :: p, h, i => by
    have hc : c = 0 := by
      have h1 := h (c.natAbs + 1) (by omega)
      rw [ev_cons] at h1
      have hd : ((c.natAbs : Int) + 1) ∣ c := ⟨- ev p (c.natAbs + 1), by grind⟩
      have := Int.eq_zero_of_dvd_of_natAbs_lt_natAbs hd (by omega)
      exact this
    have ih := co_of_ev0 p (fun x hx => by
      have h1 := h x hx
      rw [ev_cons, hc] at h1
      have : x * ev p x = 0 := by omega
      rcases Int.mul_eq_zero.mp this with e | e
      · exact absurd e hx
      · exact e)
    cases i with
    | zero => rw [co_zero, hc]
    | succ i => rw [co_succ]; exact ih i
def sub (p q : List Int) : List Int := add p (smul (-1) q)
theorem ev_sub (p q : List Int) (x : Int) : ev (sub p q) x = ev p x - ev q x := by
  rw [sub, ev_add, ev_smul]; grind
theorem co_sub (p q : List Int) (i : Nat) : co (sub p q) i = co p i - co q i := by
  rw [sub, co_add, co_smul]; grind
theorem co_of_ev {p q : List Int} (h : ∀ x, ev p x = ev q x) (i : Nat) : co p i = co q i := by
  have := co_of_ev0 (sub p q) (fun x _ => by rw [ev_sub, h x]; omega) i
  rw [co_sub] at this; omega
theorem ev_of_co0 : ∀ (p : List Int), (∀ i, co p i = 0) → ∀ x, ev p x = 0
  | [], _, x => rfl
  | c :: p, h, x => by
    have h0 := h 0
    rw [co_zero] at h0
    rw [ev_cons, h0, ev_of_co0 p (fun i => by have := h (i + 1); rwa [co_succ] at this) x]; simp
theorem ev_of_co {p q : List Int} (h : ∀ i, co p i = co q i) (x : Int) : ev p x = ev q x := by
  have := ev_of_co0 (sub p q) (fun i => by rw [co_sub, h i]; omega) x
  rw [ev_sub] at this; omega
theorem mul_zero_co {p : List Int} (h : ∀ i, co p i = 0) (q : List Int) (i : Nat) : co (mul p q) i = 0 :=
  co_of_ev0 _ (fun x _ => by rw [ev_mul, ev_of_co0 p h x]; simp) i
/-- the degree of a product -/
theorem mul_top : ∀ (p q : List Int) (m n : Nat), Lt p (m + 1) → Lt q (n + 1) → co (mul p q) (m + n) = co p m * co q n ∧ ∀ i, m + n < i → co (mul p q) i = 0
  | [], q, m, n, _, _ => by
    constructor
    · simp [mul, co_nil]
    · intro i _; simp [mul, co_nil]
  | c :: p, q, 0, n, hp, hq => by
    have z : ∀ i, co p i = 0 := fun i => by have := hp (i + 1) (by omega); rwa [co_succ] at this
    have zz := mul_zero_co z q
    constructor
    · rw [mul, co_add, co_smul, co_zero]
      cases hn : 0 + n with
      | zero => have : n = 0 := by omega
                subst this; rw [co_zero]; omega
      | succ k => rw [co_succ, zz]; have : n = k + 1 := by omega
                  rw [this]; omega
    · intro i hi
      rw [mul, co_add, co_smul, hq i (by omega)]
      cases i with
      | zero => omega
      | succ k => rw [co_succ, zz]; omega
  | c :: p, q, m + 1, n, hp, hq => by
    have hp' : Lt p (m + 1) := fun i hi => by have := hp (i + 1) (by omega); rwa [co_succ] at this
    obtain ⟨h1, h2⟩ := mul_top p q m n hp' hq
    constructor
    · rw [mul, co_add, co_smul, co_succ, hq (m + 1 + n) (by omega), show m + 1 + n = (m + n) + 1 by omega, co_succ, h1]; omega
    · intro i hi
      rw [mul, co_add, co_smul, hq i (by omega)]
      cases i with
      | zero => omega
      | succ k => rw [co_succ, h2 k (by omega)]; omega
/-- Norm: the last one is not 0 -/
def Nm (p : List Int) : Prop := p ≠ [] ∧ co p (p.length - 1) ≠ 0
theorem Nm.pos {p : List Int} (h : Nm p) : 0 < p.length := List.length_pos_iff.mpr h.1
/-- a multiple of f with less degree is 0 -/
theorem mul_small {z f b : List Int} (hf : Nm f) (h : ∀ x, ev z x * ev f x = ev b x) (hb : Lt b (f.length - 1)) : ∀ i, co z i = 0 := by
  have hpos := hf.pos
  -- the greatest index at which z is not 0
  have key : ∀ n, Lt z n → ∀ i, co z i = 0 := by
    intro n
    induction n with
    | zero => intro hz i; exact hz i (by omega)
    | succ n ih =>
      intro hz
      apply ih
      have hfl : Lt f (f.length - 1 + 1) := (lt_len f).mono (by omega)
      have t := (mul_top z f n (f.length - 1) hz hfl).1
      have e : co (mul z f) (n + (f.length - 1)) = co b (n + (f.length - 1)) := co_of_ev (fun x => by rw [ev_mul]; exact h x) _
      rw [e, hb _ (by omega)] at t
      have : co z n = 0 := by
        rcases Int.mul_eq_zero.mp t.symm with q | q
        · exact q
        · exact absurd q hf.2
      intro i hi
      by_cases k : i = n
      · rw [k]; exact this
      · exact hz i (by omega)
  exact key _ (lt_len z)
end KP

namespace KP
/-! pigeons -/
theorem nodup_len {β : Type} [DecidableEq β] : ∀ (l m : List β), l.Nodup → (∀ a ∈ l, a ∈ m) → l.length ≤ m.length
  | [], _, _, _ => Nat.zero_le _
  | a :: l, m, h, s => by
    have hm : a ∈ m := s a List.mem_cons_self
    have h2 := List.nodup_cons.mp h
    have ih := nodup_len l (m.erase a) h2.2 (fun b hb => by
      have hne : b ≠ a := fun e => h2.1 (e ▸ hb)
      exact (List.mem_erase_of_ne hne).mpr (s b (List.mem_cons_of_mem _ hb)))
    rw [List.length_erase_of_mem hm] at ih
    have : 0 < m.length := List.length_pos_of_mem hm
    rw [List.length_cons]; omega
theorem pig {α β : Type} [DecidableEq α] [DecidableEq β] (f : α → β) (l : List α) (m : List β) (hl : l.Nodup) (hm : ∀ a ∈ l, f a ∈ m) (h : m.length < l.length) : ∃ a ∈ l, ∃ b ∈ l, a ≠ b ∧ f a = f b := by
  refine Classical.byContradiction fun no => ?_
  have inj : ∀ a ∈ l, ∀ b ∈ l, f a = f b → a = b := fun a ha b hb e => Classical.byContradiction fun ne => no ⟨a, ha, b, hb, ne, e⟩
  have hn : (l.map f).Nodup := by
    rw [List.nodup_iff_pairwise_ne, List.pairwise_map]
    exact List.Pairwise.imp_of_mem (fun {a b} ha hb ne e => ne (inj a ha b hb e)) (List.nodup_iff_pairwise_ne.mp hl)
  have := nodup_len (l.map f) m hn (fun b hb => by
    obtain ⟨a, ha, rfl⟩ := List.mem_map.mp hb
    exact hm a ha)
  rw [List.length_map] at this
  omega
/-- the intsFrom from lo on, as many as n -/
def intsFrom (lo : Int) : Nat → List Int
  | 0 => []
  | n + 1 => lo :: intsFrom (lo + 1) n
theorem intsFrom_len : ∀ (n : Nat) (lo : Int), (intsFrom lo n).length = n
  | 0, _ => rfl
  | n + 1, lo => by simp [intsFrom, intsFrom_len n]
theorem intsFrom_mem : ∀ (n : Nat) (lo x : Int), x ∈ intsFrom lo n ↔ lo ≤ x ∧ x < lo + n
  | 0, lo, x => by simp [intsFrom] <;> omega
  | n + 1, lo, x => by
    rw [intsFrom, List.mem_cons, intsFrom_mem n (lo + 1) x]; omega
theorem intsFrom_nodup : ∀ (n : Nat) (lo : Int), (intsFrom lo n).Nodup
  | 0, _ => by simp [intsFrom]
  | n + 1, lo => by
    rw [intsFrom, List.nodup_cons]
    refine ⟨fun h => ?_, intsFrom_nodup n (lo + 1)⟩
    rw [intsFrom_mem] at h; omega
/-- all vectors with N items out of l -/
def vecs (l : List Int) : Nat → List (List Int)
  | 0 => [[]]
  | n + 1 => l.flatMap fun x => (vecs l n).map (x :: ·)
theorem vecs_len (l : List Int) : ∀ n, (vecs l n).length = l.length ^ n
  | 0 => rfl
  | n + 1 => by
    have ih := vecs_len l n
    have g : ∀ l' : List Int, (l'.flatMap fun x => (vecs l n).map (x :: ·)).length = l'.length * (vecs l n).length := by
      intro l'
      induction l' with
      | nil => simp
      | cons a r ihr => rw [List.flatMap_cons, List.length_append, ihr, List.length_map, List.length_cons]; grind
    rw [vecs, g, ih, Nat.pow_succ]; grind
theorem vecs_mem (l : List Int) : ∀ (n : Nat) (v : List Int), v ∈ vecs l n ↔ v.length = n ∧ ∀ x ∈ v, x ∈ l
  | 0, v => by
    rw [vecs, List.mem_singleton]
    constructor
    · rintro rfl; simp
    · rintro ⟨h, _⟩; exact List.length_eq_zero_iff.mp h
  | n + 1, v => by
    rw [vecs, List.mem_flatMap]
    constructor
    · rintro ⟨x, hx, h⟩
      obtain ⟨r, hr, rfl⟩ := List.mem_map.mp h
      obtain ⟨h1, h2⟩ := (vecs_mem l n r).mp hr
      refine ⟨by rw [List.length_cons, h1], fun y hy => ?_⟩
      rcases List.mem_cons.mp hy with rfl | hy
      · exact hx
      · exact h2 y hy
    · rintro ⟨h1, h2⟩
      cases v with
      | nil => simp at h1
      | cons x r =>
        refine ⟨x, h2 x List.mem_cons_self, List.mem_map.mpr ⟨r, (vecs_mem l n r).mpr ⟨by simpa using h1, fun y hy => h2 y (List.mem_cons_of_mem _ hy)⟩, rfl⟩⟩
theorem vecs_nodup {l : List Int} (hl : l.Nodup) : ∀ n, (vecs l n).Nodup
  | 0 => by simp [vecs]
  | n + 1 => by
    have ih := vecs_nodup hl n
    have g : ∀ l' : List Int, l'.Nodup → (l'.flatMap fun x => (vecs l n).map (x :: ·)).Nodup := by
      intro l'
      induction l' with
      | nil => simp
      | cons a r ihr =>
        intro h
        have h2 := List.nodup_cons.mp h
        rw [List.flatMap_cons, List.nodup_append]
        refine ⟨?_, ihr h2.2, ?_⟩
        · rw [List.nodup_iff_pairwise_ne, List.pairwise_map]
          exact (List.nodup_iff_pairwise_ne.mp ih).imp fun ne e => ne (List.cons.inj e).2
        · intro v hv w hw e
          subst e
          obtain ⟨v1, _, rfl⟩ := List.mem_map.mp hv
          obtain ⟨x, hx, hw2⟩ := List.mem_flatMap.mp hw
          obtain ⟨v2, _, e2⟩ := List.mem_map.mp hw2
          have := (List.cons.inj e2).1
          subst this
          exact h2.1 hx
    rw [vecs]
    exact g l hl
/-- Bd p B: all coefficients within B -/
def Bd (p : List Int) (B : Nat) : Prop := ∀ i, (co p i).natAbs ≤ B
theorem Bd.mono {p : List Int} {a b : Nat} (h : Bd p a) (k : a ≤ b) : Bd p b := fun i => Nat.le_trans (h i) k
theorem bd_mul {A X : Nat} {f : List Int} (hf : Bd f A) : ∀ (u : List Int), (∀ x ∈ u, x.natAbs ≤ X) → Bd (mul u f) (u.length * (X * A))
  | [], _, i => by simp [mul, co_nil]
  | c :: u, h, i => by
    have ih := bd_mul hf u (fun x hx => h x (List.mem_cons_of_mem _ hx))
    have hc := h c List.mem_cons_self
    have h1 : (c * co f i).natAbs ≤ X * A := by
      rw [Int.natAbs_mul]; exact Nat.mul_le_mul hc (hf i)
    rw [mul, co_add, co_smul, List.length_cons]
    have e : (u.length + 1) * (X * A) = u.length * (X * A) + X * A := by grind
    rw [e]
    cases i with
    | zero => rw [co_zero]; omega
    | succ i => rw [co_succ]; have := ih i; omega
theorem sub_len : ∀ (p q : List Int), p.length = q.length → (sub p q).length = p.length
  | [], [], _ => rfl
  | a :: p, b :: q, h => by
    have := sub_len p q (by simpa using h)
    show (add p (smul (-1) q)).length + 1 = _
    have e : (add p (smul (-1) q)).length = p.length := this
    rw [e, List.length_cons]
/-- Siegel: a small u f + v g with the coefficients from D on 0 -/
theorem siegel {f g : List Int} {A a b D L : Nat} (hf : Bd f A) (hg : Bd g A) (hab : a + b = (L - D) + 1) (hD : D ≤ L)
    (hF : ∀ u : List Int, u.length = a → Lt (mul u f) L) (hG : ∀ v : List Int, v.length = b → Lt (mul v g) L) :
    ∃ u v : List Int, u.length = a ∧ v.length = b ∧ ((∃ i, co u i ≠ 0) ∨ (∃ i, co v i ≠ 0)) ∧ (∀ i, D ≤ i → co (add (mul u f) (mul v g)) i = 0) ∧ Bd (add (mul u f) (mul v g)) ((a + b) * ((2 * (a + b) * A + 1) ^ (a + b - 1) * A)) := by
  generalize hN : a + b = N at *
  generalize hX : (2 * N * A + 1) ^ (N - 1) = X
  have hNpos : 1 ≤ N := by omega
  have hXpos : 1 ≤ X := by rw [← hX]; exact Nat.pow_pos (by omega)
  -- the boxes
  let W : List Int → List Int := fun c => add (mul (c.take a) f) (mul (c.drop a) g)
  let F : List Int → List Int := fun c => (List.range (N - 1)).map fun i => co (W c) (D + i)
  have bdW : ∀ c : List Int, c.length = N → (∀ x ∈ c, x.natAbs ≤ X) → Bd (W c) (N * (X * A)) := fun c hc hx i => by
    have h1 := bd_mul hf (c.take a) (fun x hx' => hx x (List.mem_of_mem_take hx')) i
    have h2 := bd_mul hg (c.drop a) (fun x hx' => hx x (List.mem_of_mem_drop hx')) i
    have l1 : (c.take a).length = a := by rw [List.length_take]; omega
    have l2 : (c.drop a).length = b := by rw [List.length_drop]; omega
    rw [l1] at h1; rw [l2] at h2
    show (co (add _ _) i).natAbs ≤ _
    rw [co_add]
    have e : N * (X * A) = a * (X * A) + b * (X * A) := by rw [← hN]; grind
    omega
  have img : ∀ c ∈ vecs (intsFrom 0 (X + 1)) N, F c ∈ vecs (intsFrom (-(N * (X * A) : Nat)) (2 * (N * (X * A)) + 1)) (N - 1) := fun c hc => by
    obtain ⟨h1, h2⟩ := (vecs_mem _ _ _).mp hc
    rw [vecs_mem]
    refine ⟨by simp [F], fun x hx => ?_⟩
    obtain ⟨i, _, rfl⟩ := List.mem_map.mp hx
    have := bdW c h1 (fun x hx => by have := (intsFrom_mem _ _ _).mp (h2 x hx); omega) (D + i)
    rw [intsFrom_mem]; omega
  have cnt : (vecs (intsFrom (-(N * (X * A) : Nat)) (2 * (N * (X * A)) + 1)) (N - 1)).length < (vecs (intsFrom 0 (X + 1)) N).length := by
    rw [vecs_len, vecs_len, intsFrom_len, intsFrom_len]
    have e1 : 2 * (N * (X * A)) + 1 ≤ (2 * N * A + 1) * (X + 1) := by
      have : (2 * N * A + 1) * (X + 1) = 2 * (N * (X * A)) + 2 * N * A + X + 1 := by grind
      omega
    have e2 := Nat.pow_le_pow_left e1 (N - 1)
    rw [Nat.mul_pow, hX] at e2
    have e3 : (X + 1) ^ N = (X + 1) ^ (N - 1) * (X + 1) := by rw [← Nat.pow_succ]; congr 1; omega
    rw [e3]
    have e4 : 0 < (X + 1) ^ (N - 1) := Nat.pow_pos (by omega)
    have e5 : X * (X + 1) ^ (N - 1) < (X + 1) ^ (N - 1) * (X + 1) := by
      have : (X + 1) ^ (N - 1) * (X + 1) = X * (X + 1) ^ (N - 1) + (X + 1) ^ (N - 1) := by grind
      omega
    omega
  obtain ⟨c, hc, d, hd, hne, he⟩ := pig F _ _ (vecs_nodup (intsFrom_nodup _ _) N) img cnt
  obtain ⟨c1, c2⟩ := (vecs_mem _ _ _).mp hc
  obtain ⟨d1, d2⟩ := (vecs_mem _ _ _).mp hd
  have l1 : (c.take a).length = a := by rw [List.length_take]; omega
  have l2 : (c.drop a).length = b := by rw [List.length_drop]; omega
  have l3 : (d.take a).length = a := by rw [List.length_take]; omega
  have l4 : (d.drop a).length = b := by rw [List.length_drop]; omega
  have lu : (sub (c.take a) (d.take a)).length = a := by rw [sub_len _ _ (by omega), l1]
  have lv : (sub (c.drop a) (d.drop a)).length = b := by rw [sub_len _ _ (by omega), l2]
  have diffI : ∀ i, (co c i - co d i).natAbs ≤ X := fun i => by
    have g1 : 0 ≤ co c i ∧ co c i ≤ X := by
      by_cases h : i < c.length
      · have : co c i ∈ c := by simp [co, List.getD_eq_getElem?_getD, h]
        have := (intsFrom_mem _ _ _).mp (c2 _ this); omega
      · rw [co_ge (by omega)]; omega
    have g2 : 0 ≤ co d i ∧ co d i ≤ X := by
      by_cases h : i < d.length
      · have : co d i ∈ d := by simp [co, List.getD_eq_getElem?_getD, h]
        have := (intsFrom_mem _ _ _).mp (d2 _ this); omega
      · rw [co_ge (by omega)]; omega
    omega
  have coT : ∀ (e : List Int) i, co (e.take a) i = if i < a then co e i else 0 := fun e i => by
    by_cases h : i < a
    · simp [co, List.getD_eq_getElem?_getD, h]
    · rw [if_neg h]; exact co_ge (by rw [List.length_take]; omega)
  have coD : ∀ (e : List Int) i, co (e.drop a) i = co e (a + i) := fun e i => by
    simp [co, List.getD_eq_getElem?_getD]
  have memb : ∀ (p : List Int) x, x ∈ p → ∃ i, co p i = x := fun p x hx => by
    obtain ⟨i, hi, rfl⟩ := List.getElem_of_mem hx
    exact ⟨i, by simp [co, List.getD_eq_getElem?_getD, hi]⟩
  have bu : ∀ x ∈ sub (c.take a) (d.take a), x.natAbs ≤ X := fun x hx => by
    obtain ⟨i, rfl⟩ := memb _ _ hx
    rw [co_sub, coT, coT]
    split
    · exact diffI i
    · simp
  have bv : ∀ x ∈ sub (c.drop a) (d.drop a), x.natAbs ≤ X := fun x hx => by
    obtain ⟨i, rfl⟩ := memb _ _ hx
    rw [co_sub, coD, coD]
    exact diffI _
  have wdiff : ∀ i, co (add (mul (sub (c.take a) (d.take a)) f) (mul (sub (c.drop a) (d.drop a)) g)) i = co (W c) i - co (W d) i := fun i => by
    rw [← co_sub]
    refine co_of_ev (fun x => ?_) i
    show _ = ev (sub (add (mul (c.take a) f) (mul (c.drop a) g)) (add (mul (d.take a) f) (mul (d.drop a) g))) x
    simp only [ev_sub, ev_add, ev_mul]
    grind
  refine ⟨_, _, lu, lv, ?_, fun i hi => ?_, ?_⟩
  · -- not 0
    refine Classical.byContradiction fun no => hne ?_
    have n1 : ∀ i, co (sub (c.take a) (d.take a)) i = 0 := fun i => Classical.byContradiction fun h => no (.inl ⟨i, h⟩)
    have n2 : ∀ i, co (sub (c.drop a) (d.drop a)) i = 0 := fun i => Classical.byContradiction fun h => no (.inr ⟨i, h⟩)
    refine List.ext_getElem (by omega) fun i h1 h2 => ?_
    have e : co c i = co d i := by
      by_cases h : i < a
      · have := n1 i
        rw [co_sub, coT, coT, if_pos h, if_pos h] at this; omega
      · have := n2 (i - a)
        rw [co_sub, coD, coD, show a + (i - a) = i by omega] at this; omega
    simpa [co, List.getD_eq_getElem?_getD, h1, h2] using e
  · by_cases h : i < L
    · rw [wdiff]
      have hi' : i - D < N - 1 := by omega
      have := congrArg (fun l => l[i - D]?) he
      simp only [F, List.getElem?_map, List.getElem?_range hi', Option.map_some, Option.some.injEq] at this
      rw [show D + (i - D) = i by omega] at this
      omega
    · rw [co_add, hF _ lu i (by omega), hG _ lv i (by omega)]; rfl
  · intro i
    have h1 := bd_mul hf _ bu i
    have h2 := bd_mul hg _ bv i
    rw [lu] at h1; rw [lv] at h2
    rw [co_add]
    have e : N * (X * A) = a * (X * A) + b * (X * A) := by rw [← hN]; grind
    omega
end KP

namespace KP
/-- the degree of a factor: z f = b -/
theorem quo_lt {z f b : List Int} {k n : Nat} (hf : Lt f (k + 1)) (hk : co f k ≠ 0) (h : ∀ x, ev z x * ev f x = ev b x) (hb : Lt b (n + k)) : Lt z n := by
  have key : ∀ N, Lt z N → Lt z n := by
    intro N
    induction N with
    | zero => intro hz i _; exact hz i (by omega)
    | succ N ih =>
      intro hz
      by_cases hN : N < n
      · exact hz.mono (by omega)
      apply ih
      have t := (mul_top z f N k hz hf).1
      have e : co (mul z f) (N + k) = co b (N + k) := co_of_ev (fun x => by rw [ev_mul]; exact h x) _
      rw [e, hb _ (by omega)] at t
      have : co z N = 0 := by
        rcases Int.mul_eq_zero.mp t.symm with q | q
        · exact q
        · exact absurd q hk
      intro i hi
      by_cases k : i = N
      · rw [k]; exact this
      · exact hz i (by omega)
  exact key _ (lt_len z)
theorem Nm.lt {f : List Int} (h : Nm f) : Lt f (f.length - 1 + 1) := (lt_len f).mono (by omega)
theorem quo_zero {z f b : List Int} {k : Nat} (hf : Lt f (k + 1)) (hk : co f k ≠ 0) (h : ∀ x, ev z x * ev f x = ev b x) (hb : Lt b k) : ∀ x, ev z x = 0 :=
  ev_of_co0 z fun i => quo_lt (n := 0) hf hk h (by simpa using hb) i (by omega)
theorem ev_lt1 {z : List Int} (h : Lt z 1) (x : Int) : ev z x = co z 0 := by
  have : ev z x = ev [co z 0] x := ev_of_co (fun i => by
    cases i with
    | zero => rw [co_zero]
    | succ i => rw [co_succ, co_nil]; exact h _ (by omega)) x
  rw [this, ev_cons, ev_nil]; omega
theorem Nm.ev_ne {p : List Int} (h : Nm p) (z : ∀ x, ev p x = 0) : False :=
  h.2 (by have := co_of_ev (p := p) (q := []) (fun x => by rw [z, ev_nil]) (p.length - 1); rw [this, co_nil])
/-- two that follow one another in the chain of rests of f and g -/
def Ch (f g p q : List Int) : Prop := ∃ (A B E : Int) (s0 t0 s1 t1 : List Int), A ≠ 0 ∧ B ≠ 0 ∧ E ≠ 0 ∧
  (∀ x, A * ev p x = ev s0 x * ev f x + ev t0 x * ev g x) ∧ (∀ x, B * ev q x = ev s1 x * ev f x + ev t1 x * ev g x) ∧
  (∀ x, ev s0 x * ev t1 x - ev s1 x * ev t0 x = E) ∧ Lt t0 (f.length - q.length) ∧ Lt t1 (f.length - p.length + 1) ∧ co t1 (f.length - p.length) ≠ 0
theorem Ch.start (f g : List Int) : Ch f g f g :=
  ⟨1, 1, 1, [1], [], [], [1], by decide, by decide, by decide, fun x => by simp [ev_cons, ev_nil], fun x => by simp [ev_cons, ev_nil], fun x => by simp [ev_cons, ev_nil], fun i _ => co_nil i, by
    rw [Nat.sub_self]; exact lt_len [1], by rw [Nat.sub_self, co_zero]; decide⟩
theorem Ch.step {f g p q r w : List Int} {c e : Int} (h : Ch f g p q) (hp : Nm p) (hq : Nm q) (hc : c ≠ 0) (he : e ≠ 0) (hr : r.length < q.length) (hpq : q.length ≤ p.length) (hf : p.length ≤ f.length)
    (hx : ∀ x, c * ev p x = ev w x * ev q x + e * ev r x) : Ch f g q r := by
  obtain ⟨A, B, E, s0, t0, s1, t1, hA, hB, hE, h1, h2, h3, l0, l1, l2⟩ := h
  have qpos := hq.pos
  have hb : ∀ x, ev w x * ev q x = ev (sub (smul c p) (smul e r)) x := fun x => by
    rw [ev_sub, ev_smul, ev_smul]; have := hx x; omega
  have blt : Lt (sub (smul c p) (smul e r)) (p.length - q.length + 1 + (q.length - 1)) := fun i hi => by
    rw [co_sub, co_smul, co_smul, co_ge (p := p) (by omega), co_ge (p := r) (by omega)]; simp
  have wlt : Lt w (p.length - q.length + 1) := quo_lt hq.lt hq.2 hb blt
  have wtop : co w (p.length - q.length) ≠ 0 := fun z => by
    have t := (mul_top w q (p.length - q.length) (q.length - 1) wlt hq.lt).1
    rw [z, show p.length - q.length + (q.length - 1) = p.length - 1 by omega] at t
    have e1 : co (mul w q) (p.length - 1) = co (sub (smul c p) (smul e r)) (p.length - 1) := co_of_ev (fun x => by rw [ev_mul]; exact hb x) _
    rw [e1, co_sub, co_smul, co_smul, co_ge (p := r) (by omega)] at t
    have t2 : c * co p (p.length - 1) = 0 := by simpa using t
    rcases Int.mul_eq_zero.mp t2 with k | k
    · exact hc k
    · exact hp.2 k
  have tt := mul_top w t1 (p.length - q.length) (f.length - p.length) wlt l1
  have esum : p.length - q.length + (f.length - p.length) = f.length - q.length := by omega
  rw [esum] at tt
  refine ⟨B, A * B * e, -(B * c * E), s1, t1, sub (smul (B * c) s0) (smul A (mul w s1)), sub (smul (B * c) t0) (smul A (mul w t1)), hB, ?_, ?_, h2, fun x => ?_, fun x => ?_, l1.mono (by omega), fun i hi => ?_, ?_⟩
  · exact Int.mul_ne_zero (Int.mul_ne_zero hA hB) he
  · exact Int.neg_ne_zero.mpr (Int.mul_ne_zero (Int.mul_ne_zero hB hc) hE)
  · simp only [ev_sub, ev_smul, ev_mul]
    have a1 := h1 x; have a2 := h2 x; have a3 := hx x
    grind
  · simp only [ev_sub, ev_smul, ev_mul]
    have a3 := h3 x
    grind
  · rw [co_sub, co_smul, co_smul, l0 i (by omega), tt.2 i (by omega)]; simp
  · rw [co_sub, co_smul, co_smul, l0 _ (Nat.le_refl _), tt.1]
    have : A * (co w (p.length - q.length) * co t1 (f.length - p.length)) ≠ 0 := Int.mul_ne_zero hA (Int.mul_ne_zero wtop l2)
    omega
/-- no common divisor but 1 -/
def Prim (q : List Int) : Prop := ∀ d : Int, (∀ i, d ∣ co q i) → d.natAbs = 1
theorem prim_le {q w : List Int} {E F : Int} (hq : Prim q) (hE : E ≠ 0) (hF : F ≠ 0) (h : ∀ i, E * co w i = F * co q i) (i : Nat) : (co q i).natAbs ≤ (co w i).natAbs := by
  have gpos : 0 < Int.gcd E F := Int.gcd_pos_of_ne_zero_left _ hE
  obtain ⟨E', hE'⟩ : (Int.gcd E F : Int) ∣ E := Int.gcd_dvd_left _ _
  obtain ⟨F', hF'⟩ : (Int.gcd E F : Int) ∣ F := Int.gcd_dvd_right _ _
  generalize hG : Int.gcd E F = G at hE' hF' gpos
  have gne : (G : Int) ≠ 0 := by omega
  have h2 : ∀ i, E' * co w i = F' * co q i := fun i => by
    have a := h i
    rw [hE', hF', Int.mul_assoc, Int.mul_assoc] at a
    exact Int.eq_of_mul_eq_mul_left gne a
  have cop : Int.gcd E' F' = 1 := by
    rw [hE', hF', Int.gcd_mul_left, Int.natAbs_natCast] at hG
    exact Nat.eq_of_mul_eq_mul_left gpos (by omega)
  have d : E'.natAbs = 1 := hq E' fun i => Int.natAbs_dvd_natAbs.mp (Nat.Coprime.dvd_of_dvd_mul_left (show Nat.Coprime E'.natAbs F'.natAbs from cop) (by
    rw [← Int.natAbs_mul, ← h2 i, Int.natAbs_mul]; exact Nat.dvd_mul_right _ _))
  have a := congrArg Int.natAbs (h2 i)
  rw [Int.natAbs_mul, Int.natAbs_mul, d] at a
  have Fpos : 1 ≤ F'.natAbs := by
    rcases Nat.eq_zero_or_pos F'.natAbs with z | z
    · have : F' = 0 := by omega
      rw [this] at hF'; omega
    · exact z
  have b := Nat.mul_le_mul_right (co q i).natAbs Fpos
  omega
/-- the bound of a rest without its common divisor -/
theorem Ch.bound {f g p q : List Int} {A : Nat} (h : Ch f g p q) (hf : Nm f) (hg : Nm g) (hq : Nm q) (hpr : Prim q) (hqp : q.length < p.length) (hpf : p.length ≤ f.length) (hpg : p.length ≤ g.length) (bf : Bd f A) (bg : Bd g A) {N : Nat}
    (hN : (g.length - p.length + 1) + (f.length - p.length + 1) = N) : Bd q (N * ((2 * N * A + 1) ^ (N - 1) * A)) := by
  obtain ⟨A', B, E, s0, t0, s1, t1, hA, hB, hE, h1, h2, h3, l0, l1, l2⟩ := h
  have qpos := hq.pos
  have mlt : ∀ (u F : List Int) (n : Nat), Nm F → u.length = n + 1 → Lt (mul u F) (n + F.length) := fun u F n hF hu i hi => by
    have := hF.pos
    exact (mul_top u F n (F.length - 1) (by rw [← hu]; exact lt_len u) hF.lt).2 i (by omega)
  obtain ⟨u, v, lu, lv, ne, z0, bw⟩ := siegel (f := f) (g := g) (A := A) (a := g.length - p.length + 1) (b := f.length - p.length + 1) (D := p.length - 1) (L := f.length + g.length - p.length) bf bg (by omega) (by omega)
    (fun u hu => (mlt u f _ hf hu).mono (by omega)) (fun v hv => (mlt v g _ hg hv).mono (by omega))
  rw [hN] at bw
  generalize hw : add (mul u f) (mul v g) = w at *
  have we : ∀ x, ev w x = ev u x * ev f x + ev v x * ev g x := fun x => by rw [← hw, ev_add, ev_mul, ev_mul]
  have wl : Lt w (p.length - 2 + 1) := fun i hi => z0 i (by omega)
  have vl : Lt v (f.length - p.length + 1) := by rw [← lv]; exact lt_len v
  have ql : Lt q (p.length - 2 + 1) := fun i hi => co_ge (by omega)
  have m1 := mul_top t1 w (f.length - p.length) (p.length - 2) l1 wl
  have m2 := mul_top v q (f.length - p.length) (p.length - 2) vl ql
  -- f divides t1 w - B v q, which has less degree
  have z1 : ∀ x, ev (sub (mul t1 u) (mul v s1)) x = 0 := quo_zero (f := f) (k := f.length - 1) hf.lt hf.2 (b := sub (mul t1 w) (smul B (mul v q))) (fun x => by
    simp only [ev_sub, ev_mul, ev_smul]
    have a1 := h2 x; have a2 := we x
    grind) (fun i hi => by
      rw [co_sub, co_smul, m1.2 i (by omega), m2.2 i (by omega)]; simp)
  have tw : ∀ x, ev t1 x * ev w x = B * (ev v x * ev q x) := fun x => by
    have a := z1 x
    simp only [ev_sub, ev_mul] at a
    have a1 := h2 x; have a2 := we x
    grind
  have tu : ∀ x, ev t1 x * ev u x = ev v x * ev s1 x := fun x => by
    have a := z1 x
    simp only [ev_sub, ev_mul] at a
    omega
  have z2e : ∀ x, ev (sub (mul s0 v) (mul t0 u)) x * ev t1 x = ev (smul E v) x := fun x => by
    simp only [ev_sub, ev_mul, ev_smul]
    have a1 := h3 x; have a2 := tu x
    grind
  have z2l : Lt (sub (mul s0 v) (mul t0 u)) 1 := quo_lt l1 l2 z2e (fun i hi => by rw [co_smul, vl i (by omega)]; simp)
  generalize hz : sub (mul s0 v) (mul t0 u) = z2 at *
  have g1 : ∀ x, E * ev v x = co z2 0 * ev t1 x := fun x => by
    have a := z2e x
    rw [ev_lt1 z2l, ev_smul] at a; omega
  have wq0 : ∀ x, ev (sub (smul E w) (smul (B * co z2 0) q)) x = 0 := quo_zero l1 l2 (b := []) (fun x => by
    simp only [ev_sub, ev_smul, ev_nil]
    have a1 := g1 x; have a2 := tw x
    grind) (fun i _ => co_nil i)
  have wq : ∀ i, E * co w i = (B * co z2 0) * co q i := fun i => by
    have a := co_of_ev (p := smul E w) (q := smul (B * co z2 0) q) (fun x => by have := wq0 x; rw [ev_sub] at this; omega) i
    rwa [co_smul, co_smul] at a
  have gne : co z2 0 ≠ 0 := fun z => by
    have v0 : ∀ x, ev v x = 0 := fun x => by
      have a := g1 x
      rw [z, Int.zero_mul] at a
      exact (Int.mul_eq_zero.mp a).resolve_left hE
    have u0 : ∀ x, ev u x = 0 := quo_zero l1 l2 (b := []) (fun x => by
      have a := tu x
      rw [v0 x, Int.zero_mul, Int.mul_comm] at a
      rw [a, ev_nil]) (fun i _ => co_nil i)
    rcases ne with ⟨i, hi⟩ | ⟨i, hi⟩
    · exact hi (by have := co_of_ev (p := u) (q := []) (fun x => by rw [u0, ev_nil]) i; rw [this, co_nil])
    · exact hi (by have := co_of_ev (p := v) (q := []) (fun x => by rw [v0, ev_nil]) i; rw [this, co_nil])
  intro i
  exact Nat.le_trans (prim_le hpr hE (Int.mul_ne_zero hB gne) wq i) (bw i)
/-- T is what the document asks for -/
def Canon (T : List Int) : Prop := Nm T ∧ Prim T ∧ 0 < co T (T.length - 1)
def IsG (f g T : List Int) : Prop := Canon T ∧ (∃ (c : Int) (u v : List Int), c ≠ 0 ∧ ∀ x, c * ev T x = ev u x * ev f x + ev v x * ev g x) ∧
  (∃ (a : Int) (z : List Int), a ≠ 0 ∧ ∀ x, a * ev f x = ev z x * ev T x) ∧ (∃ (a : Int) (z : List Int), a ≠ 0 ∧ ∀ x, a * ev g x = ev z x * ev T x)
theorem div_same {T S : List Int} (hT : Canon T) (hS : Canon S) {a b : Int} {z y : List Int} (ha : a ≠ 0) (hb : b ≠ 0) (h1 : ∀ x, a * ev T x = ev z x * ev S x) (h2 : ∀ x, b * ev S x = ev y x * ev T x) : T = S := by
  have le : ∀ {T S : List Int} {a : Int} {z : List Int}, Canon T → Canon S → a ≠ 0 → (∀ x, a * ev T x = ev z x * ev S x) → S.length ≤ T.length := fun {T S a z} hT hS ha h => by
    refine Classical.byContradiction fun no => ?_
    have z0 := quo_zero hS.1.lt hS.1.2 (b := smul a T) (z := z) (fun x => by rw [ev_smul]; exact (h x).symm) (fun i hi => by rw [co_smul, co_ge (by omega)]; simp)
    refine hT.1.ev_ne fun x => ?_
    have := h x
    rw [z0 x, Int.zero_mul] at this
    exact (Int.mul_eq_zero.mp this).resolve_left ha
  have l : T.length = S.length := Nat.le_antisymm (le hS hT hb h2) (le hT hS ha h1)
  have Spos := hS.1.pos
  have zl : Lt z 1 := quo_lt hS.1.lt hS.1.2 (b := smul a T) (fun x => by rw [ev_smul]; exact (h1 x).symm) (fun i hi => by rw [co_smul, co_ge (by omega)]; simp)
  have e : ∀ i, a * co T i = co z 0 * co S i := fun i => by
    have := co_of_ev (p := smul a T) (q := smul (co z 0) S) (fun x => by rw [ev_smul, ev_smul, h1 x, ev_lt1 zl]) i
    rwa [co_smul, co_smul] at this
  have zne : co z 0 ≠ 0 := fun k => by
    have := e (T.length - 1)
    rw [k, Int.zero_mul] at this
    rcases Int.mul_eq_zero.mp this with q | q
    · exact ha q
    · exact hT.1.2 q
  have le1 : ∀ i, (co T i).natAbs ≤ (co S i).natAbs := fun i => prim_le hT.2.1 zne ha (fun i => (e i).symm) i
  have le2 : ∀ i, (co S i).natAbs ≤ (co T i).natAbs := fun i => prim_le hS.2.1 ha zne (fun i => (e i)) i
  have top : co T (T.length - 1) = co S (T.length - 1) := by
    have a1 := le1 (T.length - 1); have a2 := le2 (T.length - 1)
    have p1 := hT.2.2
    have p2 := hS.2.2
    rw [← l] at p2; omega
  have az : a = co z 0 := by
    have := e (T.length - 1)
    rw [top] at this
    have p2 := hS.2.2
    rw [← l] at p2
    exact Int.eq_of_mul_eq_mul_right (by omega) this
  refine List.ext_getElem l fun i i1 i2 => ?_
  have c : co T i = co S i := Int.eq_of_mul_eq_mul_left ha (by rw [e i, az])
  simpa [co, List.getD_eq_getElem?_getD, i1, i2] using c
theorem IsG.unique {f g T S : List Int} (h1 : IsG f g T) (h2 : IsG f g S) : T = S := by
  obtain ⟨cT, ⟨c, u, v, hc, h⟩, ⟨a, z, ha, hz⟩, ⟨b, y, hb, hy⟩⟩ := h1
  obtain ⟨cS, ⟨c', u', v', hc', h'⟩, ⟨a', z', ha', hz'⟩, ⟨b', y', hb', hy'⟩⟩ := h2
  refine div_same cT cS (a := a' * b' * c) (b := a * b * c') (z := add (mul (smul b' u) z') (mul (smul a' v) y')) (y := add (mul (smul b u') z) (mul (smul a v') y)) (Int.mul_ne_zero (Int.mul_ne_zero ha' hb') hc) (Int.mul_ne_zero (Int.mul_ne_zero ha hb) hc') (fun x => ?_) fun x => ?_
  · simp only [ev_add, ev_mul, ev_smul]
    have a1 := h x; have a2 := hz' x; have a3 := hy' x
    grind
  · simp only [ev_add, ev_mul, ev_smul]
    have a1 := h' x; have a2 := hz x; have a3 := hy x
    grind
theorem IsG.swap {f g T : List Int} (h : IsG f g T) : IsG g f T := by
  obtain ⟨cT, ⟨c, u, v, hc, h⟩, k1, k2⟩ := h
  exact ⟨cT, ⟨c, v, u, hc, fun x => by rw [h x]; omega⟩, k2, k1⟩
theorem Ch.last {f g p T : List Int} (h : Ch f g p []) (hT : Canon T) {a b : Int} (ha : a ≠ 0) (hb : b ≠ 0) (hx : ∀ x, a * ev p x = b * ev T x) : IsG f g T := by
  obtain ⟨A, B, E, s0, t0, s1, t1, hA, hB, hE, h1, h2, h3, l0, l1, l2⟩ := h
  refine ⟨hT, ⟨A * b, smul a s0, smul a t0, Int.mul_ne_zero hA hb, fun x => ?_⟩, ⟨a * E, smul (A * b) t1, Int.mul_ne_zero ha hE, fun x => ?_⟩, ⟨a * E, smul (-(A * b)) s1, Int.mul_ne_zero ha hE, fun x => ?_⟩⟩ <;>
  · simp only [ev_smul]
    have a1 := h1 x; have a2 := h2 x; have a3 := h3 x; have a4 := hx x
    rw [ev_nil] at a2
    grind
/-- the rest by a divisor is nothing -/
theorem rest_nil {f T r w z : List Int} {a c : Int} (hT : Nm T) (ha : a ≠ 0) (h1 : ∀ x, a * ev f x = ev z x * ev T x) (h2 : ∀ x, c * ev f x = ev w x * ev T x + ev r x) (hl : r.length < T.length) (hr : r = [] ∨ Nm r) : r = [] := by
  have z0 := quo_zero hT.lt hT.2 (z := sub (smul c z) (smul a w)) (b := smul a r) (fun x => by
    simp only [ev_sub, ev_smul]
    have a1 := h1 x; have a2 := h2 x
    grind) (fun i hi => by rw [co_smul, co_ge (by omega)]; simp)
  rcases hr with h | h
  · exact h
  · refine absurd (fun x => ?_) h.ev_ne
    have a0 := z0 x
    simp only [ev_sub, ev_smul] at a0
    have a1 := h1 x; have a2 := h2 x
    have : a * ev r x = 0 := by grind
    exact (Int.mul_eq_zero.mp this).resolve_left ha
end KP

namespace KP
/-! the common divisor of a row -/
def gf (row : List Int) : Nat := row.foldl (fun g n => Nat.gcd g n.natAbs) 0
theorem gf_snoc (row : List Int) (n : Int) : gf (row ++ [n]) = Nat.gcd (gf row) n.natAbs := by simp [gf]
theorem foldl_dvd : ∀ (row : List Int) (g : Nat), row.foldl (fun g n => Nat.gcd g n.natAbs) g ∣ g ∧ ∀ n ∈ row, row.foldl (fun g n => Nat.gcd g n.natAbs) g ∣ n.natAbs
  | [], g => ⟨Nat.dvd_refl _, fun n h => by cases h⟩
  | a :: row, g => by
    have ih := foldl_dvd row (Nat.gcd g a.natAbs)
    refine ⟨Nat.dvd_trans ih.1 (Nat.gcd_dvd_left _ _), fun n h => ?_⟩
    rcases List.mem_cons.mp h with rfl | h
    · exact Nat.dvd_trans ih.1 (Nat.gcd_dvd_right _ _)
    · exact ih.2 n h
theorem dvd_foldl {d : Nat} : ∀ (row : List Int) (g : Nat), d ∣ g → (∀ n ∈ row, d ∣ n.natAbs) → d ∣ row.foldl (fun g n => Nat.gcd g n.natAbs) g
  | [], _, h, _ => h
  | a :: row, g, h, k => dvd_foldl row _ (Nat.dvd_gcd h (k a List.mem_cons_self)) fun n hn => k n (List.mem_cons_of_mem _ hn)
def cn (row : List Int) : Int := if co row (row.length - 1) < 0 then -(gf row : Int) else (gf row : Int)
def prm (row : List Int) : List Int := row.map fun n => n.fdiv (cn row)
theorem prm_len (row : List Int) : (prm row).length = row.length := by simp [prm]
theorem co_mem {row : List Int} {i : Nat} (h : i < row.length) : co row i ∈ row := by simp [co, List.getD_eq_getElem?_getD, h]
theorem gf_dvd (row : List Int) (i : Nat) : (gf row : Int) ∣ co row i := by
  by_cases h : i < row.length
  · exact Int.natAbs_dvd_natAbs.mp (by rw [Int.natAbs_natCast]; exact (foldl_dvd row 0).2 _ (co_mem h))
  · rw [co_ge (by omega)]; exact Int.dvd_zero _
theorem cn_abs (row : List Int) : (cn row).natAbs = gf row := by unfold cn; split <;> simp
theorem gf_le {row : List Int} {B : Nat} (h : Bd row B) (hn : Nm row) : 0 < gf row ∧ gf row ≤ B := by
  have d := gf_dvd row (row.length - 1)
  have d2 : gf row ∣ (co row (row.length - 1)).natAbs := by simpa using Int.natAbs_dvd_natAbs.mpr d
  have p : 0 < (co row (row.length - 1)).natAbs := Int.natAbs_pos.mpr hn.2
  have le := Nat.le_of_dvd p d2
  refine ⟨Nat.pos_of_dvd_of_pos d2 p, Nat.le_trans le (h _)⟩
theorem cn_ne {row : List Int} (hn : Nm row) : cn row ≠ 0 := fun z => by
  have := cn_abs row
  rw [z] at this
  have := gf_dvd row (row.length - 1)
  have g0 : (gf row : Int) = 0 := by omega
  rw [g0] at this
  exact hn.2 (Int.zero_dvd.mp this)
theorem prm_co {row : List Int} (hn : Nm row) (i : Nat) : co row i = cn row * co (prm row) i := by
  have c0 := cn_ne hn
  have d : cn row ∣ co row i := by
    have := gf_dvd row i
    unfold cn; split
    · exact Int.neg_dvd.mpr this
    · exact this
  by_cases h : i < row.length
  · have e : co (prm row) i = (co row i).fdiv (cn row) := by
      simp [co, prm, List.getD_eq_getElem?_getD, h]
    rw [e]
    exact (Int.mul_fdiv_cancel' d).symm
  · rw [co_ge (by omega), co_ge (by rw [prm_len]; omega)]; simp
theorem prm_ev {row : List Int} (hn : Nm row) (x : Int) : ev row x = cn row * ev (prm row) x := by
  rw [← ev_smul]; exact ev_of_co (fun i => by rw [co_smul, prm_co hn]) x
theorem prm_canon {row : List Int} (hn : Nm row) : Canon (prm row) := by
  have c0 := cn_ne hn
  have top := prm_co hn (row.length - 1)
  refine ⟨⟨fun e => hn.1 (by simpa [prm] using e), ?_⟩, fun d hd => ?_, ?_⟩
  · rw [prm_len]; intro z; rw [z] at top; exact hn.2 (by simpa using top)
  · have h1 : (d.natAbs * gf row) ∣ gf row := by
      have h2 : ∀ n ∈ row, d.natAbs * gf row ∣ n.natAbs := fun n hm => by
        obtain ⟨i, hi, rfl⟩ := List.getElem_of_mem hm
        have e : row[i] = co row i := by simp [co, List.getD_eq_getElem?_getD, hi]
        rw [e, prm_co hn i, Int.natAbs_mul, cn_abs, Nat.mul_comm]
        exact Nat.mul_dvd_mul_left _ (Int.natAbs_dvd_natAbs.mpr (hd i))
      exact dvd_foldl row 0 (Nat.dvd_zero _) h2
    have gp : 0 < gf row := by
      have := cn_abs row
      omega
    have h3 := Nat.le_of_dvd gp h1
    have h4 : d.natAbs ≠ 0 := fun z => by
      rw [z, Nat.zero_mul] at h1
      have := Nat.zero_dvd.mp h1; omega
    have h5 : d.natAbs * gf row ≥ 2 * gf row ∨ d.natAbs = 1 := by
      by_cases k : d.natAbs = 1
      · exact .inr k
      · exact .inl (Nat.mul_le_mul_right _ (by omega))
    omega
  · rw [prm_len]
    refine Classical.byContradiction fun no => ?_
    have neg : co (prm row) (row.length - 1) ≤ 0 := by omega
    unfold cn at top c0
    split at top
    · rename_i hlt
      have : 0 ≤ -(gf row : Int) * co (prm row) (row.length - 1) := by
        rw [Int.neg_mul]
        have := Int.mul_nonneg (show (0 : Int) ≤ gf row by omega) (show 0 ≤ - co (prm row) (row.length - 1) by omega)
        rw [Int.mul_neg] at this; exact this
      omega
    · rename_i hge
      have : 0 ≤ (gf row : Int) * - co (prm row) (row.length - 1) := Int.mul_nonneg (by omega) (by omega)
      rw [Int.mul_neg] at this
      have := hn.2
      omega
theorem canon_prm {T : List Int} (h : Canon T) : prm T = T := by
  have a := prm_canon h.1
  have e := prm_ev h.1
  exact (div_same h a (a := 1) (b := cn T) (z := [cn T]) (y := [1]) (by decide) (cn_ne h.1) (fun x => by rw [ev_cons, ev_nil, e x]; simp) (fun x => by rw [ev_cons, ev_nil, e x]; simp)).symm
/-! Euclid's steps -/
def stp : Nat → Nat → Nat → Prop
  | 0, _, r => r = 0
  | n + 1, l, r => r = 0 ∨ stp n r (l % r)
def fib : Nat → Nat
  | 0 => 0
  | 1 => 1
  | n + 2 => fib n + fib (n + 1)
theorem stp_fib : ∀ (n l r : Nat), r < l → ¬ stp n l r → fib (n + 2) ≤ l ∧ fib (n + 1) ≤ r
  | 0, l, r, h, k => by
    have : r ≠ 0 := k
    simp [fib]; omega
  | n + 1, l, r, h, k => by
    have k1 : r ≠ 0 := fun e => k (.inl e)
    have k2 : ¬ stp n r (l % r) := fun e => k (.inr e)
    obtain ⟨a, b⟩ := stp_fib n r (l % r) (Nat.mod_lt _ (by omega)) k2
    refine ⟨?_, a⟩
    have e : fib (n + 1 + 2) = fib (n + 1) + fib (n + 2) := rfl
    have d := Nat.div_add_mod l r
    have q : 1 ≤ l / r := (Nat.le_div_iff_mul_le (by omega)).mpr (by omega)
    have := Nat.mul_le_mul_left r q
    omega
theorem fib_mono : ∀ n, fib n ≤ fib (n + 1)
  | 0 => by simp [fib]
  | n + 1 => by rw [show fib (n + 1 + 1) = fib n + fib (n + 1) from rfl]; omega
theorem fib_eight (n : Nat) : 2 ^ 5 * fib n ≤ fib (n + 8) := by
  have h := fib_mono n
  have e2 : fib (n + 2) = fib n + fib (n + 1) := rfl
  have e3 : fib (n + 3) = fib (n + 1) + fib (n + 2) := rfl
  have e4 : fib (n + 4) = fib (n + 2) + fib (n + 3) := rfl
  have e5 : fib (n + 5) = fib (n + 3) + fib (n + 4) := rfl
  have e6 : fib (n + 6) = fib (n + 4) + fib (n + 5) := rfl
  have e7 : fib (n + 7) = fib (n + 5) + fib (n + 6) := rfl
  have e8 : fib (n + 8) = fib (n + 6) + fib (n + 7) := rfl
  omega
theorem fib_pow : ∀ k, (2 ^ 5) ^ k ≤ fib (8 * k + 1)
  | 0 => by simp [fib]
  | k + 1 => by
    have h := fib_eight (8 * k + 1)
    have ih := fib_pow k
    rw [Nat.pow_succ, show 8 * (k + 1) + 1 = 8 * k + 1 + 8 by omega]
    omega
theorem stp_ok {l r : Nat} (h : r < 2 ^ 2500) : stp 4000 l r := by
  refine Classical.byContradiction fun no => ?_
  have k1 : r ≠ 0 := fun e => no (.inl e)
  have k2 : ¬ stp 3999 r (l % r) := fun e => no (.inr e)
  have a := (stp_fib 3999 r (l % r) (Nat.mod_lt _ (by omega)) k2).1
  have b := fib_pow 500
  rw [← Nat.pow_mul] at b
  have e : (8 * 500 + 1) = 3999 + 2 := rfl
  rw [e] at b
  have : (2 : Nat) ^ (5 * 500) = 2 ^ 2500 := by congr 1
  omega
end KP

namespace KP
/-- proportional -/
def Pr (p q : List Int) : Prop := ∃ a b : Int, a ≠ 0 ∧ b ≠ 0 ∧ ∀ x, a * ev p x = b * ev q x
theorem Pr.refl (p : List Int) : Pr p p := ⟨1, 1, by decide, by decide, fun _ => rfl⟩
theorem Pr.symm {p q : List Int} (h : Pr p q) : Pr q p := by
  obtain ⟨a, b, ha, hb, h⟩ := h
  exact ⟨b, a, hb, ha, fun x => (h x).symm⟩
theorem Pr.prm {p : List Int} (h : Nm p) : Pr p (prm p) := ⟨1, cn p, by decide, cn_ne h, fun x => by rw [prm_ev h x]; simp⟩
theorem Pr.co {p q : List Int} (h : Pr p q) : ∃ a b : Int, a ≠ 0 ∧ b ≠ 0 ∧ ∀ i, a * co p i = b * co q i := by
  obtain ⟨a, b, ha, hb, h⟩ := h
  exact ⟨a, b, ha, hb, fun i => by rw [← co_smul, ← co_smul]; exact co_of_ev (fun x => by rw [ev_smul, ev_smul, h x]) i⟩
theorem Pr.len {p q : List Int} (h : Pr p q) (hp : Nm p) (hq : Nm q) : p.length = q.length := by
  obtain ⟨a, b, ha, hb, h⟩ := h.co
  have pp := hp.pos
  have qp := hq.pos
  rcases Nat.lt_trichotomy p.length q.length with k | k | k
  · have := h (q.length - 1)
    rw [co_ge (p := p) (by omega), Int.mul_zero] at this
    rcases Int.mul_eq_zero.mp this.symm with z | z
    · exact absurd z hb
    · exact absurd z hq.2
  · exact k
  · have := h (p.length - 1)
    rw [co_ge (p := q) (by omega), Int.mul_zero] at this
    rcases Int.mul_eq_zero.mp this with z | z
    · exact absurd z ha
    · exact absurd z hp.2
theorem Pr.bd {p q : List Int} {A : Nat} (h : Pr p q) (hq : Prim q) (hp : Bd p A) : Bd q A := by
  obtain ⟨a, b, ha, hb, h⟩ := h.co
  exact fun i => Nat.le_trans (prim_le hq ha hb h i) (hp i)
/-- the bounds of a later rest and of the one ahead of it, L: the length of the one ahead -/
def bq (A L : Nat) : Nat := (64 * A) ^ (2 * (10 - L))
def bp (A L : Nat) : Nat := A * (64 * A) ^ (2 * (9 - L))
structure Two (A : Nat) (f g : List Int) : Prop where
  nf : Nm f
  ng : Nm g
  lf : f.length ≤ 9
  lg : g.length ≤ 9
  bf : Bd f A
  bg : Bd g A
structure S1 (A : Nat) (f g p q : List Int) : Prop where
  np : Nm p
  nq : Nm q
  rp : Pr f p
  rq : Pr g q
  bp : Bd p A
  bq : Bd q A
structure S2 (A : Nat) (f g p q : List Int) : Prop where
  ch : Ch f g p q
  np : Nm p
  gf : g.length ≤ f.length
  pg : p.length ≤ g.length
  qp : q.length < p.length
  hq : q = [] ∨ (Nm q ∧ Prim q ∧ Bd q (KP.bq A p.length))
  bp : Bd p (KP.bp A p.length)
theorem Ch.start2 {f g p q : List Int} (hp : Pr f p) (hq : Pr g q) (lp : f.length = p.length) : Ch f g p q := by
  obtain ⟨a, b, ha, hb, h⟩ := hp
  obtain ⟨a', b', ha', hb', h'⟩ := hq
  refine ⟨b, b', a * a', [a], [], [], [a'], hb, hb', Int.mul_ne_zero ha ha', fun x => ?_, fun x => ?_, fun x => ?_, fun i _ => co_nil i, ?_, ?_⟩
  · rw [← h x]; simp [ev_cons, ev_nil]
  · rw [← h' x]; simp [ev_cons, ev_nil]
  · simp [ev_cons, ev_nil]
  · rw [lp, Nat.sub_self]; exact lt_len [a']
  · rw [lp, Nat.sub_self, co_zero]; exact ha'
theorem bq_bound {A N L : Nat} (hA : 1 ≤ A) (hN : N ≤ 2 * (10 - L)) (hN1 : 1 ≤ N) (h16 : N ≤ 16) : N * ((2 * N * A + 1) ^ (N - 1) * A) ≤ bq A L := by
  have e1 : 2 * N * A + 1 ≤ 64 * A := by
    have : N * A ≤ 16 * A := Nat.mul_le_mul_right _ h16
    have e : 2 * N * A = 2 * (N * A) := by grind
    omega
  have e2 : N * A ≤ 64 * A := Nat.mul_le_mul_right _ (by omega)
  have e3 : (2 * N * A + 1) ^ (N - 1) ≤ (64 * A) ^ (N - 1) := Nat.pow_le_pow_left e1 _
  have e4 : N * ((2 * N * A + 1) ^ (N - 1) * A) = (N * A) * (2 * N * A + 1) ^ (N - 1) := by grind
  rw [e4]
  refine Nat.le_trans (Nat.mul_le_mul e2 e3) ?_
  have e5 : (64 * A) * (64 * A) ^ (N - 1) = (64 * A) ^ N := by
    rw [Nat.mul_comm, ← Nat.pow_succ]; congr 1; omega
  rw [e5]
  exact Nat.pow_le_pow_right (by omega) hN
section
variable {A : Nat} {f g p q r r' w : List Int} {c : Int}
/-- r' stands for r without its common divisor, or is nothing as r is -/
def Cut (r r' : List Int) : Prop := (r = [] ∧ r' = []) ∨ (Nm r ∧ r' = KP.prm r)
theorem Cut.ex (h : Cut r r') : ∃ e : Int, e ≠ 0 ∧ ∀ x, ev r x = e * ev r' x := by
  rcases h with ⟨rfl, rfl⟩ | ⟨h, rfl⟩
  · exact ⟨1, by decide, fun x => by rw [ev_nil]; simp⟩
  · exact ⟨cn r, cn_ne h, prm_ev h⟩
theorem Cut.len (h : Cut r r') : r'.length = r.length := by
  rcases h with ⟨rfl, rfl⟩ | ⟨h, rfl⟩
  · rfl
  · exact prm_len r
/-- a turn from a state in which p, q stand for f, g or are later ones -/
theorem turn_of (T : Two A f g) (hA : 1 ≤ A) (ch : Ch f g p q) (hp : Nm p) (hq : Nm q) (gfl : g.length ≤ f.length) (qg : q.length ≤ g.length) (qp : q.length ≤ p.length) (pf : p.length ≤ f.length) (hc : c ≠ 0)
    (hx : ∀ x, c * ev p x = ev w x * ev q x + ev r x) (hr : r.length < q.length) (hcut : Cut r r') (bQ : Bd q (KP.bp A q.length)) : S2 A f g q r' := by
  obtain ⟨e, he, hre⟩ := hcut.ex
  have hl := hcut.len
  have ch2 : Ch f g q r' := ch.step hp hq hc he (by omega) qp pf fun x => by have a := hx x; rw [hre x] at a; exact a
  refine ⟨ch2, hq, gfl, qg, by omega, ?_, bQ⟩
  rcases hcut with ⟨rfl, rfl⟩ | ⟨hn, rfl⟩
  · exact .inl rfl
  · have cc := prm_canon hn
    refine .inr ⟨cc.1, cc.2.1, ?_⟩
    have := ch2.bound T.nf T.ng cc.1 cc.2.1 (by omega) (by omega) qg T.bf T.bg rfl
    have pr := cc.1.pos
    have l1 := T.lf; have l2 := T.lg
    refine this.mono (bq_bound hA (by omega) (by omega) (by omega))
theorem bp_ge (A L : Nat) (hA : 1 ≤ A) : A ≤ bp A L := by
  unfold bp
  exact Nat.le_mul_of_pos_right _ (Nat.pow_pos (by omega))
theorem S1.turn (T : Two A f g) (hA : 1 ≤ A) (s : S1 A f g p q) (gfl : g.length ≤ f.length) (hc : c ≠ 0) (hx : ∀ x, c * ev p x = ev w x * ev q x + ev r x) (hr : r.length < q.length) (hcut : Cut r r') : S2 A f g q r' := by
  have lp := s.rp.len T.nf s.np
  have lq := s.rq.len T.ng s.nq
  exact turn_of T hA (Ch.start2 s.rp s.rq lp) s.np s.nq gfl (by omega) (by omega) (by omega) hc hx hr hcut (s.bq.mono (bp_ge A _ hA))
theorem S2.turn (T : Two A f g) (hA : 1 ≤ A) (s : S2 A f g p q) (hq : q ≠ []) (hc : c ≠ 0) (hx : ∀ x, c * ev p x = ev w x * ev q x + ev r x) (hr : r.length < q.length) (hcut : Cut r r') : S2 A f g q r' := by
  rcases s.hq with k | ⟨q1, q2, q3⟩
  · exact absurd k hq
  · have a1 := s.gf; have a2 := s.pg; have a3 := s.qp; have a4 := T.lf; have a5 := T.lg
    refine turn_of T hA s.ch s.np q1 a1 (by omega) (by omega) (by omega) hc hx hr hcut (q3.mono ?_)
    show (64 * A) ^ (2 * (10 - p.length)) ≤ A * (64 * A) ^ (2 * (9 - q.length))
    refine Nat.le_trans (Nat.pow_le_pow_right (by omega) (by omega)) (Nat.le_mul_of_pos_left _ hA)
/-- the shorter one first: they change places -/
theorem S1.swap (s : S1 A f g p q) (hlt : p.length < q.length) (hc : c ≠ 0) (hx : ∀ x, c * ev p x = ev w x * ev q x + ev r x) (hr : r.length < q.length) (hcut : Cut r r') : S1 A g f q r' ∧ Nm r' := by
  have w0 : ∀ x, ev w x = 0 := quo_zero s.nq.lt s.nq.2 (b := sub (smul c p) r) (fun x => by
    rw [ev_sub, ev_smul]; have := hx x; omega) (fun i hi => by rw [co_sub, co_smul, co_ge (p := p) (by omega), co_ge (p := r) (by omega)]; simp)
  have rx : ∀ x, ev r x = c * ev p x := fun x => by rw [hx x, w0 x]; simp
  have rn : r ≠ [] := fun e => s.np.ev_ne fun x => by
    have := rx x
    rw [e, ev_nil] at this
    exact (Int.mul_eq_zero.mp this.symm).resolve_left hc
  rcases hcut with ⟨k, _⟩ | ⟨hn, rfl⟩
  · exact absurd k rn
  · have cc := prm_canon hn
    have pr : Pr p (KP.prm r) := ⟨c, cn r, hc, cn_ne hn, fun x => by rw [← rx x, prm_ev hn x]⟩
    obtain ⟨a, b, ha, hb, h⟩ := s.rp
    obtain ⟨a', b', ha', hb', h'⟩ := pr
    refine ⟨⟨s.nq, cc.1, s.rq, ⟨a * a', b * b', Int.mul_ne_zero ha ha', Int.mul_ne_zero hb hb', fun x => ?_⟩, s.bq, Pr.bd ⟨a', b', ha', hb', h'⟩ cc.2.1 s.bp⟩, cc.1⟩
    have a1 := h x; have a2 := h' x
    grind
theorem S2.done (s : S2 A f g p []) (hT : Canon r) (h : Pr p r) : IsG f g r := by
  obtain ⟨a, b, ha, hb, h⟩ := h
  exact s.ch.last hT ha hb h
end
/-- how great the rest of a division gets -/
def rb (P Q s : Nat) : Nat := P * (2 * Q) ^ s
theorem rb_later {L l : Nat} (h2 : 2 ≤ l) (hl : l < L) (h9 : L ≤ 9) : rb (bp (2 ^ 42) L) (bq (2 ^ 42) L) (L - l + 1) < 2 ^ 2500 := by
  have e : 64 * 2 ^ 42 = 2 ^ 48 := by decide
  unfold rb bp bq
  rw [e]
  simp only [← Nat.pow_mul]
  have key : 42 + 48 * (2 * (9 - L)) + (1 + 48 * (2 * (10 - L))) * (L - l + 1) < 2500 := by
    have hs : L - l + 1 ≤ L - 1 := by omega
    have a : (1 + 48 * (2 * (10 - L))) * (L - l + 1) ≤ (1 + 48 * (2 * (10 - L))) * (L - 1) := Nat.mul_le_mul_left _ hs
    have b : 42 + 48 * (2 * (9 - L)) + (1 + 48 * (2 * (10 - L))) * (L - 1) < 2500 := by
      rcases (show L = 3 ∨ L = 4 ∨ L = 5 ∨ L = 6 ∨ L = 7 ∨ L = 8 ∨ L = 9 by omega) with h | h | h | h | h | h | h <;> (subst h; decide)
    omega
  have p2 : 2 * 2 ^ (48 * (2 * (10 - L))) = 2 ^ (1 + 48 * (2 * (10 - L))) := by rw [Nat.pow_add]
  rw [p2, ← Nat.pow_mul, ← Nat.pow_add, ← Nat.pow_add]
  exact Nat.pow_lt_pow_right (by decide) key
theorem rb_const {L : Nat} (h1 : 1 ≤ L) (h9 : L ≤ 9) : rb (bp (2 ^ 42) L) 1 L < 2 ^ 2500 := by
  have e : 64 * 2 ^ 42 = 2 ^ 48 := by decide
  unfold rb bp
  rw [e]
  simp only [← Nat.pow_mul]
  rw [← Nat.pow_add, show 2 * 1 = 2 ^ 1 from rfl, ← Nat.pow_mul, ← Nat.pow_add]
  exact Nat.pow_lt_pow_right (by decide) (by omega)
theorem rb_first {s : Nat} (h : s ≤ 9) : rb (2 ^ 42) (2 ^ 42) s < 2 ^ 2500 := by
  unfold rb
  rw [show 2 * 2 ^ 42 = 2 ^ 43 from rfl, ← Nat.pow_mul, ← Nat.pow_add]
  exact Nat.pow_lt_pow_right (by decide) (by omega)
end KP

namespace KP
/-! one step of a division with integers -/
/-- the two factors of a step: of the rest, and of the divisor -/
structure Fac (ra qb fac tk : Int) : Prop where
  eq : qb * tk = ra * fac
  pos : fac ≠ 0
  le : fac.natAbs ≤ qb.natAbs
  tl : tk.natAbs ≤ ra.natAbs
theorem fac_ok {ra qb : Int} (ha : ra ≠ 0) (hb : qb ≠ 0) : Fac ra qb (((qb.natAbs : Int)).fdiv (Nat.gcd ra.natAbs qb.natAbs : Nat)) ((ra * (((qb.natAbs : Int)).fdiv (Nat.gcd ra.natAbs qb.natAbs : Nat))).fdiv qb) := by
  have gpos : 0 < Nat.gcd ra.natAbs qb.natAbs := Nat.gcd_pos_of_pos_left _ (Int.natAbs_pos.mpr ha)
  obtain ⟨u, hu⟩ := Nat.gcd_dvd_left ra.natAbs qb.natAbs
  obtain ⟨v, hv⟩ := Nat.gcd_dvd_right ra.natAbs qb.natAbs
  generalize hg : Nat.gcd ra.natAbs qb.natAbs = g at *
  have vpos : 0 < v := by
    rcases Nat.eq_zero_or_pos v with z | z
    · rw [z] at hv; omega
    · exact z
  have e1 : ((qb.natAbs : Int)).fdiv (g : Nat) = v := by
    rw [hv, Int.fdiv_eq_ediv_of_nonneg _ (by omega), Int.natCast_mul]
    exact Int.mul_ediv_cancel_left _ (by omega)
  rw [e1]
  -- ra = ± g u, qb = ± g v
  have key : ∃ t : Int, t.natAbs = u ∧ qb * t = ra * v := by
    rcases Int.natAbs_eq ra with r1 | r1 <;> rcases Int.natAbs_eq qb with q1 | q1
    · exact ⟨u, by simp, by rw [r1, q1, hu, hv]; simp only [Int.natCast_mul]; grind⟩
    · exact ⟨-u, by simp, by rw [r1, q1, hu, hv]; simp only [Int.natCast_mul]; grind⟩
    · exact ⟨-u, by simp, by rw [r1, q1, hu, hv]; simp only [Int.natCast_mul]; grind⟩
    · exact ⟨u, by simp, by rw [r1, q1, hu, hv]; simp only [Int.natCast_mul]; grind⟩
  obtain ⟨t, ht, hk⟩ := key
  have e2 : (ra * (v : Int)).fdiv qb = t := by
    rw [← hk]
    exact Int.mul_fdiv_cancel_left _ hb
  rw [e2]
  refine ⟨hk, by omega, ?_, ?_⟩
  · rw [Int.natAbs_natCast, hv]; exact Nat.le_mul_of_pos_left _ gpos
  · rw [ht, hu]; exact Nat.le_mul_of_pos_left _ gpos
/-- the divisor moved up and multiplied -/
def low (q : List Int) (k : Nat) (t : Int) : List Int := List.replicate k 0 ++ q.map (· * t)
theorem low_len (q : List Int) (k : Nat) (t : Int) : (low q k t).length = k + q.length := by simp [low]
theorem low_ev (q : List Int) (k : Nat) (t x : Int) : ev (low q k t) x = x ^ k * (t * ev q x) := by
  have e : q.map (· * t) = smul t q := List.map_congr_left fun a _ => Int.mul_comm a t
  rw [low, ev_append, ev_zeros, List.length_replicate, e, ev_smul]; omega
theorem co_app {p q : List Int} {i : Nat} : co (p ++ q) i = if i < p.length then co p i else co q (i - p.length) := by
  by_cases h : i < p.length
  · rw [if_pos h]; simp [co, List.getD_eq_getElem?_getD, List.getElem?_append_left h]
  · rw [if_neg h]; simp [co, List.getD_eq_getElem?_getD, List.getElem?_append_right (by omega : p.length ≤ i)]
theorem co_rep0 {k i : Nat} : co (List.replicate k 0) i = 0 := by
  by_cases h : i < k
  · simp [co, List.getD_eq_getElem?_getD, h]
  · exact co_ge (by rw [List.length_replicate]; omega)
theorem low_co (q : List Int) (k : Nat) (t : Int) (i : Nat) : co (low q k t) i = if i < k then 0 else t * co q (i - k) := by
  have e : q.map (· * t) = smul t q := List.map_congr_left fun a _ => Int.mul_comm a t
  rw [low, co_app, List.length_replicate, co_rep0, e, co_smul]
/-- the rest behind a step, before its zeros are cut -/
def zl (r q : List Int) (fac tk : Int) : List Int := (List.range r.length).map fun i => co r i * fac - co (low q (r.length - q.length) tk) i
theorem zl_len (r q : List Int) (fac tk : Int) : (zl r q fac tk).length = r.length := by simp [zl]
theorem zl_co {r q : List Int} {fac tk : Int} (h : q.length ≤ r.length) (i : Nat) : co (zl r q fac tk) i = co r i * fac - co (low q (r.length - q.length) tk) i := by
  by_cases hi : i < r.length
  · simp [zl, co, List.getD_eq_getElem?_getD, hi]
  · rw [co_ge (by rw [zl_len]; omega), co_ge (p := r) (by omega), co_ge (p := low _ _ _) (by rw [low_len]; omega)]; simp
theorem zl_ev {r q : List Int} {fac tk : Int} (h : q.length ≤ r.length) (x : Int) : ev (zl r q fac tk) x = fac * ev r x - x ^ (r.length - q.length) * (tk * ev q x) := by
  rw [← low_ev, ← ev_smul, ← ev_sub]
  exact ev_of_co (fun i => by rw [zl_co h, co_sub, co_smul]; grind) x
theorem zl_top {r q : List Int} {fac tk : Int} (h : q.length ≤ r.length) (hq : q ≠ []) (F : Fac (co r (r.length - 1)) (co q (q.length - 1)) fac tk) : co (zl r q fac tk) (r.length - 1) = 0 := by
  have hp := List.length_pos_iff.mpr hq
  rw [zl_co h, low_co, if_neg (by omega), show r.length - 1 - (r.length - q.length) = q.length - 1 by omega]
  have := F.eq
  grind
theorem zl_bd {r q : List Int} {fac tk : Int} {M Q : Nat} (h : q.length ≤ r.length) (F : Fac (co r (r.length - 1)) (co q (q.length - 1)) fac tk) (hr : Bd r M) (hq : Bd q Q) : Bd (zl r q fac tk) (M * (2 * Q)) := fun i => by
  rw [zl_co h, low_co]
  have a1 : (co r i * fac).natAbs ≤ M * Q := by
    rw [Int.natAbs_mul]; exact Nat.mul_le_mul (hr i) (Nat.le_trans F.le (hq _))
  have e : M * (2 * Q) = M * Q + M * Q := by grind
  rw [e]
  split
  · omega
  · have a2 : (tk * co q (i - (r.length - q.length))).natAbs ≤ M * Q := by
      rw [Int.natAbs_mul]; exact Nat.mul_le_mul (Nat.le_trans F.tl (hr _)) (hq _)
    omega
structure RInv (p q r : List Int) (P Q s : Nat) : Prop where
  nm : r = [] ∨ Nm r
  id : ∃ (c : Int) (w : List Int), c ≠ 0 ∧ ∀ x, c * ev p x = ev w x * ev q x + ev r x
  bd : Bd r (P * (2 * Q) ^ s)
  s1 : s ≤ p.length + 1 - q.length
  s2 : q.length ≤ r.length → s + r.length ≤ p.length
theorem RInv.start {p q : List Int} {P Q : Nat} (h : p = [] ∨ Nm p) (bp : Bd p P) : RInv p q p P Q 0 :=
  ⟨h, ⟨1, [], by decide, fun x => by rw [ev_nil]; omega⟩, by simpa using bp, Nat.zero_le _, fun _ => by omega⟩
theorem RInv.step {p q r r' : List Int} {P Q s : Nat} {fac tk : Int} (I : RInv p q r P Q s) (hq : Nm q) (bq : Bd q Q) (h : q.length ≤ r.length) (F : Fac (co r (r.length - 1)) (co q (q.length - 1)) fac tk)
    (nm : r' = [] ∨ Nm r') (len : r'.length < r.length) (hev : ∀ x, ev r' x = ev (zl r q fac tk) x) (hb : Bd r' (P * (2 * Q) ^ s * (2 * Q))) : RInv p q r' P Q (s + 1) := by
  obtain ⟨c, w, hc, hid⟩ := I.id
  have s2 := I.s2 h
  have qp := hq.pos
  have F0 := F.pos
  refine ⟨nm, ⟨fac * c, add (smul fac w) (List.replicate (r.length - q.length) 0 ++ [tk]), Int.mul_ne_zero F0 hc, fun x => ?_⟩, by rw [Nat.pow_succ, ← Nat.mul_assoc]; exact hb, by omega, fun _ => by omega⟩
  rw [hev x, zl_ev h, ev_add, ev_smul, ev_append, ev_zeros, List.length_replicate, ev_cons, ev_nil]
  have := hid x
  grind
end KP

namespace KP
/-- a pair in the chain of f and g -/
def DInv (A : Nat) (f g p q : List Int) : Prop := (S1 A f g p q ∧ p.length < q.length) ∨ ∃ F G, ((F = f ∧ G = g) ∨ (F = g ∧ G = f)) ∧ G.length ≤ F.length ∧ (S1 A F G p q ∨ S2 A F G p q)
theorem Two.swap {A : Nat} {f g : List Int} (T : Two A f g) : Two A g f := ⟨T.ng, T.nf, T.lg, T.lf, T.bg, T.bf⟩
theorem Two.pick {A : Nat} {f g F G : List Int} (T : Two A f g) (h : (F = f ∧ G = g) ∨ (F = g ∧ G = f)) : Two A F G := by
  rcases h with ⟨rfl, rfl⟩ | ⟨rfl, rfl⟩
  · exact T
  · exact T.swap
theorem DInv.of {A : Nat} {f g p q : List Int} (T : Two A f g) (s : S1 A f g p q) : DInv A f g p q := by
  have lp := s.rp.len T.nf s.np
  have lq := s.rq.len T.ng s.nq
  by_cases h : p.length < q.length
  · exact .inl ⟨s, h⟩
  · exact .inr ⟨f, g, .inl ⟨rfl, rfl⟩, by omega, .inl s⟩
theorem S1.self {A : Nat} {f g : List Int} (T : Two A f g) : S1 A f g f g := ⟨T.nf, T.ng, .refl _, .refl _, T.bf, T.bg⟩
theorem S1.prims {A : Nat} {f g : List Int} (T : Two A f g) : S1 A f g (prm f) (prm g) :=
  ⟨(prm_canon T.nf).1, (prm_canon T.ng).1, .prm T.nf, .prm T.ng, (Pr.prm T.nf).bd (prm_canon T.nf).2.1 T.bf, (Pr.prm T.ng).bd (prm_canon T.ng).2.1 T.bg⟩
theorem DInv.turn {A : Nat} {f g p q r r' w : List Int} {c : Int} (T : Two A f g) (hA : 1 ≤ A) (d : DInv A f g p q) (hq : q ≠ []) (hc : c ≠ 0) (hx : ∀ x, c * ev p x = ev w x * ev q x + ev r x) (hr : r.length < q.length) (hcut : Cut r r') : DInv A f g q r' := by
  rcases d with ⟨s, lt⟩ | ⟨F, G, hFG, le, s⟩
  · have sw := s.swap lt hc hx hr hcut
    have lp := s.rp.len T.nf s.np
    have lq := s.rq.len T.ng s.nq
    exact .inr ⟨g, f, .inr ⟨rfl, rfl⟩, by omega, .inl sw.1⟩
  · have T2 := T.pick hFG
    rcases s with s | s
    · exact .inr ⟨F, G, hFG, le, .inr (s.turn T2 hA le hc hx hr hcut)⟩
    · exact .inr ⟨F, G, hFG, le, .inr (s.turn T2 hA hq hc hx hr hcut)⟩
/-- what is known of the sizes -/
structure Sz (A N Z : Nat) : Prop where
  first : ∀ s, s ≤ 9 → rb A A s < Z
  later : ∀ L l, 2 ≤ l → l < L → L ≤ N → rb (bp A L) (bq A L) (L + 1 - l) < Z
  const : ∀ L, 1 ≤ L → L ≤ N → rb (bp A L) 1 L < Z
theorem one_prim {q : List Int} (hq : Nm q) (hp : Prim q) (h1 : q.length = 1) : Bd q 1 := fun i => by
  have : (co q 0).natAbs = 1 := hp (co q 0) fun j => by
    cases j with
    | zero => exact Int.dvd_refl _
    | succ j => rw [co_ge (p := q) (i := j + 1) (by omega)]; exact ⟨0, by simp⟩
  cases i with
  | zero => omega
  | succ i => rw [co_ge (by omega)]; simp
theorem DInv.sizes {A N Z : Nat} {f g p q : List Int} (T : Two A f g) (hA : 1 ≤ A) (z : Sz A N Z) (hN : min f.length g.length ≤ N) (d : DInv A f g p q) (hq : q ≠ []) : Nm p ∧ Nm q ∧ p.length ≤ 9 ∧ q.length ≤ 9 ∧ ∃ P Q, Bd p P ∧ Bd q Q ∧ 1 ≤ Q ∧ Q < Z ∧ rb P Q (p.length + 1 - q.length) < Z := by
  have first : ∀ {f g}, Two A f g → S1 A f g p q → _ := fun {f g} T s => by
    have lp := s.rp.len T.nf s.np
    have lq := s.rq.len T.ng s.nq
    have a1 := T.lf; have a2 := T.lg
    have qp := s.nq.pos
    exact (⟨s.np, s.nq, by omega, by omega, A, A, s.bp, s.bq, hA, by simpa [rb] using z.first 0 (by omega), z.first _ (by omega)⟩ : Nm p ∧ Nm q ∧ p.length ≤ 9 ∧ q.length ≤ 9 ∧ ∃ P Q, Bd p P ∧ Bd q Q ∧ 1 ≤ Q ∧ Q < Z ∧ rb P Q (p.length + 1 - q.length) < Z)
  rcases d with ⟨s, _⟩ | ⟨F, G, hFG, le, s⟩
  · exact first T s
  · have T2 := T.pick hFG
    rcases s with s | s
    · exact first T2 s
    · rcases s.hq with k | ⟨q1, q2, q3⟩
      · exact absurd k hq
      · have a1 := T2.lf; have a2 := T2.lg; have a3 := s.pg; have a4 := s.qp
        have hG : G.length ≤ N := by
          rcases hFG with ⟨rfl, rfl⟩ | ⟨rfl, rfl⟩ <;> omega
        have qp := q1.pos
        refine ⟨s.np, q1, by omega, by omega, ?_⟩
        by_cases l1 : q.length = 1
        · have zc := z.const _ s.np.pos (show p.length ≤ N by omega)
          have b1 := bp_ge A p.length hA
          refine ⟨_, 1, s.bp, one_prim q1 q2 l1, Nat.le_refl _, Nat.lt_of_le_of_lt ?_ zc, ?_⟩
          · unfold rb
            exact Nat.mul_pos (by omega) (Nat.pow_pos (by decide))
          · rw [l1, Nat.add_sub_cancel]
            exact zc
        · have zl := z.later _ _ (show 2 ≤ q.length by omega) a4 (show p.length ≤ N by omega)
          have b1 := bp_ge A p.length hA
          have bqp : 0 < KP.bq A p.length := Nat.pow_pos (by omega)
          refine ⟨_, _, s.bp, q3, bqp, Nat.lt_of_le_of_lt ?_ zl, zl⟩
          unfold rb
          have h1 : 2 * KP.bq A p.length ≤ (2 * KP.bq A p.length) ^ (p.length + 1 - q.length) := Nat.le_pow (by omega)
          have h2 : (2 * KP.bq A p.length) ^ (p.length + 1 - q.length) ≤ KP.bp A p.length * (2 * KP.bq A p.length) ^ (p.length + 1 - q.length) := Nat.le_mul_of_pos_left _ (by omega)
          omega
theorem DInv.done {A N Z : Nat} {f g p : List Int} (T : Two A f g) (z : Sz A N Z) (hN : min f.length g.length ≤ N) (d : DInv A f g p []) : Nm p ∧ p.length ≤ 9 ∧ IsG f g (prm p) ∧ Bd p (KP.bp A p.length) ∧ KP.bp A p.length < Z := by
  have no : ∀ {f g}, ¬ S1 A f g p [] := fun s => s.nq.1 rfl
  rcases d with ⟨s, _⟩ | ⟨F, G, hFG, le, s⟩
  · exact absurd s no
  · rcases s with s | s
    · exact absurd s no
    · have T2 := T.pick hFG
      have a1 := T2.lf; have a2 := T2.lg; have a3 := s.pg
      have hG : G.length ≤ N := by
        rcases hFG with ⟨rfl, rfl⟩ | ⟨rfl, rfl⟩ <;> omega
      have g1 : IsG F G (prm p) := s.done (prm_canon s.np) (.prm s.np)
      refine ⟨s.np, by omega, ?_, s.bp, ?_⟩
      · rcases hFG with ⟨rfl, rfl⟩ | ⟨rfl, rfl⟩
        · exact g1
        · exact g1.swap
      · have := z.const _ s.np.pos (show p.length ≤ N by omega)
        unfold rb at this
        exact Nat.lt_of_le_of_lt (Nat.le_mul_of_pos_right _ (Nat.pow_pos (by decide))) this
theorem sz_main : Sz (2 ^ 42) 9 (2 ^ 2500) where
  first := fun s h => rb_first h
  later := fun L l h1 h2 h3 => by
    have := rb_later h1 h2 h3
    rwa [show L + 1 - l = L - l + 1 by omega]
  const := fun L h1 h2 => rb_const h1 h2
theorem sz_long : Sz (2 ^ 92) 6 (2 ^ 8000) where
  first := fun s h => by
    unfold rb
    rw [show 2 * 2 ^ 92 = 2 ^ 93 from rfl, ← Nat.pow_mul, ← Nat.pow_add]
    exact Nat.pow_lt_pow_right (by decide) (by omega)
  later := fun L l h1 h2 h3 => by
    have e : 64 * 2 ^ 92 = 2 ^ 98 := by decide
    unfold rb bp bq
    rw [e]
    simp only [← Nat.pow_mul]
    have key : 92 + 98 * (2 * (9 - L)) + (1 + 98 * (2 * (10 - L))) * (L + 1 - l) < 8000 := by
      have hs : L + 1 - l ≤ L - 1 := by omega
      have a : (1 + 98 * (2 * (10 - L))) * (L + 1 - l) ≤ (1 + 98 * (2 * (10 - L))) * (L - 1) := Nat.mul_le_mul_left _ hs
      have b : 92 + 98 * (2 * (9 - L)) + (1 + 98 * (2 * (10 - L))) * (L - 1) < 8000 := by
        rcases (show L = 3 ∨ L = 4 ∨ L = 5 ∨ L = 6 by omega) with h | h | h | h <;> (subst h; decide)
      omega
    have p2 : 2 * 2 ^ (98 * (2 * (10 - L))) = 2 ^ (1 + 98 * (2 * (10 - L))) := by rw [Nat.pow_add]
    rw [p2, ← Nat.pow_mul, ← Nat.pow_add, ← Nat.pow_add]
    exact Nat.pow_lt_pow_right (by decide) key
  const := fun L h1 h2 => by
    have e : 64 * 2 ^ 92 = 2 ^ 98 := by decide
    unfold rb bp
    rw [e]
    simp only [← Nat.pow_mul]
    rw [← Nat.pow_add, show 2 * 1 = 2 ^ 1 from rfl, ← Nat.pow_mul, ← Nat.pow_add]
    exact Nat.pow_lt_pow_right (by decide) (by omega)
theorem Sz.mono {A N Z Y : Nat} (h : Sz A N Z) (k : Z ≤ Y) : Sz A N Y := ⟨fun s a => Nat.lt_of_lt_of_le (h.first s a) k, fun L l a b c => Nat.lt_of_lt_of_le (h.later L l a b c) k, fun L a b => Nat.lt_of_lt_of_le (h.const L a b) k⟩
end KP

namespace KP
theorem ext_co {p q : List Int} (h : p.length = q.length) (e : ∀ i, co p i = co q i) : p = q := by
  refine List.ext_getElem h fun i h1 h2 => ?_
  have := e i
  simpa [co, List.getD_eq_getElem?_getD, h1, h2] using this
theorem co_set {p : List Int} {k i : Nat} {z : Int} (h : k < p.length) : co (p.set k z) i = if i = k then z else co p i := by
  by_cases e : i = k
  · subst e; simp [co, List.getD_eq_getElem?_getD, h]
  · rw [if_neg e]; simp [co, List.getD_eq_getElem?_getD, Ne.symm e]
/-- the rest while the divisor is taken off, j of its items done -/
def zj (r q : List Int) (fac tk : Int) (j : Nat) : List Int := (List.range r.length).map fun i => co r i * fac - (if r.length - q.length ≤ i ∧ i < r.length - q.length + j then tk * co q (i - (r.length - q.length)) else 0)
theorem zj_len (r q : List Int) (fac tk : Int) (j : Nat) : (zj r q fac tk j).length = r.length := by simp [zj]
theorem zj_co (r q : List Int) (fac tk : Int) (j : Nat) (h : q.length ≤ r.length) (hj : j ≤ q.length) (i : Nat) : co (zj r q fac tk j) i = co r i * fac - (if r.length - q.length ≤ i ∧ i < r.length - q.length + j then tk * co q (i - (r.length - q.length)) else 0) := by
  by_cases hi : i < r.length
  · simp [zj, co, List.getD_eq_getElem?_getD, hi]
  · rw [co_ge (by rw [zj_len]; omega), co_ge (p := r) (by omega), if_neg (by omega)]; simp
theorem zj_zero (r q : List Int) (fac tk : Int) (h : q.length ≤ r.length) : zj r q fac tk 0 = r.map (· * fac) :=
  ext_co (by rw [zj_len, List.length_map]) fun i => by
    rw [zj_co _ _ _ _ _ h (Nat.zero_le _), if_neg (by omega)]
    have e : r.map (· * fac) = smul fac r := List.map_congr_left fun a _ => Int.mul_comm a fac
    rw [e, co_smul]; grind
theorem zj_succ (r q : List Int) (fac tk : Int) (j : Nat) (h : q.length ≤ r.length) (hj : j < q.length) : (zj r q fac tk j).set (r.length - q.length + j) (co (zj r q fac tk j) (r.length - q.length + j) - tk * co q j) = zj r q fac tk (j + 1) :=
  ext_co (by rw [List.length_set, zj_len, zj_len]) fun i => by
    rw [co_set (by rw [zj_len]; omega), zj_co _ _ _ _ _ h (by omega), zj_co _ _ _ _ _ h (by omega), zj_co _ _ _ _ _ h (by omega)]
    by_cases e : i = r.length - q.length + j
    · subst e
      rw [if_pos rfl, if_neg (by omega), if_pos (by omega), show r.length - q.length + j - (r.length - q.length) = j by omega]; omega
    · rw [if_neg e]
      by_cases c : r.length - q.length ≤ i ∧ i < r.length - q.length + j
      · rw [if_pos c, if_pos (by omega)]
      · rw [if_neg c, if_neg (by omega)]
theorem zj_last (r q : List Int) (fac tk : Int) (h : q.length ≤ r.length) : zj r q fac tk q.length = zl r q fac tk :=
  ext_co (by rw [zj_len, zl_len]) fun i => by
    rw [zj_co _ _ _ _ _ h (Nat.le_refl _), zl_co h, low_co]
    by_cases c : i < r.length - q.length
    · rw [if_neg (by omega), if_pos c]
    · rw [if_neg c]
      by_cases d : i < r.length - q.length + q.length
      · rw [if_pos (by omega)]
      · rw [if_neg (by omega), co_ge (p := q) (by omega)]; simp
theorem zj_bd {r q : List Int} {fac tk : Int} {j M Q : Nat} (h : q.length ≤ r.length) (hj : j ≤ q.length) (hf : fac.natAbs ≤ Q) (ht : tk.natAbs ≤ M) (hr : Bd r M) (hq : Bd q Q) : Bd (zj r q fac tk j) (M * (2 * Q)) := fun i => by
  rw [zj_co _ _ _ _ _ h hj]
  have a1 : (co r i * fac).natAbs ≤ M * Q := by
    rw [Int.natAbs_mul]; exact Nat.mul_le_mul (hr i) hf
  have e : M * (2 * Q) = M * Q + M * Q := by grind
  rw [e]
  split
  · have a2 : (tk * co q (i - (r.length - q.length))).natAbs ≤ M * Q := by
      rw [Int.natAbs_mul]; exact Nat.mul_le_mul ht (hq _)
    omega
  · omega
structure LInv (p q r : List Int) (P Q s k : Nat) : Prop where
  id : ∃ (c : Int) (w : List Int), c ≠ 0 ∧ ∀ x, c * ev p x = ev w x * ev q x + ev r x
  bd : Bd r (P * (2 * Q) ^ s)
  s1 : s ≤ p.length + 1 - q.length
  s2 : q.length ≤ r.length → s = k ∧ r.length + k = p.length
  len : r.length ≤ p.length
theorem LInv.start {p q : List Int} {P Q : Nat} (bp : Bd p P) : LInv p q p P Q 0 0 :=
  ⟨⟨1, [], by decide, fun x => by rw [ev_nil]; omega⟩, by simpa using bp, Nat.zero_le _, fun _ => ⟨rfl, rfl⟩, Nat.le_refl _⟩
theorem LInv.stay {p q r : List Int} {P Q s k : Nat} (I : LInv p q r P Q s k) (h : ¬ q.length ≤ r.length) : LInv p q r P Q s (k + 1) := ⟨I.id, I.bd, I.s1, fun z => absurd z h, I.len⟩
theorem LInv.step {p q r : List Int} {P Q s k : Nat} (I : LInv p q r P Q s k) (hq : Nm q) (bq : Bd q Q) (h : q.length ≤ r.length) :
    LInv p q ((zl r q (co q (q.length - 1)) (co r (r.length - 1))).take (r.length - 1)) P Q (s + 1) (k + 1) := by
  obtain ⟨c, w, hc, hid⟩ := I.id
  obtain ⟨rfl, s2⟩ := I.s2 h
  have qp := hq.pos
  have F : Fac (co r (r.length - 1)) (co q (q.length - 1)) (co q (q.length - 1)) (co r (r.length - 1)) := ⟨Int.mul_comm _ _, hq.2, Nat.le_refl _, Nat.le_refl _⟩
  have top := zl_top h hq.1 F
  have cot : ∀ i, co ((zl r q (co q (q.length - 1)) (co r (r.length - 1))).take (r.length - 1)) i = co (zl r q (co q (q.length - 1)) (co r (r.length - 1))) i := fun i => by
    by_cases hi : i < r.length - 1
    · simp [co, List.getD_eq_getElem?_getD, hi]
    · rw [co_ge (by rw [List.length_take]; omega)]
      by_cases e : i = r.length - 1
      · rw [e, top]
      · rw [co_ge (by rw [zl_len]; omega)]
  have lt : ((zl r q (co q (q.length - 1)) (co r (r.length - 1))).take (r.length - 1)).length = r.length - 1 := by rw [List.length_take, zl_len]; omega
  refine ⟨⟨co q (q.length - 1) * c, add (smul (co q (q.length - 1)) w) (List.replicate (r.length - q.length) 0 ++ [co r (r.length - 1)]), Int.mul_ne_zero hq.2 hc, fun x => ?_⟩, fun i => ?_, by omega, fun _ => ⟨rfl, by omega⟩, by omega⟩
  · rw [ev_of_co cot x, zl_ev h, ev_add, ev_smul, ev_append, ev_zeros, List.length_replicate, ev_cons, ev_nil]
    have := hid x
    grind
  · rw [cot, Nat.pow_succ, ← Nat.mul_assoc]
    exact zl_bd h F I.bd bq i
end KP

namespace KP
theorem prod_nm {p q f : List Int} (hp : Nm p) (hq : Nm q) (h : ∀ x, ev f x = ev p x * ev q x) (l : f.length = p.length + q.length - 1) : Nm f := by
  have p0 := hp.pos
  have q0 := hq.pos
  have t := (mul_top p q (p.length - 1) (q.length - 1) hp.lt hq.lt).1
  have e : co f (f.length - 1) = co (mul p q) (p.length - 1 + (q.length - 1)) := by
    rw [show f.length - 1 = p.length - 1 + (q.length - 1) by omega]
    exact co_of_ev (fun x => by rw [ev_mul]; exact h x) _
  refine ⟨fun z => by rw [z] at l; simp at l; omega, ?_⟩
  rw [e, t]
  exact Int.mul_ne_zero hp.2 hq.2
theorem prod_bd {p q f : List Int} {A B : Nat} (hp : ∀ x ∈ p, x.natAbs ≤ A) (hq : Bd q B) (h : ∀ x, ev f x = ev p x * ev q x) : Bd f (p.length * (A * B)) := fun i => by
  have e : co f i = co (mul p q) i := co_of_ev (fun x => by rw [ev_mul]; exact h x) _
  rw [e]
  exact bd_mul hq p hp i
theorem bd_mem {p : List Int} {A : Nat} (h : Bd p A) : ∀ x ∈ p, x.natAbs ≤ A := fun x hx => by
  obtain ⟨i, hi, rfl⟩ := List.getElem_of_mem hx
  have := h i
  simpa [co, List.getD_eq_getElem?_getD, hi] using this
theorem mem_bd {p : List Int} {A : Nat} (h : ∀ x ∈ p, x.natAbs ≤ A) : Bd p A := fun i => by
  by_cases hi : i < p.length
  · exact h _ (co_mem hi)
  · rw [co_ge (by omega)]; simp
theorem nm_of {p : List Int} {n : Nat} (l : p.length = n + 1) (h : co p n ≠ 0) : Nm p := ⟨fun z => by rw [z] at l; simp at l, by rw [l]; exact h⟩
theorem long_isG {s f g : List Int} {a d : Int} (hs : Nm s) (ha : 0 ≤ a) (hd : 0 ≤ d) (hf : ∀ x, ev f x = ev s x * ev [1 + a, 1, 1] x) (hg : ∀ x, ev g x = ev s x * ev [0 - d, 2] x) : IsG f g (prm s) := by
  have c0 := cn_ne hs
  have se := prm_ev hs
  have sq : 0 ≤ d * d := Int.mul_nonneg hd hd
  refine ⟨prm_canon hs, ⟨cn s * (d * d + 2 * d + 4 + 4 * a), [4], [0 - (d + 2), 0 - 2], Int.mul_ne_zero c0 (by omega), fun x => ?_⟩, ⟨1, smul (cn s) [1 + a, 1, 1], by decide, fun x => ?_⟩, ⟨1, smul (cn s) [0 - d, 2], by decide, fun x => ?_⟩⟩
  · have a1 := hf x; have a2 := hg x; have a3 := se x
    simp only [ev_cons, ev_nil] at a1 a2 ⊢
    rw [a1, a2, a3]
    grind
  · have a1 := hf x; have a3 := se x
    rw [ev_smul, a1, a3]; grind
  · have a2 := hg x; have a3 := se x
    rw [ev_smul, a2, a3]; grind
end KP

namespace KP
/-- the sum of the sizes -/
def n1 (p : List Int) : Nat := p.foldr (fun c s => c.natAbs + s) 0
theorem n1_cons (c : Int) (p : List Int) : n1 (c :: p) = c.natAbs + n1 p := rfl
theorem n1_zero : ∀ p : List Int, (∀ i, co p i = 0) → n1 p = 0
  | [], _ => rfl
  | c :: p, h => by
    have h0 := h 0
    rw [co_zero] at h0
    rw [n1_cons, h0, n1_zero p fun i => by have := h (i + 1); rwa [co_succ] at this]; rfl
theorem n1_co : ∀ p q : List Int, (∀ i, co p i = co q i) → n1 p = n1 q
  | [], q, h => (n1_zero q fun i => by rw [← h i, co_nil]).symm
  | c :: p, [], h => n1_zero _ fun i => by rw [h i, co_nil]
  | c :: p, d :: q, h => by
    have h0 := h 0
    rw [co_zero, co_zero] at h0
    rw [n1_cons, n1_cons, h0, n1_co p q fun i => by have := h (i + 1); rwa [co_succ, co_succ] at this]
theorem n1_add : ∀ p q : List Int, n1 (add p q) ≤ n1 p + n1 q
  | [], q => by simp [add, n1]
  | c :: p, [] => by simp [add, n1]
  | c :: p, d :: q => by
    have ih := n1_add p q
    rw [add, n1_cons, n1_cons, n1_cons]; omega
theorem n1_smul (c : Int) : ∀ p : List Int, n1 (smul c p) = c.natAbs * n1 p
  | [] => by simp [smul, n1]
  | d :: p => by
    have ih := n1_smul c p
    show n1 (c * d :: smul c p) = _
    rw [n1_cons, n1_cons, ih, Int.natAbs_mul]; grind
theorem n1_mul : ∀ p q : List Int, n1 (mul p q) ≤ n1 p * n1 q
  | [], q => by simp [mul, n1]
  | c :: p, q => by
    have ih := n1_mul p q
    have a := n1_add (smul c q) (0 :: mul p q)
    rw [n1_smul, n1_cons] at a
    rw [mul, n1_cons]
    have e : (c.natAbs + n1 p) * n1 q = c.natAbs * n1 q + n1 p * n1 q := by grind
    omega
theorem n1_prod {p q f : List Int} (h : ∀ x, ev f x = ev p x * ev q x) : n1 f ≤ n1 p * n1 q := by
  have e : n1 f = n1 (mul p q) := n1_co _ _ fun i => co_of_ev (fun x => by rw [ev_mul]; exact h x) i
  rw [e]; exact n1_mul p q
theorem n1_bd : ∀ p : List Int, Bd p (n1 p)
  | [], i => by simp [co_nil]
  | c :: p, 0 => by rw [co_zero, n1_cons]; omega
  | c :: p, i + 1 => by have := n1_bd p i; rw [co_succ, n1_cons]; omega
/-- the sizes, by the degree -/
def W (p : List Int) (c : Nat) : Prop := n1 p * n1 p ≤ c * 589 ^ (p.length - 1)
theorem W.prod {p q f : List Int} {c d : Nat} (hp : W p c) (hq : W q d) (p0 : 0 < p.length) (q0 : 0 < q.length) (h : ∀ x, ev f x = ev p x * ev q x) (l : f.length = p.length + q.length - 1) : W f (c * d) := by
  have e := n1_prod h
  unfold W at *
  have l2 : f.length - 1 = (p.length - 1) + (q.length - 1) := by omega
  rw [l2, Nat.pow_add]
  have a := Nat.mul_le_mul hp hq
  have b := Nat.mul_le_mul e e
  have e1 : n1 p * n1 q * (n1 p * n1 q) = n1 p * n1 p * (n1 q * n1 q) := by grind
  have e2 : c * 589 ^ (p.length - 1) * (d * 589 ^ (q.length - 1)) = c * d * (589 ^ (p.length - 1) * 589 ^ (q.length - 1)) := by grind
  omega
theorem W.bd {p : List Int} {c : Nat} (h : W p c) (hc : c ≤ 625) (hl : p.length ≤ 9) : Bd p (2 ^ 42) := (n1_bd p).mono (by
  unfold W at h
  have a : 589 ^ (p.length - 1) ≤ 589 ^ 8 := Nat.pow_le_pow_right (by decide) (by omega)
  have b : c * 589 ^ (p.length - 1) ≤ 625 * 589 ^ 8 := Nat.mul_le_mul hc a
  have d : 625 * 589 ^ 8 ≤ 2 ^ 42 * 2 ^ 42 := by decide
  refine Classical.byContradiction fun no => ?_
  have g : 2 ^ 42 < n1 p := by omega
  have := Nat.mul_lt_mul'' g g
  omega)
structure RowOk (p : List Int) : Prop where
  nm : Nm p
  len : p.length ≤ 9
  w : W p 25
structure FacOk (p : List Int) : Prop where
  nm : Nm p
  len : p.length = 2 ∨ p.length = 3
  w : W p 1
theorem RowOk.start {c : Int} (h0 : c ≠ 0) (h5 : c.natAbs ≤ 5) : RowOk [c] where
  nm := nm_of (n := 0) rfl (by rw [co_zero]; exact h0)
  len := by show 1 ≤ 9; decide
  w := by
    unfold W
    have e : n1 [c] = c.natAbs := by simp [n1]
    rw [e]
    exact Nat.le_trans (Nat.mul_le_mul h5 h5) (by show 5 * 5 ≤ 25 * 589 ^ 0; decide)
theorem FacOk.lin {a e : Int} (ha : a.natAbs ≤ 20) (e0 : 0 < e) (e4 : e ≤ 4) : FacOk [0 - a, e] where
  nm := nm_of (n := 1) rfl (by show e ≠ 0; omega)
  len := .inl rfl
  w := by
    unfold W
    have h : n1 [0 - a, e] ≤ 24 := by simp [n1]; omega
    exact Nat.le_trans (Nat.mul_le_mul h h) (by show 24 * 24 ≤ 1 * 589 ^ 1; decide)
theorem FacOk.quad {a e z : Int} (ha : a.natAbs ≤ 20) (e0 : 0 < e) (e4 : e ≤ 4) (hz : z.natAbs ≤ 413) : FacOk [z, 0 - 2 * a * e, e * e] where
  nm := nm_of (n := 2) rfl (by show e * e ≠ 0; exact Int.mul_ne_zero (by omega) (by omega))
  len := .inr rfl
  w := by
    unfold W
    have h1 : (2 * a * e).natAbs ≤ 160 := by
      rw [Int.natAbs_mul, Int.natAbs_mul]
      have : (2 : Int).natAbs * a.natAbs * e.natAbs ≤ 2 * 20 * 4 := Nat.mul_le_mul (Nat.mul_le_mul (by decide) ha) (by omega)
      omega
    have h2 : (e * e).natAbs ≤ 16 := by
      rw [Int.natAbs_mul]
      have : e.natAbs * e.natAbs ≤ 4 * 4 := Nat.mul_le_mul (by omega) (by omega)
      omega
    have h : n1 [z, 0 - 2 * a * e, e * e] ≤ 589 := by
      show z.natAbs + ((0 - 2 * a * e).natAbs + ((e * e).natAbs + 0)) ≤ 589
      omega
    exact Nat.le_trans (Nat.mul_le_mul h h) (by show 589 * 589 ≤ 1 * 589 ^ 2; decide)
theorem sq_le {a : Int} (h : a.natAbs ≤ 20) : 0 ≤ a * a ∧ a * a ≤ 400 := by
  have e : a * a = ((a.natAbs * a.natAbs : Nat) : Int) := by rw [Int.natAbs_mul_self]
  have := Nat.mul_le_mul h h
  omega
theorem RowOk.mul {p q f : List Int} (hp : RowOk p) (hq : FacOk q) (h : ∀ x, ev f x = ev p x * ev q x) (l : f.length = p.length + q.length - 1) (l9 : f.length ≤ 9) : RowOk f :=
  ⟨prod_nm hp.nm hq.nm h l, l9, by have := hp.w.prod hq.w hp.nm.pos hq.nm.pos h l; simpa using this⟩
theorem RowOk.bd {p : List Int} (h : RowOk p) : Bd p (2 ^ 42) := h.w.bd (by decide) h.len
theorem FacOk.bd {p : List Int} (h : FacOk p) : Bd p (2 ^ 42) := h.w.bd (by decide) (by rcases h.len with l | l <;> omega)
theorem RowOk.two {s p q f g : List Int} (hs : RowOk s) (hp : RowOk p) (hq : RowOk q) (hf : ∀ x, ev f x = ev s x * ev p x) (hg : ∀ x, ev g x = ev s x * ev q x) (lf : f.length = s.length + p.length - 1) (lg : g.length = s.length + q.length - 1) (f9 : f.length ≤ 9) (g9 : g.length ≤ 9) : Two (2 ^ 42) f g :=
  ⟨prod_nm hs.nm hp.nm hf lf, prod_nm hs.nm hq.nm hg lg, f9, g9, (hs.w.prod hp.w hs.nm.pos hp.nm.pos hf lf).bd (by decide) f9, (hs.w.prod hq.w hs.nm.pos hq.nm.pos hg lg).bd (by decide) g9⟩
end KP

namespace KP
theorem len_of_div {f T z : List Int} {a : Int} (hf : Nm f) (hT : Nm T) (ha : a ≠ 0) (h : ∀ x, a * ev f x = ev z x * ev T x) : T.length ≤ f.length := by
  refine Classical.byContradiction fun no => ?_
  have z0 := quo_zero hT.lt hT.2 (b := smul a f) (z := z) (fun x => by rw [ev_smul]; exact (h x).symm) (fun i hi => by rw [co_smul, co_ge (by omega)]; simp)
  refine hf.ev_ne fun x => ?_
  have := h x
  rw [z0 x, Int.zero_mul] at this
  exact (Int.mul_eq_zero.mp this).resolve_left ha
theorem bp_bits (L : Nat) : bp (2 ^ 42) L = 2 ^ (42 + 48 * (2 * (9 - L))) := by
  have e : 64 * 2 ^ 42 = 2 ^ 48 := by decide
  unfold bp
  rw [e, ← Nat.pow_mul, ← Nat.pow_add]
theorem end_first {T : List Int} {n : Nat} (hT : Canon T) (l : T.length ≤ n) (n9 : n ≤ 9) (bT : Bd T (bp (2 ^ 42) T.length)) : ∃ Q, Bd T Q ∧ 1 ≤ Q ∧ Q < 2 ^ 8000 ∧ rb (2 ^ 42) Q (n + 1 - T.length) < 2 ^ 8000 := by
  have tp := hT.1.pos
  by_cases h : T.length = 1
  · refine ⟨1, one_prim hT.1 hT.2.1 h, Nat.le_refl _, Nat.one_lt_two_pow (by decide), ?_⟩
    unfold rb
    rw [show 2 * 1 = 2 ^ 1 from rfl, ← Nat.pow_mul, ← Nat.pow_add]
    exact Nat.pow_lt_pow_right (by decide) (by omega)
  · refine ⟨_, bT, ?_, ?_, ?_⟩
    · rw [bp_bits]; exact Nat.pow_pos (by decide)
    · rw [bp_bits]; exact Nat.pow_lt_pow_right (by decide) (by omega)
    · unfold rb
      rw [bp_bits]
      have e : 2 * 2 ^ (42 + 48 * (2 * (9 - T.length))) = 2 ^ (1 + (42 + 48 * (2 * (9 - T.length)))) := by rw [Nat.pow_add 2 1]
      rw [e, ← Nat.pow_mul, ← Nat.pow_add]
      refine Nat.pow_lt_pow_right (by decide) ?_
      have hs : (1 + (42 + 48 * (2 * (9 - T.length)))) * (n + 1 - T.length) ≤ (1 + (42 + 48 * (2 * (9 - T.length)))) * (10 - T.length) := Nat.mul_le_mul_left _ (by omega)
      have hb : 42 + (1 + (42 + 48 * (2 * (9 - T.length)))) * (10 - T.length) < 8000 := by
        generalize T.length = L at *
        rcases (show L = 2 ∨ L = 3 ∨ L = 4 ∨ L = 5 ∨ L = 6 ∨ L = 7 ∨ L = 8 ∨ L = 9 by omega) with h | h | h | h | h | h | h | h <;> (subst h; decide)
      omega
theorem end_last {L s : Nat} (hs : s ≤ 9) : rb (bp (2 ^ 42) L) (2 ^ 42) s < 2 ^ 8000 := by
  unfold rb
  rw [bp_bits, show 2 * 2 ^ 42 = 2 ^ 43 from rfl, ← Nat.pow_mul, ← Nat.pow_add]
  exact Nat.pow_lt_pow_right (by decide) (by omega)
theorem bp_small (L : Nat) : bp (2 ^ 42) L < 2 ^ 2500 := by
  rw [bp_bits]; exact Nat.pow_lt_pow_right (by decide) (by omega)
theorem RowOk.both {f g : List Int} (hf : RowOk f) (hg : RowOk g) : Two (2 ^ 42) f g := ⟨hf.nm, hg.nm, hf.len, hg.len, hf.bd, hg.bd⟩
end KP

namespace KW
open PySem PySem.Spec PyProof.Rows L2
def topS (i : Nat) : Stmt := PySem.Challenge.pw_compasswork_k09_common_divisors.main.body.getD i (.Pass ⟨0, 0, 0, 0⟩)
/-- // by any divisor but 0 of less than 9000 bits -/
def CDivZ (_ j : Int) : Prop := j ≠ 0 ∧ j.natAbs.log2 < 9000
/-- a def that may be called -/
structure Cal (P : Program) (w : World) (K : PySem.W.Frag) (mg : Str → Option Value) (base : Heap) (k : Nat) (x : Str) (ps : List Str) (sp : Sp) where
  f : Addr
  fd : FuncData
  ok : FnOk P w K mg base CX0 k f fd ps sp
  b : Binds K fd ps []
  m : mg x = some (.ref f)
  kp : PySem.W.keepIn K (.ref f) = true
/-- the built-in names stand as they are -/
structure Names (mg : Str → Option Value) : Prop where
  len : mg "len" = none
  int : mg "int" = none
  abs : mg "abs" = none
  range : mg "range" = none
  tuple : mg "tuple" = none
  list : mg "list" = none
  zip : mg "zip" = none
  any : mg "any" = none
  isinstance : mg "isinstance" = none
  bool : mg "bool" = none
  gcd : mg "gcd" = some (.builtin "math.gcd")
section
variable {X : Cx}
theorem op_fdivZ : OpR X (binaryOp .FloorDiv) (rI CDivZ fun i j => .int (i.fdiv j)) :=
  opI fun _ _ _ _ _ _ _ hc q => floordiv_int hc.1 q (.inl (PyProof.noPylong_of_log2 hc.2))
end
/-! ### heaps -/
theorem same_new {H : Hp} {p : Addr} (h : H p = none) (o : HO) : Same H (upd H p o) := fun b u q => by rw [upd_ne (ne_of_none q h)]; exact q
/-- all but what stands at p is as it was -/
def But (p : Addr) (H H' : Hp) : Prop := ∀ b o, b ≠ p → H b = some o → H' b = some o
theorem But.refl (p : Addr) (H : Hp) : But p H H := fun _ _ _ h => h
theorem But.trans {p : Addr} {H H1 H2 : Hp} (a : But p H H1) (b : But p H1 H2) : But p H H2 := fun c o n h => b c o n (a c o n h)
theorem But.of {p : Addr} {H H' : Hp} (s : Same H H') : But p H H' := fun b o _ h => s b o h
theorem But.put {p : Addr} (H : Hp) (o : HO) : But p H (upd H p o) := fun b u n h => by rw [upd_ne n]; exact h
theorem But.seq {K : PySem.W.Frag} {p : Addr} {H H' : Hp} {a : Addr} {xs : List V} (e : But p H H') (n : a ≠ p) (h : SqL K H a xs) : SqL K H' a xs := by
  rcases h with (h | ⟨o, h⟩) | h
  · exact .inl (.inl (e _ _ n h))
  · exact .inl (.inr ⟨o, e _ _ n h⟩)
  · exact .inr h
theorem But.seqT {K : PySem.W.Frag} {p : Addr} {H H' : Hp} {a : Addr} {xs : List V} (e : But p H H') (n : a ≠ p) (h : SqT K H a xs) : SqT K H' a xs := by
  rcases h with (h | ⟨o, h⟩) | h
  · exact .inl (.inl (e _ _ n h))
  · exact .inl (.inr ⟨o, e _ _ n h⟩)
  · exact .inr h
theorem Same.seqT {K : PySem.W.Frag} {H H' : Hp} {a : Addr} {xs : List V} (e : Same H H') (h : SqT K H a xs) : SqT K H' a xs := by
  rcases h with (h | ⟨o, h⟩) | h
  · exact .inl (.inl (e _ _ h))
  · exact .inl (.inr ⟨o, e _ _ h⟩)
  · exact .inr h
/-! ### the state that numbers are drawn from -/
def stL (a e : Addr) (r c m : Int) : List V := [.ref a, .int r, .int c, .int m, .ref e, .int 0, .int 0, .int 0]
def StOk (ns : List Int) (r c m : Int) : Prop := (m = 1 ∧ 0 < ns.length) ∨ (m = 0 ∧ 0 ≤ r ∧ 0 ≤ c)
theorem upd_self {H : Hp} {p : Addr} {o : HO} (h : H p = some o) : upd H p o = H := by
  funext b
  by_cases e : b = p
  · rw [e, upd_same, h]
  · rw [upd_ne e]
theorem same_upd {H H' : Hp} (s : Same H H') (p : Addr) (o : HO) : Same (upd H p o) (upd H' p o) := fun b u h => by
  by_cases e : b = p
  · rw [e, upd_same] at h ⊢; exact h
  · rw [upd_ne e] at h ⊢; exact s b u h
theorem but_upd {p : Addr} {H H' : Hp} (s : But p H H') (o : HO) : Same (upd H p o) (upd H' p o) := fun b u h => by
  by_cases e : b = p
  · rw [e, upd_same] at h ⊢; exact h
  · rw [upd_ne e] at h ⊢; exact s b u e h
/-- a list that is to be read whatever stands at p -/
def SqO (K : PySem.W.Frag) (H : Hp) (p a : Addr) (xs : List V) : Prop := ∀ o, SqL K (upd H p o) a xs
theorem SqO.new {K : PySem.W.Frag} {H : Hp} {p a : Addr} {xs : List V} (h : SqL K H a xs) (n : H p = none) : SqO K H p a xs := fun o => (same_new n o).seq h
theorem SqO.now {K : PySem.W.Frag} {H : Hp} {p a : Addr} {xs : List V} {o : HO} (h : SqO K H p a xs) (e : H p = some o) : SqL K H a xs := by
  have := h o
  rwa [upd_self e] at this
theorem SqO.but {K : PySem.W.Frag} {H H' : Hp} {p a : Addr} {xs : List V} (h : SqO K H p a xs) (s : But p H H') : SqO K H' p a xs := fun o => (but_upd s o).seq (h o)
def StX (H : Hp) (p a : Addr) (ns : List Int) : Prop := ∃ (e : Addr) (r c m : Int), H p = some (.lst (stL a e r c m)) ∧ StOk ns r c m
theorem StX.but {H H' : Hp} {p a : Addr} {ns : List Int} (h : StX H p a ns) (e : H' p = H p) : StX H' p a ns := by
  obtain ⟨x, r, c, m, h1, h2⟩ := h
  exact ⟨x, r, c, m, e ▸ h1, h2⟩
theorem StX.same {H H' : Hp} {p a : Addr} {ns : List Int} (h : StX H p a ns) (s : Same H H') : StX H' p a ns := by
  obtain ⟨x, r, c, m, h1, h2⟩ := h
  exact ⟨x, r, c, m, s _ _ h1, h2⟩
theorem at_n {ns : List Int} {i : Int} (h0 : 0 ≤ i) (h1 : i < ns.length) : ∃ v : Int, atI (ns.map V.int) i = some (.int v) := by
  obtain ⟨k, rfl⟩ := Int.eq_ofNat_of_zero_le h0
  have hk : k < ns.length := by omega
  exact ⟨ns[k], atI_nat (by rw [List.getElem?_map, List.getElem?_eq_getElem hk]; rfl)⟩
abbrev s_law_state : Stmt := topS 7
abbrev N_law_state : List Str := ["script", "mixed", "rest"]
theorem sc_law_state : FnScope N_law_state ["script"] (defScope s_law_state) := ⟨rfl, rfl, rfl, by decide +kernel, rfl, by decide +kernel, by decide +kernel⟩
abbrev s_law_take : Stmt := topS 8
abbrev N_law_take : List Str := ["state", "many", "cell", "drawn"]
theorem sc_law_take : FnScope N_law_take ["state", "many"] (defScope s_law_take) := ⟨rfl, rfl, rfl, by decide +kernel, rfl, by decide +kernel, by decide +kernel⟩
section
variable {P : Program} {w : World} {K : PySem.W.Frag} {mg : Str → Option Value} {base : Heap}
def sp_law_state (K : PySem.W.Frag) : Sp := fun vs H Q _ => ∃ (a : Addr) (ns : List Int), vs = [.ref a] ∧ SqL K H a (ns.map V.int) ∧ ns.length ≤ 63 ∧
  ∀ H' p, Same H H' → H p = none → StX H' p a ns → SqO K H' p a (ns.map V.int) → Q (.ref p) H'
theorem ok_law_state {f : Addr} {fd : FuncData} {k : Nat} (F : Fun K "_law_state" "_law_state" s_law_state f fd) (M : Names mg) : FnOk P w K mg base CX0 (k + 1) f fd ["script"] (sp_law_state K) := by
  refine F.ok sc_law_state (fun vs H Q E h => ?_) (fun cdv A outer s H vs Q E hr h => ?_)
  · obtain ⟨a, ns, rfl, _⟩ := h
    rfl
  obtain ⟨a, ns, rfl, hS, h63, q⟩ := h
  refine ⟨_, (pss_cons (ps_set (i := 1) sc_law_state.nd rfl (.inl rfl) pe_int)
    (pss_cons (ps_set (i := 2) sc_law_state.nd rfl (.inl rfl) pe_int)
    (pss_cons (ps_if (pt_cmpR op_gt (pe_callB call_len_seq (by rfl) M.len PySem.boot_len (pa_cons (pv 0) pa_nil)) pe_int (nomark _))
      (pss_cons (ps_set (i := 1) sc_law_state.nd rfl (.inl rfl) (pe_op op_mod (pe_callTy call_int1 (by rfl) M.int (by decide +kernel) (pa_cons (pe_ix ix_list (pv 0) pe_int (fun _ _ => rfl)) pa_nil)) pe_int))
      (pss_one (ps_set (i := 2) sc_law_state.nd rfl (.inl rfl) (pe_ix ix_list (pe_lst (pa_cons (pe_op op_fdiv (pe_callB call_abs (by rfl) M.abs (by decide +kernel) (pa_cons (pe_ix ix_list (pv 0) pe_int (fun _ _ => rfl)) pa_nil)) pe_int) (pa_cons pe_int pa_nil))) (pv 1) (fun _ _ => rfl)))))
      pss_nil)
    (pss_one (ps_ret (pe_lst (pa_cons (pv 0) (pa_cons (pv 2) (pa_cons pe_int (pa_cons (pv 1) (pa_cons (pe_lst pa_nil) (pa_cons pe_int (pa_cons pe_int (pa_cons pe_int pa_nil)))))))))))))), ?_⟩
  -- the end, once for both ways
  have fin : ∀ (r m : Int) (H1 : Hp), Same H H1 → StOk ns r 1 m → ∀ e, H1 e = none → ∀ p, (upd H1 e (.lst [])) p = none → Q (.ref p) (upd (upd H1 e (.lst [])) p (.lst (stL a e r 1 m))) := fun r m H1 sm ok e he p hp => by
    have s2 : Same H1 (upd H1 e (.lst [])) := same_new he _
    have s3 : Same (upd H1 e (.lst [])) (upd (upd H1 e (.lst [])) p (.lst (stL a e r 1 m))) := same_new hp _
    exact q _ p (sm.trans (s2.trans s3)) (sm.free (s2.free hp)) ⟨e, r, 1, m, upd_same, ok⟩ ((SqO.new (s2.seq (sm.seq hS)) hp).but (.put _ _))
  refine ⟨_, rfl, a, _, rfl, .inl hS, _, _, rfl, rfl, _, rfl, ite2 (fun c => ?_) (fun c => ?_)⟩
  · have hl : (ns.map V.int).length = ns.length := List.length_map _
    have hpos : 0 < ns.length := by
      have := of_decide_eq_true c
      rw [hl] at this; omega
    obtain ⟨v, hv⟩ := at_n (ns := ns) (i := 0) (by omega) (by omega)
    refine ⟨_, rfl, a, _, _, _, rfl, rfl, hS, hv, .inl ⟨_, rfl, ?_⟩⟩
    refine ⟨_, _, rfl, rfl, (by show (0 : Int) < 2; decide), ?_⟩
    refine ⟨_, rfl, a, _, _, _, rfl, rfl, hS, hv, _, rfl, _, _, rfl, rfl, ⟨by decide, by decide⟩, (by show 2 ≤ sizeLine; decide), fun t ht => ?_⟩
    have h2 : v % 2 = 0 ∨ v % 2 = 1 := by omega
    rcases h2 with h2 | h2
    · rw [show (fun i j => V.int (i % j)) v 2 = V.int 0 from congrArg V.int h2]
      refine ⟨_, rfl, t, _, 0, _, rfl, rfl, SqL.of upd_same, atI_nat (j := 0) rfl, ?_⟩
      refine ⟨_, rfl, _, rfl, _, rfl, Nat.zero_le _, fun e he => ⟨(by show 8 ≤ sizeLine; decide), fun p hp => ?_⟩⟩
      exact fin _ _ _ (same_new ht _) (.inr ⟨rfl, by split <;> omega, by decide⟩) e he p hp
    · rw [show (fun i j => V.int (i % j)) v 2 = V.int 1 from congrArg V.int h2]
      refine ⟨_, rfl, t, _, 1, _, rfl, rfl, SqL.of upd_same, atI_nat (j := 1) rfl, ?_⟩
      refine ⟨_, rfl, _, rfl, _, rfl, Nat.zero_le _, fun e he => ⟨(by show 8 ≤ sizeLine; decide), fun p hp => ?_⟩⟩
      exact fin _ _ _ (same_new ht _) (.inl ⟨rfl, hpos⟩) e he p hp
  · refine ⟨_, rfl, _, rfl, _, rfl, Nat.zero_le _, fun e he => ⟨(by show 8 ≤ sizeLine; decide), fun p hp => ?_⟩⟩
    exact fin _ _ _ (Same.refl _) (.inr ⟨rfl, by decide, by decide⟩) e he p hp
def sp_law_take (K : PySem.W.Frag) : Sp := fun vs H Q _ => ∃ (p a : Addr) (ns : List Int) (many : Int), vs = [.ref p, .int many] ∧ StX H p a ns ∧ SqO K H p a (ns.map V.int) ∧ 0 < many ∧ many.natAbs.log2 < 9000 ∧
  ∀ (d : Int) (H' : Hp), 0 ≤ d → d < many → StX H' p a ns → But p H H' → Q (.int d) H'
theorem ok_law_take {f : Addr} {fd : FuncData} {k : Nat} (F : Fun K "_law_take" "_law_take" s_law_take f fd) (M : Names mg) : FnOk P w K mg base CX0 (k + 1) f fd ["state", "many"] (sp_law_take K) := by
  refine F.ok sc_law_take (fun vs H Q E h => ?_) (fun cdv A outer s H vs Q E hr h => ?_)
  · obtain ⟨p, a, ns, many, rfl, _⟩ := h
    rfl
  obtain ⟨p, a, ns, many, rfl, ⟨e, r, c, m, hp, ok⟩, hS, h0, h9, q⟩ := h
  refine ⟨_, (pss_cons (ps_if (pt_cmpR op_eq (pe_ix ix_list (pv 0) pe_int (fun _ _ => rfl)) pe_int (nomark _))
      (pss_cons (ps_set (i := 2) sc_law_take.nd rfl (.inl rfl) (pe_ix ix_list (pe_ix ix_list (pv 0) pe_int (fun _ _ => rfl)) (pe_op op_mod (pe_callTy call_int1 (by rfl) M.int (by decide +kernel) (pa_cons (pe_ix ix_list (pv 0) pe_int (fun _ _ => rfl)) pa_nil)) (pe_callB call_len_seq (by rfl) M.len PySem.boot_len (pa_cons (pe_ix ix_list (pv 0) pe_int (fun _ _ => rfl)) pa_nil))) (fun _ _ => rfl)))
      (pss_cons (ps_asg (pe_op op_mod (pe_callTy call_int1 (by rfl) M.int (by decide +kernel) (pa_cons (pe_op op_add (pe_op op_add (pe_op op_add (pe_op op_mul (pe_ix ix_list (pv 0) pe_int (fun _ _ => rfl)) pe_int) (pe_op op_mul (pv 2) pe_int)) (pe_op op_mul (pe_ix ix_list (pv 0) pe_int (fun _ _ => rfl)) pe_int)) pe_int) pa_nil)) pe_int) (pg_sub (pv 0) pe_int set_list))
      (pss_cons (ps_asg (pe_op op_add (pe_ix ix_list (pv 0) pe_int (fun _ _ => rfl)) pe_int) (pg_sub (pv 0) pe_int set_list))
      (pss_one (ps_ret (pe_op op_mod (pe_op op_mod (pe_callTy call_int1 (by rfl) M.int (by decide +kernel) (pa_cons (pe_op op_add (pe_op op_mul (pe_ix ix_list (pv 0) pe_int (fun _ _ => rfl)) pe_int) pe_int) pa_nil)) pe_int) (pv 1)))))))
      pss_nil)
    (pss_cons (ps_if (pt_cmpR op_eq (pe_ix ix_list (pv 0) pe_int (fun _ _ => rfl)) pe_int (nomark _))
      (pss_cons (ps_if (pt_cmpR op_ge (pe_ix ix_list (pv 0) pe_int (fun _ _ => rfl)) (pe_callB call_len_seq (by rfl) M.len PySem.boot_len (pa_cons (pe_ix ix_list (pv 0) pe_int (fun _ _ => rfl)) pa_nil)) (nomark _))
        (pss_one (ps_ret pe_int))
        pss_nil)
      (pss_cons (ps_asg (pe_callB call_abs (by rfl) M.abs (by decide +kernel) (pa_cons (pe_ix ix_list (pe_ix ix_list (pv 0) pe_int (fun _ _ => rfl)) (pe_ix ix_list (pv 0) pe_int (fun _ _ => rfl)) (fun _ _ => rfl)) pa_nil)) (pg_sub (pv 0) pe_int set_list))
      (pss_one (ps_asg (pe_op op_add (pe_ix ix_list (pv 0) pe_int (fun _ _ => rfl)) pe_int) (pg_sub (pv 0) pe_int set_list)))))
      pss_nil)
    (pss_cons (ps_set (i := 3) sc_law_take.nd rfl (.inl rfl) (pe_op op_mod (pe_callTy call_int1 (by rfl) M.int (by decide +kernel) (pa_cons (pe_ix ix_list (pv 0) pe_int (fun _ _ => rfl)) pa_nil)) (pv 1)))
    (pss_cons (ps_asg (pe_op op_fdivW (pe_ix ix_list (pv 0) pe_int (fun _ _ => rfl)) (pv 1)) (pg_sub (pv 0) pe_int set_list))
    (pss_one (ps_ret (pv 3))))))), ?_⟩
  have hSn : SqL K H a (ns.map V.int) := hS.now hp
  have hl : (ns.map V.int).length = ns.length := List.length_map _
  refine ⟨_, rfl, p, _, 3, _, rfl, rfl, SqL.of hp, atI_nat (j := 3) rfl, rfl, _, rfl, ite2 (fun t1 => ?_) (fun t1 => ?_)⟩
  · -- mixed draws
    have m1 : m = 1 := V.int.inj (of_decide_eq_true t1)
    have npos : 0 < ns.length := by
      rcases ok with ⟨_, z⟩ | ⟨z, _⟩
      · exact z
      · omega
    obtain ⟨v, hv⟩ := at_n (ns := ns) (i := c % ((ns.map V.int).length : Nat)) (Int.emod_nonneg _ (by omega)) (by rw [hl]; exact Int.emod_lt_of_pos _ (by omega))
    refine ⟨_, rfl, p, _, 0, _, rfl, rfl, SqL.of hp, atI_nat (j := 0) rfl, _, rfl, p, _, 2, _, rfl, rfl, SqL.of hp, atI_nat (j := 2) rfl, .inl ⟨_, rfl, ?_⟩⟩
    refine ⟨_, rfl, p, _, 0, _, rfl, rfl, SqL.of hp, atI_nat (j := 0) rfl, a, _, rfl, .inl hSn, _, _, rfl, rfl, (by show (0 : Int) < ((ns.map V.int).length : Nat); omega), a, _, _, _, rfl, rfl, hSn, hv, ?_⟩
    -- state[1] = ..
    refine ⟨_, rfl, p, _, 1, _, rfl, rfl, SqL.of hp, atI_nat (j := 1) rfl, _, _, rfl, rfl, .inr ⟨by decide, by decide⟩, _, rfl, _, _, rfl, rfl, .inr ⟨by decide, by decide⟩, _, _, rfl, rfl, _, rfl, p, _, 2, _, rfl, rfl, SqL.of hp, atI_nat (j := 2) rfl, _, _, rfl, rfl, .inr ⟨by decide, by decide⟩, _, _, rfl, rfl, _, _, rfl, rfl, .inl ⟨_, rfl, ?_⟩⟩
    refine ⟨_, _, rfl, rfl, (by show (0 : Int) < 2147483647; decide), _, rfl, p, _, 1, 1, rfl, rfl, hp, rfl, ?_⟩
    -- state[2] = ..
    refine ⟨_, rfl, p, _, 2, _, rfl, rfl, SqL.of upd_same, atI_nat (j := 2) rfl, _, _, rfl, rfl, _, rfl, p, _, 2, 2, rfl, rfl, upd_same, rfl, ?_⟩
    refine ⟨_, rfl, p, _, 1, _, rfl, rfl, SqL.of upd_same, atI_nat (j := 1) rfl, _, _, rfl, rfl, .inr ⟨by decide, by decide⟩, _, _, rfl, rfl, .inl ⟨_, rfl, ?_⟩⟩
    refine ⟨_, _, rfl, rfl, (by show (0 : Int) < 2147483629; decide), _, rfl, _, _, rfl, rfl, h0, ?_⟩
    refine q _ _ (Int.emod_nonneg _ (by omega)) (Int.emod_lt_of_pos _ h0) ⟨e, _, _, m, upd_same, ?_⟩ ((But.put _ _).trans (.put _ _))
    exact .inl ⟨m1, npos⟩
  · -- whole numbers, drawn from by their rests
    have m0 : m = 0 ∧ 0 ≤ r ∧ 0 ≤ c := by
      rcases ok with ⟨z, _⟩ | z
      · exact absurd (by rw [z]; rfl) t1
      · exact z
    obtain ⟨rfl, r0, c0⟩ := m0
    have fin : ∀ (r1 c1 : Int) (H1 : Hp), 0 ≤ r1 → 0 ≤ c1 → But p H H1 → H1 p = some (.lst (stL a e r1 c1 0)) → ∀ d, d = r1 % many → Q (.int d) (upd H1 p (.lst (stL a e (r1 / many) c1 0))) := fun r1 c1 H1 k1 k2 k3 k4 d hd => by
      subst hd
      exact q _ _ (Int.emod_nonneg _ (by omega)) (Int.emod_lt_of_pos _ h0) ⟨e, _, _, 0, upd_same, .inr ⟨rfl, Int.ediv_nonneg k1 (by omega), k2⟩⟩ (k3.trans (.put _ _))
    refine ⟨_, rfl, p, _, 1, _, rfl, rfl, SqL.of hp, atI_nat (j := 1) rfl, rfl, _, rfl, ite2 (fun t2 => ?_) (fun t2 => ?_)⟩
    · refine ⟨_, rfl, p, _, 2, _, rfl, rfl, SqL.of hp, atI_nat (j := 2) rfl, _, rfl, p, _, 0, _, rfl, rfl, SqL.of hp, atI_nat (j := 0) rfl, a, _, rfl, .inl hSn, _, _, rfl, rfl, _, rfl, ite2 (fun t3 => ?_) (fun t3 => ?_)⟩
      · exact q _ _ (Int.le_refl 0) h0 ⟨e, r, c, 0, hp, ok⟩ (But.refl _ _)
      · have lt : c < ((ns.map V.int).length : Nat) := by
          have := of_decide_eq_false (Bool.eq_false_iff.mpr t3)
          omega
        obtain ⟨v, hv⟩ := at_n (ns := ns) (i := c) c0 (by omega)
        refine ⟨_, rfl, p, _, 0, _, rfl, rfl, SqL.of hp, atI_nat (j := 0) rfl, _, rfl, p, _, 2, _, rfl, rfl, SqL.of hp, atI_nat (j := 2) rfl, a, _, _, _, rfl, rfl, hSn, hv, _, rfl, _, rfl, p, _, 1, 1, rfl, rfl, hp, rfl, ?_⟩
        refine ⟨_, rfl, p, _, 2, _, rfl, rfl, SqL.of upd_same, atI_nat (j := 2) rfl, _, _, rfl, rfl, _, rfl, p, _, 2, 2, rfl, rfl, upd_same, rfl, ?_⟩
        refine ⟨_, rfl, p, _, 1, _, rfl, rfl, SqL.of upd_same, atI_nat (j := 1) rfl, .inl ⟨_, rfl, ?_⟩⟩
        refine ⟨_, rfl, _, _, rfl, rfl, h0, ?_⟩
        refine ⟨_, rfl, p, _, 1, _, rfl, rfl, SqL.of upd_same, atI_nat (j := 1) rfl, _, rfl, _, _, rfl, rfl, ⟨h0, h9⟩, _, rfl, p, _, 1, 1, rfl, rfl, upd_same, rfl, ?_⟩
        refine ⟨_, rfl, ?_⟩
        exact fin (if v < 0 then -v else v) (c + 1) (upd (upd H p _) p _) (by split <;> omega) (by omega) ((But.put _ _).trans (.put _ _)) upd_same _ rfl
    · refine ⟨_, rfl, p, _, 1, _, rfl, rfl, SqL.of hp, atI_nat (j := 1) rfl, .inl ⟨_, rfl, ?_⟩⟩
      refine ⟨_, rfl, _, _, rfl, rfl, h0, ?_⟩
      refine ⟨_, rfl, p, _, 1, _, rfl, rfl, SqL.of hp, atI_nat (j := 1) rfl, _, rfl, _, _, rfl, rfl, ⟨h0, h9⟩, _, rfl, p, _, 1, 1, rfl, rfl, hp, rfl, ?_⟩
      refine ⟨_, rfl, ?_⟩
      exact fin r c H r0 c0 (But.refl _ _) hp _ rfl
end
end KW

namespace KW
open PySem PySem.Spec PyProof.Rows L2 KP
abbrev s_law_gcd : Stmt := topS 9
abbrev N_law_gcd : List Str := ["a", "b", "left", "right", "k", "rest"]
theorem sc_law_gcd : FnScope N_law_gcd ["a", "b"] (defScope s_law_gcd) := ⟨rfl, rfl, rfl, by decide +kernel, rfl, by decide +kernel, by decide +kernel⟩
section
variable {P : Program} {w : World} {K : PySem.W.Frag} {mg : Str → Option Value} {base : Heap}
theorem abs_int (a : Int) : (if a < 0 then -a else a) = (a.natAbs : Int) := by split <;> omega
def sp_law_gcd : Sp := fun vs H Q _ => ∃ a b : Int, vs = [.int a, .int b] ∧ b.natAbs < 2 ^ 2500 ∧ Q (.int (Nat.gcd a.natAbs b.natAbs : Nat)) H
theorem ok_law_gcd {f : Addr} {fd : FuncData} {k : Nat} (F : Fun K "_law_gcd" "_law_gcd" s_law_gcd f fd) (M : Names mg) : FnOk P w K mg base CX0 (k + 1) f fd ["a", "b"] sp_law_gcd := by
  refine F.ok sc_law_gcd (fun vs H Q E h => ?_) (fun cdv A outer s H vs Q E hr h => ?_)
  · obtain ⟨a, b, rfl, _⟩ := h
    rfl
  obtain ⟨a, b, rfl, hb, q⟩ := h
  refine ⟨_, (pss_cons (ps_set (i := 2) sc_law_gcd.nd rfl (.inl rfl) (pe_callB call_abs (by rfl) M.abs (by decide +kernel) (pa_cons (pv 0) pa_nil)))
    (pss_cons (ps_set (i := 3) sc_law_gcd.nd rfl (.inl rfl) (pe_callB call_abs (by rfl) M.abs (by decide +kernel) (pa_cons (pv 1) pa_nil)))
    (pss_cons (ps_for PassesOwn.never rfl (pi_range1 (by rfl) M.range (pa_cons pe_int pa_nil)) (pg_name (i := 4) sc_law_gcd.nd rfl (.inl rfl))
      (pss_cons (ps_if (pt_cmpR op_eq (pv 3) pe_int (nomark _))
        (pss_one (ps_ret (pv 2)))
        pss_nil)
      (pss_cons (ps_set (i := 5) sc_law_gcd.nd rfl (.inl rfl) (pe_op op_mod (pe_callTy call_int1 (by rfl) M.int (by decide +kernel) (pa_cons (pv 2) pa_nil)) (pv 3)))
      (pss_cons (ps_set (i := 2) sc_law_gcd.nd rfl (.inl rfl) (pv 3))
      (pss_one (ps_set (i := 3) sc_law_gcd.nd rfl (.inl rfl) (pv 5)))))))
    (pss_one (ps_ret (pv 2)))))), ?_⟩
  refine ⟨_, rfl, _, rfl, _, rfl, _, rfl, ?_⟩
  refine ⟨4000, rfl, by decide, by decide, for_range (lo := 0) (n := 4000) (fun i σ H' => ∃ (l r : Nat) (y4 y5 : Option V), σ = [some (.int a), some (.int b), some (.int (l : Int)), some (.int (r : Int)), y4, y5] ∧ H' = H ∧ stp (4000 - i) l r ∧ Nat.gcd l r = Nat.gcd a.natAbs b.natAbs)
    ⟨a.natAbs, b.natAbs, none, none, ?_, rfl, stp_ok hb, rfl⟩ (fun i σ H' hi hP => ?_) (fun σ H' hP => ?_)⟩
  · rw [← abs_int, ← abs_int]; rfl
  · obtain ⟨l, r, y4, y5, rfl, rfl, st, hg⟩ := hP
    refine ⟨_, rfl, rfl, _, rfl, ite2 (fun t => ?_) (fun t => ?_)⟩
    · have r0 : r = 0 := by have := V.int.inj (of_decide_eq_true t); omega
      refine ⟨_, rfl, ?_⟩
      rw [r0, Nat.gcd_zero_right] at hg
      rw [hg]; exact q
    · have r0 : r ≠ 0 := fun z => t (by rw [z]; rfl)
      refine ⟨_, rfl, .inl ⟨_, rfl, ?_⟩⟩
      refine ⟨_, rfl, _, _, rfl, rfl, (by show (0 : Int) < (r : Int); omega), _, rfl, _, rfl, ?_⟩
      refine ⟨r, l % r, _, _, rfl, rfl, ?_, ?_⟩
      · rw [show 4000 - i = (4000 - (i + 1)) + 1 by omega] at st
        rcases st with z | z
        · exact absurd z r0
        · exact z
      · rw [← hg, Nat.gcd_comm l r, Nat.gcd_rec r l, Nat.gcd_comm]
  · obtain ⟨l, r, y4, y5, rfl, rfl, st, hg⟩ := hP
    have r0 : r = 0 := st
    refine ⟨_, rfl, ?_⟩
    rw [r0, Nat.gcd_zero_right] at hg
    rw [hg]; exact q
end
end KW

namespace KW
open PySem PySem.Spec PyProof.Rows L2 KP
/-! ### comprehensions whose step leaves the objects as they are -/
section
variable {K : PySem.W.Frag} {a D : Addr} {xs : List V} {g : TG} {te : TE} {vs : List Nat} {σ : L2.St} {H1 : Hp} {Qd : Hp → Prop}
theorem grown {H : Hp} {D : Addr} {xs : List V} {G : V → V} {i : Nat} {x : V} (hx : xs[i]? = some x) (hl : xs.length ≤ 1000) : (((xs.take i).map G).length < sizeLine) ∧ ((xs.take i).map G ++ [G x] = (xs.take (i + 1)).map G) := by
  have hi : i < xs.length := (List.getElem?_eq_some_iff.mp hx).1
  refine ⟨small1000 (by rw [List.length_map, List.length_take]; omega), ?_⟩
  rw [List.take_add_one, hx, List.map_append]; rfl
theorem comp_list (G : V → V) (hx : SqL K H1 a xs) (hD : H1 D = none) (hl : xs.length ≤ 1000)
    (hs : ∀ (i : Nat) (x : V) (H : Hp) (Nx : V → Hp → Prop), xs[i]? = some x → Same H1 H → Nx (G x) H → g x (wipe σ vs) H fun σ2 H2 => wipe σ2 vs = wipe σ vs ∧ te σ2 H2 Nx)
    (hd : ∀ H, Same H1 H → H D = some (.lst (xs.map G)) → Qd H) :
    ∃ W : Nat → Nat → Hp → Prop, (∃ m, W 0 m (upd H1 D (.lst []))) ∧ ∀ i m H, W i m H →
      ((Itl K a).stop i H ∧ Qd H) ∨ ((Itl K a).go i H ∧ ∃ Nx : Hp → Prop, (∀ H', Nx H' → ∃ m', m' < m ∧ W (i + 1) m' H') ∧ ∀ x H', (Itl K a).yld i H x H' → g x (wipe σ vs) H' fun σ2 H2 => wipe σ2 vs = wipe σ vs ∧ tYes σ2 H2 fun b H3 =>
        if b = true then te σ2 H3 fun y H4 => ∃ acc, H4 D = some (.lst acc) ∧ acc.length < sizeLine ∧ Nx (upd H4 D (.lst (acc ++ [y]))) else Nx H3) := by
  refine lc_list (xs := xs) (fun i H => Same H1 H ∧ H D = some (.lst ((xs.take i).map G))) ⟨same_new hD _, upd_same⟩ (fun i H _ h => h.1.seq hx) (fun i x H hix h => ?_) (fun H h => hd H h.1 (by rw [h.2, List.take_length]))
  have hg := grown (H := H) (D := D) (G := G) hix hl
  have := hs i x H (fun y H4 => ∃ acc, H4 D = some (.lst acc) ∧ acc.length < sizeLine ∧ (Same H1 (upd H4 D (.lst (acc ++ [y]))) ∧ (upd H4 D (.lst (acc ++ [y]))) D = some (.lst ((xs.take (i + 1)).map G)))) hix h.1
    ⟨_, h.2, hg.1, fun b o e => by rw [upd_ne (ne_of_none e hD)]; exact h.1 b o e, by rw [upd_same, hg.2]⟩
  exact this
theorem comp_tup (G : V → V) (hx : SqT K H1 a xs) (hD : H1 D = none) (hl : xs.length ≤ 1000)
    (hs : ∀ (i : Nat) (x : V) (H : Hp) (Nx : V → Hp → Prop), xs[i]? = some x → Same H1 H → Nx (G x) H → g x (wipe σ vs) H fun σ2 H2 => wipe σ2 vs = wipe σ vs ∧ te σ2 H2 Nx)
    (hd : ∀ H, Same H1 H → H D = some (.lst (xs.map G)) → Qd H) :
    ∃ W : Nat → Nat → Hp → Prop, (∃ m, W 0 m (upd H1 D (.lst []))) ∧ ∀ i m H, W i m H →
      ((Itt K a).stop i H ∧ Qd H) ∨ ((Itt K a).go i H ∧ ∃ Nx : Hp → Prop, (∀ H', Nx H' → ∃ m', m' < m ∧ W (i + 1) m' H') ∧ ∀ x H', (Itt K a).yld i H x H' → g x (wipe σ vs) H' fun σ2 H2 => wipe σ2 vs = wipe σ vs ∧ tYes σ2 H2 fun b H3 =>
        if b = true then te σ2 H3 fun y H4 => ∃ acc, H4 D = some (.lst acc) ∧ acc.length < sizeLine ∧ Nx (upd H4 D (.lst (acc ++ [y]))) else Nx H3) := by
  refine lc_tup (xs := xs) (fun i H => Same H1 H ∧ H D = some (.lst ((xs.take i).map G))) ⟨same_new hD _, upd_same⟩ (fun i H _ h => Same.seqT h.1 hx) (fun i x H hix h => ?_) (fun H h => hd H h.1 (by rw [h.2, List.take_length]))
  have hg := grown (H := H) (D := D) (G := G) hix hl
  have := hs i x H (fun y H4 => ∃ acc, H4 D = some (.lst acc) ∧ acc.length < sizeLine ∧ (Same H1 (upd H4 D (.lst (acc ++ [y]))) ∧ (upd H4 D (.lst (acc ++ [y]))) D = some (.lst ((xs.take (i + 1)).map G)))) hix h.1
    ⟨_, h.2, hg.1, fun b o e => by rw [upd_ne (ne_of_none e hD)]; exact h.1 b o e, by rw [upd_same, hg.2]⟩
  exact this
end
/-- a list or a tuple -/
def Sq (K : PySem.W.Frag) (H : Hp) (a : Addr) (xs : List V) : Prop := SqL K H a xs ∨ SqT K H a xs
theorem Sq.same {K : PySem.W.Frag} {H H' : Hp} {a : Addr} {xs : List V} (h : Sq K H a xs) (s : Same H H') : Sq K H' a xs := h.elim (fun h => .inl (s.seq h)) fun h => .inr (Same.seqT s h)
theorem Sq.but {K : PySem.W.Frag} {p : Addr} {H H' : Hp} {a : Addr} {xs : List V} (h : Sq K H a xs) (n : a ≠ p) (s : But p H H') : Sq K H' a xs := h.elim (fun h => .inl (s.seq n h)) fun h => .inr (s.seqT n h)
def Gdiv (c : Int) : V → V
  | .int n => .int (n.fdiv c)
  | v => v
/-! ### ints in lists -/
theorem map_at {row : List Int} {i : Nat} (h : i < row.length) : (row.map V.int)[i]? = some (.int (co row i)) := by
  rw [List.getElem?_map, List.getElem?_eq_getElem h]
  simp [co, List.getD_eq_getElem?_getD, h]
theorem map_atI {row : List Int} {i : Int} (h0 : 0 ≤ i) (h : i < row.length) : atI (row.map V.int) i = some (.int (co row i.toNat)) := by
  obtain ⟨k, rfl⟩ := Int.eq_ofNat_of_zero_le h0
  exact atI_nat (map_at (by omega))
theorem map_last {row : List Int} (h : row ≠ []) : atI (row.map V.int) (-1) = some (.int (co row (row.length - 1))) := by
  have hp := List.length_pos_iff.mpr h
  have e : ixN (row.map V.int).length (-1) = some (row.length - 1) := by
    unfold ixN
    rw [if_neg (by decide), if_pos (by rw [List.length_map]; omega), List.length_map]
    congr 1; omega
  unfold atI
  rw [e]
  exact map_at (by omega)
theorem map_mem {row : List Int} {i : Nat} {x : V} (h : (row.map V.int)[i]? = some x) : i < row.length ∧ x = .int (co row i) := by
  have hi : i < row.length := by
    have := (List.getElem?_eq_some_iff.mp h).1
    rwa [List.length_map] at this
  refine ⟨hi, ?_⟩
  rw [map_at hi] at h
  exact (Option.some.inj h).symm
theorem gf_take {row : List Int} {i : Nat} (h : i < row.length) : gf (row.take (i + 1)) = Nat.gcd (gf (row.take i)) (co row i).natAbs := by
  rw [List.take_add_one, List.getElem?_eq_getElem h]
  have e : co row i = row[i] := by simp [co, List.getD_eq_getElem?_getD, h]
  rw [e]
  exact gf_snoc _ _
theorem log_small {z : Int} {n m : Nat} (h : z.natAbs < 2 ^ n) (h0 : 0 < n) (hm : n ≤ m) : z.natAbs.log2 < m := Nat.lt_of_lt_of_le (PySem.Flt.log2_lt_of h0 h) hm
theorem cn_divZ {row : List Int} (h : Nm row) {B n : Nat} (hb : Bd row B) (hB : B < 2 ^ n) (h0 : 0 < n) (h9 : n ≤ 9000) (i : Int) : CDivZ i (cn row) := by
  refine ⟨cn_ne h, log_small (n := n) ?_ h0 h9⟩
  rw [cn_abs]
  exact Nat.lt_of_le_of_lt (gf_le hb h).2 hB
abbrev s_law_primitive : Stmt := topS 10
abbrev N_law_primitive : List Str := ["row", "shared", "number"]
theorem sc_law_primitive : FnScope N_law_primitive ["row"] (defScope s_law_primitive) := ⟨rfl, rfl, rfl, by decide +kernel, rfl, by decide +kernel, by decide +kernel⟩
abbrev sprimitive : Stmt := topS 2
abbrev Nprimitive : List Str := ["polynomial", "common", "n"]
theorem scprimitive : FnScope Nprimitive ["polynomial"] (defScope sprimitive) := ⟨rfl, rfl, rfl, by decide +kernel, rfl, by decide +kernel, by decide +kernel⟩
section
variable {P : Program} {w : World} {K : PySem.W.Frag} {mg : Str → Option Value} {base : Heap}
def sp_law_primitive (K : PySem.W.Frag) : Sp := fun vs H Q _ => ∃ (a : Addr) (row : List Int) (B : Nat), vs = [.ref a] ∧ Sq K H a (row.map V.int) ∧ Nm row ∧ row.length ≤ 40 ∧ Bd row B ∧ B < 2 ^ 2500 ∧
  ∀ H' p, Same H H' → H p = none → H' p = some (.tup ((prm row).map V.int)) → Q (.ref p) H'
theorem ok_law_primitive {f : Addr} {fd : FuncData} {k : Nat} (F : Fun K "_law_primitive" "_law_primitive" s_law_primitive f fd) (M : Names mg) (G_law_gcd : Cal P w K mg base k "_law_gcd" ["a", "b"] sp_law_gcd) : FnOk P w K mg base CX0 (k + 1) f fd ["row"] (sp_law_primitive K) := by
  refine F.ok sc_law_primitive (fun vs H Q E h => ?_) (fun cdv A outer s H vs Q E hr h => ?_)
  · obtain ⟨a, row, B, rfl, _⟩ := h
    rfl
  obtain ⟨a, row, B, rfl, hS, nm, h40, hB, hB2, q⟩ := h
  have hl : (row.map V.int).length = row.length := List.length_map _
  have pos := nm.pos
  have mapG : ((row.map V.int).map (Gdiv (cn row))) = (prm row).map V.int := by
    rw [List.map_map, prm, List.map_map]; rfl
  have fin : ∀ (D : Addr), H D = none → ∀ H', Same H H' → H' D = some (.lst ((row.map V.int).map (Gdiv (cn row)))) → ∀ p, H' p = none → Q (.ref p) (upd H' p (.tup ((row.map V.int).map (Gdiv (cn row))))) := fun D hD H' sm e p hp => by
    rw [mapG]
    exact q _ p (sm.trans (same_new hp _)) (sm.free hp) upd_same
  rcases hS with hS | hS
  · refine ⟨_, (pss_cons (ps_set (i := 1) sc_law_primitive.nd rfl (.inr rfl) pe_int)
    (pss_cons (ps_for PassesOwn.never rfl (pi_list (pv 0)) (pg_name (i := 2) sc_law_primitive.nd rfl (.inl rfl))
      (pss_one (ps_set (i := 1) sc_law_primitive.nd rfl (.inr rfl) (pe_call G_law_gcd.ok hr (by rfl) G_law_gcd.m G_law_gcd.kp G_law_gcd.b .nil pass0 (pa_cons (pv 1) (pa_cons (pv 2) pa_nil))))))
    (pss_cons (ps_if (pt_cmpR op_lt (pe_ix ix_list (pv 0) (pe_op op_sub (pe_callB call_len_seq (by rfl) M.len PySem.boot_len (pa_cons (pv 0) pa_nil)) pe_int) (fun _ _ => rfl)) pe_int (nomark _))
      (pss_one (ps_set (i := 1) sc_law_primitive.nd rfl (.inr rfl) (pe_op op_sub pe_int (pv 1))))
      pss_nil)
    (pss_one (ps_ret (pe_callTy call_tuple_of (by rfl) M.tuple (by decide +kernel) (pa_cons (pe_lc (own := [("number", 2)]) (g := gName 2) (by rfl) sc_law_primitive.nd (pi_list (pv 0)) (blkOk_by (own := [("number", 2)]) (N := N_law_primitive) (sc := defScope s_law_primitive) (by decide +kernel)) (fun _ _ _ _ _ => pg_name (i := 2) sc_law_primitive.nd rfl (Or.inl rfl)) (fun _ _ _ _ _ => pts_nil) (fun _ _ _ _ _ => (pe_op op_fdivZ (pv 2) (pv 1)))) pa_nil))))))), ?_⟩
    refine ⟨_, rfl, a, rfl, ⟨_, hS⟩, for_list (xs := row.map V.int) (fun i σ H' => ∃ y2, σ = [some (.ref a), some (.int (gf (row.take i) : Int)), y2] ∧ H' = H) ⟨none, rfl, rfl⟩ (fun i σ H' _ hP => by obtain ⟨_, _, rfl⟩ := hP; exact hS) (fun i x σ H' hx hP => ?_) (fun σ H' hP => ?_)⟩
    · obtain ⟨y2, rfl, rfl⟩ := hP
      obtain ⟨hi, rfl⟩ := map_mem hx
      refine ⟨_, rfl, _, rfl, _, _, rfl, Nat.lt_of_le_of_lt (hB i) hB2, ?_⟩
      refine ⟨some (.int (co row i)), ?_, rfl⟩
      rw [gf_take hi, Int.natAbs_natCast]
      rfl
    · obtain ⟨y2, rfl, rfl⟩ := hP
      rw [hl, List.take_length]
      have ei : (((row.map V.int).length : Nat) - 1 : Int).toNat = row.length - 1 := by omega
      refine ⟨_, rfl, _, rfl, a, _, rfl, .inl hS, _, _, rfl, rfl, a, _, _, _, rfl, rfl, hS, map_atI (by show (0 : Int) ≤ ((row.map V.int).length : Nat) - 1; omega) (by show ((row.map V.int).length : Nat) - 1 < (row.length : Int); omega), _, _, rfl, rfl, _, rfl, ite2 (fun t => ?tA) (fun t => ?tB)⟩
      case' tA =>
        have t2 : co row (row.length - 1) < 0 := by have := of_decide_eq_true t; rwa [ei] at this
        refine ⟨_, rfl, _, _, rfl, rfl, ?_⟩
        rw [show (fun i j => V.int (i - j)) 0 (gf row : Int) = V.int (cn row) from congrArg V.int (by unfold cn; rw [if_pos t2]; omega)]
      case' tB =>
        have t2 : ¬ co row (row.length - 1) < 0 := by have := of_decide_eq_false (Bool.eq_false_iff.mpr t); rwa [ei] at this
        rw [show V.int (gf row : Int) = V.int (cn row) from congrArg V.int (by unfold cn; rw [if_neg t2])]
      all_goals
        refine ⟨_, rfl, a, rfl, ⟨_, hS⟩, fun D hD => comp_list (xs := row.map V.int) (Gdiv (cn row)) hS hD (by omega) (fun i x H Nx hx sm hn => ?_) (fun H' sm e => ?_)⟩
        · obtain ⟨hi, rfl⟩ := map_mem hx
          exact ⟨rfl, _, rfl, _, rfl, _, _, rfl, rfl, cn_divZ nm hB hB2 (by decide) (by decide) _, hn⟩
        · exact ⟨D, _, rfl, .inl ⟨SqL.of e, fun p hp => fin D hD H' sm e p hp⟩⟩
  · refine ⟨_, (pss_cons (ps_set (i := 1) sc_law_primitive.nd rfl (.inr rfl) pe_int)
    (pss_cons (ps_for PassesOwn.never rfl (pi_tup (pv 0)) (pg_name (i := 2) sc_law_primitive.nd rfl (.inl rfl))
      (pss_one (ps_set (i := 1) sc_law_primitive.nd rfl (.inr rfl) (pe_call G_law_gcd.ok hr (by rfl) G_law_gcd.m G_law_gcd.kp G_law_gcd.b .nil pass0 (pa_cons (pv 1) (pa_cons (pv 2) pa_nil))))))
    (pss_cons (ps_if (pt_cmpR op_lt (pe_ix ix_tup (pv 0) (pe_op op_sub (pe_callB call_len_seq (by rfl) M.len PySem.boot_len (pa_cons (pv 0) pa_nil)) pe_int) (fun _ _ => rfl)) pe_int (nomark _))
      (pss_one (ps_set (i := 1) sc_law_primitive.nd rfl (.inr rfl) (pe_op op_sub pe_int (pv 1))))
      pss_nil)
    (pss_one (ps_ret (pe_callTy call_tuple_of (by rfl) M.tuple (by decide +kernel) (pa_cons (pe_lc (own := [("number", 2)]) (g := gName 2) (by rfl) sc_law_primitive.nd (pi_tup (pv 0)) (blkOk_by (own := [("number", 2)]) (N := N_law_primitive) (sc := defScope s_law_primitive) (by decide +kernel)) (fun _ _ _ _ _ => pg_name (i := 2) sc_law_primitive.nd rfl (Or.inl rfl)) (fun _ _ _ _ _ => pts_nil) (fun _ _ _ _ _ => (pe_op op_fdivZ (pv 2) (pv 1)))) pa_nil))))))), ?_⟩
    refine ⟨_, rfl, a, rfl, ⟨_, hS⟩, for_tup (xs := row.map V.int) (fun i σ H' => ∃ y2, σ = [some (.ref a), some (.int (gf (row.take i) : Int)), y2] ∧ H' = H) ⟨none, rfl, rfl⟩ (fun i σ H' _ hP => by obtain ⟨_, _, rfl⟩ := hP; exact hS) (fun i x σ H' hx hP => ?_) (fun σ H' hP => ?_)⟩
    · obtain ⟨y2, rfl, rfl⟩ := hP
      obtain ⟨hi, rfl⟩ := map_mem hx
      refine ⟨_, rfl, _, rfl, _, _, rfl, Nat.lt_of_le_of_lt (hB i) hB2, ?_⟩
      refine ⟨some (.int (co row i)), ?_, rfl⟩
      rw [gf_take hi, Int.natAbs_natCast]
      rfl
    · obtain ⟨y2, rfl, rfl⟩ := hP
      rw [hl, List.take_length]
      have ei : (((row.map V.int).length : Nat) - 1 : Int).toNat = row.length - 1 := by omega
      refine ⟨_, rfl, _, rfl, a, _, rfl, .inr hS, _, _, rfl, rfl, a, _, _, _, rfl, rfl, hS, map_atI (by show (0 : Int) ≤ ((row.map V.int).length : Nat) - 1; omega) (by show ((row.map V.int).length : Nat) - 1 < (row.length : Int); omega), _, _, rfl, rfl, _, rfl, ite2 (fun t => ?tC) (fun t => ?tD)⟩
      case' tC =>
        have t2 : co row (row.length - 1) < 0 := by have := of_decide_eq_true t; rwa [ei] at this
        refine ⟨_, rfl, _, _, rfl, rfl, ?_⟩
        rw [show (fun i j => V.int (i - j)) 0 (gf row : Int) = V.int (cn row) from congrArg V.int (by unfold cn; rw [if_pos t2]; omega)]
      case' tD =>
        have t2 : ¬ co row (row.length - 1) < 0 := by have := of_decide_eq_false (Bool.eq_false_iff.mpr t); rwa [ei] at this
        rw [show V.int (gf row : Int) = V.int (cn row) from congrArg V.int (by unfold cn; rw [if_neg t2])]
      all_goals
        refine ⟨_, rfl, a, rfl, ⟨_, hS⟩, fun D hD => comp_tup (xs := row.map V.int) (Gdiv (cn row)) hS hD (by omega) (fun i x H Nx hx sm hn => ?_) (fun H' sm e => ?_)⟩
        · obtain ⟨hi, rfl⟩ := map_mem hx
          exact ⟨rfl, _, rfl, _, rfl, _, _, rfl, rfl, cn_divZ nm hB hB2 (by decide) (by decide) _, hn⟩
        · exact ⟨D, _, rfl, .inl ⟨SqL.of e, fun p hp => fin D hD H' sm e p hp⟩⟩
/-- the program's own -/
def spprimitive (K : PySem.W.Frag) : Sp := fun vs H Q _ => ∃ (a : Addr) (row : List Int) (B n : Nat), vs = [.ref a] ∧ SqT K H a (row.map V.int) ∧ Nm row ∧ row.length ≤ 40 ∧ Bd row B ∧ B < 2 ^ n ∧ 0 < n ∧ n ≤ 9000 ∧
  ∀ H' p, Same H H' → H p = none → H' p = some (.tup ((prm row).map V.int)) → Q (.ref p) H'
theorem okprimitive {f : Addr} {fd : FuncData} {k : Nat} (F : Fun K "primitive" "primitive" sprimitive f fd) (M : Names mg) : FnOk P w K mg base CX0 (k + 1) f fd ["polynomial"] (spprimitive K) := by
  refine F.ok scprimitive (fun vs H Q E h => ?_) (fun cdv A outer s H vs Q E hr h => ?_)
  · obtain ⟨a, row, B, n, rfl, _⟩ := h
    rfl
  obtain ⟨a, row, B, n, rfl, hS, nm, h40, hB, hB2, n0, n9, q⟩ := h
  have hl : (row.map V.int).length = row.length := List.length_map _
  have pos := nm.pos
  have mapG : ((row.map V.int).map (Gdiv (cn row))) = (prm row).map V.int := by
    rw [List.map_map, prm, List.map_map]; rfl
  have fin : ∀ (D : Addr), H D = none → ∀ H', Same H H' → H' D = some (.lst ((row.map V.int).map (Gdiv (cn row)))) → ∀ p, H' p = none → Q (.ref p) (upd H' p (.tup ((row.map V.int).map (Gdiv (cn row))))) := fun D hD H' sm e p hp => by
    rw [mapG]
    exact q _ p (sm.trans (same_new hp _)) (sm.free hp) upd_same
  refine ⟨_, (pss_cons (ps_set (i := 1) scprimitive.nd rfl (.inr rfl) pe_int)
    (pss_cons (ps_for PassesOwn.never rfl (pi_tup (pv 0)) (pg_name (i := 2) scprimitive.nd rfl (.inl rfl))
      (pss_one (ps_set (i := 1) scprimitive.nd rfl (.inr rfl) (pe_callBfun cr_gcd (by rfl) M.gcd (pa_cons (pv 1) (pa_cons (pv 2) pa_nil))))))
    (pss_cons (ps_if (pt_cmpR op_lt (pe_ix ix_tup (pv 0) (pe_un un_neg pe_int) (fun _ _ => rfl)) pe_int (nomark _))
      (pss_one (ps_set (i := 1) scprimitive.nd rfl (.inr rfl) (pe_un un_neg (pv 1))))
      pss_nil)
    (pss_one (ps_ret (pe_callTy call_tuple_of (by rfl) M.tuple (by decide +kernel) (pa_cons (pe_lc (own := [("n", 2)]) (g := gName 2) (by rfl) scprimitive.nd (pi_tup (pv 0)) (blkOk_by (own := [("n", 2)]) (N := Nprimitive) (sc := defScope sprimitive) (by decide +kernel)) (fun _ _ _ _ _ => pg_name (i := 2) scprimitive.nd rfl (Or.inl rfl)) (fun _ _ _ _ _ => pts_nil) (fun _ _ _ _ _ => (pe_op op_fdivZ (pv 2) (pv 1)))) pa_nil))))))), ?_⟩
  refine ⟨_, rfl, a, rfl, ⟨_, hS⟩, for_tup (xs := row.map V.int) (fun i σ H' => ∃ y2, σ = [some (.ref a), some (.int (gf (row.take i) : Int)), y2] ∧ H' = H) ⟨none, rfl, rfl⟩ (fun i σ H' _ hP => by obtain ⟨_, _, rfl⟩ := hP; exact hS) (fun i x σ H' hx hP => ?_) (fun σ H' hP => ?_)⟩
  · obtain ⟨y2, rfl, rfl⟩ := hP
    obtain ⟨hi, rfl⟩ := map_mem hx
    refine ⟨_, rfl, _, rfl, _, _, rfl, ?_⟩
    refine ⟨some (.int (co row i)), ?_, rfl⟩
    rw [gf_take hi, Int.natAbs_natCast]
    rfl
  · obtain ⟨y2, rfl, rfl⟩ := hP
    rw [hl, List.take_length]
    refine ⟨_, rfl, _, rfl, a, _, _, _, rfl, rfl, hS, map_last nm.1, _, _, rfl, rfl, _, rfl, ite2 (fun t => ?tA) (fun t => ?tB)⟩
    case' tA =>
      have t2 : co row (row.length - 1) < 0 := of_decide_eq_true t
      refine ⟨_, rfl, _, rfl, ?_⟩
      rw [show (fun i => V.int (-i)) (gf row : Int) = V.int (cn row) from congrArg V.int (by unfold cn; rw [if_pos t2])]
    case' tB =>
      have t2 : ¬ co row (row.length - 1) < 0 := of_decide_eq_false (Bool.eq_false_iff.mpr t)
      rw [show V.int (gf row : Int) = V.int (cn row) from congrArg V.int (by unfold cn; rw [if_neg t2])]
    all_goals
      refine ⟨_, rfl, a, rfl, ⟨_, hS⟩, fun D hD => comp_tup (xs := row.map V.int) (Gdiv (cn row)) hS hD (by omega) (fun i x H Nx hx sm hn => ?_) (fun H' sm e => ?_)⟩
      · obtain ⟨hi, rfl⟩ := map_mem hx
        exact ⟨rfl, _, rfl, _, rfl, _, _, rfl, rfl, cn_divZ nm hB hB2 n0 n9 _, hn⟩
      · exact ⟨D, _, rfl, .inl ⟨SqL.of e, fun p hp => fin D hD H' sm e p hp⟩⟩
end
end KW

/-! zip of a tuple and a list -/
namespace KW
open PySem PySem.Spec PyProof.Rows L2
/-- the tuple at a and the list at b as they stand at each turn -/
def ItM (K : PySem.W.Frag) (a b : Addr) : It where
  go := fun i H => ∃ xs ys x y, SqT K H a xs ∧ SqL K H b ys ∧ xs[i]? = some x ∧ ys[i]? = some y
  yld := fun i H v H' => ∃ T x y, v = .ref T ∧ H T = none ∧ H' = upd H T (.tup [x, y]) ∧ (∀ us, SqT K H a us → us[i]? = some x) ∧ (∀ us, SqL K H b us → us[i]? = some y)
  stop := fun i H => ∃ xs ys, SqT K H a xs ∧ SqL K H b ys ∧ i ≤ xs.length ∧ i ≤ ys.length ∧ (i = xs.length ∨ i = ys.length)
/-- the five cells of such a zip -/
def ZCells (z t o i j : Addr) : List Addr := [z, t, o, i, j]
theorem zcells {z t o i j c : Addr} (h : c ∈ ZCells z t o i j) : c = z ∨ c = t ∨ c = o ∨ c = i ∨ c = j := by simpa [ZCells] using h
def ZState (a b z t o i j : Addr) (k : Nat) (h : Heap) : Prop :=
  IsZip h z t o .none ∧ IsTupOf2 h t (.ref i) (.ref j) ∧ (∃ u v, IsTupOf2 h o u v) ∧ h.IsTupleIter i a k ∧ h.IsListIter j b k
theorem zsep {z t o i j a b : Addr} (D : ZipApart z t o i j a b) : ZipSep2 z t o i j [i, a] [j, b] := by
  have e1 := D.i1z; have e2 := D.l1z; have e3 := D.TOi1; have e4 := D.l1TO; have e5 := D.i2z; have e6 := D.l2z; have e7 := D.TOi2; have e8 := D.l2TO; have e9 := D.i12; have e10 := D.l2i1; have e11 := D.l1i2
  have nin : ∀ {c p q : Addr}, c ≠ p → c ≠ q → c ∉ [p, q] := fun h1 h2 hm => by
    rcases List.mem_cons.mp hm with q | q
    · exact h1 q
    · exact h2 (List.mem_singleton.mp q)
  exact { TIz := D.TIz, TOz := D.TOz, TITO := D.TITO, TIi1 := D.TIi1, TIi2 := D.TIi2, mem1 := List.mem_cons_self, mem2 := List.mem_cons_self, zf1 := nin (Ne.symm e1) (Ne.symm e2), Tf1 := nin e3 (Ne.symm e4), zf2 := nin (Ne.symm e5) (Ne.symm e6), Tf2 := nin e7 (Ne.symm e8), sep1_2 := nin e9 (Ne.symm e10), sep2_1 := nin (Ne.symm e9) (Ne.symm e11) }
section
variable {P : Program} {w : World} {K : PySem.W.Frag} {es : List Expr} {n : Nat} {tp : Pos} {a b z t o i j : Addr}
theorem turnM (D : ZipApart z t o i j a b) : Turn P w K (.Tuple es n tp) (ItM K a b) (ZCells z t o i j) z (ZState a b z t o i j) := by
  refine { mem := by simp [ZCells], obj := ?obj, keep := ?keep, item := ?item, done := ?done, self := fun _ _ _ _ _ st h => wpAny_pyIter_zip st.1 h }
  case obj =>
    rintro k h ⟨s1, s2, ⟨u, v, s3⟩, ⟨o1, p1, _, p2⟩, ⟨o2, p3, _, p4⟩⟩ c hc
    rcases zcells hc with rfl | rfl | rfl | rfl | rfl
    · exact ⟨_, s1, fun v q => nomatch q⟩
    · exact ⟨_, s2, fun v q => nomatch q⟩
    · exact ⟨_, s3, fun v q => nomatch q⟩
    · exact ⟨o1, p1, fun v q => by rw [p2] at q; cases q⟩
    · exact ⟨o2, p3, fun v q => by rw [p4] at q; cases q⟩
  case keep =>
    rintro k h h' ⟨s1, s2, ⟨u, v, s3⟩, s4, s5⟩ kp
    have m : ∀ c, (c = z ∨ c = t ∨ c = o ∨ c = i ∨ c = j) → c ∈ ZCells z t o i j := fun c q => by simpa [ZCells] using q
    exact ⟨kp _ (m _ (.inl rfl)) _ s1, kp _ (m _ (.inr (.inl rfl))) _ s2, ⟨u, v, kp _ (m _ (.inr (.inr (.inl rfl)))) _ s3⟩, s4.at fun _ q => kp _ (m _ (.inr (.inr (.inr (.inl rfl))))) _ q, s5.at fun _ q => kp _ (m _ (.inr (.inr (.inr (.inr rfl))))) _ q⟩
  case item =>
    rintro X rfl rfl rfl hc k pins s σ H E I hf ⟨s1, s2, ⟨u, v, s3⟩, s4, s5⟩ ⟨xs, ys, x, y, qx, qy, gx, gy⟩
    obtain ⟨its, r1, p1, _⟩ := I.tuple qx
    obtain ⟨jts, r2, p2, _⟩ := I.list qy
    obtain ⟨w1, f1, rw1⟩ := r1.get gx
    obtain ⟨w2, f2, rw2⟩ := r2.get gy
    have b1 : k < its.toArray.size := by rw [List.size_toArray]; exact (List.getElem?_eq_some_iff.mp f1).1
    have b2 : k < jts.toArray.size := by rw [List.size_toArray]; exact (List.getElem?_eq_some_iff.mp f2).1
    have zlt := Heap.lt_size s1
    have hh : X.A.in1.handled = none := I.ok.hd hc
    refine wpAny_pyNext_zipD2_item (zsep D) (Draws.tuple hh i a D.l1i1 its.toArray) (Draws.list hh j b D.l2i2 jts.toArray) s1 s2 s3 ⟨s4, p1⟩ ⟨s5, p2.isList⟩ b1 b2 fun x1 x2 h' tk e1 e2 c1 c2 c3 c4 c5 c6 c7 => ?_
    have ex1 : x1 = w1 := by
      have : its[k]? = some x1 := by simpa using e1
      rw [f1] at this; exact (Option.some.inj this).symm
    have ex2 : x2 = w2 := by
      have : jts[k]? = some x2 := by simpa using e2
      rw [f2] at this; exact (Option.some.inj this).symm
    subst ex1 ex2
    refine ⟨_, rfl, wpAny_letOwnedTupleGo_zip (s := { s with heap := h', toks := tk }) c1 fun h2 z2 sb => ?_⟩
    have g2 : ∀ c ob, c ≠ z → h'.get? c = some ob → h2.get? c = some ob := fun c ob ne q => (sb.2 c ne).trans q
    have T2 : IsTupOf2 h2 s.heap.objs.size x1 x2 := g2 _ _ (Nat.ne_of_gt zlt) c5
    have nw : ObjOk X.prog X.w (upd H s.heap.objs.size (.tup [x, y])) h2 s.heap.objs.size (.tup [x, y]) := ⟨(by show 2 ≤ sizeLine; decide), [x1, x2], .cons rw1 (.cons rw2 .nil), ⟨_, T2, rfl, _, rfl⟩⟩
    have I1 : Inv X pins σ (upd H s.heap.objs.size (.tup [x, y])) { s with heap := h2, toks := tk } := I.turnedNew (ch := ZCells z t o i j) (fun c ob hb q => by
      have ne : ∀ d, d ∈ ZCells z t o i j → c ≠ d := fun d hd e => hb (e ▸ hd)
      exact g2 _ _ (ne _ (by simp [ZCells])) (c7 c ob (ne _ (by simp [ZCells])) (ne _ (by simp [ZCells])) (ne _ (by simp [ZCells])) (ne _ (by simp [ZCells])) q)) hf (Nat.le_refl _) nw
    refine ⟨.ref s.heap.objs.size, _, I1, rfl, ⟨_, x, y, rfl, I.hok.fresh (Nat.le_refl _), rfl, fun us hu => by rw [I.tuple_inj hu qx]; exact gx, fun us hu => by rw [I.list_inj hu qy]; exact gy⟩, ⟨z2, g2 _ _ D.TIz (c7 _ _ D.TIz D.TITO D.TIi1 D.TIi2 s2), ⟨x1, x2, g2 _ _ D.TOz c2⟩, c3.1.at fun _ q => g2 _ _ D.i1z q, c4.1.at fun _ q => g2 _ _ D.i2z q⟩, fun c hcm => ?_⟩
    have lt : c < s.heap.objs.size := by
      rcases zcells hcm with rfl | rfl | rfl | rfl | rfl
      · exact zlt
      · exact Heap.lt_size s2
      · exact Heap.lt_size s3
      · obtain ⟨_, q, _⟩ := s4; exact Heap.lt_size q
      · obtain ⟨_, q, _⟩ := s5; exact Heap.lt_size q
    rw [upd_ne (Nat.ne_of_lt lt)]
    exact (hf c hcm).1
  case done =>
    rintro X rfl rfl rfl hc k pins s σ H E I hf ⟨s1, s2, ⟨u, v, s3⟩, s4, s5⟩ ⟨xs, ys, qx, qy, l1, l2, l3⟩
    obtain ⟨its, r1, p1, _⟩ := I.tuple qx
    obtain ⟨jts, r2, p2, _⟩ := I.list qy
    have n1 : its.toArray.size = xs.length := by rw [List.size_toArray]; exact r1.length.symm
    have n2 : jts.toArray.size = ys.length := by rw [List.size_toArray]; exact r2.length.symm
    have hh : X.A.in1.handled = none := I.ok.hd hc
    refine wpAny_pyNext_zipD2_end (zsep D) (Draws.tuple hh i a D.l1i1 its.toArray) (Draws.list hh j b D.l2i2 jts.toArray) s1 s2 s3 ⟨s4, p1⟩ ⟨s5, p2.isList⟩ (by omega) (by omega) (by omega) fun h' tk kp => ⟨rfl, I.turnedL (ch := ZCells z t o i j) (fun c ob hb q => ?_) hf⟩
    have ne : ∀ d, d ∈ ZCells z t o i j → c ≠ d := fun d hd e => hb (e ▸ hd)
    exact kp c ob (ne _ (by simp [ZCells])) (ne _ (by simp [ZCells])) (ne _ (by simp [ZCells])) (ne _ (by simp [ZCells])) q
end
def iZipM (K : PySem.W.Frag) (ta : TA) : TI := fun σ H R => ta σ H fun vs H1 => ∃ a b xs ys, vs = [V.ref a, V.ref b] ∧ SqT K H1 a xs ∧ SqL K H1 b ys ∧ R (ItM K a b) H1
theorem pi_zipM {X : Cx} {e1 e2 : Expr} {ta : TA} {p pos tp : Pos} {es : List Expr} {n : Nat} (hg : Gl X "zip") (hm : X.mg "zip" = none) (ha : PA X [e1, e2] ta)
    (hs : starEach [e1, e2] X.env = (false, eval e1 X.env) :: starEach [e2] X.env := by rfl) (hb : (backTo pos (starEach [e2] X.env)).any (·.1) = false := by rfl) : PI X (.Tuple es n tp) (.Call (.Name "zip" p) [e1, e2] [] pos) (iZipM X.K ta) := by
  constructor
  intro pins s σ H R I h
  refine Call_ (ld_blt I hg hm PyProof.Rows.boot_zip (PyProof.Rows.callWith_type1 (thn (ha.run pos pins s σ H _ I h) ?_) hs hb))
  rintro us s1 ⟨vs, H1, I1, r1, a, b, xs, ys, rfl, qx, qy, q⟩
  obtain ⟨v1, v2, rfl, rv1, rv2⟩ := vals2 r1
  cases rv1
  cases rv2
  obtain ⟨its, _, p1, _⟩ := I1.tuple qx
  obtain ⟨jts, _, p2, _⟩ := I1.list qy
  obtain ⟨o1, g1, _⟩ := id p1
  refine zip_begins2 (begins_tuple a its.toArray) (begins_list b jts.toArray) p1 p2.isList fun h' hz ht ho c1 c2 hsz kp => wpAny_pyIter_zip hz ?_
  refine ⟨s1.heap.objs.size + 4, ZCells _ _ _ _ _, _, _, H1, rfl, I1.kept (t' := s1.toks) kp, turnM (PySem.W.ktu_apart s1.heap.objs.size a b (Heap.lt_size g1) p2.lt), ⟨hz, ht, ⟨_, _, ho⟩, ⟨_, c1, rfl, rfl⟩, ⟨_, c2, rfl, rfl⟩⟩, fun c hc => ?_, q⟩
  have le : s1.heap.objs.size ≤ c := by
    rcases zcells hc with rfl | rfl | rfl | rfl | rfl
    · exact Nat.le_add_right _ _
    · exact Nat.le_add_right _ _
    · exact Nat.le_add_right _ _
    · exact Nat.le_refl _
    · exact Nat.le_add_right _ _
  exact I1.fpOk le (I1.hok.fresh le)
end KW

namespace KW
open PySem PySem.Spec PyProof.Rows L2 KP
section
variable {D : Addr} {g : TG} {te : TE} {vs : List Nat} {σ : L2.St} {H1 : Hp} {Qd : Hp → Prop}
theorem comp_range (G : Nat → V) (n : Nat) (hD : H1 D = none) (hl : n ≤ 1000)
    (hs : ∀ (i : Nat) (H : Hp) (Nx : V → Hp → Prop), i < n → Same H1 H → Nx (G i) H → g (.int (0 + (i : Nat))) (wipe σ vs) H fun σ2 H2 => wipe σ2 vs = wipe σ vs ∧ te σ2 H2 Nx)
    (hd : ∀ H, Same H1 H → H D = some (.lst ((List.range n).map G)) → Qd H) :
    ∃ W : Nat → Nat → Hp → Prop, (∃ m, W 0 m (upd H1 D (.lst []))) ∧ ∀ i m H, W i m H →
      ((Itr 0 n).stop i H ∧ Qd H) ∨ ((Itr 0 n).go i H ∧ ∃ Nx : Hp → Prop, (∀ H', Nx H' → ∃ m', m' < m ∧ W (i + 1) m' H') ∧ ∀ x H', (Itr 0 n).yld i H x H' → g x (wipe σ vs) H' fun σ2 H2 => wipe σ2 vs = wipe σ vs ∧ tYes σ2 H2 fun b H3 =>
        if b = true then te σ2 H3 fun y H4 => ∃ acc, H4 D = some (.lst acc) ∧ acc.length < sizeLine ∧ Nx (upd H4 D (.lst (acc ++ [y]))) else Nx H3) := by
  refine lc_range (lo := 0) (n := n) (fun i H => Same H1 H ∧ H D = some (.lst ((List.range i).map G))) ⟨same_new hD _, upd_same⟩ (fun i H hi h => ?_) (fun H h => hd H h.1 h.2)
  have := hs i H (fun y H4 => ∃ acc, H4 D = some (.lst acc) ∧ acc.length < sizeLine ∧ (Same H1 (upd H4 D (.lst (acc ++ [y]))) ∧ (upd H4 D (.lst (acc ++ [y]))) D = some (.lst ((List.range (i + 1)).map G)))) hi h.1
    ⟨_, h.2, small1000 (by rw [List.length_map, List.length_range]; omega), fun b o e => by rw [upd_ne (ne_of_none e hD)]; exact h.1 b o e, by rw [upd_same, List.range_succ, List.map_append]; rfl⟩
  exact this
end
/-- an item of a list or a tuple of ints -/
theorem rix {K : PySem.W.Frag} {H : Hp} {a : Addr} {row : List Int} {i : Int} {Q : VK} (h : Sq K H a (row.map V.int)) (h0 : 0 ≤ i) (h1 : i < row.length) (q : Q (.int (co row i.toNat)) H) : rIx K (.ref a) (.int i) H Q :=
  h.elim (fun h => .inl ⟨a, _, _, _, rfl, rfl, h, map_atI h0 h1, q⟩) fun h => .inr (.inl ⟨a, _, _, _, rfl, rfl, h, map_atI h0 h1, q⟩)
theorem ev_take {p : List Int} {i : Nat} (h : i < p.length) (x : Int) : ev (p.take (i + 1)) x = ev (p.take i) x + x ^ i * co p i := by
  rw [List.take_add_one, List.getElem?_eq_getElem h, ev_append, List.length_take, Nat.min_eq_left (by omega)]
  have e : co p i = p[i] := by simp [co, List.getD_eq_getElem?_getD, h]
  rw [e]; simp [ev_cons, ev_nil]
theorem ev_set : ∀ (p : List Int) (k : Nat) (c x : Int), k < p.length → ev (p.set k (co p k + c)) x = ev p x + x ^ k * c
  | a :: p, 0, c, x, _ => by simp [ev_cons, co_zero]; omega
  | a :: p, k + 1, c, x, h => by
    rw [List.set_cons_succ, ev_cons, ev_cons, co_succ, ev_set p k c x (by simpa using h), Int.pow_succ]; grind
  | [], _, _, _, h => by simp at h
theorem set_map {p : List Int} {k : Nat} {z : Int} : (p.map V.int).set k (.int z) = (p.set k z).map V.int := by rw [List.map_set]
theorem ixN_nat {n : Nat} {k : Int} (h0 : 0 ≤ k) (h : k < n) : ixN n k = some k.toNat := by
  unfold ixN; rw [if_pos h0, if_pos h]
abbrev s_law_poly_times : Stmt := topS 11
abbrev N_law_poly_times : List Str := ["one", "other", "found", "i", "j", "k"]
theorem sc_law_poly_times : FnScope N_law_poly_times ["one", "other"] (defScope s_law_poly_times) := ⟨rfl, rfl, rfl, by decide +kernel, rfl, by decide +kernel, by decide +kernel⟩
section
variable {P : Program} {w : World} {K : PySem.W.Frag} {mg : Str → Option Value} {base : Heap}
theorem cmul_bd {p q : List Int} {A B n m : Nat} (hp : Bd p A) (hq : Bd q B) (hA : A < 2 ^ n) (hB : B < 2 ^ m) (h0 : 0 < n) (h1 : 0 < m) (h : n + m ≤ 1000000) (i j : Nat) : CMulW (co p i) (co q j) :=
  wide_mul (Nat.lt_of_le_of_lt (hp i) hA) (Nat.lt_of_le_of_lt (hq j) hB) h0 h1 h
def sp_law_poly_times (K : PySem.W.Frag) : Sp := fun vs H Q _ => ∃ (a b : Addr) (p q : List Int) (A B : Nat), vs = [.ref a, .ref b] ∧ Sq K H a (p.map V.int) ∧ Sq K H b (q.map V.int) ∧ 0 < p.length ∧ 0 < q.length ∧ p.length ≤ 40 ∧ q.length ≤ 40 ∧ Bd p A ∧ Bd q B ∧ A < 2 ^ 10000 ∧ B < 2 ^ 10000 ∧
  ∀ H' (r : Addr) (f : List Int), Same H H' → H r = none → H' r = some (.lst (f.map V.int)) → f.length = p.length + q.length - 1 → (∀ x, ev f x = ev p x * ev q x) → Q (.ref r) H'
theorem ok_law_poly_times {f : Addr} {fd : FuncData} {k : Nat} (F : Fun K "_law_poly_times" "_law_poly_times" s_law_poly_times f fd) (M : Names mg) : FnOk P w K mg base CX0 (k + 1) f fd ["one", "other"] (sp_law_poly_times K) := by
  refine F.ok sc_law_poly_times (fun vs H Q E h => ?_) (fun cdv A' outer s H vs Q E hr h => ?_)
  · obtain ⟨a, b, p, q, A, B, rfl, _⟩ := h
    rfl
  obtain ⟨a, b, p, q, A, B, rfl, hp, hq, p0, q0, p40, q40, bp, bq, hA, hB, fin⟩ := h
  have lp : (p.map V.int).length = p.length := List.length_map _
  have lq : (q.map V.int).length = q.length := List.length_map _
  refine ⟨_, (pss_cons (ps_setLc (i := 2) (own := [("k", 5)]) (g := gName 5) (by rfl) sc_law_poly_times.nd rfl rfl (sw_true rfl rfl rfl (by decide +kernel)) (pi_range1 (by rfl) M.range (pa_cons (pe_op op_sub (pe_op op_add (pe_callB call_len_seq (by rfl) M.len PySem.boot_len (pa_cons (pv 0) pa_nil)) (pe_callB call_len_seq (by rfl) M.len PySem.boot_len (pa_cons (pv 1) pa_nil))) pe_int) pa_nil)) (blkOk_by (own := [("k", 5)]) (N := N_law_poly_times) (sc := defScope s_law_poly_times) (by decide +kernel)) (fun _ _ _ _ _ => pg_name (i := 5) sc_law_poly_times.nd rfl (Or.inl rfl)) (fun _ _ _ _ _ => pts_nil) (fun _ _ _ _ _ => pe_int))
    (pss_cons (ps_for PassesOwn.never rfl (pi_range1 (by rfl) M.range (pa_cons (pe_callB call_len_seq (by rfl) M.len PySem.boot_len (pa_cons (pv 0) pa_nil)) pa_nil)) (pg_name (i := 3) sc_law_poly_times.nd rfl (.inl rfl))
      (pss_one (ps_for PassesOwn.never rfl (pi_range1 (by rfl) M.range (pa_cons (pe_callB call_len_seq (by rfl) M.len PySem.boot_len (pa_cons (pv 1) pa_nil)) pa_nil)) (pg_name (i := 4) sc_law_poly_times.nd rfl (.inl rfl))
        (pss_one (ps_asg (pe_op op_add (pe_ix ix_list (pv 2) (pe_op op_add (pv 3) (pv 4)) (fun _ _ => rfl)) (pe_op op_mulW (pe_ix ix_seq (pv 0) (pv 3) (fun _ _ => rfl)) (pe_ix ix_seq (pv 1) (pv 4) (fun _ _ => rfl)))) (pg_sub (pv 2) (pe_op op_add (pv 3) (pv 4)) set_list))))))
    (pss_one (ps_ret (pv 2))))), ?_⟩
  refine ⟨_, rfl, a, _, rfl, hp, _, rfl, b, _, rfl, hq, _, _, rfl, rfl, _, _, rfl, rfl, ?_⟩
  refine ⟨_, rfl, ?_, ?_, fun D hD => comp_range (fun _ => .int 0) _ hD ?_ (fun i H' Nx hi sm hn => ⟨rfl, hn⟩) (fun H1 sm e => ?_)⟩
  · show -(2 ^ 62) ≤ ((((p.map V.int).length : Nat) + ((q.map V.int).length : Nat) : Int) - 1); omega
  · show ((((p.map V.int).length : Nat) + ((q.map V.int).length : Nat) : Int) - 1) < 2 ^ 62; omega
  · show ((((p.map V.int).length : Nat) + ((q.map V.int).length : Nat) : Int) - 1).toNat ≤ 1000; omega
  · have hn : ((((p.map V.int).length : Nat) + ((q.map V.int).length : Nat) : Int) - 1).toNat = p.length + q.length - 1 := by omega
    have e0 : H1 D = some (.lst ((List.replicate (p.length + q.length - 1) (0 : Int)).map V.int)) := by
      rw [e]
      show some (HO.lst (List.map (fun _ => V.int 0) (List.range ((((p.map V.int).length : Nat) + ((q.map V.int).length : Nat) : Int) - 1).toNat))) = _
      rw [hn, List.map_const', List.map_replicate, List.length_range]
    have hp1 := hp.same sm
    refine ⟨_, rfl, a, _, rfl, hp1, ?_⟩
    refine ⟨_, rfl, (by show -(2 ^ 62) ≤ (((p.map V.int).length : Nat) : Int); omega), (by show (((p.map V.int).length : Nat) : Int) < 2 ^ 62; omega), for_range (lo := 0) (n := (p.map V.int).length) (fun i σ H' => ∃ (y3 y4 : Option V) (f : List Int), σ = [some (.ref a), some (.ref b), some (.ref D), y3, y4, none] ∧ Same H H' ∧ H' D = some (.lst (f.map V.int)) ∧ f.length = p.length + q.length - 1 ∧ ∀ x, ev f x = ev (p.take i) x * ev q x)
      ⟨none, none, _, rfl, sm, e0, List.length_replicate, fun x => by rw [ev_zeros]; simp [ev_nil]⟩ (fun i σ H' hi hP => ?_) (fun σ H' hP => ?_)⟩
    · obtain ⟨y3, y4, f, rfl, s1, e1, l1, v1⟩ := hP
      have hq1 := hq.same s1
      refine ⟨_, rfl, b, _, rfl, hq1, ?_⟩
      refine ⟨_, rfl, (by show -(2 ^ 62) ≤ (((q.map V.int).length : Nat) : Int); omega), (by show (((q.map V.int).length : Nat) : Int) < 2 ^ 62; omega), for_range (lo := 0) (n := (q.map V.int).length) (fun j σ H' => ∃ (y4 : Option V) (f : List Int), σ = [some (.ref a), some (.ref b), some (.ref D), some (.int (0 + (i : Nat))), y4, none] ∧ Same H H' ∧ H' D = some (.lst (f.map V.int)) ∧ f.length = p.length + q.length - 1 ∧ ∀ x, ev f x = ev (p.take i) x * ev q x + x ^ i * co p i * ev (q.take j) x)
        ⟨y4, f, rfl, s1, e1, l1, fun x => by rw [v1]; simp [ev_nil]⟩ (fun j σ H2 hj hP => ?_) (fun σ H2 hP => ?_)⟩
      · obtain ⟨y4, f, rfl, s2, e2, l2, v2⟩ := hP
        rw [lp] at hi
        rw [lq] at hj
        refine ⟨_, rfl, _, rfl, _, rfl, _, _, rfl, rfl, D, _, _, _, rfl, rfl, SqL.of e2, map_atI (by show (0 : Int) ≤ (0 + (i : Nat)) + (0 + (j : Nat)); omega) (by show (0 + (i : Nat) : Int) + (0 + (j : Nat)) < (f.length : Int); omega), ?_⟩
        refine ⟨_, rfl, _, rfl, rix (hp.same s2) (by omega) (by omega) ?_⟩
        refine ⟨_, rfl, _, rfl, rix (hq.same s2) (by omega) (by omega) ?_⟩
        refine ⟨_, _, rfl, rfl, cmul_bd bp bq hA hB (by decide) (by decide) (by decide) _ _, _, _, rfl, rfl, ?_⟩
        refine ⟨_, rfl, _, rfl, _, rfl, _, _, rfl, rfl, D, _, _, _, rfl, rfl, e2, ixN_nat (by omega) (by rw [List.length_map]; omega), ?_⟩
        have t1 : (0 + (i : Nat) : Int).toNat = i := by omega
        have t2 : (0 + (j : Nat) : Int).toNat = j := by omega
        have t3 : ((0 + (i : Nat) : Int) + (0 + (j : Nat))).toNat = i + j := by omega
        refine ⟨_, f.set (i + j) (co f (i + j) + co p i * co q j), rfl, fun c u h => ?_, ?_, by rw [List.length_set, l2], fun x => ?_⟩
        · rw [upd_ne (ne_of_none h hD)]; exact s2 c u h
        · rw [upd_same, t1, t2, t3, set_map]
        · rw [ev_set f (i + j) _ x (by omega), v2 x, ev_take hj, Int.pow_add]; grind
      · obtain ⟨y4, f, rfl, s2, e2, l2, v2⟩ := hP
        rw [lp] at hi
        refine ⟨_, _, f, rfl, s2, e2, l2, fun x => ?_⟩
        rw [v2 x, ev_take hi, lq, List.take_length]; grind
    · obtain ⟨y3, y4, f, rfl, s1, e1, l1, v1⟩ := hP
      refine ⟨_, rfl, fin H' D f s1 hD e1 l1 fun x => ?_⟩
      rw [v1 x, lp, List.take_length]
end
end KW

namespace KW
open PySem PySem.Spec PyProof.Rows L2 KP
theorem cut_to (xs : List V) (n : Nat) (h : n ≤ xs.length) : cutV xs none (some (n : Int)) = xs.take n := by
  unfold cutV
  rw [HT.sIx_none, HT.sIx_nat, Nat.min_eq_left h, List.drop_zero, Nat.sub_zero]
abbrev s_without_zeros : Stmt := topS 3
abbrev N_without_zeros : List Str := ["terms", "count"]
theorem sc_without_zeros : FnScope N_without_zeros ["terms"] (defScope s_without_zeros) := ⟨rfl, rfl, rfl, by decide +kernel, rfl, by decide +kernel, by decide +kernel⟩
/-- t without the zeros at its end -/
structure Cutz (t r : List Int) : Prop where
  ex : ∃ n, n ≤ t.length ∧ r = t.take n ∧ (n = 0 ∨ co t (n - 1) ≠ 0) ∧ ∀ i, n ≤ i → co t i = 0
theorem co_take {t : List Int} {n i : Nat} : co (t.take n) i = if i < n then co t i else 0 := by
  by_cases h : i < n
  · simp [co, List.getD_eq_getElem?_getD, h]
  · rw [if_neg h]; exact co_ge (by rw [List.length_take]; omega)
theorem Cutz.co {t r : List Int} (h : Cutz t r) (i : Nat) : co r i = KP.co t i := by
  obtain ⟨n, h1, rfl, h3, h4⟩ := h.ex
  rw [co_take]
  split
  · rfl
  · exact (h4 i (by omega)).symm
theorem Cutz.ev {t r : List Int} (h : Cutz t r) (x : Int) : ev r x = KP.ev t x := ev_of_co h.co x
theorem Cutz.nm {t r : List Int} (h : Cutz t r) : r = [] ∨ Nm r := by
  have hc := h.co
  obtain ⟨n, h1, rfl, h3, h4⟩ := h.ex
  have l : (t.take n).length = n := by rw [List.length_take]; omega
  rcases h3 with rfl | h3
  · exact .inl (by simp)
  · by_cases n0 : n = 0
    · exact .inl (by rw [n0]; simp)
    · refine .inr ⟨fun e => ?_, ?_⟩
      · rw [e] at l; simp at l; omega
      · rw [l, hc]; exact h3
theorem Cutz.len {t r : List Int} (h : Cutz t r) : r.length ≤ t.length := by
  obtain ⟨n, h1, rfl, h3, h4⟩ := h.ex
  rw [List.length_take]; omega
theorem Cutz.lt {t r : List Int} (h : Cutz t r) (h0 : 0 < t.length) (hz : KP.co t (t.length - 1) = 0) : r.length < t.length := by
  obtain ⟨n, h1, rfl, h3, h4⟩ := h.ex
  rw [List.length_take]
  rcases h3 with h3 | h3
  · omega
  · rcases Nat.lt_or_ge n t.length with k | k
    · omega
    · have : n = t.length := by omega
      rw [this] at h3; exact absurd hz h3
theorem Cutz.bd {t r : List Int} {B : Nat} (h : Cutz t r) (hb : Bd t B) : Bd r B := fun i => by rw [h.co]; exact hb i
section
variable {P : Program} {w : World} {K : PySem.W.Frag} {mg : Str → Option Value} {base : Heap}
def sp_without_zeros (K : PySem.W.Frag) : Sp := fun vs H Q _ => ∃ (a : Addr) (t : List Int), vs = [.ref a] ∧ SqL K H a (t.map V.int) ∧ t.length ≤ 1000 ∧
  ∀ H' (p : Addr) (r : List Int), Same H H' → H p = none → H' p = some (.tup (r.map V.int)) → Cutz t r → Q (.ref p) H'
theorem ok_without_zeros {f : Addr} {fd : FuncData} {k : Nat} (F : Fun K "_without_zeros" "_without_zeros" s_without_zeros f fd) (M : Names mg) : FnOk P w K mg base CX0 (k + 1) f fd ["terms"] (sp_without_zeros K) := by
  refine F.ok sc_without_zeros (fun vs H Q E h => ?_) (fun cdv A outer s H vs Q E hr h => ?_)
  · obtain ⟨a, t, rfl, _⟩ := h
    rfl
  obtain ⟨a, t, rfl, hS, h1000, q⟩ := h
  have lt : (t.map V.int).length = t.length := List.length_map _
  refine ⟨_, (pss_cons (ps_set (i := 1) sc_without_zeros.nd rfl (.inl rfl) (pe_callB call_len_seq (by rfl) M.len PySem.boot_len (pa_cons (pv 0) pa_nil)))
    (pss_cons (ps_while PassesOwn.never (PW.pt (pw_and (pt_cmpR op_gt (pv 1) pe_int (nomark _)) (pw_and1 (pt_cmpR op_eq (pe_ix ix_list (pv 0) (pe_op op_sub (pv 1) pe_int) (fun _ _ => rfl)) pe_int (nomark _)))))
      (pss_one (ps_set (i := 1) sc_without_zeros.nd rfl (.inl rfl) (pe_op op_sub (pv 1) pe_int))))
    (pss_one (ps_ret (pe_callTy call_tuple_of (by rfl) M.tuple (by decide +kernel) (pa_cons (pe_slice sl_list (pv 0) po_none (po_some (pv 1))) pa_nil)))))), ?_⟩
  refine ⟨_, rfl, a, _, rfl, .inl hS, ?_⟩
  have out : ∀ n : Nat, n ≤ t.length → (n = 0 ∨ co t (n - 1) ≠ 0) → (∀ i, n ≤ i → co t i = 0) → ∀ p, H p = none → ∀ l, (upd H p (.lst (cutV (t.map V.int) none (some (n : Int))))) l = none → Q (.ref l) (upd (upd H p (.lst (cutV (t.map V.int) none (some (n : Int))))) l (.tup (cutV (t.map V.int) none (some (n : Int))))) := fun n h1 h2 h3 p hp l hl => by
    have s1 := same_new hp (.lst (cutV (t.map V.int) none (some (n : Int))))
    refine q _ l (t.take n) (s1.trans (same_new hl _)) (s1.free hl) ?_ ⟨n, h1, rfl, h2, h3⟩
    rw [upd_same, cut_to _ _ (by omega), List.map_take]
  refine ⟨fun m σ H' => σ = [some (.ref a), some (.int (m : Int))] ∧ H' = H ∧ m ≤ t.length ∧ ∀ i, m ≤ i → co t i = 0, ⟨t.length, by rw [← lt]; rfl, rfl, Nat.le_refl _, fun i hi => co_ge hi⟩, fun m σ H' hW => ?_⟩
  obtain ⟨rfl, rfl, hm, hz⟩ := hW
  refine ⟨_, rfl, _, _, rfl, rfl, _, rfl, ite2 (fun c1 => ?_) (fun c1 => ?_)⟩
  · have m0 : 0 < m := by have := of_decide_eq_true c1; omega
    have ti : ((m : Int) - 1).toNat = m - 1 := by omega
    refine ⟨_, rfl, _, rfl, _, _, rfl, rfl, a, _, _, _, rfl, rfl, hS, map_atI (by omega) (by omega), rfl, _, rfl, ite2 (fun c2 => ?_) (fun c2 => ?_)⟩
    · have z : co t (m - 1) = 0 := by
        have := V.int.inj (of_decide_eq_true c2)
        rwa [ti] at this
      refine ⟨fun σ' H1 => σ' = [some (.ref a), some (.int (((m - 1 : Nat)) : Int))] ∧ H1 = H', fun σ' H1 hN => ⟨m - 1, by omega, hN.1, hN.2, by omega, fun i hi => ?_⟩, ?_⟩
      · by_cases e : i = m - 1
        · rw [e]; exact z
        · exact hz i (by omega)
      · refine ⟨_, rfl, _, _, rfl, rfl, ?_, rfl⟩
        rw [show (((m - 1 : Nat)) : Int) = (m : Int) - 1 by omega]; rfl
    · have z : co t (m - 1) ≠ 0 := fun e => c2 (by rw [ti, e]; rfl)
      exact ⟨_, rfl, _, rfl, _, rfl, a, _, rfl, hS, fun p hp => ⟨p, _, rfl, .inl ⟨SqL.of upd_same, fun l hl => out m hm (.inr z) hz p hp l hl⟩⟩⟩
  · have m0 : m = 0 := by have := of_decide_eq_false (Bool.eq_false_iff.mpr c1); omega
    exact ⟨_, rfl, _, rfl, _, rfl, a, _, rfl, hS, fun p hp => ⟨p, _, rfl, .inl ⟨SqL.of upd_same, fun l hl => out m hm (.inl m0) hz p hp l hl⟩⟩⟩
end
end KW

namespace KW
open PySem PySem.Spec PyProof.Rows L2 KP
theorem comp_zipM {K : PySem.W.Frag} {a b D : Addr} {xs ys : List V} {g : TG} {te : TE} {vs : List Nat} {σ : L2.St} {H1 : Hp} {Qd : Hp → Prop} (G : Nat → V) (ha : SqT K H1 a xs) (hb : SqL K H1 b ys) (hl : xs.length = ys.length) (hD : H1 D = none) (h1000 : xs.length ≤ 1000)
    (hs : ∀ (i : Nat) (x y : V) (T : Addr) (H : Hp) (Nx : V → Hp → Prop), xs[i]? = some x → ys[i]? = some y → Same H1 H → H T = none → Nx (G i) (upd H T (.tup [x, y])) → g (.ref T) (wipe σ vs) (upd H T (.tup [x, y])) fun σ2 H2 => wipe σ2 vs = wipe σ vs ∧ te σ2 H2 Nx)
    (hd : ∀ H, Same H1 H → H D = some (.lst ((List.range xs.length).map G)) → Qd H) :
    ∃ W : Nat → Nat → Hp → Prop, (∃ m, W 0 m (upd H1 D (.lst []))) ∧ ∀ i m H, W i m H →
      ((ItM K a b).stop i H ∧ Qd H) ∨ ((ItM K a b).go i H ∧ ∃ Nx : Hp → Prop, (∀ H', Nx H' → ∃ m', m' < m ∧ W (i + 1) m' H') ∧ ∀ x H', (ItM K a b).yld i H x H' → g x (wipe σ vs) H' fun σ2 H2 => wipe σ2 vs = wipe σ vs ∧ tYes σ2 H2 fun b H3 =>
        if b = true then te σ2 H3 fun y H4 => ∃ acc, H4 D = some (.lst acc) ∧ acc.length < sizeLine ∧ Nx (upd H4 D (.lst (acc ++ [y]))) else Nx H3) := by
  refine ⟨fun i m H => m = xs.length - i ∧ i ≤ xs.length ∧ Same H1 H ∧ H D = some (.lst ((List.range i).map G)), ⟨xs.length, by simp, Nat.zero_le _, same_new hD _, upd_same⟩, ?_⟩
  rintro i m H ⟨rfl, hi, sm, e⟩
  have ta := Same.seqT sm ha
  have tb := sm.seq hb
  by_cases lt : i < xs.length
  · have gx : xs[i]? = some xs[i] := List.getElem?_eq_getElem lt
    have gy : ys[i]? = some (ys[i]'(by omega)) := List.getElem?_eq_getElem (by omega)
    refine .inr ⟨⟨xs, ys, _, _, ta, tb, gx, gy⟩, fun H' => Same H1 H' ∧ H' D = some (.lst ((List.range (i + 1)).map G)), fun H' p => ⟨xs.length - (i + 1), by omega, rfl, lt, p.1, p.2⟩, fun v H' hy => ?_⟩
    obtain ⟨T, x, y, rfl, nT, rfl, f1, f2⟩ := hy
    have ex := f1 _ ta
    have ey := f2 _ tb
    have nTD : D ≠ T := ne_of_none e nT
    have := hs i x y T H (fun z H4 => ∃ acc, H4 D = some (.lst acc) ∧ acc.length < sizeLine ∧ (Same H1 (upd H4 D (.lst (acc ++ [z]))) ∧ (upd H4 D (.lst (acc ++ [z]))) D = some (.lst ((List.range (i + 1)).map G)))) ex ey sm nT
      ⟨_, by rw [upd_ne nTD]; exact e, small1000 (by rw [List.length_map, List.length_range]; omega), fun c o h => by
        rw [upd_ne (ne_of_none h hD), upd_ne (ne_of_none (sm c o h) nT)]; exact sm c o h, by rw [upd_same, List.range_succ, List.map_append]; rfl⟩
    exact this
  · have ei : i = xs.length := by omega
    subst ei
    exact .inl ⟨⟨xs, ys, ta, tb, Nat.le_refl _, by omega, .inl rfl⟩, hd H sm e⟩
def Gmul (c : Int) : V → V
  | .int n => .int (n * c)
  | v => v
theorem Gmul_map (c : Int) (q : List Int) : (q.map V.int).map (Gmul c) = (q.map (· * c)).map V.int := by rw [List.map_map, List.map_map]; rfl
theorem flat_zero (k : Nat) : (List.replicate k [V.int 0]).flatten = (List.replicate k (0 : Int)).map V.int := by
  induction k with
  | zero => rfl
  | succ n ih => rw [List.replicate_succ, List.flatten_cons, ih, List.replicate_succ]; rfl
abbrev s_remainder : Stmt := topS 4
abbrev N_remainder : List Str := ["one", "other", "rest", "common", "factor", "taken", "lower", "n", "m"]
theorem sc_remainder : FnScope N_remainder ["one", "other"] (defScope s_remainder) := ⟨rfl, rfl, rfl, by decide +kernel, rfl, by decide +kernel, by decide +kernel⟩
section
variable {P : Program} {w : World} {K : PySem.W.Frag} {mg : Str → Option Value} {base : Heap}
def sp_remainder (K : PySem.W.Frag) : Sp := fun vs H Qq _ => ∃ (a b : Addr) (p q : List Int) (P Q : Nat), vs = [.ref a, .ref b] ∧ SqT K H a (p.map V.int) ∧ SqT K H b (q.map V.int) ∧ (p = [] ∨ Nm p) ∧ Nm q ∧ p.length ≤ 40 ∧ q.length ≤ 40 ∧ Bd p P ∧ Bd q Q ∧ 1 ≤ Q ∧ rb P Q (p.length + 1 - q.length) < 2 ^ 8000 ∧
  ∀ H' (t : Addr) (r : List Int), Same H H' → SqT K H' t (r.map V.int) → r.length < q.length → (∃ s, RInv p q r P Q s) → Qq (.ref t) H'
theorem ok_remainder {f : Addr} {fd : FuncData} {k : Nat} (F : Fun K "_remainder" "_remainder" s_remainder f fd) (M : Names mg) (G_without_zeros : Cal P w K mg base k "_without_zeros" ["terms"] (sp_without_zeros K)) : FnOk P w K mg base CX0 (k + 1) f fd ["one", "other"] (sp_remainder K) := by
  refine F.ok sc_remainder (fun vs H Qq E h => ?_) (fun cdv A outer s H vs Qq E hr h => ?_)
  · obtain ⟨a, b, p, q, P, Q, rfl, _⟩ := h
    rfl
  obtain ⟨a, b, p, q, P', Q', rfl, hp, hq, np, nq, p40, q40, bp, bq, Q1, hrb, fin⟩ := h
  have lq : (q.map V.int).length = q.length := List.length_map _
  have q0 := nq.pos
  refine ⟨_, (pss_cons (ps_set (i := 2) sc_remainder.nd rfl (.inl rfl) (pv 0))
    (pss_cons (ps_while PassesOwn.never (pt_cmpR op_ge (pe_callB call_len_seq (by rfl) M.len PySem.boot_len (pa_cons (pv 2) pa_nil)) (pe_callB call_len_seq (by rfl) M.len PySem.boot_len (pa_cons (pv 1) pa_nil)) (nomark _))
      (pss_cons (ps_set (i := 3) sc_remainder.nd rfl (.inl rfl) (pe_callBfun cr_gcd (by rfl) M.gcd (pa_cons (pe_ix ix_tup (pv 2) (pe_un un_neg pe_int) (fun _ _ => rfl)) (pa_cons (pe_ix ix_tup (pv 1) (pe_un un_neg pe_int) (fun _ _ => rfl)) pa_nil))))
      (pss_cons (ps_set (i := 4) sc_remainder.nd rfl (.inr rfl) (pe_op op_fdivZ (pe_callB call_abs (by rfl) M.abs (by decide +kernel) (pa_cons (pe_ix ix_tup (pv 1) (pe_un un_neg pe_int) (fun _ _ => rfl)) pa_nil)) (pv 3)))
      (pss_cons (ps_set (i := 5) sc_remainder.nd rfl (.inr rfl) (pe_op op_fdivZ (pe_op op_mulW (pe_ix ix_tup (pv 2) (pe_un un_neg pe_int) (fun _ _ => rfl)) (pv 4)) (pe_ix ix_tup (pv 1) (pe_un un_neg pe_int) (fun _ _ => rfl))))
      (pss_cons (ps_set (i := 6) sc_remainder.nd rfl (.inl rfl) (pe_op op_cat (pe_op op_rep (pe_lst (pa_cons pe_int pa_nil)) (pe_op op_sub (pe_callB call_len_seq (by rfl) M.len PySem.boot_len (pa_cons (pv 2) pa_nil)) (pe_callB call_len_seq (by rfl) M.len PySem.boot_len (pa_cons (pv 1) pa_nil)))) (pe_lc (own := [("n", 7)]) (g := gName 7) (by rfl) sc_remainder.nd (pi_tup (pv 1)) (blkOk_by (own := [("n", 7)]) (N := N_remainder) (sc := defScope s_remainder) (by decide +kernel)) (fun _ _ _ _ _ => pg_name (i := 7) sc_remainder.nd rfl (Or.inl rfl)) (fun _ _ _ _ _ => pts_nil) (fun _ _ _ _ _ => (pe_op op_mulW (pv 7) (pv 5))))))
      (pss_one (ps_set (i := 2) sc_remainder.nd rfl (.inl rfl) (pe_call G_without_zeros.ok hr (by rfl) G_without_zeros.m G_without_zeros.kp G_without_zeros.b .nil pass0 (pa_cons (pe_lc (own := [("m", 8), ("n", 7)]) (g := gTup K 2 (gCons (gName 8) (gCons (gName 7) gNil))) (by rfl) sc_remainder.nd (pi_zipM (by rfl) M.zip (pa_cons (pv 2) (pa_cons (pv 6) pa_nil))) (blkOk_by (own := [("m", 8), ("n", 7)]) (N := N_remainder) (sc := defScope s_remainder) (by decide +kernel)) (fun _ _ _ _ _ => pg_tup rfl (pgs_cons (pg_name (i := 8) sc_remainder.nd rfl (.inl rfl) (.inr rfl)) (pgs_cons (pg_name (i := 7) sc_remainder.nd rfl (.inl rfl) (.inr rfl)) pgs_nil))) (fun _ _ _ _ _ => pts_nil) (fun _ _ _ _ _ => (pe_op op_sub (pe_op op_mulW (pv 8) (pv 4)) (pv 7)))) pa_nil)))))))))
    (pss_one (ps_ret (pv 2))))), ?_⟩
  refine ⟨_, rfl, ?_⟩
  refine ⟨fun m σ H' => ∃ (e : Addr) (r : List Int) (s : Nat) (y3 y4 y5 y6 : Option V), σ = [some (.ref a), some (.ref b), some (.ref e), y3, y4, y5, y6, none, none] ∧ Same H H' ∧ SqT K H' e (r.map V.int) ∧ m = r.length ∧ RInv p q r P' Q' s,
    ⟨p.length, a, p, 0, none, none, none, none, rfl, Same.refl _, hp, rfl, .start np bp⟩, fun m σ H' hW => ?_⟩
  obtain ⟨e, r, s, y3, y4, y5, y6, rfl, sm, hr', rfl, I⟩ := hW
  have lr : (r.map V.int).length = r.length := List.length_map _
  have hq' := Same.seqT sm hq
  refine ⟨_, rfl, e, _, rfl, .inr hr', _, rfl, b, _, rfl, .inr hq', _, _, rfl, rfl, _, rfl, ite2 (fun c1 => ?_) (fun c1 => ?_)⟩
  · have hle : q.length ≤ r.length := by
      have : (((q.map V.int).length : Nat) : Int) ≤ ((r.map V.int).length : Nat) := of_decide_eq_true c1
      omega
    have nr : Nm r := by
      rcases I.nm with z | z
      · rw [z, List.length_nil] at hle; omega
      · exact z
    have F := fac_ok (ra := co r (r.length - 1)) (qb := co q (q.length - 1)) nr.2 nq.2
    -- sizes
    have hs1 : s + 1 ≤ p.length + 1 - q.length := by have := I.s2 hle; omega
    have rbs : P' * (2 * Q') ^ s * (2 * Q') ≤ rb P' Q' (p.length + 1 - q.length) := by
      unfold rb
      rw [Nat.mul_assoc, ← Nat.pow_succ]
      exact Nat.mul_le_mul_left _ (Nat.pow_le_pow_right (by omega) hs1)
    have one : 1 ≤ P' * (2 * Q') ^ s := by
      have := I.bd (r.length - 1)
      have h2 := Int.natAbs_pos.mpr nr.2
      omega
    have big : ∀ x y : Nat, 1 ≤ x → y ≤ x * y := fun x y h => Nat.le_mul_of_pos_left _ h
    have Qs : Q' < 2 ^ 8000 := by
      have := big (P' * (2 * Q') ^ s) (2 * Q') one
      omega
    have Ms : P' * (2 * Q') ^ s < 2 ^ 8000 := by
      have : P' * (2 * Q') ^ s ≤ P' * (2 * Q') ^ s * (2 * Q') := Nat.le_mul_of_pos_right _ (by omega)
      omega
    have qbs : (co q (q.length - 1)).natAbs < 2 ^ 8000 := Nat.lt_of_le_of_lt (bq _) Qs
    have ras : (co r (r.length - 1)).natAbs < 2 ^ 8000 := Nat.lt_of_le_of_lt (I.bd _) Ms
    have gne : ((Nat.gcd (co r (r.length - 1)).natAbs (co q (q.length - 1)).natAbs : Nat) : Int) ≠ 0 := by
      have := Nat.gcd_pos_of_pos_right (co r (r.length - 1)).natAbs (Int.natAbs_pos.mpr nq.2)
      omega
    have gls : ((Nat.gcd (co r (r.length - 1)).natAbs (co q (q.length - 1)).natAbs : Nat) : Int).natAbs < 2 ^ 8000 := by
      rw [Int.natAbs_natCast]
      exact Nat.lt_of_le_of_lt (Nat.gcd_le_right _ (Int.natAbs_pos.mpr nq.2)) qbs
    have hlr := map_last nr.1
    have hlq := map_last nq.1
    refine ⟨fun σ' H1 => ∃ (e : Addr) (r' : List Int) (y3 y4 y5 y6 : Option V), σ' = [some (.ref a), some (.ref b), some (.ref e), y3, y4, y5, y6, none, none] ∧ Same H H1 ∧ SqT K H1 e (r'.map V.int) ∧ r'.length < r.length ∧ RInv p q r' P' Q' (s + 1), fun σ' H1 hN => ?_, ?_⟩
    · obtain ⟨e, r', z3, z4, z5, z6, h1, h2, h3, h4, h5⟩ := hN
      exact ⟨r'.length, h4, e, r', s + 1, z3, z4, z5, z6, h1, h2, h3, rfl, h5⟩
    -- common
    refine ⟨_, rfl, _, rfl, e, _, _, _, rfl, rfl, hr', hlr, _, rfl, _, rfl, b, _, _, _, rfl, rfl, hq', hlq, _, _, rfl, ?_⟩
    -- factor
    refine ⟨_, rfl, _, rfl, b, _, _, _, rfl, rfl, hq', hlq, _, rfl, _, rfl, _, _, rfl, rfl, ⟨gne, log_small gls (by decide) (by decide)⟩, ?_⟩
    rw [abs_int]
    generalize hfac : (((co q (q.length - 1)).natAbs : Int)).fdiv (Nat.gcd (co r (r.length - 1)).natAbs (co q (q.length - 1)).natAbs : Nat) = fac at F
    rw [show (fun (i j : Int) => V.int (i.fdiv j)) ((co q (q.length - 1)).natAbs : Int) (Nat.gcd (co r (r.length - 1)).natAbs (co q (q.length - 1)).natAbs : Nat) = V.int fac from congrArg V.int hfac]
    -- taken
    have facs : fac.natAbs < 2 ^ 8000 := Nat.lt_of_le_of_lt F.le qbs
    refine ⟨_, rfl, _, rfl, e, _, _, _, rfl, rfl, hr', hlr, _, rfl, _, _, rfl, rfl, wide_mul ras facs (by decide) (by decide) (by decide), _, rfl, _, rfl, b, _, _, _, rfl, rfl, hq', hlq, _, _, rfl, rfl, ⟨nq.2, log_small qbs (by decide) (by decide)⟩, ?_⟩
    generalize htk : (co r (r.length - 1) * fac).fdiv (co q (q.length - 1)) = tk at F
    rw [show (fun (i j : Int) => V.int (i.fdiv j)) (co r (r.length - 1) * fac) (co q (q.length - 1)) = V.int tk from congrArg V.int htk]
    have tks : tk.natAbs < 2 ^ 8000 := Nat.lt_of_le_of_lt F.tl ras
    -- lower
    refine ⟨(by show 1 ≤ sizeLine; decide), fun l1 hl1 => ?_⟩
    have s1 := same_new hl1 (.lst [V.int 0])
    refine ⟨_, rfl, e, _, rfl, .inr (Same.seqT s1 hr'), _, rfl, b, _, rfl, .inr (Same.seqT s1 hq'), _, _, rfl, rfl, ?_⟩
    have hk : ((((r.map V.int).length : Nat) : Int) - ((q.map V.int).length : Nat)).toNat = r.length - q.length := by omega
    have r40 : r.length ≤ 40 := by have := I.s2 hle; omega
    refine ⟨l1, _, _, rfl, rfl, upd_same, (by omega), (by omega), (by rw [hk]; exact Nat.le_of_lt (small1000 (by show 1 * (r.length - q.length) ≤ 1000; omega))), fun l2 hl2 => ?_⟩
    have s2 := same_new hl2 (.lst (List.replicate ((((r.map V.int).length : Nat) : Int) - ((q.map V.int).length : Nat)).toNat [V.int 0]).flatten)
    have q2 := Same.seqT s2 (Same.seqT s1 hq')
    refine ⟨_, rfl, b, rfl, ⟨_, q2⟩, fun D hD => comp_tup (xs := q.map V.int) (Gmul tk) q2 hD (by omega) (fun i x H2 Nx hx sm2 hn => ?_) (fun H3 s3 e3 => ?_)⟩
    · obtain ⟨hi, rfl⟩ := map_mem hx
      exact ⟨rfl, _, rfl, _, rfl, _, _, rfl, rfl, wide_mul (Nat.lt_of_le_of_lt (bq i) Qs) tks (by decide) (by decide) (by decide), hn⟩
    · have e2 : H3 l2 = some (.lst (List.replicate ((((r.map V.int).length : Nat) : Int) - ((q.map V.int).length : Nat)).toNat [V.int 0]).flatten) := s3 _ _ upd_same
      have lowe : (List.replicate ((((r.map V.int).length : Nat) : Int) - ((q.map V.int).length : Nat)).toNat [V.int 0]).flatten ++ (q.map V.int).map (Gmul tk) = (low q (r.length - q.length) tk).map V.int := by
        rw [hk, flat_zero, Gmul_map, low, List.map_append]
      refine ⟨l2, D, _, _, rfl, rfl, e2, e3, ?_, fun l3 hl3 => ?_⟩
      · rw [hk, flat_zero, Gmul_map, List.length_map, List.length_map, List.length_map, List.length_replicate]
        exact Nat.le_of_lt (small1000 (by omega))
      · rw [lowe]
        have s4 := same_new hl3 (.lst ((low q (r.length - q.length) tk).map V.int))
        have S4 := s1.trans (s2.trans (s3.trans s4))
        have r4 := Same.seqT S4 hr'
        -- the rest
        refine ⟨_, rfl, _, rfl, e, l3, _, _, rfl, r4, SqL.of upd_same, fun D2 hD2 => comp_zipM (fun i => .int (co r i * fac - co (low q (r.length - q.length) tk) i)) r4 (SqL.of upd_same) (by rw [List.length_map, List.length_map, low_len]; omega) hD2 (by omega) (fun i x y T H5 Nx hx hy s5 nT hn => ?_) (fun H5 s5 e5 => ?_)⟩
        · obtain ⟨hi, rfl⟩ := map_mem hx
          obtain ⟨hi2, rfl⟩ := map_mem hy
          exact ⟨T, _, rfl, SqT.of upd_same, rfl, _, _, rfl, _, _, rfl, rfl, rfl, _, rfl, _, rfl, _, _, rfl, rfl, wide_mul (Nat.lt_of_le_of_lt (I.bd i) Ms) facs (by decide) (by decide) (by decide), _, rfl, _, _, rfl, rfl, hn⟩
        · have zle : (List.range (r.map V.int).length).map (fun i => V.int (co r i * fac - co (low q (r.length - q.length) tk) i)) = (zl r q fac tk).map V.int := by
            rw [zl, List.map_map, lr]; rfl
          rw [zle] at e5
          refine ⟨D2, zl r q fac tk, rfl, SqL.of e5, by rw [zl_len]; omega, fun H6 t r' s6 nt ht cz => ?_⟩
          have zlen := zl_len r q fac tk
          refine ⟨t, r', _, _, _, _, rfl, sm.trans (S4.trans (s5.trans s6)), SqT.of ht, ?_, ?_⟩
          · have := cz.lt (by omega) (by rw [zlen]; exact zl_top hle nq.1 F)
            omega
          · exact I.step nq bq hle F cz.nm (by have := cz.lt (by omega) (by rw [zlen]; exact zl_top hle nq.1 F); omega) (fun x => cz.ev x) (cz.bd (zl_bd hle F I.bd bq))
  · have hlt : r.length < q.length := by
      have : ¬ (((q.map V.int).length : Nat) : Int) ≤ ((r.map V.int).length : Nat) := of_decide_eq_false (Bool.eq_false_iff.mpr c1)
      omega
    exact ⟨_, rfl, fin H' e r sm hr' hlt ⟨s, I⟩⟩
end
end KW

namespace KW
open PySem PySem.Spec PyProof.Rows L2 KP
abbrev sdivisor : Stmt := topS 5
abbrev Ndivisor : List Str := ["one", "other", "rest"]
theorem scdivisor : FnScope Ndivisor ["one", "other"] (defScope sdivisor) := ⟨rfl, rfl, rfl, by decide +kernel, rfl, by decide +kernel, by decide +kernel⟩
section
variable {P : Program} {w : World} {K : PySem.W.Frag} {mg : Str → Option Value} {base : Heap}
def spdivisor (K : PySem.W.Frag) : Sp := fun vs H Q _ => ∃ (a b : Addr) (f g : List Int) (A N Z : Nat), vs = [.ref a, .ref b] ∧ SqT K H a (f.map V.int) ∧ SqT K H b (g.map V.int) ∧ Two A f g ∧ 1 ≤ A ∧ Sz A N Z ∧ Z ≤ 2 ^ 8000 ∧ min f.length g.length ≤ N ∧
  ∀ H' (t : Addr) (T : List Int), Same H H' → H' t = some (.tup (T.map V.int)) → IsG f g T → Bd T (bp A T.length) → Q (.ref t) H'
theorem okdivisor {f : Addr} {fd : FuncData} {k : Nat} (F : Fun K "divisor" "divisor" sdivisor f fd) (M : Names mg) (G_remainder : Cal P w K mg base k "_remainder" ["one", "other"] (sp_remainder K)) (Gprimitive : Cal P w K mg base k "primitive" ["polynomial"] (spprimitive K)) :
    FnOk P w K mg base CX0 (k + 1) f fd ["one", "other"] (spdivisor K) := by
  refine F.ok scdivisor (fun vs H Q E h => ?_) (fun cdv A' outer s H vs Q E hr h => ?_)
  · obtain ⟨a, b, f, g, A, N, Z, rfl, _⟩ := h
    rfl
  obtain ⟨a, b, f, g, A, N, Z, rfl, hf, hg, T, hA, sz', hZ, hN, fin⟩ := h
  have sz := sz'.mono hZ
  refine ⟨_, (pss_cons (ps_while PassesOwn.never (pt_truth (pv 1) (by intro _; rfl))
      (pss_cons (ps_set (i := 2) scdivisor.nd rfl (.inl rfl) (pe_call G_remainder.ok hr (by rfl) G_remainder.m G_remainder.kp G_remainder.b .nil pass0 (pa_cons (pv 0) (pa_cons (pv 1) pa_nil))))
      (pss_cons (ps_set (i := 0) scdivisor.nd rfl (.inl rfl) (pv 1))
      (pss_one (ps_set (i := 1) scdivisor.nd rfl (.inl rfl) (pe_ifExp (pt_truth (pv 2) (by intro _; rfl)) (pe_call Gprimitive.ok hr (by rfl) Gprimitive.m Gprimitive.kp Gprimitive.b .nil pass0 (pa_cons (pv 2) pa_nil)) (pv 2)))))))
    (pss_one (ps_ret (pe_call Gprimitive.ok hr (by rfl) Gprimitive.m Gprimitive.kp Gprimitive.b .nil pass0 (pa_cons (pv 0) pa_nil))))), ?_⟩
  refine ⟨fun m σ H' => ∃ (ea eb : Addr) (p q : List Int) (y2 : Option V), σ = [some (.ref ea), some (.ref eb), y2] ∧ Same H H' ∧ SqT K H' ea (p.map V.int) ∧ SqT K H' eb (q.map V.int) ∧ m = q.length ∧ DInv A f g p q,
    ⟨g.length, a, b, f, g, none, rfl, Same.refl _, hf, hg, rfl, .of T (.self T)⟩, fun m σ H' hW => ?_⟩
  obtain ⟨ea, eb, p, q, y2, rfl, sm, hp, hq, rfl, d⟩ := hW
  have trut : ∀ (e : Addr) (r : List Int) (H2 : Hp), SqT K H2 e (r.map V.int) → TruV K (.ref e) H2 (!r.isEmpty) := fun e r H2 h => .inr (.inl ⟨_, h, by cases r <;> rfl⟩)
  refine ⟨_, rfl, _, trut eb q H' hq, ite2 (fun c => ?_) (fun c => ?_)⟩
  · have qne : q ≠ [] := fun e => by rw [e] at c; exact absurd c (by decide)
    obtain ⟨np, nq, p9, q9, P', Q', bP, bQ, Q1, _, hrb⟩ := d.sizes T hA sz hN qne
    refine ⟨fun σ' H1 => ∃ (ea eb : Addr) (p q' : List Int) (y2 : Option V), σ' = [some (.ref ea), some (.ref eb), y2] ∧ Same H H1 ∧ SqT K H1 ea (p.map V.int) ∧ SqT K H1 eb (q'.map V.int) ∧ q'.length < q.length ∧ DInv A f g p q', fun σ' H1 hN => ?_, ?_⟩
    · obtain ⟨ea, eb, p, q', y2, h1, h2, h3, h4, h5, h6⟩ := hN
      exact ⟨q'.length, h5, ea, eb, p, q', y2, h1, h2, h3, h4, rfl, h6⟩
    · refine ⟨_, rfl, _, rfl, ea, eb, p, q, P', Q', rfl, hp, hq, .inr np, nq, by omega, by omega, bP, bQ, Q1, hrb, fun H1 t r s1 ht hlt hI => ?_⟩
      obtain ⟨s, I⟩ := hI
      obtain ⟨c, w, hc, hx⟩ := I.id
      refine ⟨_, rfl, ?_⟩
      refine ⟨_, rfl, _, trut t r H1 ht, ite2 (fun c2 => ?_) (fun c2 => ?_)⟩
      · have nr : Nm r := by
          rcases I.nm with z | z
          · rw [z] at c2; exact absurd c2 (by decide)
          · exact z
        have hB : P' * (2 * Q') ^ s < 2 ^ 8000 := Nat.lt_of_le_of_lt (Nat.mul_le_mul_left _ (Nat.pow_le_pow_right (by omega) I.s1)) hrb
        refine ⟨_, rfl, t, r, _, 8000, rfl, ht, nr, by omega, I.bd, hB, by decide, by decide, fun H2 u s2 _ hu => ?_⟩
        refine ⟨eb, u, q, prm r, _, rfl, sm.trans (s1.trans s2), Same.seqT (s1.trans s2) hq, SqT.of hu, ?_, d.turn T hA qne hc hx hlt (.inr ⟨nr, rfl⟩)⟩
        rw [prm_len]; exact hlt
      · have rn : r = [] := by
          cases r with
          | nil => rfl
          | cons _ _ => exact absurd rfl c2
        subst rn
        refine ⟨_, rfl, ?_⟩
        exact ⟨eb, t, q, [], _, rfl, sm.trans s1, Same.seqT s1 hq, ht, hlt, d.turn T hA qne hc hx hlt (.inl ⟨rfl, rfl⟩)⟩
  · have qn : q = [] := by
      cases q with
      | nil => rfl
      | cons _ _ => exact absurd rfl c
    subst qn
    obtain ⟨np, p9, hG, bB, hB⟩ := d.done T sz hN
    refine ⟨_, rfl, ea, p, _, 8000, rfl, hp, np, by omega, bB, hB, by decide, by decide, fun H1 t s1 _ ht => ?_⟩
    exact fin H1 t _ (sm.trans s1) ht hG (by rw [prm_len]; exact (Pr.prm np).bd (prm_canon np).2.1 bB)
end
end KW

namespace KW
open PySem PySem.Spec PyProof.Rows L2 KP
abbrev s_law_rest : Stmt := topS 15
abbrev N_law_rest : List Str := ["one", "other", "rest", "k", "top", "shift", "at", "size", "number"]
theorem sc_law_rest : FnScope N_law_rest ["one", "other"] (defScope s_law_rest) := ⟨rfl, rfl, rfl, by decide +kernel, rfl, by decide +kernel, by decide +kernel⟩
def rLen (K : PySem.W.Frag) : List V → Hp → VK → Prop := fun xs H Q => ∃ p ys, xs = [.ref p] ∧ (SqL K H p ys ∨ SqT K H p ys) ∧ Q (.int ys.length) H
/-! the rules that read the written part, said with it: for use within a comprehension -/
section
variable {X : Cx} {K : PySem.W.Frag}
theorem call_lenK (e : X.K = K) : CallR X (.builtin "len") (rLen K) := by subst e; exact call_len_seq
theorem ix_seqK (e : X.K = K) : IxR X (rIx K) := by subst e; exact ix_seq
theorem ix_listK (e : X.K = K) : IxR X (rIxL K) := by subst e; exact ix_list
theorem ix_tupK (e : X.K = K) : IxR X (rIxT K) := by subst e; exact ix_tup
end
theorem same_put {H H' : Hp} {D : Addr} {o : HO} (s : Same H H') (hD : H D = none) : Same H (upd H' D o) := fun b u h => by
  rw [upd_ne (ne_of_none h hD)]; exact s b u h
section
variable {P : Program} {w : World} {K : PySem.W.Frag} {mg : Str → Option Value} {base : Heap}
def sp_law_rest (K : PySem.W.Frag) : Sp := fun vs H Qq _ => ∃ (a b : Addr) (p q : List Int) (P Q : Nat), vs = [.ref a, .ref b] ∧ Sq K H a (p.map V.int) ∧ Sq K H b (q.map V.int) ∧ Nm q ∧ p.length ≤ 40 ∧ q.length ≤ 40 ∧ Bd p P ∧ Bd q Q ∧ 1 ≤ Q ∧ Q < 2 ^ 8000 ∧ rb P Q (p.length + 1 - q.length) < 2 ^ 8000 ∧
  ∀ H' (t : Addr) (r : List Int), Same H H' → H t = none → H' t = some (.lst (r.map V.int)) → r.length < q.length → (r = [] ∨ Nm r) → (∃ (c : Int) (w : List Int), c ≠ 0 ∧ ∀ x, c * ev p x = ev w x * ev q x + ev r x) → Bd r (rb P Q (p.length + 1 - q.length)) → Qq (.ref t) H'
theorem ok_law_rest {f : Addr} {fd : FuncData} {k : Nat} (F : Fun K "_law_rest" "_law_rest" s_law_rest f fd) (M : Names mg) : FnOk P w K mg base CX0 (k + 1) f fd ["one", "other"] (sp_law_rest K) := by
  refine F.ok sc_law_rest (fun vs H Qq E h => ?_) (fun cdv A outer s H vs Qq E hr h => ?_)
  · obtain ⟨a, b, p, q, P, Q, rfl, _⟩ := h
    rfl
  obtain ⟨a, b, p, q, P', Q', rfl, hp, hq, nq, p40, q40, bp, bq, Q1, Qs, hrb, fin⟩ := h
  have lp : (p.map V.int).length = p.length := List.length_map _
  have lq : (q.map V.int).length = q.length := List.length_map _
  have q0 := nq.pos
  refine ⟨_, (pss_cons (ps_set (i := 2) sc_law_rest.nd rfl (.inl rfl) (pe_callTy call_list_of (by rfl) M.list (by decide +kernel) (pa_cons (pv 0) pa_nil)))
    (pss_cons (ps_for PassesOwn.never rfl (pi_range1 (by rfl) M.range (pa_cons (pe_callB call_len_seq (by rfl) M.len PySem.boot_len (pa_cons (pv 0) pa_nil)) pa_nil)) (pg_name (i := 3) sc_law_rest.nd rfl (.inl rfl))
      (pss_one (ps_if (pt_cmpR op_ge (pe_callB call_len_seq (by rfl) M.len PySem.boot_len (pa_cons (pv 2) pa_nil)) (pe_callB call_len_seq (by rfl) M.len PySem.boot_len (pa_cons (pv 1) pa_nil)) (nomark _))
        (pss_cons (ps_set (i := 4) sc_law_rest.nd rfl (.inl rfl) (pe_ix ix_list (pv 2) (pe_op op_sub (pe_callB call_len_seq (by rfl) M.len PySem.boot_len (pa_cons (pv 2) pa_nil)) pe_int) (fun _ _ => rfl)))
        (pss_cons (ps_set (i := 5) sc_law_rest.nd rfl (.inl rfl) (pe_op op_sub (pe_callB call_len_seq (by rfl) M.len PySem.boot_len (pa_cons (pv 2) pa_nil)) (pe_callB call_len_seq (by rfl) M.len PySem.boot_len (pa_cons (pv 1) pa_nil))))
        (pss_cons (ps_setLc (i := 2) (own := [("number", 8)]) (g := gName 8) (by rfl) sc_law_rest.nd rfl rfl (sw_true rfl rfl rfl (by decide +kernel)) (pi_list (pv 2)) (blkOk_by (own := [("number", 8)]) (N := N_law_rest) (sc := defScope s_law_rest) (by decide +kernel)) (fun _ _ _ _ _ => pg_name (i := 8) sc_law_rest.nd rfl (Or.inl rfl)) (fun _ _ _ _ _ => pts_nil) (fun _ _ _ _ _ => (pe_op op_mulW (pv 8) (pe_ix (ix_seqK (K := K) rfl) (pv 1) (pe_op op_sub (pe_callB (call_lenK (K := K) rfl) (by rfl) M.len PySem.boot_len (pa_cons (pv 1) pa_nil)) pe_int) (fun _ _ => rfl)))))
        (pss_cons (ps_for PassesOwn.never rfl (pi_range1 (by rfl) M.range (pa_cons (pe_callB call_len_seq (by rfl) M.len PySem.boot_len (pa_cons (pv 1) pa_nil)) pa_nil)) (pg_name (i := 6) sc_law_rest.nd rfl (.inl rfl))
          (pss_one (ps_asg (pe_op op_sub (pe_ix ix_list (pv 2) (pe_op op_add (pv 5) (pv 6)) (fun _ _ => rfl)) (pe_op op_mulW (pv 4) (pe_ix ix_seq (pv 1) (pv 6) (fun _ _ => rfl)))) (pg_sub (pv 2) (pe_op op_add (pv 5) (pv 6)) set_list))))
        (pss_one (ps_set (i := 2) sc_law_rest.nd rfl (.inl rfl) (pe_slice sl_list (pv 2) po_none (po_some (pe_op op_sub (pe_callB call_len_seq (by rfl) M.len PySem.boot_len (pa_cons (pv 2) pa_nil)) pe_int)))))))))
        pss_nil)))
    (pss_cons (ps_set (i := 7) sc_law_rest.nd rfl (.inl rfl) pe_int)
    (pss_cons (ps_for PassesOwn.never rfl (pi_range1 (by rfl) M.range (pa_cons (pe_callB call_len_seq (by rfl) M.len PySem.boot_len (pa_cons (pv 2) pa_nil)) pa_nil)) (pg_name (i := 3) sc_law_rest.nd rfl (.inl rfl))
      (pss_one (ps_if (pt_cmpR op_ne (pe_ix ix_list (pv 2) (pv 3) (fun _ _ => rfl)) pe_int (nomark _))
        (pss_one (ps_set (i := 7) sc_law_rest.nd rfl (.inl rfl) (pe_op op_add (pv 3) pe_int)))
        pss_nil)))
    (pss_one (ps_ret (pe_slice sl_list (pv 2) po_none (po_some (pv 7))))))))), ?_⟩
  refine ⟨_, rfl, a, _, rfl, hp, fun e0 he0 => ?_⟩
  have sm0 := same_new he0 (.lst (p.map V.int))
  refine ⟨_, rfl, a, _, rfl, hp.same sm0, ?_⟩
  refine ⟨_, rfl, (by show -(2 ^ 62) ≤ (((p.map V.int).length : Nat) : Int); omega), (by show (((p.map V.int).length : Nat) : Int) < 2 ^ 62; omega), for_range (lo := 0) (n := (p.map V.int).length) (fun k σ H' => ∃ (e : Addr) (r : List Int) (s : Nat) (y3 y4 y5 y6 : Option V), σ = [some (.ref a), some (.ref b), some (.ref e), y3, y4, y5, y6, none, none] ∧ Same H H' ∧ H e = none ∧ H' e = some (.lst (r.map V.int)) ∧ LInv p q r P' Q' s k)
    ⟨e0, p, 0, none, none, none, none, rfl, sm0, he0, upd_same, .start bp⟩ (fun k σ H' hk hP => ?_) (fun σ H' hP => ?_)⟩
  · obtain ⟨e, r, s, y3, y4, y5, y6, rfl, sm, ne, he, I⟩ := hP
    have lr : (r.map V.int).length = r.length := List.length_map _
    have hq' := hq.same sm
    refine ⟨_, rfl, e, _, rfl, .inl (SqL.of he), _, rfl, b, _, rfl, hq', _, _, rfl, rfl, _, rfl, ite2 (fun c => ?_) (fun c => ?_)⟩
    · have hle : q.length ≤ r.length := by
        have : (((q.map V.int).length : Nat) : Int) ≤ ((r.map V.int).length : Nat) := of_decide_eq_true c
        omega
      have r40 : r.length ≤ 40 := by have := I.len; omega
      have e2 := I.s2 hle
      have rbs : P' * (2 * Q') ^ s * (2 * Q') ≤ rb P' Q' (p.length + 1 - q.length) := by
        unfold rb
        rw [Nat.mul_assoc, ← Nat.pow_succ]
        exact Nat.mul_le_mul_left _ (Nat.pow_le_pow_right (by omega) (by omega))
      have Ms : P' * (2 * Q') ^ s < 2 ^ 8000 := by
        have : P' * (2 * Q') ^ s ≤ P' * (2 * Q') ^ s * (2 * Q') := Nat.le_mul_of_pos_right _ (by omega)
        omega
      -- top, shift
      refine ⟨_, rfl, _, rfl, e, _, rfl, .inl (SqL.of he), _, _, rfl, rfl, e, _, _, _, rfl, rfl, SqL.of he, map_atI (by show (0 : Int) ≤ ((r.map V.int).length : Nat) - 1; omega) (by show ((r.map V.int).length : Nat) - 1 < (r.length : Int); omega), ?_⟩
      rw [show ((((r.map V.int).length : Nat) : Int) - 1).toNat = r.length - 1 by omega]
      refine ⟨_, rfl, e, _, rfl, .inl (SqL.of he), _, rfl, b, _, rfl, hq', _, _, rfl, rfl, ?_⟩
      rw [show (fun (i j : Int) => V.int (i - j)) ((r.map V.int).length : Nat) ((q.map V.int).length : Nat) = V.int ((r.length - q.length : Nat) : Int) from congrArg V.int (by omega)]
      -- rest = [..]
      refine ⟨_, rfl, e, rfl, ⟨_, SqL.of he⟩, fun D hD => comp_list (xs := r.map V.int) (Gmul (co q (q.length - 1))) (SqL.of he) hD (by omega) (fun i x H2 Nx hx s2 hn => ?_) (fun H2 s2 e2' => ?_)⟩
      · obtain ⟨hi, rfl⟩ := map_mem hx
        refine ⟨rfl, _, rfl, _, rfl, _, rfl, b, _, rfl, hq'.same s2, _, _, rfl, rfl, rix (hq'.same s2) (by show (0 : Int) ≤ ((q.map V.int).length : Nat) - 1; omega) (by show ((q.map V.int).length : Nat) - 1 < (q.length : Int); omega) ?_⟩
        rw [show ((((q.map V.int).length : Nat) : Int) - 1).toNat = q.length - 1 by omega]
        exact ⟨_, _, rfl, rfl, wide_mul (Nat.lt_of_le_of_lt (I.bd i) Ms) (Nat.lt_of_le_of_lt (bq _) Qs) (by decide) (by decide) (by decide), hn⟩
      · rw [Gmul_map, ← zj_zero r q (co q (q.length - 1)) (co r (r.length - 1)) hle] at e2'
        have hq2 := hq'.same s2
        refine ⟨_, rfl, b, _, rfl, hq2, ?_⟩
        refine ⟨_, rfl, (by show -(2 ^ 62) ≤ (((q.map V.int).length : Nat) : Int); omega), (by show (((q.map V.int).length : Nat) : Int) < 2 ^ 62; omega), for_range (lo := 0) (n := (q.map V.int).length) (fun j σ H3 => ∃ (y6 : Option V), σ = [some (.ref a), some (.ref b), some (.ref D), some (.int (0 + (k : Nat))), some (.int (co r (r.length - 1))), some (.int ((r.length - q.length : Nat) : Int)), y6, none, none] ∧ Same H' H3 ∧ H3 D = some (.lst ((zj r q (co q (q.length - 1)) (co r (r.length - 1)) j).map V.int)))
          ⟨y6, rfl, s2, e2'⟩ (fun j σ H3 hj hP => ?_) (fun σ H3 hP => ?_)⟩
        · obtain ⟨y6, rfl, s3, e3⟩ := hP
          rw [lq] at hj
          have zlen := zj_len r q (co q (q.length - 1)) (co r (r.length - 1)) j
          have hbz := zj_bd hle (Nat.le_of_lt hj) (bq (q.length - 1)) (I.bd (r.length - 1)) I.bd bq
          refine ⟨_, rfl, _, rfl, _, rfl, _, _, rfl, rfl, D, _, _, _, rfl, rfl, SqL.of e3, map_atI (by show (0 : Int) ≤ ((r.length - q.length : Nat) : Int) + (0 + (j : Nat)); omega) (by show ((r.length - q.length : Nat) : Int) + (0 + (j : Nat)) < ((zj r q (co q (q.length - 1)) (co r (r.length - 1)) j).length : Int); omega), ?_⟩
          refine ⟨_, rfl, _, rfl, _, rfl, rix (hq'.same s3) (by omega) (by omega) ?_⟩
          rw [show (0 + (j : Nat) : Int).toNat = j by omega, show (((r.length - q.length : Nat) : Int) + (0 + (j : Nat))).toNat = r.length - q.length + j by omega]
          refine ⟨_, _, rfl, rfl, wide_mul (Nat.lt_of_le_of_lt (I.bd _) Ms) (Nat.lt_of_le_of_lt (bq j) Qs) (by decide) (by decide) (by decide), _, _, rfl, rfl, ?_⟩
          refine ⟨_, rfl, _, rfl, _, rfl, _, _, rfl, rfl, D, _, _, _, rfl, rfl, e3, ixN_nat (by omega) (by rw [List.length_map]; omega), ?_⟩
          refine ⟨_, rfl, same_put s3 hD, ?_⟩
          rw [upd_same, show (((r.length - q.length : Nat) : Int) + (0 + (j : Nat))).toNat = r.length - q.length + j by omega, set_map, zj_succ r q _ _ j hle hj]
        · obtain ⟨y6, rfl, s3, e3⟩ := hP
          rw [lq, zj_last r q _ _ hle] at e3
          have zlen := zl_len r q (co q (q.length - 1)) (co r (r.length - 1))
          have lz : ((zl r q (co q (q.length - 1)) (co r (r.length - 1))).map V.int).length = r.length := by rw [List.length_map, zlen]
          refine ⟨_, rfl, _, rfl, D, _, rfl, .inl (SqL.of e3), _, _, rfl, rfl, _, rfl, D, _, rfl, SqL.of e3, fun t ht => ?_⟩
          refine ⟨t, _, s + 1, _, _, _, _, rfl, sm.trans (s3.trans (same_new ht _)), (sm.trans s3).free ht, ?_, I.step nq bq hle⟩
          rw [upd_same, show ((((zl r q (co q (q.length - 1)) (co r (r.length - 1))).map V.int).length : Nat) : Int) - 1 = ((r.length - 1 : Nat) : Int) by omega, cut_to _ _ (by omega), List.map_take]
    · have hlt : ¬ q.length ≤ r.length := by
        have : ¬ (((q.map V.int).length : Nat) : Int) ≤ ((r.map V.int).length : Nat) := of_decide_eq_false (Bool.eq_false_iff.mpr c)
        omega
      exact ⟨e, r, s, _, y4, y5, y6, rfl, sm, ne, he, I.stay hlt⟩
  · obtain ⟨e, r, s, y3, y4, y5, y6, rfl, sm, ne, he, I⟩ := hP
    have lr : (r.map V.int).length = r.length := List.length_map _
    have hlt : r.length < q.length := by
      refine Classical.byContradiction fun no => ?_
      have := (I.s2 (by omega)).2
      omega
    have r40 : r.length ≤ 40 := by have := I.len; omega
    have hb : Bd r (rb P' Q' (p.length + 1 - q.length)) := I.bd.mono (Nat.mul_le_mul_left _ (Nat.pow_le_pow_right (by omega) I.s1))
    refine ⟨_, rfl, e, _, rfl, .inl (SqL.of he), ?_⟩
    refine ⟨_, rfl, (by show -(2 ^ 62) ≤ (((r.map V.int).length : Nat) : Int); omega), (by show (((r.map V.int).length : Nat) : Int) < 2 ^ 62; omega), for_range (lo := 0) (n := (r.map V.int).length) (fun j σ H3 => ∃ (n : Nat) (y3 : Option V), σ = [some (.ref a), some (.ref b), some (.ref e), y3, y4, y5, y6, some (.int (n : Int)), none] ∧ H3 = H' ∧ n ≤ j ∧ (n = 0 ∨ co r (n - 1) ≠ 0) ∧ ∀ i, n ≤ i → i < j → co r i = 0)
      ⟨0, y3, rfl, rfl, Nat.le_refl _, .inl rfl, fun i _ h => by omega⟩ (fun j σ H3 hj hP => ?_) (fun σ H3 hP => ?_)⟩
    · obtain ⟨n, y3, rfl, rfl, h1, h2, h3⟩ := hP
      rw [lr] at hj
      refine ⟨_, rfl, _, rfl, e, _, _, _, rfl, rfl, SqL.of he, map_atI (by omega) (by omega), ?_⟩
      rw [show (0 + (j : Nat) : Int).toNat = j by omega]
      refine ⟨rfl, _, rfl, ite2 (fun c => ?_) (fun c => ?_)⟩
      · have z : co r j ≠ 0 := fun e => by rw [e] at c; exact absurd c (by decide)
        refine ⟨_, rfl, _, _, rfl, rfl, j + 1, some (.int (0 + (j : Nat))), ?_, rfl, by omega, .inr (by simpa using z), fun i h4 h5 => by omega⟩
        show List.set _ 7 (some (V.int (0 + (j : Nat) + 1))) = _
        rw [show (0 + (j : Nat) + 1 : Int) = ((j + 1 : Nat) : Int) by omega]; rfl
      · have z : co r j = 0 := by
          refine Classical.byContradiction fun ne => c ?_
          rw [decide_eq_false fun e => ne (V.int.inj e)]; rfl
        refine ⟨n, some (.int (0 + (j : Nat))), rfl, rfl, by omega, h2, fun i h4 h5 => ?_⟩
        by_cases ei : i = j
        · rw [ei]; exact z
        · exact h3 i h4 (by omega)
    · obtain ⟨n, y3, rfl, rfl, h1, h2, h3⟩ := hP
      rw [lr] at h1 h3
      have cz : Cutz r (r.take n) := ⟨n, h1, rfl, h2, fun i hi => by
        by_cases h : i < r.length
        · exact h3 i hi h
        · exact co_ge (by omega)⟩
      refine ⟨_, rfl, _, rfl, _, rfl, e, _, rfl, SqL.of he, fun t ht => ?_⟩
      refine fin _ t (r.take n) (sm.trans (same_new ht _)) (sm.free ht) ?_ (by have := cz.len; omega) cz.nm ?_ (cz.bd hb)
      · rw [upd_same, cut_to _ _ (by omega), List.map_take]
      · obtain ⟨c, w, hc, hx⟩ := I.id
        exact ⟨c, w, hc, fun x => by rw [hx x, cz.ev x]⟩
end
end KW

namespace KW
open PySem PySem.Spec PyProof.Rows L2 KP
/-! rows of ints as data -/
theorem dp_all {K : PySem.W.Frag} {H : Hp} : ∀ r : List Int, DpAll K H (r.map V.int) (r.map PyData.int)
  | [] => .nil
  | x :: r => .cons (.int x) (dp_all r)
theorem lay_all : ∀ r : List Int, PyData.canLayAll0 (r.map PyData.int) = true
  | [] => by simp [PyData.canLayAll0]
  | x :: r => by simp [PyData.canLayAll0, PyData.canLay0, lay_all r]
theorem deep_all : ∀ r : List Int, PyData.depthAll (r.map PyData.int) = 0
  | [] => by simp [PyData.depthAll]
  | x :: r => by simp [PyData.depthAll, PyData.depth, deep_all r]
theorem shaped_l (r : List Int) : SeqAt.shaped (.list (r.map PyData.int)) = true := by
  simp [SeqAt.shaped, PyData.canLay0, lay_all, PyData.depth, deep_all]
theorem shaped_t (r : List Int) : SeqAt.shaped (.tuple (r.map PyData.int)) = true := by
  simp [SeqAt.shaped, PyData.canLay0, lay_all, PyData.depth, deep_all]
theorem eqv_all : ∀ r q : List Int, PyData.eqvAll (r.map PyData.int) (q.map PyData.int) = decide (r = q)
  | [], [] => by simp [PyData.eqvAll]
  | [], y :: q => by simp [PyData.eqvAll]
  | x :: r, [] => by simp [PyData.eqvAll]
  | x :: r, y :: q => by
    have ih := eqv_all r q
    show (PyData.eqv (.int x) (.int y) && PyData.eqvAll (r.map PyData.int) (q.map PyData.int)) = _
    rw [ih]
    have e : PyData.eqv (.int x) (.int y) = (x == y) := by simp [PyData.eqv]
    rw [e, Bool.eq_iff_iff]
    simp
theorem eqv_l (r q : List Int) : PyData.eqv (.list (r.map PyData.int)) (.list (q.map PyData.int)) = decide (r = q) := by
  rw [← eqv_all]; simp [PyData.eqv]
theorem eqv_t (r q : List Int) : PyData.eqv (.tuple (r.map PyData.int)) (.tuple (q.map PyData.int)) = decide (r = q) := by
  rw [← eqv_all]; simp [PyData.eqv]
/-- the reading of a comparison of two rows -/
theorem eq_lists {K : PySem.W.Frag} {H : Hp} {a b : Addr} {r q : List Int} {Q : VK} (h1 : SqL K H a (r.map V.int)) (h2 : SqL K H b (q.map V.int)) (k : Q (.bl (decide (r = q))) H) : rEqD K (.ref a) (.ref b) H Q :=
  ⟨_, _, .lst h1 (dp_all r), .lst h2 (dp_all q), shaped_l r, shaped_l q, by rw [eqv_l]; exact k⟩
theorem eq_tups {K : PySem.W.Frag} {H : Hp} {a b : Addr} {r q : List Int} {Q : VK} (h1 : SqT K H a (r.map V.int)) (h2 : SqT K H b (q.map V.int)) (k : Q (.bl (decide (r = q))) H) : rEqD K (.ref a) (.ref b) H Q :=
  ⟨_, _, .tup h1 (dp_all r), .tup h2 (dp_all q), shaped_t r, shaped_t q, by rw [eqv_t]; exact k⟩
theorem ne_tups {K : PySem.W.Frag} {H : Hp} {a b : Addr} {r q : List Int} {Q : VK} (h1 : SqT K H a (r.map V.int)) (h2 : SqT K H b (q.map V.int)) (k : Q (.bl (!decide (r = q))) H) : rNeD K (.ref a) (.ref b) H Q :=
  ⟨_, _, .tup h1 (dp_all r), .tup h2 (dp_all q), shaped_t r, shaped_t q, by rw [eqv_t]; exact k⟩
abbrev s_law_shared : Stmt := topS 16
abbrev N_law_shared : List Str := ["one", "other", "first", "second", "k", "rest"]
theorem sc_law_shared : FnScope N_law_shared ["one", "other"] (defScope s_law_shared) := ⟨rfl, rfl, rfl, by decide +kernel, rfl, by decide +kernel, by decide +kernel⟩
section
variable {P : Program} {w : World} {K : PySem.W.Frag} {mg : Str → Option Value} {base : Heap}
def sp_law_shared (K : PySem.W.Frag) : Sp := fun vs H Q _ => ∃ (a b : Addr) (f g : List Int), vs = [.ref a, .ref b] ∧ SqT K H a (f.map V.int) ∧ SqT K H b (g.map V.int) ∧ Two (2 ^ 42) f g ∧
  ∀ H' (t : Addr) (T : List Int), Same H H' → H' t = some (.tup (T.map V.int)) → IsG f g T → Q (.ref t) H'
theorem ok_law_shared {f : Addr} {fd : FuncData} {k : Nat} (F : Fun K "_law_shared" "_law_shared" s_law_shared f fd) (M : Names mg) (G_law_primitive : Cal P w K mg base k "_law_primitive" ["row"] (sp_law_primitive K)) (G_law_rest : Cal P w K mg base k "_law_rest" ["one", "other"] (sp_law_rest K)) :
    FnOk P w K mg base CX0 (k + 1) f fd ["one", "other"] (sp_law_shared K) := by
  refine F.ok sc_law_shared (fun vs H Q E h => ?_) (fun cdv A' outer s H vs Q E hr h => ?_)
  · obtain ⟨a, b, f, g, rfl, _⟩ := h
    rfl
  obtain ⟨a, b, f, g, rfl, hf, hg, T, fin⟩ := h
  have lf := T.lf
  have lg := T.lg
  have z42 : 2 ^ 42 < 2 ^ 2500 := Nat.pow_lt_pow_right (by decide) (by decide)
  have z25 : 2 ^ 2500 ≤ 2 ^ 8000 := Nat.pow_le_pow_right (by decide) (by decide)
  refine ⟨_, (pss_cons (ps_set (i := 2) sc_law_shared.nd rfl (.inl rfl) (pe_callTy call_list_of (by rfl) M.list (by decide +kernel) (pa_cons (pe_call G_law_primitive.ok hr (by rfl) G_law_primitive.m G_law_primitive.kp G_law_primitive.b .nil pass0 (pa_cons (pv 0) pa_nil)) pa_nil)))
    (pss_cons (ps_set (i := 3) sc_law_shared.nd rfl (.inl rfl) (pe_callTy call_list_of (by rfl) M.list (by decide +kernel) (pa_cons (pe_call G_law_primitive.ok hr (by rfl) G_law_primitive.m G_law_primitive.kp G_law_primitive.b .nil pass0 (pa_cons (pv 1) pa_nil)) pa_nil)))
    (pss_cons (ps_for PassesOwn.never rfl (pi_range1 (by rfl) M.range (pa_cons pe_int pa_nil)) (pg_name (i := 4) sc_law_shared.nd rfl (.inl rfl))
      (pss_cons (ps_set (i := 5) sc_law_shared.nd rfl (.inl rfl) (pe_call G_law_rest.ok hr (by rfl) G_law_rest.m G_law_rest.kp G_law_rest.b .nil pass0 (pa_cons (pv 2) (pa_cons (pv 3) pa_nil))))
      (pss_cons (ps_if (pt_cmpR (op_eqD hr.units) (pv 5) (pe_lst pa_nil) (nomark _))
        (pss_one (ps_ret (pe_callTy call_tuple_of (by rfl) M.tuple (by decide +kernel) (pa_cons (pv 3) pa_nil))))
        pss_nil)
      (pss_cons (ps_set (i := 2) sc_law_shared.nd rfl (.inl rfl) (pv 3))
      (pss_one (ps_set (i := 3) sc_law_shared.nd rfl (.inl rfl) (pe_callTy call_list_of (by rfl) M.list (by decide +kernel) (pa_cons (pe_call G_law_primitive.ok hr (by rfl) G_law_primitive.m G_law_primitive.kp G_law_primitive.b .nil pass0 (pa_cons (pv 5) pa_nil)) pa_nil))))))))
    (pss_one (ps_ret (pe_callTy call_tuple_of (by rfl) M.tuple (by decide +kernel) (pa_cons (pv 3) pa_nil))))))), ?_⟩
  refine ⟨_, rfl, a, f, 2 ^ 42, rfl, .inr hf, T.nf, by omega, T.bf, z42, fun H1 t1 s1 _ e1 => ⟨t1, _, rfl, .inr (SqT.of e1), fun l1 n1 => ?_⟩⟩
  have s2 := same_new n1 (.lst ((prm f).map V.int))
  refine ⟨_, rfl, b, g, 2 ^ 42, rfl, .inr (Same.seqT (s1.trans s2) hg), T.ng, by omega, T.bg, z42, fun H3 t3 s3 _ e3 => ⟨t3, _, rfl, .inr (SqT.of e3), fun l2 n2 => ?_⟩⟩
  have s4 := same_new n2 (.lst ((prm g).map V.int))
  refine ⟨20, rfl, by decide, by decide, for_range (lo := 0) (n := 20) (fun k σ H' => ∃ (e1 e2 : Addr) (p q : List Int) (y4 y5 : Option V), σ = [some (.ref a), some (.ref b), some (.ref e1), some (.ref e2), y4, y5] ∧ Same H H' ∧ H' e1 = some (.lst (p.map V.int)) ∧ H' e2 = some (.lst (q.map V.int)) ∧ Canon q ∧ DInv (2 ^ 42) f g p q ∧ q.length + k ≤ 9)
    ⟨l1, l2, prm f, prm g, none, none, rfl, s1.trans (s2.trans (s3.trans s4)), (s3.trans s4) _ _ upd_same, upd_same, prm_canon T.ng, .of T (.prims T), by rw [prm_len]; omega⟩ (fun k σ H' hk hP => ?_) (fun σ H' hP => ?_)⟩
  · obtain ⟨e1, e2, p, q, y4, y5, rfl, sm, h1, h2, cq, d, hlen⟩ := hP
    obtain ⟨np, nq, p9, q9, P', Q', bP, bQ, Q1, Qz, hrb⟩ := d.sizes T (by decide) sz_main (by omega) cq.1.1
    refine ⟨_, rfl, _, rfl, e1, e2, p, q, P', Q', rfl, .inl (SqL.of h1), .inl (SqL.of h2), nq, by omega, by omega, bP, bQ, Q1, by omega, by omega, fun H5 t r s5 nt ht hlt nr hid br => ?_⟩
    obtain ⟨c, w', hc, hx⟩ := hid
    refine ⟨_, rfl, Nat.zero_le _, fun l6 n6 => ?_⟩
    have s6 := same_new n6 (.lst [])
    refine eq_lists (r := r) (q := []) (SqL.of (s6 _ _ ht)) (SqL.of upd_same) ⟨_, rfl, ite2 (fun c1 => ?_) (fun c1 => ?_)⟩
    · have rn : r = [] := of_decide_eq_true c1
      subst rn
      refine ⟨_, rfl, e2, _, rfl, .inl ⟨SqL.of (s6 _ _ (s5 _ _ h2)), fun l7 n7 => ?_⟩⟩
      have d2 := d.turn T (by decide) cq.1.1 hc hx hlt (.inl ⟨rfl, rfl⟩)
      have g1 := (d2.done T sz_main (by omega)).2.2.1
      rw [canon_prm cq] at g1
      exact fin _ l7 q (sm.trans (s5.trans (s6.trans (same_new n7 _)))) upd_same g1
    · have rn : r ≠ [] := fun e => c1 (decide_eq_true e)
      have nr' : Nm r := nr.resolve_left rn
      refine ⟨_, rfl, ?_⟩
      refine ⟨_, rfl, t, r, _, rfl, .inl (SqL.of (s6 _ _ ht)), nr', by omega, br, hrb, fun H7 t7 s7 _ e7 => ⟨t7, _, rfl, .inr (SqT.of e7), fun l8 n8 => ?_⟩⟩
      have s8 := same_new n8 (.lst ((prm r).map V.int))
      exact ⟨e2, l8, q, prm r, some (.int (0 + (k : Nat))), some (.ref t), rfl, sm.trans (s5.trans (s6.trans (s7.trans s8))), (s5.trans (s6.trans (s7.trans s8))) _ _ h2, upd_same, prm_canon nr', d.turn T (by decide) cq.1.1 hc hx hlt (.inr ⟨nr', rfl⟩), by rw [prm_len]; omega⟩
  · obtain ⟨e1, e2, p, q, y4, y5, rfl, sm, h1, h2, cq, d, hlen⟩ := hP
    have := cq.1.pos
    omega
end
end KW

namespace KW
open PySem PySem.Spec PyProof.Rows L2 KP
abbrev s_law_same_root : Stmt := topS 13
abbrev N_law_same_root : List Str := ["one", "other"]
theorem sc_law_same_root : FnScope N_law_same_root ["one", "other"] (defScope s_law_same_root) := ⟨rfl, rfl, rfl, by decide +kernel, rfl, by decide +kernel, by decide +kernel⟩
abbrev s_law_great : Stmt := topS 14
abbrev N_law_great : List Str := ["state", "number"]
theorem sc_law_great : FnScope N_law_great ["state"] (defScope s_law_great) := ⟨rfl, rfl, rfl, by decide +kernel, rfl, by decide +kernel, by decide +kernel⟩
theorem cut13 (x0 x1 x2 x3 : V) : cutV [x0, x1, x2, x3] (some 1) (some 3) = [x1, x2] := by
  have e1 : HT.sIx 4 0 (some 1) = 1 := HT.sIx_nat 4 0 1
  have e3 : HT.sIx 4 4 (some 3) = 3 := HT.sIx_nat 4 4 3
  show ([x0, x1, x2, x3].drop (HT.sIx 4 0 (some 1))).take (HT.sIx 4 4 (some 3) - HT.sIx 4 0 (some 1)) = _
  rw [e1, e3]; rfl
theorem whole13 (x0 x1 x2 x3 : V) : ¬ (HT.sIx ([x0, x1, x2, x3] : List V).length 0 (some 1) = 0 ∧ HT.sIx ([x0, x1, x2, x3] : List V).length ([x0, x1, x2, x3] : List V).length (some 3) = ([x0, x1, x2, x3] : List V).length) := fun h => by
  have e1 : HT.sIx 4 0 (some 1) = 1 := HT.sIx_nat 4 0 1
  have := h.1
  rw [show ([x0, x1, x2, x3] : List V).length = 4 from rfl, e1] at this
  cases this
section
variable {P : Program} {w : World} {K : PySem.W.Frag} {mg : Str → Option Value} {base : Heap}
/-- a root, as the law notes it down -/
def Rt (H : Hp) (v : V) : Prop := ∃ (t : Addr) (x0 x1 x2 x3 : Int), v = .ref t ∧ H t = some (.tup [.int x0, .int x1, .int x2, .int x3]) ∧ x0.natAbs < 2 ^ 20 ∧ x3.natAbs < 2 ^ 20
def sp_law_same_root (K : PySem.W.Frag) : Sp := fun vs H Q _ => ∃ u v : V, vs = [u, v] ∧ Rt H u ∧ Rt H v ∧ ∀ H' (b : Bool), Same H H' → Q (.bl b) H'
theorem ok_law_same_root {f : Addr} {fd : FuncData} {k : Nat} (F : Fun K "_law_same_root" "_law_same_root" s_law_same_root f fd) : FnOk P w K mg base CX0 (k + 1) f fd ["one", "other"] (sp_law_same_root K) := by
  refine F.ok sc_law_same_root (fun vs H Q E h => ?_) (fun cdv A outer s H vs Q E hr h => ?_)
  · obtain ⟨u, v, rfl, _⟩ := h
    rfl
  obtain ⟨u, v, rfl, ⟨a, x0, x1, x2, x3, rfl, ha, l0, l3⟩, ⟨b, y0, y1, y2, y3, rfl, hb, m0, m3⟩, q⟩ := h
  refine ⟨_, (pss_cons (ps_if (PW.pt (pw_or (pt_cmpR op_eq (pe_ix ix_tup (pv 0) pe_int (fun _ _ => rfl)) pe_int (nomark _)) (pw_or1 (pt_cmpR op_eq (pe_ix ix_tup (pv 1) pe_int (fun _ _ => rfl)) pe_int (nomark _)))))
      (pss_one (ps_ret (pe_and (pe_cmpR op_eq (pe_ix ix_tup (pv 0) pe_int (fun _ _ => rfl)) (pe_ix ix_tup (pv 1) pe_int (fun _ _ => rfl)) (nomark _)) (pe_one (pe_cmpR op_eq (pe_op op_mulW (pe_ix ix_tup (pv 0) pe_int (fun _ _ => rfl)) (pe_ix ix_tup (pv 1) pe_int (fun _ _ => rfl))) (pe_op op_mulW (pe_ix ix_tup (pv 1) pe_int (fun _ _ => rfl)) (pe_ix ix_tup (pv 0) pe_int (fun _ _ => rfl))) (nomark _))))))
      pss_nil)
    (pss_one (ps_ret (pe_and (pe_cmpR (op_eqD hr.units) (pe_slice sl_tup (pv 0) (po_some pe_int) (po_some pe_int)) (pe_slice sl_tup (pv 1) (po_some pe_int) (po_some pe_int)) (nomark _)) (pe_and (pe_cmpR op_eq (pe_op op_mulW (pe_ix ix_tup (pv 0) pe_int (fun _ _ => rfl)) (pe_ix ix_tup (pv 1) pe_int (fun _ _ => rfl))) (pe_op op_mulW (pe_ix ix_tup (pv 1) pe_int (fun _ _ => rfl)) (pe_ix ix_tup (pv 0) pe_int (fun _ _ => rfl))) (nomark _)) (pe_one (pe_cmpR op_eq (pe_ix ix_tup (pv 0) pe_int (fun _ _ => rfl)) (pe_ix ix_tup (pv 1) pe_int (fun _ _ => rfl)) (nomark _)))))))), ?_⟩
  have i0 : ∀ {z0 z1 z2 z3 : V}, atI [z0, z1, z2, z3] 0 = some z0 := atI_nat (j := 0) rfl
  have i1 : ∀ {z0 z1 z2 z3 : V}, atI [z0, z1, z2, z3] 1 = some z1 := atI_nat (j := 1) rfl
  have i3 : ∀ {z0 z1 z2 z3 : V}, atI [z0, z1, z2, z3] 3 = some z3 := atI_nat (j := 3) rfl
  have c1 : CMulW x0 y3 := wide_mul l0 m3 (by decide) (by decide) (by decide)
  have c2 : CMulW y0 x3 := wide_mul m0 l3 (by decide) (by decide) (by decide)
  refine ⟨_, rfl, a, _, _, _, rfl, rfl, SqT.of ha, i1, rfl, _, rfl, ite2 (fun t => iteT ?_) (fun t => ?_)⟩
  · refine ⟨_, rfl, a, _, _, _, rfl, rfl, SqT.of ha, i1, _, rfl, b, _, _, _, rfl, rfl, SqT.of hb, i1, rfl, _, rfl, ite2 (fun t => ?_) (fun t => ?_)⟩
    · exact ⟨_, rfl, a, _, _, _, rfl, rfl, SqT.of ha, i0, _, rfl, b, _, _, _, rfl, rfl, SqT.of hb, i3, _, _, rfl, rfl, c1, _, rfl, b, _, _, _, rfl, rfl, SqT.of hb, i0, _, rfl, a, _, _, _, rfl, rfl, SqT.of ha, i3, _, _, rfl, rfl, c2, rfl, q _ _ (Same.refl _)⟩
    · exact q _ _ (Same.refl _)
  · refine ⟨_, rfl, b, _, _, _, rfl, rfl, SqT.of hb, i1, rfl, _, rfl, ite2 (fun t => ?_) (fun t => ?_)⟩
    · refine ⟨_, rfl, a, _, _, _, rfl, rfl, SqT.of ha, i1, _, rfl, b, _, _, _, rfl, rfl, SqT.of hb, i1, rfl, _, rfl, ite2 (fun t => ?_) (fun t => ?_)⟩
      · exact ⟨_, rfl, a, _, _, _, rfl, rfl, SqT.of ha, i0, _, rfl, b, _, _, _, rfl, rfl, SqT.of hb, i3, _, _, rfl, rfl, c1, _, rfl, b, _, _, _, rfl, rfl, SqT.of hb, i0, _, rfl, a, _, _, _, rfl, rfl, SqT.of ha, i3, _, _, rfl, rfl, c2, rfl, q _ _ (Same.refl _)⟩
      · exact q _ _ (Same.refl _)
    · refine ⟨_, rfl, _, rfl, _, rfl, a, _, rfl, SqT.of ha, whole13 _ _ _ _, fun p hp => ?_⟩
      have s1 := same_new hp (.tup (cutV [V.int x0, V.int x1, V.int x2, V.int x3] (some 1) (some 3)))
      refine ⟨_, rfl, _, rfl, _, rfl, b, _, rfl, SqT.of (s1 _ _ hb), whole13 _ _ _ _, fun r hr => ?_⟩
      have s2 := same_new hr (.tup (cutV [V.int y0, V.int y1, V.int y2, V.int y3] (some 1) (some 3)))
      have s12 := s1.trans s2
      have ha2 := s12 _ _ ha
      have hb2 := s12 _ _ hb
      have e1 : (upd (upd H p (.tup (cutV [V.int x0, V.int x1, V.int x2, V.int x3] (some 1) (some 3)))) r (.tup (cutV [V.int y0, V.int y1, V.int y2, V.int y3] (some 1) (some 3)))) p = some (.tup (([x1, x2] : List Int).map V.int)) := s2 _ _ (by rw [upd_same, cut13]; rfl)
      have e2 : (upd (upd H p (.tup (cutV [V.int x0, V.int x1, V.int x2, V.int x3] (some 1) (some 3)))) r (.tup (cutV [V.int y0, V.int y1, V.int y2, V.int y3] (some 1) (some 3)))) r = some (.tup (([y1, y2] : List Int).map V.int)) := by rw [upd_same, cut13]; rfl
      refine eq_tups (r := [x1, x2]) (q := [y1, y2]) (SqT.of e1) (SqT.of e2) ⟨_, rfl, ite2 (fun t => ?_) (fun t => ?_)⟩
      · refine ⟨_, rfl, a, _, _, _, rfl, rfl, SqT.of ha2, i0, _, rfl, b, _, _, _, rfl, rfl, SqT.of hb2, i3, _, _, rfl, rfl, c1, _, rfl, b, _, _, _, rfl, rfl, SqT.of hb2, i0, _, rfl, a, _, _, _, rfl, rfl, SqT.of ha2, i3, _, _, rfl, rfl, c2, rfl, _, rfl, ite2 (fun t => ?_) (fun t => ?_)⟩
        · exact ⟨_, rfl, a, _, _, _, rfl, rfl, SqT.of ha2, i3, _, rfl, b, _, _, _, rfl, rfl, SqT.of hb2, i3, rfl, q _ _ s12⟩
        · exact q _ _ s12
      · exact q _ _ s12
def sp_law_great (K : PySem.W.Frag) : Sp := fun vs H Q _ => ∃ (p a : Addr) (ns : List Int), vs = [.ref p] ∧ StX H p a ns ∧ SqO K H p a (ns.map V.int) ∧
  ∀ (v : Int) (H' : Hp), 10 ^ 39 ≤ v → v < 10 ^ 39 + 10 ^ 36 → StX H' p a ns → But p H H' → Q (.int v) H'
theorem ok_law_great {f : Addr} {fd : FuncData} {k : Nat} (F : Fun K "_law_great" "_law_great" s_law_great f fd) (G_law_take : Cal P w K mg base k "_law_take" ["state", "many"] (sp_law_take K)) : FnOk P w K mg base CX0 (k + 1) f fd ["state"] (sp_law_great K) := by
  refine F.ok sc_law_great (fun vs H Q E h => ?_) (fun cdv A outer s H vs Q E hr h => ?_)
  · obtain ⟨p, a, ns, rfl, _⟩ := h
    rfl
  obtain ⟨p, a, ns, rfl, hX, hS, q⟩ := h
  refine ⟨_, (pss_cons (ps_set (i := 1) sc_law_great.nd rfl (.inl rfl) (pe_op op_add (pe_op op_add (pe_op op_pow pe_int pe_int) (pe_op op_mulW (pe_call G_law_take.ok hr (by rfl) G_law_take.m G_law_take.kp G_law_take.b .nil pass0 (pa_cons (pv 0) (pa_cons (pe_op op_pow pe_int pe_int) pa_nil))) (pe_op op_pow pe_int pe_int))) (pe_op op_mulW (pe_call G_law_take.ok hr (by rfl) G_law_take.m G_law_take.kp G_law_take.b .nil pass0 (pa_cons (pv 0) (pa_cons (pe_op op_pow pe_int pe_int) pa_nil))) (pe_op op_pow pe_int pe_int))))
    (pss_one (ps_ret (pe_op op_add (pv 1) (pe_call G_law_take.ok hr (by rfl) G_law_take.m G_law_take.kp G_law_take.b .nil pass0 (pa_cons (pv 0) (pa_cons (pe_op op_pow pe_int pe_int) pa_nil))))))), ?_⟩
  have P9 : ∀ i j : Int, 0 ≤ j → j ≤ 1000000 → i.natAbs < 2 ^ 64 → CPow i j := fun i j a b c => ⟨a, b, c⟩
  have e9 : (10 : Int) ^ (9 : Int).toNat = 1000000000 := by decide
  have l9 : ((10 : Int) ^ (9 : Int).toNat).natAbs.log2 < 9000 := log_small (n := 30) (by decide) (by decide) (by decide)
  have sm : ∀ d : Int, 0 ≤ d → d < (10 : Int) ^ (9 : Int).toNat → d.natAbs < 2 ^ 30 := fun d h0 h1 => by rw [e9] at h1; omega
  have g26 : ((10 : Int) ^ (26 : Int).toNat).natAbs < 2 ^ 90 := by decide
  have g13 : ((10 : Int) ^ (13 : Int).toNat).natAbs < 2 ^ 90 := by decide
  refine ⟨_, _, rfl, rfl, P9 _ _ (by decide) (by decide) (by decide), _, rfl, _, _, rfl, rfl, P9 _ _ (by decide) (by decide) (by decide), p, a, ns, _, rfl, hX, hS, by decide, l9, fun d1 H1 d10 d11 X1 b1 => ?_⟩
  refine ⟨_, _, rfl, rfl, P9 _ _ (by decide) (by decide) (by decide), _, _, rfl, rfl, wide_mul (sm d1 d10 d11) g26 (by decide) (by decide) (by decide), _, _, rfl, rfl, ?_⟩
  refine ⟨_, rfl, _, _, rfl, rfl, P9 _ _ (by decide) (by decide) (by decide), p, a, ns, _, rfl, X1, hS.but b1, by decide, l9, fun d2 H2 d20 d21 X2 b2 => ?_⟩
  refine ⟨_, _, rfl, rfl, P9 _ _ (by decide) (by decide) (by decide), _, _, rfl, rfl, wide_mul (sm d2 d20 d21) g13 (by decide) (by decide) (by decide), _, _, rfl, rfl, ?_⟩
  refine ⟨_, rfl, _, rfl, _, _, rfl, rfl, P9 _ _ (by decide) (by decide) (by decide), p, a, ns, _, rfl, X2, (hS.but b1).but b2, by decide, l9, fun d3 H3 d30 d31 X3 b3 => ?_⟩
  refine ⟨_, _, rfl, rfl, ?_⟩
  rw [e9] at d11 d21 d31
  have f39 : (10 : Int) ^ (39 : Int).toNat = 10 ^ 39 := rfl
  have f26 : (10 : Int) ^ (26 : Int).toNat = 100000000000000000000000000 := by decide
  have f13 : (10 : Int) ^ (13 : Int).toNat = 10000000000000 := by decide
  have f36 : (10 : Int) ^ 36 = 1000000000000000000000000000000000000 := by decide
  refine q _ H3 ?_ ?_ X3 ((b1.trans b2).trans b3)
  · show (10 : Int) ^ 39 ≤ (10 : Int) ^ (39 : Int).toNat + d1 * (10 : Int) ^ (26 : Int).toNat + d2 * (10 : Int) ^ (13 : Int).toNat + d3
    rw [f39, f26, f13]; omega
  · show (10 : Int) ^ (39 : Int).toNat + d1 * (10 : Int) ^ (26 : Int).toNat + d2 * (10 : Int) ^ (13 : Int).toNat + d3 < (10 : Int) ^ 39 + 10 ^ 36
    rw [f39, f26, f13, f36]; omega
end
end KW

namespace KW
open PySem PySem.Spec PyProof.Rows L2 KP
theorem call_isiK {X : Cx} {K : PySem.W.Frag} (e : X.K = K) : CallR X (.builtin "isinstance") (rIsi K) := by subst e; exact call_isi
abbrev s_law_is_long_right : Stmt := topS 17
abbrev N_law_is_long_right : List Str := ["state", "cubic", "great", "shared", "first", "second", "told", "number"]
theorem sc_law_is_long_right : FnScope N_law_is_long_right ["state"] (defScope s_law_is_long_right) := ⟨rfl, rfl, rfl, by decide +kernel, rfl, by decide +kernel, by decide +kernel⟩
theorem no_any (n : Nat) : (List.replicate n false).any id = false := by induction n with
  | zero => rfl
  | succ n ih => rw [List.replicate_succ, List.any_cons, ih]; rfl
section
variable {P : Program} {w : World} {K : PySem.W.Frag} {mg : Str → Option Value} {base : Heap}
def sp_law_is_long_right (K : PySem.W.Frag) : Sp := fun vs H Q _ => ∃ (p a : Addr) (ns : List Int), vs = [.ref p] ∧ StX H p a ns ∧ SqO K H p a (ns.map V.int) ∧
  ∀ H', StX H' p a ns → But p H H' → Q (.bl true) H'
theorem ok_law_is_long_right {f : Addr} {fd : FuncData} {k : Nat} (F : Fun K "_law_is_long_right" "_law_is_long_right" s_law_is_long_right f fd) (M : Names mg) (G_law_take : Cal P w K mg base k "_law_take" ["state", "many"] (sp_law_take K)) (G_law_great : Cal P w K mg base k "_law_great" ["state"] (sp_law_great K))
    (G_law_poly_times : Cal P w K mg base k "_law_poly_times" ["one", "other"] (sp_law_poly_times K)) (Gdivisor : Cal P w K mg base k "divisor" ["one", "other"] (spdivisor K)) (G_law_primitive : Cal P w K mg base k "_law_primitive" ["row"] (sp_law_primitive K)) : FnOk P w K mg base CX0 (k + 1) f fd ["state"] (sp_law_is_long_right K) := by
  refine F.ok sc_law_is_long_right (fun vs H Q E h => ?_) (fun cdv A outer s H vs Q E hr h => ?_)
  · obtain ⟨p, a, ns, rfl, _⟩ := h
    rfl
  obtain ⟨p, a, ns, rfl, hX, hS, q⟩ := h
  refine ⟨_, (pss_cons (ps_set (i := 1) sc_law_is_long_right.nd rfl (.inl rfl) (pe_lst (pa_cons (pe_op op_sub (pe_un un_neg pe_int) (pe_call G_law_take.ok hr (by rfl) G_law_take.m G_law_take.kp G_law_take.b .nil pass0 (pa_cons (pv 0) (pa_cons pe_int pa_nil)))) (pa_cons pe_int (pa_cons pe_int (pa_cons pe_int pa_nil))))))
    (pss_cons (ps_set (i := 2) sc_law_is_long_right.nd rfl (.inl rfl) (pe_lst (pa_cons (pe_op op_sub pe_int (pe_op op_fdivW (pe_call G_law_great.ok hr (by rfl) G_law_great.m G_law_great.kp G_law_great.b .nil pass0 (pa_cons (pv 0) pa_nil)) (pe_op op_pow pe_int pe_int))) (pa_cons (pe_op op_add pe_int (pe_call G_law_take.ok hr (by rfl) G_law_take.m G_law_take.kp G_law_take.b .nil pass0 (pa_cons (pv 0) (pa_cons pe_int pa_nil)))) pa_nil))))
    (pss_cons (ps_set (i := 3) sc_law_is_long_right.nd rfl (.inl rfl) (pe_call G_law_poly_times.ok hr (by rfl) G_law_poly_times.m G_law_poly_times.kp G_law_poly_times.b .nil pass0 (pa_cons (pv 1) (pa_cons (pv 2) pa_nil))))
    (pss_cons (ps_set (i := 4) sc_law_is_long_right.nd rfl (.inl rfl) (pe_callTy call_tuple_of (by rfl) M.tuple (by decide +kernel) (pa_cons (pe_call G_law_poly_times.ok hr (by rfl) G_law_poly_times.m G_law_poly_times.kp G_law_poly_times.b .nil pass0 (pa_cons (pv 3) (pa_cons (pe_lst (pa_cons (pe_op op_add pe_int (pe_call G_law_take.ok hr (by rfl) G_law_take.m G_law_take.kp G_law_take.b .nil pass0 (pa_cons (pv 0) (pa_cons pe_int pa_nil)))) (pa_cons pe_int (pa_cons pe_int pa_nil)))) pa_nil))) pa_nil)))
    (pss_cons (ps_set (i := 5) sc_law_is_long_right.nd rfl (.inl rfl) (pe_callTy call_tuple_of (by rfl) M.tuple (by decide +kernel) (pa_cons (pe_call G_law_poly_times.ok hr (by rfl) G_law_poly_times.m G_law_poly_times.kp G_law_poly_times.b .nil pass0 (pa_cons (pv 3) (pa_cons (pe_lst (pa_cons (pe_op op_sub pe_int (pe_call G_law_take.ok hr (by rfl) G_law_take.m G_law_take.kp G_law_take.b .nil pass0 (pa_cons (pv 0) (pa_cons pe_int pa_nil)))) (pa_cons pe_int pa_nil))) pa_nil))) pa_nil)))
    (pss_cons (ps_set (i := 6) sc_law_is_long_right.nd rfl (.inl rfl) (pe_call Gdivisor.ok hr (by rfl) Gdivisor.m Gdivisor.kp Gdivisor.b .nil pass0 (pa_cons (pv 4) (pa_cons (pv 5) pa_nil))))
    (pss_one (ps_ret (pe_and (pe_cmpR (op_eqD hr.units) (pv 6) (pe_call G_law_primitive.ok hr (by rfl) G_law_primitive.m G_law_primitive.kp G_law_primitive.b .nil pass0 (pa_cons (pv 3) pa_nil)) (nomark _)) (pe_one (pe_not (pe_callB (cr_any rfl) (by rfl) M.any (by decide +kernel) (pa_cons (pe_lc (own := [("number", 7)]) (g := gName 7) (by rfl) sc_law_is_long_right.nd (pi_tup (pv 6)) (blkOk_by (own := [("number", 7)]) (N := N_law_is_long_right) (sc := defScope s_law_is_long_right) (by decide +kernel)) (fun _ _ _ _ _ => pg_name (i := 7) sc_law_is_long_right.nd rfl (Or.inl rfl)) (fun _ _ _ _ _ => pts_nil) (fun _ _ _ _ _ => (pe_callB (call_isiK (K := K) rfl) (by rfl) M.isinstance (by decide +kernel) (pa_cons (pv 7) (pa_cons (pe_bltn (v := .ty "bool") (by rfl) M.bool (by decide +kernel) rfl) pa_nil))))) pa_nil))))))))))))), ?_⟩
  have lg : ∀ n : Int, n.natAbs < 2 ^ 30 → n.natAbs.log2 < 9000 := fun n h => log_small h (by decide) (by decide)
  -- cubic
  refine ⟨_, rfl, _, rfl, p, a, ns, _, rfl, hX, hS, by decide, lg _ (by decide), fun t H1 t0 t5 X1 b1 => ?_⟩
  refine ⟨_, _, rfl, rfl, (by show 4 ≤ sizeLine; decide), fun cu ncu => ?_⟩
  have S2 := same_new ncu (.lst [V.int (-2 - t), .int 0, .int 0, .int 1])
  have B2 : But p H _ := b1.trans (.of S2)
  have X2 := X1.same S2
  -- great
  refine ⟨_, rfl, p, a, ns, rfl, X2, hS.but B2, fun v H3 v0 v1 X3 b3 => ?_⟩
  refine ⟨_, _, rfl, rfl, ⟨by decide, by decide, by decide⟩, _, _, rfl, rfl, ⟨by decide, log_small (n := 90) (by decide) (by decide) (by decide)⟩, _, _, rfl, rfl, _, rfl, p, a, ns, _, rfl, X3, hS.but (B2.trans b3), by decide, lg _ (by decide), fun u H4 u0 u9 X4 b4 => ?_⟩
  refine ⟨_, _, rfl, rfl, (by show 2 ≤ sizeLine; decide), fun gr ngr => ?_⟩
  obtain ⟨G, hG⟩ : ∃ G : Int, v / (10 : Int) ^ (15 : Int).toNat = G := ⟨_, rfl⟩
  have e15 : (10 : Int) ^ (15 : Int).toNat = 1000000000000000 := by decide
  have e36 : (10 : Int) ^ 36 = 1000000000000000000000000000000000000 := by decide
  have e39 : (10 : Int) ^ 39 = 1000000000000000000000000000000000000000 := by decide
  rw [e39] at v0 v1
  rw [e36] at v1
  have hG2 : 0 ≤ G ∧ G < 2 ^ 81 := by rw [← hG, e15]; omega
  rw [hG]
  have S5 := same_new ngr (.lst [V.int (0 - G), .int (3 + u)])
  have B5 : But p H _ := (B2.trans b3).trans (b4.trans (.of S5))
  have X5 := X4.same S5
  have pne : ∀ {H' : Hp} {c : Addr}, StX H' p a ns → H' c = none → c ≠ p := fun X n z => by
    obtain ⟨_, _, _, _, e, _⟩ := X
    rw [z, e] at n; cases n
  have cup : cu ≠ p := pne X1 ncu
  have hcu := (b3.trans (b4.trans (.of S5))) cu _ cup (upd_same (H := H1) (a := cu) (o := .lst [V.int (-2 - t), .int 0, .int 0, .int 1]))
  -- shared
  refine ⟨_, rfl, _, rfl, cu, gr, [-2 - t, 0, 0, 1], [0 - G, 3 + u], 6, 2 ^ 81, rfl, .inl (SqL.of hcu), .inl (SqL.of upd_same), (by show 0 < 4; decide), (by show 0 < 2; decide), (by show 4 ≤ 40; decide), (by show 2 ≤ 40; decide), ?_, ?_, ?_, Nat.pow_lt_pow_right (by decide) (by decide), fun H6 sh s S6 nsh esh ls vs => ?_⟩
  · exact mem_bd (fun x hx => by
      simp only [List.mem_cons, List.not_mem_nil, or_false] at hx
      rcases hx with rfl | rfl | rfl | rfl <;> omega)
  · exact mem_bd (fun x hx => by
      simp only [List.mem_cons, List.not_mem_nil, or_false] at hx
      rcases hx with rfl | rfl <;> omega)
  · exact Nat.lt_of_lt_of_le (show 6 < 2 ^ 3 by decide) (Nat.pow_le_pow_right (by decide) (by decide))
  have B6 : But p H H6 := B5.trans (.of S6)
  have X6 := X5.same S6
  have ncub : Nm ([-2 - t, 0, 0, 1] : List Int) := nm_of (n := 3) rfl (by show (1 : Int) ≠ 0; decide)
  have ngre : Nm ([0 - G, 3 + u] : List Int) := nm_of (n := 1) rfl (by show (3 : Int) + u ≠ 0; omega)
  have nms : Nm s := prod_nm ncub ngre vs ls
  have bds : Bd s (4 * (6 * 2 ^ 81)) := prod_bd (p := [-2 - t, 0, 0, 1]) (fun x hx => by
      simp only [List.mem_cons, List.not_mem_nil, or_false] at hx
      rcases hx with rfl | rfl | rfl | rfl <;> omega) (mem_bd (fun x hx => by
      simp only [List.mem_cons, List.not_mem_nil, or_false] at hx
      rcases hx with rfl | rfl <;> omega)) vs
  have ls5 : s.length = 5 := ls
  have big : 4 * (6 * 2 ^ 81) < 2 ^ 10000 := Nat.lt_of_lt_of_le (show 4 * (6 * 2 ^ 81) < 2 ^ 90 by decide) (Nat.pow_le_pow_right (by decide) (by decide))
  have shp : sh ≠ p := pne X5 nsh
  -- first
  refine ⟨_, rfl, _, rfl, p, a, ns, _, rfl, X6, hS.but B6, by decide, lg _ (by decide), fun a3 H7 a30 a39 X7 b7 => ?_⟩
  refine ⟨_, _, rfl, rfl, (by show 3 ≤ sizeLine; decide), fun l1 nl1 => ?_⟩
  have S8 := same_new nl1 (.lst [V.int (1 + a3), .int 1, .int 1])
  have esh8 := S8 _ _ (b7 _ _ shp esh)
  have B8 : But p H _ := B6.trans (b7.trans (.of S8))
  have X8 := X7.same S8
  have m3 : ∀ x ∈ ([1 + a3, 1, 1] : List Int), x.natAbs ≤ 9 := fun x hx => by
    simp only [List.mem_cons, List.not_mem_nil, or_false] at hx
    rcases hx with rfl | rfl | rfl <;> omega
  refine ⟨sh, l1, s, [1 + a3, 1, 1], _, 9, rfl, .inl (SqL.of esh8), .inl (SqL.of upd_same), by omega, (by show 0 < 3; decide), by omega, (by show 3 ≤ 40; decide), bds, mem_bd m3, big, Nat.lt_of_lt_of_le (show 9 < 2 ^ 4 by decide) (Nat.pow_le_pow_right (by decide) (by decide)), fun H9 r1 f1 S9 nr1 er1 lf1 vf1 => ⟨r1, _, rfl, .inl ⟨SqL.of er1, fun t1 nt1 => ?_⟩⟩⟩
  have S10 := same_new nt1 (.tup (f1.map V.int))
  have B10 : But p H _ := B8.trans (.of (S9.trans S10))
  have X10 := X8.same (S9.trans S10)
  have esh10 := (S9.trans S10) _ _ esh8
  -- second
  refine ⟨_, rfl, _, rfl, p, a, ns, _, rfl, X10, hS.but B10, by decide, lg _ (by decide), fun d4 H11 d40 d49 X11 b11 => ?_⟩
  refine ⟨_, _, rfl, rfl, (by show 2 ≤ sizeLine; decide), fun l2 nl2 => ?_⟩
  have S12 := same_new nl2 (.lst [V.int (0 - d4), .int 2])
  have esh12 := S12 _ _ (b11 _ _ shp esh10)
  have B12 : But p H _ := B10.trans (b11.trans (.of S12))
  have X12 := X11.same S12
  have t1p : t1 ≠ p := pne (X8.same S9) nt1
  have et12 := S12 _ _ (b11 _ _ t1p (upd_same (H := H9) (a := t1) (o := .tup (f1.map V.int))))
  have m2 : ∀ x ∈ ([0 - d4, 2] : List Int), x.natAbs ≤ 8 := fun x hx => by
    simp only [List.mem_cons, List.not_mem_nil, or_false] at hx
    rcases hx with rfl | rfl <;> omega
  refine ⟨sh, l2, s, [0 - d4, 2], _, 8, rfl, .inl (SqL.of esh12), .inl (SqL.of upd_same), by omega, (by show 0 < 2; decide), by omega, (by show 2 ≤ 40; decide), bds, mem_bd m2, big, Nat.lt_of_lt_of_le (show 8 < 2 ^ 4 by decide) (Nat.pow_le_pow_right (by decide) (by decide)), fun H13 r2 f2 S13 nr2 er2 lf2 vf2 => ⟨r2, _, rfl, .inl ⟨SqL.of er2, fun t2 nt2 => ?_⟩⟩⟩
  have S14 := same_new nt2 (.tup (f2.map V.int))
  have B14 : But p H _ := B12.trans (.of (S13.trans S14))
  have X14 := X12.same (S13.trans S14)
  have esh14 := (S13.trans S14) _ _ esh12
  have et14 := (S13.trans S14) _ _ et12
  -- told
  have nq1 : Nm ([1 + a3, 1, 1] : List Int) := nm_of (n := 2) rfl (by show (1 : Int) ≠ 0; decide)
  have nq2 : Nm ([0 - d4, 2] : List Int) := nm_of (n := 1) rfl (by show (2 : Int) ≠ 0; decide)
  have T : Two (2 ^ 92) f1 f2 := ⟨prod_nm nms nq1 vf1 lf1, prod_nm nms nq2 vf2 lf2, by rw [lf1, ls5]; show 5 + 3 - 1 ≤ 9; decide, by rw [lf2, ls5]; show 5 + 2 - 1 ≤ 9; decide,
    (prod_bd (bd_mem bds) (mem_bd m3) vf1).mono (by rw [ls5]; decide), (prod_bd (bd_mem bds) (mem_bd m2) vf2).mono (by rw [ls5]; decide)⟩
  refine ⟨_, rfl, _, rfl, t1, t2, f1, f2, 2 ^ 92, 6, _, rfl, SqT.of et14, SqT.of upd_same, T, by decide, sz_long, Nat.le_refl _, by rw [lf1, lf2, ls5]; show min (5 + 3 - 1) (5 + 2 - 1) ≤ 6; decide, fun H15 to Tl S15 eto hT _ => ?_⟩
  have eT : Tl = prm s := hT.unique (long_isG nms a30 d40 vf1 vf2)
  subst eT
  -- told == _law_primitive(shared)
  refine ⟨_, rfl, _, rfl, sh, s, _, rfl, .inl (SqL.of (S15 _ _ esh14)), nms, by omega, bds, Nat.lt_of_lt_of_le (show 4 * (6 * 2 ^ 81) < 2 ^ 90 by decide) (Nat.pow_le_pow_right (by decide) (by decide)), fun H16 t3 S16 _ e3 => ?_⟩
  refine eq_tups (SqT.of (S16 _ _ eto)) (SqT.of e3) ⟨_, rfl, ?_⟩
  rw [decide_eq_true rfl]
  refine iteT ?_
  -- not any(..)
  have eto16 := S16 _ _ eto
  have lpr : ((prm s).map V.int).length = 5 := by rw [List.length_map, prm_len, ls5]
  refine ⟨_, rfl, to, rfl, ⟨_, SqT.of eto16⟩, fun D nD => comp_tup (xs := (prm s).map V.int) (fun _ => .bl false) (SqT.of eto16) nD (by omega) (fun i x H17 Nx hx sm hn => ?_) (fun H17 sm e => ?_)⟩
  · obtain ⟨hi, rfl⟩ := map_mem hx
    exact ⟨rfl, _, rfl, _, _, _, _, false, rfl, .ty "bool", .base (.int _), kit_ty (by decide +kernel), hn⟩
  · refine ⟨D, List.replicate 5 false, rfl, SqL.of ?_, _, rfl, ?_⟩
    · rw [e, List.map_const', lpr, List.map_replicate]
    · rw [no_any]
      exact q H17 (X14.same (S15.trans (S16.trans sm))) (B14.trans (.of (S15.trans (S16.trans sm))))
end
end KW

namespace KW
open PySem PySem.Spec PyProof.Rows L2 KP
/-- a comprehension over a list whose step may make new objects -/
theorem comp_listS {K : PySem.W.Frag} {a D : Addr} {xs : List V} {g : TG} {te : TE} {vs : List Nat} {σ : L2.St} {H1 : Hp} {Qd : Hp → Prop} (R : V → Prop) (hx : SqL K H1 a xs) (hD : H1 D = none) (hl : xs.length ≤ 1000)
    (hs : ∀ (i : Nat) (x : V) (H : Hp) (Nx : V → Hp → Prop), xs[i]? = some x → Same H1 H → (∀ y H', Same H H' → R y → Nx y H') → g x (wipe σ vs) H fun σ2 H2 => wipe σ2 vs = wipe σ vs ∧ te σ2 H2 Nx)
    (hd : ∀ H ys, Same H1 H → H D = some (.lst ys) → ys.length = xs.length → (∀ y ∈ ys, R y) → Qd H) :
    ∃ W : Nat → Nat → Hp → Prop, (∃ m, W 0 m (upd H1 D (.lst []))) ∧ ∀ i m H, W i m H →
      ((Itl K a).stop i H ∧ Qd H) ∨ ((Itl K a).go i H ∧ ∃ Nx : Hp → Prop, (∀ H', Nx H' → ∃ m', m' < m ∧ W (i + 1) m' H') ∧ ∀ x H', (Itl K a).yld i H x H' → g x (wipe σ vs) H' fun σ2 H2 => wipe σ2 vs = wipe σ vs ∧ tYes σ2 H2 fun b H3 =>
        if b = true then te σ2 H3 fun y H4 => ∃ acc, H4 D = some (.lst acc) ∧ acc.length < sizeLine ∧ Nx (upd H4 D (.lst (acc ++ [y]))) else Nx H3) := by
  refine lc_list (xs := xs) (fun i H => Same H1 H ∧ ∃ ys, H D = some (.lst ys) ∧ ys.length = i ∧ ∀ y ∈ ys, R y) ⟨same_new hD _, [], upd_same, rfl, fun y h => by cases h⟩ (fun i H _ h => h.1.seq hx) (fun i x H hix h => ?_) (fun H h => ?_)
  · obtain ⟨sm, ys, e, l, r⟩ := h
    have hi : i < xs.length := (List.getElem?_eq_some_iff.mp hix).1
    have := hs i x H (fun y H4 => ∃ acc, H4 D = some (.lst acc) ∧ acc.length < sizeLine ∧ (Same H1 (upd H4 D (.lst (acc ++ [y]))) ∧ ∃ ys, (upd H4 D (.lst (acc ++ [y]))) D = some (.lst ys) ∧ ys.length = i + 1 ∧ ∀ y ∈ ys, R y)) hix sm
      (fun y H' s2 hr => ⟨ys, s2 _ _ e, small1000 (by omega), same_put (sm.trans s2) hD, ys ++ [y], upd_same, by rw [List.length_append, l]; rfl, fun z hz => by
        rcases List.mem_append.mp hz with hz | hz
        · exact r z hz
        · rw [List.mem_singleton.mp hz]; exact hr⟩)
    exact this
  · obtain ⟨sm, ys, e, l, r⟩ := h
    exact hd H ys sm e l r
theorem Rt.but {K : PySem.W.Frag} {H H' : Hp} {p a : Addr} {ns : List Int} {v : V} (h : Rt H v) (X : StX H p a ns) (b : But p H H') : Rt H' v := by
  obtain ⟨t, x0, x1, x2, x3, rfl, e, l0, l3⟩ := h
  refine ⟨t, x0, x1, x2, x3, rfl, b _ _ (fun z => ?_) e, l0, l3⟩
  obtain ⟨_, _, _, _, e2, _⟩ := X
  rw [z, e2] at e; cases e
theorem Rt.same {H H' : Hp} {v : V} (h : Rt H v) (s : Same H H') : Rt H' v := by
  obtain ⟨t, x0, x1, x2, x3, rfl, e, l0, l3⟩ := h
  exact ⟨t, x0, x1, x2, x3, rfl, s _ _ e, l0, l3⟩
theorem Rt.put {H : Hp} {v : V} {r : Addr} {xs ys : List V} (h : Rt H v) (e : H r = some (.lst xs)) : Rt (upd H r (.lst ys)) v := by
  obtain ⟨t, x0, x1, x2, x3, rfl, e2, l0, l3⟩ := h
  refine ⟨t, x0, x1, x2, x3, rfl, ?_, l0, l3⟩
  rw [upd_ne (ne_of e2 e (by intro z; cases z))]; exact e2
theorem bools : ∀ ys : List V, (∀ y ∈ ys, ∃ b, y = V.bl b) → ∃ bs : List Bool, ys = bs.map V.bl
  | [], _ => ⟨[], rfl⟩
  | y :: ys, h => by
    obtain ⟨b, rfl⟩ := h y List.mem_cons_self
    obtain ⟨bs, rfl⟩ := bools ys fun z hz => h z (List.mem_cons_of_mem _ hz)
    exact ⟨b :: bs, rfl⟩
theorem StX.ne {H : Hp} {p a c : Addr} {ns : List Int} (X : StX H p a ns) (n : H c = none) : c ≠ p := fun z => by
  obtain ⟨_, _, _, _, e, _⟩ := X
  rw [z, e] at n; cases n
abbrev s_law_product_drawn : Stmt := topS 12
abbrev N_law_product_drawn : List Str := ["state", "most", "row", "roots", "k", "kind", "a", "e", "times", "m", "factor", "found", "n", "root", "other"]
theorem sc_law_product_drawn : FnScope N_law_product_drawn ["state", "most"] (defScope s_law_product_drawn) := ⟨rfl, rfl, rfl, by decide +kernel, rfl, by decide +kernel, by decide +kernel⟩
section
variable {P : Program} {w : World} {K : PySem.W.Frag} {mg : Str → Option Value} {base : Heap}
def sp_law_product_drawn (K : PySem.W.Frag) : Sp := fun vs H Q _ => ∃ (p a : Addr) (ns : List Int), vs = [.ref p, .int 2] ∧ StX H p a ns ∧ SqO K H p a (ns.map V.int) ∧
  ∀ H' (T tr rr : Addr) (row : List Int), StX H' p a ns → But p H H' → H' T = some (.tup [.ref tr, .ref rr]) → H' tr = some (.tup (row.map V.int)) → RowOk row → Q (.ref T) H'
/-- what holds between two turns -/
def PInv (H : Hp) (p a : Addr) (ns : List Int) (k : Nat) (er ro : Addr) (H' : Hp) : Prop := ∃ (row : List Int) (rs : List V), StX H' p a ns ∧ But p H H' ∧ H' er = some (.lst (row.map V.int)) ∧ RowOk row ∧ H' ro = some (.lst rs) ∧ (∀ v ∈ rs, Rt H' v) ∧ rs.length ≤ 2 * k ∧ H ro = none ∧ ro ≠ p ∧ er ≠ p ∧ er ≠ ro
theorem PInv.but {H H1 H2 : Hp} {p a : Addr} {ns : List Int} {k : Nat} {er ro : Addr} (h : PInv H p a ns k er ro H1) (X : StX H2 p a ns) (b : But p H1 H2) : PInv H p a ns k er ro H2 := by
  obtain ⟨row, rs, X1, b1, h1, h2, h3, h4, h5, h6, h7, h8, h9⟩ := h
  exact ⟨row, rs, X, b1.trans b, b _ _ h8 h1, h2, b _ _ h7 h3, fun v hv => (h4 v hv).but (K := default) X1 b, h5, h6, h7, h8, h9⟩
theorem ok_law_product_drawn {f : Addr} {fd : FuncData} {k : Nat} (F : Fun K "_law_product_drawn" "_law_product_drawn" s_law_product_drawn f fd) (M : Names mg) (G_law_take : Cal P w K mg base k "_law_take" ["state", "many"] (sp_law_take K)) (G_law_poly_times : Cal P w K mg base k "_law_poly_times" ["one", "other"] (sp_law_poly_times K))
    (G_law_same_root : Cal P w K mg base k "_law_same_root" ["one", "other"] (sp_law_same_root K)) : FnOk P w K mg base CX0 (k + 1) f fd ["state", "most"] (sp_law_product_drawn K) := by
  refine F.ok sc_law_product_drawn (fun vs H Q E h => ?_) (fun cdv A outer s H vs Q E hr h => ?_)
  · obtain ⟨p, a, ns, rfl, _⟩ := h
    rfl
  obtain ⟨p, a, ns, rfl, hX, hS, fin⟩ := h
  refine ⟨_, (pss_cons (ps_set (i := 2) sc_law_product_drawn.nd rfl (.inl rfl) (pe_lst (pa_cons (pe_ix ix_list (pe_lst (pa_cons (pe_un un_neg pe_int) (pa_cons (pe_un un_neg pe_int) (pa_cons (pe_un un_neg pe_int) (pa_cons pe_int (pa_cons pe_int (pa_cons pe_int pa_nil))))))) (pe_call G_law_take.ok hr (by rfl) G_law_take.m G_law_take.kp G_law_take.b .nil pass0 (pa_cons (pv 0) (pa_cons pe_int pa_nil))) (fun _ _ => rfl)) pa_nil)))
    (pss_cons (ps_set (i := 3) sc_law_product_drawn.nd rfl (.inl rfl) (pe_lst pa_nil))
    (pss_cons (ps_for PassesOwn.never rfl (pi_range1 (by rfl) M.range (pa_cons (pe_call G_law_take.ok hr (by rfl) G_law_take.m G_law_take.kp G_law_take.b .nil pass0 (pa_cons (pv 0) (pa_cons (pe_op op_add (pv 1) pe_int) pa_nil))) pa_nil)) (pg_name (i := 4) sc_law_product_drawn.nd rfl (.inl rfl))
      (pss_cons (ps_set (i := 5) sc_law_product_drawn.nd rfl (.inl rfl) (pe_call G_law_take.ok hr (by rfl) G_law_take.m G_law_take.kp G_law_take.b .nil pass0 (pa_cons (pv 0) (pa_cons pe_int pa_nil))))
      (pss_cons (ps_set (i := 6) sc_law_product_drawn.nd rfl (.inl rfl) (pe_op op_sub (pe_call G_law_take.ok hr (by rfl) G_law_take.m G_law_take.kp G_law_take.b .nil pass0 (pa_cons (pv 0) (pa_cons pe_int pa_nil))) pe_int))
      (pss_cons (ps_set (i := 7) sc_law_product_drawn.nd rfl (.inl rfl) (pe_op op_add pe_int (pe_call G_law_take.ok hr (by rfl) G_law_take.m G_law_take.kp G_law_take.b .nil pass0 (pa_cons (pv 0) (pa_cons pe_int pa_nil)))))
      (pss_cons (ps_set (i := 8) sc_law_product_drawn.nd rfl (.inl rfl) (pe_op op_add pe_int (pe_callTy call_int1 (by rfl) M.int (by decide +kernel) (pa_cons (pe_cmpR op_eq (pe_call G_law_take.ok hr (by rfl) G_law_take.m G_law_take.kp G_law_take.b .nil pass0 (pa_cons (pv 0) (pa_cons pe_int pa_nil))) pe_int (nomark _)) pa_nil))))
      (pss_cons (ps_set (i := 9) sc_law_product_drawn.nd rfl (.inl rfl) (pe_ix ix_list (pe_lst (pa_cons pe_int (pa_cons pe_int (pa_cons pe_int (pa_cons pe_int (pa_cons pe_int (pa_cons pe_int (pa_cons pe_int (pa_cons pe_int pa_nil))))))))) (pe_call G_law_take.ok hr (by rfl) G_law_take.m G_law_take.kp G_law_take.b .nil pass0 (pa_cons (pv 0) (pa_cons pe_int pa_nil))) (fun _ _ => rfl)))
      (pss_cons (ps_if (pt_cmpR op_lt (pv 5) pe_int (nomark _))
        (pss_cons (ps_set (i := 10) sc_law_product_drawn.nd rfl (.inl rfl) (pe_lst (pa_cons (pe_op op_sub pe_int (pv 6)) (pa_cons (pv 7) pa_nil))))
        (pss_one (ps_set (i := 11) sc_law_product_drawn.nd rfl (.inl rfl) (pe_lst (pa_cons (pe_tup (pa_cons (pv 6) (pa_cons pe_int (pa_cons pe_int (pa_cons (pv 7) pa_nil))))) pa_nil)))))
        (pss_one (ps_if (pt_cmpR op_eq (pv 5) pe_int (nomark _))
          (pss_cons (ps_set (i := 10) sc_law_product_drawn.nd rfl (.inl rfl) (pe_lst (pa_cons (pe_op op_sub (pe_op op_mulW (pv 6) (pv 6)) (pv 9)) (pa_cons (pe_op op_sub pe_int (pe_op op_mulW (pe_op op_mulW pe_int (pv 6)) (pv 7))) (pa_cons (pe_op op_mulW (pv 7) (pv 7)) pa_nil)))))
          (pss_one (ps_set (i := 11) sc_law_product_drawn.nd rfl (.inl rfl) (pe_lst (pa_cons (pe_tup (pa_cons (pv 6) (pa_cons (pe_un un_neg pe_int) (pa_cons (pv 9) (pa_cons (pv 7) pa_nil))))) (pa_cons (pe_tup (pa_cons (pv 6) (pa_cons pe_int (pa_cons (pv 9) (pa_cons (pv 7) pa_nil))))) pa_nil))))))
          (pss_cons (ps_set (i := 10) sc_law_product_drawn.nd rfl (.inl rfl) (pe_lst (pa_cons (pe_op op_add (pe_op op_mulW (pv 6) (pv 6)) (pv 9)) (pa_cons (pe_op op_sub pe_int (pe_op op_mulW (pe_op op_mulW pe_int (pv 6)) (pv 7))) (pa_cons (pe_op op_mulW (pv 7) (pv 7)) pa_nil)))))
          (pss_one (ps_set (i := 11) sc_law_product_drawn.nd rfl (.inl rfl) (pe_lst pa_nil)))))))
      (pss_one (ps_if (pt_cmpR op_le (pe_op op_add (pe_op op_sub (pe_callB call_len_seq (by rfl) M.len PySem.boot_len (pa_cons (pv 2) pa_nil)) pe_int) (pe_op op_mulW (pv 8) (pe_op op_sub (pe_callB call_len_seq (by rfl) M.len PySem.boot_len (pa_cons (pv 10) pa_nil)) pe_int))) pe_int (nomark _))
        (pss_cons (ps_for PassesOwn.never rfl (pi_range1 (by rfl) M.range (pa_cons (pv 8) pa_nil)) (pg_name (i := 12) sc_law_product_drawn.nd rfl (.inl rfl))
          (pss_one (ps_set (i := 2) sc_law_product_drawn.nd rfl (.inl rfl) (pe_call G_law_poly_times.ok hr (by rfl) G_law_poly_times.m G_law_poly_times.kp G_law_poly_times.b .nil pass0 (pa_cons (pv 2) (pa_cons (pv 10) pa_nil))))))
        (pss_one (ps_for PassesOwn.never rfl (pi_list (pv 11)) (pg_name (i := 13) sc_law_product_drawn.nd rfl (.inr rfl))
          (pss_one (ps_if (pt_not (pt_val (pe_callB (cr_any rfl) (by rfl) M.any (by decide +kernel) (pa_cons (pe_lc (own := [("other", 14)]) (g := gName 14) (by rfl) sc_law_product_drawn.nd (pi_list (pv 3)) (blkOk_by (own := [("other", 14)]) (N := N_law_product_drawn) (sc := defScope s_law_product_drawn) (by decide +kernel)) (fun _ _ _ _ _ => pg_name (i := 14) sc_law_product_drawn.nd rfl (Or.inl rfl)) (fun _ _ _ _ _ => pts_nil) (fun _ _ _ _ _ => (pe_call G_law_same_root.ok hr (by rfl) G_law_same_root.m G_law_same_root.kp G_law_same_root.b .nil pass0 (pa_cons (pv 13) (pa_cons (pv 14) pa_nil))))) pa_nil))))
            (pss_one (ps_expr (pe_bm PySem.F.plainAttrs_list PySem.F.slot_list_append PySem.F.type_list_append mt_append (pv 3) (pa_cons (pv 13) pa_nil))))
            pss_nil)))))
        pss_nil)))))))))
    (pss_one (ps_ret (pe_tup (pa_cons (pe_callTy call_tuple_of (by rfl) M.tuple (by decide +kernel) (pa_cons (pv 2) pa_nil)) (pa_cons (pv 3) pa_nil)))))))), ?_⟩
  have lg : ∀ n : Int, n.natAbs < 2 ^ 30 → n.natAbs.log2 < 9000 := fun n h => log_small h (by decide) (by decide)
  -- row
  refine ⟨_, rfl, _, rfl, _, rfl, (by show 6 ≤ sizeLine; decide), fun l0 nl0 => ?_⟩
  have S0 := same_new nl0 (.lst [V.int (-3), .int (-2), .int (-1), .int 1, .int 2, .int 5])
  refine ⟨_, rfl, p, a, ns, _, rfl, hX.same S0, hS.but (.of S0), by decide, lg _ (by decide), fun d1 H1 d10 d11 X1 b1 => ?_⟩
  have l0p : l0 ≠ p := hX.ne nl0
  have el0 := b1 _ _ l0p (upd_same (H := H) (a := l0) (o := .lst [V.int (-3), .int (-2), .int (-1), .int 1, .int 2, .int 5]))
  have B1 : But p H H1 := (But.of S0).trans b1
  refine ⟨l0, _, _, _, rfl, rfl, SqL.of el0, map_atI (row := [-3, -2, -1, 1, 2, 5]) d10 (by show d1 < 6; omega), (by show 1 ≤ sizeLine; decide), fun er ner => ?_⟩
  obtain ⟨c, hc⟩ : ∃ c, co [-3, -2, -1, 1, 2, 5] d1.toNat = c := ⟨_, rfl⟩
  have cm : c ∈ ([-3, -2, -1, 1, 2, 5] : List Int) := by rw [← hc]; exact co_mem (by show d1.toNat < 6; omega)
  rw [hc]
  have rok : RowOk [c] := by
    simp only [List.mem_cons, List.not_mem_nil, or_false] at cm
    exact RowOk.start (by omega) (by omega)
  have S2 := same_new ner (.lst [V.int c])
  have erp : er ≠ p := X1.ne ner
  -- roots
  refine ⟨Nat.zero_le _, fun ro nro => ?_⟩
  have S3 := same_new nro (.lst [])
  have X3 := X1.same (S2.trans S3)
  have B3 : But p H _ := B1.trans (.of (S2.trans S3))
  have rop : ro ≠ p := (X1.same S2).ne nro
  have ero : er ≠ ro := fun z => by rw [← z, upd_same] at nro; cases nro
  have nroH : H ro = none := by
    cases e : H ro with
    | none => rfl
    | some o =>
      have := S2 _ _ (B1 _ _ rop e)
      rw [nro] at this; cases this
  -- the loop
  refine ⟨_, rfl, _, rfl, _, _, rfl, rfl, p, a, ns, _, rfl, X3, hS.but B3, by decide, lg _ (by decide), fun dn H4 dn0 dn3 X4 b4 => ?_⟩
  have er4 := b4 _ _ erp (S3 _ _ (upd_same (H := H1) (a := er) (o := .lst [V.int c])))
  have ro4 := b4 _ _ rop (upd_same (H := upd H1 er (.lst [V.int c])) (a := ro) (o := .lst []))
  have dn3' : dn < 3 := dn3
  refine ⟨dn, rfl, by omega, by omega, for_range (lo := 0) (n := dn.toNat) (fun k σ H' => ∃ (er : Addr) (y4 y5 y6 y7 y8 y9 y10 y11 y12 y13 : Option V), σ = [some (.ref p), some (.int 2), some (.ref er), some (.ref ro), y4, y5, y6, y7, y8, y9, y10, y11, y12, y13, none] ∧ PInv H p a ns k er ro H')
    ⟨er, none, none, none, none, none, none, none, none, none, none, rfl, [c], [], X4, B3.trans b4, er4, rok, ro4, (fun v h => by cases h), Nat.le_refl _, nroH, rop, erp, ero⟩ (fun k σ H' hk hP => ?_) (fun σ H' hP => ?_)⟩
  · obtain ⟨er, y4, y5, y6, y7, y8, y9, y10, y11, y12, y13, rfl, I⟩ := hP
    obtain ⟨row, rs, X, B, her, hrow, hro, hrs, hl, nro, rop, erp, ero⟩ := I
    -- kind, a, e, times
    refine ⟨_, rfl, p, a, ns, _, rfl, X, hS.but B, by decide, lg _ (by decide), fun kd H5 kd0 kd4 X5 b5 => ?_⟩
    have B5 := B.trans b5
    refine ⟨_, rfl, p, a, ns, _, rfl, X5, hS.but B5, by decide, lg _ (by decide), fun da H6 da0 da41 X6 b6 => ?_⟩
    have B6 := B5.trans b6
    refine ⟨_, _, rfl, rfl, ?_⟩
    refine ⟨_, rfl, p, a, ns, _, rfl, X6, hS.but B6, by decide, lg _ (by decide), fun de H7 de0 de4 X7 b7 => ?_⟩
    have B7 := B6.trans b7
    refine ⟨_, _, rfl, rfl, ?_⟩
    refine ⟨_, rfl, p, a, ns, _, rfl, X7, hS.but B7, by decide, lg _ (by decide), fun dt H8 dt0 dt5 X8 b8 => ?_⟩
    have B8 := B7.trans b8
    refine ⟨rfl, .inr ⟨_, rfl, ?_⟩⟩
    refine ⟨_, _, rfl, rfl, ?_⟩
    obtain ⟨av, hav⟩ : ∃ av : Int, da - 20 = av := ⟨_, rfl⟩
    obtain ⟨ev, hev⟩ : ∃ ev : Int, 1 + de = ev := ⟨_, rfl⟩
    obtain ⟨tv, htv⟩ : ∃ tv : Int, 1 + (if decide (V.int dt = V.int 1) = true then 1 else 0) = tv := ⟨_, rfl⟩
    have tv12 : tv = 1 ∨ tv = 2 := by rw [← htv]; split <;> simp
    rw [show (fun (i j : Int) => V.int (i - j)) da 20 = V.int av from congrArg V.int hav, show (fun (i j : Int) => V.int (i + j)) 1 de = V.int ev from congrArg V.int hev, show (fun (i j : Int) => V.int (i + j)) 1 (if decide (V.int dt = V.int 1) = true then 1 else 0) = V.int tv from congrArg V.int htv]
    have avb : av.natAbs ≤ 20 := by omega
    have evb : 0 < ev ∧ ev ≤ 4 := by omega
    have avs : av.natAbs < 2 ^ 20 := by omega
    have evs : ev.natAbs < 2 ^ 20 := by omega
    -- m
    refine ⟨(by show 8 ≤ sizeLine; decide), fun lm nlm => ?_⟩
    have Sm := same_new nlm (.lst [V.int 2, .int 3, .int 5, .int 6, .int 7, .int 10, .int 11, .int 13])
    refine ⟨_, rfl, p, a, ns, _, rfl, X8.same Sm, hS.but (B8.trans (.of Sm)), by decide, lg _ (by decide), fun dm H9 dm0 dm8 X9 b9 => ?_⟩
    have elm := b9 _ _ (X8.ne nlm) (upd_same (H := H8) (a := lm) (o := .lst [V.int 2, .int 3, .int 5, .int 6, .int 7, .int 10, .int 11, .int 13]))
    refine ⟨lm, _, _, _, rfl, rfl, SqL.of elm, map_atI (row := [2, 3, 5, 6, 7, 10, 11, 13]) dm0 (by show dm < 8; omega), ?_⟩
    obtain ⟨mv, hmv⟩ : ∃ mv, co [2, 3, 5, 6, 7, 10, 11, 13] dm.toNat = mv := ⟨_, rfl⟩
    have mvm : mv ∈ ([2, 3, 5, 6, 7, 10, 11, 13] : List Int) := by rw [← hmv]; exact co_mem (by show dm.toNat < 8; omega)
    rw [hmv]
    have mvb : 2 ≤ mv ∧ mv ≤ 13 := by
      simp only [List.mem_cons, List.not_mem_nil, or_false] at mvm
      omega
    have bb : But p H' H9 := b5.trans (b6.trans (b7.trans (b8.trans ((But.of Sm).trans b9))))
    have I9 : PInv H p a ns k er ro H9 := PInv.but ⟨row, rs, X, B, her, hrow, hro, hrs, hl, nro, rop, erp, ero⟩ X9 bb
    have sqb := sq_le avb
    have c1 : CMulW av av := wide_mul avs avs (by decide) (by decide) (by decide)
    have c2 : CMulW 2 av := wide_mul (a := 3) (by decide) avs (by decide) (by decide) (by decide)
    have c3 : CMulW (2 * av) ev := wide_mul (a := 21) (by omega) evs (by decide) (by decide) (by decide)
    have c4 : CMulW ev ev := wide_mul evs evs (by decide) (by decide) (by decide)
    -- the factor and its roots
    refine ⟨_, rfl, _, _, rfl, rfl, _, rfl, ite2 (fun t1 => ?br1) (fun t1 => ⟨_, rfl, rfl, _, rfl, ite2 (fun t2 => ?br2) (fun t2 => ?br3)⟩)⟩
    case' br1 =>
      refine ⟨_, rfl, _, _, rfl, rfl, _, rfl, (by show 2 ≤ sizeLine; decide), fun ef nef => ?_⟩
      refine ⟨_, rfl, _, rfl, (by show 4 ≤ sizeLine; decide), fun q1 nq1 => ⟨(by show 1 ≤ sizeLine; decide), fun eF neF => ?_⟩⟩
      have SA := same_new nef (.lst [V.int (0 - av), .int ev])
      have SB := same_new nq1 (.tup [V.int av, .int 0, .int 2, .int ev])
      have SC := same_new neF (.lst [V.ref q1])
      have SS := SA.trans (SB.trans SC)
      have eFr : eF ≠ ro := Ne.symm (ne_of_none ((SA.trans SB) _ _ (bb _ _ rop hro)) neF)
      obtain ⟨fac, hfac⟩ : ∃ fac : List Int, fac = [0 - av, ev] := ⟨_, rfl⟩
      obtain ⟨fs, hfs⟩ : ∃ fs : List V, fs = [V.ref q1] := ⟨_, rfl⟩
      have facok : FacOk fac := by rw [hfac]; exact FacOk.lin avb evb.1 evb.2
      have lfs : fs.length ≤ 2 := by rw [hfs]; simp
      have hef := (SB.trans SC) ef (.lst (fac.map V.int)) (by rw [hfac]; exact upd_same)
      have rfs : ∀ v ∈ fs, Rt (upd (upd (upd H9 ef (.lst [V.int (0 - av), .int ev])) q1 (.tup [V.int av, .int 0, .int 2, .int ev])) eF (.lst [V.ref q1])) v := fun v hv => by
        rw [hfs] at hv
        rw [List.mem_singleton.mp hv]
        exact ⟨q1, _, _, _, _, rfl, SC _ _ upd_same, avs, evs⟩
    case' br2 =>
      refine ⟨_, rfl, _, rfl, _, _, rfl, rfl, c1, _, rfl, _, _, rfl, rfl, _, rfl, _, _, rfl, rfl, c2, _, rfl, _, _, rfl, rfl, c3, _, _, rfl, rfl, _, rfl, _, rfl, _, _, rfl, rfl, c4, (by show 3 ≤ sizeLine; decide), fun ef nef => ?_⟩
      refine ⟨_, rfl, _, rfl, _, rfl, _, rfl, (by show 4 ≤ sizeLine; decide), fun q1 nq1 => ⟨_, rfl, _, rfl, _, rfl, (by show 4 ≤ sizeLine; decide), fun q2 nq2 => ⟨(by show 2 ≤ sizeLine; decide), fun eF neF => ?_⟩⟩⟩
      have SA := same_new nef (.lst [V.int (av * av - mv), .int (0 - 2 * av * ev), .int (ev * ev)])
      have SB1 := same_new nq1 (.tup [V.int av, .int (-1), .int mv, .int ev])
      have SB2 := same_new nq2 (.tup [V.int av, .int 1, .int mv, .int ev])
      have SB := SB1.trans SB2
      have SC := same_new neF (.lst [V.ref q1, V.ref q2])
      have SS := SA.trans (SB.trans SC)
      have eFr : eF ≠ ro := Ne.symm (ne_of_none ((SA.trans SB) _ _ (bb _ _ rop hro)) neF)
      obtain ⟨fac, hfac⟩ : ∃ fac : List Int, fac = [av * av - mv, 0 - 2 * av * ev, ev * ev] := ⟨_, rfl⟩
      obtain ⟨fs, hfs⟩ : ∃ fs : List V, fs = [V.ref q1, V.ref q2] := ⟨_, rfl⟩
      have facok : FacOk fac := by rw [hfac]; exact FacOk.quad avb evb.1 evb.2 (by omega)
      have lfs : fs.length ≤ 2 := by rw [hfs]; simp
      have hef := (SB.trans SC) ef (.lst (fac.map V.int)) (by rw [hfac]; exact upd_same)
      have rfs : ∀ v ∈ fs, Rt (upd (upd (upd (upd H9 ef (.lst [V.int (av * av - mv), .int (0 - 2 * av * ev), .int (ev * ev)])) q1 (.tup [V.int av, .int (-1), .int mv, .int ev])) q2 (.tup [V.int av, .int 1, .int mv, .int ev])) eF (.lst [V.ref q1, V.ref q2])) v := fun v hv => by
        rw [hfs] at hv
        rcases List.mem_cons.mp hv with rfl | hv
        · exact ⟨q1, _, _, _, _, rfl, (SB2.trans SC) _ _ upd_same, avs, evs⟩
        · rw [List.mem_singleton.mp hv]
          exact ⟨q2, _, _, _, _, rfl, SC _ _ upd_same, avs, evs⟩
    case' br3 =>
      refine ⟨_, rfl, _, rfl, _, _, rfl, rfl, c1, _, rfl, _, _, rfl, rfl, _, rfl, _, _, rfl, rfl, c2, _, rfl, _, _, rfl, rfl, c3, _, _, rfl, rfl, _, rfl, _, rfl, _, _, rfl, rfl, c4, (by show 3 ≤ sizeLine; decide), fun ef nef => ?_⟩
      refine ⟨Nat.zero_le _, fun eF neF => ?_⟩
      have SA := same_new nef (.lst [V.int (av * av + mv), .int (0 - 2 * av * ev), .int (ev * ev)])
      have SC := same_new neF (.lst [])
      have SS := SA.trans SC
      have eFr : eF ≠ ro := Ne.symm (ne_of_none (SA _ _ (bb _ _ rop hro)) neF)
      obtain ⟨fac, hfac⟩ : ∃ fac : List Int, fac = [av * av + mv, 0 - 2 * av * ev, ev * ev] := ⟨_, rfl⟩
      obtain ⟨fs, hfs⟩ : ∃ fs : List V, fs = [] := ⟨_, rfl⟩
      have facok : FacOk fac := by rw [hfac]; exact FacOk.quad avb evb.1 evb.2 (by omega)
      have lfs : fs.length ≤ 2 := by rw [hfs]; simp
      have hef := SC ef (.lst (fac.map V.int)) (by rw [hfac]; exact upd_same)
      have rfs : ∀ v ∈ fs, Rt (upd (upd H9 ef (.lst [V.int (av * av + mv), .int (0 - 2 * av * ev), .int (ev * ev)])) eF (.lst [])) v := fun v hv => by
        rw [hfs] at hv
        cases hv
    all_goals
      clear her hro hrs hrow
      obtain ⟨row, rs, X10, B10, her, hrow, hro, hrs, hl, nro, rop, erp, ero⟩ := PInv.but I9 (X9.same SS) (.of SS)
      have lrow : (row.map V.int).length = row.length := List.length_map _
      have lfac : (fac.map V.int).length = fac.length := List.length_map _
      have r9 := hrow.len
      have rp := hrow.nm.pos
      have fl := facok.len
      refine ⟨_, rfl, er, _, rfl, .inl (SqL.of her), _, _, rfl, rfl, _, rfl, _, rfl, ef, _, rfl, .inl (SqL.of hef), _, _, rfl, rfl, _, _, rfl, rfl, wide_mul (a := 3) (b := 30) (by omega) (by omega) (by decide) (by decide) (by decide), _, _, rfl, rfl, _, _, rfl, rfl, _, rfl, ite2 (fun t3 => ?_) (fun t3 => ?_)⟩
      · have t4 : (row.length : Int) - 1 + tv * ((fac.length : Int) - 1) ≤ 8 := by
          have : ((((row.map V.int).length : Nat) : Int) - 1) + tv * ((((fac.map V.int).length : Nat) : Int) - 1) ≤ 8 := of_decide_eq_true t3
          rwa [lrow, lfac] at this
        -- row = row * factor, times
        refine ⟨_, rfl, ?_⟩
        refine ⟨_, rfl, (by omega), (by omega), for_range (lo := 0) (n := tv.toNat) (fun j σ H' => ∃ (er : Addr) (row' : List Int) (y12 : Option V), σ = [some (.ref p), some (.int 2), some (.ref er), some (.ref ro), some (.int (0 + (k : Nat))), some (.int kd), some (.int av), some (.int ev), some (.int tv), some (.int mv), some (.ref ef), some (.ref eF), y12, y13, none] ∧ StX H' p a ns ∧ But p H H' ∧ H' er = some (.lst (row'.map V.int)) ∧ RowOk row' ∧ row'.length = row.length + j * (fac.length - 1) ∧ H' ro = some (.lst rs) ∧ (∀ v ∈ rs, Rt H' v) ∧ H' ef = some (.lst (fac.map V.int)) ∧ H' eF = some (.lst fs) ∧ (∀ v ∈ fs, Rt H' v) ∧ er ≠ p ∧ er ≠ ro)
          ⟨er, row, y12, rfl, X10, B10, her, hrow, by omega, hro, hrs, hef, upd_same.trans (by rw [hfs]), rfs, erp, ero⟩ (fun j σ H' hj hP => ?_) (fun σ H' hP => ?_)⟩
        · obtain ⟨er, row', y12, rfl, X11, B11, her, hrow', lr', hro, hrs, hef, heF, rfs, erp, ero⟩ := hP
          have rp' := hrow'.nm.pos
          have fp := facok.nm.pos
          have l9 : row'.length + (fac.length - 1) ≤ 9 := by
            have h1 : (j : Int) + 1 ≤ tv := by omega
            have h2 : ((j : Int) + 1) * ((fac.length : Int) - 1) ≤ tv * ((fac.length : Int) - 1) := Int.mul_le_mul_of_nonneg_right h1 (by omega)
            have h3 : ((j * (fac.length - 1) : Nat) : Int) = (j : Int) * ((fac.length : Int) - 1) := by
              rw [Int.natCast_mul, Int.natCast_sub (by omega)]; rfl
            have h4 : ((j : Int) + 1) * ((fac.length : Int) - 1) = (j : Int) * ((fac.length : Int) - 1) + ((fac.length : Int) - 1) := by rw [Int.add_mul, Int.one_mul]
            omega
          have z42 : 2 ^ 42 < 2 ^ 10000 := Nat.pow_lt_pow_right (by decide) (by decide)
          have fl := facok.len
          refine ⟨_, rfl, _, rfl, er, ef, row', fac, 2 ^ 42, 2 ^ 42, rfl, .inl (SqL.of her), .inl (SqL.of hef), rp', fp, by omega, by omega, hrow'.bd, facok.bd, z42, z42, fun H12 r f S12 nr erf lf vf => ?_⟩
          refine ⟨r, f, _, rfl, X11.same S12, B11.trans (.of S12), erf, hrow'.mul facok vf lf (by omega), ?_, S12 _ _ hro, fun v hv => (hrs v hv).same S12, S12 _ _ hef, S12 _ _ heF, fun v hv => (rfs v hv).same S12, X11.ne nr, fun z => by rw [z, hro] at nr; cases nr⟩
          rw [lf, lr', Nat.add_mul, Nat.one_mul]; omega
        · obtain ⟨er, row', y12, rfl, X11, B11, her, hrow', lr', hro, hrs, hef, heF, rfs, erp, ero⟩ := hP
          -- the roots that are new
          refine ⟨_, rfl, eF, rfl, ⟨_, SqL.of heF⟩, for_list (xs := fs) (fun j σ H' => ∃ (rs : List V) (y13 : Option V), σ = [some (.ref p), some (.int 2), some (.ref er), some (.ref ro), some (.int (0 + (k : Nat))), some (.int kd), some (.int av), some (.int ev), some (.int tv), some (.int mv), some (.ref ef), some (.ref eF), y12, y13, none] ∧ StX H' p a ns ∧ But p H H' ∧ H' er = some (.lst (row'.map V.int)) ∧ H' ro = some (.lst rs) ∧ (∀ v ∈ rs, Rt H' v) ∧ H' eF = some (.lst fs) ∧ (∀ v ∈ fs, Rt H' v) ∧ rs.length ≤ 2 * k + j)
            ⟨rs, y13, rfl, X11, B11, her, hro, hrs, heF, rfs, by omega⟩ (fun j σ H' _ hP => by obtain ⟨_, _, _, _, _, _, _, _, h, _⟩ := hP; exact SqL.of h) (fun j x σ H' hx hP => ?_) (fun σ H' hP => ?_)⟩
          · obtain ⟨rs, y13, rfl, X13, B13, her, hro, hrs, heF, rfs, hl⟩ := hP
            have jl : j < fs.length := (List.getElem?_eq_some_iff.mp hx).1
            have xr : Rt H' x := rfs x (List.mem_of_getElem? hx)
            have dnk : k < 3 := by omega
            refine ⟨_, rfl, ro, rfl, ⟨_, SqL.of hro⟩, fun D nD => comp_listS (xs := rs) (fun y => ∃ b, y = V.bl b) (SqL.of hro) nD (by omega) (fun i z H2 Nx hz sm hn => ?_) (fun H2 ys sm e l r => ?_)⟩
            · exact ⟨rfl, _, rfl, _, rfl, x, z, rfl, xr.same sm, (hrs z (List.mem_of_getElem? hz)).same sm, fun H3 b s3 => hn _ _ s3 ⟨b, rfl⟩⟩
            · obtain ⟨bs, rfl⟩ := bools ys r
              have hro2 := sm _ _ hro
              refine ⟨D, bs, rfl, SqL.of e, _, rfl, ite2 (fun c => ?_) (fun c => ?_)⟩
              · refine ⟨_, rfl, .inl ⟨rfl, _, .inl (.inl hro2)⟩, x, rfl, ro, _, _, rfl, rfl, hro2, small1000 (by omega), ?_⟩
                refine ⟨rs ++ [x], _, rfl, (X13.same sm).but (upd_ne (Ne.symm rop)), fun b o nb h => ?_, ?_, upd_same, fun v hv => ?_, ?_, fun v hv => ((rfs v hv).same sm).put hro2, by rw [List.length_append, List.length_singleton]; omega⟩
                · rw [upd_ne (ne_of_none h nro)]; exact (B13.trans (.of sm)) b o nb h
                · rw [upd_ne ero]; exact sm _ _ her
                · rcases List.mem_append.mp hv with hv | hv
                  · exact ((hrs v hv).same sm).put hro2
                  · rw [List.mem_singleton.mp hv]; exact (xr.same sm).put hro2
                · rw [upd_ne eFr]; exact sm _ _ heF
              · exact ⟨rs, _, rfl, X13.same sm, B13.trans (.of sm), sm _ _ her, hro2, fun v hv => (hrs v hv).same sm, sm _ _ heF, fun v hv => (rfs v hv).same sm, by omega⟩
          · obtain ⟨rs, y13, rfl, X13, B13, her, hro, hrs, heF, rfs, hl⟩ := hP
            exact ⟨er, _, _, _, _, _, _, _, _, _, _, rfl, row', rs, X13, B13, her, hrow', hro, hrs, by omega, nro, rop, erp, ero⟩
      · exact ⟨er, _, _, _, _, _, _, _, _, _, _, rfl, row, rs, X10, B10, her, hrow, hro, hrs, by omega, nro, rop, erp, ero⟩
  · obtain ⟨er, y4, y5, y6, y7, y8, y9, y10, y11, y12, y13, rfl, I⟩ := hP
    obtain ⟨row, rs, X, B, her, hrow, hro, hrs, hl, nro, rop, erp, ero⟩ := I
    refine ⟨_, rfl, er, _, rfl, .inl ⟨SqL.of her, fun tr ntr => ?_⟩⟩
    have S1 := same_new ntr (.tup (row.map V.int))
    refine ⟨_, rfl, (by show 2 ≤ sizeLine; decide), fun T nT => ?_⟩
    have S2 := same_new nT (.tup [.ref tr, .ref ro])
    exact fin _ T tr ro row (X.same (S1.trans S2)) (B.trans (.of (S1.trans S2))) upd_same (S2 _ _ upd_same) hrow
end
end KW

namespace KW
open PySem PySem.Spec PyProof.Rows L2 KP
abbrev slaw : Stmt := topS 18
abbrev Nlaw : List Str := ["script", "state", "shared", "spare", "one", "other", "first", "second", "told"]
theorem sclaw : FnScope Nlaw ["script"] (defScope slaw) := ⟨rfl, rfl, rfl, by decide +kernel, rfl, by decide +kernel, by decide +kernel⟩
theorem st_law (x : V) : start Nlaw [x] = [some x, none, none, none, none, none, none, none, none] := rfl
section
variable {P : Program} {w : World} {K : PySem.W.Frag} {mg : Str → Option Value} {base : Heap}
def splaw (K : PySem.W.Frag) : Sp := fun vs H Q _ => ∃ (a : Addr) (ns : List Int), vs = [.ref a] ∧ SqL K H a (ns.map V.int) ∧ ns.length ≤ 63 ∧ ∀ H', Q (.bl true) H'
set_option maxHeartbeats 8000000 in
theorem oklaw {f : Addr} {fd : FuncData} {k : Nat} (F : Fun K "law" "law" slaw f fd) (M : Names mg) (G_law_state : Cal P w K mg base k "_law_state" ["script"] (sp_law_state K)) (G_law_is_long_right : Cal P w K mg base k "_law_is_long_right" ["state"] (sp_law_is_long_right K))
    (G_law_product_drawn : Cal P w K mg base k "_law_product_drawn" ["state", "most"] (sp_law_product_drawn K)) (G_law_poly_times : Cal P w K mg base k "_law_poly_times" ["one", "other"] (sp_law_poly_times K)) (Gdivisor : Cal P w K mg base k "divisor" ["one", "other"] (spdivisor K))
    (G_law_shared : Cal P w K mg base k "_law_shared" ["one", "other"] (sp_law_shared K)) (G_law_primitive : Cal P w K mg base k "_law_primitive" ["row"] (sp_law_primitive K)) (G_law_rest : Cal P w K mg base k "_law_rest" ["one", "other"] (sp_law_rest K)) : FnOk P w K mg base CX0 (k + 1) f fd ["script"] (splaw K) := by
  refine F.ok sclaw (fun vs H Q E h => ?_) (fun cdv A outer s H vs Q E hr h => ?_)
  · obtain ⟨a, ns, rfl, _⟩ := h
    rfl
  obtain ⟨a, ns, rfl, hS, h63, fin⟩ := h
  refine ⟨_, (pss_cons (ps_set (i := 1) sclaw.nd rfl (.inl rfl) (pe_call G_law_state.ok hr (by rfl) G_law_state.m G_law_state.kp G_law_state.b .nil pass0 (pa_cons (pv 0) pa_nil)))
    (pss_cons (ps_if (pt_not (pt_val (pe_call G_law_is_long_right.ok hr (by rfl) G_law_is_long_right.m G_law_is_long_right.kp G_law_is_long_right.b .nil pass0 (pa_cons (pv 1) pa_nil))))
      (pss_one (ps_ret pe_bl))
      pss_nil)
    (pss_cons (ps_asg (pe_call G_law_product_drawn.ok hr (by rfl) G_law_product_drawn.m G_law_product_drawn.kp G_law_product_drawn.b .nil pass0 (pa_cons (pv 1) (pa_cons pe_int pa_nil))) (pg_tup rfl (pgs_cons (pg_name (i := 2) sclaw.nd rfl (.inl rfl)) (pgs_cons (pg_name (i := 3) sclaw.nd rfl (.inl rfl)) pgs_nil))))
    (pss_cons (ps_asg (pe_call G_law_product_drawn.ok hr (by rfl) G_law_product_drawn.m G_law_product_drawn.kp G_law_product_drawn.b .nil pass0 (pa_cons (pv 1) (pa_cons pe_int pa_nil))) (pg_tup rfl (pgs_cons (pg_name (i := 4) sclaw.nd rfl (.inl rfl)) (pgs_cons (pg_name (i := 3) sclaw.nd rfl (.inl rfl)) pgs_nil))))
    (pss_cons (ps_asg (pe_call G_law_product_drawn.ok hr (by rfl) G_law_product_drawn.m G_law_product_drawn.kp G_law_product_drawn.b .nil pass0 (pa_cons (pv 1) (pa_cons pe_int pa_nil))) (pg_tup rfl (pgs_cons (pg_name (i := 5) sclaw.nd rfl (.inl rfl)) (pgs_cons (pg_name (i := 3) sclaw.nd rfl (.inl rfl)) pgs_nil))))
    (pss_cons (ps_set (i := 6) sclaw.nd rfl (.inl rfl) (pe_callTy call_tuple_of (by rfl) M.tuple (by decide +kernel) (pa_cons (pe_call G_law_poly_times.ok hr (by rfl) G_law_poly_times.m G_law_poly_times.kp G_law_poly_times.b .nil pass0 (pa_cons (pv 2) (pa_cons (pv 4) pa_nil))) pa_nil)))
    (pss_cons (ps_set (i := 7) sclaw.nd rfl (.inl rfl) (pe_callTy call_tuple_of (by rfl) M.tuple (by decide +kernel) (pa_cons (pe_call G_law_poly_times.ok hr (by rfl) G_law_poly_times.m G_law_poly_times.kp G_law_poly_times.b .nil pass0 (pa_cons (pv 2) (pa_cons (pv 5) pa_nil))) pa_nil)))
    (pss_cons (ps_if (PW.pt (pw_or (pt_cmpR op_gt (pe_callB call_len_seq (by rfl) M.len PySem.boot_len (pa_cons (pv 6) pa_nil)) pe_int (nomark _)) (pw_or1 (pt_cmpR op_gt (pe_callB call_len_seq (by rfl) M.len PySem.boot_len (pa_cons (pv 7) pa_nil)) pe_int (nomark _)))))
      (pss_cons (ps_set (i := 6) sclaw.nd rfl (.inl rfl) (pv 4))
      (pss_cons (ps_set (i := 7) sclaw.nd rfl (.inl rfl) (pv 5))
      (pss_one (ps_set (i := 2) sclaw.nd rfl (.inl rfl) (pe_tup (pa_cons pe_int pa_nil))))))
      pss_nil)
    (pss_cons (ps_set (i := 8) sclaw.nd rfl (.inl rfl) (pe_call Gdivisor.ok hr (by rfl) Gdivisor.m Gdivisor.kp Gdivisor.b .nil pass0 (pa_cons (pv 6) (pa_cons (pv 7) pa_nil))))
    (pss_cons (ps_if (PW.pt (pw_or (pt_not (pt_val (pe_callB call_isi (by rfl) M.isinstance (by decide +kernel) (pa_cons (pv 8) (pa_cons (pe_bltn (v := .ty "tuple") (by rfl) M.tuple (by decide +kernel) rfl) pa_nil))))) (pw_or1 (pt_cmpR (op_neD hr.units) (pv 8) (pe_call G_law_shared.ok hr (by rfl) G_law_shared.m G_law_shared.kp G_law_shared.b .nil pass0 (pa_cons (pv 6) (pa_cons (pv 7) pa_nil))) (nomark _)))))
      (pss_one (ps_ret pe_bl))
      pss_nil)
    (pss_cons (ps_if (PW.pt (pw_or (pt_cmpR op_lt (pe_ix ix_tup (pv 8) (pe_op op_sub (pe_callB call_len_seq (by rfl) M.len PySem.boot_len (pa_cons (pv 8) pa_nil)) pe_int) (fun _ _ => rfl)) pe_int (nomark _)) (pw_or1 (pt_cmpR (op_neD hr.units) (pe_call G_law_primitive.ok hr (by rfl) G_law_primitive.m G_law_primitive.kp G_law_primitive.b .nil pass0 (pa_cons (pv 8) pa_nil)) (pv 8) (nomark _)))))
      (pss_one (ps_ret pe_bl))
      pss_nil)
    (pss_one (ps_ret (pe_and (pe_cmpR (op_eqD hr.units) (pe_call G_law_rest.ok hr (by rfl) G_law_rest.m G_law_rest.kp G_law_rest.b .nil pass0 (pa_cons (pv 6) (pa_cons (pv 8) pa_nil))) (pe_lst pa_nil) (nomark _)) (pe_and (pe_cmpR (op_eqD hr.units) (pe_call G_law_rest.ok hr (by rfl) G_law_rest.m G_law_rest.kp G_law_rest.b .nil pass0 (pa_cons (pv 7) (pa_cons (pv 8) pa_nil))) (pe_lst pa_nil) (nomark _)) (pe_one (pe_cmpR (op_eqD hr.units) (pe_call G_law_rest.ok hr (by rfl) G_law_rest.m G_law_rest.kp G_law_rest.b .nil pass0 (pa_cons (pv 8) (pa_cons (pv 2) pa_nil))) (pe_lst pa_nil) (nomark _)))))))))))))))))), ?_⟩
  refine ⟨_, rfl, a, ns, rfl, hS, h63, fun H1 p s1 _ X1 O1 => ?_⟩
  refine ⟨_, rfl, p, a, ns, rfl, X1, O1, fun H2 X2 b2 => ⟨_, rfl, iteF ?_⟩⟩
  have O2 := O1.but b2
  have pt : ∀ {H : Hp} {t : Addr} {xs : List V}, StX H p a ns → H t = some (.tup xs) → t ≠ p := fun X e z => by
    obtain ⟨_, _, _, _, e2, _⟩ := X
    rw [z, e2] at e; cases e
  refine ⟨_, rfl, p, a, ns, rfl, X2, O2, fun H3 T3 ts r3 sh X3 b3 eT3 ets hsh => ⟨T3, _, rfl, SqT.of eT3, rfl, _, _, rfl, _, _, rfl, rfl, ?_⟩⟩
  refine ⟨_, rfl, p, a, ns, rfl, X3, O2.but b3, fun H4 T4 t1 r4 o1 X4 b4 eT4 et1 ho1 => ⟨T4, _, rfl, SqT.of eT4, rfl, _, _, rfl, _, _, rfl, rfl, ?_⟩⟩
  refine ⟨_, rfl, p, a, ns, rfl, X4, (O2.but b3).but b4, fun H5 T5 t2 r5 o2 X5 b5 eT5 et2 ho2 => ⟨T5, _, rfl, SqT.of eT5, rfl, _, _, rfl, _, _, rfl, rfl, ?_⟩⟩
  have ets5 := b5 _ _ (pt X3 ets) (b4 _ _ (pt X3 ets) ets)
  have et15 := b5 _ _ (pt X4 et1) et1
  have z42 : 2 ^ 42 < 2 ^ 10000 := Nat.pow_lt_pow_right (by decide) (by decide)
  have l1 := hsh.len; have l2 := ho1.len; have l3 := ho2.len
  have q1 := hsh.nm.pos; have q2 := ho1.nm.pos; have q3 := ho2.nm.pos
  -- first, second
  simp only [st_law, List.set_cons_zero, List.set_cons_succ]
  refine ⟨_, rfl, _, rfl, ts, t1, sh, o1, 2 ^ 42, 2 ^ 42, rfl, .inr (SqT.of ets5), .inr (SqT.of et15), q1, q2, by omega, by omega, hsh.bd, ho1.bd, z42, z42, fun H6 u1 f1 s6 _ e6 lf1 vf1 => ⟨u1, _, rfl, .inl ⟨SqL.of e6, fun tf ntf => ?_⟩⟩⟩
  have S7 := same_new ntf (.tup (f1.map V.int))
  have s67 := s6.trans S7
  refine ⟨_, rfl, _, rfl, ts, t2, sh, o2, 2 ^ 42, 2 ^ 42, rfl, .inr (SqT.of (s67 _ _ ets5)), .inr (SqT.of (s67 _ _ et2)), q1, q3, by omega, by omega, hsh.bd, ho2.bd, z42, z42, fun H8 u2 f2 s8 _ e8 lf2 vf2 => ⟨u2, _, rfl, .inl ⟨SqL.of e8, fun tg ntg => ?_⟩⟩⟩
  have S9 := same_new ntg (.tup (f2.map V.int))
  have s59 := s67.trans (s8.trans S9)
  have etf := (s8.trans S9) _ _ (upd_same (H := H6) (a := tf) (o := .tup (f1.map V.int)))
  have ets9 := s59 _ _ ets5
  have et19 := s59 _ _ et15
  have et29 := s59 _ _ et2
  have lm1 : (f1.map V.int).length = f1.length := List.length_map _
  have lm2 : (f2.map V.int).length = f2.length := List.length_map _
  -- what holds behind the test
  simp only [st_law, List.set_cons_zero, List.set_cons_succ]
  refine ⟨_, rfl, tf, _, rfl, .inr (SqT.of etf), _, _, rfl, rfl, _, rfl, ite2 (fun c1 => iteT ?w1) (fun c1 => ⟨_, rfl, tg, _, rfl, .inr (SqT.of upd_same), _, _, rfl, rfl, _, rfl, ite2 (fun c2 => ?w2) (fun c2 => ?w3)⟩)⟩
  case' w1 =>
    refine ⟨_, rfl, _, rfl, (by show 1 ≤ sizeLine; decide), fun tn ntn => ?_⟩
    have SN := same_new ntn (.tup [V.int 1])
    have T : Two (2 ^ 42) o1 o2 := ho1.both ho2
    obtain ⟨fa, hfa⟩ : ∃ fa : List Int, fa = o1 := ⟨_, rfl⟩
    obtain ⟨fb, hfb⟩ : ∃ fb : List Int, fb = o2 := ⟨_, rfl⟩
    obtain ⟨sc, hsc⟩ : ∃ sc : List Int, sc = [1] := ⟨_, rfl⟩
    have hA : SqT K (upd (upd H8 tg (.tup (f2.map V.int))) tn (.tup [V.int 1])) t1 (fa.map V.int) := by rw [hfa]; exact SqT.of (SN _ _ et19)
    have hB : SqT K (upd (upd H8 tg (.tup (f2.map V.int))) tn (.tup [V.int 1])) t2 (fb.map V.int) := by rw [hfb]; exact SqT.of (SN _ _ et29)
    have hC : SqT K (upd (upd H8 tg (.tup (f2.map V.int))) tn (.tup [V.int 1])) tn (sc.map V.int) := by rw [hsc]; exact SqT.of (upd_same (H := upd H8 tg (.tup (f2.map V.int))) (a := tn) (o := .tup [V.int 1]))
    rw [← hfa, ← hfb] at T
    have scok : RowOk sc := by rw [hsc]; exact RowOk.start (by decide) (by decide)
    obtain ⟨g1, v1⟩ : ∃ g1 : List Int, ∀ x, ev fa x = ev sc x * ev g1 x := ⟨fa, fun x => by rw [hsc, ev_cons, ev_nil]; grind⟩
    obtain ⟨g2, v2⟩ : ∃ g2 : List Int, ∀ x, ev fb x = ev sc x * ev g2 x := ⟨fb, fun x => by rw [hsc, ev_cons, ev_nil]; grind⟩
  case' w2 =>
    refine ⟨_, rfl, _, rfl, (by show 1 ≤ sizeLine; decide), fun tn ntn => ?_⟩
    have SN := same_new ntn (.tup [V.int 1])
    have T : Two (2 ^ 42) o1 o2 := ho1.both ho2
    obtain ⟨fa, hfa⟩ : ∃ fa : List Int, fa = o1 := ⟨_, rfl⟩
    obtain ⟨fb, hfb⟩ : ∃ fb : List Int, fb = o2 := ⟨_, rfl⟩
    obtain ⟨sc, hsc⟩ : ∃ sc : List Int, sc = [1] := ⟨_, rfl⟩
    have hA : SqT K (upd (upd H8 tg (.tup (f2.map V.int))) tn (.tup [V.int 1])) t1 (fa.map V.int) := by rw [hfa]; exact SqT.of (SN _ _ et19)
    have hB : SqT K (upd (upd H8 tg (.tup (f2.map V.int))) tn (.tup [V.int 1])) t2 (fb.map V.int) := by rw [hfb]; exact SqT.of (SN _ _ et29)
    have hC : SqT K (upd (upd H8 tg (.tup (f2.map V.int))) tn (.tup [V.int 1])) tn (sc.map V.int) := by rw [hsc]; exact SqT.of (upd_same (H := upd H8 tg (.tup (f2.map V.int))) (a := tn) (o := .tup [V.int 1]))
    rw [← hfa, ← hfb] at T
    have scok : RowOk sc := by rw [hsc]; exact RowOk.start (by decide) (by decide)
    obtain ⟨g1, v1⟩ : ∃ g1 : List Int, ∀ x, ev fa x = ev sc x * ev g1 x := ⟨fa, fun x => by rw [hsc, ev_cons, ev_nil]; grind⟩
    obtain ⟨g2, v2⟩ : ∃ g2 : List Int, ∀ x, ev fb x = ev sc x * ev g2 x := ⟨fb, fun x => by rw [hsc, ev_cons, ev_nil]; grind⟩
  case' w3 =>
    have n1 : f1.length ≤ 9 := by
      have : ¬ (9 : Int) < ((f1.map V.int).length : Nat) := of_decide_eq_false (Bool.eq_false_iff.mpr c1)
      omega
    have n2 : f2.length ≤ 9 := by
      have : ¬ (9 : Int) < ((f2.map V.int).length : Nat) := of_decide_eq_false (Bool.eq_false_iff.mpr c2)
      omega
    have T : Two (2 ^ 42) f1 f2 := RowOk.two hsh ho1 ho2 vf1 vf2 lf1 lf2 n1 n2
    obtain ⟨fa, hfa⟩ : ∃ fa : List Int, fa = f1 := ⟨_, rfl⟩
    obtain ⟨fb, hfb⟩ : ∃ fb : List Int, fb = f2 := ⟨_, rfl⟩
    obtain ⟨sc, hsc⟩ : ∃ sc : List Int, sc = sh := ⟨_, rfl⟩
    have hA : SqT K (upd H8 tg (.tup (f2.map V.int))) tf (fa.map V.int) := by rw [hfa]; exact SqT.of etf
    have hB : SqT K (upd H8 tg (.tup (f2.map V.int))) tg (fb.map V.int) := by rw [hfb]; exact SqT.of (upd_same (H := H8) (a := tg) (o := .tup (f2.map V.int)))
    have hC : SqT K (upd H8 tg (.tup (f2.map V.int))) ts (sc.map V.int) := by rw [hsc]; exact SqT.of ets9
    rw [← hfa, ← hfb] at T
    have scok : RowOk sc := by rw [hsc]; exact hsh
    obtain ⟨g1, v1⟩ : ∃ g1 : List Int, ∀ x, ev fa x = ev sc x * ev g1 x := ⟨o1, fun x => by rw [hfa, hsc]; exact vf1 x⟩
    obtain ⟨g2, v2⟩ : ∃ g2 : List Int, ∀ x, ev fb x = ev sc x * ev g2 x := ⟨o2, fun x => by rw [hfb, hsc]; exact vf2 x⟩
  all_goals
    have z25 : 2 ^ 2500 ≤ 2 ^ 8000 := Nat.pow_le_pow_right (by decide) (by decide)
    have lfa := T.lf
    have lfb := T.lg
    -- told
    simp only [List.set_cons_zero, List.set_cons_succ]
    refine ⟨_, rfl, _, rfl, _, _, fa, fb, 2 ^ 42, 9, 2 ^ 2500, rfl, hA, hB, T, by decide, sz_main, z25, by omega, fun H20 tt Tl s20 ett hG bT => ?_⟩
    have cT := hG.1
    have tp := cT.1.pos
    have hA20 := Same.seqT s20 hA
    have hB20 := Same.seqT s20 hB
    have hC20 := Same.seqT s20 hC
    obtain ⟨_, ⟨cc, uu, vv, hcc, hcx⟩, ⟨aa, zz, haa, hax⟩, ⟨bb, yy, hbb, hbx⟩⟩ := id hG
    have tlf := len_of_div T.nf cT.1 haa hax
    have tlg := len_of_div T.ng cT.1 hbb hbx
    have lTl : (Tl.map V.int).length = Tl.length := List.length_map _
    -- isinstance(told, tuple), told != ..
    simp only [List.set_cons_zero, List.set_cons_succ]
    refine ⟨_, rfl, _, _, _, _, true, rfl, .ty "tuple", .base (.tup ett), kit_ty (by decide +kernel), _, rfl, iteF ?_⟩
    refine ⟨_, rfl, _, rfl, _, rfl, _, _, fa, fb, rfl, hA20, hB20, T, fun H21 t21 T2 s21 e21 hG2 => ?_⟩
    have eT2 := hG2.unique hG
    subst eT2
    have ett21 := s21 _ _ ett
    refine ne_tups (SqT.of ett21) (SqT.of e21) ⟨_, rfl, ?_⟩
    rw [decide_eq_true rfl]
    refine iteF ?_
    -- told[len(told) - 1] < 1, _law_primitive(told) != told
    refine ⟨_, rfl, _, rfl, tt, _, rfl, .inr (SqT.of ett21), _, _, rfl, rfl, tt, _, _, _, rfl, rfl, SqT.of ett21, map_atI (by show (0 : Int) ≤ ((T2.map V.int).length : Nat) - 1; omega) (by show ((T2.map V.int).length : Nat) - 1 < (T2.length : Int); omega), ?_⟩
    rw [show ((((T2.map V.int).length : Nat) : Int) - 1).toNat = T2.length - 1 by omega]
    have pos := cT.2.2
    refine ⟨_, _, rfl, rfl, _, rfl, ?_⟩
    rw [decide_eq_false (show ¬ co T2 (T2.length - 1) < 1 by omega)]
    refine iteF ?_
    refine ⟨_, rfl, tt, T2, _, rfl, .inr (SqT.of ett21), cT.1, by omega, bT, bp_small _, fun H22 t22 s22 _ e22 => ?_⟩
    rw [canon_prm cT] at e22
    have ett22 := s22 _ _ ett21
    refine ⟨_, rfl, ne_tups (SqT.of e22) (SqT.of ett22) ⟨_, rfl, ?_⟩⟩
    rw [decide_eq_true rfl]
    refine iteF ?_
    -- the rests
    have sm22 := s20.trans (s21.trans s22)
    have hA22 := Same.seqT sm22 hA
    obtain ⟨Q1, d1, d2, d3, d4⟩ := end_first cT tlf lfa bT
    obtain ⟨Q2, d5, d6, d7, d8⟩ := end_first cT tlg lfb bT
    refine ⟨_, rfl, _, rfl, _, tt, fa, T2, 2 ^ 42, Q1, rfl, .inr hA22, .inr (SqT.of ett22), cT.1, by omega, by omega, T.bf, d1, d2, d3, d4, fun H23 t23 r1 s23 _ e23 hl1 hn1 hi1 _ => ?_⟩
    obtain ⟨c1', w1', _, h1'⟩ := hi1
    have r1n := rest_nil cT.1 haa hax h1' hl1 hn1
    subst r1n
    refine ⟨Nat.zero_le _, fun n24 hn24 => ?_⟩
    have s24 := same_new hn24 (.lst [])
    refine eq_lists (r := []) (q := []) (SqL.of (s24 _ _ e23)) (SqL.of upd_same) ⟨_, rfl, ?_⟩
    rw [decide_eq_true rfl]
    refine iteT ?_
    have sm24 := sm22.trans (s23.trans s24)
    have ett24 := (s23.trans s24) _ _ ett22
    refine ⟨_, rfl, _, rfl, _, tt, fb, T2, 2 ^ 42, Q2, rfl, .inr (Same.seqT sm24 hB), .inr (SqT.of ett24), cT.1, by omega, by omega, T.bg, d5, d6, d7, d8, fun H25 t25 r2 s25 _ e25 hl2 hn2 hi2 _ => ?_⟩
    obtain ⟨c2', w2', _, h2'⟩ := hi2
    have r2n := rest_nil cT.1 hbb hbx h2' hl2 hn2
    subst r2n
    refine ⟨Nat.zero_le _, fun n26 hn26 => ?_⟩
    have s26 := same_new hn26 (.lst [])
    refine eq_lists (r := []) (q := []) (SqL.of (s26 _ _ e25)) (SqL.of upd_same) ⟨_, rfl, ?_⟩
    rw [decide_eq_true rfl]
    refine iteT ?_
    have sm26 := sm24.trans (s25.trans s26)
    have ett26 := (s25.trans s26) _ _ ett24
    have ls := scok.len
    have sp := scok.nm.pos
    have hdiv : ∀ x, cc * ev T2 x = ev (add (mul uu g1) (mul vv g2)) x * ev sc x := fun x => by
      rw [hcx x, v1 x, v2 x, ev_add, ev_mul, ev_mul]; grind
    refine ⟨_, rfl, _, rfl, tt, _, T2, sc, _, 2 ^ 42, rfl, .inr (SqT.of ett26), .inr (Same.seqT sm26 hC), scok.nm, by omega, by omega, bT, scok.bd, Nat.pow_pos (by decide), Nat.pow_lt_pow_right (by decide) (by decide), end_last (by omega), fun H27 t27 r3 s27 _ e27 hl3 hn3 hi3 _ => ?_⟩
    obtain ⟨c3', w3', _, h3'⟩ := hi3
    have r3n := rest_nil scok.nm hcc hdiv h3' hl3 hn3
    subst r3n
    refine ⟨Nat.zero_le _, fun n28 hn28 => ?_⟩
    have s28 := same_new hn28 (.lst [])
    refine eq_lists (r := []) (q := []) (SqL.of (s28 _ _ e27)) (SqL.of upd_same) ?_
    rw [decide_eq_true rfl]
    exact fin _
end
end KW

namespace KW
open PySem PySem.Spec PyProof.Rows L2 KP
set_option maxHeartbeats 4000000 in
theorem all_mk {l : PySem.W.OpenLaw} {w : World} {K : PySem.W.Frag} {h : Heap} {mg : Str → Option Value} {fa f1 f2 f3 f4 f5 f6 f7 f8 f9 f10 f11 f12 f13 f14 f15 f16 : Addr} (X : K.In h) (G : h.Ns mainGlobals mg) (hfa : mg "law" = some (.ref fa))
    {od1 an1 od2 an2 od3 an3 od4 an4 od5 an5 od6 an6 od7 an7 od8 an8 od9 an9 od10 an10 od11 an11 od12 an12 od13 an13 od14 an14 od15 an15 od16 an16 : Option Addr} {sl1 sl2 sl3 sl4 sl5 sl6 sl7 sl8 sl9 sl10 sl11 sl12 sl13 sl14 sl15 sl16 : Array (Option Value)} {oc1 kV1 dc1 pm1 cd1 ct1 oc2 kV2 dc2 pm2 cd2 ct2 oc3 kV3 dc3 pm3 cd3 ct3 oc4 kV4 dc4 pm4 cd4 ct4 oc5 kV5 dc5 pm5 cd5 ct5 oc6 kV6 dc6 pm6 cd6 ct6 oc7 kV7 dc7 pm7 cd7 ct7 oc8 kV8 dc8 pm8 cd8 ct8 oc9 kV9 dc9 pm9 cd9 ct9 oc10 kV10 dc10 pm10 cd10 ct10 oc11 kV11 dc11 pm11 cd11 ct11 oc12 kV12 dc12 pm12 cd12 ct12 oc13 kV13 dc13 pm13 cd13 ct13 oc14 kV14 dc14 pm14 cd14 ct14 oc15 kV15 dc15 pm15 cd15 ct15 oc16 kV16 dc16 pm16 cd16 ct16 : Value}
    (a1 : PySem.W.nsIn K mainGlobals "primitive" = some (some (.ref f1))) (l1 : K.lookup f1 = some ⟨oc1, od1, .func (PySem.W.fnOf "primitive" "primitive" (defArgs sprimitive) (defBody sprimitive) (defScope sprimitive) .none kV1 dc1 pm1 an1 cd1 ct1), sl1⟩) (c1 : PySem.W.codeIn K cd1 "primitive" = true) (k1 : PySem.W.keepIn K (.ref f1) = true)
    (a2 : PySem.W.nsIn K mainGlobals "_without_zeros" = some (some (.ref f2))) (l2 : K.lookup f2 = some ⟨oc2, od2, .func (PySem.W.fnOf "_without_zeros" "_without_zeros" (defArgs s_without_zeros) (defBody s_without_zeros) (defScope s_without_zeros) .none kV2 dc2 pm2 an2 cd2 ct2), sl2⟩) (c2 : PySem.W.codeIn K cd2 "_without_zeros" = true) (k2 : PySem.W.keepIn K (.ref f2) = true)
    (a3 : PySem.W.nsIn K mainGlobals "_remainder" = some (some (.ref f3))) (l3 : K.lookup f3 = some ⟨oc3, od3, .func (PySem.W.fnOf "_remainder" "_remainder" (defArgs s_remainder) (defBody s_remainder) (defScope s_remainder) .none kV3 dc3 pm3 an3 cd3 ct3), sl3⟩) (c3 : PySem.W.codeIn K cd3 "_remainder" = true) (k3 : PySem.W.keepIn K (.ref f3) = true)
    (a4 : PySem.W.nsIn K mainGlobals "divisor" = some (some (.ref f4))) (l4 : K.lookup f4 = some ⟨oc4, od4, .func (PySem.W.fnOf "divisor" "divisor" (defArgs sdivisor) (defBody sdivisor) (defScope sdivisor) .none kV4 dc4 pm4 an4 cd4 ct4), sl4⟩) (c4 : PySem.W.codeIn K cd4 "divisor" = true) (k4 : PySem.W.keepIn K (.ref f4) = true)
    (a5 : PySem.W.nsIn K mainGlobals "_law_state" = some (some (.ref f5))) (l5 : K.lookup f5 = some ⟨oc5, od5, .func (PySem.W.fnOf "_law_state" "_law_state" (defArgs s_law_state) (defBody s_law_state) (defScope s_law_state) .none kV5 dc5 pm5 an5 cd5 ct5), sl5⟩) (c5 : PySem.W.codeIn K cd5 "_law_state" = true) (k5 : PySem.W.keepIn K (.ref f5) = true)
    (a6 : PySem.W.nsIn K mainGlobals "_law_take" = some (some (.ref f6))) (l6 : K.lookup f6 = some ⟨oc6, od6, .func (PySem.W.fnOf "_law_take" "_law_take" (defArgs s_law_take) (defBody s_law_take) (defScope s_law_take) .none kV6 dc6 pm6 an6 cd6 ct6), sl6⟩) (c6 : PySem.W.codeIn K cd6 "_law_take" = true) (k6 : PySem.W.keepIn K (.ref f6) = true)
    (a7 : PySem.W.nsIn K mainGlobals "_law_gcd" = some (some (.ref f7))) (l7 : K.lookup f7 = some ⟨oc7, od7, .func (PySem.W.fnOf "_law_gcd" "_law_gcd" (defArgs s_law_gcd) (defBody s_law_gcd) (defScope s_law_gcd) .none kV7 dc7 pm7 an7 cd7 ct7), sl7⟩) (c7 : PySem.W.codeIn K cd7 "_law_gcd" = true) (k7 : PySem.W.keepIn K (.ref f7) = true)
    (a8 : PySem.W.nsIn K mainGlobals "_law_primitive" = some (some (.ref f8))) (l8 : K.lookup f8 = some ⟨oc8, od8, .func (PySem.W.fnOf "_law_primitive" "_law_primitive" (defArgs s_law_primitive) (defBody s_law_primitive) (defScope s_law_primitive) .none kV8 dc8 pm8 an8 cd8 ct8), sl8⟩) (c8 : PySem.W.codeIn K cd8 "_law_primitive" = true) (k8 : PySem.W.keepIn K (.ref f8) = true)
    (a9 : PySem.W.nsIn K mainGlobals "_law_poly_times" = some (some (.ref f9))) (l9 : K.lookup f9 = some ⟨oc9, od9, .func (PySem.W.fnOf "_law_poly_times" "_law_poly_times" (defArgs s_law_poly_times) (defBody s_law_poly_times) (defScope s_law_poly_times) .none kV9 dc9 pm9 an9 cd9 ct9), sl9⟩) (c9 : PySem.W.codeIn K cd9 "_law_poly_times" = true) (k9 : PySem.W.keepIn K (.ref f9) = true)
    (a10 : PySem.W.nsIn K mainGlobals "_law_product_drawn" = some (some (.ref f10))) (l10 : K.lookup f10 = some ⟨oc10, od10, .func (PySem.W.fnOf "_law_product_drawn" "_law_product_drawn" (defArgs s_law_product_drawn) (defBody s_law_product_drawn) (defScope s_law_product_drawn) .none kV10 dc10 pm10 an10 cd10 ct10), sl10⟩) (c10 : PySem.W.codeIn K cd10 "_law_product_drawn" = true) (k10 : PySem.W.keepIn K (.ref f10) = true)
    (a11 : PySem.W.nsIn K mainGlobals "_law_same_root" = some (some (.ref f11))) (l11 : K.lookup f11 = some ⟨oc11, od11, .func (PySem.W.fnOf "_law_same_root" "_law_same_root" (defArgs s_law_same_root) (defBody s_law_same_root) (defScope s_law_same_root) .none kV11 dc11 pm11 an11 cd11 ct11), sl11⟩) (c11 : PySem.W.codeIn K cd11 "_law_same_root" = true) (k11 : PySem.W.keepIn K (.ref f11) = true)
    (a12 : PySem.W.nsIn K mainGlobals "_law_great" = some (some (.ref f12))) (l12 : K.lookup f12 = some ⟨oc12, od12, .func (PySem.W.fnOf "_law_great" "_law_great" (defArgs s_law_great) (defBody s_law_great) (defScope s_law_great) .none kV12 dc12 pm12 an12 cd12 ct12), sl12⟩) (c12 : PySem.W.codeIn K cd12 "_law_great" = true) (k12 : PySem.W.keepIn K (.ref f12) = true)
    (a13 : PySem.W.nsIn K mainGlobals "_law_rest" = some (some (.ref f13))) (l13 : K.lookup f13 = some ⟨oc13, od13, .func (PySem.W.fnOf "_law_rest" "_law_rest" (defArgs s_law_rest) (defBody s_law_rest) (defScope s_law_rest) .none kV13 dc13 pm13 an13 cd13 ct13), sl13⟩) (c13 : PySem.W.codeIn K cd13 "_law_rest" = true) (k13 : PySem.W.keepIn K (.ref f13) = true)
    (a14 : PySem.W.nsIn K mainGlobals "_law_shared" = some (some (.ref f14))) (l14 : K.lookup f14 = some ⟨oc14, od14, .func (PySem.W.fnOf "_law_shared" "_law_shared" (defArgs s_law_shared) (defBody s_law_shared) (defScope s_law_shared) .none kV14 dc14 pm14 an14 cd14 ct14), sl14⟩) (c14 : PySem.W.codeIn K cd14 "_law_shared" = true) (k14 : PySem.W.keepIn K (.ref f14) = true)
    (a15 : PySem.W.nsIn K mainGlobals "_law_is_long_right" = some (some (.ref f15))) (l15 : K.lookup f15 = some ⟨oc15, od15, .func (PySem.W.fnOf "_law_is_long_right" "_law_is_long_right" (defArgs s_law_is_long_right) (defBody s_law_is_long_right) (defScope s_law_is_long_right) .none kV15 dc15 pm15 an15 cd15 ct15), sl15⟩) (c15 : PySem.W.codeIn K cd15 "_law_is_long_right" = true) (k15 : PySem.W.keepIn K (.ref f15) = true)
    (a16 : PySem.W.nsIn K mainGlobals "law" = some (some (.ref f16))) (l16 : K.lookup f16 = some ⟨oc16, od16, .func (PySem.W.fnOf "law" "law" (defArgs slaw) (defBody slaw) (defScope slaw) .none kV16 dc16 pm16 an16 cd16 ct16), sl16⟩) (c16 : PySem.W.codeIn K cd16 "law" = true) (k16 : PySem.W.keepIn K (.ref f16) = true)
    (z1 : PySem.W.nsIn K mainGlobals "len" = some none)
    (z2 : PySem.W.nsIn K mainGlobals "int" = some none)
    (z3 : PySem.W.nsIn K mainGlobals "abs" = some none)
    (z4 : PySem.W.nsIn K mainGlobals "range" = some none)
    (z5 : PySem.W.nsIn K mainGlobals "tuple" = some none)
    (z6 : PySem.W.nsIn K mainGlobals "list" = some none)
    (z7 : PySem.W.nsIn K mainGlobals "zip" = some none)
    (z8 : PySem.W.nsIn K mainGlobals "any" = some none)
    (z9 : PySem.W.nsIn K mainGlobals "isinstance" = some none)
    (z10 : PySem.W.nsIn K mainGlobals "bool" = some none)
    (y1 : PySem.W.nsIn K mainGlobals "gcd" = some (some (.builtin "math.gcd")))
    : ∃ fd : FuncData, (∀ (s : Shared) (v : Value), BindsTo s fd ⟨[v], []⟩ [("script", v)]) ∧ ∀ base : Heap, K.In base → base.Ns mainGlobals mg → FnOk l.prog w K mg base CX0 6 fa fd ["script"] (splaw K) := by
  have e := hfa.symm.trans (PySem.W.mg_of X G a16)
  cases e
  have F1 := fun_mk (st := sprimitive) l1 c1 k1
  have F2 := fun_mk (st := s_without_zeros) l2 c2 k2
  have F3 := fun_mk (st := s_remainder) l3 c3 k3
  have F4 := fun_mk (st := sdivisor) l4 c4 k4
  have F5 := fun_mk (st := s_law_state) l5 c5 k5
  have F6 := fun_mk (st := s_law_take) l6 c6 k6
  have F7 := fun_mk (st := s_law_gcd) l7 c7 k7
  have F8 := fun_mk (st := s_law_primitive) l8 c8 k8
  have F9 := fun_mk (st := s_law_poly_times) l9 c9 k9
  have F10 := fun_mk (st := s_law_product_drawn) l10 c10 k10
  have F11 := fun_mk (st := s_law_same_root) l11 c11 k11
  have F12 := fun_mk (st := s_law_great) l12 c12 k12
  have F13 := fun_mk (st := s_law_rest) l13 c13 k13
  have F14 := fun_mk (st := s_law_shared) l14 c14 k14
  have F15 := fun_mk (st := s_law_is_long_right) l15 c15 k15
  have F16 := fun_mk (st := slaw) l16 c16 k16
  have b1 := F1.binds (ps := ["polynomial"]) fun _ _ _ _ _ _ us hl => match us, hl with | [_], _ => rfl
  have b2 := F2.binds (ps := ["terms"]) fun _ _ _ _ _ _ us hl => match us, hl with | [_], _ => rfl
  have b3 := F3.binds (ps := ["one", "other"]) fun _ _ _ _ _ _ us hl => match us, hl with | [_, _], _ => rfl
  have b4 := F4.binds (ps := ["one", "other"]) fun _ _ _ _ _ _ us hl => match us, hl with | [_, _], _ => rfl
  have b5 := F5.binds (ps := ["script"]) fun _ _ _ _ _ _ us hl => match us, hl with | [_], _ => rfl
  have b6 := F6.binds (ps := ["state", "many"]) fun _ _ _ _ _ _ us hl => match us, hl with | [_, _], _ => rfl
  have b7 := F7.binds (ps := ["a", "b"]) fun _ _ _ _ _ _ us hl => match us, hl with | [_, _], _ => rfl
  have b8 := F8.binds (ps := ["row"]) fun _ _ _ _ _ _ us hl => match us, hl with | [_], _ => rfl
  have b9 := F9.binds (ps := ["one", "other"]) fun _ _ _ _ _ _ us hl => match us, hl with | [_, _], _ => rfl
  have b10 := F10.binds (ps := ["state", "most"]) fun _ _ _ _ _ _ us hl => match us, hl with | [_, _], _ => rfl
  have b11 := F11.binds (ps := ["one", "other"]) fun _ _ _ _ _ _ us hl => match us, hl with | [_, _], _ => rfl
  have b12 := F12.binds (ps := ["state"]) fun _ _ _ _ _ _ us hl => match us, hl with | [_], _ => rfl
  have b13 := F13.binds (ps := ["one", "other"]) fun _ _ _ _ _ _ us hl => match us, hl with | [_, _], _ => rfl
  have b14 := F14.binds (ps := ["one", "other"]) fun _ _ _ _ _ _ us hl => match us, hl with | [_, _], _ => rfl
  have b15 := F15.binds (ps := ["state"]) fun _ _ _ _ _ _ us hl => match us, hl with | [_], _ => rfl
  have M : Names mg := { len := PySem.W.mg_none_of X G z1, int := PySem.W.mg_none_of X G z2, abs := PySem.W.mg_none_of X G z3, range := PySem.W.mg_none_of X G z4, tuple := PySem.W.mg_none_of X G z5, list := PySem.W.mg_none_of X G z6, zip := PySem.W.mg_none_of X G z7, any := PySem.W.mg_none_of X G z8, isinstance := PySem.W.mg_none_of X G z9, bool := PySem.W.mg_none_of X G z10, gcd := PySem.W.mg_of X G y1 }
  refine ⟨PySem.W.fnOf "law" "law" (defArgs slaw) (defBody slaw) (defScope slaw) .none kV16 dc16 pm16 an16 cd16 ct16, fun s v => .of_eq rfl, fun base _ _ => ?_⟩
  have C_law_state_5 : Cal l.prog w K mg base 5 "_law_state" ["script"] (sp_law_state K) := ⟨f5, _, ok_law_state F5 M, b5, PySem.W.mg_of X G a5, k5⟩
  have C_law_take_4 : Cal l.prog w K mg base 4 "_law_take" ["state", "many"] (sp_law_take K) := ⟨f6, _, ok_law_take F6 M, b6, PySem.W.mg_of X G a6, k6⟩
  have C_law_take_3 : Cal l.prog w K mg base 3 "_law_take" ["state", "many"] (sp_law_take K) := ⟨f6, _, ok_law_take F6 M, b6, PySem.W.mg_of X G a6, k6⟩
  have C_law_great_4 : Cal l.prog w K mg base 4 "_law_great" ["state"] (sp_law_great K) := ⟨f12, _, ok_law_great F12 C_law_take_3, b12, PySem.W.mg_of X G a12, k12⟩
  have C_law_poly_times_4 : Cal l.prog w K mg base 4 "_law_poly_times" ["one", "other"] (sp_law_poly_times K) := ⟨f9, _, ok_law_poly_times F9 M, b9, PySem.W.mg_of X G a9, k9⟩
  have C_without_zeros_2 : Cal l.prog w K mg base 2 "_without_zeros" ["terms"] (sp_without_zeros K) := ⟨f2, _, ok_without_zeros F2 M, b2, PySem.W.mg_of X G a2, k2⟩
  have C_remainder_3 : Cal l.prog w K mg base 3 "_remainder" ["one", "other"] (sp_remainder K) := ⟨f3, _, ok_remainder F3 M C_without_zeros_2, b3, PySem.W.mg_of X G a3, k3⟩
  have Cprimitive_3 : Cal l.prog w K mg base 3 "primitive" ["polynomial"] (spprimitive K) := ⟨f1, _, okprimitive F1 M, b1, PySem.W.mg_of X G a1, k1⟩
  have Cdivisor_4 : Cal l.prog w K mg base 4 "divisor" ["one", "other"] (spdivisor K) := ⟨f4, _, okdivisor F4 M C_remainder_3 Cprimitive_3, b4, PySem.W.mg_of X G a4, k4⟩
  have C_law_gcd_3 : Cal l.prog w K mg base 3 "_law_gcd" ["a", "b"] (sp_law_gcd) := ⟨f7, _, ok_law_gcd F7 M, b7, PySem.W.mg_of X G a7, k7⟩
  have C_law_primitive_4 : Cal l.prog w K mg base 4 "_law_primitive" ["row"] (sp_law_primitive K) := ⟨f8, _, ok_law_primitive F8 M C_law_gcd_3, b8, PySem.W.mg_of X G a8, k8⟩
  have C_law_is_long_right_5 : Cal l.prog w K mg base 5 "_law_is_long_right" ["state"] (sp_law_is_long_right K) := ⟨f15, _, ok_law_is_long_right F15 M C_law_take_4 C_law_great_4 C_law_poly_times_4 Cdivisor_4 C_law_primitive_4, b15, PySem.W.mg_of X G a15, k15⟩
  have C_law_same_root_4 : Cal l.prog w K mg base 4 "_law_same_root" ["one", "other"] (sp_law_same_root K) := ⟨f11, _, ok_law_same_root F11, b11, PySem.W.mg_of X G a11, k11⟩
  have C_law_product_drawn_5 : Cal l.prog w K mg base 5 "_law_product_drawn" ["state", "most"] (sp_law_product_drawn K) := ⟨f10, _, ok_law_product_drawn F10 M C_law_take_4 C_law_poly_times_4 C_law_same_root_4, b10, PySem.W.mg_of X G a10, k10⟩
  have C_law_poly_times_5 : Cal l.prog w K mg base 5 "_law_poly_times" ["one", "other"] (sp_law_poly_times K) := ⟨f9, _, ok_law_poly_times F9 M, b9, PySem.W.mg_of X G a9, k9⟩
  have C_without_zeros_3 : Cal l.prog w K mg base 3 "_without_zeros" ["terms"] (sp_without_zeros K) := ⟨f2, _, ok_without_zeros F2 M, b2, PySem.W.mg_of X G a2, k2⟩
  have C_remainder_4 : Cal l.prog w K mg base 4 "_remainder" ["one", "other"] (sp_remainder K) := ⟨f3, _, ok_remainder F3 M C_without_zeros_3, b3, PySem.W.mg_of X G a3, k3⟩
  have Cprimitive_4 : Cal l.prog w K mg base 4 "primitive" ["polynomial"] (spprimitive K) := ⟨f1, _, okprimitive F1 M, b1, PySem.W.mg_of X G a1, k1⟩
  have Cdivisor_5 : Cal l.prog w K mg base 5 "divisor" ["one", "other"] (spdivisor K) := ⟨f4, _, okdivisor F4 M C_remainder_4 Cprimitive_4, b4, PySem.W.mg_of X G a4, k4⟩
  have C_law_rest_4 : Cal l.prog w K mg base 4 "_law_rest" ["one", "other"] (sp_law_rest K) := ⟨f13, _, ok_law_rest F13 M, b13, PySem.W.mg_of X G a13, k13⟩
  have C_law_shared_5 : Cal l.prog w K mg base 5 "_law_shared" ["one", "other"] (sp_law_shared K) := ⟨f14, _, ok_law_shared F14 M C_law_primitive_4 C_law_rest_4, b14, PySem.W.mg_of X G a14, k14⟩
  have C_law_gcd_4 : Cal l.prog w K mg base 4 "_law_gcd" ["a", "b"] (sp_law_gcd) := ⟨f7, _, ok_law_gcd F7 M, b7, PySem.W.mg_of X G a7, k7⟩
  have C_law_primitive_5 : Cal l.prog w K mg base 5 "_law_primitive" ["row"] (sp_law_primitive K) := ⟨f8, _, ok_law_primitive F8 M C_law_gcd_4, b8, PySem.W.mg_of X G a8, k8⟩
  have C_law_rest_5 : Cal l.prog w K mg base 5 "_law_rest" ["one", "other"] (sp_law_rest K) := ⟨f13, _, ok_law_rest F13 M, b13, PySem.W.mg_of X G a13, k13⟩
  exact oklaw F16 M C_law_state_5 C_law_is_long_right_5 C_law_product_drawn_5 C_law_poly_times_5 Cdivisor_5 C_law_shared_5 C_law_primitive_5 C_law_rest_5
end KW

open PySem PySem.W PyProof.Rows
set_option maxRecDepth 100000 in
set_option maxHeartbeats 0 in
theorem PySem.Challenge.cw_compasswork_k09_common_divisors_holds : PySem.Challenge.rw_compasswork_k09_common_divisors.Holds := by
  w_on; o_law; k_head; (case hw => w_witness2)
  k_fill
  refine L2.walk_of (l := PySem.Challenge.rw_compasswork_k09_common_divisors) (n := 63) (k := 6) (x := "script") (CX := fun _ => L2.CX0) (sp := fun w => KW.splaw _) rfl (by decide) rfl ⟨rfl, by decide, by decide⟩ (fun w h Y => PySem.W.kIn_of Y) ?F (fun _ _ a ns hl _ hS => ⟨a, ns, rfl, hS, hl, fun _ => rfl⟩) (fun _ _ _ _ _ h => h)
  case F =>
    intro w mg fa h KX G hmg
    refine' KW.all_mk KX G hmg ?a1 ?l1 ?c1 ?k1 ?a2 ?l2 ?c2 ?k2 ?a3 ?l3 ?c3 ?k3 ?a4 ?l4 ?c4 ?k4 ?a5 ?l5 ?c5 ?k5 ?a6 ?l6 ?c6 ?k6 ?a7 ?l7 ?c7 ?k7 ?a8 ?l8 ?c8 ?k8 ?a9 ?l9 ?c9 ?k9 ?a10 ?l10 ?c10 ?k10 ?a11 ?l11 ?c11 ?k11 ?a12 ?l12 ?c12 ?k12 ?a13 ?l13 ?c13 ?k13 ?a14 ?l14 ?c14 ?k14 ?a15 ?l15 ?c15 ?k15 ?a16 ?l16 ?c16 ?k16 ?z1 ?z2 ?z3 ?z4 ?z5 ?z6 ?z7 ?z8 ?z9 ?z10 ?y1
    (case a1 => k_is)
    (case l1 => k_is)
    (case c1 => k_is)
    (case k1 => k_is)
    (case a2 => k_is)
    (case l2 => k_is)
    (case c2 => k_is)
    (case k2 => k_is)
    (case a3 => k_is)
    (case l3 => k_is)
    (case c3 => k_is)
    (case k3 => k_is)
    (case a4 => k_is)
    (case l4 => k_is)
    (case c4 => k_is)
    (case k4 => k_is)
    (case a5 => k_is)
    (case l5 => k_is)
    (case c5 => k_is)
    (case k5 => k_is)
    (case a6 => k_is)
    (case l6 => k_is)
    (case c6 => k_is)
    (case k6 => k_is)
    (case a7 => k_is)
    (case l7 => k_is)
    (case c7 => k_is)
    (case k7 => k_is)
    (case a8 => k_is)
    (case l8 => k_is)
    (case c8 => k_is)
    (case k8 => k_is)
    (case a9 => k_is)
    (case l9 => k_is)
    (case c9 => k_is)
    (case k9 => k_is)
    (case a10 => k_is)
    (case l10 => k_is)
    (case c10 => k_is)
    (case k10 => k_is)
    (case a11 => k_is)
    (case l11 => k_is)
    (case c11 => k_is)
    (case k11 => k_is)
    (case a12 => k_is)
    (case l12 => k_is)
    (case c12 => k_is)
    (case k12 => k_is)
    (case a13 => k_is)
    (case l13 => k_is)
    (case c13 => k_is)
    (case k13 => k_is)
    (case a14 => k_is)
    (case l14 => k_is)
    (case c14 => k_is)
    (case k14 => k_is)
    (case a15 => k_is)
    (case l15 => k_is)
    (case c15 => k_is)
    (case k15 => k_is)
    (case a16 => k_is)
    (case l16 => k_is)
    (case c16 => k_is)
    (case k16 => k_is)
    (case z1 => k_is)
    (case z2 => k_is)
    (case z3 => k_is)
    (case z4 => k_is)
    (case z5 => k_is)
    (case z6 => k_is)
    (case z7 => k_is)
    (case z8 => k_is)
    (case z9 => k_is)
    (case z10 => k_is)
    (case y1 => k_is)

