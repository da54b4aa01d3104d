import PyProof.Rows.All
import Wide.All
import OpenK.AllK
import Wide.FinOn
import HandS.ForMost
import HandS.Wide
import HandS.Gcd
import HandS.IsInst
import KE.KExcIs
import HandS.ExcIs
import HandS.ExcInit
import HandS.ExcField
import HandS.ExcOwn
import HandS.WordsExc
import KE.GoesMore
import KE.GoesEnum
import HandS.Iter
import HandS.Exc
import HandS.Text
import HandS.TupMul
import HandS.TupAny
import HandS.Small
import HandS.Zip
import HandS.Defaults
import HandS.Style
import HandS.Codes
import PySem.Challenge.RW_compasswork_k15_same_figures
set_option Elab.async false
set_option linter.all false
set_option maxRecDepth 100000
/-! what the proofs of all laws share: own rules, heaps, the state of draws, comprehensions, rows of ints -/
namespace KG
open PySem PySem.Spec PyProof.Rows L2
def co (p : List Int) (i : Nat) : Int := p.getD i 0
theorem co_ge {p : List Int} {i : Nat} (h : p.length ≤ i) : co p i = 0 := by
  simp [co, List.getD_eq_getElem?_getD, List.getElem?_eq_none h]
theorem co_mem {row : List Int} {i : Nat} (h : i < row.length) : co row i ∈ row := by simp [co, List.getD_eq_getElem?_getD, h]
/-- // by any divisor but 0 of less than 9000 bits -/
def CDivZ (_ j : Int) : Prop := j ≠ 0 ∧ j.natAbs.log2 < 9000
/-- a def that may be called -/
structure Cal (P : Program) (w : World) (K : PySem.W.Frag) (mg : Str → Option Value) (base : Heap) (k : Nat) (x : Str) (ps : List Str) (sp : Sp) where
  f : Addr
  fd : FuncData
  ok : FnOk P w K mg base CX0 k f fd ps sp
  b : Binds K fd ps []
  m : mg x = some (.ref f)
  kp : PySem.W.keepIn K (.ref f) = true
section
variable {X : Cx}
theorem op_fdivZ : OpR X (binaryOp .FloorDiv) (rI CDivZ fun i j => .int (i.fdiv j)) :=
  opI fun _ _ _ _ _ _ _ hc q => floordiv_int hc.1 q (.inl (PyProof.noPylong_of_log2 hc.2))
end
/-! ### heaps -/
theorem same_new {H : Hp} {p : Addr} (h : H p = none) (o : HO) : Same H (upd H p o) := fun b u q => by rw [upd_ne (ne_of_none q h)]; exact q
/-- all but what stands at p is as it was -/
def But (p : Addr) (H H' : Hp) : Prop := ∀ b o, b ≠ p → H b = some o → H' b = some o
theorem But.refl (p : Addr) (H : Hp) : But p H H := fun _ _ _ h => h
theorem But.trans {p : Addr} {H H1 H2 : Hp} (a : But p H H1) (b : But p H1 H2) : But p H H2 := fun c o n h => b c o n (a c o n h)
theorem But.of {p : Addr} {H H' : Hp} (s : Same H H') : But p H H' := fun b o _ h => s b o h
theorem But.put {p : Addr} (H : Hp) (o : HO) : But p H (upd H p o) := fun b u n h => by rw [upd_ne n]; exact h
theorem But.seq {K : PySem.W.Frag} {p : Addr} {H H' : Hp} {a : Addr} {xs : List V} (e : But p H H') (n : a ≠ p) (h : SqL K H a xs) : SqL K H' a xs := by
  rcases h with (h | ⟨o, h⟩) | h
  · exact .inl (.inl (e _ _ n h))
  · exact .inl (.inr ⟨o, e _ _ n h⟩)
  · exact .inr h
theorem But.seqT {K : PySem.W.Frag} {p : Addr} {H H' : Hp} {a : Addr} {xs : List V} (e : But p H H') (n : a ≠ p) (h : SqT K H a xs) : SqT K H' a xs := by
  rcases h with (h | ⟨o, h⟩) | h
  · exact .inl (.inl (e _ _ n h))
  · exact .inl (.inr ⟨o, e _ _ n h⟩)
  · exact .inr h
theorem Same.seqT {K : PySem.W.Frag} {H H' : Hp} {a : Addr} {xs : List V} (e : Same H H') (h : SqT K H a xs) : SqT K H' a xs := by
  rcases h with (h | ⟨o, h⟩) | h
  · exact .inl (.inl (e _ _ h))
  · exact .inl (.inr ⟨o, e _ _ h⟩)
  · exact .inr h
/-! ### the state that numbers are drawn from -/
def stL (a e : Addr) (r c m : Int) : List V := [.ref a, .int r, .int c, .int m, .ref e, .int 0, .int 0, .int 0]
def StOk (ns : List Int) (r c m : Int) : Prop := (m = 1 ∧ 0 < ns.length) ∨ (m = 0 ∧ 0 ≤ r ∧ 0 ≤ c)
theorem upd_self {H : Hp} {p : Addr} {o : HO} (h : H p = some o) : upd H p o = H := by
  funext b
  by_cases e : b = p
  · rw [e, upd_same, h]
  · rw [upd_ne e]
theorem same_upd {H H' : Hp} (s : Same H H') (p : Addr) (o : HO) : Same (upd H p o) (upd H' p o) := fun b u h => by
  by_cases e : b = p
  · rw [e, upd_same] at h ⊢; exact h
  · rw [upd_ne e] at h ⊢; exact s b u h
theorem but_upd {p : Addr} {H H' : Hp} (s : But p H H') (o : HO) : Same (upd H p o) (upd H' p o) := fun b u h => by
  by_cases e : b = p
  · rw [e, upd_same] at h ⊢; exact h
  · rw [upd_ne e] at h ⊢; exact s b u e h
/-- a list that is to be read whatever stands at p -/
def SqO (K : PySem.W.Frag) (H : Hp) (p a : Addr) (xs : List V) : Prop := ∀ o, SqL K (upd H p o) a xs
theorem SqO.new {K : PySem.W.Frag} {H : Hp} {p a : Addr} {xs : List V} (h : SqL K H a xs) (n : H p = none) : SqO K H p a xs := fun o => (same_new n o).seq h
theorem SqO.now {K : PySem.W.Frag} {H : Hp} {p a : Addr} {xs : List V} {o : HO} (h : SqO K H p a xs) (e : H p = some o) : SqL K H a xs := by
  have := h o
  rwa [upd_self e] at this
theorem SqO.but {K : PySem.W.Frag} {H H' : Hp} {p a : Addr} {xs : List V} (h : SqO K H p a xs) (s : But p H H') : SqO K H' p a xs := fun o => (but_upd s o).seq (h o)
def StX (H : Hp) (p a : Addr) (ns : List Int) : Prop := ∃ (e : Addr) (r c m : Int), H p = some (.lst (stL a e r c m)) ∧ StOk ns r c m
theorem StX.but {H H' : Hp} {p a : Addr} {ns : List Int} (h : StX H p a ns) (e : H' p = H p) : StX H' p a ns := by
  obtain ⟨x, r, c, m, h1, h2⟩ := h
  exact ⟨x, r, c, m, e ▸ h1, h2⟩
theorem StX.same {H H' : Hp} {p a : Addr} {ns : List Int} (h : StX H p a ns) (s : Same H H') : StX H' p a ns := by
  obtain ⟨x, r, c, m, h1, h2⟩ := h
  exact ⟨x, r, c, m, s _ _ h1, h2⟩
theorem at_n {ns : List Int} {i : Int} (h0 : 0 ≤ i) (h1 : i < ns.length) : ∃ v : Int, atI (ns.map V.int) i = some (.int v) := by
  obtain ⟨k, rfl⟩ := Int.eq_ofNat_of_zero_le h0
  have hk : k < ns.length := by omega
  exact ⟨ns[k], atI_nat (by rw [List.getElem?_map, List.getElem?_eq_getElem hk]; rfl)⟩
/-! ### comprehensions whose step leaves the objects as they are -/
section
variable {K : PySem.W.Frag} {a D : Addr} {xs : List V} {g : TG} {te : TE} {vs : List Nat} {σ : L2.St} {H1 : Hp} {Qd : Hp → Prop}
theorem grown {H : Hp} {D : Addr} {xs : List V} {G : V → V} {i : Nat} {x : V} (hx : xs[i]? = some x) (hl : xs.length ≤ 1000) : (((xs.take i).map G).length < sizeLine) ∧ ((xs.take i).map G ++ [G x] = (xs.take (i + 1)).map G) := by
  have hi : i < xs.length := (List.getElem?_eq_some_iff.mp hx).1
  refine ⟨small1000 (by rw [List.length_map, List.length_take]; omega), ?_⟩
  rw [List.take_add_one, hx, List.map_append]; rfl
theorem comp_list (G : V → V) (hx : SqL K H1 a xs) (hD : H1 D = none) (hl : xs.length ≤ 1000)
    (hs : ∀ (i : Nat) (x : V) (H : Hp) (Nx : V → Hp → Prop), xs[i]? = some x → Same H1 H → Nx (G x) H → g x (wipe σ vs) H fun σ2 H2 => wipe σ2 vs = wipe σ vs ∧ te σ2 H2 Nx)
    (hd : ∀ H, Same H1 H → H D = some (.lst (xs.map G)) → Qd H) :
    ∃ W : Nat → Nat → Hp → Prop, (∃ m, W 0 m (upd H1 D (.lst []))) ∧ ∀ i m H, W i m H →
      ((Itl K a).stop i H ∧ Qd H) ∨ ((Itl K a).go i H ∧ ∃ Nx : Hp → Prop, (∀ H', Nx H' → ∃ m', m' < m ∧ W (i + 1) m' H') ∧ ∀ x H', (Itl K a).yld i H x H' → g x (wipe σ vs) H' fun σ2 H2 => wipe σ2 vs = wipe σ vs ∧ tYes σ2 H2 fun b H3 =>
        if b = true then te σ2 H3 fun y H4 => ∃ acc, H4 D = some (.lst acc) ∧ acc.length < sizeLine ∧ Nx (upd H4 D (.lst (acc ++ [y]))) else Nx H3) := by
  refine lc_list (xs := xs) (fun i H => Same H1 H ∧ H D = some (.lst ((xs.take i).map G))) ⟨same_new hD _, upd_same⟩ (fun i H _ h => h.1.seq hx) (fun i x H hix h => ?_) (fun H h => hd H h.1 (by rw [h.2, List.take_length]))
  have hg := grown (H := H) (D := D) (G := G) hix hl
  have := hs i x H (fun y H4 => ∃ acc, H4 D = some (.lst acc) ∧ acc.length < sizeLine ∧ (Same H1 (upd H4 D (.lst (acc ++ [y]))) ∧ (upd H4 D (.lst (acc ++ [y]))) D = some (.lst ((xs.take (i + 1)).map G)))) hix h.1
    ⟨_, h.2, hg.1, fun b o e => by rw [upd_ne (ne_of_none e hD)]; exact h.1 b o e, by rw [upd_same, hg.2]⟩
  exact this
theorem comp_tup (G : V → V) (hx : SqT K H1 a xs) (hD : H1 D = none) (hl : xs.length ≤ 1000)
    (hs : ∀ (i : Nat) (x : V) (H : Hp) (Nx : V → Hp → Prop), xs[i]? = some x → Same H1 H → Nx (G x) H → g x (wipe σ vs) H fun σ2 H2 => wipe σ2 vs = wipe σ vs ∧ te σ2 H2 Nx)
    (hd : ∀ H, Same H1 H → H D = some (.lst (xs.map G)) → Qd H) :
    ∃ W : Nat → Nat → Hp → Prop, (∃ m, W 0 m (upd H1 D (.lst []))) ∧ ∀ i m H, W i m H →
      ((Itt K a).stop i H ∧ Qd H) ∨ ((Itt K a).go i H ∧ ∃ Nx : Hp → Prop, (∀ H', Nx H' → ∃ m', m' < m ∧ W (i + 1) m' H') ∧ ∀ x H', (Itt K a).yld i H x H' → g x (wipe σ vs) H' fun σ2 H2 => wipe σ2 vs = wipe σ vs ∧ tYes σ2 H2 fun b H3 =>
        if b = true then te σ2 H3 fun y H4 => ∃ acc, H4 D = some (.lst acc) ∧ acc.length < sizeLine ∧ Nx (upd H4 D (.lst (acc ++ [y]))) else Nx H3) := by
  refine lc_tup (xs := xs) (fun i H => Same H1 H ∧ H D = some (.lst ((xs.take i).map G))) ⟨same_new hD _, upd_same⟩ (fun i H _ h => Same.seqT h.1 hx) (fun i x H hix h => ?_) (fun H h => hd H h.1 (by rw [h.2, List.take_length]))
  have hg := grown (H := H) (D := D) (G := G) hix hl
  have := hs i x H (fun y H4 => ∃ acc, H4 D = some (.lst acc) ∧ acc.length < sizeLine ∧ (Same H1 (upd H4 D (.lst (acc ++ [y]))) ∧ (upd H4 D (.lst (acc ++ [y]))) D = some (.lst ((xs.take (i + 1)).map G)))) hix h.1
    ⟨_, h.2, hg.1, fun b o e => by rw [upd_ne (ne_of_none e hD)]; exact h.1 b o e, by rw [upd_same, hg.2]⟩
  exact this
end
/-- a list or a tuple -/
def Sq (K : PySem.W.Frag) (H : Hp) (a : Addr) (xs : List V) : Prop := SqL K H a xs ∨ SqT K H a xs
theorem Sq.same {K : PySem.W.Frag} {H H' : Hp} {a : Addr} {xs : List V} (h : Sq K H a xs) (s : Same H H') : Sq K H' a xs := h.elim (fun h => .inl (s.seq h)) fun h => .inr (Same.seqT s h)
theorem Sq.but {K : PySem.W.Frag} {p : Addr} {H H' : Hp} {a : Addr} {xs : List V} (h : Sq K H a xs) (n : a ≠ p) (s : But p H H') : Sq K H' a xs := h.elim (fun h => .inl (s.seq n h)) fun h => .inr (s.seqT n h)
/-! ### ints in lists -/
theorem map_at {row : List Int} {i : Nat} (h : i < row.length) : (row.map V.int)[i]? = some (.int (co row i)) := by
  rw [List.getElem?_map, List.getElem?_eq_getElem h]
  simp [co, List.getD_eq_getElem?_getD, h]
theorem map_atI {row : List Int} {i : Int} (h0 : 0 ≤ i) (h : i < row.length) : atI (row.map V.int) i = some (.int (co row i.toNat)) := by
  obtain ⟨k, rfl⟩ := Int.eq_ofNat_of_zero_le h0
  exact atI_nat (map_at (by omega))
theorem map_last {row : List Int} (h : row ≠ []) : atI (row.map V.int) (-1) = some (.int (co row (row.length - 1))) := by
  have hp := List.length_pos_iff.mpr h
  have e : ixN (row.map V.int).length (-1) = some (row.length - 1) := by
    unfold ixN
    rw [if_neg (by decide), if_pos (by rw [List.length_map]; omega), List.length_map]
    congr 1; omega
  unfold atI
  rw [e]
  exact map_at (by omega)
theorem map_mem {row : List Int} {i : Nat} {x : V} (h : (row.map V.int)[i]? = some x) : i < row.length ∧ x = .int (co row i) := by
  have hi : i < row.length := by
    have := (List.getElem?_eq_some_iff.mp h).1
    rwa [List.length_map] at this
  refine ⟨hi, ?_⟩
  rw [map_at hi] at h
  exact (Option.some.inj h).symm
theorem log_small {z : Int} {n m : Nat} (h : z.natAbs < 2 ^ n) (h0 : 0 < n) (hm : n ≤ m) : z.natAbs.log2 < m := Nat.lt_of_lt_of_le (PySem.Flt.log2_lt_of h0 h) hm
section
variable {D : Addr} {g : TG} {te : TE} {vs : List Nat} {σ : L2.St} {H1 : Hp} {Qd : Hp → Prop}
theorem comp_range (G : Nat → V) (n : Nat) (hD : H1 D = none) (hl : n ≤ 1000)
    (hs : ∀ (i : Nat) (H : Hp) (Nx : V → Hp → Prop), i < n → Same H1 H → Nx (G i) H → g (.int (0 + (i : Nat))) (wipe σ vs) H fun σ2 H2 => wipe σ2 vs = wipe σ vs ∧ te σ2 H2 Nx)
    (hd : ∀ H, Same H1 H → H D = some (.lst ((List.range n).map G)) → Qd H) :
    ∃ W : Nat → Nat → Hp → Prop, (∃ m, W 0 m (upd H1 D (.lst []))) ∧ ∀ i m H, W i m H →
      ((Itr 0 n).stop i H ∧ Qd H) ∨ ((Itr 0 n).go i H ∧ ∃ Nx : Hp → Prop, (∀ H', Nx H' → ∃ m', m' < m ∧ W (i + 1) m' H') ∧ ∀ x H', (Itr 0 n).yld i H x H' → g x (wipe σ vs) H' fun σ2 H2 => wipe σ2 vs = wipe σ vs ∧ tYes σ2 H2 fun b H3 =>
        if b = true then te σ2 H3 fun y H4 => ∃ acc, H4 D = some (.lst acc) ∧ acc.length < sizeLine ∧ Nx (upd H4 D (.lst (acc ++ [y]))) else Nx H3) := by
  refine lc_range (lo := 0) (n := n) (fun i H => Same H1 H ∧ H D = some (.lst ((List.range i).map G))) ⟨same_new hD _, upd_same⟩ (fun i H hi h => ?_) (fun H h => hd H h.1 h.2)
  have := hs i H (fun y H4 => ∃ acc, H4 D = some (.lst acc) ∧ acc.length < sizeLine ∧ (Same H1 (upd H4 D (.lst (acc ++ [y]))) ∧ (upd H4 D (.lst (acc ++ [y]))) D = some (.lst ((List.range (i + 1)).map G)))) hi h.1
    ⟨_, h.2, small1000 (by rw [List.length_map, List.length_range]; omega), fun b o e => by rw [upd_ne (ne_of_none e hD)]; exact h.1 b o e, by rw [upd_same, List.range_succ, List.map_append]; rfl⟩
  exact this
end
/-- an item of a list or a tuple of ints -/
theorem rix {K : PySem.W.Frag} {H : Hp} {a : Addr} {row : List Int} {i : Int} {Q : VK} (h : Sq K H a (row.map V.int)) (h0 : 0 ≤ i) (h1 : i < row.length) (q : Q (.int (co row i.toNat)) H) : rIx K (.ref a) (.int i) H Q :=
  h.elim (fun h => .inl ⟨a, _, _, _, rfl, rfl, h, map_atI h0 h1, q⟩) fun h => .inr (.inl ⟨a, _, _, _, rfl, rfl, h, map_atI h0 h1, q⟩)
theorem set_map {p : List Int} {k : Nat} {z : Int} : (p.map V.int).set k (.int z) = (p.set k z).map V.int := by rw [List.map_set]
theorem ixN_nat {n : Nat} {k : Int} (h0 : 0 ≤ k) (h : k < n) : ixN n k = some k.toNat := by
  unfold ixN; rw [if_pos h0, if_pos h]
theorem cut_to (xs : List V) (n : Nat) (h : n ≤ xs.length) : cutV xs none (some (n : Int)) = xs.take n := by
  unfold cutV
  rw [HT.sIx_none, HT.sIx_nat, Nat.min_eq_left h, List.drop_zero, Nat.sub_zero]
def rLen (K : PySem.W.Frag) : List V → Hp → VK → Prop := fun xs H Q => ∃ p ys, xs = [.ref p] ∧ (SqL K H p ys ∨ SqT K H p ys) ∧ Q (.int ys.length) H
/-! the rules that read the written part, said with it: for use within a comprehension -/
section
variable {X : Cx} {K : PySem.W.Frag}
theorem call_lenK (e : X.K = K) : CallR X (.builtin "len") (rLen K) := by subst e; exact call_len_seq
theorem ix_seqK (e : X.K = K) : IxR X (rIx K) := by subst e; exact ix_seq
theorem ix_listK (e : X.K = K) : IxR X (rIxL K) := by subst e; exact ix_list
theorem ix_tupK (e : X.K = K) : IxR X (rIxT K) := by subst e; exact ix_tup
end
theorem same_put {H H' : Hp} {D : Addr} {o : HO} (s : Same H H') (hD : H D = none) : Same H (upd H' D o) := fun b u h => by
  rw [upd_ne (ne_of_none h hD)]; exact s b u h
/-! rows of ints as data -/
theorem dp_all {K : PySem.W.Frag} {H : Hp} : ∀ r : List Int, DpAll K H (r.map V.int) (r.map PyData.int)
  | [] => .nil
  | x :: r => .cons (.int x) (dp_all r)
theorem lay_all : ∀ r : List Int, PyData.canLayAll0 (r.map PyData.int) = true
  | [] => by simp [PyData.canLayAll0]
  | x :: r => by simp [PyData.canLayAll0, PyData.canLay0, lay_all r]
theorem deep_all : ∀ r : List Int, PyData.depthAll (r.map PyData.int) = 0
  | [] => by simp [PyData.depthAll]
  | x :: r => by simp [PyData.depthAll, PyData.depth, deep_all r]
theorem shaped_l (r : List Int) : SeqAt.shaped (.list (r.map PyData.int)) = true := by
  simp [SeqAt.shaped, PyData.canLay0, lay_all, PyData.depth, deep_all]
theorem shaped_t (r : List Int) : SeqAt.shaped (.tuple (r.map PyData.int)) = true := by
  simp [SeqAt.shaped, PyData.canLay0, lay_all, PyData.depth, deep_all]
theorem eqv_all : ∀ r q : List Int, PyData.eqvAll (r.map PyData.int) (q.map PyData.int) = decide (r = q)
  | [], [] => by simp [PyData.eqvAll]
  | [], y :: q => by simp [PyData.eqvAll]
  | x :: r, [] => by simp [PyData.eqvAll]
  | x :: r, y :: q => by
    have ih := eqv_all r q
    show (PyData.eqv (.int x) (.int y) && PyData.eqvAll (r.map PyData.int) (q.map PyData.int)) = _
    rw [ih]
    have e : PyData.eqv (.int x) (.int y) = (x == y) := by simp [PyData.eqv]
    rw [e, Bool.eq_iff_iff]
    simp
theorem eqv_l (r q : List Int) : PyData.eqv (.list (r.map PyData.int)) (.list (q.map PyData.int)) = decide (r = q) := by
  rw [← eqv_all]; simp [PyData.eqv]
theorem eqv_t (r q : List Int) : PyData.eqv (.tuple (r.map PyData.int)) (.tuple (q.map PyData.int)) = decide (r = q) := by
  rw [← eqv_all]; simp [PyData.eqv]
/-- the reading of a comparison of two rows -/
theorem eq_lists {K : PySem.W.Frag} {H : Hp} {a b : Addr} {r q : List Int} {Q : VK} (h1 : SqL K H a (r.map V.int)) (h2 : SqL K H b (q.map V.int)) (k : Q (.bl (decide (r = q))) H) : rEqD K (.ref a) (.ref b) H Q :=
  ⟨_, _, .lst h1 (dp_all r), .lst h2 (dp_all q), shaped_l r, shaped_l q, by rw [eqv_l]; exact k⟩
theorem eq_tups {K : PySem.W.Frag} {H : Hp} {a b : Addr} {r q : List Int} {Q : VK} (h1 : SqT K H a (r.map V.int)) (h2 : SqT K H b (q.map V.int)) (k : Q (.bl (decide (r = q))) H) : rEqD K (.ref a) (.ref b) H Q :=
  ⟨_, _, .tup h1 (dp_all r), .tup h2 (dp_all q), shaped_t r, shaped_t q, by rw [eqv_t]; exact k⟩
theorem ne_tups {K : PySem.W.Frag} {H : Hp} {a b : Addr} {r q : List Int} {Q : VK} (h1 : SqT K H a (r.map V.int)) (h2 : SqT K H b (q.map V.int)) (k : Q (.bl (!decide (r = q))) H) : rNeD K (.ref a) (.ref b) H Q :=
  ⟨_, _, .tup h1 (dp_all r), .tup h2 (dp_all q), shaped_t r, shaped_t q, by rw [eqv_t]; exact k⟩
theorem call_isiK {X : Cx} {K : PySem.W.Frag} (e : X.K = K) : CallR X (.builtin "isinstance") (rIsi K) := by subst e; exact call_isi
/-- a comprehension over a list whose step may make new objects -/
theorem comp_listS {K : PySem.W.Frag} {a D : Addr} {xs : List V} {g : TG} {te : TE} {vs : List Nat} {σ : L2.St} {H1 : Hp} {Qd : Hp → Prop} (R : V → Prop) (hx : SqL K H1 a xs) (hD : H1 D = none) (hl : xs.length ≤ 1000)
    (hs : ∀ (i : Nat) (x : V) (H : Hp) (Nx : V → Hp → Prop), xs[i]? = some x → Same H1 H → (∀ y H', Same H H' → R y → Nx y H') → g x (wipe σ vs) H fun σ2 H2 => wipe σ2 vs = wipe σ vs ∧ te σ2 H2 Nx)
    (hd : ∀ H ys, Same H1 H → H D = some (.lst ys) → ys.length = xs.length → (∀ y ∈ ys, R y) → Qd H) :
    ∃ W : Nat → Nat → Hp → Prop, (∃ m, W 0 m (upd H1 D (.lst []))) ∧ ∀ i m H, W i m H →
      ((Itl K a).stop i H ∧ Qd H) ∨ ((Itl K a).go i H ∧ ∃ Nx : Hp → Prop, (∀ H', Nx H' → ∃ m', m' < m ∧ W (i + 1) m' H') ∧ ∀ x H', (Itl K a).yld i H x H' → g x (wipe σ vs) H' fun σ2 H2 => wipe σ2 vs = wipe σ vs ∧ tYes σ2 H2 fun b H3 =>
        if b = true then te σ2 H3 fun y H4 => ∃ acc, H4 D = some (.lst acc) ∧ acc.length < sizeLine ∧ Nx (upd H4 D (.lst (acc ++ [y]))) else Nx H3) := by
  refine lc_list (xs := xs) (fun i H => Same H1 H ∧ ∃ ys, H D = some (.lst ys) ∧ ys.length = i ∧ ∀ y ∈ ys, R y) ⟨same_new hD _, [], upd_same, rfl, fun y h => by cases h⟩ (fun i H _ h => h.1.seq hx) (fun i x H hix h => ?_) (fun H h => ?_)
  · obtain ⟨sm, ys, e, l, r⟩ := h
    have hi : i < xs.length := (List.getElem?_eq_some_iff.mp hix).1
    have := hs i x H (fun y H4 => ∃ acc, H4 D = some (.lst acc) ∧ acc.length < sizeLine ∧ (Same H1 (upd H4 D (.lst (acc ++ [y]))) ∧ ∃ ys, (upd H4 D (.lst (acc ++ [y]))) D = some (.lst ys) ∧ ys.length = i + 1 ∧ ∀ y ∈ ys, R y)) hix sm
      (fun y H' s2 hr => ⟨ys, s2 _ _ e, small1000 (by omega), same_put (sm.trans s2) hD, ys ++ [y], upd_same, by rw [List.length_append, l]; rfl, fun z hz => by
        rcases List.mem_append.mp hz with hz | hz
        · exact r z hz
        · rw [List.mem_singleton.mp hz]; exact hr⟩)
    exact this
  · obtain ⟨sm, ys, e, l, r⟩ := h
    exact hd H ys sm e l r
theorem bools : ∀ ys : List V, (∀ y ∈ ys, ∃ b, y = V.bl b) → ∃ bs : List Bool, ys = bs.map V.bl
  | [], _ => ⟨[], rfl⟩
  | y :: ys, h => by
    obtain ⟨b, rfl⟩ := h y List.mem_cons_self
    obtain ⟨bs, rfl⟩ := bools ys fun z hz => h z (List.mem_cons_of_mem _ hz)
    exact ⟨b :: bs, rfl⟩
theorem StX.ne {H : Hp} {p a c : Addr} {ns : List Int} (X : StX H p a ns) (n : H c = none) : c ≠ p := fun z => by
  obtain ⟨_, _, _, _, e, _⟩ := X
  rw [z, e] at n; cases n
end KG

/-! steps of drawings, as the laws make them -/
namespace KG
open PySem PySem.Spec PyProof.Rows L2
structure Stp where
  w : Str
  ns : List Int
def stV (s : Stp) : List V := .str s.w :: s.ns.map V.int
/-- the values are the steps, each a tuple that stands -/
inductive SAt (H : Hp) : List V → List Stp → Prop
  | nil : SAt H [] []
  | cons {t : Addr} {s : Stp} {vs : List V} {ss : List Stp} : H t = some (.tup (stV s)) → SAt H vs ss → SAt H (.ref t :: vs) (s :: ss)
section
variable {H H' : Hp} {vs us : List V} {ss rs : List Stp}
theorem SAt.len (h : SAt H vs ss) : vs.length = ss.length := by
  induction h with
  | nil => rfl
  | cons _ _ ih => rw [List.length_cons, List.length_cons, ih]
theorem SAt.mono (h : SAt H vs ss) (k : ∀ t xs, H t = some (.tup xs) → H' t = some (.tup xs)) : SAt H' vs ss := by
  induction h with
  | nil => exact .nil
  | cons e _ ih => exact .cons (k _ _ e) ih
theorem SAt.same (h : SAt H vs ss) (s : Same H H') : SAt H' vs ss := h.mono fun t xs e => s t _ e
theorem SAt.put {r : Addr} {xs ys : List V} (h : SAt H vs ss) (e : H r = some (.lst xs)) : SAt (upd H r (.lst ys)) vs ss := h.mono fun t zs e2 => by
  rw [upd_ne (ne_of e2 e (by intro z; cases z))]; exact e2
theorem SAt.but {p a : Addr} {ns : List Int} (h : SAt H vs ss) (X : StX H p a ns) (b : But p H H') : SAt H' vs ss := h.mono fun t xs e => b _ _ (fun z => by
  obtain ⟨_, _, _, _, e2, _⟩ := X
  rw [z, e2] at e; cases e) e
theorem SAt.get : ∀ {vs : List V} {ss : List Stp} {i : Nat} {s : Stp}, SAt H vs ss → ss[i]? = some s → ∃ t, vs[i]? = some (.ref t) ∧ H t = some (.tup (stV s))
  | _, _, i, s, .nil, h => by simp at h
  | _, _, 0, s, .cons e _, h => by simp at h; subst h; exact ⟨_, rfl, e⟩
  | _, _, i + 1, s, .cons _ r, h => by
    obtain ⟨t, h1, h2⟩ := SAt.get (i := i) (s := s) r (by simpa using h)
    exact ⟨t, by simpa using h1, h2⟩
theorem SAt.append (h : SAt H vs ss) (k : SAt H us rs) : SAt H (vs ++ us) (ss ++ rs) := by
  induction h with
  | nil => exact k
  | cons e _ ih => exact .cons e ih
theorem SAt.take : ∀ {vs : List V} {ss : List Stp} (n : Nat), SAt H vs ss → SAt H (vs.take n) (ss.take n)
  | _, _, 0, _ => .nil
  | _, _, n + 1, .nil => .nil
  | _, _, n + 1, .cons e r => .cons e (SAt.take n r)
theorem SAt.drop : ∀ {vs : List V} {ss : List Stp} (n : Nat), SAt H vs ss → SAt H (vs.drop n) (ss.drop n)
  | _, _, 0, h => h
  | _, _, n + 1, .nil => .nil
  | _, _, n + 1, .cons _ r => SAt.drop n r
theorem SAt.rep {t : Addr} {s : Stp} (e : H t = some (.tup (stV s))) : ∀ n, SAt H (List.replicate n (.ref t)) (List.replicate n s)
  | 0 => .nil
  | n + 1 => .cons e (SAt.rep e n)
end
/-- whether a step of this word gives a point -/
def isPt (w : Str) : Bool := inV (.str w) [.str "point", .str "meet"]
/-- the forms of steps -/
def SForm (s : Stp) : Prop := (s.w = "point" ∧ s.ns.length = 2) ∨ (s.w = "line" ∧ s.ns.length = 2) ∨ (s.w = "circle" ∧ s.ns.length = 3) ∨ (s.w = "meet" ∧ s.ns.length = 3)
/-- i is the place of a step that gives a point (b), or a figure (not b) -/
def Nm1 (ss : List Stp) (b : Bool) (i : Int) : Prop := 0 ≤ i ∧ ∃ s, ss[i.toNat]? = some s ∧ isPt s.w = b
/-- a step that is drawn by the rules behind ss, its integers within m -/
def SNew (ss : List Stp) (m : Int) (s : Stp) : Prop :=
  (∃ x y, s = ⟨"point", [x, y]⟩ ∧ -m ≤ x ∧ x ≤ m ∧ -m ≤ y ∧ y ≤ m) ∨ (∃ i j, s = ⟨"line", [i, j]⟩ ∧ Nm1 ss true i ∧ Nm1 ss true j) ∨
  (∃ i j k, s = ⟨"circle", [i, j, k]⟩ ∧ Nm1 ss true i ∧ Nm1 ss true j ∧ Nm1 ss true k) ∨ (∃ i j w, s = ⟨"meet", [i, j, w]⟩ ∧ Nm1 ss false i ∧ Nm1 ss false j ∧ 0 ≤ w ∧ w ≤ 1)
theorem SNew.form {ss : List Stp} {m : Int} {s : Stp} (h : SNew ss m s) : SForm s := by
  rcases h with ⟨x, y, rfl, _⟩ | ⟨i, j, rfl, _⟩ | ⟨i, j, k, rfl, _⟩ | ⟨i, j, w, rfl, _⟩
  · exact .inl ⟨rfl, rfl⟩
  · exact .inr (.inl ⟨rfl, rfl⟩)
  · exact .inr (.inr (.inl ⟨rfl, rfl⟩))
  · exact .inr (.inr (.inr ⟨rfl, rfl⟩))
end KG

namespace KG
open PySem PySem.Spec PyProof.Rows L2
theorem cut_from (xs : List V) (n : Nat) (h : n ≤ xs.length) : cutV xs (some (n : Int)) none = xs.drop n := by
  unfold cutV
  rw [HT.sIx_none, HT.sIx_nat, Nat.min_eq_left h]
  exact List.take_of_length_le (by rw [List.length_drop]; omega)
theorem not_whole {n : Nat} {i : Nat} {hi : Option Int} (h : 0 < i) (k : 0 < n) : ¬ (HT.sIx n 0 (some (i : Int)) = 0 ∧ HT.sIx n n hi = n) := fun z => by
  have e : HT.sIx n 0 (some (i : Int)) = min i n := HT.sIx_nat n 0 i
  rw [e] at z
  have := z.1
  omega
end KG

/-! own errors whose __init__ stores one field -/
namespace KG
open PySem PySem.Spec PyProof.Rows L2
/-- isinstance(e, c), e the exception that the suite holds, with fields of its own -/
def rIsED (K : PySem.W.Frag) (D a : Addr) (cls : Value) (d : Option Addr) : List V → Hp → VK → Prop := fun xs H Q => cls = .ref D ∧ ∃ (dd : Addr) (fs : List (Str × V)) (c : V) (cv : Value) (b : Bool), d = some dd ∧ H dd = some (.xd fs) ∧ xs = [.ref a, c] ∧ (∀ u, RelV c u → u = cv) ∧ PySem.W.kitOne K (.ref D) cv = some b ∧ Q (.bl b) H
theorem call_isED {X : Cx} {a D : Addr} {oe : Obj} {cls : Value} {d : Option Addr} {pn : List (Addr × Obj)} (C : ExcC X.K D) (hcl : (PySem.W.clsIn X.K D).isSome = true) (hz : Zc cls d oe) (hf : ∃ vs, oe.data = .fields vs) : CallR (X.suite a ((a, oe) :: pn)) (.builtin "isinstance") (rIsED X.K D a cls d) := by
  intro pins s σ H xs us Q I r h
  obtain ⟨rfl, dd, fs, c, cv, b, rfl, ed, rfl, hcv, e, q⟩ := h
  obtain ⟨u1, u2, rfl, r1, r2⟩ := vals2 r
  cases (show u1 = Value.ref a from r1)
  have ec := hcv _ r2
  subst ec
  obtain ⟨hget, _⟩ := I.pin (a, oe) (List.mem_append.mpr (.inl List.mem_cons_self))
  obtain ⟨vs, hv⟩ := hf
  have hx : ObjOk X.prog X.w H s.heap dd (.xd fs) := I.hok dd _ ed
  obtain ⟨mA, hns, _⟩ := hx
  obtain ⟨od, ho, _⟩ := lookIn_ns hns
  have J : PySem.W.InstAt s.heap a oe D (some od) := ⟨hget, hz.1, by unfold PySem.W.notCls; rw [hv] <;> rfl, by rw [hz.2]; exact ho⟩
  exact PySem.W.kia_one (PySem.W.kitx_exc hcl C.hg C.hk C.hs C.ha C.hn C.ht C.hm) I.kIn J e (fun z => nomatch z) fun tk => ⟨.bl b, H, I.kept (t' := tk) fun _ _ z => z, rfl, q⟩
/-- what the written part says of an own error of the name x with the field f, below the error at W, below ValueError -/
structure OwnE (K : PySem.W.Frag) (mg : Str → Option Value) (x f : Str) (C fI W : Addr) : Prop where
  gC : mg x = some (.ref C)
  oex : OexC K C
  xf : XfC K C
  is : ExcC K C
  cl : (PySem.W.clsIn K C).isSome = true
  noF : PySem.W.findIn K (.ref C) f = some none
  iC : PySem.W.findIn K (.ref C) "__init__" = some (some (.ref fI))
  tI : PySem.W.typeIn K (.ref fI) = some (.type "function")
  exm : PySem.W.exmOne K (.ref C) (.ref C) = some true
  kW : PySem.W.kitOne K (.ref C) (.ref W) = some true
  kV : PySem.W.kitOne K (.ref C) (.type "ValueError") = some true
theorem kit_ref {K : PySem.W.Frag} {t : Value} {W : Addr} (h1 : PySem.W.isClsIn K W = true) (h2 : PySem.W.typeIn K (.ref W) = some (.type "type")) (h3 : PySem.W.subIn K t (.ref W) = some true) : PySem.W.kitOne K t (.ref W) = some true := by
  have h1' : (PySem.W.clsIn K W).isSome = true := h1
  unfold PySem.W.kitOne
  by_cases z : (t == .ref W) = true
  · rw [if_pos z]
  · rw [if_neg z]
    show (if ((PySem.W.clsIn K W).isSome && PySem.W.typeIn K (.ref W) == some (.type "type")) = true then PySem.W.subIn K t (.ref W) else none) = some true
    rw [if_pos (by rw [h1', h2] <;> rfl), h3]
theorem kit_val {K : PySem.W.Frag} {C : Addr} (h3 : PySem.W.subIn K (.ref C) (.type "ValueError") = some true) : PySem.W.kitOne K (.ref C) (.type "ValueError") = some true := by
  unfold PySem.W.kitOne
  rw [if_neg (show ¬ (Value.ref C == Value.type "ValueError") = true from fun z => nomatch (beq_iff_eq.mp z))]
  show (if PySem.W.kitMeta "ValueError" = true then PySem.W.subIn K (.ref C) (.type "ValueError") else none) = some true
  rw [if_pos (by decide +kernel), h3]
theorem own_mk {K : PySem.W.Frag} {h : Heap} {mg : Str → Option Value} {x f : Str} {C fI W : Addr} (X : K.In h) (G : h.Ns mainGlobals mg) {nm q : Str} {N : Addr} {bs : List Value} {sn : List Str} {sub : List Value} {ab : Bool} {col : Option Bool} {dd : Option Addr} {m0 m1 m2 m3 m5 : Option Value}
    (eC : PySem.W.nsIn K mainGlobals x = some (some (.ref C)))
    (eX : K.lookup C = some (excClassObj nm q C N bs [.ref W, .type "ValueError", .type "Exception", .type "BaseException", .type "object"] true sn sub ab col dd m0 m1 m2 m3 m5 "ValueError.__new__"))
    (e1 : PySem.W.findIn K (.ref C) "__setattr__" = some (some (.builtin "object.__setattr__"))) (e2 : PySem.W.findIn K (.ref C) "__getattribute__" = some (some (.builtin "BaseException.__getattribute__"))) (e3 : PySem.W.findIn K (.ref C) "__getattr__" = some none) (e4 : PySem.W.findIn K (.ref C) f = some none)
    (e5 : PySem.W.findIn K (.ref C) "__init__" = some (some (.ref fI))) (e6 : PySem.W.typeIn K (.ref fI) = some (.type "function")) (e7 : PySem.W.keepIn K (.ref C) = true) (e8 : PySem.W.subIn K (.ref C) (.type "BaseException") = some true) (e9 : PySem.W.typeIn K (.ref C) = some (.type "type")) (e10 : PySem.W.hasDictIn K C = true)
    (e11 : PySem.W.isClsIn K C = true) (e12 : PySem.W.subIn K (.ref C) (.ref C) = some true) (e13 : PySem.W.subIn K (.ref C) (.ref W) = some true) (e14 : PySem.W.typeIn K (.ref W) = some (.type "type")) (e15 : PySem.W.isClsIn K W = true) (e16 : PySem.W.subIn K (.ref C) (.type "ValueError") = some true)
    (e17 : PySem.W.findIn K (.ref C) "__class__" = some (some (.builtin "object.__class__"))) (e18 : PySem.W.specialIn K (.builtin "object.__class__") "__get__" = some (some (.builtin "getset_descriptor.__get__"))) (e19 : PySem.W.takesIn K (.builtin "object.__class__") = some true) (e20 : PySem.W.mroIn K C (.type "object") = some true) : OwnE K mg x f C fI W :=
  { gC := PySem.W.mg_of X G eC, oex := ⟨⟨nm, q, N, bs, _, sn, sub, ab, col, dd, m0, m1, m2, m3, m5, eX, rfl⟩, e1, e8, e9, e7⟩, xf := ⟨e2, e3, e8, e10⟩, is := ⟨e2, e3, e8, e10, e17, e18, e19, e20⟩, cl := e11, noF := e4, iC := e5, tI := e6, exm := PySem.W.exm_ref e8 e10 e9 e12, kW := kit_ref e15 e14 e13, kV := kit_val e16 }
/-- self.f = v, at an exception that is being made -/
def spInit (K : PySem.W.Frag) (f : Str) (C : Addr) : Sp := fun vs H Q _ => ∃ (a : Addr) (v : V), vs = [.ref a, v] ∧ OexC K C ∧ PySem.W.findIn K (.ref C) f = some none ∧ H a = some (exo a C none) ∧
  ∀ dx, H dx = none → dx ≠ a → Q .non (upd (upd H dx (exd dx [(f, v)])) a (exo a C (some dx)))
/-- the i-th statement of a class's body -/
def inCls : Stmt → Nat → Stmt
  | .ClassDef _ _ _ body _ _ _ _ _ _ _, i => body.getD i (.Pass ⟨0, 0, 0, 0⟩)
  | _, _ => .Pass ⟨0, 0, 0, 0⟩
end KG

/-! enumerate of a tuple -/
namespace KG
open PySem PySem.Spec PyProof.Rows L2
set_option maxHeartbeats 1000000 in
theorem enum_new1 {v : Value} {o : Obj} {Hq : Heap → Prop} (B : Begins v o Hq) : Meets (Builtin.«enumerate.__new__» ⟨[.type "enumerate", v], []⟩) (fun _ R s => Hq s.heap ∧ R (.ok (.ret (.ref (s.heap.push o).objs.size))) { s with heap := (s.heap.push o).push { cls := .type "enumerate", data := .fields #[.none, .bool false, .ref s.heap.objs.size, rawInt 0, .none, .none] } }) :=
  .of_wp fun prog w A R s h => by
    obtain ⟨hp, g, d, tk, os⟩ := s
    obtain ⟨h1, h⟩ := h
    have isub := sub_enumerate
    have q1 : ∀ {A' : Around} {E : Value → Shared → Prop} {Q : Value → Shared → Prop}, Q (.ref hp.objs.size) ⟨hp.push o, g, d, tk, os⟩ → wpAny (model prog w) A' (pyIter v) Q E ⟨hp, g, d, tk, os⟩ := fun q => B.iter prog w _ _ ⟨hp, g, d, tk, os⟩ _ h1 q
    wp_walk using q1
    refine wpAny_stack_any fun st => wpAny_pure ?_
    split
    · rename_i c _ _ _ _ _
      cases (c == Value.type "enumerate") <;> (wp_walk using q1; exact ⟨_, rfl, h⟩)
    · wp_walk using q1; exact ⟨_, rfl, h⟩
theorem call_enum1 {prog : Program} {w : World} {A : Around} {E : Value → Shared → Prop} {s : Shared} {v : Value} {o : Obj} {Hq : Heap → Prop} {Q : Value → Shared → Prop} (B : Begins v o Hq) (h1 : Hq s.heap)
    (h : ∀ h', IsEnum h' (s.heap.objs.size + 1) s.heap.objs.size 0 .none → h'.get? s.heap.objs.size = some o → (∀ b u, s.heap.get? b = some u → h'.get? b = some u) → Q (.ref (s.heap.objs.size + 1)) { s with heap := h' }) : wpAny (model prog w) A (call (.type "enumerate") [v]) Q E s := by
  refine callType_new F.called_enumerate (by decide) (F.typeCall_enumerate_1 _) (F.newCall_enumerate_1 _) (fun obj => F.args_object_init_2 obj _) F.entry_enumerate_new (enum_new1 B) ⟨h1, ?_⟩
  have hz : (s.heap.push o).objs.size = s.heap.objs.size + 1 := Heap.size_push ..
  show _ ∧ _
  rw [hz]
  have he : IsEnum ((s.heap.push o).push { cls := .type "enumerate", data := .fields #[.none, .bool false, .ref s.heap.objs.size, rawInt 0, .none, .none] }) (s.heap.objs.size + 1) s.heap.objs.size 0 .none := by
    have e := Heap.get?_push_size (s.heap.push o) (o := { cls := .type "enumerate", data := .fields #[.none, .bool false, .ref s.heap.objs.size, rawInt 0, .none, .none] }) rfl
    rwa [hz] at e
  exact ⟨⟨_, he, rfl⟩, h _ he (Heap.get?_push_of_some _ (Heap.get?_push_size _ B.free)) fun b u x => Heap.get?_push_of_some _ (Heap.get?_push_of_some _ x)⟩
/-- the tuple at a as it stands at each turn, each item in a new pair with its place -/
def IteT (K : PySem.W.Frag) (a : Addr) : It where
  go := fun i H => ∃ xs x, SqT K H a xs ∧ xs[i]? = some x
  yld := fun i H v H' => ∃ T x, v = .ref T ∧ H T = none ∧ H' = upd H T (.tup [.int (i : Nat), x]) ∧ ∀ us, SqT K H a us → us[i]? = some x
  stop := fun i H => ∃ xs, SqT K H a xs ∧ i = xs.length
section
variable {P : Program} {w : World} {K : PySem.W.Frag} {es : List Expr} {n : Nat} {tp : Pos}
theorem turn_enumT {a e t : Addr} (ne : e ≠ t) (na : a ≠ t) (ae : a ≠ e) : Turn P w K (.Tuple es n tp) (IteT K a) [e, t] e (fun k h => (∃ old, IsEnum h e t (k : Int) old) ∧ h.IsTupleIter t a k) := by
  refine { mem := by simp, obj := ?obj, keep := ?keep, item := ?item, done := ?done, self := fun _ _ _ _ _ st h => let ⟨⟨_, q⟩, _⟩ := st; wpAny_pyIter_enum q h }
  case obj =>
    rintro k h ⟨⟨old, s1⟩, ⟨o1, p1, _, p2⟩⟩ c hc
    rcases List.mem_cons.mp hc with rfl | hc
    · exact ⟨_, s1, fun v q => nomatch q⟩
    · rw [List.mem_singleton.mp hc]
      exact ⟨o1, p1, fun v q => by rw [p2] at q; cases q⟩
  case keep =>
    rintro k h h' ⟨⟨old, s1⟩, s2⟩ kp
    exact ⟨⟨old, kp e (by simp) _ s1⟩, s2.at fun _ q => kp t (by simp) _ q⟩
  case item =>
    rintro X rfl rfl rfl hc k pins s σ H E I hf ⟨⟨old, s1⟩, s2⟩ ⟨xs, x, qx, gx⟩
    obtain ⟨its, r1, p1, _⟩ := I.tuple qx
    obtain ⟨w1, f1, rw1⟩ := r1.get gx
    have b1 : k < its.toArray.size := by rw [List.size_toArray]; exact (List.getElem?_eq_some_iff.mp f1).1
    have hh : X.A.in1.handled = none := I.ok.hd hc
    have elt := Heap.lt_size s1
    have hef : e ∉ [t, a] := fun hm => by
      rcases List.mem_cons.mp hm with q | q
      · exact ne q
      · exact ae (List.mem_singleton.mp q).symm
    refine wpAny_pyNext_enum_itemD (Draws.tuple hh t a na its.toArray) s1 ⟨s2, p1⟩ b1 ne hef fun x1 h' tk hP ho hs' hT hsz hk => ?_
    have ex1 : x1 = w1 := by
      have : its[k]? = some x1 := by simpa using hP
      rw [f1] at this; exact (Option.some.inj this).symm
    subst ex1
    refine ⟨_, rfl, wpAny_letOwnedTupleGo_enum (s := { s with heap := h', toks := tk + 1 }) ho fun h2 he2 sb => ?_⟩
    have g2 : ∀ c ob, c ≠ e → h'.get? c = some ob → h2.get? c = some ob := fun c ob nc q => (sb.2 c nc).trans q
    have T2 := g2 _ _ (Nat.ne_of_gt elt) hT
    have nw : ObjOk X.prog X.w (upd H s.heap.objs.size (.tup [.int (k : Nat), x])) h2 s.heap.objs.size (.tup [.int (k : Nat), x]) := ⟨(by show 2 ≤ sizeLine; decide), [.int k tk, x1], .cons ⟨_, rfl⟩ (.cons rw1 .nil), ⟨_, T2, rfl, _, rfl⟩⟩
    have I1 : Inv X pins σ (upd H s.heap.objs.size (.tup [.int (k : Nat), x])) { s with heap := h2, toks := tk + 1 } := I.turnedNew (ch := [e, t]) (fun c ob hb q => by
      have n1 : c ≠ e := fun z => hb (by simp [z])
      have n2 : c ≠ t := fun z => hb (by simp [z])
      exact g2 _ _ n1 (hk c ob n1 n2 q)) hf (Nat.le_refl _) nw
    refine ⟨.ref s.heap.objs.size, _, I1, rfl, ⟨_, x, rfl, I.hok.fresh (Nat.le_refl _), rfl, fun us hu => by rw [I.tuple_inj hu qx]; exact gx⟩, ⟨⟨x1, ?_⟩, hs'.1.at fun _ q => g2 _ _ (Ne.symm ne) q⟩, fun c hcm => ?_⟩
    · have e1 : ((k + 1 : Nat) : Int) = (k : Int) + 1 := by omega
      rw [e1]; exact he2
    · have lt : c < s.heap.objs.size := by
        rcases List.mem_cons.mp hcm with rfl | hcm
        · exact elt
        · rw [List.mem_singleton.mp hcm]
          obtain ⟨_, q, _⟩ := s2; exact Heap.lt_size q
      rw [upd_ne (Nat.ne_of_lt lt)]
      exact (hf c hcm).1
  case done =>
    rintro X rfl rfl rfl hc k pins s σ H E I hf ⟨⟨old, s1⟩, s2⟩ ⟨xs, qx, l1⟩
    obtain ⟨its, r1, p1, _⟩ := I.tuple qx
    have n1 : its.toArray.size = xs.length := by rw [List.size_toArray]; exact r1.length.symm
    have hh : X.A.in1.handled = none := I.ok.hd hc
    have s2' : s.heap.IsTupleIter t a its.toArray.size := by rw [n1, ← l1]; exact s2
    refine wpAny_pyNext_enum_endD (Draws.tuple hh t a na its.toArray) s1 ⟨s2', p1⟩ fun h' kp => ⟨rfl, I.turnedL (ch := [e, t]) (fun c ob hb q => ?_) hf⟩
    exact kp c ob (fun z => hb (by simp [z])) q
end
def iEnumT (K : PySem.W.Frag) (ta : TA) : TI := fun σ H R => ta σ H fun vs H1 => ∃ a xs, vs = [.ref a] ∧ SqT K H1 a xs ∧ R (IteT K a) H1
theorem pi_enumT {X : Cx} {e : Expr} {ta : TA} {p pos tp : Pos} {es : List Expr} {n : Nat} (hg : Gl X "enumerate") (hm : X.mg "enumerate" = none) (ha : PA X [e] ta) (hs : starEach [e] X.env = [(false, eval e X.env)] := by rfl) : PI X (.Tuple es n tp) (.Call (.Name "enumerate" p) [e] [] pos) (iEnumT X.K ta) := by
  constructor
  intro pins s σ H R I h
  refine Call_ (ld_blt I hg hm boot_enumerate (PyProof.Rows.callWith_type1 (thn (ha.run pos pins s σ H _ I h) ?_) hs rfl))
  rintro us s1 ⟨vs, H1, I1, r1, a, xs, rfl, qx, q⟩
  obtain ⟨v1, rfl, rv1⟩ := vals1 r1
  cases rv1
  obtain ⟨its, _, p1, _⟩ := I1.tuple qx
  have alt : a < s1.heap.objs.size := by obtain ⟨_, g1, _⟩ := id p1; exact Heap.lt_size g1
  refine call_enum1 (begins_tuple a its.toArray) p1 fun h' he hit kp => wpAny_pyIter_enum he ?_
  refine ⟨s1.heap.objs.size + 1, [s1.heap.objs.size + 1, s1.heap.objs.size], _, _, H1, rfl, I1.kept (t' := s1.toks) kp, turn_enumT (Nat.succ_ne_self _) (Nat.ne_of_lt alt) (Nat.ne_of_lt (Nat.lt_succ_of_lt alt)), ⟨⟨.none, he⟩, ⟨_, hit, rfl, rfl⟩⟩, fun c hc => ?_, q⟩
  have le : s1.heap.objs.size ≤ c := by
    rcases List.mem_cons.mp hc with rfl | hc
    · exact Nat.le_add_right _ _
    · rw [List.mem_singleton.mp hc]; exact Nat.le_refl _
  exact I1.fpOk le (I1.hok.fresh le)
/-- a loop over enumerate of a tuple -/
theorem for_enumT {K : PySem.W.Frag} {a : Addr} {xs : List V} {g : TG} {tb : TS} {D : Ends} {σ : L2.St} {H : Hp} (Pv : Nat → L2.St → Hp → Prop) (h0 : Pv 0 σ H) (hq : ∀ i σ H, Pv i σ H → SqT K H a xs)
    (hs : ∀ (i : Nat) (x : V) (T : Addr) (σ : L2.St) (H : Hp), xs[i]? = some x → Pv i σ H → H T = none → g (.ref T) σ (upd H T (.tup [.int (i : Nat), x])) fun σ2 H2 => tb { D with nx := Pv (i + 1), ct := Pv (i + 1), bk := D.nx } σ2 H2) (hd : ∀ σ H, Pv xs.length σ H → D.nx σ H) :
    ∃ W : Nat → Nat → L2.St → Hp → Prop, (∃ m, W 0 m σ H) ∧ ∀ i m σ H, W i m σ H → ((IteT K a).stop i H ∧ D.nx σ H) ∨ ((IteT K a).go i H ∧ ∃ N : L2.St → Hp → Prop, (∀ σ' H', N σ' H' → ∃ m', m' < m ∧ W (i + 1) m' σ' H') ∧ ∀ v H', (IteT K a).yld i H v H' → g v σ H' fun σ2 H2 => tb { D with nx := N, ct := N, bk := D.nx } σ2 H2) := by
  refine ⟨fun i m σ H => m = xs.length - i ∧ i ≤ xs.length ∧ Pv i σ H, ⟨_, rfl, Nat.zero_le _, h0⟩, ?_⟩
  rintro i m σ H ⟨rfl, hi, p⟩
  have qx := hq i σ H p
  by_cases hlt : i < xs.length
  · refine .inr ⟨⟨xs, xs[i], qx, List.getElem?_eq_getElem hlt⟩, Pv (i + 1), fun σ' H' p' => ⟨_, by omega, rfl, hlt, p'⟩, ?_⟩
    rintro v H' ⟨T, x', rfl, hT, rfl, f1⟩
    exact hs i x' T σ H (f1 xs qx) p hT
  · obtain rfl : i = xs.length := by omega
    exact .inl ⟨⟨xs, qx, rfl⟩, hd σ H p⟩
/-- a loop over enumerate of a list -/
theorem for_enumL {K : PySem.W.Frag} {a : Addr} {xs : List V} {g : TG} {tb : TS} {D : Ends} {σ : L2.St} {H : Hp} (Pv : Nat → L2.St → Hp → Prop) (h0 : Pv 0 σ H) (hq : ∀ i σ H, Pv i σ H → SqL K H a xs)
    (hs : ∀ (i : Nat) (x : V) (T : Addr) (σ : L2.St) (H : Hp), xs[i]? = some x → Pv i σ H → H T = none → g (.ref T) σ (upd H T (.tup [.int (i : Nat), x])) fun σ2 H2 => tb { D with nx := Pv (i + 1), ct := Pv (i + 1), bk := D.nx } σ2 H2) (hd : ∀ σ H, Pv xs.length σ H → D.nx σ H) :
    ∃ W : Nat → Nat → L2.St → Hp → Prop, (∃ m, W 0 m σ H) ∧ ∀ i m σ H, W i m σ H → ((Ite K a).stop i H ∧ D.nx σ H) ∨ ((Ite K a).go i H ∧ ∃ N : L2.St → Hp → Prop, (∀ σ' H', N σ' H' → ∃ m', m' < m ∧ W (i + 1) m' σ' H') ∧ ∀ v H', (Ite K a).yld i H v H' → g v σ H' fun σ2 H2 => tb { D with nx := N, ct := N, bk := D.nx } σ2 H2) := by
  refine ⟨fun i m σ H => m = xs.length - i ∧ i ≤ xs.length ∧ Pv i σ H, ⟨_, rfl, Nat.zero_le _, h0⟩, ?_⟩
  rintro i m σ H ⟨rfl, hi, p⟩
  have qx := hq i σ H p
  by_cases hlt : i < xs.length
  · refine .inr ⟨⟨xs, xs[i], qx, List.getElem?_eq_getElem hlt⟩, Pv (i + 1), fun σ' H' p' => ⟨_, by omega, rfl, hlt, p'⟩, ?_⟩
    rintro v H' ⟨T, x', rfl, hT, rfl, f1⟩
    exact hs i x' T σ H (f1 xs qx) p hT
  · obtain rfl : i = xs.length := by omega
    exact .inl ⟨⟨xs, qx, Nat.le_refl _⟩, hd σ H p⟩
theorem iteT' {c : Bool} {A B : Prop} (e : c = true) (h : A) : if c = true then A else B := by rw [if_pos e]; exact h
theorem iteF' {c : Bool} {A B : Prop} (e : c = false) (h : B) : if c = true then A else B := by rw [if_neg (by rw [e]; decide)]; exact h
end KG

/-! small things that the laws' own bodies share -/
namespace KG
open PySem PySem.Spec PyProof.Rows L2
theorem same_but {p : Addr} {H H1 H2 : Hp} (s : Same H H1) (b : But p H1 H2) (n : H p = none) : Same H H2 := fun c o e => b c o (fun z => by rw [z, n] at e; cases e) (s c o e)
theorem seqO {K : PySem.W.Frag} {p a : Addr} {H H1 : Hp} {xs : List V} (h : SqL K H a xs) (n : H p = none) (s : Same H H1) : SqO K H1 p a xs := fun o => Same.seq (same_put s n) h
theorem cut_one (xs : List V) : (cutV xs none (some 1)).length ≤ 1 := by
  unfold cutV
  rw [HT.sIx_none, List.length_take, show HT.sIx xs.length xs.length (some 1) = min 1 xs.length from HT.sIx_nat _ _ 1]
  omega
theorem ne_lists {K : PySem.W.Frag} {H : Hp} {a b : Addr} {r q : List Int} {Q : VK} (h1 : SqL K H a (r.map V.int)) (h2 : SqL K H b (q.map V.int)) (k : Q (.bl (!decide (r = q))) H) : rNeD K (.ref a) (.ref b) H Q :=
  ⟨_, _, .lst h1 (dp_all r), .lst h2 (dp_all q), shaped_l r, shaped_l q, by rw [eqv_l]; exact k⟩
theorem small_new {ss : List Stp} {m : Int} {s : Stp} (h : SNew ss m s) (hm : m < 2 ^ 1000) (hl : ss.length ≤ 100000) : ∀ n ∈ s.ns, n.natAbs.log2 < 1920 := by
  have lg : ∀ n : Int, n.natAbs < 2 ^ 1000 → n.natAbs.log2 < 1920 := fun n h => log_small (n := 1000) h (by decide) (by decide)
  have big : (100000 : Nat) < 2 ^ 1000 := by decide +kernel
  have hm' : ∀ n : Int, -m ≤ n → n ≤ m → n.natAbs < 2 ^ 1000 := fun n a b => by
    have e : ((2 ^ 1000 : Nat) : Int) = (2 : Int) ^ 1000 := by decide +kernel
    have h3 : (n.natAbs : Int) ≤ m := by omega
    have h4 : (n.natAbs : Int) < ((2 ^ 1000 : Nat) : Int) := by rw [e]; exact Int.lt_of_le_of_lt h3 hm
    exact Int.ofNat_lt.mp h4
  have nm : ∀ b i, Nm1 ss b i → i.natAbs < 2 ^ 1000 := fun b i ⟨h0, s, hs, _⟩ => by
    have := (List.getElem?_eq_some_iff.mp hs).1
    exact Nat.lt_of_lt_of_le (show i.natAbs < 100001 by omega) big
  rcases h with ⟨x, y, rfl, a, b, c, d⟩ | ⟨i, j, rfl, a, b⟩ | ⟨i, j, k, rfl, a, b, c⟩ | ⟨i, j, w, rfl, a, b, c, d⟩
  · intro n hn
    rcases List.mem_cons.mp hn with rfl | hn
    · exact lg _ (hm' _ a b)
    · rw [List.mem_singleton.mp hn]; exact lg _ (hm' _ c d)
  · intro n hn
    rcases List.mem_cons.mp hn with rfl | hn
    · exact lg _ (nm _ _ a)
    · rw [List.mem_singleton.mp hn]; exact lg _ (nm _ _ b)
  · intro n hn
    rcases List.mem_cons.mp hn with rfl | hn
    · exact lg _ (nm _ _ a)
    rcases List.mem_cons.mp hn with rfl | hn
    · exact lg _ (nm _ _ b)
    · rw [List.mem_singleton.mp hn]; exact lg _ (nm _ _ c)
  · intro n hn
    rcases List.mem_cons.mp hn with rfl | hn
    · exact lg _ (nm _ _ a)
    rcases List.mem_cons.mp hn with rfl | hn
    · exact lg _ (nm _ _ b)
    · rw [List.mem_singleton.mp hn]; exact lg _ (Nat.lt_of_lt_of_le (show w.natAbs < 100001 by omega) big)
/-- a def that may raise, asked where it doesn't -/
theorem quiet {P : Program} {w : World} {K : PySem.W.Frag} {mg : Str → Option Value} {base : Heap} {k : Nat} {f : Addr} {fd : FuncData} {ps : List Str} {sp : Sp} (F : FnOk P w K mg base (L2.CX P w) k f fd ps sp) : FnOk P w K mg base CX0 k f fd ps (fun vs H Q _ => sp vs H Q fun _ _ _ => False) :=
  ⟨fun vs H Q E q => F.len _ _ _ _ q, fun A outer s H args us vs Q E hr he hb hv hs => codeAny_mono (F.run A outer s H args us vs Q _ hr he hb hv hs) fun r s2 h => by
    match r, h with
    | .ok (.ret u), h => exact h
    | .ok .next, h => exact False.elim h
    | .ok .brk, h => exact False.elim h
    | .ok .cont, h => exact False.elim h
    | .error e, h =>
      obtain ⟨_, _, _, _, _, _, _, _, _, _, _, _, h⟩ := h
      exact False.elim h⟩
end KG

/-! rules that read the written part, said with its name: for use within a comprehension -/
namespace KG
open PySem PySem.Spec PyProof.Rows L2
def rJoin (K : PySem.W.Frag) : V → List V → Hp → VK → Prop := fun x xs H Q => ∃ a p, ∃ ys : List Str, x = .str a ∧ xs = [.ref p] ∧ (SqL K H p (ys.map V.str) ∨ SqT K H p (ys.map V.str)) ∧ (ys.map (·.length)).sum + ys.length * a.length ≤ 16777216 ∧ Q (.str (Txt.join a ys)) H
section
variable {X : Cx} {K : PySem.W.Frag}
theorem pe_joinK {o e : Expr} {to te : TE} {apos pos : Pos} (eK : X.K = K) (ho : PE X o to) (he : PE X e te) (hs : starEach [e] X.env = [(false, eval e X.env)] := by rfl) (hbase : attributeBase o "join" X.env (eval o X.env) = eval o X.env := by rfl) (hline : (apos.endLine == pos.line) = true := by rfl) :
    PE X (.Call (.Attribute o "join" apos) [e] [] pos) (tM1 (rJoin K) to te) := by subst eK; exact pe_join ho he hs hbase hline
theorem pi_tupK {tg e : Expr} {te : TE} (eK : X.K = K) (he : PE X e te) : PI X tg e (iTup K te) := by subst eK; exact pi_tup he
theorem pi_listK {tg e : Expr} {te : TE} (eK : X.K = K) (he : PE X e te) : PI X tg e (iList K te) := by subst eK; exact pi_list he
end
end KG

/-! code that is never reached; methods that may be called; self.a in a tuple of targets; comprehensions whose elements are laid -/
namespace KG
open PySem PySem.Spec PyProof.Rows L2
theorem pss_nev {X : Cx} {ss : List Stmt} : PSs X ss (fun _ _ _ => False) := ⟨fun _ _ _ _ _ _ h => h.elim⟩
theorem ps_nev {X : Cx} {st : Stmt} : PS X st (fun _ _ _ => False) := ⟨fun _ _ _ _ _ _ h => h.elim⟩
theorem pe_nev {X : Cx} {e : Expr} : PE X e (fun _ _ _ => False) := ⟨fun _ _ _ _ _ _ h => h.elim⟩
theorem pt_nev {X : Cx} {e : Expr} : PT X e (fun _ _ _ => False) := ⟨fun _ _ _ _ _ _ h => h.elim⟩
/-- a method that may be called -/
structure MCal (P : Program) (w : World) (K : PySem.W.Frag) (mg : Str → Option Value) (base : Heap) (k : Nat) (C : Addr) (m : Str) (ps : List Str) (sp : Sp) where
  f : Addr
  fd : FuncData
  ok : FnOk P w K mg base CX0 k f fd ps sp
  b : Binds K fd ps []
  m : Meth K C m f
theorem Cal.up {P : Program} {w : World} {K : PySem.W.Frag} {mg : Str → Option Value} {base : Heap} {k : Nat} {x : Str} {ps : List Str} {sp : Sp} (_ : Cal P w K mg base k x ps sp) : True := trivial
def gAtt (K : PySem.W.Frag) (ta : TE) (f : Str) : TG := fun y σ H Q => ta σ H fun x H2 => ∃ a C dx fs, x = .ref a ∧ H2 a = some (.ins C dx fs) ∧ Cls K C ∧ NoAttr K C f ∧ fs.length < 1000 ∧ Q σ (upd H2 a (.ins C dx (putF f y fs)))
theorem pg_att {X : Cx} {o : Expr} {ta : TE} {f : Str} {pos : Pos} (ho : PE X o ta)
    (ha : ∀ v, assign (.Attribute o f pos) X.env v = (do { let ov ← holding [v] (eval o X.env); standAt pos.atName; holding [v, ov] (setAttr ov f v); release [v, ov] [] }) := by intro _; rfl) : PG X (.Attribute o f pos) (gAtt X.K ta f) := by
  refine ⟨fun pins s σ H v u Q I r h => ?_⟩
  rw [ha]
  refine wpAny_bind (wpAny_holding (thn (ho.run pins s σ H _ I h) fun ov s1 ⟨x, H1, I1, r1, a, C, dx, fs, ex, ea, c, n, l, q⟩ => ?_))
  subst ex
  obtain rfl : ov = Value.ref a := r1
  refine wpAny_bind (wpAny_standAt (wpAny_bind (wpAny_holding (setattr_ok I1 ea c n l r fun s3 I3 => ?_))))
  exact wpAny_release ⟨σ, _, I3, q⟩
/-! comprehensions whose elements are laid anew: R j H y tells what stands for the j-th element -/
def Kept (H H' : Hp) : Prop := ∀ b o, (∀ l, o ≠ .lst l) → H b = some o → H' b = some o
theorem Kept.of {H H' : Hp} (s : Same H H') : Kept H H' := fun b o _ h => s b o h
theorem Kept.put {H : Hp} {D : Addr} {l : List V} {o : HO} (h : H D = some (.lst l)) : Kept H (upd H D o) := fun b u n e => by
  rw [upd_ne (fun z => by rw [z, h] at e; exact n l (Option.some.inj e).symm)]; exact e
section
variable {K : PySem.W.Frag} {a D : Addr} {xs : List V} {g : TG} {te : TE} {vs : List Nat} {σ : L2.St} {H1 : Hp} {Qd : Hp → Prop}
theorem compR_list (R : Nat → Hp → V → Prop) (mono : ∀ j H H' y, Kept H H' → R j H y → R j H' y) (hx : SqL K H1 a xs) (hD : H1 D = none) (hl : xs.length ≤ 1000)
    (hs : ∀ (i : Nat) (x : V) (H : Hp) (Nx : V → Hp → Prop), xs[i]? = some x → Same H1 H → (∀ H' y, Same H H' → R i H' y → Nx y H') → g x (wipe σ vs) H fun σ2 H2 => wipe σ2 vs = wipe σ vs ∧ te σ2 H2 Nx)
    (hd : ∀ H ys, Same H1 H → H D = some (.lst ys) → ys.length = xs.length → (∀ (j : Nat) y, ys[j]? = some y → R j H y) → Qd H) :
    ∃ W : Nat → Nat → Hp → Prop, (∃ m, W 0 m (upd H1 D (.lst []))) ∧ ∀ i m H, W i m H →
      ((Itl K a).stop i H ∧ Qd H) ∨ ((Itl K a).go i H ∧ ∃ Nx : Hp → Prop, (∀ H', Nx H' → ∃ m', m' < m ∧ W (i + 1) m' H') ∧ ∀ x H', (Itl K a).yld i H x H' → g x (wipe σ vs) H' fun σ2 H2 => wipe σ2 vs = wipe σ vs ∧ tYes σ2 H2 fun b H3 =>
        if b = true then te σ2 H3 fun y H4 => ∃ acc, H4 D = some (.lst acc) ∧ acc.length < sizeLine ∧ Nx (upd H4 D (.lst (acc ++ [y]))) else Nx H3) := by
  refine lc_list (xs := xs) (fun i H => Same H1 H ∧ ∃ ys, H D = some (.lst ys) ∧ ys.length = i ∧ ∀ (j : Nat) y, ys[j]? = some y → R j H y) ⟨same_new hD _, [], upd_same, rfl, fun j y h => by simp at h⟩ (fun i H _ h => h.1.seq hx) (fun i x H hix h => ?_) (fun H h => ?_)
  · obtain ⟨sm, ys, hy, hyl, hr⟩ := h
    have hi : i < xs.length := (List.getElem?_eq_some_iff.mp hix).1
    have := hs i x H (fun y H4 => ∃ acc, H4 D = some (.lst acc) ∧ acc.length < sizeLine ∧ (Same H1 (upd H4 D (.lst (acc ++ [y]))) ∧ ∃ ys, (upd H4 D (.lst (acc ++ [y]))) D = some (.lst ys) ∧ ys.length = i + 1 ∧ ∀ (j : Nat) z, ys[j]? = some z → R j (upd H4 D (.lst (acc ++ [y]))) z)) hix sm
      (fun H' y s' hR => by
        have hD' := s' _ _ hy
        refine ⟨ys, hD', small1000 (by omega), fun b o e => by rw [upd_ne (ne_of_none e hD)]; exact s' _ _ (sm b o e), ys ++ [y], upd_same, by rw [List.length_append, hyl]; rfl, fun j z hz => ?_⟩
        rcases Nat.lt_or_ge j ys.length with hj | hj
        · rw [List.getElem?_append_left hj] at hz
          exact mono _ _ _ _ (Kept.put hD') (mono _ _ _ _ (.of s') (hr j z hz))
        · rw [List.getElem?_append_right hj] at hz
          have hj2 : j - ys.length = 0 := by
            have := (List.getElem?_eq_some_iff.mp hz).1
            rw [List.length_singleton] at this; omega
          rw [hj2] at hz
          obtain rfl : y = z := Option.some.inj hz
          have hji : j = i := by omega
          rw [hji]
          exact mono _ _ _ _ (Kept.put hD') hR)
    exact this
  · obtain ⟨sm, ys, hy, hyl, hr⟩ := h
    exact hd H ys sm hy hyl hr
theorem compR_tup (R : Nat → Hp → V → Prop) (mono : ∀ j H H' y, Kept H H' → R j H y → R j H' y) (hx : SqT K H1 a xs) (hD : H1 D = none) (hl : xs.length ≤ 1000)
    (hs : ∀ (i : Nat) (x : V) (H : Hp) (Nx : V → Hp → Prop), xs[i]? = some x → Same H1 H → (∀ H' y, Same H H' → R i H' y → Nx y H') → g x (wipe σ vs) H fun σ2 H2 => wipe σ2 vs = wipe σ vs ∧ te σ2 H2 Nx)
    (hd : ∀ H ys, Same H1 H → H D = some (.lst ys) → ys.length = xs.length → (∀ (j : Nat) y, ys[j]? = some y → R j H y) → Qd H) :
    ∃ W : Nat → Nat → Hp → Prop, (∃ m, W 0 m (upd H1 D (.lst []))) ∧ ∀ i m H, W i m H →
      ((Itt K a).stop i H ∧ Qd H) ∨ ((Itt K a).go i H ∧ ∃ Nx : Hp → Prop, (∀ H', Nx H' → ∃ m', m' < m ∧ W (i + 1) m' H') ∧ ∀ x H', (Itt K a).yld i H x H' → g x (wipe σ vs) H' fun σ2 H2 => wipe σ2 vs = wipe σ vs ∧ tYes σ2 H2 fun b H3 =>
        if b = true then te σ2 H3 fun y H4 => ∃ acc, H4 D = some (.lst acc) ∧ acc.length < sizeLine ∧ Nx (upd H4 D (.lst (acc ++ [y]))) else Nx H3) := by
  refine lc_tup (xs := xs) (fun i H => Same H1 H ∧ ∃ ys, H D = some (.lst ys) ∧ ys.length = i ∧ ∀ (j : Nat) y, ys[j]? = some y → R j H y) ⟨same_new hD _, [], upd_same, rfl, fun j y h => by simp at h⟩ (fun i H _ h => Same.seqT h.1 hx) (fun i x H hix h => ?_) (fun H h => ?_)
  · obtain ⟨sm, ys, hy, hyl, hr⟩ := h
    have hi : i < xs.length := (List.getElem?_eq_some_iff.mp hix).1
    have := hs i x H (fun y H4 => ∃ acc, H4 D = some (.lst acc) ∧ acc.length < sizeLine ∧ (Same H1 (upd H4 D (.lst (acc ++ [y]))) ∧ ∃ ys, (upd H4 D (.lst (acc ++ [y]))) D = some (.lst ys) ∧ ys.length = i + 1 ∧ ∀ (j : Nat) z, ys[j]? = some z → R j (upd H4 D (.lst (acc ++ [y]))) z)) hix sm
      (fun H' y s' hR => by
        have hD' := s' _ _ hy
        refine ⟨ys, hD', small1000 (by omega), fun b o e => by rw [upd_ne (ne_of_none e hD)]; exact s' _ _ (sm b o e), ys ++ [y], upd_same, by rw [List.length_append, hyl]; rfl, fun j z hz => ?_⟩
        rcases Nat.lt_or_ge j ys.length with hj | hj
        · rw [List.getElem?_append_left hj] at hz
          exact mono _ _ _ _ (Kept.put hD') (mono _ _ _ _ (.of s') (hr j z hz))
        · rw [List.getElem?_append_right hj] at hz
          have hj2 : j - ys.length = 0 := by
            have := (List.getElem?_eq_some_iff.mp hz).1
            rw [List.length_singleton] at this; omega
          rw [hj2] at hz
          obtain rfl : y = z := Option.some.inj hz
          have hji : j = i := by omega
          rw [hji]
          exact mono _ _ _ _ (Kept.put hD') hR)
    exact this
  · obtain ⟨sm, ys, hy, hyl, hr⟩ := h
    exact hd H ys sm hy hyl hr
end
end KG

set_option maxHeartbeats 4000000
/-! tuple * 0 -/
namespace KG
open PySem PySem.Spec PyProof.Rows L2
theorem tuple_mul0 (l : Addr) (items : Array Value) (n : Nat) (dd : Option Addr) (sl : Array (Option Value)) (u : Tok) (c0 : (decide ((0 : Int) < -(2 ^ 63)) || decide ((0 : Int) ≥ 2 ^ 63)) = false) (c1 : (items.isEmpty || (0 : Int) == 1) = false) (c2 : (decide ((0 : Int) ≤ 0) || items.isEmpty) = true) (hsz : (#[] : Array Value).size ≤ sizeLine) :
    Meets (Builtin.«tuple.__mul__» ⟨[.ref l, .int 0 u], []⟩) (fun _ R s => s.heap.get? l = some { cls := .type "tuple", dict := dd, data := .seq items n, slots := sl } ∧
      R (.ok (.ret (Value.ref s.heap.objs.size))) { s with heap := s.heap.push { cls := Value.type "tuple", data := Data.seq #[] }, toks := s.toks }) :=
  .of_wp fun prog w A R s h => by
    obtain ⟨hp0, g0, d0, tk0, os0⟩ := s
    obtain ⟨hl, h⟩ := h
    have f1 := AutoSeq1.idx_int
    wp_walk using wpAny_loadPart' hl
    repeat (first | (refine wpAny_ite_false (decide_eq_false (by rw [c0]; exact Bool.false_ne_true)) ?_; wp_walk using wpAny_loadPart' hl) | (refine wpAny_ite_false (decide_eq_false (by rw [c1]; exact Bool.false_ne_true)) ?_; wp_walk using wpAny_loadPart' hl) | (refine wpAny_ite_true (decide_eq_true c2) ?_; wp_walk using wpAny_loadPart' hl) | (refine wpAny_ite_false (decide_eq_false (Nat.not_lt.mpr hsz)) ?_; wp_walk using wpAny_loadPart' hl))
    exact ⟨_, rfl, h⟩
def rRep0 (K : PySem.W.Frag) : R2 := fun x y H Q => ∃ l xs, x = .ref l ∧ y = .int 0 ∧ SqT K H l xs ∧ xs ≠ [] ∧ ∀ p, H p = none → Q (.ref p) (upd H p (.tup []))
theorem op_rep0 {X : Cx} : OpR X (binaryOp .Mult) (rRep0 X.K) := by
  intro pins s σ H x y v u Q I rx ry h
  obtain ⟨l, xs, rfl, rfl, hT, hne, q⟩ := h
  cases rx
  obtain ⟨t, rfl⟩ := ry
  obtain ⟨its, r, ⟨⟨cl0, dd, dt0, sl⟩, ho, hc, n, hd⟩, hsz0⟩ := I.tuple hT
  simp only at hc hd
  subst hc hd
  have hLen : its.length = xs.length := r.length.symm
  have hi : its.toArray.isEmpty = false := by
    cases its with
    | nil => exact absurd (List.eq_nil_of_length_eq_zero hLen.symm) hne
    | cons a b => rfl
  refine wpAny_binaryOp_repeat_ref (T := "tuple") (U := "int") (by decide) ⟨_, ho, rfl⟩ (fun s' => typeIs_int s' 0 t) noFill_tuple_mul F.fills_int_mul F.slot_int_rmul repeat_tuple F.slot_int_index.lookup
    (call_meets F.slot_int_rmul (typeIs_int s 0 t) F.entry_int_rmul (F.args_int_rmul_2 _ _) (int_rmul_tuple 0 t l its.toArray n dd sl)
      ⟨ho, rfl, ⟨_, ho, rfl⟩, call_meets F.slot_tuple_mul ⟨_, ho, rfl⟩ F.entry_tuple_mul (F.args_tuple_mul_2 _ _) (tuple_mul0 l its.toArray n dd sl t (by decide) (by rw [hi]; decide) (by rw [hi]; decide) (by show 0 ≤ sizeLine; decide)) ⟨ho, ?_⟩⟩)
  refine ⟨.ref s.heap.objs.size, _, I.laid (t' := s.toks) (o := .tup []) (fun b ob q => Heap.get?_push_of_some _ q) (Nat.le_refl _) ?_, rfl, q _ (I.hok.fresh (Nat.le_refl _))⟩
  exact ⟨by show 0 ≤ sizeLine; decide, [], .nil, IsTup.new _ _⟩
end KG

namespace KO
open PySem PySem.Spec PyProof.Rows L2 KG
def topS (i : Nat) : Stmt := PySem.Challenge.pw_compasswork_k15_same_figures.main.body.getD i (.Pass ⟨0, 0, 0, 0⟩)
/-- the built-in names stand as they are -/
structure Names (mg : Str → Option Value) : Prop where
  ValueError : mg "ValueError" = none
  tuple : mg "tuple" = none
  any : mg "any" = none
  reversed : mg "reversed" = none
  enumerate : mg "enumerate" = none
  zip : mg "zip" = none
  range : mg "range" = none
  len : mg "len" = none
  max : mg "max" = none
  NotImplemented : mg "NotImplemented" = none
  abs : mg "abs" = none
  int : mg "int" = none
  isinstance : mg "isinstance" = none
  bool : mg "bool" = none
  min : mg "min" = none
  sum : mg "sum" = none
abbrev s_law_state : Stmt := topS 94
abbrev N_law_state : List Str := ["script", "mixed", "rest"]
theorem sc_law_state : FnScope N_law_state ["script"] (defScope s_law_state) := ⟨rfl, rfl, rfl, by decide +kernel, rfl, by decide +kernel, by decide +kernel⟩
abbrev s_law_take : Stmt := topS 95
abbrev N_law_take : List Str := ["state", "many", "cell", "drawn"]
theorem sc_law_take : FnScope N_law_take ["state", "many"] (defScope s_law_take) := ⟨rfl, rfl, rfl, by decide +kernel, rfl, by decide +kernel, by decide +kernel⟩
section
variable {P : Program} {w : World} {K : PySem.W.Frag} {mg : Str → Option Value} {base : Heap}
def sp_law_state (K : PySem.W.Frag) : Sp := fun vs H Q _ => ∃ (a : Addr) (ns : List Int), vs = [.ref a] ∧ SqL K H a (ns.map V.int) ∧ ns.length ≤ 63 ∧
  ∀ H' p, Same H H' → H p = none → StX H' p a ns → SqO K H' p a (ns.map V.int) → Q (.ref p) H'
theorem ok_law_state {f : Addr} {fd : FuncData} {k : Nat} (F : Fun K "_law_state" "_law_state" s_law_state f fd) (M : Names mg) : FnOk P w K mg base CX0 (k + 1) f fd ["script"] (sp_law_state K) := by
  refine F.ok sc_law_state (fun vs H Q E h => ?_) (fun cdv A outer s H vs Q E hr h => ?_)
  · obtain ⟨a, ns, rfl, _⟩ := h
    rfl
  obtain ⟨a, ns, rfl, hS, h63, q⟩ := h
  refine ⟨_, (pss_cons (ps_set (i := 1) sc_law_state.nd rfl (.inl rfl) pe_int)
    (pss_cons (ps_set (i := 2) sc_law_state.nd rfl (.inl rfl) pe_int)
    (pss_cons (ps_if (pt_cmpR op_gt (pe_callB call_len_seq (by rfl) M.len PySem.boot_len (pa_cons (pv 0) pa_nil)) pe_int (nomark _))
      (pss_cons (ps_set (i := 1) sc_law_state.nd rfl (.inl rfl) (pe_op op_mod (pe_callTy call_int1 (by rfl) M.int (by decide +kernel) (pa_cons (pe_ix ix_list (pv 0) pe_int (fun _ _ => rfl)) pa_nil)) pe_int))
      (pss_one (ps_set (i := 2) sc_law_state.nd rfl (.inl rfl) (pe_ix ix_list (pe_lst (pa_cons (pe_op op_fdiv (pe_callB call_abs (by rfl) M.abs (by decide +kernel) (pa_cons (pe_ix ix_list (pv 0) pe_int (fun _ _ => rfl)) pa_nil)) pe_int) (pa_cons pe_int pa_nil))) (pv 1) (fun _ _ => rfl)))))
      pss_nil)
    (pss_one (ps_ret (pe_lst (pa_cons (pv 0) (pa_cons (pv 2) (pa_cons pe_int (pa_cons (pv 1) (pa_cons (pe_lst pa_nil) (pa_cons pe_int (pa_cons pe_int (pa_cons pe_int pa_nil)))))))))))))), ?_⟩
  -- the end, once for both ways
  have fin : ∀ (r m : Int) (H1 : Hp), Same H H1 → StOk ns r 1 m → ∀ e, H1 e = none → ∀ p, (upd H1 e (.lst [])) p = none → Q (.ref p) (upd (upd H1 e (.lst [])) p (.lst (stL a e r 1 m))) := fun r m H1 sm ok e he p hp => by
    have s2 : Same H1 (upd H1 e (.lst [])) := same_new he _
    have s3 : Same (upd H1 e (.lst [])) (upd (upd H1 e (.lst [])) p (.lst (stL a e r 1 m))) := same_new hp _
    exact q _ p (sm.trans (s2.trans s3)) (sm.free (s2.free hp)) ⟨e, r, 1, m, upd_same, ok⟩ ((SqO.new (s2.seq (sm.seq hS)) hp).but (.put _ _))
  refine ⟨_, rfl, a, _, rfl, .inl hS, _, _, rfl, rfl, _, rfl, ite2 (fun c => ?_) (fun c => ?_)⟩
  · have hl : (ns.map V.int).length = ns.length := List.length_map _
    have hpos : 0 < ns.length := by
      have := of_decide_eq_true c
      rw [hl] at this; omega
    obtain ⟨v, hv⟩ := at_n (ns := ns) (i := 0) (by omega) (by omega)
    refine ⟨_, rfl, a, _, _, _, rfl, rfl, hS, hv, .inl ⟨_, rfl, ?_⟩⟩
    refine ⟨_, _, rfl, rfl, (by show (0 : Int) < 2; decide), ?_⟩
    refine ⟨_, rfl, a, _, _, _, rfl, rfl, hS, hv, _, rfl, _, _, rfl, rfl, ⟨by decide, by decide⟩, (by show 2 ≤ sizeLine; decide), fun t ht => ?_⟩
    have h2 : v % 2 = 0 ∨ v % 2 = 1 := by omega
    rcases h2 with h2 | h2
    · rw [show (fun i j => V.int (i % j)) v 2 = V.int 0 from congrArg V.int h2]
      refine ⟨_, rfl, t, _, 0, _, rfl, rfl, SqL.of upd_same, atI_nat (j := 0) rfl, ?_⟩
      refine ⟨_, rfl, _, rfl, _, rfl, Nat.zero_le _, fun e he => ⟨(by show 8 ≤ sizeLine; decide), fun p hp => ?_⟩⟩
      exact fin _ _ _ (same_new ht _) (.inr ⟨rfl, by split <;> omega, by decide⟩) e he p hp
    · rw [show (fun i j => V.int (i % j)) v 2 = V.int 1 from congrArg V.int h2]
      refine ⟨_, rfl, t, _, 1, _, rfl, rfl, SqL.of upd_same, atI_nat (j := 1) rfl, ?_⟩
      refine ⟨_, rfl, _, rfl, _, rfl, Nat.zero_le _, fun e he => ⟨(by show 8 ≤ sizeLine; decide), fun p hp => ?_⟩⟩
      exact fin _ _ _ (same_new ht _) (.inl ⟨rfl, hpos⟩) e he p hp
  · refine ⟨_, rfl, _, rfl, _, rfl, Nat.zero_le _, fun e he => ⟨(by show 8 ≤ sizeLine; decide), fun p hp => ?_⟩⟩
    exact fin _ _ _ (Same.refl _) (.inr ⟨rfl, by decide, by decide⟩) e he p hp
def sp_law_take (K : PySem.W.Frag) : Sp := fun vs H Q _ => ∃ (p a : Addr) (ns : List Int) (many : Int), vs = [.ref p, .int many] ∧ StX H p a ns ∧ SqO K H p a (ns.map V.int) ∧ 0 < many ∧ many.natAbs.log2 < 9000 ∧
  ∀ (d : Int) (H' : Hp), 0 ≤ d → d < many → StX H' p a ns → But p H H' → Q (.int d) H'
theorem ok_law_take {f : Addr} {fd : FuncData} {k : Nat} (F : Fun K "_law_take" "_law_take" s_law_take f fd) (M : Names mg) : FnOk P w K mg base CX0 (k + 1) f fd ["state", "many"] (sp_law_take K) := by
  refine F.ok sc_law_take (fun vs H Q E h => ?_) (fun cdv A outer s H vs Q E hr h => ?_)
  · obtain ⟨p, a, ns, many, rfl, _⟩ := h
    rfl
  obtain ⟨p, a, ns, many, rfl, ⟨e, r, c, m, hp, ok⟩, hS, h0, h9, q⟩ := h
  refine ⟨_, (pss_cons (ps_if (pt_cmpR op_eq (pe_ix ix_list (pv 0) pe_int (fun _ _ => rfl)) pe_int (nomark _))
      (pss_cons (ps_set (i := 2) sc_law_take.nd rfl (.inl rfl) (pe_ix ix_list (pe_ix ix_list (pv 0) pe_int (fun _ _ => rfl)) (pe_op op_mod (pe_callTy call_int1 (by rfl) M.int (by decide +kernel) (pa_cons (pe_ix ix_list (pv 0) pe_int (fun _ _ => rfl)) pa_nil)) (pe_callB call_len_seq (by rfl) M.len PySem.boot_len (pa_cons (pe_ix ix_list (pv 0) pe_int (fun _ _ => rfl)) pa_nil))) (fun _ _ => rfl)))
      (pss_cons (ps_asg (pe_op op_mod (pe_callTy call_int1 (by rfl) M.int (by decide +kernel) (pa_cons (pe_op op_add (pe_op op_add (pe_op op_add (pe_op op_mul (pe_ix ix_list (pv 0) pe_int (fun _ _ => rfl)) pe_int) (pe_op op_mul (pv 2) pe_int)) (pe_op op_mul (pe_ix ix_list (pv 0) pe_int (fun _ _ => rfl)) pe_int)) pe_int) pa_nil)) pe_int) (pg_sub (pv 0) pe_int set_list))
      (pss_cons (ps_asg (pe_op op_add (pe_ix ix_list (pv 0) pe_int (fun _ _ => rfl)) pe_int) (pg_sub (pv 0) pe_int set_list))
      (pss_one (ps_ret (pe_op op_mod (pe_op op_mod (pe_callTy call_int1 (by rfl) M.int (by decide +kernel) (pa_cons (pe_op op_add (pe_op op_mul (pe_ix ix_list (pv 0) pe_int (fun _ _ => rfl)) pe_int) pe_int) pa_nil)) pe_int) (pv 1)))))))
      pss_nil)
    (pss_cons (ps_if (pt_cmpR op_eq (pe_ix ix_list (pv 0) pe_int (fun _ _ => rfl)) pe_int (nomark _))
      (pss_cons (ps_if (pt_cmpR op_ge (pe_ix ix_list (pv 0) pe_int (fun _ _ => rfl)) (pe_callB call_len_seq (by rfl) M.len PySem.boot_len (pa_cons (pe_ix ix_list (pv 0) pe_int (fun _ _ => rfl)) pa_nil)) (nomark _))
        (pss_one (ps_ret pe_int))
        pss_nil)
      (pss_cons (ps_asg (pe_callB call_abs (by rfl) M.abs (by decide +kernel) (pa_cons (pe_ix ix_list (pe_ix ix_list (pv 0) pe_int (fun _ _ => rfl)) (pe_ix ix_list (pv 0) pe_int (fun _ _ => rfl)) (fun _ _ => rfl)) pa_nil)) (pg_sub (pv 0) pe_int set_list))
      (pss_one (ps_asg (pe_op op_add (pe_ix ix_list (pv 0) pe_int (fun _ _ => rfl)) pe_int) (pg_sub (pv 0) pe_int set_list)))))
      pss_nil)
    (pss_cons (ps_set (i := 3) sc_law_take.nd rfl (.inl rfl) (pe_op op_mod (pe_callTy call_int1 (by rfl) M.int (by decide +kernel) (pa_cons (pe_ix ix_list (pv 0) pe_int (fun _ _ => rfl)) pa_nil)) (pv 1)))
    (pss_cons (ps_asg (pe_op op_fdivW (pe_ix ix_list (pv 0) pe_int (fun _ _ => rfl)) (pv 1)) (pg_sub (pv 0) pe_int set_list))
    (pss_one (ps_ret (pv 3))))))), ?_⟩
  have hSn : SqL K H a (ns.map V.int) := hS.now hp
  have hl : (ns.map V.int).length = ns.length := List.length_map _
  refine ⟨_, rfl, p, _, 3, _, rfl, rfl, SqL.of hp, atI_nat (j := 3) rfl, rfl, _, rfl, ite2 (fun t1 => ?_) (fun t1 => ?_)⟩
  · -- mixed draws
    have m1 : m = 1 := V.int.inj (of_decide_eq_true t1)
    have npos : 0 < ns.length := by
      rcases ok with ⟨_, z⟩ | ⟨z, _⟩
      · exact z
      · omega
    obtain ⟨v, hv⟩ := at_n (ns := ns) (i := c % ((ns.map V.int).length : Nat)) (Int.emod_nonneg _ (by omega)) (by rw [hl]; exact Int.emod_lt_of_pos _ (by omega))
    refine ⟨_, rfl, p, _, 0, _, rfl, rfl, SqL.of hp, atI_nat (j := 0) rfl, _, rfl, p, _, 2, _, rfl, rfl, SqL.of hp, atI_nat (j := 2) rfl, .inl ⟨_, rfl, ?_⟩⟩
    refine ⟨_, rfl, p, _, 0, _, rfl, rfl, SqL.of hp, atI_nat (j := 0) rfl, a, _, rfl, .inl hSn, _, _, rfl, rfl, (by show (0 : Int) < ((ns.map V.int).length : Nat); omega), a, _, _, _, rfl, rfl, hSn, hv, ?_⟩
    -- state[1] = ..
    refine ⟨_, rfl, p, _, 1, _, rfl, rfl, SqL.of hp, atI_nat (j := 1) rfl, _, _, rfl, rfl, .inr ⟨by decide, by decide⟩, _, rfl, _, _, rfl, rfl, .inr ⟨by decide, by decide⟩, _, _, rfl, rfl, _, rfl, p, _, 2, _, rfl, rfl, SqL.of hp, atI_nat (j := 2) rfl, _, _, rfl, rfl, .inr ⟨by decide, by decide⟩, _, _, rfl, rfl, _, _, rfl, rfl, .inl ⟨_, rfl, ?_⟩⟩
    refine ⟨_, _, rfl, rfl, (by show (0 : Int) < 2147483647; decide), _, rfl, p, _, 1, 1, rfl, rfl, hp, rfl, ?_⟩
    -- state[2] = ..
    refine ⟨_, rfl, p, _, 2, _, rfl, rfl, SqL.of upd_same, atI_nat (j := 2) rfl, _, _, rfl, rfl, _, rfl, p, _, 2, 2, rfl, rfl, upd_same, rfl, ?_⟩
    refine ⟨_, rfl, p, _, 1, _, rfl, rfl, SqL.of upd_same, atI_nat (j := 1) rfl, _, _, rfl, rfl, .inr ⟨by decide, by decide⟩, _, _, rfl, rfl, .inl ⟨_, rfl, ?_⟩⟩
    refine ⟨_, _, rfl, rfl, (by show (0 : Int) < 2147483629; decide), _, rfl, _, _, rfl, rfl, h0, ?_⟩
    refine q _ _ (Int.emod_nonneg _ (by omega)) (Int.emod_lt_of_pos _ h0) ⟨e, _, _, m, upd_same, ?_⟩ ((But.put _ _).trans (.put _ _))
    exact .inl ⟨m1, npos⟩
  · -- whole numbers, drawn from by their rests
    have m0 : m = 0 ∧ 0 ≤ r ∧ 0 ≤ c := by
      rcases ok with ⟨z, _⟩ | z
      · exact absurd (by rw [z]; rfl) t1
      · exact z
    obtain ⟨rfl, r0, c0⟩ := m0
    have fin : ∀ (r1 c1 : Int) (H1 : Hp), 0 ≤ r1 → 0 ≤ c1 → But p H H1 → H1 p = some (.lst (stL a e r1 c1 0)) → ∀ d, d = r1 % many → Q (.int d) (upd H1 p (.lst (stL a e (r1 / many) c1 0))) := fun r1 c1 H1 k1 k2 k3 k4 d hd => by
      subst hd
      exact q _ _ (Int.emod_nonneg _ (by omega)) (Int.emod_lt_of_pos _ h0) ⟨e, _, _, 0, upd_same, .inr ⟨rfl, Int.ediv_nonneg k1 (by omega), k2⟩⟩ (k3.trans (.put _ _))
    refine ⟨_, rfl, p, _, 1, _, rfl, rfl, SqL.of hp, atI_nat (j := 1) rfl, rfl, _, rfl, ite2 (fun t2 => ?_) (fun t2 => ?_)⟩
    · refine ⟨_, rfl, p, _, 2, _, rfl, rfl, SqL.of hp, atI_nat (j := 2) rfl, _, rfl, p, _, 0, _, rfl, rfl, SqL.of hp, atI_nat (j := 0) rfl, a, _, rfl, .inl hSn, _, _, rfl, rfl, _, rfl, ite2 (fun t3 => ?_) (fun t3 => ?_)⟩
      · exact q _ _ (Int.le_refl 0) h0 ⟨e, r, c, 0, hp, ok⟩ (But.refl _ _)
      · have lt : c < ((ns.map V.int).length : Nat) := by
          have := of_decide_eq_false (Bool.eq_false_iff.mpr t3)
          omega
        obtain ⟨v, hv⟩ := at_n (ns := ns) (i := c) c0 (by omega)
        refine ⟨_, rfl, p, _, 0, _, rfl, rfl, SqL.of hp, atI_nat (j := 0) rfl, _, rfl, p, _, 2, _, rfl, rfl, SqL.of hp, atI_nat (j := 2) rfl, a, _, _, _, rfl, rfl, hSn, hv, _, rfl, _, rfl, p, _, 1, 1, rfl, rfl, hp, rfl, ?_⟩
        refine ⟨_, rfl, p, _, 2, _, rfl, rfl, SqL.of upd_same, atI_nat (j := 2) rfl, _, _, rfl, rfl, _, rfl, p, _, 2, 2, rfl, rfl, upd_same, rfl, ?_⟩
        refine ⟨_, rfl, p, _, 1, _, rfl, rfl, SqL.of upd_same, atI_nat (j := 1) rfl, .inl ⟨_, rfl, ?_⟩⟩
        refine ⟨_, rfl, _, _, rfl, rfl, h0, ?_⟩
        refine ⟨_, rfl, p, _, 1, _, rfl, rfl, SqL.of upd_same, atI_nat (j := 1) rfl, _, rfl, _, _, rfl, rfl, ⟨h0, h9⟩, _, rfl, p, _, 1, 1, rfl, rfl, upd_same, rfl, ?_⟩
        refine ⟨_, rfl, ?_⟩
        exact fin (if v < 0 then -v else v) (c + 1) (upd (upd H p _) p _) (by split <;> omega) (by omega) ((But.put _ _).trans (.put _ _)) upd_same _ rfl
    · refine ⟨_, rfl, p, _, 1, _, rfl, rfl, SqL.of hp, atI_nat (j := 1) rfl, .inl ⟨_, rfl, ?_⟩⟩
      refine ⟨_, rfl, _, _, rfl, rfl, h0, ?_⟩
      refine ⟨_, rfl, p, _, 1, _, rfl, rfl, SqL.of hp, atI_nat (j := 1) rfl, _, rfl, _, _, rfl, rfl, ⟨h0, h9⟩, _, rfl, p, _, 1, 1, rfl, rfl, hp, rfl, ?_⟩
      refine ⟨_, rfl, ?_⟩
      exact fin r c H r0 c0 (But.refl _ _) hp _ rfl
end
end KO

namespace KG
open PySem PySem.Spec PyProof.Rows L2
/-- a vector of one number, and the number as an element -/
def One (H : Hp) (v : Addr) (n : Int) : Prop := H v = some (.tup [V.int n])
def El (H : Hp) (t : Addr) (n : Int) : Prop := ∃ v, H t = some (.tup [.ref v, V.int 1]) ∧ One H v n
def Sm (n : Int) : Prop := n.natAbs < 2 ^ 100
theorem One.same {H H' : Hp} {v : Addr} {n : Int} (h : One H v n) (s : Same H H') : One H' v n := s _ _ h
theorem El.same {H H' : Hp} {t : Addr} {n : Int} (h : El H t n) (s : Same H H') : El H' t n := by
  obtain ⟨v, a, b⟩ := h
  exact ⟨v, s _ _ a, s _ _ b⟩
theorem El.kept {H H' : Hp} {t : Addr} {n : Int} (h : El H t n) (s : Kept H H') : El H' t n := by
  obtain ⟨v, a, b⟩ := h
  exact ⟨v, s _ _ (fun l z => nomatch z) a, s _ _ (fun l z => nomatch z) b⟩
theorem sm1 : Sm 1 := by show (1 : Int).natAbs < 2 ^ 100; decide +kernel
theorem Sm.wide {a b : Int} (h : Sm a) (k : Sm b) : CMulW a b := wide_mul h k (by decide) (by decide) (by decide)
theorem one_item {x u : V} {i : Nat} (h : [x][i]? = some u) : i = 0 ∧ u = x := by
  have hi := (List.getElem?_eq_some_iff.mp h).1
  have : i = 0 := by rw [List.length_singleton] at hi; omega
  subst this
  exact ⟨rfl, (Option.some.inj h).symm⟩
theorem comp_zipTT {K : PySem.W.Frag} {a b D : Addr} {xs ys : List V} {g : TG} {te : TE} {vs : List Nat} {σ : L2.St} {H1 : Hp} {Qd : Hp → Prop} (G : Nat → V) (ha : SqT K H1 a xs) (hb : SqT K H1 b ys) (hl : xs.length = ys.length) (hD : H1 D = none) (h1000 : xs.length ≤ 1000)
    (hs : ∀ (i : Nat) (x y : V) (T : Addr) (H : Hp) (Nx : V → Hp → Prop), xs[i]? = some x → ys[i]? = some y → Same H1 H → H T = none → Nx (G i) (upd H T (.tup [x, y])) → g (.ref T) (wipe σ vs) (upd H T (.tup [x, y])) fun σ2 H2 => wipe σ2 vs = wipe σ vs ∧ te σ2 H2 Nx)
    (hd : ∀ H, Same H1 H → H D = some (.lst ((List.range xs.length).map G)) → Qd H) :
    ∃ W : Nat → Nat → Hp → Prop, (∃ m, W 0 m (upd H1 D (.lst []))) ∧ ∀ i m H, W i m H →
      ((RZ.ItzT K a b).stop i H ∧ Qd H) ∨ ((RZ.ItzT K a b).go i H ∧ ∃ Nx : Hp → Prop, (∀ H', Nx H' → ∃ m', m' < m ∧ W (i + 1) m' H') ∧ ∀ x H', (RZ.ItzT K a b).yld i H x H' → g x (wipe σ vs) H' fun σ2 H2 => wipe σ2 vs = wipe σ vs ∧ tYes σ2 H2 fun b H3 =>
        if b = true then te σ2 H3 fun y H4 => ∃ acc, H4 D = some (.lst acc) ∧ acc.length < sizeLine ∧ Nx (upd H4 D (.lst (acc ++ [y]))) else Nx H3) := by
  refine ⟨fun i m H => m = xs.length - i ∧ i ≤ xs.length ∧ Same H1 H ∧ H D = some (.lst ((List.range i).map G)), ⟨xs.length, by simp, Nat.zero_le _, same_new hD _, upd_same⟩, ?_⟩
  rintro i m H ⟨rfl, hi, sm, e⟩
  have ta := Same.seqT sm ha
  have tb := Same.seqT sm hb
  by_cases lt : i < xs.length
  · have gx : xs[i]? = some xs[i] := List.getElem?_eq_getElem lt
    have gy : ys[i]? = some (ys[i]'(by omega)) := List.getElem?_eq_getElem (by omega)
    refine .inr ⟨⟨xs, ys, _, _, ta, tb, gx, gy⟩, fun H' => Same H1 H' ∧ H' D = some (.lst ((List.range (i + 1)).map G)), fun H' p => ⟨xs.length - (i + 1), by omega, rfl, lt, p.1, p.2⟩, fun v H' hy => ?_⟩
    obtain ⟨T, x, y, rfl, nT, rfl, f1, f2⟩ := hy
    have ex := f1 _ ta
    have ey := f2 _ tb
    have nTD : D ≠ T := ne_of_none e nT
    have := hs i x y T H (fun z H4 => ∃ acc, H4 D = some (.lst acc) ∧ acc.length < sizeLine ∧ (Same H1 (upd H4 D (.lst (acc ++ [z]))) ∧ (upd H4 D (.lst (acc ++ [z]))) D = some (.lst ((List.range (i + 1)).map G)))) ex ey sm nT
      ⟨_, by rw [upd_ne nTD]; exact e, small1000 (by rw [List.length_map, List.length_range]; omega), fun c o h => by
        rw [upd_ne (ne_of_none h hD), upd_ne (ne_of_none (sm c o h) nT)]; exact sm c o h, by rw [upd_same, List.range_succ, List.map_append]; rfl⟩
    exact this
  · have ei : i = xs.length := by omega
    subst ei
    exact .inl ⟨⟨xs, ys, ta, tb, .inl (Nat.le_refl _)⟩, hd H sm e⟩
end KG
namespace KO
open PySem PySem.Spec PyProof.Rows L2 KG
section
variable {P : Program} {w : World} {K : PySem.W.Frag} {mg : Str → Option Value} {base : Heap}
def sp_two (f : Int → Int → Int) : Sp := fun vs H Q _ => ∃ (a b : Addr) (x y : Int), vs = [.ref a, .ref b] ∧ One H a x ∧ One H b y ∧ ∀ H' p, Same H H' → One H' p (f x y) → Q (.ref p) H'
abbrev splus : Stmt := topS 3
abbrev Nplus : List Str := ["one", "other", "m", "n"]
theorem scplus : FnScope Nplus ["one", "other"] (defScope splus) := ⟨rfl, rfl, rfl, by decide +kernel, rfl, by decide +kernel, by decide +kernel⟩
theorem ok_plus {f : Addr} {fd : FuncData} {k : Nat} (F : Fun K "plus" "plus" splus f fd) (M : Names mg) : FnOk P w K mg base CX0 (k + 1) f fd ["one", "other"] (sp_two (· + ·)) := by
  refine F.ok scplus (fun vs H Q E h => ?_) (fun cdv A outer s H vs Q E hr h => ?_)
  · obtain ⟨a, b, x, y, rfl, _⟩ := h
    rfl
  obtain ⟨a, b, x, y, rfl, ha, hb, fin⟩ := h
  refine ⟨_, (pss_one (ps_ret (pe_callTy call_tuple_of (by rfl) M.tuple (by decide +kernel) (pa_cons (pe_lc (own := [("m", 2), ("n", 3)]) (g := gTup K 2 (gCons (gName 2) (gCons (gName 3) gNil))) (by rfl) scplus.nd (RZ.pi_zipA (by rfl) M.zip (pa_cons (pv 0) (pa_cons (pv 1) pa_nil))) (blkOk_by (own := [("m", 2), ("n", 3)]) (N := Nplus) (sc := defScope splus) (by decide +kernel)) (fun _ _ _ _ _ => pg_tup rfl (pgs_cons (pg_name (i := 2) scplus.nd rfl (.inl rfl)) (pgs_cons (pg_name (i := 3) scplus.nd rfl (.inl rfl)) pgs_nil))) (fun _ _ _ _ _ => pts_nil) (fun _ _ _ _ _ => (pe_op op_add (pv 2) (pv 3)))) pa_nil)))), ?_⟩
  refine ⟨_, rfl, _, rfl, a, b, [.int x], [.int y], rfl, .inr ⟨SqT.of ha, SqT.of hb, fun D hD => comp_zipTT (fun _ => .int (x + y)) (SqT.of ha) (SqT.of hb) rfl hD (by show 1 ≤ 1000; decide) (fun i u v T H5 Nx hx hy s5 nT hn => ?_) (fun H5 s5 e5 => ?_)⟩⟩
  · obtain ⟨_, rfl⟩ := one_item hx
    obtain ⟨_, rfl⟩ := one_item hy
    exact ⟨T, _, rfl, SqT.of upd_same, rfl, _, _, rfl, _, _, rfl, rfl, rfl, _, rfl, _, rfl, _, _, rfl, rfl, hn⟩
  · exact ⟨D, [.int (x + y)], rfl, .inl ⟨SqL.of e5, fun l nl => fin _ l (s5.trans (same_new nl _)) upd_same⟩⟩
abbrev sminus : Stmt := topS 4
abbrev Nminus : List Str := ["one", "other", "m", "n"]
theorem scminus : FnScope Nminus ["one", "other"] (defScope sminus) := ⟨rfl, rfl, rfl, by decide +kernel, rfl, by decide +kernel, by decide +kernel⟩
theorem ok_minus {f : Addr} {fd : FuncData} {k : Nat} (F : Fun K "minus" "minus" sminus f fd) (M : Names mg) : FnOk P w K mg base CX0 (k + 1) f fd ["one", "other"] (sp_two (· - ·)) := by
  refine F.ok scminus (fun vs H Q E h => ?_) (fun cdv A outer s H vs Q E hr h => ?_)
  · obtain ⟨a, b, x, y, rfl, _⟩ := h
    rfl
  obtain ⟨a, b, x, y, rfl, ha, hb, fin⟩ := h
  refine ⟨_, (pss_one (ps_ret (pe_callTy call_tuple_of (by rfl) M.tuple (by decide +kernel) (pa_cons (pe_lc (own := [("m", 2), ("n", 3)]) (g := gTup K 2 (gCons (gName 2) (gCons (gName 3) gNil))) (by rfl) scminus.nd (RZ.pi_zipA (by rfl) M.zip (pa_cons (pv 0) (pa_cons (pv 1) pa_nil))) (blkOk_by (own := [("m", 2), ("n", 3)]) (N := Nminus) (sc := defScope sminus) (by decide +kernel)) (fun _ _ _ _ _ => pg_tup rfl (pgs_cons (pg_name (i := 2) scminus.nd rfl (.inl rfl)) (pgs_cons (pg_name (i := 3) scminus.nd rfl (.inl rfl)) pgs_nil))) (fun _ _ _ _ _ => pts_nil) (fun _ _ _ _ _ => (pe_op op_sub (pv 2) (pv 3)))) pa_nil)))), ?_⟩
  refine ⟨_, rfl, _, rfl, a, b, [.int x], [.int y], rfl, .inr ⟨SqT.of ha, SqT.of hb, fun D hD => comp_zipTT (fun _ => .int (x - y)) (SqT.of ha) (SqT.of hb) rfl hD (by show 1 ≤ 1000; decide) (fun i u v T H5 Nx hx hy s5 nT hn => ?_) (fun H5 s5 e5 => ?_)⟩⟩
  · obtain ⟨_, rfl⟩ := one_item hx
    obtain ⟨_, rfl⟩ := one_item hy
    exact ⟨T, _, rfl, SqT.of upd_same, rfl, _, _, rfl, _, _, rfl, rfl, rfl, _, rfl, _, rfl, _, _, rfl, rfl, hn⟩
  · exact ⟨D, [.int (x - y)], rfl, .inl ⟨SqL.of e5, fun l nl => fin _ l (s5.trans (same_new nl _)) upd_same⟩⟩
abbrev stimes : Stmt := topS 5
abbrev Ntimes : List Str := ["vector", "factor", "n"]
theorem sctimes : FnScope Ntimes ["vector", "factor"] (defScope stimes) := ⟨rfl, rfl, rfl, by decide +kernel, rfl, by decide +kernel, by decide +kernel⟩
def sp_times : Sp := fun vs H Q _ => ∃ (a : Addr) (x c : Int), vs = [.ref a, .int c] ∧ One H a x ∧ Sm x ∧ Sm c ∧ ∀ H' p, Same H H' → One H' p (x * c) → Q (.ref p) H'
theorem ok_times {f : Addr} {fd : FuncData} {k : Nat} (F : Fun K "times" "times" stimes f fd) (M : Names mg) : FnOk P w K mg base CX0 (k + 1) f fd ["vector", "factor"] sp_times := by
  refine F.ok sctimes (fun vs H Q E h => ?_) (fun cdv A outer s H vs Q E hr h => ?_)
  · obtain ⟨a, x, c, rfl, _⟩ := h
    rfl
  obtain ⟨a, x, c, rfl, ha, sx, sc, fin⟩ := h
  refine ⟨_, (pss_one (ps_ret (pe_callTy call_tuple_of (by rfl) M.tuple (by decide +kernel) (pa_cons (pe_lc (own := [("n", 2)]) (g := gName 2) (by rfl) sctimes.nd (pi_tup (pv 0)) (blkOk_by (own := [("n", 2)]) (N := Ntimes) (sc := defScope stimes) (by decide +kernel)) (fun _ _ _ _ _ => pg_name (i := 2) sctimes.nd rfl (Or.inl rfl)) (fun _ _ _ _ _ => pts_nil) (fun _ _ _ _ _ => (pe_op op_mulW (pv 2) (pv 1)))) pa_nil)))), ?_⟩
  refine ⟨_, rfl, a, rfl, ⟨_, SqT.of ha⟩, fun D hD => comp_tup (xs := [.int x]) (fun _ => .int (x * c)) (SqT.of ha) hD (by show 1 ≤ 1000; decide) (fun i u H2 Nx hx sm2 hn => ?_) (fun H3 s3 e3 => ?_)⟩
  · obtain ⟨_, rfl⟩ := one_item hx
    exact ⟨rfl, _, rfl, _, rfl, _, _, rfl, rfl, sx.wide sc, hn⟩
  · exact ⟨D, [.int (x * c)], rfl, .inl ⟨SqL.of e3, fun l nl => fin _ l (s3.trans (same_new nl _)) upd_same⟩⟩
abbrev spadded : Stmt := topS 6
abbrev Npadded : List Str := ["vector", "size"]
theorem scpadded : FnScope Npadded ["vector", "size"] (defScope spadded) := ⟨rfl, rfl, rfl, by decide +kernel, rfl, by decide +kernel, by decide +kernel⟩
def sp_padded : Sp := fun vs H Q _ => ∃ (a : Addr) (x : Int), vs = [.ref a, .int 1] ∧ One H a x ∧ ∀ H', Same H H' → Q (.ref a) H'
theorem ok_padded {f : Addr} {fd : FuncData} {k : Nat} (F : Fun K "padded" "padded" spadded f fd) (M : Names mg) : FnOk P w K mg base CX0 (k + 1) f fd ["vector", "size"] sp_padded := by
  refine F.ok scpadded (fun vs H Q E h => ?_) (fun cdv A outer s H vs Q E hr h => ?_)
  · obtain ⟨a, x, rfl, _⟩ := h
    rfl
  obtain ⟨a, x, rfl, ha, fin⟩ := h
  refine ⟨_, (pss_one (ps_ret (pe_op op_catA (pv 0) (pe_op op_rep0 (pe_tup (pa_cons pe_int pa_nil)) (pe_op op_sub (pv 1) (pe_callB call_len_seq (by rfl) M.len PySem.boot_len (pa_cons (pv 0) pa_nil))))))), ?_⟩
  refine ⟨_, rfl, (by show 1 ≤ sizeLine; decide), fun t nt => ?_⟩
  have S1 := same_new nt (.tup [V.int 0])
  refine ⟨_, rfl, _, rfl, a, _, rfl, .inr (SqT.of (S1 _ _ ha)), _, _, rfl, rfl, t, _, rfl, rfl, SqT.of upd_same, (fun z => by cases z), fun p np => ?_⟩
  have S2 := S1.trans (same_new np (.tup []))
  exact ⟨a, p, _, _, rfl, rfl, SqT.of (S2 _ _ ha), SqT.of upd_same, (by show 1 ≤ sizeLine; decide), (fun z => by cases z), fun _ _ => fin _ S2, fun _ z => absurd rfl z⟩
abbrev smultiplied : Stmt := topS 8
abbrev Nmultiplied : List Str := ["tower", "one", "other", "half", "low", "high", "lows", "highs", "mixed", "raised"]
theorem scmultiplied : FnScope Nmultiplied ["tower", "one", "other"] (defScope smultiplied) := ⟨rfl, rfl, rfl, by decide +kernel, rfl, by decide +kernel, by decide +kernel⟩
def sp_multiplied : Sp := fun vs H Q _ => ∃ (v : V) (a b : Addr) (x y : Int), vs = [v, .ref a, .ref b] ∧ One H a x ∧ One H b y ∧ Sm x ∧ Sm y ∧ ∀ H' p, Same H H' → One H' p (x * y) → Q (.ref p) H'
theorem ok_multiplied {f : Addr} {fd : FuncData} {k : Nat} (F : Fun K "multiplied" "multiplied" smultiplied f fd) (M : Names mg) : FnOk P w K mg base CX0 (k + 1) f fd ["tower", "one", "other"] sp_multiplied := by
  refine F.ok scmultiplied (fun vs H Q E h => ?_) (fun cdv A outer s H vs Q E hr h => ?_)
  · obtain ⟨v, a, b, x, y, rfl, _⟩ := h
    rfl
  obtain ⟨v, a, b, x, y, rfl, ha, hb, sx, sy, fin⟩ := h
  refine ⟨_, (pss_cons (ps_set (i := 3) scmultiplied.nd rfl (.inl rfl) (pe_op op_fdiv (pe_callB call_len_seq (by rfl) M.len PySem.boot_len (pa_cons (pv 1) pa_nil)) pe_int))
    (pss_cons (ps_if (pt_cmpR op_eq (pv 3) pe_int (nomark _))
      (pss_one (ps_ret (pe_tup (pa_cons (pe_op op_mulW (pe_ix ix_tup (pv 1) pe_int (fun _ _ => rfl)) (pe_ix ix_tup (pv 2) pe_int (fun _ _ => rfl))) pa_nil))))
      pss_nil) pss_nev)), ?_⟩
  refine ⟨_, rfl, a, _, rfl, .inr (SqT.of ha), _, _, rfl, rfl, ⟨by decide, by decide⟩, ?_⟩
  refine ⟨_, rfl, rfl, _, rfl, iteT' (decide_eq_true (show V.int (1 / 2) = V.int 0 by decide +kernel)) ?_⟩
  refine ⟨_, rfl, a, _, _, _, rfl, rfl, SqT.of ha, atI_nat (j := 0) rfl, _, rfl, b, _, _, _, rfl, rfl, SqT.of hb, atI_nat (j := 0) rfl, _, _, rfl, rfl, sx.wide sy, (by show 1 ≤ sizeLine; decide), fun q nq => ?_⟩
  exact fin _ q (same_new nq _) upd_same
abbrev slowest : Stmt := topS 11
abbrev Nlowest : List Str := ["vector", "scale", "common", "n"]
theorem sclowest : FnScope Nlowest ["vector", "scale"] (defScope slowest) := ⟨rfl, rfl, rfl, by decide +kernel, rfl, by decide +kernel, by decide +kernel⟩
def sp_lowest : Sp := fun vs H Q _ => ∃ (a : Addr) (x : Int), vs = [.ref a, .int 1] ∧ One H a x ∧ ∀ H' t, Same H H' → El H' t x → Q (.ref t) H'
theorem ok_lowest {f : Addr} {fd : FuncData} {k : Nat} (F : Fun K "lowest" "lowest" slowest f fd) (M : Names mg) : FnOk P w K mg base CX0 (k + 1) f fd ["vector", "scale"] sp_lowest := by
  refine F.ok sclowest (fun vs H Q E h => ?_) (fun cdv A outer s H vs Q E hr h => ?_)
  · obtain ⟨a, x, rfl, _⟩ := h
    rfl
  obtain ⟨a, x, rfl, ha, fin⟩ := h
  refine ⟨_, (pss_cons (ps_set (i := 2) sclowest.nd rfl (.inr rfl) (pv 1))
    (pss_cons (ps_for PassesOwn.never rfl (pi_tup (pv 0)) (pg_name (i := 3) sclowest.nd rfl (.inl rfl))
      (pss_cons (ps_if (pt_cmpR op_eq (pv 2) pe_int (nomark _))
        (pss_one ps_break)
        pss_nil) pss_nev))
    (pss_cons (ps_if (pt_cmpR op_lt (pv 1) pe_int (nomark _))
      pss_nev
      pss_nil)
    (pss_cons (ps_if (pt_cmpR op_eq (pv 2) pe_int (nomark _))
      (pss_one (ps_ret (pe_tup (pa_cons (pv 0) (pa_cons (pv 1) pa_nil)))))
      pss_nil) pss_nev)))), ?_⟩
  refine ⟨_, rfl, _, rfl, a, rfl, ⟨_, SqT.of ha⟩, for_tup (xs := [.int x]) (fun i σ H' => i = 0 ∧ σ = [some (.ref a), some (.int 1), some (.int 1), none] ∧ H' = H) ⟨rfl, rfl, rfl⟩ (fun i σ H' _ hP => by obtain ⟨_, _, rfl⟩ := hP; exact SqT.of ha) (fun i u σ H' hx hP => ?_) (fun σ H' hP => ?_)⟩
  · obtain ⟨_, rfl, rfl⟩ := hP
    obtain ⟨_, rfl⟩ := one_item hx
    refine ⟨_, rfl, rfl, _, rfl, iteT' (by rfl) ?_⟩
    refine ⟨_, rfl, _, _, rfl, rfl, _, rfl, iteF' (by rfl) ?_⟩
    refine ⟨_, rfl, rfl, _, rfl, iteT' (by rfl) ?_⟩
    refine ⟨_, rfl, _, rfl, (by show 2 ≤ sizeLine; decide), fun q nq => ?_⟩
    exact fin _ q (same_new nq _) ⟨a, upd_same, (same_new nq _) _ _ ha⟩
  · obtain ⟨z, _⟩ := hP
    cases z
end
end KO

namespace KO
open PySem PySem.Spec PyProof.Rows L2 KG
section
variable {P : Program} {w : World} {K : PySem.W.Frag} {mg : Str → Option Value} {base : Heap}
def sp_esum (f : Int → Int → Int) : Sp := fun vs H Q _ => ∃ (a b : Addr) (x y : Int), vs = [.ref a, .ref b] ∧ El H a x ∧ El H b y ∧ Sm x ∧ Sm y ∧ ∀ H' p, Same H H' → El H' p (f x y) → Q (.ref p) H'
def sp_eadd : Sp := sp_esum (· + ·)
def sp_esub : Sp := sp_esum (· - ·)
def sp_plus : Sp := sp_two (· + ·)
def sp_minus : Sp := sp_two (· - ·)
abbrev selement_sum : Stmt := topS 13
abbrev Nelement_sum : List Str := ["one", "other", "vector", "scale", "second", "divider"]
theorem scelement_sum : FnScope Nelement_sum ["one", "other"] (defScope selement_sum) := ⟨rfl, rfl, rfl, by decide +kernel, rfl, by decide +kernel, by decide +kernel⟩
theorem ok_element_sum {f : Addr} {fd : FuncData} {k : Nat} (F : Fun K "element_sum" "element_sum" selement_sum f fd) (M : Names mg) (Glowest : Cal P w K mg base k "lowest" ["vector", "scale"] sp_lowest) (Gplus : Cal P w K mg base k "plus" ["one", "other"] sp_plus) (Gtimes : Cal P w K mg base k "times" ["vector", "factor"] sp_times) : FnOk P w K mg base CX0 (k + 1) f fd ["one", "other"] sp_eadd := by
  refine F.ok scelement_sum (fun vs H Q E h => ?_) (fun cdv A outer s H vs Q E hr h => ?_)
  · obtain ⟨a, b, x, y, rfl, _⟩ := h
    rfl
  obtain ⟨a, b, x, y, rfl, ⟨v, ha, hv⟩, ⟨u, hb, hu⟩, sx, sy, fin⟩ := h
  refine ⟨_, (pss_cons (ps_asg (pe_tup (pa_cons (pv 0) (pa_cons (pv 1) pa_nil))) (pg_tup rfl (pgs_cons (pg_tup rfl (pgs_cons (pg_name (i := 2) scelement_sum.nd rfl (.inl rfl)) (pgs_cons (pg_name (i := 3) scelement_sum.nd rfl (.inl rfl)) pgs_nil))) (pgs_cons (pg_tup rfl (pgs_cons (pg_name (i := 4) scelement_sum.nd rfl (.inl rfl)) (pgs_cons (pg_name (i := 5) scelement_sum.nd rfl (.inl rfl)) pgs_nil))) pgs_nil))))
    (pss_one (ps_ret (pe_call Glowest.ok hr (by rfl) Glowest.m Glowest.kp Glowest.b .nil pass0 (pa_cons (pe_call Gplus.ok hr (by rfl) Gplus.m Gplus.kp Gplus.b .nil pass0 (pa_cons (pe_call Gtimes.ok hr (by rfl) Gtimes.m Gtimes.kp Gtimes.b .nil pass0 (pa_cons (pv 2) (pa_cons (pv 5) pa_nil))) (pa_cons (pe_call Gtimes.ok hr (by rfl) Gtimes.m Gtimes.kp Gtimes.b .nil pass0 (pa_cons (pv 4) (pa_cons (pv 3) pa_nil))) pa_nil))) (pa_cons (pe_op op_mulW (pv 3) (pv 5)) pa_nil)))))), ?_⟩
  refine ⟨_, rfl, _, rfl, (by show 2 ≤ sizeLine; decide), fun T nT => ?_⟩
  have S0 := same_new nT (.tup [V.ref a, .ref b])
  refine ⟨T, _, rfl, SqT.of upd_same, rfl, _, _, rfl, ⟨a, _, rfl, SqT.of (S0 _ _ ha), rfl, _, _, rfl, _, _, rfl, rfl, _, _, rfl, ⟨b, _, rfl, SqT.of (S0 _ _ hb), rfl, _, _, rfl, _, _, rfl, rfl, rfl, ?_⟩⟩⟩
  refine ⟨_, rfl, _, rfl, v, x, 1, rfl, hv.same S0, sx, sm1, fun H1 p1 s1 e1 => ?_⟩
  refine ⟨_, rfl, _, rfl, u, y, 1, rfl, (hu.same S0).same s1, sy, sm1, fun H2 p2 s2 e2 => ?_⟩
  refine ⟨p1, p2, _, _, rfl, e1.same s2, e2, fun H3 p3 s3 e3 => ?_⟩
  refine ⟨_, rfl, _, rfl, _, _, rfl, rfl, sm1.wide sm1, p3, _, rfl, e3, fun H4 t s4 et => ?_⟩
  rw [Int.mul_one, Int.mul_one] at et
  exact fin _ t (S0.trans (s1.trans (s2.trans (s3.trans s4)))) et
abbrev selement_difference : Stmt := topS 14
abbrev Nelement_difference : List Str := ["one", "other", "vector", "scale", "second", "divider"]
theorem scelement_difference : FnScope Nelement_difference ["one", "other"] (defScope selement_difference) := ⟨rfl, rfl, rfl, by decide +kernel, rfl, by decide +kernel, by decide +kernel⟩
theorem ok_element_difference {f : Addr} {fd : FuncData} {k : Nat} (F : Fun K "element_difference" "element_difference" selement_difference f fd) (M : Names mg) (Glowest : Cal P w K mg base k "lowest" ["vector", "scale"] sp_lowest) (Gminus : Cal P w K mg base k "minus" ["one", "other"] sp_minus) (Gtimes : Cal P w K mg base k "times" ["vector", "factor"] sp_times) : FnOk P w K mg base CX0 (k + 1) f fd ["one", "other"] sp_esub := by
  refine F.ok scelement_difference (fun vs H Q E h => ?_) (fun cdv A outer s H vs Q E hr h => ?_)
  · obtain ⟨a, b, x, y, rfl, _⟩ := h
    rfl
  obtain ⟨a, b, x, y, rfl, ⟨v, ha, hv⟩, ⟨u, hb, hu⟩, sx, sy, fin⟩ := h
  refine ⟨_, (pss_cons (ps_asg (pe_tup (pa_cons (pv 0) (pa_cons (pv 1) pa_nil))) (pg_tup rfl (pgs_cons (pg_tup rfl (pgs_cons (pg_name (i := 2) scelement_difference.nd rfl (.inl rfl)) (pgs_cons (pg_name (i := 3) scelement_difference.nd rfl (.inl rfl)) pgs_nil))) (pgs_cons (pg_tup rfl (pgs_cons (pg_name (i := 4) scelement_difference.nd rfl (.inl rfl)) (pgs_cons (pg_name (i := 5) scelement_difference.nd rfl (.inl rfl)) pgs_nil))) pgs_nil))))
    (pss_one (ps_ret (pe_call Glowest.ok hr (by rfl) Glowest.m Glowest.kp Glowest.b .nil pass0 (pa_cons (pe_call Gminus.ok hr (by rfl) Gminus.m Gminus.kp Gminus.b .nil pass0 (pa_cons (pe_call Gtimes.ok hr (by rfl) Gtimes.m Gtimes.kp Gtimes.b .nil pass0 (pa_cons (pv 2) (pa_cons (pv 5) pa_nil))) (pa_cons (pe_call Gtimes.ok hr (by rfl) Gtimes.m Gtimes.kp Gtimes.b .nil pass0 (pa_cons (pv 4) (pa_cons (pv 3) pa_nil))) pa_nil))) (pa_cons (pe_op op_mulW (pv 3) (pv 5)) pa_nil)))))), ?_⟩
  refine ⟨_, rfl, _, rfl, (by show 2 ≤ sizeLine; decide), fun T nT => ?_⟩
  have S0 := same_new nT (.tup [V.ref a, .ref b])
  refine ⟨T, _, rfl, SqT.of upd_same, rfl, _, _, rfl, ⟨a, _, rfl, SqT.of (S0 _ _ ha), rfl, _, _, rfl, _, _, rfl, rfl, _, _, rfl, ⟨b, _, rfl, SqT.of (S0 _ _ hb), rfl, _, _, rfl, _, _, rfl, rfl, rfl, ?_⟩⟩⟩
  refine ⟨_, rfl, _, rfl, v, x, 1, rfl, hv.same S0, sx, sm1, fun H1 p1 s1 e1 => ?_⟩
  refine ⟨_, rfl, _, rfl, u, y, 1, rfl, (hu.same S0).same s1, sy, sm1, fun H2 p2 s2 e2 => ?_⟩
  refine ⟨p1, p2, _, _, rfl, e1.same s2, e2, fun H3 p3 s3 e3 => ?_⟩
  refine ⟨_, rfl, _, rfl, _, _, rfl, rfl, sm1.wide sm1, p3, _, rfl, e3, fun H4 t s4 et => ?_⟩
  rw [Int.mul_one, Int.mul_one] at et
  exact fin _ t (S0.trans (s1.trans (s2.trans (s3.trans s4)))) et
def sp_eprod : Sp := fun vs H Q _ => ∃ (v : V) (a b : Addr) (x y : Int), vs = [v, .ref a, .ref b] ∧ El H a x ∧ El H b y ∧ Sm x ∧ Sm y ∧ ∀ H' p, Same H H' → El H' p (x * y) → Q (.ref p) H'
abbrev selement_product : Stmt := topS 15
abbrev Nelement_product : List Str := ["tower", "one", "other"]
theorem scelement_product : FnScope Nelement_product ["tower", "one", "other"] (defScope selement_product) := ⟨rfl, rfl, rfl, by decide +kernel, rfl, by decide +kernel, by decide +kernel⟩
theorem ok_element_product {f : Addr} {fd : FuncData} {k : Nat} (F : Fun K "element_product" "element_product" selement_product f fd) (M : Names mg) (Glowest : Cal P w K mg base k "lowest" ["vector", "scale"] sp_lowest) (Gmultiplied : Cal P w K mg base k "multiplied" ["tower", "one", "other"] sp_multiplied) : FnOk P w K mg base CX0 (k + 1) f fd ["tower", "one", "other"] sp_eprod := by
  refine F.ok scelement_product (fun vs H Q E h => ?_) (fun cdv A outer s H vs Q E hr h => ?_)
  · obtain ⟨v, a, b, x, y, rfl, _⟩ := h
    rfl
  obtain ⟨z, a, b, x, y, rfl, ⟨v, ha, hv⟩, ⟨u, hb, hu⟩, sx, sy, fin⟩ := h
  refine ⟨_, (pss_one (ps_ret (pe_call Glowest.ok hr (by rfl) Glowest.m Glowest.kp Glowest.b .nil pass0 (pa_cons (pe_call Gmultiplied.ok hr (by rfl) Gmultiplied.m Gmultiplied.kp Gmultiplied.b .nil pass0 (pa_cons (pv 0) (pa_cons (pe_ix ix_tup (pv 1) pe_int (fun _ _ => rfl)) (pa_cons (pe_ix ix_tup (pv 2) pe_int (fun _ _ => rfl)) pa_nil)))) (pa_cons (pe_op op_mulW (pe_ix ix_tup (pv 1) pe_int (fun _ _ => rfl)) (pe_ix ix_tup (pv 2) pe_int (fun _ _ => rfl))) pa_nil))))), ?_⟩
  refine ⟨_, rfl, _, rfl, a, _, _, _, rfl, rfl, SqT.of ha, atI_nat (j := 0) rfl, _, rfl, b, _, _, _, rfl, rfl, SqT.of hb, atI_nat (j := 0) rfl, z, v, u, x, y, rfl, hv, hu, sx, sy, fun H1 p1 s1 e1 => ?_⟩
  refine ⟨_, rfl, a, _, _, _, rfl, rfl, SqT.of (s1 _ _ ha), atI_nat (j := 1) rfl, _, rfl, b, _, _, _, rfl, rfl, SqT.of (s1 _ _ hb), atI_nat (j := 1) rfl, _, _, rfl, rfl, sm1.wide sm1, p1, _, rfl, e1, fun H2 t s2 et => ?_⟩
  exact fin _ t (s1.trans s2) et
def sp_widened : Sp := fun vs H Q _ => ∃ (a : Addr) (x : Int), vs = [.ref a, .int 1] ∧ El H a x ∧ ∀ H' p, Same H H' → El H' p x → Q (.ref p) H'
abbrev swidened : Stmt := topS 42
abbrev Nwidened : List Str := ["element", "size"]
theorem scwidened : FnScope Nwidened ["element", "size"] (defScope swidened) := ⟨rfl, rfl, rfl, by decide +kernel, rfl, by decide +kernel, by decide +kernel⟩
theorem ok_widened {f : Addr} {fd : FuncData} {k : Nat} (F : Fun K "widened" "widened" swidened f fd) (M : Names mg) (Gpadded : Cal P w K mg base k "padded" ["vector", "size"] sp_padded) : FnOk P w K mg base CX0 (k + 1) f fd ["element", "size"] sp_widened := by
  refine F.ok scwidened (fun vs H Q E h => ?_) (fun cdv A outer s H vs Q E hr h => ?_)
  · obtain ⟨a, x, rfl, _⟩ := h
    rfl
  obtain ⟨a, x, rfl, ⟨v, ha, hv⟩, fin⟩ := h
  refine ⟨_, (pss_one (ps_ret (pe_tup (pa_cons (pe_call Gpadded.ok hr (by rfl) Gpadded.m Gpadded.kp Gpadded.b .nil pass0 (pa_cons (pe_ix ix_tup (pv 0) pe_int (fun _ _ => rfl)) (pa_cons (pv 1) pa_nil))) (pa_cons (pe_ix ix_tup (pv 0) pe_int (fun _ _ => rfl)) pa_nil))))), ?_⟩
  refine ⟨_, rfl, a, _, _, _, rfl, rfl, SqT.of ha, atI_nat (j := 0) rfl, _, rfl, v, x, rfl, hv, fun H1 s1 => ?_⟩
  refine ⟨_, rfl, a, _, _, _, rfl, rfl, SqT.of (s1 _ _ ha), atI_nat (j := 1) rfl, (by show 2 ≤ sizeLine; decide), fun q nq => ?_⟩
  have S := s1.trans (same_new nq (.tup [V.ref v, .int 1]))
  exact fin _ q S ⟨v, upd_same, hv.same S⟩
def sp_image : Sp := fun vs H Q _ => ∃ (tw : Addr) (z : V) (v : Addr) (x : Int), vs = [.ref tw, z, .ref v] ∧ H tw = some (.tup []) ∧ One H v x ∧ ∀ H' p, Same H H' → H' p = some (.tup [.ref v, .int 1]) → Q (.ref p) H'
abbrev simage : Stmt := topS 43
abbrev Nimage : List Str := ["tower", "images", "vector", "size", "half", "low", "high", "root"]
theorem scimage : FnScope Nimage ["tower", "images", "vector"] (defScope simage) := ⟨rfl, rfl, rfl, by decide +kernel, rfl, by decide +kernel, by decide +kernel⟩
theorem ok_image {f : Addr} {fd : FuncData} {k : Nat} (F : Fun K "image" "image" simage f fd) (M : Names mg) (Gpadded : Cal P w K mg base k "padded" ["vector", "size"] sp_padded) : FnOk P w K mg base CX0 (k + 1) f fd ["tower", "images", "vector"] sp_image := by
  refine F.ok scimage (fun vs H Q E h => ?_) (fun cdv A outer s H vs Q E hr h => ?_)
  · obtain ⟨a, z, v, x, rfl, _⟩ := h
    rfl
  obtain ⟨tw, z, v, x, rfl, ht, hv, fin⟩ := h
  refine ⟨_, (pss_cons (ps_set (i := 3) scimage.nd rfl (.inl rfl) (pe_op op_shl pe_int (pe_callB call_len_seq (by rfl) M.len PySem.boot_len (pa_cons (pv 0) pa_nil))))
    (pss_cons (ps_set (i := 4) scimage.nd rfl (.inl rfl) (pe_op op_fdiv (pe_callB call_len_seq (by rfl) M.len PySem.boot_len (pa_cons (pv 2) pa_nil)) pe_int))
    (pss_cons (ps_if (pt_cmpR op_eq (pv 4) pe_int (nomark _))
      (pss_one (ps_ret (pe_tup (pa_cons (pe_call Gpadded.ok hr (by rfl) Gpadded.m Gpadded.kp Gpadded.b .nil pass0 (pa_cons (pv 2) (pa_cons (pv 3) pa_nil))) (pa_cons pe_int pa_nil)))))
      pss_nil) pss_nev))), ?_⟩
  refine ⟨_, rfl, tw, _, rfl, .inr (SqT.of ht), _, _, rfl, rfl, ⟨by decide, by decide, by decide⟩, ?_⟩
  refine ⟨_, rfl, v, _, rfl, .inr (SqT.of hv), _, _, rfl, rfl, ⟨by decide, by decide⟩, ?_⟩
  refine ⟨_, rfl, rfl, _, rfl, iteT' (decide_eq_true (show V.int (1 / 2) = V.int 0 by decide +kernel)) ?_⟩
  refine ⟨_, rfl, _, rfl, v, x, (show [V.ref v, V.int (1 * 2 ^ (Int.toNat 0))] = [V.ref v, V.int 1] from rfl), hv, fun H1 s1 => ⟨(by show 2 ≤ sizeLine; decide), fun q nq => ?_⟩⟩
  exact fin _ q (s1.trans (same_new nq _)) upd_same
def sp_ioe : Sp := fun vs H Q _ => ∃ (tw : Addr) (z : V) (a : Addr) (x : Int), vs = [.ref tw, z, .ref a] ∧ H tw = some (.tup []) ∧ El H a x ∧ ∀ H' p, Same H H' → El H' p x → Q (.ref p) H'
abbrev simage_of_element : Stmt := topS 44
abbrev Nimage_of_element : List Str := ["tower", "images", "element", "vector", "scale"]
theorem scimage_of_element : FnScope Nimage_of_element ["tower", "images", "element"] (defScope simage_of_element) := ⟨rfl, rfl, rfl, by decide +kernel, rfl, by decide +kernel, by decide +kernel⟩
theorem ok_image_of_element {f : Addr} {fd : FuncData} {k : Nat} (F : Fun K "image_of_element" "image_of_element" simage_of_element f fd) (M : Names mg) (Gimage : Cal P w K mg base k "image" ["tower", "images", "vector"] sp_image) (Glowest : Cal P w K mg base k "lowest" ["vector", "scale"] sp_lowest) : FnOk P w K mg base CX0 (k + 1) f fd ["tower", "images", "element"] sp_ioe := by
  refine F.ok scimage_of_element (fun vs H Q E h => ?_) (fun cdv A outer s H vs Q E hr h => ?_)
  · obtain ⟨tw, z, a, x, rfl, _⟩ := h
    rfl
  obtain ⟨tw, z, a, x, rfl, ht, ⟨v, ha, hv⟩, fin⟩ := h
  refine ⟨_, (pss_cons (ps_asg (pe_call Gimage.ok hr (by rfl) Gimage.m Gimage.kp Gimage.b .nil pass0 (pa_cons (pv 0) (pa_cons (pv 1) (pa_cons (pe_ix ix_tup (pv 2) pe_int (fun _ _ => rfl)) pa_nil)))) (pg_tup rfl (pgs_cons (pg_name (i := 3) scimage_of_element.nd rfl (.inl rfl)) (pgs_cons (pg_name (i := 4) scimage_of_element.nd rfl (.inl rfl)) pgs_nil))))
    (pss_one (ps_ret (pe_call Glowest.ok hr (by rfl) Glowest.m Glowest.kp Glowest.b .nil pass0 (pa_cons (pv 3) (pa_cons (pe_op op_mulW (pv 4) (pe_ix ix_tup (pv 2) pe_int (fun _ _ => rfl))) pa_nil)))))), ?_⟩
  refine ⟨_, rfl, _, rfl, _, rfl, a, _, _, _, rfl, rfl, SqT.of ha, atI_nat (j := 0) rfl, tw, z, v, x, rfl, ht, hv, fun H1 p1 s1 e1 => ?_⟩
  refine ⟨p1, _, rfl, SqT.of e1, rfl, _, _, rfl, _, _, rfl, rfl, ?_⟩
  refine ⟨_, rfl, _, rfl, _, rfl, a, _, _, _, rfl, rfl, SqT.of (s1 _ _ ha), atI_nat (j := 1) rfl, _, _, rfl, rfl, sm1.wide sm1, v, x, rfl, hv.same s1, fun H2 t s2 et => ?_⟩
  exact fin _ t (s1.trans s2) et
def sp_joined : Sp := fun vs H Q _ => ∃ (a b : Addr) (z : V), vs = [.ref a, .ref b, z] ∧ H b = some (.tup []) ∧ ∀ H' p l, Same H H' → H' p = some (.tup [.ref a, .ref l]) → Q (.ref p) H'
abbrev sjoined : Stmt := topS 45
abbrev Njoined : List Str := ["tower", "other", "most", "images", "generator", "square", "root"]
theorem scjoined : FnScope Njoined ["tower", "other", "most"] (defScope sjoined) := ⟨rfl, rfl, rfl, by decide +kernel, rfl, by decide +kernel, by decide +kernel⟩
theorem ok_joined {f : Addr} {fd : FuncData} {k : Nat} (F : Fun K "joined" "joined" sjoined f fd) (M : Names mg) : FnOk P w K mg base CX0 (k + 1) f fd ["tower", "other", "most"] sp_joined := by
  refine F.ok scjoined (fun vs H Q E h => ?_) (fun cdv A outer s H vs Q E hr h => ?_)
  · obtain ⟨a, b, z, rfl, _⟩ := h
    rfl
  obtain ⟨a, b, z, rfl, hb, fin⟩ := h
  refine ⟨_, (pss_cons (ps_set (i := 3) scjoined.nd rfl (.inl rfl) (pe_lst pa_nil))
    (pss_cons (ps_for PassesOwn.never rfl (pi_tup (pv 1)) (pg_name (i := 4) scjoined.nd rfl (.inl rfl)) pss_nev)
    (pss_one (ps_ret (pe_tup (pa_cons (pv 0) (pa_cons (pv 3) pa_nil))))))), ?_⟩
  refine ⟨Nat.zero_le _, fun l nl => ?_⟩
  have S1 := same_new nl (.lst [])
  refine ⟨_, rfl, b, rfl, ⟨_, SqT.of (S1 _ _ hb)⟩, for_tup (K := K) (g := gName 4) (tb := fun _ _ _ => False) (xs := []) (fun i σ H' => σ = [some (.ref a), some (.ref b), some z, some (.ref l), none, none, none] ∧ H' = upd H l (.lst [])) ⟨rfl, rfl⟩ (fun i σ H' _ hP => by obtain ⟨_, rfl⟩ := hP; exact SqT.of (S1 _ _ hb)) (fun i u σ H' hx hP => by simp at hx) (fun σ H' hP => ?_)⟩
  obtain ⟨rfl, rfl⟩ := hP
  refine ⟨_, rfl, _, rfl, (by show 2 ≤ sizeLine; decide), fun q nq => ?_⟩
  exact fin _ q l (S1.trans (same_new nq _)) upd_same
def sp_rank : Sp := fun vs H Q _ => ∃ (a : Addr), vs = [.ref a] ∧ H a = some (.tup []) ∧ ∀ H' p, Same H H' → H' p = some (.tup ([0, 0].map V.int)) → Q (.ref p) H'
abbrev s_rank : Stmt := topS 66
abbrev N_rank : List Str := ["tower", "digits", "generator", "n"]
theorem sc_rank : FnScope N_rank ["tower"] (defScope s_rank) := ⟨rfl, rfl, rfl, by decide +kernel, rfl, by decide +kernel, by decide +kernel⟩
theorem ok__rank {f : Addr} {fd : FuncData} {k : Nat} (F : Fun K "_rank" "_rank" s_rank f fd) (M : Names mg) : FnOk P w K mg base CX0 (k + 1) f fd ["tower"] sp_rank := by
  refine F.ok sc_rank (fun vs H Q E h => ?_) (fun cdv A outer s H vs Q E hr h => ?_)
  · obtain ⟨a, rfl, _⟩ := h
    rfl
  obtain ⟨a, rfl, ha, fin⟩ := h
  refine ⟨_, (pss_cons (ps_set (i := 1) sc_rank.nd rfl (.inl rfl) pe_int)
    (pss_cons (ps_for PassesOwn.never rfl (pi_tup (pv 0)) (pg_name (i := 2) sc_rank.nd rfl (.inl rfl)) pss_nev)
    (pss_one (ps_ret (pe_tup (pa_cons (pe_callB call_len_seq (by rfl) M.len PySem.boot_len (pa_cons (pv 0) pa_nil)) (pa_cons (pe_un un_neg (pv 1)) pa_nil))))))), ?_⟩
  refine ⟨_, rfl, a, rfl, ⟨_, SqT.of ha⟩, for_tup (K := K) (g := gName 2) (tb := fun _ _ _ => False) (xs := []) (fun i σ H' => σ = [some (.ref a), some (.int 0), none, none] ∧ H' = H) ⟨rfl, rfl⟩ (fun i σ H' _ hP => by obtain ⟨_, rfl⟩ := hP; exact SqT.of ha) (fun i u σ H' hx hP => by simp at hx) (fun σ H' hP => ?_)⟩
  obtain ⟨rfl, rfl⟩ := hP
  refine ⟨_, rfl, a, _, rfl, .inr (SqT.of ha), _, rfl, _, rfl, (by show 2 ≤ sizeLine; decide), fun q nq => ?_⟩
  exact fin _ q (same_new nq _) (by rw [upd_same]; rfl)
end
end KO

namespace KG
open PySem PySem.Spec PyProof.Rows L2
def NumAt (C : Addr) (H : Hp) (a : Addr) (n : Int) : Prop := ∃ dx tw t, H a = some (.ins C dx [("tower", .ref tw), ("element", .ref t)]) ∧ H tw = some (.tup []) ∧ El H t n
theorem NumAt.same {C : Addr} {H H' : Hp} {a : Addr} {n : Int} (h : NumAt C H a n) (s : Same H H') : NumAt C H' a n := by
  obtain ⟨dx, tw, t, a, b, c⟩ := h
  exact ⟨dx, tw, t, s _ _ a, s _ _ b, c.same s⟩
theorem NumAt.kept {C : Addr} {H H' : Hp} {a : Addr} {n : Int} (h : NumAt C H a n) (s : Kept H H') : NumAt C H' a n := by
  obtain ⟨dx, tw, t, a, b, c⟩ := h
  exact ⟨dx, tw, t, s _ _ (fun l z => nomatch z) a, s _ _ (fun l z => nomatch z) b, c.kept s⟩
def FldAt (C : Addr) (H : Hp) (a : Addr) : Prop := ∃ dx tw d, H a = some (.ins C dx [("tower", .ref tw), ("known_roots", .ref d)]) ∧ H tw = some (.tup [])
theorem FldAt.same {C : Addr} {H H' : Hp} {a : Addr} (h : FldAt C H a) (s : Same H H') : FldAt C H' a := by
  obtain ⟨dx, tw, d, a, b⟩ := h
  exact ⟨dx, tw, d, s _ _ a, s _ _ b⟩
def PairAt (H : Hp) (q : Addr) (n : Int) : Prop := ∃ tw t, H q = some (.tup [.ref tw, .ref t]) ∧ H tw = some (.tup []) ∧ El H t n
theorem PairAt.same {H H' : Hp} {a : Addr} {n : Int} (h : PairAt H a n) (s : Same H H') : PairAt H' a n := by
  obtain ⟨tw, t, a, b, c⟩ := h
  exact ⟨tw, t, s _ _ a, s _ _ b, c.same s⟩
theorem PairAt.kept {H H' : Hp} {a : Addr} {n : Int} (h : PairAt H a n) (s : Kept H H') : PairAt H' a n := by
  obtain ⟨tw, t, a, b, c⟩ := h
  exact ⟨tw, t, s _ _ (fun l z => nomatch z) a, s _ _ (fun l z => nomatch z) b, c.kept s⟩
/-- a row of references, and the numbers that stand there -/
def RowAt (R : Hp → Addr → Int → Prop) (H : Hp) (us : List V) (ns : List Int) : Prop := us.length = ns.length ∧ ∀ (j : Nat) x, us[j]? = some x → ∃ a n, x = .ref a ∧ ns[j]? = some n ∧ R H a n
theorem RowAt.mono {R : Hp → Addr → Int → Prop} {H H' : Hp} {us : List V} {ns : List Int} (h : RowAt R H us ns) (k : ∀ a n, R H a n → R H' a n) : RowAt R H' us ns := by
  refine ⟨h.1, fun j x hx => ?_⟩
  obtain ⟨a, n, e, e2, e3⟩ := h.2 j x hx
  exact ⟨a, n, e, e2, k _ _ e3⟩
structure NumT (K : PySem.W.Frag) (C : Addr) : Prop where
  cl : Cls K C
  nt : NoAttr K C "tower"
  ne : NoAttr K C "element"
structure FldT (K : PySem.W.Frag) (C : Addr) : Prop where
  cl : Cls K C
  nt : NoAttr K C "tower"
  nk : NoAttr K C "known_roots"
theorem but_two {H : Hp} {p : Addr} {o1 o2 : HO} : But p (upd H p o1) (upd (upd H p o1) p o2) := fun b o n h => by rw [upd_ne n]; exact h
end KG
namespace KO
open PySem PySem.Spec PyProof.Rows L2 KG
section
variable {P : Program} {w : World} {K : PySem.W.Frag} {mg : Str → Option Value} {base : Heap}
abbrev sNi : Stmt := inCls (topS 70) 0
abbrev NNi : List Str := ["self", "n", "d"]
theorem scNi : FnScope NNi ["self", "n", "d"] (defScope sNi) := ⟨rfl, rfl, rfl, by decide +kernel, rfl, by decide +kernel, by decide +kernel⟩
def sp_Ni (C : Addr) : Sp := fun vs H Q _ => ∃ (p dx : Addr) (n : Int), vs = [.ref p, .int n, .int 1] ∧ H p = some (.ins C dx []) ∧ ∀ H', But p H H' → NumAt C H' p n → Q .non H'
theorem ok_Ni {f C : Addr} {fd : FuncData} {k : Nat} (F : FunD K "__init__" "Number.__init__" (defArgs sNi) (defBody sNi) (defScope sNi) [.int 1] [] f fd) (T : NumT K C) (Glowest : Cal P w K mg base k "lowest" ["vector", "scale"] sp_lowest) : FnOk P w K mg base CX0 (k + 1) f fd ["self", "n", "d"] (sp_Ni C) := by
  refine F.ok scNi (fun vs H Q E h => ?_) (fun cdv A outer s H vs Q E hr h => ?_)
  · obtain ⟨p, dx, n, rfl, _⟩ := h
    rfl
  obtain ⟨p, dx, n, rfl, hp, fin⟩ := h
  refine ⟨_, (pss_cons (ps_if (pt_cmpR op_eq (pv 2) pe_int (nomark _)) pss_nev pss_nil)
    (pss_cons (ps_fld (pv 0) (pe_tup pa_nil) rfl)
    (pss_one (ps_fld (pv 0) (pe_call Glowest.ok hr (by rfl) Glowest.m Glowest.kp Glowest.b .nil pass0 (pa_cons (pe_tup (pa_cons (pv 1) pa_nil)) (pa_cons (pv 2) pa_nil))) rfl)))), ?_⟩
  refine ⟨_, rfl, rfl, _, rfl, iteF' (by rfl) ?_⟩
  refine ⟨Nat.zero_le _, fun tw ntw => ?_⟩
  have ptw : p ≠ tw := ne_of_none hp ntw
  refine ⟨_, rfl, p, C, dx, [], rfl, (by rw [upd_ne ptw]; exact hp), T.cl, T.nt, (by show 0 < 1000; decide), ?_⟩
  refine ⟨_, rfl, (by show 1 ≤ sizeLine; decide), fun v nv => ?_⟩
  refine ⟨_, rfl, v, n, rfl, upd_same, fun H1 t s1 et => ?_⟩
  have S2 := (same_new nv (.tup [V.int n])).trans s1
  have hp1 := S2 _ _ (show (upd (upd H tw (.tup [])) p (.ins C dx [("tower", .ref tw)])) p = some _ from upd_same)
  refine ⟨_, rfl, p, C, dx, [("tower", .ref tw)], rfl, hp1, T.cl, T.ne, (by show 1 < 1000; decide), ?_⟩
  have twp : tw ≠ p := fun z => ptw z.symm
  refine fin _ (fun b o nb hb => ?_) ⟨dx, tw, t, upd_same, ?_, ?_⟩
  · rw [upd_ne nb]
    refine S2 _ _ ?_
    rw [upd_ne nb, upd_ne (ne_of_none hb ntw)]; exact hb
  · rw [upd_ne twp]
    refine S2 _ _ ?_
    rw [upd_ne twp, upd_same]
  · obtain ⟨u, e1, e2⟩ := et
    refine ⟨u, ?_, ?_⟩
    · rw [upd_ne (ne_of e1 hp1 (by intro z; cases z))]; exact e1
    · show upd _ _ _ _ = _
      rw [upd_ne (ne_of e2 hp1 (by intro z; cases z))]; exact e2
abbrev sFi : Stmt := inCls (topS 75) 0
abbrev NFi : List Str := ["self"]
theorem scFi : FnScope NFi ["self"] (defScope sFi) := ⟨rfl, rfl, rfl, by decide +kernel, rfl, by decide +kernel, by decide +kernel⟩
def sp_Fi (C : Addr) : Sp := fun vs H Q _ => ∃ (p dx : Addr), vs = [.ref p] ∧ H p = some (.ins C dx []) ∧ ∀ H', But p H H' → FldAt C H' p → Q .non H'
theorem ok_Fi {f C : Addr} {fd : FuncData} {k : Nat} (F : Fun K "__init__" "Field.__init__" sFi f fd) (T : FldT K C) : FnOk P w K mg base CX0 (k + 1) f fd ["self"] (sp_Fi C) := by
  refine F.ok scFi (fun vs H Q E h => ?_) (fun cdv A outer s H vs Q E hr h => ?_)
  · obtain ⟨p, dx, rfl, _⟩ := h
    rfl
  obtain ⟨p, dx, rfl, hp, fin⟩ := h
  refine ⟨_, (pss_cons (ps_fld (pv 0) (pe_tup pa_nil) rfl)
    (pss_one (ps_fld (pv 0) pe_dnewT rfl))), ?_⟩
  refine ⟨Nat.zero_le _, fun tw ntw => ?_⟩
  have ptw : p ≠ tw := ne_of_none hp ntw
  refine ⟨_, rfl, p, C, dx, [], rfl, (by rw [upd_ne ptw]; exact hp), T.cl, T.nt, (by show 0 < 1000; decide), ?_⟩
  intro d nd
  have hp1 : (upd (upd H tw (.tup [])) p (.ins C dx [("tower", .ref tw)])) p = some (.ins C dx [("tower", .ref tw)]) := upd_same
  have pd : p ≠ d := ne_of_none hp1 nd
  refine ⟨_, rfl, p, C, dx, [("tower", .ref tw)], rfl, (by rw [upd_ne pd]; exact hp1), T.cl, T.nk, (by show 1 < 1000; decide), ?_⟩
  have twp : tw ≠ p := fun z => ptw z.symm
  have htw : (upd (upd H tw (.tup [])) p (.ins C dx [("tower", .ref tw)])) tw = some (.tup []) := by rw [upd_ne twp, upd_same]
  refine fin _ (fun b o nb hb => ?_) ⟨dx, tw, d, upd_same, ?_⟩
  · have h1 : (upd (upd H tw (.tup [])) p (.ins C dx [("tower", .ref tw)])) b = some o := by rw [upd_ne nb, upd_ne (ne_of_none hb ntw)]; exact hb
    rw [upd_ne nb, upd_ne (ne_of_none h1 nd)]; exact h1
  · rw [upd_ne twp, upd_ne (ne_of_none htw nd)]; exact htw
abbrev s_shortest : Stmt := topS 77
abbrev N_shortest : List Str := ["element", "vector", "scale"]
theorem sc_shortest : FnScope N_shortest ["element"] (defScope s_shortest) := ⟨rfl, rfl, rfl, by decide +kernel, rfl, by decide +kernel, by decide +kernel⟩
def sp_id : Sp := fun vs H Q _ => ∃ (a : Addr) (x : Int), vs = [.ref a] ∧ El H a x ∧ ∀ H' p, Same H H' → El H' p x → Q (.ref p) H'
theorem ok__shortest {f : Addr} {fd : FuncData} {k : Nat} (F : Fun K "_shortest" "_shortest" s_shortest f fd) (M : Names mg) : FnOk P w K mg base CX0 (k + 1) f fd ["element"] sp_id := by
  refine F.ok sc_shortest (fun vs H Q E h => ?_) (fun cdv A outer s H vs Q E hr h => ?_)
  · obtain ⟨a, x, rfl, _⟩ := h
    rfl
  obtain ⟨a, x, rfl, ⟨v, ha, hv⟩, fin⟩ := h
  refine ⟨_, (pss_cons (ps_asg (pv 0) (pg_tup rfl (pgs_cons (pg_name (i := 1) sc_shortest.nd rfl (.inl rfl)) (pgs_cons (pg_name (i := 2) sc_shortest.nd rfl (.inl rfl)) pgs_nil))))
    (pss_cons (ps_while PassesOwn.never (PW.pt (pw_and (pt_cmpR op_gt (pe_callB call_len_seq (by rfl) M.len PySem.boot_len (pa_cons (pv 1) pa_nil)) pe_int (nomark _)) (pw_and1 pt_nev))) pss_nev)
    (pss_one (ps_ret (pe_tup (pa_cons (pv 1) (pa_cons (pv 2) pa_nil))))))), ?_⟩
  refine ⟨_, rfl, a, _, rfl, SqT.of ha, rfl, _, _, rfl, _, _, rfl, rfl, ?_⟩
  refine ⟨fun m σ H' => σ = [some (.ref a), some (.ref v), some (.int 1)] ∧ H' = H, ⟨0, rfl, rfl⟩, fun m σ H' hW => ?_⟩
  obtain ⟨rfl, rfl⟩ := hW
  refine ⟨_, rfl, v, _, rfl, .inr (SqT.of hv), _, _, rfl, rfl, _, rfl, iteF' (by rfl) ?_⟩
  refine iteF ?_
  refine ⟨_, rfl, _, rfl, (by show 2 ≤ sizeLine; decide), fun q nq => ?_⟩
  exact fin _ q (same_new nq _) ⟨v, upd_same, (same_new nq _) _ _ hv⟩
abbrev s_alike : Stmt := topS 76
abbrev N_alike : List Str := ["one", "other", "size"]
theorem sc_alike : FnScope N_alike ["one", "other"] (defScope s_alike) := ⟨rfl, rfl, rfl, by decide +kernel, rfl, by decide +kernel, by decide +kernel⟩
def sp_alike : Sp := fun vs H Q _ => ∃ (a b : Addr) (x y : Int), vs = [.ref a, .ref b] ∧ El H a x ∧ El H b y ∧ ∀ H' p q r, Same H H' → H' p = some (.tup [.ref q, .ref r]) → El H' q x → El H' r y → Q (.ref p) H'
theorem ok__alike {f : Addr} {fd : FuncData} {k : Nat} (F : Fun K "_alike" "_alike" s_alike f fd) (M : Names mg) (Gwidened : Cal P w K mg base k "widened" ["element", "size"] sp_widened) : FnOk P w K mg base CX0 (k + 1) f fd ["one", "other"] sp_alike := by
  refine F.ok sc_alike (fun vs H Q E h => ?_) (fun cdv A outer s H vs Q E hr h => ?_)
  · obtain ⟨a, b, x, y, rfl, _⟩ := h
    rfl
  obtain ⟨a, b, x, y, rfl, ha, hb, fin⟩ := h
  refine ⟨_, (pss_cons (ps_set (i := 2) sc_alike.nd rfl (.inl rfl) (pe_callB (call_max2 rfl) (by rfl) M.max (by decide +kernel) (pa_cons (pe_callB call_len_seq (by rfl) M.len PySem.boot_len (pa_cons (pe_ix ix_tup (pv 0) pe_int (fun _ _ => rfl)) pa_nil)) (pa_cons (pe_callB call_len_seq (by rfl) M.len PySem.boot_len (pa_cons (pe_ix ix_tup (pv 1) pe_int (fun _ _ => rfl)) pa_nil)) pa_nil))))
    (pss_one (ps_ret (pe_tup (pa_cons (pe_call Gwidened.ok hr (by rfl) Gwidened.m Gwidened.kp Gwidened.b .nil pass0 (pa_cons (pv 0) (pa_cons (pv 2) pa_nil))) (pa_cons (pe_call Gwidened.ok hr (by rfl) Gwidened.m Gwidened.kp Gwidened.b .nil pass0 (pa_cons (pv 1) (pa_cons (pv 2) pa_nil))) pa_nil)))))), ?_⟩
  have ha0 := ha
  have hb0 := hb
  obtain ⟨v, ha, hv⟩ := ha
  obtain ⟨u, hb, hu⟩ := hb
  refine ⟨_, rfl, a, _, _, _, rfl, rfl, SqT.of ha, atI_nat (j := 0) rfl, v, _, rfl, .inr (SqT.of hv), _, rfl, b, _, _, _, rfl, rfl, SqT.of hb, atI_nat (j := 0) rfl, u, _, rfl, .inr (SqT.of hu), _, _, rfl, ?_⟩
  refine ⟨_, rfl, _, rfl, a, x, rfl, ha0, fun H1 q s1 eq => ?_⟩
  refine ⟨_, rfl, _, rfl, b, y, rfl, hb0.same s1, fun H2 r s2 er => ⟨(by show 2 ≤ sizeLine; decide), fun p np => ?_⟩⟩
  have S3 := same_new np (.tup [V.ref q, .ref r])
  exact fin _ p q r (s1.trans (s2.trans S3)) upd_same ((eq.same s2).same S3) (er.same S3)
end
end KO

namespace KO
open PySem PySem.Spec PyProof.Rows L2 KG
section
variable {P : Program} {w : World} {K : PySem.W.Frag} {mg : Str → Option Value} {base : Heap}
abbrev s_all_in_one_tower : Stmt := topS 68
abbrev N_all_in_one_tower : List Str := ["pairs", "most", "whole", "tower", "_", "images", "found", "element"]
theorem sc_all_in_one_tower : FnScope N_all_in_one_tower ["pairs", "most"] (defScope s_all_in_one_tower) := ⟨rfl, rfl, rfl, by decide +kernel, rfl, by decide +kernel, by decide +kernel⟩
def sp_all : Sp := fun vs H Q _ => ∃ (l : Addr) (us : List V) (ns : List Int), vs = [.ref l, .int 4] ∧ H l = some (.lst us) ∧ RowAt PairAt H us ns ∧ ns.length ≤ 100 ∧ ∀ H' p tw r ys, Same H H' → H' p = some (.tup [.ref tw, .ref r]) → H' tw = some (.tup []) → H' r = some (.lst ys) → RowAt El H' ys ns → Q (.ref p) H'
theorem ok__all_in_one_tower {f : Addr} {fd : FuncData} {k : Nat} (F : Fun K "_all_in_one_tower" "_all_in_one_tower" s_all_in_one_tower f fd) (M : Names mg) (G_rank : Cal P w K mg base k "_rank" ["tower"] sp_rank) (Gjoined : Cal P w K mg base k "joined" ["tower", "other", "most"] sp_joined) (Gimage_of_element : Cal P w K mg base k "image_of_element" ["tower", "images", "element"] sp_ioe) : FnOk P w K mg base CX0 (k + 1) f fd ["pairs", "most"] sp_all := by
  refine F.ok sc_all_in_one_tower (fun vs H Q E h => ?_) (fun cdv A outer s H vs Q E hr h => ?_)
  · obtain ⟨l, us, ns, rfl, _⟩ := h
    rfl
  obtain ⟨l, us, ns, rfl, hl, hus, h100, fin⟩ := h
  have lus := hus.1
  have hu := hu_of hr
  refine ⟨_, (pss_cons (ps_set (i := 2) sc_all_in_one_tower.nd rfl (.inr rfl) (pe_tup pa_nil))
    (pss_cons (ps_for PassesOwn.never rfl (pi_list (pv 0)) (pg_tup rfl (pgs_cons (pg_name (i := 3) sc_all_in_one_tower.nd rfl (.inl rfl)) (pgs_cons (pg_name (i := 4) sc_all_in_one_tower.nd rfl (.inl rfl)) pgs_nil)))
      (pss_one (ps_if (pt_cmpR (op_ltT (Nat.lt_of_le_of_lt (Nat.le_add_right _ _) hr.units)) (pe_call G_rank.ok hr (by rfl) G_rank.m G_rank.kp G_rank.b .nil pass0 (pa_cons (pv 2) pa_nil)) (pe_call G_rank.ok hr (by rfl) G_rank.m G_rank.kp G_rank.b .nil pass0 (pa_cons (pv 3) pa_nil)) (nomark _)) pss_nev pss_nil)))
    (pss_cons (ps_set (i := 5) sc_all_in_one_tower.nd rfl (.inr rfl) pe_dnewT)
    (pss_cons (ps_for PassesOwn.never rfl (pi_list (pv 0)) (pg_tup rfl (pgs_cons (pg_name (i := 3) sc_all_in_one_tower.nd rfl (.inl rfl)) (pgs_cons (pg_name (i := 4) sc_all_in_one_tower.nd rfl (.inl rfl)) pgs_nil)))
      (pss_one (ps_if (pt_cmp (pc_dnotin hu (pv 3) (pv 5)))
        (pss_cons (ps_set (i := 6) sc_all_in_one_tower.nd rfl (.inl rfl) (pe_call Gjoined.ok hr (by rfl) Gjoined.m Gjoined.kp Gjoined.b .nil pass0 (pa_cons (pv 2) (pa_cons (pv 3) (pa_cons (pv 1) pa_nil)))))
        (pss_cons (ps_if (pt_cmpR op_isN (pv 6) pe_non (nomark _)) pss_nev pss_nil)
        (pss_one (ps_asg (pv 6) (pg_tup rfl (pgs_cons (pg_name (i := 2) sc_all_in_one_tower.nd rfl (.inr rfl)) (pgs_cons (pg_sub (pv 5) (pv 3) (set_dict hu)) pgs_nil)))))))
        pss_nil)))
    (pss_one (ps_ret (pe_tup (pa_cons (pv 2) (pa_cons (pe_lc (own := [("tower", 3), ("element", 7)]) (g := gTup K 2 (gCons (gName 3) (gCons (gName 7) gNil))) (by rfl) sc_all_in_one_tower.nd (pi_list (pv 0)) (blkOk_by (own := [("tower", 3), ("element", 7)]) (N := N_all_in_one_tower) (sc := defScope s_all_in_one_tower) (by decide +kernel)) (fun _ _ _ _ _ => pg_tup rfl (pgs_cons (pg_name (i := 3) sc_all_in_one_tower.nd rfl (Or.inl rfl)) (pgs_cons (pg_name (i := 7) sc_all_in_one_tower.nd rfl (Or.inl rfl)) pgs_nil))) (fun _ _ _ _ _ => pts_nil) (fun _ _ _ _ _ => (pe_call Gimage_of_element.ok hr (by rfl) Gimage_of_element.m Gimage_of_element.kp Gimage_of_element.b .nil pass0 (pa_cons (pv 2) (pa_cons (pe_dget hu (pv 5) (pv 3) (fun _ _ => rfl)) (pa_cons (pv 7) pa_nil)))))) pa_nil))))))))), ?_⟩
  refine ⟨Nat.zero_le _, fun tw ntw => ?_⟩
  have S1 := same_new ntw (.tup [])
  have htw : (upd H tw (.tup [])) tw = some (.tup []) := upd_same
  generalize upd H tw (.tup []) = H1 at S1 htw
  refine ⟨_, rfl, l, rfl, ⟨_, SqL.of (S1 _ _ hl)⟩, for_list (K := K) (xs := us) (fun i σ H' => ∃ (y3 y4 : Option V), σ = [some (.ref l), some (.int 4), some (.ref tw), y3, y4, none, none, none] ∧ Same H1 H')
    ⟨none, none, rfl, Same.refl _⟩ (fun i σ H' _ hP => by obtain ⟨_, _, _, sm⟩ := hP; exact SqL.of (sm _ _ (S1 _ _ hl))) (fun i u σ H' hx hP => ?_) (fun σ H' hP => ?_)⟩
  · obtain ⟨y3, y4, rfl, sm⟩ := hP
    obtain ⟨q, n, rfl, hn, tw2, t2, hq, ht2, he2⟩ := (hus.mono fun a n h => (h.same S1).same sm).2 i u hx
    refine ⟨q, _, rfl, SqT.of hq, rfl, _, _, rfl, _, _, rfl, rfl, ?_⟩
    refine ⟨_, rfl, tw, rfl, sm _ _ htw, fun H3 p3 s3 e3 => ?_⟩
    refine ⟨_, rfl, tw2, rfl, s3 _ _ ht2, fun H4 p4 s4 e4 => ?_⟩
    refine ⟨p3, p4, _, _, rfl, rfl, SqT.of (s4 _ _ e3), SqT.of e4, _, rfl, iteF' (by decide +kernel) ?_⟩
    exact ⟨_, _, rfl, sm.trans (s3.trans s4)⟩
  obtain ⟨y3, y4, rfl, s1⟩ := hP
  have S2 := S1.trans s1
  have htw2 := s1 _ _ htw
  intro d nd
  have S3 := same_new nd (.dT [])
  have dH : H d = none := S2.free nd
  have twd : tw ≠ d := ne_of_none htw2 nd
  refine ⟨_, rfl, l, rfl, ⟨_, SqL.of ((S2.trans S3) _ _ hl)⟩, for_list (K := K) (xs := us) (fun i σ H' => ∃ (y3 y4 y6 : Option V) (kvs : List (List L2.Key × V)), σ = [some (.ref l), some (.int 4), some (.ref tw), y3, y4, some (.ref d), y6, none] ∧ Same H H' ∧ H' tw = some (.tup []) ∧ H' d = some (.dT kvs) ∧ ((i = 0 ∧ kvs = []) ∨ ∃ im, kvs = [([], .ref im)]))
    ⟨_, _, _, [], rfl, S2.trans S3, by rw [upd_ne twd]; exact htw2, upd_same, .inl ⟨rfl, rfl⟩⟩ (fun i σ H' _ hP => by obtain ⟨_, _, _, _, _, sm, _⟩ := hP; exact SqL.of (sm _ _ hl)) (fun i u σ H' hx hP => ?_) (fun σ H' hP => ?_)⟩
  · obtain ⟨y3, y4, y6, kvs, rfl, sm, hT, hD, hk⟩ := hP
    obtain ⟨q, n, rfl, hn, tw2, t2, hq, ht2, he2⟩ := (hus.mono fun a n h => h.same sm).2 i u hx
    refine ⟨q, _, rfl, SqT.of hq, rfl, _, _, rfl, _, _, rfl, rfl, ?_⟩
    have ht2' : H' tw2 = some (.tup (([] : List L2.Key).map kV)) := ht2
    refine ⟨_, rfl, _, rfl, d, _, rfl, DGet.t hD ht2', _, rfl, ?_⟩
    rcases hk with ⟨_, rfl⟩ | ⟨im, rfl⟩
    · refine iteT' rfl ?_
      refine ⟨_, rfl, _, rfl, _, rfl, tw, tw2, _, rfl, ht2, fun H3 p3 im s3 e3 => ?_⟩
      refine ⟨_, rfl, rfl, _, rfl, iteF' (by rfl) ?_⟩
      refine ⟨_, rfl, p3, _, rfl, SqT.of e3, rfl, _, _, rfl, _, _, rfl, ?_⟩
      have ht3 : H3 tw2 = some (.tup (([] : List L2.Key).map kV)) := s3 _ _ ht2
      refine ⟨_, rfl, _, rfl, d, _, rfl, DPut.t (s3 _ _ hD) ht3 (by show 0 < sizeLine; decide), rfl, ?_⟩
      exact ⟨_, _, _, _, rfl, same_put (sm.trans s3) dH, by rw [upd_ne twd]; exact s3 _ _ hT, upd_same, .inr ⟨im, rfl⟩⟩
    · refine iteF' rfl ?_
      exact ⟨_, _, _, _, rfl, sm, hT, hD, .inr ⟨im, rfl⟩⟩
  obtain ⟨y3, y4, y6, kvs, rfl, sm, hT, hD, hk⟩ := hP
  have hus' := hus.mono fun a n h => h.same sm
  refine ⟨_, rfl, _, rfl, l, rfl, ⟨_, SqL.of (sm _ _ hl)⟩, fun D nD => compR_list (xs := us) (fun j H y => ∃ a n, y = .ref a ∧ ns[j]? = some n ∧ El H a n) (fun j H1 H2 y k h => by obtain ⟨a, n, e1, e2, e3⟩ := h; exact ⟨a, n, e1, e2, e3.kept k⟩) (SqL.of (sm _ _ hl)) nD (by omega) (fun i u H5 Nx hx s5 hN => ?_) (fun H5 ys s5 hy hyl hR => ?_)⟩
  · obtain ⟨q, n, rfl, hn, tw2, t2, hq, ht2, he2⟩ := hus'.2 i u hx
    have hi : 0 < us.length := by have := (List.getElem?_eq_some_iff.mp hx).1; omega
    obtain ⟨im, rfl⟩ : ∃ im, kvs = [([], .ref im)] := by
      rcases hk with ⟨z, _⟩ | h
      · omega
      · exact h
    have ht5 : H5 tw2 = some (.tup (([] : List L2.Key).map kV)) := s5 _ _ ht2
    refine ⟨q, _, rfl, SqT.of (s5 _ _ hq), rfl, _, _, rfl, _, _, rfl, rfl, rfl, ?_⟩
    refine ⟨_, rfl, _, rfl, _, rfl, d, .ref im, rfl, DGet.t (s5 _ _ hD) ht5, _, rfl, tw, _, t2, n, rfl, s5 _ _ hT, he2.same s5, fun H6 p6 s6 e6 => ?_⟩
    exact hN H6 _ s6 ⟨p6, n, rfl, hn, e6⟩
  · refine ⟨(by show 2 ≤ sizeLine; decide), fun p np => ?_⟩
    have S6 := same_new np (.tup [V.ref tw, .ref D])
    have hy6 := S6 _ _ hy
    refine fin _ p tw D ys (sm.trans (s5.trans S6)) upd_same (S6 _ _ (s5 _ _ hT)) hy6 ⟨by omega, fun j y hy => ?_⟩
    obtain ⟨a, n, e1, e2, e3⟩ := hR j y hy
    exact ⟨a, n, e1, e2, e3.same S6⟩
end
end KO

namespace KG
open PySem PySem.Spec PyProof.Rows L2
theorem pe_fldK {X : Cx} {K : PySem.W.Frag} {e : Expr} {f : Str} {pos : Pos} {ta : TE} (he : PE X e ta) (hb : attributeBase e f X.env (eval e X.env) = eval e X.env := by rfl) (hk : X.K = K := by rfl) : PE X (.Attribute e f pos) (tFld K ta f) := hk ▸ pe_fld he hb
end KG
namespace KO
open PySem PySem.Spec PyProof.Rows L2 KG
section
variable {P : Program} {w : World} {K : PySem.W.Frag} {mg : Str → Option Value} {base : Heap}
abbrev sall_together : Stmt := topS 67
abbrev Nall_together : List Str := ["pairs", "found", "small", "tower", "element", "_"]
theorem scall_together : FnScope Nall_together ["pairs"] (defScope sall_together) := ⟨rfl, rfl, rfl, by decide +kernel, rfl, by decide +kernel, by decide +kernel⟩
def sp_allt : Sp := fun vs H Q _ => ∃ (l : Addr) (us : List V) (ns : List Int), vs = [.ref l] ∧ H l = some (.lst us) ∧ RowAt PairAt H us ns ∧ ns.length ≤ 100 ∧ ∀ H' p tw r ys, Same H H' → H' p = some (.tup [.ref tw, .ref r]) → H' tw = some (.tup []) → H' r = some (.lst ys) → RowAt El H' ys ns → Q (.ref p) H'
theorem ok_all_together {f : Addr} {fd : FuncData} {k : Nat} {tm : Tok} (F : Fun K "all_together" "all_together" sall_together f fd) (M : Names mg) (gM : mg "MOST_GENERATORS" = some (.int 4 tm)) (G_all_in_one_tower : Cal P w K mg base k "_all_in_one_tower" ["pairs", "most"] sp_all) : FnOk P w K mg base CX0 (k + 1) f fd ["pairs"] sp_allt := by
  refine F.ok scall_together (fun vs H Q E h => ?_) (fun cdv A outer s H vs Q E hr h => ?_)
  · obtain ⟨l, us, ns, rfl, _⟩ := h
    rfl
  obtain ⟨l, us, ns, rfl, hl, hus, h100, fin⟩ := h
  refine ⟨_, (pss_cons (ps_set (i := 1) scall_together.nd rfl (.inl rfl) (pe_call G_all_in_one_tower.ok hr (by rfl) G_all_in_one_tower.m G_all_in_one_tower.kp G_all_in_one_tower.b .nil pass0 (pa_cons (pv 0) (pa_cons (pe_glob (v := .int 4) (by rfl) gM ⟨_, rfl⟩) pa_nil))))
    (pss_cons (ps_if (pt_cmpR op_isN (pv 1) pe_non (nomark _)) pss_nev pss_nil)
    (pss_one (ps_ret (pv 1))))), ?_⟩
  refine ⟨_, rfl, l, us, ns, rfl, hl, hus, h100, fun H' p tw r ys s1 h1 h2 h3 h4 => ?_⟩
  exact ⟨_, rfl, rfl, _, rfl, iteF' (by rfl) ⟨_, rfl, fin H' p tw r ys s1 h1 h2 h3 h4⟩⟩
abbrev sholding : Stmt := inCls (topS 75) 1
abbrev Nholding : List Str := ["self", "numbers", "found", "number", "element"]
theorem scholding : FnScope Nholding ["self", "numbers"] (defScope sholding) := ⟨rfl, rfl, rfl, by decide +kernel, rfl, by decide +kernel, by decide +kernel⟩
def sp_holding (CF CN : Addr) : Sp := fun vs H Q _ => ∃ (p l : Addr) (us : List V) (ns : List Int), vs = [.ref p, .ref l] ∧ FldAt CF H p ∧ H l = some (.lst us) ∧ RowAt (NumAt CN) H us ns ∧ ns.length ≤ 100 ∧ ∀ H' r ys, But p H H' → FldAt CF H' p → H' r = some (.lst ys) → RowAt El H' ys ns → Q (.ref r) H'
theorem ok_holding {f CF CN : Addr} {fd : FuncData} {k : Nat} (F : Fun K "holding" "Field.holding" sholding f fd) (TF : FldT K CF) (TN : NumT K CN) (Gall_together : Cal P w K mg base k "all_together" ["pairs"] sp_allt) (G_shortest : Cal P w K mg base k "_shortest" ["element"] sp_id) : FnOk P w K mg base CX0 (k + 1) f fd ["self", "numbers"] (sp_holding CF CN) := by
  refine F.ok scholding (fun vs H Q E h => ?_) (fun cdv A outer s H vs Q E hr h => ?_)
  · obtain ⟨p, l, us, ns, rfl, _⟩ := h
    rfl
  obtain ⟨p, l, us, ns, rfl, ⟨dx, tw0, d0, hp, htw0⟩, hl, hus, h100, fin⟩ := h
  have lus := hus.1
  refine ⟨_, (pss_cons (ps_asg (pe_call Gall_together.ok hr (by rfl) Gall_together.m Gall_together.kp Gall_together.b .nil pass0 (pa_cons (pe_lc (own := [("number", 3)]) (g := gName 3) (by rfl) scholding.nd (pi_list (pv 1)) (blkOk_by (own := [("number", 3)]) (N := Nholding) (sc := defScope sholding) (by decide +kernel)) (fun _ _ _ _ _ => pg_name (i := 3) scholding.nd rfl (Or.inl rfl)) (fun _ _ _ _ _ => pts_nil) (fun _ _ _ _ _ => (pe_tup (pa_cons (pe_fldK (K := K) (pv 3)) (pa_cons (pe_fldK (K := K) (pv 3)) pa_nil))))) pa_nil)) (pg_tup rfl (pgs_cons (pg_att (pv 0)) (pgs_cons (pg_name (i := 2) scholding.nd rfl (.inl rfl)) pgs_nil))))
    (pss_one (ps_ret (pe_lc (own := [("element", 4)]) (g := gName 4) (by rfl) scholding.nd (pi_list (pv 2)) (blkOk_by (own := [("element", 4)]) (N := Nholding) (sc := defScope sholding) (by decide +kernel)) (fun _ _ _ _ _ => pg_name (i := 4) scholding.nd rfl (Or.inl rfl)) (fun _ _ _ _ _ => pts_nil) (fun _ _ _ _ _ => (pe_call G_shortest.ok hr (by rfl) G_shortest.m G_shortest.kp G_shortest.b .nil pass0 (pa_cons (pv 4) pa_nil))))))), ?_⟩
  refine ⟨_, rfl, l, rfl, ⟨_, SqL.of hl⟩, fun D nD => compR_list (xs := us) (fun j H y => ∃ a n, y = .ref a ∧ ns[j]? = some n ∧ PairAt H a n) (fun j H1 H2 y k h => by obtain ⟨a, n, e1, e2, e3⟩ := h; exact ⟨a, n, e1, e2, e3.kept k⟩) (SqL.of hl) nD (by omega) (fun i u H5 Nx hx s5 hN => ?_) (fun H5 ys s5 hy hyl hR => ?_)⟩
  · obtain ⟨q, n, rfl, hn, dq, tw, t, hq, htw, het⟩ := (hus.mono fun a n h => h.same s5).2 i u hx
    refine ⟨rfl, _, rfl, q, CN, dq, _, _, rfl, hq, TN.cl, TN.nt, rfl, _, rfl, q, CN, dq, _, _, rfl, hq, TN.cl, TN.ne, rfl, (by show 2 ≤ sizeLine; decide), fun r nr => ?_⟩
    have S6 := same_new nr (.tup [V.ref tw, .ref t])
    exact hN _ _ S6 ⟨r, n, rfl, hn, tw, t, upd_same, S6 _ _ htw, het.same S6⟩
  · refine ⟨D, ys, ns, rfl, hy, ⟨by omega, hR⟩, h100, fun H6 r6 tw6 l6 zs s6 h6 ht6 hl6 hz => ?_⟩
    have S := s5.trans s6
    have hp6 := S _ _ hp
    have npt : tw6 ≠ p := ne_of ht6 hp6 (by intro z; cases z)
    have npl : l6 ≠ p := ne_of hl6 hp6 (by intro z; cases z)
    refine ⟨r6, _, rfl, SqT.of h6, rfl, _, _, rfl, _, rfl, p, CF, dx, _, rfl, hp6, TF.cl, TF.nt, (by show 2 < 1000; decide), _, _, rfl, rfl, ?_⟩
    have hpF : (upd H6 p (.ins CF dx (putF "tower" (.ref tw6) [("tower", .ref tw0), ("known_roots", .ref d0)]))) p = some (.ins CF dx [("tower", .ref tw6), ("known_roots", .ref d0)]) := upd_same
    have BF : But p H (upd H6 p (.ins CF dx (putF "tower" (.ref tw6) [("tower", .ref tw0), ("known_roots", .ref d0)]))) := (But.of S).trans (.put _ _)
    have FF : FldAt CF (upd H6 p (.ins CF dx (putF "tower" (.ref tw6) [("tower", .ref tw0), ("known_roots", .ref d0)]))) p := ⟨dx, tw6, d0, hpF, by rw [upd_ne npt]; exact ht6⟩
    have LF : (upd H6 p (.ins CF dx (putF "tower" (.ref tw6) [("tower", .ref tw0), ("known_roots", .ref d0)]))) l6 = some (.lst zs) := by rw [upd_ne npl]; exact hl6
    have RF : RowAt El (upd H6 p (.ins CF dx (putF "tower" (.ref tw6) [("tower", .ref tw0), ("known_roots", .ref d0)]))) zs ns := hz.mono fun a n h => by
      obtain ⟨v, e1, e2⟩ := h
      exact ⟨v, by rw [upd_ne (ne_of e1 hp6 (by intro z; cases z))]; exact e1, by show upd _ _ _ _ = _; rw [upd_ne (ne_of e2 hp6 (by intro z; cases z))]; exact e2⟩
    generalize (upd H6 p (.ins CF dx (putF "tower" (.ref tw6) [("tower", .ref tw0), ("known_roots", .ref d0)]))) = H7 at BF FF LF RF
    have lzs := RF.1
    refine ⟨_, rfl, l6, rfl, ⟨_, SqL.of LF⟩, fun D2 nD2 => compR_list (xs := zs) (fun j H y => ∃ a n, y = .ref a ∧ ns[j]? = some n ∧ El H a n) (fun j H1 H2 y k h => by obtain ⟨a, n, e1, e2, e3⟩ := h; exact ⟨a, n, e1, e2, e3.kept k⟩) (SqL.of LF) nD2 (by omega) (fun i u H8 Nx hx s8 hN => ?_) (fun H8 ys s8 hy hyl hR => ?_)⟩
    · obtain ⟨q, n, rfl, hn, he⟩ := (RF.mono fun a n h => h.same s8).2 i u hx
      exact ⟨rfl, _, rfl, q, n, rfl, he, fun H9 p9 s9 e9 => hN H9 _ s9 ⟨p9, n, rfl, hn, e9⟩⟩
    · exact fin H8 D2 ys (BF.trans (.of s8)) (FF.same s8) hy ⟨by omega, hR⟩
/-! plus, minus, product -/
abbrev sFplus : Stmt := inCls (topS 75) 3
abbrev sFminus : Stmt := inCls (topS 75) 4
abbrev sFproduct : Stmt := inCls (topS 75) 5
abbrev NF3 : List Str := ["self", "one", "other"]
theorem scFplus : FnScope NF3 ["self", "one", "other"] (defScope sFplus) := ⟨rfl, rfl, rfl, by decide +kernel, rfl, by decide +kernel, by decide +kernel⟩
theorem scFminus : FnScope NF3 ["self", "one", "other"] (defScope sFminus) := ⟨rfl, rfl, rfl, by decide +kernel, rfl, by decide +kernel, by decide +kernel⟩
theorem scFproduct : FnScope NF3 ["self", "one", "other"] (defScope sFproduct) := ⟨rfl, rfl, rfl, by decide +kernel, rfl, by decide +kernel, by decide +kernel⟩
def sp_F (C : Addr) (f : Int → Int → Int) : Sp := fun vs H Q _ => ∃ (p a b : Addr) (x y : Int), vs = [.ref p, .ref a, .ref b] ∧ FldAt C H p ∧ El H a x ∧ El H b y ∧ Sm x ∧ Sm y ∧ ∀ H' q, Same H H' → El H' q (f x y) → Q (.ref q) H'
theorem ok_Fplus {f C : Addr} {fd : FuncData} {k : Nat} (F : Fun K "plus" "Field.plus" sFplus f fd) (G_alike : Cal P w K mg base k "_alike" ["one", "other"] sp_alike) (Gelement_sum : Cal P w K mg base k "element_sum" ["one", "other"] sp_eadd) (G_shortest : Cal P w K mg base k "_shortest" ["element"] sp_id) : FnOk P w K mg base CX0 (k + 1) f fd ["self", "one", "other"] (sp_F C (· + ·)) := by
  refine F.ok scFplus (fun vs H Q E h => ?_) (fun cdv A outer s H vs Q E hr h => ?_)
  · obtain ⟨p, a, b, x, y, rfl, _⟩ := h
    rfl
  obtain ⟨p, a, b, x, y, rfl, hp, ha, hb, sx, sy, fin⟩ := h
  refine ⟨_, (pss_cons (ps_asg (pe_call G_alike.ok hr (by rfl) G_alike.m G_alike.kp G_alike.b .nil pass0 (pa_cons (pv 1) (pa_cons (pv 2) pa_nil))) (pg_tup rfl (pgs_cons (pg_name (i := 1) scFplus.nd rfl (.inl rfl)) (pgs_cons (pg_name (i := 2) scFplus.nd rfl (.inl rfl)) pgs_nil))))
    (pss_one (ps_ret (pe_call G_shortest.ok hr (by rfl) G_shortest.m G_shortest.kp G_shortest.b .nil pass0 (pa_cons (pe_call Gelement_sum.ok hr (by rfl) Gelement_sum.m Gelement_sum.kp Gelement_sum.b .nil pass0 (pa_cons (pv 1) (pa_cons (pv 2) pa_nil))) pa_nil))))), ?_⟩
  refine ⟨_, rfl, _, rfl, a, b, x, y, rfl, ha, hb, fun H1 q a1 b1 s1 hq h1 h2 => ?_⟩
  refine ⟨q, _, rfl, SqT.of hq, rfl, _, _, rfl, _, _, rfl, rfl, ?_⟩
  refine ⟨_, rfl, _, rfl, a1, b1, x, y, rfl, h1, h2, sx, sy, fun H2 t s2 e2 => ⟨t, _, rfl, e2, fun H3 r s3 e3 => fin _ r (s1.trans (s2.trans s3)) e3⟩⟩
theorem ok_Fminus {f C : Addr} {fd : FuncData} {k : Nat} (F : Fun K "minus" "Field.minus" sFminus f fd) (G_alike : Cal P w K mg base k "_alike" ["one", "other"] sp_alike) (Gelement_difference : Cal P w K mg base k "element_difference" ["one", "other"] sp_esub) (G_shortest : Cal P w K mg base k "_shortest" ["element"] sp_id) : FnOk P w K mg base CX0 (k + 1) f fd ["self", "one", "other"] (sp_F C (· - ·)) := by
  refine F.ok scFminus (fun vs H Q E h => ?_) (fun cdv A outer s H vs Q E hr h => ?_)
  · obtain ⟨p, a, b, x, y, rfl, _⟩ := h
    rfl
  obtain ⟨p, a, b, x, y, rfl, hp, ha, hb, sx, sy, fin⟩ := h
  refine ⟨_, (pss_cons (ps_asg (pe_call G_alike.ok hr (by rfl) G_alike.m G_alike.kp G_alike.b .nil pass0 (pa_cons (pv 1) (pa_cons (pv 2) pa_nil))) (pg_tup rfl (pgs_cons (pg_name (i := 1) scFminus.nd rfl (.inl rfl)) (pgs_cons (pg_name (i := 2) scFminus.nd rfl (.inl rfl)) pgs_nil))))
    (pss_one (ps_ret (pe_call G_shortest.ok hr (by rfl) G_shortest.m G_shortest.kp G_shortest.b .nil pass0 (pa_cons (pe_call Gelement_difference.ok hr (by rfl) Gelement_difference.m Gelement_difference.kp Gelement_difference.b .nil pass0 (pa_cons (pv 1) (pa_cons (pv 2) pa_nil))) pa_nil))))), ?_⟩
  refine ⟨_, rfl, _, rfl, a, b, x, y, rfl, ha, hb, fun H1 q a1 b1 s1 hq h1 h2 => ?_⟩
  refine ⟨q, _, rfl, SqT.of hq, rfl, _, _, rfl, _, _, rfl, rfl, ?_⟩
  refine ⟨_, rfl, _, rfl, a1, b1, x, y, rfl, h1, h2, sx, sy, fun H2 t s2 e2 => ⟨t, _, rfl, e2, fun H3 r s3 e3 => fin _ r (s1.trans (s2.trans s3)) e3⟩⟩
theorem ok_Fproduct {f C : Addr} {fd : FuncData} {k : Nat} (F : Fun K "product" "Field.product" sFproduct f fd) (TF : FldT K C) (G_alike : Cal P w K mg base k "_alike" ["one", "other"] sp_alike) (Gelement_product : Cal P w K mg base k "element_product" ["tower", "one", "other"] sp_eprod) (G_shortest : Cal P w K mg base k "_shortest" ["element"] sp_id) : FnOk P w K mg base CX0 (k + 1) f fd ["self", "one", "other"] (sp_F C (· * ·)) := by
  refine F.ok scFproduct (fun vs H Q E h => ?_) (fun cdv A outer s H vs Q E hr h => ?_)
  · obtain ⟨p, a, b, x, y, rfl, _⟩ := h
    rfl
  obtain ⟨p, a, b, x, y, rfl, hp, ha, hb, sx, sy, fin⟩ := h
  refine ⟨_, (pss_cons (ps_asg (pe_call G_alike.ok hr (by rfl) G_alike.m G_alike.kp G_alike.b .nil pass0 (pa_cons (pv 1) (pa_cons (pv 2) pa_nil))) (pg_tup rfl (pgs_cons (pg_name (i := 1) scFproduct.nd rfl (.inl rfl)) (pgs_cons (pg_name (i := 2) scFproduct.nd rfl (.inl rfl)) pgs_nil))))
    (pss_one (ps_ret (pe_call G_shortest.ok hr (by rfl) G_shortest.m G_shortest.kp G_shortest.b .nil pass0 (pa_cons (pe_call Gelement_product.ok hr (by rfl) Gelement_product.m Gelement_product.kp Gelement_product.b .nil pass0 (pa_cons (pe_fld (pv 0) rfl) (pa_cons (pv 1) (pa_cons (pv 2) pa_nil)))) pa_nil))))), ?_⟩
  refine ⟨_, rfl, _, rfl, a, b, x, y, rfl, ha, hb, fun H1 q a1 b1 s1 hq h1 h2 => ?_⟩
  refine ⟨q, _, rfl, SqT.of hq, rfl, _, _, rfl, _, _, rfl, rfl, ?_⟩
  obtain ⟨dx, tw, d, e1, e2⟩ := hp.same s1
  refine ⟨_, rfl, p, C, dx, _, _, rfl, e1, TF.cl, TF.nt, rfl, _, rfl, _, rfl, _, a1, b1, x, y, rfl, h1, h2, sx, sy, fun H2 t s2 e2 => ⟨t, _, rfl, e2, fun H3 r s3 e3 => fin _ r (s1.trans (s2.trans s3)) e3⟩⟩
end
end KO

namespace KG
open PySem PySem.Spec PyProof.Rows L2
def PtAt (H : Hp) (a : Addr) (x y : Int) : Prop := ∃ ex ey, H a = some (.tup [.ref ex, .ref ey]) ∧ El H ex x ∧ El H ey y
theorem PtAt.same {H H' : Hp} {a : Addr} {x y : Int} (h : PtAt H a x y) (s : Same H H') : PtAt H' a x y := by
  obtain ⟨ex, ey, h1, h2, h3⟩ := h
  exact ⟨ex, ey, s _ _ h1, h2.same s, h3.same s⟩
def ShAt (H : Hp) (q : Addr) (w : Str) (a b c : Int) : Prop := ∃ ea eb ec, H q = some (.tup [.str w, .ref ea, .ref eb, .ref ec]) ∧ El H ea a ∧ El H eb b ∧ El H ec c
theorem ShAt.same {H H' : Hp} {q : Addr} {w : Str} {a b c : Int} (h : ShAt H q w a b c) (s : Same H H') : ShAt H' q w a b c := by
  obtain ⟨ea, eb, ec, h1, h2, h3, h4⟩ := h
  exact ⟨ea, eb, ec, s _ _ h1, h2.same s, h3.same s, h4.same s⟩
def S48 (n : Int) : Prop := n.natAbs < 2 ^ 48
theorem S48.sm {n : Int} (h : S48 n) : Sm n := Nat.lt_trans h (by decide +kernel)
theorem s96 {a b : Int} (h : S48 a) (k : S48 b) : (a * b).natAbs < 2 ^ 96 := by
  rw [Int.natAbs_mul]
  exact Nat.lt_of_lt_of_le (Nat.mul_lt_mul'' h k) (by decide +kernel)
theorem sm_of {n : Int} (h : n.natAbs < 2 ^ 98) : Sm n := Nat.lt_trans h (by decide +kernel)
theorem S48.mul {a b : Int} (h : S48 a) (k : S48 b) : Sm (a * b) := Nat.lt_trans (s96 h k) (by decide +kernel)
def elD (n : Int) : PyData := .tuple [.tuple [.int n], .int 1]
theorem dp_el {K : PySem.W.Frag} {H : Hp} {t : Addr} {n : Int} (h : El H t n) : Dp K H (.ref t) (elD n) := by
  obtain ⟨v, a, b⟩ := h
  exact .tup (SqT.of a) (.cons (.tup (SqT.of b) (.cons (.int _) .nil)) (.cons (.int _) .nil))
theorem el_shaped (n : Int) : SeqAt.shaped (elD n) = true := by
  show ((true && true) && _) = true
  rfl
theorem el_eqv (m n : Int) : PyData.eqv (elD m) (elD n) = decide (m = n) := by
  show (((m == n) && true) && (((1 : Int) == 1) && true)) = _
  by_cases h : m = n
  · rw [decide_eq_true h, h]; simp
  · rw [decide_eq_false h, beq_false_of_ne h]; rfl
/-- the program's ZERO -/
structure ZeroT (K : PySem.W.Frag) (mg : Str → Option Value) (aZ : Addr) : Prop where
  g : mg "ZERO" = some (.ref aZ)
  d : ∀ H : Hp, Dp K H (.ref aZ) (elD 0)
end KG
namespace KO
open PySem PySem.Spec PyProof.Rows L2 KG
section
variable {P : Program} {w : World} {K : PySem.W.Frag} {mg : Str → Option Value} {base : Heap} {C aZ : Addr}
def sp_cross (C : Addr) : Sp := fun vs H Q _ => ∃ (p a b : Addr) (x y u v : Int), vs = [.ref p, .ref a, .ref b] ∧ FldAt C H p ∧ PtAt H a x y ∧ PtAt H b u v ∧ S48 x ∧ S48 y ∧ S48 u ∧ S48 v ∧ ∀ H' q, Same H H' → El H' q (x * v - y * u) → Q (.ref q) H'
abbrev s_cross : Stmt := topS 81
abbrev N_cross : List Str := ["field", "one", "other"]
theorem sc_cross : FnScope N_cross ["field", "one", "other"] (defScope s_cross) := ⟨rfl, rfl, rfl, by decide +kernel, rfl, by decide +kernel, by decide +kernel⟩
theorem ok__cross {f : Addr} {fd : FuncData} {k : Nat} (F : Fun K "_cross" "_cross" s_cross f fd) (M : Names mg) (TF : FldT K C) (Qminus : MCal P w K mg base k C "minus" ["self", "one", "other"] (sp_F C (· - ·))) (Qproduct : MCal P w K mg base k C "product" ["self", "one", "other"] (sp_F C (· * ·))) : FnOk P w K mg base CX0 (k + 1) f fd ["field", "one", "other"] (sp_cross C) := by
  refine F.ok sc_cross (fun vs H Q E h => ?_) (fun cdv A outer s H vs Q E hr h => ?_)
  · obtain ⟨p, a, b, x, y, u, v, rfl, _⟩ := h
    rfl
  obtain ⟨p, a, b, x, y, u, v, rfl, hF, ⟨ex, ey, ha, hx, hy⟩, ⟨eu, ev, hb, hu, hv⟩, bx, by_, bu, bv, fin⟩ := h
  obtain ⟨dx, tw, d, hp, htw⟩ := id hF
  refine ⟨_, (pss_one (ps_ret (pe_meth (pv 0) TF.cl Qminus.m Qminus.ok hr Qminus.b .nil pass0 (pa_cons (pe_meth (pv 0) TF.cl Qproduct.m Qproduct.ok hr Qproduct.b .nil pass0 (pa_cons (pe_ix ix_tup (pv 1) pe_int (fun _ _ => rfl)) (pa_cons (pe_ix ix_tup (pv 2) pe_int (fun _ _ => rfl)) pa_nil))) (pa_cons (pe_meth (pv 0) TF.cl Qproduct.m Qproduct.ok hr Qproduct.b .nil pass0 (pa_cons (pe_ix ix_tup (pv 1) pe_int (fun _ _ => rfl)) (pa_cons (pe_ix ix_tup (pv 2) pe_int (fun _ _ => rfl)) pa_nil))) pa_nil))))), ?_⟩
  refine ⟨_, rfl, p, dx, _, rfl, hp, rfl, ?_⟩
  refine ⟨_, rfl, p, dx, _, rfl, hp, rfl, _, rfl, a, _, _, _, rfl, rfl, SqT.of ha, atI_nat (j := 0) rfl, _, rfl, b, _, _, _, rfl, rfl, SqT.of hb, atI_nat (j := 1) rfl, p, ex, ev, x, v, rfl, hF, hx, hv, bx.sm, bv.sm, fun H1 q1 s1 e1 => ?_⟩
  refine ⟨_, rfl, p, dx, _, rfl, s1 _ _ hp, rfl, _, rfl, a, _, _, _, rfl, rfl, SqT.of (s1 _ _ ha), atI_nat (j := 1) rfl, _, rfl, b, _, _, _, rfl, rfl, SqT.of (s1 _ _ hb), atI_nat (j := 0) rfl, p, ey, eu, y, u, rfl, hF.same s1, hy.same s1, hu.same s1, by_.sm, bu.sm, fun H2 q2 s2 e2 => ?_⟩
  exact ⟨p, q1, q2, _, _, rfl, (hF.same s1).same s2, e1.same s2, e2, bx.mul bv, by_.mul bu, fun H3 q s3 e3 => fin _ q (s1.trans (s2.trans s3)) e3⟩
def sp_square (C : Addr) : Sp := fun vs H Q _ => ∃ (p a : Addr) (x y : Int), vs = [.ref p, .ref a] ∧ FldAt C H p ∧ PtAt H a x y ∧ S48 x ∧ S48 y ∧ ∀ H' q, Same H H' → El H' q (x * x + y * y) → Q (.ref q) H'
abbrev s_square : Stmt := topS 83
abbrev N_square : List Str := ["field", "pair"]
theorem sc_square : FnScope N_square ["field", "pair"] (defScope s_square) := ⟨rfl, rfl, rfl, by decide +kernel, rfl, by decide +kernel, by decide +kernel⟩
theorem ok__square {f : Addr} {fd : FuncData} {k : Nat} (F : Fun K "_square" "_square" s_square f fd) (M : Names mg) (TF : FldT K C) (Qplus : MCal P w K mg base k C "plus" ["self", "one", "other"] (sp_F C (· + ·))) (Qproduct : MCal P w K mg base k C "product" ["self", "one", "other"] (sp_F C (· * ·))) : FnOk P w K mg base CX0 (k + 1) f fd ["field", "pair"] (sp_square C) := by
  refine F.ok sc_square (fun vs H Q E h => ?_) (fun cdv A outer s H vs Q E hr h => ?_)
  · obtain ⟨p, a, x, y, rfl, _⟩ := h
    rfl
  obtain ⟨p, a, x, y, rfl, hF, ⟨ex, ey, ha, hx, hy⟩, bx, by_, fin⟩ := h
  obtain ⟨dx, tw, d, hp, htw⟩ := id hF
  refine ⟨_, (pss_one (ps_ret (pe_meth (pv 0) TF.cl Qplus.m Qplus.ok hr Qplus.b .nil pass0 (pa_cons (pe_meth (pv 0) TF.cl Qproduct.m Qproduct.ok hr Qproduct.b .nil pass0 (pa_cons (pe_ix ix_tup (pv 1) pe_int (fun _ _ => rfl)) (pa_cons (pe_ix ix_tup (pv 1) pe_int (fun _ _ => rfl)) pa_nil))) (pa_cons (pe_meth (pv 0) TF.cl Qproduct.m Qproduct.ok hr Qproduct.b .nil pass0 (pa_cons (pe_ix ix_tup (pv 1) pe_int (fun _ _ => rfl)) (pa_cons (pe_ix ix_tup (pv 1) pe_int (fun _ _ => rfl)) pa_nil))) pa_nil))))), ?_⟩
  refine ⟨_, rfl, p, dx, _, rfl, hp, rfl, ?_⟩
  refine ⟨_, rfl, p, dx, _, rfl, hp, rfl, _, rfl, a, _, _, _, rfl, rfl, SqT.of ha, atI_nat (j := 0) rfl, _, rfl, a, _, _, _, rfl, rfl, SqT.of ha, atI_nat (j := 0) rfl, p, ex, ex, x, x, rfl, hF, hx, hx, bx.sm, bx.sm, fun H1 q1 s1 e1 => ?_⟩
  refine ⟨_, rfl, p, dx, _, rfl, s1 _ _ hp, rfl, _, rfl, a, _, _, _, rfl, rfl, SqT.of (s1 _ _ ha), atI_nat (j := 1) rfl, _, rfl, a, _, _, _, rfl, rfl, SqT.of (s1 _ _ ha), atI_nat (j := 1) rfl, p, ey, ey, y, y, rfl, hF.same s1, hy.same s1, hy.same s1, by_.sm, by_.sm, fun H2 q2 s2 e2 => ?_⟩
  exact ⟨p, q1, q2, _, _, rfl, (hF.same s1).same s2, e1.same s2, e2, bx.mul bx, by_.mul by_, fun H3 q s3 e3 => fin _ q (s1.trans (s2.trans s3)) e3⟩
def sp_line_shape (C : Addr) : Sp := fun vs H Q _ => ∃ (p a b : Addr) (x y u v : Int), vs = [.ref p, .ref a, .ref b] ∧ FldAt C H p ∧ PtAt H a x y ∧ PtAt H b u v ∧ S48 x ∧ S48 y ∧ S48 u ∧ S48 v ∧ ∀ H' q, Same H H' → ShAt H' q "line" (y - v) (u - x) (x * v - y * u) → Q (.ref q) H'
abbrev sline_shape : Stmt := topS 80
abbrev Nline_shape : List Str := ["field", "one", "other", "a", "b"]
theorem scline_shape : FnScope Nline_shape ["field", "one", "other"] (defScope sline_shape) := ⟨rfl, rfl, rfl, by decide +kernel, rfl, by decide +kernel, by decide +kernel⟩
theorem ok_line_shape {f : Addr} {fd : FuncData} {k : Nat} (F : Fun K "line_shape" "line_shape" sline_shape f fd) (M : Names mg) (TF : FldT K C) (Qminus : MCal P w K mg base k C "minus" ["self", "one", "other"] (sp_F C (· - ·))) (G_cross : Cal P w K mg base k "_cross" ["field", "one", "other"] (sp_cross C)) : FnOk P w K mg base CX0 (k + 1) f fd ["field", "one", "other"] (sp_line_shape C) := by
  refine F.ok scline_shape (fun vs H Q E h => ?_) (fun cdv A outer s H vs Q E hr h => ?_)
  · obtain ⟨p, a, b, x, y, u, v, rfl, _⟩ := h
    rfl
  obtain ⟨p, a, b, x, y, u, v, rfl, hF, hA, hB, bx, by_, bu, bv, fin⟩ := h
  obtain ⟨ex, ey, ha, hx, hy⟩ := id hA
  obtain ⟨eu, ev, hb, hu, hv⟩ := id hB
  obtain ⟨dx, tw, d, hp, htw⟩ := id hF
  refine ⟨_, (pss_cons (ps_set (i := 3) scline_shape.nd rfl (.inl rfl) (pe_meth (pv 0) TF.cl Qminus.m Qminus.ok hr Qminus.b .nil pass0 (pa_cons (pe_ix ix_tup (pv 1) pe_int (fun _ _ => rfl)) (pa_cons (pe_ix ix_tup (pv 2) pe_int (fun _ _ => rfl)) pa_nil))))
    (pss_cons (ps_set (i := 4) scline_shape.nd rfl (.inl rfl) (pe_meth (pv 0) TF.cl Qminus.m Qminus.ok hr Qminus.b .nil pass0 (pa_cons (pe_ix ix_tup (pv 2) pe_int (fun _ _ => rfl)) (pa_cons (pe_ix ix_tup (pv 1) pe_int (fun _ _ => rfl)) pa_nil))))
    (pss_one (ps_ret (pe_tup (pa_cons pe_str (pa_cons (pv 3) (pa_cons (pv 4) (pa_cons (pe_call G_cross.ok hr (by rfl) G_cross.m G_cross.kp G_cross.b .nil pass0 (pa_cons (pv 0) (pa_cons (pv 1) (pa_cons (pv 2) pa_nil)))) pa_nil))))))))), ?_⟩
  refine ⟨_, rfl, p, dx, _, rfl, hp, rfl, _, rfl, a, _, _, _, rfl, rfl, SqT.of ha, atI_nat (j := 1) rfl, _, rfl, b, _, _, _, rfl, rfl, SqT.of hb, atI_nat (j := 1) rfl, p, ey, ev, y, v, rfl, hF, hy, hv, by_.sm, bv.sm, fun H1 q1 s1 e1 => ?_⟩
  refine ⟨_, rfl, p, dx, _, rfl, s1 _ _ hp, rfl, _, rfl, b, _, _, _, rfl, rfl, SqT.of (s1 _ _ hb), atI_nat (j := 0) rfl, _, rfl, a, _, _, _, rfl, rfl, SqT.of (s1 _ _ ha), atI_nat (j := 0) rfl, p, eu, ex, u, x, rfl, hF.same s1, hu.same s1, hx.same s1, bu.sm, bx.sm, fun H2 q2 s2 e2 => ?_⟩
  have S := s1.trans s2
  refine ⟨_, rfl, _, rfl, _, rfl, _, rfl, _, rfl, p, a, b, x, y, u, v, rfl, hF.same S, hA.same S, hB.same S, bx, by_, bu, bv, fun H3 q3 s3 e3 => ⟨(by show 4 ≤ sizeLine; decide), fun q nq => ?_⟩⟩
  have S4 := same_new nq (.tup [V.str "line", .ref q1, .ref q2, .ref q3])
  exact fin _ q (S.trans (s3.trans S4)) ⟨q1, q2, q3, upd_same, (e1.same s2).same (s3.trans S4), e2.same (s3.trans S4), e3.same S4⟩
def sp_circle_shape (C : Addr) : Sp := fun vs H Q _ => ∃ (p o a b : Addr) (m n x y u v : Int), vs = [.ref p, .ref o, .ref a, .ref b] ∧ FldAt C H p ∧ PtAt H o m n ∧ PtAt H a x y ∧ PtAt H b u v ∧ S48 x ∧ S48 y ∧ S48 u ∧ S48 v ∧ S48 (x - u) ∧ S48 (y - v) ∧ ∀ H' q, Same H H' → ShAt H' q "circle" m n ((x - u) * (x - u) + (y - v) * (y - v)) → Q (.ref q) H'
abbrev scircle_shape : Stmt := topS 82
abbrev Ncircle_shape : List Str := ["field", "centre", "one", "other", "away"]
theorem sccircle_shape : FnScope Ncircle_shape ["field", "centre", "one", "other"] (defScope scircle_shape) := ⟨rfl, rfl, rfl, by decide +kernel, rfl, by decide +kernel, by decide +kernel⟩
theorem ok_circle_shape {f : Addr} {fd : FuncData} {k : Nat} (F : Fun K "circle_shape" "circle_shape" scircle_shape f fd) (M : Names mg) (TF : FldT K C) (Qminus : MCal P w K mg base k C "minus" ["self", "one", "other"] (sp_F C (· - ·))) (G_square : Cal P w K mg base k "_square" ["field", "pair"] (sp_square C)) : FnOk P w K mg base CX0 (k + 1) f fd ["field", "centre", "one", "other"] (sp_circle_shape C) := by
  refine F.ok sccircle_shape (fun vs H Q E h => ?_) (fun cdv A outer s H vs Q E hr h => ?_)
  · obtain ⟨p, o, a, b, m, n, x, y, u, v, rfl, _⟩ := h
    rfl
  obtain ⟨p, o, a, b, m, n, x, y, u, v, rfl, hF, ⟨em, en, ho, hm, hn⟩, ⟨ex, ey, ha, hx, hy⟩, ⟨eu, ev, hb, hu, hv⟩, bx, by_, bu, bv, b1, b2, fin⟩ := h
  obtain ⟨dx, tw, d, hp, htw⟩ := id hF
  refine ⟨_, (pss_cons (ps_set (i := 4) sccircle_shape.nd rfl (.inl rfl) (pe_tup (pa_cons (pe_meth (pv 0) TF.cl Qminus.m Qminus.ok hr Qminus.b .nil pass0 (pa_cons (pe_ix ix_tup (pv 2) pe_int (fun _ _ => rfl)) (pa_cons (pe_ix ix_tup (pv 3) pe_int (fun _ _ => rfl)) pa_nil))) (pa_cons (pe_meth (pv 0) TF.cl Qminus.m Qminus.ok hr Qminus.b .nil pass0 (pa_cons (pe_ix ix_tup (pv 2) pe_int (fun _ _ => rfl)) (pa_cons (pe_ix ix_tup (pv 3) pe_int (fun _ _ => rfl)) pa_nil))) pa_nil))))
    (pss_one (ps_ret (pe_tup (pa_cons pe_str (pa_cons (pe_ix ix_tup (pv 1) pe_int (fun _ _ => rfl)) (pa_cons (pe_ix ix_tup (pv 1) pe_int (fun _ _ => rfl)) (pa_cons (pe_call G_square.ok hr (by rfl) G_square.m G_square.kp G_square.b .nil pass0 (pa_cons (pv 0) (pa_cons (pv 4) pa_nil))) pa_nil)))))))), ?_⟩
  refine ⟨_, rfl, p, dx, _, rfl, hp, rfl, _, rfl, a, _, _, _, rfl, rfl, SqT.of ha, atI_nat (j := 0) rfl, _, rfl, b, _, _, _, rfl, rfl, SqT.of hb, atI_nat (j := 0) rfl, p, ex, eu, x, u, rfl, hF, hx, hu, bx.sm, bu.sm, fun H1 q1 s1 e1 => ?_⟩
  refine ⟨_, rfl, p, dx, _, rfl, s1 _ _ hp, rfl, _, rfl, a, _, _, _, rfl, rfl, SqT.of (s1 _ _ ha), atI_nat (j := 1) rfl, _, rfl, b, _, _, _, rfl, rfl, SqT.of (s1 _ _ hb), atI_nat (j := 1) rfl, p, ey, ev, y, v, rfl, hF.same s1, hy.same s1, hv.same s1, by_.sm, bv.sm, fun H2 q2 s2 e2 => ⟨(by show 2 ≤ sizeLine; decide), fun t nt => ?_⟩⟩
  have St := same_new nt (.tup [V.ref q1, .ref q2])
  have S := s1.trans (s2.trans St)
  have ht : PtAt (upd H2 t (.tup [V.ref q1, .ref q2])) t (x - u) (y - v) := ⟨q1, q2, upd_same, (e1.same s2).same St, e2.same St⟩
  generalize upd H2 t (.tup [V.ref q1, .ref q2]) = H2' at S ht
  refine ⟨_, rfl, o, _, _, _, rfl, rfl, SqT.of (S _ _ ho), atI_nat (j := 0) rfl, _, rfl, o, _, _, _, rfl, rfl, SqT.of (S _ _ ho), atI_nat (j := 1) rfl, _, rfl, _, rfl, p, t, x - u, y - v, rfl, hF.same S, ht, b1, b2, fun H3 q3 s3 e3 => ⟨(by show 4 ≤ sizeLine; decide), fun q nq => ?_⟩⟩
  have S4 := same_new nq (.tup [V.str "circle", .ref em, .ref en, .ref q3])
  exact fin _ q (S.trans (s3.trans S4)) ⟨em, en, q3, upd_same, hm.same (S.trans (s3.trans S4)), hn.same (S.trans (s3.trans S4)), e3.same S4⟩
def sp_side (C : Addr) : Sp := fun vs H Q _ => ∃ (p t l : Addr) (x y a b c : Int) (w : Str), vs = [.ref p, .ref t, .ref l] ∧ FldAt C H p ∧ PtAt H t x y ∧ ShAt H l w a b c ∧ S48 x ∧ S48 y ∧ S48 a ∧ S48 b ∧ Sm c ∧ ∀ H' q, Same H H' → El H' q (a * x + b * y + c) → Q (.ref q) H'
abbrev s_side_of_line : Stmt := topS 85
abbrev N_side_of_line : List Str := ["field", "point", "line", "_", "a", "b", "c"]
theorem sc_side_of_line : FnScope N_side_of_line ["field", "point", "line"] (defScope s_side_of_line) := ⟨rfl, rfl, rfl, by decide +kernel, rfl, by decide +kernel, by decide +kernel⟩
theorem ok__side_of_line {f : Addr} {fd : FuncData} {k : Nat} (F : Fun K "_side_of_line" "_side_of_line" s_side_of_line f fd) (M : Names mg) (TF : FldT K C) (Qplus : MCal P w K mg base k C "plus" ["self", "one", "other"] (sp_F C (· + ·))) (Qproduct : MCal P w K mg base k C "product" ["self", "one", "other"] (sp_F C (· * ·))) : FnOk P w K mg base CX0 (k + 1) f fd ["field", "point", "line"] (sp_side C) := by
  refine F.ok sc_side_of_line (fun vs H Q E h => ?_) (fun cdv A outer s H vs Q E hr h => ?_)
  · obtain ⟨p, t, l, x, y, a, b, c, w, rfl, _⟩ := h
    rfl
  obtain ⟨p, t, l, x, y, a, b, c, w, rfl, hF, ⟨ex, ey, ht, hx, hy⟩, ⟨ea, eb, ec, hl, ha, hb, hc⟩, bx, by_, ba, bb, bc, fin⟩ := h
  obtain ⟨dx, tw, d, hp, htw⟩ := id hF
  refine ⟨_, (pss_cons (ps_asg (pv 2) (pg_tup rfl (pgs_cons (pg_name (i := 3) sc_side_of_line.nd rfl (.inl rfl)) (pgs_cons (pg_name (i := 4) sc_side_of_line.nd rfl (.inl rfl)) (pgs_cons (pg_name (i := 5) sc_side_of_line.nd rfl (.inl rfl)) (pgs_cons (pg_name (i := 6) sc_side_of_line.nd rfl (.inl rfl)) pgs_nil))))))
    (pss_one (ps_ret (pe_meth (pv 0) TF.cl Qplus.m Qplus.ok hr Qplus.b .nil pass0 (pa_cons (pe_meth (pv 0) TF.cl Qplus.m Qplus.ok hr Qplus.b .nil pass0 (pa_cons (pe_meth (pv 0) TF.cl Qproduct.m Qproduct.ok hr Qproduct.b .nil pass0 (pa_cons (pv 4) (pa_cons (pe_ix ix_tup (pv 1) pe_int (fun _ _ => rfl)) pa_nil))) (pa_cons (pe_meth (pv 0) TF.cl Qproduct.m Qproduct.ok hr Qproduct.b .nil pass0 (pa_cons (pv 5) (pa_cons (pe_ix ix_tup (pv 1) pe_int (fun _ _ => rfl)) pa_nil))) pa_nil))) (pa_cons (pv 6) pa_nil)))))), ?_⟩
  refine ⟨_, rfl, l, _, rfl, SqT.of hl, rfl, _, _, rfl, _, _, rfl, _, _, rfl, _, _, rfl, rfl, ?_⟩
  refine ⟨_, rfl, p, dx, _, rfl, hp, rfl, _, rfl, p, dx, _, rfl, hp, rfl, ?_⟩
  refine ⟨_, rfl, p, dx, _, rfl, hp, rfl, _, rfl, _, rfl, t, _, _, _, rfl, rfl, SqT.of ht, atI_nat (j := 0) rfl, p, ea, ex, a, x, rfl, hF, ha, hx, ba.sm, bx.sm, fun H1 q1 s1 e1 => ?_⟩
  refine ⟨_, rfl, p, dx, _, rfl, s1 _ _ hp, rfl, _, rfl, _, rfl, t, _, _, _, rfl, rfl, SqT.of (s1 _ _ ht), atI_nat (j := 1) rfl, p, eb, ey, b, y, rfl, hF.same s1, hb.same s1, hy.same s1, bb.sm, by_.sm, fun H2 q2 s2 e2 => ?_⟩
  have S := s1.trans s2
  refine ⟨p, q1, q2, _, _, rfl, hF.same S, e1.same s2, e2, ba.mul bx, bb.mul by_, fun H3 q3 s3 e3 => ?_⟩
  have bsum : Sm (a * x + b * y) := by
    have h1 := s96 ba bx
    have h2 := s96 bb by_
    refine sm_of ?_
    omega
  exact ⟨_, rfl, p, q3, ec, _, c, rfl, hF.same (S.trans s3), e3, hc.same (S.trans s3), bsum, bc, fun H4 q s4 e4 => fin _ q (S.trans (s3.trans s4)) e4⟩
def onP (w : Str) (a b c x y : Int) : Prop := (w = "line" → a * x + b * y + c = 0) ∧ (w = "circle" → (x - a) * (x - a) + (y - b) * (y - b) = c)
def sp_on (C : Addr) : Sp := fun vs H Q _ => ∃ (p t l : Addr) (x y a b c : Int) (w : Str), vs = [.ref p, .ref t, .ref l] ∧ FldAt C H p ∧ PtAt H t x y ∧ ShAt H l w a b c ∧ (w = "line" ∨ w = "circle") ∧ S48 x ∧ S48 y ∧ S48 a ∧ S48 b ∧ Sm c ∧ S48 (x - a) ∧ S48 (y - b) ∧ ∀ H' (r : Bool), Same H H' → (r = true ↔ onP w a b c x y) → Q (.bl r) H'
abbrev son_shape : Stmt := topS 84
abbrev Non_shape : List Str := ["field", "point", "shape", "_", "u", "v", "s"]
theorem scon_shape : FnScope Non_shape ["field", "point", "shape"] (defScope son_shape) := ⟨rfl, rfl, rfl, by decide +kernel, rfl, by decide +kernel, by decide +kernel⟩
theorem ok_on_shape {f : Addr} {fd : FuncData} {k : Nat} (F : Fun K "on_shape" "on_shape" son_shape f fd) (M : Names mg) (TF : FldT K C) (Z : ZeroT K mg aZ) (Qminus : MCal P w K mg base k C "minus" ["self", "one", "other"] (sp_F C (· - ·))) (G_side_of_line : Cal P w K mg base k "_side_of_line" ["field", "point", "line"] (sp_side C)) (G_square : Cal P w K mg base k "_square" ["field", "pair"] (sp_square C)) : FnOk P w K mg base CX0 (k + 1) f fd ["field", "point", "shape"] (sp_on C) := by
  refine F.ok scon_shape (fun vs H Q E h => ?_) (fun cdv A outer s H vs Q E hr h => ?_)
  · obtain ⟨p, t, l, x, y, a, b, c, w, rfl, _⟩ := h
    rfl
  obtain ⟨p, t, l, x, y, a, b, c, w, rfl, hF, hT, hL, hw, bx, by_, ba, bb, bc, b1, b2, fin⟩ := h
  obtain ⟨ex, ey, ht, hx, hy⟩ := id hT
  obtain ⟨ea, eb, ec, hl, ha, hb, hc⟩ := id hL
  obtain ⟨dx, tw, d, hp, htw⟩ := id hF
  refine ⟨_, (pss_cons (ps_if (pt_cmpR op_eq (pe_ix ix_tup (pv 2) pe_int (fun _ _ => rfl)) pe_str (nomark _))
      (pss_one (ps_ret (pe_cmpR (op_eqD hr.units) (pe_call G_side_of_line.ok hr (by rfl) G_side_of_line.m G_side_of_line.kp G_side_of_line.b .nil pass0 (pa_cons (pv 0) (pa_cons (pv 1) (pa_cons (pv 2) pa_nil)))) (pe_glob (v := .ref aZ) (by rfl) Z.g rfl) (nomark _))))
      pss_nil)
    (pss_cons (ps_asg (pv 2) (pg_tup rfl (pgs_cons (pg_name (i := 3) scon_shape.nd rfl (.inl rfl)) (pgs_cons (pg_name (i := 4) scon_shape.nd rfl (.inl rfl)) (pgs_cons (pg_name (i := 5) scon_shape.nd rfl (.inl rfl)) (pgs_cons (pg_name (i := 6) scon_shape.nd rfl (.inl rfl)) pgs_nil))))))
    (pss_one (ps_ret (pe_cmpR (op_eqD hr.units) (pe_call G_square.ok hr (by rfl) G_square.m G_square.kp G_square.b .nil pass0 (pa_cons (pv 0) (pa_cons (pe_tup (pa_cons (pe_meth (pv 0) TF.cl Qminus.m Qminus.ok hr Qminus.b .nil pass0 (pa_cons (pe_ix ix_tup (pv 1) pe_int (fun _ _ => rfl)) (pa_cons (pv 4) pa_nil))) (pa_cons (pe_meth (pv 0) TF.cl Qminus.m Qminus.ok hr Qminus.b .nil pass0 (pa_cons (pe_ix ix_tup (pv 1) pe_int (fun _ _ => rfl)) (pa_cons (pv 5) pa_nil))) pa_nil))) pa_nil))) (pv 6) (nomark _)))))), ?_⟩
  refine ⟨_, rfl, l, _, _, _, rfl, rfl, SqT.of hl, atI_nat (j := 0) rfl, rfl, _, rfl, ?_⟩
  rcases hw with rfl | rfl
  · refine iteT' (decide_eq_true rfl) ?_
    refine ⟨_, rfl, _, rfl, _, rfl, p, t, l, x, y, a, b, c, _, rfl, hF, hT, hL, bx, by_, ba, bb, bc, fun H1 q1 s1 e1 => ?_⟩
    refine ⟨elD _, elD 0, dp_el e1, Z.d _, el_shaped _, el_shaped _, fin _ _ s1 ?_⟩
    rw [el_eqv, decide_eq_true_iff]
    exact ⟨fun h => ⟨fun _ => h, fun z => absurd z (by decide +kernel)⟩, fun h => h.1 rfl⟩
  · refine iteF' (by decide +kernel) ?_
    refine ⟨_, rfl, l, _, rfl, SqT.of hl, rfl, _, _, rfl, _, _, rfl, _, _, rfl, _, _, rfl, rfl, ?_⟩
    refine ⟨_, rfl, _, rfl, p, dx, _, rfl, hp, rfl, _, rfl, t, _, _, _, rfl, rfl, SqT.of ht, atI_nat (j := 0) rfl, _, rfl, p, ex, ea, x, a, rfl, hF, hx, ha, bx.sm, ba.sm, fun H1 q1 s1 e1 => ?_⟩
    refine ⟨_, rfl, p, dx, _, rfl, s1 _ _ hp, rfl, _, rfl, t, _, _, _, rfl, rfl, SqT.of (s1 _ _ ht), atI_nat (j := 1) rfl, _, rfl, p, ey, eb, y, b, rfl, hF.same s1, hy.same s1, hb.same s1, by_.sm, bb.sm, fun H2 q2 s2 e2 => ⟨(by show 2 ≤ sizeLine; decide), fun t2 nt => ?_⟩⟩
    have St := same_new nt (.tup [V.ref q1, .ref q2])
    have S := s1.trans (s2.trans St)
    have ht2 : PtAt (upd H2 t2 (.tup [V.ref q1, .ref q2])) t2 (x - a) (y - b) := ⟨q1, q2, upd_same, (e1.same s2).same St, e2.same St⟩
    refine ⟨p, t2, _, _, rfl, hF.same S, ht2, b1, b2, fun H3 q3 s3 e3 => ?_⟩
    refine ⟨_, rfl, elD _, elD c, dp_el e3, dp_el (hc.same (S.trans s3)), el_shaped _, el_shaped _, fin _ _ (S.trans s3) ?_⟩
    rw [el_eqv, decide_eq_true_iff]
    exact ⟨fun h => ⟨fun z => absurd z (by decide +kernel), fun _ => h⟩, fun h => h.2 rfl⟩
def sameP (w v : Str) (a b c d e f : Int) : Prop := w = v ∧ (w = "circle" → a = d ∧ b = e ∧ c = f) ∧ (w = "line" → a * e - b * d = 0 ∧ a * f - c * d = 0 ∧ b * f - c * e = 0)
def sp_same (C : Addr) : Sp := fun vs H Q _ => ∃ (p l m : Addr) (w v : Str) (a b c d e f : Int), vs = [.ref p, .ref l, .ref m] ∧ FldAt C H p ∧ ShAt H l w a b c ∧ ShAt H m v d e f ∧ (w = "line" ∨ w = "circle") ∧ S48 a ∧ S48 b ∧ S48 c ∧ S48 d ∧ S48 e ∧ S48 f ∧ ∀ H' (r : Bool), Same H H' → (r = true ↔ sameP w v a b c d e f) → Q (.bl r) H'
theorem dp_sh {H : Hp} {l ea eb ec : Addr} {w : Str} {a b c : Int} (hl : H l = some (.tup [.str w, .ref ea, .ref eb, .ref ec])) (ha : El H ea a) (hb : El H eb b) (hc : El H ec c) : Dp K H (.ref l) (.tuple [.str w, elD a, elD b, elD c]) := .tup (SqT.of hl) (.cons (.str _) (.cons (dp_el ha) (.cons (dp_el hb) (.cons (dp_el hc) .nil))))
theorem sh_shaped (a b c : Int) : SeqAt.shaped (.tuple [.str "circle", elD a, elD b, elD c]) = true := by
  have h : ∀ n, (elD n).canLay0 = true := fun n => SeqAt.canLay_of_shaped (el_shaped n)
  show (((PyData.str "circle").canLay0 && ((elD a).canLay0 && ((elD b).canLay0 && ((elD c).canLay0 && true)))) && decide (max 0 (max (elD a).depth (max (elD b).depth (max (elD c).depth 0))) + 1 ≤ 64)) = true
  have hd : ∀ n, (elD n).depth = 2 := fun n => rfl
  rw [h, h, h, hd, hd, hd]
  decide +kernel
theorem sh_eqv (w v : Str) (a b c d e f : Int) : (PyData.eqv (.tuple [.str w, elD a, elD b, elD c]) (.tuple [.str v, elD d, elD e, elD f]) = true) ↔ (w = v ∧ a = d ∧ b = e ∧ c = f) := by
  show ((w == v) && (PyData.eqv (elD a) (elD d) && (PyData.eqv (elD b) (elD e) && (PyData.eqv (elD c) (elD f) && true)))) = true ↔ _
  rw [el_eqv, el_eqv, el_eqv]
  simp
abbrev ssame_shapes : Stmt := topS 86
abbrev Nsame_shapes : List Str := ["field", "one", "other", "j", "k"]
theorem scsame_shapes : FnScope Nsame_shapes ["field", "one", "other"] (defScope ssame_shapes) := ⟨rfl, rfl, rfl, by decide +kernel, rfl, by decide +kernel, by decide +kernel⟩
theorem ok_same_shapes {f : Addr} {fd : FuncData} {k : Nat} (F : Fun K "same_shapes" "same_shapes" ssame_shapes f fd) (M : Names mg) (TF : FldT K C) (Z : ZeroT K mg aZ) (G_cross : Cal P w K mg base k "_cross" ["field", "one", "other"] (sp_cross C)) : FnOk P w K mg base CX0 (k + 1) f fd ["field", "one", "other"] (sp_same C) := by
  refine F.ok scsame_shapes (fun vs H Q E h => ?_) (fun cdv A outer s H vs Q E hr h => ?_)
  · obtain ⟨p, l, m, w, v, a, b, c, d, e, f, rfl, _⟩ := h
    rfl
  obtain ⟨p, l, m, w, v, a, b, c, d, e, f, rfl, hF, hL, hM, hw, sa, sb, sc, sd, se, sf, fin⟩ := h
  obtain ⟨ea, eb, ec, hl, ha, hb, hc⟩ := id hL
  obtain ⟨ed, ee, ef, hm, hd, he, hf⟩ := id hM
  refine ⟨_, (pss_cons (ps_if (pt_cmpR op_ne (pe_ix ix_tup (pv 1) pe_int (fun _ _ => rfl)) (pe_ix ix_tup (pv 2) pe_int (fun _ _ => rfl)) (nomark _))
      (pss_one (ps_ret pe_bl))
      pss_nil)
    (pss_cons (ps_if (pt_cmpR op_eq (pe_ix ix_tup (pv 1) pe_int (fun _ _ => rfl)) pe_str (nomark _))
      (pss_one (ps_ret (pe_cmpR (op_eqD hr.units) (pv 1) (pv 2) (nomark _))))
      pss_nil)
    (pss_cons (ps_for PassesOwn.never rfl (pi_tup (pe_tup (pa_cons (pe_tup (pa_cons pe_int (pa_cons pe_int pa_nil))) (pa_cons (pe_tup (pa_cons pe_int (pa_cons pe_int pa_nil))) (pa_cons (pe_tup (pa_cons pe_int (pa_cons pe_int pa_nil))) pa_nil))))) (pg_tup rfl (pgs_cons (pg_name (i := 3) scsame_shapes.nd rfl (.inl rfl)) (pgs_cons (pg_name (i := 4) scsame_shapes.nd rfl (.inl rfl)) pgs_nil)))
      (pss_one (ps_if (pt_cmpR (op_neD hr.units) (pe_call G_cross.ok hr (by rfl) G_cross.m G_cross.kp G_cross.b .nil pass0 (pa_cons (pv 0) (pa_cons (pe_tup (pa_cons (pe_ix ix_tup (pv 1) (pv 3) (fun _ _ => rfl)) (pa_cons (pe_ix ix_tup (pv 1) (pv 4) (fun _ _ => rfl)) pa_nil))) (pa_cons (pe_tup (pa_cons (pe_ix ix_tup (pv 2) (pv 3) (fun _ _ => rfl)) (pa_cons (pe_ix ix_tup (pv 2) (pv 4) (fun _ _ => rfl)) pa_nil))) pa_nil)))) (pe_glob (v := .ref aZ) (by rfl) Z.g rfl) (nomark _))
        (pss_one (ps_ret pe_bl))
        pss_nil)))
    (pss_one (ps_ret pe_bl))))), ?_⟩
  refine ⟨_, rfl, l, _, _, _, rfl, rfl, SqT.of hl, atI_nat (j := 0) rfl, _, rfl, m, _, _, _, rfl, rfl, SqT.of hm, atI_nat (j := 0) rfl, rfl, _, rfl, ite2 (fun c0 => ?_) (fun c0 => ?_)⟩
  · have ne : w ≠ v := fun z => by rw [z] at c0; simp at c0
    exact fin _ _ (Same.refl _) ⟨fun z => (by cases z), fun z => absurd z.1 ne⟩
  have wv : w = v := by
    by_cases z : w = v
    · exact z
    · exact absurd (by simp [z]) c0
  subst wv
  refine ⟨_, rfl, l, _, _, _, rfl, rfl, SqT.of hl, atI_nat (j := 0) rfl, rfl, _, rfl, ?_⟩
  rcases hw with rfl | rfl
  rotate_left
  · refine iteT' (decide_eq_true rfl) ?_
    refine ⟨_, rfl, _, rfl, _, _, dp_sh hl ha hb hc, dp_sh hm hd he hf, sh_shaped _ _ _, sh_shaped _ _ _, fin _ _ (Same.refl _) ?_⟩
    rw [sh_eqv]
    exact ⟨fun z => ⟨rfl, fun _ => z.2, fun q => absurd q (by decide +kernel)⟩, fun z => ⟨rfl, z.2.1 rfl⟩⟩
  refine iteF' (by decide +kernel) ?_
  refine ⟨(by show 2 ≤ sizeLine; decide), fun t1 n1 => ⟨(by show 2 ≤ sizeLine; decide), fun t2 n2 => ⟨(by show 2 ≤ sizeLine; decide), fun t3 n3 => ⟨(by show 3 ≤ sizeLine; decide), fun tt ntt => ?_⟩⟩⟩⟩
  have T1 := same_new n1 (.tup [V.int 1, .int 2])
  have T2 := same_new n2 (.tup [V.int 1, .int 3])
  have T3 := same_new n3 (.tup [V.int 2, .int 3])
  have T4 := same_new ntt (.tup [V.ref t1, .ref t2, .ref t3])
  have e1 := (T2.trans (T3.trans T4)) _ _ (show (upd H t1 (.tup [V.int 1, .int 2])) t1 = some (.tup [V.int 1, .int 2]) from upd_same)
  have e2 := (T3.trans T4) _ _ (show (upd _ t2 (.tup [V.int 1, .int 3])) t2 = some (.tup [V.int 1, .int 3]) from upd_same)
  have e3 := T4 _ _ (show (upd _ t3 (.tup [V.int 2, .int 3])) t3 = some (.tup [V.int 2, .int 3]) from upd_same)
  have ett : (upd (upd (upd (upd H t1 (.tup [V.int 1, .int 2])) t2 (.tup [V.int 1, .int 3])) t3 (.tup [V.int 2, .int 3])) tt (.tup [V.ref t1, .ref t2, .ref t3])) tt = some (.tup [V.ref t1, .ref t2, .ref t3]) := upd_same
  have T := T1.trans (T2.trans (T3.trans T4))
  generalize (upd (upd (upd (upd H t1 (.tup [V.int 1, .int 2])) t2 (.tup [V.int 1, .int 3])) t3 (.tup [V.int 2, .int 3])) tt (.tup [V.ref t1, .ref t2, .ref t3])) = H1 at e1 e2 e3 ett T
  refine ⟨tt, rfl, ⟨_, SqT.of ett⟩, for_tup (K := K) (xs := [.ref t1, .ref t2, .ref t3]) (fun i σ H' => ∃ (y3 y4 : Option V), σ = [some (.ref p), some (.ref l), some (.ref m), y3, y4] ∧ Same H1 H' ∧ (1 ≤ i → a * e - b * d = 0) ∧ (2 ≤ i → a * f - c * d = 0) ∧ (3 ≤ i → b * f - c * e = 0))
    ⟨none, none, rfl, Same.refl _, fun z => absurd z (by decide), fun z => absurd z (by decide), fun z => absurd z (by decide)⟩ (fun i σ H' _ hP => by obtain ⟨_, _, _, sm, _⟩ := hP; exact SqT.of (sm _ _ ett)) (fun i u σ H' hx hP => ?_) (fun σ H' hP => ?_)⟩
  rotate_left
  · obtain ⟨y3, y4, rfl, sm, h1, h2, h3⟩ := hP
    exact fin _ _ (T.trans sm) ⟨fun _ => ⟨rfl, fun q => absurd q (by decide +kernel), fun _ => ⟨h1 (by show 1 ≤ 3; decide), h2 (by show 2 ≤ 3; decide), h3 (by show 3 ≤ 3; decide)⟩⟩, fun _ => rfl⟩
  obtain ⟨y3, y4, rfl, sm, h1, h2, h3⟩ := hP
  have hi : i < 3 := (List.getElem?_eq_some_iff.mp hx).1
  have S := T.trans sm
  have hl' := S _ _ hl
  have hm' := S _ _ hm
  rcases (by omega : i = 0 ∨ i = 1 ∨ i = 2) with rfl | rfl | rfl
  · obtain rfl : .ref t1 = u := Option.some.inj hx
    refine ⟨t1, _, rfl, SqT.of (sm _ _ e1), rfl, _, _, rfl, _, _, rfl, rfl, ?_⟩
    refine ⟨_, rfl, _, rfl, _, rfl, l, _, _, _, rfl, rfl, SqT.of hl', atI_nat (j := 1) rfl, _, rfl, _, rfl, l, _, _, _, rfl, rfl, SqT.of hl', atI_nat (j := 2) rfl, (by show 2 ≤ sizeLine; decide), fun q1 m1 => ?_⟩
    have U1 := same_new m1 (.tup [V.ref ea, .ref eb])
    refine ⟨_, rfl, _, rfl, m, _, _, _, rfl, rfl, SqT.of (U1 _ _ hm'), atI_nat (j := 1) rfl, _, rfl, _, rfl, m, _, _, _, rfl, rfl, SqT.of (U1 _ _ hm'), atI_nat (j := 2) rfl, (by show 2 ≤ sizeLine; decide), fun q2 m2 => ?_⟩
    have U2 := same_new m2 (.tup [V.ref ed, .ref ee])
    have U := U1.trans U2
    have SU := S.trans U
    refine ⟨p, q1, q2, a, b, d, e, rfl, hF.same SU, ⟨ea, eb, U2 _ _ upd_same, ha.same SU, hb.same SU⟩, ⟨ed, ee, upd_same, hd.same SU, he.same SU⟩, sa, sb, sd, se, fun H5 q5 s5 e5 => ?_⟩
    have S2 := U.trans s5
    refine ⟨elD _, elD 0, dp_el e5, Z.d _, el_shaped _, el_shaped _, _, rfl, ?_⟩
    rw [el_eqv]
    refine ite2 (fun cc => ?_) (fun cc => ?_)
    · have ne : ¬ (a * e - b * d = 0) := fun z => by rw [decide_eq_true z] at cc; cases cc
      exact fin _ _ (S.trans S2) ⟨fun z => (by cases z), fun q => absurd (q.2.2 rfl).1 ne⟩
    · have z : a * e - b * d = 0 := by
        by_cases z : a * e - b * d = 0
        · exact z
        · exact absurd (by rw [decide_eq_false z]; rfl) cc
      exact ⟨_, _, rfl, sm.trans S2, fun _ => z, fun q => absurd q (by decide), fun q => absurd q (by decide)⟩
  · obtain rfl : .ref t2 = u := Option.some.inj hx
    refine ⟨t2, _, rfl, SqT.of (sm _ _ e2), rfl, _, _, rfl, _, _, rfl, rfl, ?_⟩
    refine ⟨_, rfl, _, rfl, _, rfl, l, _, _, _, rfl, rfl, SqT.of hl', atI_nat (j := 1) rfl, _, rfl, _, rfl, l, _, _, _, rfl, rfl, SqT.of hl', atI_nat (j := 3) rfl, (by show 2 ≤ sizeLine; decide), fun q1 m1 => ?_⟩
    have U1 := same_new m1 (.tup [V.ref ea, .ref ec])
    refine ⟨_, rfl, _, rfl, m, _, _, _, rfl, rfl, SqT.of (U1 _ _ hm'), atI_nat (j := 1) rfl, _, rfl, _, rfl, m, _, _, _, rfl, rfl, SqT.of (U1 _ _ hm'), atI_nat (j := 3) rfl, (by show 2 ≤ sizeLine; decide), fun q2 m2 => ?_⟩
    have U2 := same_new m2 (.tup [V.ref ed, .ref ef])
    have U := U1.trans U2
    have SU := S.trans U
    refine ⟨p, q1, q2, a, c, d, f, rfl, hF.same SU, ⟨ea, ec, U2 _ _ upd_same, ha.same SU, hc.same SU⟩, ⟨ed, ef, upd_same, hd.same SU, hf.same SU⟩, sa, sc, sd, sf, fun H5 q5 s5 e5 => ?_⟩
    have S2 := U.trans s5
    refine ⟨elD _, elD 0, dp_el e5, Z.d _, el_shaped _, el_shaped _, _, rfl, ?_⟩
    rw [el_eqv]
    refine ite2 (fun cc => ?_) (fun cc => ?_)
    · have ne : ¬ (a * f - c * d = 0) := fun z => by rw [decide_eq_true z] at cc; cases cc
      exact fin _ _ (S.trans S2) ⟨fun z => (by cases z), fun q => absurd (q.2.2 rfl).2.1 ne⟩
    · have z : a * f - c * d = 0 := by
        by_cases z : a * f - c * d = 0
        · exact z
        · exact absurd (by rw [decide_eq_false z]; rfl) cc
      exact ⟨_, _, rfl, sm.trans S2, fun _ => h1 (by decide), fun _ => z, fun q => absurd q (by decide)⟩
  · obtain rfl : .ref t3 = u := Option.some.inj hx
    refine ⟨t3, _, rfl, SqT.of (sm _ _ e3), rfl, _, _, rfl, _, _, rfl, rfl, ?_⟩
    refine ⟨_, rfl, _, rfl, _, rfl, l, _, _, _, rfl, rfl, SqT.of hl', atI_nat (j := 2) rfl, _, rfl, _, rfl, l, _, _, _, rfl, rfl, SqT.of hl', atI_nat (j := 3) rfl, (by show 2 ≤ sizeLine; decide), fun q1 m1 => ?_⟩
    have U1 := same_new m1 (.tup [V.ref eb, .ref ec])
    refine ⟨_, rfl, _, rfl, m, _, _, _, rfl, rfl, SqT.of (U1 _ _ hm'), atI_nat (j := 2) rfl, _, rfl, _, rfl, m, _, _, _, rfl, rfl, SqT.of (U1 _ _ hm'), atI_nat (j := 3) rfl, (by show 2 ≤ sizeLine; decide), fun q2 m2 => ?_⟩
    have U2 := same_new m2 (.tup [V.ref ee, .ref ef])
    have U := U1.trans U2
    have SU := S.trans U
    refine ⟨p, q1, q2, b, c, e, f, rfl, hF.same SU, ⟨eb, ec, U2 _ _ upd_same, hb.same SU, hc.same SU⟩, ⟨ee, ef, upd_same, he.same SU, hf.same SU⟩, sb, sc, se, sf, fun H5 q5 s5 e5 => ?_⟩
    have S2 := U.trans s5
    refine ⟨elD _, elD 0, dp_el e5, Z.d _, el_shaped _, el_shaped _, _, rfl, ?_⟩
    rw [el_eqv]
    refine ite2 (fun cc => ?_) (fun cc => ?_)
    · have ne : ¬ (b * f - c * e = 0) := fun z => by rw [decide_eq_true z] at cc; cases cc
      exact fin _ _ (S.trans S2) ⟨fun z => (by cases z), fun q => absurd (q.2.2 rfl).2.2 ne⟩
    · have z : b * f - c * e = 0 := by
        by_cases z : b * f - c * e = 0
        · exact z
        · exact absurd (by rw [decide_eq_false z]; rfl) cc
      exact ⟨_, _, rfl, sm.trans S2, fun _ => h1 (by decide), fun _ => h2 (by decide), fun _ => z⟩
end
end KO

namespace KG
open PySem PySem.Spec PyProof.Rows L2
theorem RowAt.snoc {R : Hp → Addr → Int → Prop} {H : Hp} {us : List V} {ns : List Int} {a : Addr} {n : Int} (h : RowAt R H us ns) (k : R H a n) : RowAt R H (us ++ [.ref a]) (ns ++ [n]) := by
  refine ⟨by rw [List.length_append, List.length_append, h.1]; rfl, fun j x hx => ?_⟩
  have l := h.1
  rcases Nat.lt_or_ge j us.length with hj | hj
  · rw [List.getElem?_append_left hj] at hx
    obtain ⟨b, m, e1, e2, e3⟩ := h.2 j x hx
    exact ⟨b, m, e1, by rw [List.getElem?_append_left (by omega)]; exact e2, e3⟩
  · rw [List.getElem?_append_right hj] at hx
    obtain ⟨h0, rfl⟩ := one_item hx
    refine ⟨a, n, rfl, ?_, k⟩
    rw [List.getElem?_append_right (by omega), ← l, h0]; rfl
theorem compR_range {lo : Int} {n : Nat} {D : Addr} {g : TG} {te : TE} {vs : List Nat} {σ : L2.St} {H1 : Hp} {Qd : Hp → Prop} (R : Nat → Hp → V → Prop) (mono : ∀ j H H' y, Kept H H' → R j H y → R j H' y) (hD : H1 D = none) (hl : n ≤ 1000)
    (hs : ∀ (i : Nat) (H : Hp) (Nx : V → Hp → Prop), i < n → Same H1 H → (∀ H' y, Same H H' → R i H' y → Nx y H') → g (.int (lo + i)) (wipe σ vs) H fun σ2 H2 => wipe σ2 vs = wipe σ vs ∧ te σ2 H2 Nx)
    (hd : ∀ H ys, Same H1 H → H D = some (.lst ys) → ys.length = n → (∀ (j : Nat) y, ys[j]? = some y → R j H y) → Qd H) :
    ∃ W : Nat → Nat → Hp → Prop, (∃ m, W 0 m (upd H1 D (.lst []))) ∧ ∀ i m H, W i m H →
      ((Itr lo n).stop i H ∧ Qd H) ∨ ((Itr lo n).go i H ∧ ∃ Nx : Hp → Prop, (∀ H', Nx H' → ∃ m', m' < m ∧ W (i + 1) m' H') ∧ ∀ x H', (Itr lo n).yld i H x H' → g x (wipe σ vs) H' fun σ2 H2 => wipe σ2 vs = wipe σ vs ∧ tYes σ2 H2 fun b H3 =>
        if b = true then te σ2 H3 fun y H4 => ∃ acc, H4 D = some (.lst acc) ∧ acc.length < sizeLine ∧ Nx (upd H4 D (.lst (acc ++ [y]))) else Nx H3) := by
  refine lc_range (fun i H => Same H1 H ∧ ∃ ys, H D = some (.lst ys) ∧ ys.length = i ∧ ∀ (j : Nat) y, ys[j]? = some y → R j H y) ⟨same_new hD _, [], upd_same, rfl, fun j y h => by simp at h⟩ (fun i H hi h => ?_) (fun H h => ?_)
  · obtain ⟨sm, ys, hy, hyl, hr⟩ := h
    have := hs i H (fun y H4 => ∃ acc, H4 D = some (.lst acc) ∧ acc.length < sizeLine ∧ (Same H1 (upd H4 D (.lst (acc ++ [y]))) ∧ ∃ ys, (upd H4 D (.lst (acc ++ [y]))) D = some (.lst ys) ∧ ys.length = i + 1 ∧ ∀ (j : Nat) z, ys[j]? = some z → R j (upd H4 D (.lst (acc ++ [y]))) z)) hi sm
      (fun H' y s' hR => by
        have hD' := s' _ _ hy
        refine ⟨ys, hD', small1000 (by omega), fun b o e => by rw [upd_ne (ne_of_none e hD)]; exact s' _ _ (sm b o e), ys ++ [y], upd_same, by rw [List.length_append, hyl]; rfl, fun j z hz => ?_⟩
        rcases Nat.lt_or_ge j ys.length with hj | hj
        · rw [List.getElem?_append_left hj] at hz
          exact mono _ _ _ _ (Kept.put hD') (mono _ _ _ _ (.of s') (hr j z hz))
        · rw [List.getElem?_append_right hj] at hz
          obtain ⟨h0, rfl⟩ := one_item hz
          have hji : j = i := by omega
          rw [hji]
          exact mono _ _ _ _ (Kept.put hD') hR)
    exact this
  · obtain ⟨sm, ys, hy, hyl, hr⟩ := h
    exact hd H ys sm hy hyl hr
/-- points of Numbers -/
def NPt (C : Addr) (H : Hp) (a : Addr) (x y : Int) : Prop := ∃ nx ny, H a = some (.tup [.ref nx, .ref ny]) ∧ NumAt C H nx x ∧ NumAt C H ny y
theorem NPt.same {C : Addr} {H H' : Hp} {a : Addr} {x y : Int} (h : NPt C H a x y) (s : Same H H') : NPt C H' a x y := by
  obtain ⟨nx, ny, h1, h2, h3⟩ := h
  exact ⟨nx, ny, s _ _ h1, h2.same s, h3.same s⟩
theorem PtAt.kept {H H' : Hp} {a : Addr} {x y : Int} (h : PtAt H a x y) (s : Kept H H') : PtAt H' a x y := by
  obtain ⟨ex, ey, h1, h2, h3⟩ := h
  exact ⟨ex, ey, s _ _ (fun l z => nomatch z) h1, h2.kept s, h3.kept s⟩
def Row2 (R : Hp → Addr → Int → Int → Prop) (H : Hp) (us : List V) (ps : List (Int × Int)) : Prop := us.length = ps.length ∧ ∀ (j : Nat) x, us[j]? = some x → ∃ a q, x = .ref a ∧ ps[j]? = some q ∧ R H a q.1 q.2
theorem Row2.mono {R : Hp → Addr → Int → Int → Prop} {H H' : Hp} {us : List V} {ps : List (Int × Int)} (h : Row2 R H us ps) (k : ∀ a m n, R H a m n → R H' a m n) : Row2 R H' us ps := by
  refine ⟨h.1, fun j x hx => ?_⟩
  obtain ⟨a, q, e, e2, e3⟩ := h.2 j x hx
  exact ⟨a, q, e, e2, k _ _ _ e3⟩
theorem Row2.app {R : Hp → Addr → Int → Int → Prop} {H : Hp} {us vs : List V} {ps qs : List (Int × Int)} (h : Row2 R H us ps) (k : Row2 R H vs qs) : Row2 R H (us ++ vs) (ps ++ qs) := by
  have l := h.1
  refine ⟨by rw [List.length_append, List.length_append, h.1, k.1], fun j x hx => ?_⟩
  rcases Nat.lt_or_ge j us.length with hj | hj
  · rw [List.getElem?_append_left hj] at hx
    obtain ⟨b, m, e1, e2, e3⟩ := h.2 j x hx
    exact ⟨b, m, e1, by rw [List.getElem?_append_left (by omega)]; exact e2, e3⟩
  · rw [List.getElem?_append_right hj] at hx
    obtain ⟨b, m, e1, e2, e3⟩ := k.2 _ x hx
    exact ⟨b, m, e1, by rw [List.getElem?_append_right (by omega), ← l]; exact e2, e3⟩
theorem Row2.take {R : Hp → Addr → Int → Int → Prop} {H : Hp} {us : List V} {ps : List (Int × Int)} (h : Row2 R H us ps) (n : Nat) : Row2 R H (us.take n) (ps.take n) := by
  refine ⟨by rw [List.length_take, List.length_take, h.1], fun j x hx => ?_⟩
  have hj := (List.getElem?_eq_some_iff.mp hx).1
  rw [List.length_take] at hj
  rw [List.getElem?_take, if_pos (by omega)] at hx
  obtain ⟨a, q, e, e2, e3⟩ := h.2 j x hx
  exact ⟨a, q, e, by rw [List.getElem?_take, if_pos (by omega)]; exact e2, e3⟩
theorem Row2.drop {R : Hp → Addr → Int → Int → Prop} {H : Hp} {us : List V} {ps : List (Int × Int)} (h : Row2 R H us ps) (n : Nat) : Row2 R H (us.drop n) (ps.drop n) := by
  refine ⟨by rw [List.length_drop, List.length_drop, h.1], fun j x hx => ?_⟩
  rw [List.getElem?_drop] at hx
  obtain ⟨a, q, e, e2, e3⟩ := h.2 _ x hx
  exact ⟨a, q, e, by rw [List.getElem?_drop]; exact e2, e3⟩
def flatI (ps : List (Int × Int)) : List Int := ps.flatMap fun q => [q.1, q.2]
theorem flatI_len (ps : List (Int × Int)) : (flatI ps).length = 2 * ps.length := by
  unfold flatI
  induction ps with
  | nil => rfl
  | cons q r ih => rw [List.flatMap_cons, List.length_append, ih, List.length_cons]; show 2 + 2 * r.length = 2 * (r.length + 1); omega
theorem flatI_get : ∀ (ps : List (Int × Int)) (j : Nat) (q : Int × Int), ps[j]? = some q → (flatI ps)[2 * j]? = some q.1 ∧ (flatI ps)[2 * j + 1]? = some q.2
  | [], j, q, h => by simp at h
  | p :: r, 0, q, h => by
    obtain rfl : p = q := Option.some.inj h
    exact ⟨rfl, rfl⟩
  | p :: r, j + 1, q, h => by
    obtain ⟨a, b⟩ := flatI_get r j q h
    exact ⟨a, b⟩
end KG
namespace KO
open PySem PySem.Spec PyProof.Rows L2 KG
section
variable {P : Program} {w : World} {K : PySem.W.Frag} {mg : Str → Option Value} {base : Heap} {C CN aZ : Addr}
abbrev s_points_in : Stmt := topS 91
abbrev N_points_in : List Str := ["field", "points", "found", "point", "number", "k"]
theorem sc_points_in : FnScope N_points_in ["field", "points"] (defScope s_points_in) := ⟨rfl, rfl, rfl, by decide +kernel, rfl, by decide +kernel, by decide +kernel⟩
def sp_points (C CN : Addr) : Sp := fun vs H Q _ => ∃ (p t : Addr) (us : List V) (ps : List (Int × Int)), vs = [.ref p, .ref t] ∧ FldAt C H p ∧ H t = some (.tup us) ∧ Row2 (NPt CN) H us ps ∧ ps.length ≤ 10 ∧ ∀ H' r ys, But p H H' → FldAt C H' p → H' r = some (.lst ys) → Row2 PtAt H' ys ps → Q (.ref r) H'
theorem ok_points_in {f : Addr} {fd : FuncData} {k : Nat} (F : Fun K "_points_in" "_points_in" s_points_in f fd) (M : Names mg) (TF : FldT K C) (Qholding : MCal P w K mg base k C "holding" ["self", "numbers"] (sp_holding C CN)) : FnOk P w K mg base CX0 (k + 1) f fd ["field", "points"] (sp_points C CN) := by
  refine F.ok sc_points_in (fun vs H Q E h => ?_) (fun cdv A outer s H vs Q E hr h => ?_)
  · obtain ⟨p, t, us, ps, rfl, _⟩ := h
    rfl
  obtain ⟨p, t, us, ps, rfl, hF, ht, hus, h10, fin⟩ := h
  obtain ⟨dx, tw, d, hp, htw⟩ := id hF
  have lus := hus.1
  refine ⟨_, (pss_cons (ps_set (i := 2) sc_points_in.nd rfl (.inr rfl) (pe_meth (pv 0) TF.cl Qholding.m Qholding.ok hr Qholding.b .nil pass0 (pa_cons (pe_lc2 (own := [("point", 3), ("number", 4)]) (vs1 := [4]) (g := gName 3) (g1 := gName 4) (by rfl) sc_points_in.nd (pi_tup (pv 1)) (blkOk_by (own := [("point", 3), ("number", 4)]) (N := N_points_in) (sc := defScope s_points_in) (by decide +kernel)) (by decide) (fun _ _ _ _ _ => pg_name (i := 3) sc_points_in.nd rfl (Or.inl rfl)) (fun _ _ _ _ _ => pts_nil) (fun _ _ _ _ _ => pi_tupK (K := K) rfl (pv 3)) (fun _ _ _ _ _ => pg_name (i := 4) sc_points_in.nd rfl (Or.inl rfl)) (fun _ _ _ _ _ => pts_nil) (fun _ _ _ _ _ => (pv 4))) pa_nil)))
    (pss_one (ps_ret (pe_lc (own := [("k", 5)]) (g := gName 5) (by rfl) sc_points_in.nd (pi_range1 (by rfl) M.range (pa_cons (pe_callB call_len_seq (by rfl) M.len PySem.boot_len (pa_cons (pv 1) pa_nil)) pa_nil)) (blkOk_by (own := [("k", 5)]) (N := N_points_in) (sc := defScope s_points_in) (by decide +kernel)) (fun _ _ _ _ _ => pg_name (i := 5) sc_points_in.nd rfl (Or.inl rfl)) (fun _ _ _ _ _ => pts_nil) (fun _ _ _ _ _ => (pe_tup (pa_cons (pe_ix (ix_listK (K := K) rfl) (pv 2) (pe_op op_mulW pe_int (pv 5)) (fun _ _ => rfl)) (pa_cons (pe_ix (ix_listK (K := K) rfl) (pv 2) (pe_op op_add (pe_op op_mulW pe_int (pv 5)) pe_int) (fun _ _ => rfl)) pa_nil)))))))), ?_⟩
  refine ⟨_, rfl, p, dx, _, rfl, hp, rfl, _, rfl, t, rfl, ⟨_, SqT.of ht⟩, fun D nD => ?_⟩
  refine ⟨fun i m H' => m = us.length - i ∧ i ≤ us.length ∧ Same H H' ∧ ∃ acc, H' D = some (.lst acc) ∧ RowAt (NumAt CN) H' acc (flatI (ps.take i)), ⟨_, rfl, Nat.zero_le _, same_new nD _, [], upd_same, rfl, fun j x hx => by simp at hx⟩, ?_⟩
  rintro i m H' ⟨rfl, hi, sm, acc, hD, hacc⟩
  by_cases lt : i < us.length
  · have gx : us[i]? = some us[i] := List.getElem?_eq_getElem lt
    refine .inr ⟨⟨us, us[i], SqT.of (sm _ _ ht), gx⟩, fun H2 => Same H H2 ∧ ∃ acc, H2 D = some (.lst acc) ∧ RowAt (NumAt CN) H2 acc (flatI (ps.take (i + 1))), fun H2 q => ⟨_, by omega, rfl, lt, q⟩, ?_⟩
    rintro x H2 ⟨rfl, hx⟩
    obtain ⟨a, q, rfl, hq, nx, ny, ha, hnx, hny⟩ := hus.2 i x (hx us (SqT.of (sm _ _ ht)))
    refine ⟨rfl, ?_⟩
    simp only [tYes, ↓reduceIte]
    refine ⟨_, rfl, a, rfl, ⟨_, SqT.of (sm _ _ ha)⟩, fun j k H5 => k = 2 - j ∧ j ≤ 2 ∧ Same H H5 ∧ ∃ acc2, H5 D = some (.lst acc2) ∧ RowAt (NumAt CN) H5 acc2 (flatI (ps.take i) ++ [q.1, q.2].take j), ⟨2, rfl, by omega, sm, acc, hD, by rw [List.take_zero, List.append_nil]; exact hacc⟩, ?_⟩
    rintro j k H5 ⟨rfl, hj, s5, acc2, hD5, hacc2⟩
    have la2 := hacc2.1
    have lf := flatI_len (ps.take i)
    rw [List.length_take] at lf
    rw [List.length_append, List.length_take] at la2
    have small : acc2.length < sizeLine := small1000 (by omega)
    have dH : H D = none := nD
    have kp := Kept.put (o := .lst (acc2 ++ [V.ref nx])) hD5
    have kp2 := Kept.put (o := .lst (acc2 ++ [V.ref ny])) hD5
    rcases (by omega : j = 0 ∨ j = 1 ∨ j = 2) with rfl | rfl | rfl
    · refine .inr ⟨⟨_, _, SqT.of (s5 _ _ ha), rfl⟩, fun H6 => Same H H6 ∧ ∃ acc2, H6 D = some (.lst acc2) ∧ RowAt (NumAt CN) H6 acc2 (flatI (ps.take i) ++ [q.1, q.2].take 1), fun H6 q6 => ⟨_, (by decide), rfl, (by decide), q6⟩, ?_⟩
      rintro y H6 ⟨rfl, hy⟩
      obtain rfl : .ref nx = y := Option.some.inj (hy _ (SqT.of (s5 _ _ ha)))
      refine ⟨rfl, ?_⟩
      simp only [tYes, ↓reduceIte]
      refine ⟨_, rfl, acc2, hD5, small, same_put s5 dH, acc2 ++ [.ref nx], upd_same, ?_⟩
      have := (hacc2.mono fun a n h => h.kept kp).snoc ((hnx.same s5).kept kp)
      rw [List.take_zero, List.append_nil] at this
      exact this
    · refine .inr ⟨⟨_, _, SqT.of (s5 _ _ ha), rfl⟩, fun H6 => Same H H6 ∧ ∃ acc2, H6 D = some (.lst acc2) ∧ RowAt (NumAt CN) H6 acc2 (flatI (ps.take i) ++ [q.1, q.2].take 2), fun H6 q6 => ⟨_, (by decide), rfl, (by decide), q6⟩, ?_⟩
      rintro y H6 ⟨rfl, hy⟩
      obtain rfl : .ref ny = y := Option.some.inj (hy _ (SqT.of (s5 _ _ ha)))
      refine ⟨rfl, ?_⟩
      simp only [tYes, ↓reduceIte]
      refine ⟨_, rfl, acc2, hD5, small, same_put s5 dH, acc2 ++ [.ref ny], upd_same, ?_⟩
      have := (hacc2.mono fun a n h => h.kept kp2).snoc ((hny.same s5).kept kp2)
      rw [List.append_assoc] at this
      exact this
    · refine .inl ⟨⟨_, SqT.of (s5 _ _ ha), Nat.le_refl _⟩, s5, acc2, hD5, ?_⟩
      have e : flatI (ps.take (i + 1)) = flatI (ps.take i) ++ [q.1, q.2].take 2 := by
        unfold flatI
        rw [List.take_add_one, hq, List.flatMap_append]; rfl
      rw [e]; exact hacc2
  · obtain rfl : i = us.length := by omega
    rw [lus, List.take_length] at hacc
    refine .inl ⟨⟨us, SqT.of (sm _ _ ht), Nat.le_refl _⟩, ?_⟩
    refine ⟨p, D, acc, flatI ps, rfl, hF.same sm, hD, hacc, by rw [flatI_len]; omega, fun H7 r ys B7 F7 hr7 hrow => ?_⟩
    have tp : t ≠ p := ne_of ht hp (by intro z; cases z)
    have ht7 := B7 _ _ tp (sm _ _ ht)
    refine ⟨_, rfl, t, _, rfl, .inr (SqT.of ht7), _, rfl, by omega, by omega, fun D2 nD2 => compR_range (n := us.length) (fun i H y => ∃ a q, y = .ref a ∧ ps[i]? = some q ∧ PtAt H a q.1 q.2) (fun j H1 H2 y k h => by obtain ⟨a, q, e1, e2, e3⟩ := h; exact ⟨a, q, e1, e2, e3.kept k⟩) nD2 (by omega) (fun i H8 Nx hi8 s8 hN => ?_) (fun H8 ys2 s8 hy2 hl2 hR2 => ?_)⟩
    · have gq : ps[i]? = some ps[i] := List.getElem?_eq_getElem (by omega)
      generalize ps[i] = q at gq
      obtain ⟨g1, g2⟩ := flatI_get ps i q gq
      have lrow := hrow.1
      rw [flatI_len] at lrow
      have y1 : ys[2 * i]? = some ys[2 * i] := List.getElem?_eq_getElem (by omega)
      have y2 : ys[2 * i + 1]? = some ys[2 * i + 1] := List.getElem?_eq_getElem (by omega)
      obtain ⟨a1, n1, e1, f1, E1⟩ := hrow.2 _ _ y1
      obtain ⟨a2, n2, e2, f2, E2⟩ := hrow.2 _ _ y2
      rw [e1] at y1
      rw [e2] at y2
      obtain rfl : n1 = q.1 := Option.some.inj (f1.symm.trans g1)
      obtain rfl : n2 = q.2 := Option.some.inj (f2.symm.trans g2)
      have c1 : 2 * ((0 : Int) + (i : Int)) = ((2 * i : Nat) : Int) := by omega
      have c2 : 2 * ((0 : Int) + (i : Int)) + 1 = ((2 * i + 1 : Nat) : Int) := by omega
      have wd : CMulW 2 (0 + (i : Int)) := Sm.wide (show (2 : Int).natAbs < 2 ^ 100 by decide +kernel) (show (0 + (i : Int)).natAbs < 2 ^ 100 from Nat.lt_of_le_of_lt (show (0 + (i : Int)).natAbs ≤ 10 by omega) (by decide +kernel))
      refine ⟨rfl, _, rfl, _, rfl, _, _, rfl, rfl, wd, r, ys, _, _, rfl, rfl, SqL.of (s8 _ _ hr7), (by rw [c1]; exact atI_nat y1), _, rfl, _, rfl, _, _, rfl, rfl, wd, _, _, rfl, rfl, r, ys, _, _, rfl, rfl, SqL.of (s8 _ _ hr7), (by rw [c2]; exact atI_nat y2), (by show 2 ≤ sizeLine; decide), fun t9 nt9 => ?_⟩
      have S9 := same_new nt9 (.tup [V.ref a1, .ref a2])
      exact hN _ _ S9 ⟨t9, q, rfl, gq, a1, a2, upd_same, (E1.same s8).same S9, (E2.same s8).same S9⟩
    · exact fin H8 D2 ys2 (((But.of sm).trans B7).trans (.of s8)) (F7.same s8) hy2 ⟨by omega, hR2⟩
end
end KO

namespace KG
open PySem PySem.Spec PyProof.Rows L2
inductive Fg
  | line (x y u v : Int)
  | circ (m n x y u v : Int)
def Fg.w : Fg → Str
  | .line _ _ _ _ => "line"
  | .circ _ _ _ _ _ _ => "circle"
def Fg.ps : Fg → List (Int × Int)
  | .line x y u v => [(x, y), (u, v)]
  | .circ m n x y u v => [(m, n), (x, y), (u, v)]
def Fg.a : Fg → Int
  | .line _ y _ v => y - v
  | .circ m _ _ _ _ _ => m
def Fg.b : Fg → Int
  | .line x _ u _ => u - x
  | .circ _ n _ _ _ _ => n
def Fg.c : Fg → Int
  | .line x y u v => x * v - y * u
  | .circ _ _ x y u v => (x - u) * (x - u) + (y - v) * (y - v)
def S20 (n : Int) : Prop := n.natAbs < 2 ^ 20
def Fg.sm (g : Fg) : Prop := ∀ q ∈ g.ps, S20 q.1 ∧ S20 q.2
theorem S20.s48 {n : Int} (h : S20 n) : S48 n := Nat.lt_trans h (by decide +kernel)
theorem S20.sub {m n : Int} (h : S20 m) (k : S20 n) : S48 (m - n) := by
  have h : m.natAbs < 2 ^ 20 := h
  have k : n.natAbs < 2 ^ 20 := k
  show (m - n).natAbs < 2 ^ 48
  omega
theorem s44 {a b : Int} (h : a.natAbs < 2 ^ 21) (k : b.natAbs < 2 ^ 21) : (a * b).natAbs < 2 ^ 42 := by
  rw [Int.natAbs_mul]
  exact Nat.lt_of_lt_of_le (Nat.mul_lt_mul'' h k) (by decide +kernel)
theorem Fg.s48 {g : Fg} (h : g.sm) : S48 g.a ∧ S48 g.b ∧ S48 g.c := by
  cases g with
  | line x y u v =>
    obtain ⟨h1, h2⟩ := h (x, y) List.mem_cons_self
    obtain ⟨h3, h4⟩ := h (u, v) (List.mem_cons_of_mem _ List.mem_cons_self)
    refine ⟨h2.sub h4, h3.sub h1, ?_⟩
    have l : ∀ {n : Int}, S20 n → n.natAbs < 2 ^ 21 := fun h => Nat.lt_trans h (by decide +kernel)
    have a : (x * v).natAbs < 2 ^ 42 := s44 (l h1) (l h4)
    have b : (y * u).natAbs < 2 ^ 42 := s44 (l h2) (l h3)
    show (x * v - y * u).natAbs < 2 ^ 48
    omega
  | circ m n x y u v =>
    obtain ⟨h1, h2⟩ := h (m, n) List.mem_cons_self
    obtain ⟨h3, h4⟩ := h (x, y) (List.mem_cons_of_mem _ List.mem_cons_self)
    obtain ⟨h5, h6⟩ := h (u, v) (List.mem_cons_of_mem _ (List.mem_cons_of_mem _ List.mem_cons_self))
    have h3 : x.natAbs < 2 ^ 20 := h3
    have h4 : y.natAbs < 2 ^ 20 := h4
    have h5 : u.natAbs < 2 ^ 20 := h5
    have h6 : v.natAbs < 2 ^ 20 := h6
    refine ⟨h1.s48, h2.s48, ?_⟩
    have a := s44 (a := x - u) (b := x - u) (by omega) (by omega)
    have b := s44 (a := y - v) (b := y - v) (by omega) (by omega)
    show ((x - u) * (x - u) + (y - v) * (y - v)).natAbs < 2 ^ 48
    omega
theorem Fg.cases_w (g : Fg) : g.w = "line" ∨ g.w = "circle" := by
  cases g with
  | line => exact .inl rfl
  | circ => exact .inr rfl
theorem Fg.len (g : Fg) : 2 ≤ g.ps.length ∧ g.ps.length ≤ 3 := by
  cases g with
  | line => exact ⟨by show 2 ≤ 2; decide, by show 2 ≤ 3; decide⟩
  | circ => exact ⟨by show 2 ≤ 3; decide, by show 3 ≤ 3; decide⟩
theorem Row2.uncons {R : Hp → Addr → Int → Int → Prop} {H : Hp} {us : List V} {q : Int × Int} {ps : List (Int × Int)} (h : Row2 R H us (q :: ps)) : ∃ a vs, us = .ref a :: vs ∧ R H a q.1 q.2 ∧ Row2 R H vs ps := by
  obtain ⟨l, k⟩ := h
  cases us with
  | nil => cases l
  | cons x vs =>
    obtain ⟨a, q', e1, e2, e3⟩ := k 0 x rfl
    obtain rfl : q = q' := Option.some.inj e2
    exact ⟨a, vs, by rw [e1], e3, Nat.succ.inj l, fun j y hy => k (j + 1) y hy⟩
theorem Row2.two {R : Hp → Addr → Int → Int → Prop} {H : Hp} {us : List V} {q r : Int × Int} (h : Row2 R H us [q, r]) : ∃ a b, us = [.ref a, .ref b] ∧ R H a q.1 q.2 ∧ R H b r.1 r.2 := by
  obtain ⟨a, vs, rfl, ha, h⟩ := h.uncons
  obtain ⟨b, ws, rfl, hb, h⟩ := h.uncons
  have := h.1
  rw [List.length_nil] at this
  rw [List.eq_nil_of_length_eq_zero this]
  exact ⟨a, b, rfl, ha, hb⟩
theorem Row2.three {R : Hp → Addr → Int → Int → Prop} {H : Hp} {us : List V} {q r t : Int × Int} (h : Row2 R H us [q, r, t]) : ∃ a b c, us = [.ref a, .ref b, .ref c] ∧ R H a q.1 q.2 ∧ R H b r.1 r.2 ∧ R H c t.1 t.2 := by
  obtain ⟨a, vs, rfl, ha, h⟩ := h.uncons
  obtain ⟨b, c, rfl, hb, hc⟩ := h.two
  exact ⟨a, b, c, rfl, ha, hb, hc⟩
def FgAt (C : Addr) (H : Hp) (a : Addr) (g : Fg) : Prop := ∃ us, H a = some (.tup (.str g.w :: us)) ∧ Row2 (NPt C) H us g.ps
theorem FgAt.same {C : Addr} {H H' : Hp} {a : Addr} {g : Fg} (h : FgAt C H a g) (s : Same H H') : FgAt C H' a g := by
  obtain ⟨us, h1, h2⟩ := h
  exact ⟨us, s _ _ h1, h2.mono fun a m n k => k.same s⟩
theorem El.but {p C : Addr} {H H' : Hp} {t : Addr} {n : Int} (h : El H t n) (hp : FldAt C H p) (b : But p H H') : El H' t n := by
  obtain ⟨dx, tw, d, e, _⟩ := hp
  obtain ⟨v, h1, h2⟩ := h
  exact ⟨v, b _ _ (ne_of h1 e (by intro z; cases z)) h1, b _ _ (ne_of h2 e (by intro z; cases z)) h2⟩
theorem but_same {p : Addr} {H H1 H' : Hp} (s : Same H H1) (n : H p = none) (b : But p H1 H') : Same H H' := fun c o h => b c o (ne_of_none h n) (s _ _ h)
structure FMk (P : Program) (w : World) (K : PySem.W.Frag) (mg : Str → Option Value) (base : Heap) (k : Nat) (C : Addr) (sp : Sp) where
  f : Addr
  fd : FuncData
  ok : FnOk P w K mg base CX0 k f fd ["self"] sp
  b : Binds K fd ["self"] []
  cm : Mk K C f
  g : mg "Field" = some (.ref C)
end KG
namespace KO
open PySem PySem.Spec PyProof.Rows L2 KG
section
variable {P : Program} {w : World} {K : PySem.W.Frag} {mg : Str → Option Value} {base : Heap} {C CN aZ : Addr}
def sp_shape (C : Addr) : Sp := fun vs H Q _ => ∃ (p l : Addr) (us : List V) (g : Fg), vs = [.ref p, .str g.w, .ref l] ∧ FldAt C H p ∧ H l = some (.lst us) ∧ Row2 PtAt H us g.ps ∧ g.sm ∧ ∀ H' q, Same H H' → ShAt H' q g.w g.a g.b g.c → Q (.ref q) H'
abbrev s_shape : Stmt := topS 92
abbrev N_shape : List Str := ["field", "word", "points"]
theorem sc_shape : FnScope N_shape ["field", "word", "points"] (defScope s_shape) := ⟨rfl, rfl, rfl, by decide +kernel, rfl, by decide +kernel, by decide +kernel⟩
theorem ok__shape {f : Addr} {fd : FuncData} {k : Nat} (F : Fun K "_shape" "_shape" s_shape f fd) (M : Names mg) (Gline_shape : Cal P w K mg base k "line_shape" ["field", "one", "other"] (sp_line_shape C)) (Gcircle_shape : Cal P w K mg base k "circle_shape" ["field", "centre", "one", "other"] (sp_circle_shape C)) : FnOk P w K mg base CX0 (k + 1) f fd ["field", "word", "points"] (sp_shape C) := by
  refine F.ok sc_shape (fun vs H Q E h => ?_) (fun cdv A outer s H vs Q E hr h => ?_)
  · obtain ⟨p, l, us, g, rfl, _⟩ := h
    rfl
  obtain ⟨p, l, us, g, rfl, hF, hl, hus, hs, fin⟩ := h
  refine ⟨_, (pss_cons (ps_if (pt_cmpR op_eq (pv 1) pe_str (nomark _))
      (pss_one (ps_ret (pe_call Gline_shape.ok hr (by rfl) Gline_shape.m Gline_shape.kp Gline_shape.b .nil pass0 (pa_cons (pv 0) (pa_cons (pe_ix ix_list (pv 2) pe_int (fun _ _ => rfl)) (pa_cons (pe_ix ix_list (pv 2) pe_int (fun _ _ => rfl)) pa_nil))))))
      pss_nil)
    (pss_one (ps_ret (pe_call Gcircle_shape.ok hr (by rfl) Gcircle_shape.m Gcircle_shape.kp Gcircle_shape.b .nil pass0 (pa_cons (pv 0) (pa_cons (pe_ix ix_list (pv 2) pe_int (fun _ _ => rfl)) (pa_cons (pe_ix ix_list (pv 2) pe_int (fun _ _ => rfl)) (pa_cons (pe_ix ix_list (pv 2) pe_int (fun _ _ => rfl)) pa_nil)))))))), ?_⟩
  cases g with
  | line x y u v =>
    obtain ⟨a, b, rfl, hA, hB⟩ := hus.two
    obtain ⟨h1, h2⟩ := hs (x, y) List.mem_cons_self
    obtain ⟨h3, h4⟩ := hs (u, v) (List.mem_cons_of_mem _ List.mem_cons_self)
    refine ⟨_, rfl, rfl, _, rfl, iteT' (decide_eq_true rfl) ?_⟩
    exact ⟨_, rfl, _, rfl, l, _, _, _, rfl, rfl, SqL.of hl, atI_nat (j := 0) rfl, _, rfl, l, _, _, _, rfl, rfl, SqL.of hl, atI_nat (j := 1) rfl, p, a, b, x, y, u, v, rfl, hF, hA, hB, h1.s48, h2.s48, h3.s48, h4.s48, fun H' q s e => fin H' q s e⟩
  | circ m n x y u v =>
    obtain ⟨o, a, b, rfl, hO, hA, hB⟩ := hus.three
    obtain ⟨h3, h4⟩ := hs (x, y) (List.mem_cons_of_mem _ List.mem_cons_self)
    obtain ⟨h5, h6⟩ := hs (u, v) (List.mem_cons_of_mem _ (List.mem_cons_of_mem _ List.mem_cons_self))
    refine ⟨_, rfl, rfl, _, rfl, iteF' (show decide (V.str "circle" = V.str "line") = false by decide +kernel) ?_⟩
    exact ⟨_, rfl, _, rfl, l, _, _, _, rfl, rfl, SqL.of hl, atI_nat (j := 0) rfl, _, rfl, l, _, _, _, rfl, rfl, SqL.of hl, atI_nat (j := 1) rfl, _, rfl, l, _, _, _, rfl, rfl, SqL.of hl, atI_nat (j := 2) rfl, p, o, a, b, m, n, x, y, u, v, rfl, hF, hO, hA, hB, h3.s48, h4.s48, h5.s48, h6.s48, h3.sub h5, h4.sub h6, fun H' q s e => fin H' q s e⟩
def sp_twos (C CN : Addr) : Sp := fun vs H Q _ => ∃ (p a b : Addr) (g h : Fg), vs = [.ref p, .ref a, .ref b] ∧ FldAt C H p ∧ FgAt CN H a g ∧ FgAt CN H b h ∧ g.sm ∧ h.sm ∧ ∀ H' t q r, But p H H' → FldAt C H' p → H' t = some (.tup [.ref q, .ref r]) → ShAt H' q g.w g.a g.b g.c → ShAt H' r h.w h.a h.b h.c → Q (.ref t) H'
abbrev s_two_shapes : Stmt := topS 90
abbrev N_two_shapes : List Str := ["field", "one", "other", "points", "many"]
theorem sc_two_shapes : FnScope N_two_shapes ["field", "one", "other"] (defScope s_two_shapes) := ⟨rfl, rfl, rfl, by decide +kernel, rfl, by decide +kernel, by decide +kernel⟩
theorem ok__two_shapes {f : Addr} {fd : FuncData} {k : Nat} (F : Fun K "_two_shapes" "_two_shapes" s_two_shapes f fd) (M : Names mg) (G_points_in : Cal P w K mg base k "_points_in" ["field", "points"] (sp_points C CN)) (G_shape : Cal P w K mg base k "_shape" ["field", "word", "points"] (sp_shape C)) : FnOk P w K mg base CX0 (k + 1) f fd ["field", "one", "other"] (sp_twos C CN) := by
  refine F.ok sc_two_shapes (fun vs H Q E h => ?_) (fun cdv A outer s H vs Q E hr h => ?_)
  · obtain ⟨p, a, b, g, h, rfl, _⟩ := h
    rfl
  obtain ⟨p, a, b, g, h, rfl, hF, ⟨us, ha, hus⟩, ⟨vs, hb, hvs⟩, sg, sh, fin⟩ := h
  obtain ⟨g2, g3⟩ := g.len
  obtain ⟨h2, h3⟩ := h.len
  have lus := hus.1
  have lvs := hvs.1
  obtain ⟨dx, tw, d, hp, htw⟩ := id hF
  refine ⟨_, (pss_cons (ps_set (i := 3) sc_two_shapes.nd rfl (.inl rfl) (pe_call G_points_in.ok hr (by rfl) G_points_in.m G_points_in.kp G_points_in.b .nil pass0 (pa_cons (pv 0) (pa_cons (pe_op op_catT (pe_slice sl_tup (pv 1) (po_some pe_int) po_none) (pe_slice sl_tup (pv 2) (po_some pe_int) po_none)) pa_nil))))
    (pss_cons (ps_set (i := 4) sc_two_shapes.nd rfl (.inl rfl) (pe_op op_sub (pe_callB call_len_seq (by rfl) M.len PySem.boot_len (pa_cons (pv 1) pa_nil)) pe_int))
    (pss_one (ps_ret (pe_tup (pa_cons (pe_call G_shape.ok hr (by rfl) G_shape.m G_shape.kp G_shape.b .nil pass0 (pa_cons (pv 0) (pa_cons (pe_ix ix_tup (pv 1) pe_int (fun _ _ => rfl)) (pa_cons (pe_slice sl_list (pv 3) po_none (po_some (pv 4))) pa_nil)))) (pa_cons (pe_call G_shape.ok hr (by rfl) G_shape.m G_shape.kp G_shape.b .nil pass0 (pa_cons (pv 0) (pa_cons (pe_ix ix_tup (pv 2) pe_int (fun _ _ => rfl)) (pa_cons (pe_slice sl_list (pv 3) (po_some (pv 4)) po_none) pa_nil)))) pa_nil))))))), ?_⟩
  refine ⟨_, rfl, _, rfl, _, rfl, a, _, rfl, SqT.of ha, not_whole (i := 1) (by decide) (by rw [List.length_cons]; omega), fun c1 n1 => ?_⟩
  have S1 := same_new n1 (.tup (cutV (V.str g.w :: us) (some 1) none))
  have e1 : (upd H c1 (.tup (cutV (V.str g.w :: us) (some 1) none))) c1 = some (.tup us) := by
    rw [upd_same, show cutV (V.str g.w :: us) (some 1) none = (V.str g.w :: us).drop 1 from cut_from _ 1 (by rw [List.length_cons]; omega)]; rfl
  generalize (upd H c1 (.tup (cutV (V.str g.w :: us) (some 1) none))) = H1 at S1 e1
  refine ⟨_, rfl, _, rfl, b, _, rfl, SqT.of (S1 _ _ hb), not_whole (i := 1) (by decide) (by rw [List.length_cons]; omega), fun c2 n2 => ?_⟩
  have S2 := same_new n2 (.tup (cutV (V.str h.w :: vs) (some 1) none))
  have e2 : (upd H1 c2 (.tup (cutV (V.str h.w :: vs) (some 1) none))) c2 = some (.tup vs) := by
    rw [upd_same, show cutV (V.str h.w :: vs) (some 1) none = (V.str h.w :: vs).drop 1 from cut_from _ 1 (by rw [List.length_cons]; omega)]; rfl
  have e1' := S2 _ _ e1
  have S12 := S1.trans S2
  generalize (upd H1 c2 (.tup (cutV (V.str h.w :: vs) (some 1) none))) = H2 at S12 e2 e1'
  refine ⟨c1, c2, us, vs, rfl, rfl, SqT.of e1', SqT.of e2, (fun z => by rw [z, List.length_nil] at lus; omega), Nat.le_of_lt (small1000 (by omega)), (fun z => by rw [z, List.length_nil] at lvs; omega), fun _ c3 n3 => ?_⟩
  have S3 := same_new n3 (.tup (us ++ vs))
  have S := S12.trans S3
  refine ⟨p, c3, us ++ vs, g.ps ++ h.ps, rfl, hF.same S, upd_same, (hus.mono fun a m n k => k.same S).app (hvs.mono fun a m n k => k.same S), by rw [List.length_append]; omega, fun H4 r ys B4 F4 hr4 hrow => ?_⟩
  have np : ∀ {t : Addr} {xs : List V}, H t = some (.tup xs) → t ≠ p := fun e => ne_of e hp (by intro z; cases z)
  have ha4 := B4 _ _ (np ha) (S _ _ ha)
  have hb4 := B4 _ _ (np hb) (S _ _ hb)
  have en : (((V.str g.w :: us).length : Nat) : Int) - 1 = ((us.length : Nat) : Int) := by rw [List.length_cons]; omega
  refine ⟨_, rfl, a, _, rfl, .inr (SqT.of ha4), _, _, rfl, rfl, ?_⟩
  have lys := hrow.1
  rw [List.length_append] at lys
  refine ⟨_, rfl, _, rfl, a, _, _, _, rfl, rfl, SqT.of ha4, atI_nat (j := 0) rfl, _, rfl, _, rfl, _, rfl, r, ys, rfl, SqL.of hr4, fun c5 n5 => ?_⟩
  have S5 := same_new n5 (.lst (cutV ys none (some ((((V.str g.w :: us).length : Nat) : Int) - 1))))
  have e5 : (upd H4 c5 (.lst (cutV ys none (some ((((V.str g.w :: us).length : Nat) : Int) - 1))))) c5 = some (.lst (ys.take g.ps.length)) := by
    rw [upd_same, en, cut_to ys us.length (by omega), lus]
  refine ⟨p, c5, ys.take g.ps.length, g, rfl, F4.same S5, e5, ?_, sg, fun H6 q6 s6 E6 => ?_⟩
  · have := (hrow.take g.ps.length).mono fun a m n k => k.same S5
    rw [List.take_left] at this
    exact this
  have S56 := S5.trans s6
  refine ⟨_, rfl, _, rfl, b, _, _, _, rfl, rfl, SqT.of (S56 _ _ hb4), atI_nat (j := 0) rfl, _, rfl, _, rfl, _, rfl, r, ys, rfl, SqL.of (S56 _ _ hr4), fun c7 n7 => ?_⟩
  have S7 := same_new n7 (.lst (cutV ys (some ((((V.str g.w :: us).length : Nat) : Int) - 1)) none))
  have e7 : (upd H6 c7 (.lst (cutV ys (some ((((V.str g.w :: us).length : Nat) : Int) - 1)) none))) c7 = some (.lst (ys.drop g.ps.length)) := by
    rw [upd_same, en, cut_from ys us.length (by omega), lus]
  have S567 := S56.trans S7
  refine ⟨p, c7, ys.drop g.ps.length, h, rfl, F4.same S567, e7, ?_, sh, fun H8 q8 s8 E8 => ⟨(by show 2 ≤ sizeLine; decide), fun t nt => ?_⟩⟩
  · have := (hrow.drop g.ps.length).mono fun a m n k => k.same S567
    rw [List.drop_left] at this
    exact this
  have S9 := same_new nt (.tup [V.ref q6, .ref q8])
  have SF := S567.trans (s8.trans S9)
  exact fin _ t q6 q8 (((But.of S).trans B4).trans (.of SF)) (F4.same SF) upd_same (E6.same (S7.trans (s8.trans S9))) (E8.same S9)
def sp_same2 (CN : Addr) : Sp := fun vs H Q _ => ∃ (a b : Addr) (g h : Fg), vs = [.ref a, .ref b] ∧ FgAt CN H a g ∧ FgAt CN H b h ∧ g.sm ∧ h.sm ∧ ∀ H' (r : Bool), Same H H' → (r = true ↔ sameP g.w h.w g.a g.b g.c h.a h.b h.c) → Q (.bl r) H'
theorem made_fld {H H1 : Hp} {x dx : Addr} (nx : H x = none) (ndx : H dx = none) (b : But x (upd (upd H dx (.own x)) x (.ins C dx [])) H1) : Same H H1 := fun c o h => by
  refine b c o (ne_of_none h nx) ?_
  rw [upd_ne (ne_of_none h nx), upd_ne (ne_of_none h ndx)]; exact h
abbrev ssame : Stmt := topS 88
abbrev Nsame : List Str := ["one", "other", "field", "first", "second"]
theorem scsame : FnScope Nsame ["one", "other"] (defScope ssame) := ⟨rfl, rfl, rfl, by decide +kernel, rfl, by decide +kernel, by decide +kernel⟩
theorem ok_same {f : Addr} {fd : FuncData} {k : Nat} (F : Fun K "same" "same" ssame f fd) (M : Names mg) (FM : FMk P w K mg base k C (sp_Fi C)) (G_two_shapes : Cal P w K mg base (k + 1) "_two_shapes" ["field", "one", "other"] (sp_twos C CN)) (Gsame_shapes : Cal P w K mg base (k + 1) "same_shapes" ["field", "one", "other"] (sp_same C)) : FnOk P w K mg base CX0 (k + 1 + 1) f fd ["one", "other"] (sp_same2 CN) := by
  refine F.ok scsame (fun vs H Q E h => ?_) (fun cdv A outer s H vs Q E hr h => ?_)
  · obtain ⟨a, b, g, h, rfl, _⟩ := h
    rfl
  obtain ⟨a, b, g, h, rfl, hA, hB, sg, sh, fin⟩ := h
  refine ⟨_, (pss_cons (ps_set (i := 2) scsame.nd rfl (.inl rfl) (pe_make0 FM.cm FM.ok hr (by rfl) FM.g FM.b .nil pass0))
    (pss_cons (ps_asg (pe_call G_two_shapes.ok hr (by rfl) G_two_shapes.m G_two_shapes.kp G_two_shapes.b .nil pass0 (pa_cons (pv 2) (pa_cons (pv 0) (pa_cons (pv 1) pa_nil)))) (pg_tup rfl (pgs_cons (pg_name (i := 3) scsame.nd rfl (.inl rfl)) (pgs_cons (pg_name (i := 4) scsame.nd rfl (.inl rfl)) pgs_nil))))
    (pss_one (ps_ret (pe_call Gsame_shapes.ok hr (by rfl) Gsame_shapes.m Gsame_shapes.kp Gsame_shapes.b .nil pass0 (pa_cons (pv 2) (pa_cons (pv 3) (pa_cons (pv 4) pa_nil)))))))), ?_⟩
  intro x dx nx ndx nex
  refine ⟨x, dx, rfl, upd_same, fun H1 B1 F1 => ⟨rfl, ?_⟩⟩
  have S1 := made_fld nx ndx B1
  refine ⟨_, rfl, _, rfl, _, rfl, x, a, b, g, h, rfl, F1, hA.same S1, hB.same S1, sg, sh, fun H2 t q r B2 F2 ht hq hr2 => ?_⟩
  refine ⟨t, _, rfl, SqT.of ht, rfl, _, _, rfl, _, _, rfl, rfl, ?_⟩
  obtain ⟨a1, a2, a3⟩ := Fg.s48 sg
  obtain ⟨b1, b2, b3⟩ := Fg.s48 sh
  refine ⟨_, rfl, _, rfl, _, rfl, x, q, r, _, _, _, _, _, _, _, _, rfl, F2, hq, hr2, g.cases_w, a1, a2, a3, b1, b2, b3, fun H3 o s3 ho => ?_⟩
  exact fin H3 o ((but_same S1 nx B2).trans s3) ho
def sp_lies (CN : Addr) : Sp := fun vs H Q _ => ∃ (a b : Addr) (x y : Int) (g : Fg), vs = [.ref a, .ref b] ∧ NPt CN H a x y ∧ FgAt CN H b g ∧ S20 x ∧ S20 y ∧ g.sm ∧ ∀ H' (r : Bool), Same H H' → (r = true ↔ onP g.w g.a g.b g.c x y) → Q (.bl r) H'
theorem Row2.one {R : Hp → Addr → Int → Int → Prop} {H : Hp} {a : Addr} {q : Int × Int} (h : R H a q.1 q.2) : Row2 R H [.ref a] [q] := ⟨rfl, fun j x hx => by
  obtain ⟨h0, rfl⟩ := one_item hx
  rw [h0]
  exact ⟨a, q, rfl, rfl, h⟩⟩
theorem Fg.onS {g : Fg} (h : g.sm) {x y : Int} (hx : S20 x) (hy : S20 y) : S48 (x - g.a) ∧ S48 (y - g.b) := by
  have hx : x.natAbs < 2 ^ 20 := hx
  have hy : y.natAbs < 2 ^ 20 := hy
  cases g with
  | line a b c d =>
    obtain ⟨h1, h2⟩ := h (a, b) List.mem_cons_self
    obtain ⟨h3, h4⟩ := h (c, d) (List.mem_cons_of_mem _ List.mem_cons_self)
    have h1 : a.natAbs < 2 ^ 20 := h1
    have h2 : b.natAbs < 2 ^ 20 := h2
    have h3 : c.natAbs < 2 ^ 20 := h3
    have h4 : d.natAbs < 2 ^ 20 := h4
    refine ⟨?_, ?_⟩
    · show (x - (b - d)).natAbs < 2 ^ 48
      omega
    · show (y - (c - a)).natAbs < 2 ^ 48
      omega
  | circ m n a b c d =>
    obtain ⟨h1, h2⟩ := h (m, n) List.mem_cons_self
    exact ⟨S20.sub hx h1, S20.sub hy h2⟩
abbrev slies_on : Stmt := topS 89
abbrev Nlies_on : List Str := ["point", "figure", "field", "points"]
theorem sclies_on : FnScope Nlies_on ["point", "figure"] (defScope slies_on) := ⟨rfl, rfl, rfl, by decide +kernel, rfl, by decide +kernel, by decide +kernel⟩
theorem ok_lies_on {f : Addr} {fd : FuncData} {k : Nat} (F : Fun K "lies_on" "lies_on" slies_on f fd) (M : Names mg) (FM : FMk P w K mg base k C (sp_Fi C)) (G_points_in : Cal P w K mg base (k + 1) "_points_in" ["field", "points"] (sp_points C CN)) (G_shape : Cal P w K mg base (k + 1) "_shape" ["field", "word", "points"] (sp_shape C)) (Gon_shape : Cal P w K mg base (k + 1) "on_shape" ["field", "point", "shape"] (sp_on C)) : FnOk P w K mg base CX0 (k + 1 + 1) f fd ["point", "figure"] (sp_lies CN) := by
  refine F.ok sclies_on (fun vs H Q E h => ?_) (fun cdv A outer s H vs Q E hr h => ?_)
  · obtain ⟨a, b, x, y, g, rfl, _⟩ := h
    rfl
  obtain ⟨a, b, px, py, g, rfl, hA, hB, sx, sy, sg, fin⟩ := h
  refine ⟨_, (pss_cons (ps_set (i := 2) sclies_on.nd rfl (.inl rfl) (pe_make0 FM.cm FM.ok hr (by rfl) FM.g FM.b .nil pass0))
    (pss_cons (ps_set (i := 3) sclies_on.nd rfl (.inl rfl) (pe_call G_points_in.ok hr (by rfl) G_points_in.m G_points_in.kp G_points_in.b .nil pass0 (pa_cons (pv 2) (pa_cons (pe_op op_catT (pe_tup (pa_cons (pv 0) pa_nil)) (pe_slice sl_tup (pv 1) (po_some pe_int) po_none)) pa_nil))))
    (pss_one (ps_ret (pe_call Gon_shape.ok hr (by rfl) Gon_shape.m Gon_shape.kp Gon_shape.b .nil pass0 (pa_cons (pv 2) (pa_cons (pe_ix ix_list (pv 3) pe_int (fun _ _ => rfl)) (pa_cons (pe_call G_shape.ok hr (by rfl) G_shape.m G_shape.kp G_shape.b .nil pass0 (pa_cons (pv 2) (pa_cons (pe_ix ix_tup (pv 1) pe_int (fun _ _ => rfl)) (pa_cons (pe_slice sl_list (pv 3) (po_some pe_int) po_none) pa_nil)))) pa_nil)))))))), ?_⟩
  intro x dx nx ndx nex
  refine ⟨x, dx, rfl, upd_same, fun H1 B1 F1 => ⟨rfl, ?_⟩⟩
  have S1 := made_fld nx ndx B1
  obtain ⟨us, hb, hus⟩ := hB.same S1
  have hA1 := hA.same S1
  obtain ⟨g2, g3⟩ := g.len
  have lus := hus.1
  refine ⟨_, rfl, _, rfl, (by show 1 ≤ sizeLine; decide), fun c1 n1 => ?_⟩
  have S2 := same_new n1 (.tup [V.ref a])
  have e1 : (upd H1 c1 (.tup [V.ref a])) c1 = some (.tup [V.ref a]) := upd_same
  generalize (upd H1 c1 (.tup [V.ref a])) = H2 at S2 e1
  refine ⟨_, rfl, _, rfl, b, _, rfl, SqT.of (S2 _ _ hb), not_whole (i := 1) (by decide) (by rw [List.length_cons]; omega), fun c2 n2 => ?_⟩
  have S3 := same_new n2 (.tup (cutV (V.str g.w :: us) (some 1) none))
  have e2 : (upd H2 c2 (.tup (cutV (V.str g.w :: us) (some 1) none))) c2 = some (.tup us) := by
    rw [upd_same, show cutV (V.str g.w :: us) (some 1) none = (V.str g.w :: us).drop 1 from cut_from _ 1 (by rw [List.length_cons]; omega)]; rfl
  have e1' := S3 _ _ e1
  have S23 := S2.trans S3
  generalize (upd H2 c2 (.tup (cutV (V.str g.w :: us) (some 1) none))) = H3 at S23 e2 e1'
  refine ⟨c1, c2, [.ref a], us, rfl, rfl, SqT.of e1', SqT.of e2, (fun z => by cases z), Nat.le_of_lt (small1000 (by rw [List.length_singleton]; omega)), (fun z => by rw [z, List.length_nil] at lus; omega), fun _ c3 n3 => ?_⟩
  have S4 := same_new n3 (.tup ([V.ref a] ++ us))
  have S := S23.trans S4
  refine ⟨x, c3, [.ref a] ++ us, [(px, py)] ++ g.ps, rfl, F1.same S, upd_same, (Row2.one (q := (px, py)) (hA1.same S)).app (hus.mono fun a m n k => k.same S), by rw [List.length_append, List.length_singleton]; omega, fun H5 r ys B5 F5 hr5 hrow => ?_⟩
  obtain ⟨pa, zs, rfl, hpa, hzs⟩ := hrow.uncons
  obtain ⟨dxx, tww, ddd, hx1, _⟩ := id F1
  have nb : b ≠ x := ne_of hb hx1 (by intro z; cases z)
  have hb5 := B5 _ _ nb (S _ _ hb)
  have lzs := hzs.1
  refine ⟨_, rfl, _, rfl, r, _, _, _, rfl, rfl, SqL.of hr5, atI_nat (j := 0) rfl, ?_⟩
  refine ⟨_, rfl, _, rfl, b, _, _, _, rfl, rfl, SqT.of hb5, atI_nat (j := 0) rfl, _, rfl, _, rfl, r, _, rfl, SqL.of hr5, fun c5 n5 => ?_⟩
  have S5 := same_new n5 (.lst (cutV (V.ref pa :: zs) (some 1) none))
  have e5 : (upd H5 c5 (.lst (cutV (V.ref pa :: zs) (some 1) none))) c5 = some (.lst zs) := by
    rw [upd_same, show cutV (V.ref pa :: zs) (some 1) none = (V.ref pa :: zs).drop 1 from cut_from _ 1 (by rw [List.length_cons]; omega)]; rfl
  refine ⟨x, c5, zs, g, rfl, F5.same S5, e5, hzs.mono fun a m n k => k.same S5, sg, fun H6 q6 s6 E6 => ?_⟩
  obtain ⟨a1, a2, a3⟩ := Fg.s48 sg
  obtain ⟨o1, o2⟩ := Fg.onS sg sx sy
  have S56 := S5.trans s6
  refine ⟨x, pa, q6, px, py, _, _, _, _, rfl, F5.same S56, hpa.same S56, E6, g.cases_w, sx.s48, sy.s48, a1, a2, a3.sm, o1, o2, fun H7 o s7 ho => ?_⟩
  exact fin H7 o ((but_same (S1.trans S) nx B5).trans (S56.trans s7)) ho
end
end KO

namespace KG
open PySem PySem.Spec PyProof.Rows L2
def IPt (H : Hp) (a : Addr) (x y : Int) : Prop := H a = some (.tup [V.int x, V.int y])
theorem IPt.same {H H' : Hp} {a : Addr} {x y : Int} (h : IPt H a x y) (s : Same H H') : IPt H' a x y := s _ _ h
theorem IPt.but {H H' : Hp} {a p b : Addr} {x y : Int} {ns : List Int} (h : IPt H a x y) (X : StX H p b ns) (s : But p H H') : IPt H' a x y := s _ _ (fun z => by
  obtain ⟨_, _, _, _, e2, _⟩ := X
  have h : H a = _ := h
  rw [z, e2] at h; cases h) h
structure NMk (P : Program) (w : World) (K : PySem.W.Frag) (mg : Str → Option Value) (base : Heap) (k : Nat) (C : Addr) (sp : Sp) where
  f : Addr
  fd : FuncData
  ds : List Value
  ok : FnOk P w K mg base CX0 k f fd ["self", "n", "d"] sp
  b : Binds K fd ["self", "n", "d"] ds
  d : Vals [V.int 1] ds
  cm : Mk K C f
  g : mg "Number" = some (.ref C)
def Lm (m n : Int) : Prop := -m ≤ n ∧ n ≤ m
end KG
namespace KO
open PySem PySem.Spec PyProof.Rows L2 KG
section
variable {P : Program} {w : World} {K : PySem.W.Frag} {mg : Str → Option Value} {base : Heap} {C CN aZ : Addr}
def sp_lpoint (K : PySem.W.Frag) : Sp := fun vs H Q _ => ∃ (p a : Addr) (ns : List Int) (m : Int), vs = [.ref p, .int m] ∧ StX H p a ns ∧ SqO K H p a (ns.map V.int) ∧ 0 ≤ m ∧ m ≤ 1000 ∧ ∀ H' q x y, But p H H' → StX H' p a ns → IPt H' q x y → Lm m x → Lm m y → Q (.ref q) H'
abbrev s_law_point : Stmt := topS 96
abbrev N_law_point : List Str := ["state", "most"]
theorem sc_law_point : FnScope N_law_point ["state", "most"] (defScope s_law_point) := ⟨rfl, rfl, rfl, by decide +kernel, rfl, by decide +kernel, by decide +kernel⟩
theorem ok__law_point {f : Addr} {fd : FuncData} {k : Nat} (F : Fun K "_law_point" "_law_point" s_law_point f fd) (M : Names mg) (G_law_take : Cal P w K mg base k "_law_take" ["state", "many"] (sp_law_take K)) : FnOk P w K mg base CX0 (k + 1) f fd ["state", "most"] (sp_lpoint K) := by
  refine F.ok sc_law_point (fun vs H Q E h => ?_) (fun cdv A outer s H vs Q E hr h => ?_)
  · obtain ⟨p, a, ns, m, rfl, _⟩ := h
    rfl
  obtain ⟨p, a, ns, m, rfl, hX, hS, m0, m1, fin⟩ := h
  refine ⟨_, (pss_one (ps_ret (pe_tup (pa_cons (pe_op op_sub (pe_call G_law_take.ok hr (by rfl) G_law_take.m G_law_take.kp G_law_take.b .nil pass0 (pa_cons (pv 0) (pa_cons (pe_op op_add (pe_op op_mulW pe_int (pv 1)) pe_int) pa_nil))) (pv 1)) (pa_cons (pe_op op_sub (pe_call G_law_take.ok hr (by rfl) G_law_take.m G_law_take.kp G_law_take.b .nil pass0 (pa_cons (pv 0) (pa_cons (pe_op op_add (pe_op op_mulW pe_int (pv 1)) pe_int) pa_nil))) (pv 1)) pa_nil))))), ?_⟩
  have lgN : ∀ n : Int, n.natAbs < 2 ^ 110 → n.natAbs.log2 < 9000 := fun n h => log_small (n := 110) h (by decide) (by decide)
  have wd : CMulW 2 m := Sm.wide (show (2 : Int).natAbs < 2 ^ 100 by decide +kernel) (show m.natAbs < 2 ^ 100 from Nat.lt_of_le_of_lt (show m.natAbs ≤ 1000 by omega) (by decide +kernel))
  refine ⟨_, rfl, _, rfl, _, _, rfl, rfl, wd, _, _, rfl, rfl, p, a, ns, _, rfl, hX, hS, by omega, lgN _ (by omega), fun d1 H1 d10 d11 X1 b1 => ?_⟩
  refine ⟨_, rfl, _, _, rfl, rfl, _, rfl, _, rfl, _, _, rfl, rfl, wd, _, _, rfl, rfl, p, a, ns, _, rfl, X1, hS.but b1, by omega, lgN _ (by omega), fun d2 H2 d20 d21 X2 b2 => ?_⟩
  refine ⟨_, rfl, _, _, rfl, rfl, (by show 2 ≤ sizeLine; decide), fun q nq => ?_⟩
  have S := same_new nq (.tup [V.int (d1 - m), .int (d2 - m)])
  exact fin _ q (d1 - m) (d2 - m) ((b1.trans b2).trans (.of S)) (X2.same S) upd_same ⟨by omega, by omega⟩ ⟨by omega, by omega⟩
def sp_ltwo (K : PySem.W.Frag) : Sp := fun vs H Q _ => ∃ (p a : Addr) (ns : List Int) (m : Int), vs = [.ref p, .int m] ∧ StX H p a ns ∧ SqO K H p a (ns.map V.int) ∧ 0 ≤ m ∧ m ≤ 1000 ∧ ∀ H' t q r x y u v, But p H H' → StX H' p a ns → H' t = some (.tup [.ref q, .ref r]) → IPt H' q x y → IPt H' r u v → Lm m x → Lm m y → Lm (m + 1) u → Lm m v → ¬ (x = u ∧ y = v) → Q (.ref t) H'
theorem pt_shaped (x y : Int) : SeqAt.shaped (.tuple [.int x, .int y]) = true := rfl
theorem pt_eqv (x y u v : Int) : (PyData.eqv (.tuple [.int x, .int y]) (.tuple [.int u, .int v]) = true) ↔ (x = u ∧ y = v) := by
  show ((x == u) && ((y == v) && true)) = true ↔ _
  simp
theorem dp_pt {H : Hp} {a : Addr} {x y : Int} (h : IPt H a x y) : Dp K H (.ref a) (.tuple [.int x, .int y]) := .tup (SqT.of h) (.cons (.int _) (.cons (.int _) .nil))
abbrev s_law_two_points : Stmt := topS 97
abbrev N_law_two_points : List Str := ["state", "most", "one", "other"]
theorem sc_law_two_points : FnScope N_law_two_points ["state", "most"] (defScope s_law_two_points) := ⟨rfl, rfl, rfl, by decide +kernel, rfl, by decide +kernel, by decide +kernel⟩
theorem ok__law_two_points {f : Addr} {fd : FuncData} {k : Nat} (F : Fun K "_law_two_points" "_law_two_points" s_law_two_points f fd) (M : Names mg) (G_law_point : Cal P w K mg base k "_law_point" ["state", "most"] (sp_lpoint K)) : FnOk P w K mg base CX0 (k + 1) f fd ["state", "most"] (sp_ltwo K) := by
  refine F.ok sc_law_two_points (fun vs H Q E h => ?_) (fun cdv A outer s H vs Q E hr h => ?_)
  · obtain ⟨p, a, ns, m, rfl, _⟩ := h
    rfl
  obtain ⟨p, a, ns, m, rfl, hX, hS, m0, m1, fin⟩ := h
  refine ⟨_, (pss_cons (ps_set (i := 2) sc_law_two_points.nd rfl (.inl rfl) (pe_call G_law_point.ok hr (by rfl) G_law_point.m G_law_point.kp G_law_point.b .nil pass0 (pa_cons (pv 0) (pa_cons (pv 1) pa_nil))))
    (pss_cons (ps_set (i := 3) sc_law_two_points.nd rfl (.inl rfl) (pe_call G_law_point.ok hr (by rfl) G_law_point.m G_law_point.kp G_law_point.b .nil pass0 (pa_cons (pv 0) (pa_cons (pv 1) pa_nil))))
    (pss_cons (ps_if (pt_cmpR (op_eqD hr.units) (pv 2) (pv 3) (nomark _))
      (pss_one (ps_set (i := 3) sc_law_two_points.nd rfl (.inl rfl) (pe_tup (pa_cons (pe_op op_add (pe_ix ix_tup (pv 3) pe_int (fun _ _ => rfl)) pe_int) (pa_cons (pe_ix ix_tup (pv 3) pe_int (fun _ _ => rfl)) pa_nil)))))
      pss_nil)
    (pss_one (ps_ret (pe_tup (pa_cons (pv 2) (pa_cons (pv 3) pa_nil)))))))), ?_⟩
  refine ⟨_, rfl, _, rfl, p, a, ns, m, rfl, hX, hS, m0, m1, fun H1 q x y b1 X1 hq lx ly => ?_⟩
  refine ⟨_, rfl, _, rfl, p, a, ns, m, rfl, X1, hS.but b1, m0, m1, fun H2 r u v b2 X2 hr2 lu lv => ?_⟩
  have hq2 := hq.but X1 b2
  refine ⟨_, rfl, _, rfl, _, _, dp_pt hq2, dp_pt hr2, pt_shaped _ _, pt_shaped _ _, _, rfl, ite2 (fun c => ?_) (fun c => ?_)⟩
  · rw [pt_eqv] at c
    refine ⟨_, rfl, r, _, _, _, rfl, rfl, SqT.of hr2, atI_nat (j := 0) rfl, _, _, rfl, rfl, _, rfl, r, _, _, _, rfl, rfl, SqT.of hr2, atI_nat (j := 1) rfl, (by show 2 ≤ sizeLine; decide), fun r2 nr2 => ?_⟩
    have S2 := same_new nr2 (.tup [V.int (u + 1), .int v])
    refine ⟨_, rfl, _, rfl, (by show 2 ≤ sizeLine; decide), fun t nt => ?_⟩
    have S3 := same_new nt (.tup [V.ref q, .ref r2])
    have l1 := lu.1; have l2 := lu.2
    exact fin _ t q r2 x y (u + 1) v ((b1.trans b2).trans (.of (S2.trans S3))) (X2.same (S2.trans S3)) upd_same (hq2.same (S2.trans S3)) (S3 _ _ upd_same) lx ly ⟨by omega, by omega⟩ lv (fun z => by have := c.1; have := z.1; omega)
  · refine ⟨_, rfl, _, rfl, (by show 2 ≤ sizeLine; decide), fun t nt => ?_⟩
    have S3 := same_new nt (.tup [V.ref q, .ref r])
    have l1 := lu.1; have l2 := lu.2
    exact fin _ t q r x y u v ((b1.trans b2).trans (.of S3)) (X2.same S3) upd_same (hq2.same S3) (hr2.same S3) lx ly ⟨by omega, by omega⟩ lv (fun z => c ((pt_eqv _ _ _ _).mpr z))
def sp_lline : Sp := fun vs H Q _ => ∃ (a b : Addr) (x y u v : Int), vs = [.ref a, .ref b] ∧ IPt H a x y ∧ IPt H b u v ∧ S20 x ∧ S20 y ∧ S20 u ∧ S20 v ∧ ∀ H' t, Same H H' → H' t = some (.tup [V.int (v - y), .int (x - u), .int ((v - y) * x + (x - u) * y)]) → Q (.ref t) H'
abbrev s_law_line : Stmt := topS 98
abbrev N_law_line : List Str := ["one", "other", "a", "b"]
theorem sc_law_line : FnScope N_law_line ["one", "other"] (defScope s_law_line) := ⟨rfl, rfl, rfl, by decide +kernel, rfl, by decide +kernel, by decide +kernel⟩
theorem ok__law_line {f : Addr} {fd : FuncData} {k : Nat} (F : Fun K "_law_line" "_law_line" s_law_line f fd) (M : Names mg) : FnOk P w K mg base CX0 (k + 1) f fd ["one", "other"] sp_lline := by
  refine F.ok sc_law_line (fun vs H Q E h => ?_) (fun cdv A outer s H vs Q E hr h => ?_)
  · obtain ⟨a, b, x, y, u, v, rfl, _⟩ := h
    rfl
  obtain ⟨a, b, x, y, u, v, rfl, ha, hb, bx, by_, bu, bv, fin⟩ := h
  refine ⟨_, (pss_cons (ps_set (i := 2) sc_law_line.nd rfl (.inl rfl) (pe_op op_sub (pe_ix ix_tup (pv 1) pe_int (fun _ _ => rfl)) (pe_ix ix_tup (pv 0) pe_int (fun _ _ => rfl))))
    (pss_cons (ps_set (i := 3) sc_law_line.nd rfl (.inl rfl) (pe_op op_sub (pe_ix ix_tup (pv 0) pe_int (fun _ _ => rfl)) (pe_ix ix_tup (pv 1) pe_int (fun _ _ => rfl))))
    (pss_one (ps_ret (pe_tup (pa_cons (pv 2) (pa_cons (pv 3) (pa_cons (pe_op op_add (pe_op op_mulW (pv 2) (pe_ix ix_tup (pv 0) pe_int (fun _ _ => rfl))) (pe_op op_mulW (pv 3) (pe_ix ix_tup (pv 0) pe_int (fun _ _ => rfl)))) pa_nil)))))))), ?_⟩
  refine ⟨_, rfl, b, _, _, _, rfl, rfl, SqT.of hb, atI_nat (j := 1) rfl, _, rfl, a, _, _, _, rfl, rfl, SqT.of ha, atI_nat (j := 1) rfl, _, _, rfl, rfl, ?_⟩
  refine ⟨_, rfl, a, _, _, _, rfl, rfl, SqT.of ha, atI_nat (j := 0) rfl, _, rfl, b, _, _, _, rfl, rfl, SqT.of hb, atI_nat (j := 0) rfl, _, _, rfl, rfl, ?_⟩
  refine ⟨_, rfl, _, rfl, _, rfl, _, rfl, a, _, _, _, rfl, rfl, SqT.of ha, atI_nat (j := 0) rfl, _, _, rfl, rfl, (bv.sub by_).sm.wide bx.s48.sm, _, rfl, _, rfl, a, _, _, _, rfl, rfl, SqT.of ha, atI_nat (j := 1) rfl, _, _, rfl, rfl, (bx.sub bu).sm.wide by_.s48.sm, _, _, rfl, rfl, (by show 3 ≤ sizeLine; decide), fun t nt => ?_⟩
  exact fin _ t (same_new nt _) upd_same
def sp_lmade (CN : Addr) : Sp := fun vs H Q _ => ∃ (a : Addr) (x y : Int), vs = [.ref a] ∧ IPt H a x y ∧ ∀ H' t, Same H H' → NPt CN H' t x y → Q (.ref t) H'
abbrev s_law_made_point : Stmt := topS 99
abbrev N_law_made_point : List Str := ["point"]
theorem sc_law_made_point : FnScope N_law_made_point ["point"] (defScope s_law_made_point) := ⟨rfl, rfl, rfl, by decide +kernel, rfl, by decide +kernel, by decide +kernel⟩
theorem ok_law_made_point {f : Addr} {fd : FuncData} {k : Nat} (F : Fun K "_law_made_point" "_law_made_point" s_law_made_point f fd) (M : Names mg) (NM : NMk P w K mg base k CN (sp_Ni CN)) : FnOk P w K mg base CX0 (k + 1 + 1) f fd ["point"] (sp_lmade CN) := by
  refine F.ok sc_law_made_point (fun vs H Q E h => ?_) (fun cdv A outer s H vs Q E hr h => ?_)
  · obtain ⟨a, x, y, rfl, _⟩ := h
    rfl
  obtain ⟨a, x, y, rfl, ha, fin⟩ := h
  refine ⟨_, (pss_one (ps_ret (pe_tup (pa_cons (pe_make NM.cm NM.ok hr (by rfl) NM.g NM.b NM.d pass0 (pa_cons (pe_ix ix_tup (pv 0) pe_int (fun _ _ => rfl)) pa_nil)) (pa_cons (pe_make NM.cm NM.ok hr (by rfl) NM.g NM.b NM.d pass0 (pa_cons (pe_ix ix_tup (pv 0) pe_int (fun _ _ => rfl)) pa_nil)) pa_nil))))), ?_⟩
  refine ⟨_, rfl, a, _, _, _, rfl, rfl, SqT.of ha, atI_nat (j := 0) rfl, fun n1 dx nn nd ne => ⟨n1, dx, x, rfl, upd_same, fun H1 B1 N1 => ⟨rfl, ?_⟩⟩⟩
  have S1 := made_fld nn nd B1
  refine ⟨_, rfl, a, _, _, _, rfl, rfl, SqT.of (S1 _ _ ha), atI_nat (j := 1) rfl, fun n2 dx2 nn2 nd2 ne2 => ⟨n2, dx2, y, rfl, upd_same, fun H2 B2 N2 => ⟨rfl, (by show 2 ≤ sizeLine; decide), fun t nt => ?_⟩⟩⟩
  have S2 := made_fld nn2 nd2 B2
  have S3 := same_new nt (.tup [V.ref n1, .ref n2])
  exact fin _ t (S1.trans (S2.trans S3)) ⟨n1, n2, upd_same, N1.same (S2.trans S3), N2.same S3⟩
def sp_lsays : Sp := fun vs H Q _ => ∃ (a b : Bool), vs = [.bl a, .bl b] ∧ ∀ H', Same H H' → Q (.bl (decide (a = b))) H'
abbrev s_law_says : Stmt := topS 100
abbrev N_law_says : List Str := ["told", "due"]
theorem sc_law_says : FnScope N_law_says ["told", "due"] (defScope s_law_says) := ⟨rfl, rfl, rfl, by decide +kernel, rfl, by decide +kernel, by decide +kernel⟩
theorem ok__law_says {f : Addr} {fd : FuncData} {k : Nat} (F : Fun K "_law_says" "_law_says" s_law_says f fd) (M : Names mg) : FnOk P w K mg base CX0 (k + 1) f fd ["told", "due"] sp_lsays := by
  refine F.ok sc_law_says (fun vs H Q E h => ?_) (fun cdv A outer s H vs Q E hr h => ?_)
  · obtain ⟨a, b, rfl, _⟩ := h
    rfl
  obtain ⟨a, b, rfl, fin⟩ := h
  refine ⟨_, (pss_one (ps_ret (pe_and (pe_callB call_isi (by rfl) M.isinstance (by decide +kernel) (pa_cons (pv 0) (pa_cons (pe_bltn (v := .ty "bool") (by rfl) M.bool (by decide +kernel) rfl) pa_nil))) (pe_one (pe_cmpR op_eq (pv 0) (pv 1) (nomark _)))))), ?_⟩
  refine ⟨_, rfl, _, _, _, _, _, rfl, .ty "bool", .base (.bl _), kit_ty (show kitB "bool" "bool" = some true by decide +kernel), _, rfl, iteT' rfl ?_⟩
  refine ⟨_, rfl, _, rfl, rfl, ?_⟩
  have e : (decide (V.bl a = V.bl b)) = decide (a = b) := by cases a <;> cases b <;> decide +kernel
  rw [e]
  exact fin _ (Same.refl _)
end
end KO

namespace KG
open PySem PySem.Spec PyProof.Rows L2
theorem kept_but {H H' : Hp} {p a : Addr} {ns : List Int} (X : StX H p a ns) (b : But p H H') : Kept H H' := fun c o n h => b c o (fun z => by
  obtain ⟨_, _, _, _, e, _⟩ := X
  rw [z, e] at h
  exact n _ (Option.some.inj h).symm) h
theorem IPt.kept {H H' : Hp} {a : Addr} {x y : Int} (h : IPt H a x y) (s : Kept H H') : IPt H' a x y := s _ _ (fun l z => nomatch z) h
theorem NPt.kept {C : Addr} {H H' : Hp} {a : Addr} {x y : Int} (h : NPt C H a x y) (s : Kept H H') : NPt C H' a x y := by
  obtain ⟨nx, ny, h1, h2, h3⟩ := h
  exact ⟨nx, ny, s _ _ (fun l z => nomatch z) h1, h2.kept s, h3.kept s⟩
theorem FgAt.kept {C : Addr} {H H' : Hp} {a : Addr} {g : Fg} (h : FgAt C H a g) (s : Kept H H') : FgAt C H' a g := by
  obtain ⟨us, h1, h2⟩ := h
  exact ⟨us, s _ _ (fun l z => nomatch z) h1, h2.mono fun a m n k => k.kept s⟩
theorem row_two {R : Hp → Addr → Int → Int → Prop} {H : Hp} {a b : Addr} {x y u v : Int} (h : R H a x y) (k : R H b u v) : Row2 R H [.ref a, .ref b] [(x, y), (u, v)] := (KO.Row2.one (q := (x, y)) h).app (KO.Row2.one (q := (u, v)) k)
theorem row_three {R : Hp → Addr → Int → Int → Prop} {H : Hp} {o a b : Addr} {m n x y u v : Int} (j : R H o m n) (h : R H a x y) (k : R H b u v) : Row2 R H [.ref o, .ref a, .ref b] [(m, n), (x, y), (u, v)] := (KO.Row2.one (q := (m, n)) j).app (row_two h k)
theorem lm_mul {a b : Int} {m n : Nat} (h : a.natAbs ≤ m) (k : b.natAbs ≤ n) : (a * b).natAbs ≤ m * n := by
  rw [Int.natAbs_mul]; exact Nat.mul_le_mul h k
theorem nb_add {a b : Int} {m n l : Nat} (h : a.natAbs ≤ m) (k : b.natAbs ≤ n) (hl : m + n ≤ l) : (a + b).natAbs ≤ l := by omega
theorem nb_sub {a b : Int} {m n l : Nat} (h : a.natAbs ≤ m) (k : b.natAbs ≤ n) (hl : m + n ≤ l) : (a - b).natAbs ≤ l := by omega
theorem nb_iv {n m : Int} {l : Nat} (h : -m ≤ n) (k : n ≤ m) (hl : m ≤ l) : n.natAbs ≤ l := by omega
theorem s20_of {n : Int} (h : n.natAbs ≤ 1000) : S20 n := Nat.lt_of_le_of_lt h (by decide +kernel)
/-- what the first part of the law leaves -/
def Bs (C a p : Addr) (ns : List Int) (H : Hp) (q1 q2 wd f1 : Addr) (x1 y1 x2 y2 : Int) (H' : Hp) : Prop := Same H H' ∧ StX H' p a ns ∧ IPt H' q1 x1 y1 ∧ IPt H' q2 x2 y2 ∧ IPt H' wd (x2 - x1) (y2 - y1) ∧ FgAt C H' f1 (.line x1 y1 x2 y2)
theorem Bs.same {C a p : Addr} {ns : List Int} {H : Hp} {q1 q2 wd f1 : Addr} {x1 y1 x2 y2 : Int} {H' H2 : Hp} (h : Bs C a p ns H q1 q2 wd f1 x1 y1 x2 y2 H') (s : Same H' H2) : Bs C a p ns H q1 q2 wd f1 x1 y1 x2 y2 H2 := by
  obtain ⟨h1, h2, h3, h4, h5, h6⟩ := h
  exact ⟨h1.trans s, h2.same s, h3.same s, h4.same s, h5.same s, h6.same s⟩
theorem Bs.but {C a p : Addr} {ns : List Int} {H : Hp} {q1 q2 wd f1 : Addr} {x1 y1 x2 y2 : Int} {H' H2 : Hp} (h : Bs C a p ns H q1 q2 wd f1 x1 y1 x2 y2 H') (hp : H p = none) (X : StX H2 p a ns) (b : But p H' H2) : Bs C a p ns H q1 q2 wd f1 x1 y1 x2 y2 H2 := by
  obtain ⟨h1, h2, h3, h4, h5, h6⟩ := h
  have s := kept_but h2 b
  exact ⟨same_but h1 b hp, X, h3.kept s, h4.kept s, h5.kept s, h6.kept s⟩
/-- the second line, and its points -/
def Cs (C : Addr) (t3 t4 f2 : Addr) (x3 y3 x4 y4 : Int) (H' : Hp) : Prop := IPt H' t3 x3 y3 ∧ IPt H' t4 x4 y4 ∧ FgAt C H' f2 (.line x3 y3 x4 y4)
theorem Cs.kept {C : Addr} {t3 t4 f2 : Addr} {x3 y3 x4 y4 : Int} {H H' : Hp} (h : Cs C t3 t4 f2 x3 y3 x4 y4 H) (s : Kept H H') : Cs C t3 t4 f2 x3 y3 x4 y4 H' := ⟨h.1.kept s, h.2.1.kept s, h.2.2.kept s⟩
theorem fg_sm2 {x y u v : Int} (h : S20 x) (h2 : S20 y) (h3 : S20 u) (h4 : S20 v) : (Fg.line x y u v).sm := fun q hq => by
  rcases List.mem_cons.mp hq with rfl | hq
  · exact ⟨h, h2⟩
  · rw [List.mem_singleton.mp hq]; exact ⟨h3, h4⟩
theorem fg_sm3 {m n x y u v : Int} (k : S20 m) (k2 : S20 n) (h : S20 x) (h2 : S20 y) (h3 : S20 u) (h4 : S20 v) : (Fg.circ m n x y u v).sm := fun q hq => by
  rcases List.mem_cons.mp hq with rfl | hq
  · exact ⟨k, k2⟩
  · exact fg_sm2 h h2 h3 h4 q hq
/-- the points of the circles, and the circles -/
def Ds (C : Addr) (cq oq fq rg hg : Addr) (cx cy ox oy fx fy x1 y1 x2 y2 x3 y3 : Int) (H' : Hp) : Prop := IPt H' cq cx cy ∧ IPt H' oq ox oy ∧ IPt H' fq fx fy ∧ FgAt C H' rg (.circ cx cy x1 y1 x2 y2) ∧ FgAt C H' hg (.circ ox oy x3 y3 fx fy)
theorem Ds.kept {C : Addr} {cq oq fq rg hg : Addr} {cx cy ox oy fx fy x1 y1 x2 y2 x3 y3 : Int} {H H' : Hp} (h : Ds C cq oq fq rg hg cx cy ox oy fx fy x1 y1 x2 y2 x3 y3 H) (s : Kept H H') : Ds C cq oq fq rg hg cx cy ox oy fx fy x1 y1 x2 y2 x3 y3 H' := ⟨h.1.kept s, h.2.1.kept s, h.2.2.1.kept s, h.2.2.2.1.kept s, h.2.2.2.2.kept s⟩
theorem bool_eq {a b : Bool} {p : Prop} (h : a = true ↔ p) (k : b = true ↔ p) : a = b := by
  cases a <;> cases b <;> simp_all
/-! two lines -/
theorem lines_on {x1 y1 x2 y2 x3 y3 x4 y4 : Int} (hne : ¬ (x3 = x4 ∧ y3 = y4)) :
    ((y1 - y2) * (x4 - x3) - (x2 - x1) * (y3 - y4) = 0 ∧ (y1 - y2) * (x3 * y4 - y3 * x4) - (x1 * y2 - y1 * x2) * (y3 - y4) = 0 ∧ (x2 - x1) * (x3 * y4 - y3 * x4) - (x1 * y2 - y1 * x2) * (x4 - x3) = 0) ↔
    ((y2 - y1) * x3 + (x1 - x2) * y3 = (y2 - y1) * x1 + (x1 - x2) * y1 ∧ (y2 - y1) * x4 + (x1 - x2) * y4 = (y2 - y1) * x1 + (x1 - x2) * y1) := by
  constructor
  · rintro ⟨h1, h2, h3⟩
    by_cases e : x4 - x3 = 0
    · have d : y3 - y4 ≠ 0 := fun z => hne ⟨by omega, by omega⟩
      have k3 : (y3 - y4) * ((y2 - y1) * x3 + (x1 - x2) * y3 - ((y2 - y1) * x1 + (x1 - x2) * y1)) = 0 := by grind
      have k4 : (y3 - y4) * ((y2 - y1) * x4 + (x1 - x2) * y4 - ((y2 - y1) * x1 + (x1 - x2) * y1)) = 0 := by grind
      have j3 := (Int.mul_eq_zero.mp k3).resolve_left d
      have j4 := (Int.mul_eq_zero.mp k4).resolve_left d
      exact ⟨Int.eq_of_sub_eq_zero j3, Int.eq_of_sub_eq_zero j4⟩
    · have k3 : (x4 - x3) * ((y2 - y1) * x3 + (x1 - x2) * y3 - ((y2 - y1) * x1 + (x1 - x2) * y1)) = 0 := by grind
      have k4 : (x4 - x3) * ((y2 - y1) * x4 + (x1 - x2) * y4 - ((y2 - y1) * x1 + (x1 - x2) * y1)) = 0 := by grind
      have j3 := (Int.mul_eq_zero.mp k3).resolve_left e
      have j4 := (Int.mul_eq_zero.mp k4).resolve_left e
      exact ⟨Int.eq_of_sub_eq_zero j3, Int.eq_of_sub_eq_zero j4⟩
  · rintro ⟨h1, h2⟩
    refine ⟨by grind, by grind, by grind⟩
end KG
namespace KO
open PySem PySem.Spec PyProof.Rows L2 KG
section
variable {P : Program} {w : World} {K : PySem.W.Frag} {mg : Str → Option Value} {base : Heap} {C CN aZ : Addr}
abbrev slaw : Stmt := topS 101
abbrev Nlaw : List Str := ["script", "state", "one", "two", "wide", "first", "start", "step", "three", "four", "kind", "second", "a", "b", "c", "due", "centre", "other", "far", "ring", "hoop", "square", "point", "made", "way", "edge"]
theorem sclaw : FnScope Nlaw ["script"] (defScope slaw) := ⟨rfl, rfl, rfl, by decide +kernel, rfl, by decide +kernel, by decide +kernel⟩
theorem st_law (x : V) : L2.start Nlaw [x] = [some x, none, none, none, none, none, none, none, none, none, none, none, none, none, none, none, none, none, none, none, none, none, none, none, none, none] := rfl
theorem same_line {x1 y1 x2 y2 x3 y3 x4 y4 : Int} (hne : ¬ (x3 = x4 ∧ y3 = y4)) : sameP "line" "line" (y1 - y2) (x2 - x1) (x1 * y2 - y1 * x2) (y3 - y4) (x4 - x3) (x3 * y4 - y3 * x4) ↔
    ((y2 - y1) * x3 + (x1 - x2) * y3 = (y2 - y1) * x1 + (x1 - x2) * y1 ∧ (y2 - y1) * x4 + (x1 - x2) * y4 = (y2 - y1) * x1 + (x1 - x2) * y1) := by
  rw [← lines_on hne]
  exact ⟨fun h => h.2.2 rfl, fun h => ⟨rfl, fun z => absurd z (by decide +kernel), fun _ => h⟩⟩
theorem same_swap {w v : Str} {a b c d e f : Int} : sameP w v a b c d e f ↔ sameP v w d e f a b c := by
  constructor
  · rintro ⟨rfl, h1, h2⟩
    refine ⟨rfl, fun z => ?_, fun z => ?_⟩
    · obtain ⟨e1, e2, e3⟩ := h1 z
      exact ⟨e1.symm, e2.symm, e3.symm⟩
    · obtain ⟨e1, e2, e3⟩ := h2 z
      refine ⟨by grind, by grind, by grind⟩
  · rintro ⟨rfl, h1, h2⟩
    refine ⟨rfl, fun z => ?_, fun z => ?_⟩
    · obtain ⟨e1, e2, e3⟩ := h1 z
      exact ⟨e1.symm, e2.symm, e3.symm⟩
    · obtain ⟨e1, e2, e3⟩ := h2 z
      refine ⟨by grind, by grind, by grind⟩
theorem same_circ {m n x y u v m2 n2 x' y' u' v' : Int} : sameP "circle" "circle" m n ((x - u) * (x - u) + (y - v) * (y - v)) m2 n2 ((x' - u') * (x' - u') + (y' - v') * (y' - v')) ↔ ((m = m2 ∧ n = n2) ∧ (u' - x') * (u' - x') + (v' - y') * (v' - y') = (u - x) * (u - x) + (v - y) * (v - y)) := by
  constructor
  · rintro ⟨_, h, _⟩
    obtain ⟨e1, e2, e3⟩ := h rfl
    exact ⟨⟨e1, e2⟩, by grind⟩
  · rintro ⟨⟨e1, e2⟩, e3⟩
    exact ⟨rfl, fun _ => ⟨e1, e2, by grind⟩, fun z => absurd z (by decide +kernel)⟩
theorem same_self {x1 y1 x2 y2 : Int} : sameP "line" "line" (y1 - y2) (x2 - x1) (x1 * y2 - y1 * x2) (y1 - y2) (x2 - x1) (x1 * y2 - y1 * x2) := ⟨rfl, fun z => absurd z (by decide +kernel), fun _ => ⟨by grind, by grind, by grind⟩⟩
theorem on_line {x1 y1 x2 y2 x y : Int} : onP "line" (y1 - y2) (x2 - x1) (x1 * y2 - y1 * x2) x y ↔ (y2 - y1) * x + (x1 - x2) * y = (y2 - y1) * x1 + (x1 - x2) * y1 := by
  constructor
  · intro h
    have := h.1 rfl
    grind
  · intro h
    exact ⟨fun _ => by grind, fun z => absurd z (by decide +kernel)⟩
theorem on_circ {m n x1 y1 x2 y2 x y : Int} : onP "circle" m n ((x1 - x2) * (x1 - x2) + (y1 - y2) * (y1 - y2)) x y ↔ (x - m) * (x - m) + (y - n) * (y - n) = (x2 - x1) * (x2 - x1) + (y2 - y1) * (y2 - y1) := by
  constructor
  · intro h
    have := h.2 rfl
    grind
  · intro h
    exact ⟨fun z => absurd z (by decide +kernel), fun _ => by grind⟩
theorem edge_on {m n x1 y1 x2 y2 : Int} : onP "circle" m n ((x1 - x2) * (x1 - x2) + (y1 - y2) * (y1 - y2)) (m + (y2 - y1)) (n - (x2 - x1)) := on_circ.mpr (by grind)
theorem no_same1 {a b c d e f : Int} : ¬ sameP "circle" "line" a b c d e f := fun h => absurd h.1 (by decide +kernel)
theorem no_same2 {a b c d e f : Int} : ¬ sameP "line" "circle" a b c d e f := fun h => absurd h.1 (by decide +kernel)
theorem bool_no {a : Bool} {p : Prop} (h : a = true ↔ p) (n : ¬ p) : a = false := by
  cases a with
  | true => exact absurd (h.mp rfl) n
  | false => rfl
theorem item4 {a b c d x : V} {i : Nat} (h : [a, b, c, d][i]? = some x) : x = a ∨ x = b ∨ x = c ∨ x = d := by
  have := List.mem_of_getElem? h
  simpa using this
theorem dec_int {u v : Int} : (decide (V.int u = V.int v) = true) ↔ u = v := by
  rw [decide_eq_true_iff]
  exact ⟨fun h => V.int.inj h, fun h => congrArg V.int h⟩
def splaw (K : PySem.W.Frag) : Sp := fun vs H Q _ => ∃ (a : Addr) (ns : List Int), vs = [.ref a] ∧ SqL K H a (ns.map V.int) ∧ ns.length ≤ 63 ∧ ∀ H', Q (.bl true) H'
set_option maxHeartbeats 8000000 in
theorem oklaw {f : Addr} {fd : FuncData} {k : Nat} (F : Fun K "law" "law" slaw f fd) (M : Names mg) (G_law_state : Cal P w K mg base k "_law_state" ["script"] (sp_law_state K)) (G_law_take : Cal P w K mg base k "_law_take" ["state", "many"] (sp_law_take K))
    (G_law_two_points : Cal P w K mg base k "_law_two_points" ["state", "most"] (sp_ltwo K)) (G_law_point : Cal P w K mg base k "_law_point" ["state", "most"] (sp_lpoint K)) (G_law_made_point : Cal P w K mg base k "_law_made_point" ["point"] (sp_lmade CN))
    (G_law_line : Cal P w K mg base k "_law_line" ["one", "other"] sp_lline) (G_law_says : Cal P w K mg base k "_law_says" ["told", "due"] sp_lsays) (Gsame : Cal P w K mg base k "same" ["one", "other"] (sp_same2 CN)) (Glies_on : Cal P w K mg base k "lies_on" ["point", "figure"] (sp_lies CN)) : FnOk P w K mg base CX0 (k + 1) f fd ["script"] (splaw K) := by
  refine F.ok sclaw (fun vs H Q E h => ?_) (fun cdv A outer s H vs Q E hr h => ?_)
  · obtain ⟨a, ns, rfl, _⟩ := h
    rfl
  obtain ⟨a, ns, rfl, hS, h63, fin⟩ := h
  refine ⟨_, (pss_cons (ps_set (i := 1) sclaw.nd rfl (.inl rfl) (pe_call G_law_state.ok hr (by rfl) G_law_state.m G_law_state.kp G_law_state.b .nil pass0 (pa_cons (pv 0) pa_nil)))
    (pss_cons (ps_asg (pe_call G_law_two_points.ok hr (by rfl) G_law_two_points.m G_law_two_points.kp G_law_two_points.b .nil pass0 (pa_cons (pv 1) (pa_cons pe_int pa_nil))) (pg_tup rfl (pgs_cons (pg_name (i := 2) sclaw.nd rfl (.inl rfl)) (pgs_cons (pg_name (i := 3) sclaw.nd rfl (.inl rfl)) pgs_nil))))
    (pss_cons (ps_set (i := 4) sclaw.nd rfl (.inl rfl) (pe_tup (pa_cons (pe_op op_sub (pe_ix ix_tup (pv 3) pe_int (fun _ _ => rfl)) (pe_ix ix_tup (pv 2) pe_int (fun _ _ => rfl))) (pa_cons (pe_op op_sub (pe_ix ix_tup (pv 3) pe_int (fun _ _ => rfl)) (pe_ix ix_tup (pv 2) pe_int (fun _ _ => rfl))) pa_nil))))
    (pss_cons (ps_set (i := 5) sclaw.nd rfl (.inl rfl) (pe_tup (pa_cons pe_str (pa_cons (pe_call G_law_made_point.ok hr (by rfl) G_law_made_point.m G_law_made_point.kp G_law_made_point.b .nil pass0 (pa_cons (pv 2) pa_nil)) (pa_cons (pe_call G_law_made_point.ok hr (by rfl) G_law_made_point.m G_law_made_point.kp G_law_made_point.b .nil pass0 (pa_cons (pv 3) pa_nil)) pa_nil)))))
    (pss_cons (ps_set (i := 6) sclaw.nd rfl (.inl rfl) (pe_op op_sub (pe_call G_law_take.ok hr (by rfl) G_law_take.m G_law_take.kp G_law_take.b .nil pass0 (pa_cons (pv 1) (pa_cons pe_int pa_nil))) pe_int))
    (pss_cons (ps_set (i := 7) sclaw.nd rfl (.inl rfl) (pe_op op_add pe_int (pe_call G_law_take.ok hr (by rfl) G_law_take.m G_law_take.kp G_law_take.b .nil pass0 (pa_cons (pv 1) (pa_cons pe_int pa_nil)))))
    (pss_cons (ps_set (i := 8) sclaw.nd rfl (.inl rfl) (pe_tup (pa_cons (pe_op op_add (pe_ix ix_tup (pv 2) pe_int (fun _ _ => rfl)) (pe_op op_mulW (pv 6) (pe_ix ix_tup (pv 4) pe_int (fun _ _ => rfl)))) (pa_cons (pe_op op_add (pe_ix ix_tup (pv 2) pe_int (fun _ _ => rfl)) (pe_op op_mulW (pv 6) (pe_ix ix_tup (pv 4) pe_int (fun _ _ => rfl)))) pa_nil))))
    (pss_cons (ps_set (i := 9) sclaw.nd rfl (.inl rfl) (pe_tup (pa_cons (pe_op op_sub (pe_ix ix_tup (pv 8) pe_int (fun _ _ => rfl)) (pe_op op_mulW (pv 7) (pe_ix ix_tup (pv 4) pe_int (fun _ _ => rfl)))) (pa_cons (pe_op op_sub (pe_ix ix_tup (pv 8) pe_int (fun _ _ => rfl)) (pe_op op_mulW (pv 7) (pe_ix ix_tup (pv 4) pe_int (fun _ _ => rfl)))) pa_nil))))
    (pss_cons (ps_set (i := 10) sclaw.nd rfl (.inl rfl) (pe_call G_law_take.ok hr (by rfl) G_law_take.m G_law_take.kp G_law_take.b .nil pass0 (pa_cons (pv 1) (pa_cons pe_int pa_nil))))
    (C8.pss_cut (ps_if (pt_cmpR op_eq (pv 10) pe_int (nomark _))
      (pss_one (ps_set (i := 8) sclaw.nd rfl (.inl rfl) (pe_tup (pa_cons (pe_op op_sub (pe_op op_add (pe_ix ix_tup (pv 8) pe_int (fun _ _ => rfl)) (pe_call G_law_take.ok hr (by rfl) G_law_take.m G_law_take.kp G_law_take.b .nil pass0 (pa_cons (pv 1) (pa_cons pe_int pa_nil)))) pe_int) (pa_cons (pe_op op_sub (pe_op op_add (pe_ix ix_tup (pv 8) pe_int (fun _ _ => rfl)) (pe_call G_law_take.ok hr (by rfl) G_law_take.m G_law_take.kp G_law_take.b .nil pass0 (pa_cons (pv 1) (pa_cons pe_int pa_nil)))) pe_int) pa_nil)))))
      pss_nil)
    (C8.pss_cut (ps_if (pt_cmpR op_eq (pv 10) pe_int (nomark _))
      (pss_one (ps_asg (pe_call G_law_two_points.ok hr (by rfl) G_law_two_points.m G_law_two_points.kp G_law_two_points.b .nil pass0 (pa_cons (pv 1) (pa_cons pe_int pa_nil))) (pg_tup rfl (pgs_cons (pg_name (i := 8) sclaw.nd rfl (.inl rfl)) (pgs_cons (pg_name (i := 9) sclaw.nd rfl (.inl rfl)) pgs_nil)))))
      pss_nil)
    (C8.pss_cut (ps_if (pt_cmpR (op_eqD hr.units) (pv 8) (pv 9) (nomark _))
      (pss_one (ps_set (i := 9) sclaw.nd rfl (.inl rfl) (pe_tup (pa_cons (pe_ix ix_tup (pv 9) pe_int (fun _ _ => rfl)) (pa_cons (pe_op op_add (pe_ix ix_tup (pv 9) pe_int (fun _ _ => rfl)) pe_int) pa_nil)))))
      pss_nil)
    (pss_cons (ps_set (i := 11) sclaw.nd rfl (.inl rfl) (pe_tup (pa_cons pe_str (pa_cons (pe_call G_law_made_point.ok hr (by rfl) G_law_made_point.m G_law_made_point.kp G_law_made_point.b .nil pass0 (pa_cons (pv 8) pa_nil)) (pa_cons (pe_call G_law_made_point.ok hr (by rfl) G_law_made_point.m G_law_made_point.kp G_law_made_point.b .nil pass0 (pa_cons (pv 9) pa_nil)) pa_nil)))))
    (pss_cons (ps_asg (pe_call G_law_line.ok hr (by rfl) G_law_line.m G_law_line.kp G_law_line.b .nil pass0 (pa_cons (pv 2) (pa_cons (pv 3) pa_nil))) (pg_tup rfl (pgs_cons (pg_name (i := 12) sclaw.nd rfl (.inl rfl)) (pgs_cons (pg_name (i := 13) sclaw.nd rfl (.inl rfl)) (pgs_cons (pg_name (i := 14) sclaw.nd rfl (.inl rfl)) pgs_nil)))))
    (C8.pss_cut (ps_set (i := 15) sclaw.nd rfl (.inl rfl) (pe_and (pe_cmpR op_eq (pe_op op_add (pe_op op_mulW (pv 12) (pe_ix ix_tup (pv 8) pe_int (fun _ _ => rfl))) (pe_op op_mulW (pv 13) (pe_ix ix_tup (pv 8) pe_int (fun _ _ => rfl)))) (pv 14) (nomark _)) (pe_one (pe_cmpR op_eq (pe_op op_add (pe_op op_mulW (pv 12) (pe_ix ix_tup (pv 9) pe_int (fun _ _ => rfl))) (pe_op op_mulW (pv 13) (pe_ix ix_tup (pv 9) pe_int (fun _ _ => rfl)))) (pv 14) (nomark _)))))
    (pss_cons (ps_if (PW.pt (pw_or (pt_not (pt_val (pe_call G_law_says.ok hr (by rfl) G_law_says.m G_law_says.kp G_law_says.b .nil pass0 (pa_cons (pe_call Gsame.ok hr (by rfl) Gsame.m Gsame.kp Gsame.b .nil pass0 (pa_cons (pv 5) (pa_cons (pv 11) pa_nil))) (pa_cons (pv 15) pa_nil))))) (pw_or1 (pt_not (pt_val (pe_call G_law_says.ok hr (by rfl) G_law_says.m G_law_says.kp G_law_says.b .nil pass0 (pa_cons (pe_call Gsame.ok hr (by rfl) Gsame.m Gsame.kp Gsame.b .nil pass0 (pa_cons (pv 11) (pa_cons (pv 5) pa_nil))) (pa_cons (pv 15) pa_nil))))))))
      (pss_one (ps_ret pe_bl))
      pss_nil)
    (pss_cons (ps_set (i := 16) sclaw.nd rfl (.inl rfl) (pe_call G_law_point.ok hr (by rfl) G_law_point.m G_law_point.kp G_law_point.b .nil pass0 (pa_cons (pv 1) (pa_cons pe_int pa_nil))))
    (pss_cons (ps_set (i := 17) sclaw.nd rfl (.inl rfl) (pv 16))
    (C8.pss_cut (ps_if (pt_cmpR op_eq (pe_call G_law_take.ok hr (by rfl) G_law_take.m G_law_take.kp G_law_take.b .nil pass0 (pa_cons (pv 1) (pa_cons pe_int pa_nil))) pe_int (nomark _))
      (pss_one (ps_set (i := 17) sclaw.nd rfl (.inl rfl) (pe_call G_law_point.ok hr (by rfl) G_law_point.m G_law_point.kp G_law_point.b .nil pass0 (pa_cons (pv 1) (pa_cons pe_int pa_nil)))))
      pss_nil)
    (pss_cons (ps_set (i := 18) sclaw.nd rfl (.inl rfl) (pe_tup (pa_cons (pe_op op_add (pe_ix ix_tup (pv 8) pe_int (fun _ _ => rfl)) (pe_ix ix_list (pe_lst (pa_cons (pe_ix ix_tup (pv 4) pe_int (fun _ _ => rfl)) (pa_cons (pe_ix ix_tup (pv 4) pe_int (fun _ _ => rfl)) (pa_cons (pe_op op_sub pe_int (pe_ix ix_tup (pv 4) pe_int (fun _ _ => rfl))) pa_nil)))) (pe_call G_law_take.ok hr (by rfl) G_law_take.m G_law_take.kp G_law_take.b .nil pass0 (pa_cons (pv 1) (pa_cons pe_int pa_nil))) (fun _ _ => rfl))) (pa_cons (pe_op op_add (pe_ix ix_tup (pv 8) pe_int (fun _ _ => rfl)) (pe_ix ix_list (pe_lst (pa_cons (pe_ix ix_tup (pv 4) pe_int (fun _ _ => rfl)) (pa_cons (pe_ix ix_tup (pv 4) pe_int (fun _ _ => rfl)) (pa_cons (pe_op op_sub pe_int (pe_ix ix_tup (pv 4) pe_int (fun _ _ => rfl))) pa_nil)))) (pe_call G_law_take.ok hr (by rfl) G_law_take.m G_law_take.kp G_law_take.b .nil pass0 (pa_cons (pv 1) (pa_cons pe_int pa_nil))) (fun _ _ => rfl))) pa_nil))))
    (C8.pss_cut (ps_if (pt_cmpR (op_eqD hr.units) (pv 18) (pv 8) (nomark _))
      (pss_one (ps_set (i := 18) sclaw.nd rfl (.inl rfl) (pe_tup (pa_cons (pe_op op_add (pe_ix ix_tup (pv 18) pe_int (fun _ _ => rfl)) pe_int) (pa_cons (pe_ix ix_tup (pv 18) pe_int (fun _ _ => rfl)) pa_nil)))))
      pss_nil)
    (pss_cons (ps_set (i := 19) sclaw.nd rfl (.inl rfl) (pe_tup (pa_cons pe_str (pa_cons (pe_call G_law_made_point.ok hr (by rfl) G_law_made_point.m G_law_made_point.kp G_law_made_point.b .nil pass0 (pa_cons (pv 16) pa_nil)) (pa_cons (pe_call G_law_made_point.ok hr (by rfl) G_law_made_point.m G_law_made_point.kp G_law_made_point.b .nil pass0 (pa_cons (pv 2) pa_nil)) (pa_cons (pe_call G_law_made_point.ok hr (by rfl) G_law_made_point.m G_law_made_point.kp G_law_made_point.b .nil pass0 (pa_cons (pv 3) pa_nil)) pa_nil))))))
    (pss_cons (ps_set (i := 20) sclaw.nd rfl (.inl rfl) (pe_tup (pa_cons pe_str (pa_cons (pe_call G_law_made_point.ok hr (by rfl) G_law_made_point.m G_law_made_point.kp G_law_made_point.b .nil pass0 (pa_cons (pv 17) pa_nil)) (pa_cons (pe_call G_law_made_point.ok hr (by rfl) G_law_made_point.m G_law_made_point.kp G_law_made_point.b .nil pass0 (pa_cons (pv 8) pa_nil)) (pa_cons (pe_call G_law_made_point.ok hr (by rfl) G_law_made_point.m G_law_made_point.kp G_law_made_point.b .nil pass0 (pa_cons (pv 18) pa_nil)) pa_nil))))))
    (pss_cons (ps_set (i := 21) sclaw.nd rfl (.inl rfl) (pe_op op_add (pe_op op_mulW (pe_op op_sub (pe_ix ix_tup (pv 18) pe_int (fun _ _ => rfl)) (pe_ix ix_tup (pv 8) pe_int (fun _ _ => rfl))) (pe_op op_sub (pe_ix ix_tup (pv 18) pe_int (fun _ _ => rfl)) (pe_ix ix_tup (pv 8) pe_int (fun _ _ => rfl)))) (pe_op op_mulW (pe_op op_sub (pe_ix ix_tup (pv 18) pe_int (fun _ _ => rfl)) (pe_ix ix_tup (pv 8) pe_int (fun _ _ => rfl))) (pe_op op_sub (pe_ix ix_tup (pv 18) pe_int (fun _ _ => rfl)) (pe_ix ix_tup (pv 8) pe_int (fun _ _ => rfl))))))
    (C8.pss_cut (ps_set (i := 15) sclaw.nd rfl (.inl rfl) (pe_and (pe_cmpR (op_eqD hr.units) (pv 16) (pv 17) (nomark _)) (pe_one (pe_cmpR op_eq (pv 21) (pe_op op_add (pe_op op_mulW (pe_ix ix_tup (pv 4) pe_int (fun _ _ => rfl)) (pe_ix ix_tup (pv 4) pe_int (fun _ _ => rfl))) (pe_op op_mulW (pe_ix ix_tup (pv 4) pe_int (fun _ _ => rfl)) (pe_ix ix_tup (pv 4) pe_int (fun _ _ => rfl)))) (nomark _)))))
    (pss_cons (ps_if (PW.pt (pw_or (pt_not (pt_val (pe_call G_law_says.ok hr (by rfl) G_law_says.m G_law_says.kp G_law_says.b .nil pass0 (pa_cons (pe_call Gsame.ok hr (by rfl) Gsame.m Gsame.kp Gsame.b .nil pass0 (pa_cons (pv 19) (pa_cons (pv 20) pa_nil))) (pa_cons (pv 15) pa_nil))))) (pw_or (pt_not (pt_val (pe_call G_law_says.ok hr (by rfl) G_law_says.m G_law_says.kp G_law_says.b .nil pass0 (pa_cons (pe_call Gsame.ok hr (by rfl) Gsame.m Gsame.kp Gsame.b .nil pass0 (pa_cons (pv 20) (pa_cons (pv 19) pa_nil))) (pa_cons (pv 15) pa_nil))))) (pw_or1 (pt_not (pt_val (pe_call Gsame.ok hr (by rfl) Gsame.m Gsame.kp Gsame.b .nil pass0 (pa_cons (pv 5) (pa_cons (pv 5) pa_nil)))))))))
      (pss_one (ps_ret pe_bl))
      pss_nil)
    (pss_cons (ps_for PassesOwn.never rfl (pi_list (pe_lst (pa_cons (pv 8) (pa_cons (pv 9) (pa_cons (pv 18) (pa_cons (pv 16) pa_nil)))))) (pg_name (i := 22) sclaw.nd rfl (.inl rfl))
      (pss_cons (ps_set (i := 23) sclaw.nd rfl (.inl rfl) (pe_call G_law_made_point.ok hr (by rfl) G_law_made_point.m G_law_made_point.kp G_law_made_point.b .nil pass0 (pa_cons (pv 22) pa_nil)))
      (pss_cons (ps_if (pt_not (pt_val (pe_call G_law_says.ok hr (by rfl) G_law_says.m G_law_says.kp G_law_says.b .nil pass0 (pa_cons (pe_call Glies_on.ok hr (by rfl) Glies_on.m Glies_on.kp Glies_on.b .nil pass0 (pa_cons (pv 23) (pa_cons (pv 5) pa_nil))) (pa_cons (pe_cmpR op_eq (pe_op op_add (pe_op op_mulW (pv 12) (pe_ix ix_tup (pv 22) pe_int (fun _ _ => rfl))) (pe_op op_mulW (pv 13) (pe_ix ix_tup (pv 22) pe_int (fun _ _ => rfl)))) (pv 14) (nomark _)) pa_nil)))))
        (pss_one (ps_ret pe_bl))
        pss_nil)
      (pss_cons (ps_set (i := 24) sclaw.nd rfl (.inl rfl) (pe_op op_add (pe_op op_mulW (pe_op op_sub (pe_ix ix_tup (pv 22) pe_int (fun _ _ => rfl)) (pe_ix ix_tup (pv 16) pe_int (fun _ _ => rfl))) (pe_op op_sub (pe_ix ix_tup (pv 22) pe_int (fun _ _ => rfl)) (pe_ix ix_tup (pv 16) pe_int (fun _ _ => rfl)))) (pe_op op_mulW (pe_op op_sub (pe_ix ix_tup (pv 22) pe_int (fun _ _ => rfl)) (pe_ix ix_tup (pv 16) pe_int (fun _ _ => rfl))) (pe_op op_sub (pe_ix ix_tup (pv 22) pe_int (fun _ _ => rfl)) (pe_ix ix_tup (pv 16) pe_int (fun _ _ => rfl))))))
      (pss_one (ps_if (pt_not (pt_val (pe_call G_law_says.ok hr (by rfl) G_law_says.m G_law_says.kp G_law_says.b .nil pass0 (pa_cons (pe_call Glies_on.ok hr (by rfl) Glies_on.m Glies_on.kp Glies_on.b .nil pass0 (pa_cons (pv 23) (pa_cons (pv 19) pa_nil))) (pa_cons (pe_cmpR op_eq (pv 24) (pe_op op_add (pe_op op_mulW (pe_ix ix_tup (pv 4) pe_int (fun _ _ => rfl)) (pe_ix ix_tup (pv 4) pe_int (fun _ _ => rfl))) (pe_op op_mulW (pe_ix ix_tup (pv 4) pe_int (fun _ _ => rfl)) (pe_ix ix_tup (pv 4) pe_int (fun _ _ => rfl)))) (nomark _)) pa_nil)))))
        (pss_one (ps_ret pe_bl))
        pss_nil))))))
    (pss_cons (ps_set (i := 25) sclaw.nd rfl (.inl rfl) (pe_tup (pa_cons (pe_op op_add (pe_ix ix_tup (pv 16) pe_int (fun _ _ => rfl)) (pe_ix ix_tup (pv 4) pe_int (fun _ _ => rfl))) (pa_cons (pe_op op_sub (pe_ix ix_tup (pv 16) pe_int (fun _ _ => rfl)) (pe_ix ix_tup (pv 4) pe_int (fun _ _ => rfl))) pa_nil))))
    (pss_cons (ps_if (pt_cmpR op_notBl (pe_call Glies_on.ok hr (by rfl) Glies_on.m Glies_on.kp Glies_on.b .nil pass0 (pa_cons (pe_call G_law_made_point.ok hr (by rfl) G_law_made_point.m G_law_made_point.kp G_law_made_point.b .nil pass0 (pa_cons (pv 25) pa_nil)) (pa_cons (pv 19) pa_nil))) pe_bl (nomark _))
      (pss_one (ps_ret pe_bl))
      pss_nil)
    (pss_one (ps_ret (pe_and (pe_cmpR op_isBl (pe_call Gsame.ok hr (by rfl) Gsame.m Gsame.kp Gsame.b .nil pass0 (pa_cons (pv 19) (pa_cons (pv 5) pa_nil))) pe_bl (nomark _)) (pe_one (pe_cmpR op_isBl (pe_call Gsame.ok hr (by rfl) Gsame.m Gsame.kp Gsame.b .nil pass0 (pa_cons (pv 5) (pa_cons (pv 19) pa_nil))) pe_bl (nomark _))))))))))))))))))))))))))))))))))), ?_⟩
  have lgN : ∀ n : Int, n.natAbs < 2 ^ 110 → n.natAbs.log2 < 9000 := fun n h => log_small (n := 110) h (by decide) (by decide)
  rw [st_law]
  refine ⟨_, rfl, a, ns, rfl, hS, h63, fun H1 p s1 hp X1 _ => ?_⟩
  refine ⟨_, rfl, p, a, ns, 20, rfl, X1, seqO hS hp s1, by decide, by decide, fun H2 t q1 q2 x1 y1 x2 y2 b2 X2 ht h1 h2 l1 l2 l3 l4 hne => ?_⟩
  have sm2 := same_but s1 b2 hp
  have lx1 := l1.1; have lx1' := l1.2; have ly1 := l2.1; have ly1' := l2.2
  have lx2 := l3.1; have lx2' := l3.2; have ly2 := l4.1; have ly2' := l4.2
  refine ⟨t, _, rfl, SqT.of ht, rfl, _, _, rfl, _, _, rfl, rfl, ?_⟩
  refine ⟨_, rfl, q2, _, _, _, rfl, rfl, SqT.of h2, atI_nat (j := 0) rfl, _, rfl, q1, _, _, _, rfl, rfl, SqT.of h1, atI_nat (j := 0) rfl, _, _, rfl, rfl, _, rfl, q2, _, _, _, rfl, rfl, SqT.of h2, atI_nat (j := 1) rfl, _, rfl, q1, _, _, _, rfl, rfl, SqT.of h1, atI_nat (j := 1) rfl, _, _, rfl, rfl, (by show 2 ≤ sizeLine; decide), fun wd nwd => ?_⟩
  have S3 := same_new nwd (.tup [V.int (x2 - x1), .int (y2 - y1)])
  have hw3 : IPt (upd H2 wd (.tup [V.int (x2 - x1), .int (y2 - y1)])) wd (x2 - x1) (y2 - y1) := upd_same
  refine ⟨_, rfl, q1, x1, y1, rfl, h1.same S3, fun H4 n1 s4 N1 => ⟨_, rfl, q2, x2, y2, rfl, (h2.same S3).same s4, fun H5 n2 s5 N2 => ⟨(by show 3 ≤ sizeLine; decide), fun f1 nf1 => ?_⟩⟩⟩
  have S6 := same_new nf1 (.tup [V.str "line", .ref n1, .ref n2])
  have SS := S3.trans (s4.trans (s5.trans S6))
  have B6 : Bs CN a p ns H q1 q2 wd f1 x1 y1 x2 y2 (upd H5 f1 (.tup [V.str "line", .ref n1, .ref n2])) := ⟨sm2.trans SS, X2.same SS, h1.same SS, h2.same SS, hw3.same (s4.trans (s5.trans S6)), [.ref n1, .ref n2], upd_same, row_two ((N1.same s5).same S6) (N2.same S6)⟩
  generalize (upd H5 f1 (.tup [V.str "line", .ref n1, .ref n2])) = H6 at B6
  clear hw3 N1 N2 S3 s4 s5 S6 SS ht h1 h2 X1 X2
  refine ⟨_, rfl, p, a, ns, _, rfl, B6.2.1, seqO hS hp B6.1, by decide, lgN _ (by decide), fun d1 H7 d10 d11 X7 b7 => ⟨_, _, rfl, rfl, ?_⟩⟩
  have B7 := B6.but hp X7 b7
  obtain ⟨st, est⟩ : ∃ st, d1 - 4 = st := ⟨_, rfl⟩
  rw [show (fun i j => V.int (i - j)) d1 4 = V.int st from congrArg V.int est]
  refine ⟨_, rfl, p, a, ns, _, rfl, B7.2.1, seqO hS hp B7.1, by decide, lgN _ (by decide), fun d2 H8 d20 d21 X8 b8 => ⟨_, _, rfl, rfl, ?_⟩⟩
  have B8 := B7.but hp X8 b8
  obtain ⟨sp, esp⟩ : ∃ sp, 1 + d2 = sp := ⟨_, rfl⟩
  rw [show (fun i j => V.int (i + j)) 1 d2 = V.int sp from congrArg V.int esp]
  have w4 : ∀ {c : Int} {z : Int}, c.natAbs ≤ 4 → z.natAbs ≤ 41 → CMulW c z := fun h k => Sm.wide (Nat.lt_of_le_of_lt h (by decide +kernel)) (Nat.lt_of_le_of_lt k (by decide +kernel))
  have bwx : (x2 - x1).natAbs ≤ 41 := by omega
  have bwy : (y2 - y1).natAbs ≤ 41 := by omega
  have bst : st.natAbs ≤ 4 := by omega
  have bsp : sp.natAbs ≤ 4 := by omega
  have m1 := lm_mul bst bwx
  have m2 := lm_mul bst bwy
  have m3 := lm_mul bsp bwx
  have m4 := lm_mul bsp bwy
  obtain ⟨g1, g2, g3, g4, g5, g6⟩ := id B8
  refine ⟨_, rfl, q1, _, _, _, rfl, rfl, SqT.of g3, atI_nat (j := 0) rfl, _, rfl, _, rfl, wd, _, _, _, rfl, rfl, SqT.of g5, atI_nat (j := 0) rfl, _, _, rfl, rfl, w4 bst bwx, _, _, rfl, rfl, _, rfl, q1, _, _, _, rfl, rfl, SqT.of g3, atI_nat (j := 1) rfl, _, rfl, _, rfl, wd, _, _, _, rfl, rfl, SqT.of g5, atI_nat (j := 1) rfl, _, _, rfl, rfl, w4 bst bwy, _, _, rfl, rfl, (by show 2 ≤ sizeLine; decide), fun t3 nt3 => ?_⟩
  obtain ⟨x3, ex3⟩ : ∃ x3, x1 + st * (x2 - x1) = x3 := ⟨_, rfl⟩
  obtain ⟨y3, ey3⟩ : ∃ y3, y1 + st * (y2 - y1) = y3 := ⟨_, rfl⟩
  have B9 := B8.same (same_new nt3 (.tup [V.int (x1 + st * (x2 - x1)), .int (y1 + st * (y2 - y1))]))
  have h3 : IPt (upd H8 t3 (.tup [V.int (x1 + st * (x2 - x1)), .int (y1 + st * (y2 - y1))])) t3 x3 y3 := by rw [← ex3, ← ey3]; exact upd_same
  have c3 : x3.natAbs ≤ 184 ∧ y3.natAbs ≤ 184 := ⟨by omega, by omega⟩
  generalize (upd H8 t3 (.tup [V.int (x1 + st * (x2 - x1)), .int (y1 + st * (y2 - y1))])) = H9 at B9 h3
  obtain ⟨g1, g2, g3, g4, g5, g6⟩ := id B9
  refine ⟨_, rfl, t3, _, _, _, rfl, rfl, SqT.of h3, atI_nat (j := 0) rfl, _, rfl, _, rfl, wd, _, _, _, rfl, rfl, SqT.of g5, atI_nat (j := 0) rfl, _, _, rfl, rfl, w4 bsp bwx, _, _, rfl, rfl, _, rfl, t3, _, _, _, rfl, rfl, SqT.of h3, atI_nat (j := 1) rfl, _, rfl, _, rfl, wd, _, _, _, rfl, rfl, SqT.of g5, atI_nat (j := 1) rfl, _, _, rfl, rfl, w4 bsp bwy, _, _, rfl, rfl, (by show 2 ≤ sizeLine; decide), fun t4 nt4 => ?_⟩
  obtain ⟨x4, ex4⟩ : ∃ x4, x3 - sp * (x2 - x1) = x4 := ⟨_, rfl⟩
  obtain ⟨y4, ey4⟩ : ∃ y4, y3 - sp * (y2 - y1) = y4 := ⟨_, rfl⟩
  have S10 := same_new nt4 (.tup [V.int (x3 - sp * (x2 - x1)), .int (y3 - sp * (y2 - y1))])
  have B10 := B9.same S10
  have h3' := h3.same S10
  have h4 : IPt (upd H9 t4 (.tup [V.int (x3 - sp * (x2 - x1)), .int (y3 - sp * (y2 - y1))])) t4 x4 y4 := by rw [← ex4, ← ey4]; exact upd_same
  have c4 : x4.natAbs ≤ 348 ∧ y4.natAbs ≤ 348 := ⟨by omega, by omega⟩
  generalize (upd H9 t4 (.tup [V.int (x3 - sp * (x2 - x1)), .int (y3 - sp * (y2 - y1))])) = H10 at B10 h3' h4
  refine ⟨_, rfl, p, a, ns, _, rfl, B10.2.1, seqO hS hp B10.1, by decide, lgN _ (by decide), fun d3 H11 d30 d31 X11 b11 => ?_⟩
  have B11 := B10.but hp X11 b11
  have k11 := kept_but B10.2.1 b11
  have h3 := h3'.kept k11
  have h4 := h4.kept k11
  -- kind 1
  refine ⟨fun σ H' => ∃ (t3 : Addr) (x3 y3 : Int), σ = [some (.ref a), some (.ref p), some (.ref q1), some (.ref q2), some (.ref wd), some (.ref f1), some (.int st), some (.int sp), some (.ref t3), some (.ref t4), some (.int d3), none, none, none, none, none, none, none, none, none, none, none, none, none, none, none] ∧ Bs CN a p ns H q1 q2 wd f1 x1 y1 x2 y2 H' ∧ IPt H' t3 x3 y3 ∧ IPt H' t4 x4 y4 ∧ x3.natAbs ≤ 185 ∧ y3.natAbs ≤ 185,
    ⟨_, rfl, rfl, _, rfl, ite2 (fun c => ?_) (fun c => ?_)⟩, ?_⟩
  · refine ⟨_, rfl, t3, _, _, _, rfl, rfl, SqT.of h3, atI_nat (j := 0) rfl, _, rfl, p, a, ns, _, rfl, B11.2.1, seqO hS hp B11.1, by decide, lgN _ (by decide), fun e1 H12 e10 e11 X12 b12 => ?_⟩
    have B12 := B11.but hp X12 b12
    have k12 := kept_but B11.2.1 b12
    refine ⟨_, _, rfl, rfl, _, _, rfl, rfl, _, rfl, t3, _, _, _, rfl, rfl, SqT.of (h3.kept k12), atI_nat (j := 1) rfl, _, rfl, p, a, ns, _, rfl, B12.2.1, seqO hS hp B12.1, by decide, lgN _ (by decide), fun e2 H13 e20 e21 X13 b13 => ?_⟩
    have B13 := B12.but hp X13 b13
    have k13 := kept_but B12.2.1 b13
    refine ⟨_, _, rfl, rfl, _, _, rfl, rfl, (by show 2 ≤ sizeLine; decide), fun t3' nt => ?_⟩
    have S14 := same_new nt (.tup [V.int (x3 + e1 - 1), .int (y3 + e2 - 1)])
    exact ⟨t3', x3 + e1 - 1, y3 + e2 - 1, rfl, B13.same S14, upd_same, ((h4.kept k12).kept k13).same S14, by omega, by omega⟩
  · exact ⟨t3, x3, y3, rfl, B11, h3, h4, by omega, by omega⟩
  clear h3' h3 h4 c3 B9 B10 ex3 ey3 ex4 ey4 g1 g2 g3 g4 g5 g6 k11
  rintro σ H12 ⟨t3, x3, y3, rfl, B12, h3, h4, b3, b3'⟩
  -- kind 2
  refine ⟨fun σ H' => ∃ (t3 t4 : Addr) (x3 y3 x4 y4 : Int), σ = [some (.ref a), some (.ref p), some (.ref q1), some (.ref q2), some (.ref wd), some (.ref f1), some (.int st), some (.int sp), some (.ref t3), some (.ref t4), some (.int d3), none, none, none, none, none, none, none, none, none, none, none, none, none, none, none] ∧ Bs CN a p ns H q1 q2 wd f1 x1 y1 x2 y2 H' ∧ IPt H' t3 x3 y3 ∧ IPt H' t4 x4 y4 ∧ x3.natAbs ≤ 348 ∧ y3.natAbs ≤ 348 ∧ x4.natAbs ≤ 348 ∧ y4.natAbs ≤ 348,
    ⟨_, rfl, rfl, _, rfl, ite2 (fun c => ?_) (fun c => ?_)⟩, ?_⟩
  · refine ⟨_, rfl, p, a, ns, 3, rfl, B12.2.1, seqO hS hp B12.1, by decide, by decide, fun H13 t r s u v u' v' b13 X13 ht hr hs l1 l2 l3 l4 hne => ?_⟩
    refine ⟨t, _, rfl, SqT.of ht, rfl, _, _, rfl, _, _, rfl, rfl, ?_⟩
    obtain ⟨z1, z2⟩ := l1; obtain ⟨z3, z4⟩ := l2; obtain ⟨z5, z6⟩ := l3; obtain ⟨z7, z8⟩ := l4
    exact ⟨r, s, u, v, u', v', rfl, B12.but hp X13 b13, hr, hs, by omega, by omega, by omega, by omega⟩
  · exact ⟨t3, t4, x3, y3, _, _, rfl, B12, h3, h4, by omega, by omega, by omega, by omega⟩
  clear h3 h4 b3 b3' m1 m2 m3 m4 c4
  rintro σ H13 ⟨t3, t4, x3, y3, x4, y4, rfl, B13, h3, h4, c1, c2, c3, c4⟩
  refine ⟨fun σ H' => ∃ (t4 : Addr) (x4 y4 : Int), σ = [some (.ref a), some (.ref p), some (.ref q1), some (.ref q2), some (.ref wd), some (.ref f1), some (.int st), some (.int sp), some (.ref t3), some (.ref t4), some (.int d3), none, none, none, none, none, none, none, none, none, none, none, none, none, none, none] ∧ Bs CN a p ns H q1 q2 wd f1 x1 y1 x2 y2 H' ∧ IPt H' t3 x3 y3 ∧ IPt H' t4 x4 y4 ∧ ¬ (x3 = x4 ∧ y3 = y4) ∧ x4.natAbs ≤ 348 ∧ y4.natAbs ≤ 349,
    ⟨_, rfl, _, rfl, _, _, dp_pt h3, dp_pt h4, pt_shaped _ _, pt_shaped _ _, _, rfl, ite2 (fun c => ?_) (fun c => ?_)⟩, ?_⟩
  · rw [pt_eqv] at c
    refine ⟨_, rfl, t4, _, _, _, rfl, rfl, SqT.of h4, atI_nat (j := 0) rfl, _, rfl, t4, _, _, _, rfl, rfl, SqT.of h4, atI_nat (j := 1) rfl, _, _, rfl, rfl, (by show 2 ≤ sizeLine; decide), fun t nt => ?_⟩
    have S := same_new nt (.tup [V.int x4, .int (y4 + 1)])
    exact ⟨t, x4, y4 + 1, rfl, B13.same S, h3.same S, upd_same, fun z => by have := c.2; have := z.2; omega, by omega, by omega⟩
  · exact ⟨t4, x4, y4, rfl, B13, h3, h4, fun z => c ((pt_eqv _ _ _ _).mpr z), by omega, by omega⟩
  clear h4 c3 c4 h3
  rintro σ H14 ⟨t4, x4, y4, rfl, B14, h3, h4, hne2, c3, c4⟩
  have z1 := s20_of (n := x1) (by omega)
  have z2 := s20_of (n := y1) (by omega)
  have z3 := s20_of (n := x2) (by omega)
  have z4 := s20_of (n := y2) (by omega)
  have z5 := s20_of (n := x3) (by omega)
  have z6 := s20_of (n := y3) (by omega)
  have z7 := s20_of (n := x4) (by omega)
  have z8 := s20_of (n := y4) (by omega)
  -- second
  refine ⟨_, rfl, t3, x3, y3, rfl, h3, fun H15 n3 s15 N3 => ⟨_, rfl, t4, x4, y4, rfl, h4.same s15, fun H16 n4 s16 N4 => ⟨(by show 3 ≤ sizeLine; decide), fun f2 nf2 => ?_⟩⟩⟩
  have S17 := same_new nf2 (.tup [V.str "line", .ref n3, .ref n4])
  have SS := s15.trans (s16.trans S17)
  have B17 := B14.same SS
  have C17 : Cs CN t3 t4 f2 x3 y3 x4 y4 (upd H16 f2 (.tup [V.str "line", .ref n3, .ref n4])) := ⟨h3.same SS, h4.same SS, [.ref n3, .ref n4], upd_same, row_two ((N3.same s16).same S17) (N4.same S17)⟩
  generalize (upd H16 f2 (.tup [V.str "line", .ref n3, .ref n4])) = H17 at B17 C17
  clear N3 N4 S17 SS s15 s16 h3 h4
  -- a, b, c
  refine ⟨_, rfl, _, rfl, q1, q2, x1, y1, x2, y2, rfl, B17.2.2.1, B17.2.2.2.1, z1, z2, z3, z4, fun H18 t s18 ht => ⟨t, _, rfl, SqT.of ht, rfl, _, _, rfl, _, _, rfl, _, _, rfl, rfl, ?_⟩⟩
  have B18 := B17.same s18
  have C18 := C17.kept (.of s18)
  clear ht
  obtain ⟨la, ela⟩ : ∃ la, y2 - y1 = la := ⟨_, rfl⟩
  obtain ⟨lb, elb⟩ : ∃ lb, x1 - x2 = lb := ⟨_, rfl⟩
  rw [ela, elb]
  obtain ⟨lc, elc⟩ : ∃ lc, la * x1 + lb * y1 = lc := ⟨_, rfl⟩
  rw [elc]
  have sla : Sm la := by rw [← ela]; exact (z4.sub z2).sm
  have slb : Sm lb := by rw [← elb]; exact (z1.sub z3).sm
  -- due
  refine ⟨fun σ H' => ∃ due : Bool, σ = [some (.ref a), some (.ref p), some (.ref q1), some (.ref q2), some (.ref wd), some (.ref f1), some (.int st), some (.int sp), some (.ref t3), some (.ref t4), some (.int d3), some (.ref f2), some (.int la), some (.int lb), some (.int lc), some (.bl due), none, none, none, none, none, none, none, none, none, none] ∧ H' = H18 ∧ (due = true ↔ (la * x3 + lb * y3 = lc ∧ la * x4 + lb * y4 = lc)), ?_, ?_⟩
  · refine ⟨_, rfl, _, rfl, t3, _, _, _, rfl, rfl, SqT.of C18.1, atI_nat (j := 0) rfl, _, _, rfl, rfl, sla.wide z5.s48.sm, _, rfl, _, rfl, t3, _, _, _, rfl, rfl, SqT.of C18.1, atI_nat (j := 1) rfl, _, _, rfl, rfl, slb.wide z6.s48.sm, _, _, rfl, rfl, _, rfl, rfl, _, rfl, ite2 (fun c => ?_) (fun c => ?_)⟩
    · have c := V.int.inj (of_decide_eq_true c)
      refine ⟨_, rfl, _, rfl, t4, _, _, _, rfl, rfl, SqT.of C18.2.1, atI_nat (j := 0) rfl, _, _, rfl, rfl, sla.wide z7.s48.sm, _, rfl, _, rfl, t4, _, _, _, rfl, rfl, SqT.of C18.2.1, atI_nat (j := 1) rfl, _, _, rfl, rfl, slb.wide z8.s48.sm, _, _, rfl, rfl, _, rfl, rfl, ?_⟩
      refine ⟨_, rfl, rfl, ?_⟩
      rw [decide_eq_true_iff]
      exact ⟨fun h => ⟨c, V.int.inj h⟩, fun h => congrArg V.int h.2⟩
    · refine ⟨_, rfl, rfl, ?_⟩
      exact ⟨fun h => (by cases h), fun h => absurd (decide_eq_true (congrArg V.int h.1)) c⟩
  rintro σ H' ⟨due, rfl, rfl, hdue⟩
  have hsame := same_line (x1 := x1) (y1 := y1) (x2 := x2) (y2 := y2) hne2
  rw [ela, elb, elc] at hsame
  have gs1 := fg_sm2 z1 z2 z3 z4
  have gs2 := fg_sm2 z5 z6 z7 z8
  refine ⟨_, rfl, _, rfl, f1, f2, _, _, rfl, B18.2.2.2.2.2, C18.2.2, gs1, gs2, fun H19 r s19 hr19 => ⟨_, rfl, r, due, rfl, fun H20 s20 => ⟨_, rfl, iteF' (by rw [bool_eq (hr19.trans hsame) hdue]; simp) ?_⟩⟩⟩
  have SS := s19.trans s20
  have B20 := B18.same SS
  have C20 := C18.kept (.of SS)
  clear s19 s20 SS
  refine ⟨_, rfl, _, rfl, f2, f1, _, _, rfl, C20.2.2, B20.2.2.2.2.2, gs2, gs1, fun H21 r2 s21 hr21 => ⟨_, rfl, r2, due, rfl, fun H22 s22 => ⟨_, rfl, iteF' (by rw [bool_eq ((hr21.trans same_swap).trans hsame) hdue]; simp) ?_⟩⟩⟩
  have SS := s21.trans s22
  have B22 := B20.same SS
  have C22 := C20.kept (.of SS)
  clear s21 s22 SS B20 C20 B18 C18 B17 C17
  -- centre, other
  refine ⟨_, rfl, p, a, ns, 5, rfl, B22.2.1, seqO hS hp B22.1, by decide, by decide, fun H23 cq cx cy b23 X23 hc lcx lcy => ?_⟩
  have k23 := kept_but B22.2.1 b23
  have B23 := B22.but hp X23 b23
  have C23 := C22.kept k23
  obtain ⟨v1, v2⟩ := lcx
  obtain ⟨v3, v4⟩ := lcy
  refine ⟨_, rfl, ?_⟩
  refine ⟨fun σ H' => ∃ (oq : Addr) (ox oy : Int), σ = [some (.ref a), some (.ref p), some (.ref q1), some (.ref q2), some (.ref wd), some (.ref f1), some (.int st), some (.int sp), some (.ref t3), some (.ref t4), some (.int d3), some (.ref f2), some (.int la), some (.int lb), some (.int lc), some (.bl due), some (.ref cq), some (.ref oq), none, none, none, none, none, none, none, none] ∧ Bs CN a p ns H q1 q2 wd f1 x1 y1 x2 y2 H' ∧ Cs CN t3 t4 f2 x3 y3 x4 y4 H' ∧ IPt H' cq cx cy ∧ IPt H' oq ox oy ∧ ox.natAbs ≤ 5 ∧ oy.natAbs ≤ 5,
    ⟨_, rfl, p, a, ns, _, rfl, B23.2.1, seqO hS hp B23.1, by decide, lgN _ (by decide), fun d4 H24 d40 d41 X24 b24 => ⟨rfl, _, rfl, ite2 (fun c => ?_) (fun c => ?_)⟩⟩, ?_⟩
  · have k24 := kept_but B23.2.1 b24
    have B24 := B23.but hp X24 b24
    refine ⟨_, rfl, p, a, ns, 5, rfl, B24.2.1, seqO hS hp B24.1, by decide, by decide, fun H25 oq ox oy b25 X25 ho lox loy => ?_⟩
    have k25 := kept_but B24.2.1 b25
    obtain ⟨w1, w2⟩ := lox
    obtain ⟨w3, w4'⟩ := loy
    exact ⟨oq, ox, oy, rfl, B24.but hp X25 b25, (C23.kept k24).kept k25, (hc.kept k24).kept k25, ho, by omega, by omega⟩
  · have k24 := kept_but B23.2.1 b24
    exact ⟨cq, cx, cy, rfl, B23.but hp X24 b24, C23.kept k24, hc.kept k24, hc.kept k24, by omega, by omega⟩
  clear k23 B23 C23 B22 C22 hc
  rintro σ H25 ⟨oq, ox, oy, rfl, B25, C25, hc, ho, u1, u2⟩
  -- far
  have item : ∀ (wx wy : Int), wx.natAbs ≤ 41 → wy.natAbs ≤ 41 → ∀ d : Int, 0 ≤ d → d < 3 → ∃ z : Int, atI [V.int wy, .int wx, .int (0 - wx)] d = some (.int z) ∧ z.natAbs ≤ 41 := fun wx wy h1 h2 d h3 h4 => by
    rcases (by omega : d = 0 ∨ d = 1 ∨ d = 2) with rfl | rfl | rfl
    · exact ⟨wy, rfl, h2⟩
    · exact ⟨wx, rfl, h1⟩
    · exact ⟨0 - wx, rfl, by omega⟩
  have hw := B25.2.2.2.2.1
  refine ⟨_, rfl, t3, _, _, _, rfl, rfl, SqT.of C25.1, atI_nat (j := 0) rfl, _, rfl, wd, _, _, _, rfl, rfl, SqT.of hw, atI_nat (j := 1) rfl, _, rfl, wd, _, _, _, rfl, rfl, SqT.of hw, atI_nat (j := 0) rfl, _, rfl, wd, _, _, _, rfl, rfl, SqT.of hw, atI_nat (j := 0) rfl, _, _, rfl, rfl, (by show 3 ≤ sizeLine; decide), fun i1 ni1 => ?_⟩
  have S26 := same_new ni1 (.lst [V.int (y2 - y1), .int (x2 - x1), .int (0 - (x2 - x1))])
  have B26 := B25.same S26
  have ip : i1 ≠ p := B25.2.1.ne ni1
  refine ⟨_, rfl, p, a, ns, _, rfl, B26.2.1, seqO hS hp B26.1, by decide, lgN _ (by decide), fun d5 H27 d50 d51 X27 b27 => ?_⟩
  obtain ⟨w1, hw1, bw1⟩ := item (x2 - x1) (y2 - y1) bwx bwy d5 d50 d51
  have k27 := kept_but B26.2.1 b27
  have B27 := B26.but hp X27 b27
  have C27 := (C25.kept (.of S26)).kept k27
  have hc27 := (hc.kept (.of S26)).kept k27
  have ho27 := (ho.kept (.of S26)).kept k27
  refine ⟨i1, _, _, _, rfl, rfl, SqL.of (b27 _ _ ip upd_same), hw1, _, _, rfl, rfl, ?_⟩
  have hw := B27.2.2.2.2.1
  refine ⟨_, rfl, t3, _, _, _, rfl, rfl, SqT.of C27.1, atI_nat (j := 1) rfl, _, rfl, wd, _, _, _, rfl, rfl, SqT.of hw, atI_nat (j := 0) rfl, _, rfl, wd, _, _, _, rfl, rfl, SqT.of hw, atI_nat (j := 1) rfl, _, rfl, wd, _, _, _, rfl, rfl, SqT.of hw, atI_nat (j := 1) rfl, _, _, rfl, rfl, (by show 3 ≤ sizeLine; decide), fun i2 ni2 => ?_⟩
  have S28 := same_new ni2 (.lst [V.int (x2 - x1), .int (y2 - y1), .int (0 - (y2 - y1))])
  have B28 := B27.same S28
  have ip2 : i2 ≠ p := B27.2.1.ne ni2
  refine ⟨_, rfl, p, a, ns, _, rfl, B28.2.1, seqO hS hp B28.1, by decide, lgN _ (by decide), fun d6 H29 d60 d61 X29 b29 => ?_⟩
  obtain ⟨w2, hw2, bw2⟩ := item (y2 - y1) (x2 - x1) bwy bwx d6 d60 d61
  have k29 := kept_but B28.2.1 b29
  have B29 := B28.but hp X29 b29
  have C29 := (C27.kept (.of S28)).kept k29
  have hc29 := (hc27.kept (.of S28)).kept k29
  have ho29 := (ho27.kept (.of S28)).kept k29
  refine ⟨i2, _, _, _, rfl, rfl, SqL.of (b29 _ _ ip2 upd_same), hw2, _, _, rfl, rfl, (by show 2 ≤ sizeLine; decide), fun fq nfq => ?_⟩
  have S30 := same_new nfq (.tup [V.int (x3 + w1), .int (y3 + w2)])
  have B30 := B29.same S30
  have C30 := C29.kept (.of S30)
  have hc30 := hc29.kept (.of S30)
  have ho30 := ho29.kept (.of S30)
  obtain ⟨fx, efx⟩ : ∃ fx, x3 + w1 = fx := ⟨_, rfl⟩
  obtain ⟨fy, efy⟩ : ∃ fy, y3 + w2 = fy := ⟨_, rfl⟩
  have bfx : fx.natAbs ≤ 400 := by rw [← efx]; exact nb_add c1 bw1 (by decide)
  have bfy : fy.natAbs ≤ 400 := by rw [← efy]; exact nb_add c2 bw2 (by decide)
  have hf30 : IPt (upd H29 fq (.tup [V.int (x3 + w1), .int (y3 + w2)])) fq fx fy := by rw [← efx, ← efy]; exact upd_same
  generalize (upd H29 fq (.tup [V.int (x3 + w1), .int (y3 + w2)])) = H30 at B30 C30 hc30 ho30 hf30
  clear B29 C29 hc29 ho29 B28 B27 C27 hc27 ho27 B26 B25 C25 hc ho hw k29 k27 hw1 hw2 efx efy S30
  refine ⟨fun σ H' => ∃ (fq : Addr) (fx fy : Int), σ = [some (.ref a), some (.ref p), some (.ref q1), some (.ref q2), some (.ref wd), some (.ref f1), some (.int st), some (.int sp), some (.ref t3), some (.ref t4), some (.int d3), some (.ref f2), some (.int la), some (.int lb), some (.int lc), some (.bl due), some (.ref cq), some (.ref oq), some (.ref fq), none, none, none, none, none, none, none] ∧ Bs CN a p ns H q1 q2 wd f1 x1 y1 x2 y2 H' ∧ Cs CN t3 t4 f2 x3 y3 x4 y4 H' ∧ IPt H' cq cx cy ∧ IPt H' oq ox oy ∧ IPt H' fq fx fy ∧ fx.natAbs ≤ 401 ∧ fy.natAbs ≤ 401,
    ⟨_, rfl, _, rfl, _, _, dp_pt hf30, dp_pt C30.1, pt_shaped _ _, pt_shaped _ _, _, rfl, ite2 (fun c => ?_) (fun c => ?_)⟩, ?_⟩
  · refine ⟨_, rfl, fq, _, _, _, rfl, rfl, SqT.of hf30, atI_nat (j := 0) rfl, _, _, rfl, rfl, _, rfl, fq, _, _, _, rfl, rfl, SqT.of hf30, atI_nat (j := 1) rfl, (by show 2 ≤ sizeLine; decide), fun t nt => ?_⟩
    have S := same_new nt (.tup [V.int (fx + 1), .int fy])
    exact ⟨t, fx + 1, fy, rfl, B30.same S, C30.kept (.of S), hc30.kept (.of S), ho30.kept (.of S), upd_same, nb_add (b := 1) (n := 1) bfx (by decide) (by decide), Nat.le_trans bfy (by decide)⟩
  · exact ⟨fq, fx, fy, rfl, B30, C30, hc30, ho30, hf30, Nat.le_trans bfx (by decide), Nat.le_trans bfy (by decide)⟩
  clear B30 C30 hc30 ho30 hf30 bfx bfy
  rintro σ H31 ⟨fq, fx, fy, rfl, B31, C31, hc, ho, hf, bfx, bfy⟩
  have zc := s20_of (n := cx) (nb_iv v1 v2 (by decide))
  have zc' := s20_of (n := cy) (nb_iv v3 v4 (by decide))
  have zo := s20_of (n := ox) (Nat.le_trans u1 (by decide))
  have zo' := s20_of (n := oy) (Nat.le_trans u2 (by decide))
  have zf := s20_of (n := fx) (Nat.le_trans bfx (by decide))
  have zf' := s20_of (n := fy) (Nat.le_trans bfy (by decide))
  -- ring, hoop
  refine ⟨_, rfl, cq, cx, cy, rfl, hc, fun H32 m1 s32 M1 => ⟨_, rfl, q1, x1, y1, rfl, B31.2.2.1.same s32, fun H33 m2 s33 M2 => ⟨_, rfl, q2, x2, y2, rfl, B31.2.2.2.1.same (s32.trans s33), fun H34 m3 s34 M3 => ⟨(by show 4 ≤ sizeLine; decide), fun rg nrg => ?_⟩⟩⟩⟩
  have S35 := same_new nrg (.tup [V.str "circle", .ref m1, .ref m2, .ref m3])
  have SS := s32.trans (s33.trans (s34.trans S35))
  have B35 := B31.same SS
  have C35 := C31.kept (.of SS)
  have hc35 := hc.same SS
  have ho35 := ho.same SS
  have hf35 := hf.same SS
  have R35 : FgAt CN (upd H34 rg (.tup [V.str "circle", .ref m1, .ref m2, .ref m3])) rg (.circ cx cy x1 y1 x2 y2) := ⟨[.ref m1, .ref m2, .ref m3], upd_same, row_three (M1.same (s33.trans (s34.trans S35))) (M2.same (s34.trans S35)) (M3.same S35)⟩
  generalize (upd H34 rg (.tup [V.str "circle", .ref m1, .ref m2, .ref m3])) = H35 at B35 C35 hc35 ho35 hf35 R35
  clear M1 M2 M3 S35 SS s32 s33 s34 B31 C31 hc ho hf
  refine ⟨_, rfl, oq, ox, oy, rfl, ho35, fun H36 m4 s36 M4 => ⟨_, rfl, t3, x3, y3, rfl, C35.1.same s36, fun H37 m5 s37 M5 => ⟨_, rfl, fq, fx, fy, rfl, hf35.same (s36.trans s37), fun H38 m6 s38 M6 => ⟨(by show 4 ≤ sizeLine; decide), fun hg nhg => ?_⟩⟩⟩⟩
  have S39 := same_new nhg (.tup [V.str "circle", .ref m4, .ref m5, .ref m6])
  have SS := s36.trans (s37.trans (s38.trans S39))
  have B39 := B35.same SS
  have C39 := C35.kept (.of SS)
  have D39 : Ds CN cq oq fq rg hg cx cy ox oy fx fy x1 y1 x2 y2 x3 y3 (upd H38 hg (.tup [V.str "circle", .ref m4, .ref m5, .ref m6])) := ⟨hc35.same SS, ho35.same SS, hf35.same SS, R35.same SS, [.ref m4, .ref m5, .ref m6], upd_same, row_three (M4.same (s37.trans (s38.trans S39))) (M5.same (s38.trans S39)) (M6.same S39)⟩
  generalize (upd H38 hg (.tup [V.str "circle", .ref m4, .ref m5, .ref m6])) = H39 at B39 C39 D39
  clear M4 M5 M6 S39 SS s36 s37 s38 B35 C35 hc35 ho35 hf35 R35
  have wfx : CMulW (fx - x3) (fx - x3) := (zf.sub z5).sm.wide (zf.sub z5).sm
  have wfy : CMulW (fy - y3) (fy - y3) := (zf'.sub z6).sm.wide (zf'.sub z6).sm
  have wwx : CMulW (x2 - x1) (x2 - x1) := (z3.sub z1).sm.wide (z3.sub z1).sm
  have wwy : CMulW (y2 - y1) (y2 - y1) := (z4.sub z2).sm.wide (z4.sub z2).sm
  have hf := D39.2.2.1
  have h3 := C39.1
  refine ⟨_, rfl, fq, _, _, _, rfl, rfl, SqT.of hf, atI_nat (j := 0) rfl, _, rfl, t3, _, _, _, rfl, rfl, SqT.of h3, atI_nat (j := 0) rfl, _, _, rfl, rfl, _, rfl, fq, _, _, _, rfl, rfl, SqT.of hf, atI_nat (j := 0) rfl, _, rfl, t3, _, _, _, rfl, rfl, SqT.of h3, atI_nat (j := 0) rfl, _, _, rfl, rfl, _, _, rfl, rfl, wfx, _, rfl, fq, _, _, _, rfl, rfl, SqT.of hf, atI_nat (j := 1) rfl, _, rfl, t3, _, _, _, rfl, rfl, SqT.of h3, atI_nat (j := 1) rfl, _, _, rfl, rfl, _, rfl, fq, _, _, _, rfl, rfl, SqT.of hf, atI_nat (j := 1) rfl, _, rfl, t3, _, _, _, rfl, rfl, SqT.of h3, atI_nat (j := 1) rfl, _, _, rfl, rfl, _, _, rfl, rfl, wfy, _, _, rfl, rfl, ?_⟩
  clear hf h3
  -- due
  refine ⟨fun σ H' => ∃ due2 : Bool, σ = [some (.ref a), some (.ref p), some (.ref q1), some (.ref q2), some (.ref wd), some (.ref f1), some (.int st), some (.int sp), some (.ref t3), some (.ref t4), some (.int d3), some (.ref f2), some (.int la), some (.int lb), some (.int lc), some (.bl due2), some (.ref cq), some (.ref oq), some (.ref fq), some (.ref rg), some (.ref hg), some (.int ((fx - x3) * (fx - x3) + (fy - y3) * (fy - y3))), none, none, none, none] ∧ H' = H39 ∧ (due2 = true ↔ ((cx = ox ∧ cy = oy) ∧ (fx - x3) * (fx - x3) + (fy - y3) * (fy - y3) = (x2 - x1) * (x2 - x1) + (y2 - y1) * (y2 - y1))), ?_, ?_⟩
  · have hw := B39.2.2.2.2.1
    refine ⟨_, rfl, _, rfl, _, _, dp_pt D39.1, dp_pt D39.2.1, pt_shaped _ _, pt_shaped _ _, _, rfl, ite2 (fun c => ?_) (fun c => ?_)⟩
    · rw [pt_eqv] at c
      refine ⟨_, rfl, _, rfl, wd, _, _, _, rfl, rfl, SqT.of hw, atI_nat (j := 0) rfl, _, rfl, wd, _, _, _, rfl, rfl, SqT.of hw, atI_nat (j := 0) rfl, _, _, rfl, rfl, wwx, _, rfl, wd, _, _, _, rfl, rfl, SqT.of hw, atI_nat (j := 1) rfl, _, rfl, wd, _, _, _, rfl, rfl, SqT.of hw, atI_nat (j := 1) rfl, _, _, rfl, rfl, wwy, _, _, rfl, rfl, rfl, ?_⟩
      refine ⟨_, rfl, rfl, ?_⟩
      rw [dec_int]
      exact ⟨fun h => ⟨c, h⟩, fun h => h.2⟩
    · refine ⟨_, rfl, rfl, ?_⟩
      exact ⟨fun h => (by cases h), fun h => absurd ((pt_eqv _ _ _ _).mpr h.1) c⟩
  rintro σ H' ⟨due2, rfl, rfl, hdue2⟩
  have gr := fg_sm3 zc zc' z1 z2 z3 z4
  have gh := fg_sm3 zo zo' z5 z6 zf zf'
  have hF := B39.2.2.2.2.2
  have hR := D39.2.2.2.1
  have hG := D39.2.2.2.2
  refine ⟨_, rfl, _, rfl, rg, hg, _, _, rfl, hR, hG, gr, gh, fun H40 r s40 hr40 => ⟨_, rfl, r, due2, rfl, fun H41 s41 => ⟨_, rfl, iteF' (by rw [bool_eq (hr40.trans same_circ) hdue2]; simp) ?_⟩⟩⟩
  have T1 := s40.trans s41
  clear s40 s41
  refine ⟨_, rfl, _, rfl, hg, rg, _, _, rfl, hG.same T1, hR.same T1, gh, gr, fun H42 r2 s42 hr42 => ⟨_, rfl, r2, due2, rfl, fun H43 s43 => ⟨_, rfl, iteF' (by rw [bool_eq ((hr42.trans same_swap).trans same_circ) hdue2]; simp) ?_⟩⟩⟩
  have T2 := T1.trans (s42.trans s43)
  clear s42 s43 T1
  refine ⟨_, rfl, _, rfl, f1, f1, _, _, rfl, hF.same T2, hF.same T2, gs1, gs1, fun H44 r3 s44 hr44 => ⟨_, rfl, iteF' (by rw [hr44.mpr same_self]; rfl) ?_⟩⟩
  have T3 := T2.trans s44
  have B44 := B39.same T3
  have C44 := C39.kept (.of T3)
  have D44 := D39.kept (.of T3)
  clear s44 T2 T3 hF hR hG B39 C39 D39 hdue2
  have hon : ∀ x y, onP "line" (y1 - y2) (x2 - x1) (x1 * y2 - y1 * x2) x y ↔ la * x + lb * y = lc := fun x y => by
    rw [on_line, ela, elb, elc]
  -- the points
  refine ⟨_, rfl, _, rfl, _, rfl, _, rfl, (by show 4 ≤ sizeLine; decide), fun lq nlq => ?_⟩
  have S45 := same_new nlq (.lst [V.ref t3, .ref t4, .ref fq, .ref cq])
  have B45 := B44.same S45
  have C45 := C44.kept (.of S45)
  have D45 := D44.kept (.of S45)
  have L45 : (upd H44 lq (.lst [V.ref t3, .ref t4, .ref fq, .ref cq])) lq = some (.lst [V.ref t3, .ref t4, .ref fq, .ref cq]) := upd_same
  generalize (upd H44 lq (.lst [V.ref t3, .ref t4, .ref fq, .ref cq])) = H45 at B45 C45 D45 L45
  clear B44 C44 D44 S45
  refine ⟨lq, rfl, ⟨_, SqL.of L45⟩, for_list (K := K) (xs := [.ref t3, .ref t4, .ref fq, .ref cq]) (fun i σ H' => ∃ (y22 y23 y24 : Option V), σ = [some (.ref a), some (.ref p), some (.ref q1), some (.ref q2), some (.ref wd), some (.ref f1), some (.int st), some (.int sp), some (.ref t3), some (.ref t4), some (.int d3), some (.ref f2), some (.int la), some (.int lb), some (.int lc), some (.bl due2), some (.ref cq), some (.ref oq), some (.ref fq), some (.ref rg), some (.ref hg), some (.int ((fx - x3) * (fx - x3) + (fy - y3) * (fy - y3))), y22, y23, y24, none] ∧ Bs CN a p ns H q1 q2 wd f1 x1 y1 x2 y2 H' ∧ Cs CN t3 t4 f2 x3 y3 x4 y4 H' ∧ Ds CN cq oq fq rg hg cx cy ox oy fx fy x1 y1 x2 y2 x3 y3 H' ∧ H' lq = some (.lst [V.ref t3, .ref t4, .ref fq, .ref cq]))
    ⟨none, none, none, rfl, B45, C45, D45, L45⟩ (fun i σ H' _ hP => by obtain ⟨_, _, _, _, _, _, _, h⟩ := hP; exact SqL.of h) (fun i u σ H' hx hP => ?_) (fun σ H' hP => ?_)⟩
  · obtain ⟨y22, y23, y24, rfl, B, C, D, L⟩ := hP
    obtain ⟨tq, px, py, rfl, hq, zx, zy⟩ : ∃ (tq : Addr) (px py : Int), u = .ref tq ∧ IPt H' tq px py ∧ S20 px ∧ S20 py := by
      rcases item4 hx with rfl | rfl | rfl | rfl
      · exact ⟨t3, x3, y3, rfl, C.1, z5, z6⟩
      · exact ⟨t4, x4, y4, rfl, C.2.1, z7, z8⟩
      · exact ⟨fq, fx, fy, rfl, D.2.2.1, zf, zf'⟩
      · exact ⟨cq, cx, cy, rfl, D.1, zc, zc'⟩
    refine ⟨_, rfl, tq, px, py, rfl, hq, fun J1 mq s1 N1 => ?_⟩
    refine ⟨_, rfl, _, rfl, mq, f1, px, py, _, rfl, N1, B.2.2.2.2.2.same s1, zx, zy, gs1, fun J2 r s2 hr2 => ?_⟩
    have U := s1.trans s2
    have hq2 := hq.same U
    refine ⟨_, rfl, _, rfl, tq, _, _, _, rfl, rfl, SqT.of hq2, atI_nat (j := 0) rfl, _, _, rfl, rfl, sla.wide zx.s48.sm, _, rfl, _, rfl, tq, _, _, _, rfl, rfl, SqT.of hq2, atI_nat (j := 1) rfl, _, _, rfl, rfl, slb.wide zy.s48.sm, _, _, rfl, rfl, _, rfl, rfl, r, _, rfl, fun J3 s3 => ⟨_, rfl, iteF' (by rw [bool_eq (hr2.trans (hon px py)) dec_int]; simp) ?_⟩⟩
    have U3 := U.trans s3
    have hq3 := hq.same U3
    have hc3 := D.1.same U3
    have hw3 := B.2.2.2.2.1.same U3
    have w1 : CMulW (px - cx) (px - cx) := (zx.sub zc).sm.wide (zx.sub zc).sm
    have w2 : CMulW (py - cy) (py - cy) := (zy.sub zc').sm.wide (zy.sub zc').sm
    refine ⟨_, rfl, tq, _, _, _, rfl, rfl, SqT.of hq3, atI_nat (j := 0) rfl, _, rfl, cq, _, _, _, rfl, rfl, SqT.of hc3, atI_nat (j := 0) rfl, _, _, rfl, rfl, _, rfl, tq, _, _, _, rfl, rfl, SqT.of hq3, atI_nat (j := 0) rfl, _, rfl, cq, _, _, _, rfl, rfl, SqT.of hc3, atI_nat (j := 0) rfl, _, _, rfl, rfl, _, _, rfl, rfl, w1, _, rfl, tq, _, _, _, rfl, rfl, SqT.of hq3, atI_nat (j := 1) rfl, _, rfl, cq, _, _, _, rfl, rfl, SqT.of hc3, atI_nat (j := 1) rfl, _, _, rfl, rfl, _, rfl, tq, _, _, _, rfl, rfl, SqT.of hq3, atI_nat (j := 1) rfl, _, rfl, cq, _, _, _, rfl, rfl, SqT.of hc3, atI_nat (j := 1) rfl, _, _, rfl, rfl, _, _, rfl, rfl, w2, _, _, rfl, rfl, ?_⟩
    refine ⟨_, rfl, _, rfl, mq, rg, px, py, _, rfl, N1.same (s2.trans s3), D.2.2.2.1.same U3, zx, zy, gr, fun J4 r4 s4 hr4 => ?_⟩
    have hw4 := hw3.same s4
    refine ⟨_, rfl, _, rfl, wd, _, _, _, rfl, rfl, SqT.of hw4, atI_nat (j := 0) rfl, _, rfl, wd, _, _, _, rfl, rfl, SqT.of hw4, atI_nat (j := 0) rfl, _, _, rfl, rfl, wwx, _, rfl, wd, _, _, _, rfl, rfl, SqT.of hw4, atI_nat (j := 1) rfl, _, rfl, wd, _, _, _, rfl, rfl, SqT.of hw4, atI_nat (j := 1) rfl, _, _, rfl, rfl, wwy, _, _, rfl, rfl, rfl, r4, _, rfl, fun J5 s5 => ⟨_, rfl, iteF' (by rw [bool_eq (hr4.trans (on_circ (m := cx) (n := cy) (x1 := x1) (y1 := y1) (x2 := x2) (y2 := y2) (x := px) (y := py))) dec_int]; simp) ?_⟩⟩
    have U5 := U3.trans (s4.trans s5)
    exact ⟨_, _, _, rfl, B.same U5, C.kept (.of U5), D.kept (.of U5), U5 _ _ L⟩
  obtain ⟨y22, y23, y24, rfl, B, C, D, L⟩ := hP
  have hc := D.1
  have hw := B.2.2.2.2.1
  refine ⟨_, rfl, cq, _, _, _, rfl, rfl, SqT.of hc, atI_nat (j := 0) rfl, _, rfl, wd, _, _, _, rfl, rfl, SqT.of hw, atI_nat (j := 1) rfl, _, _, rfl, rfl, _, rfl, cq, _, _, _, rfl, rfl, SqT.of hc, atI_nat (j := 1) rfl, _, rfl, wd, _, _, _, rfl, rfl, SqT.of hw, atI_nat (j := 0) rfl, _, _, rfl, rfl, (by show 2 ≤ sizeLine; decide), fun eq neq => ?_⟩
  have S46 := same_new neq (.tup [V.int (cx + (y2 - y1)), .int (cy - (x2 - x1))])
  have se1 := s20_of (n := cx + (y2 - y1)) (nb_add (nb_iv v1 v2 (l := 5) (by decide)) bwy (by decide))
  have se2 := s20_of (n := cy - (x2 - x1)) (nb_sub (nb_iv v3 v4 (l := 5) (by decide)) bwx (by decide))
  refine ⟨_, rfl, eq, _, _, rfl, upd_same, fun J1 m s1 N => ⟨_, rfl, m, rg, _, _, _, rfl, N, D.2.2.2.1.same (S46.trans s1), se1, se2, gr, fun J2 r s2 hr2 => ⟨r, true, rfl, rfl, _, rfl, iteF' (by rw [hr2.mpr edge_on]; rfl) ?_⟩⟩⟩
  have U := S46.trans (s1.trans s2)
  have hR := D.2.2.2.1.same U
  have hF := B.2.2.2.2.2.same U
  refine ⟨_, rfl, _, rfl, rg, f1, _, _, rfl, hR, hF, gr, gs1, fun J3 r3 s3 hr3 => ⟨r3, false, rfl, rfl, _, rfl, iteT' (by rw [bool_no hr3 no_same1]; rfl) ?_⟩⟩
  refine ⟨_, rfl, _, rfl, f1, rg, _, _, rfl, hF.same s3, hR.same s3, gs1, gr, fun J4 r4 s4 hr4 => ⟨r4, false, rfl, rfl, ?_⟩⟩
  rw [bool_no hr4 no_same2]
  exact fin _
end
end KO

namespace KO
open PySem PySem.Spec PyProof.Rows L2 KG
set_option maxHeartbeats 4000000 in
theorem all_mk {l : PySem.W.OpenLaw} {w : World} {K : PySem.W.Frag} {h : Heap} {mg : Str → Option Value} {fa f1 f2 f3 f4 f5 f6 f7 f8 f9 f10 f11 f12 f13 f14 f15 f16 f17 f18 f19 f20 f21 f22 f23 f24 f25 f26 f27 f28 f29 f30 f31 f32 f33 f34 f35 f36 f37 f38 : Addr} (X : K.In h) (G : h.Ns mainGlobals mg) (hfa : mg "law" = some (.ref fa))
    {eN eF aT aZ aZv gN gF gm0 gm1 gm2 gm3 : Addr} {odN anN odF anF odT odZ odZv odm0 anm0 odm1 anm1 odm2 anm2 odm3 anm3 : Option Addr} {slN slF slT slZ slZv slm0 slm1 slm2 slm3 : Array (Option Value)} {nT nZ nZv : Nat} {tT tZ tZv : Tok} {ocN kVN dcN pmN cdN ctN ocF kVF dcF pmF cdF ctF ocm0 kVm0 dcm0 pmm0 cdm0 ctm0 ocm1 kVm1 dcm1 pmm1 cdm1 ctm1 ocm2 kVm2 dcm2 pmm2 cdm2 ctm2 ocm3 kVm3 dcm3 pmm3 cdm3 ctm3 : Value}
    {od1 an1 od2 an2 od3 an3 od4 an4 od5 an5 od6 an6 od7 an7 od8 an8 od9 an9 od10 an10 od11 an11 od12 an12 od13 an13 od14 an14 od15 an15 od16 an16 od17 an17 od18 an18 od19 an19 od20 an20 od21 an21 od22 an22 od23 an23 od24 an24 od25 an25 od26 an26 od27 an27 od28 an28 od29 an29 od30 an30 od31 an31 od32 an32 od33 an33 od34 an34 od35 an35 od36 an36 od37 an37 od38 an38 : Option Addr} {sl1 sl2 sl3 sl4 sl5 sl6 sl7 sl8 sl9 sl10 sl11 sl12 sl13 sl14 sl15 sl16 sl17 sl18 sl19 sl20 sl21 sl22 sl23 sl24 sl25 sl26 sl27 sl28 sl29 sl30 sl31 sl32 sl33 sl34 sl35 sl36 sl37 sl38 : Array (Option Value)} {oc1 kV1 dc1 pm1 cd1 ct1 oc2 kV2 dc2 pm2 cd2 ct2 oc3 kV3 dc3 pm3 cd3 ct3 oc4 kV4 dc4 pm4 cd4 ct4 oc5 kV5 dc5 pm5 cd5 ct5 oc6 kV6 dc6 pm6 cd6 ct6 oc7 kV7 dc7 pm7 cd7 ct7 oc8 kV8 dc8 pm8 cd8 ct8 oc9 kV9 dc9 pm9 cd9 ct9 oc10 kV10 dc10 pm10 cd10 ct10 oc11 kV11 dc11 pm11 cd11 ct11 oc12 kV12 dc12 pm12 cd12 ct12 oc13 kV13 dc13 pm13 cd13 ct13 oc14 kV14 dc14 pm14 cd14 ct14 oc15 kV15 dc15 pm15 cd15 ct15 oc16 kV16 dc16 pm16 cd16 ct16 oc17 kV17 dc17 pm17 cd17 ct17 oc18 kV18 dc18 pm18 cd18 ct18 oc19 kV19 dc19 pm19 cd19 ct19 oc20 kV20 dc20 pm20 cd20 ct20 oc21 kV21 dc21 pm21 cd21 ct21 oc22 kV22 dc22 pm22 cd22 ct22 oc23 kV23 dc23 pm23 cd23 ct23 oc24 kV24 dc24 pm24 cd24 ct24 oc25 kV25 dc25 pm25 cd25 ct25 oc26 kV26 dc26 pm26 cd26 ct26 oc27 kV27 dc27 pm27 cd27 ct27 oc28 kV28 dc28 pm28 cd28 ct28 oc29 kV29 dc29 pm29 cd29 ct29 oc30 kV30 dc30 pm30 cd30 ct30 oc31 kV31 dc31 pm31 cd31 ct31 oc32 kV32 dc32 pm32 cd32 ct32 oc33 kV33 dc33 pm33 cd33 ct33 oc34 kV34 dc34 pm34 cd34 ct34 oc35 kV35 dc35 pm35 cd35 ct35 oc36 kV36 dc36 pm36 cd36 ct36 oc37 kV37 dc37 pm37 cd37 ct37 oc38 kV38 dc38 pm38 cd38 ct38 : Value}
    {tI1 : Tok}
    (a1 : PySem.W.nsIn K mainGlobals "plus" = some (some (.ref f1))) (l1 : K.lookup f1 = some ⟨oc1, od1, .func (PySem.W.fnOf "plus" "plus" (defArgs splus) (defBody splus) (defScope splus) .none kV1 dc1 pm1 an1 cd1 ct1), sl1⟩) (c1 : PySem.W.codeIn K cd1 "plus" = true) (k1 : PySem.W.keepIn K (.ref f1) = true)
    (a2 : PySem.W.nsIn K mainGlobals "minus" = some (some (.ref f2))) (l2 : K.lookup f2 = some ⟨oc2, od2, .func (PySem.W.fnOf "minus" "minus" (defArgs sminus) (defBody sminus) (defScope sminus) .none kV2 dc2 pm2 an2 cd2 ct2), sl2⟩) (c2 : PySem.W.codeIn K cd2 "minus" = true) (k2 : PySem.W.keepIn K (.ref f2) = true)
    (a3 : PySem.W.nsIn K mainGlobals "times" = some (some (.ref f3))) (l3 : K.lookup f3 = some ⟨oc3, od3, .func (PySem.W.fnOf "times" "times" (defArgs stimes) (defBody stimes) (defScope stimes) .none kV3 dc3 pm3 an3 cd3 ct3), sl3⟩) (c3 : PySem.W.codeIn K cd3 "times" = true) (k3 : PySem.W.keepIn K (.ref f3) = true)
    (a4 : PySem.W.nsIn K mainGlobals "padded" = some (some (.ref f4))) (l4 : K.lookup f4 = some ⟨oc4, od4, .func (PySem.W.fnOf "padded" "padded" (defArgs spadded) (defBody spadded) (defScope spadded) .none kV4 dc4 pm4 an4 cd4 ct4), sl4⟩) (c4 : PySem.W.codeIn K cd4 "padded" = true) (k4 : PySem.W.keepIn K (.ref f4) = true)
    (a5 : PySem.W.nsIn K mainGlobals "multiplied" = some (some (.ref f5))) (l5 : K.lookup f5 = some ⟨oc5, od5, .func (PySem.W.fnOf "multiplied" "multiplied" (defArgs smultiplied) (defBody smultiplied) (defScope smultiplied) .none kV5 dc5 pm5 an5 cd5 ct5), sl5⟩) (c5 : PySem.W.codeIn K cd5 "multiplied" = true) (k5 : PySem.W.keepIn K (.ref f5) = true)
    (a6 : PySem.W.nsIn K mainGlobals "lowest" = some (some (.ref f6))) (l6 : K.lookup f6 = some ⟨oc6, od6, .func (PySem.W.fnOf "lowest" "lowest" (defArgs slowest) (defBody slowest) (defScope slowest) .none kV6 dc6 pm6 an6 cd6 ct6), sl6⟩) (c6 : PySem.W.codeIn K cd6 "lowest" = true) (k6 : PySem.W.keepIn K (.ref f6) = true)
    (a7 : PySem.W.nsIn K mainGlobals "element_sum" = some (some (.ref f7))) (l7 : K.lookup f7 = some ⟨oc7, od7, .func (PySem.W.fnOf "element_sum" "element_sum" (defArgs selement_sum) (defBody selement_sum) (defScope selement_sum) .none kV7 dc7 pm7 an7 cd7 ct7), sl7⟩) (c7 : PySem.W.codeIn K cd7 "element_sum" = true) (k7 : PySem.W.keepIn K (.ref f7) = true)
    (a8 : PySem.W.nsIn K mainGlobals "element_difference" = some (some (.ref f8))) (l8 : K.lookup f8 = some ⟨oc8, od8, .func (PySem.W.fnOf "element_difference" "element_difference" (defArgs selement_difference) (defBody selement_difference) (defScope selement_difference) .none kV8 dc8 pm8 an8 cd8 ct8), sl8⟩) (c8 : PySem.W.codeIn K cd8 "element_difference" = true) (k8 : PySem.W.keepIn K (.ref f8) = true)
    (a9 : PySem.W.nsIn K mainGlobals "element_product" = some (some (.ref f9))) (l9 : K.lookup f9 = some ⟨oc9, od9, .func (PySem.W.fnOf "element_product" "element_product" (defArgs selement_product) (defBody selement_product) (defScope selement_product) .none kV9 dc9 pm9 an9 cd9 ct9), sl9⟩) (c9 : PySem.W.codeIn K cd9 "element_product" = true) (k9 : PySem.W.keepIn K (.ref f9) = true)
    (a10 : PySem.W.nsIn K mainGlobals "widened" = some (some (.ref f10))) (l10 : K.lookup f10 = some ⟨oc10, od10, .func (PySem.W.fnOf "widened" "widened" (defArgs swidened) (defBody swidened) (defScope swidened) .none kV10 dc10 pm10 an10 cd10 ct10), sl10⟩) (c10 : PySem.W.codeIn K cd10 "widened" = true) (k10 : PySem.W.keepIn K (.ref f10) = true)
    (a11 : PySem.W.nsIn K mainGlobals "image" = some (some (.ref f11))) (l11 : K.lookup f11 = some ⟨oc11, od11, .func (PySem.W.fnOf "image" "image" (defArgs simage) (defBody simage) (defScope simage) .none kV11 dc11 pm11 an11 cd11 ct11), sl11⟩) (c11 : PySem.W.codeIn K cd11 "image" = true) (k11 : PySem.W.keepIn K (.ref f11) = true)
    (a12 : PySem.W.nsIn K mainGlobals "image_of_element" = some (some (.ref f12))) (l12 : K.lookup f12 = some ⟨oc12, od12, .func (PySem.W.fnOf "image_of_element" "image_of_element" (defArgs simage_of_element) (defBody simage_of_element) (defScope simage_of_element) .none kV12 dc12 pm12 an12 cd12 ct12), sl12⟩) (c12 : PySem.W.codeIn K cd12 "image_of_element" = true) (k12 : PySem.W.keepIn K (.ref f12) = true)
    (a13 : PySem.W.nsIn K mainGlobals "joined" = some (some (.ref f13))) (l13 : K.lookup f13 = some ⟨oc13, od13, .func (PySem.W.fnOf "joined" "joined" (defArgs sjoined) (defBody sjoined) (defScope sjoined) .none kV13 dc13 pm13 an13 cd13 ct13), sl13⟩) (c13 : PySem.W.codeIn K cd13 "joined" = true) (k13 : PySem.W.keepIn K (.ref f13) = true)
    (a14 : PySem.W.nsIn K mainGlobals "_rank" = some (some (.ref f14))) (l14 : K.lookup f14 = some ⟨oc14, od14, .func (PySem.W.fnOf "_rank" "_rank" (defArgs s_rank) (defBody s_rank) (defScope s_rank) .none kV14 dc14 pm14 an14 cd14 ct14), sl14⟩) (c14 : PySem.W.codeIn K cd14 "_rank" = true) (k14 : PySem.W.keepIn K (.ref f14) = true)
    (a15 : PySem.W.nsIn K mainGlobals "all_together" = some (some (.ref f15))) (l15 : K.lookup f15 = some ⟨oc15, od15, .func (PySem.W.fnOf "all_together" "all_together" (defArgs sall_together) (defBody sall_together) (defScope sall_together) .none kV15 dc15 pm15 an15 cd15 ct15), sl15⟩) (c15 : PySem.W.codeIn K cd15 "all_together" = true) (k15 : PySem.W.keepIn K (.ref f15) = true)
    (a16 : PySem.W.nsIn K mainGlobals "_all_in_one_tower" = some (some (.ref f16))) (l16 : K.lookup f16 = some ⟨oc16, od16, .func (PySem.W.fnOf "_all_in_one_tower" "_all_in_one_tower" (defArgs s_all_in_one_tower) (defBody s_all_in_one_tower) (defScope s_all_in_one_tower) .none kV16 dc16 pm16 an16 cd16 ct16), sl16⟩) (c16 : PySem.W.codeIn K cd16 "_all_in_one_tower" = true) (k16 : PySem.W.keepIn K (.ref f16) = true)
    (a17 : PySem.W.nsIn K mainGlobals "_alike" = some (some (.ref f17))) (l17 : K.lookup f17 = some ⟨oc17, od17, .func (PySem.W.fnOf "_alike" "_alike" (defArgs s_alike) (defBody s_alike) (defScope s_alike) .none kV17 dc17 pm17 an17 cd17 ct17), sl17⟩) (c17 : PySem.W.codeIn K cd17 "_alike" = true) (k17 : PySem.W.keepIn K (.ref f17) = true)
    (a18 : PySem.W.nsIn K mainGlobals "_shortest" = some (some (.ref f18))) (l18 : K.lookup f18 = some ⟨oc18, od18, .func (PySem.W.fnOf "_shortest" "_shortest" (defArgs s_shortest) (defBody s_shortest) (defScope s_shortest) .none kV18 dc18 pm18 an18 cd18 ct18), sl18⟩) (c18 : PySem.W.codeIn K cd18 "_shortest" = true) (k18 : PySem.W.keepIn K (.ref f18) = true)
    (a19 : PySem.W.nsIn K mainGlobals "line_shape" = some (some (.ref f19))) (l19 : K.lookup f19 = some ⟨oc19, od19, .func (PySem.W.fnOf "line_shape" "line_shape" (defArgs sline_shape) (defBody sline_shape) (defScope sline_shape) .none kV19 dc19 pm19 an19 cd19 ct19), sl19⟩) (c19 : PySem.W.codeIn K cd19 "line_shape" = true) (k19 : PySem.W.keepIn K (.ref f19) = true)
    (a20 : PySem.W.nsIn K mainGlobals "_cross" = some (some (.ref f20))) (l20 : K.lookup f20 = some ⟨oc20, od20, .func (PySem.W.fnOf "_cross" "_cross" (defArgs s_cross) (defBody s_cross) (defScope s_cross) .none kV20 dc20 pm20 an20 cd20 ct20), sl20⟩) (c20 : PySem.W.codeIn K cd20 "_cross" = true) (k20 : PySem.W.keepIn K (.ref f20) = true)
    (a21 : PySem.W.nsIn K mainGlobals "circle_shape" = some (some (.ref f21))) (l21 : K.lookup f21 = some ⟨oc21, od21, .func (PySem.W.fnOf "circle_shape" "circle_shape" (defArgs scircle_shape) (defBody scircle_shape) (defScope scircle_shape) .none kV21 dc21 pm21 an21 cd21 ct21), sl21⟩) (c21 : PySem.W.codeIn K cd21 "circle_shape" = true) (k21 : PySem.W.keepIn K (.ref f21) = true)
    (a22 : PySem.W.nsIn K mainGlobals "_square" = some (some (.ref f22))) (l22 : K.lookup f22 = some ⟨oc22, od22, .func (PySem.W.fnOf "_square" "_square" (defArgs s_square) (defBody s_square) (defScope s_square) .none kV22 dc22 pm22 an22 cd22 ct22), sl22⟩) (c22 : PySem.W.codeIn K cd22 "_square" = true) (k22 : PySem.W.keepIn K (.ref f22) = true)
    (a23 : PySem.W.nsIn K mainGlobals "on_shape" = some (some (.ref f23))) (l23 : K.lookup f23 = some ⟨oc23, od23, .func (PySem.W.fnOf "on_shape" "on_shape" (defArgs son_shape) (defBody son_shape) (defScope son_shape) .none kV23 dc23 pm23 an23 cd23 ct23), sl23⟩) (c23 : PySem.W.codeIn K cd23 "on_shape" = true) (k23 : PySem.W.keepIn K (.ref f23) = true)
    (a24 : PySem.W.nsIn K mainGlobals "_side_of_line" = some (some (.ref f24))) (l24 : K.lookup f24 = some ⟨oc24, od24, .func (PySem.W.fnOf "_side_of_line" "_side_of_line" (defArgs s_side_of_line) (defBody s_side_of_line) (defScope s_side_of_line) .none kV24 dc24 pm24 an24 cd24 ct24), sl24⟩) (c24 : PySem.W.codeIn K cd24 "_side_of_line" = true) (k24 : PySem.W.keepIn K (.ref f24) = true)
    (a25 : PySem.W.nsIn K mainGlobals "same_shapes" = some (some (.ref f25))) (l25 : K.lookup f25 = some ⟨oc25, od25, .func (PySem.W.fnOf "same_shapes" "same_shapes" (defArgs ssame_shapes) (defBody ssame_shapes) (defScope ssame_shapes) .none kV25 dc25 pm25 an25 cd25 ct25), sl25⟩) (c25 : PySem.W.codeIn K cd25 "same_shapes" = true) (k25 : PySem.W.keepIn K (.ref f25) = true)
    (a26 : PySem.W.nsIn K mainGlobals "same" = some (some (.ref f26))) (l26 : K.lookup f26 = some ⟨oc26, od26, .func (PySem.W.fnOf "same" "same" (defArgs ssame) (defBody ssame) (defScope ssame) .none kV26 dc26 pm26 an26 cd26 ct26), sl26⟩) (c26 : PySem.W.codeIn K cd26 "same" = true) (k26 : PySem.W.keepIn K (.ref f26) = true)
    (a27 : PySem.W.nsIn K mainGlobals "lies_on" = some (some (.ref f27))) (l27 : K.lookup f27 = some ⟨oc27, od27, .func (PySem.W.fnOf "lies_on" "lies_on" (defArgs slies_on) (defBody slies_on) (defScope slies_on) .none kV27 dc27 pm27 an27 cd27 ct27), sl27⟩) (c27 : PySem.W.codeIn K cd27 "lies_on" = true) (k27 : PySem.W.keepIn K (.ref f27) = true)
    (a28 : PySem.W.nsIn K mainGlobals "_two_shapes" = some (some (.ref f28))) (l28 : K.lookup f28 = some ⟨oc28, od28, .func (PySem.W.fnOf "_two_shapes" "_two_shapes" (defArgs s_two_shapes) (defBody s_two_shapes) (defScope s_two_shapes) .none kV28 dc28 pm28 an28 cd28 ct28), sl28⟩) (c28 : PySem.W.codeIn K cd28 "_two_shapes" = true) (k28 : PySem.W.keepIn K (.ref f28) = true)
    (a29 : PySem.W.nsIn K mainGlobals "_points_in" = some (some (.ref f29))) (l29 : K.lookup f29 = some ⟨oc29, od29, .func (PySem.W.fnOf "_points_in" "_points_in" (defArgs s_points_in) (defBody s_points_in) (defScope s_points_in) .none kV29 dc29 pm29 an29 cd29 ct29), sl29⟩) (c29 : PySem.W.codeIn K cd29 "_points_in" = true) (k29 : PySem.W.keepIn K (.ref f29) = true)
    (a30 : PySem.W.nsIn K mainGlobals "_shape" = some (some (.ref f30))) (l30 : K.lookup f30 = some ⟨oc30, od30, .func (PySem.W.fnOf "_shape" "_shape" (defArgs s_shape) (defBody s_shape) (defScope s_shape) .none kV30 dc30 pm30 an30 cd30 ct30), sl30⟩) (c30 : PySem.W.codeIn K cd30 "_shape" = true) (k30 : PySem.W.keepIn K (.ref f30) = true)
    (a31 : PySem.W.nsIn K mainGlobals "_law_state" = some (some (.ref f31))) (l31 : K.lookup f31 = some ⟨oc31, od31, .func (PySem.W.fnOf "_law_state" "_law_state" (defArgs s_law_state) (defBody s_law_state) (defScope s_law_state) .none kV31 dc31 pm31 an31 cd31 ct31), sl31⟩) (c31 : PySem.W.codeIn K cd31 "_law_state" = true) (k31 : PySem.W.keepIn K (.ref f31) = true)
    (a32 : PySem.W.nsIn K mainGlobals "_law_take" = some (some (.ref f32))) (l32 : K.lookup f32 = some ⟨oc32, od32, .func (PySem.W.fnOf "_law_take" "_law_take" (defArgs s_law_take) (defBody s_law_take) (defScope s_law_take) .none kV32 dc32 pm32 an32 cd32 ct32), sl32⟩) (c32 : PySem.W.codeIn K cd32 "_law_take" = true) (k32 : PySem.W.keepIn K (.ref f32) = true)
    (a33 : PySem.W.nsIn K mainGlobals "_law_point" = some (some (.ref f33))) (l33 : K.lookup f33 = some ⟨oc33, od33, .func (PySem.W.fnOf "_law_point" "_law_point" (defArgs s_law_point) (defBody s_law_point) (defScope s_law_point) .none kV33 dc33 pm33 an33 cd33 ct33), sl33⟩) (c33 : PySem.W.codeIn K cd33 "_law_point" = true) (k33 : PySem.W.keepIn K (.ref f33) = true)
    (a34 : PySem.W.nsIn K mainGlobals "_law_two_points" = some (some (.ref f34))) (l34 : K.lookup f34 = some ⟨oc34, od34, .func (PySem.W.fnOf "_law_two_points" "_law_two_points" (defArgs s_law_two_points) (defBody s_law_two_points) (defScope s_law_two_points) .none kV34 dc34 pm34 an34 cd34 ct34), sl34⟩) (c34 : PySem.W.codeIn K cd34 "_law_two_points" = true) (k34 : PySem.W.keepIn K (.ref f34) = true)
    (a35 : PySem.W.nsIn K mainGlobals "_law_line" = some (some (.ref f35))) (l35 : K.lookup f35 = some ⟨oc35, od35, .func (PySem.W.fnOf "_law_line" "_law_line" (defArgs s_law_line) (defBody s_law_line) (defScope s_law_line) .none kV35 dc35 pm35 an35 cd35 ct35), sl35⟩) (c35 : PySem.W.codeIn K cd35 "_law_line" = true) (k35 : PySem.W.keepIn K (.ref f35) = true)
    (a36 : PySem.W.nsIn K mainGlobals "_law_made_point" = some (some (.ref f36))) (l36 : K.lookup f36 = some ⟨oc36, od36, .func (PySem.W.fnOf "_law_made_point" "_law_made_point" (defArgs s_law_made_point) (defBody s_law_made_point) (defScope s_law_made_point) .none kV36 dc36 pm36 an36 cd36 ct36), sl36⟩) (c36 : PySem.W.codeIn K cd36 "_law_made_point" = true) (k36 : PySem.W.keepIn K (.ref f36) = true)
    (a37 : PySem.W.nsIn K mainGlobals "_law_says" = some (some (.ref f37))) (l37 : K.lookup f37 = some ⟨oc37, od37, .func (PySem.W.fnOf "_law_says" "_law_says" (defArgs s_law_says) (defBody s_law_says) (defScope s_law_says) .none kV37 dc37 pm37 an37 cd37 ct37), sl37⟩) (c37 : PySem.W.codeIn K cd37 "_law_says" = true) (k37 : PySem.W.keepIn K (.ref f37) = true)
    (a38 : PySem.W.nsIn K mainGlobals "law" = some (some (.ref f38))) (l38 : K.lookup f38 = some ⟨oc38, od38, .func (PySem.W.fnOf "law" "law" (defArgs slaw) (defBody slaw) (defScope slaw) .none kV38 dc38 pm38 an38 cd38 ct38), sl38⟩) (c38 : PySem.W.codeIn K cd38 "law" = true) (k38 : PySem.W.keepIn K (.ref f38) = true)
    (z1 : PySem.W.nsIn K mainGlobals "ValueError" = some none)
    (z2 : PySem.W.nsIn K mainGlobals "tuple" = some none)
    (z3 : PySem.W.nsIn K mainGlobals "any" = some none)
    (z4 : PySem.W.nsIn K mainGlobals "reversed" = some none)
    (z5 : PySem.W.nsIn K mainGlobals "enumerate" = some none)
    (z6 : PySem.W.nsIn K mainGlobals "zip" = some none)
    (z7 : PySem.W.nsIn K mainGlobals "range" = some none)
    (z8 : PySem.W.nsIn K mainGlobals "len" = some none)
    (z9 : PySem.W.nsIn K mainGlobals "max" = some none)
    (z10 : PySem.W.nsIn K mainGlobals "NotImplemented" = some none)
    (z11 : PySem.W.nsIn K mainGlobals "abs" = some none)
    (z12 : PySem.W.nsIn K mainGlobals "int" = some none)
    (z13 : PySem.W.nsIn K mainGlobals "isinstance" = some none)
    (z14 : PySem.W.nsIn K mainGlobals "bool" = some none)
    (z15 : PySem.W.nsIn K mainGlobals "min" = some none)
    (z16 : PySem.W.nsIn K mainGlobals "sum" = some none)
    (i1 : PySem.W.nsIn K mainGlobals "MOST_GENERATORS" = some (some (.int 4 tI1)))
    (eN1 : PySem.W.nsIn K mainGlobals "Number" = some (some (.ref eN)))
    (eN2 : PySem.W.plainGet K eN Str.empty = true)
    (eN3 : PySem.W.hasDictIn K eN = true)
    (eN4 : PySem.W.plainOver K eN = true)
    (eN5 : PySem.W.findIn K (.ref eN) "__setattr__" = some (some (.builtin "object.__setattr__")))
    (eN6 : PySem.W.makesIn K eN = true)
    (eN7 : PySem.W.keepIn K (.ref eN) = true)
    (eN80 : PySem.W.findIn K (.ref eN) "tower" = some none)
    (eN81 : PySem.W.findIn K (.ref eN) "element" = some none)
    (eN9 : PySem.W.findIn K (.ref eN) "__init__" = some (some (.ref gN)))
    (eNa : PySem.W.isFn K (.ref gN) = true)
    (eNb : K.lookup gN = some ⟨ocN, odN, .func (PySem.W.fnOf "__init__" "Number.__init__" (defArgs sNi) (defBody sNi) (defScope sNi) (.ref aT) kVN dcN pmN anN cdN ctN), slN⟩)
    (eNc : PySem.W.codeIn K cdN "Number.__init__" = true)
    (eNd : PySem.W.keepIn K (.ref gN) = true)
    (eF1 : PySem.W.nsIn K mainGlobals "Field" = some (some (.ref eF)))
    (eF2 : PySem.W.plainGet K eF Str.empty = true)
    (eF3 : PySem.W.hasDictIn K eF = true)
    (eF4 : PySem.W.plainOver K eF = true)
    (eF5 : PySem.W.findIn K (.ref eF) "__setattr__" = some (some (.builtin "object.__setattr__")))
    (eF6 : PySem.W.makesIn K eF = true)
    (eF7 : PySem.W.keepIn K (.ref eF) = true)
    (eF80 : PySem.W.findIn K (.ref eF) "tower" = some none)
    (eF81 : PySem.W.findIn K (.ref eF) "known_roots" = some none)
    (eF9 : PySem.W.findIn K (.ref eF) "__init__" = some (some (.ref gF)))
    (eFa : PySem.W.isFn K (.ref gF) = true)
    (eFb : K.lookup gF = some ⟨ocF, odF, .func (PySem.W.fnOf "__init__" "Field.__init__" (defArgs sFi) (defBody sFi) (defScope sFi) .none kVF dcF pmF anF cdF ctF), slF⟩)
    (eFc : PySem.W.codeIn K cdF "Field.__init__" = true)
    (eFd : PySem.W.keepIn K (.ref gF) = true)
    (yT : K.lookup aT = some ⟨.type "tuple", odT, .seq #[.int 1 tT] nT, slT⟩)
    (yZ0 : PySem.W.nsIn K mainGlobals "ZERO" = some (some (.ref aZ)))
    (yZ1 : K.lookup aZ = some ⟨.type "tuple", odZ, .seq #[.ref aZv, .int 1 tZ] nZ, slZ⟩)
    (yZ2 : K.lookup aZv = some ⟨.type "tuple", odZv, .seq #[.int 0 tZv] nZv, slZv⟩)
    (m01 : PySem.W.findIn K (.ref eF) "holding" = some (some (.ref gm0)))
    (m02 : PySem.W.isFn K (.ref gm0) = true)
    (m03 : K.lookup gm0 = some ⟨ocm0, odm0, .func (PySem.W.fnOf "holding" "Field.holding" (defArgs sholding) (defBody sholding) (defScope sholding) .none kVm0 dcm0 pmm0 anm0 cdm0 ctm0), slm0⟩)
    (m04 : PySem.W.codeIn K cdm0 "Field.holding" = true)
    (m05 : PySem.W.keepIn K (.ref gm0) = true)
    (m11 : PySem.W.findIn K (.ref eF) "plus" = some (some (.ref gm1)))
    (m12 : PySem.W.isFn K (.ref gm1) = true)
    (m13 : K.lookup gm1 = some ⟨ocm1, odm1, .func (PySem.W.fnOf "plus" "Field.plus" (defArgs sFplus) (defBody sFplus) (defScope sFplus) .none kVm1 dcm1 pmm1 anm1 cdm1 ctm1), slm1⟩)
    (m14 : PySem.W.codeIn K cdm1 "Field.plus" = true)
    (m15 : PySem.W.keepIn K (.ref gm1) = true)
    (m21 : PySem.W.findIn K (.ref eF) "minus" = some (some (.ref gm2)))
    (m22 : PySem.W.isFn K (.ref gm2) = true)
    (m23 : K.lookup gm2 = some ⟨ocm2, odm2, .func (PySem.W.fnOf "minus" "Field.minus" (defArgs sFminus) (defBody sFminus) (defScope sFminus) .none kVm2 dcm2 pmm2 anm2 cdm2 ctm2), slm2⟩)
    (m24 : PySem.W.codeIn K cdm2 "Field.minus" = true)
    (m25 : PySem.W.keepIn K (.ref gm2) = true)
    (m31 : PySem.W.findIn K (.ref eF) "product" = some (some (.ref gm3)))
    (m32 : PySem.W.isFn K (.ref gm3) = true)
    (m33 : K.lookup gm3 = some ⟨ocm3, odm3, .func (PySem.W.fnOf "product" "Field.product" (defArgs sFproduct) (defBody sFproduct) (defScope sFproduct) .none kVm3 dcm3 pmm3 anm3 cdm3 ctm3), slm3⟩)
    (m34 : PySem.W.codeIn K cdm3 "Field.product" = true)
    (m35 : PySem.W.keepIn K (.ref gm3) = true)
    : ∃ fd : FuncData, (∀ (s : Shared) (v : Value), BindsTo s fd ⟨[v], []⟩ [("script", v)]) ∧ ∀ base : Heap, K.In base → base.Ns mainGlobals mg → FnOk l.prog w K mg base CX0 14 fa fd ["script"] (splaw K) := by
  have e := hfa.symm.trans (PySem.W.mg_of X G a38)
  cases e
  have F1 := fun_mk (st := splus) l1 c1 k1
  have F2 := fun_mk (st := sminus) l2 c2 k2
  have F3 := fun_mk (st := stimes) l3 c3 k3
  have F4 := fun_mk (st := spadded) l4 c4 k4
  have F5 := fun_mk (st := smultiplied) l5 c5 k5
  have F6 := fun_mk (st := slowest) l6 c6 k6
  have F7 := fun_mk (st := selement_sum) l7 c7 k7
  have F8 := fun_mk (st := selement_difference) l8 c8 k8
  have F9 := fun_mk (st := selement_product) l9 c9 k9
  have F10 := fun_mk (st := swidened) l10 c10 k10
  have F11 := fun_mk (st := simage) l11 c11 k11
  have F12 := fun_mk (st := simage_of_element) l12 c12 k12
  have F13 := fun_mk (st := sjoined) l13 c13 k13
  have F14 := fun_mk (st := s_rank) l14 c14 k14
  have F15 := fun_mk (st := sall_together) l15 c15 k15
  have F16 := fun_mk (st := s_all_in_one_tower) l16 c16 k16
  have F17 := fun_mk (st := s_alike) l17 c17 k17
  have F18 := fun_mk (st := s_shortest) l18 c18 k18
  have F19 := fun_mk (st := sline_shape) l19 c19 k19
  have F20 := fun_mk (st := s_cross) l20 c20 k20
  have F21 := fun_mk (st := scircle_shape) l21 c21 k21
  have F22 := fun_mk (st := s_square) l22 c22 k22
  have F23 := fun_mk (st := son_shape) l23 c23 k23
  have F24 := fun_mk (st := s_side_of_line) l24 c24 k24
  have F25 := fun_mk (st := ssame_shapes) l25 c25 k25
  have F26 := fun_mk (st := ssame) l26 c26 k26
  have F27 := fun_mk (st := slies_on) l27 c27 k27
  have F28 := fun_mk (st := s_two_shapes) l28 c28 k28
  have F29 := fun_mk (st := s_points_in) l29 c29 k29
  have F30 := fun_mk (st := s_shape) l30 c30 k30
  have F31 := fun_mk (st := s_law_state) l31 c31 k31
  have F32 := fun_mk (st := s_law_take) l32 c32 k32
  have F33 := fun_mk (st := s_law_point) l33 c33 k33
  have F34 := fun_mk (st := s_law_two_points) l34 c34 k34
  have F35 := fun_mk (st := s_law_line) l35 c35 k35
  have F36 := fun_mk (st := s_law_made_point) l36 c36 k36
  have F37 := fun_mk (st := s_law_says) l37 c37 k37
  have F38 := fun_mk (st := slaw) l38 c38 k38
  have b1 := F1.binds (ps := ["one", "other"]) fun _ _ _ _ _ _ us hl => match us, hl with | [_, _], _ => rfl
  have b2 := F2.binds (ps := ["one", "other"]) fun _ _ _ _ _ _ us hl => match us, hl with | [_, _], _ => rfl
  have b3 := F3.binds (ps := ["vector", "factor"]) fun _ _ _ _ _ _ us hl => match us, hl with | [_, _], _ => rfl
  have b4 := F4.binds (ps := ["vector", "size"]) fun _ _ _ _ _ _ us hl => match us, hl with | [_, _], _ => rfl
  have b5 := F5.binds (ps := ["tower", "one", "other"]) fun _ _ _ _ _ _ us hl => match us, hl with | [_, _, _], _ => rfl
  have b6 := F6.binds (ps := ["vector", "scale"]) fun _ _ _ _ _ _ us hl => match us, hl with | [_, _], _ => rfl
  have b7 := F7.binds (ps := ["one", "other"]) fun _ _ _ _ _ _ us hl => match us, hl with | [_, _], _ => rfl
  have b8 := F8.binds (ps := ["one", "other"]) fun _ _ _ _ _ _ us hl => match us, hl with | [_, _], _ => rfl
  have b9 := F9.binds (ps := ["tower", "one", "other"]) fun _ _ _ _ _ _ us hl => match us, hl with | [_, _, _], _ => rfl
  have b10 := F10.binds (ps := ["element", "size"]) fun _ _ _ _ _ _ us hl => match us, hl with | [_, _], _ => rfl
  have b11 := F11.binds (ps := ["tower", "images", "vector"]) fun _ _ _ _ _ _ us hl => match us, hl with | [_, _, _], _ => rfl
  have b12 := F12.binds (ps := ["tower", "images", "element"]) fun _ _ _ _ _ _ us hl => match us, hl with | [_, _, _], _ => rfl
  have b13 := F13.binds (ps := ["tower", "other", "most"]) fun _ _ _ _ _ _ us hl => match us, hl with | [_, _, _], _ => rfl
  have b14 := F14.binds (ps := ["tower"]) fun _ _ _ _ _ _ us hl => match us, hl with | [_], _ => rfl
  have b15 := F15.binds (ps := ["pairs"]) fun _ _ _ _ _ _ us hl => match us, hl with | [_], _ => rfl
  have b16 := F16.binds (ps := ["pairs", "most"]) fun _ _ _ _ _ _ us hl => match us, hl with | [_, _], _ => rfl
  have b17 := F17.binds (ps := ["one", "other"]) fun _ _ _ _ _ _ us hl => match us, hl with | [_, _], _ => rfl
  have b18 := F18.binds (ps := ["element"]) fun _ _ _ _ _ _ us hl => match us, hl with | [_], _ => rfl
  have b19 := F19.binds (ps := ["field", "one", "other"]) fun _ _ _ _ _ _ us hl => match us, hl with | [_, _, _], _ => rfl
  have b20 := F20.binds (ps := ["field", "one", "other"]) fun _ _ _ _ _ _ us hl => match us, hl with | [_, _, _], _ => rfl
  have b21 := F21.binds (ps := ["field", "centre", "one", "other"]) fun _ _ _ _ _ _ us hl => match us, hl with | [_, _, _, _], _ => rfl
  have b22 := F22.binds (ps := ["field", "pair"]) fun _ _ _ _ _ _ us hl => match us, hl with | [_, _], _ => rfl
  have b23 := F23.binds (ps := ["field", "point", "shape"]) fun _ _ _ _ _ _ us hl => match us, hl with | [_, _, _], _ => rfl
  have b24 := F24.binds (ps := ["field", "point", "line"]) fun _ _ _ _ _ _ us hl => match us, hl with | [_, _, _], _ => rfl
  have b25 := F25.binds (ps := ["field", "one", "other"]) fun _ _ _ _ _ _ us hl => match us, hl with | [_, _, _], _ => rfl
  have b26 := F26.binds (ps := ["one", "other"]) fun _ _ _ _ _ _ us hl => match us, hl with | [_, _], _ => rfl
  have b27 := F27.binds (ps := ["point", "figure"]) fun _ _ _ _ _ _ us hl => match us, hl with | [_, _], _ => rfl
  have b28 := F28.binds (ps := ["field", "one", "other"]) fun _ _ _ _ _ _ us hl => match us, hl with | [_, _, _], _ => rfl
  have b29 := F29.binds (ps := ["field", "points"]) fun _ _ _ _ _ _ us hl => match us, hl with | [_, _], _ => rfl
  have b30 := F30.binds (ps := ["field", "word", "points"]) fun _ _ _ _ _ _ us hl => match us, hl with | [_, _, _], _ => rfl
  have b31 := F31.binds (ps := ["script"]) fun _ _ _ _ _ _ us hl => match us, hl with | [_], _ => rfl
  have b32 := F32.binds (ps := ["state", "many"]) fun _ _ _ _ _ _ us hl => match us, hl with | [_, _], _ => rfl
  have b33 := F33.binds (ps := ["state", "most"]) fun _ _ _ _ _ _ us hl => match us, hl with | [_, _], _ => rfl
  have b34 := F34.binds (ps := ["state", "most"]) fun _ _ _ _ _ _ us hl => match us, hl with | [_, _], _ => rfl
  have b35 := F35.binds (ps := ["one", "other"]) fun _ _ _ _ _ _ us hl => match us, hl with | [_, _], _ => rfl
  have b36 := F36.binds (ps := ["point"]) fun _ _ _ _ _ _ us hl => match us, hl with | [_], _ => rfl
  have b37 := F37.binds (ps := ["told", "due"]) fun _ _ _ _ _ _ us hl => match us, hl with | [_, _], _ => rfl
  have gI1 := PySem.W.mg_of X G i1
  have M : Names mg := { ValueError := PySem.W.mg_none_of X G z1, tuple := PySem.W.mg_none_of X G z2, any := PySem.W.mg_none_of X G z3, reversed := PySem.W.mg_none_of X G z4, enumerate := PySem.W.mg_none_of X G z5, zip := PySem.W.mg_none_of X G z6, range := PySem.W.mg_none_of X G z7, len := PySem.W.mg_none_of X G z8, max := PySem.W.mg_none_of X G z9, NotImplemented := PySem.W.mg_none_of X G z10, abs := PySem.W.mg_none_of X G z11, int := PySem.W.mg_none_of X G z12, isinstance := PySem.W.mg_none_of X G z13, bool := PySem.W.mg_none_of X G z14, min := PySem.W.mg_none_of X G z15, sum := PySem.W.mg_none_of X G z16 }
  refine ⟨PySem.W.fnOf "law" "law" (defArgs slaw) (defBody slaw) (defScope slaw) .none kV38 dc38 pm38 an38 cd38 ct38, fun s v => .of_eq rfl, fun base _ _ => ?_⟩
  have TN : NumT K eN := ⟨⟨eN2, eN3, eN4, eN5⟩, eN80, eN81⟩
  have TF : FldT K eF := ⟨⟨eF2, eF3, eF4, eF5⟩, eF80, eF81⟩
  have FN : FunD K "__init__" "Number.__init__" (defArgs sNi) (defBody sNi) (defScope sNi) [.int 1] [] gN _ := ⟨⟨_, _, _, _, _, _, _, _, _, _, rfl, eNb, eNc, .inr ⟨by simp, aT, _, [.int 1 tT], _, rfl, yT, rfl, .cons ⟨_, rfl⟩ .nil⟩, .inl rfl⟩, eNd⟩
  obtain ⟨dsN, vN, bN⟩ := FN.binds1 (ps := ["self", "n", "d"]) 2 0 (by simp) rfl (fun T kV doc pm an cdv ct us its hu hi => match us, its, hu, hi with | [_, _], [_], _, _ => ⟨_, rfl, rfl⟩)
  have FF := fun_mk (st := sFi) eFb eFc eFd
  have bF := FF.binds (ps := ["self"]) fun _ _ _ _ _ _ us hl => match us, hl with | [_], _ => rfl
  have MN : Mk K eN gN := ⟨eN6, eN9, eNa, eN7⟩
  have MF : Mk K eF gF := ⟨eF6, eF9, eFa, eF7⟩
  have hN := PySem.W.mg_of X G eN1
  have hF := PySem.W.mg_of X G eF1
  have sZ : ∀ H : Hp, SqT K H aZ [V.ref aZv, V.int 1] := fun H => .inr ⟨_, _, _, yZ1, rfl, rfl, (by show 2 ≤ sizeLine; decide), (.cons rfl (.cons ⟨_, rfl⟩ .nil))⟩
  have sZv : ∀ H : Hp, SqT K H aZv [V.int 0] := fun H => .inr ⟨_, _, _, yZ2, rfl, rfl, (by show 1 ≤ sizeLine; decide), (.cons ⟨_, rfl⟩ .nil)⟩
  have ZZ : ZeroT K mg aZ := ⟨PySem.W.mg_of X G yZ0, fun H => .tup (sZ H) (.cons (.tup (sZv H) (.cons (.int _) .nil)) (.cons (.int _) .nil))⟩
  have Fm0 := fun_mk (st := sholding) m03 m04 m05
  have bm0 := Fm0.binds (ps := ["self", "numbers"]) fun _ _ _ _ _ _ us hl => match us, hl with | [_, _], _ => rfl
  have Fm1 := fun_mk (st := sFplus) m13 m14 m15
  have bm1 := Fm1.binds (ps := ["self", "one", "other"]) fun _ _ _ _ _ _ us hl => match us, hl with | [_, _, _], _ => rfl
  have Fm2 := fun_mk (st := sFminus) m23 m24 m25
  have bm2 := Fm2.binds (ps := ["self", "one", "other"]) fun _ _ _ _ _ _ us hl => match us, hl with | [_, _, _], _ => rfl
  have Fm3 := fun_mk (st := sFproduct) m33 m34 m35
  have bm3 := Fm3.binds (ps := ["self", "one", "other"]) fun _ _ _ _ _ _ us hl => match us, hl with | [_, _, _], _ => rfl
  have C_law_state_13 : Cal l.prog w K mg base 13 "_law_state" ["script"] (sp_law_state K) := ⟨f31, _, ok_law_state F31 M, b31, PySem.W.mg_of X G a31, k31⟩
  have C_law_take_13 : Cal l.prog w K mg base 13 "_law_take" ["state", "many"] (sp_law_take K) := ⟨f32, _, ok_law_take F32 M, b32, PySem.W.mg_of X G a32, k32⟩
  have C_law_take_11 : Cal l.prog w K mg base 11 "_law_take" ["state", "many"] (sp_law_take K) := ⟨f32, _, ok_law_take F32 M, b32, PySem.W.mg_of X G a32, k32⟩
  have C_law_point_12 : Cal l.prog w K mg base 12 "_law_point" ["state", "most"] (sp_lpoint K) := ⟨f33, _, ok__law_point F33 M C_law_take_11, b33, PySem.W.mg_of X G a33, k33⟩
  have C_law_two_points_13 : Cal l.prog w K mg base 13 "_law_two_points" ["state", "most"] (sp_ltwo K) := ⟨f34, _, ok__law_two_points F34 M C_law_point_12, b34, PySem.W.mg_of X G a34, k34⟩
  have C_law_take_12 : Cal l.prog w K mg base 12 "_law_take" ["state", "many"] (sp_law_take K) := ⟨f32, _, ok_law_take F32 M, b32, PySem.W.mg_of X G a32, k32⟩
  have C_law_point_13 : Cal l.prog w K mg base 13 "_law_point" ["state", "most"] (sp_lpoint K) := ⟨f33, _, ok__law_point F33 M C_law_take_12, b33, PySem.W.mg_of X G a33, k33⟩
  have Clowest_10 : Cal l.prog w K mg base 10 "lowest" ["vector", "scale"] (sp_lowest) := ⟨f6, _, ok_lowest F6 M, b6, PySem.W.mg_of X G a6, k6⟩
  have NM_11 : NMk l.prog w K mg base 11 eN (sp_Ni eN) := ⟨gN, _, dsN, ok_Ni FN TN Clowest_10, bN, vN, MN, hN⟩
  have C_law_made_point_13 : Cal l.prog w K mg base 13 "_law_made_point" ["point"] (sp_lmade eN) := ⟨f36, _, ok_law_made_point F36 M NM_11, b36, PySem.W.mg_of X G a36, k36⟩
  have C_law_line_13 : Cal l.prog w K mg base 13 "_law_line" ["one", "other"] (sp_lline) := ⟨f35, _, ok__law_line F35 M, b35, PySem.W.mg_of X G a35, k35⟩
  have C_law_says_13 : Cal l.prog w K mg base 13 "_law_says" ["told", "due"] (sp_lsays) := ⟨f37, _, ok__law_says F37 M, b37, PySem.W.mg_of X G a37, k37⟩
  have FM_11 : FMk l.prog w K mg base 11 eF (sp_Fi eF) := ⟨gF, _, ok_Fi FF TF, bF, MF, hF⟩
  have C_rank_7 : Cal l.prog w K mg base 7 "_rank" ["tower"] (sp_rank) := ⟨f14, _, ok__rank F14 M, b14, PySem.W.mg_of X G a14, k14⟩
  have Cjoined_7 : Cal l.prog w K mg base 7 "joined" ["tower", "other", "most"] (sp_joined) := ⟨f13, _, ok_joined F13 M, b13, PySem.W.mg_of X G a13, k13⟩
  have Cpadded_5 : Cal l.prog w K mg base 5 "padded" ["vector", "size"] (sp_padded) := ⟨f4, _, ok_padded F4 M, b4, PySem.W.mg_of X G a4, k4⟩
  have Cimage_6 : Cal l.prog w K mg base 6 "image" ["tower", "images", "vector"] (sp_image) := ⟨f11, _, ok_image F11 M Cpadded_5, b11, PySem.W.mg_of X G a11, k11⟩
  have Clowest_6 : Cal l.prog w K mg base 6 "lowest" ["vector", "scale"] (sp_lowest) := ⟨f6, _, ok_lowest F6 M, b6, PySem.W.mg_of X G a6, k6⟩
  have Cimage_of_element_7 : Cal l.prog w K mg base 7 "image_of_element" ["tower", "images", "element"] (sp_ioe) := ⟨f12, _, ok_image_of_element F12 M Cimage_6 Clowest_6, b12, PySem.W.mg_of X G a12, k12⟩
  have C_all_in_one_tower_8 : Cal l.prog w K mg base 8 "_all_in_one_tower" ["pairs", "most"] (sp_all) := ⟨f16, _, ok__all_in_one_tower F16 M C_rank_7 Cjoined_7 Cimage_of_element_7, b16, PySem.W.mg_of X G a16, k16⟩
  have Call_together_9 : Cal l.prog w K mg base 9 "all_together" ["pairs"] (sp_allt) := ⟨f15, _, ok_all_together F15 M gI1 C_all_in_one_tower_8, b15, PySem.W.mg_of X G a15, k15⟩
  have C_shortest_9 : Cal l.prog w K mg base 9 "_shortest" ["element"] (sp_id) := ⟨f18, _, ok__shortest F18 M, b18, PySem.W.mg_of X G a18, k18⟩
  have Qholding_10 : MCal l.prog w K mg base 10 eF "holding" ["self", "numbers"] (sp_holding eF eN) := ⟨gm0, _, ok_holding Fm0 TF TN Call_together_9 C_shortest_9, bm0, ⟨m01, m02, m05⟩⟩
  have C_points_in_11 : Cal l.prog w K mg base 11 "_points_in" ["field", "points"] (sp_points eF eN) := ⟨f29, _, ok_points_in F29 M TF Qholding_10, b29, PySem.W.mg_of X G a29, k29⟩
  have Cpadded_6 : Cal l.prog w K mg base 6 "padded" ["vector", "size"] (sp_padded) := ⟨f4, _, ok_padded F4 M, b4, PySem.W.mg_of X G a4, k4⟩
  have Cwidened_7 : Cal l.prog w K mg base 7 "widened" ["element", "size"] (sp_widened) := ⟨f10, _, ok_widened F10 M Cpadded_6, b10, PySem.W.mg_of X G a10, k10⟩
  have C_alike_8 : Cal l.prog w K mg base 8 "_alike" ["one", "other"] (sp_alike) := ⟨f17, _, ok__alike F17 M Cwidened_7, b17, PySem.W.mg_of X G a17, k17⟩
  have Clowest_7 : Cal l.prog w K mg base 7 "lowest" ["vector", "scale"] (sp_lowest) := ⟨f6, _, ok_lowest F6 M, b6, PySem.W.mg_of X G a6, k6⟩
  have Cminus_7 : Cal l.prog w K mg base 7 "minus" ["one", "other"] (sp_minus) := ⟨f2, _, ok_minus F2 M, b2, PySem.W.mg_of X G a2, k2⟩
  have Ctimes_7 : Cal l.prog w K mg base 7 "times" ["vector", "factor"] (sp_times) := ⟨f3, _, ok_times F3 M, b3, PySem.W.mg_of X G a3, k3⟩
  have Celement_difference_8 : Cal l.prog w K mg base 8 "element_difference" ["one", "other"] (sp_esub) := ⟨f8, _, ok_element_difference F8 M Clowest_7 Cminus_7 Ctimes_7, b8, PySem.W.mg_of X G a8, k8⟩
  have C_shortest_8 : Cal l.prog w K mg base 8 "_shortest" ["element"] (sp_id) := ⟨f18, _, ok__shortest F18 M, b18, PySem.W.mg_of X G a18, k18⟩
  have Qminus_9 : MCal l.prog w K mg base 9 eF "minus" ["self", "one", "other"] (sp_F eF (· - ·)) := ⟨gm2, _, ok_Fminus Fm2 C_alike_8 Celement_difference_8 C_shortest_8, bm2, ⟨m21, m22, m25⟩⟩
  have Cwidened_6 : Cal l.prog w K mg base 6 "widened" ["element", "size"] (sp_widened) := ⟨f10, _, ok_widened F10 M Cpadded_5, b10, PySem.W.mg_of X G a10, k10⟩
  have C_alike_7 : Cal l.prog w K mg base 7 "_alike" ["one", "other"] (sp_alike) := ⟨f17, _, ok__alike F17 M Cwidened_6, b17, PySem.W.mg_of X G a17, k17⟩
  have Cminus_6 : Cal l.prog w K mg base 6 "minus" ["one", "other"] (sp_minus) := ⟨f2, _, ok_minus F2 M, b2, PySem.W.mg_of X G a2, k2⟩
  have Ctimes_6 : Cal l.prog w K mg base 6 "times" ["vector", "factor"] (sp_times) := ⟨f3, _, ok_times F3 M, b3, PySem.W.mg_of X G a3, k3⟩
  have Celement_difference_7 : Cal l.prog w K mg base 7 "element_difference" ["one", "other"] (sp_esub) := ⟨f8, _, ok_element_difference F8 M Clowest_6 Cminus_6 Ctimes_6, b8, PySem.W.mg_of X G a8, k8⟩
  have C_shortest_7 : Cal l.prog w K mg base 7 "_shortest" ["element"] (sp_id) := ⟨f18, _, ok__shortest F18 M, b18, PySem.W.mg_of X G a18, k18⟩
  have Qminus_8 : MCal l.prog w K mg base 8 eF "minus" ["self", "one", "other"] (sp_F eF (· - ·)) := ⟨gm2, _, ok_Fminus Fm2 C_alike_7 Celement_difference_7 C_shortest_7, bm2, ⟨m21, m22, m25⟩⟩
  have Cmultiplied_6 : Cal l.prog w K mg base 6 "multiplied" ["tower", "one", "other"] (sp_multiplied) := ⟨f5, _, ok_multiplied F5 M, b5, PySem.W.mg_of X G a5, k5⟩
  have Celement_product_7 : Cal l.prog w K mg base 7 "element_product" ["tower", "one", "other"] (sp_eprod) := ⟨f9, _, ok_element_product F9 M Clowest_6 Cmultiplied_6, b9, PySem.W.mg_of X G a9, k9⟩
  have Qproduct_8 : MCal l.prog w K mg base 8 eF "product" ["self", "one", "other"] (sp_F eF (· * ·)) := ⟨gm3, _, ok_Fproduct Fm3 TF C_alike_7 Celement_product_7 C_shortest_7, bm3, ⟨m31, m32, m35⟩⟩
  have C_cross_9 : Cal l.prog w K mg base 9 "_cross" ["field", "one", "other"] (sp_cross eF) := ⟨f20, _, ok__cross F20 M TF Qminus_8 Qproduct_8, b20, PySem.W.mg_of X G a20, k20⟩
  have Cline_shape_10 : Cal l.prog w K mg base 10 "line_shape" ["field", "one", "other"] (sp_line_shape eF) := ⟨f19, _, ok_line_shape F19 M TF Qminus_9 C_cross_9, b19, PySem.W.mg_of X G a19, k19⟩
  have Cplus_6 : Cal l.prog w K mg base 6 "plus" ["one", "other"] (sp_plus) := ⟨f1, _, ok_plus F1 M, b1, PySem.W.mg_of X G a1, k1⟩
  have Celement_sum_7 : Cal l.prog w K mg base 7 "element_sum" ["one", "other"] (sp_eadd) := ⟨f7, _, ok_element_sum F7 M Clowest_6 Cplus_6 Ctimes_6, b7, PySem.W.mg_of X G a7, k7⟩
  have Qplus_8 : MCal l.prog w K mg base 8 eF "plus" ["self", "one", "other"] (sp_F eF (· + ·)) := ⟨gm1, _, ok_Fplus Fm1 C_alike_7 Celement_sum_7 C_shortest_7, bm1, ⟨m11, m12, m15⟩⟩
  have C_square_9 : Cal l.prog w K mg base 9 "_square" ["field", "pair"] (sp_square eF) := ⟨f22, _, ok__square F22 M TF Qplus_8 Qproduct_8, b22, PySem.W.mg_of X G a22, k22⟩
  have Ccircle_shape_10 : Cal l.prog w K mg base 10 "circle_shape" ["field", "centre", "one", "other"] (sp_circle_shape eF) := ⟨f21, _, ok_circle_shape F21 M TF Qminus_9 C_square_9, b21, PySem.W.mg_of X G a21, k21⟩
  have C_shape_11 : Cal l.prog w K mg base 11 "_shape" ["field", "word", "points"] (sp_shape eF) := ⟨f30, _, ok__shape F30 M Cline_shape_10 Ccircle_shape_10, b30, PySem.W.mg_of X G a30, k30⟩
  have C_two_shapes_12 : Cal l.prog w K mg base 12 "_two_shapes" ["field", "one", "other"] (sp_twos eF eN) := ⟨f28, _, ok__two_shapes F28 M C_points_in_11 C_shape_11, b28, PySem.W.mg_of X G a28, k28⟩
  have Cpadded_7 : Cal l.prog w K mg base 7 "padded" ["vector", "size"] (sp_padded) := ⟨f4, _, ok_padded F4 M, b4, PySem.W.mg_of X G a4, k4⟩
  have Cwidened_8 : Cal l.prog w K mg base 8 "widened" ["element", "size"] (sp_widened) := ⟨f10, _, ok_widened F10 M Cpadded_7, b10, PySem.W.mg_of X G a10, k10⟩
  have C_alike_9 : Cal l.prog w K mg base 9 "_alike" ["one", "other"] (sp_alike) := ⟨f17, _, ok__alike F17 M Cwidened_8, b17, PySem.W.mg_of X G a17, k17⟩
  have Clowest_8 : Cal l.prog w K mg base 8 "lowest" ["vector", "scale"] (sp_lowest) := ⟨f6, _, ok_lowest F6 M, b6, PySem.W.mg_of X G a6, k6⟩
  have Cminus_8 : Cal l.prog w K mg base 8 "minus" ["one", "other"] (sp_minus) := ⟨f2, _, ok_minus F2 M, b2, PySem.W.mg_of X G a2, k2⟩
  have Ctimes_8 : Cal l.prog w K mg base 8 "times" ["vector", "factor"] (sp_times) := ⟨f3, _, ok_times F3 M, b3, PySem.W.mg_of X G a3, k3⟩
  have Celement_difference_9 : Cal l.prog w K mg base 9 "element_difference" ["one", "other"] (sp_esub) := ⟨f8, _, ok_element_difference F8 M Clowest_8 Cminus_8 Ctimes_8, b8, PySem.W.mg_of X G a8, k8⟩
  have Qminus_10 : MCal l.prog w K mg base 10 eF "minus" ["self", "one", "other"] (sp_F eF (· - ·)) := ⟨gm2, _, ok_Fminus Fm2 C_alike_9 Celement_difference_9 C_shortest_9, bm2, ⟨m21, m22, m25⟩⟩
  have Cmultiplied_8 : Cal l.prog w K mg base 8 "multiplied" ["tower", "one", "other"] (sp_multiplied) := ⟨f5, _, ok_multiplied F5 M, b5, PySem.W.mg_of X G a5, k5⟩
  have Celement_product_9 : Cal l.prog w K mg base 9 "element_product" ["tower", "one", "other"] (sp_eprod) := ⟨f9, _, ok_element_product F9 M Clowest_8 Cmultiplied_8, b9, PySem.W.mg_of X G a9, k9⟩
  have Qproduct_10 : MCal l.prog w K mg base 10 eF "product" ["self", "one", "other"] (sp_F eF (· * ·)) := ⟨gm3, _, ok_Fproduct Fm3 TF C_alike_9 Celement_product_9 C_shortest_9, bm3, ⟨m31, m32, m35⟩⟩
  have C_cross_11 : Cal l.prog w K mg base 11 "_cross" ["field", "one", "other"] (sp_cross eF) := ⟨f20, _, ok__cross F20 M TF Qminus_10 Qproduct_10, b20, PySem.W.mg_of X G a20, k20⟩
  have Csame_shapes_12 : Cal l.prog w K mg base 12 "same_shapes" ["field", "one", "other"] (sp_same eF) := ⟨f25, _, ok_same_shapes F25 M TF ZZ C_cross_11, b25, PySem.W.mg_of X G a25, k25⟩
  have Csame_13 : Cal l.prog w K mg base 13 "same" ["one", "other"] (sp_same2 eN) := ⟨f26, _, ok_same F26 M FM_11 C_two_shapes_12 Csame_shapes_12, b26, PySem.W.mg_of X G a26, k26⟩
  have C_rank_8 : Cal l.prog w K mg base 8 "_rank" ["tower"] (sp_rank) := ⟨f14, _, ok__rank F14 M, b14, PySem.W.mg_of X G a14, k14⟩
  have Cjoined_8 : Cal l.prog w K mg base 8 "joined" ["tower", "other", "most"] (sp_joined) := ⟨f13, _, ok_joined F13 M, b13, PySem.W.mg_of X G a13, k13⟩
  have Cimage_7 : Cal l.prog w K mg base 7 "image" ["tower", "images", "vector"] (sp_image) := ⟨f11, _, ok_image F11 M Cpadded_6, b11, PySem.W.mg_of X G a11, k11⟩
  have Cimage_of_element_8 : Cal l.prog w K mg base 8 "image_of_element" ["tower", "images", "element"] (sp_ioe) := ⟨f12, _, ok_image_of_element F12 M Cimage_7 Clowest_7, b12, PySem.W.mg_of X G a12, k12⟩
  have C_all_in_one_tower_9 : Cal l.prog w K mg base 9 "_all_in_one_tower" ["pairs", "most"] (sp_all) := ⟨f16, _, ok__all_in_one_tower F16 M C_rank_8 Cjoined_8 Cimage_of_element_8, b16, PySem.W.mg_of X G a16, k16⟩
  have Call_together_10 : Cal l.prog w K mg base 10 "all_together" ["pairs"] (sp_allt) := ⟨f15, _, ok_all_together F15 M gI1 C_all_in_one_tower_9, b15, PySem.W.mg_of X G a15, k15⟩
  have C_shortest_10 : Cal l.prog w K mg base 10 "_shortest" ["element"] (sp_id) := ⟨f18, _, ok__shortest F18 M, b18, PySem.W.mg_of X G a18, k18⟩
  have Qholding_11 : MCal l.prog w K mg base 11 eF "holding" ["self", "numbers"] (sp_holding eF eN) := ⟨gm0, _, ok_holding Fm0 TF TN Call_together_10 C_shortest_10, bm0, ⟨m01, m02, m05⟩⟩
  have C_points_in_12 : Cal l.prog w K mg base 12 "_points_in" ["field", "points"] (sp_points eF eN) := ⟨f29, _, ok_points_in F29 M TF Qholding_11, b29, PySem.W.mg_of X G a29, k29⟩
  have Cmultiplied_7 : Cal l.prog w K mg base 7 "multiplied" ["tower", "one", "other"] (sp_multiplied) := ⟨f5, _, ok_multiplied F5 M, b5, PySem.W.mg_of X G a5, k5⟩
  have Celement_product_8 : Cal l.prog w K mg base 8 "element_product" ["tower", "one", "other"] (sp_eprod) := ⟨f9, _, ok_element_product F9 M Clowest_7 Cmultiplied_7, b9, PySem.W.mg_of X G a9, k9⟩
  have Qproduct_9 : MCal l.prog w K mg base 9 eF "product" ["self", "one", "other"] (sp_F eF (· * ·)) := ⟨gm3, _, ok_Fproduct Fm3 TF C_alike_8 Celement_product_8 C_shortest_8, bm3, ⟨m31, m32, m35⟩⟩
  have C_cross_10 : Cal l.prog w K mg base 10 "_cross" ["field", "one", "other"] (sp_cross eF) := ⟨f20, _, ok__cross F20 M TF Qminus_9 Qproduct_9, b20, PySem.W.mg_of X G a20, k20⟩
  have Cline_shape_11 : Cal l.prog w K mg base 11 "line_shape" ["field", "one", "other"] (sp_line_shape eF) := ⟨f19, _, ok_line_shape F19 M TF Qminus_10 C_cross_10, b19, PySem.W.mg_of X G a19, k19⟩
  have Cplus_7 : Cal l.prog w K mg base 7 "plus" ["one", "other"] (sp_plus) := ⟨f1, _, ok_plus F1 M, b1, PySem.W.mg_of X G a1, k1⟩
  have Celement_sum_8 : Cal l.prog w K mg base 8 "element_sum" ["one", "other"] (sp_eadd) := ⟨f7, _, ok_element_sum F7 M Clowest_7 Cplus_7 Ctimes_7, b7, PySem.W.mg_of X G a7, k7⟩
  have Qplus_9 : MCal l.prog w K mg base 9 eF "plus" ["self", "one", "other"] (sp_F eF (· + ·)) := ⟨gm1, _, ok_Fplus Fm1 C_alike_8 Celement_sum_8 C_shortest_8, bm1, ⟨m11, m12, m15⟩⟩
  have C_square_10 : Cal l.prog w K mg base 10 "_square" ["field", "pair"] (sp_square eF) := ⟨f22, _, ok__square F22 M TF Qplus_9 Qproduct_9, b22, PySem.W.mg_of X G a22, k22⟩
  have Ccircle_shape_11 : Cal l.prog w K mg base 11 "circle_shape" ["field", "centre", "one", "other"] (sp_circle_shape eF) := ⟨f21, _, ok_circle_shape F21 M TF Qminus_10 C_square_10, b21, PySem.W.mg_of X G a21, k21⟩
  have C_shape_12 : Cal l.prog w K mg base 12 "_shape" ["field", "word", "points"] (sp_shape eF) := ⟨f30, _, ok__shape F30 M Cline_shape_11 Ccircle_shape_11, b30, PySem.W.mg_of X G a30, k30⟩
  have Cpadded_8 : Cal l.prog w K mg base 8 "padded" ["vector", "size"] (sp_padded) := ⟨f4, _, ok_padded F4 M, b4, PySem.W.mg_of X G a4, k4⟩
  have Cwidened_9 : Cal l.prog w K mg base 9 "widened" ["element", "size"] (sp_widened) := ⟨f10, _, ok_widened F10 M Cpadded_8, b10, PySem.W.mg_of X G a10, k10⟩
  have C_alike_10 : Cal l.prog w K mg base 10 "_alike" ["one", "other"] (sp_alike) := ⟨f17, _, ok__alike F17 M Cwidened_9, b17, PySem.W.mg_of X G a17, k17⟩
  have Clowest_9 : Cal l.prog w K mg base 9 "lowest" ["vector", "scale"] (sp_lowest) := ⟨f6, _, ok_lowest F6 M, b6, PySem.W.mg_of X G a6, k6⟩
  have Cminus_9 : Cal l.prog w K mg base 9 "minus" ["one", "other"] (sp_minus) := ⟨f2, _, ok_minus F2 M, b2, PySem.W.mg_of X G a2, k2⟩
  have Ctimes_9 : Cal l.prog w K mg base 9 "times" ["vector", "factor"] (sp_times) := ⟨f3, _, ok_times F3 M, b3, PySem.W.mg_of X G a3, k3⟩
  have Celement_difference_10 : Cal l.prog w K mg base 10 "element_difference" ["one", "other"] (sp_esub) := ⟨f8, _, ok_element_difference F8 M Clowest_9 Cminus_9 Ctimes_9, b8, PySem.W.mg_of X G a8, k8⟩
  have Qminus_11 : MCal l.prog w K mg base 11 eF "minus" ["self", "one", "other"] (sp_F eF (· - ·)) := ⟨gm2, _, ok_Fminus Fm2 C_alike_10 Celement_difference_10 C_shortest_10, bm2, ⟨m21, m22, m25⟩⟩
  have Cplus_8 : Cal l.prog w K mg base 8 "plus" ["one", "other"] (sp_plus) := ⟨f1, _, ok_plus F1 M, b1, PySem.W.mg_of X G a1, k1⟩
  have Celement_sum_9 : Cal l.prog w K mg base 9 "element_sum" ["one", "other"] (sp_eadd) := ⟨f7, _, ok_element_sum F7 M Clowest_8 Cplus_8 Ctimes_8, b7, PySem.W.mg_of X G a7, k7⟩
  have Qplus_10 : MCal l.prog w K mg base 10 eF "plus" ["self", "one", "other"] (sp_F eF (· + ·)) := ⟨gm1, _, ok_Fplus Fm1 C_alike_9 Celement_sum_9 C_shortest_9, bm1, ⟨m11, m12, m15⟩⟩
  have C_side_of_line_11 : Cal l.prog w K mg base 11 "_side_of_line" ["field", "point", "line"] (sp_side eF) := ⟨f24, _, ok__side_of_line F24 M TF Qplus_10 Qproduct_10, b24, PySem.W.mg_of X G a24, k24⟩
  have C_square_11 : Cal l.prog w K mg base 11 "_square" ["field", "pair"] (sp_square eF) := ⟨f22, _, ok__square F22 M TF Qplus_10 Qproduct_10, b22, PySem.W.mg_of X G a22, k22⟩
  have Con_shape_12 : Cal l.prog w K mg base 12 "on_shape" ["field", "point", "shape"] (sp_on eF) := ⟨f23, _, ok_on_shape F23 M TF ZZ Qminus_11 C_side_of_line_11 C_square_11, b23, PySem.W.mg_of X G a23, k23⟩
  have Clies_on_13 : Cal l.prog w K mg base 13 "lies_on" ["point", "figure"] (sp_lies eN) := ⟨f27, _, ok_lies_on F27 M FM_11 C_points_in_12 C_shape_12 Con_shape_12, b27, PySem.W.mg_of X G a27, k27⟩
  exact oklaw F38 M C_law_state_13 C_law_take_13 C_law_two_points_13 C_law_point_13 C_law_made_point_13 C_law_line_13 C_law_says_13 Csame_13 Clies_on_13
end KO

open PySem PySem.W PyProof.Rows
set_option maxRecDepth 100000 in
set_option maxHeartbeats 0 in
theorem PySem.Challenge.cw_compasswork_k15_same_figures_holds : PySem.Challenge.rw_compasswork_k15_same_figures.Holds := by
  w_on; o_law; k_head; (case hw => w_witness2)
  k_fill
  refine L2.walk_of (l := PySem.Challenge.rw_compasswork_k15_same_figures) (n := 63) (k := 14) (x := "script") (CX := fun _ => L2.CX0) (sp := fun w => KO.splaw _) rfl (by decide) rfl ⟨rfl, by decide, by decide⟩ (fun w h Y => PySem.W.kIn_of Y) ?F (fun _ _ a ns hl _ hS => ⟨a, ns, rfl, hS, hl, fun _ => rfl⟩) (fun _ _ _ _ _ h => h)
  case F =>
    intro w mg fa h KX G hmg
    refine' KO.all_mk KX G hmg ?a1 ?l1 ?c1 ?k1 ?a2 ?l2 ?c2 ?k2 ?a3 ?l3 ?c3 ?k3 ?a4 ?l4 ?c4 ?k4 ?a5 ?l5 ?c5 ?k5 ?a6 ?l6 ?c6 ?k6 ?a7 ?l7 ?c7 ?k7 ?a8 ?l8 ?c8 ?k8 ?a9 ?l9 ?c9 ?k9 ?a10 ?l10 ?c10 ?k10 ?a11 ?l11 ?c11 ?k11 ?a12 ?l12 ?c12 ?k12 ?a13 ?l13 ?c13 ?k13 ?a14 ?l14 ?c14 ?k14 ?a15 ?l15 ?c15 ?k15 ?a16 ?l16 ?c16 ?k16 ?a17 ?l17 ?c17 ?k17 ?a18 ?l18 ?c18 ?k18 ?a19 ?l19 ?c19 ?k19 ?a20 ?l20 ?c20 ?k20 ?a21 ?l21 ?c21 ?k21 ?a22 ?l22 ?c22 ?k22 ?a23 ?l23 ?c23 ?k23 ?a24 ?l24 ?c24 ?k24 ?a25 ?l25 ?c25 ?k25 ?a26 ?l26 ?c26 ?k26 ?a27 ?l27 ?c27 ?k27 ?a28 ?l28 ?c28 ?k28 ?a29 ?l29 ?c29 ?k29 ?a30 ?l30 ?c30 ?k30 ?a31 ?l31 ?c31 ?k31 ?a32 ?l32 ?c32 ?k32 ?a33 ?l33 ?c33 ?k33 ?a34 ?l34 ?c34 ?k34 ?a35 ?l35 ?c35 ?k35 ?a36 ?l36 ?c36 ?k36 ?a37 ?l37 ?c37 ?k37 ?a38 ?l38 ?c38 ?k38 ?z1 ?z2 ?z3 ?z4 ?z5 ?z6 ?z7 ?z8 ?z9 ?z10 ?z11 ?z12 ?z13 ?z14 ?z15 ?z16 ?i1 ?eN1 ?eN2 ?eN3 ?eN4 ?eN5 ?eN6 ?eN7 ?eN80 ?eN81 ?eN9 ?eNa ?eNb ?eNc ?eNd ?eF1 ?eF2 ?eF3 ?eF4 ?eF5 ?eF6 ?eF7 ?eF80 ?eF81 ?eF9 ?eFa ?eFb ?eFc ?eFd ?yT ?yZ0 ?yZ1 ?yZ2 ?m01 ?m02 ?m03 ?m04 ?m05 ?m11 ?m12 ?m13 ?m14 ?m15 ?m21 ?m22 ?m23 ?m24 ?m25 ?m31 ?m32 ?m33 ?m34 ?m35
    (case a1 => first | k_is | rfl)
    (case l1 => first | k_is | rfl)
    (case c1 => first | k_is | rfl)
    (case k1 => first | k_is | rfl)
    (case a2 => first | k_is | rfl)
    (case l2 => first | k_is | rfl)
    (case c2 => first | k_is | rfl)
    (case k2 => first | k_is | rfl)
    (case a3 => first | k_is | rfl)
    (case l3 => first | k_is | rfl)
    (case c3 => first | k_is | rfl)
    (case k3 => first | k_is | rfl)
    (case a4 => first | k_is | rfl)
    (case l4 => first | k_is | rfl)
    (case c4 => first | k_is | rfl)
    (case k4 => first | k_is | rfl)
    (case a5 => first | k_is | rfl)
    (case l5 => first | k_is | rfl)
    (case c5 => first | k_is | rfl)
    (case k5 => first | k_is | rfl)
    (case a6 => first | k_is | rfl)
    (case l6 => first | k_is | rfl)
    (case c6 => first | k_is | rfl)
    (case k6 => first | k_is | rfl)
    (case a7 => first | k_is | rfl)
    (case l7 => first | k_is | rfl)
    (case c7 => first | k_is | rfl)
    (case k7 => first | k_is | rfl)
    (case a8 => first | k_is | rfl)
    (case l8 => first | k_is | rfl)
    (case c8 => first | k_is | rfl)
    (case k8 => first | k_is | rfl)
    (case a9 => first | k_is | rfl)
    (case l9 => first | k_is | rfl)
    (case c9 => first | k_is | rfl)
    (case k9 => first | k_is | rfl)
    (case a10 => first | k_is | rfl)
    (case l10 => first | k_is | rfl)
    (case c10 => first | k_is | rfl)
    (case k10 => first | k_is | rfl)
    (case a11 => first | k_is | rfl)
    (case l11 => first | k_is | rfl)
    (case c11 => first | k_is | rfl)
    (case k11 => first | k_is | rfl)
    (case a12 => first | k_is | rfl)
    (case l12 => first | k_is | rfl)
    (case c12 => first | k_is | rfl)
    (case k12 => first | k_is | rfl)
    (case a13 => first | k_is | rfl)
    (case l13 => first | k_is | rfl)
    (case c13 => first | k_is | rfl)
    (case k13 => first | k_is | rfl)
    (case a14 => first | k_is | rfl)
    (case l14 => first | k_is | rfl)
    (case c14 => first | k_is | rfl)
    (case k14 => first | k_is | rfl)
    (case a15 => first | k_is | rfl)
    (case l15 => first | k_is | rfl)
    (case c15 => first | k_is | rfl)
    (case k15 => first | k_is | rfl)
    (case a16 => first | k_is | rfl)
    (case l16 => first | k_is | rfl)
    (case c16 => first | k_is | rfl)
    (case k16 => first | k_is | rfl)
    (case a17 => first | k_is | rfl)
    (case l17 => first | k_is | rfl)
    (case c17 => first | k_is | rfl)
    (case k17 => first | k_is | rfl)
    (case a18 => first | k_is | rfl)
    (case l18 => first | k_is | rfl)
    (case c18 => first | k_is | rfl)
    (case k18 => first | k_is | rfl)
    (case a19 => first | k_is | rfl)
    (case l19 => first | k_is | rfl)
    (case c19 => first | k_is | rfl)
    (case k19 => first | k_is | rfl)
    (case a20 => first | k_is | rfl)
    (case l20 => first | k_is | rfl)
    (case c20 => first | k_is | rfl)
    (case k20 => first | k_is | rfl)
    (case a21 => first | k_is | rfl)
    (case l21 => first | k_is | rfl)
    (case c21 => first | k_is | rfl)
    (case k21 => first | k_is | rfl)
    (case a22 => first | k_is | rfl)
    (case l22 => first | k_is | rfl)
    (case c22 => first | k_is | rfl)
    (case k22 => first | k_is | rfl)
    (case a23 => first | k_is | rfl)
    (case l23 => first | k_is | rfl)
    (case c23 => first | k_is | rfl)
    (case k23 => first | k_is | rfl)
    (case a24 => first | k_is | rfl)
    (case l24 => first | k_is | rfl)
    (case c24 => first | k_is | rfl)
    (case k24 => first | k_is | rfl)
    (case a25 => first | k_is | rfl)
    (case l25 => first | k_is | rfl)
    (case c25 => first | k_is | rfl)
    (case k25 => first | k_is | rfl)
    (case a26 => first | k_is | rfl)
    (case l26 => first | k_is | rfl)
    (case c26 => first | k_is | rfl)
    (case k26 => first | k_is | rfl)
    (case a27 => first | k_is | rfl)
    (case l27 => first | k_is | rfl)
    (case c27 => first | k_is | rfl)
    (case k27 => first | k_is | rfl)
    (case a28 => first | k_is | rfl)
    (case l28 => first | k_is | rfl)
    (case c28 => first | k_is | rfl)
    (case k28 => first | k_is | rfl)
    (case a29 => first | k_is | rfl)
    (case l29 => first | k_is | rfl)
    (case c29 => first | k_is | rfl)
    (case k29 => first | k_is | rfl)
    (case a30 => first | k_is | rfl)
    (case l30 => first | k_is | rfl)
    (case c30 => first | k_is | rfl)
    (case k30 => first | k_is | rfl)
    (case a31 => first | k_is | rfl)
    (case l31 => first | k_is | rfl)
    (case c31 => first | k_is | rfl)
    (case k31 => first | k_is | rfl)
    (case a32 => first | k_is | rfl)
    (case l32 => first | k_is | rfl)
    (case c32 => first | k_is | rfl)
    (case k32 => first | k_is | rfl)
    (case a33 => first | k_is | rfl)
    (case l33 => first | k_is | rfl)
    (case c33 => first | k_is | rfl)
    (case k33 => first | k_is | rfl)
    (case a34 => first | k_is | rfl)
    (case l34 => first | k_is | rfl)
    (case c34 => first | k_is | rfl)
    (case k34 => first | k_is | rfl)
    (case a35 => first | k_is | rfl)
    (case l35 => first | k_is | rfl)
    (case c35 => first | k_is | rfl)
    (case k35 => first | k_is | rfl)
    (case a36 => first | k_is | rfl)
    (case l36 => first | k_is | rfl)
    (case c36 => first | k_is | rfl)
    (case k36 => first | k_is | rfl)
    (case a37 => first | k_is | rfl)
    (case l37 => first | k_is | rfl)
    (case c37 => first | k_is | rfl)
    (case k37 => first | k_is | rfl)
    (case a38 => first | k_is | rfl)
    (case l38 => first | k_is | rfl)
    (case c38 => first | k_is | rfl)
    (case k38 => first | k_is | rfl)
    (case z1 => first | k_is | rfl)
    (case z2 => first | k_is | rfl)
    (case z3 => first | k_is | rfl)
    (case z4 => first | k_is | rfl)
    (case z5 => first | k_is | rfl)
    (case z6 => first | k_is | rfl)
    (case z7 => first | k_is | rfl)
    (case z8 => first | k_is | rfl)
    (case z9 => first | k_is | rfl)
    (case z10 => first | k_is | rfl)
    (case z11 => first | k_is | rfl)
    (case z12 => first | k_is | rfl)
    (case z13 => first | k_is | rfl)
    (case z14 => first | k_is | rfl)
    (case z15 => first | k_is | rfl)
    (case z16 => first | k_is | rfl)
    (case i1 => first | k_is | rfl)
    (case eN1 => first | k_is | rfl)
    (case eN2 => first | k_is | rfl)
    (case eN3 => first | k_is | rfl)
    (case eN4 => first | k_is | rfl)
    (case eN5 => first | k_is | rfl)
    (case eN6 => first | k_is | rfl)
    (case eN7 => first | k_is | rfl)
    (case eN80 => first | k_is | rfl)
    (case eN81 => first | k_is | rfl)
    (case eN9 => first | k_is | rfl)
    (case eNa => first | k_is | rfl)
    (case eNb => first | k_is | rfl)
    (case eNc => first | k_is | rfl)
    (case eNd => first | k_is | rfl)
    (case eF1 => first | k_is | rfl)
    (case eF2 => first | k_is | rfl)
    (case eF3 => first | k_is | rfl)
    (case eF4 => first | k_is | rfl)
    (case eF5 => first | k_is | rfl)
    (case eF6 => first | k_is | rfl)
    (case eF7 => first | k_is | rfl)
    (case eF80 => first | k_is | rfl)
    (case eF81 => first | k_is | rfl)
    (case eF9 => first | k_is | rfl)
    (case eFa => first | k_is | rfl)
    (case eFb => first | k_is | rfl)
    (case eFc => first | k_is | rfl)
    (case eFd => first | k_is | rfl)
    (case yT => first | k_is | rfl)
    (case yZ0 => first | k_is | rfl)
    (case yZ1 => first | k_is | rfl)
    (case yZ2 => first | k_is | rfl)
    (case m01 => first | k_is | rfl)
    (case m02 => first | k_is | rfl)
    (case m03 => first | k_is | rfl)
    (case m04 => first | k_is | rfl)
    (case m05 => first | k_is | rfl)
    (case m11 => first | k_is | rfl)
    (case m12 => first | k_is | rfl)
    (case m13 => first | k_is | rfl)
    (case m14 => first | k_is | rfl)
    (case m15 => first | k_is | rfl)
    (case m21 => first | k_is | rfl)
    (case m22 => first | k_is | rfl)
    (case m23 => first | k_is | rfl)
    (case m24 => first | k_is | rfl)
    (case m25 => first | k_is | rfl)
    (case m31 => first | k_is | rfl)
    (case m32 => first | k_is | rfl)
    (case m33 => first | k_is | rfl)
    (case m34 => first | k_is | rfl)
    (case m35 => first | k_is | rfl)

