import PyProof.Rows.All
import Wide.All
import OpenK.AllK
import Wide.FinOn
import HandS.ForMost
import HandS.Wide
import HandS.Gcd
import HandS.IsInst
import KE.KExcIs
import HandS.ExcIs
import HandS.ExcInit
import HandS.ExcField
import HandS.ExcOwn
import HandS.WordsExc
import KE.GoesMore
import KE.GoesEnum
import HandS.Iter
import PySem.Challenge.RW_compasswork_k17_well_formed_drawings
set_option Elab.async false
set_option linter.all false
set_option maxRecDepth 100000
/-! what the proofs of all laws share: own rules, heaps, the state of draws, comprehensions, rows of ints -/
namespace KG
open PySem PySem.Spec PyProof.Rows L2
def co (p : List Int) (i : Nat) : Int := p.getD i 0
theorem co_ge {p : List Int} {i : Nat} (h : p.length ≤ i) : co p i = 0 := by
  simp [co, List.getD_eq_getElem?_getD, List.getElem?_eq_none h]
theorem co_mem {row : List Int} {i : Nat} (h : i < row.length) : co row i ∈ row := by simp [co, List.getD_eq_getElem?_getD, h]
/-- // by any divisor but 0 of less than 9000 bits -/
def CDivZ (_ j : Int) : Prop := j ≠ 0 ∧ j.natAbs.log2 < 9000
/-- a def that may be called -/
structure Cal (P : Program) (w : World) (K : PySem.W.Frag) (mg : Str → Option Value) (base : Heap) (k : Nat) (x : Str) (ps : List Str) (sp : Sp) where
  f : Addr
  fd : FuncData
  ok : FnOk P w K mg base CX0 k f fd ps sp
  b : Binds K fd ps []
  m : mg x = some (.ref f)
  kp : PySem.W.keepIn K (.ref f) = true
section
variable {X : Cx}
theorem op_fdivZ : OpR X (binaryOp .FloorDiv) (rI CDivZ fun i j => .int (i.fdiv j)) :=
  opI fun _ _ _ _ _ _ _ hc q => floordiv_int hc.1 q (.inl (PyProof.noPylong_of_log2 hc.2))
end
/-! ### heaps -/
theorem same_new {H : Hp} {p : Addr} (h : H p = none) (o : HO) : Same H (upd H p o) := fun b u q => by rw [upd_ne (ne_of_none q h)]; exact q
/-- all but what stands at p is as it was -/
def But (p : Addr) (H H' : Hp) : Prop := ∀ b o, b ≠ p → H b = some o → H' b = some o
theorem But.refl (p : Addr) (H : Hp) : But p H H := fun _ _ _ h => h
theorem But.trans {p : Addr} {H H1 H2 : Hp} (a : But p H H1) (b : But p H1 H2) : But p H H2 := fun c o n h => b c o n (a c o n h)
theorem But.of {p : Addr} {H H' : Hp} (s : Same H H') : But p H H' := fun b o _ h => s b o h
theorem But.put {p : Addr} (H : Hp) (o : HO) : But p H (upd H p o) := fun b u n h => by rw [upd_ne n]; exact h
theorem But.seq {K : PySem.W.Frag} {p : Addr} {H H' : Hp} {a : Addr} {xs : List V} (e : But p H H') (n : a ≠ p) (h : SqL K H a xs) : SqL K H' a xs := by
  rcases h with (h | ⟨o, h⟩) | h
  · exact .inl (.inl (e _ _ n h))
  · exact .inl (.inr ⟨o, e _ _ n h⟩)
  · exact .inr h
theorem But.seqT {K : PySem.W.Frag} {p : Addr} {H H' : Hp} {a : Addr} {xs : List V} (e : But p H H') (n : a ≠ p) (h : SqT K H a xs) : SqT K H' a xs := by
  rcases h with (h | ⟨o, h⟩) | h
  · exact .inl (.inl (e _ _ n h))
  · exact .inl (.inr ⟨o, e _ _ n h⟩)
  · exact .inr h
theorem Same.seqT {K : PySem.W.Frag} {H H' : Hp} {a : Addr} {xs : List V} (e : Same H H') (h : SqT K H a xs) : SqT K H' a xs := by
  rcases h with (h | ⟨o, h⟩) | h
  · exact .inl (.inl (e _ _ h))
  · exact .inl (.inr ⟨o, e _ _ h⟩)
  · exact .inr h
/-! ### the state that numbers are drawn from -/
def stL (a e : Addr) (r c m : Int) : List V := [.ref a, .int r, .int c, .int m, .ref e, .int 0, .int 0, .int 0]
def StOk (ns : List Int) (r c m : Int) : Prop := (m = 1 ∧ 0 < ns.length) ∨ (m = 0 ∧ 0 ≤ r ∧ 0 ≤ c)
theorem upd_self {H : Hp} {p : Addr} {o : HO} (h : H p = some o) : upd H p o = H := by
  funext b
  by_cases e : b = p
  · rw [e, upd_same, h]
  · rw [upd_ne e]
theorem same_upd {H H' : Hp} (s : Same H H') (p : Addr) (o : HO) : Same (upd H p o) (upd H' p o) := fun b u h => by
  by_cases e : b = p
  · rw [e, upd_same] at h ⊢; exact h
  · rw [upd_ne e] at h ⊢; exact s b u h
theorem but_upd {p : Addr} {H H' : Hp} (s : But p H H') (o : HO) : Same (upd H p o) (upd H' p o) := fun b u h => by
  by_cases e : b = p
  · rw [e, upd_same] at h ⊢; exact h
  · rw [upd_ne e] at h ⊢; exact s b u e h
/-- a list that is to be read whatever stands at p -/
def SqO (K : PySem.W.Frag) (H : Hp) (p a : Addr) (xs : List V) : Prop := ∀ o, SqL K (upd H p o) a xs
theorem SqO.new {K : PySem.W.Frag} {H : Hp} {p a : Addr} {xs : List V} (h : SqL K H a xs) (n : H p = none) : SqO K H p a xs := fun o => (same_new n o).seq h
theorem SqO.now {K : PySem.W.Frag} {H : Hp} {p a : Addr} {xs : List V} {o : HO} (h : SqO K H p a xs) (e : H p = some o) : SqL K H a xs := by
  have := h o
  rwa [upd_self e] at this
theorem SqO.but {K : PySem.W.Frag} {H H' : Hp} {p a : Addr} {xs : List V} (h : SqO K H p a xs) (s : But p H H') : SqO K H' p a xs := fun o => (but_upd s o).seq (h o)
def StX (H : Hp) (p a : Addr) (ns : List Int) : Prop := ∃ (e : Addr) (r c m : Int), H p = some (.lst (stL a e r c m)) ∧ StOk ns r c m
theorem StX.but {H H' : Hp} {p a : Addr} {ns : List Int} (h : StX H p a ns) (e : H' p = H p) : StX H' p a ns := by
  obtain ⟨x, r, c, m, h1, h2⟩ := h
  exact ⟨x, r, c, m, e ▸ h1, h2⟩
theorem StX.same {H H' : Hp} {p a : Addr} {ns : List Int} (h : StX H p a ns) (s : Same H H') : StX H' p a ns := by
  obtain ⟨x, r, c, m, h1, h2⟩ := h
  exact ⟨x, r, c, m, s _ _ h1, h2⟩
theorem at_n {ns : List Int} {i : Int} (h0 : 0 ≤ i) (h1 : i < ns.length) : ∃ v : Int, atI (ns.map V.int) i = some (.int v) := by
  obtain ⟨k, rfl⟩ := Int.eq_ofNat_of_zero_le h0
  have hk : k < ns.length := by omega
  exact ⟨ns[k], atI_nat (by rw [List.getElem?_map, List.getElem?_eq_getElem hk]; rfl)⟩
/-! ### comprehensions whose step leaves the objects as they are -/
section
variable {K : PySem.W.Frag} {a D : Addr} {xs : List V} {g : TG} {te : TE} {vs : List Nat} {σ : L2.St} {H1 : Hp} {Qd : Hp → Prop}
theorem grown {H : Hp} {D : Addr} {xs : List V} {G : V → V} {i : Nat} {x : V} (hx : xs[i]? = some x) (hl : xs.length ≤ 1000) : (((xs.take i).map G).length < sizeLine) ∧ ((xs.take i).map G ++ [G x] = (xs.take (i + 1)).map G) := by
  have hi : i < xs.length := (List.getElem?_eq_some_iff.mp hx).1
  refine ⟨small1000 (by rw [List.length_map, List.length_take]; omega), ?_⟩
  rw [List.take_add_one, hx, List.map_append]; rfl
theorem comp_list (G : V → V) (hx : SqL K H1 a xs) (hD : H1 D = none) (hl : xs.length ≤ 1000)
    (hs : ∀ (i : Nat) (x : V) (H : Hp) (Nx : V → Hp → Prop), xs[i]? = some x → Same H1 H → Nx (G x) H → g x (wipe σ vs) H fun σ2 H2 => wipe σ2 vs = wipe σ vs ∧ te σ2 H2 Nx)
    (hd : ∀ H, Same H1 H → H D = some (.lst (xs.map G)) → Qd H) :
    ∃ W : Nat → Nat → Hp → Prop, (∃ m, W 0 m (upd H1 D (.lst []))) ∧ ∀ i m H, W i m H →
      ((Itl K a).stop i H ∧ Qd H) ∨ ((Itl K a).go i H ∧ ∃ Nx : Hp → Prop, (∀ H', Nx H' → ∃ m', m' < m ∧ W (i + 1) m' H') ∧ ∀ x H', (Itl K a).yld i H x H' → g x (wipe σ vs) H' fun σ2 H2 => wipe σ2 vs = wipe σ vs ∧ tYes σ2 H2 fun b H3 =>
        if b = true then te σ2 H3 fun y H4 => ∃ acc, H4 D = some (.lst acc) ∧ acc.length < sizeLine ∧ Nx (upd H4 D (.lst (acc ++ [y]))) else Nx H3) := by
  refine lc_list (xs := xs) (fun i H => Same H1 H ∧ H D = some (.lst ((xs.take i).map G))) ⟨same_new hD _, upd_same⟩ (fun i H _ h => h.1.seq hx) (fun i x H hix h => ?_) (fun H h => hd H h.1 (by rw [h.2, List.take_length]))
  have hg := grown (H := H) (D := D) (G := G) hix hl
  have := hs i x H (fun y H4 => ∃ acc, H4 D = some (.lst acc) ∧ acc.length < sizeLine ∧ (Same H1 (upd H4 D (.lst (acc ++ [y]))) ∧ (upd H4 D (.lst (acc ++ [y]))) D = some (.lst ((xs.take (i + 1)).map G)))) hix h.1
    ⟨_, h.2, hg.1, fun b o e => by rw [upd_ne (ne_of_none e hD)]; exact h.1 b o e, by rw [upd_same, hg.2]⟩
  exact this
theorem comp_tup (G : V → V) (hx : SqT K H1 a xs) (hD : H1 D = none) (hl : xs.length ≤ 1000)
    (hs : ∀ (i : Nat) (x : V) (H : Hp) (Nx : V → Hp → Prop), xs[i]? = some x → Same H1 H → Nx (G x) H → g x (wipe σ vs) H fun σ2 H2 => wipe σ2 vs = wipe σ vs ∧ te σ2 H2 Nx)
    (hd : ∀ H, Same H1 H → H D = some (.lst (xs.map G)) → Qd H) :
    ∃ W : Nat → Nat → Hp → Prop, (∃ m, W 0 m (upd H1 D (.lst []))) ∧ ∀ i m H, W i m H →
      ((Itt K a).stop i H ∧ Qd H) ∨ ((Itt K a).go i H ∧ ∃ Nx : Hp → Prop, (∀ H', Nx H' → ∃ m', m' < m ∧ W (i + 1) m' H') ∧ ∀ x H', (Itt K a).yld i H x H' → g x (wipe σ vs) H' fun σ2 H2 => wipe σ2 vs = wipe σ vs ∧ tYes σ2 H2 fun b H3 =>
        if b = true then te σ2 H3 fun y H4 => ∃ acc, H4 D = some (.lst acc) ∧ acc.length < sizeLine ∧ Nx (upd H4 D (.lst (acc ++ [y]))) else Nx H3) := by
  refine lc_tup (xs := xs) (fun i H => Same H1 H ∧ H D = some (.lst ((xs.take i).map G))) ⟨same_new hD _, upd_same⟩ (fun i H _ h => Same.seqT h.1 hx) (fun i x H hix h => ?_) (fun H h => hd H h.1 (by rw [h.2, List.take_length]))
  have hg := grown (H := H) (D := D) (G := G) hix hl
  have := hs i x H (fun y H4 => ∃ acc, H4 D = some (.lst acc) ∧ acc.length < sizeLine ∧ (Same H1 (upd H4 D (.lst (acc ++ [y]))) ∧ (upd H4 D (.lst (acc ++ [y]))) D = some (.lst ((xs.take (i + 1)).map G)))) hix h.1
    ⟨_, h.2, hg.1, fun b o e => by rw [upd_ne (ne_of_none e hD)]; exact h.1 b o e, by rw [upd_same, hg.2]⟩
  exact this
end
/-- a list or a tuple -/
def Sq (K : PySem.W.Frag) (H : Hp) (a : Addr) (xs : List V) : Prop := SqL K H a xs ∨ SqT K H a xs
theorem Sq.same {K : PySem.W.Frag} {H H' : Hp} {a : Addr} {xs : List V} (h : Sq K H a xs) (s : Same H H') : Sq K H' a xs := h.elim (fun h => .inl (s.seq h)) fun h => .inr (Same.seqT s h)
theorem Sq.but {K : PySem.W.Frag} {p : Addr} {H H' : Hp} {a : Addr} {xs : List V} (h : Sq K H a xs) (n : a ≠ p) (s : But p H H') : Sq K H' a xs := h.elim (fun h => .inl (s.seq n h)) fun h => .inr (s.seqT n h)
/-! ### ints in lists -/
theorem map_at {row : List Int} {i : Nat} (h : i < row.length) : (row.map V.int)[i]? = some (.int (co row i)) := by
  rw [List.getElem?_map, List.getElem?_eq_getElem h]
  simp [co, List.getD_eq_getElem?_getD, h]
theorem map_atI {row : List Int} {i : Int} (h0 : 0 ≤ i) (h : i < row.length) : atI (row.map V.int) i = some (.int (co row i.toNat)) := by
  obtain ⟨k, rfl⟩ := Int.eq_ofNat_of_zero_le h0
  exact atI_nat (map_at (by omega))
theorem map_last {row : List Int} (h : row ≠ []) : atI (row.map V.int) (-1) = some (.int (co row (row.length - 1))) := by
  have hp := List.length_pos_iff.mpr h
  have e : ixN (row.map V.int).length (-1) = some (row.length - 1) := by
    unfold ixN
    rw [if_neg (by decide), if_pos (by rw [List.length_map]; omega), List.length_map]
    congr 1; omega
  unfold atI
  rw [e]
  exact map_at (by omega)
theorem map_mem {row : List Int} {i : Nat} {x : V} (h : (row.map V.int)[i]? = some x) : i < row.length ∧ x = .int (co row i) := by
  have hi : i < row.length := by
    have := (List.getElem?_eq_some_iff.mp h).1
    rwa [List.length_map] at this
  refine ⟨hi, ?_⟩
  rw [map_at hi] at h
  exact (Option.some.inj h).symm
theorem log_small {z : Int} {n m : Nat} (h : z.natAbs < 2 ^ n) (h0 : 0 < n) (hm : n ≤ m) : z.natAbs.log2 < m := Nat.lt_of_lt_of_le (PySem.Flt.log2_lt_of h0 h) hm
section
variable {D : Addr} {g : TG} {te : TE} {vs : List Nat} {σ : L2.St} {H1 : Hp} {Qd : Hp → Prop}
theorem comp_range (G : Nat → V) (n : Nat) (hD : H1 D = none) (hl : n ≤ 1000)
    (hs : ∀ (i : Nat) (H : Hp) (Nx : V → Hp → Prop), i < n → Same H1 H → Nx (G i) H → g (.int (0 + (i : Nat))) (wipe σ vs) H fun σ2 H2 => wipe σ2 vs = wipe σ vs ∧ te σ2 H2 Nx)
    (hd : ∀ H, Same H1 H → H D = some (.lst ((List.range n).map G)) → Qd H) :
    ∃ W : Nat → Nat → Hp → Prop, (∃ m, W 0 m (upd H1 D (.lst []))) ∧ ∀ i m H, W i m H →
      ((Itr 0 n).stop i H ∧ Qd H) ∨ ((Itr 0 n).go i H ∧ ∃ Nx : Hp → Prop, (∀ H', Nx H' → ∃ m', m' < m ∧ W (i + 1) m' H') ∧ ∀ x H', (Itr 0 n).yld i H x H' → g x (wipe σ vs) H' fun σ2 H2 => wipe σ2 vs = wipe σ vs ∧ tYes σ2 H2 fun b H3 =>
        if b = true then te σ2 H3 fun y H4 => ∃ acc, H4 D = some (.lst acc) ∧ acc.length < sizeLine ∧ Nx (upd H4 D (.lst (acc ++ [y]))) else Nx H3) := by
  refine lc_range (lo := 0) (n := n) (fun i H => Same H1 H ∧ H D = some (.lst ((List.range i).map G))) ⟨same_new hD _, upd_same⟩ (fun i H hi h => ?_) (fun H h => hd H h.1 h.2)
  have := hs i H (fun y H4 => ∃ acc, H4 D = some (.lst acc) ∧ acc.length < sizeLine ∧ (Same H1 (upd H4 D (.lst (acc ++ [y]))) ∧ (upd H4 D (.lst (acc ++ [y]))) D = some (.lst ((List.range (i + 1)).map G)))) hi h.1
    ⟨_, h.2, small1000 (by rw [List.length_map, List.length_range]; omega), fun b o e => by rw [upd_ne (ne_of_none e hD)]; exact h.1 b o e, by rw [upd_same, List.range_succ, List.map_append]; rfl⟩
  exact this
end
/-- an item of a list or a tuple of ints -/
theorem rix {K : PySem.W.Frag} {H : Hp} {a : Addr} {row : List Int} {i : Int} {Q : VK} (h : Sq K H a (row.map V.int)) (h0 : 0 ≤ i) (h1 : i < row.length) (q : Q (.int (co row i.toNat)) H) : rIx K (.ref a) (.int i) H Q :=
  h.elim (fun h => .inl ⟨a, _, _, _, rfl, rfl, h, map_atI h0 h1, q⟩) fun h => .inr (.inl ⟨a, _, _, _, rfl, rfl, h, map_atI h0 h1, q⟩)
theorem set_map {p : List Int} {k : Nat} {z : Int} : (p.map V.int).set k (.int z) = (p.set k z).map V.int := by rw [List.map_set]
theorem ixN_nat {n : Nat} {k : Int} (h0 : 0 ≤ k) (h : k < n) : ixN n k = some k.toNat := by
  unfold ixN; rw [if_pos h0, if_pos h]
theorem cut_to (xs : List V) (n : Nat) (h : n ≤ xs.length) : cutV xs none (some (n : Int)) = xs.take n := by
  unfold cutV
  rw [HT.sIx_none, HT.sIx_nat, Nat.min_eq_left h, List.drop_zero, Nat.sub_zero]
def rLen (K : PySem.W.Frag) : List V → Hp → VK → Prop := fun xs H Q => ∃ p ys, xs = [.ref p] ∧ (SqL K H p ys ∨ SqT K H p ys) ∧ Q (.int ys.length) H
/-! the rules that read the written part, said with it: for use within a comprehension -/
section
variable {X : Cx} {K : PySem.W.Frag}
theorem call_lenK (e : X.K = K) : CallR X (.builtin "len") (rLen K) := by subst e; exact call_len_seq
theorem ix_seqK (e : X.K = K) : IxR X (rIx K) := by subst e; exact ix_seq
theorem ix_listK (e : X.K = K) : IxR X (rIxL K) := by subst e; exact ix_list
theorem ix_tupK (e : X.K = K) : IxR X (rIxT K) := by subst e; exact ix_tup
end
theorem same_put {H H' : Hp} {D : Addr} {o : HO} (s : Same H H') (hD : H D = none) : Same H (upd H' D o) := fun b u h => by
  rw [upd_ne (ne_of_none h hD)]; exact s b u h
/-! rows of ints as data -/
theorem dp_all {K : PySem.W.Frag} {H : Hp} : ∀ r : List Int, DpAll K H (r.map V.int) (r.map PyData.int)
  | [] => .nil
  | x :: r => .cons (.int x) (dp_all r)
theorem lay_all : ∀ r : List Int, PyData.canLayAll0 (r.map PyData.int) = true
  | [] => by simp [PyData.canLayAll0]
  | x :: r => by simp [PyData.canLayAll0, PyData.canLay0, lay_all r]
theorem deep_all : ∀ r : List Int, PyData.depthAll (r.map PyData.int) = 0
  | [] => by simp [PyData.depthAll]
  | x :: r => by simp [PyData.depthAll, PyData.depth, deep_all r]
theorem shaped_l (r : List Int) : SeqAt.shaped (.list (r.map PyData.int)) = true := by
  simp [SeqAt.shaped, PyData.canLay0, lay_all, PyData.depth, deep_all]
theorem shaped_t (r : List Int) : SeqAt.shaped (.tuple (r.map PyData.int)) = true := by
  simp [SeqAt.shaped, PyData.canLay0, lay_all, PyData.depth, deep_all]
theorem eqv_all : ∀ r q : List Int, PyData.eqvAll (r.map PyData.int) (q.map PyData.int) = decide (r = q)
  | [], [] => by simp [PyData.eqvAll]
  | [], y :: q => by simp [PyData.eqvAll]
  | x :: r, [] => by simp [PyData.eqvAll]
  | x :: r, y :: q => by
    have ih := eqv_all r q
    show (PyData.eqv (.int x) (.int y) && PyData.eqvAll (r.map PyData.int) (q.map PyData.int)) = _
    rw [ih]
    have e : PyData.eqv (.int x) (.int y) = (x == y) := by simp [PyData.eqv]
    rw [e, Bool.eq_iff_iff]
    simp
theorem eqv_l (r q : List Int) : PyData.eqv (.list (r.map PyData.int)) (.list (q.map PyData.int)) = decide (r = q) := by
  rw [← eqv_all]; simp [PyData.eqv]
theorem eqv_t (r q : List Int) : PyData.eqv (.tuple (r.map PyData.int)) (.tuple (q.map PyData.int)) = decide (r = q) := by
  rw [← eqv_all]; simp [PyData.eqv]
/-- the reading of a comparison of two rows -/
theorem eq_lists {K : PySem.W.Frag} {H : Hp} {a b : Addr} {r q : List Int} {Q : VK} (h1 : SqL K H a (r.map V.int)) (h2 : SqL K H b (q.map V.int)) (k : Q (.bl (decide (r = q))) H) : rEqD K (.ref a) (.ref b) H Q :=
  ⟨_, _, .lst h1 (dp_all r), .lst h2 (dp_all q), shaped_l r, shaped_l q, by rw [eqv_l]; exact k⟩
theorem eq_tups {K : PySem.W.Frag} {H : Hp} {a b : Addr} {r q : List Int} {Q : VK} (h1 : SqT K H a (r.map V.int)) (h2 : SqT K H b (q.map V.int)) (k : Q (.bl (decide (r = q))) H) : rEqD K (.ref a) (.ref b) H Q :=
  ⟨_, _, .tup h1 (dp_all r), .tup h2 (dp_all q), shaped_t r, shaped_t q, by rw [eqv_t]; exact k⟩
theorem ne_tups {K : PySem.W.Frag} {H : Hp} {a b : Addr} {r q : List Int} {Q : VK} (h1 : SqT K H a (r.map V.int)) (h2 : SqT K H b (q.map V.int)) (k : Q (.bl (!decide (r = q))) H) : rNeD K (.ref a) (.ref b) H Q :=
  ⟨_, _, .tup h1 (dp_all r), .tup h2 (dp_all q), shaped_t r, shaped_t q, by rw [eqv_t]; exact k⟩
theorem call_isiK {X : Cx} {K : PySem.W.Frag} (e : X.K = K) : CallR X (.builtin "isinstance") (rIsi K) := by subst e; exact call_isi
/-- a comprehension over a list whose step may make new objects -/
theorem comp_listS {K : PySem.W.Frag} {a D : Addr} {xs : List V} {g : TG} {te : TE} {vs : List Nat} {σ : L2.St} {H1 : Hp} {Qd : Hp → Prop} (R : V → Prop) (hx : SqL K H1 a xs) (hD : H1 D = none) (hl : xs.length ≤ 1000)
    (hs : ∀ (i : Nat) (x : V) (H : Hp) (Nx : V → Hp → Prop), xs[i]? = some x → Same H1 H → (∀ y H', Same H H' → R y → Nx y H') → g x (wipe σ vs) H fun σ2 H2 => wipe σ2 vs = wipe σ vs ∧ te σ2 H2 Nx)
    (hd : ∀ H ys, Same H1 H → H D = some (.lst ys) → ys.length = xs.length → (∀ y ∈ ys, R y) → Qd H) :
    ∃ W : Nat → Nat → Hp → Prop, (∃ m, W 0 m (upd H1 D (.lst []))) ∧ ∀ i m H, W i m H →
      ((Itl K a).stop i H ∧ Qd H) ∨ ((Itl K a).go i H ∧ ∃ Nx : Hp → Prop, (∀ H', Nx H' → ∃ m', m' < m ∧ W (i + 1) m' H') ∧ ∀ x H', (Itl K a).yld i H x H' → g x (wipe σ vs) H' fun σ2 H2 => wipe σ2 vs = wipe σ vs ∧ tYes σ2 H2 fun b H3 =>
        if b = true then te σ2 H3 fun y H4 => ∃ acc, H4 D = some (.lst acc) ∧ acc.length < sizeLine ∧ Nx (upd H4 D (.lst (acc ++ [y]))) else Nx H3) := by
  refine lc_list (xs := xs) (fun i H => Same H1 H ∧ ∃ ys, H D = some (.lst ys) ∧ ys.length = i ∧ ∀ y ∈ ys, R y) ⟨same_new hD _, [], upd_same, rfl, fun y h => by cases h⟩ (fun i H _ h => h.1.seq hx) (fun i x H hix h => ?_) (fun H h => ?_)
  · obtain ⟨sm, ys, e, l, r⟩ := h
    have hi : i < xs.length := (List.getElem?_eq_some_iff.mp hix).1
    have := hs i x H (fun y H4 => ∃ acc, H4 D = some (.lst acc) ∧ acc.length < sizeLine ∧ (Same H1 (upd H4 D (.lst (acc ++ [y]))) ∧ ∃ ys, (upd H4 D (.lst (acc ++ [y]))) D = some (.lst ys) ∧ ys.length = i + 1 ∧ ∀ y ∈ ys, R y)) hix sm
      (fun y H' s2 hr => ⟨ys, s2 _ _ e, small1000 (by omega), same_put (sm.trans s2) hD, ys ++ [y], upd_same, by rw [List.length_append, l]; rfl, fun z hz => by
        rcases List.mem_append.mp hz with hz | hz
        · exact r z hz
        · rw [List.mem_singleton.mp hz]; exact hr⟩)
    exact this
  · obtain ⟨sm, ys, e, l, r⟩ := h
    exact hd H ys sm e l r
theorem bools : ∀ ys : List V, (∀ y ∈ ys, ∃ b, y = V.bl b) → ∃ bs : List Bool, ys = bs.map V.bl
  | [], _ => ⟨[], rfl⟩
  | y :: ys, h => by
    obtain ⟨b, rfl⟩ := h y List.mem_cons_self
    obtain ⟨bs, rfl⟩ := bools ys fun z hz => h z (List.mem_cons_of_mem _ hz)
    exact ⟨b :: bs, rfl⟩
theorem StX.ne {H : Hp} {p a c : Addr} {ns : List Int} (X : StX H p a ns) (n : H c = none) : c ≠ p := fun z => by
  obtain ⟨_, _, _, _, e, _⟩ := X
  rw [z, e] at n; cases n
end KG

/-! steps of drawings, as the laws make them -/
namespace KG
open PySem PySem.Spec PyProof.Rows L2
structure Stp where
  w : Str
  ns : List Int
def stV (s : Stp) : List V := .str s.w :: s.ns.map V.int
/-- the values are the steps, each a tuple that stands -/
inductive SAt (H : Hp) : List V → List Stp → Prop
  | nil : SAt H [] []
  | cons {t : Addr} {s : Stp} {vs : List V} {ss : List Stp} : H t = some (.tup (stV s)) → SAt H vs ss → SAt H (.ref t :: vs) (s :: ss)
section
variable {H H' : Hp} {vs us : List V} {ss rs : List Stp}
theorem SAt.len (h : SAt H vs ss) : vs.length = ss.length := by
  induction h with
  | nil => rfl
  | cons _ _ ih => rw [List.length_cons, List.length_cons, ih]
theorem SAt.mono (h : SAt H vs ss) (k : ∀ t xs, H t = some (.tup xs) → H' t = some (.tup xs)) : SAt H' vs ss := by
  induction h with
  | nil => exact .nil
  | cons e _ ih => exact .cons (k _ _ e) ih
theorem SAt.same (h : SAt H vs ss) (s : Same H H') : SAt H' vs ss := h.mono fun t xs e => s t _ e
theorem SAt.put {r : Addr} {xs ys : List V} (h : SAt H vs ss) (e : H r = some (.lst xs)) : SAt (upd H r (.lst ys)) vs ss := h.mono fun t zs e2 => by
  rw [upd_ne (ne_of e2 e (by intro z; cases z))]; exact e2
theorem SAt.but {p a : Addr} {ns : List Int} (h : SAt H vs ss) (X : StX H p a ns) (b : But p H H') : SAt H' vs ss := h.mono fun t xs e => b _ _ (fun z => by
  obtain ⟨_, _, _, _, e2, _⟩ := X
  rw [z, e2] at e; cases e) e
theorem SAt.get : ∀ {vs : List V} {ss : List Stp} {i : Nat} {s : Stp}, SAt H vs ss → ss[i]? = some s → ∃ t, vs[i]? = some (.ref t) ∧ H t = some (.tup (stV s))
  | _, _, i, s, .nil, h => by simp at h
  | _, _, 0, s, .cons e _, h => by simp at h; subst h; exact ⟨_, rfl, e⟩
  | _, _, i + 1, s, .cons _ r, h => by
    obtain ⟨t, h1, h2⟩ := SAt.get (i := i) (s := s) r (by simpa using h)
    exact ⟨t, by simpa using h1, h2⟩
theorem SAt.append (h : SAt H vs ss) (k : SAt H us rs) : SAt H (vs ++ us) (ss ++ rs) := by
  induction h with
  | nil => exact k
  | cons e _ ih => exact .cons e ih
theorem SAt.take : ∀ {vs : List V} {ss : List Stp} (n : Nat), SAt H vs ss → SAt H (vs.take n) (ss.take n)
  | _, _, 0, _ => .nil
  | _, _, n + 1, .nil => .nil
  | _, _, n + 1, .cons e r => .cons e (SAt.take n r)
theorem SAt.drop : ∀ {vs : List V} {ss : List Stp} (n : Nat), SAt H vs ss → SAt H (vs.drop n) (ss.drop n)
  | _, _, 0, h => h
  | _, _, n + 1, .nil => .nil
  | _, _, n + 1, .cons _ r => SAt.drop n r
theorem SAt.rep {t : Addr} {s : Stp} (e : H t = some (.tup (stV s))) : ∀ n, SAt H (List.replicate n (.ref t)) (List.replicate n s)
  | 0 => .nil
  | n + 1 => .cons e (SAt.rep e n)
end
/-- whether a step of this word gives a point -/
def isPt (w : Str) : Bool := inV (.str w) [.str "point", .str "meet"]
/-- the forms of steps -/
def SForm (s : Stp) : Prop := (s.w = "point" ∧ s.ns.length = 2) ∨ (s.w = "line" ∧ s.ns.length = 2) ∨ (s.w = "circle" ∧ s.ns.length = 3) ∨ (s.w = "meet" ∧ s.ns.length = 3)
/-- i is the place of a step that gives a point (b), or a figure (not b) -/
def Nm1 (ss : List Stp) (b : Bool) (i : Int) : Prop := 0 ≤ i ∧ ∃ s, ss[i.toNat]? = some s ∧ isPt s.w = b
/-- a step that is drawn by the rules behind ss, its integers within m -/
def SNew (ss : List Stp) (m : Int) (s : Stp) : Prop :=
  (∃ x y, s = ⟨"point", [x, y]⟩ ∧ -m ≤ x ∧ x ≤ m ∧ -m ≤ y ∧ y ≤ m) ∨ (∃ i j, s = ⟨"line", [i, j]⟩ ∧ Nm1 ss true i ∧ Nm1 ss true j) ∨
  (∃ i j k, s = ⟨"circle", [i, j, k]⟩ ∧ Nm1 ss true i ∧ Nm1 ss true j ∧ Nm1 ss true k) ∨ (∃ i j w, s = ⟨"meet", [i, j, w]⟩ ∧ Nm1 ss false i ∧ Nm1 ss false j ∧ 0 ≤ w ∧ w ≤ 1)
theorem SNew.form {ss : List Stp} {m : Int} {s : Stp} (h : SNew ss m s) : SForm s := by
  rcases h with ⟨x, y, rfl, _⟩ | ⟨i, j, rfl, _⟩ | ⟨i, j, k, rfl, _⟩ | ⟨i, j, w, rfl, _⟩
  · exact .inl ⟨rfl, rfl⟩
  · exact .inr (.inl ⟨rfl, rfl⟩)
  · exact .inr (.inr (.inl ⟨rfl, rfl⟩))
  · exact .inr (.inr (.inr ⟨rfl, rfl⟩))
end KG

namespace KG
open PySem PySem.Spec PyProof.Rows L2
theorem cut_from (xs : List V) (n : Nat) (h : n ≤ xs.length) : cutV xs (some (n : Int)) none = xs.drop n := by
  unfold cutV
  rw [HT.sIx_none, HT.sIx_nat, Nat.min_eq_left h]
  exact List.take_of_length_le (by rw [List.length_drop]; omega)
theorem not_whole {n : Nat} {i : Nat} {hi : Option Int} (h : 0 < i) (k : 0 < n) : ¬ (HT.sIx n 0 (some (i : Int)) = 0 ∧ HT.sIx n n hi = n) := fun z => by
  have e : HT.sIx n 0 (some (i : Int)) = min i n := HT.sIx_nat n 0 i
  rw [e] at z
  have := z.1
  omega
end KG

/-! own errors whose __init__ stores one field -/
namespace KG
open PySem PySem.Spec PyProof.Rows L2
/-- isinstance(e, c), e the exception that the suite holds, with fields of its own -/
def rIsED (K : PySem.W.Frag) (D a : Addr) (cls : Value) (d : Option Addr) : List V → Hp → VK → Prop := fun xs H Q => cls = .ref D ∧ ∃ (dd : Addr) (fs : List (Str × V)) (c : V) (cv : Value) (b : Bool), d = some dd ∧ H dd = some (.xd fs) ∧ xs = [.ref a, c] ∧ (∀ u, RelV c u → u = cv) ∧ PySem.W.kitOne K (.ref D) cv = some b ∧ Q (.bl b) H
theorem call_isED {X : Cx} {a D : Addr} {oe : Obj} {cls : Value} {d : Option Addr} {pn : List (Addr × Obj)} (C : ExcC X.K D) (hcl : (PySem.W.clsIn X.K D).isSome = true) (hz : Zc cls d oe) (hf : ∃ vs, oe.data = .fields vs) : CallR (X.suite a ((a, oe) :: pn)) (.builtin "isinstance") (rIsED X.K D a cls d) := by
  intro pins s σ H xs us Q I r h
  obtain ⟨rfl, dd, fs, c, cv, b, rfl, ed, rfl, hcv, e, q⟩ := h
  obtain ⟨u1, u2, rfl, r1, r2⟩ := vals2 r
  cases (show u1 = Value.ref a from r1)
  have ec := hcv _ r2
  subst ec
  obtain ⟨hget, _⟩ := I.pin (a, oe) (List.mem_append.mpr (.inl List.mem_cons_self))
  obtain ⟨vs, hv⟩ := hf
  have hx : ObjOk X.prog X.w H s.heap dd (.xd fs) := I.hok dd _ ed
  obtain ⟨mA, hns, _⟩ := hx
  obtain ⟨od, ho, _⟩ := lookIn_ns hns
  have J : PySem.W.InstAt s.heap a oe D (some od) := ⟨hget, hz.1, by unfold PySem.W.notCls; rw [hv] <;> rfl, by rw [hz.2]; exact ho⟩
  exact PySem.W.kia_one (PySem.W.kitx_exc hcl C.hg C.hk C.hs C.ha C.hn C.ht C.hm) I.kIn J e (fun z => nomatch z) fun tk => ⟨.bl b, H, I.kept (t' := tk) fun _ _ z => z, rfl, q⟩
/-- what the written part says of an own error of the name x with the field f, below the error at W, below ValueError -/
structure OwnE (K : PySem.W.Frag) (mg : Str → Option Value) (x f : Str) (C fI W : Addr) : Prop where
  gC : mg x = some (.ref C)
  oex : OexC K C
  xf : XfC K C
  is : ExcC K C
  cl : (PySem.W.clsIn K C).isSome = true
  noF : PySem.W.findIn K (.ref C) f = some none
  iC : PySem.W.findIn K (.ref C) "__init__" = some (some (.ref fI))
  tI : PySem.W.typeIn K (.ref fI) = some (.type "function")
  exm : PySem.W.exmOne K (.ref C) (.ref C) = some true
  kW : PySem.W.kitOne K (.ref C) (.ref W) = some true
  kV : PySem.W.kitOne K (.ref C) (.type "ValueError") = some true
theorem kit_ref {K : PySem.W.Frag} {t : Value} {W : Addr} (h1 : PySem.W.isClsIn K W = true) (h2 : PySem.W.typeIn K (.ref W) = some (.type "type")) (h3 : PySem.W.subIn K t (.ref W) = some true) : PySem.W.kitOne K t (.ref W) = some true := by
  have h1' : (PySem.W.clsIn K W).isSome = true := h1
  unfold PySem.W.kitOne
  by_cases z : (t == .ref W) = true
  · rw [if_pos z]
  · rw [if_neg z]
    show (if ((PySem.W.clsIn K W).isSome && PySem.W.typeIn K (.ref W) == some (.type "type")) = true then PySem.W.subIn K t (.ref W) else none) = some true
    rw [if_pos (by rw [h1', h2] <;> rfl), h3]
theorem kit_val {K : PySem.W.Frag} {C : Addr} (h3 : PySem.W.subIn K (.ref C) (.type "ValueError") = some true) : PySem.W.kitOne K (.ref C) (.type "ValueError") = some true := by
  unfold PySem.W.kitOne
  rw [if_neg (show ¬ (Value.ref C == Value.type "ValueError") = true from fun z => nomatch (beq_iff_eq.mp z))]
  show (if PySem.W.kitMeta "ValueError" = true then PySem.W.subIn K (.ref C) (.type "ValueError") else none) = some true
  rw [if_pos (by decide +kernel), h3]
theorem own_mk {K : PySem.W.Frag} {h : Heap} {mg : Str → Option Value} {x f : Str} {C fI W : Addr} (X : K.In h) (G : h.Ns mainGlobals mg) {nm q : Str} {N : Addr} {bs : List Value} {sn : List Str} {sub : List Value} {ab : Bool} {col : Option Bool} {dd : Option Addr} {m0 m1 m2 m3 m5 : Option Value}
    (eC : PySem.W.nsIn K mainGlobals x = some (some (.ref C)))
    (eX : K.lookup C = some (excClassObj nm q C N bs [.ref W, .type "ValueError", .type "Exception", .type "BaseException", .type "object"] true sn sub ab col dd m0 m1 m2 m3 m5 "ValueError.__new__"))
    (e1 : PySem.W.findIn K (.ref C) "__setattr__" = some (some (.builtin "object.__setattr__"))) (e2 : PySem.W.findIn K (.ref C) "__getattribute__" = some (some (.builtin "BaseException.__getattribute__"))) (e3 : PySem.W.findIn K (.ref C) "__getattr__" = some none) (e4 : PySem.W.findIn K (.ref C) f = some none)
    (e5 : PySem.W.findIn K (.ref C) "__init__" = some (some (.ref fI))) (e6 : PySem.W.typeIn K (.ref fI) = some (.type "function")) (e7 : PySem.W.keepIn K (.ref C) = true) (e8 : PySem.W.subIn K (.ref C) (.type "BaseException") = some true) (e9 : PySem.W.typeIn K (.ref C) = some (.type "type")) (e10 : PySem.W.hasDictIn K C = true)
    (e11 : PySem.W.isClsIn K C = true) (e12 : PySem.W.subIn K (.ref C) (.ref C) = some true) (e13 : PySem.W.subIn K (.ref C) (.ref W) = some true) (e14 : PySem.W.typeIn K (.ref W) = some (.type "type")) (e15 : PySem.W.isClsIn K W = true) (e16 : PySem.W.subIn K (.ref C) (.type "ValueError") = some true)
    (e17 : PySem.W.findIn K (.ref C) "__class__" = some (some (.builtin "object.__class__"))) (e18 : PySem.W.specialIn K (.builtin "object.__class__") "__get__" = some (some (.builtin "getset_descriptor.__get__"))) (e19 : PySem.W.takesIn K (.builtin "object.__class__") = some true) (e20 : PySem.W.mroIn K C (.type "object") = some true) : OwnE K mg x f C fI W :=
  { gC := PySem.W.mg_of X G eC, oex := ⟨⟨nm, q, N, bs, _, sn, sub, ab, col, dd, m0, m1, m2, m3, m5, eX, rfl⟩, e1, e8, e9, e7⟩, xf := ⟨e2, e3, e8, e10⟩, is := ⟨e2, e3, e8, e10, e17, e18, e19, e20⟩, cl := e11, noF := e4, iC := e5, tI := e6, exm := PySem.W.exm_ref e8 e10 e9 e12, kW := kit_ref e15 e14 e13, kV := kit_val e16 }
/-- self.f = v, at an exception that is being made -/
def spInit (K : PySem.W.Frag) (f : Str) (C : Addr) : Sp := fun vs H Q _ => ∃ (a : Addr) (v : V), vs = [.ref a, v] ∧ OexC K C ∧ PySem.W.findIn K (.ref C) f = some none ∧ H a = some (exo a C none) ∧
  ∀ dx, H dx = none → dx ≠ a → Q .non (upd (upd H dx (exd dx [(f, v)])) a (exo a C (some dx)))
/-- the i-th statement of a class's body -/
def inCls : Stmt → Nat → Stmt
  | .ClassDef _ _ _ body _ _ _ _ _ _ _, i => body.getD i (.Pass ⟨0, 0, 0, 0⟩)
  | _, _ => .Pass ⟨0, 0, 0, 0⟩
end KG

/-! enumerate of a tuple -/
namespace KG
open PySem PySem.Spec PyProof.Rows L2
set_option maxHeartbeats 1000000 in
theorem enum_new1 {v : Value} {o : Obj} {Hq : Heap → Prop} (B : Begins v o Hq) : Meets (Builtin.«enumerate.__new__» ⟨[.type "enumerate", v], []⟩) (fun _ R s => Hq s.heap ∧ R (.ok (.ret (.ref (s.heap.push o).objs.size))) { s with heap := (s.heap.push o).push { cls := .type "enumerate", data := .fields #[.none, .bool false, .ref s.heap.objs.size, rawInt 0, .none, .none] } }) :=
  .of_wp fun prog w A R s h => by
    obtain ⟨hp, g, d, tk, os⟩ := s
    obtain ⟨h1, h⟩ := h
    have isub := sub_enumerate
    have q1 : ∀ {A' : Around} {E : Value → Shared → Prop} {Q : Value → Shared → Prop}, Q (.ref hp.objs.size) ⟨hp.push o, g, d, tk, os⟩ → wpAny (model prog w) A' (pyIter v) Q E ⟨hp, g, d, tk, os⟩ := fun q => B.iter prog w _ _ ⟨hp, g, d, tk, os⟩ _ h1 q
    wp_walk using q1
    refine wpAny_stack_any fun st => wpAny_pure ?_
    split
    · rename_i c _ _ _ _ _
      cases (c == Value.type "enumerate") <;> (wp_walk using q1; exact ⟨_, rfl, h⟩)
    · wp_walk using q1; exact ⟨_, rfl, h⟩
theorem call_enum1 {prog : Program} {w : World} {A : Around} {E : Value → Shared → Prop} {s : Shared} {v : Value} {o : Obj} {Hq : Heap → Prop} {Q : Value → Shared → Prop} (B : Begins v o Hq) (h1 : Hq s.heap)
    (h : ∀ h', IsEnum h' (s.heap.objs.size + 1) s.heap.objs.size 0 .none → h'.get? s.heap.objs.size = some o → (∀ b u, s.heap.get? b = some u → h'.get? b = some u) → Q (.ref (s.heap.objs.size + 1)) { s with heap := h' }) : wpAny (model prog w) A (call (.type "enumerate") [v]) Q E s := by
  refine callType_new F.called_enumerate (by decide) (F.typeCall_enumerate_1 _) (F.newCall_enumerate_1 _) (fun obj => F.args_object_init_2 obj _) F.entry_enumerate_new (enum_new1 B) ⟨h1, ?_⟩
  have hz : (s.heap.push o).objs.size = s.heap.objs.size + 1 := Heap.size_push ..
  show _ ∧ _
  rw [hz]
  have he : IsEnum ((s.heap.push o).push { cls := .type "enumerate", data := .fields #[.none, .bool false, .ref s.heap.objs.size, rawInt 0, .none, .none] }) (s.heap.objs.size + 1) s.heap.objs.size 0 .none := by
    have e := Heap.get?_push_size (s.heap.push o) (o := { cls := .type "enumerate", data := .fields #[.none, .bool false, .ref s.heap.objs.size, rawInt 0, .none, .none] }) rfl
    rwa [hz] at e
  exact ⟨⟨_, he, rfl⟩, h _ he (Heap.get?_push_of_some _ (Heap.get?_push_size _ B.free)) fun b u x => Heap.get?_push_of_some _ (Heap.get?_push_of_some _ x)⟩
/-- the tuple at a as it stands at each turn, each item in a new pair with its place -/
def IteT (K : PySem.W.Frag) (a : Addr) : It where
  go := fun i H => ∃ xs x, SqT K H a xs ∧ xs[i]? = some x
  yld := fun i H v H' => ∃ T x, v = .ref T ∧ H T = none ∧ H' = upd H T (.tup [.int (i : Nat), x]) ∧ ∀ us, SqT K H a us → us[i]? = some x
  stop := fun i H => ∃ xs, SqT K H a xs ∧ i = xs.length
section
variable {P : Program} {w : World} {K : PySem.W.Frag} {es : List Expr} {n : Nat} {tp : Pos}
theorem turn_enumT {a e t : Addr} (ne : e ≠ t) (na : a ≠ t) (ae : a ≠ e) : Turn P w K (.Tuple es n tp) (IteT K a) [e, t] e (fun k h => (∃ old, IsEnum h e t (k : Int) old) ∧ h.IsTupleIter t a k) := by
  refine { mem := by simp, obj := ?obj, keep := ?keep, item := ?item, done := ?done, self := fun _ _ _ _ _ st h => let ⟨⟨_, q⟩, _⟩ := st; wpAny_pyIter_enum q h }
  case obj =>
    rintro k h ⟨⟨old, s1⟩, ⟨o1, p1, _, p2⟩⟩ c hc
    rcases List.mem_cons.mp hc with rfl | hc
    · exact ⟨_, s1, fun v q => nomatch q⟩
    · rw [List.mem_singleton.mp hc]
      exact ⟨o1, p1, fun v q => by rw [p2] at q; cases q⟩
  case keep =>
    rintro k h h' ⟨⟨old, s1⟩, s2⟩ kp
    exact ⟨⟨old, kp e (by simp) _ s1⟩, s2.at fun _ q => kp t (by simp) _ q⟩
  case item =>
    rintro X rfl rfl rfl hc k pins s σ H E I hf ⟨⟨old, s1⟩, s2⟩ ⟨xs, x, qx, gx⟩
    obtain ⟨its, r1, p1, _⟩ := I.tuple qx
    obtain ⟨w1, f1, rw1⟩ := r1.get gx
    have b1 : k < its.toArray.size := by rw [List.size_toArray]; exact (List.getElem?_eq_some_iff.mp f1).1
    have hh : X.A.in1.handled = none := I.ok.hd hc
    have elt := Heap.lt_size s1
    have hef : e ∉ [t, a] := fun hm => by
      rcases List.mem_cons.mp hm with q | q
      · exact ne q
      · exact ae (List.mem_singleton.mp q).symm
    refine wpAny_pyNext_enum_itemD (Draws.tuple hh t a na its.toArray) s1 ⟨s2, p1⟩ b1 ne hef fun x1 h' tk hP ho hs' hT hsz hk => ?_
    have ex1 : x1 = w1 := by
      have : its[k]? = some x1 := by simpa using hP
      rw [f1] at this; exact (Option.some.inj this).symm
    subst ex1
    refine ⟨_, rfl, wpAny_letOwnedTupleGo_enum (s := { s with heap := h', toks := tk + 1 }) ho fun h2 he2 sb => ?_⟩
    have g2 : ∀ c ob, c ≠ e → h'.get? c = some ob → h2.get? c = some ob := fun c ob nc q => (sb.2 c nc).trans q
    have T2 := g2 _ _ (Nat.ne_of_gt elt) hT
    have nw : ObjOk X.prog X.w (upd H s.heap.objs.size (.tup [.int (k : Nat), x])) h2 s.heap.objs.size (.tup [.int (k : Nat), x]) := ⟨(by show 2 ≤ sizeLine; decide), [.int k tk, x1], .cons ⟨_, rfl⟩ (.cons rw1 .nil), ⟨_, T2, rfl, _, rfl⟩⟩
    have I1 : Inv X pins σ (upd H s.heap.objs.size (.tup [.int (k : Nat), x])) { s with heap := h2, toks := tk + 1 } := I.turnedNew (ch := [e, t]) (fun c ob hb q => by
      have n1 : c ≠ e := fun z => hb (by simp [z])
      have n2 : c ≠ t := fun z => hb (by simp [z])
      exact g2 _ _ n1 (hk c ob n1 n2 q)) hf (Nat.le_refl _) nw
    refine ⟨.ref s.heap.objs.size, _, I1, rfl, ⟨_, x, rfl, I.hok.fresh (Nat.le_refl _), rfl, fun us hu => by rw [I.tuple_inj hu qx]; exact gx⟩, ⟨⟨x1, ?_⟩, hs'.1.at fun _ q => g2 _ _ (Ne.symm ne) q⟩, fun c hcm => ?_⟩
    · have e1 : ((k + 1 : Nat) : Int) = (k : Int) + 1 := by omega
      rw [e1]; exact he2
    · have lt : c < s.heap.objs.size := by
        rcases List.mem_cons.mp hcm with rfl | hcm
        · exact elt
        · rw [List.mem_singleton.mp hcm]
          obtain ⟨_, q, _⟩ := s2; exact Heap.lt_size q
      rw [upd_ne (Nat.ne_of_lt lt)]
      exact (hf c hcm).1
  case done =>
    rintro X rfl rfl rfl hc k pins s σ H E I hf ⟨⟨old, s1⟩, s2⟩ ⟨xs, qx, l1⟩
    obtain ⟨its, r1, p1, _⟩ := I.tuple qx
    have n1 : its.toArray.size = xs.length := by rw [List.size_toArray]; exact r1.length.symm
    have hh : X.A.in1.handled = none := I.ok.hd hc
    have s2' : s.heap.IsTupleIter t a its.toArray.size := by rw [n1, ← l1]; exact s2
    refine wpAny_pyNext_enum_endD (Draws.tuple hh t a na its.toArray) s1 ⟨s2', p1⟩ fun h' kp => ⟨rfl, I.turnedL (ch := [e, t]) (fun c ob hb q => ?_) hf⟩
    exact kp c ob (fun z => hb (by simp [z])) q
end
def iEnumT (K : PySem.W.Frag) (ta : TA) : TI := fun σ H R => ta σ H fun vs H1 => ∃ a xs, vs = [.ref a] ∧ SqT K H1 a xs ∧ R (IteT K a) H1
theorem pi_enumT {X : Cx} {e : Expr} {ta : TA} {p pos tp : Pos} {es : List Expr} {n : Nat} (hg : Gl X "enumerate") (hm : X.mg "enumerate" = none) (ha : PA X [e] ta) (hs : starEach [e] X.env = [(false, eval e X.env)] := by rfl) : PI X (.Tuple es n tp) (.Call (.Name "enumerate" p) [e] [] pos) (iEnumT X.K ta) := by
  constructor
  intro pins s σ H R I h
  refine Call_ (ld_blt I hg hm boot_enumerate (PyProof.Rows.callWith_type1 (thn (ha.run pos pins s σ H _ I h) ?_) hs rfl))
  rintro us s1 ⟨vs, H1, I1, r1, a, xs, rfl, qx, q⟩
  obtain ⟨v1, rfl, rv1⟩ := vals1 r1
  cases rv1
  obtain ⟨its, _, p1, _⟩ := I1.tuple qx
  have alt : a < s1.heap.objs.size := by obtain ⟨_, g1, _⟩ := id p1; exact Heap.lt_size g1
  refine call_enum1 (begins_tuple a its.toArray) p1 fun h' he hit kp => wpAny_pyIter_enum he ?_
  refine ⟨s1.heap.objs.size + 1, [s1.heap.objs.size + 1, s1.heap.objs.size], _, _, H1, rfl, I1.kept (t' := s1.toks) kp, turn_enumT (Nat.succ_ne_self _) (Nat.ne_of_lt alt) (Nat.ne_of_lt (Nat.lt_succ_of_lt alt)), ⟨⟨.none, he⟩, ⟨_, hit, rfl, rfl⟩⟩, fun c hc => ?_, q⟩
  have le : s1.heap.objs.size ≤ c := by
    rcases List.mem_cons.mp hc with rfl | hc
    · exact Nat.le_add_right _ _
    · rw [List.mem_singleton.mp hc]; exact Nat.le_refl _
  exact I1.fpOk le (I1.hok.fresh le)
/-- a loop over enumerate of a tuple -/
theorem for_enumT {K : PySem.W.Frag} {a : Addr} {xs : List V} {g : TG} {tb : TS} {D : Ends} {σ : L2.St} {H : Hp} (Pv : Nat → L2.St → Hp → Prop) (h0 : Pv 0 σ H) (hq : ∀ i σ H, Pv i σ H → SqT K H a xs)
    (hs : ∀ (i : Nat) (x : V) (T : Addr) (σ : L2.St) (H : Hp), xs[i]? = some x → Pv i σ H → H T = none → g (.ref T) σ (upd H T (.tup [.int (i : Nat), x])) fun σ2 H2 => tb { D with nx := Pv (i + 1), ct := Pv (i + 1), bk := D.nx } σ2 H2) (hd : ∀ σ H, Pv xs.length σ H → D.nx σ H) :
    ∃ W : Nat → Nat → L2.St → Hp → Prop, (∃ m, W 0 m σ H) ∧ ∀ i m σ H, W i m σ H → ((IteT K a).stop i H ∧ D.nx σ H) ∨ ((IteT K a).go i H ∧ ∃ N : L2.St → Hp → Prop, (∀ σ' H', N σ' H' → ∃ m', m' < m ∧ W (i + 1) m' σ' H') ∧ ∀ v H', (IteT K a).yld i H v H' → g v σ H' fun σ2 H2 => tb { D with nx := N, ct := N, bk := D.nx } σ2 H2) := by
  refine ⟨fun i m σ H => m = xs.length - i ∧ i ≤ xs.length ∧ Pv i σ H, ⟨_, rfl, Nat.zero_le _, h0⟩, ?_⟩
  rintro i m σ H ⟨rfl, hi, p⟩
  have qx := hq i σ H p
  by_cases hlt : i < xs.length
  · refine .inr ⟨⟨xs, xs[i], qx, List.getElem?_eq_getElem hlt⟩, Pv (i + 1), fun σ' H' p' => ⟨_, by omega, rfl, hlt, p'⟩, ?_⟩
    rintro v H' ⟨T, x', rfl, hT, rfl, f1⟩
    exact hs i x' T σ H (f1 xs qx) p hT
  · obtain rfl : i = xs.length := by omega
    exact .inl ⟨⟨xs, qx, rfl⟩, hd σ H p⟩
end KG

namespace KD
open PySem PySem.Spec PyProof.Rows L2 KG
def topS (i : Nat) : Stmt := PySem.Challenge.pw_compasswork_k17_well_formed_drawings.main.body.getD i (.Pass ⟨0, 0, 0, 0⟩)
/-- the built-in names stand as they are -/
structure Names (mg : Str → Option Value) : Prop where
  ValueError : mg "ValueError" = none
  enumerate : mg "enumerate" = none
  range : mg "range" = none
  list : mg "list" = none
  len : mg "len" = none
  abs : mg "abs" = none
  int : mg "int" = none
  tuple : mg "tuple" = none
  isinstance : mg "isinstance" = none
  bool : mg "bool" = none
abbrev s_law_state : Stmt := topS 10
abbrev N_law_state : List Str := ["script", "mixed", "rest"]
theorem sc_law_state : FnScope N_law_state ["script"] (defScope s_law_state) := ⟨rfl, rfl, rfl, by decide +kernel, rfl, by decide +kernel, by decide +kernel⟩
abbrev s_law_take : Stmt := topS 11
abbrev N_law_take : List Str := ["state", "many", "cell", "drawn"]
theorem sc_law_take : FnScope N_law_take ["state", "many"] (defScope s_law_take) := ⟨rfl, rfl, rfl, by decide +kernel, rfl, by decide +kernel, by decide +kernel⟩
section
variable {P : Program} {w : World} {K : PySem.W.Frag} {mg : Str → Option Value} {base : Heap}
def sp_law_state (K : PySem.W.Frag) : Sp := fun vs H Q _ => ∃ (a : Addr) (ns : List Int), vs = [.ref a] ∧ SqL K H a (ns.map V.int) ∧ ns.length ≤ 63 ∧
  ∀ H' p, Same H H' → H p = none → StX H' p a ns → SqO K H' p a (ns.map V.int) → Q (.ref p) H'
theorem ok_law_state {f : Addr} {fd : FuncData} {k : Nat} (F : Fun K "_law_state" "_law_state" s_law_state f fd) (M : Names mg) : FnOk P w K mg base CX0 (k + 1) f fd ["script"] (sp_law_state K) := by
  refine F.ok sc_law_state (fun vs H Q E h => ?_) (fun cdv A outer s H vs Q E hr h => ?_)
  · obtain ⟨a, ns, rfl, _⟩ := h
    rfl
  obtain ⟨a, ns, rfl, hS, h63, q⟩ := h
  refine ⟨_, (pss_cons (ps_set (i := 1) sc_law_state.nd rfl (.inl rfl) pe_int)
    (pss_cons (ps_set (i := 2) sc_law_state.nd rfl (.inl rfl) pe_int)
    (pss_cons (ps_if (pt_cmpR op_gt (pe_callB call_len_seq (by rfl) M.len PySem.boot_len (pa_cons (pv 0) pa_nil)) pe_int (nomark _))
      (pss_cons (ps_set (i := 1) sc_law_state.nd rfl (.inl rfl) (pe_op op_mod (pe_callTy call_int1 (by rfl) M.int (by decide +kernel) (pa_cons (pe_ix ix_list (pv 0) pe_int (fun _ _ => rfl)) pa_nil)) pe_int))
      (pss_one (ps_set (i := 2) sc_law_state.nd rfl (.inl rfl) (pe_ix ix_list (pe_lst (pa_cons (pe_op op_fdiv (pe_callB call_abs (by rfl) M.abs (by decide +kernel) (pa_cons (pe_ix ix_list (pv 0) pe_int (fun _ _ => rfl)) pa_nil)) pe_int) (pa_cons pe_int pa_nil))) (pv 1) (fun _ _ => rfl)))))
      pss_nil)
    (pss_one (ps_ret (pe_lst (pa_cons (pv 0) (pa_cons (pv 2) (pa_cons pe_int (pa_cons (pv 1) (pa_cons (pe_lst pa_nil) (pa_cons pe_int (pa_cons pe_int (pa_cons pe_int pa_nil)))))))))))))), ?_⟩
  -- the end, once for both ways
  have fin : ∀ (r m : Int) (H1 : Hp), Same H H1 → StOk ns r 1 m → ∀ e, H1 e = none → ∀ p, (upd H1 e (.lst [])) p = none → Q (.ref p) (upd (upd H1 e (.lst [])) p (.lst (stL a e r 1 m))) := fun r m H1 sm ok e he p hp => by
    have s2 : Same H1 (upd H1 e (.lst [])) := same_new he _
    have s3 : Same (upd H1 e (.lst [])) (upd (upd H1 e (.lst [])) p (.lst (stL a e r 1 m))) := same_new hp _
    exact q _ p (sm.trans (s2.trans s3)) (sm.free (s2.free hp)) ⟨e, r, 1, m, upd_same, ok⟩ ((SqO.new (s2.seq (sm.seq hS)) hp).but (.put _ _))
  refine ⟨_, rfl, a, _, rfl, .inl hS, _, _, rfl, rfl, _, rfl, ite2 (fun c => ?_) (fun c => ?_)⟩
  · have hl : (ns.map V.int).length = ns.length := List.length_map _
    have hpos : 0 < ns.length := by
      have := of_decide_eq_true c
      rw [hl] at this; omega
    obtain ⟨v, hv⟩ := at_n (ns := ns) (i := 0) (by omega) (by omega)
    refine ⟨_, rfl, a, _, _, _, rfl, rfl, hS, hv, .inl ⟨_, rfl, ?_⟩⟩
    refine ⟨_, _, rfl, rfl, (by show (0 : Int) < 2; decide), ?_⟩
    refine ⟨_, rfl, a, _, _, _, rfl, rfl, hS, hv, _, rfl, _, _, rfl, rfl, ⟨by decide, by decide⟩, (by show 2 ≤ sizeLine; decide), fun t ht => ?_⟩
    have h2 : v % 2 = 0 ∨ v % 2 = 1 := by omega
    rcases h2 with h2 | h2
    · rw [show (fun i j => V.int (i % j)) v 2 = V.int 0 from congrArg V.int h2]
      refine ⟨_, rfl, t, _, 0, _, rfl, rfl, SqL.of upd_same, atI_nat (j := 0) rfl, ?_⟩
      refine ⟨_, rfl, _, rfl, _, rfl, Nat.zero_le _, fun e he => ⟨(by show 8 ≤ sizeLine; decide), fun p hp => ?_⟩⟩
      exact fin _ _ _ (same_new ht _) (.inr ⟨rfl, by split <;> omega, by decide⟩) e he p hp
    · rw [show (fun i j => V.int (i % j)) v 2 = V.int 1 from congrArg V.int h2]
      refine ⟨_, rfl, t, _, 1, _, rfl, rfl, SqL.of upd_same, atI_nat (j := 1) rfl, ?_⟩
      refine ⟨_, rfl, _, rfl, _, rfl, Nat.zero_le _, fun e he => ⟨(by show 8 ≤ sizeLine; decide), fun p hp => ?_⟩⟩
      exact fin _ _ _ (same_new ht _) (.inl ⟨rfl, hpos⟩) e he p hp
  · refine ⟨_, rfl, _, rfl, _, rfl, Nat.zero_le _, fun e he => ⟨(by show 8 ≤ sizeLine; decide), fun p hp => ?_⟩⟩
    exact fin _ _ _ (Same.refl _) (.inr ⟨rfl, by decide, by decide⟩) e he p hp
def sp_law_take (K : PySem.W.Frag) : Sp := fun vs H Q _ => ∃ (p a : Addr) (ns : List Int) (many : Int), vs = [.ref p, .int many] ∧ StX H p a ns ∧ SqO K H p a (ns.map V.int) ∧ 0 < many ∧ many.natAbs.log2 < 9000 ∧
  ∀ (d : Int) (H' : Hp), 0 ≤ d → d < many → StX H' p a ns → But p H H' → Q (.int d) H'
theorem ok_law_take {f : Addr} {fd : FuncData} {k : Nat} (F : Fun K "_law_take" "_law_take" s_law_take f fd) (M : Names mg) : FnOk P w K mg base CX0 (k + 1) f fd ["state", "many"] (sp_law_take K) := by
  refine F.ok sc_law_take (fun vs H Q E h => ?_) (fun cdv A outer s H vs Q E hr h => ?_)
  · obtain ⟨p, a, ns, many, rfl, _⟩ := h
    rfl
  obtain ⟨p, a, ns, many, rfl, ⟨e, r, c, m, hp, ok⟩, hS, h0, h9, q⟩ := h
  refine ⟨_, (pss_cons (ps_if (pt_cmpR op_eq (pe_ix ix_list (pv 0) pe_int (fun _ _ => rfl)) pe_int (nomark _))
      (pss_cons (ps_set (i := 2) sc_law_take.nd rfl (.inl rfl) (pe_ix ix_list (pe_ix ix_list (pv 0) pe_int (fun _ _ => rfl)) (pe_op op_mod (pe_callTy call_int1 (by rfl) M.int (by decide +kernel) (pa_cons (pe_ix ix_list (pv 0) pe_int (fun _ _ => rfl)) pa_nil)) (pe_callB call_len_seq (by rfl) M.len PySem.boot_len (pa_cons (pe_ix ix_list (pv 0) pe_int (fun _ _ => rfl)) pa_nil))) (fun _ _ => rfl)))
      (pss_cons (ps_asg (pe_op op_mod (pe_callTy call_int1 (by rfl) M.int (by decide +kernel) (pa_cons (pe_op op_add (pe_op op_add (pe_op op_add (pe_op op_mul (pe_ix ix_list (pv 0) pe_int (fun _ _ => rfl)) pe_int) (pe_op op_mul (pv 2) pe_int)) (pe_op op_mul (pe_ix ix_list (pv 0) pe_int (fun _ _ => rfl)) pe_int)) pe_int) pa_nil)) pe_int) (pg_sub (pv 0) pe_int set_list))
      (pss_cons (ps_asg (pe_op op_add (pe_ix ix_list (pv 0) pe_int (fun _ _ => rfl)) pe_int) (pg_sub (pv 0) pe_int set_list))
      (pss_one (ps_ret (pe_op op_mod (pe_op op_mod (pe_callTy call_int1 (by rfl) M.int (by decide +kernel) (pa_cons (pe_op op_add (pe_op op_mul (pe_ix ix_list (pv 0) pe_int (fun _ _ => rfl)) pe_int) pe_int) pa_nil)) pe_int) (pv 1)))))))
      pss_nil)
    (pss_cons (ps_if (pt_cmpR op_eq (pe_ix ix_list (pv 0) pe_int (fun _ _ => rfl)) pe_int (nomark _))
      (pss_cons (ps_if (pt_cmpR op_ge (pe_ix ix_list (pv 0) pe_int (fun _ _ => rfl)) (pe_callB call_len_seq (by rfl) M.len PySem.boot_len (pa_cons (pe_ix ix_list (pv 0) pe_int (fun _ _ => rfl)) pa_nil)) (nomark _))
        (pss_one (ps_ret pe_int))
        pss_nil)
      (pss_cons (ps_asg (pe_callB call_abs (by rfl) M.abs (by decide +kernel) (pa_cons (pe_ix ix_list (pe_ix ix_list (pv 0) pe_int (fun _ _ => rfl)) (pe_ix ix_list (pv 0) pe_int (fun _ _ => rfl)) (fun _ _ => rfl)) pa_nil)) (pg_sub (pv 0) pe_int set_list))
      (pss_one (ps_asg (pe_op op_add (pe_ix ix_list (pv 0) pe_int (fun _ _ => rfl)) pe_int) (pg_sub (pv 0) pe_int set_list)))))
      pss_nil)
    (pss_cons (ps_set (i := 3) sc_law_take.nd rfl (.inl rfl) (pe_op op_mod (pe_callTy call_int1 (by rfl) M.int (by decide +kernel) (pa_cons (pe_ix ix_list (pv 0) pe_int (fun _ _ => rfl)) pa_nil)) (pv 1)))
    (pss_cons (ps_asg (pe_op op_fdivW (pe_ix ix_list (pv 0) pe_int (fun _ _ => rfl)) (pv 1)) (pg_sub (pv 0) pe_int set_list))
    (pss_one (ps_ret (pv 3))))))), ?_⟩
  have hSn : SqL K H a (ns.map V.int) := hS.now hp
  have hl : (ns.map V.int).length = ns.length := List.length_map _
  refine ⟨_, rfl, p, _, 3, _, rfl, rfl, SqL.of hp, atI_nat (j := 3) rfl, rfl, _, rfl, ite2 (fun t1 => ?_) (fun t1 => ?_)⟩
  · -- mixed draws
    have m1 : m = 1 := V.int.inj (of_decide_eq_true t1)
    have npos : 0 < ns.length := by
      rcases ok with ⟨_, z⟩ | ⟨z, _⟩
      · exact z
      · omega
    obtain ⟨v, hv⟩ := at_n (ns := ns) (i := c % ((ns.map V.int).length : Nat)) (Int.emod_nonneg _ (by omega)) (by rw [hl]; exact Int.emod_lt_of_pos _ (by omega))
    refine ⟨_, rfl, p, _, 0, _, rfl, rfl, SqL.of hp, atI_nat (j := 0) rfl, _, rfl, p, _, 2, _, rfl, rfl, SqL.of hp, atI_nat (j := 2) rfl, .inl ⟨_, rfl, ?_⟩⟩
    refine ⟨_, rfl, p, _, 0, _, rfl, rfl, SqL.of hp, atI_nat (j := 0) rfl, a, _, rfl, .inl hSn, _, _, rfl, rfl, (by show (0 : Int) < ((ns.map V.int).length : Nat); omega), a, _, _, _, rfl, rfl, hSn, hv, ?_⟩
    -- state[1] = ..
    refine ⟨_, rfl, p, _, 1, _, rfl, rfl, SqL.of hp, atI_nat (j := 1) rfl, _, _, rfl, rfl, .inr ⟨by decide, by decide⟩, _, rfl, _, _, rfl, rfl, .inr ⟨by decide, by decide⟩, _, _, rfl, rfl, _, rfl, p, _, 2, _, rfl, rfl, SqL.of hp, atI_nat (j := 2) rfl, _, _, rfl, rfl, .inr ⟨by decide, by decide⟩, _, _, rfl, rfl, _, _, rfl, rfl, .inl ⟨_, rfl, ?_⟩⟩
    refine ⟨_, _, rfl, rfl, (by show (0 : Int) < 2147483647; decide), _, rfl, p, _, 1, 1, rfl, rfl, hp, rfl, ?_⟩
    -- state[2] = ..
    refine ⟨_, rfl, p, _, 2, _, rfl, rfl, SqL.of upd_same, atI_nat (j := 2) rfl, _, _, rfl, rfl, _, rfl, p, _, 2, 2, rfl, rfl, upd_same, rfl, ?_⟩
    refine ⟨_, rfl, p, _, 1, _, rfl, rfl, SqL.of upd_same, atI_nat (j := 1) rfl, _, _, rfl, rfl, .inr ⟨by decide, by decide⟩, _, _, rfl, rfl, .inl ⟨_, rfl, ?_⟩⟩
    refine ⟨_, _, rfl, rfl, (by show (0 : Int) < 2147483629; decide), _, rfl, _, _, rfl, rfl, h0, ?_⟩
    refine q _ _ (Int.emod_nonneg _ (by omega)) (Int.emod_lt_of_pos _ h0) ⟨e, _, _, m, upd_same, ?_⟩ ((But.put _ _).trans (.put _ _))
    exact .inl ⟨m1, npos⟩
  · -- whole numbers, drawn from by their rests
    have m0 : m = 0 ∧ 0 ≤ r ∧ 0 ≤ c := by
      rcases ok with ⟨z, _⟩ | z
      · exact absurd (by rw [z]; rfl) t1
      · exact z
    obtain ⟨rfl, r0, c0⟩ := m0
    have fin : ∀ (r1 c1 : Int) (H1 : Hp), 0 ≤ r1 → 0 ≤ c1 → But p H H1 → H1 p = some (.lst (stL a e r1 c1 0)) → ∀ d, d = r1 % many → Q (.int d) (upd H1 p (.lst (stL a e (r1 / many) c1 0))) := fun r1 c1 H1 k1 k2 k3 k4 d hd => by
      subst hd
      exact q _ _ (Int.emod_nonneg _ (by omega)) (Int.emod_lt_of_pos _ h0) ⟨e, _, _, 0, upd_same, .inr ⟨rfl, Int.ediv_nonneg k1 (by omega), k2⟩⟩ (k3.trans (.put _ _))
    refine ⟨_, rfl, p, _, 1, _, rfl, rfl, SqL.of hp, atI_nat (j := 1) rfl, rfl, _, rfl, ite2 (fun t2 => ?_) (fun t2 => ?_)⟩
    · refine ⟨_, rfl, p, _, 2, _, rfl, rfl, SqL.of hp, atI_nat (j := 2) rfl, _, rfl, p, _, 0, _, rfl, rfl, SqL.of hp, atI_nat (j := 0) rfl, a, _, rfl, .inl hSn, _, _, rfl, rfl, _, rfl, ite2 (fun t3 => ?_) (fun t3 => ?_)⟩
      · exact q _ _ (Int.le_refl 0) h0 ⟨e, r, c, 0, hp, ok⟩ (But.refl _ _)
      · have lt : c < ((ns.map V.int).length : Nat) := by
          have := of_decide_eq_false (Bool.eq_false_iff.mpr t3)
          omega
        obtain ⟨v, hv⟩ := at_n (ns := ns) (i := c) c0 (by omega)
        refine ⟨_, rfl, p, _, 0, _, rfl, rfl, SqL.of hp, atI_nat (j := 0) rfl, _, rfl, p, _, 2, _, rfl, rfl, SqL.of hp, atI_nat (j := 2) rfl, a, _, _, _, rfl, rfl, hSn, hv, _, rfl, _, rfl, p, _, 1, 1, rfl, rfl, hp, rfl, ?_⟩
        refine ⟨_, rfl, p, _, 2, _, rfl, rfl, SqL.of upd_same, atI_nat (j := 2) rfl, _, _, rfl, rfl, _, rfl, p, _, 2, 2, rfl, rfl, upd_same, rfl, ?_⟩
        refine ⟨_, rfl, p, _, 1, _, rfl, rfl, SqL.of upd_same, atI_nat (j := 1) rfl, .inl ⟨_, rfl, ?_⟩⟩
        refine ⟨_, rfl, _, _, rfl, rfl, h0, ?_⟩
        refine ⟨_, rfl, p, _, 1, _, rfl, rfl, SqL.of upd_same, atI_nat (j := 1) rfl, _, rfl, _, _, rfl, rfl, ⟨h0, h9⟩, _, rfl, p, _, 1, 1, rfl, rfl, upd_same, rfl, ?_⟩
        refine ⟨_, rfl, ?_⟩
        exact fin (if v < 0 then -v else v) (c + 1) (upd (upd H p _) p _) (by split <;> omega) (by omega) ((But.put _ _).trans (.put _ _)) upd_same _ rfl
    · refine ⟨_, rfl, p, _, 1, _, rfl, rfl, SqL.of hp, atI_nat (j := 1) rfl, .inl ⟨_, rfl, ?_⟩⟩
      refine ⟨_, rfl, _, _, rfl, rfl, h0, ?_⟩
      refine ⟨_, rfl, p, _, 1, _, rfl, rfl, SqL.of hp, atI_nat (j := 1) rfl, _, rfl, _, _, rfl, rfl, ⟨h0, h9⟩, _, rfl, p, _, 1, 1, rfl, rfl, hp, rfl, ?_⟩
      refine ⟨_, rfl, ?_⟩
      exact fin r c H r0 c0 (But.refl _ _) hp _ rfl
end
end KD

namespace KD
open PySem PySem.Spec PyProof.Rows L2 KG
abbrev s_law_drawn_step : Stmt := topS 12
abbrev N_law_drawn_step : List Str := ["state", "steps", "most", "points", "figures", "at", "kind", "i", "j"]
theorem sc_law_drawn_step : FnScope N_law_drawn_step ["state", "steps", "most"] (defScope s_law_drawn_step) := ⟨rfl, rfl, rfl, by decide +kernel, rfl, by decide +kernel, by decide +kernel⟩
section
variable {P : Program} {w : World} {K : PySem.W.Frag} {mg : Str → Option Value} {base : Heap}
def sp_law_drawn_step (K : PySem.W.Frag) : Sp := fun vs H Q _ => ∃ (p a l : Addr) (ns : List Int) (us : List V) (ss : List Stp) (m : Int), vs = [.ref p, .ref l, .int m] ∧ StX H p a ns ∧ SqO K H p a (ns.map V.int) ∧ H l = some (.lst us) ∧ SAt H us ss ∧ ss.length ≤ 500 ∧ 0 ≤ m ∧ m < 2 ^ 2000 ∧
  ∀ H' (t : Addr) (s : Stp), StX H' p a ns → But p H H' → H' t = some (.tup (stV s)) → SNew ss m s → Q (.ref t) H'
theorem ok_law_drawn_step {f : Addr} {fd : FuncData} {k : Nat} (F : Fun K "_law_drawn_step" "_law_drawn_step" s_law_drawn_step f fd) (M : Names mg) (G_law_take : Cal P w K mg base k "_law_take" ["state", "many"] (sp_law_take K)) : FnOk P w K mg base CX0 (k + 1) f fd ["state", "steps", "most"] (sp_law_drawn_step K) := by
  refine F.ok sc_law_drawn_step (fun vs H Q E h => ?_) (fun cdv A outer s H vs Q E hr h => ?_)
  · obtain ⟨p, a, l, ns, us, ss, m, rfl, _⟩ := h
    rfl
  obtain ⟨p, a, l, ns, us, ss, m, rfl, hX, hS, hl, hss, l500, m0, m2, fin⟩ := h
  refine ⟨_, (pss_cons (ps_set (i := 3) sc_law_drawn_step.nd rfl (.inl rfl) (pe_lst pa_nil))
    (pss_cons (ps_set (i := 4) sc_law_drawn_step.nd rfl (.inl rfl) (pe_lst pa_nil))
    (pss_cons (ps_for PassesOwn.never rfl (pi_range1 (by rfl) M.range (pa_cons (pe_callB call_len_seq (by rfl) M.len PySem.boot_len (pa_cons (pv 1) pa_nil)) pa_nil)) (pg_name (i := 5) sc_law_drawn_step.nd rfl (.inl rfl))
      (pss_one (ps_if (pt_cmpR op_in_seq (pe_ix ix_tup (pe_ix ix_list (pv 1) (pv 5) (fun _ _ => rfl)) pe_int (fun _ _ => rfl)) (pe_lst (pa_cons pe_str (pa_cons pe_str pa_nil))) (by rfl))
        (pss_one (ps_expr (pe_bm PySem.F.plainAttrs_list PySem.F.slot_list_append PySem.F.type_list_append mt_append (pv 3) (pa_cons (pv 5) pa_nil))))
        (pss_one (ps_expr (pe_bm PySem.F.plainAttrs_list PySem.F.slot_list_append PySem.F.type_list_append mt_append (pv 4) (pa_cons (pv 5) pa_nil)))))))
    (pss_cons (ps_set (i := 6) sc_law_drawn_step.nd rfl (.inl rfl) (pe_call G_law_take.ok hr (by rfl) G_law_take.m G_law_take.kp G_law_take.b .nil pass0 (pa_cons (pv 0) (pa_cons pe_int pa_nil))))
    (pss_cons (ps_if (PW.pt (pw_or (pt_cmpR op_eq (pv 6) pe_int (nomark _)) (pw_or1 (pt_cmpR op_lt (pe_callB call_len_seq (by rfl) M.len PySem.boot_len (pa_cons (pv 3) pa_nil)) pe_int (nomark _)))))
      (pss_one (ps_ret (pe_tup (pa_cons pe_str (pa_cons (pe_op op_sub (pe_call G_law_take.ok hr (by rfl) G_law_take.m G_law_take.kp G_law_take.b .nil pass0 (pa_cons (pv 0) (pa_cons (pe_op op_add (pe_op op_mul pe_int (pv 2)) pe_int) pa_nil))) (pv 2)) (pa_cons (pe_op op_sub (pe_call G_law_take.ok hr (by rfl) G_law_take.m G_law_take.kp G_law_take.b .nil pass0 (pa_cons (pv 0) (pa_cons (pe_op op_add (pe_op op_mul pe_int (pv 2)) pe_int) pa_nil))) (pv 2)) pa_nil))))))
      pss_nil)
    (pss_cons (ps_if (PW.pt (pw_or (pt_cmpR op_lt (pv 6) pe_int (nomark _)) (pw_or1 (pt_cmpR op_lt (pe_callB call_len_seq (by rfl) M.len PySem.boot_len (pa_cons (pv 4) pa_nil)) pe_int (nomark _)))))
      (pss_cons (ps_set (i := 7) sc_law_drawn_step.nd rfl (.inl rfl) (pe_ix ix_list (pv 3) (pe_call G_law_take.ok hr (by rfl) G_law_take.m G_law_take.kp G_law_take.b .nil pass0 (pa_cons (pv 0) (pa_cons (pe_callB call_len_seq (by rfl) M.len PySem.boot_len (pa_cons (pv 3) pa_nil)) pa_nil))) (fun _ _ => rfl)))
      (pss_cons (ps_set (i := 8) sc_law_drawn_step.nd rfl (.inl rfl) (pe_ix ix_list (pv 3) (pe_call G_law_take.ok hr (by rfl) G_law_take.m G_law_take.kp G_law_take.b .nil pass0 (pa_cons (pv 0) (pa_cons (pe_callB call_len_seq (by rfl) M.len PySem.boot_len (pa_cons (pv 3) pa_nil)) pa_nil))) (fun _ _ => rfl)))
      (pss_cons (ps_if (pt_cmpR op_eq (pv 6) pe_int (nomark _))
        (pss_one (ps_ret (pe_tup (pa_cons pe_str (pa_cons (pv 7) (pa_cons (pv 8) pa_nil))))))
        pss_nil)
      (pss_one (ps_ret (pe_tup (pa_cons pe_str (pa_cons (pv 7) (pa_cons (pv 8) (pa_cons (pe_ix ix_list (pv 3) (pe_call G_law_take.ok hr (by rfl) G_law_take.m G_law_take.kp G_law_take.b .nil pass0 (pa_cons (pv 0) (pa_cons (pe_callB call_len_seq (by rfl) M.len PySem.boot_len (pa_cons (pv 3) pa_nil)) pa_nil))) (fun _ _ => rfl)) pa_nil))))))))))
      pss_nil)
    (pss_cons (ps_set (i := 7) sc_law_drawn_step.nd rfl (.inl rfl) (pe_ix ix_list (pv 4) (pe_call G_law_take.ok hr (by rfl) G_law_take.m G_law_take.kp G_law_take.b .nil pass0 (pa_cons (pv 0) (pa_cons (pe_callB call_len_seq (by rfl) M.len PySem.boot_len (pa_cons (pv 4) pa_nil)) pa_nil))) (fun _ _ => rfl)))
    (pss_cons (ps_set (i := 8) sc_law_drawn_step.nd rfl (.inl rfl) (pe_ix ix_list (pv 4) (pe_call G_law_take.ok hr (by rfl) G_law_take.m G_law_take.kp G_law_take.b .nil pass0 (pa_cons (pv 0) (pa_cons (pe_callB call_len_seq (by rfl) M.len PySem.boot_len (pa_cons (pv 4) pa_nil)) pa_nil))) (fun _ _ => rfl)))
    (pss_one (ps_ret (pe_tup (pa_cons pe_str (pa_cons (pv 7) (pa_cons (pv 8) (pa_cons (pe_call G_law_take.ok hr (by rfl) G_law_take.m G_law_take.kp G_law_take.b .nil pass0 (pa_cons (pv 0) (pa_cons pe_int pa_nil))) pa_nil))))))))))))))), ?_⟩
  have lus := hss.len
  -- the two lists
  refine ⟨Nat.zero_le _, fun lp nlp => ?_⟩
  have S1 := same_new nlp (.lst [])
  refine ⟨Nat.zero_le _, fun lf nlf => ?_⟩
  have S2 := same_new nlf (.lst [])
  have S12 := S1.trans S2
  have pf : lp ≠ lf := fun z => by rw [← z, upd_same] at nlf; cases nlf
  have nlfH : H lf = none := S1.free nlf
  refine ⟨_, rfl, l, _, rfl, .inl (SqL.of (S12 _ _ hl)), ?_⟩
  refine ⟨_, rfl, (by show -(2 ^ 62) ≤ ((us.length : Nat) : Int); omega), (by show ((us.length : Nat) : Int) < 2 ^ 62; omega), for_range (lo := 0) (n := us.length) (fun k σ H' => ∃ (pts fgs : List Int) (y5 : Option V), σ = [some (.ref p), some (.ref l), some (.int m), some (.ref lp), some (.ref lf), y5, none, none, none] ∧ Same H H' ∧ H' lp = some (.lst (pts.map V.int)) ∧ H' lf = some (.lst (fgs.map V.int)) ∧ pts.length ≤ k ∧ fgs.length ≤ k ∧ (∀ x ∈ pts, Nm1 ss true x) ∧ (∀ x ∈ fgs, Nm1 ss false x))
    ⟨[], [], none, rfl, S12, S2 _ _ upd_same, upd_same, Nat.le_refl _, Nat.le_refl _, (fun x h => by cases h), (fun x h => by cases h)⟩ (fun k σ H' hk hP => ?_) (fun σ H' hP => ?_)⟩
  · obtain ⟨pts, fgs, y5, rfl, sm, hp, hf, lp1, lf1, ap, af⟩ := hP
    have hks : k < ss.length := by omega
    obtain ⟨t, ht, et⟩ := (hss.same sm).get (List.getElem?_eq_getElem hks)
    have hu : atI us (0 + (k : Nat) : Int) = some (.ref t) := by
      rw [show (0 + (k : Nat) : Int) = ((k : Nat) : Int) by omega]
      exact atI_nat ht
    have h0 : atI (stV ss[k]) 0 = some (.str ss[k].w) := atI_nat (j := 0) rfl
    refine ⟨_, rfl, _, rfl, l, _, _, _, rfl, rfl, SqL.of (sm _ _ hl), hu, t, _, _, _, rfl, rfl, SqT.of et, h0, (by show 2 ≤ sizeLine; decide), fun q hq => ?_⟩
    have S3 := same_new hq (.lst [V.str "point", .str "meet"])
    refine ⟨q, _, rfl, .inl (SqL.of upd_same), rfl, rfl, _, rfl, ?_⟩
    have nmk : ∀ b, isPt ss[k].w = b → Nm1 ss b (0 + (k : Nat)) := fun b h => ⟨by omega, ss[k], by rw [show (0 + (k : Nat) : Int).toNat = k by omega]; exact List.getElem?_eq_getElem hks, h⟩
    refine ite2 (fun c => ?_) (fun c => ?_)
    · have hp2 := S3 _ _ hp
      refine ⟨_, rfl, .inl ⟨rfl, _, .inl (.inl hp2)⟩, _, rfl, lp, _, _, rfl, rfl, hp2, small1000 (by rw [List.length_map]; omega), ?_⟩
      refine ⟨pts ++ [(0 + (k : Nat) : Int)], fgs, _, rfl, same_put (sm.trans S3) nlp, by rw [upd_same, List.map_append]; rfl, by rw [upd_ne (Ne.symm pf)]; exact S3 _ _ hf, by rw [List.length_append, List.length_singleton]; omega, by omega, fun x hx => ?_, af⟩
      rcases List.mem_append.mp hx with hx | hx
      · exact ap x hx
      · rw [List.mem_singleton.mp hx]; exact nmk true c
    · have hf2 := S3 _ _ hf
      refine ⟨_, rfl, .inl ⟨rfl, _, .inl (.inl hf2)⟩, _, rfl, lf, _, _, rfl, rfl, hf2, small1000 (by rw [List.length_map]; omega), ?_⟩
      refine ⟨pts, fgs ++ [(0 + (k : Nat) : Int)], _, rfl, same_put (sm.trans S3) nlfH, by rw [upd_ne pf]; exact S3 _ _ hp, by rw [upd_same, List.map_append]; rfl, by omega, by rw [List.length_append, List.length_singleton]; omega, ap, fun x hx => ?_⟩
      rcases List.mem_append.mp hx with hx | hx
      · exact af x hx
      · rw [List.mem_singleton.mp hx]; exact nmk false (Bool.eq_false_iff.mpr c)
  · obtain ⟨pts, fgs, y5, rfl, sm, hp, hf, lp1, lf1, ap, af⟩ := hP
    have lpm : (pts.map V.int).length = pts.length := List.length_map _
    have lfm : (fgs.map V.int).length = fgs.length := List.length_map _
    have X := hX.same sm
    have O := hS.but (.of sm)
    have lpp : lp ≠ p := hX.ne nlp
    have lfp : lf ≠ p := hX.ne nlfH
    have lg : ∀ n : Int, n.natAbs < 2 ^ 2002 → n.natAbs.log2 < 9000 := fun n h => log_small h (by decide) (by decide)
    have lgs : ∀ n : Nat, n ≤ 500 → ((n : Nat) : Int).natAbs.log2 < 9000 := fun n h => log_small (n := 10) (by omega) (by decide) (by decide)
    have lgm : (2 * m + 1).natAbs.log2 < 9000 := by
      refine log_small (n := 2002) ?_ (by decide) (by decide)
      have e : (2 : Nat) ^ 2002 = 4 * 2 ^ 2000 := by rw [Nat.pow_add 2 2 2000]
      have m3 : m.natAbs < 2 ^ 2000 := by
        have : ((m.natAbs : Nat) : Int) < ((2 ^ 2000 : Nat) : Int) := by rw [Int.natCast_pow]; omega
        exact Int.ofNat_lt.mp this
      omega
    -- a draw out of a list of places
    have pick : ∀ (b : Bool) (xs : List Int) (d : Int), (∀ x ∈ xs, Nm1 ss b x) → 0 ≤ d → d < ((xs.map V.int).length : Nat) → ∃ v, atI (xs.map V.int) d = some (.int v) ∧ Nm1 ss b v := fun b xs d hx h0 h1 => by
      rw [List.length_map] at h1
      exact ⟨_, map_atI h0 h1, hx _ (co_mem (by omega))⟩
    refine ⟨_, rfl, p, a, ns, _, rfl, X, O, by decide, lg _ (Nat.lt_of_lt_of_le (show (7 : Int).natAbs < 2 ^ 3 by decide) (Nat.pow_le_pow_right (by decide) (by decide))), fun kd H1 kd0 kd7 X1 b1 => ?_⟩
    have B1 : But p H H1 := (But.of sm).trans b1
    have O1 := O.but b1
    have hp1 := b1 _ _ lpp hp
    have hf1 := b1 _ _ lfp hf
    have point : ∀ (Q' : VK), (∀ (t : Addr) (s : Stp) (H' : Hp), StX H' p a ns → But p H H' → H' t = some (.tup (stV s)) → SNew ss m s → Q' (.ref t) H') → tTup (tCons (tC (V.str "point")) (tCons (tOp (rI0 fun i j => .int (i - j)) (tCall (sp_law_take K) [] E0 (tCons (tVar 0) (tCons (tOp (rI0 fun i j => .int (i + j)) (tOp (rI CMul fun i j => .int (i * j)) (tC (V.int 2)) (tVar 2)) (tC (V.int 1))) tNil))) (tVar 2)) (tCons (tOp (rI0 fun i j => .int (i - j)) (tCall (sp_law_take K) [] E0 (tCons (tVar 0) (tCons (tOp (rI0 fun i j => .int (i + j)) (tOp (rI CMul fun i j => .int (i * j)) (tC (V.int 2)) (tVar 2)) (tC (V.int 1))) tNil))) (tVar 2)) tNil))) [some (.ref p), some (.ref l), some (.int m), some (.ref lp), some (.ref lf), y5, some (.int kd), none, none] H1 Q' := fun Q' hQ => by
      refine ⟨_, rfl, _, rfl, _, _, rfl, rfl, .inl ⟨by decide, by decide⟩, _, _, rfl, rfl, p, a, ns, _, rfl, X1, O1, by omega, lgm, fun x H2 x0 x1 X2 b2 => ?_⟩
      refine ⟨_, rfl, _, _, rfl, rfl, ?_⟩
      refine ⟨_, rfl, _, rfl, _, _, rfl, rfl, .inl ⟨by decide, by decide⟩, _, _, rfl, rfl, p, a, ns, _, rfl, X2, O1.but b2, by omega, lgm, fun y H3 y0 y1 X3 b3 => ?_⟩
      refine ⟨_, rfl, _, _, rfl, rfl, (by show 3 ≤ sizeLine; decide), fun t nt => ?_⟩
      have S4 := same_new nt (.tup [V.str "point", .int (x - m), .int (y - m)])
      exact hQ t ⟨"point", [x - m, y - m]⟩ _ (X3.same S4) (B1.trans (b2.trans (b3.trans (.of S4)))) upd_same (.inl ⟨_, _, rfl, by omega, by omega, by omega, by omega⟩)
    have pt2 : ∀ n : Nat, ¬ ((n : Nat) : Int) < 2 → (0 : Int) < ((n : Nat) : Int) := fun n h => by omega
    refine ⟨_, rfl, rfl, _, rfl, ite2 (fun c1 => iteT (point Q fun t s H' X' B' e n => fin H' t s X' B' e n)) (fun c1 => ⟨_, rfl, lp, _, rfl, .inl (SqL.of hp1), _, _, rfl, rfl, _, rfl, ite2 (fun c2 => point Q fun t s H' X' B' e n => fin H' t s X' B' e n) (fun c2 => ?_)⟩)⟩
    have ppos : (0 : Int) < ((pts.map V.int).length : Nat) := pt2 _ (of_decide_eq_false (Bool.eq_false_iff.mpr c2))
    refine ⟨_, rfl, _, _, rfl, rfl, _, rfl, ite2 (fun c3 => iteT ?P1) (fun c3 => ⟨_, rfl, lf, _, rfl, .inl (SqL.of hf1), _, _, rfl, rfl, _, rfl, ite2 (fun c4 => ?P2) (fun c4 => ?F)⟩)⟩
    case F =>
      have fpos : (0 : Int) < ((fgs.map V.int).length : Nat) := pt2 _ (of_decide_eq_false (Bool.eq_false_iff.mpr c4))
      refine ⟨_, rfl, _, rfl, _, rfl, lf, _, rfl, .inl (SqL.of hf1), p, a, ns, _, rfl, X1, O1, fpos, lgs _ (by omega), fun d2 H2 d20 d21 X2 b2 => ?_⟩
      obtain ⟨v2, hv2, nv2⟩ := pick false fgs d2 af d20 d21
      have hf2 := b2 _ _ lfp hf1
      refine ⟨lf, _, _, _, rfl, rfl, SqL.of hf2, hv2, ?_⟩
      refine ⟨_, rfl, _, rfl, _, rfl, lf, _, rfl, .inl (SqL.of hf2), p, a, ns, _, rfl, X2, O1.but b2, fpos, lgs _ (by omega), fun d3 H3 d30 d31 X3 b3 => ?_⟩
      obtain ⟨v3, hv3, nv3⟩ := pick false fgs d3 af d30 d31
      have hf3 := b3 _ _ lfp hf2
      refine ⟨lf, _, _, _, rfl, rfl, SqL.of hf3, hv3, ?_⟩
      refine ⟨_, rfl, _, rfl, _, rfl, p, a, ns, _, rfl, X3, (O1.but b2).but b3, by decide, lg _ (Nat.lt_of_lt_of_le (show (2 : Int).natAbs < 2 ^ 3 by decide) (Nat.pow_le_pow_right (by decide) (by decide))), fun d4 H4 d40 d41 X4 b4 => ⟨(by show 4 ≤ sizeLine; decide), fun t nt => ?_⟩⟩
      have S4 := same_new nt (.tup [V.str "meet", .int v2, .int v3, .int d4])
      exact fin _ t ⟨"meet", [v2, v3, d4]⟩ (X4.same S4) (B1.trans (b2.trans (b3.trans (b4.trans (.of S4))))) upd_same (.inr (.inr (.inr ⟨_, _, _, rfl, nv2, nv3, d40, by have : d4 < 2 := d41; omega⟩)))
    all_goals
      refine ⟨_, rfl, _, rfl, _, rfl, lp, _, rfl, .inl (SqL.of hp1), p, a, ns, _, rfl, X1, O1, ppos, lgs _ (by omega), fun d2 H2 d20 d21 X2 b2 => ?_⟩
      obtain ⟨v2, hv2, nv2⟩ := pick true pts d2 ap d20 d21
      have hp2 := b2 _ _ lpp hp1
      refine ⟨lp, _, _, _, rfl, rfl, SqL.of hp2, hv2, ?_⟩
      refine ⟨_, rfl, _, rfl, _, rfl, lp, _, rfl, .inl (SqL.of hp2), p, a, ns, _, rfl, X2, O1.but b2, ppos, lgs _ (by omega), fun d3 H3 d30 d31 X3 b3 => ?_⟩
      obtain ⟨v3, hv3, nv3⟩ := pick true pts d3 ap d30 d31
      have hp3 := b3 _ _ lpp hp2
      refine ⟨lp, _, _, _, rfl, rfl, SqL.of hp3, hv3, ?_⟩
      refine ⟨_, rfl, rfl, _, rfl, ite2 (fun c5 => ?_) (fun c5 => ?_)⟩
      · refine ⟨_, rfl, _, rfl, (by show 3 ≤ sizeLine; decide), fun t nt => ?_⟩
        have S4 := same_new nt (.tup [V.str "line", .int v2, .int v3])
        exact fin _ t ⟨"line", [v2, v3]⟩ (X3.same S4) (B1.trans (b2.trans (b3.trans (.of S4)))) upd_same (.inr (.inl ⟨_, _, rfl, nv2, nv3⟩))
      · refine ⟨_, rfl, _, rfl, _, rfl, _, rfl, _, rfl, lp, _, rfl, .inl (SqL.of hp3), p, a, ns, _, rfl, X3, (O1.but b2).but b3, ppos, lgs _ (by omega), fun d4 H4 d40 d41 X4 b4 => ?_⟩
        obtain ⟨v4, hv4, nv4⟩ := pick true pts d4 ap d40 d41
        have hp4 := b4 _ _ lpp hp3
        refine ⟨lp, _, _, _, rfl, rfl, SqL.of hp4, hv4, (by show 4 ≤ sizeLine; decide), fun t nt => ?_⟩
        have S4 := same_new nt (.tup [V.str "circle", .int v2, .int v3, .int v4])
        exact fin _ t ⟨"circle", [v2, v3, v4]⟩ (X4.same S4) (B1.trans (b2.trans (b3.trans (b4.trans (.of S4))))) upd_same (.inr (.inr (.inl ⟨_, _, _, rfl, nv2, nv3, nv4⟩)))
end
end KD

namespace KG
open PySem PySem.Spec PyProof.Rows L2
/-! which steps are well formed -/
def nmOk (ss : List Stp) (at_ : Nat) (meet : Bool) (n : Int) : Bool := decide (0 ≤ n) && decide (n < at_) && (match ss[n.toNat]? with | some s => isPt s.w == !meet | none => false)
def names (s : Stp) : List Int := if s.w = "point" then [] else if s.w = "meet" then s.ns.take 2 else s.ns
def fitW (s : Stp) : Bool := if s.w = "meet" then decide (0 ≤ co s.ns 2) && decide (co s.ns 2 ≤ 1) else true
def fits (ss : List Stp) (at_ : Nat) : Bool := match ss[at_]? with
  | none => true
  | some s => fitW s && (names s).all (nmOk ss at_ (decide (s.w = "meet")))
theorem cut_mid (xs : List V) (n m : Nat) (h : n ≤ xs.length) (k : m ≤ xs.length) : cutV xs (some (n : Int)) (some (m : Int)) = (xs.drop n).take (m - n) := by
  unfold cutV
  rw [HT.sIx_nat, HT.sIx_nat, Nat.min_eq_left h, Nat.min_eq_left k]
end KG
namespace KD
open PySem PySem.Spec PyProof.Rows L2 KG
abbrev s_law_fits : Stmt := topS 13
abbrev N_law_fits : List Str := ["steps", "at", "step", "names", "name"]
theorem sc_law_fits : FnScope N_law_fits ["steps", "at"] (defScope s_law_fits) := ⟨rfl, rfl, rfl, by decide +kernel, rfl, by decide +kernel, by decide +kernel⟩
section
variable {P : Program} {w : World} {K : PySem.W.Frag} {mg : Str → Option Value} {base : Heap}
def sp_law_fits (K : PySem.W.Frag) : Sp := fun vs H Q _ => ∃ (l : Addr) (us : List V) (ss : List Stp) (k : Nat), vs = [.ref l, .int (k : Int)] ∧ H l = some (.lst us) ∧ SAt H us ss ∧ k < ss.length ∧ (∀ s ∈ ss, SForm s) ∧ ∀ H', Same H H' → Q (.bl (fits ss k)) H'
theorem ok_law_fits {f : Addr} {fd : FuncData} {k : Nat} (F : Fun K "_law_fits" "_law_fits" s_law_fits f fd) (M : Names mg) : FnOk P w K mg base CX0 (k + 1) f fd ["steps", "at"] (sp_law_fits K) := by
  refine F.ok sc_law_fits (fun vs H Q E h => ?_) (fun cdv A outer s H vs Q E hr h => ?_)
  · obtain ⟨l, us, ss, k, rfl, _⟩ := h
    rfl
  obtain ⟨l, us, ss, k, rfl, hl, hss, hk, hform, fin⟩ := h
  refine ⟨_, (pss_cons (ps_set (i := 2) sc_law_fits.nd rfl (.inl rfl) (pe_ix ix_list (pv 0) (pv 1) (fun _ _ => rfl)))
    (pss_cons (ps_set (i := 3) sc_law_fits.nd rfl (.inl rfl) (pe_callTy call_list_of (by rfl) M.list (by decide +kernel) (pa_cons (pe_slice sl_tup (pv 2) (po_some pe_int) po_none) pa_nil)))
    (pss_cons (ps_if (pt_cmpR op_eq (pe_ix ix_tup (pv 2) pe_int (fun _ _ => rfl)) pe_str (nomark _))
      (pss_one (ps_ret pe_bl))
      pss_nil)
    (pss_cons (ps_if (pt_cmpR op_eq (pe_ix ix_tup (pv 2) pe_int (fun _ _ => rfl)) pe_str (nomark _))
      (pss_cons (ps_set (i := 3) sc_law_fits.nd rfl (.inl rfl) (pe_callTy call_list_of (by rfl) M.list (by decide +kernel) (pa_cons (pe_slice sl_tup (pv 2) (po_some pe_int) (po_some pe_int)) pa_nil)))
      (pss_one (ps_if (PW.pt (pw_or (pt_cmpR op_lt (pe_ix ix_tup (pv 2) pe_int (fun _ _ => rfl)) pe_int (nomark _)) (pw_or1 (pt_cmpR op_gt (pe_ix ix_tup (pv 2) pe_int (fun _ _ => rfl)) pe_int (nomark _)))))
        (pss_one (ps_ret pe_bl))
        pss_nil)))
      pss_nil)
    (pss_cons (ps_for PassesOwn.never rfl (pi_list (pv 3)) (pg_name (i := 4) sc_law_fits.nd rfl (.inl rfl))
      (pss_cons (ps_if (PW.pt (pw_or (pt_cmpR op_lt (pv 4) pe_int (nomark _)) (pw_or1 (pt_cmpR op_ge (pv 4) (pv 1) (nomark _)))))
        (pss_one (ps_ret pe_bl))
        pss_nil)
      (pss_one (ps_if (pt_cmpR op_ne (pe_cmpR op_in_seq (pe_ix ix_tup (pe_ix ix_list (pv 0) (pv 4) (fun _ _ => rfl)) pe_int (fun _ _ => rfl)) (pe_lst (pa_cons pe_str (pa_cons pe_str pa_nil))) (by rfl)) (pe_cmpR op_ne (pe_ix ix_tup (pv 2) pe_int (fun _ _ => rfl)) pe_str (nomark _)) (nomark _))
        (pss_one (ps_ret pe_bl))
        pss_nil))))
    (pss_one (ps_ret pe_bl))))))), ?_⟩
  have gs : ss[k]? = some ss[k] := List.getElem?_eq_getElem hk
  generalize hst : ss[k] = st at gs
  obtain ⟨t, ht, et⟩ := hss.get gs
  have hu : atI us (k : Int) = some (.ref t) := atI_nat ht
  have form : SForm st := hform st (List.mem_of_getElem? gs)
  have h0 : atI (stV st) 0 = some (.str st.w) := atI_nat (j := 0) rfl
  have lst : (stV st).length = st.ns.length + 1 := by simp [stV]
  have l2 : 2 ≤ st.ns.length ∧ st.ns.length ≤ 3 := by rcases form with ⟨_, h⟩ | ⟨_, h⟩ | ⟨_, h⟩ | ⟨_, h⟩ <;> omega
  have fe : fits ss k = (fitW st && (names st).all (nmOk ss k (decide (st.w = "meet")))) := by unfold fits; rw [gs]
  -- step, names
  refine ⟨_, rfl, _, rfl, l, _, _, _, rfl, rfl, SqL.of hl, hu, ?_⟩
  refine ⟨_, rfl, _, rfl, t, _, rfl, SqT.of et, not_whole (i := 1) (by decide) (by omega), fun c1 hc1 => ⟨c1, _, rfl, .inr (SqT.of upd_same), fun n1 hn1 => ?_⟩⟩
  have S1 := same_new hc1 (.tup (cutV (stV st) (some 1) none))
  have S2 := same_new hn1 (.lst (cutV (stV st) (some 1) none))
  have S12 := S1.trans S2
  have et2 := S12 _ _ et
  have en1 : (upd (upd H c1 (.tup (cutV (stV st) (some 1) none))) n1 (.lst (cutV (stV st) (some 1) none))) n1 = some (.lst (st.ns.map V.int)) := by
    rw [upd_same, show cutV (stV st) (some 1) none = (stV st).drop 1 from cut_from _ 1 (by omega)]; rfl
  refine ⟨_, rfl, t, _, _, _, rfl, rfl, SqT.of et2, h0, rfl, _, rfl, ite2 (fun p1 => ?_) (fun p1 => ?_)⟩
  · -- a point
    have w1 : st.w = "point" := V.str.inj (of_decide_eq_true p1)
    have : fits ss k = true := by
      rw [fe, fitW, if_neg (by rw [w1]; decide), names, if_pos w1, List.all_nil, Bool.and_true]
    have q := fin _ S12
    rw [this] at q
    exact q
  have w1 : st.w ≠ "point" := fun e => p1 (decide_eq_true (by rw [e]))
  refine ⟨_, rfl, t, _, _, _, rfl, rfl, SqT.of et2, h0, rfl, _, rfl, ite2 (fun p2 => ?MT) (fun p2 => ?L2)⟩
  case' MT =>
    have w2 : st.w = "meet" := V.str.inj (of_decide_eq_true p2)
    have l3 : st.ns.length = 3 := by
      rcases form with ⟨e, h⟩ | ⟨e, h⟩ | ⟨e, h⟩ | ⟨e, h⟩
      · exact absurd e w1
      · rw [w2] at e; exact absurd e (by decide)
      · rw [w2] at e; exact absurd e (by decide)
      · exact h
    have h3 : atI (stV st) 3 = some (.int (co st.ns 2)) := atI_nat (j := 3) (by
      show (st.ns.map V.int)[2]? = _
      exact map_at (by omega))
    refine ⟨_, rfl, _, rfl, _, rfl, t, _, rfl, SqT.of et2, not_whole (i := 1) (by decide) (by omega), fun c2 hc2 => ⟨c2, _, rfl, .inr (SqT.of upd_same), fun n2 hn2 => ?_⟩⟩
    have S3 := same_new hc2 (.tup (cutV (stV st) (some 1) (some 3)))
    have S4 := same_new hn2 (.lst (cutV (stV st) (some 1) (some 3)))
    have S34 := S12.trans (S3.trans S4)
    have et4 := S34 _ _ et
    have en2 : (upd (upd (upd (upd H c1 (.tup (cutV (stV st) (some 1) none))) n1 (.lst (cutV (stV st) (some 1) none))) c2 (.tup (cutV (stV st) (some 1) (some 3)))) n2 (.lst (cutV (stV st) (some 1) (some 3)))) n2 = some (.lst ((st.ns.take 2).map V.int)) := by
      rw [upd_same, show cutV (stV st) (some 1) (some 3) = ((stV st).drop 1).take (3 - 1) from cut_mid _ 1 3 (by omega) (by omega), List.map_take]; rfl
    have nofit : ¬ (0 ≤ co st.ns 2 ∧ co st.ns 2 ≤ 1) → ∀ H', Same H H' → Q (.bl false) H' := fun h H' sm => by
      have e : fits ss k = false := by
        have e2 : fitW st = false := by
          unfold fitW
          rw [if_pos w2]
          by_cases g : 0 ≤ co st.ns 2
          · rw [decide_eq_true g, decide_eq_false (fun z => h ⟨g, z⟩)]; rfl
          · rw [decide_eq_false g]; rfl
        rw [fe, e2]; rfl
      have q := fin H' sm
      rwa [e] at q
    refine ⟨_, rfl, t, _, _, _, rfl, rfl, SqT.of et4, h3, _, _, rfl, rfl, _, rfl, ite2 (fun g1 => iteT (nofit (fun z => by have := of_decide_eq_true g1; omega) _ S34)) (fun g1 => ⟨_, rfl, t, _, _, _, rfl, rfl, SqT.of et4, h3, _, _, rfl, rfl, _, rfl, ite2 (fun g2 => nofit (fun z => by have := of_decide_eq_true g2; omega) _ S34) (fun g2 => ?L1)⟩)⟩
    case' L1 =>
      obtain ⟨ln, rfl⟩ : ∃ ln, ln = n2 := ⟨_, rfl⟩
      obtain ⟨xs, hxs⟩ : ∃ xs : List Int, xs = st.ns.take 2 := ⟨_, rfl⟩
      have hln := en2
      have hfx : fits ss k = xs.all (nmOk ss k (decide (st.w = "meet"))) := by
        have a1 := of_decide_eq_false (Bool.eq_false_iff.mpr g1)
        have a2 := of_decide_eq_false (Bool.eq_false_iff.mpr g2)
        rw [fe, fitW, if_pos w2, decide_eq_true (show 0 ≤ co st.ns 2 by omega), decide_eq_true (show co st.ns 2 ≤ 1 by omega), names, if_neg w1, if_pos w2, hxs]; rfl
      rw [← hxs] at hln
      have SS := S34
  case' L2 =>
    have w2 : st.w ≠ "meet" := fun e => p2 (decide_eq_true (by rw [e]))
    obtain ⟨ln, rfl⟩ : ∃ ln, ln = n1 := ⟨_, rfl⟩
    obtain ⟨xs, hxs⟩ : ∃ xs : List Int, xs = st.ns := ⟨_, rfl⟩
    have hln := en1
    have hfx : fits ss k = xs.all (nmOk ss k (decide (st.w = "meet"))) := by
      rw [fe, fitW, if_neg w2, names, if_neg w1, if_neg w2, hxs]; rfl
    rw [← hxs] at hln
    have SS := S12
  all_goals
    have bad : ∀ i, i < xs.length → nmOk ss k (decide (st.w = "meet")) (co xs i) = false → ∀ H', Same H H' → Q (.bl false) H' := fun i hi hb H' sm => by
      have e : fits ss k = false := by
        rw [hfx, List.all_eq_false]
        exact ⟨_, co_mem hi, by rw [hb]; exact Bool.false_ne_true⟩
      have q := fin H' sm
      rwa [e] at q
    refine ⟨_, rfl, ln, rfl, ⟨_, SqL.of hln⟩, for_list (xs := xs.map V.int) (fun i σ H' => ∃ y4 : Option V, σ = [some (.ref l), some (.int (k : Int)), some (.ref t), some (.ref ln), y4] ∧ Same H H' ∧ H' ln = some (.lst (xs.map V.int)) ∧ ∀ j, j < i → nmOk ss k (decide (st.w = "meet")) (co xs j) = true)
      ⟨none, rfl, SS, hln, fun j h => by omega⟩ (fun i σ H' _ hP => by obtain ⟨_, _, _, h, _⟩ := hP; exact SqL.of h) (fun i x σ H' hx hP => ?_) (fun σ H' hP => ?_)⟩
    · obtain ⟨y4, rfl, sm, hln, hall⟩ := hP
      obtain ⟨hi, rfl⟩ := map_mem hx
      refine ⟨_, rfl, _, _, rfl, rfl, _, rfl, ite2 (fun a1 => iteT ?_) (fun a1 => ⟨_, rfl, _, rfl, _, _, rfl, rfl, _, rfl, ite2 (fun a2 => ?_) (fun a2 => ?_)⟩)⟩
      · have b1 := of_decide_eq_true a1
        exact bad i hi (by unfold nmOk; rw [decide_eq_false (show ¬ 0 ≤ co xs i by omega)]; rfl) _ sm
      · have b2 := of_decide_eq_true a2
        exact bad i hi (by unfold nmOk; rw [decide_eq_false (show ¬ co xs i < (k : Int) by omega)]; simp) _ sm
      · have b1 : 0 ≤ co xs i := by have := of_decide_eq_false (Bool.eq_false_iff.mpr a1); omega
        have b2 : co xs i < (k : Int) := by have := of_decide_eq_false (Bool.eq_false_iff.mpr a2); omega
        have hj : (co xs i).toNat < ss.length := by omega
        have gn : ss[(co xs i).toNat]? = some ss[(co xs i).toNat] := List.getElem?_eq_getElem hj
        generalize ss[(co xs i).toNat] = sn at gn
        obtain ⟨tn, htn, etn⟩ := (hss.same sm).get gn
        have hun : atI us (co xs i) = some (.ref tn) := by
          have e : co xs i = (((co xs i).toNat : Nat) : Int) := by omega
          rw [e]; exact atI_nat htn
        have h0n : atI (stV sn) 0 = some (.str sn.w) := atI_nat (j := 0) rfl
        have nme : nmOk ss k (decide (st.w = "meet")) (co xs i) = (isPt sn.w == !decide (st.w = "meet")) := by
          unfold nmOk; rw [decide_eq_true b1, decide_eq_true b2, gn]; rfl
        refine ⟨_, rfl, _, rfl, l, _, _, _, rfl, rfl, SqL.of (sm _ _ hl), hun, tn, _, _, _, rfl, rfl, SqT.of etn, h0n, (by show 2 ≤ sizeLine; decide), fun q hq => ⟨q, _, rfl, .inl (SqL.of upd_same), rfl, rfl, ?_⟩⟩
        have S5 := same_new hq (.lst [V.str "point", .str "meet"])
        refine ⟨_, rfl, t, _, _, _, rfl, rfl, SqT.of ((sm.trans S5) _ _ et), h0, rfl, rfl, _, rfl, ?_⟩
        have ed : decide (V.str st.w = V.str "meet") = decide (st.w = "meet") := by
          by_cases z : st.w = "meet"
          · rw [decide_eq_true z, decide_eq_true (by rw [z])]
          · rw [decide_eq_false z, decide_eq_false (fun e => z (V.str.inj e))]
        have ev : decide (V.bl (inV (.str sn.w) [.str "point", .str "meet"]) = V.bl (!decide (V.str st.w = V.str "meet"))) = (isPt sn.w == !decide (st.w = "meet")) := by
          rw [ed, dec_bl]; rfl
        refine ite2 (fun a3 => ?_) (fun a3 => ?_)
        · have e : (isPt sn.w == !decide (st.w = "meet")) = false := by
            rw [← ev]
            exact (Bool.not_eq_true' _).mp a3
          exact bad i hi (by rw [nme, e]) _ (sm.trans S5)
        · have e : (isPt sn.w == !decide (st.w = "meet")) = true := by
            rw [← ev]
            have a4 := Bool.eq_false_iff.mpr a3
            exact (Bool.not_eq_false' (b := _)).mp a4
          refine ⟨some (.int (co xs i)), rfl, sm.trans S5, S5 _ _ hln, fun j hj => ?_⟩
          by_cases z : j = i
          · rw [z, nme, e]
          · exact hall j (by omega)
    · obtain ⟨y4, rfl, sm, hln, hall⟩ := hP
      have e : fits ss k = true := by
        rw [hfx, List.all_eq_true]
        intro x hx
        obtain ⟨j, hj, rfl⟩ := List.getElem_of_mem hx
        have := hall j (by rw [List.length_map]; exact hj)
        simpa [co, List.getD_eq_getElem?_getD, hj] using this
      have q := fin H' sm
      rw [e] at q
      exact q
end
end KD

namespace KG
open PySem PySem.Spec PyProof.Rows L2
/-! pieces of lists of steps -/
def cutS (ss : List Stp) (lo hi : Option Int) : List Stp := (ss.drop (HT.sIx ss.length 0 lo)).take (HT.sIx ss.length ss.length hi - HT.sIx ss.length 0 lo)
theorem SAt.cut {H : Hp} {us : List V} {ss : List Stp} (h : SAt H us ss) (lo hi : Option Int) : SAt H (cutV us lo hi) (cutS ss lo hi) := by
  unfold cutV cutS
  rw [h.len]
  exact (h.drop _).take _
theorem cutS_len (ss : List Stp) (lo hi : Option Int) : (cutS ss lo hi).length ≤ ss.length := by
  unfold cutS
  rw [List.length_take, List.length_drop]
  omega
theorem cutS_mem {ss : List Stp} {lo hi : Option Int} {s : Stp} (h : s ∈ cutS ss lo hi) : s ∈ ss := List.mem_of_mem_drop (List.mem_of_mem_take h)
theorem cut_from2 (xs : List V) (n : Nat) : cutV xs (some (n : Int)) none = xs.drop n := by
  by_cases h : n ≤ xs.length
  · exact cut_from xs n h
  · unfold cutV
    rw [HT.sIx_none, HT.sIx_nat, Nat.min_eq_right (by omega), Nat.sub_self, List.take_zero, List.drop_eq_nil_of_le (by omega)]
end KG
namespace KD
open PySem PySem.Spec PyProof.Rows L2 KG
abbrev s_law_changed : Stmt := topS 14
abbrev N_law_changed : List Str := ["state", "steps", "at", "kind", "step", "place", "other"]
theorem sc_law_changed : FnScope N_law_changed ["state", "steps"] (defScope s_law_changed) := ⟨rfl, rfl, rfl, by decide +kernel, rfl, by decide +kernel, by decide +kernel⟩
section
variable {P : Program} {w : World} {K : PySem.W.Frag} {mg : Str → Option Value} {base : Heap}
def sp_law_changed (K : PySem.W.Frag) : Sp := fun vs H Q _ => ∃ (p a l : Addr) (ns : List Int) (us : List V) (ss : List Stp), vs = [.ref p, .ref l] ∧ StX H p a ns ∧ SqO K H p a (ns.map V.int) ∧ l ≠ p ∧ H l = some (.lst us) ∧ SAt H us ss ∧ ss ≠ [] ∧ ss.length ≤ 125 ∧ (∀ s ∈ ss, SForm s) ∧
  ∀ H' l' us' ss', StX H' p a ns → But p H H' → l' ≠ p → H' l' = some (.lst us') → SAt H' us' ss' → ss'.length ≤ 4 * ss.length + 1 → (∀ s ∈ ss', SForm s) → Q (.ref l') H'
theorem ok_law_changed {f : Addr} {fd : FuncData} {k : Nat} (F : Fun K "_law_changed" "_law_changed" s_law_changed f fd) (M : Names mg) (G_law_take : Cal P w K mg base k "_law_take" ["state", "many"] (sp_law_take K)) : FnOk P w K mg base CX0 (k + 1) f fd ["state", "steps"] (sp_law_changed K) := by
  refine F.ok sc_law_changed (fun vs H Q E h => ?_) (fun cdv A outer s H vs Q E hr h => ?_)
  · obtain ⟨p, a, l, ns, us, ss, rfl, _⟩ := h
    rfl
  obtain ⟨p, a, l, ns, us, ss, rfl, hX, hO, hlp, hl, hss, hne, hlen, hform, fin⟩ := h
  refine ⟨_, (pss_cons (ps_set (i := 2) sc_law_changed.nd rfl (.inl rfl) (pe_call G_law_take.ok hr (by rfl) G_law_take.m G_law_take.kp G_law_take.b .nil pass0 (pa_cons (pv 0) (pa_cons (pe_callB call_len_seq (by rfl) M.len PySem.boot_len (pa_cons (pv 1) pa_nil)) pa_nil))))
    (pss_cons (ps_set (i := 3) sc_law_changed.nd rfl (.inl rfl) (pe_call G_law_take.ok hr (by rfl) G_law_take.m G_law_take.kp G_law_take.b .nil pass0 (pa_cons (pv 0) (pa_cons pe_int pa_nil))))
    (pss_cons (ps_if (pt_cmpR op_eq (pv 3) pe_int (nomark _))
      (pss_one (ps_ret (pe_op op_cat (pe_slice sl_list (pv 1) po_none (po_some (pv 2))) (pe_slice sl_list (pv 1) (po_some (pe_op op_add (pv 2) pe_int)) po_none))))
      pss_nil)
    (pss_cons (ps_if (pt_cmpR op_eq (pv 3) pe_int (nomark _))
      (pss_one (ps_ret (pe_op op_cat (pe_op op_cat (pe_slice sl_list (pv 1) po_none (po_some (pv 2))) (pe_slice sl_list (pv 1) (po_some (pv 2)) (po_some (pe_op op_add (pv 2) pe_int)))) (pe_slice sl_list (pv 1) (po_some (pv 2)) po_none))))
      pss_nil)
    (pss_cons (ps_if (pt_cmpR op_eq (pv 3) pe_int (nomark _))
      (pss_one (ps_ret (pe_op op_cat (pe_op op_cat (pe_op op_cat (pe_slice sl_list (pv 1) po_none (po_some (pv 2))) (pe_slice sl_list (pv 1) (po_some (pe_op op_add (pv 2) pe_int)) (po_some (pe_op op_add (pv 2) pe_int)))) (pe_slice sl_list (pv 1) (po_some (pv 2)) (po_some (pe_op op_add (pv 2) pe_int)))) (pe_slice sl_list (pv 1) (po_some (pe_op op_add (pv 2) pe_int)) po_none))))
      pss_nil)
    (pss_cons (ps_set (i := 4) sc_law_changed.nd rfl (.inl rfl) (pe_ix ix_list (pv 1) (pv 2) (fun _ _ => rfl)))
    (pss_cons (ps_set (i := 5) sc_law_changed.nd rfl (.inl rfl) (pe_op op_add pe_int (pe_call G_law_take.ok hr (by rfl) G_law_take.m G_law_take.kp G_law_take.b .nil pass0 (pa_cons (pv 0) (pa_cons (pe_op op_sub (pe_callB call_len_seq (by rfl) M.len PySem.boot_len (pa_cons (pv 4) pa_nil)) pe_int) pa_nil)))))
    (pss_cons (ps_set (i := 6) sc_law_changed.nd rfl (.inl rfl) (pe_op op_sub (pe_call G_law_take.ok hr (by rfl) G_law_take.m G_law_take.kp G_law_take.b .nil pass0 (pa_cons (pv 0) (pa_cons (pe_op op_add (pe_callB call_len_seq (by rfl) M.len PySem.boot_len (pa_cons (pv 1) pa_nil)) pe_int) pa_nil))) pe_int))
    (pss_one (ps_ret (pe_op op_cat (pe_op op_cat (pe_slice sl_list (pv 1) po_none (po_some (pv 2))) (pe_lst (pa_cons (pe_op op_catT (pe_op op_catT (pe_slice sl_tup (pv 4) po_none (po_some (pv 5))) (pe_tup (pa_cons (pv 6) pa_nil))) (pe_slice sl_tup (pv 4) (po_some (pe_op op_add (pv 5) pe_int)) po_none)) pa_nil))) (pe_slice sl_list (pv 1) (po_some (pe_op op_add (pv 2) pe_int)) po_none)))))))))))), ?_⟩
  have lus := hss.len
  have lgs : ∀ n : Nat, n ≤ 500 → ((n : Nat) : Int).natAbs.log2 < 9000 := fun n h => log_small (n := 10) (by omega) (by decide) (by decide)
  have lg2 : ∀ n : Int, n.natAbs < 2 ^ 10 → n.natAbs.log2 < 9000 := fun n h => log_small (n := 10) h (by decide) (by decide)
  have pos := List.length_pos_iff.mpr hne
  refine ⟨_, rfl, _, rfl, l, _, rfl, .inl (SqL.of hl), p, a, ns, _, rfl, hX, hO, by omega, lgs _ (by omega), fun d H1 d0 d1 X1 b1 => ?_⟩
  refine ⟨_, rfl, p, a, ns, _, rfl, X1, hO.but b1, by decide, lg2 _ (by decide), fun kd H2 kd0 kd7 X2 b2 => ?_⟩
  have B2 := b1.trans b2
  have hl2 := B2 _ _ hlp hl
  have hs2 := hss.but hX B2
  have O2 := hO.but B2
  have sm : ∀ n : Nat, n ≤ 1000 → n ≤ sizeLine := fun n h => Nat.le_of_lt (small1000 h)
  have lc : ∀ lo hi, (cutV us lo hi).length ≤ 125 := fun lo hi => Nat.le_trans (cutV_length us lo hi) (by omega)
  have lS : ∀ lo hi, (cutS ss lo hi).length ≤ ss.length := fun lo hi => cutS_len ss lo hi
  have fS : ∀ lo hi, ∀ s ∈ cutS ss lo hi, SForm s := fun lo hi s h => hform s (cutS_mem h)
  refine ⟨_, rfl, rfl, _, rfl, ite2 (fun c0 => ?_) (fun c0 => ?_)⟩
  · refine ⟨_, rfl, _, rfl, _, rfl, l, us, rfl, SqL.of hl2, fun q1 n1 => ?_⟩
    have S1 := same_new n1 (.lst (cutV us none (some d)))
    refine ⟨_, rfl, _, rfl, _, _, rfl, rfl, _, rfl, l, us, rfl, SqL.of (S1 _ _ hl2), fun q2 n2 => ?_⟩
    have S2 := same_new n2 (.lst (cutV us (some (d + 1)) none))
    refine ⟨q1, q2, _, _, rfl, rfl, S2 _ _ upd_same, upd_same, sm _ (by have := lc none (some d); have := lc (some (d + 1)) none; omega), fun q3 n3 => ?_⟩
    have S3 := same_new n3 (.lst (cutV us none (some d) ++ cutV us (some (d + 1)) none))
    have SS := S1.trans (S2.trans S3)
    refine fin _ q3 _ (cutS ss none (some d) ++ cutS ss (some (d + 1)) none) (X2.same SS) (B2.trans (.of SS)) ((X2.same (S1.trans S2)).ne n3) upd_same (((hs2.same SS).cut _ _).append ((hs2.same SS).cut _ _)) ?_ ?_
    · rw [List.length_append]; have := lS none (some d); have := lS (some (d + 1)) none; omega
    · intro s h
      rcases List.mem_append.mp h with h | h
      · exact fS _ _ s h
      · exact fS _ _ s h
  refine ⟨_, rfl, rfl, _, rfl, ite2 (fun c1 => ?_) (fun c1 => ?_)⟩
  · refine ⟨_, rfl, _, rfl, _, rfl, l, us, rfl, SqL.of hl2, fun q1 n1 => ?_⟩
    have S1 := same_new n1 (.lst (cutV us none (some d)))
    refine ⟨_, rfl, _, rfl, _, rfl, _, rfl, _, _, rfl, rfl, _, rfl, l, us, rfl, SqL.of (S1 _ _ hl2), fun q2 n2 => ?_⟩
    have S2 := same_new n2 (.lst (cutV us (some d) (some (d + 1))))
    refine ⟨q1, q2, _, _, rfl, rfl, S2 _ _ upd_same, upd_same, sm _ (by have := lc none (some d); have := lc (some d) (some (d + 1)); omega), fun q3 n3 => ?_⟩
    have S3 := same_new n3 (.lst (cutV us none (some d) ++ cutV us (some d) (some (d + 1))))
    have S123 := S1.trans (S2.trans S3)
    refine ⟨_, rfl, _, rfl, _, rfl, l, us, rfl, SqL.of (S123 _ _ hl2), fun q4 n4 => ?_⟩
    have S4 := same_new n4 (.lst (cutV us (some d) none))
    refine ⟨q3, q4, _, _, rfl, rfl, S4 _ _ upd_same, upd_same, sm _ (by rw [List.length_append]; have := lc none (some d); have := lc (some d) (some (d + 1)); have := lc (some d) none; omega), fun q5 n5 => ?_⟩
    have S5 := same_new n5 (.lst (cutV us none (some d) ++ cutV us (some d) (some (d + 1)) ++ cutV us (some d) none))
    have SS := S123.trans (S4.trans S5)
    refine fin _ q5 _ (cutS ss none (some d) ++ cutS ss (some d) (some (d + 1)) ++ cutS ss (some d) none) (X2.same SS) (B2.trans (.of SS)) ((X2.same (S123.trans S4)).ne n5) upd_same ((((hs2.same SS).cut _ _).append ((hs2.same SS).cut _ _)).append ((hs2.same SS).cut _ _)) ?_ ?_
    · rw [List.length_append, List.length_append]; have := lS none (some d); have := lS (some d) (some (d + 1)); have := lS (some d) none; omega
    · intro s h
      rcases List.mem_append.mp h with h | h
      · rcases List.mem_append.mp h with h | h
        · exact fS _ _ s h
        · exact fS _ _ s h
      · exact fS _ _ s h
  refine ⟨_, rfl, rfl, _, rfl, ite2 (fun c2 => ?_) (fun c2 => ?_)⟩
  · refine ⟨_, rfl, _, rfl, _, rfl, l, us, rfl, SqL.of hl2, fun q1 n1 => ?_⟩
    have S1 := same_new n1 (.lst (cutV us none (some d)))
    refine ⟨_, rfl, _, rfl, _, _, rfl, rfl, _, rfl, _, rfl, _, _, rfl, rfl, _, rfl, l, us, rfl, SqL.of (S1 _ _ hl2), fun q2 n2 => ?_⟩
    have S2 := same_new n2 (.lst (cutV us (some (d + 1)) (some (d + 2))))
    refine ⟨q1, q2, _, _, rfl, rfl, S2 _ _ upd_same, upd_same, sm _ (by have := lc none (some d); have := lc (some (d + 1)) (some (d + 2)); omega), fun q3 n3 => ?_⟩
    have S3 := same_new n3 (.lst (cutV us none (some d) ++ cutV us (some (d + 1)) (some (d + 2))))
    have S123 := S1.trans (S2.trans S3)
    refine ⟨_, rfl, _, rfl, _, rfl, _, rfl, _, _, rfl, rfl, _, rfl, l, us, rfl, SqL.of (S123 _ _ hl2), fun q4 n4 => ?_⟩
    have S4 := same_new n4 (.lst (cutV us (some d) (some (d + 1))))
    refine ⟨q3, q4, _, _, rfl, rfl, S4 _ _ upd_same, upd_same, sm _ (by rw [List.length_append]; have := lc none (some d); have := lc (some (d + 1)) (some (d + 2)); have := lc (some d) (some (d + 1)); omega), fun q5 n5 => ?_⟩
    have S5 := same_new n5 (.lst (cutV us none (some d) ++ cutV us (some (d + 1)) (some (d + 2)) ++ cutV us (some d) (some (d + 1))))
    have S15 := S123.trans (S4.trans S5)
    refine ⟨_, rfl, _, rfl, _, _, rfl, rfl, _, rfl, l, us, rfl, SqL.of (S15 _ _ hl2), fun q6 n6 => ?_⟩
    have S6 := same_new n6 (.lst (cutV us (some (d + 2)) none))
    refine ⟨q5, q6, _, _, rfl, rfl, S6 _ _ upd_same, upd_same, sm _ (by rw [List.length_append, List.length_append]; have := lc none (some d); have := lc (some (d + 1)) (some (d + 2)); have := lc (some d) (some (d + 1)); have := lc (some (d + 2)) none; omega), fun q7 n7 => ?_⟩
    have S7 := same_new n7 (.lst (cutV us none (some d) ++ cutV us (some (d + 1)) (some (d + 2)) ++ cutV us (some d) (some (d + 1)) ++ cutV us (some (d + 2)) none))
    have SS := S15.trans (S6.trans S7)
    refine fin _ q7 _ (cutS ss none (some d) ++ cutS ss (some (d + 1)) (some (d + 2)) ++ cutS ss (some d) (some (d + 1)) ++ cutS ss (some (d + 2)) none) (X2.same SS) (B2.trans (.of SS)) ((X2.same (S15.trans S6)).ne n7) upd_same (((((hs2.same SS).cut _ _).append ((hs2.same SS).cut _ _)).append ((hs2.same SS).cut _ _)).append ((hs2.same SS).cut _ _)) ?_ ?_
    · rw [List.length_append, List.length_append, List.length_append]; have := lS none (some d); have := lS (some (d + 1)) (some (d + 2)); have := lS (some d) (some (d + 1)); have := lS (some (d + 2)) none; omega
    · intro s h
      rcases List.mem_append.mp h with h | h
      · rcases List.mem_append.mp h with h | h
        · rcases List.mem_append.mp h with h | h
          · exact fS _ _ s h
          · exact fS _ _ s h
        · exact fS _ _ s h
      · exact fS _ _ s h
  -- a step of its own
  have hk : d.toNat < ss.length := by omega
  have gs : ss[d.toNat]? = some ss[d.toNat] := List.getElem?_eq_getElem hk
  have form0 : SForm ss[d.toNat] := hform _ (List.getElem_mem hk)
  generalize ss[d.toNat] = st at gs form0
  obtain ⟨t, ht, et⟩ := hs2.get gs
  have hu : atI us d = some (.ref t) := by
    have e : d = ((d.toNat : Nat) : Int) := by omega
    rw [e]; exact atI_nat ht
  have lst : (stV st).length = st.ns.length + 1 := by simp [stV]
  have l2 : 2 ≤ st.ns.length ∧ st.ns.length ≤ 3 := by rcases form0 with ⟨_, h⟩ | ⟨_, h⟩ | ⟨_, h⟩ | ⟨_, h⟩ <;> omega
  have tp : t ≠ p := fun z => by
    obtain ⟨_, _, _, _, e2, _⟩ := X2
    rw [z, e2] at et; cases et
  refine ⟨_, rfl, _, rfl, l, _, _, _, rfl, rfl, SqL.of hl2, hu, ?_⟩
  refine ⟨_, rfl, _, rfl, t, _, rfl, .inr (SqT.of et), _, _, rfl, rfl, p, a, ns, _, rfl, X2, O2, by omega, lg2 _ (by omega), fun e3 H3 e30 e31 X3 b3 => ?_⟩
  have et3 := b3 _ _ tp et
  have hl3 := b3 _ _ hlp hl2
  refine ⟨_, _, rfl, rfl, ?_⟩
  refine ⟨_, rfl, _, rfl, l, _, rfl, .inl (SqL.of hl3), _, _, rfl, rfl, p, a, ns, _, rfl, X3, O2.but b3, by omega, lg2 _ (by omega), fun e4 H4 e40 e41 X4 b4 => ?_⟩
  have et4 := b4 _ _ tp et3
  have hl4 := b4 _ _ hlp hl3
  have hs4 := (hs2.but X2 b3).but X3 b4
  have B4 := B2.trans (b3.trans b4)
  refine ⟨_, _, rfl, rfl, ?_⟩
  obtain ⟨j, rfl⟩ := Int.eq_ofNat_of_zero_le e30
  have jn : j < st.ns.length := by omega
  have pj : (1 + (j : Int)) = ((j + 1 : Nat) : Int) := by omega
  have pj2 : (1 + (j : Int)) + 1 = ((j + 2 : Nat) : Int) := by omega
  have cA : cutV (stV st) none (some (1 + (j : Int))) = (stV st).take (j + 1) := by rw [pj]; exact cut_to _ _ (by omega)
  have cB : cutV (stV st) (some (1 + (j : Int) + 1)) none = (stV st).drop (j + 2) := by rw [pj2]; exact cut_from2 _ _
  have nwA : ¬ (HT.sIx (stV st).length 0 none = 0 ∧ HT.sIx (stV st).length (stV st).length (some (1 + (j : Int))) = (stV st).length) := fun z => by
    have e := z.2
    rw [pj, HT.sIx_nat, Nat.min_eq_left (by omega)] at e
    omega
  have nwB : ¬ (HT.sIx (stV st).length 0 (some (1 + (j : Int) + 1)) = 0 ∧ HT.sIx (stV st).length (stV st).length none = (stV st).length) := by
    rw [pj2]; exact not_whole (i := j + 2) (by omega) (by omega)
  refine ⟨_, rfl, _, rfl, _, rfl, l, us, rfl, SqL.of hl4, fun q1 n1 => ?_⟩
  have S1 := same_new n1 (.lst (cutV us none (some d)))
  refine ⟨_, rfl, _, rfl, _, rfl, t, _, rfl, SqT.of (S1 _ _ et4), nwA, fun q2 n2 => ?_⟩
  rw [cA]
  have S2 := same_new n2 (.tup ((stV st).take (j + 1)))
  refine ⟨_, rfl, (by show 1 ≤ sizeLine; decide), fun q3 n3 => ?_⟩
  have S3 := same_new n3 (.tup [V.int (e4 - 2)])
  have ltk : ((stV st).take (j + 1)).length = j + 1 := by rw [List.length_take]; omega
  have ldr : ((stV st).drop (j + 2)).length = (stV st).length - (j + 2) := List.length_drop
  refine ⟨q2, q3, _, _, rfl, rfl, SqT.of (S3 _ _ upd_same), SqT.of upd_same, List.ne_nil_of_length_pos (by omega), sm _ (by rw [List.length_singleton]; omega), fun z => absurd z (List.cons_ne_nil _ _), fun _ q4 n4 => ?_⟩
  have S4 := same_new n4 (.tup ((stV st).take (j + 1) ++ [V.int (e4 - 2)]))
  have S14 := S1.trans (S2.trans (S3.trans S4))
  refine ⟨_, rfl, _, rfl, _, _, rfl, rfl, _, rfl, t, _, rfl, SqT.of (S14 _ _ et4), nwB, fun q5 n5 => ?_⟩
  rw [cB]
  have S5 := same_new n5 (.tup ((stV st).drop (j + 2)))
  obtain ⟨sn, hsn⟩ : ∃ sn : Stp, sn = ⟨st.w, st.ns.take j ++ [e4 - 2] ++ st.ns.drop (j + 1)⟩ := ⟨_, rfl⟩
  have esn : (stV st).take (j + 1) ++ [V.int (e4 - 2)] ++ (stV st).drop (j + 2) = stV sn := by
    rw [hsn]
    simp [stV, List.map_take, List.map_drop]
  have fsn : SForm sn := by
    have el : (st.ns.take j ++ [e4 - 2] ++ st.ns.drop (j + 1)).length = st.ns.length := by
      rw [List.length_append, List.length_append, List.length_take, List.length_drop, List.length_singleton]; omega
    rw [hsn]
    rcases form0 with ⟨a, b⟩ | ⟨a, b⟩ | ⟨a, b⟩ | ⟨a, b⟩
    · exact .inl ⟨a, el.trans b⟩
    · exact .inr (.inl ⟨a, el.trans b⟩)
    · exact .inr (.inr (.inl ⟨a, el.trans b⟩))
    · exact .inr (.inr (.inr ⟨a, el.trans b⟩))
  have l4 : ((stV st).take (j + 1) ++ [V.int (e4 - 2)]).length = j + 2 := by rw [List.length_append, ltk]; rfl
  -- the rest, with the tuple made at qt
  have rest : ∀ (qt : Addr) (Hc : Hp), Same H4 Hc → Hc q1 = some (.lst (cutV us none (some d))) → Hc qt = some (.tup (stV sn)) → ∀ q6, Hc q6 = none → ∀ q7, (upd Hc q6 (.lst [.ref qt])) q7 = none → ∀ q8, (upd (upd Hc q6 (.lst [.ref qt])) q7 (.lst (cutV us none (some d) ++ [.ref qt]))) q8 = none → ∀ q9, (upd (upd (upd Hc q6 (.lst [.ref qt])) q7 (.lst (cutV us none (some d) ++ [.ref qt]))) q8 (.lst (cutV us (some (d + 1)) none))) q9 = none → Q (.ref q9) (upd (upd (upd (upd Hc q6 (.lst [.ref qt])) q7 (.lst (cutV us none (some d) ++ [.ref qt]))) q8 (.lst (cutV us (some (d + 1)) none))) q9 (.lst (cutV us none (some d) ++ [.ref qt] ++ cutV us (some (d + 1)) none))) := by
    intro qt Hc sc h1 hq q6 n6 q7 n7 q8 n8 q9 n9
    have T6 := same_new n6 (.lst [.ref qt])
    have T7 := same_new n7 (.lst (cutV us none (some d) ++ [.ref qt]))
    have T8 := same_new n8 (.lst (cutV us (some (d + 1)) none))
    have T9 := same_new n9 (.lst (cutV us none (some d) ++ [.ref qt] ++ cutV us (some (d + 1)) none))
    have TT := T6.trans (T7.trans (T8.trans T9))
    have SS := sc.trans TT
    refine fin _ q9 _ (cutS ss none (some d) ++ [sn] ++ cutS ss (some (d + 1)) none) (X4.same SS) (B4.trans (.of SS)) ((X4.same (sc.trans (T6.trans (T7.trans T8)))).ne n9) upd_same ((((hs4.same SS).cut _ _).append (.cons (TT _ _ hq) .nil)).append ((hs4.same SS).cut _ _)) ?_ ?_
    · rw [List.length_append, List.length_append, List.length_singleton]; have := lS none (some d); have := lS (some (d + 1)) none; omega
    · intro s h
      rcases List.mem_append.mp h with h | h
      · rcases List.mem_append.mp h with h | h
        · exact fS _ _ s h
        · rw [List.mem_singleton.mp h]; exact fsn
      · exact fS _ _ s h
  refine ⟨q4, q5, _, _, rfl, rfl, SqT.of (S5 _ _ upd_same), SqT.of upd_same, List.ne_nil_of_length_pos (by show 0 < ((stV st).take (j + 1) ++ [V.int (e4 - 2)]).length; omega), sm _ (by show ((stV st).take (j + 1) ++ [V.int (e4 - 2)]).length + ((stV st).drop (j + 2)).length ≤ 1000; omega), fun z => ?_, fun z qt nt => ?_⟩
  · have SC := S14.trans S5
    have hq : (upd (upd (upd (upd (upd H4 q1 (.lst (cutV us none (some d)))) q2 (.tup ((stV st).take (j + 1)))) q3 (.tup [V.int (e4 - 2)])) q4 (.tup ((stV st).take (j + 1) ++ [V.int (e4 - 2)]))) q5 (.tup ((stV st).drop (j + 2)))) q4 = some (.tup (stV sn)) := by
      rw [← esn, z, List.append_nil]
      rw [z] at S5
      exact S5 _ _ upd_same
    have hq1 := (S2.trans (S3.trans (S4.trans S5))) _ _ (show (upd H4 q1 (.lst (cutV us none (some d)))) q1 = some (.lst (cutV us none (some d))) from upd_same)
    refine ⟨(by show 1 ≤ sizeLine; decide), fun q6 n6 => ?_⟩
    refine ⟨q1, q6, _, _, rfl, rfl, same_new n6 _ _ _ hq1, upd_same, sm _ (by rw [List.length_singleton]; have := lc none (some d); omega), fun q7 n7 => ?_⟩
    have T67 := (same_new n6 (.lst [.ref q4])).trans (same_new n7 (.lst (cutV us none (some d) ++ [.ref q4])))
    refine ⟨_, rfl, _, rfl, _, _, rfl, rfl, _, rfl, l, us, rfl, SqL.of ((SC.trans T67) _ _ hl4), fun q8 n8 => ?_⟩
    refine ⟨q7, q8, _, _, rfl, rfl, same_new n8 _ _ _ upd_same, upd_same, sm _ (by rw [List.length_append, List.length_singleton]; have := lc none (some d); have := lc (some (d + 1)) none; omega), fun q9 n9 => ?_⟩
    exact rest q4 _ SC hq1 hq q6 n6 q7 n7 q8 n8 q9 n9
  · have S6 := same_new nt (.tup ((stV st).take (j + 1) ++ [V.int (e4 - 2)] ++ (stV st).drop (j + 2)))
    have SC := S14.trans (S5.trans S6)
    have hq : (upd (upd (upd (upd (upd (upd H4 q1 (.lst (cutV us none (some d)))) q2 (.tup ((stV st).take (j + 1)))) q3 (.tup [V.int (e4 - 2)])) q4 (.tup ((stV st).take (j + 1) ++ [V.int (e4 - 2)]))) q5 (.tup ((stV st).drop (j + 2)))) qt (.tup ((stV st).take (j + 1) ++ [V.int (e4 - 2)] ++ (stV st).drop (j + 2)))) qt = some (.tup (stV sn)) := by
      rw [upd_same, esn]
    have hq1 := (S2.trans (S3.trans (S4.trans (S5.trans S6)))) _ _ (show (upd H4 q1 (.lst (cutV us none (some d)))) q1 = some (.lst (cutV us none (some d))) from upd_same)
    refine ⟨(by show 1 ≤ sizeLine; decide), fun q6 n6 => ?_⟩
    refine ⟨q1, q6, _, _, rfl, rfl, same_new n6 _ _ _ hq1, upd_same, sm _ (by rw [List.length_singleton]; have := lc none (some d); omega), fun q7 n7 => ?_⟩
    have T67 := (same_new n6 (.lst [.ref qt])).trans (same_new n7 (.lst (cutV us none (some d) ++ [.ref qt])))
    refine ⟨_, rfl, _, rfl, _, _, rfl, rfl, _, rfl, l, us, rfl, SqL.of ((SC.trans T67) _ _ hl4), fun q8 n8 => ?_⟩
    refine ⟨q7, q8, _, _, rfl, rfl, same_new n8 _ _ _ upd_same, upd_same, sm _ (by rw [List.length_append, List.length_singleton]; have := lc none (some d); have := lc (some (d + 1)) none; omega), fun q9 n9 => ?_⟩
    exact rest qt _ SC hq1 hq q6 n6 q7 n7 q8 n8 q9 n9
end
end KD

namespace KG
open PySem PySem.Spec PyProof.Rows L2
/-- the first step that is not well formed -/
def firstBad (ss : List Stp) : Option Nat := (List.range ss.length).find? fun k => !fits ss k
/-- what the law tells of a drawing -/
def toldV (ss : List Stp) : List V := match firstBad ss with
  | none => [.str "none", .bl true]
  | some k => [.str "bad", .int (k : Int), .bl true]
/-- the program's check: nothing, or an error of the class at C whose field index is the first bad step's place -/
def sp_check (C : Addr) : Sp := fun vs H Q E => ∃ (t : Addr) (us : List V) (ss : List Stp), vs = [.ref t] ∧ H t = some (.tup us) ∧ SAt H us ss ∧ ss.length ≤ 1100 ∧ (∀ s ∈ ss, SForm s) ∧
  (firstBad ss = none → ∀ H', Same H H' → Q .non H') ∧ (∀ k, firstBad ss = some k → ∀ H' d, Same H H' → H' d = some (.xd [(("index" : Str), .int (k : Int))]) → E (.ref C) (some d) H')
end KG
namespace KD
open PySem PySem.Spec PyProof.Rows L2 KG
abbrev s_law_told : Stmt := topS 15
abbrev N_law_told : List Str := ["drawing", "e"]
theorem sc_law_told : FnScope N_law_told ["drawing"] (defScope s_law_told) := ⟨rfl, rfl, rfl, by decide +kernel, rfl, by decide +kernel, by decide +kernel⟩
section
variable {P : Program} {w : World} {K : PySem.W.Frag} {mg : Str → Option Value} {base : Heap} {C fI W : Addr}
def sp_law_told : Sp := fun vs H Q _ => ∃ (t : Addr) (us : List V) (ss : List Stp), vs = [.ref t] ∧ H t = some (.tup us) ∧ SAt H us ss ∧ ss.length ≤ 1100 ∧ (∀ s ∈ ss, SForm s) ∧
  ∀ H' q, Same H H' → H' q = some (.tup (toldV ss)) → Q (.ref q) H'
theorem ok_law_told {f fc : Addr} {fd fdc : FuncData} {k : Nat} (F : Fun K "_law_told" "_law_told" s_law_told f fd) (M : Names mg) (T : OwnE K mg "BadStep" "index" C fI W) (gW : mg "WorkError" = some (.ref W))
    (G : FnOk P w K mg base (L2.CX P w) k fc fdc ["drawing"] (sp_check C)) (gm : mg "check" = some (.ref fc)) (gk : PySem.W.keepIn K (.ref fc) = true) (gb : Binds K fdc ["drawing"] []) : FnOk P w K mg base CX0 (k + 1) f fd ["drawing"] sp_law_told := by
  refine F.ok sc_law_told (fun vs H Q E h => ?_) (fun cdv A outer s H vs Q E hr h => ?_)
  · obtain ⟨t, us, ss, rfl, _⟩ := h
    rfl
  obtain ⟨t, us, ss, rfl, ht, hs, hl, hf, fin⟩ := h
  refine ⟨_, pss_one (ps_try_as (i := 1) (tb := fun W => tRet (tTup (tCons (tC (.str "none")) (tCons (tIsN (tCallS (sp_check C) (WE W) (tCons (tVar 0) tNil))) tNil))))
    (ts := fun a cls d => tRet (tTup (tCons (tC (.str "bad")) (tCons (tXf a cls d C "index" (tVar 1)) (tCons (tAndV (tCB (rIsED K C a cls d) (tCons (tVar 1) (tCons (tC (.ref W)) tNil))) (tCB (rIsED K C a cls d) (tCons (tVar 1) (tCons (tC (.ty "ValueError")) tNil)))) tNil)))))
    (Wout := fun _ _ _ _ => False) rfl rfl sc_law_told.nd rfl rfl ⟨rfl, by decide, Or.inl T.gC⟩ takes0
    (fun W pn xe tk _ => pss_one (ps_ret (by exact (pe_tup (pa_cons pe_str (pa_cons (pe_cmp (pc_isN (pe_callS G hr rfl gm gk gb (fun σ => passAt tk σ) (by exact (pa_cons (pv 0) pa_nil))))) pa_nil))))))
    (fun a oe cls d pn hz hf => pss_one (ps_ret (by exact (pe_tup (pa_cons pe_str (pa_cons (pe_xf T.xf T.noF hz hf (pv 1)) (pa_cons (pe_and (pe_callB (call_isED T.is T.cl hz hf) (by rfl) M.isinstance (by decide +kernel) (pa_cons (pv 1) (pa_cons (pe_glob (by rfl) gW rfl) pa_nil))) (pe_one (pe_callB (call_isED T.is T.cl hz hf) (by rfl) M.isinstance (by decide +kernel) (pa_cons (pv 1) (pa_cons (pe_bltn (by rfl) M.ValueError (by decide +kernel) rfl) pa_nil))))) pa_nil)))))))), ?_⟩
  refine ⟨_, rfl, t, us, ss, rfl, ht, hs, hl, hf, fun hb H' sm => ?_, fun k hb H' d sm hd => ?_⟩
  · refine ⟨(by show 2 ≤ sizeLine; decide), fun q nq => fin _ q (sm.trans (same_new nq _)) ?_⟩
    rw [upd_same, toldV, hb]; rfl
  · refine ⟨true, T.exm, fun _ a0 na0 => ?_, fun z => Bool.noConfusion z⟩
    refine ⟨_, rfl, rfl, rfl, d, _, _, rfl, hd, rfl, ?_⟩
    refine ⟨_, rfl, rfl, d, _, _, _, _, rfl, hd, rfl, (fun u r => r), T.kW, true, rfl, ?_⟩
    refine iteT ⟨_, rfl, rfl, d, _, _, _, _, rfl, hd, rfl, (fun u r => r), T.kV, (by show 3 ≤ sizeLine; decide), fun q nq => fin _ q (sm.trans (same_new nq _)) ?_⟩
    rw [upd_same, toldV, hb]
end
end KD

namespace KG
open PySem PySem.Spec PyProof.Rows L2
/-! long drawings, and which of their steps are well formed -/
theorem nmOk_pre {a b : List Stp} {k : Nat} {m : Bool} {n : Int} (h : k < a.length) : nmOk (a ++ b) k m n = nmOk a k m n := by
  unfold nmOk
  by_cases h0 : 0 ≤ n
  · by_cases h1 : n < k
    · rw [List.getElem?_append_left (by omega)]
    · rw [decide_eq_false h1]; simp
  · rw [decide_eq_false h0]; simp
theorem fits_pre {a b : List Stp} {k : Nat} (h : k < a.length) : fits (a ++ b) k = fits a k := by
  unfold fits
  rw [List.getElem?_append_left h]
  have e : nmOk (a ++ b) k = nmOk a k := by
    funext m n; exact nmOk_pre h
  rw [e]
def lng (n : Nat) : List Stp := ⟨"point", [0, 0]⟩ :: ⟨"point", [1, 0]⟩ :: List.replicate n ⟨"line", [0, 1]⟩
theorem lng_len (n : Nat) : (lng n).length = n + 2 := by simp [lng]
theorem lng_get {n k : Nat} (h : k < n) : (lng n)[k + 2]? = some ⟨"line", [0, 1]⟩ := by
  simp [lng, h]
theorem isPt_point : isPt "point" = true := by decide +kernel
theorem isPt_line : isPt "line" = false := by decide +kernel
theorem lng_fits {n k : Nat} (h : k < n + 2) : fits (lng n) k = true := by
  match k with
  | 0 => rfl
  | 1 => rfl
  | k + 2 =>
    have e : (lng n)[k + 2]? = some ⟨"line", [0, 1]⟩ := lng_get (by omega)
    have n0 : nmOk (lng n) (k + 2) false 0 = true := by
      unfold nmOk
      rw [decide_eq_true (show (0 : Int) ≤ 0 by decide), decide_eq_true (show (0 : Int) < ((k + 2 : Nat) : Int) by omega)]
      show (isPt "point" == !false) = true
      rw [isPt_point]; rfl
    have n1 : nmOk (lng n) (k + 2) false 1 = true := by
      unfold nmOk
      rw [decide_eq_true (show (0 : Int) ≤ 1 by decide), decide_eq_true (show (1 : Int) < ((k + 2 : Nat) : Int) by omega)]
      show (isPt "point" == !false) = true
      rw [isPt_point]; rfl
    unfold fits
    rw [e]
    show (fitW ⟨"line", [0, 1]⟩ && (names ⟨"line", [0, 1]⟩).all (nmOk (lng n) (k + 2) (decide (("line" : Str) = "meet")))) = true
    rw [show decide (("line" : Str) = "meet") = false by decide +kernel, show names ⟨"line", [0, 1]⟩ = [0, 1] by decide +kernel, show fitW ⟨"line", [0, 1]⟩ = true by decide +kernel]
    simp [n0, n1]
theorem lng_take {n k : Nat} (h : k ≤ n) : (lng n).take (k + 2) = lng k := by
  simp [lng, List.take_replicate, Nat.min_eq_left h]
theorem lng_drop {n k : Nat} (h : k ≤ n) : (lng n).drop (k + 2) = List.replicate (n - k) ⟨"line", [0, 1]⟩ := by
  simp [lng]
theorem firstBad_some {ss : List Stp} {k : Nat} (h : ∀ j, j < k → fits ss j = true) (hk : k < ss.length) (hb : fits ss k = false) : firstBad ss = some k := by
  unfold firstBad
  rw [List.find?_range_eq_some]
  exact ⟨by rw [hb]; rfl, List.mem_range.mpr hk, fun j hj => by rw [h j hj]; rfl⟩
theorem firstBad_none {ss : List Stp} (h : ∀ j, j < ss.length → fits ss j = true) : firstBad ss = none := by
  unfold firstBad
  rw [List.find?_range_eq_none]
  exact fun j hj => by rw [h j hj]; rfl
/-- a bad step behind long ones -/
theorem lng_bad {n : Nat} {s : Stp} {r : List Stp} (h : fits (lng n ++ s :: r) (n + 2) = false) : firstBad (lng n ++ s :: r) = some (n + 2) :=
  firstBad_some (fun j hj => by rw [fits_pre (by rw [lng_len]; exact hj)]; exact lng_fits hj) (by rw [List.length_append, lng_len, List.length_cons]; omega) h
theorem at_mid {n : Nat} {s : Stp} {r : List Stp} : (lng n ++ s :: r)[n + 2]? = some s := by
  rw [List.getElem?_append_right (by rw [lng_len]; exact Nat.le_refl _), lng_len, Nat.sub_self]; rfl
theorem fits_mid {n : Nat} {s : Stp} {r : List Stp} : fits (lng n ++ s :: r) (n + 2) = (fitW s && (names s).all (nmOk (lng n ++ s :: r) (n + 2) (decide (s.w = "meet")))) := by
  unfold fits
  rw [at_mid]
/-- the places of the steps that are not well formed -/
def bads (ss : List Stp) (n : Nat) : List Nat := (List.range n).filter fun k => !fits ss k
theorem bads_succ (ss : List Stp) (n : Nat) : bads ss (n + 1) = bads ss n ++ (if fits ss n = true then [] else [n]) := by
  unfold bads
  rw [List.range_succ, List.filter_append]
  congr 1
  by_cases h : fits ss n = true
  · rw [if_pos h]; simp [h]
  · rw [if_neg h]; simp [h]
theorem bads_head (ss : List Stp) : (bads ss ss.length).head? = firstBad ss := List.head?_filter
theorem bads_len (ss : List Stp) (n : Nat) : (bads ss n).length ≤ n := by
  unfold bads
  exact Nat.le_trans (List.length_filter_le _ _) (by rw [List.length_range]; exact Nat.le_refl _)
theorem nm_zero {n : Nat} {r : List Stp} {m : Bool} : nmOk (lng n ++ r) (n + 2) m 0 = !m := by
  unfold nmOk
  rw [decide_eq_true (show (0 : Int) ≤ 0 by decide), decide_eq_true (show (0 : Int) < ((n + 2 : Nat) : Int) by omega)]
  show (isPt "point" == !m) = !m
  rw [isPt_point]
  cases m <;> rfl
theorem nm_one {n : Nat} {r : List Stp} {m : Bool} : nmOk (lng n ++ r) (n + 2) m 1 = !m := by
  unfold nmOk
  rw [decide_eq_true (show (0 : Int) ≤ 1 by decide), decide_eq_true (show (1 : Int) < ((n + 2 : Nat) : Int) by omega)]
  show (isPt "point" == !m) = !m
  rw [isPt_point]
  cases m <;> rfl
theorem nm_two {n : Nat} {r : List Stp} : nmOk (lng n ++ r) (n + 2) false 2 = false := by
  cases n with
  | zero => rfl
  | succ n =>
    unfold nmOk
    have e : (lng (n + 1) ++ r)[(2 : Int).toNat]? = some ⟨"line", [0, 1]⟩ := by
      rw [show (2 : Int).toNat = 0 + 2 from rfl, List.getElem?_append_left (by rw [lng_len]; omega)]
      exact lng_get (by omega)
    rw [e]
    show (decide _ && decide _ && (isPt "line" == !false)) = false
    rw [isPt_line]; simp
theorem nm_far {ss : List Stp} {k : Nat} {m : Bool} {z : Int} (h : z < 0 ∨ (k : Int) ≤ z) : nmOk ss k m z = false := by
  unfold nmOk
  rcases h with h | h
  · rw [decide_eq_false (show ¬ (0 : Int) ≤ z by omega)]; simp
  · rw [decide_eq_false (show ¬ z < (k : Int) by omega)]; simp
theorem nomeet : decide (("line" : Str) = "meet") = false ∧ decide (("circle" : Str) = "meet") = false ∧ decide (("meet" : Str) = "meet") = true := by decide +kernel
theorem nopoint : ("line" : Str) ≠ "point" ∧ ("circle" : Str) ≠ "point" ∧ ("meet" : Str) ≠ "point" ∧ ("line" : Str) ≠ "meet" ∧ ("circle" : Str) ≠ "meet" := by decide +kernel
theorem names_line (ns : List Int) : names ⟨"line", ns⟩ = ns := by unfold names; rw [if_neg nopoint.1, if_neg nopoint.2.2.2.1]
theorem names_circle (ns : List Int) : names ⟨"circle", ns⟩ = ns := by unfold names; rw [if_neg nopoint.2.1, if_neg nopoint.2.2.2.2]
theorem names_meet (ns : List Int) : names ⟨"meet", ns⟩ = ns.take 2 := by unfold names; rw [if_neg nopoint.2.2.1, if_pos rfl]
theorem fitW_circle (ns : List Int) : fitW ⟨"circle", ns⟩ = true := by unfold fitW; rw [if_neg nopoint.2.2.2.2]
/-- the odd steps -/
def odd (z : Int) : List Stp := [⟨"line", [0, z]⟩, ⟨"circle", [0, -z, 1]⟩, ⟨"circle", [2, 1, 0]⟩, ⟨"meet", [2, 2, z]⟩, ⟨"meet", [2, 0, 1]⟩]
theorem odd_bad {n : Nat} {z : Int} {s : Stp} {r : List Stp} (hz : (n : Int) + 2 ≤ z) (h : s ∈ odd z) : fits (lng n ++ s :: r) (n + 2) = false := by
  rw [fits_mid]
  simp only [odd, List.mem_cons, List.not_mem_nil, or_false] at h
  have far : ∀ m, nmOk (lng n ++ s :: r) (n + 2) m z = false := fun m => nm_far (.inr (by omega))
  have low : ∀ m, nmOk (lng n ++ s :: r) (n + 2) m (-z) = false := fun m => nm_far (.inl (by omega))
  rcases h with rfl | rfl | rfl | rfl | rfl
  · rw [names_line]; simp [far]
  · rw [names_circle]; simp [low]
  · rw [names_circle, show decide ((⟨"circle", [2, 1, 0]⟩ : Stp).w = "meet") = false from nomeet.2.1]; simp [nm_two]
  · have : fitW ⟨"meet", [2, 2, z]⟩ = false := by
      unfold fitW
      rw [if_pos rfl, show co (⟨"meet", [2, 2, z]⟩ : Stp).ns 2 = z from rfl, decide_eq_false (show ¬ z ≤ 1 by omega)]; simp
    rw [this]; rfl
  · rw [names_meet, show decide ((⟨"meet", [2, 0, 1]⟩ : Stp).w = "meet") = true from nomeet.2.2]; simp [nm_zero]
theorem odd_form {z : Int} {s : Stp} (h : s ∈ odd z) : SForm s := by
  simp only [odd, List.mem_cons, List.not_mem_nil, or_false] at h
  rcases h with rfl | rfl | rfl | rfl | rfl
  · exact .inr (.inl ⟨rfl, rfl⟩)
  · exact .inr (.inr (.inl ⟨rfl, rfl⟩))
  · exact .inr (.inr (.inl ⟨rfl, rfl⟩))
  · exact .inr (.inr (.inr ⟨rfl, rfl⟩))
  · exact .inr (.inr (.inr ⟨rfl, rfl⟩))
theorem lng_form {n : Nat} : ∀ s ∈ lng n, SForm s := by
  intro s h
  simp only [lng, List.mem_cons, List.mem_replicate] at h
  rcases h with rfl | rfl | ⟨_, rfl⟩
  · exact .inl ⟨rfl, rfl⟩
  · exact .inl ⟨rfl, rfl⟩
  · exact .inr (.inl ⟨rfl, rfl⟩)
theorem lng_last {n : Nat} : firstBad (lng n ++ [⟨"circle", [2, 1, 0]⟩]) = some (n + 2) := lng_bad (odd_bad (z := (n : Int) + 2) (by omega) (by simp [odd]))
theorem lng_good {n : Nat} : firstBad (lng n ++ [⟨"circle", [0, 1, 0]⟩]) = none := by
  refine firstBad_none fun j hj => ?_
  rw [List.length_append, lng_len, List.length_singleton] at hj
  by_cases h : j < n + 2
  · rw [fits_pre (by rw [lng_len]; exact h)]; exact lng_fits h
  · obtain rfl : j = n + 2 := by omega
    rw [fits_mid, names_circle, fitW_circle, show decide ((⟨"circle", [0, 1, 0]⟩ : Stp).w = "meet") = false from nomeet.2.1]
    simp [nm_zero, nm_one]
end KG

namespace KG
open PySem PySem.Spec PyProof.Rows L2
theorem same_but {p : Addr} {H H1 H2 : Hp} (s : Same H H1) (b : But p H1 H2) (n : H p = none) : Same H H2 := fun c o e => b c o (fun z => by rw [z, n] at e; cases e) (s c o e)
theorem seqO {K : PySem.W.Frag} {p a : Addr} {H H1 : Hp} {xs : List V} (h : SqL K H a xs) (n : H p = none) (s : Same H H1) : SqO K H1 p a xs := fun o => Same.seq (same_put s n) h
theorem cut_one (xs : List V) : (cutV xs none (some 1)).length ≤ 1 := by
  unfold cutV
  rw [HT.sIx_none, List.length_take, show HT.sIx xs.length xs.length (some 1) = min 1 xs.length from HT.sIx_nat _ _ 1]
  omega
theorem dp3 {K : PySem.W.Frag} {H : Hp} {q : Addr} {x : Str} {i : Int} {b : Bool} (h : SqT K H q [.str x, .int i, .bl b]) : Dp K H (.ref q) (.tuple [.str x, .int i, .bool b]) := .tup h (.cons (.str x) (.cons (.int i) (.cons (.bl b) .nil)))
theorem dp2 {K : PySem.W.Frag} {H : Hp} {q : Addr} {x : Str} {b : Bool} (h : SqT K H q [.str x, .bl b]) : Dp K H (.ref q) (.tuple [.str x, .bool b]) := .tup h (.cons (.str x) (.cons (.bl b) .nil))
theorem told_none {ss : List Stp} (h : firstBad ss = none) : toldV ss = [.str "none", .bl true] := by unfold toldV; rw [h]
theorem told_some {ss : List Stp} {k : Nat} (h : firstBad ss = some k) : toldV ss = [.str "bad", .int (k : Int), .bl true] := by unfold toldV; rw [h]
theorem lay3 {x : Str} {i : Int} {b : Bool} (h : PyData.strOk x = true) : PyData.canLay0 (.tuple [.str x, .int i, .bool b]) = true := by simp [PyData.canLay0, PyData.canLayAll0, h]
theorem lay2 {x : Str} {b : Bool} (h : PyData.strOk x = true) : PyData.canLay0 (.tuple [.str x, .bool b]) = true := by simp [PyData.canLay0, PyData.canLayAll0, h]
theorem shaped3 {x : Str} {i : Int} {b : Bool} (h : PyData.strOk x = true) : SeqAt.shaped (.tuple [.str x, .int i, .bool b]) = true := by simp [SeqAt.shaped, lay3 h, PyData.depth, PyData.depthAll]
theorem shaped2 {x : Str} {b : Bool} (h : PyData.strOk x = true) : SeqAt.shaped (.tuple [.str x, .bool b]) = true := by simp [SeqAt.shaped, lay2 h, PyData.depth, PyData.depthAll]
theorem ok_bad : PyData.strOk "bad" = true := by decide +kernel
theorem ok_none : PyData.strOk "none" = true := by decide +kernel
theorem cutS_to (xs : List Stp) (n : Nat) (h : n ≤ xs.length) : cutS xs none (some (n : Int)) = xs.take n := by
  unfold cutS
  rw [HT.sIx_none, HT.sIx_nat, Nat.min_eq_left h, List.drop_zero, Nat.sub_zero]
theorem cutS_from (xs : List Stp) (n : Nat) (h : n ≤ xs.length) : cutS xs (some (n : Int)) none = xs.drop n := by
  unfold cutS
  rw [HT.sIx_none, HT.sIx_nat, Nat.min_eq_left h]
  exact List.take_of_length_le (by rw [List.length_drop]; omega)
theorem small2000 {n : Nat} (h : n ≤ 2010) : n < sizeLine := by rw [sizeLine_eq]; omega
theorem rep_one (n : Nat) (x : V) : (List.replicate n [x]).flatten = List.replicate n x := by
  induction n with
  | zero => rfl
  | succ n ih => rw [List.replicate_succ, List.flatten_cons, ih]; rfl
end KG
namespace KD
open PySem PySem.Spec PyProof.Rows L2 KG
abbrev slaw : Stmt := topS 16
abbrev Nlaw : List Str := ["script", "state", "steps", "n", "many", "long", "at", "odd", "bad", "told"]
theorem sclaw : FnScope Nlaw ["script"] (defScope slaw) := ⟨rfl, rfl, rfl, by decide +kernel, rfl, by decide +kernel, by decide +kernel⟩
theorem st_law (x : V) : L2.start Nlaw [x] = [some x, none, none, none, none, none, none, none, none, none] := rfl
section
variable {P : Program} {w : World} {K : PySem.W.Frag} {mg : Str → Option Value} {base : Heap}
def splaw (K : PySem.W.Frag) : Sp := fun vs H Q _ => ∃ (a : Addr) (ns : List Int), vs = [.ref a] ∧ SqL K H a (ns.map V.int) ∧ ns.length ≤ 63 ∧ ∀ H', Q (.bl true) H'
set_option maxHeartbeats 8000000 in
theorem oklaw {f : Addr} {fd : FuncData} {k : Nat} (F : Fun K "law" "law" slaw f fd) (M : Names mg) (G_law_state : Cal P w K mg base k "_law_state" ["script"] (sp_law_state K)) (G_law_take : Cal P w K mg base k "_law_take" ["state", "many"] (sp_law_take K))
    (G_law_drawn_step : Cal P w K mg base k "_law_drawn_step" ["state", "steps", "most"] (sp_law_drawn_step K)) (G_law_fits : Cal P w K mg base k "_law_fits" ["steps", "at"] (sp_law_fits K)) (G_law_changed : Cal P w K mg base k "_law_changed" ["state", "steps"] (sp_law_changed K))
    (G_law_told : Cal P w K mg base k "_law_told" ["drawing"] sp_law_told) : FnOk P w K mg base CX0 (k + 1) f fd ["script"] (splaw K) := by
  refine F.ok sclaw (fun vs H Q E h => ?_) (fun cdv A outer s H vs Q E hr h => ?_)
  · obtain ⟨a, ns, rfl, _⟩ := h
    rfl
  obtain ⟨a, ns, rfl, hS, h63, fin⟩ := h
  refine ⟨_, (pss_cons (ps_set (i := 1) sclaw.nd rfl (.inl rfl) (pe_call G_law_state.ok hr (by rfl) G_law_state.m G_law_state.kp G_law_state.b .nil pass0 (pa_cons (pv 0) pa_nil)))
    (pss_cons (ps_set (i := 2) sclaw.nd rfl (.inr rfl) (pe_lst pa_nil))
    (pss_cons (ps_for PassesOwn.never rfl (pi_range1 (by rfl) M.range (pa_cons (pe_op op_add (pe_call G_law_take.ok hr (by rfl) G_law_take.m G_law_take.kp G_law_take.b .nil pass0 (pa_cons (pv 1) (pa_cons pe_int pa_nil))) (pe_callB call_len_seq (by rfl) M.len PySem.boot_len (pa_cons (pe_slice sl_list (pv 0) po_none (po_some pe_int)) pa_nil))) pa_nil)) (pg_name (i := 3) sclaw.nd rfl (.inl rfl))
      (pss_one (ps_expr (pe_bm PySem.F.plainAttrs_list PySem.F.slot_list_append PySem.F.type_list_append mt_append (pv 2) (pa_cons (pe_call G_law_drawn_step.ok hr (by rfl) G_law_drawn_step.m G_law_drawn_step.kp G_law_drawn_step.b .nil pass0 (pa_cons (pv 1) (pa_cons (pv 2) (pa_cons pe_int pa_nil)))) pa_nil)))))
    (pss_cons (ps_for PassesOwn.never rfl (pi_range1 (by rfl) M.range (pa_cons (pe_call G_law_take.ok hr (by rfl) G_law_take.m G_law_take.kp G_law_take.b .nil pass0 (pa_cons (pv 1) (pa_cons pe_int pa_nil))) pa_nil)) (pg_name (i := 3) sclaw.nd rfl (.inl rfl))
      (pss_one (ps_if (pt_truth (pv 2) (by intro _; rfl))
        (pss_one (ps_set (i := 2) sclaw.nd rfl (.inr rfl) (pe_call G_law_changed.ok hr (by rfl) G_law_changed.m G_law_changed.kp G_law_changed.b .nil pass0 (pa_cons (pv 1) (pa_cons (pv 2) pa_nil)))))
        pss_nil)))
    (pss_cons (ps_set (i := 4) sclaw.nd rfl (.inl rfl) (pe_op op_add pe_int (pe_call G_law_take.ok hr (by rfl) G_law_take.m G_law_take.kp G_law_take.b .nil pass0 (pa_cons (pv 1) (pa_cons pe_int pa_nil)))))
    (pss_cons (ps_set (i := 5) sclaw.nd rfl (.inl rfl) (pe_op op_cat (pe_lst (pa_cons (pe_tup (pa_cons pe_str (pa_cons pe_int (pa_cons pe_int pa_nil)))) (pa_cons (pe_tup (pa_cons pe_str (pa_cons pe_int (pa_cons pe_int pa_nil)))) pa_nil))) (pe_op op_rep (pe_lst (pa_cons (pe_tup (pa_cons pe_str (pa_cons pe_int (pa_cons pe_int pa_nil)))) pa_nil)) (pe_op op_sub (pv 4) pe_int))))
    (pss_cons (ps_if (pt_cmpR (op_neD hr.units) (pe_call G_law_told.ok hr (by rfl) G_law_told.m G_law_told.kp G_law_told.b .nil pass0 (pa_cons (pe_callTy call_tuple_of (by rfl) M.tuple (by decide +kernel) (pa_cons (pe_op op_cat (pv 5) (pe_lst (pa_cons (pe_tup (pa_cons pe_str (pa_cons pe_int (pa_cons pe_int (pa_cons pe_int pa_nil))))) pa_nil))) pa_nil)) pa_nil)) (pe_tup (pa_cons pe_str (pa_cons (pe_op op_sub (pv 4) pe_int) (pa_cons pe_bl pa_nil)))) (nomark _))
      (pss_one (ps_ret pe_bl))
      pss_nil)
    (pss_cons (ps_if (pt_cmpR (op_neD hr.units) (pe_call G_law_told.ok hr (by rfl) G_law_told.m G_law_told.kp G_law_told.b .nil pass0 (pa_cons (pe_callTy call_tuple_of (by rfl) M.tuple (by decide +kernel) (pa_cons (pe_op op_cat (pv 5) (pe_lst (pa_cons (pe_tup (pa_cons pe_str (pa_cons pe_int (pa_cons pe_int (pa_cons pe_int pa_nil))))) pa_nil))) pa_nil)) pa_nil)) (pe_tup (pa_cons pe_str (pa_cons pe_bl pa_nil))) (nomark _))
      (pss_one (ps_ret pe_bl))
      pss_nil)
    (pss_cons (ps_set (i := 6) sclaw.nd rfl (.inl rfl) (pe_op op_add pe_int (pe_call G_law_take.ok hr (by rfl) G_law_take.m G_law_take.kp G_law_take.b .nil pass0 (pa_cons (pv 1) (pa_cons pe_int pa_nil)))))
    (pss_cons (ps_set (i := 7) sclaw.nd rfl (.inl rfl) (pe_lst (pa_cons (pe_tup (pa_cons pe_str (pa_cons pe_int (pa_cons (pe_op op_pow pe_int pe_int) pa_nil)))) (pa_cons (pe_tup (pa_cons pe_str (pa_cons pe_int (pa_cons (pe_un un_neg (pe_op op_pow pe_int pe_int)) (pa_cons pe_int pa_nil))))) (pa_cons (pe_tup (pa_cons pe_str (pa_cons pe_int (pa_cons pe_int (pa_cons pe_int pa_nil))))) (pa_cons (pe_tup (pa_cons pe_str (pa_cons pe_int (pa_cons pe_int (pa_cons (pe_op op_pow pe_int pe_int) pa_nil))))) (pa_cons (pe_tup (pa_cons pe_str (pa_cons pe_int (pa_cons pe_int (pa_cons pe_int pa_nil))))) pa_nil)))))))
    (pss_cons (ps_if (pt_cmpR (op_neD hr.units) (pe_call G_law_told.ok hr (by rfl) G_law_told.m G_law_told.kp G_law_told.b .nil pass0 (pa_cons (pe_callTy call_tuple_of (by rfl) M.tuple (by decide +kernel) (pa_cons (pe_op op_cat (pe_op op_cat (pe_slice sl_list (pv 5) po_none (po_some (pv 6))) (pe_lst (pa_cons (pe_ix ix_list (pv 7) (pe_call G_law_take.ok hr (by rfl) G_law_take.m G_law_take.kp G_law_take.b .nil pass0 (pa_cons (pv 1) (pa_cons pe_int pa_nil))) (fun _ _ => rfl)) pa_nil))) (pe_slice sl_list (pv 5) (po_some (pv 6)) po_none)) pa_nil)) pa_nil)) (pe_tup (pa_cons pe_str (pa_cons (pv 6) (pa_cons pe_bl pa_nil)))) (nomark _))
      (pss_one (ps_ret pe_bl))
      pss_nil)
    (pss_cons (ps_setLc (i := 8) (own := [("at", 6)]) (g := gName 6) (by rfl) sclaw.nd rfl rfl (sw_true rfl rfl rfl (by decide +kernel)) (pi_range1 (by rfl) M.range (pa_cons (pe_callB call_len_seq (by rfl) M.len PySem.boot_len (pa_cons (pv 2) pa_nil)) pa_nil)) (blkOk_by (own := [("at", 6)]) (N := Nlaw) (sc := defScope slaw) (by decide +kernel)) (fun _ _ _ _ _ => pg_name (i := 6) sclaw.nd rfl (Or.inl rfl)) (fun _ _ _ _ _ => (pts_one (pt_not (pt_val (pe_call G_law_fits.ok hr (by rfl) G_law_fits.m G_law_fits.kp G_law_fits.b .nil pass0 (pa_cons (pv 2) (pa_cons (pv 6) pa_nil))))))) (fun _ _ _ _ _ => (pv 6)))
    (pss_cons (ps_set (i := 9) sclaw.nd rfl (.inl rfl) (pe_call G_law_told.ok hr (by rfl) G_law_told.m G_law_told.kp G_law_told.b .nil pass0 (pa_cons (pe_callTy call_tuple_of (by rfl) M.tuple (by decide +kernel) (pa_cons (pv 2) pa_nil)) pa_nil)))
    (pss_cons (ps_if (pt_truth (pv 8) (by intro _; rfl))
      (pss_one (ps_ret (pe_and (pe_cmpR op_eq (pe_ix ix_tup (pv 9) pe_int (fun _ _ => rfl)) pe_str (nomark _)) (pe_and (pe_not (pe_callB call_isi (by rfl) M.isinstance (by decide +kernel) (pa_cons (pe_ix ix_tup (pv 9) pe_int (fun _ _ => rfl)) (pa_cons (pe_bltn (v := .ty "bool") (by rfl) M.bool (by decide +kernel) rfl) pa_nil)))) (pe_one (pe_cmpR (op_eqD hr.units) (pv 9) (pe_tup (pa_cons pe_str (pa_cons (pe_ix ix_list (pv 8) pe_int (fun _ _ => rfl)) (pa_cons pe_bl pa_nil)))) (nomark _)))))))
      pss_nil)
    (pss_one (ps_ret (pe_cmpR (op_eqD hr.units) (pv 9) (pe_tup (pa_cons pe_str (pa_cons pe_bl pa_nil))) (nomark _)))))))))))))))))), ?_⟩
  have lg2 : ∀ n : Int, n.natAbs < 2 ^ 10 → n.natAbs.log2 < 9000 := fun n h => log_small (n := 10) h (by decide) (by decide)
  have smL : ∀ n : Nat, n ≤ 1000 → n ≤ sizeLine := fun n h => Nat.le_of_lt (small1000 h)
  refine ⟨_, rfl, a, ns, rfl, hS, h63, fun H1 p s1 hp X1 _ => ?_⟩
  refine ⟨Nat.zero_le _, fun ls nls => ?_⟩
  have S2 := same_new nls (.lst [])
  have X2 := X1.same S2
  have s2 := s1.trans S2
  have lsp : ls ≠ p := X1.ne nls
  have lsH : H ls = none := s1.free nls
  refine ⟨_, rfl, p, a, ns, _, rfl, X2, seqO hS hp s2, by decide, lg2 _ (by decide), fun d1 H3 d10 d11 X3 b3 => ?_⟩
  have s3 := same_but s2 b3 hp
  have l1 := cut_one (ns.map V.int)
  refine ⟨_, rfl, _, rfl, a, _, rfl, s3.seq hS, fun sl nsl => ⟨sl, _, rfl, .inl (SqL.of upd_same), _, _, rfl, rfl, ?_⟩⟩
  have S4 := same_new nsl (.lst (cutV (ns.map V.int) none (some 1)))
  refine ⟨_, rfl, by omega, by omega, for_range (lo := 0) (fun k σ H' => ∃ (us : List V) (ss : List Stp) (y3 : Option V), σ = [some (.ref a), some (.ref p), some (.ref ls), y3, none, none, none, none, none, none] ∧ StX H' p a ns ∧ Same H H' ∧ H' ls = some (.lst us) ∧ SAt H' us ss ∧ ss.length = k ∧ ∀ s ∈ ss, SForm s)
    ⟨[], [], none, rfl, X3.same S4, s3.trans S4, S4 _ _ (b3 _ _ lsp upd_same), .nil, rfl, fun s h => by cases h⟩ (fun k σ H' hk hP => ?_) (fun σ H' hP => ?_)⟩
  · obtain ⟨us, ss, y3, rfl, X, sm, hls, hss, hlen, hform⟩ := hP
    have lus := hss.len
    have kb : k ≤ 30 := by omega
    refine ⟨_, rfl, .inl ⟨rfl, _, .inl (.inl hls)⟩, _, rfl, _, rfl, p, a, ls, ns, us, ss, 9, rfl, X, seqO hS hp sm, hls, hss, by omega, by decide, by decide +kernel, fun H5 t s X5 b5 et nw => ?_⟩
    have hls5 := b5 _ _ lsp hls
    refine ⟨ls, _, _, rfl, rfl, hls5, small1000 (by omega), us ++ [.ref t], ss ++ [s], _, rfl, X5.but (upd_ne (Ne.symm lsp)), same_put (same_but sm b5 hp) lsH, upd_same, ((hss.but X b5).append (.cons et .nil)).put hls5, by rw [List.length_append, List.length_singleton, hlen], fun z hz => ?_⟩
    rcases List.mem_append.mp hz with hz | hz
    · exact hform z hz
    · rw [List.mem_singleton.mp hz]; exact nw.form
  obtain ⟨us0, ss0, y30, rfl, X6, s6, hls6, hss6, hlen6, hform6⟩ := hP
  refine ⟨_, rfl, p, a, ns, _, rfl, X6, seqO hS hp s6, by decide, lg2 _ (by decide), fun d2 H7 d20 d21 X7 b7 => ?_⟩
  refine ⟨_, rfl, by omega, by omega, for_range (lo := 0) (fun k σ H' => ∃ (ls : Addr) (us : List V) (ss : List Stp) (y3 : Option V), σ = [some (.ref a), some (.ref p), some (.ref ls), y3, none, none, none, none, none, none] ∧ StX H' p a ns ∧ Same H H' ∧ ls ≠ p ∧ H' ls = some (.lst us) ∧ SAt H' us ss ∧ (k = 0 → ss.length ≤ 30) ∧ (k = 1 → ss.length ≤ 121) ∧ ss.length ≤ 485 ∧ ∀ s ∈ ss, SForm s)
    ⟨ls, us0, ss0, _, rfl, X7, same_but s6 b7 hp, lsp, b7 _ _ lsp hls6, hss6.but X6 b7, fun _ => by omega, fun z => by omega, by omega, hform6⟩ (fun k σ H' hk hP => ?_) (fun σ H' hP => ?_)⟩
  · obtain ⟨l3, us, ss, y3, rfl, X, sm, lp, hls, hss, i0, i1, i2, hform⟩ := hP
    have lus := hss.len
    have kb : k < 2 := by omega
    have l121 : ss.length ≤ 121 := by
      rcases Nat.lt_or_ge k 1 with h | h
      · exact Nat.le_trans (i0 (by omega)) (by decide)
      · exact i1 (by omega)
    refine ⟨_, rfl, _, .inl ⟨us, SqL.of hls, rfl⟩, ite2 (fun c => ?_) (fun c => ?_)⟩
    · have hne : ss ≠ [] := fun z => by
        rw [z] at lus
        rw [List.length_eq_zero_iff.mp lus] at c
        cases c
      refine ⟨_, rfl, _, rfl, p, a, l3, ns, us, ss, rfl, X, seqO hS hp sm, lp, hls, hss, hne, by omega, hform, fun H5 l5 us5 ss5 X5 b5 lp5 hl5 hs5 hn5 hf5 => ?_⟩
      exact ⟨l5, us5, ss5, _, rfl, X5, same_but sm b5 hp, lp5, hl5, hs5, fun z => by omega, fun z => by have := i0 (by omega); omega, by omega, hf5⟩
    · have hz : ss.length = 0 := by
        cases us with
        | nil => exact lus.symm
        | cons _ _ => exact absurd rfl c
      exact ⟨l3, us, ss, _, rfl, X, sm, lp, hls, hss, fun z => by omega, fun z => by omega, by omega, hform⟩
  obtain ⟨lt, us, ss, y3, rfl, X8, s8, ltp, hlt, hss, _, _, l485, hform⟩ := hP
  have lus := hss.len
  refine ⟨_, rfl, p, a, ns, _, rfl, X8, seqO hS hp s8, by decide, lg2 _ (by decide), fun d3 H9 d30 d31 X9 b9 => ⟨_, _, rfl, rfl, ?_⟩⟩
  have s9 := same_but s8 b9 hp
  have hlt9 := b9 _ _ ltp hlt
  have hss9 := hss.but X8 b9
  obtain ⟨m, em⟩ : ∃ m : Nat, (900 + d3 - 3) = (m : Int) := ⟨(900 + d3 - 3).toNat, by omega⟩
  have m1000 : m ≤ 997 := by omega
  have m897 : 897 ≤ m := by omega
  have eb : 900 + d3 - 1 = ((m + 2 : Nat) : Int) := by omega
  -- long
  refine ⟨(by show 3 ≤ sizeLine; decide), fun t1 n1 => ⟨(by show 3 ≤ sizeLine; decide), fun t2 n2 => ⟨(by show 2 ≤ sizeLine; decide), fun q1 m1 => ?_⟩⟩⟩
  have T1 := same_new n1 (.tup [V.str "point", .int 0, .int 0])
  have T2 := same_new n2 (.tup [V.str "point", .int 1, .int 0])
  have T3 := same_new m1 (.lst [V.ref t1, .ref t2])
  refine ⟨(by show 3 ≤ sizeLine; decide), fun t3 n3 => ⟨(by show 1 ≤ sizeLine; decide), fun q2 m2 => ?_⟩⟩
  have T4 := same_new n3 (.tup [V.str "line", .int 0, .int 1])
  have T5 := same_new m2 (.lst [V.ref t3])
  refine ⟨_, rfl, _, _, rfl, rfl, q2, _, _, rfl, rfl, upd_same, by show -(2 ^ 63) ≤ 900 + d3 - 3; omega, by show 900 + d3 - 3 < 2 ^ 63; omega, smL _ (by show [V.ref t3].length * (900 + d3 - 3).toNat ≤ 1000; rw [em, List.length_singleton]; omega), fun q3 m3 => ?_⟩
  have er : (List.replicate (900 + d3 - 3).toNat [V.ref t3]).flatten = List.replicate m (V.ref t3) := by rw [em, Int.toNat_natCast, rep_one]
  have T6 := same_new m3 (.lst (List.replicate (900 + d3 - 3).toNat [V.ref t3]).flatten)
  refine ⟨q1, q3, _, _, rfl, rfl, (T4.trans (T5.trans T6)) _ _ upd_same, upd_same, smL _ (by show [V.ref t1, V.ref t2].length + (List.replicate (900 + d3 - 3).toNat [V.ref t3]).flatten.length ≤ 1000; rw [er, List.length_replicate]; show 2 + m ≤ 1000; omega), fun lg nl => ?_⟩
  have T7 := same_new nl (.lst ([V.ref t1, .ref t2] ++ (List.replicate (900 + d3 - 3).toNat [V.ref t3]).flatten))
  have T17 := T1.trans (T2.trans (T3.trans (T4.trans (T5.trans (T6.trans T7)))))
  have lgp : lg ≠ p := (X9.same (T1.trans (T2.trans (T3.trans (T4.trans (T5.trans T6)))))).ne nl
  have hV : ([V.ref t1, .ref t2] ++ (List.replicate (900 + d3 - 3).toNat [V.ref t3]).flatten) = V.ref t1 :: V.ref t2 :: List.replicate m (V.ref t3) := by rw [er]; rfl
  have e1 := (T2.trans (T3.trans (T4.trans (T5.trans (T6.trans T7))))) _ _ (show (upd H9 t1 (.tup [V.str "point", .int 0, .int 0])) t1 = some (.tup (stV ⟨"point", [0, 0]⟩)) from upd_same)
  have e2 := (T3.trans (T4.trans (T5.trans (T6.trans T7)))) _ _ (show (upd (upd H9 t1 (.tup [V.str "point", .int 0, .int 0])) t2 (.tup [V.str "point", .int 1, .int 0])) t2 = some (.tup (stV ⟨"point", [1, 0]⟩)) from upd_same)
  have e3 := (T5.trans (T6.trans T7)) _ _ (show (upd (upd (upd (upd H9 t1 (.tup [V.str "point", .int 0, .int 0])) t2 (.tup [V.str "point", .int 1, .int 0])) q1 (.lst [V.ref t1, .ref t2])) t3 (.tup [V.str "line", .int 0, .int 1])) t3 = some (.tup (stV ⟨"line", [0, 1]⟩)) from upd_same)
  have hlg : ∀ {Hx : Hp} {o : HO}, Same (upd Hx lg o) (upd Hx lg o) := fun {Hx o} b u h => h
  have aL : SAt _ (V.ref t1 :: V.ref t2 :: List.replicate m (V.ref t3)) (lng m) := .cons e1 (.cons e2 (SAt.rep e3 m))
  have vl : (V.ref t1 :: V.ref t2 :: List.replicate m (V.ref t3)).length = m + 2 := by simp
  rw [hV] at T17 aL e1 e2 e3
  rw [hV]
  -- what a comparison of two told tuples needs
  have eqv3 : ∀ (i : Int) (b : Bool), PyData.eqv (.tuple [.str "bad", .int i, .bool b]) (.tuple [.str "bad", .int i, .bool b]) = true := fun i b => SeqAt.eqv_refl _ (lay3 ok_bad)
  have eqv2 : ∀ (b : Bool), PyData.eqv (.tuple [.str "none", .bool b]) (.tuple [.str "none", .bool b]) = true := fun b => SeqAt.eqv_refl _ (lay2 ok_none)
  -- the last step bad
  refine ⟨_, rfl, (by show 4 ≤ sizeLine; decide), fun t4 n4 => ⟨(by show 1 ≤ sizeLine; decide), fun q4 m4 => ?_⟩⟩
  have U1 := same_new n4 (.tup [V.str "circle", .int 2, .int 1, .int 0])
  have U2 := same_new m4 (.lst [V.ref t4])
  refine ⟨lg, q4, _, _, rfl, rfl, (U1.trans U2) _ _ upd_same, upd_same, smL _ (by rw [vl, List.length_singleton]; omega), fun q5 m5 => ?_⟩
  have U3 := same_new m5 (.lst ((V.ref t1 :: V.ref t2 :: List.replicate m (V.ref t3)) ++ [V.ref t4]))
  refine ⟨q5, _, rfl, .inl ⟨SqL.of upd_same, fun tq mq => ?_⟩⟩
  have U4 := same_new mq (.tup ((V.ref t1 :: V.ref t2 :: List.replicate m (V.ref t3)) ++ [V.ref t4]))
  have ec := (U2.trans (U3.trans U4)) _ _ (show (upd _ t4 (.tup [V.str "circle", .int 2, .int 1, .int 0])) t4 = some (.tup (stV ⟨"circle", [2, 1, 0]⟩)) from upd_same)
  have U14 := U1.trans (U2.trans (U3.trans U4))
  refine ⟨tq, _, lng m ++ [⟨"circle", [2, 1, 0]⟩], rfl, upd_same, (aL.same U14).append (.cons ec .nil), by rw [List.length_append, lng_len, List.length_singleton]; omega, fun s hs => ?_, fun Ha r sa hr => ?_⟩
  · rcases List.mem_append.mp hs with h | h
    · exact lng_form s h
    · rw [List.mem_singleton.mp h]; exact .inr (.inr (.inl ⟨rfl, rfl⟩))
  rw [told_some lng_last] at hr
  have sA := (T17.trans U14).trans sa
  have aA := (aL.same U14).same sa
  have hgA := (U14.trans sa) _ _ (show (upd _ lg (.lst (V.ref t1 :: V.ref t2 :: List.replicate m (V.ref t3)))) lg = some _ from upd_same)
  refine ⟨_, rfl, _, _, rfl, rfl, (by show 3 ≤ sizeLine; decide), fun r2 nr2 => ?_⟩
  have V1 := same_new nr2 (.tup [V.str "bad", .int (900 + d3 - 1), .bl true])
  refine ⟨_, _, dp3 (SqT.of (V1 _ _ hr)), dp3 (SqT.of (show _ = some (HO.tup [V.str "bad", .int ((m + 2 : Nat) : Int), .bl true]) by rw [upd_same, ← eb])), shaped3 ok_bad, shaped3 ok_bad, _, rfl, ite2 (fun c => ?_) (fun _ => ?_)⟩
  · rw [eqv3] at c; cases c
  -- the last step good
  have sA1 := sA.trans V1
  have aA1 := aA.same V1
  have hgA1 := V1 _ _ hgA
  refine ⟨_, rfl, (by show 4 ≤ sizeLine; decide), fun t5 n5 => ⟨(by show 1 ≤ sizeLine; decide), fun q6 m6 => ?_⟩⟩
  have Y1 := same_new n5 (.tup [V.str "circle", .int 0, .int 1, .int 0])
  have Y2 := same_new m6 (.lst [V.ref t5])
  refine ⟨lg, q6, _, _, rfl, rfl, (Y1.trans Y2) _ _ hgA1, upd_same, smL _ (by rw [vl, List.length_singleton]; omega), fun q7 m7 => ?_⟩
  have Y3 := same_new m7 (.lst ((V.ref t1 :: V.ref t2 :: List.replicate m (V.ref t3)) ++ [V.ref t5]))
  refine ⟨q7, _, rfl, .inl ⟨SqL.of upd_same, fun tr mr => ?_⟩⟩
  have Y4 := same_new mr (.tup ((V.ref t1 :: V.ref t2 :: List.replicate m (V.ref t3)) ++ [V.ref t5]))
  have ed := (Y2.trans (Y3.trans Y4)) _ _ (show (upd _ t5 (.tup [V.str "circle", .int 0, .int 1, .int 0])) t5 = some (.tup (stV ⟨"circle", [0, 1, 0]⟩)) from upd_same)
  have Y14 := Y1.trans (Y2.trans (Y3.trans Y4))
  refine ⟨tr, _, lng m ++ [⟨"circle", [0, 1, 0]⟩], rfl, upd_same, (aA1.same Y14).append (.cons ed .nil), by rw [List.length_append, lng_len, List.length_singleton]; omega, fun s hs => ?_, fun Hb r3 sb hr3 => ?_⟩
  · rcases List.mem_append.mp hs with h | h
    · exact lng_form s h
    · rw [List.mem_singleton.mp h]; exact .inr (.inr (.inl ⟨rfl, rfl⟩))
  rw [told_none lng_good] at hr3
  have sB := (sA1.trans Y14).trans sb
  have aB := (aA1.same Y14).same sb
  have hgB := (Y14.trans sb) _ _ hgA1
  refine ⟨(by show 2 ≤ sizeLine; decide), fun r4 nr4 => ?_⟩
  have V2 := same_new nr4 (.tup [V.str "none", .bl true])
  refine ⟨_, _, dp2 (SqT.of (V2 _ _ hr3)), dp2 (SqT.of upd_same), shaped2 ok_none, shaped2 ok_none, _, rfl, ite2 (fun c => ?_) (fun _ => ?_)⟩
  · rw [eqv2] at c; cases c
  have sB1 := sB.trans V2
  have aB1 := aB.same V2
  have hgB1 := V2 _ _ hgB
  have XB := X9.same sB1
  have s10 := s9.trans sB1
  -- at
  refine ⟨_, rfl, p, a, ns, _, rfl, XB, seqO hS hp s10, by decide, lg2 _ (by decide), fun d4 H12 d40 d41 X12 b12 => ⟨_, _, rfl, rfl, ?_⟩⟩
  obtain ⟨j, ej⟩ : ∃ j : Nat, (3 + d4) = ((j + 2 : Nat) : Int) := ⟨(1 + d4).toNat, by omega⟩
  have hj : j ≤ m := by omega
  -- odd
  have zv : (10 : Int) ^ (18 : Int).toNat = 1000000000000000000 := by decide
  refine ⟨_, _, rfl, rfl, ⟨by decide, by decide, by decide⟩, (by show 3 ≤ sizeLine; decide), fun o1 k1 => ?_⟩
  have W1 := same_new k1 (.tup [V.str "line", .int 0, .int (10 ^ (18 : Int).toNat)])
  refine ⟨_, _, rfl, rfl, ⟨by decide, by decide, by decide⟩, _, rfl, (by show 4 ≤ sizeLine; decide), fun o2 k2 => ?_⟩
  have W2 := same_new k2 (.tup [V.str "circle", .int 0, .int (-(10 ^ (18 : Int).toNat)), .int 1])
  refine ⟨(by show 4 ≤ sizeLine; decide), fun o3 k3 => ?_⟩
  have W3 := same_new k3 (.tup [V.str "circle", .int 2, .int 1, .int 0])
  refine ⟨_, _, rfl, rfl, ⟨by decide, by decide, by decide⟩, (by show 4 ≤ sizeLine; decide), fun o4 k4 => ?_⟩
  have W4 := same_new k4 (.tup [V.str "meet", .int 2, .int 2, .int (10 ^ (18 : Int).toNat)])
  refine ⟨(by show 4 ≤ sizeLine; decide), fun o5 k5 => ⟨(by show 5 ≤ sizeLine; decide), fun lo nlo => ?_⟩⟩
  have W5 := same_new k5 (.tup [V.str "meet", .int 2, .int 0, .int 1])
  have W6 := same_new nlo (.lst [V.ref o1, .ref o2, .ref o3, .ref o4, .ref o5])
  have f1 := (W2.trans (W3.trans (W4.trans (W5.trans W6)))) _ _ (show (upd _ o1 (.tup [V.str "line", .int 0, .int (10 ^ (18 : Int).toNat)])) o1 = some (.tup (stV ⟨"line", [0, 10 ^ (18 : Int).toNat]⟩)) from upd_same)
  have f2 := (W3.trans (W4.trans (W5.trans W6))) _ _ (show (upd _ o2 (.tup [V.str "circle", .int 0, .int (-(10 ^ (18 : Int).toNat)), .int 1])) o2 = some (.tup (stV ⟨"circle", [0, -(10 ^ (18 : Int).toNat), 1]⟩)) from upd_same)
  have f3 := (W4.trans (W5.trans W6)) _ _ (show (upd _ o3 (.tup [V.str "circle", .int 2, .int 1, .int 0])) o3 = some (.tup (stV ⟨"circle", [2, 1, 0]⟩)) from upd_same)
  have f4 := (W5.trans W6) _ _ (show (upd _ o4 (.tup [V.str "meet", .int 2, .int 2, .int (10 ^ (18 : Int).toNat)])) o4 = some (.tup (stV ⟨"meet", [2, 2, 10 ^ (18 : Int).toNat]⟩)) from upd_same)
  have f5 := W6 _ _ (show (upd _ o5 (.tup [V.str "meet", .int 2, .int 0, .int 1])) o5 = some (.tup (stV ⟨"meet", [2, 0, 1]⟩)) from upd_same)
  have W16 := W1.trans (W2.trans (W3.trans (W4.trans (W5.trans W6))))
  have aO : SAt _ [V.ref o1, .ref o2, .ref o3, .ref o4, .ref o5] (odd (10 ^ (18 : Int).toNat)) := .cons f1 (.cons f2 (.cons f3 (.cons f4 (.cons f5 .nil))))
  have lop : lo ≠ p := (X12.same (W1.trans (W2.trans (W3.trans (W4.trans W5))))).ne nlo
  -- long[:at] + [odd[..]] + long[at:]
  have hgC := W16 _ _ (b12 _ _ lgp hgB1)
  refine ⟨_, rfl, _, rfl, _, rfl, lg, _, rfl, SqL.of hgC, fun q8 m8 => ?_⟩
  have W7 := same_new m8 (.lst (cutV (V.ref t1 :: V.ref t2 :: List.replicate m (V.ref t3)) none (some (3 + d4))))
  have q8p : q8 ≠ p := (X12.same W16).ne m8
  have s11 := same_but s10 b12 hp
  refine ⟨_, rfl, _, rfl, p, a, ns, _, rfl, X12.same (W16.trans W7), seqO hS hp (s11.trans (W16.trans W7)), by decide, lg2 _ (by decide), fun d5 H13 d50 d51 X13 b13 => ?_⟩
  have hd5 : d5.toNat < (odd (10 ^ (18 : Int).toNat)).length := by show d5.toNat < 5; omega
  have gs : (odd (10 ^ (18 : Int).toNat))[d5.toNat]? = some (odd (10 ^ (18 : Int).toNat))[d5.toNat] := List.getElem?_eq_getElem hd5
  have ms : (odd (10 ^ (18 : Int).toNat))[d5.toNat] ∈ odd (10 ^ (18 : Int).toNat) := List.getElem_mem hd5
  generalize (odd (10 ^ (18 : Int).toNat))[d5.toNat] = so at gs ms
  obtain ⟨to, hto, eto⟩ := (((aO.same W7).but (X12.same (W16.trans W7)) b13)).get gs
  have hio : atI [V.ref o1, .ref o2, .ref o3, .ref o4, .ref o5] d5 = some (.ref to) := by
    have e : d5 = ((d5.toNat : Nat) : Int) := by omega
    rw [e]; exact atI_nat hto
  have hlo13 := b13 _ _ lop (W7 _ _ (show (upd _ lo (.lst [V.ref o1, .ref o2, .ref o3, .ref o4, .ref o5])) lo = some _ from upd_same))
  have hg13 := b13 _ _ lgp (W7 _ _ hgC)
  have hq813 := b13 _ _ q8p (show (upd _ q8 (.lst (cutV (V.ref t1 :: V.ref t2 :: List.replicate m (V.ref t3)) none (some (3 + d4))))) q8 = some _ from upd_same)
  have a13 := ((aB1.but XB b12).same (W16.trans W7)).but (X12.same (W16.trans W7)) b13
  have s13 := same_but (s11.trans (W16.trans W7)) b13 hp
  have hlt13 := b13 _ _ ltp ((W16.trans W7) _ _ (b12 _ _ ltp (sB1 _ _ hlt9)))
  have hss13 := (((hss9.same sB1).but XB b12).same (W16.trans W7)).but (X12.same (W16.trans W7)) b13
  have lcA := cutV_length (V.ref t1 :: V.ref t2 :: List.replicate m (V.ref t3)) none (some (3 + d4))
  have lcB := cutV_length (V.ref t1 :: V.ref t2 :: List.replicate m (V.ref t3)) (some (3 + d4)) none
  have eS : cutS (lng m) none (some (3 + d4)) ++ [so] ++ cutS (lng m) (some (3 + d4)) none = lng j ++ so :: List.replicate (m - j) ⟨"line", [0, 1]⟩ := by
    rw [ej, cutS_to _ _ (by rw [lng_len]; omega), cutS_from _ _ (by rw [lng_len]; omega), lng_take hj, lng_drop hj, List.append_assoc]; rfl
  have fB : firstBad (cutS (lng m) none (some (3 + d4)) ++ [so] ++ cutS (lng m) (some (3 + d4)) none) = some (j + 2) := by
    rw [eS]; exact lng_bad (odd_bad (by rw [zv]; omega) ms)
  refine ⟨lo, _, _, _, rfl, rfl, SqL.of hlo13, hio, (by show 1 ≤ sizeLine; decide), fun q9 m9 => ?_⟩
  have Z1 := same_new m9 (.lst [V.ref to])
  refine ⟨q8, q9, _, _, rfl, rfl, Z1 _ _ hq813, upd_same, smL _ (by rw [List.length_singleton]; omega), fun q10 m10 => ?_⟩
  have Z2 := same_new m10 (.lst (cutV (V.ref t1 :: V.ref t2 :: List.replicate m (V.ref t3)) none (some (3 + d4)) ++ [V.ref to]))
  refine ⟨_, rfl, _, rfl, _, rfl, lg, _, rfl, SqL.of ((Z1.trans Z2) _ _ hg13), fun q11 m11 => ?_⟩
  have Z3 := same_new m11 (.lst (cutV (V.ref t1 :: V.ref t2 :: List.replicate m (V.ref t3)) (some (3 + d4)) none))
  refine ⟨q10, q11, _, _, rfl, rfl, Z3 _ _ upd_same, upd_same, Nat.le_of_lt (small2000 (by rw [List.length_append, List.length_singleton]; omega)), fun q12 m12 => ?_⟩
  have Z4 := same_new m12 (.lst (cutV (V.ref t1 :: V.ref t2 :: List.replicate m (V.ref t3)) none (some (3 + d4)) ++ [V.ref to] ++ cutV (V.ref t1 :: V.ref t2 :: List.replicate m (V.ref t3)) (some (3 + d4)) none))
  refine ⟨q12, _, rfl, .inl ⟨SqL.of upd_same, fun ts ms2 => ?_⟩⟩
  have Z5 := same_new ms2 (.tup (cutV (V.ref t1 :: V.ref t2 :: List.replicate m (V.ref t3)) none (some (3 + d4)) ++ [V.ref to] ++ cutV (V.ref t1 :: V.ref t2 :: List.replicate m (V.ref t3)) (some (3 + d4)) none))
  have Z15 := Z1.trans (Z2.trans (Z3.trans (Z4.trans Z5)))
  have aX := a13.same Z15
  refine ⟨ts, _, _, rfl, upd_same, ((aX.cut none (some (3 + d4))).append (.cons (Z15 _ _ eto) .nil)).append (aX.cut (some (3 + d4)) none), by rw [eS, List.length_append, List.length_cons, lng_len, List.length_replicate]; omega, fun s hs => ?_, fun Hc r5 sc hr5 => ?_⟩
  · rw [eS] at hs
    rcases List.mem_append.mp hs with h | h
    · exact lng_form s h
    · rcases List.mem_cons.mp h with h | h
      · rw [h]; exact odd_form ms
      · rw [(List.mem_replicate.mp h).2]; exact .inr (.inl ⟨rfl, rfl⟩)
  rw [told_some fB] at hr5
  have sC := Z15.trans sc
  refine ⟨_, rfl, (by show 3 ≤ sizeLine; decide), fun r6 nr6 => ?_⟩
  have V3 := same_new nr6 (.tup [V.str "bad", .int (3 + d4), .bl true])
  refine ⟨_, _, dp3 (SqT.of (V3 _ _ hr5)), dp3 (SqT.of (show _ = some (HO.tup [V.str "bad", .int ((j + 2 : Nat) : Int), .bl true]) by rw [upd_same, ← ej])), shaped3 ok_bad, shaped3 ok_bad, _, rfl, ite2 (fun c => ?_) (fun _ => ?_)⟩
  · rw [eqv3] at c; cases c
  -- bad
  have sD := sC.trans V3
  have hltD := sD _ _ hlt13
  have hssD := hss13.same sD
  refine ⟨_, rfl, lt, _, rfl, .inl (SqL.of hltD), _, rfl, by show -(2 ^ 62) ≤ ((us.length : Nat) : Int); omega, by show ((us.length : Nat) : Int) < 2 ^ 62; omega, fun D nD => lc_range (lo := 0) (n := us.length) (fun i H' => Same (upd Hc r6 (.tup [V.str "bad", .int (3 + d4), .bl true])) H' ∧ H' D = some (.lst ((bads ss i).map fun k => V.int ((k : Nat) : Int))))
    ⟨same_new nD _, upd_same⟩ (fun i H' hi hP => ?_) (fun H' hP => ?_)⟩
  · obtain ⟨sm, hD⟩ := hP
    refine ⟨rfl, _, rfl, _, rfl, lt, us, ss, i, by rw [Int.zero_add]; rfl, sm _ _ hltD, hssD.same sm, by omega, hform, fun H5 s5 => ⟨_, rfl, ?_⟩⟩
    refine ite2 (fun c => ?_) (fun c => ?_)
    · refine ⟨_, rfl, _, s5 _ _ hD, small1000 (by rw [List.length_map]; have := bads_len ss i; omega), same_put (sm.trans s5) nD, ?_⟩
      have e : fits ss i = false := (Bool.not_eq_true' _).mp c
      rw [upd_same, bads_succ, if_neg (by rw [e]; decide), List.map_append, Int.zero_add]; rfl
    · have e : fits ss i = true := by
        have := Bool.eq_false_iff.mpr c
        exact (Bool.not_eq_false' (b := _)).mp this
      refine ⟨sm.trans s5, ?_⟩
      rw [s5 _ _ hD, bads_succ, if_pos e, List.append_nil]
  obtain ⟨sm, hD⟩ := hP
  rw [lus] at hD
  -- told
  refine ⟨_, rfl, lt, _, rfl, .inl ⟨SqL.of (sm _ _ hltD), fun tz mz => ?_⟩⟩
  have Q1 := same_new mz (.tup us)
  refine ⟨tz, us, ss, rfl, upd_same, (hssD.same sm).same Q1, by omega, hform, fun He r7 se hr7 => ?_⟩
  have hDe := (Q1.trans se) _ _ hD
  refine ⟨_, rfl, _, .inl ⟨_, SqL.of hDe, rfl⟩, ite2 (fun c => ?_) (fun c => ?_)⟩
  · have hb := bads_head ss
    cases eb2 : bads ss ss.length with
    | nil => rw [eb2] at c; cases c
    | cons k0 rest0 =>
      rw [eb2] at hb hDe
      rw [told_some hb.symm] at hr7
      refine ⟨_, rfl, r7, _, _, _, rfl, rfl, SqT.of hr7, atI_nat (j := 0) rfl, rfl, _, rfl, ite2 (fun _ => ?_) (fun z => absurd (decide_eq_true rfl) z)⟩
      refine ⟨_, rfl, r7, _, _, _, rfl, rfl, SqT.of hr7, atI_nat (j := 1) rfl, _, _, _, _, _, rfl, .ty "bool", .base (.int _), kit_ty (show kitB "int" "bool" = some false by decide +kernel), _, rfl, _, rfl, iteT ?_⟩
      refine ⟨_, rfl, _, rfl, D, _, _, _, rfl, rfl, SqL.of hDe, atI_nat (j := 0) rfl, (by show 3 ≤ sizeLine; decide), fun r8 nr8 => ?_⟩
      have V4 := same_new nr8 (.tup [V.str "bad", .int ((k0 : Nat) : Int), .bl true])
      refine ⟨_, _, dp3 (SqT.of (V4 _ _ hr7)), dp3 (SqT.of upd_same), shaped3 ok_bad, shaped3 ok_bad, ?_⟩
      rw [eqv3]
      exact fin _
  · have hb := bads_head ss
    cases eb2 : bads ss ss.length with
    | cons k0 rest0 => rw [eb2] at c; exact absurd rfl c
    | nil =>
      rw [eb2] at hb
      rw [told_none hb.symm] at hr7
      refine ⟨_, rfl, (by show 2 ≤ sizeLine; decide), fun r8 nr8 => ?_⟩
      have V4 := same_new nr8 (.tup [V.str "none", .bl true])
      refine ⟨_, _, dp2 (SqT.of (V4 _ _ hr7)), dp2 (SqT.of upd_same), shaped2 ok_none, shaped2 ok_none, ?_⟩
      rw [eqv2]
      exact fin _
end
end KD

namespace KG
open PySem PySem.Spec PyProof.Rows L2
/-! the program's own words for well formed steps -/
def pts : List V := [.str "point", .str "meet"]
def figs : List V := [.str "line", .str "circle"]
def nmW (ss : List Stp) (k : Nat) (ws : List V) (n : Int) : Bool := decide (0 ≤ n) && decide (n < k) && (match ss[n.toNat]? with | some s => inV (.str s.w) ws | none => false)
def wf (ss : List Stp) (k : Nat) (s : Stp) : Bool := if s.w = "point" then true else if s.w = "meet" then inV (.int (co s.ns 2)) [.int 0, .int 1] && (s.ns.take 2).all (nmW ss k figs) else s.ns.all (nmW ss k pts)
theorem figs_pt {s : Stp} (h : SForm s) : inV (.str s.w) figs = (isPt s.w == false) := by
  rcases h with ⟨e, _⟩ | ⟨e, _⟩ | ⟨e, _⟩ | ⟨e, _⟩ <;> rw [e] <;> decide
theorem nmW_figs {ss : List Stp} {k : Nat} {n : Int} (h : ∀ s ∈ ss, SForm s) : nmW ss k figs n = nmOk ss k true n := by
  unfold nmW nmOk
  congr 1
  cases g : ss[n.toNat]? with
  | none => rfl
  | some s => exact figs_pt (h s (List.mem_of_getElem? g))
theorem nmW_pts {ss : List Stp} {k : Nat} {n : Int} : nmW ss k pts n = nmOk ss k false n := by
  unfold nmW nmOk
  congr 1
  cases g : ss[n.toNat]? with
  | none => rfl
  | some s => show isPt s.w = (isPt s.w == true); simp
theorem in01 (z : Int) : inV (.int z) [.int 0, .int 1] = (decide (0 ≤ z) && decide (z ≤ 1)) := by
  show ((0 : Int) == z || ((1 : Int) == z || false)) = _
  rw [Bool.eq_iff_iff]
  simp
  omega
theorem wf_fits {ss : List Stp} {k : Nat} {s : Stp} (hf : ∀ s ∈ ss, SForm s) (g : ss[k]? = some s) : wf ss k s = fits ss k := by
  have fe : fits ss k = (fitW s && (names s).all (nmOk ss k (decide (s.w = "meet")))) := by unfold fits; rw [g]
  rw [fe]
  unfold wf fitW names
  by_cases h1 : s.w = "point"
  · have h2 : ¬ s.w = "meet" := by rw [h1]; decide
    rw [if_pos h1, if_neg h2, if_pos h1]; rfl
  · rw [if_neg h1, if_neg h1]
    by_cases h2 : s.w = "meet"
    · rw [if_pos h2, if_pos h2, if_pos h2, decide_eq_true h2, in01, show nmW ss k figs = nmOk ss k true from funext fun n => nmW_figs hf]
    · rw [if_neg h2, if_neg h2, if_neg h2, decide_eq_false h2, show nmW ss k pts = nmOk ss k false from funext fun n => nmW_pts, Bool.true_and]
end KG
namespace KD
open PySem PySem.Spec PyProof.Rows L2 KG
abbrev s_init : Stmt := inCls (topS 2) 0
abbrev N_init : List Str := ["self", "index"]
theorem sc_init : FnScope N_init ["self", "index"] (defScope s_init) := ⟨rfl, rfl, rfl, by decide +kernel, rfl, by decide +kernel, by decide +kernel⟩
abbrev scheck : Stmt := topS 6
abbrev Ncheck : List Str := ["drawing", "index", "step"]
theorem sccheck : FnScope Ncheck ["drawing"] (defScope scheck) := ⟨rfl, rfl, rfl, by decide +kernel, rfl, by decide +kernel, by decide +kernel⟩
abbrev s_well_formed : Stmt := topS 7
abbrev N_well_formed : List Str := ["drawing", "index", "step"]
theorem sc_well_formed : FnScope N_well_formed ["drawing", "index", "step"] (defScope s_well_formed) := ⟨rfl, rfl, rfl, by decide +kernel, rfl, by decide +kernel, by decide +kernel⟩
abbrev s_name_earlier : Stmt := topS 8
abbrev N_name_earlier : List Str := ["drawing", "index", "named", "words", "k"]
theorem sc_name_earlier : FnScope N_name_earlier ["drawing", "index", "named", "words"] (defScope s_name_earlier) := ⟨rfl, rfl, rfl, by decide +kernel, rfl, by decide +kernel, by decide +kernel⟩
section
variable {P : Program} {w : World} {K : PySem.W.Frag} {mg : Str → Option Value} {base : Heap} {C fI W aP aF : Addr}
theorem ok_init {f : Addr} {fd : FuncData} {k : Nat} (F : Fun K "__init__" "BadStep.__init__" s_init f fd) : FnOk P w K mg base CX0 (k + 1) f fd ["self", "index"] (spInit K "index" C) := by
  refine F.ok sc_init (fun vs H Q E h => ?_) (fun cdv A outer s H vs Q E hr h => ?_)
  · obtain ⟨a, v, rfl, _⟩ := h
    rfl
  obtain ⟨a, v, rfl, hT, hno, ha, fin⟩ := h
  refine ⟨_, pss_one (ps_ost (f := "index") (pv 0) (pv 1)), ?_⟩
  exact ⟨_, rfl, _, rfl, a, C, rfl, hT, hno, .inl ⟨ha, fun dx n ne => fin dx n ne⟩⟩
def sp_name_earlier (K : PySem.W.Frag) : Sp := fun vs H Q _ => ∃ (t nt wt : Addr) (us : List V) (ss : List Stp) (k : Nat) (xs : List Int) (ws : List V), vs = [.ref t, .int (k : Int), .ref nt, .ref wt] ∧ H t = some (.tup us) ∧ SAt H us ss ∧ k ≤ ss.length ∧ SqT K H nt (xs.map V.int) ∧ SqT K H wt ws ∧ ws.all flatV = true ∧ ∀ H', Same H H' → Q (.bl (xs.all (nmW ss k ws))) H'
theorem ok_name_earlier {f : Addr} {fd : FuncData} {k : Nat} (F : Fun K "_name_earlier" "_name_earlier" s_name_earlier f fd) : FnOk P w K mg base CX0 (k + 1) f fd ["drawing", "index", "named", "words"] (sp_name_earlier K) := by
  refine F.ok sc_name_earlier (fun vs H Q E h => ?_) (fun cdv A outer s H vs Q E hr h => ?_)
  · obtain ⟨t, nt, wt, us, ss, k, xs, ws, rfl, _⟩ := h
    rfl
  obtain ⟨t, nt, wt, us, ss, k, xs, ws, rfl, ht, hss, hk, hn, hw, hfl, fin⟩ := h
  refine ⟨_, (pss_cons (ps_for PassesOwn.never rfl (pi_tup (pv 2)) (pg_name (i := 4) sc_name_earlier.nd rfl (.inl rfl))
      (pss_one (ps_if (PW.pt (pw_or (pt_not (pt_chain op_le op_lt pe_int (pv 4) (pv 1))) (pw_or1 (pt_cmpR op_notIn_seq (pe_ix ix_tup (pe_ix ix_tup (pv 0) (pv 4) (fun _ _ => rfl)) pe_int (fun _ _ => rfl)) (pv 3) (by rfl)))))
        (pss_one (ps_ret pe_bl))
        pss_nil)))
    (pss_one (ps_ret pe_bl))), ?_⟩
  have bad : ∀ i, i < xs.length → nmW ss k ws (co xs i) = false → ∀ H', Same H H' → Q (.bl false) H' := fun i hi hb H' sm => by
    have e : xs.all (nmW ss k ws) = false := by
      rw [List.all_eq_false]
      exact ⟨_, co_mem hi, by rw [hb]; exact Bool.false_ne_true⟩
    have q := fin H' sm
    rwa [e] at q
  refine ⟨_, rfl, nt, rfl, ⟨_, hn⟩, for_tup (xs := xs.map V.int) (fun i σ H' => ∃ y4 : Option V, σ = [some (.ref t), some (.int (k : Int)), some (.ref nt), some (.ref wt), y4] ∧ Same H H' ∧ ∀ j, j < i → nmW ss k ws (co xs j) = true)
    ⟨none, rfl, fun _ _ e => e, fun j h => by omega⟩ (fun i σ H' _ hP => by obtain ⟨_, _, h, _⟩ := hP; exact Same.seqT h hn) (fun i x σ H' hx hP => ?_) (fun σ H' hP => ?_)⟩
  · obtain ⟨y4, rfl, sm, hall⟩ := hP
    obtain ⟨hi, rfl⟩ := map_mem hx
    refine ⟨_, rfl, _, _, rfl, rfl, _, rfl, ite2 (fun a1 => ⟨_, rfl, _, _, rfl, rfl, _, rfl, ite2 (fun a2 => iteT ?B2) (fun a2 => ?GO)⟩) (fun a1 => ⟨_, rfl, iteT (iteT ?B1)⟩)⟩
    case B1 =>
      have b1 : ¬ 0 ≤ co xs i := fun z => a1 (decide_eq_true z)
      exact bad i hi (by unfold nmW; rw [decide_eq_false b1]; rfl) _ sm
    case B2 =>
      have b2 : ¬ co xs i < (k : Int) := of_decide_eq_false ((Bool.not_eq_true' _).mp a2)
      exact bad i hi (by unfold nmW; rw [decide_eq_false b2]; simp) _ sm
    replace a1 : 0 ≤ co xs i := of_decide_eq_true a1
    replace a2 : co xs i < (k : Int) := of_decide_eq_true ((Bool.not_eq_false' (b := _)).mp (Bool.eq_false_iff.mpr a2))
    have hj : (co xs i).toNat < ss.length := by omega
    have gn : ss[(co xs i).toNat]? = some ss[(co xs i).toNat] := List.getElem?_eq_getElem hj
    generalize ss[(co xs i).toNat] = sn at gn
    obtain ⟨tn, htn, etn⟩ := (hss.same sm).get gn
    have hun : atI us (co xs i) = some (.ref tn) := by
      have e : co xs i = (((co xs i).toNat : Nat) : Int) := by omega
      rw [e]; exact atI_nat htn
    have h0n : atI (stV sn) 0 = some (.str sn.w) := atI_nat (j := 0) rfl
    have nme : nmW ss k ws (co xs i) = inV (.str sn.w) ws := by
      unfold nmW; rw [decide_eq_true a1, decide_eq_true a2, gn]; rfl
    refine ⟨_, rfl, _, rfl, t, _, _, _, rfl, rfl, SqT.of (sm _ _ ht), hun, tn, _, _, _, rfl, rfl, SqT.of etn, h0n, _, rfl, wt, _, rfl, .inr (Same.seqT sm hw), rfl, hfl, _, rfl, ?_⟩
    refine ite2 (fun a3 => ?_) (fun a3 => ?_)
    · exact bad i hi (by rw [nme]; exact (Bool.not_eq_true' _).mp a3) _ sm
    · refine ⟨_, rfl, sm, fun j hj => ?_⟩
      by_cases z : j = i
      · rw [z, nme]
        have a4 := Bool.eq_false_iff.mpr a3
        exact (Bool.not_eq_false' (b := _)).mp a4
      · exact hall j (by omega)
  · obtain ⟨y4, rfl, sm, hall⟩ := hP
    have e : xs.all (nmW ss k ws) = true := by
      rw [List.all_eq_true]
      intro x hx
      obtain ⟨j, hj, rfl⟩ := List.getElem_of_mem hx
      have := hall j (by rw [List.length_map]; exact hj)
      simpa [co, List.getD_eq_getElem?_getD, hj] using this
    have q := fin H' sm
    rw [e] at q
    exact q
def sp_well_formed (K : PySem.W.Frag) : Sp := fun vs H Q _ => ∃ (t st : Addr) (us : List V) (ss : List Stp) (k : Nat) (s : Stp), vs = [.ref t, .int (k : Int), .ref st] ∧ H t = some (.tup us) ∧ SAt H us ss ∧ k ≤ ss.length ∧ SForm s ∧ H st = some (.tup (stV s)) ∧ ∀ H', Same H H' → Q (.bl (wf ss k s)) H'
theorem ok_well_formed {f : Addr} {fd : FuncData} {k : Nat} (F : Fun K "_well_formed" "_well_formed" s_well_formed f fd) (gP : mg "POINTS" = some (.ref aP)) (sP : ∀ H, SqT K H aP pts) (gF : mg "FIGURES" = some (.ref aF)) (sF : ∀ H, SqT K H aF figs)
    (G : Cal P w K mg base k "_name_earlier" ["drawing", "index", "named", "words"] (sp_name_earlier K)) : FnOk P w K mg base CX0 (k + 1) f fd ["drawing", "index", "step"] (sp_well_formed K) := by
  refine F.ok sc_well_formed (fun vs H Q E h => ?_) (fun cdv A outer s H vs Q E hr h => ?_)
  · obtain ⟨t, st, us, ss, k, s, rfl, _⟩ := h
    rfl
  obtain ⟨t, st, us, ss, k, sx, rfl, ht, hss, hk, form, hst, fin⟩ := h
  refine ⟨_, (pss_cons (ps_if (pt_cmpR op_eq (pe_ix ix_tup (pv 2) pe_int (fun _ _ => rfl)) pe_str (nomark _))
      (pss_one (ps_ret pe_bl))
      pss_nil)
    (pss_cons (ps_if (pt_cmpR op_eq (pe_ix ix_tup (pv 2) pe_int (fun _ _ => rfl)) pe_str (nomark _))
      (pss_one (ps_ret (pe_and (pe_cmpR op_in_seq (pe_ix ix_tup (pv 2) pe_int (fun _ _ => rfl)) (pe_tup (pa_cons pe_int (pa_cons pe_int pa_nil))) (by rfl)) (pe_one (pe_call G.ok hr (by rfl) G.m G.kp G.b .nil pass0 (pa_cons (pv 0) (pa_cons (pv 1) (pa_cons (pe_slice sl_tup (pv 2) (po_some pe_int) (po_some pe_int)) (pa_cons (pe_glob (v := .ref aF) (by rfl) gF rfl) pa_nil)))))))))
      pss_nil)
    (pss_one (ps_ret (pe_call G.ok hr (by rfl) G.m G.kp G.b .nil pass0 (pa_cons (pv 0) (pa_cons (pv 1) (pa_cons (pe_slice sl_tup (pv 2) (po_some pe_int) po_none) (pa_cons (pe_glob (v := .ref aP) (by rfl) gP rfl) pa_nil))))))))), ?_⟩
  have h0 : atI (stV sx) 0 = some (.str sx.w) := atI_nat (j := 0) rfl
  have lst : (stV sx).length = sx.ns.length + 1 := by simp [stV]
  have l2 : 2 ≤ sx.ns.length ∧ sx.ns.length ≤ 3 := by rcases form with ⟨_, h⟩ | ⟨_, h⟩ | ⟨_, h⟩ | ⟨_, h⟩ <;> omega
  refine ⟨_, rfl, st, _, _, _, rfl, rfl, SqT.of hst, h0, rfl, _, rfl, ite2 (fun p1 => ?_) (fun p1 => ?_)⟩
  · have w1 : sx.w = "point" := V.str.inj (of_decide_eq_true p1)
    have q := fin _ (fun _ _ e => e)
    rw [show wf ss k sx = true by unfold wf; rw [if_pos w1]] at q
    exact q
  have w1 : sx.w ≠ "point" := fun e => p1 (decide_eq_true (by rw [e]))
  refine ⟨_, rfl, st, _, _, _, rfl, rfl, SqT.of hst, h0, rfl, _, rfl, ite2 (fun p2 => ?_) (fun p2 => ?_)⟩
  · have w2 : sx.w = "meet" := V.str.inj (of_decide_eq_true p2)
    have l3 : sx.ns.length = 3 := by
      rcases form with ⟨e, h⟩ | ⟨e, h⟩ | ⟨e, h⟩ | ⟨e, h⟩
      · exact absurd e w1
      · rw [w2] at e; exact absurd e (by decide)
      · rw [w2] at e; exact absurd e (by decide)
      · exact h
    have h3 : atI (stV sx) 3 = some (.int (co sx.ns 2)) := atI_nat (j := 3) (by
      show (sx.ns.map V.int)[2]? = _
      exact map_at (by omega))
    have wm : wf ss k sx = (inV (.int (co sx.ns 2)) [.int 0, .int 1] && (sx.ns.take 2).all (nmW ss k figs)) := by unfold wf; rw [if_neg w1, if_pos w2]
    rw [wm] at fin
    refine ⟨_, rfl, st, _, _, _, rfl, rfl, SqT.of hst, h3, (by show 2 ≤ sizeLine; decide), fun q hq => ⟨q, _, rfl, .inr (SqT.of upd_same), rfl, rfl, _, rfl, ?_⟩⟩
    have S1 := same_new hq (.tup [V.int 0, .int 1])
    refine ite2 (fun i1 => ?_) (fun i1 => ?_)
    · refine ⟨_, rfl, _, rfl, _, rfl, _, rfl, _, rfl, st, _, rfl, SqT.of (S1 _ _ hst), not_whole (i := 1) (by decide) (by omega), fun c1 hc1 => ?_⟩
      have S2 := same_new hc1 (.tup (cutV (stV sx) (some 1) (some 3)))
      refine ⟨t, c1, aF, us, ss, k, sx.ns.take 2, figs, rfl, (S1.trans S2) _ _ ht, hss.same (S1.trans S2), hk, SqT.of ?_, sF _, rfl, fun H' sm => ?_⟩
      · rw [upd_same, show cutV (stV sx) (some 1) (some 3) = ((stV sx).drop 1).take (3 - 1) from cut_mid _ 1 3 (by omega) (by omega), List.map_take]; rfl
      · have q := fin _ ((S1.trans S2).trans sm)
        rw [show inV (V.int (co sx.ns 2)) [V.int 0, V.int 1] = true from i1, Bool.true_and] at q
        exact q
    · have q := fin _ S1
      rw [show inV (V.int (co sx.ns 2)) [V.int 0, V.int 1] = false from Bool.eq_false_iff.mpr i1, Bool.false_and] at q
      exact q
  · have w2 : sx.w ≠ "meet" := fun e => p2 (decide_eq_true (by rw [e]))
    have wm : wf ss k sx = sx.ns.all (nmW ss k pts) := by unfold wf; rw [if_neg w1, if_neg w2]
    rw [wm] at fin
    refine ⟨_, rfl, _, rfl, _, rfl, _, rfl, st, _, rfl, SqT.of hst, not_whole (i := 1) (by decide) (by omega), fun c1 hc1 => ?_⟩
    have S2 := same_new hc1 (.tup (cutV (stV sx) (some 1) none))
    refine ⟨t, c1, aP, us, ss, k, sx.ns, pts, rfl, S2 _ _ ht, hss.same S2, hk, SqT.of ?_, sP _, rfl, fun H' sm => fin _ (S2.trans sm)⟩
    rw [upd_same, show cutV (stV sx) (some 1) none = (stV sx).drop 1 from cut_from _ 1 (by omega)]; rfl
theorem same_del {H H1 : Hp} {a d : Addr} {C : Addr} {fs : List (Str × V)} {o1 o2 : HO} (s : Same H H1) (na : H1 a = none) (nd : (upd H1 a o1) d = none) (ne : d ≠ a) : Same H (upd (del (upd (upd (upd H1 a o1) d o2) a (exo a C (some d))) a) d (.xd fs)) := fun b o e => by
  have h1 := s b o e
  have ba : b ≠ a := ne_of_none h1 na
  have bd : b ≠ d := fun z => by
    rw [z, ← upd_ne (H := H1) (o := o1) ne] at h1
    rw [nd] at h1; cases h1
  rw [upd_ne bd, del_ne ba, upd_ne ba, upd_ne bd, upd_ne ba]; exact h1
theorem ok_check {f : Addr} {fd fdi : FuncData} {k : Nat} (F : Fun K "check" "check" scheck f fd) (M : Names mg) (T : OwnE K mg "BadStep" "index" C fI W) (Gi : FnOk P w K mg base CX0 (k + 1) fI fdi ["self", "index"] (spInit K "index" C)) (bi : Binds K fdi ["self", "index"] [])
    (G : Cal P w K mg base (k + 2) "_well_formed" ["drawing", "index", "step"] (sp_well_formed K)) : FnOk P w K mg base (L2.CX P w) (k + 3) f fd ["drawing"] (sp_check C) := by
  refine F.okX sccheck (fun vs H Q E h => ?_) (fun cdv A outer s H vs Q E hr h => ?_)
  · obtain ⟨t, us, ss, rfl, _⟩ := h
    rfl
  obtain ⟨t, us, ss, rfl, ht, hss, hl, hf, kN, kE⟩ := h
  refine ⟨_, (pss_one (ps_for PassesOwn.leaving rfl (pi_enumT (by rfl) M.enumerate (pa_cons (pv 0) pa_nil)) (pg_tup rfl (pgs_cons (pg_name (i := 1) sccheck.nd rfl (.inl rfl)) (pgs_cons (pg_name (i := 2) sccheck.nd rfl (.inl rfl)) pgs_nil)))
      (pss_one (ps_if (pt_not (pt_val (pe_call G.ok hr (by rfl) G.m G.kp G.b .nil pass0 (pa_cons (pv 0) (pa_cons (pv 1) (pa_cons (pv 2) pa_nil))))))
        (pss_one (ps_raise rfl (takes_of (E := E) rfl rfl rfl rfl) (pmk_oex T.oex T.iC T.tI Gi hr bi .nil pass0 (by rfl) T.gC (pa_cons (pv 1) pa_nil))))
        pss_nil)))), ?_⟩
  have lus := hss.len
  refine ⟨_, rfl, t, us, rfl, SqT.of ht, for_enumT (xs := us) (fun i σ H' => ∃ y z : Option V, σ = [some (.ref t), y, z] ∧ Same H H' ∧ ∀ j, j < i → fits ss j = true)
    ⟨none, none, rfl, fun _ _ e => e, fun j h => by omega⟩ (fun i σ H' hP => by obtain ⟨_, _, _, sm, _⟩ := hP; exact SqT.of (sm _ _ ht)) (fun i x T' σ H' hx hP nT => ?_) (fun σ H' hP => ?_)⟩
  · obtain ⟨y, z, rfl, sm, hall⟩ := hP
    have hi : i < ss.length := by have := (List.getElem?_eq_some_iff.mp hx).1; omega
    have gs : ss[i]? = some ss[i] := List.getElem?_eq_getElem hi
    generalize hsx : ss[i] = sx at gs
    obtain ⟨tx, htx, etx⟩ := hss.get gs
    obtain rfl : x = .ref tx := by rw [hx] at htx; exact Option.some.inj htx
    have S1 := same_new nT (.tup [V.int (i : Nat), .ref tx])
    have S2 := sm.trans S1
    refine ⟨T', _, rfl, SqT.of upd_same, rfl, ?_⟩
    refine ⟨_, _, rfl, _, _, rfl, rfl, _, rfl, _, rfl, _, rfl, t, tx, us, ss, i, sx, rfl, S2 _ _ ht, hss.same S2, by omega, hf _ (List.mem_of_getElem? gs), S2 _ _ etx, fun H5 s5 => ⟨_, rfl, ?_⟩⟩
    rw [wf_fits hf gs]
    refine ite2 (fun c => ?_) (fun c => ?_)
    · have e : fits ss i = false := (Bool.not_eq_true' _).mp c
      refine ⟨_, rfl, (by show 1 ≤ 1000; decide), fun a na => ⟨a, .int (i : Nat), rfl, T.oex, T.noF, upd_same, fun dx ndx ne => ⟨rfl, dx, [(("index" : Str), .int (i : Nat))], upd_same, by rw [upd_ne ne, upd_same], by rw [← upd_ne (H := H5) ne]; exact ndx, ?_⟩⟩⟩
      exact kE i (firstBad_some hall (by omega) e) _ dx (same_del (S2.trans s5) na ndx ne) upd_same
    · have e : fits ss i = true := by
        have := Bool.eq_false_iff.mpr c
        exact (Bool.not_eq_false' (b := _)).mp this
      exact ⟨_, _, rfl, S2.trans s5, fun j hj => by
        by_cases z : j = i
        · rw [z, e]
        · exact hall j (by omega)⟩
  · obtain ⟨y, z, rfl, sm, hall⟩ := hP
    exact kN (firstBad_none fun j hj => hall j (by omega)) _ sm
end
end KD

namespace KD
open PySem PySem.Spec PyProof.Rows L2 KG
set_option maxHeartbeats 4000000 in
theorem all_mk {l : PySem.W.OpenLaw} {w : World} {K : PySem.W.Frag} {h : Heap} {mg : Str → Option Value} {fa aT1 aT2 f1 f2 f3 f4 f5 f6 f7 f8 f9 f10 eC1 eI1 eW1 eN1 : Addr} (X : K.In h) (G : h.Ns mainGlobals mg) (hfa : mg "law" = some (.ref fa))
    {od1 an1 od2 an2 od3 an3 od4 an4 od5 an5 od6 an6 od7 an7 od8 an8 od9 an9 od10 an10 od11 an11 : Option Addr} {sl1 sl2 sl3 sl4 sl5 sl6 sl7 sl8 sl9 sl10 sl11 : Array (Option Value)} {oc1 kV1 dc1 pm1 cd1 ct1 oc2 kV2 dc2 pm2 cd2 ct2 oc3 kV3 dc3 pm3 cd3 ct3 oc4 kV4 dc4 pm4 cd4 ct4 oc5 kV5 dc5 pm5 cd5 ct5 oc6 kV6 dc6 pm6 cd6 ct6 oc7 kV7 dc7 pm7 cd7 ct7 oc8 kV8 dc8 pm8 cd8 ct8 oc9 kV9 dc9 pm9 cd9 ct9 oc10 kV10 dc10 pm10 cd10 ct10 oc11 kV11 dc11 pm11 cd11 ct11 : Value}
    {nm1 q1 : Str} {bs1 sub1 : List Value} {sn1 : List Str} {ab1 : Bool} {col1 : Option Bool} {dd1 : Option Addr} {m0_1 m1_1 m2_1 m3_1 m5_1 : Option Value}
    {odT1 : Option Addr} {slT1 : Array (Option Value)} {nT1 : Nat} {tT1_0 tT1_1 : Tok}
    {odT2 : Option Addr} {slT2 : Array (Option Value)} {nT2 : Nat} {tT2_0 tT2_1 : Tok}
    (a1 : PySem.W.nsIn K mainGlobals "_name_earlier" = some (some (.ref f1))) (l1 : K.lookup f1 = some ⟨oc1, od1, .func (PySem.W.fnOf "_name_earlier" "_name_earlier" (defArgs s_name_earlier) (defBody s_name_earlier) (defScope s_name_earlier) .none kV1 dc1 pm1 an1 cd1 ct1), sl1⟩) (c1 : PySem.W.codeIn K cd1 "_name_earlier" = true) (k1 : PySem.W.keepIn K (.ref f1) = true)
    (a2 : PySem.W.nsIn K mainGlobals "_well_formed" = some (some (.ref f2))) (l2 : K.lookup f2 = some ⟨oc2, od2, .func (PySem.W.fnOf "_well_formed" "_well_formed" (defArgs s_well_formed) (defBody s_well_formed) (defScope s_well_formed) .none kV2 dc2 pm2 an2 cd2 ct2), sl2⟩) (c2 : PySem.W.codeIn K cd2 "_well_formed" = true) (k2 : PySem.W.keepIn K (.ref f2) = true)
    (a3 : PySem.W.nsIn K mainGlobals "check" = some (some (.ref f3))) (l3 : K.lookup f3 = some ⟨oc3, od3, .func (PySem.W.fnOf "check" "check" (defArgs scheck) (defBody scheck) (defScope scheck) .none kV3 dc3 pm3 an3 cd3 ct3), sl3⟩) (c3 : PySem.W.codeIn K cd3 "check" = true) (k3 : PySem.W.keepIn K (.ref f3) = true)
    (a4 : PySem.W.nsIn K mainGlobals "_law_state" = some (some (.ref f4))) (l4 : K.lookup f4 = some ⟨oc4, od4, .func (PySem.W.fnOf "_law_state" "_law_state" (defArgs s_law_state) (defBody s_law_state) (defScope s_law_state) .none kV4 dc4 pm4 an4 cd4 ct4), sl4⟩) (c4 : PySem.W.codeIn K cd4 "_law_state" = true) (k4 : PySem.W.keepIn K (.ref f4) = true)
    (a5 : PySem.W.nsIn K mainGlobals "_law_take" = some (some (.ref f5))) (l5 : K.lookup f5 = some ⟨oc5, od5, .func (PySem.W.fnOf "_law_take" "_law_take" (defArgs s_law_take) (defBody s_law_take) (defScope s_law_take) .none kV5 dc5 pm5 an5 cd5 ct5), sl5⟩) (c5 : PySem.W.codeIn K cd5 "_law_take" = true) (k5 : PySem.W.keepIn K (.ref f5) = true)
    (a6 : PySem.W.nsIn K mainGlobals "_law_drawn_step" = some (some (.ref f6))) (l6 : K.lookup f6 = some ⟨oc6, od6, .func (PySem.W.fnOf "_law_drawn_step" "_law_drawn_step" (defArgs s_law_drawn_step) (defBody s_law_drawn_step) (defScope s_law_drawn_step) .none kV6 dc6 pm6 an6 cd6 ct6), sl6⟩) (c6 : PySem.W.codeIn K cd6 "_law_drawn_step" = true) (k6 : PySem.W.keepIn K (.ref f6) = true)
    (a7 : PySem.W.nsIn K mainGlobals "_law_fits" = some (some (.ref f7))) (l7 : K.lookup f7 = some ⟨oc7, od7, .func (PySem.W.fnOf "_law_fits" "_law_fits" (defArgs s_law_fits) (defBody s_law_fits) (defScope s_law_fits) .none kV7 dc7 pm7 an7 cd7 ct7), sl7⟩) (c7 : PySem.W.codeIn K cd7 "_law_fits" = true) (k7 : PySem.W.keepIn K (.ref f7) = true)
    (a8 : PySem.W.nsIn K mainGlobals "_law_changed" = some (some (.ref f8))) (l8 : K.lookup f8 = some ⟨oc8, od8, .func (PySem.W.fnOf "_law_changed" "_law_changed" (defArgs s_law_changed) (defBody s_law_changed) (defScope s_law_changed) .none kV8 dc8 pm8 an8 cd8 ct8), sl8⟩) (c8 : PySem.W.codeIn K cd8 "_law_changed" = true) (k8 : PySem.W.keepIn K (.ref f8) = true)
    (a9 : PySem.W.nsIn K mainGlobals "_law_told" = some (some (.ref f9))) (l9 : K.lookup f9 = some ⟨oc9, od9, .func (PySem.W.fnOf "_law_told" "_law_told" (defArgs s_law_told) (defBody s_law_told) (defScope s_law_told) .none kV9 dc9 pm9 an9 cd9 ct9), sl9⟩) (c9 : PySem.W.codeIn K cd9 "_law_told" = true) (k9 : PySem.W.keepIn K (.ref f9) = true)
    (a10 : PySem.W.nsIn K mainGlobals "law" = some (some (.ref f10))) (l10 : K.lookup f10 = some ⟨oc10, od10, .func (PySem.W.fnOf "law" "law" (defArgs slaw) (defBody slaw) (defScope slaw) .none kV10 dc10 pm10 an10 cd10 ct10), sl10⟩) (c10 : PySem.W.codeIn K cd10 "law" = true) (k10 : PySem.W.keepIn K (.ref f10) = true)
    (x1_1 : PySem.W.nsIn K mainGlobals "BadStep" = some (some (.ref eC1))) (x1_2 : PySem.W.nsIn K mainGlobals "WorkError" = some (some (.ref eW1)))
    (x1_3 : K.lookup eC1 = some (excClassObj nm1 q1 eC1 eN1 bs1 [.ref eW1, .type "ValueError", .type "Exception", .type "BaseException", .type "object"] true sn1 sub1 ab1 col1 dd1 m0_1 m1_1 m2_1 m3_1 m5_1 "ValueError.__new__"))
    (x1_4 : PySem.W.findIn K (.ref eC1) "__setattr__" = some (some (.builtin "object.__setattr__"))) (x1_5 : PySem.W.findIn K (.ref eC1) "__getattribute__" = some (some (.builtin "BaseException.__getattribute__"))) (x1_6 : PySem.W.findIn K (.ref eC1) "__getattr__" = some none) (x1_7 : PySem.W.findIn K (.ref eC1) "index" = some none) (x1_8 : PySem.W.findIn K (.ref eC1) "__init__" = some (some (.ref eI1))) (x1_9 : PySem.W.typeIn K (.ref eI1) = some (.type "function")) (x1_10 : PySem.W.keepIn K (.ref eC1) = true) (x1_11 : PySem.W.subIn K (.ref eC1) (.type "BaseException") = some true) (x1_12 : PySem.W.typeIn K (.ref eC1) = some (.type "type")) (x1_13 : PySem.W.hasDictIn K eC1 = true) (x1_14 : PySem.W.isClsIn K eC1 = true) (x1_15 : PySem.W.subIn K (.ref eC1) (.ref eC1) = some true) (x1_16 : PySem.W.subIn K (.ref eC1) (.ref eW1) = some true) (x1_17 : PySem.W.typeIn K (.ref eW1) = some (.type "type")) (x1_18 : PySem.W.isClsIn K eW1 = true) (x1_19 : PySem.W.subIn K (.ref eC1) (.type "ValueError") = some true) (x1_20 : PySem.W.findIn K (.ref eC1) "__class__" = some (some (.builtin "object.__class__"))) (x1_21 : PySem.W.specialIn K (.builtin "object.__class__") "__get__" = some (some (.builtin "getset_descriptor.__get__"))) (x1_22 : PySem.W.takesIn K (.builtin "object.__class__") = some true) (x1_23 : PySem.W.mroIn K eC1 (.type "object") = some true)
    (l11 : K.lookup eI1 = some ⟨oc11, od11, .func (PySem.W.fnOf "__init__" "BadStep.__init__" (defArgs s_init) (defBody s_init) (defScope s_init) .none kV11 dc11 pm11 an11 cd11 ct11), sl11⟩) (c11 : PySem.W.codeIn K cd11 "BadStep.__init__" = true) (k11 : PySem.W.keepIn K (.ref eI1) = true)
    (z1 : PySem.W.nsIn K mainGlobals "ValueError" = some none)
    (z2 : PySem.W.nsIn K mainGlobals "enumerate" = some none)
    (z3 : PySem.W.nsIn K mainGlobals "range" = some none)
    (z4 : PySem.W.nsIn K mainGlobals "list" = some none)
    (z5 : PySem.W.nsIn K mainGlobals "len" = some none)
    (z6 : PySem.W.nsIn K mainGlobals "abs" = some none)
    (z7 : PySem.W.nsIn K mainGlobals "int" = some none)
    (z8 : PySem.W.nsIn K mainGlobals "tuple" = some none)
    (z9 : PySem.W.nsIn K mainGlobals "isinstance" = some none)
    (z10 : PySem.W.nsIn K mainGlobals "bool" = some none)
    (y1_1 : PySem.W.nsIn K mainGlobals "POINTS" = some (some (.ref aT1))) (y1_2 : K.lookup aT1 = some ⟨.type "tuple", odT1, .seq #[.str "point" tT1_0, .str "meet" tT1_1] nT1, slT1⟩)
    (y2_1 : PySem.W.nsIn K mainGlobals "FIGURES" = some (some (.ref aT2))) (y2_2 : K.lookup aT2 = some ⟨.type "tuple", odT2, .seq #[.str "line" tT2_0, .str "circle" tT2_1] nT2, slT2⟩)
    : ∃ fd : FuncData, (∀ (s : Shared) (v : Value), BindsTo s fd ⟨[v], []⟩ [("script", v)]) ∧ ∀ base : Heap, K.In base → base.Ns mainGlobals mg → FnOk l.prog w K mg base CX0 8 fa fd ["script"] (splaw K) := by
  have e := hfa.symm.trans (PySem.W.mg_of X G a10)
  cases e
  have F1 := fun_mk (st := s_name_earlier) l1 c1 k1
  have F2 := fun_mk (st := s_well_formed) l2 c2 k2
  have F3 := fun_mk (st := scheck) l3 c3 k3
  have F4 := fun_mk (st := s_law_state) l4 c4 k4
  have F5 := fun_mk (st := s_law_take) l5 c5 k5
  have F6 := fun_mk (st := s_law_drawn_step) l6 c6 k6
  have F7 := fun_mk (st := s_law_fits) l7 c7 k7
  have F8 := fun_mk (st := s_law_changed) l8 c8 k8
  have F9 := fun_mk (st := s_law_told) l9 c9 k9
  have F10 := fun_mk (st := slaw) l10 c10 k10
  have F11 := fun_mk (st := s_init) l11 c11 k11
  have b1 := F1.binds (ps := ["drawing", "index", "named", "words"]) fun _ _ _ _ _ _ us hl => match us, hl with | [_, _, _, _], _ => rfl
  have b2 := F2.binds (ps := ["drawing", "index", "step"]) fun _ _ _ _ _ _ us hl => match us, hl with | [_, _, _], _ => rfl
  have b3 := F3.binds (ps := ["drawing"]) fun _ _ _ _ _ _ us hl => match us, hl with | [_], _ => rfl
  have b4 := F4.binds (ps := ["script"]) fun _ _ _ _ _ _ us hl => match us, hl with | [_], _ => rfl
  have b5 := F5.binds (ps := ["state", "many"]) fun _ _ _ _ _ _ us hl => match us, hl with | [_, _], _ => rfl
  have b6 := F6.binds (ps := ["state", "steps", "most"]) fun _ _ _ _ _ _ us hl => match us, hl with | [_, _, _], _ => rfl
  have b7 := F7.binds (ps := ["steps", "at"]) fun _ _ _ _ _ _ us hl => match us, hl with | [_, _], _ => rfl
  have b8 := F8.binds (ps := ["state", "steps"]) fun _ _ _ _ _ _ us hl => match us, hl with | [_, _], _ => rfl
  have b9 := F9.binds (ps := ["drawing"]) fun _ _ _ _ _ _ us hl => match us, hl with | [_], _ => rfl
  have b11 := F11.binds (ps := ["self", "index"]) fun _ _ _ _ _ _ us hl => match us, hl with | [_, _], _ => rfl
  have T1 := own_mk X G x1_1 x1_3 x1_4 x1_5 x1_6 x1_7 x1_8 x1_9 x1_10 x1_11 x1_12 x1_13 x1_14 x1_15 x1_16 x1_17 x1_18 x1_19 x1_20 x1_21 x1_22 x1_23
  have W1 := PySem.W.mg_of X G x1_2
  have gT1 := PySem.W.mg_of X G y1_1
  have sT1 : ∀ H : Hp, SqT K H aT1 [V.str "point", V.str "meet"] := fun H => .inr ⟨_, _, _, y1_2, rfl, rfl, (by show 2 ≤ sizeLine; decide), (.cons ⟨_, rfl⟩ (.cons ⟨_, rfl⟩ .nil))⟩
  have gT2 := PySem.W.mg_of X G y2_1
  have sT2 : ∀ H : Hp, SqT K H aT2 [V.str "line", V.str "circle"] := fun H => .inr ⟨_, _, _, y2_2, rfl, rfl, (by show 2 ≤ sizeLine; decide), (.cons ⟨_, rfl⟩ (.cons ⟨_, rfl⟩ .nil))⟩
  have M : Names mg := { ValueError := PySem.W.mg_none_of X G z1, enumerate := PySem.W.mg_none_of X G z2, range := PySem.W.mg_none_of X G z3, list := PySem.W.mg_none_of X G z4, len := PySem.W.mg_none_of X G z5, abs := PySem.W.mg_none_of X G z6, int := PySem.W.mg_none_of X G z7, tuple := PySem.W.mg_none_of X G z8, isinstance := PySem.W.mg_none_of X G z9, bool := PySem.W.mg_none_of X G z10 }
  refine ⟨PySem.W.fnOf "law" "law" (defArgs slaw) (defBody slaw) (defScope slaw) .none kV10 dc10 pm10 an10 cd10 ct10, fun s v => .of_eq rfl, fun base _ _ => ?_⟩
  have C_law_state_7 : Cal l.prog w K mg base 7 "_law_state" ["script"] (sp_law_state K) := ⟨f4, _, ok_law_state F4 M, b4, PySem.W.mg_of X G a4, k4⟩
  have C_law_take_7 : Cal l.prog w K mg base 7 "_law_take" ["state", "many"] (sp_law_take K) := ⟨f5, _, ok_law_take F5 M, b5, PySem.W.mg_of X G a5, k5⟩
  have C_law_take_6 : Cal l.prog w K mg base 6 "_law_take" ["state", "many"] (sp_law_take K) := ⟨f5, _, ok_law_take F5 M, b5, PySem.W.mg_of X G a5, k5⟩
  have C_law_drawn_step_7 : Cal l.prog w K mg base 7 "_law_drawn_step" ["state", "steps", "most"] (sp_law_drawn_step K) := ⟨f6, _, ok_law_drawn_step F6 M C_law_take_6, b6, PySem.W.mg_of X G a6, k6⟩
  have C_law_fits_7 : Cal l.prog w K mg base 7 "_law_fits" ["steps", "at"] (sp_law_fits K) := ⟨f7, _, ok_law_fits F7 M, b7, PySem.W.mg_of X G a7, k7⟩
  have C_law_changed_7 : Cal l.prog w K mg base 7 "_law_changed" ["state", "steps"] (sp_law_changed K) := ⟨f8, _, ok_law_changed F8 M C_law_take_6, b8, PySem.W.mg_of X G a8, k8⟩
  have C_name_earlier_4 : Cal l.prog w K mg base 4 "_name_earlier" ["drawing", "index", "named", "words"] (sp_name_earlier K) := ⟨f1, _, ok_name_earlier F1, b1, PySem.W.mg_of X G a1, k1⟩
  have C_well_formed_5 : Cal l.prog w K mg base 5 "_well_formed" ["drawing", "index", "step"] (sp_well_formed K) := ⟨f2, _, ok_well_formed F2 gT1 sT1 gT2 sT2 C_name_earlier_4, b2, PySem.W.mg_of X G a2, k2⟩
  have Gc := ok_check (P := l.prog) (w := w) (base := base) F3 M T1 (ok_init (k := 3) F11) b11 C_well_formed_5
  have C_law_told_7 : Cal l.prog w K mg base 7 "_law_told" ["drawing"] (sp_law_told) := ⟨f9, _, ok_law_told F9 M T1 W1 Gc (PySem.W.mg_of X G a3) k3 b3, b9, PySem.W.mg_of X G a9, k9⟩
  exact oklaw F10 M C_law_state_7 C_law_take_7 C_law_drawn_step_7 C_law_fits_7 C_law_changed_7 C_law_told_7
end KD
open PySem PySem.W PyProof.Rows
set_option maxRecDepth 100000 in
set_option maxHeartbeats 0 in
theorem PySem.Challenge.cw_compasswork_k17_well_formed_drawings_holds : PySem.Challenge.rw_compasswork_k17_well_formed_drawings.Holds := by
  w_on; o_law; k_head; (case hw => w_witness2)
  k_fill
  refine L2.walk_of (l := PySem.Challenge.rw_compasswork_k17_well_formed_drawings) (n := 63) (k := 8) (x := "script") (CX := fun _ => L2.CX0) (sp := fun w => KD.splaw _) rfl (by decide) rfl ⟨rfl, by decide, by decide⟩ (fun w h Y => PySem.W.kIn_of Y) ?F (fun _ _ a ns hl _ hS => ⟨a, ns, rfl, hS, hl, fun _ => rfl⟩) (fun _ _ _ _ _ h => h)
  case F =>
    intro w mg fa h KX G hmg
    refine' KD.all_mk KX G hmg ?a1 ?l1 ?c1 ?k1 ?a2 ?l2 ?c2 ?k2 ?a3 ?l3 ?c3 ?k3 ?a4 ?l4 ?c4 ?k4 ?a5 ?l5 ?c5 ?k5 ?a6 ?l6 ?c6 ?k6 ?a7 ?l7 ?c7 ?k7 ?a8 ?l8 ?c8 ?k8 ?a9 ?l9 ?c9 ?k9 ?a10 ?l10 ?c10 ?k10 ?x1_1 ?x1_2 ?x1_3 ?x1_4 ?x1_5 ?x1_6 ?x1_7 ?x1_8 ?x1_9 ?x1_10 ?x1_11 ?x1_12 ?x1_13 ?x1_14 ?x1_15 ?x1_16 ?x1_17 ?x1_18 ?x1_19 ?x1_20 ?x1_21 ?x1_22 ?x1_23 ?l11 ?c11 ?k11 ?z1 ?z2 ?z3 ?z4 ?z5 ?z6 ?z7 ?z8 ?z9 ?z10 ?y1_1 ?y1_2 ?y2_1 ?y2_2
    (case a1 => first | k_is | rfl)
    (case l1 => first | k_is | rfl)
    (case c1 => first | k_is | rfl)
    (case k1 => first | k_is | rfl)
    (case a2 => first | k_is | rfl)
    (case l2 => first | k_is | rfl)
    (case c2 => first | k_is | rfl)
    (case k2 => first | k_is | rfl)
    (case a3 => first | k_is | rfl)
    (case l3 => first | k_is | rfl)
    (case c3 => first | k_is | rfl)
    (case k3 => first | k_is | rfl)
    (case a4 => first | k_is | rfl)
    (case l4 => first | k_is | rfl)
    (case c4 => first | k_is | rfl)
    (case k4 => first | k_is | rfl)
    (case a5 => first | k_is | rfl)
    (case l5 => first | k_is | rfl)
    (case c5 => first | k_is | rfl)
    (case k5 => first | k_is | rfl)
    (case a6 => first | k_is | rfl)
    (case l6 => first | k_is | rfl)
    (case c6 => first | k_is | rfl)
    (case k6 => first | k_is | rfl)
    (case a7 => first | k_is | rfl)
    (case l7 => first | k_is | rfl)
    (case c7 => first | k_is | rfl)
    (case k7 => first | k_is | rfl)
    (case a8 => first | k_is | rfl)
    (case l8 => first | k_is | rfl)
    (case c8 => first | k_is | rfl)
    (case k8 => first | k_is | rfl)
    (case a9 => first | k_is | rfl)
    (case l9 => first | k_is | rfl)
    (case c9 => first | k_is | rfl)
    (case k9 => first | k_is | rfl)
    (case a10 => first | k_is | rfl)
    (case l10 => first | k_is | rfl)
    (case c10 => first | k_is | rfl)
    (case k10 => first | k_is | rfl)
    (case x1_1 => first | k_is | rfl)
    (case x1_2 => first | k_is | rfl)
    (case x1_3 => first | k_is | rfl)
    (case x1_4 => first | k_is | rfl)
    (case x1_5 => first | k_is | rfl)
    (case x1_6 => first | k_is | rfl)
    (case x1_7 => first | k_is | rfl)
    (case x1_8 => first | k_is | rfl)
    (case x1_9 => first | k_is | rfl)
    (case x1_10 => first | k_is | rfl)
    (case x1_11 => first | k_is | rfl)
    (case x1_12 => first | k_is | rfl)
    (case x1_13 => first | k_is | rfl)
    (case x1_14 => first | k_is | rfl)
    (case x1_15 => first | k_is | rfl)
    (case x1_16 => first | k_is | rfl)
    (case x1_17 => first | k_is | rfl)
    (case x1_18 => first | k_is | rfl)
    (case x1_19 => first | k_is | rfl)
    (case x1_20 => first | k_is | rfl)
    (case x1_21 => first | k_is | rfl)
    (case x1_22 => first | k_is | rfl)
    (case x1_23 => first | k_is | rfl)
    (case l11 => first | k_is | rfl)
    (case c11 => first | k_is | rfl)
    (case k11 => first | k_is | rfl)
    (case z1 => first | k_is | rfl)
    (case z2 => first | k_is | rfl)
    (case z3 => first | k_is | rfl)
    (case z4 => first | k_is | rfl)
    (case z5 => first | k_is | rfl)
    (case z6 => first | k_is | rfl)
    (case z7 => first | k_is | rfl)
    (case z8 => first | k_is | rfl)
    (case z9 => first | k_is | rfl)
    (case z10 => first | k_is | rfl)
    (case y1_1 => first | k_is | rfl)
    (case y1_2 => first | k_is | rfl)
    (case y2_1 => first | k_is | rfl)
    (case y2_2 => first | k_is | rfl)

